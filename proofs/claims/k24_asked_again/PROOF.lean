import PyProof.Rows.All
import Wide.All
import OpenK.AllK
import PySem.Challenge.RW_polyring_k24_asked_again
set_option Elab.async false
set_option linter.all false
set_option maxRecDepth 100000
set_option maxHeartbeats 4000000
set_option compiler.extract_closed false
set_option genSizeOf false
set_option hygiene false
def yp(a:List Lean.Term):Lean.Term:=Lean.Syntax.mkApp a.head! a.tail.toArray
def yf(h n u:Lean.Term)(s:String):Lean.Term:=yp ((s.splitOn " ").foldr (λw l=>match w,l with|")",l=>[]::l|"(",a::b::r=>(yp a::b)::r|w,l=>l.modifyHead ((if w=="?" then h else if w=="!" then n else if w=="_" then u else if w==".." then ⟨.node .none `Lean.Parser.Term.ellipsis #[.atom .none w]⟩ else Lean.mkIdent w.toName)::·)) [[]]).head!
local macro_rules|`(tactic|left)=>`(tactic|first|exact Or.inl rfl|exact Or.inr rfl|assumption|exact Or.inr (Or.inl rfl)|exact Or.inr (Or.inr rfl))
local macro_rules|`(tactic|right)=>`(tactic|repeat first|exact .nil|refine .cons (by rfl) (by rfl) (by left) (by left) ?_)
local macro_rules|`(⋯)=>`(by first|decide|lia)
local macro_rules|`(tactic|nofun)=>`(tactic|(rintro σ H Q ⟨μ,ρ,st,rs,sr,h⟩;refine go μ ρ st rs sr h λu st1 ρ1 H1 x e1 dM r1 h1=>?_))
local macro_rules|`(tactic|simp![$a,*])=>do
 let l<-("ar,aJ,aB,aL,aC,aP,aG,aF,aw,aH,av,bN,aY,aD,Vn,aO,Vi,Vs,Vo,aR,bf,bS,bb,bV,bh,Vm,VM,Vr,bt,bo,bH,VD,Vq,d9,b_,VH,ej,cK,gX,iX,gu,gH,ft,g9,ie,ju,kD,eI,jC,jB,jD,jg,p6,gE,jY,k_,p7,oE,q8,nu,kz,wt,Du,wu,wx,jZ,j0,Dw,wq,qY,qZ,BJ,oF,Ak,Dp,Dr,Al,pA,Jt,OE,Jn,Jr,EX,EY,vj,Ao,Ry,Jv,Jw,Nat.reduceAdd,Nat.reduceSub,Nat.reduceLeDiff".splitOn ",").toArray.mapM λs=>`(Lean.Parser.Tactic.simpLemma|$(Lean.mkIdent s.toName):ident)
 `(tactic|simp only[$l,*,↓reduceIte,$a,*])
set_option hygiene true
open PySem
noncomputable section
abbrev _c:=Value->Shared->Prop
abbrev _d:=Str->Option Value
abbrev _e:=List (Addr×Obj)
abbrev _g:=W.Frag
abbrev _h:=List Int
abbrev _i:=List Value
abbrev _j:=Option Value
abbrev _k:=List Addr
abbrev _l:=List Str
abbrev _m:=Value
abbrev _n:=Shared
abbrev _o:=Addr
abbrev _p:=Around
abbrev _q:=Program
variable {κ α β:Type}
variable {o tg iter value elt e₀:Expr}
variable {P:Program}
variable {h h':Heap}
variable {ob:Obj}
variable {ae:List (Addr×Obj)}
variable {s s₀:Shared}
variable {t' lo tk m k1 k2 kt d ep cF cP kF kP:Nat}
variable {ch fp ρ ρ':List Addr}
variable {j hi p g0 g1:Int}
variable {rest es ifs elts:List Expr}
variable {pos' qJ apos p2 cN tp q1 q2:Pos}
variable {vs aN:List Value}
variable {R B D v1 as u0 u1 v0 R0 U:_h}
variable {C dx i1 i2 c' fa:Addr}
variable {op:CmpOp}
variable {name:Str}
variable {doc iS oc cls:Value}
variable {an od:Option Addr}
variable {Ia:Array (Option Value)}
variable {items xs ys:Array Value}
variable {loose:List Str}
variable {bM cs:List Nat}
variable {tn:Nat->Heap->Prop}
variable {b1 b2:Bool}
variable {newId:String}
variable {Gs rows:List (_h)}
theorem NE(e:α):∃x,x=e:=⟨e,rfl⟩
theorem ZB(e:α):∃x,e=x:=⟨e,rfl⟩
def Vg.{u,v}:=@List.length_map.{u,v}
def Vh:=@wpAny_bind
def Vi.{u}:=@List.length_cons.{u}
def Vj.{u}:=@List.length_append.{u}
def Vk.{u}:=@List.getElem?_eq_getElem.{u}
def Vl:=@Heap.get?_push_of_some
def Vm.{u,v}:=@List.map_cons.{u,v}
def Vn.{u}:=@List.set_cons_zero.{u}
def Vo.{u}:=@List.set_cons_succ.{u}
def Vp:=@sizeLine_eq
def Vq.{u}:=@List.nil_append.{u}
def Vr.{u}:=@List.replicate_zero.{u}
def Vs.{u}:=@List.length_nil.{u}
def Vt:=@Nat.le_refl
def Vu.{u}:=@List.mem_cons_self.{u}
def Vv.{u}:=@if_pos.{u}
def Vx.{u}:=@List.mem_cons_of_mem.{u}
def Vy.{u,v}:=@List.getElem?_map.{u,v}
def Vz.{u}:=@List.mem_singleton.{u}
def VA.{u}:=@List.getD_eq_getElem?_getD.{u}
def VB.{u}:=@List.size_toArray.{u}
def VC.{u}:=@List.length_pos_iff.{u}
def VD.{u}:=@List.cons_append.{u}
def VE:=@wpAny_pure
def VF.{u}:=@List.mem_append.{u}
def VG.{u}:=@if_neg.{u}
def VH.{u}:=@List.replicate_succ.{u}
def VI:=@Heap.lt_size
def VJ.{u}:=@List.getElem?_eq_some_iff.{u}
def VM.{u,v}:=@List.map_nil.{u,v}
def VN.{u,v}:=@List.mem_map.{u,v}
def VO.{u}:=@List.length_singleton.{u}
def VP.{u}:=@Option.some.inj.{u}
def VQ.{u}:=@List.mem_append_right.{u}
def VR:=@Nat.lt_of_lt_of_le
def VS.{u,v}:=@List.map_append.{u,v}
def VT:=@Heap.get?_push_size
def VU:=@List.length_range
def VV.{u,v}:=@List.mem_map_of_mem.{u,v}
def VW:=@Bool.false_ne_true
def VX.{u}:=@List.mem_cons.{u}
def VY.{u}:=@List.append_assoc.{u}
def VZ:=@Nat.zero_add
def V0.{u}:=@List.length_replicate.{u}
def V1.{u,v,w}:=@List.map_map.{u,v,w}
def V2.{u}:=@List.getElem?_append_right.{u}
def V3.{u}:=@List.getElem?_append_left.{u}
def V4.{u}:=@Array.length_toList.{u}
def V5:=@decide_eq_false
def V7:=@Nat.ne_of_lt
def V8:=@decide_eq_true
def V9:=@Int.emod_eq_of_lt
def V_.{u}:=@List.mem_of_getElem?.{u}
def V!:=@Nat.le_trans
def V?.{u,v}:=@List.pairwise_map.{u,v}
def Wa.{u}:=@List.getElem?_eq_none.{u}
def Wb:=@Int.emod_add_mul_ediv
def Wc.{u}:=@List.append_nil.{u}
def Wd:=@Nat.zero_le
def We.{u}:=@List.mem_append_left.{u}
def Wg:=@List.getElem?_range
def Wh:=@Int.toNat_of_nonneg
def Wi:=@Int.mul_zero
def Wj:=@Int.mul_assoc
def Wk:=@Nat.lt_irrefl
def Wl:=@Heap.get?_update_other
def Wm:=@wpAny_field
def Wn.{u}:=@List.eq_nil_of_length_eq_zero.{u}
def Wq.{u}:=@List.drop_eq_getElem_cons.{u}
def Wr.{u,v}:=@Option.map_eq_some_iff.{u,v}
def Ws.{u}:=@List.length_set.{u}
def Wt:=@wpAny_newObj_type
def Wv.{u}:=@Array.getElem?_toList.{u}
def Ww:=@W.kia_one
def Wx:=@Nat.lt_or_ge
def Wy:=@Int.zero_mul
def Wz:=@mem_of_lookup
def WA:=@Int.mul_le_mul_of_nonneg_left
def WB.{u}:=@List.all_eq_true.{u}
def WC:=@wpAny_mono
def WD:=@F.slot_dict_keyiterator_next
def WE.{u,v}:=@congrArg.{u,v}
def WG:=@PyProof.Rows.callWith_type1
def WH:=@Obj.data_mapFields
def WJ.{u}:=@List.nodup_cons.{u}
def WK.{u}:=@Lean.Grind.Semiring.pow_succ.{u}
def WL:=@wpAny_callSpecial?_slot
def WM:=@of_decide_eq_true
def WN.{u}:=@List.pairwise_cons.{u}
def WO:=@Int.toNat_natCast
def WQ:=@Int.add_zero
def WR.{u}:=@List.pairwise_append.{u}
def WS:=@Int.one_mul
def WT.{u}:=@List.cons.inj.{u}
def WU.{u}:=@Ne.symm.{u}
def WV.{u}:=@List.getElem?_set_self.{u}
def WW:=@Int.emod_lt_of_pos
def WX.{u}:=@beq_eq_false_iff_ne.{u}
def WY:=@Int.mul_comm
def WZ:=@wpAny_call_entry
def W3:=@Nat.sub_self
def W4.{u}:=@List.getElem?_of_mem.{u}
def W5:=@Int.zero_add
def W6:=@PyProof.Rows.listItems_at
def W7.{u}:=@List.pairwise_singleton.{u}
def W8.{u}:=@List.getElem?_replicate.{u}
def W9.{u}:=@Lean.Grind.Semiring.pow_zero.{u}
def W_.{u}:=@List.take_of_length_le.{u}
def W!:=@Int.natCast_mul
def W?:=@Int.emod_nonneg
def W':=@Nat.ne_of_gt
def Xa:=@Int.mul_one
def Xb:=@Heap.get?_update_self
def Xc:=@Int.mul_le_mul_of_nonneg_right
def Xd:=@Bool.and_eq_true
def Xe.{u}:=@List.getElem?_set_ne.{u}
def Xf:=@Int.mul_add
def Xg:=@Nat.succ.inj
def Xh.{u,v}:=@List.length_zip.{u,v}
def Xi:=@Heap.SameBut.update
def Xj:=@wpAny_seqItems
def Xk.{u}:=@List.length_drop.{u}
def Xl.{u}:=@List.getElem_mem.{u}
def Xm.{u,v}:=@List.filterMap_cons_some.{u,v}
def Xn:=@wpAny_typeNameOfWhole_keyiter
def Xo:=@wpAny_setField_rec
def Xq:=@wpAny_passesOwn
def Xr.{u}:=@List.drop_eq_nil_of_le.{u}
def Xs:=@wpAny_holding
def Xt:=@Obj.isFreed_of_fields
def Xu:=@Nat.le_of_eq
def Xv:=@wpAny_truthy_bool
def Xw:=@Classical.byContradiction
def Xx.{u}:=@List.take_add_one.{u}
def Xy.{u}:=@List.flatten_cons.{u}
def Xz:=@wpAny_setField
def XA.{u,v}:=@List.of_mem_zip.{u,v}
def XC:=@Int.zero_emod
def XD:=@F.slot_tuple_iterator_next
def XE:=@Int.natCast_add
def XG:=@Int.dvd_of_emod_eq_zero
def XH.{u}:=@beq_self_eq_true.{u}
def XI.{u}:=@Array.getElem?_eq_getElem.{u}
def XJ:=@wpAny_typeNameOf_keyiter
def XM:=@decide_eq_true_eq
def XN:=@Nat.lt_succ_of_lt
def XO.{u}:=@List.mergeSort_perm.{u}
def XQ:=@PyProof.Rows.slot_tuple_getitem
def XR.{u,v}:=@List.getElem_map.{u,v}
def XS.{u}:=@List.any_cons.{u}
def XT:=@MeetsSeq3.plain_eq_loop
def XU.{u}:=@List.find?_cons.{u}
def XW:=@Bool.not_true
def XX.{u,v}:=@List.filterMap_cons_none.{u,v}
def XY:=@Int.neg_mul
def XZ:=@Int.mul_neg
def X0.{u}:=@List.ext_getElem?.{u}
def X1:=@Int.natCast_one
def X2:=@W.hideAll_get
def X3:=@call_meets
def X4:=@Int.mul_emod
def X5:=@Int.lt_or_le
def X6:=@List.mem_range
def X7:=@W.mg_of
def X8:=@F.args_tuple_add_2
def X9:=@Bool.false_or
def X_:=@wpAny_Call_Name_kw
def X!:=@F.entry_tuple_add
def X?:=@Nat.lt_succ_self
def Ya:=@Heap.size_push
def Yb.{u}:=@beq_iff_eq.{u}
def Yc:=@F.slot_tuple_add
def Yd:=@Nat.dvd_of_mod_eq_zero
def Ye.{u}:=@List.getElem?_drop.{u}
def Yf:=@PyProof.Rows.get?_update_seq
def Yg.{u,v}:=@List.filterMap_cons.{u,v}
def Yh:=@wpAny_attempt
def Yi.{u}:=@List.pairwise_iff_getElem.{u}
def Yj.{u}:=@List.getElem?_eq_none_iff.{u}
def Yk:=@Nat.pow_le_pow_right
def Yl.{u}:=@List.all_cons.{u}
def Ym.{u}:=@List.Perm.eq_of_pairwise.{u}
def Yn:=@Int.emod_emod_of_dvd
def Yo:=@Int.add_mul
def Yp.{u}:=@if_false.{u}
def Yq:=@codeAny_mono
def Yr:=@F.args_dict_keyiterator_next_1
def Ys.{u}:=@List.prefix_refl.{u}
def Yt.{u}:=@List.perm_middle.{u}
def Yu.{u}:=@List.pairwise_mergeSort.{u}
def Yv.{u}:=@List.not_mem_nil.{u}
def Yw.{u}:=@List.length_eq_zero_iff.{u}
def Yx:=@wpAny_execs_nil
def Yy:=@codeAny_builtin
def Yz:=@SeqAt.EqAt.same
def YA:=@F.entry_dict_keyiterator_next
def YB:=@F.slot_zip_next
def YC:=@Nat.lt_of_le_of_lt
def YD:=@Nat.eq_zero_or_pos
def YE:=@List.getElem_range
def YF:=@Bool.false_eq_true
def YG.{u}:=@List.mem_filter.{u}
def YH:=@wpAny_updateSeq_pair
def YI:=@or_false
def YJ:=@Nat.min_self
def YK:=@Nat.le_of_lt
def YL.{u}:=@List.eq_nil_or_concat.{u}
def YM.{u}:=@List.concat_eq_append.{u}
def YN:=@Int.sub_zero
def YO:=@Bool.not_eq_true'
def YQ:=@Nat.le_of_not_lt
def YR:=@Nat.le_add_right
def YS.{u}:=@List.perm_cons_erase.{u}
def YT.{u}:=@Array.toArray_toList.{u}
def YU:=@wpAny_standAt
def YV:=@wpAny_onRaise
def YW:=@wpAny_newList
def YX:=@Nat.log2_lt
def YY:=@Nat.le_succ
def YZ:=@Int.le_refl
def Y0:=@SeqAt.EqAt.str_int
def Y1:=@SeqAt.EqAt.int_str
def Y2:=@Nat.not_lt_zero
def Y3:=@Int.ediv_nonneg
def Y4:=@Bool.or_eq_true
def Y5:=@wpAny_pyIter_list
def Y6:=@wpAny_dictEntries
def Y7:=@slot_list_getitem
def Y8:=@seqIndex_neg
def Y9:=@Int.mul_nonneg
def Y_:=@Int.fmod_eq_emod_of_nonneg
def Y!:=@Int.add_mul_emod_self_left
def Y?:=@Bool.false_and
def Y':=@Bool.and_false
def Za:=@Nat.eq_of_mul_eq_mul_left
def Zb:=@wpAny_isInstance
def Zc:=@wpAny_eqBool_int
def Zd:=@noFill_tuple_add
def Ze.{u}:=@if_true.{u}
def Zf:=@PyProof.noPylong_of_log2
def Zg.{u}:=@List.nodup_append.{u}
def Zh.{u,v}:=@List.map_congr_left.{u,v}
def Zi:=@wpAny_letGo
def Zj:=@seqIndex_of
def Zk:=@F.plainAttrs_list
def Zl.{u,v}:=@List.map_drop.{u,v}
def Zm.{u}:=@List.eraseIdxIfInBounds_toArray.{u}
def Zn:=@wpAny_dictEpoch
def Zo:=@PyProof.Rows.listUpdate_at
def Zp:=@W.cellsFrom_some
def Zq:=@F.slot_dict_iter
def Zr:=@Nat.sub_zero
def Zs:=@Nat.mod_eq_zero_of_dvd
def Zt:=@Nat.lt_trans
def Zu.{u,v}:=@List.zip_cons_cons.{u,v}
def Zv.{u}:=@List.zipIdx_cons.{u}
def Zw.{u,v}:=@List.mem_filterMap.{u,v}
def Zx.{u}:=@List.length_take.{u}
def Zy.{u}:=@List.getElem_inj.{u}
def Zz.{u}:=@List.ext_getElem.{u}
def ZA.{u}:=@List.drop_length.{u}
def ZC:=@Int.dvd_refl
def ZD:=@F.args_tuple_iterator_next_1
def ZE:=@Bool.true_or
def ZF:=@F.type_list_pop
def ZG:=@F.slot_list_pop
def ZH:=@F.entry_tuple_iterator_next
def ZI:=@wpAny_rule
def ZJ.{u,v}:=@List.map_set.{u,v}
def ZK:=@Calls.Name_function_global
def ZL:=@Nat.mul_le_mul_left
def ZM:=@wpAny_getItem_list_slice
def ZN:=@wpAny_comprehension_free
def ZO:=@seq_tuple_add
def ZP:=@evalPart_none
def ZQ:=@SeqAt.RcAt.lists_lengths
def ZR:=@W.of_hideAll
def ZS:=@W.kitx_tuple
def ZT:=@Paired.length
def ZU:=@Int.natAbs_eq_zero
def ZV:=@list_append
def ZW:=@W.kitx_list
def ZX:=@W.kitx_dict
def ZY:=@Nat.mul_mod_right
def ZZ:=@Nat.lt_trichotomy
def Z0:=@MeetsSeq3.entry_eq_loop
def Z1:=@Int.mul_emod_left
def Z2:=@wpAny_pyNext_range_end
def Z3:=@wpAny_pyIter_rangeiter
def Z4:=@wpAny_getItem_list_neg
def Z5.{u,v,w}:=@getElem?_pos.{u,v,w}
def Z6:=@concat_meets
def Z7:=@SeqAt.ne_of_list_tuple
def Z8:=@IsL.update
def Z9:=@Nat.lt_log2_self
def Z_:=@Calls.callWith_builtin
def Z!.{u}:=@Array.size_setIfInBounds.{u}
def Z?:=@wpAny_isOneOf_keyiter
def Z'.{u}:=@List.mem_singleton_self.{u}
def _a.{u}:=@List.filter_cons_of_pos.{u}
def _b.{u}:=@List.filter_cons_of_neg.{u}
namespace L2
open PySem.Spec PyProof.Rows
abbrev fX:=Sum Int Str
def yu:fX->_m->Bool
 |.inl k,v=>Value.isInt k v
 |.inr x,v=>Value.isStrOf x v
def aa2(w:World):fX->Int
 |.inl k=>hashInt k
 |.inr x=>hashStr w x
theorem eJ:∀{k:fX}{v:_m},yu k v=true->(∃i t,k=Sum.inl i/\v=Value.int i t)\/(∃x t,k=Sum.inr x/\v=Value.str x t)
 |.inl i,v,h=>by obtain⟨t,e⟩:=Value.isInt_shape (k:=i) (v:=v) h;exact .inl ⟨i,t,rfl,e⟩
 |.inr x,v,h=>by obtain⟨t,e⟩:=Value.isStrOf_shape (x:=x) (v:=v) h;exact .inr ⟨x,t,rfl,e⟩
theorem FY(i:Int)(t:Tok):yu (.inl i) (.int i t)=true:=by simp[yu,Value.isInt]
theorem FZ(x:Str)(t:Tok):yu (.inr x) (.str x t)=true:=by simp[yu,Value.isStrOf]
theorem O9(a b:Int):decide ((Sum.inl a:fX)=Sum.inl b)=(a==b):=by grind
theorem O_(a b:Str):decide ((Sum.inr a:fX)=Sum.inr b)=decide (a=b):=by grind
theorem O!(a:Int)(b:Str):decide ((Sum.inl a:fX)=Sum.inr b)=false:=V5 (λq=>nomatch q)
theorem O?(a:Str)(b:Int):decide ((Sum.inr a:fX)=Sum.inl b)=false:=V5 (λq=>nomatch q)
def gw(prog:_q)(w:World):PySem.KeyKind prog w fX where
 is:=yu
 hash:=aa2 w
 inj:=λv a b ha hb=>by
  rcases eJ ha with⟨i,t,rfl,rfl⟩|⟨x,t,rfl,rfl⟩
  .rcases eJ hb with⟨j,u,rfl,e⟩|⟨y,u,rfl,e⟩
   .injection e with e1 _;rw[e1]
   .exact nomatch e
  .rcases eJ hb with⟨j,u,rfl,e⟩|⟨y,u,rfl,e⟩
   .exact nomatch e
   .injection e with e1 _;rw[e1]
 byValue:=λk v h=>by rcases eJ h with⟨i,t,rfl,rfl⟩|⟨x,t,rfl,rfl⟩<;>rfl
 pyHash:=λhv h=>by
  rcases eJ hv with⟨i,t,rfl,rfl⟩|⟨x,t,rfl,rfl⟩
  .exact wpAny_pyHash_int h
  .exact wpAny_pyHash_str h
 eqBool:=λhu hv h=>by
  rcases eJ hu with⟨i,t,rfl,rfl⟩|⟨x,t,rfl,rfl⟩
  .rcases eJ hv with⟨j,u,rfl,rfl⟩|⟨y,u,rfl,rfl⟩
   .rw[O9]at h;exact Zc h
   .rw[O!]at h;exact Y1 i t y u _ _ _ _ h
  .rcases eJ hv with⟨j,u,rfl,rfl⟩|⟨y,u,rfl,rfl⟩
   .rw[O?]at h;exact Y0 x t j u _ _ _ _ h
   .rw[O_]at h;exact wpAny_eqBool_str h
 «strs»:=λk x t v h=>by
  rcases eJ h with⟨i,u,rfl,e⟩|⟨y,u,rfl,e⟩
  .exact nomatch e
  .injection e with e1 _;subst e1;cases v<;>rfl
theorem Bc(prog:_q)(w:World)(i:Int)(t:Tok):(gw prog w).is (.inl i) (.int i t)=true:=FY i t
theorem Be(prog:_q)(w:World)(x:Str)(t:Tok):(gw prog w).is (.inr x) (.str x t)=true:=FZ x t
inductive V where
 |dj|bl (b:Bool)|int (i:Int)|str (x:Str)|byt (b:Array UInt8)|u? (b:UInt64)|ref (a:_o)|ty (n:String)
 deriving DecidableEq
def bW:V->_m->Prop
 |.dj,u=>u=Value.none
 |.bl b,u=>u=Value.bool b
 |.int i,u=>∃t,u=Value.int i t
 |.str x,u=>∃t,u=Value.str x t
 |.byt b,u=>∃t,u=Value.bytes b t
 |.u? b,u=>∃t,u=Value.float b t
 |.ref a,u=>u=Value.ref a
 |.ty n,u=>u=Value.type n
abbrev bx:List V->_i->Prop:=Paired bW
theorem bx.length{xs:List V}{us:_i}(r:bx xs us):xs.length=us.length:=ZT r
theorem bx.get:∀{xs:List V}{us:_i}{i:Nat}{x:V},bx xs us->xs[i]?=some x->∃u,us[i]?=some u/\bW x u
 |_,_,_,_,.nil,e=>by simp at e
 |_,_,0,_,.cons r _,e=>by simp at e;subst e;exact⟨_,rfl,r⟩
 |_,_,i+1,x,.cons _ t,e=>by obtain⟨u,h1,h2⟩:=bx.get (i:=i) (x:=x) t (by simpa using e);exact⟨u,by simpa using h1,h2⟩
theorem bx.set{x:V}{u:_m}(r:bW x u):∀{xs:List V}{us:_i}(i:Nat),bx xs us->bx (xs.set i x) (us.set i u)
 |_,_,_,.nil=>.nil
 |_,_,0,.cons _ t=>.cons r t
 |_,_,i+1,.cons q t=>.cons q (bx.set r i t)
theorem bx.append:∀{xs ys:List V}{us ws:_i},bx xs us->bx ys ws->bx (xs++ys) (us++ws)
 |_,_,_,_,.nil,s=>s
 |_,_,_,_,.cons r t,s=>.cons r (bx.append t s)
theorem bx.take:∀{xs:List V}{us:_i}(n:Nat),bx xs us->bx (xs.take n) (us.take n)
 |_,_,0,_=>.nil
 |_,_,_+1,.nil=>.nil
 |_,_,n+1,.cons r t=>.cons r (bx.take n t)
theorem bx.drop:∀{xs:List V}{us:_i}(n:Nat),bx xs us->bx (xs.drop n) (us.drop n)
 |_,_,0,r=>r
 |_,_,_+1,.nil=>.nil
 |_,_,n+1,.cons _ t=>bx.drop n t
def vM:Option V->_j->Prop
 |some v,some u=>bW v u
 |none,none=>True
 |_,_=>False
def KV:List (κ×V)->List (κ×_m)->Prop:=Paired λ(p:κ×V)(q:κ×_m)=>p.1=q.1/\bW p.2 q.2
def kV:fX->V
 |.inl i=>.int i
 |.inr x=>.str x
inductive HO where
  |lst (xs:List V)
  |tup (xs:List V)
  |dK (aW:List (fX×V))|dT (aW:List (List fX×V))
  |set (S:Int->Bool) (n:Nat)
  |ins (C dx:_o) (fs:List (Str×V))
  |own (x:_o)
  |xd (fs:List (Str×V))
  |met (f x:_o)
  |HQ (lo hi:Int)
  |lX (o:Obj) (u:HO)
  |xR (ps:Array _m)
  |ext (φ:Heap->Prop)
abbrev Hp:=_o->Option HO
def upd(H:Hp)(a:_o)(o:HO):Hp:=λb=>if b=a then some o else H b
theorem cC{H:Hp}{a:_o}{o:HO}:upd H a o a=some o:=by unfold upd;rw[Vv rfl]
theorem aS{H:Hp}{a b:_o}{o:HO}(h:b≠a):upd H a o b=H b:=by unfold upd;rw[VG h]
theorem Ts{H:Hp}{a b:_o}{o u:HO}(h:H a=some o)(h':H b=some u)(d:o≠u):a≠b:=by grind
theorem bA{H:Hp}{a b:_o}{o:HO}(h:H a=some o)(h':H b=none):a≠b:=by intro e;subst e;rw[h]at h';cases h'
section
variable(P:_q)(w:World)
def dR(H:Hp)(h:Heap)(a:_o):HO->Prop
 |.lst xs=>xs.length<=sizeLine/\∃(aN:_i)(n:Nat),bx xs aN/\h.get? a=some {cls:=.type "list",data:=.seq aN.toArray n}
 |.tup xs=>xs.length<=sizeLine/\∃aN:_i,bx xs aN/\IsTup h a aN.toArray
 |.dK aW=>aW.length<=sizeLine/\(a==sysModules)=false/\∃vs,KV aW vs/\h.DictOf (gw P w) a vs
 |.dT aW=>aW.length<=sizeLine/\(a==sysModules)=false/\∃xs:List (List fX×_o×_m),
   Paired (λ(p:List fX×V)(q:List fX×_o×_m)=>p.1=q.1/\H q.2.1=some (.tup (p.1.map kV))/\bW p.2 q.2.2) aW xs /\
   ∃o es ep,h.get? a=some o/\o.ExactDict/\o.data=.dict es ep/\es.toList=xs.map (entryOfKey (tupleKind (gw P w)))/\(xs.map (·.1)).Nodup
 |.set S n=>h.SetOf (intKind P w) a S n
 |.ins C dx fs=>H dx=some (.own a)/\fs.length<=1000/\dx≠a/\h.get? a=some (W.instObj C dx) /\
   ∃mA,h.Ns1 dx mA/\(∀f,vM (fs.lookup f) (mA f))/\PySem.Within mA (fs.map (·.1))
 |.own _=>∃o,h.get? a=some o
 |.xd fs=>∃mA,h.Ns1 a mA/\∀f,vM (fs.lookup f) (mA f)
 |.HQ lo hi=>∃t u v,h.get? a=some {cls:=.type "range",data:=.fields #[.int lo t,.int hi u,.int 1 v]}
 |.lX o u=>h.get? a=some o/\dR H h a u
 |.xR ps=>h.get? a=some {cls:=.none,data:=.fields ps}
 |.met f x=>h.get? a=some (W.methodObj (.ref f) (.ref x))
 |.ext φ=>φ h/\(∃o,h.get? a=some o)/\∀h1 h2:Heap,φ h1->(∀o,h1.get? a=some o->h2.get? a=some o)->φ h2
def m6(H:Hp)(h:Heap):Prop:=∀a o,H a=some o->dR P w H h a o
end
section
variable{w:World}{H H':Hp}{a:_o}{o:HO}
theorem dR.lt(x:dR P w H h a o):a<h.objs.size:=by
 cases o with
 |lst xs=>obtain⟨_,_,_,_,e⟩:=x;exact VI e
 |tup xs=>obtain⟨_,_,_,p⟩:=x;exact p.lt
 |dK aW=>obtain⟨_,_,_,_,o,_,_,e,_⟩:=x;exact VI e
 |dT aW=>obtain⟨_,_,_,_,o,_,_,e,_⟩:=x;exact VI e
 |set S n=>obtain⟨o,_,_,_,e,_⟩:=x;exact VI e
 |ins C dx fs=>obtain⟨_,_,_,e,_⟩:=x;exact VI e
 |own y=>obtain⟨_,e⟩:=x;exact VI e
 |xd fs=>obtain⟨_,⟨_,_,_,e,_⟩,_⟩:=x;exact VI e
 |HQ lo hi=>obtain⟨_,_,_,e⟩:=x;exact VI e
 |lX ob u=>obtain⟨e,_⟩:=x;exact VI e
 |xR ps=>exact VI (show h.get? a=some _ from x)
 |met f y=>exact VI (show h.get? a=some _ from x)
 |ext φ=>obtain⟨_,⟨_,e⟩,_⟩:=x;exact VI e
theorem Paired.O'{F G:α->β->Prop}:∀{l₁:List α}{l₂:List β},Paired F l₁ l₂->(∀a b,F a b->G a b)->Paired G l₁ l₂
 |_,_,.nil,_=>.nil
 |_,_,.cons r t,f=>.cons (f _ _ r) (Paired.O' t f)
theorem dR.uB(x:dR P w H h a o)(k:∀b u,(b=a\/H b=some (.own a))->h.get? b=some u->h'.get? b=some u)(ho:∀b,H b=some (.own a)->H' b=some (.own a))(ht:∀b xs,H b=some (.tup xs)->H' b=some (.tup xs)):dR P w H' h' a o:=by
 induction o with
 |lst xs=>obtain⟨z,aN,n,r,e⟩:=x;exact⟨z,aN,n,r,k _ _ (.inl rfl) e⟩
 |tup xs=>obtain⟨z,aN,r,ob,e,c⟩:=x;exact⟨z,aN,r,ob,k _ _ (.inl rfl) e,c⟩
 |dK aW=>obtain⟨z,y,vs,r,ob,es,ep,e,c⟩:=x;exact⟨z,y,vs,r,ob,es,ep,k _ _ (.inl rfl) e,c⟩
 |dT aW=>
  obtain⟨z,y,xs,r,ob,es,ep,e,c⟩:=x;exact⟨z,y,xs,Paired.O' r λp q z=>⟨z.1,ht _ _ z.2.1,z.2.2⟩,ob,es,ep,k _ _ (.inl rfl) e,c⟩
 |set S n=>obtain⟨ob,es,ep,t,e,c⟩:=x;exact⟨ob,es,ep,t,k _ _ (.inl rfl) e,c⟩
 |ins C dx fs=>
  obtain⟨d,z,ne,e,mA,⟨od,es,ep,e2,c⟩,r⟩:=x;exact⟨ho _ d,z,ne,k _ _ (.inl rfl) e,mA,⟨od,es,ep,k _ _ (.inr d) e2,c⟩,r⟩
 |own y=>obtain⟨ob,e⟩:=x;exact⟨ob,k _ _ (.inl rfl) e⟩
 |xd fs=>obtain⟨mA,⟨od,es,ep,e,c⟩,r⟩:=x;exact⟨mA,⟨od,es,ep,k _ _ (.inl rfl) e,c⟩,r⟩
 |HQ lo hi=>obtain⟨t,u,v,e⟩:=x;exact⟨t,u,v,k _ _ (.inl rfl) e⟩
 |lX ob u ih=>obtain⟨e,q⟩:=x;exact⟨k _ _ (.inl rfl) e,ih q⟩
 |xR ps=>
  have e:h.get? a=some {cls:=.none,data:=.fields ps}:=x;show h'.get? a=some {cls:=.none,data:=.fields ps};exact k a _ (.inl rfl) e
 |met f y=>
  have e:h.get? a=some (W.methodObj (.ref f) (.ref y)):=x;show h'.get? a=some (W.methodObj (.ref f) (.ref y));exact k a _ (.inl rfl) e
 |ext φ=>obtain⟨p,⟨o,e⟩,st⟩:=x;exact⟨st _ _ p λo q=>k _ _ (.inl rfl) q,⟨o,k _ _ (.inl rfl) e⟩,st⟩
theorem m6.lt(x:m6 P w H h)(e:H a=some o):a<h.objs.size:=(x a o e).lt
theorem m6.fresh(x:m6 P w H h)(e:h.objs.size<=a):H a=none:=by
 cases q:H a with
 |none=>rfl
 |some u=>exact absurd (VR (x.lt q) e) (Wk _)
theorem m6.kept(x:m6 P w H h)(k:∀b u,h.get? b=some u->h'.get? b=some u):m6 P w H h':=λa o e=>
 (x a o e).uB (λb u _ q=>k b u q) (λ_ q=>q) λ_ _ q=>q
theorem m6.laid(x:m6 P w H h)(k:∀b u,h.get? b=some u->h'.get? b=some u)(hp:h.objs.size<=a)(new:dR P w (upd H a o) h' a o):m6 P w (upd H a o) h':=λb u e=>by
 have hn:=x.fresh hp;by_cases hb:b=a
 .subst hb;rw[cC]at e;cases e;exact new
 .rw[aS hb]at e;exact(x b u e).uB (λc v _ q=>k c v q) (λc q=>by rw[aS (bA q hn)];exact q) λc xs q=>by rw[aS (bA q hn)];exact q
end
def Rd(H:Hp)(a:_o)(u:HO):Prop:=H a=some u\/∃o,H a=some (.lX o u)
theorem Rd.ok{w:World}{H:Hp}{a:_o}{u:HO}(r:Rd H a u)(x:m6 P w H h):dR P w H h a u:=by
 rcases r with r|⟨o,r⟩
 .exact x a u r
 .obtain⟨_,q⟩:=x a _ r;exact q
def Tt:Option HO->Prop
 |some (.lst _)=>True
 |some (.dK _)=>True
 |some (.dT _)=>True
 |some (.set _ _)=>True
 |some (.ins _ _ _)=>True
 |some (.ext _)=>True
 |_=>False
section
variable{w:World}{H:Hp}{x e:_o}{o':HO}
theorem m6.write(ok:m6 P w H h)(mu:Tt (H x))(he:e=x\/H e=some (.own x))(k:∀b u,b≠e->h.get? b=some u->h'.get? b=some u)(SV:∃u,h'.get? e=some u)(new:dR P w (upd H x o') h' x o'):m6 P w (upd H x o') h':=λb u q=>by
 have Tu:∀c y,H c=some (.own y)->c≠x:=λc y r z=>by subst z;rw[r]at mu;exact mu
 have aa3:∀c xs,H c=some (.tup xs)->c≠x:=λc xs r z=>by subst z;rw[r]at mu;exact mu
 by_cases hb:b=x
 .subst hb;rw[cC]at q;cases q;exact new
 .rw[aS hb]at q;by_cases Pa:b=e
  .have q':H b=some (.own x):=by
    rcases he with z|z
    .exact absurd (Pa.trans z) hb
    .rw[Pa];exact z
   rw[q]at q';cases q';obtain⟨v,hv⟩:=SV;exact⟨v,by rw[Pa];exact hv⟩
  .refine(ok b u q).uB (λc v hc r=>k c v ?_ r) (λc r=>by rw[aS (Tu c b r)];exact r) λc xs r=>by rw[aS (aa3 c xs r)];exact r
   rcases hc with rfl|hc
   .exact Pa
   .rintro rfl;rcases he with z|z
    .exact Tu c b hc z
    .rw[hc]at z;cases z;exact hb rfl
end
structure Un(fs ex:_k)(H H':Hp)(h h':Heap):Prop where
 keep:∀b o,h.get? b=some o->H b=none->b ∉ fs->b ∉ ex->h'.get? b=some o
 slot:∀b o,h.get? b=some o->H b=none->b∈fs->b ∉ ex->∃sl,h'.get? b=some {o with slots:=sl}
 free:∀b o,h.get? b=some o->H b=none->b ∉ ex->H' b=none
 there:∀b o,h.get? b=some o->b ∉ ex->∃o',h'.get? b=some o'
 qa:∀b xs,H b=some (.tup xs)->H' b=some (.tup xs)
 pO:∀b o u,H b=some (.lX o u)->H' b=some (.lX o u)
 qE:∀b ps,H b=some (.xR ps)->∃more,H' b=some (.xR (ps++more))
section
variable{fs HE ex ex':_k}{H H1 H2:Hp}{h1 h2:Heap}{a x e:_o}{o:HO}
theorem Un.any(u:Un fs ex H H1 h h1){b:_o}(q:h.get? b=some ob)(n:H b=none)(hx:b ∉ ex):∃sl,h1.get? b=some {ob with slots:=sl}:=by
 by_cases hb:b∈fs
 .exact u.slot b ob q n hb hx
 .exact⟨ob.slots,u.keep b ob q n hb hx⟩
theorem Un.kept(k:∀b u,h.get? b=some u->h'.get? b=some u):Un fs ex H H h h':=
 ⟨λb ob q _ _ _=>k b ob q,λb ob q _ _ _=>⟨ob.slots,k b ob q⟩,λ_ _ _ n _=>n,λb ob q _=>⟨ob,k b ob q⟩,λ_ _ q=>q,λ_ _ _ q=>q,λ_ ps q=>⟨#[],by rw[q];simp⟩⟩
theorem Un.refl:Un fs ex H H h h:=Un.kept λ_ _ q=>q
theorem Un.laid(k:∀b u,h.get? b=some u->h'.get? b=some u)(hp:h.objs.size<=a)(hn:H a=none):Un fs ex H (upd H a o) h h' where
 keep:=λb u q _ _ _=>k b u q
 slot:=λb u q _ _ _=>⟨u.slots,k b u q⟩
 free:=λb u q n _=>by rw[aS (V7 (VR (VI q) hp))];exact n
 there:=λb u q _=>⟨u,k b u q⟩
 qa:=λb xs q=>by rw[aS (bA q hn)];exact q
 pO:=λb u xs q=>by rw[aS (bA q hn)];exact q
 qE:=λb ps q=>⟨#[],by rw[aS (bA q hn),q];simp⟩
theorem Un.write(mu:Tt (H x))(he:e=x\/H e=some (.own x))(k:∀b u,b≠e->h.get? b=some u->h'.get? b=some u)(SV:∃u,h'.get? e=some u):Un fs ex H (upd H x o) h h':=by
 have hx:∀b,H b=none->b≠x:=λb n z=>by subst z;rw[n]at mu;exact mu
 have hb:∀b,H b=none->b≠e:=λb n z=>by
  subst z;rcases he with r|r
  .exact hx b n r
  .rw[n]at r;cases r
 have hm:∀b u,H b=some u->¬ Tt (some u)->b≠x:=λb u q nm z=>by subst z;rw[q]at mu;exact nm mu
 refine⟨λb u q n _ _=>k b u (hb b n) q,λb u q n _ _=>⟨u.slots,k b u (hb b n) q⟩,λb u q n _=>by rw[aS (hx b n)];exact n,λb u q _=>?_,
  λb xs q=>by rw[aS (hm b _ q λz=>z)];exact q,λb u xs q=>by rw[aS (hm b _ q λz=>z)];exact q,λb ps q=>⟨#[],by rw[aS (hm b _ q λz=>z),q];simp⟩⟩
 by_cases Pa:b=e
 .subst Pa;exact SV
 .exact⟨u,k b u Pa q⟩
end
def Bf(h:Heap)(H:Hp):_k:=(List.range h.objs.size).filter λa=>(H a).isSome
def xS(h:Heap)(H:Hp):Heap:=W.hideAll h (Bf h H)
theorem F_(h:Heap)(H:Hp):(xS h H).objs.size=h.objs.size:=W.hideAll_size _ _
theorem HR{H:Hp}{b:_o}{o:Obj}(e:h.get? b=some o)(n:H b=none):(xS h H).get? b=some o:=
 X2 _ e λhm=>by have q:(H b).isSome=true:=(YG.mp hm).2;rw[n]at q;simp at q
theorem LD{H:Hp}{b:_o}{o:Obj}(e:(xS h H).get? b=some o):h.get? b=some o/\H b=none:=by
 have e':h.get? b=some o:=ZR (Bf h H) e;refine⟨e',?_⟩;cases q:H b with
 |none=>rfl
 |some x=>
  have hm:b∈Bf h H:=YG.mpr ⟨X6.mpr (VI e'),by simp[q]⟩;have z:(xS h H).get? b=none:=W.hideAll_none (Bf h H) hm;rw[z]at e;cases e
structure Mod(K:_g)(mg:_d)(base:Heap):Prop where
 Tv:K.In base
 glob:base.Ns mainGlobals mg
 blt:∃mb,base.Ns builtinsNs mb/\∀x:Str,x ≠ "__name__" -> mb x=bootBuiltins x
 nolimit:base.NoLimit
structure Cx where
 prog:_q
 w:World
 K:_g
 mg:Str->_j
 base:Heap
 A:_p
 N:_l
 s₀:_n
 H₀:Hp
 env:Env
 outer:List Env
 stack:List Env
 ex:_k
 fn:Str->Bool
 calm:Bool
 pn:_e
 xe:_m->_n->Prop
def kR(l:List Env):_k:=l.filterMap (·.frame)
abbrev Cx.fs(X:Cx):_k:=kR X.outer
def Tw(sc:Scope)(x:Str):Prop:=sc.names.lookup x=some .local\/sc.names.lookup x=some .cell\/sc.names.lookup x=some .free
def Loc(sc:Scope)(x:Str):Prop:=sc.names.lookup x=some .local\/sc.names.lookup x=some .cell
def Look(env:Env)(h:Heap)(m:_d)(x:Str)(u:_m):Prop:=
 (env.kindOf x=some .local/\m x=some u)\/((env.kindOf x=some .cell\/env.kindOf x=some .free)/\∃c,env.cells.lookup x=some c/\h.IsCell c (some u))
structure Cx.Ok(X:Cx):Prop where
 mod:Mod X.K X.mg X.base
 kind:X.env.scope.kind=.function
 glob:X.env.globals=mainGlobals
 blt:X.env.builtins=builtinsNs
 above:X.s₀.heap.objs.size<=X.env.locals
 inj:∀x y c,X.env.cells.lookup x=some c->X.env.cells.lookup y=some c->x=y
 has:∀x,(X.env.kindOf x=some .cell\/X.env.kindOf x=some .free)->∃c,X.env.cells.lookup x=some c
 cab:∀x c,X.fn x=true->X.env.cells.lookup x=some c->X.s₀.heap.objs.size<=c
 hd:X.calm=true->X.A.handled=none
 frames:X.A.frames=some X.stack
 stk:X.stack=X.outer\/(X.stack=X.env::X.outer/\X.env.frame=some X.env.locals)
 exf:∀b∈X.ex,b≠X.env.locals/\∀x c,X.env.cells.lookup x=some c->c≠b
 bs:∀b o,X.base.get? b=some o->X.s₀.heap.get? b=some o/\X.H₀ b=none
 Pb:X.base.objs.size<=X.s₀.heap.objs.size
 LF:∀b o,X.base.get? b=some o->b ∉ X.ex
 Tx:∀b∈X.ex,b ∉ X.fs
 vN:X.s₀.heap.FunFrames X.base X.outer
 Od:∀b∈X.fs,X.H₀ b=none
structure a9(X:Cx)(ae:_e)(σ:List (Option V))(H:Hp)(s:_n):Prop where
 ok:X.Ok
 os:s.os=X.s₀.os
 bare:AllBare s.gens
 base:Un X.fs X.ex X.H₀ H X.s₀.heap s.heap
 loc:∃m,s.heap.Ns X.env.locals m/\∀(i:Nat)(x:Str)(v:V),X.N[i]?=some x->σ[i]?=some (some v)->Tw X.env.scope x->∃u,bW v u/\Look X.env s.heap m x u
 cell:∀x c,X.env.cells.lookup x=some c->∃v,s.heap.IsCell c v
 free:H X.env.locals=none
 qF:∀x c,X.env.cells.lookup x=some c->H c=none
 pin:∀p∈X.pn++ae,s.heap.get? p.1=some p.2/\H p.1=none/\p.1≠X.env.locals/\p.1 ∉ X.fs/\∀v,p.2.data≠.cell v
 dJ:m6 X.prog X.w H s.heap
 len:σ.length=X.N.length
section
variable{X:Cx}{σ:List (Option V)}{H H':Hp}
theorem Cx.Ok.aa4(ok:X.Ok){b:_o}{o:Obj}(e:X.base.get? b=some o):b ∉ X.fs:=λhb=>by have:=(ok.vN.mem hb).1;rw[e]at this;cases this
theorem a9.bs(I:a9 X ae σ H s):∀b o,X.base.get? b=some o->s.heap.get? b=some o/\H b=none:=λb o e=>
 ⟨I.base.keep b o (I.ok.bs b o e).1 (I.ok.bs b o e).2 (I.ok.aa4 e) (I.ok.LF b o e),I.base.free b o (I.ok.bs b o e).1 (I.ok.bs b o e).2 (I.ok.LF b o e)⟩
theorem a9.bk(I:a9 X ae σ H s):∀b o,X.base.get? b=some o->s.heap.get? b=some o:=λb o e=>(I.bs b o e).1
theorem a9.mod(I:a9 X ae σ H s):Mod X.K X.mg X.base:=I.ok.mod
theorem a9.A8(I:a9 X ae σ H s):X.K.In s.heap:=I.ok.mod.Tv.keeps I.bk
theorem a9.lt(I:a9 X ae σ H s):X.env.locals<s.heap.objs.size:=let⟨_,hn,_⟩:=I.loc;hn.lt
theorem a9.sz(I:a9 X ae σ H s):X.s₀.heap.objs.size<=s.heap.objs.size:=V! I.ok.above (YK I.lt)
theorem a9.aa5(I:a9 X ae σ H s){a:_o}(h:s.heap.objs.size<=a):a ∉ X.fs:=λhb=>by obtain⟨_,o,ho,_⟩:=I.ok.vN.mem hb;exact absurd (VR (VI ho) (V! I.sz h)) (Wk _)
theorem a9.Pc(I:a9 X ae σ H s):∀x c,X.env.cells.lookup x=some c->c≠X.env.locals:=λx c e z=>by obtain⟨v,o,ho,hd⟩:=I.cell x c e;obtain⟨m,⟨o',es,ep,xT,hd',_⟩,_⟩:=I.loc;rw[z,xT]at ho;cases ho;rw[hd']at hd;cases hd
theorem a9.vN(I:a9 X ae σ H s):s.heap.FunFrames X.base X.outer:=by
 have all:∀(l:List Env),(∀b∈kR l,b∈X.fs)->X.s₀.heap.FunFrames X.base l->s.heap.FunFrames X.base l:=by
  intro l
  induction l with
  |nil=>intro _ _;trivial
  |cons env r ih=>
   intro hs hl;obtain⟨hk,⟨L,o,hf,hn,ho,hd⟩,hr⟩:=hl;have hL:L∈X.fs:=hs L (by unfold kR;rw[Yg,hf];exact Vu);obtain⟨sl,e⟩:=I.base.slot L o ho (I.ok.Od L hL) hL λz=>I.ok.Tx L z hL;exact⟨hk,⟨L,_,hf,hn,e,hd⟩,ih (λb hb=>hs b (by unfold kR;rw[Yg,hf];exact Vx _ hb)) hr⟩
 exact all X.outer (λ_ hb=>hb) I.ok.vN
theorem a9.stack(I:a9 X ae σ H s):s.heap.FunFrames X.base X.stack:=by
 rcases I.ok.stk with e|⟨e,hf⟩
 .rw[e];exact I.vN
 .rw[e];obtain⟨m,hn,_⟩:=I.loc;refine .cons (by rw[I.ok.kind];decide) hf hn ?_ I.vN;exact Heap.get?_none_of_le (V! I.ok.Pb I.ok.above)
theorem a9.zN(I:a9 X ae σ H s):∀b∈kR X.stack,b∈X.env.locals::X.fs:=λb hb=>by
 rcases I.ok.stk with e|⟨e,hf⟩
 .rw[e]at hb;exact Vx _ hb
 .rw[e]at hb;unfold kR at hb;rw[Yg,hf]at hb;exact hb
theorem a9.zO(I:a9 X ae σ H s):∀b∈kR X.stack,H b=none:=λb hb=>by
 rcases VX.mp (I.zN b hb)with e|hb
 .rw[e];exact I.free
 .obtain⟨_,o,ho,_⟩:=I.ok.vN.mem hb;exact I.base.free b o ho (I.ok.Od b hb) λz=>I.ok.Tx b z hb
theorem a9.step{g':Array GenState}{t':Nat}{d':Drawn}(I:a9 X ae σ H s)(Ll:∀b∈ch,(b∈X.ex\/X.s₀.heap.objs.size<=b)/\b≠X.env.locals/\(∀x c,X.env.cells.lookup x=some c->c≠b)/\∀p∈X.pn++ae,p.1≠b)(keep:∀b o,b≠X.env.locals->b ∉ X.fs->b ∉ ch->s.heap.get? b=some o->H b=none->h'.get? b=some o)(slot:∀b o,b≠X.env.locals->b∈X.fs->b ∉ ch->s.heap.get? b=some o->H b=none->∃sl,h'.get? b=some {o with slots:=sl})(free:∀b o,b ∉ ch->s.heap.get? b=some o->H b=none->H' b=none)(there:∀b o,b ∉ ch->s.heap.get? b=some o->∃o',h'.get? b=some o')(qa:∀b xs,H b=some (.tup xs)->H' b=some (.tup xs))(pO:∀b o u,H b=some (.lX o u)->H' b=some (.lX o u))(qE:∀b ps,H b=some (.xR ps)->∃more,H' b=some (.xR (ps++more)))(ns:∀m,s.heap.Ns X.env.locals m->h'.Ns X.env.locals m)(dJ:m6 X.prog X.w H' h')(hg:AllBare g'):
  a9 X ae σ H' {s with heap:=h',gens:=g',drawn:=d',toks:=t'}:=by
 have neL:∀b o,X.s₀.heap.get? b=some o->b≠X.env.locals:=λb o e=>V7 (VR (VI e) I.ok.above);have neC:∀b o,X.s₀.heap.get? b=some o->b ∉ X.ex->b ∉ ch:=λb o e hx hb=>by
  rcases(Ll b hb).1 with z|z
  .exact hx z
  .exact absurd (VR (VI e) z) (Wk _)
 have cellK:∀x c,X.env.cells.lookup x=some c->∀v,s.heap.IsCell c v->h'.IsCell c v:=λx c e v⟨o,ho,hd⟩=>by
  have Tz:c ∉ ch:=λz=>(Ll c z).2.2.1 x c e rfl;by_cases hc:c∈X.fs
  .obtain⟨sl,q⟩:=slot c o (I.Pc x c e) hc Tz ho (I.qF x c e);exact⟨_,q,hd⟩
  .exact⟨o,keep c o (I.Pc x c e) hc Tz ho (I.qF x c e),hd⟩
 refine⟨I.ok,I.os,hg,⟨λb o e n hb hx=>?_,λb o e n hb hx=>?_,λb o e n hx=>?_,λb o e hx=>?_,λb xs e=>qa b xs (I.base.qa b xs e),λb o xs e=>pO b o xs (I.base.pO b o xs e),λb ps e=>?_⟩,?_,λx c e=>?_,?_,λx c e=>?_,λp hp=>?_,dJ,I.len⟩
 .exact keep b o (neL b o e) hb (neC b o e hx) (I.base.keep b o e n hb hx) (I.base.free b o e n hx)
 .obtain⟨sl,e1⟩:=I.base.slot b o e n hb hx;obtain⟨Pd,e2⟩:=slot b _ (neL b o e) hb (neC b o e hx) e1 (I.base.free b o e n hx);exact⟨Pd,e2⟩
 .obtain⟨o',e1⟩:=I.base.there b o e hx;exact free b o' (neC b o e hx) e1 (I.base.free b o e n hx)
 .obtain⟨o',e1⟩:=I.base.there b o e hx;exact there b o' (neC b o e hx) e1
 .obtain⟨m1,e1⟩:=I.base.qE b ps e;obtain⟨m2,e2⟩:=qE b _ e1;exact⟨m1++m2,by rw[e2,Array.append_assoc]⟩
 .obtain⟨m,hn,hl⟩:=I.loc;refine⟨m,ns m hn,λi x v e1 e2 e3=>?_⟩;obtain⟨u,r,l⟩:=hl i x v e1 e2 e3;refine⟨u,r,?_⟩;rcases l with l|⟨k,c,e,z⟩
  .exact .inl l
  .exact .inr ⟨k,c,e,cellK x c e _ z⟩
 .obtain⟨v,z⟩:=I.cell x c e;exact⟨v,cellK x c e v z⟩
 .obtain⟨m,⟨o,_,_,ho,_⟩,_⟩:=I.loc;exact free _ o (λz=>(Ll _ z).2.1 rfl) ho I.free
 .obtain⟨v,o,ho,hd⟩:=I.cell x c e;exact free c o (λz=>(Ll c z).2.2.1 x c e rfl) ho (I.qF x c e)
 .obtain⟨e,n,ne,nf,d⟩:=I.pin p hp;have Tz:p.1 ∉ ch:=λz=>(Ll p.1 z).2.2.2 p hp rfl;exact⟨keep p.1 p.2 ne nf Tz e n,free p.1 p.2 Tz e n,ne,nf,d⟩
theorem a9.un{t':Nat}(I:a9 X ae σ H s)(u:Un X.fs [] H H' s.heap h')(dJ:m6 X.prog X.w H' h'):a9 X ae σ H' {s with heap:=h',toks:=t'}:=by
 obtain⟨m,⟨o,es,ep,ho,r⟩,_⟩:=id I.loc;obtain⟨sl,hL⟩:=u.any ho I.free (by simp);exact I.step (g':=s.gens) (d':=s.drawn) (ch:=[]) (λ_ z=>nomatch z) (λb o _ hb _ e n=>u.keep b o e n hb (by simp)) (λb o _ hb _ e n=>u.slot b o e n hb (by simp)) (λb o _ e n=>u.free b o e n (by simp)) (λb o _ e=>u.there b o e (by simp)) u.qa u.pO u.qE (λm' hm=>by
  obtain⟨o',qx,ep',xT,r'⟩:=hm;rw[ho]at xT;cases xT;exact⟨_,qx,ep',hL,r'⟩) dJ I.bare
theorem a9.call{g':Array GenState}{t':Nat}{d':Drawn}(I:a9 X ae σ H s)(u:Un (kR X.stack) ch H H' s.heap h')(dJ:m6 X.prog X.w H' h')(hg:AllBare g')(Ll:∀b∈ch,(b∈X.ex\/X.s₀.heap.objs.size<=b)/\b≠X.env.locals/\(∀x c,X.env.cells.lookup x=some c->c≠b)/\∀p∈X.pn++ae,p.1≠b):
  a9 X ae σ H' {s with heap:=h',gens:=g',drawn:=d',toks:=t'}:=by
 obtain⟨m,⟨o,es,ep,ho,r⟩,_⟩:=id I.loc;obtain⟨sl,hL⟩:=u.any ho I.free λz=>(Ll _ z).2.1 rfl;exact I.step (ch:=ch) Ll (λb o hL hb hc e n=>u.keep b o e n (λz=>(VX.mp (I.zN b z)).elim hL hb) hc) (λb o _ _ hc e n=>u.any e n hc) (λb o hc e n=>u.free b o e n hc) (λb o hc e=>u.there b o e hc) u.qa u.pO u.qE (λm' hm=>by
  obtain⟨o',qx,ep',xT,r'⟩:=hm;rw[ho]at xT;cases xT;exact⟨_,qx,ep',hL,r'⟩) dJ hg
theorem a9.turned{t':Nat}{it:_o}(I:a9 X ae σ H s)(k:∀b o,b≠it->s.heap.get? b=some o->h'.get? b=some o)(hn:H it=none)(hL:it≠X.env.locals)(h1:it∈X.ex\/X.s₀.heap.objs.size<=it)(h2:∀x c,X.env.cells.lookup x=some c->c≠it)(h3:∀p∈X.pn++ae,p.1≠it):a9 X ae σ H {s with heap:=h',toks:=t'}:=by
 have nit:∀b u,H b=some u->b≠it:=λb u e z=>by rw[z,hn]at e;cases e
 refine I.step (g':=s.gens) (d':=s.drawn) (ch:=[it]) (λb hb=>?_) (λb o _ _ hc e _=>k b o (λz=>hc (by simp[z])) e) (λb o _ _ hc e _=>⟨o.slots,k b o (λz=>hc (by simp[z])) e⟩) (λ_ _ _ _ n=>n)
  (λb o hc e=>⟨o,k b o (λz=>hc (by simp[z])) e⟩) (λ_ _ e=>e) (λ_ _ _ e=>e) (λb ps e=>⟨#[],by rw[e];simp⟩) (λm hm=>?_) (λb u e=>?_) I.bare
 .have e:b=it:=by simpa using hb
  subst e;exact⟨h1,hL,h2,h3⟩
 .obtain⟨o,es,ep,ho,r⟩:=hm;exact⟨o,es,ep,k _ o (WU hL) ho,r⟩
 .refine(I.dJ b u e).uB (λc v hc q=>k c v ?_ q) (λ_ q=>q) λ_ _ q=>q;rcases hc with z|z
  .rw[z];exact nit b u e
  .exact nit c _ z
theorem a9.tok(I:a9 X ae σ H s)(t:Nat):a9 X ae σ H {s with toks:=t}:=I.un (h':=s.heap) (t':=t) Un.refl I.dJ
theorem a9.kept{t':Nat}(I:a9 X ae σ H s)(k:∀b u,s.heap.get? b=some u->h'.get? b=some u):a9 X ae σ H {s with heap:=h',toks:=t'}:=I.un (Un.kept k) (I.dJ.kept k)
theorem a9.laid{a:_o}{o:HO}{t':Nat}(I:a9 X ae σ H s)(k:∀b u,s.heap.get? b=some u->h'.get? b=some u)(hp:s.heap.objs.size<=a)(new:dR X.prog X.w (upd H a o) h' a o):
  a9 X ae σ (upd H a o) {s with heap:=h',toks:=t'}:=I.un (Un.laid k hp (I.dJ.fresh hp)) (I.dJ.laid k hp new)
theorem a9.write{x e:_o}{o:HO}{t':Nat}(I:a9 X ae σ H s)(mu:Tt (H x))(he:e=x\/H e=some (.own x))(k:∀b u,b≠e->s.heap.get? b=some u->h'.get? b=some u)(SV:∃u,h'.get? e=some u)(new:dR X.prog X.w (upd H x o) h' x o):a9 X ae σ (upd H x o) {s with heap:=h',toks:=t'}:=I.un (Un.write mu he k SV) (I.dJ.write mu he k SV new)
theorem a9.qG{Oe:_e}(I:a9 X ae σ H s)(h:∀p∈Oe,s.heap.get? p.1=some p.2/\H p.1=none/\p.1≠X.env.locals/\p.1 ∉ X.fs/\∀v,p.2.data≠.cell v):a9 X Oe σ H s:=
 ⟨I.ok,I.os,I.bare,I.base,I.loc,I.cell,I.free,I.qF,λp hp=>(VF.mp hp).elim (λz=>I.pin p (We _ z)) (h p),I.dJ,I.len⟩
theorem Bg{N:_l}(hN:N.Nodup){i j:Nat}{x:Str}(a:N[i]?=some x)(b:N[j]?=some x):i=j:=by obtain⟨h1,e1⟩:=VJ.mp a;obtain⟨h2,e2⟩:=VJ.mp b;exact(Zy hN).mp (e1.trans e2.symm)
theorem yw{M:Model}{A:_p}{E:_c}{i:Nat}{x:Str}{v:V}{u:_m}{Q:Unit->_n->Prop}(I:a9 X ae σ H s)(hN:X.N.Nodup)(hi:X.N[i]?=some x)(hx:Loc X.env.scope x)(r:bW v u)(h:∀s',a9 X ae (σ.set i (some v)) H s'->(∃a,Heap.SameBut a s.heap s'.heap/\(a=X.env.locals\/X.env.cells.lookup x=some a))->Q () s')(hf:X.fn x=true\/X.env.scope.names.lookup x=some .local:=by left):wpAny M A (storeName X.env x u) Q E s:=by
 obtain⟨m,hn,hl⟩:=id I.loc;have aa6:(X.env.scope.kind == .class || (X.env.scope.kind == .module&&X.env.locals !=X.env.globals))=false:=by rw[I.ok.kind];rfl
 have TB:i<σ.length:=by rw[I.len];exact(VJ.mp hi).1
 have Pc:=I.Pc;have tracked:∀{a:_o}{h':Heap},(∃o,s.heap.get? a=some o/\H a=none)->Heap.SameBut a s.heap h'->m6 X.prog X.w H h':=λ{a h'}ha hs b ob e=>by
  obtain⟨_,_,Ep⟩:=ha;refine(I.dJ b ob e).uB (λc w' hc q=>(hs.2 c ?_).trans q) (λ_ q=>q) λ_ _ q=>q;rintro rfl;rcases hc with rfl|hc
  .rw[Ep]at e;cases e
  .rw[Ep]at hc;cases hc
 rcases hx with hk|hk
 .refine wpAny_storeName_local hk hn (λh' Pe hs=>?_) aa6;obtain⟨oL,_,_,Of,_⟩:=id hn;refine h _ ⟨I.ok,I.os,I.bare,⟨λb o e n hb hx=>?_,λb o e n hb hx=>?_,I.base.free,λb o e hx=>?_,I.base.qa,I.base.pO,I.base.qE⟩,⟨_,Pe,λj y v' e1 e2 e3=>?_⟩,λy c e=>?_,I.free,I.qF,λp hp=>?_,tracked ⟨oL,Of,I.free⟩ hs,by simpa using I.len⟩ ⟨_,hs,.inl rfl⟩
  .exact(hs.2 b (V7 (VR (VI e) I.ok.above))).trans (I.base.keep b o e n hb hx)
  .obtain⟨sl,e1⟩:=I.base.slot b o e n hb hx;exact⟨sl,(hs.2 b (V7 (VR (VI e) I.ok.above))).trans e1⟩
  .obtain⟨o',e1⟩:=I.base.there b o e hx;exact⟨o',(hs.2 b (V7 (VR (VI e) I.ok.above))).trans e1⟩
  .by_cases hj:j=i
   .subst hj;rw[hi]at e1;cases e1;rw[WV TB]at e2;cases e2;exact⟨u,r,.inl ⟨hk,by simp⟩⟩
   .rw[Xe (WU hj)]at e2;obtain⟨u',r',q⟩:=hl j y v' e1 e2 e3;refine⟨u',r',?_⟩;rcases q with⟨k,e⟩|⟨k,c,e,z⟩
    .refine .inl ⟨k,?_⟩;have:y≠x:=λe=>hj (Bg hN e1 (e▸hi));simp[this,e]
    .exact .inr ⟨k,c,e,z.sameBut hs (Pc y c e)⟩
  .obtain⟨w',z⟩:=I.cell y c e;exact⟨w',z.sameBut hs (Pc y c e)⟩
  .obtain⟨e,n,ne,nf,d⟩:=I.pin p hp;exact⟨(hs.2 p.1 ne).trans e,n,ne,nf,d⟩
 .have hfn:X.fn x=true:=by
   rcases hf with z|z
   .exact z
   .rw[z]at hk;cases hk
  obtain⟨c,hc⟩:=I.ok.has x (.inl hk);obtain⟨w',z⟩:=I.cell x c hc;refine wpAny_storeName_cell I.ok.kind hk hc z (λh' fi hs=>?_);obtain⟨oc,TC,aa7⟩:=id z;refine h {s with heap:=h'} ⟨I.ok,I.os,I.bare,⟨λb o e n hb hx=>?_,λb o e n hb hx=>?_,I.base.free,λb o e hx=>?_,I.base.qa,I.base.pO,I.base.qE⟩,⟨m,hn.sameBut hs (WU (Pc x c hc)),λj y v' e1 e2 e3=>?_⟩,λy c' e=>?_,I.free,I.qF,λp hp=>?_,tracked ⟨oc,TC,I.qF x c hc⟩ hs,by simpa using I.len⟩ ⟨c,hs,.inr hc⟩
  .exact(hs.2 b (V7 (VR (VI e) (I.ok.cab x c hfn hc)))).trans (I.base.keep b o e n hb hx)
  .obtain⟨sl,e1⟩:=I.base.slot b o e n hb hx;exact⟨sl,(hs.2 b (V7 (VR (VI e) (I.ok.cab x c hfn hc)))).trans e1⟩
  .obtain⟨o',e1⟩:=I.base.there b o e hx;exact⟨o',(hs.2 b (V7 (VR (VI e) (I.ok.cab x c hfn hc)))).trans e1⟩
  .by_cases hj:j=i
   .subst hj;rw[hi]at e1;cases e1;rw[WV TB]at e2;cases e2;exact⟨u,r,.inr ⟨.inl hk,c,hc,fi⟩⟩
   .rw[Xe (WU hj)]at e2;obtain⟨u',r',q⟩:=hl j y v' e1 e2 e3;refine⟨u',r',?_⟩;rcases q with q|⟨k,c',e,z'⟩
    .exact .inl q
    .refine .inr ⟨k,c',e,z'.sameBut hs ?_⟩;rintro rfl;exact hj (Bg hN e1 (I.ok.inj _ _ _ e hc▸hi))
  .by_cases hcc:c'=c
   .subst hcc;exact⟨_,fi⟩
   .obtain⟨w2,z2⟩:=I.cell y c' e;exact⟨w2,z2.sameBut hs hcc⟩
  .obtain⟨e,n,ne,nf,d⟩:=I.pin p hp;refine⟨(hs.2 p.1 ?_).trans e,n,ne,nf,d⟩;intro q;rw[q,TC]at e;have q':oc=p.2:=VP e;exact d w' (by rw[<-q'];exact aa7)
theorem vO{M:Model}{A:_p}{E:_c}{i:Nat}{x:Str}{v:V}{u:_m}{Q:Unit->_n->Prop}(I:a9 X ae σ H s)(hN:X.N.Nodup)(hi:X.N[i]?=some x)(hx:Loc X.env.scope x)(r:bW v u)(h:∀s',a9 X ae (σ.set i (some v)) H s'->Q () s')(hf:X.fn x=true\/X.env.scope.names.lookup x=some .local:=by left):wpAny M A (storeName X.env x u) Q E s:=
 yw I hN hi hx r (λs' I' _=>h s' I') hf
theorem a9.Er{s':_n}(I:a9 X ae σ H s)(ho:s'.os=s.os)(u:Un (kR X.stack) ch H H' s.heap s'.heap)(dJ:m6 X.prog X.w H' s'.heap)(hg:AllBare s'.gens)(Ll:∀b∈ch,(b∈X.ex\/X.s₀.heap.objs.size<=b)/\b≠X.env.locals/\(∀x c,X.env.cells.lookup x=some c->c≠b)/\∀p∈X.pn++ae,p.1≠b):a9 X ae σ H' s':=by obtain⟨h',g',d',t',o'⟩:=s';have e:o'=s.os:=ho;subst e;exact I.call (g':=g') (t':=t') (d':=d') u dJ hg Ll
end
abbrev XK:=_m->Option _o->Hp->Prop
abbrev St:=List (Option V)
abbrev VK:=V->Hp->Prop
abbrev TE:=St->Hp->VK->Prop
abbrev TT:=St->Hp->(Bool->Hp->Prop)->Prop
abbrev TA:=St->Hp->(List V->Hp->Prop)->Prop
structure Ends where
 nx:St->Hp->Prop
 rt:VK
 bk:St->Hp->Prop:=λ_ _=>False
 ct:St->Hp->Prop:=λ_ _=>False
abbrev TS:=Ends->St->Hp->Prop
def EP(X:Cx)(ae:_e)(σ:St)(Q:VK)(u:_m)(s':_n):Prop:=∃v H',a9 X ae σ H' s'/\bW v u/\Q v H'
def TP(X:Cx)(ae:_e)(σ:St)(Q:Bool->Hp->Prop)(b:Bool)(s':_n):Prop:=∃H',a9 X ae σ H' s'/\Q b H'
def AP(X:Cx)(ae:_e)(σ:St)(Q:List V->Hp->Prop)(us:_i)(s':_n):Prop:=∃vs H',a9 X ae σ H' s'/\bx vs us/\Q vs H'
def SP(X:Cx)(ae:_e)(D:Ends)(f:Flow)(s':_n):Prop:=
 match f with
 |.next=>∃σ' H',a9 X ae σ' H' s'/\D.nx σ' H'
 |.brk=>∃σ' H',a9 X ae σ' H' s'/\D.bk σ' H'
 |.cont=>∃σ' H',a9 X ae σ' H' s'/\D.ct σ' H'
 |.ret u=>∃v σ' H',a9 X ae σ' H' s'/\bW v u/\D.rt v H'
def PE(X:Cx)(e:Expr)(t:TE):Prop:=
 ∀(ae:_e)(s:_n)(σ:St)(H:Hp)(Q:VK),a9 X ae σ H s->t σ H Q->wpAny (model X.prog X.w) X.A (eval e X.env) (EP X ae σ Q) X.xe s
def PT(X:Cx)(e:Expr)(t:TT):Prop:=
 ∀(ae:_e)(s:_n)(σ:St)(H:Hp)(Q:Bool->Hp->Prop),a9 X ae σ H s->t σ H Q->wpAny (model X.prog X.w) X.A (isTrue e X.env (eval e X.env)) (TP X ae σ Q) X.xe s
def PW(X:Cx)(e:Expr)(t:TT):Prop:=
 ∀(whole:Sem _m)(ae:_e)(s:_n)(σ:St)(H:Hp)(Q:Bool->Hp->Prop),a9 X ae σ H s->t σ H Q->wpAny (model X.prog X.w) X.A (isTrue e X.env whole) (TP X ae σ Q) X.xe s
theorem PW.pt{X:Cx}{e:Expr}{t:TT}(h:PW X e t):PT X e t:=h _
def PA(X:Cx)(es:List Expr)(t:TA):Prop:=
 ∀(pos:Pos)(ae:_e)(s:_n)(σ:St)(H:Hp)(Q:List V->Hp->Prop),a9 X ae σ H s->t σ H Q->wpAny (model X.prog X.w) X.A (spliced (backTo pos (starEach es X.env))) (AP X ae σ Q) X.xe s
def PS(X:Cx)(st:Stmt)(t:TS):Prop:=
 ∀(ae:_e)(s:_n)(σ:St)(H:Hp)(D:Ends),a9 X ae σ H s->t D σ H->wpAny (model X.prog X.w) X.A (exec st X.env) (SP X ae D) X.xe s
def pY(X:Cx)(st:List Stmt)(t:TS):Prop:=
 ∀(ae:_e)(s:_n)(σ:St)(H:Hp)(D:Ends),a9 X ae σ H s->t D σ H->wpAny (model X.prog X.w) X.A (execs st X.env) (SP X ae D) X.xe s
theorem fv{t:Sem α}{Q Q':α->_n->Prop}{M:Model}{A:_p}{E:_c}(h:wpAny M A t Q E s)(hQ:∀a s,Q a s->Q' a s):wpAny M A t Q' E s:=WC h hQ λ_ _ x=>x
section
variable{X:Cx}
def aa8(i:Nat):TE:=λσ H Q=>∃v,σ[i]?=some (some v)/\Q v H
def tC(v:V):TE:=λ_ H Q=>Q v H
theorem Pf{i:Nat}{x:Str}{pos:Pos}(hN:X.N[i]?=some x)(hv:Tw X.env.scope x)(hd:(x==("__debug__":Str))=false:=by decide)(CI:(x==("__classdict__":Str))=false:=by decide):PE X (.Name x pos) (aa8 i):=by
 intro ae s σ H Q I h;obtain⟨v,e,h⟩:=h;obtain⟨m,hn,hl⟩:=I.loc;obtain⟨u,r,l⟩:=hl i x v hN e hv;have fin:EP X ae σ Q u s:=⟨v,H,I,r,h⟩
 rcases l with⟨hk,hm⟩|⟨hk,c,hc,Es⟩
 .exact wpAny_Name (wpAny_loadName_local I.ok.kind hk hn hm fin) hd
 .rcases hk with hk|hk
  .exact wpAny_Name (wpAny_loadName_cell I.ok.kind hk hc Es fin) hd
  .exact wpAny_Name (wpAny_loadName_free I.ok.kind hk hc Es fin CI) hd
theorem Pg{i j pos}:PE X (.Constant (.int i) j pos) (tC (.int i)):=λ_ _ _ H _ I h=>wpAny_Constant_int ⟨.int i,H,I.tok _,⟨_,rfl⟩,h⟩
theorem TF{b j pos}:PE X (.Constant (.bool b) j pos) (tC (.bl b)):=λ_ _ _ H _ I h=>Constant_bool ⟨.bl b,H,I,rfl,h⟩
theorem Ph{j pos}:PE X (.Constant .none j pos) (tC .dj):=λ_ _ _ H _ I h=>Constant_none ⟨.dj,H,I,rfl,h⟩
theorem Pj{x j pos}:PE X (.Constant (.str x) j pos) (tC (.str x)):=λ_ _ _ H _ I h=>Calls.Constant_str ⟨.str x,H,I.tok _,⟨_,rfl⟩,h⟩
def Gl(X:Cx)(x:Str):Prop:=X.env.kindOf x=some .globalImplicit
theorem zP{E:_c}{σ:St}{H:Hp}{x:Str}{u:_m}{pos:Pos}{Q:_c}(I:a9 X ae σ H s)(hg:Gl X x)(hm:X.mg x=some u)(h:Q u s)(hd:(x==("__debug__":Str))=false:=by decide):wpAny (model X.prog X.w) X.A (eval (.Name x pos) X.env) Q E s:=
 ZK I.ok.kind hg (Calls.loadGlobal_global (by rw[I.ok.glob];exact I.mod.glob.keeps I.bk) hm h) hd
theorem m7{E:_c}{σ:St}{H:Hp}{x:Str}{u:_m}{pos:Pos}{Q:_c}(I:a9 X ae σ H s)(hg:Gl X x)(hm:X.mg x=none)(hv:bootBuiltins x=some u)(h:Q u s)(hn:x ≠ "__name__":=by decide)(hd:(x==("__debug__":Str))=false:=by decide):wpAny (model X.prog X.w) X.A (eval (.Name x pos) X.env) Q E s:=by obtain⟨mb,h1,h2⟩:=I.mod.blt;exact ZK I.ok.kind hg (Calls.loadGlobal_builtin (by rw[I.ok.glob];exact I.mod.glob.keeps I.bk) hm (by rw[I.ok.blt];exact h1.keeps I.bk) ((h2 x hn).trans hv) h) hd
theorem LG{x:Str}{v:V}{u:_m}{pos:Pos}(hg:Gl X x)(hm:X.mg x=some u)(r:bW v u)(hd:(x==("__debug__":Str))=false:=by decide):PE X (.Name x pos) (tC v):=
 λ_ _ _ H _ I h=>zP I hg hm ⟨v,H,I,r,h⟩ hd
theorem LH{x:Str}{v:V}{u:_m}{pos:Pos}(hg:Gl X x)(hm:X.mg x=none)(hv:bootBuiltins x=some u)(r:bW v u)(hn:x ≠ "__name__":=by decide)(hd:(x==("__debug__":Str))=false:=by decide):PE X (.Name x pos) (tC v):=
 λ_ _ _ H _ I h=>m7 I hg hm hv ⟨v,H,I,r,h⟩ hn hd
variable{a b:Expr}{ta tb:TE}{pos:Pos}
def PC(X:Cx)(op:CmpOp)(a b:Expr)(t:TE):Prop:=
 ∀(ae:_e)(s:_n)(σ:St)(H:Hp)(Q:VK),a9 X ae σ H s->t σ H Q ->
  wpAny (model X.prog X.w) X.A (eval a X.env) (λv s₁=>wpAny (model X.prog X.w) X.A (eval b X.env) (λu s₂=>wpAny (model X.prog X.w) X.A (compareOp op v u) (EP X ae σ Q) X.xe s₂) X.xe s₁) X.xe s
def tB(t:TE):TT:=λσ H Q=>t σ H λx H1=>∃c,x=.bl c/\Q c H1
theorem Pk{e:Expr}{t:TE}(h:PE X e t)(he:∀whole,isTrue e X.env whole=(do let v <- whole;standAt e.pos;holding [v] (truthy v)):=by intro _;rfl):PT X e (tB t):=by intro ae s σ H Q I hw;refine isTrue_plain (fv (h ae s σ H _ I hw) λv s1⟨x,H1,I1,r1,q1⟩=>?_) (he _);obtain⟨d,rfl,q⟩:=q1;cases r1;exact Xv ⟨H1,I1,q⟩
variable{tA LI:TT}
def aa9(t u:TT):TT:=λσ H Q=>t σ H λc H1=>if c=true then u σ H1 Q else Q false H1
def tOr(t u:TT):TT:=λσ H Q=>t σ H λc H1=>if c=true then Q true H1 else u σ H1 Q
def aa_(t:TT):TT:=λσ H Q=>t σ H λc H1=>Q (!c) H1
theorem LJ(ha:PT X a tA):PW X (.BoolOp .And [a] pos) tA:=by
 intro wh ae s σ H Q I h;refine isTrue_and (fv (ha ae s σ H Q I h) λc s1 e=>?_);cases c with
 |true=>exact isTrue_and_nil e
 |false=>exact e
theorem Pl(ha:PT X a tA):PW X (.BoolOp .Or [a] pos) tA:=by
 intro wh ae s σ H Q I h;refine isTrue_or (fv (ha ae s σ H Q I h) λc s1 e=>?_);cases c with
 |false=>exact isTrue_or_nil e
 |true=>exact e
theorem Pn(ha:PT X a tA)(hb:PW X (.BoolOp .And (b::rest) pos) LI):PW X (.BoolOp .And (a::b::rest) pos) (aa9 tA LI):=by
 intro wh ae s σ H Q I h;refine isTrue_and (fv (ha ae s σ H _ I h) λc s1⟨H1,I1,q1⟩=>?_);cases c with
 |true=>exact hb wh ae s1 σ H1 Q I1 q1
 |false=>exact⟨H1,I1,q1⟩
theorem TH(ha:PT X a tA)(hb:PW X (.BoolOp .Or (b::rest) pos) LI):PW X (.BoolOp .Or (a::b::rest) pos) (tOr tA LI):=by
 intro wh ae s σ H Q I h;refine isTrue_or (fv (ha ae s σ H _ I h) λc s1⟨H1,I1,q1⟩=>?_);cases c with
 |true=>exact⟨H1,I1,q1⟩
 |false=>exact hb wh ae s1 σ H1 Q I1 q1
theorem Po(ha:PT X a tA):PT X (.UnaryOp .Not a pos) (aa_ tA):=by intro ae s σ H Q I h;exact isTrue_not (ha ae s σ H (λc H1=>Q (!c) H1) I h)
def TJ(ta tb:TE):TE:=λσ H Q=>ta σ H λx H1=>∃c,x=.bl c/\if c=true then tb σ H1 Q else Q (.bl false) H1
def aa!(ta tb:TE):TE:=λσ H Q=>ta σ H λx H1=>∃c,x=.bl c/\if c=true then Q (.bl true) H1 else tb σ H1 Q
def TK(ta:TE):TE:=λσ H Q=>ta σ H λx H1=>∃c,x=.bl c/\Q (.bl (!c)) H1
theorem Pp{op}{t:TE}(h:PE X a t):PE X (.BoolOp op [a] pos) t:=λae s σ H Q I hw=>BoolOp_one (h ae s σ H Q I hw)
theorem Pq(ha:PE X a ta)(hb:PE X (.BoolOp .And (b::rest) pos) tb):PE X (.BoolOp .And (a::b::rest) pos) (TJ ta tb):=by
 intro ae s σ H Q I h;refine BoolOp_and (fv (ha ae s σ H _ I h) λv s1⟨x,H1,I1,r1,q1⟩=>?_);obtain⟨c,rfl,q1⟩:=q1;cases r1;refine Xv ?_;cases c with
 |true=>exact hb ae s1 σ H1 Q I1 q1
 |false=>exact⟨.bl false,H1,I1,rfl,q1⟩
theorem TL(ha:PE X a ta)(hb:PE X (.BoolOp .Or (b::rest) pos) tb):PE X (.BoolOp .Or (a::b::rest) pos) (aa! ta tb):=by
 intro ae s σ H Q I h;refine BoolOp_or (fv (ha ae s σ H _ I h) λv s1⟨x,H1,I1,r1,q1⟩=>?_);obtain⟨c,rfl,q1⟩:=q1;cases r1;refine Xv ?_;cases c with
 |false=>exact hb ae s1 σ H1 Q I1 q1
 |true=>exact⟨.bl true,H1,I1,rfl,q1⟩
theorem Pr(ha:PE X a ta):PE X (.UnaryOp .Not a pos) (TK ta):=by intro ae s σ H Q I h;refine UnaryOp_ (fv (ha ae s σ H _ I h) λv s1⟨x,H1,I1,r1,q1⟩=>?_);obtain⟨c,rfl,q1⟩:=q1;cases r1;exact not_of (Xv ⟨.bl (!c),H1,I1,rfl,q1⟩)
def tIf(t:TT)(ta tb:TE):TE:=λσ H Q=>t σ H λc H1=>if c=true then ta σ H1 Q else tb σ H1 Q
theorem HS{c:Expr}(hc:PT X c tA)(ha:PE X a ta)(hb:PE X b tb):PE X (.IfExp c a b pos) (tIf tA ta tb):=by
 intro ae s σ H Q I h;refine wpAny_IfExp (fv (hc ae s σ H _ I h) λd s1⟨H1,I1,q1⟩=>?_);cases d with
 |true=>exact ha ae s1 σ H1 Q I1 q1
 |false=>exact hb ae s1 σ H1 Q I1 q1
end
def pk(K:_g)(H:Hp)(a:_o)(xs:List V):Prop:=
 Rd H a (.lst xs) \/
  ∃(o:Obj)(aN:Array _m)(n:Nat),K.lookup a=some o/\o.cls=.type "list" /\ o.dict=none/\o.data=.seq aN n/\aN.size<=sizeLine/\bx xs aN.toList
def pZ(K:_g)(H:Hp)(a:_o)(xs:List V):Prop:=
 Rd H a (.tup xs) \/
  ∃(o:Obj)(aN:Array _m)(n:Nat),K.lookup a=some o/\o.cls=.type "tuple" /\ o.data=.seq aN n/\aN.size<=sizeLine/\bx xs aN.toList
def aa?:_m->Option V
 |.none=>some .dj
 |.bool b=>some (.bl b)
 |.int i _=>some (.int i)
 |.str x _=>some (.str x)
 |.bytes b _=>some (.byt b)
 |.float b _=>some (.u? b)
 |.ref a=>some (.ref a)
 |.type n=>some (.ty n)
 |_=>none
theorem bW.abs{x:V}{u:_m}(r:bW x u):aa? u=some x:=by
 cases x with
 |dj=>cases r;rfl
 |bl _=>cases r;rfl
 |int _=>obtain⟨t,rfl⟩:=r;rfl
 |str _=>obtain⟨t,rfl⟩:=r;rfl
 |byt _=>obtain⟨t,rfl⟩:=r;rfl
 |u? _=>obtain⟨t,rfl⟩:=r;rfl
 |ref _=>cases r;rfl
 |ty _=>cases r;rfl
theorem bW.inj{x y:V}{u:_m}(r:bW x u)(q:bW y u):x=y:=VP (r.abs.symm.trans q.abs)
theorem bx.inj{xs ys:List V}{us:_i}(p:bx xs us)(q:bx ys us):xs=ys:=by
 induction p generalizing ys with
 |nil=>cases q;rfl
 |cons r t ih=>
  cases q with
  |cons r' t'=>rw[r.inj r',ih t']
section
variable{X:Cx}{σ:St}{H:Hp}{a:_o}{xs ys:List V}
theorem pk.of{K:_g}(h:H a=some (.lst xs)):pk K H a xs:=.inl (.inl h)
theorem pZ.of{K:_g}(h:H a=some (.tup xs)):pZ K H a xs:=.inl (.inl h)
theorem a9.list(I:a9 X ae σ H s)(h:pk X.K H a xs):∃aN:_i,bx xs aN/\PlainL s.heap a aN.toArray/\xs.length<=sizeLine:=by
 rcases h with h|⟨o,aN,n,hk,hc,hd,hs,hz,r⟩
 .obtain⟨z,aN,n,r,e⟩:=h.ok I.dJ;exact⟨aN,r,⟨_,n,e,rfl,rfl,rfl⟩,z⟩
 .refine⟨aN.toList,r,⟨o,n,I.A8 a o hk,hc,hd,by simpa using hs⟩,?_⟩;have e:=r.length;simp only[V4]at e;lia
theorem a9.tuple(I:a9 X ae σ H s)(h:pZ X.K H a xs):∃aN:_i,bx xs aN/\IsTup s.heap a aN.toArray/\xs.length<=sizeLine:=by
 rcases h with h|⟨o,aN,n,hk,hc,hs,hz,r⟩
 .obtain⟨z,aN,r,p⟩:=h.ok I.dJ;exact⟨aN,r,p,z⟩
 .refine⟨aN.toList,r,⟨o,I.A8 a o hk,hc,n,by simpa using hs⟩,?_⟩;have e:=r.length;simp only[V4]at e;lia
theorem a9.qH(I:a9 X ae σ H s)(h:pk X.K H a xs)(h':pk X.K H a ys):xs=ys:=by
 obtain⟨aN,r,⟨o,n,e,_,_,d⟩,_⟩:=I.list h;obtain⟨its',r',⟨o',n',e',_,_,d'⟩,_⟩:=I.list h';rw[e]at e';cases e';rw[d]at d';injection d' with d1 _;have:aN=its':=by simpa using WE Array.toList d1
 subst this;exact r.inj r'
theorem a9.sD(I:a9 X ae σ H s)(h:pZ X.K H a xs)(h':pZ X.K H a ys):xs=ys:=by
 obtain⟨aN,r,⟨o,e,_,n,d⟩,_⟩:=I.tuple h;obtain⟨its',r',⟨o',e',_,n',d'⟩,_⟩:=I.tuple h';rw[e]at e';cases e';rw[d]at d';injection d' with d1 _;have:aN=its':=by simpa using WE Array.toList d1
 subst this;exact r.inj r'
end
section
variable{X:Cx}{st:Stmt}{rest:List Stmt}{t u:TS}{e:Expr}{te:TE}{pos:Pos}
def TM:TS:=λD σ H=>D.nx σ H
def aa'(t u:TS):TS:=λD σ H=>t {D with nx:=u D} σ H
theorem LK:pY X [] TM:=λ_ _ σ H _ I h=>Yx ⟨σ,H,I,h⟩
theorem HU(h1:PS X st t)(h2:pY X rest u):pY X (st::rest) (aa' t u):=by
 intro ae s σ H D I h;refine wpAny_execs_cons (fv (h1 ae s σ H {D with nx:=u D} I h) λf s1 q=>?_);cases f with
 |next=>
  obtain⟨σ',H',I',q⟩:=q;exact h2 ae s1 σ' H' D I' q
 |ret v=>exact q
 |brk=>exact q
 |cont=>exact q
theorem LL(h1:PS X st t):pY X [st] t:=by
 intro ae s σ H D I h;refine wpAny_execs_cons (fv (h1 ae s σ H D I h) λf s1 q=>?_);cases f with
 |next=>exact Yx q
 |ret v=>exact q
 |brk=>exact q
 |cont=>exact q
theorem a9.quiet{σ:St}{H:Hp}(I:a9 X ae σ H s):interactive X.env=false:=by simp[interactive,I.ok.kind]
def TN(te:TE):TS:=λD σ H=>te σ H λ_ H1=>D.nx σ H1
theorem LM(he:PE X e te)(hs:swapsWith e none pos.line X.env=pure false:=by rfl):PS X (.Expr e pos) (TN te):=by intro ae s σ H D I h;exact wpAny_Expr_any (fv (he ae s σ H _ I h) λv s1⟨x,H1,I1,r1,q1⟩=>⟨σ,H1,I1,q1⟩) I.quiet hs
def aba(te:TE):TS:=λD σ H=>te σ H D.rt
theorem Pt(he:PE X e te):PS X (.Return (some e) pos) (aba te):=by intro ae s σ H D I h;exact wpAny_Return_some (fv (he ae s σ H _ I h) λv s1⟨x,H1,I1,r1,q1⟩=>⟨x,σ,H1,I1,r1,q1⟩)
def abb(c:TT)(t u:TS):TS:=λD σ H=>c σ H λb H1=>if b=true then t D σ H1 else u D σ H1
theorem TQ{c:Expr}{a b:List Stmt}{tc:TT}(hc:PT X c tc)(ha:pY X a t)(hb:pY X b u):PS X (.If c a b pos) (abb tc t u):=by
 intro ae s σ H D I h;refine wpAny_If (fv (hc ae s σ H _ I h) λd s1⟨H1,I1,q1⟩=>?_);cases d with
 |true=>exact ha ae s1 σ H1 D I1 q1
 |false=>exact hb ae s1 σ H1 D I1 q1
end
abbrev TG:=V->St->Hp->(St->Hp->Prop)->Prop
abbrev LN:=List V->St->Hp->(St->Hp->Prop)->Prop
def PG(X:Cx)(target:Expr)(t:TG):Prop:=
 ∀(ae:_e)(s:_n)(σ:St)(H:Hp)(v:V)(u:_m)(Q:St->Hp->Prop),a9 X ae σ H s->bW v u->t v σ H Q ->
  wpAny (model X.prog X.w) X.A (assign target X.env u) (λ_ s'=>∃σ' H',a9 X ae σ' H' s'/\Q σ' H') X.xe s
def CJ(X:Cx)(ts:List Expr)(t:LN):Prop:=
 ∀(ae:_e)(s:_n)(σ:St)(H:Hp)(vs:List V)(us:_i)(Q:St->Hp->Prop),a9 X ae σ H s->bx vs us->t vs σ H Q ->
  wpAny (model X.prog X.w) X.A (assignInOrder ((assignEach ts X.env).map (·.2)) us) (λ_ s'=>∃σ' H',a9 X ae σ' H' s'/\Q σ' H') X.xe s
abbrev HV:=V->V->V->Hp->(Hp->Prop)->Prop
def Pu(X:Cx)(t:HV):Prop:=
 ∀(ae:_e)(s:_n)(σ:St)(H:Hp)(o i v:V)(ov iv u:_m)(Q:Hp->Prop),a9 X ae σ H s->bW o ov->bW i iv->bW v u->t o i v H Q ->
  wpAny (model X.prog X.w) X.A (setItem ov iv u) (λ_ s'=>∃H',a9 X ae σ H' s'/\Q H') X.xe s
abbrev TR:=V->V->Hp->VK->Prop
def PIp(X:Cx)(op:Operator)(t:TR):Prop:=
 ∀(ae:_e)(s:_n)(σ:St)(H:Hp)(x y:V)(v u:_m)(Q:VK),a9 X ae σ H s->bW x v->bW y u->t x y H Q ->
  wpAny (model X.prog X.w) X.A (inplaceOp op v u) (EP X ae σ Q) X.xe s
section
variable{X:Cx}{pos:Pos}
def Bh(i:Nat):TG:=λv σ H Q=>Q (σ.set i (some v)) H
theorem LQ{i:Nat}{x:Str}(hN:X.N.Nodup)(hi:X.N[i]?=some x)(hx:Loc X.env.scope x)(hf:X.fn x=true\/X.env.scope.names.lookup x=some .local:=by left):PG X (.Name x pos) (Bh i):=by intro ae s σ H v u Q I r h;exact wpAny_assign_Name (vO I hN hi hx r (λs' I'=>⟨_,H,I',h⟩) hf)
def abc:LN:=λvs σ H Q=>vs=[]/\Q σ H
def TU(t:TG)(u:LN):LN:=λvs σ H Q=>∃v r,vs=v::r/\t v σ H λσ' H'=>u r σ' H' Q
theorem LR:CJ X [] abc:=by intro ae s σ H vs us Q I r h;obtain⟨e,h⟩:=h;subst e;cases r;exact assignInOrder_nil ⟨σ,H,I,h⟩
theorem HW{e:Expr}{t:TG}{u:LN}(h1:PG X e t)(h2:CJ X es u)(hs:(assignEach (e::es) X.env).map (·.2)=assign e X.env::(assignEach es X.env).map (·.2):=by rfl):CJ X (e::es) (TU t u):=by
 intro ae s σ H vs us Q I r h;obtain⟨v,vr,e1,h⟩:=h;subst e1;cases r with
 |cons r rr=>
  rw[hs];refine assignInOrder_cons (fv (h1 ae s σ H _ _ _ I r h) λ_ s1⟨σ1,H1,I1,q1⟩=>?_);exact h2 ae s1 σ1 H1 _ _ Q I1 rr q1
def abd(K:_g)(n:Nat)(t:LN):TG:=λv σ H Q=>∃a xs,v=.ref a/\pZ K H a xs/\xs.length=n/\t xs σ H Q
theorem Pw{k:Nat}{t:LN}{n:Nat}(hc:X.calm=true)(h:CJ X es t)(hn:(assignEach es X.env).length=n:=by rfl)(yx:(assignEach es X.env).findIdx? (·.1)=none:=by rfl):PG X (.Tuple es k pos) (abd X.K n t):=by intro ae s σ H v u Q I r hw;obtain⟨a,xs,e1,hq,hl,hw⟩:=hw;subst e1;cases r;obtain⟨aN,rv,ht,hz⟩:=I.tuple hq;refine assign_Tuple_tuple (I.ok.hd hc) ht (by simp[hn,<-hl,rv.length]) yx λh' hx=>?_;have I1:a9 X ae σ H {s with heap:=h'}:=I.kept (t':=s.toks) λb o e=>hx b o (V7 (VI e)) e;exact h ae _ σ H xs _ Q I1 (by simpa using rv) hw
def abe(to ti:TE)(t:HV):TG:=λv σ H Q=>to σ H λo H1=>ti σ H1 λi H2=>t o i v H2 λH3=>Q σ H3
theorem Px{i:Expr}{to ti:TE}{t:HV}(ho:PE X o to)(hi:PE X i ti)(hs:Pu X t)
  (ha:∀ v,assign (.Subscript o i pos) X.env v=(do
   let ov <- holding [v] (eval o X.env)
   let iv <- holding [v,ov] (eval i X.env)
   standAt pos
   holding [v,ov,iv] (setItem ov iv v)
   release [v,ov,iv] []):=by intro _;rfl):PG X (.Subscript o i pos) (abe to ti t):=by
 intro ae s σ H v u Q I r h;rw[ha];refine Vh (Xs (fv (ho ae s σ H _ I h) λov s1⟨x,H1,I1,r1,q1⟩=>?_));refine Vh (Xs (fv (hi ae s1 σ H1 _ I1 q1) λiv s2⟨y,H2,I2,r2,q2⟩=>?_));refine Vh (YU (Vh (Xs (fv (hs ae s2 σ H2 x y v ov iv u _ I2 r1 r2 r q2) λ_ s3⟨H3,I3,q3⟩=>?_))));exact wpAny_release ⟨σ,H3,I3,q3⟩
def LS(te:TE)(g:TG):TS:=λD σ H=>te σ H λx H1=>g x σ H1 D.nx
theorem Py{e:Expr}{te:TE}{g:TG}(he:PE X e te)(hg:PG X tg g)(hs:swapsWithSole [tg] e pos.line X.env=pure false:=by rfl)(hw:swappedStores [tg] e X.env=pure none:=by rfl)(h1:(assignEach [tg] X.env).map (·.2)=[assign tg X.env]:=by rfl):PS X (.Assign [tg] e pos) (LS te g):=by intro ae s σ H D I h;refine wpAny_Assign_stores (fv (he ae s σ H _ I h) λv s1⟨x,H1,I1,r1,q1⟩=>?_) hs hw;rw[h1];exact fv (hg ae s1 σ H1 x v _ I1 r1 q1) λ_ s2 q=>q
theorem Pz{i:Nat}{x:Str}{e:Expr}{te:TE}(hN:X.N.Nodup)(hi:X.N[i]?=some x)(hx:Loc X.env.scope x)(he:PE X e te)(hs:swapsWith e (some (.Name x pos')) pos.line X.env=pure false:=by rfl)(hf:X.fn x=true\/X.env.scope.names.lookup x=some .local:=by left):
  PS X (.Assign [.Name x pos'] e pos) (LS te (Bh i)):=by
 intro ae s σ H D I h;refine wpAny_Assign_Name (fv (he ae s σ H _ I h) λv s1⟨y,H1,I1,r1,q1⟩=>?_) hs;exact vO I1 hN hi hx r1 (λs2 I2=>⟨_,H1,I2,q1⟩) hf
def abf(i:Nat)(te:TE)(ti:TR):TS:=λD σ H=>∃x,σ[i]?=some (some x)/\te σ H λy H1=>ti x y H1 λz H2=>D.nx (σ.set i (some z)) H2
theorem PB{i:Nat}{x:Str}{e:Expr}{te:TE}{op:Operator}{ti:TR}(hN:X.N.Nodup)(hi:X.N[i]?=some x)(hx:Loc X.env.scope x)(he:PE X e te)(ho:PIp X op ti)(hf:X.fn x=true\/X.env.scope.names.lookup x=some .local:=by left):
  PS X (.AugAssign (.Name x pos') op e pos) (abf i te ti):=by
 intro ae s σ H D I h;obtain⟨v,e1,h⟩:=h;obtain⟨m,hn,hl⟩:=I.loc;have vis:Tw X.env.scope x:=by rcases hx with k|k;exact .inl k;exact .inr (.inl k)
 obtain⟨u,r,l⟩:=hl i x v hi e1 vis;refine wpAny_AugAssign_Name ?_;have go:wpAny (model X.prog X.w) X.A (eval e X.env) (λw s₂=>wpAny (model X.prog X.w) X.A (inplaceOp op u w) (λr s₃=>wpAny (model X.prog X.w) X.A (storeName X.env x r) (λ_=>SP X ae D .next) X.xe s₃) X.xe s₂) X.xe s:=by refine fv (he ae s σ H _ I h) λw s1⟨y,H1,I1,r1,q1⟩=>?_;refine fv (ho ae s1 σ H1 v y u w _ I1 r r1 q1) λz s2⟨zv,H2,I2,r2,q2⟩=>?_;exact vO I2 hN hi hx r2 (λs3 I3=>⟨_,H2,I3,q2⟩) hf
 rcases l with⟨hk,hm⟩|⟨hk,c,hc,Es⟩
 .exact wpAny_loadName_local I.ok.kind hk hn hm go
 .rcases hk with hk|hk
  .exact wpAny_loadName_cell I.ok.kind hk hc Es go
  .rcases hx with k|k
   .have:X.env.scope.names.lookup x=some .free:=hk;rw[k]at this;cases this
   .have:X.env.scope.names.lookup x=some .free:=hk;rw[k]at this;cases this
def TV(to ti te:TE)(LW:V->V->Hp->VK->Prop)(tip:TR)(LX:HV):TS:=λD σ H=>to σ H λo H1=>ti σ H1 λi H2=>LW o i H2 λx H3=>te σ H3 λy H4=>tip x y H4 λz H5=>LX o i z H5 λH6=>D.nx σ H6
def TX(X:Cx)(t:V->V->Hp->VK->Prop):Prop:=
 ∀(ae:_e)(s:_n)(σ:St)(H:Hp)(o i:V)(ov iv:_m)(Q:VK),a9 X ae σ H s->bW o ov->bW i iv->t o i H Q ->
  wpAny (model X.prog X.w) X.A (getItem ov iv) (EP X ae σ Q) X.xe s
theorem LY{i e:Expr}{to ti te:TE}{LW:V->V->Hp->VK->Prop}{tip:TR}{LX:HV}{op:Operator}(ho:PE X o to)(hi:PE X i ti)(hg:TX X LW)(he:PE X e te)(hp:PIp X op tip)(hs:Pu X LX)(ha:∀ov iv new,augStore i ov iv new=(do holding [new,ov,iv] (setItem ov iv new);release [new,ov,iv] [];pure .next):=by intros;rfl):PS X (.AugAssign (.Subscript o i qJ) op e pos) (TV to ti te LW tip LX):=by intro ae s σ H D I h;refine wpAny_AugAssign_SubscriptAny (fv (ho ae s σ H _ I h) λov s1⟨x1,H1,I1,r1,q1⟩=>?_) ha;refine fv (hi ae s1 σ H1 _ I1 q1) λiv s2⟨x2,H2,I2,r2,q2⟩=>?_;refine fv (hg ae s2 σ H2 x1 x2 ov iv _ I2 r1 r2 q2) λold s3⟨x3,H3,I3,r3,q3⟩=>?_;refine fv (he ae s3 σ H3 _ I3 q3) λv s4⟨x4,H4,I4,r4,q4⟩=>?_;refine fv (hp ae s4 σ H4 x3 x4 old v _ I4 r3 r4 q4) λnew s5⟨x5,H5,I5,r5,q5⟩=>?_;exact fv (hs ae s5 σ H5 x1 x2 x5 ov iv new _ I5 r1 r2 r5 q5) λ_ s6⟨H6,I6,q6⟩=>⟨σ,H6,I6,q6⟩
end
section
variable{X:Cx}{pos:Pos}
def PD(c:TT)(tb:TS):TS:=λD σ H=>∃W:Nat->St->Hp->Prop,(∃m,W m σ H)/\∀m σ H,W m σ H ->
 c σ H λb H1=>if b=true then ∃N:St->Hp->Prop,(∀σ' H',N σ' H'->∃m',m'<m/\W m' σ' H')/\tb {D with nx:=N,ct:=N,bk:=D.nx} σ H1 else D.nx σ H1
theorem HX{c:Expr}{body:List Stmt}{tc:TT}{tb:TS}(hp:PassesOwn (model X.prog X.w) X.A X.env X.xe)(hc:PT X c tc)(hb:pY X body tb):PS X (.While c body [] pos) (PD tc tb):=by
 intro ae s σ H D I h;obtain⟨W,⟨m0,w0⟩,turn⟩:=h;refine wpAny_While (codeAny_whileLoop (λn s'=>∃σ' H',a9 X ae σ' H' s'/\W n σ' H') ?_ m0 ⟨σ,H,I,w0⟩);rintro n s1 ⟨σ1,H1,I1,w1⟩;refine Xq hp (fv (hc ae s1 σ1 H1 _ I1 (turn n σ1 H1 w1)) λb s2⟨H2,I2,q2⟩=>?_);cases b with
 |true=>
  obtain⟨N,hN,q2⟩:=q2;rw[Vv rfl];refine Xq hp (fv (hb ae s2 σ1 H2 _ I2 q2) λf s3 q3=>?_);cases f with
  |next=>
   obtain⟨σ3,H3,I3,n3⟩:=q3;obtain⟨m',hm,w3⟩:=hN σ3 H3 n3;exact⟨m',hm,σ3,H3,I3,w3⟩
  |cont=>
   obtain⟨σ3,H3,I3,n3⟩:=q3;obtain⟨m',hm,w3⟩:=hN σ3 H3 n3;exact⟨m',hm,σ3,H3,I3,w3⟩
  |brk=>exact q3
  |ret v=>exact q3
 |false=>
  rw[VG VW];exact Yx ⟨σ1,H2,I2,q2⟩
end
structure It where
 go:Nat->Hp->Prop
 SW:Nat->Hp->V->Hp->Prop
 stop:Nat->Hp->Prop
def m8(X:Cx)(ae:_e)(H:Hp)(b:_o):Prop:=
 H b=none/\b≠X.env.locals/\b ∉ X.fs/\(b∈X.ex\/X.s₀.heap.objs.size<=b)/\(∀x c,X.env.cells.lookup x=some c->c≠b)/\∀p∈X.pn++ae,p.1≠b
theorem a9.Bi{X:Cx}{σ:St}{H H':Hp}{b:_o}(I:a9 X ae σ H s)(hb:s.heap.objs.size<=b)(hn:H' b=none):m8 X ae H' b:=by
 refine⟨hn,W' (VR I.lt hb),I.aa5 hb,.inr (V! I.sz hb),λx c e z=>?_,λp hp z=>?_⟩
 .obtain⟨v,q⟩:=I.cell x c e;exact absurd (VR q.lt (by rw[z];exact hb)) (Wk _)
 .exact absurd (VR (VI (I.pin p hp).1) (by rw[z];exact hb)) (Wk _)
structure Turn(P:_q)(w:World)(K:_g)(tg:Expr)(J:It)(fp:_k)(it:_o)(tn:Nat->Heap->Prop):Prop where
 mem:it∈fp
 obj:∀i h,tn i h->∀b∈fp,∃o,h.get? b=some o/\∀v,o.data≠.cell v
 keep:∀i h h',tn i h->(∀b∈fp,∀o,h.get? b=some o->h'.get? b=some o)->tn i h'
 item:∀(X:Cx),X.prog=P->X.w=w->X.K=K->X.calm=true->∀(i:Nat)(ae:_e)(s:_n)(σ:St)(H:Hp)(E:_c),a9 X ae σ H s->(∀b∈fp,m8 X ae H b)->tn i s.heap->J.go i H ->
  wpAny (model P w) X.A (pyNext (.ref it)) (λr s1=>∃u,r=some u /\
   wpAny (model P w) X.A (letOwnedTupleGo tg (.ref it) u) (λ_ s2=>∃x H',a9 X ae σ H' s2/\bW x u/\J.SW i H x H'/\tn (i+1) s2.heap/\∀b∈fp,H' b=none) E s1) E s
 done:∀(X:Cx),X.prog=P->X.w=w->X.K=K->X.calm=true->∀(i:Nat)(ae:_e)(s:_n)(σ:St)(H:Hp)(E:_c),a9 X ae σ H s->(∀b∈fp,m8 X ae H b)->tn i s.heap->J.stop i H ->
  wpAny (model P w) X.A (pyNext (.ref it)) (λr s1=>r=none/\a9 X ae σ H s1) E s
 self:∀(A:_p)(i:Nat)(s:_n)(Q:_c)(E:_c),tn i s.heap->Q (.ref it) s->wpAny (model P w) A (pyIter (.ref it)) Q E s
abbrev TI:=St->Hp->(It->Hp->Prop)->Prop
def PIE(X:Cx)(ae:_e)(σ:St)(tg:Expr)(R:It->Hp->Prop)(itv:_m)(s2:_n):Prop:=
 ∃(it:_o)(fp:_k)(tn:Nat->Heap->Prop)(J:It)(H':Hp),itv=.ref it/\a9 X ae σ H' s2/\Turn X.prog X.w X.K tg J fp it tn/\tn 0 s2.heap/\(∀b∈fp,m8 X ae H' b)/\R J H'
def PI(X:Cx)(tg iter:Expr)(wi:TI):Prop:=
 ∀(ae:_e)(s:_n)(σ:St)(H:Hp)(R:It->Hp->Prop),a9 X ae σ H s->wi σ H R ->
  wpAny (model X.prog X.w) X.A (eval iter X.env) (λv s1=>wpAny (model X.prog X.w) X.A (pyIter v) (PIE X ae σ tg R) X.xe s1) X.xe s
theorem Et{M:Model}{A:_p}{E:_c}{it:_o}{u:_m}{o:Obj}{n:String}{vs:Array _m}{Q:Unit->_n->Prop}(ho:s.heap.get? it=some o)(hc:o.cls=.type n)(hd:o.data=.fields vs)(hn:["enumerate","zip","dict_itemiterator","dict_reverseitemiterator","odict_iterator","itertools.zip_longest","itertools.pairwise"].contains n=false)(hQ:Q () s):wpAny M A (letOwnedTupleGo tg (.ref it) u) Q E s:=by
  unfold letOwnedTupleGo;cases tg<;>first
    |exact VE hQ
    |(cases u<;>first
        |exact VE hQ
        | (refine Vh (wpAny_load ho ?_)
           rw[hc,hd];show wpAny M A (if(["enumerate","zip","dict_itemiterator","dict_reverseitemiterator","odict_iterator","itertools.zip_longest","itertools.pairwise"].contains n&&vs[0]?==some (rawInt _))=true then _ else _) Q E s;rw[VG (by intro h;rw[hn,Y?]at h;cases h)];exact VE hQ))
def Itl(K:_g)(a:_o):It:=
 ⟨λi H=>∃xs x,pk K H a xs/\xs[i]?=some x,λi H x H'=>H'=H/\∀xs,pk K H a xs->xs[i]?=some x,λi H=>∃xs,pk K H a xs/\xs.length<=i⟩
def Itt(K:_g)(a:_o):It:=
 ⟨λi H=>∃xs x,pZ K H a xs/\xs[i]?=some x,λi H x H'=>H'=H/\∀xs,pZ K H a xs->xs[i]?=some x,λi H=>∃xs,pZ K H a xs/\xs.length<=i⟩
def TY(lo:Int)(n:Nat):It:=⟨λi _=>i<n,λi H x H'=>H'=H/\x=.int (lo+i),λi _=>n<=i⟩
theorem F!{w:World}{K:_g}(a it:_o):Turn P w K tg (Itl K a) [it] it (λi h=>h.IsListIter it a i) where
 mem:=by simp
 obj:=λi h st b hb=>by
  have e:b=it:=by simpa using hb
  subst e;obtain⟨o,e,c,d⟩:=st;exact⟨o,e,λv z=>by rw[d]at z;cases z⟩
 keep:=λi h h' st k=>st.at λo e=>k it (by simp) o e
 item:=by intro X hP hw hK hc i ae s σ H E I hf st hg;subst hP hw hK;obtain⟨xs,x,hq,hx⟩:=hg;obtain⟨aN,rv,p,hz⟩:=I.list hq;obtain⟨u,hu,ru⟩:=rv.get hx;obtain⟨f0,f1,f2,f3,f4,f5⟩:=hf it (by simp);refine wpAny_pyNext_list_item st p.isList (x:=u) (by simpa using hu) λh' aI sb=>?_;have I1:a9 X ae σ H {s with heap:=h'}:=I.turned (t':=s.toks) (λb o hb e=>(sb.2 b hb).trans e) f0 f1 f3 f4 f5;obtain⟨o,e,c,d⟩:=id aI;exact⟨u,rfl,Et (s:={s with heap:=h'}) e c d ⋯ ⟨x,H,I1,ru,⟨rfl,λys hy=>by rw[I.qH hy hq];exact hx⟩,aI,λb hb=>(hf b hb).1⟩⟩
 done:=by intro X hP hw hK hc i ae s σ H E I hf st hg;subst hP hw hK;obtain⟨xs,hq,hx⟩:=hg;obtain⟨aN,rv,p,hz⟩:=I.list hq;obtain⟨f0,f1,f2,f3,f4,f5⟩:=hf it (by simp);have hl:=rv.length;exact wpAny_pyNext_list_end (I.ok.hd hc) st p.isList (by simp;lia) λh' eb=>⟨rfl,I.turned (t':=s.toks) (λb o hb e=>eb b o hb e) f0 f1 f3 f4 f5⟩
 self:=λ_ _ _ _ _ st h=>wpAny_pyIter_listiter st h
theorem CK{w:World}{K:_g}(a it:_o):Turn P w K tg (Itt K a) [it] it (λi h=>h.IsTupleIter it a i) where
 mem:=by simp
 obj:=λi h st b hb=>by
  have e:b=it:=by simpa using hb
  subst e;obtain⟨o,e,c,d⟩:=st;exact⟨o,e,λv z=>by rw[d]at z;cases z⟩
 keep:=λi h h' st k=>st.at λo e=>k it (by simp) o e
 item:=by intro X hP hw hK hc i ae s σ H E I hf st hg;subst hP hw hK;obtain⟨xs,x,hq,hx⟩:=hg;obtain⟨aN,rv,p,hz⟩:=I.tuple hq;obtain⟨u,hu,ru⟩:=rv.get hx;obtain⟨f0,f1,f2,f3,f4,f5⟩:=hf it (by simp);refine wpAny_pyNext_tuple_item st (show s.heap.IsTuple a aN.toArray from p) (x:=u) (by simpa using hu) λh' aI sb=>?_;have I1:a9 X ae σ H {s with heap:=h'}:=I.turned (t':=s.toks) (λb o hb e=>(sb.2 b hb).trans e) f0 f1 f3 f4 f5;obtain⟨o,e,c,d⟩:=id aI;exact⟨u,rfl,Et (s:={s with heap:=h'}) e c d ⋯ ⟨x,H,I1,ru,⟨rfl,λys hy=>by rw[I.sD hy hq];exact hx⟩,aI,λb hb=>(hf b hb).1⟩⟩
 done:=by intro X hP hw hK hc i ae s σ H E I hf st hg;subst hP hw hK;obtain⟨xs,hq,hx⟩:=hg;obtain⟨aN,rv,p,hz⟩:=I.tuple hq;obtain⟨f0,f1,f2,f3,f4,f5⟩:=hf it (by simp);have hl:=rv.length;exact wpAny_pyNext_tuple_end (I.ok.hd hc) st (show s.heap.IsTuple a aN.toArray from p) (by simp;lia) λh' eb=>⟨rfl,I.turned (t':=s.toks) (λb o hb e=>eb b o hb e) f0 f1 f3 f4 f5⟩
 self:=λ_ _ _ _ _ st h=>wpAny_pyIter_tupleiter st h
theorem CM{w:World}{K:_g}(it:_o)(lo:Int)(n:Nat):Turn P w K tg (TY lo n) [it] it (λi h=>IsRangeIter h it (lo+(i:Nat)*1) ((n:Int)-(i:Nat)) 1) where
 mem:=by simp
 obj:=λi h st b hb=>by
  have e:b=it:=by simpa using hb
  subst e;exact⟨_,st,λv z=>by
   have z':Data.fields _=Data.cell v:=z;cases z'⟩
 keep:=λi h h' st k=>k it (by simp) _ st
 item:=by intro X hP hw hK hc i ae s σ H E I hf st hg;subst hP hw hK;obtain⟨f0,f1,f2,f3,f4,f5⟩:=hf it (by simp);have W:=Walks.range (prog:=X.prog) (w:=X.w) (I.ok.hd hc) it lo 1 n;refine W.item i s _ _ hg st λv h' tk hv aI kk=>?_;obtain⟨t,rfl⟩:=hv;have I1:a9 X ae σ H {s with heap:=h',toks:=tk}:=I.turned (λb o hb e=>kk b o (by simpa using hb) e) f0 f1 f3 f4 f5;refine⟨_,rfl,Et (s:={s with heap:=h',toks:=tk}) (n:="range_iterator") aI rfl rfl ⋯ ⟨.int (lo+i),H,I1,⟨t,?_⟩,⟨rfl,rfl⟩,aI,λb hb=>(hf b hb).1⟩⟩;rw[Xa]
 done:=by intro X hP hw hK hc i ae s σ H E I hf st hg;subst hP hw hK;obtain⟨f0,f1,f2,f3,f4,f5⟩:=hf it (by simp);exact Z2 (I.ok.hd hc) st (by have:n<=i:=hg;lia) λh' eb=>⟨rfl,I.turned (t':=s.toks) (λb o hb e=>eb b o hb e) f0 f1 f3 f4 f5⟩
 self:=λ_ _ _ _ _ st h=>Z3 st h
section
variable{X:Cx}
theorem Bj{σ:St}{H:Hp}{R:It->Hp->Prop}{E:_c}{lo:Int}{t u v:Tok}{tk:Nat}(I:a9 X ae σ H s)(h1:-(2 ^ 62)<=lo)(h2:lo<2 ^ 62)(h3:-(2 ^ 62)<=hi)(h4:hi<2 ^ 62)(q:R (TY lo (hi-lo).toNat) H):wpAny (model X.prog X.w) X.A (pyIter (.ref s.heap.objs.size)) (PIE X ae σ tg R) E {s with heap:=s.heap.push {cls:=.type "range",data:=.fields #[.int lo t,.int hi u,.int 1 v]},toks:=tk}:=by
 refine wpAny_pyIter_range (IsRange.new ..) (small_one h1 h2 h3 h4) ?_;have I1:a9 X ae σ H {s with heap:=s.heap.push {cls:=.type "range",data:=.fields #[.int lo t,.int hi u,.int 1 v]},toks:=tk}:=I.kept λb o e=>Vl _ e;refine⟨(s.heap.push {cls:=.type "range",data:=.fields #[.int lo t,.int hi u,.int 1 v]}).objs.size,[(s.heap.push {cls:=.type "range",data:=.fields #[.int lo t,.int hi u,.int 1 v]}).objs.size],_,_,H,rfl,
  I1.kept (t':=tk) λb o e=>Vl _ e,CM _ lo (hi-lo).toNat,?_,λb hb=>?_,q⟩
 .have e1:lo+((0:Nat):Int)*1=lo:=by simp
  have e2:(((hi-lo).toNat:Nat):Int)-((0:Nat):Int)=Builtin.Range.rangeSize lo hi 1:=by rw[rangeSize_one];split<;>lia
  show IsRangeIter _ _ (lo+((0:Nat):Int)*1) ((((hi-lo).toNat:Nat):Int)-((0:Nat):Int)) 1;rw[e1,e2];exact VT _ rfl
 .have e:b=(s.heap.push {cls:=.type "range",data:=.fields #[.int lo t,.int hi u,.int 1 v]}).objs.size:=by simpa using hb
  subst e;exact I1.Bi (Vt _) (I1.dJ.fresh (Vt _))
def TZ(ta:TA):TI:=λσ H R=>ta σ H λvs H1=>∃j:Int,vs=[.int j]/\-(2 ^ 62)<=j/\j<2 ^ 62/\R (TY 0 j.toNat) H1
def T3(ta:TA):TI:=λσ H R=>ta σ H λvs H1=>∃i j:Int,vs=[.int i,.int j]/\(-(2 ^ 62)<=i/\i<2 ^ 62/\-(2 ^ 62)<=j/\j<2 ^ 62)/\R (TY i (j-i).toNat) H1
theorem F?{a:Expr}{ta:TA}{p pos:Pos}(hg:Gl X "range")(hm:X.mg "range" = none)(ha:PA X [a] ta)(hs:starEach [a] X.env=[(false,eval a X.env)]:=by rfl):PI X tg (.Call (.Name "range" p) [a] [] pos) (TZ ta):=by
 intro ae s σ H R I h;refine Call_ (m7 I hg hm boot_range (WG (fv (ha pos ae s σ H _ I h) λus s1⟨vs,H1,I1,r1,q1⟩=>?_) hs rfl));obtain⟨j,e,q1,q2,q⟩:=q1;subst e;cases r1 with
 |cons r rr=>
  cases rr;obtain⟨t,rfl⟩:=r;exact call_range_1 (Bj I1 ⋯ ⋯ q1 q2 (by simpa using q))
theorem Ga{a b:Expr}{ta:TA}{p pos:Pos}(hg:Gl X "range")(hm:X.mg "range" = none)(ha:PA X [a,b] ta)(hs:starEach [a,b] X.env=[(false,eval a X.env),(false,eval b X.env)]:=by rfl)(su:starEach [b] X.env=[(false,eval b X.env)]:=by rfl):
  PI X tg (.Call (.Name "range" p) [a,b] [] pos) (T3 ta):=by
 intro ae s σ H R I h;refine Call_ (m7 I hg hm boot_range (WG (fv (ha pos ae s σ H _ I h) λus s1⟨vs,H1,I1,r1,q1⟩=>?_) (by rw[hs,su]) (by rw[su];rfl)));obtain⟨i,j,e,⟨q1,q2,q3,q4⟩,q⟩:=q1;subst e;cases r1 with
 |cons r rr=>
  cases rr with
  |cons r' rr=>
   cases rr;obtain⟨t,rfl⟩:=r;obtain⟨t',rfl⟩:=r';exact call_range_2 (Bj I1 q1 q2 q3 q4 q)
def abg(wi:TI)(g:TG)(tb:TS):TS:=λD σ H=>wi σ H λJ H1=>∃W:Nat->Nat->St->Hp->Prop,(∃m,W 0 m σ H1)/\∀i m σ H,W i m σ H ->
 (J.stop i H/\D.nx σ H)\/(J.go i H/\∃N:St->Hp->Prop,(∀σ' H',N σ' H'->∃m',m'<m/\W (i+1) m' σ' H')/\∀x H',J.SW i H x H'->g x σ H' λσ2 H2=>tb {D with nx:=N,ct:=N,bk:=D.nx} σ2 H2)
def vP(fp:_k)(h:Heap):_e:=fp.filterMap λb=>(h.get? b).map λo=>(b,o)
theorem m9{b:_o}{o:Obj}(hb:b∈fp)(e:h.get? b=some o):(b,o)∈vP fp h:=Zw.mpr ⟨b,hb,by rw[e];rfl⟩
theorem Gb{p:_o×Obj}(hp:p∈vP fp h):p.1∈fp/\h.get? p.1=some p.2:=by
 obtain⟨b,hb,e⟩:=Zw.mp hp;cases q:h.get? b with
 |none=>rw[q]at e;cases e
 |some o=>
  rw[q]at e;have e':(b,o)=p:=VP e;subst e';exact⟨hb,q⟩
theorem a9.pinned{σ:St}{H:Hp}(I:a9 X ae σ H s)(hf:∀b∈fp,m8 X ae H b)(ho:∀b∈fp,∃o,s.heap.get? b=some o/\∀v,o.data≠.cell v):a9 X (ae++vP fp s.heap) σ H s:=
 I.qG λp hp=>(VF.mp hp).elim (λz=>I.pin p (VQ _ z)) λz=>by obtain⟨hb,e⟩:=Gb z;obtain⟨f0,f1,f2,_⟩:=hf p.1 hb;obtain⟨o,e',d⟩:=ho p.1 hb;rw[e]at e';cases e';exact⟨e,f0,f1,f2,d⟩
theorem a9.qK{pl:_e}{σ:St}{H:Hp}(I:a9 X (ae++pl) σ H s):a9 X ae σ H s:=I.qG λp hp=>I.pin p (VQ _ (We _ hp))
theorem PF{body:List Stmt}{wi:TI}{g:TG}{tb:TS}{pos:Pos}(hp:PassesOwn (model X.prog X.w) X.A X.env X.xe)(hc:X.calm=true)(hi:PI X tg iter wi)(hg:PG X tg g)(hb:pY X body tb)(hs:∀x,foldedSetIterable iter X.env x=pure x:=by intro _;rfl):PS X (.For tg iter body [] pos) (abg wi g tb):=by
 intro ae s σ H D I h;refine wpAny_For (fv (hi ae s σ H _ I h) λv s1 h1=>fv h1 λitv s2 h2=>?_) hs;obtain⟨it,fp,tn,J,H2,e,I2,T,cJ,f2,W,⟨m0,w0⟩,turn⟩:=h2;subst e
 -- T4 stays true of Oc PH objects through Oc loop
 have CN:∀{H':Hp},(∀b∈fp,H' b=none)->∀b∈fp,m8 X ae H' b:=λhn b hb=>⟨hn b hb,(f2 b hb).2⟩
 refine codeAny_forLoop_any (λn s'=>∃i σ' H',a9 X ae σ' H' s'/\tn i s'.heap/\(∀b∈fp,H' b=none)/\W i n σ' H') ?_ m0 ⟨0,σ,H2,I2,cJ,λb hb=>(f2 b hb).1,w0⟩;rintro n s3 ⟨i,σ3,H3,I3,oz,T5,w3⟩;rcases turn i n σ3 H3 w3 with⟨stop,qn⟩|⟨go,N,hN,step⟩
 .refine Xq hp (fv (T.done X rfl rfl rfl hc i ae s3 σ3 H3 X.xe I3 (CN T5) oz stop) λr s4⟨hr,I4⟩=>?_);subst hr;exact Yx ⟨σ3,H3,I4,qn⟩
 .refine Xq hp (fv (T.item X rfl rfl rfl hc i ae s3 σ3 H3 X.xe I3 (CN T5) oz go) λr s4⟨u,hr,h4⟩=>?_);subst hr;refine Xq hp (fv h4 λ_ s5⟨x,H5,I5,r5,y5,Lm,fr5⟩=>?_);have I5':=I5.pinned (CN fr5) (T.obj _ _ Lm);refine Xq hp (fv (hg _ s5 σ3 H5 x u _ I5' r5 (step x H5 y5)) λ_ s6⟨σ6,H6,I6,q6⟩=>?_);refine Xq hp (fv (hb _ s6 σ6 H6 _ I6 q6) λf s7 q7=>?_);have again:∀{σ7:St}{H7:Hp},a9 X (ae++vP fp s5.heap) σ7 H7 s7->N σ7 H7->∃m,m<n/\∃i σ' H',a9 X ae σ' H' s7/\tn i s7.heap/\(∀b∈fp,H' b=none)/\W i m σ' H':=λ{σ7 H7}I7 n7=>by obtain⟨m',hm,w7⟩:=hN σ7 H7 n7;refine⟨m',hm,i+1,σ7,H7,I7.qK,T.keep _ _ _ Lm λb hb o e=>(I7.pin (b,o) (VQ _ (VQ _ (m9 hb e)))).1,λb hb=>?_,w7⟩;obtain⟨o,e,d⟩:=T.obj _ _ Lm b hb;exact(I7.pin (b,o) (VQ _ (VQ _ (m9 hb e)))).2.1
  cases f with
  |next=>obtain⟨σ7,H7,I7,n7⟩:=q7;exact again I7 n7
  |cont=>obtain⟨σ7,H7,I7,n7⟩:=q7;exact again I7 n7
  |brk=>obtain⟨σ7,H7,I7,q7⟩:=q7;exact⟨σ7,H7,I7.qK,q7⟩
  |ret v=>obtain⟨x7,σ7,H7,I7,r7,q7⟩:=q7;exact⟨x7,σ7,H7,I7.qK,r7,q7⟩
end
abbrev R2:=V->V->Hp->VK->Prop
def gJ(X:Cx)(f:_m->_m->Sem _m)(r:R2):Prop:=
 ∀(ae:_e)(s:_n)(σ:St)(H:Hp)(x y:V)(v u:_m)(Q:VK),a9 X ae σ H s->bW x v->bW y u->r x y H Q ->
  wpAny (model X.prog X.w) X.A (f v u) (EP X ae σ Q) X.xe s
def UnR(X:Cx)(f:_m->Sem _m)(r:V->Hp->VK->Prop):Prop:=
 ∀(ae:_e)(s:_n)(σ:St)(H:Hp)(x:V)(v:_m)(Q:VK),a9 X ae σ H s->bW x v->r x H Q ->
  wpAny (model X.prog X.w) X.A (f v) (EP X ae σ Q) X.xe s
def dE(X:Cx)(f:_m)(r:List V->Hp->VK->Prop):Prop:=
 ∀(ae:_e)(s:_n)(σ:St)(H:Hp)(xs:List V)(us:_i)(Q:VK),a9 X ae σ H s->bx xs us->r xs H Q ->
  wpAny (model X.prog X.w) X.A (call f us) (EP X ae σ Q) X.xe s
def SX(r:R2)(ta tb:TE):TE:=λσ H Q=>ta σ H λx H1=>tb σ H1 λy H2=>r x y H2 Q
def tUn(r:V->Hp->VK->Prop)(ta:TE):TE:=λσ H Q=>ta σ H λx H1=>r x H1 Q
def rI(C:Int->Int->Prop)(g:Int->Int->V):R2:=λx y H Q=>∃i j,x=.int i/\y=.int j/\C i j/\Q (g i j) H
def Og(g:Int->Int->V):R2:=λx y H Q=>∃i j,x=.int i/\y=.int j/\Q (g i j) H
def rU(g:Int->V):V->Hp->VK->Prop:=λx H Q=>∃i,x=.int i/\Q (g i) H
section
variable{X:Cx}{a b c:Expr}{ta tb tc:TE}{pos:Pos}
theorem PJ(ha:PE X a ta)(hb:PE X b tb){σ:St}{H:Hp}{R:V->V->Hp->Prop}(I:a9 X ae σ H s)(h:ta σ H λx H1=>tb σ H1 λy H2=>R x y H2){Q:_c}{f:_m->_m->Sem _m}(hf:∀v u s2 x y H2,a9 X ae σ H2 s2->bW x v->bW y u->R x y H2->wpAny (model X.prog X.w) X.A (f v u) Q X.xe s2):
  wpAny (model X.prog X.w) X.A (eval a X.env) (λv s₁=>wpAny (model X.prog X.w) X.A (eval b X.env) (λu s₂=>wpAny (model X.prog X.w) X.A (f v u) Q X.xe s₂) X.xe s₁) X.xe s:=by
 refine fv (ha ae s σ H _ I h) λv s1⟨x,H1,I1,r1,q1⟩=>?_;refine fv (hb ae s1 σ H1 _ I1 q1) λu s2⟨y,H2,I2,r2,q2⟩=>?_;exact hf v u s2 x y H2 I2 r1 r2 q2
theorem T6{op:Operator}{r:R2}(ho:gJ X (binaryOp op) r)(ha:PE X a ta)(hb:PE X b tb):PE X (.BinOp a op b pos) (SX r ta tb):=by intro ae s σ H Q I h;exact wpAny_BinOp (PJ ha hb I h λv u s2 x y H2 I2 rx ry q=>ho ae s2 σ H2 x y v u Q I2 rx ry q)
theorem T7{op:UnaryOp}{r:V->Hp->VK->Prop}(ho:UnR X (unaryOp op) r)(ha:PE X a ta):PE X (.UnaryOp op a pos) (tUn r ta):=by intro ae s σ H Q I h;exact UnaryOp_ (fv (ha ae s σ H _ I h) λv s1⟨x,H1,I1,r1,q1⟩=>ho ae s1 σ H1 x v Q I1 r1 q1)
theorem T8{f:_m->_m->Sem _m}{C:Int->Int->Prop}{g:Int->Int->Int}(rule:∀(i j:Int)(t u:Tok)(s:_n)(Q:_c)(E:_c),C i j->Q (.int (g i j) s.toks) {s with toks:=s.toks+1}->wpAny (model X.prog X.w) X.A (f (.int i t) (.int j u)) Q E s):
  gJ X f (rI C λi j=>.int (g i j)):=by
 intro ae s σ H x y v u Q I rx ry h;obtain⟨i,j,rfl,rfl,hc,q⟩:=h;obtain⟨t,rfl⟩:=rx;obtain⟨t',rfl⟩:=ry;exact rule i j t t' s _ _ hc ⟨.int (g i j),H,I.tok _,⟨_,rfl⟩,q⟩
theorem LZ{f:_m->_m->Sem _m}{g:Int->Int->Int}(rule:∀(i j:Int)(t u:Tok)(s:_n)(Q:_c)(E:_c),Q (.int (g i j) s.toks) {s with toks:=s.toks+1}->wpAny (model X.prog X.w) X.A (f (.int i t) (.int j u)) Q E s):
  gJ X f (Og λi j=>.int (g i j)):=by
 intro ae s σ H x y v u Q I rx ry h;obtain⟨i,j,rfl,rfl,q⟩:=h;obtain⟨t,rfl⟩:=rx;obtain⟨t',rfl⟩:=ry;exact rule i j t t' s _ _ ⟨.int (g i j),H,I.tok _,⟨_,rfl⟩,q⟩
theorem T9{f:_m->_m->Sem _m}{g:Int->Int->Bool}(rule:∀(i j:Int)(t u:Tok)(s:_n)(Q:_c)(E:_c),Q (.bool (g i j)) s->wpAny (model X.prog X.w) X.A (f (.int i t) (.int j u)) Q E s):
  gJ X f (Og λi j=>.bl (g i j)):=by
 intro ae s σ H x y v u Q I rx ry h;obtain⟨i,j,rfl,rfl,q⟩:=h;obtain⟨t,rfl⟩:=rx;obtain⟨t',rfl⟩:=ry;exact rule i j t t' s _ _ ⟨.bl (g i j),H,I,rfl,q⟩
def HY(i j:Int):Prop:=0<=j/\j<=1000000/\i.natAbs<2 ^ 64
def HZ(i j:Int):Prop:=(-(2 ^ 64)<i/\i<2 ^ 64)\/(-(2 ^ 64)<j/\j<2 ^ 64)
theorem HZ.ok{i:Int}(h:HZ i j):IntMulOk i j:=by
 rcases h with⟨h1,h2⟩|⟨h1,h2⟩
 .exact .of_left (intBits_le_64 h1 h2)
 .exact .of_right (intBits_le_64 h1 h2)
theorem PL:gJ X (binaryOp .Add) (Og λi j=>.int (i+j)):=LZ λ_ _ _ _ _ _ _ q=>add_int q
theorem PN:gJ X (binaryOp .Sub) (Og λi j=>.int (i-j)):=LZ λ_ _ _ _ _ _ _ q=>sub_int q
theorem PQ:gJ X (binaryOp .Mult) (rI HZ λi j=>.int (i*j)):=T8 λ_ _ _ _ _ _ _ hc q=>mul_int q hc.ok
theorem L0:gJ X (binaryOp .Mod) (rI (λ_ j=>j≠0) λi j=>.int (i.fmod j)):=T8 λ_ _ _ _ _ _ _ hc q=>mod_int' hc q
theorem PR:gJ X (binaryOp .Pow) (rI HY λi j=>.int (i ^ j.toNat)):=T8 λ_ _ _ _ _ _ _ hc q=>pow_int_small hc.1 hc.2.1 hc.2.2 q
theorem L1:gJ X (inplaceOp .Add) (Og λi j=>.int (i+j)):=LZ λ_ _ _ _ _ _ _ q=>iadd_int q
theorem L3:gJ X (inplaceOp .Sub) (Og λi j=>.int (i-j)):=LZ λ_ _ _ _ _ _ _ q=>isub_int q
theorem unI{f:_m->Sem _m}{g:Int->Int}(rule:∀(i:Int)(t:Tok)(s:_n)(Q:_c)(E:_c),Q (.int (g i) s.toks) {s with toks:=s.toks+1}->wpAny (model X.prog X.w) X.A (f (.int i t)) Q E s):
  UnR X f (rU λi=>.int (g i)):=by
 intro ae s σ H x v Q I rx h;obtain⟨i,rfl,q⟩:=h;obtain⟨t,rfl⟩:=rx;exact rule i t s _ _ ⟨.int (g i),H,I.tok _,⟨_,rfl⟩,q⟩
theorem PU:UnR X (unaryOp .USub) (rU λi=>.int (-i)):=unI λ_ _ _ _ _ q=>neg_int q
end
section
variable{X:Cx}{a b c:Expr}{ta tb tc:TE}{pos:Pos}
theorem PV{σ:St}{H:Hp}{Q:VK}{k k':Bool}(I:a9 X ae σ H s)(q:Q (.bl k) H)(e:k=k'):EP X ae σ Q (.bool k') s:=by subst e;exact⟨.bl k,H,I,rfl,q⟩
theorem T_:gJ X (compareOp .Lt) (Og λi j=>.bl (decide (i<j))):=T9 λ_ _ _ _ _ _ _ q=>lt_int q
theorem T!:gJ X (compareOp .Gt) (Og λi j=>.bl (decide (j<i))):=T9 λ_ _ _ _ _ _ _ q=>gt_int q
theorem PX:gJ X (compareOp .Is) (λx y H Q=>y=.dj/\Q (.bl (decide (x=.dj))) H):=by
 intro ae s σ H x y v u Q I rx ry h;obtain⟨rfl,q⟩:=h;cases ry;refine is_none_gen (PV I q ?_);cases x<;>first
  |(cases rx;rfl)
  |(obtain⟨t,rfl⟩:=rx;rfl)
theorem gJ.or{f:_m->_m->Sem _m}{r r':R2}(h:gJ X f r)(h':gJ X f r'):gJ X f (λx y H Q=>r x y H Q\/r' x y H Q):=by
 intro ae s σ H x y v u Q I rx ry q;rcases q with q|q
 .exact h ae s σ H x y v u Q I rx ry q
 .exact h' ae s σ H x y v u Q I rx ry q
theorem H9(b:Expr)(h:op≠.In:=by decide)(h2:op≠.NotIn:=by decide):behindInMarks op b=false:=by
 have e1:(op==CmpOp.In)=false:=by cases op<;>first|rfl|exact absurd rfl h
 have e2:(op==CmpOp.NotIn)=false:=by cases op<;>first|rfl|exact absurd rfl h2
 cases b<;>simp[behindInMarks,e1,e2]
theorem L4{r:R2}(ho:gJ X (compareOp op) r)(ha:PE X a ta)(hb:PE X b tb)(hm:behindInMarks op b=false):PE X (.Compare a [op] [b] pos) (SX r ta tb):=by intro ae s σ H Q I h;exact wpAny_Compare1 (PJ ha hb I h λv u s2 x y H2 I2 rx ry q=>ho ae s2 σ H2 x y v u Q I2 rx ry q) hm
def T?(t:TE):TT:=λσ H Q=>t σ H λx H'=>∃k,x=.bl k/\Q k H'
theorem L5{r:R2}(ho:gJ X (compareOp op) r)(ha:PE X a ta)(hb:PE X b tb)(hm:behindInMarks op b=false):PT X (.Compare a [op] [b] pos) (T? (SX r ta tb)):=by
 intro ae s σ H Q I h;refine wpAny_isTrue_Compare1 (fv (ha ae s σ H _ I h) λv s1⟨x,H1,I1,r1,q1⟩=>fv (hb ae s1 σ H1 _ I1 q1) λu s2⟨y,H2,I2,r2,q2⟩=>
  fv (ho ae s2 σ H2 x y v u _ I2 r1 r2 q2) λc s3⟨z,H3,I3,r3,k,e,q3⟩=>?_) hm
 subst e;cases r3;exact Xv ⟨H3,I3,q3⟩
theorem qb:(sizeLine:Nat)<2 ^ 63:=by rw[Vp];decide
theorem CO:gJ X (binaryOp .Add) (λx y H Q=>∃i j,x=.str i/\y=.str j/\i.length+j.length<=sizeLine/\Q (.str (i++j)) H):=by intro ae s σ H x y v u Q I rx ry h;obtain⟨i,j,rfl,rfl,hz,q⟩:=h;obtain⟨t,rfl⟩:=rx;obtain⟨t',rfl⟩:=ry;exact add_str (λt' tk=>⟨.str (i++j),H,I.tok _,⟨_,rfl⟩,q⟩) hz
theorem vals1{x:V}{us:_i}(r:bx [x] us):∃u,us=[u]/\bW x u:=by
 cases r with
 |cons r1 r2=>cases r2;exact⟨_,rfl,r1⟩
theorem vals2{x y:V}{us:_i}(r:bx [x,y] us):∃u w',us=[u,w']/\bW x u/\bW y w':=by
 cases r with
 |cons r1 r2=>
  cases r2 with
  |cons r3 r4=>cases r4;exact⟨_,_,rfl,r1,r3⟩
theorem H_:dE X (.builtin "abs") (λxs H Q=>∃i,xs=[.int i]/\Q (.int (if i<0 then -i else i)) H):=by intro ae s σ H xs us Q I r h;obtain⟨i,rfl,q⟩:=h;obtain⟨u,rfl,t,rfl⟩:=vals1 r;exact call_abs_int λu tk=>⟨.int (if i<0 then -i else i),H,I.tok _,⟨_,rfl⟩,q⟩
end
structure PY(h:Heap)(x dx C:_o)(mA:_d):Prop where
 obj:h.get? x=some (W.instObj C dx)
 ns:h.Ns1 dx mA
 ne:dx≠x
theorem Gd{mA:_d}(n:h.Ns1 dx mA):∃od,h.get? dx=some od/\∀name,W.lookIn name od=some (mA name):=by
 obtain⟨o,es,ep,ho,hd,hk,_,hm⟩:=n;refine⟨o,ho,λname=>?_⟩;have e:=hm name;unfold nsFind findBy at e;rw[<-Array.find?_toList]at e;unfold W.lookIn;rw[hd];dsimp only;split
 .rename_i y q;rw[q]at e;exact WE some e
 .rename_i q;rw[q]at e;have a:es.toList.any (·.refKey)=false:=by rw[List.any_eq_false];intro y hy;obtain⟨z,t,abh⟩:=hk y (Array.mem_toList_iff.mp hy);simp[DictEntry.refKey,abh]
  have a':¬ es.toList.any (·.refKey)=true:=by rw[a];exact VW
  rw[VG a'];exact WE some e
theorem PY.look{x:_o}{mA:_d}(I:PY h x dx C mA):∃od,W.InstAt h x (W.instObj C dx) C (some od)/\∀name,W.lookIn name od=some (mA name):=
 let⟨od,ho,hl⟩:=Gd I.ns
 ⟨od,⟨I.obj,rfl,rfl,ho⟩,hl⟩
theorem vM.some_of{v:V}{o:_j}(r:vM (some v) o):∃u,o=some u/\bW v u:=by
 cases o with
 |none=>exact(show False from r).elim
 |some u=>exact⟨u,rfl,r⟩
section
variable{w:World}{H H':Hp}{a:_o}{fs HE:List (Str×V)}
theorem L6(dJ:m6 P w H h)(e:H a=some (.ins C dx fs)):∃mA,PY h a dx C mA/\(∀f,vM (fs.lookup f) (mA f))/\PySem.Within mA (fs.map (·.1))/\fs.length<=1000/\H dx=some (.own a):=by
 obtain⟨d,z,ne,ob,mA,n,r,q⟩:=(show dR P w H h a (.ins C dx fs)from dJ a _ e)
 exact⟨mA,⟨ob,n,ne⟩,r,q,z,d⟩
end
structure Cls(K:_g)(C:_o):Prop where
 pg:W.plainGet K C Str.empty=true
 hd:W.hasDictIn K C=true
 po:W.plainOver K C=true
 sa:W.findIn K (.ref C) "__setattr__" = some (some (.builtin "object.__setattr__"))
theorem Cls.get{K:_g}(c:Cls K C)(f:Str):W.plainGet K C f=true:=c.pg
section
variable{X:Cx}{σ:St}{H:Hp}{A:_p}{E:_c}{Q:_c}{c:_m}{b:Bool}
inductive uC(K:_g)(H:Hp):V->_m->Prop where
 |dj:uC K H .dj (.type "NoneType")
 |bl (x:Bool):uC K H (.bl x) (.type "bool")
 |int (i:Int):uC K H (.int i) (.type "int")
 |str (x:Str):uC K H (.str x) (.type "str")
 |u? (x:UInt64):uC K H (.u? x) (.type "float")
 |lst {a:_o} {xs:List V} (e:H a=some (.lst xs)):uC K H (.ref a) (.type "list")
 |lX {a:_o} {o:Obj} {xs:List V} (e:H a=some (.lX o (.lst xs))):uC K H (.ref a) (.type "list")
 |tup {a:_o} {xs:List V} (e:H a=some (.tup xs)):uC K H (.ref a) (.type "tuple")
 |dK {a:_o} {aW:List (fX×V)} (e:H a=some (.dK aW)):uC K H (.ref a) (.type "dict")
 |dT {a:_o} {aW:List (List fX×V)} (e:H a=some (.dT aW)):uC K H (.ref a) (.type "dict")
 |ins {a C dx:_o} {fs:List (Str×V)} (e:H a=some (.ins C dx fs)) (cl:Cls K C) (ha:W.findIn K (.ref C) "__class__" = some (some (.builtin "object.__class__")))
   (hn:W.specialIn K (.builtin "object.__class__") "__get__" = some (some (.builtin "getset_descriptor.__get__"))) (htk:W.takesIn K (.builtin "object.__class__")=some true)
   (hm:W.mroIn K C (.type "object")=some true):uC K H (.ref a) (.ref C)
theorem iw{x:V}{u t:_m}(I:a9 X ae σ H s)(rx:bW x u)(ty:uC X.K H x t)(e:W.kitOne X.K t c=some b)(h:∀tk,Q (.bool b) {s with toks:=tk}):
  wpAny (model X.prog X.w) A (call (.builtin "isinstance") [u,c]) Q E s:=by
 cases ty with
 |dj=>cases(show u=Value.none from rx);exact Ww W.kitx_none I.A8 True.intro e (λz=>nomatch z) h
 |bl y=>cases(show u=Value.bool y from rx);exact Ww W.kitx_bool I.A8 True.intro e (λz=>nomatch z) h
 |int i=>obtain⟨t,q⟩:=(show ∃t,u=Value.int i t from rx);cases q;exact Ww W.kitx_int I.A8 True.intro e (λz=>nomatch z) h
 |str y=>obtain⟨t,q⟩:=(show ∃t,u=Value.str y t from rx);cases q;exact Ww W.kitx_str I.A8 True.intro e (λz=>nomatch z) h
 |u? y=>obtain⟨t,q⟩:=(show ∃t,u=Value.float y t from rx);cases q;exact Ww W.kitx_float I.A8 True.intro e (λz=>nomatch z) h
 | @lst a xs ea=>
  cases(show u=Value.ref a from rx);obtain⟨_,_,n,_,h1⟩:=(show dR X.prog X.w H s.heap a (.lst xs)from I.dJ a _ ea)
  exact Ww ZW I.A8 ⟨_,h1,rfl⟩ e (λz=>nomatch z) h
 | @lX a ob xs ea=>
  cases(show u=Value.ref a from rx);obtain⟨_,_,_,n,_,h1⟩:=(show dR X.prog X.w H s.heap a (.lX ob (.lst xs))from I.dJ a _ ea)
  exact Ww ZW I.A8 ⟨_,h1,rfl⟩ e (λz=>nomatch z) h
 | @tup a xs ea=>
  cases(show u=Value.ref a from rx);obtain⟨_,_,_,p⟩:=(show dR X.prog X.w H s.heap a (.tup xs)from I.dJ a _ ea)
  obtain⟨o,h1,h2,_⟩:=p;exact Ww ZS I.A8 ⟨o,h1,h2⟩ e (λz=>nomatch z) h
 | @dK a aW ea=>
  cases(show u=Value.ref a from rx);obtain⟨_,_,vs,_,p⟩:=(show dR X.prog X.w H s.heap a (.dK aW)from I.dJ a _ ea)
  obtain⟨o,es,ep,h1,h2,_⟩:=p;exact Ww ZX I.A8 ⟨o,h1,h2.1⟩ e (λz=>nomatch z) h
 | @dT a aW ea=>
  cases(show u=Value.ref a from rx);obtain⟨_,_,xs,_,o,es,ep,h1,h2,_⟩:=(show dR X.prog X.w H s.heap a (.dT aW)from I.dJ a _ ea)
  exact Ww ZX I.A8 ⟨o,h1,h2.1⟩ e (λz=>nomatch z) h
 | @ins a C dx fs ea cl ha hn htk hm=>
  cases(show u=Value.ref a from rx);obtain⟨mA,O,_⟩:=L6 I.dJ ea;obtain⟨od,J,_⟩:=O.look;exact Ww (W.kitx_own (cl.get _) cl.hd ha hn htk hm) I.A8 J e (λz=>nomatch z) h
end
structure gK(k:Nat)(A:_p):Prop where
 hd:A.handled=none
 dp:A.depth+3*k+5<recursionLimit
 un:A.units+16*k+200<cLine
theorem gK.mono{j k:Nat}{A:_p}(r:gK k A)(h:j<=k):gK j A:=⟨r.hd,by have:=r.dp;lia,by have:=r.un;lia⟩
theorem gK.deeper{k:Nat}{A:_p}(r:gK (k+1) A)(env:Env):gK k (A.deeper env):=
 ⟨r.hd,by have:=r.dp;show A.depth+1+3*k+5<_;lia,by have:=r.un;show A.units+3+16*k+200<_;lia⟩
theorem gK.in1{k:Nat}{A:_p}(r:gK (k+1) A):gK k A.in1:=
 ⟨r.hd,by have:=r.dp;show A.depth+3*k+5<_;lia,by have:=r.un;show A.units+1+16*k+200<_;lia⟩
theorem gK.depth{k:Nat}{A:_p}(r:gK k A):A.depth<recursionLimit:=by have:=r.dp;lia
theorem gK.units{k:Nat}{A:_p}(r:gK k A):A.units+64<cLine:=by have:=r.un;lia
def Ua:TA:=λ_ H Q=>Q [] H
def Oh(ta:TE)(tr:TA):TA:=λσ H Q=>ta σ H λx H1=>tr σ H1 λxs H2=>Q (x::xs) H2
section
variable{X:Cx}{e:Expr}{te:TE}{t:TA}{pos:Pos}
theorem CP:PA X [] Ua:=λ_ _ _ _ H Q I h=>Calls.spliced_nil ⟨[],H,I,.nil,h⟩
theorem ve(ha:PE X e te)(hr:PA X es t)(hs:starEach (e::es) X.env=(false,eval e X.env)::starEach es X.env:=by rfl):PA X (e::es) (Oh te t):=by intro pos ae s σ H Q I h;rw[hs];show wpAny _ _ (spliced ((false,eval e X.env)::backTo pos (starEach es X.env))) _ _ s;refine Calls.spliced_cons (fv (ha ae s σ H _ I h) λu s1⟨x,H1,I1,r1,q1⟩=>?_);exact fv (hr pos ae s1 σ H1 _ I1 q1) λus s2⟨xs,H2,I2,r2,q2⟩=>⟨x::xs,H2,I2,.cons r1 r2,q2⟩
def abi(t:TA):TE:=λσ H Q=>t σ H λxs H1=>xs.length<=sizeLine/\∀p,H1 p=none->Q (.ref p) (upd H1 p (.tup xs))
def abj(t:TA):TE:=λσ H Q=>t σ H λxs H1=>xs.length<=sizeLine/\∀p,H1 p=none->Q (.ref p) (upd H1 p (.lst xs))
theorem PZ{x1}(h:PA X es t):PE X (.Tuple es x1 pos) (abi t):=by intro ae s σ H Q I hq;refine wpAny_Tuple_spliced (fv (h pos ae s σ H _ I hq) λus s1⟨xs,H1,I1,r,z,q⟩=>⟨by rw[<-r.length];exact z,?_⟩);have hf:H1 s1.heap.objs.size=none:=I1.dJ.fresh (Vt _);refine⟨.ref s1.heap.objs.size,upd H1 s1.heap.objs.size (.tup xs),I1.laid (t':=s1.toks) (λb u e=>Vl _ e) (Vt _) ?_,rfl,q _ hf⟩;exact⟨z,us,r,⟨_,VT _ rfl,rfl,_,rfl⟩⟩
theorem P0(h:PA X es t):PE X (.List es pos) (abj t):=by intro ae s σ H Q I hq;refine wpAny_List_spliced (fv (h pos ae s σ H _ I hq) λus s1⟨xs,H1,I1,r,z,q⟩=>⟨by rw[<-r.length];exact z,?_⟩);have hf:H1 s1.heap.objs.size=none:=I1.dJ.fresh (Vt _);refine⟨.ref s1.heap.objs.size,upd H1 s1.heap.objs.size (.lst xs),I1.laid (t':=s1.toks) (λb u e=>Vl _ e) (Vt _) ?_,rfl,q _ hf⟩;exact⟨z,us,0,r,VT _ rfl⟩
end
abbrev Sp:=List V->Hp->VK->XK->Prop
abbrev H!:=List Env->Hp->_n->XK->_m->_n->Prop
structure CQ(P:_q)(w:World)(K:_g)(mg:_d)(base:Heap)(A:_p)(outer:List Env)(s:_n)(H:Hp):Prop where
 frames:A.frames=some outer
 mod:Mod K mg base
 bs:∀b o,base.get? b=some o->s.heap.get? b=some o/\H b=none
 Pb:base.objs.size<=s.heap.objs.size
 vN:s.heap.FunFrames base outer
 Od:∀b∈kR outer,H b=none
 dJ:m6 P w H s.heap
 bare:AllBare s.gens
def CE(outer:List Env)(P:_q)(w:World)(H:Hp)(s:_n)(Q:VK)(u:_m)(s':_n):Prop:=
 ∃v H',s'.os=s.os/\AllBare s'.gens/\Un (kR outer) [] H H' s.heap s'.heap/\m6 P w H' s'.heap/\bW v u/\Q v H'
def CR(CX:H!)(outer:List Env)(P:_q)(w:World)(H:Hp)(s:_n)(Q:VK)(E:XK)(r:Result)(s':_n):Prop:=
 match r with
 |.ok (.ret u)=>CE outer P w H s Q u s'
 |.ok _=>False
 |.error e=>CX outer H s E e s'
structure vQ(P:_q)(w:World)(K:_g)(mg:_d)(base:Heap)(CX:H!)(k:Nat)(f:_o)(fd:FuncData)(ps:_l)(sp:Sp):Prop where
 len:∀vs H Q E,sp vs H Q E->vs.length=ps.length
 run:∀(A:_p)(outer:List Env)(s:_n)(H:Hp)(args:Args)(us:_i)(vs:List V)(Q:VK)(E:XK),gK k A->CQ P w K mg base A outer s H->BindsTo s fd args (ps.zip us)->bx vs us->sp vs H Q E ->
  codeAny (model P w) A (.call (.ref f) args) (CR CX outer P w H s Q E) s
section
variable{X:Cx}{σ:St}{H:Hp}{s':_n}
theorem a9.Ub(I:a9 X ae σ H s):CQ X.prog X.w X.K X.mg X.base X.A X.stack s H:=
 ⟨I.ok.frames,I.ok.mod,I.bs,V! I.ok.Pb I.sz,I.stack,I.zO,I.dJ,I.bare⟩
theorem a9.after{Q:VK}{u:_m}(I:a9 X ae σ H s)(h:CE X.stack X.prog X.w H s Q u s'):EP X ae σ Q u s':=by obtain⟨v,H',os,bare,un,dJ,r,q⟩:=h;obtain⟨hh,g,d,t,os'⟩:=s';obtain rfl:os'=s.os:=os;exact⟨v,H',I.call (h':=hh) (g':=g) (d':=d) (t':=t) (ch:=[]) un dJ bare (λb z=>absurd z (by simp)),r,q⟩
end
def Uc(sp:Sp)(L7:List V)(E:XK)(t:TA):TE:=λσ H Q=>t σ H λvs H1=>sp (vs++L7) H1 Q E
def Binds(K:_g)(fd:FuncData)(ps:_l)(ds:_i):Prop:=
 ∀(s:_n)(us:_i),K.In s.heap->(us++ds).length=ps.length->BindsTo s fd ⟨us,[]⟩ (ps.zip (us++ds))
theorem Binds.all{K:_g}{fd:FuncData}{ps:_l}(h:∀us:_i,us.length=ps.length->bindArgs fd ⟨us,[]⟩=pure (ps.zip us)):Binds K fd ps []:=λs us _ hl=>by rw[Wc]at hl⊢;exact .of_eq (h us hl)
def Passes(CX:H!)(X:Cx)(E:XK):Prop:=∀(ae:_e)(σ:St)(H:Hp)(s:_n)(e:_m)(s':_n),a9 X ae σ H s->CX X.stack H s E e s'->X.xe e s'
section
variable{X:Cx}{CX:H!}{k:Nat}{f:_o}{fd:FuncData}{ps:_l}{sp:Sp}{L7:List V}{ds:_i}{E:XK}{x m:Str}{p pos:Pos}{e:Expr}{ta:TE}{t:TA}
theorem P_{σ:St}{H:Hp}{Q:VK}{us:_i}{vs:List V}(F:vQ X.prog X.w X.K X.mg X.base CX k f fd ps sp)(hr:gK k X.A)(hb:Binds X.K fd ps ds)(hd:bx L7 ds)(hx:Passes CX X E)(I:a9 X ae σ H s)(r:bx vs us)(h:sp (vs++L7) H Q E):wpAny (model X.prog X.w) X.A (call (.ref f) us) (EP X ae σ Q) X.xe s:=by
 have r2:bx (vs++L7) (us++ds):=r.append hd;have hl:(us++ds).length=ps.length:=by rw[<-r2.length];exact F.len _ _ _ _ h
 refine wpAny_call (Yq (F.run X.A X.stack s H ⟨us,[]⟩ (us++ds) (vs++L7) Q E hr I.Ub (hb s us I.A8 hl) r2 h) λr s' hq=>?_);cases r with
 |error e=>exact hx ae σ H s e s' I hq
 |ok fl=>
  cases fl with
  |ret u=>exact I.after hq
  |next=>exact False.elim hq
  |brk=>exact False.elim hq
  |cont=>exact False.elim hq
theorem L8(F:vQ X.prog X.w X.K X.mg X.base CX k f fd ps sp)(hr:gK k X.A)(hg:Gl X x)(hm:X.mg x=some (.ref f))(hk:W.keepIn X.K (.ref f)=true)(hb:Binds X.K fd ps ds)(hd:bx L7 ds)(hx:Passes CX X E)(ha:PA X (e::es) t)(Bk:(x==("__debug__":Str))=false:=by decide)(he:starEach (e::es) X.env=(false,eval e X.env)::starEach es X.env:=by rfl)(tZ:(backTo pos (starEach es X.env)).any (·.1)=false:=by rfl):
  PE X (.Call (.Name x p) (e::es) [] pos) (Uc sp L7 E t):=by
 intro ae s σ H Q I h;refine X_ (zP I hg hm ?_ Bk);refine W.callWith_K (h₀:=X.base) I.ok.mod.Tv hk (fv (ha pos ae s σ H _ I h) λus s1⟨vs,H1,I1,r,q⟩=>⟨I1.A8,?_⟩) he tZ;exact P_ F hr hb hd hx I1 r q
end
def PK(X:Cx)(H?:List Keyword)(t:TA):Prop:=
 ∀(pos:Pos)(ae:_e)(s:_n)(σ:St)(H:Hp)(Q:List V->Hp->Prop),a9 X ae σ H s->t σ H Q->wpAny (model X.prog X.w) X.A (evalAll ((backToKw pos (keywordEach H? X.env)).map (·.2))) (AP X ae σ Q) X.xe s
section
variable{X:Cx}{CX:H!}{k:Nat}{f:_o}{fd:FuncData}{ps ks:_l}{sp:Sp}{E:XK}{x m:Str}{p pos abk:Pos}{e:Expr}{H?:List Keyword}{te ta:TE}{t tk:TA}{nm:Option Str}
theorem P!:PK X [] Ua:=λ_ _ _ _ H Q I h=>wpAny_evalAll_nil ⟨[],H,I,.nil,h⟩
theorem L9(ha:PE X e te)(hr:PK X H? t):PK X (⟨nm,e,abk⟩::H?) (Oh te t):=by intro pos ae s σ H Q I h;show wpAny _ _ (evalAll ((do let v <- eval e X.env;standAt pos;pure v)::(backToKw pos (keywordEach H? X.env)).map (·.2))) _ _ s;refine wpAny_evalAll_cons (Vh (fv (ha ae s σ H _ I h) λu s1⟨x,H1,I1,r1,q1⟩=>Vh (YU (VE ?_))));exact fv (hr pos ae s1 σ H1 _ I1 q1) λus s2⟨xs,H2,I2,r2,q2⟩=>⟨x::xs,H2,I2,.cons r1 r2,q2⟩
variable{g:_i->_i->_i}{gV:List V->List V->List V}
end
structure je(N P:_l)(sc:Scope):Prop where
 kind:sc.kind=.function
 co:sc.isCoroutine=false
 gen:sc.isGenerator=false
 nd:N.Nodup
 pre:N.take P.length=P
 par:∀x∈P,sc.names.lookup x=some .local\/sc.names.lookup x=some .cell
 zQ:∀y∈sc.names,y.2≠.free
theorem yy{kindOf:Str->Option NameKind}{x:Str}:∀{binds:List (Str×_m)}{m:_d},(∀v,(x,v) ∉ binds)->bindL kindOf binds m x=m x
 |[],_,_=>rfl
 |(n,v)::r,m,h=>by
  unfold bindL;rw[yy λw hw=>h w (Vx _ hw)];split
  .have:x≠n:=by rintro rfl;exact h v Vu
   simp[this]
  .rfl
theorem yz{kindOf:Str->Option NameKind}{x:Str}:∀{binds:List (Str×_m)}{m:_d},(∀v,(x,v) ∉ binds)->bindC kindOf binds m x=m x
 |[],_,_=>rfl
 |(n,v)::r,m,h=>by
  unfold bindC;rw[yz λw hw=>h w (Vx _ hw)];split
  .rfl
  .have:x≠n:=by rintro rfl;exact h v Vu
   simp[this]
theorem yA{kindOf:Str->Option NameKind}{x:Str}{v:_m}:∀{P:_l}{vs:_i}{i:Nat}{m:_d},P.Nodup->P[i]?=some x->vs[i]?=some v->kindOf x=some .local ->
  bindL kindOf (P.zip vs) m x=some v
 |[],_,_,_,_,h,_,_=>by simp at h
 |_::_,[],_,_,_,_,h,_=>by simp at h
 |p::P,w::vs,0,m,nd,h1,h2,hk=>by simp at h1 h2;subst h1;subst h2;show bindL kindOf ((p,w)::P.zip vs) m p=_;unfold bindL;rw[yy λv hv=>(WJ.mp nd).1 (XA hv).1,Vv hk];simp
 |p::P,w::vs,i+1,m,nd,h1,h2,hk=>by show bindL kindOf ((p,w)::P.zip vs) m x=_;unfold bindL;exact yA (i:=i) (WJ.mp nd).2 (by simpa using h1) (by simpa using h2) hk
theorem yB{kindOf:Str->Option NameKind}{x:Str}{v:_m}:∀{P:_l}{vs:_i}{i:Nat}{m:_d},P.Nodup->P[i]?=some x->vs[i]?=some v->kindOf x≠some .local ->
  bindC kindOf (P.zip vs) m x=some v
 |[],_,_,_,_,h,_,_=>by simp at h
 |_::_,[],_,_,_,_,h,_=>by simp at h
 |p::P,w::vs,0,m,nd,h1,h2,hk=>by simp at h1 h2;subst h1;subst h2;show bindC kindOf ((p,w)::P.zip vs) m p=_;unfold bindC;rw[yz λv hv=>(WJ.mp nd).1 (XA hv).1,VG hk];simp
 |p::P,w::vs,i+1,m,nd,h1,h2,hk=>by show bindC kindOf ((p,w)::P.zip vs) m x=_;unfold bindC;exact yB (i:=i) (WJ.mp nd).2 (by simpa using h1) (by simpa using h2) hk
def start(N:_l)(vs:List V):St:=vs.map some++List.replicate (N.length-vs.length) none
def jS(CX:H!)(P:_q)(w:World)(K:_g)(mg:_d)(base:Heap)(N:_l)(qual:Str)(scope:Scope)(f:_o)(cd:_m)(A:_p)(outer:List Env)(s:_n)(H:Hp)(E:XK):Cx where
 prog:=P
 w:=w
 K:=K
 mg:=mg
 base:=base
 A:=A.deeper (envOfC qual scope s.heap.objs.size f cd)
 N:=N
 s₀:=s
 H₀:=H
 env:=envOfC qual scope s.heap.objs.size f cd
 outer:=outer
 stack:=envOfC qual scope s.heap.objs.size f cd::outer
 ex:=[]
 calm:=true
 fn:=λ_=>true
 pn:=[]
 xe:=λe s'=>wpAny (model P w) (A.deeper (envOfC qual scope s.heap.objs.size f cd)) (leaving (envOfC qual scope s.heap.objs.size f cd) e) (λ_ pv=>CX outer H s E e pv) (λe' pv=>CX outer H s E e' pv) s'
theorem Bl{sc:Scope}{n:Nat}{x:Str}(h:sc.names.lookup x=some .cell):∃c,(cellsFrom n sc.names []).lookup x=some c:=by have q:=Zp sc.names n [] (.inl h);exact Option.isSome_iff_exists.mp q
theorem Ge{CX:H!}{w:World}{K:_g}{mg:_d}{base:Heap}{N ps:_l}{qual:Str}{scope:Scope}{f:_o}{cd:_m}{A:_p}{outer:List Env}{s1:_n}{H:Hp}{E:XK}{us:_i}{vs:List V}(S:je N ps scope)(hd:A.handled=none)(e0:CQ P w K mg base A outer s H)(hl:vs.length=ps.length)(r:bx vs us)(x:InCallC s s.heap.objs.size (bindL (envOfC qual scope s.heap.objs.size f cd).kindOf (ps.zip us) λ_=>none) (cellsFrom (s.heap.objs.size+1) scope.names []) (bindC (envOfC qual scope s.heap.objs.size f cd).kindOf (ps.zip us) λ_=>none) s1):
  a9 (jS CX P w K mg base N qual scope f cd A outer s H E) [] (start N vs) H s1:=by
 have tZ:ps.length<=N.length:=by have:=WE List.length S.pre;rw[Zx]at this;lia
 obtain⟨h1,tk,rfl,hk⟩:=x.done;have SY:∀b:_o,b ∉ (jS CX P w K mg base N qual scope f cd A outer s H E).ex:=λb z=>absurd (show b∈([]:_k)from z) (by simp);refine⟨⟨e0.mod,S.kind,rfl,rfl,Vt _,λy z c h1 h2=>?_,λy hy=>?_,λy c _ h=>?_,λ_=>hd,Around.frames_deeper e0.frames,.inr ⟨rfl,rfl⟩,λb z=>absurd z (SY b),e0.bs,e0.Pb,λb _ _=>SY b,λb z=>absurd z (SY b),e0.vN,e0.Od⟩,
  rfl,e0.bare,Un.kept hk,⟨_,x.toInCall.ns,λi y v h1 h2 h3=>?_⟩,λy c h=>⟨_,x.cell y c h⟩,e0.dJ.fresh (Vt _),λy c h=>?_,λp hp=>absurd (show p∈([]:_e)from hp) (by simp),e0.dJ.kept hk,?_⟩
 .exact name_of_addr x.apart (Wz h1) (Wz h2)
 .have hy:scope.names.lookup y=some .cell\/scope.names.lookup y=some .free:=hy;rcases hy with hy|hy
  .exact Bl hy
  .exact absurd rfl (S.zQ _ (Wz hy))
 .exact YK (x.above y c (Wz h))
 .have hi:i<vs.length:=by
   unfold start at h2;by_cases hi:i<vs.length
   .exact hi
   .rw[V2 (by simpa using hi)]at h2;rw[W8]at h2;split at h2<;>cases h2
  have ha:vs[i]?=some v:=by
   unfold start at h2;rw[V3 (by simpa using hi),Vy]at h2;cases e:vs[i]? with
   |none=>rw[e]at h2;cases h2
   |some a=>rw[e]at h2;cases h2;rfl
  obtain⟨u,hu,rv⟩:=r.get ha;have hp:ps[i]?=some y:=by rw[<-S.pre,List.getElem?_take_of_lt ⋯];exact h1
  have ndP:ps.Nodup:=by rw[<-S.pre];exact S.nd.sublist (List.take_sublist _ _)
  refine⟨u,rv,?_⟩;rcases S.par y (V_ hp)with k|k
  .exact .inl ⟨k,yA ndP hp hu k⟩
  .obtain⟨c,e⟩:=Bl (n:=s.heap.objs.size+1) k;refine .inr ⟨.inl k,c,e,?_⟩;have q:=x.cell y c e;rw[yB ndP hp hu (by show scope.names.lookup y≠_;rw[k];decide)]at q;exact q
 .exact e0.dJ.fresh (YK (x.above y c (Wz h)))
 .unfold start;show _=N.length;rw[Vj,Vg,V0];lia
theorem Oi{CX:H!}{w:World}{K:_g}{mg:_d}{base:Heap}{k:Nat}{f:_o}{qual:Str}{params:Arguments}{body:List Stmt}{scope:Scope}{dV kV pm ct:_m}{N ps:_l}{sp:Sp}(lk:K.lookup f=some ⟨oc,od,.func (W.fnOf name qual params body scope dV kV doc pm an iS ct),Ia⟩)(CI:W.codeIn K iS qual=true)(S:je N ps scope)(len:∀vs H Q E,sp vs H Q E->vs.length=ps.length)
  (Ib:∀ (A:_p) (outer:List Env) (s:_n) (H:Hp) (vs:List V) (Q:VK) (E:XK),gK k (A.deeper (envOfC qual scope s.heap.objs.size f iS))->sp vs H Q E ->
   ∃t,pY (jS CX P w K mg base N qual scope f iS A outer s H E) body t/\t {nx:=λ_ H'=>Q .dj H',rt:=Q} (start N vs) H):
  vQ P w K mg base CX (k+1) f (W.fnOf name qual params body scope dV kV doc pm an iS ct) ps sp:=by
 refine⟨len,λA outer s H args us vs Q E hr e0 hb r S0=>?_⟩;have hl:=len _ _ _ _ S0;have KX:K.In s.heap:=e0.mod.Tv.keeps λb o e=>(e0.bs b o e).1;have lim:s.heap.NoLimit:=e0.mod.nolimit.keeps λb o e=>(e0.bs b o e).1;have Ud:∀y∈ps.zip us,scope.names.lookup y.1=some .local\/(scope.names.lookup y.1=some .cell/\((cellsFrom (s.heap.objs.size+1) scope.names []).lookup y.1).isSome=true):=λ⟨n,v⟩hy=>by
  rcases S.par n (XA hy).1 with q|q
  .exact .inl q
  .exact .inr ⟨q,Zp _ _ _ (.inl q)⟩
 refine codeAny_call_function hr.depth (KX _ _ lk) rfl S.co S.gen rfl (W.codeRec_of KX CI) (hb _ _ _ _ ?_);refine wpAny_newFunctionEnv_cells S.kind Ud λenv he s1 x=>?_;subst he;refine⟨lim.keeps x.toInCall.keep,codeAny_func ?_⟩;obtain⟨t,ht,hq⟩:=Ib A outer s H vs Q E (hr.deeper _) S0;have I:a9 (jS CX P w K mg base N qual scope f iS A outer s H E) [] (start N vs) H s1:=Ge S hr.hd e0 hl r x;refine WC (ht [] s1 (start N vs) H _ I hq) (λfl s' hs=>?_) λe s' hs=>hs;have fin:∀{σ':St}{H':Hp}{v:V}{u:_m},a9 (jS CX P w K mg base N qual scope f iS A outer s H E) [] σ' H' s'->bW v u->Q v H'->CE outer P w H s Q u s':=
  λ{σ' H' v u}J rv q=>⟨v,H',J.os,J.bare,J.base,J.dJ,rv,q⟩
 cases fl with
 |ret u=>
  obtain⟨v,σ',H',J,rv,q⟩:=hs;exact fin J rv q
 |next=>
  obtain⟨σ',H',J,q⟩:=hs;exact fin (v:=V.dj) (u:=Value.none) J rfl q
 |brk=>
  obtain⟨_,_,_,q⟩:=hs;exact False.elim q
 |cont=>
  obtain⟨_,_,_,q⟩:=hs;exact False.elim q
section
variable{X:Cx}{x:Str}{p pos:Pos}{e:Expr}{t:TA}{id T:String}{r:List V->Hp->VK->Prop}
def tCB(r:List V->Hp->VK->Prop)(t:TA):TE:=λσ H Q=>t σ H λvs H1=>r vs H1 Q
theorem Bm(hc:dE X (.builtin id) r)(hg:Gl X x)(hm:X.mg x=none)(hv:bootBuiltins x=some (.builtin id))(ha:PA X (e::es) t)(hn:x ≠ "__name__":=by decide)(Bk:(x==("__debug__":Str))=false:=by decide)(he:starEach (e::es) X.env=(false,eval e X.env)::starEach es X.env:=by rfl)(tZ:(backTo pos (starEach es X.env)).any (·.1)=false:=by rfl):PE X (.Call (.Name x p) (e::es) [] pos) (tCB r t):=by intro ae s σ H Q I h;refine X_ (m7 I hg hm hv ?_ hn Bk);exact PyProof.Rows.callWith_builtin1 (fv (ha pos ae s σ H _ I h) λus s1⟨vs,H1,I1,r1,q1⟩=>hc ae s1 σ H1 vs us Q I1 r1 q1) he tZ
theorem Gf(hc:dE X (.type T) r)(hg:Gl X x)(hm:X.mg x=none)(hv:bootBuiltins x=some (.type T))(ha:PA X (e::es) t)(hn:x ≠ "__name__":=by decide)(Bk:(x==("__debug__":Str))=false:=by decide)(he:starEach (e::es) X.env=(false,eval e X.env)::starEach es X.env:=by rfl)(tZ:(backTo pos (starEach es X.env)).any (·.1)=false:=by rfl):PE X (.Call (.Name x p) (e::es) [] pos) (tCB r t):=by intro ae s σ H Q I h;refine X_ (m7 I hg hm hv ?_ hn Bk);exact WG (fv (ha pos ae s σ H _ I h) λus s1⟨vs,H1,I1,r1,q1⟩=>hc ae s1 σ H1 vs us Q I1 r1 q1) he tZ
end
end L2
variable {H H' H₀:L2.Hp}
variable {X:L2.Cx}
variable {N:List Str}
variable {A:Around}
variable {E:L2.XK}
variable {Q:L2.VK}
variable {σ:L2.St}
variable {te td:L2.TE}
variable {wi:L2.TI}
variable {prog:Program}
variable {sp:L2.Sp}
variable {base:Heap}
variable {J:L2.It}
variable {ns bs:_h}
namespace HT
open PyProof.Rows
section
variable{w:World}{E:_c}
theorem L_{t b:_o}{ws:_i}{Q:_c}(ht:IsTup s.heap t vs.toArray)(hb:IsTup s.heap b ws.toArray)(hv:vs≠[])(h1:ws=[]->Q (.ref t) s)(h2:ws≠[]->Q (.ref s.heap.objs.size) {s with heap:=s.heap.push {cls:=.type "tuple",data:=.seq (vs++ws).toArray} })(hsz:vs.length+ws.length<=sizeLine):wpAny (model prog w) A (binaryOp .Add (.ref t) (.ref b)) Q E s:=by
 obtain⟨⟨cls,dd,data,sl⟩,ho,hc,n,hd⟩:=id ht;obtain⟨⟨abl,dd2,data2,Ue⟩,HF,Bn,n2,hd2⟩:=id hb;simp only at hc hd Bn hd2;subst hc hd Bn hd2;have e:vs.toArray++ws.toArray=(vs++ws).toArray:=by simp
 by_cases hw:ws=[]
 .exact Z6 ⟨_,ho,rfl⟩ ⟨_,HF,rfl⟩ Zd ZO Yc X! (X8 _ _)
   (tuple_addW1 t b vs.toArray ws.toArray n n2 dd dd2 sl Ue (by simpa using hv) (by simp[hw])) ⟨ho,HF,h1 hw⟩
 .refine Z6 ⟨_,ho,rfl⟩ ⟨_,HF,rfl⟩ Zd ZO Yc X! (X8 _ _)
   (tuple_addW2 t b vs.toArray ws.toArray n n2 dd dd2 sl Ue (by simpa using hv) (by simpa using hw) (by rw[VB,VB];exact hsz)) ⟨ho,HF,?_⟩
  rw[e];exact h2 hw
def h_(n d:Nat):Option Int->Nat
 |none=>d
 |some v=>if v<0 then(v+(n:Int)).toNat else min v.toNat n
theorem vR(n d:Nat):h_ n d none=d:=rfl
theorem zR(n d k:Nat):h_ n d (some (k:Int))=min k n:=by show(if(k:Int)<0 then((k:Int)+(n:Int)).toNat else min (k:Int).toNat n)=min k n;rw[VG ⋯,WO]
theorem P?(n d:Nat)(hd:d<=n)(o:Option Int):h_ n d o<=n:=by
 cases o with
 |none=>exact hd
 |some v=>
  show(if v<0 then(v+(n:Int)).toNat else min v.toNat n)<=n;by_cases hv:v<0
  .rw[Vv hv];lia
  .rw[VG hv];exact Nat.min_le_right _ _
theorem Eu(v:Int)(n d:Nat):(if v<0 then max (v+(n:Int)) 0 else min v (n:Int))=((h_ n d (some v):Nat):Int):=by
 show(if v<0 then max (v+(n:Int)) 0 else min v (n:Int))=(((if v<0 then(v+(n:Int)).toNat else min v.toNat n):Nat):Int);by_cases hv:v<0
 .simp only[Vv hv];lia
 .simp only[VG hv];lia
theorem CS(lo hi:Option Int)(n:Nat):Builtin.Slice.sliceAdjust lo hi 1 (n:Int)=(((h_ n 0 lo:Nat):Int),((h_ n n hi:Nat):Int)):=by
 have h1:¬ ((1:Int)<0):=⋯
 unfold Builtin.Slice.sliceAdjust;simp only[h1,Yp];refine Prod.ext ?_ ?_
 .cases lo with
  |none=>rfl
  |some v=>exact Eu v n 0
 .cases hi with
  |none=>rfl
  |some v=>exact Eu v n n
theorem CT(i j:Nat):Builtin.Slice.slicePlaces (i:Int) (j:Int) 1=j-i:=by
 unfold Builtin.Slice.slicePlaces;have h1:(1:Int)>0:=⋯
 simp only[h1,Ze,Int.ediv_one];split<;>lia
theorem vS{v:_m}{o:Option Int}{Q:Option Int->_n->Prop}(p:IsPart v o)(h:Q o s):wpAny (model prog w) A (Builtin.Slice.slicePartIndex v) Q E s:=by
 cases p with
 |none=>exact slicePart_none h
 |int i t=>exact slicePart_int h
theorem sE{sl:_o}{vl vu:_m}{lo hi:Option Int}{n:Nat}{Q:Int×Int×Nat->_n->Prop}(hs:s.heap.IsSliceOf sl vl vu .none)(pl:IsPart vl lo)(pu:IsPart vu hi)(h:Q (((h_ n 0 lo:Nat):Int),1,h_ n n hi-h_ n 0 lo) s):wpAny (model prog w) A (Builtin.Slice.sliceApplied (.ref sl) (pure (n:Int))) Q E s:=by obtain⟨os,Ug,S4,hds⟩:=id hs;unfold Builtin.Slice.sliceApplied Builtin.Slice.sliceFields;refine Vh (Vh (Wm Ug hds (x:=vl) rfl (Vh (Wm Ug hds (x:=vu) rfl (Vh (Wm Ug hds (x:=.none) rfl (VE ?_)))))));refine Vh (slicePart_none ?_);show wpAny _ _ (if((1:Int)==0)=true then _ else _) _ _ s;rw[VG ⋯];refine Vh (vS pl (Vh (vS pu (Vh (VE ?_)))));show wpAny _ _ (match Builtin.Slice.sliceAdjust lo hi 1 (n:Int) with|(lo,hi)=>pure (lo,(1:Int),Builtin.Slice.slicePlaces lo hi 1)) _ _ s;rw[CS lo hi n];show wpAny _ _ (pure (((h_ n 0 lo:Nat):Int),(1:Int),Builtin.Slice.slicePlaces ((h_ n 0 lo:Nat):Int) ((h_ n n hi:Nat):Int) 1)) _ _ s;rw[CT];exact VE h
theorem Ic(xs:Array _m)(i k:Nat):((List.range k).filterMap λ(m:Nat)=>xs[((i:Int)+(m:Int)*1).toNat]?).toArray=((xs.toList.drop i).take k).toArray:=by
 have e:(λ(m:Nat)=>xs[((i:Int)+(m:Int)*1).toNat]?)=λm=>xs[i+m]?:=by
  funext m;have:((i:Int)+(m:Int)*1).toNat=i+m:=⋯
  rw[this]
 rw[e];have:=pick_run xs i k;rw[List.filterMap_map]at this;have e2:((λx=>xs[x]?) ∘ λx=>i+x)=λm=>xs[i+m]?:=rfl;rw[e2]at this;rw[this]
theorem qM{t sl:_o}{vl vu:_m}{lo hi:Option Int}{Q:_c}(ht:IsTup s.heap t items)(hs:s.heap.IsSliceOf sl vl vu .none)(pl:IsPart vl lo)(pu:IsPart vu hi)(hw:¬ (h_ items.size 0 lo=0/\h_ items.size items.size hi=items.size))(h:Q (.ref s.heap.objs.size) {s with heap:=s.heap.push {cls:=.type "tuple",data:=.seq ((items.toList.drop (h_ items.size 0 lo)).take (h_ items.size items.size hi-h_ items.size 0 lo)).toArray} })(hsz:items.size<=sizeLine):wpAny (model prog w) A (getItem (.ref t) (.ref sl)) Q E s:=by
 have Ew:sizeOk (.seq ((items.toList.drop (h_ items.size 0 lo)).take (h_ items.size items.size hi-h_ items.size 0 lo)).toArray):=by show((items.toList.drop (h_ items.size 0 lo)).take (h_ items.size items.size hi-h_ items.size 0 lo)).toArray.size<=sizeLine;rw[VB,Zx,Xk,V4];lia
 have hj:h_ items.size items.size hi<=items.size:=P? _ _ (Vt _) hi;obtain⟨os,Ug,S4,hds⟩:=id hs;have hTs:s.TypeIs (.ref sl) "slice":=⟨os,Ug,S4⟩
 unfold getItem
 try with_reducible refine Xs ?_
 first|refine Vh (VE ?_)|skip
 refine Vh (wpAny_sequenceKey ht.typeIs ⋯ ?_);refine Vh (WL (name:=Str.ofString "__getitem__") ht.typeIs XQ
  (WZ XQ ht.typeIs entry_tuple_getitem ?_ (args_tuple_getitem _ _)))
 show wpAny _ _ (Builtin.Tuple.tupleItemsOf (.ref t) >>= _) _ _ s;refine Vh (tupleItemsOf_ ht ?_);refine Vh (wpAny_typeOf hTs ?_);rw[Vv ⋯];refine Vh (sE hs pl pu ?_);have hno:¬ ((((h_ items.size 0 lo:Nat):Int)==0&&(1:Int)==1&&(h_ items.size items.size hi-h_ items.size 0 lo)==items.size)=true):=by intro q;rw[Xd,Xd]at q;have q1:((h_ items.size 0 lo:Nat):Int)=0:=eq_of_beq q.1.1;have q2:h_ items.size items.size hi-h_ items.size 0 lo=items.size:=eq_of_beq q.2;exact hw ⟨⋯,⋯⟩
 show wpAny _ _ (if(((h_ items.size 0 lo:Nat):Int)==0&&(1:Int)==1&&(h_ items.size items.size hi-h_ items.size 0 lo)==items.size)=true then _ else _) _ _ s;rw[VG hno,Ic]
 first
  |exact Vh (m:=Builtin.Tuple.tupleExact _) (Wt (VE ⟨_,rfl,VE h⟩) Ew)
  |exact Vh (m:=Builtin.Tuple.tupleExact _) (Wt (Vh (VE (VE ⟨_,rfl,VE h⟩))) Ew)
  |exact Vh (Vh (m:=Builtin.Tuple.tupleExact _) (Wt (VE (VE ⟨_,rfl,VE h⟩)) Ew))
  |exact Vh (Vh (m:=Builtin.Tuple.tupleExact _) (Wt (VE ⟨_,rfl,VE h⟩) Ew))
end
end HT
namespace L2
open PySem.Spec PyProof.Rows
abbrev TO:=St->Hp->(Option Int->Hp->Prop)->Prop
def PO(X:Cx)(e:Option Expr)(t:TO):Prop:=
 ∀(ae:_e)(s:_n)(σ:St)(H:Hp)(Q:Option Int->Hp->Prop),a9 X ae σ H s->t σ H Q ->
  wpAny (model X.prog X.w) X.A (evalPart e X.env) (λu s'=>∃o H',a9 X ae σ H' s'/\IsPart u o/\Q o H') X.xe s
def L!:TO:=λ_ H Q=>Q none H
def Uh(t:TE):TO:=λσ H Q=>t σ H λx H1=>∃i,x=.int i/\Q (some i) H1
section
variable{e:Expr}{lo hi:Option Expr}{tl th:TO}{pos:Pos}
theorem L?:PO X none L!:=by intro ae s σ H Q I h;rw[ZP];exact VE ⟨none,H,I,.none,h⟩
theorem L'(h:PE X e te):PO X (some e) (Uh te):=by intro ae s σ H Q I hw;rw[evalPart_some];refine fv (h ae s σ H _ I hw) λu s1⟨x,H1,I1,r1,q1⟩=>?_;obtain⟨i,rfl,q⟩:=q1;obtain⟨t,rfl⟩:=r1;exact⟨some i,H1,I1,.int i t,q⟩
def Oj(X:Cx)(r:V->Option Int->Option Int->Hp->VK->Prop):Prop:=
 ∀(ae:_e)(s:_n)(σ:St)(H:Hp)(x:V)(v vl vu:_m)(lo hi:Option Int)(sl:_o)(Q:VK),a9 X ae σ H s->bW x v->s.heap.IsSliceOf sl vl vu .none->IsPart vl lo->IsPart vu hi->r x lo hi H Q ->
  ∃T id,typeLookup (.type T) "__getitem__" = pure (some (.builtin id))/\s.TypeIs v T/\wpAny (model X.prog X.w) X.A (getItem v (.ref sl)) (EP X ae σ Q) X.xe s
theorem Oj.or{r r':V->Option Int->Option Int->Hp->VK->Prop}(h:Oj X r)(h':Oj X r'):Oj X (λx lo hi H Q=>r x lo hi H Q\/r' x lo hi H Q):=by
 intro ae s σ H x v vl vu lo hi sl Q I rx hs pl pu q;rcases q with q|q
 .exact h ae s σ H x v vl vu lo hi sl Q I rx hs pl pu q
 .exact h' ae s σ H x v vl vu lo hi sl Q I rx hs pl pu q
def tSl(r:V->Option Int->Option Int->Hp->VK->Prop)(te:TE)(tl th:TO):TE:=λσ H Q=>te σ H λx H1=>tl σ H1 λl H2=>th σ H2 λu H3=>r x l u H3 Q
theorem Ie{r:V->Option Int->Option Int->Hp->VK->Prop}(hr:Oj X r)(he:PE X e te)(hl:PO X lo tl)(hu:PO X hi th):PE X (.Subscript e (.Slice lo hi none p2) pos) (tSl r te tl th):=by intro ae s σ H Q I h;refine Subscript_ (fv (he ae s σ H _ I h) λv s1⟨x,H1,I1,r1,q1⟩=>?_);refine wpAny_Slice (fv (hl ae s1 σ H1 _ I1 q1) λvl s2⟨l,H2,I2,pl,q2⟩=>fv (hu ae s2 σ H2 _ I2 q2) λvu s3⟨u,H3,I3,pu,q3⟩=>?_);rw[ZP];refine VE ?_;have I4:a9 X ae σ H3 {s3 with heap:=s3.heap.push {cls:=.type "slice",data:=.fields #[vl,vu,.none]} }:=I3.kept (t':=s3.toks) λb ob q=>Vl _ q;obtain⟨T,id,hT,ht,hg⟩:=hr ae {s3 with heap:=s3.heap.push {cls:=.type "slice",data:=.fields #[vl,vu,.none]} } σ H3 x v vl vu l u s3.heap.objs.size Q I4 r1 (Heap.IsSliceOf.new ..) pl pu q3;show wpAny (model X.prog X.w) X.A (subscriptTail e (.Slice lo hi none p2) v (.ref s3.heap.objs.size)) (EP X ae σ Q) X.xe {s3 with heap:=s3.heap.push {cls:=.type "slice",data:=.fields #[vl,vu,.none]} };exact tail_any (ops:=[.ref s3.heap.objs.size,v]) ht hT hg (by with_unfolding_all rfl)
def zS(xs:List V)(lo hi:Option Int):List V:=(xs.drop (HT.h_ xs.length 0 lo)).take (HT.h_ xs.length xs.length hi-HT.h_ xs.length 0 lo)
theorem t6(xs:List V)(lo hi:Option Int):(zS xs lo hi).length<=xs.length:=by unfold zS;rw[Zx,Xk];lia
def abm(K:_g):V->Option Int->Option Int->Hp->VK->Prop:=λx lo hi H Q=>∃a xs,x=.ref a/\pZ K H a xs /\
 ¬ (HT.h_ xs.length 0 lo=0/\HT.h_ xs.length xs.length hi=xs.length)/\∀p,H p=none->Q (.ref p) (upd H p (.tup (zS xs lo hi)))
theorem P':Oj X (abm X.K):=by
 intro ae s σ H x v vl vu lo hi sl Q I rx hs pl pu h;obtain⟨a,xs,rfl,hx,hw,q⟩:=h;cases rx;obtain⟨aN,r,ht,hz⟩:=I.tuple hx;have hlen:aN.toArray.size=xs.length:=by rw[VB];exact r.length.symm
 refine⟨"tuple",_,XQ.lookup,ht.typeIs,?_⟩;refine HT.qM ht hs pl pu (by rw[hlen];exact hw) ?_ (by rw[hlen];exact hz);rw[hlen];refine⟨.ref s.heap.objs.size,_,I.laid (t':=s.toks) (o:=.tup (zS xs lo hi)) (λb ob q=>Vl _ q) (Vt _) ?_,rfl,q _ (I.dJ.fresh (Vt _))⟩;exact⟨V! (t6 xs lo hi) hz,_,(r.drop (HT.h_ xs.length 0 lo)).take (HT.h_ xs.length xs.length hi-HT.h_ xs.length 0 lo),IsTup.new _ _⟩
def Ui(K:_g):R2:=λx y H Q=>∃a b xs ys,x=.ref a/\y=.ref b/\pZ K H a xs/\pZ K H b ys/\xs≠[]/\xs.length+ys.length<=sizeLine /\
 (ys=[]->Q (.ref a) H)/\(ys≠[]->∀p,H p=none->Q (.ref p) (upd H p (.tup (xs++ys))))
theorem bx.zT{xs:List V}{us:_i}(r:bx xs us):us=[]↔xs=[]:=by
 cases r with
 |nil=>simp
 |cons _ _=>simp
theorem Ma:gJ X (binaryOp .Add) (Ui X.K):=by intro ae s σ H x y v u Q I rx ry h;obtain⟨a,b,xs,ys,rfl,rfl,ha,hb,hx,hz,q1,q2⟩:=h;cases rx;cases ry;obtain⟨aN,r1,p1,_⟩:=I.tuple ha;obtain⟨fH,r2,p2,_⟩:=I.tuple hb;refine HT.L_ p1 p2 (λz=>hx (r1.zT.mp z)) (λz=>⟨.ref a,H,I,rfl,q1 (r2.zT.mp z)⟩) (λz=>?_) (by rw[<-r1.length,<-r2.length];exact hz);refine⟨.ref s.heap.objs.size,_,I.laid (t':=s.toks) (o:=.tup (xs++ys)) (λb ob q=>Vl _ q) (Vt _) ?_,rfl,q2 (λw=>z (r2.zT.mpr w)) _ (I.dJ.fresh (Vt _))⟩;exact⟨by rw[Vj];exact hz,_,r1.append r2,IsTup.new _ _⟩
end
def Bo(n:Nat)(i:Int):Option Nat:=if 0<=i then(if i<n then some i.toNat else none)else if -(n:Int)<=i then some (i+n).toNat else none
def oy(xs:List α)(i:Int):Option α:=(Bo xs.length i).bind λj=>xs[j]?
theorem Ex{n:Nat}{i:Int}{j:Nat}(h:Bo n i=some j):seqIndex? i n=some j/\j<n/\-(n:Int)<=i/\i<n:=by
 unfold Bo at h;by_cases h0:0<=i
 .rw[Vv h0]at h;by_cases h1:i<n
  .rw[Vv h1]at h;have e:i.toNat=j:=VP h;exact⟨by rw[Zj h0 h1,e],⋯,⋯,h1⟩
  .rw[VG h1]at h;cases h
 .rw[VG h0]at h;by_cases h1:-(n:Int)<=i
  .rw[Vv h1]at h;have e:(i+n).toNat=j:=VP h;exact⟨by rw[Y8 ⋯ h1,e],⋯,h1,⋯⟩
  .rw[VG h1]at h;cases h
theorem vf{xs:List α}{i:Int}{v:α}(h:oy xs i=some v):∃j,seqIndex? i xs.length=some j/\xs[j]?=some v/\j<xs.length/\-(xs.length:Int)<=i/\i<xs.length:=by
 unfold oy at h;cases e:Bo xs.length i with
 |none=>rw[e]at h;cases h
 |some j=>
  rw[e]at h;obtain⟨h1,h2,h3,h4⟩:=Ex e;exact⟨j,h1,h,h2,h3,h4⟩
theorem jK{xs:List α}{j:Nat}{v:α}(h:xs[j]?=some v):oy xs (j:Int)=some v:=by
 have hj:j<xs.length:=(VJ.mp h).1;have e:Bo xs.length (j:Int)=some j:=by unfold Bo;rw[Vv ⋯,Vv ⋯];simp
 unfold oy;rw[e];exact h
theorem Ig(xs:List α)(v:α):oy (xs++[v]) (-1)=some v:=by
 have hl:(xs++[v]).length=xs.length+1:=by simp
 have e:Bo (xs++[v]).length (-1)=some xs.length:=by unfold Bo;rw[hl,VG ⋯,Vv ⋯];congr 1;lia
 unfold oy;rw[e];show(xs++[v])[xs.length]?=some v;simp
def zW(b:Expr):Prop:=∀o i,subscripted b false o i=operate [o,i] (getItem o i)
def CB(X:Cx)(r:R2):Prop:=
 ∀(value slice:Expr)(ae:_e)(s:_n)(σ:St)(H:Hp)(x y:V)(v u:_m)(Q:VK),a9 X ae σ H s->bW x v->bW y u->r x y H Q ->
  subscripted slice false v u=operate [v,u] (getItem v u)->wpAny (model X.prog X.w) X.A (subscriptTail value slice v u) (EP X ae σ Q) X.xe s
def MtR(X:Cx)(id:String)(r:V->List V->Hp->VK->Prop):Prop:=
 ∀(ae:_e)(s:_n)(σ:St)(H:Hp)(x:V)(xs:List V)(v:_m)(us:_i)(Q:VK),a9 X ae σ H s->bW x v->bx xs us->r x xs H Q ->
  wpAny (model X.prog X.w) X.A (call (.builtin id) (v::us)) (EP X ae σ Q) X.xe s
section
variable{a b:Expr}{ta tb:TE}{pos:Pos}
theorem CB.or{r r':R2}(h:CB X r)(h':CB X r'):CB X (λx y H Q=>r x y H Q\/r' x y H Q):=by
 intro value slice ae s σ H x y v u Q I rx ry q hs;rcases q with q|q
 .exact h value slice ae s σ H x y v u Q I rx ry q hs
 .exact h' value slice ae s σ H x y v u Q I rx ry q hs
theorem Uj{r:R2}(hr:CB X r)(ha:PE X a ta)(hb:PE X b tb)(hs:zW b):PE X (.Subscript a b pos) (SX r ta tb):=by intro ae s σ H Q I h;exact Subscript_ (PJ ha hb I h λv u s2 x y H2 I2 rx ry q=>hr a b ae s2 σ H2 x y v u Q I2 rx ry q (hs _ _))
def Uk(K:_g):R2:=λx y H Q=>∃p xs i v,x=.ref p/\y=.int i/\pk K H p xs/\oy xs i=some v/\Q v H
def abn(K:_g):R2:=λx y H Q=>∃p xs i v,x=.ref p/\y=.int i/\pZ K H p xs/\oy xs i=some v/\Q v H
def abo:R2:=λx y H Q=>∃z i c,x=.str z/\y=.int i/\z.length<=sizeLine/\oy z.cps.toList i=some c/\Q (.str ⟨#[c]⟩) H
theorem Mb:CB X (Uk X.K):=by
 intro value slice ae s σ H x y v u Q I rx ry h hs;obtain⟨p,xs,i,z,rfl,rfl,hq,he,q⟩:=h;cases rx;obtain⟨t,rfl⟩:=ry;obtain⟨aN,r,pl,hz⟩:=I.list hq;obtain⟨j,h1,h2,h3,h4,h5⟩:=vf he;obtain⟨w,ew,zX⟩:=r.get h2;have hl:=r.length;have hn:=qb;have fin:EP X ae σ Q w s:=⟨z,H,I,zX,q⟩
 by_cases h0:0<=i
 .have hj:i.toNat=j:=by rw[Zj h0 h5]at h1;exact VP h1
  exact item_listR pl.isList h0 ⋯ (by rw[hj];simpa using ew) fin hs
 .have hj:(i+(aN.toArray.size:Int)).toNat=j:=by rw[Y8 ⋯ h4]at h1;rw[VB,<-hl];exact VP h1
  exact subscriptTail_builtinR (x:=w) pl.isList.typeIs Y7.lookup
   (Z4 (Q:=λr s'=>r=w/\EP X ae σ Q r s') pl.isList ⋯ (by rw[VB]<;>lia) ⋯ (by rw[hj];simpa using ew) ⟨rfl,fin⟩) hs
theorem a!:CB X (abn X.K):=by
 intro value slice ae s σ H x y v u Q I rx ry h hs;obtain⟨p,xs,i,z,rfl,rfl,hq,he,q⟩:=h;cases rx;obtain⟨t,rfl⟩:=ry;obtain⟨aN,r,pl,hz⟩:=I.tuple hq;obtain⟨j,h1,h2,h3,h4,h5⟩:=vf he;obtain⟨w,ew,zX⟩:=r.get h2;have hl:=r.length;have hn:=qb;have fin:EP X ae σ Q w s:=⟨z,H,I,zX,q⟩
 exact subscriptTail_builtinR (x:=w) pl.typeIs slot_tuple_getitem.lookup
  (getItem_tuple (j:=j) (Q:=λr s'=>r=w/\EP X ae σ Q r s') pl ⋯ ⋯ (by rw[VB,<-hl];exact h1) (by simpa using ew) ⟨rfl,fin⟩) hs
theorem Qa:CB X abo:=by
 intro value slice ae s σ H x y v u Q I rx ry h hs;obtain⟨z,i,c,rfl,rfl,hz,he,q⟩:=h;obtain⟨t,rfl⟩:=rx;obtain⟨t',rfl⟩:=ry;obtain⟨j,h1,h2,h3,h4,h5⟩:=vf he;have hl:z.cps.toList.length=z.length:=by simp[Str.length]
 rw[hl]at h1 h4 h5;have hn:=qb;exact tail_any (typeIs_str s z t) slot_str_getitem.lookup (getItem_str (c:=c) (by
  have e1:decide (i < -(2 ^ 63:Int))=false:=V5 ⋯;have e2:decide (i ≥ 2 ^ 63)=false:=V5 ⋯;rw[e1,e2,Bool.or_false]) (by rw[h1];simpa using h2) ⟨.str ⟨#[c]⟩,H,I.tok _,⟨_,rfl⟩,q⟩) hs
theorem CU(aN:_i)(n j:Nat)(u:_m):Obj.mapSeq (·.setIfInBounds j u) {cls:=.type "list",data:=.seq aN.toArray n} = {cls:=.type "list",data:=.seq (aN.set j u).toArray n}:=by simp[Obj.mapSeq]
theorem a9.lst{ae:_e}{σ:St}{H:Hp}{s:_n}{p:_o}{xs:List V}(I:a9 X ae σ H s)(h:H p=some (.lst xs)):
  ∃(aN:_i)(n:Nat),bx xs aN/\s.heap.get? p=some {cls:=.type "list",data:=.seq aN.toArray n}/\xs.length<=sizeLine:=by
 obtain⟨z,aN,n,r,e⟩:=I.dJ p _ h;exact⟨aN,n,r,e,z⟩
theorem a9.Qb{p:_o}{xs ys:List V}{its':_i}{n n':Nat}{f:Obj->Obj}(I:a9 X ae σ H s)(h:H p=some (.lst xs))(ho:s.heap.get? p=some {cls:=.type "list",data:=.seq aN.toArray n})(hf:f {cls:=.type "list",data:=.seq aN.toArray n} = {cls:=.type "list",data:=.seq its'.toArray n'})(r:bx ys its')(hz:ys.length<=sizeLine)(t:Nat):
  a9 X ae σ (upd H p (.lst ys)) {s with heap:=s.heap.update p f,toks:=t}:=by
 have e:(s.heap.update p f).get? p=some {cls:=.type "list",data:=.seq its'.toArray n'}:=by rw[Xb f ho (by rw[hf]<;>rfl),hf]
 refine I.write (x:=p) (e:=p) (by rw[h];trivial) (.inl rfl) (λb u hb q=>(Wl _ _ (WU hb)).trans q) ⟨_,e⟩ ?_;exact⟨hz,its',n',r,e⟩
def Ol:V->V->V->Hp->(Hp->Prop)->Prop:=λo i v H Q=>∃p xs k j,o=.ref p/\i=.int k/\H p=some (.lst xs)/\Bo xs.length k=some j/\Q (upd H p (.lst (xs.set j v)))
theorem set_list:Pu X Ol:=by
 intro ae s σ H o i v ov iv u Q I ro ri rv h;obtain⟨p,xs,k,j,rfl,rfl,hp,hj,q⟩:=h;cases ro;obtain⟨t,rfl⟩:=ri;obtain⟨aN,n,r,ho,hz⟩:=I.lst hp;obtain⟨h1,h2,h3,h4⟩:=Ex hj;have hl:=r.length;have hn:=qb;have I':a9 X ae σ (upd H p (.lst (xs.set j v))) {s with heap:=s.heap.update p (Obj.mapSeq (·.setIfInBounds j u))}:=
  I.Qb hp ho (CU aN n j u) (r.set rv j) (by rw[Ws];exact hz) s.toks
 by_cases h0:0<=k
 .have hk:k.toNat=j:=by rw[Zj h0 h4]at h1;exact VP h1
  exact W.ki_setAt ho h0 ⋯ (by rw[VB,<-hl];exact h4) (by rw[hk];exact⟨_,I',q⟩)
 .have hk:(k+(aN.toArray.size:Int)).toNat=j:=by rw[Y8 ⋯ h3]at h1;rw[VB,<-hl];exact VP h1
  exact W.ki_setBack ho ⋯ (by rw[VB,<-hl];exact h3) ⋯ (by rw[hk];exact⟨_,I',q⟩)
theorem zY(lo hi:Option Int)(n:Nat):(sliceBounds lo hi none n).1=((HT.h_ n 0 lo:Nat):Int)/\(sliceBounds lo hi none n).2.1=((HT.h_ n n hi:Nat):Int)/\(sliceBounds lo hi none n).2.2=1:=by
 refine⟨?_,?_,rfl⟩
 .cases lo with
  |none=>simp[sliceBounds,HT.h_]
  |some i=>
   simp only[sliceBounds,HT.h_,Option.getD_none,show(1:Int)>0 by decide,Ze];by_cases h:i<0
   .simp only[h,Ze]<;>lia
   .simp only[h,Yp]<;>lia
 .cases hi with
  |none=>simp[sliceBounds,HT.h_]
  |some i=>
   simp only[sliceBounds,HT.h_,Option.getD_none,show(1:Int)>0 by decide,Ze];by_cases h:i<0
   .simp only[h,Ze]<;>lia
   .simp only[h,Yp]<;>lia
theorem xU(aN:_i)(lo hi:Option Int):slicePick aN.toArray lo hi none=((aN.drop (HT.h_ aN.length 0 lo)).take (HT.h_ aN.length aN.length hi-HT.h_ aN.length 0 lo)).toArray:=by obtain⟨h1,h2,h3⟩:=zY lo hi aN.toArray.size;unfold slicePick;rw[h1,h2,h3];simp only[sliceRange_one,pick_run,VB]<;>rfl
def abp(K:_g):V->Option Int->Option Int->Hp->VK->Prop:=λx lo hi H Q=>∃a xs,x=.ref a/\pk K H a xs/\∀p,H p=none->Q (.ref p) (upd H p (.lst (zS xs lo hi)))
theorem Mc:Oj X (abp X.K):=by intro ae s σ H x v vl vu lo hi sl Q I rx hs pl pu h;obtain⟨a,xs,rfl,hx,q⟩:=h;cases rx;obtain⟨aN,r,ht,hz⟩:=I.list hx;have hlen:=r.length;refine⟨"list",_,Y7.lookup,ht.isList.typeIs,?_⟩;refine ZM ht.isList hs pl pu .none (by simp) ?_ (by rw[VB]<;>lia);rw[xU,<-hlen];refine⟨.ref s.heap.objs.size,_,I.laid (t':=s.toks) (o:=.lst (zS xs lo hi)) (λb ob q=>Vl _ q) (Vt _) ?_,rfl,q _ (I.dJ.fresh (Vt _))⟩;exact⟨V! (t6 xs lo hi) hz,_,0,(r.drop (HT.h_ xs.length 0 lo)).take (HT.h_ xs.length xs.length hi-HT.h_ xs.length 0 lo),VT _ rfl⟩
def oA:V->Bool
 |.dj=>true
 |.bl _=>true
 |.int _=>true
 |.str _=>true
 |_=>false
def Ln:V->V->Bool
 |.dj,.dj=>true
 |.bl a,.bl b=>a==b
 |.bl a,.int b=>(if a then 1 else 0)==b
 |.int a,.bl b=>a==(if b then 1 else 0)
 |.int a,.int b=>a==b
 |.str a,.str b=>a==b
 |_,_=>false
theorem Qc{y x:V}{u v:_m}(ry:bW y u)(rx:bW x v)(fy:oA y=true)(fx:oA x=true):SeqAt.EqAt A s u v (Ln y x):=by
 cases y with
 |dj=>
  cases ry;cases x with
  |dj=>cases rx;exact Yz _
  |bl b=>cases rx;exact SeqAt.EqAt.none_bool b
  |int b=>obtain⟨t,rfl⟩:=rx;exact SeqAt.EqAt.none_int b t
  |str b=>obtain⟨t,rfl⟩:=rx;exact SeqAt.EqAt.none_str b t
  |_=>exact absurd (show false=true from fx) VW
 |bl a=>
  cases ry;cases x with
  |dj=>cases rx;exact SeqAt.EqAt.bool_none a
  |bl b=>cases rx;exact SeqAt.EqAt.bool_bool a b
  |int b=>obtain⟨t,rfl⟩:=rx;exact SeqAt.EqAt.bool_int a b t
  |str b=>obtain⟨t,rfl⟩:=rx;exact SeqAt.EqAt.bool_str a b t
  |_=>exact absurd (show false=true from fx) VW
 |int a=>
  obtain⟨t',rfl⟩:=ry;cases x with
  |dj=>cases rx;exact SeqAt.EqAt.int_none a t'
  |bl b=>cases rx;exact SeqAt.EqAt.int_bool a t' b
  |int b=>obtain⟨t,rfl⟩:=rx;exact SeqAt.EqAt.int_int a t' b t
  |str b=>obtain⟨t,rfl⟩:=rx;exact Y1 a t' b t
  |_=>exact absurd (show false=true from fx) VW
 |str a=>
  obtain⟨t',rfl⟩:=ry;cases x with
  |dj=>cases rx;exact SeqAt.EqAt.str_none a t'
  |bl b=>cases rx;exact SeqAt.EqAt.str_bool a t' b
  |int b=>obtain⟨t,rfl⟩:=rx;exact Y0 a t' b t
  |str b=>obtain⟨t,rfl⟩:=rx;exact SeqAt.EqAt.str_str a t' b t
  |_=>exact absurd (show false=true from fx) VW
 |_=>exact absurd (show false=true from fy) VW
def Md(x:V)(u:_m):Bool:=match u with
 |.none=>Ln .dj x
 |.bool b=>Ln (.bl b) x
 |.int i _=>Ln (.int i) x
 |.str z _=>Ln (.str z) x
 |_=>false
theorem Ih{x y:V}{u:_m}(r:bW y u)(f:oA y=true):Md x u=Ln y x:=by
 cases y with
 |dj=>cases r;rfl
 |bl b=>cases r;rfl
 |int i=>obtain⟨t,rfl⟩:=r;rfl
 |str z=>obtain⟨t,rfl⟩:=r;rfl
 |_=>exact absurd (show false=true from f) VW
theorem zZ{x:V}:∀{xs:List V}{us:_i},bx xs us->xs.all oA=true->us.any (Md x)=xs.any λy=>Ln y x
 |_,_,.nil,_=>rfl
 |y::xs,u::us,.cons r t,f=>by rw[Yl,Xd]at f;rw[XS,XS,Ih r f.1,zZ t f.2]
theorem vT{A:_p}{s:_n}{x:V}{v:_m}(rx:bW x v)(fx:oA x=true):∀{xs:List V}{us:_i},bx xs us->xs.all oA=true->∀u∈us,SeqAt.EqAt A s u v (Md x u)
 |_,_,.nil,_=>λu hu=>by cases hu
 |y::xs,u::us,.cons r t,f=>λu' hu=>by
  rw[Yl,Xd]at f;rcases VX.mp hu with rfl|hu
  .rw[Ih r f.1];exact Qc r rx f.1 fx
  .exact vT rx fx t f.2 u' hu
def inV(x:V)(xs:List V):Bool:=xs.any λy=>Ln y x
def rIn(K:_g)(neg:Bool):R2:=λx y H Q=>∃p xs,y=.ref p/\(pk K H p xs\/pZ K H p xs)/\oA x=true/\xs.all oA=true/\Q (.bl (if neg then !inV x xs else inV x xs)) H
theorem Gg:gJ X (compareOp .In) (rIn X.K false):=by
 intro ae s σ H x y v u Q I rx ry h;obtain⟨p,xs,rfl,hq,fx,fs,q⟩:=h;cases ry;rcases hq with hq|hq
 .obtain⟨aN,r,pl,hz⟩:=I.list hq;refine SeqAt.in_listAt (Md x) pl.isList (λw hw=>vT rx fx r fs w (by simpa using hw)) ⟨.bl _,H,I,rfl,?_⟩;rw[show aN.toArray.any (Md x)=aN.any (Md x) by simp,zZ r fs];exact q
 .obtain⟨aN,r,pl,hz⟩:=I.tuple hq;refine SeqAt.in_tupleAt (Md x) pl (λw hw=>vT rx fx r fs w (by simpa using hw)) ⟨.bl _,H,I,rfl,?_⟩;rw[show aN.toArray.any (Md x)=aN.any (Md x) by simp,zZ r fs];exact q
theorem z8:dE X (.builtin "len") (λxs H Q=>∃p ys,xs=[.ref p]/\(pk X.K H p ys\/pZ X.K H p ys)/\Q (.int ys.length) H):=by
 intro ae s σ H xs us Q I r h;obtain⟨p,ys,rfl,hq,q⟩:=h;obtain⟨u,rfl,rx⟩:=vals1 r;cases rx;have hn:=qb;rcases hq with hq|hq
 .obtain⟨aN,r',pl,hz⟩:=I.list hq;have hlen:=r'.length;exact Calls.call_len_list pl.isList (by simp only[VB]<;>lia) ⟨.int ys.length,H,I.tok _,⟨s.toks+1,by rw[VB,hlen]⟩,q⟩
 .obtain⟨aN,r',pl,hz⟩:=I.tuple hq;have hlen:=r'.length;exact len_tuple pl (by simp only[VB]<;>lia) ⟨.int ys.length,H,I.tok _,⟨s.toks+1,by rw[VB,hlen]⟩,q⟩
theorem z_:dE X (.builtin "len") (λxs H Q=>∃z,xs=[.str z]/\z.length<=sizeLine/\Q (.int z.length) H):=by intro ae s σ H xs us Q I r h;obtain⟨z,rfl,hz,q⟩:=h;obtain⟨u,rfl,t,rfl⟩:=vals1 r;have hn:=qb;exact len_str ⋯ ⟨.int z.length,H,I.tok _,⟨_,rfl⟩,q⟩
theorem dE.or{f:_m}{r r':List V->Hp->VK->Prop}(h:dE X f r)(h':dE X f r'):dE X f (λxs H Q=>r xs H Q\/r' xs H Q):=by
 intro ae s σ H xs us Q I rs q;rcases q with q|q
 .exact h ae s σ H xs us Q I rs q
 .exact h' ae s σ H xs us Q I rs q
theorem z!:dE X (.type "list") (λxs H Q=>∃p ys,xs=[.ref p]/\(pk X.K H p ys\/pZ X.K H p ys)/\∀l,H l=none->Q (.ref l) (upd H l (.lst ys))):=by
 intro ae s σ H xs us Q I r h;obtain⟨p,ys,rfl,hq,q⟩:=h;obtain⟨u,rfl,rx⟩:=vals1 r;cases rx;have fin:∀(aN:_i),bx ys aN->ys.length<=sizeLine->∀(h':Heap)(c':Nat),(∀b o',s.heap.get? b=some o'->h'.get? b=some o') ->
   h'.get? s.heap.objs.size=some {cls:=.type "list",dict:=none,data:=.seq aN.toArray c',slots:=#[]}->EP X ae σ Q (.ref s.heap.objs.size) {s with heap:=h'}:=λaN r' hz h' c' kp e=>
  ⟨.ref s.heap.objs.size,_,I.laid (t':=s.toks) kp (Vt _) (show dR X.prog X.w _ h' _ (.lst ys) from⟨hz,aN,c',r',e⟩),rfl,q _ (I.dJ.fresh (Vt _))⟩
 rcases hq with hq|hq
 .obtain⟨aN,r',pl,hz⟩:=I.list hq;have hlen:=r'.length;obtain⟨o,ho,hc,n,hd⟩:=pl.isList;exact call_list_seq p (.inl rfl) ho hc hd (λh' c' kp e=>fin aN r' hz h' c' kp e) (by simp only[VB]<;>lia)
 .obtain⟨aN,r',pl,hz⟩:=I.tuple hq;have hlen:=r'.length;obtain⟨o,ho,hc,n,hd⟩:=pl;exact call_list_seq p (.inr rfl) ho hc hd (λh' c' kp e=>fin aN r' hz h' c' kp e) (by simp only[VB]<;>lia)
theorem xV:dE X (.type "tuple") (λxs H Q=>∃p ys,xs=[.ref p]/\((pk X.K H p ys/\∀l,H l=none->Q (.ref l) (upd H l (.tup ys)))\/(pZ X.K H p ys/\Q (.ref p) H))):=by
 intro ae s σ H xs us Q I r h;obtain⟨p,ys,rfl,h⟩:=h;obtain⟨u,rfl,rx⟩:=vals1 r;cases rx;rcases h with⟨hq,q⟩|⟨hq,q⟩
 .obtain⟨aN,r',pl,hz⟩:=I.list hq;have hlen:=r'.length;refine call_tuple_list pl.isList (λh' kp=>?_) (by simp only[VB]<;>lia);have I1:a9 X ae σ H {s with heap:=h'}:=I.kept (t':=s.toks) kp;have I2:a9 X ae σ (upd H h'.objs.size (.tup ys)) {s with heap:=h'.push {cls:=.type "tuple",data:=.seq aN.toArray} }:=
   I1.laid (t':=s.toks) (λb o e=>Vl _ e) (Vt _) (show dR X.prog X.w _ _ _ (.tup ys) from⟨hz,aN,r',IsTup.new _ _⟩)
  exact⟨.ref h'.objs.size,_,I2,rfl,q _ (I1.dJ.fresh (Vt _))⟩
 .obtain⟨aN,r',pl,hz⟩:=I.tuple hq;exact call_tuple_same pl ⟨.ref p,H,I,rfl,q⟩
def tyV(K:_g)(T:String)(x:V)(H:Hp):Prop:=match x with
 |.str _=>T = "str"
 |.int _=>T = "int"
 |.ref p=>(T = "list" /\ ∃xs,pk K H p xs)\/(T = "tuple" /\ ∃o,K.lookup p=some o/\o.cls=.type "tuple" /\ o.dict=none) \/
   (T = "dict" /\ ((∃aW,H p=some (.dK aW))\/∃aW,H p=some (.dT aW)))\/(T = "set" /\ ∃S n,H p=some (.set S n))
 |_=>False
theorem Ii{T:String}{x:V}{v:_m}(I:a9 X ae σ H s)(r:bW x v)(ty:tyV X.K T x H):
  s.TypeIs v T/\∀a,v=.ref a->∃ob,s.heap.get? a=some ob/\ob.dict=none:=by
 cases x with
 |str z=>
  obtain⟨t,rfl⟩:=r;cases(show T = "str" from ty);exact⟨typeIs_str s z t,λ_ e=>nomatch e⟩
 |int i=>
  obtain⟨t,rfl⟩:=r;cases(show T = "int" from ty);exact⟨typeIs_int s i t,λ_ e=>nomatch e⟩
 |ref p=>
  cases r;rcases ty with⟨rfl,xs,hq⟩|⟨rfl,o,hk,hc,hd⟩|⟨rfl,hk⟩|⟨rfl,S,n,hk⟩
  .obtain⟨aN,_,pl,_⟩:=I.list hq;refine⟨pl.isList.typeIs,λa e=>?_⟩;cases e;obtain⟨o,n,e,c,hd,_⟩:=pl;exact⟨o,e,hd⟩
  .refine⟨⟨o,I.A8 p o hk,hc⟩,λa e=>?_⟩;cases e;exact⟨o,I.A8 _ o hk,hd⟩
  .have z:∃o,s.heap.get? p=some o/\o.ExactDict:=by
    rcases hk with⟨aW,hk⟩|⟨aW,hk⟩
    .obtain⟨_,_,_,_,o,_,_,e,ex,_⟩:=I.dJ p _ hk;exact⟨o,e,ex⟩
    .obtain⟨_,_,_,_,o,_,_,e,ex,_⟩:=I.dJ p _ hk;exact⟨o,e,ex⟩
   obtain⟨o,e,ex⟩:=z;refine⟨⟨o,e,ex.1⟩,λa e2=>?_⟩;cases e2;exact⟨o,e,ex.2.1⟩
  .obtain⟨o,_,_,_,e,ex,_⟩:=I.dJ p _ hk;refine⟨⟨o,e,ex.1⟩,λa e2=>?_⟩;cases e2;exact⟨o,e,ex.2.1⟩
 |_=>exact False.elim ty
def abq(K:_g)(T:String)(r:V->List V->Hp->VK->Prop)(to:TE):TE:=λσ H Q=>to σ H λx H1=>tyV K T x H1/\r x [] H1 Q
def tBM(K:_g)(T:String)(r:V->List V->Hp->VK->Prop)(to:TE)(t:TA):TE:=λσ H Q=>to σ H λx H1=>tyV K T x H1/\t σ H1 λxs H2=>r x xs H2 Q
variable{e:Expr}{to:TE}{t:TA}{T id:String}{r:V->List V->Hp->VK->Prop}
theorem Qd(pa:PlainAttrs T)(slot:Slot T name id)(Qe:typeOf (.builtin id)=pure (.type "method_descriptor"))(hm:MtR X id r)(ho:PE X o to)(jl:attributeBase o name X.env (eval o X.env)=eval o X.env:=by rfl)(jm:(apos.endLine==cN.line)=true:=by rfl):PE X (.Call (.Attribute o name apos) [] [] cN) (abq X.K T r to):=by intro ae s σ H Q I h;refine wpAny_Call_method0_late jl jm (fv (ho ae s σ H _ I h) λv s1⟨x,H1,I1,r1,ty,q1⟩=>?_);obtain⟨h1,h2⟩:=Ii I1 r1 ty;exact⟨T,id,pa,slot,Qe,h1,h2,Z_ rfl (PySem.evalArgs_none (hm ae s1 σ H1 x [] v [] Q I1 r1 .nil q1))⟩
theorem Ul(pa:PlainAttrs T)(slot:Slot T name id)(Qe:typeOf (.builtin id)=pure (.type "method_descriptor"))(hm:MtR X id r)(ho:PE X o to)(ha:PA X (e::es) t)(jl:attributeBase o name X.env (eval o X.env)=eval o X.env:=by rfl)
  (vU:((backTo cN (starEach (e::es) X.env)).all (λx => !x.1)&&(backToKw cN (keywordEach [] X.env)).all (λx=>x.1.isSome)
   && decide ((e::es).length+([]:List Keyword).length+(if([]:List Keyword).isEmpty then 0 else 1)<30))=true:=by rfl)
  (jm:(apos.endLine==cN.line)=true:=by rfl) (hs:starEach (e::es) X.env=(false,eval e X.env)::starEach es X.env:=by rfl) (jT:(backTo cN (starEach es X.env)).any (·.1)=false:=by rfl):
  PE X (.Call (.Attribute o name apos) (e::es) [] cN) (tBM X.K T r to t):=by
 intro ae s σ H Q I h;refine wpAny_Call_method_late jl vU jm rfl (fv (ho ae s σ H _ I h) λv s1⟨x,H1,I1,r1,ty,q1⟩=>?_);obtain⟨h1,h2⟩:=Ii I1 r1 ty;refine⟨T,id,pa,slot,Qe,h1,h2,?_⟩;have hA:=ha cN ae s1 σ H1 _ I1 q1;rw[hs]at hA⊢;refine Z_ (by show(false || (backTo cN (starEach es X.env)).any (·.1))=false;rw[jT]<;>rfl) (Calls.evalArgs_plain ?_);exact fv hA λus s2⟨vs,H2,I2,r2,q2⟩=>hm ae s2 σ H2 x vs v us Q I2 r1 r2 q2
end
def yC(X:Cx)(id:String)(r:V->List V->Hp->VK->Prop):Prop:=
 ∀(ae:_e)(s:_n)(σ:St)(H:Hp)(x:V)(xs:List V)(v:_m)(us:_i)(Q:VK),a9 X ae σ H s->bW x v->bx xs us->r x xs H Q ->
  wpAny (model X.prog X.w) X.A (call (.builtin id) (v::us)) (EP X ae σ Q) X.xe s
theorem bx.one{x:V}{us:_i}(p:bx [x] us):∃u,us=[u]/\bW x u:=by
 cases p with
 |cons r t=>cases t;exact⟨_,rfl,r⟩
theorem bx.two{x y:V}{us:_i}(p:bx [x,y] us):∃u v,us=[u,v]/\bW x u/\bW y v:=by
 cases p with
 |cons r t=>
  obtain⟨v,z,q⟩:=bx.one t;rw[z];exact⟨_,v,rfl,r,q⟩
theorem bx.zero:∀{us:_i},bx [] us->us=[]
 |_,.nil=>rfl
theorem bx.dropLast{xs:List V}{us:_i}(h:bx xs us):bx xs.dropLast us.dropLast:=by
 induction h with
 |nil=>exact .nil
 |cons r t ih=>
  cases t with
  |nil=>exact .nil
  |cons q t'=>exact .cons r ih
theorem bx.eraseIdx:∀{xs:List V}{us:_i}(i:Nat),bx xs us->bx (xs.eraseIdx i) (us.eraseIdx i)
 |_,_,_,.nil=>.nil
 |_,_,0,.cons _ t=>t
 |_,_,i+1,.cons r t=>.cons r (bx.eraseIdx i t)
theorem bx.rep{xs:List V}{us:_i}(h:bx xs us):∀k:Nat,bx (List.replicate k xs).flatten (List.replicate k us).flatten
 |0=>.nil
 |k+1=>by rw[VH,VH,Xy,Xy];exact bx.append h (bx.rep h k)
theorem CV(l:List α):l.eraseIdx (l.length-1)=l.dropLast:=by grind
theorem yD{α:Type}:∀(l:List α)(i:Nat),(l.eraseIdx i).length<=l.length
 |[],_=>Vt _
 |_::_,0=>YY _
 |_::r,i+1=>Nat.succ_le_succ (yD r i)
theorem foldl_rep(aN:_i):∀(k:Nat)(acc:_i),
  List.foldl (λx1 x2=>x1++x2) acc.toArray (List.replicate k aN.toArray)=(acc++(List.replicate k aN).flatten).toArray
 |0,acc=>by simp
 |k+1,acc=>by
  have e:acc.toArray++aN.toArray=(acc++aN).toArray:=by simp
  have e2:(acc++aN)++(List.replicate k aN).flatten=acc++(List.replicate (k+1) aN).flatten:=by rw[VH,Xy,VY]
  rw[<-e2,<-foldl_rep aN k (acc++aN),<-e,VH,List.foldl_cons]
section
variable{l b:_o}{xs ys zs:List V}
theorem a9.Ij{its':_i}{n:Nat}{f:Array _m->Array _m}{t':Nat}(I:a9 X ae σ H s)(hH:H l=some (.lst xs))(e:s.heap.get? l=some {cls:=.type "list",data:=.seq aN.toArray n})(hf:f aN.toArray=its'.toArray)(hv:bx ys its')(hz:ys.length<=sizeLine):
  a9 X ae σ (upd H l (.lst ys)) {s with heap:=s.heap.update l (Obj.mapSeq f),toks:=t'}:=by
 have q:=Z8 e f;rw[hf]at q;refine I.write (x:=l) (e:=l) (by rw[hH];exact trivial) (.inl rfl) (λb' u hb hu=>(Wl s.heap (Obj.mapSeq f) (WU hb)).trans hu) ⟨_,q⟩ ?_;exact⟨hz,its',_,hv,q⟩
theorem a9.Um{t':Nat}(I:a9 X ae σ H s)(hv:bx ys aN)(hz:ys.length<=sizeLine):
  a9 X ae σ (upd H s.heap.objs.size (.lst ys)) {s with heap:=s.heap.push {cls:=.type "list",data:=.seq aN.toArray},toks:=t'}:=
 I.laid (λ_ _ q=>Vl _ q) (Vt _) ⟨hz,aN,0,hv,VT _ rfl⟩
theorem a9.fresh(I:a9 X ae σ H s):H s.heap.objs.size=none:=I.dJ.fresh (Vt _)
theorem a9.z?(I:a9 X ae σ H s)(hH:H l=some (.lst xs)):xs.length<=sizeLine/\∃(aN:_i)(n:Nat),bx xs aN/\xs.length=aN.length/\s.heap.get? l=some {cls:=.type "list",data:=.seq aN.toArray n}:=by obtain⟨z,aN,n,r,e⟩:=I.dJ l _ hH;exact⟨z,aN,n,r,r.length,e⟩
theorem Bp{n:Nat}(h:n<=sizeLine):Builtin.List.listTooLong n=false:=by unfold Builtin.List.listTooLong;exact V5 ⋯
end
def Me:V->List V->Hp->VK->Prop:=λx vs H Q=>∃l xs y,x=.ref l/\vs=[y]/\H l=some (.lst xs)/\xs.length<sizeLine/\Q .dj (upd H l (.lst (xs++[y])))
theorem Gh:yC X "list.append" Me:=by intro ae s σ H x vs v us Q I rx rv h;obtain⟨l,xs,y,rfl,rfl,hH,hz,q⟩:=h;cases rx;obtain⟨u,rfl,ru⟩:=rv.one;obtain⟨z,aN,n,r,hl,e⟩:=I.z? hH;refine X3 F.slot_list_append ⟨_,e,rfl⟩ F.entry_list_append (F.args_list_append_2 _ _) (ZV l aN.toArray n u (by rw[VB];lia)) ⟨e,?_⟩;refine⟨.dj,_,I.Ij (its':=aN++[u]) hH e (by simp) (r.append (.cons ru .nil)) ?_,rfl,q⟩;rw[Vj,VO];lia
def Mf:V->List V->Hp->VK->Prop:=λx vs H Q=>∃l b xs zs,x=.ref l/\vs=[.ref b]/\H l=some (.lst xs)/\H b=some (.lst zs)/\xs.length+zs.length<=sizeLine/\Q .dj (upd H l (.lst (xs++zs)))
theorem Gi:yC X "list.extend" Mf:=by
 intro ae s σ H x vs v us Q I rx rv h;obtain⟨l,b,xs,zs,rfl,rfl,hH,hB,hz,q⟩:=h;cases rx;obtain⟨u,rfl,ru⟩:=rv.one;cases ru;obtain⟨z,aN,n,r,hl,e⟩:=I.z? hH;obtain⟨z2,fH,n2,r2,uD,e2⟩:=I.z? hB;have hsz:aN.toArray.size+fH.toArray.size<=sizeLine:=by rw[VB,VB];lia
 have Ik:¬ (!aN.toArray.isEmpty&&Builtin.List.listTooLong (aN.toArray.size+fH.toArray.size))=true:=by rw[Bp hsz,Y'];exact VW
 refine X3 F.slot_list_extend ⟨_,e,rfl⟩ F.entry_list_extend (F.args_list_extend_2 _ _)
  (AutoSeq1.list_extend_list_list_0 l aN.toArray n b fH.toArray n2 Ik (by rw[VB];lia) ⋯) ⟨e,e2,?_⟩
 refine⟨.dj,_,I.Ij (its':=aN++fH) hH e (by simp) (r.append r2) ?_,rfl,q⟩;rw[Vj];lia
def abr:V->List V->Hp->VK->Prop:=λx vs H Q=>∃l xs y,x=.ref l/\vs=[]/\H l=some (.lst xs)/\xs[xs.length-1]?=some y/\Q y (upd H l (.lst xs.dropLast))
theorem Qf:yC X "list.pop" abr:=by
 intro ae s σ H x vs v us Q I rx rv h;obtain⟨l,xs,y,rfl,rfl,hH,hy,q⟩:=h;cases rx;have hus:=rv.zero;subst hus;obtain⟨z,aN,n,r,hl,e⟩:=I.z? hH;obtain⟨u,hu,ru⟩:=r.get hy;have hy':aN.toArray[aN.toArray.size-1]?=some u:=by show aN.toArray[aN.length-1]?=some u;rw[<-Wv,<-hl];exact hu
 refine X3 F.slot_list_pop ⟨_,e,rfl⟩ F.entry_list_pop (F.args_list_pop_1 _) (MeetsSeq.list_pop_last l aN.toArray n u hy' (by rw[VB];lia)) ⟨e,?_⟩;refine⟨y,_,I.Ij (its':=aN.dropLast) hH e ?_ r.dropLast ?_,ru,q⟩
 .show aN.toArray.eraseIdxIfInBounds (aN.toArray.size-1)=aN.dropLast.toArray;rw[VB,Zm,CV]
 .rw[List.length_dropLast];lia
def Qg:V->List V->Hp->VK->Prop:=λx vs H Q=>∃l xs i k y,x=.ref l/\vs=[.int i]/\H l=some (.lst xs)/\-(2 ^ 63)<=i/\i<2 ^ 63/\seqIndex? i xs.length=some k/\xs[k]?=some y/\Q y (upd H l (.lst (xs.eraseIdx k)))
theorem Il:yC X "list.pop" Qg:=by
 intro ae s σ H x vs v us Q I rx rv h;obtain⟨l,xs,i,k,y,rfl,rfl,hH,h1,h2,hk,hy,q⟩:=h;cases rx;obtain⟨u,rfl,ru⟩:=rv.one;obtain⟨t,rfl⟩:=ru;obtain⟨z,aN,n,r,hl,e⟩:=I.z? hH;obtain⟨w,hw,zX⟩:=r.get hy;refine X3 F.slot_list_pop ⟨_,e,rfl⟩ F.entry_list_pop (F.args_list_pop_2 _ _)
  (MeetsSeq.list_pop_at l aN.toArray n i t k w (fitsIndex_both h1 h2) (by rw[VB,<-hl];exact hk) (by rw[<-Wv];exact hw) (by rw[VB];lia)) ⟨e,?_⟩
 refine⟨y,_,I.Ij (its':=aN.eraseIdx k) hH e ?_ (r.eraseIdx k) ?_,zX,q⟩
 .show aN.toArray.eraseIdxIfInBounds k=(aN.eraseIdx k).toArray;rw[Zm]
 .have:=yD xs k;lia
def abt:R2:=λx y H Q=>∃l b xs zs,x=.ref l/\y=.ref b/\H l=some (.lst xs)/\H b=some (.lst zs)/\xs.length+zs.length<=sizeLine/\∀p,H p=none->Q (.ref p) (upd H p (.lst (xs++zs)))
theorem Qh:gJ X (binaryOp .Add) abt:=by
 intro ae s σ H x y v u Q I rx ry h;obtain⟨l,b,xs,zs,rfl,rfl,hH,hB,hz,q⟩:=h;cases rx;cases ry;obtain⟨z,aN,n,r,hl,e⟩:=I.z? hH;obtain⟨z2,fH,n2,r2,uD,e2⟩:=I.z? hB;refine PySem.P.add_list e e2 ?_ (by rw[VB,VB];lia);have ea:aN.toArray++fH.toArray=(aN++fH).toArray:=by simp
 rw[ea];exact⟨.ref _,_,I.Um (t':=s.toks) (r.append r2) (by rw[Vj];lia),rfl,q _ I.fresh⟩
def abu:R2:=λx y H Q=>∃l k xs,x=.ref l/\y=.int k/\H l=some (.lst xs)/\-(2 ^ 63)<=k/\k<2 ^ 63/\xs.length*k.toNat<=sizeLine /\
 ∀p,H p=none->Q (.ref p) (upd H p (.lst (List.replicate k.toNat xs).flatten))
theorem len_rep(xs:List α)(k:Nat):(List.replicate k xs).flatten.length=k*xs.length:=by simp_all
theorem Qi:gJ X (binaryOp .Mult) abu:=by
 intro ae s σ H x y v u Q I rx ry h;obtain⟨l,k,xs,rfl,rfl,hH,h1,h2,hz,q⟩:=h;cases rx;obtain⟨t,rfl⟩:=ry;obtain⟨z,aN,n,r,hl,e⟩:=I.z? hH;have hlen:aN.toArray.size*k.toNat<=sizeLine:=by rw[VB,<-hl];exact hz
 have gY:¬ aN.toArray.size*k.toNat>(2 ^ 63-1) / 8:=by
  have:(sizeLine:Nat)<=(2 ^ 63-1) / 8:=by decide
  lia
 have abv:¬ (!Builtin.List.listFitsIndex k)=true:=by rw[fitsIndex_both h1 h2];exact VW
 have Ik:¬ Builtin.List.listTooLong (aN.toArray.size*k.toNat)=true:=by rw[Bp hlen];exact VW
 have abw:List.foldl (λx1 x2=>x1++x2) #[] (List.replicate (if aN.toArray.isEmpty=true then 0 else k.toNat) aN.toArray)=(List.replicate k.toNat aN).flatten.toArray:=by
  have f0:∀m:Nat,List.foldl (λx1 x2=>x1++x2) #[] (List.replicate m aN.toArray)=(List.replicate m aN).flatten.toArray:=λm=>by have:=foldl_rep aN m [];rw[Vq]at this;exact this
  rw[f0];cases aN with
  |nil=>simp
  |cons a r'=>rw[VG (by simp)]
 refine wpAny_binaryOp_repeat_ref (T:="list") (U:="int") ⋯ ⟨_,e,rfl⟩ (λs'=>typeIs_int s' k t) noFill_list_mul F.fills_int_mul F.slot_int_rmul repeat_list F.slot_int_index.lookup
  (X3 F.slot_int_rmul (typeIs_int s k t) F.entry_int_rmul (F.args_int_rmul_2 _ _) (int___rmul___int_list k t l aN.toArray n)
   ⟨e,rfl,⟨_,e,rfl⟩,X3 F.slot_list_mul ⟨_,e,rfl⟩ F.entry_list_mul (F.args_list_mul_2 _ _) (AutoListH.list___mul___list_int_3 l aN.toArray n k t abv gY Ik) ⟨e,?_⟩⟩)
 rw[abw];exact⟨.ref _,_,I.Um (t':=s.toks) (r.rep k.toNat) (by rw[len_rep,Nat.mul_comm];exact hz),rfl,q _ I.fresh⟩
end L2
namespace Att
open PySem.W PySem.Calls PyProof.Rows
theorem uE{P:Params}:∀(ns:_h)(vs:_i),WellAll P h vs (ns.map WData.int)->IntsAre vs ns:=by
 intro ns
 induction ns with
 |nil=>
  intro vs w;rw[VM]at w;cases w;exact .nil
 |cons n ns ih=>
  intro vs w;rw[Vm]at w;cases w with
  |cons a b=>
   cases a;exact .cons _ _ (ih _ b)
theorem Gj{l:OpenLaw}{n:Nat}(hn:l.most=some n){P:Params}{args:List WData}{vals:_i}(Mg:l.row.toRowW.claim.pre args=true)(hwl:WellAll P h vals args):
  ∃a vs ns,vals=[Value.ref a]/\args=[WData.list (ns.map WData.int)]/\h.get? a=some {cls:=.type "list",data:=.seq vs.toArray}/\IntsAre vs ns/\ns.length<=n:=by
 have hsh:WShape.hasAll [] args [.list .int]=true:=(pre_splitW Mg).1;have hc:l.pre.holds [] {args:=args} = true:=(pre_splitW Mg).2;obtain⟨d,r,rfl,h1,h2⟩:=hasAllW_cons hsh;obtain rfl:=hasAllW_nil h2;obtain⟨xs,rfl,h3⟩:=hasW_list h1;obtain⟨ns,rfl⟩:=items_int h3;have hlen:ns.length<=n:=by
  unfold OpenLaw.pre at hc;have h4:(WTm.not (.lt (.lit (.int (n:Int))) (.len (.arg 0)))).holds [] {args:=[.list (ns.map .int)]} = true:=by have h4:=(holds_andW hc).1;rw[hn]at h4;exact h4
  have h5:=condW_of h4 (w_not (w_lt w_lit (w_len_list (w_arg rfl))));rw[Vg]at h5;refine YQ λq=>?_;have q':(n:Int)<((ns.length:Nat):Int):=⋯
  first
   |(rw[V8 q']at h5;exact absurd h5 ⋯)
   |(simp at h5;lia)
 cases hwl with
 |cons w1 w2=>
  cases w2;cases w1 with
  |list ho Qj=>exact⟨_,_,ns,rfl,rfl,ho,uE ns _ Qj,hlen⟩
theorem Gk(l:OpenLaw)(args:List WData):l.row.toRowW.claim.post args (.bool true) args=true:=
 postW_of (r:=l.row.toRowW) (X:=(true==true))
  (show WShape.has [] (.bool true) .bool=true by first|rfl|decide|simp[WShape.has,WShape.arms,WShape.armsAll])
  (show(WTm.eq .res (.lit (.bool true))).value [] {args:=args,res:=some (.bool true),after:=args} = some (.bool (true==true))from w_eq_bool (w_res rfl) w_lit) rfl
theorem Bq{l:OpenLaw}{n:Nat}{q:_q}{XP:(_d)->Heap->Prop}{YP:World->Heap->Prop}{d:DefRec}(hn:l.most=some n)(Uo:d.params.defaults=[])
  (call:∀ (w:World) (s₀ s₁:_n) (mg mb:_d) (fa:_o) (o:Obj) (pm cd doc:_m) (a:_o) (vs:_i) (ns:_h),
   Ground q loose [] XP w s₀ mg mb s₁.heap->YP w s₁.heap ->
   s₁.heap.get? fa=some o->o.data=.func (docDef d.name d.params d.body d.scope pm cd doc)->s₁.heap.CodeRec cd d.name->mg d.name=some (.ref fa) ->
   s₁.heap.get? a=some {cls:=.type "list",data:=.seq vs.toArray}->IntsAre vs ns->ns.length<=n->s₁.gens = #[] ->
   codeAny (model l.prog w) callerA (.call (.ref fa) ⟨[.ref a],[]⟩) (λr s'=>r=.ok (.ret (.bool true))/\OldK s₁.heap s'.heap/\s'.os=s₁.os/\AllBare s'.gens) s₁):
  WalkO q loose XP YP l.row.toRowW d [] (λf vs=>PySem.call f vs):=by
 intro w s₀ s₁ mg mb G Y fa o pm cd doc dV kV ho hd CI hD Uq hg args vals as Mg acx hrd hwl hlo;obtain rfl:dV=.none:=Dflts.none hD Uo;obtain rfl:kV=.none:=Dflts.noKw hD;obtain⟨a,vs,ns,rfl,rfl,Qk,hints,hlen⟩:=Gj hn Mg hwl;refine enter_call (Yq (call w s₀ s₁ mg mb fa o pm cd doc a vs ns G Y ho (fd_plain hd) CI Uq Qk hints hlen hg) λr s' hq=>?_);obtain⟨rfl,h2,h3,h4⟩:=hq;exact⟨.inl ⟨.bool true,.bool true,[],rfl,λ_=>rfl,.bool true,Gk l _,λ_=>⟨List.Pairwise.nil,λ_ hm=>(nomatch hm)⟩⟩,h2,h3,h4⟩
end Att
namespace L2
open PySem.Spec PyProof.Rows
theorem yE:∀{vs:_i}{ns:_h},IntsAre vs ns->bx (ns.map V.int) vs
 |_,_,.nil=>.nil
 |_,_,.cons n t h=>.cons ⟨t,rfl⟩ (yE h)
def iG(s:Stmt):Arguments:=match s with
 |.FunctionDef _ a _ _ _ _ _ _ _ _=>a
 |_ => {posonlyargs:=[],args:=[],vararg:=none,kwonlyargs:=[],kw_defaults:=[],kwarg:=none,defaults:=[]}
def ff(s:Stmt):List Stmt:=match s with
 |.FunctionDef _ _ b _ _ _ _ _ _ _=>b
 |_=>[]
def bg(s:Stmt):Scope:=match s with
 |.FunctionDef _ _ _ _ _ _ sc _ _ _=>sc
 |_ => {kind:=.function,names:=[],isGenerator:=false,isCoroutine:=false}
abbrev E0:XK:=λ_ _ _=>False
structure Im(K:_g)(x qual:Str)(st:Stmt)(f:_o)(fd:FuncData):Prop where
 ex:∃(oc:_m)(od:Option _o)(kV doc pm:_m)(an:Option _o)(iS ct:_m)(Ia:Array (_j)),
  fd=W.fnOf x qual (iG st) (ff st) (bg st) .none kV doc pm an iS ct/\K.lookup f=some ⟨oc,od,.func fd,Ia⟩/\W.codeIn K iS qual=true
 kp:W.keepIn K (.ref f)=true
section
variable{w:World}{K:_g}{mg:_d}
theorem Im.binds{x qual:Str}{st:Stmt}{f:_o}{fd:FuncData}{ps:_l}(F:Im K x qual st f fd)(h:∀(kV doc pm:_m)(an:Option _o)(iS ct:_m)(us:_i),us.length=ps.length->bindArgs (W.fnOf x qual (iG st) (ff st) (bg st) .none kV doc pm an iS ct) ⟨us,[]⟩=pure (ps.zip us)):Binds K fd ps []:=by obtain⟨oc,od,kV,doc,pm,an,iS,ct,Ia,rfl,lk,CI⟩:=F.ex;exact .all (h kV doc pm an iS ct)
theorem CW{x qual:Str}{st:Stmt}{f:_o}{kV pm ct:_m}(l:K.lookup f=some ⟨oc,od,.func (W.fnOf x qual (iG st) (ff st) (bg st) .none kV doc pm an iS ct),Ia⟩)(c:W.codeIn K iS qual=true)(k:W.keepIn K (.ref f)=true):Im K x qual st f (W.fnOf x qual (iG st) (ff st) (bg st) .none kV doc pm an iS ct):=⟨⟨oc,od,kV,doc,pm,an,iS,ct,Ia,rfl,l,c⟩,k⟩
end
def sF(H H':Hp):Prop:=∀b o,H b=some o->H' b=some o
theorem sF.refl(H:Hp):sF H H:=λ_ _ h=>h
end L2
variable {kp:Pos}
namespace L2
open PySem.Spec PyProof.Rows
open Sem (wp)
def oB{α:Type}:Sem α->Prop
 |.pure _=>True
 |.raise _=>True
 |.unsupported _=>True
 |.register _ _=>True
 |.load _ _ k=>∀o,oB (k o)
 |.update _ _ _ k=>oB (k ())
 |.alloc _ k=>∀a,oB (k a)
 |.stack k=>∀l,oB (k l)
 |_=>False
theorem bX{f:α->Sem β}(k:∀a,oB (f a)):∀{t:Sem α},oB t->oB (t >>= f):=by
 intro t
 induction t with
 |pure a=>exact λ_=>k a
 |raise|unsupported|register=>exact λ_=>trivial
 |load a o g ih=>exact λh x=>ih x (h x)
 |update a o f g ih=>exact λh=>ih () h
 |alloc o g ih=>exact λh x=>ih x (h x)
 |stack g ih=>exact λh x=>ih x (h x)
 |_=>exact λh=>h.elim
theorem Mh{M:Model}{Γ:PySem.Ctx}{Q1 Q2:α->Pos->_n->Prop}{E1 E2:_m->Pos->_n->Prop}{p:Pos}(t:Sem α):∀{s:_n},oB t->wp M Γ t Q1 E1 p s->wp M Γ t Q2 E2 p s->wp M Γ t (λa p s=>Q1 a p s/\Q2 a p s) E1 p s:=by
 induction t with
 |load a o k ih=>
  intro s z h1 h2;rw[Sem.wp_load]at h1 h2⊢;obtain⟨x,a1,b1⟩:=h1;obtain⟨y,a2,b2⟩:=h2;rw[a1]at a2;cases a2;exact⟨x,a1,ih _ (z _) b1 b2⟩
 |update a o f k ih=>intro s z h1 h2;rw[Sem.wp_update]at h1 h2⊢;exact⟨h1.1,ih _ z h1.2 h2.2⟩
 |pure a=>exact λ_ h1 h2=>⟨h1,h2⟩
 |raise a=>exact λ_ h1 _=>h1
 |unsupported|register=>exact λ_ h1 _=>h1.elim
 |alloc o k ih=>exact λz h1 h2=>ih _ (z _) h1 h2
 |stack k ih=>exact λz h1 h2=>ih _ (z _) h1 h2
 |_=>exact λz=>z.elim
theorem vV{M:Model}{t:Sem α}{Q1 Q2 Q:α->_n->Prop}{E:_c}(z:oB t)(h1:wpAny M A t Q1 E s)(h2:wpAny M A t Q2 E s)(h:∀a s',Q1 a s'->Q2 a s'->Q a s'):wpAny M A t Q E s:=by have z:wpAny M A t (λa s=>Q1 a s/\Q2 a s) E s:=λΓ p k=>Mh t z (h1 Γ p k) (h2 Γ p k);exact WC z (λa s' q=>h a s' q.1 q.2) λ_ _ q=>q
theorem qO(v:_m)(i:Nat):oB (field v i):=by
 unfold field;refine bX (λa=>?_) ?_
 .split<;>trivial
 .unfold fieldsOf;cases v with
  |ref a=>
   refine bX (λo=>?_) (λ_=>trivial);split<;>trivial
  |_=>trivial
theorem CY(v:_m)(i:Nat)(x:_m):oB (setField v i x):=by
 unfold setField;cases v with
 |ref a=>
  refine bX (λo=>?_) (λ_=>trivial);split
  .split
   .exact trivial
   .exact trivial
  .exact trivial
 |_=>trivial
theorem Br:∀l:List Env,oB (readyFrames l)
 |[]=>trivial
 |env::outer=>by
  unfold readyFrames;split
  .refine bX (λo=>?_) (λ_=>trivial);split
   .exact trivial
   .refine bX (λb=>bX (λv=>bX (λ_=>Br outer) ?_) ?_) ?_
    .exact trivial
    .unfold keptBack;split
     .split
      .exact trivial
      .exact λ_=>trivial
     .exact trivial
    .unfold behindIsImport;split
     .exact trivial
     .split
      .exact trivial
      .refine bX (λ_=>?_) (qO _ _);exact trivial
  .exact trivial
theorem Io(env:Env):oB (PySem.frameOf env):=by
 unfold PySem.frameOf;refine bX (λl=>bX (λv=>?_) ?_) (λ_=>trivial)
 .split<;>trivial
 .unfold frameObject;split
  .exact trivial
  .refine bX (λ_=>?_) (Br _);exact trivial
theorem Gm(v:_m)(f:Option _o):oB (setFlight v f):=by
 unfold setFlight;refine bX (λt=>?_) (qO _ _);split
 .exact CY _ _ _
 .exact trivial
theorem Mi(v:_m)(env:Env):oB (noteFrame v env):=by
 unfold noteFrame;split
 .rename_i f _;have go:∀h b,oB (do setField v 1 (<-EntryCells.newEntry h (<-PySem.frameOf env) .none (rawInt f) .none (<-entryPlaceOf f b))):=λh b=>by
   refine bX (λa=>bX (λl=>bX (λ_=>CY _ _ _) ?_) ?_) (Io env)
   .unfold EntryCells.newEntry newFields newObj;dsimp only;split<;>split
    .exact trivial
    .exact λ_=>trivial
    .exact trivial
    .exact λ_=>trivial
   .unfold entryPlaceOf;refine bX (λ_=>?_) (λ_=>trivial);split<;>trivial
  refine bX (λt=>?_) (qO _ _);split
  .refine bX (λx=>?_) (qO _ _);split
   .exact trivial
   .exact bX (λ_=>go _ _) (CY _ _ _)
  .exact go _ _
 .exact trivial
theorem Bs(v:_m)(env:Env):oB (leaving env v):=bX (λ_=>Gm _ _) (Mi _ _)
def Gn(h:Heap)(e:_o):Prop:=∃oe vs,h.get? e=some oe/\oe.data=.fields vs/\vs[2]?=some Value.none/\(vs[1]?=some Value.none\/∃T oT ts,vs[1]?=some (Value.ref T)/\T≠e/\h.get? T=some oT/\oT.data=.fields ts/\3<ts.size)
section
variable{M:Model}{E:_c}{env:PySem.Env}{outer:List PySem.Env}{L e:_o}
theorem CZ(h:Gn s.heap e):wpAny M A (setFlight (.ref e) none) (λ_ s'=>Gn s'.heap e) E s:=by
 obtain⟨oe,vs,he,hd,h2,h1⟩:=h;unfold setFlight;rcases h1 with h1|⟨T,oT,ts,h1,ne,hT,dT,h3⟩
 .refine Vh (Wm he hd h1 ?_);rw[VG ⋯];exact VE ⟨oe,vs,he,hd,h2,.inl h1⟩
 .refine Vh (Wm he hd h1 ?_);rw[Vv (show(Value.ref T !=Value.none)=true from rfl)];refine Xz hT dT h3 ⟨oe,vs,(Wl _ _ ne).trans he,hd,h2,.inr ⟨T,_,_,h1,ne,Xb _ hT (Xt (WH dT _)),WH dT _,by rw[Z!];exact h3⟩⟩
theorem Ip(Gp:A.frames=some (env::outer))(hl:s.heap.FunFrames base (env::outer))(hf:env.frame=some L)(h:Gn s.heap e):wpAny M A (noteFrame (.ref e) env) (λ_ s'=>Gn s'.heap e) E s:=by
 have go:∀(s1:_n)(head:_m)(b:Bool),s1.heap.FunFrames base (env::outer)->Gn s1.heap e->wpAny M A (do setField (.ref e) 1 (<-EntryCells.newEntry head (<-frameOf env) .none (rawInt L) .none (<-entryPlaceOf L b))) (λ_ s'=>Gn s'.heap e) E s1:=by
  rintro s1 head b hl ⟨oe,vs,he,hd,h2,h1⟩;have z1:1<vs.size:=by rcases h1 with q|⟨_,_,_,q,_⟩<;>exact(Array.getElem?_eq_some_iff.mp q).1
  have abx:e ∉ (env::outer).filterMap (·.frame):=λhm=>by obtain⟨_,o,ho,Ql⟩:=hl.mem hm;rw[he]at ho;cases ho;exact Ql vs hd
  refine Vh (wpAny_frameOf_fun Gp hl hf λh₁ Ur=>?_);refine Vh (wpAny_entryPlaceOf λpl tZ=>?_);unfold EntryCells.newEntry newFields;refine Vh (Wt ?_ (tZ.sizeOk5 _ _ _ _ _));have Iq:h₁.get? e=some oe:=(Ur.2.1 e abx).trans he;refine Xz (Vl _ Iq) hd z1 ?_;have ne:h₁.objs.size≠e:=W' (VI Iq);have d3:=WH hd (·.setIfInBounds 1 (Value.ref h₁.objs.size));refine⟨_,_,Xb _ (Vl _ Iq) (Xt d3),d3,by rw[Array.getElem?_setIfInBounds_ne ⋯];exact h2,.inr ⟨h₁.objs.size,_,_,by simp[z1],ne,(Wl _ _ (WU ne)).trans (VT h₁ rfl),rfl,by simp only[VB,Vj,Vi,Vs];lia⟩⟩
 unfold noteFrame;simp only[hf];obtain⟨oe,vs,he,hd,h2,h1⟩:=id h;rcases h1 with h1|⟨T,oT,ts,h1,ne,hT,dT,h3⟩
 .refine Vh (Wm he hd h1 ?_);rw[VG ⋯];exact go s _ _ hl h
 .refine Vh (Wm he hd h1 ?_);rw[Vv (show(Value.ref T !=Value.none)=true from rfl)];refine Vh (Wm hT dT (x:=ts[3]) (by simp[h3]) ?_);split
  .exact VE h
  .refine Vh (Xz hT dT h3 ?_);have Us:∀b,b≠T->(s.heap.update T (Obj.mapFields (·.setIfInBounds 3 Value.none))).get? b=s.heap.get? b:=λb hb=>Wl _ _ (WU hb);refine go _ _ _ (hl.of_keeps λb o hb Ql=>⟨o,(Us b λq=>?_).trans hb,rfl⟩) ⟨oe,vs,(Us e (WU ne)).trans he,hd,h2,.inr ⟨T,_,_,h1,ne,Xb _ hT (Xt (WH dT _)),WH dT _,by rw[Z!];exact h3⟩⟩;rw[q,hT]at hb;cases hb;exact Ql ts dT
theorem t7(Gp:A.frames=some (env::outer))(hl:s.heap.FunFrames base (env::outer))(hf:env.frame=some L)(h:Gn s.heap e):wpAny M A (leaving env (.ref e)) (λ_ s'=>Gn s'.heap e) E s:=
 Vh (WC (Ip Gp hl hf h) (λ_ _ q=>CZ q) λ_ _ q=>q)
variable{a0:_m}{Q:Unit->_n->Prop}
theorem Ir{args:_i}(hx:Heap.MadeExcOf h s.heap e cls args):Gn s.heap e:=by obtain⟨t,he,_⟩:=hx.there;exact⟨_,_,he,rfl,rfl,.inl rfl⟩
theorem Aa{args:_i}(Gp:A.frames=some (env::outer))(hf:env.frame=some L)(hkb:base.StaysIn h)(hl:h.FunFrames base (env::outer))(hx:Heap.MadeExcOf h s.heap e cls args)(hQ:∀h' t,Heap.FlyingW base outer e cls (.ref t) h'->s.heap.UpToSlots h'->Gn h' e->Q () {s with heap:=h'}):wpAny M A (leaving env (.ref e)) Q E s:=
 vV (Bs _ _) (wpAny_leaves_madeW (Q:=λ_ s'=>∃h' t,s' = {s with heap:=h'}/\Heap.FlyingW base outer e cls (.ref t) h'/\s.heap.UpToSlots h') Gp hf hkb hl hx λh' t a _ _ d=>⟨h',t,rfl,a,d⟩) (t7 Gp (hl.of_keeps λb o hb _=>⟨o,hx.keeps b o hb,rfl⟩) hf (Ir hx))
  λ_ _⟨h',t,z,a,d⟩q=>by subst z;exact hQ h' t a d q
theorem C0(Gp:A.frames=some (env::outer))(hf:env.frame=some L)(hfl:Heap.FlyingW base (env::outer) e cls a0 s.heap)(ht:Gn s.heap e)(hQ:∀h',Heap.FlyingW base outer e cls a0 h'->s.heap.UpToSlots h'->Gn h' e->Q () {s with heap:=h'}):wpAny M A (leaving env (.ref e)) Q E s:=
 vV (Bs _ _) (wpAny_leaves_onW (Q:=λ_ s'=>∃h',s' = {s with heap:=h'}/\Heap.FlyingW base outer e cls a0 h'/\s.heap.UpToSlots h') Gp hf hfl λh' a d=>⟨h',rfl,a,d⟩) (t7 Gp hfl.2.2.1 hf ht)
  λ_ _⟨h',z,a,d⟩q=>by subst z;exact hQ h' a d q
end
section
variable[DecidableEq κ]
def m_(aW:List (κ×V))(k:κ):Option V:=(aW.find? λkv=>decide (kv.1=k)).map (·.2)
def putK(aW:List (κ×V))(k:κ)(v:V):List (κ×V):=
 if(aW.any λkv=>decide (kv.1=k))=true then aW.map (λkv=>if kv.1=k then(kv.1,v)else kv)else aW++[(k,v)]
theorem vW{p:κ×V}{r:List (κ×V)}{k:κ}(e:p.1=k):m_ (p::r) k=some p.2:=by simp[m_,XU,e]
theorem vX{p:κ×V}{r:List (κ×V)}{k:κ}(e:¬ p.1=k):m_ (p::r) k=m_ r k:=by simp[m_,XU,e]
theorem Bt(k:κ):∀aW:List (κ×V),(aW.any λkv=>decide (kv.1=k))=(m_ aW k).isSome
 |[]=>rfl
 |p::r=>by
  rw[XS];by_cases e:p.1=k
  .simp only[vW e,V8 e,ZE,Option.isSome_some]
  .rw[vX e,V5 e,X9];exact Bt k r
theorem t8(aW:List (κ×V))(k:κ)(v:V):(putK aW k v).length<=aW.length+1:=by
 unfold putK;split
 .rw[Vg];lia
 .rw[Vj,Vi,Vs];lia
theorem vM.Gq{o:Option V}{u:_j}(r:vM o u):o.isSome=u.isSome:=by
 cases o with
 |none=>cases u with
  |none=>rfl
  |some _=>exact(show False from r).elim
 |some _=>cases u with
  |none=>exact(show False from r).elim
  |some _=>rfl
theorem KV.val{aW:List (κ×V)}{vs:List (κ×_m)}(r:KV aW vs)(k:κ):vM (m_ aW k) (valueAt vs k):=by
 unfold KV at r
 induction r with
 |nil=>exact True.intro
 | @cons p q ps qs h t ih=>
  obtain⟨h1,h2⟩:=h;by_cases e:p.1=k
  .have e':q.1=k:=h1.symm.trans e;have b:valueAt (q::qs) k=some q.2:=by simp[valueAt,XU,e']
   rw[vW e,b];exact h2
  .have e':¬ q.1=k:=λz=>e (h1.trans z);have b:valueAt (q::qs) k=valueAt qs k:=by simp[valueAt,XU,e']
   rw[vX e,b];exact ih
theorem KV.any{aW:List (κ×V)}{vs:List (κ×_m)}(r:KV aW vs)(k:κ):(aW.any λkv=>decide (kv.1=k))=vs.any λkv=>decide (kv.1=k):=by
 unfold KV at r
 induction r with
 |nil=>rfl
 |cons h t ih=>rw[XS,XS,ih,h.1]
theorem KV.C1{aW:List (κ×V)}{vs:List (κ×_m)}(r:KV aW vs)(k:κ){y:V}{u:_m}(ry:bW y u):
  KV (aW.map λkv=>if kv.1=k then(kv.1,y)else kv) (vs.map λkv=>if kv.1=k then(kv.1,u)else kv):=by
 unfold KV at r⊢
 induction r with
 |nil=>exact .nil
 | @cons p q ps qs h t ih=>
  rw[Vm,Vm];refine .cons ?_ ih;obtain⟨h1,h2⟩:=h;by_cases e:p.1=k
  .rw[Vv e,Vv (h1.symm.trans e)];exact⟨h1,ry⟩
  .rw[VG e,VG (λz=>e (h1.trans z))];exact⟨h1,h2⟩
theorem KV.put{aW:List (κ×V)}{vs:List (κ×_m)}(r:KV aW vs)(k:κ){y:V}{u:_m}(ry:bW y u):KV (putK aW k y) (stored vs k u):=by
 unfold putK stored;rw[r.any k];by_cases e:(vs.any λkv=>decide (kv.1=k))=true
 .rw[Vv e,Vv e];exact r.C1 k ry
 .rw[VG e,VG e];exact Paired.snoc r ⟨rfl,ry⟩
theorem KV.length{aW:List (κ×V)}{vs:List (κ×_m)}(r:KV aW vs):aW.length=vs.length:=ZT r
end
theorem Iu{w:World}{k:fX}{u:_m}(r:bW (kV k) u):(gw P w).is k u=true:=by
 cases k with
 |inl i=>obtain⟨t,e⟩:=(show ∃t,u=Value.int i t from r);subst e;exact Bc P w i t
 |inr x=>obtain⟨t,e⟩:=(show ∃t,u=Value.str x t from r);subst e;exact Be P w x t
theorem yF{P:_q}{w:World}:∀{ks:List fX}{us:_i},bx (ks.map kV) us->ItemsAre (gw P w) ks us
 |[],_,r=>by rw[VM]at r;cases r;exact .nil
 |k::ks,_,r=>by
  rw[Vm]at r;cases r with
  |cons h t=>exact .cons (Iu h) (yF t)
abbrev KT(H:Hp):List (List fX×V)->List (List fX×_o×_m)->Prop:=Paired λp q=>p.1=q.1/\H q.2.1=some (.tup (p.1.map kV))/\bW p.2 q.2.2
theorem KT.val{aW:List (List fX×V)}{xs:List (List fX×_o×_m)}(r:KT H aW xs)(k:List fX):vM (m_ aW k) ((atKey xs k).map (·.2)):=by
 induction r with
 |nil=>exact True.intro
 | @cons p q ps qs h t ih=>
  obtain⟨h1,_,h2⟩:=h;by_cases e:p.1=k
  .have e':q.1=k:=h1.symm.trans e;have b:atKey (q::qs) k=some q.2:=by simp[atKey,XU,e']
   rw[vW e,b];exact h2
  .have e':¬ q.1=k:=λz=>e (h1.trans z);have b:atKey (q::qs) k=atKey qs k:=by simp[atKey,XU,e']
   rw[vX e,b];exact ih
theorem KT.C1{aW:List (List fX×V)}{xs:List (List fX×_o×_m)}(r:KT H aW xs)(k:List fX){y:V}{u:_m}(ry:bW y u):
  KT H (aW.map λkv=>if kv.1=k then(kv.1,y)else kv) (xs.map (putAt k u)):=by
 induction r with
 |nil=>exact .nil
 | @cons p q ps qs h t ih=>
  rw[Vm,Vm];refine .cons ?_ ih;obtain⟨h1,h2,h3⟩:=h;unfold putAt;by_cases e:p.1=k
  .rw[Vv e,Vv (h1.symm.trans e)];exact⟨h1,h2,ry⟩
  .rw[VG e,VG (λz=>e (h1.trans z))];exact⟨h1,h2,h3⟩
theorem KT.put{aW:List (List fX×V)}{xs:List (List fX×_o×_m)}(r:KT H aW xs)(k:List fX){b:_o}{y:V}{u:_m}(hb:H b=some (.tup (k.map kV)))(ry:bW y u):
  KT H (putK aW k y) (storedH xs k b u):=by
 have e:(aW.any λkv=>decide (kv.1=k))=(atKey xs k).isSome:=by rw[Bt,(r.val k).Gq,Option.isSome_map]
 unfold putK storedH;rw[e];by_cases q:(atKey xs k).isSome=true
 .rw[Vv q,Vv q];exact r.C1 k ry
 .rw[VG q,VG q];exact Paired.snoc r ⟨rfl,hb,ry⟩
theorem KT.keeps{aW:List (List fX×V)}{xs:List (List fX×_o×_m)}(r:KT H aW xs)(ht:∀b ys,H b=some (.tup ys)->H' b=some (.tup ys)):KT H' aW xs:=
 Paired.O' r λ_ _ z=>⟨z.1,ht _ _ z.2.1,z.2.2⟩
section
variable{w:World}{a:_o}
theorem Om{u:HO}(ok:m6 P w H h)(e:Rd H a u):dR P w H h a u:=e.ok ok
theorem Ey{aW:List (fX×V)}(ok:m6 P w H h)(e:Rd H a (.dK aW)):aW.length<=sizeLine/\(a==sysModules)=false/\∃vs,KV aW vs/\h.DictOf (gw P w) a vs:=
 show dR P w H h a (.dK aW)from Om ok e
theorem Ut{aW:List (fX×V)}(ok:m6 P w H h)(e:H a=some (.dK aW)):aW.length<=sizeLine/\(a==sysModules)=false/\∃vs,KV aW vs/\h.DictOf (gw P w) a vs:=Ey ok (.inl e)
theorem C2{ks:List fX}(ok:m6 P w H h)(e:H a=some (.tup (ks.map kV))):(tupleKind (gw P w)).is h ks a:=by
 obtain⟨_,aN,r,o,h1,h2,n,h3⟩:=(show dR P w H h a (.tup (ks.map kV))from ok a _ e)
 exact⟨o,aN.toArray,n,h1,h2,h3,by simpa using yF r⟩
theorem Iv{aW:List (List fX×V)}(ok:m6 P w H h)(e:Rd H a (.dT aW)):aW.length<=sizeLine/\(a==sysModules)=false /\
  ∃xs,KT H aW xs/\h.DictOfH (tupleKind (gw P w)) a xs:=by
 obtain⟨z,y,xs,r,o,es,ep,h1,h2,h3,h4,h5⟩:=(show dR P w H h a (.dT aW)from Om ok e)
 refine⟨z,y,xs,r,o,es,ep,h1,h2,h3,h4,λx hx=>?_,h5⟩;have all:∀{l:List (List fX×V)}{m:List (List fX×_o×_m)},KT H l m->∀x∈m,(tupleKind (gw P w)).is h x.1 x.2.1:=by
  intro l m q
  induction q with
  |nil=>intro x hx;exact nomatch hx
  | @cons p q ps qs hq t ih=>
   intro x hx;rcases VX.mp hx with e|hx
   .subst e;exact C2 ok (by rw[<-hq.1];exact hq.2.1)
   .exact ih x hx
 exact all r x hx
theorem Uu{aW:List (List fX×V)}(ok:m6 P w H h)(e:H a=some (.dT aW)):aW.length<=sizeLine/\(a==sysModules)=false /\
  ∃xs,KT H aW xs/\h.DictOfH (tupleKind (gw P w)) a xs:=Iv ok (.inl e)
end
def xW(H:Hp)(a:_o)(y:V)(r:Option V):Prop:=
 (∃aW k,Rd H a (.dK aW)/\y=kV k/\r=m_ aW k)\/∃aW k b,Rd H a (.dT aW)/\y=.ref b/\H b=some (.tup (k.map kV))/\r=m_ aW k
def Ab(H:Hp)(a:_o)(y v:V)(H':Hp):Prop:=
 (∃aW k,H a=some (.dK aW)/\y=kV k/\aW.length<sizeLine/\H'=upd H a (.dK (putK aW k v))) \/
 ∃aW k b,H a=some (.dT aW)/\y=.ref b/\H b=some (.tup (k.map kV))/\aW.length<sizeLine/\H'=upd H a (.dT (putK aW k v))
theorem xW.k{H:Hp}{a:_o}{aW:List (fX×V)}{k:fX}(e:H a=some (.dK aW)):xW H a (kV k) (m_ aW k):=.inl ⟨aW,k,.inl e,rfl,rfl⟩
theorem xW.t{a b:_o}{aW:List (List fX×V)}{k:List fX}(e:H a=some (.dT aW))(eb:H b=some (.tup (k.map kV))):xW H a (.ref b) (m_ aW k):=.inr ⟨aW,k,b,.inl e,rfl,eb,rfl⟩
theorem Ab.k{H:Hp}{a:_o}{aW:List (fX×V)}{k:fX}{v:V}(e:H a=some (.dK aW))(hl:aW.length<sizeLine):Ab H a (kV k) v (upd H a (.dK (putK aW k v))):=.inl ⟨aW,k,e,rfl,hl,rfl⟩
theorem Ab.t{a b:_o}{aW:List (List fX×V)}{k:List fX}{v:V}(e:H a=some (.dT aW))(eb:H b=some (.tup (k.map kV)))(hl:aW.length<sizeLine):
  Ab H a (.ref b) v (upd H a (.dT (putK aW k v))):=.inr ⟨aW,k,b,e,rfl,eb,hl,rfl⟩
section
variable{a:_o}{y v:V}{u r:_m}{o:Option V}{E:_c}
theorem a9.big(I:a9 X ae σ H s):sysModules<s.heap.objs.size:=by have h:mainGlobals<s.heap.objs.size:=(I.mod.glob.keeps I.bk).lt;exact Zt ⋯ h
theorem Gr{Q:_c}(hu:A.units+1<cLine)(I:a9 X ae σ H s)(g:xW H a y (some v))(ry:bW y u)(h:∀w' s',a9 X ae σ H s'->bW v w'->Q w' s'):
  wpAny (model X.prog X.w) A (getItem (.ref a) u) Q E s:=by
 rcases g with⟨aW,k,e,ey,l⟩|⟨aW,k,b,e,ey,eb,l⟩
 .subst ey;obtain⟨z,hd,vs,rel,dd⟩:=Ey I.dJ e;obtain⟨w',hw,zX⟩:=vM.some_of (v:=v) (o:=valueAt vs k) (by rw[l];exact rel.val k);exact wpAny_getItem_of (Iu ry) dd.mapOf hw (h w' _ (I.tok _) zX)
 .subst ey;cases(show u=Value.ref b from ry);obtain⟨z,hd,xs,rel,dd⟩:=Iv I.dJ e;obtain⟨w',hw,zX⟩:=vM.some_of (v:=v) (o:=(atKey xs k).map (·.2)) (by rw[l];exact rel.val k);obtain⟨p,hp,hp2⟩:=Wr.mp hw;refine wpAny_getItem_heap (tupleKind_room_in1 hu) (C2 I.dJ eb) dd hp ?_;rw[hp2];exact h w' _ (I.tok _) zX
theorem Ez{t':Nat}{ob:HO}(I:a9 X ae σ H s)(mu:Tt (H a))(hs:Heap.SameBut a s.heap h')(he:∃q,h'.get? a=some q)(new:dR X.prog X.w (upd H a ob) h' a ob):
  a9 X ae σ (upd H a ob) {s with heap:=h',toks:=t'}:=
 I.write (x:=a) (e:=a) mu (.inl rfl) (λb q hb z=>(hs.2 b hb).trans z) he new
theorem Qm{w:World}{aW:List (fX×V)}{vs:List (fX×_m)}(z:aW.length<=sizeLine)(hd:(a==sysModules)=false)(rel:KV aW vs)(dd:h'.DictOf (gw P w) a vs):
  dR P w H' h' a (.dK aW):=⟨z,hd,vs,rel,dd⟩
theorem Gu{Q:Unit->_n->Prop}(hu:A.units+1<cLine)(I:a9 X ae σ H s)(g:Ab H a y v H')(ry:bW y u)(rv:bW v r)(h:∀s',a9 X ae σ H' s'->Q () s'):
  wpAny (model X.prog X.w) A (setItem (.ref a) u r) Q E s:=by
 rcases g with⟨aW,k,e,ey,l,eH⟩|⟨aW,k,b,e,ey,eb,l,eH⟩
 .subst ey eH;obtain⟨z,hd,vs,rel,dd⟩:=Ut I.dJ e;have hz:vs.length<=sizeLine:=by rw[<-rel.length];exact z
  have hl:(putK aW k v).length<=sizeLine:=by have:=t8 aW k v;lia
  refine wpAny_setItem_pairs (hsz:=hz) (Iu ry) dd λh' dd' hs=>h _ ?_;have he:∃q,h'.get? a=some q:=let⟨q,_,_,hq,_⟩:=dd';⟨q,hq⟩
  exact Ez I (by rw[e];exact True.intro) hs he (Qm hl hd (rel.put k rv) dd')
 .subst ey eH;cases(show u=Value.ref b from ry);obtain⟨z,hd,xs,rel,dd⟩:=Uu I.dJ e;have hz:xs.length<=sizeLine:=by rw[<-ZT rel];exact z
  have hl:(putK aW k v).length<=sizeLine:=by have:=t8 aW k v;lia
  refine wpAny_setItem_heap (hsz:=hz) (tupleKind_room_in1 hu) (C2 I.dJ eb) dd λh' dd' hs=>h _ ?_;obtain⟨q,es,ep,hq,h2,h3,h4,_,h5⟩:=dd';refine Ez I (by rw[e];exact True.intro) hs ⟨q,hq⟩ ⟨hl,hd,_,(rel.put k eb rv).keeps λc ys ec=>?_,q,es,ep,hq,h2,h3,h4,h5⟩;rw[aS (Ts ec e (λz=>nomatch z))];exact ec
end
def Qn(i:Expr):Prop:=∀ov iv,subscripted i false ov iv=operate [ov,iv] (getItem ov iv)
theorem Mj{w:World}{E:_c}{env:Env}{slice:Expr}{pos:Pos}{T id:String}{Q:_c}(hl:typeLookup (.type T) "__getitem__" = pure (some (.builtin id)))(hs:Qn slice)(h:wpAny (model prog w) A (eval value env) (λo s₁=>wpAny (model prog w) A (eval slice env) (λi s₂=>s₂.TypeIs o T/\wpAny (model prog w) A (getItem o i) Q E s₂) E s₁) E s):
  wpAny (model prog w) A (eval (.Subscript value slice pos) env) Q E s:=by
 refine Subscript_ (WC h (λo s₁ h₁=>WC h₁ (λi s₂ h₂=>?_) λ_ _ x=>x) λ_ _ x=>x);obtain⟨hT,h₂⟩:=h₂;unfold subscriptTail;refine Vh ?_;rw[getitemInPython_of_ne hT.not_modules];refine Vh (wpAny_specialOf hT hl ?_);have fin:wpAny (model prog w) A (subscripted slice false o i) (λr s₃=>wpAny (model prog w) A (letTemporaryGo value o r >>= λ_=>pure r) Q E s₃) E s₂:=by rw[hs o i];exact wpAny_operating (WC h₂ (λr s₃ h₃=>Vh (wpAny_letTemporaryGo (VE h₃))) λ_ _ x=>x)
 first
  |exact VE (Vh fin)
  |exact Vh (VE (Vh fin))
  |exact Vh fin
theorem Bu{a:_o}{y:V}{o:Option V}(I:a9 X ae σ H s)(g:xW H a y o):s.TypeIs (.ref a) "dict":=by
 rcases g with⟨aW,k,e,_,_⟩|⟨aW,k,b,e,_,_,_⟩
 .obtain⟨_,_,vs,_,dd⟩:=Ey I.dJ e;exact dd.typeIs
 .obtain⟨_,_,xs,_,dd⟩:=Iv I.dJ e;exact dd.typeIs
def Uv(td ty:TE):TE:=λσ H Q=>td σ H λx H1=>ty σ H1 λy H2=>∃a v,x=.ref a/\xW H2 a y (some v)/\Q v H2
def Uw(td ty tv:TE):TS:=λD σ H=>tv σ H λv H1=>td σ H1 λx H2=>ty σ H2 λy H3=>∃a H4,x=.ref a/\Ab H3 a y v H4/\D.nx σ H4
section
variable{i e:Expr}{pos:Pos}{ty tv:TE}
theorem Mk(hu:X.A.units+1<cLine)(ho:PE X o td)(hi:PE X i ty)(hs:Qn i):PE X (.Subscript o i pos) (Uv td ty):=by intro ae s σ H Q I h;refine Mj PySem.F.slot_dict_getitem.lookup hs (fv (ho ae s σ H _ I h) λu s1⟨x,H1,I1,rx,q1⟩=>fv (hi ae s1 σ H1 _ I1 q1) λiv s2⟨y,H2,I2,ry,a,v,ex,g,q2⟩=>?_);subst ex;obtain rfl:u=Value.ref a:=rx;exact⟨Bu I2 g,Gr hu I2 g ry λw' s3 I3 zX=>⟨v,H2,I3,zX,q2⟩⟩
theorem Ml(hu:X.A.units+1<cLine)(ho:PE X o td)(hi:PE X i ty)(hv:PE X value tv)(hs:swapsWith value (some (.Subscript o i pos')) pos.line X.env=pure false):
  PS X (.Assign [.Subscript o i pos'] value pos) (Uw td ty tv):=by
 intro ae s σ H D I h;refine wpAny_Assign_Subscript (fv (hv ae s σ H _ I h) λr s1⟨v,H1,I1,rv,q1⟩=>fv (ho ae s1 σ H1 _ I1 q1) λu s2⟨x,H2,I2,rx,q2⟩=>fv (hi ae s2 σ H2 _ I2 q2) λiv s3⟨y,H3,I3,ry,a,H4,ex,g,q3⟩=>?_) hs;subst ex;obtain rfl:u=Value.ref a:=rx;exact Gu hu I3 g ry rv λs4 I4=>⟨σ,H4,I4,q3⟩
end
theorem Iw{w:World}(h:Heap)(hb:sysModules<h.objs.size):dR P w H (h.push {cls:=.type "dict",data:=.dict #[]}) h.objs.size (.dK []):=
 ⟨Wd _,WX.mpr (WU (V7 hb)),[],.nil,Heap.DictOf.new h⟩
def Qo:TE:=λ_ H Q=>∀p,H p=none->Q (.ref p) (upd H p (.dK []))
section
variable{pos:Pos}
theorem Iy:PE X (.Dict [] [] pos) Qo:=λae s σ H Q I h=>
 wpAny_Dict_empty ⟨.ref s.heap.objs.size,_,I.laid (a:=s.heap.objs.size) (o:=.dK []) (t':=s.toks) (λ_ _ q=>Vl _ q) (Vt _) (Iw s.heap I.big),rfl,h _ (I.dJ.fresh (Vt _))⟩
end
def IsD(H:Hp)(a:_o):Prop:=(∃aW,Rd H a (.dK aW))\/∃aW,Rd H a (.dT aW)
theorem sF.upd{H H':Hp}{p:_o}{o:HO}(e:sF H H')(h:H' p=none):sF H (upd H' p o):=λb u q=>by rw[aS (bA (e b u q) h)];exact e b u q
def uF(k:Nat)(i:Int):Prop:=i.natAbs<2 ^ k
theorem uF.bits{k:Nat}{i:Int}(h:uF k i):Builtin.Int.intBits i<=k:=by
 unfold Builtin.Int.intBits;by_cases hz:(i==0)=true
 .rw[Vv hz];exact Wd _
 .rw[VG hz];have h0:i.natAbs≠0:=by intro e;apply hz;have:i=0:=ZU.mp e;simp[this]
  have:=(YX h0).mpr h;lia
theorem uF.le{k:Nat}{i:Int}(h:uF k j)(e:i.natAbs<=j.natAbs):uF k i:=YC e h
theorem uF.small{k:Nat}{i:Int}(hk:10<=k)(h0:-1000<i)(h1:i<1000):uF k i:=by show i.natAbs<2 ^ k;have:2 ^ 10<=2 ^ k:=Yk ⋯ hk;lia
def EA(i j:Int):Prop:=∃a b,uF a i/\uF b j/\a<=2 ^ 20/\b<=2 ^ 20
theorem EA.ok{i:Int}(h:EA i j):IntMulOk i j:=by obtain⟨a,b,h1,h2,h3,h4⟩:=h;exact IntMulOk.of_bits (V! h1.bits h3) (V! h2.bits h4)
def EB(i j:Int):Prop:=j≠0/\uF 9000 j
theorem EB.ok{i:Int}(h:EB i j):Builtin.divisionGoesByPylong i j=false:=
 Zf ((YX (by intro e;exact h.1 (ZU.mp e))).mpr h.2)
theorem Mm:gJ X (binaryOp .Mult) (rI EA λi j=>.int (i*j)):=T8 λ_ _ _ _ _ _ _ hc q=>PyProof.Rows.mul_int q hc.ok
theorem Iz:gJ X (binaryOp .FloorDiv) (rI EB λi j=>.int (i.fdiv j)):=T8 λ_ _ _ _ _ _ _ hc q=>floordiv_int hc.1 q (.inl hc.ok)
def EC(X:Cx)(ifs:List Expr)(t:TT):Prop:=
 ∀(ae:_e)(s:_n)(σ:St)(H:Hp)(Q:Bool->Hp->Prop),a9 X ae σ H s->t σ H Q ->
  wpAny (model X.prog X.w) X.A (forIn ifs true λc r=>if r=true then do let ok <- isTrue c X.env (eval c X.env);pure (ForInStep.yield ok)else pure (ForInStep.yield r)) (TP X ae σ Q) X.xe s
def Ux:TT:=λ_ H Q=>Q true H
theorem Mn:EC X [] Ux:=λ_ _ _ H _ I h=>wpAny_tests_nil ⟨H,I,h⟩
theorem Mo{c:Expr}{t:TT}(h:PT X c t):EC X [c] t:=λae s σ H Q I hw=>wpAny_tests_one (h ae s σ H Q I hw)
theorem m6.ED{w:World}{a:_o}{o:HO}(x:m6 P w H h)(hn:H a=none)(new:dR P w (upd H a o) h a o):m6 P w (upd H a o) h:=λb u e=>by
 by_cases hb:b=a
 .subst hb;rw[cC]at e;cases e;exact new
 .rw[aS hb]at e;exact(x b u e).uB (λc v _ q=>q) (λc q=>by rw[aS (bA q hn)];exact q) λc xs q=>by rw[aS (bA q hn)];exact q
def xK(X:Cx)(N:_l)(scope:Scope)(cl:List (Str×_o))(C:_o)(fp:_k)(s:_n)(H:Hp):Cx:=
 {X with N:=N,s₀:=s,H₀:=H,env:=compEnvC scope cl C X.env,outer:=X.stack,stack:=X.stack,ex:=fp,fn:=λ_=>false,pn:=[],xe:=λ_ _=>False}
def uG(k:Nat)(bM:List Nat)(σ:St):St:=List.replicate k none++bM.map λj=>(σ[j]?).getD none
structure vY(X:Cx)(N:_l)(scope:Scope)(cl:List (Str×_o))(k:Nat)(bM:List Nat):Prop where
 uH:closureFor scope X.env=pure cl
 sub:∀x c,cl.lookup x=some c->X.env.cells.lookup x=some c
 has:∀x,((relabel scope X.env).names.lookup x=some .cell\/(relabel scope X.env).names.lookup x=some .free)->∃c,cl.lookup x=some c
 ik:∀x∈scope.names,x.2≠.cell
 kind:scope.kind=.function
 names:∀x∈scope.names,x.2=.local->scope.names.lookup x.1=some .local
 len:N.length=k+bM.length
 at_:∀i j x,bM[i]?=some j->N[k+i]?=some x->X.N[j]?=some x/\(X.env.kindOf x=some .cell\/X.env.kindOf x=some .free)/\((relabel scope X.env).names.lookup x=some .cell\/(relabel scope X.env).names.lookup x=some .free)
def yG(J:It)(k:Nat)(bM:List Nat)(g:TG)(tt:TT)(te:TE)(σ:St)(H1:Hp)(Q:VK):Prop:=
 ∃W:Nat->Nat->List V->St->Hp->Prop,(∃m,W 0 m [] (uG k bM σ) H1)/\∀i m ys τ H,W i m ys τ H ->
  (J.stop i H/\ys.length<=sizeLine/\∀p,H p=none->Q (.ref p) (upd H p (.lst ys))) \/
  (J.go i H/\ys.length<sizeLine/\∀x H',J.SW i H x H'->g x τ H' λτ2 H2=>tt τ2 H2 λb H3=>if b=true then te τ2 H3 λy H4=>∃m',m'<m/\W (i+1) m' (ys++[y]) τ2 H4 else ∃m',m'<m/\W (i+1) m' ys τ2 H3)
@[irreducible] def vZ(k:Nat)(bM:List Nat)(wi:TI)(g:TG)(tt:TT)(te:TE):TE:=λσ H Q=>wi σ H λJ H1=>yG J k bM g tt te σ H1 Q
theorem IA{k:Nat}{g:TG}{tt:TT}(h:wi σ H λJ H1=>yG J k bM g tt te σ H1 Q):vZ k bM wi g tt te σ H Q:=by unfold vZ;exact h
theorem yH{k:Nat}{g:TG}{tt:TT}(h:vZ k bM wi g tt te σ H Q):wi σ H λJ H1=>yG J k bM g tt te σ H1 Q:=by unfold vZ at h;exact h
theorem Mp{k:Nat}{σ:St}{i:Nat}{v:V}(h:(uG k bM σ)[i]?=some (some v)):∃j,k<=i/\bM[i-k]?=some j/\σ[j]?=some (some v):=by
 unfold uG at h;by_cases hi:i<k
 .rw[V3 (by simpa using hi),W8]at h;split at h<;>cases h
 .rw[V2 (by simpa using YQ hi),V0,Vy]at h;cases e:bM[i-k]? with
  |none=>rw[e]at h;cases h
  |some j=>
   rw[e]at h;refine⟨j,YQ hi,rfl,?_⟩;have h':(σ[j]?).getD none=some v:=by simpa using h
   cases q:σ[j]? with
   |none=>rw[q]at h';cases h'
   |some o=>rw[q]at h';exact WE some h'
theorem a9.block{scope:Scope}{cl:List (Str×_o)}{k:Nat}{t':Nat}{m':_d}(I:a9 X ae σ H s)(B:vY X N scope cl k bM)(hf:∀b∈fp,m8 X ae H b)(hC:s.heap.objs.size<=C)(Uy:∀b∈fp,∃o,s.heap.get? b=some o)(kp:∀b o,s.heap.get? b=some o->h'.get? b=some o)(ns:h'.Ns C m'):a9 (xK X N scope cl C fp s H) [] (uG k bM σ) H {s with heap:=h',toks:=t'}:=by
 have below:∀{b:_o}{o:Obj},s.heap.get? b=some o->b≠C:=λe=>V7 (VR (VI e) hC);have Uz:∀x c,cl.lookup x=some c->∃v,s.heap.IsCell c v:=λx c e=>I.cell x c (B.sub x c e);refine⟨⟨I.ok.mod,?_,I.ok.glob,I.ok.blt,hC,λx y c h1 h2=>I.ok.inj x y c (B.sub x c h1) (B.sub y c h2),λx hx=>B.has x hx,λx c h1 _=>?_,I.ok.hd,I.ok.frames,.inl rfl,λb hb=>⟨?_,λx c e=>?_⟩,I.bs,V! I.ok.Pb I.sz,λb o e hb=>?_,λb hb=>?_,I.stack,I.zO⟩,
  rfl,I.bare,Un.kept kp,⟨m',ns,λi x v h1 h2 h3=>?_⟩,λx c e=>?_,?_,λx c e=>I.qF x c (B.sub x c e),λp hp=>absurd (show p∈([]:_e)from hp) (by simp),I.dJ.kept kp,?_⟩
 .exact B.kind
 .exact absurd h1 (by simp[xK])
 .obtain⟨o,e⟩:=Uy b hb;exact below e
 .exact(hf b hb).2.2.2.2.1 x c (B.sub x c e)
 .obtain⟨_,_,_,h4,_⟩:=hf b hb;rcases h4 with z|z
  .exact I.ok.LF b o e z
  .exact absurd (VR (VI (I.ok.bs b o e).1) z) (Wk _)
 .intro z;rcases VX.mp (I.zN b z)with e|e
  .exact(hf b hb).2.1 e
  .exact(hf b hb).2.2.1 e
 .obtain⟨j,hk,hj,hσ⟩:=Mp h2;have hN:N[k+(i-k)]?=some x:=by rw[Nat.add_sub_cancel' hk];exact h1
  obtain⟨a1,a2,a3⟩:=B.at_ (i-k) j x hj hN;obtain⟨m,hn,hl⟩:=I.loc;have vis:Tw X.env.scope x:=by
   rcases a2 with z|z
   .exact .inr (.inl z)
   .exact .inr (.inr z)
  obtain⟨u,r,l⟩:=hl j x v a1 hσ vis;refine⟨u,r,.inr ⟨a3,?_⟩⟩;rcases l with⟨z,_⟩|⟨_,c,e,cc⟩
  .rcases a2 with y|y<;>(rw[z]at y;cases y)
  .obtain⟨c',e'⟩:=B.has x a3;have:X.env.cells.lookup x=some c':=B.sub x c' e';rw[e]at this;cases this;obtain⟨o,ho,hd⟩:=cc;exact⟨c,e',o,kp c o ho,hd⟩
 .obtain⟨v,o,ho,hd⟩:=Uz x c e;exact⟨v,o,kp c o ho,hd⟩
 .exact I.dJ.fresh hC
 .show(uG k bM σ).length=N.length;unfold uG;rw[Vj,V0,Vg,B.len]
def Bv(X:Cx)(ae:_e)(σ:St)(s:_n)(Q:VK)(acc:_m)(C:_o)(s':_n):Prop:=
 ∃D H',acc=.ref D/\s.heap.objs.size<=C/\a9 X ae σ H' s'/\H' C=none/\(∃m,s'.heap.Ns C m)/\Q (.ref D) H'
structure Oo(C:Cx->Prop)(P:_q)(w:World)(K:_g)(tg:Expr)(J:It)(fp:_k)(it:_o)(tn:Nat->Heap->Prop):Prop where
 obj:∀i h,tn i h->∀b∈fp,∃o,h.get? b=some o/\∀v,o.data≠.cell v
 keep:∀i h h',tn i h->(∀b∈fp,∀o,h.get? b=some o->h'.get? b=some o)->tn i h'
 item:∀(X:Cx),X.prog=P->X.w=w->X.K=K->C X->∀(i:Nat)(ae:_e)(s:_n)(σ:St)(H:Hp)(E:_c),a9 X ae σ H s->(∀b∈fp,m8 X ae H b)->tn i s.heap->J.go i H ->
  wpAny (model P w) X.A (pyNext (.ref it)) (λr s1=>∃u,r=some u/\wpAny (model P w) X.A (letOwnedTupleGo tg (.ref it) u) (λ_ s2=>∃x H',a9 X ae σ H' s2/\bW x u/\J.SW i H x H'/\tn (i+1) s2.heap/\∀b∈fp,H' b=none) E s1) E s
 done:∀(X:Cx),X.prog=P->X.w=w->X.K=K->C X->∀(i:Nat)(ae:_e)(s:_n)(σ:St)(H:Hp)(E:_c),a9 X ae σ H s->(∀b∈fp,m8 X ae H b)->tn i s.heap->J.stop i H ->
  wpAny (model P w) X.A (pyNext (.ref it)) (λr s1=>r=none/\a9 X ae σ H s1) E s
 self:∀(A:_p)(i:Nat)(s:_n)(Q:_c)(E:_c),tn i s.heap->Q (.ref it) s->wpAny (model P w) A (pyIter (.ref it)) Q E s
theorem Turn.c{w:World}{K:_g}{it:_o}(T:Turn P w K tg J fp it tn):Oo (λX=>X.calm=true) P w K tg J fp it tn:=⟨T.obj,T.keep,T.item,T.done,T.self⟩
def UA(X:Cx)(N:_l)(scope:Scope)(cl:List (Str×_o))(C:_o)(fp:_k)(s:_n)(H:Hp)(xe:_o->_m->_n->Prop):Cx:={xK X N scope cl C fp s H with xe:=xe C}
theorem a9.xe{X:Cx}{ae:_e}{σ:St}{H:Hp}{s:_n}(I:a9 X ae σ H s)(x:_c):a9 {X with xe:=x} ae σ H s:=by obtain⟨⟨o1,o2,o3,o4,o5,o6,o7,o8,o9,o10,o11,o12,o13,o14,o15,o16,o17,o18⟩,i2,i3,i4,i5,i6,i7,i8,i9,i10,i11⟩:=I;exact⟨⟨o1,o2,o3,o4,o5,o6,o7,o8,o9,o10,o11,o12,o13,o14,o15,o16,o17,o18⟩,i2,i3,i4,i5,i6,i7,i8,i9,i10,i11⟩
def Qp(X:Cx)(fp:_k)(C:_o)(s:_n)(H:Hp):Prop:=∃ae σ,a9 X ae σ H s/\(∀b∈fp,m8 X ae H b)/\s.heap.objs.size<=C
theorem Qq{M:Model}{m:Sem α}{Q Q':α->_n->Prop}{E E':_c}{s:_n}(he:∀x s',E x s'->E' x s')(h:wpAny M A m Q E s)(k:∀a s',Q a s'->Q' a s'):wpAny M A m Q' E' s:=WC h k he
theorem xX{w:World}{s:_n}{target:Expr}{scope:Scope}{pos:Pos}{it acc:_m}{env:Env}{R:Result->_n->Prop}(I:Nat->_n->Prop)
  (turn:∀ n s,I n s->wpAny (model prog w) A (pyNext it) (λr s₁=>match r with
   |none=>R (.ok .next) s₁
   |some v=>wpAny (model prog w) A (letOwnedTupleGo target it v) (λ_ Oq=>wpAny (model prog w) A (assign target env v) (λ_ s₂=>
     wpAny (model prog w) A (forIn ifs true λc r=>if r=true then do let ok <- isTrue c env (eval c env);pure (ForInStep.yield ok)else pure (ForInStep.yield r)) (λok s₃=>
      if ok=true then wpAny (model prog w) A (eval elt env) (λx s₄=>
       wpAny (model prog w) A (call (.builtin "list.append") [acc,x]) (λ_ s₅=>∃m,m<n/\I m s₅) (notedBy (model prog w) A env λx s'=>R (.error x) s') s₄) (notedBy (model prog w) A env λx s'=>R (.error x) s') s₃
      else ∃m,m<n/\I m s₃) (notedBy (model prog w) A env λx s'=>R (.error x) s') s₂) (notedBy (model prog w) A env λx s'=>R (.error x) s') Oq) (notedBy (model prog w) A env λx s'=>R (.error x) s') s₁) (notedBy (model prog w) A env λx s'=>R (.error x) s') s)
  (n:Nat) (h:I n s):codeAny (model prog w) A (.compLoop (.ListComp elt [⟨target,iter,ifs,0⟩] scope pos) 0 it acc env) R s:=by
 refine codeAny_loop rfl I (λn s hI=>?_) n h;show wpAny _ A ((compTurn (.ListComp elt [⟨target,iter,ifs,0⟩] scope pos) 0 it acc env).onRaise (λx=>do noteFrame x env;theTreesLotGoes x)) _ _ s;refine wpAny_noted ?_;rw[compTurn_list];refine Vh (YU (Vh (WC (turn n s hI) (λr s₁ h₁=>?_) λ_ _ h'=>h')));cases r with
 |none=>exact VE h₁
 |some v=>
  refine Vh (WC h₁ (λ_ Oq UB=>?_) λ_ _ h'=>h');refine Vh (WC UB (λ_ s₂ h₂=>Vh (WC h₂ (λok s₃ h₃=>?_) λ_ _ h'=>h')) λ_ _ h'=>h');cases ok with
  |false=>exact VE ⟨rfl,h₃⟩
  |true=>exact Vh (Vh (WC h₃ (λx s₄ h₄=>Vh (WC h₄ (λ_ s₅ h₅=>VE (VE ⟨rfl,h₅⟩)) λ_ _ h'=>h')) λ_ _ h'=>h'))
theorem C4{scope:Scope}{pos:Pos}{cl:List (Str×_o)}{k:Nat}{g:TG}{tt:TT}{it:_o}{RR:_m->Env->Result->_n->Prop}{E:_c}{xe:_o->_m->_n->Prop}{Cd:Cx->Prop}(hc:∀D,Cd (UA X N scope cl D fp s H xe))(B:vY X N scope cl k bM)(hg:∀C fp s H,PG (UA X N scope cl C fp s H xe) tg g)(hi:∀C fp s H,EC (UA X N scope cl C fp s H xe) ifs tt)(he:∀C fp s H,Qp X fp C s H->PE (UA X N scope cl C fp s H xe) elt te)(I:a9 X ae σ H s)(T:Oo Cd X.prog X.w X.K tg J fp it tn)(st:tn 0 s.heap)(hf:∀b∈fp,m8 X ae H b)(h:yG J k bM g tt te σ H Q)(hRR:∀acc C s',Bv X ae σ s Q acc C s'->RR acc (compEnvC scope cl C X.env) (.ok .next) s')(mon:∀acc C x s',xe C x s'->notedBy (model X.prog X.w) X.A (compEnvC scope cl C X.env) (λx s'=>RR acc (compEnvC scope cl C X.env) (.error x) s') x s'):
  wpAny (model X.prog X.w) X.A (newList []) (λacc s₃=>wpAny (model X.prog X.w) X.A (newFunctionEnv scope X.env.globals cl [] X.env.qual none .none (some X.env)) (λIB s₄=>
   codeAny (model X.prog X.w) X.A (.compStart (.ListComp elt [⟨tg,iter,ifs,0⟩] scope pos) 0 (.ref it) acc {IB with scope:=relabel scope X.env}) (RR acc {IB with scope:=relabel scope X.env}) s₄) E s₃) E s:=by
 obtain⟨W,⟨m0,w0⟩,turn⟩:=h;refine Wt (wpAny_newFunctionEnv B.ik (by intro y hy;simp at hy) (λh₁ C5 Ac=>?_) B.kind);dsimp only at C5 Ac⊢;generalize hH2:s.heap.push {cls:=.type "list",dict:=none,data:=.seq ([]:_i).toArray} = H2 at C5 Ac⊢;have hC:H2.objs.size=s.heap.objs.size+1:=by rw[<-hH2,Ya]
 have UC:s.heap.objs.size<=H2.objs.size:=by rw[hC];exact YY _
 have hDC:s.heap.objs.size≠H2.objs.size:=by rw[hC];exact V7 (X? _)
 have old:∀b o,s.heap.get? b=some o->h₁.get? b=some o:=λb o e=>Ac.extBut b o (V7 (VR (VI e) UC)) (Vl _ (hH2▸Vl _ e));have Qr:h₁.get? s.heap.objs.size=some {cls:=.type "list",data:=.seq ([]:_i).toArray 0}:=Ac.extBut _ _ hDC (Vl _ (hH2▸VT _ rfl));have aby:=T.obj 0 _ st;have Uy:∀b∈fp,∃o,s.heap.get? b=some o:=λb hb=>let⟨o,e,_⟩:=aby b hb;⟨o,e⟩
 have hDf:∀b∈fp,b≠s.heap.objs.size:=λb hb z=>by obtain⟨o,e⟩:=Uy b hb;exact absurd (VI e) (by rw[z];exact Wk _)
 have hD0:H s.heap.objs.size=none:=I.dJ.fresh (Vt _);have Ot:tn 0 h₁:=T.keep 0 _ _ st λb _ o e=>old b o e;have UD:∀x c,cl.lookup x=some c->c≠s.heap.objs.size:=λx c e z=>by obtain⟨v,o,ho,_⟩:=I.cell x c (B.sub x c e);exact absurd (VI ho) (by rw[z];exact Wk _)
 have nfs:∀b∈kR X.stack,b≠s.heap.objs.size:=λb hb z=>by obtain⟨_,o,ho,_⟩:=I.stack.mem hb;exact absurd (VI ho) (by rw[z];exact Wk _)
 have loop:∀s₃:_n,s₃ = {s with heap:=h₁,toks:=s.toks+([]:List (Str×_m)).length} ->
   codeAny (model X.prog X.w) X.A (.compLoop (.ListComp elt [⟨tg,iter,ifs,0⟩] scope pos) 0 (.ref it) (.ref s.heap.objs.size) (compEnvC scope cl H2.objs.size X.env)) (RR (.ref s.heap.objs.size) (compEnvC scope cl H2.objs.size X.env)) s₃:=by
  rintro s₃ rfl;generalize CC:UA X N scope cl H2.objs.size fp s H xe=XB;have eP:XB.prog=X.prog:=by rw[<-CC];rfl
  have eW:XB.w=X.w:=by rw[<-CC];rfl
  have eK:XB.K=X.K:=by rw[<-CC];rfl
  have eA:XB.A=X.A:=by rw[<-CC];rfl
  have eE:XB.env=compEnvC scope cl H2.objs.size X.env:=by rw[<-CC];rfl
  have eL:XB.env.locals=H2.objs.size:=by rw[eE];rfl
  have eF:XB.fs=kR X.stack:=by rw[<-CC];rfl
  have eX:XB.ex=fp:=by rw[<-CC];rfl
  have eN:XB.pn=[]:=by rw[<-CC];rfl
  have e0:XB.s₀=s:=by rw[<-CC];rfl
  have eC:Cd XB:=by rw[<-CC];exact hc _
  have ecl:XB.env.cells=cl:=by rw[eE];rfl
  have exe:XB.xe=xe H2.objs.size:=by rw[<-CC];rfl
  have mon:=mon (.ref s.heap.objs.size) H2.objs.size;have xM:PG XB tg g:=by rw[<-CC];exact hg _ _ _ _
  have Bw:EC XB ifs tt:=by rw[<-CC];exact hi _ _ _ _
  have he':PE XB elt te:=by rw[<-CC];exact he _ _ _ _ ⟨ae,σ,I,hf,UC⟩
  have I0:a9 XB [] (uG k bM σ) H {s with heap:=h₁,toks:=s.toks+([]:List (Str×_m)).length}:=by rw[<-CC];exact(I.block B hf UC Uy old C5).xe _
  -- Oc Ou pinned
  have abz:∀{τ:St}{H':Hp}{s':_n}{aN:_i}{nn:Nat},a9 XB [] τ H' s'->s'.heap.get? s.heap.objs.size=some {cls:=.type "list",data:=.seq aN.toArray nn}->H' s.heap.objs.size=none ->
    a9 XB [(s.heap.objs.size,{cls:=.type "list",data:=.seq aN.toArray nn})] τ H' s':=λ{τ H' s' aN nn}J hd hn=>J.qG λp hp=>by
   obtain rfl:p=_:=Vz.mp hp;refine⟨hd,hn,by rw[eL];exact hDC,by rw[eF];exact λz=>nfs _ z rfl,λv z=>?_⟩;have z':Data.seq aN.toArray nn=Data.cell v:=z;cases z'
  have CN:∀{H':Hp}{o:Obj},(∀b∈fp,H' b=none)->∀b∈fp,m8 XB [(s.heap.objs.size,o)] H' b:=λ{H' o}hn b hb=>by
   obtain⟨_,f1,f2,f3,f4,f5⟩:=hf b hb;refine⟨hn b hb,?_,?_,.inl (by rw[eX];exact hb),λx c e=>f4 x c (B.sub x c (by rw[<-ecl];exact e)),λp hp=>?_⟩
   .rw[eL];obtain⟨o,e⟩:=Uy b hb;exact V7 (VR (VI e) UC)
   .rw[eF];intro z;rcases VX.mp (I.zN b z)with e|e
    .exact f1 e
    .exact f2 e
   .rw[eN]at hp;obtain rfl:p=_:=Vz.mp (by simpa using hp);exact WU (hDf b hb)
  refine xX (λn s'=>∃i ys aN nn τ H',a9 XB [] τ H' s'/\s'.heap.get? s.heap.objs.size=some {cls:=.type "list",data:=.seq aN.toArray nn}/\H' s.heap.objs.size=none/\bx ys aN/\tn i s'.heap/\(∀b∈fp,H' b=none)/\W i n ys τ H') ?_ m0
   ⟨0,[],[],0,uG k bM σ,H,I0,Qr,hD0,.nil,Ot,λb hb=>(hf b hb).1,w0⟩
  rintro n s3 ⟨i,ys,aN,nn,τ,H3,I3,hd3,hn3,rv3,oz,T5,w3⟩;have I3':=abz I3 hd3 hn3;rcases turn i n ys τ H3 w3 with⟨stop,hz,qn⟩|⟨go,hz,step⟩
  .have D1:=T.done XB eP eW eK eC i _ s3 τ H3 (notedBy (model X.prog X.w) X.A (compEnvC scope cl H2.objs.size X.env) λx s'=>RR (.ref s.heap.objs.size) (compEnvC scope cl H2.objs.size X.env) (.error x) s') I3' (CN T5) oz stop;rw[eA]at D1;refine fv D1 λr s4⟨hr,I4⟩=>?_;subst hr;refine hRR _ _ s4 ?_;obtain⟨pd,UE,_⟩:=I4.pin (s.heap.objs.size,{cls:=.type "list",data:=.seq aN.toArray nn}) (by rw[eN];exact VQ _ (Vz.mpr rfl));have Mq:Un (kR X.stack) fp H H3 s.heap s4.heap:=by have:=I4.base;rw[<-CC]at this;exact this
   have new:dR X.prog X.w (upd H3 s.heap.objs.size (.lst ys)) s4.heap s.heap.objs.size (.lst ys):=⟨hz,aN,nn,rv3,pd⟩
   have abA:m6 X.prog X.w H3 s4.heap:=by have:=I4.dJ;rw[eP,eW]at this;exact this
   have dJ:m6 X.prog X.w (upd H3 s.heap.objs.size (.lst ys)) s4.heap:=abA.ED UE new;have os4:s4.os=s.os:=by have:=I4.os;rw[e0]at this;exact this
   have un:Un (kR X.stack) fp H (upd H3 s.heap.objs.size (.lst ys)) s.heap s4.heap:=
    ⟨Mq.keep,Mq.slot,λb o e n hx=>by rw[aS (V7 (VI e))];exact Mq.free b o e n hx,Mq.there,
     λb xs e=>by rw[aS (bA (Mq.qa b xs e) UE)];exact Mq.qa b xs e,λb o u e=>by rw[aS (bA (Mq.pO b o u e) UE)];exact Mq.pO b o u e,
     λb ps e=>by
      obtain⟨more,q⟩:=Mq.qE b ps e;exact⟨more,by rw[aS (bA q UE)];exact q⟩⟩
   have I5:a9 X ae σ (upd H3 s.heap.objs.size (.lst ys)) s4:=I.Er os4 un dJ I4.bare λb hb=>⟨(hf b hb).2.2.2.1,(hf b hb).2.1,(hf b hb).2.2.2.2.1,(hf b hb).2.2.2.2.2⟩
   have hC4:H3 H2.objs.size=none:=by have:=I4.free;rw[eL]at this;exact this
   refine⟨s.heap.objs.size,_,rfl,UC,I5,by rw[aS (WU hDC)];exact hC4,?_,qn _ UE⟩;obtain⟨m4,ns4,_⟩:=I4.loc;rw[eL]at ns4;exact⟨m4,ns4⟩
  .have D1:=T.item XB eP eW eK eC i _ s3 τ H3 (notedBy (model X.prog X.w) X.A (compEnvC scope cl H2.objs.size X.env) λx s'=>RR (.ref s.heap.objs.size) (compEnvC scope cl H2.objs.size X.env) (.error x) s') I3' (CN T5) oz go;rw[eA]at D1;refine fv D1 λr s4⟨u,hr,h4⟩=>?_;subst hr;refine fv h4 λ_ s5⟨x,H5,I5,r5,y5,Lm,fr5⟩=>?_;have I5':=I5.pinned (CN fr5) (T.obj _ _ Lm);have G:=xM _ s5 τ H5 x u _ I5' r5 (step x H5 y5);rw[eP,eW,eA,eE,exe]at G;refine Qq mon G λ_ s6⟨τ6,H6,I6,q6⟩=>?_;have G2:=Bw _ s6 τ6 H6 _ I6 q6;rw[eP,eW,eA,eE,exe]at G2;refine Qq mon G2 λok s7⟨H7,I7,q7⟩=>?_
   -- T4 Oc ae give back
   have back:∀{τ8:St}{H8:Hp}{s8:_n},a9 XB ([(s.heap.objs.size,({cls:=.type "list",data:=.seq aN.toArray nn}:Obj))]++vP fp s5.heap) τ8 H8 s8 ->
     a9 XB [] τ8 H8 s8/\s8.heap.get? s.heap.objs.size=some {cls:=.type "list",data:=.seq aN.toArray nn}/\H8 s.heap.objs.size=none/\tn (i+1) s8.heap/\∀b∈fp,H8 b=none:=λ{τ8 H8 s8}J=>by
    obtain⟨p1,p2,_⟩:=J.pin (s.heap.objs.size,{cls:=.type "list",data:=.seq aN.toArray nn}) (VQ _ (We _ (Vz.mpr rfl)));refine⟨J.qG λp hp=>absurd (show p∈([]:_e)from hp) (by simp),p1,p2,T.keep _ _ _ Lm λb hb o e=>(J.pin (b,o) (VQ _ (VQ _ (m9 hb e)))).1,λb hb=>?_⟩;obtain⟨o,e,d⟩:=T.obj _ _ Lm b hb;exact(J.pin (b,o) (VQ _ (VQ _ (m9 hb e)))).2.1
   cases ok with
   |false=>
    rw[VG VW]at q7⊢;obtain⟨m',hm,w7⟩:=q7;obtain⟨J,a1,a2,a3,a4⟩:=back I7;exact⟨m',hm,i+1,ys,aN,nn,τ6,H7,J,a1,a2,rv3,a3,a4,w7⟩
   |true=>
    rw[Vv rfl]at q7⊢;have G3:=he' _ s7 τ6 H7 _ I7 q7;rw[eP,eW,eA,eE,exe]at G3;refine Qq mon G3 λv s8⟨y,H8,I8,r8,m',hm,w8⟩=>?_;obtain⟨J,a1,a2,a3,a4⟩:=back I8;have hlen:=rv3.length;refine X3 F.slot_list_append ⟨_,a1,rfl⟩ F.entry_list_append (F.args_list_append_2 _ _) (ZV s.heap.objs.size aN.toArray nn v (by rw[VB];lia)) ⟨a1,?_⟩;have q:=Z8 a1 (λz=>z.push v);have other:∀b o,b≠s.heap.objs.size->s8.heap.get? b=some o->(s8.heap.update s.heap.objs.size (Obj.mapSeq λz=>z.push v)).get? b=some o:=λb o hb e=>(Wl s8.heap (Obj.mapSeq λz=>z.push v) (WU hb)).trans e;have J':a9 XB [] τ6 H8 {s8 with heap:=s8.heap.update s.heap.objs.size (Obj.mapSeq λz=>z.push v)}:=
     J.turned (t':=s8.toks) (it:=s.heap.objs.size) other a2 (by rw[eL];exact hDC) (.inr (by rw[e0];exact Vt _)) (λx c e=>UD x c (by rw[<-ecl];exact e)) λp hp=>absurd (show p∈([]:_e) by rw[eN]at hp;exact hp) (by simp)
    obtain⟨n2,q2⟩:∃n2,(s8.heap.update s.heap.objs.size (Obj.mapSeq λz=>z.push v)).get? s.heap.objs.size=some {cls:=.type "list",data:=.seq (aN++[v]).toArray n2}:=by
     have e1:aN.toArray.push v=(aN++[v]).toArray:=by simp
     rw[<-e1];exact⟨_,q⟩
    exact⟨m',hm,i+1,ys++[y],aN++[v],n2,τ6,H8,J',q2,a2,rv3.append (.cons r8 .nil),T.keep _ _ _ a3 λb hb o e=>other b o (hDf b hb) e,a4,w8⟩
 exact codeAny_compStart_list (loop _ rfl) (T.self X.A 0 _ _ _ Ot (loop _ rfl))
theorem yI{scope:Scope}{pos:Pos}{cl:List (Str×_o)}{k:Nat}{g:TG}{tt:TT}{it:_o}{RR:_m->_o->Result->_n->Prop}{E:_c}(hc:X.calm=true)(B:vY X N scope cl k bM)(hg:∀C fp s H,PG (xK X N scope cl C fp s H) tg g)(hi:∀C fp s H,EC (xK X N scope cl C fp s H) ifs tt)(he:∀C fp s H,PE (xK X N scope cl C fp s H) elt te)(I:a9 X ae σ H s)(T:Turn X.prog X.w X.K tg J fp it tn)(st:tn 0 s.heap)(hf:∀b∈fp,m8 X ae H b)(h:yG J k bM g tt te σ H Q)(hRR:∀acc C s',Bv X ae σ s Q acc C s'->RR acc C (.ok .next) s'):
  wpAny (model X.prog X.w) X.A (newList []) (λacc s₃=>wpAny (model X.prog X.w) X.A (newFunctionEnv scope X.env.globals cl [] X.env.qual none .none (some X.env)) (λIB s₄=>
   codeAny (model X.prog X.w) X.A (.compStart (.ListComp elt [⟨tg,iter,ifs,0⟩] scope pos) 0 (.ref it) acc {IB with scope:=relabel scope X.env}) (RR acc IB.locals) s₄) E s₃) E s:=by
 have z:=C4 (xe:=λ_ _ _=>False) (RR:=λacc en=>RR acc en.locals) (E:=E) (iter:=iter) (pos:=pos) (Cd:=λX=>X.calm=true) (λ_=>hc) B hg hi (λC fp s H _=>he C fp s H) I T.c st hf h hRR λ_ _ _ _ q=>q.elim;exact z
section
variable{scope:Scope}{pos IC:Pos}{cl:List (Str×_o)}{k:Nat}{g:TG}{tt:TT}
theorem a9.yJ{σ':St}{s':_n}(I:a9 X ae σ H s)(hC:s.heap.objs.size<=C)(I':a9 X ae σ' H' s')(hn:H' C=none)(sb:Heap.SameBut C s'.heap h'):
  a9 X ae σ' H' {s' with heap:=h'}:=by
 refine I'.turned (t':=s'.toks) (it:=C) (λb o hb e=>(sb.2 b hb).trans e) hn (W' (VR I.lt hC)) (.inr (V! I.sz hC)) (λx c e=>?_) λp hp=>?_
 .obtain⟨v,o,ho,_⟩:=I.cell x c e;exact V7 (VR (VI ho) hC)
 .exact V7 (VR (VI (I.pin p hp).1) hC)
theorem Mr(hc:X.calm=true)(B:vY X N scope cl k bM)(hi:PI X tg iter wi)(hg:∀C fp s H,PG (xK X N scope cl C fp s H) tg g)(Qs:∀C fp s H,EC (xK X N scope cl C fp s H) ifs tt)(he:∀C fp s H,PE (xK X N scope cl C fp s H) elt te)(hs:∀x,foldedSetIterable iter X.env x=pure x:=by intro _;rfl):PE X (.ListComp elt [⟨tg,iter,ifs,0⟩] scope pos) (vZ k bM wi g tt te):=by intro ae s σ H Q I h;rw[eval_ListComp];refine ZN (use:=none) rfl hs B.uH B.kind B.names (fv (hi ae s σ H _ I (yH h)) λxv s₁ h₁=>fv h₁ λitv s₂ h₂=>?_);obtain⟨it,fp,tn,J,H2,e,I2,T,cJ,f2,hW⟩:=h₂;subst e;refine yI (RR:=λacc C=>compPost (model X.prog X.w) X.A X.xe none (EP X ae σ Q) acc C) hc B hg Qs he I2 T cJ f2 hW ?_;rintro acc C s' ⟨D,H',rfl,hC,I',hn,⟨m,ns⟩,q⟩;exact⟨m,ns,λh' sb=>⟨.ref D,H',I2.yJ hC I' hn sb,rfl,q⟩⟩
theorem C6{i:Nat}{y:Str}{py:Pos}(hN:X.N.Nodup)(hy:X.N[i]?=some y)(hx:Loc X.env.scope y)(hc:X.calm=true)(B:vY X N scope cl k bM)(hi:PI X tg iter wi)(hg:∀C fp s H,PG (xK X N scope cl C fp s H) tg g)(Qs:∀C fp s H,EC (xK X N scope cl C fp s H) ifs tt)(he:∀C fp s H,PE (xK X N scope cl C fp s H) elt te)(hsw:swapsWith (.ListComp elt [⟨tg,iter,ifs,0⟩] scope pos) (some (.Name y py)) IC.line X.env=pure true:=by rfl)(hs:∀x,foldedSetIterable iter X.env x=pure x:=by intro _;rfl)(hf:X.fn y=true\/X.env.scope.names.lookup y=some .local:=by left):
  PS X (.Assign [.Name y py] (.ListComp elt [⟨tg,iter,ifs,0⟩] scope pos) IC) (LS (vZ k bM wi g tt te) (Bh i)):=by
 intro ae s σ H D I h;rw[exec_Assign_Name_used _ _ _ _ hsw];refine Vh (YU (Vh ?_));show wpAny _ X.A (do let _ <- comprehension (.ListComp elt [⟨tg,iter,ifs,0⟩] scope pos) scope X.env _ (newList []) false (eval iter X.env) (some (assign (.Name y py) X.env))) _ _ s;refine Vh (WC (ZN (use:=some (assign (.Name y py) X.env)) (Q:=λ_ s'=>SP X ae D .next s') rfl hs B.uH B.kind B.names (fv (hi ae s σ H _ I (yH h)) λxv s₁ h₁=>fv h₁ λitv s₂ h₂=>?_)) (λ_ s' hq=>VE (VE hq)) λ_ _ e=>e);obtain⟨it,fp,tn,J,H2,e,I2,T,cJ,f2,hW⟩:=h₂;subst e;refine yI (Q:=λv H'=>Bh i v σ H' D.nx) (RR:=λacc C=>compPost (model X.prog X.w) X.A X.xe (some (assign (.Name y py) X.env)) (λ_ s'=>SP X ae D .next s') acc C) hc B hg Qs he I2 T cJ f2 hW ?_;rintro acc C s' ⟨D',H',rfl,hC,I',hn,⟨m,ns⟩,q⟩;show wpAny _ _ (assign (.Name y py) X.env (.ref D')) _ _ s';refine wpAny_assign_Name (yw I' hN hy hx (v:=.ref D') rfl (λpv I''⟨a,sb,ha⟩=>?_) hf);have hCa:C≠a:=by
  rcases ha with e|e
  .rw[e];exact W' (VR I2.lt hC)
  .obtain⟨v,o,ho,_⟩:=I2.cell y a e;exact W' (VR (VI ho) hC)
 exact⟨m,ns.sameBut sb hCa,λh' sb'=>⟨_,H',I2.yJ hC I'' hn sb',q⟩⟩
end
section
variable{K:_g}{g:TG}{tt:TT}
theorem Ms{k:Nat}(n:Nat)(hn:n<=sizeLine)(Pv:Nat->List V->St->Hp->Prop)(h0:Pv 0 [] (uG k bM σ) H)(hgo:∀i ys τ H,i<n->Pv i ys τ H->J.go i H)(yx:∀ys τ H,Pv n ys τ H->J.stop n H)(hl:∀i ys τ H,Pv i ys τ H->ys.length<=i)(hs:∀i ys τ H x H',i<n->Pv i ys τ H->J.SW i H x H'->∀K1:List V->St->Hp->Prop,(∀ys τ H,Pv (i+1) ys τ H->K1 ys τ H)->g x τ H' λτ2 H2=>tt τ2 H2 λb H3=>if b=true then te τ2 H3 λy H4=>K1 (ys++[y]) τ2 H4 else K1 ys τ2 H3)(hd:∀ys τ H p,Pv n ys τ H->H p=none->Q (.ref p) (upd H p (.lst ys))):yG J k bM g tt te σ H Q:=by
 refine⟨λi m ys τ H=>m=n-i/\i<=n/\Pv i ys τ H,⟨n,by simp,Wd _,h0⟩,?_⟩;rintro i m ys τ H ⟨rfl,hi,p⟩;have hy:=hl i ys τ H p;by_cases uI:i<n
 .refine .inr ⟨hgo i ys τ H uI p,⋯,λx H' y=>?_⟩;exact hs i ys τ H x H' uI p y (λys τ H=>∃m',m'<n-i/\m'=n-(i+1)/\i+1<=n/\Pv (i+1) ys τ H) λys τ H q=>⟨n-(i+1),⋯,rfl,uI,q⟩
 .have e:i=n:=⋯
  subst e;exact .inl ⟨yx ys τ H p,⋯,λq hq=>hd ys τ H q p hq⟩
end
def fC(b:Bool)(h:Heap)(i l:_o)(k:Nat):Prop:=match b with|true=>h.IsListIter i l k|false=>h.IsTupleIter i l k
def kW(b:Bool)(h:Heap)(l:_o)(xs:Array _m):Prop:=match b with|true=>h.IsList l xs|false=>h.IsTuple l xs
theorem fC.keep{b:Bool}{i l:_o}{k:Nat}(x:fC b h i l k)(e:∀o,h.get? i=some o->h'.get? i=some o):fC b h' i l k:=by
 cases b with
 |true=>exact Heap.IsListIter.at x e
 |false=>exact Heap.IsTupleIter.at x e
theorem kW.keep{b:Bool}{l:_o}(x:kW b h l xs)(e:∀o,h.get? l=some o->h'.get? l=some o):kW b h' l xs:=by
 cases b with
 |true=>exact Heap.IsList.at x e
 |false=>obtain⟨o,ho,r⟩:=(show h.IsTuple l xs from x);exact⟨o,e _ ho,r⟩
theorem fC.there{b:Bool}{i l:_o}{k:Nat}(x:fC b h i l k):∃o n vs,h.get? i=some o/\o.cls=.type n/\o.data=.fields vs:=by
 cases b with
 |true=>obtain⟨o,h1,h2,h3⟩:=(show h.IsListIter i l k from x);exact⟨o,_,_,h1,h2,h3⟩
 |false=>obtain⟨o,h1,h2,h3⟩:=(show h.IsTupleIter i l k from x);exact⟨o,_,_,h1,h2,h3⟩
section
variable{w:World}{E:_c}
theorem v5{it t:_o}{i:Nat}{x:_m}{Q:_c}(hit:s.heap.IsTupleIter it t i)(ht:s.heap.IsTuple t items)(hx:items[i]?=some x)(hQ:∀h',h'.IsTupleIter it t (i+1)->Heap.SameBut it s.heap h'->Q x {s with heap:=h'}):wpAny (model prog w) A (Builtin.SmallTypes.nextOf (.ref it)) Q E s:=by obtain⟨oi,Ow,ci,di⟩:=id hit;obtain⟨ot,hot,_,nt,dt⟩:=ht;unfold Builtin.SmallTypes.nextOf;refine Vh (WL (name:=Str.ofString "__next__") hit.typeIs XD (WZ XD hit.typeIs ZH ?_ (ZD _)));show wpAny _ _ (field (.ref it) 0 >>= _) _ _ s;refine Vh (Wm Ow di (x:=.ref t) rfl ?_);show wpAny _ _ (if(Value.ref t==Value.none)=true then _ else _) _ _ s;rw[VG (show ¬ ((Value.ref t==Value.none)=true)from VW)];show wpAny _ _ (field (.ref it) 1 >>= _) _ _ s;refine Vh (Wm Ow di (x:=.int i 0) rfl ?_);show wpAny _ _ (seqItems? (.ref t) >>= _) _ _ s;refine Vh (Xj hot dt ?_);simp only[WO,hx];refine Vh (Xz Ow di (by simp) (VE ⟨x,rfl,VE (hQ _ ?_ (Xi ..))⟩));exact⟨_,Xb _ Ow (Xt (WH di _)),(Obj.cls_mapFields ..).trans ci,by rw[WH di];simp[rawInt]⟩
theorem xY{it t:_o}{i:Nat}{Q:_c}(hh:A.handled=none)(hit:s.heap.IsTupleIter it t i)(ht:s.heap.IsTuple t items)(hx:items[i]?=none)(hE:∀h' e,Heap.ExtBut it s.heap h'->(∃o,h'.get? e=some o/\o.cls=.type "StopIteration")->E (.ref e) {s with heap:=h'}):wpAny (model prog w) A (Builtin.SmallTypes.nextOf (.ref it)) Q E s:=by
 obtain⟨oi,Ow,ci,di⟩:=id hit;obtain⟨ot,hot,_,nt,dt⟩:=ht;unfold Builtin.SmallTypes.nextOf;refine Vh (WL (name:=Str.ofString "__next__") hit.typeIs XD (WZ XD hit.typeIs ZH ?_ (ZD _)));show wpAny _ _ (field (.ref it) 0 >>= _) _ _ s;refine Vh (Wm Ow di (x:=.ref t) rfl ?_);show wpAny _ _ (if(Value.ref t==Value.none)=true then _ else _) _ _ s;rw[VG (show ¬ ((Value.ref t==Value.none)=true)from VW)];show wpAny _ _ (field (.ref it) 1 >>= _) _ _ s;refine Vh (Wm Ow di (x:=.int i 0) rfl ?_);show wpAny _ _ (seqItems? (.ref t) >>= _) _ _ s;refine Vh (Xj hot dt ?_);simp only[WO,hx];refine Vh (ZI (Vh (Xz Ow di (by simp) ?_)));show wpAny _ _ (newExc (.type "StopIteration") [] >>= _) _ _ _;refine Vh ?_;simp only[newExc,newTuple];refine Vh (Wt ?_ (by size_fits));refine Vh (m:=firstArgMember _ _) (wpAny_of_eq (a:=Value.none) (by first|rfl|(simp only[firstArgMember];rfl)) ?_);refine Wt ?_ (by size_fits);simp only[raiseNew];refine Vh (wpAny_handled ?_)
 first|rw[show A.in1.handled=none from hh]|rw[hh]
 refine Vh (VE (wpAny_throw ?_));exact hE _ _ (((Xi ..).extBut.push _).push _) ⟨_,VT _ rfl,rfl⟩
theorem m?{b:Bool}{it t:_o}{i:Nat}{x:_m}{Q:_c}(hit:fC b s.heap it t i)(ht:kW b s.heap t items)(hx:items[i]?=some x)(hQ:∀h',fC b h' it t (i+1)->Heap.SameBut it s.heap h'->Q x {s with heap:=h'}):wpAny (model prog w) A (Builtin.SmallTypes.nextOf (.ref it)) Q E s:=by
 cases b with
 |true=>exact wpAny_nextOf_list_item hit ht hx hQ
 |false=>exact v5 hit ht hx hQ
theorem t9{b:Bool}{it t:_o}{i:Nat}{Q:_c}(hh:A.handled=none)(hit:fC b s.heap it t i)(ht:kW b s.heap t items)(hx:items[i]?=none)(hE:∀h' e,Heap.ExtBut it s.heap h'->(∃o,h'.get? e=some o/\o.cls=.type "StopIteration")->E (.ref e) {s with heap:=h'}):wpAny (model prog w) A (Builtin.SmallTypes.nextOf (.ref it)) Q E s:=by
 cases b with
 |true=>exact wpAny_nextOf_list_end hh hit ht hx hE
 |false=>exact xY hh hit ht hx hE
end
abbrev v9(b:Bool)(l:_o):Obj:={cls:=.type (match b with|true => "list_iterator"|false => "tuple_iterator"),data:=.fields #[.ref l,.int 0 0]}
section
variable{w:World}{E:_c}
theorem fC.new(b:Bool){i l:_o}(e:h.get? i=some (v9 b l)):fC b h i l 0:=by
 cases b with
 |true=>exact⟨_,e,rfl,rfl⟩
 |false=>exact⟨_,e,rfl,rfl⟩
theorem v_{b:Bool}{l:_o}{Q:_c}(h:kW b s.heap l xs)(hQ:Q (.ref s.heap.objs.size) {s with heap:=s.heap.push (v9 b l)}):wpAny (model prog w) A (pyIter (.ref l)) Q E s:=by
 cases b with
 |true=>exact Y5 h hQ
 |false=>exact wpAny_pyIter_tuple h hQ
theorem Mt{z TI TO l1 l2:_o}{x y a b:_m}{Q:_c}(D:ZipApart z TI TO i1 i2 l1 l2)(hz:IsZip s.heap z TI TO .none)(Ad:IsPair s.heap TI (.ref i1) (.ref i2))(A9:IsPair s.heap TO a b)(h1:fC b1 s.heap i1 l1 k1)(h2:fC b2 s.heap i2 l2 k2)(t_:kW b1 s.heap l1 xs)(uD:kW b2 s.heap l2 ys)(hx:xs[k1]?=some x)(hy:ys[k2]?=some y)
  (hQ:∀ h',IsZip h' z TI TO (rawInt s.heap.objs.size)->IsPair h' TO x y->fC b1 h' i1 l1 (k1+1)->fC b2 h' i2 l2 (k2+1)->IsPair h' s.heap.objs.size x y ->
   (∀c o,c≠z->c≠TO->c≠i1->c≠i2->s.heap.get? c=some o->h'.get? c=some o)->Q (.ref s.heap.objs.size) {s with heap:=h'}):
  wpAny (model prog w) A (Builtin.«zip.__next__» ⟨[.ref z],[]⟩) (λfin s'=>∃v,fin=.done (.ret v)/\Q v s') E s:=by
 show wpAny _ _ (field (.ref z) 2 >>= _) _ _ _;refine Vh (Wm hz rfl (x:=.bool false) rfl ?_);show wpAny _ _ (field (.ref z) 3 >>= _) _ _ _;refine Vh (Wm hz rfl (x:=.ref TI) rfl (Vh (Xj Ad rfl ?_)));show wpAny _ _ (Builtin.SmallTypes.ownedTupleIsFree (.ref z) >>= _) _ _ _;refine Vh ?_;unfold Builtin.SmallTypes.ownedTupleIsFree;refine Vh (Wm hz rfl (x:=.none) rfl (VE ?_));simp only[Ze];refine Vh (ZI (Vh (Wm hz rfl (x:=.ref TO) rfl (Vh (Xo hz (by simp) λg₁ t! s₁=>?_)))));replace t!:IsZip g₁ z TI TO .ellipsis:=t!;refine Vh ?_;simp only[Zv,List.zipIdx_nil,List.forIn_cons,List.forIn_nil];refine Vh (Vh (YV ?_));show wpAny _ _ (Builtin.SmallTypes.nextOf (.ref i1) >>= _) _ _ _;refine Vh (m? (b:=b1) (h1.keep λo e=>s₁.extBut _ o D.i1z e) (t_.keep λo e=>s₁.extBut _ o D.l1z e) hx λg₂ q₁ s₂=>VE ?_);have t₂:IsPair g₂ TO a b:=s₂.extBut _ _ D.TOi1 (s₁.extBut _ _ D.TOz A9);refine Vh (Xj t₂ rfl (Vh (YH t₂ λg₃ t₃ s₃=>?_)));replace t₃:IsPair g₃ TO x b:=t₃;refine Vh (Zi (VE (Vh (Vh (YV ?_)))));show wpAny _ _ (Builtin.SmallTypes.nextOf (.ref i2) >>= _) _ _ _;refine Vh (m? (b:=b2) (h2.keep λo e=>s₃.extBut _ o D.TOi2.symm (s₂.extBut _ o D.i12.symm (s₁.extBut _ o D.i2z e))) (uD.keep λo e=>s₃.extBut _ o D.l2TO (s₂.extBut _ o D.l2i1 (s₁.extBut _ o D.l2z e))) hy λg₄ q₂ s₄=>VE ?_);have t₄:IsPair g₄ TO x b:=s₄.extBut _ _ D.TOi2 t₃;refine Vh (Xj t₄ rfl (Vh (YH t₄ λg₅ t₅ s₅=>?_)));replace t₅:IsPair g₅ TO x y:=t₅;refine Vh (Zi (VE (VE (Vh (Xj t₅ rfl (Vh (wpAny_newTuple ?_)))))));have sz:g₅.objs.size=s.heap.objs.size:=by rw[s₅.1,s₄.1,s₃.1,s₂.1,s₁.1]
 have z₅:IsZip g₅ z TI TO .ellipsis:=s₅.extBut _ _ D.TOz.symm (s₄.extBut _ _ D.i2z.symm (s₃.extBut _ _ D.TOz.symm (s₂.extBut _ _ D.i1z.symm t!)));have kp:∀c o,c≠z->c≠TO->c≠i1->c≠i2->s.heap.get? c=some o->g₅.get? c=some o:=λc o n1 n2 n3 n4 e=>s₅.extBut _ _ n2 (s₄.extBut _ _ n4 (s₃.extBut _ _ n2 (s₂.extBut _ _ n3 (s₁.extBut _ _ n1 e))));have p₁:fC b1 g₅ i1 l1 (k1+1):=q₁.keep λo e=>s₅.extBut _ o D.TOi1.symm (s₄.extBut _ o D.i12 (s₃.extBut _ o D.TOi1.symm e));have p₂:fC b2 g₅ i2 l2 (k2+1):=q₂.keep λo e=>s₅.extBut _ o D.TOi2.symm e;have zlt:z<g₅.objs.size:=VI z₅;show wpAny _ _ (Builtin.SmallTypes.ownedTupleHandOut (.ref z) (.ref g₅.objs.size) >>= _) _ _ _;refine Vh ?_;unfold Builtin.SmallTypes.ownedTupleHandOut;have z₆:IsZip (g₅.push {cls:=.type "tuple",data:=.seq #[x,y]}) z TI TO .ellipsis:=Vl _ z₅;refine Vh (Xo z₆ (by simp) λg₇ z₇ s₇=>?_);replace z₇:IsZip g₇ z TI TO (rawInt g₅.objs.size):=z₇;refine Xo z₇ (by simp) λg₈ z₈ s₈=>?_;replace z₈:IsZip g₈ z TI TO (rawInt g₅.objs.size):=z₈;have up:∀c o,c≠z->g₅.get? c=some o->g₈.get? c=some o:=λc o n e=>s₈.extBut _ _ n (s₇.extBut _ _ n (Vl _ e));have t₈:IsPair g₈ g₅.objs.size x y:=s₈.extBut _ _ (W' zlt) (s₇.extBut _ _ (W' zlt) (VT _ rfl));rw[sz]at z₈ t₈;refine VE ⟨_,rfl,?_⟩;show Q (.ref g₅.objs.size) _;rw[sz];exact hQ g₈ z₈ (up _ _ D.TOz t₅) (p₁.keep λo e=>up _ o D.i1z e) (p₂.keep λo e=>up _ o D.i2z e) t₈ λc o n1 n2 n3 n4 e=>up c o n1 (kp c o n1 n2 n3 n4 e)
theorem Qt{z TI TO l1 l2:_o}{a b:_m}{Q:Fin->_n->Prop}(hh:A.handled=none)(D:ZipApart z TI TO i1 i2 l1 l2)(hz:IsZip s.heap z TI TO .none)(Ad:IsPair s.heap TI (.ref i1) (.ref i2))(A9:IsPair s.heap TO a b)(h1:fC b1 s.heap i1 l1 k1)(h2:fC b2 s.heap i2 l2 k2)(t_:kW b1 s.heap l1 xs)(uD:kW b2 s.heap l2 ys)(he:xs[k1]?=none\/ys[k2]?=none)(hE:∀h' e,(∀c o,c≠z->c≠TO->c≠i1->c≠i2->s.heap.get? c=some o->h'.get? c=some o)->(∃o,h'.get? e=some o/\o.cls=.type "StopIteration")->E (.ref e) {s with heap:=h'}):
  wpAny (model prog w) A (Builtin.«zip.__next__» ⟨[.ref z],[]⟩) Q E s:=by
 show wpAny _ _ (field (.ref z) 2 >>= _) _ _ _;refine Vh (Wm hz rfl (x:=.bool false) rfl ?_);show wpAny _ _ (field (.ref z) 3 >>= _) _ _ _;refine Vh (Wm hz rfl (x:=.ref TI) rfl (Vh (Xj Ad rfl ?_)));show wpAny _ _ (Builtin.SmallTypes.ownedTupleIsFree (.ref z) >>= _) _ _ _;refine Vh ?_;unfold Builtin.SmallTypes.ownedTupleIsFree;refine Vh (Wm hz rfl (x:=.none) rfl (VE ?_));simp only[Ze];refine Vh (ZI (Vh (Wm hz rfl (x:=.ref TO) rfl (Vh (Xo hz (by simp) λg₁ t! s₁=>?_)))));replace t!:IsZip g₁ z TI TO .ellipsis:=t!;refine Vh ?_;simp only[Zv,List.zipIdx_nil,List.forIn_cons,List.forIn_nil];refine Vh (Vh (YV ?_));show wpAny _ _ (Builtin.SmallTypes.nextOf (.ref i1) >>= _) _ _ _;cases hx:xs[k1]? with
 |none=>
  refine Vh (t9 (b:=b1) hh (h1.keep λo e=>s₁.extBut _ o D.i1z e) (t_.keep λo e=>s₁.extBut _ o D.l1z e) hx λg₂ e s₂⟨oe,Qu,ce⟩=>?_);have z₂:IsZip g₂ z TI TO .ellipsis:=s₂ _ _ D.i1z.symm t!;have nez:e≠z:=λq=>by subst q;rw[z₂]at Qu;cases Qu;simp at ce
  exact Xo z₂ (by simp) λg₃ _ s₃=>hE g₃ e (λc o n1 _ n3 _ q=>s₃.extBut _ _ n1 (s₂ _ _ n3 (s₁.extBut _ _ n1 q))) ⟨oe,s₃.extBut _ _ nez Qu,ce⟩
 |some x=>
  have hy:ys[k2]?=none:=by
   rcases he with q|q
   .rw[hx]at q;cases q
   .exact q
  refine Vh (m? (b:=b1) (h1.keep λo e=>s₁.extBut _ o D.i1z e) (t_.keep λo e=>s₁.extBut _ o D.l1z e) hx λg₂ q₁ s₂=>VE ?_);have t₂:IsPair g₂ TO a b:=s₂.extBut _ _ D.TOi1 (s₁.extBut _ _ D.TOz A9);refine Vh (Xj t₂ rfl (Vh (YH t₂ λg₃ t₃ s₃=>?_)));refine Vh (Zi (VE (Vh (Vh (YV ?_)))));show wpAny _ _ (Builtin.SmallTypes.nextOf (.ref i2) >>= _) _ _ _;refine Vh (t9 (b:=b2) hh (h2.keep λo e=>s₃.extBut _ o D.TOi2.symm (s₂.extBut _ o D.i12.symm (s₁.extBut _ o D.i2z e))) (uD.keep λo e=>s₃.extBut _ o D.l2TO (s₂.extBut _ o D.l2i1 (s₁.extBut _ o D.l2z e))) hy λg₄ e s₄⟨oe,Qu,ce⟩=>?_);have z₄:IsZip g₄ z TI TO .ellipsis:=s₄ _ _ D.i2z.symm (s₃.extBut _ _ D.TOz.symm (s₂.extBut _ _ D.i1z.symm t!));have nez:e≠z:=λq=>by subst q;rw[z₄]at Qu;cases Qu;simp at ce
  exact Xo z₄ (by simp) λg₅ _ s₅=>hE g₅ e (λc o n1 n2 n3 n4 q=>s₅.extBut _ _ n1 (s₄ _ _ n4 (s₃.extBut _ _ n2 (s₂.extBut _ _ n3 (s₁.extBut _ _ n1 q))))) ⟨oe,s₅.extBut _ _ nez Qu,ce⟩
theorem Gv{z TI TO l1 l2:_o}{x y a b:_m}{Q:_j->_n->Prop}(D:ZipApart z TI TO i1 i2 l1 l2)(hz:IsZip s.heap z TI TO .none)(Ad:IsPair s.heap TI (.ref i1) (.ref i2))(A9:IsPair s.heap TO a b)(h1:fC b1 s.heap i1 l1 k1)(h2:fC b2 s.heap i2 l2 k2)(t_:kW b1 s.heap l1 xs)(uD:kW b2 s.heap l2 ys)(hx:xs[k1]?=some x)(hy:ys[k2]?=some y)
  (hQ:∀ h',IsZip h' z TI TO (rawInt s.heap.objs.size)->IsPair h' TO x y->fC b1 h' i1 l1 (k1+1)->fC b2 h' i2 l2 (k2+1)->IsPair h' s.heap.objs.size x y ->
   (∀c o,c≠z->c≠TO->c≠i1->c≠i2->s.heap.get? c=some o->h'.get? c=some o)->Q (some (.ref s.heap.objs.size)) {s with heap:=h'}):wpAny (model prog w) A (pyNext (.ref z)) Q E s:=by
 have tz:s.TypeIs (.ref z) "zip":=⟨_,hz,rfl⟩
 unfold pyNext;exact Vh (Yh (WL (name:=Str.ofString "__next__") tz YB
  (WZ YB tz F.entry_zip_next (Mt (b1:=b1) (b2:=b2) D hz Ad A9 h1 h2 t_ uD hx hy λh' a1 a2 a3 a4 a5 a6=>VE (hQ h' a1 a2 a3 a4 a5 a6)) (F.args_zip_next_1 _))))
theorem ID{z TI TO l1 l2:_o}{a b:_m}{Q:_j->_n->Prop}(hh:A.handled=none)(D:ZipApart z TI TO i1 i2 l1 l2)(hz:IsZip s.heap z TI TO .none)(Ad:IsPair s.heap TI (.ref i1) (.ref i2))(A9:IsPair s.heap TO a b)(h1:fC b1 s.heap i1 l1 k1)(h2:fC b2 s.heap i2 l2 k2)(t_:kW b1 s.heap l1 xs)(uD:kW b2 s.heap l2 ys)(he:xs[k1]?=none\/ys[k2]?=none)(hQ:∀h',(∀c o,c≠z->c≠TO->c≠i1->c≠i2->s.heap.get? c=some o->h'.get? c=some o)->Q none {s with heap:=h'}):wpAny (model prog w) A (pyNext (.ref z)) Q E s:=by
 have tz:s.TypeIs (.ref z) "zip":=⟨_,hz,rfl⟩
 unfold pyNext;refine Vh (Yh (WL (name:=Str.ofString "__next__") tz YB
  (WZ YB tz F.entry_zip_next (Qt (b1:=b1) (b2:=b2) hh D hz Ad A9 h1 h2 t_ uD he λh' e hk he=>?_) (F.args_zip_next_1 _))))
 obtain⟨o,ho,hc⟩:=he;exact Vh (Zb (T:="StopIteration") (b:=true) ⟨o,ho,hc⟩ isSubtype_stop (VE (hQ _ hk)))
abbrev zH1(b1:Bool)(h:Heap)(l1:_o):Heap:=h.push (v9 b1 l1)
abbrev zH2(b1 b2:Bool)(h:Heap)(l1 l2:_o):Heap:=(zH1 b1 h l1).push (v9 b2 l2)
abbrev zH3(b1 b2:Bool)(h:Heap)(l1 l2:_o):Heap:=(zH2 b1 b2 h l1 l2).push {cls:=.type "tuple",data:=.seq #[.ref h.objs.size,.ref (zH1 b1 h l1).objs.size]}
abbrev zH4(b1 b2:Bool)(h:Heap)(l1 l2:_o):Heap:=(zH3 b1 b2 h l1 l2).push {cls:=.type "tuple",data:=.seq #[.none,.none]}
abbrev S5(b1 b2:Bool)(h:Heap)(l1 l2:_o):Heap:=(zH4 b1 b2 h l1 l2).push {cls:=.type "zip",data:=.fields #[.none,.bool false,.bool false,.ref (zH2 b1 b2 h l1 l2).objs.size,.ref (zH3 b1 b2 h l1 l2).objs.size]}
theorem IE(b1 b2:Bool)(l1 l2:_o)(xs ys:Array _m):
  Meets (Builtin.«zip.__new__» ⟨[.type "zip",.ref l1,.ref l2],[]⟩) (λ_ R s=>kW b1 s.heap l1 xs/\kW b2 s.heap l2 ys/\R (.ok (.ret (.ref (zH4 b1 b2 s.heap l1 l2).objs.size))) {s with heap:=S5 b1 b2 s.heap l1 l2}):=
 .of_wp λprog w A R s h=>by
  obtain⟨hp,g,d,tk,os⟩:=s;obtain⟨q1,q2,h⟩:=h;have acy:=sub_zip;have w1:kW b1 (Shared.heap ⟨hp,g,d,tk,os⟩) l1 xs:=q1;have w2:kW b2 (Shared.heap ⟨hp.push (v9 b1 l1),g,d,tk,os⟩) l2 ys:=q2.keep λo e=>Vl _ e
  wp_walk using v_ w1,v_ w2
  exact⟨_,rfl,h⟩
theorem IF{l1 l2:_o}{Q:_c}(t_:kW b1 s.heap l1 xs)(uD:kW b2 s.heap l2 ys)
  (h:∀ h',IsZip h' (s.heap.objs.size+4) (s.heap.objs.size+2) (s.heap.objs.size+3) .none->IsPair h' (s.heap.objs.size+2) (.ref s.heap.objs.size) (.ref (s.heap.objs.size+1))->IsPair h' (s.heap.objs.size+3) .none .none ->
   fC b1 h' s.heap.objs.size l1 0->fC b2 h' (s.heap.objs.size+1) l2 0->(∀c o,s.heap.get? c=some o->h'.get? c=some o)->Q (.ref (s.heap.objs.size+4)) {s with heap:=h'}):
  wpAny (model prog w) A (call (.type "zip") [.ref l1,.ref l2]) Q E s:=by
 refine callType_new F.called_zip ⋯ (F.typeCall_zip_2 _ _) (F.newCall_zip_2 _ _) (λobj=>F.args_object_init_3 obj _ _) F.entry_zip_new (IE b1 b2 l1 l2 xs ys) ⟨t_,uD,?_⟩;have z1:(zH1 b1 s.heap l1).objs.size=s.heap.objs.size+1:=Ya ..;have z2:(zH2 b1 b2 s.heap l1 l2).objs.size=s.heap.objs.size+2:=by rw[Ya,z1]
 have z3:(zH3 b1 b2 s.heap l1 l2).objs.size=s.heap.objs.size+3:=by rw[Ya,z2]
 have z4:(zH4 b1 b2 s.heap l1 l2).objs.size=s.heap.objs.size+4:=by rw[Ya,z3]
 have g5:(S5 b1 b2 s.heap l1 l2).get? (zH4 b1 b2 s.heap l1 l2).objs.size=some _:=VT _ rfl;have g4:(S5 b1 b2 s.heap l1 l2).get? (zH3 b1 b2 s.heap l1 l2).objs.size=some _:=Vl _ (VT _ rfl);have g3:(S5 b1 b2 s.heap l1 l2).get? (zH2 b1 b2 s.heap l1 l2).objs.size=some _:=Vl _ (Vl _ (VT _ rfl));have g2:(S5 b1 b2 s.heap l1 l2).get? (zH1 b1 s.heap l1).objs.size=some (v9 b2 l2):=Vl _ (Vl _ (Vl _ (VT _ rfl)));have g1:(S5 b1 b2 s.heap l1 l2).get? s.heap.objs.size=some (v9 b1 l1):=Vl _ (Vl _ (Vl _ (Vl _ (VT _ rfl))));show _/\_;rw[z2,z3,z4]at g5;rw[z1,z2]at g3;rw[z3]at g4;rw[z1]at g2;rw[z4];exact⟨⟨_,g5,rfl⟩,h _ g5 g3 g4 (.new b1 g1) (.new b2 g2) λc o x=>Vl _ (Vl _ (Vl _ (Vl _ (Vl _ x))))⟩
end
def C7(b:Bool)(K:_g)(H:Hp)(a:_o)(xs:List V):Prop:=match b with|true=>pk K H a xs|false=>pZ K H a xs
theorem a9.S6{b:Bool}{a:_o}{xs:List V}(I:a9 X ae σ H s)(h:C7 b X.K H a xs):∃aN:_i,bx xs aN/\kW b s.heap a aN.toArray/\xs.length<=sizeLine:=by
 cases b with
 |true=>obtain⟨aN,r,p,z⟩:=I.list h;exact⟨aN,r,p.isList,z⟩
 |false=>obtain⟨aN,r,p,z⟩:=I.tuple h;exact⟨aN,r,p,z⟩
theorem a9.EE{b:Bool}{a:_o}{xs ys:List V}(I:a9 X ae σ H s)(h:C7 b X.K H a xs)(h':C7 b X.K H a ys):xs=ys:=by
 cases b with
 |true=>exact I.qH h h'
 |false=>exact I.sD h h'
theorem a9.Ox{b:Bool}{l c:_o}{zs:List V}(I:a9 X ae σ H s)(hs:C7 b X.K H l zs)(f:m8 X ae H c):l≠c:=by
 intro q;have mo:∀o,X.K.lookup l=some o->False:=λo hk=>by
  have e:=I.mod.Tv l o hk;rcases f.2.2.2.1 with z|z
  .exact I.ok.LF l o e (by rw[q];exact z)
  .exact absurd (VR (VI (I.ok.bs l o e).1) (by rw[q];exact z)) (Wk _)
 have tr:∀o,H l=some o->False:=λo e=>by rw[q,f.1]at e;cases e
 cases b with
 |true=>
  rcases(show pk X.K H l zs from hs) with(r|⟨o,r⟩)|⟨o,aN,n,hk,_⟩
  .exact tr _ r
  .exact tr _ r
  .exact mo o hk
 |false=>
  rcases(show pZ X.K H l zs from hs) with(r|⟨o,r⟩)|⟨o,aN,n,hk,_⟩
  .exact tr _ r
  .exact tr _ r
  .exact mo o hk
def Itz(K:_g)(b1 b2:Bool)(a b:_o):It:=
 ⟨λi H=>∃xs ys x y,C7 b1 K H a xs/\C7 b2 K H b ys/\xs[i]?=some x/\ys[i]?=some y,
  λi H v H'=>∃p x y,v=.ref p/\H p=none/\H'=upd H p (.tup [x,y])/\(∀xs,C7 b1 K H a xs->xs[i]?=some x)/\∀ys,C7 b2 K H b ys->ys[i]?=some y,
  λi H=>∃xs ys,C7 b1 K H a xs/\C7 b2 K H b ys/\(xs.length<=i\/ys.length<=i)⟩
theorem IG{w:World}{K:_g}{z TI TO:_o}(a b:_o)(ne:z≠TI/\z≠TO/\z≠i1/\z≠i2/\TI≠TO/\TI≠i1/\TI≠i2/\TO≠i1/\TO≠i2/\i1≠i2):
  Turn P w K (.Tuple elts kt tp) (Itz K b1 b2 a b) [z,TI,TO,i1,i2] z (λi h=>IsZip h z TI TO .none/\IsPair h TI (.ref i1) (.ref i2)/\(∃u v,IsPair h TO u v)/\fC b1 h i1 a i/\fC b2 h i2 b i) where
 mem:=by simp
 obj:=λi h⟨hz,Ad,⟨u,v,A9⟩,h1,h2⟩c hc=>by
  have fi:c=z\/c=TI\/c=TO\/c=i1\/c=i2:=by simpa using hc
  rcases fi with rfl|rfl|rfl|rfl|rfl
  .exact⟨_,hz,λv q=>by have q':Data.fields _=Data.cell v:=q;cases q'⟩
  .exact⟨_,Ad,λv q=>by have q':Data.seq _ _=Data.cell v:=q;cases q'⟩
  .exact⟨_,A9,λv q=>by have q':Data.seq _ _=Data.cell v:=q;cases q'⟩
  .obtain⟨o,n,vs,e,_,d⟩:=h1.there;exact⟨o,e,λv q=>by rw[d]at q;cases q⟩
  .obtain⟨o,n,vs,e,_,d⟩:=h2.there;exact⟨o,e,λv q=>by rw[d]at q;cases q⟩
 keep:=λi h h'⟨hz,Ad,⟨u,v,A9⟩,h1,h2⟩k=>⟨k z (by simp) _ hz,k TI (by simp) _ Ad,⟨u,v,k TO (by simp) _ A9⟩,h1.keep λo e=>k i1 (by simp) o e,h2.keep λo e=>k i2 (by simp) o e⟩
 item:=by
  intro X hP hw hK hc i ae s σ H E I hf st hg;subst hP hw hK;obtain⟨hz,Ad,⟨u,v,A9⟩,h1,h2⟩:=st;obtain⟨xs,ys,x,y,sx,sy,ex,ey⟩:=hg;obtain⟨aN,rv,p,_⟩:=I.S6 sx;obtain⟨fH,S7,p2,_⟩:=I.S6 sy;obtain⟨ux,eux,rx⟩:=rv.get ex;obtain⟨uy,euy,ry⟩:=S7.get ey;obtain⟨n1,n2,n3,n4,n5,n6,n7,n8,n9,n10⟩:=ne;have fz:=hf z (by simp);have jn:∀{b:Bool}{l:_o}{zs:List V},C7 b X.K H l zs->∀c∈[z,TI,TO,i1,i2],l≠c:=λ{b l zs}hs c fi=>I.Ox hs (hf c fi);have D:ZipApart z TI TO i1 i2 a b:=⟨n1.symm,n2.symm,n3.symm,n4.symm,n5,n6,n7,n8,n9,n10,jn sx z (by simp),jn sx TO (by simp),jn sx i1 (by simp),jn sx i2 (by simp),jn sy z (by simp),jn sy TO (by simp),jn sy i1 (by simp),jn sy i2 (by simp)⟩
  refine Gv (b1:=b1) (b2:=b2) D hz Ad A9 h1 h2 p p2 (x:=ux) (y:=uy) (by simpa using eux) (by simpa using euy) λh' a1 a2 a3 a4 a5 a6=>⟨_,rfl,?_⟩
  have hT:H s.heap.objs.size=none:=I.dJ.fresh (Vt _);have UG:∀c∈[z,TO,i1,i2],H c=none:=λc fi=>(hf c (by simp at fi⊢;rcases fi with q|q|q|q<;>simp[q])).1;have kp:∀c o,c ∉ [z,TO,i1,i2]->s.heap.get? c=some o->h'.get? c=some o:=λc o fi e=>a6 c o (λq=>fi (by simp[q])) (λq=>fi (by simp[q])) (λq=>fi (by simp[q])) (λq=>fi (by simp[q])) e;have Bf:∀c o,H c=some o->c ∉ [z,TO,i1,i2]:=λc o e fi=>by rw[UG c fi]at e;cases e
  have dJ:m6 X.prog X.w (upd H s.heap.objs.size (.tup [x,y])) h':=λc o e=>by
   by_cases UH:c=s.heap.objs.size
   .subst UH;rw[cC]at e;cases e;exact⟨by show 2<=sizeLine;decide,[ux,uy],.cons rx (.cons ry .nil),_,a5,rfl,_,rfl⟩
   .rw[aS UH]at e;refine(I.dJ c o e).uB (λd v hd q=>kp d v ?_ q) (λd q=>by rw[aS (bA q hT)];exact q) λd zs q=>by rw[aS (bA q hT)];exact q
    rcases hd with q'|q'
    .rw[q'];exact Bf c o e
    .exact Bf d _ q'
  have un:Un (kR X.stack) [z,TO,i1,i2] H (upd H s.heap.objs.size (.tup [x,y])) s.heap h':=
   ⟨λc o e n _ fi=>kp c o fi e,λc o e n _ fi=>⟨o.slots,kp c o fi e⟩,λc o e n fi=>by rw[aS (V7 (VI e))];exact n,λc o e fi=>⟨o,kp c o fi e⟩,
    λc zs e=>by rw[aS (bA e hT)];exact e,λc o u e=>by rw[aS (bA e hT)];exact e,λc ps e=>⟨#[],by rw[aS (bA e hT),e];simp⟩⟩
  have I1:a9 X ae σ (upd H s.heap.objs.size (.tup [x,y])) {s with heap:=h'}:=I.Er rfl un dJ I.bare λc fi=>by obtain⟨f0,f1,f2,f3,f4,f5⟩:=hf c (by simp at fi⊢;rcases fi with q|q|q|q<;>simp[q]);exact⟨f3,f1,f4,f5⟩
  have fpT:∀c∈[z,TI,TO,i1,i2],c≠s.heap.objs.size:=λc fi q=>by
   have uI:c<s.heap.objs.size:=by
    have Qv:c=z\/c=TI\/c=TO\/c=i1\/c=i2:=by simpa using fi
    rcases Qv with r|r|r|r|r
    .rw[r];exact VI hz
    .rw[r];exact VI Ad
    .rw[r];exact VI A9
    .obtain⟨o,_,_,e,_⟩:=h1.there;rw[r];exact VI e
    .obtain⟨o,_,_,e,_⟩:=h2.there;rw[r];exact VI e
   exact absurd uI (by rw[q];exact Wk _)
  have UI:∀c∈[z,TI,TO,i1,i2],(upd H s.heap.objs.size (.tup [x,y])) c=none:=λc fi=>by rw[aS (fpT c fi)];exact(hf c fi).1
  refine wpAny_letOwnedTupleGo_zip a1 λMu abB sb=>?_;obtain⟨f0,f1,f2,f3,f4,f5⟩:=fz;have I2:a9 X ae σ (upd H s.heap.objs.size (.tup [x,y])) {s with heap:=Mu}:=I1.turned (s:={s with heap:=h'}) (t':=s.toks) (it:=z) (λc o fi e=>(sb.2 c fi).trans e) (UI z (by simp)) f1 f3 f4 f5;refine⟨.ref s.heap.objs.size,_,I2,rfl,⟨_,x,y,rfl,hT,rfl,λzs hs=>by rw[I.EE hs sx];exact ex,λzs hs=>by rw[I.EE hs sy];exact ey⟩,⟨abB,?_,⟨_,_,sb.extBut _ _ n2.symm a2⟩,a3.keep λo e=>sb.extBut _ o n3.symm e,a4.keep λo e=>sb.extBut _ o n4.symm e⟩,UI⟩;exact sb.extBut _ _ n1.symm (a6 _ _ n1.symm n5 n6 n7 Ad)
 done:=by
  intro X hP hw hK hc i ae s σ H E I hf st hg;subst hP hw hK;obtain⟨hz,Ad,⟨u,v,A9⟩,h1,h2⟩:=st;obtain⟨xs,ys,sx,sy,hl⟩:=hg;obtain⟨aN,rv,p,_⟩:=I.S6 sx;obtain⟨fH,S7,p2,_⟩:=I.S6 sy;have l1:=rv.length;have l2:=S7.length;obtain⟨n1,n2,n3,n4,n5,n6,n7,n8,n9,n10⟩:=ne;have jn:∀{b:Bool}{l:_o}{zs:List V},C7 b X.K H l zs->∀c∈[z,TI,TO,i1,i2],l≠c:=λ{b l zs}hs c fi=>I.Ox hs (hf c fi);have D:ZipApart z TI TO i1 i2 a b:=⟨n1.symm,n2.symm,n3.symm,n4.symm,n5,n6,n7,n8,n9,n10,jn sx z (by simp),jn sx TO (by simp),jn sx i1 (by simp),jn sx i2 (by simp),jn sy z (by simp),jn sy TO (by simp),jn sy i1 (by simp),jn sy i2 (by simp)⟩
  refine ID (b1:=b1) (b2:=b2) (I.ok.hd hc) D hz Ad A9 h1 h2 p p2 (by rcases hl with q|q;exact .inl (by simp;lia);exact .inr (by simp;lia)) λh' a6=>⟨rfl,?_⟩
  have UG:∀c∈[z,TO,i1,i2],H c=none:=λc fi=>(hf c (by simp at fi⊢;rcases fi with q|q|q|q<;>simp[q])).1;have kp:∀c o,c ∉ [z,TO,i1,i2]->s.heap.get? c=some o->h'.get? c=some o:=λc o fi e=>a6 c o (λq=>fi (by simp[q])) (λq=>fi (by simp[q])) (λq=>fi (by simp[q])) (λq=>fi (by simp[q])) e;have Bf:∀c o,H c=some o->c ∉ [z,TO,i1,i2]:=λc o e fi=>by rw[UG c fi]at e;cases e
  have dJ:m6 X.prog X.w H h':=λc o e=>by
   refine(I.dJ c o e).uB (λd v hd q=>kp d v ?_ q) (λd q=>q) λd zs q=>q;rcases hd with q'|q'
   .rw[q'];exact Bf c o e
   .exact Bf d _ q'
  have un:Un (kR X.stack) [z,TO,i1,i2] H H s.heap h':=
   ⟨λc o e n _ fi=>kp c o fi e,λc o e n _ fi=>⟨o.slots,kp c o fi e⟩,λc o e n fi=>n,λc o e fi=>⟨o,kp c o fi e⟩,λc zs e=>e,λc o u e=>e,λc ps e=>⟨#[],by rw[e];simp⟩⟩
  exact I.Er rfl un dJ I.bare λc fi=>by obtain⟨f0,f1,f2,f3,f4,f5⟩:=hf c (by simp at fi⊢;rcases fi with q|q|q|q<;>simp[q]);exact⟨f3,f1,f4,f5⟩
 self:=λ_ _ _ _ _ st h=>wpAny_pyIter_zip st.1 h
section
variable{p pos:Pos}
def abC(K:_g)(b1 b2:Bool)(ta:TA):TI:=λσ H R=>ta σ H λvs H1=>∃a b,vs=[.ref a,.ref b]/\(∃xs,C7 b1 K H1 a xs)/\(∃ys,C7 b2 K H1 b ys)/\R (Itz K b1 b2 a b) H1
theorem Qw(b1 b2:Bool){ea eb:Expr}{ta:TA}(hg:Gl X "zip")(hm:X.mg "zip" = none)(ha:PA X [ea,eb] ta)(hs:starEach [ea,eb] X.env=[(false,eval ea X.env),(false,eval eb X.env)]:=by rfl)(su:starEach [eb] X.env=[(false,eval eb X.env)]:=by rfl):
  PI X (.Tuple elts kt tp) (.Call (.Name "zip" p) [ea,eb] [] pos) (abC X.K b1 b2 ta):=by
 intro ae s σ H R I h;refine Call_ (m7 I hg hm boot_zip (WG (fv (ha pos ae s σ H _ I h) λus s1⟨vs,H1,I1,r1,q1⟩=>?_) (by rw[hs,su]) (by rw[su];rfl)));obtain⟨a,b,e,⟨xs,sx⟩,⟨ys,sy⟩,q⟩:=q1;subst e;obtain⟨u,u2,rfl,ru,ru2⟩:=vals2 r1;cases ru;cases ru2;obtain⟨aN,rv,p1,_⟩:=I1.S6 sx;obtain⟨fH,S7,p2,_⟩:=I1.S6 sy;refine IF (b1:=b1) (b2:=b2) p1 p2 λh' hz Ad A9 g1 g2 kp=>wpAny_pyIter_zip hz ?_;have I2:a9 X ae σ H1 {s1 with heap:=h'}:=I1.kept (t':=s1.toks) kp;refine⟨_,[s1.heap.objs.size+4,s1.heap.objs.size+2,s1.heap.objs.size+3,s1.heap.objs.size,s1.heap.objs.size+1],_,_,H1,rfl,I2,IG (b1:=b1) (b2:=b2) a b ?_,⟨hz,Ad,⟨_,_,A9⟩,g1,g2⟩,λc hc=>?_,q⟩
 .refine⟨?_,?_,?_,?_,?_,?_,?_,?_,?_,?_⟩<;>(intro z;have z':(_:Nat)=_:=z;lia)
 .have hle:s1.heap.objs.size<=c:=by
   have fi:c=s1.heap.objs.size+4\/c=s1.heap.objs.size+2\/c=s1.heap.objs.size+3\/c=s1.heap.objs.size\/c=s1.heap.objs.size+1:=by simpa using hc
   rcases fi with r|r|r|r|r<;>(rw[r];first|exact Vt _|exact YR _ _)
  exact I1.Bi hle (I1.dJ.fresh hle)
end
theorem dR.there{w:World}{a:_o}{o:HO}(x:dR P w H h a o):∃ob,h.get? a=some ob:=by
 cases o with
 |lst xs=>obtain⟨_,_,_,_,e⟩:=x;exact⟨_,e⟩
 |tup xs=>obtain⟨_,_,_,ob,e,_⟩:=x;exact⟨_,e⟩
 |dK aW=>obtain⟨_,_,_,_,o,_,_,e,_⟩:=x;exact⟨_,e⟩
 |dT aW=>obtain⟨_,_,_,_,o,_,_,e,_⟩:=x;exact⟨_,e⟩
 |set S n=>obtain⟨o,_,_,_,e,_⟩:=x;exact⟨_,e⟩
 |ins C dx fs=>obtain⟨_,_,_,e,_⟩:=x;exact⟨_,e⟩
 |own y=>obtain⟨_,e⟩:=x;exact⟨_,e⟩
 |xd fs=>obtain⟨_,⟨_,_,_,e,_⟩,_⟩:=x;exact⟨_,e⟩
 |HQ lo hi=>obtain⟨_,_,_,e⟩:=x;exact⟨_,e⟩
 |lX ob u=>obtain⟨e,_⟩:=x;exact⟨_,e⟩
 |xR ps=>exact⟨_,(show h.get? a=some _ from x)⟩
 |met f y=>exact⟨_,(show h.get? a=some _ from x)⟩
 |ext φ=>obtain⟨_,e,_⟩:=x;exact e
structure Fly(P:_q)(w:World)(l:List Env)(H H':Hp)(s s':_n)(ea:_o)(cls:_m):Prop where
 os:s'.os=s.os
 bare:AllBare s'.gens
 un:Un (kR l) [] H H' s.heap s'.heap
 dJ:m6 P w H' s'.heap
 fl:∃(B:Heap)(t:_o),Heap.FlyingW B l ea cls (.ref t) s'.heap/\(∀b,H' b≠none->∃o,B.get? b=some o)/\(∀b o,s.heap.get? b=some o->b ∉ kR l->∃o',B.get? b=some o')
 tr:Gn s'.heap ea
def qP(P:_q)(w:World):H!:=λouter H s E e s'=>∃ea cls H',e=.ref ea/\Fly P w outer H H' s s' ea cls/\E cls none H'
section
variable{w:World}{K:_g}{mg:_d}{qual:Str}{scope:Scope}{f:_o}{cd:_m}{outer:List Env}
theorem Bx{env:Env}{L:_o}(hf:env.frame=some L)(l:List Env):kR (env::l)=L::kR l:=by unfold kR;rw[Yg,hf]
theorem Gw{e:_o}(I:a9 (jS (qP P w) P w K mg base N qual scope f cd A outer s₀ H₀ E) ae σ H s)(hx:Heap.MadeExcOf s.heap h' e cls vs)(hE:E cls none H):(jS (qP P w) P w K mg base N qual scope f cd A outer s₀ H₀ E).xe (.ref e) {s with heap:=h'}:=by
 have yx:=I.stack;have Ep:=I.zO;have Gp:(A.deeper (envOfC qual scope s₀.heap.objs.size f cd)).frames=some (envOfC qual scope s₀.heap.objs.size f cd::outer):=I.ok.frames;have Gx:kR (envOfC qual scope s₀.heap.objs.size f cd::outer)=s₀.heap.objs.size::kR outer:=Bx rfl outer;have HG:∀env∈(envOfC qual scope s₀.heap.objs.size f cd::outer),∀b,env.frame=some b->b∈kR (envOfC qual scope s₀.heap.objs.size f cd::outer):=λenv he b hb=>Zw.mpr ⟨env,he,hb⟩;have Qx:∀b o,s₀.heap.get? b=some o->b ∉ kR outer->b ∉ kR (envOfC qual scope s₀.heap.objs.size f cd::outer):=λb o q hb hm=>by
  rw[Gx]at hm;rcases VX.mp hm with z|z
  .exact absurd (VI q) (by rw[z];exact Wk _)
  .exact hb z
 refine Aa (base:=W.hideAll s.heap (kR (envOfC qual scope s₀.heap.objs.size f cd::outer))) (h:=s.heap) Gp rfl (λb o q=>ZR _ q) (W.funFrames_hide yx HG) hx λMu t fl up tr=>?_;have stays:∀b o,s.heap.get? b=some o->b ∉ kR (envOfC qual scope s₀.heap.objs.size f cd::outer)->Mu.get? b=some o:=λb o q hb=>fl.1 b o (X2 _ q hb);have Bf:∀b u,H b=some u->b ∉ kR (envOfC qual scope s₀.heap.objs.size f cd::outer):=λb u q hb=>by rw[Ep b hb]at q;cases q
 have slot:∀b o,s₀.heap.get? b=some o->H₀ b=none->b∈kR outer->∃sl,Mu.get? b=some {o with slots:=sl}:=λb o q n hb=>by obtain⟨sl,e1⟩:=I.base.slot b o q n hb (by intro z;cases z);obtain⟨_,o',xT,Ql⟩:=yx.mem (show b∈kR (envOfC qual scope s₀.heap.objs.size f cd::outer) by rw[Gx];exact Vx _ hb);rw[e1]at xT;cases xT;obtain⟨Pd,e2⟩:=up b _ (hx.keeps _ _ e1) Ql;exact⟨Pd,e2⟩
 have nil:∀b:_o,b ∉ (jS (qP P w) P w K mg base N qual scope f cd A outer s₀ H₀ E).ex:=λb z=>by cases z
 refine⟨e,cls,H,rfl,⟨I.os,I.bare,⟨λb o q n hb _=>stays b o (I.base.keep b o q n hb (nil b)) (Qx b o q hb),λb o q n hb _=>slot b o q n hb,λb o q n _=>I.base.free b o q n (nil b),λb o q _=>?_,I.base.qa,I.base.pO,I.base.qE⟩,λb u q=>?_,⟨W.hideAll s.heap (kR (envOfC qual scope s₀.heap.objs.size f cd::outer)),⟨t,fl,λb hb=>?_,λb o q hb=>?_⟩⟩,tr⟩,hE⟩
 .by_cases hb:b∈kR outer
  .obtain⟨sl,e1⟩:=slot b o q (I.ok.Od b hb) hb;exact⟨_,e1⟩
  .obtain⟨o',e1⟩:=I.base.there b o q (nil b);exact⟨o',stays b o' e1 (Qx b o q hb)⟩
 .refine(I.dJ b u q).uB (λc v hc z=>stays c v z ?_) (λ_ z=>z) λ_ _ z=>z;rcases hc with z'|z'
  .rw[z'];exact Bf b u q
  .exact Bf c _ z'
 .cases q:H b with
  |none=>exact absurd q hb
  |some u=>
   obtain⟨o,e1⟩:=(I.dJ b u q).there;exact⟨o,X2 _ e1 (Bf b u q)⟩
 .obtain⟨o',e1⟩:=I.base.there b o q (nil b);exact⟨o',X2 _ e1 (Qx b o q hb)⟩
theorem IH:Passes (qP P w) (jS (qP P w) P w K mg base N qual scope f cd A outer s₀ H₀ E) E:=by
 rintro ae σ H s e s' I ⟨ea,cls,H',rfl,Z,hE⟩;obtain⟨B,t,fl,ct,cs⟩:=Z.fl;have Gp:(A.deeper (envOfC qual scope s₀.heap.objs.size f cd)).frames=some (envOfC qual scope s₀.heap.objs.size f cd::outer):=I.ok.frames;have Gx:kR (envOfC qual scope s₀.heap.objs.size f cd::outer)=s₀.heap.objs.size::kR outer:=Bx rfl outer;have Qx:∀b o,s₀.heap.get? b=some o->b ∉ kR outer->b ∉ kR (envOfC qual scope s₀.heap.objs.size f cd::outer):=λb o q hb hm=>by
  rw[Gx]at hm;rcases VX.mp hm with z|z
  .exact absurd (VI q) (by rw[z];exact Wk _)
  .exact hb z
 have sub:∀b,b∈kR outer->b∈kR (envOfC qual scope s₀.heap.objs.size f cd::outer):=λb hb=>by rw[Gx];exact Vx _ hb
 have nil:∀b:_o,b ∉ (jS (qP P w) P w K mg base N qual scope f cd A outer s₀ H₀ E).ex:=λb z=>by cases z
 refine C0 Gp rfl fl Z.tr λMu fl2 up tr=>?_;have S8:∀b o,s'.heap.get? b=some o->(∃o',B.get? b=some o')->Mu.get? b=some o:=λb o q⟨o',z⟩=>by have q':=fl.1 b o' z;rw[q]at q';cases q';exact fl2.1 b o z
 have slot:∀b o,s₀.heap.get? b=some o->H₀ b=none->b∈kR outer->∃sl,Mu.get? b=some {o with slots:=sl}:=λb o q n hb=>by obtain⟨sl,e1⟩:=I.base.slot b o q n hb (nil b);obtain⟨Ue,e2⟩:=Z.un.slot b _ e1 (I.base.free b o q n (nil b)) (sub b hb) (by intro z;cases z);obtain⟨_,o',xT,Ql⟩:=fl.2.2.1.mem (sub b hb);rw[e2]at xT;cases xT;obtain⟨Pd,e3⟩:=up b _ e2 Ql;exact⟨Pd,e3⟩
 refine⟨ea,cls,H',rfl,⟨Z.os.trans I.os,Z.bare,⟨λb o q n hb _=>?_,λb o q n hb _=>slot b o q n hb,λb o q n _=>?_,λb o q _=>?_,λb xs q=>Z.un.qa b xs (I.base.qa b xs q),λb o u q=>Z.un.pO b o u (I.base.pO b o u q),λb ps q=>?_⟩,λb u q=>?_,⟨B,t,fl2,ct,λb o q hb=>?_⟩,tr⟩,hE⟩
 .have e1:=I.base.keep b o q n hb (nil b);have n1:=I.base.free b o q n (nil b);have nf:=Qx b o q hb;exact S8 b o (Z.un.keep b o e1 n1 nf (by intro z;cases z)) (cs b o e1 nf)
 .obtain⟨o',e1⟩:=I.base.there b o q (nil b);exact Z.un.free b o' e1 (I.base.free b o q n (nil b)) (by intro z;cases z)
 .by_cases hb:b∈kR outer
  .obtain⟨sl,e1⟩:=slot b o q (I.ok.Od b hb) hb;exact⟨_,e1⟩
  .obtain⟨o',e1⟩:=I.base.there b o q (nil b);obtain⟨o2,e2⟩:=cs b o' e1 (Qx b o q hb);exact⟨o2,fl2.1 b o2 e2⟩
 .obtain⟨m1,e1⟩:=I.base.qE b ps q;obtain⟨m2,e2⟩:=Z.un.qE b _ e1;exact⟨m1++m2,by rw[e2,Array.append_assoc]⟩
 .refine(Z.dJ b u q).uB (λc v hc z=>S8 c v z (ct c ?_)) (λ_ z=>z) λ_ _ z=>z;rcases hc with z'|z'
  .rw[z',q];simp
  .rw[z'];simp
 .obtain⟨o',e1⟩:=I.base.there b o q (nil b);exact cs b o' e1 (Qx b o q hb)
theorem Im.okX{x:Str}{st:Stmt}{fd:FuncData}{ps:_l}{k:Nat}(F:Im K x qual st f fd)(S:je N ps (bg st))(len:∀vs H Q E,sp vs H Q E->vs.length=ps.length)
  (Ib:∀ (iS:_m) (A:_p) (outer:List Env) (s:_n) (H:Hp) (vs:List V) (Q:VK) (E:XK),gK k (A.deeper (envOfC qual (bg st) s.heap.objs.size f iS))->sp vs H Q E ->
   ∃t,pY (jS (qP P w) P w K mg base N qual (bg st) f iS A outer s H E) (ff st) t/\t {nx:=λ_ H'=>Q .dj H',rt:=Q} (start N vs) H):vQ P w K mg base (qP P w) (k+1) f fd ps sp:=by
 obtain⟨oc,od,kV,doc,pm,an,iS,ct,Ia,rfl,lk,CI⟩:=F.ex;exact Oi lk CI S len λA outer s H vs Q E hr S0=>Ib iS A outer s H vs Q E hr S0
end
theorem Gy{K:_g}{mg:_d}{x:Str}{bmB:_i}(X:K.In h)(hb:mg x=some (.ref C))(q:W.excIn K C bmB newId=true):OwnCls x C bmB newId mg h:=by
 refine⟨hb,?_⟩;unfold W.excIn at q;split at q
 .rename_i dd cd sl ho;split at q
  .rename_i C' bm k0 k1 k2 k3 n k5 hm hs;simp only[Xd,Yb,YO]at q;obtain⟨⟨⟨⟨⟨rfl,rfl⟩,UJ⟩,ht⟩,dJ⟩,hni⟩:=q;obtain⟨nm,bs,mro,ns,qn,hd,sn,sub,ab,col,del⟩:=cd;dsimp only at hm UJ dJ hni;subst hm UJ;have Qy:sl = #[k0,k1,k2,k3,some (.builtin n),k5]:=by obtain⟨l⟩:=sl;simp only at hs;rw[hs]
   subst Qy;exact⟨bm,ns,nm,qn,bs,hd,sn,sub,ab,col,dd,k0,k1,k2,k3,k5,_,X _ _ ho,.of_isNs (W.isNs_of_in X dJ),W.nsMap_none_of_in X dJ hni,W.tail_of_in X ht⟩
  .cases q
 .cases q
def Qz(E:XK)(C:_o)(t:TA):TS:=λ_ σ H=>t σ H λvs H1=>vs.length<=sizeLine/\E (.ref C) none H1
def Raises(X:Cx)(E:XK):Prop:=∀(ae:_e)(σ:St)(H:Hp)(s:_n)(h':Heap)(e:_o)(cls:_m)(vs:_i),a9 X ae σ H s->Heap.MadeExcOf s.heap h' e cls vs->E cls none H->X.xe (.ref e) {s with heap:=h'}
theorem II{x:Str}{B C8:String}{bm:_i}{np pos:Pos}{t:TA}(hX:Raises X E)(hc:X.calm=true)(hm:X.mg x=some (.ref C))(hq:W.excIn X.K C bm newId=true)(FB:ExcBaseFacts B newId C8 bm)(hg:Gl X x)(ha:PA X (e₀::rest) t)(he:starEach (e₀::rest) X.env=(false,eval e₀ X.env)::starEach rest X.env:=by rfl)(tZ:(backTo cN (starEach rest X.env)).any (·.1)=false:=by rfl)(hd:(x==("__debug__":Str))=false:=by decide):
  PS X (.Raise (some (.Call (.Name x np) (e₀::rest) [] cN)) none pos) (Qz E C t):=by
 intro ae s σ H D I h;obtain⟨tl,NS,nm,q,bs,hdct,sn,sub,ab,col,dd,k0,k1,k2,k3,k5,mN,hC,hN,hni,T⟩:=(Gy I.mod.Tv hm hq).obj;refine wpAny_Raise_call_subT (C:=C) (nm:=nm) (q:=q) (N:=NS) (bs:=bs) (bm:=tl) (hdct:=hdct) (sn:=sn) (sub:=sub) (ab:=ab) (col:=col) (dd:=dd) (k0:=k0) (k1:=k1) (k2:=k2) (k3:=k3) (k5:=k5)
  FB (mN:=mN) (T.hasType FB.hasBase) (I.ok.hd hc) (by rw[he];show(false || (backTo cN (starEach rest X.env)).any (·.1))=false;rw[tZ];rfl) hni (zP I hg hm ⟨rfl,?_⟩ hd)
 have hA:=ha cN ae s σ H _ I h;rw[he]at hA⊢;exact Calls.evalArgs_plain (fv hA λus s2⟨vs,H2,I2,r2,z,q2⟩=>⟨rfl,by rw[<-r2.length];exact z,I2.bk _ _ hC,hN.keeps I2.bk,T.keeps I2.bk,λh' e hm2=>hX ae σ H2 s2 h' e _ _ I2 hm2 q2⟩)
def Itd(lo:Int)(n:Nat):It:=⟨λi _=>i<n,λi H x H'=>H'=H/\x=.int (lo-i),λi _=>n<=i⟩
theorem Gz{w:World}{K:_g}(it:_o)(lo:Int)(n:Nat):Turn P w K tg (Itd lo n) [it] it (λi h=>IsRangeIter h it (lo+(i:Nat)*(-1)) ((n:Int)-(i:Nat)) (-1)) where
 mem:=by simp
 obj:=λi h st b hb=>by
  have e:b=it:=by simpa using hb
  subst e;exact⟨_,st,λv z=>by
   have z':Data.fields _=Data.cell v:=z;cases z'⟩
 keep:=λi h h' st k=>k it (by simp) _ st
 item:=by intro X hP hw hK hc i ae s σ H E I hf st hg;subst hP hw hK;obtain⟨f0,f1,f2,f3,f4,f5⟩:=hf it (by simp);have W:=Walks.range (prog:=X.prog) (w:=X.w) (I.ok.hd hc) it lo (-1) n;refine W.item i s _ _ hg st λv h' tk hv aI kk=>?_;obtain⟨t,rfl⟩:=hv;have I1:a9 X ae σ H {s with heap:=h',toks:=tk}:=I.turned (λb o hb e=>kk b o (by simpa using hb) e) f0 f1 f3 f4 f5;refine⟨_,rfl,Et (s:={s with heap:=h',toks:=tk}) (n:="range_iterator") aI rfl rfl ⋯ ⟨.int (lo-i),H,I1,⟨t,?_⟩,⟨rfl,rfl⟩,aI,λb hb=>(hf b hb).1⟩⟩;rw[show lo+(i:Int)*(-1)=lo-(i:Int) by lia]
 done:=by intro X hP hw hK hc i ae s σ H E I hf st hg;subst hP hw hK;obtain⟨f0,f1,f2,f3,f4,f5⟩:=hf it (by simp);exact Z2 (I.ok.hd hc) st (by have:n<=i:=hg;lia) λh' eb=>⟨rfl,I.turned (t':=s.toks) (λb o hb e=>eb b o hb e) f0 f1 f3 f4 f5⟩
 self:=λ_ _ _ _ _ st h=>Z3 st h
theorem Mv{R:It->Hp->Prop}{E:_c}{lo:Int}{t u v:Tok}{tk:Nat}(I:a9 X ae σ H s)(h1:-(2 ^ 62)<=lo)(h2:lo<2 ^ 62)(h3:-(2 ^ 62)<=hi)(h4:hi<2 ^ 62)(q:R (Itd lo (lo-hi).toNat) H):wpAny (model X.prog X.w) X.A (pyIter (.ref s.heap.objs.size)) (PIE X ae σ tg R) E {s with heap:=s.heap.push {cls:=.type "range",data:=.fields #[.int lo t,.int hi u,.int (-1) v]},toks:=tk}:=by
 refine wpAny_pyIter_range (IsRange.new ..) (W.small_down h1 h2 h3 h4) ?_;have I1:a9 X ae σ H {s with heap:=s.heap.push {cls:=.type "range",data:=.fields #[.int lo t,.int hi u,.int (-1) v]},toks:=tk}:=I.kept λb o e=>Vl _ e;refine⟨(s.heap.push {cls:=.type "range",data:=.fields #[.int lo t,.int hi u,.int (-1) v]}).objs.size,[(s.heap.push {cls:=.type "range",data:=.fields #[.int lo t,.int hi u,.int (-1) v]}).objs.size],_,_,H,rfl,
  I1.kept (t':=tk) λb o e=>Vl _ e,Gz _ lo (lo-hi).toNat,?_,λb hb=>?_,q⟩
 .have e1:lo+((0:Nat):Int)*(-1)=lo:=by simp
  have e2:(((lo-hi).toNat:Nat):Int)-((0:Nat):Int)=Builtin.Range.rangeSize lo hi (-1):=by rw[W.rangeSize_downNat];lia
  show IsRangeIter _ _ (lo+((0:Nat):Int)*(-1)) ((((lo-hi).toNat:Nat):Int)-((0:Nat):Int)) (-1);rw[e1,e2];exact VT _ rfl
 .have e:b=(s.heap.push {cls:=.type "range",data:=.fields #[.int lo t,.int hi u,.int (-1) v]}).objs.size:=by simpa using hb
  subst e;exact I1.Bi (Vt _) (I1.dJ.fresh (Vt _))
def UK(ta:TA):TI:=λσ H R=>ta σ H λvs H1=>∃i j:Int,vs=[.int i,.int j,.int (-1)]/\(-(2 ^ 62)<=i/\i<2 ^ 62/\-(2 ^ 62)<=j/\j<2 ^ 62)/\R (Itd i (i-j).toNat) H1
theorem Mw{a b c:Expr}{ta:TA}{p pos:Pos}(hg:Gl X "range")(hm:X.mg "range" = none)(ha:PA X [a,b,c] ta)(hs:starEach [a,b,c] X.env=[(false,eval a X.env),(false,eval b X.env),(false,eval c X.env)]:=by rfl)(su:starEach [b,c] X.env=[(false,eval b X.env),(false,eval c X.env)]:=by rfl):
  PI X tg (.Call (.Name "range" p) [a,b,c] [] pos) (UK ta):=by
 intro ae s σ H R I h;refine Call_ (m7 I hg hm boot_range (WG (fv (ha pos ae s σ H _ I h) λus s1⟨vs,H1,I1,r1,q1⟩=>?_) (by rw[hs,su]) (by rw[su];rfl)));obtain⟨i,j,e,⟨q1,q2,q3,q4⟩,q⟩:=q1;subst e;cases r1 with
 |cons r rr=>
  cases rr with
  |cons r' rr=>
   cases rr with
   |cons r'' rr=>
    cases rr;obtain⟨t,rfl⟩:=r;obtain⟨t',rfl⟩:=r';obtain⟨t'',rfl⟩:=r'';refine call_range_3 ⋯ (Mv I1 q1 q2 q3 q4 q) (.inl (Zf (by decide +kernel)))
def Ite(K:_g)(a:_o):It:=
 ⟨λi H=>∃xs x,pk K H a xs/\xs[i]?=some x,
  λi H v H'=>∃p x,v=.ref p/\H p=none/\H'=upd H p (.tup [.int i,x])/\∀xs,pk K H a xs->xs[i]?=some x,
  λi H=>∃xs,pk K H a xs/\xs.length<=i⟩
theorem GA{w:World}{K:_g}{e it:_o}(a:_o)(ne:e≠it):
  Turn P w K (.Tuple elts kt tp) (Ite K a) [e,it] e (λi h=>(∃old,IsEnum h e it (i:Int) old)/\h.IsListIter it a i) where
 mem:=by simp
 obj:=λi h⟨⟨old,he⟩,hi⟩c hc=>by
  have fi:c=e\/c=it:=by simpa using hc
  rcases fi with rfl|rfl
  .exact⟨_,he,λv q=>by have q':Data.fields _=Data.cell v:=q;cases q'⟩
  .obtain⟨o,e',c,d⟩:=hi;exact⟨o,e',λv z=>by rw[d]at z;cases z⟩
 keep:=λi h h'⟨⟨old,he⟩,hi⟩k=>⟨⟨old,k e (by simp) _ he⟩,hi.at λo e'=>k it (by simp) o e'⟩
 item:=by
  intro X hP hw hK hc i ae s σ H E I hf st hg;subst hP hw hK;obtain⟨⟨old,he⟩,hi⟩:=st;obtain⟨xs,x,sx,ex⟩:=hg;obtain⟨aN,rv,p,_⟩:=I.list sx;obtain⟨ux,eux,rx⟩:=rv.get ex;have fz:=hf e (by simp);refine wpAny_pyNext_enum_item he hi p.isList (x:=ux) (by simpa using eux) ne λh' a1 a2 a3 a4 a5=>⟨_,rfl,?_⟩
  have hT:H s.heap.objs.size=none:=I.dJ.fresh (Vt _);have UG:∀c∈[e,it],H c=none:=λc fi=>(hf c fi).1;have kp:∀c o,c ∉ [e,it]->s.heap.get? c=some o->h'.get? c=some o:=λc o fi q=>a5 c o (λz=>fi (by simp[z])) (λz=>fi (by simp[z])) q;have Bf:∀c o,H c=some o->c ∉ [e,it]:=λc o q fi=>by rw[UG c fi]at q;cases q
  have dJ:m6 X.prog X.w (upd H s.heap.objs.size (.tup [.int i,x])) h':=λc o q=>by
   by_cases UH:c=s.heap.objs.size
   .subst UH;rw[cC]at q;cases q;exact⟨by show 2<=sizeLine;decide,[.int i s.toks,ux],.cons ⟨_,rfl⟩ (.cons rx .nil),_,a3,rfl,_,rfl⟩
   .rw[aS UH]at q;refine(I.dJ c o q).uB (λd v hd z=>kp d v ?_ z) (λd z=>by rw[aS (bA z hT)];exact z) λd zs z=>by rw[aS (bA z hT)];exact z
    rcases hd with q'|q'
    .rw[q'];exact Bf c o q
    .exact Bf d _ q'
  have un:Un (kR X.stack) [e,it] H (upd H s.heap.objs.size (.tup [.int i,x])) s.heap h':=
   ⟨λc o q n _ fi=>kp c o fi q,λc o q n _ fi=>⟨o.slots,kp c o fi q⟩,λc o q n fi=>by rw[aS (V7 (VI q))];exact n,λc o q fi=>⟨o,kp c o fi q⟩,
    λc zs q=>by rw[aS (bA q hT)];exact q,λc o u q=>by rw[aS (bA q hT)];exact q,λc ps q=>⟨#[],by rw[aS (bA q hT),q];simp⟩⟩
  have I1:a9 X ae σ (upd H s.heap.objs.size (.tup [.int i,x])) {s with heap:=h',toks:=s.toks+1}:=I.Er rfl un dJ I.bare λc fi=>by obtain⟨f0,f1,f2,f3,f4,f5⟩:=hf c fi;exact⟨f3,f1,f4,f5⟩
  have fpT:∀c∈[e,it],c≠s.heap.objs.size:=λc fi q=>by
   have uI:c<s.heap.objs.size:=by
    have Qv:c=e\/c=it:=by simpa using fi
    rcases Qv with r|r
    .rw[r];exact VI he
    .obtain⟨o,e',_⟩:=hi;rw[r];exact VI e'
   exact absurd uI (by rw[q];exact Wk _)
  have UI:∀c∈[e,it],(upd H s.heap.objs.size (.tup [.int i,x])) c=none:=λc fi=>by rw[aS (fpT c fi)];exact(hf c fi).1
  refine wpAny_letOwnedTupleGo_enum a1 λMu abD sb=>?_;obtain⟨f0,f1,f2,f3,f4,f5⟩:=fz;have I2:a9 X ae σ (upd H s.heap.objs.size (.tup [.int i,x])) {s with heap:=Mu,toks:=s.toks+1}:=I1.turned (s:={s with heap:=h',toks:=s.toks+1}) (t':=s.toks+1) (it:=e) (λc o fi q=>(sb.2 c fi).trans q) (UI e (by simp)) f1 f3 f4 f5;refine⟨.ref s.heap.objs.size,_,I2,rfl,⟨_,x,rfl,hT,rfl,λzs hs=>by rw[I.qH hs sx];exact ex⟩,⟨⟨_,abD⟩,a2.at λo q=>sb.extBut _ o ne.symm q⟩,UI⟩
 done:=by intro X hP hw hK hc i ae s σ H E I hf st hg;subst hP hw hK;obtain⟨⟨old,he⟩,hi⟩:=st;obtain⟨xs,sx,hl⟩:=hg;obtain⟨aN,rv,p,_⟩:=I.list sx;have l1:=rv.length;obtain⟨f0,f1,f2,f3,f4,f5⟩:=hf it (by simp);exact wpAny_pyNext_enum_end (I.ok.hd hc) he hi p.isList (by simp;lia) λh' eb=>⟨rfl,I.turned (t':=s.toks) (λb o hb q=>eb b o hb q) f0 f1 f3 f4 f5⟩
 self:=λ_ _ _ _ _ st h=>by obtain⟨⟨old,he⟩,hi⟩:=st;exact wpAny_pyIter_enum he h
section
variable{p pos:Pos}
def UL(K:_g)(ta:TA):TI:=λσ H R=>ta σ H λvs H1=>∃a xs,vs=[.ref a]/\pk K H1 a xs/\R (Ite K a) H1
theorem Mx{a:Expr}{ta:TA}(hg:Gl X "enumerate")(hm:X.mg "enumerate" = none)(hv:bootBuiltins "enumerate" = some (.type "enumerate"))(ha:PA X [a] ta)(hs:starEach [a] X.env=[(false,eval a X.env)]:=by rfl):
  PI X (.Tuple elts kt tp) (.Call (.Name "enumerate" p) [a] [] pos) (UL X.K ta):=by
 intro ae s σ H R I h;refine Call_ (m7 I hg hm hv (WG (fv (ha pos ae s σ H _ I h) λus s1⟨vs,H1,I1,r1,q1⟩=>?_) hs rfl));obtain⟨b,xs,e,hq,q⟩:=q1;subst e;obtain⟨u,rfl,ru⟩:=bx.one r1;cases ru;obtain⟨aN,rv,pl,hz⟩:=I1.list hq;refine call_enumerate_list pl.isList λh' he hi hsz kp=>?_;have I2:a9 X ae σ H1 {s1 with heap:=h'}:=I1.kept (t':=s1.toks) kp;have ne:s1.heap.objs.size+1≠s1.heap.objs.size:=⋯
 have T:=GA (P:=X.prog) (w:=X.w) (K:=X.K) (elts:=elts) (kt:=kt) (tp:=tp) (e:=s1.heap.objs.size+1) (it:=s1.heap.objs.size) b ne;refine T.self X.A 0 {s1 with heap:=h'} _ _ ⟨⟨_,he⟩,hi⟩ ?_;refine⟨s1.heap.objs.size+1,[s1.heap.objs.size+1,s1.heap.objs.size],_,_,H1,rfl,I2,T,⟨⟨_,he⟩,hi⟩,λc hc=>?_,q⟩;have hle:s1.heap.objs.size<=c:=by
  have fi:c=s1.heap.objs.size+1\/c=s1.heap.objs.size:=by simpa using hc
  rcases fi with r|r<;>(rw[r];first|exact Vt _|exact YR _ _)
 exact I1.Bi hle (I1.dJ.fresh hle)
end
theorem GB(hh:X.A.handled=none):dE X (.builtin "max") (λxs H Q=>∃i j,xs=[.int i,.int j]/\Q (.int (if j>i then j else i)) H):=by
 rintro ae s σ H xs ws Q I r ⟨i,j,rfl,q⟩;obtain⟨u,v,rfl,ru,rv⟩:=bx.two r;obtain⟨t,rfl⟩:=ru;obtain⟨t',rfl⟩:=rv;refine max_two_ints hh λh' tk hk=>?_;refine⟨.int (if j>i then j else i),H,I.kept hk,?_,q⟩;by_cases c:j>i
 .rw[Vv c,Vv c];exact⟨_,rfl⟩
 .rw[VG c,VG c];exact⟨_,rfl⟩
theorem IJ:TX X (Uk X.K):=by
 intro ae s σ H o i ov iv Q I ro ri h;obtain⟨p,xs,k,z,rfl,rfl,hq,he,q⟩:=h;cases ro;obtain⟨t,rfl⟩:=ri;obtain⟨aN,r,pl,hz⟩:=I.list hq;obtain⟨j,h1,h2,h3,h4,h5⟩:=vf he;obtain⟨w,ew,zX⟩:=r.get h2;have hl:=r.length;have hn:=qb;have fin:EP X ae σ Q w s:=⟨z,H,I,zX,q⟩
 by_cases h0:0<=k
 .have hj:k.toNat=j:=by rw[Zj h0 h5]at h1;exact VP h1
  exact wpAny_getItem_list pl.isList h0 ⋯ (by rw[hj];simpa using ew) fin
 .have hj:(k+(aN.toArray.size:Int)).toNat=j:=by rw[Y8 ⋯ h4]at h1;rw[VB,<-hl];exact VP h1
  exact Z4 pl.isList ⋯ (by rw[VB]<;>lia) ⋯ (by rw[hj];simpa using ew) fin
structure h! where
 qual:Str
 params:Arguments
 body:Expr
 scope:Scope
 ps:_l
 x:Str
abbrev Fz(H:Hp)(a:_o)(o:Obj):Prop:=H a=some (.lX o (.own 0))
structure EF(L:h!)(H:Hp)(f c c':_o)(v:V):Prop where
 fn:∃pm CD,Fz H f (W.kla_obj "<lambda>" L.qual L.params L.body L.scope [(L.x,c)] pm c' CD)
 cd:∃oc vs t,Fz H c' oc/\oc.data=.fields vs/\vs[1]?=some (.str L.qual t)
 ce:∃oc u,Fz H c oc/\oc.data=.cell (some u)/\bW v u
def back(H H':Hp)(c:_o):Hp:=λb=>if b=c then H b else H' b
theorem EG:∀{ps:_l}{us:_i}{i:Nat}{y:Str}{u:_m},ps.Nodup->ps[i]?=some y->us[i]?=some u->(ps.zip us).reverse.lookup y=some u
 |[],_,_,_,_,_,h,_=>by cases h
 |_::_,[],_,_,_,_,_,h=>by cases h
 |p::ps,w::us,i,y,u,nd,h1,h2=>by
  have n:=WJ.mp nd;rw[Zu,List.reverse_cons,List.lookup_append];cases i with
  |zero=>
   cases h1;cases h2;have:(ps.zip us).reverse.lookup p=none:=by
    rw[List.lookup_eq_none_iff];intro q hq;have:=(XA (List.mem_reverse.mp hq)).1;have ne:p≠q.1:=by intro z;apply n.1;rw[z];exact this
    first|exact WX.mpr ne|exact WX.mpr (WU ne)|simpa using ne|simpa using(WU ne)
   rw[this];simp
  |succ i=>
   rw[EG n.2 (show ps[i]?=some y from h1) (show us[i]?=some u from h2)];rfl
def Tab(H:Hp)(T:_o)(line col:Nat)(qual:Str):Prop:=H T=some (.xR #[]) \/
 ∃c' oc vs t,H T=some (.xR #[rawInt line,rawInt col,.ref c'])/\Fz H c' oc/\oc.data=.fields vs/\vs[1]?=some (.str qual t)
structure IK(X:Cx)(L:h!)(pos:Pos)(cd T:_o)(cs:List (Str×_o)):Prop where
 code:X.env.code=.ref cd
 hd:W.CodeHd X.base cd T
 cl:closureFor L.scope X.env=pure cs
 qual:L.qual=X.env.qual ++ "<lambda>"
 dflt:defaultsOf L.params X.env=([],[])
 blt:X.base.BuiltinsAt X.mg T
 gT:mainGlobals≠T
structure EH(L:h!)(H H':Hp)(T:_o)(cs:List (Str×_o))(f c':_o)(pos:Pos):Prop where
 fn:∃pm CD,Fz H' f (W.kla_obj "<lambda>" L.qual L.params L.body L.scope cs pm c' CD)
 cd:∃oc vs t,Fz H' c' oc/\oc.data=.fields vs/\vs[1]?=some (.str L.qual t)
 tab:Tab H' T pos.line pos.col L.qual
 old:∀b o,b≠T->H b=some o->H' b=some o
def UM(L:h!)(T:_o)(cs:List (Str×_o))(pos:Pos):TE:=λ_ H Q=>Tab H T pos.line pos.col L.qual/\∀f c' H',EH L H H' T cs f c' pos->Q (.ref f) H'
theorem GC{pos:Pos}:codeAmong pos (#[]:Array _m).toList=none:=rfl
section
variable{L:h!}{pos:Pos}{cd T c:_o}
theorem My{cs:List (Str×_o)}(A:IK X L pos cd T cs):PE X (.Lambda L.params L.body L.scope pos) (UM L T cs pos):=by
 intro ae s σ H Q I h;obtain⟨tb,q⟩:=h;have C:W.CodeHd s.heap cd T:=A.hd.keeps I.bk;have G:s.heap.Ns mainGlobals X.mg:=I.ok.mod.glob.keeps I.bk;have B:s.heap.BuiltinsAt X.mg T:=by obtain⟨bm,o,h1,h2,h3,h4,h5,h6⟩:=A.blt;exact⟨bm,o,h1,h2,h3,h4,I.bk _ _ h5,h6⟩
 refine W.kla_eval A.dflt ?_;rw[<-A.qual];rcases tb with tb|⟨c',oc,vs,t,tb,hc,hd,hv⟩
 .have hT:s.heap.get? T=some (W.tabObj #[]):=I.dJ T _ tb;refine W.kla_makeFunction (ps:=#[]) A.cl I.ok.glob G A.code C hT trivial GC A.gT B λc' CD h' tk hx UN uI abE htb=>?_;obtain⟨c2,oc,vs,t,e2,TC,hd,hv⟩:=abE;cases e2;obtain⟨ob,eo⟩:=NE (W.kla_obj "<lambda>" L.qual L.params L.body L.scope cs ((X.mg "__name__").getD .none) c' CD)
  obtain⟨ps,eps⟩:=NE (#[rawInt pos.line,rawInt pos.col,.ref c']:Array _m)
  have UO:h'.get? T=some (W.tabObj ps):=by rw[htb,eps];rfl
  rw[<-eo];have lT:T<s.heap.objs.size:=VI hT;have nc:H c'=none:=I.dJ.fresh UN;have nf:H h'.objs.size=none:=I.dJ.fresh ⋯;have tr:∀b x,H b=some x->b<s.heap.objs.size:=λb x q=>by obtain⟨o,e⟩:=(I.dJ b x q).there;exact VI e
  obtain⟨H',eH⟩:∃H',H'=upd (upd (upd H T (.xR ps)) c' (.lX oc (.own 0))) h'.objs.size (.lX ob (.own 0)):=⟨_,rfl⟩
  have hf':H' h'.objs.size=some (.lX ob (.own 0)):=by rw[eH];exact cC
  have fi:H' c'=some (.lX oc (.own 0)):=by rw[eH,aS (V7 uI)];exact cC
  have UP:H' T=some (.xR ps):=by rw[eH,aS (V7 (Zt lT (YC UN uI))),aS (V7 (VR lT UN))];exact cC
  have xT:∀b,b≠T->b<s.heap.objs.size->H' b=H b:=λb h1 h2=>by rw[eH,aS (V7 (Zt h2 (YC UN uI))),aS (V7 (VR h2 UN)),aS h1]
  have nT:∀b x,H b=some x->(∀ps,x≠.xR ps)->b≠T:=λb x q z e=>by rw[e,tb]at q;exact z _ (VP q).symm
  have n0:∀b,H b=none->b≠T:=λb q e=>by rw[e,tb]at q;cases q
  have kp:∀b o,b≠T->s.heap.get? b=some o->(h'.push ob).get? b=some o:=λb o h1 h2=>Vl _ (hx b o h1 h2);have un:Un X.fs [] H H' s.heap (h'.push ob):=by
   refine⟨λb o q n _ _=>kp b o (n0 b n) q,λb o q n _ _=>⟨o.slots,kp b o (n0 b n) q⟩,λb o q n _=>?_,λb o q _=>?_,λb xs q=>?_,λb o u q=>?_,λb QA q=>?_⟩
   .rw[xT b (n0 b n) (VI q)];exact n
   .by_cases e:b=T
    .rw[e];exact⟨_,Vl _ UO⟩
    .exact⟨o,kp b o e q⟩
   .rw[xT b (nT b _ q λ_ z=>by cases z) (tr b _ q)];exact q
   .rw[xT b (nT b _ q λ_ z=>by cases z) (tr b _ q)];exact q
   .by_cases e:b=T
    .rw[e,tb]at q;cases q;exact⟨ps,by rw[e,UP];simp⟩
    .exact⟨#[],by rw[xT b e (tr b _ q),q];simp⟩
  have ok:m6 X.prog X.w H' (h'.push ob):=λb x q=>by
   by_cases e1:b=h'.objs.size
   .rw[e1,hf']at q;cases q;rw[e1];have g:(h'.push ob).get? h'.objs.size=some ob:=VT _ (by rw[eo];rfl);exact⟨g,ob,g⟩
   .by_cases e2:b=c'
    .rw[e2,fi]at q;cases q;rw[e2];exact⟨Vl _ TC,oc,Vl _ TC⟩
    .by_cases e3:b=T
     .rw[e3,UP]at q;cases q;rw[e3];exact Vl _ UO
     .rw[eH,aS e1,aS e2,aS e3]at q;refine(I.dJ b x q).uB (λa u ha z=>kp a u ?_ z) (λa z=>?_) λa xs z=>?_
      .rcases ha with rfl|ha
       .exact e3
       .exact nT a _ ha λ_ z=>by cases z
      .rw[xT a (nT a _ z λ_ z=>by cases z) (tr a _ z)];exact z
      .rw[xT a (nT a _ z λ_ z=>by cases z) (tr a _ z)];exact z
  refine⟨.ref h'.objs.size,H',I.un (t':=tk) un ok,rfl,q h'.objs.size c' H' ⟨⟨(X.mg "__name__").getD .none,CD,by show H' _=some _;rw[hf',eo]⟩,⟨oc,vs,t,fi,hd,hv⟩,.inr ⟨c',oc,vs,t,by rw[UP,eps],fi,hd,hv⟩,λb o h1 h2=>?_⟩⟩;rw[xT b h1 (tr b _ h2)];exact h2
 .have hT:s.heap.get? T=some (W.tabObj #[rawInt pos.line,rawInt pos.col,.ref c']):=I.dJ T _ tb;refine W.kla_makeFunctionHit (cv:=.ref c') A.cl I.ok.glob G A.code C hT trivial ?_ B λCD h' tk hk hsz=>?_
  .show codeAmong pos [rawInt pos.line,rawInt pos.col,.ref c']=_;unfold rawInt codeAmong;rw[Vv (by simp)]
  .obtain⟨ob,eo⟩:=NE (W.kla_obj "<lambda>" L.qual L.params L.body L.scope cs ((X.mg "__name__").getD .none) c' CD)
   have g:(h'.push ob).get? h'.objs.size=some ob:=VT _ (by rw[eo];rfl);have nf:H h'.objs.size=none:=I.dJ.fresh hsz;have Bn:H c'=some (.lX oc (.own 0)):=hc;have e1:c'≠h'.objs.size:=λz=>by rw[z,nf]at Bn;cases Bn
   have hc3:∀o,upd H h'.objs.size o c'=some (.lX oc (.own 0)):=λo=>by rw[aS e1];exact Bn
   have e2:T≠h'.objs.size:=λz=>by rw[z,nf]at tb;cases tb
   have J:=I.laid (a:=h'.objs.size) (o:=.lX ob (.own 0)) (t':=tk) (h':=h'.push ob) (λb u e=>Vl _ (hk b u e)) hsz ⟨g,ob,g⟩;rw[eo]at J;refine⟨.ref h'.objs.size,_,J,rfl,q _ c' _ ⟨⟨_,CD,cC⟩,⟨oc,vs,t,hc3 _,hd,hv⟩,.inr ⟨c',oc,vs,t,by rw[aS e2];exact tb,hc3 _,hd,hv⟩,λb o h1 h2=>?_⟩⟩;rw[aS (λz=>by rw[z,nf]at h2;cases h2)];exact h2
end
theorem EF.mono{L:h!}{f c:_o}{v:V}(C:EF L H f c c' v)(k:∀b o u,H b=some (.lX o u)->H' b=some (.lX o u)):EF L H' f c c' v:=by obtain⟨⟨pm,CD,h1⟩,⟨oc,vs,t,h2,h3⟩,⟨o2,u,h4,h5⟩⟩:=C;exact⟨⟨pm,CD,k _ _ _ h1⟩,⟨oc,vs,t,k _ _ _ h2,h3⟩,⟨o2,u,k _ _ _ h4,h5⟩⟩
def XF:XK:=λ_ _ _=>False
end L2
variable {x qual:Str}
variable {ps:List Str}
variable {scope:Scope}
variable {L:L2.h!}
namespace MN
open PySem.Spec L2
open PyProof.Rows hiding St
inductive aj where
 |dj|bl (b:Bool)|int (i:Int)|str (x:Str)|tup (vs:List aj)|loc (n:Nat)|exc (c:Str)|fn (L:h!) (u:aj)|mt (vs:List aj)
inductive aZ where
 |lst (vs:List aj)|QB (vs:List aj)|mod (vs:List aj)|dK (aW:List (fX×aj))|dT (aW:List (List fX×aj))|tab (x:Str) (line col:Nat) (qual:Str)|ins (c:Str) (fs:List (Str×aj))|fd (aW:List (fX×aj))
abbrev af:=List aZ
abbrev Env:=List (Option aj)
inductive fu(α:Type) where
 |ok (a:α) (st:af)|err (c:Str) (st:af)|bad
inductive fI where
 |nx (μ:Env) (st:af)|rt (v:aj) (st:af)|bk (μ:Env) (st:af)|ct (μ:Env) (st:af)|er (c:Str) (μ:Env) (st:af)|bad
@[reducible] def fu.bind(r:fu α)(k:α->af->fu β):fu β:=match r with
 |.ok a st=>k a st
 |.err c st=>.err c st
 |.bad=>.bad
structure Wo where
 K:_g
 mg:Str->_j
 pn:_e
abbrev wo(X:Cx):Wo:=⟨X.K,X.mg,X.pn⟩
mutual
def Rl(K:_g)(ρ:_k)(H:Hp):aj->V->Prop
 |.dj,v=>v=.dj
 |.bl b,v=>v=.bl b
 |.int i,v=>v=.int i
 |.str x,v=>v=.str x
 |.tup us,v=>∃a vs,v=.ref a/\H a=some (.tup vs)/\bC K ρ H us vs
 |.mt us,v=>∃a vs,v=.ref a/\pZ K H a vs/\bC K ρ H us vs
 |.loc n,v=>∃a,v=.ref a/\ρ[n]?=some a
 |.exc _,_=>False
 |.fn _ _,_=>False
def bC(K:_g)(ρ:_k)(H:Hp):List aj->List V->Prop
 |[],vs=>vs=[]
 |u::us,vs=>∃v r,vs=v::r/\Rl K ρ H u v/\bC K ρ H us r
end
structure aX(ρ:_k)(H:Hp)(ρ':_k)(H':Hp):Prop where
 pre:ρ <+: ρ'
 tup:∀b xs,H b=some (.tup xs)->H' b=some (.tup xs)
 lX:∀b o u,H b=some (.lX o u)->H' b=some (.lX o u)
theorem aX.refl(ρ:_k)(H:Hp):aX ρ H ρ H:=⟨Ys ρ,λ_ _ h=>h,λ_ _ _ h=>h⟩
theorem aX.trans{ρ1 ρ2:_k}{H1 H2:Hp}(a:aX ρ H ρ1 H1)(b:aX ρ1 H1 ρ2 H2):aX ρ H ρ2 H2:=
 ⟨a.pre.trans b.pre,λ_ _ h=>b.tup _ _ (a.tup _ _ h),λ_ _ _ h=>b.lX _ _ _ (a.lX _ _ _ h)⟩
theorem aX.same(e:sF H H'):aX ρ H ρ H':=⟨Ys ρ,λ_ _ h=>e _ _ h,λ_ _ _ h=>e _ _ h⟩
theorem aX.snoc(p:_o)(e:sF H H'):aX ρ H (ρ++[p]) H':=⟨List.prefix_append ρ [p],λ_ _ h=>e _ _ h,λ_ _ _ h=>e _ _ h⟩
theorem aX.at_(e:aX ρ H ρ' H'){n:Nat}{a:_o}(h:ρ[n]?=some a):ρ'[n]?=some a:=by
 obtain⟨t,rfl⟩:=e.pre;have hl:n<ρ.length:=by
  rcases Wx n ρ.length with q|q
  .exact q
  .rw[Wa q]at h;cases h
 rw[V3 hl,h]
theorem aX.sqT{K:_g}(e:aX ρ H ρ' H'){a:_o}{xs:List V}(h:pZ K H a xs):pZ K H' a xs:=by
 rcases h with(h|⟨o,h⟩)|h
 .exact .inl (.inl (e.tup _ _ h))
 .exact .inl (.inr ⟨o,e.lX _ _ _ h⟩)
 .exact .inr h
mutual
theorem Rl.mono{K:_g}(e:aX ρ H ρ' H'):∀(u:aj)(v:V),Rl K ρ H u v->Rl K ρ' H' u v
 |.dj,_,h=>h
 |.bl _,_,h=>h
 |.int _,_,h=>h
 |.str _,_,h=>h
 |.tup us,v,h=>by unfold Rl at h⊢;obtain⟨a,vs,h1,h2,h3⟩:=h;exact⟨a,vs,h1,e.tup _ _ h2,bC.mono e us vs h3⟩
 |.mt us,v,h=>by unfold Rl at h⊢;obtain⟨a,vs,h1,h2,h3⟩:=h;exact⟨a,vs,h1,e.sqT h2,bC.mono e us vs h3⟩
 |.loc n,v,h=>by unfold Rl at h⊢;obtain⟨a,h1,h2⟩:=h;exact⟨a,h1,e.at_ h2⟩
 |.exc c,v,h=>h
 |.fn _ _,_,h=>h
theorem bC.mono{K:_g}(e:aX ρ H ρ' H'):∀(us:List aj)(vs:List V),bC K ρ H us vs->bC K ρ' H' us vs
 |[],_,h=>h
 |u::us,vs,h=>by unfold bC at h⊢;obtain⟨v,r,h1,h2,h3⟩:=h;exact⟨v,r,h1,Rl.mono e u v h2,bC.mono e us r h3⟩
end
section
variable{K:_g}
theorem bC.nil:bC K ρ H [] []:=by unfold bC;rfl
theorem bC.cons{u:aj}{us:List aj}{v:V}{vs:List V}(h:Rl K ρ H u v)(hs:bC K ρ H us vs):bC K ρ H (u::us) (v::vs):=by unfold bC;exact⟨v,vs,rfl,h,hs⟩
theorem bC.cY{u:aj}{us:List aj}{vs:List V}(h:bC K ρ H (u::us) vs):∃v r,vs=v::r/\Rl K ρ H u v/\bC K ρ H us r:=by unfold bC at h;exact h
theorem bC.gW{vs:List V}(h:bC K ρ H [] vs):vs=[]:=by unfold bC at h;exact h
theorem bC.length:∀{us:List aj}{vs:List V},bC K ρ H us vs->us.length=vs.length
 |[],vs,h=>by rw[h.gW];rfl
 |u::us,vs,h=>by obtain⟨v,r,rfl,_,h3⟩:=h.cY;rw[Vi,Vi,h3.length]
theorem bC.get:∀{us:List aj}{vs:List V}{i:Nat}{u:aj},bC K ρ H us vs->us[i]?=some u->∃v,vs[i]?=some v/\Rl K ρ H u v
 |[],_,_,_,_,e=>by cases e
 |w::us,vs,0,u,h,e=>by obtain⟨v,r,rfl,h2,_⟩:=h.cY;cases e;exact⟨v,rfl,h2⟩
 |w::us,vs,i+1,u,h,e=>by obtain⟨v,r,rfl,_,h3⟩:=h.cY;exact bC.get (i:=i) h3 e
theorem bC.append:∀{us ws:List aj}{vs xs:List V},bC K ρ H us vs->bC K ρ H ws xs->bC K ρ H (us++ws) (vs++xs)
 |[],_,vs,_,h,k=>by rw[h.gW];exact k
 |u::us,ws,vs,xs,h,k=>by obtain⟨v,r,rfl,h2,h3⟩:=h.cY;exact bC.cons h2 (h3.append k)
theorem bC.drop:∀(n:Nat){us:List aj}{vs:List V},bC K ρ H us vs->bC K ρ H (us.drop n) (vs.drop n)
 |0,_,_,h=>h
 |_+1,[],vs,h=>by rw[h.gW];exact bC.nil
 |n+1,u::us,vs,h=>by obtain⟨v,r,rfl,h2,h3⟩:=h.cY;exact bC.drop n h3
theorem bC.take:∀(n:Nat){us:List aj}{vs:List V},bC K ρ H us vs->bC K ρ H (us.take n) (vs.take n)
 |0,_,_,_=>bC.nil
 |_+1,[],vs,h=>by rw[h.gW];exact bC.nil
 |n+1,u::us,vs,h=>by obtain⟨v,r,rfl,h2,h3⟩:=h.cY;exact bC.cons h2 (bC.take n h3)
theorem bC.set{u:aj}{v:V}(hu:Rl K ρ H u v):∀(n:Nat){us:List aj}{vs:List V},bC K ρ H us vs->bC K ρ H (us.set n u) (vs.set n v)
 |_,[],vs,h=>by rw[h.gW];exact bC.nil
 |0,w::us,vs,h=>by obtain⟨x,r,rfl,h2,h3⟩:=h.cY;exact bC.cons hu h3
 |n+1,w::us,vs,h=>by obtain⟨x,r,rfl,h2,h3⟩:=h.cY;exact bC.cons h2 (bC.set hu n h3)
theorem bC.one{u:aj}{v:V}(h:Rl K ρ H u v):bC K ρ H [u] [v]:=bC.cons h bC.nil
theorem bC.C_{u:aj}{vs:List V}(h:bC K ρ H [u] vs):∃v,vs=[v]/\Rl K ρ H u v:=by obtain⟨v,r,rfl,h2,h3⟩:=h.cY;rw[h3.gW];exact⟨v,rfl,h2⟩
theorem bC.S9{u w:aj}{vs:List V}(h:bC K ρ H [u,w] vs):∃v x,vs=[v,x]/\Rl K ρ H u v/\Rl K ρ H w x:=by obtain⟨v,r,rfl,h2,h3⟩:=h.cY;obtain⟨x,rfl,h4⟩:=h3.C_;exact⟨v,x,rfl,h2,h4⟩
theorem bC.ints:∀(ns:_h),bC K ρ H (ns.map aj.int) (ns.map V.int)
 |[]=>bC.nil
 |n::ns=>bC.cons (by unfold Rl;rfl) (bC.ints ns)
theorem Rl.dh{i:Int}{v:V}(h:Rl K ρ H (.int i) v):v=.int i:=by unfold Rl at h;exact h
theorem Rl.xZ{b:Bool}{v:V}(h:Rl K ρ H (.bl b) v):v=.bl b:=by unfold Rl at h;exact h
theorem Rl.oo{v:V}(h:Rl K ρ H (.str x) v):v=.str x:=by unfold Rl at h;exact h
theorem Rl.oq{v:V}(h:Rl K ρ H .dj v):v=.dj:=by unfold Rl at h;exact h
theorem Rl.UQ{us:List aj}{v:V}(h:Rl K ρ H (.tup us) v):∃a vs,v=.ref a/\H a=some (.tup vs)/\bC K ρ H us vs:=by unfold Rl at h;exact h
theorem Rl.jL{us:List aj}{v:V}(h:Rl K ρ H (.tup us) v):∃a vs,v=.ref a/\pZ K H a vs/\bC K ρ H us vs:=let⟨a,vs,h1,h2,h3⟩:=h.UQ;⟨a,vs,h1,pZ.of h2,h3⟩
theorem Rl.mt_{us:List aj}{v:V}(h:Rl K ρ H (.mt us) v):∃a vs,v=.ref a/\pZ K H a vs/\bC K ρ H us vs:=by unfold Rl at h;exact h
theorem Rl.abF{us:List aj}{a:_o}{vs:List V}(h:pZ K H a vs)(r:bC K ρ H us vs):Rl K ρ H (.mt us) (.ref a):=by unfold Rl;exact⟨a,vs,rfl,h,r⟩
theorem Rl.fU{n:Nat}{v:V}(h:Rl K ρ H (.loc n) v):∃a,v=.ref a/\ρ[n]?=some a:=by unfold Rl at h;exact h
theorem Rl.mkInt(i:Int):Rl K ρ H (.int i) (.int i):=by unfold Rl;rfl
theorem Rl.IL(b:Bool):Rl K ρ H (.bl b) (.bl b):=by unfold Rl;rfl
theorem Rl.mkStr(x:Str):Rl K ρ H (.str x) (.str x):=by unfold Rl;rfl
theorem Rl.By:Rl K ρ H .dj .dj:=by unfold Rl;rfl
theorem Rl.yK{us:List aj}{a:_o}{vs:List V}(h:H a=some (.tup vs))(r:bC K ρ H us vs):Rl K ρ H (.tup us) (.ref a):=by unfold Rl;exact⟨a,vs,rfl,h,r⟩
theorem Rl.IM{n:Nat}{a:_o}(h:ρ[n]?=some a):Rl K ρ H (.loc n) (.ref a):=by unfold Rl;exact⟨a,rfl,h⟩
end
def kn(K:_g)(ρ:_k)(H:Hp)(aW:List (κ×aj))(jo:List (κ×V)):Prop:=aW.map (·.1)=jo.map (·.1)/\bC K ρ H (aW.map (·.2)) (jo.map (·.2))
def nZ:Option aZ->Bool
 |some (.mod _)=>true
 |_=>false
def abG(K:_g)(a:_o)(vs:List V):Prop:=∃(o:Obj)(aN:Array _m)(n:Nat),K.lookup a=some o/\o.cls=.type "list" /\ o.dict=none/\o.data=.seq aN n/\aN.size<=sizeLine/\bx vs aN.toList
def jq(K:_g)(ρ:_k)(H:Hp):aZ->_o->Prop
 |.lst us,a=>∃vs,H a=some (.lst vs)/\bC K ρ H us vs
 |.QB us,a=>∃o vs,H a=some (.lX o (.lst vs))/\bC K ρ H us vs
 |.mod us,a=>∃vs,abG K a vs/\bC K ρ H us vs
 |.dK aW,a=>∃jo,H a=some (.dK jo)/\kn K ρ H aW jo
 |.dT aW,a=>∃jo,H a=some (.dT jo)/\kn K ρ H aW jo
 |.fd aW,a=>∃o jo,H a=some (.lX o (.dK jo))/\kn K ρ H aW jo
 |.tab x l c q,a=>(∃cd,W.tabIn K x=some (cd,a))/\Tab H a l c q
 |.ins c fs,a=>∃C dx gs,H a=some (.ins C dx gs)/\W.nsIn K mainGlobals c=some (some (.ref C))/\kn K ρ H fs gs
structure SR(K:_g)(ρ:_k)(st:af)(H:Hp):Prop where
 len:ρ.length=st.length
 nd:∀(n m:Nat)a,ρ[n]?=some a->ρ[m]?=some a->nZ st[n]?=false->nZ st[m]?=false->n=m
 cell:∀(n:Nat)c a,st[n]?=some c->ρ[n]?=some a->jq K ρ H c a
theorem aU{l:List α}{n:Nat}{x:α}(h:l[n]?=some x):n<l.length:=by grind
section
variable{K:_g}{st:af}
theorem jq.there{c:aZ}{a:_o}(h:jq K ρ H c a)(hn:nZ (some c)=false):∃o,H a=some o/\∀xs,o≠.tup xs:=by
 cases c with
 |lst us=>obtain⟨vs,h,_⟩:=h;exact⟨_,h,λxs e=>by cases e⟩
 |QB us=>obtain⟨o,vs,h,_⟩:=h;exact⟨_,h,λxs e=>by cases e⟩
 |fd us=>obtain⟨o,vs,h,_⟩:=h;exact⟨_,h,λxs e=>by cases e⟩
 |mod us=>cases hn
 |dK aW=>obtain⟨vs,h,_⟩:=h;exact⟨_,h,λxs e=>by cases e⟩
 |dT aW=>obtain⟨vs,h,_⟩:=h;exact⟨_,h,λxs e=>by cases e⟩
 |tab x l c q=>rcases h.2 with h|⟨_,_,_,_,h,_⟩<;>exact⟨_,h,λxs e=>by cases e⟩
 |ins c fs=>obtain⟨_,_,_,h,_⟩:=h;exact⟨_,h,λxs e=>by cases e⟩
theorem jq.mono{c:aZ}{a:_o}(h:jq K ρ H c a)(e:aX ρ H ρ' H')(ha:nZ (some c)=true\/H' a=H a):jq K ρ' H' c a:=by
 cases c with
 |mod us=>obtain⟨vs,h,r⟩:=h;exact⟨vs,h,bC.mono e _ _ r⟩
 |lst us=>rcases ha with ha|ha<;>first|cases ha;done|(obtain⟨vs,h,r⟩:=h;exact⟨vs,ha.trans h,bC.mono e _ _ r⟩)
 |QB us=>rcases ha with ha|ha<;>first|cases ha;done|(obtain⟨o,vs,h,r⟩:=h;exact⟨o,vs,ha.trans h,bC.mono e _ _ r⟩)
 |dK aW=>rcases ha with ha|ha<;>first|cases ha;done|(obtain⟨vs,h,r⟩:=h;exact⟨vs,ha.trans h,r.1,bC.mono e _ _ r.2⟩)
 |dT aW=>rcases ha with ha|ha<;>first|cases ha;done|(obtain⟨vs,h,r⟩:=h;exact⟨vs,ha.trans h,r.1,bC.mono e _ _ r.2⟩)
 |fd aW=>rcases ha with ha|ha<;>first|cases ha;done|(obtain⟨o,vs,h,r⟩:=h;exact⟨o,vs,ha.trans h,r.1,bC.mono e _ _ r.2⟩)
 |ins c fs=>rcases ha with ha|ha<;>first|cases ha;done|(obtain⟨C,dx,gs,h,hn,r⟩:=h;exact⟨C,dx,gs,ha.trans h,hn,r.1,bC.mono e _ _ r.2⟩)
 |tab x l c q=>
  refine⟨h.1,?_⟩;rcases ha with ha|ha
  .cases ha
  .rcases h.2 with h|⟨c',oc,vs,t,h,h2,h3⟩
   .exact .inl (ha.trans h)
   .exact .inr ⟨c',oc,vs,t,ha.trans h,e.lX _ _ _ h2,h3⟩
theorem jq.grow{c:aZ}{a:_o}(h:jq K ρ H c a)(e:aX ρ H ρ' H')(s:sF H H'):jq K ρ' H' c a:=by
 cases z:nZ (some c) with
 |true=>exact h.mono e (.inl z)
 |false=>
  obtain⟨o,ho,_⟩:=h.there z;exact h.mono e (.inr (by rw[ho];exact s _ _ ho))
theorem SR.there(s:SR K ρ st H){n:Nat}{a:_o}(h:ρ[n]?=some a):∃c,st[n]?=some c/\jq K ρ H c a:=by
 have hn:=aU h;have Pe:n<st.length:=by rw[<-s.len];exact hn
 exact⟨st[n],Vk Pe,s.cell n _ a (Vk Pe) h⟩
theorem SR.addr(s:SR K ρ st H){n:Nat}{c:aZ}(h:st[n]?=some c):∃a,ρ[n]?=some a/\jq K ρ H c a:=by
 have hn:=aU h;have Pe:n<ρ.length:=by rw[s.len];exact hn
 exact⟨ρ[n],Vk Pe,s.cell n c _ h (Vk Pe)⟩
theorem SR.grow(s:SR K ρ st H)(e:sF H H'):SR K ρ st H':=
 ⟨s.len,s.nd,λn c a h1 h2=>(s.cell n c a h1 h2).grow (aX.same e) e⟩
theorem SR.Oy(s:SR K ρ st H){p:_o}(hp:H p=none){n:Nat}(h:ρ[n]?=some p)(hm:nZ st[n]?=false):False:=by obtain⟨c,hc,k⟩:=s.there h;rw[hc]at hm;obtain⟨o,ho,_⟩:=k.there hm;rw[hp]at ho;cases ho
theorem fJ{p:_o}{o:HO}(hp:H p=none):sF H (upd H p o):=sF.upd (sF.refl H) hp
theorem SR.alloc(s:SR K ρ st H){p:_o}{o:HO}{c:aZ}(hp:H p=none)(k:jq K (ρ++[p]) (upd H p o) c p):SR K (ρ++[p]) (st++[c]) (upd H p o):=by
 have e:sF H (upd H p o):=fJ hp;have at_:∀(n:Nat)(a:_o),(ρ++[p])[n]?=some a->(n<st.length/\ρ[n]?=some a/\(st++[c])[n]?=st[n]?)\/(n=st.length/\a=p/\(st++[c])[n]?=some c):=by
  intro n a h;rcases ZZ n st.length with q|q|q
  .rw[V3 (by rw[s.len];exact q)]at h;exact .inl ⟨q,h,V3 q⟩
  .subst q;rw[V2 (by rw[s.len];exact Vt _),s.len,W3]at h;cases h;refine .inr ⟨rfl,rfl,?_⟩;rw[V2 (Vt _),W3];rfl
  .rw[Wa (by rw[Vj,VO,s.len];lia)]at h;cases h
 refine⟨by rw[Vj,Vj,s.len];rfl,λn m a h1 h2 m1 m2=>?_,λn c' a h1 h2=>?_⟩
 .rcases at_ n a h1 with⟨q1,q2,q3⟩|⟨q1,q2,q3⟩<;>rcases at_ m a h2 with⟨r1,r2,r3⟩|⟨r1,r2,r3⟩
  .rw[q3]at m1;rw[r3]at m2;exact s.nd n m a q2 r2 m1 m2
  .subst r2;rw[q3]at m1;exact(s.Oy hp q2 m1).elim
  .subst q2;rw[r3]at m2;exact(s.Oy hp r2 m2).elim
  .rw[q1,r1]
 .rcases at_ n a h2 with⟨q1,q2,q3⟩|⟨q1,q2,q3⟩
  .rw[q3]at h1;exact(s.cell n c' a h1 q2).grow (aX.snoc p e) e
  .rw[q3]at h1;cases h1;subst q2;exact k
theorem aX.put{a:_o}{o o':HO}(h:H a=some o)(h1:∀xs,o≠.tup xs)(h2:∀x u,o≠.lX x u):aX ρ H ρ (upd H a o'):=by
 refine⟨Ys ρ,λb xs e=>?_,λb x u e=>?_⟩
 .rw[aS (λz=>?_)]
  .exact e
  .subst z;rw[h]at e;exact h1 _ (VP e)
 .rw[aS (λz=>?_)]
  .exact e
  .subst z;rw[h]at e;exact h2 _ _ (VP e)
theorem SR.set(s:SR K ρ st H){n:Nat}{a:_o}{o o':HO}{c c':aZ}(h:st[n]?=some c)(hc:nZ (some c)=false)(fi:nZ (some c')=false)(ha:ρ[n]?=some a)(ho:H a=some o)(h1:∀xs,o≠.tup xs)(h2:∀x u,o≠.lX x u)(k:jq K ρ (upd H a o') c' a):SR K ρ (st.set n c') (upd H a o'):=by
 have hn:n<st.length:=aU h;have at_:∀(m:Nat),nZ (st.set n c')[m]?=nZ st[m]?:=λm=>by
  by_cases z:m=n
  .subst z;rw[WV hn,h,hc,fi]
  .rw[Xe (λy=>z y.symm)]
 refine⟨by rw[Ws];exact s.len,λi m b q1 q2 m1 m2=>s.nd i m b q1 q2 (by rw[<-at_];exact m1) (by rw[<-at_];exact m2),λm d b q1 q2=>?_⟩;by_cases z:m=n
 .subst z;rw[ha]at q2;cases q2;rw[WV hn]at q1;cases q1;exact k
 .rw[Xe (λy=>z y.symm)]at q1;have kb:=s.cell m d b q1 q2;cases zm:nZ (some d) with
  |true=>exact kb.mono (aX.put ho h1 h2) (.inl zm)
  |false=>
   have hb:b≠a:=λy=>z (s.nd m n a (by rw[<-y];exact q2) ha (by rw[q1];exact zm) (by rw[h];exact hc));exact kb.mono (aX.put ho h1 h2) (.inr (aS hb))
end
def IP(W:Wo)(ρ:_k)(H:Hp)(u:aj)(v:V):Prop:=match u with
 |.exc c=>∃a oe C,v=.ref a/\(a,oe)∈W.pn/\W.mg c=some (.ref C)/\oe.cls=.ref C
 |.fn L u=>∃f c c' cv,v=.ref f/\EF L H f c c' cv/\Rl W.K ρ H u cv
 |u=>Rl W.K ρ H u v
theorem IP.mono{W:Wo}{u:aj}{v:V}(h:IP W ρ H u v)(e:aX ρ H ρ' H'):IP W ρ' H' u v:=by
 cases u with
 |exc c=>exact h
 |fn L u=>obtain⟨f,c,c',cv,h1,C,r⟩:=h;exact⟨f,c,c',cv,h1,C.mono (λb o u q=>e.lX b o u q),Rl.mono e _ _ r⟩
 |_=>exact Rl.mono e _ _ h
theorem IP.of{W:Wo}{u:aj}{v:V}(h:Rl W.K ρ H u v):IP W ρ H u v:=by
 cases u with
 |exc c=>unfold Rl at h;exact h.elim
 |fn L u=>unfold Rl at h;exact h.elim
 |_=>exact h
structure RS(W:Wo)(ρ:_k)(H:Hp)(μ:Env)(σ:St):Prop where
 len:μ.length=σ.length
 at_:∀(i:Nat)u,μ[i]?=some (some u)->∃v,σ[i]?=some (some v)/\IP W ρ H u v
section
variable{W:Wo}{μ:Env}
theorem RS.mono(r:RS W ρ H μ σ)(e:aX ρ H ρ' H'):RS W ρ' H' μ σ:=⟨r.len,λi u h=>let⟨v,h1,h2⟩:=r.at_ i u h;⟨v,h1,h2.mono e⟩⟩
theorem RS.abH(r:RS W ρ H μ σ)(i:Nat){u:aj}{v:V}(h:IP W ρ H u v):RS W ρ H (μ.set i (some u)) (σ.set i (some v)):=by
 refine⟨by rw[Ws,Ws];exact r.len,λj w e=>?_⟩;by_cases z:j=i
 .subst z;have hj:=aU e;rw[Ws]at hj;rw[WV hj]at e;cases e;exact⟨v,WV (by rw[<-r.len];exact hj),h⟩
 .rw[Xe (λy=>z y.symm)]at e⊢;exact r.at_ j w e
theorem RS.set(r:RS W ρ H μ σ)(i:Nat){u:aj}{v:V}(h:Rl W.K ρ H u v):RS W ρ H (μ.set i (some u)) (σ.set i (some v)):=r.abH i (IP.of h)
end
abbrev ME:=Env->af->fu aj
abbrev MT:=Env->af->fu Bool
abbrev MA:=Env->af->fu (List aj)
abbrev MB:=Env->af->fI
def wR(W:Wo)(E:XK)(R:_k->Hp->α->β->Prop)(ρ:_k)(H:Hp)(Q:β->Hp->Prop):fu α->Prop
 |.ok u aI=>∀ρ' H' v,aX ρ H ρ' H'->SR W.K ρ' aI H'->R ρ' H' u v->Q v H'
 |.err c aI=>∃C,W.mg c=some (.ref C)/\∀ρ' H',aX ρ H ρ' H'->SR W.K ρ' aI H'->E (.ref C) none H'
 |.bad=>False
theorem wR.mono{W:Wo}{R:_k->Hp->α->β->Prop}{Q:β->Hp->Prop}{r:fu α}(h:wR W E R ρ H Q r)(e:aX ρ H ρ' H'):wR W E R ρ' H' Q r:=by
 cases r with
 |ok u st=>exact λρ2 H2 v e2 s r=>h ρ2 H2 v (e.trans e2) s r
 |err c st=>obtain⟨C,h1,h2⟩:=h;exact⟨C,h1,λρ2 H2 e2 s=>h2 ρ2 H2 (e.trans e2) s⟩
 |bad=>exact h
theorem wR.pn{K:_g}{mg:_d}{pn pn':_e}{R:_k->Hp->α->β->Prop}{Q:β->Hp->Prop}{r:fu α}(h:wR ⟨K,mg,pn⟩ E R ρ H Q r):wR ⟨K,mg,pn'⟩ E R ρ H Q r:=by cases r<;>exact h
def tG(W:Wo)(E:XK)(R:_k->Hp->α->β->Prop)(m:Env->af->fu α):St->Hp->(β->Hp->Prop)->Prop:=
 λσ H Q=>∃μ ρ st,RS W ρ H μ σ/\SR W.K ρ st H/\wR W E R ρ H Q (m μ st)
abbrev RB:_k->Hp->Bool->Bool->Prop:=λ_ _ b c=>c=b
abbrev tE(X:Cx)(E:XK)(m:ME):TE:=tG (wo X) E (Rl X.K) m
abbrev tT(X:Cx)(E:XK)(m:MT):TT:=tG (wo X) E RB m
abbrev tL(X:Cx)(E:XK)(m:MA):TA:=tG (wo X) E (bC X.K) m
theorem go{γ δ:Type}{W:Wo}{R1:_k->Hp->α->β->Prop}{R2:_k->Hp->γ->δ->Prop}{m:Env->af->fu α}{k:α->af->fu γ}{Q:δ->Hp->Prop}{Q':β->Hp->Prop}(μ:Env)(ρ:_k)(st:af)(rs:RS W ρ H μ σ)(sr:SR W.K ρ st H)(h:wR W E R2 ρ H Q ((m μ st).bind k))(c:∀u st1 ρ1 H1 x,aX ρ H ρ1 H1->SR W.K ρ1 st1 H1->R1 ρ1 H1 u x->wR W E R2 ρ1 H1 Q (k u st1)->Q' x H1):tG W E R1 m σ H Q':=by
 refine⟨μ,ρ,st,rs,sr,?_⟩;cases e:m μ st with
 |ok u st1=>
  rw[e]at h;intro ρ1 H1 x e1 dM r1;exact c u st1 ρ1 H1 x e1 dM r1 (wR.mono h e1)
 |err c st1=>rw[e]at h;exact h
 |bad=>rw[e]at h;exact h
theorem PE.imp{e:Expr}{t t':TE}(h:PE X e t)(k:∀σ H Q,t' σ H Q->t σ H Q):PE X e t':=λae s σ H Q I q=>h ae s σ H Q I (k σ H Q q)
theorem PT.imp{e:Expr}{t t':TT}(h:PT X e t)(k:∀σ H Q,t' σ H Q->t σ H Q):PT X e t':=λae s σ H Q I q=>h ae s σ H Q I (k σ H Q q)
theorem PW.imp{e:Expr}{t t':TT}(h:PW X e t)(k:∀σ H Q,t' σ H Q->t σ H Q):PW X e t':=λw ae s σ H Q I q=>h w ae s σ H Q I (k σ H Q q)
theorem PA.imp{e:List Expr}{t t':TA}(h:PA X e t)(k:∀σ H Q,t' σ H Q->t σ H Q):PA X e t':=λp ae s σ H Q I q=>h p ae s σ H Q I (k σ H Q q)
theorem PS.imp{e:Stmt}{t t':TS}(h:PS X e t)(k:∀D σ H,t' D σ H->t D σ H):PS X e t':=λae s σ H D I q=>h ae s σ H D I (k D σ H q)
theorem pY.imp{e:List Stmt}{t t':TS}(h:pY X e t)(k:∀D σ H,t' D σ H->t D σ H):pY X e t':=λae s σ H D I q=>h ae s σ H D I (k D σ H q)
theorem PG.imp{e:Expr}{t t':TG}(h:PG X e t)(k:∀v σ H Q,t' v σ H Q->t v σ H Q):PG X e t':=λae s σ H v u Q I r q=>h ae s σ H v u Q I r (k v σ H Q q)
theorem gJ.imp{f:_m->_m->Sem _m}{t t':R2}(h:gJ X f t)(k:∀x y H Q,t' x y H Q->t x y H Q):gJ X f t':=λae s σ H x y v u Q I rx ry q=>h ae s σ H x y v u Q I rx ry (k x y H Q q)
theorem dE.imp{f:_m}{t t':List V->Hp->VK->Prop}(h:dE X f t)(k:∀xs H Q,t' xs H Q->t xs H Q):dE X f t':=λae s σ H xs us Q I r q=>h ae s σ H xs us Q I r (k xs H Q q)
theorem CB.imp{t t':R2}(h:CB X t)(k:∀x y H Q,t' x y H Q->t x y H Q):CB X t':=λva sl ae s σ H x y v u Q I rx ry q e=>h va sl ae s σ H x y v u Q I rx ry (k x y H Q q) e
def isX:aj->Bool
 |.exc _=>true
 |.fn _ _=>true
 |_=>false
def jA(i:Nat):ME:=λμ st=>match μ[i]? with
 |some (some v)=>if isX v=true then .bad else .ok v st
 |_=>.bad
theorem IP.un{W:Wo}{u:aj}{v:V}(h:IP W ρ H u v)(n:¬ isX u=true):Rl W.K ρ H u v:=by
 cases u with
 |exc c=>exact absurd rfl n
 |fn L u=>exact absurd rfl n
 |_=>exact h
def mC(v:aj):ME:=λ_ st=>.ok v st
section
variable{pos:Pos}
theorem C!(i:Nat)(hN:X.N[i]?=some x:=by rfl)(hv:Tw X.env.scope x:=by left)(hd:(x==("__debug__":Str))=false:=by decide)(CI:(x==("__classdict__":Str))=false:=by decide):PE X (.Name x pos) (tE X E (jA i)):=by
 refine PE.imp (Pf hN hv hd CI) ?_;rintro σ H Q ⟨μ,ρ,st,rs,sr,h⟩;unfold jA at h;split at h
 .rename_i v e;obtain⟨w,e',r⟩:=rs.at_ i v e;split at h
  .exact h.elim
  .rename_i n;exact⟨w,e',h ρ H w (aX.refl _ _) sr (r.un n)⟩
 .exact h.elim
theorem Bz{e:Expr}{v:V}{c:aj}(h:PE X e (tC v))(r:∀ρ H,Rl X.K ρ H c v):PE X e (tE X E (mC c)):=by refine PE.imp h ?_;rintro σ H Q ⟨μ,ρ,st,rs,sr,h⟩;exact h ρ H v (aX.refl _ _) sr (r ρ H)
theorem C?{i j}:PE X (.Constant (.int i) j pos) (tE X E (mC (.int i))):=Bz Pg λ_ _=>Rl.mkInt i
theorem UR{b j}:PE X (.Constant (.bool b) j pos) (tE X E (mC (.bl b))):=Bz TF λ_ _=>Rl.IL b
theorem QC{j}:PE X (.Constant .none j pos) (tE X E (mC .dj)):=Bz Ph λ_ _=>Rl.By
theorem QD{x j}:PE X (.Constant (.str x) j pos) (tE X E (mC (.str x))):=Bz Pj λ_ _=>Rl.mkStr x
structure Glob(K:_g)(mg:_d)(x:Str)(c:aj):Prop where
 at_:∃(u:_m)(v:V),mg x=some u/\bW v u/\∀ρ H,Rl K ρ H c v
theorem EI{c:aj}(hg:Gl X x)(h:Glob X.K X.mg x c)(hd:(x==("__debug__":Str))=false:=by decide):PE X (.Name x pos) (tE X E (mC c)):=by obtain⟨u,v,h1,h2,h3⟩:=h.at_;exact Bz (LG hg h1 h2 hd) h3
end
abbrev F2:=aj->aj->af->fu aj
def rM(W:Wo)(E:XK)(f:F2):R2:=λx y H Q=>∃ρ st u w,SR W.K ρ st H/\Rl W.K ρ H u x/\Rl W.K ρ H w y/\wR W E (Rl W.K) ρ H Q (f u w st)
def ag(f:F2)(a b:ME):ME:=λμ st=>(a μ st).bind λx st1=>(b μ st1).bind λy cJ=>f x y cJ
section
variable{pos:Pos}{a b c:Expr}{ma mb mc:ME}{f g:F2}
theorem qQ(h:tE X E (ag f ma mb) σ H Q):SX (rM (wo X) E f) (tE X E ma) (tE X E mb) σ H Q:=by obtain⟨μ,ρ,st,rs,sr,h⟩:=h;refine go μ ρ st rs sr h λu st1 ρ1 H1 x e1 dM r1 h1=>?_;refine go μ ρ1 st1 (rs.mono e1) dM h1 λw cJ ρ2 H2 y e2 qR r2 h2=>?_;exact⟨ρ2,cJ,u,w,qR,Rl.mono e2 _ _ r1,r2,h2⟩
theorem sG{op:Operator}(ho:gJ X (binaryOp op) (rM (wo X) E f))(ha:PE X a (tE X E ma))(hb:PE X b (tE X E mb)):PE X (.BinOp a op b pos) (tE X E (ag f ma mb)):=
 PE.imp (T6 ho ha hb) λ_ _ _ h=>qQ h
theorem IQ(ho:gJ X (compareOp op) (rM (wo X) E f))(ha:PE X a (tE X E ma))(hb:PE X b (tE X E mb))(hm:behindInMarks op b=false:=by first|exact H9 _|(with_unfolding_all rfl)):PE X (.Compare a [op] [b] pos) (tE X E (ag f ma mb)):=
 PE.imp (L4 ho ha hb hm) λ_ _ _ h=>qQ h
def gA(m:ME):MT:=λμ st=>(m μ st).bind λv aI=>match v with
 |.bl b=>.ok b aI
 |_=>.bad
theorem BA{m:ME}{Q:Bool->Hp->Prop}(h:tT X E (gA m) σ H Q):tE X E m σ H λx H'=>∃k,x=.bl k/\Q k H':=by
 obtain⟨μ,ρ,st,rs,sr,h⟩:=h;refine go μ ρ st rs sr h λu st1 ρ1 H1 x e1 dM r1 h1=>?_;cases u with
 |bl b=>exact⟨b,r1.xZ,h1 ρ1 H1 b (aX.refl _ _) dM rfl⟩
 |_=>exact h1.elim
theorem sH(ho:gJ X (compareOp op) (rM (wo X) E f))(ha:PE X a (tE X E ma))(hb:PE X b (tE X E mb))(hm:behindInMarks op b=false:=by first|exact H9 _|(with_unfolding_all rfl)):PT X (.Compare a [op] [b] pos) (tT X E (gA (ag f ma mb))):=
 PT.imp (L5 ho ha hb hm) λσ H Q h=>by show SX (rM (wo X) E f) (tE X E ma) (tE X E mb) σ H _;exact qQ (BA h)
theorem QE{m:ME}(h:PE X a (tE X E m))(he:∀whole,isTrue a X.env whole=(do let v <- whole;standAt a.pos;holding [v] (truthy v)):=by intro _;rfl):PT X a (tT X E (gA m)):=
 PT.imp (Pk h he) λσ H Q h=>BA h
def abI(f g:F2)(a b c:ME):ME:=λμ st=>(a μ st).bind λx st1=>(b μ st1).bind λy cJ=>(f x y cJ).bind λz oz=>match z with
 |.bl true=>(c μ oz).bind λw qz=>g y w qz
 |.bl false=>.ok (.bl false) oz
 |_=>.bad
def GD(a b:ME):ME:=λμ st=>(a μ st).bind λx st1=>match x with
 |.bl true=>b μ st1
 |.bl false=>.ok (.bl false) st1
 |_=>.bad
def mOr(a b:ME):ME:=λμ st=>(a μ st).bind λx st1=>match x with
 |.bl true=>.ok (.bl true) st1
 |.bl false=>b μ st1
 |_=>.bad
def US(a:ME):ME:=λμ st=>(a μ st).bind λx st1=>match x with
 |.bl b=>.ok (.bl (!b)) st1
 |_=>.bad
def yL(a b:MT):MT:=λμ st=>(a μ st).bind λx st1=>match x with
 |true=>b μ st1
 |false=>.ok false st1
def Ae(a b:MT):MT:=λμ st=>(a μ st).bind λx st1=>match x with
 |true=>.ok true st1
 |false=>b μ st1
def EJ(a:MT):MT:=λμ st=>(a μ st).bind λx st1=>.ok (!x) st1
def Lo(t:MT)(a b:ME):ME:=λμ st=>(t μ st).bind λx st1=>match x with
 |true=>a μ st1
 |false=>b μ st1
variable{tA LI:MT}
theorem QF{op}{m:ME}(h:PE X a (tE X E m)):PE X (.BoolOp op [a] pos) (tE X E m):=Pp h
theorem QG(ha:PE X a (tE X E ma))(hb:PE X (.BoolOp .And (b::rest) pos) (tE X E mb)):PE X (.BoolOp .And (a::b::rest) pos) (tE X E (GD ma mb)):=by
 refine PE.imp (Pq ha hb) ?_;nofun;cases u with
 |bl k=>
  refine⟨k,r1.xZ,?_⟩;cases k with
  |true=>rw[Vv rfl];exact⟨μ,ρ1,st1,rs.mono e1,dM,h1⟩
  |false=>rw[VG VW];exact h1 ρ1 H1 _ (aX.refl _ _) dM (Rl.IL false)
 |_=>exact h1.elim
theorem UT(ha:PE X a (tE X E ma))(hb:PE X (.BoolOp .Or (b::rest) pos) (tE X E mb)):PE X (.BoolOp .Or (a::b::rest) pos) (tE X E (mOr ma mb)):=by
 refine PE.imp (TL ha hb) ?_;nofun;cases u with
 |bl k=>
  refine⟨k,r1.xZ,?_⟩;cases k with
  |true=>rw[Vv rfl];exact h1 ρ1 H1 _ (aX.refl _ _) dM (Rl.IL true)
  |false=>rw[VG VW];exact⟨μ,ρ1,st1,rs.mono e1,dM,h1⟩
 |_=>exact h1.elim
theorem QH(ha:PE X a (tE X E ma)):PE X (.UnaryOp .Not a pos) (tE X E (US ma)):=by
 refine PE.imp (Pr ha) ?_;nofun;cases u with
 |bl k=>exact⟨k,r1.xZ,h1 ρ1 H1 _ (aX.refl _ _) dM (Rl.IL _)⟩
 |_=>exact h1.elim
theorem Mz(ha:PT X a (tT X E tA)):PW X (.BoolOp .And [a] pos) (tT X E tA):=LJ ha
theorem QI(ha:PT X a (tT X E tA)):PW X (.BoolOp .Or [a] pos) (tT X E tA):=Pl ha
theorem QJ(ha:PT X a (tT X E tA))(hb:PW X (.BoolOp .And (b::rest) pos) (tT X E LI)):PW X (.BoolOp .And (a::b::rest) pos) (tT X E (yL tA LI)):=by
 refine PW.imp (Pn ha hb) ?_;rintro σ H Q ⟨μ,ρ,st,rs,sr,h⟩;refine go (R1:=RB) μ ρ st rs sr h λu st1 ρ1 H1 x e1 dM r1 h1=>?_;cases r1;cases u with
 |true=>rw[Vv rfl];exact⟨μ,ρ1,st1,rs.mono e1,dM,h1⟩
 |false=>rw[VG VW];exact h1 ρ1 H1 _ (aX.refl _ _) dM rfl
theorem UU(ha:PT X a (tT X E tA))(hb:PW X (.BoolOp .Or (b::rest) pos) (tT X E LI)):PW X (.BoolOp .Or (a::b::rest) pos) (tT X E (Ae tA LI)):=by
 refine PW.imp (TH ha hb) ?_;rintro σ H Q ⟨μ,ρ,st,rs,sr,h⟩;refine go (R1:=RB) μ ρ st rs sr h λu st1 ρ1 H1 x e1 dM r1 h1=>?_;cases r1;cases u with
 |true=>rw[Vv rfl];exact h1 ρ1 H1 _ (aX.refl _ _) dM rfl
 |false=>rw[VG VW];exact⟨μ,ρ1,st1,rs.mono e1,dM,h1⟩
theorem abJ{e:Expr}{t:MT}(h:PW X e (tT X E t)):PT X e (tT X E t):=h.pt
theorem QK(ha:PT X a (tT X E tA)):PT X (.UnaryOp .Not a pos) (tT X E (EJ tA)):=by refine PT.imp (Po ha) ?_;rintro σ H Q ⟨μ,ρ,st,rs,sr,h⟩;refine go (R1:=RB) μ ρ st rs sr h λu st1 ρ1 H1 x e1 dM r1 h1=>?_;cases r1;exact h1 ρ1 H1 _ (aX.refl _ _) dM rfl
theorem UW(hc:PT X c (tT X E tA))(ha:PE X a (tE X E ma))(hb:PE X b (tE X E mb)):PE X (.IfExp c a b pos) (tE X E (Lo tA ma mb)):=by
 refine PE.imp (HS hc ha hb) ?_;rintro σ H Q ⟨μ,ρ,st,rs,sr,h⟩;refine go (R1:=RB) μ ρ st rs sr h λu st1 ρ1 H1 x e1 dM r1 h1=>?_;cases r1;cases u with
 |true=>rw[Vv rfl];exact⟨μ,ρ1,st1,rs.mono e1,dM,h1⟩
 |false=>rw[VG VW];exact⟨μ,ρ1,st1,rs.mono e1,dM,h1⟩
end
def ai:MA:=λ_ st=>.ok [] st
def aa(a:ME)(r:MA):MA:=λμ st=>(a μ st).bind λx st1=>(r μ st1).bind λxs cJ=>.ok (x::xs) cJ
abbrev bc: ME := jA 0
abbrev bT: ME := jA 1
abbrev d6: ME := jA 2
abbrev d!: ME := jA 3
abbrev fY: ME := jA 4
abbrev iU: ME := jA 5
abbrev jU: ME := jA 6
abbrev qc: ME := jA 7
abbrev GF: ME := jA 8
abbrev A_: ME := jA 9
abbrev cW: ME := mC (.int 0)
abbrev cm: ME := mC (.int 1)
abbrev yM: ME := mC (.int 2)
abbrev QL: ME := mC (.int 3)
abbrev UX: ME := mC (.int 4)
abbrev Oz: ME := mC (.int 5)
abbrev UY: ME := mC (.int 7)
abbrev fZ: ME := mC (.int 2147483647)
abbrev qs(x : Str): ME := mC (.str x)
abbrev qI(i : Int): Option aj := some (.int i)
abbrev qN(n : Nat): Option aj := some (.int n)
abbrev qS(x : Str): Option aj := some (.str x)
abbrev qL(n : Nat): Option aj := some (.loc n)
abbrev qn: Option aj := none
def gp(a:MA):ME:=λμ st=>(a μ st).bind λxs st1=>if xs.length<=sizeLine then .ok (.tup xs) st1 else .bad
def bB(a:MA):ME:=λμ st=>(a μ st).bind λxs st1=>if xs.length<=sizeLine then .ok (.loc st1.length) (st1++[.lst xs])else .bad
abbrev FN:=List aj->af->fu aj
def ao(f:FN)(a:MA):ME:=λμ st=>(a μ st).bind λxs st1=>f xs st1
def QM(W:Wo)(f:FN):Sp:=λvs H Q E=>∃us ρ st,bC W.K ρ H us vs/\SR W.K ρ st H/\wR W E (Rl W.K) ρ H Q (f us st)
def cM(W:Wo)(E:XK)(f:FN):List V->Hp->VK->Prop:=λxs H Q=>∃ρ st us,SR W.K ρ st H/\bC W.K ρ H us xs/\wR W E (Rl W.K) ρ H Q (f us st)
section
variable{pos p:Pos}{e:Expr}{m:ME}{ms:MA}{f:FN}
theorem Dc:PA X [] (tL X E ai):=PA.imp CP λσ H Q⟨μ,ρ,st,rs,sr,h⟩=>h ρ H [] (aX.refl _ _) sr bC.nil
theorem vg(ha:PE X e (tE X E m))(hr:PA X es (tL X E ms))(hs:starEach (e::es) X.env=(false,eval e X.env)::starEach es X.env:=by rfl):PA X (e::es) (tL X E (aa m ms)):=by refine PA.imp (ve ha hr hs) ?_;nofun;refine go (R1:=bC X.K) μ ρ1 st1 (rs.mono e1) dM h1 λw cJ ρ2 H2 y e2 qR r2 h2=>?_;exact h2 ρ2 H2 _ (aX.refl _ _) qR (bC.cons (Rl.mono e2 _ _ r1) r2)
theorem IS{k}(h:PA X es (tL X E ms)):PE X (.Tuple es k pos) (tE X E (gp ms)):=by
 refine PE.imp (PZ h) ?_;rintro σ H Q ⟨μ,ρ,st,rs,sr,h⟩;refine go (R1:=bC X.K) μ ρ st rs sr h λus st1 ρ1 H1 xs e1 dM r1 h1=>?_;by_cases hz:us.length<=sizeLine
 .rw[Vv hz]at h1;refine⟨by rw[<-r1.length];exact hz,λp hp=>?_⟩;have s:=fJ (o:=.tup xs) hp;exact h1 ρ1 _ _ (aX.same s) (dM.grow s) (Rl.yK cC (bC.mono (aX.same s) _ _ r1))
 .rw[VG hz]at h1;exact h1.elim
theorem jf{K:_g}{st:af}{us:List aj}{xs:List V}(sr:SR K ρ st H)(r:bC K ρ H us xs){p:_o}(hp:H p=none):
  aX ρ H (ρ++[p]) (upd H p (.lst xs))/\SR K (ρ++[p]) (st++[.lst us]) (upd H p (.lst xs))/\Rl K (ρ++[p]) (upd H p (.lst xs)) (.loc st.length) (.ref p):=by
 have s:=fJ (o:=.lst xs) hp;refine⟨aX.snoc p s,sr.alloc hp ⟨xs,cC,bC.mono (aX.snoc p s) _ _ r⟩,Rl.IM ?_⟩;rw[<-sr.len,V2 (Vt _),W3];rfl
theorem QN(h:PA X es (tL X E ms)):PE X (.List es pos) (tE X E (bB ms)):=by
 refine PE.imp (P0 h) ?_;rintro σ H Q ⟨μ,ρ,st,rs,sr,h⟩;refine go (R1:=bC X.K) μ ρ st rs sr h λus st1 ρ1 H1 xs e1 dM r1 h1=>?_;by_cases hz:us.length<=sizeLine
 .rw[Vv hz]at h1;refine⟨by rw[<-r1.length];exact hz,λp hp=>?_⟩;obtain⟨a,b,c⟩:=jf dM r1 hp;exact h1 _ _ _ a b c
 .rw[VG hz]at h1;exact h1.elim
theorem MC{k:Nat}{fd:FuncData}{CX:H!}(F:vQ X.prog X.w X.K X.mg X.base CX k fa fd ps (QM ⟨X.K,X.mg,[]⟩ f))(hr:gK k X.A)(hg:Gl X x)(hm:X.mg x=some (.ref fa))(hk:W.keepIn X.K (.ref fa)=true)(hb:Binds X.K fd ps [])(hx:Passes CX X E)(ha:PA X (e::es) (tL X E ms))(Bk:(x==("__debug__":Str))=false:=by decide)(he:starEach (e::es) X.env=(false,eval e X.env)::starEach es X.env:=by rfl)(tZ:(backTo pos (starEach es X.env)).any (·.1)=false:=by rfl):
  PE X (.Call (.Name x p) (e::es) [] pos) (tE X E (ao f ms)):=by
 refine PE.imp (L8 F hr hg hm hk hb .nil hx ha Bk he tZ) ?_;rintro σ H Q ⟨μ,ρ,st,rs,sr,h⟩;refine go (R1:=bC X.K) μ ρ st rs sr h λus st1 ρ1 H1 xs e1 dM r1 h1=>?_;rw[Wc];exact⟨us,ρ1,st1,r1,dM,wR.pn h1⟩
theorem lY{id:String}(hc:dE X (.builtin id) (cM (wo X) E f))(hg:Gl X x)(hm:X.mg x=none)(hv:bootBuiltins x=some (.builtin id))(ha:PA X (e::es) (tL X E ms))(hn:x ≠ "__name__":=by decide)(Bk:(x==("__debug__":Str))=false:=by decide)(he:starEach (e::es) X.env=(false,eval e X.env)::starEach es X.env:=by rfl)(tZ:(backTo pos (starEach es X.env)).any (·.1)=false:=by rfl):PE X (.Call (.Name x p) (e::es) [] pos) (tE X E (ao f ms)):=by refine PE.imp (Bm hc hg hm hv ha hn Bk he tZ) ?_;rintro σ H Q ⟨μ,ρ,st,rs,sr,h⟩;exact go (R1:=bC X.K) μ ρ st rs sr h λus st1 ρ1 H1 xs e1 dM r1 h1=>⟨ρ1,st1,us,dM,r1,h1⟩
theorem yN{T:String}(hc:dE X (.type T) (cM (wo X) E f))(hg:Gl X x)(hm:X.mg x=none)(hv:bootBuiltins x=some (.type T))(ha:PA X (e::es) (tL X E ms))(hn:x ≠ "__name__":=by decide)(Bk:(x==("__debug__":Str))=false:=by decide)(he:starEach (e::es) X.env=(false,eval e X.env)::starEach es X.env:=by rfl)(tZ:(backTo pos (starEach es X.env)).any (·.1)=false:=by rfl):PE X (.Call (.Name x p) (e::es) [] pos) (tE X E (ao f ms)):=by refine PE.imp (Gf hc hg hm hv ha hn Bk he tZ) ?_;rintro σ H Q ⟨μ,ρ,st,rs,sr,h⟩;exact go (R1:=bC X.K) μ ρ st rs sr h λus st1 ρ1 H1 xs e1 dM r1 h1=>⟨ρ1,st1,us,dM,r1,h1⟩
end
section
variable{pos:Pos}{a b:Expr}{ma mb:ME}{f:F2}
theorem UZ(hr:CB X (rM (wo X) E f))(ha:PE X a (tE X E ma))(hb:PE X b (tE X E mb))(hs:zW b:=by exact λ_ _=>rfl):PE X (.Subscript a b pos) (tE X E (ag f ma mb)):=
 PE.imp (Uj hr ha hb hs) λ_ _ _ h=>qQ h
end
def wS(W:Wo)(E:XK)(ρ:_k)(H:Hp)(D:Ends):fI->Prop
 |.nx μ st=>∀ρ' H' σ',aX ρ H ρ' H'->SR W.K ρ' st H'->RS W ρ' H' μ σ'->D.nx σ' H'
 |.rt v st=>∀ρ' H' x,aX ρ H ρ' H'->SR W.K ρ' st H'->Rl W.K ρ' H' v x->D.rt x H'
 |.bk μ st=>∀ρ' H' σ',aX ρ H ρ' H'->SR W.K ρ' st H'->RS W ρ' H' μ σ'->D.bk σ' H'
 |.ct μ st=>∀ρ' H' σ',aX ρ H ρ' H'->SR W.K ρ' st H'->RS W ρ' H' μ σ'->D.ct σ' H'
 |.er c _ st=>∃C,W.mg c=some (.ref C)/\∀ρ' H',aX ρ H ρ' H'->SR W.K ρ' st H'->E (.ref C) none H'
 |.bad=>False
theorem wS.mono{W:Wo}{D:Ends}{r:fI}(h:wS W E ρ H D r)(e:aX ρ H ρ' H'):wS W E ρ' H' D r:=by
 cases r with
 |nx μ st=>exact λρ2 H2 σ2 e2 s r=>h ρ2 H2 σ2 (e.trans e2) s r
 |rt v st=>exact λρ2 H2 x e2 s r=>h ρ2 H2 x (e.trans e2) s r
 |bk μ st=>exact λρ2 H2 σ2 e2 s r=>h ρ2 H2 σ2 (e.trans e2) s r
 |ct μ st=>exact λρ2 H2 σ2 e2 s r=>h ρ2 H2 σ2 (e.trans e2) s r
 |er c μ st=>obtain⟨C,h1,h2⟩:=h;exact⟨C,h1,λρ2 H2 e2 s=>h2 ρ2 H2 (e.trans e2) s⟩
 |bad=>exact h
def tS(X:Cx)(E:XK)(m:MB):TS:=λD σ H=>∃μ ρ st,RS (wo X) ρ H μ σ/\SR X.K ρ st H/\wS (wo X) E ρ H D (m μ st)
@[reducible] def fu.sb(r:fu α)(μ:Env)(k:α->af->fI):fI:=match r with
 |.ok a st=>k a st
 |.err c st=>.er c μ st
 |.bad=>.bad
theorem CF{W:Wo}{R1:_k->Hp->α->β->Prop}{m:Env->af->fu α}{k:α->af->fI}{D:Ends}{Q':β->Hp->Prop}(μ:Env)(ρ:_k)(st:af)(rs:RS W ρ H μ σ)(sr:SR W.K ρ st H)(h:wS W E ρ H D ((m μ st).sb μ k))(c:∀u st1 ρ1 H1 x,aX ρ H ρ1 H1->SR W.K ρ1 st1 H1->R1 ρ1 H1 u x->wS W E ρ1 H1 D (k u st1)->Q' x H1):tG W E R1 m σ H Q':=by
 refine⟨μ,ρ,st,rs,sr,?_⟩;cases e:m μ st with
 |ok u st1=>
  rw[e]at h;intro ρ1 H1 x e1 dM r1;exact c u st1 ρ1 H1 x e1 dM r1 (wS.mono h e1)
 |err c st1=>rw[e]at h;exact h
 |bad=>rw[e]at h;exact h
def fE:MB:=λμ st=>.nx μ st
def az(a b:MB):MB:=λμ st=>match a μ st with
 |.nx μ' aI=>b μ' aI
 |r=>r
def e_(m:ME):MB:=λμ st=>(m μ st).sb μ λ_ aI=>.nx μ aI
def bZ(m:ME):MB:=λμ st=>(m μ st).sb μ λv aI=>.rt v aI
def sv(t:MT)(a b:MB):MB:=λμ st=>(t μ st).sb μ λk aI=>match k with
 |true=>a μ aI
 |false=>b μ aI
def aK(i:Nat)(m:ME):MB:=λμ st=>(m μ st).sb μ λv aI=>.nx (μ.set i (some v)) aI
def oC(c:Str)(m:MA):MB:=λμ st=>(m μ st).sb μ λvs aI=>if vs.length<=sizeLine then .er c μ aI else .bad
section
variable{pos:Pos}{s1:Stmt}{rest:List Stmt}{e:Expr}{m:ME}{a b:MB}
theorem QO:pY X [] (tS X E fE):=pY.imp LK λD σ H⟨μ,ρ,st,rs,sr,h⟩=>h ρ H σ (aX.refl _ _) sr rs
theorem EK(h1:PS X s1 (tS X E a))(h2:pY X rest (tS X E b)):pY X (s1::rest) (tS X E (az a b)):=by
 refine pY.imp (HU h1 h2) ?_;rintro D σ H ⟨μ,ρ,st,rs,sr,h⟩;refine⟨μ,ρ,st,rs,sr,?_⟩;unfold az at h;cases e:a μ st with
 |nx μ' aI=>
  rw[e]at h;intro ρ1 H1 σ1 e1 dM S_;exact⟨μ',ρ1,aI,S_,dM,wS.mono h e1⟩
 |rt v aI=>rw[e]at h;exact h
 |bk μ' aI=>rw[e]at h;exact h
 |ct μ' aI=>rw[e]at h;exact h
 |er c μ' aI=>rw[e]at h;exact h
 |bad=>rw[e]at h;exact h
theorem IT(h1:PS X s1 (tS X E a)):pY X [s1] (tS X E a):=LL h1
theorem MD(he:PE X e (tE X E m))(hs:swapsWith e none pos.line X.env=pure false:=by rfl):PS X (.Expr e pos) (tS X E (e_ m)):=by refine PS.imp (LM he hs) ?_;rintro D σ H ⟨μ,ρ,st,rs,sr,h⟩;exact CF μ ρ st rs sr h λu st1 ρ1 H1 x e1 dM r1 h1=>h1 ρ1 H1 σ (aX.refl _ _) dM (rs.mono e1)
theorem QP(he:PE X e (tE X E m)):PS X (.Return (some e) pos) (tS X E (bZ m)):=by refine PS.imp (Pt he) ?_;rintro D σ H ⟨μ,ρ,st,rs,sr,h⟩;exact CF μ ρ st rs sr h λu st1 ρ1 H1 x e1 dM r1 h1=>h1 ρ1 H1 x (aX.refl _ _) dM r1
theorem U0{c:Expr}{sa sb:List Stmt}{t:MT}(hc:PT X c (tT X E t))(ha:pY X sa (tS X E a))(hb:pY X sb (tS X E b)):PS X (.If c sa sb pos) (tS X E (sv t a b)):=by
 refine PS.imp (TQ hc ha hb) ?_;rintro D σ H ⟨μ,ρ,st,rs,sr,h⟩;refine CF (R1:=RB) μ ρ st rs sr h λu st1 ρ1 H1 x e1 dM r1 h1=>?_;cases r1;cases u with
 |true=>rw[Vv rfl];exact⟨μ,ρ1,st1,rs.mono e1,dM,h1⟩
 |false=>rw[VG VW];exact⟨μ,ρ1,st1,rs.mono e1,dM,h1⟩
theorem BB{i:Nat}{D:Ends}(h:tS X E (aK i m) D σ H):LS (tE X E m) (Bh i) D σ H:=by obtain⟨μ,ρ,st,rs,sr,h⟩:=h;exact CF μ ρ st rs sr h λu st1 ρ1 H1 x e1 dM r1 h1=>h1 ρ1 H1 _ (aX.refl _ _) dM ((rs.mono e1).set i r1)
theorem QQ(i:Nat)(hN:X.N.Nodup)(he:PE X e (tE X E m))(hi:X.N[i]?=some x:=by rfl)(hx:Loc X.env.scope x:=by left)(hs:swapsWith e (some (.Name x pos')) pos.line X.env=pure false:=by rfl)(hf:X.fn x=true\/X.env.scope.names.lookup x=some .local:=by left):PS X (.Assign [.Name x pos'] e pos) (tS X E (aK i m)):=
 PS.imp (Pz hN hi hx he hs hf) λ_ _ _ h=>BB h
theorem IU{B C8:String}{bm:_i}{np:Pos}{ms:MA}(hX:Raises X E)(hc:X.calm=true)(hm:X.mg x=some (.ref C))(hq:W.excIn X.K C bm newId=true)(FB:ExcBaseFacts B newId C8 bm)(hg:Gl X x)(ha:PA X (e₀::es) (tL X E ms))(he:starEach (e₀::es) X.env=(false,eval e₀ X.env)::starEach es X.env:=by rfl)(tZ:(backTo cN (starEach es X.env)).any (·.1)=false:=by rfl)(hd:(x==("__debug__":Str))=false:=by decide):
  PS X (.Raise (some (.Call (.Name x np) (e₀::es) [] cN)) none pos) (tS X E (oC x ms)):=by
 refine PS.imp (II (E:=E) hX hc hm hq FB hg ha he tZ hd) ?_;rintro D σ H ⟨μ,ρ,st,rs,sr,h⟩;refine CF (R1:=bC X.K) μ ρ st rs sr h λus st1 ρ1 H1 xs e1 dM r1 h1=>?_;by_cases hz:us.length<=sizeLine
 .rw[Vv hz]at h1;obtain⟨C',q1,q2⟩:=h1;have e:C'=C:=by have:=q1.symm.trans hm;injection this with this;injection this
  subst e;exact⟨by rw[<-r1.length];exact hz,q2 ρ1 H1 (aX.refl _ _) dM⟩
 .rw[VG hz]at h1;exact h1.elim
end
def iH(np n:Nat)(body:MB):FN:=λus st=>if us.length=np then(match body (us.map some++List.replicate (n-np) none) st with
 |.nx _ aI=>.ok .dj aI
 |.rt v aI=>.ok v aI
 |.er c _ aI=>.err c aI
 |_=>.bad)else .bad
theorem RS.start{W:Wo}{us:List aj}{vs:List V}(r:bC W.K ρ H us vs):RS W ρ H (us.map some++List.replicate (N.length-us.length) none) (L2.start N vs):=by
 have hl:=r.length;refine⟨by simp[L2.start,hl],λi u e=>?_⟩;rcases Wx i us.length with q|q
 .rw[V3 (by rw[Vg];exact q),Vy]at e;have e':us[i]?=some u:=by
   cases z:us[i]? with
   |none=>rw[z]at e;cases e
   |some w=>rw[z]at e;exact WE _ (VP (VP e))
  obtain⟨v,h1,h2⟩:=r.get e';refine⟨v,?_,IP.of h2⟩;unfold L2.start;rw[V3 (by rw[Vg,<-hl];exact q),Vy,h1];rfl
 .rw[V2 (by rw[Vg];exact q)]at e;rw[W8]at e;split at e
  .cases e
  .cases e
section
variable{w:World}{K:_g}{mg:_d}
theorem IV{st:Stmt}{f:_o}{fd:FuncData}{k:Nat}{body:MB}(F:Im K x qual st f fd)(S:je N ps (bg st))
  (h:∀ (iS:_m) (A:_p) (outer:List PySem.Env) (s:_n) (H:Hp) (E:XK),gK k (A.deeper (envOfC qual (bg st) s.heap.objs.size f iS)) ->
   pY (jS (qP P w) P w K mg base N qual (bg st) f iS A outer s H E) (ff st) (tS (jS (qP P w) P w K mg base N qual (bg st) f iS A outer s H E) E body)):
  vQ P w K mg base (qP P w) (k+1) f fd ps (QM ⟨K,mg,[]⟩ (iH ps.length N.length body)):=by
 refine F.okX S (λvs H Q E q=>?_) (λiS A outer s H vs Q E hr q=>⟨_,h iS A outer s H E hr,?_⟩)
 .obtain⟨us,ρ,st,r,sr,q⟩:=q;by_cases hl:us.length=ps.length
  .rw[<-r.length];exact hl
  .unfold iH at q;rw[VG hl]at q;exact q.elim
 .obtain⟨us,ρ,aI,r,sr,q⟩:=q;unfold iH at q;by_cases hl:us.length=ps.length
  .rw[Vv hl,<-hl]at q;refine⟨_,ρ,aI,RS.start r,sr,?_⟩;revert q;cases body (us.map some++List.replicate (N.length-us.length) none) aI with
   |nx μ cJ=>exact λq ρ' H' σ' e s _=>q ρ' H' .dj e s Rl.By
   |rt v cJ=>exact λq=>q
   |er c μ cJ=>exact λq=>q
   |bk μ cJ=>exact λq=>q.elim
   |ct μ cJ=>exact λq=>q.elim
   |bad=>exact λq=>q.elim
  .rw[VG hl]at q;exact q.elim
end
def Sz(i:Int):Prop:=i.natAbs.log2<1000000
instance (i:Int):Decidable (Sz i):=inferInstanceAs (Decidable (_<_))
theorem Sz.big{i:Int}(h:Sz i):uF 1000001 i:=by show _<_;have h1:i.natAbs<2 ^ (i.natAbs.log2+1):=Z9;exact VR h1 (Yk ⋯ (by have:i.natAbs.log2<1000000:=h;lia))
theorem Sz.of{k:Nat}{i:Int}(h:uF k i)(hk:k<=1000000):Sz i:=by
 show i.natAbs.log2<1000000;have h':i.natAbs<2 ^ k:=h;by_cases z:i.natAbs=0
 .rw[z];decide
 .exact VR ((YX z).mpr h') hk
theorem Sz.mul{i:Int}(h:Sz i)(k:Sz j):EA i j:=⟨_,_,h.big,k.big,by decide,by decide⟩
def Dz(i:Int):Prop:=i≠0/\i.natAbs.log2<8000
instance (i:Int):Decidable (Dz i):=inferInstanceAs (Decidable (_/\_))
theorem Dz.ok{i:Int}(h:Dz j):EB i j:=by refine⟨h.1,?_⟩;show _<_;have h1:j.natAbs<2 ^ (j.natAbs.log2+1):=Z9;exact VR h1 (Yk ⋯ (by have:=h.2;lia))
theorem Dz.of{k:Nat}{i:Int}(h0:i≠0)(h:uF k i)(hk:k<=8000):Dz i:=by refine⟨h0,?_⟩;have h':i.natAbs<2 ^ k:=h;exact VR ((YX ⋯).mpr h') hk
def MulOk(i j:Int):Prop:=(Sz i/\Sz j)\/HZ i j
instance (i j:Int):Decidable (HZ i j):=inferInstanceAs (Decidable (_\/_))
instance (i j:Int):Decidable (MulOk i j):=inferInstanceAs (Decidable (_\/_))
instance (i j:Int):Decidable (HY i j):=inferInstanceAs (Decidable (_/\_/\_))
def yO(k:Nat)(us:List aj):List aj:=(List.replicate k us).flatten
def dA:F2
 |.int i,.int j,st=>.ok (.int (i+j)) st
 |.str a,.str b,st=>if a.length+b.length<=sizeLine then .ok (.str (a++b)) st else .bad
 |.tup us,.tup ws,st=>if us.length+ws.length<=sizeLine then .ok (.tup (us++ws)) st else .bad
 |.loc n,.loc m,st=>match st[n]?,st[m]? with
  |some (.lst us),some (.lst ws)=>if us.length+ws.length<=sizeLine then .ok (.loc st.length) (st++[.lst (us++ws)])else .bad
  |_,_=>.bad
 |_,_,_=>.bad
def x_(g:Int->Int->af->fu aj):F2
 |.int i,.int j,st=>g i j st
 |_,_,_=>.bad
theorem MF(g:Int->Int->af->fu aj)(u w:aj)(st:af):(∃i j,u=.int i/\w=.int j)\/x_ g u w st=.bad:=by
 cases u with
 |int i=>
  cases w with
  |int j=>exact .inl ⟨i,j,rfl,rfl⟩
  |_=>exact .inr rfl
 |_=>exact .inr rfl
theorem kr{g:Int->Int->af->fu aj}{W:Wo}{st:af}{u w:aj}(h:wR W E (Rl W.K) ρ H Q (x_ g u w st)):∃i j,u=.int i/\w=.int j/\wR W E (Rl W.K) ρ H Q (g i j st):=by
 rcases MF g u w st with⟨i,j,rfl,rfl⟩|z
 .exact⟨i,j,rfl,rfl,h⟩
 .rw[z]at h;exact h.elim
def jr:F2:=x_ λi j st=>.ok (.int (i-j)) st
def b9:F2
 |.int i,.int j,st=>if MulOk i j then .ok (.int (i*j)) st else .bad
 |.loc n,.int k,st=>match st[n]? with
  |some (.lst us)=>if -(2 ^ 63)<=k/\k<2 ^ 63/\us.length*k.toNat<=sizeLine then .ok (.loc st.length) (st++[.lst (yO k.toNat us)])else .bad
  |_=>.bad
 |_,_,_=>.bad
def qT:F2:=x_ λi j st=>if Dz j then .ok (.int (i.fdiv j)) st else .bad
def gq:F2:=x_ λi j st=>if j=0 then .bad else .ok (.int (i.fmod j)) st
def MG:F2:=x_ λi j st=>if HY i j then .ok (.int (i ^ j.toNat)) st else .bad
def ltV:F2:=x_ λi j st=>.ok (.bl (decide (i<j))) st
def v!:F2:=x_ λi j st=>.ok (.bl (decide (j<i))) st
theorem f7{W:Wo}{st:af}{i:Int}(sr:SR W.K ρ st H)(h:wR W E (Rl W.K) ρ H Q (.ok (.int i) st)):Q (.int i) H:=h ρ H _ (aX.refl _ _) sr (Rl.mkInt i)
theorem jJ{W:Wo}{st:af}{i:Bool}(sr:SR W.K ρ st H)(h:wR W E (Rl W.K) ρ H Q (.ok (.bl i) st)):Q (.bl i) H:=h ρ H _ (aX.refl _ _) sr (Rl.IL i)
theorem bC.U2{K:_g}{us:List aj}{xs:List V}(r:bC K ρ H us xs):∀k:Nat,bC K ρ H (yO k us) (List.replicate k xs).flatten
 |0=>bC.nil
 |k+1=>by unfold yO;rw[VH,VH,Xy,Xy];exact r.append (bC.U2 r k)
theorem IW:gJ X (binaryOp .Add) (λx y H Q=>∃a b ys,x=.ref a/\y=.ref b/\pZ X.K H a []/\pZ X.K H b ys/\Q (.ref b) H):=by
 intro ae s σ H x y v u Q I rx ry h;obtain⟨a,b,ys,rfl,rfl,ha,hb,q⟩:=h;cases rx;cases ry;obtain⟨aN,r1,p1,_⟩:=I.tuple ha;obtain⟨fH,r2,p2,_⟩:=I.tuple hb;cases r1;obtain⟨⟨cls,dd,data,sl⟩,ho,hc,n,hd⟩:=id p1;obtain⟨⟨abl,dd2,data2,Ue⟩,HF,Bn,n2,hd2⟩:=id p2;simp only at hc hd Bn hd2;subst hc hd Bn hd2;exact Z6 ⟨_,ho,rfl⟩ ⟨_,HF,rfl⟩ Zd ZO Yc X! (X8 _ _)
  (tuple_addW0 a b #[] fH.toArray n n2 dd dd2 sl Ue (by simp)) ⟨ho,HF,⟨.ref b,H,I,rfl,q⟩⟩
theorem MJ:gJ X (binaryOp .Add) (rM (wo X) E dA):=by
 refine gJ.imp (gJ.or PL (gJ.or CO (gJ.or Qh (gJ.or Ma IW)))) ?_;rintro x y H Q ⟨ρ,st,u,w,sr,r1,r2,h⟩;cases u<;>cases w<;>try exact h.elim
 case int.int i j=>exact .inl ⟨i,j,r1.dh,r2.dh,f7 sr h⟩
 case str.str a b=>
  unfold dA at h;dsimp only at h;split at h
  .rename_i hz;exact .inr (.inl ⟨a,b,r1.oo,r2.oo,hz,h ρ H _ (aX.refl _ _) sr (Rl.mkStr _)⟩)
  .exact h.elim
 case tup.tup us ws=>
  unfold dA at h;dsimp only at h;split at h
  .rename_i hz;obtain⟨a,xs,rfl,ha,ra⟩:=r1.jL;obtain⟨b,ys,rfl,hb,rb⟩:=r2.jL;by_cases hx:xs=[]
   .subst hx;have hu:us=[]:=Wn ra.length;subst hu;exact .inr (.inr (.inr (.inr ⟨a,b,ys,rfl,rfl,ha,hb,h ρ H _ (aX.refl _ _) sr r2⟩)))
   .refine .inr (.inr (.inr (.inl ⟨a,b,xs,ys,rfl,rfl,ha,hb,hx,by rw[<-ra.length,<-rb.length];exact hz,λhy=>?_,λhy p hp=>?_⟩)))
    .subst hy;have hw:ws=[]:=Wn rb.length;subst hw;rw[Wc]at h;exact h ρ H _ (aX.refl _ _) sr r1
    .have s:=fJ (o:=.tup (xs++ys)) hp;exact h ρ _ _ (aX.same s) (sr.grow s) (Rl.yK cC (bC.mono (aX.same s) _ _ (ra.append rb)))
  .exact h.elim
 case loc.loc n m=>
  unfold dA at h;dsimp only at h;split at h
  .rename_i us ws e1 e2;split at h
   .rename_i hz;obtain⟨a,rfl,ha⟩:=r1.fU;obtain⟨b,rfl,hb⟩:=r2.fU;obtain⟨xs,h1,q1⟩:=sr.cell n _ a e1 ha;obtain⟨ys,h2,q2⟩:=sr.cell m _ b e2 hb;refine .inr (.inr (.inl ⟨a,b,xs,ys,rfl,rfl,h1,h2,by rw[<-q1.length,<-q2.length];exact hz,λp hp=>?_⟩));obtain⟨k1,k2,k3⟩:=jf sr (q1.append q2) hp;exact h _ _ _ k1 k2 k3
   .exact h.elim
  .exact h.elim
theorem MK:gJ X (binaryOp .Sub) (rM (wo X) E jr):=by refine gJ.imp PN ?_;rintro x y H Q ⟨ρ,st,u,w,sr,r1,r2,h⟩;obtain⟨i,j,rfl,rfl,q⟩:=kr h;exact⟨i,j,r1.dh,r2.dh,f7 sr q⟩
theorem ML:gJ X (binaryOp .Mult) (rM (wo X) E b9):=by
 refine gJ.imp (gJ.or Mm (gJ.or PQ Qi)) ?_;rintro x y H Q ⟨ρ,st,u,w,sr,r1,r2,h⟩;cases u<;>cases w<;>try exact h.elim
 case int.int i j=>
  unfold b9 at h;dsimp only at h;split at h
  .rename_i hz;rcases hz with hz|hz
   .exact .inl ⟨i,j,r1.dh,r2.dh,hz.1.mul hz.2,f7 sr h⟩
   .exact .inr (.inl ⟨i,j,r1.dh,r2.dh,hz,f7 sr h⟩)
  .exact h.elim
 case loc.int n k=>
  unfold b9 at h;dsimp only at h;split at h
  .rename_i us e1;split at h
   .rename_i hz;obtain⟨a,rfl,ha⟩:=r1.fU;obtain⟨xs,h1,q1⟩:=sr.cell n _ a e1 ha;refine .inr (.inr ⟨a,k,xs,rfl,r2.dh,h1,hz.1,hz.2.1,by rw[<-q1.length];exact hz.2.2,λp hp=>?_⟩);obtain⟨k1,k2,k3⟩:=jf sr (q1.U2 k.toNat) hp;exact h _ _ _ k1 k2 k3
   .exact h.elim
  .exact h.elim
theorem IX:gJ X (binaryOp .FloorDiv) (rM (wo X) E qT):=by
 refine gJ.imp Iz ?_;rintro x y H Q ⟨ρ,st,u,w,sr,r1,r2,h⟩;obtain⟨i,j,rfl,rfl,h0⟩:=kr h;clear h;have h:=h0;clear h0
 .split at h
  .rename_i hz;exact⟨i,j,r1.dh,r2.dh,hz.ok,f7 sr h⟩
  .exact h.elim
theorem MM:gJ X (binaryOp .Mod) (rM (wo X) E gq):=by
 refine gJ.imp L0 ?_;rintro x y H Q ⟨ρ,st,u,w,sr,r1,r2,h⟩;obtain⟨i,j,rfl,rfl,h0⟩:=kr h;clear h;have h:=h0;clear h0
 .split at h
  .exact h.elim
  .rename_i hz;exact⟨i,j,r1.dh,r2.dh,hz,f7 sr h⟩
theorem MP:gJ X (binaryOp .Pow) (rM (wo X) E MG):=by
 refine gJ.imp PR ?_;rintro x y H Q ⟨ρ,st,u,w,sr,r1,r2,h⟩;obtain⟨i,j,rfl,rfl,h0⟩:=kr h;clear h;have h:=h0;clear h0
 .split at h
  .rename_i hz;exact⟨i,j,r1.dh,r2.dh,hz,f7 sr h⟩
  .exact h.elim
theorem QR:gJ X (compareOp .Lt) (rM (wo X) E ltV):=by refine gJ.imp T_ ?_;rintro x y H Q ⟨ρ,st,u,w,sr,r1,r2,h⟩;obtain⟨i,j,rfl,rfl,q⟩:=kr h;exact⟨i,j,r1.dh,r2.dh,jJ sr q⟩
theorem QS:gJ X (compareOp .Gt) (rM (wo X) E v!):=by refine gJ.imp T! ?_;rintro x y H Q ⟨ρ,st,u,w,sr,r1,r2,h⟩;obtain⟨i,j,rfl,rfl,q⟩:=kr h;exact⟨i,j,r1.dh,r2.dh,jJ sr q⟩
def ko(m:ME):ME:=λμ st=>(m μ st).bind λv aI=>match v with
 |.int i=>.ok (.int (-i)) aI
 |_=>.bad
theorem QT{a:Expr}{m:ME}{pos:Pos}(h:PE X a (tE X E m)):PE X (.UnaryOp .USub a pos) (tE X E (ko m)):=by
 refine PE.imp (T7 PU h) ?_;nofun;cases u with
 |int i=>exact⟨i,r1.dh,f7 dM h1⟩
 |_=>exact h1.elim
def flat:aj->Bool
 |.dj=>true
 |.bl _=>true
 |.int _=>true
 |.str _=>true
 |_=>false
def QU:aj->aj->Bool
 |.dj,.dj=>true
 |.bl a,.bl b=>a==b
 |.bl a,.int b=>(if a then 1 else 0)==b
 |.int a,.bl b=>a==(if b then 1 else 0)
 |.int a,.int b=>a==b
 |.str a,.str b=>a==b
 |_,_=>false
def aq(st:af)(n:Nat):Option (List aj):=match st[n]? with
 |some (.lst us)=>some us
 |some (.QB us)=>some us
 |some (.mod us)=>some us
 |_=>none
inductive Vw where
 |lst (us:List aj)|tup (us:List aj)|u?
def vw(st:af):aj->Option Vw
 |.tup us=>some (.tup us)
 |.loc n=>(aq st n).map .lst
 |.dj=>some .u?
 |.bl _=>some .u?
 |.int _=>some .u?
 |.str _=>some .u?
 |_=>none
def iI(f:aj->aj->Option Bool):List aj->List aj->Option Bool
 |[],[]=>some true
 |x::xs,y::ys=>match f x y,iI f xs ys with
  |some a,some b=>some (a&&b)
  |_,_=>none
 |[],_::_=>some false
 |_::_,[]=>some false
def lO:Nat->af->aj->aj->Option Bool
 |0,_,_,_=>none
 |n+1,st,u,w=>match vw st u,vw st w with
  |some (.tup us),some (.tup ws)=>iI (lO n st) us ws
  |some (.lst us),some (.lst ws)=>iI (lO n st) us ws
  |some .u?,some .u?=>some (QU u w)
  |some _,some _=>some false
  |_,_=>none
theorem v?{f:aj->aj->Option Bool}:∀{us ws:List aj}{b:Bool},iI f us ws=some b->us.length≠ws.length->b=false
 |[],[],_,_,h=>absurd rfl h
 |[],_::_,b,e,_=>by injection e with e;exact e.symm
 |_::_,[],b,e,_=>by injection e with e;exact e.symm
 |x::xs,y::ys,b,e,h=>by
  unfold iI at e;split at e
  .rename_i a c h1 h2;injection e with e;rw[<-e,v? h2 (λz=>h (by simp[z])),Y']
  .cases e
theorem EL{f:aj->aj->Option Bool}:∀{us ws:List aj}{b:Bool},iI f us ws=some b->∀(j:Nat)(u w:aj),us[j]?=some u->ws[j]?=some w->∃c,f u w=some c
 |[],_,_,_,j,u,w,h1,_=>by cases h1
 |_::_,[],_,_,j,u,w,_,h2=>by cases h2
 |x::xs,y::ys,b,e,j,u,w,h1,h2=>by
  unfold iI at e;split at e
  .rename_i a c q1 q2;cases j with
   |zero=>cases h1;cases h2;exact⟨a,q1⟩
   |succ j=>exact EL q2 j u w h1 h2
  .cases e
def eqJ(f:aj->aj->Option Bool)(us ws:List aj)(j:Nat):Bool:=match us[j]?,ws[j]? with
 |some u,some w=>(f u w).getD true
 |_,_=>true
theorem wa{f:aj->aj->Option Bool}:∀{us ws:List aj}{b:Bool},iI f us ws=some b->us.length=ws.length->(List.range us.length).all (eqJ f us ws)=b
 |[],[],b,e,_=>by injection e
 |[],_::_,_,_,h=>by simp at h
 |_::_,[],_,_,h=>by simp at h
 |x::xs,y::ys,b,e,h=>by
  have h':xs.length=ys.length:=by simpa using h
  unfold iI at e;split at e
  .rename_i a c q1 q2;injection e with e;rw[Vi,List.range_succ_eq_map,Yl,List.all_map,<-e,<-wa q2 h'];congr 1;show(f x y).getD true=a;rw[q1];rfl
  .cases e
section
variable{st:af}
theorem bI(sr:SR X.K ρ st H){n:Nat}{us:List aj}{a:_o}(h:aq st n=some us)(ha:ρ[n]?=some a):∃vs,pk X.K H a vs/\bC X.K ρ H us vs:=by
 unfold aq at h;split at h
 .rename_i ws e;cases h;obtain⟨vs,h1,h2⟩:=sr.cell n _ a e ha;exact⟨vs,pk.of h1,h2⟩
 .rename_i ws e;cases h;obtain⟨o,vs,h1,h2⟩:=sr.cell n _ a e ha;exact⟨vs,.inl (.inr ⟨o,h1⟩),h2⟩
 .rename_i ws e;cases h;obtain⟨vs,h1,h2⟩:=sr.cell n _ a e ha;exact⟨vs,.inr h1,h2⟩
 .cases h
theorem EM(I:a9 X ae σ H s)(sr:SR X.K ρ st H):∀(n:Nat)(u w:aj)(x:V)(b:Bool),Rl X.K ρ H u x->Rl X.K ρ H w x->lO n st u w=some b->b=true
 |0,_,_,_,_,_,_,e=>by cases e
 |n+1,u,w,x,b,r1,r2,e=>by
  have lst:∀(us ws:List aj)(vs:List V)(b:Bool),bC X.K ρ H us vs->bC X.K ρ H ws vs->iI (lO n st) us ws=some b->b=true:=by
   intro us
   induction us with
   |nil=>
    intro ws vs b h1 h2 e;have:=h1.gW;subst this;have hw:ws=[]:=Wn h2.length;subst hw;injection e with e;exact e.symm
   |cons u us ih=>
    intro ws vs b h1 h2 e;obtain⟨v,r,rfl,q1,q2⟩:=h1.cY;cases ws with
    |nil=>have:=h2.gW;cases this
    |cons w ws=>
     obtain⟨v',r',e',q3,q4⟩:=h2.cY;cases e';unfold iI at e;split at e
     .rename_i a c z1 z2;injection e with e;rw[<-e,EM I sr n u w v a q1 q3 z1,ih ws r c q2 q4 z2];rfl
     .cases e
  unfold lO at e;cases u<;>cases w<;>dsimp only[vw]at e<;>try (cases e;done)
  all_goals first
   |(have z1:=Rl.dh r1;subst z1;have z2:=Rl.dh r2;cases z2;injection e with e;rw[<-e];exact XH _)
   |(have z1:=Rl.xZ r1;subst z1;have z2:=Rl.xZ r2;cases z2;injection e with e;rw[<-e];exact XH _)
   |(have z1:=Rl.oo r1;subst z1;have z2:=Rl.oo r2;cases z2;injection e with e;rw[<-e];exact XH _)
   |(have z1:=Rl.oq r1;subst z1;injection e with e;exact e.symm)
   |skip
  case tup.tup us ws=>
   obtain⟨a,vs,rfl,ha,ra⟩:=r1.jL;obtain⟨a',Lp,ea,hb,rb⟩:=r2.jL;cases ea;have:=I.sD ha hb;subst this;exact lst us ws vs b ra rb e
  case loc.loc i j=>
   obtain⟨a,rfl,ha⟩:=r1.fU;obtain⟨a',ea,hb⟩:=r2.fU;cases ea;cases z:aq st i with
   |none=>rw[z]at e;cases e
   |some us=>
    cases z2:aq st j with
    |none=>rw[z,z2]at e;cases e
    |some ws=>
     rw[z,z2]at e;obtain⟨vs,s1,rv⟩:=bI sr z ha;obtain⟨Lp,s2,rv'⟩:=bI sr z2 hb;have:=I.qH s1 s2;subst this;exact lst us ws vs b rv rv' e
  all_goals (exfalso;first
   |(have z1:=Rl.dh r1;subst z1;first|(have z2:=Rl.xZ r2;cases z2;done)|(have z2:=Rl.oo r2;cases z2;done)|(have z2:=Rl.oq r2;cases z2;done)|(obtain⟨_,_,z2,_⟩:=r2.jL;cases z2;done)|(obtain⟨_,z2,_⟩:=r2.fU;cases z2;done))
   |(have z1:=Rl.xZ r1;subst z1;first|(have z2:=Rl.dh r2;cases z2;done)|(have z2:=Rl.oo r2;cases z2;done)|(have z2:=Rl.oq r2;cases z2;done)|(obtain⟨_,_,z2,_⟩:=r2.jL;cases z2;done)|(obtain⟨_,z2,_⟩:=r2.fU;cases z2;done))
   |(have z1:=Rl.oo r1;subst z1;first|(have z2:=Rl.dh r2;cases z2;done)|(have z2:=Rl.xZ r2;cases z2;done)|(have z2:=Rl.oq r2;cases z2;done)|(obtain⟨_,_,z2,_⟩:=r2.jL;cases z2;done)|(obtain⟨_,z2,_⟩:=r2.fU;cases z2;done))
   |(have z1:=Rl.oq r1;subst z1;first|(have z2:=Rl.dh r2;cases z2;done)|(have z2:=Rl.xZ r2;cases z2;done)|(have z2:=Rl.oo r2;cases z2;done)|(obtain⟨_,_,z2,_⟩:=r2.jL;cases z2;done)|(obtain⟨_,z2,_⟩:=r2.fU;cases z2;done))
   |(obtain⟨_,_,z1,_⟩:=r1.jL;subst z1;first|(have z2:=Rl.dh r2;cases z2;done)|(have z2:=Rl.xZ r2;cases z2;done)|(have z2:=Rl.oo r2;cases z2;done)|(have z2:=Rl.oq r2;cases z2;done))
   |(obtain⟨_,z1,_⟩:=r1.fU;subst z1;first|(have z2:=Rl.dh r2;cases z2;done)|(have z2:=Rl.xZ r2;cases z2;done)|(have z2:=Rl.oo r2;cases z2;done)|(have z2:=Rl.oq r2;cases z2;done))
   |skip)
  case tup.loc us j=>
   obtain⟨a,vs,rfl,ha,ra⟩:=r1.jL;obtain⟨a',ea,hb⟩:=r2.fU;cases ea;cases z:aq st j with
   |none=>rw[z]at e;cases e
   |some us'=>
    obtain⟨ws,hw,_⟩:=bI sr z hb;obtain⟨_,_,p1,_⟩:=I.tuple ha;obtain⟨_,_,p2,_⟩:=I.list hw;exact Z7 p2.isList p1 rfl
  case loc.tup i us=>
   obtain⟨a,rfl,ha⟩:=r1.fU;obtain⟨a',vs,ea,hb,rb⟩:=r2.jL;cases ea;cases z:aq st i with
   |none=>rw[z]at e;cases e
   |some us'=>
    obtain⟨ws,hw,_⟩:=bI sr z ha;obtain⟨_,_,p1,_⟩:=I.tuple hb;obtain⟨_,_,p2,_⟩:=I.list hw;exact Z7 p2.isList p1 rfl
  all_goals (cases z:aq st _<;>rw[z]at e<;>cases e)
def IY(X:Cx)(ρ:_k)(H:Hp)(s:_n):Vw->aj->_m->Prop
 |.tup us,_,v=>∃a aN vs,v=.ref a/\s.heap.IsTuple a (List.toArray aN)/\bx vs aN/\bC X.K ρ H us vs
 |.lst us,_,v=>∃a aN vs,v=.ref a/\s.heap.IsList a (List.toArray aN)/\bx vs aN/\bC X.K ρ H us vs
 |.u?,u,v=>(u=.dj/\v=.none)\/(∃b,u=.bl b/\v=.bool b)\/(∃i t,u=.int i/\v=.int i t)\/(∃z t,u=.str z/\v=.str z t)
theorem seen(I:a9 X ae σ H s)(sr:SR X.K ρ st H){u:aj}{x:V}{v:_m}{k:Vw}(r:Rl X.K ρ H u x)(q:bW x v)(h:vw st u=some k):IY X ρ H s k u v:=by
 cases u with
 |dj=>cases h;have:=r.oq;subst this;exact .inl ⟨rfl,q⟩
 |bl b=>cases h;have:=r.xZ;subst this;exact .inr (.inl ⟨b,rfl,q⟩)
 |int i=>cases h;have:=r.dh;subst this;obtain⟨t,q⟩:=q;exact .inr (.inr (.inl ⟨i,t,rfl,q⟩))
 |str z=>cases h;have:=r.oo;subst this;obtain⟨t,q⟩:=q;exact .inr (.inr (.inr ⟨z,t,rfl,q⟩))
 |tup us=>
  cases h;obtain⟨a,vs,rfl,ha,ra⟩:=r.jL;obtain⟨aN,r1,p1,_⟩:=I.tuple ha;exact⟨a,aN,vs,q,p1,r1,ra⟩
 |loc n=>
  obtain⟨a,rfl,ha⟩:=r.fU;cases z:aq st n with
  |none=>simp only[vw,z]at h;cases h
  |some us=>
   simp only[vw,z]at h;cases h;obtain⟨vs,hs,rv⟩:=bI sr z ha;obtain⟨aN,r1,p1,_⟩:=I.list hs;exact⟨a,aN,vs,q,p1.isList,r1,rv⟩
 |exc c=>cases h
 |fn k c=>cases h
 |mt us=>cases h
theorem IZ{f:aj->aj->Option Bool}{us ws:List aj}{xs ys:List V}{fH:_i}{b:Bool}(e:iI f us ws=some b)(ra:bC X.K ρ H us xs)(rb:bC X.K ρ H ws ys)(va:bx xs aN)(vb:bx ys fH)(ih:∀u w x y vu vw c,Rl X.K ρ H u x->bW x vu->Rl X.K ρ H w y->bW y vw->f u w=some c->SeqAt.EqAt A s vu vw c):
  ∀j(h1:j<aN.toArray.size)(h2:j<fH.toArray.size),SeqAt.EqAt A s aN.toArray[j] fH.toArray[j] (eqJ f us ws j):=by
 intro j h1 h2;have l1:=va.length;have l2:=vb.length;have l3:=ra.length;have l4:=rb.length;simp only[VB]at h1 h2;have e1:us[j]?=some us[j]:=Vk ⋯;have e2:ws[j]?=some ws[j]:=Vk ⋯;obtain⟨x,hx,rx⟩:=ra.get e1;obtain⟨y,hy,ry⟩:=rb.get e2;obtain⟨u,hu,ru⟩:=va.get hx;obtain⟨v,hv,rv⟩:=vb.get hy;have q1:aN.toArray[j]=u:=by obtain⟨_,e⟩:=VJ.mp hu;simpa using e
 have q2:fH.toArray[j]=v:=by obtain⟨_,e⟩:=VJ.mp hv;simpa using e
 obtain⟨c,hc⟩:=EL e j _ _ e1 e2;rw[q1,q2];unfold eqJ;rw[e1,e2];dsimp only;rw[hc];exact ih _ _ _ _ _ _ c rx ru ry rv hc
theorem in1_units(A:_p):A.in1.units=A.units+1:=by rfl
theorem QV(I:a9 X ae σ H s)(sr:SR X.K ρ st H)(n:Nat)(ih:∀u w x y vu vw c,Rl X.K ρ H u x->bW x vu->Rl X.K ρ H w y->bW y vw->lO n st u w=some c->SeqAt.EqAt A.in1 s vu vw c)(hu:A.units<cLine){u w:aj}{x y:V}{v1 v2:_m}{b:Bool}(r1:Rl X.K ρ H u x)(q1:bW x v1)(r2:Rl X.K ρ H w y)(q2:bW y v2)(e:lO (n+1) st u w=some b):SeqAt.RcAt A s v1 v2 b/\SeqAt.RcNeAt A s v1 v2 (!b):=by
 unfold lO at e;cases z1:vw st u with
 |none=>rw[z1]at e;cases e
 |some k1=>
  cases z2:vw st w with
  |none=>rw[z1,z2]at e;cases k1<;>cases e
  |some k2=>
   rw[z1,z2]at e;have s1:=seen I sr r1 q1 z1;have s2:=seen I sr r2 q2 z2;cases k1 with
   |tup us=>
    obtain⟨a,aN,xs,rfl,p1,va,ra⟩:=s1;cases k2 with
    |tup ws=>
     obtain⟨a2,fH,ys,rfl,p2,vb,rb⟩:=s2;have el:=IZ e ra rb va vb ih;have l1:=va.length;have l2:=vb.length;have l3:=ra.length;have l4:=rb.length;have hb:((List.range (min aN.toArray.size fH.toArray.size)).all (eqJ (lO n st) us ws)&&aN.toArray.size==fH.toArray.size)=b:=by
      by_cases hl:us.length=ws.length
      .rw[show min aN.toArray.size fH.toArray.size=us.length by simp only[VB];lia,wa e hl,show(aN.toArray.size==fH.toArray.size)=true by simp only[VB,Yb];lia,Bool.and_true]
      .rw[show(aN.toArray.size==fH.toArray.size)=false by simp only[VB,WX];lia,Y'];exact(v? e hl).symm
     have g1:=SeqAt.RcAt.tuples p1 p2 hu el;have g2:=SeqAt.RcNeAt.tuples p1 p2 hu el;rw[hb]at g1 g2;exact⟨g1,g2⟩
    |lst ws=>
     obtain⟨a2,fH,ys,rfl,p2,vb,rb⟩:=s2;cases e;exact⟨SeqAt.RcAt.tuple_list p1 p2 hu,SeqAt.RcNeAt.tuple_list p1 p2 hu⟩
    |u?=>
     cases e;rcases s2 with⟨_,rfl⟩|⟨k,_,rfl⟩|⟨k,t,_,rfl⟩|⟨k,t,_,rfl⟩
     .exact⟨SeqAt.RcAt.tuple_none p1 hu,SeqAt.RcNeAt.tuple_none p1 hu⟩
     .exact⟨SeqAt.RcAt.tuple_bool _ p1 hu,SeqAt.RcNeAt.tuple_bool _ p1 hu⟩
     .exact⟨SeqAt.RcAt.tuple_int _ _ p1 hu,SeqAt.RcNeAt.tuple_int _ _ p1 hu⟩
     .exact⟨SeqAt.RcAt.tuple_str _ _ p1 hu,SeqAt.RcNeAt.tuple_str _ _ p1 hu⟩
   |lst us=>
    obtain⟨a,aN,xs,rfl,p1,va,ra⟩:=s1;cases k2 with
    |tup ws=>
     obtain⟨a2,fH,ys,rfl,p2,vb,rb⟩:=s2;cases e;exact⟨SeqAt.RcAt.list_tuple p1 p2 hu,SeqAt.RcNeAt.list_tuple p1 p2 hu⟩
    |lst ws=>
     obtain⟨a2,fH,ys,rfl,p2,vb,rb⟩:=s2;have l1:=va.length;have l2:=vb.length;have l3:=ra.length;have l4:=rb.length;by_cases hl:us.length=ws.length
     .have hs:aN.toArray.size=fH.toArray.size:=by simp only[VB];lia
      have el:=IZ e ra rb va vb ih;have g1:=SeqAt.RcAt.lists p1 p2 hs hu el;have g2:=SeqAt.RcNeAt.lists p1 p2 hs hu el;rw[show aN.toArray.size=us.length by simp only[VB];lia,wa e hl]at g1 g2;exact⟨g1,g2⟩
     .have hs:(aN.toArray.size !=fH.toArray.size)=true:=by simp only[VB,bne_iff_ne];lia
      rw[v? e hl];exact⟨ZQ p1 p2 hs hu,SeqAt.RcNeAt.lists_lengths p1 p2 hs hu⟩
    |u?=>
     cases e;rcases s2 with⟨_,rfl⟩|⟨k,_,rfl⟩|⟨k,t,_,rfl⟩|⟨k,t,_,rfl⟩
     .exact⟨SeqAt.RcAt.list_none p1 hu,SeqAt.RcNeAt.list_none p1 hu⟩
     .exact⟨SeqAt.RcAt.list_bool _ p1 hu,SeqAt.RcNeAt.list_bool _ p1 hu⟩
     .exact⟨SeqAt.RcAt.list_int _ _ p1 hu,SeqAt.RcNeAt.list_int _ _ p1 hu⟩
     .exact⟨SeqAt.RcAt.list_str _ _ p1 hu,SeqAt.RcNeAt.list_str _ _ p1 hu⟩
   |u?=>
    cases k2 with
    |tup ws=>
     obtain⟨a2,fH,ys,rfl,p2,vb,rb⟩:=s2;cases e;rcases s1 with⟨_,rfl⟩|⟨k,_,rfl⟩|⟨k,t,_,rfl⟩|⟨k,t,_,rfl⟩
     .exact⟨SeqAt.RcAt.none_tuple p2 hu,SeqAt.RcNeAt.none_tuple p2 hu⟩
     .exact⟨SeqAt.RcAt.bool_tuple _ p2 hu,SeqAt.RcNeAt.bool_tuple _ p2 hu⟩
     .exact⟨SeqAt.RcAt.int_tuple _ _ p2 hu,SeqAt.RcNeAt.int_tuple _ _ p2 hu⟩
     .exact⟨SeqAt.RcAt.str_tuple _ _ p2 hu,SeqAt.RcNeAt.str_tuple _ _ p2 hu⟩
    |lst ws=>
     obtain⟨a2,fH,ys,rfl,p2,vb,rb⟩:=s2;cases e;rcases s1 with⟨_,rfl⟩|⟨k,_,rfl⟩|⟨k,t,_,rfl⟩|⟨k,t,_,rfl⟩
     .exact⟨SeqAt.RcAt.none_list p2 hu,SeqAt.RcNeAt.none_list p2 hu⟩
     .exact⟨SeqAt.RcAt.bool_list _ p2 hu,SeqAt.RcNeAt.bool_list _ p2 hu⟩
     .exact⟨SeqAt.RcAt.int_list _ _ p2 hu,SeqAt.RcNeAt.int_list _ _ p2 hu⟩
     .exact⟨SeqAt.RcAt.str_list _ _ p2 hu,SeqAt.RcNeAt.str_list _ _ p2 hu⟩
    |u?=>
     injection e with e;subst e;rcases s1 with⟨rfl,rfl⟩|⟨i,rfl,rfl⟩|⟨i,t,rfl,rfl⟩|⟨i,t,rfl,rfl⟩<;>rcases s2 with⟨rfl,rfl⟩|⟨j,rfl,rfl⟩|⟨j,t',rfl,rfl⟩|⟨j,t',rfl,rfl⟩
     .exact⟨SeqAt.RcAt.none_none,SeqAt.RcNeAt.none_none⟩
     .exact⟨SeqAt.RcAt.none_bool _,SeqAt.RcNeAt.none_bool _⟩
     .exact⟨SeqAt.RcAt.none_int _ _,SeqAt.RcNeAt.none_int _ _⟩
     .exact⟨SeqAt.RcAt.none_str _ _,SeqAt.RcNeAt.none_str _ _⟩
     .exact⟨SeqAt.RcAt.bool_none _,SeqAt.RcNeAt.bool_none _⟩
     .exact⟨SeqAt.RcAt.bool_bool _ _,SeqAt.RcNeAt.bool_bool _ _⟩
     .exact⟨SeqAt.RcAt.bool_int _ _ _,SeqAt.RcNeAt.bool_int _ _ _⟩
     .exact⟨SeqAt.RcAt.bool_str _ _ _,SeqAt.RcNeAt.bool_str _ _ _⟩
     .exact⟨SeqAt.RcAt.int_none _ _,SeqAt.RcNeAt.int_none _ _⟩
     .exact⟨SeqAt.RcAt.int_bool _ _ _,SeqAt.RcNeAt.int_bool _ _ _⟩
     .exact⟨SeqAt.RcAt.int_int _ _ _ _,SeqAt.RcNeAt.int_int _ _ _ _⟩
     .exact⟨SeqAt.RcAt.int_str _ _ _ _,SeqAt.RcNeAt.int_str _ _ _ _⟩
     .exact⟨SeqAt.RcAt.str_none _ _,SeqAt.RcNeAt.str_none _ _⟩
     .exact⟨SeqAt.RcAt.str_bool _ _ _,SeqAt.RcNeAt.str_bool _ _ _⟩
     .exact⟨SeqAt.RcAt.str_int _ _ _ _,SeqAt.RcNeAt.str_int _ _ _ _⟩
     .exact⟨SeqAt.RcAt.str_str _ _ _ _,SeqAt.RcNeAt.str_str _ _ _ _⟩
theorem MQ{u w:aj}{v1 v2:_m}(s1:IY X ρ H s .u? u v1)(s2:IY X ρ H s .u? w v2):SeqAt.EqAt A s v1 v2 (QU u w):=by
 rcases s1 with⟨rfl,rfl⟩|⟨i,rfl,rfl⟩|⟨i,t,rfl,rfl⟩|⟨i,t,rfl,rfl⟩<;>rcases s2 with⟨rfl,rfl⟩|⟨j,rfl,rfl⟩|⟨j,t',rfl,rfl⟩|⟨j,t',rfl,rfl⟩
 .exact Yz _
 .exact SeqAt.EqAt.none_bool _
 .exact SeqAt.EqAt.none_int _ _
 .exact SeqAt.EqAt.none_str _ _
 .exact SeqAt.EqAt.bool_none _
 .exact SeqAt.EqAt.bool_bool _ _
 .exact SeqAt.EqAt.bool_int _ _ _
 .exact SeqAt.EqAt.bool_str _ _ _
 .exact SeqAt.EqAt.int_none _ _
 .exact SeqAt.EqAt.int_bool _ _ _
 .exact SeqAt.EqAt.int_int _ _ _ _
 .exact Y1 _ _ _ _
 .exact SeqAt.EqAt.str_none _ _
 .exact SeqAt.EqAt.str_bool _ _ _
 .exact Y0 _ _ _ _
 .exact SeqAt.EqAt.str_str _ _ _ _
theorem Dd(I:a9 X ae σ H s)(sr:SR X.K ρ st H):∀(n:Nat)(A:_p),A.units+n<cLine->∀(u w:aj)(x y:V)(v1 v2:_m)(b:Bool),Rl X.K ρ H u x->bW x v1->Rl X.K ρ H w y->bW y v2->lO n st u w=some b->SeqAt.EqAt A s v1 v2 b
 |0,_,_,_,_,_,_,_,_,_,_,_,_,_,e=>by cases e
 |n+1,A,hu,u,w,x,y,v1,v2,b,r1,q1,r2,q2,e=>by
  have rc:=(QV I sr n (λu w x y vu vw c a1 a2 a3 a4 a5=>Dd I sr n A.in1 (by rw[in1_units];lia) u w x y vu vw c a1 a2 a3 a4 a5) ⋯ r1 q1 r2 q2 e).1;have refs:∀a a2,v1=.ref a->v2=.ref a2->SeqAt.EqAt A s v1 v2 b:=by
   intro a a2 e1 e2;subst e1 e2;by_cases hn:a=a2
   .subst hn;have hx:x=y:=q1.inj q2;subst hx;rw[EM I sr (n+1) u w x b r1 r2 e];exact Yz _
   .exact SeqAt.EqAt.of_refs hn rc
  cases z1:vw st u with
  |none=>unfold lO at e;rw[z1]at e;cases e
  |some k1=>
   cases z2:vw st w with
   |none=>unfold lO at e;rw[z1,z2]at e;cases k1<;>cases e
   |some k2=>
    have s1:=seen I sr r1 q1 z1;have s2:=seen I sr r2 q2 z2;unfold lO at e;rw[z1,z2]at e;cases k1 with
    |tup us=>
     obtain⟨a,aN,xs,rfl,p1,va,ra⟩:=s1;cases k2 with
     |tup ws=>obtain⟨a2,fH,ys,rfl,p2,vb,rb⟩:=s2;exact refs a a2 rfl rfl
     |lst ws=>obtain⟨a2,fH,ys,rfl,p2,vb,rb⟩:=s2;exact refs a a2 rfl rfl
     |u?=>
      cases e;rcases s2 with⟨_,rfl⟩|⟨k,_,rfl⟩|⟨k,t,_,rfl⟩|⟨k,t,_,rfl⟩
      .exact SeqAt.EqAt.tuple_none p1 ⋯
      .exact SeqAt.EqAt.tuple_bool _ p1 ⋯
      .exact SeqAt.EqAt.tuple_int _ _ p1 ⋯
      .exact SeqAt.EqAt.tuple_str _ _ p1 ⋯
    |lst us=>
     obtain⟨a,aN,xs,rfl,p1,va,ra⟩:=s1;cases k2 with
     |tup ws=>obtain⟨a2,fH,ys,rfl,p2,vb,rb⟩:=s2;exact refs a a2 rfl rfl
     |lst ws=>obtain⟨a2,fH,ys,rfl,p2,vb,rb⟩:=s2;exact refs a a2 rfl rfl
     |u?=>
      cases e;rcases s2 with⟨_,rfl⟩|⟨k,_,rfl⟩|⟨k,t,_,rfl⟩|⟨k,t,_,rfl⟩
      .exact SeqAt.EqAt.list_none p1 ⋯
      .exact SeqAt.EqAt.list_bool _ p1 ⋯
      .exact SeqAt.EqAt.list_int _ _ p1 ⋯
      .exact SeqAt.EqAt.list_str _ _ p1 ⋯
    |u?=>
     cases k2 with
     |tup ws=>
      obtain⟨a2,fH,ys,rfl,p2,vb,rb⟩:=s2;cases e;rcases s1 with⟨_,rfl⟩|⟨k,_,rfl⟩|⟨k,t,_,rfl⟩|⟨k,t,_,rfl⟩
      .exact SeqAt.EqAt.none_tuple p2 ⋯
      .exact SeqAt.EqAt.bool_tuple _ p2 ⋯
      .exact SeqAt.EqAt.int_tuple _ _ p2 ⋯
      .exact SeqAt.EqAt.str_tuple _ _ p2 ⋯
     |lst ws=>
      obtain⟨a2,fH,ys,rfl,p2,vb,rb⟩:=s2;cases e;rcases s1 with⟨_,rfl⟩|⟨k,_,rfl⟩|⟨k,t,_,rfl⟩|⟨k,t,_,rfl⟩
      .exact SeqAt.EqAt.none_list p2 ⋯
      .exact SeqAt.EqAt.bool_list _ p2 ⋯
      .exact SeqAt.EqAt.int_list _ _ p2 ⋯
      .exact SeqAt.EqAt.str_list _ _ p2 ⋯
     |u?=>
      injection e with e;subst e;exact MQ s1 s2
def sA:F2:=λu w st=>match lO 16 st u w with
 |some b=>.ok (.bl b) st
 |none=>.bad
def vh:F2:=λu w st=>match lO 16 st u w with
 |some b=>.ok (.bl (!b)) st
 |none=>.bad
theorem I9(hu:X.A.units+64<cLine):gJ X (compareOp .Eq) (rM (wo X) E sA):=by
 intro ae s σ H x y v u Q I rx ry h;obtain⟨ρ,st,u1,w1,sr,r1,r2,h⟩:=h;unfold sA at h;split at h
 .rename_i b e;exact(QV I sr 15 (Dd I sr 15 X.A.in1 (by rw[in1_units];lia)) ⋯ r1 rx r2 ry e).1 X.prog X.w X.xe (EP X ae σ Q) ⟨.bl b,H,I,rfl,jJ sr h⟩
 .exact h.elim
theorem I_(hu:X.A.units+64<cLine):gJ X (compareOp .NotEq) (rM (wo X) E vh):=by
 intro ae s σ H x y v u Q I rx ry h;obtain⟨ρ,st,u1,w1,sr,r1,r2,h⟩:=h;unfold vh at h;split at h
 .rename_i b e;exact(QV I sr 15 (Dd I sr 15 X.A.in1 (by rw[in1_units];lia)) ⋯ r1 rx r2 ry e).2 X.prog X.w X.xe (EP X ae σ Q) ⟨.bl (!b),H,I,rfl,jJ sr h⟩
 .exact h.elim
def OA(st:af):aj->Option (List aj)
 |.tup us=>some us
 |.mt us=>some us
 |.loc n=>aq st n
 |_=>none
def QW(neg:Bool):F2:=λu w st=>match OA st w with
 |some us=>if flat u=true/\us.all flat=true then .ok (.bl (if neg then !us.any (λy=>QU y u)else us.any (λy=>QU y u))) st else .bad
 |none=>.bad
theorem qV{K:_g}{u w:aj}{x y:V}(f1:flat u=true)(f2:flat w=true)(r1:Rl K ρ H u x)(r2:Rl K ρ H w y):oA x=true/\oA y=true/\Ln x y=QU u w:=by
 cases u<;>(try cases f1)<;>cases w<;>(try cases f2)<;>
  (first|(have z1:=Rl.dh r1;subst z1)|(have z1:=Rl.xZ r1;subst z1)|(have z1:=Rl.oo r1;subst z1)|(have z1:=Rl.oq r1;subst z1))<;>
  (first|(have z2:=Rl.dh r2;subst z2)|(have z2:=Rl.xZ r2;subst z2)|(have z2:=Rl.oo r2;subst z2)|(have z2:=Rl.oq r2;subst z2))<;>exact⟨rfl,rfl,rfl⟩
theorem qW{K:_g}{u:aj}{x:V}(f:flat u=true)(r:Rl K ρ H u x):∀{us:List aj}{vs:List V},us.all flat=true->bC K ρ H us vs->vs.all oA=true/\inV x vs=us.any λy=>QU y u
 |[],vs,_,h=>by rw[h.gW];exact⟨rfl,rfl⟩
 |w::us,vs,hf,h=>by obtain⟨v,r',rfl,h2,h3⟩:=h.cY;rw[Yl,Xd]at hf;obtain⟨a,b,c⟩:=qV hf.1 f h2 r;obtain⟨d,e⟩:=qW f r hf.2 h3;refine⟨by rw[Yl,a,d];rfl,?_⟩;show(Ln v x || inV x r')=_;rw[c,e];rfl
theorem MR{neg:Bool}{x y:V}{H:Hp}(h:rM (wo X) E (QW neg) x y H Q):rIn X.K neg x y H Q:=by
 obtain⟨ρ,st,u,w,sr,r1,r2,h⟩:=h;unfold QW at h;split at h
 .rename_i us e;split at h
  .rename_i hz;cases w with
   |tup ws=>
    cases e;obtain⟨a,vs,rfl,ha,ra⟩:=r2.jL;obtain⟨q1,q2⟩:=qW hz.1 r1 hz.2 ra;refine⟨a,vs,rfl,.inr ha,(qV hz.1 hz.1 r1 r1).1,q1,?_⟩;rw[q2];exact jJ sr h
   |mt ws=>
    cases e;obtain⟨a,vs,rfl,ha,ra⟩:=r2.mt_;obtain⟨q1,q2⟩:=qW hz.1 r1 hz.2 ra;refine⟨a,vs,rfl,.inr ha,(qV hz.1 hz.1 r1 r1).1,q1,?_⟩;rw[q2];exact jJ sr h
   |loc n=>
    obtain⟨a,rfl,ha⟩:=r2.fU;obtain⟨vs,hs,ra⟩:=bI sr e ha;obtain⟨q1,q2⟩:=qW hz.1 r1 hz.2 ra;refine⟨a,vs,rfl,.inl hs,(qV hz.1 hz.1 r1 r1).1,q1,?_⟩;rw[q2];exact jJ sr h
   |_=>cases e
  .exact h.elim
 .exact h.elim
theorem QX:gJ X (compareOp .In) (rM (wo X) E (QW false)):=gJ.imp Gg λ_ _ _ _ h=>MR h
def Lq(neg:Bool):F2
 |.dj,.dj,st=>.ok (.bl (!neg)) st
 |.bl a,.bl b,st=>.ok (.bl (if neg then a !=b else a==b)) st
 |.int _,.dj,st=>.ok (.bl neg) st
 |.bl _,.dj,st=>.ok (.bl neg) st
 |.str _,.dj,st=>.ok (.bl neg) st
 |.tup _,.dj,st=>.ok (.bl neg) st
 |.loc _,.dj,st=>.ok (.bl neg) st
 |_,_,_=>.bad
theorem I!:gJ X (compareOp .Is) (λx y H Q=>∃a b,x=.bl a/\y=.bl b/\Q (.bl (a==b)) H):=by rintro ae s σ H x y v u Q I rx ry ⟨a,b,rfl,rfl,q⟩;cases rx;cases ry;exact is_bool ⟨.bl _,H,I,rfl,q⟩
theorem QY:gJ X (compareOp .Is) (rM (wo X) E (Lq false)):=by
 refine gJ.imp (gJ.or PX I!) ?_;rintro x y H Q ⟨ρ,st,u,w,sr,r1,r2,h⟩;cases u<;>cases w<;>try exact h.elim
 case bl.bl a b=>exact .inr ⟨a,b,r1.xZ,r2.xZ,jJ sr h⟩
 case dj.dj=>exact .inl ⟨r2.oq,by rw[r1.oq];exact jJ sr h⟩
 case int.dj i=>exact .inl ⟨r2.oq,by rw[r1.dh];exact jJ sr h⟩
 case bl.dj i=>exact .inl ⟨r2.oq,by rw[r1.xZ];exact jJ sr h⟩
 case str.dj i=>exact .inl ⟨r2.oq,by rw[r1.oo];exact jJ sr h⟩
 case tup.dj i=>obtain⟨a,vs,rfl,_⟩:=r1.jL;exact .inl ⟨r2.oq,jJ sr h⟩
 case loc.dj i=>obtain⟨a,rfl,_⟩:=r1.fU;exact .inl ⟨r2.oq,jJ sr h⟩
end
section
variable{pos:Pos}
def bJ:F2
 |.tup us,.int i,st=>match oy us i with
  |some v=>.ok v st
  |none=>.bad
 |.loc n,.int i,st=>match aq st n with
  |some us=>match oy us i with
   |some v=>.ok v st
   |none=>.bad
  |none=>.bad
 |.str z,.int i,st=>if z.length<=sizeLine then(match oy z.cps.toList i with
   |some c=>.ok (.str ⟨#[c]⟩) st
   |none=>.bad)else .bad
 |_,_,_=>.bad
theorem bC.oy{K:_g}{us:List aj}{vs:List V}{i:Int}{u:aj}(r:bC K ρ H us vs)(h:oy us i=some u):∃v,L2.oy vs i=some v/\Rl K ρ H u v:=by
 unfold L2.oy at h⊢;rw[<-r.length];cases z:Bo us.length i with
 |none=>rw[z]at h;cases h
 |some j=>
  rw[z]at h;obtain⟨v,h1,h2⟩:=r.get (show us[j]?=some u from h);exact⟨v,h1,h2⟩
theorem abK:CB X (rM (wo X) E bJ):=by
 refine CB.imp (CB.or Mb (CB.or a! Qa)) ?_;rintro x y H Q ⟨ρ,st,u,w,sr,r1,r2,h⟩;cases u<;>cases w<;>try exact h.elim
 case tup.int us i=>
  unfold bJ at h;dsimp only at h;split at h
  .rename_i v e;obtain⟨a,vs,rfl,ha,ra⟩:=r1.jL;obtain⟨z,h1,h2⟩:=ra.oy e;exact .inr (.inl ⟨a,vs,i,z,rfl,r2.dh,ha,h1,h ρ H z (aX.refl _ _) sr h2⟩)
  .exact h.elim
 case loc.int n i=>
  unfold bJ at h;dsimp only at h;split at h
  .rename_i us e;split at h
   .rename_i v e';obtain⟨a,rfl,ha⟩:=r1.fU;obtain⟨vs,hs,rv⟩:=bI sr e ha;obtain⟨z,h1,h2⟩:=rv.oy e';exact .inl ⟨a,vs,i,z,rfl,r2.dh,hs,h1,h ρ H z (aX.refl _ _) sr h2⟩
   .exact h.elim
  .exact h.elim
 case str.int z i=>
  unfold bJ at h;dsimp only at h;split at h
  .rename_i hz;split at h
   .rename_i c e;exact .inr (.inr ⟨z,i,c,r1.oo,r2.dh,hz,e,h ρ H _ (aX.refl _ _) sr (Rl.mkStr _)⟩)
   .exact h.elim
  .exact h.elim
def bD:FN
 |[.tup us],st=>.ok (.int us.length) st
 |[.loc n],st=>match aq st n with
  |some us=>.ok (.int us.length) st
  |none=>.bad
 |[.str z],st=>if z.length<=sizeLine then .ok (.int z.length) st else .bad
 |_,_=>.bad
theorem yP:dE X (.builtin "len") (cM (wo X) E bD):=by
 refine dE.imp (dE.or z8 z_) ?_;rintro xs H Q ⟨ρ,st,us,sr,r,h⟩
 match us,r,h with
 |[],_,h=>exact h.elim
 |[.tup ws],r,h=>
  obtain⟨v,rfl,r1⟩:=r.C_;obtain⟨a,vs,rfl,ha,ra⟩:=r1.jL;refine .inl ⟨a,vs,rfl,.inr ha,?_⟩;rw[<-ra.length];exact f7 sr h
 |[.loc n],r,h=>
  obtain⟨v,rfl,r1⟩:=r.C_;obtain⟨a,rfl,ha⟩:=r1.fU;unfold bD at h;dsimp only at h;split at h
  .rename_i ws e;obtain⟨vs,hs,rv⟩:=bI sr e ha;refine .inl ⟨a,vs,rfl,.inl hs,?_⟩;rw[<-rv.length];exact f7 sr h
  .exact h.elim
 |[.str z],r,h=>
  obtain⟨v,rfl,r1⟩:=r.C_;unfold bD at h;dsimp only at h;split at h
  .rename_i hz;exact .inr ⟨z,by rw[r1.oo],hz,f7 sr h⟩
  .exact h.elim
 |[.dj],_,h=>exact h.elim
 |[.bl _],_,h=>exact h.elim
 |[.int _],_,h=>exact h.elim
 |[.exc _],_,h=>exact h.elim
 |[.fn _ _],_,h=>exact h.elim
 |[.mt _],_,h=>exact h.elim
 |x::y::r,_,h=>cases x<;>exact h.elim
def BC:FN
 |[.int i],st=>.ok (.int (if i<0 then -i else i)) st
 |_,_=>.bad
theorem GG:dE X (.builtin "abs") (cM (wo X) E BC):=by
 refine dE.imp H_ ?_;rintro xs H Q ⟨ρ,st,us,sr,r,h⟩;unfold BC at h;split at h
 .rename_i i;obtain⟨v,rfl,r1⟩:=r.C_;exact⟨i,by rw[r1.dh],f7 sr h⟩
 .exact h.elim
def De:FN
 |[.tup us],st=>.ok (.tup us) st
 |[.loc n],st=>match aq st n with
  |some us=>.ok (.tup us) st
  |none=>.bad
 |_,_=>.bad
theorem GH:dE X (.type "tuple") (cM (wo X) E De):=by
 refine dE.imp xV ?_;rintro xs H Q ⟨ρ,st,us,sr,r,h⟩;unfold De at h;split at h
 .rename_i ws;obtain⟨v,rfl,r1⟩:=r.C_;obtain⟨a,vs,rfl,ha,ra⟩:=r1.jL;exact⟨a,vs,rfl,.inr ⟨ha,h ρ H _ (aX.refl _ _) sr r1⟩⟩
 .rename_i n;obtain⟨v,rfl,r1⟩:=r.C_;obtain⟨a,rfl,ha⟩:=r1.fU;split at h
  .rename_i ws e;obtain⟨vs,hs,rv⟩:=bI sr e ha;refine⟨a,vs,rfl,.inl ⟨hs,λl hl=>?_⟩⟩;have s:=fJ (o:=.tup vs) hl;exact h ρ _ _ (aX.same s) (sr.grow s) (Rl.yK cC (bC.mono (aX.same s) _ _ rv))
  .exact h.elim
 .exact h.elim
def qd:FN
 |[.tup us],st=>.ok (.loc st.length) (st++[.lst us])
 |[.loc n],st=>match aq st n with
  |some us=>.ok (.loc st.length) (st++[.lst us])
  |none=>.bad
 |_,_=>.bad
theorem GJ:dE X (.type "list") (cM (wo X) E qd):=by
 refine dE.imp z! ?_;rintro xs H Q ⟨ρ,st,us,sr,r,h⟩;unfold qd at h;split at h
 .rename_i ws;obtain⟨v,rfl,r1⟩:=r.C_;obtain⟨a,vs,rfl,ha,ra⟩:=r1.jL;refine⟨a,vs,rfl,.inr ha,λl hl=>?_⟩;obtain⟨k1,k2,k3⟩:=jf sr ra hl;exact h _ _ _ k1 k2 k3
 .rename_i n;obtain⟨v,rfl,r1⟩:=r.C_;obtain⟨a,rfl,ha⟩:=r1.fU;split at h
  .rename_i ws e;obtain⟨vs,hs,rv⟩:=bI sr e ha;refine⟨a,vs,rfl,.inl hs,λl hl=>?_⟩;obtain⟨k1,k2,k3⟩:=jf sr rv hl;exact h _ _ _ k1 k2 k3
  .exact h.elim
 .exact h.elim
def p4:List aj->Option (List Bool)
 |[]=>some []
 |.bl b::r=>(p4 r).map (b :: ·)
 |_=>none
theorem yQ{K:_g}{ρ:_k}{H:Hp}:∀{us:List aj}{bs:List Bool}{vs:List V}{aN:_i},p4 us=some bs->bC K ρ H us vs->bx vs aN->LSm.BoolsAre aN bs
 |[],bs,vs,aN,h,r,v=>by cases h;have:=r.gW;subst this;cases v;exact .nil
 |u::us,bs,vs,aN,h,r,v=>by
  cases u with
  |bl b=>
   simp only[p4]at h;cases z:p4 us with
   |none=>rw[z]at h;cases h
   |some bs'=>
    rw[z]at h;cases h;obtain⟨x,r',rfl,h2,h3⟩:=r.cY;have:=h2.xZ;subst this;cases v with
    |cons q1 q2=>
     cases q1;exact .cons b (yQ z h3 q2)
  |_=>cases h
theorem wb(hh:X.A.handled=none):dE X (.builtin "all") (λxs H Q=>∃a ρ us vs bs,xs=[.ref a]/\pk X.K H a vs/\bC X.K ρ H us vs/\p4 us=some bs/\Q (.bl (bs.all id)) H):=by
 rintro ae s σ H xs ws Q I r ⟨a,ρ,us,vs,bs,rfl,hs,rv,hb,q⟩;obtain⟨u,rfl,ru⟩:=vals1 r;cases ru;obtain⟨aN,r1,p1,_⟩:=I.list hs;have B:=yQ hb rv r1;have hl:=p1.isList;have uI:a<s.heap.objs.size:=by obtain⟨_,e,_⟩:=hl;exact VI e
 refine call_all_walk (Y5 hl ?_);refine⟨s.heap.objs.size,[s.heap.objs.size,a],[s.heap.objs.size],aN.toArray.size,_,_,λi=>(bs[i]?).getD true,rfl,Walks.list (A:=X.A.in1) hh _ a (V7 uI) aN.toArray,
  ⟨⟨_,VT _ rfl,rfl,rfl⟩,hl.push _⟩,λi v s' Q' E' hP hQ=>?_,λh' tk hk=>?_⟩
 .obtain⟨b,e,rfl⟩:=B.get i v (by simpa using hP);simp only[e,Option.getD_some]at hQ;exact Xv hQ
 .have e:((List.range aN.toArray.size).all λi=>(bs[i]?).getD true)=bs.all id:=by rw[VB,B.length];exact LSm.range_all bs
  rw[e];exact⟨.bl _,H,I.kept (LSm.kept_iter hk),rfl,q⟩
def Df:FN
 |[.loc n],st=>match aq st n with
  |some us=>match p4 us with
   |some bs=>.ok (.bl (bs.all id)) st
   |none=>.bad
  |none=>.bad
 |_,_=>.bad
theorem MS(hc:dE X (.builtin "all") (λxs H Q=>∃a ρ us vs bs,xs=[.ref a]/\pk X.K H a vs/\bC X.K ρ H us vs/\p4 us=some bs/\Q (.bl (bs.all id)) H)):dE X (.builtin "all") (cM (wo X) E Df):=by
 refine dE.imp hc ?_;rintro xs H Q ⟨ρ,st,us,sr,r,h⟩;unfold Df at h;split at h
 .rename_i n;obtain⟨v,rfl,r1⟩:=r.C_;obtain⟨a,rfl,ha⟩:=r1.fU;split at h
  .rename_i ws e;split at h
   .rename_i bs hb;obtain⟨vs,hs,rv⟩:=bI sr e ha;exact⟨a,ρ,ws,vs,bs,rfl,hs,rv,hb,jJ sr h⟩
   .exact h.elim
  .exact h.elim
 .exact h.elim
theorem GK(hh:X.A.handled=none):dE X (.builtin "all") (cM (wo X) E Df):=MS (wb hh)
def kindOf(st:af):aj->Option String
 |.dj=>some "NoneType"
 |.bl _=>some "bool"
 |.int _=>some "int"
 |.str _=>some "str"
 |.tup _=>some "tuple"
 |.loc n=>match st[n]? with
  |some (.lst _)=>some "list"
  |some (.QB _)=>some "list"
  |some (.mod _)=>none
  |some (.dK _)=>some "dict"
  |some (.dT _)=>some "dict"
  |_=>none
 |_=>none
def isT(T:String)(st:af)(v:aj):Option Bool:=(kindOf st v).map λk=>k==T || (k == "bool" && T == "int")
def mIs(T:String)(m:ME):ME:=λμ st=>(m μ st).bind λv aI=>match isT T aI v with
 |some b=>.ok (.bl b) aI
 |none=>.bad
def QZ(K:_g)(T:String):Prop:=∀k∈["NoneType","bool","int","str","tuple","list","dict"],W.kitOne K (.type k) (.type T)=some (k==T || (k == "bool" && T == "int"))
theorem Dg{st:af}{v:aj}{k:String}(h:kindOf st v=some k):k∈["NoneType","bool","int","str","tuple","list","dict"]:=by
 unfold kindOf at h;split at h
 all_goals first
  |(cases h;decide)
  |(split at h<;>first|(cases h;decide)|cases h)
  |cases h
theorem I?{E:_c}{Q:_c}{c:_m}{b:Bool}{st:af}{u:aj}{x:V}{v:_m}{k:String}(I:a9 X ae σ H s)(sr:SR X.K ρ st H)(r:Rl X.K ρ H u x)(q:bW x v)(hk:kindOf st u=some k)(e:W.kitOne X.K (.type k) c=some b)(h:∀tk,Q (.bool b) {s with toks:=tk}):
  wpAny (model X.prog X.w) A (call (.builtin "isinstance") [v,c]) Q E s:=by
 cases u with
 |dj=>cases hk;have:=r.oq;subst this;exact iw I q .dj e h
 |bl y=>cases hk;have:=r.xZ;subst this;exact iw I q (.bl y) e h
 |int i=>cases hk;have:=r.dh;subst this;exact iw I q (.int i) e h
 |str y=>cases hk;have:=r.oo;subst this;exact iw I q (.str y) e h
 |tup us=>
  cases hk;obtain⟨a,vs,rfl,ha,ra⟩:=r.jL;cases q;obtain⟨aN,r1,⟨o,h1,h2,_⟩,_⟩:=I.tuple ha;exact Ww ZS I.A8 ⟨o,h1,h2⟩ e (λz=>nomatch z) h
 |loc n=>
  obtain⟨a,rfl,ha⟩:=r.fU;obtain⟨cl,hc,kc⟩:=sr.there ha;simp only[kindOf,hc]at hk;cases cl with
  |lst us=>cases hk;obtain⟨vs,h1,_⟩:=kc;exact iw I q (.lst h1) e h
  |QB us=>cases hk;obtain⟨o,vs,h1,_⟩:=kc;exact iw I q (.lX h1) e h
  |mod us=>cases hk
  |dK us=>cases hk;obtain⟨vs,h1,_⟩:=kc;exact iw I q (.dK h1) e h
  |dT us=>cases hk;obtain⟨vs,h1,_⟩:=kc;exact iw I q (.dT h1) e h
  |tab _ _ _ _=>cases hk
  |ins _ _=>cases hk
  |fd _=>cases hk
 |exc c=>cases hk
 |fn k c=>cases hk
 |mt us=>cases hk
theorem Ja{T:String}{e:Expr}{m:ME}{p q:Pos}(hK:QZ X.K T)(hg:Gl X "isinstance")(hm:X.mg "isinstance" = none)(hgT:Gl X x)(hmT:X.mg x=none)(hvT:bootBuiltins x=some (.type T))(he:PE X e (tE X E m))(hn:x ≠ "__name__":=by decide)(hd:(x==("__debug__":Str))=false:=by decide)(hs:starEach [e,.Name x q] X.env=(false,eval e X.env)::starEach [.Name x q] X.env:=by rfl)(su:starEach [.Name x q] X.env=(false,eval (.Name x q) X.env)::starEach [] X.env:=by rfl)(tZ:(backTo pos (starEach [.Name x q] X.env)).any (·.1)=false:=by rfl):PE X (.Call (.Name "isinstance" p) [e,.Name x q] [] pos) (tE X E (mIs T m)):=by
 have hc:dE X (.builtin "isinstance") (λxs H Q=>∃y ρ st u k b,xs=[y,.ty T]/\SR X.K ρ st H/\Rl X.K ρ H u y/\kindOf st u=some k/\W.kitOne X.K (.type k) (.type T)=some b/\Q (.bl b) H):=by rintro ae s σ H xs us Q I r ⟨y,ρ,st,u,k,b,rfl,sr,r1,h1,h2,h3⟩;obtain⟨v1,v2,rfl,q1,q2⟩:=vals2 r;cases q2;exact I? I sr r1 q1 h1 h2 λtk=>⟨.bl b,H,I.tok tk,rfl,h3⟩
 refine PE.imp (Bm hc hg hm PyProof.Rows.boot_isinstance (ve he (ve (LH (v:=.ty T) hgT hmT hvT rfl hn hd) CP su) hs) ⋯ ⋯ hs tZ) ?_;nofun;cases z:kindOf st1 u with
 |none=>simp only[isT,z]at h1;exact h1.elim
 |some k=>
  simp only[isT,z]at h1;exact⟨x,ρ1,st1,u,k,_,rfl,dM,r1,z,hK k (Dg z),jJ dM h1⟩
end
theorem Jb{K:_g}:QZ K "int":=by intro k hk;simp only[VX,List.mem_nil_iff,YI]at hk;rcases hk with rfl|rfl|rfl|rfl|rfl|rfl|rfl<;>first|rfl|kernel_rfl
theorem GL{K:_g}:QZ K "bool":=by intro k hk;simp only[VX,List.mem_nil_iff,YI]at hk;rcases hk with rfl|rfl|rfl|rfl|rfl|rfl|rfl<;>first|rfl|kernel_rfl
abbrev AS:=aj->Env->Option Env
def aA(i:Nat):AS:=λv μ=>some (μ.set i (some v))
def yR:List AS->List aj->Env->Option Env
 |[],[],μ=>some μ
 |a::as,v::vs,μ=>(a v μ).bind λμ'=>yR as vs μ'
 |_,_,_=>none
def js(l:List AS):AS:=λv μ=>match v with
 |.tup vs=>yR l vs μ
 |_=>none
def tA(W:Wo)(a:AS):TG:=λv σ H Q=>∃μ ρ u μ',RS W ρ H μ σ/\Rl W.K ρ H u v/\a u μ=some μ'/\∀σ',RS W ρ H μ' σ'->Q σ' H
def tAs(W:Wo)(l:List AS):LN:=λvs σ H Q=>∃μ ρ us μ',RS W ρ H μ σ/\bC W.K ρ H us vs/\yR l us μ=some μ'/\∀σ',RS W ρ H μ' σ'->Q σ' H
section
variable{pos:Pos}
theorem CJ.imp{e:List Expr}{t t':LN}(h:CJ X e t)(k:∀v σ H Q,t' v σ H Q->t v σ H Q):CJ X e t':=λae s σ H v u Q I r q=>h ae s σ H v u Q I r (k v σ H Q q)
theorem MU(i:Nat)(hN:X.N.Nodup)(hi:X.N[i]?=some x:=by rfl)(hx:Loc X.env.scope x:=by left)(hf:X.fn x=true\/X.env.scope.names.lookup x=some .local:=by left):PG X (.Name x pos) (tA (wo X) (aA i)):=by refine PG.imp (LQ hN hi hx hf) ?_;rintro v σ H Q ⟨μ,ρ,u,μ',rs,r,e,q⟩;cases e;exact q _ (rs.set i r)
theorem MV:CJ X [] (tAs (wo X) []):=by
 refine CJ.imp LR ?_;rintro vs σ H Q ⟨μ,ρ,us,μ',rs,r,e,q⟩;cases us with
 |nil=>cases e;exact⟨r.gW,q σ rs⟩
 |cons=>cases e
theorem Jc{e:Expr}{a:AS}{as:List AS}(h1:PG X e (tA (wo X) a))(h2:CJ X es (tAs (wo X) as))(hs:(assignEach (e::es) X.env).map (·.2)=assign e X.env::(assignEach es X.env).map (·.2):=by rfl):CJ X (e::es) (tAs (wo X) (a::as)):=by
 refine CJ.imp (HW h1 h2 hs) ?_;rintro vs σ H Q ⟨μ,ρ,us,μ',rs,r,e,q⟩;cases us with
 |nil=>cases e
 |cons u us=>
  obtain⟨v,r',rfl,ru,rr⟩:=r.cY;unfold yR at e;cases z:a u μ with
  |none=>rw[z]at e;cases e
  |some μ1=>
   rw[z]at e;exact⟨v,r',rfl,μ,ρ,u,μ1,rs,ru,z,λσ1 S_=>⟨μ1,ρ,us,μ',S_,rr,e,q⟩⟩
theorem Q0{k:Nat}{l:List AS}(hc:X.calm=true)(h:CJ X es (tAs (wo X) l))(hn:(assignEach es X.env).length=l.length:=by rfl)(yx:(assignEach es X.env).findIdx? (·.1)=none:=by rfl):PG X (.Tuple es k pos) (tA (wo X) (js l)):=by
 refine PG.imp (Pw hc h hn yx) ?_;rintro v σ H Q ⟨μ,ρ,u,μ',rs,r,e,q⟩;cases u with
 |tup us=>
  obtain⟨a,vs,rfl,ha,ra⟩:=r.jL;have len:∀(l:List AS)(us:List aj)(μ:Env),yR l us μ=some μ'->us.length=l.length:=by
   intro l
   induction l with
   |nil=>intro us μ e;cases us with|nil=>rfl|cons=>cases e
   |cons a l ih=>
    intro us μ e;cases us with
    |nil=>cases e
    |cons u us=>
     unfold yR at e;cases z:a u μ with
     |none=>rw[z]at e;cases e
     |some μ1=>rw[z]at e;rw[Vi,Vi,ih us μ1 e]
  exact⟨a,vs,rfl,ha,by rw[<-ra.length];exact len _ _ _ e,μ,ρ,us,μ',rs,ra,e,q⟩
 |_=>cases e
def acz(a:AS)(m:ME):MB:=λμ st=>(m μ st).sb μ λv aI=>match a v μ with
 |some μ'=>.nx μ' aI
 |none=>.bad
end
abbrev Itm:=List aj×(af->Prop)
abbrev MI:=Env->af->fu Itm
def Q3(K:_g)(ρ0:_k)(H0:Hp)(p:Itm)(J:It):Prop:=
 ∀ρ st H,aX ρ0 H0 ρ H->SR K ρ st H->p.2 st->∀i:Nat,
  (∀u,p.1[i]?=some u->J.go i H/\∀x H',J.SW i H x H'->aX ρ H ρ H'/\SR K ρ st H'/\Rl K ρ H' u x)/\(p.1.length<=i->J.stop i H)
abbrev tI(X:Cx)(E:XK)(m:MI):TI:=tG (wo X) E (Q3 X.K) m
section
variable{pos p:Pos}
theorem PI.imp{it:Expr}{t t':TI}(h:PI X tg it t)(k:∀σ H Q,t' σ H Q->t σ H Q):PI X tg it t':=λae s σ H R I q=>h ae s σ H R I (k σ H R q)
theorem Q4{l:Expr}{tl:TE}(hl:PE X l tl):PI X tg l (λσ H R=>tl σ H λx H1=>∃a,x=.ref a/\(((∃xs,pk X.K H1 a xs)/\R (Itl X.K a) H1)\/((∃xs,pZ X.K H1 a xs)/\R (Itt X.K a) H1))):=by
 intro ae s σ H R I h;refine fv (hl ae s σ H _ I h) λv s1⟨x,H1,I1,r1,q1⟩=>?_;obtain⟨a,e,q⟩:=q1;subst e;cases r1;rcases q with⟨⟨xs,hq⟩,q⟩|⟨⟨xs,hq⟩,q⟩
 .obtain⟨aN,rv,p,hz⟩:=I1.list hq;refine Y5 p.isList ?_;refine⟨s1.heap.objs.size,[s1.heap.objs.size],_,_,H1,rfl,I1.kept (t':=s1.toks) λb o e=>Vl _ e,F! a _,⟨_,VT _ rfl,rfl,rfl⟩,λb hb=>?_,q⟩;have e:b=s1.heap.objs.size:=by simpa using hb
  subst e;exact I1.Bi (Vt _) (I1.dJ.fresh (Vt _))
 .obtain⟨aN,rv,p,hz⟩:=I1.tuple hq;refine wpAny_pyIter_tuple (show s1.heap.IsTuple a aN.toArray from p) ?_;refine⟨s1.heap.objs.size,[s1.heap.objs.size],_,_,H1,rfl,I1.kept (t':=s1.toks) λb o e=>Vl _ e,CK a _,⟨_,VT _ rfl,rfl,rfl⟩,λb hb=>?_,q⟩;have e:b=s1.heap.objs.size:=by simpa using hb
  subst e;exact I1.Bi (Vt _) (I1.dJ.fresh (Vt _))
def wd(st:af):aj->Option Itm
 |.tup us=>some (us,λ_=>True)
 |.mt us=>some (us,λ_=>True)
 |.loc n=>(aq st n).map λus=>(us,λaI=>aq aI n=some us)
 |_=>none
def f9(m:ME):MI:=λμ st=>(m μ st).bind λv aI=>match wd aI v with
 |some p=>.ok p aI
 |none=>.bad
theorem Jd{K:_g}{n:Nat}{us:List aj}{a:_o}(ha:ρ[n]?=some a)(hsq:∀{ρ':_k}{aI:af}{H':Hp},SR K ρ' aI H'->aq aI n=some us->ρ'[n]?=some a->∃vs,pk K H' a vs/\bC K ρ' H' us vs):
  Q3 K ρ H (us,λaI=>aq aI n=some us) (Itl K a):=by
 intro ρ' aI H' e sr g i;obtain⟨vs,hs,rv⟩:=hsq sr g (e.at_ ha);refine⟨λu hu=>?_,λhi=>⟨vs,hs,by rw[<-rv.length];exact hi⟩⟩;obtain⟨v,hv,ru⟩:=rv.get hu;refine⟨⟨vs,v,hs,hv⟩,λx U3 y=>?_⟩;obtain⟨rfl,y⟩:=y;have e:=(y vs hs).symm.trans hv;cases e;exact⟨aX.refl _ _,sr,ru⟩
theorem EN{K:_g}{us:List aj}{a:_o}{vs:List V}(ha:pZ K H a vs)(ra:bC K ρ H us vs):Q3 K ρ H (us,λ_=>True) (Itt K a):=by intro ρ' aI H' e sr g i;have U4:pZ K H' a vs:=e.sqT ha;have rv:=bC.mono e _ _ ra;refine⟨λu hu=>?_,λhi=>⟨vs,U4,by rw[<-rv.length];exact hi⟩⟩;obtain⟨v,hv,ru⟩:=rv.get hu;refine⟨⟨vs,v,U4,hv⟩,λx U3 y=>?_⟩;obtain⟨rfl,y⟩:=y;have e:=(y vs U4).symm.trans hv;cases e;exact⟨aX.refl _ _,sr,ru⟩
theorem Q5{l:Expr}{m:ME}(hl:PE X l (tE X E m)):PI X tg l (tI X E (f9 m)):=by
 refine PI.imp (Q4 hl) ?_;rintro σ H R ⟨μ,ρ,st,rs,sr,h⟩;refine go μ ρ st rs sr h λu st1 ρ1 H1 x e1 dM r1 h1=>?_;cases u with
 |tup us=>
  obtain⟨a,vs,rfl,ha,ra⟩:=r1.jL;exact⟨a,rfl,.inr ⟨⟨vs,ha⟩,h1 ρ1 H1 _ (aX.refl _ _) dM (EN ha ra)⟩⟩
 |mt us=>
  obtain⟨a,vs,rfl,ha,ra⟩:=r1.mt_;exact⟨a,rfl,.inr ⟨⟨vs,ha⟩,h1 ρ1 H1 _ (aX.refl _ _) dM (EN ha ra)⟩⟩
 |loc n=>
  obtain⟨a,rfl,ha⟩:=r1.fU;cases z:aq st1 n with
  |none=>simp only[wd,z]at h1;exact h1.elim
  |some us=>
   simp only[wd,z]at h1;obtain⟨vs,hs,rv⟩:=bI dM z ha;exact⟨a,rfl,.inl ⟨⟨vs,hs⟩,h1 ρ1 H1 _ (aX.refl _ _) dM (Jd ha λs g h=>bI s g h)⟩⟩
 |_=>exact h1.elim
def cO(lo:Int)(n:Nat):List aj:=(List.range n).map λ(i:Nat)=>aj.int (lo+(i:Int))
theorem yS{K:_g}(lo:Int)(n:Nat):Q3 K ρ H (cO lo n,λ_=>True) (TY lo n):=by
 intro ρ' aI H' e sr g i;refine⟨λu hu=>?_,λhi=>?_⟩
 .have hi:i<n:=by have:=aU hu;simpa[cO]using this
  refine⟨hi,λx U3 y=>?_⟩;obtain⟨rfl,rfl⟩:=y;have e:u=aj.int (lo+(i:Int)):=by simp only[cO,Vy]at hu;rw[Wg hi]at hu;exact(VP hu).symm
  subst e;exact⟨aX.refl _ _,sr,Rl.mkInt _⟩
 .show n<=i;simpa[cO]using hi
def f_(m:MA):MI:=λμ st=>(m μ st).bind λvs aI=>match vs with
 |[.int j]=>if -(2 ^ 62)<=j/\j<2 ^ 62 then .ok (cO 0 j.toNat,λ_=>True) aI else .bad
 |_=>.bad
def kx(m:MA):MI:=λμ st=>(m μ st).bind λvs aI=>match vs with
 |[.int i,.int j]=>if -(2 ^ 62)<=i/\i<2 ^ 62/\-(2 ^ 62)<=j/\j<2 ^ 62 then .ok (cO i (j-i).toNat,λ_=>True) aI else .bad
 |_=>.bad
theorem GN{a:Expr}{m:MA}(hg:Gl X "range")(hm:X.mg "range" = none)(ha:PA X [a] (tL X E m))(hs:starEach [a] X.env=[(false,eval a X.env)]:=by rfl):PI X tg (.Call (.Name "range" p) [a] [] pos) (tI X E (f_ m)):=by
 refine PI.imp (F? hg hm ha hs) ?_;rintro σ H R ⟨μ,ρ,st,rs,sr,h⟩;refine go (R1:=bC X.K) μ ρ st rs sr h λus st1 ρ1 H1 xs e1 dM r1 h1=>?_;split at h1
 .rename_i j;obtain⟨v,rfl,rv⟩:=r1.C_;split at h1
  .rename_i hz;exact⟨j,by rw[rv.dh],hz.1,hz.2,h1 ρ1 H1 _ (aX.refl _ _) dM (yS 0 j.toNat)⟩
  .exact h1.elim
 .exact h1.elim
theorem GO{a b:Expr}{m:MA}(hg:Gl X "range")(hm:X.mg "range" = none)(ha:PA X [a,b] (tL X E m))(hs:starEach [a,b] X.env=[(false,eval a X.env),(false,eval b X.env)]:=by rfl)(su:starEach [b] X.env=[(false,eval b X.env)]:=by rfl):
  PI X tg (.Call (.Name "range" p) [a,b] [] pos) (tI X E (kx m)):=by
 refine PI.imp (Ga hg hm ha hs su) ?_;rintro σ H R ⟨μ,ρ,st,rs,sr,h⟩;refine go (R1:=bC X.K) μ ρ st rs sr h λus st1 ρ1 H1 xs e1 dM r1 h1=>?_;split at h1
 .rename_i i j;obtain⟨v,w,rfl,rv,zX⟩:=r1.S9;split at h1
  .rename_i hz;exact⟨i,j,by rw[rv.dh,zX.dh],hz,h1 ρ1 H1 _ (aX.refl _ _) dM (yS i _)⟩
  .exact h1.elim
 .exact h1.elim
def jV(st:af):aj->Option (Bool×Itm)
 |.tup us=>some (false,us,λ_=>True)
 |.loc n=>(aq st n).map λus=>(true,us,λaI=>aq aI n=some us)
 |_=>none
def ou:List aj->List aj->List aj
 |x::xs,y::ys=>.tup [x,y]::ou xs ys
 |_,_=>[]
theorem EO:∀(us ws:List aj)(i:Nat),(∀z,(ou us ws)[i]?=some z->∃u w,us[i]?=some u/\ws[i]?=some w/\z=.tup [u,w])/\((ou us ws).length<=i->us.length<=i\/ws.length<=i)
 |[],_,i=>⟨λz h=>(by cases h),λ_=>.inl (Wd _)⟩
 |_::_,[],i=>⟨λz h=>(by cases h),λ_=>.inr (Wd _)⟩
 |u::us,w::ws,0=>⟨λz h=>(by cases h;exact⟨u,w,rfl,rfl,rfl⟩),λh=>(by simp[ou]at h)⟩
 |u::us,w::ws,i+1=>by
  obtain⟨a,b⟩:=EO us ws i;refine⟨λz h=>a z h,λh=>?_⟩;have h':(ou us ws).length<=i:=by simpa[ou]using h
  rcases b h' with q|q
  .exact .inl (by rw[Vi];lia)
  .exact .inr (by rw[Vi];lia)
def we(b1 b2:Bool)(m:MA):MI:=λμ st=>(m μ st).bind λvs aI=>match vs with
 |[u,w]=>match jV aI u,jV aI w with
  |some (c1,us,g1),some (c2,ws,g2)=>if c1=b1/\c2=b2 then .ok (ou us ws,λcJ=>g1 cJ/\g2 cJ) aI else .bad
  |_,_=>.bad
 |_=>.bad
theorem ER{K:_g}{st:af}{u:aj}{x:V}{c:Bool}{us:List aj}{g:af->Prop}(sr:SR K ρ st H)(r:Rl K ρ H u x)(h:jV st u=some (c,us,g))(hsq:∀{ρ':_k}{aI:af}{H':Hp}{n a},SR K ρ' aI H'->aq aI n=some us->ρ'[n]?=some a->∃vs,pk K H' a vs/\bC K ρ' H' us vs):
  ∃a,x=.ref a/\∀ρ' aI H',aX ρ H ρ' H'->SR K ρ' aI H'->g aI->∃vs,C7 c K H' a vs/\bC K ρ' H' us vs:=by
 cases u with
 |tup ws=>
  cases h;obtain⟨a,vs,rfl,ha,ra⟩:=r.jL;exact⟨a,rfl,λρ' aI H' e _ _=>⟨vs,e.sqT ha,bC.mono e _ _ ra⟩⟩
 |loc n=>
  obtain⟨a,rfl,ha⟩:=r.fU;cases z:aq st n with
  |none=>simp only[jV,z]at h;cases h
  |some ws=>
   simp only[jV,z]at h;cases h;exact⟨a,rfl,λρ' aI H' e s g=>hsq s g (e.at_ ha)⟩
 |_=>cases h
theorem Je{st:af}{u:aj}{c:Bool}{us:List aj}{g:af->Prop}(h:jV st u=some (c,us,g)):g st:=by
 cases u with
 |tup ws=>cases h;exact True.intro
 |loc n=>
  cases z:aq st n with
  |none=>simp only[jV,z]at h;cases h
  |some ws=>simp only[jV,z]at h;cases h;exact z
 |_=>cases h
theorem Q6(b1 b2:Bool){ea eb:Expr}{m:MA}(hg:Gl X "zip")(hm:X.mg "zip" = none)(ha:PA X [ea,eb] (tL X E m))(hs:starEach [ea,eb] X.env=[(false,eval ea X.env),(false,eval eb X.env)]:=by rfl)(su:starEach [eb] X.env=[(false,eval eb X.env)]:=by rfl):
  PI X (.Tuple elts kt tp) (.Call (.Name "zip" p) [ea,eb] [] pos) (tI X E (we b1 b2 m)):=by
 refine PI.imp (Qw b1 b2 hg hm ha hs su) ?_;rintro σ H R ⟨μ,ρ,st,rs,sr,h⟩;refine go (R1:=bC X.K) μ ρ st rs sr h λus st1 ρ1 H1 xs e1 dM r1 h1=>?_;split at h1
 .rename_i u w;obtain⟨x,y,rfl,rx,ry⟩:=r1.S9;split at h1
  .rename_i c1 us1 g1 c2 us2 g2 z1 z2;split at h1
   .rename_i hc;obtain⟨rfl,rfl⟩:=hc;obtain⟨a,rfl,ka⟩:=ER dM rx z1 λs g h=>bI s g h;obtain⟨b,rfl,kb⟩:=ER dM ry z2 λs g h=>bI s g h;obtain⟨v1,q1,_⟩:=ka ρ1 st1 H1 (aX.refl _ _) dM (Je z1);obtain⟨v2,q2,_⟩:=kb ρ1 st1 H1 (aX.refl _ _) dM (Je z2);refine⟨a,b,rfl,⟨v1,q1⟩,⟨v2,q2⟩,h1 ρ1 H1 _ (aX.refl _ _) dM ?_⟩;intro ρ' aI H' e s g i;obtain⟨w1,s1,t1⟩:=ka ρ' aI H' e s g.1;obtain⟨w2,s2,t2⟩:=kb ρ' aI H' e s g.2;obtain⟨k1,k2⟩:=EO us1 us2 i;refine⟨λz hz=>?_,λhi=>⟨w1,w2,s1,s2,?_⟩⟩
    .obtain⟨u',w',e1',e2',rfl⟩:=k1 z hz;obtain⟨p1,p2,p3⟩:=t1.get e1';obtain⟨o1,o2,o3⟩:=t2.get e2';refine⟨⟨w1,w2,p1,o1,s1,s2,p2,o2⟩,λx' U3 y'=>?_⟩;obtain⟨pp,x1,y1,rfl,hp,rfl,f1,f2⟩:=y';have c1:=(f1 w1 s1).symm.trans p2;have c2:=(f2 w2 s2).symm.trans o2;cases c1;cases c2;exact⟨aX.same (fJ hp),s.grow (fJ hp),Rl.yK cC (bC.mono (aX.same (fJ hp)) _ _ (bC.cons p3 (bC.one o3)))⟩
    .rw[<-t1.length,<-t2.length];exact k2 hi
   .exact h1.elim
  .exact h1.elim
 .exact h1.elim
end
open Classical in
def forL(g:af->Prop)(a:AS)(body:MB):List aj->MB
 |[],μ,st=>if g st then .nx μ st else .bad
 |u::us,μ,st=>if g st then(match a u μ with
  |some μ1=>match body μ1 st with
   |.nx μ' aI=>forL g a body us μ' aI
   |.ct μ' aI=>forL g a body us μ' aI
   |.bk μ' aI=>.nx μ' aI
   |.rt v aI=>.rt v aI
   |.er c μ' aI=>.er c μ' aI
   |.bad=>.bad
  |none=>.bad)else .bad
def ic(it:MI)(a:AS)(body:MB):MB:=λμ st=>(it μ st).sb μ λp aI=>forL p.2 a body p.1 μ aI
section
variable{pos p:Pos}
theorem Q7{sb:List Stmt}{it:MI}{a:AS}{body:MB}(hp:PassesOwn (model X.prog X.w) X.A X.env X.xe)(hc:X.calm=true)(hi:PI X tg iter (tI X E it))(hg:PG X tg (tA (wo X) a))(hb:pY X sb (tS X E body))(hs:∀x,foldedSetIterable iter X.env x=pure x:=by intro _;rfl):PS X (.For tg iter sb [] pos) (tS X E (ic it a body)):=by
 refine PS.imp (PF hp hc hi hg hb hs) ?_;rintro D σ H ⟨μ,ρ,st,rs,sr,h⟩;refine CF (R1:=Q3 X.K) μ ρ st rs sr h λpr st1 ρ1 H1 J e1 dM rJ h1=>?_;obtain⟨us,g⟩:=pr;refine⟨λi m σ' H'=>m=us.length-i/\i<=us.length/\∃μ' ρ' aI,aX ρ1 H1 ρ' H'/\RS (wo X) ρ' H' μ' σ'/\SR X.K ρ' aI H'/\wS (wo X) E ρ' H' D (forL g a body (us.drop i) μ' aI),
  ⟨us.length,by simp,Wd _,μ,ρ1,st1,aX.refl _ _,rs.mono e1,dM,h1⟩,?_⟩
 rintro i m σ' H' ⟨rfl,hi,μ',ρ',aI,e',A!,ES,h'⟩;by_cases uI:i<us.length
 .rw[Wq uI]at h';unfold forL at h';by_cases xM:g aI
  .rw[Vv xM]at h';obtain⟨k1,k2⟩:=rJ ρ' aI H' e' ES xM i;obtain⟨go',yl⟩:=k1 _ (Vk uI);refine .inr ⟨go',λσ2 H2=>i+1<=us.length/\∃μ2 ρ2 cJ,aX ρ1 H1 ρ2 H2/\RS (wo X) ρ2 H2 μ2 σ2/\SR X.K ρ2 cJ H2/\wS (wo X) E ρ2 H2 D (forL g a body (us.drop (i+1)) μ2 cJ),λσ2 H2 n=>⟨us.length-(i+1),⋯,rfl,n.1,n.2⟩,λx H2 y=>?_⟩;obtain⟨e2,qR,r2⟩:=yl x H2 y;cases z:a us[i] μ' with
   |none=>rw[z]at h';exact h'.elim
   |some μ1=>
    rw[z]at h';dsimp only at h';refine⟨μ',ρ',us[i],μ1,A!.mono e2,r2,z,λσ3 Lr=>⟨μ1,ρ',aI,Lr,qR,?_⟩⟩;cases zb:body μ1 aI with
    |nx μ4 qz=>
     rw[zb]at h';intro ρ4 H4 σ4 e4 uJ Dh;exact⟨⋯,μ4,ρ4,qz,(e'.trans e2).trans e4,Dh,uJ,wS.mono h' (e2.trans e4)⟩
    |ct μ4 qz=>
     rw[zb]at h';intro ρ4 H4 σ4 e4 uJ Dh;exact⟨⋯,μ4,ρ4,qz,(e'.trans e2).trans e4,Dh,uJ,wS.mono h' (e2.trans e4)⟩
    |bk μ4 qz=>rw[zb]at h';exact λρ4 H4 σ4 e4 uJ Dh=>h' ρ4 H4 σ4 (e2.trans e4) uJ Dh
    |rt v qz=>rw[zb]at h';exact λρ4 H4 σ4 e4 uJ Dh=>h' ρ4 H4 σ4 (e2.trans e4) uJ Dh
    |er c μ4 qz=>rw[zb]at h';obtain⟨C,q1,q2⟩:=h';exact⟨C,q1,λρ4 H4 e4 uJ=>q2 ρ4 H4 (e2.trans e4) uJ⟩
    |bad=>rw[zb]at h';exact h'
  .rw[VG xM]at h';exact h'.elim
 .have Bw:i=us.length:=⋯
  subst Bw;rw[ZA]at h';unfold forL at h';by_cases xM:g aI
  .rw[Vv xM]at h';exact .inl ⟨(rJ ρ' aI H' e' ES xM us.length).2 (Vt _),h' ρ' H' σ' (aX.refl _ _) ES A!⟩
  .rw[VG xM]at h';exact h'.elim
end
def i_(t:MT)(body:MB):Nat->Env->af->Option fI
 |0,_,_=>none
 |n+1,μ,st=>match t μ st with
  |.ok true st1=>match body μ st1 with
   |.nx μ' aI=>i_ t body n μ' aI
   |.ct μ' aI=>i_ t body n μ' aI
   |.bk μ' aI=>some (.nx μ' aI)
   |.rt v aI=>some (.rt v aI)
   |.er c μ' aI=>some (.er c μ' aI)
   |.bad=>some .bad
  |.ok false st1=>some (.nx μ st1)
  |.err c st1=>some (.er c μ st1)
  |.bad=>some .bad
open Classical in
def e!(t:MT)(body:MB):MB:=λμ st=>if h:∃n r,i_ t body n μ st=some r then h.choose_spec.choose else .bad
theorem oD{t:MT}{body:MB}:∀{n m:Nat}{μ:Env}{st:af}{r r':fI},i_ t body n μ st=some r->i_ t body m μ st=some r'->r=r'
 |0,_,_,_,_,_,h,_=>by cases h
 |_+1,0,_,_,_,_,_,h=>by cases h
 |n+1,m+1,μ,st,r,r',h,h'=>by
  unfold i_ at h h';split at h
  .rename_i st1 e;rw[e]at h';dsimp only at h';split at h
   all_goals (rename_i eb;rw[eb]at h';dsimp only at h')
   .exact oD h h'
   .exact oD h h'
   all_goals (cases h;cases h';rfl)
  all_goals (rename_i e;rw[e]at h';dsimp only at h';cases h;cases h';rfl)
theorem GP{t:MT}{body:MB}{n:Nat}{μ:Env}{st:af}{r:fI}(h:i_ t body n μ st=some r):e! t body μ st=r:=by
 have hx:∃n r,i_ t body n μ st=some r:=⟨n,r,h⟩
 unfold e!;rw[dif_pos hx];exact oD hx.choose_spec.choose_spec h
section
variable{pos:Pos}
theorem Jf{c:Expr}{sb:List Stmt}{t:MT}{body:MB}(hp:PassesOwn (model X.prog X.w) X.A X.env X.xe)(hc:PT X c (tT X E t))(hb:pY X sb (tS X E body)):PS X (.While c sb [] pos) (tS X E (e! t body)):=by
 refine PS.imp (HX hp hc hb) ?_;rintro D σ H ⟨μ,ρ,st,rs,sr,h⟩;unfold e! at h;split at h
 .rename_i hx;have hr:=hx.choose_spec.choose_spec;refine⟨λm σ' H'=>∃μ' ρ' aI r,aX ρ H ρ' H'/\RS (wo X) ρ' H' μ' σ'/\SR X.K ρ' aI H'/\i_ t body m μ' aI=some r/\wS (wo X) E ρ' H' D r,⟨_,μ,ρ,st,_,aX.refl _ _,rs,sr,hr,h⟩,?_⟩;rintro m σ' H' ⟨μ',ρ',aI,r,e',A!,ES,hw,hq⟩;cases m with
  |zero=>cases hw
  |succ m=>
   unfold i_ at hw;refine⟨μ',ρ',aI,A!,ES,?_⟩;cases z:t μ' aI with
   |ok k st1=>
    rw[z]at hw;intro ρ1 H1 k' e1 dM ek;cases ek;cases k with
    |true=>
     dsimp only at hw;rw[Vv rfl];refine⟨λσ2 H2=>∃μ2 ρ2 cJ r2,aX ρ H ρ2 H2/\RS (wo X) ρ2 H2 μ2 σ2/\SR X.K ρ2 cJ H2/\i_ t body m μ2 cJ=some r2/\wS (wo X) E ρ2 H2 D r2,λσ2 H2 n=>⟨m,X? m,n⟩,μ',ρ1,st1,A!.mono e1,dM,?_⟩;cases zb:body μ' st1 with
     |nx μ4 qz=>
      rw[zb]at hw;intro ρ4 H4 σ4 e4 uJ Dh;exact⟨μ4,ρ4,qz,r,(e'.trans e1).trans e4,Dh,uJ,hw,wS.mono hq (e1.trans e4)⟩
     |ct μ4 qz=>
      rw[zb]at hw;intro ρ4 H4 σ4 e4 uJ Dh;exact⟨μ4,ρ4,qz,r,(e'.trans e1).trans e4,Dh,uJ,hw,wS.mono hq (e1.trans e4)⟩
     |bk μ4 qz=>rw[zb]at hw;cases hw;exact λρ4 H4 σ4 e4 uJ Dh=>hq ρ4 H4 σ4 (e1.trans e4) uJ Dh
     |rt v qz=>rw[zb]at hw;cases hw;exact λρ4 H4 σ4 e4 uJ Dh=>hq ρ4 H4 σ4 (e1.trans e4) uJ Dh
     |er c μ4 qz=>rw[zb]at hw;cases hw;obtain⟨C,q1,q2⟩:=hq;exact⟨C,q1,λρ4 H4 e4 uJ=>q2 ρ4 H4 (e1.trans e4) uJ⟩
     |bad=>rw[zb]at hw;cases hw;exact hq
    |false=>
     cases hw;rw[VG VW];exact hq ρ1 H1 σ' e1 dM (A!.mono e1)
   |err c st1=>rw[z]at hw;cases hw;exact hq
   |bad=>rw[z]at hw;cases hw;exact hq
 .exact h.elim
end
def iV(k:Nat)(bM:List Nat)(μ:Env):Env:=List.replicate k none++bM.map λj=>(μ[j]?).getD none
theorem RS.cap{W:Wo}{μ:Env}{σ:L2.St}(r:RS W ρ H μ σ)(k:Nat)(bM:List Nat):RS W ρ H (iV k bM μ) (uG k bM σ):=by
 refine⟨by simp[iV,uG],λi u e=>?_⟩;unfold iV at e;rcases Wx i k with q|q
 .rw[V3 (by rw[V0];exact q),W8,Vv q]at e;cases e
 .rw[V2 (by rw[V0];exact q),V0,Vy]at e;cases z:bM[i-k]? with
  |none=>rw[z]at e;cases e
  |some j=>
   rw[z]at e;have e':(μ[j]?).getD none=some u:=VP e;have e2:μ[j]?=some (some u):=by
    cases y:μ[j]? with
    |none=>rw[y]at e';cases e'
    |some w=>rw[y]at e';exact WE _ e'
   obtain⟨v,h1,h2⟩:=r.at_ j u e2;refine⟨v,?_,h2⟩;unfold uG;rw[V2 (by rw[V0];exact q),V0,Vy,z];show some ((σ[j]?).getD none)=_;rw[h1];rfl
open Classical in
def dS(g:af->Prop)(a:AS)(c:MT)(e:ME):List aj->Env->af->List aj->fu (List aj)
 |[],_,st,ys=>if g st then .ok ys st else .bad
 |u::us,τ,st,ys=>if g st then(match a u τ with
  |some τ1=>match c τ1 st with
   |.ok true st1=>match e τ1 st1 with
    |.ok y cJ=>dS g a c e us τ1 cJ (ys++[y])
    |.err _ _=>.bad
    |.bad=>.bad
   |.ok false st1=>dS g a c e us τ1 st1 ys
   |.err _ _=>.bad
   |.bad=>.bad
  |none=>.bad)else .bad
def cH(k:Nat)(bM:List Nat)(it:MI)(a:AS)(c:MT)(e:ME):ME:=λμ st=>(it μ st).bind λp st1=>
 if p.1.length<=sizeLine then(dS p.2 a c e p.1 (iV k bM μ) st1 []).bind λys cJ=>.ok (.loc cJ.length) (cJ++[.lst ys])else .bad
def bj:MT:=λ_ st=>.ok true st
abbrev W0(X:Cx):Wo:=⟨X.K,X.mg,[]⟩
section
variable{pos IC:Pos}{cl:List (Str×_o)}{k:Nat}{it:MI}{a:AS}{c:MT}{e:ME}
theorem yT(U5:X.pn=[]){σ:L2.St}(h:tE X E (cH k bM it a c e) σ H Q):vZ k bM (tI X E it) (tA (W0 X) a) (tG (W0 X) E0 RB c) (tG (W0 X) E0 (Rl X.K) e) σ H Q:=by
 obtain⟨μ,ρ,st,rs,sr,h⟩:=h;refine IA (go (R1:=Q3 X.K) μ ρ st rs sr h λpr st1 ρ1 H1 J e1 dM rJ h1=>?_);obtain⟨us,g⟩:=pr;have ew:wo X=W0 X:=by show Wo.mk _ _ _=_;rw[U5]
 have S_:=rs.mono e1;rw[ew]at S_ h1;dsimp only at h1;split at h1
 .rename_i hz;refine Ms us.length hz (λi ys τ H'=>∃μτ ρ' aI yv,aX ρ1 H1 ρ' H'/\RS (W0 X) ρ' H' μτ τ/\SR X.K ρ' aI H'/\bC X.K ρ' H' yv ys/\yv.length<=i/\wR (W0 X) E (Rl X.K) ρ' H' Q ((dS g a c e (us.drop i) μτ aI yv).bind λ(zs:List aj)(cJ:af)=>fu.ok (aj.loc cJ.length) (cJ++[aZ.lst zs])))
   ⟨iV k bM μ,ρ1,st1,[],aX.refl _ _,S_.cap k bM,dM,bC.nil,Vt _,h1⟩ ?_ ?_ ?_ ?_ ?_
  .rintro i ys τ H' hi ⟨μτ,ρ',aI,yv,e',A!,ES,ry,hl,hq⟩;rw[Wq hi]at hq;unfold dS at hq;by_cases xM:g aI
   .exact((rJ ρ' aI H' e' ES xM i).1 _ (Vk hi)).1
   .rw[VG xM]at hq;exact hq.elim
  .rintro ys τ H' ⟨μτ,ρ',aI,yv,e',A!,ES,ry,hl,hq⟩;rw[ZA]at hq;unfold dS at hq;by_cases xM:g aI
   .exact(rJ ρ' aI H' e' ES xM us.length).2 (Vt _)
   .rw[VG xM]at hq;exact hq.elim
  .rintro i ys τ H' ⟨μτ,ρ',aI,yv,e',A!,ES,ry,hl,hq⟩;rw[<-ry.length];exact hl
  .rintro i ys τ H' x H2 hi ⟨μτ,ρ',aI,yv,e',A!,ES,ry,hl,hq⟩ y K1 hK;rw[Wq hi]at hq;unfold dS at hq;by_cases xM:g aI
   .rw[Vv xM]at hq;obtain⟨e2,qR,r2⟩:=((rJ ρ' aI H' e' ES xM i).1 _ (Vk hi)).2 x H2 y;cases z:a us[i] μτ with
    |none=>rw[z]at hq;exact hq.elim
    |some τ1=>
     rw[z]at hq;dsimp only at hq;refine⟨μτ,ρ',us[i],τ1,A!.mono e2,r2,z,λσ3 Lr=>⟨τ1,ρ',aI,Lr,qR,?_⟩⟩;cases zc:c τ1 aI with
     |ok b oz=>
      rw[zc]at hq;intro ρ3 H3 b' e3 HH eb;cases eb;cases b with
      |true=>
       dsimp only at hq;rw[Vv rfl];refine⟨τ1,ρ3,oz,Lr.mono e3,HH,?_⟩;cases ze:e τ1 oz with
       |ok v qz=>
        rw[ze]at hq;intro ρ4 H4 y4 e4 uJ r4;exact hK _ _ _ ⟨τ1,ρ4,qz,yv++[v],((e'.trans e2).trans e3).trans e4,(Lr.mono e3).mono e4,uJ,(bC.mono ((e2.trans e3).trans e4) _ _ ry).append (bC.one r4),by rw[Vj,VO];lia,wR.mono hq ((e2.trans e3).trans e4)⟩
       |err c' qz=>rw[ze]at hq;exact hq.elim
       |bad=>rw[ze]at hq;exact hq.elim
      |false=>
       dsimp only at hq;rw[VG VW];exact hK _ _ _ ⟨τ1,ρ3,oz,yv,(e'.trans e2).trans e3,Lr.mono e3,HH,bC.mono (e2.trans e3) _ _ ry,⋯,wR.mono hq (e2.trans e3)⟩
     |err c' oz=>rw[zc]at hq;exact hq.elim
     |bad=>rw[zc]at hq;exact hq.elim
   .rw[VG xM]at hq;exact hq.elim
  .rintro ys τ H' p ⟨μτ,ρ',aI,yv,e',A!,ES,ry,hl,hq⟩ hp;rw[ZA]at hq;unfold dS at hq;by_cases xM:g aI
   .rw[Vv xM]at hq;obtain⟨k1,k2,k3⟩:=jf ES ry hp;exact hq _ _ _ k1 k2 k3
   .rw[VG xM]at hq;exact hq.elim
 .exact h1.elim
theorem fG(hc:X.calm=true)(U5:X.pn=[])(B:vY X N scope cl k bM)(hi:PI X tg iter (tI X E it))(hg:∀C fp s H,PG (xK X N scope cl C fp s H) tg (tA (W0 X) a))(Qs:∀C fp s H,EC (xK X N scope cl C fp s H) ifs (tG (W0 X) E0 RB c))(he:∀C fp s H,PE (xK X N scope cl C fp s H) elt (tG (W0 X) E0 (Rl X.K) e))(hs:∀x,foldedSetIterable iter X.env x=pure x:=by intro _;rfl):PE X (.ListComp elt [⟨tg,iter,ifs,0⟩] scope pos) (tE X E (cH k bM it a c e)):=
 PE.imp (Mr hc B hi hg Qs he hs) λ_ _ _ h=>yT U5 h
theorem i!(i:Nat){y:Str}{py:Pos}(hN:X.N.Nodup)(hc:X.calm=true)(U5:X.pn=[])(B:vY X N scope cl k bM)(hi:PI X tg iter (tI X E it))(hg:∀C fp s H,PG (xK X N scope cl C fp s H) tg (tA (W0 X) a))(Qs:∀C fp s H,EC (xK X N scope cl C fp s H) ifs (tG (W0 X) E0 RB c))(he:∀C fp s H,PE (xK X N scope cl C fp s H) elt (tG (W0 X) E0 (Rl X.K) e))(hy:X.N[i]?=some y:=by rfl)(hx:Loc X.env.scope y:=by left)(hsw:swapsWith (.ListComp elt [⟨tg,iter,ifs,0⟩] scope pos) (some (.Name y py)) IC.line X.env=pure true:=by rfl)(hs:∀x,foldedSetIterable iter X.env x=pure x:=by intro _;rfl)(hf:X.fn y=true\/X.env.scope.names.lookup y=some .local:=by left):
  PS X (.Assign [.Name y py] (.ListComp elt [⟨tg,iter,ifs,0⟩] scope pos) IC) (tS X E (aK i (cH k bM it a c e))):=
 PS.imp (L2.C6 hN hy hx hc B hi hg Qs he hsw hs hf) λ_ _ _ h=>yT U5 (BB h)
theorem MW{C fp s H}:EC (xK X N scope cl C fp s H) [] (tG (W0 X) E0 RB bj):=by intro ae s' σ H' Q I q;refine Mn ae s' σ H' Q I ?_;obtain⟨μ,ρ,st,rs,sr,h⟩:=q;exact h ρ H' true (aX.refl _ _) sr rfl
theorem MX{cc:Expr}{C fp s H}(h:PT (xK X N scope cl C fp s H) cc (tG (W0 X) E0 RB c)):EC (xK X N scope cl C fp s H) [cc] (tG (W0 X) E0 RB c):=Mo h
theorem U6{w:World}{C fp s H}:Passes (qP P w) (xK X N scope cl C fp s H) E0:=by rintro ae σ H' s' e s2 I ⟨ea,cls,H2,_,_,q⟩;exact q.elim
end
abbrev FM:=aj->List aj->af->fu aj
def Q8(W:Wo)(E:XK)(f:FM):V->List V->Hp->VK->Prop:=λx xs H Q=>∃ρ st u us,SR W.K ρ st H/\Rl W.K ρ H u x/\bC W.K ρ H us xs/\wR W E (Rl W.K) ρ H Q (f u us st)
def t?(st:af):aj->Bool
 |.loc n=>match st[n]? with
  |some (.lst _)=>true
  |_=>false
 |_=>false
def iW(f:FM)(o:ME)(a:MA):ME:=λμ st=>(o μ st).bind λx st1=>if t? st1 x=true then(a μ st1).bind λxs cJ=>f x xs cJ else .bad
def dC:FM
 |.loc n,[v],st=>match st[n]? with
  |some (.lst us)=>if us.length<sizeLine then .ok .dj (st.set n (.lst (us++[v])))else .bad
  |_=>.bad
 |_,_,_=>.bad
section
variable{e:Expr}{mo:ME}{ms:MA}{f:FM}
theorem yC.imp{id:String}{r r':V->List V->Hp->VK->Prop}(h:yC X id r)(k:∀x xs H Q,r' x xs H Q->r x xs H Q):yC X id r':=λae s σ H x xs v us Q I rx rs q=>h ae s σ H x xs v us Q I rx rs (k x xs H Q q)
theorem px{K:_g}{st:af}{n:Nat}{us us':List aj}{a:_o}{vs Lp:List V}(sr:SR K ρ st H)(h:st[n]?=some (.lst us))(ha:ρ[n]?=some a)(hH:H a=some (.lst vs))(r:bC K ρ H us' Lp):
  aX ρ H ρ (upd H a (.lst Lp))/\SR K ρ (st.set n (.lst us')) (upd H a (.lst Lp)):=by
 have e:aX ρ H ρ (upd H a (.lst Lp)):=aX.put hH (λ_ z=>by cases z) (λ_ _ z=>by cases z);exact⟨e,sr.set h rfl rfl ha hH (λ_ z=>by cases z) (λ_ _ z=>by cases z) ⟨Lp,cC,bC.mono e _ _ r⟩⟩
theorem Di:yC X "list.append" (Q8 (wo X) E dC):=by
 refine yC.imp Gh ?_;rintro x xs H Q ⟨ρ,st,u,us,sr,r1,r2,h⟩;unfold dC at h;split at h
 .rename_i n v;obtain⟨a,rfl,ha⟩:=r1.fU;obtain⟨y,rfl,ry⟩:=r2.C_;split at h
  .rename_i ws hw;split at h
   .rename_i hz;obtain⟨vs,hH,rv⟩:=sr.cell n _ a hw ha;refine⟨a,vs,y,rfl,rfl,hH,by rw[<-rv.length];exact hz,?_⟩;obtain⟨k1,k2⟩:=px sr hw ha hH (rv.append (bC.one ry));exact h ρ _ _ k1 k2 Rl.By
   .exact h.elim
  .exact h.elim
 .exact h.elim
theorem BD{K:_g}{st:af}{u:aj}{x:V}(sr:SR K ρ st H)(r:Rl K ρ H u x)(h:t? st u=true):tyV K "list" x H:=by
 cases u with
 |loc n=>
  obtain⟨a,rfl,ha⟩:=r.fU;obtain⟨c,hc,kc⟩:=sr.there ha;simp only[t?,hc]at h;cases c with
  |lst us=>obtain⟨vs,h1,_⟩:=kc;exact .inl ⟨rfl,vs,pk.of h1⟩
  |_=>cases h
 |_=>cases h
theorem Af{id:String}(slot:Slot "list" name id)(Qe:typeOf (.builtin id)=pure (.type "method_descriptor"))(hm:yC X id (Q8 (wo X) E f))(ho:PE X o (tE X E mo))(ha:PA X (e::es) (tL X E ms))(jl:attributeBase o name X.env (eval o X.env)=eval o X.env:=by rfl)
  (vU:((backTo cN (starEach (e::es) X.env)).all (λx => !x.1)&&(backToKw cN (keywordEach [] X.env)).all (λx=>x.1.isSome)
   && decide ((e::es).length+([]:List Keyword).length+(if([]:List Keyword).isEmpty then 0 else 1)<30))=true:=by rfl)
  (jm:(apos.endLine==cN.line)=true:=by rfl) (hs:starEach (e::es) X.env=(false,eval e X.env)::starEach es X.env:=by rfl) (jT:(backTo cN (starEach es X.env)).any (·.1)=false:=by rfl):
  PE X (.Call (.Attribute o name apos) (e::es) [] cN) (tE X E (iW f mo ms)):=by
 refine PE.imp (Ul Zk slot Qe hm ho ha jl vU jm hs jT) ?_;nofun;split at h1
 .rename_i hz;refine⟨BD dM r1 hz,?_⟩;refine go (R1:=bC X.K) μ ρ1 st1 (rs.mono e1) dM h1 λus cJ ρ2 H2 xs e2 qR r2 h2=>?_;exact⟨ρ2,cJ,u,us,qR,Rl.mono e2 _ _ r1,r2,h2⟩
 .exact h1.elim
end
inductive i?(X:Cx)(scope:Scope):List (Str×_o)->List Nat->Prop
 |nil:i? X scope [] []
 |cons {y:Str} {c:_o} {j:Nat} {cl:List (Str×_o)} {bM:List Nat} (sub:X.env.cells.lookup y=some c) (hX:X.N[j]?=some y) (hk:X.env.kindOf y=some .cell\/X.env.kindOf y=some .free)
   (hr:(relabel scope X.env).names.lookup y=some .cell\/(relabel scope X.env).names.lookup y=some .free) (r:i? X scope cl bM):i? X scope ((y,c)::cl) (j::bM)
theorem i?.sub{X:Cx}{scope:Scope}{cl:List (Str×_o)}{bM:List Nat}(A:i? X scope cl bM):∀x c,cl.lookup x=some c->X.env.cells.lookup x=some c:=by
 induction A with
 |nil=>intro x c h;cases h
 | @cons y c0 _ _ _ sub _ _ _ _ ih=>
  intro x c h;rw[List.lookup_cons]at h;by_cases e:x=y
  .rw[Yb.mpr e]at h;rw[e];exact sub.trans h
  .rw[WX.mpr e]at h;exact ih x c h
theorem i?.at_{cl:List (Str×_o)}(A:i? X scope cl bM):∀(i j:Nat)(x:Str),bM[i]?=some j->(cl.map (·.1))[i]?=some x ->
  X.N[j]?=some x/\(X.env.kindOf x=some .cell\/X.env.kindOf x=some .free)/\((relabel scope X.env).names.lookup x=some .cell\/(relabel scope X.env).names.lookup x=some .free):=by induction A<;>grind
theorem kX:∀{cl:List (Str×_o)}{x:Str},x∈cl.map (·.1)->∃c,cl.lookup x=some c
 |[],x,h=>by simp at h
 |(y,c)::cl,x,h=>by
  by_cases e:x=y
  .exact⟨c,by simp[e]⟩
  .have e':(x==y)=false:=by simpa using e
   rw[Vm,VX]at h;rcases h with h|h
   .exact absurd h e
   .obtain⟨d,hd⟩:=kX h;exact⟨d,by simp only[List.lookup_cons,e'];exact hd⟩
theorem U7{k:Nat}{cl:List (Str×_o)}(uH:closureFor scope X.env=pure cl)(A:i? X scope cl bM)(has:((relabel scope X.env).names.all λp => !(p.2 == .cell || p.2 == .free) || (cl.map (·.1)).contains p.1)=true)(ik:(scope.names.all λp => !(p.2 == .cell))=true)(kind:scope.kind=.function)(names:(scope.names.all λp => !(p.2 == .local) || scope.names.lookup p.1==some .local)=true)(len:N.length=k+bM.length)(hN:N.drop k=cl.map (·.1)):vY X N scope cl k bM where
 uH:=uH
 sub:=A.sub
 has:=λx h=>by
  have m:x∈cl.map (·.1):=by rcases h with h|h<;>(have m:=Wz h;have z:=WB.mp has _ m;simpa using z)
  exact kX m
 ik:=λx hx h=>by have z:=WB.mp ik x hx;simp[h]at z
 kind:=kind
 names:=λx hx h=>by have z:=WB.mp names x hx;simpa[h]using z
 len:=len
 at_:=λi j x h1 h2=>A.at_ i j x h1 (by rw[<-hN,Ye];exact h2)
def FnAt(P:_q)(w:World)(K:_g)(mg:_d)(base:Heap)(x:Str)(k:Nat)(f:FN):Prop:=
 ∃fa fd ps,vQ P w K mg base (qP P w) k fa fd ps (QM ⟨K,mg,[]⟩ f)/\mg x=some (.ref fa)/\W.keepIn K (.ref fa)=true/\Binds K fd ps []
section
variable{pos p:Pos}{e:Expr}{ms:MA}{f:FN}{k j:Nat}
theorem U8(G:FnAt X.prog X.w X.K X.mg X.base x k f)(hr:gK j X.A)(hk:k<=j)(hg:Gl X x)(hx:Passes (qP X.prog X.w) X E)(ha:PA X (e::es) (tL X E ms))(Bk:(x==("__debug__":Str))=false:=by decide)(he:starEach (e::es) X.env=(false,eval e X.env)::starEach es X.env:=by rfl)(tZ:(backTo pos (starEach es X.env)).any (·.1)=false:=by rfl):PE X (.Call (.Name x p) (e::es) [] pos) (tE X E (ao f ms)):=by obtain⟨fa,fd,ps,F,hm,kp,b⟩:=G;exact MC F (hr.mono hk) hg hm kp b hx ha Bk he tZ
end
section
variable{w:World}{K:_g}{mg:_d}
theorem FnAt.mk{st:Stmt}{f:_o}{fd:FuncData}{k:Nat}{body:MB}(F:Im K x x st f fd)(hm:mg x=some (.ref f))(S:je N ps (bg st))(hb:∀(kV doc pm:_m)(an:Option _o)(iS ct:_m)(us:_i),us.length=ps.length->bindArgs (W.fnOf x x (iG st) (ff st) (bg st) .none kV doc pm an iS ct) ⟨us,[]⟩=pure (ps.zip us))
  (h:∀ (iS:_m) (A:_p) (outer:List PySem.Env) (s:_n) (H:Hp) (E:XK),gK k (A.deeper (envOfC x (bg st) s.heap.objs.size f iS)) ->
   pY (jS (qP P w) P w K mg base N x (bg st) f iS A outer s H E) (ff st) (tS (jS (qP P w) P w K mg base N x (bg st) f iS A outer s H E) E body)):FnAt P w K mg base x (k+1) (iH ps.length N.length body):=
 ⟨f,fd,ps,IV F S h,hm,F.kp,F.binds hb⟩
theorem BE{f:_o}{cd:_m}{outer:List PySem.Env}:PassesOwn (model P w) (A.deeper (envOfC qual scope s₀.heap.objs.size f cd)) (envOfC qual scope s₀.heap.objs.size f cd) (jS (qP P w) P w K mg base N qual scope f cd A outer s₀ H₀ E).xe:=
 PassesOwn.leaving
theorem Dj{f:_o}{cd:_m}{outer:List PySem.Env}:Raises (jS (qP P w) P w K mg base N qual scope f cd A outer s₀ H₀ E) E:=
 λae σ H s h' e cls vs I hx hE=>Gw I hx hE
theorem Glob.int{i:Int}{t:Tok}(h:mg x=some (.int i t)):Glob K mg x (.int i):=⟨_,.int i,h,⟨t,rfl⟩,λ_ _=>Rl.mkInt i⟩
theorem Glob.ints{a:_o}{o:Obj}{aN:Array _m}{n:Nat}(h:mg x=some (.ref a))(l:K.lookup a=some o)(hc:o.cls=.type "tuple")(hd:o.data=.seq aN n)(hz:aN.size<=sizeLine)(hv:bx (ns.map V.int) aN.toList):Glob K mg x (.mt (ns.map .int)):=
 ⟨_,.ref a,h,rfl,λρ H=>Rl.abF (.inr ⟨o,aN,n,l,hc,hd,hz,hv⟩) (bC.ints ns)⟩
end
abbrev bmV:_i:=[.type "ValueError",.type "Exception",.type "BaseException",.type "object"]
def Q9(K:_g)(mg:_d)(x:Str):Prop:=∃C,mg x=some (.ref C)/\W.excIn K C bmV "ValueError.__new__" = true/\W.subIn K (.ref C) (.type "BaseException")=some true
section
variable{pos np p:Pos}{n:Str}{ms:MA}{i:Nat}{b₀:Stmt}{acu:List Stmt}{rest:List ExceptHandler}{tab:List (Str×Str×Bool)}{s:MB}{r:MH}
theorem GQ(hX:Raises X E)(hc:X.calm=true)(h:Q9 X.K X.mg x)(hg:Gl X x)(ha:PA X (e₀::es) (tL X E ms))(he:starEach (e₀::es) X.env=(false,eval e₀ X.env)::starEach es X.env:=by rfl)(tZ:(backTo cN (starEach es X.env)).any (·.1)=false:=by rfl)(hd:(x==("__debug__":Str))=false:=by decide):
  PS X (.Raise (some (.Call (.Name x np) (e₀::es) [] cN)) none pos) (tS X E (oC x ms)):=by
 obtain⟨C,hm,hq,_⟩:=h;exact IU hX hc hm hq PySem.F.excBase_ValueError hg ha he tZ hd
end
section
variable[DecidableEq κ]
def sI(aW:List (κ×aj))(k:κ):Option aj:=(aW.find? λkv=>decide (kv.1=k)).map (·.2)
def Ag(aW:List (κ×aj))(k:κ)(v:aj):List (κ×aj):=
 if(aW.any λkv=>decide (kv.1=k))=true then aW.map (λkv=>if kv.1=k then(kv.1,v)else kv)else aW++[(k,v)]
variable{K:_g}
theorem kn.nil:kn K ρ H ([]:List (κ×aj)) []:=⟨rfl,bC.nil⟩
theorem kn.cons{k:κ}{u:aj}{v:V}{aW:List (κ×aj)}{jo:List (κ×V)}(r:Rl K ρ H u v)(p:kn K ρ H aW jo):kn K ρ H ((k,u)::aW) ((k,v)::jo):=
 ⟨by simp only[Vm,p.1],bC.cons r p.2⟩
theorem kn.cY{k:κ}{u:aj}{aW:List (κ×aj)}{l:List (κ×V)}(p:kn K ρ H ((k,u)::aW) l):∃v jo,l=(k,v)::jo/\Rl K ρ H u v/\kn K ρ H aW jo:=by
 obtain⟨h1,h2⟩:=p;cases l with
 |nil=>simp at h1
 |cons x l=>
  obtain⟨k',v⟩:=x;simp only[Vm,List.cons.injEq]at h1 h2;obtain⟨rfl,h1⟩:=h1;obtain⟨v',r,e,q1,q2⟩:=h2.cY;simp only[List.cons.injEq]at e;obtain⟨rfl,rfl⟩:=e;exact⟨v,l,rfl,q1,h1,q2⟩
theorem kn.gW{l:List (κ×V)}(p:kn K ρ H ([]:List (κ×aj)) l):l=[]:=by
 have:=p.1;cases l with
 |nil=>rfl
 |cons=>simp at this
theorem kn.mono{aW:List (κ×aj)}{l:List (κ×V)}(p:kn K ρ H aW l)(e:aX ρ H ρ' H'):kn K ρ' H' aW l:=⟨p.1,bC.mono e _ _ p.2⟩
theorem kn.length{aW:List (κ×aj)}{l:List (κ×V)}(p:kn K ρ H aW l):aW.length=l.length:=by have:=WE List.length p.1;simpa using this
theorem kn.val(k:κ):∀{aW:List (κ×aj)}{l:List (κ×V)},kn K ρ H aW l->(sI aW k=none/\m_ l k=none)\/∃u v,sI aW k=some u/\m_ l k=some v/\Rl K ρ H u v
 |[],l,p=>by rw[p.gW];exact .inl ⟨rfl,rfl⟩
 |(k',u)::aW,l,p=>by
  obtain⟨v,l',rfl,r,p'⟩:=p.cY;by_cases e:k'=k
  .exact .inr ⟨u,v,by simp[sI,e],by simp[m_,e],r⟩
  .rcases kn.val k p' with⟨h1,h2⟩|⟨u',v',h1,h2,h3⟩
   .exact .inl ⟨by simpa[sI,e]using h1,by simpa[m_,e]using h2⟩
   .exact .inr ⟨u',v',by simpa[sI,e]using h1,by simpa[m_,e]using h2,h3⟩
theorem kn.any(k:κ):∀{aW:List (κ×aj)}{l:List (κ×V)},kn K ρ H aW l->(aW.any λkv=>decide (kv.1=k))=l.any λkv=>decide (kv.1=k)
 |[],l,p=>by rw[p.gW];rfl
 |(k',u)::aW,l,p=>by obtain⟨v,l',rfl,r,p'⟩:=p.cY;simp only[XS,kn.any k p']
theorem kn.C1(k:κ){u:aj}{v:V}(r:Rl K ρ H u v):∀{aW:List (κ×aj)}{l:List (κ×V)},kn K ρ H aW l->kn K ρ H (aW.map λkv=>if kv.1=k then(kv.1,u)else kv) (l.map λkv=>if kv.1=k then(kv.1,v)else kv)
 |[],l,p=>by rw[p.gW];exact kn.nil
 |(k',u')::aW,l,p=>by
  obtain⟨v',l',rfl,r',p'⟩:=p.cY;simp only[Vm];by_cases e:k'=k
  .rw[Vv e,Vv e];exact kn.cons r (kn.C1 k r p')
  .rw[VG e,VG e];exact kn.cons r' (kn.C1 k r p')
theorem kn.snoc{k:κ}{u:aj}{v:V}(r:Rl K ρ H u v):∀{aW:List (κ×aj)}{l:List (κ×V)},kn K ρ H aW l->kn K ρ H (aW++[(k,u)]) (l++[(k,v)])
 |[],l,p=>by rw[p.gW];exact kn.cons r kn.nil
 |(k',u')::aW,l,p=>by obtain⟨v',l',rfl,r',p'⟩:=p.cY;exact kn.cons r' (kn.snoc r p')
theorem kn.put(k:κ){u:aj}{v:V}(r:Rl K ρ H u v){aW:List (κ×aj)}{l:List (κ×V)}(p:kn K ρ H aW l):kn K ρ H (Ag aW k u) (putK l k v):=by
 unfold Ag putK;rw[p.any k];split
 .exact p.C1 k r
 .exact p.snoc r
end
def wg:aj->Option fX
 |.int i=>some (.inl i)
 |.str x=>some (.inr x)
 |_=>none
def keysOf:List aj->Option (List fX)
 |[]=>some []
 |u::us=>match wg u,keysOf us with
  |some k,some ks=>some (k::ks)
  |_,_=>none
def wj:aj->Option (List fX)
 |.tup us=>keysOf us
 |_=>none
section
variable{K:_g}
theorem Ah{u:aj}{v:V}{k:fX}(r:Rl K ρ H u v)(h:wg u=some k):v=kV k:=by
 cases u with
 |int i=>cases h;exact r.dh
 |str x=>cases h;exact r.oo
 |_=>cases h
theorem BF:∀{us:List aj}{vs:List V}{ks:List fX},bC K ρ H us vs->keysOf us=some ks->vs=ks.map kV
 |[],vs,ks,r,h=>by cases h;exact r.gW
 |u::us,vs,ks,r,h=>by
  obtain⟨v,r',rfl,h2,h3⟩:=r.cY;unfold keysOf at h;split at h
  .rename_i k ks' e1 e2;cases h;rw[Ah h2 e1,BF h3 e2];rfl
  .cases h
theorem BG{u:aj}{v:V}{ks:List fX}(r:Rl K ρ H u v)(h:wj u=some ks):∃b,v=.ref b/\H b=some (.tup (ks.map kV)):=by
 cases u with
 |tup us=>
  obtain⟨b,vs,rfl,hb,rb⟩:=r.UQ;rw[BF rb h]at hb;exact⟨b,rfl,hb⟩
 |_=>cases h
end
def yU(st:af)(d k:aj):Option (Option aj):=match d with
 |.loc n=>match st[n]? with
  |some (.dK aW)=>(wg k).map λq=>sI aW q
  |some (.dT aW)=>(wj k).map λq=>sI aW q
  |_=>none
 |_=>none
def sJ(st:af)(d k v:aj):Option af:=match d with
 |.loc n=>match st[n]? with
  |some (.dK aW)=>if aW.length<sizeLine then(wg k).map λq=>st.set n (.dK (Ag aW q v))else none
  |some (.dT aW)=>if aW.length<sizeLine then(wj k).map λq=>st.set n (.dT (Ag aW q v))else none
  |_=>none
 |_=>none
theorem GR{K:_g}{st:af}{d k:aj}{x y:V}{o:Option aj}(sr:SR K ρ st H)(rd:Rl K ρ H d x)(rk:Rl K ρ H k y)(h:yU st d k=some o):
  ∃a o',x=.ref a/\xW H a y o'/\IsD H a/\((o=none/\o'=none)\/∃u v,o=some u/\o'=some v/\Rl K ρ H u v):=by
 cases d with
 |loc n=>
  obtain⟨a,rfl,ha⟩:=rd.fU;unfold yU at h;dsimp only at h;split at h
  .rename_i aW e;obtain⟨l,hl,p⟩:=sr.cell n _ a e ha;cases z:wg k with
   |none=>rw[z]at h;cases h
   |some q=>
    rw[z]at h;cases h;have:=Ah rk z;subst this;exact⟨a,m_ l q,rfl,xW.k hl,.inl ⟨l,.inl hl⟩,p.val q⟩
  .rename_i aW e;obtain⟨l,hl,p⟩:=sr.cell n _ a e ha;cases z:wj k with
   |none=>rw[z]at h;cases h
   |some q=>
    rw[z]at h;cases h;obtain⟨b,rfl,hb⟩:=BG rk z;exact⟨a,m_ l q,rfl,xW.t hl hb,.inr ⟨l,.inl hl⟩,p.val q⟩
  .cases h
 |_=>cases h
theorem Dk{K:_g}{st aI:af}{d k v:aj}{x y z:V}(sr:SR K ρ st H)(rd:Rl K ρ H d x)(rk:Rl K ρ H k y)(rv:Rl K ρ H v z)(h:sJ st d k v=some aI):
  ∃a H',x=.ref a/\Ab H a y z H'/\aX ρ H ρ H'/\SR K ρ aI H':=by
 cases d with
 |loc n=>
  obtain⟨a,rfl,ha⟩:=rd.fU;unfold sJ at h;dsimp only at h;split at h
  .rename_i aW e;obtain⟨l,hl,p⟩:=sr.cell n _ a e ha;split at h
   .rename_i hz;cases zk:wg k with
    |none=>rw[zk]at h;cases h
    |some q=>
     rw[zk]at h;cases h;have:=Ah rk zk;subst this;have st1:aX ρ H ρ (upd H a (.dK (putK l q z))):=aX.put hl (λ_ z=>by cases z) (λ_ _ z=>by cases z);exact⟨a,_,rfl,Ab.k hl (by rw[<-p.length];exact hz),st1,sr.set e rfl rfl ha hl (λ_ z=>by cases z) (λ_ _ z=>by cases z) ⟨_,cC,(p.put q rv).mono st1⟩⟩
   .cases h
  .rename_i aW e;obtain⟨l,hl,p⟩:=sr.cell n _ a e ha;split at h
   .rename_i hz;cases zk:wj k with
    |none=>rw[zk]at h;cases h
    |some q=>
     rw[zk]at h;cases h;obtain⟨b,rfl,hb⟩:=BG rk zk;have st1:aX ρ H ρ (upd H a (.dT (putK l q z))):=aX.put hl (λ_ z=>by cases z) (λ_ _ z=>by cases z);exact⟨a,_,rfl,Ab.t hl hb (by rw[<-p.length];exact hz),st1,sr.set e rfl rfl ha hl (λ_ z=>by cases z) (λ_ _ z=>by cases z) ⟨_,cC,(p.put q rv).mono st1⟩⟩
   .cases h
  .cases h
 |_=>cases h
def Ai:ME:=λ_ st=>.ok (.loc st.length) (st++[.dK []])
def uc:F2:=λd k st=>match yU st d k with
 |some (some v)=>.ok v st
 |_=>.bad
def acA(neg:Bool):F2:=λk d st=>match yU st d k with
 |some o=>.ok (.bl (if neg then !o.isSome else o.isSome)) st
 |none=>.bad
def abL(st:af):aj->Bool
 |.loc n=>match st[n]? with
  |some (.dK _)=>true
  |some (.dT _)=>true
  |_=>false
 |_=>false
def Q_(d k x:ME):ME:=λμ st=>(d μ st).bind λdv st1=>if abL st1 dv=true then(k μ st1).bind λkv cJ=>(x μ cJ).bind λxv oz=>match yU oz dv kv with
 |some o=>.ok (o.getD xv) oz
 |none=>.bad else .bad
def wk(d k v:ME):MB:=λμ st=>(v μ st).sb μ λvv st1=>(d μ st1).sb μ λdv cJ=>(k μ cJ).sb μ λkv oz=>match sJ oz dv kv vv with
 |some qz=>.nx μ qz
 |none=>.bad
section
variable{pos:Pos}{i e f:Expr}{md mk mv mx:ME}
theorem Jg{K:_g}{st:af}(sr:SR K ρ st H){p:_o}(hp:H p=none){ob:HO}{c:aZ}(k:jq K (ρ++[p]) (upd H p ob) c p):
  aX ρ H (ρ++[p]) (upd H p ob)/\SR K (ρ++[p]) (st++[c]) (upd H p ob)/\Rl K (ρ++[p]) (upd H p ob) (.loc st.length) (.ref p):=by
 refine⟨aX.snoc p (fJ hp),sr.alloc hp k,Rl.IM ?_⟩;rw[<-sr.len,V2 (Vt _),W3];rfl
theorem Jh:PE X (.Dict [] [] pos) (tE X E Ai):=by refine PE.imp Iy ?_;rintro σ H Q ⟨μ,ρ,st,rs,sr,h⟩ p hp;obtain⟨k1,k2,k3⟩:=Jg (c:=.dK []) sr hp ⟨[],cC,kn.nil⟩;exact h _ _ _ k1 k2 k3
theorem MY(hu:X.A.units+64<cLine)(ho:PE X o (tE X E md))(hi:PE X i (tE X E mk))(hs:Qn i:=by exact λ_ _=>rfl):PE X (.Subscript o i pos) (tE X E (ag uc md mk)):=by
 refine PE.imp (Mk ⋯ ho hi hs) ?_;rintro σ H Q ⟨μ,ρ,st,rs,sr,h⟩;refine go μ ρ st rs sr h λd st1 ρ1 H1 x e1 dM r1 h1=>?_;refine go μ ρ1 st1 (rs.mono e1) dM h1 λk cJ ρ2 H2 y e2 qR r2 h2=>?_;unfold uc at h2;split at h2
 .rename_i u hl;obtain⟨a,o',rfl,hd,_,hv⟩:=GR qR (Rl.mono e2 _ _ r1) r2 hl;rcases hv with⟨z,_⟩|⟨u',v,z,rfl,rv⟩
  .cases z
  .cases z;exact⟨a,v,rfl,hd,h2 ρ2 H2 v (aX.refl _ _) qR rv⟩
 .exact h2.elim
theorem MZ(hu:X.A.units+64<cLine)(ho:PE X o (tE X E md))(hi:PE X i (tE X E mk))(hv:PE X value (tE X E mv))(hs:swapsWith value (some (.Subscript o i pos')) pos.line X.env=pure false:=by rfl):
  PS X (.Assign [.Subscript o i pos'] value pos) (tS X E (wk md mk mv)):=by
 refine PS.imp (Ml ⋯ ho hi hv hs) ?_;rintro D σ H ⟨μ,ρ,st,rs,sr,h⟩;refine CF μ ρ st rs sr h λv st1 ρ1 H1 z e1 dM r1 h1=>?_;refine CF μ ρ1 st1 (rs.mono e1) dM h1 λd cJ ρ2 H2 x e2 qR r2 h2=>?_;refine CF μ ρ2 cJ ((rs.mono e1).mono e2) qR h2 λk oz ρ3 H3 y e3 HH r3 h3=>?_;split at h3
 .rename_i qz yx;obtain⟨a,H4,rfl,hd,s4,uJ⟩:=Dk HH (Rl.mono e3 _ _ r2) r3 (Rl.mono (e2.trans e3) _ _ r1) yx;exact⟨a,H4,rfl,hd,h3 ρ3 H4 σ s4 uJ ((((rs.mono e1).mono e2).mono e3).mono s4)⟩
 .exact h3.elim
end
section
variable{ms:MA}{pos:Pos}
theorem Dl{a b:Expr}{ma mb:ME}(ha:PE X a (tE X E ma))(hb:PE X b (tE X E mb))(hs:zW b:=by exact λ_ _=>rfl):PE X (.Subscript a b pos) (tE X E (ag bJ ma mb)):=UZ abK ha hb hs
end
def uK(us:List aj)(lo hi:Option Int):List aj:=(us.drop (HT.h_ us.length 0 lo)).take (HT.h_ us.length us.length hi-HT.h_ us.length 0 lo)
theorem bC.cut{K:_g}{us:List aj}{vs:List V}(r:bC K ρ H us vs)(lo hi:Option Int):bC K ρ H (uK us lo hi) (zS vs lo hi):=by unfold uK zS;rw[r.length];exact bC.take _ (bC.drop _ r)
abbrev MO:=Env->af->fu (Option Int)
abbrev RO:_k->Hp->Option Int->Option Int->Prop:=λ_ _ a b=>b=a
abbrev tOo(X:Cx)(E:XK)(m:MO):TO:=tG (wo X) E RO m
def iy:MO:=λ_ st=>.ok none st
def iz(m:ME):MO:=λμ st=>(m μ st).bind λv aI=>match v with
 |.int i=>.ok (some i) aI
 |_=>.bad
def ET(lo hi:Option Int):aj->af->fu aj
 |.tup us,st=>if HT.h_ us.length 0 lo=0/\HT.h_ us.length us.length hi=us.length then .bad else .ok (.tup (uK us lo hi)) st
 |.loc n,st=>match aq st n with
  |some us=>.ok (.loc st.length) (st++[.lst (uK us lo hi)])
  |none=>.bad
 |_,_=>.bad
def x!(a:ME)(lo hi:MO):ME:=λμ st=>(a μ st).bind λx st1=>(lo μ st1).bind λl cJ=>(hi μ cJ).bind λh oz=>ET l h x oz
section
variable{pos:Pos}{e:Expr}{m:ME}
theorem PO.imp{e:Option Expr}{t t':TO}(h:PO X e t)(k:∀σ H Q,t' σ H Q->t σ H Q):PO X e t':=λae s σ H Q I q=>h ae s σ H Q I (k σ H Q q)
theorem M0:PO X none (tOo X E iy):=PO.imp L? λσ H Q⟨μ,ρ,st,rs,sr,h⟩=>h ρ H none (aX.refl _ _) sr rfl
theorem M3(h:PE X e (tE X E m)):PO X (some e) (tOo X E (iz m)):=by
 refine PO.imp (L' h) ?_;nofun;cases u with
 |int i=>exact⟨i,r1.dh,h1 ρ1 H1 (some i) (aX.refl _ _) dM rfl⟩
 |_=>exact h1.elim
theorem U9{lo hi:Option Expr}{ml mh:MO}(he:PE X e (tE X E m))(hl:PO X lo (tOo X E ml))(hh:PO X hi (tOo X E mh)):PE X (.Subscript e (.Slice lo hi none p2) pos) (tE X E (x! m ml mh)):=by
 refine PE.imp (Ie (Oj.or Mc P') he hl hh) ?_;nofun;refine go (R1:=RO) μ ρ1 st1 (rs.mono e1) dM h1 λl cJ ρ2 H2 l' e2 qR r2 h2=>?_;cases r2;refine go (R1:=RO) μ ρ2 cJ ((rs.mono e1).mono e2) qR h2 λk oz ρ3 H3 k' e3 HH r3 h3=>?_;cases r3;have ru:=Rl.mono e3 _ _ (Rl.mono e2 _ _ r1);cases u with
 |tup us=>
  obtain⟨a,vs,rfl,ha,ra⟩:=ru.jL;unfold ET at h3;dsimp only at h3;split at h3
  .exact h3.elim
  .rename_i hz;refine .inr ⟨a,vs,rfl,ha,by rw[<-ra.length];exact hz,λp hp=>?_⟩;have s:=fJ (o:=.tup (zS vs l k)) hp;exact h3 ρ3 _ _ (aX.same s) (HH.grow s) (Rl.yK cC (bC.mono (aX.same s) _ _ (ra.cut l k)))
 |loc n=>
  obtain⟨a,rfl,ha⟩:=ru.fU;cases z:aq oz n with
  |none=>simp only[ET,z]at h3;exact h3.elim
  |some us=>
   simp only[ET,z]at h3;obtain⟨vs,hs,rv⟩:=bI HH z ha;refine .inl ⟨a,vs,rfl,hs,λp hp=>?_⟩;obtain⟨k1,k2,k3⟩:=jf HH (rv.cut l k) hp;exact h3 _ _ _ k1 k2 k3
 |_=>exact h3.elim
end
def Ji(f:FM)(o:ME):ME:=λμ st=>(o μ st).bind λx st1=>if t? st1 x=true then f x [] st1 else .bad
def Dm:FM
 |.loc n,[],st=>match st[n]? with
  |some (.lst us)=>match us[us.length-1]? with
   |some u=>.ok u (st.set n (.lst us.dropLast))
   |none=>.bad
  |_=>.bad
 |_,_,_=>.bad
def jM:FM
 |.loc n,[.loc m],st=>match st[n]?,st[m]? with
  |some (.lst us),some (.lst ws)=>if us.length+ws.length<=sizeLine then .ok .dj (st.set n (.lst (us++ws)))else .bad
  |_,_=>.bad
 |_,_,_=>.bad
theorem bC.dropLast{K:_g}{us:List aj}{vs:List V}(r:bC K ρ H us vs):bC K ρ H us.dropLast vs.dropLast:=by rw[List.dropLast_eq_take,List.dropLast_eq_take,r.length];exact bC.take _ r
section
variable{mo:ME}{f:FM}
theorem M5:yC X "list.pop" (Q8 (wo X) E Dm):=by
 refine yC.imp Qf ?_;rintro x xs H Q ⟨ρ,st,u,us,sr,r1,r2,h⟩;unfold Dm at h;split at h
 .rename_i n;obtain⟨a,rfl,ha⟩:=r1.fU;have hx:=r2.gW;subst hx;split at h
  .rename_i ws hw;split at h
   .rename_i y hy;obtain⟨vs,hH,rv⟩:=sr.cell n _ a hw ha;obtain⟨v,hv,ry⟩:=rv.get hy;refine⟨a,vs,v,rfl,rfl,hH,by rw[<-rv.length];exact hv,?_⟩;obtain⟨k1,k2⟩:=px sr hw ha hH rv.dropLast;exact h ρ _ _ k1 k2 (Rl.mono k1 _ _ ry)
   .exact h.elim
  .exact h.elim
 .exact h.elim
theorem Dn:yC X "list.extend" (Q8 (wo X) E jM):=by
 refine yC.imp Gi ?_;rintro x xs H Q ⟨ρ,st,u,us,sr,r1,r2,h⟩;unfold jM at h;split at h
 .rename_i n m;obtain⟨a,rfl,ha⟩:=r1.fU;obtain⟨y,rfl,ry⟩:=r2.C_;obtain⟨b,rfl,hb⟩:=ry.fU;split at h
  .rename_i us ws hw hw2;split at h
   .rename_i hz;obtain⟨vs,hH,rv⟩:=sr.cell n _ a hw ha;obtain⟨zs,hZ,rz⟩:=sr.cell m _ b hw2 hb;refine⟨a,b,vs,zs,rfl,rfl,hH,hZ,by rw[<-rv.length,<-rz.length];exact hz,?_⟩;obtain⟨k1,k2⟩:=px sr hw ha hH (rv.append rz);exact h ρ _ _ k1 k2 Rl.By
   .exact h.elim
  .exact h.elim
 .exact h.elim
theorem Q!{id:String}(slot:Slot "list" name id)(Qe:typeOf (.builtin id)=pure (.type "method_descriptor"))(hm:yC X id (Q8 (wo X) E f))(ho:PE X o (tE X E mo))(jl:attributeBase o name X.env (eval o X.env)=eval o X.env:=by rfl)(jm:(apos.endLine==cN.line)=true:=by rfl):
  PE X (.Call (.Attribute o name apos) [] [] cN) (tE X E (Ji f mo)):=by
 refine PE.imp (Qd Zk slot Qe hm ho jl jm) ?_;nofun;split at h1
 .rename_i hz;exact⟨BD dM r1 hz,ρ1,st1,u,[],dM,r1,bC.nil,h1⟩
 .exact h1.elim
end
def sL(o i v:aj)(st:af):Option af:=match o,i with
 |.loc n,.int k=>match st[n]? with
  |some (.lst us)=>(L2.Bo us.length k).map λj=>st.set n (.lst (us.set j v))
  |_=>none
 |_,_=>none
def OB(μ:Env):Option af->fI
 |some st=>.nx μ st
 |none=>.bad
def p5(o i v:ME):MB:=λμ st=>(v μ st).sb μ λx st1=>(o μ st1).sb μ λy cJ=>(i μ cJ).sb μ λz oz=>OB μ (sL y z x oz)
def GS:F2:=x_ λi j st=>.ok (.int (i+j)) st
def M6:F2:=x_ λi j st=>.ok (.int (i-j)) st
def OC:F2
 |.loc n,.int i,st=>match aq st n with
  |some us=>match L2.oy us i with
   |some v=>.ok v st
   |none=>.bad
  |none=>.bad
 |_,_,_=>.bad
def yW(f:F2)(o i e:ME):MB:=λμ st=>(o μ st).sb μ λy st1=>(i μ st1).sb μ λz cJ=>(OC y z cJ).sb μ λx oz=>(e μ oz).sb μ λw qz=>(f x w qz).sb μ λr Lm=>OB μ (sL y z r Lm)
def Jj(k:Nat)(f:F2)(e:ME):MB:=λμ st=>(jA k μ st).sb μ λx st1=>(e μ st1).sb μ λw cJ=>(f x w cJ).sb μ λr oz=>.nx (μ.set k (some r)) oz
section
variable{i v:Expr}{mo mi mv:ME}{pos:Pos}{f:F2}
theorem yX{st aI:af}{u z w:aj}{x y q:V}{Q:Hp->Prop}(sr:SR X.K ρ st H)(ru:Rl X.K ρ H u x)(rz:Rl X.K ρ H z y)(zX:Rl X.K ρ H w q)(h:sL u z w st=some aI)(k:∀H',aX ρ H ρ H'->SR X.K ρ aI H'->Q H'):Ol x y q H Q:=by
 unfold sL at h;split at h
 .rename_i n j;split at h
  .rename_i us hu;obtain⟨a,rfl,ha⟩:=ru.fU;obtain⟨vs,hH,rv⟩:=sr.cell n _ a hu ha;cases hj:L2.Bo us.length j with
   |none=>rw[hj]at h;cases h
   |some jj=>
    rw[hj]at h;cases h;refine⟨a,vs,j,jj,rfl,rz.dh,hH,by rw[<-rv.length];exact hj,?_⟩;obtain⟨k1,k2⟩:=px sr hu ha hH (bC.set zX jj rv);exact k _ k1 k2
  .cases h
 .cases h
theorem M8(ho:PE X o (tE X E mo))(hi:PE X i (tE X E mi))(hv:PE X v (tE X E mv))
  (ha:∀ u,assign (.Subscript o i qJ) X.env u=(do
   let ov <- holding [u] (eval o X.env)
   let iv <- holding [u,ov] (eval i X.env)
   standAt qJ
   holding [u,ov,iv] (setItem ov iv u)
   release [u,ov,iv] []):=by intro _;rfl)
  (hs:swapsWithSole [.Subscript o i qJ] v pos.line X.env=pure false:=by rfl) (hw:swappedStores [.Subscript o i qJ] v X.env=pure none:=by rfl) (h1:(assignEach [.Subscript o i qJ] X.env).map (·.2)=[assign (.Subscript o i qJ) X.env]:=by rfl):
  PS X (.Assign [.Subscript o i qJ] v pos) (tS X E (p5 mo mi mv)):=by
 refine PS.imp (Py hv (Px ho hi set_list ha) hs hw h1) ?_;rintro D σ H ⟨μ,ρ,st,rs,sr,h⟩;refine CF μ ρ st rs sr h λu st1 ρ1 H1 x e1 dM r1 h1=>?_;refine CF μ ρ1 st1 (rs.mono e1) dM h1 λw cJ ρ2 H2 y e2 qR r2 h2=>?_;refine CF μ ρ2 cJ ((rs.mono e1).mono e2) qR h2 λz oz ρ3 H3 q e3 HH r3 h3=>?_;cases hz:sL w z u oz with
 |none=>rw[hz]at h3;exact h3.elim
 |some qz=>
  rw[hz]at h3;exact yX HH (Rl.mono e3 _ _ r2) r3 (Rl.mono e3 _ _ (Rl.mono e2 _ _ r1)) hz λH' k1 k2=>h3 ρ3 H' σ k1 k2 ((((rs.mono e1).mono e2).mono e3).mono k1)
theorem EU:gJ X (inplaceOp .Add) (rM (wo X) E GS):=by refine gJ.imp L1 ?_;rintro x y H Q ⟨ρ,st,u,w,sr,r1,r2,h⟩;obtain⟨i,j,rfl,rfl,h⟩:=kr h;exact⟨i,j,r1.dh,r2.dh,f7 sr h⟩
theorem M9:gJ X (inplaceOp .Sub) (rM (wo X) E M6):=by refine gJ.imp L3 ?_;rintro x y H Q ⟨ρ,st,u,w,sr,r1,r2,h⟩;obtain⟨i,j,rfl,rfl,h⟩:=kr h;exact⟨i,j,r1.dh,r2.dh,f7 sr h⟩
theorem EV{op:Operator}(hf:gJ X (inplaceOp op) (rM (wo X) E f))(ho:PE X o (tE X E mo))(hi:PE X i (tE X E mi))(hv:PE X v (tE X E mv))(ha:∀ov iv new,augStore i ov iv new=(do holding [new,ov,iv] (setItem ov iv new);release [new,ov,iv] [];pure .next):=by intros;rfl):
  PS X (.AugAssign (.Subscript o i qJ) op v pos) (tS X E (yW f mo mi mv)):=by
 refine PS.imp (LY ho hi IJ hv (λae s σ H x y v u Q I rx ry q=>hf ae s σ H x y v u Q I rx ry q) set_list ha) ?_;rintro D σ H ⟨μ,ρ,st,rs,sr,h⟩;refine CF μ ρ st rs sr h λu st1 ρ1 H1 x e1 dM r1 h1=>?_;refine CF μ ρ1 st1 (rs.mono e1) dM h1 λw cJ ρ2 H2 y e2 qR r2 h2=>?_;have ru:=Rl.mono e2 _ _ r1;have rs2:=(rs.mono e1).mono e2;cases u with
 |loc n=>
  cases w with
  |int j=>
   obtain⟨a,rfl,ha⟩:=ru.fU;cases z:aq cJ n with
   |none=>simp only[OC,z]at h2;exact h2.elim
   |some us=>
    cases zi:L2.oy us j with
    |none=>simp only[OC,z,zi]at h2;exact h2.elim
    |some g=>
     simp only[OC,z,zi]at h2;obtain⟨vs,hs,rv⟩:=bI qR z ha;obtain⟨g',hg,rg⟩:=rv.oy zi;refine⟨a,vs,j,g',rfl,r2.dh,hs,hg,?_⟩;refine CF μ ρ2 cJ rs2 qR h2 λt oz ρ3 H3 b e3 HH r3 h3=>?_;refine⟨ρ3,oz,g,t,HH,Rl.mono e3 _ _ rg,r3,?_⟩;cases zf:f g t oz with
     |ok c qz=>
      rw[zf]at h3;intro ρ4 H4 d e4 uJ r4;have h4:wS (wo X) E ρ4 H4 D (OB μ (sL (.loc n) (.int j) c qz)):=wS.mono h3 e4;cases hz:sL (.loc n) (.int j) c qz with
      |none=>rw[hz]at h4;exact h4.elim
      |some Lm=>
       rw[hz]at h4;exact yX uJ (Rl.mono e4 _ _ (Rl.mono e3 _ _ ru)) (Rl.mono e4 _ _ (Rl.mono e3 _ _ r2)) r4 hz λH' k1 k2=>h4 ρ4 H' σ k1 k2 (((rs2.mono e3).mono e4).mono k1)
     |err c qz=>rw[zf]at h3;exact h3
     |bad=>rw[zf]at h3;exact h3
  |_=>exact h2.elim
 |_=>exact h2.elim
theorem Q?{op:Operator}{k:Nat}(hf:gJ X (inplaceOp op) (rM (wo X) E f))(hN:X.N.Nodup)(hv:PE X v (tE X E mv))(hi:X.N[k]?=some x:=by rfl)(hx:Loc X.env.scope x:=by left)(hn:X.fn x=true\/X.env.scope.names.lookup x=some .local:=by left):PS X (.AugAssign (.Name x qJ) op v pos) (tS X E (Jj k f mv)):=by
 refine PS.imp (PB hN hi hx hv (λae s σ H x y v u Q I rx ry q=>hf ae s σ H x y v u Q I rx ry q) hn) ?_;rintro D σ H ⟨μ,ρ,st,rs,sr,h⟩;unfold Jj jA at h;split at h
 .rename_i g e;obtain⟨w,e',r⟩:=rs.at_ k g e;split at h
  .exact h.elim
  .rename_i n;have rg:=r.un n;refine⟨w,e',?_⟩;refine CF μ ρ st rs sr h λt st1 ρ1 H1 y e1 dM r1 h1=>?_;refine⟨ρ1,st1,g,t,dM,Rl.mono e1 _ _ rg,r1,?_⟩;cases zf:f g t st1 with
   |ok c cJ=>
    rw[zf]at h1;intro ρ2 H2 d e2 qR r2;exact(wS.mono h1 e2) ρ2 H2 _ (aX.refl _ _) qR (((rs.mono e1).mono e2).set k r2)
   |err c cJ=>rw[zf]at h1;exact h1
   |bad=>rw[zf]at h1;exact h1
 .exact h.elim
end
def n_(hi:Int)(n:Nat):List aj:=(List.range n).map λ(i:Nat)=>aj.int (hi-(i:Int))
theorem Jk{K:_g}(lo:Int)(n:Nat):Q3 K ρ H (n_ lo n,λ_=>True) (Itd lo n):=by
 intro ρ' aI H' e sr g i;refine⟨λu hu=>?_,λhi=>?_⟩
 .have hi:i<n:=by have:=aU hu;simpa[n_]using this
  refine⟨hi,λx U3 y=>?_⟩;obtain⟨rfl,rfl⟩:=y;have e:u=aj.int (lo-(i:Int)):=by simp only[n_,Vy]at hu;rw[Wg hi]at hu;exact(VP hu).symm
  subst e;exact⟨aX.refl _ _,sr,Rl.mkInt _⟩
 .show n<=i;simpa[n_]using hi
def Jl(vs:List aj)(aI:af):fu Itm:=match vs with
 |[.int i,.int j,.int k]=>if k = -1/\-(2 ^ 62)<=i/\i<2 ^ 62/\-(2 ^ 62)<=j/\j<2 ^ 62 then .ok (n_ i (i-j).toNat,λ_=>True) aI else .bad
 |_=>.bad
def Aj(m:MA):MI:=λμ st=>(m μ st).bind Jl
def acB(vs:List aj)(aI:af):fu Itm:=match vs with
 |[.loc n]=>match aq aI n with
  |some us=>.ok (us.reverse,λcJ=>aq cJ n=some us) aI
  |none=>.bad
 |_=>.bad
def ky:Nat->List aj->List aj
 |_,[]=>[]
 |i,u::us=>.tup [.int i,u]::ky (i+1) us
theorem l_:∀(us:List aj)(k i:Nat)(z:aj),(ky k us)[i]?=some z->∃u,us[i]?=some u/\z=.tup [.int ((k+i:Nat):Int),u]
 |[],_,_,_,h=>by cases h
 |u::us,k,0,z,h=>by cases h;exact⟨u,rfl,rfl⟩
 |u::us,k,i+1,z,h=>by obtain⟨w,h1,h2⟩:=l_ us (k+1) i z h;exact⟨w,h1,by rw[h2,show k+1+i=k+(i+1) by lia]⟩
theorem l!:∀(us:List aj)(k:Nat),(ky k us).length=us.length
 |[],_=>rfl
 |_::us,k=>by simp only[ky,Vi,l! us]
def Jm(vs:List aj)(aI:af):fu Itm:=match vs with
 |[.loc n]=>match aq aI n with
  |some us=>.ok (ky 0 us,λcJ=>aq cJ n=some us) aI
  |none=>.bad
 |_=>.bad
def kY(m:MA):MI:=λμ st=>(m μ st).bind Jm
section
variable{pos p:Pos}
theorem M_{a b c:Expr}{m:MA}(hg:Gl X "range")(hm:X.mg "range" = none)(ha:PA X [a,b,c] (tL X E m))(hs:starEach [a,b,c] X.env=[(false,eval a X.env),(false,eval b X.env),(false,eval c X.env)]:=by rfl)(su:starEach [b,c] X.env=[(false,eval b X.env),(false,eval c X.env)]:=by rfl):
  PI X tg (.Call (.Name "range" p) [a,b,c] [] pos) (tI X E (Aj m)):=by
 refine PI.imp (Mw hg hm ha hs su) ?_;rintro σ H R ⟨μ,ρ,st,rs,sr,h⟩;refine go (R1:=bC X.K) μ ρ st rs sr h λus st1 ρ1 H1 xs e1 dM r1 h1=>?_;unfold Jl at h1;split at h1
 .rename_i i j k;obtain⟨v,r',rfl,rv,rr⟩:=r1.cY;obtain⟨w,z,rfl,zX,rz⟩:=rr.S9;split at h1
  .rename_i hz;obtain⟨rfl,hz⟩:=hz;exact⟨i,j,by rw[rv.dh,zX.dh,rz.dh],hz,h1 ρ1 H1 _ (aX.refl _ _) dM (Jk i _)⟩
  .exact h1.elim
 .exact h1.elim
theorem M!{a:Expr}{m:MA}(hg:Gl X "enumerate")(hm:X.mg "enumerate" = none)(ha:PA X [a] (tL X E m))(hs:starEach [a] X.env=[(false,eval a X.env)]:=by rfl):PI X (.Tuple elts kt tp) (.Call (.Name "enumerate" p) [a] [] pos) (tI X E (kY m)):=by
 refine PI.imp (Mx hg hm PyProof.Rows.Boot.«enumerate» ha hs) ?_;rintro σ H R ⟨μ,ρ,st,rs,sr,h⟩;refine go (R1:=bC X.K) μ ρ st rs sr h λus st1 ρ1 H1 xs e1 dM r1 h1=>?_;unfold Jm at h1;split at h1
 .rename_i n;obtain⟨v,rfl,rv⟩:=r1.C_;obtain⟨b,rfl,hb⟩:=rv.fU;split at h1
  .rename_i ws hw;obtain⟨vs,M?,rvs⟩:=bI dM hw hb;refine⟨b,vs,rfl,M?,h1 ρ1 H1 _ (aX.refl _ _) dM ?_⟩;intro ρ' aI H' e s g i;obtain⟨w1,s1,t1⟩:=bI s g (e.at_ hb);refine⟨λz hz=>?_,λhi=>⟨w1,s1,?_⟩⟩
   .obtain⟨u,hu,rfl⟩:=l_ ws 0 i z hz;obtain⟨y,hy,ry⟩:=t1.get hu;refine⟨⟨w1,y,s1,hy⟩,λx' U3 y'=>?_⟩;obtain⟨pp,x1,rfl,hp,rfl,f1⟩:=y';have c1:=(f1 w1 s1).symm.trans hy;cases c1;rw[VZ];exact⟨aX.same (fJ hp),s.grow (fJ hp),Rl.yK cC (bC.mono (aX.same (fJ hp)) _ _ (bC.cons (Rl.mkInt _) (bC.one ry)))⟩
   .have Bw:(ky 0 ws).length<=i:=hi;rw[l!]at Bw;rw[<-t1.length];exact Bw
  .exact h1.elim
 .exact h1.elim
end
def GU:FN
 |[.int i,.int j],st=>.ok (.int (if j>i then j else i)) st
 |_,_=>.bad
theorem GV(hh:X.A.handled=none):dE X (.builtin "max") (cM (wo X) E GU):=by
 refine dE.imp (GB hh) ?_;rintro xs H Q ⟨ρ,st,us,sr,r,h⟩;unfold GU at h;split at h
 .rename_i i j;obtain⟨v,w,rfl,r1,r2⟩:=r.S9;exact⟨i,j,by rw[r1.dh,r2.dh],f7 sr h⟩
 .exact h.elim
section
variable{e:Expr}{mo:ME}{ms:MA}
theorem GW(ho:PE X o (tE X E mo))(ha:PA X (e::es) (tL X E ms))(jl:attributeBase o "append" X.env (eval o X.env)=eval o X.env:=by rfl)
  (vU:((backTo cN (starEach (e::es) X.env)).all (λx => !x.1)&&(backToKw cN (keywordEach [] X.env)).all (λx=>x.1.isSome)
   && decide ((e::es).length+([]:List Keyword).length+(if([]:List Keyword).isEmpty then 0 else 1)<30))=true:=by rfl)
  (jm:(apos.endLine==cN.line)=true:=by rfl) (hs:starEach (e::es) X.env=(false,eval e X.env)::starEach es X.env:=by rfl) (jT:(backTo cN (starEach es X.env)).any (·.1)=false:=by rfl):
  PE X (.Call (.Attribute o "append" apos) (e::es) [] cN) (tE X E (iW dC mo ms)):=Af PySem.F.slot_list_append PySem.F.type_list_append Di ho ha jl vU jm hs jT
theorem GX(ho:PE X o (tE X E mo))(ha:PA X (e::es) (tL X E ms))(jl:attributeBase o "extend" X.env (eval o X.env)=eval o X.env:=by rfl)
  (vU:((backTo cN (starEach (e::es) X.env)).all (λx => !x.1)&&(backToKw cN (keywordEach [] X.env)).all (λx=>x.1.isSome)
   && decide ((e::es).length+([]:List Keyword).length+(if([]:List Keyword).isEmpty then 0 else 1)<30))=true:=by rfl)
  (jm:(apos.endLine==cN.line)=true:=by rfl) (hs:starEach (e::es) X.env=(false,eval e X.env)::starEach es X.env:=by rfl) (jT:(backTo cN (starEach es X.env)).any (·.1)=false:=by rfl):
  PE X (.Call (.Attribute o "extend" apos) (e::es) [] cN) (tE X E (iW jM mo ms)):=Af PySem.F.slot_list_extend PySem.F.type_list_extend Dn ho ha jl vU jm hs jT
theorem M'(ho:PE X o (tE X E mo))(jl:attributeBase o "pop" X.env (eval o X.env)=eval o X.env:=by rfl)(jm:(apos.endLine==cN.line)=true:=by rfl):
  PE X (.Call (.Attribute o "pop" apos) [] [] cN) (tE X E (Ji Dm mo)):=Q! ZG ZF M5 ho jl jm
end
theorem U_{k:Nat}{cl cl':List (Str×_o)}{caps':List Nat}(uH:closureFor scope X.env=pure cl')(A:i? X scope cl bM)(B:i? X scope cl' caps')(has:((relabel scope X.env).names.all λp => !(p.2 == .cell || p.2 == .free) || (cl'.map (·.1)).contains p.1)=true)(ik:(scope.names.all λp => !(p.2 == .cell))=true)(kind:scope.kind=.function)(names:(scope.names.all λp => !(p.2 == .local) || scope.names.lookup p.1==some .local)=true)(len:N.length=k+bM.length)(hN:N.drop k=cl.map (·.1)):vY X N scope cl' k bM where
 uH:=uH
 sub:=B.sub
 has:=λx h=>by
  have m:x∈cl'.map (·.1):=by rcases h with h|h<;>(have m:=Wz h;have z:=WB.mp has _ m;simpa using z)
  exact kX m
 ik:=λx hx h=>by have z:=WB.mp ik x hx;simp[h]at z
 kind:=kind
 names:=λx hx h=>by have z:=WB.mp names x hx;simpa[h]using z
 len:=len
 at_:=λi j x h1 h2=>A.at_ i j x h1 (by rw[<-hN,Ye];exact h2)
theorem len0{C:_i->Prop}(h:C [])(us:_i)(hl:us.length=0):C us:=by grind
theorem Na{C:_i->Prop}{n:Nat}(h:∀a(r:_i),r.length=n->C (a::r))(us:_i)(hl:us.length=n+1):C us:=by cases us<;>grind
theorem sM{C:_i->Prop}(h:∀a,C [a]):∀us:_i,us.length=1->C us:=Na λa=>len0 (C:=λr=>C (a::r)) (h a)
theorem Ra{C:_i->Prop}(h:∀a b,C [a,b]):∀us:_i,us.length=2->C us:=Na λa=>sM (C:=λr=>C (a::r)) (h a)
theorem U!{C:_i->Prop}(h:∀a b c,C [a,b,c]):∀us:_i,us.length=3->C us:=Na λa=>Ra (C:=λr=>C (a::r)) (h a)
theorem Rb{C:_i->Prop}(h:∀a b c d,C [a,b,c,d]):∀us:_i,us.length=4->C us:=Na λa=>U! (C:=λr=>C (a::r)) (h a)
end MN
variable {us ws:List MN.aj}
variable {u v y:MN.aj}
variable {s':MN.af}
variable {K:_g}
variable {body:MN.MB}
variable {fd:FuncData}
variable {mg:Str->Option Value}
variable {mb mo md:MN.ME}
variable {ms:MN.MA}
variable {x6 x7 x0 x1 x4 x5 x9 x2 x3 x8:Option MN.aj}
variable {aW:List (L2.fX×MN.aj)}
namespace MN
open PySem.Spec L2
open PyProof.Rows hiding St
section
variable{c:_o}{o:Obj}
theorem SR.Rc{st:af}{H':Hp}{T f:_o}{cs:List (Str×_o)}{pos:Pos}{j:Nat}(s:SR K ρ st H)(hj:st[j]?=some (.tab x pos.line pos.col L.qual))(hT:ρ[j]?=some T)(N:EH L H H' T cs f c' pos):SR K ρ st H'/\aX ρ H ρ H':=by
 have k:=s.cell j _ T hj hT;have tT:∃ps,H T=some (.xR ps):=by rcases k.2 with h|⟨_,_,_,_,h,_⟩<;>exact⟨_,h⟩
 obtain⟨ps,tT⟩:=tT;have aI:aX ρ H ρ H':=by refine⟨Ys ρ,λb xs h=>N.old b _ (λz=>?_) h,λb x u h=>N.old b _ (λz=>?_) h⟩<;>(rw[z,tT]at h;cases h)
 refine⟨⟨s.len,s.nd,λn d a h1 h2=>?_⟩,aI⟩;by_cases z:n=j
 .subst z;rw[hj]at h1;rw[hT]at h2;cases h1;cases h2;exact⟨k.1,N.tab⟩
 .have kb:=s.cell n d a h1 h2;cases zm:nZ (some d) with
  |true=>exact kb.mono aI (.inl zm)
  |false=>
   have hb:a≠T:=λy=>z (s.nd n j T (by rw[<-y];exact h2) hT (by rw[h1];exact zm) (by rw[hj];rfl));obtain⟨o,ho,_⟩:=kb.there zm;exact kb.mono aI (.inr (by rw[ho];exact N.old a _ hb ho))
end
section
variable{w:World}
structure Rf(K:_g)(mg:_d)(base:Heap)(x:Str)(cd T:_o):Prop where
 tab:W.tabIn K x=some (cd,T)
 hd:W.CodeHd base cd T
 blt:base.BuiltinsAt mg T
 gT:mainGlobals≠T
theorem FnAt.mkT{st:Stmt}{f:_o}{k:Nat}{cd T:_o}(B:Rf K mg base x cd T)(F:Im K x x st f fd)(hn:W.nsIn K mainGlobals x=some (some (.ref f)))(hm:mg x=some (.ref f))(S:je N ps (bg st))(hb:∀(kV doc pm:_m)(an:Option _o)(iS ct:_m)(us:_i),us.length=ps.length->bindArgs (W.fnOf x x (iG st) (ff st) (bg st) .none kV doc pm an iS ct) ⟨us,[]⟩=pure (ps.zip us))
  (h:∀ (A:_p) (outer:List PySem.Env) (s:_n) (H:Hp) (E:XK),gK k (A.deeper (envOfC x (bg st) s.heap.objs.size f (.ref cd))) ->
   pY (jS (qP P w) P w K mg base N x (bg st) f (.ref cd) A outer s H E) (ff st) (tS (jS (qP P w) P w K mg base N x (bg st) f (.ref cd) A outer s H E) E body)):FnAt P w K mg base x (k+1) (iH ps.length N.length body):=by
 refine⟨f,fd,ps,?_,hm,F.kp,F.binds hb⟩;obtain⟨oc,od,kV,doc,pm,an,iS,ct,Ia,e,lk,CI⟩:=F.ex;have ec:iS=.ref cd:=by
  have t:=B.tab;unfold W.tabIn at t;rw[hn]at t;simp only[lk]at t;rw[e]at t;simp only[W.fnOf]at t;split at t
  .rename_i c hc;split at t
   .split at t
    .cases t;rfl
    .cases t
   .cases t
  .cases t
 subst ec;have h':∀(iS:_m)(A:_p)(outer:List PySem.Env)(s:_n)(H:Hp)(E:XK),iS=.ref cd->gK k (A.deeper (envOfC x (bg st) s.heap.objs.size f iS)) ->
   pY (jS (qP P w) P w K mg base N x (bg st) f iS A outer s H E) (ff st) (tS (jS (qP P w) P w K mg base N x (bg st) f iS A outer s H E) E body):=λiS A outer s H E e=>by subst e;exact h A outer s H E
 subst e;refine Oi lk CI S (λvs H Q E q=>?_) λA outer s H vs Q E hr q=>⟨_,h A outer s H E hr,?_⟩
 .obtain⟨us,ρ,st,r,sr,q⟩:=q;by_cases hl:us.length=ps.length
  .rw[<-r.length];exact hl
  .unfold iH at q;rw[VG hl]at q;exact q.elim
 .obtain⟨us,ρ,aI,r,sr,q⟩:=q;unfold iH at q;by_cases hl:us.length=ps.length
  .rw[Vv hl,<-hl]at q;refine⟨_,ρ,aI,RS.start r,sr,?_⟩;revert q;cases body (us.map some++List.replicate (N.length-us.length) none) aI with
   |nx μ cJ=>exact λq ρ' H' σ' e s _=>q ρ' H' .dj e s Rl.By
   |rt v cJ=>exact λq=>q
   |er c μ cJ=>exact λq=>q
   |bk μ cJ=>exact λq=>q.elim
   |ct μ cJ=>exact λq=>q.elim
   |bad=>exact λq=>q.elim
  .rw[VG hl]at q;exact q.elim
end
def gr(st:af)(x:Str)(l c:Nat)(q:Str):Prop:=∃j:Nat,st[j]?=some (.tab x l c q)
structure gZ where
 S:h!
 own:Str
 line:Nat
 col:Nat
abbrev EW(mg:_d)(base:Heap)(ts:List (_o×_o)):Prop:=∀q∈ts,W.CodeHd base q.1 q.2/\base.BuiltinsAt mg q.2/\mainGlobals≠q.2
def pQ(a:_o)(o:Option HO)(ts:List (_o×_o)):Hp:=λb=>if b∈ts.map (·.2)then some (.xR #[])else if b=a then o else none
theorem GY{w:World}{mb:_d}{k:Nat}{a:_o}{s₁:_n}{ts:List (_o×_o)}(KX:K.In s₁.heap)(OD:s₁.heap.Ns mainGlobals mg)(hb:s₁.heap.Ns builtinsNs mb)(hbb:∀x:Str,x ≠ "__name__" -> mb x=bootBuiltins x)(abM:s₁.heap.NoLimit)(hg:s₁.gens = #[])(hbm:∃bm ob,mg "__builtins__" = some (.ref bm)/\bm≠builtinsNs/\s₁.heap.get? bm=some ob/\ob.cls=.type "module" /\ ob.dict=some builtinsNs/\ob.data=.plain)(hT:W.TabsAt ts s₁.heap)(hK0:W.noTabs K=true)(ha:s₁.heap.get? a=some {cls:=.type "list",data:=.seq vs.toArray})(hi:IntsAre vs ns)(hl:ns.length<=sizeLine)(hr:gK k callerA)(F:∀base:Heap,K.In base->base.Ns mainGlobals mg->EW mg base ts->vQ P w K mg base (qP P w) k fa fd [x] sp)(U?:∀(s:_n)(u:_m),BindsTo s fd ⟨[u],[]⟩ [(x,u)])(S0:∀H:Hp,(∀b xs,H b≠some (.lst xs))->pk K H a (ns.map V.int)->(∀q∈ts,H q.2=some (.xR #[]))->a ∉ ts.map (·.2)->sp [.ref a] H (λv _=>v=.bl true) λ_ _ _=>False):
  codeAny (model P w) callerA (.call (.ref fa) ⟨[.ref a],[]⟩) (λr s'=>r=.ok (.ret (.bool true))/\OldK s₁.heap s'.heap/\s'.os=s₁.os/\AllBare s'.gens) s₁:=by
 have rv:=yE hi;have abN:=hi.length;have tabs:∀b,b∈ts.map (·.2)->s₁.heap.get? b=some (W.tabObj #[]):=λb hb=>by obtain⟨q,hq,rfl⟩:=VN.mp hb;exact(hT q hq).2
 have aT:a ∉ ts.map (·.2):=λz=>by have:=tabs a z;rw[ha]at this;cases this
 have core:∀o:Option HO,(∀x,o=some x->∃ob xs,x=.lX ob (.lst xs))->pk K (pQ a o ts) a (ns.map V.int)->m6 P w (pQ a o ts) s₁.heap->(o≠none->K.lookup a=none) ->
   codeAny (model P w) callerA (.call (.ref fa) ⟨[.ref a],[]⟩) (λr s'=>r=.ok (.ret (.bool true))/\OldK s₁.heap s'.heap/\s'.os=s₁.os/\AllBare s'.gens) s₁:=by
  intro o hO hS dJ hK;have H_T:∀b,b∈ts.map (·.2)->pQ a o ts b=some (.xR #[]):=λb hb=>Vv hb;have H_a:pQ a o ts a=o:=by unfold pQ;rw[VG aT,Vv rfl]
  have S!:∀b,pQ a o ts b=none\/(b=a/\pQ a o ts b=o)\/(b∈ts.map (·.2)/\pQ a o ts b=some (.xR #[])):=λb=>by
   by_cases h1:b∈ts.map (·.2)
   .exact .inr (.inr ⟨h1,H_T b h1⟩)
   .by_cases h2:b=a
    .subst h2;exact .inr (.inl ⟨rfl,H_a⟩)
    .exact .inl (by unfold pQ;rw[VG h1,VG h2])
  obtain⟨H,eH⟩:=NE (pQ a o ts)
  rw[<-eH]at hS dJ H_T H_a S!;have vi:∀{b:_o}{ob:Obj},s₁.heap.get? b=some ob->H b=none->(xS s₁.heap H).get? b=some ob:=λe n=>HR e n;have SY:∀{b:_o}{ob:Obj},s₁.heap.get? b=some ob->ob.cls≠.type "list" -> ob.cls≠.none->H b=none:=λ{b ob}e d d2=>by
   rcases S! b with h|⟨h,_⟩|⟨h,_⟩
   .exact h
   .subst h;rw[ha]at e;cases e;exact absurd rfl d
   .rw[tabs b h]at e;cases e;exact absurd rfl d2
  have noD:∀{b:_o}{ob:Obj}{es:Array DictEntry}{ep:Nat},s₁.heap.get? b=some ob->ob.data=.dict es ep->H b=none:=λ{b ob es ep}e d=>by
   rcases S! b with h|⟨h,_⟩|⟨h,_⟩
   .exact h
   .subst h;rw[ha]at e;cases e;have d':Data.seq vs.toArray _=Data.dict es ep:=d;cases d'
   .rw[tabs b h]at e;cases e;cases d
  have nsK:∀{b:_o}{m:_d},s₁.heap.Ns b m->(xS s₁.heap H).Ns b m:=λ{b m}⟨ob,es,ep,e,d,r⟩=>⟨ob,es,ep,vi e (noD e d),d,r⟩
  have hKb:K.In (xS s₁.heap H):=λb ob e=>vi (KX b ob e) (by
   rcases S! b with h|⟨h,h2⟩|⟨h,_⟩
   .exact h
   .subst h;cases q:o with
    |none=>rw[h2,q]
    |some u=>rw[hK (by rw[q];simp)]at e;cases e
   .have h1:=KX b ob e;rw[tabs b h]at h1;cases h1;have h2:=WB.mp hK0 _ (W.mem_of_lookupK e);exact absurd (show false=true from h2) VW)
  have hM:Mod K mg (xS s₁.heap H):=⟨hKb,nsK OD,⟨mb,nsK hb,hbb⟩,let⟨mc,h1,h2⟩:=abM;⟨mc,nsK h1,h2⟩⟩
  have e0:CQ P w K mg (xS s₁.heap H) callerA [] s₁ H:=⟨rfl,hM,λb o e=>LD e,Xu (F_ _ _),trivial,λb hb=>absurd (show b∈([]:_k)from hb) (by simp),dJ,.of_eq hg⟩
  have hBT:EW mg (xS s₁.heap H) ts:=by
   intro q hq;obtain⟨h1,h2⟩:=hT q hq;refine⟨?_,?_,?_⟩
   .obtain⟨oc,ws,file,tf,flags,tg,inF,text,tt,e1,r1,r⟩:=h1;exact⟨oc,ws,file,tf,flags,tg,inF,text,tt,vi e1 (SY e1 (by rw[r1];decide) (by rw[r1];intro z;cases z)),r1,r⟩
   .obtain⟨bm,ob,b1,b2,b3,b4,b5,b6⟩:=hbm;refine⟨bm,ob,b1,b2,λz=>?_,λz=>?_,vi b3 (SY b3 (by rw[b4];decide) (by rw[b4];intro z;cases z)),b4,b5,b6⟩
    .obtain⟨o',es,ep,e,hd,_⟩:=OD;rw[z,e]at b3;cases b3;rw[hd]at b6;cases b6
    .rw[z,h2]at b3;cases b3;cases b4
   .intro z;obtain⟨o',es,ep,e,hd,_⟩:=OD;rw[z,h2]at e;cases e;cases hd
  refine Yq ((F _ hKb (nsK OD) hBT).run callerA [] s₁ H ⟨[.ref a],[]⟩ [.ref a] [.ref a] _ _ hr e0 (U? s₁ (.ref a)) (.cons rfl .nil) (S0 H (λb xs z=>?_) hS (λq hq=>H_T _ (VV hq)) aT)) λr s' h=>?_
  .rcases S! b with h|⟨_,h2⟩|⟨_,h2⟩
   .rw[h]at z;cases z
   .rw[h2]at z;obtain⟨_,_,e⟩:=hO _ z;cases e
   .rw[h2]at z;cases z
  cases r with
  |error e=>obtain⟨_,_,_,_,_,z⟩:=h;exact z.elim
  |ok fl=>
   cases fl with
   |next=>exact False.elim h
   |brk=>exact False.elim h
   |cont=>exact False.elim h
   |ret u=>
    obtain⟨v,H',os,bare,un,Va,r',q⟩:=h;have q':v=.bl true:=q;subst q';obtain rfl:u=Value.bool true:=r';have there:∀b ob,s₁.heap.get? b=some ob->(s'.heap.get? b=some ob)\/(isCodeTable s₁.heap b/\ob=W.tabObj #[]/\∃ps,s'.heap.get? b=some (W.tabObj ps)):=λb ob e=>by
     rcases S! b with h|⟨h,h2⟩|⟨h,h2⟩
     .exact .inl (un.keep b ob e h (by intro z;exact absurd (show b∈([]:_k)from z) (by simp)) (by simp))
     .cases q:o with
      |none=>rw[q]at h2;exact .inl (un.keep b ob e h2 (by intro z;exact absurd (show b∈([]:_k)from z) (by simp)) (by simp))
      |some u=>
       obtain⟨o2,xs,eu⟩:=hO u q;rw[q,eu]at h2;have z2:=un.pO b o2 _ h2;obtain⟨e1,_⟩:=dJ b _ h2;obtain⟨e2,_⟩:=Va b _ z2;rw[e]at e1;cases e1;exact .inl e2
     .obtain⟨m,hm⟩:=un.qE b _ h2;obtain⟨q,hq,rfl⟩:=VN.mp h;have e1:=tabs _ h;rw[e]at e1;exact .inr ⟨((hT q hq).1.tab (hT q hq).2).isCodeTable,VP e1,_,Va _ _ hm⟩
    refine⟨rfl,⟨λb ob e=>?_,λb ob e=>?_⟩,os,bare⟩
    .rcases there b ob e with h|⟨ht,rfl,ps,hP⟩
     .exact .inl h
     .exact .inr (.inl ⟨ht,rfl,#[],ps,rfl,by rw[Array.empty_append];exact hP⟩)
    .rcases there b ob e with h|⟨ht,rfl,ps,hP⟩
     .exact⟨_,h⟩
     .exact⟨_,hP⟩
 have Vb:∀(o:Option HO)b,b∈ts.map (·.2)->∀u,pQ a o ts b=some u->dR P w (pQ a o ts) s₁.heap b u:=λo b hb u z=>by rw[show pQ a o ts b=some (.xR #[])from Vv hb]at z;cases z;exact tabs b hb
 cases hk:K.lookup a with
 |some o=>
  have e:=KX a o hk;rw[ha]at e;cases e;refine core none (λ_ z=>by cases z) (.inr ⟨_,vs.toArray,_,hk,rfl,rfl,rfl,by rw[VB,abN];exact hl,by simpa using rv⟩) (λb u z=>?_) λz=>absurd rfl z;by_cases hb:b∈ts.map (·.2)
  .exact Vb _ b hb u z
  .unfold pQ at z;rw[VG hb]at z;split at z<;>cases z
 |none=>
  refine core (some (.lX {cls:=.type "list",data:=.seq vs.toArray} (.lst (ns.map V.int)))) (λx z=>by cases z;exact⟨_,_,rfl⟩) (.inl (.inr ⟨{cls:=.type "list",data:=.seq vs.toArray},?_⟩)) (λb u z=>?_) λ_=>hk
  .unfold pQ;rw[VG aT,Vv rfl]
  .by_cases hb:b∈ts.map (·.2)
   .exact Vb _ b hb u z
   .have z0:=z;unfold pQ at z;rw[VG hb]at z;split at z
    .rename_i hba;cases z;subst hba;exact⟨ha,by rw[Vg];exact hl,vs,_,rv,ha⟩
    .cases z
inductive uL(q:_q)(K:_g):List aZ->List (_o×_o)->Prop
 |nil:uL q K [] []
 |cons {x qn:Str} {l c:Nat} {cs:List aZ} {cd T:_o} {ts:List (_o×_o)} {d:DefRec} (hd:(recsOf q).find? (λe=>e.name==x)=some d) (ht:W.tabIn K x=some (cd,T)) (r:uL q K cs ts):uL q K (.tab x l c qn::cs) ((cd,T)::ts)
theorem uL.at_{q:_q}{abO:ExcName->_j}{mb:_d}(T:Top q loose abO mg mb h)(X:K.In h):∀{cs:List aZ}{ts:List (_o×_o)},uL q K cs ts->W.TabsAt ts h
 |_,_,.nil=>λ_ z=>nomatch z
 |_,_,.cons hd ht r=>List.forall_mem_cons.mpr ⟨W.tab_of T X hd ht,r.at_ T X⟩
theorem uL.len{q:_q}:∀{cs:List aZ}{ts:List (_o×_o)},uL q K cs ts->ts.length=cs.length
 |_,_,.nil=>rfl
 |_,_,.cons _ _ r=>by rw[Vi,Vi,r.len]
theorem uL.cell{q:_q}:∀{cs:List aZ}{ts:List (_o×_o)},uL q K cs ts->(∀p∈ts,H p.2=some (.xR #[]))->∀(n:Nat)(c:aZ)(a:_o),cs[n]?=some c->(ts.map (·.2))[n]?=some a->jq K ρ H c a
 |_,_,.nil,_,n,c,a,h,_=>by simp at h
 |_,_,.cons (cd:=cd) hd ht r,k,0,c,a,h1,h2=>by cases h1;cases h2;exact⟨⟨cd,ht⟩,.inl (k _ (.head _))⟩
 |_,_,.cons hd ht r,k,n+1,c,a,h1,h2=>r.cell (λp hp=>k p (.tail _ hp)) n c a h1 h2
theorem Nb{q:_q}{a:_o}{c:aZ}{cs:List aZ}{ts:List (_o×_o)}(L:uL q K cs ts)(nd:(ts.map (·.2)).Nodup)(na:a ∉ ts.map (·.2))(hH:∀p∈ts,H p.2=some (.xR #[]))(k:jq K (a::ts.map (·.2)) H c a):SR K (a::ts.map (·.2)) (c::cs) H:=by
 refine⟨by rw[Vi,Vi,Vg,L.len],λn m b h1 h2 _ _=>?_,λn d b h1 h2=>?_⟩
 .have N:(a::ts.map (·.2)).Nodup:=WJ.mpr ⟨na,nd⟩;have l1:=aU h1;have l2:=aU h2;rw[Vk l1]at h1;rw[Vk l2]at h2;have e:=VP (h1.trans h2.symm);rcases ZZ n m with z|z|z
  .exact absurd e (Yi.mp N n m l1 l2 z)
  .exact z
  .exact absurd e.symm (Yi.mp N m n l2 l1 z)
 .cases n with
  |zero=>cases h1;cases h2;exact k
  |succ n=>exact L.cell hH n d b h1 h2
theorem GZ{l:W.OpenLaw}{q:_q}{XP:(_d)->Heap->Prop}{YP:World->Heap->Prop}{d:DefRec}{K:Params->_g}{k:Nat}{cs:List aZ}{f:FN}(hn:l.most=some 63)(Uo:d.params.defaults=[])(hr:gK k callerA)(hf:∀(c:aZ)(ns:_h),ns.length<=63->aq (c::cs) 0=some (ns.map aj.int)->∃aI,f [.loc 0] (c::cs)=.ok (.bl true) aI)(hY:∀(w:World)(h:Heap),YP w h->(K w.params).In h)
  (F:∀ (w:World) (mg:_d) (fa:_o) (h:Heap),(K w.params).In h->h.Ns mainGlobals mg->mg d.name=some (.ref fa) ->
   ∃(fd:FuncData)(ts:List (_o×_o)),uL q (K w.params) cs ts/\(ts.map (·.2)).Nodup/\W.noTabs (K w.params)=true/\(∀(s:_n)(u:_m),BindsTo s fd ⟨[u],[]⟩ [(x,u)]) /\
    ∀base:Heap,(K w.params).In base->base.Ns mainGlobals mg->EW mg base ts->vQ l.prog w (K w.params) mg base (qP l.prog w) k fa fd [x] (QM ⟨K w.params,mg,[]⟩ f)):
  W.WalkO q loose XP YP l.row.toRowW d [] (λf vs=>PySem.call f vs):=by
 refine Att.Bq hn Uo λw s₀ s₁ mg mb fa o pm cd doc a vs ns G Y ho hd CI Uq Qk hints hlen hg=>?_;have KX:=hY w _ Y;obtain⟨fd,ts,L,nd,nt,hb,hF⟩:=F w mg fa _ KX G.T.g Uq;refine GY KX G.T.g G.T.b G.T.builtins G.T.nolimit hg G.T.bmain (L.at_ G.T KX) nt Qk hints (V! hlen ⋯) hr hF hb λH hO hS hH na=>?_;have fin:∀c:aZ,jq (K w.params) (a::ts.map (·.2)) H c a->aq (c::cs) 0=some (ns.map aj.int)->QM ⟨K w.params,mg,[]⟩ f [.ref a] H (λv _=>v=.bl true) λ_ _ _=>False:=by intro c k hi;obtain⟨aI,e⟩:=hf c ns hlen hi;refine⟨[.loc 0],a::ts.map (·.2),c::cs,bC.one (Rl.IM rfl),Nb L nd na hH k,?_⟩;rw[e];intro ρ' H' v _ _ r;exact r.xZ
 rcases hS with(h|⟨o,h⟩)|h
 .exact absurd h (hO a _)
 .exact fin (.QB (ns.map .int)) ⟨o,_,h,bC.ints ns⟩ rfl
 .exact fin (.mod (ns.map .int)) ⟨_,h,bC.ints ns⟩ rfl
def Vc:List Stmt->Option Expr
 |[]=>none
 |[.Return (some (.Call _ (e::_) _ _)) _]=>some e
 |_::r=>Vc r
def Vd(e:Option Expr)(qual:Str)(ps:_l)(x:Str):h!:=match e with
 |some (.Lambda params body scope _)=>⟨qual,params,body,scope,ps,x⟩
 |_=>⟨qual,{posonlyargs:=[],args:=[],vararg:=none,kwonlyargs:=[],kw_defaults:=[],kwarg:=none,defaults:=[]},.Constant .none 0 ⟨0,0,0,0⟩,{kind:=.function,names:=[],isGenerator:=false,isCoroutine:=false},ps,x⟩
theorem Rg{f cd T:_o}{o2:_m}{d2:Option _o}{sl s2:Array (_j)}{vs:Array _m}(a:W.nsIn K mainGlobals x=some (some (.ref f)))(l:K.lookup f=some ⟨oc,od,.func fd,sl⟩)(hc:fd.code=.ref cd)(lc:K.lookup cd=some ⟨o2,d2,.fields vs,s2⟩)(hv:(vs[11]?:_j)=some (.ref T)):W.tabIn K x=some (cd,T):=by unfold W.tabIn;simp only[a,l,hc,lc,hv]
end MN
namespace PM
open PySem.Spec L2 MN
open PyProof.Rows hiding St
def iJ:aj:=.mt ([2,3,5,7,11,13,17,19,23,29,31].map aj.int)
def qX:FN:=iH 1 1 (bZ (GD (mIs "int" bc) (US (mIs "bool" bc))))
def dq:FN:=iH 1 1 (az (sv (gA (ag (QW false) bc (mC PM.iJ))) (bZ (mC (.bl true))) fE) (az (sv (Ae (gA (ag ltV bc yM)) (gA (ag v! bc (mC (.int 997))))) (bZ (mC (.bl false))) fE) (bZ (ao Df (aa (cH 1 [0] (f9 (mC PM.iJ)) (aA 0) bj (ag vh (ag gq bT bc) cW)) ai)))))
def gB:FN:=iH 1 1 (bZ (Lo (gA (ag ltV bc cW)) (ko cm) cm))
def kZ:FN:=iH 1 1 (az (sv (gA (ag vh (ao BC (aa bc ai)) cm)) (oC "NoInverse" (aa (qs "only 1 and -1 have an inverse among the whole numbers") ai)) fE) (bZ bc))
def nh:FN:=iH 1 1 (bZ (GD (ao PM.qX (aa bc ai)) (mOr (ag sA bc cW) (ao PM.dq (aa bc ai)))))
def shared:FN:=iH 2 6 (az (aK 2 (gp (aa (ao BC (aa bc ai)) (aa (ao PM.gB (aa bc ai)) (aa cW ai))))) (az (aK 3 (gp (aa (ao BC (aa bT ai)) (aa cW (aa (ao PM.gB (aa bT ai)) ai))))) (az (e! (gA (ag vh (ag bJ d! cW) cW)) (az (aK 4 (ag qT (ag bJ d6 cW) (ag bJ d! cW))) (az (aK 5 (ao De (aa (cH 2 [4] (we false false (aa d6 (aa d! ai))) (js [(aA 0),(aA 1)]) bj (ag jr bc (ag b9 d6 bT))) ai))) (az (aK 2 d!) (aK 3 iU))))) (bZ d6))))
def jW:FN:=iH 1 1 (sv (EJ (gA (ao PM.nh (aa bc ai)))) (oC "NoRing" (aa (qs "a ring is 0 or a prime from 2 to 997") ai)) fE)
def inverse:FN:=iH 2 2 (az (e_ (ao PM.jW (aa bc ai))) (az (sv (gA (ag sA bc cW)) (bZ (ao PM.kZ (aa bT ai))) fE) (az (sv (gA (ag sA (ag gq bT bc) cW)) (oC "NoInverse" (aa (qs "a multiple of the prime has no inverse") ai)) fE) (bZ (ag gq (ag bJ (ao PM.shared (aa (ag gq bT bc) (aa bc ai))) cm) bc)))))
def c_:FN:=iH 2 3 (az (aK 2 (cH 1 [0] (f9 bT) (aA 0) bj (ag gq bc bT))) (az (e! (yL (gA (ag v! (ao bD (aa d6 ai)) cW)) (gA (ag sA (ag bJ d6 (ko cm)) cW))) (e_ (Ji Dm d6))) (bZ d6)))
def bE:FN:=iH 2 5 (az (aK 2 cW) (az (sv (gA (ag ltV bT (ao bD (aa bc ai)))) (aK 2 (ag bJ bc bT)) fE) (az (sv (gA (ag v! (ao BC (aa d6 ai)) (ag MG (mC (.int 10)) (mC (.int 9))))) (bZ d6) fE) (az (aK 3 (ag gq (ag dA (ag dA (ag dA (ag b9 d6 (mC (.int 48271))) (ag b9 (ag b9 (mC (.int 7919)) bT) bT)) (ag b9 (mC (.int 104729)) bT)) (mC (.int 11))) fZ)) (az (aK 4 (ag gq (ag b9 (ag gq (ag b9 d! d!) (mC (.int 2147483629))) (mC (.int 69621))) fZ)) (bZ (ag dA (ag b9 (ag gq (ag b9 fY fY) (mC (.int 2147483587))) fZ) fY)))))))
def gC:FN:=iH 1 1 (sv (Ae (EJ (gA (ao PM.nh (aa bc ai)))) (gA (ag sA bc cW))) (oC "NoPrime" (aa (qs "a prime is one from 2 to 997") ai)) fE)
def fo:FN:=iH 2 2 (bZ (ag dA (ao qd (aa bc ai)) (ag b9 (bB (aa cW ai)) (ag jr bT (ao bD (aa bc ai))))))
def pz:FN:=iH 1 2 (az (aK 1 (ao bD (aa bc ai))) (az (e! (yL (gA (ag v! bT cW)) (gA (ag sA (ag bJ bc (ag jr bT cm)) cW))) (aK 1 (ag jr bT cm))) (bZ (x! bc iy (iz bT)))))
def bK:FN:=iH 4 6 (az (aK 4 (ao GU (aa (ao bD (aa bT ai)) (aa (ao bD (aa d6 ai)) ai)))) (az (aK 5 (ao PM.fo (aa bT (aa fY ai)))) (bZ (ao PM.c_ (aa bc (aa (cH 2 [3] (we true true (aa iU (aa (ao PM.fo (aa d6 (aa fY ai))) ai))) (js [(aA 0),(aA 1)]) bj (ag dA bc (ag b9 d6 bT))) ai))))))
def dW:FN:=iH 3 8 (az (sv (Ae (gA (ag sA (ao bD (aa bT ai)) cW)) (gA (ag sA (ao bD (aa d6 ai)) cW))) (bZ (bB ai)) fE) (az (aK 3 (ag b9 (bB (aa cW ai)) (ag jr (ag dA (ao bD (aa bT ai)) (ao bD (aa d6 ai))) cm))) (az (ic (kY (aa bT ai)) (js [(aA 4),(aA 5)]) (ic (kY (aa d6 ai)) (js [(aA 6),(aA 7)]) (yW GS d! (ag dA fY jU) (ag b9 iU qc)))) (bZ (ao PM.c_ (aa bc (aa d! ai)))))))
def d?:FN:=iH 3 3 (bZ (ao PM.c_ (aa bc (aa (cH 1 [2] (f9 bT) (aA 0) bj (ag b9 bc bT)) ai))))
def f?:FN:=iH 2 2 (bZ (ao PM.c_ (aa bc (aa (cH 1 [1] (kx (aa cm (aa (ao bD (aa bT ai)) ai))) (aA 0) bj (ag b9 bc (ag bJ bT bc))) ai))))
def l?:FN:=iH 3 6 (az (aK 3 (bB ai)) (az (ic (f_ (aa d6 ai)) (aA 4) (az (aK 5 (ag gq (ag dA bT (ag b9 (mC (.int 7919)) fY)) fZ)) (az (aK 5 (ag gq (ag b9 (ag gq (ag b9 iU iU) (mC (.int 2147483629))) (mC (.int 48271))) fZ)) (e_ (iW dC d! (aa (ag gq (ag qT iU (ag dA cm fY)) bc) ai)))))) (bZ (ao PM.pz (aa d! ai)))))
def ja:FN:=iH 3 7 (az (aK 3 (ag b9 (bB (aa cW ai)) (ag dA (ao bD (aa bT ai)) (ao bD (aa d6 ai))))) (az (ic (f_ (aa (ao bD (aa bT ai)) ai)) (aA 4) (ic (f_ (aa (ao bD (aa d6 ai)) ai)) (aA 5) (az (aK 6 (ag b9 (ag bJ bT fY) (ag bJ d6 iU))) (p5 d! (ag dA fY iU) (ag gq (ag dA (ag bJ d! (ag dA fY iU)) jU) bc))))) (bZ (ao PM.pz (aa d! ai)))))
def parted:FN:=iH 3 11 (az (aK 3 (ao qd (aa bT ai))) (az (aK 4 (ao PM.inverse (aa bc (aa (ag bJ d6 (ko cm)) ai)))) (az (aK 5 (ao GU (aa cW (aa (ag dA (ag jr (ao bD (aa bT ai)) (ao bD (aa d6 ai))) cm) ai)))) (az (aK 6 (ag b9 (bB (aa cW ai)) iU)) (az (ic (Aj (aa (ag jr iU cm) (aa (ko cm) (aa (ko cm) ai)))) (aA 7) (az (aK 8 (ag gq (ag b9 (ag bJ d! (ag jr (ag dA qc (ao bD (aa d6 ai))) cm)) fY) bc)) (az (p5 jU qc GF) (ic (kY (aa d6 ai)) (js [(aA 9),(aA 10)]) (yW M6 d! (ag dA qc A_) (ag b9 GF (jA 10))))))) (bZ (gp (aa (ao PM.c_ (aa bc (aa jU ai))) (aa (ao PM.c_ (aa bc (aa d! ai))) ai)))))))))
def gL:FN:=iH 3 5 (az (aK 3 (ao PM.parted (aa bc (aa (ag bJ bT cW) (aa (ag bJ d6 cW) ai))))) (az (aK 4 (cH 1 [2,3,0] (f9 (gp (aa cm (aa yM ai)))) (aA 0) bj (ao PM.dW (aa d! (aa (ag bJ d6 cW) (aa (ag bJ bT bc) ai)))))) (bZ (gp (aa (ag bJ d! cm) (aa (ao PM.bK (aa bc (aa (ag bJ bT cm) (aa (ag bJ fY cW) (aa (ko cm) ai))))) (aa (ao PM.bK (aa bc (aa (ag bJ bT yM) (aa (ag bJ fY cm) (aa (ko cm) ai))))) ai)))))))
def met:FN:=iH 3 10 (az (aK 3 (gp (aa bT (aa (bB (aa cm ai)) (aa (bB ai) ai))))) (az (aK 4 (gp (aa d6 (aa (bB ai) (aa (bB (aa cm ai)) ai))))) (az (e! (gA (ag v! (ao bD (aa (ag bJ fY cW) ai)) cW)) (az (aK 5 (ao PM.gL (aa bc (aa d! (aa fY ai))))) (az (aK 3 fY) (aK 4 iU)))) (az (aK 6 (ao PM.inverse (aa bc (aa (ag bJ (ag bJ d! cW) (ko cm)) ai)))) (az (aK 7 (ao PM.d? (aa bc (aa (ag bJ d! cW) (aa jU ai))))) (az (aK 8 (ag bJ (ao PM.parted (aa bc (aa bT (aa qc ai)))) cW)) (az (aK 9 (ag bJ (ao PM.parted (aa bc (aa d6 (aa qc ai)))) cW)) (bZ (gp (aa qc (aa GF (aa A_ (aa (ao PM.d? (aa bc (aa (ag bJ d! cm) (aa jU ai)))) (aa (ao PM.d? (aa bc (aa (ag bJ d! yM) (aa jU ai)))) ai))))))))))))))
end PM
namespace MN
open PySem.Spec L2
open PyProof.Rows hiding St
theorem dX{g:af->Prop}{a:AS}{body:MB}(P:Nat->Env->af->Prop):∀(us:List aj)(k:Nat)(μ:Env)(st:af),
  (∀(i:Nat)(u:aj)(μ:Env)(st:af),us[i]?=some u->P (k+i) μ st->g st/\∃μ1,a u μ=some μ1/\∃μ' aI,(body μ1 st=.nx μ' aI\/body μ1 st=.ct μ' aI)/\P (k+i+1) μ' aI) ->
  (∀μ st,P (k+us.length) μ st->g st)->P k μ st->∃μ' aI,forL g a body us μ st=.nx μ' aI/\P (k+us.length) μ' aI
 |[],k,μ,st,_,he,h=>by refine⟨μ,st,?_,h⟩;unfold forL;rw[Vv (he μ st h)]
 |u::us,k,μ,st,hs,he,h=>by
  obtain⟨hg,μ1,ha,μ',aI,hb,hP⟩:=hs 0 u μ st rfl h;have ih:=dX (a:=a) (body:=body) P us (k+1) μ' aI (λi v μ2 cJ hv hp=>by
   have:=hs (i+1) v μ2 cJ hv (by rw[show k+(i+1)=k+1+i by lia];exact hp);rw[show k+(i+1)+1=k+1+i+1 by lia]at this;exact this) (λμ2 cJ hp=>he μ2 cJ (by rw[Vi,show k+(us.length+1)=k+1+us.length by lia];exact hp)) hP
  obtain⟨μ2,cJ,e2,p2⟩:=ih;refine⟨μ2,cJ,?_,by rw[Vi,show k+(us.length+1)=k+1+us.length by lia];exact p2⟩;unfold forL;rw[Vv hg,ha];rcases hb with hb|hb<;>(dsimp only;rw[hb];exact e2)
theorem jX{g:af->Prop}{a:AS}{c:MT}{e:ME}{st:af}(hg:g st)(I:Env->Prop)(p:aj->Bool)(f:aj->aj):∀(us:List aj)(τ:Env)(ys:List aj),I τ ->
  (∀u∈us,∀τ,I τ->∃τ1,a u τ=some τ1/\I τ1/\c τ1 st=.ok (p u) st/\(p u=true->e τ1 st=.ok (f u) st))->dS g a c e us τ st ys=.ok (ys++(us.filter p).map f) st
 |[],τ,ys,_,_=>by unfold dS;rw[Vv hg];simp
 |u::us,τ,ys,hI,hs=>by
  obtain⟨τ1,h1,h2,h3,h4⟩:=hs u Vu τ hI;have M?:=λv hv=>hs v (Vx u hv);unfold dS;rw[Vv hg,h1];dsimp only;rw[h3];cases z:p u with
  |true=>
   dsimp only;rw[h4 z];dsimp only;rw[jX hg I p f us τ1 _ h2 M?,_a z];simp
  |false=>
   dsimp only;rw[jX hg I p f us τ1 _ h2 M?,_b (by rw[z];simp)]
theorem du(st:af)(us:List aj):aq (st++[.lst us]) st.length=some us:=by unfold aq;rw[V2 (Vt _),W3];rfl
theorem bQ{st:af}{n:Nat}(h:aq st n=some us)(more:af):aq (st++more) n=some us:=by
 have hn:n<st.length:=by
  rcases Wx n st.length with q|q
  .exact q
  .unfold aq at h;rw[Wa q]at h;cases h
 unfold aq at h⊢;rw[V3 hn];exact h
theorem wm{t:MT}{body:MB}(P:Env->af->Prop)(M:Env->af->Nat)(Q:Env->af->Prop)(hs:∀μ st,P μ st->(∃st1,t μ st=.ok false st1/\Q μ st1)\/∃st1 μ' aI,t μ st=.ok true st1/\(body μ st1=.nx μ' aI\/body μ st1=.ct μ' aI)/\P μ' aI/\M μ' aI<M μ st):
  ∀(n:Nat)(μ:Env)(st:af),M μ st<n->P μ st->∃μ' aI,i_ t body n μ st=some (.nx μ' aI)/\Q μ' aI
 |0,μ,st,h,_=>absurd h (Y2 _)
 |n+1,μ,st,h,hp=>by
  unfold i_;rcases hs μ st hp with⟨st1,e,q⟩|⟨st1,μ',aI,e,hb,p',lt⟩
  .rw[e];exact⟨μ,st1,rfl,q⟩
  .rw[e];dsimp only;obtain⟨μ2,cJ,e2,q2⟩:=wm P M Q hs n μ' aI ⋯ p';rcases hb with hb|hb<;>(rw[hb];exact⟨μ2,cJ,e2,q2⟩)
theorem il{t:MT}(P:Env->af->Prop)(M:Env->af->Nat)(Q:Env->af->Prop)(hs:∀μ st,P μ st->(∃st1,t μ st=.ok false st1/\Q μ st1)\/∃st1 μ' aI,t μ st=.ok true st1/\(body μ st1=.nx μ' aI\/body μ st1=.ct μ' aI)/\P μ' aI/\M μ' aI<M μ st)(μ:Env)(st:af)(hp:P μ st):∃μ' aI,e! t body μ st=.nx μ' aI/\Q μ' aI:=by obtain⟨μ',aI,e,q⟩:=wm P M Q hs (M μ st+1) μ st (X? _) hp;exact⟨μ',aI,GP e,q⟩
def fu.nj(r:fu α)(k:α->af->fu β):fu β:=match r with
 |.ok a st=>k a st
 |.err c st=>.err c st
 |.bad=>.bad
def fu.ud(r:fu α)(μ:Env)(k:α->af->fI):fI:=match r with
 |.ok a st=>k a st
 |.err c st=>.er c μ st
 |.bad=>.bad
def fI.fv(r:fI)(k:MB):fI:=match r with
 |.nx μ st=>k μ st
 |.rt v st=>.rt v st
 |.bk μ st=>.bk μ st
 |.ct μ st=>.ct μ st
 |.er c μ st=>.er c μ st
 |.bad=>.bad
def fI.fin(r:fI):fu aj:=match r with
 |.nx _ aI=>.ok .dj aI
 |.rt v aI=>.ok v aI
 |.er c _ aI=>.err c aI
 |_=>.bad
section
variable{μ:Env}{st:af}
theorem ar{a:α}{k:α->af->fu β}:(fu.ok a st).nj k=k a st:=rfl
theorem aG{a:α}{k:α->af->fI}:(fu.ok a st).ud μ k=k a st:=rfl
theorem aR{k:MB}:(fI.nx μ st).fv k=k μ st:=rfl
theorem oE{k:MB}:(fI.rt v st).fv k=.rt v st:=rfl
theorem Jn:(fI.nx μ st).fin=.ok .dj st:=rfl
theorem bf:(fI.rt v st).fin=.ok v st:=rfl
theorem mj{r:fu α}{k:α->af->fu β}:r.bind k=r.nj k:=by cases r<;>rfl
variable{a b c:ME}{f g:F2}{t u:MT}{s1 s2:MB}{i:Nat}
theorem eg{r:fu α}{k k':α->af->fu β}(h:∀a st,k a st=k' a st):r.bind k=r.nj k':=by cases r<;>first|exact h _ _|rfl
theorem g6{r:fu α}{k k':α->af->fI}(h:∀a st,k a st=k' a st):r.sb μ k=r.ud μ k':=by cases r<;>first|exact h _ _|rfl
def Jo(f:F2)(x:aj):aj->af->fu aj:=λy st=>f x y st
def Ve(f:F2)(b:ME)(μ:Env):aj->af->fu aj:=λx st=>(b μ st).nj (Jo f x)
theorem aB:ag f a b μ st=(a μ st).nj (Ve f b μ):=eg λ_ _=>eg λ_ _=>rfl
theorem aL{x:aj}:Ve f b μ x st=(b μ st).nj (Jo f x):=rfl
theorem aC{x:aj}:Jo f x y st=f x y st:=rfl
theorem bN:mC v μ st=.ok v st:=rfl
def asB:aj->af->fu Bool
 |.bl b,st=>.ok b st
 |_,_=>.bad
theorem bt{b:Bool}:asB (.bl b) st=.ok b st:=rfl
theorem bo:gA a μ st=(a μ st).nj asB:=eg λx _=>by cases x<;>rfl
def Vf(b:ME)(μ:Env):aj->af->fu aj
 |.bl true,st=>b μ st
 |.bl false,st=>.ok (.bl false) st
 |_,_=>.bad
theorem Dp:GD a b μ st=(a μ st).nj (Vf b μ):=eg λx _=>by
 cases x<;>try rfl
 rename_i k;cases k<;>rfl
theorem Ak:Vf b μ (.bl true) st=b μ st:=rfl
def kOr(b:ME)(μ:Env):aj->af->fu aj
 |.bl true,st=>.ok (.bl true) st
 |.bl false,st=>b μ st
 |_,_=>.bad
theorem OE:mOr a b μ st=(a μ st).nj (kOr b μ):=eg λx _=>by
 cases x<;>try rfl
 rename_i k;cases k<;>rfl
theorem Rh:kOr b μ (.bl true) st=.ok (.bl true) st:=rfl
theorem Ri:kOr b μ (.bl false) st=b μ st:=rfl
def Jp(u:MT)(μ:Env):Bool->af->fu Bool
 |true,st=>u μ st
 |false,st=>.ok false st
theorem vj:yL t u μ st=(t μ st).nj (Jp u μ):=eg λx _=>by cases x<;>rfl
theorem BH:Jp u μ true st=u μ st:=rfl
theorem Jq:Jp u μ false st=.ok false st:=rfl
def Rj(u:MT)(μ:Env):Bool->af->fu Bool
 |true,st=>.ok true st
 |false,st=>u μ st
theorem jB:Ae t u μ st=(t μ st).nj (Rj u μ):=eg λx _=>by cases x<;>rfl
theorem Nc:Rj u μ true st=.ok true st:=rfl
theorem jg:Rj u μ false st=u μ st:=rfl
def OF:Bool->af->fu Bool:=λk st=>.ok (!k) st
theorem EX:EJ t μ st=(t μ st).nj OF:=eg λ_ _=>rfl
theorem Jr{k:Bool}:OF k st=.ok (!k) st:=rfl
def Rk(a b:ME)(μ:Env):Bool->af->fu aj
 |true,st=>a μ st
 |false,st=>b μ st
theorem p6:Lo t a b μ st=(t μ st).nj (Rk a b μ):=eg λx _=>by cases x<;>rfl
theorem qY:Rk a b μ true st=a μ st:=rfl
theorem qZ:Rk a b μ false st=b μ st:=rfl
theorem aH:ai μ st=.ok [] st:=rfl
def Dq(x:aj):List aj->af->fu (List aj):=λxs st=>.ok (x::xs) st
def OG(ms:MA)(μ:Env):aj->af->fu (List aj):=λx st=>(ms μ st).nj (Dq x)
theorem av:aa a ms μ st=(a μ st).nj (OG ms μ):=eg λ_ _=>eg λ_ _=>rfl
theorem aF{x:aj}:OG ms μ x st=(ms μ st).nj (Dq x):=rfl
theorem aw{x:aj}{xs:List aj}:Dq x xs st=.ok (x::xs) st:=rfl
def aaa:List aj->af->fu aj:=λxs st=>if xs.length<=sizeLine then .ok (.tup xs) st else .bad
theorem gu:gp ms μ st=(ms μ st).nj aaa:=eg λ_ _=>rfl
theorem iX{xs:List aj}:aaa xs st=if xs.length<=sizeLine then .ok (.tup xs) st else .bad:=rfl
def aab:List aj->af->fu aj:=λxs st=>if xs.length<=sizeLine then .ok (.loc st.length) (st++[.lst xs])else .bad
theorem nu:bB ms μ st=(ms μ st).nj aab:=eg λ_ _=>rfl
theorem q8{xs:List aj}:aab xs st=if xs.length<=sizeLine then .ok (.loc st.length) (st++[.lst xs])else .bad:=rfl
theorem aD{h:FN}:ao h ms μ st=(ms μ st).nj h:=eg λ_ _=>rfl
def aac:aj->af->fu aj
 |.int i,st=>.ok (.int (-i)) st
 |_,_=>.bad
theorem gE{i:Int}:aac (.int i) st=.ok (.int (-i)) st:=rfl
theorem jY:ko a μ st=(a μ st).nj aac:=eg λx _=>by cases x<;>rfl
theorem aO:az s1 s2 μ st=(s1 μ st).fv s2:=by unfold az;cases s1 μ st<;>rfl
theorem cK:fE μ st=.nx μ st:=rfl
def OH(μ:Env):aj->af->fI:=λ_ st=>.nx μ st
theorem ft:e_ a μ st=(a μ st).ud μ (OH μ):=g6 λ_ _=>rfl
theorem gH:OH μ v st=.nx μ st:=rfl
def aad:aj->af->fI:=λv st=>.rt v st
theorem bb:bZ a μ st=(a μ st).ud μ aad:=g6 λ_ _=>rfl
theorem bS:aad v st=.rt v st:=rfl
def kIf(s1 s2:MB)(μ:Env):Bool->af->fI
 |true,st=>s1 μ st
 |false,st=>s2 μ st
theorem b_:sv t s1 s2 μ st=(t μ st).ud μ (kIf s1 s2 μ):=g6 λx _=>by cases x<;>rfl
theorem jC:kIf s1 s2 μ true st=s1 μ st:=rfl
theorem ej:kIf s1 s2 μ false st=s2 μ st:=rfl
def aae(i:Nat)(μ:Env):aj->af->fI:=λv st=>.nx (μ.set i (some v)) st
theorem bh:aK i a μ st=(a μ st).ud μ (aae i μ):=g6 λ_ _=>rfl
theorem bV:aae i μ v st=.nx (μ.set i (some v)) st:=rfl
def abP(x:Str)(μ:Env):List aj->af->fI:=λvs st=>if vs.length<=sizeLine then .er x μ st else .bad
def kFor(as:AS)(s1:MB)(μ:Env):Itm->af->fI:=λp st=>forL p.2 as s1 p.1 μ st
theorem gv{it:MI}{as:AS}:ic it as s1 μ st=(it μ st).ud μ (kFor as s1 μ):=g6 λ_ _=>rfl
theorem iY{as:AS}{q:af->Prop}:kFor as s1 μ (us,q) st=forL q as s1 us μ st:=rfl
def Rm:List aj->af->fu aj:=λys st=>.ok (.loc st.length) (st++[.lst ys])
theorem ie{ys:List aj}:Rm ys st=.ok (.loc st.length) (st++[.lst ys]):=rfl
def Js(k:Nat)(bM:List Nat)(as:AS)(t:MT)(a:ME)(μ:Env):Itm->af->fu aj:=λp st=>if p.1.length<=sizeLine then(dS p.2 as t a p.1 (iV k bM μ) st []).nj Rm else .bad
theorem dN{k:Nat}{it:MI}{as:AS}:cH k bM it as t a μ st=(it μ st).nj (Js k bM as t a μ):=eg λp st1=>by
 unfold Js;split
 .exact eg λ_ _=>rfl
 .rfl
theorem fB{k:Nat}{as:AS}{q:af->Prop}:Js k bM as t a μ (us,q) st=if us.length<=sizeLine then(dS q as t a us (iV k bM μ) st []).nj Rm else .bad:=rfl
theorem bH{np n:Nat}(h:us.length=np):iH np n s1 us st=(s1 (us.map some++List.replicate (n-np) none) st).fin:=by unfold iH;rw[Vv h];cases s1 (us.map some++List.replicate (n-np) none) st<;>rfl
theorem aJ{x:Option aj}{μ:Env}:jA (i+1) (x::μ) st=jA i μ st:=rfl
theorem aP{μ:Env}:bc (some (.int j)::μ) st=.ok (.int j) st:=rfl
theorem d9{μ:Env}{j:List aj}:bc (some (.tup j)::μ) st=.ok (.tup j) st:=rfl
theorem aY{μ:Env}{j:Nat}:bc (some (.loc j)::μ) st=.ok (.loc j) st:=rfl
theorem Jt{μ:Env}:bc (some .dj::μ) st=.ok .dj st:=rfl
def BI(v:aj)(st:af):fu Itm:=match wd st v with
 |some p=>.ok p st
 |none=>.bad
theorem eI:f9 a μ st=(a μ st).nj BI:=by unfold f9;rw[mj];rfl
theorem pA:BI (.tup us) st=.ok (us,λ_=>True) st:=rfl
theorem dG{n:Nat}(h:aq st n=some us):BI (.loc n) st=.ok (us,λaI=>aq aI n=some us) st:=by simp only[BI,wd,h];rfl
def Nd(vs:List aj)(aI:af):fu Itm:=match vs with
 |[.int j]=>if -(2 ^ 62)<=j/\j<2 ^ 62 then .ok (cO 0 j.toNat,λ_=>True) aI else .bad
 |_=>.bad
def Ju(vs:List aj)(aI:af):fu Itm:=match vs with
 |[.int i,.int j]=>if -(2 ^ 62)<=i/\i<2 ^ 62/\-(2 ^ 62)<=j/\j<2 ^ 62 then .ok (cO i (j-i).toNat,λ_=>True) aI else .bad
 |_=>.bad
theorem kz:f_ ms μ st=(ms μ st).nj Nd:=by unfold f_;rw[mj];rfl
theorem Al:kx ms μ st=(ms μ st).nj Ju:=by unfold kx;rw[mj];rfl
theorem vk(h1:-(2 ^ 62)<=j)(h2:j<2 ^ 62):Nd [.int j] st=.ok (cO 0 j.toNat,λ_=>True) st:=by unfold Nd;dsimp only;rw[Vv ⟨h1,h2⟩]
theorem Am{i:Int}(h1:-(2 ^ 62)<=i)(h2:i<2 ^ 62)(h3:-(2 ^ 62)<=j)(h4:j<2 ^ 62):Ju [.int i,.int j] st=.ok (cO i (j-i).toNat,λ_=>True) st:=by unfold Ju;dsimp only;rw[Vv ⟨h1,h2,h3,h4⟩]
def Nf(b1 b2:Bool)(vs:List aj)(aI:af):fu Itm:=match vs with
 |[u,w]=>match jV aI u,jV aI w with
  |some (c1,us,g1),some (c2,ws,g2)=>if c1=b1/\c2=b2 then .ok (ou us ws,λcJ=>g1 cJ/\g2 cJ) aI else .bad
  |_,_=>.bad
 |_=>.bad
theorem Dr:we b1 b2 ms μ st=(ms μ st).nj (Nf b1 b2):=by unfold we;rw[mj];rfl
theorem Ng:Nf false false [.tup us,.tup ws] st=.ok (ou us ws,λ_=>True/\True) st:=rfl
theorem Nh{n:Nat}(h1:aq st n=some us):De [.loc n] st=.ok (.tup us) st:=by unfold De;dsimp only;rw[h1]
theorem jD{i:Int}:dA (.int i) (.int j) st=.ok (.int (i+j)) st:=rfl
theorem g9{i:Int}:jr (.int i) (.int j) st=.ok (.int (i-j)) st:=rfl
theorem Ds{i:Int}(h:MulOk i j):b9 (.int i) (.int j) st=.ok (.int (i*j)) st:=by unfold b9;dsimp only;rw[Vv h]
theorem Dt{i:Int}(h:Sz i/\Sz j):b9 (.int i) (.int j) st=.ok (.int (i*j)) st:=Ds (.inl h)
theorem kC{i:Int}(h1:-(2 ^ 64)<i)(h2:i<2 ^ 64):b9 (.int i) (.int j) st=.ok (.int (i*j)) st:=Ds (.inr (.inl ⟨h1,h2⟩))
theorem mul_r{i:Int}(h1:-(2 ^ 64)<j)(h2:j<2 ^ 64):b9 (.int i) (.int j) st=.ok (.int (i*j)) st:=Ds (.inr (.inr ⟨h1,h2⟩))
theorem div_ii{i:Int}(h:Dz j):qT (.int i) (.int j) st=.ok (.int (i.fdiv j)) st:=Vv h
theorem gb{i:Int}(h:¬ j=0):gq (.int i) (.int j) st=.ok (.int (i.fmod j)) st:=VG h
theorem An{i:Int}(h:HY i j):MG (.int i) (.int j) st=.ok (.int (i ^ j.toNat)) st:=Vv h
theorem kD{i:Int}:ltV (.int i) (.int j) st=.ok (.bl (decide (i<j))) st:=rfl
theorem gX{i:Int}:v! (.int i) (.int j) st=.ok (.bl (decide (j<i))) st:=rfl
theorem ju{i:Int}:sA (.int i) (.int j) st=.ok (.bl (i==j)) st:=rfl
theorem wq{i:Int}:vh (.int i) (.int j) st=.ok (.bl (!(i==j))) st:=rfl
theorem a!{i:Int}{v:aj}(h:L2.oy us i=some v):bJ (.tup us) (.int i) st=.ok v st:=by unfold bJ;dsimp only;rw[h]
theorem dB{n:Nat}{i:Int}{v:aj}(h1:aq st n=some us)(h:L2.oy us i=some v):bJ (.loc n) (.int i) st=.ok v st:=by unfold bJ;dsimp only;rw[h1];dsimp only;rw[h]
theorem a_{n:Nat}(h1:aq st n=some us):bD [.loc n] st=.ok (.int us.length) st:=by unfold bD;dsimp only;rw[h1]
theorem BJ{i:Int}:BC [.int i] st=.ok (.int (if i<0 then -i else i)) st:=rfl
end
open PyProof.Rows hiding St kindOf
section
variable{μ:Env}{st:af}{a b c o:ME}{f:F2}{g:FM}{w:aj}{i n:Nat}
def Rn(x:aj)(l:Option Int):Option Int->af->fu aj:=λh st=>ET l h x st
def Ro(hi:MO)(μ:Env)(x:aj):Option Int->af->fu aj:=λl st=>(hi μ st).nj (Rn x l)
def kSl(lo hi:MO)(μ:Env):aj->af->fu aj:=λx st=>(lo μ st).nj (Ro hi μ x)
theorem wt{lo hi:MO}:x! a lo hi μ st=(a μ st).nj (kSl lo hi μ):=eg λx st1=>eg λl cJ=>eg λh oz=>rfl
theorem Du{lo hi:MO}:kSl lo hi μ v st=(lo μ st).nj (Ro hi μ v):=rfl
theorem wu{hi:MO}{l:Option Int}:Ro hi μ v l st=(hi μ st).nj (Rn v l):=rfl
theorem wx{l h:Option Int}:Rn v l h st=ET l h v st:=rfl
theorem jZ:iy μ st=.ok none st:=rfl
def kO:aj->af->fu (Option Int)
 |.int i,st=>.ok (some i) st
 |_,_=>.bad
theorem j0:iz a μ st=(a μ st).nj kO:=eg λx _=>by cases x<;>rfl
theorem Dw:kO (.int j) st=.ok (some j) st:=rfl
theorem wy{l h:Option Int}(e:aq st n=some us):ET l h (.loc n) st=.ok (.loc st.length) (st++[.lst (uK us l h)]):=by simp only[ET,e]
def Rp(g:FM)(x:aj):List aj->af->fu aj:=λxs st=>g x xs st
def Ni(g:FM)(ms:MA)(μ:Env):aj->af->fu aj:=λx st=>if t? st x=true then(ms μ st).nj (Rp g x)else .bad
theorem k_:iW g o ms μ st=(o μ st).nj (Ni g ms μ):=eg λx st1=>by
 unfold Ni;split
 .exact eg λ_ _=>rfl
 .rfl
theorem mI(h:st[n]?=some (.lst us)):Ni g ms μ (.loc n) st=(ms μ st).nj (Rp g (.loc n)):=by unfold Ni;rw[Vv (by unfold t?;dsimp only;rw[h])]
theorem p7{xs:List aj}:Rp g v xs st=g v xs st:=rfl
def Rt(g:FM):aj->af->fu aj:=λx st=>if t? st x=true then g x [] st else .bad
theorem Ru:Ji g o μ st=(o μ st).nj (Rt g):=eg λ_ _=>rfl
theorem aaf(h:st[n]?=some (.lst us)):Rt g (.loc n) st=g (.loc n) [] st:=by unfold Rt;rw[Vv (by unfold t?;dsimp only;rw[h])]
theorem gM(h:st[n]?=some (.lst us))(hl:us.length<sizeLine):dC (.loc n) [v] st=.ok .dj (st.set n (.lst (us++[v]))):=by simp only[dC,h];rw[Vv hl]
theorem Rv(h:st[n]?=some (.lst (us++[v]))):Dm (.loc n) [] st=.ok v (st.set n (.lst us)):=by
 simp only[Dm,h];have e:(us++[v])[(us++[v]).length-1]?=some v:=by rw[Vj,VO,Nat.add_sub_cancel,V2 (Vt _),W3];rfl
 rw[e,List.dropLast_concat]
def Rw(μ:Env)(x y:aj):aj->af->fI:=λz st=>OB μ (sL y z x st)
def Rx(b:ME)(μ:Env)(x:aj):aj->af->fI:=λy st=>(b μ st).ud μ (Rw μ x y)
def kSI(a b:ME)(μ:Env):aj->af->fI:=λx st=>(a μ st).ud μ (Rx b μ x)
theorem Ao:p5 a b c μ st=(c μ st).ud μ (kSI a b μ):=g6 λ_ _=>g6 λ_ _=>g6 λ_ _=>rfl
theorem Ry:kSI a b μ v st=(a μ st).ud μ (Rx b μ v):=rfl
theorem Jv:Rx b μ v w st=(b μ st).ud μ (Rw μ v w):=rfl
theorem Jw{x:aj}:Rw μ v w x st=OB μ (sL w x v st):=rfl
theorem q9{k:Int}{j:Nat}(h:st[n]?=some (.lst us))(hj:L2.Bo us.length k=some j):sL (.loc n) (.int k) v st=some (st.set n (.lst (us.set j v))):=by simp only[sL,h,hj];rfl
theorem oF:OB μ (some st)=.nx μ st:=rfl
def Rz(μ:Env)(y z:aj):aj->af->fI:=λr st=>OB μ (sL y z r st)
def RA(f:F2)(μ:Env)(y z x:aj):aj->af->fI:=λw st=>(f x w st).ud μ (Rz μ y z)
def RC(f:F2)(c:ME)(μ:Env)(y z:aj):aj->af->fI:=λx st=>(c μ st).ud μ (RA f μ y z x)
def RD(f:F2)(c:ME)(μ:Env)(y:aj):aj->af->fI:=λz st=>(OC y z st).ud μ (RC f c μ y z)
def kAI(f:F2)(b c:ME)(μ:Env):aj->af->fI:=λy st=>(b μ st).ud μ (RD f c μ y)
theorem EY:yW f a b c μ st=(a μ st).ud μ (kAI f b c μ):=g6 λ_ _=>g6 λ_ _=>g6 λ_ _=>g6 λ_ _=>g6 λ_ _=>rfl
theorem aag:kAI f b c μ v st=(b μ st).ud μ (RD f c μ v):=rfl
theorem OI:RD f c μ v w st=(OC v w st).ud μ (RC f c μ v w):=rfl
theorem OJ{x:aj}:RC f c μ v w x st=(c μ st).ud μ (RA f μ v w x):=rfl
theorem OK{x:aj}:RA f μ v w x y st=(f x y st).ud μ (Rz μ v w):=rfl
theorem OL{x:aj}:Rz μ v w x st=OB μ (sL v w x st):=rfl
theorem Jx{k:Int}(e:aq st n=some us)(h:L2.oy us k=some v):OC (.loc n) (.int k) st=.ok v st:=by simp only[OC,e,h]
theorem Jy{k:Int}:GS (.int j) (.int k) st=.ok (.int (j+k)) st:=rfl
theorem RE{k:Int}:M6 (.int j) (.int k) st=.ok (.int (j-k)) st:=rfl
def RF(k:Nat)(μ:Env):aj->af->fI:=λr st=>.nx (μ.set k (some r)) st
def RG(k:Nat)(f:F2)(μ:Env)(x:aj):aj->af->fI:=λw st=>(f x w st).ud μ (RF k μ)
def kAu(k:Nat)(f:F2)(a:ME)(μ:Env):aj->af->fI:=λx st=>(a μ st).ud μ (RG k f μ x)
theorem RH{k:Nat}:Jj k f a μ st=(jA k μ st).ud μ (kAu k f a μ):=g6 λ_ _=>g6 λ_ _=>g6 λ_ _=>rfl
theorem abQ{k:Nat}:kAu k f a μ v st=(a μ st).ud μ (RG k f μ v):=rfl
theorem aah{k:Nat}:RG k f μ v w st=(f v w st).ud μ (RF k μ):=rfl
theorem aai{k:Nat}:RF k μ v st=.nx (μ.set k (some v)) st:=rfl
theorem Nj:Aj ms μ st=(ms μ st).nj Jl:=by unfold Aj;rw[mj]
theorem q_:kY ms μ st=(ms μ st).nj Jm:=by unfold kY;rw[mj]
theorem RI{k:Int}(h1:-(2 ^ 62)<=j)(h2:j<2 ^ 62)(h3:-(2 ^ 62)<=k)(h4:k<2 ^ 62):Jl [.int j,.int k,.int (-1)] st=.ok (n_ j (j-k).toNat,λ_=>True) st:=by unfold Jl;dsimp only;rw[Vv ⟨rfl,h1,h2,h3,h4⟩]
theorem wz(e:aq st n=some us):Jm [.loc n] st=.ok (ky 0 us,λcJ=>aq cJ n=some us) st:=by simp only[Jm,e]
theorem Jz(e1:aq st n=some us)(e2:aq st m=some ws):Nf true true [.loc n,.loc m] st=.ok (ou us ws,λcJ=>aq cJ n=some us/\aq cJ m=some ws) st:=by unfold Nf;dsimp only;unfold jV;dsimp only;rw[e1,e2];rfl
theorem JA{k:Int}:GU [.int j,.int k] st=.ok (.int (if k>j then k else j)) st:=rfl
theorem pB(e:aq st n=some us):qd [.loc n] st=.ok (.loc st.length) (st++[.lst us]):=by simp only[qd,e]
theorem j4(h1:st[n]?=some (.lst us))(h2:st[m]?=some (.lst ws))(hl:us.length+ws.length<=sizeLine):dA (.loc n) (.loc m) st=.ok (.loc st.length) (st++[.lst (us++ws)]):=by simp only[dA,h1,h2];rw[Vv hl]
theorem qe{k:Int}(h1:st[n]?=some (.lst us))(h2:-(2 ^ 63)<=k)(h3:k<2 ^ 63)(h4:us.length*k.toNat<=sizeLine):b9 (.loc n) (.int k) st=.ok (.loc st.length) (st++[.lst (yO k.toNat us)]):=by simp only[b9,h1];rw[Vv ⟨h2,h3,h4⟩]
theorem ax(h:st[n]?=some (.lst us)):aq st n=some us:=by unfold aq;rw[h]
theorem bu(st:af)(us:List aj):(st++[aZ.lst us])[st.length]?=some (.lst us):=by grind
theorem c!{k:aZ}(h:st[n]?=some k)(g:af):(st++g)[n]?=some k:=by grind
theorem gz{k k':aZ}(h:st[n]?=some k):(st.set n k')[n]?=some k':=WV (aU h)
theorem e?{k k':aZ}(h:st[n]?=some k)(hn:m≠n):(st.set m k')[n]?=some k:=by rw[Xe hn];exact h
theorem OM(h:aq st n=some us):n<st.length:=by
 rcases Wx n st.length with q|q
 .exact q
 .unfold aq at h;rw[Wa q]at h;cases h
theorem q!(st:af)(k k':aZ):(st++[k]).set st.length k'=st++[k']:=by grind
end
mutual
def EZ:Nat->aj->Bool
 |_,.dj=>true
 |_,.bl _=>true
 |_,.int _=>true
 |_,.str _=>true
 |0,.tup _=>false
 |n+1,.tup us=>k! n us
 |_,_=>false
def k!:Nat->List aj->Bool
 |_,[]=>true
 |n,u::us=>EZ n u&&k! n us
end
mutual
theorem BK(st:af):∀(n:Nat)(v:aj),EZ n v=true->lO (n+1) st v v=some true
 |_,.dj,_=>rfl
 |_,.bl b,_=>by show some (b==b)=_;rw[XH]
 |_,.int i,_=>by show some (i==i)=_;rw[XH]
 |_,.str x,_=>by show some (x==x)=_;rw[XH]
 |0,.tup _,h=>by cases h
 |n+1,.tup us,h=>by show iI (lO (n+1) st) us us=some true;exact mJ st n us h
 |n,.loc _,h=>by cases n<;>cases h
 |n,.exc _,h=>by cases n<;>cases h
 |n,.fn _ _,h=>by cases n<;>cases h
 |n,.mt _,h=>by cases n<;>cases h
theorem mJ(st:af):∀(n:Nat)(us:List aj),k! n us=true->iI (lO (n+1) st) us us=some true
 |_,[],_=>rfl
 |n,u::us,h=>by
  have h':EZ n u=true/\k! n us=true:=by simpa[k!]using h
  show(match lO (n+1) st u u,iI (lO (n+1) st) us us with|some a,some b=>some (a&&b)|_,_=>none)=_;rw[BK st n u h'.1,mJ st n us h'.2];rfl
end
theorem yY{n:Nat}:∀{us:List aj},(∀u∈us,EZ n u=true)->k! n us=true
 |[],_=>rfl
 |u::us,h=>by unfold k!;rw[h u Vu,yY λw hw=>h w (Vx u hw)];rfl
theorem iA(n:Nat)(ns:_h):k! n (ns.map aj.int)=true:=yY λu hu=>by obtain⟨i,_,rfl⟩:=VN.mp hu;cases n<;>rfl
section
variable{st:af}{n:Nat}
theorem G0(h1:aq st n=some us)(h2:aq st m=some us)(hp:k! 14 us=true):lO 16 st (.loc n) (.loc m)=some true:=by unfold lO;simp only[vw,h1,h2];exact mJ st 14 us hp
theorem q?(h1:aq st n=some us)(h2:aq st m=some us)(hp:k! 14 us=true):vh (.loc n) (.loc m) st=.ok (.bl false) st:=by unfold vh;rw[G0 h1 h2 hp];rfl
end
end MN
namespace PG
open PySem.Spec L2 MN
open PyProof.Rows hiding St kindOf
theorem rh(i:Int)(st:af):PM.qX [.int i] st=.ok (.bl true) st:=rfl
def FP:_h:=[2,3,5,7,11,13,17,19,23,29,31]
def dD(n:Int):Bool:=FP.contains n || (decide (2<=n)&&decide (n<=997)&&FP.all λp => !(n.fmod p==0))
theorem any_ints(n:Int)(ns:_h):(ns.map aj.int).any (λy=>QU y (.int n))=ns.contains n:=by
 induction ns with
 |nil=>rfl
 |cons m ns ih=>
  simp only[Vm,XS,List.contains_cons];rw[ih];congr 1;show(m==n)=(n==m);rw[Bool.eq_iff_iff,Yb,Yb];exact⟨Eq.symm,Eq.symm⟩
theorem Nk(n:Int)(ns:_h)(st:af):QW false (.int n) (.mt (ns.map aj.int)) st=.ok (.bl (ns.contains n)) st:=by
 have h1:(ns.map aj.int).all flat=true:=by rw[List.all_map];exact WB.mpr λ_ _=>rfl
 unfold QW OA;dsimp only;rw[Vv ⟨rfl,h1⟩,any_ints];rfl
theorem Nl(ns:_h)(f:Int->Bool):p4 ((ns.map aj.int).map λv=>match v with|.int i=>.bl (f i)|_=>.dj)=some (ns.map f):=by
 induction ns with
 |nil=>rfl
 |cons m ns ih=>
  simp only[Vm,p4]at ih⊢;rw[ih];rfl
theorem pR(n:Int)(st:af):∃g,PM.dq [.int n] st=.ok (.bl (dD n)) (st++g):=by
 have HG:QW false (.int n) PM.iJ st=.ok (.bl (FP.contains n)) st:=Nk n FP st;cases h1:FP.contains n with
 |true=>
  refine⟨[],?_⟩;rw[h1]at HG;simp![PM.dq,HG,Wc,dD,h1,ZE]
 |false=>
  rw[h1]at HG;by_cases h2:n<2
  .refine⟨[],?_⟩;have e2:decide (n<2)=true:=V8 h2;have e3:decide (2<=n)=false:=V5 ⋯;simp![PM.dq,Nc,HG,e2,Wc,dD,h1,e3,X9,Y?]
  .have e2:decide (n<2)=false:=V5 h2;have e3:decide (2<=n)=true:=V8 ⋯;by_cases h3:997<n
   .refine⟨[],?_⟩;have e4:decide (997<n)=true:=V8 h3;have e5:decide (n<=997)=false:=V5 ⋯;simp![PM.dq,HG,e2,e4,Wc,dD,h1,e3,e5,X9,Y?,Bool.true_and]
   .have e4:decide (997<n)=false:=V5 h3;have e5:decide (n<=997)=true:=V8 ⋯
    let f:aj->aj:=λv=>match v with|.int i=>.bl (!(n.fmod i==0))|_=>.dj
    have hc:dS (λ_=>True) (aA 0) bj (ag vh (ag gq bT bc) (mC (aj.int 0))) (FP.map aj.int) (iV 1 [0] [some (aj.int n)]) st []=.ok ([]++((FP.map aj.int).filter λ_=>true).map f) st:=by
     refine jX trivial (λτ=>∃x,τ=[x,some (.int n)]) (λ_=>true) f (FP.map aj.int) _ [] ⟨none,rfl⟩ ?_;rintro u hu τ ⟨x,rfl⟩;obtain⟨i,hi,rfl⟩:=VN.mp hu;have hi0:¬ i=0:=by intro z;subst z;revert hi;decide
     refine⟨_,rfl,⟨_,rfl⟩,rfl,λ_=>?_⟩;simp![gb hi0,f]
    have hb:p4 (((FP.map aj.int).filter λ_=>true).map f)=some (FP.map λi => !(n.fmod i==0)):=by rw[List.filter_eq_self.mpr (λ_ _=>rfl)];exact Nl FP λi => !(n.fmod i==0)
    refine⟨[.lst (((FP.map aj.int).filter λ_=>true).map f)],?_⟩;have ha:Df [.loc st.length] (st++[.lst (((FP.map aj.int).filter λ_=>true).map f)])=.ok (.bl (dD n)) (st++[.lst (((FP.map aj.int).filter λ_=>true).map f)]):=by unfold Df;dsimp only;rw[du];dsimp only;rw[hb];simp only[dD,h1,e3,e5,X9,Bool.true_and,List.all_map];rfl
    have hw:BI PM.iJ st=.ok (FP.map aj.int,λ_=>True) st:=rfl;have hz:(FP.map aj.int).length=11:=rfl;rw[Vq]at hc;simp![PM.dq,fB,dN,Vp,HG,e2,e4,hw,hc,ha,hz]
end PG
namespace G1
def Nm(u0 u1 g0 g1 M:Int):Prop:=∃e x0 x1:Int,(e=1\/e = -1)/\0<=x0/\0<=x1/\u0=e*x0/\u1 = -(e*x1)/\x1*g0+x0*g1=M/\x0<=M+1/\x1<=M+1
theorem wA{x g:Int}(hx:0<=x)(hg:1<=g):x<=x*g:=by have:=WA hg hx;simpa using this
theorem Nm.step{u0 u1 M q:Int}(h:Nm u0 u1 g0 g1 M)(hq:0<=q)(h1:1<=g1)(h2:0<=g0-q*g1):Nm u1 (u0-q*u1) g1 (g0-q*g1) M:=by
 obtain⟨e,x0,x1,he,p0,p1,r0,r1,hM,b0,b1⟩:=h;have p2:0<=x0+q*x1:=by have:=Y9 hq p1;lia
 have eq:(x0+q*x1)*g1+x1*(g0-q*g1)=M:=by rw[<-hM];grind
 refine⟨-e,x1,x0+q*x1,?_,p1,p2,?_,?_,eq,b1,?_⟩
 .rcases he with rfl|rfl<;>simp
 .rw[r1];grind
 .rw[r0,r1];grind
 .have k1:=wA p2 h1;have k2:=Y9 p1 h2;lia
theorem Nm.bound{u0 u1 M:Int}(h:Nm u0 u1 g0 g1 M):u0.natAbs<=(M+1).natAbs/\u1.natAbs<=(M+1).natAbs:=by obtain⟨e,x0,x1,he,p0,p1,r0,r1,hM,b0,b1⟩:=h;rcases he with rfl|rfl<;>(subst r0 r1;constructor<;>lia)
theorem Nm.aaj{u0 u1 M q:Int}(h:Nm u0 u1 g0 g1 M)(hq:0<=q)(h1:1<=g1)(h2:0<=g0-q*g1):q<=g0:=by have:=wA hq h1;lia
structure a9(a b:Int)(g0 u0 v0 g1 u1 v1:Int):Prop where
 n0:0<=g0
 n1:0<=g1
 c0:u0*a+v0*b=g0
 c1:u1*a+v1*b=g1
 cu:Nm u0 u1 g0 g1 (b.natAbs:Int)
 cv:Nm v0 v1 g0 g1 (a.natAbs:Int)
 m0:g0<=(a.natAbs:Int)+(b.natAbs:Int)
 m1:g1<=(a.natAbs:Int)+(b.natAbs:Int)
 da:∃p q:Int,a=p*g0+q*g1
 db:∃p q:Int,b=p*g0+q*g1
def sgn(n:Int):Int:=if n<0 then -1 else 1
def wB(n:Int):Int:=if n<0 then -n else n
theorem pC(n:Int):wB n=(n.natAbs:Int):=by unfold wB;split<;>lia
theorem sgn_mul(n:Int):sgn n*n=wB n:=by unfold sgn wB;split<;>lia
theorem E4(n:Int):n=sgn n*wB n:=by unfold sgn wB;split<;>lia
theorem JB(n:Int):sgn n=1\/sgn n = -1:=by unfold sgn;split<;>simp
theorem a9.start(a b:Int):a9 a b (wB a) (sgn a) 0 (wB b) 0 (sgn b):=by
 refine⟨by rw[pC];lia,by rw[pC];lia,by rw[sgn_mul];lia,by rw[sgn_mul];lia,?_,?_,by rw[pC];lia,by rw[pC];lia,⟨sgn a,0,?_⟩,⟨0,sgn b,?_⟩⟩
 .refine⟨sgn a,1,0,JB a,by decide,by decide,by simp,by simp,by rw[pC b];lia,⋯,⋯⟩
 .refine⟨-(sgn b),0,1,?_,by decide,by decide,by simp,by simp,by rw[pC a];lia,⋯,⋯⟩;rcases JB b with h|h<;>simp[h]
 .have:=E4 a;lia
 .have:=E4 b;lia
theorem a9.turn{a b u0 v0 u1 v1:Int}(h:a9 a b g0 u0 v0 g1 u1 v1)(h1:g1≠0):a9 a b g1 u1 v1 (g0-g0.fdiv g1*g1) (u0-g0.fdiv g1*u1) (v0-g0.fdiv g1*v1)/\(g0-g0.fdiv g1*g1).toNat<g1.toNat/\0<=g0.fdiv g1/\g0.fdiv g1<=g0:=by
 have p1:1<=g1:=by have:=h.n1;lia
 have ef:g0.fdiv g1=g0 / g1:=Int.fdiv_eq_ediv_of_nonneg g0 ⋯;have em:g0-g0.fdiv g1*g1=g0 % g1:=by have:=Wb g0 g1;rw[ef,WY];lia
 have q0:0<=g0.fdiv g1:=by rw[ef];exact Y3 h.n0 ⋯
 have r0:0<=g0-g0.fdiv g1*g1:=by rw[em];exact W? _ h1
 have r1:g0-g0.fdiv g1*g1<g1:=by rw[em];exact WW _ ⋯
 generalize hq:g0.fdiv g1=q at *;have m1:=h.m1;obtain⟨p,r,ea⟩:=h.da;obtain⟨p',r',eb⟩:=h.db;refine⟨⟨h.n1,r0,h.c1,?_,h.cu.step q0 p1 r0,h.cv.step q0 p1 r0,h.m1,⋯,⟨p*q+r,p,?_⟩,⟨p'*q+r',p',?_⟩⟩,⋯,q0,h.cu.aaj q0 p1 r0⟩
 .have e0:=h.c0;have e1:=h.c1
  grind
 .grind
 .grind
end G1
namespace PG
open PySem.Spec L2 MN
open PyProof.Rows hiding St kindOf
def ue(n:Int):Bool:=n==0 || dD n
theorem uf(n:Int)(st:af):∃g,PM.nh [.int n] st=.ok (.bl (ue n)) (st++g):=by
 cases h:n==0 with
 |true=>exact⟨[],by simp![PM.nh,Rh,rh,h,ue,ZE,Wc]⟩
 |false=>
  obtain⟨g,e⟩:=pR n st;exact⟨g,by simp![PM.nh,Ri,rh,h,ue,X9,e]⟩
theorem x?{n:Int}(h:ue n=true)(st:af):∃g,PM.jW [.int n] st=.ok .dj (st++g):=by obtain⟨g,e⟩:=uf n st;rw[h]at e;exact⟨g,by simp![PM.jW,XW,e]⟩
theorem ya(n:Int)(st:af):PM.gB [.int n] st=.ok (.int (G1.sgn n)) st:=by
 unfold G1.sgn;by_cases h:n<0
 .have e:decide (n<0)=true:=V8 h;simp![PM.gB,e,Vv h]
 .have e:decide (n<0)=false:=V5 h;simp![PM.gB,e,VG h]
def CG(g u v:Int):aj:=.tup [.int g,.int u,.int v]
theorem bounds{a b u0 v0 u1 v1:Int}(h:G1.a9 a b g0 u0 v0 g1 u1 v1)(ha:uF 400 a)(hb:uF 400 b):uF 402 g0/\uF 402 u0/\uF 402 v0/\uF 402 g1/\uF 402 u1/\uF 402 v1:=by
 have e:(2:Nat) ^ 402=4*2 ^ 400:=by decide +kernel
 have pos:0<(2:Nat) ^ 400:=by decide +kernel
 have a':a.natAbs<2 ^ 400:=ha;have b':b.natAbs<2 ^ 400:=hb;obtain⟨k1,k2⟩:=h.cu.bound;obtain⟨k3,k4⟩:=h.cv.bound;have m0:=h.m0;have m1:=h.m1;have n0:=h.n0;have n1:=h.n1;refine⟨?_,?_,?_,?_,?_,?_⟩<;>(show _<2 ^ 402;rw[e];lia)
def msr(μ:MN.Env):Nat:=match(μ[3]?:Option (Option aj)) with
 |some (some (aj.tup (aj.int g::_)))=>g.toNat
 |_=>0
def ON(q:Int)(v:aj):aj:=match v with
 |.tup [.int x,.int y]=>.int (x-q*y)
 |_=>.dj
theorem Ap{q x y:Int}:ON q (.tup [.int x,.int y])=.int (x-q*y):=rfl
theorem aak{q u0 v0 u1 v1:Int}(hq:Sz q)(h1:Sz g1)(h2:Sz u1)(h3:Sz v1)(st:af)(g:af->Prop)(hg:g st)(x:Option aj)(y:Option aj):
  dS g (js [aA 0,aA 1]) bj (ag jr bc (ag b9 d6 bT)) (ou [.int g0,.int u0,.int v0] [.int g1,.int u1,.int v1]) [x, y, qI q] st []=.ok [.int (g0-q*g1),.int (u0-q*u1),.int (v0-q*v1)] st:=by
 have:=jX (a:=js [aA 0,aA 1]) (c:=bj) (e:=ag jr bc (ag b9 d6 bT)) hg (λτ=>∃x y,τ=[x, y, qI q]) (λ_=>true) (ON q) (ou [.int g0,.int u0,.int v0] [.int g1,.int u1,.int v1]) [x, y, qI q] [] ⟨x,y,rfl⟩ ?_
 .exact this
 .rintro u hu τ ⟨x,y,rfl⟩;simp only[ou,VX,Yv,YI]at hu;rcases hu with rfl|rfl|rfl
  .exact⟨_,rfl,⟨_,_,rfl⟩,rfl,λ_=>by simp![Dt ⟨hq,h1⟩,Ap]⟩
  .exact⟨_,rfl,⟨_,_,rfl⟩,rfl,λ_=>by simp![Dt ⟨hq,h2⟩,Ap]⟩
  .exact⟨_,rfl,⟨_,_,rfl⟩,rfl,λ_=>by simp![Dt ⟨hq,h3⟩,Ap]⟩
theorem qf{x:aj}{r:List aj}:L2.oy (x::r) 0=some x:=by unfold L2.oy Bo;simp
theorem G4{a b:Int}(ha:uF 400 a)(hb:uF 400 b)(st:af):∃gs g u v u1 v1,PM.shared [.int a,.int b] st=.ok (CG g u v) (st++gs)/\G1.a9 a b g u v 0 u1 v1:=by
 obtain⟨μ',aI,e,gs,rfl,g0,u0,v0,g1,u1,v1,o,f,rfl,J,z⟩:=il (t:=gA (ag vh (ag bJ d! cW) cW))
  (body:=az (aK 4 (ag qT (ag bJ d6 cW) (ag bJ d! cW))) (az (aK 5 (ao De (aa (cH 2 [4] (we false false (aa d6 (aa d! ai))) (js [(aA 0),(aA 1)]) bj (ag jr bc (ag b9 d6 bT))) ai))) (az (aK 2 d!) (aK 3 iU))))
  (λμ s=>∃gs,s=st++gs/\∃g0 u0 v0 g1 u1 v1 o f,μ=[qI a, qI b, some (CG g0 u0 v0), some (CG g1 u1 v1), o, f]/\G1.a9 a b g0 u0 v0 g1 u1 v1)
  (λμ _=>msr μ)
  (λμ s=>∃gs,s=st++gs/\∃g0 u0 v0 g1 u1 v1 o f,μ=[qI a, qI b, some (CG g0 u0 v0), some (CG g1 u1 v1), o, f]/\G1.a9 a b g0 u0 v0 g1 u1 v1/\g1=0)
  (by
   rintro μ s ⟨gs,rfl,g0,u0,v0,g1,u1,v1,o,f,rfl,J⟩;cases hz:g1==0 with
   |true=>
    have z:g1=0:=by simpa using hz
    refine .inl ⟨st++gs,?_,gs,rfl,g0,u0,v0,g1,u1,v1,o,f,rfl,J,z⟩;simp![CG,XW,a! qf,hz]
   |false=>
    have z:¬ g1=0:=by simpa using hz
    obtain⟨b1,b2,b3,b4,b5,b6⟩:=bounds J ha hb;obtain⟨J',lt,q0,q1⟩:=J.turn z;have n0:=J.n0;have hD:Dz g1:=Dz.of z b4 ⋯;have sq:Sz (g0.fdiv g1):=Sz.of (b1.le ⋯) ⋯;have s4:Sz g1:=Sz.of b4 ⋯;have s5:Sz u1:=Sz.of b5 ⋯;have s6:Sz v1:=Sz.of b6 ⋯;refine .inr ⟨st++gs,[qI a, qI b, some (CG g1 u1 v1), some (CG (g0-g0.fdiv g1*g1) (u0-g0.fdiv g1*u1) (v0-g0.fdiv g1*v1)), qI (g0.fdiv g1), some (CG (g0-g0.fdiv g1*g1) (u0-g0.fdiv g1*u1) (v0-g0.fdiv g1*v1))],st++gs++[.lst [.int (g0-g0.fdiv g1*g1),.int (u0-g0.fdiv g1*u1),.int (v0-g0.fdiv g1*v1)]],?_,.inl ?_,⟨gs++[.lst [.int (g0-g0.fdiv g1*g1),.int (u0-g0.fdiv g1*u1),.int (v0-g0.fdiv g1*v1)]],by rw[VY],g1,u1,v1,_,_,_,_,_,rfl,J'⟩,?_⟩
    .simp![CG,Bool.not_false,a! qf,hz]
    .have hzl:(ou [aj.int g0,aj.int u0,aj.int v0] [aj.int g1,aj.int u1,aj.int v1]).length=3:=rfl;have gY:iV 2 [4] [some (aj.int a), some (aj.int b), some (.tup [.int g0,.int u0,.int v0]), some (.tup [.int g1,.int u1,.int v1]), qI (g0.fdiv g1), f]=[qn, qn, qI (g0.fdiv g1)]:=rfl;simp![CG,fB,dN,Ng,Vp,a! qf,div_ii hD,gY,aak sq s4 s5 s6 _ (λ_=>True/\True) ⟨trivial,trivial⟩,hzl,Nh (du _ _)]
    .show(g0-g0.fdiv g1*g1).toNat<g1.toNat;exact lt)
  [qI a, qI b, some (CG (G1.wB a) (G1.sgn a) 0), some (CG (G1.wB b) 0 (G1.sgn b)), qn, qn] st
  ⟨[],by rw[Wc],_,_,_,_,_,_,_,_,rfl,G1.a9.start a b⟩
 subst z;refine⟨gs,g0,u0,v0,u1,v1,?_,J⟩;have abR:∀n:Int,(if n<0 then -n else n)=G1.wB n:=λn=>rfl;simp only[CG]at e;simp![PM.shared,CG,Vp,ya,abR,e]
theorem G5:∀k:Fin 998,dD (k.val:Int)=true->2<=k.val/\∀d:Fin 32,2<=d.val->d.val<k.val->k.val % d.val≠0:=by decide +kernel
theorem au(h:dD p=true):2<=p/\p<=997:=by
 unfold dD at h;rw[Y4]at h;rcases h with h|h
 .have:p∈FP:=by simpa using h
  simp only[FP,VX,Yv,YI]at this;omega
 .simp only[Xd,XM]at h;omega
theorem G6(h:dD p=true){d:Int}(h2:2<=d)(hd:d<p):¬ p % d=0:=by
 obtain⟨r1,r2⟩:=au h;have key:=(G5 ⟨p.toNat,⋯⟩ (by show dD ((p.toNat:Nat):Int)=true;rw[Wh ⋯];exact h)).2;have small:∀e:Int,2<=e->e<=31->e<p->¬ p % e=0:=by
  intro e e2 e3 e4 z;have:=key ⟨e.toNat,⋯⟩ (by show 2<=e.toNat;lia) (by show e.toNat<p.toNat;lia);apply this;show p.toNat % e.toNat=0;have:((p.toNat % e.toNat:Nat):Int)=0:=by rw[Int.natCast_emod,Wh ⋯,Wh ⋯];exact z
  lia
 intro z;by_cases hs:d<=31
 .exact small d h2 hs hd z
 .obtain⟨m,hm⟩:=XG z;have m2:2<=m:=by
   rcases X5 m 2 with q|q
   .have:d*m<=d*1:=WA ⋯ ⋯;lia
   .exact q
  have m3:m<=31:=by
   rcases X5 31 m with q|q
   .have:32*32<=d*m:=Int.mul_le_mul ⋯ ⋯ ⋯ ⋯;lia
   .exact q
  have m4:m<p:=by have:2*m<=d*m:=Xc h2 ⋯;lia
  exact small m m2 m3 m4 (by rw[hm];exact Z1 _ _)
theorem dY(hp:0<p)(i:Int):i.fmod p=i % p:=Y_ i ⋯
theorem yZ{i:Int}(h0:0<=i)(h1:i<1000):uF 400 i:=uF.small ⋯ ⋯ h1
theorem JC(h:dD p=true):ue p=true:=by unfold ue;rw[h,Bool.or_true]
theorem vm{x:aj}{r:List aj}:L2.oy (x::y::r) 1=some y:=L2.jK (xs:=x::y::r) (j:=1) rfl
theorem gf{n:Int}(h:dD p=true)(hn:¬ n % p=0)(st:af):∃g t,PM.inverse [.int p,.int n] st=.ok (.int t) (st++g)/\0<t/\t<p/\(t*n) % p=1:=by
 obtain⟨r1,r2⟩:=au h;obtain⟨g1,e⟩:=x? (JC h) st;have hp:¬ p=0:=⋯
 have e0:(p==0)=false:=by simpa using hp
 have e1:(n.fmod p==0)=false:=by rw[dY ⋯];simpa using hn
 have a0:=W? n hp;have a1:=WW n (show 0<p by lia);obtain⟨g2,g,u,v,u1,v1,es,J⟩:=G4 (a:=n % p) (b:=p) (yZ a0 ⋯) (yZ ⋯ ⋯) (st++g1);have hg:g=1:=by
  obtain⟨x,_,ex⟩:=J.da;obtain⟨y,_,ey⟩:=J.db;rw[Wi,WQ]at ex ey;have n0:=J.n0;rcases X5 g 2 with q|q
  .rcases X5 g 1 with q'|q'
   .have:g=0:=⋯
    rw[this,Wi]at ey;lia
   .lia
  .have gl:g<=n % p:=by
    have xp:1<=x:=by
     rcases X5 x 1 with z|z
     .have:x*g<=0*g:=Xc ⋯ ⋯;lia
     .exact z
    have:1*g<=x*g:=Xc xp ⋯;lia
   exact absurd (by rw[ey];exact Z1 _ _) (G6 h q ⋯)
 subst hg;have t0:=W? u hp;have t1:=WW u (show 0<p by lia);have tn:(u % p*n) % p=1:=by
  have c:=J.c0;have k1:(u*(n % p)) % p=1:=by
   have:u*(n % p)=1+p*(-v):=by rw[XZ,WY p v];lia
   rw[this,Y!];exact V9 ⋯ ⋯
  rw[X4,Yn u (ZC p)];rw[X4,Yn n (ZC p)]at k1;exact k1
 refine⟨g1++g2,u % p,?_,?_,t1,tn⟩
 .simp only[CG]at es;rw[<-dY (show 0<p by lia)]at es;simp![PM.inverse,e,e0,gb hp,e1,es,a! vm,VY];rw[dY ⋯]
 .rcases X5 0 (u % p)with q|q
  .exact q
  .have:u % p=0:=⋯
   rw[this,Wy]at tn;simp at tn
theorem Nn{k:Int}(h0:0<=k)(h1:k<(ns.length:Int)):∃c:Int,L2.oy (ns.map aj.int) k=some (.int c):=by
 have hk:k.toNat<ns.length:=⋯
 refine⟨ns[k.toNat],?_⟩;have e:=L2.jK (xs:=ns.map aj.int) (j:=k.toNat) (v:=.int ns[k.toNat]) (by rw[Vy,Vk hk];rfl);rw[show((k.toNat:Nat):Int)=k by lia]at e;exact e
theorem p8{m:Int}(hm:0<m)(i:Int):0<=i.fmod m/\i.fmod m<m:=by rw[dY hm];exact⟨W? _ ⋯,WW _ hm⟩
theorem aal(h:0<j)(h1:j<2 ^ 64):Dz j:=by refine Dz.of (k:=64) ⋯ ?_ ⋯;show j.natAbs<2 ^ 64;lia
def dvP(n:Int)(u:aj):Bool:=match u with
 |.int b=>decide (b<n)&&(n.fmod b==0)
 |_=>false
def L7(n:Int):List aj:=(cO 2 30).filter (dvP n)
theorem j5{n:Nat}{k:Int}{st:af}(h:aq st n=some (ns.map aj.int))(k0:0<=k)(k1:k<=1000000):
  ∃o,PM.bE [.loc n,.int k] st=.ok (.int o) st:=by
 have len:((List.map aj.int ns).length:Int)=(ns.length:Int):=by rw[Vg]
 have cp:HY 10 9:=by decide
 have tn:(10:Int) ^ Int.toNat 9=1000000000:=by decide
 have fin:∀c:Int,((decide (k<((List.map aj.int ns).length:Int))=false/\c=0)\/(decide (k<((List.map aj.int ns).length:Int))=true/\L2.oy (ns.map aj.int) k=some (.int c)))->∃o,PM.bE [.loc n,.int k] st=.ok (.int o) st:=by
  intro c hc;by_cases hb:(1000000000:Int)<(if c<0 then -c else c)
  .have e1:decide ((1000000000:Int)<(if c<0 then -c else c))=true:=V8 hb;refine⟨c,?_⟩;rcases hc with⟨h1,rfl⟩|⟨h1,h2⟩
   .simp![PM.bE,a_ h,h1,An cp,tn,e1]
   .simp![PM.bE,a_ h,h1,dB h h2,An cp,tn,e1]
  .have e1:decide ((1000000000:Int)<(if c<0 then -c else c))=false:=V5 hb;have q1:=p8 (m:=2147483647) ⋯ (c*48271+7919*k*k+104729*k+11);generalize hx:(c*48271+7919*k*k+104729*k+11).fmod 2147483647=x at q1;have q2:=p8 (m:=2147483629) ⋯ (x*x);have q3:=p8 (m:=2147483647) ⋯ ((x*x).fmod 2147483629*69621);generalize hy:((x*x).fmod 2147483629*69621).fmod 2147483647=y at q3;refine⟨(y*y).fmod 2147483587*2147483647+y,?_⟩;have m1:∀s,b9 (.int x) (.int x) s=.ok (.int (x*x)) s:=λs=>kC ⋯ ⋯;have m2:∀s,b9 (.int y) (.int y) s=.ok (.int (y*y)) s:=λs=>kC ⋯ ⋯;rcases hc with⟨h1,rfl⟩|⟨h1,h2⟩
   .simp![PM.bE,a_ h,h1,An cp,tn,e1,mul_r (j:=48271) ⋯ ⋯,kC (i:=7919) ⋯ ⋯,mul_r (j:=k) ⋯ ⋯,gb (j:=2147483647) ⋯,hx,m1,gb (j:=2147483629) ⋯,mul_r (j:=69621) ⋯ ⋯,hy,m2,gb (j:=2147483587) ⋯,mul_r (j:=2147483647) ⋯ ⋯]
   .simp![PM.bE,a_ h,h1,dB h h2,An cp,tn,e1,mul_r (j:=48271) ⋯ ⋯,kC (i:=7919) ⋯ ⋯,mul_r (j:=k) ⋯ ⋯,gb (j:=2147483647) ⋯,hx,m1,gb (j:=2147483629) ⋯,mul_r (j:=69621) ⋯ ⋯,hy,m2,gb (j:=2147483587) ⋯,mul_r (j:=2147483647) ⋯ ⋯]
 by_cases hk:k<(ns.length:Int)
 .obtain⟨c,hc⟩:=Nn k0 hk;exact fin c (.inr ⟨V8 (by rw[len];exact hk),hc⟩)
 .exact fin 0 (.inl ⟨V5 (by rw[len];exact hk),rfl⟩)
def aam(μ:MN.Env):Nat:=match(μ[1]?:Option (Option aj)) with
 |some (some (aj.int n))=>n.toNat
 |_=>0
theorem ip{g:af->Prop}{a:AS}{e:ME}{st:af}(hg:g st)(I:MN.Env->Prop)(f:Int->aj):∀(ns:_h)(τ:MN.Env)(ys:List aj),I τ ->
  (∀i∈ns,∀τ,I τ->∃τ1,a (.int i) τ=some τ1/\I τ1/\e τ1 st=.ok (f i) st)->dS g a bj e (ns.map aj.int) τ st ys=.ok (ys++ns.map f) st
 |[],τ,ys,_,_=>by rw[VM];unfold dS;rw[Vv hg];simp
 |n::ns,τ,ys,hI,hs=>by obtain⟨τ1,h1,h2,h3⟩:=hs n Vu τ hI;have ih:=ip hg I f ns τ1 (ys++[f n]) h2 λi hi=>hs i (Vx n hi);rw[Vm];unfold dS;rw[Vv hg,h1];dsimp only[bj];rw[h3];dsimp only;rw[ih];simp
def gm(lo:Int)(n:Nat):_h:=(List.range n).map λ(i:Nat)=>lo+(i:Int)
theorem oG(lo:Int)(n:Nat):cO lo n=(gm lo n).map aj.int:=by unfold cO gm;rw[V1];rfl
theorem BL{lo i:Int}{n:Nat}(h:i∈gm lo n):lo<=i/\i<lo+n:=by obtain⟨j,hj,rfl⟩:=VN.mp h;have:=X6.mp hj;lia
theorem aE(ns:_h):(ns.map aj.int).length=ns.length:=Vg ..
theorem at_getD{i:Int}(h0:0<=i)(h1:i<(ns.length:Int)):L2.oy (ns.map aj.int) i=some (.int (ns.getD i.toNat 0)):=by
 have hk:i.toNat<ns.length:=⋯
 have e:=L2.jK (xs:=ns.map aj.int) (j:=i.toNat) (v:=.int ns[i.toNat]) (by rw[Vy,Vk hk];rfl);rw[show((i.toNat:Nat):Int)=i by lia]at e;rw[e,VA,Vk hk];rfl
theorem iK(hp:dD p=true):¬ p=0:=by have:=au hp;lia
theorem j6(hp:dD p=true)(st:af):∃g,PM.gC [.int p] st=.ok .dj (st++g):=by
 obtain⟨g,e⟩:=uf p st;have hr:ue p=true:=by unfold ue;rw[hp,Bool.or_true]
 rw[hr]at e;have hz:(p==0)=false:=by simpa using iK hp
 exact⟨g,by simp![PM.gC,XW,e,hz]⟩
def b!(ns:_h):_h:=(ns.reverse.dropWhile (· == 0)).reverse
theorem j7(ns:_h):b! (ns++[0])=b! ns:=by simp[b!]
theorem iB{n:Int}(h:(n==0)=false)(ns:_h):b! (ns++[n])=ns++[n]:=by simp[b!,List.dropWhile_cons,h]
def Cut(ns:_h):Prop:=b! ns=ns
theorem j8(ns:_h):ns=[]\/∃ms x,ns=ms++[x]:=by
 rcases YL ns with h|⟨ms,x,h⟩
 .exact .inl h
 .exact .inr ⟨ms,x,by rw[h,YM]⟩
theorem vo:∀(k:Nat)(ns:_h),ns.length=k->(b! ns).length<=k/\Cut (b! ns)/\(∀P:Int->Prop,(∀n∈ns,P n)->∀n∈b! ns,P n)
 |0,ns,h=>by have:ns=[]:=Wn h;subst this;exact⟨Vt _,rfl,λP hP=>hP⟩
 |k+1,ns,h=>by
  rcases j8 ns with rfl|⟨ms,x,rfl⟩
  .exact⟨Wd _,rfl,λP hP=>hP⟩
  .have hm:ms.length=k:=by rw[Vj,VO]at h;lia
   cases hx:x==0 with
   |true=>
    have:x=0:=by simpa using hx
    subst this;rw[j7];obtain⟨h1,h2,h3⟩:=vo k ms hm;exact⟨⋯,h2,λP hP=>h3 P λn hn=>hP n (We _ hn)⟩
   |false=>
    rw[iB hx];exact⟨⋯,by unfold Cut;rw[iB hx],λP hP=>hP⟩
theorem gN(ns:_h):(b! ns).length<=ns.length:=(vo _ ns rfl).1
theorem vp(ns:_h):Cut (b! ns):=(vo _ ns rfl).2.1
theorem Aq{P:Int->Prop}(h:∀n∈ns,P n):∀n∈b! ns,P n:=(vo _ ns rfl).2.2 P h
def ig(L:Nat)(s:af):Nat:=((aq s L).getD []).length
abbrev rrT:MT:=yL (gA (ag v! (ao bD (aa d6 ai)) cW)) (gA (ag sA (ag bJ d6 (ko cm)) cW))
abbrev rrB:MB:=e_ (Ji Dm d6)
theorem Np(x y:Option aj)(st:af)(ns:_h):∃μ' aI,e! rrT rrB [x, y, qL st.length] (st++[.lst (ns.map aj.int)])=.nx μ' aI/\μ'=[x, y, qL st.length]/\aI=st++[.lst ((b! ns).map aj.int)]:=by
 obtain⟨μ',aI,e,rfl,ms,rfl,hm⟩:=il (t:=rrT) (body:=rrB)
  (λμ s=>μ=[x, y, qL st.length]/\∃ms:_h,s=st++[.lst (ms.map aj.int)]/\b! ms=b! ns) (λ_ s=>ig st.length s)
  (λμ s=>μ=[x, y, qL st.length]/\∃ms:_h,s=st++[.lst (ms.map aj.int)]/\ms=b! ns)
  (by
   rintro μ s ⟨rfl,ms,rfl,hm⟩;rcases j8 ms with rfl|⟨ks,k,rfl⟩
   .have h0:decide ((0:Int)<(([]:List aj).length:Int))=false:=rfl;refine .inl ⟨_,?_,rfl,[],rfl,hm⟩;simp only[ar,aB,aL,aC,aF,aw,bN,bt,bo,vj,aH,av,aD,gX,aY,aJ,VM,Vs,a_ (du st []),h0];rfl
   .have em:(ks++[k]).map aj.int=ks.map aj.int++[.int k]:=by simp
    rw[em];have h0:decide ((0:Int)<((ks.map aj.int++[aj.int k]).length:Int))=true:=V8 (by rw[Vj,VO];lia);have hix:=dB (du st (ks.map aj.int++[.int k])) (L2.Ig (ks.map aj.int) (.int k));have HI:rrT [x, y, qL st.length] (st++[.lst (ks.map aj.int++[.int k])])=.ok (k==0) (st++[.lst (ks.map aj.int++[.int k])]):=by simp only[ar,aB,aL,aC,BH,aF,aw,bN,bt,bo,vj,aH,av,aD,gE,jY,gX,ju,aY,aJ,a_ (du st (ks.map aj.int++[.int k])),h0,hix]
    cases hk:k==0 with
    |false=>
     rw[hk]at HI;rw[iB hk]at hm;exact .inl ⟨_,HI,rfl,ks++[k],by rw[em],hm⟩
    |true=>
     rw[hk]at HI;have hk0:k=0:=by simpa using hk
     subst hk0;rw[j7]at hm;refine .inr ⟨_,_,st++[.lst (ks.map aj.int)],HI,.inl ?_,⟨rfl,ks,rfl,hm⟩,?_⟩
     .simp![Ru,aaf (bu st _),Rv (bu st _),q!]
     .unfold ig;rw[du,du];show(ks.map aj.int).length<(ks.map aj.int++[aj.int 0]).length;rw[Vj,VO];lia)
  [x, y, qL st.length] (st++[.lst (ns.map aj.int)]) ⟨rfl,ns,rfl,rfl⟩
 exact⟨_,_,e,rfl,by rw[hm]⟩
theorem d_(hp:¬ p=0){n:Nat}{st:af}(h:aq st n=some (ns.map aj.int))(hl:ns.length<=sizeLine):
  PM.c_ [.int p,.loc n] st=.ok (.loc st.length) (st++[.lst ((b! (ns.map (·.fmod p))).map aj.int)]):=by
 have hc:=ip (g:=λaI=>aq aI n=some (ns.map aj.int)) (a:=aA 0) (e:=ag gq bc bT) (st:=st) h (λτ=>∃z,τ=[z,some (.int p)]) (λi=>.int (i.fmod p)) ns [none,some (.int p)] [] ⟨_,rfl⟩ (by
  rintro i _ τ ⟨z,rfl⟩;exact⟨_,rfl,⟨_,rfl⟩,by simp![gb hp]⟩)
 rw[Vq,show(ns.map λi=>aj.int (i.fmod p))=(ns.map (·.fmod p)).map aj.int from by rw[V1];rfl]at hc;have gY:iV 1 [0] [some (aj.int p),some (aj.loc n),none]=[none,some (.int p)]:=rfl;have hz:(ns.map aj.int).length<=sizeLine:=by rw[aE];exact hl
 rw[Vp]at hz;obtain⟨μ',aI,e,rfl,rfl⟩:=Np (some (.int p)) (some (.loc n)) st (ns.map (·.fmod p));simp![PM.c_,fB,dN,Vp,dG h,gY,hc,Vv hz,e]
theorem rj{n j:Nat}(h:j<n):L2.Bo n (j:Int)=some j:=by unfold L2.Bo;rw[Vv ⋯,Vv ⋯];simp
def Cg(p a b:Int):Prop:=∃k,a=b+p*k
theorem Cg.refl(p a:Int):Cg p a a:=⟨0,by rw[Wi,WQ]⟩
theorem Cg.symm{a b:Int}(h:Cg p a b):Cg p b a:=by obtain⟨k,rfl⟩:=h;exact⟨-k,by rw[XZ];lia⟩
theorem Cg.trans{a b c:Int}(h:Cg p a b)(h':Cg p b c):Cg p a c:=by obtain⟨k,rfl⟩:=h;obtain⟨l,rfl⟩:=h';exact⟨l+k,by rw[Xf];lia⟩
theorem Cg.add{a b c d:Int}(h:Cg p a b)(h':Cg p c d):Cg p (a+c) (b+d):=by obtain⟨k,rfl⟩:=h;obtain⟨l,rfl⟩:=h';exact⟨k+l,by rw[Xf];lia⟩
theorem Cg.BM{a b:Int}(h:Cg p a b)(c:Int):Cg p (a*c) (b*c):=by obtain⟨k,rfl⟩:=h;exact⟨k*c,by rw[Yo,Wj]⟩
theorem Cg.yb{a b:Int}(h:Cg p a b)(c:Int):Cg p (c*a) (c*b):=by rw[WY c a,WY c b];exact h.BM c
theorem Cg.neg{a b:Int}(h:Cg p a b):Cg p (-a) (-b):=by obtain⟨k,rfl⟩:=h;exact⟨-k,by rw[XZ];lia⟩
theorem Cg.mod(hp:0<p)(a:Int):Cg p (a.fmod p) a:=by refine⟨-(a / p),?_⟩;rw[dY hp,XZ];have:=Wb a p;lia
theorem Cg.eq{a b:Int}(hp:0<p)(h:Cg p a b):a.fmod p=b.fmod p:=by obtain⟨k,rfl⟩:=h;rw[dY hp,dY hp,Y!]
theorem fe{a:Int}(h0:0<=a)(h1:a<p):a.fmod p=a:=by rw[dY ⋯];exact V9 h0 h1
def Nq(ns:_h)(lo hi:Option Int):_h:=(ns.drop (HT.h_ ns.length 0 lo)).take (HT.h_ ns.length ns.length hi-HT.h_ ns.length 0 lo)
theorem G7(ns:_h)(lo hi:Option Int):uK (ns.map aj.int) lo hi=(Nq ns lo hi).map aj.int:=by unfold uK Nq;rw[aE,List.map_take,Zl]
theorem pE{α:Type}{g:af->Prop}{a:AS}{e:ME}{st:af}(hg:g st)(I:MN.Env->Prop)(enc f:α->aj):∀(xs:List α)(τ:MN.Env)(ys:List aj),I τ ->
  (∀x∈xs,∀τ,I τ->∃τ1,a (enc x) τ=some τ1/\I τ1/\e τ1 st=.ok (f x) st)->dS g a bj e (xs.map enc) τ st ys=.ok (ys++xs.map f) st
 |[],τ,ys,_,_=>by rw[VM];unfold dS;rw[Vv hg];simp
 |n::ns,τ,ys,hI,hs=>by obtain⟨τ1,h1,h2,h3⟩:=hs n Vu τ hI;have ih:=pE hg I enc f ns τ1 (ys++[f n]) h2 λi hi=>hs i (Vx n hi);rw[Vm];unfold dS;rw[Vv hg,h1];dsimp only[bj];rw[h3];dsimp only;rw[ih];simp
def pr(q:Int×Int):aj:=.tup [.int q.1,.int q.2]
theorem sO:∀(as bs:_h),ou (as.map aj.int) (bs.map aj.int)=(as.zip bs).map pr
 |[],_=>by simp[ou]
 |_::_,[]=>by simp[ou]
 |a::as,b::bs=>by simp only[Vm,ou,Zu,sO as bs];rfl
theorem y_(k:Nat):yO k [aj.int 0]=(List.replicate k (0:Int)).map aj.int:=by
 unfold yO
 induction k with
 |zero=>rfl
 |succ k ih=>rw[VH,VH,Xy,ih];rfl
theorem sP(ns:_h)(k j:Nat):(ns++List.replicate k 0).getD j 0=ns.getD j 0:=by grind
theorem jE{n:Nat}{L:Int}{st:af}(h:aq st n=some (ns.map aj.int))(h0:(ns.length:Int)<=L)(h1:L<=1000000):
  ∃g k,PM.fo [.loc n,.int L] st=.ok (.loc k) (st++g)/\st.length<=k/\(st++g)[k]?=some (.lst ((ns++List.replicate (L-ns.length).toNat 0).map aj.int)):=by
 have c1:=pB h;have h2:=bQ (bQ h [.lst (ns.map aj.int)]) [.lst [.int 0]];have m1:=qe (st:=st++[.lst (ns.map aj.int)]++[.lst [.int 0]]) (n:=(st++[aZ.lst (ns.map aj.int)]).length) (us:=[.int 0]) (k:=L-ns.length) (bu _ _) ⋯ ⋯ (by rw[Vp];simp;lia);rw[y_]at m1;have a1:=j4 (st:=st++[aZ.lst (ns.map aj.int)]++[aZ.lst [.int 0]]++[aZ.lst ((List.replicate (L-ns.length).toNat (0:Int)).map aj.int)]) (n:=st.length) (m:=(st++[aZ.lst (ns.map aj.int)]++[aZ.lst [.int 0]]).length)
  (us:=ns.map aj.int) (ws:=(List.replicate (L-ns.length).toNat (0:Int)).map aj.int) (c! (c! (bu st (ns.map aj.int)) _) _) (bu _ _) (by rw[aE,aE,V0,Vp];lia)
 rw[<-VS]at a1;refine⟨[.lst (ns.map aj.int)]++[.lst [.int 0]]++[.lst ((List.replicate (L-ns.length).toNat (0:Int)).map aj.int)]++[.lst ((ns++List.replicate (L-ns.length).toNat 0).map aj.int)],(st++[aZ.lst (ns.map aj.int)]++[aZ.lst [.int 0]]++[aZ.lst ((List.replicate (L-ns.length).toNat (0:Int)).map aj.int)]).length,?_,by simp only[Vj];lia,?_⟩
 .simp![PM.fo,Vp,c1,a_ h2,aE,m1,a1];simp only[VY,VD,Vq]
 .simp only[<-VY];exact bu _ _
def jN(as bs:_h)(f:Int):_h:=(gm 0 (max as.length bs.length)).map λk=>as.getD k.toNat 0+f*bs.getD k.toNat 0
theorem RJ(as bs:_h)(f:Int){k l:Nat}(hk:as.length+k=max as.length bs.length)(hl:bs.length+l=max as.length bs.length):
  ((as++List.replicate k 0).zip (bs++List.replicate l 0)).map (λ(q:Int×Int)=>q.1+f*q.2)=jN as bs f:=by
 refine X0 λj=>?_;unfold jN gm;rw[V1,Vy,Vy];by_cases hj:j<max as.length bs.length
 .rw[Wg hj];have e1:(as++List.replicate k 0)[j]?=some ((as++List.replicate k 0).getD j 0):=by rw[VA,Vk (by rw[Vj,V0];lia)];rfl
  have e2:(bs++List.replicate l 0)[j]?=some ((bs++List.replicate l 0).getD j 0):=by rw[VA,Vk (by rw[Vj,V0];lia)];rfl
  have e3:((as++List.replicate k 0).zip (bs++List.replicate l 0))[j]?=some ((as++List.replicate k 0).getD j 0,(bs++List.replicate l 0).getD j 0):=by rw[List.getElem?_zip_eq_some];exact⟨e1,e2⟩
  rw[e3,sP,sP];show some (as.getD j 0+f*bs.getD j 0)=some (as.getD (0+(j:Int)).toNat 0+f*bs.getD (0+(j:Int)).toNat 0);rw[show(0+(j:Int)).toNat=j by lia]
 .rw[Wa (l:=List.range _) (by rw[VU];lia),Wa (by rw[Xh,Vj,Vj,V0,V0];lia)];rfl
theorem wC(as bs:_h)(f:Int):(jN as bs f).length=max as.length bs.length:=by unfold jN gm;rw[Vg,Vg,VU]
theorem oH{f:Int}(hp:¬ p=0){n:Nat}{st:af}(h1:aq st n=some (as.map aj.int))(h2:aq st m=some (bs.map aj.int))(t_:as.length<=100000)(uD:bs.length<=100000)(f0:-(2 ^ 64)<f)(f1:f<2 ^ 64):
  ∃g k,PM.bK [.int p,.loc n,.loc m,.int f] st=.ok (.loc k) (st++g)/\st.length<=k/\(st++g)[k]?=some (.lst ((b! ((jN as bs f).map (·.fmod p))).map aj.int)):=by
 have mx:(if(bs.length:Int)>(as.length:Int) then(bs.length:Int) else(as.length:Int))=((max as.length bs.length:Nat):Int):=by split<;>lia
 obtain⟨g1,k1,e1,o1,q1⟩:=jE (L:=((max as.length bs.length:Nat):Int)) h1 ⋯ ⋯;obtain⟨g2,k2,e2,o2,q2⟩:=jE (L:=((max as.length bs.length:Nat):Int)) (bQ h2 g1) ⋯ ⋯;have q1:=c! q1 g2;revert e2 q1 q2;generalize su:st++g1++g2=s2;intro e2 q2 q1;have hk:as.length+(((max as.length bs.length:Nat):Int)-as.length).toNat=max as.length bs.length:=⋯
 have hl:bs.length+(((max as.length bs.length:Nat):Int)-bs.length).toNat=max as.length bs.length:=⋯
 have le:=RJ as bs f hk hl;have zz:=Jz (ax q1) (ax q2);rw[sO]at zz;generalize (as++List.replicate (((max as.length bs.length:Nat):Int)-as.length).toNat 0)=A at q1 q2 zz le;generalize (bs++List.replicate (((max as.length bs.length:Nat):Int)-bs.length).toNat 0)=B at q1 q2 zz le;have hc:=pE (g:=λcJ=>aq cJ k1=some (A.map aj.int)/\aq cJ k2=some (B.map aj.int)) (a:=js [aA 0,aA 1]) (e:=ag dA bc (ag b9 d6 bT)) (st:=s2) ⟨ax q1,ax q2⟩ (λτ=>∃x y,τ=[x, y, qI f]) pr (λ(q:Int×Int)=>.int (q.1+f*q.2)) (A.zip B) [qn, qn, qI f] [] ⟨_,_,rfl⟩ (by
  rintro⟨a,b⟩ _ τ ⟨x,y,rfl⟩;exact⟨_,rfl,⟨_,_,rfl⟩,by simp![kC (i:=f) f0 f1]⟩)
 rw[Vq,show((A.zip B).map λ(q:Int×Int)=>aj.int (q.1+f*q.2))=((A.zip B).map λ(q:Int×Int)=>q.1+f*q.2).map aj.int from by rw[V1];rfl,le]at hc;have gY:∀x y z w:Option aj,iV 2 [3] [x, y, z, qI f, w, qL k1]=[qn, qn, qI f]:=λ_ _ _ _=>rfl;have hz:((A.zip B).map pr).length<=sizeLine:=by have e:=WE List.length le;rw[Vg,wC]at e;rw[Vg,e,Vp];lia
 rw[Vp]at hz;have rr:=d_ hp (st:=s2++[.lst ((jN as bs f).map aj.int)]) (du s2 _) (by rw[wC,Vp];lia);refine⟨g1++g2++[.lst ((jN as bs f).map aj.int)]++[.lst ((b! ((jN as bs f).map (·.fmod p))).map aj.int)],(s2++[aZ.lst ((jN as bs f).map aj.int)]).length,?_,by rw[<-su];simp only[Vj];lia,?_⟩
 .rw[show st++(g1++g2++[aZ.lst ((jN as bs f).map aj.int)]++[.lst ((b! ((jN as bs f).map (·.fmod p))).map aj.int)])=s2++[aZ.lst ((jN as bs f).map aj.int)]++[.lst ((b! ((jN as bs f).map (·.fmod p))).map aj.int)]from by rw[<-su];simp only[VY]];simp![PM.bK,fB,dN,Vp,JA,a_ h1,a_ h2,aE,mx,e1,e2,zz,gY,hc,Vv hz,rr]
 .rw[show st++(g1++g2++[aZ.lst ((jN as bs f).map aj.int)]++[.lst ((b! ((jN as bs f).map (·.fmod p))).map aj.int)])=s2++[aZ.lst ((jN as bs f).map aj.int)]++[.lst ((b! ((jN as bs f).map (·.fmod p))).map aj.int)]from by rw[<-su];simp only[VY]];exact bu _ _
def oI(as bs:_h):Nat->Nat->Int
 |0,_=>0
 |i+1,k=>oI as bs i k+(if i<=k then as.getD i 0*bs.getD (k-i) 0 else 0)
theorem oJ{k:Nat}(h:ns.length<=k):ns.getD k 0=0:=by grind
theorem BN(as bs:_h)(k:Nat):∀i,i+bs.length<=k+1->oI as bs i k=0
 |0,_=>rfl
 |i+1,h=>by show oI as bs i k+(if i<=k then as.getD i 0*bs.getD (k-i) 0 else 0)=0;rw[BN as bs k i ⋯,oJ (ns:=bs) ⋯,Wi];split<;>rfl
theorem BO(bs:_h)(k:Nat):∀i,oI [] bs i k=0
 |0=>rfl
 |i+1=>by show oI [] bs i k+(if i<=k then([]:_h).getD i 0*bs.getD (k-i) 0 else 0)=0;rw[BO bs k i,oJ (ns:=[]) (Wd _),Wy];split<;>rfl
def bY(as bs:_h):_h:=(gm 0 (as.length+bs.length-1)).map λk=>oI as bs as.length k.toNat
theorem y!(as bs:_h):(bY as bs).length=as.length+bs.length-1:=by unfold bY gm;rw[Vg,Vg,VU]
theorem E5{n:Nat}{f:Nat->Int}(hl:R.length=n)(h:∀k,k<n->R.getD k 0=f k):R=(gm 0 n).map λk=>f k.toNat:=by
 refine X0 λj=>?_;unfold gm;rw[V1,Vy];by_cases hj:j<n
 .rw[Wg hj,Vk ⋯];have:=h j hj;rw[VA,Vk ⋯]at this;show some _=some (f (0+(j:Int)).toNat);rw[show(0+(j:Int)).toNat=j by lia,<-this];rfl
 .rw[Wa ⋯,Wa (by rw[VU];lia)];rfl
theorem wD{k:Nat}{v:Int}(hk:k<R.length)(j:Nat):(R.set k v).getD j 0=if j=k then v else R.getD j 0:=by grind
theorem iN{i:Int}{k:Nat}(hi:i=(k:Int))(hk:k<R.length):L2.oy (R.map aj.int) i=some (.int (R.getD k 0)):=by subst hi;have:=at_getD (ns:=R) (i:=(k:Int)) ⋯ ⋯;rw[WO]at this;exact this
abbrev S8:MB:=yW GS d! (ag dA fY jU) (ag b9 iU qc)
theorem Dx{n L:Nat}{i:Nat}{a:Int}{s:af}(hm:aq (s++[.lst (R0.map aj.int)]) m=some (bs.map aj.int))(hms:m<s.length)(hL:L=s.length)(ha:-(2 ^ 64)<a/\a<2 ^ 64)(hl:i+bs.length<=R0.length):
  ∃(R:_h)(x6' x7':Option aj),forL (λcJ=>aq cJ m=some (bs.map aj.int)) (js [aA 6,aA 7]) S8 (ky 0 (bs.map aj.int)) [qI p, qL n, qL m, qL L, qI i, qI a, x6, x7] (s++[.lst (R0.map aj.int)])
   = .nx [qI p, qL n, qL m, qL L, qI i, qI a, x6', x7'] (s++[.lst (R.map aj.int)])/\R.length=R0.length/\∀k,R.getD k 0=R0.getD k 0+(if i<=k then a*bs.getD (k-i) 0 else 0):=by
 subst hL;have hmm:∀R:_h,aq (s++[.lst (R.map aj.int)]) m=some (bs.map aj.int):=λR=>by have h:=hm;unfold aq at h⊢;rw[V3 hms]at h⊢;exact h
 obtain⟨μ',aI,e,R,rfl,⟨y6,y7,rfl⟩,hR,hv⟩:=dX (g:=λcJ=>aq cJ m=some (bs.map aj.int)) (a:=js [aA 6,aA 7]) (body:=S8)
  (λj μ s'=>∃R:_h,s'=s++[.lst (R.map aj.int)]/\(∃x6 x7,μ=[qI p, qL n, qL m, qL s.length, qI i, qI a, x6, x7])/\R.length=R0.length/\∀k,R.getD k 0=R0.getD k 0+(if i<=k/\k<i+j then a*bs.getD (k-i) 0 else 0))
  (ky 0 (bs.map aj.int)) 0 [qI p, qL n, qL m, qL s.length, qI i, qI a, x6, x7] (s++[.lst (R0.map aj.int)])
  (by
   rintro j u μ s' hu ⟨R,rfl,⟨x6,x7,rfl⟩,hR,hv⟩;rw[VZ]at hv⊢;refine⟨hmm R,?_⟩;obtain⟨w,hw,rfl⟩:=l_ _ 0 j u hu;rw[VZ];have hj:j<bs.length:=by have:=aU hw;rw[aE]at this;exact this
   have ew:w=.int (bs.getD j 0):=by rw[Vy,Vk hj]at hw;rw[<-VP hw,VA,Vk hj];rfl
   subst ew;have hk:i+j<R.length:=⋯
   have gx:=Jx (ax (bu s (R.map aj.int))) (iN (R:=R) (i:=(i:Int)+(j:Int)) (k:=i+j) ⋯ hk);have sx:=q9 (v:=.int (R.getD (i+j) 0+a*bs.getD j 0)) (k:=(i:Int)+(j:Int)) (j:=i+j) (bu s (R.map aj.int)) (by rw[aE];have:=rj hk;rw[show(i:Int)+(j:Int)=((i+j:Nat):Int) by lia];exact this);rw[q!,<-ZJ]at sx;refine⟨[some (.int p),some (.loc n),some (.loc m),some (.loc s.length),some (.int i),some (.int a),some (.int j),some (.int (bs.getD j 0))],rfl,[qI p, qL n, qL m, qL s.length, qI i, qI a, qI j, qI (bs.getD j 0)],s++[.lst ((R.set (i+j) (R.getD (i+j) 0+a*bs.getD j 0)).map aj.int)],.inl ?_,R.set (i+j) (R.getD (i+j) 0+a*bs.getD j 0),rfl,⟨_,_,rfl⟩,by rw[Ws];exact hR,λk=>?_⟩
   .simp![aag,OI,OJ,OK,OL,Jy,gx,kC (i:=a) ha.1 ha.2,sx]
   .rw[wD hk];by_cases OO:k=i+j
    .subst OO;rw[Vv rfl,hv,VG ⋯,Vv ⋯,show i+j-i=j by lia];lia
    .rw[VG OO,hv];congr 1;by_cases h1:i<=k/\k<i+j
     .rw[Vv h1,Vv ⋯]
     .rw[VG h1,VG ⋯])
  (λμ s'⟨R,hs,_⟩=>by rw[hs];exact hmm R)
  ⟨R0,rfl,⟨_,_,rfl⟩,rfl,λk=>by rw[VG ⋯,WQ]⟩
 refine⟨R,y6,y7,e,hR,λk=>?_⟩;rw[hv,VZ,l!,aE];congr 1;by_cases h1:i<=k
 .by_cases h2:k<i+bs.length
  .rw[Vv ⟨h1,h2⟩,Vv h1]
  .rw[VG ⋯,Vv h1,oJ ⋯,Wi]
 .rw[VG ⋯,VG h1]
theorem wF(hp:¬ p=0){n:Nat}{st:af}(h1:aq st n=some (as.map aj.int))(h2:aq st m=some (bs.map aj.int))(t_:as.length<=100000)(uD:bs.length<=100000)(ha:∀a∈as,-(2 ^ 64)<a/\a<2 ^ 64):
  ∃g k,PM.dW [.int p,.loc n,.loc m] st=.ok (.loc k) (st++g)/\st.length<=k/\(st++g)[k]?=some (.lst ((if as=[]\/bs=[] then[]else b! ((bY as bs).map (·.fmod p))).map aj.int)):=by
 by_cases hea:as=[]
 .subst hea;refine⟨[.lst []],st.length,?_,Vt _,?_⟩
  .have z:((([]:_h).length:Int)==0)=true:=rfl;simp![PM.dW,a_ h1,aE,z];rfl
  .rw[Vv (.inl rfl)];exact bu st []
 have ha0:0<as.length:=by
  rcases YD as.length with z|z
  .exact absurd (Wn z) hea
  .exact z
 have za:((as.length:Int)==0)=false:=by simp;lia
 by_cases heb:bs=[]
 .subst heb;refine⟨[.lst []],st.length,?_,Vt _,?_⟩
  .have z:((([]:_h).length:Int)==0)=true:=rfl;simp![PM.dW,a_ h1,a_ h2,aE,za,z];rfl
  .rw[Vv (.inr rfl)];exact bu st []
 have RK:0<bs.length:=by
  rcases YD bs.length with z|z
  .exact absurd (Wn z) heb
  .exact z
 have zb:((bs.length:Int)==0)=false:=by simp;lia
 rw[VG (by rintro(z|z);exact hea z;exact heb z)];have m1:=qe (st:=st++[.lst [.int 0]]) (n:=st.length) (us:=[.int 0]) (k:=(as.length:Int)+(bs.length:Int)-1) (bu _ _) ⋯ ⋯ (by rw[Vp];simp;lia);rw[y_,show((as.length:Int)+(bs.length:Int)-1).toNat=as.length+bs.length-1 by lia]at m1;have HJ:=bQ h1 [.lst [.int 0]];have HK:=bQ h2 [.lst [.int 0]];have q1:=OM HJ;have q2:=OM HK;have yx:st++[aZ.lst [.int 0]]=st++[aZ.lst [.int 0]]:=rfl;revert m1 HJ HK q1 q2;generalize hs:st++[aZ.lst [.int 0]]=s;intro m1 HJ HK q1 q2;have k1:=a_ (bQ h1 [.lst [.int 0]]);have k2:=a_ (bQ h2 [.lst [.int 0]]);rw[hs]at k1 k2;obtain⟨μ',aI,e,R,rfl,⟨y4,y5,y6,y7,rfl⟩,hR,hv⟩:=dX (g:=λcJ=>aq cJ n=some (as.map aj.int)) (a:=js [aA 4,aA 5]) (body:=ic (kY (aa d6 ai)) (js [aA 6,aA 7]) S8)
  (λi μ s'=>∃R:_h,s'=s++[.lst (R.map aj.int)]/\(∃x4 x5 x6 x7,μ=[qI p, qL n, qL m, qL s.length, x4, x5, x6, x7])/\R.length=as.length+bs.length-1/\∀k,R.getD k 0=oI as bs i k)
  (ky 0 (as.map aj.int)) 0 [qI p, qL n, qL m, qL s.length, qn, qn, qn, qn] (s++[.lst ((List.replicate (as.length+bs.length-1) (0:Int)).map aj.int)])
  (by
   rintro i u μ s' hu ⟨R,rfl,⟨x4,x5,x6,x7,rfl⟩,hR,hv⟩;rw[VZ]at hv⊢;refine⟨bQ HJ _,?_⟩;obtain⟨w,hw,rfl⟩:=l_ _ 0 i u hu;rw[VZ];have hi:i<as.length:=by have:=aU hw;rw[aE]at this;exact this
   have ew:w=.int (as.getD i 0):=by rw[Vy,Vk hi]at hw;rw[<-VP hw,VA,Vk hi];rfl
   subst ew;have hai:as.getD i 0∈as:=by rw[VA,Vk hi];exact Xl hi
   obtain⟨R',z6,z7,e',hR',hv'⟩:=Dx (p:=p) (n:=n) (m:=m) (L:=s.length) (bs:=bs) (R0:=R) (i:=i) (a:=as.getD i 0) (s:=s) (x6:=x6) (x7:=x7) (bQ HK _) q2 rfl (ha _ hai) ⋯;refine⟨[some (.int p),some (.loc n),some (.loc m),some (.loc s.length),some (.int i),some (.int (as.getD i 0)),x6,x7],rfl,[qI p, qL n, qL m, qL s.length, qI i, qI (as.getD i 0), z6, z7],s++[.lst (R'.map aj.int)],.inl ?_,R',rfl,⟨_,_,_,_,rfl⟩,⋯,λk=>?_⟩
   .simp only[ar,aG,aF,aw,iY,aH,av,gv,aY,aJ,q_,wz (bQ HK [.lst (R.map aj.int)]),e']
   .rw[hv',hv];rfl)
  (λμ s'⟨R,M?,_⟩=>by rw[M?];exact bQ HJ _)
  ⟨List.replicate (as.length+bs.length-1) 0,rfl,⟨_,_,_,_,rfl⟩,V0,λk=>by
   rw[VA,W8];split<;>rfl⟩
 rw[VZ,l!,aE]at hv;have hRe:R=bY as bs:=E5 hR λk _=>hv k;subst hRe;have rr:=d_ hp (st:=s++[.lst ((bY as bs).map aj.int)]) (du s _) (by rw[y!,Vp];lia);refine⟨[.lst [.int 0]]++[.lst ((bY as bs).map aj.int)]++[.lst ((b! ((bY as bs).map (·.fmod p))).map aj.int)],(s++[aZ.lst ((bY as bs).map aj.int)]).length,?_,by rw[<-hs];simp only[Vj];lia,?_⟩
 .rw[show st++([aZ.lst [.int 0]]++[.lst ((bY as bs).map aj.int)]++[.lst ((b! ((bY as bs).map (·.fmod p))).map aj.int)])=s++[aZ.lst ((bY as bs).map aj.int)]++[.lst ((b! ((bY as bs).map (·.fmod p))).map aj.int)]from by rw[<-hs];simp only[VY]];simp![PM.dW,iY,gv,Vp,q_,a_ h1,a_ h2,aE,za,zb,hs,k1,k2,m1,wz (bQ HJ _),e,rr]
 .rw[show st++([aZ.lst [.int 0]]++[.lst ((bY as bs).map aj.int)]++[.lst ((b! ((bY as bs).map (·.fmod p))).map aj.int)])=s++[aZ.lst ((bY as bs).map aj.int)]++[.lst ((b! ((bY as bs).map (·.fmod p))).map aj.int)]from by rw[<-hs];simp only[VY]];exact bu _ _
theorem uM{f:Int}(hp:¬ p=0){n:Nat}{st:af}(h:aq st n=some (as.map aj.int))(hl:as.length<=100000)(ha:∀a∈as,-(2 ^ 64)<a/\a<2 ^ 64):
  ∃g k,PM.d? [.int p,.loc n,.int f] st=.ok (.loc k) (st++g)/\st.length<=k/\(st++g)[k]?=some (.lst ((b! ((as.map (· * f)).map (·.fmod p))).map aj.int)):=by
 have hc:=ip (g:=λaI=>aq aI n=some (as.map aj.int)) (a:=aA 0) (e:=ag b9 bc bT) (st:=st) h (λτ=>∃z,τ=[z,some (.int f)]) (λi=>.int (i*f)) as [none,some (.int f)] [] ⟨_,rfl⟩ (by
  rintro i hi τ ⟨z,rfl⟩;exact⟨_,rfl,⟨_,rfl⟩,by simp![kC (i:=i) (ha i hi).1 (ha i hi).2]⟩)
 rw[Vq,show(as.map λi=>aj.int (i*f))=(as.map (· * f)).map aj.int from by rw[V1];rfl]at hc;have gY:iV 1 [2] [some (aj.int p), some (aj.loc n), qI f]=[none,some (.int f)]:=rfl;have hz:(as.map aj.int).length<=sizeLine:=by rw[aE,Vp];lia
 rw[Vp]at hz;have rr:=d_ hp (st:=st++[.lst ((as.map (· * f)).map aj.int)]) (du st _) (by rw[Vg,Vp];lia);refine⟨[.lst ((as.map (· * f)).map aj.int)]++[.lst ((b! ((as.map (· * f)).map (·.fmod p))).map aj.int)],(st++[aZ.lst ((as.map (· * f)).map aj.int)]).length,?_,by simp only[Vj];lia,?_⟩
 .rw[<-VY];simp![PM.d?,fB,dN,Vp,dG h,gY,hc,Vv hz,rr]
 .rw[<-VY];exact bu _ _
def fK(as:_h):_h:=(gm 1 (as.length-1)).map λk=>k*as.getD k.toNat 0
theorem n!(hp:¬ p=0){n:Nat}{st:af}(h:aq st n=some (as.map aj.int))(hl:as.length<=100000):
  ∃g k,PM.f? [.int p,.loc n] st=.ok (.loc k) (st++g)/\st.length<=k/\(st++g)[k]?=some (.lst ((b! ((fK as).map (·.fmod p))).map aj.int)):=by
 have hrg:=Am (st:=st) (i:=1) (j:=(as.length:Int)) ⋯ ⋯ ⋯ ⋯;rw[show((as.length:Int)-1).toNat=as.length-1 by lia,oG]at hrg;have hc:=ip (g:=λ_=>True) (a:=aA 0) (e:=ag b9 bc (ag bJ bT bc)) (st:=st) trivial (λτ=>∃z,τ=[z,some (.loc n)]) (λi=>.int (i*as.getD i.toNat 0)) (gm 1 (as.length-1)) [none,some (.loc n)] [] ⟨_,rfl⟩ (by
  rintro i hi τ ⟨z,rfl⟩;have hm:=BL hi;exact⟨_,rfl,⟨_,rfl⟩,by simp![dB h (at_getD (ns:=as) (i:=i) ⋯ ⋯),kC (i:=i) ⋯ ⋯]⟩)
 rw[Vq,show((gm 1 (as.length-1)).map λi=>aj.int (i*as.getD i.toNat 0))=(fK as).map aj.int from by unfold fK;rw[V1];rfl]at hc;have kl:=a_ h;rw[aE]at kl;obtain⟨L,hL⟩:=NE ((as.length:Int):Int)
 rw[<-hL]at kl hrg;have gY:iV 1 [1] [some (aj.int p),some (aj.loc n)]=[none,some (.loc n)]:=rfl;have Qy:(fK as).length=as.length-1:=by unfold fK gm;rw[Vg,Vg,VU]
 have hz:((gm 1 (as.length-1)).map aj.int).length<=16777216:=by rw[aE];unfold gm;rw[Vg,VU];lia
 have rr:=d_ hp (st:=st++[.lst ((fK as).map aj.int)]) (du st _) (by rw[Qy,Vp];lia);refine⟨[.lst ((fK as).map aj.int)]++[.lst ((b! ((fK as).map (·.fmod p))).map aj.int)],(st++[aZ.lst ((fK as).map aj.int)]).length,?_,by simp only[Vj];lia,?_⟩
 .rw[<-VY];simp![PM.f?,fB,dN,Vp,kl,hrg,gY,hc,Vv hz,rr]
 .rw[<-VY];exact bu _ _
abbrev Cf:=Nat->Int
def cf(as:_h):Cf:=λk=>as.getD k 0
def iE(h:Cf):Cf
 |0=>0
 |k+1=>h k
def mF:_h->Cf->Cf
 |[],_=>λ_=>0
 |a::as,g=>λk=>a*g k+iE (mF as g) k
theorem cz(k:Nat):cf [] k=0:=by simp[cf]
theorem bO(a:Int)(as:_h)(k:Nat):cf (a::as) (k+1)=cf as k:=by simp[cf]
theorem Ar(f g:Cf)(k:Nat):iE (λj=>f j+g j) k=iE f k+iE g k:=by cases k<;>simp[iE]
theorem E6(c:Int)(f:Cf)(k:Nat):iE (λj=>c*f j) k=c*iE f k:=by cases k<;>simp[iE]
theorem eO{f g:Cf}(h:∀k,f k=g k)(k:Nat):iE f k=iE g k:=by cases k<;>simp[iE,h]
theorem b8{f g:Cf}(h:∀k,f k=g k):∀(as:_h)(k:Nat),mF as f k=mF as g k
 |[],_=>rfl
 |a::as,k=>by unfold mF;rw[h k,eO (b8 h as)]
theorem oK(f g:Cf):∀(as:_h)(k:Nat),mF as (λj=>f j+g j) k=mF as f k+mF as g k
 |[],_=>by simp[mF]
 |a::as,k=>by unfold mF;rw[eO (oK f g as),Ar,Xf];lia
theorem wG(c:Int)(f:Cf):∀(as:_h)(k:Nat),mF as (λj=>c*f j) k=c*mF as f k
 |[],_=>by simp[mF]
 |a::as,k=>by unfold mF;rw[eO (wG c f as),E6,Xf,<-Wj,<-Wj,WY a c]
theorem JD(f:Cf):∀(as:_h)(k:Nat),mF as (iE f) k=iE (mF as f) k
 |[],k=>by cases k<;>simp[mF,iE]
 |a::as,k=>by
  have h:=JD f as;cases k with
  |zero=>simp[mF,iE]
  |succ k=>
   show a*f k+iE (mF as (iE f)) (k+1)=a*f k+iE (mF as f) k;rw[eO h];rfl
theorem nv(g:Cf):∀(as bs:_h)(k:Nat),mF as (mF bs g) k=mF bs (mF as g) k
 |[],bs,k=>by
  have h:∀(bs:_h)(k:Nat),mF bs (λ_=>0) k=0:=λbs=>by
   induction bs with
   |nil=>intro k;rfl
   |cons b bs ih=>
    intro k;unfold mF;rw[eO ih];cases k<;>simp[iE]
  exact(h bs k).symm
 |a::as,bs,k=>by show a*mF bs g k+iE (mF as (mF bs g)) k=mF bs (λk=>a*g k+iE (mF as g) k) k;rw[oK (λk=>a*g k) (iE (mF as g)),wG,JD,eO (nv g as bs)]
def one:Cf:=cf [1]
theorem fL:∀(as:_h)(k:Nat),mF as one k=cf as k
 |[],k=>(cz k).symm
 |a::as,k=>by
  unfold mF;rw[eO (fL as)];cases k with
  |zero=>simp[iE,one,cf]
  |succ k=>rw[bO];simp[iE,one,cf]
theorem dZ(as bs:_h)(k:Nat):mF as (cf bs) k=mF bs (cf as) k:=by rw[<-b8 (fL bs),<-b8 (fL as) bs];exact nv one as bs k
theorem y?(a:Int)(as bs:_h)(k:Nat):∀i,oI (a::as) bs (i+1) k=a*bs.getD k 0+iE (λj=>oI as bs i j) k
 |0=>by show oI (a::as) bs 0 k+(if 0<=k then _ else _)=_;rw[Vv (Wd _)];cases k<;>simp[oI,iE]
 |i+1=>by
  show oI (a::as) bs (i+1) k+(if i+1<=k then(a::as).getD (i+1) 0*bs.getD (k-(i+1)) 0 else 0)=_;rw[y? a as bs k i,Int.add_assoc];congr 1;cases k with
  |zero=>simp[iE]
  |succ k=>
   show oI as bs i k+_=oI as bs i k+(if i<=k then as.getD i 0*bs.getD (k-i) 0 else 0);congr 1;by_cases h:i<=k
   .rw[Vv ⋯,Vv h,show k+1-(i+1)=k-i by lia];simp
   .rw[VG ⋯,VG h]
theorem vq:∀(as bs:_h)(k:Nat),oI as bs as.length k=mF as (cf bs) k
 |[],bs,k=>BO bs k 0
 |a::as,bs,k=>by rw[Vi,y?];show _=a*cf bs k+iE (mF as (cf bs)) k;rw[eO (vq as bs)];rfl
theorem E7:∀(n:Nat)(ns:_h),ns.length=n->∀k,cf (b! ns) k=cf ns k
 |0,ns,h,k=>by rw[Wn h];rfl
 |n+1,ns,h,k=>by
  rcases j8 ns with rfl|⟨ms,x,rfl⟩
  .rfl
  .by_cases hx:x=0
   .subst hx;rw[j7];have hl:ms.length=n:=by simpa using h
    rw[E7 n ms hl];unfold cf;exact(sP ms 1 k).symm
   .rw[iB (by simpa using hx)]
theorem As(ns:_h)(k:Nat):cf (b! ns) k=cf ns k:=E7 _ ns rfl k
theorem dH{k:Nat}(h:ns.length<=k):cf ns k=0:=oJ h
theorem BP(h:Cut ns)(hn:ns≠[]):cf ns (ns.length-1)≠0:=by
 rcases j8 ns with rfl|⟨ms,x,rfl⟩
 .exact absurd rfl hn
 .intro z;have hx:x=0:=by simpa[cf]using z
  subst hx;have h':b! (ms++[0])=ms++[0]:=h;rw[j7]at h';have:=gN ms;rw[h',Vj,VO]at this;lia
theorem j9(h:Cut ns){n:Nat}(hz:∀k,n<=k->cf ns k=0):ns.length<=n:=by
 rcases Wx n ns.length with q|q
 .exfalso;refine BP h (λz=>by rw[z]at q;simp at q) (hz _ ⋯)
 .exact q
theorem Nr(ha:Cut as)(hb:Cut bs)(h:∀k,cf as k=cf bs k):as=bs:=by
 have h1:=j9 ha (n:=bs.length) λk hk=>by rw[h];exact dH hk
 have h2:=j9 hb (n:=as.length) λk hk=>by rw[<-h];exact dH hk
 refine Zz ⋯ λi hi hj=>?_;have:=h i;unfold cf at this;rw[VA,Vk hi,VA,Vk hj]at this;exact this
theorem qg(f:Int->Int)(hf:f 0=0)(ns:_h)(k:Nat):cf (ns.map f) k=f (cf ns k):=by
 unfold cf;rw[VA,Vy,VA];cases ns[k]? with
 |none=>exact hf.symm
 |some v=>rfl
theorem Dy(n:Nat)(f:Nat->Int)(k:Nat):cf ((gm 0 n).map λk=>f k.toNat) k=if k<n then f k else 0:=by
 unfold cf gm;rw[VA,Vy,Vy];by_cases h:k<n
 .rw[Vv h,Wg h];simp
 .rw[VG h,Wa (by rw[VU];lia)];rfl
def aQ(p:Int)(f g:Cf):Prop:=∀k,Cg p (f k) (g k)
theorem aQ.refl(p:Int)(f:Cf):aQ p f f:=λk=>Cg.refl p _
theorem aQ.symm{f g:Cf}(h:aQ p f g):aQ p g f:=λk=>(h k).symm
theorem aQ.trans{f g e:Cf}(h:aQ p f g)(h':aQ p g e):aQ p f e:=λk=>(h k).trans (h' k)
theorem aQ.of_eq{f g:Cf}(h:∀k,f k=g k):aQ p f g:=λk=>by rw[h];exact Cg.refl p _
theorem aQ.add{f g f' g':Cf}(h:aQ p f g)(h':aQ p f' g'):aQ p (λk=>f k+f' k) (λk=>g k+g' k):=λk=>(h k).add (h' k)
theorem aQ.iE{p:Int}{f g:Cf}(h:aQ p f g):aQ p (iE f) (iE g):=λk=>by
 cases k with
 |zero=>exact Cg.refl p _
 |succ k=>exact h k
theorem aQ.mF{p:Int}{f g:Cf}(h:aQ p f g):∀as:_h,aQ p (mF as f) (mF as g)
 |[]=>aQ.refl p _
 |a::as=>λk=>((h k).yb a).add ((h.mF as).iE k)
theorem aQ.mFl{S?:_h}(h:aQ p (cf as) (cf S?))(bs:_h):aQ p (PG.mF as (cf bs)) (PG.mF S? (cf bs)):=
 (aQ.of_eq (dZ as bs)).trans ((h.mF bs).trans (aQ.of_eq (dZ bs S?)))
structure Row(p:Int)(as:_h):Prop where
 cut:Cut as
 HQ:∀a∈as,0<=a/\a<p
theorem Row.nil(p:Int):Row p []:=⟨rfl,λa h=>by simp at h⟩
theorem Row.A?(h:Row p as)(hp:0<p)(k:Nat):0<=cf as k/\cf as k<p:=by
 unfold cf;rw[VA];cases e:as[k]? with
 |none=>exact⟨YZ _,hp⟩
 |some v=>exact h.HQ v (V_ e)
theorem Row.of(hp:0<p)(ns:_h):Row p (b! (ns.map (·.fmod p))):=⟨vp _,Aq (P:=λa=>0<=a/\a<p) λn hn=>by
 obtain⟨m,_,rfl⟩:=VN.mp hn;rw[dY hp];exact⟨W? _ ⋯,WW _ hp⟩⟩
theorem Row.cg(hp:0<p)(ns:_h):aQ p (cf (b! (ns.map (·.fmod p)))) (cf ns):=λk=>by rw[As,qg _ (by rw[dY hp];exact XC p)];exact Cg.mod hp _
theorem Row.ext(hp:0<p)(ha:Row p as)(hb:Row p bs)(h:aQ p (cf as) (cf bs)):as=bs:=Nr ha.cut hb.cut λk=>by have:=Cg.eq hp (h k);rw[fe (ha.A? hp k).1 (ha.A? hp k).2,fe (hb.A? hp k).1 (hb.A? hp k).2]at this;exact this
theorem take_snoc{k:Nat}(h:k<ns.length):ns.take (k+1)=ns.take k++[ns.getD k 0]:=by simp_all
theorem G8{k:Nat}(h:k<=ns.length):Nq ns none (some (k:Int))=ns.take k:=by unfold Nq;rw[HT.vR,HT.zR,List.drop_zero,show min k ns.length-0=k by lia]
abbrev lcT:MT:=yL (gA (ag v! bT cW)) (gA (ag sA (ag bJ bc (ag jr bT cm)) cW))
abbrev lcB:MB:=aK 1 (ag jr bT cm)
theorem wH{n:Nat}{st:af}(h:aq st n=some (ns.map aj.int)):PM.pz [.loc n] st=.ok (.loc st.length) (st++[.lst ((b! ns).map aj.int)]):=by
 obtain⟨μ',aI,e,rfl,k,hk,rfl,hc⟩:=il (t:=lcT) (body:=lcB)
  (λμ s=>s=st/\∃k:Nat,k<=ns.length/\μ=[some (.loc n),some (.int k)]/\b! (ns.take k)=b! ns) (λμ _=>aam μ)
  (λμ s=>s=st/\∃k:Nat,k<=ns.length/\μ=[some (.loc n),some (.int k)]/\ns.take k=b! ns)
  (by
   rintro μ s ⟨rfl,k,hk,rfl,hc⟩;cases k with
   |zero=>
    have z:decide ((0:Int)<((0:Nat):Int))=false:=rfl;refine .inl ⟨s,?_,rfl,0,hk,rfl,?_⟩
    .simp![Jq,z]
    .rw[List.take_zero]at hc⊢;exact hc
   |succ k=>
    have z:decide ((0:Int)<((k+1:Nat):Int))=true:=V8 ⋯;have hx:=dB (i:=((k+1:Nat):Int)-1) h (iN (R:=ns) (k:=k) ⋯ ⋯);rw[take_snoc ⋯]at hc;have HI:lcT [some (.loc n),some (.int ((k+1:Nat):Int))] s=.ok (ns.getD k 0==0) s:=by simp![BH,z,hx]
    cases hz:ns.getD k 0==0 with
    |true=>
     rw[hz]at HI;have:ns.getD k 0=0:=by simpa using hz
     rw[this,j7]at hc;refine .inr ⟨s,[some (.loc n),some (.int (k:Int))],s,HI,.inl ?_,⟨rfl,k,⋯,rfl,hc⟩,?_⟩
     .simp only[ar,aG,aB,aL,aC,bV,bN,bh,g9,aP,aJ,Vn,Vo];rw[show((k+1:Nat):Int)-1=(k:Int) by lia]
     .show((k:Int)).toNat<(((k+1:Nat):Int)).toNat;lia
    |false=>
     rw[hz]at HI;rw[iB hz]at hc;exact .inl ⟨s,HI,rfl,k+1,hk,rfl,by rw[take_snoc ⋯];exact hc⟩)
  [some (.loc n),some (.int ns.length)] st ⟨rfl,ns.length,Vt _,rfl,by rw[List.take_length]⟩
 have sl:=wy (l:=none) (h:=some (k:Int)) h;rw[G7,G8 hk,hc]at sl;simp![PM.pz,a_ h,aE,e,sl]
def Sm(ns:_h):Prop:=∀n∈ns,-(2 ^ 64)<n/\n<2 ^ 64
theorem yc(hp:dD p=true)(c:Int){z:Int}(z0:0<=z)(z1:z<=1000)(st:af):
  ∃g k D,PM.l? [.int p,.int c,.int z] st=.ok (.loc k) (st++g)/\st.length<=k/\(st++g)[k]?=some (.lst (D.map aj.int))/\D.length<=z.toNat/\(∀d∈D,0<=d/\d<p)/\Cut D:=by
 have hr:=au hp;have hrg:=vk (st:=st++[.lst []]) (j:=z) ⋯ ⋯;obtain⟨μ',aI,e,R,rfl,⟨y4,y5,rfl⟩,hR,hb⟩:=dX (g:=λ_=>True) (a:=aA 4) (body:=az (aK 5 (ag gq (ag dA bT (ag b9 (mC (.int 7919)) fY)) fZ)) (az (aK 5 (ag gq (ag b9 (ag gq (ag b9 iU iU) (mC (.int 2147483629))) (mC (.int 48271))) fZ)) (e_ (iW dC d! (aa (ag gq (ag qT iU (ag dA cm fY)) bc) ai)))))
  (λi μ s'=>∃R:_h,s'=st++[.lst (R.map aj.int)]/\(∃x4 x5,μ=[qI p, qI c, qI z, qL st.length, x4, x5])/\R.length=i/\∀d∈R,0<=d/\d<p)
  (cO 0 z.toNat) 0 [qI p, qI c, qI z, qL st.length, qn, qn] (st++[.lst []])
  (by
   rintro i u μ s' hu ⟨R,rfl,⟨x4,x5,rfl⟩,hR,hb⟩;rw[VZ]at hR⊢;refine⟨trivial,?_⟩;rw[oG]at hu;obtain⟨k,hk,rfl⟩:=VN.mp (V_ hu);have hm:=BL hk;have hi:i<z.toNat:=by have:=aU hu;rw[Vg]at this;unfold gm at this;rw[Vg,VU]at this;exact this
   have dk:Dz (1+k):=aal ⋯ ⋯;have q1:=p8 (m:=2147483647) ⋯ (c+7919*k);generalize hx:(c+7919*k).fmod 2147483647=x at q1;have q2:=p8 (m:=2147483629) ⋯ (x*x);generalize hy:((x*x).fmod 2147483629*48271).fmod 2147483647=y;have q3:=p8 (m:=p) ⋯ (y.fdiv (1+k));have ap:=gM (v:=.int ((y.fdiv (1+k)).fmod p)) (bu st (R.map aj.int)) (by rw[aE,Vp];lia);rw[q!,show R.map aj.int++[.int ((y.fdiv (1+k)).fmod p)]=(R++[(y.fdiv (1+k)).fmod p]).map aj.int from by simp]at ap;refine⟨[some (.int p),some (.int c),some (.int z),some (.loc st.length),some (.int k),x5],rfl,[qI p, qI c, qI z, qL st.length, qI k, qI y],st++[.lst ((R++[(y.fdiv (1+k)).fmod p]).map aj.int)],.inl ?_,R++[(y.fdiv (1+k)).fmod p],rfl,⟨_,_,rfl⟩,by rw[Vj,hR];rfl,λd hd=>?_⟩
   .simp![kC (i:=7919) ⋯ ⋯,gb (j:=2147483647) ⋯,hx,kC (i:=x) ⋯ ⋯,gb (j:=2147483629) ⋯,mul_r (j:=48271) ⋯ ⋯,hy,mI (bu st (R.map aj.int)),div_ii dk,gb (iK hp),ap]
   .rcases VF.mp hd with hd|hd
    .exact hb d hd
    .rw[Vz.mp hd];exact q3)
  (λ_ _ _=>trivial) ⟨[],rfl,⟨_,_,rfl⟩,rfl,λd hd=>by cases hd⟩
 have lc:=wH (ax (bu st (R.map aj.int)));have hR':R.length<=z.toNat:=by rw[hR];unfold cO;rw[Vg,VU];lia
 refine⟨[.lst (R.map aj.int)]++[.lst ((b! R).map aj.int)],(st++[aZ.lst (R.map aj.int)]).length,b! R,?_,by simp only[Vj];lia,by rw[<-VY];exact bu _ _,V! (gN R) hR',Aq hb,vp R⟩;rw[<-VY];simp![PM.l?,iY,gv,Vp,hrg,e,lc]
theorem gO{g:af->Prop}{a:AS}{e:ME}{τ τ1:MN.Env}{st st1:af}{ys:List aj}(hg:g st)(h1:a u τ=some τ1)(h2:e τ1 st=.ok y st1):dS g a bj e (u::us) τ st ys=dS g a bj e us τ1 st1 (ys++[y]):=by rw[dS];rw[Vv hg,h1];dsimp only[bj];rw[h2]
theorem jb{g:af->Prop}{a:AS}{c:MT}{e:ME}{τ:MN.Env}{st:af}{ys:List aj}(hg:g st):dS g a c e [] τ st ys=.ok ys st:=by rw[dS,Vv hg]
abbrev ay(R:_h):aZ:=.lst (R.map aj.int)
def sQ(s:af)(ls:List Nat)(Rs:List (_h)):Prop:=ls.length=Rs.length/\∀(i l:Nat)(R:_h),ls[i]?=some l->Rs[i]?=some R->s[l]?=some (ay R)
def Fr(st s:af):Prop:=∀(m:Nat)(c:aZ),st[m]?=some c->s[m]?=some c
theorem Fr.refl(st:af):Fr st st:=λ_ _ h=>h
theorem Fr.trans{a b c:af}(h:Fr a b)(h':Fr b c):Fr a c:=λm k q=>h' m k (h m k q)
theorem Fr.app(st g:af):Fr st (st++g):=λ_ _ h=>c! h g
theorem Fr.more{a b:af}(h:Fr a b)(g:af):Fr a (b++g):=h.trans (Fr.app b g)
theorem Fr.set{a b:af}(h:Fr a b){L:Nat}(hL:a.length<=L)(c:aZ):Fr a (b.set L c):=λm k q=>e? (h m k q) (by have:=aU q;lia)
theorem Fr.it{a b:af}(h:Fr a b){n:Nat}(hi:aq a n=some us):aq b n=some us:=by
 unfold aq at hi⊢;cases z:a[n]? with
 |none=>rw[z]at hi;cases hi
 |some c=>rw[z]at hi;rw[h n c z];exact hi
theorem Fr.len{a b:af}(h:Fr a b):a.length<=b.length:=by
 rcases YD a.length with z|z
 .lia
 .have:=aU (h (a.length-1) _ (Vk ⋯));lia
open Classical in
def Nt(p n:Int):Int:=if h:∃t:Int,0<t/\t<p/\(t*n) % p=1 then h.choose else 0
theorem JE{n t u:Int}(hp:0<p)(h1:0<t/\t<p/\(t*n) % p=1)(h2:0<u/\u<p/\(u*n) % p=1):t=u:=by
 obtain⟨a1,a2,a3⟩:=h1;obtain⟨b1,b2,b3⟩:=h2;have c1:Cg p (t*n) 1:=⟨t*n / p,by have:=Wb (t*n) p;lia⟩
 have c2:Cg p (u*n) 1:=⟨u*n / p,by have:=Wb (u*n) p;lia⟩
 have c3:Cg p t u:=by
  have e1:Cg p (t*(u*n)) (t*1):=c2.yb t;have e2:Cg p (u*(t*n)) (u*1):=c1.yb u;have e3:t*(u*n)=u*(t*n):=by rw[<-Wj,<-Wj,WY t u]
  rw[e3,Xa]at e1;rw[Xa]at e2;exact e1.symm.trans e2
 have:=Cg.eq hp c3;rwa [fe ⋯ a2,fe ⋯ b2]at this
theorem E8{n t:Int}(hp:0<p)(h:0<t/\t<p/\(t*n) % p=1):Nt p n=t:=by unfold Nt;rw[dif_pos ⟨t,h⟩];exact JE hp (Exists.choose_spec (p:=λt:Int=>0<t/\t<p/\(t*n) % p=1) ⟨t,h⟩) h
def aM(bs:_h):Int:=bs.getD (bs.length-1) 0
def p_(bs:_h)(s:Nat)(o:Int)(R:_h):_h:=(gm 0 R.length).map λk=>R.getD k.toNat 0-(if s<=k.toNat then o*bs.getD (k.toNat-s) 0 else 0)
def dv(p c:Int)(as bs:_h)(steps:Nat):Nat->List Int×List Int
 |0=>(List.replicate steps 0,as)
 |i+1=>((dv p c as bs steps i).1.set (steps-1-i) (((dv p c as bs steps i).2.getD (steps-1-i+bs.length-1) 0*c).fmod p),p_ bs (steps-1-i) (((dv p c as bs steps i).2.getD (steps-1-i+bs.length-1) 0*c).fmod p) (dv p c as bs steps i).2)
theorem zd(bs:_h)(s:Nat)(o:Int)(R:_h):(p_ bs s o R).length=R.length:=by unfold p_ gm;rw[Vg,Vg,VU]
theorem JF(bs:_h)(s:Nat)(o:Int)(R:_h)(k:Nat):cf (p_ bs s o R) k=if k<R.length then cf R k-(if s<=k then o*cf bs (k-s)else 0)else 0:=by unfold p_;rw[Dy R.length (λk=>R.getD k 0-(if s<=k then o*bs.getD (k-s) 0 else 0))];rfl
theorem ny(p c:Int)(as bs:_h)(steps:Nat):∀i,(dv p c as bs steps i).1.length=steps/\(dv p c as bs steps i).2.length=as.length
 |0=>⟨V0,rfl⟩
 |i+1=>by have h:=ny p c as bs steps i;unfold dv;exact⟨by rw[Ws];exact h.1,by rw[zd];exact h.2⟩
theorem JG:∀(Q:_h)(s:Nat)(o:Int)(g:Cf)(k:Nat),s<Q.length->cf Q s=0->mF (Q.set s o) g k=mF Q g k+(if s<=k then o*g (k-s)else 0)
 |[],s,_,_,_,h,_=>by simp at h
 |q::Q,0,o,g,k,_,h0=>by have:q=0:=h0;subst this;rw[Vn,Vv (Wd _)];show o*g k+iE (mF Q g) k=0*g k+iE (mF Q g) k+o*g (k-0);rw[Wy,Zr];lia
 |q::Q,s+1,o,g,k,h,h0=>by
  rw[Vo];show q*g k+iE (mF (Q.set s o) g) k=q*g k+iE (mF Q g) k+_;rw[bO]at h0;have ih:=JG Q s o g;cases k with
  |zero=>rw[VG ⋯];simp[iE]
  |succ k=>
   show q*g (k+1)+mF (Q.set s o) g k=q*g (k+1)+mF Q g k+_;rw[ih k (by simpa using h) h0];by_cases z:s<=k
   .rw[Vv z,Vv ⋯,show k+1-(s+1)=k-s by lia];lia
   .rw[VG z,VG ⋯];lia
theorem BQ(g:Cf):∀(n k:Nat),mF (List.replicate n 0) g k=0
 |0,_=>rfl
 |n+1,k=>by rw[VH];unfold mF;rw[eO (BQ g n)];cases k<;>simp[iE]
theorem rm(n k:Nat):cf (List.replicate n 0) k=0:=by unfold cf;rw[VA,W8];split<;>rfl
theorem Au{Q:_h}{s:Nat}(h:s<Q.length)(o:Int)(k:Nat):cf (Q.set s o) k=if k=s then o else cf Q k:=wD h k
structure abS(p:Int)(as bs:_h)(steps i:Nat)(Q R:_h):Prop where
 RL:Q.length=steps
 RM:R.length=as.length
 zero:∀s,s<steps-i->cf Q s=0
 HQ:∀s,0<=cf Q s/\cf Q s<p
 eq:∀k,cf as k=mF Q (cf bs) k+cf R k
 gone:∀k,steps-i+bs.length-1<=k->Cg p (cf R k) 0
theorem OP{p c:Int}(hp:0<p){as bs:_h}(hb:bs≠[])(hc:(c*aM bs) % p=1){steps:Nat}(hs:steps=as.length+1-bs.length):∀i,i<=steps->abS p as bs steps i (dv p c as bs steps i).1 (dv p c as bs steps i).2
 |0,_=>⟨V0,rfl,λs _=>rm _ _,λs=>by show 0<=cf (List.replicate steps 0) s/\_;rw[show(dv p c as bs steps 0).1=List.replicate steps 0 from rfl,rm];exact⟨YZ _,hp⟩,λk=>by
   rw[show(dv p c as bs steps 0).1=List.replicate steps 0 from rfl,BQ,W5];rfl,λk hk=>by
   have RK:0<bs.length:=VC.mpr hb;rw[show(dv p c as bs steps 0).2=as from rfl,dH ⋯];exact Cg.refl p _⟩
 |i+1,hi=>by
  have ih:=OP hp hb hc hs i ⋯;obtain⟨Q,hQ⟩:=ZB ((dv p c as bs steps i).1)
  obtain⟨R,hR⟩:=ZB ((dv p c as bs steps i).2)
  obtain⟨o,ho⟩:=ZB ((R.getD (steps-1-i+bs.length-1) 0*c).fmod p)
  obtain⟨s,Ta⟩:=ZB (steps-1-i)
  rw[hQ,hR]at ih;have e1:(dv p c as bs steps (i+1)).1=Q.set s o:=by unfold dv;rw[hQ,hR,ho,Ta]
  have e2:(dv p c as bs steps (i+1)).2=p_ bs s o R:=by unfold dv;rw[hR,ho,Ta]
  rw[e1,e2];have RK:0<bs.length:=VC.mpr hb;have Qy:s<Q.length:=by rw[ih.RL];lia
  have ho1:0<=o/\o<p:=by rw[<-ho,dY hp];exact⟨W? _ ⋯,WW _ hp⟩
  have abT:∀k,as.length<=k->cf R k=0:=λk hk=>dH (by rw[ih.RM];exact hk);have Rcf:∀k,cf (p_ bs s o R) k=cf R k-(if s<=k then o*cf bs (k-s)else 0):=λk=>by
   rw[JF];split
   .rfl
   .rename_i q;rw[ih.RM]at q;rw[abT k ⋯];split
    .rw[dH ⋯];simp
    .rfl
  refine⟨by rw[Ws];exact ih.RL,by rw[zd];exact ih.RM,λt ht=>?_,λt=>?_,λk=>?_,λk hk=>?_⟩
  .rw[Au Qy,VG ⋯];exact ih.zero t ⋯
  .rw[Au Qy];split
   .exact ho1
   .exact ih.HQ t
  .rw[JG Q s o (cf bs) k Qy (ih.zero s ⋯),Rcf,ih.eq k];lia
  .rw[Rcf];by_cases hk2:k=s+bs.length-1
   .subst hk2;rw[Vv ⋯,show s+bs.length-1-s=bs.length-1 by lia];have co:Cg p o (cf R (s+bs.length-1)*c):=by rw[<-ho,Ta];exact Cg.mod hp _
    have cl:Cg p (c*aM bs) 1:=⟨c*aM bs / p,by have:=Wb (c*aM bs) p;lia⟩
    have c1:Cg p (o*cf bs (bs.length-1)) (cf R (s+bs.length-1)):=by have z:=(co.BM (aM bs)).trans (by rw[Wj];exact cl.yb (cf R (s+bs.length-1)));rw[Xa]at z;exact z
    have c2:=(Cg.refl p (cf R (s+bs.length-1))).add c1.neg;rw[show cf R (s+bs.length-1) + -cf R (s+bs.length-1)=0 by lia]at c2;rw[show cf R (s+bs.length-1)-o*cf bs (bs.length-1)=cf R (s+bs.length-1) + -(o*cf bs (bs.length-1)) by lia];exact c2
   .rw[show(if s<=k then o*cf bs (k-s)else 0)=0 from by rw[Vv ⋯,dH ⋯,Wi],YN];exact ih.gone k ⋯
def bU(p:Int)(as bs:_h):_h:=b! ((dv p (Nt p (aM bs)) as bs (as.length+1-bs.length) (as.length+1-bs.length)).1.map (·.fmod p))
def iF(p:Int)(as bs:_h):_h:=b! ((dv p (Nt p (aM bs)) as bs (as.length+1-bs.length) (as.length+1-bs.length)).2.map (·.fmod p))
theorem fM(hp:dD p=true)(hb:bs≠[])(hl:¬ aM bs % p=0):
  Row p (bU p as bs)/\Row p (iF p as bs)/\(iF p as bs).length<bs.length/\aQ p (cf as) (λk=>mF (bU p as bs) (cf bs) k+cf (iF p as bs) k)/\(bU p as bs).length<=as.length+1-bs.length:=by
 have hr:=au hp;have dz:0<p:=⋯
 obtain⟨g,t,_,h1,h2,h3⟩:=gf hp hl [];have ei:=E8 dz ⟨h1,h2,h3⟩;have D:=OP (c:=t) dz (as:=as) hb h3 (steps:=as.length+1-bs.length) rfl (as.length+1-bs.length) (Vt _);unfold bU iF;rw[ei];revert D;generalize (dv p t as bs (as.length+1-bs.length) (as.length+1-bs.length)).1=Q;generalize (dv p t as bs (as.length+1-bs.length) (as.length+1-bs.length)).2=R;intro D;have RK:0<bs.length:=VC.mpr hb;refine⟨Row.of dz Q,Row.of dz R,?_,?_,?_⟩
 .have:=j9 (vp (R.map (·.fmod p))) (n:=bs.length-1) λk hk=>by rw[As,qg _ (by rw[dY dz];exact XC p)];have z:=Cg.eq dz (D.gone k ⋯);rw[z,dY dz];exact XC p
  lia
 .refine(aQ.of_eq D.eq).trans (aQ.add ?_ ?_)
  .exact(aQ.mFl (Row.cg dz Q) bs).symm
  .exact(Row.cg dz R).symm
 .refine V! (gN _) ?_;rw[Vg,D.RL];exact Vt _
theorem rp(hb:bs≠[]):L2.oy (bs.map aj.int) (-1)=some (.int (aM bs)):=by have RK:0<bs.length:=VC.mpr hb;unfold L2.oy L2.Bo;rw[aE,VG ⋯,Vv ⋯,Option.bind_some,show(-1+(bs.length:Int)).toNat=bs.length-1 by lia,Vy,Vk ⋯];unfold aM;rw[VA,Vk ⋯];rfl
def Ba(a b:Nat)(st s:af):Prop:=st.length=s.length/\∀(m:Nat)(c:aZ),m≠a->m≠b->st[m]?=some c->s[m]?=some c
theorem Ba.refl(a b:Nat)(st:af):Ba a b st st:=⟨rfl,λ_ _ _ _ h=>h⟩
theorem Ba.trans{a b:Nat}{x y z:af}(h:Ba a b x y)(h':Ba a b y z):Ba a b x z:=⟨h.1.trans h'.1,λm c h1 h2 h3=>h'.2 m c h1 h2 (h.2 m c h1 h2 h3)⟩
theorem Ba.abU{a b:Nat}{x y:af}(h:Ba a b x y)(c:aZ):Ba a b x (y.set a c):=⟨by rw[Ws];exact h.1,λm k h1 h2 h3=>e? (h.2 m k h1 h2 h3) (λz=>h1 z.symm)⟩
theorem Ba.abV{a b:Nat}{x y:af}(h:Ba a b x y)(c:aZ):Ba a b x (y.set b c):=⟨by rw[Ws];exact h.1,λm k h1 h2 h3=>e? (h.2 m k h1 h2 h3) (λz=>h2 z.symm)⟩
abbrev RN:MB:=yW M6 d! (ag dA qc A_) (ag b9 GF (jA 10))
theorem DA{L K:Nat}{s:Nat}{o:Int}{st:af}{x10:Option aj}(lm:st[m]?=some (ay bs))(lL:st[L]?=some (ay R0))(hmL:m≠L)(Tb:m≠K)(hLK:L≠K)(ho:-(2 ^ 64)<o/\o<2 ^ 64)(hl:s+bs.length<=R0.length):
  ∃(aI:af)(y9 G9:Option aj),forL (λcJ=>aq cJ m=some (bs.map aj.int)) (js [aA 9,aA 10]) RN (ky 0 (bs.map aj.int)) [x0, x1, qL m, qL L, x4, x5, x6, qI s, qI o, x9, x10] st
   = .nx [x0, x1, qL m, qL L, x4, x5, x6, qI s, qI o, y9, G9] aI/\aI[L]?=some (ay (p_ bs s o R0))/\Ba L K st aI/\∀c,st[K]?=some c->aI[K]?=some c:=by
 obtain⟨μ',aI,e,R,lR,⟨y9,G9,rfl⟩,hR,hv,hF,hK⟩:=dX (g:=λcJ=>aq cJ m=some (bs.map aj.int)) (a:=js [aA 9,aA 10]) (body:=RN)
  (λj μ s'=>∃R:_h,s'[L]?=some (ay R)/\(∃x9 x10,μ=[x0, x1, qL m, qL L, x4, x5, x6, qI s, qI o, x9, x10])/\R.length=R0.length/\(∀k,R.getD k 0=R0.getD k 0-(if s<=k/\k<s+j then o*bs.getD (k-s) 0 else 0))/\Ba L K st s'/\∀c,st[K]?=some c->s'[K]?=some c)
  (ky 0 (bs.map aj.int)) 0 [x0, x1, qL m, qL L, x4, x5, x6, qI s, qI o, x9, x10] st
  (by
   rintro j u μ s' hu ⟨R,lR,⟨x9,x10,rfl⟩,hR,hv,hF,hK⟩;rw[VZ]at hv⊢;refine⟨ax (hF.2 m _ hmL Tb lm),?_⟩;obtain⟨w,hw,rfl⟩:=l_ _ 0 j u hu;rw[VZ];have hj:j<bs.length:=by have:=aU hw;rw[aE]at this;exact this
   have ew:w=.int (bs.getD j 0):=by rw[Vy,Vk hj]at hw;rw[<-VP hw,VA,Vk hj];rfl
   subst ew;have hk:s+j<R.length:=⋯
   have gx:=Jx (ax lR) (iN (R:=R) (i:=(s:Int)+(j:Int)) (k:=s+j) ⋯ hk);have sx:=q9 (v:=.int (R.getD (s+j) 0-o*bs.getD j 0)) (k:=(s:Int)+(j:Int)) (j:=s+j) lR (by rw[aE];have:=rj hk;rw[show(s:Int)+(j:Int)=((s+j:Nat):Int) by lia];exact this);rw[<-ZJ]at sx;refine⟨[x0,x1,some (.loc m),some (.loc L),x4,x5,x6,some (.int s),some (.int o),some (.int j),some (.int (bs.getD j 0))],rfl,[x0, x1, qL m, qL L, x4, x5, x6, qI s, qI o, qI j, qI (bs.getD j 0)],s'.set L (ay (R.set (s+j) (R.getD (s+j) 0-o*bs.getD j 0))),.inl ?_,R.set (s+j) (R.getD (s+j) 0-o*bs.getD j 0),gz lR,⟨_,_,rfl⟩,by rw[Ws];exact hR,λk=>?_,hF.abU _,λc hc=>e? (hK c hc) hLK⟩
   .simp![aag,OI,OJ,OK,OL,RE,gx,kC (i:=o) ho.1 ho.2,sx]
   .rw[wD hk];by_cases OO:k=s+j
    .subst OO;rw[Vv rfl,hv,VG ⋯,Vv ⋯,show s+j-s=j by lia];lia
    .rw[VG OO,hv];congr 1;by_cases h1:s<=k/\k<s+j
     .rw[Vv h1,Vv ⋯]
     .rw[VG h1,VG ⋯])
  (λμ s'⟨R,_,_,_,_,hF,_⟩=>ax (hF.2 m _ hmL Tb lm))
  ⟨R0,lL,⟨_,_,rfl⟩,rfl,λk=>by rw[VG ⋯,YN],Ba.refl _ _ _,λ_ h=>h⟩
 refine⟨aI,y9,G9,e,?_,hF,hK⟩;have:R=p_ bs s o R0:=by
  rw[E5 (f:=λk=>R0.getD k 0-(if s<=k then o*bs.getD (k-s) 0 else 0)) hR λk hk=>?_]
  .rfl
  .rw[hv,VZ,l!,aE];congr 1;by_cases h1:s<=k
   .by_cases h2:k<s+bs.length
    .rw[Vv ⟨h1,h2⟩,Vv h1]
    .rw[VG ⋯,Vv h1,oJ ⋯,Wi]
   .rw[VG ⋯,VG h1]
 rw[<-this];exact lR
abbrev OQ:MB:=az (aK 8 (ag gq (ag b9 (ag bJ d! (ag jr (ag dA qc (ao bD (aa d6 ai))) cm)) fY) bc)) (az (p5 jU qc GF) (ic (kY (aa d6 ai)) (js [(aA 9),(aA 10)]) RN))
theorem JH{n i:Nat}(h:(n_ hi n)[i]?=some u):i<n/\u=.int (hi-(i:Int)):=by unfold n_ at h;have Bw:=aU h;rw[Vg,VU]at Bw;rw[Vy,Wg Bw]at h;exact⟨Bw,(VP h).symm⟩
theorem G_(hi:Int)(n:Nat):(n_ hi n).length=n:=by unfold n_;rw[Vg,VU]
theorem DB{c:Int}(hp:dD p=true)(hc:0<c/\c<p){n L K:Nat}{st:af}{steps:Nat}(hs:steps=as.length+1-bs.length)(hb:bs≠[])(lm:st[m]?=some (ay bs))(lL:st[L]?=some (ay as))(lK:st[K]?=some (ay (List.replicate steps 0)))(hmL:m≠L)(Tb:m≠K)(hLK:L≠K)(t_:as.length<=100000)(uD:bs.length<=100000):
  ∃(aI:af)(y7 y8 y9 G9:Option aj),forL (λ_=>True) (aA 7) OQ (n_ ((steps:Int)-1) steps) [qI p, qL n, qL m, qL L, qI c, x5, qL K, qn, qn, qn, qn] st
   = .nx [qI p, qL n, qL m, qL L, qI c, x5, qL K, y7, y8, y9, G9] aI/\Ba L K st aI/\aI[K]?=some (ay (dv p c as bs steps steps).1)/\aI[L]?=some (ay (dv p c as bs steps steps).2):=by
 have hr:=au hp;have hz:=iK hp;have RK:0<bs.length:=VC.mpr hb;obtain⟨μ',aI,e,⟨y7,y8,y9,G9,rfl⟩,hF,h1,h2⟩:=dX (g:=λ_=>True) (a:=aA 7) (body:=OQ)
  (λi μ s'=>(∃y7 y8 y9 G9,μ=[qI p, qL n, qL m, qL L, qI c, x5, qL K, y7, y8, y9, G9])/\Ba L K st s'/\s'[K]?=some (ay (dv p c as bs steps i).1)/\s'[L]?=some (ay (dv p c as bs steps i).2))
  (n_ ((steps:Int)-1) steps) 0 [qI p, qL n, qL m, qL L, qI c, x5, qL K, qn, qn, qn, qn] st
  (by
   rintro i u μ s' hu ⟨⟨y7,y8,y9,G9,rfl⟩,hF,lQ,lR⟩;rw[VZ]at lQ lR⊢;obtain⟨hi,rfl⟩:=JH hu;refine⟨trivial,?_⟩;obtain⟨lq,lr⟩:=ny p c as bs steps i;obtain⟨Q,hQ⟩:=ZB ((dv p c as bs steps i).1)
   obtain⟨R,hR⟩:=ZB ((dv p c as bs steps i).2)
   obtain⟨s,Ta⟩:=ZB (steps-1-i)
   obtain⟨o,ho⟩:=ZB ((R.getD (s+bs.length-1) 0*c).fmod p)
   have e1:(dv p c as bs steps (i+1)).1=Q.set s o:=by unfold dv;rw[hQ,hR,Ta,ho]
   have e2:(dv p c as bs steps (i+1)).2=p_ bs s o R:=by unfold dv;rw[hR,Ta,ho]
   rw[hQ]at lQ lq;rw[hR]at lR lr;rw[e1,e2];have es:(steps:Int)-1-(i:Int)=(s:Int):=⋯
   rw[es];have ho1:0<=o/\o<p:=by rw[<-ho,dY ⋯];exact⟨W? _ ⋯,WW _ ⋯⟩
   have lm':=hF.2 m _ hmL Tb lm;obtain⟨LB,hLB⟩:=NE ((bs.length:Int):Int)
   have kl:bD [.loc m] s'=.ok (.int LB) s':=by rw[a_ (ax lm'),aE,hLB]
   have gx:=dB (ax lR) (iN (R:=R) (i:=(s:Int)+LB-1) (k:=s+bs.length-1) ⋯ ⋯);have sx:=q9 (v:=.int o) (k:=(s:Int)) (j:=s) lQ (by rw[aE];exact rj ⋯);rw[<-ZJ]at sx;have lm2:(s'.set K (ay (Q.set s o)))[m]?=some (ay bs):=e? lm' (λz=>Tb z.symm);have lR2:(s'.set K (ay (Q.set s o)))[L]?=some (ay R):=e? lR (λz=>hLK z.symm);have lQ2:(s'.set K (ay (Q.set s o)))[K]?=some (ay (Q.set s o)):=gz lQ;obtain⟨cJ,z9,z10,e3,lR3,hF3,hK3⟩:=DA (m:=m) (L:=L) (K:=K) (bs:=bs) (R0:=R) (s:=s) (o:=o) (x0:=some (.int p)) (x1:=some (.loc n)) (x4:=some (.int c)) (x5:=x5) (x6:=some (.loc K)) (x9:=y9) (x10:=G9) lm2 lR2 hmL Tb hLK ⋯ ⋯;refine⟨[some (.int p),some (.loc n),some (.loc m),some (.loc L),some (.int c),x5,some (.loc K),some (.int s),y8,y9,G9],rfl,[qI p, qL n, qL m, qL L, qI c, x5, qL K, qI s, qI o, z9, z10],cJ,.inl ?_,⟨_,_,_,_,rfl⟩,(hF.abV _).trans hF3,hK3 _ lQ2,lR3⟩;have en:=wz (ax lm2);simp![iY,gv,q_,kl,gx,mul_r (j:=c) ⋯ ⋯,gb hz,ho,sx,en,e3])
  (λ_ _ _=>trivial)
  ⟨⟨_,_,_,_,rfl⟩,Ba.refl _ _ _,lK,lL⟩
 rw[VZ,G_]at h1 h2;exact⟨aI,y7,y8,y9,G9,e,hF,h1,h2⟩
theorem gQ(hp:dD p=true){n:Nat}{st:af}(h1:aq st n=some (as.map aj.int))(lm:st[m]?=some (ay bs))(hb:bs≠[])(hl:¬ aM bs % p=0)(t_:as.length<=100000)(uD:bs.length<=100000):
  ∃aI k1 k2,PM.parted [.int p,.loc n,.loc m] st=.ok (.tup [.loc k1,.loc k2]) aI/\Fr st aI/\st.length<=k1/\st.length<=k2/\k1≠k2/\aI[k1]?=some (ay (bU p as bs))/\aI[k2]?=some (ay (iF p as bs)):=by
 have hr:=au hp;have hz:=iK hp;have dz:0<p:=⋯
 have RK:0<bs.length:=VC.mpr hb;have c1:=pB h1;have hm:=aU lm;obtain⟨g,t,ei,t1,t2,t3⟩:=gf hp hl (st++[ay as]);have et:=E8 dz ⟨t1,t2,t3⟩;have lm1:=c! lm [ay as];have gx:=dB (ax lm1) (rp hb);have F2:Fr st (st++[ay as]++g):=(Fr.app st _).more g;have lL2:=c! (bu st (as.map aj.int)) g;have F2l:=F2.len;have h2l:st.length<(st++[ay as]++g).length:=by rw[Vj,Vj];simp;lia
 obtain⟨s2,su⟩:=ZB (st++[ay as]++g)
 rw[su]at ei F2 lL2 F2l h2l;obtain⟨LA,hLA⟩:=NE ((as.length:Int):Int)
 obtain⟨LB,hLB⟩:=NE ((bs.length:Int):Int)
 have k1:bD [.loc n] s2=.ok (.int LA) s2:=by rw[a_ (F2.it h1),aE,hLA]
 have k2:bD [.loc m] s2=.ok (.int LB) s2:=by rw[a_ (ax (F2 _ _ lm)),aE,hLB]
 obtain⟨steps,yx⟩:=NE (as.length+1-bs.length)
 have emx:(if LA-LB+1>0 then LA-LB+1 else 0)=(steps:Int):=by split<;>lia
 obtain⟨S,hS⟩:=NE ((steps:Int):Int)
 rw[<-hS]at emx;have m1:=qe (st:=s2++[aZ.lst [.int 0]]) (n:=s2.length) (us:=[.int 0]) (k:=S) (bu _ _) ⋯ ⋯ (by rw[Vp];simp;lia);rw[y_,show S.toNat=steps by lia]at m1;have F3:Fr s2 (s2++[aZ.lst [.int 0]]++[ay (List.replicate steps 0)]):=(Fr.app s2 _).more _;have lK3:=bu (s2++[aZ.lst [.int 0]]) ((List.replicate steps 0).map aj.int);have hKl:s2.length<(s2++[aZ.lst [.int 0]]).length:=by rw[Vj];simp
 obtain⟨K,hK⟩:=ZB ((s2++[aZ.lst [.int 0]]).length)
 have F3':=F2.trans F3;have lm3:=F3' _ _ lm;have lL3:=F3 _ _ lL2;rw[hK]at m1 lK3 hKl;obtain⟨s3,JI⟩:=ZB (s2++[aZ.lst [.int 0]]++[ay (List.replicate steps 0)])
 have m1':b9 (.loc s2.length) (.int S) (s2++[aZ.lst [.int 0]])=.ok (.loc K) s3:=by rw[<-JI];exact m1
 rw[JI]at F3 F3' lK3 lm3 lL3;obtain⟨s4,y7,y8,y9,G9,el,hF4,lQ,lR⟩:=DB (n:=n) (x5:=some (.int S)) hp ⟨t1,t2⟩ yx hb lm3 lL3 lK3 ⋯ ⋯ ⋯ t_ uD;have dw:=RI (st:=s3) (j:=S-1) (k:=-1) ⋯ ⋯ ⋯ ⋯;rw[show(S-1 - -1).toNat=steps by lia]at dw;rw[<-hS]at el;obtain⟨lq,lr⟩:=ny p t as bs steps steps;have r1:=d_ hz (ax lQ) (by rw[lq,Vp];lia);have r2:=d_ hz (ax (c! lR [aZ.lst ((b! ((dv p t as bs steps steps).1.map (·.fmod p))).map aj.int)])) (by rw[lr,Vp];lia);have hs4:s2.length<=s4.length:=by rw[<-hF4.1];exact F3.len
 refine⟨s4++[ay (bU p as bs)]++[ay (iF p as bs)],s4.length,(s4++[aZ.lst ((b! ((dv p t as bs steps steps).1.map (·.fmod p))).map aj.int)]).length,?_,?_,⋯,by rw[Vj];lia,by rw[Vj];simp,?_,?_⟩
 .unfold bU iF;rw[et,<-yx];simp![PM.parted,iY,gv,Vp,Nj,JA,c1,gx,su,ei,k1,k2,emx,m1',dw,el,r1,r2]
 .intro a c ha;have:=aU ha;exact c! (c! (hF4.2 a c ⋯ ⋯ (F3' _ _ ha)) _) _
 .unfold bU;rw[et,<-yx];exact c! (bu _ _) _
 .unfold bU iF;rw[et,<-yx];exact bu _ _
theorem zg{lo:Int}{n i:Nat}(h:(cO lo n)[i]?=some u):i<n/\u=.int (lo+(i:Int)):=by unfold cO at h;have Bw:=aU h;rw[Vg,VU]at Bw;rw[Vy,Wg Bw]at h;exact⟨Bw,(VP h).symm⟩
theorem wI(lo:Int)(n:Nat):(cO lo n).length=n:=by unfold cO;rw[Vg,VU]
theorem Row.sm(hp:dD p=true)(h:Row p as):Sm as:=λa ha=>by have:=h.HQ a ha;have:=au hp;lia
abbrev RP:MB:=az (aK 6 (ag b9 (ag bJ bT fY) (ag bJ d6 iU))) (p5 d! (ag dA fY iU) (ag gq (ag dA (ag bJ d! (ag dA fY iU)) jU) bc))
theorem BR(hp:dD p=true){n i:Nat}{s:af}(h1:aq s n=some (as.map aj.int))(h2:aq s m=some (bs.map aj.int))(hi:i<as.length)(ha:Sm as)(hl:i+bs.length<=R0.length)(hR0:∀k,0<=cf R0 k/\cf R0 k<p):
  ∃(R:_h)(y5 y6:Option aj),forL (λ_=>True) (aA 5) RP (cO 0 bs.length) [qI p, qL n, qL m, qL s.length, qI i, x5, x6] (s++[ay R0])
   = .nx [qI p, qL n, qL m, qL s.length, qI i, y5, y6] (s++[ay R])/\R.length=R0.length/\(∀k,0<=cf R k/\cf R k<p)/\∀k,Cg p (cf R k) (cf R0 k+(if i<=k then cf as i*cf bs (k-i)else 0)):=by
 have hr:=au hp;have hz:=iK hp;obtain⟨μ',aI,e,R,rfl,⟨y5,y6,rfl⟩,hR,hb,hv⟩:=dX (g:=λ_=>True) (a:=aA 5) (body:=RP)
  (λj μ s'=>∃R:_h,s'=s++[ay R]/\(∃x5 x6,μ=[qI p, qL n, qL m, qL s.length, qI i, x5, x6])/\R.length=R0.length/\(∀k,0<=cf R k/\cf R k<p)/\∀k,Cg p (cf R k) (cf R0 k+(if i<=k/\k<i+j then cf as i*cf bs (k-i)else 0)))
  (cO 0 bs.length) 0 [qI p, qL n, qL m, qL s.length, qI i, x5, x6] (s++[ay R0])
  (by
   rintro j u μ s' hu ⟨R,rfl,⟨x5,x6,rfl⟩,hR,hb,hv⟩;rw[VZ]at hv⊢;refine⟨trivial,?_⟩;obtain⟨hj,rfl⟩:=zg hu;rw[W5];have hk:i+j<R.length:=⋯
   have g1:=dB (bQ h1 [ay R]) (iN (R:=as) (i:=(i:Int)) (k:=i) rfl hi);have g2:=dB (bQ h2 [ay R]) (iN (R:=bs) (i:=(j:Int)) (k:=j) rfl hj);have g3:=dB (ax (bu s (R.map aj.int))) (iN (R:=R) (i:=(i:Int)+(j:Int)) (k:=i+j) ⋯ hk);have hai:as.getD i 0∈as:=by rw[VA,Vk hi];exact Xl hi
   have sm:=ha _ hai;obtain⟨v,hvv⟩:=ZB ((R.getD (i+j) 0+as.getD i 0*bs.getD j 0).fmod p)
   have vr:0<=v/\v<p:=by rw[<-hvv,dY ⋯];exact⟨W? _ ⋯,WW _ ⋯⟩
   have sx:=q9 (v:=.int v) (k:=(i:Int)+(j:Int)) (j:=i+j) (bu s (R.map aj.int)) (by rw[aE];have:=rj hk;rw[show(i:Int)+(j:Int)=((i+j:Nat):Int) by lia];exact this);rw[q!,<-ZJ]at sx;refine⟨[some (.int p),some (.loc n),some (.loc m),some (.loc s.length),some (.int i),some (.int j),x6],rfl,[qI p, qL n, qL m, qL s.length, qI i, qI j, qI (as.getD i 0*bs.getD j 0)],s++[ay (R.set (i+j) v)],.inl ?_,R.set (i+j) v,rfl,⟨_,_,rfl⟩,by rw[Ws];exact hR,λk=>?_,λk=>?_⟩
   .simp![g1,g2,kC (i:=as.getD i 0) sm.1 sm.2,g3,gb hz,hvv,sx]
   .rw[Au hk];split
    .exact vr
    .exact hb k
   .rw[Au hk];by_cases OO:k=i+j
    .subst OO;rw[Vv rfl,Vv ⋯,show i+j-i=j by lia];have q:=hv (i+j);rw[VG ⋯,WQ]at q;refine Cg.trans (b:=R.getD (i+j) 0+as.getD i 0*bs.getD j 0) (by rw[<-hvv];exact Cg.mod ⋯ _) (q.add (Cg.refl p _))
    .rw[VG OO];have q:=hv k;by_cases h1:i<=k/\k<i+j
     .rw[Vv h1]at q;rw[Vv ⋯];exact q
     .rw[VG h1]at q;rw[VG ⋯];exact q)
  (λ_ _ _=>trivial)
  ⟨R0,rfl,⟨_,_,rfl⟩,rfl,hR0,λk=>by rw[VG ⋯,WQ];exact Cg.refl p _⟩
 rw[VZ,wI]at hv;refine⟨R,y5,y6,e,hR,hb,λk=>(hv k).trans ?_⟩;by_cases h1:i<=k
 .by_cases h2:k<i+bs.length
  .rw[Vv ⟨h1,h2⟩,Vv h1];exact Cg.refl p _
  .rw[VG ⋯,Vv h1,dH (ns:=bs) ⋯,Wi];exact Cg.refl p _
 .rw[VG ⋯,VG h1];exact Cg.refl p _
theorem Av(hp:dD p=true){n:Nat}{st:af}(h1:aq st n=some (as.map aj.int))(h2:aq st m=some (bs.map aj.int))(ha:Sm as)(t_:as.length<=100000)(uD:bs.length<=100000):
  ∃aI k T,PM.ja [.int p,.loc n,.loc m] st=.ok (.loc k) aI/\Fr st aI/\st.length<=k/\aI[k]?=some (ay T)/\Row p T/\aQ p (cf T) (mF as (cf bs))/\T.length<=as.length+bs.length:=by
 have hr:=au hp;obtain⟨LA,hLA⟩:=NE ((as.length:Int):Int)
 obtain⟨LB,hLB⟩:=NE ((bs.length:Int):Int)
 have kl:∀g:af,bD [.loc n] (st++g)=.ok (.int LA) (st++g)/\bD [.loc m] (st++g)=.ok (.int LB) (st++g):=λg=>⟨by rw[a_ (bQ h1 g),aE,hLA],by rw[a_ (bQ h2 g),aE,hLB]⟩
 have m1:=qe (st:=st++[.lst [.int 0]]) (n:=st.length) (us:=[.int 0]) (k:=LA+LB) (bu _ _) ⋯ ⋯ (by rw[Vp];simp;lia);rw[y_,show(LA+LB).toNat=as.length+bs.length by lia]at m1;have kl1:=kl [aZ.lst [.int 0]];have kl2:=λg2=>kl ([aZ.lst [.int 0]]++g2);have HJ:=bQ h1 [.lst [.int 0]];have HK:=bQ h2 [.lst [.int 0]];have F1:=Fr.app st [aZ.lst [.int 0]];have hle:st.length<=(st++[aZ.lst [.int 0]]).length:=F1.len;simp only[<-VY]at kl2;obtain⟨s,hs⟩:=ZB (st++[aZ.lst [.int 0]])
 rw[hs]at m1 kl1 HJ HK F1 hle;simp only[hs]at kl2;obtain⟨μ',aI,e,R,rfl,⟨y4,y5,y6,rfl⟩,hR,hb,hv⟩:=dX (g:=λ_=>True) (a:=aA 4) (body:=ic (f_ (aa (ao bD (aa d6 ai)) ai)) (aA 5) RP)
  (λi μ s'=>∃R:_h,s'=s++[ay R]/\(∃x4 x5 x6,μ=[qI p, qL n, qL m, qL s.length, x4, x5, x6])/\R.length=as.length+bs.length/\(∀k,0<=cf R k/\cf R k<p)/\∀k,Cg p (cf R k) (oI as bs i k))
  (cO 0 as.length) 0 [qI p, qL n, qL m, qL s.length, qn, qn, qn] (s++[ay (List.replicate (as.length+bs.length) 0)])
  (by
   rintro i u μ s' hu ⟨R,rfl,⟨x4,x5,x6,rfl⟩,hR,hb,hv⟩;rw[VZ]at hv⊢;refine⟨trivial,?_⟩;obtain⟨hi,rfl⟩:=zg hu;rw[W5];obtain⟨R',z5,z6,e',hR',hb',hv'⟩:=BR (x5:=x5) (x6:=x6) hp HJ HK hi ha (R0:=R) ⋯ hb;have rg:=vk (st:=s++[ay R]) (j:=LB) ⋯ ⋯;rw[show LB.toNat=bs.length by lia]at rg;refine⟨[some (.int p),some (.loc n),some (.loc m),some (.loc s.length),some (.int i),x5,x6],rfl,[qI p, qL n, qL m, qL s.length, qI i, z5, z6],s++[ay R'],.inl ?_,R',rfl,⟨_,_,_,rfl⟩,⋯,hb',λk=>?_⟩
   .have kk:=(kl2 [ay R]).2;simp![iY,gv,kk,rg,e']
   .exact(hv' k).trans ((hv k).add (Cg.refl p _)))
  (λ_ _ _=>trivial)
  ⟨List.replicate (as.length+bs.length) 0,rfl,⟨_,_,_,rfl⟩,V0,λk=>by rw[rm];lia,λk=>by rw[rm];exact Cg.refl p _⟩
 rw[VZ,wI]at hv;have lc:=wH (ax (bu s (R.map aj.int)));have rg:=vk (st:=s++[ay (List.replicate (as.length+bs.length) 0)]) (j:=LA) ⋯ ⋯;rw[show LA.toNat=as.length by lia]at rg;have kk:=(kl2 [ay (List.replicate (as.length+bs.length) 0)]).1;refine⟨s++[ay R]++[ay (b! R)],(s++[ay R]).length,b! R,?_,(F1.more _).more _,by rw[Vj];lia,bu _ _,⟨vp R,?_⟩,λk=>?_,?_⟩
 .simp![PM.ja,iY,gv,Vp,hs,kl1.1,kl1.2,m1,kk,rg,e,lc]
 .refine Aq (P:=λa=>0<=a/\a<p) λa ha=>?_;obtain⟨i,hi⟩:=List.mem_iff_getElem?.mp ha;have:=hb i;unfold cf at this;rw[VA,hi]at this;exact this
 .rw[As,<-vq];exact hv k
 .have:=gN R;lia
theorem Aw(as bs:_h)(f:Int)(k:Nat):cf (jN as bs f) k=cf as k+f*cf bs k:=by
 unfold jN;rw[Dy (max as.length bs.length) (λk=>as.getD k 0+f*bs.getD k 0)];split
 .rfl
 .rw[dH (ns:=as) ⋯,dH (ns:=bs) ⋯,Wi];rfl
theorem wJ{st:af}{a b:Nat}(h1:st[a]?=some (ay R))(h2:st[b]?=some (ay R)):lO 15 st (.loc a) (.loc b)=some true:=by unfold lO;simp only[vw,ax h1,ax h2];exact mJ st 13 _ (iA 13 R)
theorem sQ.nil(st:af):sQ st [] []:=⟨rfl,λi l R h _=>by simp at h⟩
theorem sQ.cons{st:af}{l:Nat}{ls:List Nat}{R:_h}{Rs:List (_h)}(h:st[l]?=some (ay R))(r:sQ st ls Rs):sQ st (l::ls) (R::Rs):=⟨by rw[Vi,Vi,r.1],λi l' R' h1 h2=>by
 cases i with
 |zero=>cases h1;cases h2;exact h
 |succ i=>exact r.2 i l' R' h1 h2⟩
theorem JJ{k:Nat}(h:as.length+bs.length<=k+1):mF as (cf bs) k=0:=by rw[<-vq];exact BN as bs k as.length h
theorem aV(as bs:_h)(k:Nat):cf (bY as bs) k=mF as (cf bs) k:=by
 unfold bY;rw[Dy (as.length+bs.length-1) (λk=>oI as bs as.length k),vq];split
 .rfl
 .rw[JJ ⋯]
def ow(p:Int)(as bs:_h):_h:=if as=[]\/bs=[] then[]else b! ((bY as bs).map (·.fmod p))
theorem JK(hp:0<p)(as bs:_h):Row p (ow p as bs):=by
 unfold ow;split
 .exact Row.nil p
 .exact Row.of hp _
theorem k?(f:Cf)(k:Nat):mF [] f k=0:=rfl
theorem E9(as:_h)(k:Nat):mF as (cf []) k=0:=by rw[dZ];rfl
theorem vx(hp:0<p)(as bs:_h):aQ p (cf (ow p as bs)) (mF as (cf bs)):=by
 unfold ow;split
 .rename_i h;rcases h with rfl|rfl
  .exact aQ.of_eq λk=>by rw[cz,k?]
  .exact aQ.of_eq λk=>by rw[cz,E9]
 .exact(Row.cg hp _).trans (aQ.of_eq (aV as bs))
theorem rA(p:Int)(as bs:_h):(ow p as bs).length<=as.length+bs.length-1/\(as=[]->(ow p as bs).length=0):=by
 unfold ow;split
 .exact⟨by simp,λ_=>rfl⟩
 .rename_i h;refine⟨?_,λz=>absurd (.inl z) h⟩;refine V! (gN _) ?_;rw[Vg,y!];exact Vt _
def jF(p:Int)(as bs:_h):_h:=b! ((jN as bs (-1)).map (·.fmod p))
theorem vA(hp:0<p)(as bs:_h):aQ p (cf (jF p as bs)) (λk=>cf as k-cf bs k):=(Row.cg hp _).trans (aQ.of_eq λk=>by rw[Aw];lia)
theorem rE(p:Int)(as bs:_h):(jF p as bs).length<=max as.length bs.length:=by refine V! (gN _) ?_;rw[Vg,wC];exact Vt _
def mulR(p f:Int)(as:_h):_h:=b! ((as.map (· * f)).map (·.fmod p))
theorem vB(hp:0<p)(f:Int)(as:_h):aQ p (cf (mulR p f as)) (λk=>f*cf as k):=(Row.cg hp _).trans (aQ.of_eq λk=>by rw[qg (· * f) (Wy f),WY])
theorem oM(p f:Int)(as:_h):(mulR p f as).length<=as.length:=by refine V! (gN _) ?_;rw[Vg,Vg];exact Vt _
theorem aQ.sub{f g f' g':Cf}(h:aQ p f g)(h':aQ p f' g'):aQ p (λk=>f k-f' k) (λk=>g k-g' k):=λk=>by have:=(h k).add (h' k).neg;rw[show f k + -f' k=f k-f' k by lia,show g k + -g' k=g k-g' k by lia]at this;exact this
theorem aQ.smul{f g:Cf}(c:Int)(h:aQ p f g):aQ p (λk=>c*f k) (λk=>c*g k):=λk=>(h k).yb c
theorem DC(f g:Cf)(as:_h)(k:Nat):mF as (λj=>f j-g j) k=mF as f k-mF as g k:=by have h1:=oK f (λj => -1*g j) as k;rw[wG,b8 (g:=λj=>f j-g j) (λj=>by show f j + -1*g j=f j-g j;lia)]at h1;lia
theorem zh{u q:_h}(h:aQ p (cf u) (λk=>cf u0 k-mF q (cf u1) k))(A:_h):aQ p (mF u (cf A)) (λk=>mF u0 (cf A) k-mF q (mF u1 (cf A)) k):=by refine(aQ.of_eq (dZ u A)).trans ((h.mF A).trans (aQ.of_eq λk=>?_));rw[DC,dZ A u0,nv (cf u1) A q,b8 (dZ A u1)]
theorem G!{u:_h}(h:aQ p (cf u) (λk=>cf u0 k+cf u1 k))(A:_h):aQ p (mF u (cf A)) (λk=>mF u0 (cf A) k+mF u1 (cf A) k):=by refine(aQ.of_eq (dZ u A)).trans ((h.mF A).trans (aQ.of_eq λk=>?_));rw[oK,dZ A u0,dZ A u1]
theorem sR{c:Int}{u:_h}(h:aQ p (cf u) (λk=>c*cf u0 k))(A:_h):aQ p (mF u (cf A)) (λk=>c*mF u0 (cf A) k):=by refine(aQ.of_eq (dZ u A)).trans ((h.mF A).trans (aQ.of_eq λk=>?_));rw[wG,dZ A u0]
theorem gg(x q A:_h)(k:Nat):mF (bY x q) (cf A) k=mF x (mF q (cf A)) k:=by rw[dZ,b8 (aV x q),nv (cf q) A x,b8 (dZ A q)]
theorem Ax:∀(as bs:_h),as≠[]->bs≠[]->mF as (cf bs) (as.length-1+(bs.length-1))=aM as*aM bs
 |[],_,h,_=>absurd rfl h
 |[a],bs,_,hb=>by
  show a*cf bs (0+(bs.length-1))+iE (λ_=>0) (0+(bs.length-1))=a*aM bs;rw[VZ];have:iE (λ_=>(0:Int)) (bs.length-1)=0:=by cases bs.length-1<;>rfl
  rw[this,WQ];rfl
 |a::a'::as,bs,_,hb=>by have RK:0<bs.length:=VC.mpr hb;have ih:=Ax (a'::as) bs (by simp) hb;show a*cf bs ((a::a'::as).length-1+(bs.length-1))+iE (mF (a'::as) (cf bs)) ((a::a'::as).length-1+(bs.length-1))=_;rw[show(a::a'::as).length-1+(bs.length-1)=((a'::as).length-1+(bs.length-1))+1 by simp;lia];show a*cf bs _+mF (a'::as) (cf bs) ((a'::as).length-1+(bs.length-1))=_;rw[ih,dH (by simp;lia),Wi,W5];rfl
theorem Row.last(hp:0<p)(h:Row p as)(hn:as≠[]):0<aM as/\aM as<p:=by have h1:=BP h.cut hn;have h2:=h.A? hp (as.length-1);have e:aM as=cf as (as.length-1):=rfl;rw[e];lia
theorem kE(hp:0<p){r x G:_h}(hr:Row p r)(hG:G≠[])(h1:aM G=1)(hl:r.length<G.length)(h:aQ p (cf r) (mF x (cf G))):r=[]:=by
 have hG0:0<G.length:=VC.mpr hG;have hX:=Row.of hp x;have cX:=Row.cg hp x;have h':aQ p (cf r) (mF (b! (x.map (·.fmod p))) (cf G)):=h.trans (aQ.mFl cX G).symm;revert hX h';generalize b! (x.map (·.fmod p))=X;intro hX h';by_cases hXe:X=[]
 .subst hXe;exact Row.ext hp hr (Row.nil p) (h'.trans (aQ.of_eq λk=>by rw[cz,k?]))
 .exfalso;have t:=Ax X G hXe hG;rw[h1,Xa]at t;have q:=h' (X.length-1+(G.length-1));rw[t,dH ⋯]at q;have e:=Cg.eq hp q;have l:=hX.last hp hXe;rw[fe ⋯ l.2,fe (YZ _) hp]at e;lia
structure jG(p:Int)(A B:_h)(N:Nat)(g0 u0 v0 g1 u1 v1:_h):Prop where
 r0:Row p g0
 ru0:Row p u0
 rv0:Row p v0
 r1:Row p g1
 ru1:Row p u1
 rv1:Row p v1
 c0:aQ p (cf g0) (λk=>mF u0 (cf A) k+mF v0 (cf B) k)
 c1:aQ p (cf g1) (λk=>mF u1 (cf A) k+mF v1 (cf B) k)
 ne:g0≠[]\/g1≠[]
 mA:∃x0 x1,aQ p (cf A) (λk=>mF x0 (cf g0) k+mF x1 (cf g1) k)
 mB:∃x0 x1,aQ p (cf B) (λk=>mF x0 (cf g0) k+mF x1 (cf g1) k)
 RQ:u1.length+g0.length<=N
 lv1:v1.length+g0.length<=N
 lu0:u0.length+g1.length<=N
 lv0:v0.length+g1.length<=N
theorem nC(hp:2<=p):Row p [1]:=⟨rfl,λa h=>by rw[Vz.mp h];lia⟩
theorem jG.start(hp:2<=p){A:_h}(hA:Row p A)(hB:Row p B)(hn:A≠[]\/B≠[]):jG p A B (A.length+B.length+1) A [1] [] B [] [1] where
 r0:=hA
 ru0:=nC hp
 rv0:=Row.nil p
 r1:=hB
 ru1:=Row.nil p
 rv1:=nC hp
 c0:=aQ.of_eq λk=>by rw[k?,dZ];show _=mF A one k+0;rw[fL];lia
 c1:=aQ.of_eq λk=>by rw[k?,dZ];show _=0+mF B one k;rw[fL];lia
 ne:=hn
 mA:=⟨[1],[],aQ.of_eq λk=>by rw[k?,dZ];show _=mF A one k+0;rw[fL];lia⟩
 mB:=⟨[],[1],aQ.of_eq λk=>by rw[k?,dZ];show _=0+mF B one k;rw[fL];lia⟩
 RQ:=by simp;lia
 lv1:=by simp;lia
 lu0:=by simp;lia
 lv0:=by simp;lia
theorem comb{C g0 q g1 r x0 x1:_h}(h:aQ p (cf C) (λk=>mF x0 (cf g0) k+mF x1 (cf g1) k))(hd:aQ p (cf g0) (λk=>mF q (cf g1) k+cf r k)):∃y0 y1,aQ p (cf C) (λk=>mF y0 (cf g1) k+mF y1 (cf r) k):=by refine⟨jN (bY x0 q) x1 1,x0,h.trans ?_⟩;have e1:aQ p (mF x0 (cf g0)) (λk=>mF x0 (mF q (cf g1)) k+mF x0 (cf r) k):=(hd.mF x0).trans (aQ.of_eq λk=>by rw[oK]);have e2:aQ p (mF (jN (bY x0 q) x1 1) (cf g1)) (λk=>mF (bY x0 q) (cf g1) k+mF x1 (cf g1) k):=G! (aQ.of_eq λk=>by rw[Aw];lia) g1;refine(aQ.add e1 (aQ.refl p _)).trans ?_;refine aQ.trans ?_ (aQ.add e2 (aQ.refl p _)).symm;refine aQ.of_eq λk=>?_;show mF x0 (mF q (cf g1)) k+mF x0 (cf r) k+mF x1 (cf g1) k=mF (bY x0 q) (cf g1) k+mF x1 (cf g1) k+mF x0 (cf r) k;rw[gg];lia
theorem JL(p:Int)(as bs:_h):(iF p as bs).length<=as.length:=by unfold iF;refine V! (gN _) ?_;rw[Vg,(ny _ _ _ _ _ _).2];exact Vt _
theorem jG.step(hp:dD p=true){A:_h}{N:Nat}{g0 g1:_h}(h:jG p A B N g0 u0 v0 g1 u1 v1)(hg:g1≠[]):
  jG p A B N g1 u1 v1 (iF p g0 g1) (jF p u0 (ow p (bU p g0 g1) u1)) (jF p v0 (ow p (bU p g0 g1) v1)):=by
 have hr:=au hp;have dz:0<p:=⋯
 have hl:¬ aM g1 % p=0:=by have:=h.r1.last dz hg;rw[V9 ⋯ this.2];lia
 obtain⟨sq,sr,slt,sc,sl⟩:=fM hp (as:=g0) hg hl;have srl:=JL p g0 g1;obtain⟨Q,hQ⟩:=ZB (bU p g0 g1)
 obtain⟨R,hR⟩:=ZB (iF p g0 g1)
 rw[hQ]at sq sc sl⊢;rw[hR]at sr slt sc srl⊢;have cu:aQ p (cf (jF p u0 (ow p Q u1))) (λk=>cf u0 k-mF Q (cf u1) k):=(vA dz _ _).trans (aQ.sub (aQ.refl p _) (vx dz Q u1));have cv:aQ p (cf (jF p v0 (ow p Q v1))) (λk=>cf v0 k-mF Q (cf v1) k):=(vA dz _ _).trans (aQ.sub (aQ.refl p _) (vx dz Q v1));have len:∀(w0 w1:_h),w1.length+g0.length<=N->w0.length+g1.length<=N->(jF p w0 (ow p Q w1)).length+g1.length<=N:=λw0 w1 i1 i2=>by
  have a1:=rE p w0 (ow p Q w1);have a2:=rA p Q w1;by_cases hQe:Q=[]
  .have:=a2.2 hQe;lia
  .have:0<Q.length:=VC.mpr hQe;have:=a2.1;lia
 refine⟨h.r1,h.ru1,h.rv1,sr,Row.of dz _,Row.of dz _,h.c1,?_,.inl hg,?_,?_,len u0 u1 h.RQ h.lu0,len v0 v1 h.lv1 h.lv0,?_,?_⟩
 ·-- Oc rest
  have e:aQ p (cf R) (λk=>cf g0 k-mF Q (cf g1) k):=λk=>by have:=(sc k).symm.add (Cg.refl p (-(mF Q (cf g1) k)));rw[show mF Q (cf g1) k+cf R k + -mF Q (cf g1) k=cf R k by lia,show cf g0 k + -mF Q (cf g1) k=cf g0 k-mF Q (cf g1) k by lia]at this;exact this
  refine e.trans ((aQ.sub h.c0 (h.c1.mF Q)).trans ?_);refine aQ.trans ?_ (aQ.add (zh cu A) (zh cv B)).symm;refine aQ.of_eq λk=>?_;show mF u0 (cf A) k+mF v0 (cf B) k-mF Q (λk=>mF u1 (cf A) k+mF v1 (cf B) k) k=mF u0 (cf A) k-mF Q (mF u1 (cf A)) k+(mF v0 (cf B) k-mF Q (mF v1 (cf B)) k);rw[oK];lia
 .obtain⟨x0,x1,hx⟩:=h.mA;exact comb hx sc
 .obtain⟨x0,x1,hx⟩:=h.mB;exact comb hx sc
 .have:=h.RQ;lia
 .have:=h.lv1;lia
theorem rF{t:Int}(hp:2<=p){g:_h}(hg:Row p g)(hn:g≠[])(ht:(t*aM g) % p=1):Row p (mulR p t g)/\mulR p t g≠[]/\aM (mulR p t g)=1/\(mulR p t g).length=g.length:=by
 have dz:0<p:=⋯
 have hg0:0<g.length:=VC.mpr hn;have r:=Row.of dz (g.map (· * t));have c:cf (mulR p t g) (g.length-1)=1:=by unfold mulR;rw[As,qg _ (by rw[dY dz];exact XC p),qg (· * t) (Wy t),dY dz,WY];exact ht
 have l1:=oM p t g;have l2:¬ (mulR p t g).length<=g.length-1:=λz=>by rw[dH z]at c;lia
 have l:(mulR p t g).length=g.length:=⋯
 refine⟨r,λz=>by rw[z]at l;simp at l;lia,?_,l⟩;show cf (mulR p t g) ((mulR p t g).length-1)=1;rw[l];exact c
theorem jG.done{t:Int}(hp:dD p=true){A:_h}{N:Nat}{g u v:_h}(h:jG p A B N g u v [] u1 v1)(hA:Row p A)(hB:Row p B)(ht:(t*aM g) % p=1):
  Row p (mulR p t g)/\mulR p t g≠[]/\aM (mulR p t g)=1/\aQ p (cf A) (mF (bU p A (mulR p t g)) (cf (mulR p t g)))/\aQ p (cf B) (mF (bU p B (mulR p t g)) (cf (mulR p t g))) /\
   aQ p (cf (mulR p t g)) (λk=>mF (mulR p t u) (cf A) k+mF (mulR p t v) (cf B) k):=by
 have hr:=au hp;have dz:0<p:=⋯
 have hg:g≠[]:=by rcases h.ne with z|z;exact z;exact absurd rfl z
 obtain⟨rG,nG,lG,leG⟩:=rF hr.1 h.r0 hg ht;have cG:=vB dz t g;have hl:¬ aM (mulR p t g) % p=0:=by rw[lG,V9 ⋯ ⋯];lia
 have one:∀C:_h,Row p C->(∃x0 x1,aQ p (cf C) (λk=>mF x0 (cf g) k+mF x1 (cf []) k))->aQ p (cf C) (mF (bU p C (mulR p t g)) (cf (mulR p t g))):=λC hC hx=>by
  obtain⟨x0,x1,hx⟩:=hx;obtain⟨sq,sr,slt,sc,sl⟩:=fM hp (as:=C) nG hl
  -- g is a aan of Oc plain one
  have cg:aQ p (cf g) (λk=>aM g*cf (mulR p t g) k):=λk=>by
   have c1:Cg p (t*aM g) 1:=⟨t*aM g / p,by have:=Wb (t*aM g) p;lia⟩
   have c2:=(cG k).yb (aM g);have c3:=c1.BM (cf g k);rw[WS,show t*aM g*cf g k=aM g*(t*cf g k) by rw[<-Wj,WY (aM g) t]]at c3;exact(c2.trans c3).symm
  have cx:aQ p (cf C) (mF (x0.map (aM g * ·)) (cf (mulR p t g))):=by refine hx.trans ?_;have e1:aQ p (mF x0 (cf g)) (λk=>aM g*mF x0 (cf (mulR p t g)) k):=(cg.mF x0).trans (aQ.of_eq λk=>by rw[wG]);have e2:aQ p (mF (x0.map (aM g * ·)) (cf (mulR p t g))) (λk=>aM g*mF x0 (cf (mulR p t g)) k):=sR (aQ.of_eq λk=>by rw[qg (aM g * ·) (Wi _)]) _;refine aQ.trans ?_ e2.symm;refine aQ.trans ?_ e1;exact aQ.of_eq λk=>by show mF x0 (cf g) k+mF x1 (cf []) k=_;rw[E9,WQ]
  have cr:aQ p (cf (iF p C (mulR p t g))) (mF (jN (x0.map (aM g * ·)) (bU p C (mulR p t g)) (-1)) (cf (mulR p t g))):=by
   have e3:aQ p (mF (jN (x0.map (aM g * ·)) (bU p C (mulR p t g)) (-1)) (cf (mulR p t g))) (λk=>mF (x0.map (aM g * ·)) (cf (mulR p t g)) k-mF (bU p C (mulR p t g)) (cf (mulR p t g)) k):=by refine(aQ.of_eq (dZ _ _)).trans (aQ.of_eq λk=>?_);rw[b8 (g:=λj=>cf (x0.map (aM g * ·)) j-cf (bU p C (mulR p t g)) j) (λj=>by rw[Aw];lia),DC,dZ _ (x0.map _),dZ _ (bU p C _)]
   refine aQ.trans (λk=>?_) e3.symm;have:=((sc k).symm.trans (cx k)).add (Cg.refl p (-(mF (bU p C (mulR p t g)) (cf (mulR p t g)) k)));rw[show mF (bU p C (mulR p t g)) (cf (mulR p t g)) k+cf (iF p C (mulR p t g)) k + -mF (bU p C (mulR p t g)) (cf (mulR p t g)) k=cf (iF p C (mulR p t g)) k by lia]at this;show Cg p _ (mF (x0.map (aM g * ·)) (cf (mulR p t g)) k-mF (bU p C (mulR p t g)) (cf (mulR p t g)) k);rw[show mF (x0.map (aM g * ·)) (cf (mulR p t g)) k-mF (bU p C (mulR p t g)) (cf (mulR p t g)) k=mF (x0.map (aM g * ·)) (cf (mulR p t g)) k + -mF (bU p C (mulR p t g)) (cf (mulR p t g)) k by lia];exact this
  have z:=kE dz sr nG lG slt cr;rw[z]at sc;exact sc.trans (aQ.of_eq λk=>by show mF _ _ k+cf [] k=_;rw[cz,WQ])
 refine⟨rG,nG,lG,one A hA h.mA,one B hB h.mB,?_⟩;refine cG.trans ((h.c0.smul t).trans ?_);refine aQ.trans ?_ (aQ.add (sR (vB dz t u) A) (sR (vB dz t v) B)).symm;exact aQ.of_eq λk=>by show t*(mF u (cf A) k+mF v (cf B) k)=_;rw[Xf]
def jy(f:Cf):Cf:=λk=>((k:Int)+1)*f (k+1)
theorem RT(h:Cf)(k:Nat):jy (iE h) k=h k+iE (jy h) k:=by
 unfold jy;cases k with
 |zero=>simp[iE]
 |succ k=>
  show(((k+1:Nat):Int)+1)*h (k+1)=h (k+1)+((k:Int)+1)*h (k+1);rw[Yo,WS]
  push_cast
  lia
def nE:_h->_h->_h
 |[],bs=>bs
 |a::as,[]=>a::as
 |a::as,b::bs=>(a+b)::nE as bs
theorem kG(g:Cf):∀(as bs:_h)(k:Nat),mF (nE as bs) g k=mF as g k+mF bs g k
 |[],bs,k=>by show mF bs g k=mF [] g k+mF bs g k;rw[k?,W5]
 |a::as,[],k=>by show mF (a::as) g k=mF (a::as) g k+mF [] g k;rw[k?,WQ]
 |a::as,b::bs,k=>by show(a+b)*g k+iE (mF (nE as bs) g) k=(a*g k+iE (mF as g) k)+(b*g k+iE (mF bs g) k);rw[eO (kG g as bs),Ar,Yo];lia
theorem rH(g:Cf)(c:Int):∀(as:_h)(k:Nat),mF (as.map (c * ·)) g k=c*mF as g k
 |[],k=>by show(0:Int)=c*0;rw[Wi]
 |a::as,k=>by show(c*a)*g k+iE (mF (as.map (c * ·)) g) k=c*(a*g k+iE (mF as g) k);rw[eO (rH g c as),E6,Xf,Wj]
def dL:_h->_h
 |[]=>[]
 |_::as=>nE as (0::dL as)
theorem BS(g:Cf):∀(as:_h)(k:Nat),jy (mF as g) k=mF as (jy g) k+mF (dL as) g k
 |[],k=>by show((k:Int)+1)*0=0+0;rw[Wi];rfl
 |a::as,k=>by
  have e1:jy (mF (a::as) g) k=a*jy g k+jy (iE (mF as g)) k:=by show((k:Int)+1)*(a*g (k+1)+iE (mF as g) (k+1))=a*(((k:Int)+1)*g (k+1))+((k:Int)+1)*iE (mF as g) (k+1);rw[Xf,<-Wj,<-Wj,WY _ a]
  rw[e1,RT,eO (BS g as),Ar];show a*jy g k+(mF as g k+(iE (mF as (jy g)) k+iE (mF (dL as) g) k))=(a*jy g k+iE (mF as (jy g)) k)+mF (nE as (0::dL as)) g k;rw[kG];show _=_+(mF as g k+(0*g k+iE (mF (dL as) g) k));rw[Wy];lia
theorem Nu(c:Int)(f:Cf)(k:Nat):mF [c] f k=c*f k:=by show c*f k+iE (mF [] f) k=_;cases k<;>simp[iE,mF]
theorem aQ.jy{f g:Cf}(h:aQ p f g):aQ p (PG.jy f) (PG.jy g):=λk=>(h (k+1)).yb _
theorem oN(as:_h)(k:Nat):cf (fK as) k=jy (cf as) k:=by
 unfold fK jy cf gm;rw[VA,Vy,Vy];by_cases h:k<as.length-1
 .rw[Wg h];show(1+(k:Int))*as.getD (1+(k:Int)).toNat 0=((k:Int)+1)*as.getD (k+1) 0;rw[show(1+(k:Int)).toNat=k+1 by lia,Int.add_comm]
 .rw[Wa (by rw[VU];lia)];show(0:Int)=((k:Int)+1)*as.getD (k+1) 0;rw[VA,Wa ⋯];show(0:Int)=((k:Int)+1)*0;rw[Wi]
def Dvd(p:Int)(U:_h)(f:Cf):Prop:=∃x:_h,aQ p f (mF x (cf U))
section
variable{f g:Cf}
theorem Dvd.cg(h:Dvd p U f)(e:aQ p g f):Dvd p U g:=let⟨x,hx⟩:=h;⟨x,e.trans hx⟩
theorem Dvd.add(h:Dvd p U f)(k:Dvd p U g):Dvd p U (λj=>f j+g j):=by obtain⟨x,hx⟩:=h;obtain⟨y,hy⟩:=k;exact⟨nE x y,(hx.add hy).trans (aQ.of_eq λj=>(kG (cf U) x y j).symm)⟩
theorem Dvd.mul(h:Dvd p U f)(y:_h):Dvd p U (mF y f):=by obtain⟨x,hx⟩:=h;exact⟨bY y x,(hx.mF y).trans (aQ.of_eq λj=>(gg y x U j).symm)⟩
theorem Dvd.neg(h:Dvd p U f):Dvd p U (λj => -1*f j):=by obtain⟨x,hx⟩:=h;exact⟨x.map ((-1) * ·),(hx.smul (-1)).trans (aQ.of_eq λj=>(rH (cf U) (-1) x j).symm)⟩
theorem Dvd.self(y:_h):Dvd p U (mF y (cf U)):=⟨y,aQ.refl _ _⟩
theorem Dvd.sub(h:Dvd p U (λj=>f j+g j))(k:Dvd p U g):Dvd p U f:=(h.add k.neg).cg (aQ.of_eq λj=>⋯)
end
theorem Nv(hp:0<p){F z:_h}(hF:F≠[])(h1:aM F=1)(h:aQ p (mF F (cf z)) (λ_=>0)):aQ p (cf z) (λ_=>0):=by
 obtain⟨r,hr⟩:=NE (b! (z.map (·.fmod p)))
 have R:Row p r:=by rw[hr];exact Row.of hp z
 have e:aQ p (cf r) (cf z):=by rw[hr];exact Row.cg hp z
 by_cases hz:r=[]
 .rw[hz]at e;exact e.symm.trans (aQ.of_eq λk=>cz k)
 .exfalso;have t:=Ax F r hF hz;have c:=((e.mF F).trans h) (F.length-1+(r.length-1))
  rw[t,h1,WS]at c;have lr:=R.last hp hz;obtain⟨k,hk⟩:=c;have:k=0:=by
   rcases Int.lt_trichotomy k 0 with q|q|q
   .have:=WA (show k<=-1 by lia) (Int.le_of_lt hp);lia
   .exact q
   .have:=WA (show 1<=k by lia) (Int.le_of_lt hp);lia
  rw[this]at hk;lia
theorem Ay(hp:0<p){F y z:_h}(hF:F≠[])(h1:aM F=1)(h:aQ p (mF F (cf y)) (mF F (cf z))):aQ p (cf y) (cf z):=by
 obtain⟨w,hw⟩:=NE (nE y (z.map ((-1) * ·)))
 have cw:∀k,cf w k=cf y k-cf z k:=λk=>by have:=kG one y (z.map ((-1) * ·)) k;rw[rH,fL,fL,fL,<-hw]at this;rw[this];lia
 have h0:aQ p (mF F (cf w)) (λ_=>0):=by refine(aQ.of_eq (b8 cw F)).trans ((aQ.of_eq λk=>DC (cf y) (cf z) F k).trans ?_);exact(h.sub (aQ.refl p (mF F (cf z)))).trans (aQ.of_eq λk=>⋯)
 have e:=Nv hp hF h1 h0;intro k;have:=e k;rw[cw]at this;obtain⟨j,hj⟩:=this;have hj:cf y k-cf z k=0+p*j:=hj;exact⟨j,⋯⟩
theorem JM{f S W:_h}(h1:aQ p (cf f) (mF S (cf U)))(h2:aQ p (jy (cf f)) (mF W (cf U))):Dvd p U (mF S (jy (cf U))):=by have e:aQ p (mF W (cf U)) (λk=>mF S (jy (cf U)) k+mF (dL S) (cf U) k):=h2.symm.trans (h1.jy.trans (aQ.of_eq λk=>BS (cf U) S k));exact Dvd.sub ((Dvd.self W).cg e.symm) (Dvd.self (dL S))
theorem aQ.mFL{S?:_h}(h:aQ p (cf as) (cf S?))(z:_h):aQ p (PG.mF as (cf z)) (PG.mF S? (cf z)):=h.mFl z
theorem Nw(hp:0<p){S F P V a b:_h}(hF:F≠[])(l1:aM F=1)(hS:aQ p (cf S) (mF P (cf F)))(hU:aQ p (cf U) (mF V (cf F)))(hB:aQ p (cf F) (λk=>mF a (cf S) k+mF b (cf U) k))(h:Dvd p U (mF S (jy (cf U)))):Dvd p V (mF F (jy (cf V))):=by
 obtain⟨D,hD⟩:=NE (fK V)
 have cD:∀k,cf D k=jy (cf V) k:=λk=>by rw[hD];exact oN V k
 -- U is F times V,and aN aao
 have hU':aQ p (cf U) (mF F (cf V)):=hU.trans (aQ.of_eq λk=>dZ V F k);have hd:aQ p (jy (cf U)) (λk=>mF F (cf D) k+mF (dL F) (cf V) k):=hU'.jy.trans (aQ.of_eq λk=>by rw[BS,b8 cD]);obtain⟨E,hE⟩:=NE (nE (bY F D) (bY (dL F) V))
 have cE:∀k,cf E k=mF F (cf D) k+mF (dL F) (cf V) k:=λk=>by have:=kG one (bY F D) (bY (dL F) V) k;rw[fL,fL,fL,<-hE,aV,aV]at this;exact this
 have hdE:aQ p (jy (cf U)) (cf E):=hd.trans (aQ.of_eq λk=>(cE k).symm);obtain⟨x,hx⟩:=h
 -- F times (P times E) is F times (x times V)
 have hSP:aQ p (cf S) (cf (bY P F)):=hS.trans (aQ.of_eq λk=>(aV P F k).symm);have e1:aQ p (mF S (jy (cf U))) (mF F (cf (bY P E))):=by refine(hdE.mF S).trans ((hSP.mFL E).trans (aQ.of_eq λk=>?_));rw[gg P F E,nv (cf E) P F,b8 (λj=>(aV P E j).symm) F]
 have e2:aQ p (mF x (cf U)) (mF F (cf (bY x V))):=by refine(hU'.mF x).trans (aQ.of_eq λk=>?_);rw[nv (cf V) x F,b8 (λj=>(aV x V j).symm) F]
 have e3:aQ p (cf (bY P E)) (cf (bY x V)):=Ay hp hF l1 (e1.symm.trans (hx.trans e2))
 -- so V divides P times F times V's aao
 have e4:aQ p (λk=>mF P (mF F (cf D)) k+mF P (mF (dL F) (cf V)) k) (mF x (cf V)):=by refine aQ.trans (aQ.of_eq λk=>?_) (e3.trans (aQ.of_eq λk=>aV x V k));rw[aV,b8 cE P,oK]
 have d1:Dvd p V (mF P (mF F (cf D))):=Dvd.sub ((Dvd.self x).cg e4) ((Dvd.self (dL F)).mul P)
 -- one of P and V
 have e5:aQ p (cf [1]) (cf (nE (bY a P) (bY b V))):=by
  refine Ay hp hF l1 ?_;have q:aQ p (cf F) (λk=>mF a (mF P (cf F)) k+mF b (mF V (cf F)) k):=hB.trans ((hS.mF a).add (hU.mF b));refine aQ.trans (aQ.of_eq λk=>dZ F [1] k) (aQ.trans (aQ.of_eq λk=>?_) (q.trans (aQ.of_eq λk=>?_)))
  .rw[Nu,WS]
  .rw[dZ F,kG,gg,gg]
 have e6:aQ p (mF F (cf D)) (λk=>mF a (mF P (mF F (cf D))) k+mF b (mF V (mF F (cf D))) k):=by
  obtain⟨Z,hZ⟩:=NE (bY F D)
  have cZ:∀k,cf Z k=mF F (cf D) k:=λk=>by rw[hZ];exact aV F D k
  have q:=e5.mFL Z;refine aQ.trans (aQ.of_eq λk=>?_) (q.trans (aQ.of_eq λk=>?_))
  .rw[<-cZ,Nu,WS]
  .rw[kG,gg,gg];have c1:∀(y:_h)(j:Nat),mF y (cf Z) j=mF y (mF F (cf D)) j:=λy j=>b8 cZ y j;rw[b8 (c1 P) a,b8 (c1 V) b]
 have d2:Dvd p V (mF V (mF F (cf D))):=by refine⟨bY F D,aQ.of_eq λk=>?_⟩;rw[gg F D V,nv (cf D) V F];exact b8 (λj=>dZ V D j) F k
 have d3:=(d1.mul a).add (d2.mul b);exact(d3.cg e6).cg (aQ.of_eq λk=>(b8 cD F k).symm)
theorem RU{c:Int}(hp:dD p=true)(hU:Row p U)(nU:U≠[])(l1:aM U=1)(hc:¬ c % p=0)(h:Dvd p U (mF [c] (jy (cf U)))):((U.length:Int)-1) % p=0:=by
 have hr:=au hp;have dz:0<p:=⋯
 obtain⟨_,t,_,_,_,ht⟩:=gf hp hc [];obtain⟨r,hrr⟩:=NE (b! ((fK U).map (·.fmod p)))
 have R:Row p r:=by rw[hrr];exact Row.of dz _
 have cr:aQ p (cf r) (jy (cf U)):=by rw[hrr];exact(Row.cg dz _).trans (aQ.of_eq (oN U))
 have lu:0<U.length:=VC.mpr nU;have lr:r.length<U.length:=by
  have h1:=gN ((fK U).map (·.fmod p));have h2:(fK U).length=U.length-1:=by unfold fK gm;rw[Vg,Vg,VU]
  rw[<-hrr,Vg]at h1;lia
 obtain⟨x,hx⟩:=h;have e1:aQ p (λk=>t*(c*jy (cf U) k)) (mF (x.map (t * ·)) (cf U)):=(aQ.smul t (aQ.trans (aQ.of_eq λk=>(Nu c (jy (cf U)) k).symm) hx)).trans (aQ.of_eq λk=>(rH (cf U) t x k).symm);have e2:aQ p (jy (cf U)) (λk=>t*(c*jy (cf U) k)):=λk=>by
  have q:Cg p (t*c) 1:=⟨(t*c) / p,by have:=Wb (t*c) p;lia⟩
  have:=q.BM (jy (cf U) k);rw[WS,Wj]at this;exact this.symm
 have rn:=kE dz R nU l1 lr (cr.trans (e2.trans e1));rw[rn]at cr;by_cases hU1:U.length=1
 .rw[hU1];rfl
 .have q:=cr (U.length-2);rw[cz]at q;have e3:jy (cf U) (U.length-2)=((U.length:Int)-1)*aM U:=by show(((U.length-2:Nat):Int)+1)*cf U (U.length-2+1)=_;rw[show U.length-2+1=U.length-1 by lia];have:cf U (U.length-1)=aM U:=rfl;rw[this,show(((U.length-2:Nat):Int)+1)=(U.length:Int)-1 by lia]
  rw[e3,l1,Xa]at q;obtain⟨k,hk⟩:=q;have:(U.length:Int)-1=p*(-k):=by rw[XZ];lia
  rw[this];exact Int.mul_emod_right p (-k)
end PG
namespace SA
section
variable{R:Type}[Lean.Grind.CommRing R]{d:R->R}
theorem aap(dm:∀a b,d (a*b)=d a*b+a*d b){S D S1 z T U W V c a b:R}(hS:S=D*S1)(hz:d S=D*z)(hT:T*U=S*d U)(hb:a*D+b*T=1)(hW:D*d W=c*W*d D)(hU:U=W*V)(cn:∀x y:R,W*x=W*y->x=y):∃V',V=D*V':=by
 have h1:T*V=D*(c*(z-d S1)*V+S1*d V):=by
  apply cn;have e1:d S=d D*S1+D*d S1:=by rw[hS,dm]
  have e2:d U=d W*V+W*d V:=by rw[hU,dm]
  grind
 exact⟨a*V+b*(c*(z-d S1)*V+S1*d V),by grind⟩
theorem abW(dm:∀a b,d (a*b)=d a*b+a*d b){D W c:R}(hW:D*d W=c*W*d D):D*d (D*W)=(1+c)*(D*W)*d D:=by rw[dm];grind
end
section
variable{R:Type}[Lean.Grind.CommRing R]{d:R->R}
def b?(a b:R):Prop:=∃x y,x*a+y*b=1
theorem b?.symm{a b:R}(h:b? a b):b? b a:=by obtain⟨x,y,h⟩:=h;exact⟨y,x,by grind⟩
theorem b?.mul{a b c:R}(h:b? a b)(k:b? a c):b? a (b*c):=by obtain⟨x,y,h⟩:=h;obtain⟨z,w,k⟩:=k;exact⟨x*z*a+x*w*c+y*b*z,y*w,by grind⟩
theorem b?.DD{a b c:R}(h:b? a (b*c)):b? a b:=by obtain⟨x,y,h⟩:=h;exact⟨x,y*c,by grind⟩
theorem b?.one{a:R}:b? a 1:=⟨0,1,by grind⟩
theorem rK(dm:∀a b,d (a*b)=d a*b+a*d b){P F:R}(h:b? (P*F) (d (P*F))):b? P F/\b? P (d P)/\b? F (d F):=by obtain⟨x,y,h⟩:=h;rw[dm]at h;exact⟨⟨x*F+y*d F,y*d P,by grind⟩,⟨x*F+y*d F,y*F,by grind⟩,⟨x*P+y*d P,y*P,by grind⟩⟩
theorem Az{a b c x y:R}(h:b? a b)(h1:a=c*x)(h2:b=c*y):∃z,c*z=1:=by obtain⟨u,v,h⟩:=h;exact⟨u*x+v*y,by grind⟩
theorem JN{P F U S a b:R}(hS:S=P*F)(hF:F=a*S+b*U)(hPF:b? P F):b? P U:=by obtain⟨x,y,h⟩:=hPF;exact⟨x+y*a*F,y*b,by grind⟩
end
end SA
namespace PG
open PySem.Spec L2 MN
open PyProof.Rows hiding St kindOf
def aaq(p:Int):Setoid (_h):=⟨λa b=>aQ p (cf a) (cf b),⟨λa=>aQ.refl p _,λh=>h.symm,λh k=>h.trans k⟩⟩
def ah(p:Int):Type:=Quotient (aaq p)
def ak(a:_h):ah p:=Quotient.mk (aaq p) a
theorem mk_eq{a b:_h}(h:aQ p (cf a) (cf b)):(ak a:ah p)=ak b:=Quotient.sound h
theorem ug{a b:_h}(h:(ak a:ah p)=ak b):aQ p (cf a) (cf b):=Quotient.exact h
theorem dc{P:ah p->Prop}(h:∀a,P (ak a)):∀x,P x:=λx=>Quotient.inductionOn x h
theorem de(a b:_h)(k:Nat):cf (nE a b) k=cf a k+cf b k:=by rw[<-fL (nE a b) k,kG,fL,fL]
theorem jO(c:Int)(a:_h)(k:Nat):cf (a.map (c * ·)) k=c*cf a k:=by rw[<-fL (a.map (c * ·)) k,rH,fL]
instance:Add (ah p):=⟨λx y=>Quotient.liftOn₂ x y (λa b=>ak (nE a b)) λa b a' b' h k=>mk_eq (((aQ.of_eq (de a b)).trans (aQ.add h k)).trans (aQ.of_eq (de a' b')).symm)⟩
theorem aar{a b a' b':_h}(h:aQ p (cf a) (cf a'))(k:aQ p (cf b) (cf b')):aQ p (cf (bY a b)) (cf (bY a' b')):=
 ((aQ.of_eq (aV a b)).trans ((k.mF a).trans (h.mFl b'))).trans (aQ.of_eq (aV a' b')).symm
instance:Mul (ah p):=⟨λx y=>Quotient.liftOn₂ x y (λa b=>ak (bY a b)) λa b a' b' h k=>mk_eq (aar h k)⟩
instance:Neg (ah p):=⟨λx=>Quotient.liftOn x (λa=>ak (a.map (-1 * ·))) λa b h=>mk_eq (((aQ.of_eq (jO (-1) a)).trans (h.smul (-1))).trans (aQ.of_eq (jO (-1) b)).symm)⟩
instance:Sub (ah p):=⟨λx y=>x + -y⟩
instance:NatCast (ah p):=⟨λn=>ak [(n:Int)]⟩
instance (n:Nat):OfNat (ah p) n:=⟨ak [(n:Int)]⟩
instance:IntCast (ah p):=⟨λn=>ak [n]⟩
instance:SMul Nat (ah p):=⟨λn x=>ak [(n:Int)]*x⟩
instance:SMul Int (ah p):=⟨λn x=>ak [n]*x⟩
def aas(x:ah p):Nat->ah p
 |0=>ak [1]
 |n+1=>aas x n*x
instance:HPow (ah p) Nat (ah p):=⟨aas⟩
theorem sS(a b:_h):(ak a:ah p)+ak b=ak (nE a b):=rfl
theorem wK(a b:_h):(ak a:ah p)*ak b=ak (bY a b):=rfl
theorem JO(a:_h):-(ak a:ah p)=ak (a.map (-1 * ·)):=rfl
theorem fV{a b:_h}(h:∀k,cf a k=cf b k):(ak a:ah p)=ak b:=mk_eq (aQ.of_eq h)
theorem iq(c:Int)(k:Nat):cf [c] k=c*one k:=by
 cases k with
 |zero=>show c=c*1;lia
 |succ k=>rw[bO,cz];show 0=c*cf [1] (k+1);rw[bO,cz,Wi]
theorem rL(c:Int)(f:Cf)(k:Nat):mF [c] f k=c*f k:=Nu c f k
theorem bR(x y:ah p):x*y=y*x:=by revert x;refine dc λa=>?_;revert y;refine dc λb=>?_;rw[wK,wK];exact fV λk=>by rw[aV,aV,dZ]
theorem BU(x y:ah p):x+y=y+x:=by revert x;refine dc λa=>?_;revert y;refine dc λb=>?_;exact fV λk=>by rw[de,de];lia
theorem AA(x y z:ah p):x+y+z=x+(y+z):=by revert x;refine dc λa=>?_;revert y;refine dc λb=>?_;revert z;refine dc λc=>?_;exact fV λk=>by rw[de,de,de,de];lia
theorem dg(x y z:ah p):x*y*z=x*(y*z):=by
 revert x;refine dc λa=>?_;revert y;refine dc λb=>?_;revert z;refine dc λc=>?_;exact fV λk=>by rw[aV,aV,gg];exact b8 (λj=>(aV b c j).symm) a k
theorem wL(x y z:ah p):x*(y+z)=x*y+x*z:=by
 revert x;refine dc λa=>?_;revert y;refine dc λb=>?_;revert z;refine dc λc=>?_;exact fV λk=>by rw[aV,de,aV,aV,<-oK];exact b8 (λj=>de b c j) a k
theorem wM(x:ah p):(ak [1]:ah p)*x=x:=by revert x;refine dc λa=>?_;exact fV λk=>by rw[aV,rL,WS]
theorem jh(k:Nat):cf [0] k=0:=by rw[iq,Wy]
theorem uh(x:ah p):(ak [0]:ah p)*x=ak [0]:=by revert x;refine dc λa=>?_;exact fV λk=>by rw[aV,rL,Wy,jh]
theorem BV(x:ah p):x+(ak [0]:ah p)=x:=by revert x;refine dc λa=>?_;exact fV λk=>by rw[de,jh,WQ]
theorem jP(a b:Int):(ak [a+b]:ah p)=ak [a]+ak [b]:=fV λk=>by rw[de,iq,iq,iq,Yo]
instance:Lean.Grind.CommRing (ah p) where
 natCast:=inferInstance
 ofNat:=inferInstance
 nsmul:=inferInstance
 npow:=inferInstance
 add_zero:=BV
 add_comm:=BU
 add_assoc:=AA
 mul_assoc:=dg
 mul_one x:=(bR _ _).trans (wM x)
 one_mul:=wM
 left_distrib:=wL
 right_distrib x y z:=by rw[bR,wL,bR z x,bR z y]
 zero_mul:=uh
 mul_zero x:=(bR _ _).trans (uh x)
 pow_zero _:=rfl
 pow_succ _ _:=rfl
 ofNat_succ n:=jP n 1
 neg_add_cancel x:=by revert x;refine dc λa=>?_;exact fV λk=>by rw[de,jO];show _=cf [0] k;rw[jh];lia
 sub_eq_add_neg _ _:=rfl
 intCast:=inferInstance
 zsmul:=inferInstance
 neg_zsmul i x:=by
  revert x;refine dc λa=>?_;exact fV λk=>by rw[jO,aV,aV,rL,rL,XY,XY,WS]
 intCast_neg i:=fV λk=>by rw[jO,iq,iq,XY,XY,WS]
 mul_comm:=bR
theorem BW(a:_h)(k:Nat):cf (dL a) k=jy (cf a) k:=by
 have h:=BS one a k;have z:∀j,jy one j=0:=λj=>by show((j:Int)+1)*cf [1] (j+1)=0;rw[bO,cz,Wi]
 have e1:jy (mF a one) k=jy (cf a) k:=by show((k:Int)+1)*mF a one (k+1)=((k:Int)+1)*cf a (k+1);rw[fL]
 have e2:mF a (jy one) k=0:=by rw[b8 (g:=cf []) (λj=>by rw[z,cz]) a k,dZ];rfl
 rw[e1,e2,fL]at h;lia
def dP(x:ah p):ah p:=Quotient.liftOn x (λa=>ak (dL a)) λa b h=>mk_eq (((aQ.of_eq (BW a)).trans (aQ.jy h)).trans (aQ.of_eq (BW b)).symm)
theorem j_(x y:ah p):dP (x*y)=dP x*y+x*dP y:=by
 revert x;refine dc λa=>?_;revert y;refine dc λb=>?_;refine fV λk=>?_;rw[BW,de,aV,aV];have e:jy (cf (bY a b)) k=jy (mF a (cf b)) k:=by show((k:Int)+1)*cf (bY a b) (k+1)=((k:Int)+1)*mF a (cf b) (k+1);rw[aV]
 rw[e,BS,b8 (λj=>(BW b j).symm) a k];lia
theorem JP(a:_h):dP (ak a:ah p)=ak (fK a):=fV λk=>by rw[BW,oN]
theorem at2{x z:aj}{r:List aj}:L2.oy (x::y::z::r) 2=some z:=L2.jK (xs:=x::y::z::r) (j:=2) rfl
theorem at3{x z w:aj}{r:List aj}:L2.oy (x::y::z::w::r) 3=some w:=L2.jK (xs:=x::y::z::w::r) (j:=3) rfl
theorem at4{x z w:aj}{r:List aj}:L2.oy (x::y::z::w::v::r) 4=some v:=L2.jK (xs:=x::y::z::w::v::r) (j:=4) rfl
theorem j!(hp:dD p=true){n:Nat}{st:af}(l1:st[n]?=some (ay as))(l2:st[m]?=some (ay bs))(ha:Row p as)(t_:as.length<=100000)(uD:bs.length<=100000):
  ∃aI k,PM.dW [.int p,.loc n,.loc m] st=.ok (.loc k) aI/\Fr st aI/\st.length<=k/\aI[k]?=some (ay (ow p as bs)):=by
 obtain⟨g,k,e,o,l⟩:=wF (iK hp) (ax l1) (ax l2) t_ uD (ha.sm hp);exact⟨st++g,k,e,Fr.app _ _,o,l⟩
theorem nF(hp:dD p=true){n:Nat}{st:af}(l1:st[n]?=some (ay as))(l2:st[m]?=some (ay bs))(t_:as.length<=100000)(uD:bs.length<=100000):
  ∃aI k,PM.bK [.int p,.loc n,.loc m,.int (-1)] st=.ok (.loc k) aI/\Fr st aI/\st.length<=k/\aI[k]?=some (ay (jF p as bs)):=by
 obtain⟨g,k,e,o,l⟩:=oH (f:=-1) (iK hp) (ax l1) (ax l2) t_ uD ⋯ ⋯;exact⟨st++g,k,e,Fr.app _ _,o,l⟩
theorem nH(hp:dD p=true)(t:Int){n:Nat}{st:af}(l1:st[n]?=some (ay as))(ha:Row p as)(t_:as.length<=100000):
  ∃aI k,PM.d? [.int p,.loc n,.int t] st=.ok (.loc k) aI/\Fr st aI/\st.length<=k/\aI[k]?=some (ay (mulR p t as)):=by
 obtain⟨g,k,e,o,l⟩:=uM (f:=t) (iK hp) (ax l1) t_ (ha.sm hp);exact⟨st++g,k,e,Fr.app _ _,o,l⟩
theorem G?(hp:dD p=true){A:_h}{N:Nat}{g0 g1:_h}(h:jG p A B N g0 u0 v0 g1 u1 v1)(hN:N<=50000)(hg:g1≠[]){a0 a1 a2 b0 b1 b2:Nat}{st:af}(la0:st[a0]?=some (ay g0))(Tc:st[a1]?=some (ay u0))(la2:st[a2]?=some (ay v0))(Td:st[b0]?=some (ay g1))(lb1:st[b1]?=some (ay u1))(lb2:st[b2]?=some (ay v1)):
  ∃aI c0 c1 c2,PM.gL [.int p,.tup [.loc a0,.loc a1,.loc a2],.tup [.loc b0,.loc b1,.loc b2]] st=.ok (.tup [.loc c0,.loc c1,.loc c2]) aI/\Fr st aI /\
   aI[c0]?=some (ay (iF p g0 g1))/\aI[c1]?=some (ay (jF p u0 (ow p (bU p g0 g1) u1)))/\aI[c2]?=some (ay (jF p v0 (ow p (bU p g0 g1) v1))):=by
 have hr:=au hp;have dz:0<p:=⋯
 have hl:¬ aM g1 % p=0:=by have:=h.r1.last dz hg;rw[V9 ⋯ this.2];lia
 have i1:=h.RQ;have i2:=h.lv1;have i3:=h.lu0;have i4:=h.lv0;obtain⟨s1,k1,k2,e1,F1,_,_,_,m1,m2⟩:=gQ hp (ax la0) Td hg hl ⋯ ⋯;obtain⟨sq,sr,slt,sc,sl⟩:=fM hp (as:=g0) hg hl;obtain⟨s2,t1,e2,F2,_,n1⟩:=j! hp m1 (F1 _ _ lb1) sq ⋯ ⋯;obtain⟨s3,t2,e3,F3,_,n2⟩:=j! hp (F2 _ _ m1) (F2 _ _ (F1 _ _ lb2)) sq ⋯ ⋯;have q1:=(rA p (bU p g0 g1) u1).1;have q2:=(rA p (bU p g0 g1) v1).1;have hc:dS (λ_=>True) (aA 0) bj (ao PM.dW (aa d! (aa (ag bJ d6 cW) (aa (ag bJ bT bc) ai)))) [.int 1,.int 2] [qn, some (.tup [.loc b0,.loc b1,.loc b2]), some (.tup [.loc k1,.loc k2]), qI p] s1 []=.ok [.loc t1,.loc t2] s3:=by
  rw[gO (u:=.int 1) (y:=.loc t1) (τ1:=[some (.int 1),some (.tup [.loc b0,.loc b1,.loc b2]),some (.tup [.loc k1,.loc k2]),some (.int p)]) (st1:=s2) trivial rfl (by simp![a! qf,a! vm,e2]),
   gO (u:=.int 2) (y:=.loc t2) (τ1:=[some (.int 2),some (.tup [.loc b0,.loc b1,.loc b2]),some (.tup [.loc k1,.loc k2]),some (.int p)]) (st1:=s3) trivial rfl (by simp![a! qf,a! at2,e3]),jb trivial]
  rfl
 have gY:iV 1 [2,3,0] [qI p, some (.tup [.loc a0,.loc a1,.loc a2]), some (.tup [.loc b0,.loc b1,.loc b2]), some (.tup [.loc k1,.loc k2]), qn]=[qn, some (.tup [.loc b0,.loc b1,.loc b2]), some (.tup [.loc k1,.loc k2]), qI p]:=rfl;have OR:=F1.trans (F2.trans F3);have F4:=Fr.app s3 [aZ.lst [.loc t1,.loc t2]];have lt:=du s3 [.loc t1,.loc t2];obtain⟨s4,hs4⟩:=ZB (s3++[aZ.lst [.loc t1,.loc t2]])
 obtain⟨k4,hk4⟩:=ZB s3.length
 rw[hs4]at F4 lt;rw[hk4]at lt;obtain⟨s5,c1,e5,F5,_,x1⟩:=nF hp (F4 _ _ (OR _ _ Tc)) (F4 _ _ (F3 _ _ n1)) ⋯ ⋯;obtain⟨s6,c2,e6,F6,_,x2⟩:=nF hp (F5 _ _ (F4 _ _ (OR _ _ la2))) (F5 _ _ (F4 _ _ n2)) ⋯ ⋯;have g1':=dB lt (qf (x:=.loc t1) (r:=[.loc t2]));have g2':=dB (F5.it lt) (vm (x:=.loc t1) (y:=.loc t2) (r:=[]));refine⟨s6,k2,c1,c2,?_,OR.trans (F4.trans (F5.trans F6)),F6 _ _ (F5 _ _ (F4 _ _ (F3 _ _ (F2 _ _ m2)))),F6 _ _ x1,x2⟩;simp![PM.gL,fB,dN,Vp,a! qf,a! vm,a! at2,e1,gY,hc,hs4,hk4,g1',e5,g2',e6]
abbrev RV:MT:=gA (ag v! (ao bD (aa (ag bJ fY cW) ai)) cW)
abbrev RW:MB:=az (aK 5 (ao PM.gL (aa bc (aa d! (aa fY ai))))) (az (aK 3 fY) (aK 4 iU))
def sT(a b c:Nat):Option aj:=some (.tup [.loc a,.loc b,.loc c])
def abX(μ:MN.Env)(s:af):Nat:=match(μ[4]?:Option (Option aj)) with
 |some (some (.tup (.loc k::_)))=>ig k s
 |_=>0
structure BX(p:Int)(A B:_h)(N:Nat)(n m:Nat)(st:af)(μ:MN.Env)(s:af)(a0 a1 a2 b0 b1 b2:Nat)(g0 u0 v0 g1 u1 v1:_h):Prop where
 env:∃x5,μ=[some (.int p),some (.loc n),some (.loc m),sT a0 a1 a2,sT b0 b1 b2,x5,none,none,none,none]
 fr:Fr st s
 inv:jG p A B N g0 u0 v0 g1 u1 v1
 la0:s[a0]?=some (ay g0)
 Tc:s[a1]?=some (ay u0)
 la2:s[a2]?=some (ay v0)
 Td:s[b0]?=some (ay g1)
 lb1:s[b1]?=some (ay u1)
 lb2:s[b2]?=some (ay v1)
theorem JQ(hp:dD p=true){A:_h}{N n:Nat}(hN:N<=50000){st:af}{μ:MN.Env}{s:af}{a0 a1 a2 b0 b1 b2:Nat}{g0 g1:_h}(h:BX p A B N n m st μ s a0 a1 a2 b0 b1 b2 g0 u0 v0 g1 u1 v1):
  ∃μ' s' a0 a1 a2 b0 b1 b2 g u v u1 v1,e! RV RW μ s=.nx μ' s'/\BX p A B N n m st μ' s' a0 a1 a2 b0 b1 b2 g u v [] u1 v1:=by
 obtain⟨μ',s',e,a0,a1,a2,b0,b1,b2,g,u,v,u1,v1,hq⟩:=il (t:=RV) (body:=RW)
  (λμ s=>∃a0 a1 a2 b0 b1 b2 g0 u0 v0 g1 u1 v1,BX p A B N n m st μ s a0 a1 a2 b0 b1 b2 g0 u0 v0 g1 u1 v1) abX
  (λμ s=>∃a0 a1 a2 b0 b1 b2 g u v u1 v1,BX p A B N n m st μ s a0 a1 a2 b0 b1 b2 g u v [] u1 v1)
  (by
   rintro μ s ⟨a0,a1,a2,b0,b1,b2,g0,u0,v0,g1,u1,v1,h⟩;obtain⟨x5,rfl⟩:=h.env;obtain⟨L,hL⟩:=NE ((g1.length:Int):Int)
   have kl:bD [.loc b0] s=.ok (.int L) s:=by rw[a_ (ax h.Td),aE,hL]
   by_cases hg:g1=[]
   .subst hg;have h0:decide ((0:Int)<L)=false:=V5 (by rw[hL];simp);refine .inl ⟨s,?_,a0,a1,a2,b0,b1,b2,g0,u0,v0,u1,v1,h⟩;simp![sT,a! qf,kl,h0]
   .have hg0:0<g1.length:=VC.mpr hg;have h0:decide ((0:Int)<L)=true:=V8 ⋯;obtain⟨s',c0,c1,c2,e,F,l0,l1,l2⟩:=G? hp h.inv hN hg h.la0 h.Tc h.la2 h.Td h.lb1 h.lb2;have hl:¬ aM g1 % p=0:=by have:=h.inv.r1.last (by have:=au hp;lia) hg;rw[V9 ⋯ this.2];lia
    have slt:=(fM hp (as:=g0) hg hl).2.2.1;refine .inr ⟨s,[some (.int p),some (.loc n),some (.loc m),sT b0 b1 b2,sT c0 c1 c2,sT c0 c1 c2,none,none,none,none],s',?_,.inl ?_,⟨b0,b1,b2,c0,c1,c2,g1,u1,v1,_,_,_,⟨_,rfl⟩,h.fr.trans F,h.inv.step hp hg,F _ _ h.Td,F _ _ h.lb1,F _ _ h.lb2,l0,l1,l2⟩,?_⟩
    .simp![sT,a! qf,kl,h0]
    .simp![sT,e]
    .show ig c0 s'<ig b0 s;unfold ig;rw[ax l0,ax h.Td];show((iF p g0 g1).map aj.int).length<(g1.map aj.int).length;rw[aE,aE];exact slt)
  μ s ⟨a0,a1,a2,b0,b1,b2,g0,u0,v0,g1,u1,v1,h⟩
 exact⟨μ',s',a0,a1,a2,b0,b1,b2,g,u,v,u1,v1,e,hq⟩
structure wN(p:Int)(A B G S T U V:_h):Prop where
 rG:Row p G
 rS:Row p S
 rT:Row p T
 rU:Row p U
 rV:Row p V
 nG:G≠[]
 lG:aM G=1
 cA:aQ p (cf A) (mF S (cf G))
 cB:aQ p (cf B) (mF T (cf G))
 cG:aQ p (cf G) (λk=>mF U (cf A) k+mF V (cf B) k)
 acC:G.length<=50000/\S.length<=50000/\T.length<=50000/\U.length<=50000/\V.length<=50000
theorem RX(hp:dD p=true){n:Nat}{A:_h}{st:af}(ln:st[n]?=some (ay A))(lm:st[m]?=some (ay B))(hA:Row p A)(hB:Row p B)(hn:A≠[]\/B≠[])(t_:A.length<=5000)(uD:B.length<=5000):
  ∃aI k1 k2 k3 k4 k5 G S T U V,PM.met [.int p,.loc n,.loc m] st=.ok (.tup [.loc k1,.loc k2,.loc k3,.loc k4,.loc k5]) aI/\Fr st aI/\wN p A B G S T U V/\sQ aI [k1,k2,k3,k4,k5] [G,S,T,U,V]/\[k1,k2,k3,k4,k5].Nodup/\(∀k∈[k1,k2,k3,k4,k5],st.length<=k):=by
 have hr:=au hp;have dz:0<p:=⋯
 have l1:=c! (c! (c! (bu st [.int 1]) [aZ.lst []]) [aZ.lst []]) [aZ.lst [.int 1]];have l2:=c! (c! (bu (st++[aZ.lst [.int 1]]) []) [aZ.lst []]) [aZ.lst [.int 1]];have l3:=c! (bu (st++[aZ.lst [.int 1]]++[aZ.lst []]) []) [aZ.lst [.int 1]];have l4:=bu (st++[aZ.lst [.int 1]]++[aZ.lst []]++[aZ.lst []]) [.int 1];have F0:Fr st (st++[aZ.lst [.int 1]]++[aZ.lst []]++[aZ.lst []]++[aZ.lst [.int 1]]):=(((Fr.app st _).more _).more _).more _;obtain⟨i1,hi1⟩:=ZB st.length
 obtain⟨i2,hi2⟩:=ZB ((st++[aZ.lst [.int 1]]).length)
 obtain⟨i3,hi3⟩:=ZB ((st++[aZ.lst [.int 1]]++[aZ.lst []]).length)
 obtain⟨i4,hi4⟩:=ZB ((st++[aZ.lst [.int 1]]++[aZ.lst []]++[aZ.lst []]).length)
 obtain⟨s0,HL⟩:=ZB (st++[aZ.lst [.int 1]]++[aZ.lst []]++[aZ.lst []]++[aZ.lst [.int 1]])
 rw[hi1,HL]at l1;rw[hi2,HL]at l2;rw[hi3,HL]at l3;rw[hi4,HL]at l4;rw[HL]at F0;have start:BX p A B (A.length+B.length+1) n m s0 [some (.int p),some (.loc n),some (.loc m),sT n i1 i2,sT m i3 i4,none,none,none,none,none] s0 n i1 i2 m i3 i4 A [1] [] B [] [1]:=
  ⟨⟨_,rfl⟩,Fr.refl _,jG.start hr.1 hA hB hn,F0 _ _ ln,l1,l2,F0 _ _ lm,l3,l4⟩
 obtain⟨μ',s1,a0,a1,a2,b0,b1,b2,g,u,v,u1,v1,ew,hq⟩:=JQ hp ⋯ start;obtain⟨x5,rfl⟩:=hq.env;have hg:g≠[]:=by rcases hq.inv.ne with z|z;exact z;exact absurd rfl z
 have hlg:=hq.inv.r0.last dz hg;obtain⟨gi,t,ei,t1,t2,t3⟩:=gf hp (n:=aM g) (by rw[V9 ⋯ hlg.2];lia) s1;obtain⟨rG,nG,lG,cA,cB,cG⟩:=hq.inv.done hp hA hB t3;have F2:=Fr.app s1 gi;obtain⟨s2,su⟩:=ZB (s1++gi)
 rw[su]at ei F2;have j1:=hq.inv.RQ;have j2:=hq.inv.lu0;have j3:=hq.inv.lv0;have gx:=dB (ax hq.la0) (rp hg);obtain⟨s3,k1,e3,F3,o1,y1⟩:=nH hp t (F2 _ _ hq.la0) hq.inv.r0 ⋯;have hGl:=oM p t g;have xN:¬ aM (mulR p t g) % p=0:=by rw[lG,V9 ⋯ ⋯];lia
 have ui:=F0.trans (hq.fr.trans (F2.trans F3));obtain⟨s4,k2,z2,e4,F4,o2,_,_,y2,_⟩:=gQ hp (ax (ui _ _ ln)) y1 nG xN ⋯ ⋯;obtain⟨s5,k3,z3,e5,F5,o3,_,_,y3,_⟩:=gQ hp (ax (F4 _ _ (ui _ _ lm))) (F4 _ _ y1) nG xN ⋯ ⋯;have F25:=F2.trans (F3.trans (F4.trans F5));obtain⟨s6,k4,e6,F6,o4,y4⟩:=nH hp t (F25 _ _ hq.Tc) hq.inv.ru0 ⋯;obtain⟨s7,k5,e7,F7,o5,y5⟩:=nH hp t (F6 _ _ (F25 _ _ hq.la2)) hq.inv.rv0 ⋯;have F37:=F4.trans (F5.trans (F6.trans F7));have F07:=ui.trans F37;obtain⟨qA,_,_,_,qlA⟩:=fM hp (as:=A) nG xN;obtain⟨qB,_,_,_,qlB⟩:=fM hp (as:=B) nG xN;have lu:=oM p t u;have lv:=oM p t v;have w1:=aU y1;have w2:=aU y2;have w3:=aU y3;have w4:=aU y4;have w5:=aU y5;have n3:st.length<=s2.length:=(F0.trans (hq.fr.trans F2)).len;have f4:=F4.len;have f5:=F5.len;have f6:=F6.len;have f3:=F3.len;refine⟨s7,k1,k2,k3,k4,k5,mulR p t g,bU p A (mulR p t g),bU p B (mulR p t g),mulR p t u,mulR p t v,?_,F07,⟨rG,qA,qB,Row.of dz _,Row.of dz _,nG,lG,cA,cB,cG,⋯⟩,?_,?_,?_⟩
 .have ew':e! RV RW [qI p, qL n, qL m, some (.tup [.loc n,.loc i1,.loc i2]), some (.tup [.loc m,.loc i3,.loc i4]), qn, qn, qn, qn, qn] s0=.nx [some (.int p),some (.loc n),some (.loc m),sT a0 a1 a2,sT b0 b1 b2,x5,none,none,none,none] s1:=ew;simp![PM.met,Vp,hi1,hi2,hi3,hi4,HL,ew',sT,a! qf,a! vm,a! at2,gx,ei,e3,e4,e5,e6,e7]
 .exact .cons (F37 _ _ y1) (.cons ((F5.trans (F6.trans F7)) _ _ y2) (.cons ((F6.trans F7) _ _ y3) (.cons (F7 _ _ y4) (.cons y5 (.nil _)))))
 .simp only[WJ,VX,Yv,YI,not_or,List.nodup_nil,and_true,not_false_eq_true];lia
 .intro k hk;simp only[VX,Yv,YI]at hk;lia
end PG
namespace SO
open PySem.W PyProof.Rows
abbrev g(p:Array Nat)(i:Nat):Nat:=p.getD i 0
theorem AB(p:Array Nat)(i:Nat):g p i=(p[i]?).getD 0:=Array.getD_eq_getD_getElem?
def Ok(L:Nat->Nat->Bool)(n:Nat){α:Type}(P:α->Prop):KasT α->Prop
 |.ret a=>P a
 |.ask i j k=>i<n/\j<n/\Ok L n P (k (L i j))
theorem Ok.bind{L:Nat->Nat->Bool}{n:Nat}{P:α->Prop}{Q:β->Prop}{f:α->KasT β}(hf:∀a,P a->Ok L n Q (f a)):∀{t:KasT α},Ok L n P t->Ok L n Q (t.bind f)
 |.ret a,h=>hf a h
 |.ask _ _ _,h=>⟨h.1,h.2.1,Ok.bind hf h.2.2⟩
theorem Ok.imp{L:Nat->Nat->Bool}{n:Nat}{P Q:α->Prop}(hf:∀a,P a->Q a):∀{t:KasT α},Ok L n P t->Ok L n Q t
 |.ret a,h=>hf a h
 |.ask _ _ _,h=>⟨h.1,h.2.1,Ok.imp hf h.2.2⟩
theorem Ok.wp{L:Nat->Nat->Bool}{n:Nat}{P:α->Prop}{cmp:Nat->Nat->(Bool->_n->Prop)->_n->Prop}{R:_n->Prop}{Q:α->_n->Prop}(ha:∀i j s(C:Bool->_n->Prop),i<n->j<n->R s->(∀s',R s'->C (L i j) s')->cmp i j C s)(hq:∀a s,P a->R s->Q a s):∀{t:KasT α}{s:_n},Ok L n P t->R s->t.kasWp cmp Q s
 |.ret a,s,h,r=>hq a s h r
 |.ask i j k,s,h,r=>ha i j s _ h.1 h.2.1 r λs' r'=>Ok.wp ha hq h.2.2 r'
structure Ord(L:Nat->Nat->Bool)(n:Nat):Prop where
 tr:∀i j k,i<n->j<n->k<n->L i j=true->L j k=true->L i k=true
 tot:∀i j,i<n->j<n->i≠j->L i j=false->L j i=true
 abY:∀i j,i<n->j<n->L i j=true->L j i=false
def Pm(n:Nat)(p:Array Nat):Prop:=p.Perm (List.toArray (List.range n))
section
variable{n:Nat}{p:Array Nat}
theorem Pm.list(h:Pm n p):p.toList.Perm (List.range n):=Array.perm_iff_toList_perm.mp h
theorem Pm.size(h:Pm n p):p.size=n:=by have:=h.list.length_eq;rw[VU]at this;exact this
theorem Pm.get(h:Pm n p){i:Nat}(hi:i<n):p[i]?=some (g p i):=by
 have hz:i<p.size:=by rw[h.size];exact hi
 rw[AB,Z5 p i hz];rfl
theorem Pm.lt(h:Pm n p){i:Nat}(hi:i<n):g p i<n:=by
 have hz:i<p.size:=by rw[h.size];exact hi
 have e:g p i=p.toList[i]'hz:=by rw[AB,Z5 p i hz];rfl
 have m:g p i∈p.toList:=by rw[e];exact Xl _
 exact X6.mp (h.list.mem_iff.mp m)
theorem Pm.inj(h:Pm n p){i j:Nat}(hi:i<n)(hj:j<n)(e:g p i=g p j):i=j:=by
 have hz:i<p.size:=by rw[h.size];exact hi
 have Te:j<p.size:=by rw[h.size];exact hj
 have nd:p.toList.Nodup:=h.list.nodup_iff.mpr List.nodup_range;have e1:g p i=p.toList[i]'hz:=by rw[AB,Z5 p i hz];rfl
 have e2:g p j=p.toList[j]'Te:=by rw[AB,Z5 p j Te];rfl
 rw[e1,e2]at e;exact(Zy nd).mp e
theorem Pm.start(n:Nat):Pm n (List.toArray (List.range n)):=Array.Perm.refl _
theorem Pm.rev(h:Pm n p)(i j:Nat):Pm n (kas_rev p i j):=(mirror_perm p i j _).trans h
theorem Pm.bub(h:Pm n p)(i j:Nat):Pm n (bubble p i j):=(bubble_perm p i j).trans h
theorem OS(h:Pm n p){i:Nat}(hm:m<=n)(hi:i<m):g (kas_rev p 0 m) i=g p (m-1-i):=by rw[AB,AB];unfold kas_rev;rw[getElem?_mirror_all (by rw[h.size];exact hm),Vv ⟨Wd _,hi⟩,VZ]
theorem OT(h:Pm n p){k l i:Nat}(hk:k<n)(hl:l<=k):g (bubble p k (k-l)) i=if i=l then g p k else if l<i/\i<=k then g p (i-1)else g p i:=by
 have e:k-(k-l)=l:=⋯
 rw[AB,getElem?_bubble (by rw[h.size];exact hk) (k-l) ⋯,e];split
 .rw[AB]
 .split<;>rw[AB]
end
section
variable{L:Nat->Nat->Bool}{n:Nat}(O:Ord L n)
include O
def zj(L:Nat->Nat->Bool)(p:Array Nat)(m:Nat):Prop:=∀i,i+1<m->L (g p i) (g p (i+1))=true
def RY(L:Nat->Nat->Bool)(p:Array Nat)(m:Nat):Prop:=∀i,i+1<m->L (g p (i+1)) (g p i)=true
theorem other{p:Array Nat}(h:Pm n p){i j:Nat}(hi:i<n)(hj:j<n)(hn:i≠j)(e:L (g p i) (g p j)=false):L (g p j) (g p i)=true:=
 O.tot _ _ (h.lt hi) (h.lt hj) (λz=>hn (h.inj hi hj z)) e
theorem zj.far{p:Array Nat}(h:Pm n p)(hm:m<=n)(a:zj L p m){i:Nat}:∀d:Nat,i+d+1<m->L (g p i) (g p (i+d+1))=true
 |0,hd=>a i hd
 |d+1,hd=>O.tr _ _ _ (h.lt ⋯) (h.lt ⋯) (h.lt ⋯) (zj.far h hm a d ⋯) (a (i+d+1) hd)
theorem zj.lt{p:Array Nat}(h:Pm n p)(hm:m<=n)(a:zj L p m){i j:Nat}(hij:i<j)(hj:j<m):L (g p i) (g p j)=true:=by have:=zj.far O h hm a (i:=i) (j-i-1) ⋯;rwa [show i+(j-i-1)+1=j by lia]at this
theorem DE{p:Array Nat}(h:Pm n p):∀(f k:Nat),1<=k->k+f<=n->zj L p k->Ok L n (λm=>k<=m/\m<=k+f/\zj L p m/\(m<k+f->L (g p m) (g p (m-1))=true)) (kas_asc p f k)
 |0,k,_,_,a=>⟨Vt _,Vt _,a,λz=>absurd z (Wk _)⟩
 |f+1,k,h1,hk,a=>by
  refine⟨h.lt ⋯,h.lt ⋯,?_⟩;show Ok L n _ (if L (g p k) (g p (k-1))=true then .ret k else kas_asc p f (k+1));by_cases c:L (g p k) (g p (k-1))=true
  .rw[Vv c];exact⟨Vt _,⋯,a,λ_=>c⟩
  .rw[VG c];have c':L (g p k) (g p (k-1))=false:=by simpa using c
   have z:=other O h ⋯ ⋯ ⋯ c';refine Ok.imp (λm hm=>?_) (DE h f (k+1) ⋯ ⋯ (λi hi=>?_))
   .exact⟨⋯,⋯,hm.2.2.1,λq=>hm.2.2.2 ⋯⟩
   .by_cases e:i+1<k
    .exact a i e
    .have:i=k-1:=⋯
     subst this;rw[show k-1+1=k by lia];exact z
theorem E_{p:Array Nat}(h:Pm n p):∀(f k:Nat),1<=k->k+f<=n->RY L p k->Ok L n (λr=>r.1=p/\r.2.2=0/\k<=r.2.1/\r.2.1<=k+f/\RY L p r.2.1) (kas_desc f p k 0)
 |0,k,_,_,a=>⟨rfl,rfl,Vt _,Vt _,a⟩
 |f+1,k,h1,hk,a=>by
  refine⟨h.lt ⋯,h.lt ⋯,?_⟩;show Ok L n _ (if L (g p k) (g p (k-1))=true then(if 0>0 then kas_desc f (kas_rev p (k-(0+1)) k) (k+1) 0 else kas_desc f p (k+1) 0)else .ask (g p (k-1)) (g p k) λd=>if d=true then .ret (p,k,0)else kas_desc f p (k+1) (0+1));by_cases c:L (g p k) (g p (k-1))=true
  .rw[Vv c,VG (Wk _)];refine Ok.imp (λr hr=>⟨hr.1,hr.2.1,⋯,⋯,hr.2.2.2.2⟩) (E_ h f (k+1) ⋯ ⋯ (λi hi=>?_));by_cases e:i+1<k
   .exact a i e
   .have:i=k-1:=⋯
    subst this;rw[show k-1+1=k by lia];exact c
  .rw[VG c];have c':L (g p k) (g p (k-1))=false:=by simpa using c
   have z:=other O h ⋯ ⋯ ⋯ c';refine⟨h.lt ⋯,h.lt ⋯,?_⟩;show Ok L n _ (if L (g p (k-1)) (g p k)=true then .ret (p,k,0)else kas_desc f p (k+1) (0+1));rw[Vv z];exact⟨rfl,rfl,Vt _,YR _ _,a⟩
def Part(L:Nat->Nat->Bool)(n:Nat)(r:Nat×Array Nat):Prop:=1<=r.1/\r.1<=n/\Pm n r.2/\zj L r.2 r.1
theorem Nx{p:Array Nat}(h:Pm n p)(h1:1<=m)(hm:m<=n)(a:RY L p m):Ok L n (Part L n) (kas_tail3 m n p):=by
 have b:zj L (kas_rev p 0 m) m:=by intro i hi;rw[OS h hm ⋯,OS h hm hi];have:=a (m-1-(i+1)) ⋯;rwa [show m-1-(i+1)+1=m-1-i by lia]at this
 refine Ok.bind (λk hk=>?_) (DE O (h.rev 0 m) (n-m) m h1 ⋯ b);exact⟨⋯,⋯,h.rev 0 m,hk.2.2.1⟩
theorem JR{p:Array Nat}(h:Pm n p)(hn:1<=n):Ok L n (Part L n) (kas_count n p):=by
 refine Ok.bind (λk hk=>?_) (DE O h (n-1) 1 (Vt _) ⋯ (λi hi=>absurd hi ⋯));obtain⟨k1,k2,ka,kl⟩:=hk;have DF:Part L n (k,p):=⟨k1,by show k<=n;lia,h,ka⟩
 by_cases e:(k==n)=true
 .rw[Vv e];exact DF
 .rw[VG e];have e':k≠n:=λz=>e (by simpa using z);by_cases e1:k>1
  .rw[Vv e1];refine⟨h.lt ⋯,h.lt ⋯,?_⟩;show Ok L n _ (if L (g p 0) (g p (k-1))=true then .ret (k,p)else _);rw[Vv (zj.lt O h ⋯ ka ⋯ ⋯)];exact DF
  .rw[VG e1];have:k=1:=⋯
   subst this;have z:=kl ⋯;refine Ok.bind (λr hr=>?_) (E_ O h (n-(1+1)) (1+1) ⋯ ⋯ (λi hi=>?_))
   .obtain⟨r1,r2,r3⟩:=r;obtain⟨q1,q2,q3,q4,q5⟩:=hr;dsimp only at q1 q2 q3 q4 q5;subst q1 q2;show Ok L n _ (if 0>0 then _ else kas_tail3 r2 n r1);rw[VG (Wk _)];exact Nx O h ⋯ ⋯ q5
   .have:i=0:=⋯
    subst this;exact z
theorem wO{p:Array Nat}(h:Pm n p){k:Nat}(hk:k<n)(a:zj L p k):∀(f l r:Nat),l<=r->r<=k->r-l<=f->(∀i,i<l->L (g p i) (g p k)=true)->(∀i,r<=i->i<k->L (g p k) (g p i)=true) ->
  Ok L n (λm=>m<=k/\(∀i,i<m->L (g p i) (g p k)=true)/\∀i,m<=i->i<k->L (g p k) (g p i)=true) (kas_place p k f l r)
 |0,l,r,h1,h2,h3,lo,hi=>⟨⋯,lo,λi q=>hi i ⋯⟩
 |f+1,l,r,h1,h2,h3,lo,hi=>by
  show Ok L n _ (if l ≥ r then .ret l else .ask (g p k) (g p ((l+r) / 2)) λc=>if c=true then kas_place p k f l ((l+r) / 2)else kas_place p k f ((l+r) / 2+1) r);by_cases e:l ≥ r
  .rw[Vv e];exact⟨⋯,lo,λi q=>hi i ⋯⟩
  .rw[VG e];obtain⟨m,hm⟩:=NE ((l+r) / 2)
   rw[<-hm];have m1:l<=m:=⋯
   have m2:m<r:=⋯
   refine⟨h.lt hk,h.lt ⋯,?_⟩;show Ok L n _ (if L (g p k) (g p m)=true then kas_place p k f l m else kas_place p k f (m+1) r);by_cases c:L (g p k) (g p m)=true
   .rw[Vv c];refine wO h hk a f l m m1 ⋯ ⋯ lo λi q1 q2=>?_;by_cases q:i=m
    .rw[q];exact c
    .exact O.tr _ _ _ (h.lt hk) (h.lt ⋯) (h.lt ⋯) c (zj.lt O h ⋯ a ⋯ q2)
   .rw[VG c];have c':L (g p k) (g p m)=false:=by simpa using c
    have z:=other O h hk ⋯ ⋯ c';refine wO h hk a f (m+1) r ⋯ h2 ⋯ (λi q=>?_) hi;by_cases q1:i=m
    .rw[q1];exact z
    .exact O.tr _ _ _ (h.lt ⋯) (h.lt ⋯) (h.lt hk) (zj.lt O h ⋯ a (show i<m by lia) ⋯) z
theorem JS:∀(f:Nat)(p:Array Nat)(k:Nat),Pm n p->k+f=n->zj L p k->Ok L n (λq=>Pm n q/\zj L q n) (kas_bin f p k)
 |0,p,k,h,hk,a=>⟨h,by rw[<-hk];exact a⟩
 |f+1,p,k,h,hk,a=>by
  refine Ok.bind (λl hl=>?_) (wO O h (k:=k) ⋯ a k 0 k (Wd _) (Vt _) ⋯ (λi q=>absurd q (Y2 _)) (λi q1 q2=>absurd q1 ⋯));obtain⟨l1,lo,hi⟩:=hl;refine JS f _ (k+1) (h.bub _ _) ⋯ λi Bw=>?_;rw[OT h ⋯ l1,OT h ⋯ l1];by_cases c1:i=l
  .rw[Vv c1,VG ⋯,Vv ⋯];exact hi _ ⋯ ⋯
  .rw[VG c1];by_cases c2:i+1=l
   .rw[Vv c2,VG ⋯];exact lo i ⋯
   .rw[VG c2];by_cases c3:l<i
    .rw[Vv ⟨c3,⋯⟩,Vv ⟨⋯,⋯⟩];have:=a (i-1) ⋯;rwa [show i-1+1=i+1-1 by lia]at this
    .rw[VG ⋯,VG ⋯];exact a i ⋯
theorem Ny(hn:1<=n):Ok L n (λq=>Pm n q/\zj L q n) (kas_sort n):=by
 refine Ok.bind (λr hr=>?_) (JR O (Pm.start n) hn);obtain⟨k,p⟩:=r;obtain⟨h1,h2,h3,h4⟩:=hr;dsimp only at h1 h2 h3 h4;show Ok L n _ (if k<n then kas_bin (n-max k 1) p (max k 1)else .ret p);have e:max k 1=k:=⋯
 rw[e];by_cases c:k<n
 .rw[Vv c];exact JS O (n-k) p k h3 ⋯ h4
 .rw[VG c];have:k=n:=⋯
  subst this;exact⟨h3,h4⟩
end
def rN(h:Heap)(d:_o)(es:Array DictEntry)(ep:Nat):Prop:=∃o,h.get? d=some o/\o.cls=.type "dict" /\ o.data=.dict es ep
section
variable{w:World}{E:_c}{d it:_o}{es:Array DictEntry}{i:Nat}
theorem rN.ty(x:rN s.heap d es ep):s.TypeIs (.ref d) "dict":=by obtain⟨o,ho,hc,_⟩:=x;exact⟨o,ho,hc⟩
theorem rN.lt(x:rN h d es ep):d<h.objs.size:=by obtain⟨o,ho,_⟩:=x;exact VI ho
theorem rN.to(x:rN h d es ep)(hk:∀o,h.get? d=some o->h'.get? d=some o):rN h' d es ep:=by obtain⟨o,ho,r⟩:=x;exact⟨o,hk o ho,r⟩
theorem JT{Q:_c}(hd:(d==sysModules)=false)(x:rN s.heap d es ep)(hQ:Q (.ref s.heap.objs.size) {s with heap:=s.heap.push {cls:=.type "dict_keyiterator",data:=.fields #[.ref d,.int 0 0,.int es.size 0,.int ep 0]} }):wpAny (model prog w) A (pyIter (.ref d)) Q E s:=by obtain⟨o,go,gc,gd⟩:=id x;have T:=x.ty;refine wpAny_pyIter_slot T Zq (WZ Zq T PySem.F.entry_dict_iter ?_ (PySem.F.args_dict_iter_1 _));unfold Builtin.«dict.__iter__»;refine Vh ?_;unfold Builtin.Dict.dictSlotNone;refine Vh (wpAny_notOrdered_dict T ?_);show wpAny _ _ (pure (Value.ref d)) _ _ s;refine VE ?_;show wpAny _ _ (Builtin.Dict.showsAll d >>= _) _ _ s;unfold Builtin.Dict.showsAll;rw[VG (by rw[hd];exact VW)];refine Vh (VE ?_);refine Vh (Y6 go gd ?_);refine Vh (Zn go gd ?_);refine Vh (Wt (VE ⟨_,rfl,"dict_keyiterator",_,⟨_,VT _ rfl,rfl⟩,WD.lookup,?_⟩));simpa[rawInt]using hQ
theorem JU{Q:_j->_n->Prop}(hit:s.heap.IsKeyIter it d i es.size ep)(x:rN s.heap d es ep)(hi:i<es.size)(hQ:∀h',h'.IsKeyIter it d (i+1) es.size ep->Heap.SameBut it s.heap h'->Q (some es[i].key) {s with heap:=h'}):wpAny (model prog w) A (pyNext (.ref it)) Q E s:=by
 obtain⟨o,ho,hc,hf⟩:=id hit;obtain⟨od,go,gc,gd⟩:=id x;have T:=hit.typeIs;unfold pyNext;refine Vh (Yh (WL (name:=Str.ofString "__next__") T WD (WZ WD T YA ?_ (Yr _))));refine Vh (VE ?_);refine Vh ?_;refine Vh ?_
 first|refine Vh (Xn T (VE ?_))|refine Vh (XJ T (VE ?_))
 refine Vh (wpAny_fieldsOf ho hf ?_);have no:Builtin.Dict_items.ownsTuple "dict_keyiterator" = false:=by decide
 simp only[no,YF,Yp];show wpAny _ _ (if(Value.ref d==Value.none)=true then _ else _) _ _ s;rw[VG (show ¬ ((Value.ref d==Value.none)=true)from VW)];refine Vh (VE ?_);refine Vh (Y6 go gd ?_);rw[VG (by simp)];refine Vh (VE ?_);refine Vh (Zn go gd ?_);rw[VG (by simp)];refine VE ?_;simp only[show ¬ ((i:Int)<0)from by lia,Yp,WO,XI hi];refine Vh ?_
 first|refine Vh (Xn T (VE ?_))|refine Vh (XJ T (VE ?_))
 refine Vh (Z? T ?_);show wpAny _ _ (setField (.ref it) 1 (rawInt ((i:Int)+1)) >>= _) _ _ s;refine Vh (Xz ho hf (by simp) ?_);have go2:(s.heap.update it (Obj.mapFields (·.setIfInBounds 1 (rawInt ((i:Int)+1))))).IsKeyIter it d (i+1) es.size ep:=
  ⟨_,Xb _ ho (Xt (WH hf _)),(Obj.cls_mapFields ..).trans hc,by rw[WH hf];simp[rawInt]⟩
 refine Vh (Xs ?_);refine Vh (Z? (s:={s with heap:=s.heap.update it (Obj.mapFields (·.setIfInBounds 1 (rawInt ((i:Int)+1))))}) go2.typeIs ?_);show wpAny _ _ (pure es[i].key) _ _ _;exact VE (VE ⟨_,rfl,VE (hQ _ go2 (Xi ..))⟩)
theorem Nz{Q:_j->_n->Prop}(hh:A.handled=none)(hit:s.heap.IsKeyIter it d i es.size ep)(x:rN s.heap d es ep)(hi:es.size<=i)(hQ:∀h',Heap.ExtBut it s.heap h'->Q none {s with heap:=h'}):wpAny (model prog w) A (pyNext (.ref it)) Q E s:=by
 obtain⟨o,ho,hc,hf⟩:=id hit;obtain⟨od,go,gc,gd⟩:=id x;have T:=hit.typeIs;unfold pyNext;refine Vh (Yh (WL (name:=Str.ofString "__next__") T WD (WZ WD T YA ?_ (Yr _))));refine Vh (VE ?_);refine Vh ?_;refine Vh ?_
 first|refine Vh (Xn T (VE ?_))|refine Vh (XJ T (VE ?_))
 refine Vh (wpAny_fieldsOf ho hf ?_);have no:Builtin.Dict_items.ownsTuple "dict_keyiterator" = false:=by decide
 simp only[no,YF,Yp];show wpAny _ _ (if(Value.ref d==Value.none)=true then _ else _) _ _ s;rw[VG (show ¬ ((Value.ref d==Value.none)=true)from VW)];refine Vh (VE ?_);refine Vh (Y6 go gd ?_);rw[VG (by simp)];refine Vh (VE ?_);refine Vh (Zn go gd ?_);rw[VG (by simp)];refine VE ?_;simp only[show ¬ ((i:Int)<0)from by lia,Yp,WO,Array.getElem?_eq_none hi];refine Vh ?_
 first|refine Vh (Xn T (VE ?_))|refine Vh (XJ T (VE ?_))
 show wpAny _ _ (setField (.ref it) 0 .none >>= _) _ _ s;refine Vh (Xz ho hf (by simp) ?_);show wpAny _ _ (newExc (.type "StopIteration") [] >>= _) _ _ _;refine Vh ?_;simp only[newExc,newTuple];refine Vh (Wt ?_ (by size_fits));refine Vh (m:=firstArgMember _ _) (wpAny_of_eq (a:=Value.none) (by first|rfl|(simp only[firstArgMember];rfl)) ?_);refine Wt ?_ (by size_fits);simp only[raiseNew];refine Vh (wpAny_handled ?_);rw[show A.in1.handled=none from hh];refine Vh (VE (wpAny_throw ?_));refine Vh (Zb (T:="StopIteration") (b:=true) ⟨_,VT _ rfl,rfl⟩ isSubtype_stop ?_);exact VE (hQ _ (((Xi ..).extBut.push _).push _))
def JV(es:Array DictEntry)(i:Nat)(v:_m):Prop:=∃h:i<es.size,v=es[i].key
theorem Ha(hh:A.handled=none)(I:_o)(hne:d≠I):Walks prog w A I [I,d] [I] es.size (JV es) (λi h=>h.IsKeyIter I d i es.size ep/\rN h d es ep) where
 sub:=λb hb=>by rw[Vz]at hb;rw[hb];exact Vu
 frame:=λ_ _ _ st hk=>⟨st.1.at λo e=>hk I Vu o e,st.2.to λo e=>hk d (Vx _ Vu) o e⟩
 item:=λi s Q E hi st hQ=>JU st.1 st.2 hi λh' k1 k2=>
  hQ _ h' s.toks ⟨hi,rfl⟩ ⟨k1,st.2.to λo e=>k2.extBut d o hne e⟩ λb o hb e=>k2.extBut b o (λz=>hb (by rw[z];exact Z' _)) e
 done:=λs Q E st hQ=>Nz hh st.1 st.2 (Vt _) λh' k=>hQ h' s.toks λb o hb e=>k b o (λz=>hb (by rw[z];exact Z' _)) e
 self:=λ_ _ _ _ st hQ=>wpAny_pyIter_keyiter st.1 hQ
theorem NA(lo:(d==sysModules)=false):KdlSrc prog w "dict" d d es.size (JV es) (λh=>rN h d es ep) where
 type:=λ_ x=>x.ty
 there:=λ_ x=>⟨x.lt,x.lt⟩
 keep:=λ_ _ x hk=>x.to λo e=>hk d (.inl rfl) o e
 notList:=by decide
 notTuple:=by decide
 hint:=λ_ _ _ _ x q=>kdl_hint_dict x.ty q
 iter:=λ_ _ hh x=>⟨_,_,(λ_ _ q=>JT lo x q),Ha hh _ (V7 x.lt),⟨⟨_,VT _ rfl,rfl,rfl⟩,x.to λo e=>Vl _ e⟩⟩
end
section
variable{w:World}{E:_c}{d it:_o}{es:Array DictEntry}{i:Nat}
theorem NB{acc:Array _m}(h:ItemsOf (JV es) acc es.size):acc.toList=es.toList.map (·.key):=by
 apply Zz
 .rw[V4,Vg,V4];exact h.1
 .intro i h1 h2;have hi:i<acc.size:=by rw[V4]at h1;exact h1
  obtain⟨hz,e⟩:=h.2 i acc[i] (XI hi);rw[Array.getElem_toList,XR,Array.getElem_toList,e]
theorem BY{Q:_i->_n->Prop}(hh:A.handled=none)(lo:(d==sysModules)=false)(x:rN s.heap d es ep)(hn:es.size<=sizeLine)(h:∀h' tk,s.heap.objs.size<h'.objs.size->(∀b o,s.heap.get? b=some o->h'.get? b=some o)->Q (es.toList.map (·.key)) {s with heap:=h',toks:=tk}):wpAny (model prog w) A (collect (.ref d)) Q E s:=by
 unfold collect;refine Vh (wpAny_runValue (Yq (R:=λr s'=>r=.ok (.ret (.ref s.heap.objs.size))/\wpAny (model prog w) A (do
  let u <- load s.heap.objs.size
  match u.data with
  |.seq xs _=>pure xs.toList
  |_=>unsupported "internal:collect") Q E s') ?_ λr s' q=>?_))
 .refine Yy entry_proto_collect' ?_;show wpAny _ _ (do again (.builtin "list.__iadd__" ⟨[<-newList [],.ref d],[]⟩)) _ _ s;refine Vh (YW (VE ⟨Code.quiet_builtin _ (by decide +kernel),Yy entry_list_iadd' ?_⟩) (Wd _));have ne:=W' x.lt;refine kdl_extend (R:=λr s'=>r=.ok (.ret (.ref s.heap.objs.size))/\wpAny (model prog w) A (do
   let u <- load s.heap.objs.size
   match u.data with
   |.seq xs _=>pure xs.toList
   |_=>unsupported "internal:collect") Q E s') (s:={s with heap:=s.heap.push (seqObj "list" #[] 0)}) (NA (es:=es) (ep:=ep) lo) hh (x.to λo e=>Vl _ e) s.heap.objs.size ne ne (.ref s.heap.objs.size) 0 (VT _ rfl) (λh' tk acc c hk hS Qr=>⟨rfl,?_⟩) hn
  refine Vh (wpAny_load hS ?_);show wpAny _ _ (pure acc.toList) Q E _;rw[NB Qr];exact VE (h h' tk (VI hS) λb o e=>hk b o (V7 (VI e)) (Vl _ e))
 .obtain⟨rfl,q⟩:=q;exact q
end
def lexLt:_h->_h->Bool
 |_,[]=>false
 |[],_::_=>true
 |x::xs,y::ys=>if x=y then lexLt xs ys else decide (x<y)
theorem mK:∀xs:_h,lexLt xs xs=false
 |[]=>rfl
 |x::xs=>by show(if x=x then lexLt xs xs else _)=false;rw[Vv rfl];exact mK xs
theorem wQ:∀{xs ys zs:_h},lexLt xs ys=true->lexLt ys zs=true->lexLt xs zs=true:=by
 intro xs
 induction xs with
 |nil=>
  intro ys zs h1 h2;cases zs with
  |nil=>cases ys<;>cases h2
  |cons z zs=>rfl
 |cons x xs ih=>
  intro ys zs h1 h2;cases ys with
  |nil=>cases h1
  |cons y ys=>
   cases zs with
   |nil=>cases h2
   |cons z zs=>
    replace h1:(if x=y then lexLt xs ys else decide (x<y))=true:=h1;replace h2:(if y=z then lexLt ys zs else decide (y<z))=true:=h2;show(if x=z then lexLt xs zs else decide (x<z))=true;by_cases e1:x=y
    .rw[Vv e1]at h1;subst e1;by_cases e2:x=z
     .rw[Vv e2]at h2⊢;exact ih h1 h2
     .rw[VG e2]at h2⊢;exact h2
    .rw[VG e1]at h1;have HJ:=WM h1;by_cases e2:y=z
     .subst e2;rw[VG e1];exact h1
     .rw[VG e2]at h2;have HK:=WM h2;rw[VG ⋯];exact V8 ⋯
theorem pG:∀{xs ys:_h},xs≠ys->lexLt xs ys=false->lexLt ys xs=true:=by
 intro xs
 induction xs with
 |nil=>
  intro ys h1 h2;cases ys with
  |nil=>exact absurd rfl h1
  |cons y ys=>cases h2
 |cons x xs ih=>
  intro ys h1 h2;cases ys with
  |nil=>rfl
  |cons y ys=>
   replace h2:(if x=y then lexLt xs ys else decide (x<y))=false:=h2;show(if y=x then lexLt ys xs else decide (y<x))=true;by_cases e:x=y
   .subst e;rw[Vv rfl]at h2⊢;exact ih (λz=>h1 (by rw[z])) h2
   .rw[VG e]at h2;rw[VG (λz=>e z.symm)];have:=of_decide_eq_false h2;exact V8 ⋯
theorem j?{xs ys:_h}(h:lexLt xs ys=true):lexLt ys xs=false:=by
 cases z:lexLt ys xs with
 |false=>rfl
 |true=>
  have:=wQ h z;rw[mK]at this;cases this
end SO
namespace TS
section
variable(r:α->Nat)
def DF(xs:Array α)(i j:Nat):List α:=(xs.toList.drop i).take (j-i)
variable{r}{xs ys:Array α}
theorem BZ{i j k:Nat}:(DF xs i j)[k]?=if k<j-i then xs[i+k]? else none:=by unfold DF;rw[List.getElem?_take,Ye,Wv]
theorem wU{i j:Nat}{x:α}(h:x∈DF xs i j):∃k,i<=k/\k<j/\xs[k]?=some x:=by
 obtain⟨k,hk⟩:=W4 h;rw[BZ]at hk;split at hk
 .exact⟨i+k,⋯,⋯,hk⟩
 .cases hk
theorem B0{i:Nat}{x:α}(h:xs[i]?=some x):DF xs i (i+1)=[x]:=by
 apply X0;intro n;rw[BZ];cases n with
 |zero=>rw[Vv ⋯];exact h
 |succ n=>rw[VG ⋯];rfl
end
end TS
namespace SO
open PySem.W PyProof.Rows
section
variable{xs:List (_h)}
def nOf:_m->Int
 |.int n _=>n
 |_=>0
def wg(h:Heap):_m->_h
 |.ref a=>match h.get? a with
  |some o=>match o.data with
   |.seq aN _=>aN.toList.map nOf
   |_=>[]
  |none=>[]
 |_=>[]
theorem JW{us:_i}(h:IntsAre us ns):us.map nOf=ns:=by
 induction h with
 |nil=>rfl
 |cons n t _ ih=>rw[Vm,ih];rfl
end
end SO
namespace L2
open PySem.Spec PyProof.Rows
def JX(X:Cx)(f:_m)(ks:_l)(r:List V->List V->Hp->VK->Prop):Prop:=
 ∀(ae:_e)(s:_n)(σ:St)(H:Hp)(xs zs:List V)(us ws:_i)(Q:VK),a9 X ae σ H s->bx xs us->bx zs ws->r xs zs H Q ->
  wpAny (model X.prog X.w) X.A (call f us (ks.zip ws)) (EP X ae σ Q) X.xe s
def tCK(r:List V->List V->Hp->VK->Prop)(t tk:TA):TE:=λσ H Q=>t σ H λvs H1=>tk σ H1 λzs H2=>r vs zs H2 Q
section
variable{id:String}{ks:_l}{r:List V->List V->Hp->VK->Prop}{p pos:Pos}{e:Expr}{H?:List Keyword}{t tk:TA}
theorem Hb(hc:JX X (.builtin id) ks r)(hg:Gl X x)(hm:X.mg x=none)(hv:bootBuiltins x=some (.builtin id))(ha:PA X (e::es) t)(hkw:PK X H? tk)(hks:(backToKw pos (keywordEach H? X.env)).filterMap (·.1)=ks:=by rfl)(hn:x ≠ "__name__":=by decide)(Bk:(x==("__debug__":Str))=false:=by decide)(he:backTo pos (starEach (e::es) X.env)=(false,eval e X.env)::backTo pos (starEach es X.env):=by rfl)(tZ:(backTo pos (starEach (e::es) X.env)).any (·.1)=false:=by rfl)(Qj:(backToKw pos (keywordEach H? X.env)).all (·.1.isSome)=true:=by rfl)(hno:(backToKw pos (keywordEach H? X.env)).any (·.1.isNone)=false:=by rfl):PE X (.Call (.Name x p) (e::es) H? pos) (tCK r t tk):=by intro ae s σ H Q I h;refine X_ (m7 I hg hm hv ?_ hn Bk);refine callWith_kw (fv (ha pos ae s σ H _ I h) λus s1 q1=>?_) he tZ Qj hno;obtain⟨vs,H1,I1,r1,q1⟩:=q1;refine fv (hkw pos ae s1 σ H1 _ I1 q1) λws s2 q2=>?_;obtain⟨zs,H2,I2,r2,q2⟩:=q2;rw[hks];exact hc ae s2 σ H2 vs zs us ws Q I2 r1 r2 q2
end
theorem JY{xs:_h}{us:_i}(h:bx (xs.map V.int) us):IntsAre us xs:=by
 induction xs generalizing us with
 |nil=>cases h;exact .nil
 |cons x xs ih=>
  cases h with
  |cons a b=>
   obtain⟨t,rfl⟩:=a;exact .cons x t (ih b)
end L2
namespace MN
open PySem.Spec L2
open PyProof.Rows hiding St kindOf
def wV:List aj->Option (_h)
 |[]=>some []
 |.int i::r=>(wV r).map (i :: ·)
 |_::_=>none
theorem Hc:∀{us:List aj}{a:_h},wV us=some a->us=a.map aj.int:=by
 intro us
 induction us with
 |nil=>intro a h;cases h;rfl
 |cons u r ih=>
  intro a h;cases u with
  |int i=>
   replace h:(wV r).map (i :: ·)=some a:=h;cases z:wV r with
   |none=>rw[z]at h;cases h
   |some b=>rw[z]at h;cases h;rw[ih z];rfl
  |_=>cases h
theorem JZ(a:_h):wV (a.map aj.int)=some a:=by
 induction a with
 |nil=>rfl
 |cons x a ih=>show(wV (a.map aj.int)).map (x :: ·)=_;rw[ih];rfl
theorem bC.NC:∀{a:_h}{vs:List V},bC K ρ H (a.map aj.int) vs->vs=a.map V.int:=by
 intro a
 induction a with
 |nil=>intro vs h;exact h.gW
 |cons x a ih=>
  intro vs h;obtain⟨v,r,rfl,q1,q2⟩:=bC.cY h;rw[Rl.dh q1,ih q2];rfl
end MN
namespace PM
open PySem.Spec L2 MN
open PyProof.Rows hiding St
def RZ:FN:=iH 3 3 (wk bc bT (ag dA (Q_ bc bT cW) d6))
end PM
namespace MN
open PySem.Spec L2
open PyProof.Rows hiding St
def eZ(K:_g)(x:Str)(st:Stmt):Prop:=∃(f:_o)(fd:FuncData),Im K x x st f fd/\W.nsIn K mainGlobals x=some (some (.ref f))
theorem eZ.mk{st:Stmt}{f:_o}{kV pm ct:_m}(a:W.nsIn K mainGlobals x=some (some (.ref f)))(l:K.lookup f=some ⟨oc,od,.func (W.fnOf x x (iG st) (ff st) (bg st) .none kV doc pm an iS ct),Ia⟩)(c:W.codeIn K iS x=true)(k:W.keepIn K (.ref f)=true):eZ K x st:=⟨f,_,CW l c k,a⟩
inductive DG(K:_g):_l->Prop
 |nil:DG K []
 |cons {x:Str} {r:_l} (a:W.nsIn K mainGlobals x=some none) (t:DG K r):DG K (x::r)
@[reducible] def NF(mg:_d):_l->Prop
 |[]=>True
 |x::r=>mg x=none/\NF mg r
theorem DG.get(X:K.In h)(G:h.Ns mainGlobals mg):∀{l:_l},DG K l->NF mg l
 |_,.nil=>trivial
 |_,.cons a t=>⟨W.mg_none_of X G a,t.get X G⟩
inductive DH(K:_g):_l->Prop
 |nil:DH K []
 |cons {x:Str} {r:_l} {C:_o} (a:W.nsIn K mainGlobals x=some (some (.ref C))) (e:W.excIn K C bmV "ValueError.__new__" = true) (s:W.subIn K (.ref C) (.type "BaseException")=some true) (t:DH K r):DH K (x::r)
@[reducible] def NG(K:_g)(mg:_d):_l->Prop
 |[]=>True
 |x::r=>Q9 K mg x/\NG K mg r
theorem DH.get(X:K.In h)(G:h.Ns mainGlobals mg):∀{l:_l},DH K l->NG K mg l
 |_,.nil=>trivial
 |_,.cons a e s t=>⟨⟨_,X7 X G a,e,s⟩,t.get X G⟩
section
variable{pos:Pos}{a b:Expr}{ma:ME}
theorem R5(ha:PE X a (tE X E ma))(hb:PE X b (tE X E mb)):PE X (.BinOp a .Add b pos) (tE X E (ag dA ma mb)):=sG MJ ha hb
theorem R6(ha:PE X a (tE X E ma))(hb:PE X b (tE X E mb)):PE X (.BinOp a .Sub b pos) (tE X E (ag jr ma mb)):=sG MK ha hb
theorem R7(ha:PE X a (tE X E ma))(hb:PE X b (tE X E mb)):PE X (.BinOp a .Mult b pos) (tE X E (ag b9 ma mb)):=sG ML ha hb
theorem R8(ha:PE X a (tE X E ma))(hb:PE X b (tE X E mb)):PE X (.BinOp a .FloorDiv b pos) (tE X E (ag qT ma mb)):=sG IX ha hb
theorem R9(ha:PE X a (tE X E ma))(hb:PE X b (tE X E mb)):PE X (.BinOp a .Mod b pos) (tE X E (ag gq ma mb)):=sG MM ha hb
theorem R_(ha:PE X a (tE X E ma))(hb:PE X b (tE X E mb)):PE X (.BinOp a .Pow b pos) (tE X E (ag MG ma mb)):=sG MP ha hb
theorem aat(ha:PE X a (tE X E ma))(hb:PE X b (tE X E mb)):PT X (.Compare a [.Lt] [b] pos) (tT X E (gA (ag ltV ma mb))):=sH QR ha hb
theorem aau(ha:PE X a (tE X E ma))(hb:PE X b (tE X E mb)):PT X (.Compare a [.Gt] [b] pos) (tT X E (gA (ag v! ma mb))):=sH QS ha hb
theorem aav(hu:X.A.units+64<cLine)(ha:PE X a (tE X E ma))(hb:PE X b (tE X E mb)):PT X (.Compare a [.Eq] [b] pos) (tT X E (gA (ag sA ma mb))):=sH (I9 hu) ha hb
theorem aaw(hu:X.A.units+64<cLine)(ha:PE X a (tE X E ma))(hb:PE X b (tE X E mb)):PT X (.Compare a [.NotEq] [b] pos) (tT X E (gA (ag vh ma mb))):=sH (I_ hu) ha hb
theorem aax(hu:X.A.units+64<cLine)(ha:PE X a (tE X E ma))(hb:PE X b (tE X E mb)):PE X (.Compare a [.Eq] [b] pos) (tE X E (ag sA ma mb)):=IQ (I9 hu) ha hb
theorem aay(hu:X.A.units+64<cLine)(ha:PE X a (tE X E ma))(hb:PE X b (tE X E mb)):PE X (.Compare a [.NotEq] [b] pos) (tE X E (ag vh ma mb)):=IQ (I_ hu) ha hb
end
open PyProof.Rows hiding St kindOf
def R!:fX->aj
 |.inl i=>.int i
 |.inr x=>.str x
def Hd(st:af)(n:Nat):Option (List (fX×aj)):=match st[n]? with
 |some (.dK aW)=>some aW
 |some (.fd aW)=>some aW
 |_=>none
theorem NH{st:af}{n:Nat}{a:_o}(sr:SR K ρ st H)(h:Hd st n=some aW)(ha:ρ[n]?=some a):∃jo,Rd H a (.dK jo)/\kn K ρ H aW jo:=by
 unfold Hd at h;split at h
 .rename_i z;cases h;obtain⟨jo,h1,h2⟩:=sr.cell n _ a z ha;exact⟨jo,.inl h1,h2⟩
 .rename_i z;cases h;obtain⟨o,jo,h1,h2⟩:=sr.cell n _ a z ha;exact⟨jo,.inr ⟨o,h1⟩,h2⟩
 .cases h
def acD:FN
 |[.loc n],st=>match Hd st n with
  |some aW=>.ok (.int aW.length) st
  |none=>.bad
 |_,_=>.bad
def wW:List fX->Option (_h)
 |[]=>some []
 |.inl i::r=>(wW r).map (i :: ·)
 |.inr _::_=>none
theorem He:∀{l:List fX}{a:_h},wW l=some a->l=a.map Sum.inl:=by
 intro l
 induction l with
 |nil=>intro a h;cases h;rfl
 |cons x r ih=>
  intro a h;cases x with
  |inl i=>
   replace h:(wW r).map (i :: ·)=some a:=h;cases z:wW r with
   |none=>rw[z]at h;cases h
   |some b=>rw[z]at h;cases h;rw[ih z];rfl
  |inr x=>cases h
def itK(aW:List (fX×aj)):List aj:=aW.map λp=>.tup [R! p.1,p.2]
def aaz(n:Nat)(aW:List (fX×aj)):Itm:=(itK aW,λcJ=>cJ[n]?=some (.fd aW))
def abZ(m:ME):MI:=λμ st=>(m μ st).bind λv aI=>match v with
 |.loc n=>match aI[n]? with
  |some (.dK aW)=>.ok (aaz n aW) (aI.set n (.fd aW))
  |some (.fd aW)=>.ok (aaz n aW) aI
  |_=>.bad
 |_=>.bad
def J0(v:aj)(st:af):fu aj:=match v with
 |.loc n=>match aq st n with
  |some []=>.ok (.loc st.length) (st++[.lst []])
  |_=>.bad
 |_=>.bad
end MN
namespace SO
open PySem.W PyProof.Rows
section
variable{w:World}{E:_c}
theorem B1{d:_o}{es:Array DictEntry}{Q:_c}(hh:A.handled=none)(lo:(d==sysModules)=false)(x:rN s.heap d es ep)(t:IntsAre (es.toList.map (·.key)) ns)(hz:es.size<64)
  (h:∀ (h':Heap) (tk:Nat) (l:_o) (c:Nat) (out:_i) (E!:_h),(∀ b o,s.heap.get? b=some o->h'.get? b=some o)->s.heap.objs.size<=l->IntsAre out E!->E!.Perm ns->E!.Pairwise (·<=·) ->
   h'.get? l=some (seqObj "list" out.toArray c)->Q (.ref l) {s with heap:=h',toks:=tk}):
  wpAny (model prog w) A (call (.builtin "sorted") [.ref d]) Q E s:=by
 refine Calls.call_function_entry kind_sorted plain_sorted entry_sorted (args_sorted1 _) ?_;unfold Builtin.«sorted»;refine Vh (m:=checkCount "sorted" 1 1 _) (VE ?_);obtain⟨vs,ev⟩:=NE (es.toList.map (·.key))
 have lv:vs.length=es.size:=by rw[ev,Vg,V4]
 refine Vh (BY hh lo x (by rw[Vp];lia) λh1 tk k0 k1=>?_);rw[<-ev]at t⊢;refine Vh (YW ?_ (by show vs.length<=_;rw[Vp];lia));have gl:(h1.push (seqObj "list" vs.toArray 0)).get? h1.objs.size=some (seqObj "list" vs.toArray 0):=VT _ rfl;show wpAny _ _ _ _ _ {s with heap:=h1.push (seqObj "list" vs.toArray 0),toks:=tk};refine Vh (Xs (WZ slot_list_sort ⟨_,gl,rfl⟩ entry_list_sort (list_sort_tree gl t ⋯ λout E! a1 a2 a3=>⟨_,rfl,?_⟩) (args_list_sort _)));obtain⟨c,gc⟩:∃c,(sortedHeap (h1.push (seqObj "list" vs.toArray 0)) h1.objs.size vs out).get? h1.objs.size=some (seqObj "list" out.toList.toArray c):=
  ⟨_,by unfold sortedHeap;exact Yf (Vl _ (Vl _ (Yf gl λ_ => #[]))) λ_=>out.toList.toArray⟩
 refine VE ⟨_,rfl,h _ tk h1.objs.size c out.toList E! (λb o e=>?_) (YK k0) a1 a2 a3 gc⟩;have e1:=k1 b o e;have ne:h1.objs.size≠b:=W' (VI e1);unfold sortedHeap;exact(Wl _ _ ne).trans (Vl _ (Vl _ ((Wl _ _ ne).trans (Vl _ e1))))
end
end SO
namespace L2
open PySem.Spec PyProof.Rows
theorem Hf{w:World}:∀{es:List DictEntry}{aW:List (fX×_m)}{ns:_h},Pairs (gw P w) es aW->aW.map (·.1)=ns.map Sum.inl->IntsAre (es.map (·.key)) ns:=by
 intro es aW ns p
 induction p generalizing ns with
 |nil=>
  intro e;cases ns with
  |nil=>exact .nil
  |cons=>cases e
 | @cons e kv es aW h1 h2 _ ih=>
  intro q;cases ns with
  |nil=>cases q
  |cons n ns=>
   injection q with q1 q2;replace q1:kv.1=Sum.inl n:=q1;rw[q1]at h1;rcases eJ (k:=.inl n) (v:=e.key) h1 with⟨i,t,a,b⟩|⟨x,t,a,b⟩
   .injection a with a;rw[Vm,b,<-a];exact .cons n t (ih q2)
   .cases a
theorem Hg:∀{us:_i}{ns:_h},IntsAre us ns->bx (ns.map V.int) us:=by
 intro us ns h
 induction h with
 |nil=>exact .nil
 |cons n t _ ih=>exact .cons ⟨t,rfl⟩ ih
theorem DI(hh:X.A.handled=none):dE X (.builtin "sorted") (λxs H Q=>∃(d:_o)(aW:List (fX×V))(ns:_h),xs=[.ref d]/\Rd H d (.dK aW)/\aW.map (·.1)=ns.map Sum.inl/\ns.length<64 /\
  ∀(l:_o)(E!:_h),H l=none->E!.Perm ns->E!.Pairwise (·<=·)->Q (.ref l) (upd H l (.lst (E!.map V.int)))):=by
 rintro ae s σ H xs ws Q I r ⟨d,aW,ns,rfl,hd,hk,hn,q⟩;obtain⟨u,rfl,ru⟩:=vals1 r;cases ru;obtain⟨z,lo,vs,rel,dd⟩:=Ey I.dJ hd;obtain⟨ep,hat⟩:=dd.dictAt;have e:vs.map (·.1)=aW.map (·.1):=by
  have:∀{a:List (fX×V)}{b:List (fX×_m)},KV a b->b.map (·.1)=a.map (·.1):=by
   intro a b r
   induction r with
   |nil=>rfl
   |cons h _ ih=>rw[Vm,Vm,ih,h.1]
  exact this rel
 obtain⟨o,es,h1,h2,h3,h4,h5,h6⟩:=hat;have ia:=Hf h5 (e.trans hk);have le:es.size=ns.length:=by have:=ia.length;rw[Vg,V4]at this;exact this
 refine SO.B1 hh lo ⟨o,h1,h2.1,h3⟩ ia ⋯ λh' tk l c out E! kp hl io pm pw g=>?_;have lz:(E!.map V.int).length<=sizeLine:=by rw[Vg,pm.length_eq,Vp];lia
 exact⟨.ref l,_,I.laid (t':=tk) kp hl (show dR X.prog X.w _ h' _ (.lst (E!.map V.int)) from⟨lz,_,c,Hg io,g⟩),rfl,q l E! (I.dJ.fresh hl) pm pw⟩
def g_(xs:List α)(k:Int):List α:=(sliceRange 0 xs.length k).filterMap λi=>xs[i]?
theorem sU:∀(is:List Nat){xs:List V}{us:_i},bx xs us->bx (is.filterMap λi=>xs[i]?) (is.filterMap λi=>us[i]?)
 |[],_,_,_=>.nil
 |i::is,xs,us,r=>by
  cases z:xs[i]? with
  |none=>
   have:us[i]?=none:=by rw[Yj]at z⊢;rw[<-r.length];exact z
   rw[XX z,XX this];exact sU is r
  |some x=>
   obtain⟨u,hu,ru⟩:=r.get z;rw[Xm z,Xm hu];exact .cons ru (sU is r)
theorem J5(xs:List α){k:Int}(hk:0<k):(g_ xs k).length<=xs.length:=by unfold g_;refine V! (List.length_filterMap_le _ _) ?_;have:=sliceRange_len_le 0 (xs.length:Int) k ⋯;rw[Vv hk]at this;simpa using this
theorem Hh{e es:Expr}{ts:TE}{pos:Pos}(he:PE X e te)(hs:PE X es ts):
  PE X (.Subscript e (.Slice none none (some es) p2) pos) (λσ H Q=>te σ H λx H1=>ts σ H1 λy H2=>∃a xs k,x=.ref a/\y=.int k/\0<k/\pk X.K H2 a xs/\∀p,H2 p=none->Q (.ref p) (upd H2 p (.lst (g_ xs k)))):=by
 intro ae s σ H Q I h;refine Subscript_ (fv (he ae s σ H _ I h) λv s1⟨x,H1,I1,r1,q1⟩=>?_);refine wpAny_Slice ?_;rw[ZP];refine VE ?_;refine VE ?_;rw[evalPart_some];refine fv (hs ae s1 σ H1 _ I1 q1) λv3 s3⟨y,H2,I3,r3,a,xs,k,e1,e2,hk,hx,q⟩=>?_;subst e1 e2;cases r1;obtain⟨tk,rfl⟩:=r3;have I4:a9 X ae σ H2 {s3 with heap:=s3.heap.push {cls:=.type "slice",data:=.fields #[.none,.none,.int k tk]} }:=I3.kept (t':=s3.toks) λb ob q=>Vl _ q;show wpAny (model X.prog X.w) X.A (subscriptTail e (.Slice none none (some es) p2) (.ref a) (.ref s3.heap.objs.size)) (EP X ae σ Q) X.xe {s3 with heap:=s3.heap.push {cls:=.type "slice",data:=.fields #[.none,.none,.int k tk]} };obtain⟨aN,r,ht,hz⟩:=I4.list hx;have hlen:aN.toArray.size=xs.length:=by rw[VB];exact r.length.symm
 refine tail_any (ops:=[.ref a,.ref s3.heap.objs.size]) ht.isList.typeIs Y7.lookup ?_ (by with_unfolding_all rfl);refine ZM ht.isList (Heap.IsSliceOf.new ..) .none .none (.int k tk) (by intro z;injection z with z;lia) ?_ (by rw[hlen];exact hz);have ep:slicePick aN.toArray none none (some k)=(g_ aN k).toArray:=by
  have b1:(sliceBounds none none (some k) aN.toArray.size).1=0:=by show(if k>0 then(0:Int)else _)=0;rw[Vv hk]
  have b2:(sliceBounds none none (some k) aN.toArray.size).2.1=(aN.length:Int):=by show(if k>0 then((aN.toArray.size:Nat):Int)else _)=_;rw[Vv hk,VB]
  have b3:(sliceBounds none none (some k) aN.toArray.size).2.2=k:=rfl;unfold slicePick g_;rw[b1,b2,b3];simp only[List.getElem?_toArray]
 rw[ep];refine⟨.ref _,_,I4.laid (t':=s3.toks) (o:=.lst (g_ xs k)) (λb ob q=>Vl _ q) (Vt _) ?_,rfl,q _ (I4.dJ.fresh (Vt _))⟩;refine⟨V! (J5 xs hk) hz,_,0,?_,VT _ rfl⟩;unfold g_;rw[show aN.length=xs.length from r.length.symm];exact sU _ r
end L2
namespace MN
open PySem.Spec L2
open PyProof.Rows hiding St kindOf
def J6(ns:_h):_h:=ns.mergeSort λa b=>decide (a<=b)
theorem zo(ns:_h):(J6 ns).Perm ns:=XO ns _
theorem E?(ns:_h):(J6 ns).Pairwise (·<=·):=by
 have h:=Yu (le:=λ(a b:Int)=>decide (a<=b)) (λa b c h1 h2=>V8 (by have:=WM h1;have:=WM h2;lia)) (λa b=>by
  rw[Y4,XM,XM];lia) ns
 exact h.imp λh=>WM h
theorem up_eq{a b:_h}(p:a.Perm b)(ha:a.Pairwise (·<=·))(hb:b.Pairwise (·<=·)):a=b:=
 Ym (λx y _ _ h1 h2=>⋯) ha hb p
def rO:FN
 |[.loc n],st=>match Hd st n with
  |some aW=>match wW (aW.map (·.1)) with
   |some ns=>if ns.length<64 then .ok (.loc st.length) (st++[.lst ((J6 ns).map .int)])else .bad
   |none=>.bad
  |none=>.bad
 |_,_=>.bad
def vC(v k:aj)(st:af):fu aj:=match v,k with
 |.loc n,.int k=>match aq st n with
  |some us=>if 0<k then .ok (.loc st.length) (st++[.lst (g_ us k)])else .bad
  |none=>.bad
 |_,_=>.bad
def vD(m mk:ME):ME:=λμ st=>(m μ st).bind λv st1=>(mk μ st1).bind λk cJ=>vC v k cJ
theorem B2(hh:X.A.handled=none):dE X (.builtin "sorted") (cM (wo X) E rO):=by
 refine dE.imp (DI hh) ?_;rintro xs H Q ⟨ρ,st,us,sr,r,h⟩;unfold rO at h;split at h
 .rename_i n;obtain⟨v,rfl,r1⟩:=r.C_;obtain⟨a,rfl,ha⟩:=r1.fU;split at h
  .rename_i aW e;split at h
   .rename_i ns z;split at h
    .rename_i hn;obtain⟨jo,h1,h2⟩:=NH sr e ha;refine⟨a,jo,ns,rfl,h1,by rw[<-h2.1];exact He z,hn,λl E! hl pm pw=>?_⟩;rw[up_eq (pm.trans (zo ns).symm) pw (E? ns)];obtain⟨k1,k2,k3⟩:=jf sr (bC.ints (J6 ns)) hl;exact h _ _ _ k1 k2 k3
    .exact h.elim
   .exact h.elim
  .exact h.elim
 .exact h.elim
theorem wX{K:_g}{ρ:_k}{H:Hp}:∀(is:List Nat){us:List aj}{xs:List V},bC K ρ H us xs->bC K ρ H (is.filterMap λi=>us[i]?) (is.filterMap λi=>xs[i]?)
 |[],_,_,_=>bC.nil
 |i::is,us,xs,r=>by
  cases z:us[i]? with
  |none=>
   have:xs[i]?=none:=by rw[Yj]at z⊢;rw[<-r.length];exact z
   rw[XX z,XX this];exact wX is r
  |some x=>
   obtain⟨u,hu,ru⟩:=r.get z;rw[Xm z,Xm hu];exact bC.cons ru (wX is r)
theorem Hi{e es:Expr}{m mk:ME}{pos:Pos}(he:PE X e (tE X E m))(hs:PE X es (tE X E mk)):PE X (.Subscript e (.Slice none none (some es) p2) pos) (tE X E (vD m mk)):=by
 refine PE.imp (Hh he hs) ?_;nofun;refine go μ ρ1 st1 (rs.mono e1) dM h1 λk cJ ρ2 H2 z e2 qR r2 h2=>?_;have r1':=Rl.mono e2 _ _ r1;cases u with
 |loc n=>
  cases k with
  |int k=>
   unfold vC at h2;dsimp only at h2;cases hn:aq cJ n with
   |none=>rw[hn]at h2;exact h2.elim
   |some us=>
    rw[hn]at h2;dsimp only at h2;by_cases hk:0<k
    .rw[Vv hk]at h2;obtain⟨a,rfl,ha⟩:=r1'.fU;obtain⟨vs,h3,rv⟩:=bI qR hn ha;refine⟨a,vs,k,rfl,by rw[r2.dh],hk,h3,λp hp=>?_⟩;have rr:bC X.K ρ2 H2 (g_ us k) (g_ vs k):=by unfold g_;rw[show us.length=vs.length from rv.length];exact wX _ rv
     obtain⟨k1,k2,k3⟩:=jf qR rr hp;exact h2 _ _ _ k1 k2 k3
    .rw[VG hk]at h2;exact h2.elim
  |_=>exact h2.elim
 |_=>exact h2.elim
end MN
namespace PM
open PySem.Spec L2 MN
open PyProof.Rows hiding St
def fN:FN:=iH 2 2 (bZ (ao PM.d? (aa bc (aa bT (aa (ao PM.inverse (aa bc (aa (ag bJ bT (ko cm)) ai))) ai)))))
def dO:FN:=iH 3 6 (az (aK 3 bT) (az (aK 4 d6) (az (e! (gA (ag v! (ao bD (aa fY ai)) cW)) (az (aK 5 (ag bJ (ao PM.parted (aa bc (aa d! (aa fY ai)))) cm)) (az (aK 3 fY) (aK 4 iU)))) (bZ (ao PM.fN (aa bc (aa d! ai)))))))
def ij:FN:=iH 2 10 (az (aK 2 Ai) (az (aK 3 cm) (az (aK 4 bT) (az (e! (gA (ag v! (ao bD (aa fY ai)) cm)) (az (aK 5 (ao PM.dO (aa bc (aa fY (aa (ao PM.f? (aa bc (aa fY ai))) ai))))) (az (aK 6 (ag bJ (ao PM.parted (aa bc (aa fY (aa iU ai)))) cW)) (az (aK 7 d!) (az (e! (gA (ag v! (ao bD (aa jU ai)) cm)) (az (aK 8 (ao PM.dO (aa bc (aa jU (aa iU ai))))) (az (aK 9 (ag bJ (ao PM.parted (aa bc (aa jU (aa GF ai)))) cW)) (az (sv (gA (ag v! (ao bD (aa A_ ai)) cm)) (wk d6 qc A_) fE) (az (aK 6 GF) (az (aK 5 (ag bJ (ao PM.parted (aa bc (aa iU (aa GF ai)))) cW)) (Jj 7 GS d!))))))) (az (aK 4 (vD iU bc)) (aK 3 (ag b9 d! bc)))))))) (bZ d6)))))
def gR:FN:=iH 2 3 (az (sv (gA (ag sA (ao bD (aa bT ai)) cW)) (bZ (mC .dj)) fE) (az (aK 2 (ao PM.met (aa bc (aa bT (aa (ao PM.f? (aa bc (aa bT ai))) ai))))) (bZ (Lo (gA (ag sA (ao bD (aa (ag bJ d6 cW) ai)) cm)) (gp (aa (ag bJ d6 QL) (aa (ag bJ d6 UX) ai))) (mC .dj)))))
def gS:FN:=iH 2 3 (az (sv (gA (ag sA (ao bD (aa bT ai)) cW)) (oC "NoParts" (aa (qs "nought has no parts") ai)) fE) (az (aK 2 (ao PM.ij (aa bc (aa (ao PM.fN (aa bc (aa bT ai))) ai)))) (bZ (gp (aa (ag bJ bT (ko cm)) (aa (cH 1 [2] (f9 (ao rO (aa d6 ai))) (aA 0) bj (gp (aa (ag uc bT bc) (aa bc ai)))) ai))))))
def parts:FN:=iH 2 2 (az (e_ (ao PM.gC (aa bc ai))) (bZ (ao PM.gS (aa bc (aa bT ai)))))
end PM
namespace PG
open PySem.Spec L2 MN
open PyProof.Rows hiding St kindOf
section
variable{μ:MN.Env}{s s1 s2:af}{a b:ME}{f:F2}{x:aj}{r:fu aj}{t u:MT}{c:Bool}{B:MB}
theorem iu(h1:a μ s=.ok x s1)(h2:b μ s1=.ok y s2):ag f a b μ s=f x y s2:=by show(a μ s).bind _=_;rw[h1];show(b μ s1).bind _=_;rw[h2]
theorem DJ(h:a μ s=.ok (.bl c) s1):gA a μ s=.ok c s1:=by rw[bo,h];rfl
end
theorem OU{s:af}{n:Nat}{c:aZ}(h:s[n]?=some c):n<s.length:=by
 rcases Wx n s.length with q|q
 .exact q
 .rw[Wa q]at h;cases h
abbrev mdB:MB:=e_ (ao PM.RZ (aa d! (aa fY (aa iU ai))))
section
variable{μ:MN.Env}{s s1 s2:af}{m:ME}{o:Int}{t:MT}{B:MB}
theorem sV{i:Nat}(h:m μ s=.ok v s1):aK i m μ s=.nx (μ.set i (some v)) s1:=by rw[bh,h,aG];rfl
theorem wY(h:m μ s=.ok v s1):aa m ai μ s=.ok [v] s1:=by rw[av,h,ar,aF,aH,ar,aw]
theorem NI{m2:ME}{w:aj}(h:m μ s=.ok v s1)(h2:m2 μ s1=.ok w s2):aa m (aa m2 ai) μ s=.ok [v,w] s2:=by rw[av,h,ar,aF,wY h2,ar,aw]
theorem aaA{m2:MA}(h:m μ s=.ok v s1)(h2:m2 μ s1=.ok ws s2):aa m m2 μ s=.ok (v::ws) s2:=by rw[av,h,ar,aF,h2,ar,aw]
theorem iO{f:FN}{a:MA}{vs:List aj}(h:a μ s=.ok vs s1):ao f a μ s=f vs s1:=by rw[aD,h,ar]
theorem fg{a:MA}{vs:List aj}(h:a μ s=.ok vs s1)(hl:vs.length<=1000):bB a μ s=.ok (.loc s1.length) (s1++[.lst vs]):=by rw[nu,h,ar,q8];exact Vv (by rw[Vp];lia)
end
section
variable{n:Nat}{A:_h}{st:af}
theorem B3(hp:dD p=true)(ln:st[n]?=some (ay A))(hA:Row p A)(nA:A≠[])(hl:A.length<=100000):
  ∃aI k t,PM.fN [.int p,.loc n] st=.ok (.loc k) aI/\Fr st aI/\st.length<=k/\aI[k]?=some (ay (mulR p t A))/\(t*aM A) % p=1:=by
 have hr:=au hp;have la:=hA.last ⋯ nA;have nz:¬ aM A % p=0:=by rw[V9 ⋯ la.2];lia
 obtain⟨g,t,e1,_,_,t3⟩:=gf hp nz st;obtain⟨s',k,e2,F,lk,ck⟩:=nH hp t (show(st++g)[n]?=some (ay A)from Fr.app st g _ _ ln) hA hl;refine⟨s',k,t,?_,(Fr.app st g).trans F,by have:=lk;rw[Vj]at this;lia,ck,t3⟩;have ix:ag bJ bT (ko cm) [some (.int p),some (.loc n)] st=.ok (.int (aM A)) st:=by rw[iu (x:=.loc n) (s1:=st) rfl (y:=.int (-1)) (s2:=st) rfl];exact dB (ax ln) (rp nA)
 unfold PM.fN;rw[bH (np:=2) (us:=[aj.int p,.loc n]) rfl];show(bZ _ [some (.int p),some (.loc n)] st).fin=_;rw[bb,iO (aaA (v:=.int p) (s1:=st) rfl (NI (v:=.loc n) (s1:=st) rfl (w:=.int t) (s2:=st++g) (by rw[iO (NI (v:=.int p) (s1:=st) rfl ix),e1]))),e2,aG];rfl
structure OW(p:Int)(A B G:_h):Prop where
 r:Row p G
 n:G≠[]
 l:aM G=1
 a:aQ p (cf A) (mF (bU p A G) (cf G))
 b:aQ p (cf B) (mF (bU p B G) (cf G))
 c:∃u v,aQ p (cf G) (λk=>mF u (cf A) k+mF v (cf B) k)
def ab0(μ:MN.Env)(s:af):Nat:=match(μ[4]?:Option (Option aj)) with
 |some (some (.loc k))=>ig k s
 |_=>0
structure Fb(p:Int)(A B:_h)(N:Nat)(st:af)(x1 x2:Option aj)(μ:MN.Env)(s:af)(a b:Nat)(g0 u0 v0 g1 u1 v1:_h):Prop where
 env:∃x5,μ=[qI p, x1, x2, qL a, qL b, x5]
 fr:Fr st s
 inv:jG p A B N g0 u0 v0 g1 u1 v1
 la:s[a]?=some (ay g0)
 lb:s[b]?=some (ay g1)
abbrev grT:MT:=gA (ag v! (ao bD (aa fY ai)) cW)
abbrev grB:MB:=az (aK 5 (ag bJ (ao PM.parted (aa bc (aa d! (aa fY ai)))) cm)) (az (aK 3 fY) (aK 4 iU))
theorem NJ(hp:dD p=true){N:Nat}(hN:N<=50000){μ:MN.Env}{s:af}{a b:Nat}{g0 g1:_h}(h:Fb p A B N st x1 x2 μ s a b g0 u0 v0 g1 u1 v1):
  ∃μ' s',e! grT grB μ s=.nx μ' s'/\∃a b g u v u1 v1,Fb p A B N st x1 x2 μ' s' a b g u v [] u1 v1:=by
 refine il (t:=grT) (body:=grB) (λμ s=>∃a b g0 u0 v0 g1 u1 v1,Fb p A B N st x1 x2 μ s a b g0 u0 v0 g1 u1 v1) ab0 (λμ s=>∃a b g u v u1 v1,Fb p A B N st x1 x2 μ s a b g u v [] u1 v1) ?_ μ s ⟨a,b,g0,u0,v0,g1,u1,v1,h⟩;rintro μ s ⟨a,b,g0,u0,v0,g1,u1,v1,h⟩;obtain⟨x5,rfl⟩:=h.env;have HI:grT [qI p, x1, x2, qL a, qL b, x5] s=.ok (decide ((0:Int)<(g1.length:Int))) s:=by refine DJ ?_;rw[iu (x:=.int ((g1.map aj.int).length:Int)) (s1:=s) (by rw[iO (wY (v:=.loc b) (s1:=s) rfl),a_ (ax h.lb)]) (y:=.int 0) (s2:=s) rfl,Vg];rfl
 by_cases hg:g1=[]
 .subst hg;exact .inl ⟨s,by rw[HI];rfl,a,b,g0,u0,v0,u1,v1,h⟩
 .have hg0:0<g1.length:=VC.mpr hg;have hr:=au hp;have Tc:=h.inv.r1.last ⋯ hg;have nz:¬ aM g1 % p=0:=by rw[V9 ⋯ Tc.2];lia
  have l0:=h.inv.RQ;have l1:=h.inv.lu0;obtain⟨s',k1,k2,e,F,_,_,_,c1,c2⟩:=gQ hp (ax h.la) h.lb hg nz ⋯ ⋯;refine .inr ⟨s,[qI p, x1, x2, qL b, qL k2, qL k2],s',by rw[HI,V8 ⋯],.inl ?_,⟨b,k2,g1,u1,v1,_,_,_,⟨_,rfl⟩,h.fr.trans F,h.inv.step hp hg,F _ _ h.lb,c2⟩,?_⟩
  .show az _ _ _ s=_;rw[aO,sV (v:=.loc k2) (s1:=s') (by rw[iu (x:=.tup [.loc k1,.loc k2]) (s1:=s') (by rw[iO (vs:=[.int p,.loc a,.loc b]) (s1:=s) rfl,e]) (y:=.int 1) (s2:=s') rfl];rfl),aR];rfl
  .show ig k2 s'<ig b s;unfold ig;rw[ax c2,ax h.lb];show((iF p g0 g1).map aj.int).length<(g1.map aj.int).length;rw[Vg,Vg];exact(fM hp (as:=g0) hg nz).2.2.1
theorem AD(hp:dD p=true)(ln:st[n]?=some (ay A))(lm:st[m]?=some (ay B))(hA:Row p A)(hB:Row p B)(hn:A≠[]\/B≠[])(t_:A.length<=5000)(uD:B.length<=5000):
  ∃aI k G,PM.dO [.int p,.loc n,.loc m] st=.ok (.loc k) aI/\Fr st aI/\st.length<=k/\aI[k]?=some (ay G)/\OW p A B G/\G.length<=20000:=by
 have hr:=au hp;obtain⟨μ',s',ew,a,b,g,u,v,u1,v1,H⟩:=NJ (A:=A) (B:=B) (st:=st) hp (N:=A.length+B.length+1) ⋯ (x1:=some (.loc n)) (x2:=some (.loc m)) (μ:=[some (.int p),some (.loc n),some (.loc m),some (.loc n),some (.loc m),none]) (s:=st) (a:=n) (b:=m) ⟨⟨_,rfl⟩,Fr.refl st,jG.start ⋯ hA hB hn,ln,lm⟩;obtain⟨x5,rfl⟩:=H.env;have ng:g≠[]:=by rcases H.inv.ne with z|z;exact z;exact absurd rfl z
 have lg:=H.inv.RQ;obtain⟨s2,k,t,e2,F2,lk,ck,ht⟩:=B3 hp H.la H.inv.r0 ng ⋯;obtain⟨rG,nG,lG,cA,cB,cG⟩:=H.inv.done hp hA hB ht;refine⟨s2,k,mulR p t g,?_,H.fr.trans F2,by have:=H.fr.len;lia,ck,⟨rG,nG,lG,cA,cB,_,_,cG⟩,by have:=oM p t g;lia⟩;unfold PM.dO;rw[bH (np:=3) (us:=[aj.int p,.loc n,.loc m]) rfl];show(az (aK 3 bT) (az (aK 4 d6) (az (e! grT grB) (bZ _))) [qI p, qL n, qL m, qn, qn, qn] st).fin=_;rw[aO,sV (v:=.loc n) (s1:=st) rfl,aR,aO,sV (v:=.loc m) (s1:=st) rfl,aR];show(az (e! grT grB) (bZ _) [qI p, qL n, qL m, qL n, qL m, qn] st).fin=_;rw[aO,ew,aR,bb,iO (vs:=[.int p,.loc a]) (s1:=s') rfl,e2,aG];rfl
end
theorem nI(hp:0<p){A Q G:_h}(hA:Row p A)(nA:A≠[])(hQ:Row p Q)(nG:G≠[])(lG:aM G=1)(h:aQ p (cf A) (mF Q (cf G))):Q≠[]/\A.length+1=Q.length+G.length/\aM A=aM Q:=by
 have nQ:Q≠[]:=by intro z;rw[z]at h;exact nA (Row.ext hp hA (Row.nil p) (h.trans (aQ.of_eq λk=>by rw[k?,cz])))
 have lq:=hQ.last hp nQ;have q0:0<Q.length:=VC.mpr nQ;have g0:0<G.length:=VC.mpr nG;obtain⟨N,hN⟩:=NE (Q.length-1+(G.length-1))
 have t:=Ax Q G nQ nG;rw[<-hN,lG,Xa]at t;have c:=Cg.eq hp (h N);rw[t,fe (hA.A? hp N).1 (hA.A? hp N).2,fe ⋯ lq.2]at c;have l1:A.length<=N+1:=j9 hA.cut λk hk=>by have c:=Cg.eq hp (h k);rw[JJ (as:=Q) (bs:=G) ⋯,fe (hA.A? hp k).1 (hA.A? hp k).2,fe (YZ 0) hp]at c;exact c
 have l2:N<A.length:=by
  rcases Wx N A.length with z|z
  .exact z
  .rw[dH z]at c;lia
 refine⟨nQ,⋯,?_⟩;rw[<-c];show cf A (A.length-1)=_;rw[show A.length-1=N by lia]
theorem Fc(hp:0<p)(h:(U.length:Int)=p*m+1):g_ U p=(List.range (m+1)).map λj=>U.getD (p.toNat*j) 0:=by
 have cnt:(if p>0 then(if(0:Int)<(U.length:Int) then((U.length:Int)-0+p-1) / p else 0) else(if(0:Int)>(U.length:Int) then(0-(U.length:Int)-p-1) / (-p)else 0)).toNat=m+1:=by rw[Vv hp,h];have m0:0<=p*(m:Int):=Y9 ⋯ ⋯;rw[Vv ⋯,show p*(m:Int)+1-0+p-1=p*((m:Int)+1) by rw[Xf,Xa];lia,Int.mul_ediv_cancel_left _ ⋯];lia
 unfold g_ sliceRange;simp only[];rw[cnt,List.filterMap_map];have:∀l:List Nat,(∀j∈l,j<=m)->l.filterMap ((λi=>U[i]?) ∘ λk:Nat=>(0+p*(k:Int)).toNat)=l.map λj=>U.getD (p.toNat*j) 0:=by
  intro l
  induction l with
  |nil=>intro _;rfl
  |cons j l ih=>
   intro hj;have e:(0+p*(j:Int)).toNat=p.toNat*j:=by
    have:((p.toNat*j:Nat):Int)=p*(j:Int):=by rw[W!,Wh ⋯]
    lia
   have lt:p.toNat*j<U.length:=by
    have h1:p.toNat*j<=p.toNat*m:=ZL _ (hj j (Vu ..));have h2:((p.toNat*m:Nat):Int)=p*(m:Int):=by rw[W!,Wh ⋯]
    lia
   rw[Vm,<-ih λi hi=>hj i (Vx _ hi),Xm (b:=U.getD (p.toNat*j) 0)];show U[(0+p*(j:Int)).toNat]?=_;rw[e,Vk lt,VA,Vk lt];rfl
 exact this _ λj hj=>by have:=X6.mp hj;lia
theorem J7(f:α->β)(xs:List α)(k:Int):g_ (xs.map f) k=(g_ xs k).map f:=by unfold g_;rw[Vg,List.map_filterMap];congr 1;funext i;rw[Vy]
theorem NK(hp:2<=p)(hU:Row p U)(nU:U≠[])(l1:aM U=1)(hm:((U.length:Int)-1) % p=0):
  Row p (g_ U p)/\g_ U p≠[]/\aM (g_ U p)=1/\(g_ U p).length<=U.length/\(1<U.length->(g_ U p).length<U.length):=by
 have u0:0<U.length:=VC.mpr nU;obtain⟨m,h⟩:∃m:Nat,(U.length:Int)=p*m+1:=by have h1:=Wb ((U.length:Int)-1) p;have h2:0<=((U.length:Int)-1) / p:=Y3 ⋯ ⋯;refine⟨(((U.length:Int)-1) / p).toNat,?_⟩;rw[Wh h2];lia
 have e:=Fc ⋯ h;have len:(g_ U p).length=m+1:=by rw[e,Vg,VU]
 have hpm:((p.toNat*m:Nat):Int)=p*(m:Int):=by rw[W!,Wh ⋯]
 have la:aM (g_ U p)=1:=by unfold aM at l1⊢;rw[len,e,show m+1-1=m by lia,VA,Vy,Wg ⋯];show U.getD (p.toNat*m) 0=1;rw[show p.toNat*m=U.length-1 by lia];exact l1
 have ne:g_ U p≠[]:=λz=>by rw[z]at len;simp at len
 have hmp:2*(m:Int)<=p*m:=Xc hp ⋯;refine⟨⟨?_,?_⟩,ne,la,⋯,λh1=>⋯⟩
 .rcases j8 (g_ U p)with z|⟨ms,x,z⟩
  .exact absurd z ne
  .unfold Cut;rw[z];refine iB ?_ ms;have:aM (g_ U p)=x:=by rw[z];unfold aM;simp
   rw[la]at this;rw[<-this];rfl
 .intro a ha;rw[e]at ha;obtain⟨j,_,rfl⟩:=VN.mp ha;exact hU.A? ⋯ (p.toNat*j)
structure d8(p:Int)(A:_h):Prop where
 row:Row p A
 ne:A≠[]
 l1:aM A=1
theorem d8.cancel(hp:0<p){F:_h}(h:d8 p F)(x y:ah p)(e:ak F*x=ak F*y):x=y:=by revert e;revert x;refine dc λa=>?_;revert y;refine dc λb=>?_;intro e;have:=ug e;exact mk_eq (Ay hp h.ne h.l1 (((aQ.of_eq (aV F a)).symm.trans this).trans (aQ.of_eq (aV F b))))
theorem DK(hp:0<p)(x:ah p):∃r,Row p r/\x=ak r:=by revert x;refine dc λa=>?_;exact⟨b! (a.map (·.fmod p)),Row.of hp a,mk_eq (Row.cg hp a).symm⟩
theorem sW(hp:0<p){A G:_h}(hA:Row p A)(nA:A≠[])(hG:d8 p G){x:ah p}(h:ak A=ak G*x):∃Q,Row p Q/\x=ak Q/\Q≠[]/\A.length+1=Q.length+G.length:=by obtain⟨Q,hQ,rfl⟩:=DK hp x;have e:=ug (h.trans (bR _ _));obtain⟨n,l,_⟩:=nI hp hA nA hQ hG.ne hG.l1 (e.trans (aQ.of_eq (aV Q G)));exact⟨Q,hQ,rfl,n,l⟩
theorem B4(hp:0<p){D U:_h}(hD:d8 p D)(lD:2<=D.length){S1 z T a b:ah p}(hz:dP (ak D*S1)=ak D*z)(hT:T*ak U=(ak D*S1)*dP (ak U))(hb:a*ak D+b*T=1):∀(m:Nat)(V:_h)(W c:ah p),V.length<=m->Row p V->V≠[]->ak U=W*ak V->ak D*dP W=c*W*dP (ak D)->(∀x y:ah p,W*x=W*y->x=y)->False
 |0,V,_,_,hl,_,nV,_,_,_=>nV (Yw.mp ⋯)
 |m+1,V,W,c,hl,hV,nV,hU,hW,cn=>by
  obtain⟨V',e⟩:=SA.aap (d:=dP) j_ (S:=ak D*S1) rfl hz hT hb hW hU cn;obtain⟨Q,hQ,eQ,nQ,lQ⟩:=sW hp hV nV hD e;refine B4 hp hD lD hz hT hb m Q (ak D*W) (1+c) ⋯ hQ nQ ?_ (SA.abW j_ hW) λx y h=>cn x y (hD.cancel hp _ _ ?_)
  .rw[hU,e,eQ];grind
  .rw[<-dg,<-dg];exact h
theorem aaB(hp:2<=p){S:_h}(hD:d8 p D)(hU:d8 p U)(hS:d8 p S){f w a b a2 b2 S1 z:ah p}(hf:f=ak S*ak U)(hw:dP f=ak U*w)(hg:ak U=a*f+b*dP f)(e1:ak S=ak D*S1)(e2:dP (ak S)=ak D*z):D=[1]:=by
 have dz:0<p:=⋯
 have df:dP f=dP (ak S)*ak U+ak S*dP (ak U):=by rw[hf,j_]
 by_cases lD:2<=D.length
 .exfalso;have h1:a*ak S+b*w=1:=by
   refine hU.cancel dz _ _ ?_
   grind
  refine B4 dz hD lD (U:=U) (S1:=S1) (z:=z) (T:=w-dP (ak S)) (a:=a*S1+b*z) (b:=b) (by rw[<-e1];exact e2) (by rw[<-e1];grind) (by grind) U.length U 1 0 (Vt _) hU.row hU.ne (by grind) ?_ (λx y h=>by grind);have:dP (1:ah p)=0:=by
   have h:=j_ (1:ah p) 1
   grind
  rw[this];grind
 .cases hh:D with
  |nil=>exact absurd hh hD.ne
  |cons x l=>
   have l0:l=[]:=by rw[hh,Vi]at lD;exact Yw.mp ⋯
   have:=hD.l1;rw[hh,l0]at this;rw[l0];rw[show x=1 from this]
end PG
namespace SA
section
variable{R:Type}[Lean.Grind.CommRing R]{d:R->R}
theorem b?.pow{a b:R}(h:b? a b):∀n:Nat,b? a (b ^ n)
 |0=>by rw[W9];exact b?.one
 |n+1=>by rw[WK];exact(b?.pow h n).mul h
theorem b?.of_dvd{a b c:R}(h:b? a b){x:R}(e:b=c*x):b? a c:=by rw[e]at h;exact h.DD
theorem b?.unit{a b:R}(h:b? a b){x:R}(e:b=a*x):∃z,a*z=1:=Az h (c:=a) (x:=1) (y:=x) (by grind) e
def cst:Nat->R
 |0=>0
 |n+1=>cst n+1
theorem aaC(dm:∀a b,d (a*b)=d a*b+a*d b)(P:R):∀n:Nat,P*d (P ^ n)=cst n*P ^ n*d P
 |0=>by
  have h:d (1:R)=0:=by have:=dm (1:R) 1;grind
  rw[W9,h];show P*0=0*1*d P
  grind
 |n+1=>by
  have ih:=aaC dm P n;rw[WK,dm];show _=(cst n+1)*(P ^ n*P)*d P;generalize P ^ n=w at *;generalize (cst n:R)=c at *
  grind
theorem mul_pow(P G:R):∀m:Nat,(P*G) ^ m=P ^ m*G ^ m
 |0=>by rw[W9,W9,W9];grind
 |n+1=>by
  rw[WK,WK,WK,mul_pow P G n];generalize P ^ n=w;generalize G ^ n=v
  grind
theorem B0(dm:∀a b,d (a*b)=d a*b+a*d b){P W Q F S U x a b:R}(hF:F=W*Q)(hW:d W=0)(hFS:F=S*U)(hg:U=a*F+b*d F)(hS:S=P*x)(hc:b? P Q)(cn:∀x y:R,W*x=W*y->x=y):∃z,P*z=1:=by
 have e1:d F=W*d Q:=by rw[hF,dm,hW];grind
 have e2:Q=P*(x*(a*Q+b*d Q)):=by
  apply cn
  grind
 exact hc.unit e2
theorem step_eq{F Q S U P G V:R}(hF:F=Q*S ^ m*U)(hS:S=P*G)(hU:U=G*V):F=(Q*P ^ m)*G ^ (m+1)*V:=by
 rw[hF,hS,mul_pow,hU,WK];generalize P ^ m=w;generalize G ^ m=v
 grind
theorem J8(dm:∀a b,d (a*b)=d a*b+a*d b){S U P G V a b:R}(hS:S=P*G)(hU:U=G*V)(hG:G=a*S+b*U)(hs:b? S (d S)):b? P G/\b? P (d P)/\b? G (d G)/\b? P U/\b? P V:=by rw[hS]at hs;obtain⟨h1,h2,h3⟩:=rK dm hs;have h4:=JN hS hG h1;exact⟨h1,h2,h3,h4,h4.of_dvd (x:=G) (by grind)⟩
theorem J9{T S U P G V:R}(hS:S=P*G)(hU:U=G*V)(h1:b? T S)(h2:b? T U):b? T P/\b? T G/\b? T V:=⟨h1.of_dvd hS,h1.of_dvd (x:=P) (by grind),h2.of_dvd (x:=G) (by grind)⟩
end
end SA
namespace PG
open PySem.Spec L2 MN
open PyProof.Rows hiding St kindOf
def sX:_h->_h->_h
 |a::as,b::bs=>(a+b)::sX as bs
 |_,_=>[]
theorem wZ:∀{as bs:_h},as.length=bs.length->(sX as bs).length=as.length
 |[],[],_=>rfl
 |a::as,b::bs,h=>by show(sX as bs).length+1=as.length+1;rw[wZ (Xg h)]
def br:Nat->_h
 |0=>[1]
 |n+1=>sX (br n++[0]) (0::br n)
theorem w6:∀n,(br n).length=n+1
 |0=>rfl
 |n+1=>by have h:=w6 n;show(sX (br n++[0]) (0::br n)).length=_;rw[wZ (by rw[Vj,Vi];rfl),Vj,h];rfl
theorem AE:∀{as bs:_h},as.length=bs.length->∀k,cf (sX as bs) k=cf as k+cf bs k
 |[],[],_,k=>by show cf [] k=cf [] k+cf [] k;rw[cz];rfl
 |a::as,b::bs,h,0=>rfl
 |a::as,b::bs,h,k+1=>by show cf ((a+b)::sX as bs) (k+1)=_;rw[bO,bO,bO];exact AE (Xg h) k
theorem w9:∀(as:_h)(k:Nat),cf (as++[0]) k=cf as k
 |[],k=>by show cf [0] k=cf [] k;rw[jh,cz]
 |a::as,0=>rfl
 |a::as,k+1=>by show cf (a::(as++[0])) (k+1)=_;rw[bO,bO];exact w9 as k
theorem w_(n k:Nat):cf (br (n+1)) (k+1)=cf (br n) (k+1)+cf (br n) k:=by show cf (sX (br n++[0]) (0::br n)) (k+1)=_;rw[AE (by rw[Vj,Vi];rfl),w9,bO]
theorem vE:∀n,cf (br n) 0=1
 |0=>rfl
 |n+1=>by show cf (sX (br n++[0]) (0::br n)) 0=_;rw[AE (by rw[Vj,Vi];rfl),w9,vE n];rfl
theorem vF:∀(n k:Nat),((k:Int)+1)*cf (br (n+1)) (k+1)=((n:Int)+1)*cf (br n) k
 |0,0=>by decide
 |0,k+1=>by rw[w_];have e1:cf (br 0) (k+1+1)=0:=dH (by rw[w6];lia);have e2:cf (br 0) (k+1)=0:=dH (by rw[w6];lia);rw[e1,e2,Wi];show((k+1:Nat)+1:Int)*(0+0)=0;lia
 |n+1,0=>by have h:=vF n 0;rw[w_,vE];rw[vE]at h;have e:((0:Nat):Int)+1=1:=rfl;rw[e]at h⊢;rw[WS]at h⊢;rw[h];lia
 |n+1,k+1=>by
  have h1:=vF n (k+1);have h2:=vF n k;have r:=w_ n k;rw[w_ (n+1) (k+1)];rw[XE,X1]at h1⊢;rw[XE,X1];generalize cf (br (n+1)) (k+1+1)=A at *;generalize cf (br (n+1)) (k+1)=B at *;generalize cf (br n) (k+1)=C at *;generalize cf (br n) k=E at *
  grind
def hm(a b:ah p):_h->ah p
 |[]=>0
 |c::l=>ak [c]*b ^ l.length+a*hm a b l
theorem uj(x:ah p):x ^ 0=1:=rfl
theorem n?(x:ah p)(n:Nat):x ^ (n+1)=x ^ n*x:=rfl
theorem HM:(ak [0]:ah p)=0:=rfl
theorem sC:(ak [1]:ah p)=1:=rfl
theorem Fd(a b:ah p):∀l:_h,hm a b (l++[0])=b*hm a b l
 |[]=>by show ak [0]*b ^ 0+a*0=b*0;rw[HM,uj];grind
 |c::l=>by
  show ak [c]*b ^ (l++[0]).length+a*hm a b (l++[0])=b*(ak [c]*b ^ l.length+a*hm a b l);rw[Fd a b l,Vj,show([0]:_h).length=1 from rfl,n?];generalize b ^ l.length=w;generalize hm a b l=v
  grind
theorem J_(a b:ah p):∀{as bs:_h},as.length=bs.length->hm a b (sX as bs)=hm a b as+hm a b bs
 |[],[],_=>by show(0:ah p)=0+0;grind
 |x::as,y::bs,h=>by
  have l:=Xg h;show ak [x+y]*b ^ (sX as bs).length+a*hm a b (sX as bs)=(ak [x]*b ^ as.length+a*hm a b as)+(ak [y]*b ^ bs.length+a*hm a b bs);rw[J_ a b l,wZ l,jP,<-l];generalize b ^ as.length=w;generalize hm a b as=v;generalize hm a b bs=u
  grind
theorem J!(a b:ah p):∀n,(a+b) ^ n=hm a b (br n)
 |0=>by show 1=ak [1]*b ^ 0+a*0;rw[uj,sC];grind
 |n+1=>by
  rw[n?,J! a b n];show _=hm a b (sX (br n++[0]) (0::br n));rw[J_ a b (by rw[Vj,Vi];rfl),Fd];show _=b*hm a b (br n)+(ak [0]*b ^ (br n).length+a*hm a b (br n));rw[HM];generalize hm a b (br n)=v;generalize b ^ (br n).length=w
  grind
theorem OX{n:Int}(h:dD p=true)(hn:¬ n % p=0):∃t,(t*n) % p=1:=let⟨_,t,_,_,_,e⟩:=gf h hn [];⟨t,e⟩
theorem zp{n c:Int}(h:dD p=true)(hn:¬ n % p=0)(e:(n*c) % p=0):c % p=0:=by
 obtain⟨t,ht⟩:=OX h hn;have e1:(t*n*c) % p=c % p:=by rw[X4,ht,WS,Yn _ (ZC p)]
 rw[<-e1,Wj,X4,e,Wi,XC]
theorem J?:∀n,cf (br n) n=1
 |0=>rfl
 |n+1=>by rw[w_,J? n,dH (by rw[w6];lia)];rfl
theorem R?(h:dD p=true){n k:Nat}(hn:p=(n:Int)+1)(hk:k<n):cf (br (n+1)) (k+1) % p=0:=by
 have e:=vF n k;refine zp h (n:=(k:Int)+1) ?_ ?_
 .rw[V9 ⋯ ⋯];lia
 .rw[e,<-hn,X4,Int.emod_self,Wy,XC]
theorem Ka{c:Int}(h:c % p=0):(ak [c]:ah p)=0:=by refine mk_eq λk=>?_;show Cg p (cf [c] k) (cf [0] k);rw[jh,iq];obtain⟨q,hq⟩:=XG h;exact⟨q*one k,by rw[hq,Wj];lia⟩
theorem hmz(a b:ah p):∀(l:_h),l≠[]->(∀k,k+1<l.length->cf l k % p=0)->hm a b l=ak [cf l (l.length-1)]*a ^ (l.length-1)
 |[],h,_=>absurd rfl h
 |[c],_,_=>by show ak [c]*b ^ 0+a*0=ak [c]*a ^ 0;rw[uj,uj];grind
 |c::x::l,_,h=>by
  have ih:=hmz a b (x::l) (List.cons_ne_nil _ _) λk hk=>by have:=h (k+1) (by rw[Vi];lia);rw[bO]at this;exact this
  have h0:=h 0 (by rw[Vi,Vi];lia);show ak [c]*b ^ (x::l).length+a*hm a b (x::l)=ak [cf (c::x::l) (l.length+1)]*a ^ (l.length+1);rw[Ka (show c % p=0 from h0),ih,bO,n?];show 0*_+a*(ak [cf (x::l) l.length]*a ^ l.length)=_;generalize a ^ l.length=w;generalize b ^ (x::l).length=v;generalize (ak [cf (x::l) l.length]:ah p)=u
  grind
theorem DM(h:dD p=true)(a b:ah p):(a+b) ^ p.toNat=a ^ p.toNat+b ^ p.toNat:=by
 have hr:=au h;obtain⟨n,hn⟩:∃n:Nat,p=(n:Int)+1:=⟨(p-1).toNat,⋯⟩
 have ep:p.toNat=n+1:=⋯
 rw[ep,J!];have hl:=w6 (n+1);cases hb:br (n+1) with
 |nil=>rw[hb]at hl;cases hl
 |cons c l=>
  have ll:l.length=n+1:=by rw[hb,Vi]at hl;lia
  have c1:c=1:=by have:=vE (n+1);rw[hb]at this;exact this
  have z:=hmz a b l (λz=>by rw[z]at ll;cases ll) λk hk=>by have:=R? h hn (k:=k) ⋯;rw[hb,bO]at this;exact this
  have t:=J? (n+1);rw[hb,bO]at t;show ak [c]*b ^ l.length+a*hm a b l=_;rw[z,ll,show n+1-1=n from rfl,t,c1,sC,n? a n];generalize a ^ n=w;generalize b ^ (n+1)=v
  grind
def Xp:ah p:=ak [0,1]
theorem ji(c:Int)(l:_h):(ak (c::l):ah p)=ak [c]+Xp*ak l:=by
 refine fV λk=>?_;rw[de,aV];have e:mF [0,1] (cf l) k=iE (cf l) k:=by show 0*cf l k+iE (mF [1] (cf l)) k=_;rw[eO (λj=>by rw[rL,WS]) k];lia
 rw[e];cases k with
 |zero=>show c=c+0;lia
 |succ k=>
  rw[bO,bO,cz];show _=0+cf l k;lia
theorem rP(m:_h):∀n:Nat,(ak (List.replicate n 0++m):ah p)=Xp ^ n*ak m
 |0=>by rw[uj];show ak m=1*ak m;grind
 |n+1=>by
  rw[VH,VD,ji,rP m n,HM,n?];generalize (Xp:ah p) ^ n=w
  grind
theorem one_pow:∀n:Nat,(1:ah p) ^ n=1
 |0=>rfl
 |n+1=>by rw[n?,one_pow n];grind
theorem vG(h:dD p=true):∀n:Nat,(ak [(n:Int)]:ah p) ^ p.toNat=ak [(n:Int)]
 |0=>by
  have hr:=au h;obtain⟨n,hn⟩:∃n:Nat,p.toNat=n+1:=⟨p.toNat-1,⋯⟩
  show(0:ah p) ^ p.toNat=0;rw[hn,n?];grind
 |n+1=>by rw[XE,X1,jP,DM h,vG h n,sC,one_pow]
def spr(P:Nat):_h->_h
 |[]=>[]
 |c::l=>c::(List.replicate (P-1) 0++spr P l)
theorem Fe(h:dD p=true):∀L:_h,(∀c∈L,0<=c)->(ak L:ah p) ^ p.toNat=ak (spr p.toNat L)
 |[],_=>by
  have hr:=au h;obtain⟨n,hn⟩:∃n:Nat,p.toNat=n+1:=⟨p.toNat-1,⋯⟩
  have z:(ak []:ah p)=0:=fV λk=>by rw[cz];exact(jh k).symm
  show(ak []:ah p) ^ p.toNat=ak [];rw[hn,n?,z];grind
 |c::l,hc=>by
  have hr:=au h;obtain⟨n,hn⟩:∃n:Nat,p.toNat=n+1:=⟨p.toNat-1,⋯⟩
  obtain⟨m,hm⟩:∃m:Nat,c=(m:Int):=⟨c.toNat,by have:=hc c Vu;lia⟩
  show _=ak (c::(List.replicate (p.toNat-1) 0++spr p.toNat l));rw[ji,ji c (_++_),DM h,rP,SA.mul_pow,<-Fe h l λx m=>hc x (Vx _ m),hm,vG h,hn,show n+1-1=n from rfl,n? Xp n];generalize (Xp:ah p) ^ n=w;generalize (ak l:ah p) ^ (n+1)=v
  grind
theorem Kb(n:Nat)(m:_h):∀k,cf (List.replicate n 0++m) k=if k<n then 0 else cf m (k-n):=by
 induction n with
 |zero=>intro k;rw[VG ⋯];rfl
 |succ n ih=>
  intro k;rw[VH,VD];cases k with
  |zero=>rw[Vv ⋯];rfl
  |succ k=>
   rw[bO,ih];by_cases z:k<n
   .rw[Vv z,Vv ⋯]
   .rw[VG z,VG ⋯,show k+1-(n+1)=k-n by lia]
theorem Kd{P:Nat}(hP:0<P):∀(L:_h)(k:Nat),cf (spr P L) k=if k % P=0 then cf L (k / P)else 0
 |[],k=>by show cf [] k=_;rw[cz,cz];split<;>rfl
 |c::l,0=>by rw[Vv (Nat.zero_mod P),Nat.zero_div];rfl
 |c::l,k+1=>by
  show cf (c::(List.replicate (P-1) 0++spr P l)) (k+1)=_;rw[bO,Kb];by_cases z:k<P-1
  .rw[Vv z,Nat.mod_eq_of_lt ⋯,VG ⋯]
  .rw[VG z,Kd hP l,show k-(P-1)=k+1-P by lia];have e1:(k+1) % P=(k+1-P) % P:=Nat.mod_eq_sub_mod ⋯;have e2:(k+1) / P=(k+1-P) / P+1:=Nat.div_eq_sub_div hP ⋯;rw[e1,e2];by_cases y:(k+1-P) % P=0
   .rw[Vv y,Vv y,bO]
   .rw[VG y,VG y]
theorem Ke(h:dD p=true)(hU:Row p U)(nU:U≠[])(hm:((U.length:Int)-1) % p=0)(hd:∀k,¬ k % p.toNat=0->cf U k % p=0):(ak (g_ U p):ah p) ^ p.toNat=ak U:=by
 have hr:=au h;have u0:0<U.length:=VC.mpr nU;obtain⟨m,hmm⟩:∃m:Nat,(U.length:Int)=p*m+1:=by have h1:=Wb ((U.length:Int)-1) p;have h2:0<=((U.length:Int)-1) / p:=Y3 ⋯ ⋯;refine⟨(((U.length:Int)-1) / p).toNat,?_⟩;rw[Wh h2];lia
 have e:=Fc ⋯ hmm;rw[Fe h (g_ U p) (λc mc=>by
  rw[e]at mc;obtain⟨j,_,rfl⟩:=VN.mp mc;exact(hU.A? ⋯ _).1)]
 refine mk_eq λk=>?_;rw[Kd ⋯];by_cases z:k % p.toNat=0
 .rw[Vv z];have ek:p.toNat*(k / p.toNat)=k:=Nat.mul_div_cancel' (Yd z);have:cf (g_ U p) (k / p.toNat)=cf U k:=by
   rw[e];by_cases y:k / p.toNat<m+1
   .show((List.range (m+1)).map λj=>U.getD (p.toNat*j) 0).getD (k / p.toNat) 0=_;rw[VA,Vy,Wg y];show U.getD (p.toNat*(k / p.toNat)) 0=_;rw[ek];rfl
   .rw[dH (by rw[Vg,VU];lia),dH ?_];have h3:p.toNat*(m+1)<=p.toNat*(k / p.toNat):=ZL _ ⋯;rw[ek,Nat.mul_add]at h3;have h4:((p.toNat*m:Nat):Int)=p*m:=by rw[W!,Wh ⋯]
    lia
  rw[this];exact Cg.refl p _
 .rw[VG z];obtain⟨q,hq⟩:=XG (hd k z);exact⟨-q,by rw[hq,XZ];lia⟩
open SA (b?)
theorem j'{A G:_h}(h:OW p A B G):d8 p G/\(ak A:ah p)=ak G*ak (bU p A G)/\(ak B:ah p)=ak G*ak (bU p B G)/\∃u v:ah p,ak G=u*ak A+v*ak B:=by
 have q:∀C:_h,aQ p (cf C) (mF (bU p C G) (cf G))->(ak C:ah p)=ak G*ak (bU p C G):=λC e=>by rw[bR];exact mk_eq (e.trans (aQ.of_eq (aV _ _)).symm)
 obtain⟨u,v,e⟩:=h.c;exact⟨⟨h.r,h.n,h.l⟩,q A h.a,q B h.b,ak u,ak v,mk_eq (e.trans (aQ.of_eq λk=>by rw[de,aV,aV]))⟩
theorem sM{P:_h}(h:d8 p P)(l:P.length=1):P=[1]:=by obtain⟨x,rfl⟩:=List.length_eq_one_iff.mp l;rw[show x=1 from h.l1]
theorem jv(hp:2<=p){P:_h}(h:d8 p P){z:ah p}(e:ak P*z=1):P=[1]:=by obtain⟨Q,_,_,nQ,l⟩:=sW ⋯ (nC hp) (List.cons_ne_nil _ _) h (x:=z) (by rw[sC,e]);have:=VC.mpr nQ;have:=VC.mpr h.ne;exact sM h (by rw[show[(1:Int)].length=1 from rfl]at l;lia)
def jz:List (Nat×List Int)->ah p
 |[]=>1
 |q::l=>ak q.2 ^ q.1*jz l
theorem nJ:∀(a b:List (Nat×List Int)),(jz (a++b):ah p)=jz a*jz b
 |[],b=>by show jz b=1*jz b;grind
 |q::a,b=>by
  show ak q.2 ^ q.1*jz (a++b)=ak q.2 ^ q.1*jz a*jz b;rw[nJ a b];generalize (ak q.2:ah p) ^ q.1=w
  grind
theorem nK{x:ah p}:∀{ps:List (Nat×List Int)},(∀q∈ps,b? x (ak q.2))->b? x (jz ps)
 |[],_=>b?.one
 |q::l,h=>((h q Vu).pow q.1).mul (nK λr m=>h r (Vx _ m))
theorem Kf:∀n:Nat,(SA.cst n:ah p)=ak [(n:Int)]
 |0=>rfl
 |n+1=>by show SA.cst n+1=_;rw[Kf n,XE,X1,jP,sC]
theorem d8.nL(hp:0<p){P:_h}(h:d8 p P):∀(n:Nat)(x y:ah p),ak P ^ n*x=ak P ^ n*y->x=y
 |0,x,y,e=>by rw[uj]at e;grind
 |n+1,x,y,e=>by rw[n?,dg,dg]at e;exact h.cancel hp _ _ (d8.nL hp h n _ _ e)
structure Lv(p:Int)(F S1 U1:ah p)(m:Nat)(S U:_h)(ps:List (Nat×List Int)):Prop where
 mS:d8 p S
 mU:d8 p U
 eq:F=jz ps*ak S ^ m*ak U
 sq:b? (ak S:ah p) (dP (ak S))
 c1:∀q∈ps,b? (ak q.2:ah p) (ak S)/\b? (ak q.2:ah p) (ak U)/\b? (ak q.2:ah p) (dP (ak q.2))
 c2:ps.Pairwise λa b=>b? (ak a.2:ah p) (ak b.2)
 lt:∀q∈ps,1<=q.1/\q.1<m/\¬ q.1 % p.toNat=0
 mn:∀q∈ps,d8 p q.2/\2<=q.2.length
 inc:ps.Pairwise λa b=>a.1<b.1
 dv:∃x,S1=ak S*x
 m1:1<=m
theorem Lv.step(hp:dD p=true){F S1 U1 a b:ah p}{S G P V:_h}{ps:List (Nat×List Int)}(L:Lv p F S1 U1 m S U ps)(hF:F=S1*U1)(hg:U1=a*F+b*dP F)(g:OW p S U G)(hP:d8 p P)(hV:d8 p V)(eP:(ak S:ah p)=ak G*ak P)(eV:(ak U:ah p)=ak G*ak V):
  Lv p F S1 U1 (m+1) G V (if 1<P.length then ps++[(m,P)]else ps)/\(1<P.length->¬ m % p.toNat=0):=by
 have hr:=au hp;obtain⟨mG,_,_,u,v,eG⟩:=j' g;have eS:(ak S:ah p)=ak P*ak G:=by rw[eP,bR]
 obtain⟨k1,k2,k3,k4,k5⟩:=SA.J8 (d:=dP) j_ eS eV eG L.sq;have kk:∀q∈ps,b? (ak q.2:ah p) (ak P)/\b? (ak q.2:ah p) (ak G)/\b? (ak q.2:ah p) (ak V):=λq mq=>SA.J9 eS eV (L.c1 q mq).1 (L.c1 q mq).2.1;have e1:=SA.step_eq L.eq eS eV;obtain⟨x,ex⟩:=L.dv;have dvG:∃y,S1=ak G*y:=⟨ak P*x,by rw[ex,eP];grind⟩
 have np:1<P.length->¬ m % p.toNat=0:=λlP z=>by
  have m0:(SA.cst m:ah p)=0:=by rw[Kf];refine Ka ?_;obtain⟨q,hq⟩:=Yd z;rw[hq,W!,Wh ⋯,X4,Int.emod_self,Wy,XC]
  have d0:dP (ak P ^ m:ah p)=0:=by
   refine hP.cancel ⋯ _ _ ?_;rw[SA.aaC j_,m0];generalize (ak P:ah p) ^ m=w
   grind
  obtain⟨y,hy⟩:=SA.B0 (d:=dP) j_ (P:=ak P) (W:=ak P ^ m) (Q:=jz ps*ak G ^ (m+1)*ak V) (F:=F) (S:=S1) (U:=U1) (x:=ak G*x) (a:=a) (b:=b) (by
   rw[e1];generalize (ak P:ah p) ^ m=w;generalize (ak G:ah p) ^ (m+1)=t
   grind) d0 hF hg (by rw[ex,eS];grind) (((nK λq mq=>(kk q mq).1.symm).mul (k1.pow _)).mul k5) (hP.nL ⋯ m)
  rw[jv ⋯ hP hy]at lP;exact absurd lP ⋯
 refine⟨?_,np⟩;by_cases lP:1<P.length
 .rw[Vv lP];refine⟨mG,hV,?_,k3,λq mq=>?_,?_,λq mq=>?_,λq mq=>?_,?_,dvG,⋯⟩
  .rw[e1,nJ];show _=jz ps*(ak P ^ m*1)*_*_;generalize (ak P:ah p) ^ m=w;generalize (ak G:ah p) ^ (m+1)=t
   grind
  .rcases VF.mp mq with mq|mq
   .exact⟨(kk q mq).2.1,(kk q mq).2.2,(L.c1 q mq).2.2⟩
   .rw[Vz.mp mq];exact⟨k1,k5,k2⟩
  .refine WR.mpr ⟨L.c2,W7 _ _,λq mq r mr=>?_⟩;rw[Vz.mp mr];exact(kk q mq).1
  .rcases VF.mp mq with mq|mq
   .have:=L.lt q mq;exact⟨this.1,⋯,this.2.2⟩
   .rw[Vz.mp mq];exact⟨L.m1,by show m<m+1;lia,np lP⟩
  .rcases VF.mp mq with mq|mq
   .exact L.mn q mq
   .rw[Vz.mp mq];exact⟨hP,lP⟩
  .refine WR.mpr ⟨L.inc,W7 _ _,λq mq r mr=>?_⟩;rw[Vz.mp mr];exact(L.lt q mq).2.1
 .rw[VG lP];have p1:P=[1]:=sM hP (by have:=VC.mpr hP.ne;lia);refine⟨mG,hV,?_,k3,λq mq=>⟨(kk q mq).2.1,(kk q mq).2.2,(L.c1 q mq).2.2⟩,L.c2,λq mq=>?_,L.mn,L.inc,dvG,⋯⟩
  .rw[e1,p1,sC,one_pow];generalize (ak G:ah p) ^ (m+1)=t
   grind
  .have:=L.lt q mq;exact⟨this.1,⋯,this.2.2⟩
theorem AF(hp:dD p=true){A:_h}(hA:Row p A)(hB:Row p B)(nA:A≠[])(l1:A.length<=5000)(l2:B.length<=5000):∃G,OW p A B G:=by obtain⟨_,_,G,_,_,_,_,g,_⟩:=AD hp (st:=[ay A,ay B]) (n:=0) (m:=1) rfl rfl hA hB (.inl nA) l1 l2;exact⟨G,g⟩
def nM(p:Int)(A:_h):_h:=b! ((fK A).map (·.fmod p))
theorem qh(hp:0<p)(A:_h):Row p (nM p A):=Row.of hp _
theorem sY(hp:0<p)(A:_h):(ak (nM p A):ah p)=dP (ak A):=by rw[JP];exact mk_eq (Row.cg hp _)
theorem qj(A:_h):(nM p A).length<=A.length-1:=by refine V! (gN _) ?_;unfold fK gm;rw[Vg,Vg,Vg,VU];lia
theorem Lv.start(hp:dD p=true){F S:_h}(hS:d8 p S)(gU:OW p F (nM p F) U)(eS:(ak F:ah p)=ak U*ak S)(l1:S.length<=5000):
  Lv p (ak F) (ak S) (ak U) 1 S U []/\∃a b:ah p,ak U=a*ak F+b*dP (ak F):=by
 have hr:=au hp;have dz:0<p:=⋯
 have eF:=sY dz F;have rS:=qh dz S;have eD:=sY dz S;have l2:(nM p S).length<=5000:=by have:=qj (p:=p) S;lia
 obtain⟨mU,_,e2,a,b,e3⟩:=j' gU;rw[eF]at e2 e3;obtain⟨D,gD⟩:=AF hp hS.row rS hS.ne l1 l2;obtain⟨mD,d1,d2,u,v,d3⟩:=j' gD;rw[eD]at d2 d3;have d0:D=[1]:=aaB ⋯ mD mU hS (f:=ak F) (w:=ak (bU p (nM p F) U)) (a:=a) (b:=b) (a2:=0) (b2:=0) (by rw[eS,bR]) e2 e3 d1 d2;rw[d0,sC]at d3;refine⟨⟨hS,mU,?_,⟨u,v,d3.symm⟩,(λq m=>by cases m),.nil,(λq m=>by cases m),(λq m=>by cases m),.nil,⟨1,by grind⟩,Vt _⟩,a,b,e3⟩;show ak F=1*ak S ^ (0+1)*ak U;rw[n?,uj,eS]
 grind
theorem DN(hp:0<p)(h:d8 p U)(e:Dvd p U (jy (cf U))):aQ p (jy (cf U)) (λ_=>0):=by
 obtain⟨x,hx⟩:=e;obtain⟨r,hr⟩:=NE (b! ((fK U).map (·.fmod p)))
 have rr:Row p r:=by rw[hr];exact Row.of hp _
 have cg:aQ p (cf r) (jy (cf U)):=by rw[hr];exact(Row.cg hp _).trans (aQ.of_eq (oN U))
 have u0:=VC.mpr h.ne;have lr:r.length<U.length:=by
  have:r.length<=U.length-1:=j9 rr.cut λk hk=>by
   have c:=cg k;have z:jy (cf U) k=0:=by show((k:Int)+1)*cf U (k+1)=0;rw[dH ⋯,Wi]
   rw[z]at c;have q:=rr.A? hp k;obtain⟨y,hy⟩:=c;by_cases w:y=0
   .rw[w]at hy;lia
   .exfalso;rcases Int.lt_or_gt_of_ne w with w|w
    .have:=WA (show y<=-1 by lia) (show 0<=p by lia);lia
    .have:=WA (show 1<=y by lia) (show 0<=p by lia);lia
  lia
 have:=kE hp rr h.ne h.l1 lr (cg.trans hx);rw[this]at cg;exact cg.symm.trans (aQ.of_eq λk=>cz k)
theorem sZ(x:ah p)(m:Nat):∀n:Nat,x ^ (m+n)=x ^ m*x ^ n
 |0=>by rw[uj,Nat.add_zero];grind
 |n+1=>by
  rw[<-Nat.add_assoc,n?,n?,sZ x m n];generalize x ^ m=a;generalize x ^ n=b
  grind
theorem DO(x:ah p)(m:Nat):∀s:Nat,x ^ (s*m)=(x ^ m) ^ s
 |0=>by rw[Nat.zero_mul,uj,uj]
 |s+1=>by rw[Nat.add_mul,Nat.one_mul,sZ,DO x m s,n?]
def NL(st:Nat)(qs:List (Nat×List Int)):List (Nat×List Int):=qs.map λq=>(st*q.1,q.2)
theorem Ff(st:Nat):∀qs:List (Nat×List Int),(jz (NL st qs):ah p)=jz qs ^ st
 |[]=>(one_pow st).symm
 |q::l=>by show ak q.2 ^ (st*q.1)*jz (NL st l)=(ak q.2 ^ q.1*jz l) ^ st;rw[Ff st l,SA.mul_pow,DO]
theorem kH{q:Nat×List Int}:∀{ps:List (Nat×List Int)},q∈ps->1<=q.1->∃x,(jz ps:ah p)=ak q.2*x
 |r::l,m,h=>by
  rcases VX.mp m with rfl|m
  .obtain⟨n,hn⟩:∃n,q.1=n+1:=⟨q.1-1,⋯⟩
   refine⟨ak q.2 ^ n*jz l,?_⟩;show ak q.2 ^ q.1*jz l=_;rw[hn,n?];generalize (ak q.2:ah p) ^ n=w
   grind
  .obtain⟨x,e⟩:=kH m h;refine⟨ak r.2 ^ r.1*x,?_⟩;show ak r.2 ^ r.1*jz l=_;rw[e];generalize (ak r.2:ah p) ^ r.1=w
   grind
structure Ov(p:Int)(F:ah p)(st:Nat)(L:_h)(ps:List (Nat×List Int)):Prop where
 mL:d8 p L
 eq:F=jz ps*ak L ^ st
 c1:∀q∈ps,b? (ak q.2:ah p) (ak L)/\b? (ak q.2:ah p) (dP (ak q.2))
 c2:ps.Pairwise λa b=>b? (ak a.2:ah p) (ak b.2)
 lt:∀q∈ps,1<=q.1/\¬ q.1 % st=0
 mn:∀q∈ps,d8 p q.2/\2<=q.2.length
 ne:ps.Pairwise λa b=>a.1≠b.1
 s1:1<=st
theorem Ov.step(hp:dD p=true){F S1 U1:ah p}{st:Nat}{L L2:_h}{ps qs:List (Nat×List Int)}(O:Ov p F st L ps)(V:Lv p (ak L) S1 U1 m [1] U qs)(hL:d8 p L2)(eU:(ak L2:ah p) ^ p.toNat=ak U):Ov p F (st*p.toNat) L2 (ps++NL st qs):=by
 have hr:=au hp;obtain⟨n,hn⟩:∃n:Nat,p.toNat=n+1:=⟨p.toNat-1,⋯⟩
 have e1:(ak L:ah p)=jz qs*ak U:=by rw[V.eq,sC,one_pow];grind
 have s1:=O.s1;have dU:∃x,(ak U:ah p)=ak L2*x:=⟨ak L2 ^ n,by rw[<-eU,hn,n?];exact bR _ _⟩
 obtain⟨x,ex⟩:=dU;have cL:∀q∈ps,b? (ak q.2:ah p) (ak L2)/\∀r∈qs,b? (ak q.2:ah p) (ak r.2):=λq mq=>by have c:=(O.c1 q mq).1;refine⟨c.of_dvd (x:=x*jz qs) (by rw[e1,ex];grind),λr mr=>?_⟩;obtain⟨y,ey⟩:=kH (p:=p) mr (V.lt r mr).1;exact c.of_dvd (x:=y*ak U) (by rw[e1,ey];grind)
 have ms:∀{q},q∈NL st qs->∃r∈qs,q=(st*r.1,r.2):=λ{q}mq=>by obtain⟨r,mr,e⟩:=VN.mp mq;exact⟨r,mr,e.symm⟩
 have nd:∀r∈qs,¬ (st*r.1) % (st*p.toNat)=0:=λr mr z=>by
  rw[Nat.mul_mod_mul_left]at z;rcases Nat.mul_eq_zero.mp z with z|z
  .lia
  .exact(V.lt r mr).2.2 z
 have ns:∀q∈ps,∀r∈qs,q.1≠st*r.1:=λq mq r mr e=>(O.lt q mq).2 (by rw[e,ZY]);refine⟨hL,?_,λq mq=>?_,?_,λq mq=>?_,λq mq=>?_,?_,Nat.mul_pos s1 ⋯⟩
 .rw[nJ,Ff,O.eq,e1,SA.mul_pow,<-eU,DO];generalize (jz qs:ah p) ^ st=w;generalize ((ak L2:ah p) ^ p.toNat) ^ st=v
  grind
 .rcases VF.mp mq with mq|mq
  .exact⟨(cL q mq).1,(O.c1 q mq).2⟩
  .obtain⟨r,mr,rfl⟩:=ms mq;exact⟨(V.c1 r mr).2.1.of_dvd ex,(V.c1 r mr).2.2⟩
 .refine WR.mpr ⟨O.c2,V?.mpr V.c2,λq mq r mr=>?_⟩;obtain⟨r',mr',rfl⟩:=ms mr;exact(cL q mq).2 r' mr'
 .rcases VF.mp mq with mq|mq
  .refine⟨(O.lt q mq).1,λz=>(O.lt q mq).2 ?_⟩;exact Zs (Nat.dvd_trans (Nat.dvd_mul_right st p.toNat) (Yd z))
  .obtain⟨r,mr,rfl⟩:=ms mq;exact⟨Nat.mul_pos s1 (V.lt r mr).1,nd r mr⟩
 .rcases VF.mp mq with mq|mq
  .exact O.mn q mq
  .obtain⟨r,mr,rfl⟩:=ms mq;exact V.mn r mr
 .refine WR.mpr ⟨O.ne,V?.mpr (V.inc.imp λ{a b}h e=>?_),λq mq r mr=>?_⟩
  .have:=Za s1 e;lia
  .obtain⟨r',mr',rfl⟩:=ms mr;exact ns q mq r' mr'
theorem NM{A:_h}(g:OW p A B [1]):b? (ak A:ah p) (ak B):=by obtain⟨_,_,_,u,v,e⟩:=j' g;exact⟨u,v,by rw[<-e,sC]⟩
abbrev pbT:MT:=gA (ag v! (ao bD (aa jU ai)) cm)
abbrev pbI:MB:=sv (gA (ag v! (ao bD (aa A_ ai)) cm)) (wk d6 qc A_) fE
abbrev pbB:MB:=az (aK 8 (ao PM.dO (aa bc (aa jU (aa iU ai))))) (az (aK 9 (ag bJ (ao PM.parted (aa bc (aa jU (aa GF ai)))) cW)) (az pbI (az (aK 6 GF) (az (aK 5 (ag bJ (ao PM.parted (aa bc (aa iU (aa GF ai)))) cW)) (Jj 7 GS d!)))))
theorem kI{s:af}{n:Nat}(h1:s[n]?=some (.lst us))(h2:s[d]?=some (.dK aW)):d≠n:=by intro z;rw[z,h1]at h2;cases h2
def ab1(μ:MN.Env)(s:af):Nat:=match(μ[5]?:Option (Option aj)),(μ[6]?:Option (Option aj)) with
 |some (some (.loc k)),some (some (.loc j))=>ig k s+ig j s
 |_,_=>0
theorem jR{s:af}{k:Nat}{A:_h}(h:s[k]?=some (ay A)):ig k s=A.length:=by unfold ig;rw[ax h];exact aE A
abbrev En:=Nat×Nat×List Int
def yd(e:En):fX×aj:=(.inl (e.1:Int),.loc e.2.1)
theorem Kg{k:fX}(h:∀kv∈aW,kv.1≠k):Ag aW k v=aW++[(k,v)]:=by unfold Ag;rw[VG];intro z;obtain⟨kv,m,e⟩:=List.any_eq_true.mp z;exact h kv m (WM e)
structure PbL(p:Int)(D:Nat)(st:af)(d:Nat)(x1 x4:Option aj)(sN:Nat)(F S1 U1:ah p)(es0:List En)(m:Nat)(μ:MN.Env)(s:af)(kS kU:Nat)(S U:_h)(es:List En)(qs:List (Nat×List Int)):Prop where
 env:∃x8 x9,μ=[qI p, x1, qL d, qI (sN:Int), x4, qL kU, qL kS, qI ((sN:Int)*(m:Int)), x8, x9]
 fr:Fr st s
 hd:st.length<=d
 dk:s[d]?=some (.dK ((es0++es).map yd))
 re:∀e∈es0++es,s[e.2.1]?=some (ay e.2.2)
 eq_:es.map (λe=>(e.1,e.2.2))=NL sN qs
 ct:(es0++es).length+(S.length-1)+(U.length-1)<=D
 lS:s[kS]?=some (ay S)
 lU:s[kU]?=some (ay U)
 dv:Dvd p U (mF S (jy (cf U)))
 lv:Lv p F S1 U1 m S U qs
 ap:(es0++es).Pairwise λa b=>a.2.1<b.2.1
 fh:∀e∈es0++es,st.length<=e.2.1
section
variable{D:Nat}{st:af}{sN:Nat}{F S1 U1 a b:ah p}{es0:List En}
theorem Kh(hp:dD p=true)(hD:D<=2000)(s1:1<=sN)(n0:∀e∈es0,¬ e.1 % sN=0)(hF:F=S1*U1)(hg:U1=a*F+b*dP F){μ:MN.Env}{s:af}{kS kU:Nat}{S:_h}{es:List En}{qs:List (Nat×List Int)}(h:PbL p D st d x1 x4 sN F S1 U1 es0 m μ s kS kU S U es qs):
  ∃μ' s',e! pbT pbB μ s=.nx μ' s'/\∃m kS kU U' es qs,U'.length<=U.length/\PbL p D st d x1 x4 sN F S1 U1 es0 m μ' s' kS kU [1] U' es qs:=by
 have hr:=au hp;have dz:0<p:=⋯
 refine il (t:=pbT) (body:=pbB) (λμ s=>∃m kS kU S U' es qs,U'.length<=U.length/\PbL p D st d x1 x4 sN F S1 U1 es0 m μ s kS kU S U' es qs) ab1 (λμ s=>∃m kS kU U' es qs,U'.length<=U.length/\PbL p D st d x1 x4 sN F S1 U1 es0 m μ s kS kU [1] U' es qs) ?_ μ s ⟨m,kS,kU,S,U,es,qs,Vt _,h⟩;clear h;obtain⟨LU,hLU⟩:=NE U.length
 rw[<-hLU];clear hLU;rintro μ s ⟨m,kS,kU,S,U,es,qs,hle,h⟩;obtain⟨x8,x9,rfl⟩:=h.env;obtain⟨L,hL⟩:=NE ((S.length:Int):Int)
 have kl:bD [.loc kS] s=.ok (.int L) s:=by rw[a_ (ax h.lS),aE,hL]
 have s0:0<S.length:=VC.mpr h.lv.mS.ne;have u0:0<U.length:=VC.mpr h.lv.mU.ne;have ct:=h.ct;by_cases h1:S.length=1
 .have e:=sM h.lv.mS h1;have h0:decide ((1:Int)<L)=false:=V5 (by rw[hL,h1];decide);rw[e]at h;exact .inl ⟨s,by simp![kl,h0],m,kS,kU,U,es,qs,hle,h⟩
 .have h0:decide ((1:Int)<L)=true:=V8 ⋯;obtain⟨s1',kF,G,e1,F1,_,lF,gG,_⟩:=AD hp h.lS h.lU h.lv.mS.row h.lv.mU.row (.inl h.lv.mS.ne) ⋯ ⋯;have xN:¬ aM G % p=0:=by rw[gG.l,V9 ⋯ ⋯];lia
  obtain⟨qS,_,_,_,qlS⟩:=fM hp (as:=S) gG.n xN;obtain⟨qU,_,_,_,qlU⟩:=fM hp (as:=U) gG.n xN;obtain⟨nP,eP,lP1⟩:=nI dz h.lv.mS.row h.lv.mS.ne qS gG.n gG.l gG.a;obtain⟨nV,eV,lV⟩:=nI dz h.lv.mU.row h.lv.mU.ne qU gG.n gG.l gG.b;have g0:0<G.length:=VC.mpr gG.n;have p0:0<(bU p S G).length:=VC.mpr nP;have v0:0<(bU p U G).length:=VC.mpr nV;obtain⟨mG,g1,g2,_⟩:=j' gG;have mP:d8 p (bU p S G):=⟨qS,nP,by rw[<-lP1];exact h.lv.mS.l1⟩
  have mV:d8 p (bU p U G):=⟨qU,nV,by rw[<-lV];exact h.lv.mU.l1⟩
  obtain⟨LV,_⟩:=h.lv.step hp hF hg gG mP mV g1 g2;obtain⟨s2,kP,z2,e2,F2,lkP,_,_,lP,_⟩:=gQ hp (ax (F1 _ _ h.lS)) lF gG.n xN ⋯ ⋯;have uk:=F1.trans F2;have Sb:=uk _ _ h.dk;obtain⟨LP,hLP⟩:=NE (((bU p S G).length:Int):Int)
  have kp:bD [.loc kP] s2=.ok (.int LP) s2:=by rw[a_ (ax lP),aE,hLP]
  obtain⟨ql,zu⟩:=NE ((sN:Int)*(m:Int):Int)
  rw[<-zu];obtain⟨s3,qx,ei,dk3,F3,re3,q3,c3,lF3,lU3,ap3,fh3⟩:∃s3 qx,pbI [qI p, x1, qL d, qI (sN:Int), x4, qL kU, qL kS, qI ql, qL kF, qL kP] s2=.nx [qI p, x1, qL d, qI (sN:Int), x4, qL kU, qL kS, qI ql, qL kF, qL kP] s3/\s3[d]?=some (.dK ((es0++qx).map yd))/\Fr st s3/\(∀e∈es0++qx,s3[e.2.1]?=some (ay e.2.2))/\qx.map (λe=>(e.1,e.2.2))=NL sN (if 1<(bU p S G).length then qs++[(m,bU p S G)]else qs)/\(es0++qx).length+(G.length-1)+((bU p U G).length-1)<=D/\s3[kF]?=some (ay G)/\s3[kU]?=some (ay U)/\((es0++qx).Pairwise λa b=>a.2.1<b.2.1)/\∀e∈es0++qx,st.length<=e.2.1:=by
   by_cases hq:1<(bU p S G).length
   .have hq0:decide ((1:Int)<LP)=true:=V8 ⋯;have nw:∀kv∈(es0++es).map yd,kv.1≠.inl ql:=λkv mk e=>by
     obtain⟨x,mx,rfl⟩:=VN.mp mk;have ex:(x.1:Int)=ql:=by injection e
     rw[zu,<-W!]at ex;have ex':x.1=sN*m:=⋯
     rcases VF.mp mx with mx|mx
     .exact n0 x mx (by rw[ex',ZY])
     .have:(x.1,x.2.2)∈NL sN qs:=by rw[<-h.eq_];exact VV mx
      obtain⟨q,mq,eq⟩:=VN.mp this;have e3:sN*q.1=x.1:=WE Prod.fst eq;rw[ex']at e3;have:=Za s1 e3;have:=(h.lv.lt q mq).2.1;lia
    have pn:=Kg (v:=.loc kP) nw;have ek:(es0++es).map yd++[(.inl ql,.loc kP)]=(es0++(es++[(sN*m,kP,bU p S G)])).map yd:=by rw[<-VY,VS (l₁:=es0++es)];show _=_++[((.inl ((sN*m:Nat):Int):fX),aj.loc kP)];rw[W!,zu]
    refine⟨s2.set d (.dK (Ag ((es0++es).map yd) (.inl ql) (.loc kP))),es++[(sN*m,kP,bU p S G)],?_,by rw[gz Sb,pn,ek],(h.fr.trans uk).set h.hd _,λe me=>?_,?_,?_,e? (F2 _ _ lF) (kI (F2 _ _ lF) Sb),e? (uk _ _ h.lU) (kI (uk _ _ h.lU) Sb),by
     rw[<-VY];refine WR.mpr ⟨h.ap,W7 _ _,λx mx y my=>?_⟩;rw[Vz.mp my];have:=OU (F1 _ _ (h.re x mx));show x.2.1<kP;lia,λe me=>by
     rw[<-VY]at me;rcases VF.mp me with me|me
     .exact h.fh e me
     .rw[Vz.mp me];have:=(h.fr.trans F1).len;show st.length<=kP;lia⟩
    .have ep:wk d6 qc A_ [qI p, x1, qL d, qI (sN:Int), x4, qL kU, qL kS, qI ql, qL kF, qL kP] s2=.nx [qI p, x1, qL d, qI (sN:Int), x4, qL kU, qL kS, qI ql, qL kF, qL kP] (s2.set d (.dK (Ag ((es0++es).map yd) (.inl ql) (.loc kP)))):=by
      have qx:sJ s2 (.loc d) (.int ql) (.loc kP)=some (s2.set d (.dK (Ag ((es0++es).map yd) (.inl ql) (.loc kP)))):=by unfold sJ;dsimp only;rw[Sb];dsimp only;rw[Vv (by rw[Vg,Vp];lia)];rfl
      show(match sJ s2 (.loc d) (.int ql) (.loc kP) with
       |some qz=>fI.nx _ qz
       |none=>.bad)=_
      rw[qx]
     simp![kp,hq0,ep]
    .rw[<-VY]at me;rcases VF.mp me with me|me
     .have:=uk _ _ (h.re e me);exact e? this (kI this Sb)
     .rw[Vz.mp me];exact e? lP (kI lP Sb)
    .rw[Vv hq,VS,h.eq_];unfold NL;rw[VS];rfl
    .rw[<-VY,Vj];show(es0++es).length+1+_+_<=D;lia
   .have hq0:decide ((1:Int)<LP)=false:=V5 ⋯;exact⟨s2,es,by simp![kp,hq0],Sb,h.fr.trans uk,λe me=>uk _ _ (h.re e me),by rw[VG hq];exact h.eq_,⋯,F2 _ _ lF,uk _ _ h.lU,h.ap,h.fh⟩
  obtain⟨s4,kV,z4,e4,F4,_,_,_,lV4,_⟩:=gQ hp (ax lU3) lF3 gG.n xN ⋯ ⋯;obtain⟨a',b',hB⟩:=gG.c;refine .inr ⟨s,[qI p, x1, qL d, qI (sN:Int), x4, qL kV, qL kF, qI (ql+(sN:Int)), qL kF, qL kP],s4,?_,.inl ?_,⟨m+1,kF,kV,G,bU p U G,qx,_,⋯,⟨_,_,by rw[zu,XE,X1,Xf,Xa]⟩,F3.trans F4,h.hd,F4 _ _ dk3,λe me=>F4 _ _ (re3 e me),q3,c3,F4 _ _ lF3,lV4,Nw dz gG.n gG.l gG.a gG.b hB h.dv,LV,ap3,fh3⟩,?_⟩
  .simp![kl,h0]
  .rw[pbB];generalize pbI=I at ei⊢;simp![Jy,RH,abQ,aah,aai,e1,e2,a! qf,ei,e4]
  .show ig kV s4+ig kF s4<ig kU s+ig kS s;rw[jR lV4,jR (F4 _ _ lF3),jR h.lU,jR h.lS];lia
end
end PG
variable {eF eP fF fP:List PG.En}
namespace PG
open PySem.Spec L2 MN
open PyProof.Rows hiding St kindOf
abbrev poT:MT:=gA (ag v! (ao bD (aa fY ai)) cm)
abbrev poW:MB:=e! pbT pbB
abbrev poX:ME:=vD iU bc
abbrev poB:MB:=az (aK 5 (ao PM.dO (aa bc (aa fY (aa (ao PM.f? (aa bc (aa fY ai))) ai))))) (az (aK 6 (ag bJ (ao PM.parted (aa bc (aa fY (aa iU ai)))) cW)) (az (aK 7 d!) (az poW (az (aK 4 poX) (aK 3 (ag b9 d! bc))))))
def ab2(μ:MN.Env)(s:af):Nat:=match(μ[4]?:Option (Option aj)) with
 |some (some (.loc k))=>ig k s
 |_=>0
open SA (b?)
def gj(es:List En):List (Nat×List Int):=es.map λe=>(e.1,e.2.2)
structure PoL(p:Int)(D:Nat)(st:af)(d:Nat)(x1:Option aj)(F:ah p)(sN:Nat)(μ:MN.Env)(s:af)(kL:Nat)(L:_h)(es:List En):Prop where
 env:∃x5 x6 x7 x8 x9,μ=[qI p, x1, qL d, qI (sN:Int), qL kL, x5, x6, x7, x8, x9]
 fr:Fr st s
 hd:st.length<=d
 dk:s[d]?=some (.dK (es.map yd))
 re:∀e∈es,s[e.2.1]?=some (ay e.2.2)
 ct:es.length+(L.length-1)<=D
 lL:s[kL]?=some (ay L)
 ov:Ov p F sN L (gj es)
 ap:es.Pairwise λa b=>a.2.1<b.2.1
 fh:∀e∈es,st.length<=e.2.1
section
variable{D:Nat}{st:af}{F:ah p}
theorem Ki(hp:dD p=true)(h:d8 p U)(e:Dvd p U (mF [1] (jy (cf U)))):∀k,¬ k % p.toNat=0->cf U k % p=0:=by
 have hr:=au hp;have z:=DN ⋯ h (e.cg (aQ.of_eq λk=>by rw[rL,WS]));intro k hk;cases k with
 |zero=>exact absurd (Nat.zero_mod _) hk
 |succ k=>
  have c:=z k;refine zp hp (n:=(k:Int)+1) (λy=>hk ?_) ?_
  .obtain⟨q,hq⟩:=XG y;have:((p.toNat:Int)) ∣ ((k+1:Nat):Int):=⟨q,by rw[Wh ⋯,<-hq];lia⟩
   exact Zs (Int.natCast_dvd_natCast.mp this)
  .have c':Cg p (((k:Int)+1)*cf U (k+1)) 0:=c;obtain⟨y,hy⟩:=c';exact Int.emod_eq_zero_of_dvd ⟨y,hy.trans (W5 _)⟩
theorem Kj(hp:dD p=true)(hD:D<=2000){sN:Nat}{μ:MN.Env}{s:af}{kL:Nat}{L:_h}{es:List En}(h:PoL p D st d x1 F sN μ s kL L es):
  ∃μ' s',e! poT poB μ s=.nx μ' s'/\∃sN kL es,PoL p D st d x1 F sN μ' s' kL [1] es:=by
 have hr:=au hp;have dz:0<p:=⋯
 refine il (t:=poT) (body:=poB) (λμ s=>∃sN kL L es,PoL p D st d x1 F sN μ s kL L es) ab2 (λμ s=>∃sN kL es,PoL p D st d x1 F sN μ s kL [1] es) ?_ μ s ⟨sN,kL,L,es,h⟩;clear h;rintro μ s ⟨sN,kL,L,es,h⟩;obtain⟨x5,x6,x7,x8,x9,rfl⟩:=h.env;obtain⟨N,hN⟩:=NE ((L.length:Int):Int)
 have kl:bD [.loc kL] s=.ok (.int N) s:=by rw[a_ (ax h.lL),aE,hN]
 have mL:=h.ov.mL;have s0:0<L.length:=VC.mpr mL.ne;have ct:=h.ct;by_cases h1:L.length=1
 .have h0:decide ((1:Int)<N)=false:=V5 (by rw[hN,h1];decide);have e:=sM mL h1;rw[e]at h;exact .inl ⟨s,by simp![kl,h0],sN,kL,es,h⟩
 .have h0:decide ((1:Int)<N)=true:=V8 ⋯;obtain⟨g,kB,e0,_,lB⟩:=n! (iK hp) (ax h.lL) ⋯;have F0:=Fr.app s g;have lB':(s++g)[kB]?=some (ay (nM p L)):=lB;have rB:=qh dz L;have cB:aQ p (cf (nM p L)) (jy (cf L)):=(Row.cg dz _).trans (aQ.of_eq (oN L));have bL:=qj (p:=p) L;obtain⟨s1,kU,U,e1,F1,_,lU,gU,_⟩:=AD hp (F0 _ _ h.lL) lB' mL.row rB (.inl mL.ne) ⋯ ⋯;have xN:¬ aM U % p=0:=by rw[gU.l,V9 ⋯ ⋯];lia
  obtain⟨qS,_,_,_,_⟩:=fM hp (as:=L) gU.n xN;obtain⟨nS,eS,lS1⟩:=nI dz mL.row mL.ne qS gU.n gU.l gU.a;have u0:0<U.length:=VC.mpr gU.n;have q0:0<(bU p L U).length:=VC.mpr nS;have mS:d8 p (bU p L U):=⟨qS,nS,by rw[<-lS1];exact mL.l1⟩
  obtain⟨_,g1,_,_⟩:=j' gU;obtain⟨LV,a,b,hg⟩:=Lv.start hp mS gU g1 ⋯;obtain⟨s2,kS,z2,e2,F2,_,_,_,lS,_⟩:=gQ hp (ax (F1 _ _ (F0 _ _ h.lL))) lU gU.n xN ⋯ ⋯;have uk:=F0.trans (F1.trans F2);have dv:Dvd p U (mF (bU p L U) (jy (cf U))):=JM gU.a (cB.symm.trans gU.b);have em:(sN:Int)*((1:Nat):Int)=(sN:Int):=⋯
  obtain⟨μ',s3,ew,m',kS',kU',U',es1,qs,hle,H⟩:=Kh (D:=D) (st:=st) (d:=d) (x1:=x1) (x4:=some (.loc kL)) (sN:=sN) (es0:=es) (m:=1) (μ:=[some (.int p),x1,some (.loc d),some (.int (sN:Int)),some (.loc kL),some (.loc kU),some (.loc kS),some (.int (sN:Int)),x8,x9]) (s:=s2) (kS:=kS) (kU:=kU) (S:=bU p L U) (U:=U) (es:=[]) (qs:=[]) hp hD h.ov.s1 (λe me=>(h.ov.lt (e.1,e.2.2) (VV me)).2) (g1.trans (bR _ _)) hg ⟨⟨x8,x9,by rw[em]⟩,h.fr.trans uk,h.hd,by rw[Wc];exact uk _ _ h.dk,λe me=>by rw[Wc]at me;exact uk _ _ (h.re e me),rfl,by rw[Wc];lia,lS,F2 _ _ lU,dv,LV,by rw[Wc];exact h.ap,by rw[Wc];exact h.fh⟩;obtain⟨y8,y9,rfl⟩:=H.env;have mU:=H.lv.mU;have hm:=RU hp mU.row mU.ne mU.l1 (c:=1) (by rw[V9 ⋯ ⋯];lia) H.dv;obtain⟨rR,nR,lR,leR,ltR⟩:=NK hr.1 mU.row mU.ne mU.l1 hm;have u1:0<U'.length:=VC.mpr mU.ne;have eU:=Ke hp mU.row mU.ne hm (Ki hp mU H.dv);have OV:=h.ov.step hp H.lv ⟨rR,nR,lR⟩ eU;have eps:gj es++NL sN qs=gj (es++es1):=by unfold gj;rw[VS,<-H.eq_]
  rw[eps]at OV;obtain⟨Fg,zu⟩:=NE ((sN:Int)*(m':Int):Int)
  rw[<-zu]at ew;have ex:poX [qI p, x1, qL d, qI (sN:Int), qL kL, qL kU', qL kS', qI Fg, y8, y9] s3=.ok (.loc s3.length) (s3++[ay (g_ U' p)]):=by show vC (.loc kU') (.int p) s3=_;unfold vC;dsimp only;rw[ax H.lU];dsimp only;rw[Vv dz,J7]
  have hct:=H.ct;rw[show([1]:_h).length=1 from rfl]at hct;obtain⟨Sa,aaD⟩:=NE ((sN:Int):Int)
  rw[<-aaD]at ew ex⊢;refine .inr ⟨s,[qI p, x1, qL d, qI (Sa*p), qL s3.length, qL kU', qL kS', qI Fg, y8, y9],s3++[ay (g_ U' p)],?_,.inl ?_,⟨sN*p.toNat,s3.length,g_ U' p,es++es1,⟨_,_,_,_,_,by rw[aaD,W!,Wh ⋯]⟩,H.fr.more _,H.hd,c! H.dk _,λe me=>c! (H.re e me) _,⋯,bu _ _,OV,H.ap,H.fh⟩,?_⟩
  .simp![kl,h0]
  .rw[poB];generalize poX=Z at ex⊢;have ew':poW [qI p, x1, qL d, qI Sa, qL kL, qL kU, qL kS, qI Sa, x8, x9] s2=_:=ew;generalize poW=W at ew'⊢;simp![e0,e1,e2,a! qf,ew',ex,mul_r (i:=Sa) (j:=p) ⋯ ⋯]
  .show ig s3.length _<ig kL s;rw[jR (bu s3 ((g_ U' p).map aj.int)),jR h.lL];by_cases hu:1<U'.length
   .have:=ltR hu;lia
   .lia
end
structure vH(p:Int)(A:_h)(ps:List (Nat×List Int)):Prop where
 eq:(ak A:ah p)=jz ps
 sq:∀q∈ps,b? (ak q.2:ah p) (dP (ak q.2))
 c2:ps.Pairwise λa b=>b? (ak a.2:ah p) (ak b.2)
 p1:∀q∈ps,1<=q.1
 mn:∀q∈ps,d8 p q.2/\2<=q.2.length
 ne:ps.Pairwise λa b=>a.1≠b.1
section
variable{st:af}
theorem qm(hp:dD p=true){n:Nat}{A:_h}(ln:st[n]?=some (ay A))(hA:d8 p A)(hl:A.length<=1000):
  ∃aI d es,PM.ij [.int p,.loc n] st=.ok (.loc d) aI/\Fr st aI/\st.length<=d/\aI[d]?=some (.dK (es.map yd))/\(∀e∈es,aI[e.2.1]?=some (ay e.2.2))/\es.length<1000/\vH p A (gj es)/\(es.Pairwise λa b=>a.2.1<b.2.1)/\∀e∈es,st.length<=e.2.1:=by
 have a0:0<A.length:=VC.mpr hA.ne;have dn:(st++[aZ.dK []])[st.length]?=some (.dK []):=by rw[V2 (Vt _),W3];rfl
 obtain⟨μ',s',ew,sN,kL,es,H⟩:=Kj (D:=999) (st:=st) (d:=st.length) (x1:=some (.loc n)) (F:=(ak A:ah p)) hp ⋯ (sN:=1) (μ:=[some (.int p),some (.loc n),some (.loc st.length),some (.int 1),some (.loc n),none,none,none,none,none]) (s:=st++[aZ.dK []]) (kL:=n) (L:=A) (es:=[]) ⟨⟨_,_,_,_,_,rfl⟩,Fr.app _ _,Vt _,dn,(λ_ h=>by cases h),(by show 0+(A.length-1)<=999;lia),c! ln _,⟨hA,by show ak A=1*ak A ^ (0+1);rw[n?,uj];grind,(λ_ h=>by cases h),.nil,(λ_ h=>by cases h),(λ_ h=>by cases h),.nil,Vt _⟩,.nil,λ_ h=>by cases h⟩;obtain⟨x5,x6,x7,x8,x9,rfl⟩:=H.env;refine⟨s',st.length,es,?_,H.fr,Vt _,H.dk,H.re,by have:=H.ct;lia,⟨?_,λq m=>(H.ov.c1 q m).2,H.ov.c2,λq m=>(H.ov.lt q m).1,H.ov.mn,H.ov.ne⟩,H.ap,H.fh⟩
 .unfold PM.ij;rw[bH (np:=2) (us:=[aj.int p,.loc n]) rfl];show(az (aK 2 Ai) (az (aK 3 cm) (az (aK 4 bT) (az (e! poT poB) (bZ d6)))) [qI p, qL n, qn, qn, qn, qn, qn, qn, qn, qn] st).fin=_;rw[aO,sV (v:=.loc st.length) (s1:=st++[aZ.dK []]) rfl,aR,aO,sV (v:=.int 1) (s1:=st++[aZ.dK []]) rfl,aR,aO,sV (v:=.loc n) (s1:=st++[aZ.dK []]) rfl,aR];show(az (e! poT poB) (bZ d6) [qI p, qL n, qL st.length, qI 1, qL n, qn, qn, qn, qn, qn] (st++[aZ.dK []])).fin=_;rw[aO,ew,aR];rfl
 .rw[H.ov.eq,sC,one_pow]
  grind
end
theorem rQ{a b:List (Nat×List Int)}(h:a.Perm b):(jz a:ah p)=jz b:=by
 induction h with
 |nil=>rfl
 |cons x _ ih=>show ak x.2 ^ x.1*jz _=ak x.2 ^ x.1*jz _;rw[ih]
 |swap x y l=>
  show ak y.2 ^ y.1*(ak x.2 ^ x.1*jz l)=ak x.2 ^ x.1*(ak y.2 ^ y.1*jz l);generalize (ak y.2:ah p) ^ y.1=w;generalize (ak x.2:ah p) ^ x.1=v
  grind
 |trans _ _ h1 h2=>exact h1.trans h2
theorem vH.perm{A:_h}{ps qs:List (Nat×List Int)}(h:vH p A ps)(e:ps.Perm qs):vH p A qs:=
 ⟨h.eq.trans (rQ e),λq m=>h.sq q (e.mem_iff.mpr m),(e.pairwise_iff λ{x y}c=>b?.symm c).mp h.c2,λq m=>h.p1 q (e.mem_iff.mpr m),λq m=>h.mn q (e.mem_iff.mpr m),(e.pairwise_iff λ{x y}c z=>c z.symm).mp h.ne⟩
theorem Fh(hp:0<p)(a b:_h):(ak (ow p a b):ah p)=ak a*ak b:=mk_eq ((vx hp a b).trans (aQ.of_eq (aV a b)).symm)
theorem lx(hp:0<p){a b:_h}(ha:Row p a)(hb:Row p b)(h:(ak a:ah p)=ak b):a=b:=Row.ext hp ha hb (ug h)
section
variable{n:Nat}{A:_h}{st:af}
abbrev prE:ME:=gp (aa (ag uc bT bc) (aa bc ai))
abbrev prC:ME:=cH 1 [2] (f9 (ao rO (aa d6 ai))) (aA 0) bj prE
end
theorem Fi(hp:0<p){P:_h}(hP:d8 p P)(l2:2<=P.length):∀(n:Nat){A:_h}{y:ah p},Row p A->A≠[]->(ak A:ah p)=ak P ^ n*y->∃Q,Row p Q/\Q≠[]/\y=ak Q/\Q.length+n<=A.length
 |0,A,y,hA,nA,e=>⟨A,hA,nA,by rw[uj]at e;grind,Vt _⟩
 |n+1,A,y,hA,nA,e=>by obtain⟨B,hB,eB,nB,lB⟩:=sW hp hA nA hP (x:=ak P ^ n*y) (by rw[e,n?];generalize (ak P:ah p) ^ n=w;grind);obtain⟨Q,hQ,nQ,eQ,lQ⟩:=Fi hp hP l2 n hB nB eB.symm;exact⟨Q,hQ,nQ,eQ,⋯⟩
def w!:List (Nat×List Int)->Nat
 |[]=>0
 |q::ps=>q.1+w! ps
theorem rW(hp:0<p):∀{ps:List (Nat×List Int)}{A:_h},(∀q∈ps,d8 p q.2/\2<=q.2.length)->Row p A->A≠[]->(ak A:ah p)=jz ps->w! ps+1<=A.length
 |[],A,_,hA,nA,_=>VC.mpr nA
 |q::ps,A,h,hA,nA,e=>by obtain⟨m1,m2⟩:=h q (Vu ..);obtain⟨Q,hQ,nQ,eQ,lQ⟩:=Fi hp m1 m2 q.1 hA nA e;have:=rW hp (λr m=>h r (Vx _ m)) hQ nQ eQ.symm;show q.1+w! ps+1<=A.length;lia
theorem Kk:∀{ps:List (Nat×List Int)},(∀q∈ps,1<=q.1)->(ps.Pairwise λa b=>a.1≠b.1)->2*ps.length<=w! ps+1/\((∀q∈ps,q.1≠1)->2*ps.length<=w! ps)
 |[],_,_=>⟨Wd _,λ_=>Wd _⟩
 |q::ps,h,hn=>by
  obtain⟨n1,n2⟩:=WN.mp hn;obtain⟨i1,i2⟩:=Kk (λr m=>h r (Vx _ m)) n2;have h1:=h q (Vu ..);have e:w! (q::ps)=q.1+w! ps:=rfl;rw[e,Vi];by_cases z:q.1=1
  .have:=i2 λr m w=>n1 r m (by rw[z,w]);exact⟨⋯,λk=>absurd z (k q (Vu ..))⟩
  .exact⟨⋯,λk=>by have:=i2 λr m=>k r (Vx _ m);lia⟩
theorem vH.HN(hp:0<p){A:_h}{ps:List (Nat×List Int)}(h:vH p A ps)(hA:Row p A)(nA:A≠[]):2*ps.length<=A.length:=by have h1:=rW hp h.mn hA nA h.eq;have h2:=(Kk h.p1 h.ne).1;lia
theorem AG:∀{ps:List (Nat×List Int)}{q:Nat×List Int},q∈ps->q.1<=w! ps
 |r::ps,q,m=>by
  show q.1<=r.1+w! ps;rcases VX.mp m with e|m
  .rw[e];lia
  .have:=AG m;lia
theorem vH.bd(hp:0<p){A:_h}{ps:List (Nat×List Int)}(h:vH p A ps)(hA:Row p A)(nA:A≠[]){q:Nat×List Int}(m:q∈ps):q.1<A.length/\q.2.length<=A.length:=by have h1:=rW hp h.mn hA nA h.eq;have h2:=AG m;obtain⟨x,hx⟩:=kH (p:=p) m (h.p1 q m);obtain⟨Q,_,_,nQ,lQ⟩:=sW hp hA nA (h.mn q m).1 (h.eq.trans hx);have:=VC.mpr nQ;exact⟨⋯,⋯⟩
def jQ(e:En):aj:=.tup [.loc e.2.1,.int (e.1:Int)]
theorem B5:∀es:List En,wW ((es.map yd).map (·.1))=some (es.map λe=>(e.1:Int))
 |[]=>rfl
 |e::es=>by show(wW ((es.map yd).map (·.1))).map ((e.1:Int):: ·)=_;rw[B5 es];rfl
theorem AH:∀{es:List En},(es.Pairwise λa b=>a.1≠b.1)->∀e∈es,sI (es.map yd) (.inl (e.1:Int))=some (.loc e.2.1)
 |x::es,hn,e,m=>by
  obtain⟨n1,n2⟩:=WN.mp hn;unfold sI;rcases VX.mp m with z|m
  .rw[z,Vm,List.find?_cons_of_pos (by simp[yd])];rfl
  .have:x.1≠e.1:=n1 e m;rw[Vm,List.find?_cons_of_neg (by simp[yd];lia)];exact AH n2 e m
def J0(es:List En):List En:=es.mergeSort λa b=>decide (a.1<=b.1)
theorem zw(es:List En):(J0 es).Perm es:=XO es _
theorem Fj(es:List En):(J0 es).Pairwise λa b=>a.1<=b.1:=by
 have h:=Yu (le:=λ(a b:En)=>decide (a.1<=b.1)) (λa b c h1 h2=>V8 (V! (WM h1) (WM h2))) (λa b=>by
  rw[Y4,XM,XM];lia) es
 exact h.imp λh=>WM h
theorem Hj(es:List En):J6 (es.map λe=>(e.1:Int))=(J0 es).map λe=>(e.1:Int):=
 up_eq ((zo _).trans ((zw es).symm.map _)) (E? _) (V?.mpr ((Fj es).imp λh=>Int.ofNat_le.mpr h))
structure aaE(p:Int)(A:_h)(st aI:af)(kl:Nat)(es:List En):Prop where
 fr:Fr st aI
 fk:st.length<=kl
 lk:aI[kl]?=some (.lst (es.map jQ))
 re:∀e∈es,st.length<=e.2.1/\e.2.1<kl/\aI[e.2.1]?=some (ay e.2.2)
 nd:es.Pairwise λa b=>a.2.1≠b.2.1
 pr:∃t,(t*aM A) % p=1/\vH p (mulR p t A) (gj es)
 up:es.Pairwise λa b=>a.1<b.1
 ln:es.length<64
section
variable{n:Nat}{A:_h}{st:af}
theorem iP(hp:dD p=true)(ln:st[n]?=some (ay A))(hA:Row p A)(nA:A≠[])(hl:A.length<=120):
  ∃aI kl es,PM.gS [.int p,.loc n] st=.ok (.tup [.int (aM A),.loc kl]) aI/\aaE p A st aI kl es:=by
 have hr:=au hp;have a0:0<A.length:=VC.mpr nA;obtain⟨s1,k1,t,e1,F1,_,l1,ht⟩:=B3 hp ln hA nA ⋯;obtain⟨rG,nG,lG,eG⟩:=rF hr.1 hA nA ht;obtain⟨s2,d,es,e2,F2,hd,dk,re,el,pr,ap,fh⟩:=qm hp l1 ⟨rG,nG,lG⟩ ⋯;have HN:=pr.HN ⋯ rG nG;have lps:(gj es).length=es.length:=Vg ..;have ne:es.Pairwise λa b=>a.1≠b.1:=by have:=pr.ne;unfold gj at this;rw[V?]at this;exact this
 obtain⟨qx,hes⟩:=NE (J0 es)
 have pm:qx.Perm es:=by rw[hes];exact zw es
 have ed:Hd s2 d=some (es.map yd):=by unfold Hd;rw[dk]
 obtain⟨s3,JI⟩:=NE (s2++[aZ.lst ((qx.map λe=>(e.1:Int)).map aj.int)])
 have esr:rO [.loc d] s2=.ok (.loc s2.length) s3:=by unfold rO;dsimp only;rw[ed];dsimp only;rw[B5];dsimp only;rw[Vv (by rw[Vg];lia),Hj,JI,hes]
 have hit:aq s3 s2.length=some ((qx.map λe=>(e.1:Int)).map aj.int):=by rw[JI];exact ax (bu _ _)
 have dk3:s3[d]?=some (.dK (es.map yd)):=by rw[JI];exact c! dk _
 have cp:=ip (a:=aA 0) (e:=prE) (g:=λaI=>aq aI s2.length=some ((qx.map λe=>(e.1:Int)).map aj.int)) (st:=s3) hit (λτ=>∃x,τ=[x,some (.loc d)]) (λi=>.tup [(sI (es.map yd) (.inl i)).getD .dj,.int i]) (qx.map λe=>(e.1:Int)) [none,some (.loc d)] [] ⟨_,rfl⟩ (by
  rintro i hi τ ⟨x,rfl⟩;obtain⟨e,me,rfl⟩:=VN.mp hi;have hk:=AH ne e (pm.mem_iff.mp me);obtain⟨i,hie⟩:=NE (e.1:Int)
  rw[<-hie]at hk⊢;refine⟨[some (.int i),some (.loc d)],rfl,⟨_,rfl⟩,?_⟩;have e0:bc [some (.int i),some (.loc d)] s3=.ok (.int i) s3:=rfl;have e1:ag uc bT bc [some (.int i),some (.loc d)] s3=.ok (.loc e.2.1) s3:=by
   show uc (.loc d) (.int i) s3=_;unfold uc yU;dsimp only;rw[dk3];show(match(some (sI (es.map yd) (.inl i)):Option (Option aj)) with
    |some (some v)=>fu.ok v s3
    |_=>.bad)=_
   rw[hk]
  rw[hk];unfold prE;rw[gu,av,e1,ar,aF,av,e0,ar,aF,aH,ar,aw,ar,aw,ar,iX];exact Vv (by rw[Vp];show 2<=16777216;decide))
 have evz:((qx.map λe=>(e.1:Int)).map λi=>aj.tup [(sI (es.map yd) (.inl i)).getD .dj,.int i])=qx.map jQ:=by rw[V1];refine Zh λe me=>?_;show aj.tup [(sI (es.map yd) (.inl (e.1:Int))).getD .dj,.int (e.1:Int)]=jQ e;rw[AH ne e (pm.mem_iff.mp me)];rfl
 rw[Vq,evz]at cp;have comp:prC [qI p, qL n, qL d] s2=.ok (.loc s3.length) (s3++[aZ.lst (qx.map jQ)]):=by
  show cH 1 [2] (f9 (ao rO (aa d6 ai))) (aA 0) bj prE [qI p, qL n, qL d] s2=_;have e0:ao rO (aa d6 ai) [qI p, qL n, qL d] s2=.ok (.loc s2.length) s3:=by rw[iO (wY (v:=.loc d) (s1:=s2) rfl),esr]
  rw[dN,eI,e0,ar,dG hit,ar,fB,Vv (by rw[Vg,Vg,pm.length_eq,Vp];lia),show iV 1 [2] [qI p, qL n, qL d]=[none,some (.loc d)]from rfl,cp,ar,ie]
 have Ls:=F1.trans F2;have F3:Fr s2 (s3++[aZ.lst (qx.map jQ)]):=by rw[JI];exact(Fr.app s2 _).more _
 have gx:ag bJ bT (ko cm) [qI p, qL n, qL d] s2=.ok (.int (aM A)) s2:=by rw[iu (x:=.loc n) (s1:=s2) rfl (y:=.int (-1)) (s2:=s2) rfl];exact dB (ax (F2 _ _ (F1 _ _ ln))) (rp nA)
 have l3:s3.length=s2.length+1:=by rw[JI,Vj];rfl
 have f1:=F1.len;have f2:=F2.len;refine⟨s3++[aZ.lst (qx.map jQ)],s3.length,qx,?_,Ls.trans F3,⋯,bu _ _,λe me=>?_,?_,⟨t,ht,pr.perm (pm.symm.map _)⟩,?_,by rw[pm.length_eq];lia⟩
 .obtain⟨L,hL⟩:=NE ((A.length:Int):Int)
  have kl:bD [.loc n] st=.ok (.int L) st:=by rw[a_ (ax ln),aE,hL]
  have z:(L==0)=false:=by simp;lia
  unfold PM.gS;rw[bH (np:=2) (us:=[aj.int p,.loc n]) rfl];show(az _ (az _ (bZ (gp (aa (ag bJ bT (ko cm)) (aa prC ai))))) [qI p, qL n, qn] st).fin=_;generalize prC=C at comp⊢;generalize ag bJ bT (ko cm)=X at gx⊢;simp![Vp,kl,z,e1,e2,gx,comp]
 .have OY:=pm.mem_iff.mp me;have h1:=fh e OY;have h2:=re e OY;have:=OU h2;exact⟨⋯,⋯,F3 _ _ h2⟩
 .exact(pm.pairwise_iff λ{x y}h z=>h z.symm).mpr (ap.imp λh=>⋯)
 .have h1:qx.Pairwise λa b=>a.1<=b.1:=by rw[hes];exact Fj es
  have h2:qx.Pairwise λa b=>a.1≠b.1:=(pm.pairwise_iff λ{x y}h z=>h z.symm).mpr ne;exact(h1.and h2).imp λh=>⋯
theorem DP(hp:dD p=true)(ln:st[n]?=some (ay A))(hA:Row p A)(nA:A≠[])(hl:A.length<=120):
  ∃aI kl es,PM.parts [.int p,.loc n] st=.ok (.tup [.int (aM A),.loc kl]) aI/\aaE p A st aI kl es:=by
 obtain⟨g,e⟩:=j6 hp st;obtain⟨aI,kl,es,e2,O⟩:=iP hp (c! ln g) hA nA hl;have lg:(st++g).length=st.length+g.length:=Vj;exact⟨aI,kl,es,by simp![PM.parts,e,e2],(Fr.app st g).trans O.fr,by have:=O.fk;lia,O.lk,λx m=>by obtain⟨h1,h2,h3⟩:=O.re x m;exact⟨⋯,h2,h3⟩,O.nd,O.pr,O.up,O.ln⟩
end
end PG
namespace L2
open PySem.Spec PyProof.Rows
structure h!.OZ(L:h!):Prop where
 kind:L.scope.kind=.function
 co:L.scope.isCoroutine=false
 gen:L.scope.isGenerator=false
 ik:∀y∈L.scope.names,y.2≠.cell
 zQ:∀y∈L.scope.names,y.2≠.free
 par:∀p∈L.ps,L.scope.names.lookup p=some .local
 nd:L.ps.Nodup
 bind:∀(pm cd ct:_m)(cl:List (Str×_o))(us:_i),us.length=L.ps.length->bindArgs (W.kla_fn "<lambda>" L.qual L.params L.body L.scope cl pm cd ct) ⟨us,[]⟩=pure (L.ps.zip us)
structure Hk(L:h!)(H:Hp)(f c':_o):Prop where
 fn:∃pm CD,Fz H f (W.kla_obj "<lambda>" L.qual L.params L.body L.scope [] pm c' CD)
 cd:∃oc vs t,Fz H c' oc/\oc.data=.fields vs/\vs[1]?=some (.str L.qual t)
theorem Hk.mono{f:_o}(C:Hk L H f c')(k:∀b o u,H b=some (.lX o u)->H' b=some (.lX o u)):Hk L H' f c':=by obtain⟨⟨pm,CD,h1⟩,oc,vs,t,h2,h3⟩:=C;exact⟨⟨pm,CD,k _ _ _ h1⟩,oc,vs,t,k _ _ _ h2,h3⟩
def w?(P:_q)(w:World)(K:_g)(mg:_d)(base:Heap)(L:h!)(f c':_o)(A:_p)(outer:List Env)(s:_n)(H:Hp):Cx where
 prog:=P
 w:=w
 K:=K
 mg:=mg
 base:=base
 A:=A.deeper (W.envX L.qual L.scope s.heap.objs.size f (.ref c') [])
 N:=L.ps
 s₀:=s
 H₀:=H
 env:=W.envX L.qual L.scope s.heap.objs.size f (.ref c') []
 outer:=outer
 stack:=W.envX L.qual L.scope s.heap.objs.size f (.ref c') []::outer
 ex:=[]
 calm:=true
 fn:=λ_=>true
 pn:=[]
 xe:=λ_ _=>False
section
variable{w:World}{f:_o}{outer:List Env}{s1:_n}{us:_i}{vs:List V}
theorem DQ(LO:L.OZ)(hd:A.handled=none)(e0:CQ P w K mg base A outer s H)(hl:vs.length=L.ps.length)(r:bx vs us){h1:Heap}{tk:Nat}(OD:h1.Ns s.heap.objs.size (λy=>(L.ps.zip us).reverse.lookup y))(hk:∀b o,s.heap.get? b=some o->h1.get? b=some o):
  a9 (w? P w K mg base L f c' A outer s H) [] (vs.map some) H {s with heap:=h1,toks:=tk}:=by
 refine⟨⟨e0.mod,LO.kind,rfl,rfl,Vt _,(λy z a h1 _=>by cases h1),λy hy=>?_,(λy a _ h2=>by cases h2),λ_=>hd,Around.frames_deeper e0.frames,.inr ⟨rfl,rfl⟩,(λb z=>by cases z),λb o e=>⟨(e0.bs b o e).1,(e0.bs b o e).2⟩,e0.Pb,(λb _ _ z=>by cases z),(λb z=>by cases z),e0.vN,λb hb=>e0.Od b hb⟩,
  rfl,e0.bare,Un.kept hk,⟨_,OD,λi y v' h1 h2 h3=>?_⟩,(λy a h=>by cases h),e0.dJ.fresh (Vt _),(λy a h=>by cases h),(λq hq=>by cases hq),e0.dJ.kept hk,?_⟩
 .have hy:L.scope.names.lookup y=some .cell\/L.scope.names.lookup y=some .free:=hy;rcases hy with hy|hy
  .exact absurd rfl (LO.ik _ (Wz hy))
  .exact absurd rfl (LO.zQ _ (Wz hy))
 .have h1:L.ps[i]?=some y:=h1;rw[Vy]at h2;have ha:vs[i]?=some v':=by
   cases e:vs[i]? with
   |none=>rw[e]at h2;cases h2
   |some a=>rw[e]at h2;cases h2;rfl
  obtain⟨u',hu,rv'⟩:=r.get ha;exact⟨u',rv',.inl ⟨LO.par y (V_ h1),EG LO.nd h1 hu⟩⟩
 .show(vs.map some).length=L.ps.length;rw[Vg,hl]
theorem Kl{k:Nat}(LO:L.OZ)(C:Hk L H f c')(hr:gK (k+1) A)(e0:CQ P w K mg base A outer s H)(hl:vs.length=L.ps.length)(r:bx vs us)(h:∃t,PE (w? P w K mg base L f c' A outer s H) L.body t/\t (vs.map some) H Q):
  codeAny (model P w) A (.call (.ref f) ⟨us,[]⟩) (CR (qP P w) outer P w H s Q E) s:=by
 obtain⟨pm,CD,hf⟩:=C.fn;obtain⟨oc,ws,t,CI,hd,hq⟩:=C.cd;have hlu:us.length=L.ps.length:=by rw[<-r.length];exact hl
 have lim:s.heap.NoLimit:=e0.mod.nolimit.keeps λb o e=>(e0.bs b o e).1;refine W.kla_callFunE hr.depth (e0.dJ f _ hf).1 rfl LO.co LO.gen rfl ⟨c',oc,ws,t,rfl,(e0.dJ c' _ CI).1,hd,hq⟩ ?_;rw[LO.bind _ _ _ _ us hlu];refine VE (wpAny_newFunctionEnv LO.ik (λy hy=>LO.par y.1 (XA (show(y.1,y.2)∈L.ps.zip us from hy)).1) (λh1 OD hsb=>?_) LO.kind);have hk:∀b o,s.heap.get? b=some o->h1.get? b=some o:=λb o e=>hsb.extBut b o (V7 (VI e)) (Vl _ e);refine⟨lim.keeps hk,?_⟩;show codeAny _ _ (.expr L.body (W.envX L.qual L.scope s.heap.objs.size f (.ref c') [])) _ _;obtain⟨tr,pe,ht⟩:=h;have I:=DQ (f:=f) (c':=c') (tk:=s.toks+(L.ps.zip us).length) LO hr.hd e0 hl r OD hk;refine W.kla_codeExpr (WC (pe [] _ _ _ _ I ht) (λy s' hy=>?_) λ_ _ z=>z.elim);obtain⟨y',H',J,ry,qy⟩:=hy;exact⟨y',H',J.os,J.bare,J.base,J.dJ,ry,qy⟩
end
end L2
namespace SO
open PySem.W PyProof.Rows
section
variable{w:World}{E:_c}
theorem ints_get{us:_i}{xs:_h}(h:IntsAre us xs):∀(i:Nat),(us[i]?=none/\xs[i]?=none)\/∃n t,us[i]?=some (.int n t)/\xs[i]?=some n:=by induction h<;>grind
theorem NN{a b:_o}{oa:Obj}{us vs:Array _m}{n:Nat}{xs ys:_h}(ha:s.heap.get? a=some oa)(da:oa.data=.seq us n)(hb:s.heap.get? b=some ob)(db:ob.data=.seq vs m)(ia:IntsAre us.toList xs)(ib:IntsAre vs.toList ys){R:Result->_n->Prop}(h:R (.ok (.ret (.bool (lexLt xs ys)))) s):
  ∀(k i:Nat),xs.length-i=k->i<=xs.length->i<=ys.length->lexLt (xs.drop i) (ys.drop i)=lexLt xs ys->codeAny (model prog w) A (.builtin "list.__eq__.loop" ⟨[.ref a,.ref b,rawInt i,rawInt 0],[]⟩) R s:=by
 have la:us.size=xs.length:=by rw[<-V4];exact ia.length
 have lb:vs.size=ys.length:=by rw[<-V4];exact ib.length
 intro k
 induction k with
 |zero=>
  intro i hk h1 h2 e;have ga:us[i]?=none:=Array.getElem?_eq_none ⋯;refine Yy Z0 ?_;rw[Around.under_plainId XT _];show wpAny _ _ (Builtin.List.listItems (.ref a) >>= _) _ _ s;refine Vh (W6 ha da (Vh (W6 hb db ?_)));rw[WO,ga];refine Vh (W6 ha da (Vh (W6 hb db (VE ?_))));show R (.ok (.ret (.bool (decide (us.size<vs.size))))) s;rw[la,lb];rw[Xr ⋯]at e;have:lexLt [] (ys.drop i)=decide (xs.length<ys.length):=by
   cases z:ys.drop i with
   |nil=>
    have:=List.drop_eq_nil_iff.mp z;show false=_;exact(V5 ⋯).symm
   |cons y r=>
    have:i<ys.length:=by
     rcases Wx i ys.length with q|q
     .exact q
     .rw[Xr q]at z;cases z
    exact(V8 ⋯).symm
  rw[<-this,e];exact h
 |succ k ih=>
  intro i hk h1 h2 e;have hi:i<xs.length:=⋯
  refine Yy Z0 ?_;rw[Around.under_plainId XT _];show wpAny _ _ (Builtin.List.listItems (.ref a) >>= _) _ _ s;refine Vh (W6 ha da (Vh (W6 hb db ?_)));rw[WO];rcases ints_get ia i with⟨_,z⟩|⟨x,t,gx,ex⟩
  .rw[Vk hi]at z;cases z
  rw[Wv]at gx;have dx:xs.drop i=x::xs.drop (i+1):=by rw[Vk hi]at ex;rw[Wq hi,VP ex]
  rcases ints_get ib i with⟨gy,z⟩|⟨y,u,gy,ey⟩
  .rw[Wv]at gy;have hy:=Yj.mp z;rw[gx,gy];refine Vh (W6 ha da (Vh (W6 hb db (VE ?_))));show R (.ok (.ret (.bool (decide (us.size<vs.size))))) s;rw[la,lb,V5 ⋯];rw[dx,Xr hy]at e;have e:false=lexLt xs ys:=e;rw[e];exact h
  .rw[Wv]at gy;have hy:i<ys.length:=(VJ.mp ey).1;have dy:ys.drop i=y::ys.drop (i+1):=by rw[Vk hy]at ey;rw[Wq hy,VP ey]
   rw[dx,dy]at e;have e:(if x=y then lexLt (xs.drop (i+1)) (ys.drop (i+1))else decide (x<y))=lexLt xs ys:=e;rw[gx,gy];refine Vh (Zc ?_);by_cases q:x=y
   .rw[Vv q]at e;rw[Yb.mpr q,Vv rfl];refine VE ⟨plainId_quiet XT _,?_⟩;have:=ih (i+1) ⋯ ⋯ ⋯ e;rw[XE]at this;exact this
   .rw[VG q]at e;rw[WX.mpr q,VG ⋯];refine Vh (W6 ha da (Vh (W6 hb db ?_)));rw[gx,gy];dsimp only;refine Vh (show wpAny _ _ (compareOp .Lt (.int x t) (.int y u)) _ _ s from lt_int (VE ?_));show R (.ok (.ret (.bool (decide (x<y))))) s;rw[e];exact h
theorem Km{a b:_o}{oa:Obj}{us vs:Array _m}{n:Nat}{xs ys:_h}{Q:_c}(hu:A.units<cLine)(ha:s.heap.get? a=some oa)(ca:oa.cls=.type "list")(da:oa.data=.seq us n)(hb:s.heap.get? b=some ob)(cb:ob.cls=.type "list")(db:ob.data=.seq vs m)(ia:IntsAre us.toList xs)(ib:IntsAre vs.toList ys)(h:Q (.bool (lexLt xs ys)) s):
  wpAny (model prog w) A (compareOp .Lt (.ref a) (.ref b)) Q E s:=by
 show wpAny (model prog w) A (richCompare .Lt (.ref a) (.ref b)) Q E s;refine PySem.richCompare_meets_room (op:=.Lt) ⟨oa,ha,ca⟩ ⟨ob,hb,cb⟩ PySem.F.slot_list_lt PySem.F.entry_list_lt (PySem.F.args_list_lt_2 _ _) (S:=λ_ R s'=>s'=s/\R (.ok (.ret (.bool (lexLt xs ys)))) s) (λprog w A R s' h=>?_) ⟨rfl,(λe=>nomatch e),h⟩ hu
 .obtain⟨rfl,h⟩:=h;show wpAny _ _ (isInstance (.ref b) (.type "list") >>= _) _ _ _;refine Vh (Zb (T:="list") (b:=true) ⟨ob,hb,cb⟩ (by first|exact Kn _|(rw[isSubtype_type];kernel_rfl)) ?_);exact VE ⟨plainId_quiet XT _,NN ha da hb db ia ib h _ 0 rfl (Wd _) (Wd _) rfl⟩
theorem NO{a b:_o}{us vs:Array _m}{xs ys:_h}(hu:A.units<cLine)(ha:s.heap.IsList a us)(hb:s.heap.IsList b vs)(ia:IntsAre us.toList xs)(ib:IntsAre vs.toList ys):SeqAt.EqAt A s (.ref a) (.ref b) (decide (xs=ys)):=by
 have la:us.size=xs.length:=by rw[<-V4];exact ia.length
 have lb:vs.size=ys.length:=by rw[<-V4];exact ib.length
 by_cases hab:a=b
 .subst hab;obtain⟨o,ho,_,n,hd⟩:=ha;obtain⟨o2,HF,_,n2,hd2⟩:=hb;rw[ho]at HF;cases HF;rw[hd]at hd2;cases hd2;have:xs=ys:=by rw[<-JW ia,<-JW ib]
  rw[V8 this];exact Yz _
 .refine SeqAt.EqAt.of_refs hab ?_;by_cases hs:us.size=vs.size
  .have:=SeqAt.RcAt.lists (A:=A) (s:=s) (e:=λj=>decide (xs[j]?=ys[j]?)) ha hb hs hu (λj h1 h2=>by
    rcases ints_get ia j with⟨_,z⟩|⟨x,t,gx,ex⟩
    .rw[Vk ⋯]at z;cases z
    .rcases ints_get ib j with⟨_,z⟩|⟨y,u,gy,ey⟩
     .rw[Vk ⋯]at z;cases z
     .rw[Wv,XI h1]at gx;rw[Wv,XI h2]at gy;rw[VP gx,VP gy,ex,ey];have e:decide (some x=some y)=(x==y):=by
       by_cases q:x=y
       .rw[q];simp
       .rw[WX.mpr q];simp[q]
      rw[e];exact(PySem.MeetsSeq.EqGives.int x y t u).at _ _)
   have e:((List.range us.size).all λj=>decide (xs[j]?=ys[j]?))=decide (xs=ys):=by
    by_cases q:xs=ys
    .rw[q];simp
    .rw[V5 q];rw[List.all_eq_false];refine Xw λz=>q ?_;refine X0 λi=>?_;rcases Wx i us.size with w|w
     .refine Xw λn=>z ⟨i,X6.mpr w,by simp[n]⟩
     .rw[Wa ⋯,Wa ⋯]
   rw[e]at this;exact this
  .have q:¬ xs=ys:=λz=>hs (by rw[la,lb,z]);rw[V5 q];exact ZQ ha hb (by simp[hs]) hu
def Ko(h:Heap)(v:_m)(k:_h):Prop:=∃a o aN n l t r us row,v=.ref a/\h.get? a=some o/\o.cls=.type "tuple" /\ o.data=.seq aN n/\aN.toList=[.int l t,.ref r]/\h.IsList r us/\IntsAre us.toList row/\k=l::row
theorem Sd{Q:Bool->_n->Prop}{x y:_m}{k1 k2:_h}(hu:A.units<cLine)(h1:Ko s.heap x k1)(h2:Ko s.heap y k2)(h:Q (lexLt k1 k2) s):wpAny (model prog w) A (keyLt' (tuples' true) x y) Q E s:=by
 obtain⟨a,o,aN,n,l,t,r,us,row,rfl,ho,hc,hd,ht,hr,ir,rfl⟩:=h1;obtain⟨a2,o2,fH,n2,l2,t2,r2,us2,aaF,rfl,HF,Bn,hd2,ht2,hr2,ir2,rfl⟩:=h2;replace h:Q (if l=l2 then lexLt row aaF else decide (l<l2)) s:=h;refine kat_lt ho hd HF hd2 ?_;rw[ht,ht2];refine kat_cons (Zc ?_);by_cases e:l=l2
 .rw[Vv e]at h;rw[Yb.mpr e];refine kat_yes (kat_cons (NO hu hr hr2 ir ir2 prog w _ _ ?_));by_cases q:row=aaF
  .rw[V8 q];refine kat_yes (kat_nil ?_);rw[q,mK]at h;have z1:aN.size=2:=by rw[<-V4,ht];rfl
   have z2:fH.size=2:=by rw[<-V4,ht2];rfl
   rw[z1,z2];exact h
  .rw[V5 q];refine kat_no ?_;obtain⟨ob,hob,cb,m,db⟩:=hr;obtain⟨ob2,ab3,cb2,m2,db2⟩:=hr2;exact kat_one _ _ (Km hu hob cb db ab3 cb2 db2 ir ir2 h)
 .rw[VG e]at h;rw[WX.mpr e];exact kat_no (oneLt_int h)
end
def oO(xs:List (_h)):Prop:=xs.Pairwise λa b=>lexLt a b=true
inductive og(h:Heap):_i->List (_h)->Prop
 |nil:og h [] []
 |cons {v:_m} {x:_h} {vs:_i} {xs:List (_h)}:Ko h v x->og h vs xs->og h (v::vs) (x::xs)
theorem og.length{xs:List (_h)}(t:og h vs xs):vs.length=xs.length:=by
 induction t with
 |nil=>rfl
 |cons _ _ ih=>rw[Vi,Vi,ih]
theorem og.at_{xs:List (_h)}(t:og h vs xs):∀i,i<vs.length->Ko h (vs.getD i .none) (xs.getD i []):=by induction t<;>grind
theorem og.kat{xs:List (_h)}(t:og h vs xs):∃fs,KatTups h vs fs/\fs.length=vs.length/\∀v∈fs,∃n u,v=.int n u:=by
 induction t with
 |nil=>exact⟨[],.nil,rfl,λv m=>by cases m⟩
 |cons a _ ih=>
  obtain⟨fs,k,l,al⟩:=ih;obtain⟨a,o,aN,n,l',t,r,us,row,rfl,ho,hc,hd,ht,hr,ir,rfl⟩:=a;obtain⟨aN⟩:=aN;have ht:aN=[.int l' t,.ref r]:=ht;subst ht;refine⟨_,KatTups.cons ho hc hd rfl k,by rw[Vi,Vi,l],λv mv=>?_⟩;rcases VX.mp mv with rfl|mv
  .exact⟨l',t,rfl⟩
  .exact al v mv
theorem Lu{l:List α}{i:Nat}(d:α)(h:i<l.length):l.getD i d=l[i]:=by grind
def Se(xs:List (_h))(i j:Nat):Bool:=lexLt (xs.getD i []) (xs.getD j [])
theorem Fl{xs:List (_h)}(nd:xs.Nodup):Ord (Se xs) xs.length where
 tr:=λ_ _ _ _ _ _ h1 h2=>wQ h1 h2
 tot:=λi j hi hj ne h=>pG (λe=>ne (by
  rw[Lu _ hi,Lu _ hj]at e;exact(Zy nd).mp e)) h
 abY:=λ_ _ _ _ h=>j? h
theorem NP:∀{vs:_i}{xs:List (_h)},vs.length=xs.length->(List.range xs.length).map (λi=>(vs.getD i Value.none,xs.getD i []))=vs.zip xs:=by
 intro vs xs hl;apply Zz
 .rw[Vg,VU,Xh,hl,YJ]
 .intro i h1 h2;rw[Vg,VU]at h1;rw[XR,YE,List.getElem_zip,Lu _ (by rw[hl];exact h1),Lu _ h1]
section
variable{w:World}{E:_c}{ks:List (_h)}{D kS:_o}{kA:Array _m}{e1 c:Nat}{P:PySem.Fin->_n->Prop}
theorem Hl(hu:A.units<cLine)(hD:s.heap.get? D=some (seqObj "list" #[] e1))(hk:s.heap.get? kS=some (seqObj "list" kA c))(ne:kS≠D)(t:og s.heap kA.toList ks)(hl:kA.size=vs.length)(nd:ks.Nodup)(hz:vs.length<64)(h:∀(h1 h':Heap)(c':Nat)(zs:List (_m×List Int)),zs.Perm (vs.zip ks)->oO (zs.map (·.2))->(∀b o,b≠kS->s.heap.get? b=some o->h1.get? b=some o)->(∀b o,b≠D->h1.get? b=some o->h'.get? b=some o)->h'.get? D=some (seqObj "list" (zs.map (·.1)).toArray c')->P (.done (.ret .none)) {s with heap:=h'}):
  wpAny (model prog w) A (ksk_end D false vs.toArray e1 (.ref kS) kA) P E s:=by
 have lks:kA.toList.length=ks.length:=t.length;have lka:kA.toList.length=vs.length:=by rw[V4];exact hl
 have lv:vs.length=ks.length:=⋯
 have tail:∀(aI:SortSt)(zs:List (_m×List Int)),(arrOf aI).map (·.2)=(zs.map (·.1)).toArray->failedOf aI=none->zs.Perm (vs.zip ks)->oO (zs.map (·.2))->wpAny (model prog w) A (ksk_tail D false e1 (.ref kS) aI) P E s:=by
  intro aI zs ez hf z1 z2;have lz:zs.length=vs.length:=by rw[z1.length_eq,Xh,lv,YJ]
  have s1:=Xi s.heap kS (Obj.mapSeq λ_=>(#[]:Array _m));have hD1:(s.heap.update kS (Obj.mapSeq λ_=>(#[]:Array _m))).get? D=some (seqObj "list" #[] e1):=(s1.2 D ne.symm).trans hD;have s2:=Xi (s.heap.update kS (Obj.mapSeq λ_=>(#[]:Array _m))) D (Obj.mapSeq λ_=>(zs.map (·.1)).toArray);obtain⟨c2,Bn⟩:∃c2,((s.heap.update kS (Obj.mapSeq λ_=>(#[]:Array _m))).update D (Obj.mapSeq λ_=>(zs.map (·.1)).toArray)).get? D=some (seqObj "list" (zs.map (·.1)).toArray c2):=⟨_,Yf hD1 λ_=>(zs.map (·.1)).toArray⟩
  unfold ksk_tail;dsimp only;rw[ez,hf];refine Vh (Zo hk rfl ?_ (by rw[hl,Vp];lia) (Wd _));refine Vh (Zi ?_);refine Vh (seqEpoch_at hD1 rfl ?_);refine Vh (Zo hD1 rfl ?_ (Wd _) (by
   show((zs.map (·.1)).toArray).size<=_;rw[VB,Vg,lz,Vp];lia))
  simp only[bne_self_eq_false,YF,Yp];exact VE (h _ _ c2 zs z1 z2 (λb o h1 q=>(s1.2 b h1).trans q) (λb o h1 q=>(s2.2 b h1).trans q) Bn)
 unfold ksk_end;dsimp only;rw[VG VW,VG VW];by_cases h2:vs.toArray.size<2
 .rw[Vv h2,Vv h2];refine Vh (VE ?_);rw[StateT.run_pure];refine Vh (VE ?_);refine tail _ (vs.zip ks) ?_ rfl (.refl _) ?_
  .show(kA.zip vs.toArray).map (·.2)=_;apply Array.toList_inj.mp;rw[Array.toList_map,Array.toList_zip,List.map_snd_zip (show vs.length<=kA.toList.length by lia),List.map_fst_zip ⋯]
  .unfold oO;rw[List.map_snd_zip ⋯];rw[VB,lv]at h2
   match ks,h2 with
   |[],_=>exact .nil
   |[_],_=>exact W7 _ _
 .rw[VG h2,VG h2];have l2:2<=vs.length:=by rw[VB]at h2;lia
  have kd:∀{Q:SortKind->_n->Prop},Q (tuples' true) s->wpAny (model prog w) A (keyKind' kA) Q E s:=λ{Q}q=>by
   obtain⟨fs,k,l,al⟩:=t.kat;have:=kat_kind (M:=model prog w) (A:=A) (E:=E) (s:=s) (Q:=Q) (T:=.type "int") k (by rw[l];lia) (λv m=>by
    obtain⟨n,u,rfl⟩:=al v m;exact Looks.of_pure rfl) ⋯ q
   rw[YT]at this;exact this
  refine Vh (kd ?_);have run:=kat_run (E:=E) (prog:=prog) (w:=w) (A:=A) (κ:=tuples' true) (s:=s) (ks:=kA.toList) (vs:=vs) (Q:=λaI s'=>∃p:Array Nat,arrOf aI=p.map (kas_item (kA.toList.toArray.zip vs.toArray))/\failedOf aI=none/\Pm ks.length p/\zj (Se ks) p ks.length/\s'=s)
   (G:=λp s'=>Pm ks.length p/\zj (Se ks) p ks.length/\s'=s) lka l2 hz (λp aI s' _ a2 a3 a4=>⟨p,a2,a3,a4⟩) (by
    rw[lv];refine Ok.wp (R:=λs'=>s'=s) (λi j s' C hi hj hs hC=>?_) (λp s' hp hs=>⟨hp.1,hp.2,hs⟩) (Ny (Fl nd) ⋯) rfl;subst hs;exact Sd hu (t.at_ i ⋯) (t.at_ j ⋯) (hC _ rfl))
  rw[YT]at run;refine Vh (WC run ?_ λ_ _ e=>e);rintro⟨⟨⟩,aI⟩ s' ⟨p,har,hf,hp,U4,rfl⟩;refine tail aI (p.toList.map λi=>(vs.getD i Value.none,ks.getD i [])) ?_ hf ?_ ?_
  .have ab4:arrOf aI=p.map (kas_item (kA.toList.toArray.zip vs.toArray)):=by rw[YT];exact har
   rw[kat_snds lka ab4,V1];rfl
  .rw[<-NP lv];exact List.Perm.map _ hp.list
  .unfold oO;rw[V1,V?,Yi];intro i j hi hj hij;rw[V4,hp.size]at hi hj;have:=zj.lt (Fl nd) hp (Vt _) U4 hij hj;have e:∀{i:Nat}(hi:i<ks.length),g p i=p.toList[i]'(by rw[V4,hp.size];exact hi):=λ{i}hi=>by have:=hp.get hi;rw[<-Wv,Vk (by rw[V4,hp.size];exact hi)]at this;exact(VP this).symm
   rw[e hi,e hj]at this;exact this
end
end SO
namespace L2
open PySem.Spec PyProof.Rows
open SO (oO Ko og)
section
variable{f:_o}{k:Nat}{x:V}{u:_m}{E:_c}
theorem a9.ED{D:_o}{o:HO}(I:a9 X ae σ H s)(fd:m8 X ae H D)(new:dR X.prog X.w (upd H D o) s.heap D o):a9 X ae σ (upd H D o) s:=by
 obtain⟨d0,d1,d2,d3,d4,d5⟩:=fd;have nb:∀b o,X.s₀.heap.get? b=some o->b ∉ X.ex->b≠D:=λb o e hx z=>by
  rw[z]at e hx;rcases d3 with q|q
  .exact hx q
  .exact absurd (VI e) (Nat.not_lt.mpr q)
 refine⟨I.ok,I.os,I.bare,⟨I.base.keep,I.base.slot,λb o e n hx=>by rw[aS (nb b o e hx)];exact I.base.free b o e n hx,I.base.there,λb xs e=>by rw[aS (bA (I.base.qa b xs e) d0)];exact I.base.qa b xs e,λb o u e=>by rw[aS (bA (I.base.pO b o u e) d0)];exact I.base.pO b o u e,λb ps e=>by
  obtain⟨more,q⟩:=I.base.qE b ps e;exact⟨more,by rw[aS (bA q d0)];exact q⟩⟩,I.loc,I.cell,by rw[aS d1.symm];exact I.free,λy c e=>by rw[aS (d4 y c e)];exact I.qF y c e,λp hp=>?_,I.dJ.ED d0 new,I.len⟩
 obtain⟨p1,p2,p3⟩:=I.pin p hp;exact⟨p1,by rw[aS (d5 p hp)];exact p2,p3⟩
def Kp(X:Cx)(L:h!)(f c':_o)(x:V)(H:Hp)(Q:VK):Prop:=
 [x].length=L.ps.length/\Hk L H f c'/\∀s:_n,∃t,PE (w? X.prog X.w X.K X.mg X.base L f c' X.A.in1.in1 X.stack s H) L.body t/\t [some x] H Q
theorem Hm(LO:L.OZ)(hr:gK (k+3) X.A)(I:a9 X ae σ H s)(r:bW x u)(q:Kp X L f c' x H Q):wpAny (model X.prog X.w) X.A.in1.in1 (call (.ref f) [u]) (EP X ae σ Q) E s:=by
 obtain⟨hl,C,ht⟩:=q;have e0:=I.Ub;have e1:CQ X.prog X.w X.K X.mg X.base X.A.in1.in1 X.stack s H:=⟨e0.frames,e0.mod,e0.bs,e0.Pb,e0.vN,e0.Od,e0.dJ,e0.bare⟩
 refine wpAny_call (Yq (Kl (E:=XF) (k:=k) LO C ((hr.in1).in1) e1 hl (.cons r .nil) (ht s)) λr s' hq=>?_);cases r with
 |error e=>obtain⟨_,_,_,_,_,z⟩:=hq;exact z.elim
 |ok fl=>
  cases fl with
  |ret u=>exact I.after hq
  |next=>exact False.elim hq
  |brk=>exact False.elim hq
  |cont=>exact False.elim hq
def kyG(Kc:V->Hp->VK->Prop)(fin:List V->Hp->Prop):List V->List V->Hp->Prop
 |[],ys,H=>fin ys H
 |x::r,ys,H=>Kc x H λy H1=>kyG Kc fin r (ys++[y]) H1
inductive xa(K:_g)(H:Hp):List V->List (_h)->Prop
 |nil:xa K H [] []
 |cons {a r:_o} {l:Int} {row:_h} {ys:List V} {ks:List (_h)}:pZ K H a [.int l,.ref r]->pk K H r (row.map V.int)->xa K H ys ks->xa K H (.ref a::ys) ((l::row)::ks)
theorem xa.at_{ys:List V}{ks:List (_h)}{us:_i}(h:xa X.K H ys ks)(I:a9 X ae σ H s)(r:bx ys us):og s.heap us ks:=by
 induction h generalizing us with
 |nil=>cases r;exact .nil
 |cons h1 h2 _ ih=>
  cases r with
  |cons r1 r2=>
   cases r1;refine .cons ?_ (ih r2);obtain⟨aN,rv,⟨o,ho,hc,n,hd⟩,_⟩:=I.tuple h1;obtain⟨fH,S7,pl,_⟩:=I.list h2;cases rv with
   |cons q1 q2=>
    obtain⟨t,rfl⟩:=q1;cases q2 with
    |cons q3 q4=>
     cases q3;cases q4;exact⟨_,o,_,n,_,t,_,fH.toArray,_,rfl,ho,hc,hd,rfl,pl.isList,JY S7,rfl⟩
end
theorem s_{g:α->β}{l b:List β}(h:l.Perm b):∀T:List α,T.map g=b->∃T':List α,T'.Perm T/\T'.map g=l:=by
 induction h with
 |nil=>intro T e;exact⟨T,.refl _,e⟩
 |cons x _ ih=>
  intro T e;cases T with
  |nil=>cases e
  |cons t T=>
   obtain⟨T',p,q⟩:=ih T (WT e).2;exact⟨t::T',p.cons t,by rw[Vm,q,(WT e).1]⟩
 |swap x y l=>
  intro T e
  match T,e with
  |t::u::T,e=>
   have e1:=(WT e).1;have e2:=(WT (WT e).2).1;have e3:=(WT (WT e).2).2;exact⟨u::t::T,.swap t u T,by rw[Vm,Vm,e1,e2,e3]⟩
 |trans _ _ i1 i2=>
  intro T e;obtain⟨T2,p2,q2⟩:=i2 T e;obtain⟨T1,p1,q1⟩:=i1 T2 q2;exact⟨T1,p1.trans p2,q1⟩
section
variable{f:_o}{k:Nat}{E:_c}{xs:List V}{D kS:_o}{e1:Nat}{P:PySem.Fin->_n->Prop}
def NQ(X:Cx)(xs:List V)(Q:VK)(ys:List V)(H:Hp):Prop:=∃ks:List (_h),xa X.K H ys ks/\ks.Nodup/\∀zs:List (V×List Int),zs.Perm (xs.zip ks)->oO (zs.map (·.2))->∀D,H D=none->Q (.ref D) (upd H D (.lst (zs.map (·.1))))
theorem B6:∀{xs:List V}{vs:_i},bx xs vs->∀p∈xs.zip vs,bW p.1 p.2
 |_,_,.nil,p,m=>by cases m
 |_,_,.cons r t,p,m=>by
  rcases VX.mp m with rfl|m
  .exact r
  .exact B6 t p m
theorem Fm:∀{l:List (V×_m)},(∀p∈l,bW p.1 p.2)->bx (l.map (·.1)) (l.map (·.2))
 |[],_=>.nil
 |p::l,h=>.cons (h p (Vu ..)) (Fm λq m=>h q (Vx _ m))
theorem Kq{α β γ:Type}:∀{xs:List α}{vs:List β}(ks:List γ),xs.length=vs.length->((xs.zip vs).zip ks).map (λq=>(q.1.2,q.2))=vs.zip ks/\((xs.zip vs).zip ks).map (λq=>(q.1.1,q.2))=xs.zip ks
 |[],[],_,_=>⟨rfl,rfl⟩
 |[],_::_,_,h=>by cases h
 |_::_,[],_,h=>by cases h
 |x::xs,v::vs,[],h=>⟨rfl,rfl⟩
 |x::xs,v::vs,k::ks,h=>by obtain⟨h1,h2⟩:=Kq (xs:=xs) (vs:=vs) ks (Xg h);simp only[Zu,Vm];exact⟨by rw[h1],by rw[h2]⟩
theorem DR(LO:L.OZ)(hr:gK (k+3) X.A)(rv:bx xs vs)(hz:vs.length<64)(ne:kS≠D)(I:a9 X ae σ H s)(fD:m8 X ae H D)(fS:m8 X ae H kS)(hD:s.heap.get? D=some (seqObj "list" #[] e1))(hk:s.heap.get? kS=some (seqObj "list" #[] 0))(g:kyG (Kp X L f c') (NQ X xs Q) xs [] H)(h:∀s',EP X ae σ Q (.ref D) s'->P (.done (.ret .none)) s'):
  wpAny (model X.prog X.w) X.A.in1.in1 (ksk_rest D (.ref f) false vs.toArray e1 (.ref kS)) P E s:=by
 unfold ksk_rest;refine Vh (ZI ?_);rw[List.forIn_toArray];refine Vh (ksk_fold (λi s'=>∃H' ys kA c,a9 X ae σ H' s'/\H' D=none/\H' kS=none/\s'.heap.get? D=some (seqObj "list" #[] e1)/\s'.heap.get? kS=some (seqObj "list" kA c)/\bx ys kA.toList/\ys.length=i/\kyG (Kp X L f c') (NQ X xs Q) (xs.drop i) ys H') vs 0 s
  ⟨H,[],#[],0,I,fD.1,fS.1,hD,hk,.nil,rfl,g⟩ ?step ?done)
 case step=>
  rintro j u s' hu ⟨H',ys,kA,c,I',nD,nS,hD',hk',rk,lj,g'⟩;rw[VZ]at lj g'⊢;have hj:j<vs.length:=(VJ.mp hu).1;have hx:j<xs.length:=by rw[rv.length];exact hj
  obtain⟨u',hu',ru⟩:=rv.get (Vk hx);rw[hu]at hu';cases hu';rw[Wq hx]at g';obtain⟨_,d1,d2,d3,d4,d5⟩:=id fD;obtain⟨_,t1,t2,t3,t4,t5⟩:=id fS;have J:a9 X (ae++[(D,seqObj "list" #[] e1),(kS,seqObj "list" kA c)]) σ H' s':=I'.qG λp hp=>by
   rcases VF.mp hp with z|z
   .exact I'.pin p (VQ _ z)
   .rcases VX.mp z with rfl|z
    .exact⟨hD',nD,d1,d2,λv z=>by cases z⟩
    .rw[Vz.mp z];exact⟨hk',nS,t1,t2,λv z=>by cases z⟩
  refine Vh (Yh (WC (Hm (E:=λ_ _=>False) LO hr J ru g') (λv s2 hv=>?_) λ_ _ z=>z.elim));obtain⟨y2,H2,J3,ry,g2⟩:=hv;have pD:=J3.pin (D,seqObj "list" #[] e1) (by simp);have pS:=J3.pin (kS,seqObj "list" kA c) (by simp);have J4:=J3.qK;dsimp only;have Te:kA.size<=1000:=by rw[<-V4,<-rk.length];lia
  obtain⟨c2,Bn⟩:∃c2,(s2.heap.update kS (Obj.mapSeq (·.push v))).get? kS=some (seqObj "list" (kA.push v) c2):=⟨_,Yf pS.1 (·.push v)⟩
  refine Vh (Zo pS.1 rfl ?_ (by rw[Vp];lia) (V! (Xu (Array.size_push ..)) (by rw[Vp];lia)));refine VE ⟨rfl,H2,ys++[y2],kA.push v,c2,J4.turned (t':=s2.toks) (λb o hb e=>(Wl _ _ (WU hb)).trans e) pS.2.1 t1 t3 t4 t5,pD.2.1,pS.2.1,(Wl _ _ ne).trans pD.1,Bn,?_,by rw[Vj,lj];rfl,g2⟩;rw[Array.toList_push];exact rk.append (.cons ry .nil)
 case done=>
  rintro s' ⟨H',ys,kA,c,I',nD,nS,hD',hk',rk,lj,g'⟩;rw[VZ,Xr (by rw[rv.length];exact Vt _)]at g';obtain⟨ks,kv,nd,q⟩:=g';refine Vh (W6 hk' rfl ?_);have t:=kv.at_ I' rk;have lk:kA.size=vs.length:=by rw[<-V4,<-rk.length,lj,VZ]
  refine SO.Hl (by have:=hr.un;show X.A.units+1+1<_;lia) hD' hk' ne t lk nd hz λh1 h' c' zs z1 z2 z3 z4 z5=>h _ ?_;obtain⟨_,d1,d2,d3,d4,d5⟩:=id fD;obtain⟨_,t1,t2,t3,t4,t5⟩:=id fS;have J1:a9 X ae σ H' {s' with heap:=h1}:=I'.turned (t':=s'.toks) z3 nS t1 t3 t4 t5;have J2:a9 X ae σ H' {s' with heap:=h'}:=J1.turned (t':=s'.toks) z4 nD d1 d3 d4 d5
  -- Oc values acE acv for Oc items
  obtain⟨e2,e3⟩:=Kq ks rv.length;obtain⟨T,pT,eT⟩:=s_ (g:=λq:(V×_m)×List Int=>(q.1.2,q.2)) z1 _ e2;have zv:(T.map λq=>(q.1.1,q.2)).Perm (xs.zip ks):=by rw[<-e3];exact pT.map _
  have zr:oO ((T.map λq=>(q.1.1,q.2)).map (·.2)):=by rw[<-eT,V1]at z2;rw[V1];exact z2
  have vz:bx ((T.map λq=>(q.1.1,q.2)).map (·.1)) (zs.map (·.1)):=by
   rw[<-eT,V1,V1];have:=Fm (l:=T.map (·.1)) (λq m=>by
    obtain⟨w,mw,rfl⟩:=VN.mp m;exact B6 rv _ (XA (show(w.1,w.2)∈_ from pT.mem_iff.mp mw)).1)
   rw[V1,V1]at this;exact this
  obtain⟨zV,hzV⟩:=NE (T.map λq=>(q.1.1,q.2))
  rw[<-hzV]at zv zr vz;have ok:dR X.prog X.w (upd H' D (.lst (zV.map (·.1)))) h' D (.lst (zV.map (·.1))):=by
   refine⟨?_,zs.map (·.1),c',vz,z5⟩;have hk2:=t.length;have hk3:kA.toList.length=vs.length:=by rw[V4];exact lk
   have:(zV.map (·.1)).length=vs.length:=by rw[Vg,zv.length_eq,Xh,rv.length,<-hk2,hk3];exact YJ _
   rw[this,Vp];lia
  exact⟨.ref D,_,J2.ED (o:=.lst (zV.map (·.1))) ⟨nD,d1,d2,d3,d4,d5⟩ ok,rfl,q zV zv zr D nD⟩
end
section
variable{k:Nat}
def Sf(X:Cx)(L:h!):List V->List V->Hp->VK->Prop:=λxs zs H Q=>∃a f c' vs,xs=[.ref a]/\zs=[.ref f]/\pk X.K H a vs/\vs.length<64/\kyG (Kp X L f c') (NQ X vs Q) vs [] H
theorem B7(LO:L.OZ)(hr:gK (k+3) X.A):JX X (.builtin "sorted") ["key"] (Sf X L):=by
 intro ae s σ H xs zs us ws Q I rx rz h;obtain⟨a,f,c',vs,rfl,rfl,hq,hz,g⟩:=h;obtain⟨u,rfl,r1⟩:=vals1 rx;obtain⟨z,rfl,r2⟩:=vals1 rz;cases r1;cases r2;obtain⟨aN,rv,pl,_⟩:=I.list hq;have hi:aN.length<64:=by rw[<-rv.length];exact hz
 have hs:aN.toArray.size<=sizeLine:=by rw[VB,Vp];lia
 show wpAny _ _ (call (.builtin "sorted") [.ref a] [(Str.ofString "key",.ref f)]) _ _ s;refine call_function_entry_kw kind_sorted plain_sorted entry_sorted (ksk_s1 _ _) ?_;unfold Builtin.«sorted»;refine Vh (m:=checkCount "sorted" 1 1 _) (VE ?_);refine Vh (collect_list pl.isList ?_ (by rw[Vp];lia));refine Vh (YW ?_ (by rw[Vp];lia));have hsz:((s.heap.push (seqObj "list" #[] 0)).update s.heap.objs.size (Obj.mapSeq (· ++ aN.toArray))).objs.size=s.heap.objs.size+1:=by rw[Heap.size_update,size_push']
 obtain⟨h1,e1⟩:=NE (((s.heap.push (seqObj "list" #[] 0)).update s.heap.objs.size (Obj.mapSeq (· ++ aN.toArray))).push (seqObj "list" aN.toArray 0))
 have k1:∀b o,s.heap.get? b=some o->h1.get? b=some o:=λb o q=>by have uI:b<s.heap.objs.size:=VI q;rw[e1,Heap.get?_push_ne _ _ _ (by rw[hsz];exact V7 (XN uI)),Heap.get?_update_ne _ _ _ _ (V7 uI),Heap.get?_push_ne _ _ _ (V7 uI)];exact q
 have Of:h1.get? (s.heap.objs.size+1)=some (seqObj "list" aN.toArray 0):=by rw[e1,<-hsz];exact VT _ rfl
 show wpAny _ _ _ _ _ {s with heap:=((s.heap.push (seqObj "list" #[] 0)).update s.heap.objs.size (Obj.mapSeq (· ++ aN.toArray))).push (seqObj "list" aN.toArray 0)};rw[hsz,<-e1];obtain⟨D,eD⟩:=NE (s.heap.objs.size+1)
 rw[<-eD]at Of⊢;refine Vh (Xs (wpAny_call_entry_kw slot_list_sort ⟨_,Of,rfl⟩ entry_list_sort ?body (ksk_l1 _ _)))
 case body=>
  show wpAny (model X.prog X.w) X.A.in1.in1 (Builtin.«list.sort» ⟨[.ref D],[(Str.ofString "key",.ref f)]⟩) _ _ _;rw[ksk_t1];unfold ksk_tree;obtain⟨c1,ho1⟩:∃e1,(h1.update D (Obj.mapSeq λ_=>(#[]:Array _m))).get? D=some (seqObj "list" #[] e1):=⟨_,Yf Of λ_ => #[]⟩
  refine Vh (W6 Of rfl ?_);refine Vh (Zo Of rfl ?_ hs (Wd _));refine Vh (seqEpoch_at ho1 rfl ?_);refine Vh (wpAny_newTuple ?_ (by show aN.length<=_;rw[Vp];lia));refine Vh (YW ?_ (Wd _));refine Xs ?_;have hD1:D<h1.objs.size:=VI Of;have hkS:((h1.update D (Obj.mapSeq λ_=>(#[]:Array _m))).push (seqObj "tuple" aN.toArray 0)).objs.size=h1.objs.size+1:=by rw[size_push',Heap.size_update]
  have nD:H D=none:=I.dJ.fresh (by rw[eD];exact YY _);have fD:m8 X ae H D:=I.Bi (by rw[eD];exact YY _) nD;have lS:s.heap.objs.size<=h1.objs.size+1:=⋯
  have fS:m8 X ae H (h1.objs.size+1):=I.Bi lS (I.dJ.fresh lS);obtain⟨h2,e2⟩:=NE (((h1.update D (Obj.mapSeq λ_=>(#[]:Array _m))).push (seqObj "tuple" aN.toArray 0)).push (seqObj "list" #[] 0))
  have k2:∀b o,s.heap.get? b=some o->h2.get? b=some o:=λb o q=>by have uI:b<s.heap.objs.size:=VI q;rw[e2];refine Vl _ (Vl _ ?_);rw[Heap.get?_update_ne _ _ _ _ (by rw[eD];exact V7 (XN uI))];exact k1 b o q
  show wpAny _ _ (ksk_rest D (.ref f) false aN.toArray _ (.ref ((h1.update D (Obj.mapSeq λ_=>(#[]:Array _m))).push (seqObj "tuple" aN.toArray 0)).objs.size)) _ _ {s with heap:=((h1.update D (Obj.mapSeq λ_=>(#[]:Array _m))).push (seqObj "tuple" aN.toArray 0)).push (seqObj "list" #[] 0)};have hk2:h2.get? (h1.objs.size+1)=some (seqObj "list" #[] 0):=by rw[e2,<-hkS];exact VT _ rfl
  rw[hkS,<-e2];refine DR (s:={s with heap:=h2}) LO hr rv hi (W' (XN hD1)) (I.kept (t':=s.toks) k2) fD fS (by rw[e2];exact Vl _ (Vl _ ho1)) hk2 g λs' q=>⟨_,rfl,?_⟩
  exact VE ⟨_,rfl,q⟩
end
end L2
namespace MN
open PySem.Spec L2
open PyProof.Rows hiding St
def vI(P:_q)(w:World)(K:_g)(mg:_d)(base:Heap)(L:h!)(k:Nat)(mb:ME):Prop:=
 L.OZ/\∀(f c':_o)(A:_p)(outer:List PySem.Env)(s:_n)(H:Hp),gK k (A.deeper (W.envX L.qual L.scope s.heap.objs.size f (.ref c') [])) ->
  PE (w? P w K mg base L f c' A outer s H) L.body (tE (w? P w K mg base L f c' A outer s H) E0 mb)
def DS(mb:ME):List aj->List aj->af->fu (List aj)
 |[],ys,st=>.ok ys st
 |x::r,ys,st=>match mb [some x] st with
  |.ok y st1=>DS mb r (ys++[y]) st1
  |_=>.bad
def nN(st:af):List aj->Option (List (_h))
 |[]=>some []
 |.tup [.int l,.loc r]::ys=>match aq st r with
  |some us=>match wV us,nN st ys with
   |some row,some ks=>some ((l::row)::ks)
   |_,_=>none
  |none=>none
 |_=>none
def DT(a b:aj×List Int):Bool:=!(SO.lexLt b.2 a.2)
open Classical in
def Kr(us:List aj)(ys:List aj)(st:af):fu aj:=match nN st ys with
 |some ks=>if ks.Nodup then .ok (.loc st.length) (st++[.lst (((us.zip ks).mergeSort DT).map (·.1))])else .bad
 |none=>.bad
open Classical in
def s?(L:gZ)(mb:ME)(m:ME):ME:=λμ st=>(m μ st).bind λv st1=>match v with
 |.loc n=>if gr st1 L.own L.line L.col L.S.qual/\L.S.ps.length=1 then(match aq st1 n with
   |some us=>if us.length<64 then(DS mb us [] st1).bind (Kr us)else .bad
   |none=>.bad)else .bad
 |_=>.bad
section
variable{k:Nat}{f:_o}
theorem Hn{st:af}(sr:SR X.K ρ st H):∀{ys:List aj}{yV:List V}{ks:List (_h)},bC X.K ρ H ys yV->nN st ys=some ks->xa X.K H yV ks:=by
 intro ys
 induction ys with
 |nil=>
  intro yV ks r h;cases h;rw[r.gW];exact .nil
 |cons y ys ih=>
  intro yV ks r h;unfold nN at h;split at h
  .rename_i e;cases e
  .rename_i l r' ys' e;cases e;split at h
   .rename_i us hi;split at h
    .rename_i row ks' h1 h2;cases h;obtain⟨v,yV,rfl,ra,rb⟩:=r.cY;obtain⟨a,vs,rfl,hs,rv⟩:=ra.jL;obtain⟨v1,v2,rfl,r1,r2⟩:=rv.S9;obtain⟨a2,rfl,ha⟩:=r2.fU;obtain⟨ws,hw,rw⟩:=bI (X:=X) sr hi ha;rw[Hc h1]at rw;rw[bC.NC rw]at hw;rw[Rl.dh r1]at hs;exact .cons hs hw (ih rb h2)
    .cases h
   .cases h
  .cases h
theorem zy{l:List (aj×List Int)}(nd:(l.map (·.2)).Nodup):SO.oO ((l.mergeSort DT).map (·.2)):=by
 have h1:(l.mergeSort DT).Pairwise λa b=>DT a b=true:=by
  refine Yu (λa b c h1 h2=>?_) (λa b=>?_) l
  .unfold DT at h1 h2⊢;rw[YO]at h1 h2⊢;by_cases e1:b.2=a.2
   .rw[<-e1];exact h2
   .by_cases e2:c.2=b.2
    .rw[e2];exact h1
    .exact SO.j? (SO.wQ (SO.pG e1 h1) (SO.pG e2 h2))
  .unfold DT;cases z:SO.lexLt b.2 a.2 with
   |false=>rfl
   |true=>rw[SO.j? z];rfl
 have h2:((l.mergeSort DT).map (·.2)).Nodup:=((XO l DT).map _).nodup_iff.mpr nd;have h3:=V?.mp h2;refine V?.mpr (List.Pairwise.imp (λ{a b}h=>?_) (h1.and h3));have z:SO.lexLt b.2 a.2=false:=by have:=h.1;unfold DT at this;rwa [YO]at this
 exact SO.pG (WU h.2) z
theorem Kt{a b:List (aj×List Int)}(p:a.Perm b)(fa:SO.oO (a.map (·.2)))(fb:SO.oO (b.map (·.2))):a=b:=
 Ym (λx y _ _ h1 h2=>by rw[SO.j? h1]at h2;cases h2) (V?.mp fa) (V?.mp fb) p
theorem B9{ρ:_k}{H:Hp}:∀{us:List aj}{vs:List V},bC X.K ρ H us vs->∀p∈us.zip vs,Rl X.K ρ H p.1 p.2
 |[],_,_,p,m=>by cases m
 |u::us,vs,r,p,m=>by
  obtain⟨v,vs,rfl,r1,r2⟩:=r.cY;rcases VX.mp m with rfl|m
  .exact r1
  .exact B9 r2 p m
theorem Fn{ρ:_k}{H:Hp}:∀{l:List (aj×V)},(∀p∈l,Rl X.K ρ H p.1 p.2)->bC X.K ρ H (l.map (·.1)) (l.map (·.2))
 |[],_=>bC.nil
 |p::l,h=>bC.cons (h p (Vu ..)) (Fn λq m=>h q (Vx _ m))
theorem Fo{α β:Type}:∀(us:List α)(ks:List β),((us.zip ks).map (·.2)).Sublist ks
 |[],ks=>List.nil_sublist ks
 |_::_,[]=>List.nil_sublist _
 |_::us,k::ks=>(Fo us ks).cons_cons k
theorem NR(S:vI X.prog X.w X.K X.mg X.base L k mb)(vJ:L.ps.length=1)(hr:gK (k+3) X.A){vs:List V}:∀(r:List aj)(rV:List V)(ys:List aj)(yV:List V)(ρ:_k)(st:af)(H:Hp),Hk L H f c'->SR X.K ρ st H->bC X.K ρ H us vs->bC X.K ρ H r rV->bC X.K ρ H ys yV ->
  wR (wo X) E (Rl X.K) ρ H Q ((DS mb r ys st).bind (Kr us))->kyG (Kp X L f c') (NQ X vs Q) rV yV H:=by
 intro r
 induction r with
 |nil=>
  intro rV ys yV ρ st H C sr ru rr ry h;rw[rr.gW];replace h:wR (wo X) E (Rl X.K) ρ H Q (Kr us ys st):=h;unfold Kr at h;split at h
  .rename_i ks hk;split at h
   .rename_i nd;refine⟨ks,Hn sr ry hk,nd,λzs z1 z2 D hD=>?_⟩;obtain⟨e2,e3⟩:=Kq ks ru.length;obtain⟨T,pT,eT⟩:=s_ (g:=λq:(aj×V)×List Int=>(q.1.2,q.2)) z1 _ e2;have zv:(T.map λq=>(q.1.1,q.2)).Perm (us.zip ks):=by rw[<-e3];exact pT.map _
    have zr:SO.oO ((T.map λq=>(q.1.1,q.2)).map (·.2)):=by rw[<-eT,V1]at z2;rw[V1];exact z2
    have ndz:((us.zip ks).map (·.2)).Nodup:=List.Pairwise.sublist (Fo us ks) nd;have eq:=Kt (zv.trans (XO _ DT).symm) zr (zy ndz);have vz:bC X.K ρ H (((us.zip ks).mergeSort DT).map (·.1)) (zs.map (·.1)):=by
     rw[<-eq,<-eT,V1,V1];have:=Fn (X:=X) (ρ:=ρ) (H:=H) (l:=T.map (·.1)) (λq m=>by
      obtain⟨w,mw,rfl⟩:=VN.mp m;exact B9 ru _ (XA (show(w.1,w.2)∈_ from pT.mem_iff.mp mw)).1)
     rw[V1,V1]at this;exact this
    obtain⟨k1,k2,k3⟩:=jf sr vz hD;exact h _ _ _ k1 k2 k3
   .exact h.elim
  .exact h.elim
 |cons x r ih=>
  intro rV ys yV ρ st H C sr ru rr ry h;obtain⟨v,rV,rfl,rx,rr⟩:=rr.cY;unfold DS at h;cases hb:mb [some x] st with
  |ok y st1=>
   rw[hb]at h;refine⟨by rw[vJ];rfl,C,λs=>⟨_,S.2 f c' X.A.in1.in1 X.stack s H (hr.in1.in1.deeper _),[some x],ρ,st,?_,sr,?_⟩⟩
   .exact RS.start (N:=[""]) (bC.one rx)
   .rw[hb];intro ρ1 H1 vy e1 dM r1;exact ih rV (ys++[y]) (yV++[vy]) ρ1 st1 H1 (C.mono λb o u q=>e1.lX b o u q) dM (bC.mono e1 _ _ ru) (bC.mono e1 _ _ rr) (bC.append (bC.mono e1 _ _ ry) (bC.one r1)) (wR.mono h e1)
  |err c st1=>rw[hb]at h;exact h.elim
  |bad=>rw[hb]at h;exact h.elim
end
section
variable{pos p lp:Pos}{e:Expr}{m:ME}{L:gZ}{k:Nat}{cd T:_o}
theorem Ku(S:vI X.prog X.w X.K X.mg X.base L.S k mb)(B:Rf X.K X.mg X.base L.own cd T)(hr:gK (k+3) X.A)(hg:Gl X x)(hm:X.mg x=none)(hv:bootBuiltins x=some (.builtin "sorted"))(ha:PE X e (tE X E m))(aaG:X.env.code=.ref cd:=by rfl)(hcl:closureFor L.S.scope X.env=pure []:=by rfl)(hq:L.S.qual=X.env.qual ++ "<lambda>":=by rfl)(Uo:defaultsOf L.S.params X.env=([],[]):=by rfl)(t_:lp.line=L.line:=by rfl)(uD:lp.col=L.col:=by rfl)(hn:x ≠ "__name__":=by decide)(Bk:(x==("__debug__":Str))=false:=by decide)(he:starEach [e] X.env=(false,eval e X.env)::starEach [] X.env:=by rfl):
  PE X (.Call (.Name x p) [e] [⟨some "key",.Lambda L.S.params L.S.body L.S.scope lp,kp⟩] pos) (tE X E (s? L mb m)):=by
 have A:IK X L.S lp cd T []:=⟨aaG,B.hd,hcl,hq,Uo,B.blt,B.gT⟩
 refine PE.imp (Hb (B7 S.1 hr) hg hm hv (ve ha CP he) (L9 (My A) P!) (by rfl) hn Bk (by rw[he];rfl) (by rw[he];rfl)) ?_;rintro σ H Q ⟨μ,ρ,st,rs,sr,h⟩;unfold s? at h;refine go μ ρ st rs sr h λw st1 ρ1 H1 va e1 dM r1 h1=>?_;cases w with
 |loc n=>
  dsimp only at h1;split at h1
  .rename_i hT;obtain⟨⟨jt,hj⟩,vJ⟩:=hT;rw[<-t_,<-uD]at hj;split at h1
   .rename_i us hi;split at h1
    .rename_i hle;obtain⟨T',UP,kT⟩:=dM.addr hj;have eT:T'=T:=by obtain⟨cd',h1⟩:=kT.1;have:=h1.symm.trans B.tab;cases this;rfl
     subst eT;refine⟨kT.2,λfa' c' H2 N=>?_⟩;obtain⟨qR,e2⟩:=dM.Rc hj UP N;obtain⟨a,rfl,ha⟩:=r1.fU;obtain⟨vs,hq,rv⟩:=bI (X:=X) qR hi (e2.at_ ha);exact⟨a,fa',c',vs,rfl,rfl,hq,by rw[<-rv.length];exact hle,NR S vJ hr us vs [] [] ρ1 st1 H2 ⟨N.fn,N.cd⟩ qR rv rv bC.nil (wR.mono h1 e2)⟩
    .exact h1.elim
   .exact h1.elim
  .exact h1.elim
 |_=>exact h1.elim
end
def Kv:List Stmt->Option Expr
 |[]=>none
 |[.Return (some (.Tuple [_,.Call _ _ (⟨_,e,_⟩::_) _] _ _)) _]=>some e
 |_::r=>Kv r
theorem h!.ab5(h1:L.scope.kind=.function)(h2:L.scope.isCoroutine=false)(h3:L.scope.isGenerator=false)(h4:(L.scope.names.all λp => !(p.2 == .cell) && !(p.2 == .free))=true)(h5:(L.ps.all λp=>L.scope.names.lookup p==some .local)=true)(h8:L.ps.Nodup)(h9:∀(pm cd ct:_m)(cl:List (Str×_o))(us:_i),us.length=L.ps.length->bindArgs (W.kla_fn "<lambda>" L.qual L.params L.body L.scope cl pm cd ct) ⟨us,[]⟩=pure (L.ps.zip us)):L.OZ where
 kind:=h1
 co:=h2
 gen:=h3
 ik:=λy hy h=>by have z:=WB.mp h4 y hy;simp[h]at z
 zQ:=λy hy h=>by have z:=WB.mp h4 y hy;simp[h]at z
 par:=λp hp=>by have z:=WB.mp h5 p hp;simpa using z
 nd:=h8
 bind:=h9
end MN
namespace PM
open PySem.Spec L2 MN
open PyProof.Rows hiding St
def fO:FN:=iH 4 5 (az (aK 4 (ag bJ bT d!)) (bZ (cH 2 [4,0] (we true true (aa bT (aa d6 ai))) (js [(aA 0),(aA 1)]) bj (ag gq (ag jr bc (ag b9 d6 bT)) d!))))
def mM:FN:=iH 2 2 (bZ (cH 1 [0] (f_ (aa bT ai)) (aA 0) bj (Lo (gA (ag sA bc bT)) cm cW)))
def cleared:FN:=iH 4 4 (bZ (cH 1 [3,0,2] (f9 bT) (aA 0) bj (ao PM.fO (aa d6 (aa bc (aa d! (aa bT ai)))))))
def jc:FN:=iH 1 1 (bZ (cH 2 [0] (kY (aa bc ai)) (js [(aA 0),(aA 1)]) bj (ag dA (ao qd (aa bT ai)) (ao PM.mM (aa bc (aa (ao bD (aa d6 ai)) ai))))))
def cI:FN:=iH 3 6 (az (aK 3 (bB ai)) (az (ic (kx (aa d6 (aa (ao bD (aa bT ai)) ai))) (aA 4) (az (aK 5 (ao PM.bK (aa bc (aa (ag bJ bT fY) (aa (ag dA (ag b9 (bB (aa cW ai)) fY) (bB (aa cm ai))) (aa (ko cm) ai)))))) (e_ (iW dC d! (aa (ao PM.fo (aa iU (aa (ao bD (aa bT ai)) ai))) ai))))) (bZ d!)))
def pH:FN:=iH 3 10 (az (aK 3 (bB ai)) (az (aK 4 bT) (az (aK 5 (bB ai)) (az (ic (f_ (aa d6 ai)) (aA 6) (az (aK 7 (cH 1 [6] (f9 fY) (aA 0) (gA (ag vh (ag bJ bc bT) cW)) bc)) (sv (gA (ag v! (ao bD (aa qc ai)) cW)) (az (aK 8 (ao PM.inverse (aa bc (aa (ag bJ (ag bJ qc cW) jU) ai)))) (az (aK 9 (cH 1 [8,0] (f9 (ag bJ qc cW)) (aA 0) bj (ag gq (ag b9 bc bT) d6))) (az (aK 4 (ao PM.cleared (aa bc (aa (ag dA (x! qc (iz cm) iy) (cH 1 [6] (f9 fY) (aA 0) (gA (ag sA (ag bJ bc bT) cW)) bc)) (aa A_ (aa jU ai)))))) (az (aK 3 (ag dA (ao PM.cleared (aa bc (aa d! (aa A_ (aa jU ai))))) (bB (aa A_ ai)))) (e_ (iW dC iU (aa jU ai))))))) fE))) (bZ (gp (aa (ag dA d! fY) (aa iU ai))))))))
def gI:FN:=iH 3 4 (az (aK 3 (ao PM.pH (aa bc (aa (ao PM.jc (aa bT ai)) (aa d6 ai))))) (bZ (cH 1 [2] (f9 (x! (ag bJ d! cW) (iz (ao bD (aa (ag bJ d! cm) ai))) iy)) (aA 0) bj (x! bc (iz bT) iy))))
def fQ:FN:=iH 3 7 (az (aK 3 (ao PM.pH (aa bc (aa (ao PM.jc (aa bT ai)) (aa d6 ai))))) (az (sv (gA (ag ltV (ao bD (aa (ag bJ d! cm) ai)) (ao bD (aa bT ai)))) (bZ (mC .dj)) fE) (az (aK 4 (cH 1 [1] (f_ (aa d6 ai)) (aA 0) bj (ag b9 (bB (aa cW ai)) (ao bD (aa bT ai))))) (az (ic (kY (aa (ag bJ d! cm) ai)) (js [(aA 5),(aA 6)]) (p5 fY jU (x! (ag bJ (ag bJ d! cW) iU) (iz d6) iy))) (bZ fY)))))
def fj:FN:=iH 2 7 (az (aK 2 (bB (aa (bB ai) ai))) (az (aK 3 (bB (aa (bB (aa cm ai)) ai))) (az (ic (kx (aa cm (aa (ag jr (ao bD (aa bT ai)) cm) ai))) (aA 4) (az (aK 5 (Lo (gA (ag sA fY cm)) (ag dA (ag b9 (bB (aa cW ai)) bc) (bB (aa cm ai))) (ao PM.dW (aa bc (aa (ag bJ d! (ag jr fY cm)) (aa (ag bJ d! cm) ai)))))) (az (aK 6 (ao PM.parted (aa bc (aa iU (aa bT ai))))) (az (e_ (iW dC d6 (aa (ag bJ jU cW) ai))) (e_ (iW dC d! (aa (ag bJ jU cm) ai))))))) (bZ (gp (aa d6 (aa d! ai)))))))
def eR:FN:=iH 3 7 (az (aK 3 (ag bJ (ao PM.parted (aa bc (aa (ao PM.c_ (aa bc (aa d6 ai))) (aa bT ai)))) cm)) (az (aK 4 (bB ai)) (az (ic (f_ (aa bc ai)) (aA 5) (az (aK 6 (ao PM.dO (aa bc (aa bT (aa (ao PM.bK (aa bc (aa d! (aa (bB (aa iU ai)) (aa (ko cm) ai))))) ai))))) (sv (gA (ag v! (ao bD (aa jU ai)) cm)) (e_ (iW dC fY (aa jU ai))) fE))) (bZ fY))))
def ke:FN:=iH 3 5 (az (aK 3 (bB ai)) (az (ic (f9 bT) (aA 4) (e_ (iW jM d! (aa (ao PM.eR (aa bc (aa fY (aa d6 ai)))) ai)))) (bZ d!)))
def gh:FN:=iH 2 5 (az (aK 2 (ag bJ (ao PM.fj (aa bc (aa bT ai))) cm)) (az (aK 3 (bB (aa bT ai))) (az (ic (f9 (ao PM.gI (aa bc (aa (ao PM.cI (aa bc (aa d6 (aa cW ai)))) (aa (ag jr (ao bD (aa bT ai)) cm) ai))))) (aA 4) (aK 3 (ao PM.ke (aa bc (aa d! (aa fY ai)))))) (bZ d!))))
def jk:FN:=iH 2 5 (az (e_ (ao PM.gC (aa bc ai))) (az (sv (Ae (gA (ag ltV (ao bD (aa bT ai)) yM)) (gA (ag vh (ag bJ bT (ko cm)) cm))) (oC "NotPlain" (aa (qs "only a plain row of the power 1 or more can be whole") ai)) fE) (az (aK 2 (ao PM.gR (aa bc (aa bT ai)))) (az (sv (gA (ag (Lq false) d6 (mC .dj))) (bZ (mC .dj)) fE) (az (aK 3 (ao PM.fj (aa bc (aa bT ai)))) (az (aK 4 (ao PM.fQ (aa bc (aa (ao PM.cI (aa bc (aa (ag bJ d! cm) (aa cm ai)))) (aa (ag jr (ao bD (aa bT ai)) cm) ai))))) (bZ (Lo (gA (ag (Lq false) fY (mC .dj))) (mC .dj) (gp (aa (ag bJ d6 cW) (aa (ag bJ d6 cm) (aa (ag bJ d! cW) (aa (ag bJ d! cm) (aa fY ai))))))))))))))
def dQ:ME:=(gp (aa (ao bD (aa (ag bJ bc cW) ai)) (aa (ag bJ bc cW) ai)))
def kJ(M:gZ):FN:=iH 2 6 (az (e_ (ao PM.gC (aa bc ai))) (az (aK 2 (ao PM.gS (aa bc (aa bT ai)))) (az (aK 3 (bB ai)) (az (ic (f9 (ag bJ d6 cm)) (js [(aA 4),(aA 5)]) (e_ (iW jM d! (aa (cH 1 [5] (f9 (ao PM.gh (aa bc (aa fY ai)))) (aA 0) bj (gp (aa bc (aa bT ai)))) ai)))) (bZ (gp (aa (ag bJ d6 cW) (aa (s? M PM.dQ d!) ai))))))))
end PM
namespace PG
open PySem.Spec L2 MN
open PyProof.Rows hiding St kindOf
def IsM(p:Int)(w:Nat)(Q:Nat->Prop)(s:af)(v:aj):Prop:=∃k R,v=.loc k/\Q k/\s[k]?=some (ay R)/\R.length=w/\∀x∈R,0<=x/\x<p
def ab6(_:Nat):Prop:=True
theorem qo{g:af->Prop}{a:AS}{c:MT}{e:ME}{s0:af}(hg:∀s,Fr s0 s->g s)(I:MN.Env->Prop)(keep:aj->Bool)(G:af->aj->Prop)(mono:∀s s' y,Fr s s'->G s y->G s' y):∀(us:List aj)(τ:MN.Env)(s:af)(ys:List aj),I τ->Fr s0 s ->
  (∀u∈us,∀τ s,I τ->Fr s0 s->∃τ1,a u τ=some τ1/\I τ1/\c τ1 s=.ok (keep u) s/\(keep u=true->∃y s',e τ1 s=.ok y s'/\Fr s s'/\G s' y)) ->
  ∃zs s',dS g a c e us τ s ys=.ok (ys++zs) s'/\Fr s s'/\zs.length=(us.filter keep).length/\∀y∈zs,G s' y
 |[],τ,s,ys,_,F,_=>⟨[],s,by rw[jb (hg s F),Wc],Fr.refl s,rfl,λy m=>by cases m⟩
 |u::us,τ,s,ys,hI,F,hs=>by
  obtain⟨τ1,h1,h2,h3,h4⟩:=hs u Vu τ s hI F;have M?:=λv hv=>hs v (Vx u hv);unfold dS;rw[Vv (hg s F),h1];dsimp only;rw[h3];cases z:keep u with
  |true=>
   obtain⟨y,s1,e1,F1,g1⟩:=h4 z;dsimp only;rw[e1];dsimp only;obtain⟨zs,s2,e2,F2,l2,g2⟩:=qo hg I keep G mono us τ1 s1 (ys++[y]) h2 (F.trans F1) M?;refine⟨y::zs,s2,by rw[e2,VY];rfl,F1.trans F2,by rw[_a z,Vi,l2];rfl,λx m=>?_⟩;rcases VX.mp m with rfl|m
   .exact mono _ _ _ F2 g1
   .exact g2 x m
  |false=>
   dsimp only;obtain⟨zs,s2,e2,F2,l2,g2⟩:=qo hg I keep G mono us τ1 s ys h2 F M?;exact⟨zs,s2,e2,F2,by rw[_b (by rw[z];simp)];exact l2,g2⟩
theorem B_(l:List α):l.filter (λ_=>true)=l:=List.filter_eq_self.mpr λ_ _=>rfl
section
variable{w n:Nat}{S:_h}{s:af}
theorem rX(hp:0<p)(x:Int):0<=x.fmod p/\x.fmod p<p:=⟨Int.fmod_nonneg_of_pos x hp,Int.fmod_lt_of_pos x hp⟩
theorem Kw{s:af}{L:Int}{n:Nat}(h:L=(n:Int))(hn:n<=100000):Nd [.int L] s=.ok ((gm 0 n).map aj.int,λ_=>True) s:=by subst h;rw[vk ⋯ ⋯,WO,oG]
theorem jx(lo:Int)(n:Nat):(gm lo n).length=n:=by unfold gm;rw[Vg,VU]
end
theorem cutD(us:List aj)(k:Nat):uK us (some (k:Int)) none=us.drop k:=by
 unfold uK;rcases Nat.le_total k us.length with h|h
 .rw[HT.vR,HT.zR,Nat.min_eq_left h];exact W_ (by rw[Xk];exact Vt _)
 .rw[HT.vR,HT.zR,Nat.min_eq_right h,W3,List.take_zero,Xr h]
def tj(s:af)(j:Int)(u:aj):Int:=match bJ u (.int j) s with
 |.ok (.int i) _=>i
 |_=>0
theorem Sg{w:Nat}{Q:Nat->Prop}{s:af}(h:IsM p w Q s u){j:Nat}(hj:j<w):bJ u (.int (j:Int)) s=.ok (.int (tj s (j:Int) u)) s/\0<=tj s (j:Int) u/\tj s (j:Int) u<p:=by
 obtain⟨k,R,rfl,_,l,wR,rR⟩:=h;have gx:=dB (ax l) (iN (R:=R) (i:=(j:Int)) rfl ⋯);have:tj s (j:Int) (.loc k)=R.getD j 0:=by unfold tj;rw[gx]
 rw[this];refine⟨gx,rR _ ?_⟩;rw[VA,Vk ⋯];exact Xl _
abbrev stC(t:MT):ME:=cH 1 [6] (f9 fY) (aA 0) t bc
abbrev stN:MT:=gA (ag vh (ag bJ bc bT) cW)
abbrev stZ:MT:=gA (ag sA (ag bJ bc bT) cW)
abbrev stS:ME:=cH 1 [8,0] (f9 (ag bJ qc cW)) (aA 0) bj (ag gq (ag b9 bc bT) d6)
abbrev stX:MB:=az (aK 8 (ao PM.inverse (aa bc (aa (ag bJ (ag bJ qc cW) jU) ai)))) (az (aK 9 stS) (az (aK 4 (ao PM.cleared (aa bc (aa (ag dA (x! qc (iz cm) iy) (stC stZ)) (aa A_ (aa jU ai)))))) (az (aK 3 (ag dA (ao PM.cleared (aa bc (aa d! (aa A_ (aa jU ai))))) (bB (aa A_ ai)))) (e_ (iW dC iU (aa jU ai))))))
abbrev Sh:MB:=az (aK 7 (stC stN)) (sv (gA (ag v! (ao bD (aa qc ai)) cW)) stX fE)
section
variable{w W N:Nat}{st:af}
theorem Si{Q:Nat->Prop}{s:af}{l:Nat}{ls:List aj}(ll:s[l]?=some (.lst ls))(hv:∀v∈ls,IsM p w Q s v)(hn:ls.length<=1000){j:Nat}(hj:j<w){J:Int}(hJ:J=(j:Int)):
  stC stN [x0, x1, x2, x3, qL l, x5, qI J, x7, x8, x9] s=.ok (.loc s.length) (s++[.lst (ls.filter λu => !(tj s J u==0))]) /\
  stC stZ [x0, x1, x2, x3, qL l, x5, qI J, x7, x8, x9] s=.ok (.loc s.length) (s++[.lst (ls.filter λu=>tj s J u==0)]):=by
 have hz:ls.length<=16777216:=⋯
 have go:∀(t:MT)(f:aj->Bool),(∀u∈ls,t [some u,some (.int J)] s=.ok (f u) s)->stC t [x0, x1, x2, x3, qL l, x5, qI J, x7, x8, x9] s=.ok (.loc s.length) (s++[.lst (ls.filter f)]):=by
  intro t f ht;have hc:=jX (g:=λcJ=>aq cJ l=some ls) (a:=aA 0) (c:=t) (e:=bc) (st:=s) (ax ll) (λτ=>∃x,τ=[x,some (.int J)]) f (λu=>u) ls [none,some (.int J)] [] ⟨_,rfl⟩ (by
   rintro u mu τ ⟨x,rfl⟩;obtain⟨k,R,rfl,_⟩:=hv u mu;exact⟨_,rfl,⟨_,rfl⟩,ht _ mu,λ_=>rfl⟩)
  rw[Vq,List.map_id']at hc;have gY:iV 1 [6] [x0, x1, x2, x3, qL l, x5, qI J, x7, x8, x9]=[none,some (.int J)]:=rfl;show cH 1 [6] (f9 fY) (aA 0) t bc _ s=_;rw[dN,eI,show fY [x0, x1, x2, x3, qL l, x5, qI J, x7, x8, x9] s=.ok (.loc l) s from rfl,ar,dG (ax ll),ar,fB,Vv (by rw[Vp];exact hz),gY,hc,ar,ie]
 have e1:∀u∈ls,ag bJ bc bT [some u,some (.int J)] s=.ok (.int (tj s J u)) s:=λu mu=>by have:=(Sg (hv u mu) hj).1;rw[<-hJ]at this;obtain⟨k,R,rfl,_⟩:=hv u mu;rw[iu (x:=.loc k) (s1:=s) rfl (y:=.int J) (s2:=s) rfl,this]
 refine⟨go _ _ λu mu=>DJ ?_,go _ _ λu mu=>DJ ?_⟩
 .rw[iu (e1 u mu) (y:=.int 0) (s2:=s) rfl];exact wq
 .rw[iu (e1 u mu) (y:=.int 0) (s2:=s) rfl];exact ju
theorem ba{s:af}(us:List aj):∃s',s'=s++[aZ.lst us]/\Fr s s'/\s'[s.length]?=some (.lst us)/\s'.length=s.length+1:=⟨_,rfl,Fr.app _ _,bu _ _,by rw[Vj];rfl⟩
end
open SA (b?)
structure DU(p:Int)(A:_h)(Gs:List (_h)):Prop where
 mn:∀G∈Gs,d8 p G/\2<=G.length
 dv:∀G∈Gs,∃x:ah p,ak A=ak G*x
 cp:Gs.Pairwise λa b=>b? (ak a:ah p) (ak b)
def qC:List (_h)->ah p
 |[]=>1
 |G::l=>ak G*qC l
theorem Fp{x:ah p}:∀{l:List (_h)},(∀G∈l,b? x (ak G))->b? x (qC l)
 |[],_=>b?.one
 |G::l,h=>(h G (Vu ..)).mul (Fp λH m=>h H (Vx _ m))
theorem AI{a:ah p}:∀{l:List (_h)},(∀G∈l,∃x:ah p,a=ak G*x)->(l.Pairwise λa b=>b? (ak a:ah p) (ak b))->∃y,a=qC l*y
 |[],_,_=>⟨a,by show a=1*a;grind⟩
 |G::l,h,c=>by
  obtain⟨x,hx⟩:=h G (Vu ..);obtain⟨c1,c2⟩:=WN.mp c;obtain⟨y,hy⟩:=AI (λH m=>h H (Vx _ m)) c2;obtain⟨u,v,e⟩:=Fp c1;refine⟨u*y+v*x,?_⟩;show a=ak G*qC l*(u*y+v*x);generalize (qC l:ah p)=P at hy e⊢;generalize (ak G:ah p)=g at hx e⊢
  grind
theorem Fq(hp:0<p):∀{l:List (_h)}{A:_h}{y:ah p},(∀G∈l,d8 p G/\2<=G.length)->Row p A->A≠[]->ak A=qC l*y->l.length<A.length
 |[],A,y,_,_,nA,_=>VC.mpr nA
 |G::l,A,y,h,hA,nA,e=>by obtain⟨m1,m2⟩:=h G (Vu ..);obtain⟨Q,hQ,eQ,nQ,lQ⟩:=sW hp hA nA m1 (x:=qC l*y) (by rw[e];show ak G*qC l*y=_;exact dg _ _ _);have:=Fq hp (λH m=>h H (Vx _ m)) hQ nQ eQ.symm;rw[Vi];lia
theorem DU.HN(hp:0<p){A:_h}(h:DU p A Gs)(hA:Row p A)(nA:A≠[]):Gs.length<A.length:=by obtain⟨y,e⟩:=AI h.dv h.cp;exact Fq hp h.mn hA nA e
theorem DU.len(hp:0<p){A:_h}(h:DU p A Gs)(hA:Row p A)(nA:A≠[]):∀G∈Gs,G.length<=A.length:=λG m=>by obtain⟨x,e⟩:=h.dv G m;obtain⟨Q,_,_,nQ,lQ⟩:=sW hp hA nA (h.mn G m).1 e;have:=VC.mpr nQ;lia
theorem DU.nodup(hp:2<=p){A:_h}(h:DU p A Gs):Gs.Nodup:=by
 have h1:Gs.Pairwise λa b=>(d8 p a/\2<=a.length)/\b? (ak a:ah p) (ak b):=
  List.Pairwise.imp_of_mem (λ{a b}ma _ c=>⟨h.mn a ma,c⟩) h.cp
 refine h1.imp λ{a b}q e=>?_;obtain⟨⟨m1,m2⟩,c⟩:=q;subst e;obtain⟨z,ez⟩:=SA.Az c (c:=ak a) (x:=1) (y:=1) (by grind) (by grind);rw[jv hp m1 ez]at m2;exact absurd m2 ⋯
theorem DU.self{A:_h}(h:d8 p A)(l:2<=A.length):DU p A [A]:=⟨λG m=>by rw[Vz.mp m];exact⟨h,l⟩,λG m=>⟨1,by rw[Vz.mp m];grind⟩,W7 ..⟩
structure Kx(p:Int)(Gs:List (_h))(i:Nat)(Hs:List (_h)):Prop where
 mn:∀H∈Hs,d8 p H/\2<=H.length
 dv:∀H∈Hs,∃G∈Gs.take i,∃x:ah p,ak G=ak H*x
 cp:Hs.Pairwise λa b=>b? (ak a:ah p) (ak b)
theorem Kx.nil:Kx p Gs 0 []:=⟨(λ_ m=>by cases m),(λ_ m=>by cases m),.nil⟩
theorem Kx.put{Hs Ks:List (_h)}{i:Nat}{G:_h}(h:Kx p Gs i Hs)(hi:Gs[i]?=some G)(c:Gs.Pairwise λa b=>b? (ak a:ah p) (ak b))(f:DU p G Ks):Kx p Gs (i+1) (Hs++Ks):=by
 have et:Gs.take (i+1)=Gs.take i++[G]:=by rw[Xx,hi];rfl
 refine⟨λH m=>?_,λH m=>?_,WR.mpr ⟨h.cp,f.cp,λa ma b mb=>?_⟩⟩
 .rcases VF.mp m with m|m
  .exact h.mn H m
  .exact f.mn H m
 .rw[et];rcases VF.mp m with m|m
  .obtain⟨G',mG,x,e⟩:=h.dv H m;exact⟨G',We _ mG,x,e⟩
  .obtain⟨x,e⟩:=f.dv H m;exact⟨G,VQ _ (Vz.mpr rfl),x,e⟩
 .obtain⟨G',mG,x,e⟩:=h.dv a ma;obtain⟨y,e'⟩:=f.dv b mb;have cc:b? (ak G':ah p) (ak G):=by have:(Gs.take (i+1)).Pairwise λa b=>b? (ak a:ah p) (ak b):=List.Pairwise.sublist (List.take_sublist _ _) c;rw[et]at this;exact(WR.mp this).2.2 G' mG G (Vz.mpr rfl)
  exact((cc.of_dvd e').symm.of_dvd e).symm
theorem Kx.NT{A:_h}{Hs:List (_h)}{i:Nat}(h:Kx p Gs i Hs)(f:∀G∈Gs,∃x:ah p,ak A=ak G*x):DU p A Hs:=⟨h.mn,λH m=>by
  obtain⟨G,mG,x,e⟩:=h.dv H m;obtain⟨y,e'⟩:=f G (List.mem_of_mem_take mG);exact⟨x*y,by rw[e',e];exact dg _ _ _⟩,h.cp⟩
theorem qp(hp:0<p)(B:_h)(a:Int):(ak (jF p B [a]):ah p)=ak B-ak [a]:=by show _=(ak B:ah p) + -(ak [a]);rw[JO,sS];exact mk_eq ((vA hp B [a]).trans (aQ.of_eq λk=>by rw[de,jO];lia))
theorem B!(hp:dD p=true){G H:_h}{a b:Int}(a0:0<=a)(ab:a<b)(bp:b<p){x y:ah p}(e1:(ak (jF p B [a]):ah p)=ak G*x)(e2:(ak (jF p B [b]):ah p)=ak H*y):b? (ak G:ah p) (ak H):=by
 have hr:=au hp;have dz:0<p:=⋯
 rw[qp dz]at e1 e2;obtain⟨t,ht⟩:=OX (p:=p) (n:=b-a) hp (by rw[V9 ⋯ ⋯];lia);have eu:(ak [t]:ah p)*(ak [b]-ak [a])=1:=by
  have h1:(ak [b]:ah p)=ak [b-a]+ak [a]:=by rw[<-jP];congr 2;lia
  have h2:(ak [t]:ah p)*ak [b-a]=1:=by rw[wK];show _=(ak [1]:ah p);refine mk_eq ?_;refine(aQ.of_eq λk=>by rw[aV,rL,iq]).trans ?_;intro k;rw[iq];show Cg p (t*((b-a)*one k)) (1*one k);rw[<-Wj];exact Cg.BM ⟨(t*(b-a)) / p,by have:=Wb (t*(b-a)) p;lia⟩ _
  grind
 exact⟨ak [t]*x,-(ak [t]*y),by grind⟩
def rY(y:ah p):_h->ah p
 |[]=>0
 |a::l=>ak [a]+y*rY y l
theorem Ky{a b:Int}(h:Cg p a b):(ak [a]:ah p)=ak [b]:=mk_eq λk=>by rw[iq,iq];exact h.BM _
theorem NU(y:ah p):∀l:_h,aQ p (cf l) (λ_=>0)->rY y l=0
 |[],_=>rfl
 |a::l,h=>by
  show ak [a]+y*rY y l=0;rw[NU y l λk=>by have:=h (k+1);rw[bO]at this;exact this,Ky (show Cg p a 0 from h 0),HM]
  grind
theorem Kz(y:ah p):∀a b:_h,aQ p (cf a) (cf b)->rY y a=rY y b
 |[],b,h=>(NU y b (h.symm.trans (aQ.of_eq cz))).symm
 |a::l,[],h=>NU y _ (h.trans (aQ.of_eq cz))
 |x::a,z::b,h=>by show ak [x]+y*rY y a=ak [z]+y*rY y b;rw[Ky (show Cg p x z from h 0),Kz y a b λk=>by have:=h (k+1);rw[bO,bO]at this;exact this]
theorem DV(y:ah p):∀a b:_h,rY y (nE a b)=rY y a+rY y b
 |[],b=>by show rY y b=0+rY y b;grind
 |a::l,[]=>by show rY y (a::l)=rY y (a::l)+0;grind
 |x::a,z::b=>by show ak [x+z]+y*rY y (nE a b)=(ak [x]+y*rY y a)+(ak [z]+y*rY y b);rw[DV y a b,jP];grind
theorem Fs(a b:Int):(ak [a*b]:ah p)=ak [a]*ak [b]:=fV λk=>by rw[aV,rL,iq,iq,Wj]
theorem O0(c:Int):(ak [-c]:ah p) = -ak [c]:=fV λk=>by rw[jO,iq,iq];grind
theorem Ft(y:ah p)(c:Int):∀a:_h,rY y (a.map (c * ·))=ak [c]*rY y a
 |[]=>by show(0:ah p)=ak [c]*0;grind
 |x::a=>by show ak [c*x]+y*rY y (a.map (c * ·))=ak [c]*(ak [x]+y*rY y a);rw[Ft y c a,Fs];grind
theorem KA(y:ah p)(b:_h):∀a:_h,rY y (bY a b)=rY y a*rY y b
 |[]=>by
  rw[NU y _ (aQ.of_eq λk=>by rw[aV,k?])];show(0:ah p)=0*rY y b
  grind
 |x::a=>by
  rw[Kz y (bY (x::a) b) (nE (b.map (x * ·)) (0::bY a b)) (aQ.of_eq λk=>by
   rw[aV,de,jO];show x*cf b k+iE (mF a (cf b)) k=_;congr 1;cases k with
   |zero=>rfl
   |succ k=>rw[bO,aV];rfl),DV,Ft]
  show _+(ak [0]+y*rY y (bY a b))=(ak [x]+y*rY y a)*rY y b;rw[KA y b a,HM];grind
def CH(y x:ah p):ah p:=Quotient.liftOn x (rY y) λa b h=>Kz y a b h
theorem NV(y x z:ah p):CH y (x+z)=CH y x+CH y z:=by revert x;refine dc λa=>?_;revert z;refine dc λb=>?_;exact DV y a b
theorem Fu(y x z:ah p):CH y (x*z)=CH y x*CH y z:=by revert x;refine dc λa=>?_;revert z;refine dc λb=>?_;exact KA y b a
theorem KC(y:ah p)(c:Int):CH y (ak [c])=ak [c]:=by
 show ak [c]+y*0=_
 grind
theorem Fv(y x z:ah p):CH y (x-z)=CH y x-CH y z:=by
 have:=NV y (x-z) z;rw[show x-z+z=x by grind]at this
 grind
theorem O1(y:ah p):CH y Xp=y:=by show ak [0]+y*(ak [1]+y*0)=y;rw[HM,sC];grind
theorem Fw(y x:ah p):∀n:Nat,CH y (x ^ n)=CH y x ^ n
 |0=>KC y 1
 |n+1=>by rw[n?,Fu,Fw y x n,n?]
def xO(y:ah p):Nat->ah p
 |0=>1
 |n+1=>xO y n*(y-ak [(n:Int)])
theorem O2(y:ah p):∀n:Nat,CH y (xO Xp n)=xO y n
 |0=>KC y 1
 |n+1=>by show CH y (xO Xp n*(Xp-ak [(n:Int)]))=xO y n*(y-ak [(n:Int)]);rw[Fu,Fv,O2 y n,O1,KC]
theorem NW(h:dD p=true)(y:ah p)(n:Nat):∃z,y ^ p.toNat-y=(y-ak [(n:Int)])*z:=by
 have hr:=au h;obtain⟨m,hm⟩:∃m:Nat,p.toNat=m+1:=⟨p.toNat-1,⋯⟩
 have e:=DM h (y-ak [(n:Int)]) (ak [(n:Int)]);rw[vG h,show y-ak [(n:Int)]+ak [(n:Int)]=y by grind,hm,n? (y-_)]at e;refine⟨(y-ak [(n:Int)]) ^ m-1,?_⟩;rw[hm,e];generalize (y-ak [(n:Int)]) ^ m=w
 grind
theorem NX(hp:dD p=true)(y:ah p){a b:Nat}(ab:a<b)(bp:(b:Int)<p):b? (y-ak [(a:Int)]) (y-ak [(b:Int)]):=by
 have dz:0<p:=⋯
 revert y;refine dc λB=>?_;have:=B! hp (B:=B) (G:=jF p B [(a:Int)]) (H:=jF p B [(b:Int)]) (a:=(a:Int)) (b:=(b:Int)) (x:=1) (y:=1) ⋯ ⋯ bp (by grind) (by grind);rw[qp dz,qp dz]at this;exact this
theorem KD(hp:dD p=true)(y:ah p){b:Nat}(bp:(b:Int)<p):∀n:Nat,n<=b->b? (y-ak [(b:Int)]) (xO y n)
 |0,_=>b?.one
 |n+1,h=>(KD hp y bp n ⋯).mul (NX hp y ⋯ bp).symm
theorem KG(hp:dD p=true)(y:ah p):∀n:Nat,(n:Int)<=p->∃z,y ^ p.toNat-y=xO y n*z
 |0,_=>⟨y ^ p.toNat-y,by show _=1*_;grind⟩
 |n+1,h=>by
  obtain⟨z,hz⟩:=KG hp y n ⋯;obtain⟨w,hw⟩:=NW hp y n;obtain⟨u,v,e⟩:=KD hp y (b:=n) ⋯ n (Vt _);refine⟨u*z+v*w,?_⟩;show _=xO y n*(y-ak [(n:Int)])*_;generalize y ^ p.toNat-y=Y at hz hw⊢;generalize y-ak [(n:Int)]=d at hw e⊢;generalize xO y n=s at hz e⊢
  grind
theorem d8.mul(hp:0<p){A:_h}(hA:d8 p A)(hB:d8 p B):∃C,d8 p C/\C.length+1=A.length+B.length/\(ak C:ah p)=ak A*ak B:=by
 have e:=Fh hp A B;have r:=JK hp A B;have n:ow p A B≠[]:=λz=>by
  rw[z]at e;have z0:(ak []:ah p)=0:=fV λk=>by rw[cz];exact(jh k).symm
  have:=hA.cancel hp (ak B) (ak []) (by rw[<-e,z0];grind);exact hB.ne (lx hp hB.row (Row.nil p) this)
 obtain⟨_,l,t⟩:=nI hp r n hA.row hB.ne hB.l1 (vx hp A B);exact⟨_,⟨r,n,t.trans hA.l1⟩,l,e⟩
theorem oP(hp:0<p){G:_h}(hG:d8 p G){l:_h}(hl:l.length<G.length){x:ah p}(e:ak l=ak G*x):(ak l:ah p)=0:=by have hc:=gN (l.map (·.fmod p));rw[Vg]at hc;have el:=mk_eq (Row.cg hp l);obtain⟨b,_,rfl⟩:=DK hp x;have:=kE hp (x:=b) (Row.of hp l) hG.ne hG.l1 ⋯ ((ug (el.trans (e.trans (bR _ _)))).trans (aQ.of_eq (aV b G)));rw[<-el,this];exact fV λk=>by rw[cz];exact(jh k).symm
theorem KH(hp:2<=p):∀n:Nat,∃C,d8 p C/\C.length=n+1/\ak C=xO (Xp:ah p) n
 |0=>⟨[1],⟨nC hp,by simp,rfl⟩,rfl,rfl⟩
 |n+1=>by
  obtain⟨C,hC,lC,eC⟩:=KH hp n;have hc:=rX (p:=p) ⋯ (-(n:Int));have hX:d8 p [(-(n:Int)).fmod p,1]:=⟨⟨rfl,λa m=>by
   rcases VX.mp m with rfl|m
   .exact hc
   .rw[Vz.mp m];lia⟩,by simp,rfl⟩
  obtain⟨D,hD,lD,eD⟩:=hC.mul ⋯ hX;refine⟨D,hD,by rw[show[(-(n:Int)).fmod p,1].length=2 from rfl]at lD;lia,?_⟩;show _=xO Xp n*(Xp-ak [(n:Int)]);rw[eD,eC,ji,sC,Ky (Cg.mod ⋯ (-(n:Int))),O0]
  grind
theorem NY(l:_h)(c:Int):(ak (l++[c]):ah p)=ak l+ak [c]*Xp ^ l.length:=by
 induction l with
 |nil=>
  have z0:(ak []:ah p)=0:=fV λk=>by rw[cz];exact(jh k).symm
  rw[z0];show ak [c]=0+ak [c]*1;grind
 |cons a l ih=>
  rw[VD,ji,ih,ji a l,Vi,n?];generalize (Xp:ah p) ^ l.length=w
  grind
theorem pI(l:_h)(c:Int):aM (l++[c])=c:=by unfold aM;rw[Vj,VA];simp
theorem B?:∀a b:_h,(nE a b).length<=max a.length b.length
 |[],b=>by show b.length<=_;lia
 |a::l,[]=>by show(a::l).length<=_;lia
 |x::a,z::b=>by show((x+z)::nE a b).length<=_;have:=B? a b;rw[Vi,Vi,Vi];lia
theorem piX(hp:dD p=true):(Xp:ah p) ^ p.toNat-Xp=xO Xp p.toNat:=by
 have hr:=au hp;obtain⟨z,hz⟩:=KG hp (Xp:ah p) p.toNat ⋯;obtain⟨C,hC,lC,eC⟩:=KH (p:=p) ⋯ p.toNat;obtain⟨l,c,hd⟩:=(YL C).resolve_left hC.ne;rw[YM]at hd;have c1:c=1:=by have:=hC.l1;rw[hd,pI]at this;exact this
 have ll:l.length=p.toNat:=by rw[hd,Vj,VO]at lC;lia
 have e1:=NY (p:=p) l c;rw[<-hd,c1,ll,sC,eC]at e1;have ha:=B? l [0,1];rw[show[(0:Int),1].length=2 from rfl]at ha;have low:=oP (p:=p) ⋯ hC (l:=nE l [0,1]) (x:=1-z) ⋯ (by
  rw[<-sS,eC];show ak l+Xp=_;generalize (Xp:ah p) ^ p.toNat=w at hz e1
  grind)
 rw[<-sS]at low;have:(ak l:ah p)+Xp=0:=low;generalize (Xp:ah p) ^ p.toNat=w at hz e1⊢
 grind
theorem O3(hp:dD p=true)(y:ah p):y ^ p.toNat-y=xO y p.toNat:=by have:=WE (CH y) (piX (p:=p) hp);rw[Fv,Fw,O1,O2]at this;exact this
theorem DW:(ak []:ah p)=0:=fV λk=>by rw[cz];exact(jh k).symm
theorem aaH(hp:2<=p):d8 p [1]:=⟨nC hp,by simp,rfl⟩
theorem pJ(hp:0<p){A C:_h}(hA:d8 p A)(hC:d8 p C){w:ah p}(e:ak A=ak C*w):∃Q,d8 p Q/\w=ak Q/\A.length+1=Q.length+C.length:=by obtain⟨Q,hQ,rfl⟩:=DK hp w;obtain⟨n,l,t⟩:=nI hp hA.row hA.ne hQ hC.ne hC.l1 ((ug (e.trans (bR _ _))).trans (aQ.of_eq (aV Q C)));exact⟨Q,⟨hQ,n,t.symm.trans hA.l1⟩,rfl,l⟩
theorem Fx{A:_h}(h:d8 p A):A=[1]\/2<=A.length:=by
 have:=VC.mpr h.ne;by_cases l:A.length=1
 .exact .inl (sM h l)
 .exact .inr ⋯
theorem KI(hp:0<p){A C:_h}(hA:d8 p A)(hC:d8 p C){w:ah p}(e:ak A=ak C*w)(l:A.length<=C.length):A=C:=by obtain⟨Q,hQ,rfl,lQ⟩:=pJ hp hA hC e;have:=VC.mpr hQ.ne;rw[sM hQ ⋯,sC]at e;exact lx hp hA.row hC.row (by rw[e];grind)
theorem Sj(hp:0<p){A C:_h}(hA:d8 p A)(hC:d8 p C){w t:ah p}(e1:ak A=ak C*w)(e2:ak C=ak A*t):A=C:=by obtain⟨Q,hQ,_,lQ⟩:=pJ hp hC hA e2;have:=VC.mpr hQ.ne;exact KI hp hA hC e1 ⋯
theorem vK:∀a b:List (_h),(qC (a++b):ah p)=qC a*qC b
 |[],b=>by show qC b=1*qC b;grind
 |G::a,b=>by show ak G*qC (a++b)=ak G*qC a*qC b;rw[vK a b];grind
theorem Fy(hp:2<=p):∀{l:List (_h)},(∀G∈l,d8 p G/\2<=G.length)->∃C,d8 p C/\(ak C:ah p)=qC l
 |[],_=>⟨[1],aaH hp,rfl⟩
 |G::l,h=>by obtain⟨C,hC,e⟩:=Fy hp λH m=>h H (Vx _ m);obtain⟨D,hD,_,e'⟩:=(h G Vu).1.mul ⋯ hC;exact⟨D,hD,by rw[e',e];rfl⟩
structure Bb(p:Int)(G:_h):Prop where
 mn:d8 p G
 l2:2<=G.length
 ir:∀A B,d8 p A->d8 p B->(ak G:ah p)=ak A*ak B->A=[1]\/B=[1]
theorem Bb.KJ(hp:dD p=true){G A:_h}(h:Bb p G)(hA:Row p A)(lG:G.length<=5000)(lA:A.length<=5000):b? (ak G:ah p) (ak A)\/∃x:ah p,ak A=ak G*x:=by
 have dz:0<p:=by have:=au hp;lia
 obtain⟨D,g⟩:=AF hp h.mn.row hA h.mn.ne lG lA;obtain⟨mD,d1,d2,u,v,b⟩:=j' g;obtain⟨Q,hQ,eQ,_⟩:=pJ dz h.mn mD d1;rw[eQ]at d1;rcases h.ir D Q mD hQ d1 with z|z
 .exact .inl ⟨u,v,by rw[<-b,z,sC]⟩
 .exact .inr ⟨ak (bU p A D),by rw[d1,z,sC,d2];grind⟩
theorem Bb.no1(hp:2<=p){G:_h}(h:Bb p G){x:ah p}(e:1=ak G*x):False:=by have:=h.l2;rw[jv hp h.mn e.symm]at this;exact absurd this ⋯
theorem Bb.num(hp:dD p=true){G W:_h}(h:Bb p G)(hW:Row p W)(lG:G.length<=5000)(lW:W.length<=5000){z:ah p}(e:(ak W:ah p) ^ p.toNat-ak W=ak G*z):∃s:Nat,(s:Int)<p/\∃z:ah p,ak W-ak [(s:Int)]=ak G*z:=by
 have hr:=au hp;have dz:0<p:=⋯
 rw[O3 hp]at e;have key:∀(n:Nat)(z:ah p),(n:Int)<=p->xO (ak W) n=ak G*z->∃s:Nat,(s:Int)<p/\∃z:ah p,ak W-ak [(s:Int)]=ak G*z:=by
  intro n
  induction n with
  |zero=>intro z _ e;exact(h.no1 ⋯ e).elim
  |succ n ih=>
   intro z hn e;have e:xO (ak W) n*(ak W-ak [(n:Int)])=ak G*z:=e;have hl:=rE p W [(n:Int)];rw[VO]at hl;rcases h.KJ hp (A:=jF p W [(n:Int)]) (Row.of dz _) lG ⋯with c|⟨x,c⟩
   .rw[qp dz]at c;obtain⟨u,v,c⟩:=c;refine ih (u*xO (ak W) n+v*z) ⋯ ?_;generalize (xO (ak W) n:ah p)=S at e⊢
    grind
   .rw[qp dz]at c;exact⟨n,⋯,x,c⟩
 exact key p.toNat z ⋯ e
theorem Sk(hp:2<=p):¬ (1:ah p)=0:=λe=>by have:=lx ⋯ (nC hp) (Row.nil p) (by rw[sC,DW,e]);cases this
theorem KL(hp:dD p=true){G:_h}(hG:d8 p G)(l2:2<=G.length)(sq:b? (ak G:ah p) (dP (ak G)))(hc:∀w:ah p,(∃z,w ^ p.toNat-w=ak G*z)->∃(c:Int)(z:ah p),w-ak [c]=ak G*z):Bb p G:=by
 have hr:=au hp;have dz:0<p:=⋯
 refine⟨hG,l2,λA B hA hB e=>?_⟩;rcases Fx hA with z|lA
 .exact .inl z
 rcases Fx hB with z|lB
 .exact .inr z
 exfalso;rw[e]at sq;obtain⟨x,y,c⟩:=(SA.rK j_ sq).1;obtain⟨P,hP⟩:∃P,p.toNat=P+1:=⟨p.toNat-1,⋯⟩
 have key:∀n:Nat,∃z:ah p,(x*ak A) ^ (n+1)-x*ak A=ak G*z:=by
  intro n
  induction n with
  |zero=>exact⟨0,by rw[n?,uj];grind⟩
  |succ n ih=>
   obtain⟨z,ih⟩:=ih;rw[n?];generalize (x*ak A) ^ (n+1)=w at ih⊢;exact⟨x*ak A*z-x*y,by grind⟩
 obtain⟨c',z,h⟩:=hc (x*ak A) (by rw[hP];exact key P);have z1:(ak [c']:ah p)=0:=oP dz hA (x:=x-ak B*z) (by rw[VO];lia) (by grind);have z2:(ak [1]:ah p)=0:=oP dz hB (x:=y+ak A*z) (by rw[VO];lia) (by rw[sC];grind);exact Sk ⋯ z2
theorem DX(a b:ah p)(n:Nat):∃z,(a*b) ^ (n+1)=a*z:=⟨b*(a*b) ^ n,by rw[n?];generalize (a*b) ^ n=w;grind⟩
theorem KN(hp:dD p=true){f g h:ah p}(ef:f=g*h)(c:b? g h)(hs:∀w:ah p,(∃z,w ^ p.toNat-w=f*z)->∃(c:Int)(z:ah p),w-ak [c]=g*z)(w:ah p)(hw:∃z,w ^ p.toNat-w=g*z):∃(c:Int)(z:ah p),w-ak [c]=g*z:=by
 have hr:=au hp;obtain⟨P,hP⟩:∃P,p.toNat=P+1:=⟨p.toNat-1,⋯⟩
 obtain⟨x,y,c⟩:=c;obtain⟨z0,hw⟩:=hw;have e1:h*(w*y)=w+g*(-(w*x)):=by grind
 have f1:=DM hp w (g*(-(w*x)));rw[<-e1]at f1;obtain⟨z1,e2⟩:=DX g (-(w*x)) P;obtain⟨z2,e3⟩:=DX h (w*y) P;rw[<-hP]at e2 e3;rw[e2]at f1;obtain⟨c',z,e4⟩:=hs (h*(w*y)) ⟨x*(z2-w*y)+y*(z0+z1+w*x),by
  generalize (h*(w*y)) ^ p.toNat=V at f1 e3⊢;generalize w ^ p.toNat=U at f1 hw
  grind⟩
 exact⟨c',z+w*x,by clear f1 e2 e3 hw hs c;grind⟩
section
variable{w:Nat}
structure pU(p:Int)(w:Nat)(R:_h):Prop where
 l:R.length=w
 r:∀x∈R,0<=x/\x<p
theorem pU.A?(hp:0<p)(h:pU p w R)(k:Nat):0<=cf R k/\cf R k<p:=by
 by_cases hk:k<R.length
 .have:cf R k=R[k]:=by unfold cf;exact SO.Lu 0 hk
  rw[this];exact h.r _ (Xl hk)
 .rw[dH ⋯];lia
def lH(p:Int)(T:_h)(j:Nat)(R:_h):_h:=(R.zip T).map λq=>(q.1-cf R j*q.2).fmod p
def Ca(p t:Int)(R:_h):_h:=R.map λi=>(i*t).fmod p
theorem AJ(p:Int):(0:Int).fmod p=0:=by simp
theorem DY{T:_h}(h:R.length=T.length)(j k:Nat):cf (lH p T j R) k=(cf R k-cf R j*cf T k).fmod p:=by
 unfold lH;by_cases hk:k<R.length
 .unfold cf;rw[SO.Lu 0 (by rw[Vg,Xh];lia),XR,List.getElem_zip,SO.Lu 0 hk,SO.Lu (l:=T) 0 ⋯]
 .rw[dH (by rw[Vg,Xh];lia),dH (ns:=R) ⋯,dH (ns:=T) ⋯,Wi,YN,AJ]
theorem DZ(t:Int)(R:_h)(k:Nat):cf (Ca p t R) k=(cf R k*t).fmod p:=qg (λi=>(i*t).fmod p) (by show((0:Int)*t).fmod p=0;rw[Wy,AJ]) R k
theorem KO(hp:0<p){T:_h}(hR:pU p w R)(hT:T.length=w)(j:Nat):pU p w (lH p T j R):=⟨by unfold lH;rw[Vg,Xh,hR.l,hT,YJ],λx m=>by
 unfold lH at m;obtain⟨q,_,rfl⟩:=VN.mp m;exact rX hp _⟩
theorem Sl(hp:0<p)(hR:R.length=w)(t:Int):pU p w (Ca p t R):=⟨by unfold Ca;rw[Vg,hR],λx m=>by
 unfold Ca at m;obtain⟨q,_,rfl⟩:=VN.mp m;exact rX hp _⟩
theorem D0(hp:0<p){T:_h}(h:R.length=T.length)(j:Nat):aQ p (cf (lH p T j R)) (λk=>cf R k + -(cf R j)*cf T k):=λk=>by rw[DY h];exact(Cg.mod hp _).trans ⟨0,by grind⟩
theorem D2(hp:0<p)(t:Int)(R:_h):aQ p (cf (Ca p t R)) (λk=>t*cf R k):=λk=>by rw[DZ,WY];exact Cg.mod hp _
structure EF(p:Int)(P:Cf->Prop):Prop where
 cg:∀f g,aQ p f g->P f->P g
 z:P λ_=>0
 Tf:∀f g c,P f->P g->P λk=>f k+c*g k
theorem EF.smul{P:Cf->Prop}(h:EF p P){f:Cf}(hf:P f)(c:Int):P λk=>c*f k:=h.cg _ _ (aQ.of_eq λk=>by rw[W5]) (h.Tf _ f c h.z hf)
def kf:List (Int×List Int)->Cf
 |[]=>λ_=>0
 |q::l=>λk=>q.1*cf q.2 k+kf l k
def O4(p:Int)(rows:List (_h)):Prop:=∀ps:List (Int×List Int),ps.map (·.2)=rows->aQ p (kf ps) (λ_=>0)->∀q∈ps,Cg p q.1 0
theorem Ho{a b:List (Int×List Int)}(h:a.Perm b):∀k,kf a k=kf b k:=by
 induction h with
 |nil=>exact λ_=>rfl
 |cons x _ ih=>intro k;show _+_=_+_;rw[ih]
 |swap x y l=>intro k;show _+(_+_)=_+(_+_);lia
 |trans _ _ h1 h2=>exact λk=>(h1 k).trans (h2 k)
theorem O4.perm{a b:List (_h)}(h:O4 p a)(e:a.Perm b):O4 p b:=λps hb hz q mq=>by obtain⟨T,pT,eT⟩:=L2.s_ (g:=λq:Int×List Int=>q.2) e ps hb;exact h T eT ((aQ.of_eq (Ho pT)).trans hz) q (pT.mem_iff.mpr mq)
structure uN(p:Int)(w j:Nat)(R0 T:_h)(t:Int):Prop where
 r0:pU p w R0
 tt:(t*cf R0 j) % p=1
 eT:T=Ca p t R0
theorem Hq{a:Int}(hp:0<p):a.fmod p=a % p:=Y_ a ⋯
section
variable{j:Nat}{T:_h}{t:Int}
theorem uN.Sn(hp:0<p)(h:uN p w j R0 T t):pU p w T:=by rw[h.eT];exact Sl hp h.r0.l t
theorem uN.one(hp:0<p)(h:uN p w j R0 T t):cf T j=1:=by rw[h.eT,DZ,WY,Hq hp,h.tt]
theorem uN.zero(h:uN p w j R0 T t){k:Nat}(z:cf R0 k=0):cf T k=0:=by rw[h.eT,DZ,z,Wy,AJ]
theorem uN.aaI(hp:0<p)(h:uN p w j R0 T t)(hR:pU p w R):cf (lH p T j R) j=0:=by rw[DY (by rw[hR.l,(h.Sn hp).l]),h.one hp,Xa,Int.sub_self,AJ]
theorem uN.aaJ(hp:0<p)(h:uN p w j R0 T t)(hR:pU p w R){k:Nat}(z:cf R0 k=0):cf (lH p T j R) k=cf R k:=by rw[DY (by rw[hR.l,(h.Sn hp).l]),h.zero z,Wi,YN,fe (hR.A? hp k).1 (hR.A? hp k).2]
theorem uN.fw(hp:0<p)(h:uN p w j R0 T t){P:Cf->Prop}(C:EF p P)(a:P (cf R0)):P (cf T):=by rw[h.eT];exact C.cg _ _ (D2 hp t R0).symm (C.smul a t)
theorem uN.fwR(hp:0<p)(h:uN p w j R0 T t){P:Cf->Prop}(C:EF p P)(a:P (cf R0))(hR:pU p w R)(b:P (cf R)):P (cf (lH p T j R)):=
 C.cg _ _ (D0 hp (by rw[hR.l,(h.Sn hp).l]) j).symm (C.Tf _ _ _ b (h.fw hp C a))
theorem uN.bw(hp:0<p)(h:uN p w j R0 T t){P:Cf->Prop}(C:EF p P)(a:P (cf T)):P (cf R0):=by refine C.cg _ _ ?_ (C.smul a (cf R0 j));intro k;have:=(D2 hp t R0 k).yb (cf R0 j);rw[<-h.eT]at this;have e:=Wb (t*cf R0 j) p;rw[h.tt]at e;generalize t*cf R0 j / p=u at e;exact this.trans ⟨u*cf R0 k,by grind⟩
theorem uN.bwR(hp:0<p)(h:uN p w j R0 T t){P:Cf->Prop}(C:EF p P)(a:P (cf T))(hR:pU p w R)(b:P (cf (lH p T j R))):P (cf R):=
 C.cg _ _ (λk=>by
  have:=(D0 hp (T:=T) (R:=R) (by rw[hR.l,(h.Sn hp).l]) j k).add (Cg.refl p (cf R j*cf T k));exact this.trans ⟨0,by grind⟩) (C.Tf _ _ (cf R j) b a)
theorem uN.sum(hp:0<p)(h:uN p w j R0 T t):∀{M:List (_h)},(∀R∈M,pU p w R)->∀{ps:List (Int×List Int)},ps.map (·.2)=M.map (lH p T j)->∃(qs:List (Int×List Int))(s:Int),qs.map (·.2)=M/\qs.map (·.1)=ps.map (·.1)/\(∀k,Cg p (kf ps k) (kf qs k + -s*cf T k))/\((∀q∈qs,Cg p q.1 0)->Cg p s 0)
 |[],_,ps,e=>by
  cases ps with
  |nil=>exact⟨[],0,rfl,rfl,λk=>⟨0,by show(0:Int)=0 + -0*cf T k+p*0;simp⟩,λ_=>Cg.refl _ _⟩
  |cons q l=>cases e
 |R::M,hM,ps,e=>by
  cases ps with
  |nil=>cases e
  |cons q ps=>
   obtain⟨e1,e2⟩:=WT e;have hR:=hM R Vu;obtain⟨qs,s,a1,a2,a3,a4⟩:=uN.sum hp h (λx m=>hM x (Vx _ m)) e2;refine⟨(q.1,R)::qs,s+q.1*cf R j,by rw[Vm,a1],by rw[Vm,Vm,a2],λk=>?_,λhz=>?_⟩
   .show Cg p (q.1*cf q.2 k+kf ps k) (q.1*cf R k+kf qs k+_);rw[show q.2=lH p T j R from e1];have b:=(D0 hp (T:=T) (R:=R) (by rw[hR.l,(h.Sn hp).l]) j k).yb q.1;refine(b.add (a3 k)).trans ⟨0,?_⟩;rw[Xf,Int.neg_add,Yo,XY,XZ,XY,XY,Wj];lia
   .have z1:=a4 λx m=>hz x (Vx _ m);have z2:=(hz (q.1,R) Vu).BM (cf R j);have:=z1.add z2;rw[Wy,WQ]at this;exact this
theorem uN.ind(hp:0<p)(h:uN p w j R0 T t){M:List (_h)}(hM:∀R∈M,pU p w R)(I:O4 p (R0::M)):O4 p (T::M.map (lH p T j)):=by
 intro ps e hz;cases ps with
 |nil=>cases e
 |cons q ps=>
  obtain⟨e1,e2⟩:=WT e;obtain⟨qs,s,a1,a2,a3,a4⟩:=h.sum hp hM e2;have key:=I (((q.1-s)*t,R0)::qs) (by rw[Vm,a1]) (λk=>by
   have z:=hz k;refine Cg.trans ?_ z;show Cg p ((q.1-s)*t*cf R0 k+kf qs k) (q.1*cf q.2 k+kf ps k);rw[show q.2=T from e1];have b:=(D2 hp t R0 k).yb (q.1-s);rw[<-h.eT]at b;have c:=(b.add (a3 k)).symm;rw[<-Wj]at c;obtain⟨x,hx⟩:=c;exact⟨x,by grind⟩)
  have zq:∀x∈qs,Cg p x.1 0:=λx m=>key x (Vx _ m);have zs:=a4 zq;intro x mx;rcases VX.mp mx with rfl|mx
  .have z:=(key _ Vu).BM (cf R0 j);rw[Wy,Wj]at z;have e:=Wb (t*cf R0 j) p;rw[h.tt]at e;have z2:Cg p (x.1-s) 0:=by refine Cg.trans ?_ z;show Cg p (x.1-s) ((x.1-s)*(t*cf R0 j));generalize t*cf R0 j / p=u at e;exact⟨-((x.1-s)*u),by grind⟩
   have:=z2.add zs;rw[Int.sub_add_cancel,WQ]at this;exact this
  .obtain⟨i,hi⟩:=W4 mx;have:(qs.map (·.1))[i]?=some x.1:=by rw[a2,Vy,hi];rfl
   rw[Vy]at this;obtain⟨y,hy,ey⟩:=Wr.mp this;rw[<-ey];exact zq y (V_ hy)
end
end
section
variable{w j:Nat}{D L O:List (_h)}{T:_h}{t:Int}
structure GI(p:Int)(w j:Nat)(rows D L:List (_h))(cs:List Nat):Prop where
 iD:∀R∈D,pU p w R
 iL:∀R∈L,pU p w R
 cl:cs.length=D.length
 ct:D.length+L.length=rows.length
 un:∀(i k:Nat)R c,D[i]?=some R->cs[k]?=some c->cf R c=if i=k then 1 else 0
 zl:∀R∈L,∀k<j,cf R k=0
 cj:∀c∈cs,c<j
 eqv:∀P,EF p P->((∀R∈rows,P (cf R))↔∀R∈D++L,P (cf R))
 ind:O4 p rows->O4 p (D++L)
theorem GI.start(h:∀R∈rows,pU p w R):GI p w 0 rows [] rows []:=⟨(λ_ m=>by cases m),h,rfl,VZ _,(λ_ _ _ _ e=>by cases e),(λ_ _ _ hk=>absurd hk (Y2 _)),(λ_ m=>by cases m),λ_ _=>Iff.rfl,λh=>h⟩
theorem GI.skip(h:GI p w j rows D L cs)(z:∀R∈L,cf R j=0):GI p w (j+1) rows D L cs:={h with
 zl:=λR m k hk=>by
  rcases Wx k j with q|q
  .exact h.zl R m k q
  .rw[show k=j by lia];exact z R m
 cj:=λc m=>XN (h.cj c m)}
theorem GI.step(hp:0<p)(h:GI p w j rows D L cs)(S:uN p w j R0 T t)(pe:L.Perm (R0::O)):GI p w (j+1) rows (D.map (lH p T j)++[T]) (O.map (lH p T j)) (cs++[j]):=by
 have m0:R0∈L:=pe.mem_iff.mpr Vu;have mO:∀R∈O,R∈L:=λR m=>pe.mem_iff.mpr (Vx _ m);have iT:=S.Sn hp;have pl:=pe.length_eq;rw[Vi]at pl;refine⟨λR m=>?_,λR m=>?_,by rw[Vj,Vj,Vg,h.cl];rfl,by rw[Vj,Vg,Vg,<-h.ct,pl,VO];lia,λi k R c hi hk=>?_,λR m k hk=>?_,λc m=>?_,λP C=>?_,λI=>?_⟩
 .rcases VF.mp m with m|m
  .obtain⟨Q,mQ,rfl⟩:=VN.mp m;exact KO hp (h.iD Q mQ) iT.l j
  .rw[Vz.mp m];exact iT
 .obtain⟨Q,mQ,rfl⟩:=VN.mp m;exact KO hp (h.iL Q (mO Q mQ)) iT.l j
 .have lk:k<(cs++[j]).length:=(VJ.mp hk).1;rw[Vj,VO,h.cl]at lk;have li:i<(D.map (lH p T j)++[T]).length:=(VJ.mp hi).1;rw[Vj,VO,Vg]at li;have ck:k<D.length->c<j/\cs[k]?=some c:=λq=>by rw[V3 (by rw[h.cl];exact q)]at hk;exact⟨h.cj c (V_ hk),hk⟩
  have ck2:k=D.length->c=j:=λq=>by rw[V2 (by rw[h.cl];lia),h.cl,q,W3]at hk;exact(VP hk).symm
  by_cases qi:i<D.length
  .rw[V3 (by rw[Vg];exact qi),Vy]at hi;obtain⟨Q,hQ,rfl⟩:=Wr.mp hi;have iQ:=h.iD Q (V_ hQ);by_cases qk:k<D.length
   .obtain⟨a,b⟩:=ck qk;rw[S.aaJ hp iQ (h.zl R0 m0 c a)];exact h.un i k Q c hQ b
   .rw[ck2 ⋯,S.aaI hp iQ,VG ⋯]
  .rw[V2 (by rw[Vg];lia),Vg,show i-D.length=0 by lia]at hi;rw[<-show T=R from VP hi];by_cases qk:k<D.length
   .rw[S.zero (h.zl R0 m0 c (ck qk).1),VG ⋯]
   .rw[ck2 ⋯,S.one hp,Vv ⋯]
 .obtain⟨Q,mQ,rfl⟩:=VN.mp m;have iQ:=h.iL Q (mO Q mQ);rcases Wx k j with q|q
  .rw[S.aaJ hp iQ (h.zl R0 m0 k q)];exact h.zl Q (mO Q mQ) k q
  .rw[show k=j by lia];exact S.aaI hp iQ
 .rcases VF.mp m with m|m
  .exact XN (h.cj c m)
  .rw[Vz.mp m];exact X? _
 .refine(h.eqv P C).trans ⟨λa R m=>?_,λa=>?_⟩
  .have a0:=a R0 (VQ _ m0);rcases VF.mp m with m|m
   .rcases VF.mp m with m|m
    .obtain⟨Q,mQ,rfl⟩:=VN.mp m;exact S.fwR hp C a0 (h.iD Q mQ) (a Q (We _ mQ))
    .rw[Vz.mp m];exact S.fw hp C a0
   .obtain⟨Q,mQ,rfl⟩:=VN.mp m;exact S.fwR hp C a0 (h.iL Q (mO Q mQ)) (a Q (VQ _ (mO Q mQ)))
  .have aT:P (cf T):=a T (We _ (VQ _ (Vz.mpr rfl)));intro R m;rcases VF.mp m with m|m
   .exact S.bwR hp C aT (h.iD R m) (a _ (We _ (We _ (VV m))))
   .rcases VX.mp (pe.mem_iff.mp m)with rfl|m
    .exact S.bw hp C aT
    .exact S.bwR hp C aT (h.iL R (mO R m)) (a _ (VQ _ (VV m)))
 .have I1:=(h.ind I).perm (show(D++L).Perm (R0::(D++O)) from(pe.append_left D).trans Yt);have I2:=S.ind hp (λR m=>by
   rcases VF.mp m with m|m
   .exact h.iD R m
   .exact h.iL R (mO R m)) I1
  refine I2.perm ?_;rw[VS,VY];exact Yt.symm
def xP:List (_h)->Cf->ah p
 |[],_=>0
 |m::ms,f=>ak [f 0]*ak m+xP ms λi=>f (i+1)
theorem FA(f g:Cf)(c:Int):∀ms:List (_h),∀f g:Cf,(xP ms (λk=>f k+c*g k):ah p)=xP ms f+ak [c]*xP ms g
 |[],f,g=>by show(0:ah p)=0+ak [c]*0;grind
 |m::ms,f,g=>by
  show ak [f 0+c*g 0]*ak m+xP ms (λi=>f (i+1)+c*g (i+1))=_;rw[FA f g c ms (λi=>f (i+1)) (λi=>g (i+1)),jP,Fs];show _=(ak [f 0]*ak m+_)+ak [c]*(ak [g 0]*ak m+_)
  grind
theorem oQ:∀(ms:List (_h)){f g:Cf},aQ p f g->(xP ms f:ah p)=xP ms g
 |[],_,_,_=>rfl
 |m::ms,f,g,h=>by show ak [f 0]*ak m+xP ms _=ak [g 0]*ak m+xP ms _;rw[Ky (h 0),oQ ms (f:=λi=>f (i+1)) (g:=λi=>g (i+1)) λk=>h (k+1)]
theorem KP:∀(ms:List (_h)),(xP ms (λ_=>0):ah p)=0
 |[]=>rfl
 |m::ms=>by show ak [0]*ak m+xP ms (λ_=>0)=0;rw[KP ms,HM];grind
theorem FC:∀(ms:List (_h))(k:Nat){m:_h},ms[k]?=some m->(xP ms (λi=>if i=k then 1 else 0):ah p)=ak m
 |x::ms,0,m,e=>by cases e;show ak [1]*ak x+xP ms (λi=>if i+1=0 then 1 else 0)=ak x;rw[oQ ms (g:=λ_=>0) (aQ.of_eq λi=>VG ⋯),KP,sC];grind
 |x::ms,k+1,m,e=>by show ak [if 0=k+1 then 1 else 0]*ak x+xP ms (λi=>if i+1=k+1 then 1 else 0)=ak m;rw[oQ ms (g:=λi=>if i=k then 1 else 0) (aQ.of_eq λi=>by simp),FC ms k e,VG ⋯,HM];grind
def ye(W:Nat)(f:Cf):_h:=(List.range W).map f
theorem oR(W:Nat)(f:Cf)(k:Nat):cf (ye W f) k=if k<W then f k else 0:=by
 unfold ye;by_cases h:k<W
 .unfold cf;rw[Vv h,SO.Lu 0 (by rw[Vg,VU];exact h),XR,YE]
 .rw[VG h,dH (by rw[Vg,VU];lia)]
theorem AK(W:Nat)(f g:Cf)(c:Int):(ak (ye W λk=>f k+c*g k):ah p)=ak (ye W f)+ak [c]*ak (ye W g):=fV λk=>by
 rw[de,aV,rL,oR,oR,oR];by_cases h:k<W
 .rw[Vv h,Vv h,Vv h]
 .rw[VG h,VG h,VG h];simp
theorem oS(W:Nat){f g:Cf}(h:∀k<W,Cg p (f k) (g k)):(ak (ye W f):ah p)=ak (ye W g):=mk_eq λk=>by
 rw[oR,oR];by_cases q:k<W
 .rw[Vv q,Vv q];exact h k q
 .rw[VG q,VG q];exact Cg.refl _ _
theorem rZ{W:Nat}{m:_h}(h:m.length<=W):(ak (ye W (cf m)):ah p)=ak m:=fV λk=>by
 rw[oR];by_cases q:k<W
 .rw[Vv q]
 .rw[VG q,dH ⋯]
theorem FD(W:Nat):(ak (ye W λ_=>0):ah p)=0:=by rw[<-DW];exact fV λk=>by rw[oR,cz];split<;>rfl
theorem AL(R:_h)(W i:Nat):cf (R.drop W) i=cf R (W+i):=by unfold cf;rw[VA,VA,Ye]
structure Wu(W:Nat)(ms rows:List (_h)):Prop where
 n:rows.length=ms.length
 w:∀m∈ms,m.length=W
 a:∀(k:Nat)R m,rows[k]?=some R->ms[k]?=some m->(∀j<W,cf R j=cf m j)/\∀i,cf R (W+i)=if i=k then 1 else 0
section
variable{W:Nat}{ms:List (_h)}
theorem Wu.get(h:Wu W ms rows)(m:R∈rows):∃(k:Nat)(x:_h),rows[k]?=some R/\ms[k]?=some x:=by obtain⟨k,hk⟩:=W4 m;have:=(VJ.mp hk).1;exact⟨k,_,hk,Vk (by rw[<-h.n];exact this)⟩
theorem KQ(G:GI p (W+ms.length) W rows D L cs)(U:Wu W ms rows)(m:R∈L):(xP ms (cf (R.drop W)):ah p)=0:=by
 have key:=(G.eqv (λf=>(xP ms (λi=>f (W+i)):ah p)=ak (ye W f)) ⟨λf g e h=>by
   rw[<-oQ ms (λk=>e (W+k)),h];exact oS W λk _=>e k,by rw[KP,FD],λf g c h1 h2=>by
   rw[FA f g c ms (λi=>f (W+i)) (λi=>g (W+i)),h1,h2,AK]⟩).mp (λR m=>by
   obtain⟨k,x,h1,h2⟩:=U.get m;obtain⟨a,b⟩:=U.a k R x h1 h2;rw[oQ ms (g:=λi=>if i=k then 1 else 0) (aQ.of_eq b),FC ms k h2,oS W (g:=cf x) λj hj=>by rw[a j hj];exact Cg.refl _ _,rZ (Xu (U.w x (V_ h2)))]) R (VQ _ m)
 rw[oQ ms (aQ.of_eq (AL R W)),key,oS W (g:=λ_=>0) λk hk=>by rw[G.zl R m k hk];exact Cg.refl _ _,FD]
def Cb(W:Nat):List (_h)->List Nat->Cf->ah p
 |R::D,c::cs,f=>ak [f c]*ak (R.drop W)+Cb W D cs f
 |_,_,_=>0
theorem FE(W:Nat)(f g:Cf)(c:Int):∀(D:List (_h))(cs:List Nat),(Cb W D cs (λk=>f k+c*g k):ah p)=Cb W D cs f+ak [c]*Cb W D cs g
 |[],_=>by show(0:ah p)=0+ak [c]*0;grind
 |R::D,[]=>by show(0:ah p)=0+ak [c]*0;grind
 |R::D,x::cs=>by show ak [f x+c*g x]*_+Cb W D cs _=(ak [f x]*_+Cb W D cs f)+ak [c]*(ak [g x]*_+Cb W D cs g);rw[FE W f g c D cs,jP,Fs];grind
theorem xb(W:Nat){f g:Cf}:∀(D:List (_h))(cs:List Nat),(∀c∈cs,Cg p (f c) (g c))->(Cb W D cs f:ah p)=Cb W D cs g
 |[],_,_=>rfl
 |R::D,[],_=>rfl
 |R::D,x::cs,h=>by show ak [f x]*_+_=ak [g x]*_+_;rw[Ky (h x Vu),xb W D cs λc m=>h c (Vx _ m)]
theorem Cc(W:Nat):∀(D:List (_h))(cs:List Nat),(Cb W D cs (λ_=>0):ah p)=0
 |[],_=>rfl
 |R::D,[]=>rfl
 |R::D,x::cs=>by show ak [0]*_+Cb W D cs _=0;rw[Cc W D cs,HM];grind
theorem FG(W:Nat){f:Cf}:∀(D:List (_h))(cs:List Nat)(i:Nat){R:_h},cs.length=D.length->D[i]?=some R->(∀(k:Nat)c,cs[k]?=some c->f c=if i=k then 1 else 0)->(Cb W D cs f:ah p)=ak (R.drop W)
 |Q::D,c::cs,0,R,_,e,h=>by
  cases e;show ak [f c]*_+Cb W D cs f=_;rw[show f c=1 from h 0 c rfl,xb W D cs (g:=λ_=>0) λx m=>by
   obtain⟨k,hk⟩:=W4 m;rw[show f x=0 from h (k+1) x hk];exact Cg.refl _ _,Cc,sC]
  grind
 |Q::D,c::cs,i+1,R,l,e,h=>by
  show ak [f c]*_+Cb W D cs f=_;rw[show f c=0 from h 0 c rfl,FG W D cs i (Xg l) e λk x hk=>by
   rw[h (k+1) x hk];simp,HM]
  grind
 |[],c::cs,i,R,l,e,h=>by cases e
 |Q::D,[],i,R,l,e,h=>by cases l
def xQ:List (_h)->_h->Cf
 |R::rs,a::V=>λk=>a*cf R k+xQ rs V k
 |_,_=>λ_=>0
theorem FH{P:Cf->Prop}(C:EF p P):∀(rs:List (_h))(V:_h),(∀R∈rs,P (cf R))->P (xQ rs V)
 |[],_,_=>C.z
 |R::rs,[],_=>C.z
 |R::rs,a::V,h=>C.cg _ _ (aQ.of_eq λk=>by show xQ rs V k+a*cf R k=a*cf R k+xQ rs V k;lia) (C.Tf _ _ a (FH C rs V λQ m=>h Q (Vx _ m)) (h R Vu))
theorem Ce(W i:Nat):∀(rs:List (_h))(V:_h)(o:Nat),rs.length=V.length->(∀(k:Nat)R,rs[k]?=some R->cf R (W+i)=if i=k+o then 1 else 0)->xQ rs V (W+i)=if o<=i then cf V (i-o)else 0
 |[],[],o,_,_=>by show(0:Int)=_;rw[cz];split<;>rfl
 |R::rs,a::V,o,l,h=>by
  show a*cf R (W+i)+xQ rs V (W+i)=_;rw[Ce W i rs V (o+1) (Xg l) λk Q hk=>by rw[h (k+1) Q hk,show k+1+o=k+(o+1) by lia],h 0 R rfl,VZ];by_cases q:i=o
  .rw[Vv q,VG ⋯,Vv ⋯,q,W3];show a*1+0=a;lia
  .rw[VG q];by_cases q2:o<=i
   .rw[Vv ⋯,Vv q2,show i-o=(i-(o+1))+1 by lia,bO];lia
   .rw[VG ⋯,VG q2];lia
 |[],a::V,o,l,_=>by cases l
 |R::rs,[],o,l,_=>by cases l
theorem Ci(k:Nat):∀(rs ms:List (_h))(V:_h),rs.length=ms.length->(∀(i:Nat)R m,rs[i]?=some R->ms[i]?=some m->cf R k=cf m k)->xQ rs V k=xQ ms V k
 |[],[],V,_,_=>rfl
 |R::rs,m::ms,[],_,_=>rfl
 |R::rs,m::ms,a::V,l,h=>by show a*cf R k+xQ rs V k=a*cf m k+xQ ms V k;rw[h 0 R m rfl rfl,Ci k rs ms V (Xg l) λi Q x h1 h2=>h (i+1) Q x h1 h2]
 |[],m::ms,_,l,_=>by cases l
 |R::rs,[],_,l,_=>by cases l
theorem AM(W:Nat):∀(ms:List (_h))(V:_h),(∀m∈ms,m.length=W)->ms.length=V.length->(ak (ye W (xQ ms V)):ah p)=xP ms (cf V)
 |[],[],_,_=>FD W
 |m::ms,a::V,h,l=>by
  have e:=AK (p:=p) W (xQ ms V) (cf m) a;rw[rZ (Xu (h m Vu)),AM W ms V (λx q=>h x (Vx _ q)) (Xg l)]at e;rw[oS W (f:=xQ (m::ms) (a::V)) (g:=λk=>xQ ms V k+a*cf m k) λk _=>⟨0,by show a*cf m k+xQ ms V k=_;lia⟩,e];show _=ak [a]*ak m+xP ms (λi=>cf (a::V) (i+1));rw[oQ ms (f:=λi=>cf (a::V) (i+1)) (g:=cf V) (aQ.of_eq λk=>bO a V k)]
  grind
 |[],a::V,_,l=>by cases l
 |m::ms,[],_,l=>by cases l
structure Sub(S:ah p->Prop):Prop where
 z:S 0
 Tf:∀x y c,S x->S y->S (x+ak [c]*y)
theorem KR(G:GI p (W+ms.length) W rows D L cs)(U:Wu W ms rows){S:ah p->Prop}(hS:Sub S)(hL:∀R∈L,S (ak (R.drop W))){V:_h}(lV:V.length=ms.length)(z:(xP ms (cf V):ah p)=0):S (ak V):=by
 have dr:∀R:_h,pU p (W+ms.length) R->(ak (ye ms.length λi=>cf R (W+i)):ah p)=ak (R.drop W):=λR h=>by rw[<-rZ (W:=ms.length) (m:=R.drop W) (by rw[Xk,h.l];lia)];exact oS _ λk _=>by rw[AL];exact Cg.refl _ _
 have C:EF p λf=>S (ak (ye ms.length λi=>f (W+i))-Cb W D cs f):=⟨λf g e h=>by
   rw[<-oS ms.length (λk _=>e (W+k)),<-xb W D cs λc _=>e c];exact h,by
   rw[FD,Cc,show(0:ah p)-0=0 by grind];exact hS.z,λf g c h1 h2=>by
   rw[AK ms.length (λi=>f (W+i)) (λi=>g (W+i)),FE];exact Eq.mp (WE S (by grind)) (hS.Tf _ _ c h1 h2)⟩
 have key:=(G.eqv _ C).mpr λR m=>by
  rcases VF.mp m with m|m
  .obtain⟨i,hi⟩:=W4 m;rw[dr R (G.iD R m),FG W D cs i G.cl hi λk c hk=>G.un i k R c hi hk,show ∀x:ah p,x-x=0 from λx=>by grind];exact hS.z
  .rw[dr R (G.iL R m),xb W D cs (g:=λ_=>0) λc mc=>by rw[G.zl R m c (G.cj c mc)];exact Cg.refl _ _,Cc,show ∀x:ah p,x-0=x from λx=>by grind];exact hL R m
 have kc:=FH C rows V key;have e1:(ak (ye ms.length λi=>xQ rows V (W+i)):ah p)=ak V:=by
  rw[<-rZ (W:=ms.length) (m:=V) (Xu lV)];refine oS _ λi hi=>?_;rw[Ce W i rows V 0 (by rw[U.n,lV]) λk R hk=>by
   have:=(VJ.mp hk).1;exact(U.a k R _ hk (Vk (by rw[<-U.n];exact this))).2 i,Vv (Wd _),Zr]
  exact Cg.refl _ _
 have e2:(ak (ye W (xQ rows V)):ah p)=0:=by rw[oS W (g:=xQ ms V) λk hk=>by rw[Ci k rows ms V U.n λi R m h1 h2=>(U.a i R m h1 h2).1 k hk];exact Cg.refl _ _,AM W ms V U.w lV.symm,z]
 have e3:(Cb W D cs (xQ rows V):ah p)=0:=by
  rw[xb W D cs (g:=λ_=>0) λc mc=>by
   have:=ug (e2.trans DW.symm) c;rw[oR,Vv (G.cj c mc),cz]at this;exact this,Cc]
 have kc:S (ak (ye ms.length λi=>xQ rows V (W+i))-Cb W D cs (xQ rows V)):=kc;rw[e1,e3]at kc;rw[show(ak V:ah p)=ak V-0 by grind];exact kc
theorem So(U:Wu W ms rows):O4 p rows:=by
 intro ps e z q mq;obtain⟨k,hk⟩:=W4 mq;have lk:=(VJ.mp hk).1;have hz:=z (W+k);have gen:∀(ps:List (Int×List Int))(o i:Nat),(∀(n:Nat)R,(ps.map (·.2))[n]?=some R->cf R (W+i)=if i=n+o then 1 else 0)->kf ps (W+i)=if o<=i then((ps[i-o]?).map (·.1)).getD 0 else 0:=by
  intro ps
  induction ps with
  |nil=>intro o i _;show(0:Int)=_;split<;>simp
  |cons x l ih=>
   intro o i h;show x.1*cf x.2 (W+i)+kf l (W+i)=_;rw[ih (o+1) i λn R hn=>by rw[h (n+1) R hn,show n+1+o=n+(o+1) by lia],h 0 x.2 rfl,VZ];by_cases q:i=o
   .rw[Vv q,VG ⋯,Vv ⋯,q,W3];show x.1*1+0=x.1;lia
   .rw[VG q];by_cases q2:o<=i
    .rw[Vv ⋯,Vv q2,show i-o=(i-(o+1))+1 by lia,List.getElem?_cons_succ];lia
    .rw[VG ⋯,VG q2];lia
 rw[gen ps 0 k λn R hn=>by
  rw[e]at hn;have:=(VJ.mp hn).1;exact(U.a n R _ hn (Vk (by rw[<-U.n];exact this))).2 k,Vv (Wd _),Zr,hk]at hz
 exact hz
theorem Cj:∀(a b:List (Int×List Int))(k:Nat),kf (a++b) k=kf a k+kf b k
 |[],b,k=>by show kf b k=0+kf b k;lia
 |x::a,b,k=>by show _+kf (a++b) k=_+kf a k+kf b k;rw[Cj a b k];lia
theorem D3(k:Nat):∀M:List (_h),kf (M.map λR=>((0:Int),R)) k=0
 |[]=>rfl
 |R::M=>by show(0:Int)*_+kf (M.map λR=>((0:Int),R)) k=0;rw[D3 k M,Wy,W5]
theorem Sq(hp:2<=p)(G:GI p (W+ms.length) W rows D L cs)(U:Wu W ms rows)(m:R∈L):¬ (ak (R.drop W):ah p)=0:=λe=>by
 obtain⟨A,B,hAB⟩:=List.append_of_mem (VQ D m);have I:=G.ind (So U);have:=I (A.map (λR=>((0:Int),R))++(1,R)::B.map λR=>((0:Int),R)) (by rw[hAB,VS,Vm,V1,V1];congr 1<;>simp[Function.comp_def]) (λk=>by
  rw[Cj,D3];show Cg p (0+(1*cf R k+kf _ k)) 0;rw[D3,W5,WS,WQ];rcases Wx k W with q|q
  .rw[G.zl R m k q];exact Cg.refl _ _
  .have:=ug (e.trans DW.symm) (k-W);rw[AL,cz,show W+(k-W)=k by lia]at this;exact this) (1,R) (VQ _ Vu)
 obtain⟨x,hx⟩:=this;have hx:(1:Int)=0+p*x:=hx;have h1:p ∣ 1:=⟨x,⋯⟩
 have:=Int.le_of_dvd ⋯ h1;lia
end
end
end PG
variable {n:Nat}
namespace PG
open PySem.Spec L2 MN
open PyProof.Rows hiding St kindOf
open SA (b?)
section
variable{N:Nat}{A:_h}{ms D L:List (_h)}
theorem KS(hp:dD p=true)(hA:d8 p A)(lA:A.length=N+1)(w:ah p):∃V:_h,V.length=N/\(∀c∈V,0<=c)/\∃q,w=ak V+ak A*q:=by
 have hr:=au hp;revert w;refine dc λB=>?_;have xN:¬ aM A % p=0:=by rw[hA.l1,V9 ⋯ ⋯];lia
 obtain⟨_,r2,r3,r4,_⟩:=fM hp (as:=B) hA.ne xN;refine⟨ye N (cf (iF p B A)),by unfold ye;rw[Vg,VU],λc m=>?_,ak (bU p B A),?_⟩
 .unfold ye at m;obtain⟨k,_,rfl⟩:=VN.mp m;exact(r2.A? ⋯ k).1
 .rw[rZ ⋯,bR,wK,sS];exact mk_eq (r4.trans (aQ.of_eq λk=>by rw[de,aV];lia))
theorem pow_mod(hp:dD p=true){a v w q:ah p}(e:w=v+a*q):∃z,w ^ p.toNat-w=(v ^ p.toNat-v)+a*z:=by
 have hr:=au hp;obtain⟨P,hP⟩:∃P,p.toNat=P+1:=⟨p.toNat-1,⋯⟩
 obtain⟨z,hz⟩:=DX a q P;rw[<-hP]at hz;refine⟨z-q,?_⟩;rw[e,DM hp,hz];generalize v ^ p.toNat=u
 grind
theorem KU(hp:dD p=true){c:Int}(h:0<=c):(ak [c]:ah p) ^ p.toNat=ak [c]:=by
 obtain⟨n,rfl⟩:∃n:Nat,c=(n:Int):=⟨c.toNat,⋯⟩
 exact vG hp n
theorem vL(hp:dD p=true){a:ah p}:∀(ms:List (_h))(V:_h)(o:Nat),ms.length=V.length->(∀c∈V,0<=c)->(∀(k:Nat)m,ms[k]?=some m->∃z,ak m=(Xp ^ p.toNat) ^ (o+k)-Xp ^ (o+k)+a*z)->∃z,xP ms (cf V)=(Xp ^ p.toNat) ^ o*ak V ^ p.toNat-Xp ^ o*ak V+a*z
 |[],[],o,_,_,_=>by
  have hr:=au hp;obtain⟨P,hP⟩:∃P,p.toNat=P+1:=⟨p.toNat-1,⋯⟩
  refine⟨0,?_⟩;show(0:ah p)=_;rw[DW,hP,n? 0];generalize (Xp ^ (P+1):ah p) ^ o=u;generalize (Xp:ah p) ^ o=v
  grind
 |m::ms,c::V,o,l,hc,hm=>by
  obtain⟨z1,e1⟩:=hm 0 m rfl;obtain⟨z2,e2⟩:=vL hp ms V (o+1) (Xg l) (λx q=>hc x (Vx _ q)) λk x hk=>by have:=hm (k+1) x hk;rw[show o+(k+1)=o+1+k by lia]at this;exact this
  refine⟨ak [c]*z1+z2,?_⟩;show ak [c]*ak m+xP ms (λi=>cf (c::V) (i+1))=_;rw[oQ ms (f:=λi=>cf (c::V) (i+1)) (g:=cf V) (aQ.of_eq λk=>bO c V k),e1,e2,ji c V,DM hp,SA.mul_pow,KU hp (hc c Vu),n?,n?,Nat.add_zero];generalize (Xp ^ p.toNat:ah p) ^ o=u;generalize (Xp:ah p) ^ o=v;generalize (Xp:ah p) ^ p.toNat=x;generalize (ak V:ah p) ^ p.toNat=y
  grind
 |[],c::V,_,l,_,_=>by cases l
 |m::ms,[],_,l,_,_=>by cases l
structure Sr(p:Int)(A:_h)(N o:Nat)(ms:List (_h)):Prop where
 l:ms.length+o=N
 w:∀m∈ms,m.length=N
 e:∀(k:Nat)m,ms[k]?=some m->∃z:ah p,ak m=(Xp ^ p.toNat) ^ (o+k)-Xp ^ (o+k)+ak A*z
theorem Sr.zero(hp:dD p=true)(hA:d8 p A)(lA:A.length=N+1){o:Nat}(h:Sr p A N o ms){V:_h}(lV:V.length=ms.length)(cV:∀c∈V,0<=c){z:ah p}(e:(Xp ^ p.toNat) ^ o*ak V ^ p.toNat-Xp ^ o*ak V=ak A*z):(xP ms (cf V):ah p)=0:=by have hr:=au hp;obtain⟨z2,e2⟩:=vL hp ms V o lV.symm cV h.e;rw[e]at e2;have e3:=AM (p:=p) N ms V h.w lV.symm;rw[<-e3]at e2⊢;refine oP ⋯ hA (l:=ye N (xQ ms V)) (x:=z+z2) (by unfold ye;rw[Vg,VU];lia) ?_;rw[e2];grind
theorem Ck(hp:dD p=true)(hA:d8 p A)(lA:A.length=N+1)(C:Sr p A N 0 ms)(G:GI p (N+ms.length) N rows D L cs)(U:Wu N ms rows){H h:ah p}(eH:ak A=H*h)(hL:∀R∈L,∃(c:Int)(z:ah p),ak (R.drop N)-ak [c]=H*z)(w:ah p)(hw:∃z,w ^ p.toNat-w=ak A*z):∃(c:Int)(z:ah p),w-ak [c]=H*z:=by
 obtain⟨V,lV,cV,q,eq⟩:=KS hp hA lA w;obtain⟨z0,hw⟩:=hw;obtain⟨z1,e1⟩:=pow_mod hp eq;have l0:=C.l;have hz:=C.zero hp hA lA (V:=V) ⋯ cV (z:=z0-z1) (by
  rw[uj,uj];generalize (ak V:ah p) ^ p.toNat=v at e1⊢;generalize w ^ p.toNat=u at e1 hw
  grind)
 obtain⟨c,z,e⟩:=KR G U (S:=λx=>∃(c:Int)(z:ah p),x-ak [c]=H*z) ⟨⟨0,0,by rw[HM];grind⟩,λx y c⟨c1,z1,e1⟩⟨c2,z2,e2⟩=>⟨c1+c*c2,z1+ak [c]*z2,by rw[jP,Fs];grind⟩⟩ hL (V:=V) ⋯ hz;exact⟨c,z+h*q,by rw[eq,eH];grind⟩
theorem Ss(hp:dD p=true)(C:Sr p A N 0 ms)(G:GI p (N+ms.length) N rows D L cs)(U:Wu N ms rows)(m:R∈L):∃z:ah p,ak (R.drop N) ^ p.toNat-ak (R.drop N)=ak A*z:=by have iR:=G.iL R m;have k:=KQ G U m;obtain⟨z,e⟩:=vL hp ms (R.drop N) 0 (by rw[Xk,iR.l];lia) (λc mc=>(iR.r c (List.mem_of_mem_drop mc)).1) C.e;rw[k,uj,uj]at e;generalize (ak (R.drop N):ah p) ^ p.toNat=v at e⊢;exact⟨-z,by grind⟩
theorem Hr(hp:dD p=true)(hA:d8 p A)(lA:A.length=N+1)(n1:1<=N)(sq:b? (ak A:ah p) (dP (ak A)))(C:Sr p A N 1 ms)(G:GI p (N+ms.length) N rows D [] cs)(U:Wu N ms rows):Bb p A:=by
 refine KL hp hA ⋯ sq λw⟨z0,hw⟩=>?_;obtain⟨V,lV,cV,q,eq⟩:=KS hp hA lA w;cases V with
 |nil=>rw[Vs]at lV;lia
 |cons c V=>
  obtain⟨z1,e1⟩:=pow_mod hp eq;have l0:=C.l;rw[Vi]at lV;have cc:=KU (p:=p) hp (cV c Vu);rw[ji c V]at eq e1;have hz:=C.zero hp hA lA (V:=V) ⋯ (λx m=>cV x (Vx _ m)) (z:=z0-z1) (by
   rw[DM hp,SA.mul_pow,cc]at e1;rw[n?,uj,n?,uj];generalize (ak V:ah p) ^ p.toNat=v at e1⊢;generalize (Xp:ah p) ^ p.toNat=x at e1⊢;generalize w ^ p.toNat=u at e1 hw
   grind)
  have:=KR G U (S:=λx=>x=0) ⟨rfl,λx y c h1 h2=>by rw[h1,h2];grind⟩ (λ_ m=>by cases m) (V:=V) ⋯ hz;exact⟨c,q,by rw[eq,this];grind⟩
theorem Ht(hp:dD p=true)(hA:d8 p A)(lA:A.length=N+1)(lN:N<=4000)(C:Sr p A N 1 ms)(G:GI p (N+ms.length) N rows D L cs)(U:Wu N ms rows)(m:R∈L):¬ Bb p A:=λI=>by
 have hr:=au hp;have dz:0<p:=⋯
 have l0:=C.l;have iR:=G.iL R m;have k:=KQ G U m;have lD:(R.drop N).length=ms.length:=by rw[Xk,iR.l];lia
 have rD:∀c∈R.drop N,0<=c/\c<p:=λc mc=>iR.r c (List.mem_of_mem_drop mc);have ne:=Sq ⋯ G U m;generalize R.drop N=V at k lD rD ne;obtain⟨z,e⟩:=vL hp ms V 1 ⋯ (λc mc=>(rD c mc).1) C.e;rw[k,n?,uj,n?,uj]at e;have ev:(ak (0::V):ah p)=Xp*ak V:=by rw[ji,HM];grind
 have hc:=gN ((0::V).map (·.fmod p));rw[Vg,Vi]at hc;have ec:=mk_eq (Row.cg dz (0::V));obtain⟨s,_,z2,e2⟩:=I.num hp (W:=b! ((0::V).map (·.fmod p))) (Row.of dz _) ⋯ ⋯ (z:=-z) (by
  show(ak (b! ((0::V).map (·.fmod p))):ah p) ^ p.toNat-ak (b! ((0::V).map (·.fmod p)))=_;rw[show(ak (b! ((0::V).map (·.fmod p))):ah p)=ak (0::V)from ec,ev,SA.mul_pow];generalize (ak V:ah p) ^ p.toNat=v at e⊢;generalize (Xp:ah p) ^ p.toNat=x at e⊢
  grind)
 have e2:(ak (b! ((0::V).map (·.fmod p))):ah p)-ak [(s:Int)]=ak A*z2:=e2;rw[show(ak (b! ((0::V).map (·.fmod p))):ah p)=ak (0::V)from ec,ev]at e2;have e3:(ak (-(s:Int)::V):ah p)=Xp*ak V-ak [(s:Int)]:=by rw[ji,O0];grind
 have z0:=oP dz hA (l:=-(s:Int)::V) (x:=z2) (by rw[Vi];lia) (by rw[e3,e2]);refine ne ?_;rw[<-DW];refine mk_eq λk=>?_;have:=ug (z0.trans DW.symm) (k+1);rw[bO,cz]at this;rw[cz];exact this
end
theorem Su{s:af}{k L z:Nat}{t:List aj}(h1:s[k]?=some (ay R))(h2:s[L]?=some (.lst (.loc z::t))):L≠k:=by
 rintro rfl;rw[h1]at h2;cases R with
 |nil=>cases h2
 |cons x R=>cases h2
section
variable{N:Nat}{s:af}
abbrev Tg(i:Nat):ME:=ag dA (ag b9 (bB (aa cW ai)) (jA i)) (bB (aa cm ai))
theorem O5{μ:MN.Env}{i:Nat}{K:Int}(h:∀s,jA i μ s=.ok (.int K) s)(k0:0<=K)(k1:K<=1000)(s:af):∃k s',Tg i μ s=.ok (.loc k) s'/\Fr s s'/\s.length<=k/\s'[k]?=some (ay (List.replicate K.toNat 0++[1])):=by
 obtain⟨s1,e1,F1,l1,_⟩:=ba (s:=s) [.int 0];have b1:bB (aa cW ai) μ s=.ok (.loc s.length) s1:=by rw[fg (vs:=[.int 0]) (s1:=s) rfl ⋯,e1]
 have m1:=qe (k:=K) l1 ⋯ ⋯ (by rw[Vp,VO];lia);rw[y_]at m1;obtain⟨s2,e2,F2,l2,_⟩:=ba (s:=s1) ((List.replicate K.toNat (0:Int)).map aj.int);rw[<-e2]at m1;obtain⟨s3,e3,F3,l3,_⟩:=ba (s:=s2) [.int 1];have b3:bB (aa cm ai) μ s2=.ok (.loc s2.length) s3:=by rw[fg (vs:=[.int 1]) (s1:=s2) rfl ⋯,e3]
 have a4:=j4 (F3 _ _ l2) l3 (by rw[aE,V0,VO,Vp];lia);have F:=F1.trans (F2.trans F3);refine⟨s3.length,s3++[ay (List.replicate K.toNat 0++[1])],?_,F.more _,F.len,bu _ _⟩;show ag dA (ag b9 (bB (aa cW ai)) (jA i)) (bB (aa cm ai)) μ s=_;rw[iu (a:=ag b9 (bB (aa cW ai)) (jA i)) (by rw[iu b1 (h s1)];exact m1) b3,a4];show _=fu.ok _ (s3++[aZ.lst ((List.replicate K.toNat (0:Int)++[1]).map aj.int)]);rw[VS];rfl
abbrev pwU:ME:=Lo (gA (ag sA fY cm)) (Tg 0) (ao PM.dW (aa bc (aa (ag bJ d! (ag jr fY cm)) (aa (ag bJ d! cm) ai))))
abbrev Th:MB:=az (aK 5 pwU) (az (aK 6 (ao PM.parted (aa bc (aa iU (aa bT ai))))) (az (e_ (iW dC d6 (aa (ag bJ jU cW) ai))) (e_ (iW dC d! (aa (ag bJ jU cm) ai)))))
abbrev chB:MB:=az (aK 5 (ao PM.bK (aa bc (aa (ag bJ bT fY) (aa (Tg 4) (aa (ko cm) ai)))))) (e_ (iW dC d! (aa (ao PM.fo (aa iU (aa (ao bD (aa bT ai)) ai))) ai)))
end
abbrev Cr:=Nat×List Int
def dI(q:Cr):aj:=.loc q.1
structure lI(s:af)(c:Nat)(ps:List Cr):Prop where
 l:s[c]?=some (.lst (ps.map dI))
 r:∀q∈ps,s[q.1]?=some (ay q.2)
theorem lI.mono{s:af}{c:Nat}{ps:List Cr}(h:lI s c ps)(F:Fr s s'):lI s' c ps:=⟨F _ _ h.l,λq m=>F _ _ (h.r q m)⟩
theorem lI.ne{s:af}{c k:Nat}{ps:List Cr}(h:lI s c ps)(hk:s[k]?=some (ay R))(nR:R≠[]):c≠k:=by
 rintro rfl;have:=h.l;rw[hk]at this;cases R with
 |nil=>exact nR rfl
 |cons x R=>
  cases ps with
  |nil=>cases this
  |cons q ps=>cases this
theorem lI.put{s:af}{c:Nat}{ps qs:List Cr}(h:lI s c ps)(hq:∀q∈qs,s[q.1]?=some (ay q.2))(n:∀q∈ps++qs,q.2≠[]):lI (s.set c (.lst ((ps++qs).map dI))) c (ps++qs):=
 ⟨gz h.l,λq m=>by
  have hr:s[q.1]?=some (ay q.2):=by
   rcases VF.mp m with m|m
   .exact h.r q m
   .exact hq q m
  exact e? hr (h.ne hr (n q m))⟩
theorem KW{s:af}(h1:s[n]?=some (.lst us))(h2:s[m]?=some (.lst ws))(hl:us.length+ws.length<=1000):jM (.loc n) [.loc m] s=.ok .dj (s.set n (.lst (us++ws))):=by
 have hl':us.length+ws.length<=sizeLine:=by rw[Vp];lia
 simp only[jM,h1,h2,Vv hl']
section
variable{N:Nat}{s:af}
abbrev paB:MB:=az (aK 6 (ao PM.dO (aa bc (aa bT (aa (ao PM.bK (aa bc (aa d! (aa (bB (aa iU ai)) (aa (ko cm) ai))))) ai))))) (sv (gA (ag v! (ao bD (aa jU ai)) cm)) (e_ (iW dC fY (aa jU ai))) fE)
structure PaI(p:Int)(A B:_h)(s:af)(c:Nat)(i:Nat)(s':af)(ps:List Cr):Prop where
 fr:Fr s s'
 rs:lI s' c ps
 ln:ps.length<=i
 mn:∀q∈ps,d8 p q.2/\2<=q.2.length
 dv:∀q∈ps,∃x:ah p,ak A=ak q.2*x
 nm:∀q∈ps,∃a:Nat,a<i/\∃x:ah p,ak (jF p B [(a:Int)])=ak q.2*x
 cp:ps.Pairwise λa b=>b? (ak a.2:ah p) (ak b.2)
end
theorem AN{a:AS}(P:Nat->MN.Env->af->Prop)(n:Nat)(μ:MN.Env)(st:af)(h:∀(i:Nat)(μ:MN.Env)(st:af),i<n->P i μ st->∃μ1,a (.int (i:Int)) μ=some μ1/\∃μ' aI,body μ1 st=.nx μ' aI/\P (i+1) μ' aI)(h0:P 0 μ st):∃μ' aI,forL (λ_=>True) a body ((gm 0 n).map aj.int) μ st=.nx μ' aI/\P n μ' aI:=by
 have:=dX (g:=λ_=>True) (a:=a) (body:=body) P ((gm 0 n).map aj.int) 0 μ st (λi u μ st hu hp=>by
  have hi:=aU hu;rw[aE,jx]at hi;rw[VZ]at hp⊢;rw[Vy]at hu;unfold gm at hu;rw[Vy,Wg hi]at hu;cases hu;obtain⟨μ1,h1,μ',aI,h2,h3⟩:=h i μ st hi hp;exact⟨trivial,μ1,by rw[<-h1];show a (.int (0+(i:Int))) μ=_;rw[W5],μ',aI,.inl h2,h3⟩) (λ_ _ _=>trivial) h0
 rw[VZ,aE,jx]at this;exact this
theorem pK{α:Type}{g:af->Prop}{a:AS}{e:ME}{s0:af}(hg:∀s,Fr s0 s->g s)(I:MN.Env->Prop)(val:α->aj)(f:α->_h):∀(us:List α)(τ:MN.Env)(s:af)(ys:List aj),I τ->Fr s0 s ->
  (∀u∈us,∀τ s,I τ->Fr s0 s->∃τ1,a (val u) τ=some τ1/\I τ1/\∃k s',e τ1 s=.ok (.loc k) s'/\Fr s s'/\s.length<=k/\s'[k]?=some (ay (f u))) ->
  ∃(ps:List Cr)(s':af),dS g a bj e (us.map val) τ s ys=.ok (ys++ps.map dI) s'/\Fr s s'/\ps.map (·.2)=us.map f/\(∀q∈ps,s.length<=q.1/\s'[q.1]?=some (ay q.2))/\(ps.map (·.1)).Nodup
 |[],τ,s,ys,_,F,_=>⟨[],s,by rw[VM,jb (hg s F),VM,Wc],Fr.refl s,rfl,(λq m=>by cases m),.nil⟩
 |u::us,τ,s,ys,hI,F,hs=>by
  obtain⟨τ1,h1,h2,k,s1,e1,F1,k1,l1⟩:=hs u Vu τ s hI F;obtain⟨ps,s2,e2,F2,m2,r2,d2⟩:=pK hg I val f us τ1 s1 (ys++[.loc k]) h2 (F.trans F1) λv hv=>hs v (Vx u hv);rw[Vm];unfold dS;rw[Vv (hg s F),h1];dsimp only[bj];rw[e1];dsimp only;have f1:=F1.len;refine⟨(k,f u)::ps,s2,by rw[e2,VY];rfl,F1.trans F2,by rw[Vm,Vm,m2],λq m=>?_,WJ.mpr ⟨λm=>?_,d2⟩⟩
  .rcases VX.mp m with rfl|m
   .exact⟨k1,F2 _ _ l1⟩
   .have:=r2 q m;exact⟨⋯,this.2⟩
  .obtain⟨q,mq,e⟩:=VN.mp m;have h1:=(r2 q mq).1;have h2:=aU l1;have e:q.1=k:=e;lia
section
variable{w:Nat}{S:_h}{s:af}
theorem AO(hp:dD p=true)(lR:s[n]?=some (ay R))(lS:s[m]?=some (ay S))(iR:pU p w R)(wS:S.length=w)(hw:w<=1000){j:Nat}(hj:j<w):
  PM.fO [.int p,.loc n,.loc m,.int (j:Int)] s=.ok (.loc s.length) (s++[ay (lH p S j R)]):=by
 have hr:=au hp;have dz:0<p:=⋯
 have wR:=iR.l;have gx:=dB (ax lR) (iN (R:=R) (i:=(j:Int)) rfl ⋯);have rf:=iR.A? dz j;obtain⟨f,hf⟩:=NE (cf R j)
 rw[show R.getD j 0=f from hf.symm]at gx;rw[<-hf]at rf;have zz:=Jz (ax lR) (ax lS);rw[sO]at zz;have hc:=pE (g:=λcJ=>aq cJ n=some (R.map aj.int)/\aq cJ m=some (S.map aj.int)) (a:=js [aA 0,aA 1]) (e:=ag gq (ag jr bc (ag b9 d6 bT)) d!) (st:=s) ⟨ax lR,ax lS⟩ (λτ=>∃x y,τ=[x, y, qI f, qI p]) pr (λ(q:Int×Int)=>.int ((q.1-f*q.2).fmod p)) (R.zip S) [qn, qn, qI f, qI p] [] ⟨_,_,rfl⟩ (by
  rintro⟨a,b⟩ _ τ ⟨x,y,rfl⟩;exact⟨_,rfl,⟨_,_,rfl⟩,by simp![kC (i:=f) ⋯ ⋯,gb (iK hp)]⟩)
 rw[Vq,show((R.zip S).map λ(q:Int×Int)=>aj.int ((q.1-f*q.2).fmod p))=(lH p S j R).map aj.int from by unfold lH;rw[V1,<-hf];rfl]at hc;have gY:∀x y z:Option aj,iV 2 [4,0] [qI p, x, y, z, qI f]=[qn, qn, qI f, qI p]:=λ_ _ _=>rfl;have hz:((R.zip S).map pr).length<=16777216:=by rw[Vg,Xh];lia
 simp![PM.fO,fB,dN,Vp,gx,zz,gY,hc,Vv hz]
theorem r6(hp:dD p=true){ps:List Cr}(rs:lI s n ps)(hv:∀q∈ps,pU p w q.2)(lS:s[m]?=some (ay S))(wS:S.length=w)(hw:w<=1000)(hl:ps.length<=1000){j:Nat}(hj:j<w):
  ∃k qs s',PM.cleared [.int p,.loc n,.loc m,.int (j:Int)] s=.ok (.loc k) s'/\Fr s s'/\s.length<=k/\lI s' k qs/\qs.map (·.2)=(ps.map (·.2)).map (lH p S j)/\∀q∈qs,s.length<=q.1:=by
 obtain⟨J,hJ⟩:=NE ((j:Int):Int)
 obtain⟨qs,s1,ec,F1,m1,g1⟩:=pK (g:=λcJ=>aq cJ n=some (ps.map dI)) (a:=aA 0) (e:=ao PM.fO (aa d6 (aa bc (aa d! (aa bT ai))))) (s0:=s) (λs' F=>ax (F _ _ rs.l)) (λτ=>∃x,τ=[x, qI J, qI p, qL m]) dI (λq=>lH p S j q.2) ps [qn, qI J, qI p, qL m] s [] ⟨_,rfl⟩ (Fr.refl s) (by
  rintro u mu τ s' ⟨x,rfl⟩ F;have e:=AO hp (F _ _ (rs.r u mu)) (F _ _ lS) (hv u mu) wS hw hj;rw[<-hJ]at e;exact⟨[some (.loc u.1),some (.int J),some (.int p),some (.loc m)],rfl,⟨_,rfl⟩,_,_,by simp![e],Fr.app _ _,Vt _,bu _ _⟩)
 rw[Vq]at ec;have gY:∀x:Option aj,iV 1 [3,0,2] [qI p, x, qL m, qI J]=[qn, qI J, qI p, qL m]:=λ_=>rfl;have hz:(ps.map dI).length<=16777216:=by rw[Vg];lia
 refine⟨s1.length,qs,s1++[.lst (qs.map dI)],?_,F1.more _,F1.len,⟨bu _ _,λq mq=>c! (g1.1 q mq).2 _⟩,by rw[m1,V1];rfl,λq mq=>(g1.1 q mq).1⟩;rw[<-hJ];simp![PM.cleared,fB,dN,Vp,dG (ax rs.l),gY,ec,Vv hz]
def oh(i L:Nat):_h:=(gm 0 L).map λk=>if k=(i:Int)then 1 else 0
theorem zA(i L:Nat):(oh i L).length=L:=by unfold oh;rw[Vg,jx]
theorem KY{i L:Nat}(h:i<L)(k:Nat):cf (oh i L) k=if k=i then 1 else 0:=by
 unfold oh;by_cases hk:k<L
 .unfold cf;rw[SO.Lu 0 (by rw[Vg,jx];exact hk),XR];unfold gm;rw[XR,YE,W5];by_cases q:k=i
  .rw[Vv q,Vv ⋯]
  .rw[VG q,VG ⋯]
 .rw[dH (by rw[Vg,jx];lia),VG ⋯]
theorem Hu{i L:Nat}(hL:L<=1000)(s:af):PM.mM [.int (i:Int),.int (L:Int)] s=.ok (.loc s.length) (s++[ay (oh i L)]):=by
 obtain⟨I,hI⟩:=NE ((i:Int):Int)
 obtain⟨N,hN⟩:=NE ((L:Int):Int)
 have hc:=ip (a:=aA 0) (e:=Lo (gA (ag sA bc bT)) cm cW) (g:=λ_=>True) (st:=s) trivial (λτ=>∃x,τ=[x,some (.int I)]) (λk=>.int (if k=I then 1 else 0)) (gm 0 L) [none,some (.int I)] [] ⟨_,rfl⟩ (by
  rintro k _ τ ⟨x,rfl⟩;refine⟨_,rfl,⟨_,rfl⟩,?_⟩;by_cases h:k=I
  .have z:(k==I)=true:=by simp[h]
   rw[Vv h];simp![z]
  .have z:(k==I)=false:=by simp[h]
   rw[VG h];simp![z])
 rw[Vq,show((gm 0 L).map λk=>aj.int (if k=I then 1 else 0))=(oh i L).map aj.int from by unfold oh;rw[V1,hI];rfl]at hc;have gY:∀x:Option aj,iV 1 [0] [some (.int I),x]=[none,some (.int I)]:=λ_=>rfl;have hz:((gm 0 L).map aj.int).length<=16777216:=by rw[Vg,jx];lia
 rw[<-hI,<-hN];simp![PM.mM,fB,dN,Vp,Kw hN ⋯,gY,hc,Vv hz]
def enV(x:Cr×Nat):aj:=.tup [.int (x.2:Int),.loc x.1.1]
theorem FJ:∀(ps:List Cr)(i:Nat),ky i (ps.map dI)=(ps.zipIdx i).map enV
 |[],_=>rfl
 |q::ps,i=>by rw[Vm,Zv,Vm,<-FJ ps (i+1)];rfl
def Lx(ms:List (_h)):List (_h):=(ms.zipIdx).map λx=>x.1++oh x.2 ms.length
theorem KZ{ms:List (_h)}{k:Nat}{m:_h}(h:ms[k]?=some m):(Lx ms)[k]?=some (m++oh k ms.length):=by unfold Lx;rw[Vy,List.getElem?_zipIdx,h];simp
theorem pL(ms:List (_h)):(Lx ms).length=ms.length:=by unfold Lx;rw[Vg,List.length_zipIdx]
theorem Cm{a b:_h}{k:Nat}(h:k<a.length):cf (a++b) k=cf a k:=by unfold cf;rw[VA,V3 h,VA]
theorem Cn{a b:_h}(k:Nat):cf (a++b) (a.length+k)=cf b k:=by unfold cf;rw[VA,V2 ⋯,VA,Nat.add_sub_cancel_left]
theorem K0{W:Nat}{ms:List (_h)}(hw:∀m∈ms,m.length=W):Wu W ms (Lx ms):=⟨pL ms,hw,λk R m h1 h2=>by
 rw[KZ h2]at h1;cases h1;have lm:=hw m (V_ h2);have hk:=(VJ.mp h2).1;exact⟨λj hj=>Cm ⋯,λi=>by rw[<-lm,Cn,KY hk]⟩⟩
theorem K2(h2:2<=p){W:Nat}{ms:List (_h)}(hw:∀m∈ms,pU p W m):∀R∈Lx ms,pU p (W+ms.length) R:=λR m=>by
 obtain⟨k,hk⟩:=W4 m;have lk:=(VJ.mp hk).1;rw[pL]at lk;rw[KZ (Vk lk)]at hk;cases hk;have i:=hw _ (Xl lk);refine⟨by rw[Vj,i.l,zA],λx mx=>?_⟩;rcases VF.mp mx with mx|mx
 .exact i.r x mx
 .unfold oh at mx;obtain⟨k,_,rfl⟩:=VN.mp mx;split<;>lia
theorem oj{ps:List Cr}(rs:lI s n ps)(hv:∀q∈ps,q.2.length<=1000)(hl:ps.length<=1000):
  ∃k qs s',PM.jc [.loc n] s=.ok (.loc k) s'/\Fr s s'/\s.length<=k/\lI s' k qs/\qs.map (·.2)=Lx (ps.map (·.2))/\∀q∈qs,s.length<=q.1:=by
 obtain⟨N,hN⟩:=NE ((ps.length:Int):Int)
 obtain⟨qs,s1,ec,F1,m1,g1⟩:=pK (g:=λcJ=>aq cJ n=some (ps.map dI)) (a:=js [aA 0,aA 1]) (e:=ag dA (ao qd (aa bT ai)) (ao PM.mM (aa bc (aa (ao bD (aa d6 ai)) ai)))) (s0:=s) (λs' F=>ax (F _ _ rs.l)) (λτ=>∃x y,τ=[x, y, qL n]) enV (λx=>x.1.2++oh x.2 ps.length) ps.zipIdx [qn, qn, qL n] s [] ⟨_,_,rfl⟩ (Fr.refl s) (by
  rintro⟨⟨k,R⟩,i⟩ mu τ s' ⟨x,y,rfl⟩ F;have mq:(k,R)∈ps:=List.fst_mem_of_mem_zipIdx mu;have lR:=F _ _ (rs.r _ mq);have wR:=hv _ mq;have lR:s'[k]?=some (ay R):=lR;have wR:R.length<=1000:=wR;have c1:=pB (ax lR);have c2:bD [.loc n] (s'++[ay R])=.ok (.int N) (s'++[ay R]):=by rw[a_ (ax (c! (F _ _ rs.l) _)),Vg,hN]
  have e3:=Hu (i:=i) (L:=ps.length) hl (s'++[ay R]);rw[<-hN]at e3;have lu:=zA i ps.length;generalize oh i ps.length=T at e3 lu⊢;have c4:=j4 (st:=s'++[ay R]++[ay T]) (n:=s'.length) (m:=(s'++[ay R]).length) (us:=R.map aj.int) (ws:=T.map aj.int) (c! (bu s' _) _) (bu _ _) (by rw[aE,aE,Vp];lia);rw[<-VS]at c4;obtain⟨I,hI⟩:=NE ((i:Int):Int)
  show ∃τ1,js [aA 0,aA 1] (.tup [.int (i:Int),.loc k]) _=some τ1/\_;rw[<-hI]at e3⊢;exact⟨[some (.int I),some (.loc k),some (.loc n)],rfl,⟨_,_,rfl⟩,_,_,by simp![c1,c2,e3];exact c4,((Fr.app s' _).more _).more _,by simp only[Vj];lia,bu _ _⟩)
 rw[Vq]at ec;have gY:iV 2 [0] [some (.loc n)]=[qn, qn, qL n]:=rfl;have hz:(ps.zipIdx.map enV).length<=16777216:=by rw[Vg,List.length_zipIdx];lia
 have he:=wz (ax rs.l);rw[FJ]at he;refine⟨s1.length,qs,s1++[.lst (qs.map dI)],?_,F1.more _,F1.len,⟨bu _ _,λq mq=>c! (g1.1 q mq).2 _⟩,?_,λq mq=>(g1.1 q mq).1⟩
 .simp![PM.jc,fB,dN,Vp,q_,he,gY,ec,Vv hz]
 .rw[m1];unfold Lx;rw[Vg];apply X0;intro i;simp[List.getElem?_zipIdx];cases ps[i]?<;>rfl
end
def uO(cs:List Nat):_h:=cs.map Int.ofNat
section
variable{w W N:Nat}{st:af}
structure SfI(p:Int)(w W N:Nat)(st:af)(rows:List (_h))(j:Nat)(μ:MN.Env)(s:af)(d l pl:Nat)(ds ls:List Cr)(cs:List Nat):Prop where
 env:∃x1 x6 x7 x8 x9,μ=[qI p, x1, qI (W:Int), qL d, qL l, qL pl, x6, x7, x8, x9]
 fr:Fr st s
 hp:st.length<=pl
 nd:d≠pl
 nl:l≠pl
 rd:lI s d ds
 rl:lI s l ls
 lp:s[pl]?=some (ay (uO cs))
 np:∀q∈ds++ls,q.1≠pl
 gi:GI p w j rows (ds.map (·.2)) (ls.map (·.2)) cs
 ct:ds.length+ls.length=N
theorem Co{s:af}{l:Nat}{ls:List Cr}(rl:lI s l ls)(hv:∀q∈ls,pU p w q.2)(hn:ls.length<=1000){j:Nat}(hj:j<w){J:Int}(hJ:J=(j:Int)):
  stC stN [x0, x1, x2, x3, qL l, x5, qI J, x7, x8, x9] s=.ok (.loc s.length) (s++[.lst ((ls.filter λq => !(cf q.2 j==0)).map dI)]) /\
  stC stZ [x0, x1, x2, x3, qL l, x5, qI J, x7, x8, x9] s=.ok (.loc s.length) (s++[.lst ((ls.filter λq=>cf q.2 j==0).map dI)]):=by
 have hm:∀v∈ls.map dI,IsM p w ab6 s v:=λv m=>by obtain⟨q,mq,rfl⟩:=VN.mp m;exact⟨q.1,q.2,rfl,trivial,rl.r q mq,(hv q mq).l,(hv q mq).r⟩
 have:=Si rl.l hm (by rw[Vg];exact hn) hj hJ (x0:=x0) (x1:=x1) (x2:=x2) (x3:=x3) (x5:=x5) (x7:=x7) (x8:=x8) (x9:=x9);have e:∀q∈ls,tj s J (dI q)=cf q.2 j:=λq mq=>by have gx:=dB (ax (rl.r q mq)) (iN (R:=q.2) (i:=J) hJ (by have:=(hv q mq).l;lia));unfold tj;rw[show bJ (dI q) (.int J) s=_ from gx];rfl
 rw[List.filter_map,List.filter_map,List.filter_congr (q:=λq => !(cf q.2 j==0)) λq mq=>by show(!(tj s J (dI q)==0))=_;rw[e q mq],List.filter_congr (p:=(λu=>tj s J u==0) ∘ dI) (q:=λq=>cf q.2 j==0) λq mq=>by show(tj s J (dI q)==0)=_;rw[e q mq]]at this;exact this
theorem NZ(hp:dD p=true)(hw:w<=1000)(hN:N<=1000)(hW:W<=w){μ:MN.Env}{s:af}{l pl:Nat}{ds ls:List Cr}{j:Nat}(h:SfI p w W N st rows j μ s d l pl ds ls cs)(hj:j<W){J:Int}(hJ:J=(j:Int)):
  ∃μ' s',Sh (μ.set 6 (some (.int J))) s=.nx μ' s'/\∃d l pl ds ls cs,SfI p w W N st rows (j+1) μ' s' d l pl ds ls cs:=by
 have hr:=au hp;have dz:0<p:=⋯
 obtain⟨x1,x6,x7,x8,x9,rfl⟩:=h.env;have ct:=h.ct;have jw:j<w:=⋯
 have vl:∀q∈ls,pU p w q.2:=λq mq=>h.gi.iL _ (VV mq);have vd:∀q∈ds,pU p w q.2:=λq mq=>h.gi.iD _ (VV mq);show ∃μ' s',Sh [qI p, x1, qI (W:Int), qL d, qL l, qL pl, qI J, x7, x8, x9] s=.nx μ' s'/\_;obtain⟨WI,FK⟩:=NE ((W:Int):Int)
 rw[<-FK];have c1:=(Co h.rl vl ⋯ jw hJ (x0:=some (.int p)) (x1:=x1) (x2:=some (.int WI)) (x3:=some (.loc d)) (x5:=some (.loc pl)) (x7:=x7) (x8:=x8) (x9:=x9)).1;obtain⟨fs,hfs⟩:=NE (ls.filter λq => !(cf q.2 j==0))
 rw[<-hfs]at c1;obtain⟨s1,e1,F1,l1,n1⟩:=ba (s:=s) (fs.map dI);rw[<-e1]at c1;obtain⟨L,hL⟩:=NE ((fs.length:Int):Int)
 have kl:bD [.loc s.length] s1=.ok (.int L) s1:=by rw[a_ (ax l1),Vg,hL]
 obtain⟨f,hf⟩:=NE s.length
 rw[<-hf]at c1 kl l1;have pls:=aU h.lp;have pf:(fs++ls.filter λq=>cf q.2 j==0).Perm ls:=by have:=List.filter_append_perm (λq:Cr => !(cf q.2 j==0)) ls;rw[show(ls.filter λq=>cf q.2 j==0)=ls.filter λq => !!(cf q.2 j==0)from by simp,hfs];exact this
 cases Gx:fs with
 |nil=>
  have z:decide ((0:Int)<L)=false:=V5 (by rw[hL,Gx];decide);refine⟨[some (.int p),x1,some (.int WI),some (.loc d),some (.loc l),some (.loc pl),some (.int J),some (.loc f),x8,x9],s1,?_,d,l,pl,ds,ls,cs,⟨_,_,_,_,_,by rw[FK]⟩,h.fr.trans F1,h.hp,h.nd,h.nl,h.rd.mono F1,h.rl.mono F1,F1 _ _ h.lp,h.np,h.gi.skip λR mR=>?_,h.ct⟩
  .unfold Sh;generalize stC stN=C at c1⊢;generalize stX=X;simp![c1,kl,z]
  .obtain⟨q,mq,rfl⟩:=VN.mp mR;have:q∈fs++ls.filter λq=>cf q.2 j==0:=pf.mem_iff.mpr mq;rw[Gx,Vq]at this;simpa using(YG.mp this).2
 |cons u0 us=>
  obtain⟨k0,R0⟩:=u0;have z:decide ((0:Int)<L)=true:=V8 (by rw[hL,Gx,Vi];lia);have m0:(k0,R0)∈ls/\(!(cf R0 j==0))=true:=by
   have:(k0,R0)∈fs:=by rw[Gx];exact Vu
   rw[hfs]at this;exact YG.mp this
  have iR0:pU p w R0:=vl _ m0.1;have wR0:=iR0.l;obtain⟨c,hc⟩:=NE (cf R0 j)
  have rc:=iR0.A? dz j;rw[<-hc]at rc;have c0:¬ c=0:=λq=>by have:=m0.2;rw[<-hc,q]at this;exact absurd this ⋯
  have cp:¬ c % p=0:=by rw[V9 rc.1 rc.2];exact c0
  have lk0:s[k0]?=some (ay R0):=h.rl.r _ m0.1;have cx':bJ (.loc k0) (.int J) s1=.ok (.int c) s1:=by have g2:=dB (ax (F1 _ _ lk0)) (iN (R:=R0) (i:=J) hJ ⋯);rw[hc];exact g2
  have ix0:∀{s':af},s'[f]?=some (.lst (fs.map dI))->bJ (.loc f) (.int 0) s'=.ok (.loc k0) s':=λq=>dB (ax q) (by rw[Gx];exact qf);obtain⟨g2,tt,e2,_,_,ht⟩:=gf hp cp s1;obtain⟨s2,su⟩:=NE (s1++g2)
  have F2:Fr s1 s2:=by rw[su];exact Fr.app _ _
  rw[<-su]at e2;have lk2:=F2 _ _ (F1 _ _ lk0);have S4:=ip (g:=λaI=>aq aI k0=some (R0.map aj.int)) (a:=aA 0) (e:=ag gq (ag b9 bc bT) d6) (st:=s2) (ax lk2) (λτ=>∃z,τ=[z, qI tt, qI p]) (λi=>.int ((i*tt).fmod p)) R0 [qn, qI tt, qI p] [] ⟨_,rfl⟩ (by
   rintro i mi τ ⟨z,rfl⟩;have:=iR0.r i mi;exact⟨_,rfl,⟨_,rfl⟩,by simp![kC (i:=i) ⋯ ⋯,gb (iK hp)]⟩)
  obtain⟨T,hT⟩:=NE (Ca p tt R0)
  have S1:uN p w j R0 T tt:=⟨iR0,by rw[<-hc];exact ht,hT⟩
  have iT:=S1.Sn dz;have wT:=iT.l;rw[Vq,show(R0.map λi=>aj.int ((i*tt).fmod p))=T.map aj.int from by rw[hT];unfold Ca;rw[V1];rfl]at S4;obtain⟨s3,e3,F3,l3,n3⟩:=ba (s:=s2) (T.map aj.int);have c3:stS [qI p, x1, qI WI, qL d, qL l, qL pl, qI J, qL f, qI tt, x9] s2=.ok (.loc s2.length) s3:=by have gY:iV 1 [8,0] [qI p, x1, qI WI, qL d, qL l, qL pl, qI J, qL f, qI tt, x9]=[qn, qI tt, qI p]:=rfl;show cH 1 [8,0] (f9 (ag bJ qc cW)) (aA 0) bj (ag gq (ag b9 bc bT) d6) _ s2=_;rw[dN,eI,iu (x:=.loc f) (s1:=s2) rfl (y:=.int 0) (s2:=s2) rfl,ix0 (F2 _ _ l1),ar,dG (ax lk2),ar,fB,Vv (by rw[Vg,Vp];lia),gY,S4,ar,ie,e3]
  obtain⟨m,hm⟩:=NE s2.length
  rw[<-hm]at c3 l3 n3;obtain⟨s4,e4,F4,l4,n4⟩:=ba (s:=s3) (us.map dI);have c4:ET (some 1) none (.loc f) s3=.ok (.loc s3.length) s4:=by rw[wy (ax (F3 _ _ (F2 _ _ l1))),show uK (fs.map dI) (some 1) none=us.map dI from by rw[Gx];exact cutD _ 1,e4]
  have K4:=F1.trans (F2.trans (F3.trans F4));have c5:=(Co (h.rl.mono K4) vl ⋯ jw hJ (x0:=some (.int p)) (x1:=x1) (x2:=some (.int WI)) (x3:=some (.loc d)) (x5:=some (.loc pl)) (x7:=some (.loc f)) (x8:=some (.int tt)) (x9:=some (.loc m))).2;obtain⟨zs,hzs⟩:=NE (ls.filter λq=>cf q.2 j==0)
  rw[<-hzs]at c5 pf;rw[Gx,VD]at pf;have lz:=pf.length_eq;rw[Vi,Vj]at lz;obtain⟨s5,e5,F5,l5,n5⟩:=ba (s:=s4) (zs.map dI);rw[<-e5]at c5;have c6:=j4 (st:=s5) (F5 _ _ l4) l5 (by rw[Vp,Vg,Vg];lia);rw[<-VS]at c6;obtain⟨s6,e6,F6,l6,n6⟩:=ba (s:=s5) ((us++zs).map dI);rw[<-e6]at c6;have Sv:=K4.trans (F5.trans F6);have Sw:=F4.trans (F5.trans F6);have muz:∀q∈us++zs,q∈ls:=λq mq=>pf.mem_iff.mp (Vx _ mq);obtain⟨k6,Sx,s7,c7,F7,k7,l7,n7,v7⟩:=r6 (w:=w) (j:=j) (ps:=us++zs) hp ⟨l6,λq mq=>Sv _ _ (h.rl.r q (muz q mq))⟩ (λq mq=>vl q (muz q mq)) (Sw _ _ l3) wT hw (by rw[Vj];lia) jw;have F07:=Sv.trans F7;obtain⟨k8,Ti,s8,c8,F8,k9,l8,n8,v8⟩:=r6 (w:=w) (j:=j) hp (h.rd.mono F07) vd (F7 _ _ (Sw _ _ l3)) wT hw ⋯ jw;rw[<-hJ]at c7 c8;obtain⟨s9,e9,F9,l9,n9⟩:=ba (s:=s8) [.loc m];have ld':Ti.length=ds.length:=by have:=WE List.length n8;simpa using this
  have ll':Sx.length=(us++zs).length:=by have:=WE List.length n7;simpa using this
  have c10:=j4 (st:=s9) (F9 _ _ l8.l) l9 (by rw[Vp,VO,Vg];lia);obtain⟨D4,e10,F10,l10,n10⟩:=ba (s:=s9) ((Ti++[(m,T)]).map dI);rw[show Ti.map dI++[.loc m]=(Ti++[(m,T)]).map dI from by rw[VS];rfl,<-e10]at c10;have F0:=F07.trans (F8.trans (F9.trans F10));have lpA:=F0 _ _ h.lp;have gc:=h.gi.cl;rw[Vg]at gc;have c11:=gM (v:=.int J) lpA (by rw[aE,Vp];unfold uO;rw[Vg];lia);have g1:=F1.len;have g2':=F2.len;have g3:=F3.len;have g4:=F4.len;have g7:=F7.len;have g8:=F8.len;have q4:s4.length=s3.length+1:=n4;have np':∀q∈Ti++[(m,T)]++Sx,q.1≠pl/\D4[q.1]?=some (ay q.2):=λq mq=>by
   rcases VF.mp mq with mq|mq
   .rcases VF.mp mq with mq|mq
    .exact⟨by have:=v8 q mq;lia,F10 _ _ (F9 _ _ (l8.r q mq))⟩
    .rw[Vz.mp mq];exact⟨by show m≠pl;lia,F10 _ _ (F9 _ _ (F8 _ _ (F7 _ _ (Sw _ _ l3))))⟩
   .exact⟨by have:=v7 q mq;lia,F10 _ _ (F9 _ _ (F8 _ _ (l7.r q mq)))⟩
  refine⟨[some (.int p),x1,some (.int WI),some (.loc s9.length),some (.loc k6),some (.loc pl),some (.int J),some (.loc f),some (.int tt),some (.loc m)],D4.set pl (ay (uO (cs++[j]))),?_,s9.length,k6,pl,Ti++[(m,T)],Sx,cs++[j],⟨_,_,_,_,_,by rw[FK]⟩,(h.fr.trans F0).set h.hp _,h.hp,⋯,⋯,⟨e? l10 ⋯,λq mq=>e? (np' q (We _ mq)).2 (WU (np' q (We _ mq)).1)⟩,⟨e? (F10 _ _ (F9 _ _ (F8 _ _ l7.l))) ⋯,λq mq=>e? (np' q (VQ _ mq)).2 (WU (np' q (VQ _ mq)).1)⟩,gz lpA,λq mq=>(np' q mq).1,?_,by rw[Vj,VO,ld',ll',Vj];lia⟩
  .have c9:bB (aa A_ ai) [qI p, x1, qI WI, qL d, qL k6, qL pl, qI J, qL f, qI tt, qL m] s8=.ok (.loc s8.length) s9:=by rw[fg (wY (v:=.loc m) (s1:=s8) rfl) (by show 1<=1000;decide),e9]
   have ab7:dC (.loc pl) [.int J] D4=.ok .dj (D4.set pl (ay (uO (cs++[j])))):=by rw[c11,hJ];show _=fu.ok aj.dj (D4.set pl (.lst ((uO (cs++[j])).map aj.int)));unfold uO;rw[VS,VS];rfl
   unfold Sh stX;generalize stC stN=C at c1⊢;generalize stC stZ=C' at c5⊢;generalize stS=C3 at c3⊢;generalize bB (aa A_ ai)=C9 at c9⊢;simp![c1,kl,z,ix0 l1,cx',e2,c3,c4,c5,c6,c7,c8,c9,c10,mI lpA,ab7]
  .rw[VS,n8,n7];exact h.gi.step dz S1 (pf.symm.map (·.2))
theorem r9(hp:dD p=true){s:af}{ps:List Cr}(rs:lI s n ps)(hv:∀q∈ps,pU p w q.2)(hw:w<=1000)(hl:ps.length<=1000)(hW:W<=w):
  ∃a b ds ls cs s',PM.pH [.int p,.loc n,.int (W:Int)] s=.ok (.tup [.loc a,.loc b]) s'/\Fr s s'/\s.length<=a/\lI s' a (ds++ls)/\s'[b]?=some (ay (uO cs))/\GI p w W (ps.map (·.2)) (ds.map (·.2)) (ls.map (·.2)) cs:=by
 obtain⟨s1,e1,F1,l1,n1⟩:=ba (s:=s) [];obtain⟨s2,e2,F2,l2,n2⟩:=ba (s:=s1) [];have F:=F1.trans F2;have hn:=aU rs.l;have I0:SfI p w W ps.length s (ps.map (·.2)) 0 [qI p, qL n, qI (W:Int), qL s.length, qL n, qL s1.length, qn, qn, qn, qn] s2 s.length n s1.length [] ps []:=
  ⟨⟨_,_,_,_,_,rfl⟩,F,F1.len,⋯,⋯,⟨F2 _ _ l1,λ_ m=>by cases m⟩,rs.mono F,l2,(λq m=>by have:=aU (rs.r q m);lia),GI.start λR m=>by
   obtain⟨q,mq,rfl⟩:=VN.mp m;exact hv q mq,by simp⟩
 obtain⟨WI,FK⟩:=NE ((W:Int):Int)
 obtain⟨μ',s',ef,d,l,pl,ds,ls,cs,H⟩:=AN (a:=aA 6) (body:=Sh) (λi μ s'=>∃d l pl ds ls cs,SfI p w W ps.length s (ps.map (·.2)) i μ s' d l pl ds ls cs) W [qI p, qL n, qI (W:Int), qL s.length, qL n, qL s1.length, qn, qn, qn, qn] s2 (by
  rintro i μ s' hi ⟨d,l,pl,ds,ls,cs,H⟩;refine⟨μ.set 6 (some (.int (i:Int))),?_,NZ hp hw hl hW H hi (J:=(i:Int)) rfl⟩;obtain⟨x1,x6,x7,x8,x9,rfl⟩:=H.env;rfl) ⟨_,_,_,_,_,_,I0⟩
 obtain⟨x1,x6,x7,x8,x9,rfl⟩:=H.env;have ct:=H.ct;have c1:=j4 H.rd.l H.rl.l (by rw[Vp,Vg,Vg];lia);rw[<-VS]at c1;obtain⟨s4,e4,F4,l4,n4⟩:=ba (s:=s') ((ds++ls).map dI);rw[<-e4]at c1;have hr:=au hp;rw[<-FK]at ef⊢;refine⟨s'.length,pl,ds,ls,cs,s4,?_,H.fr.trans F4,H.fr.len,⟨l4,λq mq=>?_⟩,F4 _ _ H.lp,H.gi⟩
 .have a1:bB ai [qI p, qL n, qI WI, qn, qn, qn, qn, qn, qn, qn] s=.ok (.loc s.length) s1:=by rw[fg (vs:=[]) (s1:=s) rfl ⋯,e1]
  have a2:bB ai [qI p, qL n, qI WI, qL s.length, qL n, qn, qn, qn, qn, qn] s1=.ok (.loc s1.length) s2:=by rw[fg (vs:=[]) (s1:=s1) rfl ⋯,e2]
  unfold PM.pH;rw[bH (np:=3) (us:=[aj.int p,.loc n,.int WI]) rfl];show(az (aK 3 (bB ai)) (az (aK 4 bT) (az (aK 5 (bB ai)) (az (ic (f_ (aa d6 ai)) (aA 6) Sh) (bZ (gp (aa (ag dA d! fY) (aa iU ai))))))) [qI p, qL n, qI WI, qn, qn, qn, qn, qn, qn, qn] s).fin=_;generalize Sh=B at ef⊢;generalize bB ai=M at a1 a2⊢;simp![iY,gv,Vp,a1,a2,Kw FK ⋯,ef,c1]
 .rcases VF.mp mq with mq|mq
  .exact F4 _ _ (H.rd.r q mq)
  .exact F4 _ _ (H.rl.r q mq)
end
section
variable{w:Nat}{s:af}
theorem xc(cs:List Nat):(uO cs).length=cs.length:=by unfold uO;rw[Vg]
theorem Hv(hp:dD p=true){ps:List Cr}(rs:lI s n ps)(hv:∀q∈ps,pU p w q.2)(hw:w<=500)(hl:ps.length<=500):
  ∃a zs D L cs s',PM.gI [.int p,.loc n,.int (w:Int)] s=.ok (.loc a) s'/\Fr s s'/\s.length<=a/\lI s' a zs/\GI p (w+(ps.map (·.2)).length) w (Lx (ps.map (·.2))) D L cs/\zs.map (·.2)=L.map (·.drop w):=by
 have hr:=au hp;obtain⟨k1,qs,s1,c1,F1,_,r1,m1,_⟩:=oj rs (λq mq=>by have:=(hv q mq).l;lia) ⋯;have HG:=K2 (p:=p) (W:=w) (ms:=ps.map (·.2)) ⋯ λm mm=>by obtain⟨q,mq,rfl⟩:=VN.mp mm;exact hv q mq
 have lq:qs.length=ps.length:=by have:=WE List.length m1;rw[pL]at this;simpa using this
 have lp:(ps.map (·.2)).length=ps.length:=Vg ..;obtain⟨a,b,ds,ls,cs,s2,c2,F2,ga,ra,lb,G⟩:=r9 (w:=w+(ps.map (·.2)).length) (W:=w) hp r1 (λq mq=>HG _ (by rw[<-m1];exact VV mq)) ⋯ ⋯ ⋯;rw[m1]at G;obtain⟨WI,FK⟩:=NE ((w:Int):Int)
 rw[<-FK]at c2;obtain⟨CL,hCL⟩:=NE ((cs.length:Int):Int)
 have c3:bD [.loc b] s2=.ok (.int CL) s2:=by rw[a_ (ax lb),aE,xc,hCL]
 have gc:=G.cl;rw[Vg]at gc;have c4:ET (some CL) none (.loc a) s2=.ok (.loc s2.length) (s2++[.lst (ls.map dI)]):=by rw[wy (ax ra.l),hCL,cutD,gc,<-Zl,List.drop_left]
 obtain⟨s3,e3,F3,l3,_⟩:=ba (s:=s2) (ls.map dI);rw[<-e3]at c4;have ui:=F1.trans (F2.trans F3);have lls:=G.ct;rw[Vg,Vg,pL,lp]at lls;obtain⟨zs,s4,ec,F4,m4,g4⟩:=pK (g:=λcJ=>aq cJ s2.length=some (ls.map dI)) (a:=aA 0) (e:=x! bc (iz bT) iy) (s0:=s3) (λs' F=>ax (F _ _ l3)) (λτ=>∃x,τ=[x,some (.int WI)]) dI (λq=>q.2.drop w) ls [none,some (.int WI)] s3 [] ⟨_,rfl⟩ (Fr.refl _) (by
  rintro u mu τ s' ⟨x,rfl⟩ F;have lu:=F _ _ (F3 _ _ (ra.r u (VQ _ mu)));have e:ET (some WI) none (.loc u.1) s'=.ok (.loc s'.length) (s'++[ay (u.2.drop w)]):=by rw[wy (ax lu),FK,cutD,<-Zl]
  exact⟨[some (.loc u.1),some (.int WI)],rfl,⟨_,rfl⟩,s'.length,_,by simp![e],Fr.app _ _,Vt _,bu _ _⟩)
 rw[Vq]at ec;have gY:∀x y z:Option aj,iV 1 [2] [x, y, qI WI, z]=[none,some (.int WI)]:=λ_ _ _=>rfl;have hz:(ls.map dI).length<=16777216:=by rw[Vg];lia
 refine⟨s4.length,zs,_,_,cs,s4++[.lst (zs.map dI)],?_,(ui.trans F4).more _,(ui.trans F4).len,⟨bu _ _,λq mq=>c! (g4.1 q mq).2 _⟩,G,by rw[m4,V1];rfl⟩;rw[<-FK];simp![PM.gI,fB,dN,Vp,c1,c2,a! qf,a! vm,c3,c4,dG (ax l3),gY,ec,Vv hz]
theorem D5(hp:dD p=true){ps:List Cr}(rs:lI s n ps)(hv:∀q∈ps,pU p w q.2)(hw:w<=500)(hl:ps.length<=500):
  ∃v D L cs s',PM.fQ [.int p,.loc n,.int (w:Int)] s=.ok v s'/\Fr s s'/\GI p (w+(ps.map (·.2)).length) w (Lx (ps.map (·.2))) D L cs/\((v=.dj/\L≠[])\/((∃t tb,v=.loc t/\s'[t]?=some (.lst tb)/\tb.length=w)/\L=[])):=by
 have hr:=au hp;obtain⟨k1,qs,s1,c1,F1,_,r1,m1,_⟩:=oj rs (λq mq=>by have:=(hv q mq).l;lia) ⋯;have HG:=K2 (p:=p) (W:=w) (ms:=ps.map (·.2)) ⋯ λm mm=>by obtain⟨q,mq,rfl⟩:=VN.mp mm;exact hv q mq
 have lq:qs.length=ps.length:=by have:=WE List.length m1;rw[pL]at this;simpa using this
 have lp:(ps.map (·.2)).length=ps.length:=Vg ..;obtain⟨a,b,ds,ls,cs,s2,c2,F2,ga,ra,lb,G⟩:=r9 (w:=w+(ps.map (·.2)).length) (W:=w) hp r1 (λq mq=>HG _ (by rw[<-m1];exact VV mq)) ⋯ ⋯ ⋯;rw[m1]at G;obtain⟨WI,FK⟩:=NE ((w:Int):Int)
 rw[<-FK]at c2⊢;have uk:=F1.trans F2;obtain⟨CL,hCL⟩:=NE ((cs.length:Int):Int)
 obtain⟨VL,hVL⟩:=NE ((ps.length:Int):Int)
 have c3:bD [.loc b] s2=.ok (.int CL) s2:=by rw[a_ (ax lb),aE,xc,hCL]
 have c4:bD [.loc n] s2=.ok (.int VL) s2:=by rw[a_ (ax (uk _ _ rs.l)),Vg,hVL]
 have gc:=G.cl;rw[Vg]at gc;have gt:=G.ct;rw[Vg,Vg,pL,lp]at gt;by_cases uI:CL<VL
 .have z:decide (CL<VL)=true:=V8 uI;exact⟨.dj,_,_,_,s2,by simp![PM.fQ,c1,c2,a! vm,c3,c4,z],uk,G,.inl ⟨rfl,λe=>by have:=WE List.length e;rw[Vg,Vs]at this;lia⟩⟩
 have z:decide (CL<VL)=false:=V5 uI;obtain⟨us,s4,ec,F4,l4,_⟩:=qo (g:=λ_=>True) (a:=aA 0) (c:=bj) (e:=ag b9 (bB (aa cW ai)) (ao bD (aa bT ai))) (s0:=s2) (λ_ _=>trivial) (λτ=>∃x,τ=[x,some (.loc n)]) (λ_=>true) (λ_ _=>True) (λ_ _ _ _ _=>trivial) ((gm 0 w).map aj.int) [none,some (.loc n)] s2 [] ⟨_,rfl⟩ (Fr.refl _) (by
  rintro u mu τ s' ⟨x,rfl⟩ F;obtain⟨i,_,rfl⟩:=VN.mp mu;have b1:bB (aa cW ai) [some (.int i),some (.loc n)] s'=.ok (.loc s'.length) (s'++[.lst [.int 0]]):=fg (vs:=[.int 0]) (s1:=s') rfl ⋯;have b2:bD [.loc n] (s'++[.lst [.int 0]])=.ok (.int VL) (s'++[.lst [.int 0]]):=by rw[a_ (ax (c! (F _ _ (uk _ _ rs.l)) _)),Vg,hVL]
  have b3:=qe (st:=s'++[.lst [.int 0]]) (k:=VL) (bu s' [.int 0]) ⋯ ⋯ (by rw[Vp,VO];lia);refine⟨[some (.int i),some (.loc n)],rfl,⟨_,rfl⟩,rfl,λ_=>⟨_,_,by rw[iu b1 (y:=.int VL) (s2:=s'++[.lst [.int 0]]) (by rw[iO (wY (v:=.loc n) (s1:=s'++[.lst [.int 0]]) rfl),b2])];exact b3,(Fr.app s' _).more _,trivial⟩⟩)
 rw[Vq]at ec;rw[B_,aE,jx]at l4;obtain⟨s5,e5,F5,l5,n5⟩:=ba (s:=s4) us;have gY:∀x y z t u v:Option aj,iV 1 [1] [x, qL n, y, z, t, u, v]=[none,some (.loc n)]:=λ_ _ _ _ _ _=>rfl;have hz:((gm 0 w).map aj.int).length<=16777216:=by rw[aE,jx];lia
 have F25:=F4.trans F5;have f4:=F4.len;obtain⟨t,ht⟩:=NE s4.length
 rw[<-ht]at l5;obtain⟨μ',s6,ef,tb,F6,l6,n6,x5,x6,rfl⟩:=dX (g:=λcJ=>aq cJ b=some ((uO cs).map aj.int)) (a:=js [aA 5,aA 6]) (body:=p5 fY jU (x! (ag bJ (ag bJ d! cW) iU) (iz d6) iy)) (λ_ μ s'=>∃tb,Fr s2 s'/\s'[t]?=some (.lst tb)/\tb.length=w/\∃x5 x6,μ=[qI p, qL n, qI WI, some (.tup [.loc a,.loc b]), qL t, x5, x6]) (ky 0 ((uO cs).map aj.int)) 0 [qI p, qL n, qI WI, some (.tup [.loc a,.loc b]), qL t, qn, qn] s5 (by
  rintro i u μ s' hu ⟨tb,F,lt,nt,x5,x6,rfl⟩;obtain⟨q,hq,rfl⟩:=l_ _ 0 i u hu;rw[VZ];have hi:i<cs.length:=by have:=aU hq;rw[aE,xc]at this;exact this
  unfold uO at hq;rw[Vy,Vy,Vk hi]at hq;have eq:=(VP hq).symm;have rc:=G.cj _ (Xl hi);generalize cs[i]=cn at eq rc;have eq:q=.int (cn:Int):=eq;subst eq;obtain⟨z2,Te⟩:∃z2,(ds++ls)[i]?=some z2:=⟨_,Vk (by rw[Vj];lia)⟩
  have b1:=dB (ax (F _ _ ra.l)) (v:=.loc z2.1) (L2.jK (by rw[Vy,Te];rfl));obtain⟨I,hI⟩:=NE ((i:Int):Int)
  obtain⟨c,hc⟩:=NE ((cn:Int):Int)
  rw[<-hI]at b1⊢;have lz:=F _ _ (ra.r z2 (V_ Te));have b2:ET (some WI) none (.loc z2.1) s'=.ok (.loc s'.length) (s'++[ay (z2.2.drop w)]):=by rw[wy (ax lz),FK,cutD,<-Zl]
  obtain⟨pv,es,F',_⟩:=ba (s:=s') ((z2.2.drop w).map aj.int);rw[show s'++[ay (z2.2.drop w)]=pv from es.symm]at b2;have lt':=F' _ _ lt;have b3:=q9 (v:=.loc s'.length) (k:=c) (j:=cn) lt' (by rw[nt,hc];exact rj rc);rw[<-hc];have bz:x! (ag bJ (ag bJ d! cW) iU) (iz d6) iy [qI p, qL n, qI WI, some (.tup [.loc a,.loc b]), qL t, qI I, qI c] s'=.ok (.loc s'.length) pv:=by simp![a! qf,b1,b2]
  refine⟨(F.it (ax lb)),_,rfl,[qI p, qL n, qI WI, some (.tup [.loc a,.loc b]), qL t, qI I, qI c],pv.set t (.lst (tb.set cn (.loc s'.length))),.inl ?_,tb.set cn (.loc s'.length),(F.trans F').set ⋯ _,gz lt',by rw[Ws];exact nt,_,_,rfl⟩;show p5 fY jU (x! (ag bJ (ag bJ d! cW) iU) (iz d6) iy) [qI p, qL n, qI WI, some (.tup [.loc a,.loc b]), qL t, qI I, qI c] s'=_;generalize x! (ag bJ (ag bJ d! cW) iU) (iz d6) iy=X at bz⊢;simp![bz,b3]) (λ_ s'⟨_,F,_⟩=>F.it (ax lb)) ⟨us,F25,l5,l4,_,_,rfl⟩
 refine⟨.loc t,_,_,_,s6,?_,uk.trans F6,G,.inr ⟨⟨_,tb,rfl,l6,n6⟩,Yw.mp (by rw[Vg];lia)⟩⟩;have he:=wz (F25.it (ax lb));unfold PM.fQ;rw[bH (np:=3) (us:=[aj.int p,.loc n,.int WI]) rfl];generalize p5 fY jU (x! (ag bJ (ag bJ d! cW) iU) (iz d6) iy)=B at ef⊢;generalize ag b9 (bB (aa cW ai)) (ao bD (aa bT ai))=M at ec⊢;rw[e5]at ef;rw[e5]at he;simp![iY,fB,gv,dN,Vp,q_,c1,c2,a! vm,c3,c4,z,Kw FK ⋯,gY,ec,Vv hz,he,ef,<-ht]
end
theorem lI.nel{s:af}{c k:Nat}{ps:List Cr}(h:lI s c ps)(n:ps≠[])(hk:s[k]?=some (ay R)):c≠k:=by
 cases ps with
 |nil=>exact absurd rfl n
 |cons q ps=>exact Su hk h.l
theorem lI.aaK{s:af}{c:Nat}{ps:List Cr}(h:lI s c ps)(n:ps≠[]){q:Cr}(hq:s[q.1]?=some (ay q.2)):lI (s.set c (.lst ((ps++[q]).map dI))) c (ps++[q]):=
 ⟨gz h.l,λx m=>by
  have hr:s[x.1]?=some (ay x.2):=by
   rcases VF.mp m with m|m
   .exact h.r x m
   .rw[Vz.mp m];exact hq
  exact e? hr (h.nel n hr)⟩
theorem lI.Us{s:af}{c:Nat}{ps qs:List Cr}(h:lI s c ps)(k:lI s d qs)(n:qs≠[])(ne:d≠c)(x:aZ):lI (s.set d x) c ps:=⟨e? h.l ne,λq m=>e? (h.r q m) (k.nel n (h.r q m))⟩
section
variable{N:Nat}{A:_h}{s:af}
structure Ly(p:Int)(A:_h)(N:Nat)(Q R:List (_h)):Prop where
 q0:Q[0]?=some []
 r0:R[0]?=some [1]
 rq:∀x∈Q,Row p x
 rr:∀x∈R,Row p x/\x.length<=N
 ln:Q.length=R.length
 s1:∀x y,Q[1]?=some x->R[1]?=some y->(Xp:ah p) ^ p.toNat=ak A*ak x+ak y
 st:∀(k:Nat)x y a b,Q[k+2]?=some x->R[k+2]?=some y->R[k+1]?=some a->R[1]?=some b->(ak a:ah p)*ak b=ak A*ak x+ak y
theorem Ly.snoc{Q R:List (_h)}(h:Ly p A N Q R){x y:_h}(rx:Row p x)(ry:Row p y)(ly:y.length<=N)(e1:R.length=1->(Xp:ah p) ^ p.toNat=ak A*ak x+ak y)(e2:∀(k:Nat)a b,R.length=k+2->R[k+1]?=some a->R[1]?=some b->(ak a:ah p)*ak b=ak A*ak x+ak y):Ly p A N (Q++[x]) (R++[y]):=by
 have l0:0<R.length:=(VJ.mp h.r0).1;have ln:=h.ln;have old:∀{M:List (_h)}{z u:_h}{k:Nat},k<M.length->(M++[z])[k]?=some u->M[k]?=some u:=λhk e=>by rw[V3 hk]at e;exact e
 have new:∀{M:List (_h)}{z u:_h}{k:Nat},¬ k<M.length->(M++[z])[k]?=some u->u=z/\k=M.length:=λ{M z u k}hk e=>by have:=(VJ.mp e).1;rw[Vj,VO]at this;rw[V2 ⋯,show k-M.length=0 by lia]at e;exact⟨(VP e).symm,⋯⟩
 refine⟨by rw[V3 ⋯];exact h.q0,by rw[V3 l0];exact h.r0,λz m=>?_,λz m=>?_,by rw[Vj,Vj,ln];rfl,λu v hu hv=>?_,λk u v a b hu hv ha hb=>?_⟩
 .rcases VF.mp m with m|m
  .exact h.rq z m
  .rw[Vz.mp m];exact rx
 .rcases VF.mp m with m|m
  .exact h.rr z m
  .rw[Vz.mp m];exact⟨ry,ly⟩
 .by_cases q:1<R.length
  .exact h.s1 u v (old ⋯ hu) (old q hv)
  .rw[(new ⋯ hu).1,(new q hv).1];exact e1 ⋯
 .have hl:=(VJ.mp hv).1;rw[Vj,VO]at hl;have ha:=old ⋯ ha;have hb:=old ⋯ hb;by_cases q:k+2<R.length
  .exact h.st k u v a b (old ⋯ hu) (old q hv) ha hb
  .rw[(new ⋯ hu).1,(new q hv).1];exact e2 k a b ⋯ ha hb
theorem Ly.pow{Q R:List (_h)}(h:Ly p A N Q R):∀(k:Nat){y:_h},R[k]?=some y->∃z:ah p,(Xp ^ p.toNat) ^ k=ak y+ak A*z
 |0,y,e=>⟨0,by rw[h.r0]at e;cases e;rw[uj,sC];grind⟩
 |1,y,e=>by have:=(VJ.mp e).1;have e1:=h.s1 _ y (Vk (by rw[h.ln];exact this)) e;exact⟨ak (Q[1]'(by rw[h.ln];exact this)),by rw[n?,uj,e1];grind⟩
 |k+2,y,e=>by
  have l2:=(VJ.mp e).1;obtain⟨a,ha⟩:∃a,R[k+1]?=some a:=⟨_,Vk ⋯⟩
  obtain⟨b,hb⟩:∃b,R[1]?=some b:=⟨_,Vk ⋯⟩
  obtain⟨x,hx⟩:∃x,Q[k+2]?=some x:=⟨_,Vk (by rw[h.ln];exact l2)⟩
  obtain⟨z1,e1⟩:=Ly.pow h (k+1) ha;obtain⟨z2,e2⟩:=Ly.pow h 1 hb;have e3:=h.st k x y a b hx e ha hb;rw[n?,uj]at e2;rw[n?,e1];generalize (Xp:ah p) ^ p.toNat=X at e2⊢;exact⟨ak x+ak a*z2+ak b*z1+ak A*z1*z2,by grind⟩
structure PwF(p:Int)(A:_h)(N n:Nat)(s:af)(i:Nat)(μ:MN.Env)(s':af):Prop where
 ex:∃q r qs rs x4 x5 x6,μ=[qI p, qL n, qL q, qL r, x4, x5, x6]/\Fr s s'/\s.length<=q/\s.length<=r/\q≠r/\lI s' q qs/\lI s' r rs/\rs.length=i+1/\Ly p A N (qs.map (·.2)) (rs.map (·.2))/\((qs++rs).map (·.1)).Nodup/\∀x∈qs++rs,s.length<=x.1
theorem K5(hp:dD p=true)(hA:d8 p A)(U:_h):Row p (bU p U A)/\Row p (iF p U A)/\(iF p U A).length<A.length/\(ak U:ah p)=ak A*ak (bU p U A)+ak (iF p U A):=by
 have hr:=au hp;have xN:¬ aM A % p=0:=by rw[hA.l1,V9 ⋯ ⋯];lia
 obtain⟨a,b,c,d,_⟩:=fM hp (as:=U) hA.ne xN;refine⟨a,b,c,?_⟩;rw[bR,wK,sS];exact mk_eq (d.trans (aQ.of_eq λk=>by rw[de,aV]))
theorem N0(hp:dD p=true)(ln:s[n]?=some (ay A))(hA:d8 p A)(hN:A.length=N+1)(hl:N<=100){i:Nat}(hi:i<N){μ:MN.Env}(h:PwF p A N n s i μ s'):
  ∃μ' pv,Th (μ.set 4 (some (.int (1+(i:Int))))) s'=.nx μ' pv/\PwF p A N n s (i+1) μ' pv:=by
 have hr:=au hp;have dz:0<p:=⋯
 have xN:¬ aM A % p=0:=by rw[hA.l1,V9 ⋯ ⋯];lia
 obtain⟨q,r,qs,rs,x4,x5,x6,rfl,F,fq,fr,nqr,Rq,Rr,nr,M,nd,lo⟩:=h.ex;have nq:qs.length=i+1:=by have:=M.ln;simpa[nr]using this
 obtain⟨K,hK⟩:=NE (1+(i:Int):Int)
 rw[<-hK];show ∃μ' pv,Th [qI p, qL n, qL q, qL r, qI K, x5, x6] s'=.nx μ' pv/\_
 -- T4 is parted
 obtain⟨ku,U,s1,e1,F1,l1,n1,u1,u2⟩:∃ku U s1,pwU [qI p, qL n, qL q, qL r, qI K, x5, x6] s'=.ok (.loc ku) s1/\Fr s' s1/\s1[ku]?=some (ay U)/\U.length<=100000/\((rs.map (·.2)).length=1->(ak U:ah p)=Xp ^ p.toNat)/\∀(k:Nat)a b,(rs.map (·.2)).length=k+2->(rs.map (·.2))[k+1]?=some a->(rs.map (·.2))[1]?=some b->(ak U:ah p)=ak a*ak b:=by
  by_cases h1:i=0
  .obtain⟨k,s1,e,F1,_,l⟩:=O5 (μ:=[some (.int p),some (.loc n),some (.loc q),some (.loc r),some (.int K),x5,x6]) (i:=0) (K:=p) (λ_=>rfl) ⋯ ⋯ s';have z:(K==1)=true:=by simp;lia
   refine⟨k,_,s1,?_,F1,l,by rw[Vj,V0];simp;lia,λ_=>by rw[rP,sC];grind,λk a b hk=>by rw[Vg]at hk;lia⟩;unfold pwU;generalize Tg 0=X at e⊢;simp![z,e]
  .have z:(K==1)=false:=by simp;lia
   have g:∀j:Nat,j<rs.length->∃c,rs[j]?=some c/\bJ (.loc r) (.int (j:Int)) s'=.ok (.loc c.1) s'/\s'[c.1]?=some (ay c.2)/\Row p c.2/\c.2.length<=N:=λj hj=>by have hw:=Vk hj;have mw:=V_ hw;have:=M.rr _ (VV mw);exact⟨_,hw,dB (ax Rr.l) (L2.jK (by rw[Vy,hw];rfl)),Rr.r _ mw,this.1,this.2⟩
   obtain⟨c1,HJ,g1,l1,rr1,rl1⟩:=g i ⋯;obtain⟨c2,HK,g2,l2,rr2,rl2⟩:=g 1 ⋯;have g1':bJ (.loc r) (.int (K-1)) s'=.ok (.loc c1.1) s':=by rw[show K-1=(i:Int) by lia];exact g1
   have g2':bJ (.loc r) (.int 1) s'=.ok (.loc c2.1) s':=g2;obtain⟨s1,k,e,F1,_,l⟩:=j! hp l1 l2 rr1 ⋯ ⋯;refine⟨k,_,s1,?_,F1,l,by have:=rA p c1.2 c2.2;lia,λh=>by rw[Vg]at h;lia,λk a b hk ha hb=>?_⟩
   .unfold pwU;generalize Tg 0=X;simp![z,g1',g2',e]
   .rw[Vg]at hk;rw[Vy,show k+1=i by lia,HJ]at ha;rw[Vy,HK]at hb;cases ha;cases hb;exact Fh dz _ _
 obtain⟨s2,k1,k2,e2,F2,o1,o2,n12,c1,c2⟩:=gQ hp (ax l1) (F1 _ _ (F _ _ ln)) hA.ne xN n1 ⋯;obtain⟨sq,sr,slt,dm⟩:=K5 hp hA U;have Ls:=F1.trans F2;have Rq2:=Rq.mono Ls;have Rr2:=Rr.mono Ls;have nqs:qs≠[]:=λe=>by rw[e]at nq;cases nq
 have nrs:rs≠[]:=λe=>by rw[e]at nr;cases nr
 have a1:=gM (v:=.loc k1) Rq2.l (by rw[Vg,Vp];lia);rw[show qs.map dI++[.loc k1]=(qs++[(k1,bU p U A)]).map dI from by rw[VS];rfl]at a1;have Rq3:=Rq2.aaK nqs (q:=(k1,bU p U A)) c1;have Rr3:=Rr2.Us Rq2 nqs nqr (.lst ((qs++[(k1,bU p U A)]).map dI));have c23:(s2.set q (.lst ((qs++[(k1,bU p U A)]).map dI)))[k2]?=some (ay (iF p U A)):=e? c2 (Rq2.nel nqs c2);have a2:=gM (v:=.loc k2) Rr3.l (by rw[Vg,Vp];lia);rw[show rs.map dI++[.loc k2]=(rs++[(k2,iF p U A)]).map dI from by rw[VS];rfl]at a2;have Rr4:=Rr3.aaK nrs (q:=(k2,iF p U A)) c23;have Rq4:=Rq3.Us Rr3 nrs (WU nqr) (.lst ((rs++[(k2,iF p U A)]).map dI));have fF:=F.len;have f1:=F1.len;have lt:∀x∈qs++rs,x.1<s'.length:=λx mx=>by
  rcases VF.mp mx with mx|mx
  .exact aU (Rq.r x mx)
  .exact aU (Rr.r x mx)
 refine⟨[some (.int p),some (.loc n),some (.loc q),some (.loc r),some (.int K),some (.loc ku),some (.tup [.loc k1,.loc k2])],_,?_,q,r,_,_,_,_,_,rfl,((F.trans Ls).set fq _).set fr _,fq,fr,nqr,Rq4,Rr4,by rw[Vj,nr];rfl,?_,?_,λx mx=>?_⟩
 .unfold Th;generalize pwU=X at e1⊢;simp![e1,e2,a! qf,a! vm,mI Rq2.l,a1,mI Rr3.l,a2]
 .rw[VS,VS];exact M.snoc sq sr (by show(iF p U A).length<=N;lia) (λh=>(u1 h).symm.trans dm) λk a b h1 h2 h3=>(u2 k a b h1 h2 h3).symm.trans dm
 .have pe:(qs++[(k1,bU p U A)]++(rs++[(k2,iF p U A)])).Perm ((k1,bU p U A)::(k2,iF p U A)::(qs++rs)):=by rw[VY,List.singleton_append];exact Yt.trans (.cons _ (by rw[<-VY];exact List.perm_append_singleton ..))
  have no:∀k,s1.length<=k->¬ k∈(qs++rs).map (·.1):=λk hk m=>by obtain⟨x,mx,rfl⟩:=VN.mp m;have:=lt x mx;lia
  refine(pe.map (·.1)).nodup_iff.mpr (WJ.mpr ⟨λm=>?_,WJ.mpr ⟨no k2 o2,nd⟩⟩);rcases VX.mp m with e|m
  .exact n12 e
  .exact no k1 o1 m
 .rcases VF.mp mx with mx|mx<;>rcases VF.mp mx with mx|mx
  .exact lo x (We _ mx)
  .rw[Vz.mp mx];show s.length<=k1;lia
  .exact lo x (VQ _ mx)
  .rw[Vz.mp mx];show s.length<=k2;lia
theorem um(hp:dD p=true)(ln:s[n]?=some (ay A))(hA:d8 p A)(hN:A.length=N+1)(n1:1<=N)(hl:N<=100):
  ∃q r qs rs s',PM.fj [.int p,.loc n] s=.ok (.tup [.loc q,.loc r]) s'/\Fr s s'/\s.length<=q/\s.length<=r/\q≠r/\lI s' q qs/\lI s' r rs/\rs.length=N/\Ly p A N (qs.map (·.2)) (rs.map (·.2))/\((qs++rs).map (·.1)).Nodup/\∀x∈qs++rs,s.length<=x.1:=by
 have hr:=au hp;obtain⟨s1,e1,F1,l1,_⟩:=ba (s:=s) [];obtain⟨s2,e2,F2,l2,m2⟩:=ba (s:=s1) [.loc s.length];obtain⟨s3,e3,F3,l3,m3⟩:=ba (s:=s2) [.int 1];obtain⟨s4,e4,F4,l4,m4⟩:=ba (s:=s3) [.loc s2.length];have F:=F1.trans (F2.trans (F3.trans F4));have f1:=F1.len;obtain⟨L,hL⟩:=NE ((A.length:Int):Int)
 have kl:bD [.loc n] s4=.ok (.int L) s4:=by rw[a_ (ax (F _ _ ln)),aE,hL]
 have rg:Ju [.int 1,.int (L-1)] s4=.ok (cO 1 (N-1),λ_=>True) s4:=by rw[Am ⋯ ⋯ ⋯ ⋯,show(L-1-1).toNat=N-1 by lia]
 have I0:PwF p A N n s 0 [qI p, qL n, qL s1.length, qL s3.length, qn, qn, qn] s4:=
  ⟨s1.length,s3.length,[(s.length,[])],[(s2.length,[1])],none,none,none,rfl,F,f1,⋯,⋯,⟨F4 _ _ (F3 _ _ l2),λq m=>by rw[Vz.mp m];exact F4 _ _ (F3 _ _ (F2 _ _ l1))⟩,⟨l4,λq m=>by rw[Vz.mp m];exact F4 _ _ l3⟩,rfl,⟨rfl,rfl,(λx m=>by rw[Vz.mp m];exact Row.nil p),(λx m=>by rw[Vz.mp m];exact⟨nC ⋯,n1⟩),rfl,(λ_ _ h=>by cases h),λ_ _ _ _ _ h=>by cases h⟩,by simp;lia,λx m=>by
   rcases VX.mp m with rfl|m
   .exact Vt _
   .rw[Vz.mp m];show s.length<=s2.length;lia⟩
 obtain⟨μ',s5,ef,H⟩:=dX (g:=λ_=>True) (a:=aA 4) (body:=Th) (λi μ s'=>PwF p A N n s i μ s') (cO 1 (N-1)) 0 _ s4 (by
  intro i u μ s' hu H;rw[VZ]at H⊢;unfold cO at hu;have hi:i<N-1:=by have:=aU hu;rw[Vg,VU]at this;exact this
  rw[Vy,Wg hi]at hu;have eu:=(VP hu).symm;subst eu;obtain⟨μ',pv,e,H'⟩:=N0 hp ln hA hN hl ⋯ H;refine⟨trivial,μ.set 4 (some (.int (1+(i:Int)))),?_,μ',pv,.inl e,H'⟩;obtain⟨q,r,qs,rs,x4,x5,x6,rfl,_⟩:=H.ex;rfl) (λ_ _ _=>trivial) I0
 rw[VZ]at H;unfold cO at H;rw[Vg,VU]at H;obtain⟨q,r,qs,rs,x4,x5,x6,rfl,F',fq,fr,nqr,Rq,Rr,nr,M,nd,lo⟩:=H.ex;refine⟨q,r,qs,rs,s5,?_,F',fq,fr,nqr,Rq,Rr,⋯,M,nd,lo⟩;have a1:bB (aa (bB ai) ai) [qI p, qL n, qn, qn, qn, qn, qn] s=.ok (.loc s1.length) s2:=by rw[fg (wY (v:=.loc s.length) (s1:=s1) (by rw[fg (vs:=[]) (s1:=s) rfl ⋯,e1])) (by show 1<=1000;decide),e2]
 have a2:bB (aa (bB (aa cm ai)) ai) [qI p, qL n, qL s1.length, qn, qn, qn, qn] s2=.ok (.loc s3.length) s4:=by rw[fg (wY (v:=.loc s2.length) (s1:=s3) (by rw[fg (vs:=[.int 1]) (s1:=s2) rfl ⋯,e3])) (by show 1<=1000;decide),e4]
 unfold PM.fj;rw[bH (np:=2) (us:=[aj.int p,.loc n]) rfl];show(az (aK 2 (bB (aa (bB ai) ai))) (az (aK 3 (bB (aa (bB (aa cm ai)) ai))) (az (ic (kx (aa cm (aa (ag jr (ao bD (aa bT ai)) cm) ai))) (aA 4) Th) (bZ (gp (aa d6 (aa d! ai)))))) [qI p, qL n, qn, qn, qn, qn, qn] s).fin=_;generalize Th=B at ef⊢;generalize bB (aa (bB ai) ai)=M1 at a1⊢;generalize bB (aa (bB (aa cm ai)) ai)=M2 at a2⊢;simp![iY,gv,Vp,a1,a2,kl,rg,ef]
theorem Sy(l:_h)(n:Nat):(ak (l++List.replicate n 0):ah p)=ak l:=fV λk=>by
 rcases Wx k l.length with h|h
 .exact Cm h
 .obtain⟨i,rfl⟩:∃i,k=l.length+i:=⟨k-l.length,⋯⟩
  rw[Cn,dH (ns:=l) ⋯];have:=Kb n [] i;rw[Wc,cz]at this;rw[this];split<;>rfl
theorem N1(hp:0<p)(B C:_h):(ak (jF p B C):ah p)=ak B-ak C:=by show _=(ak B:ah p) + -(ak C);rw[JO,sS];exact mk_eq ((vA hp B C).trans (aQ.of_eq λk=>by rw[de,jO];lia))
theorem r_(hp:dD p=true){r:Nat}{rs:List Cr}(Rr:lI s r rs)(nr:rs.length=N)(hv:∀q∈rs,Row p q.2/\q.2.length<=N)(hl:N<=100){f:Nat}(hf:f<=N):
  ∃c cs s',PM.cI [.int p,.loc r,.int (f:Int)] s=.ok (.loc c) s'/\Fr s s'/\lI s' c cs/\cs.length=N-f/\(∀q∈cs,pU p N q.2)/\∀(k:Nat)m R,cs[k]?=some m->rs[f+k]?=some R->(ak m.2:ah p)=ak R.2-Xp ^ (f+k):=by
 have hr:=au hp;have dz:0<p:=⋯
 obtain⟨s1,e1,F1,l1,_⟩:=ba (s:=s) [];obtain⟨c,hc⟩:=NE s.length
 rw[<-hc]at l1;obtain⟨L,hL⟩:=NE ((N:Int):Int)
 obtain⟨FI,hFI⟩:=NE ((f:Int):Int)
 rw[<-hFI];have kl:∀{s'},Fr s s'->bD [.loc r] s'=.ok (.int L) s':=λF=>by rw[a_ (ax (F _ _ Rr.l)),Vg,nr,hL]
 have rg:Ju [.int FI,.int L] s1=.ok (cO FI (N-f),λ_=>True) s1:=by rw[Am ⋯ ⋯ ⋯ ⋯,show(L-FI).toNat=N-f by lia]
 obtain⟨μ',s2,ef,cs,F2,l2,n2,v2,w2,x4,x5,rfl⟩:=dX (g:=λ_=>True) (a:=aA 4) (body:=chB) (λi μ s'=>∃cs:List Cr,Fr s s'/\lI s' c cs/\cs.length=i/\(∀q∈cs,q.1≠c/\pU p N q.2)/\(∀(k:Nat)m R,cs[k]?=some m->rs[f+k]?=some R->(ak m.2:ah p)=ak R.2-Xp ^ (f+k))/\∃x4 x5,μ=[qI p, qL r, qI FI, qL c, x4, x5]) (cO FI (N-f)) 0 [qI p, qL r, qI FI, qL c, qn, qn] s1 (by
  rintro i u μ s' hu ⟨cs,F,lc,nc,vc,wc,x4,x5,rfl⟩;rw[VZ]at nc⊢;unfold cO at hu;have hi:i<N-f:=by have:=aU hu;rw[Vg,VU]at this;exact this
  rw[Vy,Wg hi]at hu;have eu:=(VP hu).symm;dsimp only at eu;subst eu;obtain⟨K,hK⟩:=NE (FI+(i:Int):Int)
  rw[<-hK];obtain⟨j,hj⟩:∃j:Nat,K=(j:Int):=⟨f+i,⋯⟩
  obtain⟨⟨k,R⟩,hw⟩:∃v,rs[j]?=some v:=⟨_,Vk ⋯⟩
  have mw:=V_ hw;have l:s[k]?=some (ay R):=Rr.r _ mw;obtain⟨rR,wR⟩:=hv _ mw;have b1:bJ (.loc r) (.int K) s'=.ok (.loc k) s':=dB (ax (F _ _ Rr.l)) (by rw[hj];exact L2.jK (by rw[Vy,hw];rfl));obtain⟨ku,s3,b2,F3,_,l3⟩:=O5 (μ:=[some (.int p),some (.loc r),some (.int FI),some (.loc c),some (.int K),x5]) (i:=4) (K:=K) (λ_=>rfl) ⋯ ⋯ s';have lU:(List.replicate K.toNat (0:Int)++[1]).length<=N:=by rw[Vj,V0,VO];lia
  have eU:(ak (List.replicate K.toNat (0:Int)++[1]):ah p)=Xp ^ (f+i):=by rw[rP,sC,show K.toNat=f+i by lia];generalize (Xp:ah p) ^ (f+i)=X;grind
  generalize List.replicate K.toNat (0:Int)++[1]=U at l3 lU eU;obtain⟨s4,k4,b4,F4,_,l4⟩:=nF hp (F3 _ _ (F _ _ l)) l3 (by have:R.length<=N:=wR;lia) ⋯;have lC:(jF p R U).length<=N:=by have:=rE p R U;have:R.length<=N:=wR;lia
  have rC:Row p (jF p R U):=Row.of dz _;have K4:=F.trans (F3.trans F4);obtain⟨g5,k5,b5,o5,l5⟩:=jE (L:=L) (ax l4) ⋯ ⋯;obtain⟨s5,hs5⟩:=NE (s4++g5)
  have F5:Fr s4 s5:=by rw[hs5];exact Fr.app _ _
  rw[<-hs5]at b5 l5;have Lz:=F3.trans (F4.trans F5);have lc5:=Lz _ _ lc.l;have a6:=gM (v:=.loc k5) lc5 (by rw[Vg,Vp];lia);have S4:=aU lc.l;have f34:=(F3.trans F4).len;obtain⟨M,hM⟩:=NE (jF p R U++List.replicate (L-(jF p R U).length).toNat 0)
  have eM:(ak M:ah p)=ak R-Xp ^ (f+i):=by rw[hM,Sy,N1 dz,eU]
  have iM:pU p N M:=⟨by rw[hM,Vj,V0];lia,λx mx=>by
   rw[hM]at mx;rcases VF.mp mx with mx|mx
   .exact rC.HQ x mx
   .rw[(List.mem_replicate.mp mx).2];lia⟩
  rw[<-hM]at l5;rw[show cs.map dI++[.loc k5]=(cs++[(k5,M)]).map dI from by rw[VS];rfl]at a6;have vn:∀q∈cs++[(k5,M)],q.1≠c/\pU p N q.2/\s5[q.1]?=some (ay q.2):=λq mq=>by
   rcases VF.mp mq with m|m
   .exact⟨(vc q m).1,(vc q m).2,Lz _ _ (lc.r q m)⟩
   .rw[Vz.mp m];exact⟨by show k5≠c;lia,iM,l5⟩
  refine⟨trivial,_,rfl,[qI p, qL r, qI FI, qL c, qI K, qL k4],s5.set c (.lst ((cs++[(k5,M)]).map dI)),.inl ?_,cs++[(k5,M)],(F.trans Lz).set ⋯ _,⟨gz lc5,λq mq=>e? (vn q mq).2.2 (WU (vn q mq).1)⟩,by rw[Vj,nc];rfl,λq mq=>⟨(vn q mq).1,(vn q mq).2.1⟩,λk' m R' hm hR=>?_,_,_,rfl⟩
  .show chB [qI p, qL r, qI FI, qL c, qI K, x5] s'=_;unfold chB;have lcA:=F3.trans F4 _ _ lc.l;generalize Tg 4=X at b2⊢;simp![b1,b2,b4,kl K4,mI lcA,b5,a6]
  .by_cases z:k'<cs.length
   .rw[V3 z]at hm;exact wc k' m R' hm hR
   .have:=(VJ.mp hm).1;rw[Vj,VO]at this;rw[V2 ⋯,show k'-cs.length=0 by lia]at hm;cases hm;rw[show f+k'=j by lia,hw]at hR;cases hR;rw[show k'=i by lia];exact eM) (λ_ _ _=>trivial) ⟨[],F1,⟨l1,λ_ m=>by cases m⟩,rfl,(λv m=>by cases m),(λ_ _ _ h=>by cases h),_,_,rfl⟩
 rw[VZ]at n2;unfold cO at n2;rw[Vg,VU]at n2;refine⟨c,cs,s2,?_,F2,l2,n2,λv mv=>(v2 v mv).2,w2⟩;have a1:bB ai [qI p, qL r, qI FI, qn, qn, qn] s=.ok (.loc c) s1:=by rw[fg (vs:=[]) (s1:=s) rfl ⋯,e1,hc]
 unfold PM.cI;rw[bH (np:=3) (us:=[aj.int p,.loc r,.int FI]) rfl];show(az (aK 3 (bB ai)) (az (ic (kx (aa d6 (aa (ao bD (aa bT ai)) ai))) (aA 4) chB) (bZ d!)) [qI p, qL r, qI FI, qn, qn, qn] s).fin=_;generalize chB=B at ef⊢;generalize bB ai=M1 at a1⊢;simp![iY,gv,a1,kl F1,rg,ef]
theorem K7{rs cs:List Cr}{Q:List (_h)}(M:Ly p A N Q (rs.map (·.2)))(nr:rs.length=N){f:Nat}(hf:f<=N)(nc:cs.length=N-f)(iC:∀q∈cs,pU p N q.2)(h:∀(k:Nat)m R,cs[k]?=some m->rs[f+k]?=some R->(ak m.2:ah p)=ak R.2-Xp ^ (f+k)):Sr p A N f (cs.map (·.2)):=
 ⟨by rw[Vg];lia,λm mm=>by
  obtain⟨q,mq,rfl⟩:=VN.mp mm;exact(iC q mq).l,λk m hm=>by
  rw[Vy]at hm;obtain⟨q,hq,rfl⟩:=Wr.mp hm;have lk:=(VJ.mp hq).1;obtain⟨R,hR⟩:∃R,rs[f+k]?=some R:=⟨_,Vk ⋯⟩
  obtain⟨z,e⟩:=M.pow (f+k) (y:=R.2) (by rw[Vy,hR];rfl);refine⟨-z,?_⟩;rw[h k q R hq hR,e];generalize (Xp:ah p) ^ (f+k)=X
  grind⟩
end
section
variable{N:Nat}{s:af}{A:_h}
abbrev spB:MB:=e_ (iW jM d! (aa (ao PM.eR (aa bc (aa fY (aa d6 ai)))) ai))
end
section
variable{N:Nat}{s:af}{A:_h}
def Tj(G:_h)(y:ah p):Prop:=∃(c:Int)(z:ah p),y-ak [c]=ak G*z
theorem Tj.dvd{G H:_h}{y x:ah p}(h:Tj G y)(e:ak G=ak H*x):Tj H y:=by obtain⟨c,z,h⟩:=h;exact⟨c,x*z,by rw[h,e];exact dg _ _ _⟩
structure PaF(p:Int)(A B:_h)(s:af)(c:Nat)(i:Nat)(s':af)(ps:List Cr):Prop where
 a:PaI p A B s c i s' ps
 bz:∃u v:ah p,qC (ps.map (·.2))=u*ak A+v*xO (ak B) i
 fh:∀q∈ps,s.length<=q.1
theorem N2(hp:dD p=true){A:_h}{b c:Nat}(ln:s[n]?=some (ay A))(hA:d8 p A)(hl:A.length<=1000)(lb:s[b]?=some (ay B))(lB:B.length<=1000)(fc:s.length<=c){i:Nat}(hi:(i:Int)<p){ps:List Cr}(h:PaF p A B s c i s' ps){x5:Option aj}:
  ∃y6 pv QA,paB [qI p, qL n, qL m, qL b, qL c, qI (i:Int), x6] s'=.nx [qI p, qL n, qL m, qL b, qL c, qI (i:Int), y6] pv/\PaF p A B s c (i+1) pv QA:=by
 have hr:=au hp;have dz:0<p:=⋯
 obtain⟨h,⟨u0,v0,bz⟩,fh⟩:=h;obtain⟨K,hK⟩:=NE ((i:Int):Int)
 rw[<-hK];obtain⟨s1,e1,F1,l1,_⟩:=ba (s:=s') [.int K];obtain⟨s2,k2,b2,F2,_,l2⟩:=nF hp (F1 _ _ (h.fr _ _ lb)) (show s1[s'.length]?=some (ay [K])from l1) ⋯ (by show 1<=100000;decide);have lD:(jF p B [K]).length<=1001:=by have:=rE p B [K];rw[VO]at this;lia
 obtain⟨s3,k3,G,b3,F3,f3,l3,gG,_⟩:=AD hp (F2 _ _ (F1 _ _ (h.fr _ _ ln))) l2 hA.row (Row.of dz _) (.inl hA.ne) ⋯ ⋯;obtain⟨mG,d1,d2,u1,v1,b1⟩:=j' gG;have f03:=(h.fr.trans (F1.trans F2)).len;have b1':(ak G:ah p)=u1*ak A+v1*(ak B-ak [(i:Int)]):=by rw[b1,show(ak (jF p B [K]):ah p)=_ from qp dz B K,hK]
 have bz':∃u v:ah p,qC (ps.map (·.2))*ak G=u*ak A+v*xO (ak B) (i+1):=by
  refine⟨u0*ak G+v0*xO (ak B) i*u1,v0*v1,?_⟩;show _=_+v0*v1*(xO (ak B) i*(ak B-ak [(i:Int)]));generalize (qC (ps.map (·.2)):ah p)=P at bz⊢;generalize (xO (ak B) i:ah p)=S at bz⊢
  grind
 have F:=F1.trans (F2.trans F3);obtain⟨L,hL⟩:=NE ((G.length:Int):Int)
 have kl:bD [.loc k3] s3=.ok (.int L) s3:=by rw[a_ (ax l3),aE,hL]
 have nm1:∀q∈ps,∃a:Nat,a<i+1/\∃x:ah p,ak (jF p B [(a:Int)])=ak q.2*x:=λq mq=>by obtain⟨a,ha,x⟩:=h.nm q mq;exact⟨a,⋯,x⟩
 have ln1:=h.ln;by_cases hg:1<G.length
 .have z:decide ((1:Int)<L)=true:=V8 ⋯;have Lr:=h.rs.mono F;have a4:=gM (v:=.loc k3) Lr.l (by rw[Vg,Vp];lia);have e4:ps.map dI++[.loc k3]=(ps++[(k3,G)]).map dI:=by rw[VS];rfl
  rw[e4]at a4;have mn1:∀q∈ps++[(k3,G)],d8 p q.2/\2<=q.2.length:=λq mq=>by
   rcases VF.mp mq with mq|mq
   .exact h.mn q mq
   .rw[Vz.mp mq];exact⟨mG,hg⟩
  refine⟨some (.loc k3),_,ps++[(k3,G)],by simp![Vp,<-e1,b2,b3,kl,z,mI Lr.l,a4],⟨(h.fr.trans F).set fc _,Lr.put (λq mq=>by rw[Vz.mp mq];exact l3) λq mq=>(mn1 q mq).1.ne,by rw[Vj,VO];lia,mn1,λq mq=>?_,λq mq=>?_,?_⟩,?_,λq mq=>?_⟩
  .rcases VF.mp mq with mq|mq
   .exact h.dv q mq
   .rw[Vz.mp mq];exact⟨_,d1⟩
  .rcases VF.mp mq with mq|mq
   .exact nm1 q mq
   .rw[Vz.mp mq];exact⟨i,⋯,_,by rw[<-hK];exact d2⟩
  .refine WR.mpr ⟨h.cp,W7 ..,λq mq r mr=>?_⟩;rw[Vz.mp mr];obtain⟨a,ha,x,e⟩:=h.nm q mq;exact B! hp (a:=(a:Int)) (b:=K) ⋯ ⋯ ⋯ e d2
  .rw[VS,vK,show(qC ([(k3,G)].map (·.2)):ah p)=ak G from by show ak G*1=ak G;grind];exact bz'
  .rcases VF.mp mq with mq|mq
   .exact fh q mq
   .rw[Vz.mp mq];show s.length<=k3;lia
 .have z:decide ((1:Int)<L)=false:=V5 ⋯;refine⟨some (.loc k3),s3,ps,by simp![Vp,<-e1,b2,b3,kl,z],⟨h.fr.trans F,h.rs.mono F,⋯,h.mn,h.dv,nm1,h.cp⟩,?_,fh⟩;have l0:=VC.mpr mG.ne;rw[sM mG ⋯,sC]at bz';obtain⟨u,v,e⟩:=bz';exact⟨u,v,by rw[<-e];grind⟩
theorem yf(hp:dD p=true)(ln:s[n]?=some (ay A))(hA:d8 p A)(hl:A.length<=1000)(hm:s[m]?=some (ay U))(hU:U.length<=1000){zU:ah p}(hy:(ak U:ah p) ^ p.toNat-ak U=ak A*zU):
  ∃c ps s',PM.eR [.int p,.loc n,.loc m] s=.ok (.loc c) s'/\Fr s s'/\lI s' c ps/\DU p A (ps.map (·.2))/\(ak A:ah p)=qC (ps.map (·.2))/\(∀G∈ps.map (·.2),Tj G (ak U:ah p))/\∀q∈ps,s.length<=q.1:=by
 have hr:=au hp;have dz:0<p:=⋯
 have xN:¬ aM A % p=0:=by rw[hA.l1,V9 ⋯ ⋯];lia
 have c1:=d_ (iK hp) (ax hm) (by rw[Vp];lia);have eC:=mk_eq (Row.cg dz U);obtain⟨C,hC⟩:=NE (b! (U.map (·.fmod p)))
 have lC:C.length<=U.length:=by have:=gN (U.map (·.fmod p));rw[Vg]at this;rw[hC];lia
 rw[<-hC]at c1 eC;obtain⟨s1,e1,F1,l1,_⟩:=ba (s:=s) (C.map aj.int);rw[<-e1]at c1;obtain⟨s2,q1,b,c2,F2,_,_,_,_,lb⟩:=gQ hp (ax l1) (F1 _ _ ln) hA.ne xN ⋯ ⋯;obtain⟨_,_,lB,dm⟩:=K5 hp hA C;obtain⟨B,hB⟩:=NE (iF p C A)
 rw[<-hB]at lb lB dm;have eU:(ak U:ah p)=ak B+ak A*ak (bU p C A):=by rw[<-show(ak C:ah p)=ak U from eC,dm];grind
 obtain⟨s3,e3,F3,l3,_⟩:=ba (s:=s2) [];have F:=F1.trans (F2.trans F3);have Ls:=F1.trans F2;obtain⟨c,hc⟩:=NE s2.length
 rw[<-hc]at l3;obtain⟨P,hP⟩:∃P:Nat,p=(P:Int):=⟨p.toNat,⋯⟩
 obtain⟨μ',s4,ef,ps,H,x5,x6,rfl⟩:=AN (a:=aA 5) (body:=paB) (λi μ s'=>∃ps,PaF p A B s2 c i s' ps/\∃x5 x6,μ=[qI p, qL n, qL m, qL b, qL c, x5, x6]) P [qI p, qL n, qL m, qL b, qL c, qn, qn] s3 (by
  rintro i μ s' hi ⟨ps,H,x5,x6,rfl⟩;obtain⟨y6,pv,QA,e,H'⟩:=N2 (m:=m) (x5:=x5) (x6:=x6) hp (Ls _ _ ln) hA hl lb ⋯ (Xu hc.symm) ⋯ H;exact⟨_,rfl,_,pv,e,QA,H',_,_,rfl⟩) ⟨[],⟨⟨F3,⟨l3,λq m=>by cases m⟩,Vt _,(λq m=>by cases m),(λq m=>by cases m),(λq m=>by cases m),.nil⟩,⟨0,1,by show(1:ah p)=0*ak A+1*1;grind⟩,λ_ m=>by cases m⟩,_,_,rfl⟩
 obtain⟨H,⟨u,v,bz⟩,fh⟩:=H;have NT:DU p A (ps.map (·.2)):=⟨λG mG=>by
  obtain⟨q,mq,rfl⟩:=VN.mp mG;exact H.mn q mq,λG mG=>by
  obtain⟨q,mq,rfl⟩:=VN.mp mG;exact H.dv q mq,V?.mpr H.cp⟩
 refine⟨c,ps,s4,?_,Ls.trans H.fr,H.rs,NT,?_,λG mG=>?_,λq mq=>V! Ls.len (fh q mq)⟩
 .have a3:bB ai [qI p, qL n, qL m, qL b, qn, qn, qn] s2=.ok (.loc c) s3:=by rw[fg (vs:=[]) (s1:=s2) rfl ⋯,e3,hc]
  unfold PM.eR;rw[bH (np:=3) (us:=[aj.int p,.loc n,.loc m]) rfl];show(az _ (az (aK 4 (bB ai)) (az (ic (f_ (aa bc ai)) (aA 5) paB) (bZ fY))) [qI p, qL n, qL m, qn, qn, qn, qn] s).fin=_;generalize paB=B' at ef⊢;generalize bB ai=M1 at a3⊢;simp![iY,gv,c1,c2,a! vm,a3,Kw hP ⋯,ef]
 .obtain⟨z1,e1⟩:=pow_mod hp eU;rw[hy]at e1;rw[show P=p.toNat by lia,<-O3 hp]at bz;obtain⟨y,ey⟩:=AI NT.dv NT.cp;obtain⟨C',hC',eC'⟩:=Fy ⋯ NT.mn;rw[<-eC']at bz ey⊢;have:=Sj dz hA hC' ey (t:=u+v*(zU-z1)) (by
   rw[bz];generalize (ak B:ah p) ^ p.toNat-ak B=X at e1⊢
   grind)
  rw[this]
 .obtain⟨q,mq,rfl⟩:=VN.mp mG;obtain⟨a,_,x,e⟩:=H.nm q mq;rw[qp dz]at e;obtain⟨y,ey⟩:=H.dv q mq;exact⟨(a:Int),x+y*ak (bU p C A),by rw[eU,ey];grind⟩
theorem K8{i:Nat}{G:_h}(h:Gs[i]?=some G):(qC (Gs.take (i+1)):ah p)=qC (Gs.take i)*ak G:=by
 rw[Xx,h,vK];show _*(ak G*1)=_
 grind
structure Wf(p:Int)(A:_h)(ts:List (ah p))(Gs:List (_h)):Prop where
 f:DU p A Gs
 e:(ak A:ah p)=qC Gs
 c:∀t∈ts,∀G∈Gs,Tj G t
theorem D6(hp:dD p=true)(hA:Row p A)(nA:A≠[])(hl:A.length<=500){ts:List (ah p)}{ps:List Cr}(hr:lI s n ps)(hf:Wf p A ts (ps.map (·.2)))(hm:s[m]?=some (ay U))(hU:U.length<=1000){zU:ah p}(hy:(ak U:ah p) ^ p.toNat-ak U=ak A*zU):
  ∃c qs s',PM.ke [.int p,.loc n,.loc m] s=.ok (.loc c) s'/\Fr s s'/\lI s' c qs/\Wf p A (ts++[ak U]) (qs.map (·.2))/\∀q∈qs,s.length<=q.1:=by
 have hpr:=au hp;have dz:0<p:=⋯
 obtain⟨s1,e1,F1,l1,_⟩:=ba (s:=s) [];obtain⟨c,hc⟩:=NE s.length
 rw[<-hc]at l1;obtain⟨μ',s2,ef,qs,F2,r2,S2,pe,cU,fh,x4,rfl⟩:=dX (g:=λaI=>aq aI n=some (ps.map dI)) (a:=aA 4) (body:=spB) (λi μ s'=>∃qs,Fr s s'/\lI s' c qs/\Kx p (ps.map (·.2)) i (qs.map (·.2))/\(qC ((ps.map (·.2)).take i):ah p)=qC (qs.map (·.2))/\(∀G∈qs.map (·.2),Tj G (ak U:ah p))/\(∀q∈qs,s.length<=q.1)/\∃x4,μ=[qI p, qL n, qL m, qL c, x4]) (ps.map dI) 0 [qI p, qL n, qL m, qL c, qn] s1 (by
  rintro i u μ s' hu ⟨qs,F,rs,S,pe,cU,fh,x4,rfl⟩;rw[VZ]at S pe⊢;rw[Vy]at hu;obtain⟨q,hq,rfl⟩:=Wr.mp hu;have mq:=V_ hq;have hG:(ps.map (·.2))[i]?=some q.2:=by rw[Vy,hq];rfl
  have mG:q.2∈ps.map (·.2):=V_ hG;have lq:=hf.f.len dz hA nA _ mG;obtain⟨x,ex⟩:=hf.f.dv _ mG;obtain⟨c',QA,pv,b1,F',r',f',pq,cq,fh'⟩:=yf (zU:=x*zU) hp (F _ _ (hr.r q mq)) (hf.f.mn _ mG).1 ⋯ (F _ _ hm) hU (by rw[hy,ex];exact dg _ _ _);have S':=S.put hG hf.f.cp f';rw[<-VS]at S';have fA:=S'.NT (A:=A) hf.f.dv;have HN:=fA.HN dz hA nA;rw[Vg,Vj]at HN;have A!:=rs.mono F';have a1:=KW A!.l r'.l (by rw[Vg,Vg];lia);rw[<-VS]at a1;have Sx:=rs.l;refine⟨ax (F _ _ hr.l),_,rfl,[qI p, qL n, qL m, qL c, qL q.1],pv.set c (.lst ((qs++QA).map dI)),.inl ?_,qs++QA,(F.trans F').set (Xu hc.symm) _,A!.put r'.r (λx mx=>(S'.mn _ (VV mx)).1.ne),S',?_,λG m=>?_,λx mx=>?_,_,rfl⟩
  .show spB [qI p, qL n, qL m, qL c, qL q.1] s'=_;simp![mI Sx,b1,a1]
  .rw[K8 hG,pe,pq,VS,vK]
  .rw[VS]at m;rcases VF.mp m with m|m
   .exact cU G m
   .exact cq G m
  .rcases VF.mp mx with mx|mx
   .exact fh x mx
   .exact V! F.len (fh' x mx)) (λ_ s'⟨_,F,_⟩=>ax (F _ _ hr.l)) ⟨[],F1,⟨l1,λq m=>by cases m⟩,Kx.nil,rfl,(λ_ m=>by cases m),(λ_ m=>by cases m),_,rfl⟩
 rw[VZ]at pe;have fA:=S2.NT hf.f.dv;refine⟨c,qs,s2,?_,F2,r2,⟨fA,?_,λt mt G mG=>?_⟩,fh⟩
 .have a3:bB ai [qI p, qL n, qL m, qn, qn] s=.ok (.loc c) s1:=by rw[fg (vs:=[]) (s1:=s) rfl ⋯,e1,hc]
  unfold PM.ke;rw[bH (np:=3) (us:=[aj.int p,.loc n,.loc m]) rfl];show(az (aK 3 (bB ai)) (az (ic (f9 bT) (aA 4) spB) (bZ d!)) [qI p, qL n, qL m, qn, qn] s).fin=_;generalize spB=B' at ef⊢;generalize bB ai=M1 at a3⊢;simp![iY,gv,a3,dG (ax (F1 _ _ hr.l)),ef]
 .rw[hf.e,<-pe,W_ (by rw[Vg,Vg];exact Vt _)]
 .rcases VF.mp mt with mt|mt
  .obtain⟨G',mG',x,e⟩:=S2.dv G mG;exact(hf.c t mt G' (List.mem_of_mem_take mG')).dvd e
  .rw[Vz.mp mt];exact cU G mG
structure Whl(p:Int)(A:_h)(Gs:List (_h)):Prop where
 f:DU p A Gs
 e:(ak A:ah p)=qC Gs
 i:∀G∈Gs,Bb p G
theorem D7(hp:dD p=true)(ln:s[n]?=some (ay A))(hA:d8 p A)(sq:b? (ak A:ah p) (dP (ak A)))(hN:A.length=N+1)(n1:1<=N)(hl:N<=100):
  ∃c qs s',PM.gh [.int p,.loc n] s=.ok (.loc c) s'/\Fr s s'/\lI s' c qs/\Whl p A (qs.map (·.2))/\∀q∈qs,q.1=n\/s.length<=q.1:=by
 have hpr:=au hp;obtain⟨q,r,qs,rs,s1,b1,F1,_,_,_,_,R1,m1,M,_,_⟩:=um hp ln hA hN n1 hl;obtain⟨s2,e2,F2,l2,_⟩:=ba (s:=s1) [.loc n];obtain⟨c3,cs,s3,b3,F3,R3,m3,v3,w3⟩:=r_ (f:=0) hp (R1.mono F2) m1 (λq mq=>M.rr _ (VV mq)) hl (Wd _);have C:=K7 M m1 (Wd _) m3 v3 w3;obtain⟨a4,zs,D,Lw,ks,s4,b4,F4,_,R4,G,mz⟩:=Hv hp R3 v3 ⋯ ⋯;have W:=K0 (ms:=cs.map (·.2)) (W:=N) λm mm=>by obtain⟨q,mq,rfl⟩:=VN.mp mm;exact(v3 q mq).l
 obtain⟨L,hL⟩:=NE ((A.length:Int):Int)
 have ui:=F1.trans (F2.trans F3);have K4:=ui.trans F4;have kl:bD [.loc n] s3=.ok (.int L) s3:=by rw[a_ (ax (ui _ _ ln)),aE,hL]
 rw[show((N:Nat):Int)=L-1 by lia]at b4;have b3':PM.cI [.int p,.loc r,.int 0] s2=.ok (.loc c3) s3:=b3;obtain⟨c2,Bn⟩:=NE s1.length
 rw[<-Bn]at l2;have hz:∀q∈zs,q.2.length<=1000/\∃z:ah p,(ak q.2:ah p) ^ p.toNat-ak q.2=ak A*z:=λq mq=>by
  have:q.2∈Lw.map (·.drop N):=by rw[<-mz];exact VV mq
  obtain⟨R,mR,e⟩:=VN.mp this;have lR:=(G.iL R mR).l;rw[Vg]at lR;rw[<-e];exact⟨by rw[Xk];lia,Ss hp C G W mR⟩
 obtain⟨μ',s5,ef,c,qs,F5,r5,f5,fh,x4,rfl⟩:=dX (g:=λaI=>aq aI a4=some (zs.map dI)) (a:=aA 4) (body:=aK 3 (ao PM.ke (aa bc (aa d! (aa fY ai))))) (λi μ s'=>∃c qs,Fr s4 s'/\lI s' c qs/\Wf p A ((zs.take i).map λq=>ak q.2) (qs.map (·.2))/\(∀q∈qs,q.1=n\/s.length<=q.1)/\∃x4,μ=[qI p, qL n, qL r, qL c, x4]) (zs.map dI) 0 [qI p, qL n, qL r, qL c2, qn] s4 (by
  rintro i u μ s' hu ⟨c,qs,F,rs,f,fh,x4,rfl⟩;rw[VZ]at f⊢;rw[Vy]at hu;obtain⟨q,hq,rfl⟩:=Wr.mp hu;have mq:=V_ hq;obtain⟨lq,z,ez⟩:=hz q mq;obtain⟨c',qs',pv,b,F',r',f',fh'⟩:=D6 hp hA.row hA.ne ⋯ rs f (F _ _ (R4.r q mq)) lq ez;refine⟨ax (F _ _ R4.l),[qI p, qL n, qL r, qL c, qL q.1],rfl,[qI p, qL n, qL r, qL c', qL q.1],pv,.inl (by simp![b]),c',qs',F.trans F',r',?_,λx mx=>.inr (V! (K4.trans F).len (fh' x mx)),_,rfl⟩;rw[Xx,hq,VS];exact f') (λ_ s'⟨_,_,F,_⟩=>ax (F _ _ R4.l)) ⟨c2,[(n,A)],Fr.refl _,⟨F4 _ _ (F3 _ _ l2),λq mq=>by rw[Vz.mp mq];exact K4 _ _ ln⟩,⟨DU.self hA ⋯,by show ak A=ak A*1;grind,λ_ m=>by cases m⟩,(λq mq=>.inl (by rw[Vz.mp mq])),_,rfl⟩
 rw[VZ,Vg,W_ (Vt _)]at f5;refine⟨c,qs,s5,?_,K4.trans F5,r5,⟨f5.f,f5.e,λH mH=>?_⟩,fh⟩
 .have a2:bB (aa bT ai) [qI p, qL n, qL r, qn, qn] s1=.ok (.loc c2) s2:=by rw[fg (wY (v:=.loc n) (s1:=s1) rfl) (by show 1<=1000;decide),e2,Bn]
  unfold PM.gh;rw[bH (np:=2) (us:=[aj.int p,.loc n]) rfl];generalize aK 3 (ao PM.ke (aa bc (aa d! (aa fY ai))))=B' at ef⊢;generalize bB (aa bT ai)=M1 at a2⊢;simp![iY,gv,b1,a! vm,a2,b3',kl,b4,dG (ax R4.l),ef]
 .obtain⟨h,eh⟩:=f5.f.dv H mH;obtain⟨mH1,mH2⟩:=f5.f.mn H mH;rw[eh]at sq;obtain⟨q1,q2,_⟩:=SA.rK j_ sq;exact KL hp mH1 mH2 q2 (KN hp eh q1 (Ck hp hA hN C G W eh λR mR=>by
   have:R.drop N∈zs.map (·.2):=by rw[mz];exact VV mR
   obtain⟨q,mq,e⟩:=VN.mp this;have:=f5.c (ak q.2) (VV mq) H mH;rw[e]at this;exact this))
end
abbrev Fa:=Cr×Int
def kq(f:Fa):aj:=.tup [.loc f.1.1,.int f.2]
structure K9(s:af)(c:Nat)(fs:List Fa):Prop where
 l:s[c]?=some (.lst (fs.map kq))
 r:∀f∈fs,s[f.1.1]?=some (ay f.1.2)
theorem K9.mono{s:af}{c:Nat}{fs:List Fa}(h:K9 s c fs)(F:Fr s s'):K9 s' c fs:=⟨F _ _ h.l,λq m=>F _ _ (h.r q m)⟩
theorem K9.ne{s:af}{c k:Nat}{fs:List Fa}(h:K9 s c fs)(hk:s[k]?=some (ay R))(nR:R≠[]):c≠k:=by
 rintro rfl;have:=h.l;rw[hk]at this;cases R with
 |nil=>exact nR rfl
 |cons x R=>
  cases fs with
  |nil=>cases this
  |cons q fs=>cases this
theorem K9.put{s:af}{c:Nat}{fs gs:List Fa}(h:K9 s c fs)(hq:∀f∈gs,s[f.1.1]?=some (ay f.1.2))(n:∀f∈fs++gs,f.1.2≠[]):K9 (s.set c (.lst ((fs++gs).map kq))) c (fs++gs):=
 ⟨gz h.l,λq m=>by
  have hr:s[q.1.1]?=some (ay q.1.2):=by
   rcases VF.mp m with m|m
   .exact h.r q m
   .exact hq q m
  exact e? hr (h.ne hr (n q m))⟩
section
variable{s:af}{A:_h}{M:gZ}
def kyV(f:Fa):aj:=.tup [.int (f.1.2.length:Int),.loc f.1.1]
theorem SD{fs:List Fa}(h:∀f∈fs,s[f.1.1]?=some (ay f.1.2))(ys:List aj):DS PM.dQ (fs.map kq) ys s=.ok (ys++fs.map kyV) s:=by
 induction fs generalizing ys with
 |nil=>rw[VM,VM,Wc];rfl
 |cons f fs ih=>
  have l:=h f (Vu ..);obtain⟨L,hL⟩:=NE ((f.1.2.length:Int):Int)
  have kl:bD [.loc f.1.1] s=.ok (.int L) s:=by rw[a_ (ax l),aE,hL]
  have e:PM.dQ [some (.tup [.loc f.1.1,.int f.2])] s=.ok (.tup [.int L,.loc f.1.1]) s:=by simp![PM.dQ,Vp,a! qf,kl]
  rw[Vm,Vm];unfold DS;show(match PM.dQ [some (.tup [.loc f.1.1,.int f.2])] s with
   |.ok y st1=>DS PM.dQ (fs.map kq) (ys++[y]) st1
   |_=>.bad)=_
  rw[e];dsimp only;rw[ih (λg m=>h g (Vx _ m)),VY];rw[hL];rfl
theorem N3{fs:List Fa}(h:∀f∈fs,s[f.1.1]?=some (ay f.1.2)):nN s (fs.map kyV)=some (fs.map λf=>(f.1.2.length:Int)::f.1.2):=by
 induction fs with
 |nil=>rfl
 |cons f fs ih=>
  have l:=h f (Vu ..);rw[Vm,Vm];show nN s (.tup [.int (f.1.2.length:Int),.loc f.1.1]::fs.map kyV)=_;unfold nN;rw[ax l];dsimp only;rw[JZ,ih (λg m=>h g (Vx _ m))]
abbrev faB:MB:=e_ (iW jM d! (aa (cH 1 [5] (f9 (ao PM.gh (aa bc (aa fY ai)))) (aA 0) bj (gp (aa bc (aa bT ai)))) ai))
end
def pV(f:Fa):_h:=(f.1.2.length:Int)::f.1.2
def qD(fs:List Fa):List (Nat×List Int):=fs.map λf=>(f.2.toNat,f.1.2)
structure HP(p:Int)(A:_h)(fs:List Fa):Prop where
 Tn:∀f∈fs,Bb p f.1.2
 pos:∀f∈fs,1<=f.2
 cp:fs.Pairwise λa b=>b? (ak a.1.2:ah p) (ak b.1.2)
 eq:(ak A:ah p)=jz (qD fs)
 up:fs.Pairwise λa b=>SO.lexLt (pV a) (pV b)=true
section
variable{A G S T V:_h}
theorem wN.dvB(h:wN p A B G S T U V):(ak A:ah p)=ak G*ak S/\(ak B:ah p)=ak G*ak T:=by
 have q:∀C Q:_h,aQ p (cf C) (mF Q (cf G))->(ak C:ah p)=ak G*ak Q:=λC Q e=>by rw[bR];exact mk_eq (e.trans (aQ.of_eq (aV _ _)).symm)
 exact⟨q A S h.cA,q B T h.cB⟩
theorem wN.ab8(hp:2<=p)(h:wN p A B G S T U V)(c:b? (ak A:ah p) (ak B)):G=[1]:=by obtain⟨e1,e2⟩:=h.dvB;obtain⟨z,hz⟩:=SA.Az c e1 e2;exact jv hp ⟨h.rG,h.nG,h.lG⟩ hz
end
section
variable{N:Nat}{s:af}{A:_h}{M:gZ}
theorem FL(m:Nat):∀Gs:List (_h),(jz (Gs.map λG=>(m,G)):ah p)=qC Gs ^ m
 |[]=>(one_pow m).symm
 |G::Gs=>by show ak G ^ m*jz (Gs.map λG=>(m,G))=(ak G*qC Gs) ^ m;rw[FL m Gs,SA.mul_pow]
theorem D8{c:Nat}{fs:List Fa}{μ:MN.Env}{m:ME}(hm:m μ s=.ok (.loc c) s)(h:K9 s c fs)(nd:(fs.map (·.1.2)).Nodup)(hl:fs.length<64)(hT:gr s M.own M.line M.col M.S.qual)(vJ:M.S.ps.length=1):∃(s':af)(HE:List Fa),s? M PM.dQ m μ s=.ok (.loc s.length) s'/\Fr s s'/\s'[s.length]?=some (.lst (HE.map kq))/\HE.Perm fs/\HE.Pairwise λa b=>SO.lexLt (pV a) (pV b)=true:=by
 have ez:(fs.map kq).zip (fs.map pV)=fs.map λf=>(kq f,pV f):=by rw[List.zip_map',]
 have ek:(fs.map pV).Nodup:=by
  have:fs.map pV=(fs.map (·.1.2)).map λR=>(R.length:Int)::R:=by rw[V1];rfl
  rw[this];exact V?.mpr (nd.imp λh e=>h (WT e).2)
 have em:=List.map_mergeSort (r:=λa b=>DT (kq a,pV a) (kq b,pV b)) (s:=DT) (f:=λf=>(kq f,pV f)) (l:=fs) λ_ _ _ _=>rfl;obtain⟨HE,aaL⟩:=NE (fs.mergeSort λa b=>DT (kq a,pV a) (kq b,pV b))
 rw[<-aaL]at em;have ri:=zy (l:=fs.map λf=>(kq f,pV f)) (by rw[V1];exact ek);rw[<-em,V1]at ri;refine⟨s++[.lst (HE.map kq)],HE,?_,Fr.app _ _,bu _ _,by rw[aaL];exact XO _ _,V?.mp ri⟩;unfold s?;rw[hm];dsimp only[fu.bind];rw[Vv ⟨hT,vJ⟩,ax h.l];dsimp only;rw[Vv (by rw[Vg];exact hl),SD h.r,Vq];dsimp only[fu.bind];unfold Kr;rw[N3 h.r];dsimp only;rw[Vv (show(fs.map λf=>(f.1.2.length:Int)::f.1.2).Nodup from ek)];show fu.ok (aj.loc s.length) (s++[aZ.lst ((((fs.map kq).zip (fs.map pV)).mergeSort DT).map (·.1))])=_;rw[ez,<-em,V1];rfl
theorem AQ(hp:dD p=true)(ln:s[n]?=some (ay A))(hA:Row p A)(nA:A≠[])(hl:A.length<=60)(hT:gr s M.own M.line M.col M.S.qual)(vJ:M.S.ps.length=1):
  ∃c fs s',PM.kJ M [.int p,.loc n] s=.ok (.tup [.int (aM A),.loc c]) s'/\Fr s s'/\K9 s' c fs/\s.length<=c/\(∀f∈fs,s.length<=f.1.1)/\∃t,(t*aM A) % p=1/\HP p (mulR p t A) fs:=by
 have hpr:=au hp;have dz:0<p:=⋯
 obtain⟨g0,b0⟩:=j6 hp s;obtain⟨s0,HL⟩:=NE (s++g0)
 have F0:Fr s s0:=by rw[HL];exact Fr.app _ _
 rw[<-HL]at b0;obtain⟨s1,kl,es,b1,O⟩:=iP hp (F0 _ _ ln) hA nA ⋯;obtain⟨t,ht,P⟩:=O.pr;obtain⟨rG,nG,lG,eG⟩:=rF ⋯ hA nA ht;obtain⟨A',hA'⟩:∃A',A'=mulR p t A:=⟨_,rfl⟩
 rw[<-hA']at P rG nG lG eG;obtain⟨s2,e2,F2,l2,_⟩:=ba (s:=s1) [];obtain⟨c,hc⟩:=NE s1.length
 rw[<-hc]at l2;have dvA:∀G∈es.map (·.2.2),∃x:ah p,ak A'=ak G*x:=λG mG=>by obtain⟨e,me,rfl⟩:=VN.mp mG;have mp:(e.1,e.2.2)∈gj es:=VV me;obtain⟨x,hx⟩:=kH (p:=p) mp (P.p1 _ mp);exact⟨x,P.eq.trans hx⟩
 have cpA:(es.map (·.2.2)).Pairwise λa b=>b? (ak a:ah p) (ak b):=by have:=P.c2;unfold gj at this;rw[V?]at this⊢;exact this
 have Ls:=O.fr.trans F2;obtain⟨μ',s3,ef,fs,F3,r3,S3,i3,p3,q3,fh,x4,x5,rfl⟩:=dX (g:=λaI=>aq aI kl=some (es.map jQ)) (a:=js [aA 4,aA 5]) (body:=faB) (λi μ s'=>∃fs,Fr s1 s'/\K9 s' c fs/\Kx p (es.map (·.2.2)) i (fs.map (·.1.2))/\(∀f∈fs,Bb p f.1.2)/\(∀f∈fs,1<=f.2)/\(jz (qD fs):ah p)=jz ((gj es).take i)/\(∀f∈fs,s0.length<=f.1.1)/\∃x4 x5,μ=[qI p, qL n, some (.tup [.int (aM A),.loc kl]), qL c, x4, x5]) (es.map jQ) 0 [qI p, qL n, some (.tup [.int (aM A),.loc kl]), qL c, qn, qn] s2 (by
  rintro i u μ s' hu ⟨fs,F,rs,S,i3,p3,q3,fh,x4,x5,rfl⟩;rw[VZ]at S q3⊢;rw[Vy]at hu;obtain⟨e,he,rfl⟩:=Wr.mp hu;have me:=V_ he;have hG:(es.map (·.2.2))[i]?=some e.2.2:=by rw[Vy,he];rfl
  have mp:(e.1,e.2.2)∈gj es:=VV me;obtain⟨mG,lG2⟩:=P.mn _ mp;have lE:=(P.bd dz rG nG mp).2;obtain⟨N,hN⟩:∃N,e.2.2.length=N+1:=⟨e.2.2.length-1,by show e.2.2.length=e.2.2.length-1+1;have:2<=e.2.2.length:=lG2;lia⟩
  have l2':2<=e.2.2.length:=lG2;have lE':e.2.2.length<=A'.length:=lE;obtain⟨cw,qs,pv,b,F',r',f',fw⟩:=D7 hp (F _ _ (O.re e me).2.2) mG (P.sq (e.1,e.2.2) mp) hN ⋯ ⋯;obtain⟨Y,hY⟩:=NE ((e.1:Int):Int)
  have aaM:=pE (g:=λaI=>aq aI cw=some (qs.map dI)) (a:=aA 0) (e:=gp (aa bc (aa bT ai))) (st:=pv) (ax r'.l) (λτ=>∃z,τ=[z,some (.int Y)]) dI (λq=>kq (q,Y)) qs [none,some (.int Y)] [] ⟨_,rfl⟩ (by
   rintro q mq τ ⟨z,rfl⟩;exact⟨[some (.loc q.1),some (.int Y)],rfl,⟨_,rfl⟩,by simp![Vp,kq]⟩)
  obtain⟨gs,O6⟩:=NE (qs.map λq=>(q,Y):List Fa)
  rw[Vq,show(qs.map λq=>kq (q,Y))=gs.map kq from by rw[O6,V1];rfl]at aaM;have gsr:gs.map (·.1.2)=qs.map (·.2):=by rw[O6,V1];rfl
  have S':=S.put hG cpA f'.f;rw[<-gsr,<-VS]at S';have HN:=(S'.NT (A:=A') dvA).HN dz rG nG;rw[Vg,Vj]at HN;obtain⟨s4,e4,F4,l4,_⟩:=ba (s:=pv) (gs.map kq);have A!:=rs.mono (F'.trans F4);have a1:=KW A!.l l4 (by rw[Vg,Vg];lia);rw[<-VS]at a1;have lq:qs.length=gs.length:=by rw[O6,Vg]
  have ec:cH 1 [5] (f9 (ao PM.gh (aa bc (aa fY ai)))) (aA 0) bj (gp (aa bc (aa bT ai))) [qI p, qL n, some (.tup [.int (aM A),.loc kl]), qL c, qL e.2.1, qI Y] s'=.ok (.loc pv.length) s4:=by
   have e0:ao PM.gh (aa bc (aa fY ai)) [qI p, qL n, some (.tup [.int (aM A),.loc kl]), qL c, qL e.2.1, qI Y] s'=.ok (.loc cw) pv:=by rw[iO (NI (v:=.int p) (s1:=s') rfl (w:=.loc e.2.1) (s2:=s') rfl),b]
   rw[dN,eI,e0,ar,dG (ax r'.l),ar,fB,Vv (by rw[Vg,Vp];lia),show iV 1 [5] [qI p, qL n, some (.tup [.int (aM A),.loc kl]), qL c, qL e.2.1, qI Y]=[none,some (.int Y)]from rfl,aaM,ar,ie,e4]
  have Sx:=rs.l;have p1:1<=e.1:=P.p1 _ mp;refine⟨ax (F _ _ O.lk),[qI p, qL n, some (.tup [.int (aM A),.loc kl]), qL c, qL e.2.1, qI Y],by rw[hY];rfl,[qI p, qL n, some (.tup [.int (aM A),.loc kl]), qL c, qL e.2.1, qI Y],s4.set c (.lst ((fs++gs).map kq)),.inl ?_,fs++gs,(F.trans (F'.trans F4)).set (Xu hc.symm) _,A!.put (λf mf=>?_) (λx mx=>(S'.mn _ (VV mx)).1.ne),S',λf mf=>?_,λf mf=>?_,?_,λf mf=>?_,_,_,rfl⟩
  .unfold faB;generalize cH 1 [5] (f9 (ao PM.gh (aa bc (aa fY ai)))) (aA 0) bj (gp (aa bc (aa bT ai)))=C at ec⊢;simp![mI Sx,ec,a1]
  .rw[O6]at mf;obtain⟨q,mq,rfl⟩:=VN.mp mf;exact F4 _ _ (r'.r q mq)
  .rcases VF.mp mf with mf|mf
   .exact i3 f mf
   .rw[O6]at mf;obtain⟨q,mq,rfl⟩:=VN.mp mf;exact f'.i q.2 (VV mq)
  .rcases VF.mp mf with mf|mf
   .exact p3 f mf
   .rw[O6]at mf;obtain⟨q,mq,rfl⟩:=VN.mp mf;show 1<=Y;lia
  .have h1:qD (fs++gs)=qD fs++(qs.map (·.2)).map λG=>(e.1,G):=by unfold qD;rw[VS,O6,V1,V1];congr 1;refine Zh λq _=>?_;show(Y.toNat,q.2)=(e.1,q.2);rw[show Y.toNat=e.1 by lia]
   have h2:(gj es)[i]?=some (e.1,e.2.2):=by unfold gj;rw[Vy,he];rfl
   rw[h1,nJ,FL,q3,Xx,h2,nJ,<-f'.e];show _=_*(ak e.2.2 ^ e.1*1);generalize (ak e.2.2:ah p) ^ e.1=X
   grind
  .rcases VF.mp mf with mf|mf
   .exact fh f mf
   .rw[O6]at mf;obtain⟨q,mq,rfl⟩:=VN.mp mf;show s0.length<=q.1;have h1:=(O.re e me).1;have h2:=(O.fr.trans F).len;rcases fw q mq with z|z<;>lia) (λ_ s'⟨_,F,_⟩=>ax (F _ _ O.lk)) ⟨[],F2,⟨l2,λq m=>by cases m⟩,Kx.nil,(λ_ m=>by cases m),(λ_ m=>by cases m),rfl,(λ_ m=>by cases m),_,_,rfl⟩
 have fA:=S3.NT (A:=A') dvA;have HN:=fA.HN dz rG nG;rw[Vg]at HN;have ui:=F0.trans (O.fr.trans F3);have hT3:gr s3 M.own M.line M.col M.S.qual:=by obtain⟨j,hj⟩:=hT;exact⟨j,ui _ _ hj⟩
 obtain⟨s4,HE,b4,F4,l4,pe,up⟩:=D8 (M:=M) (m:=d!) (μ:=[some (.int p),some (.loc n),some (.tup [.int (aM A),.loc kl]),some (.loc c),x4,x5]) rfl r3 (fA.nodup ⋯) ⋯ hT3 vJ;rw[VZ,Vg,W_ (by unfold gj;rw[Vg];exact Vt _)]at q3;refine⟨s3.length,HE,s4,?_,ui.trans F4,⟨l4,λf mf=>F4 _ _ (r3.r f (pe.mem_iff.mp mf))⟩,ui.len,λf mf=>V! F0.len (fh f (pe.mem_iff.mp mf)),t,ht,λf mf=>i3 f (pe.mem_iff.mp mf),λf mf=>p3 f (pe.mem_iff.mp mf),(pe.pairwise_iff (R:=λa b:Fa=>b? (ak a.1.2:ah p) (ak b.1.2)) λ{x y}c=>b?.symm c).mpr ((V? (f:=λf:Fa=>f.1.2) (R:=λa b=>b? (ak a:ah p) (ak b))).mp fA.cp),?_,up⟩
 .have a2:bB ai [qI p, qL n, some (.tup [.int (aM A),.loc kl]), qn, qn, qn] s1=.ok (.loc c) s2:=by rw[fg (vs:=[]) (s1:=s1) rfl ⋯,e2,hc]
  unfold PM.kJ;rw[bH (np:=2) (us:=[aj.int p,.loc n]) rfl];show(az _ (az _ (az (aK 3 (bB ai)) (az (ic _ _ faB) _))) [qI p, qL n, qn, qn, qn, qn] s).fin=_;generalize faB=B' at ef⊢;generalize bB ai=M1 at a2⊢;generalize s? M PM.dQ d!=K at b4⊢;simp![iY,gv,Vp,b0,b1,a2,a! vm,a! qf,dG (ax (F2 _ _ O.lk)),ef,b4]
 .rw[<-hA',P.eq,<-q3];exact rQ (pe.symm.map _)
theorem qq(hp:dD p=true)(hA:d8 p A){t:Int}(ht:(t*aM A) % p=1):mulR p t A=A:=by have hr:=au hp;refine lx ⋯ (rF ⋯ hA.row hA.ne ht).1 hA.row ?_;rw[hA.l1,Xa]at ht;refine mk_eq λk=>((vB ⋯ t A) k).trans ?_;have e:=Wb t p;rw[ht]at e;generalize t / p=u at e;exact⟨u*cf A k,by grind⟩
theorem D9(hp:dD p=true)(ln:s[n]?=some (ay A))(hA:Row p A)(nA:A≠[])(hl:A.length<=4000):
  ∃s' v,PM.gR [.int p,.loc n] s=.ok v s'/\Fr s s'/\((v=.dj/\¬ b? (ak A:ah p) (dP (ak A)))\/∃k4 k5,v=.tup [.loc k4,.loc k5]/\b? (ak A:ah p) (dP (ak A))):=by
 have hr:=au hp;have dz:0<p:=⋯
 obtain⟨L,hL⟩:=NE ((A.length:Int):Int)
 have kl:bD [.loc n] s=.ok (.int L) s:=by rw[a_ (ax ln),aE,hL]
 have a0:0<A.length:=VC.mpr nA;have z:(L==0)=false:=by simp;lia
 obtain⟨g,kB,e0,_,lB⟩:=n! (iK hp) (ax ln) ⋯;have lB:(s++g)[kB]?=some (ay (nM p A)):=lB;have bL:=qj (p:=p) A;obtain⟨s',k1,k2,k3,k4,k5,G,S,T,U,V,e1,F,ho,ab9,nd,hk⟩:=RX hp (c! ln g) lB hA (qh dz A) (.inl nA) ⋯ ⋯;have lG:s'[k1]?=some (ay G):=ab9.2 0 k1 G rfl rfl;obtain⟨N,hN⟩:=NE ((G.length:Int):Int)
 have kg:bD [.loc k1] s'=.ok (.int N) s':=by rw[a_ (ax lG),aE,hN]
 have FF:Fr s s':=(Fr.app s g).trans F;rw[<-sY dz A];cases q:(N==1) with
 |true=>
  have q2:N=1:=by simpa using q
  have hG:=sM ⟨ho.rG,ho.nG,ho.lG⟩ ⋯;subst hG;have c:=ho.cG;exact⟨s',.tup [.loc k4,.loc k5],by simp![PM.gR,Vp,kl,z,e0,e1,a! qf,a! at3,a! at4,kg,q],FF,.inr ⟨k4,k5,rfl,ak U,ak V,(mk_eq (c.trans (aQ.of_eq λk=>by rw[de,aV,aV]))).symm⟩⟩
 |false=>
  refine⟨s',.dj,by simp![PM.gR,kl,z,e0,e1,a! qf,kg,q],FF,.inl ⟨rfl,λc=>?_⟩⟩;have:=ho.ab8 hr.1 c;rw[hN,this]at q;cases q
theorem N4(hp:dD p=true)(h:Bb p A)(hl:A.length<=120):b? (ak A:ah p) (dP (ak A)):=by
 have hr:=au hp;have dz:0<p:=⋯
 obtain⟨_,_,es,_,O⟩:=iP (st:=[ay A]) (n:=0) hp rfl h.mn.row h.mn.ne hl;obtain⟨t,ht,P⟩:=O.pr;rw[qq hp h.mn ht]at P;cases e:gj es with
 |nil=>rw[e]at P;exact(h.no1 ⋯ (x:=1) (by rw[P.eq];show(1:ah p)=1*1;grind)).elim
 |cons q l=>
  rw[e]at P;obtain⟨x,hx⟩:=kH (p:=p) (ps:=q::l) Vu (P.p1 q Vu);obtain⟨mq,l2⟩:=P.mn q Vu;obtain⟨Q,hQ,eQ,_⟩:=pJ dz h.mn mq (P.eq.trans hx);rcases h.ir q.2 Q mq hQ (by rw[<-eQ,P.eq,hx])with z|z
  .rw[z]at l2;exact absurd l2 ⋯
  .have:A=q.2:=lx dz h.mn.row mq.row (by rw[P.eq,hx,eQ,z,sC];grind);rw[this];exact P.sq q Vu
theorem AR(hp:dD p=true)(ln:s[n]?=some (ay A))(hA:d8 p A)(h2:2<=A.length)(hl:A.length<=100):∃u s',PM.jk [.int p,.loc n] s=.ok u s'/\Fr s s'/\((u=.dj/\¬ Bb p A)\/((∃a b c d e qs rs tb,u=.tup [.loc a,.loc b,.loc c,.loc d,.loc e]/\s'[c]?=some (.lst qs)/\s'[d]?=some (.lst rs)/\s'[e]?=some (.lst tb)/\qs.length+1=A.length/\rs.length+1=A.length/\tb.length+1=A.length)/\Bb p A)):=by
 obtain⟨g,e⟩:=j6 hp s;obtain⟨s0,HL⟩:=NE (s++g)
 have F0:Fr s s0:=by rw[HL];exact Fr.app _ _
 rw[<-HL]at e;obtain⟨L,hL⟩:=NE ((A.length:Int):Int)
 have ka:∀{s'},Fr s s'->bD [.loc n] s'=.ok (.int L) s':=λF=>by rw[a_ (ax (F _ _ ln)),aE,hL]
 have z:decide (L<2)=false:=V5 ⋯;have gx:=dB (ax (F0 _ _ ln)) (rp hA.ne);have q:(aM A==1)=true:=by rw[hA.l1];rfl
 obtain⟨s1,v,b1,F1,hv⟩:=D9 hp (F0 _ _ ln) hA.row hA.ne ⋯;have F01:=F0.trans F1;rcases hv with⟨rfl,nc⟩|⟨a,b,rfl,sq⟩
 .have i1:Lq false .dj .dj s1=.ok (.bl true) s1:=rfl;exact⟨.dj,s1,by simp![PM.jk,XW,e,ka F0,z,gx,q,b1,i1],F01,.inl ⟨rfl,λh=>nc (N4 hp h ⋯)⟩⟩
 .have i1:Lq false (.tup [.loc a,.loc b]) .dj s1=.ok (.bl false) s1:=rfl;obtain⟨N,hN⟩:∃N,A.length=N+1:=⟨A.length-1,⋯⟩
  obtain⟨pq,pr,qs,rs,s2,b2,F2,_,_,_,Q2,R2,m2,M,_,_⟩:=um hp (F01 _ _ ln) hA hN ⋯ ⋯;obtain⟨c3,cs,s3,b3,F3,R3,m3,v3,w3⟩:=r_ (f:=1) hp R2 m2 (λq mq=>M.rr _ (VV mq)) ⋯ ⋯;have C:=K7 M m2 ⋯ m3 v3 w3;obtain⟨u,D,Lw,ks,s4,b4,F4,G,hu⟩:=D5 hp R3 v3 ⋯ ⋯;have W:=K0 (ms:=cs.map (·.2)) (W:=N) λm mm=>by obtain⟨q,mq,rfl⟩:=VN.mp mm;exact(v3 q mq).l
  have ui:=F01.trans (F2.trans F3);rw[show((N:Nat):Int)=L-1 by lia]at b4;have b3':PM.cI [.int p,.loc pr,.int 1] s2=.ok (.loc c3) s3:=b3;rcases hu with⟨rfl,ne⟩|⟨⟨t,tb,rfl,lt,nt⟩,rfl⟩
  .have i4:Lq false .dj .dj s4=.ok (.bl true) s4:=rfl;obtain⟨R,hR⟩:=List.exists_mem_of_ne_nil _ ne;exact⟨.dj,s4,by simp![PM.jk,XW,e,ka F0,z,gx,q,b1,i1,b2,a! vm,b3',ka ui,b4,i4],ui.trans F4,.inl ⟨rfl,Ht hp hA hN ⋯ C G W hR⟩⟩
  .have i4:Lq false (.loc t) .dj s4=.ok (.bl false) s4:=rfl;exact⟨.tup [.loc a,.loc b,.loc pq,.loc pr,.loc t],s4,by simp![PM.jk,XW,Vp,e,ka F0,z,gx,q,b1,i1,b2,a! vm,a! qf,b3',ka ui,b4,i4],ui.trans F4,.inr ⟨⟨_,_,_,_,_,_,_,_,rfl,F4 _ _ (F3 _ _ Q2.l),F4 _ _ (F3 _ _ R2.l),lt,by have:=M.ln;rw[Vg,Vg]at this;rw[Vg];lia,by rw[Vg];lia,⋯⟩,Hr hp hA hN ⋯ sq C G W⟩⟩
end
end PG
variable {fs:List PG.Fa}
namespace LC
open PySem.Spec L2 MN PG
open PyProof.Rows hiding St kindOf
section
variable{s:af}{A:_h}
def Dv(p:Int)(B A:_h):Prop:=∃x:ah p,ak A=ak B*x
def gens(P:Nat):Nat->List (_h)
 |0=>[[]]
 |k+1=>(gens P k).flatMap λr=>(gm 0 P).map λx=>r++[x]
end
open SA (b?)
section
variable{s:af}{A:_h}
theorem K_(hp:dD p=true)(h:HP p A fs)(ha:A.length<=5000)(hD:d8 p D)(l2:2<=D.length)(ld:D.length<=5000)(lf:∀f∈fs,f.1.2.length<=5000)(dv:Dv p D A):∃f∈fs,Dv p f.1.2 D:=by
 have hr:=au hp;refine Xw λno=>?_;have hc:b? (ak D:ah p) (jz (qD fs)):=nK λq mq=>by
  unfold qD at mq;obtain⟨f,mf,rfl⟩:=VN.mp mq;rcases(h.Tn f mf).KJ hp hD.row (lf f mf) ld with c|⟨x,c⟩
  .exact c.symm
  .exact(no ⟨f,mf,x,c⟩).elim
 rw[<-h.eq]at hc;obtain⟨x,hx⟩:=dv;obtain⟨z,hz⟩:=hc.unit hx;rw[jv ⋯ hD hz]at l2;exact absurd l2 ⋯
theorem ny(hp:0<p)(hA:d8 p A)(hD:d8 p D)(dv:Dv p D A):D.length<=A.length:=by obtain⟨x,hx⟩:=dv;obtain⟨Q,hQ,_,l⟩:=pJ hp hA hD hx;have:=VC.mpr hQ.ne;lia
theorem K!(h:HP p A fs){f:Fa}(m:f∈fs):Dv p f.1.2 A:=by have:=h.pos f m;obtain⟨x,hx⟩:=kH (p:=p) (q:=(f.2.toNat,f.1.2)) (ps:=qD fs) (VV (f:=λf:Fa=>(f.2.toNat,f.1.2)) m) (by show 1<=f.2.toNat;lia);exact⟨x,h.eq.trans hx⟩
end
end LC
namespace PG
open PySem.Spec L2 MN
open PyProof.Rows hiding St kindOf
open SA (b?)
theorem FO{ps:List (Nat×List Int)}{q:Nat×List Int}(m:q∈ps)(hn:ps.Pairwise λa b=>a.1≠b.1):∃l,(jz ps:ah p)=ak q.2 ^ q.1*jz l/\∀r∈l,r∈ps/\r.1≠q.1:=by have pm:=YS m;have h:=(pm.pairwise_iff λ{x y}c z=>c z.symm).mp hn;refine⟨ps.erase q,rQ pm,λr mr=>⟨List.mem_of_mem_erase mr,λz=>(WN.mp h).1 r mr z.symm⟩⟩
theorem vH.cop{A:_h}{ps:List (Nat×List Int)}(h:vH p A ps){q r:Nat×List Int}(mq:q∈ps)(mr:r∈ps)(ne:q.1≠r.1):b? (ak q.2:ah p) (ak r.2):=by
 have pm:=YS mq;have c:=(pm.pairwise_iff λ{x y}c=>b?.symm c).mp h.c2;refine(WN.mp c).1 r ?_;rcases VX.mp (pm.mem_iff.mp mr)with z|z
 .exact absurd (WE Prod.fst z).symm ne
 .exact z
theorem vH.out{A:_h}{ps:List (Nat×List Int)}(h:vH p A ps){q:Nat×List Int}(m:q∈ps):∃y,(ak A:ah p)=ak q.2 ^ q.1*y/\b? (ak q.2:ah p) y:=by obtain⟨l,e,hl⟩:=FO (p:=p) m h.ne;exact⟨jz l,h.eq.trans e,nK λr mr=>h.cop m (hl r mr).1 λz=>(hl r mr).2 z.symm⟩
theorem AU(hp:dD p=true){P A:_h}(g:OW p A B D)(h:d8 p P)(a:aQ p (cf P) (mF (bU p P D) (cf D))):d8 p (bU p P D)/\P.length+1=(bU p P D).length+D.length:=by
 have hr:=au hp;have xN:¬ aM D % p=0:=by rw[g.l,V9 ⋯ ⋯];lia
 obtain⟨q,_⟩:=fM hp (as:=P) g.n xN;obtain⟨n,e,l⟩:=nI ⋯ h.row h.ne q g.n g.l a;exact⟨⟨q,n,by rw[<-l];exact h.l1⟩,⋯⟩
theorem xf(hp:dD p=true){A:_h}{ps qs:List (Nat×List Int)}(h:vH p A ps)(k:vH p A qs){q r:Nat×List Int}(mq:q∈ps)(mr:r∈qs)(lq:q.2.length<=5000)(lr:r.2.length<=5000)(lt:q.1<r.1):b? (ak q.2:ah p) (ak r.2):=by
 have hr:=au hp;have mP:=(h.mn q mq).1;have mQ:=(k.mn r mr).1;obtain⟨D,g⟩:=AF hp mP.row mQ.row mP.ne lq lr;obtain⟨mD,e1,e2,u,v,e3⟩:=j' g;obtain⟨y,ey,cy⟩:=h.out mq;obtain⟨z,ez,_⟩:=k.out mr;have cs:=h.sq q mq;obtain⟨j,hj⟩:∃j,r.1=q.1+(1+j):=⟨r.1-q.1-1,⋯⟩
 rw[e1]at cs cy;obtain⟨c1,_,_⟩:=SA.rK j_ cs;have c2:b? (ak D:ah p) y:=(b?.DD cy.symm).symm;have e4:(ak (bU p q.2 D):ah p) ^ q.1*y=ak D*((ak D) ^ j*ak (bU p r.2 D) ^ r.1*z):=by
  apply mD.nL ⋯ q.1;have:=ey.symm.trans ez;rw[e1,e2,SA.mul_pow,SA.mul_pow]at this;rw[hj]at this⊢;rw[sZ (ak D),sZ (ak D),n? (ak D) 0,uj]at this;revert this;generalize (ak D:ah p) ^ q.1=a;generalize (ak D:ah p) ^ j=b;generalize (ak (bU p q.2 D):ah p) ^ q.1=c;generalize (ak (bU p r.2 D):ah p) ^ (q.1+(1+j))=d;intro this
  grind
 obtain⟨w,hw⟩:=b?.unit ((c1.pow q.1).mul c2) e4;have hD:=jv hr.1 mD hw;subst hD;exact NM g
theorem FQ(hp:dD p=true){A:_h}{ps qs:List (Nat×List Int)}(h:vH p A ps)(k:vH p A qs)(bq:∀q∈ps,q.2.length<=5000)(br:∀q∈qs,q.2.length<=5000){q:Nat×List Int}(mq:q∈ps):
  ∃r∈qs,r.1=q.1/\OW p q.2 r.2 q.2:=by
 have hr:=au hp;have ap:∀r∈qs,r.1≠q.1->b? (ak q.2:ah p) (ak r.2):=λr mr ne=>by
  rcases Wx q.1 r.1 with z|z
  .exact xf hp h k mq mr (bq q mq) (br r mr) z
  .exact(xf hp k h mr mq (br r mr) (bq q mq) ⋯).symm
 obtain⟨mP,l2⟩:=h.mn q mq;obtain⟨x,hx⟩:=kH (p:=p) mq (h.p1 q mq);have hx:=h.eq.trans hx;by_cases hr':∃r∈qs,r.1=q.1
 .obtain⟨r,mr,er⟩:=hr';have mQ:=(k.mn r mr).1;obtain⟨D,g⟩:=AF hp mP.row mQ.row mP.ne (bq q mq) (br r mr);obtain⟨mD,e1,e2,u,v,e3⟩:=j' g;obtain⟨mE,lE⟩:=AU hp g mP g.a;obtain⟨l,el,hl⟩:=FO (p:=p) mr k.ne;have cl:b? (ak q.2:ah p) (jz l):=nK λs ms=>ap s (hl s ms).1 λz=>(hl s ms).2 (by rw[z,er]);have cs:=h.sq q mq;rw[e1]at cs cl;obtain⟨c1,_,_⟩:=SA.rK j_ cs;have cR:b? (ak (bU p q.2 D):ah p) (ak (bU p r.2 D)):=⟨u,v,by
   apply mD.cancel ⋯;rw[e1,e2]at e3
   grind⟩
  have cQ:b? (ak (bU p q.2 D):ah p) (ak r.2):=by rw[e2];exact c1.symm.mul cR
  have cL:b? (ak (bU p q.2 D):ah p) (jz l):=by rw[bR]at cl;exact(b?.DD cl.symm).symm
  have cA:b? (ak (bU p q.2 D):ah p) (ak A):=by rw[k.eq,el];exact(cQ.pow _).mul cL
  obtain⟨w,hw⟩:=b?.unit cA (x:=ak D*x) (by rw[hx,e1];grind);have hE:=jv hr.1 mE hw;have:q.2=D:=lx ⋯ mP.row mD.row (by rw[e1,hE,sC];grind);rw[this]at g⊢;exact⟨r,mr,er,g⟩
 .have:b? (ak q.2:ah p) (ak A):=by rw[k.eq];exact nK λr mr=>ap r mr λz=>hr' ⟨r,mr,z⟩
  obtain⟨w,hw⟩:=b?.unit this hx;rw[jv hr.1 mP hw]at l2;exact absurd l2 ⋯
theorem wU(hp:dD p=true){A:_h}{ps qs:List (Nat×List Int)}(h:vH p A ps)(k:vH p A qs)(bq:∀q∈ps,q.2.length<=5000)(br:∀q∈qs,q.2.length<=5000){q:Nat×List Int}(mq:q∈ps):q∈qs:=by
 have hr:=au hp;obtain⟨r,mr,er,g⟩:=FQ hp h k bq br mq;obtain⟨q',mq',eq',g'⟩:=FQ hp k h br bq mr;have e:q'=q:=by
  have pm:=YS mq;have hn:=(pm.pairwise_iff λ{x y}c z=>c z.symm).mp h.ne;rcases VX.mp (pm.mem_iff.mp mq')with z|z
  .exact z
  .exact absurd (er.symm.trans eq'.symm) ((WN.mp hn).1 q' z)
 subst e;obtain⟨_,_,e2,_⟩:=j' g;have hP:=(h.mn q' mq).1;have hQ:=(k.mn r mr).1;obtain⟨mF,lF⟩:=AU hp g hQ g.b;obtain⟨mG,lG⟩:=AU hp g' hP g'.b;have:=VC.mpr mF.ne;have:=VC.mpr mG.ne;have h1:=sM mF ⋯;have:r.2=q'.2:=lx ⋯ hQ.row hP.row (by rw[e2,h1,sC];grind);have:r=q':=Prod.ext er this;rw[<-this];exact mr
theorem FR:∀{a b:List (Nat×List Int)},(a.Pairwise λx y=>x.1<y.1)->(b.Pairwise λx y=>x.1<y.1)->(∀x,x∈a->x∈b)->(∀x,x∈b->x∈a)->a=b
 |[],[],_,_,_,_=>rfl
 |[],y::b,_,_,_,h2=>by have:=h2 y (Vu ..);cases this
 |x::a,[],_,_,h1,_=>by have:=h1 x (Vu ..);cases this
 |x::a,y::b,ha,hb,h1,h2=>by
  obtain⟨a1,a2⟩:=WN.mp ha;obtain⟨b1,b2⟩:=WN.mp hb;have e:x=y:=by
   rcases VX.mp (h1 x (Vu ..))with z|z
   .exact z
   .rcases VX.mp (h2 y (Vu ..))with w|w
    .exact w.symm
    .have:=b1 x z;have:=a1 y w;lia
  subst e;rw[FR a2 b2 (λz m=>?_) λz m=>?_]
  .rcases VX.mp (h1 z (Vx _ m))with w|w
   .have:=a1 z m;rw[w]at this;lia
   .exact w
  .rcases VX.mp (h2 z (Vx _ m))with w|w
   .have:=b1 z m;rw[w]at this;lia
   .exact w
theorem Hw(hp:dD p=true){A:_h}{ps qs:List (Nat×List Int)}(h:vH p A ps)(k:vH p A qs)(hA:Row p A)(nA:A≠[])(hl:A.length<=5000)(u1:ps.Pairwise λx y=>x.1<y.1)(u2:qs.Pairwise λx y=>x.1<y.1):ps=qs:=by
 have hr:=au hp;have b1:∀q∈ps,q.2.length<=5000:=λq m=>by have:=(h.bd ⋯ hA nA m).2;lia
 have b2:∀q∈qs,q.2.length<=5000:=λq m=>by have:=(k.bd ⋯ hA nA m).2;lia
 exact FR u1 u2 (λx m=>wU hp h k b1 b2 m) λx m=>wU hp k h b2 b1 m
end PG
namespace yg
open PySem.Spec L2 MN PG LC
open PyProof.Rows hiding St kindOf
open SA (b?)
section
variable{A:_h}
theorem zB(h:HP p A fs){f:Fa}(m:f∈fs):∃R:ah p,ak A=ak f.1.2 ^ f.2.toNat*R/\b? (ak f.1.2:ah p) R:=by
 obtain⟨a,b,rfl⟩:=List.append_of_mem m;have pe:(a++f::b).Perm (f::(a++b)):=Yt;have cp:=(pe.pairwise_iff (R:=λx y:Fa=>b? (ak x.1.2:ah p) (ak y.1.2)) λ{x y}c=>b?.symm c).mp h.cp;refine⟨jz (qD (a++b)),?_,nK λq mq=>?_⟩
 .rw[h.eq,rQ (p:=p) (show(qD (a++f::b)).Perm (qD (f::(a++b)))from pe.map _)];rfl
 .unfold qD at mq;obtain⟨g,mg,rfl⟩:=VN.mp mq;exact(WN.mp cp).1 g mg
theorem Cp(hp:2<=p){G:_h}(I:Bb p G){R S:ah p}(cS:b? (ak G) S):∀(i j:Nat),i<=j->ak G ^ i*S=ak G ^ j*R->i=j:=λi j hl e=>by
 refine Xw λne=>?_;obtain⟨k,rfl⟩:∃k,j=i+(k+1):=⟨j-i-1,⋯⟩
 have:=I.mn.nL ⋯ i S (ak G ^ (k+1)*R) (by rw[e,sZ];exact dg _ _ _);rw[n?]at this;obtain⟨y,hy⟩:=cS.unit (x:=ak G ^ k*R) (by rw[this];generalize (ak G:ah p) ^ k=X;grind);exact I.no1 ⋯ hy.symm
theorem FT(hp:dD p=true)(hA:d8 p A)(ha:A.length<=1000){gs:List Fa}(h:HP p A fs)(k:HP p A gs):∀x∈qD fs,x∈qD gs:=λx mx=>by
 have hr:=au hp;have dz:0<p:=⋯
 unfold qD at mx⊢;obtain⟨f,mf,rfl⟩:=VN.mp mx;have I:=h.Tn f mf;have lf:=ny dz hA I.mn (K! h mf);obtain⟨g,mg,x,hx⟩:=K_ hp k ⋯ I.mn I.l2 ⋯ (λg mg=>by have:=ny dz hA (k.Tn g mg).mn (K! k mg);lia) (K! h mf);have J:=k.Tn g mg;obtain⟨Q,hQ,eQ,_⟩:=pJ dz I.mn J.mn hx;have e:g.1.2=f.1.2:=by
  rcases I.ir g.1.2 Q J.mn hQ (by rw[<-eQ];exact hx)with z|z
  .have:=J.l2;rw[z]at this;exact absurd this ⋯
  .exact(lx dz I.mn.row J.mn.row (by rw[hx,eQ,z,sC];grind)).symm
 obtain⟨R,e1,c1⟩:=zB h mf;obtain⟨S,e2,c2⟩:=zB k mg;rw[e]at e2 c2;have em:f.2.toNat=g.2.toNat:=by
  rcases Nat.le_total f.2.toNat g.2.toNat with z|z
  .exact Cp ⋯ I c1 _ _ z (e1.symm.trans e2)
  .exact(Cp ⋯ I c2 _ _ z (e2.symm.trans e1)).symm
 exact VN.mpr ⟨g,mg,by rw[e,em]⟩
theorem N5(hp:dD p=true)(hA:d8 p A)(ha:A.length<=1000){gs:List Fa}(h:HP p A fs)(k:HP p A gs):qD fs=qD gs:=by
 have up:∀{l:List Fa},HP p A l->(qD l).Pairwise λa b=>SO.lexLt ((a.2.length:Int)::a.2) ((b.2.length:Int)::b.2)=true:=λh=>V?.mpr h.up;have nd:∀{l:List (Nat×List Int)},(l.Pairwise λa b=>SO.lexLt ((a.2.length:Int)::a.2) ((b.2.length:Int)::b.2)=true)->l.Nodup:=λu=>u.imp λh e=>by rw[e,SO.mK]at h;cases h
 refine Ym (λx y _ _ h1 h2=>by rw[SO.j? h1]at h2;cases h2) (up h) (up k) ?_;exact(List.perm_ext_iff_of_nodup (nd (up h)) (nd (up k))).mpr λx=>⟨FT hp hA ha h k x,FT hp hA ha k h x⟩
end
def enF(f:Fa):En:=(f.2.toNat,f.1.1,f.1.2)
theorem N6(h:∀f∈fs,1<=f.2):fs.map kq=(fs.map enF).map jQ:=by rw[V1];refine Zh λf m=>?_;have:=h f m;show aj.tup [.loc f.1.1,.int f.2]=.tup [.loc f.1.1,.int (f.2.toNat:Int)];rw[Wh ⋯]
structure Told(p:Int)(A:_h)(lo:Nat)(s:af)(k:Nat)(es:List En):Prop where
 l:s[k]?=some (.lst (es.map jQ))
 r:∀e∈es,s[e.2.1]?=some (ay e.2.2)
 fk:lo<=k
 fr:∀e∈es,lo<=e.2.1
 mn:∀e∈es,d8 p e.2.2/\2<=e.2.2.length
 nd:(es.map (·.2.1)).Nodup
 e:(ak A:ah p)=jz (gj es)
 bd:∀e∈es,e.1<=1000/\e.2.2.length<=1000
 ln:es.length<=1000
theorem Told.mono{A:_h}{k:Nat}{s:af}{es:List En}(h:Told p A lo s k es)(F:Fr s s'):Told p A lo s' k es:={h with l:=F _ _ h.l,r:=λe m=>F _ _ (h.r e m)}
theorem Told.low{A:_h}{lo' k:Nat}{s:af}{es:List En}(h:Told p A lo s k es)(l:lo'<=lo):Told p A lo' s k es:={h with fk:=V! l h.fk,fr:=λe m=>V! l (h.fr e m)}
section
variable{s:af}{A:_h}{M:gZ}
theorem K?(hp:dD p=true)(hA:d8 p A){ps:List (Nat×List Int)}(mn:∀q∈ps,d8 p q.2/\2<=q.2.length)(p1:∀q∈ps,1<=q.1)(e:(ak A:ah p)=jz ps):∀q∈ps,q.1<A.length/\q.2.length<=A.length:=λq mq=>by have hr:=au hp;have h1:=rW (p:=p) ⋯ mn hA.row hA.ne e;have h2:=AG mq;obtain⟨x,hx⟩:=kH (p:=p) mq (p1 q mq);have:=ny (p:=p) ⋯ hA (mn q mq).1 ⟨x,e.trans hx⟩;exact⟨⋯,this⟩
theorem nO(hp:dD p=true)(ln:s[n]?=some (ay A))(hA:d8 p A)(hl:A.length<=60)(hT:gr s M.own M.line M.col M.S.qual)(vJ:M.S.ps.length=1):
  ∃c es s',PM.kJ M [.int p,.loc n] s=.ok (.tup [.int 1,.loc c]) s'/\Fr s s'/\Told p A s.length s' c es/\∃fs,HP p A fs/\gj es=qD fs:=by
 have hr:=au hp;obtain⟨c,fs,s',e,F,rf,fk,fr,t,ht,fm⟩:=AQ hp ln hA.row hA.ne hl hT vJ;rw[qq hp hA ht]at fm;rw[hA.l1]at e;have ep:gj (fs.map enF)=qD fs:=by unfold gj qD;rw[V1];rfl
 have mn:∀q∈qD fs,d8 p q.2/\2<=q.2.length:=λq mq=>by unfold qD at mq;obtain⟨f,mf,rfl⟩:=VN.mp mq;exact⟨(fm.Tn f mf).mn,(fm.Tn f mf).l2⟩
 have bd:=K? hp hA mn (λq mq=>by
  unfold qD at mq;obtain⟨f,mf,rfl⟩:=VN.mp mq;have:=fm.pos f mf;show 1<=f.2.toNat;lia) fm.eq
 have mf':∀e∈fs.map enF,(e.1,e.2.2)∈qD fs/\s'[e.2.1]?=some (ay e.2.2)/\s.length<=e.2.1:=λe m=>by obtain⟨f,mf,rfl⟩:=VN.mp m;exact⟨VV (f:=λf:Fa=>(f.2.toNat,f.1.2)) mf,rf.r f mf,fr f mf⟩
 have nr:(fs.map (·.1.2)).Nodup:=V?.mpr (fm.up.imp λ{a b}h e=>by
  unfold pV at h;rw[e,SO.mK]at h;cases h)
 have h1:=rW (p:=p) ⋯ mn hA.row hA.ne fm.eq;refine⟨c,fs.map enF,s',e,F,⟨by rw[rf.l,N6 fm.pos],λe m=>(mf' e m).2.1,fk,λe m=>(mf' e m).2.2,λe m=>mn (e.1,e.2.2) (mf' e m).1,?_,by rw[ep];exact fm.eq,λe m=>by
  obtain⟨b1,b2⟩:=bd (e.1,e.2.2) (mf' e m).1;have b1:e.1<A.length:=b1;have b2:e.2.2.length<=A.length:=b2;exact⟨⋯,⋯⟩,?_⟩,fs,fm,ep⟩
 .rw[V1];refine V?.mpr ((V?.mp nr).imp_of_mem λ{a b}ma mb h e=>h ?_);have e:a.1.1=b.1.1:=e;have h1:=rf.r a ma;rw[e,rf.r b mb]at h1;exact((List.map_inj_right (λx y e=>by cases e;rfl)).mp (aZ.lst.inj (VP h1))).symm
 .rw[Vg];have:∀l:List (Nat×List Int),(∀q∈l,1<=q.1)->l.length<=w! l:=λl=>by
   induction l with
   |nil=>exact λ_=>Vt _
   |cons q l ih=>
    intro h;have h1:=ih λr m=>h r (Vx _ m);have h2:=h q Vu;show l.length+1<=q.1+w! l;lia
  have:=this (qD fs) λq mq=>by unfold qD at mq;obtain⟨f,mf,rfl⟩:=VN.mp mq;have:=fm.pos f mf;show 1<=f.2.toNat;lia
  unfold qD at this h1;rw[Vg]at this;lia
theorem xg(hp:dD p=true)(ln:s[n]?=some (ay A))(hA:d8 p A)(hl:A.length<=60):
  ∃c es s',PM.parts [.int p,.loc n] s=.ok (.tup [.int 1,.loc c]) s'/\Fr s s'/\Told p A s.length s' c es/\vH p A (gj es)/\es.Pairwise λa b=>a.1<b.1:=by
 obtain⟨s',c,es,e,O⟩:=DP hp ln hA.row hA.ne ⋯;obtain⟨t,ht,P⟩:=O.pr;rw[qq hp hA ht]at P;rw[hA.l1]at e;have me:∀e∈es,(e.1,e.2.2)∈gj es:=λe m=>VV (f:=λe:En=>(e.1,e.2.2)) m;have bd:=K? hp hA P.mn P.p1 P.eq;have:=O.ln;exact⟨c,es,s',e,O.fr,⟨O.lk,λe m=>(O.re e m).2.2,O.fk,λe m=>(O.re e m).1,λe m=>P.mn (e.1,e.2.2) (me e m),V?.mpr O.nd,P.eq,λe m=>by
  obtain⟨b1,b2⟩:=bd (e.1,e.2.2) (me e m);have b1:e.1<A.length:=b1;have b2:e.2.2.length<=A.length:=b2;exact⟨⋯,⋯⟩,⋯⟩,P,O.up⟩
end
end yg
variable {e:Expr}
namespace MN
open PySem.Spec L2 PyProof.Rows
def zC:FM
 |.loc n,[.int 0],st=>match st[n]? with
  |some (.lst (u::us))=>.ok u (st.set n (.lst us))
  |_=>.bad
 |_,_,_=>.bad
def zD:FM
 |.loc n,[.int 0,v],st=>match st[n]? with
  |some (.lst us)=>if us.length<sizeLine then .ok .dj (st.set n (.lst (v::us)))else .bad
  |_=>.bad
 |_,_,_=>.bad
theorem K':yC X "list.pop" (Q8 (wo X) E zC):=by
 refine yC.imp Il ?_;rintro x xs H Q ⟨ρ,st,u,us,sr,r1,r2,h⟩;unfold zC at h;split at h
 .rename_i n;obtain⟨a,rfl,ha⟩:=r1.fU;obtain⟨v,vt,rfl,rv,rt⟩:=r2.cY;have hx:=rt.gW;subst hx;have hv:=Rl.dh rv;subst hv;split at h
  .rename_i w ws hw;obtain⟨vs,hH,rv⟩:=sr.cell n _ a hw ha;obtain⟨y,Lp,rfl,ry,rr⟩:=bC.cY rv;refine⟨a,y::Lp,0,0,y,rfl,rfl,hH,by decide,by decide,?_,rfl,?_⟩
   .show seqIndex? 0 (Lp.length+1)=some 0;unfold seqIndex?;simp
   .obtain⟨k1,k2⟩:=px sr hw ha hH rr;exact h ρ _ _ k1 k2 (Rl.mono k1 _ _ ry)
  .exact h.elim
 .exact h.elim
theorem N7:yC X "list.insert" λx vs H Q=>∃l xs y,x=.ref l/\vs=[.int 0,y]/\H l=some (.lst xs)/\xs.length<sizeLine/\Q .dj (upd H l (.lst (y::xs))):=by
 intro ae s σ H x vs v us Q I rx rv h;obtain⟨l,xs,y,rfl,rfl,hH,hz,q⟩:=h;cases rx;cases rv with
 |cons r1 r2=>
  obtain⟨t,rfl⟩:=r1;obtain⟨u,rfl,ru⟩:=L2.bx.one r2;obtain⟨z,aN,n,r,hl,e⟩:=I.z? hH;refine X3 F.slot_list_insert ⟨_,e,rfl⟩ F.entry_list_insert (F.args_list_insert_3 _ _ _) (PySem.AutoListH.list_insert_list_int_val_1 l aN.toArray n 0 t u ⋯ (by rw[VB];lia)) ⟨e,?_⟩;refine⟨.dj,_,I.Ij (its':=u::aN) hH e ?_ (.cons ru r) ?_,rfl,q⟩
  .simp
  .rw[Vi];lia
theorem La:yC X "list.insert" (Q8 (wo X) E zD):=by
 refine yC.imp N7 ?_;rintro x xs H Q ⟨ρ,st,u,us,sr,r1,r2,h⟩;unfold zD at h;split at h
 .rename_i n w;obtain⟨a,rfl,ha⟩:=r1.fU;obtain⟨v,v2,rfl,rv,rw⟩:=r2.S9;have hv:=Rl.dh rv;subst hv;split at h
  .rename_i ws hw;split at h
   .rename_i hl;obtain⟨vs,hH,rv⟩:=sr.cell n _ a hw ha;refine⟨a,vs,v2,rfl,rfl,hH,by rw[<-rv.length];exact hl,?_⟩;obtain⟨k1,k2⟩:=px sr hw ha hH (bC.cons rw rv);exact h ρ _ _ k1 k2 rfl
   .exact h.elim
  .exact h.elim
 .exact h.elim
theorem N8(ho:PE X o (tE X E mo))(ha:PA X (e::es) (tL X E ms))(jl:attributeBase o "insert" X.env (eval o X.env)=eval o X.env:=by rfl)
  (vU:((backTo cN (starEach (e::es) X.env)).all (λx => !x.1)&&(backToKw cN (keywordEach [] X.env)).all (λx=>x.1.isSome)
   && decide ((e::es).length+([]:List Keyword).length+(if([]:List Keyword).isEmpty then 0 else 1)<30))=true:=by rfl)
  (jm:(apos.endLine==cN.line)=true:=by rfl) (hs:starEach (e::es) X.env=(false,eval e X.env)::starEach es X.env:=by rfl) (jT:(backTo cN (starEach es X.env)).any (·.1)=false:=by rfl):
  PE X (.Call (.Attribute o "insert" apos) (e::es) [] cN) (tE X E (iW zD mo ms)):=Af PySem.F.slot_list_insert PySem.F.type_list_insert La ho ha jl vU jm hs jT
theorem N9(ho:PE X o (tE X E mo))(ha:PA X (e::es) (tL X E ms))(jl:attributeBase o "pop" X.env (eval o X.env)=eval o X.env:=by rfl)
  (vU:((backTo cN (starEach (e::es) X.env)).all (λx => !x.1)&&(backToKw cN (keywordEach [] X.env)).all (λx=>x.1.isSome)
   && decide ((e::es).length+([]:List Keyword).length+(if([]:List Keyword).isEmpty then 0 else 1)<30))=true:=by rfl)
  (jm:(apos.endLine==cN.line)=true:=by rfl) (hs:starEach (e::es) X.env=(false,eval e X.env)::starEach es X.env:=by rfl) (jT:(backTo cN (starEach es X.env)).any (·.1)=false:=by rfl):
  PE X (.Call (.Attribute o "pop" apos) (e::es) [] cN) (tE X E (iW zC mo ms)):=Af ZG ZF K' ho ha jl vU jm hs jT
section
variable{st:af}
theorem N_(h:st[n]?=some (.lst us))(hl:us.length<sizeLine):zD (.loc n) [.int 0,v] st=.ok .dj (st.set n (.lst (v::us))):=by simp only[zD,h,Vv hl]
theorem N!(h:st[n]?=some (.lst (v::us))):zC (.loc n) [.int 0] st=.ok v (st.set n (.lst us)):=by simp only[zC,h]
end
end MN
namespace PM
open PySem.Spec L2 MN
open PyProof.Rows hiding St
def fW:FN:=iH 1 1 (az (sv (gA (ag (Lq false) bc (mC .dj))) (bZ (mC .dj)) fE) (bZ (cH 1 [] (f9 (x! bc (iz yM) iy)) (aA 0) bj (ao bD (aa bc ai)))))
def jd:FN:=iH 1 1 (bZ (gp (aa (ag bJ bc cW) (aa (cH 1 [] (f9 (ag bJ bc cm)) (aA 0) bj (gp (aa (ao qd (aa (ag bJ bc cW) ai)) (aa (ag bJ bc cm) ai)))) ai))))
def gn:FN:=iH 3 4 (az (aK 3 (ao PM.l? (aa bc (aa bT (aa d6 ai))))) (bZ (ag dA (ag dA d! (ag b9 (bB (aa cW ai)) (ag jr d6 (ao bD (aa d! ai))))) (bB (aa cm ai)))))
def kh:FN:=iH 2 5 (az (aK 2 (bB (aa (ag bJ bT cW) ai))) (az (ic (f9 (ag bJ bT cm)) (aA 3) (ic (f_ (aa (ag bJ d! cm) ai)) (aA 4) (aK 2 (ao PM.ja (aa bc (aa d6 (aa (ag bJ d! cW) ai))))))) (bZ d6)))
def kK(M:gZ):FN:=iH 2 2 (bZ (gp (aa (ao (PM.kJ M) (aa bc (aa bT ai))) (aa (ao PM.parts (aa bc (aa bT ai))) (aa (ao PM.fW (aa (ao PM.jk (aa bc (aa bT ai))) ai)) ai)))))
def uo(M:gZ):MB:=(bZ (GD (ag sA (ag bJ (ag bJ jU cW) cm) (ag bJ (jA 10) cW)) (ag sA (ag bJ (ag bJ jU cm) cm) (ag bJ (jA 10) cm))))
def uq(M:gZ):MB:=(az (aK 10 (cH 1 [] (f9 (x! qc iy (iz yM))) (aA 0) bj (ag dA (cH 1 [] (f9 (ag bJ bc cm)) (aA 0) bj (gp (aa (ag dA (ag bJ bc cW) (bB (aa cm ai))) (aa (ag bJ bc cm) ai)))) (bB (aa cm ai))))) (PM.uo M))
def ur(M:gZ):MB:=(az (sv (Ae (gA (ag vh (ao (PM.kK M) (aa bT (aa iU ai))) qc)) (gA (ag vh iU d!))) (bZ (mC (.bl false))) fE) (PM.uq M))
def uu(M:gZ):MB:=(az (e_ (iW zC iU (aa cW ai))) (PM.ur M))
def uv(M:gZ):MB:=(az (sv (Ae (gA (ag vh (ao PM.kh (aa bT (aa (ao (PM.kJ M) (aa bT (aa iU ai))) ai))) A_)) (gA (ag vh (ao PM.kh (aa bT (aa (ao PM.parts (aa bT (aa iU ai))) ai))) A_))) (bZ (mC (.bl false))) fE) (PM.uu M))
def uw(M:gZ):MB:=(az (aK 9 (ao qd (aa iU ai))) (PM.uv M))
def kM(M:gZ):MB:=(az (e_ (iW zD iU (aa cW (aa (ag gq (ao PM.bE (aa bc (aa Oz ai))) bT) ai)))) (PM.uw M))
def uz(M:gZ):MB:=(az (sv (gA (ag vh (ao (PM.kK M) (aa bT (aa iU ai))) qc)) (bZ (mC (.bl false))) fE) (PM.kM M))
def uA(M:gZ):MB:=(az (e_ (iW dC (ag bJ (ag bJ jU cm) cm) (aa cm ai))) (PM.uz M))
def xh(M:gZ):MB:=(az (e_ (iW dC (ag bJ (ag bJ jU cW) cm) (aa cm ai))) (PM.uA M))
def nW(M:gZ):MB:=(az (ic (f9 (ag dA (ag bJ (ag bJ jU cW) cm) (ag bJ (ag bJ jU cm) cm))) (aA 8) (e_ (iW dC (ag bJ GF cW) (aa cm ai)))) (PM.xh M))
def xi(M:gZ):MB:=(az (sv (Ae (gA (ag vh (ao PM.kh (aa d6 (aa (ao (PM.kJ M) (aa d6 (aa fY ai))) ai))) fY)) (gA (ag vh (ao (PM.kK M) (aa bT (aa iU ai))) qc))) (bZ (mC (.bl false))) fE) (PM.nW M))
def xj(M:gZ):MB:=(az (aK 7 (gp (aa (ao PM.jd (aa (ag bJ jU cW) ai)) (aa (ao PM.jd (aa (ag bJ jU cm) ai)) (aa (ag bJ jU yM) ai))))) (PM.xi M))
def nX(M:gZ):MB:=(az (aK 6 (ao (PM.kK M) (aa bT (aa iU ai)))) (PM.xj M))
def xk(M:gZ):MB:=(az (aK 5 (ao qd (aa d! ai))) (PM.nX M))
def xl(M:gZ):MB:=(az (aK 4 (ao PM.gn (aa d6 (aa (ao PM.bE (aa bc (aa QL ai))) (aa (ag dA cm (ag gq (ao PM.bE (aa bc (aa UX ai))) Oz)) ai))))) (PM.xk M))
def xm(M:gZ):MB:=(az (aK 3 (ao PM.gn (aa bT (aa (ao PM.bE (aa bc (aa cm ai))) (aa (ag dA cm (ag gq (ao PM.bE (aa bc (aa yM ai))) Oz)) ai))))) (PM.xl M))
def xn(M:gZ):MB:=(az (aK 2 (ag bJ (bB (aa yM (aa QL (aa Oz (aa UY ai))))) (ag gq (ag qT (ao PM.bE (aa bc (aa cW ai))) UX) UX))) (PM.xm M))
def r!(M:gZ):FN:=iH 1 11 (az (aK 1 (ag bJ (bB (aa yM (aa QL (aa Oz (aa UY ai))))) (ag gq (ao PM.bE (aa bc (aa cW ai))) UX))) (PM.xn M))
end PM
namespace yg
open PySem.Spec L2 MN PG LC
open PyProof.Rows hiding St kindOf
open SA (b?)
section
variable{c:Nat}{s:af}{A:_h}{M:gZ}{es:List En}
theorem Hx(hp:dD p=true){a b:Nat}{X G:_h}(l1:s[a]?=some (ay X))(l2:s[b]?=some (ay G))(hX:d8 p X)(hG:d8 p G)(b1:X.length<=1000)(b2:G.length<=1000):∃k T s',PM.ja [.int p,.loc a,.loc b] s=.ok (.loc k) s'/\Fr s s'/\s'[k]?=some (ay T)/\s.length<=k/\d8 p T/\(ak T:ah p)=ak X*ak G:=by
 have hr:=au hp;have dz:0<p:=⋯
 obtain⟨s',k,T,e,F,fk,l,rT,cT,_⟩:=Av hp (ax l1) (ax l2) (hX.row.sm hp) ⋯ ⋯;have eT:(ak T:ah p)=ak X*ak G:=mk_eq (cT.trans (aQ.of_eq (aV X G)).symm);obtain⟨C,hC,_,eC⟩:=hX.mul dz hG;have:T=C:=lx dz rT hC.row (by rw[eT,eC]);subst this;exact⟨k,T,s',e,F,l,fk,hC,eT⟩
abbrev mdB:MB:=aK 2 (ao PM.ja (aa bc (aa d6 (aa (ag bJ d! cW) ai))))
abbrev mdF:MB:=ic (f_ (aa (ag bJ d! cm) ai)) (aA 4) mdB
theorem aaN(hp:dD p=true){g b:Nat}{G X:_h}(hm:m<=1000)(lg:s[g]?=some (ay G))(hG:d8 p G)(bG:G.length<=1000)(lb:s[b]?=some (ay X))(hX:d8 p X)(bd:∀j,j<=m->∀C,d8 p C->(ak C:ah p)=ak X*ak G ^ j->C.length<=1000):
  ∃b' X' y4 s',mdF [qI p, x1, qL b, some (.tup [.loc g,.int (m:Int)]), x4] s=.nx [qI p, x1, qL b', some (.tup [.loc g,.int (m:Int)]), y4] s'/\Fr s s'/\s'[b']?=some (ay X')/\d8 p X'/\(ak X':ah p)=ak X*ak G ^ m:=by
 obtain⟨MI,hMI⟩:=NE ((m:Int):Int)
 rw[<-hMI];obtain⟨μ',s',ef,b',X',F,lb',To,e,y4,rfl⟩:=AN (a:=aA 4) (body:=mdB) (λi μ st=>∃b' X',Fr s st/\st[b']?=some (ay X')/\d8 p X'/\(ak X':ah p)=ak X*ak G ^ i/\∃y4,μ=[qI p, x1, qL b', some (.tup [.loc g,.int MI]), y4]) m [qI p, x1, qL b, some (.tup [.loc g,.int MI]), x4] s (by
  rintro i μ st hi ⟨b',X',F,lb',To,e,y4,rfl⟩;obtain⟨k,T,pv,et,F',l,_,hT,eT⟩:=Hx hp lb' (F _ _ lg) To hG (bd i ⋯ X' To e) bG;obtain⟨I,hI⟩:=NE ((i:Int):Int)
  rw[<-hI];refine⟨[some (.int p),x1,some (.loc b'),some (.tup [.loc g,.int MI]),some (.int I)],rfl,[qI p, x1, qL k, some (.tup [.loc g,.int MI]), qI I],pv,by simp![a! qf,et],k,T,F.trans F',l,hT,?_,_,rfl⟩;rw[eT,e,n?];exact dg _ _ _) ⟨b,X,Fr.refl s,lb,hX,by rw[uj];grind,_,rfl⟩
 refine⟨b',X',y4,s',?_,F,lb',To,e⟩;unfold mdF;generalize mdB=B at ef⊢;simp![iY,gv,a! vm,Kw hMI ⋯,ef]
theorem D_(hp:dD p=true)(hA:d8 p A)(ha:A.length<=1000)(h:Told p A lo s c es):∃k s',PM.kh [.int p,.tup [.int 1,.loc c]] s=.ok (.loc k) s'/\Fr s s'/\s'[k]?=some (ay A):=by
 have hr:=au hp;have dz:0<p:=⋯
 obtain⟨s1,e1,F1,l1,_⟩:=ba (s:=s) [.int 1];have ln:=h.ln;obtain⟨μ',s2,ef,b,X,F2,lb,hX,eX,x3,x4,rfl⟩:=dX (g:=λaI=>aq aI c=some (es.map jQ)) (a:=aA 3) (body:=mdF) (λi μ st=>∃b X,Fr s st/\st[b]?=some (ay X)/\d8 p X/\(ak X:ah p)=jz ((gj es).take i)/\∃x3 x4,μ=[qI p, some (.tup [.int 1,.loc c]), qL b, x3, x4]) (es.map jQ) 0 [qI p, some (.tup [.int 1,.loc c]), qL s.length, qn, qn] s1 (by
  rintro i u μ st hu ⟨b,X,F,lb,hX,eX,x3,x4,rfl⟩;rw[VZ]at eX⊢;rw[Vy]at hu;obtain⟨e,he,rfl⟩:=Wr.mp hu;have me:=V_ he;obtain⟨b1,b2⟩:=h.bd e me;have hP:(gj es)[i]?=some (e.1,e.2.2):=by unfold gj;rw[Vy,he];rfl
  have sp:(jz (gj es):ah p)=jz ((gj es).take i)*(ak e.2.2 ^ e.1*jz ((gj es).drop (i+1))):=by
   conv=>lhs;rw[<-List.take_append_drop i (gj es)]
   rw[nJ,Wq (VJ.mp hP).1,(VJ.mp hP).2];rfl
  obtain⟨b',X',y4,s',eb,F',lb',To,eX'⟩:=aaN (x1:=some (.tup [.int 1,.loc c])) (x4:=x4) hp b1 (F _ _ (h.r e me)) (h.mn e me).1 b2 lb hX (λj hj C hC eC=>by
   have:Dv p C A:=by
    obtain⟨i',Bw⟩:∃i',e.1=j+i':=⟨e.1-j,⋯⟩
    refine⟨ak e.2.2 ^ i'*jz ((gj es).drop (i+1)),?_⟩;rw[h.e,sp,eC,eX,Bw,sZ];generalize (ak e.2.2:ah p) ^ j=Y;generalize (ak e.2.2:ah p) ^ i'=Z
    grind
   have:=ny dz hA hC this;lia)
  refine⟨ax (F _ _ h.l),[qI p, some (.tup [.int 1,.loc c]), qL b, some (.tup [.loc e.2.1,.int (e.1:Int)]), x4],rfl,_,s',.inl eb,b',X',F.trans F',lb',To,?_,_,_,rfl⟩;rw[eX',eX,Xx,hP,nJ];show _=_*(ak e.2.2 ^ e.1*1);generalize (ak e.2.2:ah p) ^ e.1=Z
  grind) (λ_ st⟨_,_,F,_⟩=>ax (F _ _ h.l)) ⟨s.length,[1],F1,l1,aaH hr.1,rfl,_,_,rfl⟩
 rw[VZ,Vg,W_ (by unfold gj;rw[Vg];exact Vt _),<-h.e]at eX;have:X=A:=lx dz hX.row hA.row eX;subst this;refine⟨b,s2,?_,F2,lb⟩;have d1:bB (aa (ag bJ bT cW) ai) [qI p, some (.tup [.int 1,.loc c]), qn, qn, qn] s=.ok (.loc s.length) s1:=by rw[fg (wY (v:=.int 1) (s1:=s) (by rw[iu (x:=.tup [.int 1,.loc c]) (s1:=s) rfl (y:=.int 0) (s2:=s) rfl];exact a! qf)) (by show 1<=1000;decide),e1]
 unfold PM.kh;rw[bH (np:=2) (us:=[aj.int p,.tup [.int 1,.loc c]]) rfl];show(az (aK 2 (bB (aa (ag bJ bT cW) ai))) (az (ic _ _ mdF) _) [qI p, some (.tup [.int 1,.loc c]), qn, qn, qn] s).fin=_;generalize mdF=B at ef⊢;generalize bB (aa (ag bJ bT cW) ai)=D at d1⊢;simp![iY,gv,d1,a! vm,dG (ax (F1 _ _ h.l)),ef]
structure Cq(s:af)(k:Nat)(es:List En):Prop where
 l:s[k]?=some (.lst (es.map jQ))
 r:∀e∈es,s[e.2.1]?=some (ay e.2.2)
theorem Cq.mono{k:Nat}(h:Cq s k es)(F:Fr s s'):Cq s' k es:=⟨F _ _ h.l,λe m=>F _ _ (h.r e m)⟩
theorem zE(h:Cq s c es)(hl:es.length<=1000):∃k fs s',PM.jd [.tup [.int 1,.loc c]] s=.ok (.tup [.int 1,.loc k]) s'/\Fr s s'/\Cq s' k fs/\gj fs=gj es/\s.length<=k/\∀f∈fs,s.length<=f.2.1:=by
 have key:∀(gs:List En)(st:af)(ys:List aj)(τ:MN.Env),Fr s st->(∀e∈gs,e∈es)->(∃x,τ=[x])->∃(fs:List En)(aI:af),dS (λaI=>aq aI c=some (es.map jQ)) (aA 0) bj (gp (aa (ao qd (aa (ag bJ bc cW) ai)) (aa (ag bJ bc cm) ai))) (gs.map jQ) τ st ys=.ok (ys++fs.map jQ) aI/\Fr st aI/\gj fs=gj gs/\∀f∈fs,st.length<=f.2.1/\aI[f.2.1]?=some (ay f.2.2):=by
  intro gs
  induction gs with
  |nil=>rintro st ys τ F _ _;exact⟨[],st,by rw[VM,jb (ax (F _ _ h.l))];simp,Fr.refl st,rfl,λ_ m=>by cases m⟩
  |cons e gs ih=>
   rintro st ys τ F sub ⟨x,rfl⟩;have l1:=F _ _ (h.r e (sub e Vu));obtain⟨m,hm⟩:=NE ((e.1:Int):Int)
   have c1:=pB (ax l1);obtain⟨s1,e1,F1,k1,_⟩:=ba (s:=st) (e.2.2.map aj.int);rw[<-e1]at c1;have ee:gp (aa (ao qd (aa (ag bJ bc cW) ai)) (aa (ag bJ bc cm) ai)) [some (.tup [.loc e.2.1,.int m])] st=.ok (.tup [.loc st.length,.int m]) s1:=by simp![Vp,a! qf,a! vm,c1]
   obtain⟨fs,aI,e2,F2,p2,r2⟩:=ih s1 (ys++[.tup [.loc st.length,.int m]]) [some (.tup [.loc e.2.1,.int m])] (F.trans F1) (λe m=>sub e (Vx _ m)) ⟨_,rfl⟩;refine⟨(e.1,st.length,e.2.2)::fs,aI,?_,F1.trans F2,?_,λf mf=>?_⟩
   .rw[Vm,show jQ e=.tup [.loc e.2.1,.int m]from by rw[hm];rfl,gO (τ1:=[some (.tup [.loc e.2.1,.int m])]) (ax (F _ _ h.l)) rfl ee,e2,VY,hm];rfl
   .show(e.1,e.2.2)::gj fs=(e.1,e.2.2)::gj gs;rw[p2]
   .rcases VX.mp mf with rfl|mf
    .exact⟨Vt _,F2 _ _ k1⟩
    .have:=r2 f mf;have:=F1.len;exact⟨⋯,(r2 f mf).2⟩
 obtain⟨fs,s1,ec,F1,p1,r1⟩:=key es s [] [none] (Fr.refl s) (λ_ m=>m) ⟨_,rfl⟩;rw[Vq]at ec;have hz:(es.map jQ).length<=16777216:=by rw[Vg];lia
 have gY:∀x:Option aj,iV 1 [] [x]=[none]:=λ_=>rfl;refine⟨s1.length,fs,s1++[.lst (fs.map jQ)],?_,F1.more _,⟨bu _ _,λf m=>c! (r1 f m).2 _⟩,p1,F1.len,λf m=>(r1 f m).1⟩;unfold PM.jd;generalize gp (aa (ao qd (aa (ag bJ bc cW) ai)) (aa (ag bJ bc cm) ai))=E at ec⊢;simp![fB,dN,Vp,a! qf,a! vm,dG (ax h.l),gY,ec,Vv hz]
def SE(p:Int)(A:_h)(s:af)(lo:Nat)(v:aj):Prop:=(v=.dj/\¬ Bb p A)\/(Bb p A/\∃k,v=.loc k/\lo<=k/\s[k]?=some (ay [(A.length:Int)-1,(A.length:Int)-1,(A.length:Int)-1]))
theorem SE.mono(h:SE p A s lo v)(F:Fr s s'):SE p A s' lo v:=by
 rcases h with h|⟨h,k,e,l,c⟩
 .exact .inl h
 .exact .inr ⟨h,k,e,l,F _ _ c⟩
theorem D!(hp:dD p=true)(ln:s[n]?=some (ay A))(hA:d8 p A)(h2:2<=A.length)(hl:A.length<=100):∃u v s1 s',PM.jk [.int p,.loc n] s=.ok u s1/\PM.fW [u] s1=.ok v s'/\Fr s s'/\SE p A s' s.length v:=by
 obtain⟨u,s1,e,F,hu⟩:=AR hp ln hA h2 hl;rcases hu with⟨rfl,ni⟩|⟨⟨a,b,c,d,e',qs,rs,tb,rfl,l1,l2,l3,n1,n2,n3⟩,I⟩
 .have i1:Lq false .dj .dj s1=.ok (.bl true) s1:=rfl;exact⟨.dj,.dj,s1,s1,e,by simp![PM.fW,i1],F,.inl ⟨rfl,ni⟩⟩
 .obtain⟨N,hN⟩:=NE ((A.length:Int)-1:Int)
  have k1:bD [.loc c] s1=.ok (.int N) s1:=by rw[a_ (ax l1),show((qs.length:Nat):Int)=N by lia]
  have k2:bD [.loc d] s1=.ok (.int N) s1:=by rw[a_ (ax l2),show((rs.length:Nat):Int)=N by lia]
  have k3:bD [.loc e'] s1=.ok (.int N) s1:=by rw[a_ (ax l3),show((tb.length:Nat):Int)=N by lia]
  have sl:ET (some 2) none (.tup [.loc a,.loc b,.loc c,.loc d,.loc e']) s1=.ok (.tup [.loc c,.loc d,.loc e']) s1:=by show(if HT.h_ 5 0 (some 2)=0/\HT.h_ 5 5 none=5 then fu.bad else fu.ok (aj.tup (uK [.loc a,.loc b,.loc c,.loc d,.loc e'] (some 2) none)) s1)=_;rw[VG ⋯];rfl
  have hc:dS (λ_=>True) (aA 0) bj (ao bD (aa bc ai)) [.loc c,.loc d,.loc e'] [none] s1 []=.ok [.int N,.int N,.int N] s1:=by
   have st:∀k,bD [.loc k] s1=.ok (.int N) s1->ao bD (aa bc ai) [some (.loc k)] s1=.ok (.int N) s1:=λk h=>by rw[iO (wY (v:=.loc k) (s1:=s1) rfl),h]
   rw[gO (τ1:=[some (.loc c)]) trivial rfl (st c k1),gO (τ1:=[some (.loc d)]) trivial rfl (st d k2),gO (τ1:=[some (.loc e')]) trivial rfl (st e' k3),jb trivial];rfl
  have i1:Lq false (.tup [.loc a,.loc b,.loc c,.loc d,.loc e']) .dj s1=.ok (.bl false) s1:=rfl;have gY:∀x:Option aj,iV 1 [] [x]=[none]:=λ_=>rfl;have hz:[aj.loc c,.loc d,.loc e'].length<=16777216:=by show 3<=_;decide
  refine⟨_,.loc s1.length,s1,s1++[ay [N,N,N]],e,?_,F.more _,.inr ⟨I,_,rfl,F.len,by rw[hN];exact bu _ _⟩⟩;unfold PM.fW;generalize ao bD (aa bc ai)=E at hc⊢;simp![fB,dN,Vp,i1,sl,gY,hc,Vv hz];rfl
structure SF(p:Int)(A:_h)(lo:Nat)(s:af)(cF:Nat)(eF:List En)(cP:Nat)(eP:List En)(v:aj):Prop where
 f:Told p A lo s cF eF
 fm:∃fs,HP p A fs/\gj eF=qD fs
 q:Told p A lo s cP eP
 pm:vH p A (gj eP)/\eP.Pairwise λa b=>a.1<b.1
 l:SE p A s lo v
 nd:∀e∈eF,∀e'∈eP,e.2.1≠e'.2.1
 nc:cF≠cP
 lk:∀k,v=.loc k->cF<k/\cP<k/\(∀e∈eF,e.2.1<k)/\∀e∈eP,e.2.1<k
theorem AV(hp:dD p=true)(ln:s[n]?=some (ay A))(hA:d8 p A)(h2:2<=A.length)(hl:A.length<=60)(hT:gr s M.own M.line M.col M.S.qual)(vJ:M.S.ps.length=1):
  ∃cF eF cP eP v s',PM.kK M [.int p,.loc n] s=.ok (.tup [.tup [.int 1,.loc cF],.tup [.int 1,.loc cP],v]) s'/\Fr s s'/\SF p A s.length s' cF eF cP eP v:=by
 obtain⟨cF,eF,s1,e1,F1,t1,m1⟩:=nO hp ln hA hl hT vJ;obtain⟨cP,eP,s2,e2,F2,t2,m2⟩:=xg hp (F1 _ _ ln) hA hl;obtain⟨u,v,s3,s4,e3,e4,F4,l4⟩:=D! hp (F2 _ _ (F1 _ _ ln)) hA h2 ⋯;have h1:=F1.len;have HK:=F2.len;refine⟨cF,eF,cP,eP,v,s4,?_,F1.trans (F2.trans F4),t1.mono (F2.trans F4),m1,(t2.mono F4).low h1,m2,?_,λe m e' m' z=>?_,λz=>?_,λk z=>?_⟩
 .have ul:ao PM.fW (aa (ao PM.jk (aa bc (aa bT ai))) ai) [some (.int p),some (.loc n)] s2=.ok v s4:=by rw[iO (wY (v:=u) (s1:=s3) (by rw[iO (NI (v:=.int p) (s1:=s2) rfl (w:=.loc n) (s2:=s2) rfl),e3])),e4]
  unfold PM.kK;generalize ao PM.fW (aa (ao PM.jk (aa bc (aa bT ai))) ai)=E at ul⊢;simp![Vp,e1,e2,ul]
 .rcases l4 with h|⟨h,k,e,l,c⟩
  .exact .inl h
  .exact .inr ⟨h,k,e,⋯,c⟩
 .have:=aU (t1.r e m);have:=t2.fr e' m';lia
 .have:=aU t1.l;have:=t2.fk;lia
 .have a1:=aU t1.l;have a2:=aU t2.l;have a3:s2.length<=k:=by
   rcases l4 with⟨h,_⟩|⟨_,k',e,l,_⟩
   .rw[h]at z;cases z
   .rw[e]at z;cases z;exact l
  exact⟨⋯,⋯,λe m=>by have:=aU (t1.r e m);lia,λe m=>by have:=aU (t2.r e m);lia⟩
end
theorem wJ{st:af}(n:Nat){a b:Nat}(h1:st[a]?=some (ay R))(h2:st[b]?=some (ay R)):lO (n+2) st (.loc a) (.loc b)=some true:=by unfold lO;simp only[vw,ax h1,ax h2];exact mJ st n _ (iA n R)
theorem xo{st:af}(n:Nat){ws ws':List aj}(hw:iI (lO (n+3) st) ws ws'=some true):∀{es fs:List En},gj es=gj fs->(∀e∈es,st[e.2.1]?=some (ay e.2.2))->(∀e∈fs,st[e.2.1]?=some (ay e.2.2))->iI (lO (n+3) st) (es.map jQ++ws) (fs.map jQ++ws')=some true
 |[],[],_,_,_=>hw
 |[],_::_,h,_,_=>by cases h
 |_::_,[],h,_,_=>by cases h
 |e::es,f::fs,h,re,rf=>by
  have h1:(e.1,e.2.2)=(f.1,f.2.2):=(WT h).1;have a1:=re e (Vu ..);have a2:=rf f (Vu ..);rw[show f.2.2=e.2.2 from(WE Prod.snd h1).symm]at a2;have e1:=wJ n a1 a2;have e2:lO (n+2) st (.int (e.1:Int)) (.int (f.1:Int))=some true:=by rw[show f.1=e.1 from(WE Prod.fst h1).symm];exact BK st (n+1) (.int (e.1:Int)) rfl
  have e3:lO (n+3) st (jQ e) (jQ f)=some true:=by show iI (lO (n+2) st) [.loc e.2.1,.int (e.1:Int)] [.loc f.2.1,.int (f.1:Int)]=some true;unfold iI;rw[e1];unfold iI;rw[e2];rfl
  rw[Vm,Vm,VD,VD];unfold iI;rw[e3,xo n hw (WT h).2 (λx m=>re x (Vx _ m)) λx m=>rf x (Vx _ m)];rfl
section
variable{s:af}{A:_h}{lo':Nat}{w:aj}
structure Kept(p:Int)(A:_h)(s:af)(kF:Nat)(fF:List En)(kP:Nat)(fP:List En):Prop where
 f:Cq s kF fF
 fm:∃fs,HP p A fs/\gj fF=qD fs
 q:Cq s kP fP
 pm:vH p A (gj fP)/\(gj fP).Pairwise λa b=>a.1<b.1
theorem Lb{es:List En}(h:es.Pairwise λa b=>a.1<b.1):(gj es).Pairwise λa b=>a.1<b.1:=V?.mpr h
theorem alike(hp:dD p=true)(hA:d8 p A)(ha:A.length<=60)(h:SF p A lo s cF eF cP eP v)(k:Kept p A s kF fF kP fP)(l:SE p A s lo' w):vh (.tup [.tup [.int 1,.loc cF],.tup [.int 1,.loc cP],v]) (.tup [.tup [.int 1,.loc kF],.tup [.int 1,.loc kP],w]) s=.ok (.bl false) s:=by
 obtain⟨fs,m1,q1⟩:=h.fm;obtain⟨gs,m2,q2⟩:=k.fm;have eF':gj eF=gj fF:=by rw[q1,q2,N5 hp hA ⋯ m1 m2]
 have eP':=Hw hp h.pm.1 k.pm.1 hA.row hA.ne ⋯ (Lb h.pm.2) k.pm.2;have z:iI (lO 13 s) [] []=some true:=rfl;have one:lO 14 s (.int 1) (.int 1)=some true:=rfl;have pr:∀{a b:Nat}{es fs:List En},s[a]?=some (.lst (es.map jQ))->s[b]?=some (.lst (fs.map jQ))->gj es=gj fs->(∀e∈es,s[e.2.1]?=some (ay e.2.2))->(∀e∈fs,s[e.2.1]?=some (ay e.2.2))->lO 15 s (.tup [.int 1,.loc a]) (.tup [.int 1,.loc b])=some true:=λ{a b es fs}h1 h2 e r1 r2=>by
  have x:=xo 10 z e r1 r2;rw[Wc,Wc]at x;have y:lO 14 s (.loc a) (.loc b)=some true:=by unfold lO;simp only[vw,ax h1,ax h2];exact x
  show iI (lO 14 s) [.int 1,.loc a] [.int 1,.loc b]=some true;unfold iI;rw[one];unfold iI;rw[y];rfl
 have x1:=pr h.f.l k.f.l eF' h.f.r k.f.r;have x2:=pr h.q.l k.q.l eP' h.q.r k.q.r;have x3:lO 15 s v w=some true:=by
  rcases h.l with⟨rfl,ni⟩|⟨I,a,rfl,_,la⟩<;>rcases l with⟨rfl,ni'⟩|⟨I',b,rfl,_,lb⟩
  .rfl
  .exact absurd I' ni
  .exact absurd I ni'
  .exact wJ 13 la lb
 have e:lO 16 s (.tup [.tup [.int 1,.loc cF],.tup [.int 1,.loc cP],v]) (.tup [.tup [.int 1,.loc kF],.tup [.int 1,.loc kP],w])=some true:=by show iI (lO 15 s) [.tup [.int 1,.loc cF],.tup [.int 1,.loc cP],v] [.tup [.int 1,.loc kF],.tup [.int 1,.loc kP],w]=some true;unfold iI;rw[x1];unfold iI;rw[x2];unfold iI;rw[x3];rfl
 unfold vh;rw[e];rfl
def But(T:List Nat)(s s':af):Prop:=∀m c,m ∉ T->s[m]?=some c->s'[m]?=some c
abbrev apB:MB:=e_ (iW dC (ag bJ GF cW) (aa cm ai))
theorem SG{gs:List En}(hg:∀e∈gs,s[e.2.1]?=some (ay e.2.2)/\e.2.2.length<=1000)(nd:(gs.map (·.2.1)).Nodup){g:Nat}(lg:s[g]?=some (.lst (gs.map jQ)))(ng:g ∉ gs.map (·.2.1)){x10:Option aj}:
  ∃y8 s',forL (λst=>aq st g=some (gs.map jQ)) (aA 8) apB (gs.map jQ) [x0,x1,x2,x3,x4,x5,x6,x7,x8,x9,x10] s=.nx [x0,x1,x2,x3,x4,x5,x6,x7,y8,x9,x10] s'/\(∀e∈gs,s'[e.2.1]?=some (ay (e.2.2++[1])))/\But (gs.map (·.2.1)) s s':=by
 obtain⟨μ',s',ef,h1,_,h3,y8,rfl⟩:=dX (g:=λst=>aq st g=some (gs.map jQ)) (a:=aA 8) (body:=apB) (λi μ st=>(∀e∈gs.take i,st[e.2.1]?=some (ay (e.2.2++[1])))/\(∀e∈gs.drop i,st[e.2.1]?=some (ay e.2.2))/\But (gs.map (·.2.1)) s st/\∃y8,μ=[x0,x1,x2,x3,x4,x5,x6,x7,y8,x9,x10]) (gs.map jQ) 0 [x0,x1,x2,x3,x4,x5,x6,x7,x8,x9,x10] s (by
  rintro i u μ st hu ⟨h1,h2,h3,y8,rfl⟩;rw[VZ]at h1 h2⊢;rw[Vy]at hu;obtain⟨e,he,rfl⟩:=Wr.mp hu;have me:=V_ he;have hi:=(VJ.mp he).1;have hd:gs.drop i=e::gs.drop (i+1):=by rw[Wq hi,(VJ.mp he).2]
  have ht:gs.take (i+1)=gs.take i++[e]:=by rw[Xx,he];rfl
  have le:=h2 e (by rw[hd];exact Vu);obtain⟨m,hm⟩:=NE ((e.1:Int):Int)
  have a1:=gM (v:=.int 1) le (by rw[aE,Vp];have:=(hg e me).2;lia);rw[show e.2.2.map aj.int++[aj.int 1]=(e.2.2++[1]).map aj.int from by rw[VS];rfl]at a1;have nd':(gs.take i++e::gs.drop (i+1)).map (·.2.1) |>.Nodup:=by rw[<-hd,List.take_append_drop];exact nd
  rw[VS,Vm]at nd';have ne1:∀x∈gs.take i,e.2.1≠x.2.1:=λx mx z=>by have:=(Zg.mp nd').2.2 x.2.1 (VV mx) e.2.1 Vu;exact this z.symm
  have ne2:∀x∈gs.drop (i+1),e.2.1≠x.2.1:=λx mx z=>by have:=(WJ.mp (Zg.mp nd').2.1).1;exact this (by rw[z];exact VV mx)
  refine⟨ax (h3 _ _ ng lg),[x0, x1, x2, x3, x4, x5, x6, x7, some (.tup [.loc e.2.1,.int m]), x9, x10],by rw[hm];rfl,[x0, x1, x2, x3, x4, x5, x6, x7, some (.tup [.loc e.2.1,.int m]), x9, x10],st.set e.2.1 (ay (e.2.2++[1])),.inl ?_,λx mx=>?_,λx mx=>?_,λk c nk hk=>?_,_,rfl⟩
  .simp![a! qf,mI le,a1]
  .rw[ht]at mx;rcases VF.mp mx with mx|mx
   .exact e? (h1 x mx) (ne1 x mx)
   .rw[Vz.mp mx];exact gz le
  .exact e? (h2 x (by rw[hd];exact Vx _ mx)) (ne2 x mx)
  .exact e? (h3 k c nk hk) (λz=>nk (by rw[<-z];exact VV me))) (λ_ st⟨_,_,h3,_⟩=>ax (h3 _ _ ng lg)) ⟨(λ_ m=>by cases m),(λe m=>(hg e m).1),λ_ _ _ h=>h,_,rfl⟩
 rw[VZ,Vg,W_ (Vt _)]at h1;exact⟨y8,s',ef,h1,h3⟩
def O7(e:En):En:=(e.1,e.2.1,e.2.2++[1])
abbrev lgE:ME:=gp (aa (ag dA (ag bJ bc cW) (bB (aa cm ai))) (aa (ag bJ bc cm) ai))
abbrev lgP:ME:=ag dA (cH 1 [] (f9 (ag bJ bc cm)) (aA 0) bj lgE) (bB (aa cm ai))
theorem zF{k:Nat}{es:List En}(h:Cq s k es)(hl:es.length<=1000)(hb:∀e∈es,e.2.2.length<=1000):∃c fs s',lgP [some (.tup [.int 1,.loc k])] s=.ok (.loc c) s'/\Fr s s'/\s'[c]?=some (.lst (fs.map jQ++[.int 1]))/\(∀f∈fs,s'[f.2.1]?=some (ay f.2.2))/\gj fs=gj (es.map O7):=by
 have key:∀(gs:List En)(st:af)(ys:List aj)(τ:MN.Env),Fr s st->(∀e∈gs,e∈es)->(∃x,τ=[x])->∃(fs:List En)(aI:af),dS (λaI=>aq aI k=some (es.map jQ)) (aA 0) bj lgE (gs.map jQ) τ st ys=.ok (ys++fs.map jQ) aI/\Fr st aI/\gj fs=gj (gs.map O7)/\∀f∈fs,aI[f.2.1]?=some (ay f.2.2):=by
  intro gs
  induction gs with
  |nil=>rintro st ys τ F _ _;exact⟨[],st,by rw[VM,jb (ax (F _ _ h.l))];simp,Fr.refl st,rfl,λ_ m=>by cases m⟩
  |cons e gs ih=>
   rintro st ys τ F sub ⟨x,rfl⟩;have me:=sub e Vu;have l1:=F _ _ (h.r e me);obtain⟨m,hm⟩:=NE ((e.1:Int):Int)
   obtain⟨s1,e1,F1,k1,_⟩:=ba (s:=st) [.int 1];have c1:=j4 (F1 _ _ l1) k1 (by rw[aE,VO,Vp];have:=hb e me;lia);rw[show e.2.2.map aj.int++[aj.int 1]=(e.2.2++[1]).map aj.int from by rw[VS];rfl]at c1;obtain⟨s2,e2,F2,k2,_⟩:=ba (s:=s1) ((e.2.2++[1]).map aj.int);rw[<-e2]at c1;have ee:lgE [some (.tup [.loc e.2.1,.int m])] st=.ok (.tup [.loc s1.length,.int m]) s2:=by
    have d:bB (aa cm ai) [some (.tup [.loc e.2.1,.int m])] st=.ok (.loc st.length) s1:=by rw[fg (vs:=[.int 1]) (s1:=st) rfl ⋯,e1]
    unfold lgE;generalize bB (aa cm ai)=D at d⊢;simp![Vp,a! qf,a! vm,d,c1]
   obtain⟨fs,aI,e3,F3,p3,r3⟩:=ih s2 (ys++[.tup [.loc s1.length,.int m]]) [some (.tup [.loc e.2.1,.int m])] (F.trans (F1.trans F2)) (λe m=>sub e (Vx _ m)) ⟨_,rfl⟩;refine⟨(e.1,s1.length,e.2.2++[1])::fs,aI,?_,F1.trans (F2.trans F3),?_,λf mf=>?_⟩
   .rw[Vm,show jQ e=.tup [.loc e.2.1,.int m]from by rw[hm];rfl,gO (τ1:=[some (.tup [.loc e.2.1,.int m])]) (ax (F _ _ h.l)) rfl ee,e3,VY,hm];rfl
   .show(e.1,e.2.2++[1])::gj fs=(e.1,e.2.2++[1])::gj (gs.map O7);rw[p3]
   .rcases VX.mp mf with rfl|mf
    .exact F3 _ _ k2
    .exact r3 f mf
 obtain⟨fs,s1,ec,F1,p1,r1⟩:=key es s [] [none] (Fr.refl s) (λ_ m=>m) ⟨_,rfl⟩;rw[Vq]at ec;have hz:(es.map jQ).length<=16777216:=by rw[Vg];lia
 have lf:fs.length=es.length:=by have:=WE List.length p1;unfold gj at this;simpa using this
 obtain⟨s2,e2,F2,l2,_⟩:=ba (s:=s1) (fs.map jQ);obtain⟨s3,e3,F3,l3,_⟩:=ba (s:=s2) [.int 1];have a4:=j4 (F3 _ _ l2) l3 (by rw[Vg,VO,Vp];lia);obtain⟨s4,e4,F4,l4,_⟩:=ba (s:=s3) (fs.map jQ++[.int 1]);rw[<-e4]at a4;refine⟨s3.length,fs,s4,?_,F1.trans (F2.trans (F3.trans F4)),l4,λf m=>F4 _ _ (F3 _ _ (F2 _ _ (r1 f m))),p1⟩;have d1:cH 1 [] (f9 (ag bJ bc cm)) (aA 0) bj lgE [some (.tup [.int 1,.loc k])] s=.ok (.loc s1.length) s2:=by rw[dN,eI,iu (x:=.tup [.int 1,.loc k]) (s1:=s) rfl (y:=.int 1) (s2:=s) rfl,a! vm,ar,dG (ax h.l),ar,fB,Vv (by rw[Vp];exact hz),show iV 1 [] [some (.tup [.int 1,.loc k])]=[none]from rfl,ec,ar,ie,e2]
 have d2:bB (aa cm ai) [some (.tup [.int 1,.loc k])] s2=.ok (.loc s2.length) s3:=by rw[fg (vs:=[.int 1]) (s1:=s2) rfl ⋯,e3]
 show ag dA _ _ _ s=_;rw[iu d1 d2,a4]
end
def mT(h:Nat)(s s':af):Prop:=∀m c,m≠h->s[m]?=some c->s'[m]?=some c
theorem mT.of{h:Nat}{s:af}(F:Fr s s'):mT h s s':=λm c _ e=>F m c e
theorem mT.set{h:Nat}(s:af)(c:aZ):mT h s (s.set h c):=λm c' n e=>e? e (WU n)
theorem mT.trans{h:Nat}{s pv:af}(a:mT h s s')(b:mT h s' pv):mT h s pv:=λm c n e=>b m c n (a m c n e)
theorem SH{s:af}(h:aq s n=some us)(b:∀c,s[n]?=some c->s'[n]?=some c):aq s' n=some us:=by
 cases e:s[n]? with
 |none=>unfold aq at h;rw[e]at h;cases h
 |some c=>
  unfold aq at h⊢;rw[b c e];rw[e]at h;exact h
section
variable{s:af}{A:_h}{h:Nat}{w:aj}{M:gZ}
structure Lc(p:Int)(A:_h)(lo:Nat)(s:af)(kF:Nat)(fF:List En)(kP:Nat)(fP:List En)(w:aj)(cF:Nat)(eF:List En)(cP:Nat)(eP:List En):Prop where
 k:Kept p A s kF fF kP fP
 l:SE p A s lo w
 f:s[cF]?=some (.lst (eF.map jQ++[.int 1]))
 fr:∀e∈eF,s[e.2.1]?=some (ay (e.2.2++[1]))
 q:s[cP]?=some (.lst (eP.map jQ++[.int 1]))
 qr:∀e∈eP,s[e.2.1]?=some (ay (e.2.2++[1]))
 ge:lo<=kF/\lo<=kP/\lo<=cF/\lo<=cP
 gF:∀e∈fF,lo<=e.2.1
 gP:∀e∈fP,lo<=e.2.1
 hF:∀e∈eF,lo<=e.2.1
 hP:∀e∈eP,lo<=e.2.1
 pF:gj fF=gj eF
 pP:gj fP=gj eP
 bF:fF.length<=1000/\∀e∈fF,e.2.2.length<=1000
 bP:fP.length<=1000/\∀e∈fP,e.2.2.length<=1000
theorem Lc.but(S:Lc p A lo s kF fF kP fP w cF eF cP eP)(hl:h<lo)(b:mT h s s'):Lc p A lo s' kF fF kP fP w cF eF cP eP:=by
 obtain⟨g1,g2,g3,g4⟩:=S.ge;have b':∀m c,lo<=m->s[m]?=some c->s'[m]?=some c:=λm c hm e=>b m c ⋯ e;exact{S with
  k:=⟨⟨b' _ _ g1 S.k.f.l,λe m=>b' _ _ (S.gF e m) (S.k.f.r e m)⟩,S.k.fm,⟨b' _ _ g2 S.k.q.l,λe m=>b' _ _ (S.gP e m) (S.k.q.r e m)⟩,S.k.pm⟩
  l:=by
   rcases S.l with z|⟨I,k,e,l,c⟩
   .exact .inl z
   .exact .inr ⟨I,k,e,l,b' _ _ l c⟩
  f:=b' _ _ g3 S.f
  fr:=λe m=>b' _ _ (S.hF e m) (S.fr e m)
  q:=b' _ _ g4 S.q
  qr:=λe m=>b' _ _ (S.hP e m) (S.qr e m)}
theorem Ld{es fs:List En}(h:gj es=gj fs):gj (es.map O7)=gj (fs.map O7):=by
 have e:∀l:List En,gj (l.map O7)=(gj l).map λq=>(q.1,q.2++[1]):=λl=>by unfold gj;rw[V1,V1];rfl
 rw[e,e,h]
theorem last_eq{a b:Nat}{es fs:List En}(h1:s[a]?=some (.lst (es.map jQ++[.int 1])))(r1:∀e∈es,s[e.2.1]?=some (ay (e.2.2++[1])))(h2:s[b]?=some (.lst (fs.map jQ++[.int 1])))(r2:∀f∈fs,s[f.2.1]?=some (ay f.2.2))(e:gj (es.map O7)=gj fs):sA (.loc a) (.loc b) s=.ok (.bl true) s:=by
 have x:=xo (st:=s) 12 (ws:=[.int 1]) (ws':=[.int 1]) rfl e (λx m=>by
  obtain⟨y,my,rfl⟩:=VN.mp m;exact r1 y my) r2
 rw[show(es.map O7).map jQ=es.map jQ from by rw[V1];rfl]at x;have y:lO 16 s (.loc a) (.loc b)=some true:=by unfold lO;simp only[vw,ax h1,ax h2];exact x
 unfold sA;rw[y]
theorem Le(hp:dD p=true)(hA:d8 p A)(a2:2<=A.length)(a7:A.length<=7)(S:Lc p A lo s kF fF kP fP w cF eF cP eP){a:Nat}(la:s[a]?=some (ay A))(lh:s[h]?=some (ay A))(nah:a≠h)(hl:h<lo)(n0:h≠0)(hi:aq s 0=some (ns.map aj.int))(hT:gr s M.own M.line M.col M.S.qual)(vJ:M.S.ps.length=1){v6:Option aj}(e6:v6=some (.tup [.tup [.int 1,.loc cF],.tup [.int 1,.loc cP],w])):
  ∃s',PM.kM M [qL 0, qI p, x2, qL a, x4, qL h, v6, some (.tup [.tup [.int 1,.loc kF],.tup [.int 1,.loc kP],w]), x8, qn, qn] s=.rt (.bl true) s':=by
 subst e6;have hr:=au hp;have dz:0<p:=⋯
 have aaO:∀{s1 s2:af},gr s1 M.own M.line M.col M.S.qual->mT h s1 s2->s1[h]?=some (ay A)\/(∃R,s1[h]?=some (ay R))->gr s2 M.own M.line M.col M.S.qual:=λ{s1 s2}⟨j,hj⟩b ho=>⟨j,b j _ (λz=>by
  subst z;rcases ho with ho|⟨R,ho⟩<;>(rw[hj]at ho;cases ho)) hj⟩
 obtain⟨o5,c5⟩:=j5 (k:=5) hi ⋯ ⋯;obtain⟨x,hx⟩:=NE (o5.fmod p)
 have rx:=rX dz o5;rw[<-hx]at rx;have i12:=N_ (v:=.int x) lh (by rw[aE,Vp];lia);obtain⟨s12,SI⟩:=NE (s.set h (ay (x::A)))
 rw[show aZ.lst (aj.int x::A.map aj.int)=ay (x::A)from rfl,<-SI]at i12;have B12:mT h s s12:=by rw[SI];exact mT.set s _
 have l12:s12[h]?=some (ay (x::A)):=by rw[SI];exact gz lh
 have aaP:=aaO hT B12 (.inl lh);have hA2:d8 p (x::A):=by
  obtain⟨l,c,hd⟩:=(YL A).resolve_left hA.ne;rw[YM]at hd;have c1:=hA.l1;rw[hd,pI]at c1;have e:x::A=(x::l)++[1]:=by rw[hd,c1];rfl
  refine⟨⟨by rw[e];exact iB rfl _,λy my=>?_⟩,by simp,by rw[e];exact pI _ 1⟩;rcases VX.mp my with rfl|my
  .exact rx
  .exact hA.row.HQ y my
 have c13:=pB (ax l12);obtain⟨s13,e13,OR,l13,_⟩:=ba (s:=s12) ((x::A).map aj.int);rw[<-e13]at c13;have ab_:gr s13 M.own M.line M.col M.S.qual:=by obtain⟨j,hj⟩:=aaP;exact⟨j,OR _ _ hj⟩
 obtain⟨c14,e14,s14,q14,F14,t14,_⟩:=nO (A:=x::A) hp (OR _ _ l12) hA2 (by rw[Vi];lia) ab_ vJ;obtain⟨k15,s15,q15,F15,l15⟩:=D_ hp hA2 (by rw[Vi];lia) t14;have Tp:=F14.trans F15;have n15:=q? (ax l15) (ax (Tp _ _ l13)) (iA 14 (x::A));obtain⟨c16,e16,s16,q16,F16,t16,_⟩:=xg (A:=x::A) hp (Tp _ _ (OR _ _ l12)) hA2 (by rw[Vi];lia);obtain⟨k17,s17,q17,F17,l17⟩:=D_ hp hA2 (by rw[Vi];lia) t16;have F37:=Tp.trans (F16.trans F17);have n17:=q? (ax l17) (ax (F37 _ _ l13)) (iA 14 (x::A));have F27:=OR.trans F37;have N?:=F27 _ _ l12;have p18:=N! (us:=A.map aj.int) (v:=.int x) (show s17[h]?=some (.lst (aj.int x::A.map aj.int))from N?);obtain⟨s18,N'⟩:=NE (s17.set h (ay A))
 rw[show aZ.lst (A.map aj.int)=ay A from rfl,<-N']at p18;have B18:mT h s s18:=(B12.trans (mT.of F27)).trans (by rw[N'];exact mT.set s17 _);have l18:s18[h]?=some (ay A):=by rw[N'];exact gz N?
 have ab!:gr s18 M.own M.line M.col M.S.qual:=by
  have h17:gr s17 M.own M.line M.col M.S.qual:=by obtain⟨j,hj⟩:=aaP;exact⟨j,F27 _ _ hj⟩
  exact aaO h17 (by rw[N'];exact mT.set s17 _) (.inr ⟨_,N?⟩)
 have S18:=S.but hl B18;obtain⟨dF,gF,dP,gP,v,SJ,q19,F19,A19⟩:=AV hp l18 hA a2 ⋯ ab! vJ;have Tq:=S18.but hl (mT.of F19);have n19:=alike hp hA ⋯ A19 Tq.k Tq.l;have ab?:=F19 _ _ (B18 _ _ nah la);have n20:=q? (ax (F19 _ _ l18)) (ax ab?) (iA 14 A);obtain⟨d1,f1,s20,q20,F20,l20,r20,p20⟩:=zF Tq.k.f Tq.bF.1 Tq.bF.2;have S20:=Tq.but hl (mT.of F20);obtain⟨d2,f2,s21,q21,F21,l21,r21,p21⟩:=zF S20.k.q S20.bP.1 S20.bP.2;obtain⟨Tr,e22,F22,l22,_⟩:=ba (s:=s21) [.loc d1,.loc d2];have uk:=F21.trans F22;have S22:=S20.but hl (mT.of uk);have m1:=last_eq S22.f S22.fr (uk _ _ l20) (λf m=>uk _ _ (r20 f m)) ((Ld S.pF.symm).trans p20.symm);have m2:=last_eq S22.q S22.qr (F22 _ _ l21) (λf m=>F22 _ _ (r21 f m)) ((Ld S.pP.symm).trans p21.symm);have i0:bJ (.loc s21.length) (.int 0) Tr=.ok (.loc d1) Tr:=dB (ax l22) qf;have i1:bJ (.loc s21.length) (.int 1) Tr=.ok (.loc d2) Tr:=dB (ax l22) vm;have sl:ET none (some 2) (.tup [.tup [.int 1,.loc kF],.tup [.int 1,.loc kP],w]) SJ=.ok (.tup [.tup [.int 1,.loc kF],.tup [.int 1,.loc kP]]) SJ:=by show(if HT.h_ 3 0 none=0/\HT.h_ 3 3 (some 2)=3 then fu.bad else fu.ok (aj.tup (uK [.tup [.int 1,.loc kF],.tup [.int 1,.loc kP],w] none (some 2))) SJ)=_;rw[VG ⋯];rfl
 have hc:dS (λ_=>True) (aA 0) bj lgP [.tup [.int 1,.loc kF],.tup [.int 1,.loc kP]] [none] SJ []=.ok [.loc d1,.loc d2] s21:=by rw[gO (τ1:=[some (.tup [.int 1,.loc kF])]) trivial rfl q20,gO (τ1:=[some (.tup [.int 1,.loc kP])]) trivial rfl q21,jb trivial];rfl
 refine⟨Tr,?_⟩;have d17:∀y6 y8 y9,cH 1 [] (f9 (x! qc iy (iz yM))) (aA 0) bj lgP [qL 0, qI p, x2, qL a, x4, qL h, y6, some (.tup [.tup [.int 1,.loc kF],.tup [.int 1,.loc kP],w]), y8, y9, qn] SJ=.ok (.loc s21.length) Tr:=λy6 y8 y9=>by
  have Pd:x! qc iy (iz yM) [qL 0, qI p, x2, qL a, x4, qL h, y6, some (.tup [.tup [.int 1,.loc kF],.tup [.int 1,.loc kP],w]), y8, y9, qn] SJ=.ok (.tup [.tup [.int 1,.loc kF],.tup [.int 1,.loc kP]]) SJ:=by simp![sl]
  rw[dN,eI,Pd,ar,pA,ar,fB,Vv (by rw[Vp];show 2<=_;decide),show iV 1 [] [qL 0, qI p, x2, qL a, x4, qL h, y6, some (.tup [.tup [.int 1,.loc kF],.tup [.int 1,.loc kP],w]), y8, y9, qn]=[none]from rfl,hc,ar,ie,e22]
 unfold PM.kM PM.uw PM.uv PM.uu PM.ur PM.uq PM.uo;show az _ (az _ (az _ (az _ (az _ (az (aK 10 (cH 1 [] (f9 (x! qc iy (iz yM))) (aA 0) bj lgP)) _))))) _ s=_;generalize cH 1 [] (f9 (x! qc iy (iz yM))) (aA 0) bj lgP=D at d17⊢;simp![c5,gb (iK hp),<-hx,mI lh,i12,c13,q14,q15,n15,q16,q17,n17,mI N?,p18,q19,n19,n20,d17,a! qf,a! vm,i0,i1,m1,m2]
end
end yg
variable {k:Nat}
namespace MN
open PySem.Spec L2
open PyProof.Rows hiding St kindOf
theorem eY{P:_l}{sc:Scope}(a:sc.kind=.function:=by rfl)(b:sc.isCoroutine=false:=by rfl)(c:sc.isGenerator=false:=by rfl)(d:N.Nodup:=by decide +kernel)(e:N.take P.length=P:=by rfl)(f:∀x∈P,sc.names.lookup x=some .local\/sc.names.lookup x=some .cell:=by decide +kernel)(g:∀y∈sc.names,y.2≠.free:=by decide +kernel):je N P sc:=⟨a,b,c,d,e,f,g⟩
theorem iZ{cl:List (Str×_o)}(uH:closureFor scope X.env=pure cl:=by rfl)(A:i? X scope cl bM:=by right)(has:((relabel scope X.env).names.all λp => !(p.2 == .cell || p.2 == .free) || (cl.map (·.1)).contains p.1)=true:=by rfl)(ik:(scope.names.all λp => !(p.2 == .cell))=true:=by rfl)(kind:scope.kind=.function:=by rfl)(names:(scope.names.all λp => !(p.2 == .local) || scope.names.lookup p.1==some .local)=true:=by rfl)(len:N.length=k+bM.length:=by rfl)(hN:N.drop k=cl.map (·.1):=by rfl):vY X N scope cl k bM:=U7 uH A has ik kind names len hN
theorem FU{cl cl':List (Str×_o)}{caps':List Nat}(uH:closureFor scope X.env=pure cl':=by rfl)(A:i? X scope cl bM:=by right)(B:i? X scope cl' caps':=by right)(has:((relabel scope X.env).names.all λp => !(p.2 == .cell || p.2 == .free) || (cl'.map (·.1)).contains p.1)=true:=by rfl)(ik:(scope.names.all λp => !(p.2 == .cell))=true:=by rfl)(kind:scope.kind=.function:=by rfl)(names:(scope.names.all λp => !(p.2 == .local) || scope.names.lookup p.1==some .local)=true:=by rfl)(len:N.length=k+bM.length:=by rfl)(hN:N.drop k=cl.map (·.1):=by rfl):vY X N scope cl' k bM:=U_ uH A B has ik kind names len hN
section
variable{w:World}
def MgK(K:_g)(mg:_d):Prop:=∀x f,W.nsIn K mainGlobals x=some (some (.ref f))->mg x=some (.ref f)
theorem oU{x:Str}:∀{l:_l},NF mg l->x∈l->mg x=none
 |y::l,h,hx=>by
  rcases VX.mp hx with e|e
  .rw[e];exact h.1
  .exact oU h.2 e
theorem aaQ{x:Str}:∀{l:_l},NG K mg l->x∈l->Q9 K mg x
 |y::l,h,hx=>by
  rcases VX.mp hx with e|e
  .rw[e];exact h.1
  .exact aaQ h.2 e
theorem FnAt.km{st:Stmt}(N ps:_l)(F:eZ K x st)(hm:MgK K mg)
  (h:∀ (f:_o) (iS:_m) (A:_p) (outer:List PySem.Env) (s:_n) (H:Hp) (E:XK),N.Nodup->gK k (A.deeper (envOfC x (bg st) s.heap.objs.size f iS)) ->
   pY (jS (qP P w) P w K mg base N x (bg st) f iS A outer s H E) (ff st) (tS (jS (qP P w) P w K mg base N x (bg st) f iS A outer s H E) E body))
  (hb:∀ (kV doc pm:_m) (an:Option _o) (iS ct:_m) (us:_i),us.length=ps.length->bindArgs (W.fnOf x x (iG st) (ff st) (bg st) .none kV doc pm an iS ct) ⟨us,[]⟩=pure (ps.zip us):=by
   intro _ _ _ _ _ _;first|exact sM λ_=>rfl|exact Ra λ_ _=>rfl|exact U! λ_ _ _=>rfl|exact len0 rfl)(S:je N ps (bg st):=by exact eY):FnAt P w K mg base x (k+1) (iH ps.length N.length body):=by
 obtain⟨f,fd,F,a⟩:=F;exact FnAt.mk F (hm _ _ a) S hb λiS A outer s H E=>h f iS A outer s H E S.nd
end
end MN
namespace yg
open PySem.Spec L2 MN PG LC
open PyProof.Rows hiding St kindOf
section
variable{q:Int}{s:af}{A:_h}{a b h:Nat}{M:gZ}
theorem AW{es:List En}(h1:s[k]?=some (.lst (es.map jQ)))(h2:s[m]?=some (ay R))(nR:R≠[]):k≠m:=by
 rintro rfl;rw[h1]at h2;cases R with
 |nil=>exact nR rfl
 |cons x R=>
  cases es with
  |nil=>cases h2
  |cons e es=>cases h2
theorem SK(hp:dD p=true)(hA:d8 p A)(a2:2<=A.length)(a7:A.length<=7){w:aj}{s1:af}(V:SF p A lo s1 cF eF cP eP w)(F:Fr s1 s)(K:Kept p A s kF fF kP fP)(gk:s1.length<=kF/\s1.length<=kP)(gF:∀e∈fF,s1.length<=e.2.1)(gP:∀e∈fP,s1.length<=e.2.1)(pF:gj fF=gj eF)(pP:gj fP=gj eP)(la:s[a]?=some (ay A))(lh:s[h]?=some (ay A))(nah:a≠h)(al:a<lo)(hl:h<lo)(n0:h≠0)(hi:aq s 0=some (ns.map aj.int))(hT:∃j,j<lo/\s[j]?=some (.tab M.own M.line M.col M.S.qual))(vJ:M.S.ps.length=1):
  ∃s',PM.nW M [qL 0, qI p, x2, qL a, x4, qL h, some (.tup [.tup [.int 1,.loc cF],.tup [.int 1,.loc cP],w]), some (.tup [.tup [.int 1,.loc kF],.tup [.int 1,.loc kP],w]), x8, qn, qn] s=.rt (.bl true) s':=by
 have hr:=au hp;have tF:=V.f.mono F;have tP:=V.q.mono F;have lnF:=tF.ln;have lnP:=tP.ln;have a1:=j4 tF.l tP.l (by rw[Vg,Vg,Vp];lia);rw[<-VS]at a1;obtain⟨s7,e7,F7,l7,_⟩:=ba (s:=s) ((eF++eP).map jQ);rw[<-e7]at a1;have cl:∀e∈eF++eP,e.2.1<s1.length/\lo<=e.2.1:=λe m=>by
  rcases VF.mp m with m|m
  .exact⟨aU (V.f.r e m),V.f.fr e m⟩
  .exact⟨aU (V.q.r e m),V.q.fr e m⟩
 have fl:=F.len;obtain⟨y8,s8,ef,r8,B8⟩:=SG (s:=s7) (gs:=eF++eP) (g:=s.length) (λe m=>by
   rcases VF.mp m with m|m
   .exact⟨F7 _ _ (tF.r e m),(tF.bd e m).2⟩
   .exact⟨F7 _ _ (tP.r e m),(tP.bd e m).2⟩) (by
   rw[VS];refine Zg.mpr ⟨V.f.nd,V.q.nd,λx mx y my=>?_⟩;obtain⟨e,me,rfl⟩:=VN.mp mx;obtain⟨e',OY,rfl⟩:=VN.mp my;exact V.nd e me e' OY) l7 (λm=>by
   obtain⟨e,me,z⟩:=VN.mp m;have:=(cl e me).1;have z:e.2.1=s.length:=z;lia) (x0:=some (.loc 0)) (x1:=some (.int p)) (x2:=x2) (x3:=some (.loc a)) (x4:=x4) (x5:=some (.loc h)) (x6:=some (.tup [.tup [.int 1,.loc cF],.tup [.int 1,.loc cP],w])) (x7:=some (.tup [.tup [.int 1,.loc kF],.tup [.int 1,.loc kP],w])) (x8:=x8) (x9:=none) (x10:=none)
 have ncF:∀e∈eF++eP,cF≠e.2.1:=λe m=>by
  rcases VF.mp m with m|m
  .exact AW tF.l (tF.r e m) (tF.mn e m).1.ne
  .exact AW tF.l (tP.r e m) (tP.mn e m).1.ne
 have ncP:∀e∈eF++eP,cP≠e.2.1:=λe m=>by
  rcases VF.mp m with m|m
  .exact AW tP.l (tF.r e m) (tF.mn e m).1.ne
  .exact AW tP.l (tP.r e m) (tP.mn e m).1.ne
 have nT:∀k,(∀e∈eF++eP,k≠e.2.1)->k ∉ (eF++eP).map (·.2.1):=λk hk m=>by obtain⟨e,me,z⟩:=VN.mp m;exact hk e me z.symm
 have l8F:=B8 _ _ (nT cF ncF) (F7 _ _ tF.l);have l8P:=B8 _ _ (nT cP ncP) (F7 _ _ tP.l);have p9:=gM (v:=.int 1) l8F (by rw[Vg,Vp];lia);obtain⟨s9,hs9⟩:=NE (s8.set cF (.lst (eF.map jQ++[.int 1])))
 rw[<-hs9]at p9;have l9P:s9[cP]?=some (.lst (eP.map jQ)):=by rw[hs9];exact e? l8P V.nc
 have p10:=gM (v:=.int 1) l9P (by rw[Vg,Vp];lia);obtain⟨D4,Lf⟩:=NE (s9.set cP (.lst (eP.map jQ++[.int 1])))
 rw[<-Lf]at p10;have go:∀k c,(∀e∈eF++eP,k≠e.2.1)->k≠cF->k≠cP->s[k]?=some c->D4[k]?=some c:=λk c n1 n2 n3 hk=>by rw[Lf,hs9];exact e? (e? (B8 _ _ (nT k n1) (F7 _ _ hk)) (WU n2)) (WU n3)
 have cFl:=aU V.f.l;have cPl:=aU V.q.l;have fkF:=V.f.fk;have fkP:=V.q.fk;have SM:∀k c,k<lo->s[k]?=some c->D4[k]?=some c:=λk c hk hc=>go k c (λe m=>by have:=(cl e m).2;lia) ⋯ ⋯ hc;have hig:∀k c,s1.length<=k->s[k]?=some c->D4[k]?=some c:=λk c hk hc=>go k c (λe m=>by have:=(cl e m).1;lia) ⋯ ⋯ hc;have aaR:gr D4 M.own M.line M.col M.S.qual:=by obtain⟨j,hj,ht⟩:=hT;exact⟨j,SM j _ hj ht⟩
 have O8:∀e∈eF++eP,D4[e.2.1]?=some (ay (e.2.2++[1])):=λe m=>by rw[Lf,hs9];exact e? (e? (r8 e m) (ncF e m)) (ncP e m)
 have S10:Lc p A lo D4 kF fF kP fP w cF eF cP eP:=⟨⟨⟨hig _ _ gk.1 K.f.l,λe m=>hig _ _ (gF e m) (K.f.r e m)⟩,K.fm,⟨hig _ _ gk.2 K.q.l,λe m=>hig _ _ (gP e m) (K.q.r e m)⟩,K.pm⟩,by
   rcases V.l with z|⟨I,k,e,l,c⟩
   .exact .inl z
   .obtain⟨u1,u2,u3,u4⟩:=V.lk k e;refine .inr ⟨I,k,e,l,go k _ (λe m=>?_) ⋯ ⋯ (F _ _ c)⟩;rcases VF.mp m with m|m
    .have:=u3 e m;lia
    .have:=u4 e m;lia,
  by rw[Lf];refine e? ?_ (WU V.nc);rw[hs9];exact gz l8F,λe m=>O8 e (We _ m),by rw[Lf];exact gz l9P,λe m=>O8 e (VQ _ m),⟨⋯,⋯,fkF,fkP⟩,λe m=>by have:=gF e m;lia,λe m=>by have:=gP e m;lia,V.f.fr,V.q.fr,pF,pP,?_,?_⟩
 .have ab':=SM a _ al la;have aaS:=SM h _ hl lh;have aca:aq D4 0=some (ns.map aj.int):=SH hi λc hc=>by
   refine go 0 c (λe m z=>?_) (λz=>?_) (λz=>?_) hc
   .have:=(cl e m).2;lia
   .lia
   .lia
  obtain⟨dF,gF',dP,gP',v,s11,q11,F11,A11⟩:=AV hp aaS hA a2 ⋯ aaR vJ;have S11:=S10.but hl (mT.of F11);have n11:=alike hp hA ⋯ A11 S11.k S11.l;have acb:gr s11 M.own M.line M.col M.S.qual:=by obtain⟨j,hj⟩:=aaR;exact⟨j,F11 _ _ hj⟩
  obtain⟨s',e'⟩:=Le (M:=M) (x2:=x2) (x4:=x4) (x8:=y8) hp hA a2 a7 S11 (F11 _ _ ab') (F11 _ _ aaS) nah hl n0 (F11.it aca) acb vJ rfl;refine⟨s',?_⟩;unfold PM.nW PM.xh PM.uA PM.uz;show az (ic _ (aA 8) apB) _ _ s=_;generalize apB=Bd at ef⊢;generalize PM.kM M=T at e'⊢;simp![iY,gv,a! qf,a! vm,a1,dG (ax l7),ef,mI l8F,p9,mI l9P,p10,q11,n11,e']
 .refine⟨by have:=WE List.length pF;unfold gj at this;rw[Vg,Vg]at this;lia,λe m=>?_⟩;have:(e.1,e.2.2)∈gj eF:=by rw[<-pF];exact VV (f:=λe:En=>(e.1,e.2.2)) m
  obtain⟨e',OY,z⟩:=VN.mp this;have:=(tF.bd e' OY).2;rw[show e'.2.2=e.2.2 from(Prod.mk.inj z).2]at this;exact this
 .refine⟨by have:=WE List.length pP;unfold gj at this;rw[Vg,Vg]at this;lia,λe m=>?_⟩;have:(e.1,e.2.2)∈gj eP:=by rw[<-pP];exact VV (f:=λe:En=>(e.1,e.2.2)) m
  obtain⟨e',OY,z⟩:=VN.mp this;have:=(tP.bd e' OY).2;rw[show e'.2.2=e.2.2 from(Prod.mk.inj z).2]at this;exact this
theorem Lg(hp:dD p=true)(hq:dD q=true)(hA:d8 p A)(a2:2<=A.length)(a7:A.length<=7)(hB:d8 q B)(b2:2<=B.length)(b7:B.length<=7)(la:s[a]?=some (ay A))(lb:s[b]?=some (ay B))(lh:s[h]?=some (ay A))(nah:a≠h)(n0:h≠0)(hi:aq s 0=some (ns.map aj.int))(hT:gr s M.own M.line M.col M.S.qual)(vJ:M.S.ps.length=1):
  ∃s',PM.nX M [qL 0, qI p, qI q, qL a, qL b, qL h, qn, qn, qn, qn, qn] s=.rt (.bl true) s':=by
 obtain⟨cF,eF,cP,eP,w,s1,q1,F1,V⟩:=AV hp lh hA a2 ⋯ hT vJ;obtain⟨kF,fF,s2,q2,F2,E2,p2,g2,h2⟩:=zE (es:=eF) ⟨V.f.l,V.f.r⟩ V.f.ln;obtain⟨kP,fP,s3,q3,F3,E3,p3,g3,h3⟩:=zE (s:=s2) (es:=eP) ⟨F2 _ _ V.q.l,λe m=>F2 _ _ (V.q.r e m)⟩ V.q.ln;have F23:=F2.trans F3;have f2:=F2.len;obtain⟨fs,m1,m2⟩:=V.fm;have up:(gj fP).Pairwise λa b=>a.1<b.1:=by rw[p3];exact Lb V.pm.2
 have K3:Kept p A s3 kF fF kP fP:=⟨E2.mono F3,⟨fs,m1,by rw[p2,m2]⟩,E3,by rw[p3];exact V.pm.1,up⟩
 have ui:=F1.trans F23;have aaT:∀{s':af},Fr s s'->gr s' M.own M.line M.col M.S.qual:=λF=>by obtain⟨j,hj⟩:=hT;exact⟨j,F _ _ hj⟩
 obtain⟨c4,e4,s4,q4,F4,t4,_⟩:=nO (A:=B) hq (ui _ _ lb) hB ⋯ (aaT ui) vJ;obtain⟨k5,s5,q5,F5,l5⟩:=D_ hq hB ⋯ t4;have Tp:=F4.trans F5;have Lz:=ui.trans Tp;have n5:=q? (ax l5) (ax (Lz _ _ lb)) (iA 14 B);obtain⟨dF,gF,dP,gP,v,s6,q6,F6,V6⟩:=AV hp (Lz _ _ lh) hA a2 ⋯ (aaT Lz) vJ;have Sw:=Tp.trans F6;have K6:Kept p A s6 kF fF kP fP:=⟨K3.f.mono Sw,K3.fm,K3.q.mono Sw,K3.pm⟩
 have F16:=F23.trans Sw;have Sv:=F1.trans F16;have n6:=alike hp hA ⋯ V6 K6 (V.l.mono F16);obtain⟨j,hj⟩:=hT;obtain⟨s',e'⟩:=SK (M:=M) (x2:=some (.int q)) (x4:=some (.loc b)) (x8:=none) hp hA a2 a7 V F16 K6 ⟨g2,⋯⟩ h2 (λe m=>by have:=h3 e m;lia) p2 p3 (Sv _ _ la) (Sv _ _ lh) nah (aU la) (aU lh) n0 (Sv.it hi) ⟨j,aU hj,Sv _ _ hj⟩ vJ;refine⟨s',?_⟩;have wl:∀(y:aj)r,ag bJ jU yM (some (.loc 0)::some (.int p)::some (.int q)::some (.loc a)::some (.loc b)::some (.loc h)::some (.tup [.tup [.int 1,.loc cF],.tup [.int 1,.loc cP],w])::r) s3=.ok w s3:=λy r=>by rw[iu (x:=.tup [.tup [.int 1,.loc cF],.tup [.int 1,.loc cP],w]) (s1:=s3) rfl (y:=.int 2) (s2:=s3) rfl];exact a! rfl
 unfold PM.nX PM.xj PM.xi;generalize PM.nW M=T at e'⊢;have wl':=wl .dj [none,none,none,none];generalize ag bJ jU yM=W2 at wl'⊢;simp![Vp,q1,a! qf,a! vm,q2,q3,wl',q4,q5,n5,q6,n6,e']
theorem zG(hp:dD p=true)(c:Int){z:Int}(z1:1<=z)(z2:z<=5)(s:af):∃k A s',PM.gn [.int p,.int c,.int z] s=.ok (.loc k) s'/\Fr s s'/\s'[k]?=some (ay A)/\d8 p A/\(A.length:Int)=z+1:=by
 have hr:=au hp;obtain⟨g3,a,D,e3,_,l3,lD,rD,cD⟩:=yc hp c (z:=z) ⋯ ⋯ s;obtain⟨s3,JI⟩:=NE (s++g3)
 have F3:Fr s s3:=by rw[JI];exact Fr.app _ _
 rw[<-JI]at e3 l3;obtain⟨s4,e4,F4,l4,_⟩:=ba (s:=s3) [.int 0];obtain⟨ND,hND⟩:=NE ((D.length:Int):Int)
 have kd:bD [.loc a] s4=.ok (.int ND) s4:=by rw[a_ (ax (F4 _ _ l3)),aE,hND]
 have m5:=qe (k:=z-ND) l4 ⋯ ⋯ (by rw[Vp,VO];lia);rw[y_]at m5;obtain⟨s5,e5,F5,l5,_⟩:=ba (s:=s4) ((List.replicate (z-ND).toNat (0:Int)).map aj.int);rw[<-e5]at m5;have a6:=j4 (F5 _ _ (F4 _ _ l3)) l5 (by rw[aE,aE,V0,Vp];lia);rw[<-VS]at a6;obtain⟨Z,hZ⟩:=NE (D++List.replicate (z-ND).toNat (0:Int))
 have lZ:Z.length=z.toNat:=by rw[hZ,Vj,V0];lia
 rw[<-hZ]at a6;obtain⟨s6,e6,F6,l6,_⟩:=ba (s:=s5) (Z.map aj.int);rw[<-e6]at a6;obtain⟨s7,e7,F7,l7,_⟩:=ba (s:=s6) [.int 1];have a8:=j4 (F7 _ _ l6) l7 (by rw[aE,VO,Vp];lia);rw[show Z.map aj.int++[aj.int 1]=(Z++[1]).map aj.int from by rw[VS];rfl]at a8;obtain⟨s8,e8,F8,l8,_⟩:=ba (s:=s7) ((Z++[1]).map aj.int);rw[<-e8]at a8;refine⟨s7.length,Z++[1],s8,?_,F3.trans (F4.trans (F5.trans (F6.trans (F7.trans F8)))),l8,⟨⟨iB rfl _,λx mx=>?_⟩,by simp,pI _ 1⟩,by rw[Vj,lZ,VO];lia⟩
 .have d4:bB (aa cW ai) [qI p, qI c, qI z, qL a] s3=.ok (.loc s3.length) s4:=by rw[fg (vs:=[.int 0]) (s1:=s3) rfl ⋯,e4]
  have d7:bB (aa cm ai) [qI p, qI c, qI z, qL a] s6=.ok (.loc s6.length) s7:=by rw[fg (vs:=[.int 1]) (s1:=s6) rfl ⋯,e7]
  unfold PM.gn;generalize bB (aa cW ai)=M4 at d4⊢;generalize bB (aa cm ai)=M7 at d7⊢;simp![e3,d4,kd,m5,a6,d7,a8]
 .rcases VF.mp mx with mx|mx
  .rw[hZ]at mx;rcases VF.mp mx with mx|mx
   .exact rD x mx
   .rw[(List.mem_replicate.mp mx).2];lia
  .rw[Vz.mp mx];lia
end
def AX:_h:=[2,3,5,7]
theorem FV:∀i:Fin 4,dD (AX.getD i.val 0)=true:=by decide +kernel
theorem Lh(M:gZ)(vJ:M.S.ps.length=1):∀(c:aZ)(ns:_h),ns.length<=63->aq [c,.tab M.own M.line M.col M.S.qual] 0=some (ns.map aj.int)->∃aI,PM.r! M [.loc 0] [c,.tab M.own M.line M.col M.S.qual]=.ok (.bl true) aI:=by
 intro c ns hl hi;obtain⟨st,yx⟩:=ZB ([c,aZ.tab M.own M.line M.col M.S.qual])
 have hT:gr st M.own M.line M.col M.S.qual:=⟨1,by rw[<-yx];rfl⟩
 have hn0:0<st.length:=by rw[<-yx];exact Nat.zero_lt_succ _
 rw[yx]at hi⊢;obtain⟨s1,e1,F1,l1,_⟩:=ba (s:=st) (AX.map aj.int);obtain⟨o0,c0⟩:=j5 (k:=0) (F1.it hi) ⋯ ⋯;have w0:=p8 (m:=4) ⋯ o0;have g1:=dB (ax l1) (at_getD (ns:=AX) (i:=o0.fmod 4) w0.1 (by exact w0.2));have hp:=FV ⟨(o0.fmod 4).toNat,⋯⟩;generalize AX.getD (o0.fmod 4).toNat 0=p at g1 hp;obtain⟨s2,e2,F2,l2,_⟩:=ba (s:=s1) (AX.map aj.int);have uk:=F1.trans F2;obtain⟨o1,c1⟩:=j5 (k:=0) (uk.it hi) ⋯ ⋯;have dv:qT (.int o1) (.int 4) s2=.ok (.int (o1.fdiv 4)) s2:=div_ii (aal ⋯ ⋯);have w1:=p8 (m:=4) ⋯ (o1.fdiv 4);have g2:=dB (ax l2) (at_getD (ns:=AX) (i:=(o1.fdiv 4).fmod 4) w1.1 (by exact w1.2));have hq:=FV ⟨((o1.fdiv 4).fmod 4).toNat,⋯⟩;generalize AX.getD ((o1.fdiv 4).fmod 4).toNat 0=q at g2 hq;obtain⟨o2,c2⟩:=j5 (k:=1) (uk.it hi) ⋯ ⋯;obtain⟨o3,c3⟩:=j5 (k:=2) (uk.it hi) ⋯ ⋯;have w3:=p8 (m:=5) ⋯ o3;obtain⟨a,A,s3,e3,F3,la,hA,lA⟩:=zG hp o2 (z:=1+o3.fmod 5) ⋯ ⋯ s2;have ui:=uk.trans F3;obtain⟨o4,c4⟩:=j5 (k:=3) (ui.it hi) ⋯ ⋯;obtain⟨o5,c5⟩:=j5 (k:=4) (ui.it hi) ⋯ ⋯;have w5:=p8 (m:=5) ⋯ o5;obtain⟨b,B,s4,e4,F4,lb,hB,lB⟩:=zG hq o4 (z:=1+o5.fmod 5) ⋯ ⋯ s3;have K4:=ui.trans F4;have c6:=pB (ax (F4 _ _ la));obtain⟨s5,e5,F5,l5,_⟩:=ba (s:=s4) (A.map aj.int);rw[<-e5]at c6;have Lz:=K4.trans F5;have hT5:gr s5 M.own M.line M.col M.S.qual:=by obtain⟨j,hj⟩:=hT;exact⟨j,Lz _ _ hj⟩
 have f4:=K4.len;have al:=aU (F4 _ _ la);obtain⟨s',e'⟩:=Lg (M:=M) hp hq hA ⋯ ⋯ hB ⋯ ⋯ (F5 _ _ (F4 _ _ la)) (F5 _ _ lb) (show s5[s4.length]?=some (ay A)from l5) ⋯ ⋯ (Lz.it hi) hT5 vJ;refine⟨s',?_⟩;have d1:bB (aa yM (aa QL (aa Oz (aa UY ai)))) [qL 0, qn, qn, qn, qn, qn, qn, qn, qn, qn, qn] st=.ok (.loc st.length) s1:=by rw[fg (vs:=AX.map aj.int) (s1:=st) rfl ⋯,e1]
 have d2:bB (aa yM (aa QL (aa Oz (aa UY ai)))) [qL 0, qI p, qn, qn, qn, qn, qn, qn, qn, qn, qn] s1=.ok (.loc s1.length) s2:=by rw[fg (vs:=AX.map aj.int) (s1:=s1) rfl ⋯,e2]
 unfold PM.r! PM.xn PM.xm PM.xl PM.xk;generalize bB (aa yM (aa QL (aa Oz (aa UY ai))))=M1 at d1 d2⊢;generalize PM.nX M=T at e'⊢;simp![d1,c0,gb (j:=4) ⋯,g1,d2,c1,dv,g2,c2,c3,gb (j:=5) ⋯,e3,c4,c5,e4,c6,e']
open PySem.Spec L2 MN
open PyProof.Rows hiding St
def top(i:Nat):Stmt:=PySem.Challenge.pw_polyring_k24_asked_again.main.body.getD i (.Pass ⟨0,0,0,0⟩)
structure Txt(P:_q)(w:World)(K:_g)(mg:_d)(base:Heap):Prop where
 gl:MgK K mg
 b:NF mg ["abs","all","bool","enumerate","int","isinstance","len","list","max","range","sorted","tuple","zip"]
 c:NG K mg ["NoRing","NoPrime","NoInverse","NoParts","NotPlain"]
 Cs:Glob K mg "MOST_RING" (.int 997)
 xq:Glob K mg "FIRST_PRIMES" PM.iJ
theorem Oa{m:ME}{i:Nat}{pos:Pos}(hN:X.N.Nodup)(he:PE X e (tE X E m))(hi:X.N[i]?=some x:=by rfl)(hx:Loc X.env.scope x:=by left)(hs:swapsWith e (some (.Name x pos')) pos.line X.env=pure false:=by rfl)(hf:X.fn x=true\/X.env.scope.names.lookup x=some .local:=by left):PS X (.Assign [.Name x pos'] e pos) (tS X E (aK i m)):=QQ i hN he hi hx hs hf
section
variable{P:_q}{w:World}{K:_g}{mg:_d}{base:Heap}(T:Txt P w K mg base)
abbrev No(_:Txt P w K mg base):=FnAt P w K mg base
def acd:Option Expr:=Kv (ff (top 46))
def M:gZ:=⟨Vd acd "factors.<locals>.<lambda>" ["entry"] "","factors",191,39⟩
theorem ace:M.S.OZ:=h!.ab5 rfl rfl rfl rfl rfl (by decide +kernel) (λ_ _ _ _=>sM λ_=>rfl)
theorem xr:je ["prime","row","pair","found","part","many"] ["prime","row"] (bg (top 46)):=eY
theorem D?:je ["_law_script","_law_prime","_law_other","_law_row","_law_beside","_law_handed","_law_told","_law_kept","_law_pair","_law_changed","_law_longer"] ["_law_script"] (bg (top 63)):=eY
seal L2.PE L2.PT L2.PA L2.PS L2.pY L2.PG L2.CJ L2.PI L2.EC
set_option hygiene false
local macro_rules|`(nofun)=>`(by first|rfl|assumption|exact oU T.b (by decide +kernel)|exact IH|exact U6|exact aaQ T.c (by decide +kernel)|lia)
local macro_rules|`(tactic|trivial)=>do
 let f:=yf (<-`(?_)) (<-`(nofun)) (<-`(_))
 let a<-("PA _ ( List.cons _ _ ) _,vg ? ?;PA _ List.nil _,Dc;PE _ ( Expr.Name .. ) _,C! _;PE _ ( Expr.Name .. ) _,EI ! T.Cs;PE _ ( Expr.Name .. ) _,EI ! T.xq;PE _ ( Expr.Constant .. ) _,C?;PE _ ( Expr.Constant .. ) _,UR;PE _ ( Expr.Constant .. ) _,QC;PE _ ( Expr.Constant .. ) _,QD;PE _ _ ( tG _ _ _ ( ao Df _ ) ),lY ( GK hr.hd ) ! ! PyProof.Rows.boot_all ?;PE _ _ ( tG _ _ _ ( ao BC _ ) ),lY GG ! ! PyProof.Rows.boot_abs ?;PE _ _ ( tG _ _ _ ( ao bD _ ) ),lY yP ! ! boot_len ?;PE _ _ ( tG _ _ _ ( ao qd _ ) ),yN GJ ! ! PyProof.Rows.boot_list ?;PE _ _ ( tG _ _ _ ( ao De _ ) ),yN GH ! ! PyProof.Rows.boot_tuple ?;PE _ _ ( tG _ _ _ ( ao GU _ ) ),lY ( GV hr.hd ) ! ! PyProof.Rows.Boot.max ?;PE _ _ ( tG _ _ _ ( ao rO _ ) ),lY ( B2 hr.hd ) ! ! PyProof.Rows.Boot.sorted ?;PE _ _ ( tG _ _ _ ( ao _ _ ) ),U8 ! hr ! ! ! ?;PE _ _ ( tG _ _ _ ( ag bJ _ _ ) ),Dl ? ?;PE _ _ ( tG _ _ _ ( ag uc _ _ ) ),MY hr.units ? ?;PE _ _ ( tG _ _ _ ( GD _ _ ) ),QG ? ?;PE _ _ ( tG _ _ _ ( mOr _ _ ) ),UT ? ?;PE _ _ ( tG _ _ _ ( Lo _ _ _ ) ),UW ? ? ?;PE _ _ ( tG _ _ _ ( gp _ ) ),IS ?;PE _ _ ( tG _ _ _ ( bB _ ) ),QN ?;PE _ _ ( tG _ _ _ ( x! _ _ _ ) ),U9 ? ? ?;PE _ _ ( tG _ _ _ ( vD _ _ ) ),Hi ? ?;PE _ _ ( tG _ _ _ ( Ai ) ),Jh;PE _ ( Expr.BinOp .. ) _,R9 ? ?;PE _ ( Expr.BinOp .. ) _,R8 ? ?;PE _ ( Expr.BinOp .. ) _,R5 ? ?;PE _ ( Expr.BinOp .. ) _,R6 ? ?;PE _ ( Expr.BinOp .. ) _,R7 ? ?;PE _ ( Expr.BinOp .. ) _,R_ ? ?;PE _ ( Expr.Compare .. ) _,aax hr.units ? ?;PE _ ( Expr.Compare .. ) _,aay hr.units ? ?;PE _ ( Expr.UnaryOp .. ) _,QT ?;PE _ ( Expr.UnaryOp .. ) _,QH ?;PE _ ( Expr.Call ( Expr.Attribute .. ) .. ) _,GW ? ?;PE _ ( Expr.Call ( Expr.Attribute .. ) .. ) _,N8 ? ?;PE _ ( Expr.Call ( Expr.Attribute .. ) .. ) _,N9 ? ?;PE _ ( Expr.Call ( Expr.Attribute .. ) .. ) _,GX ? ?;PE _ ( Expr.Call ( Expr.Attribute .. ) .. ) _,M' ?;PE _ _ ( tG _ _ _ ( mIs _ _ ) ),Ja Jb ! ! ! ! PyProof.Rows.boot_int ?;PE _ _ ( tG _ _ _ ( mIs _ _ ) ),Ja GL ! ! ! ! PyProof.Rows.boot_bool ?;pY _ ( List.cons _ List.nil ) _,IT ?;pY _ ( List.cons _ _ ) _,EK ? ?;pY _ List.nil _,QO;PS _ ( Stmt.Assign ( List.cons ( Expr.Name .. ) List.nil ) .. ) _,Oa ! ?;PS _ ( Stmt.Assign ( List.cons ( Expr.Subscript .. ) List.nil ) .. ) _,MZ hr.units ? ? ?;PS _ ( Stmt.Assign ( List.cons ( Expr.Subscript .. ) List.nil ) .. ) _,M8 ? ? ?;PS _ ( Stmt.Return .. ) _,QP ?;PS _ ( Stmt.If .. ) _,U0 ? ? ?;PS _ ( Stmt.Expr .. ) _,MD ?;PS _ ( Stmt.While .. ) _,Jf BE ? ?;PS _ ( Stmt.For .. ) _,Q7 BE rfl ? ? ?;PS _ ( Stmt.Raise .. ) _,GQ Dj rfl ! ! ?;PI _ _ _ ( tG _ _ _ ( f9 _ ) ),Q5 ?;PI _ _ ( Expr.Call .. ) _,GN ! ! ?;PI _ _ ( Expr.Call .. ) _,GO ! ! ?;PI _ _ ( Expr.Call .. ) _,M_ ! ! ?;PI _ _ ( Expr.Call .. ) _,Q6 _ _ ! ! ?;PI _ _ ( Expr.Call .. ) _,M! ! ! ?;PG _ ( Expr.Name .. ) _,MU _ !;PG _ ( Expr.Tuple .. ) _,Q0 rfl ?;CJ _ ( List.cons _ _ ) _,Jc ? ?;CJ _ List.nil _,MV;EC _ List.nil _,MW;EC _ ( List.cons _ List.nil ) _,MX ?;PT _ ( Expr.Compare .. ) _,aav hr.units ? ?;PT _ ( Expr.Compare .. ) _,aaw hr.units ? ?;PT _ ( Expr.Compare .. ) _,aat ? ?;PT _ ( Expr.Compare .. ) _,aau ? ?;PT _ ( Expr.Compare .. ) _,sH QX ? ?;PT _ ( Expr.Compare .. ) _,sH QY ? ?;PT _ ( Expr.UnaryOp .. ) _,QK ?;PT _ ( Expr.BoolOp .. ) _,abJ ?;PT _ _ ( tG _ _ _ ( gA _ ) ),QE ?;M3 ?;M0;UU ? ?;QI ?;QJ ? ?;Mz ?;QF ?;pY _ _ _,IT ?;pY _ _ _,EK ? ?".splitOn ";").toArray.mapM λr=>match r.splitOn "," with|[g,t]=>`(tacticSeq|(with_reducible show $(f g));refine $(f t))|_=>`(tacticSeq|refine $(f r))
 `(tactic|repeat' first $[|$a]*)
include T
theorem Ct(F:eZ K "is_whole" (top 10)):No T "is_whole" 1 PM.qX:=
 FnAt.km ["thing"] ["thing"] F T.gl (λ_ _ _ _ s _ _ nd hr=>by
 trivial)
variable(Ea:No T "is_whole" 1 PM.qX)
theorem qt(F:eZ K "is_prime_within" (top 11)):No T "is_prime_within" 1 PM.dq:=
 FnAt.km ["number"] ["number"] F T.gl (λ_ _ _ _ s _ _ nd hr=>by
 have:(["prime","number"]:_l).Nodup:=by decide +kernel
 trivial
 .refine fG (N:=["prime","number"]) (k:=1) rfl rfl (iZ (cl:=[("number",s.heap.objs.size+1)])) ?_ (λ_ _ _ _=>?_) (λ_ _ _ _=>?_) (λ_ _ _ _=>?_)<;>trivial)
variable(r?:No T "is_prime_within" 1 PM.dq)
theorem xt(F:eZ K "signed_unit" (top 15)):No T "signed_unit" 1 PM.gB:=
 FnAt.km ["number"] ["number"] F T.gl (λ_ _ _ _ s _ _ nd hr=>by
 trivial)
variable(yh:No T "signed_unit" 1 PM.gB)
theorem tm(F:eZ K "whole_inverse" (top 18)):No T "whole_inverse" 1 PM.kZ:=
 FnAt.km ["number"] ["number"] F T.gl (λ_ _ _ _ s _ _ nd hr=>by
 trivial)
variable(uP:No T "whole_inverse" 1 PM.kZ)
theorem uQ(F:eZ K "row_of_rests" (top 20)):No T "row_of_rests" 1 PM.c_:=
 FnAt.km ["prime","numbers","row"] ["prime","numbers"] F T.gl (λ_ _ _ _ s _ _ nd hr=>by
 have:(["number","prime"]:_l).Nodup:=by decide +kernel
 trivial
 .refine MN.i! 2 (N:=["number","prime"]) (k:=1) nd rfl rfl (iZ (cl:=[("prime",s.heap.objs.size+1)])) ?_ (λ_ _ _ _=>?_) (λ_ _ _ _=>?_) (λ_ _ _ _=>?_)<;>trivial)
variable(fR:No T "row_of_rests" 1 PM.c_)
theorem uR(F:eZ K "with_noughts" (top 22)):No T "with_noughts" 1 PM.fo:=
 FnAt.km ["row","length"] ["row","length"] F T.gl (λ_ _ _ _ s _ _ nd hr=>by
 trivial)
variable(oV:No T "with_noughts" 1 PM.fo)
theorem sd(F:eZ K "without_column" (top 35)):No T "without_column" 1 PM.fO:=
 FnAt.km ["prime","row","step","column","factor"] ["prime","row","step","column"] F T.gl (λ_ _ _ _ s _ _ nd hr=>by
 have:(["one","other","factor","prime"]:_l).Nodup:=by decide +kernel
 trivial
 .refine fG (N:=["one","other","factor","prime"]) (k:=2) rfl rfl (FU (cl:=[("factor",s.heap.objs.size+2),("prime",s.heap.objs.size+1)]) (cl':=[("prime",s.heap.objs.size+1),("factor",s.heap.objs.size+2)]) (caps':=[0,4])) ?_ (λ_ _ _ _=>?_) (λ_ _ _ _=>?_) (λ_ _ _ _=>?_)<;>trivial) (λ_ _ _ _ _ _=>Rb λ_ _ _ _=>rfl)
variable(tq:No T "without_column" 1 PM.fO)
theorem Cu(F:eZ K "unit_row" (top 37)):No T "unit_row" 1 PM.mM:=
 FnAt.km ["place","length"] ["place","length"] F T.gl (λ_ _ _ _ s _ _ nd hr=>by
 have:(["k","place"]:_l).Nodup:=by decide +kernel
 trivial
 .refine fG (N:=["k","place"]) (k:=1) rfl rfl (iZ (cl:=[("place",s.heap.objs.size+1)])) ?_ (λ_ _ _ _=>?_) (λ_ _ _ _=>?_) (λ_ _ _ _=>?_)<;>trivial)
variable(Eb:No T "unit_row" 1 PM.mM)
theorem uS(F:eZ K "_law_cell_at" (top 54)):No T "_law_cell_at" 1 PM.bE:=
 FnAt.km ["_law_script","_law_k","_law_cell","_law_one","_law_two"] ["_law_script","_law_k"] F T.gl (λ_ _ _ _ s _ _ nd hr=>by
 trivial)
variable(xu:No T "_law_cell_at" 1 PM.bE)
theorem Cv(F:eZ K "_law_cut" (top 55)):No T "_law_cut" 1 PM.pz:=
 FnAt.km ["_law_numbers","_law_many"] ["_law_numbers"] F T.gl (λ_ _ _ _ s _ _ nd hr=>by
 trivial)
variable(xw:No T "_law_cut" 1 PM.pz)
theorem uT(F:eZ K "_law_lengths" (top 59)):No T "_law_lengths" 1 PM.fW:=
 FnAt.km ["_law_proof"] ["_law_proof"] F T.gl (λ_ _ _ _ s _ _ nd hr=>by
 have:(["_law_rows"]:_l).Nodup:=by decide +kernel
 trivial
 .refine fG (N:=["_law_rows"]) (k:=1) rfl rfl (iZ (cl:=[])) ?_ (λ_ _ _ _=>?_) (λ_ _ _ _=>?_) (λ_ _ _ _=>?_)<;>trivial)
variable(xx:No T "_law_lengths" 1 PM.fW)
theorem xy(F:eZ K "_law_copied" (top 61)):No T "_law_copied" 1 PM.jd:=
 FnAt.km ["_law_pair"] ["_law_pair"] F T.gl (λ_ _ _ _ s _ _ nd hr=>by
 have:(["_law_one"]:_l).Nodup:=by decide +kernel
 trivial
 .refine fG (N:=["_law_one"]) (k:=1) rfl rfl (iZ (cl:=[])) ?_ (λ_ _ _ _=>?_) (λ_ _ _ _=>?_) (λ_ _ _ _=>?_)<;>trivial)
variable(yi:No T "_law_copied" 1 PM.jd)
include Ea r? in
theorem Ec(F:eZ K "is_ring" (top 12)):No T "is_ring" 2 PM.nh:=
 FnAt.km ["thing"] ["thing"] F T.gl (λ_ _ _ _ s _ _ nd hr=>by
 trivial)
variable(zH:No T "is_ring" 2 PM.nh)
include yh in
theorem Hy(F:eZ K "shared" (top 16)):No T "shared" 2 PM.shared:=
 FnAt.km ["one","other","upper","lower","often","following"] ["one","other"] F T.gl (λ_ _ _ _ s _ _ nd hr=>by
 have:(["high","low","often"]:_l).Nodup:=by decide +kernel
 trivial
 .refine fG (N:=["high","low","often"]) (k:=2) rfl rfl (iZ (cl:=[("often",s.heap.objs.size+1)])) ?_ (λ_ _ _ _=>?_) (λ_ _ _ _=>?_) (λ_ _ _ _=>?_)<;>trivial)
variable(Li:No T "shared" 2 PM.shared)
include fR oV in
theorem oW(F:eZ K "row_with_multiple" (top 21)):No T "row_with_multiple" 2 PM.bK:=
 FnAt.km ["prime","ones","others","factor","length","longer"] ["prime","ones","others","factor"] F T.gl (λ_ _ _ _ s _ _ nd hr=>by
 have:(["one","other","factor"]:_l).Nodup:=by decide +kernel
 trivial
 .refine fG (N:=["one","other","factor"]) (k:=2) rfl rfl (iZ (cl:=[("factor",s.heap.objs.size+1)])) ?_ (λ_ _ _ _=>?_) (λ_ _ _ _=>?_) (λ_ _ _ _=>?_)<;>trivial) (λ_ _ _ _ _ _=>Rb λ_ _ _ _=>rfl)
variable(g!:No T "row_with_multiple" 2 PM.bK)
include fR in
theorem xA(F:eZ K "row_product" (top 23)):No T "row_product" 2 PM.dW:=
 FnAt.km ["prime","ones","others","numbers","power","number","more","other"] ["prime","ones","others"] F T.gl (λ_ _ _ _ s _ _ nd hr=>by
 trivial
 .refine EV EU ?_ ?_ ?_<;>trivial)
variable(p!:No T "row_product" 2 PM.dW)
include fR in
theorem uU(F:eZ K "row_multiple" (top 24)):No T "row_multiple" 2 PM.d?:=
 FnAt.km ["prime","row","factor"] ["prime","row","factor"] F T.gl (λ_ _ _ _ s _ _ nd hr=>by
 have:(["number","factor"]:_l).Nodup:=by decide +kernel
 trivial
 .refine fG (N:=["number","factor"]) (k:=1) rfl rfl (iZ (cl:=[("factor",s.heap.objs.size+1)])) ?_ (λ_ _ _ _=>?_) (λ_ _ _ _=>?_) (λ_ _ _ _=>?_)<;>trivial)
variable(oX:No T "row_multiple" 2 PM.d?)
include fR in
theorem uV(F:eZ K "slope_of_row" (top 25)):No T "slope_of_row" 2 PM.f?:=
 FnAt.km ["prime","row"] ["prime","row"] F T.gl (λ_ _ _ _ s _ _ nd hr=>by
 have:(["power","row"]:_l).Nodup:=by decide +kernel
 trivial
 .refine fG (N:=["power","row"]) (k:=1) rfl rfl (iZ (cl:=[("row",s.heap.objs.size+1)])) ?_ (λ_ _ _ _=>?_) (λ_ _ _ _=>?_) (λ_ _ _ _=>?_)<;>trivial)
variable(oY:No T "slope_of_row" 2 PM.f?)
include tq in
theorem Ed(F:eZ K "cleared" (top 34)):No T "cleared" 2 PM.cleared:=
 FnAt.km ["prime","rows","step","column"] ["prime","rows","step","column"] F T.gl (λ_ _ _ _ s _ _ nd hr=>by
 have:(["row","column","prime","step"]:_l).Nodup:=by decide +kernel
 trivial
 .refine fG (N:=["row","column","prime","step"]) (k:=1) rfl rfl (FU (cl:=[("column",s.heap.objs.size+3),("prime",s.heap.objs.size+1),("step",s.heap.objs.size+2)]) (cl':=[("step",s.heap.objs.size+2),("prime",s.heap.objs.size+1),("column",s.heap.objs.size+3)]) (caps':=[2,0,3])) ?_ (λ_ _ _ _=>?_) (λ_ _ _ _=>?_) (λ_ _ _ _=>?_)<;>trivial) (λ_ _ _ _ _ _=>Rb λ_ _ _ _=>rfl)
variable(Hz:No T "cleared" 2 PM.cleared)
include Eb in
theorem yj(F:eZ K "with_units" (top 36)):No T "with_units" 2 PM.jc:=
 FnAt.km ["rows"] ["rows"] F T.gl (λ_ _ _ _ s _ _ nd hr=>by
 have:(["place","row","rows"]:_l).Nodup:=by decide +kernel
 trivial
 .refine fG (N:=["place","row","rows"]) (k:=2) rfl rfl (iZ (cl:=[("rows",s.heap.objs.size+1)])) ?_ (λ_ _ _ _=>?_) (λ_ _ _ _=>?_) (λ_ _ _ _=>?_)<;>trivial)
variable(se:No T "with_units" 2 PM.jc)
include xw in
theorem yk(F:eZ K "_law_drawn" (top 56)):No T "_law_drawn" 2 PM.l?:=
 FnAt.km ["_law_prime","_law_cell","_law_size","_law_numbers","_law_k","_law_mixed"] ["_law_prime","_law_cell","_law_size"] F T.gl (λ_ _ _ _ s _ _ nd hr=>by
 trivial)
variable(AY:No T "_law_drawn" 2 PM.l?)
include xw in
theorem ym(F:eZ K "_law_times" (top 57)):No T "_law_times" 2 PM.ja:=
 FnAt.km ["_law_prime","_law_ones","_law_others","_law_found","_law_at","_law_beside","_law_more"] ["_law_prime","_law_ones","_law_others"] F T.gl (λ_ _ _ _ s _ _ nd hr=>by
 trivial)
variable(AZ:No T "_law_times" 2 PM.ja)
include zH in
theorem yn(F:eZ K "check_ring" (top 13)):No T "check_ring" 3 PM.jW:=
 FnAt.km ["ring"] ["ring"] F T.gl (λ_ _ _ _ s _ _ nd hr=>by
 trivial)
variable(A0:No T "check_ring" 3 PM.jW)
include zH in
theorem xB(F:eZ K "check_prime" (top 14)):No T "check_prime" 3 PM.gC:=
 FnAt.km ["prime"] ["prime"] F T.gl (λ_ _ _ _ s _ _ nd hr=>by
 trivial)
variable(lJ:No T "check_prime" 3 PM.gC)
include oV g! in
theorem pW(F:eZ K "changes_by_prime" (top 51)):No T "changes_by_prime" 3 PM.cI:=
 FnAt.km ["prime","rests","first","changes","place","change"] ["prime","rests","first"] F T.gl (λ_ _ _ _ s _ _ nd hr=>by
 trivial)
variable(ki:No T "changes_by_prime" 3 PM.cI)
include AY in
theorem xC(F:eZ K "_law_row_by" (top 58)):No T "_law_row_by" 3 PM.gn:=
 FnAt.km ["_law_prime","_law_cell","_law_size","_law_row"] ["_law_prime","_law_cell","_law_size"] F T.gl (λ_ _ _ _ s _ _ nd hr=>by
 trivial)
variable(yo:No T "_law_row_by" 3 PM.gn)
include AZ in
theorem A1(F:eZ K "_law_made" (top 62)):No T "_law_made" 3 PM.kh:=
 FnAt.km ["_law_prime","_law_found","_law_built","_law_pair","_law_turn"] ["_law_prime","_law_found"] F T.gl (λ_ _ _ _ s _ _ nd hr=>by
 trivial)
variable(Cw:No T "_law_made" 3 PM.kh)
include uP Li A0 in
theorem Ee(F:eZ K "inverse" (top 17)):No T "inverse" 4 PM.inverse:=
 FnAt.km ["ring","number"] ["ring","number"] F T.gl (λ_ _ _ _ s _ _ nd hr=>by
 trivial)
variable(pM:No T "inverse" 4 PM.inverse)
include fR pM in
theorem HA(F:eZ K "parted" (top 27)):No T "parted" 5 PM.parted:=
 FnAt.km ["prime","row","by","rest","back","steps","numbers","shift","often","power","number"] ["prime","row","by"] F T.gl (λ_ _ _ _ s _ _ nd hr=>by
 trivial
 .refine EV M9 ?_ ?_ ?_<;>trivial)
variable(mW:No T "parted" 5 PM.parted)
include oX pM in
theorem sf(F:eZ K "plain_multiple" (top 28)):No T "plain_multiple" 5 PM.fN:=
 FnAt.km ["prime","row"] ["prime","row"] F T.gl (λ_ _ _ _ s _ _ nd hr=>by
 trivial)
variable(mX:No T "plain_multiple" 5 PM.fN)
include Hz pM in
theorem Ef(F:eZ K "stepped" (top 33)):No T "stepped" 5 PM.pH:=
 FnAt.km ["prime","rows","width","done","left","places","column","found","back","step"] ["prime","rows","width"] F T.gl (λ_ _ _ _ s _ _ nd hr=>by
 have:(["row","column"]:_l).Nodup:=by decide +kernel
 have:(["number","back","prime"]:_l).Nodup:=by decide +kernel
 trivial
 .refine MN.i! 7 (N:=["row","column"]) (k:=1) nd rfl rfl (iZ (cl:=[("column",s.heap.objs.size+2)])) ?_ (λ_ _ _ _=>?_) (λ_ _ _ _=>?_) (λ_ _ _ _=>?_)<;>trivial
 .refine MN.i! 9 (N:=["number","back","prime"]) (k:=1) nd rfl rfl (FU (cl:=[("back",s.heap.objs.size+3),("prime",s.heap.objs.size+1)]) (cl':=[("prime",s.heap.objs.size+1),("back",s.heap.objs.size+3)]) (caps':=[0,8])) ?_ (λ_ _ _ _=>?_) (λ_ _ _ _=>?_) (λ_ _ _ _=>?_)<;>trivial
 .refine fG (N:=["row","column"]) (k:=1) rfl rfl (iZ (cl:=[("column",s.heap.objs.size+2)])) ?_ (λ_ _ _ _=>?_) (λ_ _ _ _=>?_) (λ_ _ _ _=>?_)<;>trivial)
variable(zI:No T "stepped" 5 PM.pH)
include mW mX in
theorem uW(F:eZ K "greatest_row" (top 29)):No T "greatest_row" 6 PM.dO:=
 FnAt.km ["prime","ones","others","upper","lower","rest"] ["prime","ones","others"] F T.gl (λ_ _ _ _ s _ _ nd hr=>by
 trivial)
variable(oZ:No T "greatest_row" 6 PM.dO)
include g! p! mW in
theorem uX(F:eZ K "triple_below" (top 31)):No T "triple_below" 6 PM.gL:=
 FnAt.km ["prime","upper","lower","pair","taken"] ["prime","upper","lower"] F T.gl (λ_ _ _ _ s _ _ nd hr=>by
 have:(["place","lower","pair","prime"]:_l).Nodup:=by decide +kernel
 trivial
 .refine MN.i! 4 (N:=["place","lower","pair","prime"]) (k:=1) nd rfl rfl (FU (cl:=[("lower",s.heap.objs.size+2),("pair",s.heap.objs.size+3),("prime",s.heap.objs.size+1)]) (cl':=[("prime",s.heap.objs.size+1),("pair",s.heap.objs.size+3),("lower",s.heap.objs.size+2)]) (caps':=[0,3,2])) ?_ (λ_ _ _ _=>?_) (λ_ _ _ _=>?_) (λ_ _ _ _=>?_)<;>trivial)
variable(xD:No T "triple_below" 6 PM.gL)
include se zI in
theorem sg(F:eZ K "ways_to_nought" (top 38)):No T "ways_to_nought" 6 PM.gI:=
 FnAt.km ["prime","rows","width","answer"] ["prime","rows","width"] F T.gl (λ_ _ _ _ s _ _ nd hr=>by
 have:(["row","width"]:_l).Nodup:=by decide +kernel
 trivial
 .refine fG (N:=["row","width"]) (k:=1) rfl rfl (iZ (cl:=[("width",s.heap.objs.size+1)])) ?_ (λ_ _ _ _=>?_) (λ_ _ _ _=>?_) (λ_ _ _ _=>?_)<;>trivial)
variable(tu:No T "ways_to_nought" 6 PM.gI)
include se zI in
theorem sh(F:eZ K "table_to_units" (top 39)):No T "table_to_units" 6 PM.fQ:=
 FnAt.km ["prime","rows","width","answer","table","place","column"] ["prime","rows","width"] F T.gl (λ_ _ _ _ s _ _ nd hr=>by
 have:(["column","rows"]:_l).Nodup:=by decide +kernel
 trivial
 .refine MN.i! 4 (N:=["column","rows"]) (k:=1) nd rfl rfl (iZ (cl:=[("rows",s.heap.objs.size+1)])) ?_ (λ_ _ _ _=>?_) (λ_ _ _ _=>?_) (λ_ _ _ _=>?_)<;>trivial)
variable(tw:No T "table_to_units" 6 PM.fQ)
include p! mW in
theorem qu(F:eZ K "powers_of_prime" (top 50)):No T "powers_of_prime" 6 PM.fj:=
 FnAt.km ["prime","row","quotients","rests","k","upper","pair"] ["prime","row"] F T.gl (λ_ _ _ _ s _ _ nd hr=>by
 trivial)
variable(kN:No T "powers_of_prime" 6 PM.fj)
include oX pM mW xD in
theorem SN(F:eZ K "met" (top 30)):No T "met" 7 PM.met:=
 FnAt.km ["prime","ones","others","upper","lower","following","back","greatest","one_part","other_part"] ["prime","ones","others"] F T.gl (λ_ _ _ _ s _ _ nd hr=>by
 trivial)
variable(aaU:No T "met" 7 PM.met)
include oY mW oZ in
theorem tD(F:eZ K "parts_by_many" (top 44)):No T "parts_by_many" 7 PM.ij:=
 FnAt.km ["prime","row","found","step","left","unseen","seen","many","further","part"] ["prime","row"] F T.gl (λ_ _ _ _ s _ _ nd hr=>by
 trivial
 .refine Q? EU nd ?_<;>trivial)
variable(uY:No T "parts_by_many" 7 PM.ij)
include fR g! mW oZ in
theorem pX(F:eZ K "parts_at_numbers" (top 49)):No T "parts_at_numbers" 7 PM.eR:=
 FnAt.km ["prime","row","even","below","found","number","part"] ["prime","row","even"] F T.gl (λ_ _ _ _ s _ _ nd hr=>by
 trivial)
variable(qv:No T "parts_at_numbers" 7 PM.eR)
include oY aaU in
theorem uZ(F:eZ K "paper_of_row" (top 41)):No T "paper_of_row" 8 PM.gR:=
 FnAt.km ["prime","row","found"] ["prime","row"] F T.gl (λ_ _ _ _ s _ _ nd hr=>by
 trivial)
variable(xE:No T "paper_of_row" 8 PM.gR)
include mX uY in
theorem u5(F:eZ K "parts_of_row" (top 43)):No T "parts_of_row" 8 PM.gS:=
 FnAt.km ["prime","row","found"] ["prime","row"] F T.gl (λ_ _ _ _ s _ _ nd hr=>by
 have:(["many","found"]:_l).Nodup:=by decide +kernel
 trivial
 .refine fG (N:=["many","found"]) (k:=1) rfl rfl (iZ (cl:=[("found",s.heap.objs.size+1)])) ?_ (λ_ _ _ _=>?_) (λ_ _ _ _=>?_) (λ_ _ _ _=>?_)<;>trivial)
variable(o_:No T "parts_of_row" 8 PM.gS)
include qv in
theorem Cy(F:eZ K "split_by" (top 48)):No T "split_by" 8 PM.ke:=
 FnAt.km ["prime","rows","even","answer","row"] ["prime","rows","even"] F T.gl (λ_ _ _ _ s _ _ nd hr=>by
 trivial)
variable(Eg:No T "split_by" 8 PM.ke)
include lJ o_ in
theorem Lj(F:eZ K "parts" (top 42)):No T "parts" 9 PM.parts:=
 FnAt.km ["prime","row"] ["prime","row"] F T.gl (λ_ _ _ _ s _ _ nd hr=>by
 trivial)
variable(FW:No T "parts" 9 PM.parts)
include ki tu kN Eg in
theorem yp(F:eZ K "whole_rows" (top 47)):No T "whole_rows" 9 PM.gh:=
 FnAt.km ["prime","row","rests","found","ways"] ["prime","row"] F T.gl (λ_ _ _ _ s _ _ nd hr=>by
 trivial)
variable(A2:No T "whole_rows" 9 PM.gh)
include lJ ki tw kN xE in
theorem Eh(F:eZ K "unsplit" (top 52)):No T "unsplit" 9 PM.jk:=
 FnAt.km ["prime","row","paper","pair","table"] ["prime","row"] F T.gl (λ_ _ _ _ s _ _ nd hr=>by
 trivial)
variable(HB:No T "unsplit" 9 PM.jk)
theorem Ob:vI P w K mg base M.S 0 PM.dQ:=
 ⟨ace,λf c' A outer s H hr=>by
 refine IS ?_;refine vg ?_ ?_
 .refine lY ?_ (by rfl) T.b.2.2.2.2.2.2.1 boot_len ?_
  .exact yP
  refine vg ?_ Dc;exact(Dl (C! 0) C?)
 refine vg ?_ Dc;exact(Dl (C! 0) C?)⟩
include lJ o_ A2 in
theorem Ei{f:_o}{SQ tT:_o}(B:Rf K mg base "factors" SQ tT)(F:Im K "factors" "factors" (top 46) f fd)(hn:W.nsIn K mainGlobals "factors" = some (some (.ref f)))(S:vI P w K mg base M.S 0 PM.dQ):No T "factors" 10 (PM.kJ M):=
 FnAt.mkT B F hn (T.gl _ _ hn) xr (λ_ _ _ _ _ _=>Ra λ_ _=>rfl) λA outer s H E hr=>by
 have:=xr.nd;have:(["factor","many"]:_l).Nodup:=by decide +kernel
 trivial
 .refine fG (N:=["factor","many"]) (k:=1) rfl rfl (iZ (cl:=[("many",s.heap.objs.size+1)])) ?_ (λ_ _ _ _=>?_) (λ_ _ _ _=>?_) (λ_ _ _ _=>?_)<;>trivial
 .refine Ku (L:=M) S B (hr.mono ⋯) (by rfl) T.b.2.2.2.2.2.2.2.2.2.2.1 PyProof.Rows.Boot.«sorted» ?_<;>trivial
variable(zJ:No T "factors" 10 (PM.kJ M))
include xx FW HB zJ in
theorem Cz(F:eZ K "_law_all" (top 60)):No T "_law_all" 11 (PM.kK M):=
 FnAt.km ["_law_prime","_law_row"] ["_law_prime","_law_row"] F T.gl (λ_ _ _ _ s _ _ nd hr=>by
 trivial)
variable(Ej:No T "_law_all" 11 (PM.kK M))
include xu yi yo Cw FW zJ Ej in
theorem SS{f:_o}(F:Im K "law" "law" (top 63) f fd):vQ P w K mg base (qP P w) 12 f fd ["_law_script"] (QM ⟨K,mg,[]⟩ (PM.r! M)):=
 IV F D? λiS A outer s H E hr=>by
 have:=D?.nd;have:(["_law_pair"]:_l).Nodup:=by decide +kernel
 have:(["_law_one"]:_l).Nodup:=by decide +kernel
 trivial
 .refine MN.i! 10 (N:=["_law_pair"]) (k:=1) D?.nd rfl rfl (iZ (cl:=[])) ?_ (λ_ _ _ _=>?_) (λ_ _ _ _=>?_) (λ_ _ _ _=>?_)
  .trivial
  .trivial
  .trivial
  .trivial
   .refine fG (N:=["_law_one"]) (k:=1) rfl rfl (iZ (cl:=[])) ?_ (λ_ _ _ _=>?_) (λ_ _ _ _=>?_) (λ_ _ _ _=>?_)<;>trivial
end
theorem all_mk{l:W.OpenLaw}{w:World}(X:K.In h)(G:h.Ns mainGlobals mg)(hfa:mg "law" = some (.ref fa)){f45:_o}{acf acg:Option _o}{ach:Array (_j)}{aci acj ack acm acn:_m}{SQ:_o}{f47:_o}{aco aaV:Option _o}{acp:Array (_j)}{acq aaW aaX aaY SU aaZ:_m}{A3:Tok}{om:_o}{u6:Option _o}{u7:Nat}{u9:Array (_j)}{tH tJ tK tM tN tO tQ tR tU tV si:Tok}{q:_q}{d:DefRec}{tT:_o}{toc:_m}{tod:Option _o}{tsl:Array (_j)}{tvs:Array _m}(h0:eZ K "is_whole" (top 10))(h1:eZ K "is_prime_within" (top 11))(h2:eZ K "signed_unit" (top 15))(h3:eZ K "whole_inverse" (top 18))(h4:eZ K "row_of_rests" (top 20))(h5:eZ K "with_noughts" (top 22))(h6:eZ K "without_column" (top 35))(h7:eZ K "unit_row" (top 37))(h8:eZ K "_law_cell_at" (top 54))(h9:eZ K "_law_cut" (top 55))(h10:eZ K "_law_lengths" (top 59))(h11:eZ K "_law_copied" (top 61))(h12:eZ K "is_ring" (top 12))(h13:eZ K "shared" (top 16))(h14:eZ K "row_with_multiple" (top 21))(h15:eZ K "row_product" (top 23))(h16:eZ K "row_multiple" (top 24))(h17:eZ K "slope_of_row" (top 25))(h18:eZ K "cleared" (top 34))(h19:eZ K "with_units" (top 36))(h20:eZ K "_law_drawn" (top 56))(h21:eZ K "_law_times" (top 57))(h22:eZ K "check_ring" (top 13))(h23:eZ K "check_prime" (top 14))(h24:eZ K "changes_by_prime" (top 51))(h25:eZ K "_law_row_by" (top 58))(h26:eZ K "_law_made" (top 62))(h27:eZ K "inverse" (top 17))(h28:eZ K "parted" (top 27))(h29:eZ K "plain_multiple" (top 28))(h30:eZ K "stepped" (top 33))(h31:eZ K "greatest_row" (top 29))(h32:eZ K "triple_below" (top 31))(h33:eZ K "ways_to_nought" (top 38))(h34:eZ K "table_to_units" (top 39))(h35:eZ K "powers_of_prime" (top 50))(h36:eZ K "met" (top 30))(h37:eZ K "parts_by_many" (top 44))(h38:eZ K "parts_at_numbers" (top 49))(h39:eZ K "paper_of_row" (top 41))(h40:eZ K "parts_of_row" (top 43))(h41:eZ K "split_by" (top 48))(h42:eZ K "parts" (top 42))(h43:eZ K "whole_rows" (top 47))(h44:eZ K "unsplit" (top 52))(a45:W.nsIn K mainGlobals "factors" = some (some (.ref f45)))(l45:K.lookup f45=some ⟨aci,acf,.func (W.fnOf "factors" "factors" (iG (top 46)) (ff (top 46)) (bg (top 46)) .none acj ack acm acg (.ref SQ) acn),ach⟩)(c45:W.codeIn K (.ref SQ) "factors" = true)(k45:W.keepIn K (.ref f45)=true)(h46:eZ K "_law_all" (top 60))(a47:W.nsIn K mainGlobals "law" = some (some (.ref f47)))(l47:K.lookup f47=some ⟨acq,aco,.func (W.fnOf "law" "law" (iG (top 63)) (ff (top 63)) (bg (top 63)) .none aaW aaX aaY aaV SU aaZ),acp⟩)(c47:W.codeIn K SU "law" = true)(k47:W.keepIn K (.ref f47)=true)(zb:DG K ["abs","all","bool","enumerate","int","isinstance","len","list","max","range","sorted","tuple","zip"])(zc:DH K ["NoRing","NoPrime","NoInverse","NoParts","NotPlain"])(nY:W.nsIn K mainGlobals "MOST_RING" = some (some (.int 997 A3)))(jH:W.nsIn K mainGlobals "FIRST_PRIMES" = some (some (.ref om)))(jI:K.lookup om=some ⟨.type "tuple",u6,.seq #[.int 2 tH,.int 3 tJ,.int 5 tK,.int 7 tM,.int 11 tN,.int 13 tO,.int 17 tQ,.int 19 tR,.int 23 tU,.int 29 tV,.int 31 si] u7,u9⟩)(zr:(recsOf q).find? (λe=>e.name==("factors":Str))=some d)(zk:K.lookup SQ=some ⟨toc,tod,.fields tvs,tsl⟩)(zx:tvs[11]?=some (.ref tT))(zn:W.noTabs K=true):
  ∃(fd:FuncData)(ts:List (_o×_o)),uL q K [.tab M.own M.line M.col M.S.qual] ts/\(ts.map (·.2)).Nodup/\W.noTabs K=true/\(∀(s:_n)(v:_m),BindsTo s fd ⟨[v],[]⟩ [("_law_script",v)])/\∀base:Heap,K.In base->base.Ns mainGlobals mg->EW mg base ts->vQ l.prog w K mg base (qP l.prog w) 12 fa fd ["_law_script"] (QM ⟨K,mg,[]⟩ (PM.r! M)):=by
 have e:=hfa.symm.trans (X7 X G a47);cases e;have zt:W.tabIn K "factors" = some (SQ,tT):=Rg a45 l45 rfl zk zx;refine⟨W.fnOf "law" "law" (iG (top 63)) (ff (top 63)) (bg (top 63)) .none aaW aaX aaY aaV SU aaZ,[(SQ,tT)],.cons zr zt .nil,by simp,zn,λs v=>.of_eq rfl,λbase _ _ hB=>?_⟩;have T:Txt l.prog w K mg base:=⟨λ_ _ h=>X7 X G h,zb.get X G,zc.get X G,Glob.int (X7 X G nY),Glob.ints (ns:=[2,3,5,7,11,13,17,19,23,29,31]) (X7 X G jH) jI rfl rfl (by simp[Vp]) (.cons ⟨_,rfl⟩ (.cons ⟨_,rfl⟩ (.cons ⟨_,rfl⟩ (.cons ⟨_,rfl⟩ (.cons ⟨_,rfl⟩ (.cons ⟨_,rfl⟩ (.cons ⟨_,rfl⟩ (.cons ⟨_,rfl⟩ (.cons ⟨_,rfl⟩ (.cons ⟨_,rfl⟩ (.cons ⟨_,rfl⟩ (.nil))))))))))))⟩
 have Ek:=Ct T  h0;have sj:=qt T  h1;have yq:=xt T  h2;have u_:=tm T  h3;have fT:=uQ T  h4;have o!:=uR T  h5;have tW:=sd T  h6;have El:=Cu T  h7;have xF:=uS T  h8;have xG:=Cv T  h9;have xH:=uT T  h10;have yr:=xy T  h11;have zK:=Ec T Ek sj h12;have Lk:=Hy T yq h13;have g?:=oW T fT o! h14;have p?:=xA T fT h15;have o?:=uU T fT h16;have pb:=uV T fT h17;have HC:=Ed T tW h18;have sk:=yj T El h19;have A4:=yk T xG h20;have A5:=ym T xG h21;have A6:=yn T zK h22;have lM:=xB T zK h23;have kj:=pW T o! g? h24;have yt:=xC T A4 h25;have CA:=A1 T A5 h26;have pN:=Ee T u_ Lk A6 h27;have mY:=HA T fT pN h28;have mZ:=sf T o? pN h29;have zL:=Ef T HC pN h30;have ph:=uW T mY mZ h31;have xI:=uX T g? p? mY h32;have tX:=sg T sk zL h33;have tY:=sh T sk zL h34;have kQ:=qu T p? mY h35;have aa0:=SN T o? pN mY xI h36;have u!:=tD T pb mY ph h37;have qw:=pX T fT g? mY ph h38;have xJ:=uZ T pb aa0 h39;have pj:=u5 T mZ u! h40;have Em:=Cy T qw h41;have FX:=Lj T lM pj h42;have A7:=yp T kj tX kQ Em h43;have HD:=Eh T lM kj tY kQ xJ h44;have zM:=Ei T lM pj A7 ⟨zt,(hB _ (.head _)).1,(hB _ (.head _)).2.1,(hB _ (.head _)).2.2⟩ (CW (st:=top 46) l45 c45 k45) a45 (Ob T );have Eo:=Cz T xH FX HD zM h46;exact SS T xF yr yt CA FX zM Eo (CW (st:=top 63) l47 c47 k47)
end yg
structure PySem.W.Fast:Prop where(tw7436158325139749243 tw15335824146227922680 tw4528257940399588266 tw309763203786912293 tw17599765379786009309 tw17077537679649485855 tw12480607569783910400 tw10440540363381374809 tw12678627005325948249 tw7250559874664114795 tw16512545667988617623 tw16282594112725253957 tw1937645671486746346 tw12656405305050801467 tw8636545961317334408 tw8315881954311213874 tw16192804682001727860 tw7014477158526690410 tw8363732944458128158 tw7932748264951285120 tw8681149686796879891 tw250722164807480959 tw8406522197263733346 tw12550984057795047899 tw12366278102598106228 tw4058100483984584813 tw11867238410029889826 tw5796828526739487247 tw142882442350664722 tw10368479854801133032 tw15803919903219154569 tw5110561839612574558 tw16616199917695989537 tw878363905270325189 tw17111810002914464661 tw5356139646012626146 tw3982138004251268291 tw18414740369532032238 tw18184318572516461485 tw8252267687891809 tw10558299499773646600 tw7557078980216645853 tw2595883838717437908 tw1135622943318645281 tw16376745447797830431 tw3140677662189600222 tw14346408435599999404 tw10256393227911199404 tw12703545317752653645 tw7600383086252057108 tw4834702290881944389 tw14965589178512711964 tw15797692809438580084 tw17464807355301870296 tw903363225466754463 tw1736647961058983884 tw736902934412700979 tw7064155124533023675 tw13441516849135900732 tw8522899319461025567 tw16664730329155574556 tw2804351145832259489 tw8973644862454744632 tw14519126347260440193 tw2313344606917426879 tw16325034644882995338 tw15372756003305856344 tw7152226563130328889 tw18340272429301886253 tw7710485804788538725 tw10615540753859543451 tw1441196612265053665 tw802589204554427566 tw16173625402623327217 tw15391484963763648507 tw9336489450077235542 tw3326352060962535587 tw6349734331311682329 tw14821604500267896877 tw3695941791248452832 tw7588939742885702524 tw15826215416814483067 tw17633578240272315259 tw18359695388421779165 tw15250803548382880950 tw16953603824403856023 tw2231393588965990632 tw8599818678639641721 tw6302505135065918396 tw10338695117528182896 tw8972133185751865511 tw8711219522041668988 tw6774172964092619712 tw13569907869305582455 tw14187153145316948813 tw17862514717685307175 tw11000467680049446622 tw7996881550840066445 tw3723954288323294829 tw9984798135295941525 tw18101457820394954387 tw1775121636474200977 tw7417765058447964602 tw14397327438422928653 tw2723458813382680502 tw2385666415861564213 tw14613927065027656896 tw9570238674405396720 tw11812828033614180195 tw9063256765803048845 tw11559742825326148292 tw1558275821652116174 tw14343978800346369089 tw6866874254893062166 tw14154119490926963506 tw8192295703977240479 tw3807493449295794546 tw2995263381862083498 tw17807531302305358340 tw7476041837240649382 tw18174365090579117258 tw6980336651692071423 tw421348055136753683 tw9291624083792265504 tw4692824321489028163 tw10462336039121880038 tw4592110405138707765 tw3520728594994808335 tw2654840840013106763 tw15575081706058603537 tw18411137956516565604 tw14637443819931635345 tw13801652581540007213 tw12789483620502499112 tw10767326016616277357 tw7299160586427340342 tw3370345805654017494 tw2520361377041907587 tw7050228877384316982 tw2641989774339827390 tw14730642615756623120 tw11550499432039229576 tw108398487470400668 tw11852440742903418021 tw16030535365611528396 tw9344337828900720534 tw287183769604362315 tw18233192315216299837 tw181512085501127163 tw16137614863234820905 tw1253864213946005689 tw6609447458252497188 tw4595389747559675 tw17416098893343710308 tw16818277625290826811 tw13304856229959392072 tw7354619965910386749 tw2172776134312498515 tw13445377189965727373 tw13204759086969943250 tw114573245875907489 tw17389291637208288270 tw838090221856894727 tw10974298062505276480 tw5594771949216056801 tw8400612255695587457 tw12429895628549363316 tw555907328359997151 tw9705863919670054454 tw965362812218535201 tw9269879896336432441 tw8924761271175280059 tw8774018176120323426 tw8072783509615278219 tw8047218468579300533 tw7882097346493374090 tw7851966553624569495 tw7445980764042925401 tw6360904919770861298 tw5503549258418400932 tw543737035087167134 tw5184066726694307833 tw4994167126298582799 tw4656930766164106273 tw4238260301277602573 tw4208811601053026984 tw4165843955714469485 tw391026561298527370 tw343927348793974212 tw3200716353948526290 tw2778350443373885532 tw2265336251150983451 tw18420536334231587632 tw18079005974979402573 tw17289847479567251426 tw17287477318625953787 tw16535083577431170992 tw16408272540707718268 tw16395959119979985191 tw16170014927791561162:True)
open PySem.W PyProof.Rows
set_option maxRecDepth 100000 in
set_option maxHeartbeats 0 in
theorem PySem.Challenge.cw_polyring_k24_asked_again_holds : PySem.Challenge.rw_polyring_k24_asked_again.Holds := by
 w_on;o_law;k_head;(case hw=>w_witness2)
 k_fill
 refine MN.GZ (f:=(PM.r! yg.M)) (cs:=[.tab yg.M.own yg.M.line yg.M.col yg.M.S.qual]) (l:=PySem.Challenge.rw_polyring_k24_asked_again) (k:=12) (x:="_law_script") rfl rfl ⟨rfl,by decide,by decide⟩ (yg.Lh yg.M rfl) (λw h Y=>PySem.W.km_in_of Y) ?F
 case F=>
  intro w mg fa h KX G Uq;refine' yg.all_mk KX G Uq ?h0 ?h1 ?h2 ?h3 ?h4 ?h5 ?h6 ?h7 ?h8 ?h9 ?h10 ?h11 ?h12 ?h13 ?h14 ?h15 ?h16 ?h17 ?h18 ?h19 ?h20 ?h21 ?h22 ?h23 ?h24 ?h25 ?h26 ?h27 ?h28 ?h29 ?h30 ?h31 ?h32 ?h33 ?h34 ?h35 ?h36 ?h37 ?h38 ?h39 ?h40 ?h41 ?h42 ?h43 ?h44 ?a45 ?l45 ?c45 ?k45 ?h46 ?a47 ?l47 ?c47 ?k47 ?zb ?zc ?nY ?jH ?jI ?zr ?zk ?zx ?zn
  (case h0|h1|h2|h3|h4|h5|h6|h7|h8|h9|h10|h11|h12|h13|h14|h15|h16|h17|h18|h19|h20|h21|h22|h23|h24|h25|h26|h27|h28|h29|h30|h31|h32|h33|h34|h35|h36|h37|h38|h39|h40|h41|h42|h43|h44|h46=>refine' MN.eZ.mk ?a ?l ?c ?k;(case a=>k_is);(case l=>k_is);(case c=>k_is);(case k=>k_is);skip)
  (case a45=>k_is)
  (case l45=>k_is)
  (case c45=>k_is)
  (case k45=>k_is)
  (case a47=>k_is)
  (case l47=>k_is)
  (case c47=>k_is)
  (case k47=>k_is)
  case zb=>
   repeat (refine' MN.DG.cons ?a ?_;(case a=>k_is);skip)
   exact .nil
  case zc=>
   repeat (refine' MN.DH.cons ?a ?e ?s ?_;(case a=>k_is);(case e=>k_exc);(case s=>k_is);skip)
   exact .nil
  (case nY=>k_is)
  (case jH=>k_is)
  (case jI=>k_is)
  (case zr=>rfl)
  (case zk=>k_is)
  (case zx=>rfl)
  (case zn=>first|k_is|kernel_rfl)
