import PyProof.Rows.All
import Wide.All
import OpenK.AllK
import PySem.Challenge.RW_polyring_k21_small_ones
set_option Elab.async false
set_option linter.all false
set_option maxRecDepth 100000
set_option maxHeartbeats 4000000
set_option compiler.extract_closed false
set_option genSizeOf false
open PySem
noncomputable section
abbrev Z':=Value->Shared->Prop
abbrev _a:=Str->Option Value
abbrev _b:=List (Addr×Obj)
abbrev _c:=W.Frag
abbrev _d:=List Int
abbrev _e:=List Value
abbrev _g:=Option Value
abbrev _h:=List Addr
abbrev _i:=List Str
abbrev _j:=Value
abbrev _k:=Shared
abbrev _l:=Addr
abbrev _m:=Around
abbrev _n:=Program
variable {κ α β:Type}
variable {o tg iter value elt e₀:Expr}
variable {P q:Program}
variable {h h':Heap}
variable {ob:Obj}
variable {ae:List (Addr×Obj)}
variable {s s₀:Shared}
variable {t' tk m k1 k2 kt d ep:Nat}
variable {ch fp ρ ρ':List Addr}
variable {j lo hi p g0 g1:Int}
variable {rest es ifs elts:List Expr}
variable {pos' p5 apos p2 dN tp q1 q2:Pos}
variable {vs aN:List Value}
variable {R B D v1 as u0 u1 v0 R0 U:_d}
variable {C dx i1 i2 c' fa:Addr}
variable {op:CmpOp}
variable {name:Str}
variable {doc pm h_ oc cls:Value}
variable {an od:Option Addr}
variable {GW:Array (Option Value)}
variable {items xs ys:Array Value}
variable {loose:List Str}
variable {bE cs:List Nat}
variable {tn:Nat->Heap->Prop}
variable {b1 b2:Bool}
variable {newId:String}
variable {Gs rows:List (_d)}
def Vj.{u,v}:=@List.length_map.{u,v}
def Vk:=@wpAny_bind
def Vl.{u}:=@List.length_cons.{u}
def Vm.{u}:=@List.length_append.{u}
def Vn:=@Heap.get?_push_of_some
def Vo.{u}:=@List.getElem?_eq_getElem.{u}
def Vp.{u}:=@List.set_cons_zero.{u}
def Vq.{u,v}:=@List.map_cons.{u,v}
def Vr.{u}:=@List.set_cons_succ.{u}
def Vs.{u}:=@if_pos.{u}
def Vt:=@sizeLine_eq
def Vu.{u,v}:=@List.getElem?_map.{u,v}
def Vv:=@Nat.le_refl
def Vx.{u}:=@List.nil_append.{u}
def Vy.{u}:=@List.mem_singleton.{u}
def Vz.{u}:=@List.mem_cons_self.{u}
def VA.{u}:=@List.length_pos_iff.{u}
def VB.{u}:=@List.length_nil.{u}
def VC.{u}:=@List.replicate_zero.{u}
def VD.{u}:=@List.getD_eq_getElem?_getD.{u}
def VE.{u}:=@if_neg.{u}
def VF:=@wpAny_pure
def VG.{u}:=@List.size_toArray.{u}
def VH.{u}:=@List.mem_cons_of_mem.{u}
def VI.{u}:=@List.cons_append.{u}
def VJ:=@Heap.lt_size
def VM.{u}:=@List.getElem?_eq_some_iff.{u}
def VN.{u}:=@List.replicate_succ.{u}
def VO.{u}:=@List.length_singleton.{u}
def VP.{u}:=@List.mem_append.{u}
def VQ.{u,v}:=@List.map_nil.{u,v}
def VR.{u,v}:=@List.mem_map.{u,v}
def VS.{u,v}:=@List.map_append.{u,v}
def VT:=@Nat.lt_of_lt_of_le
def VU.{u}:=@Option.some.inj.{u}
def VV:=@Heap.get?_push_size
def VW:=@List.length_range
def VX.{u}:=@List.mem_append_right.{u}
def VY:=@Bool.false_ne_true
def VZ:=@Nat.zero_add
def V0.{u}:=@List.length_replicate.{u}
def V1.{u,v}:=@List.mem_map_of_mem.{u,v}
def V2:=@decide_eq_false
def V3.{u}:=@List.getElem?_append_right.{u}
def V4.{u}:=@List.getElem?_append_left.{u}
def V5.{u,v,w}:=@List.map_map.{u,v,w}
def V6.{u}:=@List.append_assoc.{u}
def V7:=@decide_eq_true
def V8.{u}:=@List.mem_of_getElem?.{u}
def V9.{u}:=@Array.length_toList.{u}
def V_.{u}:=@List.mem_cons.{u}
def V!:=@Nat.ne_of_lt
def V?:=@Int.emod_eq_of_lt
def Wa.{u}:=@List.getElem?_eq_none.{u}
def Wb.{u,v}:=@List.pairwise_map.{u,v}
def Wc:=@Int.emod_add_mul_ediv
def Wd.{u}:=@List.mem_append_left.{u}
def We:=@Nat.zero_le
def Wg:=@Nat.le_trans
def Wh:=@List.getElem?_range
def Wi.{u}:=@List.append_nil.{u}
def Wj:=@Int.mul_zero
def Wk:=@Int.toNat_of_nonneg
def Wl:=@Int.mul_assoc
def Wm:=@Nat.lt_irrefl
def Wn:=@Heap.get?_update_other
def Wq:=@wpAny_field
def Wr.{u}:=@List.eq_nil_of_length_eq_zero.{u}
def Ws.{u,v}:=@Option.map_eq_some_iff.{u,v}
def Wt.{u}:=@List.length_set.{u}
def Wv:=@wpAny_newObj_type
def Ww:=@W.kia_one
def Wx:=@Int.zero_mul
def Wy:=@mem_of_lookup
def Wz:=@of_decide_eq_true
def WA:=@Int.mul_le_mul_of_nonneg_left
def WB.{u}:=@List.all_eq_true.{u}
def WC:=@wpAny_mono
def WD:=@Nat.lt_or_ge
def WE:=@F.slot_dict_keyiterator_next
def WG:=@PyProof.Rows.callWith_type1
def WH.{u}:=@Array.getElem?_toList.{u}
def WJ:=@Obj.data_mapFields
def WK.{u}:=@Lean.Grind.Semiring.pow_succ.{u}
def WL:=@wpAny_callSpecial?_slot
def WM:=@Int.toNat_natCast
def WN.{u}:=@List.pairwise_singleton.{u}
def WO.{u}:=@List.pairwise_append.{u}
def WQ:=@Int.one_mul
def WR.{u,v}:=@congrArg.{u,v}
def WS.{u}:=@List.cons.inj.{u}
def WT.{u}:=@List.getElem?_set_self.{u}
def WU.{u}:=@beq_eq_false_iff_ne.{u}
def WV:=@Int.mul_comm
def WW.{u}:=@List.drop_eq_getElem_cons.{u}
def WX:=@wpAny_call_entry
def WY:=@Nat.sub_self
def WZ.{u}:=@List.getElem?_of_mem.{u}
def W2:=@Int.add_zero
def W3:=@Int.mul_one
def W4:=@PyProof.Rows.listItems_at
def W5.{u}:=@Ne.symm.{u}
def W6.{u}:=@List.getElem?_replicate.{u}
def W7.{u}:=@Lean.Grind.Semiring.pow_zero.{u}
def W8:=@Int.emod_lt_of_pos
def W9.{u}:=@List.take_of_length_le.{u}
def W_:=@Int.natCast_mul
def W!:=@Nat.succ.inj
def W?:=@Nat.ne_of_gt
def W':=@Nat.le_of_eq
def Xa:=@Int.zero_add
def Xb:=@Heap.get?_update_self
def Xc.{u,v}:=@List.getElem_map.{u,v}
def Xd:=@Int.mul_le_mul_of_nonneg_right
def Xe:=@Bool.and_eq_true
def Xf.{u}:=@List.getElem?_set_ne.{u}
def Xg:=@Int.mul_add
def Xh.{u,v}:=@List.length_zip.{u,v}
def Xi:=@Heap.SameBut.update
def Xj:=@wpAny_seqItems
def Xk:=@Int.emod_nonneg
def Xl.{u}:=@beq_self_eq_true.{u}
def Xm.{u}:=@List.length_drop.{u}
def Xn.{u,v}:=@List.filterMap_cons_some.{u,v}
def Xo:=@wpAny_typeNameOfWhole_keyiter
def Xq:=@wpAny_setField_rec
def Xr:=@wpAny_passesOwn
def Xs:=@Nat.pow_le_pow_right
def Xt:=@List.mem_range
def Xu.{u}:=@List.drop_eq_nil_of_le.{u}
def Xv:=@wpAny_holding
def Xw:=@Obj.isFreed_of_fields
def Xx.{u}:=@List.nodup_cons.{u}
def Xy:=@wpAny_truthy_bool
def Xz:=@Classical.byContradiction
def XA.{u}:=@List.eq_nil_or_concat.{u}
def XC.{u}:=@List.concat_eq_append.{u}
def XD.{u}:=@List.take_add_one.{u}
def XE.{u}:=@List.flatten_cons.{u}
def XG:=@wpAny_setField
def XH.{u,v}:=@List.of_mem_zip.{u,v}
def XI:=@Int.zero_emod
def XJ:=@F.slot_tuple_iterator_next
def XM:=@Bool.not_true
def XN:=@Int.natCast_add
def XO:=@Int.dvd_of_emod_eq_zero
def XQ.{u}:=@List.getElem_mem.{u}
def XR.{u}:=@List.pairwise_iff_getElem.{u}
def XS.{u}:=@Array.getElem?_eq_getElem.{u}
def XT:=@wpAny_typeNameOf_keyiter
def XU:=@decide_eq_true_eq
def XW:=@Nat.lt_succ_of_lt
def XX.{u}:=@List.mergeSort_perm.{u}
def XY:=@PyProof.Rows.slot_tuple_getitem
def XZ.{u}:=@List.any_cons.{u}
def X0:=@MeetsSeq3.plain_eq_loop
def X1.{u}:=@List.find?_cons.{u}
def X2.{u}:=@List.pairwise_cons.{u}
def X3.{u}:=@List.length_eq_zero_iff.{u}
def X4.{u,v}:=@List.filterMap_cons_none.{u,v}
def X5:=@Int.neg_mul
def X6:=@Int.mul_neg
def X7.{u}:=@List.ext_getElem?.{u}
def X8:=@Int.natCast_one
def X9:=@W.hideAll_get
def X_:=@Int.mul_emod
def X!:=@Int.lt_or_le
def X?:=@Nat.lt_trichotomy
def X':=@W.mg_of
def Ya:=@F.args_tuple_add_2
def Yb:=@Bool.false_or
def Yc:=@wpAny_Call_Name_kw
def Yd:=@F.entry_tuple_add
def Ye:=@Nat.lt_succ_self
def Yf:=@Heap.size_push
def Yg.{u}:=@beq_iff_eq.{u}
def Yh:=@F.slot_tuple_add
def Yi:=@Nat.dvd_of_mod_eq_zero
def Yj.{u}:=@List.getElem?_drop.{u}
def Yk:=@PyProof.Rows.get?_update_seq
def Yl.{u,v}:=@List.filterMap_cons.{u,v}
def Ym:=@wpAny_attempt
def Yn.{u}:=@List.getElem?_eq_none_iff.{u}
def Yo.{u}:=@List.all_cons.{u}
def Yp:=@Int.emod_emod_of_dvd
def Yq:=@Int.add_mul
def Yr.{u}:=@if_false.{u}
def Ys:=@codeAny_mono
def Yt:=@call_meets
def Yu:=@F.args_dict_keyiterator_next_1
def Yv.{u}:=@List.prefix_refl.{u}
def Yw.{u}:=@List.pairwise_mergeSort.{u}
def Yx.{u}:=@List.not_mem_nil.{u}
def Yy.{u}:=@List.ext_getElem.{u}
def Yz:=@wpAny_execs_nil
def YA:=@codeAny_builtin
def YB:=@SeqAt.EqAt.same
def YC:=@F.entry_dict_keyiterator_next
def YD:=@F.slot_zip_next
def YE:=@Nat.lt_of_le_of_lt
def YF:=@Nat.eq_zero_or_pos
def YG:=@List.getElem_range
def YH:=@Bool.false_eq_true
def YI.{u}:=@List.mem_filter.{u}
def YJ:=@wpAny_updateSeq_pair
def YK:=@or_false
def YL:=@Nat.min_self
def YM:=@Nat.le_of_lt
def YN:=@Int.sub_zero
def YO:=@Bool.not_eq_true'
def YQ:=@Nat.le_of_not_lt
def YR:=@Nat.le_add_right
def YS.{u}:=@Array.toArray_toList.{u}
def YT:=@wpAny_standAt
def YU:=@wpAny_onRaise
def YV:=@wpAny_newList
def YW:=@Nat.log2_lt
def YX:=@Int.le_refl
def YY:=@SeqAt.EqAt.str_int
def YZ:=@SeqAt.EqAt.int_str
def Y0:=@Nat.not_lt_zero
def Y1:=@Int.ediv_nonneg
def Y2:=@Bool.or_eq_true
def Y3:=@wpAny_pyIter_list
def Y4:=@wpAny_dictEntries
def Y5:=@slot_list_getitem
def Y6:=@seqIndex_neg
def Y7:=@Int.mul_nonneg
def Y8:=@Int.fmod_eq_emod_of_nonneg
def Y9:=@Int.fdiv_eq_ediv_of_nonneg
def Y_:=@Int.add_mul_emod_self_left
def Y!:=@Bool.false_and
def Y?:=@Bool.and_false
def Y':=@Nat.eq_of_mul_eq_mul_left
def Za:=@wpAny_isInstance
def Zb:=@wpAny_eqBool_int
def Zc:=@noFill_tuple_add
def Zd.{u}:=@if_true.{u}
def Ze:=@PyProof.noPylong_of_log2
def Zf.{u,v}:=@List.map_congr_left.{u,v}
def Zg:=@wpAny_letGo
def Zh:=@seqIndex_of
def Zi:=@F.plainAttrs_list
def Zj:=@Nat.add_sub_cancel_left
def Zk.{u,v}:=@List.map_drop.{u,v}
def Zl:=@wpAny_dictEpoch
def Zm:=@PyProof.Rows.listUpdate_at
def Zn:=@W.cellsFrom_some
def Zo:=@F.slot_dict_iter
def Zp:=@Nat.sub_zero
def Zq:=@Nat.mod_eq_zero_of_dvd
def Zr:=@Nat.lt_trans
def Zs.{u,v}:=@List.zip_cons_cons.{u,v}
def Zt.{u}:=@List.zipIdx_cons.{u}
def Zu.{u,v}:=@List.mem_filterMap.{u,v}
def Zv.{u}:=@List.length_take.{u}
def Zw.{u}:=@List.getElem_inj.{u}
def Zx.{u}:=@List.drop_length.{u}
def Zy:=@Int.dvd_refl
def Zz:=@F.args_tuple_iterator_next_1
def ZA:=@Bool.true_or
def ZC:=@F.entry_tuple_iterator_next
def ZD:=@wpAny_rule
def ZE:=@Nat.le_succ
def ZF.{u,v}:=@List.map_set.{u,v}
def ZG:=@Calls.Name_function_global
def ZH:=@Nat.pow_le_pow_left
def ZI:=@Nat.mul_le_mul_left
def ZJ:=@wpAny_getItem_list_slice
def ZK:=@wpAny_comprehension_free
def ZL:=@seq_tuple_add
def ZM:=@evalPart_none
def ZN:=@SeqAt.RcAt.lists_lengths
def ZO:=@W.of_hideAll
def ZP:=@W.kitx_tuple
def ZQ:=@Paired.length
def ZR:=@Int.natAbs_eq_zero
def ZS:=@list_append
def ZT:=@W.kitx_list
def ZU:=@W.kitx_dict
def ZV:=@Nat.mul_mod_right
def ZW:=@MeetsSeq3.entry_eq_loop
def ZX:=@Int.mul_emod_left
def ZY:=@wpAny_pyNext_range_end
def ZZ:=@wpAny_pyIter_rangeiter
def Z0:=@wpAny_getItem_list_neg
def Z1.{u,v,w}:=@getElem?_pos.{u,v,w}
def Z2:=@concat_meets
def Z3:=@SeqAt.ne_of_list_tuple
def Z4:=@IsL.update
def Z5:=@Nat.lt_log2_self
def Z6.{u}:=@List.Perm.eq_of_pairwise.{u}
def Z7:=@Calls.callWith_builtin
def Z8.{u}:=@Array.size_setIfInBounds.{u}
def Z9:=@wpAny_isOneOf_keyiter
def Z_.{u}:=@List.mem_singleton_self.{u}
def Z!.{u}:=@List.filter_cons_of_pos.{u}
def Z?.{u}:=@List.filter_cons_of_neg.{u}
namespace L2
open PySem.Spec PyProof.Rows
abbrev fG:=Sum Int Str
def xx:fG->_j->Bool
 |.inl k,v=>Value.isInt k v
 |.inr x,v=>Value.isStrOf x v
def aab(w:World):fG->Int
 |.inl k=>hashInt k
 |.inr x=>hashStr w x
theorem dR:∀{k:fG}{v:_j},xx k v=true->(∃i t,k=Sum.inl i/\v=Value.int i t)\/(∃x t,k=Sum.inr x/\v=Value.str x t)
 |.inl i,v,h=>by obtain⟨t,e⟩:=Value.isInt_shape (k:=i) (v:=v) h;exact .inl ⟨i,t,rfl,e⟩
 |.inr x,v,h=>by obtain⟨t,e⟩:=Value.isStrOf_shape (x:=x) (v:=v) h;exact .inr ⟨x,t,rfl,e⟩
theorem EB(i:Int)(t:Tok):xx (.inl i) (.int i t)=true:=by simp[xx,Value.isInt]
theorem EC(x:Str)(t:Tok):xx (.inr x) (.str x t)=true:=by simp[xx,Value.isStrOf]
theorem N5(a b:Int):decide ((Sum.inl a:fG)=Sum.inl b)=(a==b):=by grind
theorem N6(a b:Str):decide ((Sum.inr a:fG)=Sum.inr b)=decide (a=b):=by grind
theorem N7(a:Int)(b:Str):decide ((Sum.inl a:fG)=Sum.inr b)=false:=V2 (λq=>nomatch q)
theorem N8(a:Str)(b:Int):decide ((Sum.inr a:fG)=Sum.inl b)=false:=V2 (λq=>nomatch q)
def fZ(prog:_n)(w:World):PySem.KeyKind prog w fG where
 is:=xx
 hash:=aab w
 inj:=λv a b ha hb=>by
  rcases dR ha with⟨i,t,rfl,rfl⟩|⟨x,t,rfl,rfl⟩
  .rcases dR hb with⟨j,u,rfl,e⟩|⟨y,u,rfl,e⟩
   .injection e with e1 _;rw[e1]
   .exact nomatch e
  .rcases dR hb with⟨j,u,rfl,e⟩|⟨y,u,rfl,e⟩
   .exact nomatch e
   .injection e with e1 _;rw[e1]
 byValue:=λk v h=>by rcases dR h with⟨i,t,rfl,rfl⟩|⟨x,t,rfl,rfl⟩<;>rfl
 pyHash:=λhv h=>by
  rcases dR hv with⟨i,t,rfl,rfl⟩|⟨x,t,rfl,rfl⟩
  .exact wpAny_pyHash_int h
  .exact wpAny_pyHash_str h
 eqBool:=λhu hv h=>by
  rcases dR hu with⟨i,t,rfl,rfl⟩|⟨x,t,rfl,rfl⟩
  .rcases dR hv with⟨j,u,rfl,rfl⟩|⟨y,u,rfl,rfl⟩
   .rw[N5]at h;exact Zb h
   .rw[N7]at h;exact YZ i t y u _ _ _ _ h
  .rcases dR hv with⟨j,u,rfl,rfl⟩|⟨y,u,rfl,rfl⟩
   .rw[N8]at h;exact YY x t j u _ _ _ _ h
   .rw[N6]at h;exact wpAny_eqBool_str h
 «strs»:=λk x t v h=>by
  rcases dR h with⟨i,u,rfl,e⟩|⟨y,u,rfl,e⟩
  .exact nomatch e
  .injection e with e1 _;subst e1;cases v<;>rfl
theorem z!(prog:_n)(w:World)(i:Int)(t:Tok):(fZ prog w).is (.inl i) (.int i t)=true:=EB i t
theorem z?(prog:_n)(w:World)(x:Str)(t:Tok):(fZ prog w).is (.inr x) (.str x t)=true:=EC x t
inductive V where
 |dD|bl (b:Bool)|int (i:Int)|str (x:Str)|byt (b:Array UInt8)|uq (b:UInt64)|ref (a:_l)|ty (n:String)
 deriving DecidableEq
def bM:V->_j->Prop
 |.dD,u=>u=Value.none
 |.bl b,u=>u=Value.bool b
 |.int i,u=>∃t,u=Value.int i t
 |.str x,u=>∃t,u=Value.str x t
 |.byt b,u=>∃t,u=Value.bytes b t
 |.uq b,u=>∃t,u=Value.float b t
 |.ref a,u=>u=Value.ref a
 |.ty n,u=>u=Value.type n
abbrev bt:List V->_e->Prop:=Paired bM
theorem bt.length{xs:List V}{us:_e}(r:bt xs us):xs.length=us.length:=ZQ r
theorem bt.get:∀{xs:List V}{us:_e}{i:Nat}{x:V},bt xs us->xs[i]?=some x->∃u,us[i]?=some u/\bM x u
 |_,_,_,_,.nil,e=>by simp at e
 |_,_,0,_,.cons r _,e=>by simp at e;subst e;exact⟨_,rfl,r⟩
 |_,_,i+1,x,.cons _ t,e=>by obtain⟨u,h1,h2⟩:=bt.get (i:=i) (x:=x) t (by simpa using e);exact⟨u,by simpa using h1,h2⟩
theorem bt.set{x:V}{u:_j}(r:bM x u):∀{xs:List V}{us:_e}(i:Nat),bt xs us->bt (xs.set i x) (us.set i u)
 |_,_,_,.nil=>.nil
 |_,_,0,.cons _ t=>.cons r t
 |_,_,i+1,.cons q t=>.cons q (bt.set r i t)
theorem bt.append:∀{xs ys:List V}{us ws:_e},bt xs us->bt ys ws->bt (xs++ys) (us++ws)
 |_,_,_,_,.nil,s=>s
 |_,_,_,_,.cons r t,s=>.cons r (bt.append t s)
theorem bt.take:∀{xs:List V}{us:_e}(n:Nat),bt xs us->bt (xs.take n) (us.take n)
 |_,_,0,_=>.nil
 |_,_,_+1,.nil=>.nil
 |_,_,n+1,.cons r t=>.cons r (bt.take n t)
theorem bt.drop:∀{xs:List V}{us:_e}(n:Nat),bt xs us->bt (xs.drop n) (us.drop n)
 |_,_,0,r=>r
 |_,_,_+1,.nil=>.nil
 |_,_,n+1,.cons _ t=>bt.drop n t
def uU:Option V->_g->Prop
 |some v,some u=>bM v u
 |none,none=>True
 |_,_=>False
def KV:List (κ×V)->List (κ×_j)->Prop:=Paired λ(p:κ×V)(q:κ×_j)=>p.1=q.1/\bM p.2 q.2
def kV:fG->V
 |.inl i=>.int i
 |.inr x=>.str x
inductive HO where
  |lst (xs:List V)
  |tup (xs:List V)
  |dK (aY:List (fG×V))|dT (aY:List (List fG×V))
  |set (S:Int->Bool) (n:Nat)
  |ins (C dx:_l) (fs:List (Str×V))
  |own (x:_l)
  |xd (fs:List (Str×V))
  |met (f x:_l)
  |ED (lo hi:Int)
  |kh (o:Obj) (u:HO)
  |wX (ps:Array _j)
  |ext (φ:Heap->Prop)
abbrev Hp:=_l->Option HO
def upd(H:Hp)(a:_l)(o:HO):Hp:=λb=>if b=a then some o else H b
theorem b_{H:Hp}{a:_l}{o:HO}:upd H a o a=some o:=by unfold upd;rw[Vs rfl]
theorem aW{H:Hp}{a b:_l}{o:HO}(h:b≠a):upd H a o b=H b:=by unfold upd;rw[VE h]
theorem RT{H:Hp}{a b:_l}{o u:HO}(h:H a=some o)(h':H b=some u)(d:o≠u):a≠b:=by grind
theorem bj{H:Hp}{a b:_l}{o:HO}(h:H a=some o)(h':H b=none):a≠b:=by intro e;subst e;rw[h]at h';cases h'
section
variable(P:_n)(w:World)
def dA(H:Hp)(h:Heap)(a:_l):HO->Prop
 |.lst xs=>xs.length<=sizeLine/\∃(aN:_e)(n:Nat),bt xs aN/\h.get? a=some {cls:=.type "list",data:=.seq aN.toArray n}
 |.tup xs=>xs.length<=sizeLine/\∃aN:_e,bt xs aN/\IsTup h a aN.toArray
 |.dK aY=>aY.length<=sizeLine/\(a==sysModules)=false/\∃vs,KV aY vs/\h.DictOf (fZ P w) a vs
 |.dT aY=>aY.length<=sizeLine/\(a==sysModules)=false/\∃xs:List (List fG×_l×_j),
   Paired (λ(p:List fG×V)(q:List fG×_l×_j)=>p.1=q.1/\H q.2.1=some (.tup (p.1.map kV))/\bM p.2 q.2.2) aY xs /\
   ∃o es ep,h.get? a=some o/\o.ExactDict/\o.data=.dict es ep/\es.toList=xs.map (entryOfKey (tupleKind (fZ P w)))/\(xs.map (·.1)).Nodup
 |.set S n=>h.SetOf (intKind P w) a S n
 |.ins C dx fs=>H dx=some (.own a)/\fs.length<=1000/\dx≠a/\h.get? a=some (W.instObj C dx) /\
   ∃mA,h.Ns1 dx mA/\(∀f,uU (fs.lookup f) (mA f))/\PySem.Within mA (fs.map (·.1))
 |.own _=>∃o,h.get? a=some o
 |.xd fs=>∃mA,h.Ns1 a mA/\∀f,uU (fs.lookup f) (mA f)
 |.ED lo hi=>∃t u v,h.get? a=some {cls:=.type "range",data:=.fields #[.int lo t,.int hi u,.int 1 v]}
 |.kh o u=>h.get? a=some o/\dA H h a u
 |.wX ps=>h.get? a=some {cls:=.none,data:=.fields ps}
 |.met f x=>h.get? a=some (W.methodObj (.ref f) (.ref x))
 |.ext φ=>φ h/\(∃o,h.get? a=some o)/\∀h1 h2:Heap,φ h1->(∀o,h1.get? a=some o->h2.get? a=some o)->φ h2
def kH(H:Hp)(h:Heap):Prop:=∀a o,H a=some o->dA P w H h a o
end
section
variable{w:World}{H H':Hp}{a:_l}{o:HO}
theorem dA.lt(x:dA P w H h a o):a<h.objs.size:=by
 cases o with
 |lst xs=>obtain⟨_,_,_,_,e⟩:=x;exact VJ e
 |tup xs=>obtain⟨_,_,_,p⟩:=x;exact p.lt
 |dK aY=>obtain⟨_,_,_,_,o,_,_,e,_⟩:=x;exact VJ e
 |dT aY=>obtain⟨_,_,_,_,o,_,_,e,_⟩:=x;exact VJ e
 |set S n=>obtain⟨o,_,_,_,e,_⟩:=x;exact VJ e
 |ins C dx fs=>obtain⟨_,_,_,e,_⟩:=x;exact VJ e
 |own y=>obtain⟨_,e⟩:=x;exact VJ e
 |xd fs=>obtain⟨_,⟨_,_,_,e,_⟩,_⟩:=x;exact VJ e
 |ED lo hi=>obtain⟨_,_,_,e⟩:=x;exact VJ e
 |kh ob u=>obtain⟨e,_⟩:=x;exact VJ e
 |wX ps=>exact VJ (show h.get? a=some _ from x)
 |met f y=>exact VJ (show h.get? a=some _ from x)
 |ext φ=>obtain⟨_,⟨_,e⟩,_⟩:=x;exact VJ e
theorem Paired.N9{F G:α->β->Prop}:∀{l₁:List α}{l₂:List β},Paired F l₁ l₂->(∀a b,F a b->G a b)->Paired G l₁ l₂
 |_,_,.nil,_=>.nil
 |_,_,.cons r t,f=>.cons (f _ _ r) (Paired.N9 t f)
theorem dA.tK(x:dA P w H h a o)(k:∀b u,(b=a\/H b=some (.own a))->h.get? b=some u->h'.get? b=some u)(ho:∀b,H b=some (.own a)->H' b=some (.own a))(ht:∀b xs,H b=some (.tup xs)->H' b=some (.tup xs)):dA P w H' h' a o:=by
 induction o with
 |lst xs=>obtain⟨z,aN,n,r,e⟩:=x;exact⟨z,aN,n,r,k _ _ (.inl rfl) e⟩
 |tup xs=>obtain⟨z,aN,r,ob,e,c⟩:=x;exact⟨z,aN,r,ob,k _ _ (.inl rfl) e,c⟩
 |dK aY=>obtain⟨z,y,vs,r,ob,es,ep,e,c⟩:=x;exact⟨z,y,vs,r,ob,es,ep,k _ _ (.inl rfl) e,c⟩
 |dT aY=>
  obtain⟨z,y,xs,r,ob,es,ep,e,c⟩:=x;exact⟨z,y,xs,Paired.N9 r λp q z=>⟨z.1,ht _ _ z.2.1,z.2.2⟩,ob,es,ep,k _ _ (.inl rfl) e,c⟩
 |set S n=>obtain⟨ob,es,ep,t,e,c⟩:=x;exact⟨ob,es,ep,t,k _ _ (.inl rfl) e,c⟩
 |ins C dx fs=>
  obtain⟨d,z,ne,e,mA,⟨od,es,ep,e2,c⟩,r⟩:=x;exact⟨ho _ d,z,ne,k _ _ (.inl rfl) e,mA,⟨od,es,ep,k _ _ (.inr d) e2,c⟩,r⟩
 |own y=>obtain⟨ob,e⟩:=x;exact⟨ob,k _ _ (.inl rfl) e⟩
 |xd fs=>obtain⟨mA,⟨od,es,ep,e,c⟩,r⟩:=x;exact⟨mA,⟨od,es,ep,k _ _ (.inl rfl) e,c⟩,r⟩
 |ED lo hi=>obtain⟨t,u,v,e⟩:=x;exact⟨t,u,v,k _ _ (.inl rfl) e⟩
 |kh ob u ih=>obtain⟨e,q⟩:=x;exact⟨k _ _ (.inl rfl) e,ih q⟩
 |wX ps=>
  have e:h.get? a=some {cls:=.none,data:=.fields ps}:=x;show h'.get? a=some {cls:=.none,data:=.fields ps};exact k a _ (.inl rfl) e
 |met f y=>
  have e:h.get? a=some (W.methodObj (.ref f) (.ref y)):=x;show h'.get? a=some (W.methodObj (.ref f) (.ref y));exact k a _ (.inl rfl) e
 |ext φ=>obtain⟨p,⟨o,e⟩,st⟩:=x;exact⟨st _ _ p λo q=>k _ _ (.inl rfl) q,⟨o,k _ _ (.inl rfl) e⟩,st⟩
theorem kH.lt(x:kH P w H h)(e:H a=some o):a<h.objs.size:=(x a o e).lt
theorem kH.fresh(x:kH P w H h)(e:h.objs.size<=a):H a=none:=by
 cases q:H a with
 |none=>rfl
 |some u=>exact absurd (VT (x.lt q) e) (Wm _)
theorem kH.kept(x:kH P w H h)(k:∀b u,h.get? b=some u->h'.get? b=some u):kH P w H h':=λa o e=>
 (x a o e).tK (λb u _ q=>k b u q) (λ_ q=>q) λ_ _ q=>q
theorem kH.laid(x:kH P w H h)(k:∀b u,h.get? b=some u->h'.get? b=some u)(hp:h.objs.size<=a)(new:dA P w (upd H a o) h' a o):kH P w (upd H a o) h':=λb u e=>by
 have hn:=x.fresh hp;by_cases hb:b=a
 .subst hb;rw[b_]at e;cases e;exact new
 .rw[aW hb]at e;exact(x b u e).tK (λc v _ q=>k c v q) (λc q=>by rw[aW (bj q hn)];exact q) λc xs q=>by rw[aW (bj q hn)];exact q
end
def Rd(H:Hp)(a:_l)(u:HO):Prop:=H a=some u\/∃o,H a=some (.kh o u)
theorem Rd.ok{w:World}{H:Hp}{a:_l}{u:HO}(r:Rd H a u)(x:kH P w H h):dA P w H h a u:=by
 rcases r with r|⟨o,r⟩
 .exact x a u r
 .obtain⟨_,q⟩:=x a _ r;exact q
def RU:Option HO->Prop
 |some (.lst _)=>True
 |some (.dK _)=>True
 |some (.dT _)=>True
 |some (.set _ _)=>True
 |some (.ins _ _ _)=>True
 |some (.ext _)=>True
 |_=>False
section
variable{w:World}{H:Hp}{x e:_l}{o':HO}
theorem kH.write(ok:kH P w H h)(mu:RU (H x))(he:e=x\/H e=some (.own x))(k:∀b u,b≠e->h.get? b=some u->h'.get? b=some u)(Rk:∃u,h'.get? e=some u)(new:dA P w (upd H x o') h' x o'):kH P w (upd H x o') h':=λb u q=>by
 have RV:∀c y,H c=some (.own y)->c≠x:=λc y r z=>by subst z;rw[r]at mu;exact mu
 have aac:∀c xs,H c=some (.tup xs)->c≠x:=λc xs r z=>by subst z;rw[r]at mu;exact mu
 by_cases hb:b=x
 .subst hb;rw[b_]at q;cases q;exact new
 .rw[aW hb]at q;by_cases N_:b=e
  .have q':H b=some (.own x):=by
    rcases he with z|z
    .exact absurd (N_.trans z) hb
    .rw[N_];exact z
   rw[q]at q';cases q';obtain⟨v,hv⟩:=Rk;exact⟨v,by rw[N_];exact hv⟩
  .refine(ok b u q).tK (λc v hc r=>k c v ?_ r) (λc r=>by rw[aW (RV c b r)];exact r) λc xs r=>by rw[aW (aac c xs r)];exact r
   rcases hc with rfl|hc
   .exact N_
   .rintro rfl;rcases he with z|z
    .exact RV c b hc z
    .rw[hc]at z;cases z;exact hb rfl
end
structure Un(fs ex:_h)(H H':Hp)(h h':Heap):Prop where
 keep:∀b o,h.get? b=some o->H b=none->b ∉ fs->b ∉ ex->h'.get? b=some o
 slot:∀b o,h.get? b=some o->H b=none->b∈fs->b ∉ ex->∃sl,h'.get? b=some {o with slots:=sl}
 free:∀b o,h.get? b=some o->H b=none->b ∉ ex->H' b=none
 there:∀b o,h.get? b=some o->b ∉ ex->∃o',h'.get? b=some o'
 pz:∀b xs,H b=some (.tup xs)->H' b=some (.tup xs)
 oM:∀b o u,H b=some (.kh o u)->H' b=some (.kh o u)
 pX:∀b ps,H b=some (.wX ps)->∃more,H' b=some (.wX (ps++more))
section
variable{fs Gy ex ex':_h}{H H1 H2:Hp}{h1 h2:Heap}{a x e:_l}{o:HO}
theorem Un.any(u:Un fs ex H H1 h h1){b:_l}(q:h.get? b=some ob)(n:H b=none)(hx:b ∉ ex):∃sl,h1.get? b=some {ob with slots:=sl}:=by
 by_cases hb:b∈fs
 .exact u.slot b ob q n hb hx
 .exact⟨ob.slots,u.keep b ob q n hb hx⟩
theorem Un.kept(k:∀b u,h.get? b=some u->h'.get? b=some u):Un fs ex H H h h':=
 ⟨λb ob q _ _ _=>k b ob q,λb ob q _ _ _=>⟨ob.slots,k b ob q⟩,λ_ _ _ n _=>n,λb ob q _=>⟨ob,k b ob q⟩,λ_ _ q=>q,λ_ _ _ q=>q,λ_ ps q=>⟨#[],by rw[q];simp⟩⟩
theorem Un.refl:Un fs ex H H h h:=Un.kept λ_ _ q=>q
theorem Un.laid(k:∀b u,h.get? b=some u->h'.get? b=some u)(hp:h.objs.size<=a)(hn:H a=none):Un fs ex H (upd H a o) h h' where
 keep:=λb u q _ _ _=>k b u q
 slot:=λb u q _ _ _=>⟨u.slots,k b u q⟩
 free:=λb u q n _=>by rw[aW (V! (VT (VJ q) hp))];exact n
 there:=λb u q _=>⟨u,k b u q⟩
 pz:=λb xs q=>by rw[aW (bj q hn)];exact q
 oM:=λb u xs q=>by rw[aW (bj q hn)];exact q
 pX:=λb ps q=>⟨#[],by rw[aW (bj q hn),q];simp⟩
theorem Un.write(mu:RU (H x))(he:e=x\/H e=some (.own x))(k:∀b u,b≠e->h.get? b=some u->h'.get? b=some u)(Rk:∃u,h'.get? e=some u):Un fs ex H (upd H x o) h h':=by
 have hx:∀b,H b=none->b≠x:=λb n z=>by subst z;rw[n]at mu;exact mu
 have hb:∀b,H b=none->b≠e:=λb n z=>by
  subst z;rcases he with r|r
  .exact hx b n r
  .rw[n]at r;cases r
 have hm:∀b u,H b=some u->¬ RU (some u)->b≠x:=λb u q nm z=>by subst z;rw[q]at mu;exact nm mu
 refine⟨λb u q n _ _=>k b u (hb b n) q,λb u q n _ _=>⟨u.slots,k b u (hb b n) q⟩,λb u q n _=>by rw[aW (hx b n)];exact n,λb u q _=>?_,
  λb xs q=>by rw[aW (hm b _ q λz=>z)];exact q,λb u xs q=>by rw[aW (hm b _ q λz=>z)];exact q,λb ps q=>⟨#[],by rw[aW (hm b _ q λz=>z),q];simp⟩⟩
 by_cases N_:b=e
 .subst N_;exact Rk
 .exact⟨u,k b u N_ q⟩
end
def Aa(h:Heap)(H:Hp):_h:=(List.range h.objs.size).filter λa=>(H a).isSome
def wY(h:Heap)(H:Hp):Heap:=W.hideAll h (Aa h H)
theorem EE(h:Heap)(H:Hp):(wY h H).objs.size=h.objs.size:=W.hideAll_size _ _
theorem GH{H:Hp}{b:_l}{o:Obj}(e:h.get? b=some o)(n:H b=none):(wY h H).get? b=some o:=
 X9 _ e λhm=>by have q:(H b).isSome=true:=(YI.mp hm).2;rw[n]at q;simp at q
theorem Kj{H:Hp}{b:_l}{o:Obj}(e:(wY h H).get? b=some o):h.get? b=some o/\H b=none:=by
 have e':h.get? b=some o:=ZO (Aa h H) e;refine⟨e',?_⟩;cases q:H b with
 |none=>rfl
 |some x=>
  have hm:b∈Aa h H:=YI.mpr ⟨Xt.mpr (VJ e'),by simp[q]⟩;have z:(wY h H).get? b=none:=W.hideAll_none (Aa h H) hm;rw[z]at e;cases e
structure Mod(K:_c)(mg:_a)(base:Heap):Prop where
 RW:K.In base
 glob:base.Ns mainGlobals mg
 blt:∃mb,base.Ns builtinsNs mb/\∀x:Str,x ≠ "__name__" -> mb x=bootBuiltins x
 nolimit:base.NoLimit
structure Cx where
 prog:_n
 w:World
 K:_c
 mg:Str->_g
 base:Heap
 A:_m
 N:_i
 s₀:_k
 H₀:Hp
 env:Env
 outer:List Env
 stack:List Env
 ex:_h
 fn:Str->Bool
 calm:Bool
 pn:_b
 xe:_j->_k->Prop
def jP(l:List Env):_h:=l.filterMap (·.frame)
abbrev Cx.fs(X:Cx):_h:=jP X.outer
def RX(sc:Scope)(x:Str):Prop:=sc.names.lookup x=some .local\/sc.names.lookup x=some .cell\/sc.names.lookup x=some .free
def Loc(sc:Scope)(x:Str):Prop:=sc.names.lookup x=some .local\/sc.names.lookup x=some .cell
def Look(env:Env)(h:Heap)(m:_a)(x:Str)(u:_j):Prop:=
 (env.kindOf x=some .local/\m x=some u)\/((env.kindOf x=some .cell\/env.kindOf x=some .free)/\∃c,env.cells.lookup x=some c/\h.IsCell c (some u))
structure Cx.Ok(X:Cx):Prop where
 mod:Mod X.K X.mg X.base
 kind:X.env.scope.kind=.function
 glob:X.env.globals=mainGlobals
 blt:X.env.builtins=builtinsNs
 above:X.s₀.heap.objs.size<=X.env.locals
 inj:∀x y c,X.env.cells.lookup x=some c->X.env.cells.lookup y=some c->x=y
 has:∀x,(X.env.kindOf x=some .cell\/X.env.kindOf x=some .free)->∃c,X.env.cells.lookup x=some c
 cab:∀x c,X.fn x=true->X.env.cells.lookup x=some c->X.s₀.heap.objs.size<=c
 hd:X.calm=true->X.A.handled=none
 frames:X.A.frames=some X.stack
 stk:X.stack=X.outer\/(X.stack=X.env::X.outer/\X.env.frame=some X.env.locals)
 exf:∀b∈X.ex,b≠X.env.locals/\∀x c,X.env.cells.lookup x=some c->c≠b
 bs:∀b o,X.base.get? b=some o->X.s₀.heap.get? b=some o/\X.H₀ b=none
 N!:X.base.objs.size<=X.s₀.heap.objs.size
 Kk:∀b o,X.base.get? b=some o->b ∉ X.ex
 RY:∀b∈X.ex,b ∉ X.fs
 uV:X.s₀.heap.FunFrames X.base X.outer
 M_:∀b∈X.fs,X.H₀ b=none
structure a9(X:Cx)(ae:_b)(σ:List (Option V))(H:Hp)(s:_k):Prop where
 ok:X.Ok
 os:s.os=X.s₀.os
 bare:AllBare s.gens
 base:Un X.fs X.ex X.H₀ H X.s₀.heap s.heap
 loc:∃m,s.heap.Ns X.env.locals m/\∀(i:Nat)(x:Str)(v:V),X.N[i]?=some x->σ[i]?=some (some v)->RX X.env.scope x->∃u,bM v u/\Look X.env s.heap m x u
 cell:∀x c,X.env.cells.lookup x=some c->∃v,s.heap.IsCell c v
 free:H X.env.locals=none
 pY:∀x c,X.env.cells.lookup x=some c->H c=none
 pin:∀p∈X.pn++ae,s.heap.get? p.1=some p.2/\H p.1=none/\p.1≠X.env.locals/\p.1 ∉ X.fs/\∀v,p.2.data≠.cell v
 dg:kH X.prog X.w H s.heap
 len:σ.length=X.N.length
section
variable{X:Cx}{σ:List (Option V)}{H H':Hp}
theorem Cx.Ok.aad(ok:X.Ok){b:_l}{o:Obj}(e:X.base.get? b=some o):b ∉ X.fs:=λhb=>by have:=(ok.uV.mem hb).1;rw[e]at this;cases this
theorem a9.bs(I:a9 X ae σ H s):∀b o,X.base.get? b=some o->s.heap.get? b=some o/\H b=none:=λb o e=>
 ⟨I.base.keep b o (I.ok.bs b o e).1 (I.ok.bs b o e).2 (I.ok.aad e) (I.ok.Kk b o e),I.base.free b o (I.ok.bs b o e).1 (I.ok.bs b o e).2 (I.ok.Kk b o e)⟩
theorem a9.bk(I:a9 X ae σ H s):∀b o,X.base.get? b=some o->s.heap.get? b=some o:=λb o e=>(I.bs b o e).1
theorem a9.mod(I:a9 X ae σ H s):Mod X.K X.mg X.base:=I.ok.mod
theorem a9.zW(I:a9 X ae σ H s):X.K.In s.heap:=I.ok.mod.RW.keeps I.bk
theorem a9.lt(I:a9 X ae σ H s):X.env.locals<s.heap.objs.size:=let⟨_,hn,_⟩:=I.loc;hn.lt
theorem a9.sz(I:a9 X ae σ H s):X.s₀.heap.objs.size<=s.heap.objs.size:=Wg I.ok.above (YM I.lt)
theorem a9.aae(I:a9 X ae σ H s){a:_l}(h:s.heap.objs.size<=a):a ∉ X.fs:=λhb=>by obtain⟨_,o,ho,_⟩:=I.ok.uV.mem hb;exact absurd (VT (VJ ho) (Wg I.sz h)) (Wm _)
theorem a9.N?(I:a9 X ae σ H s):∀x c,X.env.cells.lookup x=some c->c≠X.env.locals:=λx c e z=>by obtain⟨v,o,ho,hd⟩:=I.cell x c e;obtain⟨m,⟨o',es,ep,wZ,hd',_⟩,_⟩:=I.loc;rw[z,wZ]at ho;cases ho;rw[hd']at hd;cases hd
theorem a9.uV(I:a9 X ae σ H s):s.heap.FunFrames X.base X.outer:=by
 have all:∀(l:List Env),(∀b∈jP l,b∈X.fs)->X.s₀.heap.FunFrames X.base l->s.heap.FunFrames X.base l:=by
  intro l
  induction l with
  |nil=>intro _ _;trivial
  |cons env r ih=>
   intro hs hl;obtain⟨hk,⟨L,o,hf,hn,ho,hd⟩,hr⟩:=hl;have hL:L∈X.fs:=hs L (by unfold jP;rw[Yl,hf];exact Vz);obtain⟨sl,e⟩:=I.base.slot L o ho (I.ok.M_ L hL) hL λz=>I.ok.RY L z hL;exact⟨hk,⟨L,_,hf,hn,e,hd⟩,ih (λb hb=>hs b (by unfold jP;rw[Yl,hf];exact VH _ hb)) hr⟩
 exact all X.outer (λ_ hb=>hb) I.ok.uV
theorem a9.stack(I:a9 X ae σ H s):s.heap.FunFrames X.base X.stack:=by
 rcases I.ok.stk with e|⟨e,hf⟩
 .rw[e];exact I.uV
 .rw[e];obtain⟨m,hn,_⟩:=I.loc;refine .cons (by rw[I.ok.kind];decide) hf hn ?_ I.uV;exact Heap.get?_none_of_le (Wg I.ok.N! I.ok.above)
theorem a9.yp(I:a9 X ae σ H s):∀b∈jP X.stack,b∈X.env.locals::X.fs:=λb hb=>by
 rcases I.ok.stk with e|⟨e,hf⟩
 .rw[e]at hb;exact VH _ hb
 .rw[e]at hb;unfold jP at hb;rw[Yl,hf]at hb;exact hb
theorem a9.yq(I:a9 X ae σ H s):∀b∈jP X.stack,H b=none:=λb hb=>by
 rcases V_.mp (I.yp b hb)with e|hb
 .rw[e];exact I.free
 .obtain⟨_,o,ho,_⟩:=I.ok.uV.mem hb;exact I.base.free b o ho (I.ok.M_ b hb) λz=>I.ok.RY b z hb
theorem a9.step{g':Array GenState}{t':Nat}{d':Drawn}(I:a9 X ae σ H s)(J?:∀b∈ch,(b∈X.ex\/X.s₀.heap.objs.size<=b)/\b≠X.env.locals/\(∀x c,X.env.cells.lookup x=some c->c≠b)/\∀p∈X.pn++ae,p.1≠b)(keep:∀b o,b≠X.env.locals->b ∉ X.fs->b ∉ ch->s.heap.get? b=some o->H b=none->h'.get? b=some o)(slot:∀b o,b≠X.env.locals->b∈X.fs->b ∉ ch->s.heap.get? b=some o->H b=none->∃sl,h'.get? b=some {o with slots:=sl})(free:∀b o,b ∉ ch->s.heap.get? b=some o->H b=none->H' b=none)(there:∀b o,b ∉ ch->s.heap.get? b=some o->∃o',h'.get? b=some o')(pz:∀b xs,H b=some (.tup xs)->H' b=some (.tup xs))(oM:∀b o u,H b=some (.kh o u)->H' b=some (.kh o u))(pX:∀b ps,H b=some (.wX ps)->∃more,H' b=some (.wX (ps++more)))(ns:∀m,s.heap.Ns X.env.locals m->h'.Ns X.env.locals m)(dg:kH X.prog X.w H' h')(hg:AllBare g'):
  a9 X ae σ H' {s with heap:=h',gens:=g',drawn:=d',toks:=t'}:=by
 have neL:∀b o,X.s₀.heap.get? b=some o->b≠X.env.locals:=λb o e=>V! (VT (VJ e) I.ok.above);have Vb:∀b o,X.s₀.heap.get? b=some o->b ∉ X.ex->b ∉ ch:=λb o e hx hb=>by
  rcases(J? b hb).1 with z|z
  .exact hx z
  .exact absurd (VT (VJ e) z) (Wm _)
 have cellK:∀x c,X.env.cells.lookup x=some c->∀v,s.heap.IsCell c v->h'.IsCell c v:=λx c e v⟨o,ho,hd⟩=>by
  have RZ:c ∉ ch:=λz=>(J? c z).2.2.1 x c e rfl;by_cases hc:c∈X.fs
  .obtain⟨sl,q⟩:=slot c o (I.N? x c e) hc RZ ho (I.pY x c e);exact⟨_,q,hd⟩
  .exact⟨o,keep c o (I.N? x c e) hc RZ ho (I.pY x c e),hd⟩
 refine⟨I.ok,I.os,hg,⟨λb o e n hb hx=>?_,λb o e n hb hx=>?_,λb o e n hx=>?_,λb o e hx=>?_,λb xs e=>pz b xs (I.base.pz b xs e),λb o xs e=>oM b o xs (I.base.oM b o xs e),λb ps e=>?_⟩,?_,λx c e=>?_,?_,λx c e=>?_,λp hp=>?_,dg,I.len⟩
 .exact keep b o (neL b o e) hb (Vb b o e hx) (I.base.keep b o e n hb hx) (I.base.free b o e n hx)
 .obtain⟨sl,e1⟩:=I.base.slot b o e n hb hx;obtain⟨R5,e2⟩:=slot b _ (neL b o e) hb (Vb b o e hx) e1 (I.base.free b o e n hx);exact⟨R5,e2⟩
 .obtain⟨o',e1⟩:=I.base.there b o e hx;exact free b o' (Vb b o e hx) e1 (I.base.free b o e n hx)
 .obtain⟨o',e1⟩:=I.base.there b o e hx;exact there b o' (Vb b o e hx) e1
 .obtain⟨m1,e1⟩:=I.base.pX b ps e;obtain⟨m2,e2⟩:=pX b _ e1;exact⟨m1++m2,by rw[e2,Array.append_assoc]⟩
 .obtain⟨m,hn,hl⟩:=I.loc;refine⟨m,ns m hn,λi x v e1 e2 e3=>?_⟩;obtain⟨u,r,l⟩:=hl i x v e1 e2 e3;refine⟨u,r,?_⟩;rcases l with l|⟨k,c,e,z⟩
  .exact .inl l
  .exact .inr ⟨k,c,e,cellK x c e _ z⟩
 .obtain⟨v,z⟩:=I.cell x c e;exact⟨v,cellK x c e v z⟩
 .obtain⟨m,⟨o,_,_,ho,_⟩,_⟩:=I.loc;exact free _ o (λz=>(J? _ z).2.1 rfl) ho I.free
 .obtain⟨v,o,ho,hd⟩:=I.cell x c e;exact free c o (λz=>(J? c z).2.2.1 x c e rfl) ho (I.pY x c e)
 .obtain⟨e,n,ne,nf,d⟩:=I.pin p hp;have RZ:p.1 ∉ ch:=λz=>(J? p.1 z).2.2.2 p hp rfl;exact⟨keep p.1 p.2 ne nf RZ e n,free p.1 p.2 RZ e n,ne,nf,d⟩
theorem a9.un{t':Nat}(I:a9 X ae σ H s)(u:Un X.fs [] H H' s.heap h')(dg:kH X.prog X.w H' h'):a9 X ae σ H' {s with heap:=h',toks:=t'}:=by
 obtain⟨m,⟨o,es,ep,ho,r⟩,_⟩:=id I.loc;obtain⟨sl,hL⟩:=u.any ho I.free (by simp);exact I.step (g':=s.gens) (d':=s.drawn) (ch:=[]) (λ_ z=>nomatch z) (λb o _ hb _ e n=>u.keep b o e n hb (by simp)) (λb o _ hb _ e n=>u.slot b o e n hb (by simp)) (λb o _ e n=>u.free b o e n (by simp)) (λb o _ e=>u.there b o e (by simp)) u.pz u.oM u.pX (λm' hm=>by
  obtain⟨o',pU,ep',wZ,r'⟩:=hm;rw[ho]at wZ;cases wZ;exact⟨_,pU,ep',hL,r'⟩) dg I.bare
theorem a9.call{g':Array GenState}{t':Nat}{d':Drawn}(I:a9 X ae σ H s)(u:Un (jP X.stack) ch H H' s.heap h')(dg:kH X.prog X.w H' h')(hg:AllBare g')(J?:∀b∈ch,(b∈X.ex\/X.s₀.heap.objs.size<=b)/\b≠X.env.locals/\(∀x c,X.env.cells.lookup x=some c->c≠b)/\∀p∈X.pn++ae,p.1≠b):
  a9 X ae σ H' {s with heap:=h',gens:=g',drawn:=d',toks:=t'}:=by
 obtain⟨m,⟨o,es,ep,ho,r⟩,_⟩:=id I.loc;obtain⟨sl,hL⟩:=u.any ho I.free λz=>(J? _ z).2.1 rfl;exact I.step (ch:=ch) J? (λb o hL hb hc e n=>u.keep b o e n (λz=>(V_.mp (I.yp b z)).elim hL hb) hc) (λb o _ _ hc e n=>u.any e n hc) (λb o hc e n=>u.free b o e n hc) (λb o hc e=>u.there b o e hc) u.pz u.oM u.pX (λm' hm=>by
  obtain⟨o',pU,ep',wZ,r'⟩:=hm;rw[ho]at wZ;cases wZ;exact⟨_,pU,ep',hL,r'⟩) dg hg
theorem a9.turned{t':Nat}{it:_l}(I:a9 X ae σ H s)(k:∀b o,b≠it->s.heap.get? b=some o->h'.get? b=some o)(hn:H it=none)(hL:it≠X.env.locals)(h1:it∈X.ex\/X.s₀.heap.objs.size<=it)(h2:∀x c,X.env.cells.lookup x=some c->c≠it)(h3:∀p∈X.pn++ae,p.1≠it):a9 X ae σ H {s with heap:=h',toks:=t'}:=by
 have nit:∀b u,H b=some u->b≠it:=λb u e z=>by rw[z,hn]at e;cases e
 refine I.step (g':=s.gens) (d':=s.drawn) (ch:=[it]) (λb hb=>?_) (λb o _ _ hc e _=>k b o (λz=>hc (by simp[z])) e) (λb o _ _ hc e _=>⟨o.slots,k b o (λz=>hc (by simp[z])) e⟩) (λ_ _ _ _ n=>n)
  (λb o hc e=>⟨o,k b o (λz=>hc (by simp[z])) e⟩) (λ_ _ e=>e) (λ_ _ _ e=>e) (λb ps e=>⟨#[],by rw[e];simp⟩) (λm hm=>?_) (λb u e=>?_) I.bare
 .have e:b=it:=by simpa using hb
  subst e;exact⟨h1,hL,h2,h3⟩
 .obtain⟨o,es,ep,ho,r⟩:=hm;exact⟨o,es,ep,k _ o (W5 hL) ho,r⟩
 .refine(I.dg b u e).tK (λc v hc q=>k c v ?_ q) (λ_ q=>q) λ_ _ q=>q;rcases hc with z|z
  .rw[z];exact nit b u e
  .exact nit c _ z
theorem a9.tok(I:a9 X ae σ H s)(t:Nat):a9 X ae σ H {s with toks:=t}:=I.un (h':=s.heap) (t':=t) Un.refl I.dg
theorem a9.kept{t':Nat}(I:a9 X ae σ H s)(k:∀b u,s.heap.get? b=some u->h'.get? b=some u):a9 X ae σ H {s with heap:=h',toks:=t'}:=I.un (Un.kept k) (I.dg.kept k)
theorem a9.laid{a:_l}{o:HO}{t':Nat}(I:a9 X ae σ H s)(k:∀b u,s.heap.get? b=some u->h'.get? b=some u)(hp:s.heap.objs.size<=a)(new:dA X.prog X.w (upd H a o) h' a o):
  a9 X ae σ (upd H a o) {s with heap:=h',toks:=t'}:=I.un (Un.laid k hp (I.dg.fresh hp)) (I.dg.laid k hp new)
theorem a9.write{x e:_l}{o:HO}{t':Nat}(I:a9 X ae σ H s)(mu:RU (H x))(he:e=x\/H e=some (.own x))(k:∀b u,b≠e->s.heap.get? b=some u->h'.get? b=some u)(Rk:∃u,h'.get? e=some u)(new:dA X.prog X.w (upd H x o) h' x o):a9 X ae σ (upd H x o) {s with heap:=h',toks:=t'}:=I.un (Un.write mu he k Rk) (I.dg.write mu he k Rk new)
theorem a9.pZ{M!:_b}(I:a9 X ae σ H s)(h:∀p∈M!,s.heap.get? p.1=some p.2/\H p.1=none/\p.1≠X.env.locals/\p.1 ∉ X.fs/\∀v,p.2.data≠.cell v):a9 X M! σ H s:=
 ⟨I.ok,I.os,I.bare,I.base,I.loc,I.cell,I.free,I.pY,λp hp=>(VP.mp hp).elim (λz=>I.pin p (Wd _ z)) (h p),I.dg,I.len⟩
theorem Ab{N:_i}(hN:N.Nodup){i j:Nat}{x:Str}(a:N[i]?=some x)(b:N[j]?=some x):i=j:=by obtain⟨h1,e1⟩:=VM.mp a;obtain⟨h2,e2⟩:=VM.mp b;exact(Zw hN).mp (e1.trans e2.symm)
theorem xy{M:Model}{A:_m}{E:Z'}{i:Nat}{x:Str}{v:V}{u:_j}{Q:Unit->_k->Prop}(I:a9 X ae σ H s)(hN:X.N.Nodup)(hi:X.N[i]?=some x)(hx:Loc X.env.scope x)(r:bM v u)(h:∀s',a9 X ae (σ.set i (some v)) H s'->(∃a,Heap.SameBut a s.heap s'.heap/\(a=X.env.locals\/X.env.cells.lookup x=some a))->Q () s')(hf:X.fn x=true\/X.env.scope.names.lookup x=some .local:=by first|exact .inl rfl|exact .inr rfl|assumption):wpAny M A (storeName X.env x u) Q E s:=by
 obtain⟨m,hn,hl⟩:=id I.loc;have aaf:(X.env.scope.kind == .class || (X.env.scope.kind == .module&&X.env.locals !=X.env.globals))=false:=by rw[I.ok.kind];rfl
 have R6:i<σ.length:=by rw[I.len];exact(VM.mp hi).1
 have N?:=I.N?;have tracked:∀{a:_l}{h':Heap},(∃o,s.heap.get? a=some o/\H a=none)->Heap.SameBut a s.heap h'->kH X.prog X.w H h':=λ{a h'}ha hs b ob e=>by
  obtain⟨_,_,Df⟩:=ha;refine(I.dg b ob e).tK (λc w' hc q=>(hs.2 c ?_).trans q) (λ_ q=>q) λ_ _ q=>q;rintro rfl;rcases hc with rfl|hc
  .rw[Df]at e;cases e
  .rw[Df]at hc;cases hc
 rcases hx with hk|hk
 .refine wpAny_storeName_local hk hn (λh' N' hs=>?_) aaf;obtain⟨oL,_,_,M?,_⟩:=id hn;refine h _ ⟨I.ok,I.os,I.bare,⟨λb o e n hb hx=>?_,λb o e n hb hx=>?_,I.base.free,λb o e hx=>?_,I.base.pz,I.base.oM,I.base.pX⟩,⟨_,N',λj y v' e1 e2 e3=>?_⟩,λy c e=>?_,I.free,I.pY,λp hp=>?_,tracked ⟨oL,M?,I.free⟩ hs,by simpa using I.len⟩ ⟨_,hs,.inl rfl⟩
  .exact(hs.2 b (V! (VT (VJ e) I.ok.above))).trans (I.base.keep b o e n hb hx)
  .obtain⟨sl,e1⟩:=I.base.slot b o e n hb hx;exact⟨sl,(hs.2 b (V! (VT (VJ e) I.ok.above))).trans e1⟩
  .obtain⟨o',e1⟩:=I.base.there b o e hx;exact⟨o',(hs.2 b (V! (VT (VJ e) I.ok.above))).trans e1⟩
  .by_cases hj:j=i
   .subst hj;rw[hi]at e1;cases e1;rw[WT R6]at e2;cases e2;exact⟨u,r,.inl ⟨hk,by simp⟩⟩
   .rw[Xf (W5 hj)]at e2;obtain⟨u',r',q⟩:=hl j y v' e1 e2 e3;refine⟨u',r',?_⟩;rcases q with⟨k,e⟩|⟨k,c,e,z⟩
    .refine .inl ⟨k,?_⟩;have:y≠x:=λe=>hj (Ab hN e1 (e▸hi));simp[this,e]
    .exact .inr ⟨k,c,e,z.sameBut hs (N? y c e)⟩
  .obtain⟨w',z⟩:=I.cell y c e;exact⟨w',z.sameBut hs (N? y c e)⟩
  .obtain⟨e,n,ne,nf,d⟩:=I.pin p hp;exact⟨(hs.2 p.1 ne).trans e,n,ne,nf,d⟩
 .have hfn:X.fn x=true:=by
   rcases hf with z|z
   .exact z
   .rw[z]at hk;cases hk
  obtain⟨c,hc⟩:=I.ok.has x (.inl hk);obtain⟨w',z⟩:=I.cell x c hc;refine wpAny_storeName_cell I.ok.kind hk hc z (λh' d_ hs=>?_);obtain⟨oc,R7,aag⟩:=id z;refine h {s with heap:=h'} ⟨I.ok,I.os,I.bare,⟨λb o e n hb hx=>?_,λb o e n hb hx=>?_,I.base.free,λb o e hx=>?_,I.base.pz,I.base.oM,I.base.pX⟩,⟨m,hn.sameBut hs (W5 (N? x c hc)),λj y v' e1 e2 e3=>?_⟩,λy c' e=>?_,I.free,I.pY,λp hp=>?_,tracked ⟨oc,R7,I.pY x c hc⟩ hs,by simpa using I.len⟩ ⟨c,hs,.inr hc⟩
  .exact(hs.2 b (V! (VT (VJ e) (I.ok.cab x c hfn hc)))).trans (I.base.keep b o e n hb hx)
  .obtain⟨sl,e1⟩:=I.base.slot b o e n hb hx;exact⟨sl,(hs.2 b (V! (VT (VJ e) (I.ok.cab x c hfn hc)))).trans e1⟩
  .obtain⟨o',e1⟩:=I.base.there b o e hx;exact⟨o',(hs.2 b (V! (VT (VJ e) (I.ok.cab x c hfn hc)))).trans e1⟩
  .by_cases hj:j=i
   .subst hj;rw[hi]at e1;cases e1;rw[WT R6]at e2;cases e2;exact⟨u,r,.inr ⟨.inl hk,c,hc,d_⟩⟩
   .rw[Xf (W5 hj)]at e2;obtain⟨u',r',q⟩:=hl j y v' e1 e2 e3;refine⟨u',r',?_⟩;rcases q with q|⟨k,c',e,z'⟩
    .exact .inl q
    .refine .inr ⟨k,c',e,z'.sameBut hs ?_⟩;rintro rfl;exact hj (Ab hN e1 (I.ok.inj _ _ _ e hc▸hi))
  .by_cases hcc:c'=c
   .subst hcc;exact⟨_,d_⟩
   .obtain⟨w2,z2⟩:=I.cell y c' e;exact⟨w2,z2.sameBut hs hcc⟩
  .obtain⟨e,n,ne,nf,d⟩:=I.pin p hp;refine⟨(hs.2 p.1 ?_).trans e,n,ne,nf,d⟩;intro q;rw[q,R7]at e;have q':oc=p.2:=VU e;exact d w' (by rw[<-q'];exact aag)
theorem uW{M:Model}{A:_m}{E:Z'}{i:Nat}{x:Str}{v:V}{u:_j}{Q:Unit->_k->Prop}(I:a9 X ae σ H s)(hN:X.N.Nodup)(hi:X.N[i]?=some x)(hx:Loc X.env.scope x)(r:bM v u)(h:∀s',a9 X ae (σ.set i (some v)) H s'->Q () s')(hf:X.fn x=true\/X.env.scope.names.lookup x=some .local:=by first|exact .inl rfl|exact .inr rfl|assumption):wpAny M A (storeName X.env x u) Q E s:=
 xy I hN hi hx r (λs' I' _=>h s' I') hf
theorem a9.Dg{s':_k}(I:a9 X ae σ H s)(ho:s'.os=s.os)(u:Un (jP X.stack) ch H H' s.heap s'.heap)(dg:kH X.prog X.w H' s'.heap)(hg:AllBare s'.gens)(J?:∀b∈ch,(b∈X.ex\/X.s₀.heap.objs.size<=b)/\b≠X.env.locals/\(∀x c,X.env.cells.lookup x=some c->c≠b)/\∀p∈X.pn++ae,p.1≠b):a9 X ae σ H' s':=by obtain⟨h',g',d',t',o'⟩:=s';have e:o'=s.os:=ho;subst e;exact I.call (g':=g') (t':=t') (d':=d') u dg hg J?
end
abbrev XK:=_j->Option _l->Hp->Prop
abbrev St:=List (Option V)
abbrev VK:=V->Hp->Prop
abbrev TE:=St->Hp->VK->Prop
abbrev TT:=St->Hp->(Bool->Hp->Prop)->Prop
abbrev TA:=St->Hp->(List V->Hp->Prop)->Prop
structure Ends where
 nx:St->Hp->Prop
 rt:VK
 bk:St->Hp->Prop:=λ_ _=>False
 ct:St->Hp->Prop:=λ_ _=>False
abbrev TS:=Ends->St->Hp->Prop
def EP(X:Cx)(ae:_b)(σ:St)(Q:VK)(u:_j)(s':_k):Prop:=∃v H',a9 X ae σ H' s'/\bM v u/\Q v H'
def TP(X:Cx)(ae:_b)(σ:St)(Q:Bool->Hp->Prop)(b:Bool)(s':_k):Prop:=∃H',a9 X ae σ H' s'/\Q b H'
def AP(X:Cx)(ae:_b)(σ:St)(Q:List V->Hp->Prop)(us:_e)(s':_k):Prop:=∃vs H',a9 X ae σ H' s'/\bt vs us/\Q vs H'
def SP(X:Cx)(ae:_b)(D:Ends)(f:Flow)(s':_k):Prop:=
 match f with
 |.next=>∃σ' H',a9 X ae σ' H' s'/\D.nx σ' H'
 |.brk=>∃σ' H',a9 X ae σ' H' s'/\D.bk σ' H'
 |.cont=>∃σ' H',a9 X ae σ' H' s'/\D.ct σ' H'
 |.ret u=>∃v σ' H',a9 X ae σ' H' s'/\bM v u/\D.rt v H'
def PE(X:Cx)(e:Expr)(t:TE):Prop:=
 ∀(ae:_b)(s:_k)(σ:St)(H:Hp)(Q:VK),a9 X ae σ H s->t σ H Q->wpAny (model X.prog X.w) X.A (eval e X.env) (EP X ae σ Q) X.xe s
def PT(X:Cx)(e:Expr)(t:TT):Prop:=
 ∀(ae:_b)(s:_k)(σ:St)(H:Hp)(Q:Bool->Hp->Prop),a9 X ae σ H s->t σ H Q->wpAny (model X.prog X.w) X.A (isTrue e X.env (eval e X.env)) (TP X ae σ Q) X.xe s
def PW(X:Cx)(e:Expr)(t:TT):Prop:=
 ∀(whole:Sem _j)(ae:_b)(s:_k)(σ:St)(H:Hp)(Q:Bool->Hp->Prop),a9 X ae σ H s->t σ H Q->wpAny (model X.prog X.w) X.A (isTrue e X.env whole) (TP X ae σ Q) X.xe s
theorem PW.pt{X:Cx}{e:Expr}{t:TT}(h:PW X e t):PT X e t:=h _
def PA(X:Cx)(es:List Expr)(t:TA):Prop:=
 ∀(pos:Pos)(ae:_b)(s:_k)(σ:St)(H:Hp)(Q:List V->Hp->Prop),a9 X ae σ H s->t σ H Q->wpAny (model X.prog X.w) X.A (spliced (backTo pos (starEach es X.env))) (AP X ae σ Q) X.xe s
def PS(X:Cx)(st:Stmt)(t:TS):Prop:=
 ∀(ae:_b)(s:_k)(σ:St)(H:Hp)(D:Ends),a9 X ae σ H s->t D σ H->wpAny (model X.prog X.w) X.A (exec st X.env) (SP X ae D) X.xe s
def oV(X:Cx)(st:List Stmt)(t:TS):Prop:=
 ∀(ae:_b)(s:_k)(σ:St)(H:Hp)(D:Ends),a9 X ae σ H s->t D σ H->wpAny (model X.prog X.w) X.A (execs st X.env) (SP X ae D) X.xe s
theorem eJ{t:Sem α}{Q Q':α->_k->Prop}{M:Model}{A:_m}{E:Z'}(h:wpAny M A t Q E s)(hQ:∀a s,Q a s->Q' a s):wpAny M A t Q' E s:=WC h hQ λ_ _ x=>x
section
variable{X:Cx}
def aah(i:Nat):TE:=λσ H Q=>∃v,σ[i]?=some (some v)/\Q v H
def tC(v:V):TE:=λ_ H Q=>Q v H
theorem Oa{i:Nat}{x:Str}{pos:Pos}(hN:X.N[i]?=some x)(hv:RX X.env.scope x)(hd:(x==("__debug__":Str))=false:=by decide)(BD:(x==("__classdict__":Str))=false:=by decide):PE X (.Name x pos) (aah i):=by
 intro ae s σ H Q I h;obtain⟨v,e,h⟩:=h;obtain⟨m,hn,hl⟩:=I.loc;obtain⟨u,r,l⟩:=hl i x v hN e hv;have fin:EP X ae σ Q u s:=⟨v,H,I,r,h⟩
 rcases l with⟨hk,hm⟩|⟨hk,c,hc,Dh⟩
 .exact wpAny_Name (wpAny_loadName_local I.ok.kind hk hn hm fin) hd
 .rcases hk with hk|hk
  .exact wpAny_Name (wpAny_loadName_cell I.ok.kind hk hc Dh fin) hd
  .exact wpAny_Name (wpAny_loadName_free I.ok.kind hk hc Dh fin BD) hd
theorem Ob{i j pos}:PE X (.Constant (.int i) j pos) (tC (.int i)):=λ_ _ _ H _ I h=>wpAny_Constant_int ⟨.int i,H,I.tok _,⟨_,rfl⟩,h⟩
theorem R8{b j pos}:PE X (.Constant (.bool b) j pos) (tC (.bl b)):=λ_ _ _ H _ I h=>Constant_bool ⟨.bl b,H,I,rfl,h⟩
theorem Oc{j pos}:PE X (.Constant .none j pos) (tC .dD):=λ_ _ _ H _ I h=>Constant_none ⟨.dD,H,I,rfl,h⟩
theorem Od{x j pos}:PE X (.Constant (.str x) j pos) (tC (.str x)):=λ_ _ _ H _ I h=>Calls.Constant_str ⟨.str x,H,I.tok _,⟨_,rfl⟩,h⟩
def Gl(X:Cx)(x:Str):Prop:=X.env.kindOf x=some .globalImplicit
theorem yr{E:Z'}{σ:St}{H:Hp}{x:Str}{u:_j}{pos:Pos}{Q:Z'}(I:a9 X ae σ H s)(hg:Gl X x)(hm:X.mg x=some u)(h:Q u s)(hd:(x==("__debug__":Str))=false:=by decide):wpAny (model X.prog X.w) X.A (eval (.Name x pos) X.env) Q E s:=
 ZG I.ok.kind hg (Calls.loadGlobal_global (by rw[I.ok.glob];exact I.mod.glob.keeps I.bk) hm h) hd
theorem kI{E:Z'}{σ:St}{H:Hp}{x:Str}{u:_j}{pos:Pos}{Q:Z'}(I:a9 X ae σ H s)(hg:Gl X x)(hm:X.mg x=none)(hv:bootBuiltins x=some u)(h:Q u s)(hn:x ≠ "__name__":=by decide)(hd:(x==("__debug__":Str))=false:=by decide):wpAny (model X.prog X.w) X.A (eval (.Name x pos) X.env) Q E s:=by obtain⟨mb,h1,h2⟩:=I.mod.blt;exact ZG I.ok.kind hg (Calls.loadGlobal_builtin (by rw[I.ok.glob];exact I.mod.glob.keeps I.bk) hm (by rw[I.ok.blt];exact h1.keeps I.bk) ((h2 x hn).trans hv) h) hd
theorem Kl{x:Str}{v:V}{u:_j}{pos:Pos}(hg:Gl X x)(hm:X.mg x=some u)(r:bM v u)(hd:(x==("__debug__":Str))=false:=by decide):PE X (.Name x pos) (tC v):=
 λ_ _ _ H _ I h=>yr I hg hm ⟨v,H,I,r,h⟩ hd
theorem Km{x:Str}{v:V}{u:_j}{pos:Pos}(hg:Gl X x)(hm:X.mg x=none)(hv:bootBuiltins x=some u)(r:bM v u)(hn:x ≠ "__name__":=by decide)(hd:(x==("__debug__":Str))=false:=by decide):PE X (.Name x pos) (tC v):=
 λ_ _ _ H _ I h=>kI I hg hm hv ⟨v,H,I,r,h⟩ hn hd
variable{a b:Expr}{ta tb:TE}{pos:Pos}
def PC(X:Cx)(op:CmpOp)(a b:Expr)(t:TE):Prop:=
 ∀(ae:_b)(s:_k)(σ:St)(H:Hp)(Q:VK),a9 X ae σ H s->t σ H Q ->
  wpAny (model X.prog X.w) X.A (eval a X.env) (λv s₁=>wpAny (model X.prog X.w) X.A (eval b X.env) (λu s₂=>wpAny (model X.prog X.w) X.A (compareOp op v u) (EP X ae σ Q) X.xe s₂) X.xe s₁) X.xe s
def tB(t:TE):TT:=λσ H Q=>t σ H λx H1=>∃c,x=.bl c/\Q c H1
theorem Oe{e:Expr}{t:TE}(h:PE X e t)(he:∀whole,isTrue e X.env whole=(do let v <- whole;standAt e.pos;holding [v] (truthy v)):=by intro _;rfl):PT X e (tB t):=by intro ae s σ H Q I hw;refine isTrue_plain (eJ (h ae s σ H _ I hw) λv s1⟨x,H1,I1,r1,q1⟩=>?_) (he _);obtain⟨d,rfl,q⟩:=q1;cases r1;exact Xy ⟨H1,I1,q⟩
variable{tA Kn:TT}
def aai(t u:TT):TT:=λσ H Q=>t σ H λc H1=>if c=true then u σ H1 Q else Q false H1
def tOr(t u:TT):TT:=λσ H Q=>t σ H λc H1=>if c=true then Q true H1 else u σ H1 Q
def aaj(t:TT):TT:=λσ H Q=>t σ H λc H1=>Q (!c) H1
theorem Ko(ha:PT X a tA):PW X (.BoolOp .And [a] pos) tA:=by
 intro wh ae s σ H Q I h;refine isTrue_and (eJ (ha ae s σ H Q I h) λc s1 e=>?_);cases c with
 |true=>exact isTrue_and_nil e
 |false=>exact e
theorem Of(ha:PT X a tA):PW X (.BoolOp .Or [a] pos) tA:=by
 intro wh ae s σ H Q I h;refine isTrue_or (eJ (ha ae s σ H Q I h) λc s1 e=>?_);cases c with
 |false=>exact isTrue_or_nil e
 |true=>exact e
theorem Og(ha:PT X a tA)(hb:PW X (.BoolOp .And (b::rest) pos) Kn):PW X (.BoolOp .And (a::b::rest) pos) (aai tA Kn):=by
 intro wh ae s σ H Q I h;refine isTrue_and (eJ (ha ae s σ H _ I h) λc s1⟨H1,I1,q1⟩=>?_);cases c with
 |true=>exact hb wh ae s1 σ H1 Q I1 q1
 |false=>exact⟨H1,I1,q1⟩
theorem R9(ha:PT X a tA)(hb:PW X (.BoolOp .Or (b::rest) pos) Kn):PW X (.BoolOp .Or (a::b::rest) pos) (tOr tA Kn):=by
 intro wh ae s σ H Q I h;refine isTrue_or (eJ (ha ae s σ H _ I h) λc s1⟨H1,I1,q1⟩=>?_);cases c with
 |true=>exact⟨H1,I1,q1⟩
 |false=>exact hb wh ae s1 σ H1 Q I1 q1
theorem Oh(ha:PT X a tA):PT X (.UnaryOp .Not a pos) (aaj tA):=by intro ae s σ H Q I h;exact isTrue_not (ha ae s σ H (λc H1=>Q (!c) H1) I h)
def R_(ta tb:TE):TE:=λσ H Q=>ta σ H λx H1=>∃c,x=.bl c/\if c=true then tb σ H1 Q else Q (.bl false) H1
def aak(ta tb:TE):TE:=λσ H Q=>ta σ H λx H1=>∃c,x=.bl c/\if c=true then Q (.bl true) H1 else tb σ H1 Q
def R!(ta:TE):TE:=λσ H Q=>ta σ H λx H1=>∃c,x=.bl c/\Q (.bl (!c)) H1
theorem Oi{op}{t:TE}(h:PE X a t):PE X (.BoolOp op [a] pos) t:=λae s σ H Q I hw=>BoolOp_one (h ae s σ H Q I hw)
theorem Oj(ha:PE X a ta)(hb:PE X (.BoolOp .And (b::rest) pos) tb):PE X (.BoolOp .And (a::b::rest) pos) (R_ ta tb):=by
 intro ae s σ H Q I h;refine BoolOp_and (eJ (ha ae s σ H _ I h) λv s1⟨x,H1,I1,r1,q1⟩=>?_);obtain⟨c,rfl,q1⟩:=q1;cases r1;refine Xy ?_;cases c with
 |true=>exact hb ae s1 σ H1 Q I1 q1
 |false=>exact⟨.bl false,H1,I1,rfl,q1⟩
theorem R?(ha:PE X a ta)(hb:PE X (.BoolOp .Or (b::rest) pos) tb):PE X (.BoolOp .Or (a::b::rest) pos) (aak ta tb):=by
 intro ae s σ H Q I h;refine BoolOp_or (eJ (ha ae s σ H _ I h) λv s1⟨x,H1,I1,r1,q1⟩=>?_);obtain⟨c,rfl,q1⟩:=q1;cases r1;refine Xy ?_;cases c with
 |false=>exact hb ae s1 σ H1 Q I1 q1
 |true=>exact⟨.bl true,H1,I1,rfl,q1⟩
theorem Ol(ha:PE X a ta):PE X (.UnaryOp .Not a pos) (R! ta):=by intro ae s σ H Q I h;refine UnaryOp_ (eJ (ha ae s σ H _ I h) λv s1⟨x,H1,I1,r1,q1⟩=>?_);obtain⟨c,rfl,q1⟩:=q1;cases r1;exact not_of (Xy ⟨.bl (!c),H1,I1,rfl,q1⟩)
def tIf(t:TT)(ta tb:TE):TE:=λσ H Q=>t σ H λc H1=>if c=true then ta σ H1 Q else tb σ H1 Q
theorem GJ{c:Expr}(hc:PT X c tA)(ha:PE X a ta)(hb:PE X b tb):PE X (.IfExp c a b pos) (tIf tA ta tb):=by
 intro ae s σ H Q I h;refine wpAny_IfExp (eJ (hc ae s σ H _ I h) λd s1⟨H1,I1,q1⟩=>?_);cases d with
 |true=>exact ha ae s1 σ H1 Q I1 q1
 |false=>exact hb ae s1 σ H1 Q I1 q1
end
def oy(K:_c)(H:Hp)(a:_l)(xs:List V):Prop:=
 Rd H a (.lst xs) \/
  ∃(o:Obj)(aN:Array _j)(n:Nat),K.lookup a=some o/\o.cls=.type "list" /\ o.dict=none/\o.data=.seq aN n/\aN.size<=sizeLine/\bt xs aN.toList
def oW(K:_c)(H:Hp)(a:_l)(xs:List V):Prop:=
 Rd H a (.tup xs) \/
  ∃(o:Obj)(aN:Array _j)(n:Nat),K.lookup a=some o/\o.cls=.type "tuple" /\ o.data=.seq aN n/\aN.size<=sizeLine/\bt xs aN.toList
def aal:_j->Option V
 |.none=>some .dD
 |.bool b=>some (.bl b)
 |.int i _=>some (.int i)
 |.str x _=>some (.str x)
 |.bytes b _=>some (.byt b)
 |.float b _=>some (.uq b)
 |.ref a=>some (.ref a)
 |.type n=>some (.ty n)
 |_=>none
theorem bM.abs{x:V}{u:_j}(r:bM x u):aal u=some x:=by
 cases x with
 |dD=>cases r;rfl
 |bl _=>cases r;rfl
 |int _=>obtain⟨t,rfl⟩:=r;rfl
 |str _=>obtain⟨t,rfl⟩:=r;rfl
 |byt _=>obtain⟨t,rfl⟩:=r;rfl
 |uq _=>obtain⟨t,rfl⟩:=r;rfl
 |ref _=>cases r;rfl
 |ty _=>cases r;rfl
theorem bM.inj{x y:V}{u:_j}(r:bM x u)(q:bM y u):x=y:=VU (r.abs.symm.trans q.abs)
theorem bt.inj{xs ys:List V}{us:_e}(p:bt xs us)(q:bt ys us):xs=ys:=by
 induction p generalizing ys with
 |nil=>cases q;rfl
 |cons r t ih=>
  cases q with
  |cons r' t'=>rw[r.inj r',ih t']
section
variable{X:Cx}{σ:St}{H:Hp}{a:_l}{xs ys:List V}
theorem oy.of{K:_c}(h:H a=some (.lst xs)):oy K H a xs:=.inl (.inl h)
theorem oW.of{K:_c}(h:H a=some (.tup xs)):oW K H a xs:=.inl (.inl h)
theorem a9.list(I:a9 X ae σ H s)(h:oy X.K H a xs):∃aN:_e,bt xs aN/\PlainL s.heap a aN.toArray/\xs.length<=sizeLine:=by
 rcases h with h|⟨o,aN,n,hk,hc,hd,hs,hz,r⟩
 .obtain⟨z,aN,n,r,e⟩:=h.ok I.dg;exact⟨aN,r,⟨_,n,e,rfl,rfl,rfl⟩,z⟩
 .refine⟨aN.toList,r,⟨o,n,I.zW a o hk,hc,hd,by simpa using hs⟩,?_⟩;have e:=r.length;simp only[V9]at e;lia
theorem a9.tuple(I:a9 X ae σ H s)(h:oW X.K H a xs):∃aN:_e,bt xs aN/\IsTup s.heap a aN.toArray/\xs.length<=sizeLine:=by
 rcases h with h|⟨o,aN,n,hk,hc,hs,hz,r⟩
 .obtain⟨z,aN,r,p⟩:=h.ok I.dg;exact⟨aN,r,p,z⟩
 .refine⟨aN.toList,r,⟨o,I.zW a o hk,hc,n,by simpa using hs⟩,?_⟩;have e:=r.length;simp only[V9]at e;lia
theorem a9.p4(I:a9 X ae σ H s)(h:oy X.K H a xs)(h':oy X.K H a ys):xs=ys:=by
 obtain⟨aN,r,⟨o,n,e,_,_,d⟩,_⟩:=I.list h;obtain⟨its',r',⟨o',n',e',_,_,d'⟩,_⟩:=I.list h';rw[e]at e';cases e';rw[d]at d';injection d' with d1 _;have:aN=its':=by simpa using WR Array.toList d1
 subst this;exact r.inj r'
theorem a9.q!(I:a9 X ae σ H s)(h:oW X.K H a xs)(h':oW X.K H a ys):xs=ys:=by
 obtain⟨aN,r,⟨o,e,_,n,d⟩,_⟩:=I.tuple h;obtain⟨its',r',⟨o',e',_,n',d'⟩,_⟩:=I.tuple h';rw[e]at e';cases e';rw[d]at d';injection d' with d1 _;have:aN=its':=by simpa using WR Array.toList d1
 subst this;exact r.inj r'
end
section
variable{X:Cx}{st:Stmt}{rest:List Stmt}{t u:TS}{e:Expr}{te:TE}{pos:Pos}
def Sa:TS:=λD σ H=>D.nx σ H
def aam(t u:TS):TS:=λD σ H=>t {D with nx:=u D} σ H
theorem Kp:oV X [] Sa:=λ_ _ σ H _ I h=>Yz ⟨σ,H,I,h⟩
theorem GK(h1:PS X st t)(h2:oV X rest u):oV X (st::rest) (aam t u):=by
 intro ae s σ H D I h;refine wpAny_execs_cons (eJ (h1 ae s σ H {D with nx:=u D} I h) λf s1 q=>?_);cases f with
 |next=>
  obtain⟨σ',H',I',q⟩:=q;exact h2 ae s1 σ' H' D I' q
 |ret v=>exact q
 |brk=>exact q
 |cont=>exact q
theorem Kq(h1:PS X st t):oV X [st] t:=by
 intro ae s σ H D I h;refine wpAny_execs_cons (eJ (h1 ae s σ H D I h) λf s1 q=>?_);cases f with
 |next=>exact Yz q
 |ret v=>exact q
 |brk=>exact q
 |cont=>exact q
theorem a9.quiet{σ:St}{H:Hp}(I:a9 X ae σ H s):interactive X.env=false:=by simp[interactive,I.ok.kind]
def Sb(te:TE):TS:=λD σ H=>te σ H λ_ H1=>D.nx σ H1
theorem Kr(he:PE X e te)(hs:swapsWith e none pos.line X.env=pure false:=by rfl):PS X (.Expr e pos) (Sb te):=by intro ae s σ H D I h;exact wpAny_Expr_any (eJ (he ae s σ H _ I h) λv s1⟨x,H1,I1,r1,q1⟩=>⟨σ,H1,I1,q1⟩) I.quiet hs
def aan(te:TE):TS:=λD σ H=>te σ H D.rt
theorem Om(he:PE X e te):PS X (.Return (some e) pos) (aan te):=by intro ae s σ H D I h;exact wpAny_Return_some (eJ (he ae s σ H _ I h) λv s1⟨x,H1,I1,r1,q1⟩=>⟨x,σ,H1,I1,r1,q1⟩)
def aao(c:TT)(t u:TS):TS:=λD σ H=>c σ H λb H1=>if b=true then t D σ H1 else u D σ H1
theorem Sd{c:Expr}{a b:List Stmt}{tc:TT}(hc:PT X c tc)(ha:oV X a t)(hb:oV X b u):PS X (.If c a b pos) (aao tc t u):=by
 intro ae s σ H D I h;refine wpAny_If (eJ (hc ae s σ H _ I h) λd s1⟨H1,I1,q1⟩=>?_);cases d with
 |true=>exact ha ae s1 σ H1 D I1 q1
 |false=>exact hb ae s1 σ H1 D I1 q1
end
abbrev TG:=V->St->Hp->(St->Hp->Prop)->Prop
abbrev Kt:=List V->St->Hp->(St->Hp->Prop)->Prop
def PG(X:Cx)(target:Expr)(t:TG):Prop:=
 ∀(ae:_b)(s:_k)(σ:St)(H:Hp)(v:V)(u:_j)(Q:St->Hp->Prop),a9 X ae σ H s->bM v u->t v σ H Q ->
  wpAny (model X.prog X.w) X.A (assign target X.env u) (λ_ s'=>∃σ' H',a9 X ae σ' H' s'/\Q σ' H') X.xe s
def BE(X:Cx)(ts:List Expr)(t:Kt):Prop:=
 ∀(ae:_b)(s:_k)(σ:St)(H:Hp)(vs:List V)(us:_e)(Q:St->Hp->Prop),a9 X ae σ H s->bt vs us->t vs σ H Q ->
  wpAny (model X.prog X.w) X.A (assignInOrder ((assignEach ts X.env).map (·.2)) us) (λ_ s'=>∃σ' H',a9 X ae σ' H' s'/\Q σ' H') X.xe s
abbrev GL:=V->V->V->Hp->(Hp->Prop)->Prop
def Oo(X:Cx)(t:GL):Prop:=
 ∀(ae:_b)(s:_k)(σ:St)(H:Hp)(o i v:V)(ov iv u:_j)(Q:Hp->Prop),a9 X ae σ H s->bM o ov->bM i iv->bM v u->t o i v H Q ->
  wpAny (model X.prog X.w) X.A (setItem ov iv u) (λ_ s'=>∃H',a9 X ae σ H' s'/\Q H') X.xe s
abbrev Se:=V->V->Hp->VK->Prop
def PIp(X:Cx)(op:Operator)(t:Se):Prop:=
 ∀(ae:_b)(s:_k)(σ:St)(H:Hp)(x y:V)(v u:_j)(Q:VK),a9 X ae σ H s->bM x v->bM y u->t x y H Q ->
  wpAny (model X.prog X.w) X.A (inplaceOp op v u) (EP X ae σ Q) X.xe s
section
variable{X:Cx}{pos:Pos}
def Ac(i:Nat):TG:=λv σ H Q=>Q (σ.set i (some v)) H
theorem Ku{i:Nat}{x:Str}(hN:X.N.Nodup)(hi:X.N[i]?=some x)(hx:Loc X.env.scope x)(hf:X.fn x=true\/X.env.scope.names.lookup x=some .local:=by first|exact .inl rfl|exact .inr rfl|assumption):PG X (.Name x pos) (Ac i):=by intro ae s σ H v u Q I r h;exact wpAny_assign_Name (uW I hN hi hx r (λs' I'=>⟨_,H,I',h⟩) hf)
def aap:Kt:=λvs σ H Q=>vs=[]/\Q σ H
def Sf(t:TG)(u:Kt):Kt:=λvs σ H Q=>∃v r,vs=v::r/\t v σ H λσ' H'=>u r σ' H' Q
theorem Kv:BE X [] aap:=by intro ae s σ H vs us Q I r h;obtain⟨e,h⟩:=h;subst e;cases r;exact assignInOrder_nil ⟨σ,H,I,h⟩
theorem GN{e:Expr}{t:TG}{u:Kt}(h1:PG X e t)(h2:BE X es u)(hs:(assignEach (e::es) X.env).map (·.2)=assign e X.env::(assignEach es X.env).map (·.2):=by rfl):BE X (e::es) (Sf t u):=by
 intro ae s σ H vs us Q I r h;obtain⟨v,vr,e1,h⟩:=h;subst e1;cases r with
 |cons r rr=>
  rw[hs];refine assignInOrder_cons (eJ (h1 ae s σ H _ _ _ I r h) λ_ s1⟨σ1,H1,I1,q1⟩=>?_);exact h2 ae s1 σ1 H1 _ _ Q I1 rr q1
def aaq(K:_c)(n:Nat)(t:Kt):TG:=λv σ H Q=>∃a xs,v=.ref a/\oW K H a xs/\xs.length=n/\t xs σ H Q
theorem Oq{k:Nat}{t:Kt}{n:Nat}(hc:X.calm=true)(h:BE X es t)(hn:(assignEach es X.env).length=n:=by rfl)(yt:(assignEach es X.env).findIdx? (·.1)=none:=by rfl):PG X (.Tuple es k pos) (aaq X.K n t):=by intro ae s σ H v u Q I r hw;obtain⟨a,xs,e1,hq,hl,hw⟩:=hw;subst e1;cases r;obtain⟨aN,rv,ht,hz⟩:=I.tuple hq;refine assign_Tuple_tuple (I.ok.hd hc) ht (by simp[hn,<-hl,rv.length]) yt λh' hx=>?_;have I1:a9 X ae σ H {s with heap:=h'}:=I.kept (t':=s.toks) λb o e=>hx b o (V! (VJ e)) e;exact h ae _ σ H xs _ Q I1 (by simpa using rv) hw
def aar(to ti:TE)(t:GL):TG:=λv σ H Q=>to σ H λo H1=>ti σ H1 λi H2=>t o i v H2 λH3=>Q σ H3
theorem Ot{i:Expr}{to ti:TE}{t:GL}(ho:PE X o to)(hi:PE X i ti)(hs:Oo X t)
  (ha:∀ v,assign (.Subscript o i pos) X.env v=(do
   let ov <- holding [v] (eval o X.env)
   let iv <- holding [v,ov] (eval i X.env)
   standAt pos
   holding [v,ov,iv] (setItem ov iv v)
   release [v,ov,iv] []):=by intro _;rfl):PG X (.Subscript o i pos) (aar to ti t):=by
 intro ae s σ H v u Q I r h;rw[ha];refine Vk (Xv (eJ (ho ae s σ H _ I h) λov s1⟨x,H1,I1,r1,q1⟩=>?_));refine Vk (Xv (eJ (hi ae s1 σ H1 _ I1 q1) λiv s2⟨y,H2,I2,r2,q2⟩=>?_));refine Vk (YT (Vk (Xv (eJ (hs ae s2 σ H2 x y v ov iv u _ I2 r1 r2 r q2) λ_ s3⟨H3,I3,q3⟩=>?_))));exact wpAny_release ⟨σ,H3,I3,q3⟩
def Kw(te:TE)(g:TG):TS:=λD σ H=>te σ H λx H1=>g x σ H1 D.nx
theorem Ou{e:Expr}{te:TE}{g:TG}(he:PE X e te)(hg:PG X tg g)(hs:swapsWithSole [tg] e pos.line X.env=pure false:=by rfl)(hw:swappedStores [tg] e X.env=pure none:=by rfl)(h1:(assignEach [tg] X.env).map (·.2)=[assign tg X.env]:=by rfl):PS X (.Assign [tg] e pos) (Kw te g):=by intro ae s σ H D I h;refine wpAny_Assign_stores (eJ (he ae s σ H _ I h) λv s1⟨x,H1,I1,r1,q1⟩=>?_) hs hw;rw[h1];exact eJ (hg ae s1 σ H1 x v _ I1 r1 q1) λ_ s2 q=>q
theorem Ow{i:Nat}{x:Str}{e:Expr}{te:TE}(hN:X.N.Nodup)(hi:X.N[i]?=some x)(hx:Loc X.env.scope x)(he:PE X e te)(hs:swapsWith e (some (.Name x pos')) pos.line X.env=pure false:=by rfl)(hf:X.fn x=true\/X.env.scope.names.lookup x=some .local:=by first|exact .inl rfl|exact .inr rfl|assumption):
  PS X (.Assign [.Name x pos'] e pos) (Kw te (Ac i)):=by
 intro ae s σ H D I h;refine wpAny_Assign_Name (eJ (he ae s σ H _ I h) λv s1⟨y,H1,I1,r1,q1⟩=>?_) hs;exact uW I1 hN hi hx r1 (λs2 I2=>⟨_,H1,I2,q1⟩) hf
def aas(i:Nat)(te:TE)(ti:Se):TS:=λD σ H=>∃x,σ[i]?=some (some x)/\te σ H λy H1=>ti x y H1 λz H2=>D.nx (σ.set i (some z)) H2
theorem Ox{i:Nat}{x:Str}{e:Expr}{te:TE}{op:Operator}{ti:Se}(hN:X.N.Nodup)(hi:X.N[i]?=some x)(hx:Loc X.env.scope x)(he:PE X e te)(ho:PIp X op ti)(hf:X.fn x=true\/X.env.scope.names.lookup x=some .local:=by first|exact .inl rfl|exact .inr rfl|assumption):
  PS X (.AugAssign (.Name x pos') op e pos) (aas i te ti):=by
 intro ae s σ H D I h;obtain⟨v,e1,h⟩:=h;obtain⟨m,hn,hl⟩:=I.loc;have vis:RX X.env.scope x:=by rcases hx with k|k;exact .inl k;exact .inr (.inl k)
 obtain⟨u,r,l⟩:=hl i x v hi e1 vis;refine wpAny_AugAssign_Name ?_;have go:wpAny (model X.prog X.w) X.A (eval e X.env) (λw s₂=>wpAny (model X.prog X.w) X.A (inplaceOp op u w) (λr s₃=>wpAny (model X.prog X.w) X.A (storeName X.env x r) (λ_=>SP X ae D .next) X.xe s₃) X.xe s₂) X.xe s:=by refine eJ (he ae s σ H _ I h) λw s1⟨y,H1,I1,r1,q1⟩=>?_;refine eJ (ho ae s1 σ H1 v y u w _ I1 r r1 q1) λz s2⟨zv,H2,I2,r2,q2⟩=>?_;exact uW I2 hN hi hx r2 (λs3 I3=>⟨_,H2,I3,q2⟩) hf
 rcases l with⟨hk,hm⟩|⟨hk,c,hc,Dh⟩
 .exact wpAny_loadName_local I.ok.kind hk hn hm go
 .rcases hk with hk|hk
  .exact wpAny_loadName_cell I.ok.kind hk hc Dh go
  .rcases hx with k|k
   .have:X.env.scope.names.lookup x=some .free:=hk;rw[k]at this;cases this
   .have:X.env.scope.names.lookup x=some .free:=hk;rw[k]at this;cases this
def Sg(to ti te:TE)(Kx:V->V->Hp->VK->Prop)(Vc:Se)(Ky:GL):TS:=λD σ H=>to σ H λo H1=>ti σ H1 λi H2=>Kx o i H2 λx H3=>te σ H3 λy H4=>Vc x y H4 λz H5=>Ky o i z H5 λH6=>D.nx σ H6
def Sh(X:Cx)(t:V->V->Hp->VK->Prop):Prop:=
 ∀(ae:_b)(s:_k)(σ:St)(H:Hp)(o i:V)(ov iv:_j)(Q:VK),a9 X ae σ H s->bM o ov->bM i iv->t o i H Q ->
  wpAny (model X.prog X.w) X.A (getItem ov iv) (EP X ae σ Q) X.xe s
theorem Kz{i e:Expr}{to ti te:TE}{Kx:V->V->Hp->VK->Prop}{Vc:Se}{Ky:GL}{op:Operator}(ho:PE X o to)(hi:PE X i ti)(hg:Sh X Kx)(he:PE X e te)(hp:PIp X op Vc)(hs:Oo X Ky)(ha:∀ov iv new,augStore i ov iv new=(do holding [new,ov,iv] (setItem ov iv new);release [new,ov,iv] [];pure .next):=by intros;rfl):PS X (.AugAssign (.Subscript o i p5) op e pos) (Sg to ti te Kx Vc Ky):=by intro ae s σ H D I h;refine wpAny_AugAssign_SubscriptAny (eJ (ho ae s σ H _ I h) λov s1⟨x1,H1,I1,r1,q1⟩=>?_) ha;refine eJ (hi ae s1 σ H1 _ I1 q1) λiv s2⟨x2,H2,I2,r2,q2⟩=>?_;refine eJ (hg ae s2 σ H2 x1 x2 ov iv _ I2 r1 r2 q2) λold s3⟨x3,H3,I3,r3,q3⟩=>?_;refine eJ (he ae s3 σ H3 _ I3 q3) λv s4⟨x4,H4,I4,r4,q4⟩=>?_;refine eJ (hp ae s4 σ H4 x3 x4 old v _ I4 r3 r4 q4) λnew s5⟨x5,H5,I5,r5,q5⟩=>?_;exact eJ (hs ae s5 σ H5 x1 x2 x5 ov iv new _ I5 r1 r2 r5 q5) λ_ s6⟨H6,I6,q6⟩=>⟨σ,H6,I6,q6⟩
end
section
variable{X:Cx}{pos:Pos}
def Oy(c:TT)(tb:TS):TS:=λD σ H=>∃W:Nat->St->Hp->Prop,(∃m,W m σ H)/\∀m σ H,W m σ H ->
 c σ H λb H1=>if b=true then ∃N:St->Hp->Prop,(∀σ' H',N σ' H'->∃m',m'<m/\W m' σ' H')/\tb {D with nx:=N,ct:=N,bk:=D.nx} σ H1 else D.nx σ H1
theorem GO{c:Expr}{body:List Stmt}{tc:TT}{tb:TS}(hp:PassesOwn (model X.prog X.w) X.A X.env X.xe)(hc:PT X c tc)(hb:oV X body tb):PS X (.While c body [] pos) (Oy tc tb):=by
 intro ae s σ H D I h;obtain⟨W,⟨m0,w0⟩,turn⟩:=h;refine wpAny_While (codeAny_whileLoop (λn s'=>∃σ' H',a9 X ae σ' H' s'/\W n σ' H') ?_ m0 ⟨σ,H,I,w0⟩);rintro n s1 ⟨σ1,H1,I1,w1⟩;refine Xr hp (eJ (hc ae s1 σ1 H1 _ I1 (turn n σ1 H1 w1)) λb s2⟨H2,I2,q2⟩=>?_);cases b with
 |true=>
  obtain⟨N,hN,q2⟩:=q2;rw[Vs rfl];refine Xr hp (eJ (hb ae s2 σ1 H2 _ I2 q2) λf s3 q3=>?_);cases f with
  |next=>
   obtain⟨σ3,H3,I3,n3⟩:=q3;obtain⟨m',hm,w3⟩:=hN σ3 H3 n3;exact⟨m',hm,σ3,H3,I3,w3⟩
  |cont=>
   obtain⟨σ3,H3,I3,n3⟩:=q3;obtain⟨m',hm,w3⟩:=hN σ3 H3 n3;exact⟨m',hm,σ3,H3,I3,w3⟩
  |brk=>exact q3
  |ret v=>exact q3
 |false=>
  rw[VE VY];exact Yz ⟨σ1,H2,I2,q2⟩
end
structure It where
 go:Nat->Hp->Prop
 Rm:Nat->Hp->V->Hp->Prop
 stop:Nat->Hp->Prop
def kJ(X:Cx)(ae:_b)(H:Hp)(b:_l):Prop:=
 H b=none/\b≠X.env.locals/\b ∉ X.fs/\(b∈X.ex\/X.s₀.heap.objs.size<=b)/\(∀x c,X.env.cells.lookup x=some c->c≠b)/\∀p∈X.pn++ae,p.1≠b
theorem a9.Ad{X:Cx}{σ:St}{H H':Hp}{b:_l}(I:a9 X ae σ H s)(hb:s.heap.objs.size<=b)(hn:H' b=none):kJ X ae H' b:=by
 refine⟨hn,W? (VT I.lt hb),I.aae hb,.inr (Wg I.sz hb),λx c e z=>?_,λp hp z=>?_⟩
 .obtain⟨v,q⟩:=I.cell x c e;exact absurd (VT q.lt (by rw[z];exact hb)) (Wm _)
 .exact absurd (VT (VJ (I.pin p hp).1) (by rw[z];exact hb)) (Wm _)
structure Turn(P:_n)(w:World)(K:_c)(tg:Expr)(J:It)(fp:_h)(it:_l)(tn:Nat->Heap->Prop):Prop where
 mem:it∈fp
 obj:∀i h,tn i h->∀b∈fp,∃o,h.get? b=some o/\∀v,o.data≠.cell v
 keep:∀i h h',tn i h->(∀b∈fp,∀o,h.get? b=some o->h'.get? b=some o)->tn i h'
 item:∀(X:Cx),X.prog=P->X.w=w->X.K=K->X.calm=true->∀(i:Nat)(ae:_b)(s:_k)(σ:St)(H:Hp)(E:Z'),a9 X ae σ H s->(∀b∈fp,kJ X ae H b)->tn i s.heap->J.go i H ->
  wpAny (model P w) X.A (pyNext (.ref it)) (λr s1=>∃u,r=some u /\
   wpAny (model P w) X.A (letOwnedTupleGo tg (.ref it) u) (λ_ s2=>∃x H',a9 X ae σ H' s2/\bM x u/\J.Rm i H x H'/\tn (i+1) s2.heap/\∀b∈fp,H' b=none) E s1) E s
 done:∀(X:Cx),X.prog=P->X.w=w->X.K=K->X.calm=true->∀(i:Nat)(ae:_b)(s:_k)(σ:St)(H:Hp)(E:Z'),a9 X ae σ H s->(∀b∈fp,kJ X ae H b)->tn i s.heap->J.stop i H ->
  wpAny (model P w) X.A (pyNext (.ref it)) (λr s1=>r=none/\a9 X ae σ H s1) E s
 self:∀(A:_m)(i:Nat)(s:_k)(Q:Z')(E:Z'),tn i s.heap->Q (.ref it) s->wpAny (model P w) A (pyIter (.ref it)) Q E s
abbrev TI:=St->Hp->(It->Hp->Prop)->Prop
def PIE(X:Cx)(ae:_b)(σ:St)(tg:Expr)(R:It->Hp->Prop)(Vd:_j)(s2:_k):Prop:=
 ∃(it:_l)(fp:_h)(tn:Nat->Heap->Prop)(J:It)(H':Hp),Vd=.ref it/\a9 X ae σ H' s2/\Turn X.prog X.w X.K tg J fp it tn/\tn 0 s2.heap/\(∀b∈fp,kJ X ae H' b)/\R J H'
def PI(X:Cx)(tg iter:Expr)(wi:TI):Prop:=
 ∀(ae:_b)(s:_k)(σ:St)(H:Hp)(R:It->Hp->Prop),a9 X ae σ H s->wi σ H R ->
  wpAny (model X.prog X.w) X.A (eval iter X.env) (λv s1=>wpAny (model X.prog X.w) X.A (pyIter v) (PIE X ae σ tg R) X.xe s1) X.xe s
theorem Di{M:Model}{A:_m}{E:Z'}{it:_l}{u:_j}{o:Obj}{n:String}{vs:Array _j}{Q:Unit->_k->Prop}(ho:s.heap.get? it=some o)(hc:o.cls=.type n)(hd:o.data=.fields vs)(hn:["enumerate","zip","dict_itemiterator","dict_reverseitemiterator","odict_iterator","itertools.zip_longest","itertools.pairwise"].contains n=false)(hQ:Q () s):wpAny M A (letOwnedTupleGo tg (.ref it) u) Q E s:=by
  unfold letOwnedTupleGo;cases tg<;>first
    |exact VF hQ
    |(cases u<;>first
        |exact VF hQ
        | (refine Vk (wpAny_load ho ?_)
           rw[hc,hd];show wpAny M A (if(["enumerate","zip","dict_itemiterator","dict_reverseitemiterator","odict_iterator","itertools.zip_longest","itertools.pairwise"].contains n&&vs[0]?==some (rawInt _))=true then _ else _) Q E s;rw[VE (by intro h;rw[hn,Y!]at h;cases h)];exact VF hQ))
def Itl(K:_c)(a:_l):It:=
 ⟨λi H=>∃xs x,oy K H a xs/\xs[i]?=some x,λi H x H'=>H'=H/\∀xs,oy K H a xs->xs[i]?=some x,λi H=>∃xs,oy K H a xs/\xs.length<=i⟩
def Itt(K:_c)(a:_l):It:=
 ⟨λi H=>∃xs x,oW K H a xs/\xs[i]?=some x,λi H x H'=>H'=H/\∀xs,oW K H a xs->xs[i]?=some x,λi H=>∃xs,oW K H a xs/\xs.length<=i⟩
def Si(lo:Int)(n:Nat):It:=⟨λi _=>i<n,λi H x H'=>H'=H/\x=.int (lo+i),λi _=>n<=i⟩
theorem EF{w:World}{K:_c}(a it:_l):Turn P w K tg (Itl K a) [it] it (λi h=>h.IsListIter it a i) where
 mem:=by simp
 obj:=λi h st b hb=>by
  have e:b=it:=by simpa using hb
  subst e;obtain⟨o,e,c,d⟩:=st;exact⟨o,e,λv z=>by rw[d]at z;cases z⟩
 keep:=λi h h' st k=>st.at λo e=>k it (by simp) o e
 item:=by intro X hP hw hK hc i ae s σ H E I hf st hg;subst hP hw hK;obtain⟨xs,x,hq,hx⟩:=hg;obtain⟨aN,rv,p,hz⟩:=I.list hq;obtain⟨u,hu,ru⟩:=rv.get hx;obtain⟨f0,f1,f2,f3,f4,f5⟩:=hf it (by simp);refine wpAny_pyNext_list_item st p.isList (x:=u) (by simpa using hu) λh' aH sb=>?_;have I1:a9 X ae σ H {s with heap:=h'}:=I.turned (t':=s.toks) (λb o hb e=>(sb.2 b hb).trans e) f0 f1 f3 f4 f5;obtain⟨o,e,c,d⟩:=id aH;exact⟨u,rfl,Di (s:={s with heap:=h'}) e c d (by decide) ⟨x,H,I1,ru,⟨rfl,λys hy=>by rw[I.p4 hy hq];exact hx⟩,aH,λb hb=>(hf b hb).1⟩⟩
 done:=by intro X hP hw hK hc i ae s σ H E I hf st hg;subst hP hw hK;obtain⟨xs,hq,hx⟩:=hg;obtain⟨aN,rv,p,hz⟩:=I.list hq;obtain⟨f0,f1,f2,f3,f4,f5⟩:=hf it (by simp);have hl:=rv.length;exact wpAny_pyNext_list_end (I.ok.hd hc) st p.isList (by simp;lia) λh' eb=>⟨rfl,I.turned (t':=s.toks) (λb o hb e=>eb b o hb e) f0 f1 f3 f4 f5⟩
 self:=λ_ _ _ _ _ st h=>wpAny_pyIter_listiter st h
theorem BF{w:World}{K:_c}(a it:_l):Turn P w K tg (Itt K a) [it] it (λi h=>h.IsTupleIter it a i) where
 mem:=by simp
 obj:=λi h st b hb=>by
  have e:b=it:=by simpa using hb
  subst e;obtain⟨o,e,c,d⟩:=st;exact⟨o,e,λv z=>by rw[d]at z;cases z⟩
 keep:=λi h h' st k=>st.at λo e=>k it (by simp) o e
 item:=by intro X hP hw hK hc i ae s σ H E I hf st hg;subst hP hw hK;obtain⟨xs,x,hq,hx⟩:=hg;obtain⟨aN,rv,p,hz⟩:=I.tuple hq;obtain⟨u,hu,ru⟩:=rv.get hx;obtain⟨f0,f1,f2,f3,f4,f5⟩:=hf it (by simp);refine wpAny_pyNext_tuple_item st (show s.heap.IsTuple a aN.toArray from p) (x:=u) (by simpa using hu) λh' aH sb=>?_;have I1:a9 X ae σ H {s with heap:=h'}:=I.turned (t':=s.toks) (λb o hb e=>(sb.2 b hb).trans e) f0 f1 f3 f4 f5;obtain⟨o,e,c,d⟩:=id aH;exact⟨u,rfl,Di (s:={s with heap:=h'}) e c d (by decide) ⟨x,H,I1,ru,⟨rfl,λys hy=>by rw[I.q! hy hq];exact hx⟩,aH,λb hb=>(hf b hb).1⟩⟩
 done:=by intro X hP hw hK hc i ae s σ H E I hf st hg;subst hP hw hK;obtain⟨xs,hq,hx⟩:=hg;obtain⟨aN,rv,p,hz⟩:=I.tuple hq;obtain⟨f0,f1,f2,f3,f4,f5⟩:=hf it (by simp);have hl:=rv.length;exact wpAny_pyNext_tuple_end (I.ok.hd hc) st (show s.heap.IsTuple a aN.toArray from p) (by simp;lia) λh' eb=>⟨rfl,I.turned (t':=s.toks) (λb o hb e=>eb b o hb e) f0 f1 f3 f4 f5⟩
 self:=λ_ _ _ _ _ st h=>wpAny_pyIter_tupleiter st h
theorem BG{w:World}{K:_c}(it:_l)(lo:Int)(n:Nat):Turn P w K tg (Si lo n) [it] it (λi h=>IsRangeIter h it (lo+(i:Nat)*1) ((n:Int)-(i:Nat)) 1) where
 mem:=by simp
 obj:=λi h st b hb=>by
  have e:b=it:=by simpa using hb
  subst e;exact⟨_,st,λv z=>by
   have z':Data.fields _=Data.cell v:=z;cases z'⟩
 keep:=λi h h' st k=>k it (by simp) _ st
 item:=by intro X hP hw hK hc i ae s σ H E I hf st hg;subst hP hw hK;obtain⟨f0,f1,f2,f3,f4,f5⟩:=hf it (by simp);have W:=Walks.range (prog:=X.prog) (w:=X.w) (I.ok.hd hc) it lo 1 n;refine W.item i s _ _ hg st λv h' tk hv aH kk=>?_;obtain⟨t,rfl⟩:=hv;have I1:a9 X ae σ H {s with heap:=h',toks:=tk}:=I.turned (λb o hb e=>kk b o (by simpa using hb) e) f0 f1 f3 f4 f5;refine⟨_,rfl,Di (s:={s with heap:=h',toks:=tk}) (n:="range_iterator") aH rfl rfl (by decide) ⟨.int (lo+i),H,I1,⟨t,?_⟩,⟨rfl,rfl⟩,aH,λb hb=>(hf b hb).1⟩⟩;rw[W3]
 done:=by intro X hP hw hK hc i ae s σ H E I hf st hg;subst hP hw hK;obtain⟨f0,f1,f2,f3,f4,f5⟩:=hf it (by simp);exact ZY (I.ok.hd hc) st (by have:n<=i:=hg;lia) λh' eb=>⟨rfl,I.turned (t':=s.toks) (λb o hb e=>eb b o hb e) f0 f1 f3 f4 f5⟩
 self:=λ_ _ _ _ _ st h=>ZZ st h
section
variable{X:Cx}
theorem Ae{σ:St}{H:Hp}{R:It->Hp->Prop}{E:Z'}{t u v:Tok}{tk:Nat}(I:a9 X ae σ H s)(h1:-(2 ^ 62)<=lo)(h2:lo<2 ^ 62)(h3:-(2 ^ 62)<=hi)(h4:hi<2 ^ 62)(q:R (Si lo (hi-lo).toNat) H):wpAny (model X.prog X.w) X.A (pyIter (.ref s.heap.objs.size)) (PIE X ae σ tg R) E {s with heap:=s.heap.push {cls:=.type "range",data:=.fields #[.int lo t,.int hi u,.int 1 v]},toks:=tk}:=by
 refine wpAny_pyIter_range (IsRange.new ..) (small_one h1 h2 h3 h4) ?_;have I1:a9 X ae σ H {s with heap:=s.heap.push {cls:=.type "range",data:=.fields #[.int lo t,.int hi u,.int 1 v]},toks:=tk}:=I.kept λb o e=>Vn _ e;refine⟨(s.heap.push {cls:=.type "range",data:=.fields #[.int lo t,.int hi u,.int 1 v]}).objs.size,[(s.heap.push {cls:=.type "range",data:=.fields #[.int lo t,.int hi u,.int 1 v]}).objs.size],_,_,H,rfl,
  I1.kept (t':=tk) λb o e=>Vn _ e,BG _ lo (hi-lo).toNat,?_,λb hb=>?_,q⟩
 .have e1:lo+((0:Nat):Int)*1=lo:=by simp
  have e2:(((hi-lo).toNat:Nat):Int)-((0:Nat):Int)=Builtin.Range.rangeSize lo hi 1:=by rw[rangeSize_one];split<;>lia
  show IsRangeIter _ _ (lo+((0:Nat):Int)*1) ((((hi-lo).toNat:Nat):Int)-((0:Nat):Int)) 1;rw[e1,e2];exact VV _ rfl
 .have e:b=(s.heap.push {cls:=.type "range",data:=.fields #[.int lo t,.int hi u,.int 1 v]}).objs.size:=by simpa using hb
  subst e;exact I1.Ad (Vv _) (I1.dg.fresh (Vv _))
def Sj(ta:TA):TI:=λσ H R=>ta σ H λvs H1=>∃j:Int,vs=[.int j]/\-(2 ^ 62)<=j/\j<2 ^ 62/\R (Si 0 j.toNat) H1
def Sk(ta:TA):TI:=λσ H R=>ta σ H λvs H1=>∃i j:Int,vs=[.int i,.int j]/\(-(2 ^ 62)<=i/\i<2 ^ 62/\-(2 ^ 62)<=j/\j<2 ^ 62)/\R (Si i (j-i).toNat) H1
theorem EG{a:Expr}{ta:TA}{p pos:Pos}(hg:Gl X "range")(hm:X.mg "range" = none)(ha:PA X [a] ta)(hs:starEach [a] X.env=[(false,eval a X.env)]:=by rfl):PI X tg (.Call (.Name "range" p) [a] [] pos) (Sj ta):=by
 intro ae s σ H R I h;refine Call_ (kI I hg hm boot_range (WG (eJ (ha pos ae s σ H _ I h) λus s1⟨vs,H1,I1,r1,q1⟩=>?_) hs rfl));obtain⟨j,e,q1,q2,q⟩:=q1;subst e;cases r1 with
 |cons r rr=>
  cases rr;obtain⟨t,rfl⟩:=r;exact call_range_1 (Ae I1 (by lia) (by lia) q1 q2 (by simpa using q))
theorem EI{a b:Expr}{ta:TA}{p pos:Pos}(hg:Gl X "range")(hm:X.mg "range" = none)(ha:PA X [a,b] ta)(hs:starEach [a,b] X.env=[(false,eval a X.env),(false,eval b X.env)]:=by rfl)(q9:starEach [b] X.env=[(false,eval b X.env)]:=by rfl):
  PI X tg (.Call (.Name "range" p) [a,b] [] pos) (Sk ta):=by
 intro ae s σ H R I h;refine Call_ (kI I hg hm boot_range (WG (eJ (ha pos ae s σ H _ I h) λus s1⟨vs,H1,I1,r1,q1⟩=>?_) (by rw[hs,q9]) (by rw[q9];rfl)));obtain⟨i,j,e,⟨q1,q2,q3,q4⟩,q⟩:=q1;subst e;cases r1 with
 |cons r rr=>
  cases rr with
  |cons r' rr=>
   cases rr;obtain⟨t,rfl⟩:=r;obtain⟨t',rfl⟩:=r';exact call_range_2 (Ae I1 q1 q2 q3 q4 q)
def aat(wi:TI)(g:TG)(tb:TS):TS:=λD σ H=>wi σ H λJ H1=>∃W:Nat->Nat->St->Hp->Prop,(∃m,W 0 m σ H1)/\∀i m σ H,W i m σ H ->
 (J.stop i H/\D.nx σ H)\/(J.go i H/\∃N:St->Hp->Prop,(∀σ' H',N σ' H'->∃m',m'<m/\W (i+1) m' σ' H')/\∀x H',J.Rm i H x H'->g x σ H' λσ2 H2=>tb {D with nx:=N,ct:=N,bk:=D.nx} σ2 H2)
def uX(fp:_h)(h:Heap):_b:=fp.filterMap λb=>(h.get? b).map λo=>(b,o)
theorem kK{b:_l}{o:Obj}(hb:b∈fp)(e:h.get? b=some o):(b,o)∈uX fp h:=Zu.mpr ⟨b,hb,by rw[e];rfl⟩
theorem EJ{p:_l×Obj}(hp:p∈uX fp h):p.1∈fp/\h.get? p.1=some p.2:=by
 obtain⟨b,hb,e⟩:=Zu.mp hp;cases q:h.get? b with
 |none=>rw[q]at e;cases e
 |some o=>
  rw[q]at e;have e':(b,o)=p:=VU e;subst e';exact⟨hb,q⟩
theorem a9.pinned{σ:St}{H:Hp}(I:a9 X ae σ H s)(hf:∀b∈fp,kJ X ae H b)(ho:∀b∈fp,∃o,s.heap.get? b=some o/\∀v,o.data≠.cell v):a9 X (ae++uX fp s.heap) σ H s:=
 I.pZ λp hp=>(VP.mp hp).elim (λz=>I.pin p (VX _ z)) λz=>by obtain⟨hb,e⟩:=EJ z;obtain⟨f0,f1,f2,_⟩:=hf p.1 hb;obtain⟨o,e',d⟩:=ho p.1 hb;rw[e]at e';cases e';exact⟨e,f0,f1,f2,d⟩
theorem a9.p6{pl:_b}{σ:St}{H:Hp}(I:a9 X (ae++pl) σ H s):a9 X ae σ H s:=I.pZ λp hp=>I.pin p (VX _ (Wd _ hp))
theorem Oz{body:List Stmt}{wi:TI}{g:TG}{tb:TS}{pos:Pos}(hp:PassesOwn (model X.prog X.w) X.A X.env X.xe)(hc:X.calm=true)(hi:PI X tg iter wi)(hg:PG X tg g)(hb:oV X body tb)(hs:∀x,foldedSetIterable iter X.env x=pure x:=by intro _;rfl):PS X (.For tg iter body [] pos) (aat wi g tb):=by
 intro ae s σ H D I h;refine wpAny_For (eJ (hi ae s σ H _ I h) λv s1 h1=>eJ h1 λVd s2 h2=>?_) hs;obtain⟨it,fp,tn,J,H2,e,I2,T,b8,f2,W,⟨m0,w0⟩,turn⟩:=h2;subst e
 -- Sl stays true of M9 OA objects through M9 loop
 have BH:∀{H':Hp},(∀b∈fp,H' b=none)->∀b∈fp,kJ X ae H' b:=λhn b hb=>⟨hn b hb,(f2 b hb).2⟩
 refine codeAny_forLoop_any (λn s'=>∃i σ' H',a9 X ae σ' H' s'/\tn i s'.heap/\(∀b∈fp,H' b=none)/\W i n σ' H') ?_ m0 ⟨0,σ,H2,I2,b8,λb hb=>(f2 b hb).1,w0⟩;rintro n s3 ⟨i,σ3,H3,I3,oX,Sn,w3⟩;rcases turn i n σ3 H3 w3 with⟨stop,qn⟩|⟨go,N,hN,step⟩
 .refine Xr hp (eJ (T.done X rfl rfl rfl hc i ae s3 σ3 H3 X.xe I3 (BH Sn) oX stop) λr s4⟨hr,I4⟩=>?_);subst hr;exact Yz ⟨σ3,H3,I4,qn⟩
 .refine Xr hp (eJ (T.item X rfl rfl rfl hc i ae s3 σ3 H3 X.xe I3 (BH Sn) oX go) λr s4⟨u,hr,h4⟩=>?_);subst hr;refine Xr hp (eJ h4 λ_ s5⟨x,H5,I5,r5,y5,Ka,fr5⟩=>?_);have I5':=I5.pinned (BH fr5) (T.obj _ _ Ka);refine Xr hp (eJ (hg _ s5 σ3 H5 x u _ I5' r5 (step x H5 y5)) λ_ s6⟨σ6,H6,I6,q6⟩=>?_);refine Xr hp (eJ (hb _ s6 σ6 H6 _ I6 q6) λf s7 q7=>?_);have again:∀{σ7:St}{H7:Hp},a9 X (ae++uX fp s5.heap) σ7 H7 s7->N σ7 H7->∃m,m<n/\∃i σ' H',a9 X ae σ' H' s7/\tn i s7.heap/\(∀b∈fp,H' b=none)/\W i m σ' H':=λ{σ7 H7}I7 n7=>by obtain⟨m',hm,w7⟩:=hN σ7 H7 n7;refine⟨m',hm,i+1,σ7,H7,I7.p6,T.keep _ _ _ Ka λb hb o e=>(I7.pin (b,o) (VX _ (VX _ (kK hb e)))).1,λb hb=>?_,w7⟩;obtain⟨o,e,d⟩:=T.obj _ _ Ka b hb;exact(I7.pin (b,o) (VX _ (VX _ (kK hb e)))).2.1
  cases f with
  |next=>obtain⟨σ7,H7,I7,n7⟩:=q7;exact again I7 n7
  |cont=>obtain⟨σ7,H7,I7,n7⟩:=q7;exact again I7 n7
  |brk=>obtain⟨σ7,H7,I7,q7⟩:=q7;exact⟨σ7,H7,I7.p6,q7⟩
  |ret v=>obtain⟨x7,σ7,H7,I7,r7,q7⟩:=q7;exact⟨x7,σ7,H7,I7.p6,r7,q7⟩
end
abbrev R2:=V->V->Hp->VK->Prop
def fV(X:Cx)(f:_j->_j->Sem _j)(r:R2):Prop:=
 ∀(ae:_b)(s:_k)(σ:St)(H:Hp)(x y:V)(v u:_j)(Q:VK),a9 X ae σ H s->bM x v->bM y u->r x y H Q ->
  wpAny (model X.prog X.w) X.A (f v u) (EP X ae σ Q) X.xe s
def UnR(X:Cx)(f:_j->Sem _j)(r:V->Hp->VK->Prop):Prop:=
 ∀(ae:_b)(s:_k)(σ:St)(H:Hp)(x:V)(v:_j)(Q:VK),a9 X ae σ H s->bM x v->r x H Q ->
  wpAny (model X.prog X.w) X.A (f v) (EP X ae σ Q) X.xe s
def cR(X:Cx)(f:_j)(r:List V->Hp->VK->Prop):Prop:=
 ∀(ae:_b)(s:_k)(σ:St)(H:Hp)(xs:List V)(us:_e)(Q:VK),a9 X ae σ H s->bt xs us->r xs H Q ->
  wpAny (model X.prog X.w) X.A (call f us) (EP X ae σ Q) X.xe s
def Rn(r:R2)(ta tb:TE):TE:=λσ H Q=>ta σ H λx H1=>tb σ H1 λy H2=>r x y H2 Q
def tUn(r:V->Hp->VK->Prop)(ta:TE):TE:=λσ H Q=>ta σ H λx H1=>r x H1 Q
def rI(C:Int->Int->Prop)(g:Int->Int->V):R2:=λx y H Q=>∃i j,x=.int i/\y=.int j/\C i j/\Q (g i j) H
def Kb(g:Int->Int->V):R2:=λx y H Q=>∃i j,x=.int i/\y=.int j/\Q (g i j) H
def rU(g:Int->V):V->Hp->VK->Prop:=λx H Q=>∃i,x=.int i/\Q (g i) H
section
variable{X:Cx}{a b c:Expr}{ta tb tc:TE}{pos:Pos}
theorem OB(ha:PE X a ta)(hb:PE X b tb){σ:St}{H:Hp}{R:V->V->Hp->Prop}(I:a9 X ae σ H s)(h:ta σ H λx H1=>tb σ H1 λy H2=>R x y H2){Q:Z'}{f:_j->_j->Sem _j}(hf:∀v u s2 x y H2,a9 X ae σ H2 s2->bM x v->bM y u->R x y H2->wpAny (model X.prog X.w) X.A (f v u) Q X.xe s2):
  wpAny (model X.prog X.w) X.A (eval a X.env) (λv s₁=>wpAny (model X.prog X.w) X.A (eval b X.env) (λu s₂=>wpAny (model X.prog X.w) X.A (f v u) Q X.xe s₂) X.xe s₁) X.xe s:=by
 refine eJ (ha ae s σ H _ I h) λv s1⟨x,H1,I1,r1,q1⟩=>?_;refine eJ (hb ae s1 σ H1 _ I1 q1) λu s2⟨y,H2,I2,r2,q2⟩=>?_;exact hf v u s2 x y H2 I2 r1 r2 q2
theorem So{op:Operator}{r:R2}(ho:fV X (binaryOp op) r)(ha:PE X a ta)(hb:PE X b tb):PE X (.BinOp a op b pos) (Rn r ta tb):=by intro ae s σ H Q I h;exact wpAny_BinOp (OB ha hb I h λv u s2 x y H2 I2 rx ry q=>ho ae s2 σ H2 x y v u Q I2 rx ry q)
theorem Sq{op:UnaryOp}{r:V->Hp->VK->Prop}(ho:UnR X (unaryOp op) r)(ha:PE X a ta):PE X (.UnaryOp op a pos) (tUn r ta):=by intro ae s σ H Q I h;exact UnaryOp_ (eJ (ha ae s σ H _ I h) λv s1⟨x,H1,I1,r1,q1⟩=>ho ae s1 σ H1 x v Q I1 r1 q1)
theorem Sr{f:_j->_j->Sem _j}{C:Int->Int->Prop}{g:Int->Int->Int}(rule:∀(i j:Int)(t u:Tok)(s:_k)(Q:Z')(E:Z'),C i j->Q (.int (g i j) s.toks) {s with toks:=s.toks+1}->wpAny (model X.prog X.w) X.A (f (.int i t) (.int j u)) Q E s):
  fV X f (rI C λi j=>.int (g i j)):=by
 intro ae s σ H x y v u Q I rx ry h;obtain⟨i,j,rfl,rfl,hc,q⟩:=h;obtain⟨t,rfl⟩:=rx;obtain⟨t',rfl⟩:=ry;exact rule i j t t' s _ _ hc ⟨.int (g i j),H,I.tok _,⟨_,rfl⟩,q⟩
theorem KA{f:_j->_j->Sem _j}{g:Int->Int->Int}(rule:∀(i j:Int)(t u:Tok)(s:_k)(Q:Z')(E:Z'),Q (.int (g i j) s.toks) {s with toks:=s.toks+1}->wpAny (model X.prog X.w) X.A (f (.int i t) (.int j u)) Q E s):
  fV X f (Kb λi j=>.int (g i j)):=by
 intro ae s σ H x y v u Q I rx ry h;obtain⟨i,j,rfl,rfl,q⟩:=h;obtain⟨t,rfl⟩:=rx;obtain⟨t',rfl⟩:=ry;exact rule i j t t' s _ _ ⟨.int (g i j),H,I.tok _,⟨_,rfl⟩,q⟩
theorem KC{f:_j->_j->Sem _j}{g:Int->Int->Bool}(rule:∀(i j:Int)(t u:Tok)(s:_k)(Q:Z')(E:Z'),Q (.bool (g i j)) s->wpAny (model X.prog X.w) X.A (f (.int i t) (.int j u)) Q E s):
  fV X f (Kb λi j=>.bl (g i j)):=by
 intro ae s σ H x y v u Q I rx ry h;obtain⟨i,j,rfl,rfl,q⟩:=h;obtain⟨t,rfl⟩:=rx;obtain⟨t',rfl⟩:=ry;exact rule i j t t' s _ _ ⟨.bl (g i j),H,I,rfl,q⟩
def GP(i j:Int):Prop:=0<=j/\j<=1000000/\i.natAbs<2 ^ 64
def GQ(i j:Int):Prop:=(-(2 ^ 64)<i/\i<2 ^ 64)\/(-(2 ^ 64)<j/\j<2 ^ 64)
theorem GQ.ok{i:Int}(h:GQ i j):IntMulOk i j:=by
 rcases h with⟨h1,h2⟩|⟨h1,h2⟩
 .exact .of_left (intBits_le_64 h1 h2)
 .exact .of_right (intBits_le_64 h1 h2)
theorem OC:fV X (binaryOp .Add) (Kb λi j=>.int (i+j)):=KA λ_ _ _ _ _ _ _ q=>add_int q
theorem OD:fV X (binaryOp .Sub) (Kb λi j=>.int (i-j)):=KA λ_ _ _ _ _ _ _ q=>sub_int q
theorem OE:fV X (binaryOp .Mult) (rI GQ λi j=>.int (i*j)):=Sr λ_ _ _ _ _ _ _ hc q=>mul_int q hc.ok
theorem KD:fV X (binaryOp .Mod) (rI (λ_ j=>j≠0) λi j=>.int (i.fmod j)):=Sr λ_ _ _ _ _ _ _ hc q=>mod_int' hc q
theorem OF:fV X (binaryOp .Pow) (rI GP λi j=>.int (i ^ j.toNat)):=Sr λ_ _ _ _ _ _ _ hc q=>pow_int_small hc.1 hc.2.1 hc.2.2 q
theorem KG:fV X (inplaceOp .Add) (Kb λi j=>.int (i+j)):=KA λ_ _ _ _ _ _ _ q=>iadd_int q
theorem KH:fV X (inplaceOp .Sub) (Kb λi j=>.int (i-j)):=KA λ_ _ _ _ _ _ _ q=>isub_int q
theorem unI{f:_j->Sem _j}{g:Int->Int}(rule:∀(i:Int)(t:Tok)(s:_k)(Q:Z')(E:Z'),Q (.int (g i) s.toks) {s with toks:=s.toks+1}->wpAny (model X.prog X.w) X.A (f (.int i t)) Q E s):
  UnR X f (rU λi=>.int (g i)):=by
 intro ae s σ H x v Q I rx h;obtain⟨i,rfl,q⟩:=h;obtain⟨t,rfl⟩:=rx;exact rule i t s _ _ ⟨.int (g i),H,I.tok _,⟨_,rfl⟩,q⟩
theorem OG:UnR X (unaryOp .USub) (rU λi=>.int (-i)):=unI λ_ _ _ _ _ q=>neg_int q
end
section
variable{X:Cx}{a b c:Expr}{ta tb tc:TE}{pos:Pos}
theorem OH{σ:St}{H:Hp}{Q:VK}{k k':Bool}(I:a9 X ae σ H s)(q:Q (.bl k) H)(e:k=k'):EP X ae σ Q (.bool k') s:=by subst e;exact⟨.bl k,H,I,rfl,q⟩
theorem Ss:fV X (compareOp .Lt) (Kb λi j=>.bl (decide (i<j))):=KC λ_ _ _ _ _ _ _ q=>lt_int q
theorem Su:fV X (compareOp .LtE) (Kb λi j=>.bl (decide (i<=j))):=KC λ_ _ _ _ _ _ _ q=>le_int q
theorem Sv:fV X (compareOp .Gt) (Kb λi j=>.bl (decide (j<i))):=KC λ_ _ _ _ _ _ _ q=>gt_int q
theorem Sw:fV X (compareOp .GtE) (Kb λi j=>.bl (decide (j<=i))):=KC λ_ _ _ _ _ _ _ q=>ge_int q
theorem OI:fV X (compareOp .Is) (λx y H Q=>y=.dD/\Q (.bl (decide (x=.dD))) H):=by
 intro ae s σ H x y v u Q I rx ry h;obtain⟨rfl,q⟩:=h;cases ry;refine is_none_gen (OH I q ?_);cases x<;>first
  |(cases rx;rfl)
  |(obtain⟨t,rfl⟩:=rx;rfl)
theorem fV.or{f:_j->_j->Sem _j}{r r':R2}(h:fV X f r)(h':fV X f r'):fV X f (λx y H Q=>r x y H Q\/r' x y H Q):=by
 intro ae s σ H x y v u Q I rx ry q;rcases q with q|q
 .exact h ae s σ H x y v u Q I rx ry q
 .exact h' ae s σ H x y v u Q I rx ry q
theorem GR(b:Expr)(h:op≠.In:=by decide)(h2:op≠.NotIn:=by decide):behindInMarks op b=false:=by
 have e1:(op==CmpOp.In)=false:=by cases op<;>first|rfl|exact absurd rfl h
 have e2:(op==CmpOp.NotIn)=false:=by cases op<;>first|rfl|exact absurd rfl h2
 cases b<;>simp[behindInMarks,e1,e2]
theorem KJ{r:R2}(ho:fV X (compareOp op) r)(ha:PE X a ta)(hb:PE X b tb)(hm:behindInMarks op b=false):PE X (.Compare a [op] [b] pos) (Rn r ta tb):=by intro ae s σ H Q I h;exact wpAny_Compare1 (OB ha hb I h λv u s2 x y H2 I2 rx ry q=>ho ae s2 σ H2 x y v u Q I2 rx ry q) hm
def Sx(t:TE):TT:=λσ H Q=>t σ H λx H'=>∃k,x=.bl k/\Q k H'
theorem KL{r:R2}(ho:fV X (compareOp op) r)(ha:PE X a ta)(hb:PE X b tb)(hm:behindInMarks op b=false):PT X (.Compare a [op] [b] pos) (Sx (Rn r ta tb)):=by
 intro ae s σ H Q I h;refine wpAny_isTrue_Compare1 (eJ (ha ae s σ H _ I h) λv s1⟨x,H1,I1,r1,q1⟩=>eJ (hb ae s1 σ H1 _ I1 q1) λu s2⟨y,H2,I2,r2,q2⟩=>
  eJ (ho ae s2 σ H2 x y v u _ I2 r1 r2 q2) λc s3⟨z,H3,I3,r3,k,e,q3⟩=>?_) hm
 subst e;cases r3;exact Xy ⟨H3,I3,q3⟩
theorem pA:(sizeLine:Nat)<2 ^ 63:=by rw[Vt];decide
theorem BI:fV X (binaryOp .Add) (λx y H Q=>∃i j,x=.str i/\y=.str j/\i.length+j.length<=sizeLine/\Q (.str (i++j)) H):=by intro ae s σ H x y v u Q I rx ry h;obtain⟨i,j,rfl,rfl,hz,q⟩:=h;obtain⟨t,rfl⟩:=rx;obtain⟨t',rfl⟩:=ry;exact add_str (λt' tk=>⟨.str (i++j),H,I.tok _,⟨_,rfl⟩,q⟩) hz
theorem vals1{x:V}{us:_e}(r:bt [x] us):∃u,us=[u]/\bM x u:=by
 cases r with
 |cons r1 r2=>cases r2;exact⟨_,rfl,r1⟩
theorem vals2{x y:V}{us:_e}(r:bt [x,y] us):∃u w',us=[u,w']/\bM x u/\bM y w':=by
 cases r with
 |cons r1 r2=>
  cases r2 with
  |cons r3 r4=>cases r4;exact⟨_,_,rfl,r1,r3⟩
theorem GS:cR X (.builtin "abs") (λxs H Q=>∃i,xs=[.int i]/\Q (.int (if i<0 then -i else i)) H):=by intro ae s σ H xs us Q I r h;obtain⟨i,rfl,q⟩:=h;obtain⟨u,rfl,t,rfl⟩:=vals1 r;exact call_abs_int λu tk=>⟨.int (if i<0 then -i else i),H,I.tok _,⟨_,rfl⟩,q⟩
end
structure OJ(h:Heap)(x dx C:_l)(mA:_a):Prop where
 obj:h.get? x=some (W.instObj C dx)
 ns:h.Ns1 dx mA
 ne:dx≠x
theorem EL{mA:_a}(n:h.Ns1 dx mA):∃od,h.get? dx=some od/\∀name,W.lookIn name od=some (mA name):=by
 obtain⟨o,es,ep,ho,hd,hk,_,hm⟩:=n;refine⟨o,ho,λname=>?_⟩;have e:=hm name;unfold nsFind findBy at e;rw[<-Array.find?_toList]at e;unfold W.lookIn;rw[hd];dsimp only;split
 .rename_i y q;rw[q]at e;exact WR some e
 .rename_i q;rw[q]at e;have a:es.toList.any (·.refKey)=false:=by rw[List.any_eq_false];intro y hy;obtain⟨z,t,aau⟩:=hk y (Array.mem_toList_iff.mp hy);simp[DictEntry.refKey,aau]
  have a':¬ es.toList.any (·.refKey)=true:=by rw[a];exact VY
  rw[VE a'];exact WR some e
theorem OJ.look{x:_l}{mA:_a}(I:OJ h x dx C mA):∃od,W.InstAt h x (W.instObj C dx) C (some od)/\∀name,W.lookIn name od=some (mA name):=
 let⟨od,ho,hl⟩:=EL I.ns
 ⟨od,⟨I.obj,rfl,rfl,ho⟩,hl⟩
theorem uU.some_of{v:V}{o:_g}(r:uU (some v) o):∃u,o=some u/\bM v u:=by
 cases o with
 |none=>exact(show False from r).elim
 |some u=>exact⟨u,rfl,r⟩
section
variable{w:World}{H H':Hp}{a:_l}{fs Gy:List (Str×V)}
theorem KN(dg:kH P w H h)(e:H a=some (.ins C dx fs)):∃mA,OJ h a dx C mA/\(∀f,uU (fs.lookup f) (mA f))/\PySem.Within mA (fs.map (·.1))/\fs.length<=1000/\H dx=some (.own a):=by
 obtain⟨d,z,ne,ob,mA,n,r,q⟩:=(show dA P w H h a (.ins C dx fs)from dg a _ e)
 exact⟨mA,⟨ob,n,ne⟩,r,q,z,d⟩
end
structure Cls(K:_c)(C:_l):Prop where
 pg:W.plainGet K C Str.empty=true
 hd:W.hasDictIn K C=true
 po:W.plainOver K C=true
 sa:W.findIn K (.ref C) "__setattr__" = some (some (.builtin "object.__setattr__"))
theorem Cls.get{K:_c}(c:Cls K C)(f:Str):W.plainGet K C f=true:=c.pg
section
variable{X:Cx}{σ:St}{H:Hp}{A:_m}{E:Z'}{Q:Z'}{c:_j}{b:Bool}
inductive tM(K:_c)(H:Hp):V->_j->Prop where
 |dD:tM K H .dD (.type "NoneType")
 |bl (x:Bool):tM K H (.bl x) (.type "bool")
 |int (i:Int):tM K H (.int i) (.type "int")
 |str (x:Str):tM K H (.str x) (.type "str")
 |uq (x:UInt64):tM K H (.uq x) (.type "float")
 |lst {a:_l} {xs:List V} (e:H a=some (.lst xs)):tM K H (.ref a) (.type "list")
 |kh {a:_l} {o:Obj} {xs:List V} (e:H a=some (.kh o (.lst xs))):tM K H (.ref a) (.type "list")
 |tup {a:_l} {xs:List V} (e:H a=some (.tup xs)):tM K H (.ref a) (.type "tuple")
 |dK {a:_l} {aY:List (fG×V)} (e:H a=some (.dK aY)):tM K H (.ref a) (.type "dict")
 |dT {a:_l} {aY:List (List fG×V)} (e:H a=some (.dT aY)):tM K H (.ref a) (.type "dict")
 |ins {a C dx:_l} {fs:List (Str×V)} (e:H a=some (.ins C dx fs)) (cl:Cls K C) (ha:W.findIn K (.ref C) "__class__" = some (some (.builtin "object.__class__")))
   (hn:W.specialIn K (.builtin "object.__class__") "__get__" = some (some (.builtin "getset_descriptor.__get__"))) (htk:W.takesIn K (.builtin "object.__class__")=some true)
   (hm:W.mroIn K C (.type "object")=some true):tM K H (.ref a) (.ref C)
theorem gN{x:V}{u t:_j}(I:a9 X ae σ H s)(rx:bM x u)(ty:tM X.K H x t)(e:W.kitOne X.K t c=some b)(h:∀tk,Q (.bool b) {s with toks:=tk}):
  wpAny (model X.prog X.w) A (call (.builtin "isinstance") [u,c]) Q E s:=by
 cases ty with
 |dD=>cases(show u=Value.none from rx);exact Ww W.kitx_none I.zW True.intro e (λz=>nomatch z) h
 |bl y=>cases(show u=Value.bool y from rx);exact Ww W.kitx_bool I.zW True.intro e (λz=>nomatch z) h
 |int i=>obtain⟨t,q⟩:=(show ∃t,u=Value.int i t from rx);cases q;exact Ww W.kitx_int I.zW True.intro e (λz=>nomatch z) h
 |str y=>obtain⟨t,q⟩:=(show ∃t,u=Value.str y t from rx);cases q;exact Ww W.kitx_str I.zW True.intro e (λz=>nomatch z) h
 |uq y=>obtain⟨t,q⟩:=(show ∃t,u=Value.float y t from rx);cases q;exact Ww W.kitx_float I.zW True.intro e (λz=>nomatch z) h
 | @lst a xs ea=>
  cases(show u=Value.ref a from rx);obtain⟨_,_,n,_,h1⟩:=(show dA X.prog X.w H s.heap a (.lst xs)from I.dg a _ ea)
  exact Ww ZT I.zW ⟨_,h1,rfl⟩ e (λz=>nomatch z) h
 | @kh a ob xs ea=>
  cases(show u=Value.ref a from rx);obtain⟨_,_,_,n,_,h1⟩:=(show dA X.prog X.w H s.heap a (.kh ob (.lst xs))from I.dg a _ ea)
  exact Ww ZT I.zW ⟨_,h1,rfl⟩ e (λz=>nomatch z) h
 | @tup a xs ea=>
  cases(show u=Value.ref a from rx);obtain⟨_,_,_,p⟩:=(show dA X.prog X.w H s.heap a (.tup xs)from I.dg a _ ea)
  obtain⟨o,h1,h2,_⟩:=p;exact Ww ZP I.zW ⟨o,h1,h2⟩ e (λz=>nomatch z) h
 | @dK a aY ea=>
  cases(show u=Value.ref a from rx);obtain⟨_,_,vs,_,p⟩:=(show dA X.prog X.w H s.heap a (.dK aY)from I.dg a _ ea)
  obtain⟨o,es,ep,h1,h2,_⟩:=p;exact Ww ZU I.zW ⟨o,h1,h2.1⟩ e (λz=>nomatch z) h
 | @dT a aY ea=>
  cases(show u=Value.ref a from rx);obtain⟨_,_,xs,_,o,es,ep,h1,h2,_⟩:=(show dA X.prog X.w H s.heap a (.dT aY)from I.dg a _ ea)
  exact Ww ZU I.zW ⟨o,h1,h2.1⟩ e (λz=>nomatch z) h
 | @ins a C dx fs ea cl ha hn htk hm=>
  cases(show u=Value.ref a from rx);obtain⟨mA,O,_⟩:=KN I.dg ea;obtain⟨od,J,_⟩:=O.look;exact Ww (W.kitx_own (cl.get _) cl.hd ha hn htk hm) I.zW J e (λz=>nomatch z) h
end
structure gk(k:Nat)(A:_m):Prop where
 hd:A.handled=none
 dp:A.depth+3*k+5<recursionLimit
 un:A.units+16*k+200<cLine
theorem gk.mono{j k:Nat}{A:_m}(r:gk k A)(h:j<=k):gk j A:=⟨r.hd,by have:=r.dp;lia,by have:=r.un;lia⟩
theorem gk.deeper{k:Nat}{A:_m}(r:gk (k+1) A)(env:Env):gk k (A.deeper env):=
 ⟨r.hd,by have:=r.dp;show A.depth+1+3*k+5<_;lia,by have:=r.un;show A.units+3+16*k+200<_;lia⟩
theorem gk.in1{k:Nat}{A:_m}(r:gk (k+1) A):gk k A.in1:=
 ⟨r.hd,by have:=r.dp;show A.depth+3*k+5<_;lia,by have:=r.un;show A.units+1+16*k+200<_;lia⟩
theorem gk.depth{k:Nat}{A:_m}(r:gk k A):A.depth<recursionLimit:=by have:=r.dp;lia
theorem gk.units{k:Nat}{A:_m}(r:gk k A):A.units+64<cLine:=by have:=r.un;lia
def Sy:TA:=λ_ H Q=>Q [] H
def M'(ta:TE)(tr:TA):TA:=λσ H Q=>ta σ H λx H1=>tr σ H1 λxs H2=>Q (x::xs) H2
section
variable{X:Cx}{e:Expr}{te:TE}{t:TA}{pos:Pos}
theorem BJ:PA X [] Sy:=λ_ _ _ _ H Q I h=>Calls.spliced_nil ⟨[],H,I,.nil,h⟩
theorem ur(ha:PE X e te)(hr:PA X es t)(hs:starEach (e::es) X.env=(false,eval e X.env)::starEach es X.env:=by rfl):PA X (e::es) (M' te t):=by intro pos ae s σ H Q I h;rw[hs];show wpAny _ _ (spliced ((false,eval e X.env)::backTo pos (starEach es X.env))) _ _ s;refine Calls.spliced_cons (eJ (ha ae s σ H _ I h) λu s1⟨x,H1,I1,r1,q1⟩=>?_);exact eJ (hr pos ae s1 σ H1 _ I1 q1) λus s2⟨xs,H2,I2,r2,q2⟩=>⟨x::xs,H2,I2,.cons r1 r2,q2⟩
def aav(t:TA):TE:=λσ H Q=>t σ H λxs H1=>xs.length<=sizeLine/\∀p,H1 p=none->Q (.ref p) (upd H1 p (.tup xs))
def aaw(t:TA):TE:=λσ H Q=>t σ H λxs H1=>xs.length<=sizeLine/\∀p,H1 p=none->Q (.ref p) (upd H1 p (.lst xs))
theorem OK{x1}(h:PA X es t):PE X (.Tuple es x1 pos) (aav t):=by intro ae s σ H Q I hq;refine wpAny_Tuple_spliced (eJ (h pos ae s σ H _ I hq) λus s1⟨xs,H1,I1,r,z,q⟩=>⟨by rw[<-r.length];exact z,?_⟩);have hf:H1 s1.heap.objs.size=none:=I1.dg.fresh (Vv _);refine⟨.ref s1.heap.objs.size,upd H1 s1.heap.objs.size (.tup xs),I1.laid (t':=s1.toks) (λb u e=>Vn _ e) (Vv _) ?_,rfl,q _ hf⟩;exact⟨z,us,r,⟨_,VV _ rfl,rfl,_,rfl⟩⟩
theorem OL(h:PA X es t):PE X (.List es pos) (aaw t):=by intro ae s σ H Q I hq;refine wpAny_List_spliced (eJ (h pos ae s σ H _ I hq) λus s1⟨xs,H1,I1,r,z,q⟩=>⟨by rw[<-r.length];exact z,?_⟩);have hf:H1 s1.heap.objs.size=none:=I1.dg.fresh (Vv _);refine⟨.ref s1.heap.objs.size,upd H1 s1.heap.objs.size (.lst xs),I1.laid (t':=s1.toks) (λb u e=>Vn _ e) (Vv _) ?_,rfl,q _ hf⟩;exact⟨z,us,0,r,VV _ rfl⟩
end
abbrev Sp:=List V->Hp->VK->XK->Prop
abbrev GU:=List Env->Hp->_k->XK->_j->_k->Prop
structure BK(P:_n)(w:World)(K:_c)(mg:_a)(base:Heap)(A:_m)(outer:List Env)(s:_k)(H:Hp):Prop where
 frames:A.frames=some outer
 mod:Mod K mg base
 bs:∀b o,base.get? b=some o->s.heap.get? b=some o/\H b=none
 N!:base.objs.size<=s.heap.objs.size
 uV:s.heap.FunFrames base outer
 M_:∀b∈jP outer,H b=none
 dg:kH P w H s.heap
 bare:AllBare s.gens
def CE(outer:List Env)(P:_n)(w:World)(H:Hp)(s:_k)(Q:VK)(u:_j)(s':_k):Prop:=
 ∃v H',s'.os=s.os/\AllBare s'.gens/\Un (jP outer) [] H H' s.heap s'.heap/\kH P w H' s'.heap/\bM v u/\Q v H'
def CR(CX:GU)(outer:List Env)(P:_n)(w:World)(H:Hp)(s:_k)(Q:VK)(E:XK)(r:Result)(s':_k):Prop:=
 match r with
 |.ok (.ret u)=>CE outer P w H s Q u s'
 |.ok _=>False
 |.error e=>CX outer H s E e s'
structure uY(P:_n)(w:World)(K:_c)(mg:_a)(base:Heap)(CX:GU)(k:Nat)(f:_l)(fd:FuncData)(ps:_i)(sp:Sp):Prop where
 len:∀vs H Q E,sp vs H Q E->vs.length=ps.length
 run:∀(A:_m)(outer:List Env)(s:_k)(H:Hp)(args:Args)(us:_e)(vs:List V)(Q:VK)(E:XK),gk k A->BK P w K mg base A outer s H->BindsTo s fd args (ps.zip us)->bt vs us->sp vs H Q E ->
  codeAny (model P w) A (.call (.ref f) args) (CR CX outer P w H s Q E) s
section
variable{X:Cx}{σ:St}{H:Hp}{s':_k}
theorem a9.SD(I:a9 X ae σ H s):BK X.prog X.w X.K X.mg X.base X.A X.stack s H:=
 ⟨I.ok.frames,I.ok.mod,I.bs,Wg I.ok.N! I.sz,I.stack,I.yq,I.dg,I.bare⟩
theorem a9.after{Q:VK}{u:_j}(I:a9 X ae σ H s)(h:CE X.stack X.prog X.w H s Q u s'):EP X ae σ Q u s':=by obtain⟨v,H',os,bare,un,dg,r,q⟩:=h;obtain⟨hh,g,d,t,os'⟩:=s';obtain rfl:os'=s.os:=os;exact⟨v,H',I.call (h':=hh) (g':=g) (d':=d) (t':=t) (ch:=[]) un dg bare (λb z=>absurd z (by simp)),r,q⟩
end
def SE(sp:Sp)(KO:List V)(E:XK)(t:TA):TE:=λσ H Q=>t σ H λvs H1=>sp (vs++KO) H1 Q E
def Binds(K:_c)(fd:FuncData)(ps:_i)(ds:_e):Prop:=
 ∀(s:_k)(us:_e),K.In s.heap->(us++ds).length=ps.length->BindsTo s fd ⟨us,[]⟩ (ps.zip (us++ds))
theorem Binds.all{K:_c}{fd:FuncData}{ps:_i}(h:∀us:_e,us.length=ps.length->bindArgs fd ⟨us,[]⟩=pure (ps.zip us)):Binds K fd ps []:=λs us _ hl=>by rw[Wi]at hl⊢;exact .of_eq (h us hl)
def Passes(CX:GU)(X:Cx)(E:XK):Prop:=∀(ae:_b)(σ:St)(H:Hp)(s:_k)(e:_j)(s':_k),a9 X ae σ H s->CX X.stack H s E e s'->X.xe e s'
section
variable{X:Cx}{CX:GU}{k:Nat}{f:_l}{fd:FuncData}{ps:_i}{sp:Sp}{KO:List V}{ds:_e}{E:XK}{x m:Str}{p pos:Pos}{e:Expr}{ta:TE}{t:TA}
theorem OM{σ:St}{H:Hp}{Q:VK}{us:_e}{vs:List V}(F:uY X.prog X.w X.K X.mg X.base CX k f fd ps sp)(hr:gk k X.A)(hb:Binds X.K fd ps ds)(hd:bt KO ds)(hx:Passes CX X E)(I:a9 X ae σ H s)(r:bt vs us)(h:sp (vs++KO) H Q E):wpAny (model X.prog X.w) X.A (call (.ref f) us) (EP X ae σ Q) X.xe s:=by
 have r2:bt (vs++KO) (us++ds):=r.append hd;have hl:(us++ds).length=ps.length:=by rw[<-r2.length];exact F.len _ _ _ _ h
 refine wpAny_call (Ys (F.run X.A X.stack s H ⟨us,[]⟩ (us++ds) (vs++KO) Q E hr I.SD (hb s us I.zW hl) r2 h) λr s' hq=>?_);cases r with
 |error e=>exact hx ae σ H s e s' I hq
 |ok fl=>
  cases fl with
  |ret u=>exact I.after hq
  |next=>exact False.elim hq
  |brk=>exact False.elim hq
  |cont=>exact False.elim hq
theorem KP(F:uY X.prog X.w X.K X.mg X.base CX k f fd ps sp)(hr:gk k X.A)(hg:Gl X x)(hm:X.mg x=some (.ref f))(hk:W.keepIn X.K (.ref f)=true)(hb:Binds X.K fd ps ds)(hd:bt KO ds)(hx:Passes CX X E)(ha:PA X (e::es) t)(Af:(x==("__debug__":Str))=false:=by decide)(he:starEach (e::es) X.env=(false,eval e X.env)::starEach es X.env:=by rfl)(sM:(backTo pos (starEach es X.env)).any (·.1)=false:=by rfl):
  PE X (.Call (.Name x p) (e::es) [] pos) (SE sp KO E t):=by
 intro ae s σ H Q I h;refine Yc (yr I hg hm ?_ Af);refine W.callWith_K (h₀:=X.base) I.ok.mod.RW hk (eJ (ha pos ae s σ H _ I h) λus s1⟨vs,H1,I1,r,q⟩=>⟨I1.zW,?_⟩) he sM;exact OM F hr hb hd hx I1 r q
end
def PK(X:Cx)(GV:List Keyword)(t:TA):Prop:=
 ∀(pos:Pos)(ae:_b)(s:_k)(σ:St)(H:Hp)(Q:List V->Hp->Prop),a9 X ae σ H s->t σ H Q->wpAny (model X.prog X.w) X.A (evalAll ((backToKw pos (keywordEach GV X.env)).map (·.2))) (AP X ae σ Q) X.xe s
section
variable{X:Cx}{CX:GU}{k:Nat}{f:_l}{fd:FuncData}{ps ks:_i}{sp:Sp}{E:XK}{x m:Str}{p pos aax:Pos}{e:Expr}{GV:List Keyword}{te ta:TE}{t tk:TA}{nm:Option Str}
theorem ON:PK X [] Sy:=λ_ _ _ _ H Q I h=>wpAny_evalAll_nil ⟨[],H,I,.nil,h⟩
theorem KQ(ha:PE X e te)(hr:PK X GV t):PK X (⟨nm,e,aax⟩::GV) (M' te t):=by intro pos ae s σ H Q I h;show wpAny _ _ (evalAll ((do let v <- eval e X.env;standAt pos;pure v)::(backToKw pos (keywordEach GV X.env)).map (·.2))) _ _ s;refine wpAny_evalAll_cons (Vk (eJ (ha ae s σ H _ I h) λu s1⟨x,H1,I1,r1,q1⟩=>Vk (YT (VF ?_))));exact eJ (hr pos ae s1 σ H1 _ I1 q1) λus s2⟨xs,H2,I2,r2,q2⟩=>⟨x::xs,H2,I2,.cons r1 r2,q2⟩
variable{g:_e->_e->_e}{gV:List V->List V->List V}
end
structure iz(N P:_i)(sc:Scope):Prop where
 kind:sc.kind=.function
 co:sc.isCoroutine=false
 gen:sc.isGenerator=false
 nd:N.Nodup
 pre:N.take P.length=P
 par:∀x∈P,sc.names.lookup x=some .local\/sc.names.lookup x=some .cell
 yu:∀y∈sc.names,y.2≠.free
theorem xA{kindOf:Str->Option NameKind}{x:Str}:∀{binds:List (Str×_j)}{m:_a},(∀v,(x,v) ∉ binds)->bindL kindOf binds m x=m x
 |[],_,_=>rfl
 |(n,v)::r,m,h=>by
  unfold bindL;rw[xA λw hw=>h w (VH _ hw)];split
  .have:x≠n:=by rintro rfl;exact h v Vz
   simp[this]
  .rfl
theorem xB{kindOf:Str->Option NameKind}{x:Str}:∀{binds:List (Str×_j)}{m:_a},(∀v,(x,v) ∉ binds)->bindC kindOf binds m x=m x
 |[],_,_=>rfl
 |(n,v)::r,m,h=>by
  unfold bindC;rw[xB λw hw=>h w (VH _ hw)];split
  .rfl
  .have:x≠n:=by rintro rfl;exact h v Vz
   simp[this]
theorem xC{kindOf:Str->Option NameKind}{x:Str}{v:_j}:∀{P:_i}{vs:_e}{i:Nat}{m:_a},P.Nodup->P[i]?=some x->vs[i]?=some v->kindOf x=some .local ->
  bindL kindOf (P.zip vs) m x=some v
 |[],_,_,_,_,h,_,_=>by simp at h
 |_::_,[],_,_,_,_,h,_=>by simp at h
 |p::P,w::vs,0,m,nd,h1,h2,hk=>by simp at h1 h2;subst h1;subst h2;show bindL kindOf ((p,w)::P.zip vs) m p=_;unfold bindL;rw[xA λv hv=>(Xx.mp nd).1 (XH hv).1,Vs hk];simp
 |p::P,w::vs,i+1,m,nd,h1,h2,hk=>by show bindL kindOf ((p,w)::P.zip vs) m x=_;unfold bindL;exact xC (i:=i) (Xx.mp nd).2 (by simpa using h1) (by simpa using h2) hk
theorem xD{kindOf:Str->Option NameKind}{x:Str}{v:_j}:∀{P:_i}{vs:_e}{i:Nat}{m:_a},P.Nodup->P[i]?=some x->vs[i]?=some v->kindOf x≠some .local ->
  bindC kindOf (P.zip vs) m x=some v
 |[],_,_,_,_,h,_,_=>by simp at h
 |_::_,[],_,_,_,_,h,_=>by simp at h
 |p::P,w::vs,0,m,nd,h1,h2,hk=>by simp at h1 h2;subst h1;subst h2;show bindC kindOf ((p,w)::P.zip vs) m p=_;unfold bindC;rw[xB λv hv=>(Xx.mp nd).1 (XH hv).1,VE hk];simp
 |p::P,w::vs,i+1,m,nd,h1,h2,hk=>by show bindC kindOf ((p,w)::P.zip vs) m x=_;unfold bindC;exact xD (i:=i) (Xx.mp nd).2 (by simpa using h1) (by simpa using h2) hk
def start(N:_i)(vs:List V):St:=vs.map some++List.replicate (N.length-vs.length) none
def jk(CX:GU)(P:_n)(w:World)(K:_c)(mg:_a)(base:Heap)(N:_i)(qual:Str)(scope:Scope)(f:_l)(cd:_j)(A:_m)(outer:List Env)(s:_k)(H:Hp)(E:XK):Cx where
 prog:=P
 w:=w
 K:=K
 mg:=mg
 base:=base
 A:=A.deeper (envOfC qual scope s.heap.objs.size f cd)
 N:=N
 s₀:=s
 H₀:=H
 env:=envOfC qual scope s.heap.objs.size f cd
 outer:=outer
 stack:=envOfC qual scope s.heap.objs.size f cd::outer
 ex:=[]
 calm:=true
 fn:=λ_=>true
 pn:=[]
 xe:=λe s'=>wpAny (model P w) (A.deeper (envOfC qual scope s.heap.objs.size f cd)) (leaving (envOfC qual scope s.heap.objs.size f cd) e) (λ_ mW=>CX outer H s E e mW) (λe' mW=>CX outer H s E e' mW) s'
theorem Ag{sc:Scope}{n:Nat}{x:Str}(h:sc.names.lookup x=some .cell):∃c,(cellsFrom n sc.names []).lookup x=some c:=by have q:=Zn sc.names n [] (.inl h);exact Option.isSome_iff_exists.mp q
theorem EM{CX:GU}{w:World}{K:_c}{mg:_a}{base:Heap}{N ps:_i}{qual:Str}{scope:Scope}{f:_l}{cd:_j}{A:_m}{outer:List Env}{s1:_k}{H:Hp}{E:XK}{us:_e}{vs:List V}(S:iz N ps scope)(hd:A.handled=none)(e0:BK P w K mg base A outer s H)(hl:vs.length=ps.length)(r:bt vs us)(x:InCallC s s.heap.objs.size (bindL (envOfC qual scope s.heap.objs.size f cd).kindOf (ps.zip us) λ_=>none) (cellsFrom (s.heap.objs.size+1) scope.names []) (bindC (envOfC qual scope s.heap.objs.size f cd).kindOf (ps.zip us) λ_=>none) s1):
  a9 (jk CX P w K mg base N qual scope f cd A outer s H E) [] (start N vs) H s1:=by
 have sM:ps.length<=N.length:=by have:=WR List.length S.pre;rw[Zv]at this;lia
 obtain⟨h1,tk,rfl,hk⟩:=x.done;have Ro:∀b:_l,b ∉ (jk CX P w K mg base N qual scope f cd A outer s H E).ex:=λb z=>absurd (show b∈([]:_h)from z) (by simp);refine⟨⟨e0.mod,S.kind,rfl,rfl,Vv _,λy z c h1 h2=>?_,λy hy=>?_,λy c _ h=>?_,λ_=>hd,Around.frames_deeper e0.frames,.inr ⟨rfl,rfl⟩,λb z=>absurd z (Ro b),e0.bs,e0.N!,λb _ _=>Ro b,λb z=>absurd z (Ro b),e0.uV,e0.M_⟩,
  rfl,e0.bare,Un.kept hk,⟨_,x.toInCall.ns,λi y v h1 h2 h3=>?_⟩,λy c h=>⟨_,x.cell y c h⟩,e0.dg.fresh (Vv _),λy c h=>?_,λp hp=>absurd (show p∈([]:_b)from hp) (by simp),e0.dg.kept hk,?_⟩
 .exact name_of_addr x.apart (Wy h1) (Wy h2)
 .have hy:scope.names.lookup y=some .cell\/scope.names.lookup y=some .free:=hy;rcases hy with hy|hy
  .exact Ag hy
  .exact absurd rfl (S.yu _ (Wy hy))
 .exact YM (x.above y c (Wy h))
 .have hi:i<vs.length:=by
   unfold start at h2;by_cases hi:i<vs.length
   .exact hi
   .rw[V3 (by simpa using hi)]at h2;rw[W6]at h2;split at h2<;>cases h2
  have ha:vs[i]?=some v:=by
   unfold start at h2;rw[V4 (by simpa using hi),Vu]at h2;cases e:vs[i]? with
   |none=>rw[e]at h2;cases h2
   |some a=>rw[e]at h2;cases h2;rfl
  obtain⟨u,hu,rv⟩:=r.get ha;have hp:ps[i]?=some y:=by rw[<-S.pre,List.getElem?_take_of_lt (by lia)];exact h1
  have ndP:ps.Nodup:=by rw[<-S.pre];exact S.nd.sublist (List.take_sublist _ _)
  refine⟨u,rv,?_⟩;rcases S.par y (V8 hp)with k|k
  .exact .inl ⟨k,xC ndP hp hu k⟩
  .obtain⟨c,e⟩:=Ag (n:=s.heap.objs.size+1) k;refine .inr ⟨.inl k,c,e,?_⟩;have q:=x.cell y c e;rw[xD ndP hp hu (by show scope.names.lookup y≠_;rw[k];decide)]at q;exact q
 .exact e0.dg.fresh (YM (x.above y c (Wy h)))
 .unfold start;show _=N.length;rw[Vm,Vj,V0];lia
theorem Na{CX:GU}{w:World}{K:_c}{mg:_a}{base:Heap}{k:Nat}{f:_l}{qual:Str}{params:Arguments}{body:List Stmt}{scope:Scope}{dV kV ct:_j}{N ps:_i}{sp:Sp}(lk:K.lookup f=some ⟨oc,od,.func (W.fnOf name qual params body scope dV kV doc pm an h_ ct),GW⟩)(BD:W.codeIn K h_ qual=true)(S:iz N ps scope)(len:∀vs H Q E,sp vs H Q E->vs.length=ps.length)
  (GX:∀ (A:_m) (outer:List Env) (s:_k) (H:Hp) (vs:List V) (Q:VK) (E:XK),gk k (A.deeper (envOfC qual scope s.heap.objs.size f h_))->sp vs H Q E ->
   ∃t,oV (jk CX P w K mg base N qual scope f h_ A outer s H E) body t/\t {nx:=λ_ H'=>Q .dD H',rt:=Q} (start N vs) H):
  uY P w K mg base CX (k+1) f (W.fnOf name qual params body scope dV kV doc pm an h_ ct) ps sp:=by
 refine⟨len,λA outer s H args us vs Q E hr e0 hb r Rp=>?_⟩;have hl:=len _ _ _ _ Rp;have KX:K.In s.heap:=e0.mod.RW.keeps λb o e=>(e0.bs b o e).1;have lim:s.heap.NoLimit:=e0.mod.nolimit.keeps λb o e=>(e0.bs b o e).1;have SF:∀y∈ps.zip us,scope.names.lookup y.1=some .local\/(scope.names.lookup y.1=some .cell/\((cellsFrom (s.heap.objs.size+1) scope.names []).lookup y.1).isSome=true):=λ⟨n,v⟩hy=>by
  rcases S.par n (XH hy).1 with q|q
  .exact .inl q
  .exact .inr ⟨q,Zn _ _ _ (.inl q)⟩
 refine codeAny_call_function hr.depth (KX _ _ lk) rfl S.co S.gen rfl (W.codeRec_of KX BD) (hb _ _ _ _ ?_);refine wpAny_newFunctionEnv_cells S.kind SF λenv he s1 x=>?_;subst he;refine⟨lim.keeps x.toInCall.keep,codeAny_func ?_⟩;obtain⟨t,ht,hq⟩:=GX A outer s H vs Q E (hr.deeper _) Rp;have I:a9 (jk CX P w K mg base N qual scope f h_ A outer s H E) [] (start N vs) H s1:=EM S hr.hd e0 hl r x;refine WC (ht [] s1 (start N vs) H _ I hq) (λfl s' hs=>?_) λe s' hs=>hs;have fin:∀{σ':St}{H':Hp}{v:V}{u:_j},a9 (jk CX P w K mg base N qual scope f h_ A outer s H E) [] σ' H' s'->bM v u->Q v H'->CE outer P w H s Q u s':=
  λ{σ' H' v u}J rv q=>⟨v,H',J.os,J.bare,J.base,J.dg,rv,q⟩
 cases fl with
 |ret u=>
  obtain⟨v,σ',H',J,rv,q⟩:=hs;exact fin J rv q
 |next=>
  obtain⟨σ',H',J,q⟩:=hs;exact fin (v:=V.dD) (u:=Value.none) J rfl q
 |brk=>
  obtain⟨_,_,_,q⟩:=hs;exact False.elim q
 |cont=>
  obtain⟨_,_,_,q⟩:=hs;exact False.elim q
section
variable{X:Cx}{x:Str}{p pos:Pos}{e:Expr}{t:TA}{id T:String}{r:List V->Hp->VK->Prop}
def tCB(r:List V->Hp->VK->Prop)(t:TA):TE:=λσ H Q=>t σ H λvs H1=>r vs H1 Q
theorem Ah(hc:cR X (.builtin id) r)(hg:Gl X x)(hm:X.mg x=none)(hv:bootBuiltins x=some (.builtin id))(ha:PA X (e::es) t)(hn:x ≠ "__name__":=by decide)(Af:(x==("__debug__":Str))=false:=by decide)(he:starEach (e::es) X.env=(false,eval e X.env)::starEach es X.env:=by rfl)(sM:(backTo pos (starEach es X.env)).any (·.1)=false:=by rfl):PE X (.Call (.Name x p) (e::es) [] pos) (tCB r t):=by intro ae s σ H Q I h;refine Yc (kI I hg hm hv ?_ hn Af);exact PyProof.Rows.callWith_builtin1 (eJ (ha pos ae s σ H _ I h) λus s1⟨vs,H1,I1,r1,q1⟩=>hc ae s1 σ H1 vs us Q I1 r1 q1) he sM
theorem EN(hc:cR X (.type T) r)(hg:Gl X x)(hm:X.mg x=none)(hv:bootBuiltins x=some (.type T))(ha:PA X (e::es) t)(hn:x ≠ "__name__":=by decide)(Af:(x==("__debug__":Str))=false:=by decide)(he:starEach (e::es) X.env=(false,eval e X.env)::starEach es X.env:=by rfl)(sM:(backTo pos (starEach es X.env)).any (·.1)=false:=by rfl):PE X (.Call (.Name x p) (e::es) [] pos) (tCB r t):=by intro ae s σ H Q I h;refine Yc (kI I hg hm hv ?_ hn Af);exact WG (eJ (ha pos ae s σ H _ I h) λus s1⟨vs,H1,I1,r1,q1⟩=>hc ae s1 σ H1 vs us Q I1 r1 q1) he sM
end
end L2
variable {H H' H₀:L2.Hp}
variable {X:L2.Cx}
variable {N:List Str}
variable {A:Around}
variable {E:L2.XK}
variable {Q:L2.VK}
variable {σ:L2.St}
variable {te td:L2.TE}
variable {wi:L2.TI}
variable {prog:Program}
variable {sp:L2.Sp}
variable {base:Heap}
variable {J:L2.It}
variable {ns bs:_d}
namespace HT
open PyProof.Rows
section
variable{w:World}{E:Z'}
theorem KR{t b:_l}{ws:_e}{Q:Z'}(ht:IsTup s.heap t vs.toArray)(hb:IsTup s.heap b ws.toArray)(hv:vs≠[])(h1:ws=[]->Q (.ref t) s)(h2:ws≠[]->Q (.ref s.heap.objs.size) {s with heap:=s.heap.push {cls:=.type "tuple",data:=.seq (vs++ws).toArray} })(hsz:vs.length+ws.length<=sizeLine):wpAny (model prog w) A (binaryOp .Add (.ref t) (.ref b)) Q E s:=by
 obtain⟨⟨cls,dd,data,sl⟩,ho,hc,n,hd⟩:=id ht;obtain⟨⟨aay,Ve,data2,SG⟩,Gz,Ai,n2,hd2⟩:=id hb;simp only at hc hd Ai hd2;subst hc hd Ai hd2;have e:vs.toArray++ws.toArray=(vs++ws).toArray:=by simp
 by_cases hw:ws=[]
 .exact Z2 ⟨_,ho,rfl⟩ ⟨_,Gz,rfl⟩ Zc ZL Yh Yd (Ya _ _)
   (tuple_addW1 t b vs.toArray ws.toArray n n2 dd Ve sl SG (by simpa using hv) (by simp[hw])) ⟨ho,Gz,h1 hw⟩
 .refine Z2 ⟨_,ho,rfl⟩ ⟨_,Gz,rfl⟩ Zc ZL Yh Yd (Ya _ _)
   (tuple_addW2 t b vs.toArray ws.toArray n n2 dd Ve sl SG (by simpa using hv) (by simpa using hw) (by rw[VG,VG];exact hsz)) ⟨ho,Gz,?_⟩
  rw[e];exact h2 hw
def gQ(n d:Nat):Option Int->Nat
 |none=>d
 |some v=>if v<0 then(v+(n:Int)).toNat else min v.toNat n
theorem uZ(n d:Nat):gQ n d none=d:=rfl
theorem yw(n d k:Nat):gQ n d (some (k:Int))=min k n:=by show(if(k:Int)<0 then((k:Int)+(n:Int)).toNat else min (k:Int).toNat n)=min k n;rw[VE (by lia),WM]
theorem OO(n d:Nat)(hd:d<=n)(o:Option Int):gQ n d o<=n:=by
 cases o with
 |none=>exact hd
 |some v=>
  show(if v<0 then(v+(n:Int)).toNat else min v.toNat n)<=n;by_cases hv:v<0
  .rw[Vs hv];lia
  .rw[VE hv];exact Nat.min_le_right _ _
theorem Dj(v:Int)(n d:Nat):(if v<0 then max (v+(n:Int)) 0 else min v (n:Int))=((gQ n d (some v):Nat):Int):=by
 show(if v<0 then max (v+(n:Int)) 0 else min v (n:Int))=(((if v<0 then(v+(n:Int)).toNat else min v.toNat n):Nat):Int);by_cases hv:v<0
 .simp only[Vs hv];lia
 .simp only[VE hv];lia
theorem BL(lo hi:Option Int)(n:Nat):Builtin.Slice.sliceAdjust lo hi 1 (n:Int)=(((gQ n 0 lo:Nat):Int),((gQ n n hi:Nat):Int)):=by
 have h1:¬ ((1:Int)<0):=by lia
 unfold Builtin.Slice.sliceAdjust;simp only[h1,Yr];refine Prod.ext ?_ ?_
 .cases lo with
  |none=>rfl
  |some v=>exact Dj v n 0
 .cases hi with
  |none=>rfl
  |some v=>exact Dj v n n
theorem BM(i j:Nat):Builtin.Slice.slicePlaces (i:Int) (j:Int) 1=j-i:=by
 unfold Builtin.Slice.slicePlaces;have h1:(1:Int)>0:=by lia
 simp only[h1,Zd,Int.ediv_one];split<;>lia
theorem u3{v:_j}{o:Option Int}{Q:Option Int->_k->Prop}(p:IsPart v o)(h:Q o s):wpAny (model prog w) A (Builtin.Slice.slicePartIndex v) Q E s:=by
 cases p with
 |none=>exact slicePart_none h
 |int i t=>exact slicePart_int h
theorem q?{sl:_l}{vl vu:_j}{lo hi:Option Int}{n:Nat}{Q:Int×Int×Nat->_k->Prop}(hs:s.heap.IsSliceOf sl vl vu .none)(pl:IsPart vl lo)(pu:IsPart vu hi)(h:Q (((gQ n 0 lo:Nat):Int),1,gQ n n hi-gQ n 0 lo) s):wpAny (model prog w) A (Builtin.Slice.sliceApplied (.ref sl) (pure (n:Int))) Q E s:=by obtain⟨os,SH,Rt,Vf⟩:=id hs;unfold Builtin.Slice.sliceApplied Builtin.Slice.sliceFields;refine Vk (Vk (Wq SH Vf (x:=vl) rfl (Vk (Wq SH Vf (x:=vu) rfl (Vk (Wq SH Vf (x:=.none) rfl (VF ?_)))))));refine Vk (slicePart_none ?_);show wpAny _ _ (if((1:Int)==0)=true then _ else _) _ _ s;rw[VE (by decide)];refine Vk (u3 pl (Vk (u3 pu (Vk (VF ?_)))));show wpAny _ _ (match Builtin.Slice.sliceAdjust lo hi 1 (n:Int) with|(lo,hi)=>pure (lo,(1:Int),Builtin.Slice.slicePlaces lo hi 1)) _ _ s;rw[BL lo hi n];show wpAny _ _ (pure (((gQ n 0 lo:Nat):Int),(1:Int),Builtin.Slice.slicePlaces ((gQ n 0 lo:Nat):Int) ((gQ n n hi:Nat):Int) 1)) _ _ s;rw[BM];exact VF h
theorem GY(xs:Array _j)(i k:Nat):((List.range k).filterMap λ(m:Nat)=>xs[((i:Int)+(m:Int)*1).toNat]?).toArray=((xs.toList.drop i).take k).toArray:=by
 have e:(λ(m:Nat)=>xs[((i:Int)+(m:Int)*1).toNat]?)=λm=>xs[i+m]?:=by
  funext m;have:((i:Int)+(m:Int)*1).toNat=i+m:=by lia
  rw[this]
 rw[e];have:=pick_run xs i k;rw[List.filterMap_map]at this;have e2:((λx=>xs[x]?) ∘ λx=>i+x)=λm=>xs[i+m]?:=rfl;rw[e2]at this;rw[this]
theorem p7{t sl:_l}{vl vu:_j}{lo hi:Option Int}{Q:Z'}(ht:IsTup s.heap t items)(hs:s.heap.IsSliceOf sl vl vu .none)(pl:IsPart vl lo)(pu:IsPart vu hi)(hw:¬ (gQ items.size 0 lo=0/\gQ items.size items.size hi=items.size))(h:Q (.ref s.heap.objs.size) {s with heap:=s.heap.push {cls:=.type "tuple",data:=.seq ((items.toList.drop (gQ items.size 0 lo)).take (gQ items.size items.size hi-gQ items.size 0 lo)).toArray} })(hsz:items.size<=sizeLine):wpAny (model prog w) A (getItem (.ref t) (.ref sl)) Q E s:=by
 have Dk:sizeOk (.seq ((items.toList.drop (gQ items.size 0 lo)).take (gQ items.size items.size hi-gQ items.size 0 lo)).toArray):=by show((items.toList.drop (gQ items.size 0 lo)).take (gQ items.size items.size hi-gQ items.size 0 lo)).toArray.size<=sizeLine;rw[VG,Zv,Xm,V9];lia
 have hj:gQ items.size items.size hi<=items.size:=OO _ _ (Vv _) hi;obtain⟨os,SH,Rt,Vf⟩:=id hs;have hTs:s.TypeIs (.ref sl) "slice":=⟨os,SH,Rt⟩
 unfold getItem
 try with_reducible refine Xv ?_
 first|refine Vk (VF ?_)|skip
 refine Vk (wpAny_sequenceKey ht.typeIs (by decide) ?_);refine Vk (WL (name:=Str.ofString "__getitem__") ht.typeIs XY
  (WX XY ht.typeIs entry_tuple_getitem ?_ (args_tuple_getitem _ _)))
 show wpAny _ _ (Builtin.Tuple.tupleItemsOf (.ref t) >>= _) _ _ s;refine Vk (tupleItemsOf_ ht ?_);refine Vk (wpAny_typeOf hTs ?_);rw[Vs (by decide)];refine Vk (q? hs pl pu ?_);have hno:¬ ((((gQ items.size 0 lo:Nat):Int)==0&&(1:Int)==1&&(gQ items.size items.size hi-gQ items.size 0 lo)==items.size)=true):=by intro q;rw[Xe,Xe]at q;have q1:((gQ items.size 0 lo:Nat):Int)=0:=eq_of_beq q.1.1;have q2:gQ items.size items.size hi-gQ items.size 0 lo=items.size:=eq_of_beq q.2;exact hw ⟨by lia,by lia⟩
 show wpAny _ _ (if(((gQ items.size 0 lo:Nat):Int)==0&&(1:Int)==1&&(gQ items.size items.size hi-gQ items.size 0 lo)==items.size)=true then _ else _) _ _ s;rw[VE hno,GY]
 first
  |exact Vk (m:=Builtin.Tuple.tupleExact _) (Wv (VF ⟨_,rfl,VF h⟩) Dk)
  |exact Vk (m:=Builtin.Tuple.tupleExact _) (Wv (Vk (VF (VF ⟨_,rfl,VF h⟩))) Dk)
  |exact Vk (Vk (m:=Builtin.Tuple.tupleExact _) (Wv (VF (VF ⟨_,rfl,VF h⟩)) Dk))
  |exact Vk (Vk (m:=Builtin.Tuple.tupleExact _) (Wv (VF ⟨_,rfl,VF h⟩) Dk))
end
end HT
namespace L2
open PySem.Spec PyProof.Rows
abbrev TO:=St->Hp->(Option Int->Hp->Prop)->Prop
def PO(X:Cx)(e:Option Expr)(t:TO):Prop:=
 ∀(ae:_b)(s:_k)(σ:St)(H:Hp)(Q:Option Int->Hp->Prop),a9 X ae σ H s->t σ H Q ->
  wpAny (model X.prog X.w) X.A (evalPart e X.env) (λu s'=>∃o H',a9 X ae σ H' s'/\IsPart u o/\Q o H') X.xe s
def KS:TO:=λ_ H Q=>Q none H
def SI(t:TE):TO:=λσ H Q=>t σ H λx H1=>∃i,x=.int i/\Q (some i) H1
section
variable{e:Expr}{lo hi:Option Expr}{tl th:TO}{pos:Pos}
theorem KU:PO X none KS:=by intro ae s σ H Q I h;rw[ZM];exact VF ⟨none,H,I,.none,h⟩
theorem KW(h:PE X e te):PO X (some e) (SI te):=by intro ae s σ H Q I hw;rw[evalPart_some];refine eJ (h ae s σ H _ I hw) λu s1⟨x,H1,I1,r1,q1⟩=>?_;obtain⟨i,rfl,q⟩:=q1;obtain⟨t,rfl⟩:=r1;exact⟨some i,H1,I1,.int i t,q⟩
def Nb(X:Cx)(r:V->Option Int->Option Int->Hp->VK->Prop):Prop:=
 ∀(ae:_b)(s:_k)(σ:St)(H:Hp)(x:V)(v vl vu:_j)(lo hi:Option Int)(sl:_l)(Q:VK),a9 X ae σ H s->bM x v->s.heap.IsSliceOf sl vl vu .none->IsPart vl lo->IsPart vu hi->r x lo hi H Q ->
  ∃T id,typeLookup (.type T) "__getitem__" = pure (some (.builtin id))/\s.TypeIs v T/\wpAny (model X.prog X.w) X.A (getItem v (.ref sl)) (EP X ae σ Q) X.xe s
theorem Nb.or{r r':V->Option Int->Option Int->Hp->VK->Prop}(h:Nb X r)(h':Nb X r'):Nb X (λx lo hi H Q=>r x lo hi H Q\/r' x lo hi H Q):=by
 intro ae s σ H x v vl vu lo hi sl Q I rx hs pl pu q;rcases q with q|q
 .exact h ae s σ H x v vl vu lo hi sl Q I rx hs pl pu q
 .exact h' ae s σ H x v vl vu lo hi sl Q I rx hs pl pu q
def tSl(r:V->Option Int->Option Int->Hp->VK->Prop)(te:TE)(tl th:TO):TE:=λσ H Q=>te σ H λx H1=>tl σ H1 λl H2=>th σ H2 λu H3=>r x l u H3 Q
theorem GZ{r:V->Option Int->Option Int->Hp->VK->Prop}(hr:Nb X r)(he:PE X e te)(hl:PO X lo tl)(hu:PO X hi th):PE X (.Subscript e (.Slice lo hi none p2) pos) (tSl r te tl th):=by intro ae s σ H Q I h;refine Subscript_ (eJ (he ae s σ H _ I h) λv s1⟨x,H1,I1,r1,q1⟩=>?_);refine wpAny_Slice (eJ (hl ae s1 σ H1 _ I1 q1) λvl s2⟨l,H2,I2,pl,q2⟩=>eJ (hu ae s2 σ H2 _ I2 q2) λvu s3⟨u,H3,I3,pu,q3⟩=>?_);rw[ZM];refine VF ?_;have I4:a9 X ae σ H3 {s3 with heap:=s3.heap.push {cls:=.type "slice",data:=.fields #[vl,vu,.none]} }:=I3.kept (t':=s3.toks) λb ob q=>Vn _ q;obtain⟨T,id,hT,ht,hg⟩:=hr ae {s3 with heap:=s3.heap.push {cls:=.type "slice",data:=.fields #[vl,vu,.none]} } σ H3 x v vl vu l u s3.heap.objs.size Q I4 r1 (Heap.IsSliceOf.new ..) pl pu q3;show wpAny (model X.prog X.w) X.A (subscriptTail e (.Slice lo hi none p2) v (.ref s3.heap.objs.size)) (EP X ae σ Q) X.xe {s3 with heap:=s3.heap.push {cls:=.type "slice",data:=.fields #[vl,vu,.none]} };exact tail_any (ops:=[.ref s3.heap.objs.size,v]) ht hT hg (by with_unfolding_all rfl)
def yx(xs:List V)(lo hi:Option Int):List V:=(xs.drop (HT.gQ xs.length 0 lo)).take (HT.gQ xs.length xs.length hi-HT.gQ xs.length 0 lo)
theorem sO(xs:List V)(lo hi:Option Int):(yx xs lo hi).length<=xs.length:=by unfold yx;rw[Zv,Xm];lia
def aaz(K:_c):V->Option Int->Option Int->Hp->VK->Prop:=λx lo hi H Q=>∃a xs,x=.ref a/\oW K H a xs /\
 ¬ (HT.gQ xs.length 0 lo=0/\HT.gQ xs.length xs.length hi=xs.length)/\∀p,H p=none->Q (.ref p) (upd H p (.tup (yx xs lo hi)))
theorem OP:Nb X (aaz X.K):=by
 intro ae s σ H x v vl vu lo hi sl Q I rx hs pl pu h;obtain⟨a,xs,rfl,hx,hw,q⟩:=h;cases rx;obtain⟨aN,r,ht,hz⟩:=I.tuple hx;have hlen:aN.toArray.size=xs.length:=by rw[VG];exact r.length.symm
 refine⟨"tuple",_,XY.lookup,ht.typeIs,?_⟩;refine HT.p7 ht hs pl pu (by rw[hlen];exact hw) ?_ (by rw[hlen];exact hz);rw[hlen];refine⟨.ref s.heap.objs.size,_,I.laid (t':=s.toks) (o:=.tup (yx xs lo hi)) (λb ob q=>Vn _ q) (Vv _) ?_,rfl,q _ (I.dg.fresh (Vv _))⟩;exact⟨Wg (sO xs lo hi) hz,_,(r.drop (HT.gQ xs.length 0 lo)).take (HT.gQ xs.length xs.length hi-HT.gQ xs.length 0 lo),IsTup.new _ _⟩
def SJ(K:_c):R2:=λx y H Q=>∃a b xs ys,x=.ref a/\y=.ref b/\oW K H a xs/\oW K H b ys/\xs≠[]/\xs.length+ys.length<=sizeLine /\
 (ys=[]->Q (.ref a) H)/\(ys≠[]->∀p,H p=none->Q (.ref p) (upd H p (.tup (xs++ys))))
theorem bt.yy{xs:List V}{us:_e}(r:bt xs us):us=[]↔xs=[]:=by
 cases r with
 |nil=>simp
 |cons _ _=>simp
theorem KY:fV X (binaryOp .Add) (SJ X.K):=by intro ae s σ H x y v u Q I rx ry h;obtain⟨a,b,xs,ys,rfl,rfl,ha,hb,hx,hz,q1,q2⟩:=h;cases rx;cases ry;obtain⟨aN,r1,p1,_⟩:=I.tuple ha;obtain⟨e!,r2,p2,_⟩:=I.tuple hb;refine HT.KR p1 p2 (λz=>hx (r1.yy.mp z)) (λz=>⟨.ref a,H,I,rfl,q1 (r2.yy.mp z)⟩) (λz=>?_) (by rw[<-r1.length,<-r2.length];exact hz);refine⟨.ref s.heap.objs.size,_,I.laid (t':=s.toks) (o:=.tup (xs++ys)) (λb ob q=>Vn _ q) (Vv _) ?_,rfl,q2 (λw=>z (r2.yy.mpr w)) _ (I.dg.fresh (Vv _))⟩;exact⟨by rw[Vm];exact hz,_,r1.append r2,IsTup.new _ _⟩
end
def Aj(n:Nat)(i:Int):Option Nat:=if 0<=i then(if i<n then some i.toNat else none)else if -(n:Int)<=i then some (i+n).toNat else none
def mX(xs:List α)(i:Int):Option α:=(Aj xs.length i).bind λj=>xs[j]?
theorem Dl{n:Nat}{i:Int}{j:Nat}(h:Aj n i=some j):seqIndex? i n=some j/\j<n/\-(n:Int)<=i/\i<n:=by
 unfold Aj at h;by_cases h0:0<=i
 .rw[Vs h0]at h;by_cases h1:i<n
  .rw[Vs h1]at h;have e:i.toNat=j:=VU h;exact⟨by rw[Zh h0 h1,e],by lia,by lia,h1⟩
  .rw[VE h1]at h;cases h
 .rw[VE h0]at h;by_cases h1:-(n:Int)<=i
  .rw[Vs h1]at h;have e:(i+n).toNat=j:=VU h;exact⟨by rw[Y6 (by lia) h1,e],by lia,h1,by lia⟩
  .rw[VE h1]at h;cases h
theorem uu{xs:List α}{i:Int}{v:α}(h:mX xs i=some v):∃j,seqIndex? i xs.length=some j/\xs[j]?=some v/\j<xs.length/\-(xs.length:Int)<=i/\i<xs.length:=by
 unfold mX at h;cases e:Aj xs.length i with
 |none=>rw[e]at h;cases h
 |some j=>
  rw[e]at h;obtain⟨h1,h2,h3,h4⟩:=Dl e;exact⟨j,h1,h,h2,h3,h4⟩
theorem i?{xs:List α}{j:Nat}{v:α}(h:xs[j]?=some v):mX xs (j:Int)=some v:=by
 have hj:j<xs.length:=(VM.mp h).1;have e:Aj xs.length (j:Int)=some j:=by unfold Aj;rw[Vs (by lia),Vs (by lia)];simp
 unfold mX;rw[e];exact h
theorem G0(xs:List α)(v:α):mX (xs++[v]) (-1)=some v:=by
 have hl:(xs++[v]).length=xs.length+1:=by simp
 have e:Aj (xs++[v]).length (-1)=some xs.length:=by unfold Aj;rw[hl,VE (by decide),Vs (by lia)];congr 1;lia
 unfold mX;rw[e];show(xs++[v])[xs.length]?=some v;simp
def yz(b:Expr):Prop:=∀o i,subscripted b false o i=operate [o,i] (getItem o i)
def Bt(X:Cx)(r:R2):Prop:=
 ∀(value slice:Expr)(ae:_b)(s:_k)(σ:St)(H:Hp)(x y:V)(v u:_j)(Q:VK),a9 X ae σ H s->bM x v->bM y u->r x y H Q ->
  subscripted slice false v u=operate [v,u] (getItem v u)->wpAny (model X.prog X.w) X.A (subscriptTail value slice v u) (EP X ae σ Q) X.xe s
def MtR(X:Cx)(id:String)(r:V->List V->Hp->VK->Prop):Prop:=
 ∀(ae:_b)(s:_k)(σ:St)(H:Hp)(x:V)(xs:List V)(v:_j)(us:_e)(Q:VK),a9 X ae σ H s->bM x v->bt xs us->r x xs H Q ->
  wpAny (model X.prog X.w) X.A (call (.builtin id) (v::us)) (EP X ae σ Q) X.xe s
section
variable{a b:Expr}{ta tb:TE}{pos:Pos}
theorem Bt.or{r r':R2}(h:Bt X r)(h':Bt X r'):Bt X (λx y H Q=>r x y H Q\/r' x y H Q):=by
 intro value slice ae s σ H x y v u Q I rx ry q hs;rcases q with q|q
 .exact h value slice ae s σ H x y v u Q I rx ry q hs
 .exact h' value slice ae s σ H x y v u Q I rx ry q hs
theorem SK{r:R2}(hr:Bt X r)(ha:PE X a ta)(hb:PE X b tb)(hs:yz b):PE X (.Subscript a b pos) (Rn r ta tb):=by intro ae s σ H Q I h;exact Subscript_ (OB ha hb I h λv u s2 x y H2 I2 rx ry q=>hr a b ae s2 σ H2 x y v u Q I2 rx ry q (hs _ _))
def SM(K:_c):R2:=λx y H Q=>∃p xs i v,x=.ref p/\y=.int i/\oy K H p xs/\mX xs i=some v/\Q v H
def aaA(K:_c):R2:=λx y H Q=>∃p xs i v,x=.ref p/\y=.int i/\oW K H p xs/\mX xs i=some v/\Q v H
def aaB:R2:=λx y H Q=>∃z i c,x=.str z/\y=.int i/\z.length<=sizeLine/\mX z.cps.toList i=some c/\Q (.str ⟨#[c]⟩) H
theorem KZ:Bt X (SM X.K):=by
 intro value slice ae s σ H x y v u Q I rx ry h hs;obtain⟨p,xs,i,z,rfl,rfl,hq,he,q⟩:=h;cases rx;obtain⟨t,rfl⟩:=ry;obtain⟨aN,r,pl,hz⟩:=I.list hq;obtain⟨j,h1,h2,h3,h4,h5⟩:=uu he;obtain⟨w,ew,Ak⟩:=r.get h2;have hl:=r.length;have hn:=pA;have fin:EP X ae σ Q w s:=⟨z,H,I,Ak,q⟩
 by_cases h0:0<=i
 .have hj:i.toNat=j:=by rw[Zh h0 h5]at h1;exact VU h1
  exact item_listR pl.isList h0 (by lia) (by rw[hj];simpa using ew) fin hs
 .have hj:(i+(aN.toArray.size:Int)).toNat=j:=by rw[Y6 (by lia) h4]at h1;rw[VG,<-hl];exact VU h1
  exact subscriptTail_builtinR (x:=w) pl.isList.typeIs Y5.lookup
   (Z0 (Q:=λr s'=>r=w/\EP X ae σ Q r s') pl.isList (by lia) (by rw[VG]<;>lia) (by lia) (by rw[hj];simpa using ew) ⟨rfl,fin⟩) hs
theorem bD:Bt X (aaA X.K):=by
 intro value slice ae s σ H x y v u Q I rx ry h hs;obtain⟨p,xs,i,z,rfl,rfl,hq,he,q⟩:=h;cases rx;obtain⟨t,rfl⟩:=ry;obtain⟨aN,r,pl,hz⟩:=I.tuple hq;obtain⟨j,h1,h2,h3,h4,h5⟩:=uu he;obtain⟨w,ew,Ak⟩:=r.get h2;have hl:=r.length;have hn:=pA;have fin:EP X ae σ Q w s:=⟨z,H,I,Ak,q⟩
 exact subscriptTail_builtinR (x:=w) pl.typeIs slot_tuple_getitem.lookup
  (getItem_tuple (j:=j) (Q:=λr s'=>r=w/\EP X ae σ Q r s') pl (by lia) (by lia) (by rw[VG,<-hl];exact h1) (by simpa using ew) ⟨rfl,fin⟩) hs
theorem OQ:Bt X aaB:=by
 intro value slice ae s σ H x y v u Q I rx ry h hs;obtain⟨z,i,c,rfl,rfl,hz,he,q⟩:=h;obtain⟨t,rfl⟩:=rx;obtain⟨t',rfl⟩:=ry;obtain⟨j,h1,h2,h3,h4,h5⟩:=uu he;have hl:z.cps.toList.length=z.length:=by simp[Str.length]
 rw[hl]at h1 h4 h5;have hn:=pA;exact tail_any (typeIs_str s z t) slot_str_getitem.lookup (getItem_str (c:=c) (by
  have e1:decide (i < -(2 ^ 63:Int))=false:=V2 (by lia);have e2:decide (i ≥ 2 ^ 63)=false:=V2 (by lia);rw[e1,e2,Bool.or_false]) (by rw[h1];simpa using h2) ⟨.str ⟨#[c]⟩,H,I.tok _,⟨_,rfl⟩,q⟩) hs
theorem BN(aN:_e)(n j:Nat)(u:_j):Obj.mapSeq (·.setIfInBounds j u) {cls:=.type "list",data:=.seq aN.toArray n} = {cls:=.type "list",data:=.seq (aN.set j u).toArray n}:=by simp[Obj.mapSeq]
theorem a9.lst{ae:_b}{σ:St}{H:Hp}{s:_k}{p:_l}{xs:List V}(I:a9 X ae σ H s)(h:H p=some (.lst xs)):
  ∃(aN:_e)(n:Nat),bt xs aN/\s.heap.get? p=some {cls:=.type "list",data:=.seq aN.toArray n}/\xs.length<=sizeLine:=by
 obtain⟨z,aN,n,r,e⟩:=I.dg p _ h;exact⟨aN,n,r,e,z⟩
theorem a9.OR{p:_l}{xs ys:List V}{its':_e}{n n':Nat}{f:Obj->Obj}(I:a9 X ae σ H s)(h:H p=some (.lst xs))(ho:s.heap.get? p=some {cls:=.type "list",data:=.seq aN.toArray n})(hf:f {cls:=.type "list",data:=.seq aN.toArray n} = {cls:=.type "list",data:=.seq its'.toArray n'})(r:bt ys its')(hz:ys.length<=sizeLine)(t:Nat):
  a9 X ae σ (upd H p (.lst ys)) {s with heap:=s.heap.update p f,toks:=t}:=by
 have e:(s.heap.update p f).get? p=some {cls:=.type "list",data:=.seq its'.toArray n'}:=by rw[Xb f ho (by rw[hf]<;>rfl),hf]
 refine I.write (x:=p) (e:=p) (by rw[h];trivial) (.inl rfl) (λb u hb q=>(Wn _ _ (W5 hb)).trans q) ⟨_,e⟩ ?_;exact⟨hz,its',n',r,e⟩
def Nc:V->V->V->Hp->(Hp->Prop)->Prop:=λo i v H Q=>∃p xs k j,o=.ref p/\i=.int k/\H p=some (.lst xs)/\Aj xs.length k=some j/\Q (upd H p (.lst (xs.set j v)))
theorem set_list:Oo X Nc:=by
 intro ae s σ H o i v ov iv u Q I ro ri rv h;obtain⟨p,xs,k,j,rfl,rfl,hp,hj,q⟩:=h;cases ro;obtain⟨t,rfl⟩:=ri;obtain⟨aN,n,r,ho,hz⟩:=I.lst hp;obtain⟨h1,h2,h3,h4⟩:=Dl hj;have hl:=r.length;have hn:=pA;have I':a9 X ae σ (upd H p (.lst (xs.set j v))) {s with heap:=s.heap.update p (Obj.mapSeq (·.setIfInBounds j u))}:=
  I.OR hp ho (BN aN n j u) (r.set rv j) (by rw[Wt];exact hz) s.toks
 by_cases h0:0<=k
 .have hk:k.toNat=j:=by rw[Zh h0 h4]at h1;exact VU h1
  exact W.ki_setAt ho h0 (by lia) (by rw[VG,<-hl];exact h4) (by rw[hk];exact⟨_,I',q⟩)
 .have hk:(k+(aN.toArray.size:Int)).toNat=j:=by rw[Y6 (by lia) h3]at h1;rw[VG,<-hl];exact VU h1
  exact W.ki_setBack ho (by lia) (by rw[VG,<-hl];exact h3) (by lia) (by rw[hk];exact⟨_,I',q⟩)
theorem yA(lo hi:Option Int)(n:Nat):(sliceBounds lo hi none n).1=((HT.gQ n 0 lo:Nat):Int)/\(sliceBounds lo hi none n).2.1=((HT.gQ n n hi:Nat):Int)/\(sliceBounds lo hi none n).2.2=1:=by
 refine⟨?_,?_,rfl⟩
 .cases lo with
  |none=>simp[sliceBounds,HT.gQ]
  |some i=>
   simp only[sliceBounds,HT.gQ,Option.getD_none,show(1:Int)>0 by decide,Zd];by_cases h:i<0
   .simp only[h,Zd]<;>lia
   .simp only[h,Yr]<;>lia
 .cases hi with
  |none=>simp[sliceBounds,HT.gQ]
  |some i=>
   simp only[sliceBounds,HT.gQ,Option.getD_none,show(1:Int)>0 by decide,Zd];by_cases h:i<0
   .simp only[h,Zd]<;>lia
   .simp only[h,Yr]<;>lia
theorem w6(aN:_e)(lo hi:Option Int):slicePick aN.toArray lo hi none=((aN.drop (HT.gQ aN.length 0 lo)).take (HT.gQ aN.length aN.length hi-HT.gQ aN.length 0 lo)).toArray:=by obtain⟨h1,h2,h3⟩:=yA lo hi aN.toArray.size;unfold slicePick;rw[h1,h2,h3];simp only[sliceRange_one,pick_run,VG]<;>rfl
def aaC(K:_c):V->Option Int->Option Int->Hp->VK->Prop:=λx lo hi H Q=>∃a xs,x=.ref a/\oy K H a xs/\∀p,H p=none->Q (.ref p) (upd H p (.lst (yx xs lo hi)))
theorem K0:Nb X (aaC X.K):=by intro ae s σ H x v vl vu lo hi sl Q I rx hs pl pu h;obtain⟨a,xs,rfl,hx,q⟩:=h;cases rx;obtain⟨aN,r,ht,hz⟩:=I.list hx;have hlen:=r.length;refine⟨"list",_,Y5.lookup,ht.isList.typeIs,?_⟩;refine ZJ ht.isList hs pl pu .none (by simp) ?_ (by rw[VG]<;>lia);rw[w6,<-hlen];refine⟨.ref s.heap.objs.size,_,I.laid (t':=s.toks) (o:=.lst (yx xs lo hi)) (λb ob q=>Vn _ q) (Vv _) ?_,rfl,q _ (I.dg.fresh (Vv _))⟩;exact⟨Wg (sO xs lo hi) hz,_,0,(r.drop (HT.gQ xs.length 0 lo)).take (HT.gQ xs.length xs.length hi-HT.gQ xs.length 0 lo),VV _ rfl⟩
def mY:V->Bool
 |.dD=>true
 |.bl _=>true
 |.int _=>true
 |.str _=>true
 |_=>false
def Kd:V->V->Bool
 |.dD,.dD=>true
 |.bl a,.bl b=>a==b
 |.bl a,.int b=>(if a then 1 else 0)==b
 |.int a,.bl b=>a==(if b then 1 else 0)
 |.int a,.int b=>a==b
 |.str a,.str b=>a==b
 |_,_=>false
theorem OS{y x:V}{u v:_j}(ry:bM y u)(rx:bM x v)(fy:mY y=true)(fx:mY x=true):SeqAt.EqAt A s u v (Kd y x):=by
 cases y with
 |dD=>
  cases ry;cases x with
  |dD=>cases rx;exact YB _
  |bl b=>cases rx;exact SeqAt.EqAt.none_bool b
  |int b=>obtain⟨t,rfl⟩:=rx;exact SeqAt.EqAt.none_int b t
  |str b=>obtain⟨t,rfl⟩:=rx;exact SeqAt.EqAt.none_str b t
  |_=>exact absurd (show false=true from fx) VY
 |bl a=>
  cases ry;cases x with
  |dD=>cases rx;exact SeqAt.EqAt.bool_none a
  |bl b=>cases rx;exact SeqAt.EqAt.bool_bool a b
  |int b=>obtain⟨t,rfl⟩:=rx;exact SeqAt.EqAt.bool_int a b t
  |str b=>obtain⟨t,rfl⟩:=rx;exact SeqAt.EqAt.bool_str a b t
  |_=>exact absurd (show false=true from fx) VY
 |int a=>
  obtain⟨t',rfl⟩:=ry;cases x with
  |dD=>cases rx;exact SeqAt.EqAt.int_none a t'
  |bl b=>cases rx;exact SeqAt.EqAt.int_bool a t' b
  |int b=>obtain⟨t,rfl⟩:=rx;exact SeqAt.EqAt.int_int a t' b t
  |str b=>obtain⟨t,rfl⟩:=rx;exact YZ a t' b t
  |_=>exact absurd (show false=true from fx) VY
 |str a=>
  obtain⟨t',rfl⟩:=ry;cases x with
  |dD=>cases rx;exact SeqAt.EqAt.str_none a t'
  |bl b=>cases rx;exact SeqAt.EqAt.str_bool a t' b
  |int b=>obtain⟨t,rfl⟩:=rx;exact YY a t' b t
  |str b=>obtain⟨t,rfl⟩:=rx;exact SeqAt.EqAt.str_str a t' b t
  |_=>exact absurd (show false=true from fx) VY
 |_=>exact absurd (show false=true from fy) VY
def K2(x:V)(u:_j):Bool:=match u with
 |.none=>Kd .dD x
 |.bool b=>Kd (.bl b) x
 |.int i _=>Kd (.int i) x
 |.str z _=>Kd (.str z) x
 |_=>false
theorem G4{x y:V}{u:_j}(r:bM y u)(f:mY y=true):K2 x u=Kd y x:=by
 cases y with
 |dD=>cases r;rfl
 |bl b=>cases r;rfl
 |int i=>obtain⟨t,rfl⟩:=r;rfl
 |str z=>obtain⟨t,rfl⟩:=r;rfl
 |_=>exact absurd (show false=true from f) VY
theorem yB{x:V}:∀{xs:List V}{us:_e},bt xs us->xs.all mY=true->us.any (K2 x)=xs.any λy=>Kd y x
 |_,_,.nil,_=>rfl
 |y::xs,u::us,.cons r t,f=>by rw[Yo,Xe]at f;rw[XZ,XZ,G4 r f.1,yB t f.2]
theorem u4{A:_m}{s:_k}{x:V}{v:_j}(rx:bM x v)(fx:mY x=true):∀{xs:List V}{us:_e},bt xs us->xs.all mY=true->∀u∈us,SeqAt.EqAt A s u v (K2 x u)
 |_,_,.nil,_=>λu hu=>by cases hu
 |y::xs,u::us,.cons r t,f=>λu' hu=>by
  rw[Yo,Xe]at f;rcases V_.mp hu with rfl|hu
  .rw[G4 r f.1];exact OS r rx f.1 fx
  .exact u4 rx fx t f.2 u' hu
def Vg(x:V)(xs:List V):Bool:=xs.any λy=>Kd y x
def rIn(K:_c)(neg:Bool):R2:=λx y H Q=>∃p xs,y=.ref p/\(oy K H p xs\/oW K H p xs)/\mY x=true/\xs.all mY=true/\Q (.bl (if neg then !Vg x xs else Vg x xs)) H
theorem EO:fV X (compareOp .In) (rIn X.K false):=by
 intro ae s σ H x y v u Q I rx ry h;obtain⟨p,xs,rfl,hq,fx,fs,q⟩:=h;cases ry;rcases hq with hq|hq
 .obtain⟨aN,r,pl,hz⟩:=I.list hq;refine SeqAt.in_listAt (K2 x) pl.isList (λw hw=>u4 rx fx r fs w (by simpa using hw)) ⟨.bl _,H,I,rfl,?_⟩;rw[show aN.toArray.any (K2 x)=aN.any (K2 x) by simp,yB r fs];exact q
 .obtain⟨aN,r,pl,hz⟩:=I.tuple hq;refine SeqAt.in_tupleAt (K2 x) pl (λw hw=>u4 rx fx r fs w (by simpa using hw)) ⟨.bl _,H,I,rfl,?_⟩;rw[show aN.toArray.any (K2 x)=aN.any (K2 x) by simp,yB r fs];exact q
theorem yC:cR X (.builtin "len") (λxs H Q=>∃p ys,xs=[.ref p]/\(oy X.K H p ys\/oW X.K H p ys)/\Q (.int ys.length) H):=by
 intro ae s σ H xs us Q I r h;obtain⟨p,ys,rfl,hq,q⟩:=h;obtain⟨u,rfl,rx⟩:=vals1 r;cases rx;have hn:=pA;rcases hq with hq|hq
 .obtain⟨aN,r',pl,hz⟩:=I.list hq;have hlen:=r'.length;exact Calls.call_len_list pl.isList (by simp only[VG]<;>lia) ⟨.int ys.length,H,I.tok _,⟨s.toks+1,by rw[VG,hlen]⟩,q⟩
 .obtain⟨aN,r',pl,hz⟩:=I.tuple hq;have hlen:=r'.length;exact len_tuple pl (by simp only[VG]<;>lia) ⟨.int ys.length,H,I.tok _,⟨s.toks+1,by rw[VG,hlen]⟩,q⟩
theorem yD:cR X (.builtin "len") (λxs H Q=>∃z,xs=[.str z]/\z.length<=sizeLine/\Q (.int z.length) H):=by intro ae s σ H xs us Q I r h;obtain⟨z,rfl,hz,q⟩:=h;obtain⟨u,rfl,t,rfl⟩:=vals1 r;have hn:=pA;exact len_str (by lia) ⟨.int z.length,H,I.tok _,⟨_,rfl⟩,q⟩
theorem cR.or{f:_j}{r r':List V->Hp->VK->Prop}(h:cR X f r)(h':cR X f r'):cR X f (λxs H Q=>r xs H Q\/r' xs H Q):=by
 intro ae s σ H xs us Q I rs q;rcases q with q|q
 .exact h ae s σ H xs us Q I rs q
 .exact h' ae s σ H xs us Q I rs q
theorem yE:cR X (.type "list") (λxs H Q=>∃p ys,xs=[.ref p]/\(oy X.K H p ys\/oW X.K H p ys)/\∀l,H l=none->Q (.ref l) (upd H l (.lst ys))):=by
 intro ae s σ H xs us Q I r h;obtain⟨p,ys,rfl,hq,q⟩:=h;obtain⟨u,rfl,rx⟩:=vals1 r;cases rx;have fin:∀(aN:_e),bt ys aN->ys.length<=sizeLine->∀(h':Heap)(c':Nat),(∀b o',s.heap.get? b=some o'->h'.get? b=some o') ->
   h'.get? s.heap.objs.size=some {cls:=.type "list",dict:=none,data:=.seq aN.toArray c',slots:=#[]}->EP X ae σ Q (.ref s.heap.objs.size) {s with heap:=h'}:=λaN r' hz h' c' kp e=>
  ⟨.ref s.heap.objs.size,_,I.laid (t':=s.toks) kp (Vv _) (show dA X.prog X.w _ h' _ (.lst ys) from⟨hz,aN,c',r',e⟩),rfl,q _ (I.dg.fresh (Vv _))⟩
 rcases hq with hq|hq
 .obtain⟨aN,r',pl,hz⟩:=I.list hq;have hlen:=r'.length;obtain⟨o,ho,hc,n,hd⟩:=pl.isList;exact call_list_seq p (.inl rfl) ho hc hd (λh' c' kp e=>fin aN r' hz h' c' kp e) (by simp only[VG]<;>lia)
 .obtain⟨aN,r',pl,hz⟩:=I.tuple hq;have hlen:=r'.length;obtain⟨o,ho,hc,n,hd⟩:=pl;exact call_list_seq p (.inr rfl) ho hc hd (λh' c' kp e=>fin aN r' hz h' c' kp e) (by simp only[VG]<;>lia)
theorem w9:cR X (.type "tuple") (λxs H Q=>∃p ys,xs=[.ref p]/\((oy X.K H p ys/\∀l,H l=none->Q (.ref l) (upd H l (.tup ys)))\/(oW X.K H p ys/\Q (.ref p) H))):=by
 intro ae s σ H xs us Q I r h;obtain⟨p,ys,rfl,h⟩:=h;obtain⟨u,rfl,rx⟩:=vals1 r;cases rx;rcases h with⟨hq,q⟩|⟨hq,q⟩
 .obtain⟨aN,r',pl,hz⟩:=I.list hq;have hlen:=r'.length;refine call_tuple_list pl.isList (λh' kp=>?_) (by simp only[VG]<;>lia);have I1:a9 X ae σ H {s with heap:=h'}:=I.kept (t':=s.toks) kp;have I2:a9 X ae σ (upd H h'.objs.size (.tup ys)) {s with heap:=h'.push {cls:=.type "tuple",data:=.seq aN.toArray} }:=
   I1.laid (t':=s.toks) (λb o e=>Vn _ e) (Vv _) (show dA X.prog X.w _ _ _ (.tup ys) from⟨hz,aN,r',IsTup.new _ _⟩)
  exact⟨.ref h'.objs.size,_,I2,rfl,q _ (I1.dg.fresh (Vv _))⟩
 .obtain⟨aN,r',pl,hz⟩:=I.tuple hq;exact call_tuple_same pl ⟨.ref p,H,I,rfl,q⟩
def Vh(K:_c)(T:String)(x:V)(H:Hp):Prop:=match x with
 |.str _=>T = "str"
 |.int _=>T = "int"
 |.ref p=>(T = "list" /\ ∃xs,oy K H p xs)\/(T = "tuple" /\ ∃o,K.lookup p=some o/\o.cls=.type "tuple" /\ o.dict=none) \/
   (T = "dict" /\ ((∃aY,H p=some (.dK aY))\/∃aY,H p=some (.dT aY)))\/(T = "set" /\ ∃S n,H p=some (.set S n))
 |_=>False
theorem G5{T:String}{x:V}{v:_j}(I:a9 X ae σ H s)(r:bM x v)(ty:Vh X.K T x H):
  s.TypeIs v T/\∀a,v=.ref a->∃ob,s.heap.get? a=some ob/\ob.dict=none:=by
 cases x with
 |str z=>
  obtain⟨t,rfl⟩:=r;cases(show T = "str" from ty);exact⟨typeIs_str s z t,λ_ e=>nomatch e⟩
 |int i=>
  obtain⟨t,rfl⟩:=r;cases(show T = "int" from ty);exact⟨typeIs_int s i t,λ_ e=>nomatch e⟩
 |ref p=>
  cases r;rcases ty with⟨rfl,xs,hq⟩|⟨rfl,o,hk,hc,hd⟩|⟨rfl,hk⟩|⟨rfl,S,n,hk⟩
  .obtain⟨aN,_,pl,_⟩:=I.list hq;refine⟨pl.isList.typeIs,λa e=>?_⟩;cases e;obtain⟨o,n,e,c,hd,_⟩:=pl;exact⟨o,e,hd⟩
  .refine⟨⟨o,I.zW p o hk,hc⟩,λa e=>?_⟩;cases e;exact⟨o,I.zW _ o hk,hd⟩
  .have z:∃o,s.heap.get? p=some o/\o.ExactDict:=by
    rcases hk with⟨aY,hk⟩|⟨aY,hk⟩
    .obtain⟨_,_,_,_,o,_,_,e,ex,_⟩:=I.dg p _ hk;exact⟨o,e,ex⟩
    .obtain⟨_,_,_,_,o,_,_,e,ex,_⟩:=I.dg p _ hk;exact⟨o,e,ex⟩
   obtain⟨o,e,ex⟩:=z;refine⟨⟨o,e,ex.1⟩,λa e2=>?_⟩;cases e2;exact⟨o,e,ex.2.1⟩
  .obtain⟨o,_,_,_,e,ex,_⟩:=I.dg p _ hk;refine⟨⟨o,e,ex.1⟩,λa e2=>?_⟩;cases e2;exact⟨o,e,ex.2.1⟩
 |_=>exact False.elim ty
def aaD(K:_c)(T:String)(r:V->List V->Hp->VK->Prop)(to:TE):TE:=λσ H Q=>to σ H λx H1=>Vh K T x H1/\r x [] H1 Q
def tBM(K:_c)(T:String)(r:V->List V->Hp->VK->Prop)(to:TE)(t:TA):TE:=λσ H Q=>to σ H λx H1=>Vh K T x H1/\t σ H1 λxs H2=>r x xs H2 Q
variable{e:Expr}{to:TE}{t:TA}{T id:String}{r:V->List V->Hp->VK->Prop}
theorem OT(pa:PlainAttrs T)(slot:Slot T name id)(OU:typeOf (.builtin id)=pure (.type "method_descriptor"))(hm:MtR X id r)(ho:PE X o to)(ki:attributeBase o name X.env (eval o X.env)=eval o X.env:=by rfl)(kj:(apos.endLine==dN.line)=true:=by rfl):PE X (.Call (.Attribute o name apos) [] [] dN) (aaD X.K T r to):=by intro ae s σ H Q I h;refine wpAny_Call_method0_late ki kj (eJ (ho ae s σ H _ I h) λv s1⟨x,H1,I1,r1,ty,q1⟩=>?_);obtain⟨h1,h2⟩:=G5 I1 r1 ty;exact⟨T,id,pa,slot,OU,h1,h2,Z7 rfl (PySem.evalArgs_none (hm ae s1 σ H1 x [] v [] Q I1 r1 .nil q1))⟩
theorem SN(pa:PlainAttrs T)(slot:Slot T name id)(OU:typeOf (.builtin id)=pure (.type "method_descriptor"))(hm:MtR X id r)(ho:PE X o to)(ha:PA X (e::es) t)(ki:attributeBase o name X.env (eval o X.env)=eval o X.env:=by rfl)
  (BO:((backTo dN (starEach (e::es) X.env)).all (λx => !x.1)&&(backToKw dN (keywordEach [] X.env)).all (λx=>x.1.isSome)
   && decide ((e::es).length+([]:List Keyword).length+(if([]:List Keyword).isEmpty then 0 else 1)<30))=true:=by rfl)
  (kj:(apos.endLine==dN.line)=true:=by rfl) (hs:starEach (e::es) X.env=(false,eval e X.env)::starEach es X.env:=by rfl) (pB:(backTo dN (starEach es X.env)).any (·.1)=false:=by rfl):
  PE X (.Call (.Attribute o name apos) (e::es) [] dN) (tBM X.K T r to t):=by
 intro ae s σ H Q I h;refine wpAny_Call_method_late ki BO kj rfl (eJ (ho ae s σ H _ I h) λv s1⟨x,H1,I1,r1,ty,q1⟩=>?_);obtain⟨h1,h2⟩:=G5 I1 r1 ty;refine⟨T,id,pa,slot,OU,h1,h2,?_⟩;have hA:=ha dN ae s1 σ H1 _ I1 q1;rw[hs]at hA⊢;refine Z7 (by show(false || (backTo dN (starEach es X.env)).any (·.1))=false;rw[pB]<;>rfl) (Calls.evalArgs_plain ?_);exact eJ hA λus s2⟨vs,H2,I2,r2,q2⟩=>hm ae s2 σ H2 x vs v us Q I2 r1 r2 q2
end
def Dm(X:Cx)(id:String)(r:V->List V->Hp->VK->Prop):Prop:=
 ∀(ae:_b)(s:_k)(σ:St)(H:Hp)(x:V)(xs:List V)(v:_j)(us:_e)(Q:VK),a9 X ae σ H s->bM x v->bt xs us->r x xs H Q ->
  wpAny (model X.prog X.w) X.A (call (.builtin id) (v::us)) (EP X ae σ Q) X.xe s
theorem bt.one{x:V}{us:_e}(p:bt [x] us):∃u,us=[u]/\bM x u:=by
 cases p with
 |cons r t=>cases t;exact⟨_,rfl,r⟩
theorem bt.two{x y:V}{us:_e}(p:bt [x,y] us):∃u v,us=[u,v]/\bM x u/\bM y v:=by
 cases p with
 |cons r t=>
  obtain⟨v,z,q⟩:=bt.one t;rw[z];exact⟨_,v,rfl,r,q⟩
theorem bt.zero:∀{us:_e},bt [] us->us=[]
 |_,.nil=>rfl
theorem bt.dropLast{xs:List V}{us:_e}(h:bt xs us):bt xs.dropLast us.dropLast:=by
 induction h with
 |nil=>exact .nil
 |cons r t ih=>
  cases t with
  |nil=>exact .nil
  |cons q t'=>exact .cons r ih
theorem bt.rep{xs:List V}{us:_e}(h:bt xs us):∀k:Nat,bt (List.replicate k xs).flatten (List.replicate k us).flatten
 |0=>.nil
 |k+1=>by rw[VN,VN,XE,XE];exact bt.append h (bt.rep h k)
theorem BP(l:List α):l.eraseIdx (l.length-1)=l.dropLast:=by grind
theorem foldl_rep(aN:_e):∀(k:Nat)(acc:_e),
  List.foldl (λx1 x2=>x1++x2) acc.toArray (List.replicate k aN.toArray)=(acc++(List.replicate k aN).flatten).toArray
 |0,acc=>by simp
 |k+1,acc=>by
  have e:acc.toArray++aN.toArray=(acc++aN).toArray:=by simp
  have e2:(acc++aN)++(List.replicate k aN).flatten=acc++(List.replicate (k+1) aN).flatten:=by rw[VN,XE,V6]
  rw[<-e2,<-foldl_rep aN k (acc++aN),<-e,VN,List.foldl_cons]
section
variable{l b:_l}{xs ys zs:List V}
theorem a9.OW{its':_e}{n:Nat}{f:Array _j->Array _j}{t':Nat}(I:a9 X ae σ H s)(hH:H l=some (.lst xs))(e:s.heap.get? l=some {cls:=.type "list",data:=.seq aN.toArray n})(hf:f aN.toArray=its'.toArray)(hv:bt ys its')(hz:ys.length<=sizeLine):
  a9 X ae σ (upd H l (.lst ys)) {s with heap:=s.heap.update l (Obj.mapSeq f),toks:=t'}:=by
 have q:=Z4 e f;rw[hf]at q;refine I.write (x:=l) (e:=l) (by rw[hH];exact trivial) (.inl rfl) (λb' u hb hu=>(Wn s.heap (Obj.mapSeq f) (W5 hb)).trans hu) ⟨_,q⟩ ?_;exact⟨hz,its',_,hv,q⟩
theorem a9.SQ{t':Nat}(I:a9 X ae σ H s)(hv:bt ys aN)(hz:ys.length<=sizeLine):
  a9 X ae σ (upd H s.heap.objs.size (.lst ys)) {s with heap:=s.heap.push {cls:=.type "list",data:=.seq aN.toArray},toks:=t'}:=
 I.laid (λ_ _ q=>Vn _ q) (Vv _) ⟨hz,aN,0,hv,VV _ rfl⟩
theorem a9.fresh(I:a9 X ae σ H s):H s.heap.objs.size=none:=I.dg.fresh (Vv _)
theorem a9.BQ(I:a9 X ae σ H s)(hH:H l=some (.lst xs)):xs.length<=sizeLine/\∃(aN:_e)(n:Nat),bt xs aN/\xs.length=aN.length/\s.heap.get? l=some {cls:=.type "list",data:=.seq aN.toArray n}:=by obtain⟨z,aN,n,r,e⟩:=I.dg l _ hH;exact⟨z,aN,n,r,r.length,e⟩
theorem Al{n:Nat}(h:n<=sizeLine):Builtin.List.listTooLong n=false:=by unfold Builtin.List.listTooLong;exact V2 (by lia)
end
def K3:V->List V->Hp->VK->Prop:=λx vs H Q=>∃l xs y,x=.ref l/\vs=[y]/\H l=some (.lst xs)/\xs.length<sizeLine/\Q .dD (upd H l (.lst (xs++[y])))
theorem ER:Dm X "list.append" K3:=by intro ae s σ H x vs v us Q I rx rv h;obtain⟨l,xs,y,rfl,rfl,hH,hz,q⟩:=h;cases rx;obtain⟨u,rfl,ru⟩:=rv.one;obtain⟨z,aN,n,r,hl,e⟩:=I.BQ hH;refine Yt F.slot_list_append ⟨_,e,rfl⟩ F.entry_list_append (F.args_list_append_2 _ _) (ZS l aN.toArray n u (by rw[VG];lia)) ⟨e,?_⟩;refine⟨.dD,_,I.OW (its':=aN++[u]) hH e (by simp) (r.append (.cons ru .nil)) ?_,rfl,q⟩;rw[Vm,VO];lia
def K4:V->List V->Hp->VK->Prop:=λx vs H Q=>∃l b xs zs,x=.ref l/\vs=[.ref b]/\H l=some (.lst xs)/\H b=some (.lst zs)/\xs.length+zs.length<=sizeLine/\Q .dD (upd H l (.lst (xs++zs)))
theorem ES:Dm X "list.extend" K4:=by
 intro ae s σ H x vs v us Q I rx rv h;obtain⟨l,b,xs,zs,rfl,rfl,hH,hB,hz,q⟩:=h;cases rx;obtain⟨u,rfl,ru⟩:=rv.one;cases ru;obtain⟨z,aN,n,r,hl,e⟩:=I.BQ hH;obtain⟨z2,e!,n2,r2,uv,e2⟩:=I.BQ hB;have hsz:aN.toArray.size+e!.toArray.size<=sizeLine:=by rw[VG,VG];lia
 have G6:¬ (!aN.toArray.isEmpty&&Builtin.List.listTooLong (aN.toArray.size+e!.toArray.size))=true:=by rw[Al hsz,Y?];exact VY
 refine Yt F.slot_list_extend ⟨_,e,rfl⟩ F.entry_list_extend (F.args_list_extend_2 _ _)
  (AutoSeq1.list_extend_list_list_0 l aN.toArray n b e!.toArray n2 G6 (by rw[VG];lia) (by lia)) ⟨e,e2,?_⟩
 refine⟨.dD,_,I.OW (its':=aN++e!) hH e (by simp) (r.append r2) ?_,rfl,q⟩;rw[Vm];lia
def aaE:V->List V->Hp->VK->Prop:=λx vs H Q=>∃l xs y,x=.ref l/\vs=[]/\H l=some (.lst xs)/\xs[xs.length-1]?=some y/\Q y (upd H l (.lst xs.dropLast))
theorem OX:Dm X "list.pop" aaE:=by
 intro ae s σ H x vs v us Q I rx rv h;obtain⟨l,xs,y,rfl,rfl,hH,hy,q⟩:=h;cases rx;have hus:=rv.zero;subst hus;obtain⟨z,aN,n,r,hl,e⟩:=I.BQ hH;obtain⟨u,hu,ru⟩:=r.get hy;have hy':aN.toArray[aN.toArray.size-1]?=some u:=by show aN.toArray[aN.length-1]?=some u;rw[<-WH,<-hl];exact hu
 refine Yt F.slot_list_pop ⟨_,e,rfl⟩ F.entry_list_pop (F.args_list_pop_1 _) (MeetsSeq.list_pop_last l aN.toArray n u hy' (by rw[VG];lia)) ⟨e,?_⟩;refine⟨y,_,I.OW (its':=aN.dropLast) hH e ?_ r.dropLast ?_,ru,q⟩
 .show aN.toArray.eraseIdxIfInBounds (aN.toArray.size-1)=aN.dropLast.toArray;rw[VG,List.eraseIdxIfInBounds_toArray,BP]
 .rw[List.length_dropLast];lia
def aaF:R2:=λx y H Q=>∃l b xs zs,x=.ref l/\y=.ref b/\H l=some (.lst xs)/\H b=some (.lst zs)/\xs.length+zs.length<=sizeLine/\∀p,H p=none->Q (.ref p) (upd H p (.lst (xs++zs)))
theorem OY:fV X (binaryOp .Add) aaF:=by
 intro ae s σ H x y v u Q I rx ry h;obtain⟨l,b,xs,zs,rfl,rfl,hH,hB,hz,q⟩:=h;cases rx;cases ry;obtain⟨z,aN,n,r,hl,e⟩:=I.BQ hH;obtain⟨z2,e!,n2,r2,uv,e2⟩:=I.BQ hB;refine PySem.P.add_list e e2 ?_ (by rw[VG,VG];lia);have ea:aN.toArray++e!.toArray=(aN++e!).toArray:=by simp
 rw[ea];exact⟨.ref _,_,I.SQ (t':=s.toks) (r.append r2) (by rw[Vm];lia),rfl,q _ I.fresh⟩
def aaG:R2:=λx y H Q=>∃l k xs,x=.ref l/\y=.int k/\H l=some (.lst xs)/\-(2 ^ 63)<=k/\k<2 ^ 63/\xs.length*k.toNat<=sizeLine /\
 ∀p,H p=none->Q (.ref p) (upd H p (.lst (List.replicate k.toNat xs).flatten))
theorem len_rep(xs:List α)(k:Nat):(List.replicate k xs).flatten.length=k*xs.length:=by simp_all
theorem OZ:fV X (binaryOp .Mult) aaG:=by
 intro ae s σ H x y v u Q I rx ry h;obtain⟨l,k,xs,rfl,rfl,hH,h1,h2,hz,q⟩:=h;cases rx;obtain⟨t,rfl⟩:=ry;obtain⟨z,aN,n,r,hl,e⟩:=I.BQ hH;have hlen:aN.toArray.size*k.toNat<=sizeLine:=by rw[VG,<-hl];exact hz
 have gH:¬ aN.toArray.size*k.toNat>(2 ^ 63-1) / 8:=by
  have:(sizeLine:Nat)<=(2 ^ 63-1) / 8:=by decide
  lia
 have aaH:¬ (!Builtin.List.listFitsIndex k)=true:=by rw[fitsIndex_both h1 h2];exact VY
 have G6:¬ Builtin.List.listTooLong (aN.toArray.size*k.toNat)=true:=by rw[Al hlen];exact VY
 have aaI:List.foldl (λx1 x2=>x1++x2) #[] (List.replicate (if aN.toArray.isEmpty=true then 0 else k.toNat) aN.toArray)=(List.replicate k.toNat aN).flatten.toArray:=by
  have f0:∀m:Nat,List.foldl (λx1 x2=>x1++x2) #[] (List.replicate m aN.toArray)=(List.replicate m aN).flatten.toArray:=λm=>by have:=foldl_rep aN m [];rw[Vx]at this;exact this
  rw[f0];cases aN with
  |nil=>simp
  |cons a r'=>rw[VE (by simp)]
 refine wpAny_binaryOp_repeat_ref (T:="list") (U:="int") (by decide) ⟨_,e,rfl⟩ (λs'=>typeIs_int s' k t) noFill_list_mul F.fills_int_mul F.slot_int_rmul repeat_list F.slot_int_index.lookup
  (Yt F.slot_int_rmul (typeIs_int s k t) F.entry_int_rmul (F.args_int_rmul_2 _ _) (int___rmul___int_list k t l aN.toArray n)
   ⟨e,rfl,⟨_,e,rfl⟩,Yt F.slot_list_mul ⟨_,e,rfl⟩ F.entry_list_mul (F.args_list_mul_2 _ _) (AutoListH.list___mul___list_int_3 l aN.toArray n k t aaH gH G6) ⟨e,?_⟩⟩)
 rw[aaI];exact⟨.ref _,_,I.SQ (t':=s.toks) (r.rep k.toNat) (by rw[len_rep,Nat.mul_comm];exact hz),rfl,q _ I.fresh⟩
end L2
namespace Att
open PySem.W PySem.Calls PyProof.Rows
theorem tN{P:Params}:∀(ns:_d)(vs:_e),WellAll P h vs (ns.map WData.int)->IntsAre vs ns:=by
 intro ns
 induction ns with
 |nil=>
  intro vs w;rw[VQ]at w;cases w;exact .nil
 |cons n ns ih=>
  intro vs w;rw[Vq]at w;cases w with
  |cons a b=>
   cases a;exact .cons _ _ (ih _ b)
theorem ET{l:OpenLaw}{n:Nat}(hn:l.most=some n){P:Params}{args:List WData}{vals:_e}(K5:l.row.toRowW.claim.pre args=true)(hwl:WellAll P h vals args):
  ∃a vs ns,vals=[Value.ref a]/\args=[WData.list (ns.map WData.int)]/\h.get? a=some {cls:=.type "list",data:=.seq vs.toArray}/\IntsAre vs ns/\ns.length<=n:=by
 have hsh:WShape.hasAll [] args [.list .int]=true:=(pre_splitW K5).1;have hc:l.pre.holds [] {args:=args} = true:=(pre_splitW K5).2;obtain⟨d,r,rfl,h1,h2⟩:=hasAllW_cons hsh;obtain rfl:=hasAllW_nil h2;obtain⟨xs,rfl,h3⟩:=hasW_list h1;obtain⟨ns,rfl⟩:=items_int h3;have hlen:ns.length<=n:=by
  unfold OpenLaw.pre at hc;have h4:(WTm.not (.lt (.lit (.int (n:Int))) (.len (.arg 0)))).holds [] {args:=[.list (ns.map .int)]} = true:=by have h4:=(holds_andW hc).1;rw[hn]at h4;exact h4
  have h5:=condW_of h4 (w_not (w_lt w_lit (w_len_list (w_arg rfl))));rw[Vj]at h5;refine YQ λq=>?_;have q':(n:Int)<((ns.length:Nat):Int):=by lia
  first
   |(rw[V7 q']at h5;exact absurd h5 (by decide))
   |(simp at h5;lia)
 cases hwl with
 |cons w1 w2=>
  cases w2;cases w1 with
  |list ho O0=>exact⟨_,_,ns,rfl,rfl,ho,tN ns _ O0,hlen⟩
theorem EU(l:OpenLaw)(args:List WData):l.row.toRowW.claim.post args (.bool true) args=true:=
 postW_of (r:=l.row.toRowW) (X:=(true==true))
  (show WShape.has [] (.bool true) .bool=true by first|rfl|decide|simp[WShape.has,WShape.arms,WShape.armsAll])
  (show(WTm.eq .res (.lit (.bool true))).value [] {args:=args,res:=some (.bool true),after:=args} = some (.bool (true==true))from w_eq_bool (w_res rfl) w_lit) rfl
theorem Am{l:OpenLaw}{n:Nat}{XP:(_a)->Heap->Prop}{YP:World->Heap->Prop}{d:DefRec}(hn:l.most=some n)(SS:d.params.defaults=[])
  (call:∀ (w:World) (s₀ s₁:_k) (mg mb:_a) (fa:_l) (o:Obj) (pm cd doc:_j) (a:_l) (vs:_e) (ns:_d),
   Ground q loose [] XP w s₀ mg mb s₁.heap->YP w s₁.heap ->
   s₁.heap.get? fa=some o->o.data=.func (docDef d.name d.params d.body d.scope pm cd doc)->s₁.heap.CodeRec cd d.name->mg d.name=some (.ref fa) ->
   s₁.heap.get? a=some {cls:=.type "list",data:=.seq vs.toArray}->IntsAre vs ns->ns.length<=n->s₁.gens = #[] ->
   codeAny (model l.prog w) callerA (.call (.ref fa) ⟨[.ref a],[]⟩) (λr s'=>r=.ok (.ret (.bool true))/\OldK s₁.heap s'.heap/\s'.os=s₁.os/\AllBare s'.gens) s₁):
  WalkO q loose XP YP l.row.toRowW d [] (λf vs=>PySem.call f vs):=by
 intro w s₀ s₁ mg mb G Y fa o pm cd doc dV kV ho hd BD hD SU hg args vals as K5 abJ hrd hwl hlo;obtain rfl:dV=.none:=Dflts.none hD SS;obtain rfl:kV=.none:=Dflts.noKw hD;obtain⟨a,vs,ns,rfl,rfl,O1,hints,hlen⟩:=ET hn K5 hwl;refine enter_call (Ys (call w s₀ s₁ mg mb fa o pm cd doc a vs ns G Y ho (fd_plain hd) BD SU O1 hints hlen hg) λr s' hq=>?_);obtain⟨rfl,h2,h3,h4⟩:=hq;exact⟨.inl ⟨.bool true,.bool true,[],rfl,λ_=>rfl,.bool true,EU l _,λ_=>⟨List.Pairwise.nil,λ_ hm=>(nomatch hm)⟩⟩,h2,h3,h4⟩
end Att
namespace L2
open PySem.Spec PyProof.Rows
theorem xE:∀{vs:_e}{ns:_d},IntsAre vs ns->bt (ns.map V.int) vs
 |_,_,.nil=>.nil
 |_,_,.cons n t h=>.cons ⟨t,rfl⟩ (xE h)
def gS(s:Stmt):Arguments:=match s with
 |.FunctionDef _ a _ _ _ _ _ _ _ _=>a
 |_ => {posonlyargs:=[],args:=[],vararg:=none,kwonlyargs:=[],kw_defaults:=[],kwarg:=none,defaults:=[]}
def dZ(s:Stmt):List Stmt:=match s with
 |.FunctionDef _ _ b _ _ _ _ _ _ _=>b
 |_=>[]
def bb(s:Stmt):Scope:=match s with
 |.FunctionDef _ _ _ _ _ _ sc _ _ _=>sc
 |_ => {kind:=.function,names:=[],isGenerator:=false,isCoroutine:=false}
abbrev E0:XK:=λ_ _ _=>False
structure G7(K:_c)(x qual:Str)(st:Stmt)(f:_l)(fd:FuncData):Prop where
 ex:∃(oc:_j)(od:Option _l)(kV doc pm:_j)(an:Option _l)(h_ ct:_j)(GW:Array (_g)),
  fd=W.fnOf x qual (gS st) (dZ st) (bb st) .none kV doc pm an h_ ct/\K.lookup f=some ⟨oc,od,.func fd,GW⟩/\W.codeIn K h_ qual=true
 kp:W.keepIn K (.ref f)=true
section
variable{w:World}{K:_c}{mg:_a}
theorem G7.binds{x qual:Str}{st:Stmt}{f:_l}{fd:FuncData}{ps:_i}(F:G7 K x qual st f fd)(h:∀(kV doc pm:_j)(an:Option _l)(h_ ct:_j)(us:_e),us.length=ps.length->bindArgs (W.fnOf x qual (gS st) (dZ st) (bb st) .none kV doc pm an h_ ct) ⟨us,[]⟩=pure (ps.zip us)):Binds K fd ps []:=by obtain⟨oc,od,kV,doc,pm,an,h_,ct,GW,rfl,lk,BD⟩:=F.ex;exact .all (h kV doc pm an h_ ct)
theorem BR{x qual:Str}{st:Stmt}{f:_l}{kV ct:_j}(l:K.lookup f=some ⟨oc,od,.func (W.fnOf x qual (gS st) (dZ st) (bb st) .none kV doc pm an h_ ct),GW⟩)(c:W.codeIn K h_ qual=true)(k:W.keepIn K (.ref f)=true):G7 K x qual st f (W.fnOf x qual (gS st) (dZ st) (bb st) .none kV doc pm an h_ ct):=⟨⟨oc,od,kV,doc,pm,an,h_,ct,GW,rfl,l,c⟩,k⟩
end
def rh(H H':Hp):Prop:=∀b o,H b=some o->H' b=some o
theorem rh.refl(H:Hp):rh H H:=λ_ _ h=>h
end L2
variable {kp:Pos}
namespace L2
open PySem.Spec PyProof.Rows
open Sem (wp)
def mZ{α:Type}:Sem α->Prop
 |.pure _=>True
 |.raise _=>True
 |.unsupported _=>True
 |.register _ _=>True
 |.load _ _ k=>∀o,mZ (k o)
 |.update _ _ _ k=>mZ (k ())
 |.alloc _ k=>∀a,mZ (k a)
 |.stack k=>∀l,mZ (k l)
 |_=>False
theorem bQ{f:α->Sem β}(k:∀a,mZ (f a)):∀{t:Sem α},mZ t->mZ (t >>= f):=by
 intro t
 induction t with
 |pure a=>exact λ_=>k a
 |raise|unsupported|register=>exact λ_=>trivial
 |load a o g ih=>exact λh x=>ih x (h x)
 |update a o f g ih=>exact λh=>ih () h
 |alloc o g ih=>exact λh x=>ih x (h x)
 |stack g ih=>exact λh x=>ih x (h x)
 |_=>exact λh=>h.elim
theorem K6{M:Model}{Γ:PySem.Ctx}{Q1 Q2:α->Pos->_k->Prop}{E1 E2:_j->Pos->_k->Prop}{p:Pos}(t:Sem α):∀{s:_k},mZ t->wp M Γ t Q1 E1 p s->wp M Γ t Q2 E2 p s->wp M Γ t (λa p s=>Q1 a p s/\Q2 a p s) E1 p s:=by
 induction t with
 |load a o k ih=>
  intro s z h1 h2;rw[Sem.wp_load]at h1 h2⊢;obtain⟨x,a1,b1⟩:=h1;obtain⟨y,a2,b2⟩:=h2;rw[a1]at a2;cases a2;exact⟨x,a1,ih _ (z _) b1 b2⟩
 |update a o f k ih=>intro s z h1 h2;rw[Sem.wp_update]at h1 h2⊢;exact⟨h1.1,ih _ z h1.2 h2.2⟩
 |pure a=>exact λ_ h1 h2=>⟨h1,h2⟩
 |raise a=>exact λ_ h1 _=>h1
 |unsupported|register=>exact λ_ h1 _=>h1.elim
 |alloc o k ih=>exact λz h1 h2=>ih _ (z _) h1 h2
 |stack k ih=>exact λz h1 h2=>ih _ (z _) h1 h2
 |_=>exact λz=>z.elim
theorem u5{M:Model}{t:Sem α}{Q1 Q2 Q:α->_k->Prop}{E:Z'}(z:mZ t)(h1:wpAny M A t Q1 E s)(h2:wpAny M A t Q2 E s)(h:∀a s',Q1 a s'->Q2 a s'->Q a s'):wpAny M A t Q E s:=by have z:wpAny M A t (λa s=>Q1 a s/\Q2 a s) E s:=λΓ p k=>K6 t z (h1 Γ p k) (h2 Γ p k);exact WC z (λa s' q=>h a s' q.1 q.2) λ_ _ q=>q
theorem p8(v:_j)(i:Nat):mZ (field v i):=by
 unfold field;refine bQ (λa=>?_) ?_
 .split<;>trivial
 .unfold fieldsOf;cases v with
  |ref a=>
   refine bQ (λo=>?_) (λ_=>trivial);split<;>trivial
  |_=>trivial
theorem BS(v:_j)(i:Nat)(x:_j):mZ (setField v i x):=by
 unfold setField;cases v with
 |ref a=>
  refine bQ (λo=>?_) (λ_=>trivial);split
  .split
   .exact trivial
   .exact trivial
  .exact trivial
 |_=>trivial
theorem An:∀l:List Env,mZ (readyFrames l)
 |[]=>trivial
 |env::outer=>by
  unfold readyFrames;split
  .refine bQ (λo=>?_) (λ_=>trivial);split
   .exact trivial
   .refine bQ (λb=>bQ (λv=>bQ (λ_=>An outer) ?_) ?_) ?_
    .exact trivial
    .unfold keptBack;split
     .split
      .exact trivial
      .exact λ_=>trivial
     .exact trivial
    .unfold behindIsImport;split
     .exact trivial
     .split
      .exact trivial
      .refine bQ (λ_=>?_) (p8 _ _);exact trivial
  .exact trivial
theorem G8(env:Env):mZ (PySem.frameOf env):=by
 unfold PySem.frameOf;refine bQ (λl=>bQ (λv=>?_) ?_) (λ_=>trivial)
 .split<;>trivial
 .unfold frameObject;split
  .exact trivial
  .refine bQ (λ_=>?_) (An _);exact trivial
theorem EV(v:_j)(f:Option _l):mZ (setFlight v f):=by
 unfold setFlight;refine bQ (λt=>?_) (p8 _ _);split
 .exact BS _ _ _
 .exact trivial
theorem K7(v:_j)(env:Env):mZ (noteFrame v env):=by
 unfold noteFrame;split
 .rename_i f _;have go:∀h b,mZ (do setField v 1 (<-EntryCells.newEntry h (<-PySem.frameOf env) .none (rawInt f) .none (<-entryPlaceOf f b))):=λh b=>by
   refine bQ (λa=>bQ (λl=>bQ (λ_=>BS _ _ _) ?_) ?_) (G8 env)
   .unfold EntryCells.newEntry newFields newObj;dsimp only;split<;>split
    .exact trivial
    .exact λ_=>trivial
    .exact trivial
    .exact λ_=>trivial
   .unfold entryPlaceOf;refine bQ (λ_=>?_) (λ_=>trivial);split<;>trivial
  refine bQ (λt=>?_) (p8 _ _);split
  .refine bQ (λx=>?_) (p8 _ _);split
   .exact trivial
   .exact bQ (λ_=>go _ _) (BS _ _ _)
  .exact go _ _
 .exact trivial
theorem Ao(v:_j)(env:Env):mZ (leaving env v):=bQ (λ_=>EV _ _) (K7 _ _)
def Dn(h:Heap)(e:_l):Prop:=∃oe vs,h.get? e=some oe/\oe.data=.fields vs/\vs[2]?=some Value.none/\(vs[1]?=some Value.none\/∃T oT ts,vs[1]?=some (Value.ref T)/\T≠e/\h.get? T=some oT/\oT.data=.fields ts/\3<ts.size)
section
variable{M:Model}{E:Z'}{env:PySem.Env}{outer:List PySem.Env}{L e:_l}
theorem BU(h:Dn s.heap e):wpAny M A (setFlight (.ref e) none) (λ_ s'=>Dn s'.heap e) E s:=by
 obtain⟨oe,vs,he,hd,h2,h1⟩:=h;unfold setFlight;rcases h1 with h1|⟨T,oT,ts,h1,ne,hT,dT,h3⟩
 .refine Vk (Wq he hd h1 ?_);rw[VE (by decide)];exact VF ⟨oe,vs,he,hd,h2,.inl h1⟩
 .refine Vk (Wq he hd h1 ?_);rw[Vs (show(Value.ref T !=Value.none)=true from rfl)];refine XG hT dT h3 ⟨oe,vs,(Wn _ _ ne).trans he,hd,h2,.inr ⟨T,_,_,h1,ne,Xb _ hT (Xw (WJ dT _)),WJ dT _,by rw[Z8];exact h3⟩⟩
theorem G9(EW:A.frames=some (env::outer))(hl:s.heap.FunFrames base (env::outer))(hf:env.frame=some L)(h:Dn s.heap e):wpAny M A (noteFrame (.ref e) env) (λ_ s'=>Dn s'.heap e) E s:=by
 have go:∀(s1:_k)(head:_j)(b:Bool),s1.heap.FunFrames base (env::outer)->Dn s1.heap e->wpAny M A (do setField (.ref e) 1 (<-EntryCells.newEntry head (<-frameOf env) .none (rawInt L) .none (<-entryPlaceOf L b))) (λ_ s'=>Dn s'.heap e) E s1:=by
  rintro s1 head b hl ⟨oe,vs,he,hd,h2,h1⟩;have z1:1<vs.size:=by rcases h1 with q|⟨_,_,_,q,_⟩<;>exact(Array.getElem?_eq_some_iff.mp q).1
  have aaJ:e ∉ (env::outer).filterMap (·.frame):=λhm=>by obtain⟨_,o,ho,O2⟩:=hl.mem hm;rw[he]at ho;cases ho;exact O2 vs hd
  refine Vk (wpAny_frameOf_fun EW hl hf λh₁ SV=>?_);refine Vk (wpAny_entryPlaceOf λpl sM=>?_);unfold EntryCells.newEntry newFields;refine Vk (Wv ?_ (sM.sizeOk5 _ _ _ _ _));have G_:h₁.get? e=some oe:=(SV.2.1 e aaJ).trans he;refine XG (Vn _ G_) hd z1 ?_;have ne:h₁.objs.size≠e:=W? (VJ G_);have d3:=WJ hd (·.setIfInBounds 1 (Value.ref h₁.objs.size));refine⟨_,_,Xb _ (Vn _ G_) (Xw d3),d3,by rw[Array.getElem?_setIfInBounds_ne (by decide)];exact h2,.inr ⟨h₁.objs.size,_,_,by simp[z1],ne,(Wn _ _ (W5 ne)).trans (VV h₁ rfl),rfl,by simp only[VG,Vm,Vl,VB];lia⟩⟩
 unfold noteFrame;simp only[hf];obtain⟨oe,vs,he,hd,h2,h1⟩:=id h;rcases h1 with h1|⟨T,oT,ts,h1,ne,hT,dT,h3⟩
 .refine Vk (Wq he hd h1 ?_);rw[VE (by decide)];exact go s _ _ hl h
 .refine Vk (Wq he hd h1 ?_);rw[Vs (show(Value.ref T !=Value.none)=true from rfl)];refine Vk (Wq hT dT (x:=ts[3]) (by simp[h3]) ?_);split
  .exact VF h
  .refine Vk (XG hT dT h3 ?_);have SW:∀b,b≠T->(s.heap.update T (Obj.mapFields (·.setIfInBounds 3 Value.none))).get? b=s.heap.get? b:=λb hb=>Wn _ _ (W5 hb);refine go _ _ _ (hl.of_keeps λb o hb O2=>⟨o,(SW b λq=>?_).trans hb,rfl⟩) ⟨oe,vs,(SW e (W5 ne)).trans he,hd,h2,.inr ⟨T,_,_,h1,ne,Xb _ hT (Xw (WJ dT _)),WJ dT _,by rw[Z8];exact h3⟩⟩;rw[q,hT]at hb;cases hb;exact O2 ts dT
theorem sP(EW:A.frames=some (env::outer))(hl:s.heap.FunFrames base (env::outer))(hf:env.frame=some L)(h:Dn s.heap e):wpAny M A (leaving env (.ref e)) (λ_ s'=>Dn s'.heap e) E s:=
 Vk (WC (G9 EW hl hf h) (λ_ _ q=>BU q) λ_ _ q=>q)
variable{a0:_j}{Q:Unit->_k->Prop}
theorem G!{args:_e}(hx:Heap.MadeExcOf h s.heap e cls args):Dn s.heap e:=by obtain⟨t,he,_⟩:=hx.there;exact⟨_,_,he,rfl,rfl,.inl rfl⟩
theorem yF{args:_e}(EW:A.frames=some (env::outer))(hf:env.frame=some L)(hkb:base.StaysIn h)(hl:h.FunFrames base (env::outer))(hx:Heap.MadeExcOf h s.heap e cls args)(hQ:∀h' t,Heap.FlyingW base outer e cls (.ref t) h'->s.heap.UpToSlots h'->Dn h' e->Q () {s with heap:=h'}):wpAny M A (leaving env (.ref e)) Q E s:=
 u5 (Ao _ _) (wpAny_leaves_madeW (Q:=λ_ s'=>∃h' t,s' = {s with heap:=h'}/\Heap.FlyingW base outer e cls (.ref t) h'/\s.heap.UpToSlots h') EW hf hkb hl hx λh' t a _ _ d=>⟨h',t,rfl,a,d⟩) (sP EW (hl.of_keeps λb o hb _=>⟨o,hx.keeps b o hb,rfl⟩) hf (G! hx))
  λ_ _⟨h',t,z,a,d⟩q=>by subst z;exact hQ h' t a d q
theorem BV(EW:A.frames=some (env::outer))(hf:env.frame=some L)(hfl:Heap.FlyingW base (env::outer) e cls a0 s.heap)(ht:Dn s.heap e)(hQ:∀h',Heap.FlyingW base outer e cls a0 h'->s.heap.UpToSlots h'->Dn h' e->Q () {s with heap:=h'}):wpAny M A (leaving env (.ref e)) Q E s:=
 u5 (Ao _ _) (wpAny_leaves_onW (Q:=λ_ s'=>∃h',s' = {s with heap:=h'}/\Heap.FlyingW base outer e cls a0 h'/\s.heap.UpToSlots h') EW hf hfl λh' a d=>⟨h',rfl,a,d⟩) (sP EW hfl.2.2.1 hf ht)
  λ_ _⟨h',z,a,d⟩q=>by subst z;exact hQ h' a d q
end
section
variable[DecidableEq κ]
def kM(aY:List (κ×V))(k:κ):Option V:=(aY.find? λkv=>decide (kv.1=k)).map (·.2)
def putK(aY:List (κ×V))(k:κ)(v:V):List (κ×V):=
 if(aY.any λkv=>decide (kv.1=k))=true then aY.map (λkv=>if kv.1=k then(kv.1,v)else kv)else aY++[(k,v)]
theorem u6{p:κ×V}{r:List (κ×V)}{k:κ}(e:p.1=k):kM (p::r) k=some p.2:=by simp[kM,X1,e]
theorem u7{p:κ×V}{r:List (κ×V)}{k:κ}(e:¬ p.1=k):kM (p::r) k=kM r k:=by simp[kM,X1,e]
theorem Ap(k:κ):∀aY:List (κ×V),(aY.any λkv=>decide (kv.1=k))=(kM aY k).isSome
 |[]=>rfl
 |p::r=>by
  rw[XZ];by_cases e:p.1=k
  .simp only[u6 e,V7 e,ZA,Option.isSome_some]
  .rw[u7 e,V2 e,Yb];exact Ap k r
theorem sQ(aY:List (κ×V))(k:κ)(v:V):(putK aY k v).length<=aY.length+1:=by
 unfold putK;split
 .rw[Vj];lia
 .rw[Vm,Vl,VB];lia
theorem uU.EY{o:Option V}{u:_g}(r:uU o u):o.isSome=u.isSome:=by
 cases o with
 |none=>cases u with
  |none=>rfl
  |some _=>exact(show False from r).elim
 |some _=>cases u with
  |none=>exact(show False from r).elim
  |some _=>rfl
theorem KV.val{aY:List (κ×V)}{vs:List (κ×_j)}(r:KV aY vs)(k:κ):uU (kM aY k) (valueAt vs k):=by
 unfold KV at r
 induction r with
 |nil=>exact True.intro
 | @cons p q ps qs h t ih=>
  obtain⟨h1,h2⟩:=h;by_cases e:p.1=k
  .have e':q.1=k:=h1.symm.trans e;have b:valueAt (q::qs) k=some q.2:=by simp[valueAt,X1,e']
   rw[u6 e,b];exact h2
  .have e':¬ q.1=k:=λz=>e (h1.trans z);have b:valueAt (q::qs) k=valueAt qs k:=by simp[valueAt,X1,e']
   rw[u7 e,b];exact ih
theorem KV.any{aY:List (κ×V)}{vs:List (κ×_j)}(r:KV aY vs)(k:κ):(aY.any λkv=>decide (kv.1=k))=vs.any λkv=>decide (kv.1=k):=by
 unfold KV at r
 induction r with
 |nil=>rfl
 |cons h t ih=>rw[XZ,XZ,ih,h.1]
theorem KV.BW{aY:List (κ×V)}{vs:List (κ×_j)}(r:KV aY vs)(k:κ){y:V}{u:_j}(ry:bM y u):
  KV (aY.map λkv=>if kv.1=k then(kv.1,y)else kv) (vs.map λkv=>if kv.1=k then(kv.1,u)else kv):=by
 unfold KV at r⊢
 induction r with
 |nil=>exact .nil
 | @cons p q ps qs h t ih=>
  rw[Vq,Vq];refine .cons ?_ ih;obtain⟨h1,h2⟩:=h;by_cases e:p.1=k
  .rw[Vs e,Vs (h1.symm.trans e)];exact⟨h1,ry⟩
  .rw[VE e,VE (λz=>e (h1.trans z))];exact⟨h1,h2⟩
theorem KV.put{aY:List (κ×V)}{vs:List (κ×_j)}(r:KV aY vs)(k:κ){y:V}{u:_j}(ry:bM y u):KV (putK aY k y) (stored vs k u):=by
 unfold putK stored;rw[r.any k];by_cases e:(vs.any λkv=>decide (kv.1=k))=true
 .rw[Vs e,Vs e];exact r.BW k ry
 .rw[VE e,VE e];exact Paired.snoc r ⟨rfl,ry⟩
theorem KV.length{aY:List (κ×V)}{vs:List (κ×_j)}(r:KV aY vs):aY.length=vs.length:=ZQ r
end
theorem G?{w:World}{k:fG}{u:_j}(r:bM (kV k) u):(fZ P w).is k u=true:=by
 cases k with
 |inl i=>obtain⟨t,e⟩:=(show ∃t,u=Value.int i t from r);subst e;exact z! P w i t
 |inr x=>obtain⟨t,e⟩:=(show ∃t,u=Value.str x t from r);subst e;exact z? P w x t
theorem xF{P:_n}{w:World}:∀{ks:List fG}{us:_e},bt (ks.map kV) us->ItemsAre (fZ P w) ks us
 |[],_,r=>by rw[VQ]at r;cases r;exact .nil
 |k::ks,_,r=>by
  rw[Vq]at r;cases r with
  |cons h t=>exact .cons (G? h) (xF t)
abbrev KT(H:Hp):List (List fG×V)->List (List fG×_l×_j)->Prop:=Paired λp q=>p.1=q.1/\H q.2.1=some (.tup (p.1.map kV))/\bM p.2 q.2.2
theorem KT.val{aY:List (List fG×V)}{xs:List (List fG×_l×_j)}(r:KT H aY xs)(k:List fG):uU (kM aY k) ((atKey xs k).map (·.2)):=by
 induction r with
 |nil=>exact True.intro
 | @cons p q ps qs h t ih=>
  obtain⟨h1,_,h2⟩:=h;by_cases e:p.1=k
  .have e':q.1=k:=h1.symm.trans e;have b:atKey (q::qs) k=some q.2:=by simp[atKey,X1,e']
   rw[u6 e,b];exact h2
  .have e':¬ q.1=k:=λz=>e (h1.trans z);have b:atKey (q::qs) k=atKey qs k:=by simp[atKey,X1,e']
   rw[u7 e,b];exact ih
theorem KT.BW{aY:List (List fG×V)}{xs:List (List fG×_l×_j)}(r:KT H aY xs)(k:List fG){y:V}{u:_j}(ry:bM y u):
  KT H (aY.map λkv=>if kv.1=k then(kv.1,y)else kv) (xs.map (putAt k u)):=by
 induction r with
 |nil=>exact .nil
 | @cons p q ps qs h t ih=>
  rw[Vq,Vq];refine .cons ?_ ih;obtain⟨h1,h2,h3⟩:=h;unfold putAt;by_cases e:p.1=k
  .rw[Vs e,Vs (h1.symm.trans e)];exact⟨h1,h2,ry⟩
  .rw[VE e,VE (λz=>e (h1.trans z))];exact⟨h1,h2,h3⟩
theorem KT.put{aY:List (List fG×V)}{xs:List (List fG×_l×_j)}(r:KT H aY xs)(k:List fG){b:_l}{y:V}{u:_j}(hb:H b=some (.tup (k.map kV)))(ry:bM y u):
  KT H (putK aY k y) (storedH xs k b u):=by
 have e:(aY.any λkv=>decide (kv.1=k))=(atKey xs k).isSome:=by rw[Ap,(r.val k).EY,Option.isSome_map]
 unfold putK storedH;rw[e];by_cases q:(atKey xs k).isSome=true
 .rw[Vs q,Vs q];exact r.BW k ry
 .rw[VE q,VE q];exact Paired.snoc r ⟨rfl,hb,ry⟩
theorem KT.keeps{aY:List (List fG×V)}{xs:List (List fG×_l×_j)}(r:KT H aY xs)(ht:∀b ys,H b=some (.tup ys)->H' b=some (.tup ys)):KT H' aY xs:=
 Paired.N9 r λ_ _ z=>⟨z.1,ht _ _ z.2.1,z.2.2⟩
section
variable{w:World}{a:_l}
theorem Nd{u:HO}(ok:kH P w H h)(e:Rd H a u):dA P w H h a u:=e.ok ok
theorem Dp{aY:List (fG×V)}(ok:kH P w H h)(e:Rd H a (.dK aY)):aY.length<=sizeLine/\(a==sysModules)=false/\∃vs,KV aY vs/\h.DictOf (fZ P w) a vs:=
 show dA P w H h a (.dK aY)from Nd ok e
theorem SX{aY:List (fG×V)}(ok:kH P w H h)(e:H a=some (.dK aY)):aY.length<=sizeLine/\(a==sysModules)=false/\∃vs,KV aY vs/\h.DictOf (fZ P w) a vs:=Dp ok (.inl e)
theorem BX{ks:List fG}(ok:kH P w H h)(e:H a=some (.tup (ks.map kV))):(tupleKind (fZ P w)).is h ks a:=by
 obtain⟨_,aN,r,o,h1,h2,n,h3⟩:=(show dA P w H h a (.tup (ks.map kV))from ok a _ e)
 exact⟨o,aN.toArray,n,h1,h2,h3,by simpa using xF r⟩
theorem Ha{aY:List (List fG×V)}(ok:kH P w H h)(e:Rd H a (.dT aY)):aY.length<=sizeLine/\(a==sysModules)=false /\
  ∃xs,KT H aY xs/\h.DictOfH (tupleKind (fZ P w)) a xs:=by
 obtain⟨z,y,xs,r,o,es,ep,h1,h2,h3,h4,h5⟩:=(show dA P w H h a (.dT aY)from Nd ok e)
 refine⟨z,y,xs,r,o,es,ep,h1,h2,h3,h4,λx hx=>?_,h5⟩;have all:∀{l:List (List fG×V)}{m:List (List fG×_l×_j)},KT H l m->∀x∈m,(tupleKind (fZ P w)).is h x.1 x.2.1:=by
  intro l m q
  induction q with
  |nil=>intro x hx;exact nomatch hx
  | @cons p q ps qs hq t ih=>
   intro x hx;rcases V_.mp hx with e|hx
   .subst e;exact BX ok (by rw[<-hq.1];exact hq.2.1)
   .exact ih x hx
 exact all r x hx
theorem SY{aY:List (List fG×V)}(ok:kH P w H h)(e:H a=some (.dT aY)):aY.length<=sizeLine/\(a==sysModules)=false /\
  ∃xs,KT H aY xs/\h.DictOfH (tupleKind (fZ P w)) a xs:=Ha ok (.inl e)
end
def w_(H:Hp)(a:_l)(y:V)(r:Option V):Prop:=
 (∃aY k,Rd H a (.dK aY)/\y=kV k/\r=kM aY k)\/∃aY k b,Rd H a (.dT aY)/\y=.ref b/\H b=some (.tup (k.map kV))/\r=kM aY k
def yG(H:Hp)(a:_l)(y v:V)(H':Hp):Prop:=
 (∃aY k,H a=some (.dK aY)/\y=kV k/\aY.length<sizeLine/\H'=upd H a (.dK (putK aY k v))) \/
 ∃aY k b,H a=some (.dT aY)/\y=.ref b/\H b=some (.tup (k.map kV))/\aY.length<sizeLine/\H'=upd H a (.dT (putK aY k v))
theorem w_.k{H:Hp}{a:_l}{aY:List (fG×V)}{k:fG}(e:H a=some (.dK aY)):w_ H a (kV k) (kM aY k):=.inl ⟨aY,k,.inl e,rfl,rfl⟩
theorem w_.t{a b:_l}{aY:List (List fG×V)}{k:List fG}(e:H a=some (.dT aY))(eb:H b=some (.tup (k.map kV))):w_ H a (.ref b) (kM aY k):=.inr ⟨aY,k,b,.inl e,rfl,eb,rfl⟩
theorem yG.k{H:Hp}{a:_l}{aY:List (fG×V)}{k:fG}{v:V}(e:H a=some (.dK aY))(hl:aY.length<sizeLine):yG H a (kV k) v (upd H a (.dK (putK aY k v))):=.inl ⟨aY,k,e,rfl,hl,rfl⟩
theorem yG.t{a b:_l}{aY:List (List fG×V)}{k:List fG}{v:V}(e:H a=some (.dT aY))(eb:H b=some (.tup (k.map kV)))(hl:aY.length<sizeLine):
  yG H a (.ref b) v (upd H a (.dT (putK aY k v))):=.inr ⟨aY,k,b,e,rfl,eb,hl,rfl⟩
section
variable{a:_l}{y v:V}{u r:_j}{o:Option V}{E:Z'}
theorem a9.big(I:a9 X ae σ H s):sysModules<s.heap.objs.size:=by have h:mainGlobals<s.heap.objs.size:=(I.mod.glob.keeps I.bk).lt;exact Zr (by decide) h
theorem EZ{Q:Z'}(hu:A.units+1<cLine)(I:a9 X ae σ H s)(g:w_ H a y (some v))(ry:bM y u)(h:∀w' s',a9 X ae σ H s'->bM v w'->Q w' s'):
  wpAny (model X.prog X.w) A (getItem (.ref a) u) Q E s:=by
 rcases g with⟨aY,k,e,ey,l⟩|⟨aY,k,b,e,ey,eb,l⟩
 .subst ey;obtain⟨z,hd,vs,rel,dd⟩:=Dp I.dg e;obtain⟨w',hw,Ak⟩:=uU.some_of (v:=v) (o:=valueAt vs k) (by rw[l];exact rel.val k);exact wpAny_getItem_of (G? ry) dd.mapOf hw (h w' _ (I.tok _) Ak)
 .subst ey;cases(show u=Value.ref b from ry);obtain⟨z,hd,xs,rel,dd⟩:=Ha I.dg e;obtain⟨w',hw,Ak⟩:=uU.some_of (v:=v) (o:=(atKey xs k).map (·.2)) (by rw[l];exact rel.val k);obtain⟨p,hp,hp2⟩:=Ws.mp hw;refine wpAny_getItem_heap (tupleKind_room_in1 hu) (BX I.dg eb) dd hp ?_;rw[hp2];exact h w' _ (I.tok _) Ak
theorem Dq{t':Nat}{ob:HO}(I:a9 X ae σ H s)(mu:RU (H a))(hs:Heap.SameBut a s.heap h')(he:∃q,h'.get? a=some q)(new:dA X.prog X.w (upd H a ob) h' a ob):
  a9 X ae σ (upd H a ob) {s with heap:=h',toks:=t'}:=
 I.write (x:=a) (e:=a) mu (.inl rfl) (λb q hb z=>(hs.2 b hb).trans z) he new
theorem O3{w:World}{aY:List (fG×V)}{vs:List (fG×_j)}(z:aY.length<=sizeLine)(hd:(a==sysModules)=false)(rel:KV aY vs)(dd:h'.DictOf (fZ P w) a vs):
  dA P w H' h' a (.dK aY):=⟨z,hd,vs,rel,dd⟩
theorem E3{Q:Unit->_k->Prop}(hu:A.units+1<cLine)(I:a9 X ae σ H s)(g:yG H a y v H')(ry:bM y u)(rv:bM v r)(h:∀s',a9 X ae σ H' s'->Q () s'):
  wpAny (model X.prog X.w) A (setItem (.ref a) u r) Q E s:=by
 rcases g with⟨aY,k,e,ey,l,eH⟩|⟨aY,k,b,e,ey,eb,l,eH⟩
 .subst ey eH;obtain⟨z,hd,vs,rel,dd⟩:=SX I.dg e;have hz:vs.length<=sizeLine:=by rw[<-rel.length];exact z
  have hl:(putK aY k v).length<=sizeLine:=by have:=sQ aY k v;lia
  refine wpAny_setItem_pairs (hsz:=hz) (G? ry) dd λh' Vi hs=>h _ ?_;have he:∃q,h'.get? a=some q:=let⟨q,_,_,hq,_⟩:=Vi;⟨q,hq⟩
  exact Dq I (by rw[e];exact True.intro) hs he (O3 hl hd (rel.put k rv) Vi)
 .subst ey eH;cases(show u=Value.ref b from ry);obtain⟨z,hd,xs,rel,dd⟩:=SY I.dg e;have hz:xs.length<=sizeLine:=by rw[<-ZQ rel];exact z
  have hl:(putK aY k v).length<=sizeLine:=by have:=sQ aY k v;lia
  refine wpAny_setItem_heap (hsz:=hz) (tupleKind_room_in1 hu) (BX I.dg eb) dd λh' Vi hs=>h _ ?_;obtain⟨q,es,ep,hq,h2,h3,h4,_,h5⟩:=Vi;refine Dq I (by rw[e];exact True.intro) hs ⟨q,hq⟩ ⟨hl,hd,_,(rel.put k eb rv).keeps λc ys ec=>?_,q,es,ep,hq,h2,h3,h4,h5⟩;rw[aW (RT ec e (λz=>nomatch z))];exact ec
end
def O4(i:Expr):Prop:=∀ov iv,subscripted i false ov iv=operate [ov,iv] (getItem ov iv)
theorem K8{w:World}{E:Z'}{env:Env}{slice:Expr}{pos:Pos}{T id:String}{Q:Z'}(hl:typeLookup (.type T) "__getitem__" = pure (some (.builtin id)))(hs:O4 slice)(h:wpAny (model prog w) A (eval value env) (λo s₁=>wpAny (model prog w) A (eval slice env) (λi s₂=>s₂.TypeIs o T/\wpAny (model prog w) A (getItem o i) Q E s₂) E s₁) E s):
  wpAny (model prog w) A (eval (.Subscript value slice pos) env) Q E s:=by
 refine Subscript_ (WC h (λo s₁ h₁=>WC h₁ (λi s₂ h₂=>?_) λ_ _ x=>x) λ_ _ x=>x);obtain⟨hT,h₂⟩:=h₂;unfold subscriptTail;refine Vk ?_;rw[getitemInPython_of_ne hT.not_modules];refine Vk (wpAny_specialOf hT hl ?_);have fin:wpAny (model prog w) A (subscripted slice false o i) (λr s₃=>wpAny (model prog w) A (letTemporaryGo value o r >>= λ_=>pure r) Q E s₃) E s₂:=by rw[hs o i];exact wpAny_operating (WC h₂ (λr s₃ h₃=>Vk (wpAny_letTemporaryGo (VF h₃))) λ_ _ x=>x)
 first
  |exact VF (Vk fin)
  |exact Vk (VF (Vk fin))
  |exact Vk fin
theorem Aq{a:_l}{y:V}{o:Option V}(I:a9 X ae σ H s)(g:w_ H a y o):s.TypeIs (.ref a) "dict":=by
 rcases g with⟨aY,k,e,_,_⟩|⟨aY,k,b,e,_,_,_⟩
 .obtain⟨_,_,vs,_,dd⟩:=Dp I.dg e;exact dd.typeIs
 .obtain⟨_,_,xs,_,dd⟩:=Ha I.dg e;exact dd.typeIs
def S0(td ty:TE):TE:=λσ H Q=>td σ H λx H1=>ty σ H1 λy H2=>∃a v,x=.ref a/\w_ H2 a y (some v)/\Q v H2
def S4(td ty tv:TE):TS:=λD σ H=>tv σ H λv H1=>td σ H1 λx H2=>ty σ H2 λy H3=>∃a H4,x=.ref a/\yG H3 a y v H4/\D.nx σ H4
section
variable{i e:Expr}{pos:Pos}{ty tv:TE}
theorem K9(hu:X.A.units+1<cLine)(ho:PE X o td)(hi:PE X i ty)(hs:O4 i):PE X (.Subscript o i pos) (S0 td ty):=by intro ae s σ H Q I h;refine K8 PySem.F.slot_dict_getitem.lookup hs (eJ (ho ae s σ H _ I h) λu s1⟨x,H1,I1,rx,q1⟩=>eJ (hi ae s1 σ H1 _ I1 q1) λiv s2⟨y,H2,I2,ry,a,v,ex,g,q2⟩=>?_);subst ex;obtain rfl:u=Value.ref a:=rx;exact⟨Aq I2 g,EZ hu I2 g ry λw' s3 I3 Ak=>⟨v,H2,I3,Ak,q2⟩⟩
theorem K_(hu:X.A.units+1<cLine)(ho:PE X o td)(hi:PE X i ty)(hv:PE X value tv)(hs:swapsWith value (some (.Subscript o i pos')) pos.line X.env=pure false):
  PS X (.Assign [.Subscript o i pos'] value pos) (S4 td ty tv):=by
 intro ae s σ H D I h;refine wpAny_Assign_Subscript (eJ (hv ae s σ H _ I h) λr s1⟨v,H1,I1,rv,q1⟩=>eJ (ho ae s1 σ H1 _ I1 q1) λu s2⟨x,H2,I2,rx,q2⟩=>eJ (hi ae s2 σ H2 _ I2 q2) λiv s3⟨y,H3,I3,ry,a,H4,ex,g,q3⟩=>?_) hs;subst ex;obtain rfl:u=Value.ref a:=rx;exact E3 hu I3 g ry rv λs4 I4=>⟨σ,H4,I4,q3⟩
end
theorem Hb{w:World}(h:Heap)(hb:sysModules<h.objs.size):dA P w H (h.push {cls:=.type "dict",data:=.dict #[]}) h.objs.size (.dK []):=
 ⟨We _,WU.mpr (W5 (V! hb)),[],.nil,Heap.DictOf.new h⟩
def O5:TE:=λ_ H Q=>∀p,H p=none->Q (.ref p) (upd H p (.dK []))
section
variable{pos:Pos}
theorem Hc:PE X (.Dict [] [] pos) O5:=λae s σ H Q I h=>
 wpAny_Dict_empty ⟨.ref s.heap.objs.size,_,I.laid (a:=s.heap.objs.size) (o:=.dK []) (t':=s.toks) (λ_ _ q=>Vn _ q) (Vv _) (Hb s.heap I.big),rfl,h _ (I.dg.fresh (Vv _))⟩
end
def IsD(H:Hp)(a:_l):Prop:=(∃aY,Rd H a (.dK aY))\/∃aY,Rd H a (.dT aY)
theorem rh.upd{H H':Hp}{p:_l}{o:HO}(e:rh H H')(h:H' p=none):rh H (upd H' p o):=λb u q=>by rw[aW (bj (e b u q) h)];exact e b u q
def tO(k:Nat)(i:Int):Prop:=i.natAbs<2 ^ k
theorem tO.bits{k:Nat}{i:Int}(h:tO k i):Builtin.Int.intBits i<=k:=by
 unfold Builtin.Int.intBits;by_cases hz:(i==0)=true
 .rw[Vs hz];exact We _
 .rw[VE hz];have h0:i.natAbs≠0:=by intro e;apply hz;have:i=0:=ZR.mp e;simp[this]
  have:=(YW h0).mpr h;lia
theorem tO.le{k:Nat}{i:Int}(h:tO k j)(e:i.natAbs<=j.natAbs):tO k i:=YE e h
theorem tO.small{k:Nat}{i:Int}(hk:10<=k)(h0:-1000<i)(h1:i<1000):tO k i:=by show i.natAbs<2 ^ k;have:2 ^ 10<=2 ^ k:=Xs (by decide) hk;lia
def Dr(i j:Int):Prop:=∃a b,tO a i/\tO b j/\a<=2 ^ 20/\b<=2 ^ 20
theorem Dr.ok{i:Int}(h:Dr i j):IntMulOk i j:=by obtain⟨a,b,h1,h2,h3,h4⟩:=h;exact IntMulOk.of_bits (Wg h1.bits h3) (Wg h2.bits h4)
def Ds(i j:Int):Prop:=j≠0/\tO 9000 j
theorem Ds.ok{i:Int}(h:Ds i j):Builtin.divisionGoesByPylong i j=false:=
 Ze ((YW (by intro e;exact h.1 (ZR.mp e))).mpr h.2)
theorem K!:fV X (binaryOp .Mult) (rI Dr λi j=>.int (i*j)):=Sr λ_ _ _ _ _ _ _ hc q=>PyProof.Rows.mul_int q hc.ok
theorem Hd:fV X (binaryOp .FloorDiv) (rI Ds λi j=>.int (i.fdiv j)):=Sr λ_ _ _ _ _ _ _ hc q=>floordiv_int hc.1 q (.inl hc.ok)
def Dt(X:Cx)(ifs:List Expr)(t:TT):Prop:=
 ∀(ae:_b)(s:_k)(σ:St)(H:Hp)(Q:Bool->Hp->Prop),a9 X ae σ H s->t σ H Q ->
  wpAny (model X.prog X.w) X.A (forIn ifs true λc r=>if r=true then do let ok <- isTrue c X.env (eval c X.env);pure (ForInStep.yield ok)else pure (ForInStep.yield r)) (TP X ae σ Q) X.xe s
def S5:TT:=λ_ H Q=>Q true H
theorem K?:Dt X [] S5:=λ_ _ _ H _ I h=>wpAny_tests_nil ⟨H,I,h⟩
theorem K'{c:Expr}{t:TT}(h:PT X c t):Dt X [c] t:=λae s σ H Q I hw=>wpAny_tests_one (h ae s σ H Q I hw)
theorem kH.Du{w:World}{a:_l}{o:HO}(x:kH P w H h)(hn:H a=none)(new:dA P w (upd H a o) h a o):kH P w (upd H a o) h:=λb u e=>by
 by_cases hb:b=a
 .subst hb;rw[b_]at e;cases e;exact new
 .rw[aW hb]at e;exact(x b u e).tK (λc v _ q=>q) (λc q=>by rw[aW (bj q hn)];exact q) λc xs q=>by rw[aW (bj q hn)];exact q
def wO(X:Cx)(N:_i)(scope:Scope)(cl:List (Str×_l))(C:_l)(fp:_h)(s:_k)(H:Hp):Cx:=
 {X with N:=N,s₀:=s,H₀:=H,env:=compEnvC scope cl C X.env,outer:=X.stack,stack:=X.stack,ex:=fp,fn:=λ_=>false,pn:=[],xe:=λ_ _=>False}
def tP(k:Nat)(bE:List Nat)(σ:St):St:=List.replicate k none++bE.map λj=>(σ[j]?).getD none
structure u9(X:Cx)(N:_i)(scope:Scope)(cl:List (Str×_l))(k:Nat)(bE:List Nat):Prop where
 tQ:closureFor scope X.env=pure cl
 sub:∀x c,cl.lookup x=some c->X.env.cells.lookup x=some c
 has:∀x,((relabel scope X.env).names.lookup x=some .cell\/(relabel scope X.env).names.lookup x=some .free)->∃c,cl.lookup x=some c
 gI:∀x∈scope.names,x.2≠.cell
 kind:scope.kind=.function
 names:∀x∈scope.names,x.2=.local->scope.names.lookup x.1=some .local
 len:N.length=k+bE.length
 at_:∀i j x,bE[i]?=some j->N[k+i]?=some x->X.N[j]?=some x/\(X.env.kindOf x=some .cell\/X.env.kindOf x=some .free)/\((relabel scope X.env).names.lookup x=some .cell\/(relabel scope X.env).names.lookup x=some .free)
def xG(J:It)(k:Nat)(bE:List Nat)(g:TG)(tt:TT)(te:TE)(σ:St)(H1:Hp)(Q:VK):Prop:=
 ∃W:Nat->Nat->List V->St->Hp->Prop,(∃m,W 0 m [] (tP k bE σ) H1)/\∀i m ys τ H,W i m ys τ H ->
  (J.stop i H/\ys.length<=sizeLine/\∀p,H p=none->Q (.ref p) (upd H p (.lst ys))) \/
  (J.go i H/\ys.length<sizeLine/\∀x H',J.Rm i H x H'->g x τ H' λτ2 H2=>tt τ2 H2 λb H3=>if b=true then te τ2 H3 λy H4=>∃m',m'<m/\W (i+1) m' (ys++[y]) τ2 H4 else ∃m',m'<m/\W (i+1) m' ys τ2 H3)
@[irreducible] def u_(k:Nat)(bE:List Nat)(wi:TI)(g:TG)(tt:TT)(te:TE):TE:=λσ H Q=>wi σ H λJ H1=>xG J k bE g tt te σ H1 Q
theorem He{k:Nat}{g:TG}{tt:TT}(h:wi σ H λJ H1=>xG J k bE g tt te σ H1 Q):u_ k bE wi g tt te σ H Q:=by unfold u_;exact h
theorem xH{k:Nat}{g:TG}{tt:TT}(h:u_ k bE wi g tt te σ H Q):wi σ H λJ H1=>xG J k bE g tt te σ H1 Q:=by unfold u_ at h;exact h
theorem La{k:Nat}{σ:St}{i:Nat}{v:V}(h:(tP k bE σ)[i]?=some (some v)):∃j,k<=i/\bE[i-k]?=some j/\σ[j]?=some (some v):=by
 unfold tP at h;by_cases hi:i<k
 .rw[V4 (by simpa using hi),W6]at h;split at h<;>cases h
 .rw[V3 (by simpa using YQ hi),V0,Vu]at h;cases e:bE[i-k]? with
  |none=>rw[e]at h;cases h
  |some j=>
   rw[e]at h;refine⟨j,YQ hi,rfl,?_⟩;have h':(σ[j]?).getD none=some v:=by simpa using h
   cases q:σ[j]? with
   |none=>rw[q]at h';cases h'
   |some o=>rw[q]at h';exact WR some h'
theorem a9.block{scope:Scope}{cl:List (Str×_l)}{k:Nat}{t':Nat}{m':_a}(I:a9 X ae σ H s)(B:u9 X N scope cl k bE)(hf:∀b∈fp,kJ X ae H b)(hC:s.heap.objs.size<=C)(S6:∀b∈fp,∃o,s.heap.get? b=some o)(kp:∀b o,s.heap.get? b=some o->h'.get? b=some o)(ns:h'.Ns C m'):a9 (wO X N scope cl C fp s H) [] (tP k bE σ) H {s with heap:=h',toks:=t'}:=by
 have below:∀{b:_l}{o:Obj},s.heap.get? b=some o->b≠C:=λe=>V! (VT (VJ e) hC);have S7:∀x c,cl.lookup x=some c->∃v,s.heap.IsCell c v:=λx c e=>I.cell x c (B.sub x c e);refine⟨⟨I.ok.mod,?_,I.ok.glob,I.ok.blt,hC,λx y c h1 h2=>I.ok.inj x y c (B.sub x c h1) (B.sub y c h2),λx hx=>B.has x hx,λx c h1 _=>?_,I.ok.hd,I.ok.frames,.inl rfl,λb hb=>⟨?_,λx c e=>?_⟩,I.bs,Wg I.ok.N! I.sz,λb o e hb=>?_,λb hb=>?_,I.stack,I.yq⟩,
  rfl,I.bare,Un.kept kp,⟨m',ns,λi x v h1 h2 h3=>?_⟩,λx c e=>?_,?_,λx c e=>I.pY x c (B.sub x c e),λp hp=>absurd (show p∈([]:_b)from hp) (by simp),I.dg.kept kp,?_⟩
 .exact B.kind
 .exact absurd h1 (by simp[wO])
 .obtain⟨o,e⟩:=S6 b hb;exact below e
 .exact(hf b hb).2.2.2.2.1 x c (B.sub x c e)
 .obtain⟨_,_,_,h4,_⟩:=hf b hb;rcases h4 with z|z
  .exact I.ok.Kk b o e z
  .exact absurd (VT (VJ (I.ok.bs b o e).1) z) (Wm _)
 .intro z;rcases V_.mp (I.yp b z)with e|e
  .exact(hf b hb).2.1 e
  .exact(hf b hb).2.2.1 e
 .obtain⟨j,hk,hj,hσ⟩:=La h2;have hN:N[k+(i-k)]?=some x:=by rw[Nat.add_sub_cancel' hk];exact h1
  obtain⟨a1,a2,a3⟩:=B.at_ (i-k) j x hj hN;obtain⟨m,hn,hl⟩:=I.loc;have vis:RX X.env.scope x:=by
   rcases a2 with z|z
   .exact .inr (.inl z)
   .exact .inr (.inr z)
  obtain⟨u,r,l⟩:=hl j x v a1 hσ vis;refine⟨u,r,.inr ⟨a3,?_⟩⟩;rcases l with⟨z,_⟩|⟨_,c,e,cc⟩
  .rcases a2 with y|y<;>(rw[z]at y;cases y)
  .obtain⟨c',e'⟩:=B.has x a3;have:X.env.cells.lookup x=some c':=B.sub x c' e';rw[e]at this;cases this;obtain⟨o,ho,hd⟩:=cc;exact⟨c,e',o,kp c o ho,hd⟩
 .obtain⟨v,o,ho,hd⟩:=S7 x c e;exact⟨v,o,kp c o ho,hd⟩
 .exact I.dg.fresh hC
 .show(tP k bE σ).length=N.length;unfold tP;rw[Vm,V0,Vj,B.len]
def Ar(X:Cx)(ae:_b)(σ:St)(s:_k)(Q:VK)(acc:_j)(C:_l)(s':_k):Prop:=
 ∃D H',acc=.ref D/\s.heap.objs.size<=C/\a9 X ae σ H' s'/\H' C=none/\(∃m,s'.heap.Ns C m)/\Q (.ref D) H'
structure Nf(C:Cx->Prop)(P:_n)(w:World)(K:_c)(tg:Expr)(J:It)(fp:_h)(it:_l)(tn:Nat->Heap->Prop):Prop where
 obj:∀i h,tn i h->∀b∈fp,∃o,h.get? b=some o/\∀v,o.data≠.cell v
 keep:∀i h h',tn i h->(∀b∈fp,∀o,h.get? b=some o->h'.get? b=some o)->tn i h'
 item:∀(X:Cx),X.prog=P->X.w=w->X.K=K->C X->∀(i:Nat)(ae:_b)(s:_k)(σ:St)(H:Hp)(E:Z'),a9 X ae σ H s->(∀b∈fp,kJ X ae H b)->tn i s.heap->J.go i H ->
  wpAny (model P w) X.A (pyNext (.ref it)) (λr s1=>∃u,r=some u/\wpAny (model P w) X.A (letOwnedTupleGo tg (.ref it) u) (λ_ s2=>∃x H',a9 X ae σ H' s2/\bM x u/\J.Rm i H x H'/\tn (i+1) s2.heap/\∀b∈fp,H' b=none) E s1) E s
 done:∀(X:Cx),X.prog=P->X.w=w->X.K=K->C X->∀(i:Nat)(ae:_b)(s:_k)(σ:St)(H:Hp)(E:Z'),a9 X ae σ H s->(∀b∈fp,kJ X ae H b)->tn i s.heap->J.stop i H ->
  wpAny (model P w) X.A (pyNext (.ref it)) (λr s1=>r=none/\a9 X ae σ H s1) E s
 self:∀(A:_m)(i:Nat)(s:_k)(Q:Z')(E:Z'),tn i s.heap->Q (.ref it) s->wpAny (model P w) A (pyIter (.ref it)) Q E s
theorem Turn.c{w:World}{K:_c}{it:_l}(T:Turn P w K tg J fp it tn):Nf (λX=>X.calm=true) P w K tg J fp it tn:=⟨T.obj,T.keep,T.item,T.done,T.self⟩
def S8(X:Cx)(N:_i)(scope:Scope)(cl:List (Str×_l))(C:_l)(fp:_h)(s:_k)(H:Hp)(xe:_l->_j->_k->Prop):Cx:={wO X N scope cl C fp s H with xe:=xe C}
theorem a9.xe{X:Cx}{ae:_b}{σ:St}{H:Hp}{s:_k}(I:a9 X ae σ H s)(x:Z'):a9 {X with xe:=x} ae σ H s:=by obtain⟨⟨o1,o2,o3,o4,o5,o6,o7,o8,o9,o10,o11,o12,o13,o14,o15,o16,o17,o18⟩,i2,i3,i4,i5,i6,i7,i8,i9,i10,i11⟩:=I;exact⟨⟨o1,o2,o3,o4,o5,o6,o7,o8,o9,o10,o11,o12,o13,o14,o15,o16,o17,o18⟩,i2,i3,i4,i5,i6,i7,i8,i9,i10,i11⟩
def O6(X:Cx)(fp:_h)(C:_l)(s:_k)(H:Hp):Prop:=∃ae σ,a9 X ae σ H s/\(∀b∈fp,kJ X ae H b)/\s.heap.objs.size<=C
theorem O7{M:Model}{m:Sem α}{Q Q':α->_k->Prop}{E E':Z'}{s:_k}(he:∀x s',E x s'->E' x s')(h:wpAny M A m Q E s)(k:∀a s',Q a s'->Q' a s'):wpAny M A m Q' E' s:=WC h k he
theorem w!{w:World}{s:_k}{target:Expr}{scope:Scope}{pos:Pos}{it acc:_j}{env:Env}{R:Result->_k->Prop}(I:Nat->_k->Prop)
  (turn:∀ n s,I n s->wpAny (model prog w) A (pyNext it) (λr s₁=>match r with
   |none=>R (.ok .next) s₁
   |some v=>wpAny (model prog w) A (letOwnedTupleGo target it v) (λ_ Ng=>wpAny (model prog w) A (assign target env v) (λ_ s₂=>
     wpAny (model prog w) A (forIn ifs true λc r=>if r=true then do let ok <- isTrue c env (eval c env);pure (ForInStep.yield ok)else pure (ForInStep.yield r)) (λok s₃=>
      if ok=true then wpAny (model prog w) A (eval elt env) (λx s₄=>
       wpAny (model prog w) A (call (.builtin "list.append") [acc,x]) (λ_ s₅=>∃m,m<n/\I m s₅) (notedBy (model prog w) A env λx s'=>R (.error x) s') s₄) (notedBy (model prog w) A env λx s'=>R (.error x) s') s₃
      else ∃m,m<n/\I m s₃) (notedBy (model prog w) A env λx s'=>R (.error x) s') s₂) (notedBy (model prog w) A env λx s'=>R (.error x) s') Ng) (notedBy (model prog w) A env λx s'=>R (.error x) s') s₁) (notedBy (model prog w) A env λx s'=>R (.error x) s') s)
  (n:Nat) (h:I n s):codeAny (model prog w) A (.compLoop (.ListComp elt [⟨target,iter,ifs,0⟩] scope pos) 0 it acc env) R s:=by
 refine codeAny_loop rfl I (λn s hI=>?_) n h;show wpAny _ A ((compTurn (.ListComp elt [⟨target,iter,ifs,0⟩] scope pos) 0 it acc env).onRaise (λx=>do noteFrame x env;theTreesLotGoes x)) _ _ s;refine wpAny_noted ?_;rw[compTurn_list];refine Vk (YT (Vk (WC (turn n s hI) (λr s₁ h₁=>?_) λ_ _ h'=>h')));cases r with
 |none=>exact VF h₁
 |some v=>
  refine Vk (WC h₁ (λ_ Ng S9=>?_) λ_ _ h'=>h');refine Vk (WC S9 (λ_ s₂ h₂=>Vk (WC h₂ (λok s₃ h₃=>?_) λ_ _ h'=>h')) λ_ _ h'=>h');cases ok with
  |false=>exact VF ⟨rfl,h₃⟩
  |true=>exact Vk (Vk (WC h₃ (λx s₄ h₄=>Vk (WC h₄ (λ_ s₅ h₅=>VF (VF ⟨rfl,h₅⟩)) λ_ _ h'=>h')) λ_ _ h'=>h'))
theorem BY{scope:Scope}{pos:Pos}{cl:List (Str×_l)}{k:Nat}{g:TG}{tt:TT}{it:_l}{RR:_j->Env->Result->_k->Prop}{E:Z'}{xe:_l->_j->_k->Prop}{Cd:Cx->Prop}(hc:∀D,Cd (S8 X N scope cl D fp s H xe))(B:u9 X N scope cl k bE)(hg:∀C fp s H,PG (S8 X N scope cl C fp s H xe) tg g)(hi:∀C fp s H,Dt (S8 X N scope cl C fp s H xe) ifs tt)(he:∀C fp s H,O6 X fp C s H->PE (S8 X N scope cl C fp s H xe) elt te)(I:a9 X ae σ H s)(T:Nf Cd X.prog X.w X.K tg J fp it tn)(st:tn 0 s.heap)(hf:∀b∈fp,kJ X ae H b)(h:xG J k bE g tt te σ H Q)(hRR:∀acc C s',Ar X ae σ s Q acc C s'->RR acc (compEnvC scope cl C X.env) (.ok .next) s')(mon:∀acc C x s',xe C x s'->notedBy (model X.prog X.w) X.A (compEnvC scope cl C X.env) (λx s'=>RR acc (compEnvC scope cl C X.env) (.error x) s') x s'):
  wpAny (model X.prog X.w) X.A (newList []) (λacc s₃=>wpAny (model X.prog X.w) X.A (newFunctionEnv scope X.env.globals cl [] X.env.qual none .none (some X.env)) (λHf s₄=>
   codeAny (model X.prog X.w) X.A (.compStart (.ListComp elt [⟨tg,iter,ifs,0⟩] scope pos) 0 (.ref it) acc {Hf with scope:=relabel scope X.env}) (RR acc {Hf with scope:=relabel scope X.env}) s₄) E s₃) E s:=by
 obtain⟨W,⟨m0,w0⟩,turn⟩:=h;refine Wv (wpAny_newFunctionEnv B.gI (by intro y hy;simp at hy) (λh₁ BZ yH=>?_) B.kind);dsimp only at BZ yH⊢;generalize hH2:s.heap.push {cls:=.type "list",dict:=none,data:=.seq ([]:_e).toArray} = H2 at BZ yH⊢;have hC:H2.objs.size=s.heap.objs.size+1:=by rw[<-hH2,Yf]
 have S_:s.heap.objs.size<=H2.objs.size:=by rw[hC];exact ZE _
 have hDC:s.heap.objs.size≠H2.objs.size:=by rw[hC];exact V! (Ye _)
 have old:∀b o,s.heap.get? b=some o->h₁.get? b=some o:=λb o e=>yH.extBut b o (V! (VT (VJ e) S_)) (Vn _ (hH2▸Vn _ e));have O8:h₁.get? s.heap.objs.size=some {cls:=.type "list",data:=.seq ([]:_e).toArray 0}:=yH.extBut _ _ hDC (Vn _ (hH2▸VV _ rfl));have aaK:=T.obj 0 _ st;have S6:∀b∈fp,∃o,s.heap.get? b=some o:=λb hb=>let⟨o,e,_⟩:=aaK b hb;⟨o,e⟩
 have hDf:∀b∈fp,b≠s.heap.objs.size:=λb hb z=>by obtain⟨o,e⟩:=S6 b hb;exact absurd (VJ e) (by rw[z];exact Wm _)
 have hD0:H s.heap.objs.size=none:=I.dg.fresh (Vv _);have Nh:tn 0 h₁:=T.keep 0 _ _ st λb _ o e=>old b o e;have S!:∀x c,cl.lookup x=some c->c≠s.heap.objs.size:=λx c e z=>by obtain⟨v,o,ho,_⟩:=I.cell x c (B.sub x c e);exact absurd (VJ ho) (by rw[z];exact Wm _)
 have nfs:∀b∈jP X.stack,b≠s.heap.objs.size:=λb hb z=>by obtain⟨_,o,ho,_⟩:=I.stack.mem hb;exact absurd (VJ ho) (by rw[z];exact Wm _)
 have loop:∀s₃:_k,s₃ = {s with heap:=h₁,toks:=s.toks+([]:List (Str×_j)).length} ->
   codeAny (model X.prog X.w) X.A (.compLoop (.ListComp elt [⟨tg,iter,ifs,0⟩] scope pos) 0 (.ref it) (.ref s.heap.objs.size) (compEnvC scope cl H2.objs.size X.env)) (RR (.ref s.heap.objs.size) (compEnvC scope cl H2.objs.size X.env)) s₃:=by
  rintro s₃ rfl;generalize Bu:S8 X N scope cl H2.objs.size fp s H xe=XB;have eP:XB.prog=X.prog:=by rw[<-Bu];rfl
  have eW:XB.w=X.w:=by rw[<-Bu];rfl
  have eK:XB.K=X.K:=by rw[<-Bu];rfl
  have eA:XB.A=X.A:=by rw[<-Bu];rfl
  have eE:XB.env=compEnvC scope cl H2.objs.size X.env:=by rw[<-Bu];rfl
  have eL:XB.env.locals=H2.objs.size:=by rw[eE];rfl
  have eF:XB.fs=jP X.stack:=by rw[<-Bu];rfl
  have eX:XB.ex=fp:=by rw[<-Bu];rfl
  have eN:XB.pn=[]:=by rw[<-Bu];rfl
  have e0:XB.s₀=s:=by rw[<-Bu];rfl
  have eC:Cd XB:=by rw[<-Bu];exact hc _
  have ecl:XB.env.cells=cl:=by rw[eE];rfl
  have exe:XB.xe=xe H2.objs.size:=by rw[<-Bu];rfl
  have mon:=mon (.ref s.heap.objs.size) H2.objs.size;have wQ:PG XB tg g:=by rw[<-Bu];exact hg _ _ _ _
  have Hg:Dt XB ifs tt:=by rw[<-Bu];exact hi _ _ _ _
  have he':PE XB elt te:=by rw[<-Bu];exact he _ _ _ _ ⟨ae,σ,I,hf,S_⟩
  have I0:a9 XB [] (tP k bE σ) H {s with heap:=h₁,toks:=s.toks+([]:List (Str×_j)).length}:=by rw[<-Bu];exact(I.block B hf S_ S6 old BZ).xe _
  -- M9 Ni pinned
  have aaL:∀{τ:St}{H':Hp}{s':_k}{aN:_e}{nn:Nat},a9 XB [] τ H' s'->s'.heap.get? s.heap.objs.size=some {cls:=.type "list",data:=.seq aN.toArray nn}->H' s.heap.objs.size=none ->
    a9 XB [(s.heap.objs.size,{cls:=.type "list",data:=.seq aN.toArray nn})] τ H' s':=λ{τ H' s' aN nn}J hd hn=>J.pZ λp hp=>by
   obtain rfl:p=_:=Vy.mp hp;refine⟨hd,hn,by rw[eL];exact hDC,by rw[eF];exact λz=>nfs _ z rfl,λv z=>?_⟩;have z':Data.seq aN.toArray nn=Data.cell v:=z;cases z'
  have BH:∀{H':Hp}{o:Obj},(∀b∈fp,H' b=none)->∀b∈fp,kJ XB [(s.heap.objs.size,o)] H' b:=λ{H' o}hn b hb=>by
   obtain⟨_,f1,f2,f3,f4,f5⟩:=hf b hb;refine⟨hn b hb,?_,?_,.inl (by rw[eX];exact hb),λx c e=>f4 x c (B.sub x c (by rw[<-ecl];exact e)),λp hp=>?_⟩
   .rw[eL];obtain⟨o,e⟩:=S6 b hb;exact V! (VT (VJ e) S_)
   .rw[eF];intro z;rcases V_.mp (I.yp b z)with e|e
    .exact f1 e
    .exact f2 e
   .rw[eN]at hp;obtain rfl:p=_:=Vy.mp (by simpa using hp);exact W5 (hDf b hb)
  refine w! (λn s'=>∃i ys aN nn τ H',a9 XB [] τ H' s'/\s'.heap.get? s.heap.objs.size=some {cls:=.type "list",data:=.seq aN.toArray nn}/\H' s.heap.objs.size=none/\bt ys aN/\tn i s'.heap/\(∀b∈fp,H' b=none)/\W i n ys τ H') ?_ m0
   ⟨0,[],[],0,tP k bE σ,H,I0,O8,hD0,.nil,Nh,λb hb=>(hf b hb).1,w0⟩
  rintro n s3 ⟨i,ys,aN,nn,τ,H3,I3,hd3,hn3,rv3,oX,Sn,w3⟩;have I3':=aaL I3 hd3 hn3;rcases turn i n ys τ H3 w3 with⟨stop,hz,qn⟩|⟨go,hz,step⟩
  .have D1:=T.done XB eP eW eK eC i _ s3 τ H3 (notedBy (model X.prog X.w) X.A (compEnvC scope cl H2.objs.size X.env) λx s'=>RR (.ref s.heap.objs.size) (compEnvC scope cl H2.objs.size X.env) (.error x) s') I3' (BH Sn) oX stop;rw[eA]at D1;refine eJ D1 λr s4⟨hr,I4⟩=>?_;subst hr;refine hRR _ _ s4 ?_;obtain⟨pd,S?,_⟩:=I4.pin (s.heap.objs.size,{cls:=.type "list",data:=.seq aN.toArray nn}) (by rw[eN];exact VX _ (Vy.mpr rfl));have Lb:Un (jP X.stack) fp H H3 s.heap s4.heap:=by have:=I4.base;rw[<-Bu]at this;exact this
   have new:dA X.prog X.w (upd H3 s.heap.objs.size (.lst ys)) s4.heap s.heap.objs.size (.lst ys):=⟨hz,aN,nn,rv3,pd⟩
   have aaM:kH X.prog X.w H3 s4.heap:=by have:=I4.dg;rw[eP,eW]at this;exact this
   have dg:kH X.prog X.w (upd H3 s.heap.objs.size (.lst ys)) s4.heap:=aaM.Du S? new;have os4:s4.os=s.os:=by have:=I4.os;rw[e0]at this;exact this
   have un:Un (jP X.stack) fp H (upd H3 s.heap.objs.size (.lst ys)) s.heap s4.heap:=
    ⟨Lb.keep,Lb.slot,λb o e n hx=>by rw[aW (V! (VJ e))];exact Lb.free b o e n hx,Lb.there,
     λb xs e=>by rw[aW (bj (Lb.pz b xs e) S?)];exact Lb.pz b xs e,λb o u e=>by rw[aW (bj (Lb.oM b o u e) S?)];exact Lb.oM b o u e,
     λb ps e=>by
      obtain⟨more,q⟩:=Lb.pX b ps e;exact⟨more,by rw[aW (bj q S?)];exact q⟩⟩
   have I5:a9 X ae σ (upd H3 s.heap.objs.size (.lst ys)) s4:=I.Dg os4 un dg I4.bare λb hb=>⟨(hf b hb).2.2.2.1,(hf b hb).2.1,(hf b hb).2.2.2.2.1,(hf b hb).2.2.2.2.2⟩
   have hC4:H3 H2.objs.size=none:=by have:=I4.free;rw[eL]at this;exact this
   refine⟨s.heap.objs.size,_,rfl,S_,I5,by rw[aW (W5 hDC)];exact hC4,?_,qn _ S?⟩;obtain⟨m4,ns4,_⟩:=I4.loc;rw[eL]at ns4;exact⟨m4,ns4⟩
  .have D1:=T.item XB eP eW eK eC i _ s3 τ H3 (notedBy (model X.prog X.w) X.A (compEnvC scope cl H2.objs.size X.env) λx s'=>RR (.ref s.heap.objs.size) (compEnvC scope cl H2.objs.size X.env) (.error x) s') I3' (BH Sn) oX go;rw[eA]at D1;refine eJ D1 λr s4⟨u,hr,h4⟩=>?_;subst hr;refine eJ h4 λ_ s5⟨x,H5,I5,r5,y5,Ka,fr5⟩=>?_;have I5':=I5.pinned (BH fr5) (T.obj _ _ Ka);have G:=wQ _ s5 τ H5 x u _ I5' r5 (step x H5 y5);rw[eP,eW,eA,eE,exe]at G;refine O7 mon G λ_ s6⟨τ6,H6,I6,q6⟩=>?_;have G2:=Hg _ s6 τ6 H6 _ I6 q6;rw[eP,eW,eA,eE,exe]at G2;refine O7 mon G2 λok s7⟨H7,I7,q7⟩=>?_
   -- Sl M9 ae give back
   have back:∀{τ8:St}{H8:Hp}{s8:_k},a9 XB ([(s.heap.objs.size,({cls:=.type "list",data:=.seq aN.toArray nn}:Obj))]++uX fp s5.heap) τ8 H8 s8 ->
     a9 XB [] τ8 H8 s8/\s8.heap.get? s.heap.objs.size=some {cls:=.type "list",data:=.seq aN.toArray nn}/\H8 s.heap.objs.size=none/\tn (i+1) s8.heap/\∀b∈fp,H8 b=none:=λ{τ8 H8 s8}J=>by
    obtain⟨p1,p2,_⟩:=J.pin (s.heap.objs.size,{cls:=.type "list",data:=.seq aN.toArray nn}) (VX _ (Wd _ (Vy.mpr rfl)));refine⟨J.pZ λp hp=>absurd (show p∈([]:_b)from hp) (by simp),p1,p2,T.keep _ _ _ Ka λb hb o e=>(J.pin (b,o) (VX _ (VX _ (kK hb e)))).1,λb hb=>?_⟩;obtain⟨o,e,d⟩:=T.obj _ _ Ka b hb;exact(J.pin (b,o) (VX _ (VX _ (kK hb e)))).2.1
   cases ok with
   |false=>
    rw[VE VY]at q7⊢;obtain⟨m',hm,w7⟩:=q7;obtain⟨J,a1,a2,a3,a4⟩:=back I7;exact⟨m',hm,i+1,ys,aN,nn,τ6,H7,J,a1,a2,rv3,a3,a4,w7⟩
   |true=>
    rw[Vs rfl]at q7⊢;have G3:=he' _ s7 τ6 H7 _ I7 q7;rw[eP,eW,eA,eE,exe]at G3;refine O7 mon G3 λv s8⟨y,H8,I8,r8,m',hm,w8⟩=>?_;obtain⟨J,a1,a2,a3,a4⟩:=back I8;have hlen:=rv3.length;refine Yt F.slot_list_append ⟨_,a1,rfl⟩ F.entry_list_append (F.args_list_append_2 _ _) (ZS s.heap.objs.size aN.toArray nn v (by rw[VG];lia)) ⟨a1,?_⟩;have q:=Z4 a1 (λz=>z.push v);have other:∀b o,b≠s.heap.objs.size->s8.heap.get? b=some o->(s8.heap.update s.heap.objs.size (Obj.mapSeq λz=>z.push v)).get? b=some o:=λb o hb e=>(Wn s8.heap (Obj.mapSeq λz=>z.push v) (W5 hb)).trans e;have J':a9 XB [] τ6 H8 {s8 with heap:=s8.heap.update s.heap.objs.size (Obj.mapSeq λz=>z.push v)}:=
     J.turned (t':=s8.toks) (it:=s.heap.objs.size) other a2 (by rw[eL];exact hDC) (.inr (by rw[e0];exact Vv _)) (λx c e=>S! x c (by rw[<-ecl];exact e)) λp hp=>absurd (show p∈([]:_b) by rw[eN]at hp;exact hp) (by simp)
    obtain⟨n2,q2⟩:∃n2,(s8.heap.update s.heap.objs.size (Obj.mapSeq λz=>z.push v)).get? s.heap.objs.size=some {cls:=.type "list",data:=.seq (aN++[v]).toArray n2}:=by
     have e1:aN.toArray.push v=(aN++[v]).toArray:=by simp
     rw[<-e1];exact⟨_,q⟩
    exact⟨m',hm,i+1,ys++[y],aN++[v],n2,τ6,H8,J',q2,a2,rv3.append (.cons r8 .nil),T.keep _ _ _ a3 λb hb o e=>other b o (hDf b hb) e,a4,w8⟩
 exact codeAny_compStart_list (loop _ rfl) (T.self X.A 0 _ _ _ Nh (loop _ rfl))
theorem xI{scope:Scope}{pos:Pos}{cl:List (Str×_l)}{k:Nat}{g:TG}{tt:TT}{it:_l}{RR:_j->_l->Result->_k->Prop}{E:Z'}(hc:X.calm=true)(B:u9 X N scope cl k bE)(hg:∀C fp s H,PG (wO X N scope cl C fp s H) tg g)(hi:∀C fp s H,Dt (wO X N scope cl C fp s H) ifs tt)(he:∀C fp s H,PE (wO X N scope cl C fp s H) elt te)(I:a9 X ae σ H s)(T:Turn X.prog X.w X.K tg J fp it tn)(st:tn 0 s.heap)(hf:∀b∈fp,kJ X ae H b)(h:xG J k bE g tt te σ H Q)(hRR:∀acc C s',Ar X ae σ s Q acc C s'->RR acc C (.ok .next) s'):
  wpAny (model X.prog X.w) X.A (newList []) (λacc s₃=>wpAny (model X.prog X.w) X.A (newFunctionEnv scope X.env.globals cl [] X.env.qual none .none (some X.env)) (λHf s₄=>
   codeAny (model X.prog X.w) X.A (.compStart (.ListComp elt [⟨tg,iter,ifs,0⟩] scope pos) 0 (.ref it) acc {Hf with scope:=relabel scope X.env}) (RR acc Hf.locals) s₄) E s₃) E s:=by
 have z:=BY (xe:=λ_ _ _=>False) (RR:=λacc en=>RR acc en.locals) (E:=E) (iter:=iter) (pos:=pos) (Cd:=λX=>X.calm=true) (λ_=>hc) B hg hi (λC fp s H _=>he C fp s H) I T.c st hf h hRR λ_ _ _ _ q=>q.elim;exact z
section
variable{scope:Scope}{pos Hh:Pos}{cl:List (Str×_l)}{k:Nat}{g:TG}{tt:TT}
theorem a9.xJ{σ':St}{s':_k}(I:a9 X ae σ H s)(hC:s.heap.objs.size<=C)(I':a9 X ae σ' H' s')(hn:H' C=none)(sb:Heap.SameBut C s'.heap h'):
  a9 X ae σ' H' {s' with heap:=h'}:=by
 refine I'.turned (t':=s'.toks) (it:=C) (λb o hb e=>(sb.2 b hb).trans e) hn (W? (VT I.lt hC)) (.inr (Wg I.sz hC)) (λx c e=>?_) λp hp=>?_
 .obtain⟨v,o,ho,_⟩:=I.cell x c e;exact V! (VT (VJ ho) hC)
 .exact V! (VT (VJ (I.pin p hp).1) hC)
theorem Lc(hc:X.calm=true)(B:u9 X N scope cl k bE)(hi:PI X tg iter wi)(hg:∀C fp s H,PG (wO X N scope cl C fp s H) tg g)(O9:∀C fp s H,Dt (wO X N scope cl C fp s H) ifs tt)(he:∀C fp s H,PE (wO X N scope cl C fp s H) elt te)(hs:∀x,foldedSetIterable iter X.env x=pure x:=by intro _;rfl):PE X (.ListComp elt [⟨tg,iter,ifs,0⟩] scope pos) (u_ k bE wi g tt te):=by intro ae s σ H Q I h;rw[eval_ListComp];refine ZK (use:=none) rfl hs B.tQ B.kind B.names (eJ (hi ae s σ H _ I (xH h)) λxv s₁ h₁=>eJ h₁ λVd s₂ h₂=>?_);obtain⟨it,fp,tn,J,H2,e,I2,T,b8,f2,hW⟩:=h₂;subst e;refine xI (RR:=λacc C=>compPost (model X.prog X.w) X.A X.xe none (EP X ae σ Q) acc C) hc B hg O9 he I2 T b8 f2 hW ?_;rintro acc C s' ⟨D,H',rfl,hC,I',hn,⟨m,ns⟩,q⟩;exact⟨m,ns,λh' sb=>⟨.ref D,H',I2.xJ hC I' hn sb,rfl,q⟩⟩
theorem B0{i:Nat}{y:Str}{py:Pos}(hN:X.N.Nodup)(hy:X.N[i]?=some y)(hx:Loc X.env.scope y)(hc:X.calm=true)(B:u9 X N scope cl k bE)(hi:PI X tg iter wi)(hg:∀C fp s H,PG (wO X N scope cl C fp s H) tg g)(O9:∀C fp s H,Dt (wO X N scope cl C fp s H) ifs tt)(he:∀C fp s H,PE (wO X N scope cl C fp s H) elt te)(hsw:swapsWith (.ListComp elt [⟨tg,iter,ifs,0⟩] scope pos) (some (.Name y py)) Hh.line X.env=pure true:=by rfl)(hs:∀x,foldedSetIterable iter X.env x=pure x:=by intro _;rfl)(hf:X.fn y=true\/X.env.scope.names.lookup y=some .local:=by first|exact .inl rfl|exact .inr rfl|assumption):
  PS X (.Assign [.Name y py] (.ListComp elt [⟨tg,iter,ifs,0⟩] scope pos) Hh) (Kw (u_ k bE wi g tt te) (Ac i)):=by
 intro ae s σ H D I h;rw[exec_Assign_Name_used _ _ _ _ hsw];refine Vk (YT (Vk ?_));show wpAny _ X.A (do let _ <- comprehension (.ListComp elt [⟨tg,iter,ifs,0⟩] scope pos) scope X.env _ (newList []) false (eval iter X.env) (some (assign (.Name y py) X.env))) _ _ s;refine Vk (WC (ZK (use:=some (assign (.Name y py) X.env)) (Q:=λ_ s'=>SP X ae D .next s') rfl hs B.tQ B.kind B.names (eJ (hi ae s σ H _ I (xH h)) λxv s₁ h₁=>eJ h₁ λVd s₂ h₂=>?_)) (λ_ s' hq=>VF (VF hq)) λ_ _ e=>e);obtain⟨it,fp,tn,J,H2,e,I2,T,b8,f2,hW⟩:=h₂;subst e;refine xI (Q:=λv H'=>Ac i v σ H' D.nx) (RR:=λacc C=>compPost (model X.prog X.w) X.A X.xe (some (assign (.Name y py) X.env)) (λ_ s'=>SP X ae D .next s') acc C) hc B hg O9 he I2 T b8 f2 hW ?_;rintro acc C s' ⟨D',H',rfl,hC,I',hn,⟨m,ns⟩,q⟩;show wpAny _ _ (assign (.Name y py) X.env (.ref D')) _ _ s';refine wpAny_assign_Name (xy I' hN hy hx (v:=.ref D') rfl (λmW I''⟨a,sb,ha⟩=>?_) hf);have hCa:C≠a:=by
  rcases ha with e|e
  .rw[e];exact W? (VT I2.lt hC)
  .obtain⟨v,o,ho,_⟩:=I2.cell y a e;exact W? (VT (VJ ho) hC)
 exact⟨m,ns.sameBut sb hCa,λh' sb'=>⟨_,H',I2.xJ hC I'' hn sb',q⟩⟩
end
section
variable{K:_c}{g:TG}{tt:TT}
theorem Ld{k:Nat}(n:Nat)(hn:n<=sizeLine)(Pv:Nat->List V->St->Hp->Prop)(h0:Pv 0 [] (tP k bE σ) H)(hgo:∀i ys τ H,i<n->Pv i ys τ H->J.go i H)(yt:∀ys τ H,Pv n ys τ H->J.stop n H)(hl:∀i ys τ H,Pv i ys τ H->ys.length<=i)(hs:∀i ys τ H x H',i<n->Pv i ys τ H->J.Rm i H x H'->∀K1:List V->St->Hp->Prop,(∀ys τ H,Pv (i+1) ys τ H->K1 ys τ H)->g x τ H' λτ2 H2=>tt τ2 H2 λb H3=>if b=true then te τ2 H3 λy H4=>K1 (ys++[y]) τ2 H4 else K1 ys τ2 H3)(hd:∀ys τ H p,Pv n ys τ H->H p=none->Q (.ref p) (upd H p (.lst ys))):xG J k bE g tt te σ H Q:=by
 refine⟨λi m ys τ H=>m=n-i/\i<=n/\Pv i ys τ H,⟨n,by simp,We _,h0⟩,?_⟩;rintro i m ys τ H ⟨rfl,hi,p⟩;have hy:=hl i ys τ H p;by_cases sR:i<n
 .refine .inr ⟨hgo i ys τ H sR p,by lia,λx H' y=>?_⟩;exact hs i ys τ H x H' sR p y (λys τ H=>∃m',m'<n-i/\m'=n-(i+1)/\i+1<=n/\Pv (i+1) ys τ H) λys τ H q=>⟨n-(i+1),by lia,rfl,sR,q⟩
 .have e:i=n:=by lia
  subst e;exact .inl ⟨yt ys τ H p,by lia,λq hq=>hd ys τ H q p hq⟩
end
def eR(b:Bool)(h:Heap)(i l:_l)(k:Nat):Prop:=match b with|true=>h.IsListIter i l k|false=>h.IsTupleIter i l k
def j6(b:Bool)(h:Heap)(l:_l)(xs:Array _j):Prop:=match b with|true=>h.IsList l xs|false=>h.IsTuple l xs
theorem eR.keep{b:Bool}{i l:_l}{k:Nat}(x:eR b h i l k)(e:∀o,h.get? i=some o->h'.get? i=some o):eR b h' i l k:=by
 cases b with
 |true=>exact Heap.IsListIter.at x e
 |false=>exact Heap.IsTupleIter.at x e
theorem j6.keep{b:Bool}{l:_l}(x:j6 b h l xs)(e:∀o,h.get? l=some o->h'.get? l=some o):j6 b h' l xs:=by
 cases b with
 |true=>exact Heap.IsList.at x e
 |false=>obtain⟨o,ho,r⟩:=(show h.IsTuple l xs from x);exact⟨o,e _ ho,r⟩
theorem eR.there{b:Bool}{i l:_l}{k:Nat}(x:eR b h i l k):∃o n vs,h.get? i=some o/\o.cls=.type n/\o.data=.fields vs:=by
 cases b with
 |true=>obtain⟨o,h1,h2,h3⟩:=(show h.IsListIter i l k from x);exact⟨o,_,_,h1,h2,h3⟩
 |false=>obtain⟨o,h1,h2,h3⟩:=(show h.IsTupleIter i l k from x);exact⟨o,_,_,h1,h2,h3⟩
section
variable{w:World}{E:Z'}
theorem u!{it t:_l}{i:Nat}{x:_j}{Q:Z'}(hit:s.heap.IsTupleIter it t i)(ht:s.heap.IsTuple t items)(hx:items[i]?=some x)(hQ:∀h',h'.IsTupleIter it t (i+1)->Heap.SameBut it s.heap h'->Q x {s with heap:=h'}):wpAny (model prog w) A (Builtin.SmallTypes.nextOf (.ref it)) Q E s:=by obtain⟨oi,Nj,ci,di⟩:=id hit;obtain⟨ot,hot,_,nt,dt⟩:=ht;unfold Builtin.SmallTypes.nextOf;refine Vk (WL (name:=Str.ofString "__next__") hit.typeIs XJ (WX XJ hit.typeIs ZC ?_ (Zz _)));show wpAny _ _ (field (.ref it) 0 >>= _) _ _ s;refine Vk (Wq Nj di (x:=.ref t) rfl ?_);show wpAny _ _ (if(Value.ref t==Value.none)=true then _ else _) _ _ s;rw[VE (show ¬ ((Value.ref t==Value.none)=true)from VY)];show wpAny _ _ (field (.ref it) 1 >>= _) _ _ s;refine Vk (Wq Nj di (x:=.int i 0) rfl ?_);show wpAny _ _ (seqItems? (.ref t) >>= _) _ _ s;refine Vk (Xj hot dt ?_);simp only[WM,hx];refine Vk (XG Nj di (by simp) (VF ⟨x,rfl,VF (hQ _ ?_ (Xi ..))⟩));exact⟨_,Xb _ Nj (Xw (WJ di _)),(Obj.cls_mapFields ..).trans ci,by rw[WJ di];simp[rawInt]⟩
theorem w?{it t:_l}{i:Nat}{Q:Z'}(hh:A.handled=none)(hit:s.heap.IsTupleIter it t i)(ht:s.heap.IsTuple t items)(hx:items[i]?=none)(hE:∀h' e,Heap.ExtBut it s.heap h'->(∃o,h'.get? e=some o/\o.cls=.type "StopIteration")->E (.ref e) {s with heap:=h'}):wpAny (model prog w) A (Builtin.SmallTypes.nextOf (.ref it)) Q E s:=by
 obtain⟨oi,Nj,ci,di⟩:=id hit;obtain⟨ot,hot,_,nt,dt⟩:=ht;unfold Builtin.SmallTypes.nextOf;refine Vk (WL (name:=Str.ofString "__next__") hit.typeIs XJ (WX XJ hit.typeIs ZC ?_ (Zz _)));show wpAny _ _ (field (.ref it) 0 >>= _) _ _ s;refine Vk (Wq Nj di (x:=.ref t) rfl ?_);show wpAny _ _ (if(Value.ref t==Value.none)=true then _ else _) _ _ s;rw[VE (show ¬ ((Value.ref t==Value.none)=true)from VY)];show wpAny _ _ (field (.ref it) 1 >>= _) _ _ s;refine Vk (Wq Nj di (x:=.int i 0) rfl ?_);show wpAny _ _ (seqItems? (.ref t) >>= _) _ _ s;refine Vk (Xj hot dt ?_);simp only[WM,hx];refine Vk (ZD (Vk (XG Nj di (by simp) ?_)));show wpAny _ _ (newExc (.type "StopIteration") [] >>= _) _ _ _;refine Vk ?_;simp only[newExc,newTuple];refine Vk (Wv ?_ (by size_fits));refine Vk (m:=firstArgMember _ _) (wpAny_of_eq (a:=Value.none) (by first|rfl|(simp only[firstArgMember];rfl)) ?_);refine Wv ?_ (by size_fits);simp only[raiseNew];refine Vk (wpAny_handled ?_)
 first|rw[show A.in1.handled=none from hh]|rw[hh]
 refine Vk (VF (wpAny_throw ?_));exact hE _ _ (((Xi ..).extBut.push _).push _) ⟨_,VV _ rfl,rfl⟩
theorem kN{b:Bool}{it t:_l}{i:Nat}{x:_j}{Q:Z'}(hit:eR b s.heap it t i)(ht:j6 b s.heap t items)(hx:items[i]?=some x)(hQ:∀h',eR b h' it t (i+1)->Heap.SameBut it s.heap h'->Q x {s with heap:=h'}):wpAny (model prog w) A (Builtin.SmallTypes.nextOf (.ref it)) Q E s:=by
 cases b with
 |true=>exact wpAny_nextOf_list_item hit ht hx hQ
 |false=>exact u! hit ht hx hQ
theorem sS{b:Bool}{it t:_l}{i:Nat}{Q:Z'}(hh:A.handled=none)(hit:eR b s.heap it t i)(ht:j6 b s.heap t items)(hx:items[i]?=none)(hE:∀h' e,Heap.ExtBut it s.heap h'->(∃o,h'.get? e=some o/\o.cls=.type "StopIteration")->E (.ref e) {s with heap:=h'}):wpAny (model prog w) A (Builtin.SmallTypes.nextOf (.ref it)) Q E s:=by
 cases b with
 |true=>exact wpAny_nextOf_list_end hh hit ht hx hE
 |false=>exact w? hh hit ht hx hE
end
abbrev u?(b:Bool)(l:_l):Obj:={cls:=.type (match b with|true => "list_iterator"|false => "tuple_iterator"),data:=.fields #[.ref l,.int 0 0]}
section
variable{w:World}{E:Z'}
theorem eR.new(b:Bool){i l:_l}(e:h.get? i=some (u? b l)):eR b h i l 0:=by
 cases b with
 |true=>exact⟨_,e,rfl,rfl⟩
 |false=>exact⟨_,e,rfl,rfl⟩
theorem ve{b:Bool}{l:_l}{Q:Z'}(h:j6 b s.heap l xs)(hQ:Q (.ref s.heap.objs.size) {s with heap:=s.heap.push (u? b l)}):wpAny (model prog w) A (pyIter (.ref l)) Q E s:=by
 cases b with
 |true=>exact Y3 h hQ
 |false=>exact wpAny_pyIter_tuple h hQ
theorem Le{z TI TO l1 l2:_l}{x y a b:_j}{Q:Z'}(D:ZipApart z TI TO i1 i2 l1 l2)(hz:IsZip s.heap z TI TO .none)(yI:IsPair s.heap TI (.ref i1) (.ref i2))(zX:IsPair s.heap TO a b)(h1:eR b1 s.heap i1 l1 k1)(h2:eR b2 s.heap i2 l2 k2)(tR:j6 b1 s.heap l1 xs)(uv:j6 b2 s.heap l2 ys)(hx:xs[k1]?=some x)(hy:ys[k2]?=some y)
  (hQ:∀ h',IsZip h' z TI TO (rawInt s.heap.objs.size)->IsPair h' TO x y->eR b1 h' i1 l1 (k1+1)->eR b2 h' i2 l2 (k2+1)->IsPair h' s.heap.objs.size x y ->
   (∀c o,c≠z->c≠TO->c≠i1->c≠i2->s.heap.get? c=some o->h'.get? c=some o)->Q (.ref s.heap.objs.size) {s with heap:=h'}):
  wpAny (model prog w) A (Builtin.«zip.__next__» ⟨[.ref z],[]⟩) (λfin s'=>∃v,fin=.done (.ret v)/\Q v s') E s:=by
 show wpAny _ _ (field (.ref z) 2 >>= _) _ _ _;refine Vk (Wq hz rfl (x:=.bool false) rfl ?_);show wpAny _ _ (field (.ref z) 3 >>= _) _ _ _;refine Vk (Wq hz rfl (x:=.ref TI) rfl (Vk (Xj yI rfl ?_)));show wpAny _ _ (Builtin.SmallTypes.ownedTupleIsFree (.ref z) >>= _) _ _ _;refine Vk ?_;unfold Builtin.SmallTypes.ownedTupleIsFree;refine Vk (Wq hz rfl (x:=.none) rfl (VF ?_));simp only[Zd];refine Vk (ZD (Vk (Wq hz rfl (x:=.ref TO) rfl (Vk (Xq hz (by simp) λg₁ sT s₁=>?_)))));replace sT:IsZip g₁ z TI TO .ellipsis:=sT;refine Vk ?_;simp only[Zt,List.zipIdx_nil,List.forIn_cons,List.forIn_nil];refine Vk (Vk (YU ?_));show wpAny _ _ (Builtin.SmallTypes.nextOf (.ref i1) >>= _) _ _ _;refine Vk (kN (b:=b1) (h1.keep λo e=>s₁.extBut _ o D.i1z e) (tR.keep λo e=>s₁.extBut _ o D.l1z e) hx λg₂ q₁ s₂=>VF ?_);have t₂:IsPair g₂ TO a b:=s₂.extBut _ _ D.TOi1 (s₁.extBut _ _ D.TOz zX);refine Vk (Xj t₂ rfl (Vk (YJ t₂ λg₃ t₃ s₃=>?_)));replace t₃:IsPair g₃ TO x b:=t₃;refine Vk (Zg (VF (Vk (Vk (YU ?_)))));show wpAny _ _ (Builtin.SmallTypes.nextOf (.ref i2) >>= _) _ _ _;refine Vk (kN (b:=b2) (h2.keep λo e=>s₃.extBut _ o D.TOi2.symm (s₂.extBut _ o D.i12.symm (s₁.extBut _ o D.i2z e))) (uv.keep λo e=>s₃.extBut _ o D.l2TO (s₂.extBut _ o D.l2i1 (s₁.extBut _ o D.l2z e))) hy λg₄ q₂ s₄=>VF ?_);have t₄:IsPair g₄ TO x b:=s₄.extBut _ _ D.TOi2 t₃;refine Vk (Xj t₄ rfl (Vk (YJ t₄ λg₅ t₅ s₅=>?_)));replace t₅:IsPair g₅ TO x y:=t₅;refine Vk (Zg (VF (VF (Vk (Xj t₅ rfl (Vk (wpAny_newTuple ?_)))))));have sz:g₅.objs.size=s.heap.objs.size:=by rw[s₅.1,s₄.1,s₃.1,s₂.1,s₁.1]
 have z₅:IsZip g₅ z TI TO .ellipsis:=s₅.extBut _ _ D.TOz.symm (s₄.extBut _ _ D.i2z.symm (s₃.extBut _ _ D.TOz.symm (s₂.extBut _ _ D.i1z.symm sT)));have kp:∀c o,c≠z->c≠TO->c≠i1->c≠i2->s.heap.get? c=some o->g₅.get? c=some o:=λc o n1 n2 n3 n4 e=>s₅.extBut _ _ n2 (s₄.extBut _ _ n4 (s₃.extBut _ _ n2 (s₂.extBut _ _ n3 (s₁.extBut _ _ n1 e))));have p₁:eR b1 g₅ i1 l1 (k1+1):=q₁.keep λo e=>s₅.extBut _ o D.TOi1.symm (s₄.extBut _ o D.i12 (s₃.extBut _ o D.TOi1.symm e));have p₂:eR b2 g₅ i2 l2 (k2+1):=q₂.keep λo e=>s₅.extBut _ o D.TOi2.symm e;have zlt:z<g₅.objs.size:=VJ z₅;show wpAny _ _ (Builtin.SmallTypes.ownedTupleHandOut (.ref z) (.ref g₅.objs.size) >>= _) _ _ _;refine Vk ?_;unfold Builtin.SmallTypes.ownedTupleHandOut;have z₆:IsZip (g₅.push {cls:=.type "tuple",data:=.seq #[x,y]}) z TI TO .ellipsis:=Vn _ z₅;refine Vk (Xq z₆ (by simp) λg₇ z₇ s₇=>?_);replace z₇:IsZip g₇ z TI TO (rawInt g₅.objs.size):=z₇;refine Xq z₇ (by simp) λg₈ z₈ s₈=>?_;replace z₈:IsZip g₈ z TI TO (rawInt g₅.objs.size):=z₈;have up:∀c o,c≠z->g₅.get? c=some o->g₈.get? c=some o:=λc o n e=>s₈.extBut _ _ n (s₇.extBut _ _ n (Vn _ e));have t₈:IsPair g₈ g₅.objs.size x y:=s₈.extBut _ _ (W? zlt) (s₇.extBut _ _ (W? zlt) (VV _ rfl));rw[sz]at z₈ t₈;refine VF ⟨_,rfl,?_⟩;show Q (.ref g₅.objs.size) _;rw[sz];exact hQ g₈ z₈ (up _ _ D.TOz t₅) (p₁.keep λo e=>up _ o D.i1z e) (p₂.keep λo e=>up _ o D.i2z e) t₈ λc o n1 n2 n3 n4 e=>up c o n1 (kp c o n1 n2 n3 n4 e)
theorem O_{z TI TO l1 l2:_l}{a b:_j}{Q:Fin->_k->Prop}(hh:A.handled=none)(D:ZipApart z TI TO i1 i2 l1 l2)(hz:IsZip s.heap z TI TO .none)(yI:IsPair s.heap TI (.ref i1) (.ref i2))(zX:IsPair s.heap TO a b)(h1:eR b1 s.heap i1 l1 k1)(h2:eR b2 s.heap i2 l2 k2)(tR:j6 b1 s.heap l1 xs)(uv:j6 b2 s.heap l2 ys)(he:xs[k1]?=none\/ys[k2]?=none)(hE:∀h' e,(∀c o,c≠z->c≠TO->c≠i1->c≠i2->s.heap.get? c=some o->h'.get? c=some o)->(∃o,h'.get? e=some o/\o.cls=.type "StopIteration")->E (.ref e) {s with heap:=h'}):
  wpAny (model prog w) A (Builtin.«zip.__next__» ⟨[.ref z],[]⟩) Q E s:=by
 show wpAny _ _ (field (.ref z) 2 >>= _) _ _ _;refine Vk (Wq hz rfl (x:=.bool false) rfl ?_);show wpAny _ _ (field (.ref z) 3 >>= _) _ _ _;refine Vk (Wq hz rfl (x:=.ref TI) rfl (Vk (Xj yI rfl ?_)));show wpAny _ _ (Builtin.SmallTypes.ownedTupleIsFree (.ref z) >>= _) _ _ _;refine Vk ?_;unfold Builtin.SmallTypes.ownedTupleIsFree;refine Vk (Wq hz rfl (x:=.none) rfl (VF ?_));simp only[Zd];refine Vk (ZD (Vk (Wq hz rfl (x:=.ref TO) rfl (Vk (Xq hz (by simp) λg₁ sT s₁=>?_)))));replace sT:IsZip g₁ z TI TO .ellipsis:=sT;refine Vk ?_;simp only[Zt,List.zipIdx_nil,List.forIn_cons,List.forIn_nil];refine Vk (Vk (YU ?_));show wpAny _ _ (Builtin.SmallTypes.nextOf (.ref i1) >>= _) _ _ _;cases hx:xs[k1]? with
 |none=>
  refine Vk (sS (b:=b1) hh (h1.keep λo e=>s₁.extBut _ o D.i1z e) (tR.keep λo e=>s₁.extBut _ o D.l1z e) hx λg₂ e s₂⟨oe,O!,ce⟩=>?_);have z₂:IsZip g₂ z TI TO .ellipsis:=s₂ _ _ D.i1z.symm sT;have nez:e≠z:=λq=>by subst q;rw[z₂]at O!;cases O!;simp at ce
  exact Xq z₂ (by simp) λg₃ _ s₃=>hE g₃ e (λc o n1 _ n3 _ q=>s₃.extBut _ _ n1 (s₂ _ _ n3 (s₁.extBut _ _ n1 q))) ⟨oe,s₃.extBut _ _ nez O!,ce⟩
 |some x=>
  have hy:ys[k2]?=none:=by
   rcases he with q|q
   .rw[hx]at q;cases q
   .exact q
  refine Vk (kN (b:=b1) (h1.keep λo e=>s₁.extBut _ o D.i1z e) (tR.keep λo e=>s₁.extBut _ o D.l1z e) hx λg₂ q₁ s₂=>VF ?_);have t₂:IsPair g₂ TO a b:=s₂.extBut _ _ D.TOi1 (s₁.extBut _ _ D.TOz zX);refine Vk (Xj t₂ rfl (Vk (YJ t₂ λg₃ t₃ s₃=>?_)));refine Vk (Zg (VF (Vk (Vk (YU ?_)))));show wpAny _ _ (Builtin.SmallTypes.nextOf (.ref i2) >>= _) _ _ _;refine Vk (sS (b:=b2) hh (h2.keep λo e=>s₃.extBut _ o D.TOi2.symm (s₂.extBut _ o D.i12.symm (s₁.extBut _ o D.i2z e))) (uv.keep λo e=>s₃.extBut _ o D.l2TO (s₂.extBut _ o D.l2i1 (s₁.extBut _ o D.l2z e))) hy λg₄ e s₄⟨oe,O!,ce⟩=>?_);have z₄:IsZip g₄ z TI TO .ellipsis:=s₄ _ _ D.i2z.symm (s₃.extBut _ _ D.TOz.symm (s₂.extBut _ _ D.i1z.symm sT));have nez:e≠z:=λq=>by subst q;rw[z₄]at O!;cases O!;simp at ce
  exact Xq z₄ (by simp) λg₅ _ s₅=>hE g₅ e (λc o n1 n2 n3 n4 q=>s₅.extBut _ _ n1 (s₄ _ _ n4 (s₃.extBut _ _ n2 (s₂.extBut _ _ n3 (s₁.extBut _ _ n1 q))))) ⟨oe,s₅.extBut _ _ nez O!,ce⟩
theorem E4{z TI TO l1 l2:_l}{x y a b:_j}{Q:_g->_k->Prop}(D:ZipApart z TI TO i1 i2 l1 l2)(hz:IsZip s.heap z TI TO .none)(yI:IsPair s.heap TI (.ref i1) (.ref i2))(zX:IsPair s.heap TO a b)(h1:eR b1 s.heap i1 l1 k1)(h2:eR b2 s.heap i2 l2 k2)(tR:j6 b1 s.heap l1 xs)(uv:j6 b2 s.heap l2 ys)(hx:xs[k1]?=some x)(hy:ys[k2]?=some y)
  (hQ:∀ h',IsZip h' z TI TO (rawInt s.heap.objs.size)->IsPair h' TO x y->eR b1 h' i1 l1 (k1+1)->eR b2 h' i2 l2 (k2+1)->IsPair h' s.heap.objs.size x y ->
   (∀c o,c≠z->c≠TO->c≠i1->c≠i2->s.heap.get? c=some o->h'.get? c=some o)->Q (some (.ref s.heap.objs.size)) {s with heap:=h'}):wpAny (model prog w) A (pyNext (.ref z)) Q E s:=by
 have tz:s.TypeIs (.ref z) "zip":=⟨_,hz,rfl⟩
 unfold pyNext;exact Vk (Ym (WL (name:=Str.ofString "__next__") tz YD
  (WX YD tz F.entry_zip_next (Le (b1:=b1) (b2:=b2) D hz yI zX h1 h2 tR uv hx hy λh' a1 a2 a3 a4 a5 a6=>VF (hQ h' a1 a2 a3 a4 a5 a6)) (F.args_zip_next_1 _))))
theorem Hi{z TI TO l1 l2:_l}{a b:_j}{Q:_g->_k->Prop}(hh:A.handled=none)(D:ZipApart z TI TO i1 i2 l1 l2)(hz:IsZip s.heap z TI TO .none)(yI:IsPair s.heap TI (.ref i1) (.ref i2))(zX:IsPair s.heap TO a b)(h1:eR b1 s.heap i1 l1 k1)(h2:eR b2 s.heap i2 l2 k2)(tR:j6 b1 s.heap l1 xs)(uv:j6 b2 s.heap l2 ys)(he:xs[k1]?=none\/ys[k2]?=none)(hQ:∀h',(∀c o,c≠z->c≠TO->c≠i1->c≠i2->s.heap.get? c=some o->h'.get? c=some o)->Q none {s with heap:=h'}):wpAny (model prog w) A (pyNext (.ref z)) Q E s:=by
 have tz:s.TypeIs (.ref z) "zip":=⟨_,hz,rfl⟩
 unfold pyNext;refine Vk (Ym (WL (name:=Str.ofString "__next__") tz YD
  (WX YD tz F.entry_zip_next (O_ (b1:=b1) (b2:=b2) hh D hz yI zX h1 h2 tR uv he λh' e hk he=>?_) (F.args_zip_next_1 _))))
 obtain⟨o,ho,hc⟩:=he;exact Vk (Za (T:="StopIteration") (b:=true) ⟨o,ho,hc⟩ isSubtype_stop (VF (hQ _ hk)))
abbrev zH1(b1:Bool)(h:Heap)(l1:_l):Heap:=h.push (u? b1 l1)
abbrev zH2(b1 b2:Bool)(h:Heap)(l1 l2:_l):Heap:=(zH1 b1 h l1).push (u? b2 l2)
abbrev zH3(b1 b2:Bool)(h:Heap)(l1 l2:_l):Heap:=(zH2 b1 b2 h l1 l2).push {cls:=.type "tuple",data:=.seq #[.ref h.objs.size,.ref (zH1 b1 h l1).objs.size]}
abbrev zH4(b1 b2:Bool)(h:Heap)(l1 l2:_l):Heap:=(zH3 b1 b2 h l1 l2).push {cls:=.type "tuple",data:=.seq #[.none,.none]}
abbrev Ru(b1 b2:Bool)(h:Heap)(l1 l2:_l):Heap:=(zH4 b1 b2 h l1 l2).push {cls:=.type "zip",data:=.fields #[.none,.bool false,.bool false,.ref (zH2 b1 b2 h l1 l2).objs.size,.ref (zH3 b1 b2 h l1 l2).objs.size]}
theorem Hj(b1 b2:Bool)(l1 l2:_l)(xs ys:Array _j):
  Meets (Builtin.«zip.__new__» ⟨[.type "zip",.ref l1,.ref l2],[]⟩) (λ_ R s=>j6 b1 s.heap l1 xs/\j6 b2 s.heap l2 ys/\R (.ok (.ret (.ref (zH4 b1 b2 s.heap l1 l2).objs.size))) {s with heap:=Ru b1 b2 s.heap l1 l2}):=
 .of_wp λprog w A R s h=>by
  obtain⟨hp,g,d,tk,os⟩:=s;obtain⟨q1,q2,h⟩:=h;have abK:=sub_zip;have w1:j6 b1 (Shared.heap ⟨hp,g,d,tk,os⟩) l1 xs:=q1;have w2:j6 b2 (Shared.heap ⟨hp.push (u? b1 l1),g,d,tk,os⟩) l2 ys:=q2.keep λo e=>Vn _ e
  wp_walk using ve w1,ve w2
  exact⟨_,rfl,h⟩
theorem Hk{l1 l2:_l}{Q:Z'}(tR:j6 b1 s.heap l1 xs)(uv:j6 b2 s.heap l2 ys)
  (h:∀ h',IsZip h' (s.heap.objs.size+4) (s.heap.objs.size+2) (s.heap.objs.size+3) .none->IsPair h' (s.heap.objs.size+2) (.ref s.heap.objs.size) (.ref (s.heap.objs.size+1))->IsPair h' (s.heap.objs.size+3) .none .none ->
   eR b1 h' s.heap.objs.size l1 0->eR b2 h' (s.heap.objs.size+1) l2 0->(∀c o,s.heap.get? c=some o->h'.get? c=some o)->Q (.ref (s.heap.objs.size+4)) {s with heap:=h'}):
  wpAny (model prog w) A (call (.type "zip") [.ref l1,.ref l2]) Q E s:=by
 refine callType_new F.called_zip (by decide) (F.typeCall_zip_2 _ _) (F.newCall_zip_2 _ _) (λobj=>F.args_object_init_3 obj _ _) F.entry_zip_new (Hj b1 b2 l1 l2 xs ys) ⟨tR,uv,?_⟩;have z1:(zH1 b1 s.heap l1).objs.size=s.heap.objs.size+1:=Yf ..;have z2:(zH2 b1 b2 s.heap l1 l2).objs.size=s.heap.objs.size+2:=by rw[Yf,z1]
 have z3:(zH3 b1 b2 s.heap l1 l2).objs.size=s.heap.objs.size+3:=by rw[Yf,z2]
 have z4:(zH4 b1 b2 s.heap l1 l2).objs.size=s.heap.objs.size+4:=by rw[Yf,z3]
 have g5:(Ru b1 b2 s.heap l1 l2).get? (zH4 b1 b2 s.heap l1 l2).objs.size=some _:=VV _ rfl;have g4:(Ru b1 b2 s.heap l1 l2).get? (zH3 b1 b2 s.heap l1 l2).objs.size=some _:=Vn _ (VV _ rfl);have g3:(Ru b1 b2 s.heap l1 l2).get? (zH2 b1 b2 s.heap l1 l2).objs.size=some _:=Vn _ (Vn _ (VV _ rfl));have g2:(Ru b1 b2 s.heap l1 l2).get? (zH1 b1 s.heap l1).objs.size=some (u? b2 l2):=Vn _ (Vn _ (Vn _ (VV _ rfl)));have g1:(Ru b1 b2 s.heap l1 l2).get? s.heap.objs.size=some (u? b1 l1):=Vn _ (Vn _ (Vn _ (Vn _ (VV _ rfl))));show _/\_;rw[z2,z3,z4]at g5;rw[z1,z2]at g3;rw[z3]at g4;rw[z1]at g2;rw[z4];exact⟨⟨_,g5,rfl⟩,h _ g5 g3 g4 (.new b1 g1) (.new b2 g2) λc o x=>Vn _ (Vn _ (Vn _ (Vn _ (Vn _ x))))⟩
end
def B1(b:Bool)(K:_c)(H:Hp)(a:_l)(xs:List V):Prop:=match b with|true=>oy K H a xs|false=>oW K H a xs
theorem a9.Rv{b:Bool}{a:_l}{xs:List V}(I:a9 X ae σ H s)(h:B1 b X.K H a xs):∃aN:_e,bt xs aN/\j6 b s.heap a aN.toArray/\xs.length<=sizeLine:=by
 cases b with
 |true=>obtain⟨aN,r,p,z⟩:=I.list h;exact⟨aN,r,p.isList,z⟩
 |false=>obtain⟨aN,r,p,z⟩:=I.tuple h;exact⟨aN,r,p,z⟩
theorem a9.Dw{b:Bool}{a:_l}{xs ys:List V}(I:a9 X ae σ H s)(h:B1 b X.K H a xs)(h':B1 b X.K H a ys):xs=ys:=by
 cases b with
 |true=>exact I.p4 h h'
 |false=>exact I.q! h h'
theorem a9.Nk{b:Bool}{l c:_l}{zs:List V}(I:a9 X ae σ H s)(hs:B1 b X.K H l zs)(f:kJ X ae H c):l≠c:=by
 intro q;have mo:∀o,X.K.lookup l=some o->False:=λo hk=>by
  have e:=I.mod.RW l o hk;rcases f.2.2.2.1 with z|z
  .exact I.ok.Kk l o e (by rw[q];exact z)
  .exact absurd (VT (VJ (I.ok.bs l o e).1) (by rw[q];exact z)) (Wm _)
 have tr:∀o,H l=some o->False:=λo e=>by rw[q,f.1]at e;cases e
 cases b with
 |true=>
  rcases(show oy X.K H l zs from hs) with(r|⟨o,r⟩)|⟨o,aN,n,hk,_⟩
  .exact tr _ r
  .exact tr _ r
  .exact mo o hk
 |false=>
  rcases(show oW X.K H l zs from hs) with(r|⟨o,r⟩)|⟨o,aN,n,hk,_⟩
  .exact tr _ r
  .exact tr _ r
  .exact mo o hk
def Itz(K:_c)(b1 b2:Bool)(a b:_l):It:=
 ⟨λi H=>∃xs ys x y,B1 b1 K H a xs/\B1 b2 K H b ys/\xs[i]?=some x/\ys[i]?=some y,
  λi H v H'=>∃p x y,v=.ref p/\H p=none/\H'=upd H p (.tup [x,y])/\(∀xs,B1 b1 K H a xs->xs[i]?=some x)/\∀ys,B1 b2 K H b ys->ys[i]?=some y,
  λi H=>∃xs ys,B1 b1 K H a xs/\B1 b2 K H b ys/\(xs.length<=i\/ys.length<=i)⟩
theorem Hl{w:World}{K:_c}{z TI TO:_l}(a b:_l)(ne:z≠TI/\z≠TO/\z≠i1/\z≠i2/\TI≠TO/\TI≠i1/\TI≠i2/\TO≠i1/\TO≠i2/\i1≠i2):
  Turn P w K (.Tuple elts kt tp) (Itz K b1 b2 a b) [z,TI,TO,i1,i2] z (λi h=>IsZip h z TI TO .none/\IsPair h TI (.ref i1) (.ref i2)/\(∃u v,IsPair h TO u v)/\eR b1 h i1 a i/\eR b2 h i2 b i) where
 mem:=by simp
 obj:=λi h⟨hz,yI,⟨u,v,zX⟩,h1,h2⟩c hc=>by
  have d_:c=z\/c=TI\/c=TO\/c=i1\/c=i2:=by simpa using hc
  rcases d_ with rfl|rfl|rfl|rfl|rfl
  .exact⟨_,hz,λv q=>by have q':Data.fields _=Data.cell v:=q;cases q'⟩
  .exact⟨_,yI,λv q=>by have q':Data.seq _ _=Data.cell v:=q;cases q'⟩
  .exact⟨_,zX,λv q=>by have q':Data.seq _ _=Data.cell v:=q;cases q'⟩
  .obtain⟨o,n,vs,e,_,d⟩:=h1.there;exact⟨o,e,λv q=>by rw[d]at q;cases q⟩
  .obtain⟨o,n,vs,e,_,d⟩:=h2.there;exact⟨o,e,λv q=>by rw[d]at q;cases q⟩
 keep:=λi h h'⟨hz,yI,⟨u,v,zX⟩,h1,h2⟩k=>⟨k z (by simp) _ hz,k TI (by simp) _ yI,⟨u,v,k TO (by simp) _ zX⟩,h1.keep λo e=>k i1 (by simp) o e,h2.keep λo e=>k i2 (by simp) o e⟩
 item:=by
  intro X hP hw hK hc i ae s σ H E I hf st hg;subst hP hw hK;obtain⟨hz,yI,⟨u,v,zX⟩,h1,h2⟩:=st;obtain⟨xs,ys,x,y,sx,sy,ex,ey⟩:=hg;obtain⟨aN,rv,p,_⟩:=I.Rv sx;obtain⟨e!,Rw,p2,_⟩:=I.Rv sy;obtain⟨ux,eux,rx⟩:=rv.get ex;obtain⟨uy,euy,ry⟩:=Rw.get ey;obtain⟨n1,n2,n3,n4,n5,n6,n7,n8,n9,n10⟩:=ne;have fz:=hf z (by simp);have iI:∀{b:Bool}{l:_l}{zs:List V},B1 b X.K H l zs->∀c∈[z,TI,TO,i1,i2],l≠c:=λ{b l zs}hs c d_=>I.Nk hs (hf c d_);have D:ZipApart z TI TO i1 i2 a b:=⟨n1.symm,n2.symm,n3.symm,n4.symm,n5,n6,n7,n8,n9,n10,iI sx z (by simp),iI sx TO (by simp),iI sx i1 (by simp),iI sx i2 (by simp),iI sy z (by simp),iI sy TO (by simp),iI sy i1 (by simp),iI sy i2 (by simp)⟩
  refine E4 (b1:=b1) (b2:=b2) D hz yI zX h1 h2 p p2 (x:=ux) (y:=uy) (by simpa using eux) (by simpa using euy) λh' a1 a2 a3 a4 a5 a6=>⟨_,rfl,?_⟩
  have hT:H s.heap.objs.size=none:=I.dg.fresh (Vv _);have Ta:∀c∈[z,TO,i1,i2],H c=none:=λc d_=>(hf c (by simp at d_⊢;rcases d_ with q|q|q|q<;>simp[q])).1;have kp:∀c o,c ∉ [z,TO,i1,i2]->s.heap.get? c=some o->h'.get? c=some o:=λc o d_ e=>a6 c o (λq=>d_ (by simp[q])) (λq=>d_ (by simp[q])) (λq=>d_ (by simp[q])) (λq=>d_ (by simp[q])) e;have Aa:∀c o,H c=some o->c ∉ [z,TO,i1,i2]:=λc o e d_=>by rw[Ta c d_]at e;cases e
  have dg:kH X.prog X.w (upd H s.heap.objs.size (.tup [x,y])) h':=λc o e=>by
   by_cases Tb:c=s.heap.objs.size
   .subst Tb;rw[b_]at e;cases e;exact⟨by show 2<=sizeLine;decide,[ux,uy],.cons rx (.cons ry .nil),_,a5,rfl,_,rfl⟩
   .rw[aW Tb]at e;refine(I.dg c o e).tK (λd v hd q=>kp d v ?_ q) (λd q=>by rw[aW (bj q hT)];exact q) λd zs q=>by rw[aW (bj q hT)];exact q
    rcases hd with q'|q'
    .rw[q'];exact Aa c o e
    .exact Aa d _ q'
  have un:Un (jP X.stack) [z,TO,i1,i2] H (upd H s.heap.objs.size (.tup [x,y])) s.heap h':=
   ⟨λc o e n _ d_=>kp c o d_ e,λc o e n _ d_=>⟨o.slots,kp c o d_ e⟩,λc o e n d_=>by rw[aW (V! (VJ e))];exact n,λc o e d_=>⟨o,kp c o d_ e⟩,
    λc zs e=>by rw[aW (bj e hT)];exact e,λc o u e=>by rw[aW (bj e hT)];exact e,λc ps e=>⟨#[],by rw[aW (bj e hT),e];simp⟩⟩
  have I1:a9 X ae σ (upd H s.heap.objs.size (.tup [x,y])) {s with heap:=h'}:=I.Dg rfl un dg I.bare λc d_=>by obtain⟨f0,f1,f2,f3,f4,f5⟩:=hf c (by simp at d_⊢;rcases d_ with q|q|q|q<;>simp[q]);exact⟨f3,f1,f4,f5⟩
  have fpT:∀c∈[z,TI,TO,i1,i2],c≠s.heap.objs.size:=λc d_ q=>by
   have sR:c<s.heap.objs.size:=by
    have O?:c=z\/c=TI\/c=TO\/c=i1\/c=i2:=by simpa using d_
    rcases O? with r|r|r|r|r
    .rw[r];exact VJ hz
    .rw[r];exact VJ yI
    .rw[r];exact VJ zX
    .obtain⟨o,_,_,e,_⟩:=h1.there;rw[r];exact VJ e
    .obtain⟨o,_,_,e,_⟩:=h2.there;rw[r];exact VJ e
   exact absurd sR (by rw[q];exact Wm _)
  have Tc:∀c∈[z,TI,TO,i1,i2],(upd H s.heap.objs.size (.tup [x,y])) c=none:=λc d_=>by rw[aW (fpT c d_)];exact(hf c d_).1
  refine wpAny_letOwnedTupleGo_zip a1 λLf aaN sb=>?_;obtain⟨f0,f1,f2,f3,f4,f5⟩:=fz;have I2:a9 X ae σ (upd H s.heap.objs.size (.tup [x,y])) {s with heap:=Lf}:=I1.turned (s:={s with heap:=h'}) (t':=s.toks) (it:=z) (λc o d_ e=>(sb.2 c d_).trans e) (Tc z (by simp)) f1 f3 f4 f5;refine⟨.ref s.heap.objs.size,_,I2,rfl,⟨_,x,y,rfl,hT,rfl,λzs hs=>by rw[I.Dw hs sx];exact ex,λzs hs=>by rw[I.Dw hs sy];exact ey⟩,⟨aaN,?_,⟨_,_,sb.extBut _ _ n2.symm a2⟩,a3.keep λo e=>sb.extBut _ o n3.symm e,a4.keep λo e=>sb.extBut _ o n4.symm e⟩,Tc⟩;exact sb.extBut _ _ n1.symm (a6 _ _ n1.symm n5 n6 n7 yI)
 done:=by
  intro X hP hw hK hc i ae s σ H E I hf st hg;subst hP hw hK;obtain⟨hz,yI,⟨u,v,zX⟩,h1,h2⟩:=st;obtain⟨xs,ys,sx,sy,hl⟩:=hg;obtain⟨aN,rv,p,_⟩:=I.Rv sx;obtain⟨e!,Rw,p2,_⟩:=I.Rv sy;have l1:=rv.length;have l2:=Rw.length;obtain⟨n1,n2,n3,n4,n5,n6,n7,n8,n9,n10⟩:=ne;have iI:∀{b:Bool}{l:_l}{zs:List V},B1 b X.K H l zs->∀c∈[z,TI,TO,i1,i2],l≠c:=λ{b l zs}hs c d_=>I.Nk hs (hf c d_);have D:ZipApart z TI TO i1 i2 a b:=⟨n1.symm,n2.symm,n3.symm,n4.symm,n5,n6,n7,n8,n9,n10,iI sx z (by simp),iI sx TO (by simp),iI sx i1 (by simp),iI sx i2 (by simp),iI sy z (by simp),iI sy TO (by simp),iI sy i1 (by simp),iI sy i2 (by simp)⟩
  refine Hi (b1:=b1) (b2:=b2) (I.ok.hd hc) D hz yI zX h1 h2 p p2 (by rcases hl with q|q;exact .inl (by simp;lia);exact .inr (by simp;lia)) λh' a6=>⟨rfl,?_⟩
  have Ta:∀c∈[z,TO,i1,i2],H c=none:=λc d_=>(hf c (by simp at d_⊢;rcases d_ with q|q|q|q<;>simp[q])).1;have kp:∀c o,c ∉ [z,TO,i1,i2]->s.heap.get? c=some o->h'.get? c=some o:=λc o d_ e=>a6 c o (λq=>d_ (by simp[q])) (λq=>d_ (by simp[q])) (λq=>d_ (by simp[q])) (λq=>d_ (by simp[q])) e;have Aa:∀c o,H c=some o->c ∉ [z,TO,i1,i2]:=λc o e d_=>by rw[Ta c d_]at e;cases e
  have dg:kH X.prog X.w H h':=λc o e=>by
   refine(I.dg c o e).tK (λd v hd q=>kp d v ?_ q) (λd q=>q) λd zs q=>q;rcases hd with q'|q'
   .rw[q'];exact Aa c o e
   .exact Aa d _ q'
  have un:Un (jP X.stack) [z,TO,i1,i2] H H s.heap h':=
   ⟨λc o e n _ d_=>kp c o d_ e,λc o e n _ d_=>⟨o.slots,kp c o d_ e⟩,λc o e n d_=>n,λc o e d_=>⟨o,kp c o d_ e⟩,λc zs e=>e,λc o u e=>e,λc ps e=>⟨#[],by rw[e];simp⟩⟩
  exact I.Dg rfl un dg I.bare λc d_=>by obtain⟨f0,f1,f2,f3,f4,f5⟩:=hf c (by simp at d_⊢;rcases d_ with q|q|q|q<;>simp[q]);exact⟨f3,f1,f4,f5⟩
 self:=λ_ _ _ _ _ st h=>wpAny_pyIter_zip st.1 h
section
variable{p pos:Pos}
def aaO(K:_c)(b1 b2:Bool)(ta:TA):TI:=λσ H R=>ta σ H λvs H1=>∃a b,vs=[.ref a,.ref b]/\(∃xs,B1 b1 K H1 a xs)/\(∃ys,B1 b2 K H1 b ys)/\R (Itz K b1 b2 a b) H1
theorem O'(b1 b2:Bool){ea eb:Expr}{ta:TA}(hg:Gl X "zip")(hm:X.mg "zip" = none)(ha:PA X [ea,eb] ta)(hs:starEach [ea,eb] X.env=[(false,eval ea X.env),(false,eval eb X.env)]:=by rfl)(q9:starEach [eb] X.env=[(false,eval eb X.env)]:=by rfl):
  PI X (.Tuple elts kt tp) (.Call (.Name "zip" p) [ea,eb] [] pos) (aaO X.K b1 b2 ta):=by
 intro ae s σ H R I h;refine Call_ (kI I hg hm boot_zip (WG (eJ (ha pos ae s σ H _ I h) λus s1⟨vs,H1,I1,r1,q1⟩=>?_) (by rw[hs,q9]) (by rw[q9];rfl)));obtain⟨a,b,e,⟨xs,sx⟩,⟨ys,sy⟩,q⟩:=q1;subst e;obtain⟨u,u2,rfl,ru,ru2⟩:=vals2 r1;cases ru;cases ru2;obtain⟨aN,rv,p1,_⟩:=I1.Rv sx;obtain⟨e!,Rw,p2,_⟩:=I1.Rv sy;refine Hk (b1:=b1) (b2:=b2) p1 p2 λh' hz yI zX g1 g2 kp=>wpAny_pyIter_zip hz ?_;have I2:a9 X ae σ H1 {s1 with heap:=h'}:=I1.kept (t':=s1.toks) kp;refine⟨_,[s1.heap.objs.size+4,s1.heap.objs.size+2,s1.heap.objs.size+3,s1.heap.objs.size,s1.heap.objs.size+1],_,_,H1,rfl,I2,Hl (b1:=b1) (b2:=b2) a b ?_,⟨hz,yI,⟨_,_,zX⟩,g1,g2⟩,λc hc=>?_,q⟩
 .refine⟨?_,?_,?_,?_,?_,?_,?_,?_,?_,?_⟩<;>(intro z;have z':(_:Nat)=_:=z;lia)
 .have hle:s1.heap.objs.size<=c:=by
   have d_:c=s1.heap.objs.size+4\/c=s1.heap.objs.size+2\/c=s1.heap.objs.size+3\/c=s1.heap.objs.size\/c=s1.heap.objs.size+1:=by simpa using hc
   rcases d_ with r|r|r|r|r<;>(rw[r];first|exact Vv _|exact YR _ _)
  exact I1.Ad hle (I1.dg.fresh hle)
end
theorem dA.there{w:World}{a:_l}{o:HO}(x:dA P w H h a o):∃ob,h.get? a=some ob:=by
 cases o with
 |lst xs=>obtain⟨_,_,_,_,e⟩:=x;exact⟨_,e⟩
 |tup xs=>obtain⟨_,_,_,ob,e,_⟩:=x;exact⟨_,e⟩
 |dK aY=>obtain⟨_,_,_,_,o,_,_,e,_⟩:=x;exact⟨_,e⟩
 |dT aY=>obtain⟨_,_,_,_,o,_,_,e,_⟩:=x;exact⟨_,e⟩
 |set S n=>obtain⟨o,_,_,_,e,_⟩:=x;exact⟨_,e⟩
 |ins C dx fs=>obtain⟨_,_,_,e,_⟩:=x;exact⟨_,e⟩
 |own y=>obtain⟨_,e⟩:=x;exact⟨_,e⟩
 |xd fs=>obtain⟨_,⟨_,_,_,e,_⟩,_⟩:=x;exact⟨_,e⟩
 |ED lo hi=>obtain⟨_,_,_,e⟩:=x;exact⟨_,e⟩
 |kh ob u=>obtain⟨e,_⟩:=x;exact⟨_,e⟩
 |wX ps=>exact⟨_,(show h.get? a=some _ from x)⟩
 |met f y=>exact⟨_,(show h.get? a=some _ from x)⟩
 |ext φ=>obtain⟨_,e,_⟩:=x;exact e
structure Fly(P:_n)(w:World)(l:List Env)(H H':Hp)(s s':_k)(ea:_l)(cls:_j):Prop where
 os:s'.os=s.os
 bare:AllBare s'.gens
 un:Un (jP l) [] H H' s.heap s'.heap
 dg:kH P w H' s'.heap
 fl:∃(B:Heap)(t:_l),Heap.FlyingW B l ea cls (.ref t) s'.heap/\(∀b,H' b≠none->∃o,B.get? b=some o)/\(∀b o,s.heap.get? b=some o->b ∉ jP l->∃o',B.get? b=some o')
 tr:Dn s'.heap ea
def p9(P:_n)(w:World):GU:=λouter H s E e s'=>∃ea cls H',e=.ref ea/\Fly P w outer H H' s s' ea cls/\E cls none H'
section
variable{w:World}{K:_c}{mg:_a}{qual:Str}{scope:Scope}{f:_l}{cd:_j}{outer:List Env}
theorem As{env:Env}{L:_l}(hf:env.frame=some L)(l:List Env):jP (env::l)=L::jP l:=by unfold jP;rw[Yl,hf]
theorem E5{e:_l}(I:a9 (jk (p9 P w) P w K mg base N qual scope f cd A outer s₀ H₀ E) ae σ H s)(hx:Heap.MadeExcOf s.heap h' e cls vs)(hE:E cls none H):(jk (p9 P w) P w K mg base N qual scope f cd A outer s₀ H₀ E).xe (.ref e) {s with heap:=h'}:=by
 have yt:=I.stack;have Df:=I.yq;have EW:(A.deeper (envOfC qual scope s₀.heap.objs.size f cd)).frames=some (envOfC qual scope s₀.heap.objs.size f cd::outer):=I.ok.frames;have E6:jP (envOfC qual scope s₀.heap.objs.size f cd::outer)=s₀.heap.objs.size::jP outer:=As rfl outer;have GA:∀env∈(envOfC qual scope s₀.heap.objs.size f cd::outer),∀b,env.frame=some b->b∈jP (envOfC qual scope s₀.heap.objs.size f cd::outer):=λenv he b hb=>Zu.mpr ⟨env,he,hb⟩;have Pa:∀b o,s₀.heap.get? b=some o->b ∉ jP outer->b ∉ jP (envOfC qual scope s₀.heap.objs.size f cd::outer):=λb o q hb hm=>by
  rw[E6]at hm;rcases V_.mp hm with z|z
  .exact absurd (VJ q) (by rw[z];exact Wm _)
  .exact hb z
 refine yF (base:=W.hideAll s.heap (jP (envOfC qual scope s₀.heap.objs.size f cd::outer))) (h:=s.heap) EW rfl (λb o q=>ZO _ q) (W.funFrames_hide yt GA) hx λLf t fl up tr=>?_;have stays:∀b o,s.heap.get? b=some o->b ∉ jP (envOfC qual scope s₀.heap.objs.size f cd::outer)->Lf.get? b=some o:=λb o q hb=>fl.1 b o (X9 _ q hb);have Aa:∀b u,H b=some u->b ∉ jP (envOfC qual scope s₀.heap.objs.size f cd::outer):=λb u q hb=>by rw[Df b hb]at q;cases q
 have slot:∀b o,s₀.heap.get? b=some o->H₀ b=none->b∈jP outer->∃sl,Lf.get? b=some {o with slots:=sl}:=λb o q n hb=>by obtain⟨sl,e1⟩:=I.base.slot b o q n hb (by intro z;cases z);obtain⟨_,o',wZ,O2⟩:=yt.mem (show b∈jP (envOfC qual scope s₀.heap.objs.size f cd::outer) by rw[E6];exact VH _ hb);rw[e1]at wZ;cases wZ;obtain⟨R5,e2⟩:=up b _ (hx.keeps _ _ e1) O2;exact⟨R5,e2⟩
 have nil:∀b:_l,b ∉ (jk (p9 P w) P w K mg base N qual scope f cd A outer s₀ H₀ E).ex:=λb z=>by cases z
 refine⟨e,cls,H,rfl,⟨I.os,I.bare,⟨λb o q n hb _=>stays b o (I.base.keep b o q n hb (nil b)) (Pa b o q hb),λb o q n hb _=>slot b o q n hb,λb o q n _=>I.base.free b o q n (nil b),λb o q _=>?_,I.base.pz,I.base.oM,I.base.pX⟩,λb u q=>?_,⟨W.hideAll s.heap (jP (envOfC qual scope s₀.heap.objs.size f cd::outer)),⟨t,fl,λb hb=>?_,λb o q hb=>?_⟩⟩,tr⟩,hE⟩
 .by_cases hb:b∈jP outer
  .obtain⟨sl,e1⟩:=slot b o q (I.ok.M_ b hb) hb;exact⟨_,e1⟩
  .obtain⟨o',e1⟩:=I.base.there b o q (nil b);exact⟨o',stays b o' e1 (Pa b o q hb)⟩
 .refine(I.dg b u q).tK (λc v hc z=>stays c v z ?_) (λ_ z=>z) λ_ _ z=>z;rcases hc with z'|z'
  .rw[z'];exact Aa b u q
  .exact Aa c _ z'
 .cases q:H b with
  |none=>exact absurd q hb
  |some u=>
   obtain⟨o,e1⟩:=(I.dg b u q).there;exact⟨o,X9 _ e1 (Aa b u q)⟩
 .obtain⟨o',e1⟩:=I.base.there b o q (nil b);exact⟨o',X9 _ e1 (Pa b o q hb)⟩
theorem Hm:Passes (p9 P w) (jk (p9 P w) P w K mg base N qual scope f cd A outer s₀ H₀ E) E:=by
 rintro ae σ H s e s' I ⟨ea,cls,H',rfl,Z,hE⟩;obtain⟨B,t,fl,ct,cs⟩:=Z.fl;have EW:(A.deeper (envOfC qual scope s₀.heap.objs.size f cd)).frames=some (envOfC qual scope s₀.heap.objs.size f cd::outer):=I.ok.frames;have E6:jP (envOfC qual scope s₀.heap.objs.size f cd::outer)=s₀.heap.objs.size::jP outer:=As rfl outer;have Pa:∀b o,s₀.heap.get? b=some o->b ∉ jP outer->b ∉ jP (envOfC qual scope s₀.heap.objs.size f cd::outer):=λb o q hb hm=>by
  rw[E6]at hm;rcases V_.mp hm with z|z
  .exact absurd (VJ q) (by rw[z];exact Wm _)
  .exact hb z
 have sub:∀b,b∈jP outer->b∈jP (envOfC qual scope s₀.heap.objs.size f cd::outer):=λb hb=>by rw[E6];exact VH _ hb
 have nil:∀b:_l,b ∉ (jk (p9 P w) P w K mg base N qual scope f cd A outer s₀ H₀ E).ex:=λb z=>by cases z
 refine BV EW rfl fl Z.tr λLf fl2 up tr=>?_;have Rx:∀b o,s'.heap.get? b=some o->(∃o',B.get? b=some o')->Lf.get? b=some o:=λb o q⟨o',z⟩=>by have q':=fl.1 b o' z;rw[q]at q';cases q';exact fl2.1 b o z
 have slot:∀b o,s₀.heap.get? b=some o->H₀ b=none->b∈jP outer->∃sl,Lf.get? b=some {o with slots:=sl}:=λb o q n hb=>by obtain⟨sl,e1⟩:=I.base.slot b o q n hb (nil b);obtain⟨SG,e2⟩:=Z.un.slot b _ e1 (I.base.free b o q n (nil b)) (sub b hb) (by intro z;cases z);obtain⟨_,o',wZ,O2⟩:=fl.2.2.1.mem (sub b hb);rw[e2]at wZ;cases wZ;obtain⟨R5,e3⟩:=up b _ e2 O2;exact⟨R5,e3⟩
 refine⟨ea,cls,H',rfl,⟨Z.os.trans I.os,Z.bare,⟨λb o q n hb _=>?_,λb o q n hb _=>slot b o q n hb,λb o q n _=>?_,λb o q _=>?_,λb xs q=>Z.un.pz b xs (I.base.pz b xs q),λb o u q=>Z.un.oM b o u (I.base.oM b o u q),λb ps q=>?_⟩,λb u q=>?_,⟨B,t,fl2,ct,λb o q hb=>?_⟩,tr⟩,hE⟩
 .have e1:=I.base.keep b o q n hb (nil b);have n1:=I.base.free b o q n (nil b);have nf:=Pa b o q hb;exact Rx b o (Z.un.keep b o e1 n1 nf (by intro z;cases z)) (cs b o e1 nf)
 .obtain⟨o',e1⟩:=I.base.there b o q (nil b);exact Z.un.free b o' e1 (I.base.free b o q n (nil b)) (by intro z;cases z)
 .by_cases hb:b∈jP outer
  .obtain⟨sl,e1⟩:=slot b o q (I.ok.M_ b hb) hb;exact⟨_,e1⟩
  .obtain⟨o',e1⟩:=I.base.there b o q (nil b);obtain⟨o2,e2⟩:=cs b o' e1 (Pa b o q hb);exact⟨o2,fl2.1 b o2 e2⟩
 .obtain⟨m1,e1⟩:=I.base.pX b ps q;obtain⟨m2,e2⟩:=Z.un.pX b _ e1;exact⟨m1++m2,by rw[e2,Array.append_assoc]⟩
 .refine(Z.dg b u q).tK (λc v hc z=>Rx c v z (ct c ?_)) (λ_ z=>z) λ_ _ z=>z;rcases hc with z'|z'
  .rw[z',q];simp
  .rw[z'];simp
 .obtain⟨o',e1⟩:=I.base.there b o q (nil b);exact cs b o' e1 (Pa b o q hb)
theorem G7.okX{x:Str}{st:Stmt}{fd:FuncData}{ps:_i}{k:Nat}(F:G7 K x qual st f fd)(S:iz N ps (bb st))(len:∀vs H Q E,sp vs H Q E->vs.length=ps.length)
  (GX:∀ (h_:_j) (A:_m) (outer:List Env) (s:_k) (H:Hp) (vs:List V) (Q:VK) (E:XK),gk k (A.deeper (envOfC qual (bb st) s.heap.objs.size f h_))->sp vs H Q E ->
   ∃t,oV (jk (p9 P w) P w K mg base N qual (bb st) f h_ A outer s H E) (dZ st) t/\t {nx:=λ_ H'=>Q .dD H',rt:=Q} (start N vs) H):uY P w K mg base (p9 P w) (k+1) f fd ps sp:=by
 obtain⟨oc,od,kV,doc,pm,an,h_,ct,GW,rfl,lk,BD⟩:=F.ex;exact Na lk BD S len λA outer s H vs Q E hr Rp=>GX h_ A outer s H vs Q E hr Rp
end
theorem E7{K:_c}{mg:_a}{x:Str}{bmB:_e}(X:K.In h)(hb:mg x=some (.ref C))(q:W.excIn K C bmB newId=true):OwnCls x C bmB newId mg h:=by
 refine⟨hb,?_⟩;unfold W.excIn at q;split at q
 .rename_i dd cd sl ho;split at q
  .rename_i C' bm k0 k1 k2 k3 n k5 hm hs;simp only[Xe,Yg,YO]at q;obtain⟨⟨⟨⟨⟨rfl,rfl⟩,Td⟩,ht⟩,dg⟩,hni⟩:=q;obtain⟨nm,bs,mro,ns,qn,hd,sn,sub,ab,col,del⟩:=cd;dsimp only at hm Td dg hni;subst hm Td;have Pb:sl = #[k0,k1,k2,k3,some (.builtin n),k5]:=by obtain⟨l⟩:=sl;simp only at hs;rw[hs]
   subst Pb;exact⟨bm,ns,nm,qn,bs,hd,sn,sub,ab,col,dd,k0,k1,k2,k3,k5,_,X _ _ ho,.of_isNs (W.isNs_of_in X dg),W.nsMap_none_of_in X dg hni,W.tail_of_in X ht⟩
  .cases q
 .cases q
def Pc(E:XK)(C:_l)(t:TA):TS:=λ_ σ H=>t σ H λvs H1=>vs.length<=sizeLine/\E (.ref C) none H1
def Raises(X:Cx)(E:XK):Prop:=∀(ae:_b)(σ:St)(H:Hp)(s:_k)(h':Heap)(e:_l)(cls:_j)(vs:_e),a9 X ae σ H s->Heap.MadeExcOf s.heap h' e cls vs->E cls none H->X.xe (.ref e) {s with heap:=h'}
theorem Hn{x:Str}{B B2:String}{bm:_e}{np pos:Pos}{t:TA}(hX:Raises X E)(hc:X.calm=true)(hm:X.mg x=some (.ref C))(hq:W.excIn X.K C bm newId=true)(FB:ExcBaseFacts B newId B2 bm)(hg:Gl X x)(ha:PA X (e₀::rest) t)(he:starEach (e₀::rest) X.env=(false,eval e₀ X.env)::starEach rest X.env:=by rfl)(sM:(backTo dN (starEach rest X.env)).any (·.1)=false:=by rfl)(hd:(x==("__debug__":Str))=false:=by decide):
  PS X (.Raise (some (.Call (.Name x np) (e₀::rest) [] dN)) none pos) (Pc E C t):=by
 intro ae s σ H D I h;obtain⟨tl,NS,nm,q,bs,hdct,sn,sub,ab,col,dd,k0,k1,k2,k3,k5,mN,hC,hN,hni,T⟩:=(E7 I.mod.RW hm hq).obj;refine wpAny_Raise_call_subT (C:=C) (nm:=nm) (q:=q) (N:=NS) (bs:=bs) (bm:=tl) (hdct:=hdct) (sn:=sn) (sub:=sub) (ab:=ab) (col:=col) (dd:=dd) (k0:=k0) (k1:=k1) (k2:=k2) (k3:=k3) (k5:=k5)
  FB (mN:=mN) (T.hasType FB.hasBase) (I.ok.hd hc) (by rw[he];show(false || (backTo dN (starEach rest X.env)).any (·.1))=false;rw[sM];rfl) hni (yr I hg hm ⟨rfl,?_⟩ hd)
 have hA:=ha dN ae s σ H _ I h;rw[he]at hA⊢;exact Calls.evalArgs_plain (eJ hA λus s2⟨vs,H2,I2,r2,z,q2⟩=>⟨rfl,by rw[<-r2.length];exact z,I2.bk _ _ hC,hN.keeps I2.bk,T.keeps I2.bk,λh' e hm2=>hX ae σ H2 s2 h' e _ _ I2 hm2 q2⟩)
structure aaP(X:Cx)(ae:_b)(σ:St)(H:Hp)(s:_k)(ea:_l)(cls:_j):Prop where
 inv:a9 X ae σ H s
 fl:∃(B:Heap)(t:_l),Heap.FlyingW B X.stack ea cls (.ref t) s.heap/\(∀b,H b≠none->∃o,B.get? b=some o)/\(∀b o,X.s₀.heap.get? b=some o->b ∉ jP X.stack->b ∉ X.ex->∃o',B.get? b=some o')/\(∀p∈X.pn++ae,∃o',B.get? p.1=some o')/\(∀x c,X.env.cells.lookup x=some c->∃o,B.get? c=some o)
 tr:Dn s.heap ea
abbrev EK:=_j->_l->St->Hp->Prop
abbrev EH:=_j->_l->Hp->Prop
abbrev TEE:=St->Hp->VK->EH->Prop
abbrev TSE:=Ends->EK->St->Hp->Prop
def XP(X:Cx)(ae:_b)(EX:EK)(e:_j)(s':_k):Prop:=∃ea cls σ' H',e=.ref ea/\aaP X ae σ' H' s' ea cls/\EX cls ea σ' H'
abbrev atS(σ:St)(EX:EH):EK:=λcls ea σ' H'=>σ'=σ/\EX cls ea H'
def PEE(X:Cx)(e:Expr)(t:TEE):Prop:=
 ∀(ae:_b)(s:_k)(σ:St)(H:Hp)(Q:VK)(EX:EH),a9 X ae σ H s->t σ H Q EX->wpAny (model X.prog X.w) X.A (eval e X.env) (EP X ae σ Q) (XP X ae (atS σ EX)) s
def aaQ(X:Cx)(st:List Stmt)(t:TSE):Prop:=
 ∀(ae:_b)(s:_k)(σ:St)(H:Hp)(D:Ends)(EX:EK),a9 X ae σ H s->t D EX σ H->wpAny (model X.prog X.w) X.A (execs st X.env) (SP X ae D) (XP X ae EX) s
def Itd(lo:Int)(n:Nat):It:=⟨λi _=>i<n,λi H x H'=>H'=H/\x=.int (lo-i),λi _=>n<=i⟩
theorem E8{w:World}{K:_c}(it:_l)(lo:Int)(n:Nat):Turn P w K tg (Itd lo n) [it] it (λi h=>IsRangeIter h it (lo+(i:Nat)*(-1)) ((n:Int)-(i:Nat)) (-1)) where
 mem:=by simp
 obj:=λi h st b hb=>by
  have e:b=it:=by simpa using hb
  subst e;exact⟨_,st,λv z=>by
   have z':Data.fields _=Data.cell v:=z;cases z'⟩
 keep:=λi h h' st k=>k it (by simp) _ st
 item:=by intro X hP hw hK hc i ae s σ H E I hf st hg;subst hP hw hK;obtain⟨f0,f1,f2,f3,f4,f5⟩:=hf it (by simp);have W:=Walks.range (prog:=X.prog) (w:=X.w) (I.ok.hd hc) it lo (-1) n;refine W.item i s _ _ hg st λv h' tk hv aH kk=>?_;obtain⟨t,rfl⟩:=hv;have I1:a9 X ae σ H {s with heap:=h',toks:=tk}:=I.turned (λb o hb e=>kk b o (by simpa using hb) e) f0 f1 f3 f4 f5;refine⟨_,rfl,Di (s:={s with heap:=h',toks:=tk}) (n:="range_iterator") aH rfl rfl (by decide) ⟨.int (lo-i),H,I1,⟨t,?_⟩,⟨rfl,rfl⟩,aH,λb hb=>(hf b hb).1⟩⟩;rw[show lo+(i:Int)*(-1)=lo-(i:Int) by lia]
 done:=by intro X hP hw hK hc i ae s σ H E I hf st hg;subst hP hw hK;obtain⟨f0,f1,f2,f3,f4,f5⟩:=hf it (by simp);exact ZY (I.ok.hd hc) st (by have:n<=i:=hg;lia) λh' eb=>⟨rfl,I.turned (t':=s.toks) (λb o hb e=>eb b o hb e) f0 f1 f3 f4 f5⟩
 self:=λ_ _ _ _ _ st h=>ZZ st h
theorem Lg{R:It->Hp->Prop}{E:Z'}{t u v:Tok}{tk:Nat}(I:a9 X ae σ H s)(h1:-(2 ^ 62)<=lo)(h2:lo<2 ^ 62)(h3:-(2 ^ 62)<=hi)(h4:hi<2 ^ 62)(q:R (Itd lo (lo-hi).toNat) H):wpAny (model X.prog X.w) X.A (pyIter (.ref s.heap.objs.size)) (PIE X ae σ tg R) E {s with heap:=s.heap.push {cls:=.type "range",data:=.fields #[.int lo t,.int hi u,.int (-1) v]},toks:=tk}:=by
 refine wpAny_pyIter_range (IsRange.new ..) (W.small_down h1 h2 h3 h4) ?_;have I1:a9 X ae σ H {s with heap:=s.heap.push {cls:=.type "range",data:=.fields #[.int lo t,.int hi u,.int (-1) v]},toks:=tk}:=I.kept λb o e=>Vn _ e;refine⟨(s.heap.push {cls:=.type "range",data:=.fields #[.int lo t,.int hi u,.int (-1) v]}).objs.size,[(s.heap.push {cls:=.type "range",data:=.fields #[.int lo t,.int hi u,.int (-1) v]}).objs.size],_,_,H,rfl,
  I1.kept (t':=tk) λb o e=>Vn _ e,E8 _ lo (lo-hi).toNat,?_,λb hb=>?_,q⟩
 .have e1:lo+((0:Nat):Int)*(-1)=lo:=by simp
  have e2:(((lo-hi).toNat:Nat):Int)-((0:Nat):Int)=Builtin.Range.rangeSize lo hi (-1):=by rw[W.rangeSize_downNat];lia
  show IsRangeIter _ _ (lo+((0:Nat):Int)*(-1)) ((((lo-hi).toNat:Nat):Int)-((0:Nat):Int)) (-1);rw[e1,e2];exact VV _ rfl
 .have e:b=(s.heap.push {cls:=.type "range",data:=.fields #[.int lo t,.int hi u,.int (-1) v]}).objs.size:=by simpa using hb
  subst e;exact I1.Ad (Vv _) (I1.dg.fresh (Vv _))
def Te(ta:TA):TI:=λσ H R=>ta σ H λvs H1=>∃i j:Int,vs=[.int i,.int j,.int (-1)]/\(-(2 ^ 62)<=i/\i<2 ^ 62/\-(2 ^ 62)<=j/\j<2 ^ 62)/\R (Itd i (i-j).toNat) H1
theorem Lh{a b c:Expr}{ta:TA}{p pos:Pos}(hg:Gl X "range")(hm:X.mg "range" = none)(ha:PA X [a,b,c] ta)(hs:starEach [a,b,c] X.env=[(false,eval a X.env),(false,eval b X.env),(false,eval c X.env)]:=by rfl)(q9:starEach [b,c] X.env=[(false,eval b X.env),(false,eval c X.env)]:=by rfl):
  PI X tg (.Call (.Name "range" p) [a,b,c] [] pos) (Te ta):=by
 intro ae s σ H R I h;refine Call_ (kI I hg hm boot_range (WG (eJ (ha pos ae s σ H _ I h) λus s1⟨vs,H1,I1,r1,q1⟩=>?_) (by rw[hs,q9]) (by rw[q9];rfl)));obtain⟨i,j,e,⟨q1,q2,q3,q4⟩,q⟩:=q1;subst e;cases r1 with
 |cons r rr=>
  cases rr with
  |cons r' rr=>
   cases rr with
   |cons r'' rr=>
    cases rr;obtain⟨t,rfl⟩:=r;obtain⟨t',rfl⟩:=r';obtain⟨t'',rfl⟩:=r'';refine call_range_3 (by decide) (Lg I1 q1 q2 q3 q4 q) (.inl (Ze (by decide +kernel)))
def Ite(K:_c)(a:_l):It:=
 ⟨λi H=>∃xs x,oy K H a xs/\xs[i]?=some x,
  λi H v H'=>∃p x,v=.ref p/\H p=none/\H'=upd H p (.tup [.int i,x])/\∀xs,oy K H a xs->xs[i]?=some x,
  λi H=>∃xs,oy K H a xs/\xs.length<=i⟩
theorem E9{w:World}{K:_c}{e it:_l}(a:_l)(ne:e≠it):
  Turn P w K (.Tuple elts kt tp) (Ite K a) [e,it] e (λi h=>(∃old,IsEnum h e it (i:Int) old)/\h.IsListIter it a i) where
 mem:=by simp
 obj:=λi h⟨⟨old,he⟩,hi⟩c hc=>by
  have d_:c=e\/c=it:=by simpa using hc
  rcases d_ with rfl|rfl
  .exact⟨_,he,λv q=>by have q':Data.fields _=Data.cell v:=q;cases q'⟩
  .obtain⟨o,e',c,d⟩:=hi;exact⟨o,e',λv z=>by rw[d]at z;cases z⟩
 keep:=λi h h'⟨⟨old,he⟩,hi⟩k=>⟨⟨old,k e (by simp) _ he⟩,hi.at λo e'=>k it (by simp) o e'⟩
 item:=by
  intro X hP hw hK hc i ae s σ H E I hf st hg;subst hP hw hK;obtain⟨⟨old,he⟩,hi⟩:=st;obtain⟨xs,x,sx,ex⟩:=hg;obtain⟨aN,rv,p,_⟩:=I.list sx;obtain⟨ux,eux,rx⟩:=rv.get ex;have fz:=hf e (by simp);refine wpAny_pyNext_enum_item he hi p.isList (x:=ux) (by simpa using eux) ne λh' a1 a2 a3 a4 a5=>⟨_,rfl,?_⟩
  have hT:H s.heap.objs.size=none:=I.dg.fresh (Vv _);have Ta:∀c∈[e,it],H c=none:=λc d_=>(hf c d_).1;have kp:∀c o,c ∉ [e,it]->s.heap.get? c=some o->h'.get? c=some o:=λc o d_ q=>a5 c o (λz=>d_ (by simp[z])) (λz=>d_ (by simp[z])) q;have Aa:∀c o,H c=some o->c ∉ [e,it]:=λc o q d_=>by rw[Ta c d_]at q;cases q
  have dg:kH X.prog X.w (upd H s.heap.objs.size (.tup [.int i,x])) h':=λc o q=>by
   by_cases Tb:c=s.heap.objs.size
   .subst Tb;rw[b_]at q;cases q;exact⟨by show 2<=sizeLine;decide,[.int i s.toks,ux],.cons ⟨_,rfl⟩ (.cons rx .nil),_,a3,rfl,_,rfl⟩
   .rw[aW Tb]at q;refine(I.dg c o q).tK (λd v hd z=>kp d v ?_ z) (λd z=>by rw[aW (bj z hT)];exact z) λd zs z=>by rw[aW (bj z hT)];exact z
    rcases hd with q'|q'
    .rw[q'];exact Aa c o q
    .exact Aa d _ q'
  have un:Un (jP X.stack) [e,it] H (upd H s.heap.objs.size (.tup [.int i,x])) s.heap h':=
   ⟨λc o q n _ d_=>kp c o d_ q,λc o q n _ d_=>⟨o.slots,kp c o d_ q⟩,λc o q n d_=>by rw[aW (V! (VJ q))];exact n,λc o q d_=>⟨o,kp c o d_ q⟩,
    λc zs q=>by rw[aW (bj q hT)];exact q,λc o u q=>by rw[aW (bj q hT)];exact q,λc ps q=>⟨#[],by rw[aW (bj q hT),q];simp⟩⟩
  have I1:a9 X ae σ (upd H s.heap.objs.size (.tup [.int i,x])) {s with heap:=h',toks:=s.toks+1}:=I.Dg rfl un dg I.bare λc d_=>by obtain⟨f0,f1,f2,f3,f4,f5⟩:=hf c d_;exact⟨f3,f1,f4,f5⟩
  have fpT:∀c∈[e,it],c≠s.heap.objs.size:=λc d_ q=>by
   have sR:c<s.heap.objs.size:=by
    have O?:c=e\/c=it:=by simpa using d_
    rcases O? with r|r
    .rw[r];exact VJ he
    .obtain⟨o,e',_⟩:=hi;rw[r];exact VJ e'
   exact absurd sR (by rw[q];exact Wm _)
  have Tc:∀c∈[e,it],(upd H s.heap.objs.size (.tup [.int i,x])) c=none:=λc d_=>by rw[aW (fpT c d_)];exact(hf c d_).1
  refine wpAny_letOwnedTupleGo_enum a1 λLf aaR sb=>?_;obtain⟨f0,f1,f2,f3,f4,f5⟩:=fz;have I2:a9 X ae σ (upd H s.heap.objs.size (.tup [.int i,x])) {s with heap:=Lf,toks:=s.toks+1}:=I1.turned (s:={s with heap:=h',toks:=s.toks+1}) (t':=s.toks+1) (it:=e) (λc o d_ q=>(sb.2 c d_).trans q) (Tc e (by simp)) f1 f3 f4 f5;refine⟨.ref s.heap.objs.size,_,I2,rfl,⟨_,x,rfl,hT,rfl,λzs hs=>by rw[I.p4 hs sx];exact ex⟩,⟨⟨_,aaR⟩,a2.at λo q=>sb.extBut _ o ne.symm q⟩,Tc⟩
 done:=by intro X hP hw hK hc i ae s σ H E I hf st hg;subst hP hw hK;obtain⟨⟨old,he⟩,hi⟩:=st;obtain⟨xs,sx,hl⟩:=hg;obtain⟨aN,rv,p,_⟩:=I.list sx;have l1:=rv.length;obtain⟨f0,f1,f2,f3,f4,f5⟩:=hf it (by simp);exact wpAny_pyNext_enum_end (I.ok.hd hc) he hi p.isList (by simp;lia) λh' eb=>⟨rfl,I.turned (t':=s.toks) (λb o hb q=>eb b o hb q) f0 f1 f3 f4 f5⟩
 self:=λ_ _ _ _ _ st h=>by obtain⟨⟨old,he⟩,hi⟩:=st;exact wpAny_pyIter_enum he h
section
variable{p pos:Pos}
def Tf(K:_c)(ta:TA):TI:=λσ H R=>ta σ H λvs H1=>∃a xs,vs=[.ref a]/\oy K H1 a xs/\R (Ite K a) H1
theorem Li{a:Expr}{ta:TA}(hg:Gl X "enumerate")(hm:X.mg "enumerate" = none)(hv:bootBuiltins "enumerate" = some (.type "enumerate"))(ha:PA X [a] ta)(hs:starEach [a] X.env=[(false,eval a X.env)]:=by rfl):
  PI X (.Tuple elts kt tp) (.Call (.Name "enumerate" p) [a] [] pos) (Tf X.K ta):=by
 intro ae s σ H R I h;refine Call_ (kI I hg hm hv (WG (eJ (ha pos ae s σ H _ I h) λus s1⟨vs,H1,I1,r1,q1⟩=>?_) hs rfl));obtain⟨b,xs,e,hq,q⟩:=q1;subst e;obtain⟨u,rfl,ru⟩:=bt.one r1;cases ru;obtain⟨aN,rv,pl,hz⟩:=I1.list hq;refine call_enumerate_list pl.isList λh' he hi hsz kp=>?_;have I2:a9 X ae σ H1 {s1 with heap:=h'}:=I1.kept (t':=s1.toks) kp;have ne:s1.heap.objs.size+1≠s1.heap.objs.size:=by lia
 have T:=E9 (P:=X.prog) (w:=X.w) (K:=X.K) (elts:=elts) (kt:=kt) (tp:=tp) (e:=s1.heap.objs.size+1) (it:=s1.heap.objs.size) b ne;refine T.self X.A 0 {s1 with heap:=h'} _ _ ⟨⟨_,he⟩,hi⟩ ?_;refine⟨s1.heap.objs.size+1,[s1.heap.objs.size+1,s1.heap.objs.size],_,_,H1,rfl,I2,T,⟨⟨_,he⟩,hi⟩,λc hc=>?_,q⟩;have hle:s1.heap.objs.size<=c:=by
  have d_:c=s1.heap.objs.size+1\/c=s1.heap.objs.size:=by simpa using hc
  rcases d_ with r|r<;>(rw[r];first|exact Vv _|exact YR _ _)
 exact I1.Ad hle (I1.dg.fresh hle)
end
theorem E_(hh:X.A.handled=none):cR X (.builtin "max") (λxs H Q=>∃i j,xs=[.int i,.int j]/\Q (.int (if j>i then j else i)) H):=by
 rintro ae s σ H xs ws Q I r ⟨i,j,rfl,q⟩;obtain⟨u,v,rfl,ru,rv⟩:=bt.two r;obtain⟨t,rfl⟩:=ru;obtain⟨t',rfl⟩:=rv;refine max_two_ints hh λh' tk hk=>?_;refine⟨.int (if j>i then j else i),H,I.kept hk,?_,q⟩;by_cases c:j>i
 .rw[Vs c,Vs c];exact⟨_,rfl⟩
 .rw[VE c,VE c];exact⟨_,rfl⟩
theorem Ho:Sh X (SM X.K):=by
 intro ae s σ H o i ov iv Q I ro ri h;obtain⟨p,xs,k,z,rfl,rfl,hq,he,q⟩:=h;cases ro;obtain⟨t,rfl⟩:=ri;obtain⟨aN,r,pl,hz⟩:=I.list hq;obtain⟨j,h1,h2,h3,h4,h5⟩:=uu he;obtain⟨w,ew,Ak⟩:=r.get h2;have hl:=r.length;have hn:=pA;have fin:EP X ae σ Q w s:=⟨z,H,I,Ak,q⟩
 by_cases h0:0<=k
 .have hj:k.toNat=j:=by rw[Zh h0 h5]at h1;exact VU h1
  exact wpAny_getItem_list pl.isList h0 (by lia) (by rw[hj];simpa using ew) fin
 .have hj:(k+(aN.toArray.size:Int)).toNat=j:=by rw[Y6 (by lia) h4]at h1;rw[VG,<-hl];exact VU h1
  exact Z0 pl.isList (by lia) (by rw[VG]<;>lia) (by lia) (by rw[hj];simpa using ew) fin
structure gA where
 qual:Str
 params:Arguments
 body:Expr
 scope:Scope
 ps:_i
 x:Str
abbrev Fz(H:Hp)(a:_l)(o:Obj):Prop:=H a=some (.kh o (.own 0))
structure Dx(L:gA)(H:Hp)(f c c':_l)(v:V):Prop where
 fn:∃pm Bv,Fz H f (W.kla_obj "<lambda>" L.qual L.params L.body L.scope [(L.x,c)] pm c' Bv)
 cd:∃oc vs t,Fz H c' oc/\oc.data=.fields vs/\vs[1]?=some (.str L.qual t)
 ce:∃oc u,Fz H c oc/\oc.data=.cell (some u)/\bM v u
def back(H H':Hp)(c:_l):Hp:=λb=>if b=c then H b else H' b
theorem Dy:∀{ps:_i}{us:_e}{i:Nat}{y:Str}{u:_j},ps.Nodup->ps[i]?=some y->us[i]?=some u->(ps.zip us).reverse.lookup y=some u
 |[],_,_,_,_,_,h,_=>by cases h
 |_::_,[],_,_,_,_,_,h=>by cases h
 |p::ps,w::us,i,y,u,nd,h1,h2=>by
  have n:=Xx.mp nd;rw[Zs,List.reverse_cons,List.lookup_append];cases i with
  |zero=>
   cases h1;cases h2;have:(ps.zip us).reverse.lookup p=none:=by
    rw[List.lookup_eq_none_iff];intro q hq;have:=(XH (List.mem_reverse.mp hq)).1;have ne:p≠q.1:=by intro z;apply n.1;rw[z];exact this
    first|exact WU.mpr ne|exact WU.mpr (W5 ne)|simpa using ne|simpa using(W5 ne)
   rw[this];simp
  |succ i=>
   rw[Dy n.2 (show ps[i]?=some y from h1) (show us[i]?=some u from h2)];rfl
def Tab(H:Hp)(T:_l)(line col:Nat)(qual:Str):Prop:=H T=some (.wX #[]) \/
 ∃c' oc vs t,H T=some (.wX #[rawInt line,rawInt col,.ref c'])/\Fz H c' oc/\oc.data=.fields vs/\vs[1]?=some (.str qual t)
structure Hq(X:Cx)(L:gA)(pos:Pos)(cd T:_l)(cs:List (Str×_l)):Prop where
 code:X.env.code=.ref cd
 hd:W.CodeHd X.base cd T
 cl:closureFor L.scope X.env=pure cs
 qual:L.qual=X.env.qual ++ "<lambda>"
 dflt:defaultsOf L.params X.env=([],[])
 blt:X.base.BuiltinsAt X.mg T
 gT:mainGlobals≠T
structure DA(L:gA)(H H':Hp)(T:_l)(cs:List (Str×_l))(f c':_l)(pos:Pos):Prop where
 fn:∃pm Bv,Fz H' f (W.kla_obj "<lambda>" L.qual L.params L.body L.scope cs pm c' Bv)
 cd:∃oc vs t,Fz H' c' oc/\oc.data=.fields vs/\vs[1]?=some (.str L.qual t)
 tab:Tab H' T pos.line pos.col L.qual
 old:∀b o,b≠T->H b=some o->H' b=some o
def Tg(L:gA)(T:_l)(cs:List (Str×_l))(pos:Pos):TE:=λ_ H Q=>Tab H T pos.line pos.col L.qual/\∀f c' H',DA L H H' T cs f c' pos->Q (.ref f) H'
theorem E!{pos:Pos}:codeAmong pos (#[]:Array _j).toList=none:=rfl
section
variable{L:gA}{pos:Pos}{cd T c:_l}
theorem Lj{cs:List (Str×_l)}(A:Hq X L pos cd T cs):PE X (.Lambda L.params L.body L.scope pos) (Tg L T cs pos):=by
 intro ae s σ H Q I h;obtain⟨tb,q⟩:=h;have C:W.CodeHd s.heap cd T:=A.hd.keeps I.bk;have G:s.heap.Ns mainGlobals X.mg:=I.ok.mod.glob.keeps I.bk;have B:s.heap.BuiltinsAt X.mg T:=by obtain⟨bm,o,h1,h2,h3,h4,h5,h6⟩:=A.blt;exact⟨bm,o,h1,h2,h3,h4,I.bk _ _ h5,h6⟩
 refine W.kla_eval A.dflt ?_;rw[<-A.qual];rcases tb with tb|⟨c',oc,vs,t,tb,hc,hd,hv⟩
 .have hT:s.heap.get? T=some (W.tabObj #[]):=I.dg T _ tb;refine W.kla_makeFunction (ps:=#[]) A.cl I.ok.glob G A.code C hT trivial E! A.gT B λc' Bv h' tk hx Th sR aaS htb=>?_;obtain⟨c2,oc,vs,t,e2,R7,hd,hv⟩:=aaS;cases e2;obtain⟨ob,eo⟩:∃ob,ob=W.kla_obj "<lambda>" L.qual L.params L.body L.scope cs ((X.mg "__name__").getD .none) c' Bv:=⟨_,rfl⟩
  obtain⟨ps,eps⟩:∃ps:Array _j,ps = #[rawInt pos.line,rawInt pos.col,.ref c']:=⟨_,rfl⟩
  have Ti:h'.get? T=some (W.tabObj ps):=by rw[htb,eps];rfl
  rw[<-eo];have lT:T<s.heap.objs.size:=VJ hT;have nc:H c'=none:=I.dg.fresh Th;have nf:H h'.objs.size=none:=I.dg.fresh (by lia);have tr:∀b x,H b=some x->b<s.heap.objs.size:=λb x q=>by obtain⟨o,e⟩:=(I.dg b x q).there;exact VJ e
  obtain⟨H',eH⟩:∃H',H'=upd (upd (upd H T (.wX ps)) c' (.kh oc (.own 0))) h'.objs.size (.kh ob (.own 0)):=⟨_,rfl⟩
  have hf':H' h'.objs.size=some (.kh ob (.own 0)):=by rw[eH];exact b_
  have d_:H' c'=some (.kh oc (.own 0)):=by rw[eH,aW (V! sR)];exact b_
  have Tj:H' T=some (.wX ps):=by rw[eH,aW (V! (Zr lT (YE Th sR))),aW (V! (VT lT Th))];exact b_
  have wZ:∀b,b≠T->b<s.heap.objs.size->H' b=H b:=λb h1 h2=>by rw[eH,aW (V! (Zr h2 (YE Th sR))),aW (V! (VT h2 Th)),aW h1]
  have nT:∀b x,H b=some x->(∀ps,x≠.wX ps)->b≠T:=λb x q z e=>by rw[e,tb]at q;exact z _ (VU q).symm
  have n0:∀b,H b=none->b≠T:=λb q e=>by rw[e,tb]at q;cases q
  have kp:∀b o,b≠T->s.heap.get? b=some o->(h'.push ob).get? b=some o:=λb o h1 h2=>Vn _ (hx b o h1 h2);have un:Un X.fs [] H H' s.heap (h'.push ob):=by
   refine⟨λb o q n _ _=>kp b o (n0 b n) q,λb o q n _ _=>⟨o.slots,kp b o (n0 b n) q⟩,λb o q n _=>?_,λb o q _=>?_,λb xs q=>?_,λb o u q=>?_,λb Pd q=>?_⟩
   .rw[wZ b (n0 b n) (VJ q)];exact n
   .by_cases e:b=T
    .rw[e];exact⟨_,Vn _ Ti⟩
    .exact⟨o,kp b o e q⟩
   .rw[wZ b (nT b _ q λ_ z=>by cases z) (tr b _ q)];exact q
   .rw[wZ b (nT b _ q λ_ z=>by cases z) (tr b _ q)];exact q
   .by_cases e:b=T
    .rw[e,tb]at q;cases q;exact⟨ps,by rw[e,Tj];simp⟩
    .exact⟨#[],by rw[wZ b e (tr b _ q),q];simp⟩
  have ok:kH X.prog X.w H' (h'.push ob):=λb x q=>by
   by_cases e1:b=h'.objs.size
   .rw[e1,hf']at q;cases q;rw[e1];have g:(h'.push ob).get? h'.objs.size=some ob:=VV _ (by rw[eo];rfl);exact⟨g,ob,g⟩
   .by_cases e2:b=c'
    .rw[e2,d_]at q;cases q;rw[e2];exact⟨Vn _ R7,oc,Vn _ R7⟩
    .by_cases e3:b=T
     .rw[e3,Tj]at q;cases q;rw[e3];exact Vn _ Ti
     .rw[eH,aW e1,aW e2,aW e3]at q;refine(I.dg b x q).tK (λa u ha z=>kp a u ?_ z) (λa z=>?_) λa xs z=>?_
      .rcases ha with rfl|ha
       .exact e3
       .exact nT a _ ha λ_ z=>by cases z
      .rw[wZ a (nT a _ z λ_ z=>by cases z) (tr a _ z)];exact z
      .rw[wZ a (nT a _ z λ_ z=>by cases z) (tr a _ z)];exact z
  refine⟨.ref h'.objs.size,H',I.un (t':=tk) un ok,rfl,q h'.objs.size c' H' ⟨⟨(X.mg "__name__").getD .none,Bv,by show H' _=some _;rw[hf',eo]⟩,⟨oc,vs,t,d_,hd,hv⟩,.inr ⟨c',oc,vs,t,by rw[Tj,eps],d_,hd,hv⟩,λb o h1 h2=>?_⟩⟩;rw[wZ b h1 (tr b _ h2)];exact h2
 .have hT:s.heap.get? T=some (W.tabObj #[rawInt pos.line,rawInt pos.col,.ref c']):=I.dg T _ tb;refine W.kla_makeFunctionHit (cv:=.ref c') A.cl I.ok.glob G A.code C hT trivial ?_ B λBv h' tk hk hsz=>?_
  .show codeAmong pos [rawInt pos.line,rawInt pos.col,.ref c']=_;unfold rawInt codeAmong;rw[Vs (by simp)]
  .obtain⟨ob,eo⟩:∃ob,ob=W.kla_obj "<lambda>" L.qual L.params L.body L.scope cs ((X.mg "__name__").getD .none) c' Bv:=⟨_,rfl⟩
   have g:(h'.push ob).get? h'.objs.size=some ob:=VV _ (by rw[eo];rfl);have nf:H h'.objs.size=none:=I.dg.fresh hsz;have Ai:H c'=some (.kh oc (.own 0)):=hc;have e1:c'≠h'.objs.size:=λz=>by rw[z,nf]at Ai;cases Ai
   have hc3:∀o,upd H h'.objs.size o c'=some (.kh oc (.own 0)):=λo=>by rw[aW e1];exact Ai
   have e2:T≠h'.objs.size:=λz=>by rw[z,nf]at tb;cases tb
   have J:=I.laid (a:=h'.objs.size) (o:=.kh ob (.own 0)) (t':=tk) (h':=h'.push ob) (λb u e=>Vn _ (hk b u e)) hsz ⟨g,ob,g⟩;rw[eo]at J;refine⟨.ref h'.objs.size,_,J,rfl,q _ c' _ ⟨⟨_,Bv,b_⟩,⟨oc,vs,t,hc3 _,hd,hv⟩,.inr ⟨c',oc,vs,t,by rw[aW e2];exact tb,hc3 _,hd,hv⟩,λb o h1 h2=>?_⟩⟩;rw[aW (λz=>by rw[z,nf]at h2;cases h2)];exact h2
end
theorem Dx.mono{L:gA}{f c:_l}{v:V}(C:Dx L H f c c' v)(k:∀b o u,H b=some (.kh o u)->H' b=some (.kh o u)):Dx L H' f c c' v:=by obtain⟨⟨pm,Bv,h1⟩,⟨oc,vs,t,h2,h3⟩,⟨o2,u,h4,h5⟩⟩:=C;exact⟨⟨pm,Bv,k _ _ _ h1⟩,⟨oc,vs,t,k _ _ _ h2,h3⟩,⟨o2,u,k _ _ _ h4,h5⟩⟩
def XF:XK:=λ_ _ _=>False
end L2
variable {x qual:Str}
variable {k:Nat}
variable {ps:List Str}
variable {scope:Scope}
variable {L:L2.gA}
namespace MN
open PySem.Spec L2
open PyProof.Rows hiding St
inductive aj where
 |dD|bl (b:Bool)|int (i:Int)|str (x:Str)|tup (vs:List aj)|loc (n:Nat)|exc (c:Str)|fn (L:gA) (u:aj)|mt (vs:List aj)
inductive a! where
 |lst (vs:List aj)|Pe (vs:List aj)|mod (vs:List aj)|dK (aY:List (fG×aj))|dT (aY:List (List fG×aj))|tab (x:Str) (line col:Nat) (qual:Str)|ins (c:Str) (fs:List (Str×aj))|fd (aY:List (fG×aj))
abbrev af:=List a!
abbrev Env:=List (Option aj)
inductive eZ(α:Type) where
 |ok (a:α) (st:af)|err (c:Str) (st:af)|bad
inductive e? where
 |nx (μ:Env) (st:af)|rt (v:aj) (st:af)|bk (μ:Env) (st:af)|ct (μ:Env) (st:af)|er (c:Str) (μ:Env) (st:af)|bad
@[reducible] def eZ.bind(r:eZ α)(k:α->af->eZ β):eZ β:=match r with
 |.ok a st=>k a st
 |.err c st=>.err c st
 |.bad=>.bad
structure Wo where
 K:_c
 mg:Str->_g
 pn:_b
abbrev wo(X:Cx):Wo:=⟨X.K,X.mg,X.pn⟩
mutual
def Rl(K:_c)(ρ:_h)(H:Hp):aj->V->Prop
 |.dD,v=>v=.dD
 |.bl b,v=>v=.bl b
 |.int i,v=>v=.int i
 |.str x,v=>v=.str x
 |.tup us,v=>∃a vs,v=.ref a/\H a=some (.tup vs)/\bu K ρ H us vs
 |.mt us,v=>∃a vs,v=.ref a/\oW K H a vs/\bu K ρ H us vs
 |.loc n,v=>∃a,v=.ref a/\ρ[n]?=some a
 |.exc _,_=>False
 |.fn _ _,_=>False
def bu(K:_c)(ρ:_h)(H:Hp):List aj->List V->Prop
 |[],vs=>vs=[]
 |u::us,vs=>∃v r,vs=v::r/\Rl K ρ H u v/\bu K ρ H us r
end
structure aZ(ρ:_h)(H:Hp)(ρ':_h)(H':Hp):Prop where
 pre:ρ <+: ρ'
 tup:∀b xs,H b=some (.tup xs)->H' b=some (.tup xs)
 kh:∀b o u,H b=some (.kh o u)->H' b=some (.kh o u)
theorem aZ.refl(ρ:_h)(H:Hp):aZ ρ H ρ H:=⟨Yv ρ,λ_ _ h=>h,λ_ _ _ h=>h⟩
theorem aZ.trans{ρ1 ρ2:_h}{H1 H2:Hp}(a:aZ ρ H ρ1 H1)(b:aZ ρ1 H1 ρ2 H2):aZ ρ H ρ2 H2:=
 ⟨a.pre.trans b.pre,λ_ _ h=>b.tup _ _ (a.tup _ _ h),λ_ _ _ h=>b.kh _ _ _ (a.kh _ _ _ h)⟩
theorem aZ.same(e:rh H H'):aZ ρ H ρ H':=⟨Yv ρ,λ_ _ h=>e _ _ h,λ_ _ _ h=>e _ _ h⟩
theorem aZ.snoc(p:_l)(e:rh H H'):aZ ρ H (ρ++[p]) H':=⟨List.prefix_append ρ [p],λ_ _ h=>e _ _ h,λ_ _ _ h=>e _ _ h⟩
theorem aZ.at_(e:aZ ρ H ρ' H'){n:Nat}{a:_l}(h:ρ[n]?=some a):ρ'[n]?=some a:=by
 obtain⟨t,rfl⟩:=e.pre;have hl:n<ρ.length:=by
  rcases WD n ρ.length with q|q
  .exact q
  .rw[Wa q]at h;cases h
 rw[V4 hl,h]
theorem aZ.sqT{K:_c}(e:aZ ρ H ρ' H'){a:_l}{xs:List V}(h:oW K H a xs):oW K H' a xs:=by
 rcases h with(h|⟨o,h⟩)|h
 .exact .inl (.inl (e.tup _ _ h))
 .exact .inl (.inr ⟨o,e.kh _ _ _ h⟩)
 .exact .inr h
mutual
theorem Rl.mono{K:_c}(e:aZ ρ H ρ' H'):∀(u:aj)(v:V),Rl K ρ H u v->Rl K ρ' H' u v
 |.dD,_,h=>h
 |.bl _,_,h=>h
 |.int _,_,h=>h
 |.str _,_,h=>h
 |.tup us,v,h=>by unfold Rl at h⊢;obtain⟨a,vs,h1,h2,h3⟩:=h;exact⟨a,vs,h1,e.tup _ _ h2,bu.mono e us vs h3⟩
 |.mt us,v,h=>by unfold Rl at h⊢;obtain⟨a,vs,h1,h2,h3⟩:=h;exact⟨a,vs,h1,e.sqT h2,bu.mono e us vs h3⟩
 |.loc n,v,h=>by unfold Rl at h⊢;obtain⟨a,h1,h2⟩:=h;exact⟨a,h1,e.at_ h2⟩
 |.exc c,v,h=>h
 |.fn _ _,_,h=>h
theorem bu.mono{K:_c}(e:aZ ρ H ρ' H'):∀(us:List aj)(vs:List V),bu K ρ H us vs->bu K ρ' H' us vs
 |[],_,h=>h
 |u::us,vs,h=>by unfold bu at h⊢;obtain⟨v,r,h1,h2,h3⟩:=h;exact⟨v,r,h1,Rl.mono e u v h2,bu.mono e us r h3⟩
end
section
variable{K:_c}
theorem bu.nil:bu K ρ H [] []:=by unfold bu;rfl
theorem bu.cons{u:aj}{us:List aj}{v:V}{vs:List V}(h:Rl K ρ H u v)(hs:bu K ρ H us vs):bu K ρ H (u::us) (v::vs):=by unfold bu;exact⟨v,vs,rfl,h,hs⟩
theorem bu.cW{u:aj}{us:List aj}{vs:List V}(h:bu K ρ H (u::us) vs):∃v r,vs=v::r/\Rl K ρ H u v/\bu K ρ H us r:=by unfold bu at h;exact h
theorem bu.gB{vs:List V}(h:bu K ρ H [] vs):vs=[]:=by unfold bu at h;exact h
theorem bu.length:∀{us:List aj}{vs:List V},bu K ρ H us vs->us.length=vs.length
 |[],vs,h=>by rw[h.gB];rfl
 |u::us,vs,h=>by obtain⟨v,r,rfl,_,h3⟩:=h.cW;rw[Vl,Vl,h3.length]
theorem bu.get:∀{us:List aj}{vs:List V}{i:Nat}{u:aj},bu K ρ H us vs->us[i]?=some u->∃v,vs[i]?=some v/\Rl K ρ H u v
 |[],_,_,_,_,e=>by cases e
 |w::us,vs,0,u,h,e=>by obtain⟨v,r,rfl,h2,_⟩:=h.cW;cases e;exact⟨v,rfl,h2⟩
 |w::us,vs,i+1,u,h,e=>by obtain⟨v,r,rfl,_,h3⟩:=h.cW;exact bu.get (i:=i) h3 e
theorem bu.append:∀{us ws:List aj}{vs xs:List V},bu K ρ H us vs->bu K ρ H ws xs->bu K ρ H (us++ws) (vs++xs)
 |[],_,vs,_,h,k=>by rw[h.gB];exact k
 |u::us,ws,vs,xs,h,k=>by obtain⟨v,r,rfl,h2,h3⟩:=h.cW;exact bu.cons h2 (h3.append k)
theorem bu.drop:∀(n:Nat){us:List aj}{vs:List V},bu K ρ H us vs->bu K ρ H (us.drop n) (vs.drop n)
 |0,_,_,h=>h
 |_+1,[],vs,h=>by rw[h.gB];exact bu.nil
 |n+1,u::us,vs,h=>by obtain⟨v,r,rfl,h2,h3⟩:=h.cW;exact bu.drop n h3
theorem bu.take:∀(n:Nat){us:List aj}{vs:List V},bu K ρ H us vs->bu K ρ H (us.take n) (vs.take n)
 |0,_,_,_=>bu.nil
 |_+1,[],vs,h=>by rw[h.gB];exact bu.nil
 |n+1,u::us,vs,h=>by obtain⟨v,r,rfl,h2,h3⟩:=h.cW;exact bu.cons h2 (bu.take n h3)
theorem bu.set{u:aj}{v:V}(hu:Rl K ρ H u v):∀(n:Nat){us:List aj}{vs:List V},bu K ρ H us vs->bu K ρ H (us.set n u) (vs.set n v)
 |_,[],vs,h=>by rw[h.gB];exact bu.nil
 |0,w::us,vs,h=>by obtain⟨x,r,rfl,h2,h3⟩:=h.cW;exact bu.cons hu h3
 |n+1,w::us,vs,h=>by obtain⟨x,r,rfl,h2,h3⟩:=h.cW;exact bu.cons h2 (bu.set hu n h3)
theorem bu.one{u:aj}{v:V}(h:Rl K ρ H u v):bu K ρ H [u] [v]:=bu.cons h bu.nil
theorem bu.B3{u:aj}{vs:List V}(h:bu K ρ H [u] vs):∃v,vs=[v]/\Rl K ρ H u v:=by obtain⟨v,r,rfl,h2,h3⟩:=h.cW;rw[h3.gB];exact⟨v,rfl,h2⟩
theorem bu.Tn{u w:aj}{vs:List V}(h:bu K ρ H [u,w] vs):∃v x,vs=[v,x]/\Rl K ρ H u v/\Rl K ρ H w x:=by obtain⟨v,r,rfl,h2,h3⟩:=h.cW;obtain⟨x,rfl,h4⟩:=h3.B3;exact⟨v,x,rfl,h2,h4⟩
theorem bu.ints:∀(ns:_d),bu K ρ H (ns.map aj.int) (ns.map V.int)
 |[]=>bu.nil
 |n::ns=>bu.cons (by unfold Rl;rfl) (bu.ints ns)
theorem Rl.cy{i:Int}{v:V}(h:Rl K ρ H (.int i) v):v=.int i:=by unfold Rl at h;exact h
theorem Rl.xa{b:Bool}{v:V}(h:Rl K ρ H (.bl b) v):v=.bl b:=by unfold Rl at h;exact h
theorem Rl.mJ{v:V}(h:Rl K ρ H (.str x) v):v=.str x:=by unfold Rl at h;exact h
theorem Rl.mK{v:V}(h:Rl K ρ H .dD v):v=.dD:=by unfold Rl at h;exact h
theorem Rl.To{us:List aj}{v:V}(h:Rl K ρ H (.tup us) v):∃a vs,v=.ref a/\H a=some (.tup vs)/\bu K ρ H us vs:=by unfold Rl at h;exact h
theorem Rl.i'{us:List aj}{v:V}(h:Rl K ρ H (.tup us) v):∃a vs,v=.ref a/\oW K H a vs/\bu K ρ H us vs:=let⟨a,vs,h1,h2,h3⟩:=h.To;⟨a,vs,h1,oW.of h2,h3⟩
theorem Rl.mt_{us:List aj}{v:V}(h:Rl K ρ H (.mt us) v):∃a vs,v=.ref a/\oW K H a vs/\bu K ρ H us vs:=by unfold Rl at h;exact h
theorem Rl.aaT{us:List aj}{a:_l}{vs:List V}(h:oW K H a vs)(r:bu K ρ H us vs):Rl K ρ H (.mt us) (.ref a):=by unfold Rl;exact⟨a,vs,rfl,h,r⟩
theorem Rl.fQ{n:Nat}{v:V}(h:Rl K ρ H (.loc n) v):∃a,v=.ref a/\ρ[n]?=some a:=by unfold Rl at h;exact h
theorem Rl.mkInt(i:Int):Rl K ρ H (.int i) (.int i):=by unfold Rl;rfl
theorem Rl.Hr(b:Bool):Rl K ρ H (.bl b) (.bl b):=by unfold Rl;rfl
theorem Rl.mkStr(x:Str):Rl K ρ H (.str x) (.str x):=by unfold Rl;rfl
theorem Rl.Au:Rl K ρ H .dD .dD:=by unfold Rl;rfl
theorem Rl.xK{us:List aj}{a:_l}{vs:List V}(h:H a=some (.tup vs))(r:bu K ρ H us vs):Rl K ρ H (.tup us) (.ref a):=by unfold Rl;exact⟨a,vs,rfl,h,r⟩
theorem Rl.Ht{n:Nat}{a:_l}(h:ρ[n]?=some a):Rl K ρ H (.loc n) (.ref a):=by unfold Rl;exact⟨a,rfl,h⟩
end
def jM(K:_c)(ρ:_h)(H:Hp)(aY:List (κ×aj))(iJ:List (κ×V)):Prop:=aY.map (·.1)=iJ.map (·.1)/\bu K ρ H (aY.map (·.2)) (iJ.map (·.2))
def lX:Option a!->Bool
 |some (.mod _)=>true
 |_=>false
def aaU(K:_c)(a:_l)(vs:List V):Prop:=∃(o:Obj)(aN:Array _j)(n:Nat),K.lookup a=some o/\o.cls=.type "list" /\ o.dict=none/\o.data=.seq aN n/\aN.size<=sizeLine/\bt vs aN.toList
def iK(K:_c)(ρ:_h)(H:Hp):a!->_l->Prop
 |.lst us,a=>∃vs,H a=some (.lst vs)/\bu K ρ H us vs
 |.Pe us,a=>∃o vs,H a=some (.kh o (.lst vs))/\bu K ρ H us vs
 |.mod us,a=>∃vs,aaU K a vs/\bu K ρ H us vs
 |.dK aY,a=>∃iJ,H a=some (.dK iJ)/\jM K ρ H aY iJ
 |.dT aY,a=>∃iJ,H a=some (.dT iJ)/\jM K ρ H aY iJ
 |.fd aY,a=>∃o iJ,H a=some (.kh o (.dK iJ))/\jM K ρ H aY iJ
 |.tab x l c q,a=>(∃cd,W.tabIn K x=some (cd,a))/\Tab H a l c q
 |.ins c fs,a=>∃C dx gs,H a=some (.ins C dx gs)/\W.nsIn K mainGlobals c=some (some (.ref C))/\jM K ρ H fs gs
structure SR(K:_c)(ρ:_h)(st:af)(H:Hp):Prop where
 len:ρ.length=st.length
 nd:∀(n m:Nat)a,ρ[n]?=some a->ρ[m]?=some a->lX st[n]?=false->lX st[m]?=false->n=m
 cell:∀(n:Nat)c a,st[n]?=some c->ρ[n]?=some a->iK K ρ H c a
theorem bF{l:List α}{n:Nat}{x:α}(h:l[n]?=some x):n<l.length:=by grind
section
variable{K:_c}{st:af}
theorem iK.there{c:a!}{a:_l}(h:iK K ρ H c a)(hn:lX (some c)=false):∃o,H a=some o/\∀xs,o≠.tup xs:=by
 cases c with
 |lst us=>obtain⟨vs,h,_⟩:=h;exact⟨_,h,λxs e=>by cases e⟩
 |Pe us=>obtain⟨o,vs,h,_⟩:=h;exact⟨_,h,λxs e=>by cases e⟩
 |fd us=>obtain⟨o,vs,h,_⟩:=h;exact⟨_,h,λxs e=>by cases e⟩
 |mod us=>cases hn
 |dK aY=>obtain⟨vs,h,_⟩:=h;exact⟨_,h,λxs e=>by cases e⟩
 |dT aY=>obtain⟨vs,h,_⟩:=h;exact⟨_,h,λxs e=>by cases e⟩
 |tab x l c q=>rcases h.2 with h|⟨_,_,_,_,h,_⟩<;>exact⟨_,h,λxs e=>by cases e⟩
 |ins c fs=>obtain⟨_,_,_,h,_⟩:=h;exact⟨_,h,λxs e=>by cases e⟩
theorem iK.mono{c:a!}{a:_l}(h:iK K ρ H c a)(e:aZ ρ H ρ' H')(ha:lX (some c)=true\/H' a=H a):iK K ρ' H' c a:=by
 cases c with
 |mod us=>obtain⟨vs,h,r⟩:=h;exact⟨vs,h,bu.mono e _ _ r⟩
 |lst us=>rcases ha with ha|ha<;>first|cases ha;done|(obtain⟨vs,h,r⟩:=h;exact⟨vs,ha.trans h,bu.mono e _ _ r⟩)
 |Pe us=>rcases ha with ha|ha<;>first|cases ha;done|(obtain⟨o,vs,h,r⟩:=h;exact⟨o,vs,ha.trans h,bu.mono e _ _ r⟩)
 |dK aY=>rcases ha with ha|ha<;>first|cases ha;done|(obtain⟨vs,h,r⟩:=h;exact⟨vs,ha.trans h,r.1,bu.mono e _ _ r.2⟩)
 |dT aY=>rcases ha with ha|ha<;>first|cases ha;done|(obtain⟨vs,h,r⟩:=h;exact⟨vs,ha.trans h,r.1,bu.mono e _ _ r.2⟩)
 |fd aY=>rcases ha with ha|ha<;>first|cases ha;done|(obtain⟨o,vs,h,r⟩:=h;exact⟨o,vs,ha.trans h,r.1,bu.mono e _ _ r.2⟩)
 |ins c fs=>rcases ha with ha|ha<;>first|cases ha;done|(obtain⟨C,dx,gs,h,hn,r⟩:=h;exact⟨C,dx,gs,ha.trans h,hn,r.1,bu.mono e _ _ r.2⟩)
 |tab x l c q=>
  refine⟨h.1,?_⟩;rcases ha with ha|ha
  .cases ha
  .rcases h.2 with h|⟨c',oc,vs,t,h,h2,h3⟩
   .exact .inl (ha.trans h)
   .exact .inr ⟨c',oc,vs,t,ha.trans h,e.kh _ _ _ h2,h3⟩
theorem iK.grow{c:a!}{a:_l}(h:iK K ρ H c a)(e:aZ ρ H ρ' H')(s:rh H H'):iK K ρ' H' c a:=by
 cases z:lX (some c) with
 |true=>exact h.mono e (.inl z)
 |false=>
  obtain⟨o,ho,_⟩:=h.there z;exact h.mono e (.inr (by rw[ho];exact s _ _ ho))
theorem SR.there(s:SR K ρ st H){n:Nat}{a:_l}(h:ρ[n]?=some a):∃c,st[n]?=some c/\iK K ρ H c a:=by
 have hn:=bF h;have N':n<st.length:=by rw[<-s.len];exact hn
 exact⟨st[n],Vo N',s.cell n _ a (Vo N') h⟩
theorem SR.addr(s:SR K ρ st H){n:Nat}{c:a!}(h:st[n]?=some c):∃a,ρ[n]?=some a/\iK K ρ H c a:=by
 have hn:=bF h;have N':n<ρ.length:=by rw[s.len];exact hn
 exact⟨ρ[n],Vo N',s.cell n c _ h (Vo N')⟩
theorem SR.grow(s:SR K ρ st H)(e:rh H H'):SR K ρ st H':=
 ⟨s.len,s.nd,λn c a h1 h2=>(s.cell n c a h1 h2).grow (aZ.same e) e⟩
theorem SR.Nl(s:SR K ρ st H){p:_l}(hp:H p=none){n:Nat}(h:ρ[n]?=some p)(hm:lX st[n]?=false):False:=by obtain⟨c,hc,k⟩:=s.there h;rw[hc]at hm;obtain⟨o,ho,_⟩:=k.there hm;rw[hp]at ho;cases ho
theorem fe{p:_l}{o:HO}(hp:H p=none):rh H (upd H p o):=rh.upd (rh.refl H) hp
theorem SR.alloc(s:SR K ρ st H){p:_l}{o:HO}{c:a!}(hp:H p=none)(k:iK K (ρ++[p]) (upd H p o) c p):SR K (ρ++[p]) (st++[c]) (upd H p o):=by
 have e:rh H (upd H p o):=fe hp;have at_:∀(n:Nat)(a:_l),(ρ++[p])[n]?=some a->(n<st.length/\ρ[n]?=some a/\(st++[c])[n]?=st[n]?)\/(n=st.length/\a=p/\(st++[c])[n]?=some c):=by
  intro n a h;rcases X? n st.length with q|q|q
  .rw[V4 (by rw[s.len];exact q)]at h;exact .inl ⟨q,h,V4 q⟩
  .subst q;rw[V3 (by rw[s.len];exact Vv _),s.len,WY]at h;cases h;refine .inr ⟨rfl,rfl,?_⟩;rw[V3 (Vv _),WY];rfl
  .rw[Wa (by rw[Vm,VO,s.len];lia)]at h;cases h
 refine⟨by rw[Vm,Vm,s.len];rfl,λn m a h1 h2 m1 m2=>?_,λn c' a h1 h2=>?_⟩
 .rcases at_ n a h1 with⟨q1,q2,q3⟩|⟨q1,q2,q3⟩<;>rcases at_ m a h2 with⟨r1,r2,r3⟩|⟨r1,r2,r3⟩
  .rw[q3]at m1;rw[r3]at m2;exact s.nd n m a q2 r2 m1 m2
  .subst r2;rw[q3]at m1;exact(s.Nl hp q2 m1).elim
  .subst q2;rw[r3]at m2;exact(s.Nl hp r2 m2).elim
  .rw[q1,r1]
 .rcases at_ n a h2 with⟨q1,q2,q3⟩|⟨q1,q2,q3⟩
  .rw[q3]at h1;exact(s.cell n c' a h1 q2).grow (aZ.snoc p e) e
  .rw[q3]at h1;cases h1;subst q2;exact k
theorem aZ.put{a:_l}{o o':HO}(h:H a=some o)(h1:∀xs,o≠.tup xs)(h2:∀x u,o≠.kh x u):aZ ρ H ρ (upd H a o'):=by
 refine⟨Yv ρ,λb xs e=>?_,λb x u e=>?_⟩
 .rw[aW (λz=>?_)]
  .exact e
  .subst z;rw[h]at e;exact h1 _ (VU e)
 .rw[aW (λz=>?_)]
  .exact e
  .subst z;rw[h]at e;exact h2 _ _ (VU e)
theorem SR.set(s:SR K ρ st H){n:Nat}{a:_l}{o o':HO}{c c':a!}(h:st[n]?=some c)(hc:lX (some c)=false)(d_:lX (some c')=false)(ha:ρ[n]?=some a)(ho:H a=some o)(h1:∀xs,o≠.tup xs)(h2:∀x u,o≠.kh x u)(k:iK K ρ (upd H a o') c' a):SR K ρ (st.set n c') (upd H a o'):=by
 have hn:n<st.length:=bF h;have at_:∀(m:Nat),lX (st.set n c')[m]?=lX st[m]?:=λm=>by
  by_cases z:m=n
  .subst z;rw[WT hn,h,hc,d_]
  .rw[Xf (λy=>z y.symm)]
 refine⟨by rw[Wt];exact s.len,λi m b q1 q2 m1 m2=>s.nd i m b q1 q2 (by rw[<-at_];exact m1) (by rw[<-at_];exact m2),λm d b q1 q2=>?_⟩;by_cases z:m=n
 .subst z;rw[ha]at q2;cases q2;rw[WT hn]at q1;cases q1;exact k
 .rw[Xf (λy=>z y.symm)]at q1;have kb:=s.cell m d b q1 q2;cases zm:lX (some d) with
  |true=>exact kb.mono (aZ.put ho h1 h2) (.inl zm)
  |false=>
   have hb:b≠a:=λy=>z (s.nd m n a (by rw[<-y];exact q2) ha (by rw[q1];exact zm) (by rw[h];exact hc));exact kb.mono (aZ.put ho h1 h2) (.inr (aW hb))
end
def Hu(W:Wo)(ρ:_h)(H:Hp)(u:aj)(v:V):Prop:=match u with
 |.exc c=>∃a oe C,v=.ref a/\(a,oe)∈W.pn/\W.mg c=some (.ref C)/\oe.cls=.ref C
 |.fn L u=>∃f c c' cv,v=.ref f/\Dx L H f c c' cv/\Rl W.K ρ H u cv
 |u=>Rl W.K ρ H u v
theorem Hu.mono{W:Wo}{u:aj}{v:V}(h:Hu W ρ H u v)(e:aZ ρ H ρ' H'):Hu W ρ' H' u v:=by
 cases u with
 |exc c=>exact h
 |fn L u=>obtain⟨f,c,c',cv,h1,C,r⟩:=h;exact⟨f,c,c',cv,h1,C.mono (λb o u q=>e.kh b o u q),Rl.mono e _ _ r⟩
 |_=>exact Rl.mono e _ _ h
theorem Hu.of{W:Wo}{u:aj}{v:V}(h:Rl W.K ρ H u v):Hu W ρ H u v:=by
 cases u with
 |exc c=>unfold Rl at h;exact h.elim
 |fn L u=>unfold Rl at h;exact h.elim
 |_=>exact h
structure RS(W:Wo)(ρ:_h)(H:Hp)(μ:Env)(σ:St):Prop where
 len:μ.length=σ.length
 at_:∀(i:Nat)u,μ[i]?=some (some u)->∃v,σ[i]?=some (some v)/\Hu W ρ H u v
section
variable{W:Wo}{μ:Env}
theorem RS.mono(r:RS W ρ H μ σ)(e:aZ ρ H ρ' H'):RS W ρ' H' μ σ:=⟨r.len,λi u h=>let⟨v,h1,h2⟩:=r.at_ i u h;⟨v,h1,h2.mono e⟩⟩
theorem RS.aaV(r:RS W ρ H μ σ)(i:Nat){u:aj}{v:V}(h:Hu W ρ H u v):RS W ρ H (μ.set i (some u)) (σ.set i (some v)):=by
 refine⟨by rw[Wt,Wt];exact r.len,λj w e=>?_⟩;by_cases z:j=i
 .subst z;have hj:=bF e;rw[Wt]at hj;rw[WT hj]at e;cases e;exact⟨v,WT (by rw[<-r.len];exact hj),h⟩
 .rw[Xf (λy=>z y.symm)]at e⊢;exact r.at_ j w e
theorem RS.set(r:RS W ρ H μ σ)(i:Nat){u:aj}{v:V}(h:Rl W.K ρ H u v):RS W ρ H (μ.set i (some u)) (σ.set i (some v)):=r.aaV i (Hu.of h)
end
abbrev ME:=Env->af->eZ aj
abbrev MT:=Env->af->eZ Bool
abbrev MA:=Env->af->eZ (List aj)
abbrev MB:=Env->af->e?
def wR(W:Wo)(E:XK)(R:_h->Hp->α->β->Prop)(ρ:_h)(H:Hp)(Q:β->Hp->Prop):eZ α->Prop
 |.ok u aH=>∀ρ' H' v,aZ ρ H ρ' H'->SR W.K ρ' aH H'->R ρ' H' u v->Q v H'
 |.err c aH=>∃C,W.mg c=some (.ref C)/\∀ρ' H',aZ ρ H ρ' H'->SR W.K ρ' aH H'->E (.ref C) none H'
 |.bad=>False
theorem wR.mono{W:Wo}{R:_h->Hp->α->β->Prop}{Q:β->Hp->Prop}{r:eZ α}(h:wR W E R ρ H Q r)(e:aZ ρ H ρ' H'):wR W E R ρ' H' Q r:=by
 cases r with
 |ok u st=>exact λρ2 H2 v e2 s r=>h ρ2 H2 v (e.trans e2) s r
 |err c st=>obtain⟨C,h1,h2⟩:=h;exact⟨C,h1,λρ2 H2 e2 s=>h2 ρ2 H2 (e.trans e2) s⟩
 |bad=>exact h
theorem wR.pn{K:_c}{mg:_a}{pn pn':_b}{R:_h->Hp->α->β->Prop}{Q:β->Hp->Prop}{r:eZ α}(h:wR ⟨K,mg,pn⟩ E R ρ H Q r):wR ⟨K,mg,pn'⟩ E R ρ H Q r:=by cases r<;>exact h
def tG(W:Wo)(E:XK)(R:_h->Hp->α->β->Prop)(m:Env->af->eZ α):St->Hp->(β->Hp->Prop)->Prop:=
 λσ H Q=>∃μ ρ st,RS W ρ H μ σ/\SR W.K ρ st H/\wR W E R ρ H Q (m μ st)
abbrev RB:_h->Hp->Bool->Bool->Prop:=λ_ _ b c=>c=b
abbrev tE(X:Cx)(E:XK)(m:ME):TE:=tG (wo X) E (Rl X.K) m
abbrev tT(X:Cx)(E:XK)(m:MT):TT:=tG (wo X) E RB m
abbrev tL(X:Cx)(E:XK)(m:MA):TA:=tG (wo X) E (bu X.K) m
theorem go{γ δ:Type}{W:Wo}{R1:_h->Hp->α->β->Prop}{R2:_h->Hp->γ->δ->Prop}{m:Env->af->eZ α}{k:α->af->eZ γ}{Q:δ->Hp->Prop}{Q':β->Hp->Prop}(μ:Env)(ρ:_h)(st:af)(rs:RS W ρ H μ σ)(sr:SR W.K ρ st H)(h:wR W E R2 ρ H Q ((m μ st).bind k))(c:∀u st1 ρ1 H1 x,aZ ρ H ρ1 H1->SR W.K ρ1 st1 H1->R1 ρ1 H1 u x->wR W E R2 ρ1 H1 Q (k u st1)->Q' x H1):tG W E R1 m σ H Q':=by
 refine⟨μ,ρ,st,rs,sr,?_⟩;cases e:m μ st with
 |ok u st1=>
  rw[e]at h;intro ρ1 H1 x e1 dh r1;exact c u st1 ρ1 H1 x e1 dh r1 (wR.mono h e1)
 |err c st1=>rw[e]at h;exact h
 |bad=>rw[e]at h;exact h
theorem PE.imp{e:Expr}{t t':TE}(h:PE X e t)(k:∀σ H Q,t' σ H Q->t σ H Q):PE X e t':=λae s σ H Q I q=>h ae s σ H Q I (k σ H Q q)
theorem PT.imp{e:Expr}{t t':TT}(h:PT X e t)(k:∀σ H Q,t' σ H Q->t σ H Q):PT X e t':=λae s σ H Q I q=>h ae s σ H Q I (k σ H Q q)
theorem PW.imp{e:Expr}{t t':TT}(h:PW X e t)(k:∀σ H Q,t' σ H Q->t σ H Q):PW X e t':=λw ae s σ H Q I q=>h w ae s σ H Q I (k σ H Q q)
theorem PA.imp{e:List Expr}{t t':TA}(h:PA X e t)(k:∀σ H Q,t' σ H Q->t σ H Q):PA X e t':=λp ae s σ H Q I q=>h p ae s σ H Q I (k σ H Q q)
theorem PS.imp{e:Stmt}{t t':TS}(h:PS X e t)(k:∀D σ H,t' D σ H->t D σ H):PS X e t':=λae s σ H D I q=>h ae s σ H D I (k D σ H q)
theorem oV.imp{e:List Stmt}{t t':TS}(h:oV X e t)(k:∀D σ H,t' D σ H->t D σ H):oV X e t':=λae s σ H D I q=>h ae s σ H D I (k D σ H q)
theorem PG.imp{e:Expr}{t t':TG}(h:PG X e t)(k:∀v σ H Q,t' v σ H Q->t v σ H Q):PG X e t':=λae s σ H v u Q I r q=>h ae s σ H v u Q I r (k v σ H Q q)
theorem fV.imp{f:_j->_j->Sem _j}{t t':R2}(h:fV X f t)(k:∀x y H Q,t' x y H Q->t x y H Q):fV X f t':=λae s σ H x y v u Q I rx ry q=>h ae s σ H x y v u Q I rx ry (k x y H Q q)
theorem cR.imp{f:_j}{t t':List V->Hp->VK->Prop}(h:cR X f t)(k:∀xs H Q,t' xs H Q->t xs H Q):cR X f t':=λae s σ H xs us Q I r q=>h ae s σ H xs us Q I r (k xs H Q q)
theorem Bt.imp{t t':R2}(h:Bt X t)(k:∀x y H Q,t' x y H Q->t x y H Q):Bt X t':=λva sl ae s σ H x y v u Q I rx ry q e=>h va sl ae s σ H x y v u Q I rx ry (k x y H Q q) e
def isX:aj->Bool
 |.exc _=>true
 |.fn _ _=>true
 |_=>false
def jl(i:Nat):ME:=λμ st=>match μ[i]? with
 |some (some v)=>if isX v=true then .bad else .ok v st
 |_=>.bad
theorem Hu.un{W:Wo}{u:aj}{v:V}(h:Hu W ρ H u v)(n:¬ isX u=true):Rl W.K ρ H u v:=by
 cases u with
 |exc c=>exact absurd rfl n
 |fn L u=>exact absurd rfl n
 |_=>exact h
def mC(v:aj):ME:=λ_ st=>.ok v st
section
variable{pos:Pos}
theorem B4(i:Nat)(hN:X.N[i]?=some x:=by rfl)(hv:RX X.env.scope x:=by first|exact Or.inl rfl|exact Or.inr (Or.inl rfl)|exact Or.inr (Or.inr rfl))(hd:(x==("__debug__":Str))=false:=by decide)(BD:(x==("__classdict__":Str))=false:=by decide):PE X (.Name x pos) (tE X E (jl i)):=by
 refine PE.imp (Oa hN hv hd BD) ?_;rintro σ H Q ⟨μ,ρ,st,rs,sr,h⟩;unfold jl at h;split at h
 .rename_i v e;obtain⟨w,e',r⟩:=rs.at_ i v e;split at h
  .exact h.elim
  .rename_i n;exact⟨w,e',h ρ H w (aZ.refl _ _) sr (r.un n)⟩
 .exact h.elim
theorem Av{e:Expr}{v:V}{c:aj}(h:PE X e (tC v))(r:∀ρ H,Rl X.K ρ H c v):PE X e (tE X E (mC c)):=by refine PE.imp h ?_;rintro σ H Q ⟨μ,ρ,st,rs,sr,h⟩;exact h ρ H v (aZ.refl _ _) sr (r ρ H)
theorem B5{i j}:PE X (.Constant (.int i) j pos) (tE X E (mC (.int i))):=Av Ob λ_ _=>Rl.mkInt i
theorem Tp{b j}:PE X (.Constant (.bool b) j pos) (tE X E (mC (.bl b))):=Av R8 λ_ _=>Rl.Hr b
theorem Pf{j}:PE X (.Constant .none j pos) (tE X E (mC .dD)):=Av Oc λ_ _=>Rl.Au
theorem Pg{x j}:PE X (.Constant (.str x) j pos) (tE X E (mC (.str x))):=Av Od λ_ _=>Rl.mkStr x
structure Glob(K:_c)(mg:_a)(x:Str)(c:aj):Prop where
 at_:∃(u:_j)(v:V),mg x=some u/\bM v u/\∀ρ H,Rl K ρ H c v
theorem DB{c:aj}(hg:Gl X x)(h:Glob X.K X.mg x c)(hd:(x==("__debug__":Str))=false:=by decide):PE X (.Name x pos) (tE X E (mC c)):=by obtain⟨u,v,h1,h2,h3⟩:=h.at_;exact Av (Kl hg h1 h2 hd) h3
end
abbrev F2:=aj->aj->af->eZ aj
def rM(W:Wo)(E:XK)(f:F2):R2:=λx y H Q=>∃ρ st u w,SR W.K ρ st H/\Rl W.K ρ H u x/\Rl W.K ρ H w y/\wR W E (Rl W.K) ρ H Q (f u w st)
def ai(f:F2)(a b:ME):ME:=λμ st=>(a μ st).bind λx st1=>(b μ st1).bind λy b8=>f x y b8
section
variable{pos:Pos}{a b c:Expr}{ma mb mc:ME}{f g:F2}
theorem p_(h:tE X E (ai f ma mb) σ H Q):Rn (rM (wo X) E f) (tE X E ma) (tE X E mb) σ H Q:=by obtain⟨μ,ρ,st,rs,sr,h⟩:=h;refine go μ ρ st rs sr h λu st1 ρ1 H1 x e1 dh r1 h1=>?_;refine go μ ρ1 st1 (rs.mono e1) dh h1 λw b8 ρ2 H2 y e2 p! r2 h2=>?_;exact⟨ρ2,b8,u,w,p!,Rl.mono e2 _ _ r1,r2,h2⟩
theorem rj{op:Operator}(ho:fV X (binaryOp op) (rM (wo X) E f))(ha:PE X a (tE X E ma))(hb:PE X b (tE X E mb)):PE X (.BinOp a op b pos) (tE X E (ai f ma mb)):=
 PE.imp (So ho ha hb) λ_ _ _ h=>p_ h
theorem m7(ho:fV X (compareOp op) (rM (wo X) E f))(ha:PE X a (tE X E ma))(hb:PE X b (tE X E mb))(hm:behindInMarks op b=false:=by first|exact GR _|(with_unfolding_all rfl)):PE X (.Compare a [op] [b] pos) (tE X E (ai f ma mb)):=
 PE.imp (KJ ho ha hb hm) λ_ _ _ h=>p_ h
def f9(m:ME):MT:=λμ st=>(m μ st).bind λv aH=>match v with
 |.bl b=>.ok b aH
 |_=>.bad
theorem Aw{m:ME}{Q:Bool->Hp->Prop}(h:tT X E (f9 m) σ H Q):tE X E m σ H λx H'=>∃k,x=.bl k/\Q k H':=by
 obtain⟨μ,ρ,st,rs,sr,h⟩:=h;refine go μ ρ st rs sr h λu st1 ρ1 H1 x e1 dh r1 h1=>?_;cases u with
 |bl b=>exact⟨b,r1.xa,h1 ρ1 H1 b (aZ.refl _ _) dh rfl⟩
 |_=>exact h1.elim
theorem m8(ho:fV X (compareOp op) (rM (wo X) E f))(ha:PE X a (tE X E ma))(hb:PE X b (tE X E mb))(hm:behindInMarks op b=false:=by first|exact GR _|(with_unfolding_all rfl)):PT X (.Compare a [op] [b] pos) (tT X E (f9 (ai f ma mb))):=
 PT.imp (KL ho ha hb hm) λσ H Q h=>by show Rn (rM (wo X) E f) (tE X E ma) (tE X E mb) σ H _;exact p_ (Aw h)
theorem Ph{m:ME}(h:PE X a (tE X E m))(he:∀whole,isTrue a X.env whole=(do let v <- whole;standAt a.pos;holding [v] (truthy v)):=by intro _;rfl):PT X a (tT X E (f9 m)):=
 PT.imp (Oe h he) λσ H Q h=>Aw h
def aaW(f g:F2)(a b c:ME):ME:=λμ st=>(a μ st).bind λx st1=>(b μ st1).bind λy b8=>(f x y b8).bind λz oX=>match z with
 |.bl true=>(c μ oX).bind λw pV=>g y w pV
 |.bl false=>.ok (.bl false) oX
 |_=>.bad
def B6(a b:ME):ME:=λμ st=>(a μ st).bind λx st1=>match x with
 |.bl true=>b μ st1
 |.bl false=>.ok (.bl false) st1
 |_=>.bad
def mOr(a b:ME):ME:=λμ st=>(a μ st).bind λx st1=>match x with
 |.bl true=>.ok (.bl true) st1
 |.bl false=>b μ st1
 |_=>.bad
def Tq(a:ME):ME:=λμ st=>(a μ st).bind λx st1=>match x with
 |.bl b=>.ok (.bl (!b)) st1
 |_=>.bad
def xM(a b:MT):MT:=λμ st=>(a μ st).bind λx st1=>match x with
 |true=>b μ st1
 |false=>.ok false st1
def Ax(a b:MT):MT:=λμ st=>(a μ st).bind λx st1=>match x with
 |true=>.ok true st1
 |false=>b μ st1
def DC(a:MT):MT:=λμ st=>(a μ st).bind λx st1=>.ok (!x) st1
def Ke(t:MT)(a b:ME):ME:=λμ st=>(t μ st).bind λx st1=>match x with
 |true=>a μ st1
 |false=>b μ st1
variable{tA Kn:MT}
theorem Pj{op}{m:ME}(h:PE X a (tE X E m)):PE X (.BoolOp op [a] pos) (tE X E m):=Oi h
theorem Pk(ha:PE X a (tE X E ma))(hb:PE X (.BoolOp .And (b::rest) pos) (tE X E mb)):PE X (.BoolOp .And (a::b::rest) pos) (tE X E (B6 ma mb)):=by
 refine PE.imp (Oj ha hb) ?_;rintro σ H Q ⟨μ,ρ,st,rs,sr,h⟩;refine go μ ρ st rs sr h λu st1 ρ1 H1 x e1 dh r1 h1=>?_;cases u with
 |bl k=>
  refine⟨k,r1.xa,?_⟩;cases k with
  |true=>rw[Vs rfl];exact⟨μ,ρ1,st1,rs.mono e1,dh,h1⟩
  |false=>rw[VE VY];exact h1 ρ1 H1 _ (aZ.refl _ _) dh (Rl.Hr false)
 |_=>exact h1.elim
theorem Tr(ha:PE X a (tE X E ma))(hb:PE X (.BoolOp .Or (b::rest) pos) (tE X E mb)):PE X (.BoolOp .Or (a::b::rest) pos) (tE X E (mOr ma mb)):=by
 refine PE.imp (R? ha hb) ?_;rintro σ H Q ⟨μ,ρ,st,rs,sr,h⟩;refine go μ ρ st rs sr h λu st1 ρ1 H1 x e1 dh r1 h1=>?_;cases u with
 |bl k=>
  refine⟨k,r1.xa,?_⟩;cases k with
  |true=>rw[Vs rfl];exact h1 ρ1 H1 _ (aZ.refl _ _) dh (Rl.Hr true)
  |false=>rw[VE VY];exact⟨μ,ρ1,st1,rs.mono e1,dh,h1⟩
 |_=>exact h1.elim
theorem Pl(ha:PE X a (tE X E ma)):PE X (.UnaryOp .Not a pos) (tE X E (Tq ma)):=by
 refine PE.imp (Ol ha) ?_;rintro σ H Q ⟨μ,ρ,st,rs,sr,h⟩;refine go μ ρ st rs sr h λu st1 ρ1 H1 x e1 dh r1 h1=>?_;cases u with
 |bl k=>exact⟨k,r1.xa,h1 ρ1 H1 _ (aZ.refl _ _) dh (Rl.Hr _)⟩
 |_=>exact h1.elim
theorem Lk(ha:PT X a (tT X E tA)):PW X (.BoolOp .And [a] pos) (tT X E tA):=Ko ha
theorem Pn(ha:PT X a (tT X E tA)):PW X (.BoolOp .Or [a] pos) (tT X E tA):=Of ha
theorem Po(ha:PT X a (tT X E tA))(hb:PW X (.BoolOp .And (b::rest) pos) (tT X E Kn)):PW X (.BoolOp .And (a::b::rest) pos) (tT X E (xM tA Kn)):=by
 refine PW.imp (Og ha hb) ?_;rintro σ H Q ⟨μ,ρ,st,rs,sr,h⟩;refine go (R1:=RB) μ ρ st rs sr h λu st1 ρ1 H1 x e1 dh r1 h1=>?_;cases r1;cases u with
 |true=>rw[Vs rfl];exact⟨μ,ρ1,st1,rs.mono e1,dh,h1⟩
 |false=>rw[VE VY];exact h1 ρ1 H1 _ (aZ.refl _ _) dh rfl
theorem Ts(ha:PT X a (tT X E tA))(hb:PW X (.BoolOp .Or (b::rest) pos) (tT X E Kn)):PW X (.BoolOp .Or (a::b::rest) pos) (tT X E (Ax tA Kn)):=by
 refine PW.imp (R9 ha hb) ?_;rintro σ H Q ⟨μ,ρ,st,rs,sr,h⟩;refine go (R1:=RB) μ ρ st rs sr h λu st1 ρ1 H1 x e1 dh r1 h1=>?_;cases r1;cases u with
 |true=>rw[Vs rfl];exact h1 ρ1 H1 _ (aZ.refl _ _) dh rfl
 |false=>rw[VE VY];exact⟨μ,ρ1,st1,rs.mono e1,dh,h1⟩
theorem aaX{e:Expr}{t:MT}(h:PW X e (tT X E t)):PT X e (tT X E t):=h.pt
theorem Pp(ha:PT X a (tT X E tA)):PT X (.UnaryOp .Not a pos) (tT X E (DC tA)):=by refine PT.imp (Oh ha) ?_;rintro σ H Q ⟨μ,ρ,st,rs,sr,h⟩;refine go (R1:=RB) μ ρ st rs sr h λu st1 ρ1 H1 x e1 dh r1 h1=>?_;cases r1;exact h1 ρ1 H1 _ (aZ.refl _ _) dh rfl
theorem Tt(hc:PT X c (tT X E tA))(ha:PE X a (tE X E ma))(hb:PE X b (tE X E mb)):PE X (.IfExp c a b pos) (tE X E (Ke tA ma mb)):=by
 refine PE.imp (GJ hc ha hb) ?_;rintro σ H Q ⟨μ,ρ,st,rs,sr,h⟩;refine go (R1:=RB) μ ρ st rs sr h λu st1 ρ1 H1 x e1 dh r1 h1=>?_;cases r1;cases u with
 |true=>rw[Vs rfl];exact⟨μ,ρ1,st1,rs.mono e1,dh,h1⟩
 |false=>rw[VE VY];exact⟨μ,ρ1,st1,rs.mono e1,dh,h1⟩
end
def ag:MA:=λ_ st=>.ok [] st
def aa(a:ME)(r:MA):MA:=λμ st=>(a μ st).bind λx st1=>(r μ st1).bind λxs b8=>.ok (x::xs) b8
abbrev bq: ME := jl 0
abbrev bP: ME := jl 1
abbrev dz: ME := jl 2
abbrev cT: ME := jl 3
abbrev ff: ME := jl 4
abbrev iP: ME := jl 5
abbrev jL: ME := jl 6
abbrev oY: ME := jl 7
abbrev zY: ME := jl 8
abbrev Bw: ME := jl 9
abbrev dE: ME := mC (.int 0)
abbrev cH: ME := mC (.int 1)
abbrev Kf: ME := mC (.int 2)
abbrev Pq: ME := mC (.int 3)
abbrev Ll: ME := mC (.int 4)
abbrev fH: ME := mC (.int 2147483647)
abbrev qs(x : Str): ME := mC (.str x)
abbrev qI(i : Int): Option aj := some (.int i)
abbrev qN(n : Nat): Option aj := some (.int n)
abbrev qS(x : Str): Option aj := some (.str x)
abbrev qL(n : Nat): Option aj := some (.loc n)
abbrev qn: Option aj := none
def gW(a:MA):ME:=λμ st=>(a μ st).bind λxs st1=>if xs.length<=sizeLine then .ok (.tup xs) st1 else .bad
def a_(a:MA):ME:=λμ st=>(a μ st).bind λxs st1=>if xs.length<=sizeLine then .ok (.loc st1.length) (st1++[.lst xs])else .bad
abbrev FN:=List aj->af->eZ aj
def ao(f:FN)(a:MA):ME:=λμ st=>(a μ st).bind λxs st1=>f xs st1
def Pr(W:Wo)(f:FN):Sp:=λvs H Q E=>∃us ρ st,bu W.K ρ H us vs/\SR W.K ρ st H/\wR W E (Rl W.K) ρ H Q (f us st)
def cM(W:Wo)(E:XK)(f:FN):List V->Hp->VK->Prop:=λxs H Q=>∃ρ st us,SR W.K ρ st H/\bu W.K ρ H us xs/\wR W E (Rl W.K) ρ H Q (f us st)
section
variable{pos p:Pos}{e:Expr}{m:ME}{ms:MA}{f:FN}
theorem B7:PA X [] (tL X E ag):=PA.imp BJ λσ H Q⟨μ,ρ,st,rs,sr,h⟩=>h ρ H [] (aZ.refl _ _) sr bu.nil
theorem uw(ha:PE X e (tE X E m))(hr:PA X es (tL X E ms))(hs:starEach (e::es) X.env=(false,eval e X.env)::starEach es X.env:=by rfl):PA X (e::es) (tL X E (aa m ms)):=by refine PA.imp (ur ha hr hs) ?_;rintro σ H Q ⟨μ,ρ,st,rs,sr,h⟩;refine go μ ρ st rs sr h λu st1 ρ1 H1 x e1 dh r1 h1=>?_;refine go (R1:=bu X.K) μ ρ1 st1 (rs.mono e1) dh h1 λw b8 ρ2 H2 y e2 p! r2 h2=>?_;exact h2 ρ2 H2 _ (aZ.refl _ _) p! (bu.cons (Rl.mono e2 _ _ r1) r2)
theorem Hv{k}(h:PA X es (tL X E ms)):PE X (.Tuple es k pos) (tE X E (gW ms)):=by
 refine PE.imp (OK h) ?_;rintro σ H Q ⟨μ,ρ,st,rs,sr,h⟩;refine go (R1:=bu X.K) μ ρ st rs sr h λus st1 ρ1 H1 xs e1 dh r1 h1=>?_;by_cases hz:us.length<=sizeLine
 .rw[Vs hz]at h1;refine⟨by rw[<-r1.length];exact hz,λp hp=>?_⟩;have s:=fe (o:=.tup xs) hp;exact h1 ρ1 _ _ (aZ.same s) (dh.grow s) (Rl.xK b_ (bu.mono (aZ.same s) _ _ r1))
 .rw[VE hz]at h1;exact h1.elim
theorem iB{K:_c}{st:af}{us:List aj}{xs:List V}(sr:SR K ρ st H)(r:bu K ρ H us xs){p:_l}(hp:H p=none):
  aZ ρ H (ρ++[p]) (upd H p (.lst xs))/\SR K (ρ++[p]) (st++[.lst us]) (upd H p (.lst xs))/\Rl K (ρ++[p]) (upd H p (.lst xs)) (.loc st.length) (.ref p):=by
 have s:=fe (o:=.lst xs) hp;refine⟨aZ.snoc p s,sr.alloc hp ⟨xs,b_,bu.mono (aZ.snoc p s) _ _ r⟩,Rl.Ht ?_⟩;rw[<-sr.len,V3 (Vv _),WY];rfl
theorem Pt(h:PA X es (tL X E ms)):PE X (.List es pos) (tE X E (a_ ms)):=by
 refine PE.imp (OL h) ?_;rintro σ H Q ⟨μ,ρ,st,rs,sr,h⟩;refine go (R1:=bu X.K) μ ρ st rs sr h λus st1 ρ1 H1 xs e1 dh r1 h1=>?_;by_cases hz:us.length<=sizeLine
 .rw[Vs hz]at h1;refine⟨by rw[<-r1.length];exact hz,λp hp=>?_⟩;obtain⟨a,b,c⟩:=iB dh r1 hp;exact h1 _ _ _ a b c
 .rw[VE hz]at h1;exact h1.elim
theorem Lm{fd:FuncData}{CX:GU}(F:uY X.prog X.w X.K X.mg X.base CX k fa fd ps (Pr ⟨X.K,X.mg,[]⟩ f))(hr:gk k X.A)(hg:Gl X x)(hm:X.mg x=some (.ref fa))(hk:W.keepIn X.K (.ref fa)=true)(hb:Binds X.K fd ps [])(hx:Passes CX X E)(ha:PA X (e::es) (tL X E ms))(Af:(x==("__debug__":Str))=false:=by decide)(he:starEach (e::es) X.env=(false,eval e X.env)::starEach es X.env:=by rfl)(sM:(backTo pos (starEach es X.env)).any (·.1)=false:=by rfl):
  PE X (.Call (.Name x p) (e::es) [] pos) (tE X E (ao f ms)):=by
 refine PE.imp (KP F hr hg hm hk hb .nil hx ha Af he sM) ?_;rintro σ H Q ⟨μ,ρ,st,rs,sr,h⟩;refine go (R1:=bu X.K) μ ρ st rs sr h λus st1 ρ1 H1 xs e1 dh r1 h1=>?_;rw[Wi];exact⟨us,ρ1,st1,r1,dh,wR.pn h1⟩
theorem km{id:String}(hc:cR X (.builtin id) (cM (wo X) E f))(hg:Gl X x)(hm:X.mg x=none)(hv:bootBuiltins x=some (.builtin id))(ha:PA X (e::es) (tL X E ms))(hn:x ≠ "__name__":=by decide)(Af:(x==("__debug__":Str))=false:=by decide)(he:starEach (e::es) X.env=(false,eval e X.env)::starEach es X.env:=by rfl)(sM:(backTo pos (starEach es X.env)).any (·.1)=false:=by rfl):PE X (.Call (.Name x p) (e::es) [] pos) (tE X E (ao f ms)):=by refine PE.imp (Ah hc hg hm hv ha hn Af he sM) ?_;rintro σ H Q ⟨μ,ρ,st,rs,sr,h⟩;exact go (R1:=bu X.K) μ ρ st rs sr h λus st1 ρ1 H1 xs e1 dh r1 h1=>⟨ρ1,st1,us,dh,r1,h1⟩
theorem xN{T:String}(hc:cR X (.type T) (cM (wo X) E f))(hg:Gl X x)(hm:X.mg x=none)(hv:bootBuiltins x=some (.type T))(ha:PA X (e::es) (tL X E ms))(hn:x ≠ "__name__":=by decide)(Af:(x==("__debug__":Str))=false:=by decide)(he:starEach (e::es) X.env=(false,eval e X.env)::starEach es X.env:=by rfl)(sM:(backTo pos (starEach es X.env)).any (·.1)=false:=by rfl):PE X (.Call (.Name x p) (e::es) [] pos) (tE X E (ao f ms)):=by refine PE.imp (EN hc hg hm hv ha hn Af he sM) ?_;rintro σ H Q ⟨μ,ρ,st,rs,sr,h⟩;exact go (R1:=bu X.K) μ ρ st rs sr h λus st1 ρ1 H1 xs e1 dh r1 h1=>⟨ρ1,st1,us,dh,r1,h1⟩
end
section
variable{pos:Pos}{a b:Expr}{ma mb:ME}{f:F2}
theorem Tu(hr:Bt X (rM (wo X) E f))(ha:PE X a (tE X E ma))(hb:PE X b (tE X E mb))(hs:yz b:=by exact λ_ _=>rfl):PE X (.Subscript a b pos) (tE X E (ai f ma mb)):=
 PE.imp (SK hr ha hb hs) λ_ _ _ h=>p_ h
end
def wS(W:Wo)(E:XK)(ρ:_h)(H:Hp)(D:Ends):e?->Prop
 |.nx μ st=>∀ρ' H' σ',aZ ρ H ρ' H'->SR W.K ρ' st H'->RS W ρ' H' μ σ'->D.nx σ' H'
 |.rt v st=>∀ρ' H' x,aZ ρ H ρ' H'->SR W.K ρ' st H'->Rl W.K ρ' H' v x->D.rt x H'
 |.bk μ st=>∀ρ' H' σ',aZ ρ H ρ' H'->SR W.K ρ' st H'->RS W ρ' H' μ σ'->D.bk σ' H'
 |.ct μ st=>∀ρ' H' σ',aZ ρ H ρ' H'->SR W.K ρ' st H'->RS W ρ' H' μ σ'->D.ct σ' H'
 |.er c _ st=>∃C,W.mg c=some (.ref C)/\∀ρ' H',aZ ρ H ρ' H'->SR W.K ρ' st H'->E (.ref C) none H'
 |.bad=>False
theorem wS.mono{W:Wo}{D:Ends}{r:e?}(h:wS W E ρ H D r)(e:aZ ρ H ρ' H'):wS W E ρ' H' D r:=by
 cases r with
 |nx μ st=>exact λρ2 H2 σ2 e2 s r=>h ρ2 H2 σ2 (e.trans e2) s r
 |rt v st=>exact λρ2 H2 x e2 s r=>h ρ2 H2 x (e.trans e2) s r
 |bk μ st=>exact λρ2 H2 σ2 e2 s r=>h ρ2 H2 σ2 (e.trans e2) s r
 |ct μ st=>exact λρ2 H2 σ2 e2 s r=>h ρ2 H2 σ2 (e.trans e2) s r
 |er c μ st=>obtain⟨C,h1,h2⟩:=h;exact⟨C,h1,λρ2 H2 e2 s=>h2 ρ2 H2 (e.trans e2) s⟩
 |bad=>exact h
def tS(X:Cx)(E:XK)(m:MB):TS:=λD σ H=>∃μ ρ st,RS (wo X) ρ H μ σ/\SR X.K ρ st H/\wS (wo X) E ρ H D (m μ st)
@[reducible] def eZ.sb(r:eZ α)(μ:Env)(k:α->af->e?):e?:=match r with
 |.ok a st=>k a st
 |.err c st=>.er c μ st
 |.bad=>.bad
theorem Bx{W:Wo}{R1:_h->Hp->α->β->Prop}{m:Env->af->eZ α}{k:α->af->e?}{D:Ends}{Q':β->Hp->Prop}(μ:Env)(ρ:_h)(st:af)(rs:RS W ρ H μ σ)(sr:SR W.K ρ st H)(h:wS W E ρ H D ((m μ st).sb μ k))(c:∀u st1 ρ1 H1 x,aZ ρ H ρ1 H1->SR W.K ρ1 st1 H1->R1 ρ1 H1 u x->wS W E ρ1 H1 D (k u st1)->Q' x H1):tG W E R1 m σ H Q':=by
 refine⟨μ,ρ,st,rs,sr,?_⟩;cases e:m μ st with
 |ok u st1=>
  rw[e]at h;intro ρ1 H1 x e1 dh r1;exact c u st1 ρ1 H1 x e1 dh r1 (wS.mono h e1)
 |err c st1=>rw[e]at h;exact h
 |bad=>rw[e]at h;exact h
def fF:MB:=λμ st=>.nx μ st
def ax(a b:MB):MB:=λμ st=>match a μ st with
 |.nx μ' aH=>b μ' aH
 |r=>r
def fg(m:ME):MB:=λμ st=>(m μ st).sb μ λ_ aH=>.nx μ aH
def bU(m:ME):MB:=λμ st=>(m μ st).sb μ λv aH=>.rt v aH
def sU(t:MT)(a b:MB):MB:=λμ st=>(t μ st).sb μ λk aH=>match k with
 |true=>a μ aH
 |false=>b μ aH
def aJ(i:Nat)(m:ME):MB:=λμ st=>(m μ st).sb μ λv aH=>.nx (μ.set i (some v)) aH
def m9(c:Str)(m:MA):MB:=λμ st=>(m μ st).sb μ λvs aH=>if vs.length<=sizeLine then .er c μ aH else .bad
section
variable{pos:Pos}{s1:Stmt}{rest:List Stmt}{e:Expr}{m:ME}{a b:MB}
theorem Pu:oV X [] (tS X E fF):=oV.imp Kp λD σ H⟨μ,ρ,st,rs,sr,h⟩=>h ρ H σ (aZ.refl _ _) sr rs
theorem DD(h1:PS X s1 (tS X E a))(h2:oV X rest (tS X E b)):oV X (s1::rest) (tS X E (ax a b)):=by
 refine oV.imp (GK h1 h2) ?_;rintro D σ H ⟨μ,ρ,st,rs,sr,h⟩;refine⟨μ,ρ,st,rs,sr,?_⟩;unfold ax at h;cases e:a μ st with
 |nx μ' aH=>
  rw[e]at h;intro ρ1 H1 σ1 e1 dh Ry;exact⟨μ',ρ1,aH,Ry,dh,wS.mono h e1⟩
 |rt v aH=>rw[e]at h;exact h
 |bk μ' aH=>rw[e]at h;exact h
 |ct μ' aH=>rw[e]at h;exact h
 |er c μ' aH=>rw[e]at h;exact h
 |bad=>rw[e]at h;exact h
theorem Hw(h1:PS X s1 (tS X E a)):oV X [s1] (tS X E a):=Kq h1
theorem Ln(he:PE X e (tE X E m))(hs:swapsWith e none pos.line X.env=pure false:=by rfl):PS X (.Expr e pos) (tS X E (fg m)):=by refine PS.imp (Kr he hs) ?_;rintro D σ H ⟨μ,ρ,st,rs,sr,h⟩;exact Bx μ ρ st rs sr h λu st1 ρ1 H1 x e1 dh r1 h1=>h1 ρ1 H1 σ (aZ.refl _ _) dh (rs.mono e1)
theorem Pw(he:PE X e (tE X E m)):PS X (.Return (some e) pos) (tS X E (bU m)):=by refine PS.imp (Om he) ?_;rintro D σ H ⟨μ,ρ,st,rs,sr,h⟩;exact Bx μ ρ st rs sr h λu st1 ρ1 H1 x e1 dh r1 h1=>h1 ρ1 H1 x (aZ.refl _ _) dh r1
theorem Tv{c:Expr}{sa sb:List Stmt}{t:MT}(hc:PT X c (tT X E t))(ha:oV X sa (tS X E a))(hb:oV X sb (tS X E b)):PS X (.If c sa sb pos) (tS X E (sU t a b)):=by
 refine PS.imp (Sd hc ha hb) ?_;rintro D σ H ⟨μ,ρ,st,rs,sr,h⟩;refine Bx (R1:=RB) μ ρ st rs sr h λu st1 ρ1 H1 x e1 dh r1 h1=>?_;cases r1;cases u with
 |true=>rw[Vs rfl];exact⟨μ,ρ1,st1,rs.mono e1,dh,h1⟩
 |false=>rw[VE VY];exact⟨μ,ρ1,st1,rs.mono e1,dh,h1⟩
theorem Ay{i:Nat}{D:Ends}(h:tS X E (aJ i m) D σ H):Kw (tE X E m) (Ac i) D σ H:=by obtain⟨μ,ρ,st,rs,sr,h⟩:=h;exact Bx μ ρ st rs sr h λu st1 ρ1 H1 x e1 dh r1 h1=>h1 ρ1 H1 _ (aZ.refl _ _) dh ((rs.mono e1).set i r1)
theorem Px(i:Nat)(hN:X.N.Nodup)(he:PE X e (tE X E m))(hi:X.N[i]?=some x:=by rfl)(hx:Loc X.env.scope x:=by first|exact Or.inl rfl|exact Or.inr rfl)(hs:swapsWith e (some (.Name x pos')) pos.line X.env=pure false:=by rfl)(hf:X.fn x=true\/X.env.scope.names.lookup x=some .local:=by first|exact .inl rfl|exact .inr rfl|assumption):PS X (.Assign [.Name x pos'] e pos) (tS X E (aJ i m)):=
 PS.imp (Ow hN hi hx he hs hf) λ_ _ _ h=>Ay h
theorem Hx{B B2:String}{bm:_e}{np:Pos}{ms:MA}(hX:Raises X E)(hc:X.calm=true)(hm:X.mg x=some (.ref C))(hq:W.excIn X.K C bm newId=true)(FB:ExcBaseFacts B newId B2 bm)(hg:Gl X x)(ha:PA X (e₀::es) (tL X E ms))(he:starEach (e₀::es) X.env=(false,eval e₀ X.env)::starEach es X.env:=by rfl)(sM:(backTo dN (starEach es X.env)).any (·.1)=false:=by rfl)(hd:(x==("__debug__":Str))=false:=by decide):
  PS X (.Raise (some (.Call (.Name x np) (e₀::es) [] dN)) none pos) (tS X E (m9 x ms)):=by
 refine PS.imp (Hn (E:=E) hX hc hm hq FB hg ha he sM hd) ?_;rintro D σ H ⟨μ,ρ,st,rs,sr,h⟩;refine Bx (R1:=bu X.K) μ ρ st rs sr h λus st1 ρ1 H1 xs e1 dh r1 h1=>?_;by_cases hz:us.length<=sizeLine
 .rw[Vs hz]at h1;obtain⟨C',q1,q2⟩:=h1;have e:C'=C:=by have:=q1.symm.trans hm;injection this with this;injection this
  subst e;exact⟨by rw[<-r1.length];exact hz,q2 ρ1 H1 (aZ.refl _ _) dh⟩
 .rw[VE hz]at h1;exact h1.elim
end
def ij(np n:Nat)(body:MB):FN:=λus st=>if us.length=np then(match body (us.map some++List.replicate (n-np) none) st with
 |.nx _ aH=>.ok .dD aH
 |.rt v aH=>.ok v aH
 |.er c _ aH=>.err c aH
 |_=>.bad)else .bad
theorem RS.start{W:Wo}{us:List aj}{vs:List V}(r:bu W.K ρ H us vs):RS W ρ H (us.map some++List.replicate (N.length-us.length) none) (L2.start N vs):=by
 have hl:=r.length;refine⟨by simp[L2.start,hl],λi u e=>?_⟩;rcases WD i us.length with q|q
 .rw[V4 (by rw[Vj];exact q),Vu]at e;have e':us[i]?=some u:=by
   cases z:us[i]? with
   |none=>rw[z]at e;cases e
   |some w=>rw[z]at e;exact WR _ (VU (VU e))
  obtain⟨v,h1,h2⟩:=r.get e';refine⟨v,?_,Hu.of h2⟩;unfold L2.start;rw[V4 (by rw[Vj,<-hl];exact q),Vu,h1];rfl
 .rw[V3 (by rw[Vj];exact q)]at e;rw[W6]at e;split at e
  .cases e
  .cases e
section
variable{w:World}{K:_c}{mg:_a}
theorem Hy{st:Stmt}{f:_l}{fd:FuncData}{body:MB}(F:G7 K x qual st f fd)(S:iz N ps (bb st))
  (h:∀ (h_:_j) (A:_m) (outer:List PySem.Env) (s:_k) (H:Hp) (E:XK),gk k (A.deeper (envOfC qual (bb st) s.heap.objs.size f h_)) ->
   oV (jk (p9 P w) P w K mg base N qual (bb st) f h_ A outer s H E) (dZ st) (tS (jk (p9 P w) P w K mg base N qual (bb st) f h_ A outer s H E) E body)):
  uY P w K mg base (p9 P w) (k+1) f fd ps (Pr ⟨K,mg,[]⟩ (ij ps.length N.length body)):=by
 refine F.okX S (λvs H Q E q=>?_) (λh_ A outer s H vs Q E hr q=>⟨_,h h_ A outer s H E hr,?_⟩)
 .obtain⟨us,ρ,st,r,sr,q⟩:=q;by_cases hl:us.length=ps.length
  .rw[<-r.length];exact hl
  .unfold ij at q;rw[VE hl]at q;exact q.elim
 .obtain⟨us,ρ,aH,r,sr,q⟩:=q;unfold ij at q;by_cases hl:us.length=ps.length
  .rw[Vs hl,<-hl]at q;refine⟨_,ρ,aH,RS.start r,sr,?_⟩;revert q;cases body (us.map some++List.replicate (N.length-us.length) none) aH with
   |nx μ b8=>exact λq ρ' H' σ' e s _=>q ρ' H' .dD e s Rl.Au
   |rt v b8=>exact λq=>q
   |er c μ b8=>exact λq=>q
   |bk μ b8=>exact λq=>q.elim
   |ct μ b8=>exact λq=>q.elim
   |bad=>exact λq=>q.elim
  .rw[VE hl]at q;exact q.elim
end
def Sz(i:Int):Prop:=i.natAbs.log2<1000000
instance (i:Int):Decidable (Sz i):=inferInstanceAs (Decidable (_<_))
theorem Sz.big{i:Int}(h:Sz i):tO 1000001 i:=by show _<_;have h1:i.natAbs<2 ^ (i.natAbs.log2+1):=Z5;exact VT h1 (Xs (by decide) (by have:i.natAbs.log2<1000000:=h;lia))
theorem Sz.of{i:Int}(h:tO k i)(hk:k<=1000000):Sz i:=by
 show i.natAbs.log2<1000000;have h':i.natAbs<2 ^ k:=h;by_cases z:i.natAbs=0
 .rw[z];decide
 .exact VT ((YW z).mpr h') hk
theorem Sz.mul{i:Int}(h:Sz i)(k:Sz j):Dr i j:=⟨_,_,h.big,k.big,by decide,by decide⟩
def Dz(i:Int):Prop:=i≠0/\i.natAbs.log2<8000
instance (i:Int):Decidable (Dz i):=inferInstanceAs (Decidable (_/\_))
theorem Dz.ok{i:Int}(h:Dz j):Ds i j:=by refine⟨h.1,?_⟩;show _<_;have h1:j.natAbs<2 ^ (j.natAbs.log2+1):=Z5;exact VT h1 (Xs (by decide) (by have:=h.2;lia))
theorem Dz.of{i:Int}(h0:i≠0)(h:tO k i)(hk:k<=8000):Dz i:=by refine⟨h0,?_⟩;have h':i.natAbs<2 ^ k:=h;exact VT ((YW (by lia)).mpr h') hk
def MulOk(i j:Int):Prop:=(Sz i/\Sz j)\/GQ i j
instance (i j:Int):Decidable (GQ i j):=inferInstanceAs (Decidable (_\/_))
instance (i j:Int):Decidable (MulOk i j):=inferInstanceAs (Decidable (_\/_))
instance (i j:Int):Decidable (GP i j):=inferInstanceAs (Decidable (_/\_/\_))
def xO(k:Nat)(us:List aj):List aj:=(List.replicate k us).flatten
def cS:F2
 |.int i,.int j,st=>.ok (.int (i+j)) st
 |.str a,.str b,st=>if a.length+b.length<=sizeLine then .ok (.str (a++b)) st else .bad
 |.tup us,.tup ws,st=>if us.length+ws.length<=sizeLine then .ok (.tup (us++ws)) st else .bad
 |.loc n,.loc m,st=>match st[n]?,st[m]? with
  |some (.lst us),some (.lst ws)=>if us.length+ws.length<=sizeLine then .ok (.loc st.length) (st++[.lst (us++ws)])else .bad
  |_,_=>.bad
 |_,_,_=>.bad
def tU(g:Int->Int->af->eZ aj):F2
 |.int i,.int j,st=>g i j st
 |_,_,_=>.bad
theorem Lo(g:Int->Int->af->eZ aj)(u w:aj)(st:af):(∃i j,u=.int i/\w=.int j)\/tU g u w st=.bad:=by
 cases u with
 |int i=>
  cases w with
  |int j=>exact .inl ⟨i,j,rfl,rfl⟩
  |_=>exact .inr rfl
 |_=>exact .inr rfl
theorem iE{g:Int->Int->af->eZ aj}{W:Wo}{st:af}{u w:aj}(h:wR W E (Rl W.K) ρ H Q (tU g u w st)):∃i j,u=.int i/\w=.int j/\wR W E (Rl W.K) ρ H Q (g i j st):=by
 rcases Lo g u w st with⟨i,j,rfl,rfl⟩|z
 .exact⟨i,j,rfl,rfl,h⟩
 .rw[z]at h;exact h.elim
def gJ:F2:=tU λi j st=>.ok (.int (i-j)) st
def bX:F2
 |.int i,.int j,st=>if MulOk i j then .ok (.int (i*j)) st else .bad
 |.loc n,.int k,st=>match st[n]? with
  |some (.lst us)=>if -(2 ^ 63)<=k/\k<2 ^ 63/\us.length*k.toNat<=sizeLine then .ok (.loc st.length) (st++[.lst (xO k.toNat us)])else .bad
  |_=>.bad
 |_,_,_=>.bad
def p?:F2:=tU λi j st=>if Dz j then .ok (.int (i.fdiv j)) st else .bad
def f_:F2:=tU λi j st=>if j=0 then .bad else .ok (.int (i.fmod j)) st
def Lp:F2:=tU λi j st=>if GP i j then .ok (.int (i ^ j.toNat)) st else .bad
def ltV:F2:=tU λi j st=>.ok (.bl (decide (i<j))) st
def leV:F2:=tU λi j st=>.ok (.bl (decide (i<=j))) st
def vf:F2:=tU λi j st=>.ok (.bl (decide (j<i))) st
def geV:F2:=tU λi j st=>.ok (.bl (decide (j<=i))) st
theorem fI{W:Wo}{st:af}{i:Int}(sr:SR W.K ρ st H)(h:wR W E (Rl W.K) ρ H Q (.ok (.int i) st)):Q (.int i) H:=h ρ H _ (aZ.refl _ _) sr (Rl.mkInt i)
theorem ic{W:Wo}{st:af}{i:Bool}(sr:SR W.K ρ st H)(h:wR W E (Rl W.K) ρ H Q (.ok (.bl i) st)):Q (.bl i) H:=h ρ H _ (aZ.refl _ _) sr (Rl.Hr i)
theorem bu.Tw{K:_c}{us:List aj}{xs:List V}(r:bu K ρ H us xs):∀k:Nat,bu K ρ H (xO k us) (List.replicate k xs).flatten
 |0=>bu.nil
 |k+1=>by unfold xO;rw[VN,VN,XE,XE];exact r.append (bu.Tw r k)
theorem Hz:fV X (binaryOp .Add) (λx y H Q=>∃a b ys,x=.ref a/\y=.ref b/\oW X.K H a []/\oW X.K H b ys/\Q (.ref b) H):=by
 intro ae s σ H x y v u Q I rx ry h;obtain⟨a,b,ys,rfl,rfl,ha,hb,q⟩:=h;cases rx;cases ry;obtain⟨aN,r1,p1,_⟩:=I.tuple ha;obtain⟨e!,r2,p2,_⟩:=I.tuple hb;cases r1;obtain⟨⟨cls,dd,data,sl⟩,ho,hc,n,hd⟩:=id p1;obtain⟨⟨aay,Ve,data2,SG⟩,Gz,Ai,n2,hd2⟩:=id p2;simp only at hc hd Ai hd2;subst hc hd Ai hd2;exact Z2 ⟨_,ho,rfl⟩ ⟨_,Gz,rfl⟩ Zc ZL Yh Yd (Ya _ _)
  (tuple_addW0 a b #[] e!.toArray n n2 dd Ve sl SG (by simp)) ⟨ho,Gz,⟨.ref b,H,I,rfl,q⟩⟩
theorem Lq:fV X (binaryOp .Add) (rM (wo X) E cS):=by
 refine fV.imp (fV.or OC (fV.or BI (fV.or OY (fV.or KY Hz)))) ?_;rintro x y H Q ⟨ρ,st,u,w,sr,r1,r2,h⟩;cases u<;>cases w<;>try exact h.elim
 case int.int i j=>exact .inl ⟨i,j,r1.cy,r2.cy,fI sr h⟩
 case str.str a b=>
  unfold cS at h;dsimp only at h;split at h
  .rename_i hz;exact .inr (.inl ⟨a,b,r1.mJ,r2.mJ,hz,h ρ H _ (aZ.refl _ _) sr (Rl.mkStr _)⟩)
  .exact h.elim
 case tup.tup us ws=>
  unfold cS at h;dsimp only at h;split at h
  .rename_i hz;obtain⟨a,xs,rfl,ha,ra⟩:=r1.i';obtain⟨b,ys,rfl,hb,rb⟩:=r2.i';by_cases hx:xs=[]
   .subst hx;have hu:us=[]:=Wr ra.length;subst hu;exact .inr (.inr (.inr (.inr ⟨a,b,ys,rfl,rfl,ha,hb,h ρ H _ (aZ.refl _ _) sr r2⟩)))
   .refine .inr (.inr (.inr (.inl ⟨a,b,xs,ys,rfl,rfl,ha,hb,hx,by rw[<-ra.length,<-rb.length];exact hz,λhy=>?_,λhy p hp=>?_⟩)))
    .subst hy;have hw:ws=[]:=Wr rb.length;subst hw;rw[Wi]at h;exact h ρ H _ (aZ.refl _ _) sr r1
    .have s:=fe (o:=.tup (xs++ys)) hp;exact h ρ _ _ (aZ.same s) (sr.grow s) (Rl.xK b_ (bu.mono (aZ.same s) _ _ (ra.append rb)))
  .exact h.elim
 case loc.loc n m=>
  unfold cS at h;dsimp only at h;split at h
  .rename_i us ws e1 e2;split at h
   .rename_i hz;obtain⟨a,rfl,ha⟩:=r1.fQ;obtain⟨b,rfl,hb⟩:=r2.fQ;obtain⟨xs,h1,q1⟩:=sr.cell n _ a e1 ha;obtain⟨ys,h2,q2⟩:=sr.cell m _ b e2 hb;refine .inr (.inr (.inl ⟨a,b,xs,ys,rfl,rfl,h1,h2,by rw[<-q1.length,<-q2.length];exact hz,λp hp=>?_⟩));obtain⟨k1,k2,k3⟩:=iB sr (q1.append q2) hp;exact h _ _ _ k1 k2 k3
   .exact h.elim
  .exact h.elim
theorem Lr:fV X (binaryOp .Sub) (rM (wo X) E gJ):=by refine fV.imp OD ?_;rintro x y H Q ⟨ρ,st,u,w,sr,r1,r2,h⟩;obtain⟨i,j,rfl,rfl,q⟩:=iE h;exact⟨i,j,r1.cy,r2.cy,fI sr q⟩
theorem Ls:fV X (binaryOp .Mult) (rM (wo X) E bX):=by
 refine fV.imp (fV.or K! (fV.or OE OZ)) ?_;rintro x y H Q ⟨ρ,st,u,w,sr,r1,r2,h⟩;cases u<;>cases w<;>try exact h.elim
 case int.int i j=>
  unfold bX at h;dsimp only at h;split at h
  .rename_i hz;rcases hz with hz|hz
   .exact .inl ⟨i,j,r1.cy,r2.cy,hz.1.mul hz.2,fI sr h⟩
   .exact .inr (.inl ⟨i,j,r1.cy,r2.cy,hz,fI sr h⟩)
  .exact h.elim
 case loc.int n k=>
  unfold bX at h;dsimp only at h;split at h
  .rename_i us e1;split at h
   .rename_i hz;obtain⟨a,rfl,ha⟩:=r1.fQ;obtain⟨xs,h1,q1⟩:=sr.cell n _ a e1 ha;refine .inr (.inr ⟨a,k,xs,rfl,r2.cy,h1,hz.1,hz.2.1,by rw[<-q1.length];exact hz.2.2,λp hp=>?_⟩);obtain⟨k1,k2,k3⟩:=iB sr (q1.Tw k.toNat) hp;exact h _ _ _ k1 k2 k3
   .exact h.elim
  .exact h.elim
theorem HA:fV X (binaryOp .FloorDiv) (rM (wo X) E p?):=by
 refine fV.imp Hd ?_;rintro x y H Q ⟨ρ,st,u,w,sr,r1,r2,h⟩;obtain⟨i,j,rfl,rfl,h0⟩:=iE h;clear h;have h:=h0;clear h0
 .split at h
  .rename_i hz;exact⟨i,j,r1.cy,r2.cy,hz.ok,fI sr h⟩
  .exact h.elim
theorem Lu:fV X (binaryOp .Mod) (rM (wo X) E f_):=by
 refine fV.imp KD ?_;rintro x y H Q ⟨ρ,st,u,w,sr,r1,r2,h⟩;obtain⟨i,j,rfl,rfl,h0⟩:=iE h;clear h;have h:=h0;clear h0
 .split at h
  .exact h.elim
  .rename_i hz;exact⟨i,j,r1.cy,r2.cy,hz,fI sr h⟩
theorem Lx:fV X (binaryOp .Pow) (rM (wo X) E Lp):=by
 refine fV.imp OF ?_;rintro x y H Q ⟨ρ,st,u,w,sr,r1,r2,h⟩;obtain⟨i,j,rfl,rfl,h0⟩:=iE h;clear h;have h:=h0;clear h0
 .split at h
  .rename_i hz;exact⟨i,j,r1.cy,r2.cy,hz,fI sr h⟩
  .exact h.elim
theorem HB:fV X (compareOp .Lt) (rM (wo X) E ltV):=by refine fV.imp Ss ?_;rintro x y H Q ⟨ρ,st,u,w,sr,r1,r2,h⟩;obtain⟨i,j,rfl,rfl,q⟩:=iE h;exact⟨i,j,r1.cy,r2.cy,ic sr q⟩
theorem HC:fV X (compareOp .LtE) (rM (wo X) E leV):=by refine fV.imp Su ?_;rintro x y H Q ⟨ρ,st,u,w,sr,r1,r2,h⟩;obtain⟨i,j,rfl,rfl,q⟩:=iE h;exact⟨i,j,r1.cy,r2.cy,ic sr q⟩
theorem HD:fV X (compareOp .Gt) (rM (wo X) E vf):=by refine fV.imp Sv ?_;rintro x y H Q ⟨ρ,st,u,w,sr,r1,r2,h⟩;obtain⟨i,j,rfl,rfl,q⟩:=iE h;exact⟨i,j,r1.cy,r2.cy,ic sr q⟩
theorem HE:fV X (compareOp .GtE) (rM (wo X) E geV):=by refine fV.imp Sw ?_;rintro x y H Q ⟨ρ,st,u,w,sr,r1,r2,h⟩;obtain⟨i,j,rfl,rfl,q⟩:=iE h;exact⟨i,j,r1.cy,r2.cy,ic sr q⟩
def ja(m:ME):ME:=λμ st=>(m μ st).bind λv aH=>match v with
 |.int i=>.ok (.int (-i)) aH
 |_=>.bad
theorem Py{a:Expr}{m:ME}{pos:Pos}(h:PE X a (tE X E m)):PE X (.UnaryOp .USub a pos) (tE X E (ja m)):=by
 refine PE.imp (Sq OG h) ?_;rintro σ H Q ⟨μ,ρ,st,rs,sr,h⟩;refine go μ ρ st rs sr h λu st1 ρ1 H1 x e1 dh r1 h1=>?_;cases u with
 |int i=>exact⟨i,r1.cy,fI dh h1⟩
 |_=>exact h1.elim
def flat:aj->Bool
 |.dD=>true
 |.bl _=>true
 |.int _=>true
 |.str _=>true
 |_=>false
def Pz:aj->aj->Bool
 |.dD,.dD=>true
 |.bl a,.bl b=>a==b
 |.bl a,.int b=>(if a then 1 else 0)==b
 |.int a,.bl b=>a==(if b then 1 else 0)
 |.int a,.int b=>a==b
 |.str a,.str b=>a==b
 |_,_=>false
def ar(st:af)(n:Nat):Option (List aj):=match st[n]? with
 |some (.lst us)=>some us
 |some (.Pe us)=>some us
 |some (.mod us)=>some us
 |_=>none
inductive Vw where
 |lst (us:List aj)|tup (us:List aj)|uq
def vw(st:af):aj->Option Vw
 |.tup us=>some (.tup us)
 |.loc n=>(ar st n).map .lst
 |.dD=>some .uq
 |.bl _=>some .uq
 |.int _=>some .uq
 |.str _=>some .uq
 |_=>none
def oN(f:aj->aj->Option Bool):List aj->List aj->Option Bool
 |[],[]=>some true
 |x::xs,y::ys=>match f x y,oN f xs ys with
  |some a,some b=>some (a&&b)
  |_,_=>none
 |[],_::_=>some false
 |_::_,[]=>some false
def uz:Nat->af->aj->aj->Option Bool
 |0,_,_,_=>none
 |n+1,st,u,w=>match vw st u,vw st w with
  |some (.tup us),some (.tup ws)=>oN (uz n st) us ws
  |some (.lst us),some (.lst ws)=>oN (uz n st) us ws
  |some .uq,some .uq=>some (Pz u w)
  |some _,some _=>some false
  |_,_=>none
theorem vg{f:aj->aj->Option Bool}:∀{us ws:List aj}{b:Bool},oN f us ws=some b->us.length≠ws.length->b=false
 |[],[],_,_,h=>absurd rfl h
 |[],_::_,b,e,_=>by injection e with e;exact e.symm
 |_::_,[],b,e,_=>by injection e with e;exact e.symm
 |x::xs,y::ys,b,e,h=>by
  unfold oN at e;split at e
  .rename_i a c h1 h2;injection e with e;rw[<-e,vg h2 (λz=>h (by simp[z])),Y?]
  .cases e
theorem DE{f:aj->aj->Option Bool}:∀{us ws:List aj}{b:Bool},oN f us ws=some b->∀(j:Nat)(u w:aj),us[j]?=some u->ws[j]?=some w->∃c,f u w=some c
 |[],_,_,_,j,u,w,h1,_=>by cases h1
 |_::_,[],_,_,j,u,w,_,h2=>by cases h2
 |x::xs,y::ys,b,e,j,u,w,h1,h2=>by
  unfold oN at e;split at e
  .rename_i a c q1 q2;cases j with
   |zero=>cases h1;cases h2;exact⟨a,q1⟩
   |succ j=>exact DE q2 j u w h1 h2
  .cases e
def eqJ(f:aj->aj->Option Bool)(us ws:List aj)(j:Nat):Bool:=match us[j]?,ws[j]? with
 |some u,some w=>(f u w).getD true
 |_,_=>true
theorem vh{f:aj->aj->Option Bool}:∀{us ws:List aj}{b:Bool},oN f us ws=some b->us.length=ws.length->(List.range us.length).all (eqJ f us ws)=b
 |[],[],b,e,_=>by injection e
 |[],_::_,_,_,h=>by simp at h
 |_::_,[],_,_,h=>by simp at h
 |x::xs,y::ys,b,e,h=>by
  have h':xs.length=ys.length:=by simpa using h
  unfold oN at e;split at e
  .rename_i a c q1 q2;injection e with e;rw[Vl,List.range_succ_eq_map,Yo,List.all_map,<-e,<-vh q2 h'];congr 1;show(f x y).getD true=a;rw[q1];rfl
  .cases e
section
variable{st:af}
theorem bA(sr:SR X.K ρ st H){n:Nat}{us:List aj}{a:_l}(h:ar st n=some us)(ha:ρ[n]?=some a):∃vs,oy X.K H a vs/\bu X.K ρ H us vs:=by
 unfold ar at h;split at h
 .rename_i ws e;cases h;obtain⟨vs,h1,h2⟩:=sr.cell n _ a e ha;exact⟨vs,oy.of h1,h2⟩
 .rename_i ws e;cases h;obtain⟨o,vs,h1,h2⟩:=sr.cell n _ a e ha;exact⟨vs,.inl (.inr ⟨o,h1⟩),h2⟩
 .rename_i ws e;cases h;obtain⟨vs,h1,h2⟩:=sr.cell n _ a e ha;exact⟨vs,.inr h1,h2⟩
 .cases h
theorem DF(I:a9 X ae σ H s)(sr:SR X.K ρ st H):∀(n:Nat)(u w:aj)(x:V)(b:Bool),Rl X.K ρ H u x->Rl X.K ρ H w x->uz n st u w=some b->b=true
 |0,_,_,_,_,_,_,e=>by cases e
 |n+1,u,w,x,b,r1,r2,e=>by
  have lst:∀(us ws:List aj)(vs:List V)(b:Bool),bu X.K ρ H us vs->bu X.K ρ H ws vs->oN (uz n st) us ws=some b->b=true:=by
   intro us
   induction us with
   |nil=>
    intro ws vs b h1 h2 e;have:=h1.gB;subst this;have hw:ws=[]:=Wr h2.length;subst hw;injection e with e;exact e.symm
   |cons u us ih=>
    intro ws vs b h1 h2 e;obtain⟨v,r,rfl,q1,q2⟩:=h1.cW;cases ws with
    |nil=>have:=h2.gB;cases this
    |cons w ws=>
     obtain⟨v',r',e',q3,q4⟩:=h2.cW;cases e';unfold oN at e;split at e
     .rename_i a c z1 z2;injection e with e;rw[<-e,DF I sr n u w v a q1 q3 z1,ih ws r c q2 q4 z2];rfl
     .cases e
  unfold uz at e;cases u<;>cases w<;>dsimp only[vw]at e<;>try (cases e;done)
  all_goals first
   |(have z1:=Rl.cy r1;subst z1;have z2:=Rl.cy r2;cases z2;injection e with e;rw[<-e];exact Xl _)
   |(have z1:=Rl.xa r1;subst z1;have z2:=Rl.xa r2;cases z2;injection e with e;rw[<-e];exact Xl _)
   |(have z1:=Rl.mJ r1;subst z1;have z2:=Rl.mJ r2;cases z2;injection e with e;rw[<-e];exact Xl _)
   |(have z1:=Rl.mK r1;subst z1;injection e with e;exact e.symm)
   |skip
  case tup.tup us ws=>
   obtain⟨a,vs,rfl,ha,ra⟩:=r1.i';obtain⟨a',PB,ea,hb,rb⟩:=r2.i';cases ea;have:=I.q! ha hb;subst this;exact lst us ws vs b ra rb e
  case loc.loc i j=>
   obtain⟨a,rfl,ha⟩:=r1.fQ;obtain⟨a',ea,hb⟩:=r2.fQ;cases ea;cases z:ar st i with
   |none=>rw[z]at e;cases e
   |some us=>
    cases z2:ar st j with
    |none=>rw[z,z2]at e;cases e
    |some ws=>
     rw[z,z2]at e;obtain⟨vs,s1,rv⟩:=bA sr z ha;obtain⟨PB,s2,rv'⟩:=bA sr z2 hb;have:=I.p4 s1 s2;subst this;exact lst us ws vs b rv rv' e
  all_goals (exfalso;first
   |(have z1:=Rl.cy r1;subst z1;first|(have z2:=Rl.xa r2;cases z2;done)|(have z2:=Rl.mJ r2;cases z2;done)|(have z2:=Rl.mK r2;cases z2;done)|(obtain⟨_,_,z2,_⟩:=r2.i';cases z2;done)|(obtain⟨_,z2,_⟩:=r2.fQ;cases z2;done))
   |(have z1:=Rl.xa r1;subst z1;first|(have z2:=Rl.cy r2;cases z2;done)|(have z2:=Rl.mJ r2;cases z2;done)|(have z2:=Rl.mK r2;cases z2;done)|(obtain⟨_,_,z2,_⟩:=r2.i';cases z2;done)|(obtain⟨_,z2,_⟩:=r2.fQ;cases z2;done))
   |(have z1:=Rl.mJ r1;subst z1;first|(have z2:=Rl.cy r2;cases z2;done)|(have z2:=Rl.xa r2;cases z2;done)|(have z2:=Rl.mK r2;cases z2;done)|(obtain⟨_,_,z2,_⟩:=r2.i';cases z2;done)|(obtain⟨_,z2,_⟩:=r2.fQ;cases z2;done))
   |(have z1:=Rl.mK r1;subst z1;first|(have z2:=Rl.cy r2;cases z2;done)|(have z2:=Rl.xa r2;cases z2;done)|(have z2:=Rl.mJ r2;cases z2;done)|(obtain⟨_,_,z2,_⟩:=r2.i';cases z2;done)|(obtain⟨_,z2,_⟩:=r2.fQ;cases z2;done))
   |(obtain⟨_,_,z1,_⟩:=r1.i';subst z1;first|(have z2:=Rl.cy r2;cases z2;done)|(have z2:=Rl.xa r2;cases z2;done)|(have z2:=Rl.mJ r2;cases z2;done)|(have z2:=Rl.mK r2;cases z2;done))
   |(obtain⟨_,z1,_⟩:=r1.fQ;subst z1;first|(have z2:=Rl.cy r2;cases z2;done)|(have z2:=Rl.xa r2;cases z2;done)|(have z2:=Rl.mJ r2;cases z2;done)|(have z2:=Rl.mK r2;cases z2;done))
   |skip)
  case tup.loc us j=>
   obtain⟨a,vs,rfl,ha,ra⟩:=r1.i';obtain⟨a',ea,hb⟩:=r2.fQ;cases ea;cases z:ar st j with
   |none=>rw[z]at e;cases e
   |some us'=>
    obtain⟨ws,hw,_⟩:=bA sr z hb;obtain⟨_,_,p1,_⟩:=I.tuple ha;obtain⟨_,_,p2,_⟩:=I.list hw;exact Z3 p2.isList p1 rfl
  case loc.tup i us=>
   obtain⟨a,rfl,ha⟩:=r1.fQ;obtain⟨a',vs,ea,hb,rb⟩:=r2.i';cases ea;cases z:ar st i with
   |none=>rw[z]at e;cases e
   |some us'=>
    obtain⟨ws,hw,_⟩:=bA sr z ha;obtain⟨_,_,p1,_⟩:=I.tuple hb;obtain⟨_,_,p2,_⟩:=I.list hw;exact Z3 p2.isList p1 rfl
  all_goals (cases z:ar st _<;>rw[z]at e<;>cases e)
def HF(X:Cx)(ρ:_h)(H:Hp)(s:_k):Vw->aj->_j->Prop
 |.tup us,_,v=>∃a aN vs,v=.ref a/\s.heap.IsTuple a (List.toArray aN)/\bt vs aN/\bu X.K ρ H us vs
 |.lst us,_,v=>∃a aN vs,v=.ref a/\s.heap.IsList a (List.toArray aN)/\bt vs aN/\bu X.K ρ H us vs
 |.uq,u,v=>(u=.dD/\v=.none)\/(∃b,u=.bl b/\v=.bool b)\/(∃i t,u=.int i/\v=.int i t)\/(∃z t,u=.str z/\v=.str z t)
theorem seen(I:a9 X ae σ H s)(sr:SR X.K ρ st H){u:aj}{x:V}{v:_j}{k:Vw}(r:Rl X.K ρ H u x)(q:bM x v)(h:vw st u=some k):HF X ρ H s k u v:=by
 cases u with
 |dD=>cases h;have:=r.mK;subst this;exact .inl ⟨rfl,q⟩
 |bl b=>cases h;have:=r.xa;subst this;exact .inr (.inl ⟨b,rfl,q⟩)
 |int i=>cases h;have:=r.cy;subst this;obtain⟨t,q⟩:=q;exact .inr (.inr (.inl ⟨i,t,rfl,q⟩))
 |str z=>cases h;have:=r.mJ;subst this;obtain⟨t,q⟩:=q;exact .inr (.inr (.inr ⟨z,t,rfl,q⟩))
 |tup us=>
  cases h;obtain⟨a,vs,rfl,ha,ra⟩:=r.i';obtain⟨aN,r1,p1,_⟩:=I.tuple ha;exact⟨a,aN,vs,q,p1,r1,ra⟩
 |loc n=>
  obtain⟨a,rfl,ha⟩:=r.fQ;cases z:ar st n with
  |none=>simp only[vw,z]at h;cases h
  |some us=>
   simp only[vw,z]at h;cases h;obtain⟨vs,hs,rv⟩:=bA sr z ha;obtain⟨aN,r1,p1,_⟩:=I.list hs;exact⟨a,aN,vs,q,p1.isList,r1,rv⟩
 |exc c=>cases h
 |fn k c=>cases h
 |mt us=>cases h
theorem HG{f:aj->aj->Option Bool}{us ws:List aj}{xs ys:List V}{e!:_e}{b:Bool}(e:oN f us ws=some b)(ra:bu X.K ρ H us xs)(rb:bu X.K ρ H ws ys)(va:bt xs aN)(vb:bt ys e!)(ih:∀u w x y vu vw c,Rl X.K ρ H u x->bM x vu->Rl X.K ρ H w y->bM y vw->f u w=some c->SeqAt.EqAt A s vu vw c):
  ∀j(h1:j<aN.toArray.size)(h2:j<e!.toArray.size),SeqAt.EqAt A s aN.toArray[j] e!.toArray[j] (eqJ f us ws j):=by
 intro j h1 h2;have l1:=va.length;have l2:=vb.length;have l3:=ra.length;have l4:=rb.length;simp only[VG]at h1 h2;have e1:us[j]?=some us[j]:=Vo (by lia);have e2:ws[j]?=some ws[j]:=Vo (by lia);obtain⟨x,hx,rx⟩:=ra.get e1;obtain⟨y,hy,ry⟩:=rb.get e2;obtain⟨u,hu,ru⟩:=va.get hx;obtain⟨v,hv,rv⟩:=vb.get hy;have q1:aN.toArray[j]=u:=by obtain⟨_,e⟩:=VM.mp hu;simpa using e
 have q2:e!.toArray[j]=v:=by obtain⟨_,e⟩:=VM.mp hv;simpa using e
 obtain⟨c,hc⟩:=DE e j _ _ e1 e2;rw[q1,q2];unfold eqJ;rw[e1,e2];dsimp only;rw[hc];exact ih _ _ _ _ _ _ c rx ru ry rv hc
theorem in1_units(A:_m):A.in1.units=A.units+1:=by rfl
theorem PD(I:a9 X ae σ H s)(sr:SR X.K ρ st H)(n:Nat)(ih:∀u w x y vu vw c,Rl X.K ρ H u x->bM x vu->Rl X.K ρ H w y->bM y vw->uz n st u w=some c->SeqAt.EqAt A.in1 s vu vw c)(hu:A.units<cLine){u w:aj}{x y:V}{v1 v2:_j}{b:Bool}(r1:Rl X.K ρ H u x)(q1:bM x v1)(r2:Rl X.K ρ H w y)(q2:bM y v2)(e:uz (n+1) st u w=some b):SeqAt.RcAt A s v1 v2 b/\SeqAt.RcNeAt A s v1 v2 (!b):=by
 unfold uz at e;cases z1:vw st u with
 |none=>rw[z1]at e;cases e
 |some k1=>
  cases z2:vw st w with
  |none=>rw[z1,z2]at e;cases k1<;>cases e
  |some k2=>
   rw[z1,z2]at e;have s1:=seen I sr r1 q1 z1;have s2:=seen I sr r2 q2 z2;cases k1 with
   |tup us=>
    obtain⟨a,aN,xs,rfl,p1,va,ra⟩:=s1;cases k2 with
    |tup ws=>
     obtain⟨a2,e!,ys,rfl,p2,vb,rb⟩:=s2;have el:=HG e ra rb va vb ih;have l1:=va.length;have l2:=vb.length;have l3:=ra.length;have l4:=rb.length;have hb:((List.range (min aN.toArray.size e!.toArray.size)).all (eqJ (uz n st) us ws)&&aN.toArray.size==e!.toArray.size)=b:=by
      by_cases hl:us.length=ws.length
      .rw[show min aN.toArray.size e!.toArray.size=us.length by simp only[VG];lia,vh e hl,show(aN.toArray.size==e!.toArray.size)=true by simp only[VG,Yg];lia,Bool.and_true]
      .rw[show(aN.toArray.size==e!.toArray.size)=false by simp only[VG,WU];lia,Y?];exact(vg e hl).symm
     have g1:=SeqAt.RcAt.tuples p1 p2 hu el;have g2:=SeqAt.RcNeAt.tuples p1 p2 hu el;rw[hb]at g1 g2;exact⟨g1,g2⟩
    |lst ws=>
     obtain⟨a2,e!,ys,rfl,p2,vb,rb⟩:=s2;cases e;exact⟨SeqAt.RcAt.tuple_list p1 p2 hu,SeqAt.RcNeAt.tuple_list p1 p2 hu⟩
    |uq=>
     cases e;rcases s2 with⟨_,rfl⟩|⟨k,_,rfl⟩|⟨k,t,_,rfl⟩|⟨k,t,_,rfl⟩
     .exact⟨SeqAt.RcAt.tuple_none p1 hu,SeqAt.RcNeAt.tuple_none p1 hu⟩
     .exact⟨SeqAt.RcAt.tuple_bool _ p1 hu,SeqAt.RcNeAt.tuple_bool _ p1 hu⟩
     .exact⟨SeqAt.RcAt.tuple_int _ _ p1 hu,SeqAt.RcNeAt.tuple_int _ _ p1 hu⟩
     .exact⟨SeqAt.RcAt.tuple_str _ _ p1 hu,SeqAt.RcNeAt.tuple_str _ _ p1 hu⟩
   |lst us=>
    obtain⟨a,aN,xs,rfl,p1,va,ra⟩:=s1;cases k2 with
    |tup ws=>
     obtain⟨a2,e!,ys,rfl,p2,vb,rb⟩:=s2;cases e;exact⟨SeqAt.RcAt.list_tuple p1 p2 hu,SeqAt.RcNeAt.list_tuple p1 p2 hu⟩
    |lst ws=>
     obtain⟨a2,e!,ys,rfl,p2,vb,rb⟩:=s2;have l1:=va.length;have l2:=vb.length;have l3:=ra.length;have l4:=rb.length;by_cases hl:us.length=ws.length
     .have hs:aN.toArray.size=e!.toArray.size:=by simp only[VG];lia
      have el:=HG e ra rb va vb ih;have g1:=SeqAt.RcAt.lists p1 p2 hs hu el;have g2:=SeqAt.RcNeAt.lists p1 p2 hs hu el;rw[show aN.toArray.size=us.length by simp only[VG];lia,vh e hl]at g1 g2;exact⟨g1,g2⟩
     .have hs:(aN.toArray.size !=e!.toArray.size)=true:=by simp only[VG,bne_iff_ne];lia
      rw[vg e hl];exact⟨ZN p1 p2 hs hu,SeqAt.RcNeAt.lists_lengths p1 p2 hs hu⟩
    |uq=>
     cases e;rcases s2 with⟨_,rfl⟩|⟨k,_,rfl⟩|⟨k,t,_,rfl⟩|⟨k,t,_,rfl⟩
     .exact⟨SeqAt.RcAt.list_none p1 hu,SeqAt.RcNeAt.list_none p1 hu⟩
     .exact⟨SeqAt.RcAt.list_bool _ p1 hu,SeqAt.RcNeAt.list_bool _ p1 hu⟩
     .exact⟨SeqAt.RcAt.list_int _ _ p1 hu,SeqAt.RcNeAt.list_int _ _ p1 hu⟩
     .exact⟨SeqAt.RcAt.list_str _ _ p1 hu,SeqAt.RcNeAt.list_str _ _ p1 hu⟩
   |uq=>
    cases k2 with
    |tup ws=>
     obtain⟨a2,e!,ys,rfl,p2,vb,rb⟩:=s2;cases e;rcases s1 with⟨_,rfl⟩|⟨k,_,rfl⟩|⟨k,t,_,rfl⟩|⟨k,t,_,rfl⟩
     .exact⟨SeqAt.RcAt.none_tuple p2 hu,SeqAt.RcNeAt.none_tuple p2 hu⟩
     .exact⟨SeqAt.RcAt.bool_tuple _ p2 hu,SeqAt.RcNeAt.bool_tuple _ p2 hu⟩
     .exact⟨SeqAt.RcAt.int_tuple _ _ p2 hu,SeqAt.RcNeAt.int_tuple _ _ p2 hu⟩
     .exact⟨SeqAt.RcAt.str_tuple _ _ p2 hu,SeqAt.RcNeAt.str_tuple _ _ p2 hu⟩
    |lst ws=>
     obtain⟨a2,e!,ys,rfl,p2,vb,rb⟩:=s2;cases e;rcases s1 with⟨_,rfl⟩|⟨k,_,rfl⟩|⟨k,t,_,rfl⟩|⟨k,t,_,rfl⟩
     .exact⟨SeqAt.RcAt.none_list p2 hu,SeqAt.RcNeAt.none_list p2 hu⟩
     .exact⟨SeqAt.RcAt.bool_list _ p2 hu,SeqAt.RcNeAt.bool_list _ p2 hu⟩
     .exact⟨SeqAt.RcAt.int_list _ _ p2 hu,SeqAt.RcNeAt.int_list _ _ p2 hu⟩
     .exact⟨SeqAt.RcAt.str_list _ _ p2 hu,SeqAt.RcNeAt.str_list _ _ p2 hu⟩
    |uq=>
     injection e with e;subst e;rcases s1 with⟨rfl,rfl⟩|⟨i,rfl,rfl⟩|⟨i,t,rfl,rfl⟩|⟨i,t,rfl,rfl⟩<;>rcases s2 with⟨rfl,rfl⟩|⟨j,rfl,rfl⟩|⟨j,t',rfl,rfl⟩|⟨j,t',rfl,rfl⟩
     .exact⟨SeqAt.RcAt.none_none,SeqAt.RcNeAt.none_none⟩
     .exact⟨SeqAt.RcAt.none_bool _,SeqAt.RcNeAt.none_bool _⟩
     .exact⟨SeqAt.RcAt.none_int _ _,SeqAt.RcNeAt.none_int _ _⟩
     .exact⟨SeqAt.RcAt.none_str _ _,SeqAt.RcNeAt.none_str _ _⟩
     .exact⟨SeqAt.RcAt.bool_none _,SeqAt.RcNeAt.bool_none _⟩
     .exact⟨SeqAt.RcAt.bool_bool _ _,SeqAt.RcNeAt.bool_bool _ _⟩
     .exact⟨SeqAt.RcAt.bool_int _ _ _,SeqAt.RcNeAt.bool_int _ _ _⟩
     .exact⟨SeqAt.RcAt.bool_str _ _ _,SeqAt.RcNeAt.bool_str _ _ _⟩
     .exact⟨SeqAt.RcAt.int_none _ _,SeqAt.RcNeAt.int_none _ _⟩
     .exact⟨SeqAt.RcAt.int_bool _ _ _,SeqAt.RcNeAt.int_bool _ _ _⟩
     .exact⟨SeqAt.RcAt.int_int _ _ _ _,SeqAt.RcNeAt.int_int _ _ _ _⟩
     .exact⟨SeqAt.RcAt.int_str _ _ _ _,SeqAt.RcNeAt.int_str _ _ _ _⟩
     .exact⟨SeqAt.RcAt.str_none _ _,SeqAt.RcNeAt.str_none _ _⟩
     .exact⟨SeqAt.RcAt.str_bool _ _ _,SeqAt.RcNeAt.str_bool _ _ _⟩
     .exact⟨SeqAt.RcAt.str_int _ _ _ _,SeqAt.RcNeAt.str_int _ _ _ _⟩
     .exact⟨SeqAt.RcAt.str_str _ _ _ _,SeqAt.RcNeAt.str_str _ _ _ _⟩
theorem Ly{u w:aj}{v1 v2:_j}(s1:HF X ρ H s .uq u v1)(s2:HF X ρ H s .uq w v2):SeqAt.EqAt A s v1 v2 (Pz u w):=by
 rcases s1 with⟨rfl,rfl⟩|⟨i,rfl,rfl⟩|⟨i,t,rfl,rfl⟩|⟨i,t,rfl,rfl⟩<;>rcases s2 with⟨rfl,rfl⟩|⟨j,rfl,rfl⟩|⟨j,t',rfl,rfl⟩|⟨j,t',rfl,rfl⟩
 .exact YB _
 .exact SeqAt.EqAt.none_bool _
 .exact SeqAt.EqAt.none_int _ _
 .exact SeqAt.EqAt.none_str _ _
 .exact SeqAt.EqAt.bool_none _
 .exact SeqAt.EqAt.bool_bool _ _
 .exact SeqAt.EqAt.bool_int _ _ _
 .exact SeqAt.EqAt.bool_str _ _ _
 .exact SeqAt.EqAt.int_none _ _
 .exact SeqAt.EqAt.int_bool _ _ _
 .exact SeqAt.EqAt.int_int _ _ _ _
 .exact YZ _ _ _ _
 .exact SeqAt.EqAt.str_none _ _
 .exact SeqAt.EqAt.str_bool _ _ _
 .exact YY _ _ _ _
 .exact SeqAt.EqAt.str_str _ _ _ _
theorem B8(I:a9 X ae σ H s)(sr:SR X.K ρ st H):∀(n:Nat)(A:_m),A.units+n<cLine->∀(u w:aj)(x y:V)(v1 v2:_j)(b:Bool),Rl X.K ρ H u x->bM x v1->Rl X.K ρ H w y->bM y v2->uz n st u w=some b->SeqAt.EqAt A s v1 v2 b
 |0,_,_,_,_,_,_,_,_,_,_,_,_,_,e=>by cases e
 |n+1,A,hu,u,w,x,y,v1,v2,b,r1,q1,r2,q2,e=>by
  have rc:=(PD I sr n (λu w x y vu vw c a1 a2 a3 a4 a5=>B8 I sr n A.in1 (by rw[in1_units];lia) u w x y vu vw c a1 a2 a3 a4 a5) (by lia) r1 q1 r2 q2 e).1;have refs:∀a a2,v1=.ref a->v2=.ref a2->SeqAt.EqAt A s v1 v2 b:=by
   intro a a2 e1 e2;subst e1 e2;by_cases hn:a=a2
   .subst hn;have hx:x=y:=q1.inj q2;subst hx;rw[DF I sr (n+1) u w x b r1 r2 e];exact YB _
   .exact SeqAt.EqAt.of_refs hn rc
  cases z1:vw st u with
  |none=>unfold uz at e;rw[z1]at e;cases e
  |some k1=>
   cases z2:vw st w with
   |none=>unfold uz at e;rw[z1,z2]at e;cases k1<;>cases e
   |some k2=>
    have s1:=seen I sr r1 q1 z1;have s2:=seen I sr r2 q2 z2;unfold uz at e;rw[z1,z2]at e;cases k1 with
    |tup us=>
     obtain⟨a,aN,xs,rfl,p1,va,ra⟩:=s1;cases k2 with
     |tup ws=>obtain⟨a2,e!,ys,rfl,p2,vb,rb⟩:=s2;exact refs a a2 rfl rfl
     |lst ws=>obtain⟨a2,e!,ys,rfl,p2,vb,rb⟩:=s2;exact refs a a2 rfl rfl
     |uq=>
      cases e;rcases s2 with⟨_,rfl⟩|⟨k,_,rfl⟩|⟨k,t,_,rfl⟩|⟨k,t,_,rfl⟩
      .exact SeqAt.EqAt.tuple_none p1 (by lia)
      .exact SeqAt.EqAt.tuple_bool _ p1 (by lia)
      .exact SeqAt.EqAt.tuple_int _ _ p1 (by lia)
      .exact SeqAt.EqAt.tuple_str _ _ p1 (by lia)
    |lst us=>
     obtain⟨a,aN,xs,rfl,p1,va,ra⟩:=s1;cases k2 with
     |tup ws=>obtain⟨a2,e!,ys,rfl,p2,vb,rb⟩:=s2;exact refs a a2 rfl rfl
     |lst ws=>obtain⟨a2,e!,ys,rfl,p2,vb,rb⟩:=s2;exact refs a a2 rfl rfl
     |uq=>
      cases e;rcases s2 with⟨_,rfl⟩|⟨k,_,rfl⟩|⟨k,t,_,rfl⟩|⟨k,t,_,rfl⟩
      .exact SeqAt.EqAt.list_none p1 (by lia)
      .exact SeqAt.EqAt.list_bool _ p1 (by lia)
      .exact SeqAt.EqAt.list_int _ _ p1 (by lia)
      .exact SeqAt.EqAt.list_str _ _ p1 (by lia)
    |uq=>
     cases k2 with
     |tup ws=>
      obtain⟨a2,e!,ys,rfl,p2,vb,rb⟩:=s2;cases e;rcases s1 with⟨_,rfl⟩|⟨k,_,rfl⟩|⟨k,t,_,rfl⟩|⟨k,t,_,rfl⟩
      .exact SeqAt.EqAt.none_tuple p2 (by lia)
      .exact SeqAt.EqAt.bool_tuple _ p2 (by lia)
      .exact SeqAt.EqAt.int_tuple _ _ p2 (by lia)
      .exact SeqAt.EqAt.str_tuple _ _ p2 (by lia)
     |lst ws=>
      obtain⟨a2,e!,ys,rfl,p2,vb,rb⟩:=s2;cases e;rcases s1 with⟨_,rfl⟩|⟨k,_,rfl⟩|⟨k,t,_,rfl⟩|⟨k,t,_,rfl⟩
      .exact SeqAt.EqAt.none_list p2 (by lia)
      .exact SeqAt.EqAt.bool_list _ p2 (by lia)
      .exact SeqAt.EqAt.int_list _ _ p2 (by lia)
      .exact SeqAt.EqAt.str_list _ _ p2 (by lia)
     |uq=>
      injection e with e;subst e;exact Ly s1 s2
def oZ:F2:=λu w st=>match uz 16 st u w with
 |some b=>.ok (.bl b) st
 |none=>.bad
def yJ:F2:=λu w st=>match uz 16 st u w with
 |some b=>.ok (.bl (!b)) st
 |none=>.bad
theorem HH(hu:X.A.units+64<cLine):fV X (compareOp .Eq) (rM (wo X) E oZ):=by
 intro ae s σ H x y v u Q I rx ry h;obtain⟨ρ,st,u1,w1,sr,r1,r2,h⟩:=h;unfold oZ at h;split at h
 .rename_i b e;exact(PD I sr 15 (B8 I sr 15 X.A.in1 (by rw[in1_units];lia)) (by lia) r1 rx r2 ry e).1 X.prog X.w X.xe (EP X ae σ Q) ⟨.bl b,H,I,rfl,ic sr h⟩
 .exact h.elim
theorem HI(hu:X.A.units+64<cLine):fV X (compareOp .NotEq) (rM (wo X) E yJ):=by
 intro ae s σ H x y v u Q I rx ry h;obtain⟨ρ,st,u1,w1,sr,r1,r2,h⟩:=h;unfold yJ at h;split at h
 .rename_i b e;exact(PD I sr 15 (B8 I sr 15 X.A.in1 (by rw[in1_units];lia)) (by lia) r1 rx r2 ry e).2 X.prog X.w X.xe (EP X ae σ Q) ⟨.bl (!b),H,I,rfl,ic sr h⟩
 .exact h.elim
def Nm(st:af):aj->Option (List aj)
 |.tup us=>some us
 |.mt us=>some us
 |.loc n=>ar st n
 |_=>none
def PF(neg:Bool):F2:=λu w st=>match Nm st w with
 |some us=>if flat u=true/\us.all flat=true then .ok (.bl (if neg then !us.any (λy=>Pz y u)else us.any (λy=>Pz y u))) st else .bad
 |none=>.bad
theorem qa{K:_c}{u w:aj}{x y:V}(f1:flat u=true)(f2:flat w=true)(r1:Rl K ρ H u x)(r2:Rl K ρ H w y):mY x=true/\mY y=true/\Kd x y=Pz u w:=by
 cases u<;>(try cases f1)<;>cases w<;>(try cases f2)<;>
  (first|(have z1:=Rl.cy r1;subst z1)|(have z1:=Rl.xa r1;subst z1)|(have z1:=Rl.mJ r1;subst z1)|(have z1:=Rl.mK r1;subst z1))<;>
  (first|(have z2:=Rl.cy r2;subst z2)|(have z2:=Rl.xa r2;subst z2)|(have z2:=Rl.mJ r2;subst z2)|(have z2:=Rl.mK r2;subst z2))<;>exact⟨rfl,rfl,rfl⟩
theorem qb{K:_c}{u:aj}{x:V}(f:flat u=true)(r:Rl K ρ H u x):∀{us:List aj}{vs:List V},us.all flat=true->bu K ρ H us vs->vs.all mY=true/\Vg x vs=us.any λy=>Pz y u
 |[],vs,_,h=>by rw[h.gB];exact⟨rfl,rfl⟩
 |w::us,vs,hf,h=>by obtain⟨v,r',rfl,h2,h3⟩:=h.cW;rw[Yo,Xe]at hf;obtain⟨a,b,c⟩:=qa hf.1 f h2 r;obtain⟨d,e⟩:=qb f r hf.2 h3;refine⟨by rw[Yo,a,d];rfl,?_⟩;show(Kd v x || Vg x r')=_;rw[c,e];rfl
theorem Lz{neg:Bool}{x y:V}{H:Hp}(h:rM (wo X) E (PF neg) x y H Q):rIn X.K neg x y H Q:=by
 obtain⟨ρ,st,u,w,sr,r1,r2,h⟩:=h;unfold PF at h;split at h
 .rename_i us e;split at h
  .rename_i hz;cases w with
   |tup ws=>
    cases e;obtain⟨a,vs,rfl,ha,ra⟩:=r2.i';obtain⟨q1,q2⟩:=qb hz.1 r1 hz.2 ra;refine⟨a,vs,rfl,.inr ha,(qa hz.1 hz.1 r1 r1).1,q1,?_⟩;rw[q2];exact ic sr h
   |mt ws=>
    cases e;obtain⟨a,vs,rfl,ha,ra⟩:=r2.mt_;obtain⟨q1,q2⟩:=qb hz.1 r1 hz.2 ra;refine⟨a,vs,rfl,.inr ha,(qa hz.1 hz.1 r1 r1).1,q1,?_⟩;rw[q2];exact ic sr h
   |loc n=>
    obtain⟨a,rfl,ha⟩:=r2.fQ;obtain⟨vs,hs,ra⟩:=bA sr e ha;obtain⟨q1,q2⟩:=qb hz.1 r1 hz.2 ra;refine⟨a,vs,rfl,.inl hs,(qa hz.1 hz.1 r1 r1).1,q1,?_⟩;rw[q2];exact ic sr h
   |_=>cases e
  .exact h.elim
 .exact h.elim
theorem HJ:fV X (compareOp .In) (rM (wo X) E (PF false)):=fV.imp EO λ_ _ _ _ h=>Lz h
def LC(neg:Bool):F2
 |.dD,.dD,st=>.ok (.bl (!neg)) st
 |.bl a,.bl b,st=>.ok (.bl (if neg then a !=b else a==b)) st
 |.int _,.dD,st=>.ok (.bl neg) st
 |.bl _,.dD,st=>.ok (.bl neg) st
 |.str _,.dD,st=>.ok (.bl neg) st
 |.tup _,.dD,st=>.ok (.bl neg) st
 |.loc _,.dD,st=>.ok (.bl neg) st
 |_,_,_=>.bad
theorem HK:fV X (compareOp .Is) (λx y H Q=>∃a b,x=.bl a/\y=.bl b/\Q (.bl (a==b)) H):=by rintro ae s σ H x y v u Q I rx ry ⟨a,b,rfl,rfl,q⟩;cases rx;cases ry;exact is_bool ⟨.bl _,H,I,rfl,q⟩
theorem HL:fV X (compareOp .Is) (rM (wo X) E (LC false)):=by
 refine fV.imp (fV.or OI HK) ?_;rintro x y H Q ⟨ρ,st,u,w,sr,r1,r2,h⟩;cases u<;>cases w<;>try exact h.elim
 case bl.bl a b=>exact .inr ⟨a,b,r1.xa,r2.xa,ic sr h⟩
 case dD.dD=>exact .inl ⟨r2.mK,by rw[r1.mK];exact ic sr h⟩
 case int.dD i=>exact .inl ⟨r2.mK,by rw[r1.cy];exact ic sr h⟩
 case bl.dD i=>exact .inl ⟨r2.mK,by rw[r1.xa];exact ic sr h⟩
 case str.dD i=>exact .inl ⟨r2.mK,by rw[r1.mJ];exact ic sr h⟩
 case tup.dD i=>obtain⟨a,vs,rfl,_⟩:=r1.i';exact .inl ⟨r2.mK,ic sr h⟩
 case loc.dD i=>obtain⟨a,rfl,_⟩:=r1.fQ;exact .inl ⟨r2.mK,ic sr h⟩
end
section
variable{pos:Pos}
def bS:F2
 |.tup us,.int i,st=>match mX us i with
  |some v=>.ok v st
  |none=>.bad
 |.loc n,.int i,st=>match ar st n with
  |some us=>match mX us i with
   |some v=>.ok v st
   |none=>.bad
  |none=>.bad
 |.str z,.int i,st=>if z.length<=sizeLine then(match mX z.cps.toList i with
   |some c=>.ok (.str ⟨#[c]⟩) st
   |none=>.bad)else .bad
 |_,_,_=>.bad
theorem bu.mX{K:_c}{us:List aj}{vs:List V}{i:Int}{u:aj}(r:bu K ρ H us vs)(h:mX us i=some u):∃v,L2.mX vs i=some v/\Rl K ρ H u v:=by
 unfold L2.mX at h⊢;rw[<-r.length];cases z:Aj us.length i with
 |none=>rw[z]at h;cases h
 |some j=>
  rw[z]at h;obtain⟨v,h1,h2⟩:=r.get (show us[j]?=some u from h);exact⟨v,h1,h2⟩
theorem aaY:Bt X (rM (wo X) E bS):=by
 refine Bt.imp (Bt.or KZ (Bt.or bD OQ)) ?_;rintro x y H Q ⟨ρ,st,u,w,sr,r1,r2,h⟩;cases u<;>cases w<;>try exact h.elim
 case tup.int us i=>
  unfold bS at h;dsimp only at h;split at h
  .rename_i v e;obtain⟨a,vs,rfl,ha,ra⟩:=r1.i';obtain⟨z,h1,h2⟩:=ra.mX e;exact .inr (.inl ⟨a,vs,i,z,rfl,r2.cy,ha,h1,h ρ H z (aZ.refl _ _) sr h2⟩)
  .exact h.elim
 case loc.int n i=>
  unfold bS at h;dsimp only at h;split at h
  .rename_i us e;split at h
   .rename_i v e';obtain⟨a,rfl,ha⟩:=r1.fQ;obtain⟨vs,hs,rv⟩:=bA sr e ha;obtain⟨z,h1,h2⟩:=rv.mX e';exact .inl ⟨a,vs,i,z,rfl,r2.cy,hs,h1,h ρ H z (aZ.refl _ _) sr h2⟩
   .exact h.elim
  .exact h.elim
 case str.int z i=>
  unfold bS at h;dsimp only at h;split at h
  .rename_i hz;split at h
   .rename_i c e;exact .inr (.inr ⟨z,i,c,r1.mJ,r2.cy,hz,e,h ρ H _ (aZ.refl _ _) sr (Rl.mkStr _)⟩)
   .exact h.elim
  .exact h.elim
def bc:FN
 |[.tup us],st=>.ok (.int us.length) st
 |[.loc n],st=>match ar st n with
  |some us=>.ok (.int us.length) st
  |none=>.bad
 |[.str z],st=>if z.length<=sizeLine then .ok (.int z.length) st else .bad
 |_,_=>.bad
theorem xP:cR X (.builtin "len") (cM (wo X) E bc):=by
 refine cR.imp (cR.or yC yD) ?_;rintro xs H Q ⟨ρ,st,us,sr,r,h⟩
 match us,r,h with
 |[],_,h=>exact h.elim
 |[.tup ws],r,h=>
  obtain⟨v,rfl,r1⟩:=r.B3;obtain⟨a,vs,rfl,ha,ra⟩:=r1.i';refine .inl ⟨a,vs,rfl,.inr ha,?_⟩;rw[<-ra.length];exact fI sr h
 |[.loc n],r,h=>
  obtain⟨v,rfl,r1⟩:=r.B3;obtain⟨a,rfl,ha⟩:=r1.fQ;unfold bc at h;dsimp only at h;split at h
  .rename_i ws e;obtain⟨vs,hs,rv⟩:=bA sr e ha;refine .inl ⟨a,vs,rfl,.inl hs,?_⟩;rw[<-rv.length];exact fI sr h
  .exact h.elim
 |[.str z],r,h=>
  obtain⟨v,rfl,r1⟩:=r.B3;unfold bc at h;dsimp only at h;split at h
  .rename_i hz;exact .inr ⟨z,by rw[r1.mJ],hz,fI sr h⟩
  .exact h.elim
 |[.dD],_,h=>exact h.elim
 |[.bl _],_,h=>exact h.elim
 |[.int _],_,h=>exact h.elim
 |[.exc _],_,h=>exact h.elim
 |[.fn _ _],_,h=>exact h.elim
 |[.mt _],_,h=>exact h.elim
 |x::y::r,_,h=>cases x<;>exact h.elim
def Az:FN
 |[.int i],st=>.ok (.int (if i<0 then -i else i)) st
 |_,_=>.bad
theorem E?:cR X (.builtin "abs") (cM (wo X) E Az):=by
 refine cR.imp GS ?_;rintro xs H Q ⟨ρ,st,us,sr,r,h⟩;unfold Az at h;split at h
 .rename_i i;obtain⟨v,rfl,r1⟩:=r.B3;exact⟨i,by rw[r1.cy],fI sr h⟩
 .exact h.elim
def B9:FN
 |[.tup us],st=>.ok (.tup us) st
 |[.loc n],st=>match ar st n with
  |some us=>.ok (.tup us) st
  |none=>.bad
 |_,_=>.bad
theorem Fb:cR X (.type "tuple") (cM (wo X) E B9):=by
 refine cR.imp w9 ?_;rintro xs H Q ⟨ρ,st,us,sr,r,h⟩;unfold B9 at h;split at h
 .rename_i ws;obtain⟨v,rfl,r1⟩:=r.B3;obtain⟨a,vs,rfl,ha,ra⟩:=r1.i';exact⟨a,vs,rfl,.inr ⟨ha,h ρ H _ (aZ.refl _ _) sr r1⟩⟩
 .rename_i n;obtain⟨v,rfl,r1⟩:=r.B3;obtain⟨a,rfl,ha⟩:=r1.fQ;split at h
  .rename_i ws e;obtain⟨vs,hs,rv⟩:=bA sr e ha;refine⟨a,vs,rfl,.inl ⟨hs,λl hl=>?_⟩⟩;have s:=fe (o:=.tup vs) hl;exact h ρ _ _ (aZ.same s) (sr.grow s) (Rl.xK b_ (bu.mono (aZ.same s) _ _ rv))
  .exact h.elim
 .exact h.elim
def rm:FN
 |[.tup us],st=>.ok (.loc st.length) (st++[.lst us])
 |[.loc n],st=>match ar st n with
  |some us=>.ok (.loc st.length) (st++[.lst us])
  |none=>.bad
 |_,_=>.bad
theorem Fc:cR X (.type "list") (cM (wo X) E rm):=by
 refine cR.imp yE ?_;rintro xs H Q ⟨ρ,st,us,sr,r,h⟩;unfold rm at h;split at h
 .rename_i ws;obtain⟨v,rfl,r1⟩:=r.B3;obtain⟨a,vs,rfl,ha,ra⟩:=r1.i';refine⟨a,vs,rfl,.inr ha,λl hl=>?_⟩;obtain⟨k1,k2,k3⟩:=iB sr ra hl;exact h _ _ _ k1 k2 k3
 .rename_i n;obtain⟨v,rfl,r1⟩:=r.B3;obtain⟨a,rfl,ha⟩:=r1.fQ;split at h
  .rename_i ws e;obtain⟨vs,hs,rv⟩:=bA sr e ha;refine⟨a,vs,rfl,.inl hs,λl hl=>?_⟩;obtain⟨k1,k2,k3⟩:=iB sr rv hl;exact h _ _ _ k1 k2 k3
  .exact h.elim
 .exact h.elim
def o_:List aj->Option (List Bool)
 |[]=>some []
 |.bl b::r=>(o_ r).map (b :: ·)
 |_=>none
theorem xQ{K:_c}{ρ:_h}{H:Hp}:∀{us:List aj}{bs:List Bool}{vs:List V}{aN:_e},o_ us=some bs->bu K ρ H us vs->bt vs aN->LSm.BoolsAre aN bs
 |[],bs,vs,aN,h,r,v=>by cases h;have:=r.gB;subst this;cases v;exact .nil
 |u::us,bs,vs,aN,h,r,v=>by
  cases u with
  |bl b=>
   simp only[o_]at h;cases z:o_ us with
   |none=>rw[z]at h;cases h
   |some bs'=>
    rw[z]at h;cases h;obtain⟨x,r',rfl,h2,h3⟩:=r.cW;have:=h2.xa;subst this;cases v with
    |cons q1 q2=>
     cases q1;exact .cons b (xQ z h3 q2)
  |_=>cases h
theorem vi(hh:X.A.handled=none):cR X (.builtin "all") (λxs H Q=>∃a ρ us vs bs,xs=[.ref a]/\oy X.K H a vs/\bu X.K ρ H us vs/\o_ us=some bs/\Q (.bl (bs.all id)) H):=by
 rintro ae s σ H xs ws Q I r ⟨a,ρ,us,vs,bs,rfl,hs,rv,hb,q⟩;obtain⟨u,rfl,ru⟩:=vals1 r;cases ru;obtain⟨aN,r1,p1,_⟩:=I.list hs;have B:=xQ hb rv r1;have hl:=p1.isList;have sR:a<s.heap.objs.size:=by obtain⟨_,e,_⟩:=hl;exact VJ e
 refine call_all_walk (Y3 hl ?_);refine⟨s.heap.objs.size,[s.heap.objs.size,a],[s.heap.objs.size],aN.toArray.size,_,_,λi=>(bs[i]?).getD true,rfl,Walks.list (A:=X.A.in1) hh _ a (V! sR) aN.toArray,
  ⟨⟨_,VV _ rfl,rfl,rfl⟩,hl.push _⟩,λi v s' Q' E' hP hQ=>?_,λh' tk hk=>?_⟩
 .obtain⟨b,e,rfl⟩:=B.get i v (by simpa using hP);simp only[e,Option.getD_some]at hQ;exact Xy hQ
 .have e:((List.range aN.toArray.size).all λi=>(bs[i]?).getD true)=bs.all id:=by rw[VG,B.length];exact LSm.range_all bs
  rw[e];exact⟨.bl _,H,I.kept (LSm.kept_iter hk),rfl,q⟩
def B_:FN
 |[.loc n],st=>match ar st n with
  |some us=>match o_ us with
   |some bs=>.ok (.bl (bs.all id)) st
   |none=>.bad
  |none=>.bad
 |_,_=>.bad
theorem LD(hc:cR X (.builtin "all") (λxs H Q=>∃a ρ us vs bs,xs=[.ref a]/\oy X.K H a vs/\bu X.K ρ H us vs/\o_ us=some bs/\Q (.bl (bs.all id)) H)):cR X (.builtin "all") (cM (wo X) E B_):=by
 refine cR.imp hc ?_;rintro xs H Q ⟨ρ,st,us,sr,r,h⟩;unfold B_ at h;split at h
 .rename_i n;obtain⟨v,rfl,r1⟩:=r.B3;obtain⟨a,rfl,ha⟩:=r1.fQ;split at h
  .rename_i ws e;split at h
   .rename_i bs hb;obtain⟨vs,hs,rv⟩:=bA sr e ha;exact⟨a,ρ,ws,vs,bs,rfl,hs,rv,hb,ic sr h⟩
   .exact h.elim
  .exact h.elim
 .exact h.elim
theorem Fd(hh:X.A.handled=none):cR X (.builtin "all") (cM (wo X) E B_):=LD (vi hh)
def kindOf(st:af):aj->Option String
 |.dD=>some "NoneType"
 |.bl _=>some "bool"
 |.int _=>some "int"
 |.str _=>some "str"
 |.tup _=>some "tuple"
 |.loc n=>match st[n]? with
  |some (.lst _)=>some "list"
  |some (.Pe _)=>some "list"
  |some (.mod _)=>none
  |some (.dK _)=>some "dict"
  |some (.dT _)=>some "dict"
  |_=>none
 |_=>none
def isT(T:String)(st:af)(v:aj):Option Bool:=(kindOf st v).map λk=>k==T || (k == "bool" && T == "int")
def mIs(T:String)(m:ME):ME:=λμ st=>(m μ st).bind λv aH=>match isT T aH v with
 |some b=>.ok (.bl b) aH
 |none=>.bad
def PH(K:_c)(T:String):Prop:=∀k∈["NoneType","bool","int","str","tuple","list","dict"],W.kitOne K (.type k) (.type T)=some (k==T || (k == "bool" && T == "int"))
theorem B!{st:af}{v:aj}{k:String}(h:kindOf st v=some k):k∈["NoneType","bool","int","str","tuple","list","dict"]:=by
 unfold kindOf at h;split at h
 all_goals first
  |(cases h;decide)
  |(split at h<;>first|(cases h;decide)|cases h)
  |cases h
theorem HM{E:Z'}{Q:Z'}{c:_j}{b:Bool}{st:af}{u:aj}{x:V}{v:_j}{k:String}(I:a9 X ae σ H s)(sr:SR X.K ρ st H)(r:Rl X.K ρ H u x)(q:bM x v)(hk:kindOf st u=some k)(e:W.kitOne X.K (.type k) c=some b)(h:∀tk,Q (.bool b) {s with toks:=tk}):
  wpAny (model X.prog X.w) A (call (.builtin "isinstance") [v,c]) Q E s:=by
 cases u with
 |dD=>cases hk;have:=r.mK;subst this;exact gN I q .dD e h
 |bl y=>cases hk;have:=r.xa;subst this;exact gN I q (.bl y) e h
 |int i=>cases hk;have:=r.cy;subst this;exact gN I q (.int i) e h
 |str y=>cases hk;have:=r.mJ;subst this;exact gN I q (.str y) e h
 |tup us=>
  cases hk;obtain⟨a,vs,rfl,ha,ra⟩:=r.i';cases q;obtain⟨aN,r1,⟨o,h1,h2,_⟩,_⟩:=I.tuple ha;exact Ww ZP I.zW ⟨o,h1,h2⟩ e (λz=>nomatch z) h
 |loc n=>
  obtain⟨a,rfl,ha⟩:=r.fQ;obtain⟨cl,hc,kc⟩:=sr.there ha;simp only[kindOf,hc]at hk;cases cl with
  |lst us=>cases hk;obtain⟨vs,h1,_⟩:=kc;exact gN I q (.lst h1) e h
  |Pe us=>cases hk;obtain⟨o,vs,h1,_⟩:=kc;exact gN I q (.kh h1) e h
  |mod us=>cases hk
  |dK us=>cases hk;obtain⟨vs,h1,_⟩:=kc;exact gN I q (.dK h1) e h
  |dT us=>cases hk;obtain⟨vs,h1,_⟩:=kc;exact gN I q (.dT h1) e h
  |tab _ _ _ _=>cases hk
  |ins _ _=>cases hk
  |fd _=>cases hk
 |exc c=>cases hk
 |fn k c=>cases hk
 |mt us=>cases hk
theorem HN{T:String}{e:Expr}{m:ME}{p q:Pos}(hK:PH X.K T)(hg:Gl X "isinstance")(hm:X.mg "isinstance" = none)(hgT:Gl X x)(hmT:X.mg x=none)(hvT:bootBuiltins x=some (.type T))(he:PE X e (tE X E m))(hn:x ≠ "__name__":=by decide)(hd:(x==("__debug__":Str))=false:=by decide)(hs:starEach [e,.Name x q] X.env=(false,eval e X.env)::starEach [.Name x q] X.env:=by rfl)(q9:starEach [.Name x q] X.env=(false,eval (.Name x q) X.env)::starEach [] X.env:=by rfl)(sM:(backTo pos (starEach [.Name x q] X.env)).any (·.1)=false:=by rfl):PE X (.Call (.Name "isinstance" p) [e,.Name x q] [] pos) (tE X E (mIs T m)):=by
 have hc:cR X (.builtin "isinstance") (λxs H Q=>∃y ρ st u k b,xs=[y,.ty T]/\SR X.K ρ st H/\Rl X.K ρ H u y/\kindOf st u=some k/\W.kitOne X.K (.type k) (.type T)=some b/\Q (.bl b) H):=by rintro ae s σ H xs us Q I r ⟨y,ρ,st,u,k,b,rfl,sr,r1,h1,h2,h3⟩;obtain⟨v1,v2,rfl,q1,q2⟩:=vals2 r;cases q2;exact HM I sr r1 q1 h1 h2 λtk=>⟨.bl b,H,I.tok tk,rfl,h3⟩
 refine PE.imp (Ah hc hg hm PyProof.Rows.boot_isinstance (ur he (ur (Km (v:=.ty T) hgT hmT hvT rfl hn hd) BJ q9) hs) (by decide) (by decide) hs sM) ?_;rintro σ H Q ⟨μ,ρ,st,rs,sr,h⟩;refine go μ ρ st rs sr h λu st1 ρ1 H1 x e1 dh r1 h1=>?_;cases z:kindOf st1 u with
 |none=>simp only[isT,z]at h1;exact h1.elim
 |some k=>
  simp only[isT,z]at h1;exact⟨x,ρ1,st1,u,k,_,rfl,dh,r1,z,hK k (B! z),ic dh h1⟩
end
theorem HP{K:_c}:PH K "int":=by intro k hk;simp only[V_,List.mem_nil_iff,YK]at hk;rcases hk with rfl|rfl|rfl|rfl|rfl|rfl|rfl<;>first|rfl|kernel_rfl
theorem Fe{K:_c}:PH K "bool":=by intro k hk;simp only[V_,List.mem_nil_iff,YK]at hk;rcases hk with rfl|rfl|rfl|rfl|rfl|rfl|rfl<;>first|rfl|kernel_rfl
abbrev AS:=aj->Env->Option Env
def aB(i:Nat):AS:=λv μ=>some (μ.set i (some v))
def xR:List AS->List aj->Env->Option Env
 |[],[],μ=>some μ
 |a::as,v::vs,μ=>(a v μ).bind λμ'=>xR as vs μ'
 |_,_,_=>none
def iN(l:List AS):AS:=λv μ=>match v with
 |.tup vs=>xR l vs μ
 |_=>none
def tA(W:Wo)(a:AS):TG:=λv σ H Q=>∃μ ρ u μ',RS W ρ H μ σ/\Rl W.K ρ H u v/\a u μ=some μ'/\∀σ',RS W ρ H μ' σ'->Q σ' H
def tAs(W:Wo)(l:List AS):Kt:=λvs σ H Q=>∃μ ρ us μ',RS W ρ H μ σ/\bu W.K ρ H us vs/\xR l us μ=some μ'/\∀σ',RS W ρ H μ' σ'->Q σ' H
section
variable{pos:Pos}
theorem BE.imp{e:List Expr}{t t':Kt}(h:BE X e t)(k:∀v σ H Q,t' v σ H Q->t v σ H Q):BE X e t':=λae s σ H v u Q I r q=>h ae s σ H v u Q I r (k v σ H Q q)
theorem LF(i:Nat)(hN:X.N.Nodup)(hi:X.N[i]?=some x:=by rfl)(hx:Loc X.env.scope x:=by first|exact Or.inl rfl|exact Or.inr rfl)(hf:X.fn x=true\/X.env.scope.names.lookup x=some .local:=by first|exact .inl rfl|exact .inr rfl|assumption):PG X (.Name x pos) (tA (wo X) (aB i)):=by refine PG.imp (Ku hN hi hx hf) ?_;rintro v σ H Q ⟨μ,ρ,u,μ',rs,r,e,q⟩;cases e;exact q _ (rs.set i r)
theorem LG:BE X [] (tAs (wo X) []):=by
 refine BE.imp Kv ?_;rintro vs σ H Q ⟨μ,ρ,us,μ',rs,r,e,q⟩;cases us with
 |nil=>cases e;exact⟨r.gB,q σ rs⟩
 |cons=>cases e
theorem HQ{e:Expr}{a:AS}{as:List AS}(h1:PG X e (tA (wo X) a))(h2:BE X es (tAs (wo X) as))(hs:(assignEach (e::es) X.env).map (·.2)=assign e X.env::(assignEach es X.env).map (·.2):=by rfl):BE X (e::es) (tAs (wo X) (a::as)):=by
 refine BE.imp (GN h1 h2 hs) ?_;rintro vs σ H Q ⟨μ,ρ,us,μ',rs,r,e,q⟩;cases us with
 |nil=>cases e
 |cons u us=>
  obtain⟨v,r',rfl,ru,rr⟩:=r.cW;unfold xR at e;cases z:a u μ with
  |none=>rw[z]at e;cases e
  |some μ1=>
   rw[z]at e;exact⟨v,r',rfl,μ,ρ,u,μ1,rs,ru,z,λσ1 Ry=>⟨μ1,ρ,us,μ',Ry,rr,e,q⟩⟩
theorem PJ{l:List AS}(hc:X.calm=true)(h:BE X es (tAs (wo X) l))(hn:(assignEach es X.env).length=l.length:=by rfl)(yt:(assignEach es X.env).findIdx? (·.1)=none:=by rfl):PG X (.Tuple es k pos) (tA (wo X) (iN l)):=by
 refine PG.imp (Oq hc h hn yt) ?_;rintro v σ H Q ⟨μ,ρ,u,μ',rs,r,e,q⟩;cases u with
 |tup us=>
  obtain⟨a,vs,rfl,ha,ra⟩:=r.i';have len:∀(l:List AS)(us:List aj)(μ:Env),xR l us μ=some μ'->us.length=l.length:=by
   intro l
   induction l with
   |nil=>intro us μ e;cases us with|nil=>rfl|cons=>cases e
   |cons a l ih=>
    intro us μ e;cases us with
    |nil=>cases e
    |cons u us=>
     unfold xR at e;cases z:a u μ with
     |none=>rw[z]at e;cases e
     |some μ1=>rw[z]at e;rw[Vl,Vl,ih us μ1 e]
  exact⟨a,vs,rfl,ha,by rw[<-ra.length];exact len _ _ _ e,μ,ρ,us,μ',rs,ra,e,q⟩
 |_=>cases e
def abL(a:AS)(m:ME):MB:=λμ st=>(m μ st).sb μ λv aH=>match a v μ with
 |some μ'=>.nx μ' aH
 |none=>.bad
end
abbrev Itm:=List aj×(af->Prop)
abbrev MI:=Env->af->eZ Itm
def PL(K:_c)(ρ0:_h)(H0:Hp)(p:Itm)(J:It):Prop:=
 ∀ρ st H,aZ ρ0 H0 ρ H->SR K ρ st H->p.2 st->∀i:Nat,
  (∀u,p.1[i]?=some u->J.go i H/\∀x H',J.Rm i H x H'->aZ ρ H ρ H'/\SR K ρ st H'/\Rl K ρ H' u x)/\(p.1.length<=i->J.stop i H)
abbrev tI(X:Cx)(E:XK)(m:MI):TI:=tG (wo X) E (PL X.K) m
section
variable{pos p:Pos}
theorem PI.imp{it:Expr}{t t':TI}(h:PI X tg it t)(k:∀σ H Q,t' σ H Q->t σ H Q):PI X tg it t':=λae s σ H R I q=>h ae s σ H R I (k σ H R q)
theorem PN{l:Expr}{tl:TE}(hl:PE X l tl):PI X tg l (λσ H R=>tl σ H λx H1=>∃a,x=.ref a/\(((∃xs,oy X.K H1 a xs)/\R (Itl X.K a) H1)\/((∃xs,oW X.K H1 a xs)/\R (Itt X.K a) H1))):=by
 intro ae s σ H R I h;refine eJ (hl ae s σ H _ I h) λv s1⟨x,H1,I1,r1,q1⟩=>?_;obtain⟨a,e,q⟩:=q1;subst e;cases r1;rcases q with⟨⟨xs,hq⟩,q⟩|⟨⟨xs,hq⟩,q⟩
 .obtain⟨aN,rv,p,hz⟩:=I1.list hq;refine Y3 p.isList ?_;refine⟨s1.heap.objs.size,[s1.heap.objs.size],_,_,H1,rfl,I1.kept (t':=s1.toks) λb o e=>Vn _ e,EF a _,⟨_,VV _ rfl,rfl,rfl⟩,λb hb=>?_,q⟩;have e:b=s1.heap.objs.size:=by simpa using hb
  subst e;exact I1.Ad (Vv _) (I1.dg.fresh (Vv _))
 .obtain⟨aN,rv,p,hz⟩:=I1.tuple hq;refine wpAny_pyIter_tuple (show s1.heap.IsTuple a aN.toArray from p) ?_;refine⟨s1.heap.objs.size,[s1.heap.objs.size],_,_,H1,rfl,I1.kept (t':=s1.toks) λb o e=>Vn _ e,BF a _,⟨_,VV _ rfl,rfl,rfl⟩,λb hb=>?_,q⟩;have e:b=s1.heap.objs.size:=by simpa using hb
  subst e;exact I1.Ad (Vv _) (I1.dg.fresh (Vv _))
def vj(st:af):aj->Option Itm
 |.tup us=>some (us,λ_=>True)
 |.mt us=>some (us,λ_=>True)
 |.loc n=>(ar st n).map λus=>(us,λaH=>ar aH n=some us)
 |_=>none
def gr(m:ME):MI:=λμ st=>(m μ st).bind λv aH=>match vj aH v with
 |some p=>.ok p aH
 |none=>.bad
theorem HR{K:_c}{n:Nat}{us:List aj}{a:_l}(ha:ρ[n]?=some a)(hsq:∀{ρ':_h}{aH:af}{H':Hp},SR K ρ' aH H'->ar aH n=some us->ρ'[n]?=some a->∃vs,oy K H' a vs/\bu K ρ' H' us vs):
  PL K ρ H (us,λaH=>ar aH n=some us) (Itl K a):=by
 intro ρ' aH H' e sr g i;obtain⟨vs,hs,rv⟩:=hsq sr g (e.at_ ha);refine⟨λu hu=>?_,λhi=>⟨vs,hs,by rw[<-rv.length];exact hi⟩⟩;obtain⟨v,hv,ru⟩:=rv.get hu;refine⟨⟨vs,v,hs,hv⟩,λx Tx y=>?_⟩;obtain⟨rfl,y⟩:=y;have e:=(y vs hs).symm.trans hv;cases e;exact⟨aZ.refl _ _,sr,ru⟩
theorem DG{K:_c}{us:List aj}{a:_l}{vs:List V}(ha:oW K H a vs)(ra:bu K ρ H us vs):PL K ρ H (us,λ_=>True) (Itt K a):=by intro ρ' aH H' e sr g i;have Tz:oW K H' a vs:=e.sqT ha;have rv:=bu.mono e _ _ ra;refine⟨λu hu=>?_,λhi=>⟨vs,Tz,by rw[<-rv.length];exact hi⟩⟩;obtain⟨v,hv,ru⟩:=rv.get hu;refine⟨⟨vs,v,Tz,hv⟩,λx Tx y=>?_⟩;obtain⟨rfl,y⟩:=y;have e:=(y vs Tz).symm.trans hv;cases e;exact⟨aZ.refl _ _,sr,ru⟩
theorem PQ{l:Expr}{m:ME}(hl:PE X l (tE X E m)):PI X tg l (tI X E (gr m)):=by
 refine PI.imp (PN hl) ?_;rintro σ H R ⟨μ,ρ,st,rs,sr,h⟩;refine go μ ρ st rs sr h λu st1 ρ1 H1 x e1 dh r1 h1=>?_;cases u with
 |tup us=>
  obtain⟨a,vs,rfl,ha,ra⟩:=r1.i';exact⟨a,rfl,.inr ⟨⟨vs,ha⟩,h1 ρ1 H1 _ (aZ.refl _ _) dh (DG ha ra)⟩⟩
 |mt us=>
  obtain⟨a,vs,rfl,ha,ra⟩:=r1.mt_;exact⟨a,rfl,.inr ⟨⟨vs,ha⟩,h1 ρ1 H1 _ (aZ.refl _ _) dh (DG ha ra)⟩⟩
 |loc n=>
  obtain⟨a,rfl,ha⟩:=r1.fQ;cases z:ar st1 n with
  |none=>simp only[vj,z]at h1;exact h1.elim
  |some us=>
   simp only[vj,z]at h1;obtain⟨vs,hs,rv⟩:=bA dh z ha;exact⟨a,rfl,.inl ⟨⟨vs,hs⟩,h1 ρ1 H1 _ (aZ.refl _ _) dh (HR ha λs g h=>bA s g h)⟩⟩
 |_=>exact h1.elim
def cN(lo:Int)(n:Nat):List aj:=(List.range n).map λ(i:Nat)=>aj.int (lo+(i:Int))
theorem xS{K:_c}(lo:Int)(n:Nat):PL K ρ H (cN lo n,λ_=>True) (Si lo n):=by
 intro ρ' aH H' e sr g i;refine⟨λu hu=>?_,λhi=>?_⟩
 .have hi:i<n:=by have:=bF hu;simpa[cN]using this
  refine⟨hi,λx Tx y=>?_⟩;obtain⟨rfl,rfl⟩:=y;have e:u=aj.int (lo+(i:Int)):=by simp only[cN,Vu]at hu;rw[Wh hi]at hu;exact(VU hu).symm
  subst e;exact⟨aZ.refl _ _,sr,Rl.mkInt _⟩
 .show n<=i;simpa[cN]using hi
def e_(m:MA):MI:=λμ st=>(m μ st).bind λvs aH=>match vs with
 |[.int j]=>if -(2 ^ 62)<=j/\j<2 ^ 62 then .ok (cN 0 j.toNat,λ_=>True) aH else .bad
 |_=>.bad
def jb(m:MA):MI:=λμ st=>(m μ st).bind λvs aH=>match vs with
 |[.int i,.int j]=>if -(2 ^ 62)<=i/\i<2 ^ 62/\-(2 ^ 62)<=j/\j<2 ^ 62 then .ok (cN i (j-i).toNat,λ_=>True) aH else .bad
 |_=>.bad
theorem Ff{a:Expr}{m:MA}(hg:Gl X "range")(hm:X.mg "range" = none)(ha:PA X [a] (tL X E m))(hs:starEach [a] X.env=[(false,eval a X.env)]:=by rfl):PI X tg (.Call (.Name "range" p) [a] [] pos) (tI X E (e_ m)):=by
 refine PI.imp (EG hg hm ha hs) ?_;rintro σ H R ⟨μ,ρ,st,rs,sr,h⟩;refine go (R1:=bu X.K) μ ρ st rs sr h λus st1 ρ1 H1 xs e1 dh r1 h1=>?_;split at h1
 .rename_i j;obtain⟨v,rfl,rv⟩:=r1.B3;split at h1
  .rename_i hz;exact⟨j,by rw[rv.cy],hz.1,hz.2,h1 ρ1 H1 _ (aZ.refl _ _) dh (xS 0 j.toNat)⟩
  .exact h1.elim
 .exact h1.elim
theorem Fg{a b:Expr}{m:MA}(hg:Gl X "range")(hm:X.mg "range" = none)(ha:PA X [a,b] (tL X E m))(hs:starEach [a,b] X.env=[(false,eval a X.env),(false,eval b X.env)]:=by rfl)(q9:starEach [b] X.env=[(false,eval b X.env)]:=by rfl):
  PI X tg (.Call (.Name "range" p) [a,b] [] pos) (tI X E (jb m)):=by
 refine PI.imp (EI hg hm ha hs q9) ?_;rintro σ H R ⟨μ,ρ,st,rs,sr,h⟩;refine go (R1:=bu X.K) μ ρ st rs sr h λus st1 ρ1 H1 xs e1 dh r1 h1=>?_;split at h1
 .rename_i i j;obtain⟨v,w,rfl,rv,Ak⟩:=r1.Tn;split at h1
  .rename_i hz;exact⟨i,j,by rw[rv.cy,Ak.cy],hz,h1 ρ1 H1 _ (aZ.refl _ _) dh (xS i _)⟩
  .exact h1.elim
 .exact h1.elim
def jm(st:af):aj->Option (Bool×Itm)
 |.tup us=>some (false,us,λ_=>True)
 |.loc n=>(ar st n).map λus=>(true,us,λaH=>ar aH n=some us)
 |_=>none
def mM:List aj->List aj->List aj
 |x::xs,y::ys=>.tup [x,y]::mM xs ys
 |_,_=>[]
theorem DH:∀(us ws:List aj)(i:Nat),(∀z,(mM us ws)[i]?=some z->∃u w,us[i]?=some u/\ws[i]?=some w/\z=.tup [u,w])/\((mM us ws).length<=i->us.length<=i\/ws.length<=i)
 |[],_,i=>⟨λz h=>(by cases h),λ_=>.inl (We _)⟩
 |_::_,[],i=>⟨λz h=>(by cases h),λ_=>.inr (We _)⟩
 |u::us,w::ws,0=>⟨λz h=>(by cases h;exact⟨u,w,rfl,rfl,rfl⟩),λh=>(by simp[mM]at h)⟩
 |u::us,w::ws,i+1=>by
  obtain⟨a,b⟩:=DH us ws i;refine⟨λz h=>a z h,λh=>?_⟩;have h':(mM us ws).length<=i:=by simpa[mM]using h
  rcases b h' with q|q
  .exact .inl (by rw[Vl];lia)
  .exact .inr (by rw[Vl];lia)
def vk(b1 b2:Bool)(m:MA):MI:=λμ st=>(m μ st).bind λvs aH=>match vs with
 |[u,w]=>match jm aH u,jm aH w with
  |some (c1,us,g1),some (c2,ws,g2)=>if c1=b1/\c2=b2 then .ok (mM us ws,λb8=>g1 b8/\g2 b8) aH else .bad
  |_,_=>.bad
 |_=>.bad
theorem DI{K:_c}{st:af}{u:aj}{x:V}{c:Bool}{us:List aj}{g:af->Prop}(sr:SR K ρ st H)(r:Rl K ρ H u x)(h:jm st u=some (c,us,g))(hsq:∀{ρ':_h}{aH:af}{H':Hp}{n a},SR K ρ' aH H'->ar aH n=some us->ρ'[n]?=some a->∃vs,oy K H' a vs/\bu K ρ' H' us vs):
  ∃a,x=.ref a/\∀ρ' aH H',aZ ρ H ρ' H'->SR K ρ' aH H'->g aH->∃vs,B1 c K H' a vs/\bu K ρ' H' us vs:=by
 cases u with
 |tup ws=>
  cases h;obtain⟨a,vs,rfl,ha,ra⟩:=r.i';exact⟨a,rfl,λρ' aH H' e _ _=>⟨vs,e.sqT ha,bu.mono e _ _ ra⟩⟩
 |loc n=>
  obtain⟨a,rfl,ha⟩:=r.fQ;cases z:ar st n with
  |none=>simp only[jm,z]at h;cases h
  |some ws=>
   simp only[jm,z]at h;cases h;exact⟨a,rfl,λρ' aH H' e s g=>hsq s g (e.at_ ha)⟩
 |_=>cases h
theorem HS{st:af}{u:aj}{c:Bool}{us:List aj}{g:af->Prop}(h:jm st u=some (c,us,g)):g st:=by
 cases u with
 |tup ws=>cases h;exact True.intro
 |loc n=>
  cases z:ar st n with
  |none=>simp only[jm,z]at h;cases h
  |some ws=>simp only[jm,z]at h;cases h;exact z
 |_=>cases h
theorem PR(b1 b2:Bool){ea eb:Expr}{m:MA}(hg:Gl X "zip")(hm:X.mg "zip" = none)(ha:PA X [ea,eb] (tL X E m))(hs:starEach [ea,eb] X.env=[(false,eval ea X.env),(false,eval eb X.env)]:=by rfl)(q9:starEach [eb] X.env=[(false,eval eb X.env)]:=by rfl):
  PI X (.Tuple elts kt tp) (.Call (.Name "zip" p) [ea,eb] [] pos) (tI X E (vk b1 b2 m)):=by
 refine PI.imp (O' b1 b2 hg hm ha hs q9) ?_;rintro σ H R ⟨μ,ρ,st,rs,sr,h⟩;refine go (R1:=bu X.K) μ ρ st rs sr h λus st1 ρ1 H1 xs e1 dh r1 h1=>?_;split at h1
 .rename_i u w;obtain⟨x,y,rfl,rx,ry⟩:=r1.Tn;split at h1
  .rename_i c1 us1 g1 c2 us2 g2 z1 z2;split at h1
   .rename_i hc;obtain⟨rfl,rfl⟩:=hc;obtain⟨a,rfl,ka⟩:=DI dh rx z1 λs g h=>bA s g h;obtain⟨b,rfl,kb⟩:=DI dh ry z2 λs g h=>bA s g h;obtain⟨v1,q1,_⟩:=ka ρ1 st1 H1 (aZ.refl _ _) dh (HS z1);obtain⟨v2,q2,_⟩:=kb ρ1 st1 H1 (aZ.refl _ _) dh (HS z2);refine⟨a,b,rfl,⟨v1,q1⟩,⟨v2,q2⟩,h1 ρ1 H1 _ (aZ.refl _ _) dh ?_⟩;intro ρ' aH H' e s g i;obtain⟨w1,s1,t1⟩:=ka ρ' aH H' e s g.1;obtain⟨w2,s2,t2⟩:=kb ρ' aH H' e s g.2;obtain⟨k1,k2⟩:=DH us1 us2 i;refine⟨λz hz=>?_,λhi=>⟨w1,w2,s1,s2,?_⟩⟩
    .obtain⟨u',w',e1',e2',rfl⟩:=k1 z hz;obtain⟨p1,p2,p3⟩:=t1.get e1';obtain⟨o1,o2,o3⟩:=t2.get e2';refine⟨⟨w1,w2,p1,o1,s1,s2,p2,o2⟩,λx' Tx y'=>?_⟩;obtain⟨pp,x1,y1,rfl,hp,rfl,f1,f2⟩:=y';have c1:=(f1 w1 s1).symm.trans p2;have c2:=(f2 w2 s2).symm.trans o2;cases c1;cases c2;exact⟨aZ.same (fe hp),s.grow (fe hp),Rl.xK b_ (bu.mono (aZ.same (fe hp)) _ _ (bu.cons p3 (bu.one o3)))⟩
    .rw[<-t1.length,<-t2.length];exact k2 hi
   .exact h1.elim
  .exact h1.elim
 .exact h1.elim
end
open Classical in
def forL(g:af->Prop)(a:AS)(body:MB):List aj->MB
 |[],μ,st=>if g st then .nx μ st else .bad
 |u::us,μ,st=>if g st then(match a u μ with
  |some μ1=>match body μ1 st with
   |.nx μ' aH=>forL g a body us μ' aH
   |.ct μ' aH=>forL g a body us μ' aH
   |.bk μ' aH=>.nx μ' aH
   |.rt v aH=>.rt v aH
   |.er c μ' aH=>.er c μ' aH
   |.bad=>.bad
  |none=>.bad)else .bad
def f?(it:MI)(a:AS)(body:MB):MB:=λμ st=>(it μ st).sb μ λp aH=>forL p.2 a body p.1 μ aH
section
variable{pos p:Pos}
theorem PU{sb:List Stmt}{it:MI}{a:AS}{body:MB}(hp:PassesOwn (model X.prog X.w) X.A X.env X.xe)(hc:X.calm=true)(hi:PI X tg iter (tI X E it))(hg:PG X tg (tA (wo X) a))(hb:oV X sb (tS X E body))(hs:∀x,foldedSetIterable iter X.env x=pure x:=by intro _;rfl):PS X (.For tg iter sb [] pos) (tS X E (f? it a body)):=by
 refine PS.imp (Oz hp hc hi hg hb hs) ?_;rintro D σ H ⟨μ,ρ,st,rs,sr,h⟩;refine Bx (R1:=PL X.K) μ ρ st rs sr h λpr st1 ρ1 H1 J e1 dh rJ h1=>?_;obtain⟨us,g⟩:=pr;refine⟨λi m σ' H'=>m=us.length-i/\i<=us.length/\∃μ' ρ' aH,aZ ρ1 H1 ρ' H'/\RS (wo X) ρ' H' μ' σ'/\SR X.K ρ' aH H'/\wS (wo X) E ρ' H' D (forL g a body (us.drop i) μ' aH),
  ⟨us.length,by simp,We _,μ,ρ1,st1,aZ.refl _ _,rs.mono e1,dh,h1⟩,?_⟩
 rintro i m σ' H' ⟨rfl,hi,μ',ρ',aH,e',zZ,DJ,h'⟩;by_cases sR:i<us.length
 .rw[WW sR]at h';unfold forL at h';by_cases wQ:g aH
  .rw[Vs wQ]at h';obtain⟨k1,k2⟩:=rJ ρ' aH H' e' DJ wQ i;obtain⟨go',yl⟩:=k1 _ (Vo sR);refine .inr ⟨go',λσ2 H2=>i+1<=us.length/\∃μ2 ρ2 b8,aZ ρ1 H1 ρ2 H2/\RS (wo X) ρ2 H2 μ2 σ2/\SR X.K ρ2 b8 H2/\wS (wo X) E ρ2 H2 D (forL g a body (us.drop (i+1)) μ2 b8),λσ2 H2 n=>⟨us.length-(i+1),by lia,rfl,n.1,n.2⟩,λx H2 y=>?_⟩;obtain⟨e2,p!,r2⟩:=yl x H2 y;cases z:a us[i] μ' with
   |none=>rw[z]at h';exact h'.elim
   |some μ1=>
    rw[z]at h';dsimp only at h';refine⟨μ',ρ',us[i],μ1,zZ.mono e2,r2,z,λσ3 Kg=>⟨μ1,ρ',aH,Kg,p!,?_⟩⟩;cases zb:body μ1 aH with
    |nx μ4 pV=>
     rw[zb]at h';intro ρ4 H4 σ4 e4 tV B?;exact⟨by lia,μ4,ρ4,pV,(e'.trans e2).trans e4,B?,tV,wS.mono h' (e2.trans e4)⟩
    |ct μ4 pV=>
     rw[zb]at h';intro ρ4 H4 σ4 e4 tV B?;exact⟨by lia,μ4,ρ4,pV,(e'.trans e2).trans e4,B?,tV,wS.mono h' (e2.trans e4)⟩
    |bk μ4 pV=>rw[zb]at h';exact λρ4 H4 σ4 e4 tV B?=>h' ρ4 H4 σ4 (e2.trans e4) tV B?
    |rt v pV=>rw[zb]at h';exact λρ4 H4 σ4 e4 tV B?=>h' ρ4 H4 σ4 (e2.trans e4) tV B?
    |er c μ4 pV=>rw[zb]at h';obtain⟨C,q1,q2⟩:=h';exact⟨C,q1,λρ4 H4 e4 tV=>q2 ρ4 H4 (e2.trans e4) tV⟩
    |bad=>rw[zb]at h';exact h'
  .rw[VE wQ]at h';exact h'.elim
 .have Hg:i=us.length:=by lia
  subst Hg;rw[Zx]at h';unfold forL at h';by_cases wQ:g aH
  .rw[Vs wQ]at h';exact .inl ⟨(rJ ρ' aH H' e' DJ wQ us.length).2 (Vv _),h' ρ' H' σ' (aZ.refl _ _) DJ zZ⟩
  .rw[VE wQ]at h';exact h'.elim
end
def ik(t:MT)(body:MB):Nat->Env->af->Option e?
 |0,_,_=>none
 |n+1,μ,st=>match t μ st with
  |.ok true st1=>match body μ st1 with
   |.nx μ' aH=>ik t body n μ' aH
   |.ct μ' aH=>ik t body n μ' aH
   |.bk μ' aH=>some (.nx μ' aH)
   |.rt v aH=>some (.rt v aH)
   |.er c μ' aH=>some (.er c μ' aH)
   |.bad=>some .bad
  |.ok false st1=>some (.nx μ st1)
  |.err c st1=>some (.er c μ st1)
  |.bad=>some .bad
open Classical in
def cm(t:MT)(body:MB):MB:=λμ st=>if h:∃n r,ik t body n μ st=some r then h.choose_spec.choose else .bad
theorem m_{t:MT}{body:MB}:∀{n m:Nat}{μ:Env}{st:af}{r r':e?},ik t body n μ st=some r->ik t body m μ st=some r'->r=r'
 |0,_,_,_,_,_,h,_=>by cases h
 |_+1,0,_,_,_,_,_,h=>by cases h
 |n+1,m+1,μ,st,r,r',h,h'=>by
  unfold ik at h h';split at h
  .rename_i st1 e;rw[e]at h';dsimp only at h';split at h
   all_goals (rename_i eb;rw[eb]at h';dsimp only at h')
   .exact m_ h h'
   .exact m_ h h'
   all_goals (cases h;cases h';rfl)
  all_goals (rename_i e;rw[e]at h';dsimp only at h';cases h;cases h';rfl)
theorem Fh{t:MT}{body:MB}{n:Nat}{μ:Env}{st:af}{r:e?}(h:ik t body n μ st=some r):cm t body μ st=r:=by
 have hx:∃n r,ik t body n μ st=some r:=⟨n,r,h⟩
 unfold cm;rw[dif_pos hx];exact m_ hx.choose_spec.choose_spec h
section
variable{pos:Pos}
theorem HU{c:Expr}{sb:List Stmt}{t:MT}{body:MB}(hp:PassesOwn (model X.prog X.w) X.A X.env X.xe)(hc:PT X c (tT X E t))(hb:oV X sb (tS X E body)):PS X (.While c sb [] pos) (tS X E (cm t body)):=by
 refine PS.imp (GO hp hc hb) ?_;rintro D σ H ⟨μ,ρ,st,rs,sr,h⟩;unfold cm at h;split at h
 .rename_i hx;have hr:=hx.choose_spec.choose_spec;refine⟨λm σ' H'=>∃μ' ρ' aH r,aZ ρ H ρ' H'/\RS (wo X) ρ' H' μ' σ'/\SR X.K ρ' aH H'/\ik t body m μ' aH=some r/\wS (wo X) E ρ' H' D r,⟨_,μ,ρ,st,_,aZ.refl _ _,rs,sr,hr,h⟩,?_⟩;rintro m σ' H' ⟨μ',ρ',aH,r,e',zZ,DJ,hw,hq⟩;cases m with
  |zero=>cases hw
  |succ m=>
   unfold ik at hw;refine⟨μ',ρ',aH,zZ,DJ,?_⟩;cases z:t μ' aH with
   |ok k st1=>
    rw[z]at hw;intro ρ1 H1 k' e1 dh ek;cases ek;cases k with
    |true=>
     dsimp only at hw;rw[Vs rfl];refine⟨λσ2 H2=>∃μ2 ρ2 b8 r2,aZ ρ H ρ2 H2/\RS (wo X) ρ2 H2 μ2 σ2/\SR X.K ρ2 b8 H2/\ik t body m μ2 b8=some r2/\wS (wo X) E ρ2 H2 D r2,λσ2 H2 n=>⟨m,Ye m,n⟩,μ',ρ1,st1,zZ.mono e1,dh,?_⟩;cases zb:body μ' st1 with
     |nx μ4 pV=>
      rw[zb]at hw;intro ρ4 H4 σ4 e4 tV B?;exact⟨μ4,ρ4,pV,r,(e'.trans e1).trans e4,B?,tV,hw,wS.mono hq (e1.trans e4)⟩
     |ct μ4 pV=>
      rw[zb]at hw;intro ρ4 H4 σ4 e4 tV B?;exact⟨μ4,ρ4,pV,r,(e'.trans e1).trans e4,B?,tV,hw,wS.mono hq (e1.trans e4)⟩
     |bk μ4 pV=>rw[zb]at hw;cases hw;exact λρ4 H4 σ4 e4 tV B?=>hq ρ4 H4 σ4 (e1.trans e4) tV B?
     |rt v pV=>rw[zb]at hw;cases hw;exact λρ4 H4 σ4 e4 tV B?=>hq ρ4 H4 σ4 (e1.trans e4) tV B?
     |er c μ4 pV=>rw[zb]at hw;cases hw;obtain⟨C,q1,q2⟩:=hq;exact⟨C,q1,λρ4 H4 e4 tV=>q2 ρ4 H4 (e1.trans e4) tV⟩
     |bad=>rw[zb]at hw;cases hw;exact hq
    |false=>
     cases hw;rw[VE VY];exact hq ρ1 H1 σ' e1 dh (zZ.mono e1)
   |err c st1=>rw[z]at hw;cases hw;exact hq
   |bad=>rw[z]at hw;cases hw;exact hq
 .exact h.elim
end
def iS(k:Nat)(bE:List Nat)(μ:Env):Env:=List.replicate k none++bE.map λj=>(μ[j]?).getD none
theorem RS.cap{W:Wo}{μ:Env}{σ:L2.St}(r:RS W ρ H μ σ)(k:Nat)(bE:List Nat):RS W ρ H (iS k bE μ) (tP k bE σ):=by
 refine⟨by simp[iS,tP],λi u e=>?_⟩;unfold iS at e;rcases WD i k with q|q
 .rw[V4 (by rw[V0];exact q),W6,Vs q]at e;cases e
 .rw[V3 (by rw[V0];exact q),V0,Vu]at e;cases z:bE[i-k]? with
  |none=>rw[z]at e;cases e
  |some j=>
   rw[z]at e;have e':(μ[j]?).getD none=some u:=VU e;have e2:μ[j]?=some (some u):=by
    cases y:μ[j]? with
    |none=>rw[y]at e';cases e'
    |some w=>rw[y]at e';exact WR _ e'
   obtain⟨v,h1,h2⟩:=r.at_ j u e2;refine⟨v,?_,h2⟩;unfold tP;rw[V3 (by rw[V0];exact q),V0,Vu,z];show some ((σ[j]?).getD none)=_;rw[h1];rfl
open Classical in
def dX(g:af->Prop)(a:AS)(c:MT)(e:ME):List aj->Env->af->List aj->eZ (List aj)
 |[],_,st,ys=>if g st then .ok ys st else .bad
 |u::us,τ,st,ys=>if g st then(match a u τ with
  |some τ1=>match c τ1 st with
   |.ok true st1=>match e τ1 st1 with
    |.ok y b8=>dX g a c e us τ1 b8 (ys++[y])
    |.err _ _=>.bad
    |.bad=>.bad
   |.ok false st1=>dX g a c e us τ1 st1 ys
   |.err _ _=>.bad
   |.bad=>.bad
  |none=>.bad)else .bad
def dI(k:Nat)(bE:List Nat)(it:MI)(a:AS)(c:MT)(e:ME):ME:=λμ st=>(it μ st).bind λp st1=>
 if p.1.length<=sizeLine then(dX p.2 a c e p.1 (iS k bE μ) st1 []).bind λys b8=>.ok (.loc b8.length) (b8++[.lst ys])else .bad
def bI:MT:=λ_ st=>.ok true st
abbrev W0(X:Cx):Wo:=⟨X.K,X.mg,[]⟩
section
variable{pos Hh:Pos}{cl:List (Str×_l)}{it:MI}{a:AS}{c:MT}{e:ME}
theorem xT(TB:X.pn=[]){σ:L2.St}(h:tE X E (dI k bE it a c e) σ H Q):u_ k bE (tI X E it) (tA (W0 X) a) (tG (W0 X) E0 RB c) (tG (W0 X) E0 (Rl X.K) e) σ H Q:=by
 obtain⟨μ,ρ,st,rs,sr,h⟩:=h;refine He (go (R1:=PL X.K) μ ρ st rs sr h λpr st1 ρ1 H1 J e1 dh rJ h1=>?_);obtain⟨us,g⟩:=pr;have ew:wo X=W0 X:=by show Wo.mk _ _ _=_;rw[TB]
 have Ry:=rs.mono e1;rw[ew]at Ry h1;dsimp only at h1;split at h1
 .rename_i hz;refine Ld us.length hz (λi ys τ H'=>∃μτ ρ' aH yv,aZ ρ1 H1 ρ' H'/\RS (W0 X) ρ' H' μτ τ/\SR X.K ρ' aH H'/\bu X.K ρ' H' yv ys/\yv.length<=i/\wR (W0 X) E (Rl X.K) ρ' H' Q ((dX g a c e (us.drop i) μτ aH yv).bind λ(zs:List aj)(b8:af)=>eZ.ok (aj.loc b8.length) (b8++[a!.lst zs])))
   ⟨iS k bE μ,ρ1,st1,[],aZ.refl _ _,Ry.cap k bE,dh,bu.nil,Vv _,h1⟩ ?_ ?_ ?_ ?_ ?_
  .rintro i ys τ H' hi ⟨μτ,ρ',aH,yv,e',zZ,DJ,ry,hl,hq⟩;rw[WW hi]at hq;unfold dX at hq;by_cases wQ:g aH
   .exact((rJ ρ' aH H' e' DJ wQ i).1 _ (Vo hi)).1
   .rw[VE wQ]at hq;exact hq.elim
  .rintro ys τ H' ⟨μτ,ρ',aH,yv,e',zZ,DJ,ry,hl,hq⟩;rw[Zx]at hq;unfold dX at hq;by_cases wQ:g aH
   .exact(rJ ρ' aH H' e' DJ wQ us.length).2 (Vv _)
   .rw[VE wQ]at hq;exact hq.elim
  .rintro i ys τ H' ⟨μτ,ρ',aH,yv,e',zZ,DJ,ry,hl,hq⟩;rw[<-ry.length];exact hl
  .rintro i ys τ H' x H2 hi ⟨μτ,ρ',aH,yv,e',zZ,DJ,ry,hl,hq⟩ y K1 hK;rw[WW hi]at hq;unfold dX at hq;by_cases wQ:g aH
   .rw[Vs wQ]at hq;obtain⟨e2,p!,r2⟩:=((rJ ρ' aH H' e' DJ wQ i).1 _ (Vo hi)).2 x H2 y;cases z:a us[i] μτ with
    |none=>rw[z]at hq;exact hq.elim
    |some τ1=>
     rw[z]at hq;dsimp only at hq;refine⟨μτ,ρ',us[i],τ1,zZ.mono e2,r2,z,λσ3 Kg=>⟨τ1,ρ',aH,Kg,p!,?_⟩⟩;cases zc:c τ1 aH with
     |ok b oX=>
      rw[zc]at hq;intro ρ3 H3 b' e3 GB eb;cases eb;cases b with
      |true=>
       dsimp only at hq;rw[Vs rfl];refine⟨τ1,ρ3,oX,Kg.mono e3,GB,?_⟩;cases ze:e τ1 oX with
       |ok v pV=>
        rw[ze]at hq;intro ρ4 H4 y4 e4 tV r4;exact hK _ _ _ ⟨τ1,ρ4,pV,yv++[v],((e'.trans e2).trans e3).trans e4,(Kg.mono e3).mono e4,tV,(bu.mono ((e2.trans e3).trans e4) _ _ ry).append (bu.one r4),by rw[Vm,VO];lia,wR.mono hq ((e2.trans e3).trans e4)⟩
       |err c' pV=>rw[ze]at hq;exact hq.elim
       |bad=>rw[ze]at hq;exact hq.elim
      |false=>
       dsimp only at hq;rw[VE VY];exact hK _ _ _ ⟨τ1,ρ3,oX,yv,(e'.trans e2).trans e3,Kg.mono e3,GB,bu.mono (e2.trans e3) _ _ ry,by lia,wR.mono hq (e2.trans e3)⟩
     |err c' oX=>rw[zc]at hq;exact hq.elim
     |bad=>rw[zc]at hq;exact hq.elim
   .rw[VE wQ]at hq;exact hq.elim
  .rintro ys τ H' p ⟨μτ,ρ',aH,yv,e',zZ,DJ,ry,hl,hq⟩ hp;rw[Zx]at hq;unfold dX at hq;by_cases wQ:g aH
   .rw[Vs wQ]at hq;obtain⟨k1,k2,k3⟩:=iB DJ ry hp;exact hq _ _ _ k1 k2 k3
   .rw[VE wQ]at hq;exact hq.elim
 .exact h1.elim
theorem f7(hc:X.calm=true)(TB:X.pn=[])(B:u9 X N scope cl k bE)(hi:PI X tg iter (tI X E it))(hg:∀C fp s H,PG (wO X N scope cl C fp s H) tg (tA (W0 X) a))(O9:∀C fp s H,Dt (wO X N scope cl C fp s H) ifs (tG (W0 X) E0 RB c))(he:∀C fp s H,PE (wO X N scope cl C fp s H) elt (tG (W0 X) E0 (Rl X.K) e))(hs:∀x,foldedSetIterable iter X.env x=pure x:=by intro _;rfl):PE X (.ListComp elt [⟨tg,iter,ifs,0⟩] scope pos) (tE X E (dI k bE it a c e)):=
 PE.imp (Lc hc B hi hg O9 he hs) λ_ _ _ h=>xT TB h
theorem jn(i:Nat){y:Str}{py:Pos}(hN:X.N.Nodup)(hc:X.calm=true)(TB:X.pn=[])(B:u9 X N scope cl k bE)(hi:PI X tg iter (tI X E it))(hg:∀C fp s H,PG (wO X N scope cl C fp s H) tg (tA (W0 X) a))(O9:∀C fp s H,Dt (wO X N scope cl C fp s H) ifs (tG (W0 X) E0 RB c))(he:∀C fp s H,PE (wO X N scope cl C fp s H) elt (tG (W0 X) E0 (Rl X.K) e))(hy:X.N[i]?=some y:=by rfl)(hx:Loc X.env.scope y:=by first|exact Or.inl rfl|exact Or.inr rfl)(hsw:swapsWith (.ListComp elt [⟨tg,iter,ifs,0⟩] scope pos) (some (.Name y py)) Hh.line X.env=pure true:=by rfl)(hs:∀x,foldedSetIterable iter X.env x=pure x:=by intro _;rfl)(hf:X.fn y=true\/X.env.scope.names.lookup y=some .local:=by first|exact .inl rfl|exact .inr rfl|assumption):
  PS X (.Assign [.Name y py] (.ListComp elt [⟨tg,iter,ifs,0⟩] scope pos) Hh) (tS X E (aJ i (dI k bE it a c e))):=
 PS.imp (L2.B0 hN hy hx hc B hi hg O9 he hsw hs hf) λ_ _ _ h=>xT TB (Ay h)
theorem LH{C fp s H}:Dt (wO X N scope cl C fp s H) [] (tG (W0 X) E0 RB bI):=by intro ae s' σ H' Q I q;refine K? ae s' σ H' Q I ?_;obtain⟨μ,ρ,st,rs,sr,h⟩:=q;exact h ρ H' true (aZ.refl _ _) sr rfl
theorem LI{cc:Expr}{C fp s H}(h:PT (wO X N scope cl C fp s H) cc (tG (W0 X) E0 RB c)):Dt (wO X N scope cl C fp s H) [cc] (tG (W0 X) E0 RB c):=K' h
theorem TC{w:World}{C fp s H}:Passes (p9 P w) (wO X N scope cl C fp s H) E0:=by rintro ae σ H' s' e s2 I ⟨ea,cls,H2,_,_,q⟩;exact q.elim
end
abbrev FM:=aj->List aj->af->eZ aj
def TF(W:Wo)(E:XK)(f:FM):V->List V->Hp->VK->Prop:=λx xs H Q=>∃ρ st u us,SR W.K ρ st H/\Rl W.K ρ H u x/\bu W.K ρ H us xs/\wR W E (Rl W.K) ρ H Q (f u us st)
def sV(st:af):aj->Bool
 |.loc n=>match st[n]? with
  |some (.lst _)=>true
  |_=>false
 |_=>false
def jN(f:FM)(o:ME)(a:MA):ME:=λμ st=>(o μ st).bind λx st1=>if sV st1 x=true then(a μ st1).bind λxs b8=>f x xs b8 else .bad
def dF:FM
 |.loc n,[v],st=>match st[n]? with
  |some (.lst us)=>if us.length<sizeLine then .ok .dD (st.set n (.lst (us++[v])))else .bad
  |_=>.bad
 |_,_,_=>.bad
section
variable{e:Expr}{mo:ME}{ms:MA}{f:FM}
theorem Dm.imp{id:String}{r r':V->List V->Hp->VK->Prop}(h:Dm X id r)(k:∀x xs H Q,r' x xs H Q->r x xs H Q):Dm X id r':=λae s σ H x xs v us Q I rx rs q=>h ae s σ H x xs v us Q I rx rs (k x xs H Q q)
theorem uA{K:_c}{st:af}{n:Nat}{us us':List aj}{a:_l}{vs PB:List V}(sr:SR K ρ st H)(h:st[n]?=some (.lst us))(ha:ρ[n]?=some a)(hH:H a=some (.lst vs))(r:bu K ρ H us' PB):
  aZ ρ H ρ (upd H a (.lst PB))/\SR K ρ (st.set n (.lst us')) (upd H a (.lst PB)):=by
 have e:aZ ρ H ρ (upd H a (.lst PB)):=aZ.put hH (λ_ z=>by cases z) (λ_ _ z=>by cases z);exact⟨e,sr.set h rfl rfl ha hH (λ_ z=>by cases z) (λ_ _ z=>by cases z) ⟨PB,b_,bu.mono e _ _ r⟩⟩
theorem Ca:Dm X "list.append" (TF (wo X) E dF):=by
 refine Dm.imp ER ?_;rintro x xs H Q ⟨ρ,st,u,us,sr,r1,r2,h⟩;unfold dF at h;split at h
 .rename_i n v;obtain⟨a,rfl,ha⟩:=r1.fQ;obtain⟨y,rfl,ry⟩:=r2.B3;split at h
  .rename_i ws hw;split at h
   .rename_i hz;obtain⟨vs,hH,rv⟩:=sr.cell n _ a hw ha;refine⟨a,vs,y,rfl,rfl,hH,by rw[<-rv.length];exact hz,?_⟩;obtain⟨k1,k2⟩:=uA sr hw ha hH (rv.append (bu.one ry));exact h ρ _ _ k1 k2 Rl.Au
   .exact h.elim
  .exact h.elim
 .exact h.elim
theorem AA{K:_c}{st:af}{u:aj}{x:V}(sr:SR K ρ st H)(r:Rl K ρ H u x)(h:sV st u=true):Vh K "list" x H:=by
 cases u with
 |loc n=>
  obtain⟨a,rfl,ha⟩:=r.fQ;obtain⟨c,hc,kc⟩:=sr.there ha;simp only[sV,hc]at h;cases c with
  |lst us=>obtain⟨vs,h1,_⟩:=kc;exact .inl ⟨rfl,vs,oy.of h1⟩
  |_=>cases h
 |_=>cases h
theorem HV{id:String}(slot:Slot "list" name id)(OU:typeOf (.builtin id)=pure (.type "method_descriptor"))(hm:Dm X id (TF (wo X) E f))(ho:PE X o (tE X E mo))(ha:PA X (e::es) (tL X E ms))(ki:attributeBase o name X.env (eval o X.env)=eval o X.env:=by rfl)
  (BO:((backTo dN (starEach (e::es) X.env)).all (λx => !x.1)&&(backToKw dN (keywordEach [] X.env)).all (λx=>x.1.isSome)
   && decide ((e::es).length+([]:List Keyword).length+(if([]:List Keyword).isEmpty then 0 else 1)<30))=true:=by rfl)
  (kj:(apos.endLine==dN.line)=true:=by rfl) (hs:starEach (e::es) X.env=(false,eval e X.env)::starEach es X.env:=by rfl) (pB:(backTo dN (starEach es X.env)).any (·.1)=false:=by rfl):
  PE X (.Call (.Attribute o name apos) (e::es) [] dN) (tE X E (jN f mo ms)):=by
 refine PE.imp (SN Zi slot OU hm ho ha ki BO kj hs pB) ?_;rintro σ H Q ⟨μ,ρ,st,rs,sr,h⟩;refine go μ ρ st rs sr h λu st1 ρ1 H1 x e1 dh r1 h1=>?_;split at h1
 .rename_i hz;refine⟨AA dh r1 hz,?_⟩;refine go (R1:=bu X.K) μ ρ1 st1 (rs.mono e1) dh h1 λus b8 ρ2 H2 xs e2 p! r2 h2=>?_;exact⟨ρ2,b8,u,us,p!,Rl.mono e2 _ _ r1,r2,h2⟩
 .exact h1.elim
end
inductive ip(X:Cx)(scope:Scope):List (Str×_l)->List Nat->Prop
 |nil:ip X scope [] []
 |cons {y:Str} {c:_l} {j:Nat} {cl:List (Str×_l)} {bE:List Nat} (sub:X.env.cells.lookup y=some c) (hX:X.N[j]?=some y) (hk:X.env.kindOf y=some .cell\/X.env.kindOf y=some .free)
   (hr:(relabel scope X.env).names.lookup y=some .cell\/(relabel scope X.env).names.lookup y=some .free) (r:ip X scope cl bE):ip X scope ((y,c)::cl) (j::bE)
theorem ip.sub{X:Cx}{scope:Scope}{cl:List (Str×_l)}{bE:List Nat}(A:ip X scope cl bE):∀x c,cl.lookup x=some c->X.env.cells.lookup x=some c:=by
 induction A with
 |nil=>intro x c h;cases h
 | @cons y c0 _ _ _ sub _ _ _ _ ih=>
  intro x c h;rw[List.lookup_cons]at h;by_cases e:x=y
  .rw[Yg.mpr e]at h;rw[e];exact sub.trans h
  .rw[WU.mpr e]at h;exact ih x c h
theorem ip.at_{cl:List (Str×_l)}(A:ip X scope cl bE):∀(i j:Nat)(x:Str),bE[i]?=some j->(cl.map (·.1))[i]?=some x ->
  X.N[j]?=some x/\(X.env.kindOf x=some .cell\/X.env.kindOf x=some .free)/\((relabel scope X.env).names.lookup x=some .cell\/(relabel scope X.env).names.lookup x=some .free):=by induction A<;>grind
theorem j7:∀{cl:List (Str×_l)}{x:Str},x∈cl.map (·.1)->∃c,cl.lookup x=some c
 |[],x,h=>by simp at h
 |(y,c)::cl,x,h=>by
  by_cases e:x=y
  .exact⟨c,by simp[e]⟩
  .have e':(x==y)=false:=by simpa using e
   rw[Vq,V_]at h;rcases h with h|h
   .exact absurd h e
   .obtain⟨d,hd⟩:=j7 h;exact⟨d,by simp only[List.lookup_cons,e'];exact hd⟩
theorem TH{cl:List (Str×_l)}(tQ:closureFor scope X.env=pure cl)(A:ip X scope cl bE)(has:((relabel scope X.env).names.all λp => !(p.2 == .cell || p.2 == .free) || (cl.map (·.1)).contains p.1)=true)(gI:(scope.names.all λp => !(p.2 == .cell))=true)(kind:scope.kind=.function)(names:(scope.names.all λp => !(p.2 == .local) || scope.names.lookup p.1==some .local)=true)(len:N.length=k+bE.length)(hN:N.drop k=cl.map (·.1)):u9 X N scope cl k bE where
 tQ:=tQ
 sub:=A.sub
 has:=λx h=>by
  have m:x∈cl.map (·.1):=by rcases h with h|h<;>(have m:=Wy h;have z:=WB.mp has _ m;simpa using z)
  exact j7 m
 gI:=λx hx h=>by have z:=WB.mp gI x hx;simp[h]at z
 kind:=kind
 names:=λx hx h=>by have z:=WB.mp names x hx;simpa[h]using z
 len:=len
 at_:=λi j x h1 h2=>A.at_ i j x h1 (by rw[<-hN,Yj];exact h2)
def FnAt(P:_n)(w:World)(K:_c)(mg:_a)(base:Heap)(x:Str)(k:Nat)(f:FN):Prop:=
 ∃fa fd ps,uY P w K mg base (p9 P w) k fa fd ps (Pr ⟨K,mg,[]⟩ f)/\mg x=some (.ref fa)/\W.keepIn K (.ref fa)=true/\Binds K fd ps []
section
variable{pos p:Pos}{e:Expr}{ms:MA}{f:FN}{j:Nat}
theorem TJ(G:FnAt X.prog X.w X.K X.mg X.base x k f)(hr:gk j X.A)(hk:k<=j)(hg:Gl X x)(hx:Passes (p9 X.prog X.w) X E)(ha:PA X (e::es) (tL X E ms))(Af:(x==("__debug__":Str))=false:=by decide)(he:starEach (e::es) X.env=(false,eval e X.env)::starEach es X.env:=by rfl)(sM:(backTo pos (starEach es X.env)).any (·.1)=false:=by rfl):PE X (.Call (.Name x p) (e::es) [] pos) (tE X E (ao f ms)):=by obtain⟨fa,fd,ps,F,hm,kp,b⟩:=G;exact Lm F (hr.mono hk) hg hm kp b hx ha Af he sM
end
section
variable{w:World}{K:_c}{mg:_a}
theorem FnAt.mk{st:Stmt}{f:_l}{fd:FuncData}{body:MB}(F:G7 K x x st f fd)(hm:mg x=some (.ref f))(S:iz N ps (bb st))(hb:∀(kV doc pm:_j)(an:Option _l)(h_ ct:_j)(us:_e),us.length=ps.length->bindArgs (W.fnOf x x (gS st) (dZ st) (bb st) .none kV doc pm an h_ ct) ⟨us,[]⟩=pure (ps.zip us))
  (h:∀ (h_:_j) (A:_m) (outer:List PySem.Env) (s:_k) (H:Hp) (E:XK),gk k (A.deeper (envOfC x (bb st) s.heap.objs.size f h_)) ->
   oV (jk (p9 P w) P w K mg base N x (bb st) f h_ A outer s H E) (dZ st) (tS (jk (p9 P w) P w K mg base N x (bb st) f h_ A outer s H E) E body)):FnAt P w K mg base x (k+1) (ij ps.length N.length body):=
 ⟨f,fd,ps,Hy F S h,hm,F.kp,F.binds hb⟩
theorem AB{f:_l}{cd:_j}{outer:List PySem.Env}:PassesOwn (model P w) (A.deeper (envOfC qual scope s₀.heap.objs.size f cd)) (envOfC qual scope s₀.heap.objs.size f cd) (jk (p9 P w) P w K mg base N qual scope f cd A outer s₀ H₀ E).xe:=
 PassesOwn.leaving
theorem Cb{f:_l}{cd:_j}{outer:List PySem.Env}:Raises (jk (p9 P w) P w K mg base N qual scope f cd A outer s₀ H₀ E) E:=
 λae σ H s h' e cls vs I hx hE=>E5 I hx hE
theorem Glob.int{i:Int}{t:Tok}(h:mg x=some (.int i t)):Glob K mg x (.int i):=⟨_,.int i,h,⟨t,rfl⟩,λ_ _=>Rl.mkInt i⟩
theorem Glob.ints{a:_l}{o:Obj}{aN:Array _j}{n:Nat}(h:mg x=some (.ref a))(l:K.lookup a=some o)(hc:o.cls=.type "tuple")(hd:o.data=.seq aN n)(hz:aN.size<=sizeLine)(hv:bt (ns.map V.int) aN.toList):Glob K mg x (.mt (ns.map .int)):=
 ⟨_,.ref a,h,rfl,λρ H=>Rl.aaT (.inr ⟨o,aN,n,l,hc,hd,hz,hv⟩) (bu.ints ns)⟩
end
abbrev bmV:_e:=[.type "ValueError",.type "Exception",.type "BaseException",.type "object"]
def PV(K:_c)(mg:_a)(x:Str):Prop:=∃C,mg x=some (.ref C)/\W.excIn K C bmV "ValueError.__new__" = true/\W.subIn K (.ref C) (.type "BaseException")=some true
section
variable{pos np p:Pos}{n:Str}{ms:MA}{i:Nat}{b₀:Stmt}{abG:List Stmt}{rest:List ExceptHandler}{tab:List (Str×Str×Bool)}{s:MB}{r:MH}
theorem Fi(hX:Raises X E)(hc:X.calm=true)(h:PV X.K X.mg x)(hg:Gl X x)(ha:PA X (e₀::es) (tL X E ms))(he:starEach (e₀::es) X.env=(false,eval e₀ X.env)::starEach es X.env:=by rfl)(sM:(backTo dN (starEach es X.env)).any (·.1)=false:=by rfl)(hd:(x==("__debug__":Str))=false:=by decide):
  PS X (.Raise (some (.Call (.Name x np) (e₀::es) [] dN)) none pos) (tS X E (m9 x ms)):=by
 obtain⟨C,hm,hq,_⟩:=h;exact Hx hX hc hm hq PySem.F.excBase_ValueError hg ha he sM hd
end
section
variable[DecidableEq κ]
def rp(aY:List (κ×aj))(k:κ):Option aj:=(aY.find? λkv=>decide (kv.1=k)).map (·.2)
def yK(aY:List (κ×aj))(k:κ)(v:aj):List (κ×aj):=
 if(aY.any λkv=>decide (kv.1=k))=true then aY.map (λkv=>if kv.1=k then(kv.1,v)else kv)else aY++[(k,v)]
variable{K:_c}
theorem jM.nil:jM K ρ H ([]:List (κ×aj)) []:=⟨rfl,bu.nil⟩
theorem jM.cons{k:κ}{u:aj}{v:V}{aY:List (κ×aj)}{iJ:List (κ×V)}(r:Rl K ρ H u v)(p:jM K ρ H aY iJ):jM K ρ H ((k,u)::aY) ((k,v)::iJ):=
 ⟨by simp only[Vq,p.1],bu.cons r p.2⟩
theorem jM.cW{k:κ}{u:aj}{aY:List (κ×aj)}{l:List (κ×V)}(p:jM K ρ H ((k,u)::aY) l):∃v iJ,l=(k,v)::iJ/\Rl K ρ H u v/\jM K ρ H aY iJ:=by
 obtain⟨h1,h2⟩:=p;cases l with
 |nil=>simp at h1
 |cons x l=>
  obtain⟨k',v⟩:=x;simp only[Vq,List.cons.injEq]at h1 h2;obtain⟨rfl,h1⟩:=h1;obtain⟨v',r,e,q1,q2⟩:=h2.cW;simp only[List.cons.injEq]at e;obtain⟨rfl,rfl⟩:=e;exact⟨v,l,rfl,q1,h1,q2⟩
theorem jM.gB{l:List (κ×V)}(p:jM K ρ H ([]:List (κ×aj)) l):l=[]:=by
 have:=p.1;cases l with
 |nil=>rfl
 |cons=>simp at this
theorem jM.mono{aY:List (κ×aj)}{l:List (κ×V)}(p:jM K ρ H aY l)(e:aZ ρ H ρ' H'):jM K ρ' H' aY l:=⟨p.1,bu.mono e _ _ p.2⟩
theorem jM.length{aY:List (κ×aj)}{l:List (κ×V)}(p:jM K ρ H aY l):aY.length=l.length:=by have:=WR List.length p.1;simpa using this
theorem jM.val(k:κ):∀{aY:List (κ×aj)}{l:List (κ×V)},jM K ρ H aY l->(rp aY k=none/\kM l k=none)\/∃u v,rp aY k=some u/\kM l k=some v/\Rl K ρ H u v
 |[],l,p=>by rw[p.gB];exact .inl ⟨rfl,rfl⟩
 |(k',u)::aY,l,p=>by
  obtain⟨v,l',rfl,r,p'⟩:=p.cW;by_cases e:k'=k
  .exact .inr ⟨u,v,by simp[rp,e],by simp[kM,e],r⟩
  .rcases jM.val k p' with⟨h1,h2⟩|⟨u',v',h1,h2,h3⟩
   .exact .inl ⟨by simpa[rp,e]using h1,by simpa[kM,e]using h2⟩
   .exact .inr ⟨u',v',by simpa[rp,e]using h1,by simpa[kM,e]using h2,h3⟩
theorem jM.any(k:κ):∀{aY:List (κ×aj)}{l:List (κ×V)},jM K ρ H aY l->(aY.any λkv=>decide (kv.1=k))=l.any λkv=>decide (kv.1=k)
 |[],l,p=>by rw[p.gB];rfl
 |(k',u)::aY,l,p=>by obtain⟨v,l',rfl,r,p'⟩:=p.cW;simp only[XZ,jM.any k p']
theorem jM.BW(k:κ){u:aj}{v:V}(r:Rl K ρ H u v):∀{aY:List (κ×aj)}{l:List (κ×V)},jM K ρ H aY l->jM K ρ H (aY.map λkv=>if kv.1=k then(kv.1,u)else kv) (l.map λkv=>if kv.1=k then(kv.1,v)else kv)
 |[],l,p=>by rw[p.gB];exact jM.nil
 |(k',u')::aY,l,p=>by
  obtain⟨v',l',rfl,r',p'⟩:=p.cW;simp only[Vq];by_cases e:k'=k
  .rw[Vs e,Vs e];exact jM.cons r (jM.BW k r p')
  .rw[VE e,VE e];exact jM.cons r' (jM.BW k r p')
theorem jM.snoc{k:κ}{u:aj}{v:V}(r:Rl K ρ H u v):∀{aY:List (κ×aj)}{l:List (κ×V)},jM K ρ H aY l->jM K ρ H (aY++[(k,u)]) (l++[(k,v)])
 |[],l,p=>by rw[p.gB];exact jM.cons r jM.nil
 |(k',u')::aY,l,p=>by obtain⟨v',l',rfl,r',p'⟩:=p.cW;exact jM.cons r' (jM.snoc r p')
theorem jM.put(k:κ){u:aj}{v:V}(r:Rl K ρ H u v){aY:List (κ×aj)}{l:List (κ×V)}(p:jM K ρ H aY l):jM K ρ H (yK aY k u) (putK l k v):=by
 unfold yK putK;rw[p.any k];split
 .exact p.BW k r
 .exact p.snoc r
end
def vm:aj->Option fG
 |.int i=>some (.inl i)
 |.str x=>some (.inr x)
 |_=>none
def keysOf:List aj->Option (List fG)
 |[]=>some []
 |u::us=>match vm u,keysOf us with
  |some k,some ks=>some (k::ks)
  |_,_=>none
def vo:aj->Option (List fG)
 |.tup us=>keysOf us
 |_=>none
section
variable{K:_c}
theorem yL{u:aj}{v:V}{k:fG}(r:Rl K ρ H u v)(h:vm u=some k):v=kV k:=by
 cases u with
 |int i=>cases h;exact r.cy
 |str x=>cases h;exact r.mJ
 |_=>cases h
theorem AD:∀{us:List aj}{vs:List V}{ks:List fG},bu K ρ H us vs->keysOf us=some ks->vs=ks.map kV
 |[],vs,ks,r,h=>by cases h;exact r.gB
 |u::us,vs,ks,r,h=>by
  obtain⟨v,r',rfl,h2,h3⟩:=r.cW;unfold keysOf at h;split at h
  .rename_i k ks' e1 e2;cases h;rw[yL h2 e1,AD h3 e2];rfl
  .cases h
theorem AE{u:aj}{v:V}{ks:List fG}(r:Rl K ρ H u v)(h:vo u=some ks):∃b,v=.ref b/\H b=some (.tup (ks.map kV)):=by
 cases u with
 |tup us=>
  obtain⟨b,vs,rfl,hb,rb⟩:=r.To;rw[AD rb h]at hb;exact⟨b,rfl,hb⟩
 |_=>cases h
end
def DK(st:af)(d k:aj):Option (Option aj):=match d with
 |.loc n=>match st[n]? with
  |some (.dK aY)=>(vm k).map λq=>rp aY q
  |some (.dT aY)=>(vo k).map λq=>rp aY q
  |_=>none
 |_=>none
def rA(st:af)(d k v:aj):Option af:=match d with
 |.loc n=>match st[n]? with
  |some (.dK aY)=>if aY.length<sizeLine then(vm k).map λq=>st.set n (.dK (yK aY q v))else none
  |some (.dT aY)=>if aY.length<sizeLine then(vo k).map λq=>st.set n (.dT (yK aY q v))else none
  |_=>none
 |_=>none
theorem Fj{K:_c}{st:af}{d k:aj}{x y:V}{o:Option aj}(sr:SR K ρ st H)(rd:Rl K ρ H d x)(rk:Rl K ρ H k y)(h:DK st d k=some o):
  ∃a o',x=.ref a/\w_ H a y o'/\IsD H a/\((o=none/\o'=none)\/∃u v,o=some u/\o'=some v/\Rl K ρ H u v):=by
 cases d with
 |loc n=>
  obtain⟨a,rfl,ha⟩:=rd.fQ;unfold DK at h;dsimp only at h;split at h
  .rename_i aY e;obtain⟨l,hl,p⟩:=sr.cell n _ a e ha;cases z:vm k with
   |none=>rw[z]at h;cases h
   |some q=>
    rw[z]at h;cases h;have:=yL rk z;subst this;exact⟨a,kM l q,rfl,w_.k hl,.inl ⟨l,.inl hl⟩,p.val q⟩
  .rename_i aY e;obtain⟨l,hl,p⟩:=sr.cell n _ a e ha;cases z:vo k with
   |none=>rw[z]at h;cases h
   |some q=>
    rw[z]at h;cases h;obtain⟨b,rfl,hb⟩:=AE rk z;exact⟨a,kM l q,rfl,w_.t hl hb,.inr ⟨l,.inl hl⟩,p.val q⟩
  .cases h
 |_=>cases h
theorem Cc{K:_c}{st aH:af}{d k v:aj}{x y z:V}(sr:SR K ρ st H)(rd:Rl K ρ H d x)(rk:Rl K ρ H k y)(rv:Rl K ρ H v z)(h:rA st d k v=some aH):
  ∃a H',x=.ref a/\yG H a y z H'/\aZ ρ H ρ H'/\SR K ρ aH H':=by
 cases d with
 |loc n=>
  obtain⟨a,rfl,ha⟩:=rd.fQ;unfold rA at h;dsimp only at h;split at h
  .rename_i aY e;obtain⟨l,hl,p⟩:=sr.cell n _ a e ha;split at h
   .rename_i hz;cases zk:vm k with
    |none=>rw[zk]at h;cases h
    |some q=>
     rw[zk]at h;cases h;have:=yL rk zk;subst this;have st1:aZ ρ H ρ (upd H a (.dK (putK l q z))):=aZ.put hl (λ_ z=>by cases z) (λ_ _ z=>by cases z);exact⟨a,_,rfl,yG.k hl (by rw[<-p.length];exact hz),st1,sr.set e rfl rfl ha hl (λ_ z=>by cases z) (λ_ _ z=>by cases z) ⟨_,b_,(p.put q rv).mono st1⟩⟩
   .cases h
  .rename_i aY e;obtain⟨l,hl,p⟩:=sr.cell n _ a e ha;split at h
   .rename_i hz;cases zk:vo k with
    |none=>rw[zk]at h;cases h
    |some q=>
     rw[zk]at h;cases h;obtain⟨b,rfl,hb⟩:=AE rk zk;have st1:aZ ρ H ρ (upd H a (.dT (putK l q z))):=aZ.put hl (λ_ z=>by cases z) (λ_ _ z=>by cases z);exact⟨a,_,rfl,yG.t hl hb (by rw[<-p.length];exact hz),st1,sr.set e rfl rfl ha hl (λ_ z=>by cases z) (λ_ _ z=>by cases z) ⟨_,b_,(p.put q rv).mono st1⟩⟩
   .cases h
  .cases h
 |_=>cases h
def yM:ME:=λ_ st=>.ok (.loc st.length) (st++[.dK []])
def sW:F2:=λd k st=>match DK st d k with
 |some (some v)=>.ok v st
 |_=>.bad
def yN(d k v:ME):MB:=λμ st=>(v μ st).sb μ λvv st1=>(d μ st1).sb μ λdv b8=>(k μ b8).sb μ λkv oX=>match rA oX dv kv vv with
 |some pV=>.nx μ pV
 |none=>.bad
section
variable{pos:Pos}{i e f:Expr}{md mk mv mx:ME}
theorem HW{K:_c}{st:af}(sr:SR K ρ st H){p:_l}(hp:H p=none){ob:HO}{c:a!}(k:iK K (ρ++[p]) (upd H p ob) c p):
  aZ ρ H (ρ++[p]) (upd H p ob)/\SR K (ρ++[p]) (st++[c]) (upd H p ob)/\Rl K (ρ++[p]) (upd H p ob) (.loc st.length) (.ref p):=by
 refine⟨aZ.snoc p (fe hp),sr.alloc hp k,Rl.Ht ?_⟩;rw[<-sr.len,V3 (Vv _),WY];rfl
theorem HX:PE X (.Dict [] [] pos) (tE X E yM):=by refine PE.imp Hc ?_;rintro σ H Q ⟨μ,ρ,st,rs,sr,h⟩ p hp;obtain⟨k1,k2,k3⟩:=HW (c:=.dK []) sr hp ⟨[],b_,jM.nil⟩;exact h _ _ _ k1 k2 k3
theorem LJ(hu:X.A.units+64<cLine)(ho:PE X o (tE X E md))(hi:PE X i (tE X E mk))(hs:O4 i:=by exact λ_ _=>rfl):PE X (.Subscript o i pos) (tE X E (ai sW md mk)):=by
 refine PE.imp (K9 (by lia) ho hi hs) ?_;rintro σ H Q ⟨μ,ρ,st,rs,sr,h⟩;refine go μ ρ st rs sr h λd st1 ρ1 H1 x e1 dh r1 h1=>?_;refine go μ ρ1 st1 (rs.mono e1) dh h1 λk b8 ρ2 H2 y e2 p! r2 h2=>?_;unfold sW at h2;split at h2
 .rename_i u hl;obtain⟨a,o',rfl,hd,_,hv⟩:=Fj p! (Rl.mono e2 _ _ r1) r2 hl;rcases hv with⟨z,_⟩|⟨u',v,z,rfl,rv⟩
  .cases z
  .cases z;exact⟨a,v,rfl,hd,h2 ρ2 H2 v (aZ.refl _ _) p! rv⟩
 .exact h2.elim
theorem LK(hu:X.A.units+64<cLine)(ho:PE X o (tE X E md))(hi:PE X i (tE X E mk))(hv:PE X value (tE X E mv))(hs:swapsWith value (some (.Subscript o i pos')) pos.line X.env=pure false:=by rfl):
  PS X (.Assign [.Subscript o i pos'] value pos) (tS X E (yN md mk mv)):=by
 refine PS.imp (K_ (by lia) ho hi hv hs) ?_;rintro D σ H ⟨μ,ρ,st,rs,sr,h⟩;refine Bx μ ρ st rs sr h λv st1 ρ1 H1 z e1 dh r1 h1=>?_;refine Bx μ ρ1 st1 (rs.mono e1) dh h1 λd b8 ρ2 H2 x e2 p! r2 h2=>?_;refine Bx μ ρ2 b8 ((rs.mono e1).mono e2) p! h2 λk oX ρ3 H3 y e3 GB r3 h3=>?_;split at h3
 .rename_i pV yt;obtain⟨a,H4,rfl,hd,s4,tV⟩:=Cc GB (Rl.mono e3 _ _ r2) r3 (Rl.mono (e2.trans e3) _ _ r1) yt;exact⟨a,H4,rfl,hd,h3 ρ3 H4 σ s4 tV ((((rs.mono e1).mono e2).mono e3).mono s4)⟩
 .exact h3.elim
end
section
variable{ms:MA}{pos:Pos}
theorem Ce{a b:Expr}{ma mb:ME}(ha:PE X a (tE X E ma))(hb:PE X b (tE X E mb))(hs:yz b:=by exact λ_ _=>rfl):PE X (.Subscript a b pos) (tE X E (ai bS ma mb)):=Tu aaY ha hb hs
end
def xb(us:List aj)(lo hi:Option Int):List aj:=(us.drop (HT.gQ us.length 0 lo)).take (HT.gQ us.length us.length hi-HT.gQ us.length 0 lo)
theorem bu.cut{K:_c}{us:List aj}{vs:List V}(r:bu K ρ H us vs)(lo hi:Option Int):bu K ρ H (xb us lo hi) (yx vs lo hi):=by unfold xb yx;rw[r.length];exact bu.take _ (bu.drop _ r)
abbrev MO:=Env->af->eZ (Option Int)
abbrev RO:_h->Hp->Option Int->Option Int->Prop:=λ_ _ a b=>b=a
abbrev tOo(X:Cx)(E:XK)(m:MO):TO:=tG (wo X) E RO m
def jQ:MO:=λ_ st=>.ok none st
def jR(m:ME):MO:=λμ st=>(m μ st).bind λv aH=>match v with
 |.int i=>.ok (some i) aH
 |_=>.bad
def GC(lo hi:Option Int):aj->af->eZ aj
 |.tup us,st=>if HT.gQ us.length 0 lo=0/\HT.gQ us.length us.length hi=us.length then .bad else .ok (.tup (xb us lo hi)) st
 |.loc n,st=>match ar st n with
  |some us=>.ok (.loc st.length) (st++[.lst (xb us lo hi)])
  |none=>.bad
 |_,_=>.bad
def Ci(a:ME)(lo hi:MO):ME:=λμ st=>(a μ st).bind λx st1=>(lo μ st1).bind λl b8=>(hi μ b8).bind λh oX=>GC l h x oX
section
variable{pos:Pos}{e:Expr}{m:ME}
theorem PO.imp{e:Option Expr}{t t':TO}(h:PO X e t)(k:∀σ H Q,t' σ H Q->t σ H Q):PO X e t':=λae s σ H Q I q=>h ae s σ H Q I (k σ H Q q)
theorem LL:PO X none (tOo X E jQ):=PO.imp KU λσ H Q⟨μ,ρ,st,rs,sr,h⟩=>h ρ H none (aZ.refl _ _) sr rfl
theorem LM(h:PE X e (tE X E m)):PO X (some e) (tOo X E (jR m)):=by
 refine PO.imp (KW h) ?_;rintro σ H Q ⟨μ,ρ,st,rs,sr,h⟩;refine go μ ρ st rs sr h λu st1 ρ1 H1 x e1 dh r1 h1=>?_;cases u with
 |int i=>exact⟨i,r1.cy,h1 ρ1 H1 (some i) (aZ.refl _ _) dh rfl⟩
 |_=>exact h1.elim
theorem TK{lo hi:Option Expr}{ml mh:MO}(he:PE X e (tE X E m))(hl:PO X lo (tOo X E ml))(hh:PO X hi (tOo X E mh)):PE X (.Subscript e (.Slice lo hi none p2) pos) (tE X E (Ci m ml mh)):=by
 refine PE.imp (GZ (Nb.or K0 OP) he hl hh) ?_;rintro σ H Q ⟨μ,ρ,st,rs,sr,h⟩;refine go μ ρ st rs sr h λu st1 ρ1 H1 x e1 dh r1 h1=>?_;refine go (R1:=RO) μ ρ1 st1 (rs.mono e1) dh h1 λl b8 ρ2 H2 l' e2 p! r2 h2=>?_;cases r2;refine go (R1:=RO) μ ρ2 b8 ((rs.mono e1).mono e2) p! h2 λk oX ρ3 H3 k' e3 GB r3 h3=>?_;cases r3;have ru:=Rl.mono e3 _ _ (Rl.mono e2 _ _ r1);cases u with
 |tup us=>
  obtain⟨a,vs,rfl,ha,ra⟩:=ru.i';unfold GC at h3;dsimp only at h3;split at h3
  .exact h3.elim
  .rename_i hz;refine .inr ⟨a,vs,rfl,ha,by rw[<-ra.length];exact hz,λp hp=>?_⟩;have s:=fe (o:=.tup (yx vs l k)) hp;exact h3 ρ3 _ _ (aZ.same s) (GB.grow s) (Rl.xK b_ (bu.mono (aZ.same s) _ _ (ra.cut l k)))
 |loc n=>
  obtain⟨a,rfl,ha⟩:=ru.fQ;cases z:ar oX n with
  |none=>simp only[GC,z]at h3;exact h3.elim
  |some us=>
   simp only[GC,z]at h3;obtain⟨vs,hs,rv⟩:=bA GB z ha;refine .inl ⟨a,vs,rfl,hs,λp hp=>?_⟩;obtain⟨k1,k2,k3⟩:=iB GB (rv.cut l k) hp;exact h3 _ _ _ k1 k2 k3
 |_=>exact h3.elim
end
def Cj(f:FM)(o:ME):ME:=λμ st=>(o μ st).bind λx st1=>if sV st1 x=true then f x [] st1 else .bad
def yO:FM
 |.loc n,[],st=>match st[n]? with
  |some (.lst us)=>match us[us.length-1]? with
   |some u=>.ok u (st.set n (.lst us.dropLast))
   |none=>.bad
  |_=>.bad
 |_,_,_=>.bad
def jc:FM
 |.loc n,[.loc m],st=>match st[n]?,st[m]? with
  |some (.lst us),some (.lst ws)=>if us.length+ws.length<=sizeLine then .ok .dD (st.set n (.lst (us++ws)))else .bad
  |_,_=>.bad
 |_,_,_=>.bad
theorem bu.dropLast{K:_c}{us:List aj}{vs:List V}(r:bu K ρ H us vs):bu K ρ H us.dropLast vs.dropLast:=by rw[List.dropLast_eq_take,List.dropLast_eq_take,r.length];exact bu.take _ r
section
variable{mo:ME}{f:FM}
theorem LN:Dm X "list.pop" (TF (wo X) E yO):=by
 refine Dm.imp OX ?_;rintro x xs H Q ⟨ρ,st,u,us,sr,r1,r2,h⟩;unfold yO at h;split at h
 .rename_i n;obtain⟨a,rfl,ha⟩:=r1.fQ;have hx:=r2.gB;subst hx;split at h
  .rename_i ws hw;split at h
   .rename_i y hy;obtain⟨vs,hH,rv⟩:=sr.cell n _ a hw ha;obtain⟨v,hv,ry⟩:=rv.get hy;refine⟨a,vs,v,rfl,rfl,hH,by rw[<-rv.length];exact hv,?_⟩;obtain⟨k1,k2⟩:=uA sr hw ha hH rv.dropLast;exact h ρ _ _ k1 k2 (Rl.mono k1 _ _ ry)
   .exact h.elim
  .exact h.elim
 .exact h.elim
theorem Ck:Dm X "list.extend" (TF (wo X) E jc):=by
 refine Dm.imp ES ?_;rintro x xs H Q ⟨ρ,st,u,us,sr,r1,r2,h⟩;unfold jc at h;split at h
 .rename_i n m;obtain⟨a,rfl,ha⟩:=r1.fQ;obtain⟨y,rfl,ry⟩:=r2.B3;obtain⟨b,rfl,hb⟩:=ry.fQ;split at h
  .rename_i us ws hw hw2;split at h
   .rename_i hz;obtain⟨vs,hH,rv⟩:=sr.cell n _ a hw ha;obtain⟨zs,hZ,rz⟩:=sr.cell m _ b hw2 hb;refine⟨a,b,vs,zs,rfl,rfl,hH,hZ,by rw[<-rv.length,<-rz.length];exact hz,?_⟩;obtain⟨k1,k2⟩:=uA sr hw ha hH (rv.append rz);exact h ρ _ _ k1 k2 Rl.Au
   .exact h.elim
  .exact h.elim
 .exact h.elim
theorem PX{id:String}(slot:Slot "list" name id)(OU:typeOf (.builtin id)=pure (.type "method_descriptor"))(hm:Dm X id (TF (wo X) E f))(ho:PE X o (tE X E mo))(ki:attributeBase o name X.env (eval o X.env)=eval o X.env:=by rfl)(kj:(apos.endLine==dN.line)=true:=by rfl):
  PE X (.Call (.Attribute o name apos) [] [] dN) (tE X E (Cj f mo)):=by
 refine PE.imp (OT Zi slot OU hm ho ki kj) ?_;rintro σ H Q ⟨μ,ρ,st,rs,sr,h⟩;refine go μ ρ st rs sr h λu st1 ρ1 H1 x e1 dh r1 h1=>?_;split at h1
 .rename_i hz;exact⟨AA dh r1 hz,ρ1,st1,u,[],dh,r1,bu.nil,h1⟩
 .exact h1.elim
end
def rE(o i v:aj)(st:af):Option af:=match o,i with
 |.loc n,.int k=>match st[n]? with
  |some (.lst us)=>(L2.Aj us.length k).map λj=>st.set n (.lst (us.set j v))
  |_=>none
 |_,_=>none
def Nn(μ:Env):Option af->e?
 |some st=>.nx μ st
 |none=>.bad
def o!(o i v:ME):MB:=λμ st=>(v μ st).sb μ λx st1=>(o μ st1).sb μ λy b8=>(i μ b8).sb μ λz oX=>Nn μ (rE y z x oX)
def Fl:F2:=tU λi j st=>.ok (.int (i+j)) st
def LQ:F2:=tU λi j st=>.ok (.int (i-j)) st
def Np:F2
 |.loc n,.int i,st=>match ar st n with
  |some us=>match L2.mX us i with
   |some v=>.ok v st
   |none=>.bad
  |none=>.bad
 |_,_,_=>.bad
def xU(f:F2)(o i e:ME):MB:=λμ st=>(o μ st).sb μ λy st1=>(i μ st1).sb μ λz b8=>(Np y z b8).sb μ λx oX=>(e μ oX).sb μ λw pV=>(f x w pV).sb μ λr Ka=>Nn μ (rE y z r Ka)
def HY(k:Nat)(f:F2)(e:ME):MB:=λμ st=>(jl k μ st).sb μ λx st1=>(e μ st1).sb μ λw b8=>(f x w b8).sb μ λr oX=>.nx (μ.set k (some r)) oX
section
variable{i v:Expr}{mo mi mv:ME}{pos:Pos}{f:F2}
theorem xV{st aH:af}{u z w:aj}{x y q:V}{Q:Hp->Prop}(sr:SR X.K ρ st H)(ru:Rl X.K ρ H u x)(rz:Rl X.K ρ H z y)(Ak:Rl X.K ρ H w q)(h:rE u z w st=some aH)(k:∀H',aZ ρ H ρ H'->SR X.K ρ aH H'->Q H'):Nc x y q H Q:=by
 unfold rE at h;split at h
 .rename_i n j;split at h
  .rename_i us hu;obtain⟨a,rfl,ha⟩:=ru.fQ;obtain⟨vs,hH,rv⟩:=sr.cell n _ a hu ha;cases hj:L2.Aj us.length j with
   |none=>rw[hj]at h;cases h
   |some jj=>
    rw[hj]at h;cases h;refine⟨a,vs,j,jj,rfl,rz.cy,hH,by rw[<-rv.length];exact hj,?_⟩;obtain⟨k1,k2⟩:=uA sr hu ha hH (bu.set Ak jj rv);exact k _ k1 k2
  .cases h
 .cases h
theorem LR(ho:PE X o (tE X E mo))(hi:PE X i (tE X E mi))(hv:PE X v (tE X E mv))
  (ha:∀ u,assign (.Subscript o i p5) X.env u=(do
   let ov <- holding [u] (eval o X.env)
   let iv <- holding [u,ov] (eval i X.env)
   standAt p5
   holding [u,ov,iv] (setItem ov iv u)
   release [u,ov,iv] []):=by intro _;rfl)
  (hs:swapsWithSole [.Subscript o i p5] v pos.line X.env=pure false:=by rfl) (hw:swappedStores [.Subscript o i p5] v X.env=pure none:=by rfl) (h1:(assignEach [.Subscript o i p5] X.env).map (·.2)=[assign (.Subscript o i p5) X.env]:=by rfl):
  PS X (.Assign [.Subscript o i p5] v pos) (tS X E (o! mo mi mv)):=by
 refine PS.imp (Ou hv (Ot ho hi set_list ha) hs hw h1) ?_;rintro D σ H ⟨μ,ρ,st,rs,sr,h⟩;refine Bx μ ρ st rs sr h λu st1 ρ1 H1 x e1 dh r1 h1=>?_;refine Bx μ ρ1 st1 (rs.mono e1) dh h1 λw b8 ρ2 H2 y e2 p! r2 h2=>?_;refine Bx μ ρ2 b8 ((rs.mono e1).mono e2) p! h2 λz oX ρ3 H3 q e3 GB r3 h3=>?_;cases hz:rE w z u oX with
 |none=>rw[hz]at h3;exact h3.elim
 |some pV=>
  rw[hz]at h3;exact xV GB (Rl.mono e3 _ _ r2) r3 (Rl.mono e3 _ _ (Rl.mono e2 _ _ r1)) hz λH' k1 k2=>h3 ρ3 H' σ k1 k2 ((((rs.mono e1).mono e2).mono e3).mono k1)
theorem DM:fV X (inplaceOp .Add) (rM (wo X) E Fl):=by refine fV.imp KG ?_;rintro x y H Q ⟨ρ,st,u,w,sr,r1,r2,h⟩;obtain⟨i,j,rfl,rfl,h⟩:=iE h;exact⟨i,j,r1.cy,r2.cy,fI sr h⟩
theorem LS:fV X (inplaceOp .Sub) (rM (wo X) E LQ):=by refine fV.imp KH ?_;rintro x y H Q ⟨ρ,st,u,w,sr,r1,r2,h⟩;obtain⟨i,j,rfl,rfl,h⟩:=iE h;exact⟨i,j,r1.cy,r2.cy,fI sr h⟩
theorem DN{op:Operator}(hf:fV X (inplaceOp op) (rM (wo X) E f))(ho:PE X o (tE X E mo))(hi:PE X i (tE X E mi))(hv:PE X v (tE X E mv))(ha:∀ov iv new,augStore i ov iv new=(do holding [new,ov,iv] (setItem ov iv new);release [new,ov,iv] [];pure .next):=by intros;rfl):
  PS X (.AugAssign (.Subscript o i p5) op v pos) (tS X E (xU f mo mi mv)):=by
 refine PS.imp (Kz ho hi Ho hv (λae s σ H x y v u Q I rx ry q=>hf ae s σ H x y v u Q I rx ry q) set_list ha) ?_;rintro D σ H ⟨μ,ρ,st,rs,sr,h⟩;refine Bx μ ρ st rs sr h λu st1 ρ1 H1 x e1 dh r1 h1=>?_;refine Bx μ ρ1 st1 (rs.mono e1) dh h1 λw b8 ρ2 H2 y e2 p! r2 h2=>?_;have ru:=Rl.mono e2 _ _ r1;have rs2:=(rs.mono e1).mono e2;cases u with
 |loc n=>
  cases w with
  |int j=>
   obtain⟨a,rfl,ha⟩:=ru.fQ;cases z:ar b8 n with
   |none=>simp only[Np,z]at h2;exact h2.elim
   |some us=>
    cases zi:L2.mX us j with
    |none=>simp only[Np,z,zi]at h2;exact h2.elim
    |some g=>
     simp only[Np,z,zi]at h2;obtain⟨vs,hs,rv⟩:=bA p! z ha;obtain⟨g',hg,rg⟩:=rv.mX zi;refine⟨a,vs,j,g',rfl,r2.cy,hs,hg,?_⟩;refine Bx μ ρ2 b8 rs2 p! h2 λt oX ρ3 H3 b e3 GB r3 h3=>?_;refine⟨ρ3,oX,g,t,GB,Rl.mono e3 _ _ rg,r3,?_⟩;cases zf:f g t oX with
     |ok c pV=>
      rw[zf]at h3;intro ρ4 H4 d e4 tV r4;have h4:wS (wo X) E ρ4 H4 D (Nn μ (rE (.loc n) (.int j) c pV)):=wS.mono h3 e4;cases hz:rE (.loc n) (.int j) c pV with
      |none=>rw[hz]at h4;exact h4.elim
      |some Ka=>
       rw[hz]at h4;exact xV tV (Rl.mono e4 _ _ (Rl.mono e3 _ _ ru)) (Rl.mono e4 _ _ (Rl.mono e3 _ _ r2)) r4 hz λH' k1 k2=>h4 ρ4 H' σ k1 k2 (((rs2.mono e3).mono e4).mono k1)
     |err c pV=>rw[zf]at h3;exact h3
     |bad=>rw[zf]at h3;exact h3
  |_=>exact h2.elim
 |_=>exact h2.elim
theorem PY{op:Operator}(hf:fV X (inplaceOp op) (rM (wo X) E f))(hN:X.N.Nodup)(hv:PE X v (tE X E mv))(hi:X.N[k]?=some x:=by rfl)(hx:Loc X.env.scope x:=by first|exact Or.inl rfl|exact Or.inr rfl)(hn:X.fn x=true\/X.env.scope.names.lookup x=some .local:=by first|exact .inl rfl|exact .inr rfl|assumption):PS X (.AugAssign (.Name x p5) op v pos) (tS X E (HY k f mv)):=by
 refine PS.imp (Ox hN hi hx hv (λae s σ H x y v u Q I rx ry q=>hf ae s σ H x y v u Q I rx ry q) hn) ?_;rintro D σ H ⟨μ,ρ,st,rs,sr,h⟩;unfold HY jl at h;split at h
 .rename_i g e;obtain⟨w,e',r⟩:=rs.at_ k g e;split at h
  .exact h.elim
  .rename_i n;have rg:=r.un n;refine⟨w,e',?_⟩;refine Bx μ ρ st rs sr h λt st1 ρ1 H1 y e1 dh r1 h1=>?_;refine⟨ρ1,st1,g,t,dh,Rl.mono e1 _ _ rg,r1,?_⟩;cases zf:f g t st1 with
   |ok c b8=>
    rw[zf]at h1;intro ρ2 H2 d e2 p! r2;exact(wS.mono h1 e2) ρ2 H2 _ (aZ.refl _ _) p! (((rs.mono e1).mono e2).set k r2)
   |err c b8=>rw[zf]at h1;exact h1
   |bad=>rw[zf]at h1;exact h1
 .exact h.elim
end
def lY(hi:Int)(n:Nat):List aj:=(List.range n).map λ(i:Nat)=>aj.int (hi-(i:Int))
theorem HZ{K:_c}(lo:Int)(n:Nat):PL K ρ H (lY lo n,λ_=>True) (Itd lo n):=by
 intro ρ' aH H' e sr g i;refine⟨λu hu=>?_,λhi=>?_⟩
 .have hi:i<n:=by have:=bF hu;simpa[lY]using this
  refine⟨hi,λx Tx y=>?_⟩;obtain⟨rfl,rfl⟩:=y;have e:u=aj.int (lo-(i:Int)):=by simp only[lY,Vu]at hu;rw[Wh hi]at hu;exact(VU hu).symm
  subst e;exact⟨aZ.refl _ _,sr,Rl.mkInt _⟩
 .show n<=i;simpa[lY]using hi
def H9(vs:List aj)(aH:af):eZ Itm:=match vs with
 |[.int i,.int j,.int k]=>if k = -1/\-(2 ^ 62)<=i/\i<2 ^ 62/\-(2 ^ 62)<=j/\j<2 ^ 62 then .ok (lY i (i-j).toNat,λ_=>True) aH else .bad
 |_=>.bad
def yP(m:MA):MI:=λμ st=>(m μ st).bind H9
def abM(vs:List aj)(aH:af):eZ Itm:=match vs with
 |[.loc n]=>match ar aH n with
  |some us=>.ok (us.reverse,λb8=>ar b8 n=some us) aH
  |none=>.bad
 |_=>.bad
def jS:Nat->List aj->List aj
 |_,[]=>[]
 |i,u::us=>.tup [.int i,u]::jS (i+1) us
theorem kn:∀(us:List aj)(k i:Nat)(z:aj),(jS k us)[i]?=some z->∃u,us[i]?=some u/\z=.tup [.int ((k+i:Nat):Int),u]
 |[],_,_,_,h=>by cases h
 |u::us,k,0,z,h=>by cases h;exact⟨u,rfl,rfl⟩
 |u::us,k,i+1,z,h=>by obtain⟨w,h1,h2⟩:=kn us (k+1) i z h;exact⟨w,h1,by rw[h2,show k+1+i=k+(i+1) by lia]⟩
theorem ko:∀(us:List aj)(k:Nat),(jS k us).length=us.length
 |[],_=>rfl
 |_::us,k=>by simp only[jS,Vl,ko us]
def H_(vs:List aj)(aH:af):eZ Itm:=match vs with
 |[.loc n]=>match ar aH n with
  |some us=>.ok (jS 0 us,λb8=>ar b8 n=some us) aH
  |none=>.bad
 |_=>.bad
def j8(m:MA):MI:=λμ st=>(m μ st).bind H_
section
variable{pos p:Pos}
theorem LW{a b c:Expr}{m:MA}(hg:Gl X "range")(hm:X.mg "range" = none)(ha:PA X [a,b,c] (tL X E m))(hs:starEach [a,b,c] X.env=[(false,eval a X.env),(false,eval b X.env),(false,eval c X.env)]:=by rfl)(q9:starEach [b,c] X.env=[(false,eval b X.env),(false,eval c X.env)]:=by rfl):
  PI X tg (.Call (.Name "range" p) [a,b,c] [] pos) (tI X E (yP m)):=by
 refine PI.imp (Lh hg hm ha hs q9) ?_;rintro σ H R ⟨μ,ρ,st,rs,sr,h⟩;refine go (R1:=bu X.K) μ ρ st rs sr h λus st1 ρ1 H1 xs e1 dh r1 h1=>?_;unfold H9 at h1;split at h1
 .rename_i i j k;obtain⟨v,r',rfl,rv,rr⟩:=r1.cW;obtain⟨w,z,rfl,Ak,rz⟩:=rr.Tn;split at h1
  .rename_i hz;obtain⟨rfl,hz⟩:=hz;exact⟨i,j,by rw[rv.cy,Ak.cy,rz.cy],hz,h1 ρ1 H1 _ (aZ.refl _ _) dh (HZ i _)⟩
  .exact h1.elim
 .exact h1.elim
theorem LX{a:Expr}{m:MA}(hg:Gl X "enumerate")(hm:X.mg "enumerate" = none)(ha:PA X [a] (tL X E m))(hs:starEach [a] X.env=[(false,eval a X.env)]:=by rfl):PI X (.Tuple elts kt tp) (.Call (.Name "enumerate" p) [a] [] pos) (tI X E (j8 m)):=by
 refine PI.imp (Li hg hm PyProof.Rows.Boot.«enumerate» ha hs) ?_;rintro σ H R ⟨μ,ρ,st,rs,sr,h⟩;refine go (R1:=bu X.K) μ ρ st rs sr h λus st1 ρ1 H1 xs e1 dh r1 h1=>?_;unfold H_ at h1;split at h1
 .rename_i n;obtain⟨v,rfl,rv⟩:=r1.B3;obtain⟨b,rfl,hb⟩:=rv.fQ;split at h1
  .rename_i ws hw;obtain⟨vs,LY,rvs⟩:=bA dh hw hb;refine⟨b,vs,rfl,LY,h1 ρ1 H1 _ (aZ.refl _ _) dh ?_⟩;intro ρ' aH H' e s g i;obtain⟨w1,s1,t1⟩:=bA s g (e.at_ hb);refine⟨λz hz=>?_,λhi=>⟨w1,s1,?_⟩⟩
   .obtain⟨u,hu,rfl⟩:=kn ws 0 i z hz;obtain⟨y,hy,ry⟩:=t1.get hu;refine⟨⟨w1,y,s1,hy⟩,λx' Tx y'=>?_⟩;obtain⟨pp,x1,rfl,hp,rfl,f1⟩:=y';have c1:=(f1 w1 s1).symm.trans hy;cases c1;rw[VZ];exact⟨aZ.same (fe hp),s.grow (fe hp),Rl.xK b_ (bu.mono (aZ.same (fe hp)) _ _ (bu.cons (Rl.mkInt _) (bu.one ry)))⟩
   .have Hg:(jS 0 ws).length<=i:=hi;rw[ko]at Hg;rw[<-t1.length];exact Hg
  .exact h1.elim
 .exact h1.elim
end
def Fm:FN
 |[.int i,.int j],st=>.ok (.int (if j>i then j else i)) st
 |_,_=>.bad
theorem Fn(hh:X.A.handled=none):cR X (.builtin "max") (cM (wo X) E Fm):=by
 refine cR.imp (E_ hh) ?_;rintro xs H Q ⟨ρ,st,us,sr,r,h⟩;unfold Fm at h;split at h
 .rename_i i j;obtain⟨v,w,rfl,r1,r2⟩:=r.Tn;exact⟨i,j,by rw[r1.cy,r2.cy],fI sr h⟩
 .exact h.elim
section
variable{e:Expr}{mo:ME}{ms:MA}
theorem Fo(ho:PE X o (tE X E mo))(ha:PA X (e::es) (tL X E ms))(ki:attributeBase o "append" X.env (eval o X.env)=eval o X.env:=by rfl)
  (BO:((backTo dN (starEach (e::es) X.env)).all (λx => !x.1)&&(backToKw dN (keywordEach [] X.env)).all (λx=>x.1.isSome)
   && decide ((e::es).length+([]:List Keyword).length+(if([]:List Keyword).isEmpty then 0 else 1)<30))=true:=by rfl)
  (kj:(apos.endLine==dN.line)=true:=by rfl) (hs:starEach (e::es) X.env=(false,eval e X.env)::starEach es X.env:=by rfl) (pB:(backTo dN (starEach es X.env)).any (·.1)=false:=by rfl):
  PE X (.Call (.Attribute o "append" apos) (e::es) [] dN) (tE X E (jN dF mo ms)):=HV PySem.F.slot_list_append PySem.F.type_list_append Ca ho ha ki BO kj hs pB
theorem Fp(ho:PE X o (tE X E mo))(ha:PA X (e::es) (tL X E ms))(ki:attributeBase o "extend" X.env (eval o X.env)=eval o X.env:=by rfl)
  (BO:((backTo dN (starEach (e::es) X.env)).all (λx => !x.1)&&(backToKw dN (keywordEach [] X.env)).all (λx=>x.1.isSome)
   && decide ((e::es).length+([]:List Keyword).length+(if([]:List Keyword).isEmpty then 0 else 1)<30))=true:=by rfl)
  (kj:(apos.endLine==dN.line)=true:=by rfl) (hs:starEach (e::es) X.env=(false,eval e X.env)::starEach es X.env:=by rfl) (pB:(backTo dN (starEach es X.env)).any (·.1)=false:=by rfl):
  PE X (.Call (.Attribute o "extend" apos) (e::es) [] dN) (tE X E (jN jc mo ms)):=HV PySem.F.slot_list_extend PySem.F.type_list_extend Ck ho ha ki BO kj hs pB
theorem LZ(ho:PE X o (tE X E mo))(ki:attributeBase o "pop" X.env (eval o X.env)=eval o X.env:=by rfl)(kj:(apos.endLine==dN.line)=true:=by rfl):
  PE X (.Call (.Attribute o "pop" apos) [] [] dN) (tE X E (Cj yO mo)):=PX PySem.F.slot_list_pop PySem.F.type_list_pop LN ho ki kj
end
theorem TL{cl cl':List (Str×_l)}{caps':List Nat}(tQ:closureFor scope X.env=pure cl')(A:ip X scope cl bE)(B:ip X scope cl' caps')(has:((relabel scope X.env).names.all λp => !(p.2 == .cell || p.2 == .free) || (cl'.map (·.1)).contains p.1)=true)(gI:(scope.names.all λp => !(p.2 == .cell))=true)(kind:scope.kind=.function)(names:(scope.names.all λp => !(p.2 == .local) || scope.names.lookup p.1==some .local)=true)(len:N.length=k+bE.length)(hN:N.drop k=cl.map (·.1)):u9 X N scope cl' k bE where
 tQ:=tQ
 sub:=B.sub
 has:=λx h=>by
  have m:x∈cl'.map (·.1):=by rcases h with h|h<;>(have m:=Wy h;have z:=WB.mp has _ m;simpa using z)
  exact j7 m
 gI:=λx hx h=>by have z:=WB.mp gI x hx;simp[h]at z
 kind:=kind
 names:=λx hx h=>by have z:=WB.mp names x hx;simpa[h]using z
 len:=len
 at_:=λi j x h1 h2=>A.at_ i j x h1 (by rw[<-hN,Yj];exact h2)
theorem len0{C:_e->Prop}(h:C [])(us:_e)(hl:us.length=0):C us:=by grind
theorem L0{C:_e->Prop}{n:Nat}(h:∀a(r:_e),r.length=n->C (a::r))(us:_e)(hl:us.length=n+1):C us:=by cases us<;>grind
theorem rF{C:_e->Prop}(h:∀a,C [a]):∀us:_e,us.length=1->C us:=L0 λa=>len0 (C:=λr=>C (a::r)) (h a)
theorem PZ{C:_e->Prop}(h:∀a b,C [a,b]):∀us:_e,us.length=2->C us:=L0 λa=>rF (C:=λr=>C (a::r)) (h a)
theorem TM{C:_e->Prop}(h:∀a b c,C [a,b,c]):∀us:_e,us.length=3->C us:=L0 λa=>PZ (C:=λr=>C (a::r)) (h a)
theorem P0{C:_e->Prop}(h:∀a b c d,C [a,b,c,d]):∀us:_e,us.length=4->C us:=L0 λa=>TM (C:=λr=>C (a::r)) (h a)
end MN
variable {us ws:List MN.aj}
variable {u v y:MN.aj}
variable {s':MN.af}
variable {K:_c}
variable {body:MN.MB}
variable {fd:FuncData}
variable {mg:Str->Option Value}
variable {mb mo md:MN.ME}
variable {ms:MN.MA}
variable {x6 x7 x0 x1 x4 x5 x9 x2 x3:Option MN.aj}
variable {aY:List (L2.fG×MN.aj)}
namespace MN
open PySem.Spec L2
open PyProof.Rows hiding St
section
variable{c:_l}{o:Obj}
theorem SR.P_{st:af}{H':Hp}{T f:_l}{cs:List (Str×_l)}{pos:Pos}{j:Nat}(s:SR K ρ st H)(hj:st[j]?=some (.tab x pos.line pos.col L.qual))(hT:ρ[j]?=some T)(N:DA L H H' T cs f c' pos):SR K ρ st H'/\aZ ρ H ρ H':=by
 have k:=s.cell j _ T hj hT;have tT:∃ps,H T=some (.wX ps):=by rcases k.2 with h|⟨_,_,_,_,h,_⟩<;>exact⟨_,h⟩
 obtain⟨ps,tT⟩:=tT;have aH:aZ ρ H ρ H':=by refine⟨Yv ρ,λb xs h=>N.old b _ (λz=>?_) h,λb x u h=>N.old b _ (λz=>?_) h⟩<;>(rw[z,tT]at h;cases h)
 refine⟨⟨s.len,s.nd,λn d a h1 h2=>?_⟩,aH⟩;by_cases z:n=j
 .subst z;rw[hj]at h1;rw[hT]at h2;cases h1;cases h2;exact⟨k.1,N.tab⟩
 .have kb:=s.cell n d a h1 h2;cases zm:lX (some d) with
  |true=>exact kb.mono aH (.inl zm)
  |false=>
   have hb:a≠T:=λy=>z (s.nd n j T (by rw[<-y];exact h2) hT (by rw[h1];exact zm) (by rw[hj];rfl));obtain⟨o,ho,_⟩:=kb.there zm;exact kb.mono aH (.inr (by rw[ho];exact N.old a _ hb ho))
end
section
variable{w:World}
structure P!(K:_c)(mg:_a)(base:Heap)(x:Str)(cd T:_l):Prop where
 tab:W.tabIn K x=some (cd,T)
 hd:W.CodeHd base cd T
 blt:base.BuiltinsAt mg T
 gT:mainGlobals≠T
theorem FnAt.mkT{st:Stmt}{f:_l}{cd T:_l}(B:P! K mg base x cd T)(F:G7 K x x st f fd)(hn:W.nsIn K mainGlobals x=some (some (.ref f)))(hm:mg x=some (.ref f))(S:iz N ps (bb st))(hb:∀(kV doc pm:_j)(an:Option _l)(h_ ct:_j)(us:_e),us.length=ps.length->bindArgs (W.fnOf x x (gS st) (dZ st) (bb st) .none kV doc pm an h_ ct) ⟨us,[]⟩=pure (ps.zip us))
  (h:∀ (A:_m) (outer:List PySem.Env) (s:_k) (H:Hp) (E:XK),gk k (A.deeper (envOfC x (bb st) s.heap.objs.size f (.ref cd))) ->
   oV (jk (p9 P w) P w K mg base N x (bb st) f (.ref cd) A outer s H E) (dZ st) (tS (jk (p9 P w) P w K mg base N x (bb st) f (.ref cd) A outer s H E) E body)):FnAt P w K mg base x (k+1) (ij ps.length N.length body):=by
 refine⟨f,fd,ps,?_,hm,F.kp,F.binds hb⟩;obtain⟨oc,od,kV,doc,pm,an,h_,ct,GW,e,lk,BD⟩:=F.ex;have ec:h_=.ref cd:=by
  have t:=B.tab;unfold W.tabIn at t;rw[hn]at t;simp only[lk]at t;rw[e]at t;simp only[W.fnOf]at t;split at t
  .rename_i c hc;split at t
   .split at t
    .cases t;rfl
    .cases t
   .cases t
  .cases t
 subst ec;have h':∀(h_:_j)(A:_m)(outer:List PySem.Env)(s:_k)(H:Hp)(E:XK),h_=.ref cd->gk k (A.deeper (envOfC x (bb st) s.heap.objs.size f h_)) ->
   oV (jk (p9 P w) P w K mg base N x (bb st) f h_ A outer s H E) (dZ st) (tS (jk (p9 P w) P w K mg base N x (bb st) f h_ A outer s H E) E body):=λh_ A outer s H E e=>by subst e;exact h A outer s H E
 subst e;refine Na lk BD S (λvs H Q E q=>?_) λA outer s H vs Q E hr q=>⟨_,h A outer s H E hr,?_⟩
 .obtain⟨us,ρ,st,r,sr,q⟩:=q;by_cases hl:us.length=ps.length
  .rw[<-r.length];exact hl
  .unfold ij at q;rw[VE hl]at q;exact q.elim
 .obtain⟨us,ρ,aH,r,sr,q⟩:=q;unfold ij at q;by_cases hl:us.length=ps.length
  .rw[Vs hl,<-hl]at q;refine⟨_,ρ,aH,RS.start r,sr,?_⟩;revert q;cases body (us.map some++List.replicate (N.length-us.length) none) aH with
   |nx μ b8=>exact λq ρ' H' σ' e s _=>q ρ' H' .dD e s Rl.Au
   |rt v b8=>exact λq=>q
   |er c μ b8=>exact λq=>q
   |bk μ b8=>exact λq=>q.elim
   |ct μ b8=>exact λq=>q.elim
   |bad=>exact λq=>q.elim
  .rw[VE hl]at q;exact q.elim
end
def m?(st:af)(x:Str)(l c:Nat)(q:Str):Prop:=∃j:Nat,st[j]?=some (.tab x l c q)
structure jO where
 S:gA
 own:Str
 line:Nat
 col:Nat
abbrev DO(mg:_a)(base:Heap)(ts:List (_l×_l)):Prop:=∀q∈ts,W.CodeHd base q.1 q.2/\base.BuiltinsAt mg q.2/\mainGlobals≠q.2
def oO(a:_l)(o:Option HO)(ts:List (_l×_l)):Hp:=λb=>if b∈ts.map (·.2)then some (.wX #[])else if b=a then o else none
theorem Fq{w:World}{mb:_a}{a:_l}{s₁:_k}{ts:List (_l×_l)}(KX:K.In s₁.heap)(Nq:s₁.heap.Ns mainGlobals mg)(hb:s₁.heap.Ns builtinsNs mb)(hbb:∀x:Str,x ≠ "__name__" -> mb x=bootBuiltins x)(aaZ:s₁.heap.NoLimit)(hg:s₁.gens = #[])(hbm:∃bm ob,mg "__builtins__" = some (.ref bm)/\bm≠builtinsNs/\s₁.heap.get? bm=some ob/\ob.cls=.type "module" /\ ob.dict=some builtinsNs/\ob.data=.plain)(hT:PySem.W.TabsAt ts s₁.heap)(hK0:PySem.W.noTabs K=true)(ha:s₁.heap.get? a=some {cls:=.type "list",data:=.seq vs.toArray})(hi:IntsAre vs ns)(hl:ns.length<=sizeLine)(hr:gk k callerA)(F:∀base:Heap,K.In base->base.Ns mainGlobals mg->DO mg base ts->uY P w K mg base (p9 P w) k fa fd [x] sp)(TN:∀(s:_k)(u:_j),BindsTo s fd ⟨[u],[]⟩ [(x,u)])(Rp:∀H:Hp,(∀b xs,H b≠some (.lst xs))->oy K H a (ns.map V.int)->(∀q∈ts,H q.2=some (.wX #[]))->a ∉ ts.map (·.2)->sp [.ref a] H (λv _=>v=.bl true) λ_ _ _=>False):
  codeAny (model P w) callerA (.call (.ref fa) ⟨[.ref a],[]⟩) (λr s'=>r=.ok (.ret (.bool true))/\OldK s₁.heap s'.heap/\s'.os=s₁.os/\AllBare s'.gens) s₁:=by
 have rv:=xE hi;have aa0:=hi.length;have tabs:∀b,b∈ts.map (·.2)->s₁.heap.get? b=some (PySem.W.tabObj #[]):=λb hb=>by obtain⟨q,hq,rfl⟩:=VR.mp hb;exact(hT q hq).2
 have aT:a ∉ ts.map (·.2):=λz=>by have:=tabs a z;rw[ha]at this;cases this
 have core:∀o:Option HO,(∀x,o=some x->∃ob xs,x=.kh ob (.lst xs))->oy K (oO a o ts) a (ns.map V.int)->kH P w (oO a o ts) s₁.heap->(o≠none->K.lookup a=none) ->
   codeAny (model P w) callerA (.call (.ref fa) ⟨[.ref a],[]⟩) (λr s'=>r=.ok (.ret (.bool true))/\OldK s₁.heap s'.heap/\s'.os=s₁.os/\AllBare s'.gens) s₁:=by
  intro o hO hS dg hK;have H_T:∀b,b∈ts.map (·.2)->oO a o ts b=some (.wX #[]):=λb hb=>Vs hb;have H_a:oO a o ts a=o:=by unfold oO;rw[VE aT,Vs rfl]
  have Rz:∀b,oO a o ts b=none\/(b=a/\oO a o ts b=o)\/(b∈ts.map (·.2)/\oO a o ts b=some (.wX #[])):=λb=>by
   by_cases h1:b∈ts.map (·.2)
   .exact .inr (.inr ⟨h1,H_T b h1⟩)
   .by_cases h2:b=a
    .subst h2;exact .inr (.inl ⟨rfl,H_a⟩)
    .exact .inl (by unfold oO;rw[VE h1,VE h2])
  obtain⟨H,eH⟩:∃H,H=oO a o ts:=⟨_,rfl⟩
  rw[<-eH]at hS dg H_T H_a Rz;have uB:∀{b:_l}{ob:Obj},s₁.heap.get? b=some ob->H b=none->(wY s₁.heap H).get? b=some ob:=λe n=>GH e n;have Ro:∀{b:_l}{ob:Obj},s₁.heap.get? b=some ob->ob.cls≠.type "list" -> ob.cls≠.none->H b=none:=λ{b ob}e d d2=>by
   rcases Rz b with h|⟨h,_⟩|⟨h,_⟩
   .exact h
   .subst h;rw[ha]at e;cases e;exact absurd rfl d
   .rw[tabs b h]at e;cases e;exact absurd rfl d2
  have noD:∀{b:_l}{ob:Obj}{es:Array DictEntry}{ep:Nat},s₁.heap.get? b=some ob->ob.data=.dict es ep->H b=none:=λ{b ob es ep}e d=>by
   rcases Rz b with h|⟨h,_⟩|⟨h,_⟩
   .exact h
   .subst h;rw[ha]at e;cases e;have d':Data.seq vs.toArray _=Data.dict es ep:=d;cases d'
   .rw[tabs b h]at e;cases e;cases d
  have nsK:∀{b:_l}{m:_a},s₁.heap.Ns b m->(wY s₁.heap H).Ns b m:=λ{b m}⟨ob,es,ep,e,d,r⟩=>⟨ob,es,ep,uB e (noD e d),d,r⟩
  have hKb:K.In (wY s₁.heap H):=λb ob e=>uB (KX b ob e) (by
   rcases Rz b with h|⟨h,h2⟩|⟨h,_⟩
   .exact h
   .subst h;cases q:o with
    |none=>rw[h2,q]
    |some u=>rw[hK (by rw[q];simp)]at e;cases e
   .have h1:=KX b ob e;rw[tabs b h]at h1;cases h1;have h2:=WB.mp hK0 _ (PySem.W.mem_of_lookupK e);exact absurd (show false=true from h2) VY)
  have hM:Mod K mg (wY s₁.heap H):=⟨hKb,nsK Nq,⟨mb,nsK hb,hbb⟩,let⟨mc,h1,h2⟩:=aaZ;⟨mc,nsK h1,h2⟩⟩
  have e0:BK P w K mg (wY s₁.heap H) callerA [] s₁ H:=⟨rfl,hM,λb o e=>Kj e,W' (EE _ _),trivial,λb hb=>absurd (show b∈([]:_h)from hb) (by simp),dg,.of_eq hg⟩
  have hBT:DO mg (wY s₁.heap H) ts:=by
   intro q hq;obtain⟨h1,h2⟩:=hT q hq;refine⟨?_,?_,?_⟩
   .obtain⟨oc,ws,file,tf,flags,tg,inF,text,tt,e1,r1,r⟩:=h1;exact⟨oc,ws,file,tf,flags,tg,inF,text,tt,uB e1 (Ro e1 (by rw[r1];decide) (by rw[r1];intro z;cases z)),r1,r⟩
   .obtain⟨bm,ob,b1,b2,b3,b4,b5,b6⟩:=hbm;refine⟨bm,ob,b1,b2,λz=>?_,λz=>?_,uB b3 (Ro b3 (by rw[b4];decide) (by rw[b4];intro z;cases z)),b4,b5,b6⟩
    .obtain⟨o',es,ep,e,hd,_⟩:=Nq;rw[z,e]at b3;cases b3;rw[hd]at b6;cases b6
    .rw[z,h2]at b3;cases b3;cases b4
   .intro z;obtain⟨o',es,ep,e,hd,_⟩:=Nq;rw[z,h2]at e;cases e;cases hd
  refine Ys ((F _ hKb (nsK Nq) hBT).run callerA [] s₁ H ⟨[.ref a],[]⟩ [.ref a] [.ref a] _ _ hr e0 (TN s₁ (.ref a)) (.cons rfl .nil) (Rp H (λb xs z=>?_) hS (λq hq=>H_T _ (V1 hq)) aT)) λr s' h=>?_
  .rcases Rz b with h|⟨_,h2⟩|⟨_,h2⟩
   .rw[h]at z;cases z
   .rw[h2]at z;obtain⟨_,_,e⟩:=hO _ z;cases e
   .rw[h2]at z;cases z
  cases r with
  |error e=>obtain⟨_,_,_,_,_,z⟩:=h;exact z.elim
  |ok fl=>
   cases fl with
   |next=>exact False.elim h
   |brk=>exact False.elim h
   |cont=>exact False.elim h
   |ret u=>
    obtain⟨v,H',os,bare,un,TR,r',q⟩:=h;have q':v=.bl true:=q;subst q';obtain rfl:u=Value.bool true:=r';have there:∀b ob,s₁.heap.get? b=some ob->(s'.heap.get? b=some ob)\/(isCodeTable s₁.heap b/\ob=PySem.W.tabObj #[]/\∃ps,s'.heap.get? b=some (PySem.W.tabObj ps)):=λb ob e=>by
     rcases Rz b with h|⟨h,h2⟩|⟨h,h2⟩
     .exact .inl (un.keep b ob e h (by intro z;exact absurd (show b∈([]:_h)from z) (by simp)) (by simp))
     .cases q:o with
      |none=>rw[q]at h2;exact .inl (un.keep b ob e h2 (by intro z;exact absurd (show b∈([]:_h)from z) (by simp)) (by simp))
      |some u=>
       obtain⟨o2,xs,eu⟩:=hO u q;rw[q,eu]at h2;have z2:=un.oM b o2 _ h2;obtain⟨e1,_⟩:=dg b _ h2;obtain⟨e2,_⟩:=TR b _ z2;rw[e]at e1;cases e1;exact .inl e2
     .obtain⟨m,hm⟩:=un.pX b _ h2;obtain⟨q,hq,rfl⟩:=VR.mp h;have e1:=tabs _ h;rw[e]at e1;exact .inr ⟨((hT q hq).1.tab (hT q hq).2).isCodeTable,VU e1,_,TR _ _ hm⟩
    refine⟨rfl,⟨λb ob e=>?_,λb ob e=>?_⟩,os,bare⟩
    .rcases there b ob e with h|⟨ht,rfl,ps,hP⟩
     .exact .inl h
     .exact .inr (.inl ⟨ht,rfl,#[],ps,rfl,by rw[Array.empty_append];exact hP⟩)
    .rcases there b ob e with h|⟨ht,rfl,ps,hP⟩
     .exact⟨_,h⟩
     .exact⟨_,hP⟩
 have TU:∀(o:Option HO)b,b∈ts.map (·.2)->∀u,oO a o ts b=some u->dA P w (oO a o ts) s₁.heap b u:=λo b hb u z=>by rw[show oO a o ts b=some (.wX #[])from Vs hb]at z;cases z;exact tabs b hb
 cases hk:K.lookup a with
 |some o=>
  have e:=KX a o hk;rw[ha]at e;cases e;refine core none (λ_ z=>by cases z) (.inr ⟨_,vs.toArray,_,hk,rfl,rfl,rfl,by rw[VG,aa0];exact hl,by simpa using rv⟩) (λb u z=>?_) λz=>absurd rfl z;by_cases hb:b∈ts.map (·.2)
  .exact TU _ b hb u z
  .unfold oO at z;rw[VE hb]at z;split at z<;>cases z
 |none=>
  refine core (some (.kh {cls:=.type "list",data:=.seq vs.toArray} (.lst (ns.map V.int)))) (λx z=>by cases z;exact⟨_,_,rfl⟩) (.inl (.inr ⟨{cls:=.type "list",data:=.seq vs.toArray},?_⟩)) (λb u z=>?_) λ_=>hk
  .unfold oO;rw[VE aT,Vs rfl]
  .by_cases hb:b∈ts.map (·.2)
   .exact TU _ b hb u z
   .have z0:=z;unfold oO at z;rw[VE hb]at z;split at z
    .rename_i hba;cases z;subst hba;exact⟨ha,by rw[Vj];exact hl,vs,_,rv,ha⟩
    .cases z
inductive tW(q:_n)(K:_c):List a!->List (_l×_l)->Prop
 |nil:tW q K [] []
 |cons {x qn:Str} {l c:Nat} {cs:List a!} {cd T:_l} {ts:List (_l×_l)} {d:DefRec} (hd:(recsOf q).find? (λe=>e.name==x)=some d) (ht:W.tabIn K x=some (cd,T)) (r:tW q K cs ts):tW q K (.tab x l c qn::cs) ((cd,T)::ts)
theorem tW.at_{aa1:ExcName->_g}{mb:_a}(T:Top q loose aa1 mg mb h)(X:K.In h):∀{cs:List a!}{ts:List (_l×_l)},tW q K cs ts->W.TabsAt ts h
 |_,_,.nil=>λ_ z=>nomatch z
 |_,_,.cons hd ht r=>List.forall_mem_cons.mpr ⟨W.tab_of T X hd ht,r.at_ T X⟩
theorem tW.len:∀{cs:List a!}{ts:List (_l×_l)},tW q K cs ts->ts.length=cs.length
 |_,_,.nil=>rfl
 |_,_,.cons _ _ r=>by rw[Vl,Vl,r.len]
theorem tW.cell:∀{cs:List a!}{ts:List (_l×_l)},tW q K cs ts->(∀p∈ts,H p.2=some (.wX #[]))->∀(n:Nat)(c:a!)(a:_l),cs[n]?=some c->(ts.map (·.2))[n]?=some a->iK K ρ H c a
 |_,_,.nil,_,n,c,a,h,_=>by simp at h
 |_,_,.cons (cd:=cd) hd ht r,k,0,c,a,h1,h2=>by cases h1;cases h2;exact⟨⟨cd,ht⟩,.inl (k _ (.head _))⟩
 |_,_,.cons hd ht r,k,n+1,c,a,h1,h2=>r.cell (λp hp=>k p (.tail _ hp)) n c a h1 h2
theorem L1{a:_l}{c:a!}{cs:List a!}{ts:List (_l×_l)}(L:tW q K cs ts)(nd:(ts.map (·.2)).Nodup)(na:a ∉ ts.map (·.2))(hH:∀p∈ts,H p.2=some (.wX #[]))(k:iK K (a::ts.map (·.2)) H c a):SR K (a::ts.map (·.2)) (c::cs) H:=by
 refine⟨by rw[Vl,Vl,Vj,L.len],λn m b h1 h2 _ _=>?_,λn d b h1 h2=>?_⟩
 .have N:(a::ts.map (·.2)).Nodup:=Xx.mpr ⟨na,nd⟩;have l1:=bF h1;have l2:=bF h2;rw[Vo l1]at h1;rw[Vo l2]at h2;have e:=VU (h1.trans h2.symm);rcases X? n m with z|z|z
  .exact absurd e (XR.mp N n m l1 l2 z)
  .exact z
  .exact absurd e.symm (XR.mp N m n l2 l1 z)
 .cases n with
  |zero=>cases h1;cases h2;exact k
  |succ n=>exact L.cell hH n d b h1 h2
theorem Fs{l:W.OpenLaw}{XP:(_a)->Heap->Prop}{YP:World->Heap->Prop}{d:DefRec}{K:Params->_c}{cs:List a!}{f:FN}(hn:l.most=some 63)(SS:d.params.defaults=[])(hr:gk k callerA)(hf:∀(c:a!)(ns:_d),ns.length<=63->ar (c::cs) 0=some (ns.map aj.int)->∃aH,f [.loc 0] (c::cs)=.ok (.bl true) aH)(hY:∀(w:World)(h:Heap),YP w h->(K w.params).In h)
  (F:∀ (w:World) (mg:_a) (fa:_l) (h:Heap),(K w.params).In h->h.Ns mainGlobals mg->mg d.name=some (.ref fa) ->
   ∃(fd:FuncData)(ts:List (_l×_l)),tW q (K w.params) cs ts/\(ts.map (·.2)).Nodup/\W.noTabs (K w.params)=true/\(∀(s:_k)(u:_j),BindsTo s fd ⟨[u],[]⟩ [(x,u)]) /\
    ∀base:Heap,(K w.params).In base->base.Ns mainGlobals mg->DO mg base ts->uY l.prog w (K w.params) mg base (p9 l.prog w) k fa fd [x] (Pr ⟨K w.params,mg,[]⟩ f)):
  W.WalkO q loose XP YP l.row.toRowW d [] (λf vs=>PySem.call f vs):=by
 refine Att.Am hn SS λw s₀ s₁ mg mb fa o pm cd doc a vs ns G Y ho hd BD SU O1 hints hlen hg=>?_;have KX:=hY w _ Y;obtain⟨fd,ts,L,nd,nt,hb,hF⟩:=F w mg fa _ KX G.T.g SU;refine Fq KX G.T.g G.T.b G.T.builtins G.T.nolimit hg G.T.bmain (L.at_ G.T KX) nt O1 hints (Wg hlen (by decide)) hr hF hb λH hO hS hH na=>?_;have fin:∀c:a!,iK (K w.params) (a::ts.map (·.2)) H c a->ar (c::cs) 0=some (ns.map aj.int)->Pr ⟨K w.params,mg,[]⟩ f [.ref a] H (λv _=>v=.bl true) λ_ _ _=>False:=by intro c k hi;obtain⟨aH,e⟩:=hf c ns hlen hi;refine⟨[.loc 0],a::ts.map (·.2),c::cs,bu.one (Rl.Ht rfl),L1 L nd na hH k,?_⟩;rw[e];intro ρ' H' v _ _ r;exact r.xa
 rcases hS with(h|⟨o,h⟩)|h
 .exact absurd h (hO a _)
 .exact fin (.Pe (ns.map .int)) ⟨o,_,h,bu.ints ns⟩ rfl
 .exact fin (.mod (ns.map .int)) ⟨_,h,bu.ints ns⟩ rfl
def TV:List Stmt->Option Expr
 |[]=>none
 |[.Return (some (.Call _ (e::_) _ _)) _]=>some e
 |_::r=>TV r
def TX(e:Option Expr)(qual:Str)(ps:_i)(x:Str):gA:=match e with
 |some (.Lambda params body scope _)=>⟨qual,params,body,scope,ps,x⟩
 |_=>⟨qual,{posonlyargs:=[],args:=[],vararg:=none,kwonlyargs:=[],kw_defaults:=[],kwarg:=none,defaults:=[]},.Constant .none 0 ⟨0,0,0,0⟩,{kind:=.function,names:=[],isGenerator:=false,isCoroutine:=false},ps,x⟩
theorem P?{f cd T:_l}{o2:_j}{d2:Option _l}{sl s2:Array (_g)}{vs:Array _j}(a:W.nsIn K mainGlobals x=some (some (.ref f)))(l:K.lookup f=some ⟨oc,od,.func fd,sl⟩)(hc:fd.code=.ref cd)(lc:K.lookup cd=some ⟨o2,d2,.fields vs,s2⟩)(hv:(vs[11]?:_g)=some (.ref T)):W.tabIn K x=some (cd,T):=by unfold W.tabIn;simp only[a,l,hc,lc,hv]
end MN
namespace PM
open PySem.Spec L2 MN
open PyProof.Rows hiding St
def gX:aj:=.mt ([2,3,5,7,11,13,17,19,23,29,31].map aj.int)
def qc:FN:=ij 1 1 (bU (B6 (mIs "int" bq) (Tq (mIs "bool" bq))))
def cI:FN:=ij 1 1 (ax (sU (f9 (ai (PF false) bq (mC PM.gX))) (bU (mC (.bl true))) fF) (ax (sU (Ax (f9 (ai ltV bq Kf)) (f9 (ai vf bq (mC (.int 997))))) (bU (mC (.bl false))) fF) (bU (ao B_ (aa (dI 1 [0] (gr (mC PM.gX)) (aB 0) bI (ai yJ (ai f_ bP bq) dE)) ag)))))
def gb:FN:=ij 1 1 (bU (Ke (f9 (ai ltV bq dE)) (ja cH) cH))
def j9:FN:=ij 1 1 (ax (sU (f9 (ai yJ (ao Az (aa bq ag)) cH)) (m9 "NoInverse" (aa (qs "only 1 and -1 have an inverse among the whole numbers") ag)) fF) (bU bq))
def kQ:FN:=ij 1 1 (bU (B6 (ao PM.qc (aa bq ag)) (mOr (ai oZ bq dE) (ao PM.cI (aa bq ag)))))
def shared:FN:=ij 2 6 (ax (aJ 2 (gW (aa (ao Az (aa bq ag)) (aa (ao PM.gb (aa bq ag)) (aa dE ag))))) (ax (aJ 3 (gW (aa (ao Az (aa bP ag)) (aa dE (aa (ao PM.gb (aa bP ag)) ag))))) (ax (cm (f9 (ai yJ (ai bS cT dE) dE)) (ax (aJ 4 (ai p? (ai bS dz dE) (ai bS cT dE))) (ax (aJ 5 (ao B9 (aa (dI 2 [4] (vk false false (aa dz (aa cT ag))) (iN [(aB 0),(aB 1)]) bI (ai gJ bq (ai bX dz bP))) ag))) (ax (aJ 2 cT) (aJ 3 iP))))) (bU dz))))
def jo:FN:=ij 1 1 (sU (DC (f9 (ao PM.kQ (aa bq ag)))) (m9 "NoRing" (aa (qs "a ring is 0 or a prime from 2 to 997") ag)) fF)
def inverse:FN:=ij 2 2 (ax (fg (ao PM.jo (aa bq ag))) (ax (sU (f9 (ai oZ bq dE)) (bU (ao PM.j9 (aa bP ag))) fF) (ax (sU (f9 (ai oZ (ai f_ bP bq) dE)) (m9 "NoInverse" (aa (qs "a multiple of the prime has no inverse") ag)) fF) (bU (ai f_ (ai bS (ao PM.shared (aa (ai f_ bP bq) (aa bq ag))) cH) bq)))))
def cz:FN:=ij 2 3 (ax (aJ 2 (dI 1 [0] (gr bP) (aB 0) bI (ai f_ bq bP))) (ax (cm (xM (f9 (ai vf (ao bc (aa dz ag)) dE)) (f9 (ai oZ (ai bS dz (ja cH)) dE))) (fg (Cj yO dz))) (bU dz)))
def bO:FN:=ij 2 5 (ax (aJ 2 dE) (ax (sU (f9 (ai ltV bP (ao bc (aa bq ag)))) (aJ 2 (ai bS bq bP)) fF) (ax (sU (f9 (ai vf (ao Az (aa dz ag)) (ai Lp (mC (.int 10)) (mC (.int 9))))) (bU dz) fF) (ax (aJ 3 (ai f_ (ai cS (ai cS (ai cS (ai bX dz (mC (.int 48271))) (ai bX (ai bX (mC (.int 7919)) bP) bP)) (ai bX (mC (.int 104729)) bP)) (mC (.int 11))) fH)) (ax (aJ 4 (ai f_ (ai bX (ai f_ (ai bX cT cT) (mC (.int 2147483629))) (mC (.int 69621))) fH)) (bU (ai cS (ai bX (ai f_ (ai bX ff ff) (mC (.int 2147483587))) fH) ff)))))))
def gO:FN:=ij 1 1 (sU (Ax (DC (f9 (ao PM.kQ (aa bq ag)))) (f9 (ai oZ bq dE))) (m9 "NoPrime" (aa (qs "a prime is one from 2 to 997") ag)) fF)
def ee:FN:=ij 2 2 (bU (ai cS (ao rm (aa bq ag)) (ai bX (a_ (aa dE ag)) (ai gJ bP (ao bc (aa bq ag))))))
def oz:FN:=ij 1 2 (ax (aJ 1 (ao bc (aa bq ag))) (ax (cm (xM (f9 (ai vf bP dE)) (f9 (ai oZ (ai bS bq (ai gJ bP cH)) dE))) (aJ 1 (ai gJ bP cH))) (bU (Ci bq jQ (jR bP)))))
def bB:FN:=ij 4 6 (ax (aJ 4 (ao Fm (aa (ao bc (aa bP ag)) (aa (ao bc (aa dz ag)) ag)))) (ax (aJ 5 (ao PM.ee (aa bP (aa ff ag)))) (bU (ao PM.cz (aa bq (aa (dI 2 [3] (vk true true (aa iP (aa (ao PM.ee (aa dz (aa ff ag))) ag))) (iN [(aB 0),(aB 1)]) bI (ai cS bq (ai bX dz bP))) ag))))))
def dB:FN:=ij 3 8 (ax (sU (Ax (f9 (ai oZ (ao bc (aa bP ag)) dE)) (f9 (ai oZ (ao bc (aa dz ag)) dE))) (bU (a_ ag)) fF) (ax (aJ 3 (ai bX (a_ (aa dE ag)) (ai gJ (ai cS (ao bc (aa bP ag)) (ao bc (aa dz ag))) cH))) (ax (f? (j8 (aa bP ag)) (iN [(aB 4),(aB 5)]) (f? (j8 (aa dz ag)) (iN [(aB 6),(aB 7)]) (xU Fl cT (ai cS ff jL) (ai bX iP oY)))) (bU (ao PM.cz (aa bq (aa cT ag)))))))
def dO:FN:=ij 3 3 (bU (ao PM.cz (aa bq (aa (dI 1 [2] (gr bP) (aB 0) bI (ai bX bq bP)) ag))))
def fJ:FN:=ij 2 2 (bU (ao PM.cz (aa bq (aa (dI 1 [1] (jb (aa cH (aa (ao bc (aa bP ag)) ag))) (aB 0) bI (ai bX bq (ai bS bP bq))) ag))))
def kq:FN:=ij 3 6 (ax (aJ 3 (a_ ag)) (ax (f? (e_ (aa dz ag)) (aB 4) (ax (aJ 5 (ai f_ (ai cS bP (ai bX (mC (.int 7919)) ff)) fH)) (ax (aJ 5 (ai f_ (ai bX (ai f_ (ai bX iP iP) (mC (.int 2147483629))) (mC (.int 48271))) fH)) (fg (jN dF cT (aa (ai f_ (ai p? iP (ai cS cH ff)) bq) ag)))))) (bU (ao PM.oz (aa cT ag)))))
def parted:FN:=ij 3 11 (ax (aJ 3 (ao rm (aa bP ag))) (ax (aJ 4 (ao PM.inverse (aa bq (aa (ai bS dz (ja cH)) ag)))) (ax (aJ 5 (ao Fm (aa dE (aa (ai cS (ai gJ (ao bc (aa bP ag)) (ao bc (aa dz ag))) cH) ag)))) (ax (aJ 6 (ai bX (a_ (aa dE ag)) iP)) (ax (f? (yP (aa (ai gJ iP cH) (aa (ja cH) (aa (ja cH) ag)))) (aB 7) (ax (aJ 8 (ai f_ (ai bX (ai bS cT (ai gJ (ai cS oY (ao bc (aa dz ag))) cH)) ff) bq)) (ax (o! jL oY zY) (f? (j8 (aa dz ag)) (iN [(aB 9),(aB 10)]) (xU LQ cT (ai cS oY Bw) (ai bX zY (jl 10))))))) (bU (gW (aa (ao PM.cz (aa bq (aa jL ag))) (aa (ao PM.cz (aa bq (aa cT ag))) ag)))))))))
def gm:FN:=ij 3 5 (ax (aJ 3 (ao PM.parted (aa bq (aa (ai bS bP dE) (aa (ai bS dz dE) ag))))) (ax (aJ 4 (dI 1 [2,3,0] (gr (gW (aa cH (aa Kf ag)))) (aB 0) bI (ao PM.dB (aa cT (aa (ai bS dz dE) (aa (ai bS bP bq) ag)))))) (bU (gW (aa (ai bS cT cH) (aa (ao PM.bB (aa bq (aa (ai bS bP cH) (aa (ai bS ff dE) (aa (ja cH) ag))))) (aa (ao PM.bB (aa bq (aa (ai bS bP Kf) (aa (ai bS ff cH) (aa (ja cH) ag))))) ag)))))))
def met:FN:=ij 3 10 (ax (aJ 3 (gW (aa bP (aa (a_ (aa cH ag)) (aa (a_ ag) ag))))) (ax (aJ 4 (gW (aa dz (aa (a_ ag) (aa (a_ (aa cH ag)) ag))))) (ax (cm (f9 (ai vf (ao bc (aa (ai bS ff dE) ag)) dE)) (ax (aJ 5 (ao PM.gm (aa bq (aa cT (aa ff ag))))) (ax (aJ 3 ff) (aJ 4 iP)))) (ax (aJ 6 (ao PM.inverse (aa bq (aa (ai bS (ai bS cT dE) (ja cH)) ag)))) (ax (aJ 7 (ao PM.dO (aa bq (aa (ai bS cT dE) (aa jL ag))))) (ax (aJ 8 (ai bS (ao PM.parted (aa bq (aa bP (aa oY ag)))) dE)) (ax (aJ 9 (ai bS (ao PM.parted (aa bq (aa dz (aa oY ag)))) dE)) (bU (gW (aa oY (aa zY (aa Bw (aa (ao PM.dO (aa bq (aa (ai bS cT cH) (aa jL ag)))) (aa (ao PM.dO (aa bq (aa (ai bS cT Kf) (aa jL ag)))) ag))))))))))))))
end PM
namespace MN
open PySem.Spec L2
open PyProof.Rows hiding St
theorem eg{g:af->Prop}{a:AS}{body:MB}(P:Nat->Env->af->Prop):∀(us:List aj)(k:Nat)(μ:Env)(st:af),
  (∀(i:Nat)(u:aj)(μ:Env)(st:af),us[i]?=some u->P (k+i) μ st->g st/\∃μ1,a u μ=some μ1/\∃μ' aH,(body μ1 st=.nx μ' aH\/body μ1 st=.ct μ' aH)/\P (k+i+1) μ' aH) ->
  (∀μ st,P (k+us.length) μ st->g st)->P k μ st->∃μ' aH,forL g a body us μ st=.nx μ' aH/\P (k+us.length) μ' aH
 |[],k,μ,st,_,he,h=>by refine⟨μ,st,?_,h⟩;unfold forL;rw[Vs (he μ st h)]
 |u::us,k,μ,st,hs,he,h=>by
  obtain⟨hg,μ1,ha,μ',aH,hb,hP⟩:=hs 0 u μ st rfl h;have ih:=eg (a:=a) (body:=body) P us (k+1) μ' aH (λi v μ2 b8 hv hp=>by
   have:=hs (i+1) v μ2 b8 hv (by rw[show k+(i+1)=k+1+i by lia];exact hp);rw[show k+(i+1)+1=k+1+i+1 by lia]at this;exact this) (λμ2 b8 hp=>he μ2 b8 (by rw[Vl,show k+(us.length+1)=k+1+us.length by lia];exact hp)) hP
  obtain⟨μ2,b8,e2,p2⟩:=ih;refine⟨μ2,b8,?_,by rw[Vl,show k+(us.length+1)=k+1+us.length by lia];exact p2⟩;unfold forL;rw[Vs hg,ha];rcases hb with hb|hb<;>(dsimp only;rw[hb];exact e2)
theorem jq{g:af->Prop}{a:AS}{c:MT}{e:ME}{st:af}(hg:g st)(I:Env->Prop)(p:aj->Bool)(f:aj->aj):∀(us:List aj)(τ:Env)(ys:List aj),I τ ->
  (∀u∈us,∀τ,I τ->∃τ1,a u τ=some τ1/\I τ1/\c τ1 st=.ok (p u) st/\(p u=true->e τ1 st=.ok (f u) st))->dX g a c e us τ st ys=.ok (ys++(us.filter p).map f) st
 |[],τ,ys,_,_=>by unfold dX;rw[Vs hg];simp
 |u::us,τ,ys,hI,hs=>by
  obtain⟨τ1,h1,h2,h3,h4⟩:=hs u Vz τ hI;have LY:=λv hv=>hs v (VH u hv);unfold dX;rw[Vs hg,h1];dsimp only;rw[h3];cases z:p u with
  |true=>
   dsimp only;rw[h4 z];dsimp only;rw[jq hg I p f us τ1 _ h2 LY,Z! z];simp
  |false=>
   dsimp only;rw[jq hg I p f us τ1 _ h2 LY,Z? (by rw[z];simp)]
theorem cJ(st:af)(us:List aj):ar (st++[.lst us]) st.length=some us:=by unfold ar;rw[V3 (Vv _),WY];rfl
theorem cK{st:af}{n:Nat}(h:ar st n=some us)(more:af):ar (st++more) n=some us:=by
 have hn:n<st.length:=by
  rcases WD n st.length with q|q
  .exact q
  .unfold ar at h;rw[Wa q]at h;cases h
 unfold ar at h⊢;rw[V4 hn];exact h
theorem vp{t:MT}{body:MB}(P:Env->af->Prop)(M:Env->af->Nat)(Q:Env->af->Prop)(hs:∀μ st,P μ st->(∃st1,t μ st=.ok false st1/\Q μ st1)\/∃st1 μ' aH,t μ st=.ok true st1/\(body μ st1=.nx μ' aH\/body μ st1=.ct μ' aH)/\P μ' aH/\M μ' aH<M μ st):
  ∀(n:Nat)(μ:Env)(st:af),M μ st<n->P μ st->∃μ' aH,ik t body n μ st=some (.nx μ' aH)/\Q μ' aH
 |0,μ,st,h,_=>absurd h (Y0 _)
 |n+1,μ,st,h,hp=>by
  unfold ik;rcases hs μ st hp with⟨st1,e,q⟩|⟨st1,μ',aH,e,hb,p',lt⟩
  .rw[e];exact⟨μ,st1,rfl,q⟩
  .rw[e];dsimp only;obtain⟨μ2,b8,e2,q2⟩:=vp P M Q hs n μ' aH (by lia) p';rcases hb with hb|hb<;>(rw[hb];exact⟨μ2,b8,e2,q2⟩)
theorem fK{t:MT}(P:Env->af->Prop)(M:Env->af->Nat)(Q:Env->af->Prop)(hs:∀μ st,P μ st->(∃st1,t μ st=.ok false st1/\Q μ st1)\/∃st1 μ' aH,t μ st=.ok true st1/\(body μ st1=.nx μ' aH\/body μ st1=.ct μ' aH)/\P μ' aH/\M μ' aH<M μ st)(μ:Env)(st:af)(hp:P μ st):∃μ' aH,cm t body μ st=.nx μ' aH/\Q μ' aH:=by obtain⟨μ',aH,e,q⟩:=vp P M Q hs (M μ st+1) μ st (Ye _) hp;exact⟨μ',aH,Fh e,q⟩
def eZ.kR(r:eZ α)(k:α->af->eZ β):eZ β:=match r with
 |.ok a st=>k a st
 |.err c st=>.err c st
 |.bad=>.bad
def eZ.sX(r:eZ α)(μ:Env)(k:α->af->e?):e?:=match r with
 |.ok a st=>k a st
 |.err c st=>.er c μ st
 |.bad=>.bad
def e?.eJ(r:e?)(k:MB):e?:=match r with
 |.nx μ st=>k μ st
 |.rt v st=>.rt v st
 |.bk μ st=>.bk μ st
 |.ct μ st=>.ct μ st
 |.er c μ st=>.er c μ st
 |.bad=>.bad
def e?.fin(r:e?):eZ aj:=match r with
 |.nx _ aH=>.ok .dD aH
 |.rt v aH=>.ok v aH
 |.er c _ aH=>.err c aH
 |_=>.bad
section
variable{μ:Env}{st:af}
theorem aq{a:α}{k:α->af->eZ β}:(eZ.ok a st).kR k=k a st:=rfl
theorem aF{a:α}{k:α->af->e?}:(eZ.ok a st).sX μ k=k a st:=rfl
theorem aS{k:MB}:(e?.nx μ st).eJ k=k μ st:=rfl
theorem nh{k:MB}:(e?.rt v st).eJ k=.rt v st:=rfl
theorem H!:(e?.nx μ st).fin=.ok .dD st:=rfl
theorem bg:(e?.rt v st).fin=.ok v st:=rfl
theorem kr{r:eZ α}{k:α->af->eZ β}:r.bind k=r.kR k:=by cases r<;>rfl
variable{a b c:ME}{f g:F2}{t u:MT}{s1 s2:MB}{i:Nat}
theorem dQ{r:eZ α}{k k':α->af->eZ β}(h:∀a st,k a st=k' a st):r.bind k=r.kR k':=by cases r<;>first|exact h _ _|rfl
theorem gu{r:eZ α}{k k':α->af->e?}(h:∀a st,k a st=k' a st):r.sb μ k=r.sX μ k':=by cases r<;>first|exact h _ _|rfl
def H?(f:F2)(x:aj):aj->af->eZ aj:=λy st=>f x y st
def TY(f:F2)(b:ME)(μ:Env):aj->af->eZ aj:=λx st=>(b μ st).kR (H? f x)
theorem aD:ai f a b μ st=(a μ st).kR (TY f b μ):=dQ λ_ _=>dQ λ_ _=>rfl
theorem aM{x:aj}:TY f b μ x st=(b μ st).kR (H? f x):=rfl
theorem aE{x:aj}:H? f x y st=f x y st:=rfl
theorem bN:mC v μ st=.ok v st:=rfl
def asB:aj->af->eZ Bool
 |.bl b,st=>.ok b st
 |_,_=>.bad
theorem bo{b:Bool}:asB (.bl b) st=.ok b st:=rfl
theorem bh:f9 a μ st=(a μ st).kR asB:=dQ λx _=>by cases x<;>rfl
def P'(b:ME)(μ:Env):aj->af->eZ aj
 |.bl true,st=>b μ st
 |.bl false,st=>.ok (.bl false) st
 |_,_=>.bad
theorem vq:B6 a b μ st=(a μ st).kR (P' b μ):=dQ λx _=>by
 cases x<;>try rfl
 rename_i k;cases k<;>rfl
theorem uC:P' b μ (.bl true) st=b μ st:=rfl
theorem L3:P' b μ (.bl false) st=.ok (.bl false) st:=rfl
def kOr(b:ME)(μ:Env):aj->af->eZ aj
 |.bl true,st=>.ok (.bl true) st
 |.bl false,st=>b μ st
 |_,_=>.bad
theorem Nr:mOr a b μ st=(a μ st).kR (kOr b μ):=dQ λx _=>by
 cases x<;>try rfl
 rename_i k;cases k<;>rfl
theorem Qa:kOr b μ (.bl true) st=.ok (.bl true) st:=rfl
theorem Qb:kOr b μ (.bl false) st=b μ st:=rfl
def Ia(u:MT)(μ:Env):Bool->af->eZ Bool
 |true,st=>u μ st
 |false,st=>.ok false st
theorem uD:xM t u μ st=(t μ st).kR (Ia u μ):=dQ λx _=>by cases x<;>rfl
theorem AF:Ia u μ true st=u μ st:=rfl
theorem Ib:Ia u μ false st=.ok false st:=rfl
def Qc(u:MT)(μ:Env):Bool->af->eZ Bool
 |true,st=>.ok true st
 |false,st=>u μ st
theorem jr:Ax t u μ st=(t μ st).kR (Qc u μ):=dQ λx _=>by cases x<;>rfl
theorem L4:Qc u μ true st=.ok true st:=rfl
theorem jd:Qc u μ false st=u μ st:=rfl
def Nt:Bool->af->eZ Bool:=λk st=>.ok (!k) st
theorem DP:DC t μ st=(t μ st).kR Nt:=dQ λ_ _=>rfl
theorem Ic{k:Bool}:Nt k st=.ok (!k) st:=rfl
def Qd(a b:ME)(μ:Env):Bool->af->eZ aj
 |true,st=>a μ st
 |false,st=>b μ st
theorem o?:Ke t a b μ st=(t μ st).kR (Qd a b μ):=dQ λx _=>by cases x<;>rfl
theorem qd:Qd a b μ true st=a μ st:=rfl
theorem qe:Qd a b μ false st=b μ st:=rfl
theorem aG:ag μ st=.ok [] st:=rfl
def Cm(x:aj):List aj->af->eZ (List aj):=λxs st=>.ok (x::xs) st
def Nu(ms:MA)(μ:Env):aj->af->eZ (List aj):=λx st=>(ms μ st).kR (Cm x)
theorem av:aa a ms μ st=(a μ st).kR (Nu ms μ):=dQ λ_ _=>dQ λ_ _=>rfl
theorem aC{x:aj}:Nu ms μ x st=(ms μ st).kR (Cm x):=rfl
theorem aw{x:aj}{xs:List aj}:Cm x xs st=.ok (x::xs) st:=rfl
def TZ:List aj->af->eZ aj:=λxs st=>if xs.length<=sizeLine then .ok (.tup xs) st else .bad
theorem gY:gW ms μ st=(ms μ st).kR TZ:=dQ λ_ _=>rfl
theorem jT{xs:List aj}:TZ xs st=if xs.length<=sizeLine then .ok (.tup xs) st else .bad:=rfl
def T3:List aj->af->eZ aj:=λxs st=>if xs.length<=sizeLine then .ok (.loc st.length) (st++[.lst xs])else .bad
theorem nj:a_ ms μ st=(ms μ st).kR T3:=dQ λ_ _=>rfl
theorem sY{xs:List aj}:T3 xs st=if xs.length<=sizeLine then .ok (.loc st.length) (st++[.lst xs])else .bad:=rfl
theorem aA{h:FN}:ao h ms μ st=(ms μ st).kR h:=dQ λ_ _=>rfl
def T4:aj->af->eZ aj
 |.int i,st=>.ok (.int (-i)) st
 |_,_=>.bad
theorem fR{i:Int}:T4 (.int i) st=.ok (.int (-i)) st:=rfl
theorem iU:ja a μ st=(a μ st).kR T4:=dQ λx _=>by cases x<;>rfl
theorem aP:ax s1 s2 μ st=(s1 μ st).eJ s2:=by unfold ax;cases s1 μ st<;>rfl
theorem cQ:fF μ st=.nx μ st:=rfl
def Nv(μ:Env):aj->af->e?:=λ_ st=>.nx μ st
theorem fM:fg a μ st=(a μ st).sX μ (Nv μ):=gu λ_ _=>rfl
theorem gK:Nv μ v st=.nx μ st:=rfl
def T5:aj->af->e?:=λv st=>.rt v st
theorem ba:bU a μ st=(a μ st).sX μ T5:=gu λ_ _=>rfl
theorem bJ:T5 v st=.rt v st:=rfl
def kIf(s1 s2:MB)(μ:Env):Bool->af->e?
 |true,st=>s1 μ st
 |false,st=>s2 μ st
theorem b9:sU t s1 s2 μ st=(t μ st).sX μ (kIf s1 s2 μ):=gu λx _=>by cases x<;>rfl
theorem iV:kIf s1 s2 μ true st=s1 μ st:=rfl
theorem d8:kIf s1 s2 μ false st=s2 μ st:=rfl
def T6(i:Nat)(μ:Env):aj->af->e?:=λv st=>.nx (μ.set i (some v)) st
theorem bf:aJ i a μ st=(a μ st).sX μ (T6 i μ):=gu λ_ _=>rfl
theorem bK:T6 i μ v st=.nx (μ.set i (some v)) st:=rfl
def aa2(x:Str)(μ:Env):List aj->af->e?:=λvs st=>if vs.length<=sizeLine then .er x μ st else .bad
def kFor(as:AS)(s1:MB)(μ:Env):Itm->af->e?:=λp st=>forL p.2 as s1 p.1 μ st
theorem eO{it:MI}{as:AS}:f? it as s1 μ st=(it μ st).sX μ (kFor as s1 μ):=gu λ_ _=>rfl
theorem gC{as:AS}{q:af->Prop}:kFor as s1 μ (us,q) st=forL q as s1 us μ st:=rfl
def Qe:List aj->af->eZ aj:=λys st=>.ok (.loc st.length) (st++[.lst ys])
theorem ie{ys:List aj}:Qe ys st=.ok (.loc st.length) (st++[.lst ys]):=rfl
def Ie(k:Nat)(bE:List Nat)(as:AS)(t:MT)(a:ME)(μ:Env):Itm->af->eZ aj:=λp st=>if p.1.length<=sizeLine then(dX p.2 as t a p.1 (iS k bE μ) st []).kR Qe else .bad
theorem d6{it:MI}{as:AS}:dI k bE it as t a μ st=(it μ st).kR (Ie k bE as t a μ):=dQ λp st1=>by
 unfold Ie;split
 .exact dQ λ_ _=>rfl
 .rfl
theorem fX{as:AS}{q:af->Prop}:Ie k bE as t a μ (us,q) st=if us.length<=sizeLine then(dX q as t a us (iS k bE μ) st []).kR Qe else .bad:=rfl
theorem bC{np n:Nat}(h:us.length=np):ij np n s1 us st=(s1 (us.map some++List.replicate (n-np) none) st).fin:=by unfold ij;rw[Vs h];cases s1 (us.map some++List.replicate (n-np) none) st<;>rfl
theorem aK{x:Option aj}{μ:Env}:jl (i+1) (x::μ) st=jl i μ st:=rfl
theorem aO{μ:Env}:bq (some (.int j)::μ) st=.ok (.int j) st:=rfl
theorem gf{μ:Env}{j:List aj}:bq (some (.tup j)::μ) st=.ok (.tup j) st:=rfl
theorem aU{μ:Env}{j:Nat}:bq (some (.loc j)::μ) st=.ok (.loc j) st:=rfl
theorem Nw{μ:Env}:bq (some .dD::μ) st=.ok .dD st:=rfl
def AG(v:aj)(st:af):eZ Itm:=match vj st v with
 |some p=>.ok p st
 |none=>.bad
theorem ej:gr a μ st=(a μ st).kR AG:=by unfold gr;rw[kr];rfl
theorem Ft:AG (.tup us) st=.ok (us,λ_=>True) st:=rfl
theorem cY{n:Nat}(h:ar st n=some us):AG (.loc n) st=.ok (us,λaH=>ar aH n=some us) st:=by simp only[AG,vj,h];rfl
def L5(vs:List aj)(aH:af):eZ Itm:=match vs with
 |[.int j]=>if -(2 ^ 62)<=j/\j<2 ^ 62 then .ok (cN 0 j.toNat,λ_=>True) aH else .bad
 |_=>.bad
def Fu(vs:List aj)(aH:af):eZ Itm:=match vs with
 |[.int i,.int j]=>if -(2 ^ 62)<=i/\i<2 ^ 62/\-(2 ^ 62)<=j/\j<2 ^ 62 then .ok (cN i (j-i).toNat,λ_=>True) aH else .bad
 |_=>.bad
theorem jU:e_ ms μ st=(ms μ st).kR L5:=by unfold e_;rw[kr];rfl
theorem qf:jb ms μ st=(ms μ st).kR Fu:=by unfold jb;rw[kr];rfl
theorem DQ(h1:-(2 ^ 62)<=j)(h2:j<2 ^ 62):L5 [.int j] st=.ok (cN 0 j.toNat,λ_=>True) st:=by unfold L5;dsimp only;rw[Vs ⟨h1,h2⟩]
theorem uE{i:Int}(h1:-(2 ^ 62)<=i)(h2:i<2 ^ 62)(h3:-(2 ^ 62)<=j)(h4:j<2 ^ 62):Fu [.int i,.int j] st=.ok (cN i (j-i).toNat,λ_=>True) st:=by unfold Fu;dsimp only;rw[Vs ⟨h1,h2,h3,h4⟩]
def L6(b1 b2:Bool)(vs:List aj)(aH:af):eZ Itm:=match vs with
 |[u,w]=>match jm aH u,jm aH w with
  |some (c1,us,g1),some (c2,ws,g2)=>if c1=b1/\c2=b2 then .ok (mM us ws,λb8=>g1 b8/\g2 b8) aH else .bad
  |_,_=>.bad
 |_=>.bad
theorem Cn:vk b1 b2 ms μ st=(ms μ st).kR (L6 b1 b2):=by unfold vk;rw[kr];rfl
theorem L7:L6 false false [.tup us,.tup ws] st=.ok (mM us ws,λ_=>True/\True) st:=rfl
theorem L8{n:Nat}(h1:ar st n=some us):B9 [.loc n] st=.ok (.tup us) st:=by unfold B9;dsimp only;rw[h1]
theorem gZ{i:Int}:cS (.int i) (.int j) st=.ok (.int (i+j)) st:=rfl
theorem fi{i:Int}:gJ (.int i) (.int j) st=.ok (.int (i-j)) st:=rfl
theorem Co{i:Int}(h:MulOk i j):bX (.int i) (.int j) st=.ok (.int (i*j)) st:=by unfold bX;dsimp only;rw[Vs h]
theorem Cp{i:Int}(h:Sz i/\Sz j):bX (.int i) (.int j) st=.ok (.int (i*j)) st:=Co (.inl h)
theorem jV{i:Int}(h1:-(2 ^ 64)<i)(h2:i<2 ^ 64):bX (.int i) (.int j) st=.ok (.int (i*j)) st:=Co (.inr (.inl ⟨h1,h2⟩))
theorem mul_r{i:Int}(h1:-(2 ^ 64)<j)(h2:j<2 ^ 64):bX (.int i) (.int j) st=.ok (.int (i*j)) st:=Co (.inr (.inr ⟨h1,h2⟩))
theorem div_ii{i:Int}(h:Dz j):p? (.int i) (.int j) st=.ok (.int (i.fdiv j)) st:=Vs h
theorem fY{i:Int}(h:¬ j=0):f_ (.int i) (.int j) st=.ok (.int (i.fmod j)) st:=VE h
theorem yQ{i:Int}(h:GP i j):Lp (.int i) (.int j) st=.ok (.int (i ^ j.toNat)) st:=Vs h
theorem js{i:Int}:ltV (.int i) (.int j) st=.ok (.bl (decide (i<j))) st:=rfl
theorem Nx{i:Int}:leV (.int i) (.int j) st=.ok (.bl (decide (i<=j))) st:=rfl
theorem gq{i:Int}:vf (.int i) (.int j) st=.ok (.bl (decide (j<i))) st:=rfl
theorem ig{i:Int}:oZ (.int i) (.int j) st=.ok (.bl (i==j)) st:=rfl
theorem sZ{i:Int}:yJ (.int i) (.int j) st=.ok (.bl (!(i==j))) st:=rfl
theorem T7{i j:Bool}:oZ (.bl i) (.bl j) st=.ok (.bl (i==j)) st:=rfl
theorem T8{i j:Bool}:yJ (.bl i) (.bl j) st=.ok (.bl (!(i==j))) st:=rfl
theorem bD{i:Int}{v:aj}(h:L2.mX us i=some v):bS (.tup us) (.int i) st=.ok v st:=by unfold bS;dsimp only;rw[h]
theorem cO{n:Nat}{i:Int}{v:aj}(h1:ar st n=some us)(h:L2.mX us i=some v):bS (.loc n) (.int i) st=.ok v st:=by unfold bS;dsimp only;rw[h1];dsimp only;rw[h]
theorem aQ{n:Nat}(h1:ar st n=some us):bc [.loc n] st=.ok (.int us.length) st:=by unfold bc;dsimp only;rw[h1]
theorem AH{i:Int}:Az [.int i] st=.ok (.int (if i<0 then -i else i)) st:=rfl
theorem L9{n:Nat}(h1:ar st n=some us)(h2:ar st m=some []):uz 16 st (.loc n) (.loc m)=some us.isEmpty:=by unfold uz;simp only[vw,h1,h2];show oN _ us []=_;cases us<;>rfl
theorem eq_nil{n:Nat}(h1:ar st n=some us)(h2:ar st m=some []):oZ (.loc n) (.loc m) st=.ok (.bl us.isEmpty) st:=by unfold oZ;rw[L9 h1 h2]
end
open PyProof.Rows hiding St kindOf
section
variable{μ:Env}{st:af}{a b c o:ME}{f:F2}{g:FM}{w:aj}{i n:Nat}
def Qf(x:aj)(l:Option Int):Option Int->af->eZ aj:=λh st=>GC l h x st
def Qg(hi:MO)(μ:Env)(x:aj):Option Int->af->eZ aj:=λl st=>(hi μ st).kR (Qf x l)
def kSl(lo hi:MO)(μ:Env):aj->af->eZ aj:=λx st=>(lo μ st).kR (Qg hi μ x)
theorem AI{lo hi:MO}:Ci a lo hi μ st=(a μ st).kR (kSl lo hi μ):=dQ λx st1=>dQ λl b8=>dQ λh oX=>rfl
theorem Ig{lo hi:MO}:kSl lo hi μ v st=(lo μ st).kR (Qg hi μ v):=rfl
theorem AJ{hi:MO}{l:Option Int}:Qg hi μ v l st=(hi μ st).kR (Qf v l):=rfl
theorem AK{l h:Option Int}:Qf v l h st=GC l h v st:=rfl
theorem nk:jQ μ st=.ok none st:=rfl
def kO:aj->af->eZ (Option Int)
 |.int i,st=>.ok (some i) st
 |_,_=>.bad
theorem nu:jR a μ st=(a μ st).kR kO:=dQ λx _=>by cases x<;>rfl
theorem Ih:kO (.int j) st=.ok (some j) st:=rfl
theorem vt{l h:Option Int}(e:ar st n=some us):GC l h (.loc n) st=.ok (.loc st.length) (st++[.lst (xb us l h)]):=by simp only[GC,e]
def Qh(g:FM)(x:aj):List aj->af->eZ aj:=λxs st=>g x xs st
def L_(g:FM)(ms:MA)(μ:Env):aj->af->eZ aj:=λx st=>if sV st x=true then(ms μ st).kR (Qh g x)else .bad
theorem nv:jN g o ms μ st=(o μ st).kR (L_ g ms μ):=dQ λx st1=>by
 unfold L_;split
 .exact dQ λ_ _=>rfl
 .rfl
theorem qg(h:st[n]?=some (.lst us)):L_ g ms μ (.loc n) st=(ms μ st).kR (Qh g (.loc n)):=by unfold L_;rw[Vs (by unfold sV;dsimp only;rw[h])]
theorem s_{xs:List aj}:Qh g v xs st=g v xs st:=rfl
def Qi(g:FM):aj->af->eZ aj:=λx st=>if sV st x=true then g x [] st else .bad
theorem Ii:Cj g o μ st=(o μ st).kR (Qi g):=dQ λ_ _=>rfl
theorem Ny(h:st[n]?=some (.lst us)):Qi g (.loc n) st=g (.loc n) [] st:=by unfold Qi;rw[Vs (by unfold sV;dsimp only;rw[h])]
theorem iq(h:st[n]?=some (.lst us))(hl:us.length<sizeLine):dF (.loc n) [v] st=.ok .dD (st.set n (.lst (us++[v]))):=by simp only[dF,h];rw[Vs hl]
theorem Ij(h:st[n]?=some (.lst (us++[v]))):yO (.loc n) [] st=.ok v (st.set n (.lst us)):=by
 simp only[yO,h];have e:(us++[v])[(us++[v]).length-1]?=some v:=by rw[Vm,VO,Nat.add_sub_cancel,V3 (Vv _),WY];rfl
 rw[e,List.dropLast_concat]
def Qj(μ:Env)(x y:aj):aj->af->e?:=λz st=>Nn μ (rE y z x st)
def Qk(b:ME)(μ:Env)(x:aj):aj->af->e?:=λy st=>(b μ st).sX μ (Qj μ x y)
def kSI(a b:ME)(μ:Env):aj->af->e?:=λx st=>(a μ st).sX μ (Qk b μ x)
theorem yR:o! a b c μ st=(c μ st).sX μ (kSI a b μ):=gu λ_ _=>gu λ_ _=>gu λ_ _=>rfl
theorem Ql:kSI a b μ v st=(a μ st).sX μ (Qk b μ v):=rfl
theorem Ik:Qk b μ v w st=(b μ st).sX μ (Qj μ v w):=rfl
theorem Il{x:aj}:Qj μ v w x st=Nn μ (rE w x v st):=rfl
theorem qh{k:Int}{j:Nat}(h:st[n]?=some (.lst us))(hj:L2.Aj us.length k=some j):rE (.loc n) (.int k) v st=some (st.set n (.lst (us.set j v))):=by simp only[rE,h,hj];rfl
theorem ny:Nn μ (some st)=.nx μ st:=rfl
def Qm(μ:Env)(y z:aj):aj->af->e?:=λr st=>Nn μ (rE y z r st)
def Qn(f:F2)(μ:Env)(y z x:aj):aj->af->e?:=λw st=>(f x w st).sX μ (Qm μ y z)
def Qo(f:F2)(c:ME)(μ:Env)(y z:aj):aj->af->e?:=λx st=>(c μ st).sX μ (Qn f μ y z x)
def Qp(f:F2)(c:ME)(μ:Env)(y:aj):aj->af->e?:=λz st=>(Np y z st).sX μ (Qo f c μ y z)
def kAI(f:F2)(b c:ME)(μ:Env):aj->af->e?:=λy st=>(b μ st).sX μ (Qp f c μ y)
theorem DR:xU f a b c μ st=(a μ st).sX μ (kAI f b c μ):=gu λ_ _=>gu λ_ _=>gu λ_ _=>gu λ_ _=>gu λ_ _=>rfl
theorem T9:kAI f b c μ v st=(b μ st).sX μ (Qp f c μ v):=rfl
theorem Nz:Qp f c μ v w st=(Np v w st).sX μ (Qo f c μ v w):=rfl
theorem NC{x:aj}:Qo f c μ v w x st=(c μ st).sX μ (Qn f μ v w x):=rfl
theorem NG{x:aj}:Qn f μ v w x y st=(f x y st).sX μ (Qm μ v w):=rfl
theorem NH{x:aj}:Qm μ v w x st=Nn μ (rE v w x st):=rfl
theorem Im{k:Int}(e:ar st n=some us)(h:L2.mX us k=some v):Np (.loc n) (.int k) st=.ok v st:=by simp only[Np,e,h]
theorem Io{k:Int}:Fl (.int j) (.int k) st=.ok (.int (j+k)) st:=rfl
theorem Qq{k:Int}:LQ (.int j) (.int k) st=.ok (.int (j-k)) st:=rfl
def Qr(k:Nat)(μ:Env):aj->af->e?:=λr st=>.nx (μ.set k (some r)) st
def Qs(k:Nat)(f:F2)(μ:Env)(x:aj):aj->af->e?:=λw st=>(f x w st).sX μ (Qr k μ)
def kAu(k:Nat)(f:F2)(a:ME)(μ:Env):aj->af->e?:=λx st=>(a μ st).sX μ (Qs k f μ x)
theorem Qt:HY k f a μ st=(jl k μ st).sX μ (kAu k f a μ):=gu λ_ _=>gu λ_ _=>gu λ_ _=>rfl
theorem aa3:kAu k f a μ v st=(a μ st).sX μ (Qs k f μ v):=rfl
theorem T_:Qs k f μ v w st=(f v w st).sX μ (Qr k μ):=rfl
theorem T!:Qr k μ v st=.nx (μ.set k (some v)) st:=rfl
theorem L!:yP ms μ st=(ms μ st).kR H9:=by unfold yP;rw[kr]
theorem qj:j8 ms μ st=(ms μ st).kR H_:=by unfold j8;rw[kr]
theorem Qu{k:Int}(h1:-(2 ^ 62)<=j)(h2:j<2 ^ 62)(h3:-(2 ^ 62)<=k)(h4:k<2 ^ 62):H9 [.int j,.int k,.int (-1)] st=.ok (lY j (j-k).toNat,λ_=>True) st:=by unfold H9;dsimp only;rw[Vs ⟨rfl,h1,h2,h3,h4⟩]
theorem vx(e:ar st n=some us):H_ [.loc n] st=.ok (jS 0 us,λb8=>ar b8 n=some us) st:=by simp only[H_,e]
theorem Ip(e1:ar st n=some us)(e2:ar st m=some ws):L6 true true [.loc n,.loc m] st=.ok (mM us ws,λb8=>ar b8 n=some us/\ar b8 m=some ws) st:=by unfold L6;dsimp only;unfold jm;dsimp only;rw[e1,e2];rfl
theorem Iq{k:Int}:Fm [.int j,.int k] st=.ok (.int (if k>j then k else j)) st:=rfl
theorem kW(e:ar st n=some us):rm [.loc n] st=.ok (.loc st.length) (st++[.lst us]):=by simp only[rm,e]
theorem ju(h1:st[n]?=some (.lst us))(h2:st[m]?=some (.lst ws))(hl:us.length+ws.length<=sizeLine):cS (.loc n) (.loc m) st=.ok (.loc st.length) (st++[.lst (us++ws)]):=by simp only[cS,h1,h2];rw[Vs hl]
theorem rH{k:Int}(h1:st[n]?=some (.lst us))(h2:-(2 ^ 63)<=k)(h3:k<2 ^ 63)(h4:us.length*k.toNat<=sizeLine):bX (.loc n) (.int k) st=.ok (.loc st.length) (st++[.lst (xO k.toNat us)]):=by simp only[bX,h1];rw[Vs ⟨h2,h3,h4⟩]
theorem ay(h:st[n]?=some (.lst us)):ar st n=some us:=by unfold ar;rw[h]
theorem bx(st:af)(us:List aj):(st++[a!.lst us])[st.length]?=some (.lst us):=by grind
theorem cP{k:a!}(h:st[n]?=some k)(g:af):(st++g)[n]?=some k:=by grind
theorem g6{k k':a!}(h:st[n]?=some k):(st.set n k')[n]?=some k':=WT (bF h)
theorem gg{k k':a!}(h:st[n]?=some k)(hn:m≠n):(st.set m k')[n]?=some k:=by rw[Xf hn];exact h
theorem NI(h:ar st n=some us):n<st.length:=by
 rcases WD n st.length with q|q
 .exact q
 .unfold ar at h;rw[Wa q]at h;cases h
theorem vA(st:af)(k k':a!):(st++[k]).set st.length k'=st++[k']:=by grind
end
mutual
def DS:Nat->aj->Bool
 |_,.dD=>true
 |_,.bl _=>true
 |_,.int _=>true
 |_,.str _=>true
 |0,.tup _=>false
 |n+1,.tup us=>j_ n us
 |_,_=>false
def j_:Nat->List aj->Bool
 |_,[]=>true
 |n,u::us=>DS n u&&j_ n us
end
mutual
theorem Ir(st:af):∀(n:Nat)(v:aj),DS n v=true->uz (n+1) st v v=some true
 |_,.dD,_=>rfl
 |_,.bl b,_=>by show some (b==b)=_;rw[Xl]
 |_,.int i,_=>by show some (i==i)=_;rw[Xl]
 |_,.str x,_=>by show some (x==x)=_;rw[Xl]
 |0,.tup _,h=>by cases h
 |n+1,.tup us,h=>by show oN (uz (n+1) st) us us=some true;exact rK st n us h
 |n,.loc _,h=>by cases n<;>cases h
 |n,.exc _,h=>by cases n<;>cases h
 |n,.fn _ _,h=>by cases n<;>cases h
 |n,.mt _,h=>by cases n<;>cases h
theorem rK(st:af):∀(n:Nat)(us:List aj),j_ n us=true->oN (uz (n+1) st) us us=some true
 |_,[],_=>rfl
 |n,u::us,h=>by
  have h':DS n u=true/\j_ n us=true:=by simpa[j_]using h
  show(match uz (n+1) st u u,oN (uz (n+1) st) us us with|some a,some b=>some (a&&b)|_,_=>none)=_;rw[Ir st n u h'.1,rK st n us h'.2];rfl
end
theorem xW{n:Nat}:∀{us:List aj},(∀u∈us,DS n u=true)->j_ n us=true
 |[],_=>rfl
 |u::us,h=>by unfold j_;rw[h u Vz,xW λw hw=>h w (VH u hw)];rfl
theorem AL(n:Nat)(ns:_d):j_ n (ns.map aj.int)=true:=xW λu hu=>by obtain⟨i,_,rfl⟩:=VR.mp hu;cases n<;>rfl
section
variable{st:af}{n:Nat}
theorem Fv(h1:ar st n=some us)(h2:ar st m=some us)(hp:j_ 14 us=true):uz 16 st (.loc n) (.loc m)=some true:=by unfold uz;simp only[vw,h1,h2];exact rK st 14 us hp
theorem Iu(h1:ar st n=some us)(h2:ar st m=some us)(hp:j_ 14 us=true):yJ (.loc n) (.loc m) st=.ok (.bl false) st:=by unfold yJ;rw[Fv h1 h2 hp];rfl
end
end MN
namespace PG
open PySem.Spec L2 MN
open PyProof.Rows hiding St kindOf
theorem ql(i:Int)(st:af):PM.qc [.int i] st=.ok (.bl true) st:=rfl
def FP:_d:=[2,3,5,7,11,13,17,19,23,29,31]
def dM(n:Int):Bool:=FP.contains n || (decide (2<=n)&&decide (n<=997)&&FP.all λp => !(n.fmod p==0))
theorem any_ints(n:Int)(ns:_d):(ns.map aj.int).any (λy=>Pz y (.int n))=ns.contains n:=by
 induction ns with
 |nil=>rfl
 |cons m ns ih=>
  simp only[Vq,XZ,List.contains_cons];rw[ih];congr 1;show(m==n)=(n==m);rw[Bool.eq_iff_iff,Yg,Yg];exact⟨Eq.symm,Eq.symm⟩
theorem L?(n:Int)(ns:_d)(st:af):PF false (.int n) (.mt (ns.map aj.int)) st=.ok (.bl (ns.contains n)) st:=by
 have h1:(ns.map aj.int).all flat=true:=by rw[List.all_map];exact WB.mpr λ_ _=>rfl
 unfold PF Nm;dsimp only;rw[Vs ⟨rfl,h1⟩,any_ints];rfl
theorem L'(ns:_d)(f:Int->Bool):o_ ((ns.map aj.int).map λv=>match v with|.int i=>.bl (f i)|_=>.dD)=some (ns.map f):=by
 induction ns with
 |nil=>rfl
 |cons m ns ih=>
  simp only[Vq,o_]at ih⊢;rw[ih];rfl
theorem oP(n:Int)(st:af):∃g,PM.cI [.int n] st=.ok (.bl (dM n)) (st++g):=by
 have GA:PF false (.int n) PM.gX st=.ok (.bl (FP.contains n)) st:=L? n FP st;cases h1:FP.contains n with
 |true=>
  refine⟨[],?_⟩;rw[h1]at GA;simp only[PM.cI,bC,aq,aF,nh,bg,aD,aM,aE,bJ,iV,bN,bo,bh,aP,ba,b9,aO,Vq,VQ,VC,Nat.reduceSub,Vl,VB,Nat.reduceAdd,GA,Wi,dM,h1,ZA]
 |false=>
  rw[h1]at GA;by_cases h2:n<2
  .refine⟨[],?_⟩;have e2:decide (n<2)=true:=V7 h2;have e3:decide (2<=n)=false:=V2 (by lia);simp only[PM.cI,bC,aq,aF,aS,nh,bg,aD,aM,aE,L4,bJ,iV,d8,bN,bo,bh,jr,aP,cQ,ba,b9,js,aO,Vq,VQ,VC,Nat.reduceSub,Vl,VB,Nat.reduceAdd,GA,e2,Wi,dM,h1,e3,Yb,Y!]
  .have e2:decide (n<2)=false:=V2 h2;have e3:decide (2<=n)=true:=V7 (by lia);by_cases h3:997<n
   .refine⟨[],?_⟩;have e4:decide (997<n)=true:=V7 h3;have e5:decide (n<=997)=false:=V2 (by lia);simp only[PM.cI,bC,aq,aF,aS,nh,bg,aD,aM,aE,jd,bJ,iV,d8,bN,bo,bh,jr,aP,cQ,ba,b9,js,gq,aO,Vq,VQ,VC,Nat.reduceSub,Vl,VB,Nat.reduceAdd,GA,e2,e4,Wi,dM,h1,e3,e5,Yb,Y!,Bool.true_and]
   .have e4:decide (997<n)=false:=V2 h3;have e5:decide (n<=997)=true:=V7 (by lia)
    let f:aj->aj:=λv=>match v with|.int i=>.bl (!(n.fmod i==0))|_=>.dD
    have hc:dX (λ_=>True) (aB 0) bI (ai yJ (ai f_ bP bq) (mC (aj.int 0))) (FP.map aj.int) (iS 1 [0] [some (aj.int n)]) st []=.ok ([]++((FP.map aj.int).filter λ_=>true).map f) st:=by
     refine jq trivial (λτ=>∃x,τ=[x,some (.int n)]) (λ_=>true) f (FP.map aj.int) _ [] ⟨none,rfl⟩ ?_;rintro u hu τ ⟨x,rfl⟩;obtain⟨i,hi,rfl⟩:=VR.mp hu;have hi0:¬ i=0:=by intro z;subst z;revert hi;decide
     refine⟨_,rfl,⟨_,rfl⟩,rfl,λ_=>?_⟩;simp only[aq,aD,aM,aE,bN,sZ,aO,aK,Vp,fY hi0,f]
    have hb:o_ (((FP.map aj.int).filter λ_=>true).map f)=some (FP.map λi => !(n.fmod i==0)):=by rw[List.filter_eq_self.mpr (λ_ _=>rfl)];exact L' FP λi => !(n.fmod i==0)
    refine⟨[.lst (((FP.map aj.int).filter λ_=>true).map f)],?_⟩;have ha:B_ [.loc st.length] (st++[.lst (((FP.map aj.int).filter λ_=>true).map f)])=.ok (.bl (dM n)) (st++[.lst (((FP.map aj.int).filter λ_=>true).map f)]):=by unfold B_;dsimp only;rw[cJ];dsimp only;rw[hb];simp only[dM,h1,e3,e5,Yb,Bool.true_and,List.all_map];rfl
    have hw:AG PM.gX st=.ok (FP.map aj.int,λ_=>True) st:=rfl;have hz:(FP.map aj.int).length=11:=rfl;rw[Vx]at hc;simp only[PM.cI,bC,aq,aF,aS,bg,aD,aM,aE,jd,aC,aw,bJ,d8,ie,fX,bN,bo,bh,jr,aG,av,aA,aP,cQ,ba,b9,d6,ej,js,gq,aO,Vq,VQ,VI,Vx,VC,Nat.reduceSub,Vl,VB,Nat.reduceAdd,Vt,Nat.reduceLeDiff,↓reduceIte,GA,e2,e4,hw,hc,ha,hz]
end PG
namespace Fw
def Ma(u0 u1 g0 g1 M:Int):Prop:=∃e x0 x1:Int,(e=1\/e = -1)/\0<=x0/\0<=x1/\u0=e*x0/\u1 = -(e*x1)/\x1*g0+x0*g1=M/\x0<=M+1/\x1<=M+1
theorem vB{x g:Int}(hx:0<=x)(hg:1<=g):x<=x*g:=by have:=WA hg hx;simpa using this
theorem Ma.step{u0 u1 M q:Int}(h:Ma u0 u1 g0 g1 M)(hq:0<=q)(h1:1<=g1)(h2:0<=g0-q*g1):Ma u1 (u0-q*u1) g1 (g0-q*g1) M:=by
 obtain⟨e,x0,x1,he,p0,p1,r0,r1,hM,b0,b1⟩:=h;have p2:0<=x0+q*x1:=by have:=Y7 hq p1;lia
 have eq:(x0+q*x1)*g1+x1*(g0-q*g1)=M:=by rw[<-hM];grind
 refine⟨-e,x1,x0+q*x1,?_,p1,p2,?_,?_,eq,b1,?_⟩
 .rcases he with rfl|rfl<;>simp
 .rw[r1];grind
 .rw[r0,r1];grind
 .have k1:=vB p2 h1;have k2:=Y7 p1 h2;lia
theorem Ma.bound{u0 u1 M:Int}(h:Ma u0 u1 g0 g1 M):u0.natAbs<=(M+1).natAbs/\u1.natAbs<=(M+1).natAbs:=by obtain⟨e,x0,x1,he,p0,p1,r0,r1,hM,b0,b1⟩:=h;rcases he with rfl|rfl<;>(subst r0 r1;constructor<;>lia)
theorem Ma.Iv{u0 u1 M q:Int}(h:Ma u0 u1 g0 g1 M)(hq:0<=q)(h1:1<=g1)(h2:0<=g0-q*g1):q<=g0:=by have:=vB hq h1;lia
structure a9(a b:Int)(g0 u0 v0 g1 u1 v1:Int):Prop where
 n0:0<=g0
 n1:0<=g1
 c0:u0*a+v0*b=g0
 c1:u1*a+v1*b=g1
 cu:Ma u0 u1 g0 g1 (b.natAbs:Int)
 cv:Ma v0 v1 g0 g1 (a.natAbs:Int)
 m0:g0<=(a.natAbs:Int)+(b.natAbs:Int)
 m1:g1<=(a.natAbs:Int)+(b.natAbs:Int)
 da:∃p q:Int,a=p*g0+q*g1
 db:∃p q:Int,b=p*g0+q*g1
def sgn(n:Int):Int:=if n<0 then -1 else 1
def vC(n:Int):Int:=if n<0 then -n else n
theorem oA(n:Int):vC n=(n.natAbs:Int):=by unfold vC;split<;>lia
theorem sgn_mul(n:Int):sgn n*n=vC n:=by unfold sgn vC;split<;>lia
theorem DT(n:Int):n=sgn n*vC n:=by unfold sgn vC;split<;>lia
theorem Iw(n:Int):sgn n=1\/sgn n = -1:=by unfold sgn;split<;>simp
theorem a9.start(a b:Int):a9 a b (vC a) (sgn a) 0 (vC b) 0 (sgn b):=by
 refine⟨by rw[oA];lia,by rw[oA];lia,by rw[sgn_mul];lia,by rw[sgn_mul];lia,?_,?_,by rw[oA];lia,by rw[oA];lia,⟨sgn a,0,?_⟩,⟨0,sgn b,?_⟩⟩
 .refine⟨sgn a,1,0,Iw a,by decide,by decide,by simp,by simp,by rw[oA b];lia,by lia,by lia⟩
 .refine⟨-(sgn b),0,1,?_,by decide,by decide,by simp,by simp,by rw[oA a];lia,by lia,by lia⟩;rcases Iw b with h|h<;>simp[h]
 .have:=DT a;lia
 .have:=DT b;lia
theorem a9.turn{a b u0 v0 u1 v1:Int}(h:a9 a b g0 u0 v0 g1 u1 v1)(h1:g1≠0):a9 a b g1 u1 v1 (g0-g0.fdiv g1*g1) (u0-g0.fdiv g1*u1) (v0-g0.fdiv g1*v1)/\(g0-g0.fdiv g1*g1).toNat<g1.toNat/\0<=g0.fdiv g1/\g0.fdiv g1<=g0:=by
 have p1:1<=g1:=by have:=h.n1;lia
 have ef:g0.fdiv g1=g0 / g1:=Y9 g0 (by lia);have em:g0-g0.fdiv g1*g1=g0 % g1:=by have:=Wc g0 g1;rw[ef,WV];lia
 have q0:0<=g0.fdiv g1:=by rw[ef];exact Y1 h.n0 (by lia)
 have r0:0<=g0-g0.fdiv g1*g1:=by rw[em];exact Xk _ h1
 have r1:g0-g0.fdiv g1*g1<g1:=by rw[em];exact W8 _ (by lia)
 generalize hq:g0.fdiv g1=q at *;have m1:=h.m1;obtain⟨p,r,ea⟩:=h.da;obtain⟨p',r',eb⟩:=h.db;refine⟨⟨h.n1,r0,h.c1,?_,h.cu.step q0 p1 r0,h.cv.step q0 p1 r0,h.m1,by lia,⟨p*q+r,p,?_⟩,⟨p'*q+r',p',?_⟩⟩,by lia,q0,h.cu.Iv q0 p1 r0⟩
 .have e0:=h.c0;have e1:=h.c1
  grind
 .grind
 .grind
end Fw
namespace PG
open PySem.Spec L2 MN
open PyProof.Rows hiding St kindOf
def s?(n:Int):Bool:=n==0 || dM n
theorem tj(n:Int)(st:af):∃g,PM.kQ [.int n] st=.ok (.bl (s? n)) (st++g):=by
 cases h:n==0 with
 |true=>exact⟨[],by simp only[PM.kQ,bC,aq,aF,bg,aD,aM,aE,uC,Qa,aC,aw,bJ,bN,vq,Nr,aG,av,aA,ba,ig,aO,Vq,VQ,VC,Nat.reduceSub,Vl,VB,Nat.reduceAdd,ql,h,s?,ZA,Wi]⟩
 |false=>
  obtain⟨g,e⟩:=oP n st;exact⟨g,by simp only[PM.kQ,bC,aq,aF,bg,aD,aM,aE,uC,Qb,aC,aw,bJ,bN,vq,Nr,aG,av,aA,ba,ig,aO,Vq,VQ,VI,Vx,VC,Nat.reduceSub,Vl,VB,Nat.reduceAdd,ql,h,s?,Yb,e]⟩
theorem xc{n:Int}(h:s? n=true)(st:af):∃g,PM.jo [.int n] st=.ok .dD (st++g):=by obtain⟨g,e⟩:=tj n st;rw[h]at e;exact⟨g,by simp only[PM.jo,bC,aq,aF,H!,Ic,aC,aw,d8,bo,bh,DP,aG,av,aA,cQ,b9,aO,Vq,VQ,VI,Vx,VC,Nat.reduceSub,Vl,VB,Nat.reduceAdd,XM,e]⟩
theorem xf(n:Int)(st:af):PM.gb [.int n] st=.ok (.int (Fw.sgn n)) st:=by
 unfold Fw.sgn;by_cases h:n<0
 .have e:decide (n<0)=true:=V7 h;simp only[PM.gb,bC,aq,aF,bg,aD,aM,aE,qd,bJ,bN,bo,bh,o?,fR,iU,ba,js,aO,Vq,VQ,VI,Vx,VC,Nat.reduceSub,Vl,VB,Nat.reduceAdd,e,Vs h]
 .have e:decide (n<0)=false:=V2 h;simp only[PM.gb,bC,aq,aF,bg,aD,aM,aE,qe,bJ,bN,bo,bh,o?,ba,js,aO,Vq,VQ,VI,Vx,VC,Nat.reduceSub,Vl,VB,Nat.reduceAdd,e,VE h]
def By(g u v:Int):aj:=.tup [.int g,.int u,.int v]
theorem bounds{a b u0 v0 u1 v1:Int}(h:Fw.a9 a b g0 u0 v0 g1 u1 v1)(ha:tO 400 a)(hb:tO 400 b):tO 402 g0/\tO 402 u0/\tO 402 v0/\tO 402 g1/\tO 402 u1/\tO 402 v1:=by
 have e:(2:Nat) ^ 402=4*2 ^ 400:=by decide +kernel
 have pos:0<(2:Nat) ^ 400:=by decide +kernel
 have a':a.natAbs<2 ^ 400:=ha;have b':b.natAbs<2 ^ 400:=hb;obtain⟨k1,k2⟩:=h.cu.bound;obtain⟨k3,k4⟩:=h.cv.bound;have m0:=h.m0;have m1:=h.m1;have n0:=h.n0;have n1:=h.n1;refine⟨?_,?_,?_,?_,?_,?_⟩<;>(show _<2 ^ 402;rw[e];lia)
def msr(μ:MN.Env):Nat:=match(μ[3]?:Option (Option aj)) with
 |some (some (aj.tup (aj.int g::_)))=>g.toNat
 |_=>0
def NJ(q:Int)(v:aj):aj:=match v with
 |.tup [.int x,.int y]=>.int (x-q*y)
 |_=>.dD
theorem yS{q x y:Int}:NJ q (.tup [.int x,.int y])=.int (x-q*y):=rfl
theorem T?{q u0 v0 u1 v1:Int}(hq:Sz q)(h1:Sz g1)(h2:Sz u1)(h3:Sz v1)(st:af)(g:af->Prop)(hg:g st)(x:Option aj)(y:Option aj):
  dX g (iN [aB 0,aB 1]) bI (ai gJ bq (ai bX dz bP)) (mM [.int g0,.int u0,.int v0] [.int g1,.int u1,.int v1]) [x, y, qI q] st []=.ok [.int (g0-q*g1),.int (u0-q*u1),.int (v0-q*v1)] st:=by
 have:=jq (a:=iN [aB 0,aB 1]) (c:=bI) (e:=ai gJ bq (ai bX dz bP)) hg (λτ=>∃x y,τ=[x, y, qI q]) (λ_=>true) (NJ q) (mM [.int g0,.int u0,.int v0] [.int g1,.int u1,.int v1]) [x, y, qI q] [] ⟨x,y,rfl⟩ ?_
 .exact this
 .rintro u hu τ ⟨x,y,rfl⟩;simp only[mM,V_,Yx,YK]at hu;rcases hu with rfl|rfl|rfl
  .exact⟨_,rfl,⟨_,_,rfl⟩,rfl,λ_=>by simp only[aq,aD,aM,aE,fi,aO,aK,Vp,Vr,Cp ⟨hq,h1⟩,yS]⟩
  .exact⟨_,rfl,⟨_,_,rfl⟩,rfl,λ_=>by simp only[aq,aD,aM,aE,fi,aO,aK,Vp,Vr,Cp ⟨hq,h2⟩,yS]⟩
  .exact⟨_,rfl,⟨_,_,rfl⟩,rfl,λ_=>by simp only[aq,aD,aM,aE,fi,aO,aK,Vp,Vr,Cp ⟨hq,h3⟩,yS]⟩
theorem tX{x:aj}{r:List aj}:L2.mX (x::r) 0=some x:=by unfold L2.mX Aj;simp
theorem Fx{a b:Int}(ha:tO 400 a)(hb:tO 400 b)(st:af):∃gs g u v u1 v1,PM.shared [.int a,.int b] st=.ok (By g u v) (st++gs)/\Fw.a9 a b g u v 0 u1 v1:=by
 obtain⟨μ',aH,e,gs,rfl,g0,u0,v0,g1,u1,v1,o,f,rfl,J,z⟩:=fK (t:=f9 (ai yJ (ai bS cT dE) dE))
  (body:=ax (aJ 4 (ai p? (ai bS dz dE) (ai bS cT dE))) (ax (aJ 5 (ao B9 (aa (dI 2 [4] (vk false false (aa dz (aa cT ag))) (iN [(aB 0),(aB 1)]) bI (ai gJ bq (ai bX dz bP))) ag))) (ax (aJ 2 cT) (aJ 3 iP))))
  (λμ s=>∃gs,s=st++gs/\∃g0 u0 v0 g1 u1 v1 o f,μ=[qI a, qI b, some (By g0 u0 v0), some (By g1 u1 v1), o, f]/\Fw.a9 a b g0 u0 v0 g1 u1 v1)
  (λμ _=>msr μ)
  (λμ s=>∃gs,s=st++gs/\∃g0 u0 v0 g1 u1 v1 o f,μ=[qI a, qI b, some (By g0 u0 v0), some (By g1 u1 v1), o, f]/\Fw.a9 a b g0 u0 v0 g1 u1 v1/\g1=0)
  (by
   rintro μ s ⟨gs,rfl,g0,u0,v0,g1,u1,v1,o,f,rfl,J⟩;cases hz:g1==0 with
   |true=>
    have z:g1=0:=by simpa using hz
    refine .inl ⟨st++gs,?_,gs,rfl,g0,u0,v0,g1,u1,v1,o,f,rfl,J,z⟩;simp only[By,aq,aD,aM,aE,bN,bo,bh,sZ,gf,aK,XM,bD tX,hz]
   |false=>
    have z:¬ g1=0:=by simpa using hz
    obtain⟨b1,b2,b3,b4,b5,b6⟩:=bounds J ha hb;obtain⟨J',lt,q0,q1⟩:=J.turn z;have n0:=J.n0;have hD:Dz g1:=Dz.of z b4 (by decide);have sq:Sz (g0.fdiv g1):=Sz.of (b1.le (by lia)) (by decide);have s4:Sz g1:=Sz.of b4 (by decide);have s5:Sz u1:=Sz.of b5 (by decide);have s6:Sz v1:=Sz.of b6 (by decide);refine .inr ⟨st++gs,[qI a, qI b, some (By g1 u1 v1), some (By (g0-g0.fdiv g1*g1) (u0-g0.fdiv g1*u1) (v0-g0.fdiv g1*v1)), qI (g0.fdiv g1), some (By (g0-g0.fdiv g1*g1) (u0-g0.fdiv g1*u1) (v0-g0.fdiv g1*v1))],st++gs++[.lst [.int (g0-g0.fdiv g1*g1),.int (u0-g0.fdiv g1*u1),.int (v0-g0.fdiv g1*v1)]],?_,.inl ?_,⟨gs++[.lst [.int (g0-g0.fdiv g1*g1),.int (u0-g0.fdiv g1*u1),.int (v0-g0.fdiv g1*v1)]],by rw[V6],g1,u1,v1,_,_,_,_,_,rfl,J'⟩,?_⟩
    .simp only[By,aq,aD,aM,aE,bN,bo,bh,sZ,gf,aK,Bool.not_false,bD tX,hz]
    .have hzl:(mM [aj.int g0,aj.int u0,aj.int v0] [aj.int g1,aj.int u1,aj.int v1]).length=3:=rfl;have gH:iS 2 [4] [some (aj.int a), some (aj.int b), some (.tup [.int g0,.int u0,.int v0]), some (.tup [.int g1,.int u1,.int v1]), qI (g0.fdiv g1), f]=[qn, qn, qI (g0.fdiv g1)]:=rfl;simp only[By,aq,aF,aS,aD,aM,aE,aC,aw,bK,ie,fX,bN,aG,av,aA,aP,bf,d6,Cn,L7,gf,aK,Vp,Vr,Vt,Nat.reduceLeDiff,↓reduceIte,bD tX,div_ii hD,gH,T? sq s4 s5 s6 _ (λ_=>True/\True) ⟨trivial,trivial⟩,hzl,L8 (cJ _ _)]
    .show(g0-g0.fdiv g1*g1).toNat<g1.toNat;exact lt)
  [qI a, qI b, some (By (Fw.vC a) (Fw.sgn a) 0), some (By (Fw.vC b) 0 (Fw.sgn b)), qn, qn] st
  ⟨[],by rw[Wi],_,_,_,_,_,_,_,_,rfl,Fw.a9.start a b⟩
 subst z;refine⟨gs,g0,u0,v0,u1,v1,?_,J⟩;have aa4:∀n:Int,(if n<0 then -n else n)=Fw.vC n:=λn=>rfl;simp only[By]at e;simp only[PM.shared,By,bC,aq,aF,aS,bg,aC,aw,jT,bJ,bK,bN,aG,av,gY,aA,aP,ba,bf,AH,aO,gf,aK,Vq,VQ,VI,Vx,VN,VC,Vp,Vr,Nat.reduceSub,Vl,VB,Nat.reduceAdd,Vt,Nat.reduceLeDiff,↓reduceIte,xf,aa4,e]
theorem Fy:∀k:Fin 998,dM (k.val:Int)=true->2<=k.val/\∀d:Fin 32,2<=d.val->d.val<k.val->k.val % d.val≠0:=by decide +kernel
theorem au(h:dM p=true):2<=p/\p<=997:=by
 unfold dM at h;rw[Y2]at h;rcases h with h|h
 .have:p∈FP:=by simpa using h
  simp only[FP,V_,Yx,YK]at this;omega
 .simp only[Xe,XU]at h;omega
theorem FA(h:dM p=true){d:Int}(h2:2<=d)(hd:d<p):¬ p % d=0:=by
 obtain⟨r1,r2⟩:=au h;have key:=(Fy ⟨p.toNat,by lia⟩ (by show dM ((p.toNat:Nat):Int)=true;rw[Wk (by lia)];exact h)).2;have small:∀e:Int,2<=e->e<=31->e<p->¬ p % e=0:=by
  intro e e2 e3 e4 z;have:=key ⟨e.toNat,by lia⟩ (by show 2<=e.toNat;lia) (by show e.toNat<p.toNat;lia);apply this;show p.toNat % e.toNat=0;have:((p.toNat % e.toNat:Nat):Int)=0:=by rw[Int.natCast_emod,Wk (by lia),Wk (by lia)];exact z
  lia
 intro z;by_cases hs:d<=31
 .exact small d h2 hs hd z
 .obtain⟨m,hm⟩:=XO z;have m2:2<=m:=by
   rcases X! m 2 with q|q
   .have:d*m<=d*1:=WA (by lia) (by lia);lia
   .exact q
  have m3:m<=31:=by
   rcases X! 31 m with q|q
   .have:32*32<=d*m:=Int.mul_le_mul (by lia) (by lia) (by lia) (by lia);lia
   .exact q
  have m4:m<p:=by have:2*m<=d*m:=Xd h2 (by lia);lia
  exact small m m2 m3 m4 (by rw[hm];exact ZX _ _)
theorem dJ(hp:0<p)(i:Int):i.fmod p=i % p:=Y8 i (by lia)
theorem xX{i:Int}(h0:0<=i)(h1:i<1000):tO 400 i:=tO.small (by decide) (by lia) h1
theorem Iy(h:dM p=true):s? p=true:=by unfold s?;rw[h,Bool.or_true]
theorem Bz{x:aj}{r:List aj}:L2.mX (x::y::r) 1=some y:=L2.i? (xs:=x::y::r) (j:=1) rfl
theorem fN{n:Int}(h:dM p=true)(hn:¬ n % p=0)(st:af):∃g t,PM.inverse [.int p,.int n] st=.ok (.int t) (st++g)/\0<t/\t<p/\(t*n) % p=1:=by
 obtain⟨r1,r2⟩:=au h;obtain⟨g1,e⟩:=xc (Iy h) st;have hp:¬ p=0:=by lia
 have e0:(p==0)=false:=by simpa using hp
 have e1:(n.fmod p==0)=false:=by rw[dJ (by lia)];simpa using hn
 have a0:=Xk n hp;have a1:=W8 n (show 0<p by lia);obtain⟨g2,g,u,v,u1,v1,es,J⟩:=Fx (a:=n % p) (b:=p) (xX a0 (by lia)) (xX (by lia) (by lia)) (st++g1);have hg:g=1:=by
  obtain⟨x,_,ex⟩:=J.da;obtain⟨y,_,ey⟩:=J.db;rw[Wj,W2]at ex ey;have n0:=J.n0;rcases X! g 2 with q|q
  .rcases X! g 1 with q'|q'
   .have:g=0:=by lia
    rw[this,Wj]at ey;lia
   .lia
  .have gl:g<=n % p:=by
    have xp:1<=x:=by
     rcases X! x 1 with z|z
     .have:x*g<=0*g:=Xd (by lia) (by lia);lia
     .exact z
    have:1*g<=x*g:=Xd xp (by lia);lia
   exact absurd (by rw[ey];exact ZX _ _) (FA h q (by lia))
 subst hg;have t0:=Xk u hp;have t1:=W8 u (show 0<p by lia);have tn:(u % p*n) % p=1:=by
  have c:=J.c0;have k1:(u*(n % p)) % p=1:=by
   have:u*(n % p)=1+p*(-v):=by rw[X6,WV p v];lia
   rw[this,Y_];exact V? (by lia) (by lia)
  rw[X_,Yp u (Zy p)];rw[X_,Yp n (Zy p)]at k1;exact k1
 refine⟨g1++g2,u % p,?_,?_,t1,tn⟩
 .simp only[By]at es;rw[<-dJ (show 0<p by lia)]at es;simp only[PM.inverse,bC,aq,aF,aS,bg,aD,aM,aE,aC,aw,gK,bJ,d8,bN,bo,bh,aG,av,aA,aP,cQ,fM,ba,b9,ig,aO,aK,Vq,VQ,VI,Vx,VC,Nat.reduceSub,Vl,VB,Nat.reduceAdd,e,e0,fY hp,e1,es,bD Bz,V6];rw[dJ (by lia)]
 .rcases X! 0 (u % p)with q|q
  .exact q
  .have:u % p=0:=by lia
   rw[this,Wx]at tn;simp at tn
theorem Mb{k:Int}(h0:0<=k)(h1:k<(ns.length:Int)):∃c:Int,L2.mX (ns.map aj.int) k=some (.int c):=by
 have hk:k.toNat<ns.length:=by lia
 refine⟨ns[k.toNat],?_⟩;have e:=L2.i? (xs:=ns.map aj.int) (j:=k.toNat) (v:=.int ns[k.toNat]) (by rw[Vu,Vo hk];rfl);rw[show((k.toNat:Nat):Int)=k by lia]at e;exact e
theorem qm{m:Int}(hm:0<m)(i:Int):0<=i.fmod m/\i.fmod m<m:=by rw[dJ hm];exact⟨Xk _ (by lia),W8 _ hm⟩
theorem Ua(h:0<j)(h1:j<2 ^ 64):Dz j:=by refine Dz.of (k:=64) (by lia) ?_ (by decide);show j.natAbs<2 ^ 64;lia
def dvP(n:Int)(u:aj):Bool:=match u with
 |.int b=>decide (b<n)&&(n.fmod b==0)
 |_=>false
def KO(n:Int):List aj:=(cN 2 30).filter (dvP n)
theorem qo{n:Nat}{k:Int}{st:af}(h:ar st n=some (ns.map aj.int))(k0:0<=k)(k1:k<=1000000):
  ∃o,PM.bO [.loc n,.int k] st=.ok (.int o) st:=by
 have len:((List.map aj.int ns).length:Int)=(ns.length:Int):=by rw[Vj]
 have cp:GP 10 9:=by decide
 have tn:(10:Int) ^ Int.toNat 9=1000000000:=by decide
 have fin:∀c:Int,((decide (k<((List.map aj.int ns).length:Int))=false/\c=0)\/(decide (k<((List.map aj.int ns).length:Int))=true/\L2.mX (ns.map aj.int) k=some (.int c)))->∃o,PM.bO [.loc n,.int k] st=.ok (.int o) st:=by
  intro c hc;by_cases hb:(1000000000:Int)<(if c<0 then -c else c)
  .have e1:decide ((1000000000:Int)<(if c<0 then -c else c))=true:=V7 hb;refine⟨c,?_⟩;rcases hc with⟨h1,rfl⟩|⟨h1,h2⟩
   .simp only[PM.bO,bC,aq,aF,aS,nh,bg,aD,aM,aE,aC,aw,bJ,iV,d8,bK,bN,bo,bh,aG,av,aA,aP,cQ,ba,b9,bf,js,gq,AH,aO,aU,aK,Vq,VQ,VI,Vx,VN,VC,Vp,Vr,Nat.reduceSub,Vl,VB,Nat.reduceAdd,aQ h,h1,yQ cp,tn,e1]
   .simp only[PM.bO,bC,aq,aF,aS,nh,bg,aD,aM,aE,aC,aw,bJ,iV,bK,bN,bo,bh,aG,av,aA,aP,ba,b9,bf,js,gq,AH,aO,aU,aK,Vq,VQ,VI,Vx,VN,VC,Vp,Vr,Nat.reduceSub,Vl,VB,Nat.reduceAdd,aQ h,h1,cO h h2,yQ cp,tn,e1]
  .have e1:decide ((1000000000:Int)<(if c<0 then -c else c))=false:=V2 hb;have q1:=qm (m:=2147483647) (by decide) (c*48271+7919*k*k+104729*k+11);generalize hx:(c*48271+7919*k*k+104729*k+11).fmod 2147483647=x at q1;have q2:=qm (m:=2147483629) (by decide) (x*x);have q3:=qm (m:=2147483647) (by decide) ((x*x).fmod 2147483629*69621);generalize hy:((x*x).fmod 2147483629*69621).fmod 2147483647=y at q3;refine⟨(y*y).fmod 2147483587*2147483647+y,?_⟩;have m1:∀s,bX (.int x) (.int x) s=.ok (.int (x*x)) s:=λs=>jV (by lia) (by lia);have m2:∀s,bX (.int y) (.int y) s=.ok (.int (y*y)) s:=λs=>jV (by lia) (by lia);rcases hc with⟨h1,rfl⟩|⟨h1,h2⟩
   .simp only[PM.bO,bC,aq,aF,aS,bg,aD,aM,aE,aC,aw,bJ,d8,bK,bN,bo,bh,aG,av,aA,aP,cQ,ba,b9,bf,gZ,js,gq,AH,aO,aU,aK,Vq,VQ,VI,Vx,VN,VC,Vp,Vr,Nat.reduceSub,Vl,VB,Nat.reduceAdd,aQ h,h1,yQ cp,tn,e1,mul_r (j:=48271) (by decide) (by decide),jV (i:=7919) (by decide) (by decide),mul_r (j:=k) (by lia) (by lia),fY (j:=2147483647) (by decide),hx,m1,fY (j:=2147483629) (by decide),mul_r (j:=69621) (by decide) (by decide),hy,m2,fY (j:=2147483587) (by decide),mul_r (j:=2147483647) (by decide) (by decide)]
   .simp only[PM.bO,bC,aq,aF,aS,bg,aD,aM,aE,aC,aw,bJ,iV,d8,bK,bN,bo,bh,aG,av,aA,aP,cQ,ba,b9,bf,gZ,js,gq,AH,aO,aU,aK,Vq,VQ,VI,Vx,VN,VC,Vp,Vr,Nat.reduceSub,Vl,VB,Nat.reduceAdd,aQ h,h1,cO h h2,yQ cp,tn,e1,mul_r (j:=48271) (by decide) (by decide),jV (i:=7919) (by decide) (by decide),mul_r (j:=k) (by lia) (by lia),fY (j:=2147483647) (by decide),hx,m1,fY (j:=2147483629) (by decide),mul_r (j:=69621) (by decide) (by decide),hy,m2,fY (j:=2147483587) (by decide),mul_r (j:=2147483647) (by decide) (by decide)]
 by_cases hk:k<(ns.length:Int)
 .obtain⟨c,hc⟩:=Mb k0 hk;exact fin c (.inr ⟨V7 (by rw[len];exact hk),hc⟩)
 .exact fin 0 (.inl ⟨V2 (by rw[len];exact hk),rfl⟩)
def Ub(μ:MN.Env):Nat:=match(μ[1]?:Option (Option aj)) with
 |some (some (aj.int n))=>n.toNat
 |_=>0
theorem gL{g:af->Prop}{a:AS}{e:ME}{st:af}(hg:g st)(I:MN.Env->Prop)(f:Int->aj):∀(ns:_d)(τ:MN.Env)(ys:List aj),I τ ->
  (∀i∈ns,∀τ,I τ->∃τ1,a (.int i) τ=some τ1/\I τ1/\e τ1 st=.ok (f i) st)->dX g a bI e (ns.map aj.int) τ st ys=.ok (ys++ns.map f) st
 |[],τ,ys,_,_=>by rw[VQ];unfold dX;rw[Vs hg];simp
 |n::ns,τ,ys,hI,hs=>by obtain⟨τ1,h1,h2,h3⟩:=hs n Vz τ hI;have ih:=gL hg I f ns τ1 (ys++[f n]) h2 λi hi=>hs i (VH n hi);rw[Vq];unfold dX;rw[Vs hg,h1];dsimp only[bI];rw[h3];dsimp only;rw[ih];simp
def dY(lo:Int)(n:Nat):_d:=(List.range n).map λ(i:Nat)=>lo+(i:Int)
theorem nC(lo:Int)(n:Nat):cN lo n=(dY lo n).map aj.int:=by unfold cN dY;rw[V5];rfl
theorem AM{i:Int}{n:Nat}(h:i∈dY lo n):lo<=i/\i<lo+n:=by obtain⟨j,hj,rfl⟩:=VR.mp h;have:=Xt.mp hj;lia
theorem az(ns:_d):(ns.map aj.int).length=ns.length:=Vj ..
theorem at_getD{i:Int}(h0:0<=i)(h1:i<(ns.length:Int)):L2.mX (ns.map aj.int) i=some (.int (ns.getD i.toNat 0)):=by
 have hk:i.toNat<ns.length:=by lia
 have e:=L2.i? (xs:=ns.map aj.int) (j:=i.toNat) (v:=.int ns[i.toNat]) (by rw[Vu,Vo hk];rfl);rw[show((i.toNat:Nat):Int)=i by lia]at e;rw[e,VD,Vo hk];rfl
theorem iu(hp:dM p=true):¬ p=0:=by have:=au hp;lia
theorem nE(hp:dM p=true)(st:af):∃g,PM.gO [.int p] st=.ok .dD (st++g):=by
 obtain⟨g,e⟩:=tj p st;have hr:s? p=true:=by unfold s?;rw[hp,Bool.or_true]
 rw[hr]at e;have hz:(p==0)=false:=by simpa using iu hp
 exact⟨g,by simp only[PM.gO,bC,aq,aF,H!,aD,aM,aE,jd,Ic,aC,aw,d8,bN,bo,bh,jr,DP,aG,av,aA,cQ,b9,ig,aO,Vq,VQ,VI,Vx,VC,Nat.reduceSub,Vl,VB,Nat.reduceAdd,XM,e,hz]⟩
def bT(ns:_d):_d:=(ns.reverse.dropWhile (· == 0)).reverse
theorem jv(ns:_d):bT (ns++[0])=bT ns:=by simp[bT]
theorem gP{n:Int}(h:(n==0)=false)(ns:_d):bT (ns++[n])=ns++[n]:=by simp[bT,List.dropWhile_cons,h]
def Cut(ns:_d):Prop:=bT ns=ns
theorem jx(ns:_d):ns=[]\/∃ms x,ns=ms++[x]:=by
 rcases XA ns with h|⟨ms,x,h⟩
 .exact .inl h
 .exact .inr ⟨ms,x,by rw[h,XC]⟩
theorem uF:∀(k:Nat)(ns:_d),ns.length=k->(bT ns).length<=k/\Cut (bT ns)/\(∀P:Int->Prop,(∀n∈ns,P n)->∀n∈bT ns,P n)
 |0,ns,h=>by have:ns=[]:=Wr h;subst this;exact⟨Vv _,rfl,λP hP=>hP⟩
 |k+1,ns,h=>by
  rcases jx ns with rfl|⟨ms,x,rfl⟩
  .exact⟨We _,rfl,λP hP=>hP⟩
  .have hm:ms.length=k:=by rw[Vm,VO]at h;lia
   cases hx:x==0 with
   |true=>
    have:x=0:=by simpa using hx
    subst this;rw[jv];obtain⟨h1,h2,h3⟩:=uF k ms hm;exact⟨by lia,h2,λP hP=>h3 P λn hn=>hP n (Wd _ hn)⟩
   |false=>
    rw[gP hx];exact⟨by lia,by unfold Cut;rw[gP hx],λP hP=>hP⟩
theorem gF(ns:_d):(bT ns).length<=ns.length:=(uF _ ns rfl).1
theorem uG(ns:_d):Cut (bT ns):=(uF _ ns rfl).2.1
theorem yT{P:Int->Prop}(h:∀n∈ns,P n):∀n∈bT ns,P n:=(uF _ ns rfl).2.2 P h
def fT(L:Nat)(s:af):Nat:=((ar s L).getD []).length
abbrev rrT:MT:=xM (f9 (ai vf (ao bc (aa dz ag)) dE)) (f9 (ai oZ (ai bS dz (ja cH)) dE))
abbrev rrB:MB:=fg (Cj yO dz)
theorem Mc(x y:Option aj)(st:af)(ns:_d):∃μ' aH,cm rrT rrB [x, y, qL st.length] (st++[.lst (ns.map aj.int)])=.nx μ' aH/\μ'=[x, y, qL st.length]/\aH=st++[.lst ((bT ns).map aj.int)]:=by
 obtain⟨μ',aH,e,rfl,ms,rfl,hm⟩:=fK (t:=rrT) (body:=rrB)
  (λμ s=>μ=[x, y, qL st.length]/\∃ms:_d,s=st++[.lst (ms.map aj.int)]/\bT ms=bT ns) (λ_ s=>fT st.length s)
  (λμ s=>μ=[x, y, qL st.length]/\∃ms:_d,s=st++[.lst (ms.map aj.int)]/\ms=bT ns)
  (by
   rintro μ s ⟨rfl,ms,rfl,hm⟩;rcases jx ms with rfl|⟨ks,k,rfl⟩
   .have h0:decide ((0:Int)<(([]:List aj).length:Int))=false:=rfl;refine .inl ⟨_,?_,rfl,[],rfl,hm⟩;simp only[aq,aD,aM,aE,aC,aw,bN,bo,bh,uD,aG,av,aA,gq,aU,aK,VQ,VB,aQ (cJ st []),h0];rfl
   .have em:(ks++[k]).map aj.int=ks.map aj.int++[.int k]:=by simp
    rw[em];have h0:decide ((0:Int)<((ks.map aj.int++[aj.int k]).length:Int))=true:=V7 (by rw[Vm,VO];lia);have hix:=cO (cJ st (ks.map aj.int++[.int k])) (L2.G0 (ks.map aj.int) (.int k));have xY:rrT [x, y, qL st.length] (st++[.lst (ks.map aj.int++[.int k])])=.ok (k==0) (st++[.lst (ks.map aj.int++[.int k])]):=by simp only[aq,aD,aM,aE,AF,aC,aw,bN,bo,bh,uD,aG,av,aA,fR,iU,gq,ig,aU,aK,aQ (cJ st (ks.map aj.int++[.int k])),h0,hix]
    cases hk:k==0 with
    |false=>
     rw[hk]at xY;rw[gP hk]at hm;exact .inl ⟨_,xY,rfl,ks++[k],by rw[em],hm⟩
    |true=>
     rw[hk]at xY;have hk0:k=0:=by simpa using hk
     subst hk0;rw[jv]at hm;refine .inr ⟨_,_,st++[.lst (ks.map aj.int)],xY,.inl ?_,⟨rfl,ks,rfl,hm⟩,?_⟩
     .simp only[aq,aF,gK,fM,aU,aK,Ii,Ny (bx st _),Ij (bx st _),vA]
     .unfold fT;rw[cJ,cJ];show(ks.map aj.int).length<(ks.map aj.int++[aj.int 0]).length;rw[Vm,VO];lia)
  [x, y, qL st.length] (st++[.lst (ns.map aj.int)]) ⟨rfl,ns,rfl,rfl⟩
 exact⟨_,_,e,rfl,by rw[hm]⟩
theorem dH(hp:¬ p=0){n:Nat}{st:af}(h:ar st n=some (ns.map aj.int))(hl:ns.length<=sizeLine):
  PM.cz [.int p,.loc n] st=.ok (.loc st.length) (st++[.lst ((bT (ns.map (·.fmod p))).map aj.int)]):=by
 have hc:=gL (g:=λaH=>ar aH n=some (ns.map aj.int)) (a:=aB 0) (e:=ai f_ bq bP) (st:=st) h (λτ=>∃z,τ=[z,some (.int p)]) (λi=>.int (i.fmod p)) ns [none,some (.int p)] [] ⟨_,rfl⟩ (by
  rintro i _ τ ⟨z,rfl⟩;exact⟨_,rfl,⟨_,rfl⟩,by simp only[aq,aD,aM,aE,aO,aK,Vp,fY hp]⟩)
 rw[Vx,show(ns.map λi=>aj.int (i.fmod p))=(ns.map (·.fmod p)).map aj.int from by rw[V5];rfl]at hc;have gH:iS 1 [0] [some (aj.int p),some (aj.loc n),none]=[none,some (.int p)]:=rfl;have hz:(ns.map aj.int).length<=sizeLine:=by rw[az];exact hl
 rw[Vt]at hz;obtain⟨μ',aH,e,rfl,rfl⟩:=Mc (some (.int p)) (some (.loc n)) st (ns.map (·.fmod p));simp only[PM.cz,bC,aq,aF,aS,bg,bJ,bK,ie,fX,aP,ba,bf,d6,ej,aU,aK,Vq,VQ,VI,Vx,VN,VC,Vp,Vr,Nat.reduceSub,Vl,VB,Nat.reduceAdd,Vt,cY h,gH,hc,Vs hz,e]
theorem qp{n j:Nat}(h:j<n):L2.Aj n (j:Int)=some j:=by unfold L2.Aj;rw[Vs (by lia),Vs (by lia)];simp
def Cg(p a b:Int):Prop:=∃k,a=b+p*k
theorem Cg.refl(p a:Int):Cg p a a:=⟨0,by rw[Wj,W2]⟩
theorem Cg.symm{a b:Int}(h:Cg p a b):Cg p b a:=by obtain⟨k,rfl⟩:=h;exact⟨-k,by rw[X6];lia⟩
theorem Cg.trans{a b c:Int}(h:Cg p a b)(h':Cg p b c):Cg p a c:=by obtain⟨k,rfl⟩:=h;obtain⟨l,rfl⟩:=h';exact⟨l+k,by rw[Xg];lia⟩
theorem Cg.add{a b c d:Int}(h:Cg p a b)(h':Cg p c d):Cg p (a+c) (b+d):=by obtain⟨k,rfl⟩:=h;obtain⟨l,rfl⟩:=h';exact⟨k+l,by rw[Xg];lia⟩
theorem Cg.AN{a b:Int}(h:Cg p a b)(c:Int):Cg p (a*c) (b*c):=by obtain⟨k,rfl⟩:=h;exact⟨k*c,by rw[Yq,Wl]⟩
theorem Cg.xg{a b:Int}(h:Cg p a b)(c:Int):Cg p (c*a) (c*b):=by rw[WV c a,WV c b];exact h.AN c
theorem Cg.neg{a b:Int}(h:Cg p a b):Cg p (-a) (-b):=by obtain⟨k,rfl⟩:=h;exact⟨-k,by rw[X6];lia⟩
theorem Cg.mod(hp:0<p)(a:Int):Cg p (a.fmod p) a:=by refine⟨-(a / p),?_⟩;rw[dJ hp,X6];have:=Wc a p;lia
theorem Cg.eq{a b:Int}(hp:0<p)(h:Cg p a b):a.fmod p=b.fmod p:=by obtain⟨k,rfl⟩:=h;rw[dJ hp,dJ hp,Y_]
theorem c_{a:Int}(h0:0<=a)(h1:a<p):a.fmod p=a:=by rw[dJ (by lia)];exact V? h0 h1
def Md(ns:_d)(lo hi:Option Int):_d:=(ns.drop (HT.gQ ns.length 0 lo)).take (HT.gQ ns.length ns.length hi-HT.gQ ns.length 0 lo)
theorem FC(ns:_d)(lo hi:Option Int):xb (ns.map aj.int) lo hi=(Md ns lo hi).map aj.int:=by unfold xb Md;rw[az,List.map_take,Zk]
theorem oB{α:Type}{g:af->Prop}{a:AS}{e:ME}{st:af}(hg:g st)(I:MN.Env->Prop)(enc f:α->aj):∀(xs:List α)(τ:MN.Env)(ys:List aj),I τ ->
  (∀x∈xs,∀τ,I τ->∃τ1,a (enc x) τ=some τ1/\I τ1/\e τ1 st=.ok (f x) st)->dX g a bI e (xs.map enc) τ st ys=.ok (ys++xs.map f) st
 |[],τ,ys,_,_=>by rw[VQ];unfold dX;rw[Vs hg];simp
 |n::ns,τ,ys,hI,hs=>by obtain⟨τ1,h1,h2,h3⟩:=hs n Vz τ hI;have ih:=oB hg I enc f ns τ1 (ys++[f n]) h2 λi hi=>hs i (VH n hi);rw[Vq];unfold dX;rw[Vs hg,h1];dsimp only[bI];rw[h3];dsimp only;rw[ih];simp
def pr(q:Int×Int):aj:=.tup [.int q.1,.int q.2]
theorem rL:∀(as bs:_d),mM (as.map aj.int) (bs.map aj.int)=(as.zip bs).map pr
 |[],_=>by simp[mM]
 |_::_,[]=>by simp[mM]
 |a::as,b::bs=>by simp only[Vq,mM,Zs,rL as bs];rfl
theorem AO(k:Nat):xO k [aj.int 0]=(List.replicate k (0:Int)).map aj.int:=by
 unfold xO
 induction k with
 |zero=>rfl
 |succ k ih=>rw[VN,VN,XE,ih];rfl
theorem rN(ns:_d)(k j:Nat):(ns++List.replicate k 0).getD j 0=ns.getD j 0:=by grind
theorem iW{n:Nat}{L:Int}{st:af}(h:ar st n=some (ns.map aj.int))(h0:(ns.length:Int)<=L)(h1:L<=1000000):
  ∃g k,PM.ee [.loc n,.int L] st=.ok (.loc k) (st++g)/\st.length<=k/\(st++g)[k]?=some (.lst ((ns++List.replicate (L-ns.length).toNat 0).map aj.int)):=by
 have c1:=kW h;have h2:=cK (cK h [.lst (ns.map aj.int)]) [.lst [.int 0]];have m1:=rH (st:=st++[.lst (ns.map aj.int)]++[.lst [.int 0]]) (n:=(st++[a!.lst (ns.map aj.int)]).length) (us:=[.int 0]) (k:=L-ns.length) (bx _ _) (by lia) (by lia) (by rw[Vt];simp;lia);rw[AO]at m1;have a1:=ju (st:=st++[a!.lst (ns.map aj.int)]++[a!.lst [.int 0]]++[a!.lst ((List.replicate (L-ns.length).toNat (0:Int)).map aj.int)]) (n:=st.length) (m:=(st++[a!.lst (ns.map aj.int)]++[a!.lst [.int 0]]).length)
  (us:=ns.map aj.int) (ws:=(List.replicate (L-ns.length).toNat (0:Int)).map aj.int) (cP (cP (bx st (ns.map aj.int)) _) _) (bx _ _) (by rw[az,az,V0,Vt];lia)
 rw[<-VS]at a1;refine⟨[.lst (ns.map aj.int)]++[.lst [.int 0]]++[.lst ((List.replicate (L-ns.length).toNat (0:Int)).map aj.int)]++[.lst ((ns++List.replicate (L-ns.length).toNat 0).map aj.int)],(st++[a!.lst (ns.map aj.int)]++[a!.lst [.int 0]]++[a!.lst ((List.replicate (L-ns.length).toNat (0:Int)).map aj.int)]).length,?_,by simp only[Vm];lia,?_⟩
 .simp only[PM.ee,bC,aq,aF,bg,aD,aM,aE,aC,aw,sY,bJ,bN,aG,av,nj,aA,ba,fi,aO,aU,aK,Vq,VQ,VI,Vx,VC,Nat.reduceSub,Vl,VB,Nat.reduceAdd,Vt,Nat.reduceLeDiff,↓reduceIte,c1,aQ h2,az,m1,a1];simp only[V6,VI,Vx]
 .simp only[<-V6];exact bx _ _
def je(as bs:_d)(f:Int):_d:=(dY 0 (max as.length bs.length)).map λk=>as.getD k.toNat 0+f*bs.getD k.toNat 0
theorem Qv(as bs:_d)(f:Int){l:Nat}(hk:as.length+k=max as.length bs.length)(hl:bs.length+l=max as.length bs.length):
  ((as++List.replicate k 0).zip (bs++List.replicate l 0)).map (λ(q:Int×Int)=>q.1+f*q.2)=je as bs f:=by
 refine X7 λj=>?_;unfold je dY;rw[V5,Vu,Vu];by_cases hj:j<max as.length bs.length
 .rw[Wh hj];have e1:(as++List.replicate k 0)[j]?=some ((as++List.replicate k 0).getD j 0):=by rw[VD,Vo (by rw[Vm,V0];lia)];rfl
  have e2:(bs++List.replicate l 0)[j]?=some ((bs++List.replicate l 0).getD j 0):=by rw[VD,Vo (by rw[Vm,V0];lia)];rfl
  have e3:((as++List.replicate k 0).zip (bs++List.replicate l 0))[j]?=some ((as++List.replicate k 0).getD j 0,(bs++List.replicate l 0).getD j 0):=by rw[List.getElem?_zip_eq_some];exact⟨e1,e2⟩
  rw[e3,rN,rN];show some (as.getD j 0+f*bs.getD j 0)=some (as.getD (0+(j:Int)).toNat 0+f*bs.getD (0+(j:Int)).toNat 0);rw[show(0+(j:Int)).toNat=j by lia]
 .rw[Wa (l:=List.range _) (by rw[VW];lia),Wa (by rw[Xh,Vm,Vm,V0,V0];lia)];rfl
theorem vD(as bs:_d)(f:Int):(je as bs f).length=max as.length bs.length:=by unfold je dY;rw[Vj,Vj,VW]
theorem nF{f:Int}(hp:¬ p=0){n:Nat}{st:af}(h1:ar st n=some (as.map aj.int))(h2:ar st m=some (bs.map aj.int))(tR:as.length<=100000)(uv:bs.length<=100000)(f0:-(2 ^ 64)<f)(f1:f<2 ^ 64):
  ∃g k,PM.bB [.int p,.loc n,.loc m,.int f] st=.ok (.loc k) (st++g)/\st.length<=k/\(st++g)[k]?=some (.lst ((bT ((je as bs f).map (·.fmod p))).map aj.int)):=by
 have mx:(if(bs.length:Int)>(as.length:Int) then(bs.length:Int) else(as.length:Int))=((max as.length bs.length:Nat):Int):=by split<;>lia
 obtain⟨g1,k1,e1,o1,q1⟩:=iW (L:=((max as.length bs.length:Nat):Int)) h1 (by lia) (by lia);obtain⟨g2,k2,e2,o2,q2⟩:=iW (L:=((max as.length bs.length:Nat):Int)) (cK h2 g1) (by lia) (by lia);have q1:=cP q1 g2;revert e2 q1 q2;generalize q9:st++g1++g2=s2;intro e2 q2 q1;have hk:as.length+(((max as.length bs.length:Nat):Int)-as.length).toNat=max as.length bs.length:=by lia
 have hl:bs.length+(((max as.length bs.length:Nat):Int)-bs.length).toNat=max as.length bs.length:=by lia
 have le:=Qv as bs f hk hl;have zz:=Ip (ay q1) (ay q2);rw[rL]at zz;generalize (as++List.replicate (((max as.length bs.length:Nat):Int)-as.length).toNat 0)=A at q1 q2 zz le;generalize (bs++List.replicate (((max as.length bs.length:Nat):Int)-bs.length).toNat 0)=B at q1 q2 zz le;have hc:=oB (g:=λb8=>ar b8 k1=some (A.map aj.int)/\ar b8 k2=some (B.map aj.int)) (a:=iN [aB 0,aB 1]) (e:=ai cS bq (ai bX dz bP)) (st:=s2) ⟨ay q1,ay q2⟩ (λτ=>∃x y,τ=[x, y, qI f]) pr (λ(q:Int×Int)=>.int (q.1+f*q.2)) (A.zip B) [qn, qn, qI f] [] ⟨_,_,rfl⟩ (by
  rintro⟨a,b⟩ _ τ ⟨x,y,rfl⟩;exact⟨_,rfl,⟨_,_,rfl⟩,by simp only[aq,aD,aM,aE,gZ,aO,aK,Vp,Vr,jV (i:=f) f0 f1]⟩)
 rw[Vx,show((A.zip B).map λ(q:Int×Int)=>aj.int (q.1+f*q.2))=((A.zip B).map λ(q:Int×Int)=>q.1+f*q.2).map aj.int from by rw[V5];rfl,le]at hc;have gH:∀x y z w:Option aj,iS 2 [3] [x, y, z, qI f, w, qL k1]=[qn, qn, qI f]:=λ_ _ _ _=>rfl;have hz:((A.zip B).map pr).length<=sizeLine:=by have e:=WR List.length le;rw[Vj,vD]at e;rw[Vj,e,Vt];lia
 rw[Vt]at hz;have rr:=dH hp (st:=s2++[.lst ((je as bs f).map aj.int)]) (cJ s2 _) (by rw[vD,Vt];lia);refine⟨g1++g2++[.lst ((je as bs f).map aj.int)]++[.lst ((bT ((je as bs f).map (·.fmod p))).map aj.int)],(s2++[a!.lst ((je as bs f).map aj.int)]).length,?_,by rw[<-q9];simp only[Vm];lia,?_⟩
 .rw[show st++(g1++g2++[a!.lst ((je as bs f).map aj.int)]++[.lst ((bT ((je as bs f).map (·.fmod p))).map aj.int)])=s2++[a!.lst ((je as bs f).map aj.int)]++[.lst ((bT ((je as bs f).map (·.fmod p))).map aj.int)]from by rw[<-q9];simp only[V6]];simp only[PM.bB,bC,aq,aF,aS,bg,aC,aw,bJ,bK,ie,fX,aG,av,aA,aP,ba,bf,d6,Cn,aO,aU,aK,Vq,VQ,VI,Vx,VN,VC,Vp,Vr,Nat.reduceSub,Vl,VB,Nat.reduceAdd,Vt,Iq,aQ h1,aQ h2,az,mx,e1,e2,zz,gH,hc,Vs hz,rr]
 .rw[show st++(g1++g2++[a!.lst ((je as bs f).map aj.int)]++[.lst ((bT ((je as bs f).map (·.fmod p))).map aj.int)])=s2++[a!.lst ((je as bs f).map aj.int)]++[.lst ((bT ((je as bs f).map (·.fmod p))).map aj.int)]from by rw[<-q9];simp only[V6]];exact bx _ _
def oQ(as bs:_d):Nat->Nat->Int
 |0,_=>0
 |i+1,k=>oQ as bs i k+(if i<=k then as.getD i 0*bs.getD (k-i) 0 else 0)
theorem nH(h:ns.length<=k):ns.getD k 0=0:=by grind
theorem AQ(as bs:_d)(k:Nat):∀i,i+bs.length<=k+1->oQ as bs i k=0
 |0,_=>rfl
 |i+1,h=>by show oQ as bs i k+(if i<=k then as.getD i 0*bs.getD (k-i) 0 else 0)=0;rw[AQ as bs k i (by lia),nH (ns:=bs) (by lia),Wj];split<;>rfl
theorem AR(bs:_d)(k:Nat):∀i,oQ [] bs i k=0
 |0=>rfl
 |i+1=>by show oQ [] bs i k+(if i<=k then([]:_d).getD i 0*bs.getD (k-i) 0 else 0)=0;rw[AR bs k i,nH (ns:=[]) (We _),Wx];split<;>rfl
def bR(as bs:_d):_d:=(dY 0 (as.length+bs.length-1)).map λk=>oQ as bs as.length k.toNat
theorem xZ(as bs:_d):(bR as bs).length=as.length+bs.length-1:=by unfold bR dY;rw[Vj,Vj,VW]
theorem DU{n:Nat}{f:Nat->Int}(hl:R.length=n)(h:∀k,k<n->R.getD k 0=f k):R=(dY 0 n).map λk=>f k.toNat:=by
 refine X7 λj=>?_;unfold dY;rw[V5,Vu];by_cases hj:j<n
 .rw[Wh hj,Vo (by lia)];have:=h j hj;rw[VD,Vo (by lia)]at this;show some _=some (f (0+(j:Int)).toNat);rw[show(0+(j:Int)).toNat=j by lia,<-this];rfl
 .rw[Wa (by lia),Wa (by rw[VW];lia)];rfl
theorem vE{v:Int}(hk:k<R.length)(j:Nat):(R.set k v).getD j 0=if j=k then v else R.getD j 0:=by grind
theorem iF{i:Int}(hi:i=(k:Int))(hk:k<R.length):L2.mX (R.map aj.int) i=some (.int (R.getD k 0)):=by subst hi;have:=at_getD (ns:=R) (i:=(k:Int)) (by lia) (by lia);rw[WM]at this;exact this
abbrev Rx:MB:=xU Fl cT (ai cS ff jL) (ai bX iP oY)
theorem Cq{n L:Nat}{i:Nat}{a:Int}{s:af}(hm:ar (s++[.lst (R0.map aj.int)]) m=some (bs.map aj.int))(hms:m<s.length)(hL:L=s.length)(ha:-(2 ^ 64)<a/\a<2 ^ 64)(hl:i+bs.length<=R0.length):
  ∃(R:_d)(x6' x7':Option aj),forL (λb8=>ar b8 m=some (bs.map aj.int)) (iN [aB 6,aB 7]) Rx (jS 0 (bs.map aj.int)) [qI p, qL n, qL m, qL L, qI i, qI a, x6, x7] (s++[.lst (R0.map aj.int)])
   = .nx [qI p, qL n, qL m, qL L, qI i, qI a, x6', x7'] (s++[.lst (R.map aj.int)])/\R.length=R0.length/\∀k,R.getD k 0=R0.getD k 0+(if i<=k then a*bs.getD (k-i) 0 else 0):=by
 subst hL;have hmm:∀R:_d,ar (s++[.lst (R.map aj.int)]) m=some (bs.map aj.int):=λR=>by have h:=hm;unfold ar at h⊢;rw[V4 hms]at h⊢;exact h
 obtain⟨μ',aH,e,R,rfl,⟨y6,y7,rfl⟩,hR,hv⟩:=eg (g:=λb8=>ar b8 m=some (bs.map aj.int)) (a:=iN [aB 6,aB 7]) (body:=Rx)
  (λj μ s'=>∃R:_d,s'=s++[.lst (R.map aj.int)]/\(∃x6 x7,μ=[qI p, qL n, qL m, qL s.length, qI i, qI a, x6, x7])/\R.length=R0.length/\∀k,R.getD k 0=R0.getD k 0+(if i<=k/\k<i+j then a*bs.getD (k-i) 0 else 0))
  (jS 0 (bs.map aj.int)) 0 [qI p, qL n, qL m, qL s.length, qI i, qI a, x6, x7] (s++[.lst (R0.map aj.int)])
  (by
   rintro j u μ s' hu ⟨R,rfl,⟨x6,x7,rfl⟩,hR,hv⟩;rw[VZ]at hv⊢;refine⟨hmm R,?_⟩;obtain⟨w,hw,rfl⟩:=kn _ 0 j u hu;rw[VZ];have hj:j<bs.length:=by have:=bF hw;rw[az]at this;exact this
   have ew:w=.int (bs.getD j 0):=by rw[Vu,Vo hj]at hw;rw[<-VU hw,VD,Vo hj];rfl
   subst ew;have hk:i+j<R.length:=by lia
   have gx:=Im (ay (bx s (R.map aj.int))) (iF (R:=R) (i:=(i:Int)+(j:Int)) (k:=i+j) (by lia) hk);have sx:=qh (v:=.int (R.getD (i+j) 0+a*bs.getD j 0)) (k:=(i:Int)+(j:Int)) (j:=i+j) (bx s (R.map aj.int)) (by rw[az];have:=qp hk;rw[show(i:Int)+(j:Int)=((i+j:Nat):Int) by lia];exact this);rw[vA,<-ZF]at sx;refine⟨[some (.int p),some (.loc n),some (.loc m),some (.loc s.length),some (.int i),some (.int a),some (.int j),some (.int (bs.getD j 0))],rfl,[qI p, qL n, qL m, qL s.length, qI i, qI a, qI j, qI (bs.getD j 0)],s++[.lst ((R.set (i+j) (R.getD (i+j) 0+a*bs.getD j 0)).map aj.int)],.inl ?_,R.set (i+j) (R.getD (i+j) 0+a*bs.getD j 0),rfl,⟨_,_,rfl⟩,by rw[Wt];exact hR,λk=>?_⟩
   .simp only[aq,aF,aD,aM,aE,gZ,aO,aU,aK,ny,DR,T9,Nz,NC,NG,NH,Io,gx,jV (i:=a) ha.1 ha.2,sx]
   .rw[vE hk];by_cases Uc:k=i+j
    .subst Uc;rw[Vs rfl,hv,VE (by lia),Vs (by lia),show i+j-i=j by lia];lia
    .rw[VE Uc,hv];congr 1;by_cases h1:i<=k/\k<i+j
     .rw[Vs h1,Vs (by lia)]
     .rw[VE h1,VE (by lia)])
  (λμ s'⟨R,hs,_⟩=>by rw[hs];exact hmm R)
  ⟨R0,rfl,⟨_,_,rfl⟩,rfl,λk=>by rw[VE (by lia),W2]⟩
 refine⟨R,y6,y7,e,hR,λk=>?_⟩;rw[hv,VZ,ko,az];congr 1;by_cases h1:i<=k
 .by_cases h2:k<i+bs.length
  .rw[Vs ⟨h1,h2⟩,Vs h1]
  .rw[VE (by lia),Vs h1,nH (by lia),Wj]
 .rw[VE (by lia),VE h1]
theorem vF(hp:¬ p=0){n:Nat}{st:af}(h1:ar st n=some (as.map aj.int))(h2:ar st m=some (bs.map aj.int))(tR:as.length<=100000)(uv:bs.length<=100000)(ha:∀a∈as,-(2 ^ 64)<a/\a<2 ^ 64):
  ∃g k,PM.dB [.int p,.loc n,.loc m] st=.ok (.loc k) (st++g)/\st.length<=k/\(st++g)[k]?=some (.lst ((if as=[]\/bs=[] then[]else bT ((bR as bs).map (·.fmod p))).map aj.int)):=by
 by_cases hea:as=[]
 .subst hea;refine⟨[.lst []],st.length,?_,Vv _,?_⟩
  .have z:((([]:_d).length:Int)==0)=true:=rfl;simp only[PM.dB,bC,aq,aD,aM,aE,aC,aw,bN,bo,bh,jr,aG,av,aA,aP,b9,ig,aU,aK,Vq,VQ,VI,Vx,VN,VC,Nat.reduceSub,Vl,VB,Nat.reduceAdd,aQ h1,az,z];rfl
  .rw[Vs (.inl rfl)];exact bx st []
 have ha0:0<as.length:=by
  rcases YF as.length with z|z
  .exact absurd (Wr z) hea
  .exact z
 have za:((as.length:Int)==0)=false:=by simp;lia
 by_cases heb:bs=[]
 .subst heb;refine⟨[.lst []],st.length,?_,Vv _,?_⟩
  .have z:((([]:_d).length:Int)==0)=true:=rfl;simp only[PM.dB,bC,aq,aF,aD,aM,aE,jd,aC,aw,bN,bo,bh,jr,aG,av,aA,aP,b9,ig,aU,aK,Vq,VQ,VI,Vx,VN,VC,Nat.reduceSub,Vl,VB,Nat.reduceAdd,aQ h1,aQ h2,az,za,z];rfl
  .rw[Vs (.inr rfl)];exact bx st []
 have Qw:0<bs.length:=by
  rcases YF bs.length with z|z
  .exact absurd (Wr z) heb
  .exact z
 have zb:((bs.length:Int)==0)=false:=by simp;lia
 rw[VE (by rintro(z|z);exact hea z;exact heb z)];have m1:=rH (st:=st++[.lst [.int 0]]) (n:=st.length) (us:=[.int 0]) (k:=(as.length:Int)+(bs.length:Int)-1) (bx _ _) (by lia) (by lia) (by rw[Vt];simp;lia);rw[AO,show((as.length:Int)+(bs.length:Int)-1).toNat=as.length+bs.length-1 by lia]at m1;have Me:=cK h1 [.lst [.int 0]];have NK:=cK h2 [.lst [.int 0]];have q1:=NI Me;have q2:=NI NK;have yt:st++[a!.lst [.int 0]]=st++[a!.lst [.int 0]]:=rfl;revert m1 Me NK q1 q2;generalize hs:st++[a!.lst [.int 0]]=s;intro m1 Me NK q1 q2;have k1:=aQ (cK h1 [.lst [.int 0]]);have k2:=aQ (cK h2 [.lst [.int 0]]);rw[hs]at k1 k2;obtain⟨μ',aH,e,R,rfl,⟨y4,y5,y6,y7,rfl⟩,hR,hv⟩:=eg (g:=λb8=>ar b8 n=some (as.map aj.int)) (a:=iN [aB 4,aB 5]) (body:=f? (j8 (aa dz ag)) (iN [aB 6,aB 7]) Rx)
  (λi μ s'=>∃R:_d,s'=s++[.lst (R.map aj.int)]/\(∃x4 x5 x6 x7,μ=[qI p, qL n, qL m, qL s.length, x4, x5, x6, x7])/\R.length=as.length+bs.length-1/\∀k,R.getD k 0=oQ as bs i k)
  (jS 0 (as.map aj.int)) 0 [qI p, qL n, qL m, qL s.length, qn, qn, qn, qn] (s++[.lst ((List.replicate (as.length+bs.length-1) (0:Int)).map aj.int)])
  (by
   rintro i u μ s' hu ⟨R,rfl,⟨x4,x5,x6,x7,rfl⟩,hR,hv⟩;rw[VZ]at hv⊢;refine⟨cK Me _,?_⟩;obtain⟨w,hw,rfl⟩:=kn _ 0 i u hu;rw[VZ];have hi:i<as.length:=by have:=bF hw;rw[az]at this;exact this
   have ew:w=.int (as.getD i 0):=by rw[Vu,Vo hi]at hw;rw[<-VU hw,VD,Vo hi];rfl
   subst ew;have hai:as.getD i 0∈as:=by rw[VD,Vo hi];exact XQ hi
   obtain⟨R',z6,z7,e',hR',hv'⟩:=Cq (p:=p) (n:=n) (m:=m) (L:=s.length) (bs:=bs) (R0:=R) (i:=i) (a:=as.getD i 0) (s:=s) (x6:=x6) (x7:=x7) (cK NK _) q2 rfl (ha _ hai) (by lia);refine⟨[some (.int p),some (.loc n),some (.loc m),some (.loc s.length),some (.int i),some (.int (as.getD i 0)),x6,x7],rfl,[qI p, qL n, qL m, qL s.length, qI i, qI (as.getD i 0), z6, z7],s++[.lst (R'.map aj.int)],.inl ?_,R',rfl,⟨_,_,_,_,rfl⟩,by lia,λk=>?_⟩
   .simp only[aq,aF,aC,aw,gC,aG,av,eO,aU,aK,qj,vx (cK NK [.lst (R.map aj.int)]),e']
   .rw[hv',hv];rfl)
  (λμ s'⟨R,LY,_⟩=>by rw[LY];exact cK Me _)
  ⟨List.replicate (as.length+bs.length-1) 0,rfl,⟨_,_,_,_,rfl⟩,V0,λk=>by
   rw[VD,W6];split<;>rfl⟩
 rw[VZ,ko,az]at hv;have hRe:R=bR as bs:=DU hR λk _=>hv k;subst hRe;have rr:=dH hp (st:=s++[.lst ((bR as bs).map aj.int)]) (cJ s _) (by rw[xZ,Vt];lia);refine⟨[.lst [.int 0]]++[.lst ((bR as bs).map aj.int)]++[.lst ((bT ((bR as bs).map (·.fmod p))).map aj.int)],(s++[a!.lst ((bR as bs).map aj.int)]).length,?_,by rw[<-hs];simp only[Vm];lia,?_⟩
 .rw[show st++([a!.lst [.int 0]]++[.lst ((bR as bs).map aj.int)]++[.lst ((bT ((bR as bs).map (·.fmod p))).map aj.int)])=s++[a!.lst ((bR as bs).map aj.int)]++[.lst ((bT ((bR as bs).map (·.fmod p))).map aj.int)]from by rw[<-hs];simp only[V6]];simp only[PM.dB,bC,aq,aF,aS,bg,aD,aM,aE,jd,aC,aw,sY,bJ,d8,bK,gC,bN,bo,bh,jr,aG,av,nj,aA,aP,cQ,ba,b9,bf,eO,gZ,fi,ig,aO,aU,aK,Vq,VQ,VI,Vx,VN,VC,Vp,Vr,Nat.reduceSub,Vl,VB,Nat.reduceAdd,Vt,Nat.reduceLeDiff,↓reduceIte,qj,aQ h1,aQ h2,az,za,zb,hs,k1,k2,m1,vx (cK Me _),e,rr]
 .rw[show st++([a!.lst [.int 0]]++[.lst ((bR as bs).map aj.int)]++[.lst ((bT ((bR as bs).map (·.fmod p))).map aj.int)])=s++[a!.lst ((bR as bs).map aj.int)]++[.lst ((bT ((bR as bs).map (·.fmod p))).map aj.int)]from by rw[<-hs];simp only[V6]];exact bx _ _
theorem tY{f:Int}(hp:¬ p=0){n:Nat}{st:af}(h:ar st n=some (as.map aj.int))(hl:as.length<=100000)(ha:∀a∈as,-(2 ^ 64)<a/\a<2 ^ 64):
  ∃g k,PM.dO [.int p,.loc n,.int f] st=.ok (.loc k) (st++g)/\st.length<=k/\(st++g)[k]?=some (.lst ((bT ((as.map (· * f)).map (·.fmod p))).map aj.int)):=by
 have hc:=gL (g:=λaH=>ar aH n=some (as.map aj.int)) (a:=aB 0) (e:=ai bX bq bP) (st:=st) h (λτ=>∃z,τ=[z,some (.int f)]) (λi=>.int (i*f)) as [none,some (.int f)] [] ⟨_,rfl⟩ (by
  rintro i hi τ ⟨z,rfl⟩;exact⟨_,rfl,⟨_,rfl⟩,by simp only[aq,aD,aM,aE,aO,aK,Vp,jV (i:=i) (ha i hi).1 (ha i hi).2]⟩)
 rw[Vx,show(as.map λi=>aj.int (i*f))=(as.map (· * f)).map aj.int from by rw[V5];rfl]at hc;have gH:iS 1 [2] [some (aj.int p), some (aj.loc n), qI f]=[none,some (.int f)]:=rfl;have hz:(as.map aj.int).length<=sizeLine:=by rw[az,Vt];lia
 rw[Vt]at hz;have rr:=dH hp (st:=st++[.lst ((as.map (· * f)).map aj.int)]) (cJ st _) (by rw[Vj,Vt];lia);refine⟨[.lst ((as.map (· * f)).map aj.int)]++[.lst ((bT ((as.map (· * f)).map (·.fmod p))).map aj.int)],(st++[a!.lst ((as.map (· * f)).map aj.int)]).length,?_,by simp only[Vm];lia,?_⟩
 .rw[<-V6];simp only[PM.dO,bC,aq,aF,bg,aC,aw,bJ,ie,fX,aG,av,aA,ba,d6,ej,aO,aU,aK,Vq,VQ,VI,Vx,VC,Nat.reduceSub,Vl,VB,Nat.reduceAdd,Vt,cY h,gH,hc,Vs hz,rr]
 .rw[<-V6];exact bx _ _
def fj(as:_d):_d:=(dY 1 (as.length-1)).map λk=>k*as.getD k.toNat 0
theorem l_(hp:¬ p=0){n:Nat}{st:af}(h:ar st n=some (as.map aj.int))(hl:as.length<=100000):
  ∃g k,PM.fJ [.int p,.loc n] st=.ok (.loc k) (st++g)/\st.length<=k/\(st++g)[k]?=some (.lst ((bT ((fj as).map (·.fmod p))).map aj.int)):=by
 have Ud:=uE (st:=st) (i:=1) (j:=(as.length:Int)) (by decide) (by decide) (by lia) (by lia);rw[show((as.length:Int)-1).toNat=as.length-1 by lia,nC]at Ud;have hc:=gL (g:=λ_=>True) (a:=aB 0) (e:=ai bX bq (ai bS bP bq)) (st:=st) trivial (λτ=>∃z,τ=[z,some (.loc n)]) (λi=>.int (i*as.getD i.toNat 0)) (dY 1 (as.length-1)) [none,some (.loc n)] [] ⟨_,rfl⟩ (by
  rintro i hi τ ⟨z,rfl⟩;have hm:=AM hi;exact⟨_,rfl,⟨_,rfl⟩,by simp only[aq,aD,aM,aE,aO,aU,aK,Vp,cO h (at_getD (ns:=as) (i:=i) (by lia) (by lia)),jV (i:=i) (by lia) (by lia)]⟩)
 rw[Vx,show((dY 1 (as.length-1)).map λi=>aj.int (i*as.getD i.toNat 0))=(fj as).map aj.int from by unfold fj;rw[V5];rfl]at hc;have kl:=aQ h;rw[az]at kl;obtain⟨L,hL⟩:∃L:Int,L=(as.length:Int):=⟨_,rfl⟩
 rw[<-hL]at kl Ud;have gH:iS 1 [1] [some (aj.int p),some (aj.loc n)]=[none,some (.loc n)]:=rfl;have Pb:(fj as).length=as.length-1:=by unfold fj dY;rw[Vj,Vj,VW]
 have hz:((dY 1 (as.length-1)).map aj.int).length<=16777216:=by rw[az];unfold dY;rw[Vj,VW];lia
 have rr:=dH hp (st:=st++[.lst ((fj as).map aj.int)]) (cJ st _) (by rw[Pb,Vt];lia);refine⟨[.lst ((fj as).map aj.int)]++[.lst ((bT ((fj as).map (·.fmod p))).map aj.int)],(st++[a!.lst ((fj as).map aj.int)]).length,?_,by simp only[Vm];lia,?_⟩
 .rw[<-V6];simp only[PM.fJ,bC,aq,aF,bg,aC,aw,bJ,ie,fX,bN,aG,av,aA,ba,d6,qf,aO,aU,aK,Vq,VQ,VI,Vx,VC,Nat.reduceSub,Vl,VB,Nat.reduceAdd,Vt,kl,Ud,gH,hc,Vs hz,rr]
 .rw[<-V6];exact bx _ _
abbrev Cf:=Nat->Int
def cf(as:_d):Cf:=λk=>as.getD k 0
def gR(h:Cf):Cf
 |0=>0
 |k+1=>h k
def mF:_d->Cf->Cf
 |[],_=>λ_=>0
 |a::as,g=>λk=>a*g k+gR (mF as g) k
theorem bZ(k:Nat):cf [] k=0:=by simp[cf]
theorem bG(a:Int)(as:_d)(k:Nat):cf (a::as) (k+1)=cf as k:=by simp[cf]
theorem yU(f g:Cf)(k:Nat):gR (λj=>f j+g j) k=gR f k+gR g k:=by cases k<;>simp[gR]
theorem DV(c:Int)(f:Cf)(k:Nat):gR (λj=>c*f j) k=c*gR f k:=by cases k<;>simp[gR]
theorem dS{f g:Cf}(h:∀k,f k=g k)(k:Nat):gR f k=gR g k:=by cases k<;>simp[gR,h]
theorem bV{f g:Cf}(h:∀k,f k=g k):∀(as:_d)(k:Nat),mF as f k=mF as g k
 |[],_=>rfl
 |a::as,k=>by unfold mF;rw[h k,dS (bV h as)]
theorem nI(f g:Cf):∀(as:_d)(k:Nat),mF as (λj=>f j+g j) k=mF as f k+mF as g k
 |[],_=>by simp[mF]
 |a::as,k=>by unfold mF;rw[dS (nI f g as),yU,Xg];lia
theorem vG(c:Int)(f:Cf):∀(as:_d)(k:Nat),mF as (λj=>c*f j) k=c*mF as f k
 |[],_=>by simp[mF]
 |a::as,k=>by unfold mF;rw[dS (vG c f as),DV,Xg,<-Wl,<-Wl,WV a c]
theorem Iz(f:Cf):∀(as:_d)(k:Nat),mF as (gR f) k=gR (mF as f) k
 |[],k=>by cases k<;>simp[mF,gR]
 |a::as,k=>by
  have h:=Iz f as;cases k with
  |zero=>simp[mF,gR]
  |succ k=>
   show a*f k+gR (mF as (gR f)) (k+1)=a*f k+gR (mF as f) k;rw[dS h];rfl
theorem kX(g:Cf):∀(as bs:_d)(k:Nat),mF as (mF bs g) k=mF bs (mF as g) k
 |[],bs,k=>by
  have h:∀(bs:_d)(k:Nat),mF bs (λ_=>0) k=0:=λbs=>by
   induction bs with
   |nil=>intro k;rfl
   |cons b bs ih=>
    intro k;unfold mF;rw[dS ih];cases k<;>simp[gR]
  exact(h bs k).symm
 |a::as,bs,k=>by show a*mF bs g k+gR (mF as (mF bs g)) k=mF bs (λk=>a*g k+gR (mF as g) k) k;rw[nI (λk=>a*g k) (gR (mF as g)),vG,Iz,dS (kX g as bs)]
def one:Cf:=cf [1]
theorem fo:∀(as:_d)(k:Nat),mF as one k=cf as k
 |[],k=>(bZ k).symm
 |a::as,k=>by
  unfold mF;rw[dS (fo as)];cases k with
  |zero=>simp[gR,one,cf]
  |succ k=>rw[bG];simp[gR,one,cf]
theorem dC(as bs:_d)(k:Nat):mF as (cf bs) k=mF bs (cf as) k:=by rw[<-bV (fo bs),<-bV (fo as) bs];exact kX one as bs k
theorem x_(a:Int)(as bs:_d)(k:Nat):∀i,oQ (a::as) bs (i+1) k=a*bs.getD k 0+gR (λj=>oQ as bs i j) k
 |0=>by show oQ (a::as) bs 0 k+(if 0<=k then _ else _)=_;rw[Vs (We _)];cases k<;>simp[oQ,gR]
 |i+1=>by
  show oQ (a::as) bs (i+1) k+(if i+1<=k then(a::as).getD (i+1) 0*bs.getD (k-(i+1)) 0 else 0)=_;rw[x_ a as bs k i,Int.add_assoc];congr 1;cases k with
  |zero=>simp[gR]
  |succ k=>
   show oQ as bs i k+_=oQ as bs i k+(if i<=k then as.getD i 0*bs.getD (k-i) 0 else 0);congr 1;by_cases h:i<=k
   .rw[Vs (by lia),Vs h,show k+1-(i+1)=k-i by lia];simp
   .rw[VE (by lia),VE h]
theorem yW:∀(as bs:_d)(k:Nat),oQ as bs as.length k=mF as (cf bs) k
 |[],bs,k=>AR bs k 0
 |a::as,bs,k=>by rw[Vl,x_];show _=a*cf bs k+gR (mF as (cf bs)) k;rw[dS (yW as bs)];rfl
theorem DW:∀(n:Nat)(ns:_d),ns.length=n->∀k,cf (bT ns) k=cf ns k
 |0,ns,h,k=>by rw[Wr h];rfl
 |n+1,ns,h,k=>by
  rcases jx ns with rfl|⟨ms,x,rfl⟩
  .rfl
  .by_cases hx:x=0
   .subst hx;rw[jv];have hl:ms.length=n:=by simpa using h
    rw[DW n ms hl];unfold cf;exact(rN ms 1 k).symm
   .rw[gP (by simpa using hx)]
theorem yX(ns:_d)(k:Nat):cf (bT ns) k=cf ns k:=DW _ ns rfl k
theorem c!(h:ns.length<=k):cf ns k=0:=nH h
theorem AU(h:Cut ns)(hn:ns≠[]):cf ns (ns.length-1)≠0:=by
 rcases jx ns with rfl|⟨ms,x,rfl⟩
 .exact absurd rfl hn
 .intro z;have hx:x=0:=by simpa[cf]using z
  subst hx;have h':bT (ms++[0])=ms++[0]:=h;rw[jv]at h';have:=gF ms;rw[h',Vm,VO]at this;lia
theorem jy(h:Cut ns){n:Nat}(hz:∀k,n<=k->cf ns k=0):ns.length<=n:=by
 rcases WD n ns.length with q|q
 .exfalso;refine AU h (λz=>by rw[z]at q;simp at q) (hz _ (by lia))
 .exact q
theorem Mf(ha:Cut as)(hb:Cut bs)(h:∀k,cf as k=cf bs k):as=bs:=by
 have h1:=jy ha (n:=bs.length) λk hk=>by rw[h];exact c! hk
 have h2:=jy hb (n:=as.length) λk hk=>by rw[<-h];exact c! hk
 refine Yy (by lia) λi hi hj=>?_;have:=h i;unfold cf at this;rw[VD,Vo hi,VD,Vo hj]at this;exact this
theorem pC(f:Int->Int)(hf:f 0=0)(ns:_d)(k:Nat):cf (ns.map f) k=f (cf ns k):=by
 unfold cf;rw[VD,Vu,VD];cases ns[k]? with
 |none=>exact hf.symm
 |some v=>rfl
theorem Cs(n:Nat)(f:Nat->Int)(k:Nat):cf ((dY 0 n).map λk=>f k.toNat) k=if k<n then f k else 0:=by
 unfold cf dY;rw[VD,Vu,Vu];by_cases h:k<n
 .rw[Vs h,Wh h];simp
 .rw[VE h,Wa (by rw[VW];lia)];rfl
def aR(p:Int)(f g:Cf):Prop:=∀k,Cg p (f k) (g k)
theorem aR.refl(p:Int)(f:Cf):aR p f f:=λk=>Cg.refl p _
theorem aR.symm{f g:Cf}(h:aR p f g):aR p g f:=λk=>(h k).symm
theorem aR.trans{f g e:Cf}(h:aR p f g)(h':aR p g e):aR p f e:=λk=>(h k).trans (h' k)
theorem aR.of_eq{f g:Cf}(h:∀k,f k=g k):aR p f g:=λk=>by rw[h];exact Cg.refl p _
theorem aR.add{f g f' g':Cf}(h:aR p f g)(h':aR p f' g'):aR p (λk=>f k+f' k) (λk=>g k+g' k):=λk=>(h k).add (h' k)
theorem aR.gR{p:Int}{f g:Cf}(h:aR p f g):aR p (gR f) (gR g):=λk=>by
 cases k with
 |zero=>exact Cg.refl p _
 |succ k=>exact h k
theorem aR.mF{p:Int}{f g:Cf}(h:aR p f g):∀as:_d,aR p (mF as f) (mF as g)
 |[]=>aR.refl p _
 |a::as=>λk=>((h k).xg a).add ((h.mF as).gR k)
theorem aR.mFl{RA:_d}(h:aR p (cf as) (cf RA))(bs:_d):aR p (PG.mF as (cf bs)) (PG.mF RA (cf bs)):=
 (aR.of_eq (dC as bs)).trans ((h.mF bs).trans (aR.of_eq (dC bs RA)))
structure Row(p:Int)(as:_d):Prop where
 cut:Cut as
 ED:∀a∈as,0<=a/\a<p
theorem Row.nil(p:Int):Row p []:=⟨rfl,λa h=>by simp at h⟩
theorem Row.vH(h:Row p as)(hp:0<p)(k:Nat):0<=cf as k/\cf as k<p:=by
 unfold cf;rw[VD];cases e:as[k]? with
 |none=>exact⟨YX _,hp⟩
 |some v=>exact h.ED v (V8 e)
theorem Row.of(hp:0<p)(ns:_d):Row p (bT (ns.map (·.fmod p))):=⟨uG _,yT (P:=λa=>0<=a/\a<p) λn hn=>by
 obtain⟨m,_,rfl⟩:=VR.mp hn;rw[dJ hp];exact⟨Xk _ (by lia),W8 _ hp⟩⟩
theorem Row.cg(hp:0<p)(ns:_d):aR p (cf (bT (ns.map (·.fmod p)))) (cf ns):=λk=>by rw[yX,pC _ (by rw[dJ hp];exact XI p)];exact Cg.mod hp _
theorem Row.ext(hp:0<p)(ha:Row p as)(hb:Row p bs)(h:aR p (cf as) (cf bs)):as=bs:=Mf ha.cut hb.cut λk=>by have:=Cg.eq hp (h k);rw[c_ (ha.vH hp k).1 (ha.vH hp k).2,c_ (hb.vH hp k).1 (hb.vH hp k).2]at this;exact this
theorem take_snoc(h:k<ns.length):ns.take (k+1)=ns.take k++[ns.getD k 0]:=by simp_all
theorem FD(h:k<=ns.length):Md ns none (some (k:Int))=ns.take k:=by unfold Md;rw[HT.uZ,HT.yw,List.drop_zero,show min k ns.length-0=k by lia]
abbrev lcT:MT:=xM (f9 (ai vf bP dE)) (f9 (ai oZ (ai bS bq (ai gJ bP cH)) dE))
abbrev lcB:MB:=aJ 1 (ai gJ bP cH)
theorem vI{n:Nat}{st:af}(h:ar st n=some (ns.map aj.int)):PM.oz [.loc n] st=.ok (.loc st.length) (st++[.lst ((bT ns).map aj.int)]):=by
 obtain⟨μ',aH,e,rfl,k,hk,rfl,hc⟩:=fK (t:=lcT) (body:=lcB)
  (λμ s=>s=st/\∃k:Nat,k<=ns.length/\μ=[some (.loc n),some (.int k)]/\bT (ns.take k)=bT ns) (λμ _=>Ub μ)
  (λμ s=>s=st/\∃k:Nat,k<=ns.length/\μ=[some (.loc n),some (.int k)]/\ns.take k=bT ns)
  (by
   rintro μ s ⟨rfl,k,hk,rfl,hc⟩;cases k with
   |zero=>
    have z:decide ((0:Int)<((0:Nat):Int))=false:=rfl;refine .inl ⟨s,?_,rfl,0,hk,rfl,?_⟩
    .simp only[aq,aD,aM,aE,Ib,bN,bo,bh,uD,gq,aO,aK,z]
    .rw[List.take_zero]at hc⊢;exact hc
   |succ k=>
    have z:decide ((0:Int)<((k+1:Nat):Int))=true:=V7 (by lia);have hx:=cO (i:=((k+1:Nat):Int)-1) h (iF (R:=ns) (k:=k) (by lia) (by lia));rw[take_snoc (by lia)]at hc;have xY:lcT [some (.loc n),some (.int ((k+1:Nat):Int))] s=.ok (ns.getD k 0==0) s:=by simp only[aq,aD,aM,aE,AF,bN,bo,bh,uD,fi,gq,ig,aO,aU,aK,z,hx]
    cases hz:ns.getD k 0==0 with
    |true=>
     rw[hz]at xY;have:ns.getD k 0=0:=by simpa using hz
     rw[this,jv]at hc;refine .inr ⟨s,[some (.loc n),some (.int (k:Int))],s,xY,.inl ?_,⟨rfl,k,by lia,rfl,hc⟩,?_⟩
     .simp only[aq,aF,aD,aM,aE,bK,bN,bf,fi,aO,aK,Vp,Vr];rw[show((k+1:Nat):Int)-1=(k:Int) by lia]
     .show((k:Int)).toNat<(((k+1:Nat):Int)).toNat;lia
    |false=>
     rw[hz]at xY;rw[gP hz]at hc;exact .inl ⟨s,xY,rfl,k+1,hk,rfl,by rw[take_snoc (by lia)];exact hc⟩)
  [some (.loc n),some (.int ns.length)] st ⟨rfl,ns.length,Vv _,rfl,by rw[List.take_length]⟩
 have sl:=vt (l:=none) (h:=some (k:Int)) h;rw[FC,FD hk,hc]at sl;simp only[PM.oz,bC,aq,aF,aS,bg,aC,aw,bJ,bK,aG,av,aA,aP,ba,bf,aO,aU,aK,Vq,VQ,VI,Vx,VN,VC,Vp,Vr,Nat.reduceSub,Vl,VB,Nat.reduceAdd,AI,Ig,AJ,AK,nk,nu,Ih,aQ h,az,e,sl]
def Sm(ns:_d):Prop:=∀n∈ns,-(2 ^ 64)<n/\n<2 ^ 64
theorem xh(hp:dM p=true)(c:Int){z:Int}(z0:0<=z)(z1:z<=1000)(st:af):
  ∃g k D,PM.kq [.int p,.int c,.int z] st=.ok (.loc k) (st++g)/\st.length<=k/\(st++g)[k]?=some (.lst (D.map aj.int))/\D.length<=z.toNat/\(∀d∈D,0<=d/\d<p)/\Cut D:=by
 have hr:=au hp;have Ud:=DQ (st:=st++[.lst []]) (j:=z) (by lia) (by lia);obtain⟨μ',aH,e,R,rfl,⟨y4,y5,rfl⟩,hR,hb⟩:=eg (g:=λ_=>True) (a:=aB 4) (body:=ax (aJ 5 (ai f_ (ai cS bP (ai bX (mC (.int 7919)) ff)) fH)) (ax (aJ 5 (ai f_ (ai bX (ai f_ (ai bX iP iP) (mC (.int 2147483629))) (mC (.int 48271))) fH)) (fg (jN dF cT (aa (ai f_ (ai p? iP (ai cS cH ff)) bq) ag)))))
  (λi μ s'=>∃R:_d,s'=st++[.lst (R.map aj.int)]/\(∃x4 x5,μ=[qI p, qI c, qI z, qL st.length, x4, x5])/\R.length=i/\∀d∈R,0<=d/\d<p)
  (cN 0 z.toNat) 0 [qI p, qI c, qI z, qL st.length, qn, qn] (st++[.lst []])
  (by
   rintro i u μ s' hu ⟨R,rfl,⟨x4,x5,rfl⟩,hR,hb⟩;rw[VZ]at hR⊢;refine⟨trivial,?_⟩;rw[nC]at hu;obtain⟨k,hk,rfl⟩:=VR.mp (V8 hu);have hm:=AM hk;have hi:i<z.toNat:=by have:=bF hu;rw[Vj]at this;unfold dY at this;rw[Vj,VW]at this;exact this
   have dk:Dz (1+k):=Ua (by lia) (by lia);have q1:=qm (m:=2147483647) (by decide) (c+7919*k);generalize hx:(c+7919*k).fmod 2147483647=x at q1;have q2:=qm (m:=2147483629) (by decide) (x*x);generalize hy:((x*x).fmod 2147483629*48271).fmod 2147483647=y;have q3:=qm (m:=p) (by lia) (y.fdiv (1+k));have ap:=iq (v:=.int ((y.fdiv (1+k)).fmod p)) (bx st (R.map aj.int)) (by rw[az,Vt];lia);rw[vA,show R.map aj.int++[.int ((y.fdiv (1+k)).fmod p)]=(R++[(y.fdiv (1+k)).fmod p]).map aj.int from by simp]at ap;refine⟨[some (.int p),some (.int c),some (.int z),some (.loc st.length),some (.int k),x5],rfl,[qI p, qI c, qI z, qL st.length, qI k, qI y],st++[.lst ((R++[(y.fdiv (1+k)).fmod p]).map aj.int)],.inl ?_,R++[(y.fdiv (1+k)).fmod p],rfl,⟨_,_,rfl⟩,by rw[Vm,hR];rfl,λd hd=>?_⟩
   .simp only[aq,aF,aS,aD,aM,aE,aC,aw,gK,bK,bN,aG,av,aP,fM,bf,gZ,aO,aU,aK,Vp,Vr,nv,s_,jV (i:=7919) (by decide) (by decide),fY (j:=2147483647) (by decide),hx,jV (i:=x) (by lia) (by lia),fY (j:=2147483629) (by decide),mul_r (j:=48271) (by decide) (by decide),hy,qg (bx st (R.map aj.int)),div_ii dk,fY (iu hp),ap]
   .rcases VP.mp hd with hd|hd
    .exact hb d hd
    .rw[Vy.mp hd];exact q3)
  (λ_ _ _=>trivial) ⟨[],rfl,⟨_,_,rfl⟩,rfl,λd hd=>by cases hd⟩
 have lc:=vI (ay (bx st (R.map aj.int)));have hR':R.length<=z.toNat:=by rw[hR];unfold cN;rw[Vj,VW];lia
 refine⟨[.lst (R.map aj.int)]++[.lst ((bT R).map aj.int)],(st++[a!.lst (R.map aj.int)]).length,bT R,?_,by simp only[Vm];lia,by rw[<-V6];exact bx _ _,Wg (gF R) hR',yT hb,uG R⟩;rw[<-V6];simp only[PM.kq,bC,aq,aF,aS,bg,aC,aw,sY,bJ,bK,gC,aG,av,nj,aA,aP,ba,bf,eO,jU,aO,aU,aK,Vq,VQ,VI,Vx,VN,VC,Vp,Vr,Nat.reduceSub,Vl,VB,Nat.reduceAdd,Vt,Nat.reduceLeDiff,↓reduceIte,Ud,e,lc]
theorem x!{g:af->Prop}{a:AS}{e:ME}{τ τ1:MN.Env}{st st1:af}{ys:List aj}(hg:g st)(h1:a u τ=some τ1)(h2:e τ1 st=.ok y st1):dX g a bI e (u::us) τ st ys=dX g a bI e us τ1 st1 (ys++[y]):=by rw[dX];rw[Vs hg,h1];dsimp only[bI];rw[h2]
theorem rO{g:af->Prop}{a:AS}{c:MT}{e:ME}{τ:MN.Env}{st:af}{ys:List aj}(hg:g st):dX g a c e [] τ st ys=.ok ys st:=by rw[dX,Vs hg]
abbrev aI(R:_d):a!:=.lst (R.map aj.int)
def rP(s:af)(ls:List Nat)(Rs:List (_d)):Prop:=ls.length=Rs.length/\∀(i l:Nat)(R:_d),ls[i]?=some l->Rs[i]?=some R->s[l]?=some (aI R)
def Fr(st s:af):Prop:=∀(m:Nat)(c:a!),st[m]?=some c->s[m]?=some c
theorem Fr.refl(st:af):Fr st st:=λ_ _ h=>h
theorem Fr.trans{a b c:af}(h:Fr a b)(h':Fr b c):Fr a c:=λm k q=>h' m k (h m k q)
theorem Fr.app(st g:af):Fr st (st++g):=λ_ _ h=>cP h g
theorem Fr.more{a b:af}(h:Fr a b)(g:af):Fr a (b++g):=h.trans (Fr.app b g)
theorem Fr.set{a b:af}(h:Fr a b){L:Nat}(hL:a.length<=L)(c:a!):Fr a (b.set L c):=λm k q=>gg (h m k q) (by have:=bF q;lia)
theorem Fr.it{a b:af}(h:Fr a b){n:Nat}(hi:ar a n=some us):ar b n=some us:=by
 unfold ar at hi⊢;cases z:a[n]? with
 |none=>rw[z]at hi;cases hi
 |some c=>rw[z]at hi;rw[h n c z];exact hi
theorem Fr.len{a b:af}(h:Fr a b):a.length<=b.length:=by
 rcases YF a.length with z|z
 .lia
 .have:=bF (h (a.length-1) _ (Vo (by lia)));lia
open Classical in
def Mg(p n:Int):Int:=if h:∃t:Int,0<t/\t<p/\(t*n) % p=1 then h.choose else 0
theorem IA{n t u:Int}(hp:0<p)(h1:0<t/\t<p/\(t*n) % p=1)(h2:0<u/\u<p/\(u*n) % p=1):t=u:=by
 obtain⟨a1,a2,a3⟩:=h1;obtain⟨b1,b2,b3⟩:=h2;have c1:Cg p (t*n) 1:=⟨t*n / p,by have:=Wc (t*n) p;lia⟩
 have c2:Cg p (u*n) 1:=⟨u*n / p,by have:=Wc (u*n) p;lia⟩
 have c3:Cg p t u:=by
  have e1:Cg p (t*(u*n)) (t*1):=c2.xg t;have e2:Cg p (u*(t*n)) (u*1):=c1.xg u;have e3:t*(u*n)=u*(t*n):=by rw[<-Wl,<-Wl,WV t u]
  rw[e3,W3]at e1;rw[W3]at e2;exact e1.symm.trans e2
 have:=Cg.eq hp c3;rwa [c_ (by lia) a2,c_ (by lia) b2]at this
theorem DX{n t:Int}(hp:0<p)(h:0<t/\t<p/\(t*n) % p=1):Mg p n=t:=by unfold Mg;rw[dif_pos ⟨t,h⟩];exact IA hp (Exists.choose_spec (p:=λt:Int=>0<t/\t<p/\(t*n) % p=1) ⟨t,h⟩) h
def aL(bs:_d):Int:=bs.getD (bs.length-1) 0
def pb(bs:_d)(s:Nat)(o:Int)(R:_d):_d:=(dY 0 R.length).map λk=>R.getD k.toNat 0-(if s<=k.toNat then o*bs.getD (k.toNat-s) 0 else 0)
def dv(p c:Int)(as bs:_d)(steps:Nat):Nat->List Int×List Int
 |0=>(List.replicate steps 0,as)
 |i+1=>((dv p c as bs steps i).1.set (steps-1-i) (((dv p c as bs steps i).2.getD (steps-1-i+bs.length-1) 0*c).fmod p),pb bs (steps-1-i) (((dv p c as bs steps i).2.getD (steps-1-i+bs.length-1) 0*c).fmod p) (dv p c as bs steps i).2)
theorem x?(bs:_d)(s:Nat)(o:Int)(R:_d):(pb bs s o R).length=R.length:=by unfold pb dY;rw[Vj,Vj,VW]
theorem IB(bs:_d)(s:Nat)(o:Int)(R:_d)(k:Nat):cf (pb bs s o R) k=if k<R.length then cf R k-(if s<=k then o*cf bs (k-s)else 0)else 0:=by unfold pb;rw[Cs R.length (λk=>R.getD k 0-(if s<=k then o*bs.getD (k-s) 0 else 0))];rfl
theorem jz(p c:Int)(as bs:_d)(steps:Nat):∀i,(dv p c as bs steps i).1.length=steps/\(dv p c as bs steps i).2.length=as.length
 |0=>⟨V0,rfl⟩
 |i+1=>by have h:=jz p c as bs steps i;unfold dv;exact⟨by rw[Wt];exact h.1,by rw[x?];exact h.2⟩
theorem IC:∀(Q:_d)(s:Nat)(o:Int)(g:Cf)(k:Nat),s<Q.length->cf Q s=0->mF (Q.set s o) g k=mF Q g k+(if s<=k then o*g (k-s)else 0)
 |[],s,_,_,_,h,_=>by simp at h
 |q::Q,0,o,g,k,_,h0=>by have:q=0:=h0;subst this;rw[Vp,Vs (We _)];show o*g k+gR (mF Q g) k=0*g k+gR (mF Q g) k+o*g (k-0);rw[Wx,Zp];lia
 |q::Q,s+1,o,g,k,h,h0=>by
  rw[Vr];show q*g k+gR (mF (Q.set s o) g) k=q*g k+gR (mF Q g) k+_;rw[bG]at h0;have ih:=IC Q s o g;cases k with
  |zero=>rw[VE (by lia)];simp[gR]
  |succ k=>
   show q*g (k+1)+mF (Q.set s o) g k=q*g (k+1)+mF Q g k+_;rw[ih k (by simpa using h) h0];by_cases z:s<=k
   .rw[Vs z,Vs (by lia),show k+1-(s+1)=k-s by lia];lia
   .rw[VE z,VE (by lia)];lia
theorem AV(g:Cf):∀(n k:Nat),mF (List.replicate n 0) g k=0
 |0,_=>rfl
 |n+1,k=>by rw[VN];unfold mF;rw[dS (AV g n)];cases k<;>simp[gR]
theorem AW(n k:Nat):cf (List.replicate n 0) k=0:=by unfold cf;rw[VD,W6];split<;>rfl
theorem yY{Q:_d}{s:Nat}(h:s<Q.length)(o:Int)(k:Nat):cf (Q.set s o) k=if k=s then o else cf Q k:=vE h k
structure aa5(p:Int)(as bs:_d)(steps i:Nat)(Q R:_d):Prop where
 Qx:Q.length=steps
 Qy:R.length=as.length
 zero:∀s,s<steps-i->cf Q s=0
 ED:∀s,0<=cf Q s/\cf Q s<p
 eq:∀k,cf as k=mF Q (cf bs) k+cf R k
 gone:∀k,steps-i+bs.length-1<=k->Cg p (cf R k) 0
theorem NM{p c:Int}(hp:0<p){as bs:_d}(hb:bs≠[])(hc:(c*aL bs) % p=1){steps:Nat}(hs:steps=as.length+1-bs.length):∀i,i<=steps->aa5 p as bs steps i (dv p c as bs steps i).1 (dv p c as bs steps i).2
 |0,_=>⟨V0,rfl,λs _=>AW _ _,λs=>by show 0<=cf (List.replicate steps 0) s/\_;rw[show(dv p c as bs steps 0).1=List.replicate steps 0 from rfl,AW];exact⟨YX _,hp⟩,λk=>by
   rw[show(dv p c as bs steps 0).1=List.replicate steps 0 from rfl,AV,Xa];rfl,λk hk=>by
   have Qw:0<bs.length:=VA.mpr hb;rw[show(dv p c as bs steps 0).2=as from rfl,c! (by lia)];exact Cg.refl p _⟩
 |i+1,hi=>by
  have ih:=NM hp hb hc hs i (by lia);obtain⟨Q,hQ⟩:∃Q,(dv p c as bs steps i).1=Q:=⟨_,rfl⟩
  obtain⟨R,hR⟩:∃R,(dv p c as bs steps i).2=R:=⟨_,rfl⟩
  obtain⟨o,ho⟩:∃o,(R.getD (steps-1-i+bs.length-1) 0*c).fmod p=o:=⟨_,rfl⟩
  obtain⟨s,RC⟩:∃s,steps-1-i=s:=⟨_,rfl⟩
  rw[hQ,hR]at ih;have e1:(dv p c as bs steps (i+1)).1=Q.set s o:=by unfold dv;rw[hQ,hR,ho,RC]
  have e2:(dv p c as bs steps (i+1)).2=pb bs s o R:=by unfold dv;rw[hR,ho,RC]
  rw[e1,e2];have Qw:0<bs.length:=VA.mpr hb;have Pb:s<Q.length:=by rw[ih.Qx];lia
  have Ue:0<=o/\o<p:=by rw[<-ho,dJ hp];exact⟨Xk _ (by lia),W8 _ hp⟩
  have aa6:∀k,as.length<=k->cf R k=0:=λk hk=>c! (by rw[ih.Qy];exact hk);have Rcf:∀k,cf (pb bs s o R) k=cf R k-(if s<=k then o*cf bs (k-s)else 0):=λk=>by
   rw[IB];split
   .rfl
   .rename_i q;rw[ih.Qy]at q;rw[aa6 k (by lia)];split
    .rw[c! (by lia)];simp
    .rfl
  refine⟨by rw[Wt];exact ih.Qx,by rw[x?];exact ih.Qy,λt ht=>?_,λt=>?_,λk=>?_,λk hk=>?_⟩
  .rw[yY Pb,VE (by lia)];exact ih.zero t (by lia)
  .rw[yY Pb];split
   .exact Ue
   .exact ih.ED t
  .rw[IC Q s o (cf bs) k Pb (ih.zero s (by lia)),Rcf,ih.eq k];lia
  .rw[Rcf];by_cases Ug:k=s+bs.length-1
   .subst Ug;rw[Vs (by lia),show s+bs.length-1-s=bs.length-1 by lia];have co:Cg p o (cf R (s+bs.length-1)*c):=by rw[<-ho,RC];exact Cg.mod hp _
    have cl:Cg p (c*aL bs) 1:=⟨c*aL bs / p,by have:=Wc (c*aL bs) p;lia⟩
    have c1:Cg p (o*cf bs (bs.length-1)) (cf R (s+bs.length-1)):=by have z:=(co.AN (aL bs)).trans (by rw[Wl];exact cl.xg (cf R (s+bs.length-1)));rw[W3]at z;exact z
    have c2:=(Cg.refl p (cf R (s+bs.length-1))).add c1.neg;rw[show cf R (s+bs.length-1) + -cf R (s+bs.length-1)=0 by lia]at c2;rw[show cf R (s+bs.length-1)-o*cf bs (bs.length-1)=cf R (s+bs.length-1) + -(o*cf bs (bs.length-1)) by lia];exact c2
   .rw[show(if s<=k then o*cf bs (k-s)else 0)=0 from by rw[Vs (by lia),c! (by lia),Wj],YN];exact ih.gone k (by lia)
def b7(p:Int)(as bs:_d):_d:=bT ((dv p (Mg p (aL bs)) as bs (as.length+1-bs.length) (as.length+1-bs.length)).1.map (·.fmod p))
def h!(p:Int)(as bs:_d):_d:=bT ((dv p (Mg p (aL bs)) as bs (as.length+1-bs.length) (as.length+1-bs.length)).2.map (·.fmod p))
theorem fU(hp:dM p=true)(hb:bs≠[])(hl:¬ aL bs % p=0):
  Row p (b7 p as bs)/\Row p (h! p as bs)/\(h! p as bs).length<bs.length/\aR p (cf as) (λk=>mF (b7 p as bs) (cf bs) k+cf (h! p as bs) k)/\(b7 p as bs).length<=as.length+1-bs.length:=by
 have hr:=au hp;have bW:0<p:=by lia
 obtain⟨g,t,_,h1,h2,h3⟩:=fN hp hl [];have ei:=DX bW ⟨h1,h2,h3⟩;have D:=NM (c:=t) bW (as:=as) hb h3 (steps:=as.length+1-bs.length) rfl (as.length+1-bs.length) (Vv _);unfold b7 h!;rw[ei];revert D;generalize (dv p t as bs (as.length+1-bs.length) (as.length+1-bs.length)).1=Q;generalize (dv p t as bs (as.length+1-bs.length) (as.length+1-bs.length)).2=R;intro D;have Qw:0<bs.length:=VA.mpr hb;refine⟨Row.of bW Q,Row.of bW R,?_,?_,?_⟩
 .have:=jy (uG (R.map (·.fmod p))) (n:=bs.length-1) λk hk=>by rw[yX,pC _ (by rw[dJ bW];exact XI p)];have z:=Cg.eq bW (D.gone k (by lia));rw[z,dJ bW];exact XI p
  lia
 .refine(aR.of_eq D.eq).trans (aR.add ?_ ?_)
  .exact(aR.mFl (Row.cg bW Q) bs).symm
  .exact(Row.cg bW R).symm
 .refine Wg (gF _) ?_;rw[Vj,D.Qx];exact Vv _
theorem oC(hb:bs≠[]):L2.mX (bs.map aj.int) (-1)=some (.int (aL bs)):=by have Qw:0<bs.length:=VA.mpr hb;unfold L2.mX L2.Aj;rw[az,VE (by decide),Vs (by lia),Option.bind_some,show(-1+(bs.length:Int)).toNat=bs.length-1 by lia,Vu,Vo (by lia)];unfold aL;rw[VD,Vo (by lia)];rfl
def z8(a b:Nat)(st s:af):Prop:=st.length=s.length/\∀(m:Nat)(c:a!),m≠a->m≠b->st[m]?=some c->s[m]?=some c
theorem z8.refl(a b:Nat)(st:af):z8 a b st st:=⟨rfl,λ_ _ _ _ h=>h⟩
theorem z8.trans{a b:Nat}{x y z:af}(h:z8 a b x y)(h':z8 a b y z):z8 a b x z:=⟨h.1.trans h'.1,λm c h1 h2 h3=>h'.2 m c h1 h2 (h.2 m c h1 h2 h3)⟩
theorem z8.aa7{a b:Nat}{x y:af}(h:z8 a b x y)(c:a!):z8 a b x (y.set a c):=⟨by rw[Wt];exact h.1,λm k h1 h2 h3=>gg (h.2 m k h1 h2 h3) (λz=>h1 z.symm)⟩
theorem z8.aa8{a b:Nat}{x y:af}(h:z8 a b x y)(c:a!):z8 a b x (y.set b c):=⟨by rw[Wt];exact h.1,λm k h1 h2 h3=>gg (h.2 m k h1 h2 h3) (λz=>h2 z.symm)⟩
abbrev Qz:MB:=xU LQ cT (ai cS oY Bw) (ai bX zY (jl 10))
theorem Ct{L K:Nat}{s:Nat}{o:Int}{st:af}{x10:Option aj}(lm:st[m]?=some (aI bs))(lL:st[L]?=some (aI R0))(Uh:m≠L)(RD:m≠K)(hLK:L≠K)(ho:-(2 ^ 64)<o/\o<2 ^ 64)(hl:s+bs.length<=R0.length):
  ∃(aH:af)(y9 FE:Option aj),forL (λb8=>ar b8 m=some (bs.map aj.int)) (iN [aB 9,aB 10]) Qz (jS 0 (bs.map aj.int)) [x0, x1, qL m, qL L, x4, x5, x6, qI s, qI o, x9, x10] st
   = .nx [x0, x1, qL m, qL L, x4, x5, x6, qI s, qI o, y9, FE] aH/\aH[L]?=some (aI (pb bs s o R0))/\z8 L K st aH/\∀c,st[K]?=some c->aH[K]?=some c:=by
 obtain⟨μ',aH,e,R,lR,⟨y9,FE,rfl⟩,hR,hv,hF,hK⟩:=eg (g:=λb8=>ar b8 m=some (bs.map aj.int)) (a:=iN [aB 9,aB 10]) (body:=Qz)
  (λj μ s'=>∃R:_d,s'[L]?=some (aI R)/\(∃x9 x10,μ=[x0, x1, qL m, qL L, x4, x5, x6, qI s, qI o, x9, x10])/\R.length=R0.length/\(∀k,R.getD k 0=R0.getD k 0-(if s<=k/\k<s+j then o*bs.getD (k-s) 0 else 0))/\z8 L K st s'/\∀c,st[K]?=some c->s'[K]?=some c)
  (jS 0 (bs.map aj.int)) 0 [x0, x1, qL m, qL L, x4, x5, x6, qI s, qI o, x9, x10] st
  (by
   rintro j u μ s' hu ⟨R,lR,⟨x9,x10,rfl⟩,hR,hv,hF,hK⟩;rw[VZ]at hv⊢;refine⟨ay (hF.2 m _ Uh RD lm),?_⟩;obtain⟨w,hw,rfl⟩:=kn _ 0 j u hu;rw[VZ];have hj:j<bs.length:=by have:=bF hw;rw[az]at this;exact this
   have ew:w=.int (bs.getD j 0):=by rw[Vu,Vo hj]at hw;rw[<-VU hw,VD,Vo hj];rfl
   subst ew;have hk:s+j<R.length:=by lia
   have gx:=Im (ay lR) (iF (R:=R) (i:=(s:Int)+(j:Int)) (k:=s+j) (by lia) hk);have sx:=qh (v:=.int (R.getD (s+j) 0-o*bs.getD j 0)) (k:=(s:Int)+(j:Int)) (j:=s+j) lR (by rw[az];have:=qp hk;rw[show(s:Int)+(j:Int)=((s+j:Nat):Int) by lia];exact this);rw[<-ZF]at sx;refine⟨[x0,x1,some (.loc m),some (.loc L),x4,x5,x6,some (.int s),some (.int o),some (.int j),some (.int (bs.getD j 0))],rfl,[x0, x1, qL m, qL L, x4, x5, x6, qI s, qI o, qI j, qI (bs.getD j 0)],s'.set L (aI (R.set (s+j) (R.getD (s+j) 0-o*bs.getD j 0))),.inl ?_,R.set (s+j) (R.getD (s+j) 0-o*bs.getD j 0),g6 lR,⟨_,_,rfl⟩,by rw[Wt];exact hR,λk=>?_,hF.aa7 _,λc hc=>gg (hK c hc) hLK⟩
   .simp only[aq,aF,aD,aM,aE,gZ,aO,aU,aK,ny,DR,T9,Nz,NC,NG,NH,Qq,gx,jV (i:=o) ho.1 ho.2,sx]
   .rw[vE hk];by_cases Uc:k=s+j
    .subst Uc;rw[Vs rfl,hv,VE (by lia),Vs (by lia),show s+j-s=j by lia];lia
    .rw[VE Uc,hv];congr 1;by_cases h1:s<=k/\k<s+j
     .rw[Vs h1,Vs (by lia)]
     .rw[VE h1,VE (by lia)])
  (λμ s'⟨R,_,_,_,_,hF,_⟩=>ay (hF.2 m _ Uh RD lm))
  ⟨R0,lL,⟨_,_,rfl⟩,rfl,λk=>by rw[VE (by lia),YN],z8.refl _ _ _,λ_ h=>h⟩
 refine⟨aH,y9,FE,e,?_,hF,hK⟩;have:R=pb bs s o R0:=by
  rw[DU (f:=λk=>R0.getD k 0-(if s<=k then o*bs.getD (k-s) 0 else 0)) hR λk hk=>?_]
  .rfl
  .rw[hv,VZ,ko,az];congr 1;by_cases h1:s<=k
   .by_cases h2:k<s+bs.length
    .rw[Vs ⟨h1,h2⟩,Vs h1]
    .rw[VE (by lia),Vs h1,nH (by lia),Wj]
   .rw[VE (by lia),VE h1]
 rw[<-this];exact lR
abbrev NN:MB:=ax (aJ 8 (ai f_ (ai bX (ai bS cT (ai gJ (ai cS oY (ao bc (aa dz ag))) cH)) ff) bq)) (ax (o! jL oY zY) (f? (j8 (aa dz ag)) (iN [(aB 9),(aB 10)]) Qz))
theorem ID{n i:Nat}(h:(lY hi n)[i]?=some u):i<n/\u=.int (hi-(i:Int)):=by unfold lY at h;have Hg:=bF h;rw[Vj,VW]at Hg;rw[Vu,Wh Hg]at h;exact⟨Hg,(VU h).symm⟩
theorem FG(hi:Int)(n:Nat):(lY hi n).length=n:=by unfold lY;rw[Vj,VW]
theorem Cu{c:Int}(hp:dM p=true)(hc:0<c/\c<p){n L K:Nat}{st:af}{steps:Nat}(hs:steps=as.length+1-bs.length)(hb:bs≠[])(lm:st[m]?=some (aI bs))(lL:st[L]?=some (aI as))(lK:st[K]?=some (aI (List.replicate steps 0)))(Uh:m≠L)(RD:m≠K)(hLK:L≠K)(tR:as.length<=100000)(uv:bs.length<=100000):
  ∃(aH:af)(y7 y8 y9 FE:Option aj),forL (λ_=>True) (aB 7) NN (lY ((steps:Int)-1) steps) [qI p, qL n, qL m, qL L, qI c, x5, qL K, qn, qn, qn, qn] st
   = .nx [qI p, qL n, qL m, qL L, qI c, x5, qL K, y7, y8, y9, FE] aH/\z8 L K st aH/\aH[K]?=some (aI (dv p c as bs steps steps).1)/\aH[L]?=some (aI (dv p c as bs steps steps).2):=by
 have hr:=au hp;have hz:=iu hp;have Qw:0<bs.length:=VA.mpr hb;obtain⟨μ',aH,e,⟨y7,y8,y9,FE,rfl⟩,hF,h1,h2⟩:=eg (g:=λ_=>True) (a:=aB 7) (body:=NN)
  (λi μ s'=>(∃y7 y8 y9 FE,μ=[qI p, qL n, qL m, qL L, qI c, x5, qL K, y7, y8, y9, FE])/\z8 L K st s'/\s'[K]?=some (aI (dv p c as bs steps i).1)/\s'[L]?=some (aI (dv p c as bs steps i).2))
  (lY ((steps:Int)-1) steps) 0 [qI p, qL n, qL m, qL L, qI c, x5, qL K, qn, qn, qn, qn] st
  (by
   rintro i u μ s' hu ⟨⟨y7,y8,y9,FE,rfl⟩,hF,lQ,lR⟩;rw[VZ]at lQ lR⊢;obtain⟨hi,rfl⟩:=ID hu;refine⟨trivial,?_⟩;obtain⟨lq,lr⟩:=jz p c as bs steps i;obtain⟨Q,hQ⟩:∃Q,(dv p c as bs steps i).1=Q:=⟨_,rfl⟩
   obtain⟨R,hR⟩:∃R,(dv p c as bs steps i).2=R:=⟨_,rfl⟩
   obtain⟨s,RC⟩:∃s,steps-1-i=s:=⟨_,rfl⟩
   obtain⟨o,ho⟩:∃o,(R.getD (s+bs.length-1) 0*c).fmod p=o:=⟨_,rfl⟩
   have e1:(dv p c as bs steps (i+1)).1=Q.set s o:=by unfold dv;rw[hQ,hR,RC,ho]
   have e2:(dv p c as bs steps (i+1)).2=pb bs s o R:=by unfold dv;rw[hR,RC,ho]
   rw[hQ]at lQ lq;rw[hR]at lR lr;rw[e1,e2];have es:(steps:Int)-1-(i:Int)=(s:Int):=by lia
   rw[es];have Ue:0<=o/\o<p:=by rw[<-ho,dJ (by lia)];exact⟨Xk _ (by lia),W8 _ (by lia)⟩
   have lm':=hF.2 m _ Uh RD lm;obtain⟨LB,hLB⟩:∃L:Int,L=(bs.length:Int):=⟨_,rfl⟩
   have kl:bc [.loc m] s'=.ok (.int LB) s':=by rw[aQ (ay lm'),az,hLB]
   have gx:=cO (ay lR) (iF (R:=R) (i:=(s:Int)+LB-1) (k:=s+bs.length-1) (by lia) (by lia));have sx:=qh (v:=.int o) (k:=(s:Int)) (j:=s) lQ (by rw[az];exact qp (by lia));rw[<-ZF]at sx;have lm2:(s'.set K (aI (Q.set s o)))[m]?=some (aI bs):=gg lm' (λz=>RD z.symm);have lR2:(s'.set K (aI (Q.set s o)))[L]?=some (aI R):=gg lR (λz=>hLK z.symm);have lQ2:(s'.set K (aI (Q.set s o)))[K]?=some (aI (Q.set s o)):=g6 lQ;obtain⟨b8,z9,z10,e3,lR3,hF3,hK3⟩:=Ct (m:=m) (L:=L) (K:=K) (bs:=bs) (R0:=R) (s:=s) (o:=o) (x0:=some (.int p)) (x1:=some (.loc n)) (x4:=some (.int c)) (x5:=x5) (x6:=some (.loc K)) (x9:=y9) (x10:=FE) lm2 lR2 Uh RD hLK (by lia) (by lia);refine⟨[some (.int p),some (.loc n),some (.loc m),some (.loc L),some (.int c),x5,some (.loc K),some (.int s),y8,y9,FE],rfl,[qI p, qL n, qL m, qL L, qI c, x5, qL K, qI s, qI o, z9, z10],b8,.inl ?_,⟨_,_,_,_,rfl⟩,(hF.aa8 _).trans hF3,hK3 _ lQ2,lR3⟩;have en:=vx (ay lm2);simp only[aq,aF,aS,aD,aM,aE,aC,aw,bK,gC,bN,aG,av,aA,aP,bf,eO,gZ,fi,aO,aU,aK,Vp,Vr,yR,Ql,Ik,Il,ny,qj,kl,gx,mul_r (j:=c) (by lia) (by lia),fY hz,ho,sx,en,e3])
  (λ_ _ _=>trivial)
  ⟨⟨_,_,_,_,rfl⟩,z8.refl _ _ _,lK,lL⟩
 rw[VZ,FG]at h1 h2;exact⟨aH,y7,y8,y9,FE,e,hF,h1,h2⟩
theorem gn(hp:dM p=true){n:Nat}{st:af}(h1:ar st n=some (as.map aj.int))(lm:st[m]?=some (aI bs))(hb:bs≠[])(hl:¬ aL bs % p=0)(tR:as.length<=100000)(uv:bs.length<=100000):
  ∃aH k1 k2,PM.parted [.int p,.loc n,.loc m] st=.ok (.tup [.loc k1,.loc k2]) aH/\Fr st aH/\st.length<=k1/\st.length<=k2/\k1≠k2/\aH[k1]?=some (aI (b7 p as bs))/\aH[k2]?=some (aI (h! p as bs)):=by
 have hr:=au hp;have hz:=iu hp;have bW:0<p:=by lia
 have Qw:0<bs.length:=VA.mpr hb;have c1:=kW h1;have hm:=bF lm;obtain⟨g,t,ei,t1,t2,t3⟩:=fN hp hl (st++[aI as]);have et:=DX bW ⟨t1,t2,t3⟩;have lm1:=cP lm [aI as];have gx:=cO (ay lm1) (oC hb);have F2:Fr st (st++[aI as]++g):=(Fr.app st _).more g;have lL2:=cP (bx st (as.map aj.int)) g;have F2l:=F2.len;have h2l:st.length<(st++[aI as]++g).length:=by rw[Vm,Vm];simp;lia
 obtain⟨s2,q9⟩:∃s,st++[aI as]++g=s:=⟨_,rfl⟩
 rw[q9]at ei F2 lL2 F2l h2l;obtain⟨LA,hLA⟩:∃L:Int,L=(as.length:Int):=⟨_,rfl⟩
 obtain⟨LB,hLB⟩:∃L:Int,L=(bs.length:Int):=⟨_,rfl⟩
 have k1:bc [.loc n] s2=.ok (.int LA) s2:=by rw[aQ (F2.it h1),az,hLA]
 have k2:bc [.loc m] s2=.ok (.int LB) s2:=by rw[aQ (ay (F2 _ _ lm)),az,hLB]
 obtain⟨steps,yt⟩:∃s,s=as.length+1-bs.length:=⟨_,rfl⟩
 have emx:(if LA-LB+1>0 then LA-LB+1 else 0)=(steps:Int):=by split<;>lia
 obtain⟨S,hS⟩:∃S:Int,S=(steps:Int):=⟨_,rfl⟩
 rw[<-hS]at emx;have m1:=rH (st:=s2++[a!.lst [.int 0]]) (n:=s2.length) (us:=[.int 0]) (k:=S) (bx _ _) (by lia) (by lia) (by rw[Vt];simp;lia);rw[AO,show S.toNat=steps by lia]at m1;have F3:Fr s2 (s2++[a!.lst [.int 0]]++[aI (List.replicate steps 0)]):=(Fr.app s2 _).more _;have lK3:=bx (s2++[a!.lst [.int 0]]) ((List.replicate steps 0).map aj.int);have hKl:s2.length<(s2++[a!.lst [.int 0]]).length:=by rw[Vm];simp
 obtain⟨K,hK⟩:∃K,(s2++[a!.lst [.int 0]]).length=K:=⟨_,rfl⟩
 have F3':=F2.trans F3;have lm3:=F3' _ _ lm;have lL3:=F3 _ _ lL2;rw[hK]at m1 lK3 hKl;obtain⟨s3,IE⟩:∃s,s2++[a!.lst [.int 0]]++[aI (List.replicate steps 0)]=s:=⟨_,rfl⟩
 have m1':bX (.loc s2.length) (.int S) (s2++[a!.lst [.int 0]])=.ok (.loc K) s3:=by rw[<-IE];exact m1
 rw[IE]at F3 F3' lK3 lm3 lL3;obtain⟨s4,y7,y8,y9,FE,el,hF4,lQ,lR⟩:=Cu (n:=n) (x5:=some (.int S)) hp ⟨t1,t2⟩ yt hb lm3 lL3 lK3 (by lia) (by lia) (by lia) tR uv;have dw:=Qu (st:=s3) (j:=S-1) (k:=-1) (by lia) (by lia) (by decide) (by decide);rw[show(S-1 - -1).toNat=steps by lia]at dw;rw[<-hS]at el;obtain⟨lq,lr⟩:=jz p t as bs steps steps;have r1:=dH hz (ay lQ) (by rw[lq,Vt];lia);have r2:=dH hz (ay (cP lR [a!.lst ((bT ((dv p t as bs steps steps).1.map (·.fmod p))).map aj.int)])) (by rw[lr,Vt];lia);have hs4:s2.length<=s4.length:=by rw[<-hF4.1];exact F3.len
 refine⟨s4++[aI (b7 p as bs)]++[aI (h! p as bs)],s4.length,(s4++[a!.lst ((bT ((dv p t as bs steps steps).1.map (·.fmod p))).map aj.int)]).length,?_,?_,by lia,by rw[Vm];lia,by rw[Vm];simp,?_,?_⟩
 .unfold b7 h!;rw[et,<-yt];simp only[PM.parted,bC,aq,aF,aS,bg,aD,aM,aE,aC,aw,jT,sY,bJ,bK,gC,bN,aG,av,gY,nj,aA,fR,iU,aP,ba,bf,eO,gZ,fi,aO,aU,aK,Vq,VQ,VI,Vx,VN,VC,Vp,Vr,Nat.reduceSub,Vl,VB,Nat.reduceAdd,Vt,Nat.reduceLeDiff,↓reduceIte,L!,Iq,c1,gx,q9,ei,k1,k2,emx,m1',dw,el,r1,r2]
 .intro a c ha;have:=bF ha;exact cP (cP (hF4.2 a c (by lia) (by lia) (F3' _ _ ha)) _) _
 .unfold b7;rw[et,<-yt];exact cP (bx _ _) _
 .unfold b7 h!;rw[et,<-yt];exact bx _ _
theorem Row.sm(hp:dM p=true)(h:Row p as):Sm as:=λa ha=>by have:=h.ED a ha;have:=au hp;lia
theorem yZ(as bs:_d)(f:Int)(k:Nat):cf (je as bs f) k=cf as k+f*cf bs k:=by
 unfold je;rw[Cs (max as.length bs.length) (λk=>as.getD k 0+f*bs.getD k 0)];split
 .rfl
 .rw[c! (ns:=as) (by lia),c! (ns:=bs) (by lia),Wj];rfl
theorem rP.nil(st:af):rP st [] []:=⟨rfl,λi l R h _=>by simp at h⟩
theorem rP.cons{st:af}{l:Nat}{ls:List Nat}{R:_d}{Rs:List (_d)}(h:st[l]?=some (aI R))(r:rP st ls Rs):rP st (l::ls) (R::Rs):=⟨by rw[Vl,Vl,r.1],λi l' R' h1 h2=>by
 cases i with
 |zero=>cases h1;cases h2;exact h
 |succ i=>exact r.2 i l' R' h1 h2⟩
theorem IF(h:as.length+bs.length<=k+1):mF as (cf bs) k=0:=by rw[<-yW];exact AQ as bs k as.length h
theorem aX(as bs:_d)(k:Nat):cf (bR as bs) k=mF as (cf bs) k:=by
 unfold bR;rw[Cs (as.length+bs.length-1) (λk=>oQ as bs as.length k),yW];split
 .rfl
 .rw[IF (by lia)]
def mT(p:Int)(as bs:_d):_d:=if as=[]\/bs=[] then[]else bT ((bR as bs).map (·.fmod p))
theorem IG(hp:0<p)(as bs:_d):Row p (mT p as bs):=by
 unfold mT;split
 .exact Row.nil p
 .exact Row.of hp _
theorem j!(f:Cf)(k:Nat):mF [] f k=0:=rfl
theorem DY(as:_d)(k:Nat):mF as (cf []) k=0:=by rw[dC];rfl
theorem uH(hp:0<p)(as bs:_d):aR p (cf (mT p as bs)) (mF as (cf bs)):=by
 unfold mT;split
 .rename_i h;rcases h with rfl|rfl
  .exact aR.of_eq λk=>by rw[bZ,j!]
  .exact aR.of_eq λk=>by rw[bZ,DY]
 .exact(Row.cg hp _).trans (aR.of_eq (aX as bs))
theorem qq(p:Int)(as bs:_d):(mT p as bs).length<=as.length+bs.length-1/\(as=[]->(mT p as bs).length=0):=by
 unfold mT;split
 .exact⟨by simp,λ_=>rfl⟩
 .rename_i h;refine⟨?_,λz=>absurd (.inl z) h⟩;refine Wg (gF _) ?_;rw[Vj,xZ];exact Vv _
def iX(p:Int)(as bs:_d):_d:=bT ((je as bs (-1)).map (·.fmod p))
theorem uI(hp:0<p)(as bs:_d):aR p (cf (iX p as bs)) (λk=>cf as k-cf bs k):=(Row.cg hp _).trans (aR.of_eq λk=>by rw[yZ];lia)
theorem qr(p:Int)(as bs:_d):(iX p as bs).length<=max as.length bs.length:=by refine Wg (gF _) ?_;rw[Vj,vD];exact Vv _
def mulR(p f:Int)(as:_d):_d:=bT ((as.map (· * f)).map (·.fmod p))
theorem uJ(hp:0<p)(f:Int)(as:_d):aR p (cf (mulR p f as)) (λk=>f*cf as k):=(Row.cg hp _).trans (aR.of_eq λk=>by rw[pC (· * f) (Wx f),WV])
theorem nJ(p f:Int)(as:_d):(mulR p f as).length<=as.length:=by refine Wg (gF _) ?_;rw[Vj,Vj];exact Vv _
theorem aR.sub{f g f' g':Cf}(h:aR p f g)(h':aR p f' g'):aR p (λk=>f k-f' k) (λk=>g k-g' k):=λk=>by have:=(h k).add (h' k).neg;rw[show f k + -f' k=f k-f' k by lia,show g k + -g' k=g k-g' k by lia]at this;exact this
theorem aR.smul{f g:Cf}(c:Int)(h:aR p f g):aR p (λk=>c*f k) (λk=>c*g k):=λk=>(h k).xg c
theorem Cv(f g:Cf)(as:_d)(k:Nat):mF as (λj=>f j-g j) k=mF as f k-mF as g k:=by have h1:=nI f (λj => -1*g j) as k;rw[vG,bV (g:=λj=>f j-g j) (λj=>by show f j + -1*g j=f j-g j;lia)]at h1;lia
theorem ya{u q:_d}(h:aR p (cf u) (λk=>cf u0 k-mF q (cf u1) k))(A:_d):aR p (mF u (cf A)) (λk=>mF u0 (cf A) k-mF q (mF u1 (cf A)) k):=by refine(aR.of_eq (dC u A)).trans ((h.mF A).trans (aR.of_eq λk=>?_));rw[Cv,dC A u0,kX (cf u1) A q,bV (dC A u1)]
theorem FH{u:_d}(h:aR p (cf u) (λk=>cf u0 k+cf u1 k))(A:_d):aR p (mF u (cf A)) (λk=>mF u0 (cf A) k+mF u1 (cf A) k):=by refine(aR.of_eq (dC u A)).trans ((h.mF A).trans (aR.of_eq λk=>?_));rw[nI,dC A u0,dC A u1]
theorem rQ{c:Int}{u:_d}(h:aR p (cf u) (λk=>c*cf u0 k))(A:_d):aR p (mF u (cf A)) (λk=>c*mF u0 (cf A) k):=by refine(aR.of_eq (dC u A)).trans ((h.mF A).trans (aR.of_eq λk=>?_));rw[vG,dC A u0]
theorem fO(x q A:_d)(k:Nat):mF (bR x q) (cf A) k=mF x (mF q (cf A)) k:=by rw[dC,bV (aX x q),kX (cf q) A x,bV (dC A q)]
theorem y_:∀(as bs:_d),as≠[]->bs≠[]->mF as (cf bs) (as.length-1+(bs.length-1))=aL as*aL bs
 |[],_,h,_=>absurd rfl h
 |[a],bs,_,hb=>by
  show a*cf bs (0+(bs.length-1))+gR (λ_=>0) (0+(bs.length-1))=a*aL bs;rw[VZ];have:gR (λ_=>(0:Int)) (bs.length-1)=0:=by cases bs.length-1<;>rfl
  rw[this,W2];rfl
 |a::a'::as,bs,_,hb=>by have Qw:0<bs.length:=VA.mpr hb;have ih:=y_ (a'::as) bs (by simp) hb;show a*cf bs ((a::a'::as).length-1+(bs.length-1))+gR (mF (a'::as) (cf bs)) ((a::a'::as).length-1+(bs.length-1))=_;rw[show(a::a'::as).length-1+(bs.length-1)=((a'::as).length-1+(bs.length-1))+1 by simp;lia];show a*cf bs _+mF (a'::as) (cf bs) ((a'::as).length-1+(bs.length-1))=_;rw[ih,c! (by simp;lia),Wj,Xa];rfl
theorem Row.last(hp:0<p)(h:Row p as)(hn:as≠[]):0<aL as/\aL as<p:=by have h1:=AU h.cut hn;have h2:=h.vH hp (as.length-1);have e:aL as=cf as (as.length-1):=rfl;rw[e];lia
theorem jW(hp:0<p){r x G:_d}(hr:Row p r)(hG:G≠[])(h1:aL G=1)(hl:r.length<G.length)(h:aR p (cf r) (mF x (cf G))):r=[]:=by
 have hG0:0<G.length:=VA.mpr hG;have hX:=Row.of hp x;have cX:=Row.cg hp x;have h':aR p (cf r) (mF (bT (x.map (·.fmod p))) (cf G)):=h.trans (aR.mFl cX G).symm;revert hX h';generalize bT (x.map (·.fmod p))=X;intro hX h';by_cases hXe:X=[]
 .subst hXe;exact Row.ext hp hr (Row.nil p) (h'.trans (aR.of_eq λk=>by rw[bZ,j!]))
 .exfalso;have t:=y_ X G hXe hG;rw[h1,W3]at t;have q:=h' (X.length-1+(G.length-1));rw[t,c! (by lia)]at q;have e:=Cg.eq hp q;have l:=hX.last hp hXe;rw[c_ (by lia) l.2,c_ (YX _) hp]at e;lia
structure iY(p:Int)(A B:_d)(N:Nat)(g0 u0 v0 g1 u1 v1:_d):Prop where
 r0:Row p g0
 ru0:Row p u0
 rv0:Row p v0
 r1:Row p g1
 ru1:Row p u1
 rv1:Row p v1
 c0:aR p (cf g0) (λk=>mF u0 (cf A) k+mF v0 (cf B) k)
 c1:aR p (cf g1) (λk=>mF u1 (cf A) k+mF v1 (cf B) k)
 ne:g0≠[]\/g1≠[]
 mA:∃x0 x1,aR p (cf A) (λk=>mF x0 (cf g0) k+mF x1 (cf g1) k)
 mB:∃x0 x1,aR p (cf B) (λk=>mF x0 (cf g0) k+mF x1 (cf g1) k)
 QA:u1.length+g0.length<=N
 lv1:v1.length+g0.length<=N
 Ui:u0.length+g1.length<=N
 lv0:v0.length+g1.length<=N
theorem jf(hp:2<=p):Row p [1]:=⟨rfl,λa h=>by rw[Vy.mp h];lia⟩
theorem iY.start(hp:2<=p){A:_d}(hA:Row p A)(hB:Row p B)(hn:A≠[]\/B≠[]):iY p A B (A.length+B.length+1) A [1] [] B [] [1] where
 r0:=hA
 ru0:=jf hp
 rv0:=Row.nil p
 r1:=hB
 ru1:=Row.nil p
 rv1:=jf hp
 c0:=aR.of_eq λk=>by rw[j!,dC];show _=mF A one k+0;rw[fo];lia
 c1:=aR.of_eq λk=>by rw[j!,dC];show _=0+mF B one k;rw[fo];lia
 ne:=hn
 mA:=⟨[1],[],aR.of_eq λk=>by rw[j!,dC];show _=mF A one k+0;rw[fo];lia⟩
 mB:=⟨[],[1],aR.of_eq λk=>by rw[j!,dC];show _=0+mF B one k;rw[fo];lia⟩
 QA:=by simp;lia
 lv1:=by simp;lia
 Ui:=by simp;lia
 lv0:=by simp;lia
theorem comb{C g0 q g1 r x0 x1:_d}(h:aR p (cf C) (λk=>mF x0 (cf g0) k+mF x1 (cf g1) k))(hd:aR p (cf g0) (λk=>mF q (cf g1) k+cf r k)):∃y0 y1,aR p (cf C) (λk=>mF y0 (cf g1) k+mF y1 (cf r) k):=by refine⟨je (bR x0 q) x1 1,x0,h.trans ?_⟩;have e1:aR p (mF x0 (cf g0)) (λk=>mF x0 (mF q (cf g1)) k+mF x0 (cf r) k):=(hd.mF x0).trans (aR.of_eq λk=>by rw[nI]);have e2:aR p (mF (je (bR x0 q) x1 1) (cf g1)) (λk=>mF (bR x0 q) (cf g1) k+mF x1 (cf g1) k):=FH (aR.of_eq λk=>by rw[yZ];lia) g1;refine(aR.add e1 (aR.refl p _)).trans ?_;refine aR.trans ?_ (aR.add e2 (aR.refl p _)).symm;refine aR.of_eq λk=>?_;show mF x0 (mF q (cf g1)) k+mF x0 (cf r) k+mF x1 (cf g1) k=mF (bR x0 q) (cf g1) k+mF x1 (cf g1) k+mF x0 (cf r) k;rw[fO];lia
theorem IH(p:Int)(as bs:_d):(h! p as bs).length<=as.length:=by unfold h!;refine Wg (gF _) ?_;rw[Vj,(jz _ _ _ _ _ _).2];exact Vv _
theorem iY.step(hp:dM p=true){A:_d}{N:Nat}{g0 g1:_d}(h:iY p A B N g0 u0 v0 g1 u1 v1)(hg:g1≠[]):
  iY p A B N g1 u1 v1 (h! p g0 g1) (iX p u0 (mT p (b7 p g0 g1) u1)) (iX p v0 (mT p (b7 p g0 g1) v1)):=by
 have hr:=au hp;have bW:0<p:=by lia
 have hl:¬ aL g1 % p=0:=by have:=h.r1.last bW hg;rw[V? (by lia) this.2];lia
 obtain⟨sq,sr,slt,sc,sl⟩:=fU hp (as:=g0) hg hl;have srl:=IH p g0 g1;obtain⟨Q,hQ⟩:∃Q,b7 p g0 g1=Q:=⟨_,rfl⟩
 obtain⟨R,hR⟩:∃R,h! p g0 g1=R:=⟨_,rfl⟩
 rw[hQ]at sq sc sl⊢;rw[hR]at sr slt sc srl⊢;have cu:aR p (cf (iX p u0 (mT p Q u1))) (λk=>cf u0 k-mF Q (cf u1) k):=(uI bW _ _).trans (aR.sub (aR.refl p _) (uH bW Q u1));have cv:aR p (cf (iX p v0 (mT p Q v1))) (λk=>cf v0 k-mF Q (cf v1) k):=(uI bW _ _).trans (aR.sub (aR.refl p _) (uH bW Q v1));have len:∀(w0 w1:_d),w1.length+g0.length<=N->w0.length+g1.length<=N->(iX p w0 (mT p Q w1)).length+g1.length<=N:=λw0 w1 i1 i2=>by
  have a1:=qr p w0 (mT p Q w1);have a2:=qq p Q w1;by_cases hQe:Q=[]
  .have:=a2.2 hQe;lia
  .have:0<Q.length:=VA.mpr hQe;have:=a2.1;lia
 refine⟨h.r1,h.ru1,h.rv1,sr,Row.of bW _,Row.of bW _,h.c1,?_,.inl hg,?_,?_,len u0 u1 h.QA h.Ui,len v0 v1 h.lv1 h.lv0,?_,?_⟩
 ·-- M9 rest
  have e:aR p (cf R) (λk=>cf g0 k-mF Q (cf g1) k):=λk=>by have:=(sc k).symm.add (Cg.refl p (-(mF Q (cf g1) k)));rw[show mF Q (cf g1) k+cf R k + -mF Q (cf g1) k=cf R k by lia,show cf g0 k + -mF Q (cf g1) k=cf g0 k-mF Q (cf g1) k by lia]at this;exact this
  refine e.trans ((aR.sub h.c0 (h.c1.mF Q)).trans ?_);refine aR.trans ?_ (aR.add (ya cu A) (ya cv B)).symm;refine aR.of_eq λk=>?_;show mF u0 (cf A) k+mF v0 (cf B) k-mF Q (λk=>mF u1 (cf A) k+mF v1 (cf B) k) k=mF u0 (cf A) k-mF Q (mF u1 (cf A)) k+(mF v0 (cf B) k-mF Q (mF v1 (cf B)) k);rw[nI];lia
 .obtain⟨x0,x1,hx⟩:=h.mA;exact comb hx sc
 .obtain⟨x0,x1,hx⟩:=h.mB;exact comb hx sc
 .have:=h.QA;lia
 .have:=h.lv1;lia
theorem qt{t:Int}(hp:2<=p){g:_d}(hg:Row p g)(hn:g≠[])(ht:(t*aL g) % p=1):Row p (mulR p t g)/\mulR p t g≠[]/\aL (mulR p t g)=1/\(mulR p t g).length=g.length:=by
 have bW:0<p:=by lia
 have hg0:0<g.length:=VA.mpr hn;have r:=Row.of bW (g.map (· * t));have c:cf (mulR p t g) (g.length-1)=1:=by unfold mulR;rw[yX,pC _ (by rw[dJ bW];exact XI p),pC (· * t) (Wx t),dJ bW,WV];exact ht
 have l1:=nJ p t g;have l2:¬ (mulR p t g).length<=g.length-1:=λz=>by rw[c! z]at c;lia
 have l:(mulR p t g).length=g.length:=by lia
 refine⟨r,λz=>by rw[z]at l;simp at l;lia,?_,l⟩;show cf (mulR p t g) ((mulR p t g).length-1)=1;rw[l];exact c
theorem iY.done{t:Int}(hp:dM p=true){A:_d}{N:Nat}{g u v:_d}(h:iY p A B N g u v [] u1 v1)(hA:Row p A)(hB:Row p B)(ht:(t*aL g) % p=1):
  Row p (mulR p t g)/\mulR p t g≠[]/\aL (mulR p t g)=1/\aR p (cf A) (mF (b7 p A (mulR p t g)) (cf (mulR p t g)))/\aR p (cf B) (mF (b7 p B (mulR p t g)) (cf (mulR p t g))) /\
   aR p (cf (mulR p t g)) (λk=>mF (mulR p t u) (cf A) k+mF (mulR p t v) (cf B) k):=by
 have hr:=au hp;have bW:0<p:=by lia
 have hg:g≠[]:=by rcases h.ne with z|z;exact z;exact absurd rfl z
 obtain⟨rG,nG,lG,leG⟩:=qt hr.1 h.r0 hg ht;have cG:=uJ bW t g;have hl:¬ aL (mulR p t g) % p=0:=by rw[lG,V? (by lia) (by lia)];lia
 have one:∀C:_d,Row p C->(∃x0 x1,aR p (cf C) (λk=>mF x0 (cf g) k+mF x1 (cf []) k))->aR p (cf C) (mF (b7 p C (mulR p t g)) (cf (mulR p t g))):=λC hC hx=>by
  obtain⟨x0,x1,hx⟩:=hx;obtain⟨sq,sr,slt,sc,sl⟩:=fU hp (as:=C) nG hl
  -- g is a Uj of M9 plain one
  have cg:aR p (cf g) (λk=>aL g*cf (mulR p t g) k):=λk=>by
   have c1:Cg p (t*aL g) 1:=⟨t*aL g / p,by have:=Wc (t*aL g) p;lia⟩
   have c2:=(cG k).xg (aL g);have c3:=c1.AN (cf g k);rw[WQ,show t*aL g*cf g k=aL g*(t*cf g k) by rw[<-Wl,WV (aL g) t]]at c3;exact(c2.trans c3).symm
  have cx:aR p (cf C) (mF (x0.map (aL g * ·)) (cf (mulR p t g))):=by refine hx.trans ?_;have e1:aR p (mF x0 (cf g)) (λk=>aL g*mF x0 (cf (mulR p t g)) k):=(cg.mF x0).trans (aR.of_eq λk=>by rw[vG]);have e2:aR p (mF (x0.map (aL g * ·)) (cf (mulR p t g))) (λk=>aL g*mF x0 (cf (mulR p t g)) k):=rQ (aR.of_eq λk=>by rw[pC (aL g * ·) (Wj _)]) _;refine aR.trans ?_ e2.symm;refine aR.trans ?_ e1;exact aR.of_eq λk=>by show mF x0 (cf g) k+mF x1 (cf []) k=_;rw[DY,W2]
  have cr:aR p (cf (h! p C (mulR p t g))) (mF (je (x0.map (aL g * ·)) (b7 p C (mulR p t g)) (-1)) (cf (mulR p t g))):=by
   have e3:aR p (mF (je (x0.map (aL g * ·)) (b7 p C (mulR p t g)) (-1)) (cf (mulR p t g))) (λk=>mF (x0.map (aL g * ·)) (cf (mulR p t g)) k-mF (b7 p C (mulR p t g)) (cf (mulR p t g)) k):=by refine(aR.of_eq (dC _ _)).trans (aR.of_eq λk=>?_);rw[bV (g:=λj=>cf (x0.map (aL g * ·)) j-cf (b7 p C (mulR p t g)) j) (λj=>by rw[yZ];lia),Cv,dC _ (x0.map _),dC _ (b7 p C _)]
   refine aR.trans (λk=>?_) e3.symm;have:=((sc k).symm.trans (cx k)).add (Cg.refl p (-(mF (b7 p C (mulR p t g)) (cf (mulR p t g)) k)));rw[show mF (b7 p C (mulR p t g)) (cf (mulR p t g)) k+cf (h! p C (mulR p t g)) k + -mF (b7 p C (mulR p t g)) (cf (mulR p t g)) k=cf (h! p C (mulR p t g)) k by lia]at this;show Cg p _ (mF (x0.map (aL g * ·)) (cf (mulR p t g)) k-mF (b7 p C (mulR p t g)) (cf (mulR p t g)) k);rw[show mF (x0.map (aL g * ·)) (cf (mulR p t g)) k-mF (b7 p C (mulR p t g)) (cf (mulR p t g)) k=mF (x0.map (aL g * ·)) (cf (mulR p t g)) k + -mF (b7 p C (mulR p t g)) (cf (mulR p t g)) k by lia];exact this
  have z:=jW bW sr nG lG slt cr;rw[z]at sc;exact sc.trans (aR.of_eq λk=>by show mF _ _ k+cf [] k=_;rw[bZ,W2])
 refine⟨rG,nG,lG,one A hA h.mA,one B hB h.mB,?_⟩;refine cG.trans ((h.c0.smul t).trans ?_);refine aR.trans ?_ (aR.add (rQ (uJ bW t u) A) (rQ (uJ bW t v) B)).symm;exact aR.of_eq λk=>by show t*(mF u (cf A) k+mF v (cf B) k)=_;rw[Xg]
def iO(f:Cf):Cf:=λk=>((k:Int)+1)*f (k+1)
theorem QB(h:Cf)(k:Nat):iO (gR h) k=h k+gR (iO h) k:=by
 unfold iO;cases k with
 |zero=>simp[gR]
 |succ k=>
  show(((k+1:Nat):Int)+1)*h (k+1)=h (k+1)+((k:Int)+1)*h (k+1);rw[Yq,WQ]
  push_cast
  lia
def kY:_d->_d->_d
 |[],bs=>bs
 |a::as,[]=>a::as
 |a::as,b::bs=>(a+b)::kY as bs
theorem jX(g:Cf):∀(as bs:_d)(k:Nat),mF (kY as bs) g k=mF as g k+mF bs g k
 |[],bs,k=>by show mF bs g k=mF [] g k+mF bs g k;rw[j!,Xa]
 |a::as,[],k=>by show mF (a::as) g k=mF (a::as) g k+mF [] g k;rw[j!,W2]
 |a::as,b::bs,k=>by show(a+b)*g k+gR (mF (kY as bs) g) k=(a*g k+gR (mF as g) k)+(b*g k+gR (mF bs g) k);rw[dS (jX g as bs),yU,Yq];lia
theorem qu(g:Cf)(c:Int):∀(as:_d)(k:Nat),mF (as.map (c * ·)) g k=c*mF as g k
 |[],k=>by show(0:Int)=c*0;rw[Wj]
 |a::as,k=>by show(c*a)*g k+gR (mF (as.map (c * ·)) g) k=c*(a*g k+gR (mF as g) k);rw[dS (qu g c as),DV,Xg,Wl]
def dL:_d->_d
 |[]=>[]
 |_::as=>kY as (0::dL as)
theorem AX(g:Cf):∀(as:_d)(k:Nat),iO (mF as g) k=mF as (iO g) k+mF (dL as) g k
 |[],k=>by show((k:Int)+1)*0=0+0;rw[Wj];rfl
 |a::as,k=>by
  have e1:iO (mF (a::as) g) k=a*iO g k+iO (gR (mF as g)) k:=by show((k:Int)+1)*(a*g (k+1)+gR (mF as g) (k+1))=a*(((k:Int)+1)*g (k+1))+((k:Int)+1)*gR (mF as g) (k+1);rw[Xg,<-Wl,<-Wl,WV _ a]
  rw[e1,QB,dS (AX g as),yU];show a*iO g k+(mF as g k+(gR (mF as (iO g)) k+gR (mF (dL as) g) k))=(a*iO g k+gR (mF as (iO g)) k)+mF (kY as (0::dL as)) g k;rw[jX];show _=_+(mF as g k+(0*g k+gR (mF (dL as) g) k));rw[Wx];lia
theorem Mh(c:Int)(f:Cf)(k:Nat):mF [c] f k=c*f k:=by show c*f k+gR (mF [] f) k=_;cases k<;>simp[gR,mF]
theorem aR.iO{f g:Cf}(h:aR p f g):aR p (PG.iO f) (PG.iO g):=λk=>(h (k+1)).xg _
theorem nK(as:_d)(k:Nat):cf (fj as) k=iO (cf as) k:=by
 unfold fj iO cf dY;rw[VD,Vu,Vu];by_cases h:k<as.length-1
 .rw[Wh h];show(1+(k:Int))*as.getD (1+(k:Int)).toNat 0=((k:Int)+1)*as.getD (k+1) 0;rw[show(1+(k:Int)).toNat=k+1 by lia,Int.add_comm]
 .rw[Wa (by rw[VW];lia)];show(0:Int)=((k:Int)+1)*as.getD (k+1) 0;rw[VD,Wa (by lia)];show(0:Int)=((k:Int)+1)*0;rw[Wj]
def Dvd(p:Int)(U:_d)(f:Cf):Prop:=∃x:_d,aR p f (mF x (cf U))
section
variable{f g:Cf}
theorem Dvd.cg(h:Dvd p U f)(e:aR p g f):Dvd p U g:=let⟨x,hx⟩:=h;⟨x,e.trans hx⟩
theorem Dvd.add(h:Dvd p U f)(k:Dvd p U g):Dvd p U (λj=>f j+g j):=by obtain⟨x,hx⟩:=h;obtain⟨y,hy⟩:=k;exact⟨kY x y,(hx.add hy).trans (aR.of_eq λj=>(jX (cf U) x y j).symm)⟩
theorem Dvd.mul(h:Dvd p U f)(y:_d):Dvd p U (mF y f):=by obtain⟨x,hx⟩:=h;exact⟨bR y x,(hx.mF y).trans (aR.of_eq λj=>(fO y x U j).symm)⟩
theorem Dvd.neg(h:Dvd p U f):Dvd p U (λj => -1*f j):=by obtain⟨x,hx⟩:=h;exact⟨x.map ((-1) * ·),(hx.smul (-1)).trans (aR.of_eq λj=>(qu (cf U) (-1) x j).symm)⟩
theorem Dvd.self(y:_d):Dvd p U (mF y (cf U)):=⟨y,aR.refl _ _⟩
theorem Dvd.sub(h:Dvd p U (λj=>f j+g j))(k:Dvd p U g):Dvd p U f:=(h.add k.neg).cg (aR.of_eq λj=>by lia)
end
theorem Mi(hp:0<p){F z:_d}(hF:F≠[])(h1:aL F=1)(h:aR p (mF F (cf z)) (λ_=>0)):aR p (cf z) (λ_=>0):=by
 obtain⟨r,hr⟩:∃r,r=bT (z.map (·.fmod p)):=⟨_,rfl⟩
 have R:Row p r:=by rw[hr];exact Row.of hp z
 have e:aR p (cf r) (cf z):=by rw[hr];exact Row.cg hp z
 by_cases hz:r=[]
 .rw[hz]at e;exact e.symm.trans (aR.of_eq λk=>bZ k)
 .exfalso;have t:=y_ F r hF hz;have c:=((e.mF F).trans h) (F.length-1+(r.length-1))
  rw[t,h1,WQ]at c;have lr:=R.last hp hz;obtain⟨k,hk⟩:=c;have:k=0:=by
   rcases Int.lt_trichotomy k 0 with q|q|q
   .have:=WA (show k<=-1 by lia) (Int.le_of_lt hp);lia
   .exact q
   .have:=WA (show 1<=k by lia) (Int.le_of_lt hp);lia
  rw[this]at hk;lia
theorem y!(hp:0<p){F y z:_d}(hF:F≠[])(h1:aL F=1)(h:aR p (mF F (cf y)) (mF F (cf z))):aR p (cf y) (cf z):=by
 obtain⟨w,hw⟩:∃w,w=kY y (z.map ((-1) * ·)):=⟨_,rfl⟩
 have cw:∀k,cf w k=cf y k-cf z k:=λk=>by have:=jX one y (z.map ((-1) * ·)) k;rw[qu,fo,fo,fo,<-hw]at this;rw[this];lia
 have h0:aR p (mF F (cf w)) (λ_=>0):=by refine(aR.of_eq (bV cw F)).trans ((aR.of_eq λk=>Cv (cf y) (cf z) F k).trans ?_);exact(h.sub (aR.refl p (mF F (cf z)))).trans (aR.of_eq λk=>by lia)
 have e:=Mi hp hF h1 h0;intro k;have:=e k;rw[cw]at this;obtain⟨j,hj⟩:=this;have hj:cf y k-cf z k=0+p*j:=hj;exact⟨j,by lia⟩
theorem II{f S W:_d}(h1:aR p (cf f) (mF S (cf U)))(h2:aR p (iO (cf f)) (mF W (cf U))):Dvd p U (mF S (iO (cf U))):=by have e:aR p (mF W (cf U)) (λk=>mF S (iO (cf U)) k+mF (dL S) (cf U) k):=h2.symm.trans (h1.iO.trans (aR.of_eq λk=>AX (cf U) S k));exact Dvd.sub ((Dvd.self W).cg e.symm) (Dvd.self (dL S))
theorem aR.mFL{RA:_d}(h:aR p (cf as) (cf RA))(z:_d):aR p (PG.mF as (cf z)) (PG.mF RA (cf z)):=h.mFl z
theorem Mj(hp:0<p){S F P V a b:_d}(hF:F≠[])(l1:aL F=1)(hS:aR p (cf S) (mF P (cf F)))(hU:aR p (cf U) (mF V (cf F)))(hB:aR p (cf F) (λk=>mF a (cf S) k+mF b (cf U) k))(h:Dvd p U (mF S (iO (cf U)))):Dvd p V (mF F (iO (cf V))):=by
 obtain⟨D,hD⟩:∃D,D=fj V:=⟨_,rfl⟩
 have cD:∀k,cf D k=iO (cf V) k:=λk=>by rw[hD];exact nK V k
 -- U is F times V,and aN Uk
 have hU':aR p (cf U) (mF F (cf V)):=hU.trans (aR.of_eq λk=>dC V F k);have hd:aR p (iO (cf U)) (λk=>mF F (cf D) k+mF (dL F) (cf V) k):=hU'.iO.trans (aR.of_eq λk=>by rw[AX,bV cD]);obtain⟨E,hE⟩:∃E,E=kY (bR F D) (bR (dL F) V):=⟨_,rfl⟩
 have cE:∀k,cf E k=mF F (cf D) k+mF (dL F) (cf V) k:=λk=>by have:=jX one (bR F D) (bR (dL F) V) k;rw[fo,fo,fo,<-hE,aX,aX]at this;exact this
 have hdE:aR p (iO (cf U)) (cf E):=hd.trans (aR.of_eq λk=>(cE k).symm);obtain⟨x,hx⟩:=h
 -- F times (P times E) is F times (x times V)
 have hSP:aR p (cf S) (cf (bR P F)):=hS.trans (aR.of_eq λk=>(aX P F k).symm);have e1:aR p (mF S (iO (cf U))) (mF F (cf (bR P E))):=by refine(hdE.mF S).trans ((hSP.mFL E).trans (aR.of_eq λk=>?_));rw[fO P F E,kX (cf E) P F,bV (λj=>(aX P E j).symm) F]
 have e2:aR p (mF x (cf U)) (mF F (cf (bR x V))):=by refine(hU'.mF x).trans (aR.of_eq λk=>?_);rw[kX (cf V) x F,bV (λj=>(aX x V j).symm) F]
 have e3:aR p (cf (bR P E)) (cf (bR x V)):=y! hp hF l1 (e1.symm.trans (hx.trans e2))
 -- so V divides P times F times V's Uk
 have e4:aR p (λk=>mF P (mF F (cf D)) k+mF P (mF (dL F) (cf V)) k) (mF x (cf V)):=by refine aR.trans (aR.of_eq λk=>?_) (e3.trans (aR.of_eq λk=>aX x V k));rw[aX,bV cE P,nI]
 have d1:Dvd p V (mF P (mF F (cf D))):=Dvd.sub ((Dvd.self x).cg e4) ((Dvd.self (dL F)).mul P)
 -- one of P and V
 have e5:aR p (cf [1]) (cf (kY (bR a P) (bR b V))):=by
  refine y! hp hF l1 ?_;have q:aR p (cf F) (λk=>mF a (mF P (cf F)) k+mF b (mF V (cf F)) k):=hB.trans ((hS.mF a).add (hU.mF b));refine aR.trans (aR.of_eq λk=>dC F [1] k) (aR.trans (aR.of_eq λk=>?_) (q.trans (aR.of_eq λk=>?_)))
  .rw[Mh,WQ]
  .rw[dC F,jX,fO,fO]
 have e6:aR p (mF F (cf D)) (λk=>mF a (mF P (mF F (cf D))) k+mF b (mF V (mF F (cf D))) k):=by
  obtain⟨Z,hZ⟩:∃Z,Z=bR F D:=⟨_,rfl⟩
  have cZ:∀k,cf Z k=mF F (cf D) k:=λk=>by rw[hZ];exact aX F D k
  have q:=e5.mFL Z;refine aR.trans (aR.of_eq λk=>?_) (q.trans (aR.of_eq λk=>?_))
  .rw[<-cZ,Mh,WQ]
  .rw[jX,fO,fO];have c1:∀(y:_d)(j:Nat),mF y (cf Z) j=mF y (mF F (cf D)) j:=λy j=>bV cZ y j;rw[bV (c1 P) a,bV (c1 V) b]
 have d2:Dvd p V (mF V (mF F (cf D))):=by refine⟨bR F D,aR.of_eq λk=>?_⟩;rw[fO F D V,kX (cf D) V F];exact bV (λj=>dC V D j) F k
 have d3:=(d1.mul a).add (d2.mul b);exact(d3.cg e6).cg (aR.of_eq λk=>(bV cD F k).symm)
theorem QC{c:Int}(hp:dM p=true)(hU:Row p U)(nU:U≠[])(l1:aL U=1)(hc:¬ c % p=0)(h:Dvd p U (mF [c] (iO (cf U)))):((U.length:Int)-1) % p=0:=by
 have hr:=au hp;have bW:0<p:=by lia
 obtain⟨_,t,_,_,_,ht⟩:=fN hp hc [];obtain⟨r,hrr⟩:∃r,r=bT ((fj U).map (·.fmod p)):=⟨_,rfl⟩
 have R:Row p r:=by rw[hrr];exact Row.of bW _
 have cr:aR p (cf r) (iO (cf U)):=by rw[hrr];exact(Row.cg bW _).trans (aR.of_eq (nK U))
 have lu:0<U.length:=VA.mpr nU;have lr:r.length<U.length:=by
  have h1:=gF ((fj U).map (·.fmod p));have h2:(fj U).length=U.length-1:=by unfold fj dY;rw[Vj,Vj,VW]
  rw[<-hrr,Vj]at h1;lia
 obtain⟨x,hx⟩:=h;have e1:aR p (λk=>t*(c*iO (cf U) k)) (mF (x.map (t * ·)) (cf U)):=(aR.smul t (aR.trans (aR.of_eq λk=>(Mh c (iO (cf U)) k).symm) hx)).trans (aR.of_eq λk=>(qu (cf U) t x k).symm);have e2:aR p (iO (cf U)) (λk=>t*(c*iO (cf U) k)):=λk=>by
  have q:Cg p (t*c) 1:=⟨(t*c) / p,by have:=Wc (t*c) p;lia⟩
  have:=q.AN (iO (cf U) k);rw[WQ,Wl]at this;exact this.symm
 have rn:=jW bW R nU l1 lr (cr.trans (e2.trans e1));rw[rn]at cr;by_cases hU1:U.length=1
 .rw[hU1];rfl
 .have q:=cr (U.length-2);rw[bZ]at q;have e3:iO (cf U) (U.length-2)=((U.length:Int)-1)*aL U:=by show(((U.length-2:Nat):Int)+1)*cf U (U.length-2+1)=_;rw[show U.length-2+1=U.length-1 by lia];have:cf U (U.length-1)=aL U:=rfl;rw[this,show(((U.length-2:Nat):Int)+1)=(U.length:Int)-1 by lia]
  rw[e3,l1,W3]at q;obtain⟨k,hk⟩:=q;have:(U.length:Int)-1=p*(-k):=by rw[X6];lia
  rw[this];exact Int.mul_emod_right p (-k)
end PG
namespace SA
section
variable{R:Type}[Lean.Grind.CommRing R]{d:R->R}
theorem Ul(dm:∀a b,d (a*b)=d a*b+a*d b){S D S1 z T U W V c a b:R}(hS:S=D*S1)(hz:d S=D*z)(hT:T*U=S*d U)(hb:a*D+b*T=1)(hW:D*d W=c*W*d D)(hU:U=W*V)(cn:∀x y:R,W*x=W*y->x=y):∃V',V=D*V':=by
 have h1:T*V=D*(c*(z-d S1)*V+S1*d V):=by
  apply cn;have e1:d S=d D*S1+D*d S1:=by rw[hS,dm]
  have e2:d U=d W*V+W*d V:=by rw[hU,dm]
  grind
 exact⟨a*V+b*(c*(z-d S1)*V+S1*d V),by grind⟩
theorem aa9(dm:∀a b,d (a*b)=d a*b+a*d b){D W c:R}(hW:D*d W=c*W*d D):D*d (D*W)=(1+c)*(D*W)*d D:=by rw[dm];grind
end
section
variable{R:Type}[Lean.Grind.CommRing R]{d:R->R}
def dc(a b:R):Prop:=∃x y,x*a+y*b=1
theorem dc.symm{a b:R}(h:dc a b):dc b a:=by obtain⟨x,y,h⟩:=h;exact⟨y,x,by grind⟩
theorem dc.mul{a b c:R}(h:dc a b)(k:dc a c):dc a (b*c):=by obtain⟨x,y,h⟩:=h;obtain⟨z,w,k⟩:=k;exact⟨x*z*a+x*w*c+y*b*z,y*w,by grind⟩
theorem dc.QD{a b c:R}(h:dc a (b*c)):dc a b:=by obtain⟨x,y,h⟩:=h;exact⟨x,y*c,by grind⟩
theorem dc.one{a:R}:dc a 1:=⟨0,1,by grind⟩
theorem y?(dm:∀a b,d (a*b)=d a*b+a*d b){P F:R}(h:dc (P*F) (d (P*F))):dc P F/\dc P (d P)/\dc F (d F):=by obtain⟨x,y,h⟩:=h;rw[dm]at h;exact⟨⟨x*F+y*d F,y*d P,by grind⟩,⟨x*F+y*d F,y*F,by grind⟩,⟨x*P+y*d P,y*P,by grind⟩⟩
theorem zd{a b c x y:R}(h:dc a b)(h1:a=c*x)(h2:b=c*y):∃z,c*z=1:=by obtain⟨u,v,h⟩:=h;exact⟨u*x+v*y,by grind⟩
theorem IJ{P F U S a b:R}(hS:S=P*F)(hF:F=a*S+b*U)(hPF:dc P F):dc P U:=by obtain⟨x,y,h⟩:=hPF;exact⟨x+y*a*F,y*b,by grind⟩
end
end SA
namespace PG
open PySem.Spec L2 MN
open PyProof.Rows hiding St kindOf
def Um(p:Int):Setoid (_d):=⟨λa b=>aR p (cf a) (cf b),⟨λa=>aR.refl p _,λh=>h.symm,λh k=>h.trans k⟩⟩
def ah(p:Int):Type:=Quotient (Um p)
def ak(a:_d):ah p:=Quotient.mk (Um p) a
theorem mk_eq{a b:_d}(h:aR p (cf a) (cf b)):(ak a:ah p)=ak b:=Quotient.sound h
theorem qv{a b:_d}(h:(ak a:ah p)=ak b):aR p (cf a) (cf b):=Quotient.exact h
theorem cC{P:ah p->Prop}(h:∀a,P (ak a)):∀x,P x:=λx=>Quotient.inductionOn x h
theorem b?(a b:_d)(k:Nat):cf (kY a b) k=cf a k+cf b k:=by rw[<-fo (kY a b) k,jX,fo,fo]
theorem g9(c:Int)(a:_d)(k:Nat):cf (a.map (c * ·)) k=c*cf a k:=by rw[<-fo (a.map (c * ·)) k,qu,fo]
instance:Add (ah p):=⟨λx y=>Quotient.liftOn₂ x y (λa b=>ak (kY a b)) λa b a' b' h k=>mk_eq (((aR.of_eq (b? a b)).trans (aR.add h k)).trans (aR.of_eq (b? a' b')).symm)⟩
theorem Uo{a b a' b':_d}(h:aR p (cf a) (cf a'))(k:aR p (cf b) (cf b')):aR p (cf (bR a b)) (cf (bR a' b')):=
 ((aR.of_eq (aX a b)).trans ((k.mF a).trans (h.mFl b'))).trans (aR.of_eq (aX a' b')).symm
instance:Mul (ah p):=⟨λx y=>Quotient.liftOn₂ x y (λa b=>ak (bR a b)) λa b a' b' h k=>mk_eq (Uo h k)⟩
instance:Neg (ah p):=⟨λx=>Quotient.liftOn x (λa=>ak (a.map (-1 * ·))) λa b h=>mk_eq (((aR.of_eq (g9 (-1) a)).trans (h.smul (-1))).trans (aR.of_eq (g9 (-1) b)).symm)⟩
instance:Sub (ah p):=⟨λx y=>x + -y⟩
instance:NatCast (ah p):=⟨λn=>ak [(n:Int)]⟩
instance (n:Nat):OfNat (ah p) n:=⟨ak [(n:Int)]⟩
instance:IntCast (ah p):=⟨λn=>ak [n]⟩
instance:SMul Nat (ah p):=⟨λn x=>ak [(n:Int)]*x⟩
instance:SMul Int (ah p):=⟨λn x=>ak [n]*x⟩
def Uq(x:ah p):Nat->ah p
 |0=>ak [1]
 |n+1=>Uq x n*x
instance:HPow (ah p) Nat (ah p):=⟨Uq⟩
theorem pE(a b:_d):(ak a:ah p)+ak b=ak (kY a b):=rfl
theorem vJ(a b:_d):(ak a:ah p)*ak b=ak (bR a b):=rfl
theorem IK(a:_d):-(ak a:ah p)=ak (a.map (-1 * ·)):=rfl
theorem eY{a b:_d}(h:∀k,cf a k=cf b k):(ak a:ah p)=ak b:=mk_eq (aR.of_eq h)
theorem gM(c:Int)(k:Nat):cf [c] k=c*one k:=by
 cases k with
 |zero=>show c=c*1;lia
 |succ k=>rw[bG,bZ];show 0=c*cf [1] (k+1);rw[bG,bZ,Wj]
theorem ph(c:Int)(f:Cf)(k:Nat):mF [c] f k=c*f k:=Mh c f k
theorem bH(x y:ah p):x*y=y*x:=by revert x;refine cC λa=>?_;revert y;refine cC λb=>?_;rw[vJ,vJ];exact eY λk=>by rw[aX,aX,dC]
theorem AY(x y:ah p):x+y=y+x:=by revert x;refine cC λa=>?_;revert y;refine cC λb=>?_;exact eY λk=>by rw[b?,b?];lia
theorem zg(x y z:ah p):x+y+z=x+(y+z):=by revert x;refine cC λa=>?_;revert y;refine cC λb=>?_;revert z;refine cC λc=>?_;exact eY λk=>by rw[b?,b?,b?,b?];lia
theorem cF(x y z:ah p):x*y*z=x*(y*z):=by
 revert x;refine cC λa=>?_;revert y;refine cC λb=>?_;revert z;refine cC λc=>?_;exact eY λk=>by rw[aX,aX,fO];exact bV (λj=>(aX b c j).symm) a k
theorem vK(x y z:ah p):x*(y+z)=x*y+x*z:=by
 revert x;refine cC λa=>?_;revert y;refine cC λb=>?_;revert z;refine cC λc=>?_;exact eY λk=>by rw[aX,b?,aX,aX,<-nI];exact bV (λj=>b? b c j) a k
theorem vL(x:ah p):(ak [1]:ah p)*x=x:=by revert x;refine cC λa=>?_;exact eY λk=>by rw[aX,ph,WQ]
theorem iG(k:Nat):cf [0] k=0:=by rw[gM,Wx]
theorem tm(x:ah p):(ak [0]:ah p)*x=ak [0]:=by revert x;refine cC λa=>?_;exact eY λk=>by rw[aX,ph,Wx,iG]
theorem AZ(x:ah p):x+(ak [0]:ah p)=x:=by revert x;refine cC λa=>?_;exact eY λk=>by rw[b?,iG,W2]
theorem jg(a b:Int):(ak [a+b]:ah p)=ak [a]+ak [b]:=eY λk=>by rw[b?,gM,gM,gM,Yq]
instance:Lean.Grind.CommRing (ah p) where
 natCast:=inferInstance
 ofNat:=inferInstance
 nsmul:=inferInstance
 npow:=inferInstance
 add_zero:=AZ
 add_comm:=AY
 add_assoc:=zg
 mul_assoc:=cF
 mul_one x:=(bH _ _).trans (vL x)
 one_mul:=vL
 left_distrib:=vK
 right_distrib x y z:=by rw[bH,vK,bH z x,bH z y]
 zero_mul:=tm
 mul_zero x:=(bH _ _).trans (tm x)
 pow_zero _:=rfl
 pow_succ _ _:=rfl
 ofNat_succ n:=jg n 1
 neg_add_cancel x:=by revert x;refine cC λa=>?_;exact eY λk=>by rw[b?,g9];show _=cf [0] k;rw[iG];lia
 sub_eq_add_neg _ _:=rfl
 intCast:=inferInstance
 zsmul:=inferInstance
 neg_zsmul i x:=by
  revert x;refine cC λa=>?_;exact eY λk=>by rw[g9,aX,aX,ph,ph,X5,X5,WQ]
 intCast_neg i:=eY λk=>by rw[g9,gM,gM,X5,X5,WQ]
 mul_comm:=bH
theorem A0(a:_d)(k:Nat):cf (dL a) k=iO (cf a) k:=by
 have h:=AX one a k;have z:∀j,iO one j=0:=λj=>by show((j:Int)+1)*cf [1] (j+1)=0;rw[bG,bZ,Wj]
 have e1:iO (mF a one) k=iO (cf a) k:=by show((k:Int)+1)*mF a one (k+1)=((k:Int)+1)*cf a (k+1);rw[fo]
 have e2:mF a (iO one) k=0:=by rw[bV (g:=cf []) (λj=>by rw[z,bZ]) a k,dC];rfl
 rw[e1,e2,fo]at h;lia
def dP(x:ah p):ah p:=Quotient.liftOn x (λa=>ak (dL a)) λa b h=>mk_eq (((aR.of_eq (A0 a)).trans (aR.iO h)).trans (aR.of_eq (A0 b)).symm)
theorem kZ(x y:ah p):dP (x*y)=dP x*y+x*dP y:=by
 revert x;refine cC λa=>?_;revert y;refine cC λb=>?_;refine eY λk=>?_;rw[A0,b?,aX,aX];have e:iO (cf (bR a b)) k=iO (mF a (cf b)) k:=by show((k:Int)+1)*cf (bR a b) (k+1)=((k:Int)+1)*mF a (cf b) (k+1);rw[aX]
 rw[e,AX,bV (λj=>(A0 b j).symm) a k];lia
theorem IL(a:_d):dP (ak a:ah p)=ak (fj a):=eY λk=>by rw[A0,nK]
theorem at2{x z:aj}{r:List aj}:L2.mX (x::y::z::r) 2=some z:=L2.i? (xs:=x::y::z::r) (j:=2) rfl
theorem at3{x z w:aj}{r:List aj}:L2.mX (x::y::z::w::r) 3=some w:=L2.i? (xs:=x::y::z::w::r) (j:=3) rfl
theorem at4{x z w:aj}{r:List aj}:L2.mX (x::y::z::w::v::r) 4=some v:=L2.i? (xs:=x::y::z::w::v::r) (j:=4) rfl
theorem jA(hp:dM p=true){n:Nat}{st:af}(l1:st[n]?=some (aI as))(l2:st[m]?=some (aI bs))(ha:Row p as)(tR:as.length<=100000)(uv:bs.length<=100000):
  ∃aH k,PM.dB [.int p,.loc n,.loc m] st=.ok (.loc k) aH/\Fr st aH/\st.length<=k/\aH[k]?=some (aI (mT p as bs)):=by
 obtain⟨g,k,e,o,l⟩:=vF (iu hp) (ay l1) (ay l2) tR uv (ha.sm hp);exact⟨st++g,k,e,Fr.app _ _,o,l⟩
theorem k_(hp:dM p=true){n:Nat}{st:af}(l1:st[n]?=some (aI as))(l2:st[m]?=some (aI bs))(tR:as.length<=100000)(uv:bs.length<=100000):
  ∃aH k,PM.bB [.int p,.loc n,.loc m,.int (-1)] st=.ok (.loc k) aH/\Fr st aH/\st.length<=k/\aH[k]?=some (aI (iX p as bs)):=by
 obtain⟨g,k,e,o,l⟩:=nF (f:=-1) (iu hp) (ay l1) (ay l2) tR uv (by decide) (by decide);exact⟨st++g,k,e,Fr.app _ _,o,l⟩
theorem k!(hp:dM p=true)(t:Int){n:Nat}{st:af}(l1:st[n]?=some (aI as))(ha:Row p as)(tR:as.length<=100000):
  ∃aH k,PM.dO [.int p,.loc n,.int t] st=.ok (.loc k) aH/\Fr st aH/\st.length<=k/\aH[k]?=some (aI (mulR p t as)):=by
 obtain⟨g,k,e,o,l⟩:=tY (f:=t) (iu hp) (ay l1) tR (ha.sm hp);exact⟨st++g,k,e,Fr.app _ _,o,l⟩
theorem FJ(hp:dM p=true){A:_d}{N:Nat}{g0 g1:_d}(h:iY p A B N g0 u0 v0 g1 u1 v1)(hN:N<=50000)(hg:g1≠[]){a0 a1 a2 b0 b1 b2:Nat}{st:af}(Ur:st[a0]?=some (aI g0))(RE:st[a1]?=some (aI u0))(la2:st[a2]?=some (aI v0))(RF:st[b0]?=some (aI g1))(lb1:st[b1]?=some (aI u1))(lb2:st[b2]?=some (aI v1)):
  ∃aH c0 c1 c2,PM.gm [.int p,.tup [.loc a0,.loc a1,.loc a2],.tup [.loc b0,.loc b1,.loc b2]] st=.ok (.tup [.loc c0,.loc c1,.loc c2]) aH/\Fr st aH /\
   aH[c0]?=some (aI (h! p g0 g1))/\aH[c1]?=some (aI (iX p u0 (mT p (b7 p g0 g1) u1)))/\aH[c2]?=some (aI (iX p v0 (mT p (b7 p g0 g1) v1))):=by
 have hr:=au hp;have bW:0<p:=by lia
 have hl:¬ aL g1 % p=0:=by have:=h.r1.last bW hg;rw[V? (by lia) this.2];lia
 have i1:=h.QA;have i2:=h.lv1;have i3:=h.Ui;have i4:=h.lv0;obtain⟨s1,k1,k2,e1,F1,_,_,_,m1,m2⟩:=gn hp (ay Ur) RF hg hl (by lia) (by lia);obtain⟨sq,sr,slt,sc,sl⟩:=fU hp (as:=g0) hg hl;obtain⟨s2,t1,e2,F2,_,n1⟩:=jA hp m1 (F1 _ _ lb1) sq (by lia) (by lia);obtain⟨s3,t2,e3,F3,_,n2⟩:=jA hp (F2 _ _ m1) (F2 _ _ (F1 _ _ lb2)) sq (by lia) (by lia);have q1:=(qq p (b7 p g0 g1) u1).1;have q2:=(qq p (b7 p g0 g1) v1).1;have hc:dX (λ_=>True) (aB 0) bI (ao PM.dB (aa cT (aa (ai bS dz dE) (aa (ai bS bP bq) ag)))) [.int 1,.int 2] [qn, some (.tup [.loc b0,.loc b1,.loc b2]), some (.tup [.loc k1,.loc k2]), qI p] s1 []=.ok [.loc t1,.loc t2] s3:=by
  rw[x! (u:=.int 1) (y:=.loc t1) (τ1:=[some (.int 1),some (.tup [.loc b0,.loc b1,.loc b2]),some (.tup [.loc k1,.loc k2]),some (.int p)]) (st1:=s2) trivial rfl (by simp only[aq,aD,aM,aE,aC,aw,bN,aG,av,aA,aO,gf,aK,bD tX,bD Bz,e2]),
   x! (u:=.int 2) (y:=.loc t2) (τ1:=[some (.int 2),some (.tup [.loc b0,.loc b1,.loc b2]),some (.tup [.loc k1,.loc k2]),some (.int p)]) (st1:=s3) trivial rfl (by simp only[aq,aD,aM,aE,aC,aw,bN,aG,av,aA,aO,gf,aK,bD tX,bD at2,e3]),rO trivial]
  rfl
 have gH:iS 1 [2,3,0] [qI p, some (.tup [.loc a0,.loc a1,.loc a2]), some (.tup [.loc b0,.loc b1,.loc b2]), some (.tup [.loc k1,.loc k2]), qn]=[qn, some (.tup [.loc b0,.loc b1,.loc b2]), some (.tup [.loc k1,.loc k2]), qI p]:=rfl;have F13:=F1.trans (F2.trans F3);have F4:=Fr.app s3 [a!.lst [.loc t1,.loc t2]];have lt:=cJ s3 [.loc t1,.loc t2];obtain⟨s4,hs4⟩:∃s,s3++[a!.lst [.loc t1,.loc t2]]=s:=⟨_,rfl⟩
 obtain⟨k4,hk4⟩:∃k,s3.length=k:=⟨_,rfl⟩
 rw[hs4]at F4 lt;rw[hk4]at lt;obtain⟨s5,c1,e5,F5,_,x1⟩:=k_ hp (F4 _ _ (F13 _ _ RE)) (F4 _ _ (F3 _ _ n1)) (by lia) (by lia);obtain⟨s6,c2,e6,F6,_,x2⟩:=k_ hp (F5 _ _ (F4 _ _ (F13 _ _ la2))) (F5 _ _ (F4 _ _ n2)) (by lia) (by lia);have g1':=cO lt (tX (x:=.loc t1) (r:=[.loc t2]));have g2':=cO (F5.it lt) (Bz (x:=.loc t1) (y:=.loc t2) (r:=[]));refine⟨s6,k2,c1,c2,?_,F13.trans (F4.trans (F5.trans F6)),F6 _ _ (F5 _ _ (F4 _ _ (F3 _ _ (F2 _ _ m2)))),F6 _ _ x1,x2⟩;simp only[PM.gm,bC,aq,aF,aS,bg,aD,aM,aE,aC,aw,jT,bJ,bK,ie,fX,bN,aG,av,gY,aA,fR,iU,aP,ba,bf,d6,ej,Ft,aO,gf,aU,aK,Vq,VQ,VI,Vx,VN,VC,Vp,Vr,Nat.reduceSub,Vl,VB,Nat.reduceAdd,Vt,Nat.reduceLeDiff,↓reduceIte,bD tX,bD Bz,bD at2,e1,gH,hc,hs4,hk4,g1',e5,g2',e6]
abbrev QE:MT:=f9 (ai vf (ao bc (aa (ai bS ff dE) ag)) dE)
abbrev QF:MB:=ax (aJ 5 (ao PM.gm (aa bq (aa cT (aa ff ag))))) (ax (aJ 3 ff) (aJ 4 iP))
def rW(a b c:Nat):Option aj:=some (.tup [.loc a,.loc b,.loc c])
def aa_(μ:MN.Env)(s:af):Nat:=match(μ[4]?:Option (Option aj)) with
 |some (some (.tup (.loc k::_)))=>fT k s
 |_=>0
structure A1(p:Int)(A B:_d)(N:Nat)(n m:Nat)(st:af)(μ:MN.Env)(s:af)(a0 a1 a2 b0 b1 b2:Nat)(g0 u0 v0 g1 u1 v1:_d):Prop where
 env:∃x5,μ=[some (.int p),some (.loc n),some (.loc m),rW a0 a1 a2,rW b0 b1 b2,x5,none,none,none,none]
 fr:Fr st s
 inv:iY p A B N g0 u0 v0 g1 u1 v1
 Ur:s[a0]?=some (aI g0)
 RE:s[a1]?=some (aI u0)
 la2:s[a2]?=some (aI v0)
 RF:s[b0]?=some (aI g1)
 lb1:s[b1]?=some (aI u1)
 lb2:s[b2]?=some (aI v1)
theorem IM(hp:dM p=true){A:_d}{N n:Nat}(hN:N<=50000){st:af}{μ:MN.Env}{s:af}{a0 a1 a2 b0 b1 b2:Nat}{g0 g1:_d}(h:A1 p A B N n m st μ s a0 a1 a2 b0 b1 b2 g0 u0 v0 g1 u1 v1):
  ∃μ' s' a0 a1 a2 b0 b1 b2 g u v u1 v1,cm QE QF μ s=.nx μ' s'/\A1 p A B N n m st μ' s' a0 a1 a2 b0 b1 b2 g u v [] u1 v1:=by
 obtain⟨μ',s',e,a0,a1,a2,b0,b1,b2,g,u,v,u1,v1,hq⟩:=fK (t:=QE) (body:=QF)
  (λμ s=>∃a0 a1 a2 b0 b1 b2 g0 u0 v0 g1 u1 v1,A1 p A B N n m st μ s a0 a1 a2 b0 b1 b2 g0 u0 v0 g1 u1 v1) aa_
  (λμ s=>∃a0 a1 a2 b0 b1 b2 g u v u1 v1,A1 p A B N n m st μ s a0 a1 a2 b0 b1 b2 g u v [] u1 v1)
  (by
   rintro μ s ⟨a0,a1,a2,b0,b1,b2,g0,u0,v0,g1,u1,v1,h⟩;obtain⟨x5,rfl⟩:=h.env;obtain⟨L,hL⟩:∃L:Int,L=(g1.length:Int):=⟨_,rfl⟩
   have kl:bc [.loc b0] s=.ok (.int L) s:=by rw[aQ (ay h.RF),az,hL]
   by_cases hg:g1=[]
   .subst hg;have h0:decide ((0:Int)<L)=false:=V2 (by rw[hL];simp);refine .inl ⟨s,?_,a0,a1,a2,b0,b1,b2,g0,u0,v0,u1,v1,h⟩;simp only[rW,aq,aD,aM,aE,aC,aw,bN,bo,bh,aG,av,aA,gq,gf,aK,bD tX,kl,h0]
   .have hg0:0<g1.length:=VA.mpr hg;have h0:decide ((0:Int)<L)=true:=V7 (by lia);obtain⟨s',c0,c1,c2,e,F,l0,l1,l2⟩:=FJ hp h.inv hN hg h.Ur h.RE h.la2 h.RF h.lb1 h.lb2;have hl:¬ aL g1 % p=0:=by have:=h.inv.r1.last (by have:=au hp;lia) hg;rw[V? (by lia) this.2];lia
    have slt:=(fU hp (as:=g0) hg hl).2.2.1;refine .inr ⟨s,[some (.int p),some (.loc n),some (.loc m),rW b0 b1 b2,rW c0 c1 c2,rW c0 c1 c2,none,none,none,none],s',?_,.inl ?_,⟨b0,b1,b2,c0,c1,c2,g1,u1,v1,_,_,_,⟨_,rfl⟩,h.fr.trans F,h.inv.step hp hg,F _ _ h.RF,F _ _ h.lb1,F _ _ h.lb2,l0,l1,l2⟩,?_⟩
    .simp only[rW,aq,aD,aM,aE,aC,aw,bN,bo,bh,aG,av,aA,gq,gf,aK,bD tX,kl,h0]
    .simp only[rW,aq,aF,aS,aC,aw,bK,aG,av,aA,aP,bf,aO,gf,aK,Vp,Vr,e]
    .show fT c0 s'<fT b0 s;unfold fT;rw[ay l0,ay h.RF];show((h! p g0 g1).map aj.int).length<(g1.map aj.int).length;rw[az,az];exact slt)
  μ s ⟨a0,a1,a2,b0,b1,b2,g0,u0,v0,g1,u1,v1,h⟩
 exact⟨μ',s',a0,a1,a2,b0,b1,b2,g,u,v,u1,v1,e,hq⟩
structure vM(p:Int)(A B G S T U V:_d):Prop where
 rG:Row p G
 rS:Row p S
 rT:Row p T
 rU:Row p U
 rV:Row p V
 nG:G≠[]
 lG:aL G=1
 cA:aR p (cf A) (mF S (cf G))
 cB:aR p (cf B) (mF T (cf G))
 cG:aR p (cf G) (λk=>mF U (cf A) k+mF V (cf B) k)
 abN:G.length<=50000/\S.length<=50000/\T.length<=50000/\U.length<=50000/\V.length<=50000
theorem QG(hp:dM p=true){n:Nat}{A:_d}{st:af}(ln:st[n]?=some (aI A))(lm:st[m]?=some (aI B))(hA:Row p A)(hB:Row p B)(hn:A≠[]\/B≠[])(tR:A.length<=5000)(uv:B.length<=5000):
  ∃aH k1 k2 k3 k4 k5 G S T U V,PM.met [.int p,.loc n,.loc m] st=.ok (.tup [.loc k1,.loc k2,.loc k3,.loc k4,.loc k5]) aH/\Fr st aH/\vM p A B G S T U V/\rP aH [k1,k2,k3,k4,k5] [G,S,T,U,V]/\[k1,k2,k3,k4,k5].Nodup/\(∀k∈[k1,k2,k3,k4,k5],st.length<=k):=by
 have hr:=au hp;have bW:0<p:=by lia
 have l1:=cP (cP (cP (bx st [.int 1]) [a!.lst []]) [a!.lst []]) [a!.lst [.int 1]];have l2:=cP (cP (bx (st++[a!.lst [.int 1]]) []) [a!.lst []]) [a!.lst [.int 1]];have l3:=cP (bx (st++[a!.lst [.int 1]]++[a!.lst []]) []) [a!.lst [.int 1]];have l4:=bx (st++[a!.lst [.int 1]]++[a!.lst []]++[a!.lst []]) [.int 1];have F0:Fr st (st++[a!.lst [.int 1]]++[a!.lst []]++[a!.lst []]++[a!.lst [.int 1]]):=(((Fr.app st _).more _).more _).more _;obtain⟨i1,hi1⟩:∃i,st.length=i:=⟨_,rfl⟩
 obtain⟨i2,hi2⟩:∃i,(st++[a!.lst [.int 1]]).length=i:=⟨_,rfl⟩
 obtain⟨i3,hi3⟩:∃i,(st++[a!.lst [.int 1]]++[a!.lst []]).length=i:=⟨_,rfl⟩
 obtain⟨i4,hi4⟩:∃i,(st++[a!.lst [.int 1]]++[a!.lst []]++[a!.lst []]).length=i:=⟨_,rfl⟩
 obtain⟨s0,GD⟩:∃s,st++[a!.lst [.int 1]]++[a!.lst []]++[a!.lst []]++[a!.lst [.int 1]]=s:=⟨_,rfl⟩
 rw[hi1,GD]at l1;rw[hi2,GD]at l2;rw[hi3,GD]at l3;rw[hi4,GD]at l4;rw[GD]at F0;have start:A1 p A B (A.length+B.length+1) n m s0 [some (.int p),some (.loc n),some (.loc m),rW n i1 i2,rW m i3 i4,none,none,none,none,none] s0 n i1 i2 m i3 i4 A [1] [] B [] [1]:=
  ⟨⟨_,rfl⟩,Fr.refl _,iY.start hr.1 hA hB hn,F0 _ _ ln,l1,l2,F0 _ _ lm,l3,l4⟩
 obtain⟨μ',s1,a0,a1,a2,b0,b1,b2,g,u,v,u1,v1,ew,hq⟩:=IM hp (by lia) start;obtain⟨x5,rfl⟩:=hq.env;have hg:g≠[]:=by rcases hq.inv.ne with z|z;exact z;exact absurd rfl z
 have hlg:=hq.inv.r0.last bW hg;obtain⟨gi,t,ei,t1,t2,t3⟩:=fN hp (n:=aL g) (by rw[V? (by lia) hlg.2];lia) s1;obtain⟨rG,nG,lG,cA,cB,cG⟩:=hq.inv.done hp hA hB t3;have F2:=Fr.app s1 gi;obtain⟨s2,q9⟩:∃s,s1++gi=s:=⟨_,rfl⟩
 rw[q9]at ei F2;have j1:=hq.inv.QA;have j2:=hq.inv.Ui;have j3:=hq.inv.lv0;have gx:=cO (ay hq.Ur) (oC hg);obtain⟨s3,k1,e3,F3,o1,y1⟩:=k! hp t (F2 _ _ hq.Ur) hq.inv.r0 (by lia);have hGl:=nJ p t g;have yb:¬ aL (mulR p t g) % p=0:=by rw[lG,V? (by lia) (by lia)];lia
 have yc:=F0.trans (hq.fr.trans (F2.trans F3));obtain⟨s4,k2,z2,e4,F4,o2,_,_,y2,_⟩:=gn hp (ay (yc _ _ ln)) y1 nG yb (by lia) (by lia);obtain⟨s5,k3,z3,e5,F5,o3,_,_,y3,_⟩:=gn hp (ay (F4 _ _ (yc _ _ lm))) (F4 _ _ y1) nG yb (by lia) (by lia);have Us:=F2.trans (F3.trans (F4.trans F5));obtain⟨s6,k4,e6,F6,o4,y4⟩:=k! hp t (Us _ _ hq.RE) hq.inv.ru0 (by lia);obtain⟨s7,k5,e7,F7,o5,y5⟩:=k! hp t (F6 _ _ (Us _ _ hq.la2)) hq.inv.rv0 (by lia);have F37:=F4.trans (F5.trans (F6.trans F7));have F07:=yc.trans F37;obtain⟨qA,_,_,_,qlA⟩:=fU hp (as:=A) nG yb;obtain⟨qB,_,_,_,qlB⟩:=fU hp (as:=B) nG yb;have lu:=nJ p t u;have lv:=nJ p t v;have w1:=bF y1;have w2:=bF y2;have w3:=bF y3;have w4:=bF y4;have w5:=bF y5;have n3:st.length<=s2.length:=(F0.trans (hq.fr.trans F2)).len;have f4:=F4.len;have f5:=F5.len;have f6:=F6.len;have f3:=F3.len;refine⟨s7,k1,k2,k3,k4,k5,mulR p t g,b7 p A (mulR p t g),b7 p B (mulR p t g),mulR p t u,mulR p t v,?_,F07,⟨rG,qA,qB,Row.of bW _,Row.of bW _,nG,lG,cA,cB,cG,by lia⟩,?_,?_,?_⟩
 .have ew':cm QE QF [qI p, qL n, qL m, some (.tup [.loc n,.loc i1,.loc i2]), some (.tup [.loc m,.loc i3,.loc i4]), qn, qn, qn, qn, qn] s0=.nx [some (.int p),some (.loc n),some (.loc m),rW a0 a1 a2,rW b0 b1 b2,x5,none,none,none,none] s1:=ew;simp only[PM.met,bC,aq,aF,aS,bg,aD,aM,aE,aC,aw,jT,sY,bJ,bK,bN,aG,av,gY,nj,aA,fR,iU,aP,ba,bf,aO,gf,aU,aK,Vq,VQ,VI,Vx,VN,VC,Vp,Vr,Nat.reduceSub,Vl,VB,Nat.reduceAdd,Vt,Nat.reduceLeDiff,↓reduceIte,hi1,hi2,hi3,hi4,GD,ew',rW,bD tX,bD Bz,bD at2,gx,ei,e3,e4,e5,e6,e7]
 .exact .cons (F37 _ _ y1) (.cons ((F5.trans (F6.trans F7)) _ _ y2) (.cons ((F6.trans F7) _ _ y3) (.cons (F7 _ _ y4) (.cons y5 (.nil _)))))
 .simp only[Xx,V_,Yx,YK,not_or,List.nodup_nil,and_true,not_false_eq_true];lia
 .intro k hk;simp only[V_,Yx,YK]at hk;lia
end PG
namespace SO
open PySem.W PyProof.Rows
abbrev g(p:Array Nat)(i:Nat):Nat:=p.getD i 0
theorem zh(p:Array Nat)(i:Nat):g p i=(p[i]?).getD 0:=Array.getD_eq_getD_getElem?
def Ok(L:Nat->Nat->Bool)(n:Nat){α:Type}(P:α->Prop):KasT α->Prop
 |.ret a=>P a
 |.ask i j k=>i<n/\j<n/\Ok L n P (k (L i j))
theorem Ok.bind{L:Nat->Nat->Bool}{n:Nat}{P:α->Prop}{Q:β->Prop}{f:α->KasT β}(hf:∀a,P a->Ok L n Q (f a)):∀{t:KasT α},Ok L n P t->Ok L n Q (t.bind f)
 |.ret a,h=>hf a h
 |.ask _ _ _,h=>⟨h.1,h.2.1,Ok.bind hf h.2.2⟩
theorem Ok.imp{L:Nat->Nat->Bool}{n:Nat}{P Q:α->Prop}(hf:∀a,P a->Q a):∀{t:KasT α},Ok L n P t->Ok L n Q t
 |.ret a,h=>hf a h
 |.ask _ _ _,h=>⟨h.1,h.2.1,Ok.imp hf h.2.2⟩
theorem Ok.wp{L:Nat->Nat->Bool}{n:Nat}{P:α->Prop}{cmp:Nat->Nat->(Bool->_k->Prop)->_k->Prop}{R:_k->Prop}{Q:α->_k->Prop}(ha:∀i j s(C:Bool->_k->Prop),i<n->j<n->R s->(∀s',R s'->C (L i j) s')->cmp i j C s)(hq:∀a s,P a->R s->Q a s):∀{t:KasT α}{s:_k},Ok L n P t->R s->t.kasWp cmp Q s
 |.ret a,s,h,r=>hq a s h r
 |.ask i j k,s,h,r=>ha i j s _ h.1 h.2.1 r λs' r'=>Ok.wp ha hq h.2.2 r'
structure Ord(L:Nat->Nat->Bool)(n:Nat):Prop where
 tr:∀i j k,i<n->j<n->k<n->L i j=true->L j k=true->L i k=true
 tot:∀i j,i<n->j<n->i≠j->L i j=false->L j i=true
 aa!:∀i j,i<n->j<n->L i j=true->L j i=false
def Pm(n:Nat)(p:Array Nat):Prop:=p.Perm (List.toArray (List.range n))
section
variable{n:Nat}{p:Array Nat}
theorem Pm.list(h:Pm n p):p.toList.Perm (List.range n):=Array.perm_iff_toList_perm.mp h
theorem Pm.size(h:Pm n p):p.size=n:=by have:=h.list.length_eq;rw[VW]at this;exact this
theorem Pm.get(h:Pm n p){i:Nat}(hi:i<n):p[i]?=some (g p i):=by
 have hz:i<p.size:=by rw[h.size];exact hi
 rw[zh,Z1 p i hz];rfl
theorem Pm.lt(h:Pm n p){i:Nat}(hi:i<n):g p i<n:=by
 have hz:i<p.size:=by rw[h.size];exact hi
 have e:g p i=p.toList[i]'hz:=by rw[zh,Z1 p i hz];rfl
 have m:g p i∈p.toList:=by rw[e];exact XQ _
 exact Xt.mp (h.list.mem_iff.mp m)
theorem Pm.inj(h:Pm n p){i j:Nat}(hi:i<n)(hj:j<n)(e:g p i=g p j):i=j:=by
 have hz:i<p.size:=by rw[h.size];exact hi
 have RG:j<p.size:=by rw[h.size];exact hj
 have nd:p.toList.Nodup:=h.list.nodup_iff.mpr List.nodup_range;have e1:g p i=p.toList[i]'hz:=by rw[zh,Z1 p i hz];rfl
 have e2:g p j=p.toList[j]'RG:=by rw[zh,Z1 p j RG];rfl
 rw[e1,e2]at e;exact(Zw nd).mp e
theorem Pm.start(n:Nat):Pm n (List.toArray (List.range n)):=Array.Perm.refl _
theorem Pm.rev(h:Pm n p)(i j:Nat):Pm n (kas_rev p i j):=(mirror_perm p i j _).trans h
theorem Pm.bub(h:Pm n p)(i j:Nat):Pm n (bubble p i j):=(bubble_perm p i j).trans h
theorem NO(h:Pm n p){i:Nat}(hm:m<=n)(hi:i<m):g (kas_rev p 0 m) i=g p (m-1-i):=by rw[zh,zh];unfold kas_rev;rw[getElem?_mirror_all (by rw[h.size];exact hm),Vs ⟨We _,hi⟩,VZ]
theorem NP(h:Pm n p){l i:Nat}(hk:k<n)(hl:l<=k):g (bubble p k (k-l)) i=if i=l then g p k else if l<i/\i<=k then g p (i-1)else g p i:=by
 have e:k-(k-l)=l:=by lia
 rw[zh,getElem?_bubble (by rw[h.size];exact hk) (k-l) (by lia),e];split
 .rw[zh]
 .split<;>rw[zh]
end
section
variable{L:Nat->Nat->Bool}{n:Nat}(O:Ord L n)
include O
def yd(L:Nat->Nat->Bool)(p:Array Nat)(m:Nat):Prop:=∀i,i+1<m->L (g p i) (g p (i+1))=true
def QH(L:Nat->Nat->Bool)(p:Array Nat)(m:Nat):Prop:=∀i,i+1<m->L (g p (i+1)) (g p i)=true
theorem other{p:Array Nat}(h:Pm n p){i j:Nat}(hi:i<n)(hj:j<n)(hn:i≠j)(e:L (g p i) (g p j)=false):L (g p j) (g p i)=true:=
 O.tot _ _ (h.lt hi) (h.lt hj) (λz=>hn (h.inj hi hj z)) e
theorem yd.oD{p:Array Nat}(h:Pm n p)(hm:m<=n)(a:yd L p m){i:Nat}:∀d:Nat,i+d+1<m->L (g p i) (g p (i+d+1))=true
 |0,hd=>a i hd
 |d+1,hd=>O.tr _ _ _ (h.lt (by lia)) (h.lt (by lia)) (h.lt (by lia)) (yd.oD h hm a d (by lia)) (a (i+d+1) hd)
theorem yd.lt{p:Array Nat}(h:Pm n p)(hm:m<=n)(a:yd L p m){i j:Nat}(hij:i<j)(hj:j<m):L (g p i) (g p j)=true:=by have:=yd.oD O h hm a (i:=i) (j-i-1) (by lia);rwa [show i+(j-i-1)+1=j by lia]at this
theorem Cw{p:Array Nat}(h:Pm n p):∀(f k:Nat),1<=k->k+f<=n->yd L p k->Ok L n (λm=>k<=m/\m<=k+f/\yd L p m/\(m<k+f->L (g p m) (g p (m-1))=true)) (kas_asc p f k)
 |0,k,_,_,a=>⟨Vv _,Vv _,a,λz=>absurd z (Wm _)⟩
 |f+1,k,h1,hk,a=>by
  refine⟨h.lt (by lia),h.lt (by lia),?_⟩;show Ok L n _ (if L (g p k) (g p (k-1))=true then .ret k else kas_asc p f (k+1));by_cases c:L (g p k) (g p (k-1))=true
  .rw[Vs c];exact⟨Vv _,by lia,a,λ_=>c⟩
  .rw[VE c];have c':L (g p k) (g p (k-1))=false:=by simpa using c
   have z:=other O h (by lia) (by lia) (by lia) c';refine Ok.imp (λm hm=>?_) (Cw h f (k+1) (by lia) (by lia) (λi hi=>?_))
   .exact⟨by lia,by lia,hm.2.2.1,λq=>hm.2.2.2 (by lia)⟩
   .by_cases e:i+1<k
    .exact a i e
    .have:i=k-1:=by lia
     subst this;rw[show k-1+1=k by lia];exact z
theorem DZ{p:Array Nat}(h:Pm n p):∀(f k:Nat),1<=k->k+f<=n->QH L p k->Ok L n (λr=>r.1=p/\r.2.2=0/\k<=r.2.1/\r.2.1<=k+f/\QH L p r.2.1) (kas_desc f p k 0)
 |0,k,_,_,a=>⟨rfl,rfl,Vv _,Vv _,a⟩
 |f+1,k,h1,hk,a=>by
  refine⟨h.lt (by lia),h.lt (by lia),?_⟩;show Ok L n _ (if L (g p k) (g p (k-1))=true then(if 0>0 then kas_desc f (kas_rev p (k-(0+1)) k) (k+1) 0 else kas_desc f p (k+1) 0)else .ask (g p (k-1)) (g p k) λd=>if d=true then .ret (p,k,0)else kas_desc f p (k+1) (0+1));by_cases c:L (g p k) (g p (k-1))=true
  .rw[Vs c,VE (Wm _)];refine Ok.imp (λr hr=>⟨hr.1,hr.2.1,by lia,by lia,hr.2.2.2.2⟩) (DZ h f (k+1) (by lia) (by lia) (λi hi=>?_));by_cases e:i+1<k
   .exact a i e
   .have:i=k-1:=by lia
    subst this;rw[show k-1+1=k by lia];exact c
  .rw[VE c];have c':L (g p k) (g p (k-1))=false:=by simpa using c
   have z:=other O h (by lia) (by lia) (by lia) c';refine⟨h.lt (by lia),h.lt (by lia),?_⟩;show Ok L n _ (if L (g p (k-1)) (g p k)=true then .ret (p,k,0)else kas_desc f p (k+1) (0+1));rw[Vs z];exact⟨rfl,rfl,Vv _,YR _ _,a⟩
def Part(L:Nat->Nat->Bool)(n:Nat)(r:Nat×Array Nat):Prop:=1<=r.1/\r.1<=n/\Pm n r.2/\yd L r.2 r.1
theorem zj{p:Array Nat}(h:Pm n p)(h1:1<=m)(hm:m<=n)(a:QH L p m):Ok L n (Part L n) (kas_tail3 m n p):=by
 have b:yd L (kas_rev p 0 m) m:=by intro i hi;rw[NO h hm (by lia),NO h hm hi];have:=a (m-1-(i+1)) (by lia);rwa [show m-1-(i+1)+1=m-1-i by lia]at this
 refine Ok.bind (λk hk=>?_) (Cw O (h.rev 0 m) (n-m) m h1 (by lia) b);exact⟨by lia,by lia,h.rev 0 m,hk.2.2.1⟩
theorem IP{p:Array Nat}(h:Pm n p)(hn:1<=n):Ok L n (Part L n) (kas_count n p):=by
 refine Ok.bind (λk hk=>?_) (Cw O h (n-1) 1 (Vv _) (by lia) (λi hi=>absurd hi (by lia)));obtain⟨k1,k2,ka,kl⟩:=hk;have FK:Part L n (k,p):=⟨k1,by show k<=n;lia,h,ka⟩
 by_cases e:(k==n)=true
 .rw[Vs e];exact FK
 .rw[VE e];have e':k≠n:=λz=>e (by simpa using z);by_cases e1:k>1
  .rw[Vs e1];refine⟨h.lt (by lia),h.lt (by lia),?_⟩;show Ok L n _ (if L (g p 0) (g p (k-1))=true then .ret (k,p)else _);rw[Vs (yd.lt O h (by lia) ka (by lia) (by lia))];exact FK
  .rw[VE e1];have:k=1:=by lia
   subst this;have z:=kl (by lia);refine Ok.bind (λr hr=>?_) (DZ O h (n-(1+1)) (1+1) (by lia) (by lia) (λi hi=>?_))
   .obtain⟨r1,r2,r3⟩:=r;obtain⟨q1,q2,q3,q4,q5⟩:=hr;dsimp only at q1 q2 q3 q4 q5;subst q1 q2;show Ok L n _ (if 0>0 then _ else kas_tail3 r2 n r1);rw[VE (Wm _)];exact zj O h (by lia) (by lia) q5
   .have:i=0:=by lia
    subst this;exact z
theorem vN{p:Array Nat}(h:Pm n p){k:Nat}(hk:k<n)(a:yd L p k):∀(f l r:Nat),l<=r->r<=k->r-l<=f->(∀i,i<l->L (g p i) (g p k)=true)->(∀i,r<=i->i<k->L (g p k) (g p i)=true) ->
  Ok L n (λm=>m<=k/\(∀i,i<m->L (g p i) (g p k)=true)/\∀i,m<=i->i<k->L (g p k) (g p i)=true) (kas_place p k f l r)
 |0,l,r,h1,h2,h3,lo,hi=>⟨by lia,lo,λi q=>hi i (by lia)⟩
 |f+1,l,r,h1,h2,h3,lo,hi=>by
  show Ok L n _ (if l ≥ r then .ret l else .ask (g p k) (g p ((l+r) / 2)) λc=>if c=true then kas_place p k f l ((l+r) / 2)else kas_place p k f ((l+r) / 2+1) r);by_cases e:l ≥ r
  .rw[Vs e];exact⟨by lia,lo,λi q=>hi i (by lia)⟩
  .rw[VE e];obtain⟨m,hm⟩:∃m,m=(l+r) / 2:=⟨_,rfl⟩
   rw[<-hm];have m1:l<=m:=by lia
   have m2:m<r:=by lia
   refine⟨h.lt hk,h.lt (by lia),?_⟩;show Ok L n _ (if L (g p k) (g p m)=true then kas_place p k f l m else kas_place p k f (m+1) r);by_cases c:L (g p k) (g p m)=true
   .rw[Vs c];refine vN h hk a f l m m1 (by lia) (by lia) lo λi q1 q2=>?_;by_cases q:i=m
    .rw[q];exact c
    .exact O.tr _ _ _ (h.lt hk) (h.lt (by lia)) (h.lt (by lia)) c (yd.lt O h (by lia) a (by lia) q2)
   .rw[VE c];have c':L (g p k) (g p m)=false:=by simpa using c
    have z:=other O h hk (by lia) (by lia) c';refine vN h hk a f (m+1) r (by lia) h2 (by lia) (λi q=>?_) hi;by_cases q1:i=m
    .rw[q1];exact z
    .exact O.tr _ _ _ (h.lt (by lia)) (h.lt (by lia)) (h.lt hk) (yd.lt O h (by lia) a (show i<m by lia) (by lia)) z
theorem IQ:∀(f:Nat)(p:Array Nat)(k:Nat),Pm n p->k+f=n->yd L p k->Ok L n (λq=>Pm n q/\yd L q n) (kas_bin f p k)
 |0,p,k,h,hk,a=>⟨h,by rw[<-hk];exact a⟩
 |f+1,p,k,h,hk,a=>by
  refine Ok.bind (λl hl=>?_) (vN O h (k:=k) (by lia) a k 0 k (We _) (Vv _) (by lia) (λi q=>absurd q (Y0 _)) (λi q1 q2=>absurd q1 (by lia)));obtain⟨l1,lo,hi⟩:=hl;refine IQ f _ (k+1) (h.bub _ _) (by lia) λi Hg=>?_;rw[NP h (by lia) l1,NP h (by lia) l1];by_cases c1:i=l
  .rw[Vs c1,VE (by lia),Vs (by lia)];exact hi _ (by lia) (by lia)
  .rw[VE c1];by_cases c2:i+1=l
   .rw[Vs c2,VE (by lia)];exact lo i (by lia)
   .rw[VE c2];by_cases c3:l<i
    .rw[Vs ⟨c3,by lia⟩,Vs ⟨by lia,by lia⟩];have:=a (i-1) (by lia);rwa [show i-1+1=i+1-1 by lia]at this
    .rw[VE (by lia),VE (by lia)];exact a i (by lia)
theorem Mk(hn:1<=n):Ok L n (λq=>Pm n q/\yd L q n) (kas_sort n):=by
 refine Ok.bind (λr hr=>?_) (IP O (Pm.start n) hn);obtain⟨k,p⟩:=r;obtain⟨h1,h2,h3,h4⟩:=hr;dsimp only at h1 h2 h3 h4;show Ok L n _ (if k<n then kas_bin (n-max k 1) p (max k 1)else .ret p);have e:max k 1=k:=by lia
 rw[e];by_cases c:k<n
 .rw[Vs c];exact IQ O (n-k) p k h3 (by lia) h4
 .rw[VE c];have:k=n:=by lia
  subst this;exact⟨h3,h4⟩
end
def qw(h:Heap)(d:_l)(es:Array DictEntry)(ep:Nat):Prop:=∃o,h.get? d=some o/\o.cls=.type "dict" /\ o.data=.dict es ep
section
variable{w:World}{E:Z'}{d it:_l}{es:Array DictEntry}{i:Nat}
theorem qw.ty(x:qw s.heap d es ep):s.TypeIs (.ref d) "dict":=by obtain⟨o,ho,hc,_⟩:=x;exact⟨o,ho,hc⟩
theorem qw.lt(x:qw h d es ep):d<h.objs.size:=by obtain⟨o,ho,_⟩:=x;exact VJ ho
theorem qw.to(x:qw h d es ep)(hk:∀o,h.get? d=some o->h'.get? d=some o):qw h' d es ep:=by obtain⟨o,ho,r⟩:=x;exact⟨o,hk o ho,r⟩
theorem IS{Q:Z'}(hd:(d==sysModules)=false)(x:qw s.heap d es ep)(hQ:Q (.ref s.heap.objs.size) {s with heap:=s.heap.push {cls:=.type "dict_keyiterator",data:=.fields #[.ref d,.int 0 0,.int es.size 0,.int ep 0]} }):wpAny (model prog w) A (pyIter (.ref d)) Q E s:=by obtain⟨o,go,gc,gd⟩:=id x;have T:=x.ty;refine wpAny_pyIter_slot T Zo (WX Zo T PySem.F.entry_dict_iter ?_ (PySem.F.args_dict_iter_1 _));unfold Builtin.«dict.__iter__»;refine Vk ?_;unfold Builtin.Dict.dictSlotNone;refine Vk (wpAny_notOrdered_dict T ?_);show wpAny _ _ (pure (Value.ref d)) _ _ s;refine VF ?_;show wpAny _ _ (Builtin.Dict.showsAll d >>= _) _ _ s;unfold Builtin.Dict.showsAll;rw[VE (by rw[hd];exact VY)];refine Vk (VF ?_);refine Vk (Y4 go gd ?_);refine Vk (Zl go gd ?_);refine Vk (Wv (VF ⟨_,rfl,"dict_keyiterator",_,⟨_,VV _ rfl,rfl⟩,WE.lookup,?_⟩));simpa[rawInt]using hQ
theorem IT{Q:_g->_k->Prop}(hit:s.heap.IsKeyIter it d i es.size ep)(x:qw s.heap d es ep)(hi:i<es.size)(hQ:∀h',h'.IsKeyIter it d (i+1) es.size ep->Heap.SameBut it s.heap h'->Q (some es[i].key) {s with heap:=h'}):wpAny (model prog w) A (pyNext (.ref it)) Q E s:=by
 obtain⟨o,ho,hc,hf⟩:=id hit;obtain⟨od,go,gc,gd⟩:=id x;have T:=hit.typeIs;unfold pyNext;refine Vk (Ym (WL (name:=Str.ofString "__next__") T WE (WX WE T YC ?_ (Yu _))));refine Vk (VF ?_);refine Vk ?_;refine Vk ?_
 first|refine Vk (Xo T (VF ?_))|refine Vk (XT T (VF ?_))
 refine Vk (wpAny_fieldsOf ho hf ?_);have no:Builtin.Dict_items.ownsTuple "dict_keyiterator" = false:=by decide
 simp only[no,YH,Yr];show wpAny _ _ (if(Value.ref d==Value.none)=true then _ else _) _ _ s;rw[VE (show ¬ ((Value.ref d==Value.none)=true)from VY)];refine Vk (VF ?_);refine Vk (Y4 go gd ?_);rw[VE (by simp)];refine Vk (VF ?_);refine Vk (Zl go gd ?_);rw[VE (by simp)];refine VF ?_;simp only[show ¬ ((i:Int)<0)from by lia,Yr,WM,XS hi];refine Vk ?_
 first|refine Vk (Xo T (VF ?_))|refine Vk (XT T (VF ?_))
 refine Vk (Z9 T ?_);show wpAny _ _ (setField (.ref it) 1 (rawInt ((i:Int)+1)) >>= _) _ _ s;refine Vk (XG ho hf (by simp) ?_);have go2:(s.heap.update it (Obj.mapFields (·.setIfInBounds 1 (rawInt ((i:Int)+1))))).IsKeyIter it d (i+1) es.size ep:=
  ⟨_,Xb _ ho (Xw (WJ hf _)),(Obj.cls_mapFields ..).trans hc,by rw[WJ hf];simp[rawInt]⟩
 refine Vk (Xv ?_);refine Vk (Z9 (s:={s with heap:=s.heap.update it (Obj.mapFields (·.setIfInBounds 1 (rawInt ((i:Int)+1))))}) go2.typeIs ?_);show wpAny _ _ (pure es[i].key) _ _ _;exact VF (VF ⟨_,rfl,VF (hQ _ go2 (Xi ..))⟩)
theorem Ml{Q:_g->_k->Prop}(hh:A.handled=none)(hit:s.heap.IsKeyIter it d i es.size ep)(x:qw s.heap d es ep)(hi:es.size<=i)(hQ:∀h',Heap.ExtBut it s.heap h'->Q none {s with heap:=h'}):wpAny (model prog w) A (pyNext (.ref it)) Q E s:=by
 obtain⟨o,ho,hc,hf⟩:=id hit;obtain⟨od,go,gc,gd⟩:=id x;have T:=hit.typeIs;unfold pyNext;refine Vk (Ym (WL (name:=Str.ofString "__next__") T WE (WX WE T YC ?_ (Yu _))));refine Vk (VF ?_);refine Vk ?_;refine Vk ?_
 first|refine Vk (Xo T (VF ?_))|refine Vk (XT T (VF ?_))
 refine Vk (wpAny_fieldsOf ho hf ?_);have no:Builtin.Dict_items.ownsTuple "dict_keyiterator" = false:=by decide
 simp only[no,YH,Yr];show wpAny _ _ (if(Value.ref d==Value.none)=true then _ else _) _ _ s;rw[VE (show ¬ ((Value.ref d==Value.none)=true)from VY)];refine Vk (VF ?_);refine Vk (Y4 go gd ?_);rw[VE (by simp)];refine Vk (VF ?_);refine Vk (Zl go gd ?_);rw[VE (by simp)];refine VF ?_;simp only[show ¬ ((i:Int)<0)from by lia,Yr,WM,Array.getElem?_eq_none hi];refine Vk ?_
 first|refine Vk (Xo T (VF ?_))|refine Vk (XT T (VF ?_))
 show wpAny _ _ (setField (.ref it) 0 .none >>= _) _ _ s;refine Vk (XG ho hf (by simp) ?_);show wpAny _ _ (newExc (.type "StopIteration") [] >>= _) _ _ _;refine Vk ?_;simp only[newExc,newTuple];refine Vk (Wv ?_ (by size_fits));refine Vk (m:=firstArgMember _ _) (wpAny_of_eq (a:=Value.none) (by first|rfl|(simp only[firstArgMember];rfl)) ?_);refine Wv ?_ (by size_fits);simp only[raiseNew];refine Vk (wpAny_handled ?_);rw[show A.in1.handled=none from hh];refine Vk (VF (wpAny_throw ?_));refine Vk (Za (T:="StopIteration") (b:=true) ⟨_,VV _ rfl,rfl⟩ isSubtype_stop ?_);exact VF (hQ _ (((Xi ..).extBut.push _).push _))
def IU(es:Array DictEntry)(i:Nat)(v:_j):Prop:=∃h:i<es.size,v=es[i].key
theorem FL(hh:A.handled=none)(I:_l)(hne:d≠I):Walks prog w A I [I,d] [I] es.size (IU es) (λi h=>h.IsKeyIter I d i es.size ep/\qw h d es ep) where
 sub:=λb hb=>by rw[Vy]at hb;rw[hb];exact Vz
 frame:=λ_ _ _ st hk=>⟨st.1.at λo e=>hk I Vz o e,st.2.to λo e=>hk d (VH _ Vz) o e⟩
 item:=λi s Q E hi st hQ=>IT st.1 st.2 hi λh' k1 k2=>
  hQ _ h' s.toks ⟨hi,rfl⟩ ⟨k1,st.2.to λo e=>k2.extBut d o hne e⟩ λb o hb e=>k2.extBut b o (λz=>hb (by rw[z];exact Z_ _)) e
 done:=λs Q E st hQ=>Ml hh st.1 st.2 (Vv _) λh' k=>hQ h' s.toks λb o hb e=>k b o (λz=>hb (by rw[z];exact Z_ _)) e
 self:=λ_ _ _ _ st hQ=>wpAny_pyIter_keyiter st.1 hQ
theorem Mm(lo:(d==sysModules)=false):KdlSrc prog w "dict" d d es.size (IU es) (λh=>qw h d es ep) where
 type:=λ_ x=>x.ty
 there:=λ_ x=>⟨x.lt,x.lt⟩
 keep:=λ_ _ x hk=>x.to λo e=>hk d (.inl rfl) o e
 notList:=by decide
 notTuple:=by decide
 hint:=λ_ _ _ _ x q=>kdl_hint_dict x.ty q
 iter:=λ_ _ hh x=>⟨_,_,(λ_ _ q=>IS lo x q),FL hh _ (V! x.lt),⟨⟨_,VV _ rfl,rfl,rfl⟩,x.to λo e=>Vn _ e⟩⟩
end
section
variable{w:World}{E:Z'}{d it:_l}{es:Array DictEntry}{i:Nat}
theorem Mn{acc:Array _j}(h:ItemsOf (IU es) acc es.size):acc.toList=es.toList.map (·.key):=by
 apply Yy
 .rw[V9,Vj,V9];exact h.1
 .intro i h1 h2;have hi:i<acc.size:=by rw[V9]at h1;exact h1
  obtain⟨hz,e⟩:=h.2 i acc[i] (XS hi);rw[Array.getElem_toList,Xc,Array.getElem_toList,e]
theorem A2{Q:_e->_k->Prop}(hh:A.handled=none)(lo:(d==sysModules)=false)(x:qw s.heap d es ep)(hn:es.size<=sizeLine)(h:∀h' tk,s.heap.objs.size<h'.objs.size->(∀b o,s.heap.get? b=some o->h'.get? b=some o)->Q (es.toList.map (·.key)) {s with heap:=h',toks:=tk}):wpAny (model prog w) A (collect (.ref d)) Q E s:=by
 unfold collect;refine Vk (wpAny_runValue (Ys (R:=λr s'=>r=.ok (.ret (.ref s.heap.objs.size))/\wpAny (model prog w) A (do
  let u <- load s.heap.objs.size
  match u.data with
  |.seq xs _=>pure xs.toList
  |_=>unsupported "internal:collect") Q E s') ?_ λr s' q=>?_))
 .refine YA entry_proto_collect' ?_;show wpAny _ _ (do again (.builtin "list.__iadd__" ⟨[<-newList [],.ref d],[]⟩)) _ _ s;refine Vk (YV (VF ⟨Code.quiet_builtin _ (by decide +kernel),YA entry_list_iadd' ?_⟩) (We _));have ne:=W? x.lt;refine kdl_extend (R:=λr s'=>r=.ok (.ret (.ref s.heap.objs.size))/\wpAny (model prog w) A (do
   let u <- load s.heap.objs.size
   match u.data with
   |.seq xs _=>pure xs.toList
   |_=>unsupported "internal:collect") Q E s') (s:={s with heap:=s.heap.push (seqObj "list" #[] 0)}) (Mm (es:=es) (ep:=ep) lo) hh (x.to λo e=>Vn _ e) s.heap.objs.size ne ne (.ref s.heap.objs.size) 0 (VV _ rfl) (λh' tk acc c hk hS O8=>⟨rfl,?_⟩) hn
  refine Vk (wpAny_load hS ?_);show wpAny _ _ (pure acc.toList) Q E _;rw[Mn O8];exact VF (h h' tk (VJ hS) λb o e=>hk b o (V! (VJ e)) (Vn _ e))
 .obtain⟨rfl,q⟩:=q;exact q
end
def lexLt:_d->_d->Bool
 |_,[]=>false
 |[],_::_=>true
 |x::xs,y::ys=>if x=y then lexLt xs ys else decide (x<y)
theorem ji:∀xs:_d,lexLt xs xs=false
 |[]=>rfl
 |x::xs=>by show(if x=x then lexLt xs xs else _)=false;rw[Vs rfl];exact ji xs
theorem vO:∀{xs ys zs:_d},lexLt xs ys=true->lexLt ys zs=true->lexLt xs zs=true:=by
 intro xs
 induction xs with
 |nil=>
  intro ys zs h1 h2;cases zs with
  |nil=>cases ys<;>cases h2
  |cons z zs=>rfl
 |cons x xs ih=>
  intro ys zs h1 h2;cases ys with
  |nil=>cases h1
  |cons y ys=>
   cases zs with
   |nil=>cases h2
   |cons z zs=>
    replace h1:(if x=y then lexLt xs ys else decide (x<y))=true:=h1;replace h2:(if y=z then lexLt ys zs else decide (y<z))=true:=h2;show(if x=z then lexLt xs zs else decide (x<z))=true;by_cases e1:x=y
    .rw[Vs e1]at h1;subst e1;by_cases e2:x=z
     .rw[Vs e2]at h2⊢;exact ih h1 h2
     .rw[VE e2]at h2⊢;exact h2
    .rw[VE e1]at h1;have Me:=Wz h1;by_cases e2:y=z
     .subst e2;rw[VE e1];exact h1
     .rw[VE e2]at h2;have NK:=Wz h2;rw[VE (by lia)];exact V7 (by lia)
theorem oE:∀{xs ys:_d},xs≠ys->lexLt xs ys=false->lexLt ys xs=true:=by
 intro xs
 induction xs with
 |nil=>
  intro ys h1 h2;cases ys with
  |nil=>exact absurd rfl h1
  |cons y ys=>cases h2
 |cons x xs ih=>
  intro ys h1 h2;cases ys with
  |nil=>rfl
  |cons y ys=>
   replace h2:(if x=y then lexLt xs ys else decide (x<y))=false:=h2;show(if y=x then lexLt ys xs else decide (y<x))=true;by_cases e:x=y
   .subst e;rw[Vs rfl]at h2⊢;exact ih (λz=>h1 (by rw[z])) h2
   .rw[VE e]at h2;rw[VE (λz=>e z.symm)];have:=of_decide_eq_false h2;exact V7 (by lia)
theorem jB{xs ys:_d}(h:lexLt xs ys=true):lexLt ys xs=false:=by
 cases z:lexLt ys xs with
 |false=>rfl
 |true=>
  have:=vO h z;rw[ji]at this;cases this
end SO
namespace TS
section
variable(r:α->Nat)
def FK(xs:Array α)(i j:Nat):List α:=(xs.toList.drop i).take (j-i)
variable{r}{xs ys:Array α}
theorem IV{i j:Nat}:(FK xs i j)[k]?=if k<j-i then xs[i+k]? else none:=by unfold FK;rw[List.getElem?_take,Yj,WH]
theorem A3{i:Nat}{x:α}(h:xs[i]?=some x):FK xs i (i+1)=[x]:=by
 apply X7;intro n;rw[IV];cases n with
 |zero=>rw[Vs (by lia)];exact h
 |succ n=>rw[VE (by lia)];rfl
end
end TS
namespace SO
open PySem.W PyProof.Rows
section
variable{xs:List (_d)}
def nOf:_j->Int
 |.int n _=>n
 |_=>0
def vm(h:Heap):_j->_d
 |.ref a=>match h.get? a with
  |some o=>match o.data with
   |.seq aN _=>aN.toList.map nOf
   |_=>[]
  |none=>[]
 |_=>[]
theorem IW{us:_e}(h:IntsAre us ns):us.map nOf=ns:=by
 induction h with
 |nil=>rfl
 |cons n t _ ih=>rw[Vq,ih];rfl
end
end SO
namespace L2
open PySem.Spec PyProof.Rows
def IX(X:Cx)(f:_j)(ks:_i)(r:List V->List V->Hp->VK->Prop):Prop:=
 ∀(ae:_b)(s:_k)(σ:St)(H:Hp)(xs zs:List V)(us ws:_e)(Q:VK),a9 X ae σ H s->bt xs us->bt zs ws->r xs zs H Q ->
  wpAny (model X.prog X.w) X.A (call f us (ks.zip ws)) (EP X ae σ Q) X.xe s
def tCK(r:List V->List V->Hp->VK->Prop)(t tk:TA):TE:=λσ H Q=>t σ H λvs H1=>tk σ H1 λzs H2=>r vs zs H2 Q
section
variable{id:String}{ks:_i}{r:List V->List V->Hp->VK->Prop}{p pos:Pos}{e:Expr}{GV:List Keyword}{t tk:TA}
theorem FO(hc:IX X (.builtin id) ks r)(hg:Gl X x)(hm:X.mg x=none)(hv:bootBuiltins x=some (.builtin id))(ha:PA X (e::es) t)(hkw:PK X GV tk)(hks:(backToKw pos (keywordEach GV X.env)).filterMap (·.1)=ks:=by rfl)(hn:x ≠ "__name__":=by decide)(Af:(x==("__debug__":Str))=false:=by decide)(he:backTo pos (starEach (e::es) X.env)=(false,eval e X.env)::backTo pos (starEach es X.env):=by rfl)(sM:(backTo pos (starEach (e::es) X.env)).any (·.1)=false:=by rfl)(O0:(backToKw pos (keywordEach GV X.env)).all (·.1.isSome)=true:=by rfl)(hno:(backToKw pos (keywordEach GV X.env)).any (·.1.isNone)=false:=by rfl):PE X (.Call (.Name x p) (e::es) GV pos) (tCK r t tk):=by intro ae s σ H Q I h;refine Yc (kI I hg hm hv ?_ hn Af);refine callWith_kw (eJ (ha pos ae s σ H _ I h) λus s1 q1=>?_) he sM O0 hno;obtain⟨vs,H1,I1,r1,q1⟩:=q1;refine eJ (hkw pos ae s1 σ H1 _ I1 q1) λws s2 q2=>?_;obtain⟨zs,H2,I2,r2,q2⟩:=q2;rw[hks];exact hc ae s2 σ H2 vs zs us ws Q I2 r1 r2 q2
end
theorem IY{xs:_d}{us:_e}(h:bt (xs.map V.int) us):IntsAre us xs:=by
 induction xs generalizing us with
 |nil=>cases h;exact .nil
 |cons x xs ih=>
  cases h with
  |cons a b=>
   obtain⟨t,rfl⟩:=a;exact .cons x t (ih b)
end L2
namespace MN
open PySem.Spec L2
open PyProof.Rows hiding St kindOf
def vP:List aj->Option (_d)
 |[]=>some []
 |.int i::r=>(vP r).map (i :: ·)
 |_::_=>none
theorem FQ:∀{us:List aj}{a:_d},vP us=some a->us=a.map aj.int:=by
 intro us
 induction us with
 |nil=>intro a h;cases h;rfl
 |cons u r ih=>
  intro a h;cases u with
  |int i=>
   replace h:(vP r).map (i :: ·)=some a:=h;cases z:vP r with
   |none=>rw[z]at h;cases h
   |some b=>rw[z]at h;cases h;rw[ih z];rfl
  |_=>cases h
theorem IZ(a:_d):vP (a.map aj.int)=some a:=by
 induction a with
 |nil=>rfl
 |cons x a ih=>show(vP (a.map aj.int)).map (x :: ·)=_;rw[ih];rfl
theorem bu.Mo:∀{a:_d}{vs:List V},bu K ρ H (a.map aj.int) vs->vs=a.map V.int:=by
 intro a
 induction a with
 |nil=>intro vs h;exact h.gB
 |cons x a ih=>
  intro vs h;obtain⟨v,r,rfl,q1,q2⟩:=bu.cW h;rw[Rl.cy q1,ih q2];rfl
open PyProof.Rows hiding St
def d!(K:_c)(x:Str)(st:Stmt):Prop:=∃(f:_l)(fd:FuncData),G7 K x x st f fd/\W.nsIn K mainGlobals x=some (some (.ref f))
theorem d!.mk{st:Stmt}{f:_l}{kV ct:_j}(a:W.nsIn K mainGlobals x=some (some (.ref f)))(l:K.lookup f=some ⟨oc,od,.func (W.fnOf x x (gS st) (dZ st) (bb st) .none kV doc pm an h_ ct),GW⟩)(c:W.codeIn K h_ x=true)(k:W.keepIn K (.ref f)=true):d! K x st:=⟨f,_,BR l c k,a⟩
inductive Cy(K:_c):_i->Prop
 |nil:Cy K []
 |cons {x:Str} {r:_i} (a:W.nsIn K mainGlobals x=some none) (t:Cy K r):Cy K (x::r)
@[reducible] def Mp(mg:_a):_i->Prop
 |[]=>True
 |x::r=>mg x=none/\Mp mg r
theorem Cy.get(X:K.In h)(G:h.Ns mainGlobals mg):∀{l:_i},Cy K l->Mp mg l
 |_,.nil=>trivial
 |_,.cons a t=>⟨W.mg_none_of X G a,t.get X G⟩
inductive Cz(K:_c):_i->Prop
 |nil:Cz K []
 |cons {x:Str} {r:_i} {C:_l} (a:W.nsIn K mainGlobals x=some (some (.ref C))) (e:W.excIn K C bmV "ValueError.__new__" = true) (s:W.subIn K (.ref C) (.type "BaseException")=some true) (t:Cz K r):Cz K (x::r)
@[reducible] def Mq(K:_c)(mg:_a):_i->Prop
 |[]=>True
 |x::r=>PV K mg x/\Mq K mg r
theorem Cz.get(X:K.In h)(G:h.Ns mainGlobals mg):∀{l:_i},Cz K l->Mq K mg l
 |_,.nil=>trivial
 |_,.cons a e s t=>⟨⟨_,X' X G a,e,s⟩,t.get X G⟩
section
variable{pos:Pos}{a b:Expr}{ma:ME}
theorem QI(ha:PE X a (tE X E ma))(hb:PE X b (tE X E mb)):PE X (.BinOp a .Add b pos) (tE X E (ai cS ma mb)):=rj Lq ha hb
theorem QJ(ha:PE X a (tE X E ma))(hb:PE X b (tE X E mb)):PE X (.BinOp a .Sub b pos) (tE X E (ai gJ ma mb)):=rj Lr ha hb
theorem QK(ha:PE X a (tE X E ma))(hb:PE X b (tE X E mb)):PE X (.BinOp a .Mult b pos) (tE X E (ai bX ma mb)):=rj Ls ha hb
theorem QL(ha:PE X a (tE X E ma))(hb:PE X b (tE X E mb)):PE X (.BinOp a .FloorDiv b pos) (tE X E (ai p? ma mb)):=rj HA ha hb
theorem QM(ha:PE X a (tE X E ma))(hb:PE X b (tE X E mb)):PE X (.BinOp a .Mod b pos) (tE X E (ai f_ ma mb)):=rj Lu ha hb
theorem QN(ha:PE X a (tE X E ma))(hb:PE X b (tE X E mb)):PE X (.BinOp a .Pow b pos) (tE X E (ai Lp ma mb)):=rj Lx ha hb
theorem Ut(ha:PE X a (tE X E ma))(hb:PE X b (tE X E mb)):PT X (.Compare a [.Lt] [b] pos) (tT X E (f9 (ai ltV ma mb))):=m8 HB ha hb
theorem Uu(ha:PE X a (tE X E ma))(hb:PE X b (tE X E mb)):PT X (.Compare a [.Gt] [b] pos) (tT X E (f9 (ai vf ma mb))):=m8 HD ha hb
theorem Uv(hu:X.A.units+64<cLine)(ha:PE X a (tE X E ma))(hb:PE X b (tE X E mb)):PT X (.Compare a [.Eq] [b] pos) (tT X E (f9 (ai oZ ma mb))):=m8 (HH hu) ha hb
theorem Uw(hu:X.A.units+64<cLine)(ha:PE X a (tE X E ma))(hb:PE X b (tE X E mb)):PT X (.Compare a [.NotEq] [b] pos) (tT X E (f9 (ai yJ ma mb))):=m8 (HI hu) ha hb
theorem Ux(hu:X.A.units+64<cLine)(ha:PE X a (tE X E ma))(hb:PE X b (tE X E mb)):PE X (.Compare a [.Eq] [b] pos) (tE X E (ai oZ ma mb)):=m7 (HH hu) ha hb
theorem Uy(hu:X.A.units+64<cLine)(ha:PE X a (tE X E ma))(hb:PE X b (tE X E mb)):PE X (.Compare a [.NotEq] [b] pos) (tE X E (ai yJ ma mb)):=m7 (HI hu) ha hb
end
def QO:fG->aj
 |.inl i=>.int i
 |.inr x=>.str x
def FR(st:af)(n:Nat):Option (List (fG×aj)):=match st[n]? with
 |some (.dK aY)=>some aY
 |some (.fd aY)=>some aY
 |_=>none
theorem Mr{st:af}{n:Nat}{a:_l}(sr:SR K ρ st H)(h:FR st n=some aY)(ha:ρ[n]?=some a):∃iJ,Rd H a (.dK iJ)/\jM K ρ H aY iJ:=by
 unfold FR at h;split at h
 .rename_i z;cases h;obtain⟨iJ,h1,h2⟩:=sr.cell n _ a z ha;exact⟨iJ,.inl h1,h2⟩
 .rename_i z;cases h;obtain⟨o,iJ,h1,h2⟩:=sr.cell n _ a z ha;exact⟨iJ,.inr ⟨o,h1⟩,h2⟩
 .cases h
def abO:FN
 |[.loc n],st=>match FR st n with
  |some aY=>.ok (.int aY.length) st
  |none=>.bad
 |_,_=>.bad
def vQ:List fG->Option (_d)
 |[]=>some []
 |.inl i::r=>(vQ r).map (i :: ·)
 |.inr _::_=>none
theorem FT:∀{l:List fG}{a:_d},vQ l=some a->l=a.map Sum.inl:=by
 intro l
 induction l with
 |nil=>intro a h;cases h;rfl
 |cons x r ih=>
  intro a h;cases x with
  |inl i=>
   replace h:(vQ r).map (i :: ·)=some a:=h;cases z:vQ r with
   |none=>rw[z]at h;cases h
   |some b=>rw[z]at h;cases h;rw[ih z];rfl
  |inr x=>cases h
def itK(aY:List (fG×aj)):List aj:=aY.map λp=>.tup [QO p.1,p.2]
def Uz(n:Nat)(aY:List (fG×aj)):Itm:=(itK aY,λb8=>b8[n]?=some (.fd aY))
def aa?(m:ME):MI:=λμ st=>(m μ st).bind λv aH=>match v with
 |.loc n=>match aH[n]? with
  |some (.dK aY)=>.ok (Uz n aY) (aH.set n (.fd aY))
  |some (.fd aY)=>.ok (Uz n aY) aH
  |_=>.bad
 |_=>.bad
def I9(v:aj)(st:af):eZ aj:=match v with
 |.loc n=>match ar st n with
  |some []=>.ok (.loc st.length) (st++[.lst []])
  |_=>.bad
 |_=>.bad
end MN
namespace SO
open PySem.W PyProof.Rows
section
variable{w:World}{E:Z'}
theorem A4{d:_l}{es:Array DictEntry}{Q:Z'}(hh:A.handled=none)(lo:(d==sysModules)=false)(x:qw s.heap d es ep)(t:IntsAre (es.toList.map (·.key)) ns)(hz:es.size<64)
  (h:∀ (h':Heap) (tk:Nat) (l:_l) (c:Nat) (out:_e) (D0:_d),(∀ b o,s.heap.get? b=some o->h'.get? b=some o)->s.heap.objs.size<=l->IntsAre out D0->D0.Perm ns->D0.Pairwise (·<=·) ->
   h'.get? l=some (seqObj "list" out.toArray c)->Q (.ref l) {s with heap:=h',toks:=tk}):
  wpAny (model prog w) A (call (.builtin "sorted") [.ref d]) Q E s:=by
 refine Calls.call_function_entry kind_sorted plain_sorted entry_sorted (args_sorted1 _) ?_;unfold Builtin.«sorted»;refine Vk (m:=checkCount "sorted" 1 1 _) (VF ?_);obtain⟨vs,ev⟩:∃vs,vs=es.toList.map (·.key):=⟨_,rfl⟩
 have lv:vs.length=es.size:=by rw[ev,Vj,V9]
 refine Vk (A2 hh lo x (by rw[Vt];lia) λh1 tk k0 k1=>?_);rw[<-ev]at t⊢;refine Vk (YV ?_ (by show vs.length<=_;rw[Vt];lia));have gl:(h1.push (seqObj "list" vs.toArray 0)).get? h1.objs.size=some (seqObj "list" vs.toArray 0):=VV _ rfl;show wpAny _ _ _ _ _ {s with heap:=h1.push (seqObj "list" vs.toArray 0),toks:=tk};refine Vk (Xv (WX slot_list_sort ⟨_,gl,rfl⟩ entry_list_sort (list_sort_tree gl t (by lia) λout D0 a1 a2 a3=>⟨_,rfl,?_⟩) (args_list_sort _)));obtain⟨c,gc⟩:∃c,(sortedHeap (h1.push (seqObj "list" vs.toArray 0)) h1.objs.size vs out).get? h1.objs.size=some (seqObj "list" out.toList.toArray c):=
  ⟨_,by unfold sortedHeap;exact Yk (Vn _ (Vn _ (Yk gl λ_ => #[]))) λ_=>out.toList.toArray⟩
 refine VF ⟨_,rfl,h _ tk h1.objs.size c out.toList D0 (λb o e=>?_) (YM k0) a1 a2 a3 gc⟩;have e1:=k1 b o e;have ne:h1.objs.size≠b:=W? (VJ e1);unfold sortedHeap;exact(Wn _ _ ne).trans (Vn _ (Vn _ ((Wn _ _ ne).trans (Vn _ e1))))
end
end SO
namespace L2
open PySem.Spec PyProof.Rows
theorem FU{w:World}:∀{es:List DictEntry}{aY:List (fG×_j)}{ns:_d},Pairs (fZ P w) es aY->aY.map (·.1)=ns.map Sum.inl->IntsAre (es.map (·.key)) ns:=by
 intro es aY ns p
 induction p generalizing ns with
 |nil=>
  intro e;cases ns with
  |nil=>exact .nil
  |cons=>cases e
 | @cons e kv es aY h1 h2 _ ih=>
  intro q;cases ns with
  |nil=>cases q
  |cons n ns=>
   injection q with q1 q2;replace q1:kv.1=Sum.inl n:=q1;rw[q1]at h1;rcases dR (k:=.inl n) (v:=e.key) h1 with⟨i,t,a,b⟩|⟨x,t,a,b⟩
   .injection a with a;rw[Vq,b,<-a];exact .cons n t (ih q2)
   .cases a
theorem FV:∀{us:_e}{ns:_d},IntsAre us ns->bt (ns.map V.int) us:=by
 intro us ns h
 induction h with
 |nil=>exact .nil
 |cons n t _ ih=>exact .cons ⟨t,rfl⟩ ih
theorem CA(hh:X.A.handled=none):cR X (.builtin "sorted") (λxs H Q=>∃(d:_l)(aY:List (fG×V))(ns:_d),xs=[.ref d]/\Rd H d (.dK aY)/\aY.map (·.1)=ns.map Sum.inl/\ns.length<64 /\
  ∀(l:_l)(D0:_d),H l=none->D0.Perm ns->D0.Pairwise (·<=·)->Q (.ref l) (upd H l (.lst (D0.map V.int)))):=by
 rintro ae s σ H xs ws Q I r ⟨d,aY,ns,rfl,hd,hk,hn,q⟩;obtain⟨u,rfl,ru⟩:=vals1 r;cases ru;obtain⟨z,lo,vs,rel,dd⟩:=Dp I.dg hd;obtain⟨ep,hat⟩:=dd.dictAt;have e:vs.map (·.1)=aY.map (·.1):=by
  have:∀{a:List (fG×V)}{b:List (fG×_j)},KV a b->b.map (·.1)=a.map (·.1):=by
   intro a b r
   induction r with
   |nil=>rfl
   |cons h _ ih=>rw[Vq,Vq,ih,h.1]
  exact this rel
 obtain⟨o,es,h1,h2,h3,h4,h5,h6⟩:=hat;have ia:=FU h5 (e.trans hk);have le:es.size=ns.length:=by have:=ia.length;rw[Vj,V9]at this;exact this
 refine SO.A4 hh lo ⟨o,h1,h2.1,h3⟩ ia (by lia) λh' tk l c out D0 kp hl io pm pw g=>?_;have lz:(D0.map V.int).length<=sizeLine:=by rw[Vj,pm.length_eq,Vt];lia
 exact⟨.ref l,_,I.laid (t':=tk) kp hl (show dA X.prog X.w _ h' _ (.lst (D0.map V.int)) from⟨lz,_,c,FV io,g⟩),rfl,q l D0 (I.dg.fresh hl) pm pw⟩
def gv(xs:List α)(k:Int):List α:=(sliceRange 0 xs.length k).filterMap λi=>xs[i]?
theorem rX:∀(is:List Nat){xs:List V}{us:_e},bt xs us->bt (is.filterMap λi=>xs[i]?) (is.filterMap λi=>us[i]?)
 |[],_,_,_=>.nil
 |i::is,xs,us,r=>by
  cases z:xs[i]? with
  |none=>
   have:us[i]?=none:=by rw[Yn]at z⊢;rw[<-r.length];exact z
   rw[X4 z,X4 this];exact rX is r
  |some x=>
   obtain⟨u,hu,ru⟩:=r.get z;rw[Xn z,Xn hu];exact .cons ru (rX is r)
theorem I_(xs:List α){k:Int}(hk:0<k):(gv xs k).length<=xs.length:=by unfold gv;refine Wg (List.length_filterMap_le _ _) ?_;have:=sliceRange_len_le 0 (xs.length:Int) k (by lia);rw[Vs hk]at this;simpa using this
theorem FW{e es:Expr}{ts:TE}{pos:Pos}(he:PE X e te)(hs:PE X es ts):
  PE X (.Subscript e (.Slice none none (some es) p2) pos) (λσ H Q=>te σ H λx H1=>ts σ H1 λy H2=>∃a xs k,x=.ref a/\y=.int k/\0<k/\oy X.K H2 a xs/\∀p,H2 p=none->Q (.ref p) (upd H2 p (.lst (gv xs k)))):=by
 intro ae s σ H Q I h;refine Subscript_ (eJ (he ae s σ H _ I h) λv s1⟨x,H1,I1,r1,q1⟩=>?_);refine wpAny_Slice ?_;rw[ZM];refine VF ?_;refine VF ?_;rw[evalPart_some];refine eJ (hs ae s1 σ H1 _ I1 q1) λv3 s3⟨y,H2,I3,r3,a,xs,k,e1,e2,hk,hx,q⟩=>?_;subst e1 e2;cases r1;obtain⟨tk,rfl⟩:=r3;have I4:a9 X ae σ H2 {s3 with heap:=s3.heap.push {cls:=.type "slice",data:=.fields #[.none,.none,.int k tk]} }:=I3.kept (t':=s3.toks) λb ob q=>Vn _ q;show wpAny (model X.prog X.w) X.A (subscriptTail e (.Slice none none (some es) p2) (.ref a) (.ref s3.heap.objs.size)) (EP X ae σ Q) X.xe {s3 with heap:=s3.heap.push {cls:=.type "slice",data:=.fields #[.none,.none,.int k tk]} };obtain⟨aN,r,ht,hz⟩:=I4.list hx;have hlen:aN.toArray.size=xs.length:=by rw[VG];exact r.length.symm
 refine tail_any (ops:=[.ref a,.ref s3.heap.objs.size]) ht.isList.typeIs Y5.lookup ?_ (by with_unfolding_all rfl);refine ZJ ht.isList (Heap.IsSliceOf.new ..) .none .none (.int k tk) (by intro z;injection z with z;lia) ?_ (by rw[hlen];exact hz);have ep:slicePick aN.toArray none none (some k)=(gv aN k).toArray:=by
  have b1:(sliceBounds none none (some k) aN.toArray.size).1=0:=by show(if k>0 then(0:Int)else _)=0;rw[Vs hk]
  have b2:(sliceBounds none none (some k) aN.toArray.size).2.1=(aN.length:Int):=by show(if k>0 then((aN.toArray.size:Nat):Int)else _)=_;rw[Vs hk,VG]
  have b3:(sliceBounds none none (some k) aN.toArray.size).2.2=k:=rfl;unfold slicePick gv;rw[b1,b2,b3];simp only[List.getElem?_toArray]
 rw[ep];refine⟨.ref _,_,I4.laid (t':=s3.toks) (o:=.lst (gv xs k)) (λb ob q=>Vn _ q) (Vv _) ?_,rfl,q _ (I4.dg.fresh (Vv _))⟩;refine⟨Wg (I_ xs hk) hz,_,0,?_,VV _ rfl⟩;unfold gv;rw[show aN.length=xs.length from r.length.symm];exact rX _ r
end L2
namespace MN
open PySem.Spec L2
open PyProof.Rows hiding St kindOf
def I!(ns:_d):_d:=ns.mergeSort λa b=>decide (a<=b)
theorem ye(ns:_d):(I! ns).Perm ns:=XX ns _
theorem D2(ns:_d):(I! ns).Pairwise (·<=·):=by
 have h:=Yw (le:=λ(a b:Int)=>decide (a<=b)) (λa b c h1 h2=>V7 (by have:=Wz h1;have:=Wz h2;lia)) (λa b=>by
  rw[Y2,XU,XU];lia) ns
 exact h.imp λh=>Wz h
theorem up_eq{a b:_d}(p:a.Perm b)(ha:a.Pairwise (·<=·))(hb:b.Pairwise (·<=·)):a=b:=
 Z6 (λx y _ _ h1 h2=>by lia) ha hb p
def qx:FN
 |[.loc n],st=>match FR st n with
  |some aY=>match vQ (aY.map (·.1)) with
   |some ns=>if ns.length<64 then .ok (.loc st.length) (st++[.lst ((I! ns).map .int)])else .bad
   |none=>.bad
  |none=>.bad
 |_,_=>.bad
def uK(v k:aj)(st:af):eZ aj:=match v,k with
 |.loc n,.int k=>match ar st n with
  |some us=>if 0<k then .ok (.loc st.length) (st++[.lst (gv us k)])else .bad
  |none=>.bad
 |_,_=>.bad
def uL(m mk:ME):ME:=λμ st=>(m μ st).bind λv st1=>(mk μ st1).bind λk b8=>uK v k b8
theorem A5(hh:X.A.handled=none):cR X (.builtin "sorted") (cM (wo X) E qx):=by
 refine cR.imp (CA hh) ?_;rintro xs H Q ⟨ρ,st,us,sr,r,h⟩;unfold qx at h;split at h
 .rename_i n;obtain⟨v,rfl,r1⟩:=r.B3;obtain⟨a,rfl,ha⟩:=r1.fQ;split at h
  .rename_i aY e;split at h
   .rename_i ns z;split at h
    .rename_i hn;obtain⟨iJ,h1,h2⟩:=Mr sr e ha;refine⟨a,iJ,ns,rfl,h1,by rw[<-h2.1];exact FT z,hn,λl D0 hl pm pw=>?_⟩;rw[up_eq (pm.trans (ye ns).symm) pw (D2 ns)];obtain⟨k1,k2,k3⟩:=iB sr (bu.ints (I! ns)) hl;exact h _ _ _ k1 k2 k3
    .exact h.elim
   .exact h.elim
  .exact h.elim
 .exact h.elim
theorem vR{K:_c}{ρ:_h}{H:Hp}:∀(is:List Nat){us:List aj}{xs:List V},bu K ρ H us xs->bu K ρ H (is.filterMap λi=>us[i]?) (is.filterMap λi=>xs[i]?)
 |[],_,_,_=>bu.nil
 |i::is,us,xs,r=>by
  cases z:us[i]? with
  |none=>
   have:xs[i]?=none:=by rw[Yn]at z⊢;rw[<-r.length];exact z
   rw[X4 z,X4 this];exact vR is r
  |some x=>
   obtain⟨u,hu,ru⟩:=r.get z;rw[Xn z,Xn hu];exact bu.cons ru (vR is r)
theorem FX{e es:Expr}{m mk:ME}{pos:Pos}(he:PE X e (tE X E m))(hs:PE X es (tE X E mk)):PE X (.Subscript e (.Slice none none (some es) p2) pos) (tE X E (uL m mk)):=by
 refine PE.imp (FW he hs) ?_;rintro σ H Q ⟨μ,ρ,st,rs,sr,h⟩;refine go μ ρ st rs sr h λu st1 ρ1 H1 x e1 dh r1 h1=>?_;refine go μ ρ1 st1 (rs.mono e1) dh h1 λk b8 ρ2 H2 z e2 p! r2 h2=>?_;have r1':=Rl.mono e2 _ _ r1;cases u with
 |loc n=>
  cases k with
  |int k=>
   unfold uK at h2;dsimp only at h2;cases hn:ar b8 n with
   |none=>rw[hn]at h2;exact h2.elim
   |some us=>
    rw[hn]at h2;dsimp only at h2;by_cases hk:0<k
    .rw[Vs hk]at h2;obtain⟨a,rfl,ha⟩:=r1'.fQ;obtain⟨vs,h3,rv⟩:=bA p! hn ha;refine⟨a,vs,k,rfl,by rw[r2.cy],hk,h3,λp hp=>?_⟩;have rr:bu X.K ρ2 H2 (gv us k) (gv vs k):=by unfold gv;rw[show us.length=vs.length from rv.length];exact vR _ rv
     obtain⟨k1,k2,k3⟩:=iB p! rr hp;exact h2 _ _ _ k1 k2 k3
    .rw[VE hk]at h2;exact h2.elim
  |_=>exact h2.elim
 |_=>exact h2.elim
end MN
namespace PM
open PySem.Spec L2 MN
open PyProof.Rows hiding St
def ft:FN:=ij 2 2 (bU (ao PM.dO (aa bq (aa bP (aa (ao PM.inverse (aa bq (aa (ai bS bP (ja cH)) ag))) ag)))))
def dj:FN:=ij 3 6 (ax (aJ 3 bP) (ax (aJ 4 dz) (ax (cm (f9 (ai vf (ao bc (aa ff ag)) dE)) (ax (aJ 5 (ai bS (ao PM.parted (aa bq (aa cT (aa ff ag)))) cH)) (ax (aJ 3 ff) (aJ 4 iP)))) (bU (ao PM.ft (aa bq (aa cT ag)))))))
def gE:FN:=ij 2 10 (ax (aJ 2 yM) (ax (aJ 3 cH) (ax (aJ 4 bP) (ax (cm (f9 (ai vf (ao bc (aa ff ag)) cH)) (ax (aJ 5 (ao PM.dj (aa bq (aa ff (aa (ao PM.fJ (aa bq (aa ff ag))) ag))))) (ax (aJ 6 (ai bS (ao PM.parted (aa bq (aa ff (aa iP ag)))) dE)) (ax (aJ 7 cT) (ax (cm (f9 (ai vf (ao bc (aa jL ag)) cH)) (ax (aJ 8 (ao PM.dj (aa bq (aa jL (aa iP ag))))) (ax (aJ 9 (ai bS (ao PM.parted (aa bq (aa jL (aa zY ag)))) dE)) (ax (sU (f9 (ai vf (ao bc (aa Bw ag)) cH)) (yN dz oY Bw) fF) (ax (aJ 6 zY) (ax (aJ 5 (ai bS (ao PM.parted (aa bq (aa iP (aa zY ag)))) dE)) (HY 7 Fl cT))))))) (ax (aJ 4 (uL iP bq)) (aJ 3 (ai bX cT bq)))))))) (bU dz)))))
def gp:FN:=ij 2 3 (ax (sU (f9 (ai oZ (ao bc (aa bP ag)) dE)) (bU (mC .dD)) fF) (ax (aJ 2 (ao PM.met (aa bq (aa bP (aa (ao PM.fJ (aa bq (aa bP ag))) ag))))) (bU (Ke (f9 (ai oZ (ao bc (aa (ai bS dz dE) ag)) cH)) (gW (aa (ai bS dz Pq) (aa (ai bS dz Ll) ag))) (mC .dD)))))
def g_:FN:=ij 2 3 (ax (sU (f9 (ai oZ (ao bc (aa bP ag)) dE)) (m9 "NoParts" (aa (qs "nought has no parts") ag)) fF) (ax (aJ 2 (ao PM.gE (aa bq (aa (ao PM.ft (aa bq (aa bP ag))) ag)))) (bU (gW (aa (ai bS bP (ja cH)) (aa (dI 1 [2] (gr (ao qx (aa dz ag))) (aB 0) bI (gW (aa (ai sW bP bq) (aa bq ag)))) ag))))))
end PM
namespace PG
open PySem.Spec L2 MN
open PyProof.Rows hiding St kindOf
section
variable{μ:MN.Env}{s s1 s2:af}{a b:ME}{f:F2}{x:aj}{r:eZ aj}{t u:MT}{c:Bool}{B:MB}
theorem iw(h1:a μ s=.ok x s1)(h2:b μ s1=.ok y s2):ai f a b μ s=f x y s2:=by show(a μ s).bind _=_;rw[h1];show(b μ s1).bind _=_;rw[h2]
theorem vS(h:a μ s=.ok (.bl c) s1):f9 a μ s=.ok c s1:=by rw[bh,h];rfl
end
theorem NQ{s:af}{n:Nat}{c:a!}(h:s[n]?=some c):n<s.length:=by
 rcases WD n s.length with q|q
 .exact q
 .rw[Wa q]at h;cases h
section
variable{μ:MN.Env}{s s1 s2:af}{m:ME}{o:Int}{t:MT}{B:MB}
theorem rY{i:Nat}(h:m μ s=.ok v s1):aJ i m μ s=.nx (μ.set i (some v)) s1:=by rw[bf,h,aF];rfl
theorem rZ(h:m μ s=.ok v s1):aa m ag μ s=.ok [v] s1:=by rw[av,h,aq,aC,aG,aq,aw]
theorem Ms{m2:ME}{w:aj}(h:m μ s=.ok v s1)(h2:m2 μ s1=.ok w s2):aa m (aa m2 ag) μ s=.ok [v,w] s2:=by rw[av,h,aq,aC,rZ h2,aq,aw]
theorem NR{m2:MA}(h:m μ s=.ok v s1)(h2:m2 μ s1=.ok ws s2):aa m m2 μ s=.ok (v::ws) s2:=by rw[av,h,aq,aC,h2,aq,aw]
theorem g!{f:FN}{a:MA}{vs:List aj}(h:a μ s=.ok vs s1):ao f a μ s=f vs s1:=by rw[aA,h,aq]
theorem de{a:MA}{vs:List aj}(h:a μ s=.ok vs s1)(hl:vs.length<=1000):a_ a μ s=.ok (.loc s1.length) (s1++[.lst vs]):=by rw[nj,h,aq,sY];exact Vs (by rw[Vt];lia)
end
section
variable{n:Nat}{A:_d}{st:af}
theorem A6(hp:dM p=true)(ln:st[n]?=some (aI A))(hA:Row p A)(nA:A≠[])(hl:A.length<=100000):
  ∃aH k t,PM.ft [.int p,.loc n] st=.ok (.loc k) aH/\Fr st aH/\st.length<=k/\aH[k]?=some (aI (mulR p t A))/\(t*aL A) % p=1:=by
 have hr:=au hp;have la:=hA.last (by lia) nA;have nz:¬ aL A % p=0:=by rw[V? (by lia) la.2];lia
 obtain⟨g,t,e1,_,_,t3⟩:=fN hp nz st;obtain⟨s',k,e2,F,lk,ck⟩:=k! hp t (show(st++g)[n]?=some (aI A)from Fr.app st g _ _ ln) hA hl;refine⟨s',k,t,?_,(Fr.app st g).trans F,by have:=lk;rw[Vm]at this;lia,ck,t3⟩;have ix:ai bS bP (ja cH) [some (.int p),some (.loc n)] st=.ok (.int (aL A)) st:=by rw[iw (x:=.loc n) (s1:=st) rfl (y:=.int (-1)) (s2:=st) rfl];exact cO (ay ln) (oC nA)
 unfold PM.ft;rw[bC (np:=2) (us:=[aj.int p,.loc n]) rfl];show(bU _ [some (.int p),some (.loc n)] st).fin=_;rw[ba,g! (NR (v:=.int p) (s1:=st) rfl (Ms (v:=.loc n) (s1:=st) rfl (w:=.int t) (s2:=st++g) (by rw[g! (Ms (v:=.int p) (s1:=st) rfl ix),e1]))),e2,aF];rfl
structure UA(p:Int)(A B G:_d):Prop where
 r:Row p G
 n:G≠[]
 l:aL G=1
 a:aR p (cf A) (mF (b7 p A G) (cf G))
 b:aR p (cf B) (mF (b7 p B G) (cf G))
 c:∃u v,aR p (cf G) (λk=>mF u (cf A) k+mF v (cf B) k)
def aa'(μ:MN.Env)(s:af):Nat:=match(μ[4]?:Option (Option aj)) with
 |some (some (.loc k))=>fT k s
 |_=>0
structure D3(p:Int)(A B:_d)(N:Nat)(st:af)(x1 x2:Option aj)(μ:MN.Env)(s:af)(a b:Nat)(g0 u0 v0 g1 u1 v1:_d):Prop where
 env:∃x5,μ=[qI p, x1, x2, qL a, qL b, x5]
 fr:Fr st s
 inv:iY p A B N g0 u0 v0 g1 u1 v1
 la:s[a]?=some (aI g0)
 lb:s[b]?=some (aI g1)
abbrev UB:MT:=f9 (ai vf (ao bc (aa ff ag)) dE)
abbrev grB:MB:=ax (aJ 5 (ai bS (ao PM.parted (aa bq (aa cT (aa ff ag)))) cH)) (ax (aJ 3 ff) (aJ 4 iP))
theorem Mt(hp:dM p=true){N:Nat}(hN:N<=50000){μ:MN.Env}{s:af}{a b:Nat}{g0 g1:_d}(h:D3 p A B N st x1 x2 μ s a b g0 u0 v0 g1 u1 v1):
  ∃μ' s',cm UB grB μ s=.nx μ' s'/\∃a b g u v u1 v1,D3 p A B N st x1 x2 μ' s' a b g u v [] u1 v1:=by
 refine fK (t:=UB) (body:=grB) (λμ s=>∃a b g0 u0 v0 g1 u1 v1,D3 p A B N st x1 x2 μ s a b g0 u0 v0 g1 u1 v1) aa' (λμ s=>∃a b g u v u1 v1,D3 p A B N st x1 x2 μ s a b g u v [] u1 v1) ?_ μ s ⟨a,b,g0,u0,v0,g1,u1,v1,h⟩;rintro μ s ⟨a,b,g0,u0,v0,g1,u1,v1,h⟩;obtain⟨x5,rfl⟩:=h.env;have xY:UB [qI p, x1, x2, qL a, qL b, x5] s=.ok (decide ((0:Int)<(g1.length:Int))) s:=by refine vS ?_;rw[iw (x:=.int ((g1.map aj.int).length:Int)) (s1:=s) (by rw[g! (rZ (v:=.loc b) (s1:=s) rfl),aQ (ay h.lb)]) (y:=.int 0) (s2:=s) rfl,Vj];rfl
 by_cases hg:g1=[]
 .subst hg;exact .inl ⟨s,by rw[xY];rfl,a,b,g0,u0,v0,u1,v1,h⟩
 .have hg0:0<g1.length:=VA.mpr hg;have hr:=au hp;have RE:=h.inv.r1.last (by lia) hg;have nz:¬ aL g1 % p=0:=by rw[V? (by lia) RE.2];lia
  have l0:=h.inv.QA;have l1:=h.inv.Ui;obtain⟨s',k1,k2,e,F,_,_,_,c1,c2⟩:=gn hp (ay h.la) h.lb hg nz (by lia) (by lia);refine .inr ⟨s,[qI p, x1, x2, qL b, qL k2, qL k2],s',by rw[xY,V7 (by lia)],.inl ?_,⟨b,k2,g1,u1,v1,_,_,_,⟨_,rfl⟩,h.fr.trans F,h.inv.step hp hg,F _ _ h.lb,c2⟩,?_⟩
  .show ax _ _ _ s=_;rw[aP,rY (v:=.loc k2) (s1:=s') (by rw[iw (x:=.tup [.loc k1,.loc k2]) (s1:=s') (by rw[g! (vs:=[.int p,.loc a,.loc b]) (s1:=s) rfl,e]) (y:=.int 1) (s2:=s') rfl];rfl),aS];rfl
  .show fT k2 s'<fT b s;unfold fT;rw[ay c2,ay h.lb];show((h! p g0 g1).map aj.int).length<(g1.map aj.int).length;rw[Vj,Vj];exact(fU hp (as:=g0) hg nz).2.2.1
theorem zo(hp:dM p=true)(ln:st[n]?=some (aI A))(lm:st[m]?=some (aI B))(hA:Row p A)(hB:Row p B)(hn:A≠[]\/B≠[])(tR:A.length<=5000)(uv:B.length<=5000):
  ∃aH k G,PM.dj [.int p,.loc n,.loc m] st=.ok (.loc k) aH/\Fr st aH/\st.length<=k/\aH[k]?=some (aI G)/\UA p A B G/\G.length<=20000:=by
 have hr:=au hp;obtain⟨μ',s',ew,a,b,g,u,v,u1,v1,H⟩:=Mt (A:=A) (B:=B) (st:=st) hp (N:=A.length+B.length+1) (by lia) (x1:=some (.loc n)) (x2:=some (.loc m)) (μ:=[some (.int p),some (.loc n),some (.loc m),some (.loc n),some (.loc m),none]) (s:=st) (a:=n) (b:=m) ⟨⟨_,rfl⟩,Fr.refl st,iY.start (by lia) hA hB hn,ln,lm⟩;obtain⟨x5,rfl⟩:=H.env;have ng:g≠[]:=by rcases H.inv.ne with z|z;exact z;exact absurd rfl z
 have lg:=H.inv.QA;obtain⟨s2,k,t,e2,F2,lk,ck,ht⟩:=A6 hp H.la H.inv.r0 ng (by lia);obtain⟨rG,nG,lG,cA,cB,cG⟩:=H.inv.done hp hA hB ht;refine⟨s2,k,mulR p t g,?_,H.fr.trans F2,by have:=H.fr.len;lia,ck,⟨rG,nG,lG,cA,cB,_,_,cG⟩,by have:=nJ p t g;lia⟩;unfold PM.dj;rw[bC (np:=3) (us:=[aj.int p,.loc n,.loc m]) rfl];show(ax (aJ 3 bP) (ax (aJ 4 dz) (ax (cm UB grB) (bU _))) [qI p, qL n, qL m, qn, qn, qn] st).fin=_;rw[aP,rY (v:=.loc n) (s1:=st) rfl,aS,aP,rY (v:=.loc m) (s1:=st) rfl,aS];show(ax (cm UB grB) (bU _) [qI p, qL n, qL m, qL n, qL m, qn] st).fin=_;rw[aP,ew,aS,ba,g! (vs:=[.int p,.loc a]) (s1:=s') rfl,e2,aF];rfl
end
theorem oF(hp:0<p){A Q G:_d}(hA:Row p A)(nA:A≠[])(hQ:Row p Q)(nG:G≠[])(lG:aL G=1)(h:aR p (cf A) (mF Q (cf G))):Q≠[]/\A.length+1=Q.length+G.length/\aL A=aL Q:=by
 have nQ:Q≠[]:=by intro z;rw[z]at h;exact nA (Row.ext hp hA (Row.nil p) (h.trans (aR.of_eq λk=>by rw[j!,bZ])))
 have lq:=hQ.last hp nQ;have q0:0<Q.length:=VA.mpr nQ;have g0:0<G.length:=VA.mpr nG;obtain⟨N,hN⟩:∃N,N=Q.length-1+(G.length-1):=⟨_,rfl⟩
 have t:=y_ Q G nQ nG;rw[<-hN,lG,W3]at t;have c:=Cg.eq hp (h N);rw[t,c_ (hA.vH hp N).1 (hA.vH hp N).2,c_ (by lia) lq.2]at c;have l1:A.length<=N+1:=jy hA.cut λk hk=>by have c:=Cg.eq hp (h k);rw[IF (as:=Q) (bs:=G) (by lia),c_ (hA.vH hp k).1 (hA.vH hp k).2,c_ (YX 0) hp]at c;exact c
 have l2:N<A.length:=by
  rcases WD N A.length with z|z
  .exact z
  .rw[c! z]at c;lia
 refine⟨nQ,by lia,?_⟩;rw[<-c];show cf A (A.length-1)=_;rw[show A.length-1=N by lia]
theorem D4(hp:0<p)(h:(U.length:Int)=p*m+1):gv U p=(List.range (m+1)).map λj=>U.getD (p.toNat*j) 0:=by
 have cnt:(if p>0 then(if(0:Int)<(U.length:Int) then((U.length:Int)-0+p-1) / p else 0) else(if(0:Int)>(U.length:Int) then(0-(U.length:Int)-p-1) / (-p)else 0)).toNat=m+1:=by rw[Vs hp,h];have m0:0<=p*(m:Int):=Y7 (by lia) (by lia);rw[Vs (by lia),show p*(m:Int)+1-0+p-1=p*((m:Int)+1) by rw[Xg,W3];lia,Int.mul_ediv_cancel_left _ (by lia)];lia
 unfold gv sliceRange;simp only[];rw[cnt,List.filterMap_map];have:∀l:List Nat,(∀j∈l,j<=m)->l.filterMap ((λi=>U[i]?) ∘ λk:Nat=>(0+p*(k:Int)).toNat)=l.map λj=>U.getD (p.toNat*j) 0:=by
  intro l
  induction l with
  |nil=>intro _;rfl
  |cons j l ih=>
   intro hj;have e:(0+p*(j:Int)).toNat=p.toNat*j:=by
    have:((p.toNat*j:Nat):Int)=p*(j:Int):=by rw[W_,Wk (by lia)]
    lia
   have lt:p.toNat*j<U.length:=by
    have h1:p.toNat*j<=p.toNat*m:=ZI _ (hj j (Vz ..));have h2:((p.toNat*m:Nat):Int)=p*(m:Int):=by rw[W_,Wk (by lia)]
    lia
   rw[Vq,<-ih λi hi=>hj i (VH _ hi),Xn (b:=U.getD (p.toNat*j) 0)];show U[(0+p*(j:Int)).toNat]?=_;rw[e,Vo lt,VD,Vo lt];rfl
 exact this _ λj hj=>by have:=Xt.mp hj;lia
theorem I?(f:α->β)(xs:List α)(k:Int):gv (xs.map f) k=(gv xs k).map f:=by unfold gv;rw[Vj,List.map_filterMap];congr 1;funext i;rw[Vu]
theorem Mu(hp:2<=p)(hU:Row p U)(nU:U≠[])(l1:aL U=1)(hm:((U.length:Int)-1) % p=0):
  Row p (gv U p)/\gv U p≠[]/\aL (gv U p)=1/\(gv U p).length<=U.length/\(1<U.length->(gv U p).length<U.length):=by
 have u0:0<U.length:=VA.mpr nU;obtain⟨m,h⟩:∃m:Nat,(U.length:Int)=p*m+1:=by have h1:=Wc ((U.length:Int)-1) p;have h2:0<=((U.length:Int)-1) / p:=Y1 (by lia) (by lia);refine⟨(((U.length:Int)-1) / p).toNat,?_⟩;rw[Wk h2];lia
 have e:=D4 (by lia) h;have len:(gv U p).length=m+1:=by rw[e,Vj,VW]
 have hpm:((p.toNat*m:Nat):Int)=p*(m:Int):=by rw[W_,Wk (by lia)]
 have la:aL (gv U p)=1:=by unfold aL at l1⊢;rw[len,e,show m+1-1=m by lia,VD,Vu,Wh (by lia)];show U.getD (p.toNat*m) 0=1;rw[show p.toNat*m=U.length-1 by lia];exact l1
 have ne:gv U p≠[]:=λz=>by rw[z]at len;simp at len
 have hmp:2*(m:Int)<=p*m:=Xd hp (by lia);refine⟨⟨?_,?_⟩,ne,la,by lia,λh1=>by lia⟩
 .rcases jx (gv U p)with z|⟨ms,x,z⟩
  .exact absurd z ne
  .unfold Cut;rw[z];refine gP ?_ ms;have:aL (gv U p)=x:=by rw[z];unfold aL;simp
   rw[la]at this;rw[<-this];rfl
 .intro a ha;rw[e]at ha;obtain⟨j,_,rfl⟩:=VR.mp ha;exact hU.vH (by lia) (p.toNat*j)
structure dG(p:Int)(A:_d):Prop where
 row:Row p A
 ne:A≠[]
 l1:aL A=1
theorem dG.cancel(hp:0<p){F:_d}(h:dG p F)(x y:ah p)(e:ak F*x=ak F*y):x=y:=by revert e;revert x;refine cC λa=>?_;revert y;refine cC λb=>?_;intro e;have:=qv e;exact mk_eq (y! hp h.ne h.l1 (((aR.of_eq (aX F a)).symm.trans this).trans (aR.of_eq (aX F b))))
theorem CB(hp:0<p)(x:ah p):∃r,Row p r/\x=ak r:=by revert x;refine cC λa=>?_;exact⟨bT (a.map (·.fmod p)),Row.of hp a,mk_eq (Row.cg hp a).symm⟩
theorem r6(hp:0<p){A G:_d}(hA:Row p A)(nA:A≠[])(hG:dG p G){x:ah p}(h:ak A=ak G*x):∃Q,Row p Q/\x=ak Q/\Q≠[]/\A.length+1=Q.length+G.length:=by obtain⟨Q,hQ,rfl⟩:=CB hp x;have e:=qv (h.trans (bH _ _));obtain⟨n,l,_⟩:=oF hp hA nA hQ hG.ne hG.l1 (e.trans (aR.of_eq (aX Q G)));exact⟨Q,hQ,rfl,n,l⟩
theorem A7(hp:0<p){D U:_d}(hD:dG p D)(lD:2<=D.length){S1 z T a b:ah p}(hz:dP (ak D*S1)=ak D*z)(hT:T*ak U=(ak D*S1)*dP (ak U))(hb:a*ak D+b*T=1):∀(m:Nat)(V:_d)(W c:ah p),V.length<=m->Row p V->V≠[]->ak U=W*ak V->ak D*dP W=c*W*dP (ak D)->(∀x y:ah p,W*x=W*y->x=y)->False
 |0,V,_,_,hl,_,nV,_,_,_=>nV (X3.mp (by lia))
 |m+1,V,W,c,hl,hV,nV,hU,hW,cn=>by
  obtain⟨V',e⟩:=SA.Ul (d:=dP) kZ (S:=ak D*S1) rfl hz hT hb hW hU cn;obtain⟨Q,hQ,eQ,nQ,lQ⟩:=r6 hp hV nV hD e;refine A7 hp hD lD hz hT hb m Q (ak D*W) (1+c) (by lia) hQ nQ ?_ (SA.aa9 kZ hW) λx y h=>cn x y (hD.cancel hp _ _ ?_)
  .rw[hU,e,eQ];grind
  .rw[<-cF,<-cF];exact h
theorem UC(hp:2<=p){S:_d}(hD:dG p D)(hU:dG p U)(hS:dG p S){f w a b a2 b2 S1 z:ah p}(hf:f=ak S*ak U)(hw:dP f=ak U*w)(hg:ak U=a*f+b*dP f)(e1:ak S=ak D*S1)(e2:dP (ak S)=ak D*z):D=[1]:=by
 have bW:0<p:=by lia
 have df:dP f=dP (ak S)*ak U+ak S*dP (ak U):=by rw[hf,kZ]
 by_cases lD:2<=D.length
 .exfalso;have h1:a*ak S+b*w=1:=by
   refine hU.cancel bW _ _ ?_
   grind
  refine A7 bW hD lD (U:=U) (S1:=S1) (z:=z) (T:=w-dP (ak S)) (a:=a*S1+b*z) (b:=b) (by rw[<-e1];exact e2) (by rw[<-e1];grind) (by grind) U.length U 1 0 (Vv _) hU.row hU.ne (by grind) ?_ (λx y h=>by grind);have:dP (1:ah p)=0:=by
   have h:=kZ (1:ah p) 1
   grind
  rw[this];grind
 .cases hh:D with
  |nil=>exact absurd hh hD.ne
  |cons x l=>
   have l0:l=[]:=by rw[hh,Vl]at lD;exact X3.mp (by lia)
   have:=hD.l1;rw[hh,l0]at this;rw[l0];rw[show x=1 from this]
end PG
namespace SA
section
variable{R:Type}[Lean.Grind.CommRing R]{d:R->R}
theorem dc.pow{a b:R}(h:dc a b):∀n:Nat,dc a (b ^ n)
 |0=>by rw[W7];exact dc.one
 |n+1=>by rw[WK];exact(dc.pow h n).mul h
theorem dc.of_dvd{a b c:R}(h:dc a b){x:R}(e:b=c*x):dc a c:=by rw[e]at h;exact h.QD
theorem dc.unit{a b:R}(h:dc a b){x:R}(e:b=a*x):∃z,a*z=1:=zd h (c:=a) (x:=1) (y:=x) (by grind) e
def cst:Nat->R
 |0=>0
 |n+1=>cst n+1
theorem UD(dm:∀a b,d (a*b)=d a*b+a*d b)(P:R):∀n:Nat,P*d (P ^ n)=cst n*P ^ n*d P
 |0=>by
  have h:d (1:R)=0:=by have:=dm (1:R) 1;grind
  rw[W7,h];show P*0=0*1*d P
  grind
 |n+1=>by
  have ih:=UD dm P n;rw[WK,dm];show _=(cst n+1)*(P ^ n*P)*d P;generalize P ^ n=w at *;generalize (cst n:R)=c at *
  grind
theorem mul_pow(P G:R):∀m:Nat,(P*G) ^ m=P ^ m*G ^ m
 |0=>by rw[W7,W7,W7];grind
 |n+1=>by
  rw[WK,WK,WK,mul_pow P G n];generalize P ^ n=w;generalize G ^ n=v
  grind
theorem A3(dm:∀a b,d (a*b)=d a*b+a*d b){P W Q F S U x a b:R}(hF:F=W*Q)(hW:d W=0)(hFS:F=S*U)(hg:U=a*F+b*d F)(hS:S=P*x)(hc:dc P Q)(cn:∀x y:R,W*x=W*y->x=y):∃z,P*z=1:=by
 have e1:d F=W*d Q:=by rw[hF,dm,hW];grind
 have e2:Q=P*(x*(a*Q+b*d Q)):=by
  apply cn
  grind
 exact hc.unit e2
theorem step_eq{F Q S U P G V:R}(hF:F=Q*S ^ m*U)(hS:S=P*G)(hU:U=G*V):F=(Q*P ^ m)*G ^ (m+1)*V:=by
 rw[hF,hS,mul_pow,hU,WK];generalize P ^ m=w;generalize G ^ m=v
 grind
theorem Ja(dm:∀a b,d (a*b)=d a*b+a*d b){S U P G V a b:R}(hS:S=P*G)(hU:U=G*V)(hG:G=a*S+b*U)(hs:dc S (d S)):dc P G/\dc P (d P)/\dc G (d G)/\dc P U/\dc P V:=by rw[hS]at hs;obtain⟨h1,h2,h3⟩:=y? dm hs;have h4:=IJ hS hG h1;exact⟨h1,h2,h3,h4,h4.of_dvd (x:=G) (by grind)⟩
theorem Jb{T S U P G V:R}(hS:S=P*G)(hU:U=G*V)(h1:dc T S)(h2:dc T U):dc T P/\dc T G/\dc T V:=⟨h1.of_dvd hS,h1.of_dvd (x:=P) (by grind),h2.of_dvd (x:=G) (by grind)⟩
end
end SA
namespace PG
open PySem.Spec L2 MN
open PyProof.Rows hiding St kindOf
def r9:_d->_d->_d
 |a::as,b::bs=>(a+b)::r9 as bs
 |_,_=>[]
theorem vT:∀{as bs:_d},as.length=bs.length->(r9 as bs).length=as.length
 |[],[],_=>rfl
 |a::as,b::bs,h=>by show(r9 as bs).length+1=as.length+1;rw[vT (W! h)]
def br:Nat->_d
 |0=>[1]
 |n+1=>r9 (br n++[0]) (0::br n)
theorem vU:∀n,(br n).length=n+1
 |0=>rfl
 |n+1=>by have h:=vU n;show(r9 (br n++[0]) (0::br n)).length=_;rw[vT (by rw[Vm,Vl];rfl),Vm,h];rfl
theorem zp:∀{as bs:_d},as.length=bs.length->∀k,cf (r9 as bs) k=cf as k+cf bs k
 |[],[],_,k=>by show cf [] k=cf [] k+cf [] k;rw[bZ];rfl
 |a::as,b::bs,h,0=>rfl
 |a::as,b::bs,h,k+1=>by show cf ((a+b)::r9 as bs) (k+1)=_;rw[bG,bG,bG];exact zp (W! h) k
theorem vV:∀(as:_d)(k:Nat),cf (as++[0]) k=cf as k
 |[],k=>by show cf [0] k=cf [] k;rw[iG,bZ]
 |a::as,0=>rfl
 |a::as,k+1=>by show cf (a::(as++[0])) (k+1)=_;rw[bG,bG];exact vV as k
theorem vW(n k:Nat):cf (br (n+1)) (k+1)=cf (br n) (k+1)+cf (br n) k:=by show cf (r9 (br n++[0]) (0::br n)) (k+1)=_;rw[zp (by rw[Vm,Vl];rfl),vV,bG]
theorem uM:∀n,cf (br n) 0=1
 |0=>rfl
 |n+1=>by show cf (r9 (br n++[0]) (0::br n)) 0=_;rw[zp (by rw[Vm,Vl];rfl),vV,uM n];rfl
theorem uN:∀(n k:Nat),((k:Int)+1)*cf (br (n+1)) (k+1)=((n:Int)+1)*cf (br n) k
 |0,0=>by decide
 |0,k+1=>by rw[vW];have e1:cf (br 0) (k+1+1)=0:=c! (by rw[vU];lia);have e2:cf (br 0) (k+1)=0:=c! (by rw[vU];lia);rw[e1,e2,Wj];show((k+1:Nat)+1:Int)*(0+0)=0;lia
 |n+1,0=>by have h:=uN n 0;rw[vW,uM];rw[uM]at h;have e:((0:Nat):Int)+1=1:=rfl;rw[e]at h⊢;rw[WQ]at h⊢;rw[h];lia
 |n+1,k+1=>by
  have h1:=uN n (k+1);have h2:=uN n k;have r:=vW n k;rw[vW (n+1) (k+1)];rw[XN,X8]at h1⊢;rw[XN,X8];generalize cf (br (n+1)) (k+1+1)=A at *;generalize cf (br (n+1)) (k+1)=B at *;generalize cf (br n) (k+1)=C at *;generalize cf (br n) k=E at *
  grind
def hm(a b:ah p):_d->ah p
 |[]=>0
 |c::l=>ak [c]*b ^ l.length+a*hm a b l
theorem tq(x:ah p):x ^ 0=1:=rfl
theorem k?(x:ah p)(n:Nat):x ^ (n+1)=x ^ n*x:=rfl
theorem FY:(ak [0]:ah p)=0:=rfl
theorem q_:(ak [1]:ah p)=1:=rfl
theorem D5(a b:ah p):∀l:_d,hm a b (l++[0])=b*hm a b l
 |[]=>by show ak [0]*b ^ 0+a*0=b*0;rw[FY,tq];grind
 |c::l=>by
  show ak [c]*b ^ (l++[0]).length+a*hm a b (l++[0])=b*(ak [c]*b ^ l.length+a*hm a b l);rw[D5 a b l,Vm,show([0]:_d).length=1 from rfl,k?];generalize b ^ l.length=w;generalize hm a b l=v
  grind
theorem Jc(a b:ah p):∀{as bs:_d},as.length=bs.length->hm a b (r9 as bs)=hm a b as+hm a b bs
 |[],[],_=>by show(0:ah p)=0+0;grind
 |x::as,y::bs,h=>by
  have l:=W! h;show ak [x+y]*b ^ (r9 as bs).length+a*hm a b (r9 as bs)=(ak [x]*b ^ as.length+a*hm a b as)+(ak [y]*b ^ bs.length+a*hm a b bs);rw[Jc a b l,vT l,jg,<-l];generalize b ^ as.length=w;generalize hm a b as=v;generalize hm a b bs=u
  grind
theorem Jd(a b:ah p):∀n,(a+b) ^ n=hm a b (br n)
 |0=>by show 1=ak [1]*b ^ 0+a*0;rw[tq,q_];grind
 |n+1=>by
  rw[k?,Jd a b n];show _=hm a b (r9 (br n++[0]) (0::br n));rw[Jc a b (by rw[Vm,Vl];rfl),D5];show _=b*hm a b (br n)+(ak [0]*b ^ (br n).length+a*hm a b (br n));rw[FY];generalize hm a b (br n)=v;generalize b ^ (br n).length=w
  grind
theorem NT{n:Int}(h:dM p=true)(hn:¬ n % p=0):∃t,(t*n) % p=1:=let⟨_,t,_,_,_,e⟩:=fN h hn [];⟨t,e⟩
theorem yf{n c:Int}(h:dM p=true)(hn:¬ n % p=0)(e:(n*c) % p=0):c % p=0:=by
 obtain⟨t,ht⟩:=NT h hn;have e1:(t*n*c) % p=c % p:=by rw[X_,ht,WQ,Yp _ (Zy p)]
 rw[<-e1,Wl,X_,e,Wj,XI]
theorem Je:∀n,cf (br n) n=1
 |0=>rfl
 |n+1=>by rw[vW,Je n,c! (by rw[vU];lia)];rfl
theorem QP(h:dM p=true){n:Nat}(hn:p=(n:Int)+1)(hk:k<n):cf (br (n+1)) (k+1) % p=0:=by
 have e:=uN n k;refine yf h (n:=(k:Int)+1) ?_ ?_
 .rw[V? (by lia) (by lia)];lia
 .rw[e,<-hn,X_,Int.emod_self,Wx,XI]
theorem Jf{c:Int}(h:c % p=0):(ak [c]:ah p)=0:=by refine mk_eq λk=>?_;show Cg p (cf [c] k) (cf [0] k);rw[iG,gM];obtain⟨q,hq⟩:=XO h;exact⟨q*one k,by rw[hq,Wl];lia⟩
theorem hmz(a b:ah p):∀(l:_d),l≠[]->(∀k,k+1<l.length->cf l k % p=0)->hm a b l=ak [cf l (l.length-1)]*a ^ (l.length-1)
 |[],h,_=>absurd rfl h
 |[c],_,_=>by show ak [c]*b ^ 0+a*0=ak [c]*a ^ 0;rw[tq,tq];grind
 |c::x::l,_,h=>by
  have ih:=hmz a b (x::l) (List.cons_ne_nil _ _) λk hk=>by have:=h (k+1) (by rw[Vl];lia);rw[bG]at this;exact this
  have h0:=h 0 (by rw[Vl,Vl];lia);show ak [c]*b ^ (x::l).length+a*hm a b (x::l)=ak [cf (c::x::l) (l.length+1)]*a ^ (l.length+1);rw[Jf (show c % p=0 from h0),ih,bG,k?];show 0*_+a*(ak [cf (x::l) l.length]*a ^ l.length)=_;generalize a ^ l.length=w;generalize b ^ (x::l).length=v;generalize (ak [cf (x::l) l.length]:ah p)=u
  grind
theorem CC(h:dM p=true)(a b:ah p):(a+b) ^ p.toNat=a ^ p.toNat+b ^ p.toNat:=by
 have hr:=au h;obtain⟨n,hn⟩:∃n:Nat,p=(n:Int)+1:=⟨(p-1).toNat,by lia⟩
 have ep:p.toNat=n+1:=by lia
 rw[ep,Jd];have hl:=vU (n+1);cases hb:br (n+1) with
 |nil=>rw[hb]at hl;cases hl
 |cons c l=>
  have ll:l.length=n+1:=by rw[hb,Vl]at hl;lia
  have c1:c=1:=by have:=uM (n+1);rw[hb]at this;exact this
  have z:=hmz a b l (λz=>by rw[z]at ll;cases ll) λk hk=>by have:=QP h hn (k:=k) (by lia);rw[hb,bG]at this;exact this
  have t:=Je (n+1);rw[hb,bG]at t;show ak [c]*b ^ l.length+a*hm a b l=_;rw[z,ll,show n+1-1=n from rfl,t,c1,q_,k? a n];generalize a ^ n=w;generalize b ^ (n+1)=v
  grind
def Xp:ah p:=ak [0,1]
theorem g?(c:Int)(l:_d):(ak (c::l):ah p)=ak [c]+Xp*ak l:=by
 refine eY λk=>?_;rw[b?,aX];have e:mF [0,1] (cf l) k=gR (cf l) k:=by show 0*cf l k+gR (mF [1] (cf l)) k=_;rw[dS (λj=>by rw[ph,WQ]) k];lia
 rw[e];cases k with
 |zero=>show c=c+0;lia
 |succ k=>
  rw[bG,bG,bZ];show _=0+cf l k;lia
theorem nL(m:_d):∀n:Nat,(ak (List.replicate n 0++m):ah p)=Xp ^ n*ak m
 |0=>by rw[tq];show ak m=1*ak m;grind
 |n+1=>by
  rw[VN,VI,g?,nL m n,FY,k?];generalize (Xp:ah p) ^ n=w
  grind
theorem one_pow:∀n:Nat,(1:ah p) ^ n=1
 |0=>rfl
 |n+1=>by rw[k?,one_pow n];grind
theorem uO(h:dM p=true):∀n:Nat,(ak [(n:Int)]:ah p) ^ p.toNat=ak [(n:Int)]
 |0=>by
  have hr:=au h;obtain⟨n,hn⟩:∃n:Nat,p.toNat=n+1:=⟨p.toNat-1,by lia⟩
  show(0:ah p) ^ p.toNat=0;rw[hn,k?];grind
 |n+1=>by rw[XN,X8,jg,CC h,uO h n,q_,one_pow]
def UE(P:Nat):_d->_d
 |[]=>[]
 |c::l=>c::(List.replicate (P-1) 0++UE P l)
theorem D6(h:dM p=true):∀L:_d,(∀c∈L,0<=c)->(ak L:ah p) ^ p.toNat=ak (UE p.toNat L)
 |[],_=>by
  have hr:=au h;obtain⟨n,hn⟩:∃n:Nat,p.toNat=n+1:=⟨p.toNat-1,by lia⟩
  have z:(ak []:ah p)=0:=eY λk=>by rw[bZ];exact(iG k).symm
  show(ak []:ah p) ^ p.toNat=ak [];rw[hn,k?,z];grind
 |c::l,hc=>by
  have hr:=au h;obtain⟨n,hn⟩:∃n:Nat,p.toNat=n+1:=⟨p.toNat-1,by lia⟩
  obtain⟨m,hm⟩:∃m:Nat,c=(m:Int):=⟨c.toNat,by have:=hc c Vz;lia⟩
  show _=ak (c::(List.replicate (p.toNat-1) 0++UE p.toNat l));rw[g?,g? c (_++_),CC h,nL,SA.mul_pow,<-D6 h l λx m=>hc x (VH _ m),hm,uO h,hn,show n+1-1=n from rfl,k? Xp n];generalize (Xp:ah p) ^ n=w;generalize (ak l:ah p) ^ (n+1)=v
  grind
theorem CD(n:Nat)(m:_d):∀k,cf (List.replicate n 0++m) k=if k<n then 0 else cf m (k-n):=by
 induction n with
 |zero=>intro k;rw[VE (by lia)];rfl
 |succ n ih=>
  intro k;rw[VN,VI];cases k with
  |zero=>rw[Vs (by lia)];rfl
  |succ k=>
   rw[bG,ih];by_cases z:k<n
   .rw[Vs z,Vs (by lia)]
   .rw[VE z,VE (by lia),show k+1-(n+1)=k-n by lia]
theorem Jg{P:Nat}(hP:0<P):∀(L:_d)(k:Nat),cf (UE P L) k=if k % P=0 then cf L (k / P)else 0
 |[],k=>by show cf [] k=_;rw[bZ,bZ];split<;>rfl
 |c::l,0=>by rw[Vs (Nat.zero_mod P),Nat.zero_div];rfl
 |c::l,k+1=>by
  show cf (c::(List.replicate (P-1) 0++UE P l)) (k+1)=_;rw[bG,CD];by_cases z:k<P-1
  .rw[Vs z,Nat.mod_eq_of_lt (by lia),VE (by lia)]
  .rw[VE z,Jg hP l,show k-(P-1)=k+1-P by lia];have e1:(k+1) % P=(k+1-P) % P:=Nat.mod_eq_sub_mod (by lia);have e2:(k+1) / P=(k+1-P) / P+1:=Nat.div_eq_sub_div hP (by lia);rw[e1,e2];by_cases y:(k+1-P) % P=0
   .rw[Vs y,Vs y,bG]
   .rw[VE y,VE y]
theorem Jh(h:dM p=true)(hU:Row p U)(nU:U≠[])(hm:((U.length:Int)-1) % p=0)(hd:∀k,¬ k % p.toNat=0->cf U k % p=0):(ak (gv U p):ah p) ^ p.toNat=ak U:=by
 have hr:=au h;have u0:0<U.length:=VA.mpr nU;obtain⟨m,hmm⟩:∃m:Nat,(U.length:Int)=p*m+1:=by have h1:=Wc ((U.length:Int)-1) p;have h2:0<=((U.length:Int)-1) / p:=Y1 (by lia) (by lia);refine⟨(((U.length:Int)-1) / p).toNat,?_⟩;rw[Wk h2];lia
 have e:=D4 (by lia) hmm;rw[D6 h (gv U p) (λc mc=>by
  rw[e]at mc;obtain⟨j,_,rfl⟩:=VR.mp mc;exact(hU.vH (by lia) _).1)]
 refine mk_eq λk=>?_;rw[Jg (by lia)];by_cases z:k % p.toNat=0
 .rw[Vs z];have ek:p.toNat*(k / p.toNat)=k:=Nat.mul_div_cancel' (Yi z);have:cf (gv U p) (k / p.toNat)=cf U k:=by
   rw[e];by_cases y:k / p.toNat<m+1
   .show((List.range (m+1)).map λj=>U.getD (p.toNat*j) 0).getD (k / p.toNat) 0=_;rw[VD,Vu,Wh y];show U.getD (p.toNat*(k / p.toNat)) 0=_;rw[ek];rfl
   .rw[c! (by rw[Vj,VW];lia),c! ?_];have h3:p.toNat*(m+1)<=p.toNat*(k / p.toNat):=ZI _ (by lia);rw[ek,Nat.mul_add]at h3;have h4:((p.toNat*m:Nat):Int)=p*m:=by rw[W_,Wk (by lia)]
    lia
  rw[this];exact Cg.refl p _
 .rw[VE z];obtain⟨q,hq⟩:=XO (hd k z);exact⟨-q,by rw[hq,X6];lia⟩
open SA (dc)
theorem pF{A G:_d}(h:UA p A B G):dG p G/\(ak A:ah p)=ak G*ak (b7 p A G)/\(ak B:ah p)=ak G*ak (b7 p B G)/\∃u v:ah p,ak G=u*ak A+v*ak B:=by
 have q:∀C:_d,aR p (cf C) (mF (b7 p C G) (cf G))->(ak C:ah p)=ak G*ak (b7 p C G):=λC e=>by rw[bH];exact mk_eq (e.trans (aR.of_eq (aX _ _)).symm)
 obtain⟨u,v,e⟩:=h.c;exact⟨⟨h.r,h.n,h.l⟩,q A h.a,q B h.b,ak u,ak v,mk_eq (e.trans (aR.of_eq λk=>by rw[b?,aX,aX]))⟩
theorem rF{P:_d}(h:dG p P)(l:P.length=1):P=[1]:=by obtain⟨x,rfl⟩:=List.length_eq_one_iff.mp l;rw[show x=1 from h.l1]
theorem nM(hp:2<=p){P:_d}(h:dG p P){z:ah p}(e:ak P*z=1):P=[1]:=by obtain⟨Q,_,_,nQ,l⟩:=r6 (by lia) (jf hp) (List.cons_ne_nil _ _) h (x:=z) (by rw[q_,e]);have:=VA.mpr nQ;have:=VA.mpr h.ne;exact rF h (by rw[show[(1:Int)].length=1 from rfl]at l;lia)
def jC:List (Nat×List Int)->ah p
 |[]=>1
 |q::l=>ak q.2 ^ q.1*jC l
theorem qz:∀(a b:List (Nat×List Int)),(jC (a++b):ah p)=jC a*jC b
 |[],b=>by show jC b=1*jC b;grind
 |q::a,b=>by
  show ak q.2 ^ q.1*jC (a++b)=ak q.2 ^ q.1*jC a*jC b;rw[qz a b];generalize (ak q.2:ah p) ^ q.1=w
  grind
theorem uP{x:ah p}:∀{ps:List (Nat×List Int)},(∀q∈ps,dc x (ak q.2))->dc x (jC ps)
 |[],_=>dc.one
 |q::l,h=>((h q Vz).pow q.1).mul (uP λr m=>h r (VH _ m))
theorem Ji:∀n:Nat,(SA.cst n:ah p)=ak [(n:Int)]
 |0=>rfl
 |n+1=>by show SA.cst n+1=_;rw[Ji n,XN,X8,jg,q_]
theorem dG.jD(hp:0<p){P:_d}(h:dG p P):∀(n:Nat)(x y:ah p),ak P ^ n*x=ak P ^ n*y->x=y
 |0,x,y,e=>by rw[tq]at e;grind
 |n+1,x,y,e=>by rw[k?,cF,cF]at e;exact h.cancel hp _ _ (dG.jD hp h n _ _ e)
structure Lv(p:Int)(F S1 U1:ah p)(m:Nat)(S U:_d)(ps:List (Nat×List Int)):Prop where
 mS:dG p S
 mU:dG p U
 eq:F=jC ps*ak S ^ m*ak U
 sq:dc (ak S:ah p) (dP (ak S))
 c1:∀q∈ps,dc (ak q.2:ah p) (ak S)/\dc (ak q.2:ah p) (ak U)/\dc (ak q.2:ah p) (dP (ak q.2))
 c2:ps.Pairwise λa b=>dc (ak a.2:ah p) (ak b.2)
 lt:∀q∈ps,1<=q.1/\q.1<m/\¬ q.1 % p.toNat=0
 mn:∀q∈ps,dG p q.2/\2<=q.2.length
 inc:ps.Pairwise λa b=>a.1<b.1
 dv:∃x,S1=ak S*x
 m1:1<=m
theorem Lv.step(hp:dM p=true){F S1 U1 a b:ah p}{S G P V:_d}{ps:List (Nat×List Int)}(L:Lv p F S1 U1 m S U ps)(hF:F=S1*U1)(hg:U1=a*F+b*dP F)(g:UA p S U G)(hP:dG p P)(hV:dG p V)(eP:(ak S:ah p)=ak G*ak P)(eV:(ak U:ah p)=ak G*ak V):
  Lv p F S1 U1 (m+1) G V (if 1<P.length then ps++[(m,P)]else ps)/\(1<P.length->¬ m % p.toNat=0):=by
 have hr:=au hp;obtain⟨mG,_,_,u,v,eG⟩:=pF g;have eS:(ak S:ah p)=ak P*ak G:=by rw[eP,bH]
 obtain⟨k1,k2,k3,k4,k5⟩:=SA.Ja (d:=dP) kZ eS eV eG L.sq;have kk:∀q∈ps,dc (ak q.2:ah p) (ak P)/\dc (ak q.2:ah p) (ak G)/\dc (ak q.2:ah p) (ak V):=λq mq=>SA.Jb eS eV (L.c1 q mq).1 (L.c1 q mq).2.1;have e1:=SA.step_eq L.eq eS eV;obtain⟨x,ex⟩:=L.dv;have dvG:∃y,S1=ak G*y:=⟨ak P*x,by rw[ex,eP];grind⟩
 have np:1<P.length->¬ m % p.toNat=0:=λlP z=>by
  have m0:(SA.cst m:ah p)=0:=by rw[Ji];refine Jf ?_;obtain⟨q,hq⟩:=Yi z;rw[hq,W_,Wk (by lia),X_,Int.emod_self,Wx,XI]
  have d0:dP (ak P ^ m:ah p)=0:=by
   refine hP.cancel (by lia) _ _ ?_;rw[SA.UD kZ,m0];generalize (ak P:ah p) ^ m=w
   grind
  obtain⟨y,hy⟩:=SA.A3 (d:=dP) kZ (P:=ak P) (W:=ak P ^ m) (Q:=jC ps*ak G ^ (m+1)*ak V) (F:=F) (S:=S1) (U:=U1) (x:=ak G*x) (a:=a) (b:=b) (by
   rw[e1];generalize (ak P:ah p) ^ m=w;generalize (ak G:ah p) ^ (m+1)=t
   grind) d0 hF hg (by rw[ex,eS];grind) (((uP λq mq=>(kk q mq).1.symm).mul (k1.pow _)).mul k5) (hP.jD (by lia) m)
  rw[nM (by lia) hP hy]at lP;exact absurd lP (by decide)
 refine⟨?_,np⟩;by_cases lP:1<P.length
 .rw[Vs lP];refine⟨mG,hV,?_,k3,λq mq=>?_,?_,λq mq=>?_,λq mq=>?_,?_,dvG,by lia⟩
  .rw[e1,qz];show _=jC ps*(ak P ^ m*1)*_*_;generalize (ak P:ah p) ^ m=w;generalize (ak G:ah p) ^ (m+1)=t
   grind
  .rcases VP.mp mq with mq|mq
   .exact⟨(kk q mq).2.1,(kk q mq).2.2,(L.c1 q mq).2.2⟩
   .rw[Vy.mp mq];exact⟨k1,k5,k2⟩
  .refine WO.mpr ⟨L.c2,WN _ _,λq mq r mr=>?_⟩;rw[Vy.mp mr];exact(kk q mq).1
  .rcases VP.mp mq with mq|mq
   .have:=L.lt q mq;exact⟨this.1,by lia,this.2.2⟩
   .rw[Vy.mp mq];exact⟨L.m1,by show m<m+1;lia,np lP⟩
  .rcases VP.mp mq with mq|mq
   .exact L.mn q mq
   .rw[Vy.mp mq];exact⟨hP,lP⟩
  .refine WO.mpr ⟨L.inc,WN _ _,λq mq r mr=>?_⟩;rw[Vy.mp mr];exact(L.lt q mq).2.1
 .rw[VE lP];have p1:P=[1]:=rF hP (by have:=VA.mpr hP.ne;lia);refine⟨mG,hV,?_,k3,λq mq=>⟨(kk q mq).2.1,(kk q mq).2.2,(L.c1 q mq).2.2⟩,L.c2,λq mq=>?_,L.mn,L.inc,dvG,by lia⟩
  .rw[e1,p1,q_,one_pow];generalize (ak G:ah p) ^ (m+1)=t
   grind
  .have:=L.lt q mq;exact⟨this.1,by lia,this.2.2⟩
theorem Jj(hp:dM p=true){A:_d}(hA:Row p A)(hB:Row p B)(nA:A≠[])(l1:A.length<=5000)(l2:B.length<=5000):∃G,UA p A B G:=by obtain⟨_,_,G,_,_,_,_,g,_⟩:=zo hp (st:=[aI A,aI B]) (n:=0) (m:=1) rfl rfl hA hB (.inl nA) l1 l2;exact⟨G,g⟩
def lh(p:Int)(A:_d):_d:=bT ((fj A).map (·.fmod p))
theorem pG(hp:0<p)(A:_d):Row p (lh p A):=Row.of hp _
theorem r_(hp:0<p)(A:_d):(ak (lh p A):ah p)=dP (ak A):=by rw[IL];exact mk_eq (Row.cg hp _)
theorem pH(A:_d):(lh p A).length<=A.length-1:=by refine Wg (gF _) ?_;unfold fj dY;rw[Vj,Vj,Vj,VW];lia
theorem Lv.start(hp:dM p=true){F S:_d}(hS:dG p S)(gU:UA p F (lh p F) U)(eS:(ak F:ah p)=ak U*ak S)(l1:S.length<=5000):
  Lv p (ak F) (ak S) (ak U) 1 S U []/\∃a b:ah p,ak U=a*ak F+b*dP (ak F):=by
 have hr:=au hp;have bW:0<p:=by lia
 have eF:=r_ bW F;have rS:=pG bW S;have eD:=r_ bW S;have l2:(lh p S).length<=5000:=by have:=pH (p:=p) S;lia
 obtain⟨mU,_,e2,a,b,e3⟩:=pF gU;rw[eF]at e2 e3;obtain⟨D,gD⟩:=Jj hp hS.row rS hS.ne l1 l2;obtain⟨mD,d1,d2,u,v,d3⟩:=pF gD;rw[eD]at d2 d3;have d0:D=[1]:=UC (by lia) mD mU hS (f:=ak F) (w:=ak (b7 p (lh p F) U)) (a:=a) (b:=b) (a2:=0) (b2:=0) (by rw[eS,bH]) e2 e3 d1 d2;rw[d0,q_]at d3;refine⟨⟨hS,mU,?_,⟨u,v,d3.symm⟩,(λq m=>by cases m),.nil,(λq m=>by cases m),(λq m=>by cases m),.nil,⟨1,by grind⟩,Vv _⟩,a,b,e3⟩;show ak F=1*ak S ^ (0+1)*ak U;rw[k?,tq,eS]
 grind
theorem CF(hp:0<p)(h:dG p U)(e:Dvd p U (iO (cf U))):aR p (iO (cf U)) (λ_=>0):=by
 obtain⟨x,hx⟩:=e;obtain⟨r,hr⟩:∃r,r=bT ((fj U).map (·.fmod p)):=⟨_,rfl⟩
 have rr:Row p r:=by rw[hr];exact Row.of hp _
 have cg:aR p (cf r) (iO (cf U)):=by rw[hr];exact(Row.cg hp _).trans (aR.of_eq (nK U))
 have u0:=VA.mpr h.ne;have lr:r.length<U.length:=by
  have:r.length<=U.length-1:=jy rr.cut λk hk=>by
   have c:=cg k;have z:iO (cf U) k=0:=by show((k:Int)+1)*cf U (k+1)=0;rw[c! (by lia),Wj]
   rw[z]at c;have q:=rr.vH hp k;obtain⟨y,hy⟩:=c;by_cases w:y=0
   .rw[w]at hy;lia
   .exfalso;rcases Int.lt_or_gt_of_ne w with w|w
    .have:=WA (show y<=-1 by lia) (show 0<=p by lia);lia
    .have:=WA (show 1<=y by lia) (show 0<=p by lia);lia
  lia
 have:=jW hp rr h.ne h.l1 lr (cg.trans hx);rw[this]at cg;exact cg.symm.trans (aR.of_eq λk=>bZ k)
theorem zu(x:ah p)(m:Nat):∀n:Nat,x ^ (m+n)=x ^ m*x ^ n
 |0=>by rw[tq,Nat.add_zero];grind
 |n+1=>by
  rw[<-Nat.add_assoc,k?,k?,zu x m n];generalize x ^ m=a;generalize x ^ n=b
  grind
theorem CG(x:ah p)(m:Nat):∀s:Nat,x ^ (s*m)=(x ^ m) ^ s
 |0=>by rw[Nat.zero_mul,tq,tq]
 |s+1=>by rw[Nat.add_mul,Nat.one_mul,zu,CG x m s,k?]
def Mv(st:Nat)(qs:List (Nat×List Int)):List (Nat×List Int):=qs.map λq=>(st*q.1,q.2)
theorem D7(st:Nat):∀qs:List (Nat×List Int),(jC (Mv st qs):ah p)=jC qs ^ st
 |[]=>(one_pow st).symm
 |q::l=>by show ak q.2 ^ (st*q.1)*jC (Mv st l)=(ak q.2 ^ q.1*jC l) ^ st;rw[D7 st l,SA.mul_pow,CG]
theorem lx{q:Nat×List Int}:∀{ps:List (Nat×List Int)},q∈ps->1<=q.1->∃x,(jC ps:ah p)=ak q.2*x
 |r::l,m,h=>by
  rcases V_.mp m with rfl|m
  .obtain⟨n,hn⟩:∃n,q.1=n+1:=⟨q.1-1,by lia⟩
   refine⟨ak q.2 ^ n*jC l,?_⟩;show ak q.2 ^ q.1*jC l=_;rw[hn,k?];generalize (ak q.2:ah p) ^ n=w
   grind
  .obtain⟨x,e⟩:=lx m h;refine⟨ak r.2 ^ r.1*x,?_⟩;show ak r.2 ^ r.1*jC l=_;rw[e];generalize (ak r.2:ah p) ^ r.1=w
   grind
structure Ov(p:Int)(F:ah p)(st:Nat)(L:_d)(ps:List (Nat×List Int)):Prop where
 mL:dG p L
 eq:F=jC ps*ak L ^ st
 c1:∀q∈ps,dc (ak q.2:ah p) (ak L)/\dc (ak q.2:ah p) (dP (ak q.2))
 c2:ps.Pairwise λa b=>dc (ak a.2:ah p) (ak b.2)
 lt:∀q∈ps,1<=q.1/\¬ q.1 % st=0
 mn:∀q∈ps,dG p q.2/\2<=q.2.length
 ne:ps.Pairwise λa b=>a.1≠b.1
 s1:1<=st
theorem Ov.step(hp:dM p=true){F S1 U1:ah p}{st:Nat}{L L2:_d}{ps qs:List (Nat×List Int)}(O:Ov p F st L ps)(V:Lv p (ak L) S1 U1 m [1] U qs)(hL:dG p L2)(eU:(ak L2:ah p) ^ p.toNat=ak U):Ov p F (st*p.toNat) L2 (ps++Mv st qs):=by
 have hr:=au hp;obtain⟨n,hn⟩:∃n:Nat,p.toNat=n+1:=⟨p.toNat-1,by lia⟩
 have e1:(ak L:ah p)=jC qs*ak U:=by rw[V.eq,q_,one_pow];grind
 have s1:=O.s1;have dU:∃x,(ak U:ah p)=ak L2*x:=⟨ak L2 ^ n,by rw[<-eU,hn,k?];exact bH _ _⟩
 obtain⟨x,ex⟩:=dU;have cL:∀q∈ps,dc (ak q.2:ah p) (ak L2)/\∀r∈qs,dc (ak q.2:ah p) (ak r.2):=λq mq=>by have c:=(O.c1 q mq).1;refine⟨c.of_dvd (x:=x*jC qs) (by rw[e1,ex];grind),λr mr=>?_⟩;obtain⟨y,ey⟩:=lx (p:=p) mr (V.lt r mr).1;exact c.of_dvd (x:=y*ak U) (by rw[e1,ey];grind)
 have ms:∀{q},q∈Mv st qs->∃r∈qs,q=(st*r.1,r.2):=λ{q}mq=>by obtain⟨r,mr,e⟩:=VR.mp mq;exact⟨r,mr,e.symm⟩
 have nd:∀r∈qs,¬ (st*r.1) % (st*p.toNat)=0:=λr mr z=>by
  rw[Nat.mul_mod_mul_left]at z;rcases Nat.mul_eq_zero.mp z with z|z
  .lia
  .exact(V.lt r mr).2.2 z
 have ns:∀q∈ps,∀r∈qs,q.1≠st*r.1:=λq mq r mr e=>(O.lt q mq).2 (by rw[e,ZV]);refine⟨hL,?_,λq mq=>?_,?_,λq mq=>?_,λq mq=>?_,?_,Nat.mul_pos s1 (by lia)⟩
 .rw[qz,D7,O.eq,e1,SA.mul_pow,<-eU,CG];generalize (jC qs:ah p) ^ st=w;generalize ((ak L2:ah p) ^ p.toNat) ^ st=v
  grind
 .rcases VP.mp mq with mq|mq
  .exact⟨(cL q mq).1,(O.c1 q mq).2⟩
  .obtain⟨r,mr,rfl⟩:=ms mq;exact⟨(V.c1 r mr).2.1.of_dvd ex,(V.c1 r mr).2.2⟩
 .refine WO.mpr ⟨O.c2,Wb.mpr V.c2,λq mq r mr=>?_⟩;obtain⟨r',mr',rfl⟩:=ms mr;exact(cL q mq).2 r' mr'
 .rcases VP.mp mq with mq|mq
  .refine⟨(O.lt q mq).1,λz=>(O.lt q mq).2 ?_⟩;exact Zq (Nat.dvd_trans (Nat.dvd_mul_right st p.toNat) (Yi z))
  .obtain⟨r,mr,rfl⟩:=ms mq;exact⟨Nat.mul_pos s1 (V.lt r mr).1,nd r mr⟩
 .rcases VP.mp mq with mq|mq
  .exact O.mn q mq
  .obtain⟨r,mr,rfl⟩:=ms mq;exact V.mn r mr
 .refine WO.mpr ⟨O.ne,Wb.mpr (V.inc.imp λ{a b}h e=>?_),λq mq r mr=>?_⟩
  .have:=Y' s1 e;lia
  .obtain⟨r',mr',rfl⟩:=ms mr;exact ns q mq r' mr'
abbrev pbT:MT:=f9 (ai vf (ao bc (aa jL ag)) cH)
abbrev pbI:MB:=sU (f9 (ai vf (ao bc (aa Bw ag)) cH)) (yN dz oY Bw) fF
abbrev pbB:MB:=ax (aJ 8 (ao PM.dj (aa bq (aa jL (aa iP ag))))) (ax (aJ 9 (ai bS (ao PM.parted (aa bq (aa jL (aa zY ag)))) dE)) (ax pbI (ax (aJ 6 zY) (ax (aJ 5 (ai bS (ao PM.parted (aa bq (aa iP (aa zY ag)))) dE)) (HY 7 Fl cT)))))
theorem jY{s:af}{n:Nat}(h1:s[n]?=some (.lst us))(h2:s[d]?=some (.dK aY)):d≠n:=by intro z;rw[z,h1]at h2;cases h2
def aba(μ:MN.Env)(s:af):Nat:=match(μ[5]?:Option (Option aj)),(μ[6]?:Option (Option aj)) with
 |some (some (.loc k)),some (some (.loc j))=>fT k s+fT j s
 |_,_=>0
theorem fW{s:af}{A:_d}(h:s[k]?=some (aI A)):fT k s=A.length:=by unfold fT;rw[ay h];exact az A
abbrev En:=Nat×Nat×List Int
def xi(e:En):fG×aj:=(.inl (e.1:Int),.loc e.2.1)
theorem Jk{k:fG}(h:∀kv∈aY,kv.1≠k):yK aY k v=aY++[(k,v)]:=by unfold yK;rw[VE];intro z;obtain⟨kv,m,e⟩:=List.any_eq_true.mp z;exact h kv m (Wz e)
structure PbL(p:Int)(D:Nat)(st:af)(d:Nat)(x1 x4:Option aj)(sN:Nat)(F S1 U1:ah p)(es0:List En)(m:Nat)(μ:MN.Env)(s:af)(kS kU:Nat)(S U:_d)(es:List En)(qs:List (Nat×List Int)):Prop where
 env:∃x8 x9,μ=[qI p, x1, qL d, qI (sN:Int), x4, qL kU, qL kS, qI ((sN:Int)*(m:Int)), x8, x9]
 fr:Fr st s
 hd:st.length<=d
 dk:s[d]?=some (.dK ((es0++es).map xi))
 re:∀e∈es0++es,s[e.2.1]?=some (aI e.2.2)
 eq_:es.map (λe=>(e.1,e.2.2))=Mv sN qs
 ct:(es0++es).length+(S.length-1)+(U.length-1)<=D
 lS:s[kS]?=some (aI S)
 lU:s[kU]?=some (aI U)
 dv:Dvd p U (mF S (iO (cf U)))
 lv:Lv p F S1 U1 m S U qs
 ap:(es0++es).Pairwise λa b=>a.2.1<b.2.1
 fh:∀e∈es0++es,st.length<=e.2.1
section
variable{D:Nat}{st:af}{sN:Nat}{F S1 U1 a b:ah p}{es0:List En}
theorem Jl(hp:dM p=true)(hD:D<=2000)(s1:1<=sN)(n0:∀e∈es0,¬ e.1 % sN=0)(hF:F=S1*U1)(hg:U1=a*F+b*dP F){μ:MN.Env}{s:af}{kS kU:Nat}{S:_d}{es:List En}{qs:List (Nat×List Int)}(h:PbL p D st d x1 x4 sN F S1 U1 es0 m μ s kS kU S U es qs):
  ∃μ' s',cm pbT pbB μ s=.nx μ' s'/\∃m kS kU U' es qs,U'.length<=U.length/\PbL p D st d x1 x4 sN F S1 U1 es0 m μ' s' kS kU [1] U' es qs:=by
 have hr:=au hp;have bW:0<p:=by lia
 refine fK (t:=pbT) (body:=pbB) (λμ s=>∃m kS kU S U' es qs,U'.length<=U.length/\PbL p D st d x1 x4 sN F S1 U1 es0 m μ s kS kU S U' es qs) aba (λμ s=>∃m kS kU U' es qs,U'.length<=U.length/\PbL p D st d x1 x4 sN F S1 U1 es0 m μ s kS kU [1] U' es qs) ?_ μ s ⟨m,kS,kU,S,U,es,qs,Vv _,h⟩;clear h;obtain⟨LU,hLU⟩:∃L,L=U.length:=⟨_,rfl⟩
 rw[<-hLU];clear hLU;rintro μ s ⟨m,kS,kU,S,U,es,qs,hle,h⟩;obtain⟨x8,x9,rfl⟩:=h.env;obtain⟨L,hL⟩:∃L:Int,L=(S.length:Int):=⟨_,rfl⟩
 have kl:bc [.loc kS] s=.ok (.int L) s:=by rw[aQ (ay h.lS),az,hL]
 have s0:0<S.length:=VA.mpr h.lv.mS.ne;have u0:0<U.length:=VA.mpr h.lv.mU.ne;have ct:=h.ct;by_cases h1:S.length=1
 .have e:=rF h.lv.mS h1;have h0:decide ((1:Int)<L)=false:=V2 (by rw[hL,h1];decide);rw[e]at h;exact .inl ⟨s,by simp only[aq,aD,aM,aE,aC,aw,bN,bo,bh,aG,av,aA,gq,aU,aK,kl,h0],m,kS,kU,U,es,qs,hle,h⟩
 .have h0:decide ((1:Int)<L)=true:=V7 (by lia);obtain⟨s1',kF,G,e1,F1,_,lF,gG,_⟩:=zo hp h.lS h.lU h.lv.mS.row h.lv.mU.row (.inl h.lv.mS.ne) (by lia) (by lia);have yb:¬ aL G % p=0:=by rw[gG.l,V? (by lia) (by lia)];lia
  obtain⟨qS,_,_,_,qlS⟩:=fU hp (as:=S) gG.n yb;obtain⟨qU,_,_,_,qlU⟩:=fU hp (as:=U) gG.n yb;obtain⟨nP,eP,lP1⟩:=oF bW h.lv.mS.row h.lv.mS.ne qS gG.n gG.l gG.a;obtain⟨nV,eV,lV⟩:=oF bW h.lv.mU.row h.lv.mU.ne qU gG.n gG.l gG.b;have g0:0<G.length:=VA.mpr gG.n;have p0:0<(b7 p S G).length:=VA.mpr nP;have v0:0<(b7 p U G).length:=VA.mpr nV;obtain⟨mG,g1,g2,_⟩:=pF gG;have mP:dG p (b7 p S G):=⟨qS,nP,by rw[<-lP1];exact h.lv.mS.l1⟩
  have mV:dG p (b7 p U G):=⟨qU,nV,by rw[<-lV];exact h.lv.mU.l1⟩
  obtain⟨LV,_⟩:=h.lv.step hp hF hg gG mP mV g1 g2;obtain⟨s2,kP,z2,e2,F2,lkP,_,_,lP,_⟩:=gn hp (ay (F1 _ _ h.lS)) lF gG.n yb (by lia) (by lia);have tu:=F1.trans F2;have QR:=tu _ _ h.dk;obtain⟨LP,hLP⟩:∃L:Int,L=((b7 p S G).length:Int):=⟨_,rfl⟩
  have kp:bc [.loc kP] s2=.ok (.int LP) s2:=by rw[aQ (ay lP),az,hLP]
  obtain⟨pI,yg⟩:∃pI:Int,pI=(sN:Int)*(m:Int):=⟨_,rfl⟩
  rw[<-yg];obtain⟨s3,pU,ei,dk3,F3,re3,q3,c3,lF3,lU3,ap3,fh3⟩:∃s3 pU,pbI [qI p, x1, qL d, qI (sN:Int), x4, qL kU, qL kS, qI pI, qL kF, qL kP] s2=.nx [qI p, x1, qL d, qI (sN:Int), x4, qL kU, qL kS, qI pI, qL kF, qL kP] s3/\s3[d]?=some (.dK ((es0++pU).map xi))/\Fr st s3/\(∀e∈es0++pU,s3[e.2.1]?=some (aI e.2.2))/\pU.map (λe=>(e.1,e.2.2))=Mv sN (if 1<(b7 p S G).length then qs++[(m,b7 p S G)]else qs)/\(es0++pU).length+(G.length-1)+((b7 p U G).length-1)<=D/\s3[kF]?=some (aI G)/\s3[kU]?=some (aI U)/\((es0++pU).Pairwise λa b=>a.2.1<b.2.1)/\∀e∈es0++pU,st.length<=e.2.1:=by
   by_cases hq:1<(b7 p S G).length
   .have hq0:decide ((1:Int)<LP)=true:=V7 (by lia);have nw:∀kv∈(es0++es).map xi,kv.1≠.inl pI:=λkv mk e=>by
     obtain⟨x,mx,rfl⟩:=VR.mp mk;have ex:(x.1:Int)=pI:=by injection e
     rw[yg,<-W_]at ex;have ex':x.1=sN*m:=by lia
     rcases VP.mp mx with mx|mx
     .exact n0 x mx (by rw[ex',ZV])
     .have:(x.1,x.2.2)∈Mv sN qs:=by rw[<-h.eq_];exact V1 mx
      obtain⟨q,mq,eq⟩:=VR.mp this;have e3:sN*q.1=x.1:=WR Prod.fst eq;rw[ex']at e3;have:=Y' s1 e3;have:=(h.lv.lt q mq).2.1;lia
    have pn:=Jk (v:=.loc kP) nw;have ek:(es0++es).map xi++[(.inl pI,.loc kP)]=(es0++(es++[(sN*m,kP,b7 p S G)])).map xi:=by rw[<-V6,VS (l₁:=es0++es)];show _=_++[((.inl ((sN*m:Nat):Int):fG),aj.loc kP)];rw[W_,yg]
    refine⟨s2.set d (.dK (yK ((es0++es).map xi) (.inl pI) (.loc kP))),es++[(sN*m,kP,b7 p S G)],?_,by rw[g6 QR,pn,ek],(h.fr.trans tu).set h.hd _,λe me=>?_,?_,?_,gg (F2 _ _ lF) (jY (F2 _ _ lF) QR),gg (tu _ _ h.lU) (jY (tu _ _ h.lU) QR),by
     rw[<-V6];refine WO.mpr ⟨h.ap,WN _ _,λx mx y my=>?_⟩;rw[Vy.mp my];have:=NQ (F1 _ _ (h.re x mx));show x.2.1<kP;lia,λe me=>by
     rw[<-V6]at me;rcases VP.mp me with me|me
     .exact h.fh e me
     .rw[Vy.mp me];have:=(h.fr.trans F1).len;show st.length<=kP;lia⟩
    .have ep:yN dz oY Bw [qI p, x1, qL d, qI (sN:Int), x4, qL kU, qL kS, qI pI, qL kF, qL kP] s2=.nx [qI p, x1, qL d, qI (sN:Int), x4, qL kU, qL kS, qI pI, qL kF, qL kP] (s2.set d (.dK (yK ((es0++es).map xi) (.inl pI) (.loc kP)))):=by
      have pU:rA s2 (.loc d) (.int pI) (.loc kP)=some (s2.set d (.dK (yK ((es0++es).map xi) (.inl pI) (.loc kP)))):=by unfold rA;dsimp only;rw[QR];dsimp only;rw[Vs (by rw[Vj,Vt];lia)];rfl
      show(match rA s2 (.loc d) (.int pI) (.loc kP) with
       |some pV=>e?.nx _ pV
       |none=>.bad)=_
      rw[pU]
     simp only[aq,aF,aD,aM,aE,aC,aw,iV,bN,bo,bh,aG,av,aA,b9,gq,aU,aK,kp,hq0,ep]
    .rw[<-V6]at me;rcases VP.mp me with me|me
     .have:=tu _ _ (h.re e me);exact gg this (jY this QR)
     .rw[Vy.mp me];exact gg lP (jY lP QR)
    .rw[Vs hq,VS,h.eq_];unfold Mv;rw[VS];rfl
    .rw[<-V6,Vm];show(es0++es).length+1+_+_<=D;lia
   .have hq0:decide ((1:Int)<LP)=false:=V2 (by lia);exact⟨s2,es,by simp only[aq,aF,aD,aM,aE,aC,aw,d8,bN,bo,bh,aG,av,aA,cQ,b9,gq,aU,aK,kp,hq0],QR,h.fr.trans tu,λe me=>tu _ _ (h.re e me),by rw[VE hq];exact h.eq_,by lia,F2 _ _ lF,tu _ _ h.lU,h.ap,h.fh⟩
  obtain⟨s4,kV,z4,e4,F4,_,_,_,lV4,_⟩:=gn hp (ay lU3) lF3 gG.n yb (by lia) (by lia);obtain⟨a',b',hB⟩:=gG.c;refine .inr ⟨s,[qI p, x1, qL d, qI (sN:Int), x4, qL kV, qL kF, qI (pI+(sN:Int)), qL kF, qL kP],s4,?_,.inl ?_,⟨m+1,kF,kV,G,b7 p U G,pU,_,by lia,⟨_,_,by rw[yg,XN,X8,Xg,W3]⟩,F3.trans F4,h.hd,F4 _ _ dk3,λe me=>F4 _ _ (re3 e me),q3,c3,F4 _ _ lF3,lV4,Mj bW gG.n gG.l gG.a gG.b hB h.dv,LV,ap3,fh3⟩,?_⟩
  .simp only[aq,aD,aM,aE,aC,aw,bN,bo,bh,aG,av,aA,gq,aU,aK,kl,h0]
  .rw[pbB];generalize pbI=I at ei⊢;simp only[aq,aF,aS,aD,aM,aE,aC,aw,bK,bN,aG,av,aA,aP,bf,aO,aU,aK,Vp,Vr,Io,Qt,aa3,T_,T!,e1,e2,bD tX,ei,e4]
  .show fT kV s4+fT kF s4<fT kU s+fT kS s;rw[fW lV4,fW (F4 _ _ lF3),fW h.lU,fW h.lS];lia
end
abbrev poT:MT:=f9 (ai vf (ao bc (aa ff ag)) cH)
abbrev poW:MB:=cm pbT pbB
abbrev poX:ME:=uL iP bq
abbrev UG:MB:=ax (aJ 5 (ao PM.dj (aa bq (aa ff (aa (ao PM.fJ (aa bq (aa ff ag))) ag))))) (ax (aJ 6 (ai bS (ao PM.parted (aa bq (aa ff (aa iP ag)))) dE)) (ax (aJ 7 cT) (ax poW (ax (aJ 4 poX) (aJ 3 (ai bX cT bq))))))
def abb(μ:MN.Env)(s:af):Nat:=match(μ[4]?:Option (Option aj)) with
 |some (some (.loc k))=>fT k s
 |_=>0
def BA(es:List En):List (Nat×List Int):=es.map λe=>(e.1,e.2.2)
structure PoL(p:Int)(D:Nat)(st:af)(d:Nat)(x1:Option aj)(F:ah p)(sN:Nat)(μ:MN.Env)(s:af)(kL:Nat)(L:_d)(es:List En):Prop where
 env:∃x5 x6 x7 x8 x9,μ=[qI p, x1, qL d, qI (sN:Int), qL kL, x5, x6, x7, x8, x9]
 fr:Fr st s
 hd:st.length<=d
 dk:s[d]?=some (.dK (es.map xi))
 re:∀e∈es,s[e.2.1]?=some (aI e.2.2)
 ct:es.length+(L.length-1)<=D
 lL:s[kL]?=some (aI L)
 ov:Ov p F sN L (BA es)
 ap:es.Pairwise λa b=>a.2.1<b.2.1
 fh:∀e∈es,st.length<=e.2.1
section
variable{D:Nat}{st:af}{F:ah p}
theorem Jm(hp:dM p=true)(h:dG p U)(e:Dvd p U (mF [1] (iO (cf U)))):∀k,¬ k % p.toNat=0->cf U k % p=0:=by
 have hr:=au hp;have z:=CF (by lia) h (e.cg (aR.of_eq λk=>by rw[ph,WQ]));intro k hk;cases k with
 |zero=>exact absurd (Nat.zero_mod _) hk
 |succ k=>
  have c:=z k;refine yf hp (n:=(k:Int)+1) (λy=>hk ?_) ?_
  .obtain⟨q,hq⟩:=XO y;have:((p.toNat:Int)) ∣ ((k+1:Nat):Int):=⟨q,by rw[Wk (by lia),<-hq];lia⟩
   exact Zq (Int.natCast_dvd_natCast.mp this)
  .have c':Cg p (((k:Int)+1)*cf U (k+1)) 0:=c;obtain⟨y,hy⟩:=c';exact Int.emod_eq_zero_of_dvd ⟨y,hy.trans (Xa _)⟩
theorem Jn(hp:dM p=true)(hD:D<=2000){sN:Nat}{μ:MN.Env}{s:af}{kL:Nat}{L:_d}{es:List En}(h:PoL p D st d x1 F sN μ s kL L es):
  ∃μ' s',cm poT UG μ s=.nx μ' s'/\∃sN kL es,PoL p D st d x1 F sN μ' s' kL [1] es:=by
 have hr:=au hp;have bW:0<p:=by lia
 refine fK (t:=poT) (body:=UG) (λμ s=>∃sN kL L es,PoL p D st d x1 F sN μ s kL L es) abb (λμ s=>∃sN kL es,PoL p D st d x1 F sN μ s kL [1] es) ?_ μ s ⟨sN,kL,L,es,h⟩;clear h;rintro μ s ⟨sN,kL,L,es,h⟩;obtain⟨x5,x6,x7,x8,x9,rfl⟩:=h.env;obtain⟨N,hN⟩:∃N:Int,N=(L.length:Int):=⟨_,rfl⟩
 have kl:bc [.loc kL] s=.ok (.int N) s:=by rw[aQ (ay h.lL),az,hN]
 have mL:=h.ov.mL;have s0:0<L.length:=VA.mpr mL.ne;have ct:=h.ct;by_cases h1:L.length=1
 .have h0:decide ((1:Int)<N)=false:=V2 (by rw[hN,h1];decide);have e:=rF mL h1;rw[e]at h;exact .inl ⟨s,by simp only[aq,aD,aM,aE,aC,aw,bN,bo,bh,aG,av,aA,gq,aU,aK,kl,h0],sN,kL,es,h⟩
 .have h0:decide ((1:Int)<N)=true:=V7 (by lia);obtain⟨g,kB,e0,_,lB⟩:=l_ (iu hp) (ay h.lL) (by lia);have F0:=Fr.app s g;have lB':(s++g)[kB]?=some (aI (lh p L)):=lB;have rB:=pG bW L;have cB:aR p (cf (lh p L)) (iO (cf L)):=(Row.cg bW _).trans (aR.of_eq (nK L));have bL:=pH (p:=p) L;obtain⟨s1,kU,U,e1,F1,_,lU,gU,_⟩:=zo hp (F0 _ _ h.lL) lB' mL.row rB (.inl mL.ne) (by lia) (by lia);have yb:¬ aL U % p=0:=by rw[gU.l,V? (by lia) (by lia)];lia
  obtain⟨qS,_,_,_,_⟩:=fU hp (as:=L) gU.n yb;obtain⟨nS,eS,lS1⟩:=oF bW mL.row mL.ne qS gU.n gU.l gU.a;have u0:0<U.length:=VA.mpr gU.n;have q0:0<(b7 p L U).length:=VA.mpr nS;have mS:dG p (b7 p L U):=⟨qS,nS,by rw[<-lS1];exact mL.l1⟩
  obtain⟨_,g1,_,_⟩:=pF gU;obtain⟨LV,a,b,hg⟩:=Lv.start hp mS gU g1 (by lia);obtain⟨s2,kS,z2,e2,F2,_,_,_,lS,_⟩:=gn hp (ay (F1 _ _ (F0 _ _ h.lL))) lU gU.n yb (by lia) (by lia);have tu:=F0.trans (F1.trans F2);have dv:Dvd p U (mF (b7 p L U) (iO (cf U))):=II gU.a (cB.symm.trans gU.b);have em:(sN:Int)*((1:Nat):Int)=(sN:Int):=by lia
  obtain⟨μ',s3,ew,m',kS',kU',U',es1,qs,hle,H⟩:=Jl (D:=D) (st:=st) (d:=d) (x1:=x1) (x4:=some (.loc kL)) (sN:=sN) (es0:=es) (m:=1) (μ:=[some (.int p),x1,some (.loc d),some (.int (sN:Int)),some (.loc kL),some (.loc kU),some (.loc kS),some (.int (sN:Int)),x8,x9]) (s:=s2) (kS:=kS) (kU:=kU) (S:=b7 p L U) (U:=U) (es:=[]) (qs:=[]) hp hD h.ov.s1 (λe me=>(h.ov.lt (e.1,e.2.2) (V1 me)).2) (g1.trans (bH _ _)) hg ⟨⟨x8,x9,by rw[em]⟩,h.fr.trans tu,h.hd,by rw[Wi];exact tu _ _ h.dk,λe me=>by rw[Wi]at me;exact tu _ _ (h.re e me),rfl,by rw[Wi];lia,lS,F2 _ _ lU,dv,LV,by rw[Wi];exact h.ap,by rw[Wi];exact h.fh⟩;obtain⟨y8,y9,rfl⟩:=H.env;have mU:=H.lv.mU;have hm:=QC hp mU.row mU.ne mU.l1 (c:=1) (by rw[V? (by lia) (by lia)];lia) H.dv;obtain⟨rR,nR,lR,leR,ltR⟩:=Mu hr.1 mU.row mU.ne mU.l1 hm;have u1:0<U'.length:=VA.mpr mU.ne;have eU:=Jh hp mU.row mU.ne hm (Jm hp mU H.dv);have OV:=h.ov.step hp H.lv ⟨rR,nR,lR⟩ eU;have eps:BA es++Mv sN qs=BA (es++es1):=by unfold BA;rw[VS,<-H.eq_]
  rw[eps]at OV;obtain⟨D8,yg⟩:∃D8:Int,D8=(sN:Int)*(m':Int):=⟨_,rfl⟩
  rw[<-yg]at ew;have ex:poX [qI p, x1, qL d, qI (sN:Int), qL kL, qL kU', qL kS', qI D8, y8, y9] s3=.ok (.loc s3.length) (s3++[aI (gv U' p)]):=by show uK (.loc kU') (.int p) s3=_;unfold uK;dsimp only;rw[ay H.lU];dsimp only;rw[Vs bW,I?]
  have hct:=H.ct;rw[show([1]:_d).length=1 from rfl]at hct;obtain⟨QQ,UH⟩:∃QQ:Int,QQ=(sN:Int):=⟨_,rfl⟩
  rw[<-UH]at ew ex⊢;refine .inr ⟨s,[qI p, x1, qL d, qI (QQ*p), qL s3.length, qL kU', qL kS', qI D8, y8, y9],s3++[aI (gv U' p)],?_,.inl ?_,⟨sN*p.toNat,s3.length,gv U' p,es++es1,⟨_,_,_,_,_,by rw[UH,W_,Wk (by lia)]⟩,H.fr.more _,H.hd,cP H.dk _,λe me=>cP (H.re e me) _,by lia,bx _ _,OV,H.ap,H.fh⟩,?_⟩
  .simp only[aq,aD,aM,aE,aC,aw,bN,bo,bh,aG,av,aA,gq,aU,aK,kl,h0]
  .rw[UG];generalize poX=Z at ex⊢;have ew':poW [qI p, x1, qL d, qI QQ, qL kL, qL kU, qL kS, qI QQ, x8, x9] s2=_:=ew;generalize poW=W at ew'⊢;simp only[aq,aF,aS,aD,aM,aE,aC,aw,bK,bN,aG,av,aA,aP,bf,aO,aU,aK,Vp,Vr,e0,e1,e2,bD tX,ew',ex,mul_r (i:=QQ) (j:=p) (by lia) (by lia)]
  .show fT s3.length _<fT kL s;rw[fW (bx s3 ((gv U' p).map aj.int)),fW h.lL];by_cases hu:1<U'.length
   .have:=ltR hu;lia
   .lia
end
structure Mw(p:Int)(A:_d)(ps:List (Nat×List Int)):Prop where
 eq:(ak A:ah p)=jC ps
 sq:∀q∈ps,dc (ak q.2:ah p) (dP (ak q.2))
 c2:ps.Pairwise λa b=>dc (ak a.2:ah p) (ak b.2)
 p1:∀q∈ps,1<=q.1
 mn:∀q∈ps,dG p q.2/\2<=q.2.length
 ne:ps.Pairwise λa b=>a.1≠b.1
section
variable{st:af}
theorem pJ(hp:dM p=true){n:Nat}{A:_d}(ln:st[n]?=some (aI A))(hA:dG p A)(hl:A.length<=1000):
  ∃aH d es,PM.gE [.int p,.loc n] st=.ok (.loc d) aH/\Fr st aH/\st.length<=d/\aH[d]?=some (.dK (es.map xi))/\(∀e∈es,aH[e.2.1]?=some (aI e.2.2))/\es.length<1000/\Mw p A (BA es)/\(es.Pairwise λa b=>a.2.1<b.2.1)/\∀e∈es,st.length<=e.2.1:=by
 have a0:0<A.length:=VA.mpr hA.ne;have dn:(st++[a!.dK []])[st.length]?=some (.dK []):=by rw[V3 (Vv _),WY];rfl
 obtain⟨μ',s',ew,sN,kL,es,H⟩:=Jn (D:=999) (st:=st) (d:=st.length) (x1:=some (.loc n)) (F:=(ak A:ah p)) hp (by lia) (sN:=1) (μ:=[some (.int p),some (.loc n),some (.loc st.length),some (.int 1),some (.loc n),none,none,none,none,none]) (s:=st++[a!.dK []]) (kL:=n) (L:=A) (es:=[]) ⟨⟨_,_,_,_,_,rfl⟩,Fr.app _ _,Vv _,dn,(λ_ h=>by cases h),(by show 0+(A.length-1)<=999;lia),cP ln _,⟨hA,by show ak A=1*ak A ^ (0+1);rw[k?,tq];grind,(λ_ h=>by cases h),.nil,(λ_ h=>by cases h),(λ_ h=>by cases h),.nil,Vv _⟩,.nil,λ_ h=>by cases h⟩;obtain⟨x5,x6,x7,x8,x9,rfl⟩:=H.env;refine⟨s',st.length,es,?_,H.fr,Vv _,H.dk,H.re,by have:=H.ct;lia,⟨?_,λq m=>(H.ov.c1 q m).2,H.ov.c2,λq m=>(H.ov.lt q m).1,H.ov.mn,H.ov.ne⟩,H.ap,H.fh⟩
 .unfold PM.gE;rw[bC (np:=2) (us:=[aj.int p,.loc n]) rfl];show(ax (aJ 2 yM) (ax (aJ 3 cH) (ax (aJ 4 bP) (ax (cm poT UG) (bU dz)))) [qI p, qL n, qn, qn, qn, qn, qn, qn, qn, qn] st).fin=_;rw[aP,rY (v:=.loc st.length) (s1:=st++[a!.dK []]) rfl,aS,aP,rY (v:=.int 1) (s1:=st++[a!.dK []]) rfl,aS,aP,rY (v:=.loc n) (s1:=st++[a!.dK []]) rfl,aS];show(ax (cm poT UG) (bU dz) [qI p, qL n, qL st.length, qI 1, qL n, qn, qn, qn, qn, qn] (st++[a!.dK []])).fin=_;rw[aP,ew,aS];rfl
 .rw[H.ov.eq,q_,one_pow]
  grind
end
theorem A8{a b:List (Nat×List Int)}(h:a.Perm b):(jC a:ah p)=jC b:=by
 induction h with
 |nil=>rfl
 |cons x _ ih=>show ak x.2 ^ x.1*jC _=ak x.2 ^ x.1*jC _;rw[ih]
 |swap x y l=>
  show ak y.2 ^ y.1*(ak x.2 ^ x.1*jC l)=ak x.2 ^ x.1*(ak y.2 ^ y.1*jC l);generalize (ak y.2:ah p) ^ y.1=w;generalize (ak x.2:ah p) ^ x.1=v
  grind
 |trans _ _ h1 h2=>exact h1.trans h2
theorem Mw.perm{A:_d}{ps qs:List (Nat×List Int)}(h:Mw p A ps)(e:ps.Perm qs):Mw p A qs:=
 ⟨h.eq.trans (A8 e),λq m=>h.sq q (e.mem_iff.mpr m),(e.pairwise_iff λ{x y}c=>dc.symm c).mp h.c2,λq m=>h.p1 q (e.mem_iff.mpr m),λq m=>h.mn q (e.mem_iff.mpr m),(e.pairwise_iff λ{x y}c z=>c z.symm).mp h.ne⟩
theorem D9(hp:0<p)(a b:_d):(ak (mT p a b):ah p)=ak a*ak b:=mk_eq ((uH hp a b).trans (aR.of_eq (aX a b)).symm)
theorem lH(hp:0<p){a b:_d}(ha:Row p a)(hb:Row p b)(h:(ak a:ah p)=ak b):a=b:=Row.ext hp ha hb (qv h)
section
variable{n:Nat}{A:_d}{st:af}
abbrev prE:ME:=gW (aa (ai sW bP bq) (aa bq ag))
abbrev prC:ME:=dI 1 [2] (gr (ao qx (aa dz ag))) (aB 0) bI prE
end
theorem D_(hp:0<p){P:_d}(hP:dG p P)(l2:2<=P.length):∀(n:Nat){A:_d}{y:ah p},Row p A->A≠[]->(ak A:ah p)=ak P ^ n*y->∃Q,Row p Q/\Q≠[]/\y=ak Q/\Q.length+n<=A.length
 |0,A,y,hA,nA,e=>⟨A,hA,nA,by rw[tq]at e;grind,Vv _⟩
 |n+1,A,y,hA,nA,e=>by obtain⟨B,hB,eB,nB,lB⟩:=r6 hp hA nA hP (x:=ak P ^ n*y) (by rw[e,k?];generalize (ak P:ah p) ^ n=w;grind);obtain⟨Q,hQ,nQ,eQ,lQ⟩:=D_ hp hP l2 n hB nB eB.symm;exact⟨Q,hQ,nQ,eQ,by lia⟩
def zw:List (Nat×List Int)->Nat
 |[]=>0
 |q::ps=>q.1+zw ps
theorem zy(hp:0<p):∀{ps:List (Nat×List Int)}{A:_d},(∀q∈ps,dG p q.2/\2<=q.2.length)->Row p A->A≠[]->(ak A:ah p)=jC ps->zw ps+1<=A.length
 |[],A,_,hA,nA,_=>VA.mpr nA
 |q::ps,A,h,hA,nA,e=>by obtain⟨m1,m2⟩:=h q (Vz ..);obtain⟨Q,hQ,nQ,eQ,lQ⟩:=D_ hp m1 m2 q.1 hA nA e;have:=zy hp (λr m=>h r (VH _ m)) hQ nQ eQ.symm;show q.1+zw ps+1<=A.length;lia
theorem Jo:∀{ps:List (Nat×List Int)},(∀q∈ps,1<=q.1)->(ps.Pairwise λa b=>a.1≠b.1)->2*ps.length<=zw ps+1/\((∀q∈ps,q.1≠1)->2*ps.length<=zw ps)
 |[],_,_=>⟨We _,λ_=>We _⟩
 |q::ps,h,hn=>by
  obtain⟨n1,n2⟩:=X2.mp hn;obtain⟨i1,i2⟩:=Jo (λr m=>h r (VH _ m)) n2;have h1:=h q (Vz ..);have e:zw (q::ps)=q.1+zw ps:=rfl;rw[e,Vl];by_cases z:q.1=1
  .have:=i2 λr m w=>n1 r m (by rw[z,w]);exact⟨by lia,λk=>absurd z (k q (Vz ..))⟩
  .exact⟨by lia,λk=>by have:=i2 λr m=>k r (VH _ m);lia⟩
theorem Mw.GF(hp:0<p){A:_d}{ps:List (Nat×List Int)}(h:Mw p A ps)(hA:Row p A)(nA:A≠[]):2*ps.length<=A.length:=by have h1:=zy hp h.mn hA nA h.eq;have h2:=(Jo h.p1 h.ne).1;lia
theorem D!:∀{ps:List (Nat×List Int)}{q:Nat×List Int},q∈ps->q.1<=zw ps
 |r::ps,q,m=>by
  show q.1<=r.1+zw ps;rcases V_.mp m with e|m
  .rw[e];lia
  .have:=D! m;lia
theorem Mw.bd(hp:0<p){A:_d}{ps:List (Nat×List Int)}(h:Mw p A ps)(hA:Row p A)(nA:A≠[]){q:Nat×List Int}(m:q∈ps):q.1<A.length/\q.2.length<=A.length:=by have h1:=zy hp h.mn hA nA h.eq;have h2:=D! m;obtain⟨x,hx⟩:=lx (p:=p) m (h.p1 q m);obtain⟨Q,_,_,nQ,lQ⟩:=r6 hp hA nA (h.mn q m).1 (h.eq.trans hx);have:=VA.mpr nQ;exact⟨by lia,by lia⟩
def NU(e:En):aj:=.tup [.loc e.2.1,.int (e.1:Int)]
theorem A9:∀es:List En,vQ ((es.map xi).map (·.1))=some (es.map λe=>(e.1:Int))
 |[]=>rfl
 |e::es=>by show(vQ ((es.map xi).map (·.1))).map ((e.1:Int):: ·)=_;rw[A9 es];rfl
theorem zA:∀{es:List En},(es.Pairwise λa b=>a.1≠b.1)->∀e∈es,rp (es.map xi) (.inl (e.1:Int))=some (.loc e.2.1)
 |x::es,hn,e,m=>by
  obtain⟨n1,n2⟩:=X2.mp hn;unfold rp;rcases V_.mp m with z|m
  .rw[z,Vq,List.find?_cons_of_pos (by simp[xi])];rfl
  .have:x.1≠e.1:=n1 e m;rw[Vq,List.find?_cons_of_neg (by simp[xi];lia)];exact zA n2 e m
def I9(es:List En):List En:=es.mergeSort λa b=>decide (a.1<=b.1)
theorem yh(es:List En):(I9 es).Perm es:=XX es _
theorem D?(es:List En):(I9 es).Pairwise λa b=>a.1<=b.1:=by
 have h:=Yw (le:=λ(a b:En)=>decide (a.1<=b.1)) (λa b c h1 h2=>V7 (Wg (Wz h1) (Wz h2))) (λa b=>by
  rw[Y2,XU,XU];lia) es
 exact h.imp λh=>Wz h
theorem FZ(es:List En):I! (es.map λe=>(e.1:Int))=(I9 es).map λe=>(e.1:Int):=
 up_eq ((ye _).trans ((yh es).symm.map _)) (D2 _) (Wb.mpr ((D? es).imp λh=>Int.ofNat_le.mpr h))
structure abc(p:Int)(A:_d)(st aH:af)(kl:Nat)(es:List En):Prop where
 fr:Fr st aH
 fk:st.length<=kl
 lk:aH[kl]?=some (.lst (es.map NU))
 re:∀e∈es,st.length<=e.2.1/\e.2.1<kl/\aH[e.2.1]?=some (aI e.2.2)
 nd:es.Pairwise λa b=>a.2.1≠b.2.1
 pr:∃t,(t*aL A) % p=1/\Mw p (mulR p t A) (BA es)
 up:es.Pairwise λa b=>a.1<b.1
 ln:es.length<64
section
variable{n:Nat}{A:_d}{st:af}
theorem jZ(hp:dM p=true)(ln:st[n]?=some (aI A))(hA:Row p A)(nA:A≠[])(hl:A.length<=120):
  ∃aH kl es,PM.g_ [.int p,.loc n] st=.ok (.tup [.int (aL A),.loc kl]) aH/\abc p A st aH kl es:=by
 have hr:=au hp;have a0:0<A.length:=VA.mpr nA;obtain⟨s1,k1,t,e1,F1,_,l1,ht⟩:=A6 hp ln hA nA (by lia);obtain⟨rG,nG,lG,eG⟩:=qt hr.1 hA nA ht;obtain⟨s2,d,es,e2,F2,hd,dk,re,el,pr,ap,fh⟩:=pJ hp l1 ⟨rG,nG,lG⟩ (by lia);have GF:=pr.GF (by lia) rG nG;have lps:(BA es).length=es.length:=Vj ..;have ne:es.Pairwise λa b=>a.1≠b.1:=by have:=pr.ne;unfold BA at this;rw[Wb]at this;exact this
 obtain⟨pU,hes⟩:∃pU,pU=I9 es:=⟨_,rfl⟩
 have pm:pU.Perm es:=by rw[hes];exact yh es
 have ed:FR s2 d=some (es.map xi):=by unfold FR;rw[dk]
 obtain⟨s3,IE⟩:∃s3,s3=s2++[a!.lst ((pU.map λe=>(e.1:Int)).map aj.int)]:=⟨_,rfl⟩
 have esr:qx [.loc d] s2=.ok (.loc s2.length) s3:=by unfold qx;dsimp only;rw[ed];dsimp only;rw[A9];dsimp only;rw[Vs (by rw[Vj];lia),FZ,IE,hes]
 have hit:ar s3 s2.length=some ((pU.map λe=>(e.1:Int)).map aj.int):=by rw[IE];exact ay (bx _ _)
 have dk3:s3[d]?=some (.dK (es.map xi)):=by rw[IE];exact cP dk _
 have cp:=gL (a:=aB 0) (e:=prE) (g:=λaH=>ar aH s2.length=some ((pU.map λe=>(e.1:Int)).map aj.int)) (st:=s3) hit (λτ=>∃x,τ=[x,some (.loc d)]) (λi=>.tup [(rp (es.map xi) (.inl i)).getD .dD,.int i]) (pU.map λe=>(e.1:Int)) [none,some (.loc d)] [] ⟨_,rfl⟩ (by
  rintro i hi τ ⟨x,rfl⟩;obtain⟨e,me,rfl⟩:=VR.mp hi;have hk:=zA ne e (pm.mem_iff.mp me);obtain⟨i,hie⟩:∃i,i=(e.1:Int):=⟨_,rfl⟩
  rw[<-hie]at hk⊢;refine⟨[some (.int i),some (.loc d)],rfl,⟨_,rfl⟩,?_⟩;have e0:bq [some (.int i),some (.loc d)] s3=.ok (.int i) s3:=rfl;have e1:ai sW bP bq [some (.int i),some (.loc d)] s3=.ok (.loc e.2.1) s3:=by
   show sW (.loc d) (.int i) s3=_;unfold sW DK;dsimp only;rw[dk3];show(match(some (rp (es.map xi) (.inl i)):Option (Option aj)) with
    |some (some v)=>eZ.ok v s3
    |_=>.bad)=_
   rw[hk]
  rw[hk];unfold prE;rw[gY,av,e1,aq,aC,av,e0,aq,aC,aG,aq,aw,aq,aw,aq,jT];exact Vs (by rw[Vt];show 2<=16777216;decide))
 have evz:((pU.map λe=>(e.1:Int)).map λi=>aj.tup [(rp (es.map xi) (.inl i)).getD .dD,.int i])=pU.map NU:=by rw[V5];refine Zf λe me=>?_;show aj.tup [(rp (es.map xi) (.inl (e.1:Int))).getD .dD,.int (e.1:Int)]=NU e;rw[zA ne e (pm.mem_iff.mp me)];rfl
 rw[Vx,evz]at cp;have comp:prC [qI p, qL n, qL d] s2=.ok (.loc s3.length) (s3++[a!.lst (pU.map NU)]):=by
  show dI 1 [2] (gr (ao qx (aa dz ag))) (aB 0) bI prE [qI p, qL n, qL d] s2=_;have e0:ao qx (aa dz ag) [qI p, qL n, qL d] s2=.ok (.loc s2.length) s3:=by rw[g! (rZ (v:=.loc d) (s1:=s2) rfl),esr]
  rw[d6,ej,e0,aq,cY hit,aq,fX,Vs (by rw[Vj,Vj,pm.length_eq,Vt];lia),show iS 1 [2] [qI p, qL n, qL d]=[none,some (.loc d)]from rfl,cp,aq,ie]
 have Mx:=F1.trans F2;have F3:Fr s2 (s3++[a!.lst (pU.map NU)]):=by rw[IE];exact(Fr.app s2 _).more _
 have gx:ai bS bP (ja cH) [qI p, qL n, qL d] s2=.ok (.int (aL A)) s2:=by rw[iw (x:=.loc n) (s1:=s2) rfl (y:=.int (-1)) (s2:=s2) rfl];exact cO (ay (F2 _ _ (F1 _ _ ln))) (oC nA)
 have l3:s3.length=s2.length+1:=by rw[IE,Vm];rfl
 have f1:=F1.len;have f2:=F2.len;refine⟨s3++[a!.lst (pU.map NU)],s3.length,pU,?_,Mx.trans F3,by lia,bx _ _,λe me=>?_,?_,⟨t,ht,pr.perm (pm.symm.map _)⟩,?_,by rw[pm.length_eq];lia⟩
 .obtain⟨L,hL⟩:∃L:Int,L=(A.length:Int):=⟨_,rfl⟩
  have kl:bc [.loc n] st=.ok (.int L) st:=by rw[aQ (ay ln),az,hL]
  have z:(L==0)=false:=by simp;lia
  unfold PM.g_;rw[bC (np:=2) (us:=[aj.int p,.loc n]) rfl];show(ax _ (ax _ (bU (gW (aa (ai bS bP (ja cH)) (aa prC ag))))) [qI p, qL n, qn] st).fin=_;generalize prC=C at comp⊢;generalize ai bS bP (ja cH)=X at gx⊢;simp only[aq,aF,aS,bg,aD,aM,aE,aC,aw,jT,bJ,d8,bK,bN,bo,bh,aG,av,gY,aA,aP,cQ,ba,b9,bf,ig,aO,aU,aK,Vp,Vr,Vl,VB,Nat.reduceAdd,Vt,Nat.reduceLeDiff,↓reduceIte,kl,z,e1,e2,gx,comp]
 .have me':=pm.mem_iff.mp me;have h1:=fh e me';have h2:=re e me';have:=NQ h2;exact⟨by lia,by lia,F3 _ _ h2⟩
 .exact(pm.pairwise_iff λ{x y}h z=>h z.symm).mpr (ap.imp λh=>by lia)
 .have h1:pU.Pairwise λa b=>a.1<=b.1:=by rw[hes];exact D? es
  have h2:pU.Pairwise λa b=>a.1≠b.1:=(pm.pairwise_iff λ{x y}h z=>h z.symm).mpr ne;exact(h1.and h2).imp λh=>by lia
end
end PG
namespace L2
open PySem.Spec PyProof.Rows
structure gA.NV(L:gA):Prop where
 kind:L.scope.kind=.function
 co:L.scope.isCoroutine=false
 gen:L.scope.isGenerator=false
 gI:∀y∈L.scope.names,y.2≠.cell
 yu:∀y∈L.scope.names,y.2≠.free
 par:∀p∈L.ps,L.scope.names.lookup p=some .local
 nd:L.ps.Nodup
 bind:∀(pm cd ct:_j)(cl:List (Str×_l))(us:_e),us.length=L.ps.length->bindArgs (W.kla_fn "<lambda>" L.qual L.params L.body L.scope cl pm cd ct) ⟨us,[]⟩=pure (L.ps.zip us)
structure F_(L:gA)(H:Hp)(f c':_l):Prop where
 fn:∃pm Bv,Fz H f (W.kla_obj "<lambda>" L.qual L.params L.body L.scope [] pm c' Bv)
 cd:∃oc vs t,Fz H c' oc/\oc.data=.fields vs/\vs[1]?=some (.str L.qual t)
theorem F_.mono{f:_l}(C:F_ L H f c')(k:∀b o u,H b=some (.kh o u)->H' b=some (.kh o u)):F_ L H' f c':=by obtain⟨⟨pm,Bv,h1⟩,oc,vs,t,h2,h3⟩:=C;exact⟨⟨pm,Bv,k _ _ _ h1⟩,oc,vs,t,k _ _ _ h2,h3⟩
def vX(P:_n)(w:World)(K:_c)(mg:_a)(base:Heap)(L:gA)(f c':_l)(A:_m)(outer:List Env)(s:_k)(H:Hp):Cx where
 prog:=P
 w:=w
 K:=K
 mg:=mg
 base:=base
 A:=A.deeper (W.envX L.qual L.scope s.heap.objs.size f (.ref c') [])
 N:=L.ps
 s₀:=s
 H₀:=H
 env:=W.envX L.qual L.scope s.heap.objs.size f (.ref c') []
 outer:=outer
 stack:=W.envX L.qual L.scope s.heap.objs.size f (.ref c') []::outer
 ex:=[]
 calm:=true
 fn:=λ_=>true
 pn:=[]
 xe:=λ_ _=>False
section
variable{w:World}{f:_l}{outer:List Env}{s1:_k}{us:_e}{vs:List V}
theorem CH(LO:L.NV)(hd:A.handled=none)(e0:BK P w K mg base A outer s H)(hl:vs.length=L.ps.length)(r:bt vs us){h1:Heap}{tk:Nat}(Nq:h1.Ns s.heap.objs.size (λy=>(L.ps.zip us).reverse.lookup y))(hk:∀b o,s.heap.get? b=some o->h1.get? b=some o):
  a9 (vX P w K mg base L f c' A outer s H) [] (vs.map some) H {s with heap:=h1,toks:=tk}:=by
 refine⟨⟨e0.mod,LO.kind,rfl,rfl,Vv _,(λy z a h1 _=>by cases h1),λy hy=>?_,(λy a _ h2=>by cases h2),λ_=>hd,Around.frames_deeper e0.frames,.inr ⟨rfl,rfl⟩,(λb z=>by cases z),λb o e=>⟨(e0.bs b o e).1,(e0.bs b o e).2⟩,e0.N!,(λb _ _ z=>by cases z),(λb z=>by cases z),e0.uV,λb hb=>e0.M_ b hb⟩,
  rfl,e0.bare,Un.kept hk,⟨_,Nq,λi y v' h1 h2 h3=>?_⟩,(λy a h=>by cases h),e0.dg.fresh (Vv _),(λy a h=>by cases h),(λq hq=>by cases hq),e0.dg.kept hk,?_⟩
 .have hy:L.scope.names.lookup y=some .cell\/L.scope.names.lookup y=some .free:=hy;rcases hy with hy|hy
  .exact absurd rfl (LO.gI _ (Wy hy))
  .exact absurd rfl (LO.yu _ (Wy hy))
 .have h1:L.ps[i]?=some y:=h1;rw[Vu]at h2;have ha:vs[i]?=some v':=by
   cases e:vs[i]? with
   |none=>rw[e]at h2;cases h2
   |some a=>rw[e]at h2;cases h2;rfl
  obtain⟨u',hu,rv'⟩:=r.get ha;exact⟨u',rv',.inl ⟨LO.par y (V8 h1),Dy LO.nd h1 hu⟩⟩
 .show(vs.map some).length=L.ps.length;rw[Vj,hl]
theorem Jp(LO:L.NV)(C:F_ L H f c')(hr:gk (k+1) A)(e0:BK P w K mg base A outer s H)(hl:vs.length=L.ps.length)(r:bt vs us)(h:∃t,PE (vX P w K mg base L f c' A outer s H) L.body t/\t (vs.map some) H Q):
  codeAny (model P w) A (.call (.ref f) ⟨us,[]⟩) (CR (p9 P w) outer P w H s Q E) s:=by
 obtain⟨pm,Bv,hf⟩:=C.fn;obtain⟨oc,ws,t,BD,hd,hq⟩:=C.cd;have hlu:us.length=L.ps.length:=by rw[<-r.length];exact hl
 have lim:s.heap.NoLimit:=e0.mod.nolimit.keeps λb o e=>(e0.bs b o e).1;refine W.kla_callFunE hr.depth (e0.dg f _ hf).1 rfl LO.co LO.gen rfl ⟨c',oc,ws,t,rfl,(e0.dg c' _ BD).1,hd,hq⟩ ?_;rw[LO.bind _ _ _ _ us hlu];refine VF (wpAny_newFunctionEnv LO.gI (λy hy=>LO.par y.1 (XH (show(y.1,y.2)∈L.ps.zip us from hy)).1) (λh1 Nq hsb=>?_) LO.kind);have hk:∀b o,s.heap.get? b=some o->h1.get? b=some o:=λb o e=>hsb.extBut b o (V! (VJ e)) (Vn _ e);refine⟨lim.keeps hk,?_⟩;show codeAny _ _ (.expr L.body (W.envX L.qual L.scope s.heap.objs.size f (.ref c') [])) _ _;obtain⟨tr,pe,ht⟩:=h;have I:=CH (f:=f) (c':=c') (tk:=s.toks+(L.ps.zip us).length) LO hr.hd e0 hl r Nq hk;refine W.kla_codeExpr (WC (pe [] _ _ _ _ I ht) (λy s' hy=>?_) λ_ _ z=>z.elim);obtain⟨y',H',J,ry,qy⟩:=hy;exact⟨y',H',J.os,J.bare,J.base,J.dg,ry,qy⟩
end
end L2
namespace SO
open PySem.W PyProof.Rows
section
variable{w:World}{E:Z'}
theorem ints_get{us:_e}{xs:_d}(h:IntsAre us xs):∀(i:Nat),(us[i]?=none/\xs[i]?=none)\/∃n t,us[i]?=some (.int n t)/\xs[i]?=some n:=by induction h<;>grind
theorem My{a b:_l}{oa:Obj}{us vs:Array _j}{n:Nat}{xs ys:_d}(ha:s.heap.get? a=some oa)(da:oa.data=.seq us n)(hb:s.heap.get? b=some ob)(db:ob.data=.seq vs m)(ia:IntsAre us.toList xs)(ib:IntsAre vs.toList ys){R:Result->_k->Prop}(h:R (.ok (.ret (.bool (lexLt xs ys)))) s):
  ∀(k i:Nat),xs.length-i=k->i<=xs.length->i<=ys.length->lexLt (xs.drop i) (ys.drop i)=lexLt xs ys->codeAny (model prog w) A (.builtin "list.__eq__.loop" ⟨[.ref a,.ref b,rawInt i,rawInt 0],[]⟩) R s:=by
 have la:us.size=xs.length:=by rw[<-V9];exact ia.length
 have lb:vs.size=ys.length:=by rw[<-V9];exact ib.length
 intro k
 induction k with
 |zero=>
  intro i hk h1 h2 e;have ga:us[i]?=none:=Array.getElem?_eq_none (by lia);refine YA ZW ?_;rw[Around.under_plainId X0 _];show wpAny _ _ (Builtin.List.listItems (.ref a) >>= _) _ _ s;refine Vk (W4 ha da (Vk (W4 hb db ?_)));rw[WM,ga];refine Vk (W4 ha da (Vk (W4 hb db (VF ?_))));show R (.ok (.ret (.bool (decide (us.size<vs.size))))) s;rw[la,lb];rw[Xu (by lia)]at e;have:lexLt [] (ys.drop i)=decide (xs.length<ys.length):=by
   cases z:ys.drop i with
   |nil=>
    have:=List.drop_eq_nil_iff.mp z;show false=_;exact(V2 (by lia)).symm
   |cons y r=>
    have:i<ys.length:=by
     rcases WD i ys.length with q|q
     .exact q
     .rw[Xu q]at z;cases z
    exact(V7 (by lia)).symm
  rw[<-this,e];exact h
 |succ k ih=>
  intro i hk h1 h2 e;have hi:i<xs.length:=by lia
  refine YA ZW ?_;rw[Around.under_plainId X0 _];show wpAny _ _ (Builtin.List.listItems (.ref a) >>= _) _ _ s;refine Vk (W4 ha da (Vk (W4 hb db ?_)));rw[WM];rcases ints_get ia i with⟨_,z⟩|⟨x,t,gx,ex⟩
  .rw[Vo hi]at z;cases z
  rw[WH]at gx;have dx:xs.drop i=x::xs.drop (i+1):=by rw[Vo hi]at ex;rw[WW hi,VU ex]
  rcases ints_get ib i with⟨gy,z⟩|⟨y,u,gy,ey⟩
  .rw[WH]at gy;have hy:=Yn.mp z;rw[gx,gy];refine Vk (W4 ha da (Vk (W4 hb db (VF ?_))));show R (.ok (.ret (.bool (decide (us.size<vs.size))))) s;rw[la,lb,V2 (by lia)];rw[dx,Xu hy]at e;have e:false=lexLt xs ys:=e;rw[e];exact h
  .rw[WH]at gy;have hy:i<ys.length:=(VM.mp ey).1;have dy:ys.drop i=y::ys.drop (i+1):=by rw[Vo hy]at ey;rw[WW hy,VU ey]
   rw[dx,dy]at e;have e:(if x=y then lexLt (xs.drop (i+1)) (ys.drop (i+1))else decide (x<y))=lexLt xs ys:=e;rw[gx,gy];refine Vk (Zb ?_);by_cases q:x=y
   .rw[Vs q]at e;rw[Yg.mpr q,Vs rfl];refine VF ⟨plainId_quiet X0 _,?_⟩;have:=ih (i+1) (by lia) (by lia) (by lia) e;rw[XN]at this;exact this
   .rw[VE q]at e;rw[WU.mpr q,VE (by decide)];refine Vk (W4 ha da (Vk (W4 hb db ?_)));rw[gx,gy];dsimp only;refine Vk (show wpAny _ _ (compareOp .Lt (.int x t) (.int y u)) _ _ s from lt_int (VF ?_));show R (.ok (.ret (.bool (decide (x<y))))) s;rw[e];exact h
theorem Jq{a b:_l}{oa:Obj}{us vs:Array _j}{n:Nat}{xs ys:_d}{Q:Z'}(hu:A.units<cLine)(ha:s.heap.get? a=some oa)(ca:oa.cls=.type "list")(da:oa.data=.seq us n)(hb:s.heap.get? b=some ob)(cb:ob.cls=.type "list")(db:ob.data=.seq vs m)(ia:IntsAre us.toList xs)(ib:IntsAre vs.toList ys)(h:Q (.bool (lexLt xs ys)) s):
  wpAny (model prog w) A (compareOp .Lt (.ref a) (.ref b)) Q E s:=by
 show wpAny (model prog w) A (richCompare .Lt (.ref a) (.ref b)) Q E s;refine PySem.richCompare_meets_room (op:=.Lt) ⟨oa,ha,ca⟩ ⟨ob,hb,cb⟩ PySem.F.slot_list_lt PySem.F.entry_list_lt (PySem.F.args_list_lt_2 _ _) (S:=λ_ R s'=>s'=s/\R (.ok (.ret (.bool (lexLt xs ys)))) s) (λprog w A R s' h=>?_) ⟨rfl,(λe=>nomatch e),h⟩ hu
 .obtain⟨rfl,h⟩:=h;show wpAny _ _ (isInstance (.ref b) (.type "list") >>= _) _ _ _;refine Vk (Za (T:="list") (b:=true) ⟨ob,hb,cb⟩ (by first|exact Jr _|(rw[isSubtype_type];kernel_rfl)) ?_);exact VF ⟨plainId_quiet X0 _,My ha da hb db ia ib h _ 0 rfl (We _) (We _) rfl⟩
theorem Mz{a b:_l}{us vs:Array _j}{xs ys:_d}(hu:A.units<cLine)(ha:s.heap.IsList a us)(hb:s.heap.IsList b vs)(ia:IntsAre us.toList xs)(ib:IntsAre vs.toList ys):SeqAt.EqAt A s (.ref a) (.ref b) (decide (xs=ys)):=by
 have la:us.size=xs.length:=by rw[<-V9];exact ia.length
 have lb:vs.size=ys.length:=by rw[<-V9];exact ib.length
 by_cases hab:a=b
 .subst hab;obtain⟨o,ho,_,n,hd⟩:=ha;obtain⟨o2,Gz,_,n2,hd2⟩:=hb;rw[ho]at Gz;cases Gz;rw[hd]at hd2;cases hd2;have:xs=ys:=by rw[<-IW ia,<-IW ib]
  rw[V7 this];exact YB _
 .refine SeqAt.EqAt.of_refs hab ?_;by_cases hs:us.size=vs.size
  .have:=SeqAt.RcAt.lists (A:=A) (s:=s) (e:=λj=>decide (xs[j]?=ys[j]?)) ha hb hs hu (λj h1 h2=>by
    rcases ints_get ia j with⟨_,z⟩|⟨x,t,gx,ex⟩
    .rw[Vo (by lia)]at z;cases z
    .rcases ints_get ib j with⟨_,z⟩|⟨y,u,gy,ey⟩
     .rw[Vo (by lia)]at z;cases z
     .rw[WH,XS h1]at gx;rw[WH,XS h2]at gy;rw[VU gx,VU gy,ex,ey];have e:decide (some x=some y)=(x==y):=by
       by_cases q:x=y
       .rw[q];simp
       .rw[WU.mpr q];simp[q]
      rw[e];exact(PySem.MeetsSeq.EqGives.int x y t u).at _ _)
   have e:((List.range us.size).all λj=>decide (xs[j]?=ys[j]?))=decide (xs=ys):=by
    by_cases q:xs=ys
    .rw[q];simp
    .rw[V2 q];rw[List.all_eq_false];refine Xz λz=>q ?_;refine X7 λi=>?_;rcases WD i us.size with w|w
     .refine Xz λn=>z ⟨i,Xt.mpr w,by simp[n]⟩
     .rw[Wa (by lia),Wa (by lia)]
   rw[e]at this;exact this
  .have q:¬ xs=ys:=λz=>hs (by rw[la,lb,z]);rw[V2 q];exact ZN ha hb (by simp[hs]) hu
def Js(h:Heap)(v:_j)(k:_d):Prop:=∃a o aN n l t r us row,v=.ref a/\h.get? a=some o/\o.cls=.type "tuple" /\ o.data=.seq aN n/\aN.toList=[.int l t,.ref r]/\h.IsList r us/\IntsAre us.toList row/\k=l::row
theorem QS{Q:Bool->_k->Prop}{x y:_j}{k1 k2:_d}(hu:A.units<cLine)(h1:Js s.heap x k1)(h2:Js s.heap y k2)(h:Q (lexLt k1 k2) s):wpAny (model prog w) A (keyLt' (tuples' true) x y) Q E s:=by
 obtain⟨a,o,aN,n,l,t,r,us,row,rfl,ho,hc,hd,ht,hr,ir,rfl⟩:=h1;obtain⟨a2,o2,e!,n2,l2,t2,r2,us2,UI,rfl,Gz,Ai,hd2,ht2,hr2,ir2,rfl⟩:=h2;replace h:Q (if l=l2 then lexLt row UI else decide (l<l2)) s:=h;refine kat_lt ho hd Gz hd2 ?_;rw[ht,ht2];refine kat_cons (Zb ?_);by_cases e:l=l2
 .rw[Vs e]at h;rw[Yg.mpr e];refine kat_yes (kat_cons (Mz hu hr hr2 ir ir2 prog w _ _ ?_));by_cases q:row=UI
  .rw[V7 q];refine kat_yes (kat_nil ?_);rw[q,ji]at h;have z1:aN.size=2:=by rw[<-V9,ht];rfl
   have z2:e!.size=2:=by rw[<-V9,ht2];rfl
   rw[z1,z2];exact h
  .rw[V2 q];refine kat_no ?_;obtain⟨ob,hob,cb,m,db⟩:=hr;obtain⟨ob2,abd,cb2,m2,db2⟩:=hr2;exact kat_one _ _ (Jq hu hob cb db abd cb2 db2 ir ir2 h)
 .rw[VE e]at h;rw[WU.mpr e];exact kat_no (oneLt_int h)
end
def nN(xs:List (_d)):Prop:=xs.Pairwise λa b=>lexLt a b=true
inductive l!(h:Heap):_e->List (_d)->Prop
 |nil:l! h [] []
 |cons {v:_j} {x:_d} {vs:_e} {xs:List (_d)}:Js h v x->l! h vs xs->l! h (v::vs) (x::xs)
theorem l!.length{xs:List (_d)}(t:l! h vs xs):vs.length=xs.length:=by
 induction t with
 |nil=>rfl
 |cons _ _ ih=>rw[Vl,Vl,ih]
theorem l!.at_{xs:List (_d)}(t:l! h vs xs):∀i,i<vs.length->Js h (vs.getD i .none) (xs.getD i []):=by induction t<;>grind
theorem l!.kat{xs:List (_d)}(t:l! h vs xs):∃fs,KatTups h vs fs/\fs.length=vs.length/\∀v∈fs,∃n u,v=.int n u:=by
 induction t with
 |nil=>exact⟨[],.nil,rfl,λv m=>by cases m⟩
 |cons a _ ih=>
  obtain⟨fs,k,l,al⟩:=ih;obtain⟨a,o,aN,n,l',t,r,us,row,rfl,ho,hc,hd,ht,hr,ir,rfl⟩:=a;obtain⟨aN⟩:=aN;have ht:aN=[.int l' t,.ref r]:=ht;subst ht;refine⟨_,KatTups.cons ho hc hd rfl k,by rw[Vl,Vl,l],λv mv=>?_⟩;rcases V_.mp mv with rfl|mv
  .exact⟨l',t,rfl⟩
  .exact al v mv
theorem GG{l:List α}{i:Nat}(d:α)(h:i<l.length):l.getD i d=l[i]:=by grind
def QT(xs:List (_d))(i j:Nat):Bool:=lexLt (xs.getD i []) (xs.getD j [])
theorem Ea{xs:List (_d)}(nd:xs.Nodup):Ord (QT xs) xs.length where
 tr:=λ_ _ _ _ _ _ h1 h2=>vO h1 h2
 tot:=λi j hi hj ne h=>oE (λe=>ne (by
  rw[GG _ hi,GG _ hj]at e;exact(Zw nd).mp e)) h
 aa!:=λ_ _ _ _ h=>jB h
theorem MC:∀{vs:_e}{xs:List (_d)},vs.length=xs.length->(List.range xs.length).map (λi=>(vs.getD i Value.none,xs.getD i []))=vs.zip xs:=by
 intro vs xs hl;apply Yy
 .rw[Vj,VW,Xh,hl,YL]
 .intro i h1 h2;rw[Vj,VW]at h1;rw[Xc,YG,List.getElem_zip,GG _ (by rw[hl];exact h1),GG _ h1]
section
variable{w:World}{E:Z'}{ks:List (_d)}{D kS:_l}{kA:Array _j}{e1 c:Nat}{P:PySem.Fin->_k->Prop}
theorem F!(hu:A.units<cLine)(hD:s.heap.get? D=some (seqObj "list" #[] e1))(hk:s.heap.get? kS=some (seqObj "list" kA c))(ne:kS≠D)(t:l! s.heap kA.toList ks)(hl:kA.size=vs.length)(nd:ks.Nodup)(hz:vs.length<64)(h:∀(h1 h':Heap)(c':Nat)(zs:List (_j×List Int)),zs.Perm (vs.zip ks)->nN (zs.map (·.2))->(∀b o,b≠kS->s.heap.get? b=some o->h1.get? b=some o)->(∀b o,b≠D->h1.get? b=some o->h'.get? b=some o)->h'.get? D=some (seqObj "list" (zs.map (·.1)).toArray c')->P (.done (.ret .none)) {s with heap:=h'}):
  wpAny (model prog w) A (ksk_end D false vs.toArray e1 (.ref kS) kA) P E s:=by
 have lks:kA.toList.length=ks.length:=t.length;have lka:kA.toList.length=vs.length:=by rw[V9];exact hl
 have lv:vs.length=ks.length:=by lia
 have tail:∀(aH:SortSt)(zs:List (_j×List Int)),(arrOf aH).map (·.2)=(zs.map (·.1)).toArray->failedOf aH=none->zs.Perm (vs.zip ks)->nN (zs.map (·.2))->wpAny (model prog w) A (ksk_tail D false e1 (.ref kS) aH) P E s:=by
  intro aH zs ez hf z1 z2;have lz:zs.length=vs.length:=by rw[z1.length_eq,Xh,lv,YL]
  have s1:=Xi s.heap kS (Obj.mapSeq λ_=>(#[]:Array _j));have UJ:(s.heap.update kS (Obj.mapSeq λ_=>(#[]:Array _j))).get? D=some (seqObj "list" #[] e1):=(s1.2 D ne.symm).trans hD;have s2:=Xi (s.heap.update kS (Obj.mapSeq λ_=>(#[]:Array _j))) D (Obj.mapSeq λ_=>(zs.map (·.1)).toArray);obtain⟨c2,Ai⟩:∃c2,((s.heap.update kS (Obj.mapSeq λ_=>(#[]:Array _j))).update D (Obj.mapSeq λ_=>(zs.map (·.1)).toArray)).get? D=some (seqObj "list" (zs.map (·.1)).toArray c2):=⟨_,Yk UJ λ_=>(zs.map (·.1)).toArray⟩
  unfold ksk_tail;dsimp only;rw[ez,hf];refine Vk (Zm hk rfl ?_ (by rw[hl,Vt];lia) (We _));refine Vk (Zg ?_);refine Vk (seqEpoch_at UJ rfl ?_);refine Vk (Zm UJ rfl ?_ (We _) (by
   show((zs.map (·.1)).toArray).size<=_;rw[VG,Vj,lz,Vt];lia))
  simp only[bne_self_eq_false,YH,Yr];exact VF (h _ _ c2 zs z1 z2 (λb o h1 q=>(s1.2 b h1).trans q) (λb o h1 q=>(s2.2 b h1).trans q) Ai)
 unfold ksk_end;dsimp only;rw[VE VY,VE VY];by_cases h2:vs.toArray.size<2
 .rw[Vs h2,Vs h2];refine Vk (VF ?_);rw[StateT.run_pure];refine Vk (VF ?_);refine tail _ (vs.zip ks) ?_ rfl (.refl _) ?_
  .show(kA.zip vs.toArray).map (·.2)=_;apply Array.toList_inj.mp;rw[Array.toList_map,Array.toList_zip,List.map_snd_zip (show vs.length<=kA.toList.length by lia),List.map_fst_zip (by lia)]
  .unfold nN;rw[List.map_snd_zip (by lia)];rw[VG,lv]at h2
   match ks,h2 with
   |[],_=>exact .nil
   |[_],_=>exact WN _ _
 .rw[VE h2,VE h2];have l2:2<=vs.length:=by rw[VG]at h2;lia
  have kd:∀{Q:SortKind->_k->Prop},Q (tuples' true) s->wpAny (model prog w) A (keyKind' kA) Q E s:=λ{Q}q=>by
   obtain⟨fs,k,l,al⟩:=t.kat;have:=kat_kind (M:=model prog w) (A:=A) (E:=E) (s:=s) (Q:=Q) (T:=.type "int") k (by rw[l];lia) (λv m=>by
    obtain⟨n,u,rfl⟩:=al v m;exact Looks.of_pure rfl) (by decide) q
   rw[YS]at this;exact this
  refine Vk (kd ?_);have run:=kat_run (E:=E) (prog:=prog) (w:=w) (A:=A) (κ:=tuples' true) (s:=s) (ks:=kA.toList) (vs:=vs) (Q:=λaH s'=>∃p:Array Nat,arrOf aH=p.map (kas_item (kA.toList.toArray.zip vs.toArray))/\failedOf aH=none/\Pm ks.length p/\yd (QT ks) p ks.length/\s'=s)
   (G:=λp s'=>Pm ks.length p/\yd (QT ks) p ks.length/\s'=s) lka l2 hz (λp aH s' _ a2 a3 a4=>⟨p,a2,a3,a4⟩) (by
    rw[lv];refine Ok.wp (R:=λs'=>s'=s) (λi j s' C hi hj hs hC=>?_) (λp s' hp hs=>⟨hp.1,hp.2,hs⟩) (Mk (Ea nd) (by lia)) rfl;subst hs;exact QS hu (t.at_ i (by lia)) (t.at_ j (by lia)) (hC _ rfl))
  rw[YS]at run;refine Vk (WC run ?_ λ_ _ e=>e);rintro⟨⟨⟩,aH⟩ s' ⟨p,har,hf,hp,Tz,rfl⟩;refine tail aH (p.toList.map λi=>(vs.getD i Value.none,ks.getD i [])) ?_ hf ?_ ?_
  .have abe:arrOf aH=p.map (kas_item (kA.toList.toArray.zip vs.toArray)):=by rw[YS];exact har
   rw[kat_snds lka abe,V5];rfl
  .rw[<-MC lv];exact List.Perm.map _ hp.list
  .unfold nN;rw[V5,Wb,XR];intro i j hi hj hij;rw[V9,hp.size]at hi hj;have:=yd.lt (Ea nd) hp (Vv _) Tz hij hj;have e:∀{i:Nat}(hi:i<ks.length),g p i=p.toList[i]'(by rw[V9,hp.size];exact hi):=λ{i}hi=>by have:=hp.get hi;rw[<-WH,Vo (by rw[V9,hp.size];exact hi)]at this;exact(VU this).symm
   rw[e hi,e hj]at this;exact this
end
end SO
namespace L2
open PySem.Spec PyProof.Rows
open SO (nN Js l!)
section
variable{f:_l}{x:V}{u:_j}{E:Z'}
theorem a9.Du{D:_l}{o:HO}(I:a9 X ae σ H s)(fd:kJ X ae H D)(new:dA X.prog X.w (upd H D o) s.heap D o):a9 X ae σ (upd H D o) s:=by
 obtain⟨d0,d1,d2,d3,d4,d5⟩:=fd;have nb:∀b o,X.s₀.heap.get? b=some o->b ∉ X.ex->b≠D:=λb o e hx z=>by
  rw[z]at e hx;rcases d3 with q|q
  .exact hx q
  .exact absurd (VJ e) (Nat.not_lt.mpr q)
 refine⟨I.ok,I.os,I.bare,⟨I.base.keep,I.base.slot,λb o e n hx=>by rw[aW (nb b o e hx)];exact I.base.free b o e n hx,I.base.there,λb xs e=>by rw[aW (bj (I.base.pz b xs e) d0)];exact I.base.pz b xs e,λb o u e=>by rw[aW (bj (I.base.oM b o u e) d0)];exact I.base.oM b o u e,λb ps e=>by
  obtain⟨more,q⟩:=I.base.pX b ps e;exact⟨more,by rw[aW (bj q d0)];exact q⟩⟩,I.loc,I.cell,by rw[aW d1.symm];exact I.free,λy c e=>by rw[aW (d4 y c e)];exact I.pY y c e,λp hp=>?_,I.dg.Du d0 new,I.len⟩
 obtain⟨p1,p2,p3⟩:=I.pin p hp;exact⟨p1,by rw[aW (d5 p hp)];exact p2,p3⟩
def Jt(X:Cx)(L:gA)(f c':_l)(x:V)(H:Hp)(Q:VK):Prop:=
 [x].length=L.ps.length/\F_ L H f c'/\∀s:_k,∃t,PE (vX X.prog X.w X.K X.mg X.base L f c' X.A.in1.in1 X.stack s H) L.body t/\t [some x] H Q
theorem F?(LO:L.NV)(hr:gk (k+3) X.A)(I:a9 X ae σ H s)(r:bM x u)(q:Jt X L f c' x H Q):wpAny (model X.prog X.w) X.A.in1.in1 (call (.ref f) [u]) (EP X ae σ Q) E s:=by
 obtain⟨hl,C,ht⟩:=q;have e0:=I.SD;have e1:BK X.prog X.w X.K X.mg X.base X.A.in1.in1 X.stack s H:=⟨e0.frames,e0.mod,e0.bs,e0.N!,e0.uV,e0.M_,e0.dg,e0.bare⟩
 refine wpAny_call (Ys (Jp (E:=XF) (k:=k) LO C ((hr.in1).in1) e1 hl (.cons r .nil) (ht s)) λr s' hq=>?_);cases r with
 |error e=>obtain⟨_,_,_,_,_,z⟩:=hq;exact z.elim
 |ok fl=>
  cases fl with
  |ret u=>exact I.after hq
  |next=>exact False.elim hq
  |brk=>exact False.elim hq
  |cont=>exact False.elim hq
def UK(Kc:V->Hp->VK->Prop)(fin:List V->Hp->Prop):List V->List V->Hp->Prop
 |[],ys,H=>fin ys H
 |x::r,ys,H=>Kc x H λy H1=>UK Kc fin r (ys++[y]) H1
inductive vY(K:_c)(H:Hp):List V->List (_d)->Prop
 |nil:vY K H [] []
 |cons {a r:_l} {l:Int} {row:_d} {ys:List V} {ks:List (_d)}:oW K H a [.int l,.ref r]->oy K H r (row.map V.int)->vY K H ys ks->vY K H (.ref a::ys) ((l::row)::ks)
theorem vY.at_{ys:List V}{ks:List (_d)}{us:_e}(h:vY X.K H ys ks)(I:a9 X ae σ H s)(r:bt ys us):l! s.heap us ks:=by
 induction h generalizing us with
 |nil=>cases r;exact .nil
 |cons h1 h2 _ ih=>
  cases r with
  |cons r1 r2=>
   cases r1;refine .cons ?_ (ih r2);obtain⟨aN,rv,⟨o,ho,hc,n,hd⟩,_⟩:=I.tuple h1;obtain⟨e!,Rw,pl,_⟩:=I.list h2;cases rv with
   |cons q1 q2=>
    obtain⟨t,rfl⟩:=q1;cases q2 with
    |cons q3 q4=>
     cases q3;cases q4;exact⟨_,o,_,n,_,t,_,e!.toArray,_,rfl,ho,hc,hd,rfl,pl.isList,IY Rw,rfl⟩
end
theorem r!{g:α->β}{l b:List β}(h:l.Perm b):∀T:List α,T.map g=b->∃T':List α,T'.Perm T/\T'.map g=l:=by
 induction h with
 |nil=>intro T e;exact⟨T,.refl _,e⟩
 |cons x _ ih=>
  intro T e;cases T with
  |nil=>cases e
  |cons t T=>
   obtain⟨T',p,q⟩:=ih T (WS e).2;exact⟨t::T',p.cons t,by rw[Vq,q,(WS e).1]⟩
 |swap x y l=>
  intro T e
  match T,e with
  |t::u::T,e=>
   have e1:=(WS e).1;have e2:=(WS (WS e).2).1;have e3:=(WS (WS e).2).2;exact⟨u::t::T,.swap t u T,by rw[Vq,Vq,e1,e2,e3]⟩
 |trans _ _ i1 i2=>
  intro T e;obtain⟨T2,p2,q2⟩:=i2 T e;obtain⟨T1,p1,q1⟩:=i1 T2 q2;exact⟨T1,p1.trans p2,q1⟩
section
variable{f:_l}{E:Z'}{xs:List V}{D kS:_l}{e1:Nat}{P:PySem.Fin->_k->Prop}
def MD(X:Cx)(xs:List V)(Q:VK)(ys:List V)(H:Hp):Prop:=∃ks:List (_d),vY X.K H ys ks/\ks.Nodup/\∀zs:List (V×List Int),zs.Perm (xs.zip ks)->nN (zs.map (·.2))->∀D,H D=none->Q (.ref D) (upd H D (.lst (zs.map (·.1))))
theorem A_:∀{xs:List V}{vs:_e},bt xs vs->∀p∈xs.zip vs,bM p.1 p.2
 |_,_,.nil,p,m=>by cases m
 |_,_,.cons r t,p,m=>by
  rcases V_.mp m with rfl|m
  .exact r
  .exact A_ t p m
theorem Eb:∀{l:List (V×_j)},(∀p∈l,bM p.1 p.2)->bt (l.map (·.1)) (l.map (·.2))
 |[],_=>.nil
 |p::l,h=>.cons (h p (Vz ..)) (Eb λq m=>h q (VH _ m))
theorem Ju{α β γ:Type}:∀{xs:List α}{vs:List β}(ks:List γ),xs.length=vs.length->((xs.zip vs).zip ks).map (λq=>(q.1.2,q.2))=vs.zip ks/\((xs.zip vs).zip ks).map (λq=>(q.1.1,q.2))=xs.zip ks
 |[],[],_,_=>⟨rfl,rfl⟩
 |[],_::_,_,h=>by cases h
 |_::_,[],_,h=>by cases h
 |x::xs,v::vs,[],h=>⟨rfl,rfl⟩
 |x::xs,v::vs,k::ks,h=>by obtain⟨h1,h2⟩:=Ju (xs:=xs) (vs:=vs) ks (W! h);simp only[Zs,Vq];exact⟨by rw[h1],by rw[h2]⟩
theorem CI(LO:L.NV)(hr:gk (k+3) X.A)(rv:bt xs vs)(hz:vs.length<64)(ne:kS≠D)(I:a9 X ae σ H s)(fD:kJ X ae H D)(fS:kJ X ae H kS)(hD:s.heap.get? D=some (seqObj "list" #[] e1))(hk:s.heap.get? kS=some (seqObj "list" #[] 0))(g:UK (Jt X L f c') (MD X xs Q) xs [] H)(h:∀s',EP X ae σ Q (.ref D) s'->P (.done (.ret .none)) s'):
  wpAny (model X.prog X.w) X.A.in1.in1 (ksk_rest D (.ref f) false vs.toArray e1 (.ref kS)) P E s:=by
 unfold ksk_rest;refine Vk (ZD ?_);rw[List.forIn_toArray];refine Vk (ksk_fold (λi s'=>∃H' ys kA c,a9 X ae σ H' s'/\H' D=none/\H' kS=none/\s'.heap.get? D=some (seqObj "list" #[] e1)/\s'.heap.get? kS=some (seqObj "list" kA c)/\bt ys kA.toList/\ys.length=i/\UK (Jt X L f c') (MD X xs Q) (xs.drop i) ys H') vs 0 s
  ⟨H,[],#[],0,I,fD.1,fS.1,hD,hk,.nil,rfl,g⟩ ?step ?done)
 case step=>
  rintro j u s' hu ⟨H',ys,kA,c,I',nD,nS,hD',RH,rk,lj,g'⟩;rw[VZ]at lj g'⊢;have hj:j<vs.length:=(VM.mp hu).1;have hx:j<xs.length:=by rw[rv.length];exact hj
  obtain⟨u',hu',ru⟩:=rv.get (Vo hx);rw[hu]at hu';cases hu';rw[WW hx]at g';obtain⟨_,d1,d2,d3,d4,d5⟩:=id fD;obtain⟨_,t1,t2,t3,t4,t5⟩:=id fS;have J:a9 X (ae++[(D,seqObj "list" #[] e1),(kS,seqObj "list" kA c)]) σ H' s':=I'.pZ λp hp=>by
   rcases VP.mp hp with z|z
   .exact I'.pin p (VX _ z)
   .rcases V_.mp z with rfl|z
    .exact⟨hD',nD,d1,d2,λv z=>by cases z⟩
    .rw[Vy.mp z];exact⟨RH,nS,t1,t2,λv z=>by cases z⟩
  refine Vk (Ym (WC (F? (E:=λ_ _=>False) LO hr J ru g') (λv s2 hv=>?_) λ_ _ z=>z.elim));obtain⟨y2,H2,J3,ry,g2⟩:=hv;have pD:=J3.pin (D,seqObj "list" #[] e1) (by simp);have pS:=J3.pin (kS,seqObj "list" kA c) (by simp);have J4:=J3.p6;dsimp only;have RG:kA.size<=1000:=by rw[<-V9,<-rk.length];lia
  obtain⟨c2,Ai⟩:∃c2,(s2.heap.update kS (Obj.mapSeq (·.push v))).get? kS=some (seqObj "list" (kA.push v) c2):=⟨_,Yk pS.1 (·.push v)⟩
  refine Vk (Zm pS.1 rfl ?_ (by rw[Vt];lia) (Wg (W' (Array.size_push ..)) (by rw[Vt];lia)));refine VF ⟨rfl,H2,ys++[y2],kA.push v,c2,J4.turned (t':=s2.toks) (λb o hb e=>(Wn _ _ (W5 hb)).trans e) pS.2.1 t1 t3 t4 t5,pD.2.1,pS.2.1,(Wn _ _ ne).trans pD.1,Ai,?_,by rw[Vm,lj];rfl,g2⟩;rw[Array.toList_push];exact rk.append (.cons ry .nil)
 case done=>
  rintro s' ⟨H',ys,kA,c,I',nD,nS,hD',RH,rk,lj,g'⟩;rw[VZ,Xu (by rw[rv.length];exact Vv _)]at g';obtain⟨ks,kv,nd,q⟩:=g';refine Vk (W4 RH rfl ?_);have t:=kv.at_ I' rk;have lk:kA.size=vs.length:=by rw[<-V9,<-rk.length,lj,VZ]
  refine SO.F! (by have:=hr.un;show X.A.units+1+1<_;lia) hD' RH ne t lk nd hz λh1 h' c' zs z1 z2 z3 z4 z5=>h _ ?_;obtain⟨_,d1,d2,d3,d4,d5⟩:=id fD;obtain⟨_,t1,t2,t3,t4,t5⟩:=id fS;have J1:a9 X ae σ H' {s' with heap:=h1}:=I'.turned (t':=s'.toks) z3 nS t1 t3 t4 t5;have J2:a9 X ae σ H' {s' with heap:=h'}:=J1.turned (t':=s'.toks) z4 nD d1 d3 d4 d5
  -- M9 values abP abH for M9 items
  obtain⟨e2,e3⟩:=Ju ks rv.length;obtain⟨T,pT,eT⟩:=r! (g:=λq:(V×_j)×List Int=>(q.1.2,q.2)) z1 _ e2;have zv:(T.map λq=>(q.1.1,q.2)).Perm (xs.zip ks):=by rw[<-e3];exact pT.map _
  have zr:nN ((T.map λq=>(q.1.1,q.2)).map (·.2)):=by rw[<-eT,V5]at z2;rw[V5];exact z2
  have vz:bt ((T.map λq=>(q.1.1,q.2)).map (·.1)) (zs.map (·.1)):=by
   rw[<-eT,V5,V5];have:=Eb (l:=T.map (·.1)) (λq m=>by
    obtain⟨w,mw,rfl⟩:=VR.mp m;exact A_ rv _ (XH (show(w.1,w.2)∈_ from pT.mem_iff.mp mw)).1)
   rw[V5,V5]at this;exact this
  obtain⟨zV,hzV⟩:∃zV,zV=T.map λq=>(q.1.1,q.2):=⟨_,rfl⟩
  rw[<-hzV]at zv zr vz;have ok:dA X.prog X.w (upd H' D (.lst (zV.map (·.1)))) h' D (.lst (zV.map (·.1))):=by
   refine⟨?_,zs.map (·.1),c',vz,z5⟩;have Ug:=t.length;have hk3:kA.toList.length=vs.length:=by rw[V9];exact lk
   have:(zV.map (·.1)).length=vs.length:=by rw[Vj,zv.length_eq,Xh,rv.length,<-Ug,hk3];exact YL _
   rw[this,Vt];lia
  exact⟨.ref D,_,J2.Du (o:=.lst (zV.map (·.1))) ⟨nD,d1,d2,d3,d4,d5⟩ ok,rfl,q zV zv zr D nD⟩
end
def QU(X:Cx)(L:gA):List V->List V->Hp->VK->Prop:=λxs zs H Q=>∃a f c' vs,xs=[.ref a]/\zs=[.ref f]/\oy X.K H a vs/\vs.length<64/\UK (Jt X L f c') (MD X vs Q) vs [] H
theorem A!(LO:L.NV)(hr:gk (k+3) X.A):IX X (.builtin "sorted") ["key"] (QU X L):=by
 intro ae s σ H xs zs us ws Q I rx rz h;obtain⟨a,f,c',vs,rfl,rfl,hq,hz,g⟩:=h;obtain⟨u,rfl,r1⟩:=vals1 rx;obtain⟨z,rfl,r2⟩:=vals1 rz;cases r1;cases r2;obtain⟨aN,rv,pl,_⟩:=I.list hq;have hi:aN.length<64:=by rw[<-rv.length];exact hz
 have hs:aN.toArray.size<=sizeLine:=by rw[VG,Vt];lia
 show wpAny _ _ (call (.builtin "sorted") [.ref a] [(Str.ofString "key",.ref f)]) _ _ s;refine call_function_entry_kw kind_sorted plain_sorted entry_sorted (ksk_s1 _ _) ?_;unfold Builtin.«sorted»;refine Vk (m:=checkCount "sorted" 1 1 _) (VF ?_);refine Vk (collect_list pl.isList ?_ (by rw[Vt];lia));refine Vk (YV ?_ (by rw[Vt];lia));have hsz:((s.heap.push (seqObj "list" #[] 0)).update s.heap.objs.size (Obj.mapSeq (· ++ aN.toArray))).objs.size=s.heap.objs.size+1:=by rw[Heap.size_update,size_push']
 obtain⟨h1,e1⟩:∃h1,h1=((s.heap.push (seqObj "list" #[] 0)).update s.heap.objs.size (Obj.mapSeq (· ++ aN.toArray))).push (seqObj "list" aN.toArray 0):=⟨_,rfl⟩
 have k1:∀b o,s.heap.get? b=some o->h1.get? b=some o:=λb o q=>by have sR:b<s.heap.objs.size:=VJ q;rw[e1,Heap.get?_push_ne _ _ _ (by rw[hsz];exact V! (XW sR)),Heap.get?_update_ne _ _ _ _ (V! sR),Heap.get?_push_ne _ _ _ (V! sR)];exact q
 have M?:h1.get? (s.heap.objs.size+1)=some (seqObj "list" aN.toArray 0):=by rw[e1,<-hsz];exact VV _ rfl
 show wpAny _ _ _ _ _ {s with heap:=((s.heap.push (seqObj "list" #[] 0)).update s.heap.objs.size (Obj.mapSeq (· ++ aN.toArray))).push (seqObj "list" aN.toArray 0)};rw[hsz,<-e1];obtain⟨D,eD⟩:∃D,D=s.heap.objs.size+1:=⟨_,rfl⟩
 rw[<-eD]at M?⊢;refine Vk (Xv (wpAny_call_entry_kw slot_list_sort ⟨_,M?,rfl⟩ entry_list_sort ?body (ksk_l1 _ _)))
 case body=>
  show wpAny (model X.prog X.w) X.A.in1.in1 (Builtin.«list.sort» ⟨[.ref D],[(Str.ofString "key",.ref f)]⟩) _ _ _;rw[ksk_t1];unfold ksk_tree;obtain⟨c1,Ue⟩:∃e1,(h1.update D (Obj.mapSeq λ_=>(#[]:Array _j))).get? D=some (seqObj "list" #[] e1):=⟨_,Yk M? λ_ => #[]⟩
  refine Vk (W4 M? rfl ?_);refine Vk (Zm M? rfl ?_ hs (We _));refine Vk (seqEpoch_at Ue rfl ?_);refine Vk (wpAny_newTuple ?_ (by show aN.length<=_;rw[Vt];lia));refine Vk (YV ?_ (We _));refine Xv ?_;have UJ:D<h1.objs.size:=VJ M?;have hkS:((h1.update D (Obj.mapSeq λ_=>(#[]:Array _j))).push (seqObj "tuple" aN.toArray 0)).objs.size=h1.objs.size+1:=by rw[size_push',Heap.size_update]
  have nD:H D=none:=I.dg.fresh (by rw[eD];exact ZE _);have fD:kJ X ae H D:=I.Ad (by rw[eD];exact ZE _) nD;have lS:s.heap.objs.size<=h1.objs.size+1:=by lia
  have fS:kJ X ae H (h1.objs.size+1):=I.Ad lS (I.dg.fresh lS);obtain⟨h2,e2⟩:∃h2,h2=((h1.update D (Obj.mapSeq λ_=>(#[]:Array _j))).push (seqObj "tuple" aN.toArray 0)).push (seqObj "list" #[] 0):=⟨_,rfl⟩
  have k2:∀b o,s.heap.get? b=some o->h2.get? b=some o:=λb o q=>by have sR:b<s.heap.objs.size:=VJ q;rw[e2];refine Vn _ (Vn _ ?_);rw[Heap.get?_update_ne _ _ _ _ (by rw[eD];exact V! (XW sR))];exact k1 b o q
  show wpAny _ _ (ksk_rest D (.ref f) false aN.toArray _ (.ref ((h1.update D (Obj.mapSeq λ_=>(#[]:Array _j))).push (seqObj "tuple" aN.toArray 0)).objs.size)) _ _ {s with heap:=((h1.update D (Obj.mapSeq λ_=>(#[]:Array _j))).push (seqObj "tuple" aN.toArray 0)).push (seqObj "list" #[] 0)};have Ug:h2.get? (h1.objs.size+1)=some (seqObj "list" #[] 0):=by rw[e2,<-hkS];exact VV _ rfl
  rw[hkS,<-e2];refine CI (s:={s with heap:=h2}) LO hr rv hi (W? (XW UJ)) (I.kept (t':=s.toks) k2) fD fS (by rw[e2];exact Vn _ (Vn _ Ue)) Ug g λs' q=>⟨_,rfl,?_⟩
  exact VF ⟨_,rfl,q⟩
end L2
namespace MN
open PySem.Spec L2
open PyProof.Rows hiding St
def uQ(P:_n)(w:World)(K:_c)(mg:_a)(base:Heap)(L:gA)(k:Nat)(mb:ME):Prop:=
 L.NV/\∀(f c':_l)(A:_m)(outer:List PySem.Env)(s:_k)(H:Hp),gk k (A.deeper (W.envX L.qual L.scope s.heap.objs.size f (.ref c') [])) ->
  PE (vX P w K mg base L f c' A outer s H) L.body (tE (vX P w K mg base L f c' A outer s H) E0 mb)
def CJ(mb:ME):List aj->List aj->af->eZ (List aj)
 |[],ys,st=>.ok ys st
 |x::r,ys,st=>match mb [some x] st with
  |.ok y st1=>CJ mb r (ys++[y]) st1
  |_=>.bad
def lI(st:af):List aj->Option (List (_d))
 |[]=>some []
 |.tup [.int l,.loc r]::ys=>match ar st r with
  |some us=>match vP us,lI st ys with
   |some row,some ks=>some ((l::row)::ks)
   |_,_=>none
  |none=>none
 |_=>none
def CK(a b:aj×List Int):Bool:=!(SO.lexLt b.2 a.2)
open Classical in
def Jv(us:List aj)(ys:List aj)(st:af):eZ aj:=match lI st ys with
 |some ks=>if ks.Nodup then .ok (.loc st.length) (st++[.lst (((us.zip ks).mergeSort CK).map (·.1))])else .bad
 |none=>.bad
open Classical in
def r?(L:jO)(mb:ME)(m:ME):ME:=λμ st=>(m μ st).bind λv st1=>match v with
 |.loc n=>if m? st1 L.own L.line L.col L.S.qual/\L.S.ps.length=1 then(match ar st1 n with
   |some us=>if us.length<64 then(CJ mb us [] st1).bind (Jv us)else .bad
   |none=>.bad)else .bad
 |_=>.bad
section
variable{f:_l}
theorem Ga{st:af}(sr:SR X.K ρ st H):∀{ys:List aj}{yV:List V}{ks:List (_d)},bu X.K ρ H ys yV->lI st ys=some ks->vY X.K H yV ks:=by
 intro ys
 induction ys with
 |nil=>
  intro yV ks r h;cases h;rw[r.gB];exact .nil
 |cons y ys ih=>
  intro yV ks r h;unfold lI at h;split at h
  .rename_i e;cases e
  .rename_i l r' ys' e;cases e;split at h
   .rename_i us hi;split at h
    .rename_i row ks' h1 h2;cases h;obtain⟨v,yV,rfl,ra,rb⟩:=r.cW;obtain⟨a,vs,rfl,hs,rv⟩:=ra.i';obtain⟨v1,v2,rfl,r1,r2⟩:=rv.Tn;obtain⟨a2,rfl,ha⟩:=r2.fQ;obtain⟨ws,hw,rw⟩:=bA (X:=X) sr hi ha;rw[FQ h1]at rw;rw[bu.Mo rw]at hw;rw[Rl.cy r1]at hs;exact .cons hs hw (ih rb h2)
    .cases h
   .cases h
  .cases h
theorem yi{l:List (aj×List Int)}(nd:(l.map (·.2)).Nodup):SO.nN ((l.mergeSort CK).map (·.2)):=by
 have h1:(l.mergeSort CK).Pairwise λa b=>CK a b=true:=by
  refine Yw (λa b c h1 h2=>?_) (λa b=>?_) l
  .unfold CK at h1 h2⊢;rw[YO]at h1 h2⊢;by_cases e1:b.2=a.2
   .rw[<-e1];exact h2
   .by_cases e2:c.2=b.2
    .rw[e2];exact h1
    .exact SO.jB (SO.vO (SO.oE e1 h1) (SO.oE e2 h2))
  .unfold CK;cases z:SO.lexLt b.2 a.2 with
   |false=>rfl
   |true=>rw[SO.jB z];rfl
 have h2:((l.mergeSort CK).map (·.2)).Nodup:=((XX l CK).map _).nodup_iff.mpr nd;have h3:=Wb.mp h2;refine Wb.mpr (List.Pairwise.imp (λ{a b}h=>?_) (h1.and h3));have z:SO.lexLt b.2 a.2=false:=by have:=h.1;unfold CK at this;rwa [YO]at this
 exact SO.oE (W5 h.2) z
theorem Jw{a b:List (aj×List Int)}(p:a.Perm b)(fa:SO.nN (a.map (·.2)))(fb:SO.nN (b.map (·.2))):a=b:=
 Z6 (λx y _ _ h1 h2=>by rw[SO.jB h1]at h2;cases h2) (Wb.mp fa) (Wb.mp fb) p
theorem A?{ρ:_h}{H:Hp}:∀{us:List aj}{vs:List V},bu X.K ρ H us vs->∀p∈us.zip vs,Rl X.K ρ H p.1 p.2
 |[],_,_,p,m=>by cases m
 |u::us,vs,r,p,m=>by
  obtain⟨v,vs,rfl,r1,r2⟩:=r.cW;rcases V_.mp m with rfl|m
  .exact r1
  .exact A? r2 p m
theorem Ec{ρ:_h}{H:Hp}:∀{l:List (aj×V)},(∀p∈l,Rl X.K ρ H p.1 p.2)->bu X.K ρ H (l.map (·.1)) (l.map (·.2))
 |[],_=>bu.nil
 |p::l,h=>bu.cons (h p (Vz ..)) (Ec λq m=>h q (VH _ m))
theorem Ed{α β:Type}:∀(us:List α)(ks:List β),((us.zip ks).map (·.2)).Sublist ks
 |[],ks=>List.nil_sublist ks
 |_::_,[]=>List.nil_sublist _
 |_::us,k::ks=>(Ed us ks).cons_cons k
theorem MF(S:uQ X.prog X.w X.K X.mg X.base L k mb)(Jx:L.ps.length=1)(hr:gk (k+3) X.A){vs:List V}:∀(r:List aj)(rV:List V)(ys:List aj)(yV:List V)(ρ:_h)(st:af)(H:Hp),F_ L H f c'->SR X.K ρ st H->bu X.K ρ H us vs->bu X.K ρ H r rV->bu X.K ρ H ys yV ->
  wR (wo X) E (Rl X.K) ρ H Q ((CJ mb r ys st).bind (Jv us))->UK (Jt X L f c') (MD X vs Q) rV yV H:=by
 intro r
 induction r with
 |nil=>
  intro rV ys yV ρ st H C sr ru rr ry h;rw[rr.gB];replace h:wR (wo X) E (Rl X.K) ρ H Q (Jv us ys st):=h;unfold Jv at h;split at h
  .rename_i ks hk;split at h
   .rename_i nd;refine⟨ks,Ga sr ry hk,nd,λzs z1 z2 D hD=>?_⟩;obtain⟨e2,e3⟩:=Ju ks ru.length;obtain⟨T,pT,eT⟩:=r! (g:=λq:(aj×V)×List Int=>(q.1.2,q.2)) z1 _ e2;have zv:(T.map λq=>(q.1.1,q.2)).Perm (us.zip ks):=by rw[<-e3];exact pT.map _
    have zr:SO.nN ((T.map λq=>(q.1.1,q.2)).map (·.2)):=by rw[<-eT,V5]at z2;rw[V5];exact z2
    have ndz:((us.zip ks).map (·.2)).Nodup:=List.Pairwise.sublist (Ed us ks) nd;have eq:=Jw (zv.trans (XX _ CK).symm) zr (yi ndz);have vz:bu X.K ρ H (((us.zip ks).mergeSort CK).map (·.1)) (zs.map (·.1)):=by
     rw[<-eq,<-eT,V5,V5];have:=Ec (X:=X) (ρ:=ρ) (H:=H) (l:=T.map (·.1)) (λq m=>by
      obtain⟨w,mw,rfl⟩:=VR.mp m;exact A? ru _ (XH (show(w.1,w.2)∈_ from pT.mem_iff.mp mw)).1)
     rw[V5,V5]at this;exact this
    obtain⟨k1,k2,k3⟩:=iB sr vz hD;exact h _ _ _ k1 k2 k3
   .exact h.elim
  .exact h.elim
 |cons x r ih=>
  intro rV ys yV ρ st H C sr ru rr ry h;obtain⟨v,rV,rfl,rx,rr⟩:=rr.cW;unfold CJ at h;cases hb:mb [some x] st with
  |ok y st1=>
   rw[hb]at h;refine⟨by rw[Jx];rfl,C,λs=>⟨_,S.2 f c' X.A.in1.in1 X.stack s H (hr.in1.in1.deeper _),[some x],ρ,st,?_,sr,?_⟩⟩
   .exact RS.start (N:=[""]) (bu.one rx)
   .rw[hb];intro ρ1 H1 vy e1 dh r1;exact ih rV (ys++[y]) (yV++[vy]) ρ1 st1 H1 (C.mono λb o u q=>e1.kh b o u q) dh (bu.mono e1 _ _ ru) (bu.mono e1 _ _ rr) (bu.append (bu.mono e1 _ _ ry) (bu.one r1)) (wR.mono h e1)
  |err c st1=>rw[hb]at h;exact h.elim
  |bad=>rw[hb]at h;exact h.elim
end
section
variable{pos p lp:Pos}{e:Expr}{m:ME}{L:jO}{cd T:_l}
theorem Jy(S:uQ X.prog X.w X.K X.mg X.base L.S k mb)(B:P! X.K X.mg X.base L.own cd T)(hr:gk (k+3) X.A)(hg:Gl X x)(hm:X.mg x=none)(hv:bootBuiltins x=some (.builtin "sorted"))(ha:PE X e (tE X E m))(UL:X.env.code=.ref cd:=by rfl)(hcl:closureFor L.S.scope X.env=pure []:=by rfl)(hq:L.S.qual=X.env.qual ++ "<lambda>":=by rfl)(SS:defaultsOf L.S.params X.env=([],[]):=by rfl)(tR:lp.line=L.line:=by rfl)(uv:lp.col=L.col:=by rfl)(hn:x ≠ "__name__":=by decide)(Af:(x==("__debug__":Str))=false:=by decide)(he:starEach [e] X.env=(false,eval e X.env)::starEach [] X.env:=by rfl):
  PE X (.Call (.Name x p) [e] [⟨some "key",.Lambda L.S.params L.S.body L.S.scope lp,kp⟩] pos) (tE X E (r? L mb m)):=by
 have A:Hq X L.S lp cd T []:=⟨UL,B.hd,hcl,hq,SS,B.blt,B.gT⟩
 refine PE.imp (FO (A! S.1 hr) hg hm hv (ur ha BJ he) (KQ (Lj A) ON) (by rfl) hn Af (by rw[he];rfl) (by rw[he];rfl)) ?_;rintro σ H Q ⟨μ,ρ,st,rs,sr,h⟩;unfold r? at h;refine go μ ρ st rs sr h λw st1 ρ1 H1 va e1 dh r1 h1=>?_;cases w with
 |loc n=>
  dsimp only at h1;split at h1
  .rename_i hT;obtain⟨⟨jt,hj⟩,Jx⟩:=hT;rw[<-tR,<-uv]at hj;split at h1
   .rename_i us hi;split at h1
    .rename_i hle;obtain⟨T',Tj,kT⟩:=dh.addr hj;have eT:T'=T:=by obtain⟨cd',h1⟩:=kT.1;have:=h1.symm.trans B.tab;cases this;rfl
     subst eT;refine⟨kT.2,λfa' c' H2 N=>?_⟩;obtain⟨p!,e2⟩:=dh.P_ hj Tj N;obtain⟨a,rfl,ha⟩:=r1.fQ;obtain⟨vs,hq,rv⟩:=bA (X:=X) p! hi (e2.at_ ha);exact⟨a,fa',c',vs,rfl,rfl,hq,by rw[<-rv.length];exact hle,MF S Jx hr us vs [] [] ρ1 st1 H2 ⟨N.fn,N.cd⟩ p! rv rv bu.nil (wR.mono h1 e2)⟩
    .exact h1.elim
   .exact h1.elim
  .exact h1.elim
 |_=>exact h1.elim
end
def Jz:List Stmt->Option Expr
 |[]=>none
 |[.Return (some (.Tuple [_,.Call _ _ (⟨_,e,_⟩::_) _] _ _)) _]=>some e
 |_::r=>Jz r
theorem gA.abf(h1:L.scope.kind=.function)(h2:L.scope.isCoroutine=false)(h3:L.scope.isGenerator=false)(h4:(L.scope.names.all λp => !(p.2 == .cell) && !(p.2 == .free))=true)(h5:(L.ps.all λp=>L.scope.names.lookup p==some .local)=true)(h8:L.ps.Nodup)(h9:∀(pm cd ct:_j)(cl:List (Str×_l))(us:_e),us.length=L.ps.length->bindArgs (W.kla_fn "<lambda>" L.qual L.params L.body L.scope cl pm cd ct) ⟨us,[]⟩=pure (L.ps.zip us)):L.NV where
 kind:=h1
 co:=h2
 gen:=h3
 gI:=λy hy h=>by have z:=WB.mp h4 y hy;simp[h]at z
 yu:=λy hy h=>by have z:=WB.mp h4 y hy;simp[h]at z
 par:=λp hp=>by have z:=WB.mp h5 p hp;simpa using z
 nd:=h8
 bind:=h9
end MN
namespace PM
open PySem.Spec L2 MN
open PyProof.Rows hiding St
def fu:FN:=ij 4 5 (ax (aJ 4 (ai bS bP cT)) (bU (dI 2 [4,0] (vk true true (aa bP (aa dz ag))) (iN [(aB 0),(aB 1)]) bI (ai f_ (ai gJ bq (ai bX dz bP)) cT))))
def kx:FN:=ij 2 2 (bU (dI 1 [0] (e_ (aa bP ag)) (aB 0) bI (Ke (f9 (ai oZ bq bP)) cH dE)))
def cleared:FN:=ij 4 4 (bU (dI 1 [3,0,2] (gr bP) (aB 0) bI (ao PM.fu (aa dz (aa bq (aa cT (aa bP ag)))))))
def iy:FN:=ij 1 1 (bU (dI 2 [0] (j8 (aa bq ag)) (iN [(aB 0),(aB 1)]) bI (ai cS (ao rm (aa bP ag)) (ao PM.kx (aa bq (aa (ao bc (aa dz ag)) ag))))))
def b!:FN:=ij 3 6 (ax (aJ 3 (a_ ag)) (ax (f? (jb (aa dz (aa (ao bc (aa bP ag)) ag))) (aB 4) (ax (aJ 5 (ao PM.bB (aa bq (aa (ai bS bP ff) (aa (ai cS (ai bX (a_ (aa dE ag)) ff) (a_ (aa cH ag))) (aa (ja cH) ag)))))) (fg (jN dF cT (aa (ao PM.ee (aa iP (aa (ao bc (aa bP ag)) ag))) ag))))) (bU cT)))
def oG:FN:=ij 3 10 (ax (aJ 3 (a_ ag)) (ax (aJ 4 bP) (ax (aJ 5 (a_ ag)) (ax (f? (e_ (aa dz ag)) (aB 6) (ax (aJ 7 (dI 1 [6] (gr ff) (aB 0) (f9 (ai yJ (ai bS bq bP) dE)) bq)) (sU (f9 (ai vf (ao bc (aa oY ag)) dE)) (ax (aJ 8 (ao PM.inverse (aa bq (aa (ai bS (ai bS oY dE) jL) ag)))) (ax (aJ 9 (dI 1 [8,0] (gr (ai bS oY dE)) (aB 0) bI (ai f_ (ai bX bq bP) dz))) (ax (aJ 4 (ao PM.cleared (aa bq (aa (ai cS (Ci oY (jR cH) jQ) (dI 1 [6] (gr ff) (aB 0) (f9 (ai oZ (ai bS bq bP) dE)) bq)) (aa Bw (aa jL ag)))))) (ax (aJ 3 (ai cS (ao PM.cleared (aa bq (aa cT (aa Bw (aa jL ag))))) (a_ (aa Bw ag)))) (fg (jN dF iP (aa jL ag))))))) fF))) (bU (gW (aa (ai cS cT ff) (aa iP ag))))))))
def gh:FN:=ij 3 4 (ax (aJ 3 (ao PM.oG (aa bq (aa (ao PM.iy (aa bP ag)) (aa dz ag))))) (bU (dI 1 [2] (gr (Ci (ai bS cT dE) (jR (ao bc (aa (ai bS cT cH) ag))) jQ)) (aB 0) bI (Ci bq (jR bP) jQ))))
def fv:FN:=ij 3 7 (ax (aJ 3 (ao PM.oG (aa bq (aa (ao PM.iy (aa bP ag)) (aa dz ag))))) (ax (sU (f9 (ai ltV (ao bc (aa (ai bS cT cH) ag)) (ao bc (aa bP ag)))) (bU (mC .dD)) fF) (ax (aJ 4 (dI 1 [1] (e_ (aa dz ag)) (aB 0) bI (ai bX (a_ (aa dE ag)) (ao bc (aa bP ag))))) (ax (f? (j8 (aa (ai bS cT cH) ag)) (iN [(aB 5),(aB 6)]) (o! ff jL (Ci (ai bS (ai bS cT dE) iP) (jR dz) jQ))) (bU ff)))))
def d?:FN:=ij 2 7 (ax (aJ 2 (a_ (aa (a_ ag) ag))) (ax (aJ 3 (a_ (aa (a_ (aa cH ag)) ag))) (ax (f? (jb (aa cH (aa (ai gJ (ao bc (aa bP ag)) cH) ag))) (aB 4) (ax (aJ 5 (Ke (f9 (ai oZ ff cH)) (ai cS (ai bX (a_ (aa dE ag)) bq) (a_ (aa cH ag))) (ao PM.dB (aa bq (aa (ai bS cT (ai gJ ff cH)) (aa (ai bS cT cH) ag)))))) (ax (aJ 6 (ao PM.parted (aa bq (aa iP (aa bP ag))))) (ax (fg (jN dF dz (aa (ai bS jL dE) ag))) (fg (jN dF cT (aa (ai bS jL cH) ag))))))) (bU (gW (aa dz (aa cT ag)))))))
def dW:FN:=ij 3 7 (ax (aJ 3 (ai bS (ao PM.parted (aa bq (aa (ao PM.cz (aa bq (aa dz ag))) (aa bP ag)))) cH)) (ax (aJ 4 (a_ ag)) (ax (f? (e_ (aa bq ag)) (aB 5) (ax (aJ 6 (ao PM.dj (aa bq (aa bP (aa (ao PM.bB (aa bq (aa cT (aa (a_ (aa iP ag)) (aa (ja cH) ag))))) ag))))) (sU (f9 (ai vf (ao bc (aa jL ag)) cH)) (fg (jN dF ff (aa jL ag))) fF))) (bU ff))))
def jE:FN:=ij 3 5 (ax (aJ 3 (a_ ag)) (ax (f? (gr bP) (aB 4) (fg (jN jc cT (aa (ao PM.dW (aa bq (aa ff (aa dz ag)))) ag)))) (bU cT)))
def fP:FN:=ij 2 5 (ax (aJ 2 (ai bS (ao PM.d? (aa bq (aa bP ag))) cH)) (ax (aJ 3 (a_ (aa bP ag))) (ax (f? (gr (ao PM.gh (aa bq (aa (ao PM.b! (aa bq (aa dz (aa dE ag)))) (aa (ai gJ (ao bc (aa bP ag)) cH) ag))))) (aB 4) (aJ 3 (ao PM.jE (aa bq (aa cT (aa ff ag)))))) (bU cT))))
def lJ:FN:=ij 2 5 (ax (fg (ao PM.gO (aa bq ag))) (ax (sU (Ax (f9 (ai ltV (ao bc (aa bP ag)) Kf)) (f9 (ai yJ (ai bS bP (ja cH)) cH))) (m9 "NotPlain" (aa (qs "only a plain row of the power 1 or more can be whole") ag)) fF) (ax (aJ 2 (ao PM.gp (aa bq (aa bP ag)))) (ax (sU (f9 (ai (LC false) dz (mC .dD))) (bU (mC .dD)) fF) (ax (aJ 3 (ao PM.d? (aa bq (aa bP ag)))) (ax (aJ 4 (ao PM.fv (aa bq (aa (ao PM.b! (aa bq (aa (ai bS cT cH) (aa cH ag)))) (aa (ai gJ (ao bc (aa bP ag)) cH) ag))))) (bU (Ke (f9 (ai (LC false) ff (mC .dD))) (mC .dD) (gW (aa (ai bS dz dE) (aa (ai bS dz cH) (aa (ai bS cT dE) (aa (ai bS cT cH) (aa ff ag))))))))))))))
def dq:ME:=(gW (aa (ao bc (aa (ai bS bq dE) ag)) (aa (ai bS bq dE) ag)))
def qC(M:jO):FN:=ij 2 6 (ax (fg (ao PM.gO (aa bq ag))) (ax (aJ 2 (ao PM.g_ (aa bq (aa bP ag)))) (ax (aJ 3 (a_ ag)) (ax (f? (gr (ai bS dz cH)) (iN [(aB 4),(aB 5)]) (fg (jN jc cT (aa (dI 1 [5] (gr (ao PM.fP (aa bq (aa ff ag)))) (aB 0) bI (gW (aa bq (aa bP ag)))) ag)))) (bU (gW (aa (ai bS dz dE) (aa (r? M PM.dq cT) ag))))))))
end PM
namespace PG
open PySem.Spec L2 MN
open PyProof.Rows hiding St kindOf
def IsM(p:Int)(w:Nat)(Q:Nat->Prop)(s:af)(v:aj):Prop:=∃k R,v=.loc k/\Q k/\s[k]?=some (aI R)/\R.length=w/\∀x∈R,0<=x/\x<p
def abg(_:Nat):Prop:=True
theorem pK{g:af->Prop}{a:AS}{c:MT}{e:ME}{s0:af}(hg:∀s,Fr s0 s->g s)(I:MN.Env->Prop)(keep:aj->Bool)(G:af->aj->Prop)(mono:∀s s' y,Fr s s'->G s y->G s' y):∀(us:List aj)(τ:MN.Env)(s:af)(ys:List aj),I τ->Fr s0 s ->
  (∀u∈us,∀τ s,I τ->Fr s0 s->∃τ1,a u τ=some τ1/\I τ1/\c τ1 s=.ok (keep u) s/\(keep u=true->∃y s',e τ1 s=.ok y s'/\Fr s s'/\G s' y)) ->
  ∃zs s',dX g a c e us τ s ys=.ok (ys++zs) s'/\Fr s s'/\zs.length=(us.filter keep).length/\∀y∈zs,G s' y
 |[],τ,s,ys,_,F,_=>⟨[],s,by rw[rO (hg s F),Wi],Fr.refl s,rfl,λy m=>by cases m⟩
 |u::us,τ,s,ys,hI,F,hs=>by
  obtain⟨τ1,h1,h2,h3,h4⟩:=hs u Vz τ s hI F;have LY:=λv hv=>hs v (VH u hv);unfold dX;rw[Vs (hg s F),h1];dsimp only;rw[h3];cases z:keep u with
  |true=>
   obtain⟨y,s1,e1,F1,g1⟩:=h4 z;dsimp only;rw[e1];dsimp only;obtain⟨zs,s2,e2,F2,l2,g2⟩:=pK hg I keep G mono us τ1 s1 (ys++[y]) h2 (F.trans F1) LY;refine⟨y::zs,s2,by rw[e2,V6];rfl,F1.trans F2,by rw[Z! z,Vl,l2];rfl,λx m=>?_⟩;rcases V_.mp m with rfl|m
   .exact mono _ _ _ F2 g1
   .exact g2 x m
  |false=>
   dsimp only;obtain⟨zs,s2,e2,F2,l2,g2⟩:=pK hg I keep G mono us τ1 s ys h2 F LY;exact⟨zs,s2,e2,F2,by rw[Z? (by rw[z];simp)];exact l2,g2⟩
theorem Ba(l:List α):l.filter (λ_=>true)=l:=List.filter_eq_self.mpr λ_ _=>rfl
section
variable{w n:Nat}{S:_d}{s:af}
theorem qD(hp:0<p)(x:Int):0<=x.fmod p/\x.fmod p<p:=⟨Int.fmod_nonneg_of_pos x hp,Int.fmod_lt_of_pos x hp⟩
theorem CM{s:af}{L:Int}{n:Nat}(h:L=(n:Int))(hn:n<=100000):L5 [.int L] s=.ok ((dY 0 n).map aj.int,λ_=>True) s:=by subst h;rw[DQ (by lia) (by lia),WM,nC]
theorem gj(lo:Int)(n:Nat):(dY lo n).length=n:=by unfold dY;rw[Vj,VW]
end
theorem cutD(us:List aj)(k:Nat):xb us (some (k:Int)) none=us.drop k:=by
 unfold xb;rcases Nat.le_total k us.length with h|h
 .rw[HT.uZ,HT.yw,Nat.min_eq_left h];exact W9 (by rw[Xm];exact Vv _)
 .rw[HT.uZ,HT.yw,Nat.min_eq_right h,WY,List.take_zero,Xu h]
def sd(s:af)(j:Int)(u:aj):Int:=match bS u (.int j) s with
 |.ok (.int i) _=>i
 |_=>0
theorem QV{w:Nat}{Q:Nat->Prop}{s:af}(h:IsM p w Q s u){j:Nat}(hj:j<w):bS u (.int (j:Int)) s=.ok (.int (sd s (j:Int) u)) s/\0<=sd s (j:Int) u/\sd s (j:Int) u<p:=by
 obtain⟨k,R,rfl,_,l,wR,rR⟩:=h;have gx:=cO (ay l) (iF (R:=R) (i:=(j:Int)) rfl (by lia));have:sd s (j:Int) (.loc k)=R.getD j 0:=by unfold sd;rw[gx]
 rw[this];refine⟨gx,rR _ ?_⟩;rw[VD,Vo (by lia)];exact XQ _
abbrev stC(t:MT):ME:=dI 1 [6] (gr ff) (aB 0) t bq
abbrev stN:MT:=f9 (ai yJ (ai bS bq bP) dE)
abbrev stZ:MT:=f9 (ai oZ (ai bS bq bP) dE)
abbrev stS:ME:=dI 1 [8,0] (gr (ai bS oY dE)) (aB 0) bI (ai f_ (ai bX bq bP) dz)
abbrev stX:MB:=ax (aJ 8 (ao PM.inverse (aa bq (aa (ai bS (ai bS oY dE) jL) ag)))) (ax (aJ 9 stS) (ax (aJ 4 (ao PM.cleared (aa bq (aa (ai cS (Ci oY (jR cH) jQ) (stC stZ)) (aa Bw (aa jL ag)))))) (ax (aJ 3 (ai cS (ao PM.cleared (aa bq (aa cT (aa Bw (aa jL ag))))) (a_ (aa Bw ag)))) (fg (jN dF iP (aa jL ag))))))
abbrev QW:MB:=ax (aJ 7 (stC stN)) (sU (f9 (ai vf (ao bc (aa oY ag)) dE)) stX fF)
section
variable{w W N:Nat}{st:af}
theorem QX{Q:Nat->Prop}{s:af}{l:Nat}{ls:List aj}(ll:s[l]?=some (.lst ls))(hv:∀v∈ls,IsM p w Q s v)(hn:ls.length<=1000){j:Nat}(hj:j<w){J:Int}(hJ:J=(j:Int)){x8:Option aj}:
  stC stN [x0, x1, x2, x3, qL l, x5, qI J, x7, x8, x9] s=.ok (.loc s.length) (s++[.lst (ls.filter λu => !(sd s J u==0))]) /\
  stC stZ [x0, x1, x2, x3, qL l, x5, qI J, x7, x8, x9] s=.ok (.loc s.length) (s++[.lst (ls.filter λu=>sd s J u==0)]):=by
 have hz:ls.length<=16777216:=by lia
 have go:∀(t:MT)(f:aj->Bool),(∀u∈ls,t [some u,some (.int J)] s=.ok (f u) s)->stC t [x0, x1, x2, x3, qL l, x5, qI J, x7, x8, x9] s=.ok (.loc s.length) (s++[.lst (ls.filter f)]):=by
  intro t f ht;have hc:=jq (g:=λb8=>ar b8 l=some ls) (a:=aB 0) (c:=t) (e:=bq) (st:=s) (ay ll) (λτ=>∃x,τ=[x,some (.int J)]) f (λu=>u) ls [none,some (.int J)] [] ⟨_,rfl⟩ (by
   rintro u mu τ ⟨x,rfl⟩;obtain⟨k,R,rfl,_⟩:=hv u mu;exact⟨_,rfl,⟨_,rfl⟩,ht _ mu,λ_=>rfl⟩)
  rw[Vx,List.map_id']at hc;have gH:iS 1 [6] [x0, x1, x2, x3, qL l, x5, qI J, x7, x8, x9]=[none,some (.int J)]:=rfl;show dI 1 [6] (gr ff) (aB 0) t bq _ s=_;rw[d6,ej,show ff [x0, x1, x2, x3, qL l, x5, qI J, x7, x8, x9] s=.ok (.loc l) s from rfl,aq,cY (ay ll),aq,fX,Vs (by rw[Vt];exact hz),gH,hc,aq,ie]
 have e1:∀u∈ls,ai bS bq bP [some u,some (.int J)] s=.ok (.int (sd s J u)) s:=λu mu=>by have:=(QV (hv u mu) hj).1;rw[<-hJ]at this;obtain⟨k,R,rfl,_⟩:=hv u mu;rw[iw (x:=.loc k) (s1:=s) rfl (y:=.int J) (s2:=s) rfl,this]
 refine⟨go _ _ λu mu=>vS ?_,go _ _ λu mu=>vS ?_⟩
 .rw[iw (e1 u mu) (y:=.int 0) (s2:=s) rfl];exact sZ
 .rw[iw (e1 u mu) (y:=.int 0) (s2:=s) rfl];exact ig
theorem aV{s:af}(us:List aj):∃s',s'=s++[a!.lst us]/\Fr s s'/\s'[s.length]?=some (.lst us)/\s'.length=s.length+1:=⟨_,rfl,Fr.app _ _,bx _ _,by rw[Vm];rfl⟩
end
open SA (dc)
structure CN(p:Int)(A:_d)(Gs:List (_d)):Prop where
 mn:∀G∈Gs,dG p G/\2<=G.length
 dv:∀G∈Gs,∃x:ah p,ak A=ak G*x
 cp:Gs.Pairwise λa b=>dc (ak a:ah p) (ak b)
def pW:List (_d)->ah p
 |[]=>1
 |G::l=>ak G*pW l
theorem Ee{x:ah p}:∀{l:List (_d)},(∀G∈l,dc x (ak G))->dc x (pW l)
 |[],_=>dc.one
 |G::l,h=>(h G (Vz ..)).mul (Ee λH m=>h H (VH _ m))
theorem zB{a:ah p}:∀{l:List (_d)},(∀G∈l,∃x:ah p,a=ak G*x)->(l.Pairwise λa b=>dc (ak a:ah p) (ak b))->∃y,a=pW l*y
 |[],_,_=>⟨a,by show a=1*a;grind⟩
 |G::l,h,c=>by
  obtain⟨x,hx⟩:=h G (Vz ..);obtain⟨c1,c2⟩:=X2.mp c;obtain⟨y,hy⟩:=zB (λH m=>h H (VH _ m)) c2;obtain⟨u,v,e⟩:=Ee c1;refine⟨u*y+v*x,?_⟩;show a=ak G*pW l*(u*y+v*x);generalize (pW l:ah p)=P at hy e⊢;generalize (ak G:ah p)=g at hx e⊢
  grind
theorem Ef(hp:0<p):∀{l:List (_d)}{A:_d}{y:ah p},(∀G∈l,dG p G/\2<=G.length)->Row p A->A≠[]->ak A=pW l*y->l.length<A.length
 |[],A,y,_,_,nA,_=>VA.mpr nA
 |G::l,A,y,h,hA,nA,e=>by obtain⟨m1,m2⟩:=h G (Vz ..);obtain⟨Q,hQ,eQ,nQ,lQ⟩:=r6 hp hA nA m1 (x:=pW l*y) (by rw[e];show ak G*pW l*y=_;exact cF _ _ _);have:=Ef hp (λH m=>h H (VH _ m)) hQ nQ eQ.symm;rw[Vl];lia
theorem CN.GF(hp:0<p){A:_d}(h:CN p A Gs)(hA:Row p A)(nA:A≠[]):Gs.length<A.length:=by obtain⟨y,e⟩:=zB h.dv h.cp;exact Ef hp h.mn hA nA e
theorem CN.len(hp:0<p){A:_d}(h:CN p A Gs)(hA:Row p A)(nA:A≠[]):∀G∈Gs,G.length<=A.length:=λG m=>by obtain⟨x,e⟩:=h.dv G m;obtain⟨Q,_,_,nQ,lQ⟩:=r6 hp hA nA (h.mn G m).1 e;have:=VA.mpr nQ;lia
theorem CN.nodup(hp:2<=p){A:_d}(h:CN p A Gs):Gs.Nodup:=by
 have h1:Gs.Pairwise λa b=>(dG p a/\2<=a.length)/\dc (ak a:ah p) (ak b):=
  List.Pairwise.imp_of_mem (λ{a b}ma _ c=>⟨h.mn a ma,c⟩) h.cp
 refine h1.imp λ{a b}q e=>?_;obtain⟨⟨m1,m2⟩,c⟩:=q;subst e;obtain⟨z,ez⟩:=SA.zd c (c:=ak a) (x:=1) (y:=1) (by grind) (by grind);rw[nM hp m1 ez]at m2;exact absurd m2 (by decide)
theorem CN.self{A:_d}(h:dG p A)(l:2<=A.length):CN p A [A]:=⟨λG m=>by rw[Vy.mp m];exact⟨h,l⟩,λG m=>⟨1,by rw[Vy.mp m];grind⟩,WN ..⟩
structure JA(p:Int)(Gs:List (_d))(i:Nat)(Hs:List (_d)):Prop where
 mn:∀H∈Hs,dG p H/\2<=H.length
 dv:∀H∈Hs,∃G∈Gs.take i,∃x:ah p,ak G=ak H*x
 cp:Hs.Pairwise λa b=>dc (ak a:ah p) (ak b)
theorem JA.nil:JA p Gs 0 []:=⟨(λ_ m=>by cases m),(λ_ m=>by cases m),.nil⟩
theorem JA.put{Hs Ks:List (_d)}{i:Nat}{G:_d}(h:JA p Gs i Hs)(hi:Gs[i]?=some G)(c:Gs.Pairwise λa b=>dc (ak a:ah p) (ak b))(f:CN p G Ks):JA p Gs (i+1) (Hs++Ks):=by
 have et:Gs.take (i+1)=Gs.take i++[G]:=by rw[XD,hi];rfl
 refine⟨λH m=>?_,λH m=>?_,WO.mpr ⟨h.cp,f.cp,λa ma b mb=>?_⟩⟩
 .rcases VP.mp m with m|m
  .exact h.mn H m
  .exact f.mn H m
 .rw[et];rcases VP.mp m with m|m
  .obtain⟨G',mG,x,e⟩:=h.dv H m;exact⟨G',Wd _ mG,x,e⟩
  .obtain⟨x,e⟩:=f.dv H m;exact⟨G,VX _ (Vy.mpr rfl),x,e⟩
 .obtain⟨G',mG,x,e⟩:=h.dv a ma;obtain⟨y,e'⟩:=f.dv b mb;have cc:dc (ak G':ah p) (ak G):=by have:(Gs.take (i+1)).Pairwise λa b=>dc (ak a:ah p) (ak b):=List.Pairwise.sublist (List.take_sublist _ _) c;rw[et]at this;exact(WO.mp this).2.2 G' mG G (Vy.mpr rfl)
  exact((cc.of_dvd e').symm.of_dvd e).symm
theorem JA.MG{A:_d}{Hs:List (_d)}{i:Nat}(h:JA p Gs i Hs)(f:∀G∈Gs,∃x:ah p,ak A=ak G*x):CN p A Hs:=⟨h.mn,λH m=>by
  obtain⟨G,mG,x,e⟩:=h.dv H m;obtain⟨y,e'⟩:=f G (List.mem_of_mem_take mG);exact⟨x*y,by rw[e',e];exact cF _ _ _⟩,h.cp⟩
theorem pL(hp:0<p)(B:_d)(a:Int):(ak (iX p B [a]):ah p)=ak B-ak [a]:=by show _=(ak B:ah p) + -(ak [a]);rw[IK,pE];exact mk_eq ((uI hp B [a]).trans (aR.of_eq λk=>by rw[b?,g9];lia))
theorem Bb(hp:dM p=true){G H:_d}{a b:Int}(a0:0<=a)(ab:a<b)(bp:b<p){x y:ah p}(e1:(ak (iX p B [a]):ah p)=ak G*x)(e2:(ak (iX p B [b]):ah p)=ak H*y):dc (ak G:ah p) (ak H):=by
 have hr:=au hp;have bW:0<p:=by lia
 rw[pL bW]at e1 e2;obtain⟨t,ht⟩:=NT (p:=p) (n:=b-a) hp (by rw[V? (by lia) (by lia)];lia);have eu:(ak [t]:ah p)*(ak [b]-ak [a])=1:=by
  have h1:(ak [b]:ah p)=ak [b-a]+ak [a]:=by rw[<-jg];congr 2;lia
  have h2:(ak [t]:ah p)*ak [b-a]=1:=by rw[vJ];show _=(ak [1]:ah p);refine mk_eq ?_;refine(aR.of_eq λk=>by rw[aX,ph,gM]).trans ?_;intro k;rw[gM];show Cg p (t*((b-a)*one k)) (1*one k);rw[<-Wl];exact Cg.AN ⟨(t*(b-a)) / p,by have:=Wc (t*(b-a)) p;lia⟩ _
  grind
 exact⟨ak [t]*x,-(ak [t]*y),by grind⟩
def qE(y:ah p):_d->ah p
 |[]=>0
 |a::l=>ak [a]+y*qE y l
theorem JB{a b:Int}(h:Cg p a b):(ak [a]:ah p)=ak [b]:=mk_eq λk=>by rw[gM,gM];exact h.AN _
theorem MJ(y:ah p):∀l:_d,aR p (cf l) (λ_=>0)->qE y l=0
 |[],_=>rfl
 |a::l,h=>by
  show ak [a]+y*qE y l=0;rw[MJ y l λk=>by have:=h (k+1);rw[bG]at this;exact this,JB (show Cg p a 0 from h 0),FY]
  grind
theorem JC(y:ah p):∀a b:_d,aR p (cf a) (cf b)->qE y a=qE y b
 |[],b,h=>(MJ y b (h.symm.trans (aR.of_eq bZ))).symm
 |a::l,[],h=>MJ y _ (h.trans (aR.of_eq bZ))
 |x::a,z::b,h=>by show ak [x]+y*qE y a=ak [z]+y*qE y b;rw[JB (show Cg p x z from h 0),JC y a b λk=>by have:=h (k+1);rw[bG,bG]at this;exact this]
theorem CO(y:ah p):∀a b:_d,qE y (kY a b)=qE y a+qE y b
 |[],b=>by show qE y b=0+qE y b;grind
 |a::l,[]=>by show qE y (a::l)=qE y (a::l)+0;grind
 |x::a,z::b=>by show ak [x+z]+y*qE y (kY a b)=(ak [x]+y*qE y a)+(ak [z]+y*qE y b);rw[CO y a b,jg];grind
theorem Eg(a b:Int):(ak [a*b]:ah p)=ak [a]*ak [b]:=eY λk=>by rw[aX,ph,gM,gM,Wl]
theorem NW(c:Int):(ak [-c]:ah p) = -ak [c]:=eY λk=>by rw[g9,gM,gM];grind
theorem Eh(y:ah p)(c:Int):∀a:_d,qE y (a.map (c * ·))=ak [c]*qE y a
 |[]=>by show(0:ah p)=ak [c]*0;grind
 |x::a=>by show ak [c*x]+y*qE y (a.map (c * ·))=ak [c]*(ak [x]+y*qE y a);rw[Eh y c a,Eg];grind
theorem JD(y:ah p)(b:_d):∀a:_d,qE y (bR a b)=qE y a*qE y b
 |[]=>by
  rw[MJ y _ (aR.of_eq λk=>by rw[aX,j!])];show(0:ah p)=0*qE y b
  grind
 |x::a=>by
  rw[JC y (bR (x::a) b) (kY (b.map (x * ·)) (0::bR a b)) (aR.of_eq λk=>by
   rw[aX,b?,g9];show x*cf b k+gR (mF a (cf b)) k=_;congr 1;cases k with
   |zero=>rfl
   |succ k=>rw[bG,aX];rfl),CO,Eh]
  show _+(ak [0]+y*qE y (bR a b))=(ak [x]+y*qE y a)*qE y b;rw[JD y b a,FY];grind
def BB(y x:ah p):ah p:=Quotient.liftOn x (qE y) λa b h=>JC y a b h
theorem MK(y x z:ah p):BB y (x+z)=BB y x+BB y z:=by revert x;refine cC λa=>?_;revert z;refine cC λb=>?_;exact CO y a b
theorem Ei(y x z:ah p):BB y (x*z)=BB y x*BB y z:=by revert x;refine cC λa=>?_;revert z;refine cC λb=>?_;exact JD y b a
theorem JE(y:ah p)(c:Int):BB y (ak [c])=ak [c]:=by
 show ak [c]+y*0=_
 grind
theorem Ej(y x z:ah p):BB y (x-z)=BB y x-BB y z:=by
 have:=MK y (x-z) z;rw[show x-z+z=x by grind]at this
 grind
theorem NX(y:ah p):BB y Xp=y:=by show ak [0]+y*(ak [1]+y*0)=y;rw[FY,q_];grind
theorem Ek(y x:ah p):∀n:Nat,BB y (x ^ n)=BB y x ^ n
 |0=>JE y 1
 |n+1=>by rw[k?,Ei,Ek y x n,k?]
def wU(y:ah p):Nat->ah p
 |0=>1
 |n+1=>wU y n*(y-ak [(n:Int)])
theorem NY(y:ah p):∀n:Nat,BB y (wU Xp n)=wU y n
 |0=>JE y 1
 |n+1=>by show BB y (wU Xp n*(Xp-ak [(n:Int)]))=wU y n*(y-ak [(n:Int)]);rw[Ei,Ej,NY y n,NX,JE]
theorem ML(h:dM p=true)(y:ah p)(n:Nat):∃z,y ^ p.toNat-y=(y-ak [(n:Int)])*z:=by
 have hr:=au h;obtain⟨m,hm⟩:∃m:Nat,p.toNat=m+1:=⟨p.toNat-1,by lia⟩
 have e:=CC h (y-ak [(n:Int)]) (ak [(n:Int)]);rw[uO h,show y-ak [(n:Int)]+ak [(n:Int)]=y by grind,hm,k? (y-_)]at e;refine⟨(y-ak [(n:Int)]) ^ m-1,?_⟩;rw[hm,e];generalize (y-ak [(n:Int)]) ^ m=w
 grind
theorem MM(hp:dM p=true)(y:ah p){a b:Nat}(ab:a<b)(bp:(b:Int)<p):dc (y-ak [(a:Int)]) (y-ak [(b:Int)]):=by
 have bW:0<p:=by lia
 revert y;refine cC λB=>?_;have:=Bb hp (B:=B) (G:=iX p B [(a:Int)]) (H:=iX p B [(b:Int)]) (a:=(a:Int)) (b:=(b:Int)) (x:=1) (y:=1) (by lia) (by lia) bp (by grind) (by grind);rw[pL bW,pL bW]at this;exact this
theorem JF(hp:dM p=true)(y:ah p){b:Nat}(bp:(b:Int)<p):∀n:Nat,n<=b->dc (y-ak [(b:Int)]) (wU y n)
 |0,_=>dc.one
 |n+1,h=>(JF hp y bp n (by lia)).mul (MM hp y (by lia) bp).symm
theorem JG(hp:dM p=true)(y:ah p):∀n:Nat,(n:Int)<=p->∃z,y ^ p.toNat-y=wU y n*z
 |0,_=>⟨y ^ p.toNat-y,by show _=1*_;grind⟩
 |n+1,h=>by
  obtain⟨z,hz⟩:=JG hp y n (by lia);obtain⟨w,hw⟩:=ML hp y n;obtain⟨u,v,e⟩:=JF hp y (b:=n) (by lia) n (Vv _);refine⟨u*z+v*w,?_⟩;show _=wU y n*(y-ak [(n:Int)])*_;generalize y ^ p.toNat-y=Y at hz hw⊢;generalize y-ak [(n:Int)]=d at hw e⊢;generalize wU y n=s at hz e⊢
  grind
theorem dG.mul(hp:0<p){A:_d}(hA:dG p A)(hB:dG p B):∃C,dG p C/\C.length+1=A.length+B.length/\(ak C:ah p)=ak A*ak B:=by
 have e:=D9 hp A B;have r:=IG hp A B;have n:mT p A B≠[]:=λz=>by
  rw[z]at e;have z0:(ak []:ah p)=0:=eY λk=>by rw[bZ];exact(iG k).symm
  have:=hA.cancel hp (ak B) (ak []) (by rw[<-e,z0];grind);exact hB.ne (lH hp hB.row (Row.nil p) this)
 obtain⟨_,l,t⟩:=oF hp r n hA.row hB.ne hB.l1 (uH hp A B);exact⟨_,⟨r,n,t.trans hA.l1⟩,l,e⟩
theorem jF(hp:0<p){G:_d}(hG:dG p G){l:_d}(hl:l.length<G.length){x:ah p}(e:ak l=ak G*x):(ak l:ah p)=0:=by have hc:=gF (l.map (·.fmod p));rw[Vj]at hc;have el:=mk_eq (Row.cg hp l);obtain⟨b,_,rfl⟩:=CB hp x;have:=jW hp (x:=b) (Row.of hp l) hG.ne hG.l1 (by lia) ((qv (el.trans (e.trans (bH _ _)))).trans (aR.of_eq (aX b G)));rw[<-el,this];exact eY λk=>by rw[bZ];exact(iG k).symm
theorem JH(hp:2<=p):∀n:Nat,∃C,dG p C/\C.length=n+1/\ak C=wU (Xp:ah p) n
 |0=>⟨[1],⟨jf hp,by simp,rfl⟩,rfl,rfl⟩
 |n+1=>by
  obtain⟨C,hC,lC,eC⟩:=JH hp n;have hc:=qD (p:=p) (by lia) (-(n:Int));have hX:dG p [(-(n:Int)).fmod p,1]:=⟨⟨rfl,λa m=>by
   rcases V_.mp m with rfl|m
   .exact hc
   .rw[Vy.mp m];lia⟩,by simp,rfl⟩
  obtain⟨D,hD,lD,eD⟩:=hC.mul (by lia) hX;refine⟨D,hD,by rw[show[(-(n:Int)).fmod p,1].length=2 from rfl]at lD;lia,?_⟩;show _=wU Xp n*(Xp-ak [(n:Int)]);rw[eD,eC,g?,q_,JB (Cg.mod (by lia) (-(n:Int))),NW]
  grind
theorem El(l:_d)(c:Int):(ak (l++[c]):ah p)=ak l+ak [c]*Xp ^ l.length:=by
 induction l with
 |nil=>
  have z0:(ak []:ah p)=0:=eY λk=>by rw[bZ];exact(iG k).symm
  rw[z0];show ak [c]=0+ak [c]*1;grind
 |cons a l ih=>
  rw[VI,g?,ih,g? a l,Vl,k?];generalize (Xp:ah p) ^ l.length=w
  grind
theorem oH(l:_d)(c:Int):aL (l++[c])=c:=by unfold aL;rw[Vm,VD];simp
theorem Bc:∀a b:_d,(kY a b).length<=max a.length b.length
 |[],b=>by show b.length<=_;lia
 |a::l,[]=>by show(a::l).length<=_;lia
 |x::a,z::b=>by show((x+z)::kY a b).length<=_;have:=Bc a b;rw[Vl,Vl,Vl];lia
theorem piX(hp:dM p=true):(Xp:ah p) ^ p.toNat-Xp=wU Xp p.toNat:=by
 have hr:=au hp;obtain⟨z,hz⟩:=JG hp (Xp:ah p) p.toNat (by lia);obtain⟨C,hC,lC,eC⟩:=JH (p:=p) (by lia) p.toNat;obtain⟨l,c,hd⟩:=(XA C).resolve_left hC.ne;rw[XC]at hd;have c1:c=1:=by have:=hC.l1;rw[hd,oH]at this;exact this
 have ll:l.length=p.toNat:=by rw[hd,Vm,VO]at lC;lia
 have e1:=El (p:=p) l c;rw[<-hd,c1,ll,q_,eC]at e1;have ha:=Bc l [0,1];rw[show[(0:Int),1].length=2 from rfl]at ha;have low:=jF (p:=p) (by lia) hC (l:=kY l [0,1]) (x:=1-z) (by lia) (by
  rw[<-pE,eC];show ak l+Xp=_;generalize (Xp:ah p) ^ p.toNat=w at hz e1
  grind)
 rw[<-pE]at low;have:(ak l:ah p)+Xp=0:=low;generalize (Xp:ah p) ^ p.toNat=w at hz e1⊢
 grind
theorem NZ(hp:dM p=true)(y:ah p):y ^ p.toNat-y=wU y p.toNat:=by have:=WR (BB y) (piX (p:=p) hp);rw[Ej,Ek,NX,NY]at this;exact this
theorem xj:(ak []:ah p)=0:=eY λk=>by rw[bZ];exact(iG k).symm
theorem abh(hp:2<=p):dG p [1]:=⟨jf hp,by simp,rfl⟩
theorem jh(hp:0<p){A C:_d}(hA:dG p A)(hC:dG p C){w:ah p}(e:ak A=ak C*w):∃Q,dG p Q/\w=ak Q/\A.length+1=Q.length+C.length:=by obtain⟨Q,hQ,rfl⟩:=CB hp w;obtain⟨n,l,t⟩:=oF hp hA.row hA.ne hQ hC.ne hC.l1 ((qv (e.trans (bH _ _))).trans (aR.of_eq (aX Q C)));exact⟨Q,⟨hQ,n,t.symm.trans hA.l1⟩,rfl,l⟩
theorem zC{A:_d}(h:dG p A):A=[1]\/2<=A.length:=by
 have:=VA.mpr h.ne;by_cases l:A.length=1
 .exact .inl (rF h l)
 .exact .inr (by lia)
theorem vZ(hp:0<p){A C:_d}(hA:dG p A)(hC:dG p C){w:ah p}(e:ak A=ak C*w)(l:A.length<=C.length):A=C:=by obtain⟨Q,hQ,rfl,lQ⟩:=jh hp hA hC e;have:=VA.mpr hQ.ne;rw[rF hQ (by lia),q_]at e;exact lH hp hA.row hC.row (by rw[e];grind)
theorem QY(hp:0<p){A C:_d}(hA:dG p A)(hC:dG p C){w t:ah p}(e1:ak A=ak C*w)(e2:ak C=ak A*t):A=C:=by obtain⟨Q,hQ,_,lQ⟩:=jh hp hC hA e2;have:=VA.mpr hQ.ne;exact vZ hp hA hC e1 (by lia)
theorem uR:∀a b:List (_d),(pW (a++b):ah p)=pW a*pW b
 |[],b=>by show pW b=1*pW b;grind
 |G::a,b=>by show ak G*pW (a++b)=ak G*pW a*pW b;rw[uR a b];grind
theorem Em(hp:2<=p):∀{l:List (_d)},(∀G∈l,dG p G/\2<=G.length)->∃C,dG p C/\(ak C:ah p)=pW l
 |[],_=>⟨[1],abh hp,rfl⟩
 |G::l,h=>by obtain⟨C,hC,e⟩:=Em hp λH m=>h H (VH _ m);obtain⟨D,hD,_,e'⟩:=(h G Vz).1.mul (by lia) hC;exact⟨D,hD,by rw[e',e];rfl⟩
structure BC(p:Int)(G:_d):Prop where
 mn:dG p G
 l2:2<=G.length
 ir:∀A B,dG p A->dG p B->(ak G:ah p)=ak A*ak B->A=[1]\/B=[1]
theorem BC.JI(hp:dM p=true){G A:_d}(h:BC p G)(hA:Row p A)(lG:G.length<=5000)(lA:A.length<=5000):dc (ak G:ah p) (ak A)\/∃x:ah p,ak A=ak G*x:=by
 have bW:0<p:=by have:=au hp;lia
 obtain⟨D,g⟩:=Jj hp h.mn.row hA h.mn.ne lG lA;obtain⟨mD,d1,d2,u,v,b⟩:=pF g;obtain⟨Q,hQ,eQ,_⟩:=jh bW h.mn mD d1;rw[eQ]at d1;rcases h.ir D Q mD hQ d1 with z|z
 .exact .inl ⟨u,v,by rw[<-b,z,q_]⟩
 .exact .inr ⟨ak (b7 p A D),by rw[d1,z,q_,d2];grind⟩
theorem BC.no1(hp:2<=p){G:_d}(h:BC p G){x:ah p}(e:1=ak G*x):False:=by have:=h.l2;rw[nM hp h.mn e.symm]at this;exact absurd this (by decide)
theorem BC.num(hp:dM p=true){G W:_d}(h:BC p G)(hW:Row p W)(lG:G.length<=5000)(lW:W.length<=5000){z:ah p}(e:(ak W:ah p) ^ p.toNat-ak W=ak G*z):∃s:Nat,(s:Int)<p/\∃z:ah p,ak W-ak [(s:Int)]=ak G*z:=by
 have hr:=au hp;have bW:0<p:=by lia
 rw[NZ hp]at e;have key:∀(n:Nat)(z:ah p),(n:Int)<=p->wU (ak W) n=ak G*z->∃s:Nat,(s:Int)<p/\∃z:ah p,ak W-ak [(s:Int)]=ak G*z:=by
  intro n
  induction n with
  |zero=>intro z _ e;exact(h.no1 (by lia) e).elim
  |succ n ih=>
   intro z hn e;have e:wU (ak W) n*(ak W-ak [(n:Int)])=ak G*z:=e;have hl:=qr p W [(n:Int)];rw[VO]at hl;rcases h.JI hp (A:=iX p W [(n:Int)]) (Row.of bW _) lG (by lia)with c|⟨x,c⟩
   .rw[pL bW]at c;obtain⟨u,v,c⟩:=c;refine ih (u*wU (ak W) n+v*z) (by lia) ?_;generalize (wU (ak W) n:ah p)=S at e⊢
    grind
   .rw[pL bW]at c;exact⟨n,by lia,x,c⟩
 exact key p.toNat z (by lia) e
theorem QZ(hp:2<=p):¬ (1:ah p)=0:=λe=>by have:=lH (by lia) (jf hp) (Row.nil p) (by rw[q_,xj,e]);cases this
theorem JJ(hp:dM p=true){G:_d}(hG:dG p G)(l2:2<=G.length)(sq:dc (ak G:ah p) (dP (ak G)))(hc:∀w:ah p,(∃z,w ^ p.toNat-w=ak G*z)->∃(c:Int)(z:ah p),w-ak [c]=ak G*z):BC p G:=by
 have hr:=au hp;have bW:0<p:=by lia
 refine⟨hG,l2,λA B hA hB e=>?_⟩;rcases zC hA with z|lA
 .exact .inl z
 rcases zC hB with z|lB
 .exact .inr z
 exfalso;rw[e]at sq;obtain⟨x,y,c⟩:=(SA.y? kZ sq).1;obtain⟨P,hP⟩:∃P,p.toNat=P+1:=⟨p.toNat-1,by lia⟩
 have key:∀n:Nat,∃z:ah p,(x*ak A) ^ (n+1)-x*ak A=ak G*z:=by
  intro n
  induction n with
  |zero=>exact⟨0,by rw[k?,tq];grind⟩
  |succ n ih=>
   obtain⟨z,ih⟩:=ih;rw[k?];generalize (x*ak A) ^ (n+1)=w at ih⊢;exact⟨x*ak A*z-x*y,by grind⟩
 obtain⟨c',z,h⟩:=hc (x*ak A) (by rw[hP];exact key P);have z1:(ak [c']:ah p)=0:=jF bW hA (x:=x-ak B*z) (by rw[VO];lia) (by grind);have z2:(ak [1]:ah p)=0:=jF bW hB (x:=y+ak A*z) (by rw[VO];lia) (by rw[q_];grind);exact QZ (by lia) z2
theorem CP(a b:ah p)(n:Nat):∃z,(a*b) ^ (n+1)=a*z:=⟨b*(a*b) ^ n,by rw[k?];generalize (a*b) ^ n=w;grind⟩
theorem JK(hp:dM p=true){f g h:ah p}(ef:f=g*h)(c:dc g h)(hs:∀w:ah p,(∃z,w ^ p.toNat-w=f*z)->∃(c:Int)(z:ah p),w-ak [c]=g*z)(w:ah p)(hw:∃z,w ^ p.toNat-w=g*z):∃(c:Int)(z:ah p),w-ak [c]=g*z:=by
 have hr:=au hp;obtain⟨P,hP⟩:∃P,p.toNat=P+1:=⟨p.toNat-1,by lia⟩
 obtain⟨x,y,c⟩:=c;obtain⟨z0,hw⟩:=hw;have e1:h*(w*y)=w+g*(-(w*x)):=by grind
 have f1:=CC hp w (g*(-(w*x)));rw[<-e1]at f1;obtain⟨z1,e2⟩:=CP g (-(w*x)) P;obtain⟨z2,e3⟩:=CP h (w*y) P;rw[<-hP]at e2 e3;rw[e2]at f1;obtain⟨c',z,e4⟩:=hs (h*(w*y)) ⟨x*(z2-w*y)+y*(z0+z1+w*x),by
  generalize (h*(w*y)) ^ p.toNat=V at f1 e3⊢;generalize w ^ p.toNat=U at f1 hw
  grind⟩
 exact⟨c',z+w*x,by clear f1 e2 e3 hw hs c;grind⟩
section
variable{w:Nat}
structure kf(p:Int)(w:Nat)(R:_d):Prop where
 l:R.length=w
 r:∀x∈R,0<=x/\x<p
theorem kf.vH(hp:0<p)(h:kf p w R)(k:Nat):0<=cf R k/\cf R k<p:=by
 by_cases hk:k<R.length
 .have:cf R k=R[k]:=by unfold cf;exact SO.GG 0 hk
  rw[this];exact h.r _ (XQ hk)
 .rw[c! (by lia)];lia
def j?(p:Int)(T:_d)(j:Nat)(R:_d):_d:=(R.zip T).map λq=>(q.1-cf R j*q.2).fmod p
def Bd(p t:Int)(R:_d):_d:=R.map λi=>(i*t).fmod p
theorem v9(p:Int):(0:Int).fmod p=0:=by simp
theorem CQ{T:_d}(h:R.length=T.length)(j k:Nat):cf (j? p T j R) k=(cf R k-cf R j*cf T k).fmod p:=by
 unfold j?;by_cases hk:k<R.length
 .unfold cf;rw[SO.GG 0 (by rw[Vj,Xh];lia),Xc,List.getElem_zip,SO.GG 0 hk,SO.GG (l:=T) 0 (by lia)]
 .rw[c! (by rw[Vj,Xh];lia),c! (ns:=R) (by lia),c! (ns:=T) (by lia),Wj,YN,v9]
theorem CS(t:Int)(R:_d)(k:Nat):cf (Bd p t R) k=(cf R k*t).fmod p:=pC (λi=>(i*t).fmod p) (by show((0:Int)*t).fmod p=0;rw[Wx,v9]) R k
theorem JL(hp:0<p){T:_d}(hR:kf p w R)(hT:T.length=w)(j:Nat):kf p w (j? p T j R):=⟨by unfold j?;rw[Vj,Xh,hR.l,hT,YL],λx m=>by
 unfold j? at m;obtain⟨q,_,rfl⟩:=VR.mp m;exact qD hp _⟩
theorem Q0(hp:0<p)(hR:R.length=w)(t:Int):kf p w (Bd p t R):=⟨by unfold Bd;rw[Vj,hR],λx m=>by
 unfold Bd at m;obtain⟨q,_,rfl⟩:=VR.mp m;exact qD hp _⟩
theorem CT(hp:0<p){T:_d}(h:R.length=T.length)(j:Nat):aR p (cf (j? p T j R)) (λk=>cf R k + -(cf R j)*cf T k):=λk=>by rw[CQ h];exact(Cg.mod hp _).trans ⟨0,by grind⟩
theorem CU(hp:0<p)(t:Int)(R:_d):aR p (cf (Bd p t R)) (λk=>t*cf R k):=λk=>by rw[CS,WV];exact Cg.mod hp _
structure Dx(p:Int)(P:Cf->Prop):Prop where
 cg:∀f g,aR p f g->P f->P g
 z:P λ_=>0
 RI:∀f g c,P f->P g->P λk=>f k+c*g k
theorem Dx.smul{P:Cf->Prop}(h:Dx p P){f:Cf}(hf:P f)(c:Int):P λk=>c*f k:=h.cg _ _ (aR.of_eq λk=>by rw[Xa]) (h.RI _ f c h.z hf)
def jG:List (Int×List Int)->Cf
 |[]=>λ_=>0
 |q::l=>λk=>q.1*cf q.2 k+jG l k
def N0(p:Int)(rows:List (_d)):Prop:=∀ps:List (Int×List Int),ps.map (·.2)=rows->aR p (jG ps) (λ_=>0)->∀q∈ps,Cg p q.1 0
theorem Gb{a b:List (Int×List Int)}(h:a.Perm b):∀k,jG a k=jG b k:=by
 induction h with
 |nil=>exact λ_=>rfl
 |cons x _ ih=>intro k;show _+_=_+_;rw[ih]
 |swap x y l=>intro k;show _+(_+_)=_+(_+_);lia
 |trans _ _ h1 h2=>exact λk=>(h1 k).trans (h2 k)
theorem N0.perm{a b:List (_d)}(h:N0 p a)(e:a.Perm b):N0 p b:=λps hb hz q mq=>by obtain⟨T,pT,eT⟩:=L2.r! (g:=λq:Int×List Int=>q.2) e ps hb;exact h T eT ((aR.of_eq (Gb pT)).trans hz) q (pT.mem_iff.mpr mq)
structure tZ(p:Int)(w j:Nat)(R0 T:_d)(t:Int):Prop where
 r0:kf p w R0
 tt:(t*cf R0 j) % p=1
 eT:T=Bd p t R0
theorem Gd{a:Int}(hp:0<p):a.fmod p=a % p:=Y8 a (by lia)
section
variable{j:Nat}{T:_d}{t:Int}
theorem tZ.Q3(hp:0<p)(h:tZ p w j R0 T t):kf p w T:=by rw[h.eT];exact Q0 hp h.r0.l t
theorem tZ.one(hp:0<p)(h:tZ p w j R0 T t):cf T j=1:=by rw[h.eT,CS,WV,Gd hp,h.tt]
theorem tZ.zero(h:tZ p w j R0 T t)(z:cf R0 k=0):cf T k=0:=by rw[h.eT,CS,z,Wx,v9]
theorem tZ.UM(hp:0<p)(h:tZ p w j R0 T t)(hR:kf p w R):cf (j? p T j R) j=0:=by rw[CQ (by rw[hR.l,(h.Q3 hp).l]),h.one hp,W3,Int.sub_self,v9]
theorem tZ.UN(hp:0<p)(h:tZ p w j R0 T t)(hR:kf p w R)(z:cf R0 k=0):cf (j? p T j R) k=cf R k:=by rw[CQ (by rw[hR.l,(h.Q3 hp).l]),h.zero z,Wj,YN,c_ (hR.vH hp k).1 (hR.vH hp k).2]
theorem tZ.fw(hp:0<p)(h:tZ p w j R0 T t){P:Cf->Prop}(C:Dx p P)(a:P (cf R0)):P (cf T):=by rw[h.eT];exact C.cg _ _ (CU hp t R0).symm (C.smul a t)
theorem tZ.fwR(hp:0<p)(h:tZ p w j R0 T t){P:Cf->Prop}(C:Dx p P)(a:P (cf R0))(hR:kf p w R)(b:P (cf R)):P (cf (j? p T j R)):=
 C.cg _ _ (CT hp (by rw[hR.l,(h.Q3 hp).l]) j).symm (C.RI _ _ _ b (h.fw hp C a))
theorem tZ.bw(hp:0<p)(h:tZ p w j R0 T t){P:Cf->Prop}(C:Dx p P)(a:P (cf T)):P (cf R0):=by refine C.cg _ _ ?_ (C.smul a (cf R0 j));intro k;have:=(CU hp t R0 k).xg (cf R0 j);rw[<-h.eT]at this;have e:=Wc (t*cf R0 j) p;rw[h.tt]at e;generalize t*cf R0 j / p=u at e;exact this.trans ⟨u*cf R0 k,by grind⟩
theorem tZ.bwR(hp:0<p)(h:tZ p w j R0 T t){P:Cf->Prop}(C:Dx p P)(a:P (cf T))(hR:kf p w R)(b:P (cf (j? p T j R))):P (cf R):=
 C.cg _ _ (λk=>by
  have:=(CT hp (T:=T) (R:=R) (by rw[hR.l,(h.Q3 hp).l]) j k).add (Cg.refl p (cf R j*cf T k));exact this.trans ⟨0,by grind⟩) (C.RI _ _ (cf R j) b a)
theorem tZ.sum(hp:0<p)(h:tZ p w j R0 T t):∀{M:List (_d)},(∀R∈M,kf p w R)->∀{ps:List (Int×List Int)},ps.map (·.2)=M.map (j? p T j)->∃(qs:List (Int×List Int))(s:Int),qs.map (·.2)=M/\qs.map (·.1)=ps.map (·.1)/\(∀k,Cg p (jG ps k) (jG qs k + -s*cf T k))/\((∀q∈qs,Cg p q.1 0)->Cg p s 0)
 |[],_,ps,e=>by
  cases ps with
  |nil=>exact⟨[],0,rfl,rfl,λk=>⟨0,by show(0:Int)=0 + -0*cf T k+p*0;simp⟩,λ_=>Cg.refl _ _⟩
  |cons q l=>cases e
 |R::M,hM,ps,e=>by
  cases ps with
  |nil=>cases e
  |cons q ps=>
   obtain⟨e1,e2⟩:=WS e;have hR:=hM R Vz;obtain⟨qs,s,a1,a2,a3,a4⟩:=tZ.sum hp h (λx m=>hM x (VH _ m)) e2;refine⟨(q.1,R)::qs,s+q.1*cf R j,by rw[Vq,a1],by rw[Vq,Vq,a2],λk=>?_,λhz=>?_⟩
   .show Cg p (q.1*cf q.2 k+jG ps k) (q.1*cf R k+jG qs k+_);rw[show q.2=j? p T j R from e1];have b:=(CT hp (T:=T) (R:=R) (by rw[hR.l,(h.Q3 hp).l]) j k).xg q.1;refine(b.add (a3 k)).trans ⟨0,?_⟩;rw[Xg,Int.neg_add,Yq,X5,X6,X5,X5,Wl];lia
   .have z1:=a4 λx m=>hz x (VH _ m);have z2:=(hz (q.1,R) Vz).AN (cf R j);have:=z1.add z2;rw[Wx,W2]at this;exact this
theorem tZ.ind(hp:0<p)(h:tZ p w j R0 T t){M:List (_d)}(hM:∀R∈M,kf p w R)(I:N0 p (R0::M)):N0 p (T::M.map (j? p T j)):=by
 intro ps e hz;cases ps with
 |nil=>cases e
 |cons q ps=>
  obtain⟨e1,e2⟩:=WS e;obtain⟨qs,s,a1,a2,a3,a4⟩:=h.sum hp hM e2;have key:=I (((q.1-s)*t,R0)::qs) (by rw[Vq,a1]) (λk=>by
   have z:=hz k;refine Cg.trans ?_ z;show Cg p ((q.1-s)*t*cf R0 k+jG qs k) (q.1*cf q.2 k+jG ps k);rw[show q.2=T from e1];have b:=(CU hp t R0 k).xg (q.1-s);rw[<-h.eT]at b;have c:=(b.add (a3 k)).symm;rw[<-Wl]at c;obtain⟨x,hx⟩:=c;exact⟨x,by grind⟩)
  have zq:∀x∈qs,Cg p x.1 0:=λx m=>key x (VH _ m);have zs:=a4 zq;intro x mx;rcases V_.mp mx with rfl|mx
  .have z:=(key _ Vz).AN (cf R0 j);rw[Wx,Wl]at z;have e:=Wc (t*cf R0 j) p;rw[h.tt]at e;have z2:Cg p (x.1-s) 0:=by refine Cg.trans ?_ z;show Cg p (x.1-s) ((x.1-s)*(t*cf R0 j));generalize t*cf R0 j / p=u at e;exact⟨-((x.1-s)*u),by grind⟩
   have:=z2.add zs;rw[Int.sub_add_cancel,W2]at this;exact this
  .obtain⟨i,hi⟩:=WZ mx;have:(qs.map (·.1))[i]?=some x.1:=by rw[a2,Vu,hi];rfl
   rw[Vu]at this;obtain⟨y,hy,ey⟩:=Ws.mp this;rw[<-ey];exact zq y (V8 hy)
end
end
section
variable{w j:Nat}{D L O:List (_d)}{T:_d}{t:Int}
structure GI(p:Int)(w j:Nat)(rows D L:List (_d))(cs:List Nat):Prop where
 iD:∀R∈D,kf p w R
 iL:∀R∈L,kf p w R
 cl:cs.length=D.length
 ct:D.length+L.length=rows.length
 un:∀(i k:Nat)R c,D[i]?=some R->cs[k]?=some c->cf R c=if i=k then 1 else 0
 zl:∀R∈L,∀k<j,cf R k=0
 cj:∀c∈cs,c<j
 eqv:∀P,Dx p P->((∀R∈rows,P (cf R))↔∀R∈D++L,P (cf R))
 ind:N0 p rows->N0 p (D++L)
theorem GI.start(h:∀R∈rows,kf p w R):GI p w 0 rows [] rows []:=⟨(λ_ m=>by cases m),h,rfl,VZ _,(λ_ _ _ _ e=>by cases e),(λ_ _ _ hk=>absurd hk (Y0 _)),(λ_ m=>by cases m),λ_ _=>Iff.rfl,λh=>h⟩
theorem GI.skip(h:GI p w j rows D L cs)(z:∀R∈L,cf R j=0):GI p w (j+1) rows D L cs:={h with
 zl:=λR m k hk=>by
  rcases WD k j with q|q
  .exact h.zl R m k q
  .rw[show k=j by lia];exact z R m
 cj:=λc m=>XW (h.cj c m)}
theorem GI.step(hp:0<p)(h:GI p w j rows D L cs)(S:tZ p w j R0 T t)(pe:L.Perm (R0::O)):GI p w (j+1) rows (D.map (j? p T j)++[T]) (O.map (j? p T j)) (cs++[j]):=by
 have m0:R0∈L:=pe.mem_iff.mpr Vz;have mO:∀R∈O,R∈L:=λR m=>pe.mem_iff.mpr (VH _ m);have iT:=S.Q3 hp;have pl:=pe.length_eq;rw[Vl]at pl;refine⟨λR m=>?_,λR m=>?_,by rw[Vm,Vm,Vj,h.cl];rfl,by rw[Vm,Vj,Vj,<-h.ct,pl,VO];lia,λi k R c hi hk=>?_,λR m k hk=>?_,λc m=>?_,λP C=>?_,λI=>?_⟩
 .rcases VP.mp m with m|m
  .obtain⟨Q,mQ,rfl⟩:=VR.mp m;exact JL hp (h.iD Q mQ) iT.l j
  .rw[Vy.mp m];exact iT
 .obtain⟨Q,mQ,rfl⟩:=VR.mp m;exact JL hp (h.iL Q (mO Q mQ)) iT.l j
 .have lk:k<(cs++[j]).length:=(VM.mp hk).1;rw[Vm,VO,h.cl]at lk;have li:i<(D.map (j? p T j)++[T]).length:=(VM.mp hi).1;rw[Vm,VO,Vj]at li;have ck:k<D.length->c<j/\cs[k]?=some c:=λq=>by rw[V4 (by rw[h.cl];exact q)]at hk;exact⟨h.cj c (V8 hk),hk⟩
  have ck2:k=D.length->c=j:=λq=>by rw[V3 (by rw[h.cl];lia),h.cl,q,WY]at hk;exact(VU hk).symm
  by_cases qi:i<D.length
  .rw[V4 (by rw[Vj];exact qi),Vu]at hi;obtain⟨Q,hQ,rfl⟩:=Ws.mp hi;have iQ:=h.iD Q (V8 hQ);by_cases qk:k<D.length
   .obtain⟨a,b⟩:=ck qk;rw[S.UN hp iQ (h.zl R0 m0 c a)];exact h.un i k Q c hQ b
   .rw[ck2 (by lia),S.UM hp iQ,VE (by lia)]
  .rw[V3 (by rw[Vj];lia),Vj,show i-D.length=0 by lia]at hi;rw[<-show T=R from VU hi];by_cases qk:k<D.length
   .rw[S.zero (h.zl R0 m0 c (ck qk).1),VE (by lia)]
   .rw[ck2 (by lia),S.one hp,Vs (by lia)]
 .obtain⟨Q,mQ,rfl⟩:=VR.mp m;have iQ:=h.iL Q (mO Q mQ);rcases WD k j with q|q
  .rw[S.UN hp iQ (h.zl R0 m0 k q)];exact h.zl Q (mO Q mQ) k q
  .rw[show k=j by lia];exact S.UM hp iQ
 .rcases VP.mp m with m|m
  .exact XW (h.cj c m)
  .rw[Vy.mp m];exact Ye _
 .refine(h.eqv P C).trans ⟨λa R m=>?_,λa=>?_⟩
  .have a0:=a R0 (VX _ m0);rcases VP.mp m with m|m
   .rcases VP.mp m with m|m
    .obtain⟨Q,mQ,rfl⟩:=VR.mp m;exact S.fwR hp C a0 (h.iD Q mQ) (a Q (Wd _ mQ))
    .rw[Vy.mp m];exact S.fw hp C a0
   .obtain⟨Q,mQ,rfl⟩:=VR.mp m;exact S.fwR hp C a0 (h.iL Q (mO Q mQ)) (a Q (VX _ (mO Q mQ)))
  .have aT:P (cf T):=a T (Wd _ (VX _ (Vy.mpr rfl)));intro R m;rcases VP.mp m with m|m
   .exact S.bwR hp C aT (h.iD R m) (a _ (Wd _ (Wd _ (V1 m))))
   .rcases V_.mp (pe.mem_iff.mp m)with rfl|m
    .exact S.bw hp C aT
    .exact S.bwR hp C aT (h.iL R (mO R m)) (a _ (VX _ (V1 m)))
 .have I1:=(h.ind I).perm (show(D++L).Perm (R0::(D++O)) from(pe.append_left D).trans List.perm_middle);have I2:=S.ind hp (λR m=>by
   rcases VP.mp m with m|m
   .exact h.iD R m
   .exact h.iL R (mO R m)) I1
  refine I2.perm ?_;rw[VS,V6];exact List.perm_middle.symm
def wV:List (_d)->Cf->ah p
 |[],_=>0
 |m::ms,f=>ak [f 0]*ak m+wV ms λi=>f (i+1)
theorem Eo(f g:Cf)(c:Int):∀ms:List (_d),∀f g:Cf,(wV ms (λk=>f k+c*g k):ah p)=wV ms f+ak [c]*wV ms g
 |[],f,g=>by show(0:ah p)=0+ak [c]*0;grind
 |m::ms,f,g=>by
  show ak [f 0+c*g 0]*ak m+wV ms (λi=>f (i+1)+c*g (i+1))=_;rw[Eo f g c ms (λi=>f (i+1)) (λi=>g (i+1)),jg,Eg];show _=(ak [f 0]*ak m+_)+ak [c]*(ak [g 0]*ak m+_)
  grind
theorem nO:∀(ms:List (_d)){f g:Cf},aR p f g->(wV ms f:ah p)=wV ms g
 |[],_,_,_=>rfl
 |m::ms,f,g,h=>by show ak [f 0]*ak m+wV ms _=ak [g 0]*ak m+wV ms _;rw[JB (h 0),nO ms (f:=λi=>f (i+1)) (g:=λi=>g (i+1)) λk=>h (k+1)]
theorem JM:∀(ms:List (_d)),(wV ms (λ_=>0):ah p)=0
 |[]=>rfl
 |m::ms=>by show ak [0]*ak m+wV ms (λ_=>0)=0;rw[JM ms,FY];grind
theorem Ep:∀(ms:List (_d))(k:Nat){m:_d},ms[k]?=some m->(wV ms (λi=>if i=k then 1 else 0):ah p)=ak m
 |x::ms,0,m,e=>by cases e;show ak [1]*ak x+wV ms (λi=>if i+1=0 then 1 else 0)=ak x;rw[nO ms (g:=λ_=>0) (aR.of_eq λi=>VE (by lia)),JM,q_];grind
 |x::ms,k+1,m,e=>by show ak [if 0=k+1 then 1 else 0]*ak x+wV ms (λi=>if i+1=k+1 then 1 else 0)=ak m;rw[nO ms (g:=λi=>if i=k then 1 else 0) (aR.of_eq λi=>by simp),Ep ms k e,VE (by lia),FY];grind
def xk(W:Nat)(f:Cf):_d:=(List.range W).map f
theorem nW(W:Nat)(f:Cf)(k:Nat):cf (xk W f) k=if k<W then f k else 0:=by
 unfold xk;by_cases h:k<W
 .unfold cf;rw[Vs h,SO.GG 0 (by rw[Vj,VW];exact h),Xc,YG]
 .rw[VE h,c! (by rw[Vj,VW];lia)]
theorem zD(W:Nat)(f g:Cf)(c:Int):(ak (xk W λk=>f k+c*g k):ah p)=ak (xk W f)+ak [c]*ak (xk W g):=eY λk=>by
 rw[b?,aX,ph,nW,nW,nW];by_cases h:k<W
 .rw[Vs h,Vs h,Vs h]
 .rw[VE h,VE h,VE h];simp
theorem nX(W:Nat){f g:Cf}(h:∀k<W,Cg p (f k) (g k)):(ak (xk W f):ah p)=ak (xk W g):=mk_eq λk=>by
 rw[nW,nW];by_cases q:k<W
 .rw[Vs q,Vs q];exact h k q
 .rw[VE q,VE q];exact Cg.refl _ _
theorem qF{W:Nat}{m:_d}(h:m.length<=W):(ak (xk W (cf m)):ah p)=ak m:=eY λk=>by
 rw[nW];by_cases q:k<W
 .rw[Vs q]
 .rw[VE q,c! (by lia)]
theorem Er(W:Nat):(ak (xk W λ_=>0):ah p)=0:=by rw[<-xj];exact eY λk=>by rw[nW,bZ];split<;>rfl
theorem zE(R:_d)(W i:Nat):cf (R.drop W) i=cf R (W+i):=by unfold cf;rw[VD,VD,Yj]
structure Wu(W:Nat)(ms rows:List (_d)):Prop where
 n:rows.length=ms.length
 w:∀m∈ms,m.length=W
 a:∀(k:Nat)R m,rows[k]?=some R->ms[k]?=some m->(∀j<W,cf R j=cf m j)/\∀i,cf R (W+i)=if i=k then 1 else 0
section
variable{W:Nat}{ms:List (_d)}
theorem Wu.get(h:Wu W ms rows)(m:R∈rows):∃(k:Nat)(x:_d),rows[k]?=some R/\ms[k]?=some x:=by obtain⟨k,hk⟩:=WZ m;have:=(VM.mp hk).1;exact⟨k,_,hk,Vo (by rw[<-h.n];exact this)⟩
theorem JN(G:GI p (W+ms.length) W rows D L cs)(U:Wu W ms rows)(m:R∈L):(wV ms (cf (R.drop W)):ah p)=0:=by
 have key:=(G.eqv (λf=>(wV ms (λi=>f (W+i)):ah p)=ak (xk W f)) ⟨λf g e h=>by
   rw[<-nO ms (λk=>e (W+k)),h];exact nX W λk _=>e k,by rw[JM,Er],λf g c h1 h2=>by
   rw[Eo f g c ms (λi=>f (W+i)) (λi=>g (W+i)),h1,h2,zD]⟩).mp (λR m=>by
   obtain⟨k,x,h1,h2⟩:=U.get m;obtain⟨a,b⟩:=U.a k R x h1 h2;rw[nO ms (g:=λi=>if i=k then 1 else 0) (aR.of_eq b),Ep ms k h2,nX W (g:=cf x) λj hj=>by rw[a j hj];exact Cg.refl _ _,qF (W' (U.w x (V8 h2)))]) R (VX _ m)
 rw[nO ms (aR.of_eq (zE R W)),key,nX W (g:=λ_=>0) λk hk=>by rw[G.zl R m k hk];exact Cg.refl _ _,Er]
def Be(W:Nat):List (_d)->List Nat->Cf->ah p
 |R::D,c::cs,f=>ak [f c]*ak (R.drop W)+Be W D cs f
 |_,_,_=>0
theorem Es(W:Nat)(f g:Cf)(c:Int):∀(D:List (_d))(cs:List Nat),(Be W D cs (λk=>f k+c*g k):ah p)=Be W D cs f+ak [c]*Be W D cs g
 |[],_=>by show(0:ah p)=0+ak [c]*0;grind
 |R::D,[]=>by show(0:ah p)=0+ak [c]*0;grind
 |R::D,x::cs=>by show ak [f x+c*g x]*_+Be W D cs _=(ak [f x]*_+Be W D cs f)+ak [c]*(ak [g x]*_+Be W D cs g);rw[Es W f g c D cs,jg,Eg];grind
theorem v_(W:Nat){f g:Cf}:∀(D:List (_d))(cs:List Nat),(∀c∈cs,Cg p (f c) (g c))->(Be W D cs f:ah p)=Be W D cs g
 |[],_,_=>rfl
 |R::D,[],_=>rfl
 |R::D,x::cs,h=>by show ak [f x]*_+_=ak [g x]*_+_;rw[JB (h x Vz),v_ W D cs λc m=>h c (VH _ m)]
theorem Bf(W:Nat):∀(D:List (_d))(cs:List Nat),(Be W D cs (λ_=>0):ah p)=0
 |[],_=>rfl
 |R::D,[]=>rfl
 |R::D,x::cs=>by show ak [0]*_+Be W D cs _=0;rw[Bf W D cs,FY];grind
theorem Et(W:Nat){f:Cf}:∀(D:List (_d))(cs:List Nat)(i:Nat){R:_d},cs.length=D.length->D[i]?=some R->(∀(k:Nat)c,cs[k]?=some c->f c=if i=k then 1 else 0)->(Be W D cs f:ah p)=ak (R.drop W)
 |Q::D,c::cs,0,R,_,e,h=>by
  cases e;show ak [f c]*_+Be W D cs f=_;rw[show f c=1 from h 0 c rfl,v_ W D cs (g:=λ_=>0) λx m=>by
   obtain⟨k,hk⟩:=WZ m;rw[show f x=0 from h (k+1) x hk];exact Cg.refl _ _,Bf,q_]
  grind
 |Q::D,c::cs,i+1,R,l,e,h=>by
  show ak [f c]*_+Be W D cs f=_;rw[show f c=0 from h 0 c rfl,Et W D cs i (W! l) e λk x hk=>by
   rw[h (k+1) x hk];simp,FY]
  grind
 |[],c::cs,i,R,l,e,h=>by cases e
 |Q::D,[],i,R,l,e,h=>by cases l
def wW:List (_d)->_d->Cf
 |R::rs,a::V=>λk=>a*cf R k+wW rs V k
 |_,_=>λ_=>0
theorem Eu{P:Cf->Prop}(C:Dx p P):∀(rs:List (_d))(V:_d),(∀R∈rs,P (cf R))->P (wW rs V)
 |[],_,_=>C.z
 |R::rs,[],_=>C.z
 |R::rs,a::V,h=>C.cg _ _ (aR.of_eq λk=>by show wW rs V k+a*cf R k=a*cf R k+wW rs V k;lia) (C.RI _ _ a (Eu C rs V λQ m=>h Q (VH _ m)) (h R Vz))
theorem Bg(W i:Nat):∀(rs:List (_d))(V:_d)(o:Nat),rs.length=V.length->(∀(k:Nat)R,rs[k]?=some R->cf R (W+i)=if i=k+o then 1 else 0)->wW rs V (W+i)=if o<=i then cf V (i-o)else 0
 |[],[],o,_,_=>by show(0:Int)=_;rw[bZ];split<;>rfl
 |R::rs,a::V,o,l,h=>by
  show a*cf R (W+i)+wW rs V (W+i)=_;rw[Bg W i rs V (o+1) (W! l) λk Q hk=>by rw[h (k+1) Q hk,show k+1+o=k+(o+1) by lia],h 0 R rfl,VZ];by_cases q:i=o
  .rw[Vs q,VE (by lia),Vs (by lia),q,WY];show a*1+0=a;lia
  .rw[VE q];by_cases q2:o<=i
   .rw[Vs (by lia),Vs q2,show i-o=(i-(o+1))+1 by lia,bG];lia
   .rw[VE (by lia),VE q2];lia
 |[],a::V,o,l,_=>by cases l
 |R::rs,[],o,l,_=>by cases l
theorem Bh(k:Nat):∀(rs ms:List (_d))(V:_d),rs.length=ms.length->(∀(i:Nat)R m,rs[i]?=some R->ms[i]?=some m->cf R k=cf m k)->wW rs V k=wW ms V k
 |[],[],V,_,_=>rfl
 |R::rs,m::ms,[],_,_=>rfl
 |R::rs,m::ms,a::V,l,h=>by show a*cf R k+wW rs V k=a*cf m k+wW ms V k;rw[h 0 R m rfl rfl,Bh k rs ms V (W! l) λi Q x h1 h2=>h (i+1) Q x h1 h2]
 |[],m::ms,_,l,_=>by cases l
 |R::rs,[],_,l,_=>by cases l
theorem zF(W:Nat):∀(ms:List (_d))(V:_d),(∀m∈ms,m.length=W)->ms.length=V.length->(ak (xk W (wW ms V)):ah p)=wV ms (cf V)
 |[],[],_,_=>Er W
 |m::ms,a::V,h,l=>by
  have e:=zD (p:=p) W (wW ms V) (cf m) a;rw[qF (W' (h m Vz)),zF W ms V (λx q=>h x (VH _ q)) (W! l)]at e;rw[nX W (f:=wW (m::ms) (a::V)) (g:=λk=>wW ms V k+a*cf m k) λk _=>⟨0,by show a*cf m k+wW ms V k=_;lia⟩,e];show _=ak [a]*ak m+wV ms (λi=>cf (a::V) (i+1));rw[nO ms (f:=λi=>cf (a::V) (i+1)) (g:=cf V) (aR.of_eq λk=>bG a V k)]
  grind
 |[],a::V,_,l=>by cases l
 |m::ms,[],_,l=>by cases l
structure Sub(S:ah p->Prop):Prop where
 z:S 0
 RI:∀x y c,S x->S y->S (x+ak [c]*y)
theorem JO(G:GI p (W+ms.length) W rows D L cs)(U:Wu W ms rows){S:ah p->Prop}(hS:Sub S)(hL:∀R∈L,S (ak (R.drop W))){V:_d}(lV:V.length=ms.length)(z:(wV ms (cf V):ah p)=0):S (ak V):=by
 have dr:∀R:_d,kf p (W+ms.length) R->(ak (xk ms.length λi=>cf R (W+i)):ah p)=ak (R.drop W):=λR h=>by rw[<-qF (W:=ms.length) (m:=R.drop W) (by rw[Xm,h.l];lia)];exact nX _ λk _=>by rw[zE];exact Cg.refl _ _
 have C:Dx p λf=>S (ak (xk ms.length λi=>f (W+i))-Be W D cs f):=⟨λf g e h=>by
   rw[<-nX ms.length (λk _=>e (W+k)),<-v_ W D cs λc _=>e c];exact h,by
   rw[Er,Bf,show(0:ah p)-0=0 by grind];exact hS.z,λf g c h1 h2=>by
   rw[zD ms.length (λi=>f (W+i)) (λi=>g (W+i)),Es];exact Eq.mp (WR S (by grind)) (hS.RI _ _ c h1 h2)⟩
 have key:=(G.eqv _ C).mpr λR m=>by
  rcases VP.mp m with m|m
  .obtain⟨i,hi⟩:=WZ m;rw[dr R (G.iD R m),Et W D cs i G.cl hi λk c hk=>G.un i k R c hi hk,show ∀x:ah p,x-x=0 from λx=>by grind];exact hS.z
  .rw[dr R (G.iL R m),v_ W D cs (g:=λ_=>0) λc mc=>by rw[G.zl R m c (G.cj c mc)];exact Cg.refl _ _,Bf,show ∀x:ah p,x-0=x from λx=>by grind];exact hL R m
 have kc:=Eu C rows V key;have e1:(ak (xk ms.length λi=>wW rows V (W+i)):ah p)=ak V:=by
  rw[<-qF (W:=ms.length) (m:=V) (W' lV)];refine nX _ λi hi=>?_;rw[Bg W i rows V 0 (by rw[U.n,lV]) λk R hk=>by
   have:=(VM.mp hk).1;exact(U.a k R _ hk (Vo (by rw[<-U.n];exact this))).2 i,Vs (We _),Zp]
  exact Cg.refl _ _
 have e2:(ak (xk W (wW rows V)):ah p)=0:=by rw[nX W (g:=wW ms V) λk hk=>by rw[Bh k rows ms V U.n λi R m h1 h2=>(U.a i R m h1 h2).1 k hk];exact Cg.refl _ _,zF W ms V U.w lV.symm,z]
 have e3:(Be W D cs (wW rows V):ah p)=0:=by
  rw[v_ W D cs (g:=λ_=>0) λc mc=>by
   have:=qv (e2.trans xj.symm) c;rw[nW,Vs (G.cj c mc),bZ]at this;exact this,Bf]
 have kc:S (ak (xk ms.length λi=>wW rows V (W+i))-Be W D cs (wW rows V)):=kc;rw[e1,e3]at kc;rw[show(ak V:ah p)=ak V-0 by grind];exact kc
theorem Q4(U:Wu W ms rows):N0 p rows:=by
 intro ps e z q mq;obtain⟨k,hk⟩:=WZ mq;have lk:=(VM.mp hk).1;have hz:=z (W+k);have gen:∀(ps:List (Int×List Int))(o i:Nat),(∀(n:Nat)R,(ps.map (·.2))[n]?=some R->cf R (W+i)=if i=n+o then 1 else 0)->jG ps (W+i)=if o<=i then((ps[i-o]?).map (·.1)).getD 0 else 0:=by
  intro ps
  induction ps with
  |nil=>intro o i _;show(0:Int)=_;split<;>simp
  |cons x l ih=>
   intro o i h;show x.1*cf x.2 (W+i)+jG l (W+i)=_;rw[ih (o+1) i λn R hn=>by rw[h (n+1) R hn,show n+1+o=n+(o+1) by lia],h 0 x.2 rfl,VZ];by_cases q:i=o
   .rw[Vs q,VE (by lia),Vs (by lia),q,WY];show x.1*1+0=x.1;lia
   .rw[VE q];by_cases q2:o<=i
    .rw[Vs (by lia),Vs q2,show i-o=(i-(o+1))+1 by lia,List.getElem?_cons_succ];lia
    .rw[VE (by lia),VE q2];lia
 rw[gen ps 0 k λn R hn=>by
  rw[e]at hn;have:=(VM.mp hn).1;exact(U.a n R _ hn (Vo (by rw[<-U.n];exact this))).2 k,Vs (We _),Zp,hk]at hz
 exact hz
theorem Bi:∀(a b:List (Int×List Int))(k:Nat),jG (a++b) k=jG a k+jG b k
 |[],b,k=>by show jG b k=0+jG b k;lia
 |x::a,b,k=>by show _+jG (a++b) k=_+jG a k+jG b k;rw[Bi a b k];lia
theorem CV(k:Nat):∀M:List (_d),jG (M.map λR=>((0:Int),R)) k=0
 |[]=>rfl
 |R::M=>by show(0:Int)*_+jG (M.map λR=>((0:Int),R)) k=0;rw[CV k M,Wx,Xa]
theorem Q5(hp:2<=p)(G:GI p (W+ms.length) W rows D L cs)(U:Wu W ms rows)(m:R∈L):¬ (ak (R.drop W):ah p)=0:=λe=>by
 obtain⟨A,B,hAB⟩:=List.append_of_mem (VX D m);have I:=G.ind (Q4 U);have:=I (A.map (λR=>((0:Int),R))++(1,R)::B.map λR=>((0:Int),R)) (by rw[hAB,VS,Vq,V5,V5];congr 1<;>simp[Function.comp_def]) (λk=>by
  rw[Bi,CV];show Cg p (0+(1*cf R k+jG _ k)) 0;rw[CV,Xa,WQ,W2];rcases WD k W with q|q
  .rw[G.zl R m k q];exact Cg.refl _ _
  .have:=qv (e.trans xj.symm) (k-W);rw[zE,bZ,show W+(k-W)=k by lia]at this;exact this) (1,R) (VX _ Vz)
 obtain⟨x,hx⟩:=this;have hx:(1:Int)=0+p*x:=hx;have h1:p ∣ 1:=⟨x,by lia⟩
 have:=Int.le_of_dvd (by decide) h1;lia
end
end
end PG
variable {n:Nat}
namespace PG
open PySem.Spec L2 MN
open PyProof.Rows hiding St kindOf
open SA (dc)
section
variable{N:Nat}{A:_d}{ms D L:List (_d)}
theorem JP(hp:dM p=true)(hA:dG p A)(lA:A.length=N+1)(w:ah p):∃V:_d,V.length=N/\(∀c∈V,0<=c)/\∃q,w=ak V+ak A*q:=by
 have hr:=au hp;revert w;refine cC λB=>?_;have yb:¬ aL A % p=0:=by rw[hA.l1,V? (by lia) (by lia)];lia
 obtain⟨_,r2,r3,r4,_⟩:=fU hp (as:=B) hA.ne yb;refine⟨xk N (cf (h! p B A)),by unfold xk;rw[Vj,VW],λc m=>?_,ak (b7 p B A),?_⟩
 .unfold xk at m;obtain⟨k,_,rfl⟩:=VR.mp m;exact(r2.vH (by lia) k).1
 .rw[qF (by lia),bH,vJ,pE];exact mk_eq (r4.trans (aR.of_eq λk=>by rw[b?,aX];lia))
theorem pow_mod(hp:dM p=true){a v w q:ah p}(e:w=v+a*q):∃z,w ^ p.toNat-w=(v ^ p.toNat-v)+a*z:=by
 have hr:=au hp;obtain⟨P,hP⟩:∃P,p.toNat=P+1:=⟨p.toNat-1,by lia⟩
 obtain⟨z,hz⟩:=CP a q P;rw[<-hP]at hz;refine⟨z-q,?_⟩;rw[e,CC hp,hz];generalize v ^ p.toNat=u
 grind
theorem JQ(hp:dM p=true){c:Int}(h:0<=c):(ak [c]:ah p) ^ p.toNat=ak [c]:=by
 obtain⟨n,rfl⟩:∃n:Nat,c=(n:Int):=⟨c.toNat,by lia⟩
 exact uO hp n
theorem uS(hp:dM p=true){a:ah p}:∀(ms:List (_d))(V:_d)(o:Nat),ms.length=V.length->(∀c∈V,0<=c)->(∀(k:Nat)m,ms[k]?=some m->∃z,ak m=(Xp ^ p.toNat) ^ (o+k)-Xp ^ (o+k)+a*z)->∃z,wV ms (cf V)=(Xp ^ p.toNat) ^ o*ak V ^ p.toNat-Xp ^ o*ak V+a*z
 |[],[],o,_,_,_=>by
  have hr:=au hp;obtain⟨P,hP⟩:∃P,p.toNat=P+1:=⟨p.toNat-1,by lia⟩
  refine⟨0,?_⟩;show(0:ah p)=_;rw[xj,hP,k? 0];generalize (Xp ^ (P+1):ah p) ^ o=u;generalize (Xp:ah p) ^ o=v
  grind
 |m::ms,c::V,o,l,hc,hm=>by
  obtain⟨z1,e1⟩:=hm 0 m rfl;obtain⟨z2,e2⟩:=uS hp ms V (o+1) (W! l) (λx q=>hc x (VH _ q)) λk x hk=>by have:=hm (k+1) x hk;rw[show o+(k+1)=o+1+k by lia]at this;exact this
  refine⟨ak [c]*z1+z2,?_⟩;show ak [c]*ak m+wV ms (λi=>cf (c::V) (i+1))=_;rw[nO ms (f:=λi=>cf (c::V) (i+1)) (g:=cf V) (aR.of_eq λk=>bG c V k),e1,e2,g? c V,CC hp,SA.mul_pow,JQ hp (hc c Vz),k?,k?,Nat.add_zero];generalize (Xp ^ p.toNat:ah p) ^ o=u;generalize (Xp:ah p) ^ o=v;generalize (Xp:ah p) ^ p.toNat=x;generalize (ak V:ah p) ^ p.toNat=y
  grind
 |[],c::V,_,l,_,_=>by cases l
 |m::ms,[],_,l,_,_=>by cases l
structure Q6(p:Int)(A:_d)(N o:Nat)(ms:List (_d)):Prop where
 l:ms.length+o=N
 w:∀m∈ms,m.length=N
 e:∀(k:Nat)m,ms[k]?=some m->∃z:ah p,ak m=(Xp ^ p.toNat) ^ (o+k)-Xp ^ (o+k)+ak A*z
theorem Q6.zero(hp:dM p=true)(hA:dG p A)(lA:A.length=N+1){o:Nat}(h:Q6 p A N o ms){V:_d}(lV:V.length=ms.length)(cV:∀c∈V,0<=c){z:ah p}(e:(Xp ^ p.toNat) ^ o*ak V ^ p.toNat-Xp ^ o*ak V=ak A*z):(wV ms (cf V):ah p)=0:=by have hr:=au hp;obtain⟨z2,e2⟩:=uS hp ms V o lV.symm cV h.e;rw[e]at e2;have e3:=zF (p:=p) N ms V h.w lV.symm;rw[<-e3]at e2⊢;refine jF (by lia) hA (l:=xk N (wW ms V)) (x:=z+z2) (by unfold xk;rw[Vj,VW];lia) ?_;rw[e2];grind
theorem Bj(hp:dM p=true)(hA:dG p A)(lA:A.length=N+1)(C:Q6 p A N 0 ms)(G:GI p (N+ms.length) N rows D L cs)(U:Wu N ms rows){H h:ah p}(eH:ak A=H*h)(hL:∀R∈L,∃(c:Int)(z:ah p),ak (R.drop N)-ak [c]=H*z)(w:ah p)(hw:∃z,w ^ p.toNat-w=ak A*z):∃(c:Int)(z:ah p),w-ak [c]=H*z:=by
 obtain⟨V,lV,cV,q,eq⟩:=JP hp hA lA w;obtain⟨z0,hw⟩:=hw;obtain⟨z1,e1⟩:=pow_mod hp eq;have l0:=C.l;have hz:=C.zero hp hA lA (V:=V) (by lia) cV (z:=z0-z1) (by
  rw[tq,tq];generalize (ak V:ah p) ^ p.toNat=v at e1⊢;generalize w ^ p.toNat=u at e1 hw
  grind)
 obtain⟨c,z,e⟩:=JO G U (S:=λx=>∃(c:Int)(z:ah p),x-ak [c]=H*z) ⟨⟨0,0,by rw[FY];grind⟩,λx y c⟨c1,z1,e1⟩⟨c2,z2,e2⟩=>⟨c1+c*c2,z1+ak [c]*z2,by rw[jg,Eg];grind⟩⟩ hL (V:=V) (by lia) hz;exact⟨c,z+h*q,by rw[eq,eH];grind⟩
theorem Q7(hp:dM p=true)(C:Q6 p A N 0 ms)(G:GI p (N+ms.length) N rows D L cs)(U:Wu N ms rows)(m:R∈L):∃z:ah p,ak (R.drop N) ^ p.toNat-ak (R.drop N)=ak A*z:=by have iR:=G.iL R m;have k:=JN G U m;obtain⟨z,e⟩:=uS hp ms (R.drop N) 0 (by rw[Xm,iR.l];lia) (λc mc=>(iR.r c (List.mem_of_mem_drop mc)).1) C.e;rw[k,tq,tq]at e;generalize (ak (R.drop N):ah p) ^ p.toNat=v at e⊢;exact⟨-z,by grind⟩
theorem Ge(hp:dM p=true)(hA:dG p A)(lA:A.length=N+1)(n1:1<=N)(sq:dc (ak A:ah p) (dP (ak A)))(C:Q6 p A N 1 ms)(G:GI p (N+ms.length) N rows D [] cs)(U:Wu N ms rows):BC p A:=by
 refine JJ hp hA (by lia) sq λw⟨z0,hw⟩=>?_;obtain⟨V,lV,cV,q,eq⟩:=JP hp hA lA w;cases V with
 |nil=>rw[VB]at lV;lia
 |cons c V=>
  obtain⟨z1,e1⟩:=pow_mod hp eq;have l0:=C.l;rw[Vl]at lV;have cc:=JQ (p:=p) hp (cV c Vz);rw[g? c V]at eq e1;have hz:=C.zero hp hA lA (V:=V) (by lia) (λx m=>cV x (VH _ m)) (z:=z0-z1) (by
   rw[CC hp,SA.mul_pow,cc]at e1;rw[k?,tq,k?,tq];generalize (ak V:ah p) ^ p.toNat=v at e1⊢;generalize (Xp:ah p) ^ p.toNat=x at e1⊢;generalize w ^ p.toNat=u at e1 hw
   grind)
  have:=JO G U (S:=λx=>x=0) ⟨rfl,λx y c h1 h2=>by rw[h1,h2];grind⟩ (λ_ m=>by cases m) (V:=V) (by lia) hz;exact⟨c,q,by rw[eq,this];grind⟩
theorem Gf(hp:dM p=true)(hA:dG p A)(lA:A.length=N+1)(lN:N<=4000)(C:Q6 p A N 1 ms)(G:GI p (N+ms.length) N rows D L cs)(U:Wu N ms rows)(m:R∈L):¬ BC p A:=λI=>by
 have hr:=au hp;have bW:0<p:=by lia
 have l0:=C.l;have iR:=G.iL R m;have k:=JN G U m;have lD:(R.drop N).length=ms.length:=by rw[Xm,iR.l];lia
 have rD:∀c∈R.drop N,0<=c/\c<p:=λc mc=>iR.r c (List.mem_of_mem_drop mc);have ne:=Q5 (by lia) G U m;generalize R.drop N=V at k lD rD ne;obtain⟨z,e⟩:=uS hp ms V 1 (by lia) (λc mc=>(rD c mc).1) C.e;rw[k,k?,tq,k?,tq]at e;have ev:(ak (0::V):ah p)=Xp*ak V:=by rw[g?,FY];grind
 have hc:=gF ((0::V).map (·.fmod p));rw[Vj,Vl]at hc;have ec:=mk_eq (Row.cg bW (0::V));obtain⟨s,_,z2,e2⟩:=I.num hp (W:=bT ((0::V).map (·.fmod p))) (Row.of bW _) (by lia) (by lia) (z:=-z) (by
  show(ak (bT ((0::V).map (·.fmod p))):ah p) ^ p.toNat-ak (bT ((0::V).map (·.fmod p)))=_;rw[show(ak (bT ((0::V).map (·.fmod p))):ah p)=ak (0::V)from ec,ev,SA.mul_pow];generalize (ak V:ah p) ^ p.toNat=v at e⊢;generalize (Xp:ah p) ^ p.toNat=x at e⊢
  grind)
 have e2:(ak (bT ((0::V).map (·.fmod p))):ah p)-ak [(s:Int)]=ak A*z2:=e2;rw[show(ak (bT ((0::V).map (·.fmod p))):ah p)=ak (0::V)from ec,ev]at e2;have e3:(ak (-(s:Int)::V):ah p)=Xp*ak V-ak [(s:Int)]:=by rw[g?,NW];grind
 have z0:=jF bW hA (l:=-(s:Int)::V) (x:=z2) (by rw[Vl];lia) (by rw[e3,e2]);refine ne ?_;rw[<-xj];refine mk_eq λk=>?_;have:=qv (z0.trans xj.symm) (k+1);rw[bG,bZ]at this;rw[bZ];exact this
end
theorem Q8{s:af}{L z:Nat}{t:List aj}(h1:s[k]?=some (aI R))(h2:s[L]?=some (.lst (.loc z::t))):L≠k:=by
 rintro rfl;rw[h1]at h2;cases R with
 |nil=>cases h2
 |cons x R=>cases h2
section
variable{N:Nat}{s:af}
abbrev RJ(i:Nat):ME:=ai cS (ai bX (a_ (aa dE ag)) (jl i)) (a_ (aa cH ag))
theorem N1{μ:MN.Env}{i:Nat}{K:Int}(h:∀s,jl i μ s=.ok (.int K) s)(k0:0<=K)(k1:K<=1000)(s:af):∃k s',RJ i μ s=.ok (.loc k) s'/\Fr s s'/\s.length<=k/\s'[k]?=some (aI (List.replicate K.toNat 0++[1])):=by
 obtain⟨s1,e1,F1,l1,_⟩:=aV (s:=s) [.int 0];have b1:a_ (aa dE ag) μ s=.ok (.loc s.length) s1:=by rw[de (vs:=[.int 0]) (s1:=s) rfl (by decide),e1]
 have m1:=rH (k:=K) l1 (by lia) (by lia) (by rw[Vt,VO];lia);rw[AO]at m1;obtain⟨s2,e2,F2,l2,_⟩:=aV (s:=s1) ((List.replicate K.toNat (0:Int)).map aj.int);rw[<-e2]at m1;obtain⟨s3,e3,F3,l3,_⟩:=aV (s:=s2) [.int 1];have b3:a_ (aa cH ag) μ s2=.ok (.loc s2.length) s3:=by rw[de (vs:=[.int 1]) (s1:=s2) rfl (by decide),e3]
 have a4:=ju (F3 _ _ l2) l3 (by rw[az,V0,VO,Vt];lia);have F:=F1.trans (F2.trans F3);refine⟨s3.length,s3++[aI (List.replicate K.toNat 0++[1])],?_,F.more _,F.len,bx _ _⟩;show ai cS (ai bX (a_ (aa dE ag)) (jl i)) (a_ (aa cH ag)) μ s=_;rw[iw (a:=ai bX (a_ (aa dE ag)) (jl i)) (by rw[iw b1 (h s1)];exact m1) b3,a4];show _=eZ.ok _ (s3++[a!.lst ((List.replicate K.toNat (0:Int)++[1]).map aj.int)]);rw[VS];rfl
abbrev UO:ME:=Ke (f9 (ai oZ ff cH)) (RJ 0) (ao PM.dB (aa bq (aa (ai bS cT (ai gJ ff cH)) (aa (ai bS cT cH) ag))))
abbrev RK:MB:=ax (aJ 5 UO) (ax (aJ 6 (ao PM.parted (aa bq (aa iP (aa bP ag))))) (ax (fg (jN dF dz (aa (ai bS jL dE) ag))) (fg (jN dF cT (aa (ai bS jL cH) ag)))))
abbrev UP:MB:=ax (aJ 5 (ao PM.bB (aa bq (aa (ai bS bP ff) (aa (RJ 4) (aa (ja cH) ag)))))) (fg (jN dF cT (aa (ao PM.ee (aa iP (aa (ao bc (aa bP ag)) ag))) ag)))
end
abbrev Cr:=Nat×List Int
def bY(q:Cr):aj:=.loc q.1
structure iZ(s:af)(c:Nat)(ps:List Cr):Prop where
 l:s[c]?=some (.lst (ps.map bY))
 r:∀q∈ps,s[q.1]?=some (aI q.2)
theorem iZ.mono{s:af}{c:Nat}{ps:List Cr}(h:iZ s c ps)(F:Fr s s'):iZ s' c ps:=⟨F _ _ h.l,λq m=>F _ _ (h.r q m)⟩
theorem iZ.ne{s:af}{c:Nat}{ps:List Cr}(h:iZ s c ps)(hk:s[k]?=some (aI R))(nR:R≠[]):c≠k:=by
 rintro rfl;have:=h.l;rw[hk]at this;cases R with
 |nil=>exact nR rfl
 |cons x R=>
  cases ps with
  |nil=>cases this
  |cons q ps=>cases this
theorem iZ.put{s:af}{c:Nat}{ps qs:List Cr}(h:iZ s c ps)(hq:∀q∈qs,s[q.1]?=some (aI q.2))(n:∀q∈ps++qs,q.2≠[]):iZ (s.set c (.lst ((ps++qs).map bY))) c (ps++qs):=
 ⟨g6 h.l,λq m=>by
  have hr:s[q.1]?=some (aI q.2):=by
   rcases VP.mp m with m|m
   .exact h.r q m
   .exact hq q m
  exact gg hr (h.ne hr (n q m))⟩
theorem JR{s:af}(h1:s[n]?=some (.lst us))(h2:s[m]?=some (.lst ws))(hl:us.length+ws.length<=1000):jc (.loc n) [.loc m] s=.ok .dD (s.set n (.lst (us++ws))):=by
 have hl':us.length+ws.length<=sizeLine:=by rw[Vt];lia
 simp only[jc,h1,h2,Vs hl']
section
variable{N:Nat}{s:af}
abbrev paB:MB:=ax (aJ 6 (ao PM.dj (aa bq (aa bP (aa (ao PM.bB (aa bq (aa cT (aa (a_ (aa iP ag)) (aa (ja cH) ag))))) ag))))) (sU (f9 (ai vf (ao bc (aa jL ag)) cH)) (fg (jN dF ff (aa jL ag))) fF)
structure PaI(p:Int)(A B:_d)(s:af)(c:Nat)(i:Nat)(s':af)(ps:List Cr):Prop where
 fr:Fr s s'
 rs:iZ s' c ps
 ln:ps.length<=i
 mn:∀q∈ps,dG p q.2/\2<=q.2.length
 dv:∀q∈ps,∃x:ah p,ak A=ak q.2*x
 nm:∀q∈ps,∃a:Nat,a<i/\∃x:ah p,ak (iX p B [(a:Int)])=ak q.2*x
 cp:ps.Pairwise λa b=>dc (ak a.2:ah p) (ak b.2)
end
theorem qG{a:AS}(P:Nat->MN.Env->af->Prop)(n:Nat)(μ:MN.Env)(st:af)(h:∀(i:Nat)(μ:MN.Env)(st:af),i<n->P i μ st->∃μ1,a (.int (i:Int)) μ=some μ1/\∃μ' aH,body μ1 st=.nx μ' aH/\P (i+1) μ' aH)(h0:P 0 μ st):∃μ' aH,forL (λ_=>True) a body ((dY 0 n).map aj.int) μ st=.nx μ' aH/\P n μ' aH:=by
 have:=eg (g:=λ_=>True) (a:=a) (body:=body) P ((dY 0 n).map aj.int) 0 μ st (λi u μ st hu hp=>by
  have hi:=bF hu;rw[az,gj]at hi;rw[VZ]at hp⊢;rw[Vu]at hu;unfold dY at hu;rw[Vu,Wh hi]at hu;cases hu;obtain⟨μ1,h1,μ',aH,h2,h3⟩:=h i μ st hi hp;exact⟨trivial,μ1,by rw[<-h1];show a (.int (0+(i:Int))) μ=_;rw[Xa],μ',aH,.inl h2,h3⟩) (λ_ _ _=>trivial) h0
 rw[VZ,az,gj]at this;exact this
theorem ky{α:Type}{g:af->Prop}{a:AS}{e:ME}{s0:af}(hg:∀s,Fr s0 s->g s)(I:MN.Env->Prop)(val:α->aj)(f:α->_d):∀(us:List α)(τ:MN.Env)(s:af)(ys:List aj),I τ->Fr s0 s ->
  (∀u∈us,∀τ s,I τ->Fr s0 s->∃τ1,a (val u) τ=some τ1/\I τ1/\∃k s',e τ1 s=.ok (.loc k) s'/\Fr s s'/\s.length<=k/\s'[k]?=some (aI (f u))) ->
  ∃(ps:List Cr)(s':af),dX g a bI e (us.map val) τ s ys=.ok (ys++ps.map bY) s'/\Fr s s'/\ps.map (·.2)=us.map f/\∀q∈ps,s.length<=q.1/\s'[q.1]?=some (aI q.2)
 |[],τ,s,ys,_,F,_=>⟨[],s,by rw[VQ,rO (hg s F),VQ,Wi],Fr.refl s,rfl,λq m=>by cases m⟩
 |u::us,τ,s,ys,hI,F,hs=>by
  obtain⟨τ1,h1,h2,k,s1,e1,F1,k1,l1⟩:=hs u Vz τ s hI F;obtain⟨ps,s2,e2,F2,m2,r2⟩:=ky hg I val f us τ1 s1 (ys++[.loc k]) h2 (F.trans F1) λv hv=>hs v (VH u hv);rw[Vq];unfold dX;rw[Vs (hg s F),h1];dsimp only[bI];rw[e1];dsimp only;have f1:=F1.len;refine⟨(k,f u)::ps,s2,by rw[e2,V6];rfl,F1.trans F2,by rw[Vq,Vq,m2],λq m=>?_⟩;rcases V_.mp m with rfl|m
  .exact⟨k1,F2 _ _ l1⟩
  .have:=r2 q m;exact⟨by lia,this.2⟩
section
variable{w:Nat}{S:_d}{s:af}
theorem zG(hp:dM p=true)(lR:s[n]?=some (aI R))(lS:s[m]?=some (aI S))(iR:kf p w R)(wS:S.length=w)(hw:w<=1000){j:Nat}(hj:j<w):
  PM.fu [.int p,.loc n,.loc m,.int (j:Int)] s=.ok (.loc s.length) (s++[aI (j? p S j R)]):=by
 have hr:=au hp;have bW:0<p:=by lia
 have wR:=iR.l;have gx:=cO (ay lR) (iF (R:=R) (i:=(j:Int)) rfl (by lia));have rf:=iR.vH bW j;obtain⟨f,hf⟩:∃f,f=cf R j:=⟨_,rfl⟩
 rw[show R.getD j 0=f from hf.symm]at gx;rw[<-hf]at rf;have zz:=Ip (ay lR) (ay lS);rw[rL]at zz;have hc:=oB (g:=λb8=>ar b8 n=some (R.map aj.int)/\ar b8 m=some (S.map aj.int)) (a:=iN [aB 0,aB 1]) (e:=ai f_ (ai gJ bq (ai bX dz bP)) cT) (st:=s) ⟨ay lR,ay lS⟩ (λτ=>∃x y,τ=[x, y, qI f, qI p]) pr (λ(q:Int×Int)=>.int ((q.1-f*q.2).fmod p)) (R.zip S) [qn, qn, qI f, qI p] [] ⟨_,_,rfl⟩ (by
  rintro⟨a,b⟩ _ τ ⟨x,y,rfl⟩;exact⟨_,rfl,⟨_,_,rfl⟩,by simp only[aq,aD,aM,aE,fi,aO,aK,Vp,Vr,jV (i:=f) (by lia) (by lia),fY (iu hp)]⟩)
 rw[Vx,show((R.zip S).map λ(q:Int×Int)=>aj.int ((q.1-f*q.2).fmod p))=(j? p S j R).map aj.int from by unfold j?;rw[V5,<-hf];rfl]at hc;have gH:∀x y z:Option aj,iS 2 [4,0] [qI p, x, y, z, qI f]=[qn, qn, qI f, qI p]:=λ_ _ _=>rfl;have hz:((R.zip S).map pr).length<=16777216:=by rw[Vj,Xh];lia
 simp only[PM.fu,bC,aq,aF,aS,bg,aD,aM,aE,aC,aw,bJ,bK,ie,fX,aG,av,aP,ba,bf,d6,Cn,aO,aU,aK,Vq,VQ,VI,Vx,VN,VC,Vp,Vr,Nat.reduceSub,Vl,VB,Nat.reduceAdd,Vt,gx,zz,gH,hc,Vs hz]
theorem qH(hp:dM p=true){ps:List Cr}(rs:iZ s n ps)(hv:∀q∈ps,kf p w q.2)(lS:s[m]?=some (aI S))(wS:S.length=w)(hw:w<=1000)(hl:ps.length<=1000){j:Nat}(hj:j<w):
  ∃k qs s',PM.cleared [.int p,.loc n,.loc m,.int (j:Int)] s=.ok (.loc k) s'/\Fr s s'/\s.length<=k/\iZ s' k qs/\qs.map (·.2)=(ps.map (·.2)).map (j? p S j)/\∀q∈qs,s.length<=q.1:=by
 obtain⟨J,hJ⟩:∃J:Int,J=(j:Int):=⟨_,rfl⟩
 obtain⟨qs,s1,ec,F1,m1,g1⟩:=ky (g:=λb8=>ar b8 n=some (ps.map bY)) (a:=aB 0) (e:=ao PM.fu (aa dz (aa bq (aa cT (aa bP ag))))) (s0:=s) (λs' F=>ay (F _ _ rs.l)) (λτ=>∃x,τ=[x, qI J, qI p, qL m]) bY (λq=>j? p S j q.2) ps [qn, qI J, qI p, qL m] s [] ⟨_,rfl⟩ (Fr.refl s) (by
  rintro u mu τ s' ⟨x,rfl⟩ F;have e:=zG hp (F _ _ (rs.r u mu)) (F _ _ lS) (hv u mu) wS hw hj;rw[<-hJ]at e;exact⟨[some (.loc u.1),some (.int J),some (.int p),some (.loc m)],rfl,⟨_,rfl⟩,_,_,by simp only[aq,aC,aw,aG,av,aA,aO,aU,aK,e],Fr.app _ _,Vv _,bx _ _⟩)
 rw[Vx]at ec;have gH:∀x:Option aj,iS 1 [3,0,2] [qI p, x, qL m, qI J]=[qn, qI J, qI p, qL m]:=λ_=>rfl;have hz:(ps.map bY).length<=16777216:=by rw[Vj];lia
 refine⟨s1.length,qs,s1++[.lst (qs.map bY)],?_,F1.more _,F1.len,⟨bx _ _,λq mq=>cP (g1 q mq).2 _⟩,by rw[m1,V5];rfl,λq mq=>(g1 q mq).1⟩;rw[<-hJ];simp only[PM.cleared,bC,aq,aF,bg,bJ,ie,fX,ba,d6,ej,aU,aK,Vq,VQ,VI,Vx,VC,Nat.reduceSub,Vl,VB,Nat.reduceAdd,Vt,cY (ay rs.l),gH,ec,Vs hz]
def l?(i L:Nat):_d:=(dY 0 L).map λk=>if k=(i:Int)then 1 else 0
theorem yj(i L:Nat):(l? i L).length=L:=by unfold l?;rw[Vj,gj]
theorem JS{i L:Nat}(h:i<L)(k:Nat):cf (l? i L) k=if k=i then 1 else 0:=by
 unfold l?;by_cases hk:k<L
 .unfold cf;rw[SO.GG 0 (by rw[Vj,gj];exact hk),Xc];unfold dY;rw[Xc,YG,Xa];by_cases q:k=i
  .rw[Vs q,Vs (by lia)]
  .rw[VE q,VE (by lia)]
 .rw[c! (by rw[Vj,gj];lia),VE (by lia)]
theorem Gg{i L:Nat}(hL:L<=1000)(s:af):PM.kx [.int (i:Int),.int (L:Int)] s=.ok (.loc s.length) (s++[aI (l? i L)]):=by
 obtain⟨I,hI⟩:∃I:Int,I=(i:Int):=⟨_,rfl⟩
 obtain⟨N,hN⟩:∃N:Int,N=(L:Int):=⟨_,rfl⟩
 have hc:=gL (a:=aB 0) (e:=Ke (f9 (ai oZ bq bP)) cH dE) (g:=λ_=>True) (st:=s) trivial (λτ=>∃x,τ=[x,some (.int I)]) (λk=>.int (if k=I then 1 else 0)) (dY 0 L) [none,some (.int I)] [] ⟨_,rfl⟩ (by
  rintro k _ τ ⟨x,rfl⟩;refine⟨_,rfl,⟨_,rfl⟩,?_⟩;by_cases h:k=I
  .have z:(k==I)=true:=by simp[h]
   rw[Vs h];simp only[aq,aD,aM,aE,qd,bN,bo,bh,o?,ig,aO,aK,Vp,z]
  .have z:(k==I)=false:=by simp[h]
   rw[VE h];simp only[aq,aD,aM,aE,qe,bN,bo,bh,o?,ig,aO,aK,Vp,z])
 rw[Vx,show((dY 0 L).map λk=>aj.int (if k=I then 1 else 0))=(l? i L).map aj.int from by unfold l?;rw[V5,hI];rfl]at hc;have gH:∀x:Option aj,iS 1 [0] [some (.int I),x]=[none,some (.int I)]:=λ_=>rfl;have hz:((dY 0 L).map aj.int).length<=16777216:=by rw[Vj,gj];lia
 rw[<-hI,<-hN];simp only[PM.kx,bC,aq,aF,bg,aC,aw,bJ,ie,fX,aG,av,ba,d6,jU,aO,aK,Vq,VQ,VI,Vx,VC,Nat.reduceSub,Vl,VB,Nat.reduceAdd,Vt,CM hN (by lia),gH,hc,Vs hz]
def enV(x:Cr×Nat):aj:=.tup [.int (x.2:Int),.loc x.1.1]
theorem Ew:∀(ps:List Cr)(i:Nat),jS i (ps.map bY)=(ps.zipIdx i).map enV
 |[],_=>rfl
 |q::ps,i=>by rw[Vq,Zt,Vq,<-Ew ps (i+1)];rfl
def Kh(ms:List (_d)):List (_d):=(ms.zipIdx).map λx=>x.1++l? x.2 ms.length
theorem JT{ms:List (_d)}{m:_d}(h:ms[k]?=some m):(Kh ms)[k]?=some (m++l? k ms.length):=by unfold Kh;rw[Vu,List.getElem?_zipIdx,h];simp
theorem oI(ms:List (_d)):(Kh ms).length=ms.length:=by unfold Kh;rw[Vj,List.length_zipIdx]
theorem Bk{a b:_d}(h:k<a.length):cf (a++b) k=cf a k:=by unfold cf;rw[VD,V4 h,VD]
theorem v!{a b:_d}(k:Nat):cf (a++b) (a.length+k)=cf b k:=by unfold cf;rw[VD,V3 (by lia),VD,Zj]
theorem JU{W:Nat}{ms:List (_d)}(hw:∀m∈ms,m.length=W):Wu W ms (Kh ms):=⟨oI ms,hw,λk R m h1 h2=>by
 rw[JT h2]at h1;cases h1;have lm:=hw m (V8 h2);have hk:=(VM.mp h2).1;exact⟨λj hj=>Bk (by lia),λi=>by rw[<-lm,v!,JS hk]⟩⟩
theorem JV(h2:2<=p){W:Nat}{ms:List (_d)}(hw:∀m∈ms,kf p W m):∀R∈Kh ms,kf p (W+ms.length) R:=λR m=>by
 obtain⟨k,hk⟩:=WZ m;have lk:=(VM.mp hk).1;rw[oI]at lk;rw[JT (Vo lk)]at hk;cases hk;have i:=hw _ (XQ lk);refine⟨by rw[Vm,i.l,yj],λx mx=>?_⟩;rcases VP.mp mx with mx|mx
 .exact i.r x mx
 .unfold l? at mx;obtain⟨k,_,rfl⟩:=VR.mp mx;split<;>lia
theorem mj{ps:List Cr}(rs:iZ s n ps)(hv:∀q∈ps,q.2.length<=1000)(hl:ps.length<=1000):
  ∃k qs s',PM.iy [.loc n] s=.ok (.loc k) s'/\Fr s s'/\s.length<=k/\iZ s' k qs/\qs.map (·.2)=Kh (ps.map (·.2))/\∀q∈qs,s.length<=q.1:=by
 obtain⟨N,hN⟩:∃N:Int,N=(ps.length:Int):=⟨_,rfl⟩
 obtain⟨qs,s1,ec,F1,m1,g1⟩:=ky (g:=λb8=>ar b8 n=some (ps.map bY)) (a:=iN [aB 0,aB 1]) (e:=ai cS (ao rm (aa bP ag)) (ao PM.kx (aa bq (aa (ao bc (aa dz ag)) ag)))) (s0:=s) (λs' F=>ay (F _ _ rs.l)) (λτ=>∃x y,τ=[x, y, qL n]) enV (λx=>x.1.2++l? x.2 ps.length) ps.zipIdx [qn, qn, qL n] s [] ⟨_,_,rfl⟩ (Fr.refl s) (by
  rintro⟨⟨k,R⟩,i⟩ mu τ s' ⟨x,y,rfl⟩ F;have mq:(k,R)∈ps:=List.fst_mem_of_mem_zipIdx mu;have lR:=F _ _ (rs.r _ mq);have wR:=hv _ mq;have lR:s'[k]?=some (aI R):=lR;have wR:R.length<=1000:=wR;have c1:=kW (ay lR);have c2:bc [.loc n] (s'++[aI R])=.ok (.int N) (s'++[aI R]):=by rw[aQ (ay (cP (F _ _ rs.l) _)),Vj,hN]
  have e3:=Gg (i:=i) (L:=ps.length) hl (s'++[aI R]);rw[<-hN]at e3;have lu:=yj i ps.length;generalize l? i ps.length=T at e3 lu⊢;have c4:=ju (st:=s'++[aI R]++[aI T]) (n:=s'.length) (m:=(s'++[aI R]).length) (us:=R.map aj.int) (ws:=T.map aj.int) (cP (bx s' _) _) (bx _ _) (by rw[az,az,Vt];lia);rw[<-VS]at c4;obtain⟨I,hI⟩:∃I:Int,I=(i:Int):=⟨_,rfl⟩
  show ∃τ1,iN [aB 0,aB 1] (.tup [.int (i:Int),.loc k]) _=some τ1/\_;rw[<-hI]at e3⊢;exact⟨[some (.int I),some (.loc k),some (.loc n)],rfl,⟨_,_,rfl⟩,_,_,by simp only[aq,aD,aM,aE,aC,aw,aG,av,aA,aO,aU,aK,c1,c2,e3];exact c4,((Fr.app s' _).more _).more _,by simp only[Vm];lia,bx _ _⟩)
 rw[Vx]at ec;have gH:iS 2 [0] [some (.loc n)]=[qn, qn, qL n]:=rfl;have hz:(ps.zipIdx.map enV).length<=16777216:=by rw[Vj,List.length_zipIdx];lia
 have he:=vx (ay rs.l);rw[Ew]at he;refine⟨s1.length,qs,s1++[.lst (qs.map bY)],?_,F1.more _,F1.len,⟨bx _ _,λq mq=>cP (g1 q mq).2 _⟩,?_,λq mq=>(g1 q mq).1⟩
 .simp only[PM.iy,bC,aq,aF,bg,aC,aw,bJ,ie,fX,aG,av,ba,d6,aU,Vq,VQ,VI,Vx,VC,Nat.reduceSub,Vl,VB,Nat.reduceAdd,Vt,qj,he,gH,ec,Vs hz]
 .rw[m1];unfold Kh;rw[Vj];apply X7;intro i;simp[List.getElem?_zipIdx];cases ps[i]?<;>rfl
end
def t6(cs:List Nat):_d:=cs.map Int.ofNat
section
variable{w W N:Nat}{st:af}
structure SfI(p:Int)(w W N:Nat)(st:af)(rows:List (_d))(j:Nat)(μ:MN.Env)(s:af)(d l pl:Nat)(ds ls:List Cr)(cs:List Nat):Prop where
 env:∃x1 x6 x7 x8 x9,μ=[qI p, x1, qI (W:Int), qL d, qL l, qL pl, x6, x7, x8, x9]
 fr:Fr st s
 hp:st.length<=pl
 nd:d≠pl
 nl:l≠pl
 rd:iZ s d ds
 rl:iZ s l ls
 lp:s[pl]?=some (aI (t6 cs))
 np:∀q∈ds++ls,q.1≠pl
 gi:GI p w j rows (ds.map (·.2)) (ls.map (·.2)) cs
 ct:ds.length+ls.length=N
theorem Bl{s:af}{l:Nat}{ls:List Cr}(rl:iZ s l ls)(hv:∀q∈ls,kf p w q.2)(hn:ls.length<=1000){j:Nat}(hj:j<w){J:Int}(hJ:J=(j:Int)){x8:Option aj}:
  stC stN [x0, x1, x2, x3, qL l, x5, qI J, x7, x8, x9] s=.ok (.loc s.length) (s++[.lst ((ls.filter λq => !(cf q.2 j==0)).map bY)]) /\
  stC stZ [x0, x1, x2, x3, qL l, x5, qI J, x7, x8, x9] s=.ok (.loc s.length) (s++[.lst ((ls.filter λq=>cf q.2 j==0).map bY)]):=by
 have hm:∀v∈ls.map bY,IsM p w abg s v:=λv m=>by obtain⟨q,mq,rfl⟩:=VR.mp m;exact⟨q.1,q.2,rfl,trivial,rl.r q mq,(hv q mq).l,(hv q mq).r⟩
 have:=QX rl.l hm (by rw[Vj];exact hn) hj hJ (x0:=x0) (x1:=x1) (x2:=x2) (x3:=x3) (x5:=x5) (x7:=x7) (x8:=x8) (x9:=x9);have e:∀q∈ls,sd s J (bY q)=cf q.2 j:=λq mq=>by have gx:=cO (ay (rl.r q mq)) (iF (R:=q.2) (i:=J) hJ (by have:=(hv q mq).l;lia));unfold sd;rw[show bS (bY q) (.int J) s=_ from gx];rfl
 rw[List.filter_map,List.filter_map,List.filter_congr (q:=λq => !(cf q.2 j==0)) λq mq=>by show(!(sd s J (bY q)==0))=_;rw[e q mq],List.filter_congr (p:=(λu=>sd s J u==0) ∘ bY) (q:=λq=>cf q.2 j==0) λq mq=>by show(sd s J (bY q)==0)=_;rw[e q mq]]at this;exact this
theorem MP(hp:dM p=true)(hw:w<=1000)(hN:N<=1000)(hW:W<=w){μ:MN.Env}{s:af}{l pl:Nat}{ds ls:List Cr}{j:Nat}(h:SfI p w W N st rows j μ s d l pl ds ls cs)(hj:j<W){J:Int}(hJ:J=(j:Int)):
  ∃μ' s',QW (μ.set 6 (some (.int J))) s=.nx μ' s'/\∃d l pl ds ls cs,SfI p w W N st rows (j+1) μ' s' d l pl ds ls cs:=by
 have hr:=au hp;have bW:0<p:=by lia
 obtain⟨x1,x6,x7,x8,x9,rfl⟩:=h.env;have ct:=h.ct;have jw:j<w:=by lia
 have vl:∀q∈ls,kf p w q.2:=λq mq=>h.gi.iL _ (V1 mq);have vd:∀q∈ds,kf p w q.2:=λq mq=>h.gi.iD _ (V1 mq);show ∃μ' s',QW [qI p, x1, qI (W:Int), qL d, qL l, qL pl, qI J, x7, x8, x9] s=.nx μ' s'/\_;obtain⟨WI,Ex⟩:∃WI:Int,WI=(W:Int):=⟨_,rfl⟩
 rw[<-Ex];have c1:=(Bl h.rl vl (by lia) jw hJ (x0:=some (.int p)) (x1:=x1) (x2:=some (.int WI)) (x3:=some (.loc d)) (x5:=some (.loc pl)) (x7:=x7) (x8:=x8) (x9:=x9)).1;obtain⟨fs,hfs⟩:∃fs,fs=ls.filter λq => !(cf q.2 j==0):=⟨_,rfl⟩
 rw[<-hfs]at c1;obtain⟨s1,e1,F1,l1,n1⟩:=aV (s:=s) (fs.map bY);rw[<-e1]at c1;obtain⟨L,hL⟩:∃L:Int,L=(fs.length:Int):=⟨_,rfl⟩
 have kl:bc [.loc s.length] s1=.ok (.int L) s1:=by rw[aQ (ay l1),Vj,hL]
 obtain⟨f,hf⟩:∃f,f=s.length:=⟨_,rfl⟩
 rw[<-hf]at c1 kl l1;have pls:=bF h.lp;have pf:(fs++ls.filter λq=>cf q.2 j==0).Perm ls:=by have:=List.filter_append_perm (λq:Cr => !(cf q.2 j==0)) ls;rw[show(ls.filter λq=>cf q.2 j==0)=ls.filter λq => !!(cf q.2 j==0)from by simp,hfs];exact this
 cases E6:fs with
 |nil=>
  have z:decide ((0:Int)<L)=false:=V2 (by rw[hL,E6];decide);refine⟨[some (.int p),x1,some (.int WI),some (.loc d),some (.loc l),some (.loc pl),some (.int J),some (.loc f),x8,x9],s1,?_,d,l,pl,ds,ls,cs,⟨_,_,_,_,_,by rw[Ex]⟩,h.fr.trans F1,h.hp,h.nd,h.nl,h.rd.mono F1,h.rl.mono F1,F1 _ _ h.lp,h.np,h.gi.skip λR mR=>?_,h.ct⟩
  .unfold QW;generalize stC stN=C at c1⊢;generalize stX=X;simp only[aq,aF,aS,aD,aM,aE,aC,aw,d8,bK,bN,bo,bh,aG,av,aA,aP,cQ,b9,bf,gq,aU,aK,Vp,Vr,c1,kl,z]
  .obtain⟨q,mq,rfl⟩:=VR.mp mR;have:q∈fs++ls.filter λq=>cf q.2 j==0:=pf.mem_iff.mpr mq;rw[E6,Vx]at this;simpa using(YI.mp this).2
 |cons u0 us=>
  obtain⟨k0,R0⟩:=u0;have z:decide ((0:Int)<L)=true:=V7 (by rw[hL,E6,Vl];lia);have m0:(k0,R0)∈ls/\(!(cf R0 j==0))=true:=by
   have:(k0,R0)∈fs:=by rw[E6];exact Vz
   rw[hfs]at this;exact YI.mp this
  have iR0:kf p w R0:=vl _ m0.1;have wR0:=iR0.l;obtain⟨c,hc⟩:∃c,c=cf R0 j:=⟨_,rfl⟩
  have rc:=iR0.vH bW j;rw[<-hc]at rc;have c0:¬ c=0:=λq=>by have:=m0.2;rw[<-hc,q]at this;exact absurd this (by decide)
  have cp:¬ c % p=0:=by rw[V? rc.1 rc.2];exact c0
  have lk0:s[k0]?=some (aI R0):=h.rl.r _ m0.1;have cx':bS (.loc k0) (.int J) s1=.ok (.int c) s1:=by have g2:=cO (ay (F1 _ _ lk0)) (iF (R:=R0) (i:=J) hJ (by lia));rw[hc];exact g2
  have ix0:∀{s':af},s'[f]?=some (.lst (fs.map bY))->bS (.loc f) (.int 0) s'=.ok (.loc k0) s':=λq=>cO (ay q) (by rw[E6];exact tX);obtain⟨g2,tt,e2,_,_,ht⟩:=fN hp cp s1;obtain⟨s2,q9⟩:∃s2,s2=s1++g2:=⟨_,rfl⟩
  have F2:Fr s1 s2:=by rw[q9];exact Fr.app _ _
  rw[<-q9]at e2;have lk2:=F2 _ _ (F1 _ _ lk0);have Rt:=gL (g:=λaH=>ar aH k0=some (R0.map aj.int)) (a:=aB 0) (e:=ai f_ (ai bX bq bP) dz) (st:=s2) (ay lk2) (λτ=>∃z,τ=[z, qI tt, qI p]) (λi=>.int ((i*tt).fmod p)) R0 [qn, qI tt, qI p] [] ⟨_,rfl⟩ (by
   rintro i mi τ ⟨z,rfl⟩;have:=iR0.r i mi;exact⟨_,rfl,⟨_,rfl⟩,by simp only[aq,aD,aM,aE,aO,aK,Vp,jV (i:=i) (by lia) (by lia),fY (iu hp)]⟩)
  obtain⟨T,hT⟩:∃T,T=Bd p tt R0:=⟨_,rfl⟩
  have S1:tZ p w j R0 T tt:=⟨iR0,by rw[<-hc];exact ht,hT⟩
  have iT:=S1.Q3 bW;have wT:=iT.l;rw[Vx,show(R0.map λi=>aj.int ((i*tt).fmod p))=T.map aj.int from by rw[hT];unfold Bd;rw[V5];rfl]at Rt;obtain⟨s3,e3,F3,l3,n3⟩:=aV (s:=s2) (T.map aj.int);have c3:stS [qI p, x1, qI WI, qL d, qL l, qL pl, qI J, qL f, qI tt, x9] s2=.ok (.loc s2.length) s3:=by have gH:iS 1 [8,0] [qI p, x1, qI WI, qL d, qL l, qL pl, qI J, qL f, qI tt, x9]=[qn, qI tt, qI p]:=rfl;show dI 1 [8,0] (gr (ai bS oY dE)) (aB 0) bI (ai f_ (ai bX bq bP) dz) _ s2=_;rw[d6,ej,iw (x:=.loc f) (s1:=s2) rfl (y:=.int 0) (s2:=s2) rfl,ix0 (F2 _ _ l1),aq,cY (ay lk2),aq,fX,Vs (by rw[Vj,Vt];lia),gH,Rt,aq,ie,e3]
  obtain⟨m,hm⟩:∃m,m=s2.length:=⟨_,rfl⟩
  rw[<-hm]at c3 l3 n3;obtain⟨s4,e4,F4,l4,n4⟩:=aV (s:=s3) (us.map bY);have c4:GC (some 1) none (.loc f) s3=.ok (.loc s3.length) s4:=by rw[vt (ay (F3 _ _ (F2 _ _ l1))),show xb (fs.map bY) (some 1) none=us.map bY from by rw[E6];exact cutD _ 1,e4]
  have Q9:=F1.trans (F2.trans (F3.trans F4));have c5:=(Bl (h.rl.mono Q9) vl (by lia) jw hJ (x0:=some (.int p)) (x1:=x1) (x2:=some (.int WI)) (x3:=some (.loc d)) (x5:=some (.loc pl)) (x7:=some (.loc f)) (x8:=some (.int tt)) (x9:=some (.loc m))).2;obtain⟨zs,hzs⟩:∃zs,zs=ls.filter λq=>cf q.2 j==0:=⟨_,rfl⟩
  rw[<-hzs]at c5 pf;rw[E6,VI]at pf;have lz:=pf.length_eq;rw[Vl,Vm]at lz;obtain⟨s5,e5,F5,l5,n5⟩:=aV (s:=s4) (zs.map bY);rw[<-e5]at c5;have c6:=ju (st:=s5) (F5 _ _ l4) l5 (by rw[Vt,Vj,Vj];lia);rw[<-VS]at c6;obtain⟨s6,e6,F6,l6,n6⟩:=aV (s:=s5) ((us++zs).map bY);rw[<-e6]at c6;have F06:=Q9.trans (F5.trans F6);have F36:=F4.trans (F5.trans F6);have muz:∀q∈us++zs,q∈ls:=λq mq=>pf.mem_iff.mp (VH _ mq);obtain⟨k6,Q_,s7,c7,F7,k7,l7,n7,v7⟩:=qH (w:=w) (j:=j) (ps:=us++zs) hp ⟨l6,λq mq=>F06 _ _ (h.rl.r q (muz q mq))⟩ (λq mq=>vl q (muz q mq)) (F36 _ _ l3) wT hw (by rw[Vm];lia) jw;have F07:=F06.trans F7;obtain⟨k8,RL,s8,c8,F8,k9,l8,n8,v8⟩:=qH (w:=w) (j:=j) hp (h.rd.mono F07) vd (F7 _ _ (F36 _ _ l3)) wT hw (by lia) jw;rw[<-hJ]at c7 c8;obtain⟨s9,e9,F9,l9,n9⟩:=aV (s:=s8) [.loc m];have ld':RL.length=ds.length:=by have:=WR List.length n8;simpa using this
  have ll':Q_.length=(us++zs).length:=by have:=WR List.length n7;simpa using this
  have c10:=ju (st:=s9) (F9 _ _ l8.l) l9 (by rw[Vt,VO,Vj];lia);obtain⟨UQ,e10,UR,l10,n10⟩:=aV (s:=s9) ((RL++[(m,T)]).map bY);rw[show RL.map bY++[.loc m]=(RL++[(m,T)]).map bY from by rw[VS];rfl,<-e10]at c10;have F0:=F07.trans (F8.trans (F9.trans UR));have lpA:=F0 _ _ h.lp;have gc:=h.gi.cl;rw[Vj]at gc;have c11:=iq (v:=.int J) lpA (by rw[az,Vt];unfold t6;rw[Vj];lia);have g1:=F1.len;have g2':=F2.len;have g3:=F3.len;have g4:=F4.len;have g7:=F7.len;have g8:=F8.len;have q4:s4.length=s3.length+1:=n4;have US:∀q∈RL++[(m,T)]++Q_,q.1≠pl/\UQ[q.1]?=some (aI q.2):=λq mq=>by
   rcases VP.mp mq with mq|mq
   .rcases VP.mp mq with mq|mq
    .exact⟨by have:=v8 q mq;lia,UR _ _ (F9 _ _ (l8.r q mq))⟩
    .rw[Vy.mp mq];exact⟨by show m≠pl;lia,UR _ _ (F9 _ _ (F8 _ _ (F7 _ _ (F36 _ _ l3))))⟩
   .exact⟨by have:=v7 q mq;lia,UR _ _ (F9 _ _ (F8 _ _ (l7.r q mq)))⟩
  refine⟨[some (.int p),x1,some (.int WI),some (.loc s9.length),some (.loc k6),some (.loc pl),some (.int J),some (.loc f),some (.int tt),some (.loc m)],UQ.set pl (aI (t6 (cs++[j]))),?_,s9.length,k6,pl,RL++[(m,T)],Q_,cs++[j],⟨_,_,_,_,_,by rw[Ex]⟩,(h.fr.trans F0).set h.hp _,h.hp,by lia,by lia,⟨gg l10 (by lia),λq mq=>gg (US q (Wd _ mq)).2 (W5 (US q (Wd _ mq)).1)⟩,⟨gg (UR _ _ (F9 _ _ (F8 _ _ l7.l))) (by lia),λq mq=>gg (US q (VX _ mq)).2 (W5 (US q (VX _ mq)).1)⟩,g6 lpA,λq mq=>(US q mq).1,?_,by rw[Vm,VO,ld',ll',Vm];lia⟩
  .have c9:a_ (aa Bw ag) [qI p, x1, qI WI, qL d, qL k6, qL pl, qI J, qL f, qI tt, qL m] s8=.ok (.loc s8.length) s9:=by rw[de (rZ (v:=.loc m) (s1:=s8) rfl) (by show 1<=1000;decide),e9]
   have abi:dF (.loc pl) [.int J] UQ=.ok .dD (UQ.set pl (aI (t6 (cs++[j])))):=by rw[c11,hJ];show _=eZ.ok aj.dD (UQ.set pl (.lst ((t6 (cs++[j])).map aj.int)));unfold t6;rw[VS,VS];rfl
   unfold QW stX;generalize stC stN=C at c1⊢;generalize stC stZ=C' at c5⊢;generalize stS=C3 at c3⊢;generalize a_ (aa Bw ag)=C9 at c9⊢;simp only[aq,aF,aS,aD,aM,aE,aC,aw,gK,iV,bK,bN,bo,bh,aG,av,aA,aP,fM,b9,bf,gq,aO,aU,aK,Vp,Vr,AI,Ig,AJ,AK,nk,nu,Ih,nv,s_,c1,kl,z,ix0 l1,cx',e2,c3,c4,c5,c6,c7,c8,c9,c10,qg lpA,abi]
  .rw[VS,n8,n7];exact h.gi.step bW S1 (pf.symm.map (·.2))
theorem qJ(hp:dM p=true){s:af}{ps:List Cr}(rs:iZ s n ps)(hv:∀q∈ps,kf p w q.2)(hw:w<=1000)(hl:ps.length<=1000)(hW:W<=w):
  ∃a b ds ls cs s',PM.oG [.int p,.loc n,.int (W:Int)] s=.ok (.tup [.loc a,.loc b]) s'/\Fr s s'/\s.length<=a/\iZ s' a (ds++ls)/\s'[b]?=some (aI (t6 cs))/\GI p w W (ps.map (·.2)) (ds.map (·.2)) (ls.map (·.2)) cs:=by
 obtain⟨s1,e1,F1,l1,n1⟩:=aV (s:=s) [];obtain⟨s2,e2,F2,l2,n2⟩:=aV (s:=s1) [];have F:=F1.trans F2;have hn:=bF rs.l;have I0:SfI p w W ps.length s (ps.map (·.2)) 0 [qI p, qL n, qI (W:Int), qL s.length, qL n, qL s1.length, qn, qn, qn, qn] s2 s.length n s1.length [] ps []:=
  ⟨⟨_,_,_,_,_,rfl⟩,F,F1.len,by lia,by lia,⟨F2 _ _ l1,λ_ m=>by cases m⟩,rs.mono F,l2,(λq m=>by have:=bF (rs.r q m);lia),GI.start λR m=>by
   obtain⟨q,mq,rfl⟩:=VR.mp m;exact hv q mq,by simp⟩
 obtain⟨WI,Ex⟩:∃WI:Int,WI=(W:Int):=⟨_,rfl⟩
 obtain⟨μ',s',ef,d,l,pl,ds,ls,cs,H⟩:=qG (a:=aB 6) (body:=QW) (λi μ s'=>∃d l pl ds ls cs,SfI p w W ps.length s (ps.map (·.2)) i μ s' d l pl ds ls cs) W [qI p, qL n, qI (W:Int), qL s.length, qL n, qL s1.length, qn, qn, qn, qn] s2 (by
  rintro i μ s' hi ⟨d,l,pl,ds,ls,cs,H⟩;refine⟨μ.set 6 (some (.int (i:Int))),?_,MP hp hw hl hW H hi (J:=(i:Int)) rfl⟩;obtain⟨x1,x6,x7,x8,x9,rfl⟩:=H.env;rfl) ⟨_,_,_,_,_,_,I0⟩
 obtain⟨x1,x6,x7,x8,x9,rfl⟩:=H.env;have ct:=H.ct;have c1:=ju H.rd.l H.rl.l (by rw[Vt,Vj,Vj];lia);rw[<-VS]at c1;obtain⟨s4,e4,F4,l4,n4⟩:=aV (s:=s') ((ds++ls).map bY);rw[<-e4]at c1;have hr:=au hp;rw[<-Ex]at ef⊢;refine⟨s'.length,pl,ds,ls,cs,s4,?_,H.fr.trans F4,H.fr.len,⟨l4,λq mq=>?_⟩,F4 _ _ H.lp,H.gi⟩
 .have a1:a_ ag [qI p, qL n, qI WI, qn, qn, qn, qn, qn, qn, qn] s=.ok (.loc s.length) s1:=by rw[de (vs:=[]) (s1:=s) rfl (by decide),e1]
  have a2:a_ ag [qI p, qL n, qI WI, qL s.length, qL n, qn, qn, qn, qn, qn] s1=.ok (.loc s1.length) s2:=by rw[de (vs:=[]) (s1:=s1) rfl (by decide),e2]
  unfold PM.oG;rw[bC (np:=3) (us:=[aj.int p,.loc n,.int WI]) rfl];show(ax (aJ 3 (a_ ag)) (ax (aJ 4 bP) (ax (aJ 5 (a_ ag)) (ax (f? (e_ (aa dz ag)) (aB 6) QW) (bU (gW (aa (ai cS cT ff) (aa iP ag))))))) [qI p, qL n, qI WI, qn, qn, qn, qn, qn, qn, qn] s).fin=_;generalize QW=B at ef⊢;generalize a_ ag=M at a1 a2⊢;simp only[aq,aF,aS,bg,aD,aM,aE,aC,aw,jT,bJ,bK,gC,aG,av,gY,aP,ba,bf,eO,jU,aO,aU,aK,Vp,Vr,Vl,VB,Nat.reduceAdd,Vt,Nat.reduceLeDiff,↓reduceIte,a1,a2,CM Ex (by lia),ef,c1]
 .rcases VP.mp mq with mq|mq
  .exact F4 _ _ (H.rd.r q mq)
  .exact F4 _ _ (H.rl.r q mq)
end
section
variable{w:Nat}{s:af}
theorem v?(cs:List Nat):(t6 cs).length=cs.length:=by unfold t6;rw[Vj]
theorem Gh(hp:dM p=true){ps:List Cr}(rs:iZ s n ps)(hv:∀q∈ps,kf p w q.2)(hw:w<=500)(hl:ps.length<=500):
  ∃a zs D L cs s',PM.gh [.int p,.loc n,.int (w:Int)] s=.ok (.loc a) s'/\Fr s s'/\s.length<=a/\iZ s' a zs/\GI p (w+(ps.map (·.2)).length) w (Kh (ps.map (·.2))) D L cs/\zs.map (·.2)=L.map (·.drop w):=by
 have hr:=au hp;obtain⟨k1,qs,s1,c1,F1,_,r1,m1,_⟩:=mj rs (λq mq=>by have:=(hv q mq).l;lia) (by lia);have GA:=JV (p:=p) (W:=w) (ms:=ps.map (·.2)) (by lia) λm mm=>by obtain⟨q,mq,rfl⟩:=VR.mp mm;exact hv q mq
 have lq:qs.length=ps.length:=by have:=WR List.length m1;rw[oI]at this;simpa using this
 have lp:(ps.map (·.2)).length=ps.length:=Vj ..;obtain⟨a,b,ds,ls,cs,s2,c2,F2,ga,ra,lb,G⟩:=qJ (w:=w+(ps.map (·.2)).length) (W:=w) hp r1 (λq mq=>GA _ (by rw[<-m1];exact V1 mq)) (by lia) (by lia) (by lia);rw[m1]at G;obtain⟨WI,Ex⟩:∃WI:Int,WI=(w:Int):=⟨_,rfl⟩
 rw[<-Ex]at c2;obtain⟨CL,hCL⟩:∃CL:Int,CL=(cs.length:Int):=⟨_,rfl⟩
 have c3:bc [.loc b] s2=.ok (.int CL) s2:=by rw[aQ (ay lb),az,v?,hCL]
 have gc:=G.cl;rw[Vj]at gc;have c4:GC (some CL) none (.loc a) s2=.ok (.loc s2.length) (s2++[.lst (ls.map bY)]):=by rw[vt (ay ra.l),hCL,cutD,gc,<-Zk,List.drop_left]
 obtain⟨s3,e3,F3,l3,_⟩:=aV (s:=s2) (ls.map bY);rw[<-e3]at c4;have yc:=F1.trans (F2.trans F3);have lls:=G.ct;rw[Vj,Vj,oI,lp]at lls;obtain⟨zs,s4,ec,F4,m4,g4⟩:=ky (g:=λb8=>ar b8 s2.length=some (ls.map bY)) (a:=aB 0) (e:=Ci bq (jR bP) jQ) (s0:=s3) (λs' F=>ay (F _ _ l3)) (λτ=>∃x,τ=[x,some (.int WI)]) bY (λq=>q.2.drop w) ls [none,some (.int WI)] s3 [] ⟨_,rfl⟩ (Fr.refl _) (by
  rintro u mu τ s' ⟨x,rfl⟩ F;have lu:=F _ _ (F3 _ _ (ra.r u (VX _ mu)));have e:GC (some WI) none (.loc u.1) s'=.ok (.loc s'.length) (s'++[aI (u.2.drop w)]):=by rw[vt (ay lu),Ex,cutD,<-Zk]
  exact⟨[some (.loc u.1),some (.int WI)],rfl,⟨_,rfl⟩,s'.length,_,by simp only[aq,aO,aU,aK,AI,Ig,AJ,AK,nk,nu,Ih,e],Fr.app _ _,Vv _,bx _ _⟩)
 rw[Vx]at ec;have gH:∀x y z:Option aj,iS 1 [2] [x, y, qI WI, z]=[none,some (.int WI)]:=λ_ _ _=>rfl;have hz:(ls.map bY).length<=16777216:=by rw[Vj];lia
 refine⟨s4.length,zs,_,_,cs,s4++[.lst (zs.map bY)],?_,(yc.trans F4).more _,(yc.trans F4).len,⟨bx _ _,λq mq=>cP (g4 q mq).2 _⟩,G,by rw[m4,V5];rfl⟩;rw[<-Ex];simp only[PM.gh,bC,aq,aF,aS,bg,aD,aM,aE,aC,aw,bJ,bK,ie,fX,bN,aG,av,aA,aP,ba,bf,d6,ej,aO,gf,aU,aK,Vq,VQ,VI,Vx,VN,VC,Vp,Vr,Nat.reduceSub,Vl,VB,Nat.reduceAdd,Vt,AI,Ig,AJ,AK,nk,nu,Ih,c1,c2,bD tX,bD Bz,c3,c4,cY (ay l3),gH,ec,Vs hz]
theorem CW(hp:dM p=true){ps:List Cr}(rs:iZ s n ps)(hv:∀q∈ps,kf p w q.2)(hw:w<=500)(hl:ps.length<=500):
  ∃v D L cs s',PM.fv [.int p,.loc n,.int (w:Int)] s=.ok v s'/\Fr s s'/\GI p (w+(ps.map (·.2)).length) w (Kh (ps.map (·.2))) D L cs/\((v=.dD/\L≠[])\/((∃t,v=.loc t)/\L=[])):=by
 have hr:=au hp;obtain⟨k1,qs,s1,c1,F1,_,r1,m1,_⟩:=mj rs (λq mq=>by have:=(hv q mq).l;lia) (by lia);have GA:=JV (p:=p) (W:=w) (ms:=ps.map (·.2)) (by lia) λm mm=>by obtain⟨q,mq,rfl⟩:=VR.mp mm;exact hv q mq
 have lq:qs.length=ps.length:=by have:=WR List.length m1;rw[oI]at this;simpa using this
 have lp:(ps.map (·.2)).length=ps.length:=Vj ..;obtain⟨a,b,ds,ls,cs,s2,c2,F2,ga,ra,lb,G⟩:=qJ (w:=w+(ps.map (·.2)).length) (W:=w) hp r1 (λq mq=>GA _ (by rw[<-m1];exact V1 mq)) (by lia) (by lia) (by lia);rw[m1]at G;obtain⟨WI,Ex⟩:∃WI:Int,WI=(w:Int):=⟨_,rfl⟩
 rw[<-Ex]at c2⊢;have tu:=F1.trans F2;obtain⟨CL,hCL⟩:∃CL:Int,CL=(cs.length:Int):=⟨_,rfl⟩
 obtain⟨VL,hVL⟩:∃VL:Int,VL=(ps.length:Int):=⟨_,rfl⟩
 have c3:bc [.loc b] s2=.ok (.int CL) s2:=by rw[aQ (ay lb),az,v?,hCL]
 have c4:bc [.loc n] s2=.ok (.int VL) s2:=by rw[aQ (ay (tu _ _ rs.l)),Vj,hVL]
 have gc:=G.cl;rw[Vj]at gc;have gt:=G.ct;rw[Vj,Vj,oI,lp]at gt;by_cases sR:CL<VL
 .have z:decide (CL<VL)=true:=V7 sR;exact⟨.dD,_,_,_,s2,by simp only[PM.fv,bC,aq,aF,aS,nh,bg,aD,aM,aE,aC,aw,bJ,iV,bK,bN,bo,bh,aG,av,aA,aP,ba,b9,bf,js,aO,gf,aU,aK,Vq,VQ,VI,Vx,VN,VC,Vp,Vr,Nat.reduceSub,Vl,VB,Nat.reduceAdd,c1,c2,bD Bz,c3,c4,z],tu,G,.inl ⟨rfl,λe=>by have:=WR List.length e;rw[Vj,VB]at this;lia⟩⟩
 have z:decide (CL<VL)=false:=V2 sR;obtain⟨us,s4,ec,F4,l4,_⟩:=pK (g:=λ_=>True) (a:=aB 0) (c:=bI) (e:=ai bX (a_ (aa dE ag)) (ao bc (aa bP ag))) (s0:=s2) (λ_ _=>trivial) (λτ=>∃x,τ=[x,some (.loc n)]) (λ_=>true) (λ_ _=>True) (λ_ _ _ _ _=>trivial) ((dY 0 w).map aj.int) [none,some (.loc n)] s2 [] ⟨_,rfl⟩ (Fr.refl _) (by
  rintro u mu τ s' ⟨x,rfl⟩ F;obtain⟨i,_,rfl⟩:=VR.mp mu;have b1:a_ (aa dE ag) [some (.int i),some (.loc n)] s'=.ok (.loc s'.length) (s'++[.lst [.int 0]]):=de (vs:=[.int 0]) (s1:=s') rfl (by decide);have b2:bc [.loc n] (s'++[.lst [.int 0]])=.ok (.int VL) (s'++[.lst [.int 0]]):=by rw[aQ (ay (cP (F _ _ (tu _ _ rs.l)) _)),Vj,hVL]
  have b3:=rH (st:=s'++[.lst [.int 0]]) (k:=VL) (bx s' [.int 0]) (by lia) (by lia) (by rw[Vt,VO];lia);refine⟨[some (.int i),some (.loc n)],rfl,⟨_,rfl⟩,rfl,λ_=>⟨_,_,by rw[iw b1 (y:=.int VL) (s2:=s'++[.lst [.int 0]]) (by rw[g! (rZ (v:=.loc n) (s1:=s'++[.lst [.int 0]]) rfl),b2])];exact b3,(Fr.app s' _).more _,trivial⟩⟩)
 rw[Vx]at ec;rw[Ba,az,gj]at l4;obtain⟨s5,e5,F5,l5,n5⟩:=aV (s:=s4) us;have gH:∀x y z t u v:Option aj,iS 1 [1] [x, qL n, y, z, t, u, v]=[none,some (.loc n)]:=λ_ _ _ _ _ _=>rfl;have hz:((dY 0 w).map aj.int).length<=16777216:=by rw[az,gj];lia
 have Us:=F4.trans F5;have f4:=F4.len;obtain⟨t,ht⟩:∃t,t=s4.length:=⟨_,rfl⟩
 rw[<-ht]at l5;obtain⟨μ',s6,ef,tb,F6,l6,n6,x5,x6,rfl⟩:=eg (g:=λb8=>ar b8 b=some ((t6 cs).map aj.int)) (a:=iN [aB 5,aB 6]) (body:=o! ff jL (Ci (ai bS (ai bS cT dE) iP) (jR dz) jQ)) (λ_ μ s'=>∃tb,Fr s2 s'/\s'[t]?=some (.lst tb)/\tb.length=w/\∃x5 x6,μ=[qI p, qL n, qI WI, some (.tup [.loc a,.loc b]), qL t, x5, x6]) (jS 0 ((t6 cs).map aj.int)) 0 [qI p, qL n, qI WI, some (.tup [.loc a,.loc b]), qL t, qn, qn] s5 (by
  rintro i u μ s' hu ⟨tb,F,lt,nt,x5,x6,rfl⟩;obtain⟨q,hq,rfl⟩:=kn _ 0 i u hu;rw[VZ];have hi:i<cs.length:=by have:=bF hq;rw[az,v?]at this;exact this
  unfold t6 at hq;rw[Vu,Vu,Vo hi]at hq;have eq:=(VU hq).symm;have rc:=G.cj _ (XQ hi);generalize cs[i]=cn at eq rc;have eq:q=.int (cn:Int):=eq;subst eq;obtain⟨z2,RG⟩:∃z2,(ds++ls)[i]?=some z2:=⟨_,Vo (by rw[Vm];lia)⟩
  have b1:=cO (ay (F _ _ ra.l)) (v:=.loc z2.1) (L2.i? (by rw[Vu,RG];rfl));obtain⟨I,hI⟩:∃I:Int,I=(i:Int):=⟨_,rfl⟩
  obtain⟨c,hc⟩:∃c:Int,c=(cn:Int):=⟨_,rfl⟩
  rw[<-hI]at b1⊢;have lz:=F _ _ (ra.r z2 (V8 RG));have b2:GC (some WI) none (.loc z2.1) s'=.ok (.loc s'.length) (s'++[aI (z2.2.drop w)]):=by rw[vt (ay lz),Ex,cutD,<-Zk]
  obtain⟨mW,es,F',_⟩:=aV (s:=s') ((z2.2.drop w).map aj.int);rw[show s'++[aI (z2.2.drop w)]=mW from es.symm]at b2;have lt':=F' _ _ lt;have b3:=qh (v:=.loc s'.length) (k:=c) (j:=cn) lt' (by rw[nt,hc];exact qp rc);rw[<-hc];have bz:Ci (ai bS (ai bS cT dE) iP) (jR dz) jQ [qI p, qL n, qI WI, some (.tup [.loc a,.loc b]), qL t, qI I, qI c] s'=.ok (.loc s'.length) mW:=by simp only[aq,aD,aM,aE,bN,aO,gf,aK,AI,Ig,AJ,AK,nk,nu,Ih,bD tX,b1,b2]
  refine⟨(F.it (ay lb)),_,rfl,[qI p, qL n, qI WI, some (.tup [.loc a,.loc b]), qL t, qI I, qI c],mW.set t (.lst (tb.set cn (.loc s'.length))),.inl ?_,tb.set cn (.loc s'.length),(F.trans F').set (by lia) _,g6 lt',by rw[Wt];exact nt,_,_,rfl⟩;show o! ff jL (Ci (ai bS (ai bS cT dE) iP) (jR dz) jQ) [qI p, qL n, qI WI, some (.tup [.loc a,.loc b]), qL t, qI I, qI c] s'=_;generalize Ci (ai bS (ai bS cT dE) iP) (jR dz) jQ=X at bz⊢;simp only[aF,aO,aU,aK,yR,Ql,Ik,Il,ny,bz,b3]) (λ_ s'⟨_,F,_⟩=>F.it (ay lb)) ⟨us,Us,l5,l4,_,_,rfl⟩
 refine⟨.loc t,_,_,_,s6,?_,tu.trans F6,G,.inr ⟨⟨_,rfl⟩,X3.mp (by rw[Vj];lia)⟩⟩;have he:=vx (Us.it (ay lb));unfold PM.fv;rw[bC (np:=3) (us:=[aj.int p,.loc n,.int WI]) rfl];generalize o! ff jL (Ci (ai bS (ai bS cT dE) iP) (jR dz) jQ)=B at ef⊢;generalize ai bX (a_ (aa dE ag)) (ao bc (aa bP ag))=M at ec⊢;rw[e5]at ef;rw[e5]at he;simp only[aq,aF,aS,bg,aD,aM,aE,aC,aw,bJ,d8,bK,gC,ie,fX,bN,bo,bh,aG,av,aA,aP,cQ,ba,b9,bf,eO,d6,jU,js,aO,gf,aU,aK,Vq,VQ,VI,Vx,VN,VC,Vp,Vr,Nat.reduceSub,Vt,qj,c1,c2,bD Bz,c3,c4,z,CM Ex (by lia),gH,ec,Vs hz,he,ef,<-ht]
end
theorem iZ.nel{s:af}{c:Nat}{ps:List Cr}(h:iZ s c ps)(n:ps≠[])(hk:s[k]?=some (aI R)):c≠k:=by
 cases ps with
 |nil=>exact absurd rfl n
 |cons q ps=>exact Q8 hk h.l
theorem iZ.UT{s:af}{c:Nat}{ps:List Cr}(h:iZ s c ps)(n:ps≠[]){q:Cr}(hq:s[q.1]?=some (aI q.2)):iZ (s.set c (.lst ((ps++[q]).map bY))) c (ps++[q]):=
 ⟨g6 h.l,λx m=>by
  have hr:s[x.1]?=some (aI x.2):=by
   rcases VP.mp m with m|m
   .exact h.r x m
   .rw[Vy.mp m];exact hq
  exact gg hr (h.nel n hr)⟩
theorem iZ.SW{s:af}{c:Nat}{ps qs:List Cr}(h:iZ s c ps)(k:iZ s d qs)(n:qs≠[])(ne:d≠c)(x:a!):iZ (s.set d x) c ps:=⟨gg h.l ne,λq m=>gg (h.r q m) (k.nel n (h.r q m))⟩
section
variable{N:Nat}{A:_d}{s:af}
structure Ki(p:Int)(A:_d)(N:Nat)(Q R:List (_d)):Prop where
 q0:Q[0]?=some []
 r0:R[0]?=some [1]
 rq:∀x∈Q,Row p x
 rr:∀x∈R,Row p x/\x.length<=N
 ln:Q.length=R.length
 s1:∀x y,Q[1]?=some x->R[1]?=some y->(Xp:ah p) ^ p.toNat=ak A*ak x+ak y
 st:∀(k:Nat)x y a b,Q[k+2]?=some x->R[k+2]?=some y->R[k+1]?=some a->R[1]?=some b->(ak a:ah p)*ak b=ak A*ak x+ak y
theorem Ki.snoc{Q R:List (_d)}(h:Ki p A N Q R){x y:_d}(rx:Row p x)(ry:Row p y)(ly:y.length<=N)(e1:R.length=1->(Xp:ah p) ^ p.toNat=ak A*ak x+ak y)(e2:∀(k:Nat)a b,R.length=k+2->R[k+1]?=some a->R[1]?=some b->(ak a:ah p)*ak b=ak A*ak x+ak y):Ki p A N (Q++[x]) (R++[y]):=by
 have l0:0<R.length:=(VM.mp h.r0).1;have ln:=h.ln;have old:∀{M:List (_d)}{z u:_d}{k:Nat},k<M.length->(M++[z])[k]?=some u->M[k]?=some u:=λhk e=>by rw[V4 hk]at e;exact e
 have new:∀{M:List (_d)}{z u:_d}{k:Nat},¬ k<M.length->(M++[z])[k]?=some u->u=z/\k=M.length:=λ{M z u k}hk e=>by have:=(VM.mp e).1;rw[Vm,VO]at this;rw[V3 (by lia),show k-M.length=0 by lia]at e;exact⟨(VU e).symm,by lia⟩
 refine⟨by rw[V4 (by lia)];exact h.q0,by rw[V4 l0];exact h.r0,λz m=>?_,λz m=>?_,by rw[Vm,Vm,ln];rfl,λu v hu hv=>?_,λk u v a b hu hv ha hb=>?_⟩
 .rcases VP.mp m with m|m
  .exact h.rq z m
  .rw[Vy.mp m];exact rx
 .rcases VP.mp m with m|m
  .exact h.rr z m
  .rw[Vy.mp m];exact⟨ry,ly⟩
 .by_cases q:1<R.length
  .exact h.s1 u v (old (by lia) hu) (old q hv)
  .rw[(new (by lia) hu).1,(new q hv).1];exact e1 (by lia)
 .have hl:=(VM.mp hv).1;rw[Vm,VO]at hl;have ha:=old (by lia) ha;have hb:=old (by lia) hb;by_cases q:k+2<R.length
  .exact h.st k u v a b (old (by lia) hu) (old q hv) ha hb
  .rw[(new (by lia) hu).1,(new q hv).1];exact e2 k a b (by lia) ha hb
theorem Ki.pow{Q R:List (_d)}(h:Ki p A N Q R):∀(k:Nat){y:_d},R[k]?=some y->∃z:ah p,(Xp ^ p.toNat) ^ k=ak y+ak A*z
 |0,y,e=>⟨0,by rw[h.r0]at e;cases e;rw[tq,q_];grind⟩
 |1,y,e=>by have:=(VM.mp e).1;have e1:=h.s1 _ y (Vo (by rw[h.ln];exact this)) e;exact⟨ak (Q[1]'(by rw[h.ln];exact this)),by rw[k?,tq,e1];grind⟩
 |k+2,y,e=>by
  have l2:=(VM.mp e).1;obtain⟨a,ha⟩:∃a,R[k+1]?=some a:=⟨_,Vo (by lia)⟩
  obtain⟨b,hb⟩:∃b,R[1]?=some b:=⟨_,Vo (by lia)⟩
  obtain⟨x,hx⟩:∃x,Q[k+2]?=some x:=⟨_,Vo (by rw[h.ln];exact l2)⟩
  obtain⟨z1,e1⟩:=Ki.pow h (k+1) ha;obtain⟨z2,e2⟩:=Ki.pow h 1 hb;have e3:=h.st k x y a b hx e ha hb;rw[k?,tq]at e2;rw[k?,e1];generalize (Xp:ah p) ^ p.toNat=X at e2⊢;exact⟨ak x+ak a*z2+ak b*z1+ak A*z1*z2,by grind⟩
structure PwF(p:Int)(A:_d)(N n:Nat)(s:af)(i:Nat)(μ:MN.Env)(s':af):Prop where
 ex:∃q r qs rs x4 x5 x6,μ=[qI p, qL n, qL q, qL r, x4, x5, x6]/\Fr s s'/\s.length<=q/\s.length<=r/\q≠r/\iZ s' q qs/\iZ s' r rs/\rs.length=i+1/\Ki p A N (qs.map (·.2)) (rs.map (·.2))
theorem JW(hp:dM p=true)(hA:dG p A)(U:_d):Row p (b7 p U A)/\Row p (h! p U A)/\(h! p U A).length<A.length/\(ak U:ah p)=ak A*ak (b7 p U A)+ak (h! p U A):=by
 have hr:=au hp;have yb:¬ aL A % p=0:=by rw[hA.l1,V? (by lia) (by lia)];lia
 obtain⟨a,b,c,d,_⟩:=fU hp (as:=U) hA.ne yb;refine⟨a,b,c,?_⟩;rw[bH,vJ,pE];exact mk_eq (d.trans (aR.of_eq λk=>by rw[b?,aX]))
theorem MQ(hp:dM p=true)(ln:s[n]?=some (aI A))(hA:dG p A)(hN:A.length=N+1)(hl:N<=100){i:Nat}(hi:i<N){μ:MN.Env}(h:PwF p A N n s i μ s'):
  ∃μ' mW,RK (μ.set 4 (some (.int (1+(i:Int))))) s'=.nx μ' mW/\PwF p A N n s (i+1) μ' mW:=by
 have hr:=au hp;have bW:0<p:=by lia
 have yb:¬ aL A % p=0:=by rw[hA.l1,V? (by lia) (by lia)];lia
 obtain⟨q,r,qs,rs,x4,x5,x6,rfl,F,fq,fr,UU,Rq,Rr,nr,M⟩:=h.ex;have nq:qs.length=i+1:=by have:=M.ln;simpa[nr]using this
 obtain⟨K,hK⟩:∃K:Int,K=1+(i:Int):=⟨_,rfl⟩
 rw[<-hK];show ∃μ' mW,RK [qI p, qL n, qL q, qL r, qI K, x5, x6] s'=.nx μ' mW/\_
 -- Sl is parted
 obtain⟨ku,U,s1,e1,F1,l1,n1,u1,u2⟩:∃ku U s1,UO [qI p, qL n, qL q, qL r, qI K, x5, x6] s'=.ok (.loc ku) s1/\Fr s' s1/\s1[ku]?=some (aI U)/\U.length<=100000/\((rs.map (·.2)).length=1->(ak U:ah p)=Xp ^ p.toNat)/\∀(k:Nat)a b,(rs.map (·.2)).length=k+2->(rs.map (·.2))[k+1]?=some a->(rs.map (·.2))[1]?=some b->(ak U:ah p)=ak a*ak b:=by
  by_cases h1:i=0
  .obtain⟨k,s1,e,F1,_,l⟩:=N1 (μ:=[some (.int p),some (.loc n),some (.loc q),some (.loc r),some (.int K),x5,x6]) (i:=0) (K:=p) (λ_=>rfl) (by lia) (by lia) s';have z:(K==1)=true:=by simp;lia
   refine⟨k,_,s1,?_,F1,l,by rw[Vm,V0];simp;lia,λ_=>by rw[nL,q_];grind,λk a b hk=>by rw[Vj]at hk;lia⟩;unfold UO;generalize RJ 0=X at e⊢;simp only[aq,aD,aM,aE,qd,bN,bo,bh,o?,ig,aO,aK,z,e]
  .have z:(K==1)=false:=by simp;lia
   have g:∀j:Nat,j<rs.length->∃c,rs[j]?=some c/\bS (.loc r) (.int (j:Int)) s'=.ok (.loc c.1) s'/\s'[c.1]?=some (aI c.2)/\Row p c.2/\c.2.length<=N:=λj hj=>by have hw:=Vo hj;have mw:=V8 hw;have:=M.rr _ (V1 mw);exact⟨_,hw,cO (ay Rr.l) (L2.i? (by rw[Vu,hw];rfl)),Rr.r _ mw,this.1,this.2⟩
   obtain⟨c1,Me,g1,l1,rr1,rl1⟩:=g i (by lia);obtain⟨c2,NK,g2,l2,rr2,rl2⟩:=g 1 (by lia);have g1':bS (.loc r) (.int (K-1)) s'=.ok (.loc c1.1) s':=by rw[show K-1=(i:Int) by lia];exact g1
   have g2':bS (.loc r) (.int 1) s'=.ok (.loc c2.1) s':=g2;obtain⟨s1,k,e,F1,_,l⟩:=jA hp l1 l2 rr1 (by lia) (by lia);refine⟨k,_,s1,?_,F1,l,by have:=qq p c1.2 c2.2;lia,λh=>by rw[Vj]at h;lia,λk a b hk ha hb=>?_⟩
   .unfold UO;generalize RJ 0=X;simp only[aq,aD,aM,aE,qe,aC,aw,bN,bo,bh,o?,aG,av,aA,fi,ig,aO,aU,aK,z,g1',g2',e]
   .rw[Vj]at hk;rw[Vu,show k+1=i by lia,Me]at ha;rw[Vu,NK]at hb;cases ha;cases hb;exact D9 bW _ _
 obtain⟨s2,k1,k2,e2,F2,o1,o2,n12,c1,c2⟩:=gn hp (ay l1) (F1 _ _ (F _ _ ln)) hA.ne yb n1 (by lia);obtain⟨sq,sr,slt,dm⟩:=JW hp hA U;have Mx:=F1.trans F2;have UW:=Rq.mono Mx;have Rr2:=Rr.mono Mx;have nqs:qs≠[]:=λe=>by rw[e]at nq;cases nq
 have nrs:rs≠[]:=λe=>by rw[e]at nr;cases nr
 have a1:=iq (v:=.loc k1) UW.l (by rw[Vj,Vt];lia);rw[show qs.map bY++[.loc k1]=(qs++[(k1,b7 p U A)]).map bY from by rw[VS];rfl]at a1;have Rq3:=UW.UT nqs (q:=(k1,b7 p U A)) c1;have Rr3:=Rr2.SW UW nqs UU (.lst ((qs++[(k1,b7 p U A)]).map bY));have c23:(s2.set q (.lst ((qs++[(k1,b7 p U A)]).map bY)))[k2]?=some (aI (h! p U A)):=gg c2 (UW.nel nqs c2);have a2:=iq (v:=.loc k2) Rr3.l (by rw[Vj,Vt];lia);rw[show rs.map bY++[.loc k2]=(rs++[(k2,h! p U A)]).map bY from by rw[VS];rfl]at a2;have Rr4:=Rr3.UT nrs (q:=(k2,h! p U A)) c23;have Rq4:=Rq3.SW Rr3 nrs (W5 UU) (.lst ((rs++[(k2,h! p U A)]).map bY));refine⟨[some (.int p),some (.loc n),some (.loc q),some (.loc r),some (.int K),some (.loc ku),some (.tup [.loc k1,.loc k2])],_,?_,q,r,_,_,_,_,_,rfl,((F.trans Mx).set fq _).set fr _,fq,fr,UU,Rq4,Rr4,by rw[Vm,nr];rfl,?_⟩
 .unfold RK;generalize UO=X at e1⊢;simp only[aq,aF,aS,aD,aM,aE,aC,aw,gK,bK,bN,aG,av,aA,aP,fM,bf,aO,gf,aU,aK,Vp,Vr,nv,s_,e1,e2,bD tX,bD Bz,qg UW.l,a1,qg Rr3.l,a2]
 .rw[VS,VS];exact M.snoc sq sr (by show(h! p U A).length<=N;lia) (λh=>(u1 h).symm.trans dm) λk a b h1 h2 h3=>(u2 k a b h1 h2 h3).symm.trans dm
theorem tw(hp:dM p=true)(ln:s[n]?=some (aI A))(hA:dG p A)(hN:A.length=N+1)(n1:1<=N)(hl:N<=100):
  ∃q r qs rs s',PM.d? [.int p,.loc n] s=.ok (.tup [.loc q,.loc r]) s'/\Fr s s'/\s.length<=q/\s.length<=r/\q≠r/\iZ s' q qs/\iZ s' r rs/\rs.length=N/\Ki p A N (qs.map (·.2)) (rs.map (·.2)):=by
 have hr:=au hp;obtain⟨s1,e1,F1,l1,_⟩:=aV (s:=s) [];obtain⟨s2,e2,F2,l2,m2⟩:=aV (s:=s1) [.loc s.length];obtain⟨s3,e3,F3,l3,m3⟩:=aV (s:=s2) [.int 1];obtain⟨s4,e4,F4,l4,m4⟩:=aV (s:=s3) [.loc s2.length];have F:=F1.trans (F2.trans (F3.trans F4));have f1:=F1.len;obtain⟨L,hL⟩:∃L:Int,L=(A.length:Int):=⟨_,rfl⟩
 have kl:bc [.loc n] s4=.ok (.int L) s4:=by rw[aQ (ay (F _ _ ln)),az,hL]
 have rg:Fu [.int 1,.int (L-1)] s4=.ok (cN 1 (N-1),λ_=>True) s4:=by rw[uE (by lia) (by lia) (by lia) (by lia),show(L-1-1).toNat=N-1 by lia]
 have I0:PwF p A N n s 0 [qI p, qL n, qL s1.length, qL s3.length, qn, qn, qn] s4:=
  ⟨s1.length,s3.length,[(s.length,[])],[(s2.length,[1])],none,none,none,rfl,F,f1,by lia,by lia,⟨F4 _ _ (F3 _ _ l2),λq m=>by rw[Vy.mp m];exact F4 _ _ (F3 _ _ (F2 _ _ l1))⟩,⟨l4,λq m=>by rw[Vy.mp m];exact F4 _ _ l3⟩,rfl,rfl,rfl,(λx m=>by rw[Vy.mp m];exact Row.nil p),(λx m=>by rw[Vy.mp m];exact⟨jf (by lia),n1⟩),rfl,(λ_ _ h=>by cases h),λ_ _ _ _ _ h=>by cases h⟩
 obtain⟨μ',s5,ef,H⟩:=eg (g:=λ_=>True) (a:=aB 4) (body:=RK) (λi μ s'=>PwF p A N n s i μ s') (cN 1 (N-1)) 0 _ s4 (by
  intro i u μ s' hu H;rw[VZ]at H⊢;unfold cN at hu;have hi:i<N-1:=by have:=bF hu;rw[Vj,VW]at this;exact this
  rw[Vu,Wh hi]at hu;have eu:=(VU hu).symm;subst eu;obtain⟨μ',mW,e,H'⟩:=MQ hp ln hA hN hl (by lia) H;refine⟨trivial,μ.set 4 (some (.int (1+(i:Int)))),?_,μ',mW,.inl e,H'⟩;obtain⟨q,r,qs,rs,x4,x5,x6,rfl,_⟩:=H.ex;rfl) (λ_ _ _=>trivial) I0
 rw[VZ]at H;unfold cN at H;rw[Vj,VW]at H;obtain⟨q,r,qs,rs,x4,x5,x6,rfl,F',fq,fr,UU,Rq,Rr,nr,M⟩:=H.ex;refine⟨q,r,qs,rs,s5,?_,F',fq,fr,UU,Rq,Rr,by lia,M⟩;have a1:a_ (aa (a_ ag) ag) [qI p, qL n, qn, qn, qn, qn, qn] s=.ok (.loc s1.length) s2:=by rw[de (rZ (v:=.loc s.length) (s1:=s1) (by rw[de (vs:=[]) (s1:=s) rfl (by decide),e1])) (by show 1<=1000;decide),e2]
 have a2:a_ (aa (a_ (aa cH ag)) ag) [qI p, qL n, qL s1.length, qn, qn, qn, qn] s2=.ok (.loc s3.length) s4:=by rw[de (rZ (v:=.loc s2.length) (s1:=s3) (by rw[de (vs:=[.int 1]) (s1:=s2) rfl (by decide),e3])) (by show 1<=1000;decide),e4]
 unfold PM.d?;rw[bC (np:=2) (us:=[aj.int p,.loc n]) rfl];show(ax (aJ 2 (a_ (aa (a_ ag) ag))) (ax (aJ 3 (a_ (aa (a_ (aa cH ag)) ag))) (ax (f? (jb (aa cH (aa (ai gJ (ao bc (aa bP ag)) cH) ag))) (aB 4) RK) (bU (gW (aa dz (aa cT ag)))))) [qI p, qL n, qn, qn, qn, qn, qn] s).fin=_;generalize RK=B at ef⊢;generalize a_ (aa (a_ ag) ag)=M1 at a1⊢;generalize a_ (aa (a_ (aa cH ag)) ag)=M2 at a2⊢;simp only[aq,aF,aS,bg,aD,aM,aE,aC,aw,jT,bJ,bK,gC,bN,aG,av,gY,aA,aP,ba,bf,eO,qf,fi,aU,aK,Vp,Vr,Vl,VB,Nat.reduceAdd,Vt,Nat.reduceLeDiff,↓reduceIte,a1,a2,kl,rg,ef]
theorem Q!(l:_d)(n:Nat):(ak (l++List.replicate n 0):ah p)=ak l:=eY λk=>by
 rcases WD k l.length with h|h
 .exact Bk h
 .obtain⟨i,rfl⟩:∃i,k=l.length+i:=⟨k-l.length,by lia⟩
  rw[v!,c! (ns:=l) (by lia)];have:=CD n [] i;rw[Wi,bZ]at this;rw[this];split<;>rfl
theorem MR(hp:0<p)(B C:_d):(ak (iX p B C):ah p)=ak B-ak C:=by show _=(ak B:ah p) + -(ak C);rw[IK,pE];exact mk_eq ((uI hp B C).trans (aR.of_eq λk=>by rw[b?,g9];lia))
theorem qK(hp:dM p=true){r:Nat}{rs:List Cr}(Rr:iZ s r rs)(nr:rs.length=N)(hv:∀q∈rs,Row p q.2/\q.2.length<=N)(hl:N<=100){f:Nat}(hf:f<=N):
  ∃c cs s',PM.b! [.int p,.loc r,.int (f:Int)] s=.ok (.loc c) s'/\Fr s s'/\iZ s' c cs/\cs.length=N-f/\(∀q∈cs,kf p N q.2)/\∀(k:Nat)m R,cs[k]?=some m->rs[f+k]?=some R->(ak m.2:ah p)=ak R.2-Xp ^ (f+k):=by
 have hr:=au hp;have bW:0<p:=by lia
 obtain⟨s1,e1,F1,l1,_⟩:=aV (s:=s) [];obtain⟨c,hc⟩:∃c,c=s.length:=⟨_,rfl⟩
 rw[<-hc]at l1;obtain⟨L,hL⟩:∃L:Int,L=(N:Int):=⟨_,rfl⟩
 obtain⟨FI,hFI⟩:∃FI:Int,FI=(f:Int):=⟨_,rfl⟩
 rw[<-hFI];have kl:∀{s'},Fr s s'->bc [.loc r] s'=.ok (.int L) s':=λF=>by rw[aQ (ay (F _ _ Rr.l)),Vj,nr,hL]
 have rg:Fu [.int FI,.int L] s1=.ok (cN FI (N-f),λ_=>True) s1:=by rw[uE (by lia) (by lia) (by lia) (by lia),show(L-FI).toNat=N-f by lia]
 obtain⟨μ',s2,ef,cs,F2,l2,n2,v2,w2,x4,x5,rfl⟩:=eg (g:=λ_=>True) (a:=aB 4) (body:=UP) (λi μ s'=>∃cs:List Cr,Fr s s'/\iZ s' c cs/\cs.length=i/\(∀q∈cs,q.1≠c/\kf p N q.2)/\(∀(k:Nat)m R,cs[k]?=some m->rs[f+k]?=some R->(ak m.2:ah p)=ak R.2-Xp ^ (f+k))/\∃x4 x5,μ=[qI p, qL r, qI FI, qL c, x4, x5]) (cN FI (N-f)) 0 [qI p, qL r, qI FI, qL c, qn, qn] s1 (by
  rintro i u μ s' hu ⟨cs,F,lc,nc,vc,wc,x4,x5,rfl⟩;rw[VZ]at nc⊢;unfold cN at hu;have hi:i<N-f:=by have:=bF hu;rw[Vj,VW]at this;exact this
  rw[Vu,Wh hi]at hu;have eu:=(VU hu).symm;dsimp only at eu;subst eu;obtain⟨K,hK⟩:∃K:Int,K=FI+(i:Int):=⟨_,rfl⟩
  rw[<-hK];obtain⟨j,hj⟩:∃j:Nat,K=(j:Int):=⟨f+i,by lia⟩
  obtain⟨⟨k,R⟩,hw⟩:∃v,rs[j]?=some v:=⟨_,Vo (by lia)⟩
  have mw:=V8 hw;have l:s[k]?=some (aI R):=Rr.r _ mw;obtain⟨rR,wR⟩:=hv _ mw;have b1:bS (.loc r) (.int K) s'=.ok (.loc k) s':=cO (ay (F _ _ Rr.l)) (by rw[hj];exact L2.i? (by rw[Vu,hw];rfl));obtain⟨ku,s3,b2,F3,_,l3⟩:=N1 (μ:=[some (.int p),some (.loc r),some (.int FI),some (.loc c),some (.int K),x5]) (i:=4) (K:=K) (λ_=>rfl) (by lia) (by lia) s';have lU:(List.replicate K.toNat (0:Int)++[1]).length<=N:=by rw[Vm,V0,VO];lia
  have eU:(ak (List.replicate K.toNat (0:Int)++[1]):ah p)=Xp ^ (f+i):=by rw[nL,q_,show K.toNat=f+i by lia];generalize (Xp:ah p) ^ (f+i)=X;grind
  generalize List.replicate K.toNat (0:Int)++[1]=U at l3 lU eU;obtain⟨s4,k4,b4,F4,_,l4⟩:=k_ hp (F3 _ _ (F _ _ l)) l3 (by have:R.length<=N:=wR;lia) (by lia);have lC:(iX p R U).length<=N:=by have:=qr p R U;have:R.length<=N:=wR;lia
  have rC:Row p (iX p R U):=Row.of bW _;have Q9:=F.trans (F3.trans F4);obtain⟨g5,k5,b5,o5,l5⟩:=iW (L:=L) (ay l4) (by lia) (by lia);obtain⟨s5,hs5⟩:∃s5,s5=s4++g5:=⟨_,rfl⟩
  have F5:Fr s4 s5:=by rw[hs5];exact Fr.app _ _
  rw[<-hs5]at b5 l5;have RM:=F3.trans (F4.trans F5);have lc5:=RM _ _ lc.l;have a6:=iq (v:=.loc k5) lc5 (by rw[Vj,Vt];lia);have Rt:=bF lc.l;have f34:=(F3.trans F4).len;obtain⟨M,hM⟩:∃M,M=iX p R U++List.replicate (L-(iX p R U).length).toNat 0:=⟨_,rfl⟩
  have eM:(ak M:ah p)=ak R-Xp ^ (f+i):=by rw[hM,Q!,MR bW,eU]
  have iM:kf p N M:=⟨by rw[hM,Vm,V0];lia,λx mx=>by
   rw[hM]at mx;rcases VP.mp mx with mx|mx
   .exact rC.ED x mx
   .rw[(List.mem_replicate.mp mx).2];lia⟩
  rw[<-hM]at l5;rw[show cs.map bY++[.loc k5]=(cs++[(k5,M)]).map bY from by rw[VS];rfl]at a6;have vn:∀q∈cs++[(k5,M)],q.1≠c/\kf p N q.2/\s5[q.1]?=some (aI q.2):=λq mq=>by
   rcases VP.mp mq with m|m
   .exact⟨(vc q m).1,(vc q m).2,RM _ _ (lc.r q m)⟩
   .rw[Vy.mp m];exact⟨by show k5≠c;lia,iM,l5⟩
  refine⟨trivial,_,rfl,[qI p, qL r, qI FI, qL c, qI K, qL k4],s5.set c (.lst ((cs++[(k5,M)]).map bY)),.inl ?_,cs++[(k5,M)],(F.trans RM).set (by lia) _,⟨g6 lc5,λq mq=>gg (vn q mq).2.2 (W5 (vn q mq).1)⟩,by rw[Vm,nc];rfl,λq mq=>⟨(vn q mq).1,(vn q mq).2.1⟩,λk' m R' hm hR=>?_,_,_,rfl⟩
  .show UP [qI p, qL r, qI FI, qL c, qI K, x5] s'=_;unfold UP;have lcA:=F3.trans F4 _ _ lc.l;generalize RJ 4=X at b2⊢;simp only[aq,aF,aS,aD,aM,aE,aC,aw,gK,bK,bN,aG,av,aA,fR,iU,aP,fM,bf,aO,aU,aK,Vp,Vr,nv,s_,b1,b2,b4,kl Q9,qg lcA,b5,a6]
  .by_cases z:k'<cs.length
   .rw[V4 z]at hm;exact wc k' m R' hm hR
   .have:=(VM.mp hm).1;rw[Vm,VO]at this;rw[V3 (by lia),show k'-cs.length=0 by lia]at hm;cases hm;rw[show f+k'=j by lia,hw]at hR;cases hR;rw[show k'=i by lia];exact eM) (λ_ _ _=>trivial) ⟨[],F1,⟨l1,λ_ m=>by cases m⟩,rfl,(λv m=>by cases m),(λ_ _ _ h=>by cases h),_,_,rfl⟩
 rw[VZ]at n2;unfold cN at n2;rw[Vj,VW]at n2;refine⟨c,cs,s2,?_,F2,l2,n2,λv mv=>(v2 v mv).2,w2⟩;have a1:a_ ag [qI p, qL r, qI FI, qn, qn, qn] s=.ok (.loc c) s1:=by rw[de (vs:=[]) (s1:=s) rfl (by decide),e1,hc]
 unfold PM.b!;rw[bC (np:=3) (us:=[aj.int p,.loc r,.int FI]) rfl];show(ax (aJ 3 (a_ ag)) (ax (f? (jb (aa dz (aa (ao bc (aa bP ag)) ag))) (aB 4) UP) (bU cT)) [qI p, qL r, qI FI, qn, qn, qn] s).fin=_;generalize UP=B at ef⊢;generalize a_ ag=M1 at a1⊢;simp only[aq,aF,aS,bg,aC,aw,bJ,bK,gC,aG,av,aA,aP,ba,bf,eO,qf,aO,aU,aK,Vp,Vr,a1,kl F1,rg,ef]
theorem JX{rs cs:List Cr}{Q:List (_d)}(M:Ki p A N Q (rs.map (·.2)))(nr:rs.length=N){f:Nat}(hf:f<=N)(nc:cs.length=N-f)(iC:∀q∈cs,kf p N q.2)(h:∀(k:Nat)m R,cs[k]?=some m->rs[f+k]?=some R->(ak m.2:ah p)=ak R.2-Xp ^ (f+k)):Q6 p A N f (cs.map (·.2)):=
 ⟨by rw[Vj];lia,λm mm=>by
  obtain⟨q,mq,rfl⟩:=VR.mp mm;exact(iC q mq).l,λk m hm=>by
  rw[Vu]at hm;obtain⟨q,hq,rfl⟩:=Ws.mp hm;have lk:=(VM.mp hq).1;obtain⟨R,hR⟩:∃R,rs[f+k]?=some R:=⟨_,Vo (by lia)⟩
  obtain⟨z,e⟩:=M.pow (f+k) (y:=R.2) (by rw[Vu,hR];rfl);refine⟨-z,?_⟩;rw[h k q R hq hR,e];generalize (Xp:ah p) ^ (f+k)=X
  grind⟩
end
section
variable{N:Nat}{s:af}{A:_d}
abbrev spB:MB:=fg (jN jc cT (aa (ao PM.dW (aa bq (aa ff (aa dz ag)))) ag))
end
section
variable{N:Nat}{s:af}{A:_d}
def RN(G:_d)(y:ah p):Prop:=∃(c:Int)(z:ah p),y-ak [c]=ak G*z
theorem RN.dvd{G H:_d}{y x:ah p}(h:RN G y)(e:ak G=ak H*x):RN H y:=by obtain⟨c,z,h⟩:=h;exact⟨c,x*z,by rw[h,e];exact cF _ _ _⟩
structure PaF(p:Int)(A B:_d)(s:af)(c:Nat)(i:Nat)(s':af)(ps:List Cr):Prop where
 a:PaI p A B s c i s' ps
 bz:∃u v:ah p,pW (ps.map (·.2))=u*ak A+v*wU (ak B) i
theorem MS(hp:dM p=true){A:_d}{b c:Nat}(ln:s[n]?=some (aI A))(hA:dG p A)(hl:A.length<=1000)(lb:s[b]?=some (aI B))(lB:B.length<=1000)(fc:s.length<=c){i:Nat}(hi:(i:Int)<p){ps:List Cr}(h:PaF p A B s c i s' ps){x5:Option aj}:
  ∃y6 mW Pd,paB [qI p, qL n, qL m, qL b, qL c, qI (i:Int), x6] s'=.nx [qI p, qL n, qL m, qL b, qL c, qI (i:Int), y6] mW/\PaF p A B s c (i+1) mW Pd:=by
 have hr:=au hp;have bW:0<p:=by lia
 obtain⟨h,u0,v0,bz⟩:=h;obtain⟨K,hK⟩:∃K:Int,K=(i:Int):=⟨_,rfl⟩
 rw[<-hK];obtain⟨s1,e1,F1,l1,_⟩:=aV (s:=s') [.int K];obtain⟨s2,k2,b2,F2,_,l2⟩:=k_ hp (F1 _ _ (h.fr _ _ lb)) (show s1[s'.length]?=some (aI [K])from l1) (by lia) (by show 1<=100000;decide);have lD:(iX p B [K]).length<=1001:=by have:=qr p B [K];rw[VO]at this;lia
 obtain⟨s3,k3,G,b3,F3,_,l3,gG,_⟩:=zo hp (F2 _ _ (F1 _ _ (h.fr _ _ ln))) l2 hA.row (Row.of bW _) (.inl hA.ne) (by lia) (by lia);obtain⟨mG,d1,d2,u1,v1,b1⟩:=pF gG;have b1':(ak G:ah p)=u1*ak A+v1*(ak B-ak [(i:Int)]):=by rw[b1,show(ak (iX p B [K]):ah p)=_ from pL bW B K,hK]
 have bz':∃u v:ah p,pW (ps.map (·.2))*ak G=u*ak A+v*wU (ak B) (i+1):=by
  refine⟨u0*ak G+v0*wU (ak B) i*u1,v0*v1,?_⟩;show _=_+v0*v1*(wU (ak B) i*(ak B-ak [(i:Int)]));generalize (pW (ps.map (·.2)):ah p)=P at bz⊢;generalize (wU (ak B) i:ah p)=S at bz⊢
  grind
 have F:=F1.trans (F2.trans F3);obtain⟨L,hL⟩:∃L:Int,L=(G.length:Int):=⟨_,rfl⟩
 have kl:bc [.loc k3] s3=.ok (.int L) s3:=by rw[aQ (ay l3),az,hL]
 have nm1:∀q∈ps,∃a:Nat,a<i+1/\∃x:ah p,ak (iX p B [(a:Int)])=ak q.2*x:=λq mq=>by obtain⟨a,ha,x⟩:=h.nm q mq;exact⟨a,by lia,x⟩
 have ln1:=h.ln;by_cases hg:1<G.length
 .have z:decide ((1:Int)<L)=true:=V7 (by lia);have Kg:=h.rs.mono F;have a4:=iq (v:=.loc k3) Kg.l (by rw[Vj,Vt];lia);have e4:ps.map bY++[.loc k3]=(ps++[(k3,G)]).map bY:=by rw[VS];rfl
  rw[e4]at a4;have mn1:∀q∈ps++[(k3,G)],dG p q.2/\2<=q.2.length:=λq mq=>by
   rcases VP.mp mq with mq|mq
   .exact h.mn q mq
   .rw[Vy.mp mq];exact⟨mG,hg⟩
  refine⟨some (.loc k3),_,ps++[(k3,G)],by simp only[aq,aF,aS,aD,aM,aE,aC,aw,sY,gK,iV,bK,bN,bo,bh,aG,av,nj,aA,fR,iU,aP,fM,b9,bf,gq,aO,aU,aK,Vp,Vr,Vl,VB,Nat.reduceAdd,Vt,Nat.reduceLeDiff,↓reduceIte,nv,s_,<-e1,b2,b3,kl,z,qg Kg.l,a4],⟨(h.fr.trans F).set fc _,Kg.put (λq mq=>by rw[Vy.mp mq];exact l3) λq mq=>(mn1 q mq).1.ne,by rw[Vm,VO];lia,mn1,λq mq=>?_,λq mq=>?_,?_⟩,?_⟩
  .rcases VP.mp mq with mq|mq
   .exact h.dv q mq
   .rw[Vy.mp mq];exact⟨_,d1⟩
  .rcases VP.mp mq with mq|mq
   .exact nm1 q mq
   .rw[Vy.mp mq];exact⟨i,by lia,_,by rw[<-hK];exact d2⟩
  .refine WO.mpr ⟨h.cp,WN ..,λq mq r mr=>?_⟩;rw[Vy.mp mr];obtain⟨a,ha,x,e⟩:=h.nm q mq;exact Bb hp (a:=(a:Int)) (b:=K) (by lia) (by lia) (by lia) e d2
  .rw[VS,uR,show(pW ([(k3,G)].map (·.2)):ah p)=ak G from by show ak G*1=ak G;grind];exact bz'
 .have z:decide ((1:Int)<L)=false:=V2 (by lia);refine⟨some (.loc k3),s3,ps,by simp only[aq,aF,aS,aD,aM,aE,aC,aw,sY,d8,bK,bN,bo,bh,aG,av,nj,aA,fR,iU,aP,cQ,b9,bf,gq,aO,aU,aK,Vp,Vr,Vl,VB,Nat.reduceAdd,Vt,Nat.reduceLeDiff,↓reduceIte,<-e1,b2,b3,kl,z],⟨h.fr.trans F,h.rs.mono F,by lia,h.mn,h.dv,nm1,h.cp⟩,?_⟩;have l0:=VA.mpr mG.ne;rw[rF mG (by lia),q_]at bz';obtain⟨u,v,e⟩:=bz';exact⟨u,v,by rw[<-e];grind⟩
theorem xl(hp:dM p=true)(ln:s[n]?=some (aI A))(hA:dG p A)(hl:A.length<=1000)(hm:s[m]?=some (aI U))(hU:U.length<=1000){zU:ah p}(hy:(ak U:ah p) ^ p.toNat-ak U=ak A*zU):
  ∃c ps s',PM.dW [.int p,.loc n,.loc m] s=.ok (.loc c) s'/\Fr s s'/\iZ s' c ps/\CN p A (ps.map (·.2))/\(ak A:ah p)=pW (ps.map (·.2))/\∀G∈ps.map (·.2),RN G (ak U:ah p):=by
 have hr:=au hp;have bW:0<p:=by lia
 have yb:¬ aL A % p=0:=by rw[hA.l1,V? (by lia) (by lia)];lia
 have c1:=dH (iu hp) (ay hm) (by rw[Vt];lia);have eC:=mk_eq (Row.cg bW U);obtain⟨C,hC⟩:∃C,C=bT (U.map (·.fmod p)):=⟨_,rfl⟩
 have lC:C.length<=U.length:=by have:=gF (U.map (·.fmod p));rw[Vj]at this;rw[hC];lia
 rw[<-hC]at c1 eC;obtain⟨s1,e1,F1,l1,_⟩:=aV (s:=s) (C.map aj.int);rw[<-e1]at c1;obtain⟨s2,q1,b,c2,F2,_,_,_,_,lb⟩:=gn hp (ay l1) (F1 _ _ ln) hA.ne yb (by lia) (by lia);obtain⟨_,_,lB,dm⟩:=JW hp hA C;obtain⟨B,hB⟩:∃B,B=h! p C A:=⟨_,rfl⟩
 rw[<-hB]at lb lB dm;have eU:(ak U:ah p)=ak B+ak A*ak (b7 p C A):=by rw[<-show(ak C:ah p)=ak U from eC,dm];grind
 obtain⟨s3,e3,F3,l3,_⟩:=aV (s:=s2) [];have F:=F1.trans (F2.trans F3);have Mx:=F1.trans F2;obtain⟨c,hc⟩:∃c,c=s2.length:=⟨_,rfl⟩
 rw[<-hc]at l3;obtain⟨P,hP⟩:∃P:Nat,p=(P:Int):=⟨p.toNat,by lia⟩
 obtain⟨μ',s4,ef,ps,H,x5,x6,rfl⟩:=qG (a:=aB 5) (body:=paB) (λi μ s'=>∃ps,PaF p A B s2 c i s' ps/\∃x5 x6,μ=[qI p, qL n, qL m, qL b, qL c, x5, x6]) P [qI p, qL n, qL m, qL b, qL c, qn, qn] s3 (by
  rintro i μ s' hi ⟨ps,H,x5,x6,rfl⟩;obtain⟨y6,mW,Pd,e,H'⟩:=MS (m:=m) (x5:=x5) (x6:=x6) hp (Mx _ _ ln) hA hl lb (by lia) (W' hc.symm) (by lia) H;exact⟨_,rfl,_,mW,e,Pd,H',_,_,rfl⟩) ⟨[],⟨⟨F3,⟨l3,λq m=>by cases m⟩,Vv _,(λq m=>by cases m),(λq m=>by cases m),(λq m=>by cases m),.nil⟩,0,1,by show(1:ah p)=0*ak A+1*1;grind⟩,_,_,rfl⟩
 obtain⟨H,u,v,bz⟩:=H;have MG:CN p A (ps.map (·.2)):=⟨λG mG=>by
  obtain⟨q,mq,rfl⟩:=VR.mp mG;exact H.mn q mq,λG mG=>by
  obtain⟨q,mq,rfl⟩:=VR.mp mG;exact H.dv q mq,Wb.mpr H.cp⟩
 refine⟨c,ps,s4,?_,Mx.trans H.fr,H.rs,MG,?_,λG mG=>?_⟩
 .have a3:a_ ag [qI p, qL n, qL m, qL b, qn, qn, qn] s2=.ok (.loc c) s3:=by rw[de (vs:=[]) (s1:=s2) rfl (by decide),e3,hc]
  unfold PM.dW;rw[bC (np:=3) (us:=[aj.int p,.loc n,.loc m]) rfl];show(ax _ (ax (aJ 4 (a_ ag)) (ax (f? (e_ (aa bq ag)) (aB 5) paB) (bU ff))) [qI p, qL n, qL m, qn, qn, qn, qn] s).fin=_;generalize paB=B' at ef⊢;generalize a_ ag=M1 at a3⊢;simp only[aq,aF,aS,bg,aD,aM,aE,aC,aw,bJ,bK,gC,bN,aG,av,aA,aP,ba,bf,eO,jU,aO,aU,aK,Vp,Vr,c1,c2,bD Bz,a3,CM hP (by lia),ef]
 .obtain⟨z1,e1⟩:=pow_mod hp eU;rw[hy]at e1;rw[show P=p.toNat by lia,<-NZ hp]at bz;obtain⟨y,ey⟩:=zB MG.dv MG.cp;obtain⟨C',hC',eC'⟩:=Em (by lia) MG.mn;rw[<-eC']at bz ey⊢;have:=QY bW hA hC' ey (t:=u+v*(zU-z1)) (by
   rw[bz];generalize (ak B:ah p) ^ p.toNat-ak B=X at e1⊢
   grind)
  rw[this]
 .obtain⟨q,mq,rfl⟩:=VR.mp mG;obtain⟨a,_,x,e⟩:=H.nm q mq;rw[pL bW]at e;obtain⟨y,ey⟩:=H.dv q mq;exact⟨(a:Int),x+y*ak (b7 p C A),by rw[eU,ey];grind⟩
theorem JY{i:Nat}{G:_d}(h:Gs[i]?=some G):(pW (Gs.take (i+1)):ah p)=pW (Gs.take i)*ak G:=by
 rw[XD,h,uR];show _*(ak G*1)=_
 grind
structure Wf(p:Int)(A:_d)(ts:List (ah p))(Gs:List (_d)):Prop where
 f:CN p A Gs
 e:(ak A:ah p)=pW Gs
 c:∀t∈ts,∀G∈Gs,RN G t
theorem CY(hp:dM p=true)(hA:Row p A)(nA:A≠[])(hl:A.length<=500){ts:List (ah p)}{ps:List Cr}(hr:iZ s n ps)(hf:Wf p A ts (ps.map (·.2)))(hm:s[m]?=some (aI U))(hU:U.length<=1000){zU:ah p}(hy:(ak U:ah p) ^ p.toNat-ak U=ak A*zU):
  ∃c qs s',PM.jE [.int p,.loc n,.loc m] s=.ok (.loc c) s'/\Fr s s'/\iZ s' c qs/\Wf p A (ts++[ak U]) (qs.map (·.2)):=by
 have hpr:=au hp;have bW:0<p:=by lia
 obtain⟨s1,e1,F1,l1,_⟩:=aV (s:=s) [];obtain⟨c,hc⟩:∃c,c=s.length:=⟨_,rfl⟩
 rw[<-hc]at l1;obtain⟨μ',s2,ef,qs,F2,r2,S2,pe,cU,x4,rfl⟩:=eg (g:=λaH=>ar aH n=some (ps.map bY)) (a:=aB 4) (body:=spB) (λi μ s'=>∃qs,Fr s s'/\iZ s' c qs/\JA p (ps.map (·.2)) i (qs.map (·.2))/\(pW ((ps.map (·.2)).take i):ah p)=pW (qs.map (·.2))/\(∀G∈qs.map (·.2),RN G (ak U:ah p))/\∃x4,μ=[qI p, qL n, qL m, qL c, x4]) (ps.map bY) 0 [qI p, qL n, qL m, qL c, qn] s1 (by
  rintro i u μ s' hu ⟨qs,F,rs,S,pe,cU,x4,rfl⟩;rw[VZ]at S pe⊢;rw[Vu]at hu;obtain⟨q,hq,rfl⟩:=Ws.mp hu;have mq:=V8 hq;have hG:(ps.map (·.2))[i]?=some q.2:=by rw[Vu,hq];rfl
  have mG:q.2∈ps.map (·.2):=V8 hG;have lq:=hf.f.len bW hA nA _ mG;obtain⟨x,ex⟩:=hf.f.dv _ mG;obtain⟨c',Pd,mW,b1,F',r',f',pq,cq⟩:=xl (zU:=x*zU) hp (F _ _ (hr.r q mq)) (hf.f.mn _ mG).1 (by lia) (F _ _ hm) hU (by rw[hy,ex];exact cF _ _ _);have S':=S.put hG hf.f.cp f';rw[<-VS]at S';have fA:=S'.MG (A:=A) hf.f.dv;have GF:=fA.GF bW hA nA;rw[Vj,Vm]at GF;have zZ:=rs.mono F';have a1:=JR zZ.l r'.l (by rw[Vj,Vj];lia);rw[<-VS]at a1;have Q_:=rs.l;refine⟨ay (F _ _ hr.l),_,rfl,[qI p, qL n, qL m, qL c, qL q.1],mW.set c (.lst ((qs++Pd).map bY)),.inl ?_,qs++Pd,(F.trans F').set (W' hc.symm) _,zZ.put r'.r (λx mx=>(S'.mn _ (V1 mx)).1.ne),S',?_,λG m=>?_,_,rfl⟩
  .show spB [qI p, qL n, qL m, qL c, qL q.1] s'=_;simp only[aq,aF,aC,aw,gK,aG,av,aA,fM,aO,aU,aK,nv,s_,qg Q_,b1,a1]
  .rw[JY hG,pe,pq,VS,uR]
  .rw[VS]at m;rcases VP.mp m with m|m
   .exact cU G m
   .exact cq G m) (λ_ s'⟨_,F,_⟩=>ay (F _ _ hr.l)) ⟨[],F1,⟨l1,λq m=>by cases m⟩,JA.nil,rfl,(λ_ m=>by cases m),_,rfl⟩
 rw[VZ]at pe;have fA:=S2.MG hf.f.dv;refine⟨c,qs,s2,?_,F2,r2,fA,?_,λt mt G mG=>?_⟩
 .have a3:a_ ag [qI p, qL n, qL m, qn, qn] s=.ok (.loc c) s1:=by rw[de (vs:=[]) (s1:=s) rfl (by decide),e1,hc]
  unfold PM.jE;rw[bC (np:=3) (us:=[aj.int p,.loc n,.loc m]) rfl];show(ax (aJ 3 (a_ ag)) (ax (f? (gr bP) (aB 4) spB) (bU cT)) [qI p, qL n, qL m, qn, qn] s).fin=_;generalize spB=B' at ef⊢;generalize a_ ag=M1 at a3⊢;simp only[aq,aF,aS,bg,bJ,bK,gC,aP,ba,bf,eO,ej,aU,aK,Vp,Vr,a3,cY (ay (F1 _ _ hr.l)),ef]
 .rw[hf.e,<-pe,W9 (by rw[Vj,Vj];exact Vv _)]
 .rcases VP.mp mt with mt|mt
  .obtain⟨G',mG',x,e⟩:=S2.dv G mG;exact(hf.c t mt G' (List.mem_of_mem_take mG')).dvd e
  .rw[Vy.mp mt];exact cU G mG
structure Whl(p:Int)(A:_d)(Gs:List (_d)):Prop where
 f:CN p A Gs
 e:(ak A:ah p)=pW Gs
 i:∀G∈Gs,BC p G
theorem CZ(hp:dM p=true)(ln:s[n]?=some (aI A))(hA:dG p A)(sq:dc (ak A:ah p) (dP (ak A)))(hN:A.length=N+1)(n1:1<=N)(hl:N<=100):
  ∃c qs s',PM.fP [.int p,.loc n] s=.ok (.loc c) s'/\Fr s s'/\iZ s' c qs/\Whl p A (qs.map (·.2)):=by
 have hpr:=au hp;obtain⟨q,r,qs,rs,s1,b1,F1,_,_,_,_,R1,m1,M⟩:=tw hp ln hA hN n1 hl;obtain⟨s2,e2,F2,l2,_⟩:=aV (s:=s1) [.loc n];obtain⟨c3,cs,s3,b3,F3,R3,m3,v3,w3⟩:=qK (f:=0) hp (R1.mono F2) m1 (λq mq=>M.rr _ (V1 mq)) hl (We _);have C:=JX M m1 (We _) m3 v3 w3;obtain⟨a4,zs,D,Lw,ks,s4,b4,F4,_,R4,G,mz⟩:=Gh hp R3 v3 (by lia) (by lia);have W:=JU (ms:=cs.map (·.2)) (W:=N) λm mm=>by obtain⟨q,mq,rfl⟩:=VR.mp mm;exact(v3 q mq).l
 obtain⟨L,hL⟩:∃L:Int,L=(A.length:Int):=⟨_,rfl⟩
 have yc:=F1.trans (F2.trans F3);have Q9:=yc.trans F4;have kl:bc [.loc n] s3=.ok (.int L) s3:=by rw[aQ (ay (yc _ _ ln)),az,hL]
 rw[show((N:Nat):Int)=L-1 by lia]at b4;have b3':PM.b! [.int p,.loc r,.int 0] s2=.ok (.loc c3) s3:=b3;obtain⟨c2,Ai⟩:∃c2,c2=s1.length:=⟨_,rfl⟩
 rw[<-Ai]at l2;have hz:∀q∈zs,q.2.length<=1000/\∃z:ah p,(ak q.2:ah p) ^ p.toNat-ak q.2=ak A*z:=λq mq=>by
  have:q.2∈Lw.map (·.drop N):=by rw[<-mz];exact V1 mq
  obtain⟨R,mR,e⟩:=VR.mp this;have lR:=(G.iL R mR).l;rw[Vj]at lR;rw[<-e];exact⟨by rw[Xm];lia,Q7 hp C G W mR⟩
 obtain⟨μ',s5,ef,c,qs,F5,r5,f5,x4,rfl⟩:=eg (g:=λaH=>ar aH a4=some (zs.map bY)) (a:=aB 4) (body:=aJ 3 (ao PM.jE (aa bq (aa cT (aa ff ag))))) (λi μ s'=>∃c qs,Fr s4 s'/\iZ s' c qs/\Wf p A ((zs.take i).map λq=>ak q.2) (qs.map (·.2))/\∃x4,μ=[qI p, qL n, qL r, qL c, x4]) (zs.map bY) 0 [qI p, qL n, qL r, qL c2, qn] s4 (by
  rintro i u μ s' hu ⟨c,qs,F,rs,f,x4,rfl⟩;rw[VZ]at f⊢;rw[Vu]at hu;obtain⟨q,hq,rfl⟩:=Ws.mp hu;have mq:=V8 hq;obtain⟨lq,z,ez⟩:=hz q mq;obtain⟨c',pM,mW,b,F',r',f'⟩:=CY hp hA.row hA.ne (by lia) rs f (F _ _ (R4.r q mq)) lq ez;refine⟨ay (F _ _ R4.l),[qI p, qL n, qL r, qL c, qL q.1],rfl,[qI p, qL n, qL r, qL c', qL q.1],mW,.inl (by simp only[aq,aF,aC,aw,bK,aG,av,aA,bf,aO,aU,aK,Vp,Vr,b]),c',pM,F.trans F',r',?_,_,rfl⟩;rw[XD,hq,VS];exact f') (λ_ s'⟨_,_,F,_⟩=>ay (F _ _ R4.l)) ⟨c2,[(n,A)],Fr.refl _,⟨F4 _ _ (F3 _ _ l2),λq mq=>by rw[Vy.mp mq];exact Q9 _ _ ln⟩,⟨CN.self hA (by lia),by show ak A=ak A*1;grind,λ_ m=>by cases m⟩,_,rfl⟩
 rw[VZ,Vj,W9 (Vv _)]at f5;refine⟨c,qs,s5,?_,Q9.trans F5,r5,f5.f,f5.e,λH mH=>?_⟩
 .have a2:a_ (aa bP ag) [qI p, qL n, qL r, qn, qn] s1=.ok (.loc c2) s2:=by rw[de (rZ (v:=.loc n) (s1:=s1) rfl) (by show 1<=1000;decide),e2,Ai]
  unfold PM.fP;rw[bC (np:=2) (us:=[aj.int p,.loc n]) rfl];generalize aJ 3 (ao PM.jE (aa bq (aa cT (aa ff ag))))=B' at ef⊢;generalize a_ (aa bP ag)=M1 at a2⊢;simp only[aq,aF,aS,bg,aD,aM,aE,aC,aw,bJ,bK,gC,bN,aG,av,aA,aP,ba,bf,eO,ej,fi,aO,aU,aK,Vq,VQ,VI,Vx,VN,VC,Vp,Vr,Nat.reduceSub,b1,bD Bz,a2,b3',kl,b4,cY (ay R4.l),ef]
 .obtain⟨h,eh⟩:=f5.f.dv H mH;obtain⟨mH1,mH2⟩:=f5.f.mn H mH;rw[eh]at sq;obtain⟨q1,q2,_⟩:=SA.y? kZ sq;exact JJ hp mH1 mH2 q2 (JK hp eh q1 (Bj hp hA hN C G W eh λR mR=>by
   have:R.drop N∈zs.map (·.2):=by rw[mz];exact V1 mR
   obtain⟨q,mq,e⟩:=VR.mp this;have:=f5.c (ak q.2) (V1 mq) H mH;rw[e]at this;exact this))
end
abbrev Fa:=Cr×Int
def j'(f:Fa):aj:=.tup [.loc f.1.1,.int f.2]
structure JZ(s:af)(c:Nat)(fs:List Fa):Prop where
 l:s[c]?=some (.lst (fs.map j'))
 r:∀f∈fs,s[f.1.1]?=some (aI f.1.2)
theorem JZ.mono{s:af}{c:Nat}{fs:List Fa}(h:JZ s c fs)(F:Fr s s'):JZ s' c fs:=⟨F _ _ h.l,λq m=>F _ _ (h.r q m)⟩
theorem JZ.ne{s:af}{c:Nat}{fs:List Fa}(h:JZ s c fs)(hk:s[k]?=some (aI R))(nR:R≠[]):c≠k:=by
 rintro rfl;have:=h.l;rw[hk]at this;cases R with
 |nil=>exact nR rfl
 |cons x R=>
  cases fs with
  |nil=>cases this
  |cons q fs=>cases this
theorem JZ.put{s:af}{c:Nat}{fs gs:List Fa}(h:JZ s c fs)(hq:∀f∈gs,s[f.1.1]?=some (aI f.1.2))(n:∀f∈fs++gs,f.1.2≠[]):JZ (s.set c (.lst ((fs++gs).map j'))) c (fs++gs):=
 ⟨g6 h.l,λq m=>by
  have hr:s[q.1.1]?=some (aI q.1.2):=by
   rcases VP.mp m with m|m
   .exact h.r q m
   .exact hq q m
  exact gg hr (h.ne hr (n q m))⟩
section
variable{s:af}{A:_d}{M:jO}
def kyV(f:Fa):aj:=.tup [.int (f.1.2.length:Int),.loc f.1.1]
theorem Q?{fs:List Fa}(h:∀f∈fs,s[f.1.1]?=some (aI f.1.2))(ys:List aj):CJ PM.dq (fs.map j') ys s=.ok (ys++fs.map kyV) s:=by
 induction fs generalizing ys with
 |nil=>rw[VQ,VQ,Wi];rfl
 |cons f fs ih=>
  have l:=h f (Vz ..);obtain⟨L,hL⟩:∃L:Int,L=(f.1.2.length:Int):=⟨_,rfl⟩
  have kl:bc [.loc f.1.1] s=.ok (.int L) s:=by rw[aQ (ay l),az,hL]
  have e:PM.dq [some (.tup [.loc f.1.1,.int f.2])] s=.ok (.tup [.int L,.loc f.1.1]) s:=by simp only[PM.dq,aq,aD,aM,aE,aC,aw,jT,bN,aG,av,gY,aA,gf,Vl,VB,Nat.reduceAdd,Vt,Nat.reduceLeDiff,↓reduceIte,bD tX,kl]
  rw[Vq,Vq];unfold CJ;show(match PM.dq [some (.tup [.loc f.1.1,.int f.2])] s with
   |.ok y st1=>CJ PM.dq (fs.map j') (ys++[y]) st1
   |_=>.bad)=_
  rw[e];dsimp only;rw[ih (λg m=>h g (VH _ m)),V6];rw[hL];rfl
theorem MU{fs:List Fa}(h:∀f∈fs,s[f.1.1]?=some (aI f.1.2)):lI s (fs.map kyV)=some (fs.map λf=>(f.1.2.length:Int)::f.1.2):=by
 induction fs with
 |nil=>rfl
 |cons f fs ih=>
  have l:=h f (Vz ..);rw[Vq,Vq];show lI s (.tup [.int (f.1.2.length:Int),.loc f.1.1]::fs.map kyV)=_;unfold lI;rw[ay l];dsimp only;rw[IZ,ih (λg m=>h g (VH _ m))]
abbrev faB:MB:=fg (jN jc cT (aa (dI 1 [5] (gr (ao PM.fP (aa bq (aa ff ag)))) (aB 0) bI (gW (aa bq (aa bP ag)))) ag))
end
def oR(f:Fa):_d:=(f.1.2.length:Int)::f.1.2
def z_(fs:List Fa):List (Nat×List Int):=fs.map λf=>(f.2.toNat,f.1.2)
structure RP(p:Int)(A:_d)(fs:List Fa):Prop where
 MV:∀f∈fs,BC p f.1.2
 pos:∀f∈fs,1<=f.2
 cp:fs.Pairwise λa b=>dc (ak a.1.2:ah p) (ak b.1.2)
 eq:(ak A:ah p)=jC (z_ fs)
 up:fs.Pairwise λa b=>SO.lexLt (oR a) (oR b)=true
section
variable{A G S T V:_d}
theorem vM.dvB(h:vM p A B G S T U V):(ak A:ah p)=ak G*ak S/\(ak B:ah p)=ak G*ak T:=by
 have q:∀C Q:_d,aR p (cf C) (mF Q (cf G))->(ak C:ah p)=ak G*ak Q:=λC Q e=>by rw[bH];exact mk_eq (e.trans (aR.of_eq (aX _ _)).symm)
 exact⟨q A S h.cA,q B T h.cB⟩
theorem vM.abj(hp:2<=p)(h:vM p A B G S T U V)(c:dc (ak A:ah p) (ak B)):G=[1]:=by obtain⟨e1,e2⟩:=h.dvB;obtain⟨z,hz⟩:=SA.zd c e1 e2;exact nM hp ⟨h.rG,h.nG,h.lG⟩ hz
end
section
variable{N:Nat}{s:af}{A:_d}{M:jO}
theorem Ey(m:Nat):∀Gs:List (_d),(jC (Gs.map λG=>(m,G)):ah p)=pW Gs ^ m
 |[]=>(one_pow m).symm
 |G::Gs=>by show ak G ^ m*jC (Gs.map λG=>(m,G))=(ak G*pW Gs) ^ m;rw[Ey m Gs,SA.mul_pow]
theorem C0{c:Nat}{fs:List Fa}{μ:MN.Env}{m:ME}(hm:m μ s=.ok (.loc c) s)(h:JZ s c fs)(nd:(fs.map (·.1.2)).Nodup)(hl:fs.length<64)(hT:m? s M.own M.line M.col M.S.qual)(Jx:M.S.ps.length=1):∃(s':af)(Gy:List Fa),r? M PM.dq m μ s=.ok (.loc s.length) s'/\Fr s s'/\s'[s.length]?=some (.lst (Gy.map j'))/\Gy.Perm fs/\Gy.Pairwise λa b=>SO.lexLt (oR a) (oR b)=true:=by
 have ez:(fs.map j').zip (fs.map oR)=fs.map λf=>(j' f,oR f):=by rw[List.zip_map',]
 have ek:(fs.map oR).Nodup:=by
  have:fs.map oR=(fs.map (·.1.2)).map λR=>(R.length:Int)::R:=by rw[V5];rfl
  rw[this];exact Wb.mpr (nd.imp λh e=>h (WS e).2)
 have em:=List.map_mergeSort (r:=λa b=>CK (j' a,oR a) (j' b,oR b)) (s:=CK) (f:=λf=>(j' f,oR f)) (l:=fs) λ_ _ _ _=>rfl;obtain⟨Gy,UX⟩:∃Gy,Gy=fs.mergeSort λa b=>CK (j' a,oR a) (j' b,oR b):=⟨_,rfl⟩
 rw[<-UX]at em;have ri:=yi (l:=fs.map λf=>(j' f,oR f)) (by rw[V5];exact ek);rw[<-em,V5]at ri;refine⟨s++[.lst (Gy.map j')],Gy,?_,Fr.app _ _,bx _ _,by rw[UX];exact XX _ _,Wb.mp ri⟩;unfold r?;rw[hm];dsimp only[eZ.bind];rw[Vs ⟨hT,Jx⟩,ay h.l];dsimp only;rw[Vs (by rw[Vj];exact hl),Q? h.r,Vx];dsimp only[eZ.bind];unfold Jv;rw[MU h.r];dsimp only;rw[Vs (show(fs.map λf=>(f.1.2.length:Int)::f.1.2).Nodup from ek)];show eZ.ok (aj.loc s.length) (s++[a!.lst ((((fs.map j').zip (fs.map oR)).mergeSort CK).map (·.1))])=_;rw[ez,<-em,V5];rfl
theorem zH(hp:dM p=true)(ln:s[n]?=some (aI A))(hA:Row p A)(nA:A≠[])(hl:A.length<=60)(hT:m? s M.own M.line M.col M.S.qual)(Jx:M.S.ps.length=1):
  ∃c fs s',PM.qC M [.int p,.loc n] s=.ok (.tup [.int (aL A),.loc c]) s'/\Fr s s'/\JZ s' c fs/\∃t,(t*aL A) % p=1/\RP p (mulR p t A) fs:=by
 have hpr:=au hp;have bW:0<p:=by lia
 obtain⟨g0,b0⟩:=nE hp s;obtain⟨s0,GD⟩:∃s0,s0=s++g0:=⟨_,rfl⟩
 have F0:Fr s s0:=by rw[GD];exact Fr.app _ _
 rw[<-GD]at b0;obtain⟨s1,kl,es,b1,O⟩:=jZ hp (F0 _ _ ln) hA nA (by lia);obtain⟨t,ht,P⟩:=O.pr;obtain⟨rG,nG,lG,eG⟩:=qt (by lia) hA nA ht;obtain⟨A',hA'⟩:∃A',A'=mulR p t A:=⟨_,rfl⟩
 rw[<-hA']at P rG nG lG eG;obtain⟨s2,e2,F2,l2,_⟩:=aV (s:=s1) [];obtain⟨c,hc⟩:∃c,c=s1.length:=⟨_,rfl⟩
 rw[<-hc]at l2;have dvA:∀G∈es.map (·.2.2),∃x:ah p,ak A'=ak G*x:=λG mG=>by obtain⟨e,me,rfl⟩:=VR.mp mG;have mp:(e.1,e.2.2)∈BA es:=V1 me;obtain⟨x,hx⟩:=lx (p:=p) mp (P.p1 _ mp);exact⟨x,P.eq.trans hx⟩
 have cpA:(es.map (·.2.2)).Pairwise λa b=>dc (ak a:ah p) (ak b):=by have:=P.c2;unfold BA at this;rw[Wb]at this⊢;exact this
 have Mx:=O.fr.trans F2;obtain⟨μ',s3,ef,fs,F3,r3,S3,i3,p3,q3,x4,x5,rfl⟩:=eg (g:=λaH=>ar aH kl=some (es.map NU)) (a:=iN [aB 4,aB 5]) (body:=faB) (λi μ s'=>∃fs,Fr s1 s'/\JZ s' c fs/\JA p (es.map (·.2.2)) i (fs.map (·.1.2))/\(∀f∈fs,BC p f.1.2)/\(∀f∈fs,1<=f.2)/\(jC (z_ fs):ah p)=jC ((BA es).take i)/\∃x4 x5,μ=[qI p, qL n, some (.tup [.int (aL A),.loc kl]), qL c, x4, x5]) (es.map NU) 0 [qI p, qL n, some (.tup [.int (aL A),.loc kl]), qL c, qn, qn] s2 (by
  rintro i u μ s' hu ⟨fs,F,rs,S,i3,p3,q3,x4,x5,rfl⟩;rw[VZ]at S q3⊢;rw[Vu]at hu;obtain⟨e,he,rfl⟩:=Ws.mp hu;have me:=V8 he;have hG:(es.map (·.2.2))[i]?=some e.2.2:=by rw[Vu,he];rfl
  have mp:(e.1,e.2.2)∈BA es:=V1 me;obtain⟨mG,lG2⟩:=P.mn _ mp;have lE:=(P.bd bW rG nG mp).2;obtain⟨N,hN⟩:∃N,e.2.2.length=N+1:=⟨e.2.2.length-1,by show e.2.2.length=e.2.2.length-1+1;have:2<=e.2.2.length:=lG2;lia⟩
  have l2':2<=e.2.2.length:=lG2;have lE':e.2.2.length<=A'.length:=lE;obtain⟨cw,qs,mW,b,F',r',f'⟩:=CZ hp (F _ _ (O.re e me).2.2) mG (P.sq (e.1,e.2.2) mp) hN (by lia) (by lia);obtain⟨Y,hY⟩:∃Y:Int,Y=(e.1:Int):=⟨_,rfl⟩
  have UY:=oB (g:=λaH=>ar aH cw=some (qs.map bY)) (a:=aB 0) (e:=gW (aa bq (aa bP ag))) (st:=mW) (ay r'.l) (λτ=>∃z,τ=[z,some (.int Y)]) bY (λq=>j' (q,Y)) qs [none,some (.int Y)] [] ⟨_,rfl⟩ (by
   rintro q mq τ ⟨z,rfl⟩;exact⟨[some (.loc q.1),some (.int Y)],rfl,⟨_,rfl⟩,by simp only[aq,aC,aw,jT,aG,av,gY,aO,aU,aK,Vl,VB,Nat.reduceAdd,Vt,Nat.reduceLeDiff,↓reduceIte,j']⟩)
  obtain⟨gs,Ra⟩:∃gs:List Fa,gs=qs.map λq=>(q,Y):=⟨_,rfl⟩
  rw[Vx,show(qs.map λq=>j' (q,Y))=gs.map j' from by rw[Ra,V5];rfl]at UY;have gsr:gs.map (·.1.2)=qs.map (·.2):=by rw[Ra,V5];rfl
  have S':=S.put hG cpA f'.f;rw[<-gsr,<-VS]at S';have GF:=(S'.MG (A:=A') dvA).GF bW rG nG;rw[Vj,Vm]at GF;obtain⟨s4,e4,F4,l4,_⟩:=aV (s:=mW) (gs.map j');have zZ:=rs.mono (F'.trans F4);have a1:=JR zZ.l l4 (by rw[Vj,Vj];lia);rw[<-VS]at a1;have lq:qs.length=gs.length:=by rw[Ra,Vj]
  have ec:dI 1 [5] (gr (ao PM.fP (aa bq (aa ff ag)))) (aB 0) bI (gW (aa bq (aa bP ag))) [qI p, qL n, some (.tup [.int (aL A),.loc kl]), qL c, qL e.2.1, qI Y] s'=.ok (.loc mW.length) s4:=by
   have e0:ao PM.fP (aa bq (aa ff ag)) [qI p, qL n, some (.tup [.int (aL A),.loc kl]), qL c, qL e.2.1, qI Y] s'=.ok (.loc cw) mW:=by rw[g! (Ms (v:=.int p) (s1:=s') rfl (w:=.loc e.2.1) (s2:=s') rfl),b]
   rw[d6,ej,e0,aq,cY (ay r'.l),aq,fX,Vs (by rw[Vj,Vt];lia),show iS 1 [5] [qI p, qL n, some (.tup [.int (aL A),.loc kl]), qL c, qL e.2.1, qI Y]=[none,some (.int Y)]from rfl,UY,aq,ie,e4]
  have Q_:=rs.l;have p1:1<=e.1:=P.p1 _ mp;refine⟨ay (F _ _ O.lk),[qI p, qL n, some (.tup [.int (aL A),.loc kl]), qL c, qL e.2.1, qI Y],by rw[hY];rfl,[qI p, qL n, some (.tup [.int (aL A),.loc kl]), qL c, qL e.2.1, qI Y],s4.set c (.lst ((fs++gs).map j')),.inl ?_,fs++gs,(F.trans (F'.trans F4)).set (W' hc.symm) _,zZ.put (λf mf=>?_) (λx mx=>(S'.mn _ (V1 mx)).1.ne),S',λf mf=>?_,λf mf=>?_,?_,_,_,rfl⟩
  .unfold faB;generalize dI 1 [5] (gr (ao PM.fP (aa bq (aa ff ag)))) (aB 0) bI (gW (aa bq (aa bP ag)))=C at ec⊢;simp only[aq,aF,aC,aw,gK,aG,av,fM,aU,aK,nv,s_,qg Q_,ec,a1]
  .rw[Ra]at mf;obtain⟨q,mq,rfl⟩:=VR.mp mf;exact F4 _ _ (r'.r q mq)
  .rcases VP.mp mf with mf|mf
   .exact i3 f mf
   .rw[Ra]at mf;obtain⟨q,mq,rfl⟩:=VR.mp mf;exact f'.i q.2 (V1 mq)
  .rcases VP.mp mf with mf|mf
   .exact p3 f mf
   .rw[Ra]at mf;obtain⟨q,mq,rfl⟩:=VR.mp mf;show 1<=Y;lia
  .have h1:z_ (fs++gs)=z_ fs++(qs.map (·.2)).map λG=>(e.1,G):=by unfold z_;rw[VS,Ra,V5,V5];congr 1;refine Zf λq _=>?_;show(Y.toNat,q.2)=(e.1,q.2);rw[show Y.toNat=e.1 by lia]
   have h2:(BA es)[i]?=some (e.1,e.2.2):=by unfold BA;rw[Vu,he];rfl
   rw[h1,qz,Ey,q3,XD,h2,qz,<-f'.e];show _=_*(ak e.2.2 ^ e.1*1);generalize (ak e.2.2:ah p) ^ e.1=X
   grind) (λ_ s'⟨_,F,_⟩=>ay (F _ _ O.lk)) ⟨[],F2,⟨l2,λq m=>by cases m⟩,JA.nil,(λ_ m=>by cases m),(λ_ m=>by cases m),rfl,_,_,rfl⟩
 have fA:=S3.MG (A:=A') dvA;have GF:=fA.GF bW rG nG;rw[Vj]at GF;have yc:=F0.trans (O.fr.trans F3);have hT3:m? s3 M.own M.line M.col M.S.qual:=by obtain⟨j,hj⟩:=hT;exact⟨j,yc _ _ hj⟩
 obtain⟨s4,Gy,b4,F4,l4,pe,up⟩:=C0 (M:=M) (m:=cT) (μ:=[some (.int p),some (.loc n),some (.tup [.int (aL A),.loc kl]),some (.loc c),x4,x5]) rfl r3 (fA.nodup (by lia)) (by lia) hT3 Jx;rw[VZ,Vj,W9 (by unfold BA;rw[Vj];exact Vv _)]at q3;refine⟨s3.length,Gy,s4,?_,yc.trans F4,⟨l4,λf mf=>F4 _ _ (r3.r f (pe.mem_iff.mp mf))⟩,t,ht,λf mf=>i3 f (pe.mem_iff.mp mf),λf mf=>p3 f (pe.mem_iff.mp mf),(pe.pairwise_iff (R:=λa b:Fa=>dc (ak a.1.2:ah p) (ak b.1.2)) λ{x y}c=>dc.symm c).mpr ((Wb (f:=λf:Fa=>f.1.2) (R:=λa b=>dc (ak a:ah p) (ak b))).mp fA.cp),?_,up⟩
 .have a2:a_ ag [qI p, qL n, some (.tup [.int (aL A),.loc kl]), qn, qn, qn] s1=.ok (.loc c) s2:=by rw[de (vs:=[]) (s1:=s1) rfl (by decide),e2,hc]
  unfold PM.qC;rw[bC (np:=2) (us:=[aj.int p,.loc n]) rfl];show(ax _ (ax _ (ax (aJ 3 (a_ ag)) (ax (f? _ _ faB) _))) [qI p, qL n, qn, qn, qn, qn] s).fin=_;generalize faB=B' at ef⊢;generalize a_ ag=M1 at a2⊢;generalize r? M PM.dq cT=K at b4⊢;simp only[aq,aF,aS,bg,aD,aM,aE,aC,aw,jT,gK,bJ,bK,gC,bN,aG,av,gY,aA,aP,fM,ba,bf,eO,ej,aO,gf,aU,aK,Vp,Vr,Vl,VB,Nat.reduceAdd,Vt,Nat.reduceLeDiff,↓reduceIte,b0,b1,a2,bD Bz,bD tX,cY (ay (F2 _ _ O.lk)),ef,b4]
 .rw[<-hA',P.eq,<-q3];exact A8 (pe.symm.map _)
theorem wa(hp:dM p=true)(hA:dG p A){t:Int}(ht:(t*aL A) % p=1):mulR p t A=A:=by have hr:=au hp;refine lH (by lia) (qt (by lia) hA.row hA.ne ht).1 hA.row ?_;rw[hA.l1,W3]at ht;refine mk_eq λk=>((uJ (by lia) t A) k).trans ?_;have e:=Wc t p;rw[ht]at e;generalize t / p=u at e;exact⟨u*cf A k,by grind⟩
theorem C1(hp:dM p=true)(ln:s[n]?=some (aI A))(hA:Row p A)(nA:A≠[])(hl:A.length<=4000):
  ∃s' v,PM.gp [.int p,.loc n] s=.ok v s'/\Fr s s'/\((v=.dD/\¬ dc (ak A:ah p) (dP (ak A)))\/∃k4 k5,v=.tup [.loc k4,.loc k5]/\dc (ak A:ah p) (dP (ak A))):=by
 have hr:=au hp;have bW:0<p:=by lia
 obtain⟨L,hL⟩:∃L:Int,L=(A.length:Int):=⟨_,rfl⟩
 have kl:bc [.loc n] s=.ok (.int L) s:=by rw[aQ (ay ln),az,hL]
 have a0:0<A.length:=VA.mpr nA;have z:(L==0)=false:=by simp;lia
 obtain⟨g,kB,e0,_,lB⟩:=l_ (iu hp) (ay ln) (by lia);have lB:(s++g)[kB]?=some (aI (lh p A)):=lB;have bL:=pH (p:=p) A;obtain⟨s',k1,k2,k3,k4,k5,G,S,T,U,V,e1,F,ho,abk,nd,hk⟩:=QG hp (cP ln g) lB hA (pG bW A) (.inl nA) (by lia) (by lia);have lG:s'[k1]?=some (aI G):=abk.2 0 k1 G rfl rfl;obtain⟨N,hN⟩:∃N:Int,N=(G.length:Int):=⟨_,rfl⟩
 have kg:bc [.loc k1] s'=.ok (.int N) s':=by rw[aQ (ay lG),az,hN]
 have FF:Fr s s':=(Fr.app s g).trans F;rw[<-r_ bW A];cases q:(N==1) with
 |true=>
  have q2:N=1:=by simpa using q
  have hG:=rF ⟨ho.rG,ho.nG,ho.lG⟩ (by lia);subst hG;have c:=ho.cG;exact⟨s',.tup [.loc k4,.loc k5],by simp only[PM.gp,bC,aq,aF,aS,bg,aD,aM,aE,qd,aC,aw,jT,bJ,d8,bK,bN,bo,bh,o?,aG,av,gY,aA,aP,cQ,ba,b9,bf,ig,aO,gf,aU,aK,Vq,VQ,VI,Vx,VN,VC,Vp,Vr,Nat.reduceSub,Vl,VB,Nat.reduceAdd,Vt,Nat.reduceLeDiff,↓reduceIte,kl,z,e0,e1,bD tX,bD at3,bD at4,kg,q],FF,.inr ⟨k4,k5,rfl,ak U,ak V,(mk_eq (c.trans (aR.of_eq λk=>by rw[b?,aX,aX]))).symm⟩⟩
 |false=>
  refine⟨s',.dD,by simp only[PM.gp,bC,aq,aF,aS,bg,aD,aM,aE,qe,aC,aw,bJ,d8,bK,bN,bo,bh,o?,aG,av,aA,aP,cQ,ba,b9,bf,ig,aO,gf,aU,aK,Vq,VQ,VI,Vx,VN,VC,Vp,Vr,Nat.reduceSub,Vl,VB,Nat.reduceAdd,kl,z,e0,e1,bD tX,kg,q],FF,.inl ⟨rfl,λc=>?_⟩⟩;have:=ho.abj hr.1 c;rw[hN,this]at q;cases q
theorem MW(hp:dM p=true)(h:BC p A)(hl:A.length<=120):dc (ak A:ah p) (dP (ak A)):=by
 have hr:=au hp;have bW:0<p:=by lia
 obtain⟨_,_,es,_,O⟩:=jZ (st:=[aI A]) (n:=0) hp rfl h.mn.row h.mn.ne hl;obtain⟨t,ht,P⟩:=O.pr;rw[wa hp h.mn ht]at P;cases e:BA es with
 |nil=>rw[e]at P;exact(h.no1 (by lia) (x:=1) (by rw[P.eq];show(1:ah p)=1*1;grind)).elim
 |cons q l=>
  rw[e]at P;obtain⟨x,hx⟩:=lx (p:=p) (ps:=q::l) Vz (P.p1 q Vz);obtain⟨mq,l2⟩:=P.mn q Vz;obtain⟨Q,hQ,eQ,_⟩:=jh bW h.mn mq (P.eq.trans hx);rcases h.ir q.2 Q mq hQ (by rw[<-eQ,P.eq,hx])with z|z
  .rw[z]at l2;exact absurd l2 (by decide)
  .have:A=q.2:=lH bW h.mn.row mq.row (by rw[P.eq,hx,eQ,z,q_];grind);rw[this];exact P.sq q Vz
theorem zI(hp:dM p=true)(ln:s[n]?=some (aI A))(hA:dG p A)(h2:2<=A.length)(hl:A.length<=100):∃u s',PM.lJ [.int p,.loc n] s=.ok u s'/\Fr s s'/\((u=.dD/\¬ BC p A)\/((∃a b c d e,u=.tup [.loc a,.loc b,.loc c,.loc d,.loc e])/\BC p A)):=by
 obtain⟨g,e⟩:=nE hp s;obtain⟨s0,GD⟩:∃s0,s0=s++g:=⟨_,rfl⟩
 have F0:Fr s s0:=by rw[GD];exact Fr.app _ _
 rw[<-GD]at e;obtain⟨L,hL⟩:∃L:Int,L=(A.length:Int):=⟨_,rfl⟩
 have ka:∀{s'},Fr s s'->bc [.loc n] s'=.ok (.int L) s':=λF=>by rw[aQ (ay (F _ _ ln)),az,hL]
 have z:decide (L<2)=false:=V2 (by lia);have gx:=cO (ay (F0 _ _ ln)) (oC hA.ne);have q:(aL A==1)=true:=by rw[hA.l1];rfl
 obtain⟨s1,v,b1,F1,hv⟩:=C1 hp (F0 _ _ ln) hA.row hA.ne (by lia);have F01:=F0.trans F1;rcases hv with⟨rfl,nc⟩|⟨a,b,rfl,sq⟩
 .have i1:LC false .dD .dD s1=.ok (.bl true) s1:=rfl;exact⟨.dD,s1,by simp only[PM.lJ,bC,aq,aF,aS,nh,bg,aD,aM,aE,jd,aC,aw,gK,bJ,iV,d8,bK,bN,bo,bh,jr,aG,av,aA,fR,iU,aP,cQ,fM,ba,b9,bf,js,sZ,aO,aU,Nw,aK,Vq,VQ,VI,Vx,VN,VC,Vp,Vr,Nat.reduceSub,Vl,VB,Nat.reduceAdd,XM,e,ka F0,z,gx,q,b1,i1],F01,.inl ⟨rfl,λh=>nc (MW hp h (by lia))⟩⟩
 .have i1:LC false (.tup [.loc a,.loc b]) .dD s1=.ok (.bl false) s1:=rfl;obtain⟨N,hN⟩:∃N,A.length=N+1:=⟨A.length-1,by lia⟩
  obtain⟨pq,pr,qs,rs,s2,b2,F2,_,_,_,_,R2,m2,M⟩:=tw hp (F01 _ _ ln) hA hN (by lia) (by lia);obtain⟨c3,cs,s3,b3,F3,R3,m3,v3,w3⟩:=qK (f:=1) hp R2 m2 (λq mq=>M.rr _ (V1 mq)) (by lia) (by lia);have C:=JX M m2 (by lia) m3 v3 w3;obtain⟨u,D,Lw,ks,s4,b4,F4,G,hu⟩:=CW hp R3 v3 (by lia) (by lia);have W:=JU (ms:=cs.map (·.2)) (W:=N) λm mm=>by obtain⟨q,mq,rfl⟩:=VR.mp mm;exact(v3 q mq).l
  have yc:=F01.trans (F2.trans F3);rw[show((N:Nat):Int)=L-1 by lia]at b4;have b3':PM.b! [.int p,.loc pr,.int 1] s2=.ok (.loc c3) s3:=b3;rcases hu with⟨rfl,ne⟩|⟨⟨t,rfl⟩,rfl⟩
  .have i4:LC false .dD .dD s4=.ok (.bl true) s4:=rfl;obtain⟨R,hR⟩:=List.exists_mem_of_ne_nil _ ne;exact⟨.dD,s4,by simp only[PM.lJ,bC,aq,aF,aS,bg,aD,aM,aE,jd,qd,aC,aw,gK,bJ,d8,bK,bN,bo,bh,jr,o?,aG,av,aA,fR,iU,aP,cQ,fM,ba,b9,bf,fi,js,sZ,aO,gf,aU,Nw,aK,Vq,VQ,VI,Vx,VN,VC,Vp,Vr,Nat.reduceSub,Vl,VB,Nat.reduceAdd,XM,e,ka F0,z,gx,q,b1,i1,b2,bD Bz,b3',ka yc,b4,i4],yc.trans F4,.inl ⟨rfl,Gf hp hA hN (by lia) C G W hR⟩⟩
  .have i4:LC false (.loc t) .dD s4=.ok (.bl false) s4:=rfl;exact⟨.tup [.loc a,.loc b,.loc pq,.loc pr,.loc t],s4,by simp only[PM.lJ,bC,aq,aF,aS,bg,aD,aM,aE,jd,qe,aC,aw,jT,gK,bJ,d8,bK,bN,bo,bh,jr,o?,aG,av,gY,aA,fR,iU,aP,cQ,fM,ba,b9,bf,fi,js,sZ,aO,gf,aU,aK,Vq,VQ,VI,Vx,VN,VC,Vp,Vr,Nat.reduceSub,Vl,VB,Nat.reduceAdd,XM,Vt,Nat.reduceLeDiff,↓reduceIte,e,ka F0,z,gx,q,b1,i1,b2,bD Bz,bD tX,b3',ka yc,b4,i4],yc.trans F4,.inr ⟨⟨_,_,_,_,_,rfl⟩,Ge hp hA hN (by lia) sq C G W⟩⟩
end
end PG
variable {fs:List PG.Fa}
namespace PM
open PySem.Spec L2 MN
open PyProof.Rows hiding St
def jH:FN:=ij 3 9 (ax (aJ 3 (ao rm (aa bP ag))) (ax (aJ 4 (a_ ag)) (ax (cm (f9 (ai geV (ao bc (aa cT ag)) (ao bc (aa dz ag)))) (ax (aJ 5 (ai bS cT (ja cH))) (ax (aJ 4 (ai cS (a_ (aa iP ag)) ff)) (ax (aJ 6 (ai gJ (ao bc (aa cT ag)) (ao bc (aa dz ag)))) (ax (f? (e_ (aa (ao bc (aa dz ag)) ag)) (aB 7) (ax (aJ 8 (ai bX iP (ai bS dz oY))) (o! cT (ai cS jL oY) (ai f_ (ai gJ (ai bS cT (ai cS jL oY)) zY) bq)))) (fg (Cj yO cT))))))) (bU (gW (aa ff (aa cT ag)))))))
def fB:FN:=ij 2 7 (ax (aJ 2 (a_ (aa (a_ ag) ag))) (ax (f? (e_ (aa bP ag)) (aB 3) (ax (aJ 4 (a_ ag)) (ax (f? (gr dz) (aB 5) (f? (e_ (aa bq ag)) (aB 6) (fg (jN dF ff (aa (ai cS iP (a_ (aa jL ag))) ag))))) (aJ 2 ff)))) (bU (dI 1 [] (gr dz) (aB 0) bI (ai cS bq (a_ (aa cH ag)))))))
def eI:FN:=ij 3 3 (bU (B6 (ai leV (ao bc (aa bP ag)) (ao bc (aa dz ag))) (ai oZ (ao PM.oz (aa (ai bS (ao PM.jH (aa bq (aa dz (aa bP ag)))) cH) ag)) (a_ ag))))
def kz:FN:=ij 2 4 (ax (f? (jb (aa cH (aa (ai cS (ai p? (ai gJ (ao bc (aa bP ag)) cH) Kf) cH) ag))) (aB 2) (f? (gr (ao PM.fB (aa bq (aa dz ag)))) (aB 3) (sU (f9 (ao PM.eI (aa bq (aa cT (aa bP ag))))) (bU cT) fF))) (bU bP))
def tD(M:jO):MB:=(bU (B6 (ai oZ (ai bS (ai bS (ai bS jL cH) dE) cH) oY) (ai oZ (ai oZ (ao bc (aa zY ag)) cH) (ai oZ (ao bc (aa (ai bS jL cH) ag)) cH))))
def tF(M:jO):MB:=(ax (cm (f9 (ao PM.eI (aa bP (aa ff (aa zY ag))))) (ax (aJ 8 (ai bS (ao PM.jH (aa bP (aa zY (aa ff ag)))) dE)) (aJ 7 (ai cS oY cH)))) (PM.tD M))
def wb(M:jO):MB:=(ax (aJ 8 (ao rm (aa cT ag))) (PM.tF M))
def wd(M:jO):MB:=(ax (aJ 7 dE) (PM.wb M))
def we(M:jO):MB:=(ax (sU (Ax (f9 (ai yJ (ai (LC false) iP (mC .dD)) (ai ltV (ao bc (aa ff ag)) (ao bc (aa cT ag))))) (Ax (f9 (ai yJ (ai bS jL dE) cH)) (f9 (ai yJ (ai bS (ai bS (ai bS jL cH) dE) dE) ff)))) (bU (mC (.bl false))) fF) (PM.wd M))
def wg(M:jO):MB:=(ax (aJ 6 (ao (PM.qC M) (aa bP (aa (ao rm (aa cT ag)) ag)))) (PM.we M))
def wj(M:jO):MB:=(ax (aJ 5 (ao PM.lJ (aa bP (aa (ao rm (aa cT ag)) ag)))) (PM.wg M))
def lM(M:jO):MB:=(ax (aJ 4 (ao PM.kz (aa bP (aa cT ag)))) (PM.wj M))
def wk(M:jO):MB:=(ax (aJ 3 (ai cS (ai cS cT (ai bX (a_ (aa dE ag)) (ai gJ dz (ao bc (aa cT ag))))) (a_ (aa cH ag)))) (PM.lM M))
def wm(M:jO):MB:=(ax (aJ 3 (ao PM.kq (aa bP (aa (ao PM.bO (aa bq (aa Kf ag))) (aa dz ag))))) (PM.wk M))
def wq(M:jO):MB:=(ax (aJ 2 (ai cS cH (ai f_ (ao PM.bO (aa bq (aa cH ag))) (ai bS (a_ (aa (mC (.int 6)) (aa Ll (aa Ll (aa Pq ag))))) (ai f_ (ao PM.bO (aa bq (aa dE ag))) Ll))))) (PM.wm M))
def qM(M:jO):FN:=ij 1 9 (ax (aJ 1 (ai bS (a_ (aa Kf (aa Pq (aa (mC (.int 5)) (aa (mC (.int 7)) ag))))) (ai f_ (ao PM.bO (aa bq (aa dE ag))) Ll))) (PM.wq M))
end PM
namespace zJ
open PySem.Spec L2 MN PG
open PyProof.Rows hiding St kindOf
theorem yY{l:_d}{j:Nat}(h:j<l.length)(x:Int)(k:Nat):cf (l.set j x) k=if k=j then x else cf l k:=by
 unfold cf;rw[VD,VD,List.getElem?_set];by_cases e:j=k
 .rw[Vs e,Vs e.symm,Vs (by lia)];rfl
 .rw[VE e,VE (W5 e)]
section
variable{s:af}{A:_d}
abbrev rsB:MB:=ax (aJ 8 (ai bX iP (ai bS dz oY))) (o! cT (ai cS jL oY) (ai f_ (ai gJ (ai bS cT (ai cS jL oY)) zY) bq))
abbrev UZ:MB:=ax (aJ 5 (ai bS cT (ja cH))) (ax (aJ 4 (ai cS (a_ (aa iP ag)) ff)) (ax (aJ 6 (ai gJ (ao bc (aa cT ag)) (ao bc (aa dz ag)))) (ax (f? (e_ (aa (ao bc (aa dz ag)) ag)) (aB 7) rsB) (fg (Cj yO cT)))))
abbrev rsT:MT:=f9 (ai geV (ao bc (aa cT ag)) (ao bc (aa dz ag)))
structure RtI(p:Int)(A B:_d)(n m:Nat)(s:af)(L:Nat)(μ:MN.Env)(s':af)(k:Nat)(l T:_d):Prop where
 env:∃x5 x6 x7 x8,μ=[qI p, qL n, qL m, qL L, qL k, x5, x6, x7, x8]
 fr:Fr s s'
 ll:s'[L]?=some (aI l)
 lk:s'[k]?=some (aI T)
 il:kf p l.length l
 iT:kf p T.length T
 ct:l.length+T.length=A.length
 b:B.length<=l.length+1
 e:(ak A:ah p)=ak B*(Xp ^ (l.length+1-B.length)*ak T)+ak l
theorem Gi(hp:0<p){l l2:_d}{c v:Int}{oD:Nat}(hl:l.length=oD+B.length)(h2:(l2++[v]).length=l.length)(hv:v=0)(h:∀k,cf (l2++[v]) k=if oD<=k/\k<oD+B.length then(cf l k-c*cf B (k-oD)).fmod p else cf l k):(ak l:ah p)=ak B*(ak [c]*Xp ^ oD)+ak l2:=by
 have e1:(ak (List.replicate oD 0++B.map (c * ·)):ah p)=ak B*(ak [c]*Xp ^ oD):=by
  have:(ak (B.map (c * ·)):ah p)=ak [c]*ak B:=eY λk=>by rw[g9,aX,ph]
  rw[nL,this];generalize (Xp:ah p) ^ oD=X
  grind
 have e2:(ak l2:ah p)=ak (l2++[v]):=by
  rw[El,hv,FY];generalize (Xp:ah p) ^ l2.length=X
  grind
 rw[<-e1,e2,pE];refine mk_eq λk=>?_;rw[b?,CD,h];by_cases q:k<oD
 .rw[Vs q,VE (by lia)];exact⟨0,by lia⟩
 .rw[VE q,g9];by_cases q2:k<oD+B.length
  .rw[Vs ⟨by lia,q2⟩];obtain⟨x,hx⟩:=Cg.mod hp (cf l k-c*cf B (k-oD));exact⟨-x,by rw[hx];grind⟩
  .rw[VE (by lia),c! (ns:=B) (by lia)];exact⟨0,by grind⟩
theorem Gj(hp:dM p=true)(lB:s[m]?=some (aI B))(hB:dG p B)(hb:B.length<=1000)(hA:A.length<=1000){L:Nat}(fL:s.length<=L){μ:MN.Env}{l T:_d}(h:RtI p A B n m s L μ s' k l T)(hl:B.length<=l.length):
  ∃μ' mW k' l' T',UZ μ s'=.nx μ' mW/\RtI p A B n m s L μ' mW k' l' T'/\l'.length<l.length:=by
 have hr:=au hp;have bW:0<p:=by lia
 obtain⟨x5,x6,x7,x8,rfl⟩:=h.env;have b0:=VA.mpr hB.ne;have ct:=h.ct;have nl:l≠[]:=λz=>by rw[z,VB]at hl;lia
 have g1:=cO (ay h.ll) (oC nl);obtain⟨c,hc⟩:∃c,c=aL l:=⟨_,rfl⟩
 have rc:0<=c/\c<p:=by rw[hc];exact h.il.vH bW (l.length-1)
 rw[<-hc]at g1;have nLm:L≠m:=λz=>by have:=bF lB;lia
 obtain⟨s1,e1,F1,l1,_⟩:=aV (s:=s') [.int c];have a2:=ju l1 (F1 _ _ h.lk) (by rw[VO,az,Vt];lia);obtain⟨s2,e2,F2,l2,_⟩:=aV (s:=s1) ((c::T).map aj.int);rw[show[aj.int c]++T.map aj.int=(c::T).map aj.int from rfl,<-e2]at a2;obtain⟨k',RH⟩:∃k',k'=s1.length:=⟨_,rfl⟩
 rw[<-RH]at a2 l2;have tu:=F1.trans F2;have LT:=bF h.ll;have f1:=F1.len;have nLk:L≠k':=by lia
 obtain⟨NL,hNL⟩:∃NL:Int,NL=(l.length:Int):=⟨_,rfl⟩
 obtain⟨NB,hNB⟩:∃NB:Int,NB=(B.length:Int):=⟨_,rfl⟩
 obtain⟨oD,abl⟩:∃oD,l.length=oD+B.length:=⟨l.length-B.length,by lia⟩
 have kl:bc [.loc L] s2=.ok (.int NL) s2:=by rw[aQ (ay (tu _ _ h.ll)),az,hNL]
 have kb:bc [.loc m] s2=.ok (.int NB) s2:=by rw[aQ (ay (tu _ _ (h.fr _ _ lB))),az,hNB]
 obtain⟨μ',s3,ef,l',q1,q2,q3,q4,q5,x7',x8',rfl⟩:=qG (a:=aB 7) (body:=rsB) (λi μ st=>∃l':_d,(Fr s st/\st[k']?=some (aI (c::T)))/\st[L]?=some (aI l')/\l'.length=l.length/\(∀x∈l',0<=x/\x<p)/\(∀k,cf l' k=if oD<=k/\k<oD+i then(cf l k-c*cf B (k-oD)).fmod p else cf l k)/\∃x7 x8,μ=[qI p, qL n, qL m, qL L, qL k', qI c, qI (NL-NB), x7, x8]) B.length [qI p, qL n, qL m, qL L, qL k', qI c, qI (NL-NB), x7, x8] s2 (by
  rintro i μ st hi ⟨l',⟨F,lk⟩,ll,ln,lr,lc,x7,x8,rfl⟩;obtain⟨I,hI⟩:∃I:Int,I=(i:Int):=⟨_,rfl⟩
  rw[<-hI];have b1:=cO (ay (F _ _ lB)) (iF (R:=B) (i:=I) hI (by lia));have b2:=cO (ay ll) (iF (R:=l') (i:=NL-NB+I) (k:=oD+i) (by lia) (by lia));obtain⟨bi,hbi⟩:∃b,b=cf B i:=⟨_,rfl⟩
  obtain⟨li,hli⟩:∃b,b=cf l' (oD+i):=⟨_,rfl⟩
  rw[show B.getD i 0=bi from hbi.symm]at b1;rw[show l'.getD (oD+i) 0=li from hli.symm]at b2;have b3:=qh (v:=.int ((li-c*bi).fmod p)) (k:=NL-NB+I) (j:=oD+i) ll (by rw[az,show NL-NB+I=((oD+i:Nat):Int) by lia];exact qp (by lia));rw[<-ZF]at b3;refine⟨[some (.int p),some (.loc n),some (.loc m),some (.loc L),some (.loc k'),some (.int c),some (.int (NL-NB)),some (.int I),x8],rfl,[qI p, qL n, qL m, qL L, qL k', qI c, qI (NL-NB), qI I, qI (c*bi)],st.set L (aI (l'.set (oD+i) ((li-c*bi).fmod p))),?_,l'.set (oD+i) ((li-c*bi).fmod p),⟨F.set fL _,gg lk nLk⟩,g6 ll,by rw[Wt,ln],λx mx=>?_,λk=>?_,_,_,rfl⟩
  .simp only[aq,aF,aS,aD,aM,aE,bK,aP,bf,gZ,fi,aO,aU,aK,Vp,Vr,yR,Ql,Ik,Il,ny,b1,jV (i:=c) (by lia) (by lia),b2,fY (iu hp),b3]
  .rcases List.mem_or_eq_of_mem_set mx with mx|rfl
   .exact lr x mx
   .exact qD bW _
  .rw[yY (by lia)];by_cases z:k=oD+i
   .rw[Vs z,Vs (by lia),hli,lc,VE (by lia),hbi,z,Zj]
   .rw[VE z,lc];by_cases z2:oD<=k/\k<oD+i
    .rw[Vs z2,Vs (by lia)]
    .rw[VE z2,VE (by lia)]) ⟨l,⟨h.fr.trans tu,l2⟩,tu _ _ h.ll,rfl,h.il.r,(λk=>by rw[VE (by lia)]),_,_,rfl⟩
 obtain⟨l3,v,hd⟩:=(XA l').resolve_left (λz=>by rw[z,VB]at q3;lia);rw[XC]at hd;subst hd;have l3l:l3.length+1=l.length:=by rw[<-q3,Vm];rfl
 have hv:v=0:=by have:=q5 (l.length-1);rw[Vs (by lia),show cf l (l.length-1)=c from hc.symm,show l.length-1-oD=B.length-1 by lia,show cf B (B.length-1)=1 from hB.l1,W3,Int.sub_self,v9,show l.length-1=l3.length+0 by lia,v!]at this;exact this
 have ep:=Gi bW abl q3 hv q5;have q2':s3[L]?=some (.lst (l3.map aj.int++[.int v])):=by rw[q2];show some (a!.lst ((l3++[v]).map aj.int))=_;rw[VS];rfl
 have pp:=Ij q2';refine⟨[some (.int p),some (.loc n),some (.loc m),some (.loc L),some (.loc k'),some (.int c),some (.int (NL-NB)),x7',x8'],s3.set L (aI l3),k',l3,c::T,?_,⟨⟨_,_,_,_,rfl⟩,q1.1.set fL _,g6 q2,gg q1.2 nLk,⟨rfl,λx mx=>q4 x (Wd _ mx)⟩,⟨rfl,λx mx=>?_⟩,by rw[Vl];lia,by lia,?_⟩,by lia⟩
 .have d1:a_ (aa iP ag) [qI p, qL n, qL m, qL L, qL k, qI c, x6, x7, x8] s'=.ok (.loc s'.length) s1:=by rw[de (rZ (v:=.int c) (s1:=s') rfl) (by show 1<=1000;decide),e1]
  unfold UZ;generalize rsB=B' at ef⊢;generalize a_ (aa iP ag)=M at d1⊢;simp only[aq,aF,aS,aD,aM,aE,aC,aw,gK,bK,gC,bN,aG,av,aA,fR,iU,aP,fM,bf,eO,jU,fi,aU,aK,Vp,Vr,Ii,g1,d1,a2,kl,kb,CM hNB (by lia),ef,Ny q2,pp]
 .rcases V_.mp mx with rfl|mx
  .exact rc
  .exact h.iT.r x mx
 .rw[h.e,ep,g? c T,show l3.length+1-B.length=oD by lia,show l.length+1-B.length=oD+1 by lia,k?];generalize (Xp:ah p) ^ oD=X
  grind
theorem J0(hp:dM p=true)(lA:s[n]?=some (aI A))(lB:s[m]?=some (aI B))(iA:kf p A.length A)(hB:dG p B)(hb:B.length<=1000)(hA:A.length<=1000)(hl:B.length<=A.length):
  ∃s' k1 k2 T l,PM.jH [.int p,.loc n,.loc m] s=.ok (.tup [.loc k1,.loc k2]) s'/\Fr s s'/\s'[k1]?=some (aI T)/\s'[k2]?=some (aI l)/\kf p T.length T/\kf p l.length l/\T.length+B.length=A.length+1/\l.length+1=B.length/\(ak A:ah p)=ak B*ak T+ak l:=by
 have b0:=VA.mpr hB.ne;have c1:=kW (ay lA);obtain⟨s1,e1,F1,l1,_⟩:=aV (s:=s) (A.map aj.int);rw[<-e1]at c1;obtain⟨s2,e2,F2,l2,_⟩:=aV (s:=s1) [];obtain⟨L,hL⟩:∃L,L=s.length:=⟨_,rfl⟩
 rw[<-hL]at c1 l1;obtain⟨μ',s',ew,k,l,T,H,sR⟩:=fK (t:=rsT) (body:=UZ) (λμ st=>∃k l T,RtI p A B n m s L μ st k l T) (λ_ st=>fT L st) (λμ st=>∃k l T,RtI p A B n m s L μ st k l T/\l.length<B.length) (by
  rintro μ st ⟨k,l,T,h⟩;obtain⟨x5,x6,x7,x8,rfl⟩:=id h.env;have xY:rsT [qI p, qL n, qL m, qL L, qL k, x5, x6, x7, x8] st=.ok (decide ((B.length:Int)<=(l.length:Int))) st:=by refine vS ?_;rw[iw (x:=.int (l.length:Int)) (s1:=st) (by rw[g! (rZ (v:=.loc L) (s1:=st) rfl),aQ (ay h.ll),az]) (y:=.int (B.length:Int)) (s2:=st) (by rw[g! (rZ (v:=.loc m) (s1:=st) rfl),aQ (ay (h.fr _ _ lB)),az])];rfl
  by_cases q:B.length<=l.length
  .obtain⟨μ',mW,k',l',T',e,H,lt⟩:=Gj hp lB hB hb hA (W' hL.symm) h q;exact .inr ⟨st,μ',mW,by rw[xY,V7 (by lia)],.inl e,⟨k',l',T',H⟩,by rw[fW H.ll,fW h.ll];exact lt⟩
  .exact .inl ⟨st,by rw[xY,V2 (by lia)],k,l,T,h,by lia⟩) [qI p, qL n, qL m, qL L, qL s1.length, qn, qn, qn, qn] s2 ⟨s1.length,A,[],⟨⟨_,_,_,_,rfl⟩,F1.trans F2,F2 _ _ l1,l2,iA,⟨rfl,λ_ m=>by cases m⟩,rfl,by lia,by rw[xj];generalize (Xp:ah p) ^ (A.length+1-B.length)=X;grind⟩⟩
 obtain⟨x5,x6,x7,x8,rfl⟩:=H.env;have hb1:=H.b;have ct:=H.ct;refine⟨s',k,L,T,l,?_,H.fr,H.lk,H.ll,H.iT,H.il,by lia,by lia,?_⟩
 .have d2:a_ ag [qI p, qL n, qL m, qL L, qn, qn, qn, qn, qn] s1=.ok (.loc s1.length) s2:=by rw[de (vs:=[]) (s1:=s1) rfl (by decide),e2]
  unfold PM.jH;rw[bC (np:=3) (us:=[aj.int p,.loc n,.loc m]) rfl];show(ax _ (ax (aJ 4 (a_ ag)) (ax (cm rsT UZ) _)) [qI p, qL n, qL m, qn, qn, qn, qn, qn, qn] s).fin=_;generalize hW:cm rsT UZ=W at ew⊢;generalize a_ ag=M at d2⊢;simp only[aq,aF,aS,bg,aC,aw,jT,bJ,bK,aG,av,gY,aA,aP,ba,bf,aU,aK,Vp,Vr,Vl,VB,Nat.reduceAdd,Vt,Nat.reduceLeDiff,↓reduceIte,c1,d2,ew]
 .rw[H.e,show l.length+1-B.length=0 by lia,tq];grind
end
section
variable{s:af}{A:_d}
def Dv(p:Int)(B A:_d):Prop:=∃x:ah p,ak A=ak B*x
theorem J5{p:Int}{A:_d}(h:dG p A):kf p A.length A:=⟨rfl,h.row.ED⟩
theorem J6(l:_d):(ak (bT l):ah p)=ak l:=eY λk=>yX l k
theorem Rb{l:_d}(h:kf p l.length l):Row p (bT l):=⟨uG l,yT (P:=λa=>0<=a/\a<p) h.r⟩
theorem wt(hp:dM p=true)(lA:s[n]?=some (aI A))(lB:s[m]?=some (aI B))(hA:dG p A)(hB:dG p B)(hb:B.length<=1000)(ha:A.length<=1000):
  ∃b s',PM.eI [.int p,.loc m,.loc n] s=.ok (.bl b) s'/\Fr s s'/\(b=true↔Dv p B A):=by
 have hr:=au hp;have bW:0<p:=by lia
 obtain⟨NA,U0⟩:∃NA:Int,NA=(A.length:Int):=⟨_,rfl⟩
 obtain⟨NB,hNB⟩:∃NB:Int,NB=(B.length:Int):=⟨_,rfl⟩
 have ka:bc [.loc n] s=.ok (.int NA) s:=by rw[aQ (ay lA),az,U0]
 have kb:bc [.loc m] s=.ok (.int NB) s:=by rw[aQ (ay lB),az,hNB]
 by_cases hl:B.length<=A.length
 .have z:decide (NB<=NA)=true:=V7 (by lia);obtain⟨s1,k1,k2,T,l,e,F,l1,l2,iT,il,lT,ll,eq⟩:=J0 hp lA lB (J5 hA) hB hb ha hl;have c1:=vI (ay l2);obtain⟨s2,e2,F2,l3,_⟩:=aV (s:=s1) ((bT l).map aj.int);rw[<-e2]at c1;obtain⟨s3,e3,F3,l4,_⟩:=aV (s:=s2) [];have q:=eq_nil (ay (F3 _ _ l3)) (ay l4);refine⟨((bT l).map aj.int).isEmpty,s3,?_,F.trans (F2.trans F3),?_⟩
  .have d:a_ ag [qI p, qL m, qL n] s2=.ok (.loc s2.length) s3:=by rw[de (vs:=[]) (s1:=s2) rfl (by decide),e3]
   unfold PM.eI;generalize a_ ag=M at d⊢;simp only[bC,aq,aF,bg,aD,aM,aE,uC,aC,aw,bJ,bN,vq,aG,av,aA,ba,Nx,aO,aU,aK,Vq,VQ,VI,Vx,VC,Nat.reduceSub,Vl,VB,Nat.reduceAdd,ka,kb,z,e,bD Bz,c1,d,q]
  .rw[List.isEmpty_iff,List.map_eq_nil_iff];constructor
   .intro h;have e0:(ak l:ah p)=0:=by rw[<-J6,h,xj]
    exact⟨ak T,by rw[eq,e0];grind⟩
   .rintro⟨x,hx⟩;have e0:=jF bW hB (l:=l) (x:=x-ak T) (by lia) (by rw[hx]at eq;grind);exact lH bW (Rb il) (Row.nil p) (by rw[J6,e0,xj])
 .have z:decide (NB<=NA)=false:=V2 (by lia);refine⟨false,s,by simp only[PM.eI,bC,aq,aF,bg,aD,aM,aE,L3,aC,aw,bJ,vq,aG,av,aA,ba,Nx,aU,aK,Vq,VQ,VI,Vx,VC,Nat.reduceSub,Vl,VB,Nat.reduceAdd,ka,kb,z],Fr.refl s,⟨(λh=>by cases h),λ⟨x,hx⟩=>?_⟩⟩;obtain⟨Q,hQ,_,lQ⟩:=jh bW hA hB hx;have:=VA.mpr hQ.ne;lia
def gens(P:Nat):Nat->List (_d)
 |0=>[[]]
 |k+1=>(gens P k).flatMap λr=>(dY 0 P).map λx=>r++[x]
theorem Bm{P:Nat}{x:Int}:x∈dY 0 P↔0<=x/\x<(P:Int):=by
 unfold dY;rw[VR];constructor
 .rintro⟨k,hk,rfl⟩;have:=Xt.mp hk;lia
 .rintro⟨h1,h2⟩;exact⟨x.toNat,Xt.mpr (by lia),by lia⟩
theorem iH{P:Nat}:∀{k:Nat}{F:_d},F∈gens P k↔F.length=k/\∀x∈F,0<=x/\x<(P:Int)
 |0,F=>by
  show F∈[[]]↔_;rw[Vy];constructor
  .rintro rfl;exact⟨rfl,λ_ m=>by cases m⟩
  .rintro⟨h,_⟩;exact X3.mp h
 |k+1,F=>by
  show F∈(gens P k).flatMap _↔_;rw[List.mem_flatMap];constructor
  .rintro⟨r,mr,m⟩;obtain⟨x,mx,rfl⟩:=VR.mp m;obtain⟨h1,h2⟩:=iH.mp mr;refine⟨by rw[Vm,h1];rfl,λy my=>?_⟩;rcases VP.mp my with my|my
   .exact h2 y my
   .rw[Vy.mp my];exact Bm.mp mx
  .rintro⟨h1,h2⟩;obtain⟨r,x,hd⟩:=(XA F).resolve_left (λz=>by rw[z]at h1;cases h1);rw[XC]at hd;subst hd;rw[Vm,VO]at h1;exact⟨r,iH.mpr ⟨by lia,λy my=>h2 y (Wd _ my)⟩,VR.mpr ⟨x,Bm.mpr (h2 x (VX _ (Vy.mpr rfl))),rfl⟩⟩
theorem uT:∀{e f:_d}{c d:Int},e.length=f.length->SO.lexLt (e++[c]) (f++[d])=if e=f then decide (c<d)else SO.lexLt e f
 |[],[],c,d,_=>by
  show(if c=d then SO.lexLt [] []else decide (c<d))=_;rw[Vs rfl];by_cases z:c=d
  .rw[Vs z];exact(V2 (by lia)).symm
  .rw[VE z]
 |x::e,y::f,c,d,h=>by
  show(if x=y then SO.lexLt (e++[c]) (f++[d])else decide (x<y))=if x::e=y::f then decide (c<d) else(if x=y then SO.lexLt e f else decide (x<y))
  rw[uT (W! h)];by_cases z:x=y
  .rw[Vs z,Vs z,z];by_cases z2:e=f
   .rw[Vs z2,Vs (by rw[z2])]
   .rw[VE z2,VE (λq=>z2 (WS q).2)]
  .rw[VE z,VE z,VE (λq=>z (WS q).1)]
 |[],_::_,_,_,h=>by cases h
 |_::_,[],_,_,h=>by cases h
theorem Ez(P:Nat):∀k:Nat,(gens P k).Pairwise λa b=>SO.lexLt a b=true
 |0=>WN ..
 |k+1=>by
  refine List.pairwise_flatMap.mpr ⟨λr _=>?_,(Ez P k).imp_of_mem λ{a b}ma mb h x mx y my=>?_⟩
  .refine Wb.mpr ?_;unfold dY;refine Wb.mpr (List.pairwise_lt_range.imp λ{i j}h=>?_);rw[uT rfl,Vs rfl];exact V7 (by lia)
  .obtain⟨i,_,rfl⟩:=VR.mp mx;obtain⟨j,_,rfl⟩:=VR.mp my;rw[uT (by rw[(iH.mp ma).1,(iH.mp mb).1]),VE (λe=>by rw[e,SO.ji]at h;cases h)];exact h
theorem wu(P:Nat):∀k:Nat,(gens P k).length=P ^ k
 |0=>rfl
 |k+1=>by show((gens P k).flatMap _).length=_;rw[List.length_flatMap,show((gens P k).map λr=>((dY 0 P).map λx=>r++[x]).length)=(gens P k).map λ_=>P from Zf λr _=>by rw[Vj,gj],List.map_const',List.sum_replicate_nat,wu P k];rfl
abbrev plB:MB:=fg (jN dF ff (aa (ai cS iP (a_ (aa jL ag))) ag))
abbrev U2:MB:=f? (e_ (aa bq ag)) (aB 6) plB
theorem Rc{P:Nat}{p0:af}{c4 r:Nat}(hP:P<=100)(fc:p0.length<=c4)(lr:p0[r]?=some (aI R))(hR:R.length<=100){st:af}{qs:List Cr}(F:Fr p0 st)(rq:iZ st c4 qs)(nq:∀q∈qs,q.2≠[])(lq:qs.length<=100000):
  ∃y6 aH pM,U2 [qI (P:Int), x1, x2, x3, qL c4, qL r, x6] st=.nx [qI (P:Int), x1, x2, x3, qL c4, qL r, y6] aH/\Fr p0 aH/\iZ aH c4 pM/\pM.map (·.2)=qs.map (·.2)++(dY 0 P).map (λx=>R++[x])/\∀q∈pM,q.2≠[]:=by
 obtain⟨PI,N2⟩:∃PI:Int,PI=(P:Int):=⟨_,rfl⟩
 rw[<-N2];obtain⟨μ',aH,ef,pM,F',Rf,e',nq',y6,rfl⟩:=qG (a:=aB 6) (body:=plB) (λi μ st=>∃pM,Fr p0 st/\iZ st c4 pM/\pM.map (·.2)=qs.map (·.2)++(dY 0 i).map (λx=>R++[x])/\(∀q∈pM,q.2≠[])/\∃y6,μ=[qI PI, x1, x2, x3, qL c4, qL r, y6]) P [qI PI, x1, x2, x3, qL c4, qL r, x6] st (by
  rintro i μ st hi ⟨pM,F,rq,e,nq,y6,rfl⟩;obtain⟨I,hI⟩:∃I:Int,I=(i:Int):=⟨_,rfl⟩
  rw[<-hI];have lq':pM.length<=100100:=by have:=WR List.length e;rw[Vj,Vm,Vj,Vj,gj]at this;lia
  obtain⟨s1,e1,F1,l1,_⟩:=aV (s:=st) [.int I];have a1:=ju (F1 _ _ (F _ _ lr)) l1 (by rw[az,VO,Vt];lia);obtain⟨s2,e2,F2,l2,_⟩:=aV (s:=s1) ((R++[I]).map aj.int);rw[show R.map aj.int++[aj.int I]=(R++[I]).map aj.int from by rw[VS];rfl,<-e2]at a1;have rq2:=rq.mono (F1.trans F2);have a3:=iq (v:=.loc s1.length) rq2.l (by rw[Vj,Vt];lia);rw[show pM.map bY++[.loc s1.length]=(pM++[(s1.length,R++[I])]).map bY from by rw[VS];rfl]at a3;have nn:∀q∈pM++[(s1.length,R++[I])],q.2≠[]:=λq mq=>by
   rcases VP.mp mq with mq|mq
   .exact nq q mq
   .rw[Vy.mp mq];simp
  refine⟨[some (.int PI),x1,x2,x3,some (.loc c4),some (.loc r),some (.int I)],rfl,[qI PI, x1, x2, x3, qL c4, qL r, qI I],s2.set c4 (.lst ((pM++[(s1.length,R++[I])]).map bY)),?_,pM++[(s1.length,R++[I])],(F.trans (F1.trans F2)).set fc _,rq2.put (λq mq=>by rw[Vy.mp mq];exact l2) nn,?_,nn,_,rfl⟩
  .have d1:a_ (aa jL ag) [qI PI, x1, x2, x3, qL c4, qL r, qI I] st=.ok (.loc st.length) s1:=by rw[de (rZ (v:=.int I) (s1:=st) rfl) (by show 1<=1000;decide),e1]
   have lc:=rq.l;unfold plB;generalize a_ (aa jL ag)=M at d1⊢;simp only[aq,aF,aD,aM,aE,aC,aw,gK,aG,av,fM,aU,aK,nv,s_,d1,a1,qg lc,a3]
  .rw[VS,e,V6];congr 1;unfold dY;rw[List.range_succ,VS,VS];show _=_++[R++[0+(i:Int)]];rw[Xa,<-hI];rfl) ⟨qs,F,rq,by unfold dY;simp,nq,_,rfl⟩
 refine⟨y6,aH,pM,?_,F',Rf,e',nq'⟩;unfold U2;generalize plB=B at ef⊢;simp only[aq,aF,aC,aw,gC,aG,av,eO,jU,aO,CM N2 (by lia),ef]
abbrev U3:MB:=ax (aJ 4 (a_ ag)) (ax (f? (gr dz) (aB 5) U2) (aJ 2 ff))
theorem MX{P:Nat}{f:Nat}{st:af}{qs:List Cr}(hP:P<=7)(hk:k<3)(rq:iZ st f qs)(e:qs.map (·.2)=gens P k):
  ∃c y5 y6 aH pM,U3 [qI (P:Int), x1, qL f, x3, x4, x5, x6] st=.nx [qI (P:Int), x1, qL c, x3, qL c, y5, y6] aH/\Fr st aH/\iZ aH c pM/\pM.map (·.2)=gens P (k+1):=by
 obtain⟨s1,e1,F1,l1,_⟩:=aV (s:=st) [];obtain⟨c,hc⟩:∃c,c=st.length:=⟨_,rfl⟩
 rw[<-hc]at l1;have rq1:=rq.mono F1;have gl:qs.length<=343:=by have:=WR List.length e;rw[Vj,wu]at this;have h1:P ^ k<=7 ^ k:=ZH hP k;have h2:7 ^ k<=7 ^ 3:=Xs (by decide) (by lia);lia
 obtain⟨PI,N2⟩:∃PI:Int,PI=(P:Int):=⟨_,rfl⟩
 rw[<-N2];obtain⟨μ',aH,ef,pM,F',Rf,e',nq',l',y5,y6,rfl⟩:=eg (g:=λaH=>ar aH f=some (qs.map bY)) (a:=aB 5) (body:=U2) (λi μ aH=>∃pM,Fr st aH/\iZ aH c pM/\pM.map (·.2)=((qs.map (·.2)).take i).flatMap (λr=>(dY 0 P).map λx=>r++[x])/\(∀q∈pM,q.2≠[])/\pM.length<=7*i/\∃y5 y6,μ=[qI PI, x1, qL f, x3, qL c, y5, y6]) (qs.map bY) 0 [qI PI, x1, qL f, x3, qL c, x5, x6] s1 (by
  rintro i u μ s' hu ⟨pM,F,Rf,e',nq,l',y5,y6,rfl⟩;rw[VZ]at e' l'⊢;rw[Vu]at hu;obtain⟨q,hq,rfl⟩:=Ws.mp hu;have mq:=V8 hq;have hi:=(VM.mp hq).1;have lR:q.2.length<=100:=by
   have:q.2∈gens P k:=by rw[<-e];exact V1 mq
   have:=(iH.mp this).1;lia
  obtain⟨y6',mW,abm,b,F'',abn,e'',abo⟩:=Rc (P:=P) (p0:=st) (x1:=x1) (x2:=some (.loc f)) (x3:=x3) (x6:=y6) (by lia) (W' hc.symm) (rq.r q mq) lR F Rf nq (by lia);rw[<-N2]at b;refine⟨ay (F _ _ rq.l),[qI PI, x1, qL f, x3, qL c, qL q.1, y6],rfl,_,mW,.inl b,abm,F'',abn,?_,abo,?_,_,_,rfl⟩
  .rw[e'',e',XD,Vu,hq,List.flatMap_append];simp
  .have:=WR List.length e'';rw[Vj,Vm,Vj,Vj,gj]at this;lia) (λ_ s'⟨_,F,_⟩=>ay (F _ _ rq.l)) ⟨[],F1,⟨l1,λ_ m=>by cases m⟩,rfl,(λ_ m=>by cases m),We _,_,_,rfl⟩
 rw[VZ,Vj,W9 (by rw[Vj];exact Vv _),e]at e';refine⟨c,y5,y6,aH,pM,?_,F',Rf,e'⟩;have d1:a_ ag [qI PI, x1, qL f, x3, x4, x5, x6] st=.ok (.loc c) s1:=by rw[de (vs:=[]) (s1:=st) rfl (by decide),e1,hc]
 unfold U3;generalize U2=B at ef⊢;generalize a_ ag=M at d1⊢;simp only[aq,aF,aS,bK,gC,aP,bf,eO,ej,aU,aK,Vp,Vr,d1,cY (ay rq1.l),ef]
theorem xm{P:Nat}(hP:P<=7)(hk:k<=3)(s:af):
  ∃c qs s',PM.fB [.int (P:Int),.int (k:Int)] s=.ok (.loc c) s'/\Fr s s'/\iZ s' c qs/\qs.map (·.2)=(gens P k).map (· ++ [1]):=by
 obtain⟨s1,e1,F1,l1,_⟩:=aV (s:=s) [];obtain⟨s2,e2,F2,l2,_⟩:=aV (s:=s1) [.loc s.length];obtain⟨PI,N2⟩:∃PI:Int,PI=(P:Int):=⟨_,rfl⟩
 obtain⟨KI,hKI⟩:∃KI:Int,KI=(k:Int):=⟨_,rfl⟩
 rw[<-N2,<-hKI];obtain⟨μ',s3,ef,f,qs,F3,rq,e3,x3,x4,x5,x6,rfl⟩:=qG (a:=aB 3) (body:=U3) (λi μ aH=>∃f qs,Fr s aH/\iZ aH f qs/\qs.map (·.2)=gens P i/\∃x3 x4 x5 x6,μ=[qI PI, qI KI, qL f, x3, x4, x5, x6]) k [qI PI, qI KI, qL s1.length, qn, qn, qn, qn] s2 (by
  rintro i μ s' hi ⟨f,qs,F,rq,e,x3,x4,x5,x6,rfl⟩;obtain⟨c,y5,y6,aH,pM,b,F',Rf,e'⟩:=MX (x1:=some (.int KI)) (x3:=some (.int (i:Int))) (x4:=x4) (x5:=x5) (x6:=x6) hP (by lia) rq e;rw[<-N2]at b;exact⟨[some (.int PI),some (.int KI),some (.loc f),some (.int (i:Int)),x4,x5,x6],rfl,_,aH,b,c,pM,F.trans F',Rf,e',_,_,_,_,rfl⟩) ⟨s1.length,[(s.length,[])],F1.trans F2,⟨l2,λq m=>by rw[Vy.mp m];exact F2 _ _ l1⟩,rfl,_,_,_,_,rfl⟩
 have gl:qs.length<=343/\∀q∈qs,q.2.length<=3:=by
  have:=WR List.length e3;rw[Vj,wu]at this;have h1:P ^ k<=7 ^ k:=ZH hP k;have h2:7 ^ k<=7 ^ 3:=Xs (by decide) hk;refine⟨by lia,λq mq=>?_⟩;have:q.2∈gens P k:=by rw[<-e3];exact V1 mq
  have:=(iH.mp this).1;lia
 obtain⟨zs,s4,ec,F4,m4,g4⟩:=ky (g:=λb8=>ar b8 f=some (qs.map bY)) (a:=aB 0) (e:=ai cS bq (a_ (aa cH ag))) (s0:=s3) (λs' F=>ay (F _ _ rq.l)) (λτ=>∃x,τ=[x]) bY (λq=>q.2++[1]) qs [none] s3 [] ⟨_,rfl⟩ (Fr.refl _) (by
  rintro u mu τ s' ⟨x,rfl⟩ F;have lu:=F _ _ (rq.r u mu);obtain⟨t1,a1,G1,k1,_⟩:=aV (s:=s') [.int 1];have b1:=ju (G1 _ _ lu) k1 (by rw[az,VO,Vt];have:=gl.2 u mu;lia);have d1:a_ (aa cH ag) [some (.loc u.1)] s'=.ok (.loc s'.length) t1:=by rw[de (vs:=[.int 1]) (s1:=s') rfl (by decide),a1]
  rw[show u.2.map aj.int++[aj.int 1]=(u.2++[1]).map aj.int from by rw[VS];rfl]at b1;have:=G1.len;exact⟨[some (.loc u.1)],rfl,⟨_,rfl⟩,t1.length,_,by rw[iw (x:=.loc u.1) (s1:=s') rfl d1,b1],G1.more _,this,bx _ _⟩)
 rw[Vx]at ec;have gH:∀a b c d e f g:Option aj,iS 1 [] [a,b,c,d,e,f,g]=[none]:=λ_ _ _ _ _ _ _=>rfl;have hz:(qs.map bY).length<=16777216:=by rw[Vj];lia
 refine⟨s4.length,zs,s4++[.lst (zs.map bY)],?_,(F3.trans F4).more _,⟨bx _ _,λq mq=>cP (g4 q mq).2 _⟩,by rw[m4,<-e3,V5];rfl⟩;have d1:a_ (aa (a_ ag) ag) [qI PI, qI KI, qn, qn, qn, qn, qn] s=.ok (.loc s1.length) s2:=by rw[de (rZ (v:=.loc s.length) (s1:=s1) (by rw[de (vs:=[]) (s1:=s) rfl (by decide),e1])) (by show 1<=1000;decide),e2]
 unfold PM.fB;rw[bC (np:=2) (us:=[aj.int PI,.int KI]) rfl];show(ax (aJ 2 (a_ (aa (a_ ag) ag))) (ax (f? (e_ (aa bP ag)) (aB 3) U3) _) [qI PI, qI KI, qn, qn, qn, qn, qn] s).fin=_;generalize U3=B at ef⊢;generalize a_ (aa (a_ ag) ag)=M at d1⊢;generalize ai cS bq (a_ (aa cH ag))=E at ec⊢;simp only[aq,aF,aS,bg,aC,aw,bJ,bK,gC,ie,fX,aG,av,aP,ba,bf,eO,d6,ej,jU,aO,aU,aK,Vp,Vr,Vt,d1,CM hKI (by lia),ef,cY (ay rq.l),gH,ec,Vs hz]
end
open SA (dc)
theorem se{g:af->Prop}{a:AS}{body:MB}(P:Nat->MN.Env->af->Prop)(Q:Nat->aj->af->Prop):∀(us:List aj)(k:Nat)(μ:MN.Env)(st:af),
  (∀(i:Nat)(u:aj)(μ:MN.Env)(st:af),us[i]?=some u->P (k+i) μ st->g st/\∃μ1,a u μ=some μ1/\((∃μ' aH,body μ1 st=.nx μ' aH/\P (k+i+1) μ' aH)\/∃v aH,body μ1 st=.rt v aH/\Q (k+i) v aH)) ->
  (∀μ st,P (k+us.length) μ st->g st)->P k μ st->(∃μ' aH,forL g a body us μ st=.nx μ' aH/\P (k+us.length) μ' aH)\/∃i v aH,i<us.length/\forL g a body us μ st=.rt v aH/\Q (k+i) v aH
 |[],k,μ,st,_,he,h=>by refine .inl ⟨μ,st,?_,h⟩;unfold forL;rw[Vs (he μ st h)]
 |u::us,k,μ,st,hs,he,h=>by
  obtain⟨hg,μ1,ha,hb⟩:=hs 0 u μ st rfl h;rcases hb with⟨μ',aH,hb,hP⟩|⟨v,aH,hb,hQ⟩
  .have ih:=se (a:=a) (body:=body) P Q us (k+1) μ' aH (λi v μ2 b8 hv hp=>by
    have:=hs (i+1) v μ2 b8 hv (by rw[show k+(i+1)=k+1+i by lia];exact hp);rw[show k+(i+1)=k+1+i by lia]at this;exact this) (λμ2 b8 hp=>he μ2 b8 (by rw[Vl,show k+(us.length+1)=k+1+us.length by lia];exact hp)) hP
   rw[Vl,show k+(us.length+1)=k+1+us.length by lia];have e0:forL g a body (u::us) μ st=forL g a body us μ' aH:=by rw[forL,Vs hg,ha];dsimp only;rw[hb]
   rw[e0];rcases ih with ih|⟨i,v,s2,hi,e,q⟩
   .exact .inl ih
   .exact .inr ⟨i+1,v,s2,by lia,e,by rw[show k+(i+1)=k+1+i by lia];exact q⟩
  .refine .inr ⟨0,v,aH,by rw[Vl];lia,?_,hQ⟩;rw[forL,Vs hg,ha];dsimp only;rw[hb]
section
variable{s:af}{A:_d}
def Bef(E D:_d):Prop:=E.length<D.length\/(E.length=D.length/\SO.lexLt E D=true)
structure Due(p:Int)(A D:_d):Prop where
 mn:dG p D
 l2:2<=D.length
 dv:Dv p D A
 no:∀E,dG p E->2<=E.length->E.length<=(A.length-1) / 2+1->Bef E D->¬ Dv p E A
 or:D.length<=(A.length-1) / 2+1\/D=A
theorem wx{P:Nat}(hp:p=(P:Int))(h2:2<=p){E:_d}:E∈(gens P k).map (· ++ [1])↔dG p E/\E.length=k+1:=by
 rw[VR];constructor
 .rintro⟨F,mF,rfl⟩;obtain⟨h1,h3⟩:=iH.mp mF;exact⟨⟨⟨gP rfl F,λx mx=>by
   rcases VP.mp mx with mx|mx
   .have:=h3 x mx;lia
   .rw[Vy.mp mx];lia⟩,by simp,oH F 1⟩,by rw[Vm,h1];rfl⟩
 .rintro⟨h,hl⟩;obtain⟨F,c,hd⟩:=(XA E).resolve_left h.ne;rw[XC]at hd;subst hd;have c1:=h.l1;rw[oH]at c1;rw[Vm,VO]at hl;refine⟨F,iH.mpr ⟨by lia,λx mx=>?_⟩,by rw[c1]⟩;have:=h.row.ED x (Wd _ mx);lia
abbrev fiB:MB:=sU (f9 (ao PM.eI (aa bq (aa cT (aa bP ag))))) (bU cT) fF
abbrev N3:MB:=f? (gr (ao PM.fB (aa bq (aa dz ag)))) (aB 3) fiB
theorem U4(hp:dM p=true){P:Nat}(hP:p=(P:Int))(h7:P<=7)(k1:1<=k)(hk:k<=3)(lA:s[n]?=some (aI A))(hA:dG p A)(ha:A.length<=100):
  (∃y3 s',N3 [qI p, qL n, qI (k:Int), x3] s=.nx [qI p, qL n, qI (k:Int), y3] s'/\Fr s s'/\∀E,dG p E->E.length=k+1->¬ Dv p E A) \/
  ∃d D s',N3 [qI p, qL n, qI (k:Int), x3] s=.rt (.loc d) s'/\Fr s s'/\s'[d]?=some (aI D)/\dG p D/\D.length=k+1/\Dv p D A/\∀E,dG p E->E.length=k+1->SO.lexLt E D=true->¬ Dv p E A:=by
 have hr:=au hp;obtain⟨c,qs,s1,e1,F1,rq,eq⟩:=xm h7 hk s;rw[<-hP]at e1;have hm:∀q∈qs,dG p q.2/\q.2.length=k+1:=λq mq=>(wx hP hr.1).mp (by rw[<-eq];exact V1 mq);have up:(qs.map (·.2)).Pairwise λa b=>SO.lexLt a b=true:=by rw[eq];refine Wb.mpr ((Ez P k).imp_of_mem λ{a b}ma mb h=>?_);rw[uT (by rw[(iH.mp ma).1,(iH.mp mb).1]),VE (λe=>by rw[e,SO.ji]at h;cases h)];exact h
 obtain⟨K,hK⟩:∃K:Int,K=(k:Int):=⟨_,rfl⟩
 rw[<-hK]at e1⊢;have key:=se (g:=λst=>ar st c=some (qs.map bY)) (a:=aB 3) (body:=fiB) (λi μ st=>Fr s1 st/\(∀q∈qs.take i,¬ Dv p q.2 A)/\∃y3,μ=[qI p, qL n, qI K, y3]) (λi v st=>Fr s1 st/\∃q,qs[i]?=some q/\v=.loc q.1/\Dv p q.2 A/\∀r∈qs.take i,¬ Dv p r.2 A) (qs.map bY) 0 [qI p, qL n, qI K, x3] s1 (by
  rintro i u μ st hu ⟨F,no,y3,rfl⟩;rw[VZ]at no⊢;rw[Vu]at hu;obtain⟨q,hq,rfl⟩:=Ws.mp hu;have mq:=V8 hq;obtain⟨mq1,mq2⟩:=hm q mq;obtain⟨b,aH,e,F',hb⟩:=wt hp (F _ _ (F1 _ _ lA)) (F _ _ (rq.r q mq)) hA mq1 (by lia) (by lia);refine⟨ay (F _ _ rq.l),[qI p, qL n, qI K, qL q.1],rfl,?_⟩;cases b with
  |true=>exact .inr ⟨.loc q.1,aH,by simp only[aq,aF,aC,aw,bJ,iV,bo,bh,aG,av,aA,ba,b9,aO,aU,aK,e],F.trans F',q,hq,rfl,hb.mp rfl,no⟩
  |false=>
   refine .inl ⟨[some (.int p),some (.loc n),some (.int K),some (.loc q.1)],aH,by simp only[aq,aF,aC,aw,d8,bo,bh,aG,av,aA,cQ,b9,aO,aU,aK,e],F.trans F',λr mr=>?_,_,rfl⟩;rw[XD,hq]at mr;rcases VP.mp mr with mr|mr
   .exact no r mr
   .rw[show r=q from by simpa using mr];exact λh=>by have:=hb.mpr h;cases this) (λ_ st⟨F,_⟩=>ay (F _ _ rq.l)) ⟨Fr.refl _,(λ_ m=>by cases m),_,rfl⟩
 rcases key with⟨μ',s',ef,F',no,y3,rfl⟩|⟨i,v,s',hi,ef,F',q,hq,rfl,dv,no⟩
 .refine .inl ⟨y3,s',?_,F1.trans F',λE mE lE h=>?_⟩
  .unfold N3;generalize fiB=B at ef⊢;simp only[aq,aF,aC,aw,gC,aG,av,aA,eO,ej,aO,aK,e1,cY (ay rq.l),ef]
  .have:E∈qs.map (·.2):=by rw[eq];exact(wx hP hr.1).mpr ⟨mE,lE⟩
   obtain⟨q,mq,rfl⟩:=VR.mp this;rw[VZ,Vj,W9 (Vv _)]at no;exact no q mq h
 .rw[VZ]at hq no;have mq:=V8 hq;refine .inr ⟨q.1,q.2,s',?_,F1.trans F',F' _ _ (rq.r q mq),(hm q mq).1,(hm q mq).2,dv,λE mE lE lt h=>?_⟩
  .unfold N3;generalize fiB=B at ef⊢;simp only[aq,aF,aC,aw,gC,aG,av,aA,eO,ej,aO,aK,e1,cY (ay rq.l),ef]
  .have:E∈qs.map (·.2):=by rw[eq];exact(wx hP hr.1).mpr ⟨mE,lE⟩
   obtain⟨r,mr,rfl⟩:=VR.mp this;obtain⟨j,hj⟩:=WZ mr;have li:=(VM.mp hq).1;have lj:=(VM.mp hj).1;have pw:=XR.mp up;rcases X? j i with z|z|z
   .refine no r (V8 (i:=j) ?_) h;rw[List.getElem?_take,Vs z,hj]
   .subst z;rw[hq]at hj;cases hj;rw[SO.ji]at lt;cases lt
   .have:=pw i j (by rw[Vj];exact li) (by rw[Vj];exact lj) z;rw[Xc,Xc,(VM.mp hq).2,(VM.mp hj).2]at this;rw[SO.jB this]at lt;cases lt
theorem J7(hp:dM p=true){P:Nat}(hP:p=(P:Int))(h7:P<=7)(lA:s[n]?=some (aI A))(hA:dG p A)(a2:2<=A.length)(a7:A.length<=7):
  ∃d D s',PM.kz [.int p,.loc n] s=.ok (.loc d) s'/\Fr s s'/\s'[d]?=some (aI D)/\Due p A D:=by
 obtain⟨NA,U0⟩:∃NA:Int,NA=(A.length:Int):=⟨_,rfl⟩
 have ka:bc [.loc n] s=.ok (.int NA) s:=by rw[aQ (ay lA),az,U0]
 have dv2:p? (.int (NA-1)) (.int 2) s=.ok (.int ((NA-1).fdiv 2)) s:=div_ii (Ua (by decide) (by decide));have ed:(NA-1).fdiv 2=(((A.length-1) / 2:Nat):Int):=by rw[Y9 _ (by decide)];lia
 obtain⟨H,hH⟩:∃H,H=(A.length-1) / 2:=⟨_,rfl⟩
 rw[<-hH]at ed;have rg:Fu [.int 1,.int ((NA-1).fdiv 2+1)] s=.ok (cN 1 H,λ_=>True) s:=by rw[uE (by lia) (by lia) (by lia) (by lia),show((NA-1).fdiv 2+1-1).toNat=H by lia]
 have key:=se (g:=λ_=>True) (a:=aB 2) (body:=N3) (λi μ st=>Fr s st/\(∀E,dG p E->2<=E.length->E.length<=i+1->¬ Dv p E A)/\∃x2 x3,μ=[qI p, qL n, x2, x3]) (λi v st=>Fr s st/\∃d D,v=.loc d/\st[d]?=some (aI D)/\dG p D/\D.length=i+2/\Dv p D A/\(∀E,dG p E->E.length=i+2->SO.lexLt E D=true->¬ Dv p E A)/\∀E,dG p E->2<=E.length->E.length<=i+1->¬ Dv p E A) (cN 1 H) 0 [qI p, qL n, qn, qn] s (by
  rintro i u μ st hu ⟨F,no,x2,x3,rfl⟩;rw[VZ]at no⊢;unfold cN at hu;have hi:i<H:=by have:=bF hu;rw[Vj,VW]at this;exact this
  rw[Vu,Wh hi]at hu;have eu:=(VU hu).symm;dsimp only at eu;rw[show(1:Int)+(i:Int)=((i+1:Nat):Int) by lia]at eu;subst eu;refine⟨trivial,[qI p, qL n, qI ((i+1:Nat):Int), x3],rfl,?_⟩;rcases U4 (k:=i+1) (x3:=x3) hp hP h7 (by lia) (by lia) (F _ _ lA) hA (by lia) with⟨y3,s',e,F',RQ⟩|⟨d,D,s',e,F',ld,mD,lD,dv,RQ⟩
  .exact .inl ⟨_,s',e,F.trans F',λE mE l2 l3=>by
    by_cases z:E.length=i+1+1
    .exact RQ E mE z
    .exact no E mE l2 (by lia),_,_,rfl⟩
  .exact .inr ⟨_,s',e,F.trans F',d,D,rfl,ld,mD,lD,dv,RQ,no⟩) (λ_ _ _=>trivial) ⟨Fr.refl s,(λE _ h1 h2=>absurd h1 (by lia)),_,_,rfl⟩
 have lr:(cN 1 H).length=H:=by unfold cN;rw[Vj,VW]
 unfold PM.kz;rw[bC (np:=2) (us:=[aj.int p,.loc n]) rfl];show ∃d D s',(ax (f? _ (aB 2) N3) (bU bP) [qI p, qL n, qn, qn] s).fin=.ok (.loc d) s'/\_;rcases key with⟨μ',s',ef,F',no,x2,x3,rfl⟩|⟨i,v,s',hi,ef,F',d,D,rfl,ld,mD,lD,dv,RQ,no⟩
 .rw[VZ,lr]at no;refine⟨n,A,s',?_,F',F' _ _ lA,hA,a2,⟨1,by grind⟩,λE mE e2 e3 _=>no E mE e2 (by lia),.inr rfl⟩;generalize N3=B at ef⊢;simp only[aq,aF,aS,bg,aD,aM,aE,aC,aw,bJ,gC,bN,aG,av,aA,aP,ba,eO,qf,gZ,fi,aU,aK,ka,dv2,rg,ef]
 .rw[VZ]at lD no RQ;rw[lr]at hi;refine⟨d,D,s',?_,F',ld,mD,by lia,dv,λE mE e2 e3 hb=>?_,.inl (by lia)⟩
  .generalize N3=B at ef⊢;simp only[aq,aF,nh,bg,aD,aM,aE,aC,aw,gC,bN,aG,av,aA,aP,eO,qf,gZ,fi,aU,aK,ka,dv2,rg,ef]
  .rcases hb with z|⟨z1,z2⟩
   .exact no E mE e2 (by lia)
   .exact RQ E mE (by lia) z2
theorem Bn(hp:dM p=true)(h:RP p A fs)(ha:A.length<=5000)(hD:dG p D)(l2:2<=D.length)(ld:D.length<=5000)(lf:∀f∈fs,f.1.2.length<=5000)(dv:Dv p D A):∃f∈fs,Dv p f.1.2 D:=by
 have hr:=au hp;refine Xz λno=>?_;have hc:dc (ak D:ah p) (jC (z_ fs)):=uP λq mq=>by
  unfold z_ at mq;obtain⟨f,mf,rfl⟩:=VR.mp mq;rcases(h.MV f mf).JI hp hD.row (lf f mf) ld with c|⟨x,c⟩
  .exact c.symm
  .exact(no ⟨f,mf,x,c⟩).elim
 rw[<-h.eq]at hc;obtain⟨x,hx⟩:=dv;obtain⟨z,hz⟩:=hc.unit hx;rw[nM (by lia) hD hz]at l2;exact absurd l2 (by decide)
theorem jz(hp:0<p)(hA:dG p A)(hD:dG p D)(dv:Dv p D A):D.length<=A.length:=by obtain⟨x,hx⟩:=dv;obtain⟨Q,hQ,_,l⟩:=jh hp hA hD hx;have:=VA.mpr hQ.ne;lia
theorem N4(h:RP p A fs){f:Fa}(m:f∈fs):Dv p f.1.2 A:=by have:=h.pos f m;obtain⟨x,hx⟩:=lx (p:=p) (q:=(f.2.toNat,f.1.2)) (ps:=z_ fs) (V1 (f:=λf:Fa=>(f.2.toNat,f.1.2)) m) (by show 1<=f.2.toNat;lia);exact⟨x,h.eq.trans hx⟩
theorem first_is(hp:dM p=true)(hA:dG p A)(a2:2<=A.length)(ha:A.length<=1000)(d:Due p A D)(h:RP p A fs):∃f l,fs=f::l/\f.1.2=D:=by
 have hr:=au hp;have bW:0<p:=by lia
 have lf:∀f∈fs,f.1.2.length<=A.length:=λf m=>jz bW hA (h.MV f m).mn (N4 h m);have lf':∀f∈fs,f.1.2.length<=5000:=λf m=>by have:=lf f m;lia
 have lD:=jz bW hA d.mn d.dv;cases fs with
 |nil=>
  have:=h.eq;rw[show(jC (z_ []):ah p)=1 from rfl,<-q_]at this;have:=lH bW hA.row (jf hr.1) this;rw[this]at a2;exact absurd a2 (by decide)
 |cons f0 l=>
  refine⟨f0,l,rfl,?_⟩;have m0:f0∈f0::l:=Vz;have I0:=h.MV f0 m0;have d0:=N4 h m0;have ord:∀f∈f0::l,f0.1.2.length<f.1.2.length\/(f0.1.2.length=f.1.2.length/\(f0.1.2=f.1.2\/SO.lexLt f0.1.2 f.1.2=true)):=λf m=>by
   rcases V_.mp m with rfl|m
   .exact .inr ⟨rfl,.inl rfl⟩
   .have:=(X2.mp h.up).1 f m;unfold oR at this;rw[show SO.lexLt ((f0.1.2.length:Int)::f0.1.2) ((f.1.2.length:Int)::f.1.2)=if(f0.1.2.length:Int)=(f.1.2.length:Int)then SO.lexLt f0.1.2 f.1.2 else decide ((f0.1.2.length:Int)<(f.1.2.length:Int))from rfl]at this;by_cases z:(f0.1.2.length:Int)=(f.1.2.length:Int)
    .rw[Vs z]at this;exact .inr ⟨by lia,.inr this⟩
    .rw[VE z]at this;exact .inl (by have:=Wz this;lia)
  have nb:f0.1.2.length<=(A.length-1) / 2+1->¬ Bef f0.1.2 D:=λq b=>d.no _ I0.mn I0.l2 q b d0;obtain⟨f,mf,x,hx⟩:=Bn hp h (by lia) d.mn d.l2 (by lia) lf' d.dv;have lfD:=jz bW d.mn (h.MV f mf).mn ⟨x,hx⟩;have of:=ord f mf;rcases d.or with q|q
  .have nb:=nb (by lia);have n1:¬ f0.1.2.length<D.length:=λz=>nb (.inl z);have e:D=f.1.2:=vZ bW d.mn (h.MV f mf).mn hx (by lia);rcases of with z|⟨z,z|z⟩
   .lia
   .rw[z,e]
   .rw[<-e]at z;exact(nb (.inr ⟨by lia,z⟩)).elim
  .subst q;obtain⟨y,hy⟩:=d0;obtain⟨Q,hQ,eQ,lQ⟩:=jh bW hA I0.mn hy;rcases zC hQ with z|z
   .refine(lH bW hA.row I0.mn.row ?_).symm;rw[hy,eQ,z,q_];grind
   .exfalso;obtain⟨g,mg,x',hx'⟩:=Bn hp h (by lia) hQ z (by lia) lf' ⟨ak f0.1.2,by rw[hy,eQ];exact bH _ _⟩;have lg:=jz bW hQ (h.MV g mg).mn ⟨x',hx'⟩;have og:=ord g mg;refine nb (by lia) (.inl ?_);have:=I0.l2;lia
theorem MY(hp:dM p=true)(hA:dG p A)(d:Due p A D){f:Fa}{l:List Fa}(h:RP p A (f::l))(e:f.1.2=D):BC p A↔¬ D.length<A.length:=by
 have hr:=au hp;have bW:0<p:=by lia
 obtain⟨x,hx⟩:=d.dv;constructor
 .intro I lt;obtain⟨Q,hQ,eQ,lQ⟩:=jh bW hA d.mn hx;rcases I.ir D Q d.mn hQ (by rw[<-eQ];exact hx)with z|z
  .have:=d.l2;rw[z]at this;exact absurd this (by decide)
  .rw[z]at lQ;have:[(1:Int)].length=1:=rfl;lia
 .intro nl;have:=vZ bW hA d.mn hx (by lia);rw[this,<-e];exact h.MV f Vz
theorem Iv(hp:dM p=true){f:Fa}{l:List Fa}(h:RP p A (f::l)){L:_d}(hL:dG p L)(e:(ak A:ah p)=ak f.1.2 ^ k*ak L)(no:¬ Dv p f.1.2 L):f.2=(k:Int)/\(L.length=1↔l=[]):=by
 have hr:=au hp;have bW:0<p:=by lia
 have I0:=h.MV f Vz;have p0:=h.pos f Vz;obtain⟨m,hm⟩:∃m:Nat,f.2=(m:Int):=⟨f.2.toNat,by lia⟩
 have eq:(ak A:ah p)=ak f.1.2 ^ m*jC (z_ l):=by rw[h.eq];show ak f.1.2 ^ f.2.toNat*jC (z_ l)=_;rw[hm];rfl
 have hc:dc (ak f.1.2:ah p) (jC (z_ l)):=uP λq mq=>by unfold z_ at mq;obtain⟨g,mg,rfl⟩:=VR.mp mq;exact(X2.mp h.cp).1 g mg
 have ek:m=k:=by
  rcases X? m k with z|z|z
  .exfalso;obtain⟨i,rfl⟩:∃i,k=m+(i+1):=⟨k-m-1,by lia⟩
   have:=I0.mn.jD bW m (jC (z_ l)) (ak f.1.2 ^ (i+1)*ak L) (by rw[<-eq,e,zu];exact cF _ _ _);rw[k?]at this;obtain⟨y,hy⟩:=hc.unit (x:=ak f.1.2 ^ i*ak L) (by rw[this];generalize (ak f.1.2:ah p) ^ i=X;grind);exact I0.no1 (by lia) hy.symm
  .exact z
  .exfalso;obtain⟨i,rfl⟩:∃i,m=k+(i+1):=⟨m-k-1,by lia⟩
   have:=I0.mn.jD bW k (ak L) (ak f.1.2 ^ (i+1)*jC (z_ l)) (by rw[<-e,eq,zu];exact cF _ _ _);rw[k?]at this;exact no ⟨ak f.1.2 ^ i*jC (z_ l),by rw[this];generalize (ak f.1.2:ah p) ^ i=X;grind⟩
 subst ek;have eL:=I0.mn.jD bW m (ak L) (jC (z_ l)) (by rw[<-e,eq]);refine⟨hm,λl1=>?_,λz=>?_⟩
 .rw[rF hL l1,q_]at eL;cases l with
  |nil=>rfl
  |cons g l=>
   have pg:=h.pos g (VH _ Vz);obtain⟨x,hx⟩:=lx (p:=p) (q:=(g.2.toNat,g.1.2)) (ps:=z_ (g::l)) Vz (by show 1<=g.2.toNat;lia);exact((h.MV g (VH _ Vz)).no1 (by lia) (eL.trans hx)).elim
 .rw[z]at eL;rw[lH bW hL.row (jf hr.1) (eL.trans q_.symm)];rfl
end
end zJ
namespace MN
open PySem.Spec L2
open PyProof.Rows hiding St kindOf
theorem d9{P:_i}{sc:Scope}(a:sc.kind=.function:=by rfl)(b:sc.isCoroutine=false:=by rfl)(c:sc.isGenerator=false:=by rfl)(d:N.Nodup:=by decide +kernel)(e:N.take P.length=P:=by rfl)(f:∀x∈P,sc.names.lookup x=some .local\/sc.names.lookup x=some .cell:=by decide +kernel)(g:∀y∈sc.names,y.2≠.free:=by decide +kernel):iz N P sc:=⟨a,b,c,d,e,f,g⟩
theorem jI{cl:List (Str×_l)}(tQ:closureFor scope X.env=pure cl:=by rfl)(A:ip X scope cl bE:=by repeat first|exact .nil|refine .cons (by rfl) (by rfl) (by first|exact Or.inl rfl|exact Or.inr rfl) (by first|exact Or.inl rfl|exact Or.inr rfl) ?_)(has:((relabel scope X.env).names.all λp => !(p.2 == .cell || p.2 == .free) || (cl.map (·.1)).contains p.1)=true:=by rfl)(gI:(scope.names.all λp => !(p.2 == .cell))=true:=by rfl)(kind:scope.kind=.function:=by rfl)(names:(scope.names.all λp => !(p.2 == .local) || scope.names.lookup p.1==some .local)=true:=by rfl)(len:N.length=k+bE.length:=by rfl)(hN:N.drop k=cl.map (·.1):=by rfl):u9 X N scope cl k bE:=TH tQ A has gI kind names len hN
theorem EA{cl cl':List (Str×_l)}{caps':List Nat}(tQ:closureFor scope X.env=pure cl':=by rfl)(A:ip X scope cl bE:=by repeat first|exact .nil|refine .cons (by rfl) (by rfl) (by first|exact Or.inl rfl|exact Or.inr rfl) (by first|exact Or.inl rfl|exact Or.inr rfl) ?_)(B:ip X scope cl' caps':=by repeat first|exact .nil|refine .cons (by rfl) (by rfl) (by first|exact Or.inl rfl|exact Or.inr rfl) (by first|exact Or.inl rfl|exact Or.inr rfl) ?_)(has:((relabel scope X.env).names.all λp => !(p.2 == .cell || p.2 == .free) || (cl'.map (·.1)).contains p.1)=true:=by rfl)(gI:(scope.names.all λp => !(p.2 == .cell))=true:=by rfl)(kind:scope.kind=.function:=by rfl)(names:(scope.names.all λp => !(p.2 == .local) || scope.names.lookup p.1==some .local)=true:=by rfl)(len:N.length=k+bE.length:=by rfl)(hN:N.drop k=cl.map (·.1):=by rfl):u9 X N scope cl' k bE:=TL tQ A B has gI kind names len hN
section
variable{w:World}
def MgK(K:_c)(mg:_a):Prop:=∀x f,W.nsIn K mainGlobals x=some (some (.ref f))->mg x=some (.ref f)
theorem nY{x:Str}:∀{l:_i},Mp mg l->x∈l->mg x=none
 |y::l,h,hx=>by
  rcases V_.mp hx with e|e
  .rw[e];exact h.1
  .exact nY h.2 e
theorem U5{x:Str}:∀{l:_i},Mq K mg l->x∈l->PV K mg x
 |y::l,h,hx=>by
  rcases V_.mp hx with e|e
  .rw[e];exact h.1
  .exact U5 h.2 e
theorem FnAt.ke{st:Stmt}(F:d! K x st)(hm:MgK K mg)(S:iz N ps (bb st))
  (h:∀ (f:_l) (h_:_j) (A:_m) (outer:List PySem.Env) (s:_k) (H:Hp) (E:XK),N.Nodup->gk k (A.deeper (envOfC x (bb st) s.heap.objs.size f h_)) ->
   oV (jk (p9 P w) P w K mg base N x (bb st) f h_ A outer s H E) (dZ st) (tS (jk (p9 P w) P w K mg base N x (bb st) f h_ A outer s H E) E body))
  (hb:∀ (kV doc pm:_j) (an:Option _l) (h_ ct:_j) (us:_e),us.length=ps.length->bindArgs (W.fnOf x x (gS st) (dZ st) (bb st) .none kV doc pm an h_ ct) ⟨us,[]⟩=pure (ps.zip us):=by
   first|exact λ_ _ _ _ _ _=>rF λ_=>rfl|exact λ_ _ _ _ _ _=>PZ λ_ _=>rfl|exact λ_ _ _ _ _ _=>TM λ_ _ _=>rfl|exact λ_ _ _ _ _ _=>len0 rfl):FnAt P w K mg base x (k+1) (ij ps.length N.length body):=by
 obtain⟨f,fd,F,a⟩:=F;exact FnAt.mk F (hm _ _ a) S hb λh_ A outer s H E=>h f h_ A outer s H E S.nd
end
end MN
namespace zJ
open PySem.Spec L2 MN PG
open PyProof.Rows hiding St kindOf
section
variable{a c:Nat}{s:af}{A:_d}{M:jO}
theorem MZ(hp:0<p){w:Nat}{T Q:_d}(hT:kf p w T)(hQ:kf p w Q)(e:(ak T:ah p)=ak Q):T=Q:=by refine Yy (by rw[hT.l,hQ.l]) λi h1 h2=>?_;have:=Cg.eq hp (qv e i);rw[c_ (hT.vH hp i).1 (hT.vH hp i).2,c_ (hQ.vH hp i).1 (hQ.vH hp i).2]at this;unfold cf at this;rw[SO.GG 0 h1,SO.GG 0 h2]at this;exact this
abbrev U6:MT:=f9 (ao PM.eI (aa bP (aa ff (aa zY ag))))
abbrev wlB:MB:=ax (aJ 8 (ai bS (ao PM.jH (aa bP (aa zY (aa ff ag)))) dE)) (aJ 7 (ai cS oY cH))
def abp(μ:MN.Env)(s:af):Nat:=match(μ[8]?:Option (Option aj)) with
 |some (some (.loc k))=>fT k s
 |_=>0
theorem M0(hp:dM p=true)(ld:s[d]?=some (aI D))(lc:s[c]?=some (aI A))(hA:dG p A)(hD:dG p D)(d2:2<=D.length)(hd:D.length<=1000)(ha:A.length<=1000):
  ∃k kc L s',cm U6 wlB [x0, qI p, x2, x3, qL d, x5, x6, qI 0, qL c] s=.nx [x0, qI p, x2, x3, qL d, x5, x6, qI ((k:Nat):Int), qL kc] s'/\Fr s s'/\s'[kc]?=some (aI L)/\dG p L/\(ak A:ah p)=ak D ^ k*ak L/\¬ Dv p D L:=by
 have hr:=au hp;have bW:0<p:=by lia
 obtain⟨μ',s',ew,k,kc,L,rfl,F,lL,hL,_,e,no⟩:=fK (t:=U6) (body:=wlB) (λμ st=>∃(k kc:Nat)(L:_d),μ=[x0, qI p, x2, x3, qL d, x5, x6, qI (k:Int), qL kc]/\Fr s st/\st[kc]?=some (aI L)/\dG p L/\L.length<=1000/\(ak A:ah p)=ak D ^ k*ak L) abp (λμ st=>∃(k kc:Nat)(L:_d),μ=[x0, qI p, x2, x3, qL d, x5, x6, qI (k:Int), qL kc]/\Fr s st/\st[kc]?=some (aI L)/\dG p L/\L.length<=1000/\(ak A:ah p)=ak D ^ k*ak L/\¬ Dv p D L) (by
  rintro μ st ⟨k,kc,L,rfl,F,lL,hL,bL,e⟩;obtain⟨b,s1,e1,F1,hb⟩:=wt hp lL (F _ _ ld) hL hD hd bL;have xY:U6 [x0, qI p, x2, x3, qL d, x5, x6, qI (k:Int), qL kc] st=.ok b s1:=by refine vS ?_;rw[g! (NR (v:=.int p) (s1:=st) rfl (Ms (v:=.loc d) (s1:=st) rfl (w:=.loc kc) (s2:=st) rfl)),e1]
  cases b with
  |false=>exact .inl ⟨s1,xY,k,kc,L,rfl,F.trans F1,F1 _ _ lL,hL,bL,e,λh=>by have:=hb.mpr h;cases this⟩
  |true=>
   have dv:=hb.mp rfl;have le:=jz bW hL hD dv;obtain⟨s2,k1,k2,T,l,e2,F2,l1,l2,iT,il,lT,ll,eq⟩:=J0 hp (F1 _ _ lL) (F1 _ _ (F _ _ ld)) (J5 hL) hD hd bL le;obtain⟨x,hx⟩:=dv;have z:=jF bW hD (l:=l) (x:=x-ak T) (by lia) (by rw[hx]at eq;grind);have eq':(ak L:ah p)=ak D*ak T:=by rw[eq,z];grind
   obtain⟨Q,hQ,eQ,lQ⟩:=jh bW hL hD eq';have TQ:T=Q:=MZ bW iT (w:=T.length) ⟨by lia,hQ.row.ED⟩ eQ;subst TQ;obtain⟨K,hK⟩:∃K:Int,K=(k:Int):=⟨_,rfl⟩
   refine .inr ⟨s1,[x0, qI p, x2, x3, qL d, x5, x6, qI ((k+1:Nat):Int), qL k1],s2,xY,.inl ?_,⟨k+1,k1,T,rfl,F.trans (F1.trans F2),l1,hQ,by lia,?_⟩,?_⟩
   .rw[show((k+1:Nat):Int)=K+1 by lia,<-hK];simp only[aq,aF,aS,aD,aM,aE,aC,aw,bK,bN,aG,av,aA,aP,bf,gZ,aO,aU,aK,Vp,Vr,e2,bD tX]
   .rw[e,eq',k?];generalize (ak D:ah p) ^ k=X
    grind
   .show fT k1 s2<fT kc st;rw[fW l1,fW lL];lia) [x0, qI p, x2, x3, qL d, x5, x6, qI 0, qL c] s ⟨0,c,A,rfl,Fr.refl s,lc,hA,ha,by rw[tq];grind⟩
 exact⟨k,kc,L,s',ew,F,lL,hL,e,no⟩
theorem zj(hp:dM p=true){P:Nat}(hP:p=(P:Int))(h7:P<=7)(la:s[a]?=some (aI A))(hA:dG p A)(a2:2<=A.length)(a7:A.length<=7)(hT:m? s M.own M.line M.col M.S.qual)(Jx:M.S.ps.length=1):
  ∃s',PM.lM M [x0, qI p, x2, qL a, qn, qn, qn, qn, qn] s=.rt (.bl true) s':=by
 have hr:=au hp;have bW:0<p:=by lia
 obtain⟨d,D,s1,e1,F1,ld,du⟩:=J7 hp hP h7 la hA a2 a7;have c2:=kW (ay (F1 _ _ la));obtain⟨s2,e2,F2,l2,_⟩:=aV (s:=s1) (A.map aj.int);rw[<-e2]at c2;obtain⟨u,s3,e3,F3,hu⟩:=zI hp (show s2[s1.length]?=some (aI A)from l2) hA a2 (by lia);have yc:=F1.trans (F2.trans F3);have c4:=kW (ay (yc _ _ la));obtain⟨s4,e4,F4,l4,_⟩:=aV (s:=s3) (A.map aj.int);rw[<-e4]at c4;have hT4:m? s4 M.own M.line M.col M.S.qual:=by obtain⟨j,hj⟩:=hT;exact⟨j,F4 _ _ (yc _ _ hj)⟩
 obtain⟨c,fs,s5,e5,F5,rf,t,ht,fm⟩:=zH hp (show s4[s3.length]?=some (aI A)from l4) hA.row hA.ne (by lia) hT4 Jx;rw[wa hp hA ht]at fm;rw[hA.l1]at e5;obtain⟨f,l,rfl,eD⟩:=first_is hp hA a2 (by lia) du fm;have di:=MY hp hA du fm eD;have F45:=F4.trans F5;have F15:=F2.trans (F3.trans F45);have RM:=F1.trans F15;obtain⟨ND,hND⟩:∃ND:Int,ND=(D.length:Int):=⟨_,rfl⟩
 obtain⟨NA,U0⟩:∃NA:Int,NA=(A.length:Int):=⟨_,rfl⟩
 have kd:bc [.loc d] s5=.ok (.int ND) s5:=by rw[aQ (ay (F15 _ _ ld)),az,hND]
 have ka:bc [.loc a] s5=.ok (.int NA) s5:=by rw[aQ (ay (RM _ _ la)),az,U0]
 have i0:bS (.loc c) (.int 0) s5=.ok (.tup [.loc f.1.1,.int f.2]) s5:=cO (ay rf.l) tX;have lf:s5[f.1.1]?=some (aI D):=by rw[rf.r f Vz,eD]
 have q7:=Iu (ay lf) (ay (F15 _ _ ld)) (AL 14 D);have z1:∀x:Bool,(!(x==x))=false:=by decide
 have xY:∃b,LC false u .dD s5=.ok (.bl b) s5/\b=decide (ND<NA):=by
  rcases hu with⟨rfl,ni⟩|⟨⟨v1,v2,v3,v4,v5,rfl⟩,ii⟩
  .exact⟨true,rfl,(V7 (by have:=Xz λq=>ni (di.mpr q);lia)).symm⟩
  .exact⟨false,rfl,(V2 (by have:=di.mp ii;lia)).symm⟩
 obtain⟨b,ib,rfl⟩:=xY;have c8:=kW (ay (RM _ _ la));obtain⟨s6,e6,F6,l6,_⟩:=aV (s:=s5) (A.map aj.int);rw[<-e6]at c8;have lD:=jz bW hA du.mn du.dv;obtain⟨k,kc,L,s7,ew,F7,lL,hL,eL,no⟩:=M0 (x0:=x0) (x2:=x2) (x3:=some (.loc a)) (x5:=some u) (x6:=some (.tup [.int 1,.loc c])) hp (F6 _ _ (F15 _ _ ld)) (show s6[s5.length]?=some (aI A)from l6) hA du.mn du.l2 (by lia) (by lia);rw[<-eD]at eL no;obtain⟨ok,ol⟩:=Iv hp fm hL eL no;obtain⟨K,hK⟩:∃K:Int,K=(k:Int):=⟨_,rfl⟩
 rw[<-hK]at ew ok;have F57:=F6.trans F7;have j0:bS (.loc c) (.int 0) s7=.ok (.tup [.loc f.1.1,.int f.2]) s7:=cO (ay (F57 _ _ rf.l)) tX;obtain⟨NL,hNL⟩:∃NL:Int,NL=(L.length:Int):=⟨_,rfl⟩
 obtain⟨NF,hNF⟩:∃NF:Int,NF=((f::l).length:Int):=⟨_,rfl⟩
 have kL:bc [.loc kc] s7=.ok (.int NL) s7:=by rw[aQ (ay lL),az,hNL]
 have kF:bc [.loc c] s7=.ok (.int NF) s7:=by rw[aQ (ay (F57 _ _ rf.l)),Vj,hNF]
 have zz:(NL==1)=(NF==1):=by
  rw[Vl]at hNF;by_cases q:l=[]
  .have:=ol.mpr q;have q2:l.length=0:=by rw[q];rfl
   rw[show NL=1 by lia,show NF=1 by lia]
  .have q1:¬ L.length=1:=λz=>q (ol.mp z);have q2:=VA.mpr q;rw[show(NL==1)=false by simp;lia,show(NF==1)=false by simp;lia]
 have z2:(f.2==K)=true:=by rw[ok];simp
 have z3:((NF==1)==(NF==1))=true:=by cases(NF==1)<;>rfl
 have ul:∀x1 x2 x3 x4 x5 x6 x7,iP [x1,x2,x3,x4,x5,some u,x6,x7,none] s5=.ok u s5:=λ_ _ _ _ _ _ _=>by rcases hu with⟨rfl,_⟩|⟨⟨v1,v2,v3,v4,v5,rfl⟩,_⟩<;>rfl
 refine⟨s7,?_⟩;unfold PM.lM PM.wj PM.wg PM.we PM.wd PM.wb PM.tF PM.tD;show ax _ (ax _ (ax _ (ax _ (ax _ (ax _ (ax (cm U6 wlB) _)))))) _ s=_;generalize cm U6 wlB=W at ew⊢;simp only[aq,aF,aS,aD,aM,aE,uC,jd,aC,aw,bJ,d8,bK,bN,bo,bh,vq,jr,aG,av,aA,aP,cQ,ba,b9,bf,js,ig,sZ,T7,T8,aO,gf,aU,aK,Vp,Vr,XM,e1,c2,e3,c4,e5,ul,ib,kd,ka,z1,bD tX,bD Bz,Xl,i0,q7,c8,ew,j0,z2,kL,kF,zz,z3]
end
def Gk:_d:=[2,3,5,7]
theorem M3:∀i:Fin 4,dM (Gk.getD i.val 0)=true/\Gk.getD i.val 0<=7:=by decide +kernel
def Gm:_d:=[6,4,4,3]
theorem M5:∀i:Fin 4,0<Gm.getD i.val 0/\Gm.getD i.val 0<=6:=by decide +kernel
theorem J8(M:jO)(Jx:M.S.ps.length=1):∀(c:a!)(ns:_d),ns.length<=63->ar [c,.tab M.own M.line M.col M.S.qual] 0=some (ns.map aj.int)->∃aH,PM.qM M [.loc 0] [c,.tab M.own M.line M.col M.S.qual]=.ok (.bl true) aH:=by
 intro c ns hl hi;obtain⟨st,yt⟩:∃st,[c,a!.tab M.own M.line M.col M.S.qual]=st:=⟨_,rfl⟩
 have hT:m? st M.own M.line M.col M.S.qual:=⟨1,by rw[<-yt];rfl⟩
 rw[yt]at hi⊢;obtain⟨s1,e1,F1,l1,_⟩:=aV (s:=st) (Gk.map aj.int);obtain⟨o0,c0⟩:=qo (k:=0) (F1.it hi) (by decide) (by decide);have w0:=qm (m:=4) (by decide) o0;have g1:=cO (ay l1) (at_getD (ns:=Gk) (i:=o0.fmod 4) w0.1 (by exact w0.2));obtain⟨hp,h7⟩:=M3 ⟨(o0.fmod 4).toNat,by lia⟩;generalize Gk.getD (o0.fmod 4).toNat 0=p at g1 hp h7;have hr:=au hp;have bW:0<p:=by lia
 obtain⟨o1,c1⟩:=qo (k:=1) (F1.it hi) (by decide) (by decide);obtain⟨s2,e2,F2,l2,_⟩:=aV (s:=s1) (Gm.map aj.int);have tu:=F1.trans F2;obtain⟨o2,c2⟩:=qo (k:=0) (tu.it hi) (by decide) (by decide);have w2:=qm (m:=4) (by decide) o2;have g2:=cO (ay l2) (at_getD (ns:=Gm) (i:=o2.fmod 4) w2.1 (by exact w2.2));obtain⟨m1,m6⟩:=M5 ⟨(o2.fmod 4).toNat,by lia⟩;generalize Gm.getD (o2.fmod 4).toNat 0=m at g2 m1 m6;have w1:=qm m1 o1;obtain⟨z,hz⟩:∃z:Int,z=1+o1.fmod m:=⟨_,rfl⟩
 obtain⟨o3,c3⟩:=qo (k:=2) (tu.it hi) (by decide) (by decide);obtain⟨g3,a,D,e3,_,l3,lD,rD,cD⟩:=xh hp o3 (z:=z) (by lia) (by lia) s2;obtain⟨s3,IE⟩:∃s3,s3=s2++g3:=⟨_,rfl⟩
 have F3:Fr s2 s3:=by rw[IE];exact Fr.app _ _
 rw[<-IE]at e3 l3;obtain⟨s4,e4,F4,l4,_⟩:=aV (s:=s3) [.int 0];obtain⟨ND,hND⟩:∃ND:Int,ND=(D.length:Int):=⟨_,rfl⟩
 have kd:bc [.loc a] s4=.ok (.int ND) s4:=by rw[aQ (ay (F4 _ _ l3)),az,hND]
 have m5:=rH (k:=z-ND) l4 (by lia) (by lia) (by rw[Vt,VO];lia);rw[AO]at m5;obtain⟨s5,e5,F5,l5,_⟩:=aV (s:=s4) ((List.replicate (z-ND).toNat (0:Int)).map aj.int);rw[<-e5]at m5;have a6:=ju (F5 _ _ (F4 _ _ l3)) l5 (by rw[az,az,V0,Vt];lia);rw[<-VS]at a6;obtain⟨Z,hZ⟩:∃Z,Z=D++List.replicate (z-ND).toNat (0:Int):=⟨_,rfl⟩
 have lZ:Z.length=z.toNat:=by rw[hZ,Vm,V0];lia
 rw[<-hZ]at a6;obtain⟨s6,e6,F6,l6,_⟩:=aV (s:=s5) (Z.map aj.int);rw[<-e6]at a6;obtain⟨s7,e7,F7,l7,_⟩:=aV (s:=s6) [.int 1];have a8:=ju (F7 _ _ l6) l7 (by rw[az,VO,Vt];lia);rw[show Z.map aj.int++[aj.int 1]=(Z++[1]).map aj.int from by rw[VS];rfl]at a8;obtain⟨s8,e8,F8,l8,_⟩:=aV (s:=s7) ((Z++[1]).map aj.int);rw[<-e8]at a8;have F08:=tu.trans (F3.trans (F4.trans (F5.trans (F6.trans (F7.trans F8)))));obtain⟨P,hP⟩:∃P:Nat,p=(P:Int):=⟨p.toNat,by lia⟩
 have lA:(Z++[1]).length=z.toNat+1:=by rw[Vm,lZ];rfl
 have hA:dG p (Z++[1]):=⟨⟨gP rfl _,λx mx=>by
  rcases VP.mp mx with mx|mx
  .rw[hZ]at mx;rcases VP.mp mx with mx|mx
   .exact rD x mx
   .rw[(List.mem_replicate.mp mx).2];lia
  .rw[Vy.mp mx];lia⟩,by simp,oH _ 1⟩
 have hT8:m? s8 M.own M.line M.col M.S.qual:=by obtain⟨j,hj⟩:=hT;exact⟨j,F08 _ _ hj⟩
 obtain⟨s',e'⟩:=zj (M:=M) (x0:=some (.loc 0)) (x2:=some (.int z)) hp hP (by lia) (show s8[s7.length]?=some (aI _)from l8) hA (by lia) (by lia) hT8 Jx;refine⟨s',?_⟩;have d1:a_ (aa Kf (aa Pq (aa (mC (.int 5)) (aa (mC (.int 7)) ag)))) [qL 0, qn, qn, qn, qn, qn, qn, qn, qn] st=.ok (.loc st.length) s1:=by rw[de (vs:=Gk.map aj.int) (s1:=st) rfl (by decide),e1]
 have d2:a_ (aa (mC (.int 6)) (aa Ll (aa Ll (aa Pq ag)))) [qL 0, qI p, qn, qn, qn, qn, qn, qn, qn] s1=.ok (.loc s1.length) s2:=by rw[de (vs:=Gm.map aj.int) (s1:=s1) rfl (by decide),e2]
 have d4:a_ (aa dE ag) [qL 0, qI p, qI z, qL a, qn, qn, qn, qn, qn] s3=.ok (.loc s3.length) s4:=by rw[de (vs:=[.int 0]) (s1:=s3) rfl (by decide),e4]
 have d7:a_ (aa cH ag) [qL 0, qI p, qI z, qL a, qn, qn, qn, qn, qn] s6=.ok (.loc s6.length) s7:=by rw[de (vs:=[.int 1]) (s1:=s6) rfl (by decide),e7]
 unfold PM.qM PM.wq PM.wm PM.wk;generalize a_ (aa Kf (aa Pq (aa (mC (.int 5)) (aa (mC (.int 7)) ag))))=M1 at d1⊢;generalize a_ (aa (mC (.int 6)) (aa Ll (aa Ll (aa Pq ag))))=M2 at d2⊢;generalize a_ (aa dE ag)=M4 at d4⊢;generalize a_ (aa cH ag)=M7 at d7⊢;generalize PM.lM M=T at e'⊢;simp only[bC,aq,aF,aS,bg,aD,aM,aE,aC,aw,bK,bN,aG,av,aA,aP,bf,gZ,fi,aO,aU,aK,Vq,VQ,VI,Vx,VN,VC,Vp,Vr,Nat.reduceSub,Vl,VB,Nat.reduceAdd,d1,c0,fY (j:=4) (by decide),g1,c1,d2,c2,g2,fY (j:=m) (by lia),<-hz,c3,e3,d4,kd,m5,a6,d7,a8,e']
open PySem.Spec L2 MN
open PyProof.Rows hiding St
def top(i:Nat):Stmt:=PySem.Challenge.pw_polyring_k21_small_ones.main.body.getD i (.Pass ⟨0,0,0,0⟩)
structure Txt(P:_n)(w:World)(K:_c)(mg:_a)(base:Heap):Prop where
 gl:MgK K mg
 b:Mp mg ["abs","all","bool","enumerate","int","isinstance","len","list","max","range","sorted","tuple","zip"]
 c:Mq K mg ["NoRing","NoPrime","NoInverse","NoParts","NotPlain"]
 Bo:Glob K mg "MOST_RING" (.int 997)
 wy:Glob K mg "FIRST_PRIMES" PM.gX
theorem M6{e:Expr}{m:ME}{i:Nat}{pos:Pos}(hN:X.N.Nodup)(he:PE X e (tE X E m))(hi:X.N[i]?=some x:=by rfl)(hx:Loc X.env.scope x:=by first|exact Or.inl rfl|exact Or.inr rfl)(hs:swapsWith e (some (.Name x pos')) pos.line X.env=pure false:=by rfl)(hf:X.fn x=true\/X.env.scope.names.lookup x=some .local:=by first|exact .inl rfl|exact .inr rfl|assumption):PS X (.Assign [.Name x pos'] e pos) (tS X E (aJ i m)):=Px i hN he hi hx hs hf
section
variable{P:_n}{w:World}{K:_c}{mg:_a}{base:Heap}(T:Txt P w K mg base)
def abq:Option Expr:=Jz (dZ (top 45))
def M:jO:=⟨TX abq "factors.<locals>.<lambda>" ["entry"] "","factors",188,39⟩
theorem abr:M.S.NV:=gA.abf rfl rfl rfl rfl rfl (by decide +kernel) (λ_ _ _ _=>rF λ_=>rfl)
theorem wz:iz ["prime","row","pair","found","part","many"] ["prime","row"] (bb (top 45)):=d9
theorem J9:iz ["_law_script","_law_prime","_law_size","_law_row","_law_due","_law_proof","_law_found","_law_many","_law_left"] ["_law_script"] (bb (top 60)):=d9
seal L2.PE L2.PT L2.PA L2.PS L2.oV L2.PG L2.BE L2.PI L2.Dt L2.PEE L2.aaQ
set_option hygiene false
local macro_rules|`(tactic|trivial)=>`(tactic|repeat' first|((with_reducible show PA _ (_::_) _);refine uw ?_ ?_)|with_reducible exact B7|((with_reducible show PE _ (.Name ..) _);first|exact B4 _|exact DB (by rfl) T.Bo|exact DB (by rfl) T.wy)|((with_reducible show PE _ (.Constant ..) _);first|exact B5|exact Tp|exact Pf|exact Pg)|((with_reducible show PE _ _ (tG _ _ _ (ao B_ _)));refine km (Fd hr.hd) (by rfl) (nY T.b (by decide +kernel)) PyProof.Rows.boot_all ?_)|((with_reducible show PE _ _ (tG _ _ _ (ao Az _)));refine km E? (by rfl) (nY T.b (by decide +kernel)) PyProof.Rows.boot_abs ?_)|((with_reducible show PE _ _ (tG _ _ _ (ao bc _)));refine km xP (by rfl) (nY T.b (by decide +kernel)) boot_len ?_)|((with_reducible show PE _ _ (tG _ _ _ (ao rm _)));refine xN Fc (by rfl) (nY T.b (by decide +kernel)) PyProof.Rows.boot_list ?_)|((with_reducible show PE _ _ (tG _ _ _ (ao B9 _)));refine xN Fb (by rfl) (nY T.b (by decide +kernel)) PyProof.Rows.boot_tuple ?_)|((with_reducible show PE _ _ (tG _ _ _ (ao Fm _)));refine km (Fn hr.hd) (by rfl) (nY T.b (by decide +kernel)) PyProof.Rows.Boot.«max» ?_)|((with_reducible show PE _ _ (tG _ _ _ (ao qx _)));refine km (A5 hr.hd) (by rfl) (nY T.b (by decide +kernel)) PyProof.Rows.Boot.«sorted» ?_)|((with_reducible show PE _ _ (tG _ _ _ (ao _ _)));refine TJ (by assumption) hr (by decide) (by rfl) (by first|exact Hm|exact TC) ?_)|((with_reducible show PE _ _ (tG _ _ _ (ai bS _ _)));refine Ce ?_ ?_)|((with_reducible show PE _ _ (tG _ _ _ (ai sW _ _)));refine LJ hr.units ?_ ?_)|((with_reducible show PE _ _ (tG _ _ _ (B6 _ _)));refine Pk ?_ ?_)|((with_reducible show PE _ _ (tG _ _ _ (mOr _ _)));refine Tr ?_ ?_)|((with_reducible show PE _ _ (tG _ _ _ (Ke _ _ _)));refine Tt ?_ ?_ ?_)|((with_reducible show PE _ _ (tG _ _ _ (gW _)));refine Hv ?_)|((with_reducible show PE _ _ (tG _ _ _ (a_ _)));refine Pt ?_)|((with_reducible show PE _ _ (tG _ _ _ (Ci _ _ _)));refine TK ?_ ?_ ?_)|((with_reducible show PE _ _ (tG _ _ _ (uL _ _)));refine FX ?_ ?_)|((with_reducible show PE _ _ (tG _ _ _ (yM)));refine HX)|((with_reducible show PE _ (.BinOp ..) _);first|refine QM ?_ ?_|refine QL ?_ ?_|refine QI ?_ ?_|refine QJ ?_ ?_|refine QK ?_ ?_|refine QN ?_ ?_)|((with_reducible show PE _ (.Compare ..) _);first|refine Ux hr.units ?_ ?_|refine Uy hr.units ?_ ?_|refine m7 HB ?_ ?_|refine m7 HC ?_ ?_|refine m7 HD ?_ ?_|refine m7 HE ?_ ?_|refine m7 HJ ?_ ?_|refine m7 HL ?_ ?_)|((with_reducible show PE _ (.UnaryOp ..) _);first|refine Py ?_|refine Pl ?_)|((with_reducible show PE _ (.Call (.Attribute ..) ..) _);first|refine Fo ?_ ?_|refine Fp ?_ ?_|refine LZ ?_)|((with_reducible show PE _ _ (tG _ _ _ (mIs _ _)));first|refine HN HP (by rfl) (nY T.b (by decide +kernel)) (by rfl) (nY T.b (by decide +kernel)) PyProof.Rows.boot_int ?_|refine HN Fe (by rfl) (nY T.b (by decide +kernel)) (by rfl) (nY T.b (by decide +kernel)) PyProof.Rows.boot_bool ?_)|((with_reducible show oV _ [_] _);refine Hw ?_)|((with_reducible show oV _ (_::_) _);refine DD ?_ ?_)|with_reducible exact Pu|((with_reducible show PS _ (.Assign [.Name ..] ..) _);refine M6 (by assumption) ?_)|((with_reducible show PS _ (.Assign [.Subscript ..] ..) _);first|refine LK hr.units ?_ ?_ ?_|refine LR ?_ ?_ ?_)|((with_reducible show PS _ (.Return ..) _);refine Pw ?_)|((with_reducible show PS _ (.If ..) _);refine Tv ?_ ?_ ?_)|((with_reducible show PS _ (.Expr ..) _);refine Ln ?_)|((with_reducible show PS _ (.While ..) _);refine HU AB ?_ ?_)|((with_reducible show PS _ (.For ..) _);refine PU AB rfl ?_ ?_ ?_)|((with_reducible show PS _ (.Raise ..) _);refine Fi Cb rfl (U5 T.c (by decide +kernel)) (by rfl) ?_)|((with_reducible show PI _ _ _ (tG _ _ _ (gr _)));refine PQ ?_)|((with_reducible show PI _ _ (.Call ..) _);first|refine Ff (by rfl) (nY T.b (by decide +kernel)) ?_|refine Fg (by rfl) (nY T.b (by decide +kernel)) ?_|refine LW (by rfl) (nY T.b (by decide +kernel)) ?_|refine PR _ _ (by rfl) (nY T.b (by decide +kernel)) ?_|refine LX (by rfl) (nY T.b (by decide +kernel)) ?_)|((with_reducible show PG _ (.Name ..) _);exact LF _ (by assumption))|((with_reducible show PG _ (.Tuple ..) _);refine PJ rfl ?_)|((with_reducible show BE _ (_::_) _);refine HQ ?_ ?_)|with_reducible exact LG|((with_reducible show Dt _ [] _);exact LH)|((with_reducible show Dt _ [_] _);refine LI ?_)|((with_reducible show PT _ (.Compare ..) _);first|refine Uv hr.units ?_ ?_|refine Uw hr.units ?_ ?_|refine Ut ?_ ?_|refine Uu ?_ ?_|refine m8 HC ?_ ?_|refine m8 HE ?_ ?_|refine m8 HJ ?_ ?_|refine m8 HL ?_ ?_)|((with_reducible show PT _ (.UnaryOp ..) _);refine Pp ?_)|((with_reducible show PT _ (.BoolOp ..) _);refine aaX ?_)|((with_reducible show PT _ _ (tG _ _ _ (f9 _)));refine Ph ?_)|refine LM ?_|exact LL|refine Ts ?_ ?_|refine Pn ?_|refine Po ?_ ?_|refine Lk ?_|refine Pj ?_|((with_reducible show oV _ _ _);first|refine Hw ?_|refine DD ?_ ?_))
include T
theorem Bp(F:d! K "is_whole" (top 10)):FnAt P w K mg base "is_whole" 1 PM.qc:=
 FnAt.ke F T.gl (d9 (N:=["thing"]) (P:=["thing"])) (λ_ _ _ _ s _ _ nd hr=>by
 trivial)
variable(C2:FnAt P w K mg base "is_whole" 1 PM.qc)
theorem pN(F:d! K "is_prime_within" (top 11)):FnAt P w K mg base "is_prime_within" 1 PM.cI:=
 FnAt.ke F T.gl (d9 (N:=["number"]) (P:=["number"])) (λ_ _ _ _ s _ _ nd hr=>by
 have:(["prime","number"]:_i).Nodup:=by decide +kernel
 trivial
 .refine f7 (N:=["prime","number"]) (k:=1) rfl rfl (jI (cl:=[("number",s.heap.objs.size+1)])) ?_ (λ_ _ _ _=>?_) (λ_ _ _ _=>?_) (λ_ _ _ _=>?_)<;>trivial)
variable(qO:FnAt P w K mg base "is_prime_within" 1 PM.cI)
theorem wA(F:d! K "signed_unit" (top 15)):FnAt P w K mg base "signed_unit" 1 PM.gb:=
 FnAt.ke F T.gl (d9 (N:=["number"]) (P:=["number"])) (λ_ _ _ _ s _ _ nd hr=>by
 trivial)
variable(xn:FnAt P w K mg base "signed_unit" 1 PM.gb)
theorem sf(F:d! K "whole_inverse" (top 18)):FnAt P w K mg base "whole_inverse" 1 PM.j9:=
 FnAt.ke F T.gl (d9 (N:=["number"]) (P:=["number"])) (λ_ _ _ _ s _ _ nd hr=>by
 trivial)
variable(t7:FnAt P w K mg base "whole_inverse" 1 PM.j9)
theorem t8(F:d! K "row_of_rests" (top 20)):FnAt P w K mg base "row_of_rests" 1 PM.cz:=
 FnAt.ke F T.gl (d9 (N:=["prime","numbers","row"]) (P:=["prime","numbers"])) (λ_ _ _ _ s _ _ nd hr=>by
 have:(["number","prime"]:_i).Nodup:=by decide +kernel
 trivial
 .refine MN.jn 2 (N:=["number","prime"]) (k:=1) nd rfl rfl (jI (cl:=[("prime",s.heap.objs.size+1)])) ?_ (λ_ _ _ _=>?_) (λ_ _ _ _=>?_) (λ_ _ _ _=>?_)<;>trivial)
variable(fC:FnAt P w K mg base "row_of_rests" 1 PM.cz)
theorem t9(F:d! K "with_noughts" (top 22)):FnAt P w K mg base "with_noughts" 1 PM.ee:=
 FnAt.ke F T.gl (d9 (N:=["row","length"]) (P:=["row","length"])) (λ_ _ _ _ s _ _ nd hr=>by
 trivial)
variable(nZ:FnAt P w K mg base "with_noughts" 1 PM.ee)
theorem qP(F:d! K "without_column" (top 35)):FnAt P w K mg base "without_column" 1 PM.fu:=
 FnAt.ke F T.gl (d9 (N:=["prime","row","step","column","factor"]) (P:=["prime","row","step","column"])) (λ_ _ _ _ s _ _ nd hr=>by
 have:(["one","other","factor","prime"]:_i).Nodup:=by decide +kernel
 trivial
 .refine f7 (N:=["one","other","factor","prime"]) (k:=2) rfl rfl (EA (cl:=[("factor",s.heap.objs.size+2),("prime",s.heap.objs.size+1)]) (cl':=[("prime",s.heap.objs.size+1),("factor",s.heap.objs.size+2)]) (caps':=[0,4])) ?_ (λ_ _ _ _=>?_) (λ_ _ _ _=>?_) (λ_ _ _ _=>?_)<;>trivial) (λ_ _ _ _ _ _=>P0 λ_ _ _ _=>rfl)
variable(sg:FnAt P w K mg base "without_column" 1 PM.fu)
theorem Bq(F:d! K "unit_row" (top 37)):FnAt P w K mg base "unit_row" 1 PM.kx:=
 FnAt.ke F T.gl (d9 (N:=["place","length"]) (P:=["place","length"])) (λ_ _ _ _ s _ _ nd hr=>by
 have:(["k","place"]:_i).Nodup:=by decide +kernel
 trivial
 .refine f7 (N:=["k","place"]) (k:=1) rfl rfl (jI (cl:=[("place",s.heap.objs.size+1)])) ?_ (λ_ _ _ _=>?_) (λ_ _ _ _=>?_) (λ_ _ _ _=>?_)<;>trivial)
variable(C4:FnAt P w K mg base "unit_row" 1 PM.kx)
theorem t_(F:d! K "_law_cell_at" (top 53)):FnAt P w K mg base "_law_cell_at" 1 PM.bO:=
 FnAt.ke F T.gl (d9 (N:=["_law_script","_law_k","_law_cell","_law_one","_law_two"]) (P:=["_law_script","_law_k"])) (λ_ _ _ _ s _ _ nd hr=>by
 trivial)
variable(wB:FnAt P w K mg base "_law_cell_at" 1 PM.bO)
theorem Br(F:d! K "_law_cut" (top 54)):FnAt P w K mg base "_law_cut" 1 PM.oz:=
 FnAt.ke F T.gl (d9 (N:=["_law_numbers","_law_many"]) (P:=["_law_numbers"])) (λ_ _ _ _ s _ _ nd hr=>by
 trivial)
variable(wC:FnAt P w K mg base "_law_cut" 1 PM.oz)
theorem zK(F:d! K "_law_rest" (top 56)):FnAt P w K mg base "_law_rest" 1 PM.jH:=
 FnAt.ke F T.gl (d9 (N:=["_law_prime","_law_row","_law_by","_law_left","_law_taken","_law_number","_law_far","_law_k","_law_away"]) (P:=["_law_prime","_law_row","_law_by"])) (λ_ _ _ _ s _ _ nd hr=>by
 trivial)
variable(tH:FnAt P w K mg base "_law_rest" 1 PM.jH)
theorem pO(F:d! K "_law_plain_rows" (top 58)):FnAt P w K mg base "_law_plain_rows" 1 PM.fB:=
 FnAt.ke F T.gl (d9 (N:=["_law_prime","_law_power","_law_found","_law_k","_law_longer","_law_row","_law_number"]) (P:=["_law_prime","_law_power"])) (λ_ _ _ _ s _ _ nd hr=>by
 have:(["_law_row"]:_i).Nodup:=by decide +kernel
 trivial
 .refine f7 (N:=["_law_row"]) (k:=1) rfl rfl (jI (cl:=[])) ?_ (λ_ _ _ _=>?_) (λ_ _ _ _=>?_) (λ_ _ _ _=>?_)<;>trivial)
variable(qQ:FnAt P w K mg base "_law_plain_rows" 1 PM.fB)
include C2 qO in
theorem C5(F:d! K "is_ring" (top 12)):FnAt P w K mg base "is_ring" 2 PM.kQ:=
 FnAt.ke F T.gl (d9 (N:=["thing"]) (P:=["thing"])) (λ_ _ _ _ s _ _ nd hr=>by
 trivial)
variable(yk:FnAt P w K mg base "is_ring" 2 PM.kQ)
include xn in
theorem Gn(F:d! K "shared" (top 16)):FnAt P w K mg base "shared" 2 PM.shared:=
 FnAt.ke F T.gl (d9 (N:=["one","other","upper","lower","often","following"]) (P:=["one","other"])) (λ_ _ _ _ s _ _ nd hr=>by
 have:(["high","low","often"]:_i).Nodup:=by decide +kernel
 trivial
 .refine f7 (N:=["high","low","often"]) (k:=2) rfl rfl (jI (cl:=[("often",s.heap.objs.size+1)])) ?_ (λ_ _ _ _=>?_) (λ_ _ _ _=>?_) (λ_ _ _ _=>?_)<;>trivial)
variable(J_:FnAt P w K mg base "shared" 2 PM.shared)
include fC nZ in
theorem n_(F:d! K "row_with_multiple" (top 21)):FnAt P w K mg base "row_with_multiple" 2 PM.bB:=
 FnAt.ke F T.gl (d9 (N:=["prime","ones","others","factor","length","longer"]) (P:=["prime","ones","others","factor"])) (λ_ _ _ _ s _ _ nd hr=>by
 have:(["one","other","factor"]:_i).Nodup:=by decide +kernel
 trivial
 .refine f7 (N:=["one","other","factor"]) (k:=2) rfl rfl (jI (cl:=[("factor",s.heap.objs.size+1)])) ?_ (λ_ _ _ _=>?_) (λ_ _ _ _=>?_) (λ_ _ _ _=>?_)<;>trivial) (λ_ _ _ _ _ _=>P0 λ_ _ _ _=>rfl)
variable(gw:FnAt P w K mg base "row_with_multiple" 2 PM.bB)
include fC in
theorem wD(F:d! K "row_product" (top 23)):FnAt P w K mg base "row_product" 2 PM.dB:=
 FnAt.ke F T.gl (d9 (N:=["prime","ones","others","numbers","power","number","more","other"]) (P:=["prime","ones","others"])) (λ_ _ _ _ s _ _ nd hr=>by
 trivial
 .refine DN DM ?_ ?_ ?_<;>trivial)
variable(pj:FnAt P w K mg base "row_product" 2 PM.dB)
include fC in
theorem t!(F:d! K "row_multiple" (top 24)):FnAt P w K mg base "row_multiple" 2 PM.dO:=
 FnAt.ke F T.gl (d9 (N:=["prime","row","factor"]) (P:=["prime","row","factor"])) (λ_ _ _ _ s _ _ nd hr=>by
 have:(["number","factor"]:_i).Nodup:=by decide +kernel
 trivial
 .refine f7 (N:=["number","factor"]) (k:=1) rfl rfl (jI (cl:=[("factor",s.heap.objs.size+1)])) ?_ (λ_ _ _ _=>?_) (λ_ _ _ _=>?_) (λ_ _ _ _=>?_)<;>trivial)
variable(n!:FnAt P w K mg base "row_multiple" 2 PM.dO)
include fC in
theorem t?(F:d! K "slope_of_row" (top 25)):FnAt P w K mg base "slope_of_row" 2 PM.fJ:=
 FnAt.ke F T.gl (d9 (N:=["prime","row"]) (P:=["prime","row"])) (λ_ _ _ _ s _ _ nd hr=>by
 have:(["power","row"]:_i).Nodup:=by decide +kernel
 trivial
 .refine f7 (N:=["power","row"]) (k:=1) rfl rfl (jI (cl:=[("row",s.heap.objs.size+1)])) ?_ (λ_ _ _ _=>?_) (λ_ _ _ _=>?_) (λ_ _ _ _=>?_)<;>trivial)
variable(n?:FnAt P w K mg base "slope_of_row" 2 PM.fJ)
include sg in
theorem C6(F:d! K "cleared" (top 34)):FnAt P w K mg base "cleared" 2 PM.cleared:=
 FnAt.ke F T.gl (d9 (N:=["prime","rows","step","column"]) (P:=["prime","rows","step","column"])) (λ_ _ _ _ s _ _ nd hr=>by
 have:(["row","column","prime","step"]:_i).Nodup:=by decide +kernel
 trivial
 .refine f7 (N:=["row","column","prime","step"]) (k:=1) rfl rfl (EA (cl:=[("column",s.heap.objs.size+3),("prime",s.heap.objs.size+1),("step",s.heap.objs.size+2)]) (cl':=[("step",s.heap.objs.size+2),("prime",s.heap.objs.size+1),("column",s.heap.objs.size+3)]) (caps':=[2,0,3])) ?_ (λ_ _ _ _=>?_) (λ_ _ _ _=>?_) (λ_ _ _ _=>?_)<;>trivial) (λ_ _ _ _ _ _=>P0 λ_ _ _ _=>rfl)
variable(Gp:FnAt P w K mg base "cleared" 2 PM.cleared)
include C4 in
theorem xo(F:d! K "with_units" (top 36)):FnAt P w K mg base "with_units" 2 PM.iy:=
 FnAt.ke F T.gl (d9 (N:=["rows"]) (P:=["rows"])) (λ_ _ _ _ s _ _ nd hr=>by
 have:(["place","row","rows"]:_i).Nodup:=by decide +kernel
 trivial
 .refine f7 (N:=["place","row","rows"]) (k:=2) rfl rfl (jI (cl:=[("rows",s.heap.objs.size+1)])) ?_ (λ_ _ _ _=>?_) (λ_ _ _ _=>?_) (λ_ _ _ _=>?_)<;>trivial)
variable(qR:FnAt P w K mg base "with_units" 2 PM.iy)
include wC in
theorem xq(F:d! K "_law_drawn" (top 55)):FnAt P w K mg base "_law_drawn" 2 PM.kq:=
 FnAt.ke F T.gl (d9 (N:=["_law_prime","_law_cell","_law_size","_law_numbers","_law_k","_law_mixed"]) (P:=["_law_prime","_law_cell","_law_size"])) (λ_ _ _ _ s _ _ nd hr=>by
 trivial)
variable(zL:FnAt P w K mg base "_law_drawn" 2 PM.kq)
include wC tH in
theorem uc(F:d! K "_law_divides" (top 57)):FnAt P w K mg base "_law_divides" 2 PM.eI:=
 FnAt.ke F T.gl (d9 (N:=["_law_prime","_law_by","_law_row"]) (P:=["_law_prime","_law_by","_law_row"])) (λ_ _ _ _ s _ _ nd hr=>by
 trivial)
variable(oh:FnAt P w K mg base "_law_divides" 2 PM.eI)
include yk in
theorem xr(F:d! K "check_ring" (top 13)):FnAt P w K mg base "check_ring" 3 PM.jo:=
 FnAt.ke F T.gl (d9 (N:=["ring"]) (P:=["ring"])) (λ_ _ _ _ s _ _ nd hr=>by
 trivial)
variable(zM:FnAt P w K mg base "check_ring" 3 PM.jo)
include yk in
theorem wF(F:d! K "check_prime" (top 14)):FnAt P w K mg base "check_prime" 3 PM.gO:=
 FnAt.ke F T.gl (d9 (N:=["prime"]) (P:=["prime"])) (λ_ _ _ _ s _ _ nd hr=>by
 trivial)
variable(pk:FnAt P w K mg base "check_prime" 3 PM.gO)
include nZ gw in
theorem oS(F:d! K "changes_by_prime" (top 50)):FnAt P w K mg base "changes_by_prime" 3 PM.b!:=
 FnAt.ke F T.gl (d9 (N:=["prime","rests","first","changes","place","change"]) (P:=["prime","rests","first"])) (λ_ _ _ _ s _ _ nd hr=>by
 trivial)
variable(jJ:FnAt P w K mg base "changes_by_prime" 3 PM.b!)
include qQ oh in
theorem xt(F:d! K "_law_first" (top 59)):FnAt P w K mg base "_law_first" 3 PM.kz:=
 FnAt.ke F T.gl (d9 (N:=["_law_prime","_law_row","_law_power","_law_other"]) (P:=["_law_prime","_law_row"])) (λ_ _ _ _ s _ _ nd hr=>by
 trivial)
variable(zN:FnAt P w K mg base "_law_first" 3 PM.kz)
include t7 J_ zM in
theorem C7(F:d! K "inverse" (top 17)):FnAt P w K mg base "inverse" 4 PM.inverse:=
 FnAt.ke F T.gl (d9 (N:=["ring","number"]) (P:=["ring","number"])) (λ_ _ _ _ s _ _ nd hr=>by
 trivial)
variable(oJ:FnAt P w K mg base "inverse" 4 PM.inverse)
include fC oJ in
theorem Gq(F:d! K "parted" (top 27)):FnAt P w K mg base "parted" 5 PM.parted:=
 FnAt.ke F T.gl (d9 (N:=["prime","row","by","rest","back","steps","numbers","shift","often","power","number"]) (P:=["prime","row","by"])) (λ_ _ _ _ s _ _ nd hr=>by
 trivial
 .refine DN LS ?_ ?_ ?_<;>trivial)
variable(kC:FnAt P w K mg base "parted" 5 PM.parted)
include n! oJ in
theorem qT(F:d! K "plain_multiple" (top 28)):FnAt P w K mg base "plain_multiple" 5 PM.ft:=
 FnAt.ke F T.gl (d9 (N:=["prime","row"]) (P:=["prime","row"])) (λ_ _ _ _ s _ _ nd hr=>by
 trivial)
variable(kD:FnAt P w K mg base "plain_multiple" 5 PM.ft)
include Gp oJ in
theorem C8(F:d! K "stepped" (top 33)):FnAt P w K mg base "stepped" 5 PM.oG:=
 FnAt.ke F T.gl (d9 (N:=["prime","rows","width","done","left","places","column","found","back","step"]) (P:=["prime","rows","width"])) (λ_ _ _ _ s _ _ nd hr=>by
 have:(["row","column"]:_i).Nodup:=by decide +kernel
 have:(["number","back","prime"]:_i).Nodup:=by decide +kernel
 trivial
 .refine MN.jn 7 (N:=["row","column"]) (k:=1) nd rfl rfl (jI (cl:=[("column",s.heap.objs.size+2)])) ?_ (λ_ _ _ _=>?_) (λ_ _ _ _=>?_) (λ_ _ _ _=>?_)<;>trivial
 .refine MN.jn 9 (N:=["number","back","prime"]) (k:=1) nd rfl rfl (EA (cl:=[("back",s.heap.objs.size+3),("prime",s.heap.objs.size+1)]) (cl':=[("prime",s.heap.objs.size+1),("back",s.heap.objs.size+3)]) (caps':=[0,8])) ?_ (λ_ _ _ _=>?_) (λ_ _ _ _=>?_) (λ_ _ _ _=>?_)<;>trivial
 .refine f7 (N:=["row","column"]) (k:=1) rfl rfl (jI (cl:=[("column",s.heap.objs.size+2)])) ?_ (λ_ _ _ _=>?_) (λ_ _ _ _=>?_) (λ_ _ _ _=>?_)<;>trivial)
variable(ym:FnAt P w K mg base "stepped" 5 PM.oG)
include kC kD in
theorem ud(F:d! K "greatest_row" (top 29)):FnAt P w K mg base "greatest_row" 6 PM.dj:=
 FnAt.ke F T.gl (d9 (N:=["prime","ones","others","upper","lower","rest"]) (P:=["prime","ones","others"])) (λ_ _ _ _ s _ _ nd hr=>by
 trivial)
variable(oj:FnAt P w K mg base "greatest_row" 6 PM.dj)
include gw pj kC in
theorem ue(F:d! K "triple_below" (top 31)):FnAt P w K mg base "triple_below" 6 PM.gm:=
 FnAt.ke F T.gl (d9 (N:=["prime","upper","lower","pair","taken"]) (P:=["prime","upper","lower"])) (λ_ _ _ _ s _ _ nd hr=>by
 have:(["place","lower","pair","prime"]:_i).Nodup:=by decide +kernel
 trivial
 .refine MN.jn 4 (N:=["place","lower","pair","prime"]) (k:=1) nd rfl rfl (EA (cl:=[("lower",s.heap.objs.size+2),("pair",s.heap.objs.size+3),("prime",s.heap.objs.size+1)]) (cl':=[("prime",s.heap.objs.size+1),("pair",s.heap.objs.size+3),("lower",s.heap.objs.size+2)]) (caps':=[0,3,2])) ?_ (λ_ _ _ _=>?_) (λ_ _ _ _=>?_) (λ_ _ _ _=>?_)<;>trivial)
variable(wG:FnAt P w K mg base "triple_below" 6 PM.gm)
include qR ym in
theorem qV(F:d! K "ways_to_nought" (top 38)):FnAt P w K mg base "ways_to_nought" 6 PM.gh:=
 FnAt.ke F T.gl (d9 (N:=["prime","rows","width","answer"]) (P:=["prime","rows","width"])) (λ_ _ _ _ s _ _ nd hr=>by
 have:(["row","width"]:_i).Nodup:=by decide +kernel
 trivial
 .refine f7 (N:=["row","width"]) (k:=1) rfl rfl (jI (cl:=[("width",s.heap.objs.size+1)])) ?_ (λ_ _ _ _=>?_) (λ_ _ _ _=>?_) (λ_ _ _ _=>?_)<;>trivial)
variable(sh:FnAt P w K mg base "ways_to_nought" 6 PM.gh)
include qR ym in
theorem qW(F:d! K "table_to_units" (top 39)):FnAt P w K mg base "table_to_units" 6 PM.fv:=
 FnAt.ke F T.gl (d9 (N:=["prime","rows","width","answer","table","place","column"]) (P:=["prime","rows","width"])) (λ_ _ _ _ s _ _ nd hr=>by
 have:(["column","rows"]:_i).Nodup:=by decide +kernel
 trivial
 .refine MN.jn 4 (N:=["column","rows"]) (k:=1) nd rfl rfl (jI (cl:=[("rows",s.heap.objs.size+1)])) ?_ (λ_ _ _ _=>?_) (λ_ _ _ _=>?_) (λ_ _ _ _=>?_)<;>trivial)
variable(si:FnAt P w K mg base "table_to_units" 6 PM.fv)
include pj kC in
theorem pP(F:d! K "powers_of_prime" (top 49)):FnAt P w K mg base "powers_of_prime" 6 PM.d?:=
 FnAt.ke F T.gl (d9 (N:=["prime","row","quotients","rests","k","upper","pair"]) (P:=["prime","row"])) (λ_ _ _ _ s _ _ nd hr=>by
 trivial)
variable(j4:FnAt P w K mg base "powers_of_prime" 6 PM.d?)
include n! oJ kC wG in
theorem Rg(F:d! K "met" (top 30)):FnAt P w K mg base "met" 7 PM.met:=
 FnAt.ke F T.gl (d9 (N:=["prime","ones","others","upper","lower","following","back","greatest","one_part","other_part"]) (P:=["prime","ones","others"])) (λ_ _ _ _ s _ _ nd hr=>by
 trivial)
variable(U7:FnAt P w K mg base "met" 7 PM.met)
include n? kC oj in
theorem sj(F:d! K "parts_by_many" (top 43)):FnAt P w K mg base "parts_by_many" 7 PM.gE:=
 FnAt.ke F T.gl (d9 (N:=["prime","row","found","step","left","unseen","seen","many","further","part"]) (P:=["prime","row"])) (λ_ _ _ _ s _ _ nd hr=>by
 trivial
 .refine PY DM nd ?_<;>trivial)
variable(uf:FnAt P w K mg base "parts_by_many" 7 PM.gE)
include fC gw kC oj in
theorem oU(F:d! K "parts_at_numbers" (top 48)):FnAt P w K mg base "parts_at_numbers" 7 PM.dW:=
 FnAt.ke F T.gl (d9 (N:=["prime","row","even","below","found","number","part"]) (P:=["prime","row","even"])) (λ_ _ _ _ s _ _ nd hr=>by
 trivial)
variable(pQ:FnAt P w K mg base "parts_at_numbers" 7 PM.dW)
include n? U7 in
theorem ug(F:d! K "paper_of_row" (top 41)):FnAt P w K mg base "paper_of_row" 8 PM.gp:=
 FnAt.ke F T.gl (d9 (N:=["prime","row","found"]) (P:=["prime","row"])) (λ_ _ _ _ s _ _ nd hr=>by
 trivial)
variable(wH:FnAt P w K mg base "paper_of_row" 8 PM.gp)
include kD uf in
theorem uh(F:d! K "parts_of_row" (top 42)):FnAt P w K mg base "parts_of_row" 8 PM.g_:=
 FnAt.ke F T.gl (d9 (N:=["prime","row","found"]) (P:=["prime","row"])) (λ_ _ _ _ s _ _ nd hr=>by
 have:(["many","found"]:_i).Nodup:=by decide +kernel
 trivial
 .refine f7 (N:=["many","found"]) (k:=1) rfl rfl (jI (cl:=[("found",s.heap.objs.size+1)])) ?_ (λ_ _ _ _=>?_) (λ_ _ _ _=>?_) (λ_ _ _ _=>?_)<;>trivial)
variable(wI:FnAt P w K mg base "parts_of_row" 8 PM.g_)
include pQ in
theorem Bs(F:d! K "split_by" (top 47)):FnAt P w K mg base "split_by" 8 PM.jE:=
 FnAt.ke F T.gl (d9 (N:=["prime","rows","even","answer","row"]) (P:=["prime","rows","even"])) (λ_ _ _ _ s _ _ nd hr=>by
 trivial)
variable(C_:FnAt P w K mg base "split_by" 8 PM.jE)
include jJ sh j4 C_ in
theorem xu(F:d! K "whole_rows" (top 46)):FnAt P w K mg base "whole_rows" 9 PM.fP:=
 FnAt.ke F T.gl (d9 (N:=["prime","row","rests","found","ways"]) (P:=["prime","row"])) (λ_ _ _ _ s _ _ nd hr=>by
 trivial)
variable(zO:FnAt P w K mg base "whole_rows" 9 PM.fP)
include pk jJ si j4 wH in
theorem C!(F:d! K "unsplit" (top 51)):FnAt P w K mg base "unsplit" 9 PM.lJ:=
 FnAt.ke F T.gl (d9 (N:=["prime","row","paper","pair","table"]) (P:=["prime","row"])) (λ_ _ _ _ s _ _ nd hr=>by
 trivial)
variable(Gr:FnAt P w K mg base "unsplit" 9 PM.lJ)
theorem M8:uQ P w K mg base M.S 0 PM.dq:=
 ⟨abr,λf c' A outer s H hr=>by
 refine Hv ?_;refine uw ?_ ?_
 .refine km ?_ (by rfl) T.b.2.2.2.2.2.2.1 boot_len ?_
  .exact xP
  refine uw ?_ B7;exact(Ce (B4 0) B5)
 refine uw ?_ B7;exact(Ce (B4 0) B5)⟩
include pk wI zO in
theorem C?{f:_l}{Rh tT:_l}(B:P! K mg base "factors" Rh tT)(F:G7 K "factors" "factors" (top 45) f fd)(hn:W.nsIn K mainGlobals "factors" = some (some (.ref f)))(S:uQ P w K mg base M.S 0 PM.dq):FnAt P w K mg base "factors" 10 (PM.qC M):=
 FnAt.mkT B F hn (T.gl _ _ hn) wz (λ_ _ _ _ _ _=>PZ λ_ _=>rfl) λA outer s H E hr=>by
 have:=wz.nd;have:(["factor","many"]:_i).Nodup:=by decide +kernel
 trivial
 .refine f7 (N:=["factor","many"]) (k:=1) rfl rfl (jI (cl:=[("many",s.heap.objs.size+1)])) ?_ (λ_ _ _ _=>?_) (λ_ _ _ _=>?_) (λ_ _ _ _=>?_)<;>trivial
 .refine Jy (L:=M) S B (hr.mono (by decide)) (by rfl) T.b.2.2.2.2.2.2.2.2.2.2.1 PyProof.Rows.Boot.«sorted» ?_<;>trivial
variable(Gu:FnAt P w K mg base "factors" 10 (PM.qC M))
include wB tH zL oh zN Gr Gu in
theorem Ri{f:_l}(F:G7 K "law" "law" (top 60) f fd):uY P w K mg base (p9 P w) 11 f fd ["_law_script"] (Pr ⟨K,mg,[]⟩ (PM.qM M)):=
 Hy F J9 λh_ A outer s H E hr=>by
 have:=J9.nd;trivial
end
theorem all_mk{l:W.OpenLaw}{w:World}(X:K.In h)(G:h.Ns mainGlobals mg)(hfa:mg "law" = some (.ref fa)){f43:_l}{abt abu:Option _l}{abv:Array (_g)}{abw abx aby abz abA:_j}{Rh:_l}{f44:_l}{abB U8:Option _l}{abC:Array (_g)}{abD U9 U_ U! Rj U?:_j}{zP:Tok}{mI:_l}{ui:Option _l}{uj:Nat}{uk:Array (_g)}{sk su sv sA sC sD sE sF sG sH qX:Tok}{d:DefRec}{tT:_l}{toc:_j}{tod:Option _l}{tsl:Array (_g)}{tvs:Array _j}(h0:d! K "is_whole" (top 10))(h1:d! K "is_prime_within" (top 11))(h2:d! K "signed_unit" (top 15))(h3:d! K "whole_inverse" (top 18))(h4:d! K "row_of_rests" (top 20))(h5:d! K "with_noughts" (top 22))(h6:d! K "without_column" (top 35))(h7:d! K "unit_row" (top 37))(h8:d! K "_law_cell_at" (top 53))(h9:d! K "_law_cut" (top 54))(h10:d! K "_law_rest" (top 56))(h11:d! K "_law_plain_rows" (top 58))(h12:d! K "is_ring" (top 12))(h13:d! K "shared" (top 16))(h14:d! K "row_with_multiple" (top 21))(h15:d! K "row_product" (top 23))(h16:d! K "row_multiple" (top 24))(h17:d! K "slope_of_row" (top 25))(h18:d! K "cleared" (top 34))(h19:d! K "with_units" (top 36))(h20:d! K "_law_drawn" (top 55))(h21:d! K "_law_divides" (top 57))(h22:d! K "check_ring" (top 13))(h23:d! K "check_prime" (top 14))(h24:d! K "changes_by_prime" (top 50))(h25:d! K "_law_first" (top 59))(h26:d! K "inverse" (top 17))(h27:d! K "parted" (top 27))(h28:d! K "plain_multiple" (top 28))(h29:d! K "stepped" (top 33))(h30:d! K "greatest_row" (top 29))(h31:d! K "triple_below" (top 31))(h32:d! K "ways_to_nought" (top 38))(h33:d! K "table_to_units" (top 39))(h34:d! K "powers_of_prime" (top 49))(h35:d! K "met" (top 30))(h36:d! K "parts_by_many" (top 43))(h37:d! K "parts_at_numbers" (top 48))(h38:d! K "paper_of_row" (top 41))(h39:d! K "parts_of_row" (top 42))(h40:d! K "split_by" (top 47))(h41:d! K "whole_rows" (top 46))(h42:d! K "unsplit" (top 51))(a43:W.nsIn K mainGlobals "factors" = some (some (.ref f43)))(l43:K.lookup f43=some ⟨abw,abt,.func (W.fnOf "factors" "factors" (gS (top 45)) (dZ (top 45)) (bb (top 45)) .none abx aby abz abu (.ref Rh) abA),abv⟩)(c43:W.codeIn K (.ref Rh) "factors" = true)(k43:W.keepIn K (.ref f43)=true)(a44:W.nsIn K mainGlobals "law" = some (some (.ref f44)))(l44:K.lookup f44=some ⟨abD,abB,.func (W.fnOf "law" "law" (gS (top 60)) (dZ (top 60)) (bb (top 60)) .none U9 U_ U! U8 Rj U?),abC⟩)(c44:W.codeIn K Rj "law" = true)(k44:W.keepIn K (.ref f44)=true)(zb:Cy K ["abs","all","bool","enumerate","int","isinstance","len","list","max","range","sorted","tuple","zip"])(zc:Cz K ["NoRing","NoPrime","NoInverse","NoParts","NotPlain"])(lO:W.nsIn K mainGlobals "MOST_RING" = some (some (.int 997 zP)))(i_:W.nsIn K mainGlobals "FIRST_PRIMES" = some (some (.ref mI)))(i!:K.lookup mI=some ⟨.type "tuple",ui,.seq #[.int 2 sk,.int 3 su,.int 5 sv,.int 7 sA,.int 11 sC,.int 13 sD,.int 17 sE,.int 19 sF,.int 23 sG,.int 29 sH,.int 31 qX] uj,uk⟩)(zr:(recsOf q).find? (λe=>e.name==("factors":Str))=some d)(zk:K.lookup Rh=some ⟨toc,tod,.fields tvs,tsl⟩)(zx:tvs[11]?=some (.ref tT))(zn:W.noTabs K=true):
  ∃(fd:FuncData)(ts:List (_l×_l)),tW q K [.tab M.own M.line M.col M.S.qual] ts/\(ts.map (·.2)).Nodup/\W.noTabs K=true/\(∀(s:_k)(v:_j),BindsTo s fd ⟨[v],[]⟩ [("_law_script",v)])/\∀base:Heap,K.In base->base.Ns mainGlobals mg->DO mg base ts->uY l.prog w K mg base (p9 l.prog w) 11 fa fd ["_law_script"] (Pr ⟨K,mg,[]⟩ (PM.qM M)):=by
 have e:=hfa.symm.trans (X' X G a44);cases e;have zt:W.tabIn K "factors" = some (Rh,tT):=P? a43 l43 rfl zk zx;refine⟨W.fnOf "law" "law" (gS (top 60)) (dZ (top 60)) (bb (top 60)) .none U9 U_ U! U8 Rj U?,[(Rh,tT)],.cons zr zt .nil,by simp,zn,λs v=>.of_eq rfl,λbase _ _ hB=>?_⟩;have T:Txt l.prog w K mg base:=⟨λ_ _ h=>X' X G h,zb.get X G,zc.get X G,Glob.int (X' X G lO),Glob.ints (ns:=[2,3,5,7,11,13,17,19,23,29,31]) (X' X G i_) i! rfl rfl (by simp[Vt]) (.cons ⟨_,rfl⟩ (.cons ⟨_,rfl⟩ (.cons ⟨_,rfl⟩ (.cons ⟨_,rfl⟩ (.cons ⟨_,rfl⟩ (.cons ⟨_,rfl⟩ (.cons ⟨_,rfl⟩ (.cons ⟨_,rfl⟩ (.cons ⟨_,rfl⟩ (.cons ⟨_,rfl⟩ (.cons ⟨_,rfl⟩ (.nil))))))))))))⟩
 have Dc:=Bp T  h0;have qY:=pN T  h1;have xw:=wA T  h2;have um:=sf T  h3;have fE:=t8 T  h4;have om:=t9 T  h5;have sI:=qP T  h6;have Dd:=Bq T  h7;have wJ:=t_ T  h8;have wK:=Br T  h9;have tJ:=zK T  h10;have qZ:=pO T  h11;have yn:=C5 T Dc qY h12;have J!:=Gn T xw h13;have gz:=n_ T fE om h14;have pv:=wD T fE h15;have oo:=t! T fE h16;have oq:=t? T fE h17;have Gv:=C6 T sI h18;have q8:=xo T Dd h19;have zQ:=xq T wK h20;have ou:=uc T wK tJ h21;have zR:=xr T yn h22;have px:=wF T yn h23;have jK:=oS T om gz h24;have zS:=xt T qZ ou h25;have oK:=C7 T um J! zR h26;have kE:=Gq T fE oK h27;have kG:=qT T oo oK h28;have yo:=C8 T Gv oK h29;have ow:=ud T kE kG h30;have wL:=ue T gz pv kE h31;have sJ:=qV T q8 yo h32;have sL:=qW T q8 yo h33;have j5:=pP T pv kE h34;have Va:=Rg T oo oK kE wL h35;have uo:=sj T oq kE ow h36;have pR:=oU T fE gz kE ow h37;have wM:=ug T oq Va h38;have wN:=uh T kG uo h39;have De:=Bs T pR h40;have zT:=xu T jK sJ j5 De h41;have Gw:=C! T px jK sL j5 wM h42;have Gx:=C? T px wN zT ⟨zt,(hB _ (.head _)).1,(hB _ (.head _)).2.1,(hB _ (.head _)).2.2⟩ (BR (st:=top 45) l43 c43 k43) a43 (M8 T );exact Ri T wJ tJ zQ ou zS Gw Gx (BR (st:=top 60) l44 c44 k44)
end zJ
namespace PySem.W.Fast
def tw14301330356289738368:=()
def tw8363528914360007851:=()
def tw7786098308597994650:=()
def tw10172454359627797678:=()
def tw9637721413014153254:=()
def tw4760034830561746831:=()
def tw11736027652500465075:=()
def tw16013364729851293690:=()
def tw5586136566856414392:=()
def tw14332336536953071098:=()
def tw4702049534756786316:=()
def tw14980850155537497230:=()
def tw12606166237083008585:=()
def tw2890786604838786248:=()
def tw14757511417707003217:=()
def tw3982418203836368191:=()
def tw12571460112124005883:=()
def tw7496816480597965619:=()
def tw14718133664488732576:=()
def tw7989822242666803892:=()
def tw8240537887624880577:=()
def tw7790596110590476515:=()
def tw733418425371941973:=()
def tw16546910407397571624:=()
def tw7830080261410078783:=()
def tw2979911325381815734:=()
def tw1958731336638875777:=()
def tw8898142001413530855:=()
def tw15581198103508921201:=()
def tw16651842929326287063:=()
def tw3013777831443518363:=()
def tw17699152009464535253:=()
def tw13623001266555142270:=()
def tw11796163877890661646:=()
def tw15358167401461347870:=()
def tw10249050522310157377:=()
def tw4936686991335563024:=()
def tw14008341234152469093:=()
def tw14065389716000652267:=()
def tw11293178213337343496:=()
def tw6145616322756684098:=()
def tw14086107105323883802:=()
def tw9530893720994342779:=()
def tw4579022733291050183:=()
def tw5114007966310338879:=()
def tw4805638825695571970:=()
def tw8865917902358476672:=()
def tw8198111567828912374:=()
def tw12686254003626886519:=()
def tw1403075079093724710:=()
def tw2880153071786429215:=()
def tw14784065544265390222:=()
def tw646338312558738974:=()
def tw18272108214672055125:=()
def tw7369366796570274964:=()
def tw483015920386789008:=()
def tw15061306146928461308:=()
def tw2907733827667085238:=()
def tw9140690293943549559:=()
def tw16846546176236449578:=()
def tw17376024268196839751:=()
def tw8678111988311657730:=()
def tw12963136913046347495:=()
def tw10161091925721937282:=()
def tw14998788629310199121:=()
def tw6046371827111780130:=()
def tw17011222286016428788:=()
def tw11114172057198158505:=()
def tw10952499730226032075:=()
def tw2538377966234128787:=()
def tw12156880116021029494:=()
def tw15535654641550102422:=()
def tw16494619091392659438:=()
def tw9247719610963381224:=()
def tw2713031142712484802:=()
def tw11917457642461465125:=()
def tw12239196800595574415:=()
def tw6655856415740154079:=()
def tw12139403805447726984:=()
def tw16788707536525428429:=()
def tw10992838045680953392:=()
def tw13864649566777462134:=()
def tw15153667130579780424:=()
def tw16524761216516641927:=()
def tw4178679509066533396:=()
def tw6025996346459400662:=()
def tw6085418589065962248:=()
def tw1816693668720372774:=()
def tw1483119980545714029:=()
def tw10699968984115270028:=()
def tw5319552948697503387:=()
def tw18437116795762988252:=()
def tw10469182667233603500:=()
def tw4229442836618817044:=()
def tw12338334937473665867:=()
def tw14075874174514105991:=()
def tw3218918368939549043:=()
def tw14930766966516126556:=()
def tw17777311042920125462:=()
def tw5535662240851604406:=()
def tw7590848889722780018:=()
def tw3286932535796862496:=()
def tw5929740096812196461:=()
def tw9047841459807984831:=()
def tw2976890567719444835:=()
def tw18276461022046783952:=()
def tw17704828515023360534:=()
def tw12781219924349574896:=()
def tw7760716578930255238:=()
def tw14643513395144213893:=()
def tw15695010394736639202:=()
def tw1166433561993997458:=()
def tw8856725585739807633:=()
def tw15000156649113960084:=()
def tw8008145103583618511:=()
def tw13880735854329445129:=()
def tw16188249186103219764:=()
def tw10999587682195114333:=()
def tw7594023873560977129:=()
def tw17770781834607019936:=()
def tw741242439721540947:=()
def tw12363677952856065693:=()
def tw4588878401313210948:=()
def tw11235659833627177598:=()
def tw1103075844478042498:=()
def tw4563919161766552690:=()
def tw14905591855949888367:=()
def tw12597589878085051062:=()
def tw12220445364930529910:=()
def tw11046469866025919707:=()
def tw17867254108971201010:=()
def tw13700819655866570989:=()
def tw12825815263369190573:=()
def tw5619770751739111797:=()
def tw15538489576596816579:=()
def tw14148987570853554279:=()
def tw13628504335986227451:=()
def tw10504263640247565037:=()
def tw544763016522886958:=()
def tw10508146198519843287:=()
def tw15585717676017623885:=()
def tw9262332956700421389:=()
def tw7279543720803359112:=()
def tw17376602047905573318:=()
def tw16094813483805347482:=()
def tw12891777909060878602:=()
def tw12140497722424868824:=()
def tw6272097479933088712:=()
def tw3494303866288352392:=()
def tw17308109529449612655:=()
def tw15376471067174808507:=()
def tw10386360255427512879:=()
def tw9373895319769027703:=()
def tw9206668882309530673:=()
def tw8111911371361168070:=()
def tw157202171963936453:=()
def tw12148023555845428382:=()
def tw17270474408479156723:=()
def tw10738059306079886274:=()
def tw9346759553423112482:=()
def tw8962294422226845144:=()
def tw2321682107732826687:=()
def tw6492697888103937585:=()
def tw11692851307055855060:=()
def tw292240128219641736:=()
def tw14572782259918680578:=()
def tw13986008214215614855:=()
def tw7366612275214189745:=()
def tw1819990967792937599:=()
def tw14780525325473262282:=()
def tw9945485151232604433:=()
def tw9677605712351051222:=()
def tw9587790752254240463:=()
def tw9540675989676880471:=()
def tw9412339427862321071:=()
def tw9159876406962144762:=()
def tw9113742836324411843:=()
def tw8843075435748076392:=()
def tw8440887935026057726:=()
def tw8276790344835859044:=()
def tw7685504101478127204:=()
def tw7375959627119211897:=()
def tw7313390471220666646:=()
def tw7197159546628836545:=()
def tw6915253639453598095:=()
def tw6801624677821607303:=()
def tw6186090704074277985:=()
def tw555887524754189807:=()
def tw5432863967755231167:=()
def tw5278338999913326616:=()
def tw4655619811542842764:=()
def tw4430379316873089818:=()
def tw3628649118647213737:=()
def tw313521514175030600:=()
def tw3032807693018979802:=()
def tw2944793808316233531:=()
def tw17611435820050022491:=()
def tw1744451549041040196:=()
def tw17146177896047331497:=()
def tw17070389661867902246:=()
def tw16521724983043066549:=()
def tw16159142116071028060:=()
def tw1600661159736455203:=()
def tw15875903358037604005:=()
def tw15792711630500062302:=()
def tw15619372890810137629:=()
def tw14715269322921159606:=()
def tw14684039313164764137:=()
def tw13866462853368860909:=()
def tw13256005076071398439:=()
def tw13062450884369565505:=()
def tw12595240145601731491:=()
def tw10169375540007986740:=()
def tw2773730165827645908:=()
def tw1755666116376834923:=()
def tw9281239412328416480:=()
def tw9142428132360062328:=()
def tw11580188498552490404:=()
def tw1110395178267158071:=()
def tw15778513457152926369:=()
def tw2049910649399490789:=()
def tw8473087779762006622:=()
def tw4719012158780092283:=()
def tw14297012903047343280:=()
def tw14286772036062967690:=()
def tw14717521405226519211:=()
def tw12697532373068157316:=()
def tw8603062328283430203:=()
def tw15492266748847936281:=()
def tw15382624489610594415:=()
def tw13741582592202589443:=()
def tw10528810977761748216:=()
def tw10351492343755266762:=()
def tw8875957008218216553:=()
def tw4567022459974718776:=()
def tw4050638368831283499:=()
def tw18372160190976740087:=()
def tw14656902518706599158:=()
def tw8104326352982923107:=()
def tw8116798303085772677:=()
def tw16963473841946885462:=()
def tw1642785317975215520:=()
def tw13984955286539975235:=()
def tw10874915655391487257:=()
def tw934904309035042289:=()
def tw12914333187178505438:=()
def tw901905174394244985:=()
def tw8143196060826319981:=()
def tw5905960777407373887:=()
def tw14040455179440731469:=()
def tw14004843965598515453:=()
def tw11094741807516297534:=()
def tw1640370085998677881:=()
def tw9995509686786259976:=()
def tw997359126142620975:=()
def tw9527080332269405098:=()
def tw9470948759633125684:=()
def tw9428580229007905257:=()
def tw9416615615582280064:=()
def tw8615485654265073387:=()
def tw8362426712962565963:=()
def tw8190966228638975040:=()
def tw8172708946238125110:=()
def tw7920378552672159126:=()
def tw7839501984666091890:=()
def tw7822968643360788279:=()
def tw7807662794698663916:=()
def tw7698283034579608379:=()
def tw7479440380238158780:=()
def tw7146315113122951574:=()
def tw6865808206324592429:=()
def tw6823994366457169375:=()
def tw6795158205895813267:=()
def tw6315417402643084000:=()
def tw628579838047076576:=()
def tw6279218130903350959:=()
def tw594773908372283678:=()
def tw5925357591401810352:=()
def tw572202413991207085:=()
def tw5109232224819468431:=()
def tw5038963819821607278:=()
def tw4968450503134053463:=()
def tw4896071338724935483:=()
def tw4883119092460074245:=()
def tw4832115406052492066:=()
def tw4491923574369302283:=()
def tw4265204281518004657:=()
def tw4216979568348165987:=()
def tw4181165455014078152:=()
def tw4121228142586347199:=()
def tw3720342182647311022:=()
def tw3480088214566347768:=()
def tw3269274279405646654:=()
def tw2875927172819033245:=()
def tw2272117384794245736:=()
def tw2084530512920365482:=()
def tw18249007846555499348:=()
def tw18168274660677803059:=()
def tw17739548805288351932:=()
def tw17662975363792614047:=()
def tw17585232472181411048:=()
def tw1742661614439917067:=()
def tw17309292320505806537:=()
def tw17172713528359020718:=()
def tw17029721961864411837:=()
def tw16915598248792484861:=()
def tw16797866003208354879:=()
def tw16331467224173847286:=()
def tw16244152697754669111:=()
end PySem.W.Fast
open PySem.W PyProof.Rows
set_option maxRecDepth 100000 in
set_option maxHeartbeats 0 in
theorem PySem.Challenge.cw_polyring_k21_small_ones_holds : PySem.Challenge.rw_polyring_k21_small_ones.Holds := by
 w_on;o_law;k_head;(case hw=>w_witness2)
 k_fill
 refine MN.Fs (f:=(PM.qM zJ.M)) (cs:=[.tab zJ.M.own zJ.M.line zJ.M.col zJ.M.S.qual]) (l:=PySem.Challenge.rw_polyring_k21_small_ones) (k:=11) (x:="_law_script") rfl rfl ⟨rfl,by decide,by decide⟩ (zJ.J8 zJ.M rfl) (λw h Y=>PySem.W.km_in_of Y) ?F
 case F=>
  intro w mg fa h KX G SU;refine' zJ.all_mk KX G SU ?h0 ?h1 ?h2 ?h3 ?h4 ?h5 ?h6 ?h7 ?h8 ?h9 ?h10 ?h11 ?h12 ?h13 ?h14 ?h15 ?h16 ?h17 ?h18 ?h19 ?h20 ?h21 ?h22 ?h23 ?h24 ?h25 ?h26 ?h27 ?h28 ?h29 ?h30 ?h31 ?h32 ?h33 ?h34 ?h35 ?h36 ?h37 ?h38 ?h39 ?h40 ?h41 ?h42 ?a43 ?l43 ?c43 ?k43 ?a44 ?l44 ?c44 ?k44 ?zb ?zc ?lO ?i_ ?i! ?zr ?zk ?zx ?zn
  (case h0|h1|h2|h3|h4|h5|h6|h7|h8|h9|h10|h11|h12|h13|h14|h15|h16|h17|h18|h19|h20|h21|h22|h23|h24|h25|h26|h27|h28|h29|h30|h31|h32|h33|h34|h35|h36|h37|h38|h39|h40|h41|h42=>refine' MN.d!.mk ?a ?l ?c ?k;(case a=>k_is);(case l=>k_is);(case c=>k_is);(case k=>k_is);skip)
  (case a43=>k_is)
  (case l43=>k_is)
  (case c43=>k_is)
  (case k43=>k_is)
  (case a44=>k_is)
  (case l44=>k_is)
  (case c44=>k_is)
  (case k44=>k_is)
  case zb=>
   repeat (refine' MN.Cy.cons ?a ?_;(case a=>k_is);skip)
   exact .nil
  case zc=>
   repeat (refine' MN.Cz.cons ?a ?e ?s ?_;(case a=>k_is);(case e=>k_exc);(case s=>k_is);skip)
   exact .nil
  (case lO=>k_is)
  (case i_=>k_is)
  (case i!=>k_is)
  (case zr=>rfl)
  (case zk=>k_is)
  (case zx=>rfl)
  (case zn=>first|k_is|kernel_rfl)
