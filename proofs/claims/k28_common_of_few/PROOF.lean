import PyProof.Rows.All
import Wide.All
import OpenK.AllK
import PySem.Challenge.RW_polyring_k28_common_of_few
set_option Elab.async false
set_option linter.all false
set_option maxRecDepth 100000
set_option maxHeartbeats 4000000
set_option compiler.extract_closed false
set_option genSizeOf false
set_option hygiene false
def yp(a:List Lean.Term):Lean.Term:=Lean.Syntax.mkApp a.head! a.tail.toArray
def yf(h n u:Lean.Term)(s:String):Lean.Term:=yp ((s.splitOn " ").reverse.foldl (λl w=>match w,l with|")",l=>[]::l|"(",a::b::r=>(yp a::b)::r|w,l=>l.modifyHead ((if w=="?" then h else if w=="!" then n else if w=="_" then u else if w==".." then ⟨.node .none `Lean.Parser.Term.ellipsis #[.atom .none w]⟩ else Lean.mkIdent w.toName)::·)) [[]]).head!
local macro_rules|`(tactic|symm)=>`(tactic|refine bcn λkj=>?_)
local macro_rules|`(tactic|rfl')=>`(tactic|(refine kj ?_;clear kj))
local macro_rules|`(tactic|left)=>`(tactic|first|exact Or.inl rfl|exact Or.inr rfl|assumption|exact Or.inr (Or.inl rfl)|exact Or.inr (Or.inr rfl))
local macro_rules|`(tactic|right)=>`(tactic|repeat first|exact .nil|refine .cons (by rfl) (by rfl) (by left) (by left) ?_)
local macro_rules|`(⋯)=>`(by first|decide|lia)
local macro_rules|`(tactic|simp![$a,*])=>do
 let l<-("ao,aJ,a9,aL,ay,cN,bC,aS,bJ,aG,aT,aH,a!,aY,aP,VE,Vt,cO,aQ,bR,aZ,ax,bA,Vv,VQ,VM,cX,VS,VB,aB,VY,cG,cE,cw,d?,V1,fh,dU,dS,iD,fO,jh,gi,g7,jg,iy,lS,eU,jC,fX,gH,pY,jR,mV,jS,v8,oS,eQ,z7,lP,yi,z_,DZ,cy,Jm,z8,z9,Pd,Jo,vZ,Jr,vY,DW,DX,mW,Nat.reduceAdd,Nat.reduceSub,Nat.reduceLeDiff".splitOn ",").mapM λs=>`(Lean.Parser.Tactic.simpLemma|$(Lean.mkIdent s.toName):ident)
 `(tactic|simp only[$(l.toArray),*,↓reduceIte,$a,*])
set_option hygiene true
open PySem
noncomputable section
abbrev _D:=Value->Shared->Prop
abbrev _E:=Str->Option Value
abbrev _F:=List (Addr×Obj)
abbrev _G:=W.Frag
abbrev _H:=List Int
abbrev _I:=List Value
abbrev _J:=Option Value
abbrev _K:=List Addr
abbrev _L:=List Str
abbrev _M:=Value
abbrev _N:=Shared
abbrev _O:=Addr
abbrev _P:=Around
abbrev _Q:=Program
theorem NE(e:α):∃x,x=e:=⟨e,rfl⟩
theorem ZB(e:α):∃x,e=x:=⟨e,rfl⟩
def Vp:=@wpAny_bind
def Vq:=@Heap.get?_push_of_some
def Vr:=@wpAny_pure
def Vs.{u,v}:=@List.length_map.{u,v}
def Vt.{u}:=@List.length_cons.{u}
def Vu.{u}:=@List.mem_cons_self.{u}
def Vv.{u,v}:=@List.map_cons.{u,v}
def Vx.{u}:=@List.getElem?_eq_getElem.{u}
def Vy:=@Nat.le_refl
def Vz:=@Heap.lt_size
def VA.{u}:=@if_pos.{u}
def VB.{u}:=@List.nil_append.{u}
def VC.{u}:=@List.length_append.{u}
def VD.{u}:=@List.size_toArray.{u}
def VE.{u}:=@List.length_nil.{u}
def VF:=@sizeLine_eq
def VG:=@Nat.lt_of_lt_of_le
def VH:=@Bool.false_ne_true
def VI:=@Heap.get?_push_size
def VJ.{u}:=@List.mem_cons_of_mem.{u}
def VL.{u}:=@if_neg.{u}
def VM.{u}:=@List.replicate_zero.{u}
def VN.{u}:=@List.getElem?_append_right.{u}
def VO.{u}:=@List.mem_cons.{u}
def VP.{u,v}:=@List.mem_map.{u,v}
def VQ.{u,v}:=@List.map_nil.{u,v}
def VR.{u,v,w}:=@List.map_map.{u,v,w}
def VS.{u}:=@List.cons_append.{u}
def VT.{u}:=@List.replicate_succ.{u}
def VU.{u}:=@List.append_assoc.{u}
def VV.{u,v}:=@List.getElem?_map.{u,v}
def VW:=@Heap.get?_update_other
def VX:=@Nat.ne_of_lt
def VY.{u}:=@List.set_cons_zero.{u}
def VZ.{u}:=@List.mem_singleton.{u}
def V0:=@decide_eq_true
def V1.{u}:=@List.set_cons_succ.{u}
def V2:=@decide_eq_false
def V3.{u}:=@Array.length_toList.{u}
def V4.{u}:=@List.getElem?_append_left.{u}
def V5:=@Bool.false_eq_true
def V6.{u}:=@beq_eq_false_iff_ne.{u}
def V7:=@Nat.le_trans
def V8:=@F.plain_max_loop
def V9:=@Nat.lt_irrefl
def V_:=@wpAny_field
def V!:=@List.length_range
def V?.{u}:=@Option.some.inj.{u}
def V'.{u}:=@List.getElem?_eq_none.{u}
def Wa.{u}:=@List.append_nil.{u}
def Wb:=@wpAny_seqItems
def Wc.{u,v}:=@List.map_congr_left.{u,v}
def Wd.{u}:=@List.nodup_cons.{u}
def We:=@Bool.not_true
def Wf:=@wpAny_newObj_type
def Wg.{u}:=@List.mem_append_right.{u}
def Wh.{u}:=@List.getElem?_eq_some_iff.{u}
def Wi:=@Int.toNat_natCast
def Wj:=@wpAny_holding
def Wk.{u}:=@List.all_eq_true.{u}
def Wl:=@wpAny_setField_rec
def Wm:=@wpAny_callSpecial?_slot
def Wn.{u}:=@List.length_replicate.{u}
def Wq.{u}:=@List.filter_eq_self.{u}
def Wr:=@wpAny_call_entry
def Ws.{u}:=@List.getElem?_set_self.{u}
def Wt:=@Bool.and_eq_true
def Wu:=@Heap.get?_update_self
def Wv:=@Nat.zero_add
def Ww.{u}:=@List.getD_eq_getElem?_getD.{u}
def Wx.{u}:=@List.filter_cons_of_pos.{u}
def Wy.{u}:=@List.filter_cons_of_neg.{u}
def Wz:=@wpAny_mono
def WA.{u}:=@List.getElem?_set_ne.{u}
def WB.{u}:=@List.eq_nil_of_length_eq_zero.{u}
def WC.{u}:=@beq_iff_eq.{u}
def WD:=@W.kia_one
def WE.{u}:=@Ne.symm.{u}
def WG.{u}:=@List.mem_of_getElem?.{u}
def WH.{u}:=@List.getElem?_drop.{u}
def WI.{u}:=@if_false.{u}
def WJ:=@Nat.sub_self
def WK:=@Nat.ne_of_gt
def WL:=@wpAny_letGo
def WM:=@F.slot_dict_keyiterator_next
def WN:=@Nat.zero_le
def WO:=@Heap.size_push
def WQ:=@codeAny_builtin
def WR:=@Obj.data_mapFields
def WS:=@Nat.lt_or_ge
def WT:=@Int.fmod_eq_emod_of_nonneg
def WU:=@Around.under_plainId
def WV:=@mem_of_lookup
def WW.{u,v}:=@List.map_append.{u,v}
def WX:=@wpAny_truthy_bool
def WY.{u}:=@beq_self_eq_true.{u}
def WZ.{u}:=@List.not_mem_nil.{u}
def W2.{u}:=@List.getElem_mem.{u}
def W3:=@wpAny_tryCatch
def W4:=@F.entry_max_loop
def W5.{u}:=@List.mem_append_left.{u}
def W6:=@W.mg_of
def W7:=@F.slot_zip_next
def W8.{u}:=@List.mem_append.{u}
def W9:=@plainId_quiet
def W_.{u}:=@List.take_of_length_le.{u}
def W!:=@wpAny_rule
def W?.{u}:=@List.length_take.{u}
def W'.{u}:=@List.length_drop.{u}
def Xa:=@Int.zero_add
def Xb:=@wpAny_updateSeq_pair
def Xc.{u,v}:=@congrArg.{u,v}
def Xd:=@Nat.lt_succ_self
def Xe.{u}:=@List.drop_eq_getElem_cons.{u}
def Xf.{u}:=@List.length_set.{u}
def Xg.{u}:=@List.find?_cons.{u}
def Xh:=@wpAny_onRaise
def Xi.{u}:=@List.flatten_cons.{u}
def Xj.{u}:=@List.any_cons.{u}
def Xk.{u}:=@List.all_cons.{u}
def Xl:=@Int.natAbs_natCast
def Xm.{u,v}:=@List.length_zip.{u,v}
def Xn:=@Heap.SameBut.update
def Xo.{u}:=@List.getElem?_replicate.{u}
def Xp:=@wpAny_typeNameOfWhole_keyiter
def Xq:=@of_decide_eq_true
def Xr:=@PyProof.Rows.callWith_type1
def Xs:=@Nat.lt_succ_of_lt
def Xt:=@wpAny_Call_Name_kw
def Xu:=@wpAny_passesOwn
def Xv:=@wpAny_attempt
def Xw:=@Obj.isFreed_of_fields
def Xx.{u}:=@List.mem_filter.{u}
def Xy:=@wpAny_pyIter_list
def Xz:=@wpAny_dictEntries
def XA:=@Classical.byContradiction
def XC.{u}:=@List.length_singleton.{u}
def XD:=@List.getElem?_range
def XE.{u,v,w}:=@List.forIn_nil.{u,v,w}
def XF:=@wpAny_setField
def XG:=@F.slot_tuple_iterator_next
def XH:=@Nat.le_succ
def XI.{u,v}:=@List.flatMap_cons.{u,v}
def XJ.{u}:=@if_true.{u}
def XM.{u,v,w}:=@List.forIn_cons.{u,v,w}
def XN.{u}:=@List.pairwise_iff_getElem.{u}
def XO.{u}:=@Array.getElem?_eq_getElem.{u}
def XQ:=@wpAny_typeNameOf_keyiter
def XR:=@List.mem_range
def XS:=@wpAny_updateSeq
def XT:=@wpAny_execs_nil
def XU:=@wpAny_tupleItemsOf
def XW:=@PyProof.Rows.slot_tuple_getitem
def XX.{u,v}:=@List.getElem_map.{u,v}
def XY:=@Bool.false_or
def XZ:=@or_false
def X0:=@Nat.pow_le_pow_right
def X1:=@Nat.log2_lt
def X2:=@PyProof.Rows.boot_isinstance
def X3.{u,v}:=@List.zip_cons_cons.{u,v}
def X4.{u}:=@List.reverse_cons.{u}
def X5:=@Int.emod_nonneg
def X6:=@W.hideAll_get
def X7:=@wpAny_isInstance
def X8:=@call_meets
def X9:=@Nat.min_self
def X_:=@Paired.length
def X!.{u}:=@List.getElem?_toArray.{u}
def X?.{u}:=@Array.getElem?_toList.{u}
def X':=@Calls.evalArgs_plain
def Ya:=@Bool.not_false
def Yb:=@decide_eq_true_eq
def Yc:=@Nat.gcd_zero_left
def Yd:=@codeAny_mono
def Ye:=@F.args_tuple_add_2
def Yf.{u,v}:=@List.lookup_cons.{u,v}
def Yg:=@tupleKind_room_in1
def Yh:=@F.entry_tuple_add
def Yi:=@Calls.spliced_cons
def Yj:=@W.cellsFrom_some
def Yk:=@F.slot_tuple_add
def Yl:=@List.range_succ_eq_map
def Ym.{u}:=@List.find?_eq_none.{u}
def Yn.{u,v}:=@List.filterMap_cons.{u,v}
def Yo:=@F.args_zip_next_1
def Yp:=@wpAny_comprehension_free
def Yq:=@F.slot_dict_get
def Yr:=@F.slot_list_getattribute
def Ys.{u}:=@List.nodup_append.{u}
def Yt.{u}:=@List.map_id.{u}
def Yu:=@wpAny_eqBool_int
def Yv:=@Int.le_refl
def Yw:=@F.entry_zip_next
def Yx:=@Bool.false_and
def Yy:=@wpAny_call
def Yz:=@F.args_dict_keyiterator_next_1
def YA.{u}:=@List.zipIdx_cons.{u}
def YB.{u}:=@List.pairwise_singleton.{u}
def YC.{u}:=@List.mem_nil_iff.{u}
def YD:=@Int.toNat_of_nonneg
def YE:=@Calls.callWith_builtin
def YF:=@F.entry_dict_keyiterator_next
def YG:=@F.slot_int_rmul
def YH:=@Bool.true_and
def YI:=@wpAny_notOrdered_dict
def YJ:=@W.callWith_K
def YK.{u}:=@List.drop_eq_nil_of_le.{u}
def YL.{u}:=@List.zipIdx_nil.{u}
def YM:=@wpAny_newTuple
def YN:=@codeAny_call_builtin
def YO:=@Nat.succ_pos
def YQ:=@Nat.succ.inj
def YR:=@Nat.le_of_lt
def YS:=@Nat.add_comm
def YT.{u}:=@List.set_append_right.{u}
def YU.{u}:=@List.length_filter_le.{u}
def YV:=@Int.mul_comm
def YW:=@Bool.not_eq_true'
def YX:=@Nat.le_of_not_lt
def YY:=@Nat.le_add_right
def YZ.{u}:=@List.take_succ.{u}
def Y0.{u}:=@List.mem_iff_getElem.{u}
def Y1.{u,v}:=@List.of_mem_zip.{u,v}
def Y2.{u,v}:=@List.filter_map.{u,v}
def Y3:=@wpAny_pyIter_tuple
def Y4:=@typeIs_int
def Y5:=@SeqAt.EqAt.str_int
def Y6:=@SeqAt.EqAt.int_str
def Y7.{u}:=@List.length_reverse.{u}
def Y8.{u}:=@List.filter_sublist.{u}
def Y9:=@Bool.or_eq_true
def Y_:=@F.attrBase_ValueError
def Y!:=@wpAny_typeOf
def Y?:=@call_meetsIn
def Y':=@Calls.spliced_nil
def Za:=@Bool.and_false
def Zb:=@wpAny_pyIter_zip
def Zc:=@wpAny_execs_cons
def Zd:=@noFill_tuple_add
def Ze.{u}:=@List.reverse_perm.{u}
def Zf:=@wpAny_of_eq
def Zg:=@intItems_at
def Zh:=@F.slot_tuple_rmul
def Zi:=@F.slot_list_index
def Zj:=@F.slot_list_count
def Zk:=@F.plainAttrs_dict
def Zl:=@F.args_dict_get_3
def Zm:=@PyProof.Rows.boot_tuple
def Zn:=@Int.emod_eq_zero_of_dvd
def Zo:=@wpAny_dictEpoch
def Zp:=@SeqAt.EqAt.same
def Zq:=@F.slot_tuple_mul
def Zr:=@F.slot_dict_iter
def Zs:=@F.entry_dict_get
def Zt:=@PyProof.Rows.boot_list
def Zu:=@Nat.succ_mul
def Zv:=@Nat.mul_comm
def Zw:=@Nat.le_of_eq
def Zx.{u}:=@List.prefix_refl.{u}
def Zy.{u,v}:=@List.mem_filterMap.{u,v}
def Zz.{u}:=@List.getElem_inj.{u}
def ZA.{u}:=@List.ext_getElem.{u}
def ZC.{u}:=@List.drop_length.{u}
def ZD:=@Int.gcd_comm
def ZE:=@Int.add_zero
def ZF:=@F.args_tuple_iterator_next_1
def ZG:=@Bool.true_or
def ZH:=@wpAny_richCompare_same_room
def ZI:=@F.slot_tuple_gt
def ZJ:=@F.slot_tuple_ge
def ZK:=@F.slot_dict_pop
def ZL:=@F.slot_dict_len
def ZM:=@Int.mul_fdiv_add_fmod
def ZN:=@F.entry_tuple_iterator_next
def ZO:=@wpAny_newFunctionEnv_cells
def ZP:=@isSubtype_stop
def ZQ:=@Walks.list
def ZR:=@Value.type.inj
def ZS.{u,v}:=@List.all_map.{u,v}
def ZT:=@Calls.Name_function_global
def ZU:=@wpAny_binaryOp_repeat_ref
def ZV:=@Nat.add_sub_cancel'
def ZW:=@wpAny_standAt
def ZY:=@wpAny_newList
def ZZ:=@seq_tuple_add
def Z0:=@of_decide_eq_false
def Z1:=@W.of_hideAll
def Z2:=@W.mg_none_of
def Z3:=@W.kitx_tuple
def Z4:=@W.codeRec_of
def Z5:=@Nat.not_lt
def Z6:=@Nat.lt_of_le_of_lt
def Z7.{u}:=@List.take_zero.{u}
def Z8.{u}:=@List.nodup_nil.{u}
def Z9.{u,v}:=@List.mem_flatMap.{u,v}
def Z_:=@List.getElem_range
def Z!:=@Int.natAbs_eq_zero
def Z?:=@Int.gcd_zero_right
def Z':=@Int.emod_lt_of_pos
def _a:=@list_append
def _b:=@W.kitx_list
def _c:=@W.kitx_dict
def _d:=@F.plain_max
def _e:=@F.entry_max
def _g:=@Nat.lt_trichotomy
def _h.{u}:=@List.mem_of_find?_eq_some.{u}
def _i:=@wpAny_pyNext_list_item
def _j.{u,v,w}:=@getElem?_pos.{u,v,w}
def _k:=@concat_meets
def _l:=@codeAny_compStart_list
def _m:=@SeqAt.ne_of_list_tuple
def _n:=@seqSlot_of
def _o:=@IsL.update
def _p:=@F.kind_max
def _q:=@Nat.succ_ne_self
def _r:=@Nat.lt_log2_self
def _s.{u}:=@Array.size_setIfInBounds.{u}
def _t:=@wpAny_pyNext_list_end
def _u:=@wpAny_isOneOf_keyiter
def _v:=@isSubtype_tuple_tuple
def _w:=@PyProof.Rows.get?_update_seq
def _x:=@codeAny_call_function
def _y:=@W.kit_cls
def _z:=@Nat.not_lt_zero
def _A.{u}:=@List.mem_singleton_self.{u}
def _B.{u}:=@List.getElem?_cons_succ.{u}
def _C:=@Int.mul_ne_zero
theorem bcn{p:Prop}(h:¬p->False):p:=XA h
variable {κ α β:Type}
variable {P:Program}
variable {h':Heap}
variable {ob oe:Obj}
variable {ae Lc:List (Addr×Obj)}
variable {t' i q k1 k2 kt d ep ah ka kb kg:Nat}
variable {ch fp ρ ρ':List Addr}
variable {it C dx f fa i1 i2 l1 l2 ea c':Addr}
variable {j power:Int}
variable {Q:Value->Shared->Prop}
variable {pos pos' Kl apos p2 bM A7 tp np q1 q2:Pos}
variable {rest hs:List ExceptHandler}
variable {es ifs elts:List Expr}
variable {tg iter value elt eb e₀:Expr}
variable {vs aI args:List Value}
variable {op:CmpOp}
variable {mA:Str->Option Value}
variable {name y:Str}
variable {ks:List (_H)}
variable {doc pm ej oc cls:Value}
variable {an od:Option Addr}
variable {AR:Array (Option Value)}
variable {items xs ys:Array Value}
variable {loose:List Str}
variable {YP:World->Heap->Prop}
variable {caps ls:List Nat}
variable {cl:List (Str×Addr)}
variable {tn:Nat->Heap->Prop}
variable {b1 b2:Bool}
variable {s₀:Shared}
variable {newId:String}
variable {h₀:ExceptHandler}
variable {b₀:Stmt}
variable {gU:List Stmt}
namespace L2
open PySem.Spec PyProof.Rows
abbrev cT:=Sum Int Str
def rV:cT->_M->Bool
 |.inl k,v=>Value.isInt k v
 |.inr x,v=>Value.isStrOf x v
def Rh(w:World):cT->Int
 |.inl k=>hashInt k
 |.inr x=>hashStr w x
theorem dj:∀{k:cT}{v:_M},rV k v=true->(∃i t,k=Sum.inl i/\v=Value.int i t)\/(∃x t,k=Sum.inr x/\v=Value.str x t)
 |.inl i,v,h=>by obtain⟨t,e⟩:=Value.isInt_shape (k:=i) (v:=v) h;exact .inl ⟨i,t,rfl,e⟩
 |.inr x,v,h=>by obtain⟨t,e⟩:=Value.isStrOf_shape (x:=x) (v:=v) h;exact .inr ⟨x,t,rfl,e⟩
theorem AE(i:Int)(t:Tok):rV (.inl i) (.int i t)=true:=by simp[rV,Value.isInt]
theorem AF(x:Str)(t:Tok):rV (.inr x) (.str x t)=true:=by simp[rV,Value.isStrOf]
theorem JP(a b:Int):decide ((Sum.inl a:cT)=Sum.inl b)=(a==b):=by
 by_cases e:a=b
 .subst e;simp
 .have h:¬ (Sum.inl a:cT)=Sum.inl b:=λq=>e (Sum.inl.inj q);rw[V2 h];exact(V6.mpr e).symm
theorem JQ(a b:Str):decide ((Sum.inr a:cT)=Sum.inr b)=decide (a=b):=by
 by_cases e:a=b
 .subst e;simp
 .have h:¬ (Sum.inr a:cT)=Sum.inr b:=λq=>e (Sum.inr.inj q);rw[V2 h,V2 e]
theorem JR(a:Int)(b:Str):decide ((Sum.inl a:cT)=Sum.inr b)=false:=V2 (λq=>nomatch q)
theorem JS(a:Str)(b:Int):decide ((Sum.inr a:cT)=Sum.inl b)=false:=V2 (λq=>nomatch q)
def c_(prog:_Q)(w:World):PySem.KeyKind prog w cT where
 is:=rV
 hash:=Rh w
 inj:=λv a b ha hb=>by
  rcases dj ha with⟨i,t,rfl,rfl⟩|⟨x,t,rfl,rfl⟩
  .rcases dj hb with⟨j,u,rfl,e⟩|⟨y,u,rfl,e⟩
   .injection e with e1 _;rw[e1]
   .exact nomatch e
  .rcases dj hb with⟨j,u,rfl,e⟩|⟨y,u,rfl,e⟩
   .exact nomatch e
   .injection e with e1 _;rw[e1]
 byValue:=λk v h=>by rcases dj h with⟨i,t,rfl,rfl⟩|⟨x,t,rfl,rfl⟩<;>rfl
 pyHash:=λhv h=>by
  rcases dj hv with⟨i,t,rfl,rfl⟩|⟨x,t,rfl,rfl⟩
  .exact wpAny_pyHash_int h
  .exact wpAny_pyHash_str h
 eqBool:=λhu hv h=>by
  rcases dj hu with⟨i,t,rfl,rfl⟩|⟨x,t,rfl,rfl⟩
  .rcases dj hv with⟨j,u,rfl,rfl⟩|⟨y,u,rfl,rfl⟩
   .rw[JP]at h;exact Yu h
   .rw[JR]at h;exact Y6 i t y u _ _ _ _ h
  .rcases dj hv with⟨j,u,rfl,rfl⟩|⟨y,u,rfl,rfl⟩
   .rw[JS]at h;exact Y5 x t j u _ _ _ _ h
   .rw[JQ]at h;exact wpAny_eqBool_str h
 «strs»:=λk x t v h=>by
  rcases dj h with⟨i,u,rfl,e⟩|⟨y,u,rfl,e⟩
  .exact nomatch e
  .injection e with e1 _;subst e1;cases v<;>rfl
theorem vg(prog:_Q)(w:World)(i:Int)(t:Tok):(c_ prog w).is (.inl i) (.int i t)=true:=AE i t
theorem vh(prog:_Q)(w:World)(x:Str)(t:Tok):(c_ prog w).is (.inr x) (.str x t)=true:=AF x t
inductive V where
 |c6|bl (b:Bool)|int (i:Int)|str (x:Str)|Ri (b:Array UInt8)|oJ (b:UInt64)|ref (a:_O)|ty (n:String)
 deriving DecidableEq
def bD:V->_M->Prop
 |.c6,u=>u=Value.none
 |.bl b,u=>u=Value.bool b
 |.int i,u=>∃t,u=Value.int i t
 |.str x,u=>∃t,u=Value.str x t
 |.Ri b,u=>∃t,u=Value.bytes b t
 |.oJ b,u=>∃t,u=Value.float b t
 |.ref a,u=>u=Value.ref a
 |.ty n,u=>u=Value.type n
abbrev bw:List V->_I->Prop:=Paired bD
theorem bw.length{xs:List V}{us:_I}(r:bw xs us):xs.length=us.length:=X_ r
theorem bw.get:∀{xs:List V}{us:_I}{i:Nat}{x:V},bw xs us->xs[i]?=some x->∃u,us[i]?=some u/\bD x u
 |_,_,_,_,.nil,e=>by simp at e
 |_,_,0,_,.cons r _,e=>by simp at e;subst e;exact⟨_,rfl,r⟩
 |_,_,i+1,x,.cons _ t,e=>by obtain⟨u,h1,h2⟩:=bw.get (i:=i) (x:=x) t (by simpa using e);exact⟨u,by simpa using h1,h2⟩
theorem bw.append:∀{xs ys:List V}{us ws:_I},bw xs us->bw ys ws->bw (xs++ys) (us++ws)
 |_,_,_,_,.nil,s=>s
 |_,_,_,_,.cons r t,s=>.cons r (bw.append t s)
theorem bw.take:∀{xs:List V}{us:_I}(n:Nat),bw xs us->bw (xs.take n) (us.take n)
 |_,_,0,_=>.nil
 |_,_,_+1,.nil=>.nil
 |_,_,n+1,.cons r t=>.cons r (bw.take n t)
theorem bw.drop:∀{xs:List V}{us:_I}(n:Nat),bw xs us->bw (xs.drop n) (us.drop n)
 |_,_,0,r=>r
 |_,_,_+1,.nil=>.nil
 |_,_,n+1,.cons _ t=>bw.drop n t
def k9:Option V->_J->Prop
 |some v,some u=>bD v u
 |none,none=>True
 |_,_=>False
def KV:List (κ×V)->List (κ×_M)->Prop:=Paired λ(p:κ×V)(q:κ×_M)=>p.1=q.1/\bD p.2 q.2
def kV:cT->V
 |.inl i=>.int i
 |.inr x=>.str x
inductive HO where
  |lst (xs:List V)
  |tup (xs:List V)
  |dK (aD:List (cT×V))|dT (aD:List (List cT×V))
  |set (S:Int->Bool) (n:Nat)
  |ins (C dx:_O) (fs:List (Str×V))
  |own (x:_O)
  |xd (fs:List (Str×V))
  |met (f x:_O)
  |Qt (lo hi:Int)
  |kx (o:Obj) (u:HO)
  |FD (ps:Array _M)
  |ext (φ:Heap->Prop)
abbrev Hp:=_O->Option HO
def upd(H:Hp)(a:_O)(o:HO):Hp:=λb=>if b=a then some o else H b
theorem cg{H:Hp}{a:_O}{o:HO}:upd H a o a=some o:=by unfold upd;rw[VA rfl]
theorem a8{H:Hp}{a b:_O}{o:HO}(h:b≠a):upd H a o b=H b:=by unfold upd;rw[VL h]
theorem IU{H:Hp}{a b:_O}{o u:HO}(h:H a=some o)(h':H b=some u)(d:o≠u):a≠b:=by intro e;subst e;rw[h]at h';exact d (V? h')
theorem bc{H:Hp}{a b:_O}{o:HO}(h:H a=some o)(h':H b=none):a≠b:=by intro e;subst e;rw[h]at h';cases h'
section
variable(P:_Q)(w:World)
def cj(H:Hp)(h:Heap)(a:_O):HO->Prop
 |.lst xs=>xs.length<=sizeLine/\∃(aI:_I)(n:Nat),bw xs aI/\h.get? a=some {cls:=.type "list",data:=.seq aI.toArray n}
 |.tup xs=>xs.length<=sizeLine/\∃aI:_I,bw xs aI/\IsTup h a aI.toArray
 |.dK aD=>aD.length<=sizeLine/\(a==sysModules)=false/\∃vs,KV aD vs/\h.DictOf (c_ P w) a vs
 |.dT aD=>aD.length<=sizeLine/\(a==sysModules)=false/\∃xs:List (List cT×_O×_M),
   Paired (λ(p:List cT×V)(q:List cT×_O×_M)=>p.1=q.1/\H q.2.1=some (.tup (p.1.map kV))/\bD p.2 q.2.2) aD xs /\
   ∃o es ep,h.get? a=some o/\o.ExactDict/\o.data=.dict es ep/\es.toList=xs.map (entryOfKey (tupleKind (c_ P w)))/\(xs.map (·.1)).Nodup
 |.set S n=>h.SetOf (intKind P w) a S n
 |.ins C dx fs=>H dx=some (.own a)/\fs.length<=1000/\dx≠a/\h.get? a=some (W.instObj C dx) /\
   ∃mA,h.Ns1 dx mA/\(∀f,k9 (fs.lookup f) (mA f))/\PySem.Within mA (fs.map (·.1))
 |.own _=>∃o,h.get? a=some o
 |.xd fs=>∃mA,h.Ns1 a mA/\∀f,k9 (fs.lookup f) (mA f)
 |.Qt lo hi=>∃t u v,h.get? a=some {cls:=.type "range",data:=.fields #[.int lo t,.int hi u,.int 1 v]}
 |.kx o u=>h.get? a=some o/\cj H h a u
 |.FD ps=>h.get? a=some {cls:=.none,data:=.fields ps}
 |.met f x=>h.get? a=some (W.methodObj (.ref f) (.ref x))
 |.ext φ=>φ h/\(∃o,h.get? a=some o)/\∀h1 h2:Heap,φ h1->(∀o,h1.get? a=some o->h2.get? a=some o)->φ h2
def iQ(H:Hp)(h:Heap):Prop:=∀a o,H a=some o->cj P w H h a o
end
section
variable{w:World}{H H':Hp}{h:Heap}{a:_O}{o:HO}
theorem cj.lt(x:cj P w H h a o):a<h.objs.size:=by
 cases o with
 |lst xs=>obtain⟨_,_,_,_,e⟩:=x;exact Vz e
 |tup xs=>obtain⟨_,_,_,p⟩:=x;exact p.lt
 |dK aD=>obtain⟨_,_,_,_,o,_,_,e,_⟩:=x;exact Vz e
 |dT aD=>obtain⟨_,_,_,_,o,_,_,e,_⟩:=x;exact Vz e
 |set S n=>obtain⟨o,_,_,_,e,_⟩:=x;exact Vz e
 |ins C dx fs=>obtain⟨_,_,_,e,_⟩:=x;exact Vz e
 |own y=>obtain⟨_,e⟩:=x;exact Vz e
 |xd fs=>obtain⟨_,⟨_,_,_,e,_⟩,_⟩:=x;exact Vz e
 |Qt lo hi=>obtain⟨_,_,_,e⟩:=x;exact Vz e
 |kx ob u=>obtain⟨e,_⟩:=x;exact Vz e
 |FD ps=>exact Vz (show h.get? a=some _ from x)
 |met f y=>exact Vz (show h.get? a=some _ from x)
 |ext φ=>obtain⟨_,⟨_,e⟩,_⟩:=x;exact Vz e
theorem Paired.JT{F G:α->β->Prop}:∀{l₁:List α}{l₂:List β},Paired F l₁ l₂->(∀a b,F a b->G a b)->Paired G l₁ l₂
 |_,_,.nil,_=>.nil
 |_,_,.cons r t,f=>.cons (f _ _ r) (Paired.JT t f)
theorem cj.k_(x:cj P w H h a o)(k:∀b u,(b=a\/H b=some (.own a))->h.get? b=some u->h'.get? b=some u)(ho:∀b,H b=some (.own a)->H' b=some (.own a))(ht:∀b xs,H b=some (.tup xs)->H' b=some (.tup xs)):cj P w H' h' a o:=by
 induction o with
 |lst xs=>obtain⟨z,aI,n,r,e⟩:=x;exact⟨z,aI,n,r,k _ _ (.inl rfl) e⟩
 |tup xs=>obtain⟨z,aI,r,ob,e,c⟩:=x;exact⟨z,aI,r,ob,k _ _ (.inl rfl) e,c⟩
 |dK aD=>obtain⟨z,y,vs,r,ob,es,ep,e,c⟩:=x;exact⟨z,y,vs,r,ob,es,ep,k _ _ (.inl rfl) e,c⟩
 |dT aD=>
  obtain⟨z,y,xs,r,ob,es,ep,e,c⟩:=x;exact⟨z,y,xs,Paired.JT r λp q z=>⟨z.1,ht _ _ z.2.1,z.2.2⟩,ob,es,ep,k _ _ (.inl rfl) e,c⟩
 |set S n=>obtain⟨ob,es,ep,t,e,c⟩:=x;exact⟨ob,es,ep,t,k _ _ (.inl rfl) e,c⟩
 |ins C dx fs=>
  obtain⟨d,z,ne,e,mA,⟨od,es,ep,e2,c⟩,r⟩:=x;exact⟨ho _ d,z,ne,k _ _ (.inl rfl) e,mA,⟨od,es,ep,k _ _ (.inr d) e2,c⟩,r⟩
 |own y=>obtain⟨ob,e⟩:=x;exact⟨ob,k _ _ (.inl rfl) e⟩
 |xd fs=>obtain⟨mA,⟨od,es,ep,e,c⟩,r⟩:=x;exact⟨mA,⟨od,es,ep,k _ _ (.inl rfl) e,c⟩,r⟩
 |Qt lo hi=>obtain⟨t,u,v,e⟩:=x;exact⟨t,u,v,k _ _ (.inl rfl) e⟩
 |kx ob u ih=>obtain⟨e,q⟩:=x;exact⟨k _ _ (.inl rfl) e,ih q⟩
 |FD ps=>
  have e:h.get? a=some {cls:=.none,data:=.fields ps}:=x;show h'.get? a=some {cls:=.none,data:=.fields ps};exact k a _ (.inl rfl) e
 |met f y=>
  have e:h.get? a=some (W.methodObj (.ref f) (.ref y)):=x;show h'.get? a=some (W.methodObj (.ref f) (.ref y));exact k a _ (.inl rfl) e
 |ext φ=>obtain⟨p,⟨o,e⟩,st⟩:=x;exact⟨st _ _ p λo q=>k _ _ (.inl rfl) q,⟨o,k _ _ (.inl rfl) e⟩,st⟩
theorem iQ.lt(x:iQ P w H h)(e:H a=some o):a<h.objs.size:=(x a o e).lt
theorem iQ.fresh(x:iQ P w H h)(e:h.objs.size<=a):H a=none:=by
 cases q:H a with
 |none=>rfl
 |some u=>exact absurd (VG (x.lt q) e) (V9 _)
theorem iQ.kept(x:iQ P w H h)(k:∀b u,h.get? b=some u->h'.get? b=some u):iQ P w H h':=λa o e=>
 (x a o e).k_ (λb u _ q=>k b u q) (λ_ q=>q) λ_ _ q=>q
theorem iQ.laid(x:iQ P w H h)(k:∀b u,h.get? b=some u->h'.get? b=some u)(hp:h.objs.size<=a)(new:cj P w (upd H a o) h' a o):iQ P w (upd H a o) h':=λb u e=>by
 have hn:=x.fresh hp;by_cases hb:b=a
 .subst hb;rw[cg]at e;cases e;exact new
 .rw[a8 hb]at e;exact(x b u e).k_ (λc v _ q=>k c v q) (λc q=>by rw[a8 (bc q hn)];exact q) λc xs q=>by rw[a8 (bc q hn)];exact q
end
def Rd(H:Hp)(a:_O)(u:HO):Prop:=H a=some u\/∃o,H a=some (.kx o u)
theorem Rd.ok{w:World}{H:Hp}{h:Heap}{a:_O}{u:HO}(r:Rd H a u)(x:iQ P w H h):cj P w H h a u:=by
 rcases r with r|⟨o,r⟩
 .exact x a u r
 .obtain⟨_,q⟩:=x a _ r;exact q
def NJ:Option HO->Prop
 |some (.lst _)=>True
 |some (.dK _)=>True
 |some (.dT _)=>True
 |some (.set _ _)=>True
 |some (.ins _ _ _)=>True
 |some (.ext _)=>True
 |_=>False
section
variable{w:World}{H:Hp}{h:Heap}{x e:_O}{o':HO}
theorem iQ.write(ok:iQ P w H h)(mu:NJ (H x))(he:e=x\/H e=some (.own x))(k:∀b u,b≠e->h.get? b=some u->h'.get? b=some u)(Ng:∃u,h'.get? e=some u)(new:cj P w (upd H x o') h' x o'):iQ P w (upd H x o') h':=λb u q=>by
 have NK:∀c y,H c=some (.own y)->c≠x:=λc y r z=>by subst z;rw[r]at mu;exact mu
 have Rj:∀c xs,H c=some (.tup xs)->c≠x:=λc xs r z=>by subst z;rw[r]at mu;exact mu
 by_cases hb:b=x
 .subst hb;rw[cg]at q;cases q;exact new
 .rw[a8 hb]at q;by_cases JU:b=e
  .have q':H b=some (.own x):=by
    rcases he with z|z
    .exact absurd (JU.trans z) hb
    .rw[JU];exact z
   rw[q]at q';cases q';obtain⟨v,hv⟩:=Ng;exact⟨v,by rw[JU];exact hv⟩
  .refine(ok b u q).k_ (λc v hc r=>k c v ?_ r) (λc r=>by rw[a8 (NK c b r)];exact r) λc xs r=>by rw[a8 (Rj c xs r)];exact r
   rcases hc with rfl|hc
   .exact JU
   .rintro rfl;rcases he with z|z
    .exact NK c b hc z
    .rw[hc]at z;cases z;exact hb rfl
end
structure Un(fs ex:_K)(H H':Hp)(h h':Heap):Prop where
 keep:∀b o,h.get? b=some o->H b=none->b ∉ fs->b ∉ ex->h'.get? b=some o
 slot:∀b o,h.get? b=some o->H b=none->b∈fs->b ∉ ex->∃sl,h'.get? b=some {o with slots:=sl}
 free:∀b o,h.get? b=some o->H b=none->b ∉ ex->H' b=none
 there:∀b o,h.get? b=some o->b ∉ ex->∃o',h'.get? b=some o'
 ky:∀b xs,H b=some (.tup xs)->H' b=some (.tup xs)
 j6:∀b o u,H b=some (.kx o u)->H' b=some (.kx o u)
 k!:∀b ps,H b=some (.FD ps)->∃more,H' b=some (.FD (ps++more))
section
variable{fs fs' ex ex':_K}{H H1 H2:Hp}{h h1 h2:Heap}{a x e:_O}{o:HO}
theorem Un.any(u:Un fs ex H H1 h h1){b:_O}(q:h.get? b=some ob)(n:H b=none)(hx:b ∉ ex):∃sl,h1.get? b=some {ob with slots:=sl}:=by
 by_cases hb:b∈fs
 .exact u.slot b ob q n hb hx
 .exact⟨ob.slots,u.keep b ob q n hb hx⟩
theorem Un.kept(k:∀b u,h.get? b=some u->h'.get? b=some u):Un fs ex H H h h':=
 ⟨λb ob q _ _ _=>k b ob q,λb ob q _ _ _=>⟨ob.slots,k b ob q⟩,λ_ _ _ n _=>n,λb ob q _=>⟨ob,k b ob q⟩,λ_ _ q=>q,λ_ _ _ q=>q,λ_ ps q=>⟨#[],by rw[q];simp⟩⟩
theorem Un.refl:Un fs ex H H h h:=Un.kept λ_ _ q=>q
theorem Un.laid(k:∀b u,h.get? b=some u->h'.get? b=some u)(hp:h.objs.size<=a)(hn:H a=none):Un fs ex H (upd H a o) h h' where
 keep:=λb u q _ _ _=>k b u q
 slot:=λb u q _ _ _=>⟨u.slots,k b u q⟩
 free:=λb u q n _=>by rw[a8 (VX (VG (Vz q) hp))];exact n
 there:=λb u q _=>⟨u,k b u q⟩
 ky:=λb xs q=>by rw[a8 (bc q hn)];exact q
 j6:=λb u xs q=>by rw[a8 (bc q hn)];exact q
 k!:=λb ps q=>⟨#[],by rw[a8 (bc q hn),q];simp⟩
theorem Un.write(mu:NJ (H x))(he:e=x\/H e=some (.own x))(k:∀b u,b≠e->h.get? b=some u->h'.get? b=some u)(Ng:∃u,h'.get? e=some u):Un fs ex H (upd H x o) h h':=by
 have hx:∀b,H b=none->b≠x:=λb n z=>by subst z;rw[n]at mu;exact mu
 have hb:∀b,H b=none->b≠e:=λb n z=>by
  subst z;rcases he with r|r
  .exact hx b n r
  .rw[n]at r;cases r
 have hm:∀b u,H b=some u->¬ NJ (some u)->b≠x:=λb u q nm z=>by subst z;rw[q]at mu;exact nm mu
 refine⟨λb u q n _ _=>k b u (hb b n) q,λb u q n _ _=>⟨u.slots,k b u (hb b n) q⟩,λb u q n _=>by rw[a8 (hx b n)];exact n,λb u q _=>?_,
  λb xs q=>by rw[a8 (hm b _ q λz=>z)];exact q,λb u xs q=>by rw[a8 (hm b _ q λz=>z)];exact q,λb ps q=>⟨#[],by rw[a8 (hm b _ q λz=>z),q];simp⟩⟩
 by_cases JU:b=e
 .subst JU;exact Ng
 .exact⟨u,k b u JU q⟩
end
def rW(h:Heap)(H:Hp):_K:=(List.range h.objs.size).filter λa=>(H a).isSome
def tF(h:Heap)(H:Hp):Heap:=W.hideAll h (rW h H)
theorem AG(h:Heap)(H:Hp):(tF h H).objs.size=h.objs.size:=W.hideAll_size _ _
theorem Cu{h:Heap}{H:Hp}{b:_O}{o:Obj}(e:h.get? b=some o)(n:H b=none):(tF h H).get? b=some o:=
 X6 _ e λhm=>by have q:(H b).isSome=true:=(Xx.mp hm).2;rw[n]at q;simp at q
theorem FU{h:Heap}{H:Hp}{b:_O}{o:Obj}(e:(tF h H).get? b=some o):h.get? b=some o/\H b=none:=by
 have e':h.get? b=some o:=Z1 (rW h H) e;refine⟨e',?_⟩;cases q:H b with
 |none=>rfl
 |some x=>
  have hm:b∈rW h H:=Xx.mpr ⟨XR.mpr (Vz e'),by simp[q]⟩;have z:(tF h H).get? b=none:=W.hideAll_none (rW h H) hm;rw[z]at e;cases e
structure Mod(K:_G)(mg:_E)(base:Heap):Prop where
 IV:K.In base
 glob:base.Ns mainGlobals mg
 blt:∃mb,base.Ns builtinsNs mb/\∀x:Str,x ≠ "__name__" -> mb x=bootBuiltins x
 nolimit:base.NoLimit
structure Cx where
 prog:_Q
 w:World
 K:_G
 mg:Str->_J
 base:Heap
 A:_P
 N:_L
 s₀:_N
 H₀:Hp
 env:Env
 outer:List Env
 stack:List Env
 ex:_K
 fn:Str->Bool
 calm:Bool
 pn:_F
 xe:_M->_N->Prop
def gy(l:List Env):_K:=l.filterMap (·.frame)
abbrev Cx.fs(X:Cx):_K:=gy X.outer
def FE(sc:Scope)(x:Str):Prop:=sc.names.lookup x=some .local\/sc.names.lookup x=some .cell\/sc.names.lookup x=some .free
def Loc(sc:Scope)(x:Str):Prop:=sc.names.lookup x=some .local\/sc.names.lookup x=some .cell
def Look(env:Env)(h:Heap)(m:_E)(x:Str)(u:_M):Prop:=
 (env.kindOf x=some .local/\m x=some u)\/((env.kindOf x=some .cell\/env.kindOf x=some .free)/\∃c,env.cells.lookup x=some c/\h.IsCell c (some u))
structure Cx.Ok(X:Cx):Prop where
 mod:Mod X.K X.mg X.base
 kind:X.env.scope.kind=.function
 glob:X.env.globals=mainGlobals
 blt:X.env.builtins=builtinsNs
 above:X.s₀.heap.objs.size<=X.env.locals
 inj:∀x y c,X.env.cells.lookup x=some c->X.env.cells.lookup y=some c->x=y
 has:∀x,(X.env.kindOf x=some .cell\/X.env.kindOf x=some .free)->∃c,X.env.cells.lookup x=some c
 IW:∀x c,X.fn x=true->X.env.cells.lookup x=some c->X.s₀.heap.objs.size<=c
 hd:X.calm=true->X.A.handled=none
 frames:X.A.frames=some X.stack
 FF:X.stack=X.outer\/(X.stack=X.env::X.outer/\X.env.frame=some X.env.locals)
 Qu:∀b∈X.ex,b≠X.env.locals/\∀x c,X.env.cells.lookup x=some c->c≠b
 bs:∀b o,X.base.get? b=some o->X.s₀.heap.get? b=some o/\X.H₀ b=none
 Cv:X.base.objs.size<=X.s₀.heap.objs.size
 tH:∀b o,X.base.get? b=some o->b ∉ X.ex
 AH:∀b∈X.ex,b ∉ X.fs
 jo:X.s₀.heap.FunFrames X.base X.outer
 Cn:∀b∈X.fs,X.H₀ b=none
structure aM(X:Cx)(ae:_F)(σ:List (Option V))(H:Hp)(s:_N):Prop where
 ok:X.Ok
 os:s.os=X.s₀.os
 bare:AllBare s.gens
 base:Un X.fs X.ex X.H₀ H X.s₀.heap s.heap
 loc:∃m,s.heap.Ns X.env.locals m/\∀(i:Nat)(x:Str)(v:V),X.N[i]?=some x->σ[i]?=some (some v)->FE X.env.scope x->∃u,bD v u/\Look X.env s.heap m x u
 cell:∀x c,X.env.cells.lookup x=some c->∃v,s.heap.IsCell c v
 free:H X.env.locals=none
 gA:∀x c,X.env.cells.lookup x=some c->H c=none
 pin:∀p∈X.pn++ae,s.heap.get? p.1=some p.2/\H p.1=none/\p.1≠X.env.locals/\p.1 ∉ X.fs/\∀v,p.2.data≠.cell v
 b?:iQ X.prog X.w H s.heap
 len:σ.length=X.N.length
section
variable{X:Cx}{σ:List (Option V)}{H H':Hp}{s:_N}
theorem Cx.Ok.Rk(ok:X.Ok){b:_O}{o:Obj}(e:X.base.get? b=some o):b ∉ X.fs:=λhb=>by have:=(ok.jo.mem hb).1;rw[e]at this;cases this
theorem aM.bs(I:aM X ae σ H s):∀b o,X.base.get? b=some o->s.heap.get? b=some o/\H b=none:=λb o e=>
 ⟨I.base.keep b o (I.ok.bs b o e).1 (I.ok.bs b o e).2 (I.ok.Rk e) (I.ok.tH b o e),I.base.free b o (I.ok.bs b o e).1 (I.ok.bs b o e).2 (I.ok.tH b o e)⟩
theorem aM.bk(I:aM X ae σ H s):∀b o,X.base.get? b=some o->s.heap.get? b=some o:=λb o e=>(I.bs b o e).1
theorem aM.mod(I:aM X ae σ H s):Mod X.K X.mg X.base:=I.ok.mod
theorem aM.nI(I:aM X ae σ H s):X.K.In s.heap:=I.ok.mod.IV.keeps I.bk
theorem aM.lt(I:aM X ae σ H s):X.env.locals<s.heap.objs.size:=let⟨_,hn,_⟩:=I.loc;hn.lt
theorem aM.sz(I:aM X ae σ H s):X.s₀.heap.objs.size<=s.heap.objs.size:=V7 I.ok.above (YR I.lt)
theorem aM.Rm(I:aM X ae σ H s){a:_O}(h:s.heap.objs.size<=a):a ∉ X.fs:=λhb=>by obtain⟨_,o,ho,_⟩:=I.ok.jo.mem hb;exact absurd (VG (Vz ho) (V7 I.sz h)) (V9 _)
theorem aM.AI(I:aM X ae σ H s):∀x c,X.env.cells.lookup x=some c->c≠X.env.locals:=λx c e z=>by obtain⟨v,o,ho,hd⟩:=I.cell x c e;obtain⟨m,⟨o',es,ep,rX,Rn,_⟩,_⟩:=I.loc;rw[z,rX]at ho;cases ho;rw[Rn]at hd;cases hd
theorem aM.jo(I:aM X ae σ H s):s.heap.FunFrames X.base X.outer:=by
 have all:∀(l:List Env),(∀b∈gy l,b∈X.fs)->X.s₀.heap.FunFrames X.base l->s.heap.FunFrames X.base l:=by
  intro l
  induction l with
  |nil=>intro _ _;trivial
  |cons env r ih=>
   intro hs hl;obtain⟨hk,⟨L,o,hf,hn,ho,hd⟩,hr⟩:=hl;have hL:L∈X.fs:=hs L (by unfold gy;rw[Yn,hf];exact Vu);obtain⟨sl,e⟩:=I.base.slot L o ho (I.ok.Cn L hL) hL λz=>I.ok.AH L z hL;exact⟨hk,⟨L,_,hf,hn,e,hd⟩,ih (λb hb=>hs b (by unfold gy;rw[Yn,hf];exact VJ _ hb)) hr⟩
 exact all X.outer (λ_ hb=>hb) I.ok.jo
theorem aM.stack(I:aM X ae σ H s):s.heap.FunFrames X.base X.stack:=by
 rcases I.ok.FF with e|⟨e,hf⟩
 .rw[e];exact I.jo
 .rw[e];obtain⟨m,hn,_⟩:=I.loc;refine .cons (by rw[I.ok.kind];decide) hf hn ?_ I.jo;exact Heap.get?_none_of_le (V7 I.ok.Cv I.ok.above)
theorem aM.kz(I:aM X ae σ H s):∀b∈gy X.stack,b∈X.env.locals::X.fs:=λb hb=>by
 rcases I.ok.FF with e|⟨e,hf⟩
 .rw[e]at hb;exact VJ _ hb
 .rw[e]at hb;unfold gy at hb;rw[Yn,hf]at hb;exact hb
theorem aM.oK(I:aM X ae σ H s):∀b∈gy X.stack,H b=none:=λb hb=>by
 rcases VO.mp (I.kz b hb)with e|hb
 .rw[e];exact I.free
 .obtain⟨_,o,ho,_⟩:=I.ok.jo.mem hb;exact I.base.free b o ho (I.ok.Cn b hb) λz=>I.ok.AH b z hb
theorem aM.step{g':Array GenState}{t':Nat}{d':Drawn}(I:aM X ae σ H s)(FG:∀b∈ch,(b∈X.ex\/X.s₀.heap.objs.size<=b)/\b≠X.env.locals/\(∀x c,X.env.cells.lookup x=some c->c≠b)/\∀p∈X.pn++ae,p.1≠b)(keep:∀b o,b≠X.env.locals->b ∉ X.fs->b ∉ ch->s.heap.get? b=some o->H b=none->h'.get? b=some o)(slot:∀b o,b≠X.env.locals->b∈X.fs->b ∉ ch->s.heap.get? b=some o->H b=none->∃sl,h'.get? b=some {o with slots:=sl})(free:∀b o,b ∉ ch->s.heap.get? b=some o->H b=none->H' b=none)(there:∀b o,b ∉ ch->s.heap.get? b=some o->∃o',h'.get? b=some o')(ky:∀b xs,H b=some (.tup xs)->H' b=some (.tup xs))(j6:∀b o u,H b=some (.kx o u)->H' b=some (.kx o u))(k!:∀b ps,H b=some (.FD ps)->∃more,H' b=some (.FD (ps++more)))(ns:∀m,s.heap.Ns X.env.locals m->h'.Ns X.env.locals m)(b?:iQ X.prog X.w H' h')(hg:AllBare g'):
  aM X ae σ H' {s with heap:=h',gens:=g',drawn:=d',toks:=t'}:=by
 have Cw:∀b o,X.s₀.heap.get? b=some o->b≠X.env.locals:=λb o e=>VX (VG (Vz e) I.ok.above);have Qv:∀b o,X.s₀.heap.get? b=some o->b ∉ X.ex->b ∉ ch:=λb o e hx hb=>by
  rcases(FG b hb).1 with z|z
  .exact hx z
  .exact absurd (VG (Vz e) z) (V9 _)
 have cellK:∀x c,X.env.cells.lookup x=some c->∀v,s.heap.IsCell c v->h'.IsCell c v:=λx c e v⟨o,ho,hd⟩=>by
  have NL:c ∉ ch:=λz=>(FG c z).2.2.1 x c e rfl;by_cases hc:c∈X.fs
  .obtain⟨sl,q⟩:=slot c o (I.AI x c e) hc NL ho (I.gA x c e);exact⟨_,q,hd⟩
  .exact⟨o,keep c o (I.AI x c e) hc NL ho (I.gA x c e),hd⟩
 refine⟨I.ok,I.os,hg,⟨λb o e n hb hx=>?_,λb o e n hb hx=>?_,λb o e n hx=>?_,λb o e hx=>?_,λb xs e=>ky b xs (I.base.ky b xs e),λb o xs e=>j6 b o xs (I.base.j6 b o xs e),λb ps e=>?_⟩,?_,λx c e=>?_,?_,λx c e=>?_,λp hp=>?_,b?,I.len⟩
 .exact keep b o (Cw b o e) hb (Qv b o e hx) (I.base.keep b o e n hb hx) (I.base.free b o e n hx)
 .obtain⟨sl,e1⟩:=I.base.slot b o e n hb hx;obtain⟨IX,e2⟩:=slot b _ (Cw b o e) hb (Qv b o e hx) e1 (I.base.free b o e n hx);exact⟨IX,e2⟩
 .obtain⟨o',e1⟩:=I.base.there b o e hx;exact free b o' (Qv b o e hx) e1 (I.base.free b o e n hx)
 .obtain⟨o',e1⟩:=I.base.there b o e hx;exact there b o' (Qv b o e hx) e1
 .obtain⟨m1,e1⟩:=I.base.k! b ps e;obtain⟨m2,e2⟩:=k! b _ e1;exact⟨m1++m2,by rw[e2,Array.append_assoc]⟩
 .obtain⟨m,hn,hl⟩:=I.loc;refine⟨m,ns m hn,λi x v e1 e2 e3=>?_⟩;obtain⟨u,r,l⟩:=hl i x v e1 e2 e3;refine⟨u,r,?_⟩;rcases l with l|⟨k,c,e,z⟩
  .exact .inl l
  .exact .inr ⟨k,c,e,cellK x c e _ z⟩
 .obtain⟨v,z⟩:=I.cell x c e;exact⟨v,cellK x c e v z⟩
 .obtain⟨m,⟨o,_,_,ho,_⟩,_⟩:=I.loc;exact free _ o (λz=>(FG _ z).2.1 rfl) ho I.free
 .obtain⟨v,o,ho,hd⟩:=I.cell x c e;exact free c o (λz=>(FG c z).2.2.1 x c e rfl) ho (I.gA x c e)
 .obtain⟨e,n,ne,nf,d⟩:=I.pin p hp;have NL:p.1 ∉ ch:=λz=>(FG p.1 z).2.2.2 p hp rfl;exact⟨keep p.1 p.2 ne nf NL e n,free p.1 p.2 NL e n,ne,nf,d⟩
theorem aM.un{t':Nat}(I:aM X ae σ H s)(u:Un X.fs [] H H' s.heap h')(b?:iQ X.prog X.w H' h'):aM X ae σ H' {s with heap:=h',toks:=t'}:=by
 obtain⟨m,⟨o,es,ep,ho,r⟩,_⟩:=id I.loc;obtain⟨sl,hL⟩:=u.any ho I.free (by simp);exact I.step (g':=s.gens) (d':=s.drawn) (ch:=[]) (λ_ z=>nomatch z) (λb o _ hb _ e n=>u.keep b o e n hb (by simp)) (λb o _ hb _ e n=>u.slot b o e n hb (by simp)) (λb o _ e n=>u.free b o e n (by simp)) (λb o _ e=>u.there b o e (by simp)) u.ky u.j6 u.k! (λm' hm=>by
  obtain⟨o',Ro,Rp,rX,r'⟩:=hm;rw[ho]at rX;cases rX;exact⟨_,Ro,Rp,hL,r'⟩) b? I.bare
theorem aM.call{g':Array GenState}{t':Nat}{d':Drawn}(I:aM X ae σ H s)(u:Un (gy X.stack) ch H H' s.heap h')(b?:iQ X.prog X.w H' h')(hg:AllBare g')(FG:∀b∈ch,(b∈X.ex\/X.s₀.heap.objs.size<=b)/\b≠X.env.locals/\(∀x c,X.env.cells.lookup x=some c->c≠b)/\∀p∈X.pn++ae,p.1≠b):
  aM X ae σ H' {s with heap:=h',gens:=g',drawn:=d',toks:=t'}:=by
 obtain⟨m,⟨o,es,ep,ho,r⟩,_⟩:=id I.loc;obtain⟨sl,hL⟩:=u.any ho I.free λz=>(FG _ z).2.1 rfl;exact I.step (ch:=ch) FG (λb o hL hb hc e n=>u.keep b o e n (λz=>(VO.mp (I.kz b z)).elim hL hb) hc) (λb o _ _ hc e n=>u.any e n hc) (λb o hc e n=>u.free b o e n hc) (λb o hc e=>u.there b o e hc) u.ky u.j6 u.k! (λm' hm=>by
  obtain⟨o',Ro,Rp,rX,r'⟩:=hm;rw[ho]at rX;cases rX;exact⟨_,Ro,Rp,hL,r'⟩) b? hg
theorem aM.turned{t':Nat}(I:aM X ae σ H s)(k:∀b o,b≠it->s.heap.get? b=some o->h'.get? b=some o)(hn:H it=none)(hL:it≠X.env.locals)(h1:it∈X.ex\/X.s₀.heap.objs.size<=it)(h2:∀x c,X.env.cells.lookup x=some c->c≠it)(h3:∀p∈X.pn++ae,p.1≠it):aM X ae σ H {s with heap:=h',toks:=t'}:=by
 have UB:∀b u,H b=some u->b≠it:=λb u e z=>by rw[z,hn]at e;cases e
 refine I.step (g':=s.gens) (d':=s.drawn) (ch:=[it]) (λb hb=>?_) (λb o _ _ hc e _=>k b o (λz=>hc (by simp[z])) e) (λb o _ _ hc e _=>⟨o.slots,k b o (λz=>hc (by simp[z])) e⟩) (λ_ _ _ _ n=>n)
  (λb o hc e=>⟨o,k b o (λz=>hc (by simp[z])) e⟩) (λ_ _ e=>e) (λ_ _ _ e=>e) (λb ps e=>⟨#[],by rw[e];simp⟩) (λm hm=>?_) (λb u e=>?_) I.bare
 .have e:b=it:=by simpa using hb
  subst e;exact⟨h1,hL,h2,h3⟩
 .obtain⟨o,es,ep,ho,r⟩:=hm;exact⟨o,es,ep,k _ o (WE hL) ho,r⟩
 .refine(I.b? b u e).k_ (λc v hc q=>k c v ?_ q) (λ_ q=>q) λ_ _ q=>q;rcases hc with z|z
  .rw[z];exact UB b u e
  .exact UB c _ z
theorem aM.tok(I:aM X ae σ H s)(t:Nat):aM X ae σ H {s with toks:=t}:=I.un (h':=s.heap) (t':=t) Un.refl I.b?
theorem aM.kept{t':Nat}(I:aM X ae σ H s)(k:∀b u,s.heap.get? b=some u->h'.get? b=some u):aM X ae σ H {s with heap:=h',toks:=t'}:=I.un (Un.kept k) (I.b?.kept k)
theorem aM.laid{a:_O}{o:HO}{t':Nat}(I:aM X ae σ H s)(k:∀b u,s.heap.get? b=some u->h'.get? b=some u)(hp:s.heap.objs.size<=a)(new:cj X.prog X.w (upd H a o) h' a o):
  aM X ae σ (upd H a o) {s with heap:=h',toks:=t'}:=I.un (Un.laid k hp (I.b?.fresh hp)) (I.b?.laid k hp new)
theorem aM.write{x e:_O}{o:HO}{t':Nat}(I:aM X ae σ H s)(mu:NJ (H x))(he:e=x\/H e=some (.own x))(k:∀b u,b≠e->s.heap.get? b=some u->h'.get? b=some u)(Ng:∃u,h'.get? e=some u)(new:cj X.prog X.w (upd H x o) h' x o):aM X ae σ (upd H x o) {s with heap:=h',toks:=t'}:=I.un (Un.write mu he k Ng) (I.b?.write mu he k Ng new)
theorem aM.oM{IY:_F}(I:aM X ae σ H s)(h:∀p∈IY,s.heap.get? p.1=some p.2/\H p.1=none/\p.1≠X.env.locals/\p.1 ∉ X.fs/\∀v,p.2.data≠.cell v):aM X IY σ H s:=
 ⟨I.ok,I.os,I.bare,I.base,I.loc,I.cell,I.free,I.gA,λp hp=>(W8.mp hp).elim (λz=>I.pin p (W5 _ z)) (h p),I.b?,I.len⟩
theorem o_{N:_L}(hN:N.Nodup){j:Nat}{x:Str}(a:N[i]?=some x)(b:N[j]?=some x):i=j:=by obtain⟨h1,e1⟩:=Wh.mp a;obtain⟨h2,e2⟩:=Wh.mp b;exact(Zz hN).mp (e1.trans e2.symm)
theorem mF{M:Model}{A:_P}{E:_D}{x:Str}{v:V}{u:_M}{Q:Unit->_N->Prop}(I:aM X ae σ H s)(hN:X.N.Nodup)(hi:X.N[i]?=some x)(hx:Loc X.env.scope x)(r:bD v u)(h:∀s',aM X ae (σ.set i (some v)) H s'->(∃a,Heap.SameBut a s.heap s'.heap/\(a=X.env.locals\/X.env.cells.lookup x=some a))->Q () s')(hf:X.fn x=true\/X.env.scope.names.lookup x=some .local:=by left):wpAny M A (storeName X.env x u) Q E s:=by
 obtain⟨m,hn,hl⟩:=id I.loc;have Cy:(X.env.scope.kind == .class || (X.env.scope.kind == .module&&X.env.locals !=X.env.globals))=false:=by rw[I.ok.kind];rfl
 have NM:i<σ.length:=by rw[I.len];exact(Wh.mp hi).1
 have AI:=I.AI;have tracked:∀{a:_O}{h':Heap},(∃o,s.heap.get? a=some o/\H a=none)->Heap.SameBut a s.heap h'->iQ X.prog X.w H h':=λ{a h'}ha hs b ob e=>by
  obtain⟨_,_,zj⟩:=ha;refine(I.b? b ob e).k_ (λc w' hc q=>(hs.2 c ?_).trans q) (λ_ q=>q) λ_ _ q=>q;rintro rfl;rcases hc with rfl|hc
  .rw[zj]at e;cases e
  .rw[zj]at hc;cases hc
 rcases hx with hk|hk
 .refine wpAny_storeName_local hk hn (λh' Nh hs=>?_) Cy;obtain⟨oL,_,_,hoL,_⟩:=id hn;refine h _ ⟨I.ok,I.os,I.bare,⟨λb o e n hb hx=>?_,λb o e n hb hx=>?_,I.base.free,λb o e hx=>?_,I.base.ky,I.base.j6,I.base.k!⟩,⟨_,Nh,λj y v' e1 e2 e3=>?_⟩,λy c e=>?_,I.free,I.gA,λp hp=>?_,tracked ⟨oL,hoL,I.free⟩ hs,by simpa using I.len⟩ ⟨_,hs,.inl rfl⟩
  .exact(hs.2 b (VX (VG (Vz e) I.ok.above))).trans (I.base.keep b o e n hb hx)
  .obtain⟨sl,e1⟩:=I.base.slot b o e n hb hx;exact⟨sl,(hs.2 b (VX (VG (Vz e) I.ok.above))).trans e1⟩
  .obtain⟨o',e1⟩:=I.base.there b o e hx;exact⟨o',(hs.2 b (VX (VG (Vz e) I.ok.above))).trans e1⟩
  .by_cases hj:j=i
   .subst hj;rw[hi]at e1;cases e1;rw[Ws NM]at e2;cases e2;exact⟨u,r,.inl ⟨hk,by simp⟩⟩
   .rw[WA (WE hj)]at e2;obtain⟨u',r',q⟩:=hl j y v' e1 e2 e3;refine⟨u',r',?_⟩;rcases q with⟨k,e⟩|⟨k,c,e,z⟩
    .refine .inl ⟨k,?_⟩;have:y≠x:=λe=>hj (o_ hN e1 (e▸hi));simp[this,e]
    .exact .inr ⟨k,c,e,z.sameBut hs (AI y c e)⟩
  .obtain⟨w',z⟩:=I.cell y c e;exact⟨w',z.sameBut hs (AI y c e)⟩
  .obtain⟨e,n,ne,nf,d⟩:=I.pin p hp;exact⟨(hs.2 p.1 ne).trans e,n,ne,nf,d⟩
 .have Cz:X.fn x=true:=by
   rcases hf with z|z
   .exact z
   .rw[z]at hk;cases hk
  obtain⟨c,hc⟩:=I.ok.has x (.inl hk);obtain⟨w',z⟩:=I.cell x c hc;refine wpAny_storeName_cell I.ok.kind hk hc z (λh' cz hs=>?_);obtain⟨oc,UC,Rq⟩:=id z;refine h {s with heap:=h'} ⟨I.ok,I.os,I.bare,⟨λb o e n hb hx=>?_,λb o e n hb hx=>?_,I.base.free,λb o e hx=>?_,I.base.ky,I.base.j6,I.base.k!⟩,⟨m,hn.sameBut hs (WE (AI x c hc)),λj y v' e1 e2 e3=>?_⟩,λy c' e=>?_,I.free,I.gA,λp hp=>?_,tracked ⟨oc,UC,I.gA x c hc⟩ hs,by simpa using I.len⟩ ⟨c,hs,.inr hc⟩
  .exact(hs.2 b (VX (VG (Vz e) (I.ok.IW x c Cz hc)))).trans (I.base.keep b o e n hb hx)
  .obtain⟨sl,e1⟩:=I.base.slot b o e n hb hx;exact⟨sl,(hs.2 b (VX (VG (Vz e) (I.ok.IW x c Cz hc)))).trans e1⟩
  .obtain⟨o',e1⟩:=I.base.there b o e hx;exact⟨o',(hs.2 b (VX (VG (Vz e) (I.ok.IW x c Cz hc)))).trans e1⟩
  .by_cases hj:j=i
   .subst hj;rw[hi]at e1;cases e1;rw[Ws NM]at e2;cases e2;exact⟨u,r,.inr ⟨.inl hk,c,hc,cz⟩⟩
   .rw[WA (WE hj)]at e2;obtain⟨u',r',q⟩:=hl j y v' e1 e2 e3;refine⟨u',r',?_⟩;rcases q with q|⟨k,c',e,z'⟩
    .exact .inl q
    .refine .inr ⟨k,c',e,z'.sameBut hs ?_⟩;rintro rfl;exact hj (o_ hN e1 (I.ok.inj _ _ _ e hc▸hi))
  .by_cases NN:c'=c
   .subst NN;exact⟨_,cz⟩
   .obtain⟨w2,z2⟩:=I.cell y c' e;exact⟨w2,z2.sameBut hs NN⟩
  .obtain⟨e,n,ne,nf,d⟩:=I.pin p hp;refine⟨(hs.2 p.1 ?_).trans e,n,ne,nf,d⟩;intro q;rw[q,UC]at e;have q':oc=p.2:=V? e;exact d w' (by rw[<-q'];exact Rq)
theorem o!{M:Model}{A:_P}{E:_D}{x:Str}{v:V}{u:_M}{Q:Unit->_N->Prop}(I:aM X ae σ H s)(hN:X.N.Nodup)(hi:X.N[i]?=some x)(hx:Loc X.env.scope x)(r:bD v u)(h:∀s',aM X ae (σ.set i (some v)) H s'->Q () s')(hf:X.fn x=true\/X.env.scope.names.lookup x=some .local:=by left):wpAny M A (storeName X.env x u) Q E s:=
 mF I hN hi hx r (λs' I' _=>h s' I') hf
theorem aM.rY{s':_N}(I:aM X ae σ H s)(ho:s'.os=s.os)(u:Un (gy X.stack) ch H H' s.heap s'.heap)(b?:iQ X.prog X.w H' s'.heap)(hg:AllBare s'.gens)(FG:∀b∈ch,(b∈X.ex\/X.s₀.heap.objs.size<=b)/\b≠X.env.locals/\(∀x c,X.env.cells.lookup x=some c->c≠b)/\∀p∈X.pn++ae,p.1≠b):aM X ae σ H' s':=by obtain⟨h',g',d',t',o'⟩:=s';have e:o'=s.os:=ho;subst e;exact I.call (g':=g') (t':=t') (d':=d') u b? hg FG
end
abbrev XK:=_M->Option _O->Hp->Prop
abbrev St:=List (Option V)
abbrev VK:=V->Hp->Prop
abbrev TE:=St->Hp->VK->Prop
abbrev TT:=St->Hp->(Bool->Hp->Prop)->Prop
abbrev TA:=St->Hp->(List V->Hp->Prop)->Prop
structure Ends where
 nx:St->Hp->Prop
 rt:VK
 bk:St->Hp->Prop:=λ_ _=>False
 ct:St->Hp->Prop:=λ_ _=>False
abbrev TS:=Ends->St->Hp->Prop
def EP(X:Cx)(ae:_F)(σ:St)(Q:VK)(u:_M)(s':_N):Prop:=∃v H',aM X ae σ H' s'/\bD v u/\Q v H'
def TP(X:Cx)(ae:_F)(σ:St)(Q:Bool->Hp->Prop)(b:Bool)(s':_N):Prop:=∃H',aM X ae σ H' s'/\Q b H'
def AP(X:Cx)(ae:_F)(σ:St)(Q:List V->Hp->Prop)(us:_I)(s':_N):Prop:=∃vs H',aM X ae σ H' s'/\bw vs us/\Q vs H'
def SP(X:Cx)(ae:_F)(D:Ends)(f:Flow)(s':_N):Prop:=
 match f with
 |.next=>∃σ' H',aM X ae σ' H' s'/\D.nx σ' H'
 |.brk=>∃σ' H',aM X ae σ' H' s'/\D.bk σ' H'
 |.cont=>∃σ' H',aM X ae σ' H' s'/\D.ct σ' H'
 |.ret u=>∃v σ' H',aM X ae σ' H' s'/\bD v u/\D.rt v H'
def PE(X:Cx)(e:Expr)(t:TE):Prop:=
 ∀(ae:_F)(s:_N)(σ:St)(H:Hp)(Q:VK),aM X ae σ H s->t σ H Q->wpAny (model X.prog X.w) X.A (eval e X.env) (EP X ae σ Q) X.xe s
def PT(X:Cx)(e:Expr)(t:TT):Prop:=
 ∀(ae:_F)(s:_N)(σ:St)(H:Hp)(Q:Bool->Hp->Prop),aM X ae σ H s->t σ H Q->wpAny (model X.prog X.w) X.A (isTrue e X.env (eval e X.env)) (TP X ae σ Q) X.xe s
def PW(X:Cx)(e:Expr)(t:TT):Prop:=
 ∀(whole:Sem _M)(ae:_F)(s:_N)(σ:St)(H:Hp)(Q:Bool->Hp->Prop),aM X ae σ H s->t σ H Q->wpAny (model X.prog X.w) X.A (isTrue e X.env whole) (TP X ae σ Q) X.xe s
theorem PW.pt{X:Cx}{e:Expr}{t:TT}(h:PW X e t):PT X e t:=h _
def PA(X:Cx)(es:List Expr)(t:TA):Prop:=
 ∀(pos:Pos)(ae:_F)(s:_N)(σ:St)(H:Hp)(Q:List V->Hp->Prop),aM X ae σ H s->t σ H Q->wpAny (model X.prog X.w) X.A (spliced (backTo pos (starEach es X.env))) (AP X ae σ Q) X.xe s
def PS(X:Cx)(st:Stmt)(t:TS):Prop:=
 ∀(ae:_F)(s:_N)(σ:St)(H:Hp)(D:Ends),aM X ae σ H s->t D σ H->wpAny (model X.prog X.w) X.A (exec st X.env) (SP X ae D) X.xe s
def jk(X:Cx)(st:List Stmt)(t:TS):Prop:=
 ∀(ae:_F)(s:_N)(σ:St)(H:Hp)(D:Ends),aM X ae σ H s->t D σ H->wpAny (model X.prog X.w) X.A (execs st X.env) (SP X ae D) X.xe s
theorem dA{t:Sem α}{Q Q':α->_N->Prop}{M:Model}{A:_P}{E:_D}{s:_N}(h:wpAny M A t Q E s)(hQ:∀a s,Q a s->Q' a s):wpAny M A t Q' E s:=Wz h hQ λ_ _ x=>x
section
variable{X:Cx}
def Rr(i:Nat):TE:=λσ H Q=>∃v,σ[i]?=some (some v)/\Q v H
def tC(v:V):TE:=λ_ H Q=>Q v H
theorem tJ{x:Str}(hN:X.N[i]?=some x)(hv:FE X.env.scope x)(hd:(x==("__debug__":Str))=false:=by decide)(o?:(x==("__classdict__":Str))=false:=by decide):PE X (.Name x pos) (Rr i):=by
 intro ae s σ H Q I h;obtain⟨v,e,h⟩:=h;obtain⟨m,hn,hl⟩:=I.loc;obtain⟨u,r,l⟩:=hl i x v hN e hv;have fin:EP X ae σ Q u s:=⟨v,H,I,r,h⟩
 rcases l with⟨hk,hm⟩|⟨hk,c,hc,zo⟩
 .exact wpAny_Name (wpAny_loadName_local I.ok.kind hk hn hm fin) hd
 .rcases hk with hk|hk
  .exact wpAny_Name (wpAny_loadName_cell I.ok.kind hk hc zo fin) hd
  .exact wpAny_Name (wpAny_loadName_free I.ok.kind hk hc zo fin o?) hd
theorem JV{i j pos}:PE X (.Constant (.int i) j pos) (tC (.int i)):=λ_ _ _ H _ I h=>wpAny_Constant_int ⟨.int i,H,I.tok _,⟨_,rfl⟩,h⟩
theorem IZ{b j pos}:PE X (.Constant (.bool b) j pos) (tC (.bl b)):=λ_ _ _ H _ I h=>Constant_bool ⟨.bl b,H,I,rfl,h⟩
theorem JW{j pos}:PE X (.Constant .none j pos) (tC .c6):=λ_ _ _ H _ I h=>Constant_none ⟨.c6,H,I,rfl,h⟩
theorem JX{x j pos}:PE X (.Constant (.str x) j pos) (tC (.str x)):=λ_ _ _ H _ I h=>Calls.Constant_str ⟨.str x,H,I.tok _,⟨_,rfl⟩,h⟩
def Gl(X:Cx)(x:Str):Prop:=X.env.kindOf x=some .globalImplicit
theorem jO{E:_D}{s:_N}{σ:St}{H:Hp}{x:Str}{u:_M}(I:aM X ae σ H s)(hg:Gl X x)(hm:X.mg x=some u)(h:Q u s)(hd:(x==("__debug__":Str))=false:=by decide):wpAny (model X.prog X.w) X.A (eval (.Name x pos) X.env) Q E s:=
 ZT I.ok.kind hg (Calls.loadGlobal_global (by rw[I.ok.glob];exact I.mod.glob.keeps I.bk) hm h) hd
theorem kA{E:_D}{s:_N}{σ:St}{H:Hp}{x:Str}{u:_M}(I:aM X ae σ H s)(hg:Gl X x)(hm:X.mg x=none)(hv:bootBuiltins x=some u)(h:Q u s)(hn:x ≠ "__name__":=by decide)(hd:(x==("__debug__":Str))=false:=by decide):wpAny (model X.prog X.w) X.A (eval (.Name x pos) X.env) Q E s:=by obtain⟨mb,h1,h2⟩:=I.mod.blt;exact ZT I.ok.kind hg (Calls.loadGlobal_builtin (by rw[I.ok.glob];exact I.mod.glob.keeps I.bk) hm (by rw[I.ok.blt];exact h1.keeps I.bk) ((h2 x hn).trans hv) h) hd
theorem tK{x:Str}{v:V}{u:_M}(hg:Gl X x)(hm:X.mg x=some u)(r:bD v u)(hd:(x==("__debug__":Str))=false:=by decide):PE X (.Name x pos) (tC v):=
 λ_ _ _ H _ I h=>jO I hg hm ⟨v,H,I,r,h⟩ hd
theorem zr{x:Str}{v:V}{u:_M}(hg:Gl X x)(hm:X.mg x=none)(hv:bootBuiltins x=some u)(r:bD v u)(hn:x ≠ "__name__":=by decide)(hd:(x==("__debug__":Str))=false:=by decide):PE X (.Name x pos) (tC v):=
 λ_ _ _ H _ I h=>kA I hg hm hv ⟨v,H,I,r,h⟩ hn hd
variable{a b:Expr}{ta tb:TE}
def PC(X:Cx)(op:CmpOp)(a b:Expr)(t:TE):Prop:=
 ∀(ae:_F)(s:_N)(σ:St)(H:Hp)(Q:VK),aM X ae σ H s->t σ H Q ->
  wpAny (model X.prog X.w) X.A (eval a X.env) (λv s₁=>wpAny (model X.prog X.w) X.A (eval b X.env) (λu s₂=>wpAny (model X.prog X.w) X.A (compareOp op v u) (EP X ae σ Q) X.xe s₂) X.xe s₁) X.xe s
def tB(t:TE):TT:=λσ H Q=>t σ H λx H1=>∃c,x=.bl c/\Q c H1
theorem JY{e:Expr}{t:TE}(h:PE X e t)(he:∀whole,isTrue e X.env whole=(do let v <- whole;standAt e.pos;holding [v] (truthy v)):=by intro _;rfl):PT X e (tB t):=by intro ae s σ H Q I hw;refine isTrue_plain (dA (h ae s σ H _ I hw) λv s1⟨x,H1,I1,r1,q1⟩=>?_) (he _);obtain⟨d,rfl,q⟩:=q1;cases r1;exact WX ⟨H1,I1,q⟩
variable{tA FV:TT}{rest:List Expr}
def Rt(t u:TT):TT:=λσ H Q=>t σ H λc H1=>if c=true then u σ H1 Q else Q false H1
def tOr(t u:TT):TT:=λσ H Q=>t σ H λc H1=>if c=true then Q true H1 else u σ H1 Q
def Ru(t:TT):TT:=λσ H Q=>t σ H λc H1=>Q (!c) H1
theorem FW(ha:PT X a tA):PW X (.BoolOp .And [a] pos) tA:=by
 intro wh ae s σ H Q I h;refine isTrue_and (dA (ha ae s σ H Q I h) λc s1 e=>?_);cases c with
 |true=>exact isTrue_and_nil e
 |false=>exact e
theorem JZ(ha:PT X a tA):PW X (.BoolOp .Or [a] pos) tA:=by
 intro wh ae s σ H Q I h;refine isTrue_or (dA (ha ae s σ H Q I h) λc s1 e=>?_);cases c with
 |false=>exact isTrue_or_nil e
 |true=>exact e
theorem J0(ha:PT X a tA)(hb:PW X (.BoolOp .And (b::rest) pos) FV):PW X (.BoolOp .And (a::b::rest) pos) (Rt tA FV):=by
 intro wh ae s σ H Q I h;refine isTrue_and (dA (ha ae s σ H _ I h) λc s1⟨H1,I1,q1⟩=>?_);cases c with
 |true=>exact hb wh ae s1 σ H1 Q I1 q1
 |false=>exact⟨H1,I1,q1⟩
theorem NO(ha:PT X a tA)(hb:PW X (.BoolOp .Or (b::rest) pos) FV):PW X (.BoolOp .Or (a::b::rest) pos) (tOr tA FV):=by
 intro wh ae s σ H Q I h;refine isTrue_or (dA (ha ae s σ H _ I h) λc s1⟨H1,I1,q1⟩=>?_);cases c with
 |true=>exact⟨H1,I1,q1⟩
 |false=>exact hb wh ae s1 σ H1 Q I1 q1
theorem J1(ha:PT X a tA):PT X (.UnaryOp .Not a pos) (Ru tA):=by intro ae s σ H Q I h;exact isTrue_not (ha ae s σ H (λc H1=>Q (!c) H1) I h)
def NP(ta tb:TE):TE:=λσ H Q=>ta σ H λx H1=>∃c,x=.bl c/\if c=true then tb σ H1 Q else Q (.bl false) H1
def Rv(ta tb:TE):TE:=λσ H Q=>ta σ H λx H1=>∃c,x=.bl c/\if c=true then Q (.bl true) H1 else tb σ H1 Q
def NQ(ta:TE):TE:=λσ H Q=>ta σ H λx H1=>∃c,x=.bl c/\Q (.bl (!c)) H1
theorem J2{op}{t:TE}(h:PE X a t):PE X (.BoolOp op [a] pos) t:=λae s σ H Q I hw=>BoolOp_one (h ae s σ H Q I hw)
theorem J3(ha:PE X a ta)(hb:PE X (.BoolOp .And (b::rest) pos) tb):PE X (.BoolOp .And (a::b::rest) pos) (NP ta tb):=by
 intro ae s σ H Q I h;refine BoolOp_and (dA (ha ae s σ H _ I h) λv s1⟨x,H1,I1,r1,q1⟩=>?_);obtain⟨c,rfl,q1⟩:=q1;cases r1;refine WX ?_;cases c with
 |true=>exact hb ae s1 σ H1 Q I1 q1
 |false=>exact⟨.bl false,H1,I1,rfl,q1⟩
theorem NR(ha:PE X a ta)(hb:PE X (.BoolOp .Or (b::rest) pos) tb):PE X (.BoolOp .Or (a::b::rest) pos) (Rv ta tb):=by
 intro ae s σ H Q I h;refine BoolOp_or (dA (ha ae s σ H _ I h) λv s1⟨x,H1,I1,r1,q1⟩=>?_);obtain⟨c,rfl,q1⟩:=q1;cases r1;refine WX ?_;cases c with
 |false=>exact hb ae s1 σ H1 Q I1 q1
 |true=>exact⟨.bl true,H1,I1,rfl,q1⟩
theorem J4(ha:PE X a ta):PE X (.UnaryOp .Not a pos) (NQ ta):=by intro ae s σ H Q I h;refine UnaryOp_ (dA (ha ae s σ H _ I h) λv s1⟨x,H1,I1,r1,q1⟩=>?_);obtain⟨c,rfl,q1⟩:=q1;cases r1;exact not_of (WX ⟨.bl (!c),H1,I1,rfl,q1⟩)
def tIf(t:TT)(ta tb:TE):TE:=λσ H Q=>t σ H λc H1=>if c=true then ta σ H1 Q else tb σ H1 Q
theorem CA{c:Expr}(hc:PT X c tA)(ha:PE X a ta)(hb:PE X b tb):PE X (.IfExp c a b pos) (tIf tA ta tb):=by
 intro ae s σ H Q I h;refine wpAny_IfExp (dA (hc ae s σ H _ I h) λd s1⟨H1,I1,q1⟩=>?_);cases d with
 |true=>exact ha ae s1 σ H1 Q I1 q1
 |false=>exact hb ae s1 σ H1 Q I1 q1
end
def kf(K:_G)(H:Hp)(a:_O)(xs:List V):Prop:=
 Rd H a (.lst xs) \/
  ∃(o:Obj)(aI:Array _M)(n:Nat),K.lookup a=some o/\o.cls=.type "list" /\ o.dict=none/\o.data=.seq aI n/\aI.size<=sizeLine/\bw xs aI.toList
def jq(K:_G)(H:Hp)(a:_O)(xs:List V):Prop:=
 Rd H a (.tup xs) \/
  ∃(o:Obj)(aI:Array _M)(n:Nat),K.lookup a=some o/\o.cls=.type "tuple" /\ o.data=.seq aI n/\aI.size<=sizeLine/\bw xs aI.toList
def Rw:_M->Option V
 |.none=>some .c6
 |.bool b=>some (.bl b)
 |.int i _=>some (.int i)
 |.str x _=>some (.str x)
 |.bytes b _=>some (.Ri b)
 |.float b _=>some (.oJ b)
 |.ref a=>some (.ref a)
 |.type n=>some (.ty n)
 |_=>none
theorem bD.abs{x:V}{u:_M}(r:bD x u):Rw u=some x:=by
 cases x with
 |c6=>cases r;rfl
 |bl _=>cases r;rfl
 |int _=>obtain⟨t,rfl⟩:=r;rfl
 |str _=>obtain⟨t,rfl⟩:=r;rfl
 |Ri _=>obtain⟨t,rfl⟩:=r;rfl
 |oJ _=>obtain⟨t,rfl⟩:=r;rfl
 |ref _=>cases r;rfl
 |ty _=>cases r;rfl
theorem bD.inj{x y:V}{u:_M}(r:bD x u)(q:bD y u):x=y:=V? (r.abs.symm.trans q.abs)
theorem bw.inj{xs ys:List V}{us:_I}(p:bw xs us)(q:bw ys us):xs=ys:=by
 induction p generalizing ys with
 |nil=>cases q;rfl
 |cons r t ih=>
  cases q with
  |cons r' t'=>rw[r.inj r',ih t']
section
variable{X:Cx}{σ:St}{H:Hp}{s:_N}{a:_O}{xs ys:List V}
theorem kf.of{K:_G}(h:H a=some (.lst xs)):kf K H a xs:=.inl (.inl h)
theorem jq.of{K:_G}(h:H a=some (.tup xs)):jq K H a xs:=.inl (.inl h)
theorem aM.list(I:aM X ae σ H s)(h:kf X.K H a xs):∃aI:_I,bw xs aI/\PlainL s.heap a aI.toArray/\xs.length<=sizeLine:=by
 rcases h with h|⟨o,aI,n,hk,hc,hd,hs,hz,r⟩
 .obtain⟨z,aI,n,r,e⟩:=h.ok I.b?;exact⟨aI,r,⟨_,n,e,rfl,rfl,rfl⟩,z⟩
 .refine⟨aI.toList,r,⟨o,n,I.nI a o hk,hc,hd,by simpa using hs⟩,?_⟩;have e:=r.length;simp only[V3]at e;lia
theorem aM.tuple(I:aM X ae σ H s)(h:jq X.K H a xs):∃aI:_I,bw xs aI/\IsTup s.heap a aI.toArray/\xs.length<=sizeLine:=by
 rcases h with h|⟨o,aI,n,hk,hc,hs,hz,r⟩
 .obtain⟨z,aI,r,p⟩:=h.ok I.b?;exact⟨aI,r,p,z⟩
 .refine⟨aI.toList,r,⟨o,I.nI a o hk,hc,n,by simpa using hs⟩,?_⟩;have e:=r.length;simp only[V3]at e;lia
theorem aM.pe(I:aM X ae σ H s)(h:kf X.K H a xs)(h':kf X.K H a ys):xs=ys:=by
 obtain⟨aI,r,⟨o,n,e,_,_,d⟩,_⟩:=I.list h;obtain⟨its',r',⟨o',n',e',_,_,d'⟩,_⟩:=I.list h';rw[e]at e';cases e';rw[d]at d';injection d' with d1 _;have:aI=its':=by simpa using Xc Array.toList d1
 subst this;exact r.inj r'
theorem aM.mG(I:aM X ae σ H s)(h:jq X.K H a xs)(h':jq X.K H a ys):xs=ys:=by
 obtain⟨aI,r,⟨o,e,_,n,d⟩,_⟩:=I.tuple h;obtain⟨its',r',⟨o',e',_,n',d'⟩,_⟩:=I.tuple h';rw[e]at e';cases e';rw[d]at d';injection d' with d1 _;have:aI=its':=by simpa using Xc Array.toList d1
 subst this;exact r.inj r'
end
abbrev Cx.pf(X:Cx)(E:_D):Cx:={X with xe:=E}
theorem Cx.Ok.pf{X:Cx}(ok:X.Ok)(E:_D):(X.pf E).Ok:=
 ⟨ok.mod,ok.kind,ok.glob,ok.blt,ok.above,ok.inj,ok.has,ok.IW,ok.hd,ok.frames,ok.FF,ok.Qu,ok.bs,ok.Cv,ok.tH,ok.AH,ok.jo,ok.Cn⟩
theorem Cx.Ok.tM{X:Cx}{E:_D}(ok:(X.pf E).Ok):X.Ok:=
 ⟨ok.mod,ok.kind,ok.glob,ok.blt,ok.above,ok.inj,ok.has,ok.IW,ok.hd,ok.frames,ok.FF,ok.Qu,ok.bs,ok.Cv,ok.tH,ok.AH,ok.jo,ok.Cn⟩
section
variable{X:Cx}{σ:St}{H:Hp}{s:_N}{E:_D}
theorem aM.pf(I:aM X ae σ H s)(E:_D):aM (X.pf E) ae σ H s:=⟨I.ok.pf E,I.os,I.bare,I.base,I.loc,I.cell,I.free,I.gA,I.pin,I.b?,I.len⟩
theorem aM.tM(I:aM (X.pf E) ae σ H s):aM X ae σ H s:=⟨I.ok.tM,I.os,I.bare,I.base,I.loc,I.cell,I.free,I.gA,I.pin,I.b?,I.len⟩
end
section
variable{X:Cx}{st:Stmt}{rest:List Stmt}{t u:TS}{e:Expr}{te:TE}
def NT:TS:=λD σ H=>D.nx σ H
def Rx(t u:TS):TS:=λD σ H=>t {D with nx:=u D} σ H
theorem FX:jk X [] NT:=λ_ _ σ H _ I h=>XT ⟨σ,H,I,h⟩
theorem CB(h1:PS X st t)(h2:jk X rest u):jk X (st::rest) (Rx t u):=by
 intro ae s σ H D I h;refine Zc (dA (h1 ae s σ H {D with nx:=u D} I h) λf s1 q=>?_);cases f with
 |next=>
  obtain⟨σ',H',I',q⟩:=q;exact h2 ae s1 σ' H' D I' q
 |ret v=>exact q
 |brk=>exact q
 |cont=>exact q
theorem FY(h1:PS X st t):jk X [st] t:=by
 intro ae s σ H D I h;refine Zc (dA (h1 ae s σ H D I h) λf s1 q=>?_);cases f with
 |next=>exact XT q
 |ret v=>exact q
 |brk=>exact q
 |cont=>exact q
theorem aM.quiet{σ:St}{H:Hp}{s:_N}(I:aM X ae σ H s):interactive X.env=false:=by simp[interactive,I.ok.kind]
def NU(te:TE):TS:=λD σ H=>te σ H λ_ H1=>D.nx σ H1
theorem FZ(he:PE X e te)(hs:swapsWith e none pos.line X.env=pure false:=by rfl):PS X (.Expr e pos) (NU te):=by intro ae s σ H D I h;exact wpAny_Expr_any (dA (he ae s σ H _ I h) λv s1⟨x,H1,I1,r1,q1⟩=>⟨σ,H1,I1,q1⟩) I.quiet hs
def Ry(te:TE):TS:=λD σ H=>te σ H D.rt
theorem J5(he:PE X e te):PS X (.Return (some e) pos) (Ry te):=by intro ae s σ H D I h;exact wpAny_Return_some (dA (he ae s σ H _ I h) λv s1⟨x,H1,I1,r1,q1⟩=>⟨x,σ,H1,I1,r1,q1⟩)
def Rz(c:TT)(t u:TS):TS:=λD σ H=>c σ H λb H1=>if b=true then t D σ H1 else u D σ H1
theorem NV{c:Expr}{a b:List Stmt}{tc:TT}(hc:PT X c tc)(ha:jk X a t)(hb:jk X b u):PS X (.If c a b pos) (Rz tc t u):=by
 intro ae s σ H D I h;refine wpAny_If (dA (hc ae s σ H _ I h) λd s1⟨H1,I1,q1⟩=>?_);cases d with
 |true=>exact ha ae s1 σ H1 D I1 q1
 |false=>exact hb ae s1 σ H1 D I1 q1
end
abbrev TG:=V->St->Hp->(St->Hp->Prop)->Prop
abbrev F0:=List V->St->Hp->(St->Hp->Prop)->Prop
def PG(X:Cx)(target:Expr)(t:TG):Prop:=
 ∀(ae:_F)(s:_N)(σ:St)(H:Hp)(v:V)(u:_M)(Q:St->Hp->Prop),aM X ae σ H s->bD v u->t v σ H Q ->
  wpAny (model X.prog X.w) X.A (assign target X.env u) (λ_ s'=>∃σ' H',aM X ae σ' H' s'/\Q σ' H') X.xe s
def xC(X:Cx)(ts:List Expr)(t:F0):Prop:=
 ∀(ae:_F)(s:_N)(σ:St)(H:Hp)(vs:List V)(us:_I)(Q:St->Hp->Prop),aM X ae σ H s->bw vs us->t vs σ H Q ->
  wpAny (model X.prog X.w) X.A (assignInOrder ((assignEach ts X.env).map (·.2)) us) (λ_ s'=>∃σ' H',aM X ae σ' H' s'/\Q σ' H') X.xe s
section
variable{X:Cx}
def vi(i:Nat):TG:=λv σ H Q=>Q (σ.set i (some v)) H
theorem F_{x:Str}(hN:X.N.Nodup)(hi:X.N[i]?=some x)(hx:Loc X.env.scope x)(hf:X.fn x=true\/X.env.scope.names.lookup x=some .local:=by left):PG X (.Name x pos) (vi i):=by intro ae s σ H v u Q I r h;exact wpAny_assign_Name (o! I hN hi hx r (λs' I'=>⟨_,H,I',h⟩) hf)
def RA:F0:=λvs σ H Q=>vs=[]/\Q σ H
def NW(t:TG)(u:F0):F0:=λvs σ H Q=>∃v r,vs=v::r/\t v σ H λσ' H'=>u r σ' H' Q
theorem F!:xC X [] RA:=by intro ae s σ H vs us Q I r h;obtain⟨e,h⟩:=h;subst e;cases r;exact assignInOrder_nil ⟨σ,H,I,h⟩
theorem CC{e:Expr}{t:TG}{u:F0}(h1:PG X e t)(h2:xC X es u)(hs:(assignEach (e::es) X.env).map (·.2)=assign e X.env::(assignEach es X.env).map (·.2):=by rfl):xC X (e::es) (NW t u):=by
 intro ae s σ H vs us Q I r h;obtain⟨v,vr,e1,h⟩:=h;subst e1;cases r with
 |cons r rr=>
  rw[hs];refine assignInOrder_cons (dA (h1 ae s σ H _ _ _ I r h) λ_ s1⟨σ1,H1,I1,q1⟩=>?_);exact h2 ae s1 σ1 H1 _ _ Q I1 rr q1
def RC(K:_G)(n:Nat)(t:F0):TG:=λv σ H Q=>∃a xs,v=.ref a/\jq K H a xs/\xs.length=n/\t xs σ H Q
theorem J7{k:Nat}{t:F0}{n:Nat}(hc:X.calm=true)(h:xC X es t)(hn:(assignEach es X.env).length=n:=by rfl)(AJ:(assignEach es X.env).findIdx? (·.1)=none:=by rfl):PG X (.Tuple es k pos) (RC X.K n t):=by intro ae s σ H v u Q I r hw;obtain⟨a,xs,e1,hq,hl,hw⟩:=hw;subst e1;cases r;obtain⟨aI,rv,ht,hz⟩:=I.tuple hq;refine assign_Tuple_tuple (I.ok.hd hc) ht (by simp[hn,<-hl,rv.length]) AJ λh' hx=>?_;have I1:aM X ae σ H {s with heap:=h'}:=I.kept (t':=s.toks) λb o e=>hx b o (VX (Vz e)) e;exact h ae _ σ H xs _ Q I1 (by simpa using rv) hw
def J8(te:TE)(g:TG):TS:=λD σ H=>te σ H λx H1=>g x σ H1 D.nx
theorem J9{x:Str}{e:Expr}{te:TE}(hN:X.N.Nodup)(hi:X.N[i]?=some x)(hx:Loc X.env.scope x)(he:PE X e te)(hs:swapsWith e (some (.Name x pos')) pos.line X.env=pure false:=by rfl)(hf:X.fn x=true\/X.env.scope.names.lookup x=some .local:=by left):
  PS X (.Assign [.Name x pos'] e pos) (J8 te (vi i)):=by
 intro ae s σ H D I h;refine wpAny_Assign_Name (dA (he ae s σ H _ I h) λv s1⟨y,H1,I1,r1,q1⟩=>?_) hs;exact o! I1 hN hi hx r1 (λs2 I2=>⟨_,H1,I2,q1⟩) hf
end
section
variable{X:Cx}
def J_(c:TT)(tb:TS):TS:=λD σ H=>∃W:Nat->St->Hp->Prop,(∃m,W m σ H)/\∀m σ H,W m σ H ->
 c σ H λb H1=>if b=true then ∃N:St->Hp->Prop,(∀σ' H',N σ' H'->∃m',m'<m/\W m' σ' H')/\tb {D with nx:=N,ct:=N,bk:=D.nx} σ H1 else D.nx σ H1
theorem CD{c:Expr}{body:List Stmt}{tc:TT}{tb:TS}(hp:PassesOwn (model X.prog X.w) X.A X.env X.xe)(hc:PT X c tc)(hb:jk X body tb):PS X (.While c body [] pos) (J_ tc tb):=by
 intro ae s σ H D I h;obtain⟨W,⟨m0,w0⟩,turn⟩:=h;refine wpAny_While (codeAny_whileLoop (λn s'=>∃σ' H',aM X ae σ' H' s'/\W n σ' H') ?_ m0 ⟨σ,H,I,w0⟩);rintro n s1 ⟨σ1,H1,I1,w1⟩;refine Xu hp (dA (hc ae s1 σ1 H1 _ I1 (turn n σ1 H1 w1)) λb s2⟨H2,I2,q2⟩=>?_);cases b with
 |true=>
  obtain⟨N,hN,q2⟩:=q2;rw[VA rfl];refine Xu hp (dA (hb ae s2 σ1 H2 _ I2 q2) λf s3 q3=>?_);cases f with
  |next=>
   obtain⟨σ3,H3,I3,n3⟩:=q3;obtain⟨m',hm,w3⟩:=hN σ3 H3 n3;exact⟨m',hm,σ3,H3,I3,w3⟩
  |cont=>
   obtain⟨σ3,H3,I3,n3⟩:=q3;obtain⟨m',hm,w3⟩:=hN σ3 H3 n3;exact⟨m',hm,σ3,H3,I3,w3⟩
  |brk=>exact q3
  |ret v=>exact q3
 |false=>
  rw[VL VH];exact XT ⟨σ1,H2,I2,q2⟩
end
structure It where
 go:Nat->Hp->Prop
 Ni:Nat->Hp->V->Hp->Prop
 stop:Nat->Hp->Prop
def j7(X:Cx)(ae:_F)(H:Hp)(b:_O):Prop:=
 H b=none/\b≠X.env.locals/\b ∉ X.fs/\(b∈X.ex\/X.s₀.heap.objs.size<=b)/\(∀x c,X.env.cells.lookup x=some c->c≠b)/\∀p∈X.pn++ae,p.1≠b
theorem aM.CF{X:Cx}{σ:St}{H H':Hp}{s:_N}{b:_O}(I:aM X ae σ H s)(hb:s.heap.objs.size<=b)(hn:H' b=none):j7 X ae H' b:=by
 refine⟨hn,WK (VG I.lt hb),I.Rm hb,.inr (V7 I.sz hb),λx c e z=>?_,λp hp z=>?_⟩
 .obtain⟨v,q⟩:=I.cell x c e;exact absurd (VG q.lt (by rw[z];exact hb)) (V9 _)
 .exact absurd (VG (Vz (I.pin p hp).1) (by rw[z];exact hb)) (V9 _)
structure Turn(P:_Q)(w:World)(K:_G)(tg:Expr)(J:It)(fp:_K)(it:_O)(tn:Nat->Heap->Prop):Prop where
 mem:it∈fp
 obj:∀i h,tn i h->∀b∈fp,∃o,h.get? b=some o/\∀v,o.data≠.cell v
 keep:∀i h h',tn i h->(∀b∈fp,∀o,h.get? b=some o->h'.get? b=some o)->tn i h'
 item:∀(X:Cx),X.prog=P->X.w=w->X.K=K->X.calm=true->∀(i:Nat)(ae:_F)(s:_N)(σ:St)(H:Hp)(E:_D),aM X ae σ H s->(∀b∈fp,j7 X ae H b)->tn i s.heap->J.go i H ->
  wpAny (model P w) X.A (pyNext (.ref it)) (λr s1=>∃u,r=some u /\
   wpAny (model P w) X.A (letOwnedTupleGo tg (.ref it) u) (λ_ s2=>∃x H',aM X ae σ H' s2/\bD x u/\J.Ni i H x H'/\tn (i+1) s2.heap/\∀b∈fp,H' b=none) E s1) E s
 done:∀(X:Cx),X.prog=P->X.w=w->X.K=K->X.calm=true->∀(i:Nat)(ae:_F)(s:_N)(σ:St)(H:Hp)(E:_D),aM X ae σ H s->(∀b∈fp,j7 X ae H b)->tn i s.heap->J.stop i H ->
  wpAny (model P w) X.A (pyNext (.ref it)) (λr s1=>r=none/\aM X ae σ H s1) E s
 self:∀(A:_P)(i:Nat)(s:_N)(Q:_D)(E:_D),tn i s.heap->Q (.ref it) s->wpAny (model P w) A (pyIter (.ref it)) Q E s
abbrev TI:=St->Hp->(It->Hp->Prop)->Prop
def UD(X:Cx)(ae:_F)(σ:St)(tg:Expr)(R:It->Hp->Prop)(NX:_M)(s2:_N):Prop:=
 ∃(it:_O)(fp:_K)(tn:Nat->Heap->Prop)(J:It)(H':Hp),NX=.ref it/\aM X ae σ H' s2/\Turn X.prog X.w X.K tg J fp it tn/\tn 0 s2.heap/\(∀b∈fp,j7 X ae H' b)/\R J H'
def PI(X:Cx)(tg iter:Expr)(wi:TI):Prop:=
 ∀(ae:_F)(s:_N)(σ:St)(H:Hp)(R:It->Hp->Prop),aM X ae σ H s->wi σ H R ->
  wpAny (model X.prog X.w) X.A (eval iter X.env) (λv s1=>wpAny (model X.prog X.w) X.A (pyIter v) (UD X ae σ tg R) X.xe s1) X.xe s
theorem CG{M:Model}{A:_P}{E:_D}{s:_N}{u:_M}{o:Obj}{n:String}{vs:Array _M}{Q:Unit->_N->Prop}(ho:s.heap.get? it=some o)(hc:o.cls=.type n)(hd:o.data=.fields vs)(hn:["enumerate","zip","dict_itemiterator","dict_reverseitemiterator","odict_iterator","itertools.zip_longest","itertools.pairwise"].contains n=false)(hQ:Q () s):wpAny M A (letOwnedTupleGo tg (.ref it) u) Q E s:=by
  unfold letOwnedTupleGo;cases tg<;>first
    |exact Vr hQ
    |(cases u<;>first
        |exact Vr hQ
        | (refine Vp (wpAny_load ho ?_)
           rw[hc,hd];show wpAny M A (if(["enumerate","zip","dict_itemiterator","dict_reverseitemiterator","odict_iterator","itertools.zip_longest","itertools.pairwise"].contains n&&vs[0]?==some (rawInt _))=true then _ else _) Q E s;rw[VL (by intro h;rw[hn,Yx]at h;cases h)];exact Vr hQ))
def RD(K:_G)(a:_O):It:=
 ⟨λi H=>∃xs x,kf K H a xs/\xs[i]?=some x,λi H x H'=>H'=H/\∀xs,kf K H a xs->xs[i]?=some x,λi H=>∃xs,kf K H a xs/\xs.length<=i⟩
def RE(K:_G)(a:_O):It:=
 ⟨λi H=>∃xs x,jq K H a xs/\xs[i]?=some x,λi H x H'=>H'=H/\∀xs,jq K H a xs->xs[i]?=some x,λi H=>∃xs,jq K H a xs/\xs.length<=i⟩
def Qw(lo:Int)(n:Nat):It:=⟨λi _=>i<n,λi H x H'=>H'=H/\x=.int (lo+i),λi _=>n<=i⟩
theorem AK{w:World}{K:_G}(a it:_O):Turn P w K tg (RD K a) [it] it (λi h=>h.IsListIter it a i) where
 mem:=by simp
 obj:=λi h st b hb=>by
  have e:b=it:=by simpa using hb
  subst e;obtain⟨o,e,c,d⟩:=st;exact⟨o,e,λv z=>by rw[d]at z;cases z⟩
 keep:=λi h h' st k=>st.at λo e=>k it (by simp) o e
 item:=by intro X hP hw hK hc i ae s σ H E I hf st hg;subst hP hw hK;obtain⟨xs,x,hq,hx⟩:=hg;obtain⟨aI,rv,p,hz⟩:=I.list hq;obtain⟨u,hu,ru⟩:=rv.get hx;obtain⟨f0,f1,f2,f3,f4,f5⟩:=hf it (by simp);refine _i st p.isList (x:=u) (by simpa using hu) λh' az sb=>?_;have I1:aM X ae σ H {s with heap:=h'}:=I.turned (t':=s.toks) (λb o hb e=>(sb.2 b hb).trans e) f0 f1 f3 f4 f5;obtain⟨o,e,c,d⟩:=id az;exact⟨u,rfl,CG (s:={s with heap:=h'}) e c d ⋯ ⟨x,H,I1,ru,⟨rfl,λys hy=>by rw[I.pe hy hq];exact hx⟩,az,λb hb=>(hf b hb).1⟩⟩
 done:=by intro X hP hw hK hc i ae s σ H E I hf st hg;subst hP hw hK;obtain⟨xs,hq,hx⟩:=hg;obtain⟨aI,rv,p,hz⟩:=I.list hq;obtain⟨f0,f1,f2,f3,f4,f5⟩:=hf it (by simp);have hl:=rv.length;exact _t (I.ok.hd hc) st p.isList (by simp;lia) λh' eb=>⟨rfl,I.turned (t':=s.toks) (λb o hb e=>eb b o hb e) f0 f1 f3 f4 f5⟩
 self:=λ_ _ _ _ _ st h=>wpAny_pyIter_listiter st h
theorem xD{w:World}{K:_G}(a it:_O):Turn P w K tg (RE K a) [it] it (λi h=>h.IsTupleIter it a i) where
 mem:=by simp
 obj:=λi h st b hb=>by
  have e:b=it:=by simpa using hb
  subst e;obtain⟨o,e,c,d⟩:=st;exact⟨o,e,λv z=>by rw[d]at z;cases z⟩
 keep:=λi h h' st k=>st.at λo e=>k it (by simp) o e
 item:=by intro X hP hw hK hc i ae s σ H E I hf st hg;subst hP hw hK;obtain⟨xs,x,hq,hx⟩:=hg;obtain⟨aI,rv,p,hz⟩:=I.tuple hq;obtain⟨u,hu,ru⟩:=rv.get hx;obtain⟨f0,f1,f2,f3,f4,f5⟩:=hf it (by simp);refine wpAny_pyNext_tuple_item st (show s.heap.IsTuple a aI.toArray from p) (x:=u) (by simpa using hu) λh' az sb=>?_;have I1:aM X ae σ H {s with heap:=h'}:=I.turned (t':=s.toks) (λb o hb e=>(sb.2 b hb).trans e) f0 f1 f3 f4 f5;obtain⟨o,e,c,d⟩:=id az;exact⟨u,rfl,CG (s:={s with heap:=h'}) e c d ⋯ ⟨x,H,I1,ru,⟨rfl,λys hy=>by rw[I.mG hy hq];exact hx⟩,az,λb hb=>(hf b hb).1⟩⟩
 done:=by intro X hP hw hK hc i ae s σ H E I hf st hg;subst hP hw hK;obtain⟨xs,hq,hx⟩:=hg;obtain⟨aI,rv,p,hz⟩:=I.tuple hq;obtain⟨f0,f1,f2,f3,f4,f5⟩:=hf it (by simp);have hl:=rv.length;exact wpAny_pyNext_tuple_end (I.ok.hd hc) st (show s.heap.IsTuple a aI.toArray from p) (by simp;lia) λh' eb=>⟨rfl,I.turned (t':=s.toks) (λb o hb e=>eb b o hb e) f0 f1 f3 f4 f5⟩
 self:=λ_ _ _ _ _ st h=>wpAny_pyIter_tupleiter st h
theorem xE{w:World}{K:_G}(it:_O)(lo:Int)(n:Nat):Turn P w K tg (Qw lo n) [it] it (λi h=>IsRangeIter h it (lo+(i:Nat)*1) ((n:Int)-(i:Nat)) 1) where
 mem:=by simp
 obj:=λi h st b hb=>by
  have e:b=it:=by simpa using hb
  subst e;exact⟨_,st,λv z=>by
   have z':Data.fields _=Data.cell v:=z;cases z'⟩
 keep:=λi h h' st k=>k it (by simp) _ st
 item:=by intro X hP hw hK hc i ae s σ H E I hf st hg;subst hP hw hK;obtain⟨f0,f1,f2,f3,f4,f5⟩:=hf it (by simp);have W:=Walks.range (prog:=X.prog) (w:=X.w) (I.ok.hd hc) it lo 1 n;refine W.item i s _ _ hg st λv h' tk hv az kk=>?_;obtain⟨t,rfl⟩:=hv;have I1:aM X ae σ H {s with heap:=h',toks:=tk}:=I.turned (λb o hb e=>kk b o (by simpa using hb) e) f0 f1 f3 f4 f5;refine⟨_,rfl,CG (s:={s with heap:=h',toks:=tk}) (n:="range_iterator") az rfl rfl ⋯ ⟨.int (lo+i),H,I1,⟨t,?_⟩,⟨rfl,rfl⟩,az,λb hb=>(hf b hb).1⟩⟩;rw[Int.mul_one]
 done:=by intro X hP hw hK hc i ae s σ H E I hf st hg;subst hP hw hK;obtain⟨f0,f1,f2,f3,f4,f5⟩:=hf it (by simp);exact wpAny_pyNext_range_end (I.ok.hd hc) st (by have:n<=i:=hg;lia) λh' eb=>⟨rfl,I.turned (t':=s.toks) (λb o hb e=>eb b o hb e) f0 f1 f3 f4 f5⟩
 self:=λ_ _ _ _ _ st h=>wpAny_pyIter_rangeiter st h
section
variable{X:Cx}
theorem CH{σ:St}{H:Hp}{s:_N}{R:It->Hp->Prop}{E:_D}{lo hi:Int}{t u v:Tok}{tk:Nat}(I:aM X ae σ H s)(h1:-(2 ^ 62)<=lo)(h2:lo<2 ^ 62)(h3:-(2 ^ 62)<=hi)(h4:hi<2 ^ 62)(q:R (Qw lo (hi-lo).toNat) H):wpAny (model X.prog X.w) X.A (pyIter (.ref s.heap.objs.size)) (UD X ae σ tg R) E {s with heap:=s.heap.push {cls:=.type "range",data:=.fields #[.int lo t,.int hi u,.int 1 v]},toks:=tk}:=by
 refine wpAny_pyIter_range (IsRange.new ..) (small_one h1 h2 h3 h4) ?_;have I1:aM X ae σ H {s with heap:=s.heap.push {cls:=.type "range",data:=.fields #[.int lo t,.int hi u,.int 1 v]},toks:=tk}:=I.kept λb o e=>Vq _ e;refine⟨(s.heap.push {cls:=.type "range",data:=.fields #[.int lo t,.int hi u,.int 1 v]}).objs.size,[(s.heap.push {cls:=.type "range",data:=.fields #[.int lo t,.int hi u,.int 1 v]}).objs.size],_,_,H,rfl,
  I1.kept (t':=tk) λb o e=>Vq _ e,xE _ lo (hi-lo).toNat,?_,λb hb=>?_,q⟩
 .have e1:lo+((0:Nat):Int)*1=lo:=by simp
  have e2:(((hi-lo).toNat:Nat):Int)-((0:Nat):Int)=Builtin.Range.rangeSize lo hi 1:=by rw[rangeSize_one];split<;>lia
  show IsRangeIter _ _ (lo+((0:Nat):Int)*1) ((((hi-lo).toNat:Nat):Int)-((0:Nat):Int)) 1;rw[e1,e2];exact VI _ rfl
 .have e:b=(s.heap.push {cls:=.type "range",data:=.fields #[.int lo t,.int hi u,.int 1 v]}).objs.size:=by simpa using hb
  subst e;exact I1.CF (Vy _) (I1.b?.fresh (Vy _))
def NY(ta:TA):TI:=λσ H R=>ta σ H λvs H1=>∃j:Int,vs=[.int j]/\-(2 ^ 62)<=j/\j<2 ^ 62/\R (Qw 0 j.toNat) H1
theorem AL{a:Expr}{ta:TA}{p:Pos}(hg:Gl X "range")(hm:X.mg "range" = none)(ha:PA X [a] ta)(hs:starEach [a] X.env=[(false,eval a X.env)]:=by rfl):PI X tg (.Call (.Name "range" p) [a] [] pos) (NY ta):=by
 intro ae s σ H R I h;refine Call_ (kA I hg hm boot_range (Xr (dA (ha pos ae s σ H _ I h) λus s1⟨vs,H1,I1,r1,q1⟩=>?_) hs rfl));obtain⟨j,e,q1,q2,q⟩:=q1;subst e;cases r1 with
 |cons r rr=>
  cases rr;obtain⟨t,rfl⟩:=r;exact call_range_1 (CH I1 ⋯ ⋯ q1 q2 (by simpa using q))
def RF(wi:TI)(g:TG)(tb:TS):TS:=λD σ H=>wi σ H λJ H1=>∃W:Nat->Nat->St->Hp->Prop,(∃m,W 0 m σ H1)/\∀i m σ H,W i m σ H ->
 (J.stop i H/\D.nx σ H)\/(J.go i H/\∃N:St->Hp->Prop,(∀σ' H',N σ' H'->∃m',m'<m/\W (i+1) m' σ' H')/\∀x H',J.Ni i H x H'->g x σ H' λσ2 H2=>tb {D with nx:=N,ct:=N,bk:=D.nx} σ2 H2)
def ph(fp:_K)(h:Heap):_F:=fp.filterMap λb=>(h.get? b).map λo=>(b,o)
theorem iS{h:Heap}{b:_O}{o:Obj}(hb:b∈fp)(e:h.get? b=some o):(b,o)∈ph fp h:=Zy.mpr ⟨b,hb,by rw[e];rfl⟩
theorem AM{h:Heap}{p:_O×Obj}(hp:p∈ph fp h):p.1∈fp/\h.get? p.1=some p.2:=by
 obtain⟨b,hb,e⟩:=Zy.mp hp;cases q:h.get? b with
 |none=>rw[q]at e;cases e
 |some o=>
  rw[q]at e;have e':(b,o)=p:=V? e;subst e';exact⟨hb,q⟩
theorem aM.pinned{σ:St}{H:Hp}{s:_N}(I:aM X ae σ H s)(hf:∀b∈fp,j7 X ae H b)(ho:∀b∈fp,∃o,s.heap.get? b=some o/\∀v,o.data≠.cell v):aM X (ae++ph fp s.heap) σ H s:=
 I.oM λp hp=>(W8.mp hp).elim (λz=>I.pin p (Wg _ z)) λz=>by obtain⟨hb,e⟩:=AM z;obtain⟨f0,f1,f2,_⟩:=hf p.1 hb;obtain⟨o,e',d⟩:=ho p.1 hb;rw[e]at e';cases e';exact⟨e,f0,f1,f2,d⟩
theorem aM.pj{pl:_F}{σ:St}{H:Hp}{s:_N}(I:aM X (ae++pl) σ H s):aM X ae σ H s:=I.oM λp hp=>I.pin p (Wg _ (W5 _ hp))
theorem J!{body:List Stmt}{wi:TI}{g:TG}{tb:TS}(hp:PassesOwn (model X.prog X.w) X.A X.env X.xe)(hc:X.calm=true)(hi:PI X tg iter wi)(hg:PG X tg g)(hb:jk X body tb)(hs:∀x,foldedSetIterable iter X.env x=pure x:=by intro _;rfl):PS X (.For tg iter body [] pos) (RF wi g tb):=by
 intro ae s σ H D I h;refine wpAny_For (dA (hi ae s σ H _ I h) λv s1 h1=>dA h1 λNX s2 h2=>?_) hs;obtain⟨it,fp,tn,J,H2,e,I2,T,dh,f2,W,⟨m0,w0⟩,turn⟩:=h2;subst e
 -- J? stays true of Ck Ka objects through Ck loop
 have xF:∀{H':Hp},(∀b∈fp,H' b=none)->∀b∈fp,j7 X ae H' b:=λhn b hb=>⟨hn b hb,(f2 b hb).2⟩
 refine codeAny_forLoop_any (λn s'=>∃i σ' H',aM X ae σ' H' s'/\tn i s'.heap/\(∀b∈fp,H' b=none)/\W i n σ' H') ?_ m0 ⟨0,σ,H2,I2,dh,λb hb=>(f2 b hb).1,w0⟩;rintro n s3 ⟨i,σ3,H3,I3,nV,NZ,w3⟩;rcases turn i n σ3 H3 w3 with⟨stop,qn⟩|⟨go,N,hN,step⟩
 .refine Xu hp (dA (T.done X rfl rfl rfl hc i ae s3 σ3 H3 X.xe I3 (xF NZ) nV stop) λr s4⟨hr,I4⟩=>?_);subst hr;exact XT ⟨σ3,H3,I4,qn⟩
 .refine Xu hp (dA (T.item X rfl rfl rfl hc i ae s3 σ3 H3 X.xe I3 (xF NZ) nV go) λr s4⟨u,hr,h4⟩=>?_);subst hr;refine Xu hp (dA h4 λ_ s5⟨x,H5,I5,r5,y5,Kb,RG⟩=>?_);have RH:=I5.pinned (xF RG) (T.obj _ _ Kb);refine Xu hp (dA (hg _ s5 σ3 H5 x u _ RH r5 (step x H5 y5)) λ_ s6⟨σ6,H6,I6,q6⟩=>?_);refine Xu hp (dA (hb _ s6 σ6 H6 _ I6 q6) λf s7 q7=>?_);have again:∀{σ7:St}{H7:Hp},aM X (ae++ph fp s5.heap) σ7 H7 s7->N σ7 H7->∃m,m<n/\∃i σ' H',aM X ae σ' H' s7/\tn i s7.heap/\(∀b∈fp,H' b=none)/\W i m σ' H':=λ{σ7 H7}I7 n7=>by obtain⟨m',hm,w7⟩:=hN σ7 H7 n7;refine⟨m',hm,i+1,σ7,H7,I7.pj,T.keep _ _ _ Kb λb hb o e=>(I7.pin (b,o) (Wg _ (Wg _ (iS hb e)))).1,λb hb=>?_,w7⟩;obtain⟨o,e,d⟩:=T.obj _ _ Kb b hb;exact(I7.pin (b,o) (Wg _ (Wg _ (iS hb e)))).2.1
  cases f with
  |next=>obtain⟨σ7,H7,I7,n7⟩:=q7;exact again I7 n7
  |cont=>obtain⟨σ7,H7,I7,n7⟩:=q7;exact again I7 n7
  |brk=>obtain⟨σ7,H7,I7,q7⟩:=q7;exact⟨σ7,H7,I7.pj,q7⟩
  |ret v=>obtain⟨x7,σ7,H7,I7,r7,q7⟩:=q7;exact⟨x7,σ7,H7,I7.pj,r7,q7⟩
end
abbrev R2:=V->V->Hp->VK->Prop
def dN(X:Cx)(f:_M->_M->Sem _M)(r:R2):Prop:=
 ∀(ae:_F)(s:_N)(σ:St)(H:Hp)(x y:V)(v u:_M)(Q:VK),aM X ae σ H s->bD x v->bD y u->r x y H Q ->
  wpAny (model X.prog X.w) X.A (f v u) (EP X ae σ Q) X.xe s
def RI(X:Cx)(f:_M->Sem _M)(r:V->Hp->VK->Prop):Prop:=
 ∀(ae:_F)(s:_N)(σ:St)(H:Hp)(x:V)(v:_M)(Q:VK),aM X ae σ H s->bD x v->r x H Q ->
  wpAny (model X.prog X.w) X.A (f v) (EP X ae σ Q) X.xe s
def bp(X:Cx)(f:_M)(r:List V->Hp->VK->Prop):Prop:=
 ∀(ae:_F)(s:_N)(σ:St)(H:Hp)(xs:List V)(us:_I)(Q:VK),aM X ae σ H s->bw xs us->r xs H Q ->
  wpAny (model X.prog X.w) X.A (call f us) (EP X ae σ Q) X.xe s
def Nj(r:R2)(ta tb:TE):TE:=λσ H Q=>ta σ H λx H1=>tb σ H1 λy H2=>r x y H2 Q
def tUn(r:V->Hp->VK->Prop)(ta:TE):TE:=λσ H Q=>ta σ H λx H1=>r x H1 Q
def rI(C:Int->Int->Prop)(g:Int->Int->V):R2:=λx y H Q=>∃i j,x=.int i/\y=.int j/\C i j/\Q (g i j) H
def I_(g:Int->Int->V):R2:=λx y H Q=>∃i j,x=.int i/\y=.int j/\Q (g i j) H
def rU(g:Int->V):V->Hp->VK->Prop:=λx H Q=>∃i,x=.int i/\Q (g i) H
section
variable{X:Cx}{a b c:Expr}{ta tb tc:TE}
theorem Kc(ha:PE X a ta)(hb:PE X b tb){s:_N}{σ:St}{H:Hp}{R:V->V->Hp->Prop}(I:aM X ae σ H s)(h:ta σ H λx H1=>tb σ H1 λy H2=>R x y H2){f:_M->_M->Sem _M}(hf:∀v u s2 x y H2,aM X ae σ H2 s2->bD x v->bD y u->R x y H2->wpAny (model X.prog X.w) X.A (f v u) Q X.xe s2):
  wpAny (model X.prog X.w) X.A (eval a X.env) (λv s₁=>wpAny (model X.prog X.w) X.A (eval b X.env) (λu s₂=>wpAny (model X.prog X.w) X.A (f v u) Q X.xe s₂) X.xe s₁) X.xe s:=by
 refine dA (ha ae s σ H _ I h) λv s1⟨x,H1,I1,r1,q1⟩=>?_;refine dA (hb ae s1 σ H1 _ I1 q1) λu s2⟨y,H2,I2,r2,q2⟩=>?_;exact hf v u s2 x y H2 I2 r1 r2 q2
theorem N0{op:Operator}{r:R2}(ho:dN X (binaryOp op) r)(ha:PE X a ta)(hb:PE X b tb):PE X (.BinOp a op b pos) (Nj r ta tb):=by intro ae s σ H Q I h;exact wpAny_BinOp (Kc ha hb I h λv u s2 x y H2 I2 rx ry q=>ho ae s2 σ H2 x y v u Q I2 rx ry q)
theorem N4{op:UnaryOp}{r:V->Hp->VK->Prop}(ho:RI X (unaryOp op) r)(ha:PE X a ta):PE X (.UnaryOp op a pos) (tUn r ta):=by intro ae s σ H Q I h;exact UnaryOp_ (dA (ha ae s σ H _ I h) λv s1⟨x,H1,I1,r1,q1⟩=>ho ae s1 σ H1 x v Q I1 r1 q1)
theorem N5{f:_M->_M->Sem _M}{C:Int->Int->Prop}{g:Int->Int->Int}(rule:∀(i j:Int)(t u:Tok)(s:_N)(Q:_D)(E:_D),C i j->Q (.int (g i j) s.toks) {s with toks:=s.toks+1}->wpAny (model X.prog X.w) X.A (f (.int i t) (.int j u)) Q E s):
  dN X f (rI C λi j=>.int (g i j)):=by
 intro ae s σ H x y v u Q I rx ry h;obtain⟨i,j,rfl,rfl,hc,q⟩:=h;obtain⟨t,rfl⟩:=rx;obtain⟨t',rfl⟩:=ry;exact rule i j t t' s _ _ hc ⟨.int (g i j),H,I.tok _,⟨_,rfl⟩,q⟩
theorem N6{f:_M->_M->Sem _M}{g:Int->Int->Int}(rule:∀(i j:Int)(t u:Tok)(s:_N)(Q:_D)(E:_D),Q (.int (g i j) s.toks) {s with toks:=s.toks+1}->wpAny (model X.prog X.w) X.A (f (.int i t) (.int j u)) Q E s):
  dN X f (I_ λi j=>.int (g i j)):=by
 intro ae s σ H x y v u Q I rx ry h;obtain⟨i,j,rfl,rfl,q⟩:=h;obtain⟨t,rfl⟩:=rx;obtain⟨t',rfl⟩:=ry;exact rule i j t t' s _ _ ⟨.int (g i j),H,I.tok _,⟨_,rfl⟩,q⟩
theorem F?{f:_M->_M->Sem _M}{g:Int->Int->Bool}(rule:∀(i j:Int)(t u:Tok)(s:_N)(Q:_D)(E:_D),Q (.bool (g i j)) s->wpAny (model X.prog X.w) X.A (f (.int i t) (.int j u)) Q E s):
  dN X f (I_ λi j=>.bl (g i j)):=by
 intro ae s σ H x y v u Q I rx ry h;obtain⟨i,j,rfl,rfl,q⟩:=h;obtain⟨t,rfl⟩:=rx;obtain⟨t',rfl⟩:=ry;exact rule i j t t' s _ _ ⟨.bl (g i j),H,I,rfl,q⟩
def AN(i j:Int):Prop:=0<=j/\j<=1000000/\i.natAbs<2 ^ 64
def CI(i j:Int):Prop:=(-(2 ^ 64)<i/\i<2 ^ 64)\/(-(2 ^ 64)<j/\j<2 ^ 64)
theorem CI.ok{i:Int}(h:CI i j):IntMulOk i j:=by
 rcases h with⟨h1,h2⟩|⟨h1,h2⟩
 .exact .of_left (intBits_le_64 h1 h2)
 .exact .of_right (intBits_le_64 h1 h2)
theorem Kd:dN X (binaryOp .Add) (I_ λi j=>.int (i+j)):=N6 λ_ _ _ _ _ _ _ q=>add_int q
theorem Ke:dN X (binaryOp .Sub) (I_ λi j=>.int (i-j)):=N6 λ_ _ _ _ _ _ _ q=>sub_int q
theorem Kf:dN X (binaryOp .Mult) (rI CI λi j=>.int (i*j)):=N5 λ_ _ _ _ _ _ _ hc q=>mul_int q hc.ok
theorem F':dN X (binaryOp .Mod) (rI (λ_ j=>j≠0) λi j=>.int (i.fmod j)):=N5 λ_ _ _ _ _ _ _ hc q=>mod_int' hc q
theorem Kg:dN X (binaryOp .Pow) (rI AN λi j=>.int (i ^ j.toNat)):=N5 λ_ _ _ _ _ _ _ hc q=>pow_int_small hc.1 hc.2.1 hc.2.2 q
theorem unI{f:_M->Sem _M}{g:Int->Int}(rule:∀(i:Int)(t:Tok)(s:_N)(Q:_D)(E:_D),Q (.int (g i) s.toks) {s with toks:=s.toks+1}->wpAny (model X.prog X.w) X.A (f (.int i t)) Q E s):
  RI X f (rU λi=>.int (g i)):=by
 intro ae s σ H x v Q I rx h;obtain⟨i,rfl,q⟩:=h;obtain⟨t,rfl⟩:=rx;exact rule i t s _ _ ⟨.int (g i),H,I.tok _,⟨_,rfl⟩,q⟩
theorem Kh:RI X (unaryOp .USub) (rU λi=>.int (-i)):=unI λ_ _ _ _ _ q=>neg_int q
end
section
variable{X:Cx}{a b c:Expr}{ta tb tc:TE}
theorem Ki{σ:St}{H:Hp}{s:_N}{Q:VK}{k k':Bool}(I:aM X ae σ H s)(q:Q (.bl k) H)(e:k=k'):EP X ae σ Q (.bool k') s:=by subst e;exact⟨.bl k,H,I,rfl,q⟩
theorem N7:dN X (compareOp .Lt) (I_ λi j=>.bl (decide (i<j))):=F? λ_ _ _ _ _ _ _ q=>lt_int q
theorem N8:dN X (compareOp .LtE) (I_ λi j=>.bl (decide (i<=j))):=F? λ_ _ _ _ _ _ _ q=>le_int q
theorem N9:dN X (compareOp .Gt) (I_ λi j=>.bl (decide (j<i))):=F? λ_ _ _ _ _ _ _ q=>gt_int q
theorem N_:dN X (compareOp .GtE) (I_ λi j=>.bl (decide (j<=i))):=F? λ_ _ _ _ _ _ _ q=>ge_int q
theorem Ga:dN X (compareOp .IsNot) (λx y H Q=>y=.c6/\Q (.bl (!decide (x=.c6))) H):=by
 intro ae s σ H x y v u Q I rx ry h;obtain⟨rfl,q⟩:=h;cases ry;refine isnot_none_gen (Ki I q ?_);cases x<;>first
  |(cases rx;rfl)
  |(obtain⟨t,rfl⟩:=rx;rfl)
theorem dN.or{f:_M->_M->Sem _M}{r r':R2}(h:dN X f r)(h':dN X f r'):dN X f (λx y H Q=>r x y H Q\/r' x y H Q):=by
 intro ae s σ H x y v u Q I rx ry q;rcases q with q|q
 .exact h ae s σ H x y v u Q I rx ry q
 .exact h' ae s σ H x y v u Q I rx ry q
theorem CJ(b:Expr)(h:op≠.In:=by decide)(h2:op≠.NotIn:=by decide):behindInMarks op b=false:=by
 have e1:(op==CmpOp.In)=false:=by cases op<;>first|rfl|exact absurd rfl h
 have e2:(op==CmpOp.NotIn)=false:=by cases op<;>first|rfl|exact absurd rfl h2
 cases b<;>simp[behindInMarks,e1,e2]
theorem Gb{r:R2}(ho:dN X (compareOp op) r)(ha:PE X a ta)(hb:PE X b tb)(hm:behindInMarks op b=false):PE X (.Compare a [op] [b] pos) (Nj r ta tb):=by intro ae s σ H Q I h;exact wpAny_Compare1 (Kc ha hb I h λv u s2 x y H2 I2 rx ry q=>ho ae s2 σ H2 x y v u Q I2 rx ry q) hm
def N!(t:TE):TT:=λσ H Q=>t σ H λx H'=>∃k,x=.bl k/\Q k H'
theorem Gd{r:R2}(ho:dN X (compareOp op) r)(ha:PE X a ta)(hb:PE X b tb)(hm:behindInMarks op b=false):PT X (.Compare a [op] [b] pos) (N! (Nj r ta tb)):=by
 intro ae s σ H Q I h;refine wpAny_isTrue_Compare1 (dA (ha ae s σ H _ I h) λv s1⟨x,H1,I1,r1,q1⟩=>dA (hb ae s1 σ H1 _ I1 q1) λu s2⟨y,H2,I2,r2,q2⟩=>
  dA (ho ae s2 σ H2 x y v u _ I2 r1 r2 q2) λc s3⟨z,H3,I3,r3,k,e,q3⟩=>?_) hm
 subst e;cases r3;exact WX ⟨H3,I3,q3⟩
def CK(r r':R2)(ta tb tc:TE):TE:=λσ H Q=>ta σ H λx H1=>tb σ H1 λy H2=>r x y H2 λz H3=>∃k,z=.bl k /\
 (if k=true then tc σ H3 λw' H4=>r' y w' H4 Q else Q (.bl false) H3)
theorem CL{Kj:CmpOp}{r r':R2}(ho:dN X (compareOp op) r)(rX:dN X (compareOp Kj) r')(ha:PE X a ta)(hb:PE X b tb)(hc:PE X c tc)(hm:lastMarks [op,Kj] [b,c]=false:=by with_unfolding_all rfl):PE X (.Compare a [op,Kj] [b,c] pos) (CK r r' ta tb tc):=by
 intro ae s σ H Q I h;refine Compare_chain (dA (ha ae s σ H _ I h) λv s1⟨x,H1,I1,r1,q1⟩=>chain_link (dA (hb ae s1 σ H1 _ I1 q1) λu s2⟨y,H2,I2,r2,q2⟩=>
  dA (ho ae s2 σ H2 x y v u _ I2 r1 r2 q2) λd s3⟨z,H3,I3,r3,k,e,q3⟩=>?_)) hm
 subst e;cases r3;refine WX ?_;cases k with
 |false=>exact ite_ff ⟨.bl false,H3,I3,rfl,q3⟩
 |true=>exact ite_tt (chain_last (dA (hc ae s3 σ H3 _ I3 q3) λw' s4⟨z',H4,I4,r4,q4⟩=>rX ae s4 σ H4 y z' u w' Q I4 r2 r4 q4))
theorem pk:(sizeLine:Nat)<2 ^ 63:=by rw[VF];decide
theorem xG:dN X (binaryOp .Add) (λx y H Q=>∃i j,x=.str i/\y=.str j/\i.length+j.length<=sizeLine/\Q (.str (i++j)) H):=by intro ae s σ H x y v u Q I rx ry h;obtain⟨i,j,rfl,rfl,hz,q⟩:=h;obtain⟨t,rfl⟩:=rx;obtain⟨t',rfl⟩:=ry;exact add_str (λt' tk=>⟨.str (i++j),H,I.tok _,⟨_,rfl⟩,q⟩) hz
theorem vals1{x:V}{us:_I}(r:bw [x] us):∃u,us=[u]/\bD x u:=by
 cases r with
 |cons r1 r2=>cases r2;exact⟨_,rfl,r1⟩
theorem vals2{x y:V}{us:_I}(r:bw [x,y] us):∃u w',us=[u,w']/\bD x u/\bD y w':=by
 cases r with
 |cons r1 r2=>
  cases r2 with
  |cons r3 r4=>cases r4;exact⟨_,_,rfl,r1,r3⟩
theorem CM:bp X (.builtin "abs") (λxs H Q=>∃i,xs=[.int i]/\Q (.int (if i<0 then -i else i)) H):=by intro ae s σ H xs us Q I r h;obtain⟨i,rfl,q⟩:=h;obtain⟨u,rfl,t,rfl⟩:=vals1 r;exact call_abs_int λu tk=>⟨.int (if i<0 then -i else i),H,I.tok _,⟨_,rfl⟩,q⟩
end
structure Kk(h:Heap)(x dx C:_O)(mA:_E):Prop where
 obj:h.get? x=some (W.instObj C dx)
 ns:h.Ns1 dx mA
 ne:dx≠x
theorem AO{h:Heap}(n:h.Ns1 dx mA):∃od,h.get? dx=some od/\∀name,W.lookIn name od=some (mA name):=by
 obtain⟨o,es,ep,ho,hd,hk,_,hm⟩:=n;refine⟨o,ho,λname=>?_⟩;have e:=hm name;unfold nsFind findBy at e;rw[<-Array.find?_toList]at e;unfold W.lookIn;rw[hd];dsimp only;split
 .rename_i y q;rw[q]at e;exact Xc some e
 .rename_i q;rw[q]at e;have a:es.toList.any (·.refKey)=false:=by rw[List.any_eq_false];intro y hy;obtain⟨z,t,AQ⟩:=hk y (Array.mem_toList_iff.mp hy);simp[DictEntry.refKey,AQ]
  have a':¬ es.toList.any (·.refKey)=true:=by rw[a];exact VH
  rw[VL a'];exact Xc some e
theorem Kk.look{h:Heap}{x:_O}(I:Kk h x dx C mA):∃od,W.InstAt h x (W.instObj C dx) C (some od)/\∀name,W.lookIn name od=some (mA name):=
 let⟨od,ho,hl⟩:=AO I.ns
 ⟨od,⟨I.obj,rfl,rfl,ho⟩,hl⟩
theorem k9.some_of{v:V}{o:_J}(r:k9 (some v) o):∃u,o=some u/\bD v u:=by
 cases o with
 |none=>exact(show False from r).elim
 |some u=>exact⟨u,rfl,r⟩
section
variable{w:World}{H H':Hp}{h:Heap}{a:_O}{fs fs':List (Str×V)}
theorem Ge(b?:iQ P w H h)(e:H a=some (.ins C dx fs)):∃mA,Kk h a dx C mA/\(∀f,k9 (fs.lookup f) (mA f))/\PySem.Within mA (fs.map (·.1))/\fs.length<=1000/\H dx=some (.own a):=by
 obtain⟨d,z,ne,ob,mA,n,r,q⟩:=(show cj P w H h a (.ins C dx fs)from b? a _ e)
 exact⟨mA,⟨ob,n,ne⟩,r,q,z,d⟩
end
structure RJ(K:_G)(C:_O):Prop where
 pg:W.plainGet K C Str.empty=true
 hd:W.hasDictIn K C=true
 po:W.plainOver K C=true
 sa:W.findIn K (.ref C) "__setattr__" = some (some (.builtin "object.__setattr__"))
theorem RJ.get{K:_G}(c:RJ K C)(f:Str):W.plainGet K C f=true:=c.pg
section
variable{X:Cx}{σ:St}{H:Hp}{s:_N}{A:_P}{E:_D}{c:_M}{b:Bool}
inductive nW(K:_G)(H:Hp):V->_M->Prop where
 |c6:nW K H .c6 (.type "NoneType")
 |bl (x:Bool):nW K H (.bl x) (.type "bool")
 |int (i:Int):nW K H (.int i) (.type "int")
 |str (x:Str):nW K H (.str x) (.type "str")
 |oJ (x:UInt64):nW K H (.oJ x) (.type "float")
 |lst {a:_O} {xs:List V} (e:H a=some (.lst xs)):nW K H (.ref a) (.type "list")
 |kx {a:_O} {o:Obj} {xs:List V} (e:H a=some (.kx o (.lst xs))):nW K H (.ref a) (.type "list")
 |tup {a:_O} {xs:List V} (e:H a=some (.tup xs)):nW K H (.ref a) (.type "tuple")
 |dK {a:_O} {aD:List (cT×V)} (e:H a=some (.dK aD)):nW K H (.ref a) (.type "dict")
 |dT {a:_O} {aD:List (List cT×V)} (e:H a=some (.dT aD)):nW K H (.ref a) (.type "dict")
 |ins {a C dx:_O} {fs:List (Str×V)} (e:H a=some (.ins C dx fs)) (cl:RJ K C) (ha:W.findIn K (.ref C) "__class__" = some (some (.builtin "object.__class__")))
   (hn:W.specialIn K (.builtin "object.__class__") "__get__" = some (some (.builtin "getset_descriptor.__get__"))) (UE:W.takesIn K (.builtin "object.__class__")=some true)
   (hm:W.mroIn K C (.type "object")=some true):nW K H (.ref a) (.ref C)
theorem fc{x:V}{u t:_M}(I:aM X ae σ H s)(rx:bD x u)(ty:nW X.K H x t)(e:W.kitOne X.K t c=some b)(h:∀tk,Q (.bool b) {s with toks:=tk}):
  wpAny (model X.prog X.w) A (call (.builtin "isinstance") [u,c]) Q E s:=by
 cases ty with
 |c6=>cases(show u=Value.none from rx);exact WD W.kitx_none I.nI True.intro e (λz=>nomatch z) h
 |bl y=>cases(show u=Value.bool y from rx);exact WD W.kitx_bool I.nI True.intro e (λz=>nomatch z) h
 |int i=>obtain⟨t,q⟩:=(show ∃t,u=Value.int i t from rx);cases q;exact WD W.kitx_int I.nI True.intro e (λz=>nomatch z) h
 |str y=>obtain⟨t,q⟩:=(show ∃t,u=Value.str y t from rx);cases q;exact WD W.kitx_str I.nI True.intro e (λz=>nomatch z) h
 |oJ y=>obtain⟨t,q⟩:=(show ∃t,u=Value.float y t from rx);cases q;exact WD W.kitx_float I.nI True.intro e (λz=>nomatch z) h
 | @lst a xs ea=>
  cases(show u=Value.ref a from rx);obtain⟨_,_,n,_,h1⟩:=(show cj X.prog X.w H s.heap a (.lst xs)from I.b? a _ ea)
  exact WD _b I.nI ⟨_,h1,rfl⟩ e (λz=>nomatch z) h
 | @kx a ob xs ea=>
  cases(show u=Value.ref a from rx);obtain⟨_,_,_,n,_,h1⟩:=(show cj X.prog X.w H s.heap a (.kx ob (.lst xs))from I.b? a _ ea)
  exact WD _b I.nI ⟨_,h1,rfl⟩ e (λz=>nomatch z) h
 | @tup a xs ea=>
  cases(show u=Value.ref a from rx);obtain⟨_,_,_,p⟩:=(show cj X.prog X.w H s.heap a (.tup xs)from I.b? a _ ea)
  obtain⟨o,h1,h2,_⟩:=p;exact WD Z3 I.nI ⟨o,h1,h2⟩ e (λz=>nomatch z) h
 | @dK a aD ea=>
  cases(show u=Value.ref a from rx);obtain⟨_,_,vs,_,p⟩:=(show cj X.prog X.w H s.heap a (.dK aD)from I.b? a _ ea)
  obtain⟨o,es,ep,h1,h2,_⟩:=p;exact WD _c I.nI ⟨o,h1,h2.1⟩ e (λz=>nomatch z) h
 | @dT a aD ea=>
  cases(show u=Value.ref a from rx);obtain⟨_,_,xs,_,o,es,ep,h1,h2,_⟩:=(show cj X.prog X.w H s.heap a (.dT aD)from I.b? a _ ea)
  exact WD _c I.nI ⟨o,h1,h2.1⟩ e (λz=>nomatch z) h
 | @ins a C dx fs ea cl ha hn UE hm=>
  cases(show u=Value.ref a from rx);obtain⟨mA,O,_⟩:=Ge I.b? ea;obtain⟨od,J,_⟩:=O.look;exact WD (W.kitx_own (cl.get _) cl.hd ha hn UE hm) I.nI J e (λz=>nomatch z) h
end
structure fJ(k:Nat)(A:_P):Prop where
 hd:A.handled=none
 dp:A.depth+3*k+5<recursionLimit
 un:A.units+16*k+200<cLine
theorem fJ.mono{j k:Nat}{A:_P}(r:fJ k A)(h:j<=k):fJ j A:=⟨r.hd,by have:=r.dp;lia,by have:=r.un;lia⟩
theorem fJ.deeper{k:Nat}{A:_P}(r:fJ (k+1) A)(env:Env):fJ k (A.deeper env):=
 ⟨r.hd,by have:=r.dp;show A.depth+1+3*k+5<_;lia,by have:=r.un;show A.units+3+16*k+200<_;lia⟩
theorem fJ.depth{k:Nat}{A:_P}(r:fJ k A):A.depth<recursionLimit:=by have:=r.dp;lia
theorem fJ.units{k:Nat}{A:_P}(r:fJ k A):A.units+64<cLine:=by have:=r.un;lia
def N?:TA:=λ_ H Q=>Q [] H
def I!(ta:TE)(tr:TA):TA:=λσ H Q=>ta σ H λx H1=>tr σ H1 λxs H2=>Q (x::xs) H2
section
variable{X:Cx}{e:Expr}{te:TE}{t:TA}
theorem kB:PA X [] N?:=λ_ _ _ _ H Q I h=>Y' ⟨[],H,I,.nil,h⟩
theorem fS(ha:PE X e te)(hr:PA X es t)(hs:starEach (e::es) X.env=(false,eval e X.env)::starEach es X.env:=by rfl):PA X (e::es) (I! te t):=by intro pos ae s σ H Q I h;rw[hs];show wpAny _ _ (spliced ((false,eval e X.env)::backTo pos (starEach es X.env))) _ _ s;refine Yi (dA (ha ae s σ H _ I h) λu s1⟨x,H1,I1,r1,q1⟩=>?_);exact dA (hr pos ae s1 σ H1 _ I1 q1) λus s2⟨xs,H2,I2,r2,q2⟩=>⟨x::xs,H2,I2,.cons r1 r2,q2⟩
def RK(t:TA):TE:=λσ H Q=>t σ H λxs H1=>xs.length<=sizeLine/\∀p,H1 p=none->Q (.ref p) (upd H1 p (.tup xs))
def RL(t:TA):TE:=λσ H Q=>t σ H λxs H1=>xs.length<=sizeLine/\∀p,H1 p=none->Q (.ref p) (upd H1 p (.lst xs))
theorem Km{x1}(h:PA X es t):PE X (.Tuple es x1 pos) (RK t):=by intro ae s σ H Q I hq;refine wpAny_Tuple_spliced (dA (h pos ae s σ H _ I hq) λus s1⟨xs,H1,I1,r,z,q⟩=>⟨by rw[<-r.length];exact z,?_⟩);have hf:H1 s1.heap.objs.size=none:=I1.b?.fresh (Vy _);refine⟨.ref s1.heap.objs.size,upd H1 s1.heap.objs.size (.tup xs),I1.laid (t':=s1.toks) (λb u e=>Vq _ e) (Vy _) ?_,rfl,q _ hf⟩;exact⟨z,us,r,⟨_,VI _ rfl,rfl,_,rfl⟩⟩
theorem Kn(h:PA X es t):PE X (.List es pos) (RL t):=by intro ae s σ H Q I hq;refine wpAny_List_spliced (dA (h pos ae s σ H _ I hq) λus s1⟨xs,H1,I1,r,z,q⟩=>⟨by rw[<-r.length];exact z,?_⟩);have hf:H1 s1.heap.objs.size=none:=I1.b?.fresh (Vy _);refine⟨.ref s1.heap.objs.size,upd H1 s1.heap.objs.size (.lst xs),I1.laid (t':=s1.toks) (λb u e=>Vq _ e) (Vy _) ?_,rfl,q _ hf⟩;exact⟨z,us,0,r,VI _ rfl⟩
end
abbrev Sp:=List V->Hp->VK->XK->Prop
abbrev xy:=List Env->Hp->_N->XK->_M->_N->Prop
structure xH(P:_Q)(w:World)(K:_G)(mg:_E)(base:Heap)(A:_P)(outer:List Env)(s:_N)(H:Hp):Prop where
 frames:A.frames=some outer
 mod:Mod K mg base
 bs:∀b o,base.get? b=some o->s.heap.get? b=some o/\H b=none
 Cv:base.objs.size<=s.heap.objs.size
 jo:s.heap.FunFrames base outer
 Cn:∀b∈gy outer,H b=none
 b?:iQ P w H s.heap
 bare:AllBare s.gens
def CE(outer:List Env)(P:_Q)(w:World)(H:Hp)(s:_N)(Q:VK)(u:_M)(s':_N):Prop:=
 ∃v H',s'.os=s.os/\AllBare s'.gens/\Un (gy outer) [] H H' s.heap s'.heap/\iQ P w H' s'.heap/\bD v u/\Q v H'
def CR(CX:xy)(outer:List Env)(P:_Q)(w:World)(H:Hp)(s:_N)(Q:VK)(E:XK)(r:Result)(s':_N):Prop:=
 match r with
 |.ok (.ret u)=>CE outer P w H s Q u s'
 |.ok _=>False
 |.error e=>CX outer H s E e s'
structure jr(P:_Q)(w:World)(K:_G)(mg:_E)(base:Heap)(CX:xy)(k:Nat)(f:_O)(fd:FuncData)(ps:_L)(sp:Sp):Prop where
 len:∀vs H Q E,sp vs H Q E->vs.length=ps.length
 run:∀(A:_P)(outer:List Env)(s:_N)(H:Hp)(args:Args)(us:_I)(vs:List V)(Q:VK)(E:XK),fJ k A->xH P w K mg base A outer s H->BindsTo s fd args (ps.zip us)->bw vs us->sp vs H Q E ->
  codeAny (model P w) A (.call (.ref f) args) (CR CX outer P w H s Q E) s
theorem jr.imp{w:World}{K:_G}{mg:_E}{base:Heap}{CX:xy}{k:Nat}{fd:FuncData}{ps:_L}{sp UG:Sp}(F:jr P w K mg base CX k f fd ps sp)(h:∀vs H Q E,UG vs H Q E->sp vs H Q E):jr P w K mg base CX k f fd ps UG:=
 ⟨λvs H Q E q=>F.len vs H Q E (h _ _ _ _ q),λA outer s H args us vs Q E hr he hb hv hs=>F.run A outer s H args us vs Q E hr he hb hv (h _ _ _ _ hs)⟩
section
variable{X:Cx}{σ:St}{H:Hp}{s s':_N}
theorem aM.Ko(I:aM X ae σ H s):xH X.prog X.w X.K X.mg X.base X.A X.stack s H:=
 ⟨I.ok.frames,I.ok.mod,I.bs,V7 I.ok.Cv I.sz,I.stack,I.oK,I.b?,I.bare⟩
theorem aM.after{Q:VK}{u:_M}(I:aM X ae σ H s)(h:CE X.stack X.prog X.w H s Q u s'):EP X ae σ Q u s':=by obtain⟨v,H',os,bare,un,b?,r,q⟩:=h;obtain⟨hh,g,d,t,os'⟩:=s';obtain rfl:os'=s.os:=os;exact⟨v,H',I.call (h':=hh) (g':=g) (d':=d) (t':=t) (ch:=[]) un b? bare (λb z=>absurd z (by simp)),r,q⟩
end
def N'(sp:Sp)(Gf:List V)(E:XK)(t:TA):TE:=λσ H Q=>t σ H λvs H1=>sp (vs++Gf) H1 Q E
def Binds(K:_G)(fd:FuncData)(ps:_L)(ds:_I):Prop:=
 ∀(s:_N)(us:_I),K.In s.heap->(us++ds).length=ps.length->BindsTo s fd ⟨us,[]⟩ (ps.zip (us++ds))
theorem Binds.all{K:_G}{fd:FuncData}{ps:_L}(h:∀us:_I,us.length=ps.length->bindArgs fd ⟨us,[]⟩=pure (ps.zip us)):Binds K fd ps []:=λs us _ hl=>by rw[Wa]at hl⊢;exact .of_eq (h us hl)
def Passes(CX:xy)(X:Cx)(E:XK):Prop:=∀(ae:_F)(σ:St)(H:Hp)(s:_N)(e:_M)(s':_N),aM X ae σ H s->CX X.stack H s E e s'->X.xe e s'
section
variable{X:Cx}{CX:xy}{k:Nat}{fd:FuncData}{ps:_L}{sp:Sp}{Gf:List V}{ds:_I}{E:XK}{x m:Str}{p:Pos}{e o:Expr}{ta:TE}{t:TA}
theorem Kq{σ:St}{H:Hp}{s:_N}{Q:VK}{us:_I}{vs:List V}(F:jr X.prog X.w X.K X.mg X.base CX k f fd ps sp)(hr:fJ k X.A)(hb:Binds X.K fd ps ds)(hd:bw Gf ds)(hx:Passes CX X E)(I:aM X ae σ H s)(r:bw vs us)(h:sp (vs++Gf) H Q E):wpAny (model X.prog X.w) X.A (call (.ref f) us) (EP X ae σ Q) X.xe s:=by
 have r2:bw (vs++Gf) (us++ds):=r.append hd;have hl:(us++ds).length=ps.length:=by rw[<-r2.length];exact F.len _ _ _ _ h
 refine Yy (Yd (F.run X.A X.stack s H ⟨us,[]⟩ (us++ds) (vs++Gf) Q E hr I.Ko (hb s us I.nI hl) r2 h) λr s' hq=>?_);cases r with
 |error e=>exact hx ae σ H s e s' I hq
 |ok fl=>
  cases fl with
  |ret u=>exact I.after hq
  |next=>exact False.elim hq
  |brk=>exact False.elim hq
  |cont=>exact False.elim hq
theorem Gg(F:jr X.prog X.w X.K X.mg X.base CX k f fd ps sp)(hr:fJ k X.A)(hg:Gl X x)(hm:X.mg x=some (.ref f))(hk:W.keepIn X.K (.ref f)=true)(hb:Binds X.K fd ps ds)(hd:bw Gf ds)(hx:Passes CX X E)(ha:PA X (e::es) t)(kC:(x==("__debug__":Str))=false:=by decide)(he:starEach (e::es) X.env=(false,eval e X.env)::starEach es X.env:=by rfl)(iR:(backTo pos (starEach es X.env)).any (·.1)=false:=by rfl):
  PE X (.Call (.Name x p) (e::es) [] pos) (N' sp Gf E t):=by
 intro ae s σ H Q I h;refine Xt (jO I hg hm ?_ kC);refine YJ (h₀:=X.base) I.ok.mod.IV hk (dA (ha pos ae s σ H _ I h) λus s1⟨vs,H1,I1,r,q⟩=>⟨I1.nI,?_⟩) he iR;exact Kq F hr hb hd hx I1 r q
end
def PK(X:Cx)(CN:List Keyword)(t:TA):Prop:=
 ∀(pos:Pos)(ae:_F)(s:_N)(σ:St)(H:Hp)(Q:List V->Hp->Prop),aM X ae σ H s->t σ H Q->wpAny (model X.prog X.w) X.A (evalAll ((backToKw pos (keywordEach CN X.env)).map (·.2))) (AP X ae σ Q) X.xe s
section
variable{X:Cx}{CX:xy}{k:Nat}{fd:FuncData}{ps ks:_L}{sp:Sp}{E:XK}{x m:Str}{p RM:Pos}{e o:Expr}{CN:List Keyword}{te ta:TE}{t tk:TA}{nm:Option Str}
theorem CO:PK X [] N?:=λ_ _ _ _ H Q I h=>wpAny_evalAll_nil ⟨[],H,I,.nil,h⟩
theorem zx(ha:PE X e te)(hr:PK X CN t):PK X (⟨nm,e,RM⟩::CN) (I! te t):=by intro pos ae s σ H Q I h;show wpAny _ _ (evalAll ((do let v <- eval e X.env;standAt pos;pure v)::(backToKw pos (keywordEach CN X.env)).map (·.2))) _ _ s;refine wpAny_evalAll_cons (Vp (dA (ha ae s σ H _ I h) λu s1⟨x,H1,I1,r1,q1⟩=>Vp (ZW (Vr ?_))));exact dA (hr pos ae s1 σ H1 _ I1 q1) λus s2⟨xs,H2,I2,r2,q2⟩=>⟨x::xs,H2,I2,.cons r1 r2,q2⟩
variable{g:_I->_I->_I}{gV:List V->List V->List V}
end
structure fj(N P:_L)(sc:Scope):Prop where
 kind:sc.kind=.function
 co:sc.isCoroutine=false
 gen:sc.isGenerator=false
 nd:N.Nodup
 pre:N.take P.length=P
 par:∀x∈P,sc.names.lookup x=some .local\/sc.names.lookup x=some .cell
 Kr:∀y∈sc.names,y.2≠.free
theorem rZ{kindOf:Str->Option NameKind}{x:Str}:∀{binds:List (Str×_M)}{m:_E},(∀v,(x,v) ∉ binds)->bindL kindOf binds m x=m x
 |[],_,_=>rfl
 |(n,v)::r,m,h=>by
  unfold bindL;rw[rZ λw hw=>h w (VJ _ hw)];split
  .have:x≠n:=by rintro rfl;exact h v Vu
   simp[this]
  .rfl
theorem r6{kindOf:Str->Option NameKind}{x:Str}:∀{binds:List (Str×_M)}{m:_E},(∀v,(x,v) ∉ binds)->bindC kindOf binds m x=m x
 |[],_,_=>rfl
 |(n,v)::r,m,h=>by
  unfold bindC;rw[r6 λw hw=>h w (VJ _ hw)];split
  .rfl
  .have:x≠n:=by rintro rfl;exact h v Vu
   simp[this]
theorem r9{kindOf:Str->Option NameKind}{x:Str}{v:_M}:∀{P:_L}{vs:_I}{i:Nat}{m:_E},P.Nodup->P[i]?=some x->vs[i]?=some v->kindOf x=some .local ->
  bindL kindOf (P.zip vs) m x=some v
 |[],_,_,_,_,h,_,_=>by simp at h
 |_::_,[],_,_,_,_,h,_=>by simp at h
 |p::P,w::vs,0,m,nd,h1,h2,hk=>by simp at h1 h2;subst h1;subst h2;show bindL kindOf ((p,w)::P.zip vs) m p=_;unfold bindL;rw[rZ λv hv=>(Wd.mp nd).1 (Y1 hv).1,VA hk];simp
 |p::P,w::vs,i+1,m,nd,h1,h2,hk=>by show bindL kindOf ((p,w)::P.zip vs) m x=_;unfold bindL;exact r9 (i:=i) (Wd.mp nd).2 (by simpa using h1) (by simpa using h2) hk
theorem r_{kindOf:Str->Option NameKind}{x:Str}{v:_M}:∀{P:_L}{vs:_I}{i:Nat}{m:_E},P.Nodup->P[i]?=some x->vs[i]?=some v->kindOf x≠some .local ->
  bindC kindOf (P.zip vs) m x=some v
 |[],_,_,_,_,h,_,_=>by simp at h
 |_::_,[],_,_,_,_,h,_=>by simp at h
 |p::P,w::vs,0,m,nd,h1,h2,hk=>by simp at h1 h2;subst h1;subst h2;show bindC kindOf ((p,w)::P.zip vs) m p=_;unfold bindC;rw[r6 λv hv=>(Wd.mp nd).1 (Y1 hv).1,VL hk];simp
 |p::P,w::vs,i+1,m,nd,h1,h2,hk=>by show bindC kindOf ((p,w)::P.zip vs) m x=_;unfold bindC;exact r_ (i:=i) (Wd.mp nd).2 (by simpa using h1) (by simpa using h2) hk
def start(N:_L)(vs:List V):St:=vs.map some++List.replicate (N.length-vs.length) none
def ip(CX:xy)(P:_Q)(w:World)(K:_G)(mg:_E)(base:Heap)(N:_L)(qual:Str)(scope:Scope)(f:_O)(cd:_M)(A:_P)(outer:List Env)(s:_N)(H:Hp)(E:XK):Cx where
 prog:=P
 w:=w
 K:=K
 mg:=mg
 base:=base
 A:=A.deeper (envOfC qual scope s.heap.objs.size f cd)
 N:=N
 s₀:=s
 H₀:=H
 env:=envOfC qual scope s.heap.objs.size f cd
 outer:=outer
 stack:=envOfC qual scope s.heap.objs.size f cd::outer
 ex:=[]
 calm:=true
 fn:=λ_=>true
 pn:=[]
 xe:=λe s'=>wpAny (model P w) (A.deeper (envOfC qual scope s.heap.objs.size f cd)) (leaving (envOfC qual scope s.heap.objs.size f cd) e) (λ_ Qx=>CX outer H s E e Qx) (λe' Qx=>CX outer H s E e' Qx) s'
theorem vj{sc:Scope}{n:Nat}{x:Str}(h:sc.names.lookup x=some .cell):∃c,(cellsFrom n sc.names []).lookup x=some c:=by have q:=Yj sc.names n [] (.inl h);exact Option.isSome_iff_exists.mp q
theorem r!{CX:xy}{w:World}{K:_G}{mg:_E}{base:Heap}{N ps:_L}{qual:Str}{scope:Scope}{cd:_M}{A:_P}{outer:List Env}{s s1:_N}{H:Hp}{E:XK}{us:_I}{vs:List V}(S:fj N ps scope)(hd:A.handled=none)(e0:xH P w K mg base A outer s H)(hl:vs.length=ps.length)(r:bw vs us)(x:InCallC s s.heap.objs.size (bindL (envOfC qual scope s.heap.objs.size f cd).kindOf (ps.zip us) λ_=>none) (cellsFrom (s.heap.objs.size+1) scope.names []) (bindC (envOfC qual scope s.heap.objs.size f cd).kindOf (ps.zip us) λ_=>none) s1):
  aM (ip CX P w K mg base N qual scope f cd A outer s H E) [] (start N vs) H s1:=by
 have iR:ps.length<=N.length:=by have:=Xc List.length S.pre;rw[W?]at this;lia
 obtain⟨h1,tk,rfl,hk⟩:=x.done;have Oa:∀b:_O,b ∉ (ip CX P w K mg base N qual scope f cd A outer s H E).ex:=λb z=>absurd (show b∈([]:_K)from z) (by simp);refine⟨⟨e0.mod,S.kind,rfl,rfl,Vy _,λy z c h1 h2=>?_,λy hy=>?_,λy c _ h=>?_,λ_=>hd,Around.frames_deeper e0.frames,.inr ⟨rfl,rfl⟩,λb z=>absurd z (Oa b),e0.bs,e0.Cv,λb _ _=>Oa b,λb z=>absurd z (Oa b),e0.jo,e0.Cn⟩,
  rfl,e0.bare,Un.kept hk,⟨_,x.toInCall.ns,λi y v h1 h2 h3=>?_⟩,λy c h=>⟨_,x.cell y c h⟩,e0.b?.fresh (Vy _),λy c h=>?_,λp hp=>absurd (show p∈([]:_F)from hp) (by simp),e0.b?.kept hk,?_⟩
 .exact name_of_addr x.apart (WV h1) (WV h2)
 .have hy:scope.names.lookup y=some .cell\/scope.names.lookup y=some .free:=hy;rcases hy with hy|hy
  .exact vj hy
  .exact absurd rfl (S.Kr _ (WV hy))
 .exact YR (x.above y c (WV h))
 .have hi:i<vs.length:=by
   unfold start at h2;by_cases hi:i<vs.length
   .exact hi
   .rw[VN (by simpa using hi)]at h2;rw[Xo]at h2;split at h2<;>cases h2
  have ha:vs[i]?=some v:=by
   unfold start at h2;rw[V4 (by simpa using hi),VV]at h2;cases e:vs[i]? with
   |none=>rw[e]at h2;cases h2
   |some a=>rw[e]at h2;cases h2;rfl
  obtain⟨u,hu,rv⟩:=r.get ha;have hp:ps[i]?=some y:=by rw[<-S.pre,List.getElem?_take_of_lt ⋯];exact h1
  have UH:ps.Nodup:=by rw[<-S.pre];exact S.nd.sublist (List.take_sublist _ _)
  refine⟨u,rv,?_⟩;rcases S.par y (WG hp)with k|k
  .exact .inl ⟨k,r9 UH hp hu k⟩
  .obtain⟨c,e⟩:=vj (n:=s.heap.objs.size+1) k;refine .inr ⟨.inl k,c,e,?_⟩;have q:=x.cell y c e;rw[r_ UH hp hu (by show scope.names.lookup y≠_;rw[k];decide)]at q;exact q
 .exact e0.b?.fresh (YR (x.above y c (WV h)))
 .unfold start;show _=N.length;rw[VC,Vs,Wn];lia
theorem Ob{CX:xy}{w:World}{K:_G}{mg:_E}{base:Heap}{k:Nat}{qual:Str}{params:Arguments}{body:List Stmt}{scope:Scope}{dV kV ct:_M}{N ps:_L}{sp:Sp}(lk:K.lookup f=some ⟨oc,od,.func (W.fnOf name qual params body scope dV kV doc pm an ej ct),AR⟩)(o?:W.codeIn K ej qual=true)(S:fj N ps scope)(len:∀vs H Q E,sp vs H Q E->vs.length=ps.length)
  (vk:∀ (A:_P) (outer:List Env) (s:_N) (H:Hp) (vs:List V) (Q:VK) (E:XK),fJ k (A.deeper (envOfC qual scope s.heap.objs.size f ej))->sp vs H Q E ->
   ∃t,jk (ip CX P w K mg base N qual scope f ej A outer s H E) body t/\t {nx:=λ_ H'=>Q .c6 H',rt:=Q} (start N vs) H):
  jr P w K mg base CX (k+1) f (W.fnOf name qual params body scope dV kV doc pm an ej ct) ps sp:=by
 refine⟨len,λA outer s H args us vs Q E hr e0 hb r I?=>?_⟩;have hl:=len _ _ _ _ I?;have KX:K.In s.heap:=e0.mod.IV.keeps λb o e=>(e0.bs b o e).1;have lim:s.heap.NoLimit:=e0.mod.nolimit.keeps λb o e=>(e0.bs b o e).1;have CP:∀y∈ps.zip us,scope.names.lookup y.1=some .local\/(scope.names.lookup y.1=some .cell/\((cellsFrom (s.heap.objs.size+1) scope.names []).lookup y.1).isSome=true):=λ⟨n,v⟩hy=>by
  rcases S.par n (Y1 hy).1 with q|q
  .exact .inl q
  .exact .inr ⟨q,Yj _ _ _ (.inl q)⟩
 refine _x hr.depth (KX _ _ lk) rfl S.co S.gen rfl (Z4 KX o?) (hb _ _ _ _ ?_);refine ZO S.kind CP λenv he s1 x=>?_;subst he;refine⟨lim.keeps x.toInCall.keep,codeAny_func ?_⟩;obtain⟨t,ht,hq⟩:=vk A outer s H vs Q E (hr.deeper _) I?;have I:aM (ip CX P w K mg base N qual scope f ej A outer s H E) [] (start N vs) H s1:=r! S hr.hd e0 hl r x;refine Wz (ht [] s1 (start N vs) H _ I hq) (λfl s' hs=>?_) λe s' hs=>hs;have fin:∀{σ':St}{H':Hp}{v:V}{u:_M},aM (ip CX P w K mg base N qual scope f ej A outer s H E) [] σ' H' s'->bD v u->Q v H'->CE outer P w H s Q u s':=
  λ{σ' H' v u}J rv q=>⟨v,H',J.os,J.bare,J.base,J.b?,rv,q⟩
 cases fl with
 |ret u=>
  obtain⟨v,σ',H',J,rv,q⟩:=hs;exact fin J rv q
 |next=>
  obtain⟨σ',H',J,q⟩:=hs;exact fin (v:=V.c6) (u:=Value.none) J rfl q
 |brk=>
  obtain⟨_,_,_,q⟩:=hs;exact False.elim q
 |cont=>
  obtain⟨_,_,_,q⟩:=hs;exact False.elim q
section
variable{X:Cx}{x:Str}{p:Pos}{e:Expr}{t:TA}{id T:String}{r:List V->Hp->VK->Prop}
def UI(r:List V->Hp->VK->Prop)(t:TA):TE:=λσ H Q=>t σ H λvs H1=>r vs H1 Q
theorem k?(hc:bp X (.builtin id) r)(hg:Gl X x)(hm:X.mg x=none)(hv:bootBuiltins x=some (.builtin id))(ha:PA X (e::es) t)(hn:x ≠ "__name__":=by decide)(kC:(x==("__debug__":Str))=false:=by decide)(he:starEach (e::es) X.env=(false,eval e X.env)::starEach es X.env:=by rfl)(iR:(backTo pos (starEach es X.env)).any (·.1)=false:=by rfl):PE X (.Call (.Name x p) (e::es) [] pos) (UI r t):=by intro ae s σ H Q I h;refine Xt (kA I hg hm hv ?_ hn kC);exact PyProof.Rows.callWith_builtin1 (dA (ha pos ae s σ H _ I h) λus s1⟨vs,H1,I1,r1,q1⟩=>hc ae s1 σ H1 vs us Q I1 r1 q1) he iR
theorem AU(hc:bp X (.type T) r)(hg:Gl X x)(hm:X.mg x=none)(hv:bootBuiltins x=some (.type T))(ha:PA X (e::es) t)(hn:x ≠ "__name__":=by decide)(kC:(x==("__debug__":Str))=false:=by decide)(he:starEach (e::es) X.env=(false,eval e X.env)::starEach es X.env:=by rfl)(iR:(backTo pos (starEach es X.env)).any (·.1)=false:=by rfl):PE X (.Call (.Name x p) (e::es) [] pos) (UI r t):=by intro ae s σ H Q I h;refine Xt (kA I hg hm hv ?_ hn kC);exact Xr (dA (ha pos ae s σ H _ I h) λus s1⟨vs,H1,I1,r1,q1⟩=>hc ae s1 σ H1 vs us Q I1 r1 q1) he iR
end
end L2
variable {H H' H₀:L2.Hp}
variable {w:World}
variable {X:L2.Cx}
variable {N:List Str}
variable {A:Around}
variable {E:L2.XK}
variable {σ:L2.St}
variable {te td:L2.TE}
variable {wi:L2.TI}
variable {prog:Program}
variable {CX:L2.xy}
variable {sp:L2.Sp}
variable {ns:_H}
variable {tt:L2.TT}
variable {J:L2.It}
namespace HT
open PyProof.Rows
section
variable{E:_D}{s:_N}
theorem Gh{t b:_O}{ws:_I}(ht:IsTup s.heap t vs.toArray)(hb:IsTup s.heap b ws.toArray)(hv:vs≠[])(h1:ws=[]->Q (.ref t) s)(h2:ws≠[]->Q (.ref s.heap.objs.size) {s with heap:=s.heap.push {cls:=.type "tuple",data:=.seq (vs++ws).toArray} })(hsz:vs.length+ws.length<=sizeLine):wpAny (model prog w) A (binaryOp .Add (.ref t) (.ref b)) Q E s:=by
 obtain⟨⟨cls,dd,data,sl⟩,ho,hc,n,hd⟩:=id ht;obtain⟨⟨RN,Qy,data2,Oc⟩,vm,zy,n2,hd2⟩:=id hb;simp only at hc hd zy hd2;subst hc hd zy hd2;have e:vs.toArray++ws.toArray=(vs++ws).toArray:=by simp
 by_cases hw:ws=[]
 .exact _k ⟨_,ho,rfl⟩ ⟨_,vm,rfl⟩ Zd ZZ Yk Yh (Ye _ _)
   (tuple_addW1 t b vs.toArray ws.toArray n n2 dd Qy sl Oc (by simpa using hv) (by simp[hw])) ⟨ho,vm,h1 hw⟩
 .refine _k ⟨_,ho,rfl⟩ ⟨_,vm,rfl⟩ Zd ZZ Yk Yh (Ye _ _)
   (tuple_addW2 t b vs.toArray ws.toArray n n2 dd Qy sl Oc (by simpa using hv) (by simpa using hw) (by rw[VD,VD];exact hsz)) ⟨ho,vm,?_⟩
  rw[e];exact h2 hw
def fi(n d:Nat):Option Int->Nat
 |none=>d
 |some v=>if v<0 then(v+(n:Int)).toNat else min v.toNat n
theorem vn(n d:Nat):fi n d none=d:=rfl
theorem zz(n d k:Nat):fi n d (some (k:Int))=min k n:=by show(if(k:Int)<0 then((k:Int)+(n:Int)).toNat else min (k:Int).toNat n)=min k n;rw[VL ⋯,Wi]
theorem Ks(n d:Nat)(hd:d<=n)(o:Option Int):fi n d o<=n:=by
 cases o with
 |none=>exact hd
 |some v=>
  show(if v<0 then(v+(n:Int)).toNat else min v.toNat n)<=n;by_cases hv:v<0
  .rw[VA hv];lia
  .rw[VL hv];exact Nat.min_le_right _ _
theorem zA(v:Int)(n d:Nat):(if v<0 then max (v+(n:Int)) 0 else min v (n:Int))=((fi n d (some v):Nat):Int):=by
 show(if v<0 then max (v+(n:Int)) 0 else min v (n:Int))=(((if v<0 then(v+(n:Int)).toNat else min v.toNat n):Nat):Int);by_cases hv:v<0
 .simp only[VA hv];lia
 .simp only[VL hv];lia
theorem xI(lo hi:Option Int)(n:Nat):Builtin.Slice.sliceAdjust lo hi 1 (n:Int)=(((fi n 0 lo:Nat):Int),((fi n n hi:Nat):Int)):=by
 have h1:¬ ((1:Int)<0):=⋯
 unfold Builtin.Slice.sliceAdjust;simp only[h1,WI];refine Prod.ext ?_ ?_
 .cases lo with
  |none=>rfl
  |some v=>exact zA v n 0
 .cases hi with
  |none=>rfl
  |some v=>exact zA v n n
theorem xJ(i j:Nat):Builtin.Slice.slicePlaces (i:Int) (j:Int) 1=j-i:=by
 unfold Builtin.Slice.slicePlaces;have h1:(1:Int)>0:=⋯
 simp only[h1,XJ,Int.ediv_one];split<;>lia
theorem pq{v:_M}{o:Option Int}{Q:Option Int->_N->Prop}(p:IsPart v o)(h:Q o s):wpAny (model prog w) A (Builtin.Slice.slicePartIndex v) Q E s:=by
 cases p with
 |none=>exact slicePart_none h
 |int i t=>exact slicePart_int h
theorem mH{sl:_O}{vl vu:_M}{lo hi:Option Int}{n:Nat}{Q:Int×Int×Nat->_N->Prop}(hs:s.heap.IsSliceOf sl vl vu .none)(pl:IsPart vl lo)(pu:IsPart vu hi)(h:Q (((fi n 0 lo:Nat):Int),1,fi n n hi-fi n 0 lo) s):wpAny (model prog w) A (Builtin.Slice.sliceApplied (.ref sl) (pure (n:Int))) Q E s:=by obtain⟨os,Od,UJ,Qz⟩:=id hs;unfold Builtin.Slice.sliceApplied Builtin.Slice.sliceFields;refine Vp (Vp (V_ Od Qz (x:=vl) rfl (Vp (V_ Od Qz (x:=vu) rfl (Vp (V_ Od Qz (x:=.none) rfl (Vr ?_)))))));refine Vp (slicePart_none ?_);show wpAny _ _ (if((1:Int)==0)=true then _ else _) _ _ s;rw[VL ⋯];refine Vp (pq pl (Vp (pq pu (Vp (Vr ?_)))));show wpAny _ _ (match Builtin.Slice.sliceAdjust lo hi 1 (n:Int) with|(lo,hi)=>pure (lo,(1:Int),Builtin.Slice.slicePlaces lo hi 1)) _ _ s;rw[xI lo hi n];show wpAny _ _ (pure (((fi n 0 lo:Nat):Int),(1:Int),Builtin.Slice.slicePlaces ((fi n 0 lo:Nat):Int) ((fi n n hi:Nat):Int) 1)) _ _ s;rw[xJ];exact Vr h
theorem CQ(xs:Array _M)(i k:Nat):((List.range k).filterMap λ(m:Nat)=>xs[((i:Int)+(m:Int)*1).toNat]?).toArray=((xs.toList.drop i).take k).toArray:=by
 have e:(λ(m:Nat)=>xs[((i:Int)+(m:Int)*1).toNat]?)=λm=>xs[i+m]?:=by
  funext m;have:((i:Int)+(m:Int)*1).toNat=i+m:=⋯
  rw[this]
 rw[e];have:=pick_run xs i k;rw[List.filterMap_map]at this;have e2:((λx=>xs[x]?) ∘ λx=>i+x)=λm=>xs[i+m]?:=rfl;rw[e2]at this;rw[this]
theorem lh{t sl:_O}{vl vu:_M}{lo hi:Option Int}(ht:IsTup s.heap t items)(hs:s.heap.IsSliceOf sl vl vu .none)(pl:IsPart vl lo)(pu:IsPart vu hi)(hw:¬ (fi items.size 0 lo=0/\fi items.size items.size hi=items.size))(h:Q (.ref s.heap.objs.size) {s with heap:=s.heap.push {cls:=.type "tuple",data:=.seq ((items.toList.drop (fi items.size 0 lo)).take (fi items.size items.size hi-fi items.size 0 lo)).toArray} })(hsz:items.size<=sizeLine):wpAny (model prog w) A (getItem (.ref t) (.ref sl)) Q E s:=by
 have zB:sizeOk (.seq ((items.toList.drop (fi items.size 0 lo)).take (fi items.size items.size hi-fi items.size 0 lo)).toArray):=by show((items.toList.drop (fi items.size 0 lo)).take (fi items.size items.size hi-fi items.size 0 lo)).toArray.size<=sizeLine;rw[VD,W?,W',V3];lia
 have hj:fi items.size items.size hi<=items.size:=Ks _ _ (Vy _) hi;obtain⟨os,Od,UJ,Qz⟩:=id hs;have hTs:s.TypeIs (.ref sl) "slice":=⟨os,Od,UJ⟩
 unfold getItem
 try with_reducible refine Wj ?_
 first|refine Vp (Vr ?_)|skip
 refine Vp (wpAny_sequenceKey ht.typeIs ⋯ ?_);refine Vp (Wm (name:=Str.ofString "__getitem__") ht.typeIs XW
  (Wr XW ht.typeIs entry_tuple_getitem ?_ (args_tuple_getitem _ _)))
 show wpAny _ _ (Builtin.Tuple.tupleItemsOf (.ref t) >>= _) _ _ s;refine Vp (tupleItemsOf_ ht ?_);refine Vp (Y! hTs ?_);rw[VA ⋯];refine Vp (mH hs pl pu ?_);have Kt:¬ ((((fi items.size 0 lo:Nat):Int)==0&&(1:Int)==1&&(fi items.size items.size hi-fi items.size 0 lo)==items.size)=true):=by intro q;rw[Wt,Wt]at q;have q1:((fi items.size 0 lo:Nat):Int)=0:=eq_of_beq q.1.1;have q2:fi items.size items.size hi-fi items.size 0 lo=items.size:=eq_of_beq q.2;exact hw ⟨⋯,⋯⟩
 show wpAny _ _ (if(((fi items.size 0 lo:Nat):Int)==0&&(1:Int)==1&&(fi items.size items.size hi-fi items.size 0 lo)==items.size)=true then _ else _) _ _ s;rw[VL Kt,CQ]
 first
  |exact Vp (m:=Builtin.Tuple.tupleExact _) (Wf (Vr ⟨_,rfl,Vr h⟩) zB)
  |exact Vp (m:=Builtin.Tuple.tupleExact _) (Wf (Vp (Vr (Vr ⟨_,rfl,Vr h⟩))) zB)
  |exact Vp (Vp (m:=Builtin.Tuple.tupleExact _) (Wf (Vr (Vr ⟨_,rfl,Vr h⟩)) zB))
  |exact Vp (Vp (m:=Builtin.Tuple.tupleExact _) (Wf (Vr ⟨_,rfl,Vr h⟩) zB))
end
end HT
namespace L2
open PySem.Spec PyProof.Rows
abbrev TO:=St->Hp->(Option Int->Hp->Prop)->Prop
def PO(X:Cx)(e:Option Expr)(t:TO):Prop:=
 ∀(ae:_F)(s:_N)(σ:St)(H:Hp)(Q:Option Int->Hp->Prop),aM X ae σ H s->t σ H Q ->
  wpAny (model X.prog X.w) X.A (evalPart e X.env) (λu s'=>∃o H',aM X ae σ H' s'/\IsPart u o/\Q o H') X.xe s
def Gi:TO:=λ_ H Q=>Q none H
def Oe(t:TE):TO:=λσ H Q=>t σ H λx H1=>∃i,x=.int i/\Q (some i) H1
section
variable{e:Expr}{lo hi:Option Expr}{tl th:TO}
theorem Gj:PO X none Gi:=by intro ae s σ H Q I h;rw[evalPart_none];exact Vr ⟨none,H,I,.none,h⟩
theorem Gk(h:PE X e te):PO X (some e) (Oe te):=by intro ae s σ H Q I hw;rw[evalPart_some];refine dA (h ae s σ H _ I hw) λu s1⟨x,H1,I1,r1,q1⟩=>?_;obtain⟨i,rfl,q⟩:=q1;obtain⟨t,rfl⟩:=r1;exact⟨some i,H1,I1,.int i t,q⟩
def Ja(X:Cx)(r:V->Option Int->Option Int->Hp->VK->Prop):Prop:=
 ∀(ae:_F)(s:_N)(σ:St)(H:Hp)(x:V)(v vl vu:_M)(lo hi:Option Int)(sl:_O)(Q:VK),aM X ae σ H s->bD x v->s.heap.IsSliceOf sl vl vu .none->IsPart vl lo->IsPart vu hi->r x lo hi H Q ->
  ∃T id,typeLookup (.type T) "__getitem__" = pure (some (.builtin id))/\s.TypeIs v T/\wpAny (model X.prog X.w) X.A (getItem v (.ref sl)) (EP X ae σ Q) X.xe s
theorem Ja.or{r r':V->Option Int->Option Int->Hp->VK->Prop}(h:Ja X r)(h':Ja X r'):Ja X (λx lo hi H Q=>r x lo hi H Q\/r' x lo hi H Q):=by
 intro ae s σ H x v vl vu lo hi sl Q I rx hs pl pu q;rcases q with q|q
 .exact h ae s σ H x v vl vu lo hi sl Q I rx hs pl pu q
 .exact h' ae s σ H x v vl vu lo hi sl Q I rx hs pl pu q
def tSl(r:V->Option Int->Option Int->Hp->VK->Prop)(te:TE)(tl th:TO):TE:=λσ H Q=>te σ H λx H1=>tl σ H1 λl H2=>th σ H2 λu H3=>r x l u H3 Q
theorem CS{r:V->Option Int->Option Int->Hp->VK->Prop}(hr:Ja X r)(he:PE X e te)(hl:PO X lo tl)(hu:PO X hi th):PE X (.Subscript e (.Slice lo hi none p2) pos) (tSl r te tl th):=by intro ae s σ H Q I h;refine Subscript_ (dA (he ae s σ H _ I h) λv s1⟨x,H1,I1,r1,q1⟩=>?_);refine wpAny_Slice (dA (hl ae s1 σ H1 _ I1 q1) λvl s2⟨l,H2,I2,pl,q2⟩=>dA (hu ae s2 σ H2 _ I2 q2) λvu s3⟨u,H3,I3,pu,q3⟩=>?_);rw[evalPart_none];refine Vr ?_;have I4:aM X ae σ H3 {s3 with heap:=s3.heap.push {cls:=.type "slice",data:=.fields #[vl,vu,.none]} }:=I3.kept (t':=s3.toks) λb ob q=>Vq _ q;obtain⟨T,id,hT,ht,hg⟩:=hr ae {s3 with heap:=s3.heap.push {cls:=.type "slice",data:=.fields #[vl,vu,.none]} } σ H3 x v vl vu l u s3.heap.objs.size Q I4 r1 (Heap.IsSliceOf.new ..) pl pu q3;show wpAny (model X.prog X.w) X.A (subscriptTail e (.Slice lo hi none p2) v (.ref s3.heap.objs.size)) (EP X ae σ Q) X.xe {s3 with heap:=s3.heap.push {cls:=.type "slice",data:=.fields #[vl,vu,.none]} };exact tail_any (ops:=[.ref s3.heap.objs.size,v]) ht hT hg (by with_unfolding_all rfl)
def tN(xs:List V)(lo hi:Option Int):List V:=(xs.drop (HT.fi xs.length 0 lo)).take (HT.fi xs.length xs.length hi-HT.fi xs.length 0 lo)
theorem nJ(xs:List V)(lo hi:Option Int):(tN xs lo hi).length<=xs.length:=by unfold tN;rw[W?,W'];lia
def RP(K:_G):V->Option Int->Option Int->Hp->VK->Prop:=λx lo hi H Q=>∃a xs,x=.ref a/\jq K H a xs /\
 ¬ (HT.fi xs.length 0 lo=0/\HT.fi xs.length xs.length hi=xs.length)/\∀p,H p=none->Q (.ref p) (upd H p (.tup (tN xs lo hi)))
theorem Ku:Ja X (RP X.K):=by
 intro ae s σ H x v vl vu lo hi sl Q I rx hs pl pu h;obtain⟨a,xs,rfl,hx,hw,q⟩:=h;cases rx;obtain⟨aI,r,ht,hz⟩:=I.tuple hx;have hlen:aI.toArray.size=xs.length:=by rw[VD];exact r.length.symm
 refine⟨"tuple",_,XW.lookup,ht.typeIs,?_⟩;refine HT.lh ht hs pl pu (by rw[hlen];exact hw) ?_ (by rw[hlen];exact hz);rw[hlen];refine⟨.ref s.heap.objs.size,_,I.laid (t':=s.toks) (o:=.tup (tN xs lo hi)) (λb ob q=>Vq _ q) (Vy _) ?_,rfl,q _ (I.b?.fresh (Vy _))⟩;exact⟨V7 (nJ xs lo hi) hz,_,(r.drop (HT.fi xs.length 0 lo)).take (HT.fi xs.length xs.length hi-HT.fi xs.length 0 lo),IsTup.new _ _⟩
def Of(K:_G):R2:=λx y H Q=>∃a b xs ys,x=.ref a/\y=.ref b/\jq K H a xs/\jq K H b ys/\xs≠[]/\xs.length+ys.length<=sizeLine /\
 (ys=[]->Q (.ref a) H)/\(ys≠[]->∀p,H p=none->Q (.ref p) (upd H p (.tup (xs++ys))))
theorem bw.oN{xs:List V}{us:_I}(r:bw xs us):us=[]↔xs=[]:=by
 cases r with
 |nil=>simp
 |cons _ _=>simp
theorem Gm:dN X (binaryOp .Add) (Of X.K):=by intro ae s σ H x y v u Q I rx ry h;obtain⟨a,b,xs,ys,rfl,rfl,ha,hb,hx,hz,q1,q2⟩:=h;cases rx;cases ry;obtain⟨aI,r1,p1,_⟩:=I.tuple ha;obtain⟨dD,r2,p2,_⟩:=I.tuple hb;refine HT.Gh p1 p2 (λz=>hx (r1.oN.mp z)) (λz=>⟨.ref a,H,I,rfl,q1 (r2.oN.mp z)⟩) (λz=>?_) (by rw[<-r1.length,<-r2.length];exact hz);refine⟨.ref s.heap.objs.size,_,I.laid (t':=s.toks) (o:=.tup (xs++ys)) (λb ob q=>Vq _ q) (Vy _) ?_,rfl,q2 (λw=>z (r2.oN.mpr w)) _ (I.b?.fresh (Vy _))⟩;exact⟨by rw[VC];exact hz,_,r1.append r2,IsTup.new _ _⟩
end
def Jb(n:Nat)(i:Int):Option Nat:=if 0<=i then(if i<n then some i.toNat else none)else if -(n:Int)<=i then some (i+n).toNat else none
def mI(xs:List α)(i:Int):Option α:=(Jb xs.length i).bind λj=>xs[j]?
theorem Gn{n:Nat}{i:Int}{j:Nat}(h:Jb n i=some j):seqIndex? i n=some j/\j<n/\-(n:Int)<=i/\i<n:=by
 unfold Jb at h;by_cases h0:0<=i
 .rw[VA h0]at h;by_cases h1:i<n
  .rw[VA h1]at h;have e:i.toNat=j:=V? h;exact⟨by rw[seqIndex_of h0 h1,e],⋯,⋯,h1⟩
  .rw[VL h1]at h;cases h
 .rw[VL h0]at h;by_cases h1:-(n:Int)<=i
  .rw[VA h1]at h;have e:(i+n).toNat=j:=V? h;exact⟨by rw[seqIndex_neg ⋯ h1,e],⋯,h1,⋯⟩
  .rw[VL h1]at h;cases h
theorem tO{xs:List α}{i:Int}{v:α}(h:mI xs i=some v):∃j,seqIndex? i xs.length=some j/\xs[j]?=some v/\j<xs.length/\-(xs.length:Int)<=i/\i<xs.length:=by
 unfold mI at h;cases e:Jb xs.length i with
 |none=>rw[e]at h;cases h
 |some j=>
  rw[e]at h;obtain⟨h1,h2,h3,h4⟩:=Gn e;exact⟨j,h1,h,h2,h3,h4⟩
theorem d0{xs:List α}{j:Nat}{v:α}(h:xs[j]?=some v):mI xs (j:Int)=some v:=by
 have hj:j<xs.length:=(Wh.mp h).1;have e:Jb xs.length (j:Int)=some j:=by unfold Jb;rw[VA ⋯,VA ⋯];simp
 unfold mI;rw[e];exact h
def tP(b:Expr):Prop:=∀o i,subscripted b false o i=operate [o,i] (getItem o i)
def xA(X:Cx)(r:R2):Prop:=
 ∀(value slice:Expr)(ae:_F)(s:_N)(σ:St)(H:Hp)(x y:V)(v u:_M)(Q:VK),aM X ae σ H s->bD x v->bD y u->r x y H Q ->
  subscripted slice false v u=operate [v,u] (getItem v u)->wpAny (model X.prog X.w) X.A (subscriptTail value slice v u) (EP X ae σ Q) X.xe s
def MtR(X:Cx)(id:String)(r:V->List V->Hp->VK->Prop):Prop:=
 ∀(ae:_F)(s:_N)(σ:St)(H:Hp)(x:V)(xs:List V)(v:_M)(us:_I)(Q:VK),aM X ae σ H s->bD x v->bw xs us->r x xs H Q ->
  wpAny (model X.prog X.w) X.A (call (.builtin id) (v::us)) (EP X ae σ Q) X.xe s
section
variable{a b:Expr}{ta tb:TE}
theorem xA.or{r r':R2}(h:xA X r)(h':xA X r'):xA X (λx y H Q=>r x y H Q\/r' x y H Q):=by
 intro value slice ae s σ H x y v u Q I rx ry q hs;rcases q with q|q
 .exact h value slice ae s σ H x y v u Q I rx ry q hs
 .exact h' value slice ae s σ H x y v u Q I rx ry q hs
theorem Og{r:R2}(hr:xA X r)(ha:PE X a ta)(hb:PE X b tb)(hs:tP b):PE X (.Subscript a b pos) (Nj r ta tb):=by intro ae s σ H Q I h;exact Subscript_ (Kc ha hb I h λv u s2 x y H2 I2 rx ry q=>hr a b ae s2 σ H2 x y v u Q I2 rx ry q (hs _ _))
def RQ(K:_G):R2:=λx y H Q=>∃p xs i v,x=.ref p/\y=.int i/\kf K H p xs/\mI xs i=some v/\Q v H
def RT(K:_G):R2:=λx y H Q=>∃p xs i v,x=.ref p/\y=.int i/\jq K H p xs/\mI xs i=some v/\Q v H
def RU:R2:=λx y H Q=>∃z i c,x=.str z/\y=.int i/\z.length<=sizeLine/\mI z.cps.toList i=some c/\Q (.str ⟨#[c]⟩) H
theorem Gp:xA X (RQ X.K):=by
 intro value slice ae s σ H x y v u Q I rx ry h hs;obtain⟨p,xs,i,z,rfl,rfl,hq,he,q⟩:=h;cases rx;obtain⟨t,rfl⟩:=ry;obtain⟨aI,r,pl,hz⟩:=I.list hq;obtain⟨j,h1,h2,h3,h4,h5⟩:=tO he;obtain⟨w,ew,vo⟩:=r.get h2;have hl:=r.length;have hn:=pk;have fin:EP X ae σ Q w s:=⟨z,H,I,vo,q⟩
 by_cases h0:0<=i
 .have hj:i.toNat=j:=by rw[seqIndex_of h0 h5]at h1;exact V? h1
  exact item_listR pl.isList h0 ⋯ (by rw[hj];simpa using ew) fin hs
 .have hj:(i+(aI.toArray.size:Int)).toNat=j:=by rw[seqIndex_neg ⋯ h4]at h1;rw[VD,<-hl];exact V? h1
  exact subscriptTail_builtinR (x:=w) pl.isList.typeIs slot_list_getitem.lookup
   (wpAny_getItem_list_neg (Q:=λr s'=>r=w/\EP X ae σ Q r s') pl.isList ⋯ (by rw[VD]<;>lia) ⋯ (by rw[hj];simpa using ew) ⟨rfl,fin⟩) hs
theorem bE:xA X (RT X.K):=by
 intro value slice ae s σ H x y v u Q I rx ry h hs;obtain⟨p,xs,i,z,rfl,rfl,hq,he,q⟩:=h;cases rx;obtain⟨t,rfl⟩:=ry;obtain⟨aI,r,pl,hz⟩:=I.tuple hq;obtain⟨j,h1,h2,h3,h4,h5⟩:=tO he;obtain⟨w,ew,vo⟩:=r.get h2;have hl:=r.length;have hn:=pk;have fin:EP X ae σ Q w s:=⟨z,H,I,vo,q⟩
 exact subscriptTail_builtinR (x:=w) pl.typeIs slot_tuple_getitem.lookup
  (getItem_tuple (j:=j) (Q:=λr s'=>r=w/\EP X ae σ Q r s') pl ⋯ ⋯ (by rw[VD,<-hl];exact h1) (by simpa using ew) ⟨rfl,fin⟩) hs
theorem Kv:xA X RU:=by
 intro value slice ae s σ H x y v u Q I rx ry h hs;obtain⟨z,i,c,rfl,rfl,hz,he,q⟩:=h;obtain⟨t,rfl⟩:=rx;obtain⟨t',rfl⟩:=ry;obtain⟨j,h1,h2,h3,h4,h5⟩:=tO he;have hl:z.cps.toList.length=z.length:=by simp[Str.length]
 rw[hl]at h1 h4 h5;have hn:=pk;exact tail_any (typeIs_str s z t) slot_str_getitem.lookup (getItem_str (c:=c) (by
  have e1:decide (i < -(2 ^ 63:Int))=false:=V2 ⋯;have e2:decide (i ≥ 2 ^ 63)=false:=V2 ⋯;rw[e1,e2,Bool.or_false]) (by rw[h1];simpa using h2) ⟨.str ⟨#[c]⟩,H,I.tok _,⟨_,rfl⟩,q⟩) hs
theorem tQ(lo hi:Option Int)(n:Nat):(sliceBounds lo hi none n).1=((HT.fi n 0 lo:Nat):Int)/\(sliceBounds lo hi none n).2.1=((HT.fi n n hi:Nat):Int)/\(sliceBounds lo hi none n).2.2=1:=by
 refine⟨?_,?_,rfl⟩
 .cases lo with
  |none=>simp[sliceBounds,HT.fi]
  |some i=>
   simp only[sliceBounds,HT.fi,Option.getD_none,show(1:Int)>0 by decide,XJ];by_cases h:i<0
   .simp only[h,XJ]<;>lia
   .simp only[h,WI]<;>lia
 .cases hi with
  |none=>simp[sliceBounds,HT.fi]
  |some i=>
   simp only[sliceBounds,HT.fi,Option.getD_none,show(1:Int)>0 by decide,XJ];by_cases h:i<0
   .simp only[h,XJ]<;>lia
   .simp only[h,WI]<;>lia
theorem qX(aI:_I)(lo hi:Option Int):slicePick aI.toArray lo hi none=((aI.drop (HT.fi aI.length 0 lo)).take (HT.fi aI.length aI.length hi-HT.fi aI.length 0 lo)).toArray:=by obtain⟨h1,h2,h3⟩:=tQ lo hi aI.toArray.size;unfold slicePick;rw[h1,h2,h3];simp only[sliceRange_one,pick_run,VD]<;>rfl
def RV(K:_G):V->Option Int->Option Int->Hp->VK->Prop:=λx lo hi H Q=>∃a xs,x=.ref a/\kf K H a xs/\∀p,H p=none->Q (.ref p) (upd H p (.lst (tN xs lo hi)))
theorem Gq:Ja X (RV X.K):=by intro ae s σ H x v vl vu lo hi sl Q I rx hs pl pu h;obtain⟨a,xs,rfl,hx,q⟩:=h;cases rx;obtain⟨aI,r,ht,hz⟩:=I.list hx;have hlen:=r.length;refine⟨"list",_,slot_list_getitem.lookup,ht.isList.typeIs,?_⟩;refine wpAny_getItem_list_slice ht.isList hs pl pu .none (by simp) ?_ (by rw[VD]<;>lia);rw[qX,<-hlen];refine⟨.ref s.heap.objs.size,_,I.laid (t':=s.toks) (o:=.lst (tN xs lo hi)) (λb ob q=>Vq _ q) (Vy _) ?_,rfl,q _ (I.b?.fresh (Vy _))⟩;exact⟨V7 (nJ xs lo hi) hz,_,0,(r.drop (HT.fi xs.length 0 lo)).take (HT.fi xs.length xs.length hi-HT.fi xs.length 0 lo),VI _ rfl⟩
def fZ:V->Bool
 |.c6=>true
 |.bl _=>true
 |.int _=>true
 |.str _=>true
 |_=>false
def tR:V->V->Bool
 |.c6,.c6=>true
 |.bl a,.bl b=>a==b
 |.bl a,.int b=>(if a then 1 else 0)==b
 |.int a,.bl b=>a==(if b then 1 else 0)
 |.int a,.int b=>a==b
 |.str a,.str b=>a==b
 |_,_=>false
theorem Kw{s:_N}{y x:V}{u v:_M}(ry:bD y u)(rx:bD x v)(fy:fZ y=true)(fx:fZ x=true):SeqAt.EqAt A s u v (tR y x):=by
 cases y with
 |c6=>
  cases ry;cases x with
  |c6=>cases rx;exact Zp _
  |bl b=>cases rx;exact SeqAt.EqAt.none_bool b
  |int b=>obtain⟨t,rfl⟩:=rx;exact SeqAt.EqAt.none_int b t
  |str b=>obtain⟨t,rfl⟩:=rx;exact SeqAt.EqAt.none_str b t
  |_=>exact absurd (show false=true from fx) VH
 |bl a=>
  cases ry;cases x with
  |c6=>cases rx;exact SeqAt.EqAt.bool_none a
  |bl b=>cases rx;exact SeqAt.EqAt.bool_bool a b
  |int b=>obtain⟨t,rfl⟩:=rx;exact SeqAt.EqAt.bool_int a b t
  |str b=>obtain⟨t,rfl⟩:=rx;exact SeqAt.EqAt.bool_str a b t
  |_=>exact absurd (show false=true from fx) VH
 |int a=>
  obtain⟨t',rfl⟩:=ry;cases x with
  |c6=>cases rx;exact SeqAt.EqAt.int_none a t'
  |bl b=>cases rx;exact SeqAt.EqAt.int_bool a t' b
  |int b=>obtain⟨t,rfl⟩:=rx;exact SeqAt.EqAt.int_int a t' b t
  |str b=>obtain⟨t,rfl⟩:=rx;exact Y6 a t' b t
  |_=>exact absurd (show false=true from fx) VH
 |str a=>
  obtain⟨t',rfl⟩:=ry;cases x with
  |c6=>cases rx;exact SeqAt.EqAt.str_none a t'
  |bl b=>cases rx;exact SeqAt.EqAt.str_bool a t' b
  |int b=>obtain⟨t,rfl⟩:=rx;exact Y5 a t' b t
  |str b=>obtain⟨t,rfl⟩:=rx;exact SeqAt.EqAt.str_str a t' b t
  |_=>exact absurd (show false=true from fx) VH
 |_=>exact absurd (show false=true from fy) VH
def AV(x:V)(u:_M):Bool:=match u with
 |.none=>tR .c6 x
 |.bool b=>tR (.bl b) x
 |.int i _=>tR (.int i) x
 |.str z _=>tR (.str z) x
 |_=>false
theorem tU{x y:V}{u:_M}(r:bD y u)(f:fZ y=true):AV x u=tR y x:=by
 cases y with
 |c6=>cases r;rfl
 |bl b=>cases r;rfl
 |int i=>obtain⟨t,rfl⟩:=r;rfl
 |str z=>obtain⟨t,rfl⟩:=r;rfl
 |_=>exact absurd (show false=true from f) VH
theorem tW{x:V}:∀{xs:List V}{us:_I},bw xs us->xs.all fZ=true->us.any (AV x)=xs.any λy=>tR y x
 |_,_,.nil,_=>rfl
 |y::xs,u::us,.cons r t,f=>by rw[Xk,Wt]at f;rw[Xj,Xj,tU r f.1,tW t f.2]
theorem js{A:_P}{s:_N}{x:V}{v:_M}(rx:bD x v)(fx:fZ x=true):∀{xs:List V}{us:_I},bw xs us->xs.all fZ=true->∀u∈us,SeqAt.EqAt A s u v (AV x u)
 |_,_,.nil,_=>λu hu=>by cases hu
 |y::xs,u::us,.cons r t,f=>λu' hu=>by
  rw[Xk,Wt]at f;rcases VO.mp hu with rfl|hu
  .rw[tU r f.1];exact Kw r rx f.1 fx
  .exact js rx fx t f.2 u' hu
def QA(x:V)(xs:List V):Bool:=xs.any λy=>tR y x
def UK(K:_G)(neg:Bool):R2:=λx y H Q=>∃p xs,y=.ref p/\(kf K H p xs\/jq K H p xs)/\fZ x=true/\xs.all fZ=true/\Q (.bl (if neg then !QA x xs else QA x xs)) H
theorem AW:dN X (compareOp .In) (UK X.K false):=by
 intro ae s σ H x y v u Q I rx ry h;obtain⟨p,xs,rfl,hq,fx,fs,q⟩:=h;cases ry;rcases hq with hq|hq
 .obtain⟨aI,r,pl,hz⟩:=I.list hq;refine SeqAt.in_listAt (AV x) pl.isList (λw hw=>js rx fx r fs w (by simpa using hw)) ⟨.bl _,H,I,rfl,?_⟩;rw[show aI.toArray.any (AV x)=aI.any (AV x) by simp,tW r fs];exact q
 .obtain⟨aI,r,pl,hz⟩:=I.tuple hq;refine SeqAt.in_tupleAt (AV x) pl (λw hw=>js rx fx r fs w (by simpa using hw)) ⟨.bl _,H,I,rfl,?_⟩;rw[show aI.toArray.any (AV x)=aI.any (AV x) by simp,tW r fs];exact q
theorem tX:bp X (.builtin "len") (λxs H Q=>∃p ys,xs=[.ref p]/\(kf X.K H p ys\/jq X.K H p ys)/\Q (.int ys.length) H):=by
 intro ae s σ H xs us Q I r h;obtain⟨p,ys,rfl,hq,q⟩:=h;obtain⟨u,rfl,rx⟩:=vals1 r;cases rx;have hn:=pk;rcases hq with hq|hq
 .obtain⟨aI,r',pl,hz⟩:=I.list hq;have hlen:=r'.length;exact Calls.call_len_list pl.isList (by simp only[VD]<;>lia) ⟨.int ys.length,H,I.tok _,⟨s.toks+1,by rw[VD,hlen]⟩,q⟩
 .obtain⟨aI,r',pl,hz⟩:=I.tuple hq;have hlen:=r'.length;exact len_tuple pl (by simp only[VD]<;>lia) ⟨.int ys.length,H,I.tok _,⟨s.toks+1,by rw[VD,hlen]⟩,q⟩
theorem tY:bp X (.builtin "len") (λxs H Q=>∃z,xs=[.str z]/\z.length<=sizeLine/\Q (.int z.length) H):=by intro ae s σ H xs us Q I r h;obtain⟨z,rfl,hz,q⟩:=h;obtain⟨u,rfl,t,rfl⟩:=vals1 r;have hn:=pk;exact len_str ⋯ ⟨.int z.length,H,I.tok _,⟨_,rfl⟩,q⟩
theorem bp.or{f:_M}{r r':List V->Hp->VK->Prop}(h:bp X f r)(h':bp X f r'):bp X f (λxs H Q=>r xs H Q\/r' xs H Q):=by
 intro ae s σ H xs us Q I rs q;rcases q with q|q
 .exact h ae s σ H xs us Q I rs q
 .exact h' ae s σ H xs us Q I rs q
theorem tZ:bp X (.type "list") (λxs H Q=>∃p ys,xs=[.ref p]/\(kf X.K H p ys\/jq X.K H p ys)/\∀l,H l=none->Q (.ref l) (upd H l (.lst ys))):=by
 intro ae s σ H xs us Q I r h;obtain⟨p,ys,rfl,hq,q⟩:=h;obtain⟨u,rfl,rx⟩:=vals1 r;cases rx;have fin:∀(aI:_I),bw ys aI->ys.length<=sizeLine->∀(h':Heap)(c':Nat),(∀b o',s.heap.get? b=some o'->h'.get? b=some o') ->
   h'.get? s.heap.objs.size=some {cls:=.type "list",dict:=none,data:=.seq aI.toArray c',slots:=#[]}->EP X ae σ Q (.ref s.heap.objs.size) {s with heap:=h'}:=λaI r' hz h' c' kp e=>
  ⟨.ref s.heap.objs.size,_,I.laid (t':=s.toks) kp (Vy _) (show cj X.prog X.w _ h' _ (.lst ys) from⟨hz,aI,c',r',e⟩),rfl,q _ (I.b?.fresh (Vy _))⟩
 rcases hq with hq|hq
 .obtain⟨aI,r',pl,hz⟩:=I.list hq;have hlen:=r'.length;obtain⟨o,ho,hc,n,hd⟩:=pl.isList;exact call_list_seq p (.inl rfl) ho hc hd (λh' c' kp e=>fin aI r' hz h' c' kp e) (by simp only[VD]<;>lia)
 .obtain⟨aI,r',pl,hz⟩:=I.tuple hq;have hlen:=r'.length;obtain⟨o,ho,hc,n,hd⟩:=pl;exact call_list_seq p (.inr rfl) ho hc hd (λh' c' kp e=>fin aI r' hz h' c' kp e) (by simp only[VD]<;>lia)
theorem qY:bp X (.type "tuple") (λxs H Q=>∃p ys,xs=[.ref p]/\((kf X.K H p ys/\∀l,H l=none->Q (.ref l) (upd H l (.tup ys)))\/(jq X.K H p ys/\Q (.ref p) H))):=by
 intro ae s σ H xs us Q I r h;obtain⟨p,ys,rfl,h⟩:=h;obtain⟨u,rfl,rx⟩:=vals1 r;cases rx;rcases h with⟨hq,q⟩|⟨hq,q⟩
 .obtain⟨aI,r',pl,hz⟩:=I.list hq;have hlen:=r'.length;refine call_tuple_list pl.isList (λh' kp=>?_) (by simp only[VD]<;>lia);have I1:aM X ae σ H {s with heap:=h'}:=I.kept (t':=s.toks) kp;have I2:aM X ae σ (upd H h'.objs.size (.tup ys)) {s with heap:=h'.push {cls:=.type "tuple",data:=.seq aI.toArray} }:=
   I1.laid (t':=s.toks) (λb o e=>Vq _ e) (Vy _) (show cj X.prog X.w _ _ _ (.tup ys) from⟨hz,aI,r',IsTup.new _ _⟩)
  exact⟨.ref h'.objs.size,_,I2,rfl,q _ (I1.b?.fresh (Vy _))⟩
 .obtain⟨aI,r',pl,hz⟩:=I.tuple hq;exact call_tuple_same pl ⟨.ref p,H,I,rfl,q⟩
def RW(K:_G)(T:String)(x:V)(H:Hp):Prop:=match x with
 |.str _=>T = "str"
 |.int _=>T = "int"
 |.ref p=>(T = "list" /\ ∃xs,kf K H p xs)\/(T = "tuple" /\ ∃o,K.lookup p=some o/\o.cls=.type "tuple" /\ o.dict=none) \/
   (T = "dict" /\ ((∃aD,H p=some (.dK aD))\/∃aD,H p=some (.dT aD)))\/(T = "set" /\ ∃S n,H p=some (.set S n))
 |_=>False
theorem Kx{s:_N}{T:String}{x:V}{v:_M}(I:aM X ae σ H s)(r:bD x v)(ty:RW X.K T x H):
  s.TypeIs v T/\∀a,v=.ref a->∃ob,s.heap.get? a=some ob/\ob.dict=none:=by
 cases x with
 |str z=>
  obtain⟨t,rfl⟩:=r;cases(show T = "str" from ty);exact⟨typeIs_str s z t,λ_ e=>nomatch e⟩
 |int i=>
  obtain⟨t,rfl⟩:=r;cases(show T = "int" from ty);exact⟨Y4 s i t,λ_ e=>nomatch e⟩
 |ref p=>
  cases r;rcases ty with⟨rfl,xs,hq⟩|⟨rfl,o,hk,hc,hd⟩|⟨rfl,hk⟩|⟨rfl,S,n,hk⟩
  .obtain⟨aI,_,pl,_⟩:=I.list hq;refine⟨pl.isList.typeIs,λa e=>?_⟩;cases e;obtain⟨o,n,e,c,hd,_⟩:=pl;exact⟨o,e,hd⟩
  .refine⟨⟨o,I.nI p o hk,hc⟩,λa e=>?_⟩;cases e;exact⟨o,I.nI _ o hk,hd⟩
  .have z:∃o,s.heap.get? p=some o/\o.ExactDict:=by
    rcases hk with⟨aD,hk⟩|⟨aD,hk⟩
    .obtain⟨_,_,_,_,o,_,_,e,ex,_⟩:=I.b? p _ hk;exact⟨o,e,ex⟩
    .obtain⟨_,_,_,_,o,_,_,e,ex,_⟩:=I.b? p _ hk;exact⟨o,e,ex⟩
   obtain⟨o,e,ex⟩:=z;refine⟨⟨o,e,ex.1⟩,λa e2=>?_⟩;cases e2;exact⟨o,e,ex.2.1⟩
  .obtain⟨o,_,_,_,e,ex,_⟩:=I.b? p _ hk;refine⟨⟨o,e,ex.1⟩,λa e2=>?_⟩;cases e2;exact⟨o,e,ex.2.1⟩
 |_=>exact False.elim ty
def tBM(K:_G)(T:String)(r:V->List V->Hp->VK->Prop)(to:TE)(t:TA):TE:=λσ H Q=>to σ H λx H1=>RW K T x H1/\t σ H1 λxs H2=>r x xs H2 Q
variable{o e:Expr}{to:TE}{t:TA}{T id:String}{r:V->List V->Hp->VK->Prop}
theorem Oh(pa:PlainAttrs T)(slot:Slot T name id)(Oi:typeOf (.builtin id)=pure (.type "method_descriptor"))(hm:MtR X id r)(ho:PE X o to)(ha:PA X (e::es) t)(lq:attributeBase o name X.env (eval o X.env)=eval o X.env:=by rfl)
  (t4:((backTo bM (starEach (e::es) X.env)).all (λx => !x.1)&&(backToKw bM (keywordEach [] X.env)).all (λx=>x.1.isSome)
   && decide ((e::es).length+([]:List Keyword).length+(if([]:List Keyword).isEmpty then 0 else 1)<30))=true:=by rfl)
  (lC:(apos.endLine==bM.line)=true:=by rfl) (hs:starEach (e::es) X.env=(false,eval e X.env)::starEach es X.env:=by rfl) (iT:(backTo bM (starEach es X.env)).any (·.1)=false:=by rfl):
  PE X (.Call (.Attribute o name apos) (e::es) [] bM) (tBM X.K T r to t):=by
 intro ae s σ H Q I h;refine wpAny_Call_method_late lq t4 lC rfl (dA (ho ae s σ H _ I h) λv s1⟨x,H1,I1,r1,ty,q1⟩=>?_);obtain⟨h1,h2⟩:=Kx I1 r1 ty;refine⟨T,id,pa,slot,Oi,h1,h2,?_⟩;have hA:=ha bM ae s1 σ H1 _ I1 q1;rw[hs]at hA⊢;refine YE (by show(false || (backTo bM (starEach es X.env)).any (·.1))=false;rw[iT]<;>rfl) (X' ?_);exact dA hA λus s2⟨vs,H2,I2,r2,q2⟩=>hm ae s2 σ H2 x vs v us Q I2 r1 r2 q2
end
def AX(X:Cx)(id:String)(r:V->List V->Hp->VK->Prop):Prop:=
 ∀(ae:_F)(s:_N)(σ:St)(H:Hp)(x:V)(xs:List V)(v:_M)(us:_I)(Q:VK),aM X ae σ H s->bD x v->bw xs us->r x xs H Q ->
  wpAny (model X.prog X.w) X.A (call (.builtin id) (v::us)) (EP X ae σ Q) X.xe s
theorem bw.one{x:V}{us:_I}(p:bw [x] us):∃u,us=[u]/\bD x u:=by
 cases p with
 |cons r t=>cases t;exact⟨_,rfl,r⟩
theorem bw.two{x y:V}{us:_I}(p:bw [x,y] us):∃u v,us=[u,v]/\bD x u/\bD y v:=by
 cases p with
 |cons r t=>
  obtain⟨v,z,q⟩:=bw.one t;rw[z];exact⟨_,v,rfl,r,q⟩
theorem bw.rep{xs:List V}{us:_I}(h:bw xs us):∀k:Nat,bw (List.replicate k xs).flatten (List.replicate k us).flatten
 |0=>.nil
 |k+1=>by rw[VT,VT,Xi,Xi];exact bw.append h (bw.rep h k)
theorem foldl_rep(aI:_I):∀(k:Nat)(acc:_I),
  List.foldl (λx1 x2=>x1++x2) acc.toArray (List.replicate k aI.toArray)=(acc++(List.replicate k aI).flatten).toArray
 |0,acc=>by simp
 |k+1,acc=>by
  have e:acc.toArray++aI.toArray=(acc++aI).toArray:=by simp
  have e2:(acc++aI)++(List.replicate k aI).flatten=acc++(List.replicate (k+1) aI).flatten:=by rw[VT,Xi,VU]
  rw[<-e2,<-foldl_rep aI k (acc++aI),<-e,VT,List.foldl_cons]
section
variable{s:_N}{l b:_O}{xs ys zs:List V}
theorem aM.RX{its':_I}{n:Nat}{f:Array _M->Array _M}{t':Nat}(I:aM X ae σ H s)(hH:H l=some (.lst xs))(e:s.heap.get? l=some {cls:=.type "list",data:=.seq aI.toArray n})(hf:f aI.toArray=its'.toArray)(hv:bw ys its')(hz:ys.length<=sizeLine):
  aM X ae σ (upd H l (.lst ys)) {s with heap:=s.heap.update l (Obj.mapSeq f),toks:=t'}:=by
 have q:=_o e f;rw[hf]at q;refine I.write (x:=l) (e:=l) (by rw[hH];exact trivial) (.inl rfl) (λb' u hb hu=>(VW s.heap (Obj.mapSeq f) (WE hb)).trans hu) ⟨_,q⟩ ?_;exact⟨hz,its',_,hv,q⟩
theorem aM.Oj{t':Nat}(I:aM X ae σ H s)(hv:bw ys aI)(hz:ys.length<=sizeLine):
  aM X ae σ (upd H s.heap.objs.size (.lst ys)) {s with heap:=s.heap.push {cls:=.type "list",data:=.seq aI.toArray},toks:=t'}:=
 I.laid (λ_ _ q=>Vq _ q) (Vy _) ⟨hz,aI,0,hv,VI _ rfl⟩
theorem aM.fresh(I:aM X ae σ H s):H s.heap.objs.size=none:=I.b?.fresh (Vy _)
theorem aM.AY(I:aM X ae σ H s)(hH:H l=some (.lst xs)):xs.length<=sizeLine/\∃(aI:_I)(n:Nat),bw xs aI/\xs.length=aI.length/\s.heap.get? l=some {cls:=.type "list",data:=.seq aI.toArray n}:=by obtain⟨z,aI,n,r,e⟩:=I.b? l _ hH;exact⟨z,aI,n,r,r.length,e⟩
theorem CT{n:Nat}(h:n<=sizeLine):Builtin.List.listTooLong n=false:=by unfold Builtin.List.listTooLong;exact V2 ⋯
end
def Gr:V->List V->Hp->VK->Prop:=λx vs H Q=>∃l xs y,x=.ref l/\vs=[y]/\H l=some (.lst xs)/\xs.length<sizeLine/\Q .c6 (upd H l (.lst (xs++[y])))
theorem AZ:AX X "list.append" Gr:=by intro ae s σ H x vs v us Q I rx rv h;obtain⟨l,xs,y,rfl,rfl,hH,hz,q⟩:=h;cases rx;obtain⟨u,rfl,ru⟩:=rv.one;obtain⟨z,aI,n,r,hl,e⟩:=I.AY hH;refine X8 F.slot_list_append ⟨_,e,rfl⟩ F.entry_list_append (F.args_list_append_2 _ _) (_a l aI.toArray n u (by rw[VD];lia)) ⟨e,?_⟩;refine⟨.c6,_,I.RX (its':=aI++[u]) hH e (by simp) (r.append (.cons ru .nil)) ?_,rfl,q⟩;rw[VC,XC];lia
def QB:V->List V->Hp->VK->Prop:=λx vs H Q=>∃l b xs zs,x=.ref l/\vs=[.ref b]/\H l=some (.lst xs)/\H b=some (.lst zs)/\xs.length+zs.length<=sizeLine/\Q .c6 (upd H l (.lst (xs++zs)))
def RY:R2:=λx y H Q=>∃l b xs zs,x=.ref l/\y=.ref b/\H l=some (.lst xs)/\H b=some (.lst zs)/\xs.length+zs.length<=sizeLine/\∀p,H p=none->Q (.ref p) (upd H p (.lst (xs++zs)))
theorem Ky:dN X (binaryOp .Add) RY:=by
 intro ae s σ H x y v u Q I rx ry h;obtain⟨l,b,xs,zs,rfl,rfl,hH,hB,hz,q⟩:=h;cases rx;cases ry;obtain⟨z,aI,n,r,hl,e⟩:=I.AY hH;obtain⟨z2,dD,n2,r2,r?,e2⟩:=I.AY hB;refine PySem.P.add_list e e2 ?_ (by rw[VD,VD];lia);have ea:aI.toArray++dD.toArray=(aI++dD).toArray:=by simp
 rw[ea];exact⟨.ref _,_,I.Oj (t':=s.toks) (r.append r2) (by rw[VC];lia),rfl,q _ I.fresh⟩
def RZ:R2:=λx y H Q=>∃l k xs,x=.ref l/\y=.int k/\H l=some (.lst xs)/\-(2 ^ 63)<=k/\k<2 ^ 63/\xs.length*k.toNat<=sizeLine /\
 ∀p,H p=none->Q (.ref p) (upd H p (.lst (List.replicate k.toNat xs).flatten))
theorem len_rep(xs:List α)(k:Nat):(List.replicate k xs).flatten.length=k*xs.length:=by
 induction k with
 |zero=>simp
 |succ k ih=>rw[VT,Xi,VC,ih,Zu,YS]
theorem Kz:dN X (binaryOp .Mult) RZ:=by
 intro ae s σ H x y v u Q I rx ry h;obtain⟨l,k,xs,rfl,rfl,hH,h1,h2,hz,q⟩:=h;cases rx;obtain⟨t,rfl⟩:=ry;obtain⟨z,aI,n,r,hl,e⟩:=I.AY hH;have hlen:aI.toArray.size*k.toNat<=sizeLine:=by rw[VD,<-hl];exact hz
 have R3:¬ aI.toArray.size*k.toNat>(2 ^ 63-1) / 8:=by
  have:(sizeLine:Nat)<=(2 ^ 63-1) / 8:=by decide
  lia
 have Ol:¬ (!Builtin.List.listFitsIndex k)=true:=by rw[fitsIndex_both h1 h2];exact VH
 have Om:¬ Builtin.List.listTooLong (aI.toArray.size*k.toNat)=true:=by rw[CT hlen];exact VH
 have CU:List.foldl (λx1 x2=>x1++x2) #[] (List.replicate (if aI.toArray.isEmpty=true then 0 else k.toNat) aI.toArray)=(List.replicate k.toNat aI).flatten.toArray:=by
  have f0:∀m:Nat,List.foldl (λx1 x2=>x1++x2) #[] (List.replicate m aI.toArray)=(List.replicate m aI).flatten.toArray:=λm=>by have:=foldl_rep aI m [];rw[VB]at this;exact this
  rw[f0];cases aI with
  |nil=>simp
  |cons a r'=>rw[VL (by simp)]
 refine ZU (T:="list") (U:="int") ⋯ ⟨_,e,rfl⟩ (λs'=>Y4 s' k t) noFill_list_mul F.fills_int_mul YG repeat_list F.slot_int_index.lookup
  (X8 YG (Y4 s k t) F.entry_int_rmul (F.args_int_rmul_2 _ _) (int___rmul___int_list k t l aI.toArray n)
   ⟨e,rfl,⟨_,e,rfl⟩,X8 F.slot_list_mul ⟨_,e,rfl⟩ F.entry_list_mul (F.args_list_mul_2 _ _) (AutoListH.list___mul___list_int_3 l aI.toArray n k t Ol R3 Om) ⟨e,?_⟩⟩)
 rw[CU];exact⟨.ref _,_,I.Oj (t':=s.toks) (r.rep k.toNat) (by rw[len_rep,Zv];exact hz),rfl,q _ I.fresh⟩
end L2
namespace UL
open PySem.W PySem.Calls PyProof.Rows
theorem nX{P:Params}{h:Heap}:∀(ns:_H)(vs:_I),WellAll P h vs (ns.map WData.int)->IntsAre vs ns:=by
 intro ns
 induction ns with
 |nil=>
  intro vs w;rw[VQ]at w;cases w;exact .nil
 |cons n ns ih=>
  intro vs w;rw[Vv]at w;cases w with
  |cons a b=>
   cases a;exact .cons _ _ (ih _ b)
theorem A0{l:OpenLaw}{n:Nat}(hn:l.most=some n){P:Params}{h:Heap}{args:List WData}{vals:_I}(Gs:l.row.toRowW.claim.pre args=true)(R4:WellAll P h vals args):
  ∃a vs ns,vals=[Value.ref a]/\args=[WData.list (ns.map WData.int)]/\h.get? a=some {cls:=.type "list",data:=.seq vs.toArray}/\IntsAre vs ns/\ns.length<=n:=by
 have hsh:WShape.hasAll [] args [.list .int]=true:=(pre_splitW Gs).1;have hc:l.pre.holds [] {args:=args} = true:=(pre_splitW Gs).2;obtain⟨d,r,rfl,h1,h2⟩:=hasAllW_cons hsh;obtain rfl:=hasAllW_nil h2;obtain⟨xs,rfl,h3⟩:=hasW_list h1;obtain⟨ns,rfl⟩:=items_int h3;have hlen:ns.length<=n:=by
  unfold OpenLaw.pre at hc;have h4:(WTm.not (.lt (.lit (.int (n:Int))) (.len (.arg 0)))).holds [] {args:=[.list (ns.map .int)]} = true:=by have h4:=(holds_andW hc).1;rw[hn]at h4;exact h4
  have h5:=condW_of h4 (w_not (w_lt w_lit (w_len_list (w_arg rfl))));rw[Vs]at h5;refine YX λq=>?_;have q':(n:Int)<((ns.length:Nat):Int):=⋯
  first
   |(rw[V0 q']at h5;exact absurd h5 ⋯)
   |(simp at h5;lia)
 cases R4 with
 |cons w1 w2=>
  cases w2;cases w1 with
  |list ho KA=>exact⟨_,_,ns,rfl,rfl,ho,nX ns _ KA,hlen⟩
theorem A1(l:OpenLaw)(args:List WData):l.row.toRowW.claim.post args (.bool true) args=true:=
 postW_of (r:=l.row.toRowW) (X:=(true==true))
  (show WShape.has [] (.bool true) .bool=true by first|rfl|decide|simp[WShape.has,WShape.arms,WShape.armsAll])
  (show(WTm.eq .res (.lit (.bool true))).value [] {args:=args,res:=some (.bool true),after:=args} = some (.bool (true==true))from w_eq_bool (w_res rfl) w_lit) rfl
theorem vp{l:OpenLaw}{n:Nat}{q:_Q}{XP:(_E)->Heap->Prop}{d:DefRec}(hn:l.most=some n)(Oo:d.params.defaults=[])
  (call:∀ (w:World) (s₀ s₁:_N) (mg mb:_E) (fa:_O) (o:Obj) (pm cd doc:_M) (a:_O) (vs:_I) (ns:_H),
   Ground q loose [] XP w s₀ mg mb s₁.heap->YP w s₁.heap ->
   s₁.heap.get? fa=some o->o.data=.func (docDef d.name d.params d.body d.scope pm cd doc)->s₁.heap.CodeRec cd d.name->mg d.name=some (.ref fa) ->
   s₁.heap.get? a=some {cls:=.type "list",data:=.seq vs.toArray}->IntsAre vs ns->ns.length<=n->s₁.gens = #[] ->
   codeAny (model l.prog w) callerA (.call (.ref fa) ⟨[.ref a],[]⟩) (λr s'=>r=.ok (.ret (.bool true))/\OldK s₁.heap s'.heap/\s'.os=s₁.os/\AllBare s'.gens) s₁):
  WalkO q loose XP YP l.row.toRowW d [] (λf vs=>PySem.call f vs):=by
 intro w s₀ s₁ mg mb G Y fa o pm cd doc dV kV ho hd o? hD Oq hg args vals as Gs aab hrd R4 hlo;obtain rfl:dV=.none:=Dflts.none hD Oo;obtain rfl:kV=.none:=Dflts.noKw hD;obtain⟨a,vs,ns,rfl,rfl,KC,hints,hlen⟩:=A0 hn Gs R4;refine enter_call (Yd (call w s₀ s₁ mg mb fa o pm cd doc a vs ns G Y ho (fd_plain hd) o? Oq KC hints hlen hg) λr s' hq=>?_);obtain⟨rfl,h2,h3,h4⟩:=hq;exact⟨.inl ⟨.bool true,.bool true,[],rfl,λ_=>rfl,.bool true,A1 l _,λ_=>⟨List.Pairwise.nil,λ_ hm=>(nomatch hm)⟩⟩,h2,h3,h4⟩
end UL
namespace L2
open PySem.Spec PyProof.Rows
theorem sd:∀{vs:_I}{ns:_H},IntsAre vs ns->bw (ns.map V.int) vs
 |_,_,.nil=>.nil
 |_,_,.cons n t h=>.cons ⟨t,rfl⟩ (sd h)
def Gu(H:Hp):Prop:=∀b,H b=none\/∃o xs,H b=some (.kx o (.lst xs))
theorem CV{K:_G}{mg mb:_E}{k:Nat}{a:_O}{fd:FuncData}{x:Str}{s₁:_N}(KX:K.In s₁.heap)(QC:s₁.heap.Ns mainGlobals mg)(hb:s₁.heap.Ns builtinsNs mb)(hbb:∀x:Str,x ≠ "__name__" -> mb x=bootBuiltins x)(R5:s₁.heap.NoLimit)(hg:s₁.gens = #[])(ha:s₁.heap.get? a=some {cls:=.type "list",data:=.seq vs.toArray})(hi:IntsAre vs ns)(hl:ns.length<=sizeLine)(hr:fJ k callerA)(F:∀base:Heap,K.In base->base.Ns mainGlobals mg->jr P w K mg base CX k fa fd [x] sp)(Ot:∀(s:_N)(u:_M),BindsTo s fd ⟨[u],[]⟩ [(x,u)])(I?:∀H:Hp,Gu H->kf K H a (ns.map V.int)->sp [.ref a] H (λv _=>v=.bl true) λ_ _ _=>False)(R6:∀H e s',CX [] H s₁ (λ_ _ _=>False) e s'->False):
  codeAny (model P w) callerA (.call (.ref fa) ⟨[.ref a],[]⟩) (λr s'=>r=.ok (.ret (.bool true))/\OldK s₁.heap s'.heap/\s'.os=s₁.os/\AllBare s'.gens) s₁:=by
 have rv:=sd hi;have R7:=hi.length
 -- from an abstract heap in UM nothing but Ck KD may be tracked
 have core:∀H:Hp,Gu H->kf K H a (ns.map V.int)->iQ P w H s₁.heap->(∀b,H b≠none->b=a)->(H a≠none->K.lookup a=none) ->
   codeAny (model P w) callerA (.call (.ref fa) ⟨[.ref a],[]⟩) (λr s'=>r=.ok (.ret (.bool true))/\OldK s₁.heap s'.heap/\s'.os=s₁.os/\AllBare s'.gens) s₁:=by
  intro H hO hS b? hA hK;have zC:∀{b:_O}{o:Obj},s₁.heap.get? b=some o->H b=none->(tF s₁.heap H).get? b=some o:=λe n=>Cu e n;have Oa:∀{b:_O}{o:Obj}{es:Array DictEntry}{ep:Nat},s₁.heap.get? b=some o->o.data=.dict es ep->H b=none:=λ{b o es ep}e d=>by
   cases q:H b with
   |none=>rfl
   |some u=>
    have e':b=a:=hA b (by rw[q];simp);subst e';rw[ha]at e;cases e;have d':Data.seq vs.toArray _=Data.dict es ep:=d;cases d'
  have QD:∀{b:_O}{m:_E},s₁.heap.Ns b m->(tF s₁.heap H).Ns b m:=λ{b m}⟨o,es,ep,e,d,r⟩=>⟨o,es,ep,zC e (Oa e d),d,r⟩
  have UN:K.In (tF s₁.heap H):=λb o e=>zC (KX b o e) (by
   cases q:H b with
   |none=>rfl
   |some u=>
    have e':b=a:=hA b (by rw[q];simp);subst e';rw[hK (by rw[q];simp)]at e;cases e)
  have hM:Mod K mg (tF s₁.heap H):=⟨UN,QD QC,⟨mb,QD hb,hbb⟩,let⟨mc,h1,h2⟩:=R5;⟨mc,QD h1,h2⟩⟩
  have e0:xH P w K mg (tF s₁.heap H) callerA [] s₁ H:=⟨rfl,hM,λb o e=>FU e,Zw (AG _ _),trivial,λb hb=>absurd (show b∈([]:_K)from hb) (by simp),b?,.of_eq hg⟩
  refine Yd ((F _ UN (QD QC)).run callerA [] s₁ H ⟨[.ref a],[]⟩ [.ref a] [.ref a] _ _ hr e0 (Ot s₁ (.ref a)) (.cons rfl .nil) (I? H hO hS)) λr s' h=>?_;cases r with
  |error e=>exact(R6 H e s' h).elim
  |ok fl=>
   cases fl with
   |next=>exact False.elim h
   |brk=>exact False.elim h
   |cont=>exact False.elim h
   |ret u=>
    obtain⟨v,H',os,bare,un,R8,r',q⟩:=h;have q':v=.bl true:=q;subst q';obtain rfl:u=Value.bool true:=r';refine⟨rfl,OldK.of_keep λb o e=>?_,os,bare⟩;cases q:H b with
    |none=>exact un.keep b o e q (by intro z;exact absurd (show b∈([]:_K)from z) (by simp)) (by simp)
    |some u=>
     rcases hO b with z|⟨ob,xs,z⟩
     .rw[q]at z;cases z
     .have z2:=un.j6 b ob _ z;obtain⟨e1,_⟩:=b? b _ z;obtain⟨e2,_⟩:=R8 b _ z2;rw[e]at e1;cases e1;exact e2
 cases hk:K.lookup a with
 |some o=>
  -- Ck KD is one of Ck Ou own objects
  have e:=KX a o hk;rw[ha]at e;cases e;refine core (λ_=>none) (λ_=>.inl rfl) (.inr ⟨_,vs.toArray,_,hk,rfl,rfl,rfl,by rw[VD,R7];exact hl,by simpa using rv⟩) (λb u z=>by have z':(none:Option HO)=some u:=z;cases z') (λb z=>absurd rfl z) λz=>absurd rfl z
 |none=>
  refine core (λb=>if b=a then some (.kx {cls:=.type "list",data:=.seq vs.toArray} (.lst (ns.map V.int)))else none) (λb=>?_) (.inl (.inr ⟨{cls:=.type "list",data:=.seq vs.toArray},VA rfl⟩)) (λb u z=>?_) (λb z=>?_) λ_=>hk
  .by_cases hb:b=a
   .exact .inr ⟨_,_,VA hb⟩
   .exact .inl (VL hb)
  .by_cases hb:b=a
   .have z':=(VA hb).symm.trans z;cases z';subst hb;exact⟨ha,by rw[Vs];exact hl,vs,_,rv,ha⟩
   .have z':=(VL hb).symm.trans z;cases z'
  .by_cases hb:b=a
   .exact hb
   .exact absurd (VL hb) z
theorem Gv{l:W.OpenLaw}{n k:Nat}{q:_Q}{XP:(_E)->Heap->Prop}{d:DefRec}{K:Params->_G}{CX:World->xy}{sp:World->Sp}{x:Str}(hn:l.most=some n)(QE:n<=sizeLine)(Oo:d.params.defaults=[])(hr:fJ k callerA)(hY:∀(w:World)(h:Heap),YP w h->(K w.params).In h)
  (F:∀ (w:World) (mg:_E) (fa:_O) (h:Heap),(K w.params).In h->h.Ns mainGlobals mg->mg d.name=some (.ref fa) ->
   ∃fd:FuncData,(∀(s:_N)(u:_M),BindsTo s fd ⟨[u],[]⟩ [(x,u)]) /\
    ∀base:Heap,(K w.params).In base->base.Ns mainGlobals mg->jr l.prog w (K w.params) mg base (CX w) k fa fd [x] (sp w))
  (I?:∀(w:World)(H:Hp)(a:_O)(ns:_H),ns.length<=n->Gu H->kf (K w.params) H a (ns.map V.int)->sp w [.ref a] H (λv _=>v=.bl true) λ_ _ _=>False)
  (R6:∀(w:World)(H:Hp)(s:_N)(e:_M)(s':_N),CX w [] H s (λ_ _ _=>False) e s'->False):
  W.WalkO q loose XP YP l.row.toRowW d [] (λf vs=>PySem.call f vs):=by
 refine UL.vp hn Oo λw s₀ s₁ mg mb fa o pm cd doc a vs ns G Y ho hd o? Oq KC hints hlen hg=>?_;have KX:=hY w _ Y;obtain⟨fd,hb,hF⟩:=F w mg fa _ KX G.T.g Oq;exact CV KX G.T.g G.T.b G.T.builtins G.T.nolimit hg KC hints (V7 hlen QE) hr hF hb (λH hO hS=>I? w H a ns hlen hO hS) λH e s'=>R6 w H s₁ e s'
def fT(s:Stmt):Arguments:=match s with
 |.FunctionDef _ a _ _ _ _ _ _ _ _=>a
 |_ => {posonlyargs:=[],args:=[],vararg:=none,kwonlyargs:=[],kw_defaults:=[],kwarg:=none,defaults:=[]}
def dH(s:Stmt):List Stmt:=match s with
 |.FunctionDef _ _ b _ _ _ _ _ _ _=>b
 |_=>[]
def aV(s:Stmt):Scope:=match s with
 |.FunctionDef _ _ _ _ _ _ sc _ _ _=>sc
 |_ => {kind:=.function,names:=[],isGenerator:=false,isCoroutine:=false}
abbrev E0:XK:=λ_ _ _=>False
structure FH(K:_G)(x qual:Str)(st:Stmt)(f:_O)(fd:FuncData):Prop where
 ex:∃(oc:_M)(od:Option _O)(kV doc pm:_M)(an:Option _O)(ej ct:_M)(AR:Array (_J)),
  fd=W.fnOf x qual (fT st) (dH st) (aV st) .none kV doc pm an ej ct/\K.lookup f=some ⟨oc,od,.func fd,AR⟩/\W.codeIn K ej qual=true
 kp:W.keepIn K (.ref f)=true
section
variable{K:_G}{mg:_E}{base:Heap}
theorem FH.binds{x qual:Str}{st:Stmt}{fd:FuncData}{ps:_L}(F:FH K x qual st f fd)(h:∀(kV doc pm:_M)(an:Option _O)(ej ct:_M)(us:_I),us.length=ps.length->bindArgs (W.fnOf x qual (fT st) (dH st) (aV st) .none kV doc pm an ej ct) ⟨us,[]⟩=pure (ps.zip us)):Binds K fd ps []:=by obtain⟨oc,od,kV,doc,pm,an,ej,ct,AR,rfl,lk,o?⟩:=F.ex;exact .all (h kV doc pm an ej ct)
theorem CW{x qual:Str}{st:Stmt}{kV ct:_M}(l:K.lookup f=some ⟨oc,od,.func (W.fnOf x qual (fT st) (dH st) (aV st) .none kV doc pm an ej ct),AR⟩)(c:W.codeIn K ej qual=true)(k:W.keepIn K (.ref f)=true):FH K x qual st f (W.fnOf x qual (fT st) (dH st) (aV st) .none kV doc pm an ej ct):=⟨⟨oc,od,kV,doc,pm,an,ej,ct,AR,rfl,l,c⟩,k⟩
end
def mJ(H H':Hp):Prop:=∀b o,H b=some o->H' b=some o
theorem mJ.refl(H:Hp):mJ H H:=λ_ _ h=>h
end L2
variable {kp:Pos}
namespace L2
open PySem.Spec PyProof.Rows
open Sem (wp)
def jt{α:Type}:Sem α->Prop
 |.pure _=>True
 |.raise _=>True
 |.unsupported _=>True
 |.register _ _=>True
 |.load _ _ k=>∀o,jt (k o)
 |.update _ _ _ k=>jt (k ())
 |.alloc _ k=>∀a,jt (k a)
 |.stack k=>∀l,jt (k l)
 |_=>False
theorem bG{f:α->Sem β}(k:∀a,jt (f a)):∀{t:Sem α},jt t->jt (t >>= f):=by
 intro t
 induction t with
 |pure a=>exact λ_=>k a
 |raise|unsupported|register=>exact λ_=>trivial
 |load a o g ih=>exact λh x=>ih x (h x)
 |update a o f g ih=>exact λh=>ih () h
 |alloc o g ih=>exact λh x=>ih x (h x)
 |stack g ih=>exact λh x=>ih x (h x)
 |_=>exact λh=>h.elim
theorem Gw{M:Model}{Γ:PySem.Ctx}{Q1 Q2:α->Pos->_N->Prop}{E1 E2:_M->Pos->_N->Prop}{p:Pos}(t:Sem α):∀{s:_N},jt t->wp M Γ t Q1 E1 p s->wp M Γ t Q2 E2 p s->wp M Γ t (λa p s=>Q1 a p s/\Q2 a p s) E1 p s:=by
 induction t with
 |load a o k ih=>
  intro s z h1 h2;rw[Sem.wp_load]at h1 h2⊢;obtain⟨x,a1,b1⟩:=h1;obtain⟨y,a2,b2⟩:=h2;rw[a1]at a2;cases a2;exact⟨x,a1,ih _ (z _) b1 b2⟩
 |update a o f k ih=>intro s z h1 h2;rw[Sem.wp_update]at h1 h2⊢;exact⟨h1.1,ih _ z h1.2 h2.2⟩
 |pure a=>exact λ_ h1 h2=>⟨h1,h2⟩
 |raise a=>exact λ_ h1 _=>h1
 |unsupported|register=>exact λ_ h1 _=>h1.elim
 |alloc o k ih=>exact λz h1 h2=>ih _ (z _) h1 h2
 |stack k ih=>exact λz h1 h2=>ih _ (z _) h1 h2
 |_=>exact λz=>z.elim
theorem gS{M:Model}{t:Sem α}{Q1 Q2 Q:α->_N->Prop}{E:_D}{s:_N}(z:jt t)(h1:wpAny M A t Q1 E s)(h2:wpAny M A t Q2 E s)(h:∀a s',Q1 a s'->Q2 a s'->Q a s'):wpAny M A t Q E s:=by have z:wpAny M A t (λa s=>Q1 a s/\Q2 a s) E s:=λΓ p k=>Gw t z (h1 Γ p k) (h2 Γ p k);exact Wz z (λa s' q=>h a s' q.1 q.2) λ_ _ q=>q
theorem lE(v:_M)(i:Nat):jt (field v i):=by
 unfold field;refine bG (λa=>?_) ?_
 .split<;>trivial
 .unfold fieldsOf;cases v with
  |ref a=>
   refine bG (λo=>?_) (λ_=>trivial);split<;>trivial
  |_=>trivial
theorem xK(v:_M)(i:Nat)(x:_M):jt (setField v i x):=by
 unfold setField;cases v with
 |ref a=>
  refine bG (λo=>?_) (λ_=>trivial);split
  .split
   .exact trivial
   .exact trivial
  .exact trivial
 |_=>trivial
theorem vq:∀l:List Env,jt (readyFrames l)
 |[]=>trivial
 |env::outer=>by
  unfold readyFrames;split
  .refine bG (λo=>?_) (λ_=>trivial);split
   .exact trivial
   .refine bG (λb=>bG (λv=>bG (λ_=>vq outer) ?_) ?_) ?_
    .exact trivial
    .unfold keptBack;split
     .split
      .exact trivial
      .exact λ_=>trivial
     .exact trivial
    .unfold behindIsImport;split
     .exact trivial
     .split
      .exact trivial
      .refine bG (λ_=>?_) (lE _ _);exact trivial
  .exact trivial
theorem CY(env:Env):jt (PySem.frameOf env):=by
 unfold PySem.frameOf;refine bG (λl=>bG (λv=>?_) ?_) (λ_=>trivial)
 .split<;>trivial
 .unfold frameObject;split
  .exact trivial
  .refine bG (λ_=>?_) (vq _);exact trivial
theorem mK(v:_M)(f:Option _O):jt (setFlight v f):=by
 unfold setFlight;refine bG (λt=>?_) (lE _ _);split
 .exact xK _ _ _
 .exact trivial
theorem zD(v:_M)(env:Env):jt (noteFrame v env):=by
 unfold noteFrame;split
 .rename_i f _;have go:∀h b,jt (do setField v 1 (<-EntryCells.newEntry h (<-PySem.frameOf env) .none (rawInt f) .none (<-entryPlaceOf f b))):=λh b=>by
   refine bG (λa=>bG (λl=>bG (λ_=>xK _ _ _) ?_) ?_) (CY env)
   .unfold EntryCells.newEntry newFields newObj;dsimp only;split<;>split
    .exact trivial
    .exact λ_=>trivial
    .exact trivial
    .exact λ_=>trivial
   .unfold entryPlaceOf;refine bG (λ_=>?_) (λ_=>trivial);split<;>trivial
  refine bG (λt=>?_) (lE _ _);split
  .refine bG (λx=>?_) (lE _ _);split
   .exact trivial
   .exact bG (λ_=>go _ _) (xK _ _ _)
  .exact go _ _
 .exact trivial
theorem vt(v:_M)(env:Env):jt (leaving env v):=bG (λ_=>mK _ _) (zD _ _)
def Gx(oe:Obj):Prop:=∃vs,oe.data=.fields vs/\vs[2]?=some Value.none
def pw(h:Heap)(e:_O):Prop:=∃oe vs,h.get? e=some oe/\oe.data=.fields vs/\vs[2]?=some Value.none/\(vs[1]?=some Value.none\/∃T oT ts,vs[1]?=some (Value.ref T)/\T≠e/\h.get? T=some oT/\oT.data=.fields ts/\3<ts.size)
theorem pw.ctx{h:Heap}{e:_O}(t:pw h e)(he:h.get? e=some oe):Gx oe:=by obtain⟨o,vs,h1,h2,h3,_⟩:=t;rw[he]at h1;cases h1;exact⟨vs,h2,h3⟩
section
variable{M:Model}{E:_D}{s:_N}{base:Heap}{env:PySem.Env}{outer:List PySem.Env}{L e:_O}
theorem kD(h:pw s.heap e):wpAny M A (setFlight (.ref e) none) (λ_ s'=>pw s'.heap e) E s:=by
 obtain⟨oe,vs,he,hd,h2,h1⟩:=h;unfold setFlight;rcases h1 with h1|⟨T,oT,ts,h1,ne,hT,dT,h3⟩
 .refine Vp (V_ he hd h1 ?_);rw[VL ⋯];exact Vr ⟨oe,vs,he,hd,h2,.inl h1⟩
 .refine Vp (V_ he hd h1 ?_);rw[VA (show(Value.ref T !=Value.none)=true from rfl)];refine XF hT dT h3 ⟨oe,vs,(VW _ _ ne).trans he,hd,h2,.inr ⟨T,_,_,h1,ne,Wu _ hT (Xw (WR dT _)),WR dT _,by rw[_s];exact h3⟩⟩
theorem vx(ve:A.frames=some (env::outer))(hl:s.heap.FunFrames base (env::outer))(hf:env.frame=some L)(h:pw s.heap e):wpAny M A (noteFrame (.ref e) env) (λ_ s'=>pw s'.heap e) E s:=by
 have go:∀(s1:_N)(head:_M)(b:Bool),s1.heap.FunFrames base (env::outer)->pw s1.heap e->wpAny M A (do setField (.ref e) 1 (<-EntryCells.newEntry head (<-frameOf env) .none (rawInt L) .none (<-entryPlaceOf L b))) (λ_ s'=>pw s'.heap e) E s1:=by
  rintro s1 head b hl ⟨oe,vs,he,hd,h2,h1⟩;have z1:1<vs.size:=by rcases h1 with q|⟨_,_,_,q,_⟩<;>exact(Array.getElem?_eq_some_iff.mp q).1
  have R9:e ∉ (env::outer).filterMap (·.frame):=λhm=>by obtain⟨_,o,ho,A2⟩:=hl.mem hm;rw[he]at ho;cases ho;exact A2 vs hd
  refine Vp (wpAny_frameOf_fun ve hl hf λh₁ Ov=>?_);refine Vp (wpAny_entryPlaceOf λpl iR=>?_);unfold EntryCells.newEntry newFields;refine Vp (Wf ?_ (iR.sizeOk5 _ _ _ _ _));have CZ:h₁.get? e=some oe:=(Ov.2.1 e R9).trans he;refine XF (Vq _ CZ) hd z1 ?_;have ne:h₁.objs.size≠e:=WK (Vz CZ);have d3:=WR hd (·.setIfInBounds 1 (Value.ref h₁.objs.size));refine⟨_,_,Wu _ (Vq _ CZ) (Xw d3),d3,by rw[Array.getElem?_setIfInBounds_ne ⋯];exact h2,.inr ⟨h₁.objs.size,_,_,by simp[z1],ne,(VW _ _ (WE ne)).trans (VI h₁ rfl),rfl,by simp only[VD,VC,Vt,VE];lia⟩⟩
 unfold noteFrame;simp only[hf];obtain⟨oe,vs,he,hd,h2,h1⟩:=id h;rcases h1 with h1|⟨T,oT,ts,h1,ne,hT,dT,h3⟩
 .refine Vp (V_ he hd h1 ?_);rw[VL ⋯];exact go s _ _ hl h
 .refine Vp (V_ he hd h1 ?_);rw[VA (show(Value.ref T !=Value.none)=true from rfl)];refine Vp (V_ hT dT (x:=ts[3]) (by simp[h3]) ?_);split
  .exact Vr h
  .refine Vp (XF hT dT h3 ?_);have FI:∀b,b≠T->(s.heap.update T (Obj.mapFields (·.setIfInBounds 3 Value.none))).get? b=s.heap.get? b:=λb hb=>VW _ _ (WE hb);refine go _ _ _ (hl.of_keeps λb o hb A2=>⟨o,(FI b λq=>?_).trans hb,rfl⟩) ⟨oe,vs,(FI e (WE ne)).trans he,hd,h2,.inr ⟨T,_,_,h1,ne,Wu _ hT (Xw (WR dT _)),WR dT _,by rw[_s];exact h3⟩⟩;rw[q,hT]at hb;cases hb;exact A2 ts dT
theorem nK(ve:A.frames=some (env::outer))(hl:s.heap.FunFrames base (env::outer))(hf:env.frame=some L)(h:pw s.heap e):wpAny M A (leaving env (.ref e)) (λ_ s'=>pw s'.heap e) E s:=
 Vp (Wz (vx ve hl hf h) (λ_ _ q=>kD q) λ_ _ q=>q)
variable{a0:_M}{Q:Unit->_N->Prop}
theorem C0{h:Heap}(hx:Heap.MadeExcOf h s.heap e cls args):pw s.heap e:=by obtain⟨t,he,_⟩:=hx.there;exact⟨_,_,he,rfl,rfl,.inl rfl⟩
theorem t5{h:Heap}(ve:A.frames=some (env::outer))(hf:env.frame=some L)(hkb:base.StaysIn h)(hl:h.FunFrames base (env::outer))(hx:Heap.MadeExcOf h s.heap e cls args)(hQ:∀h' t,Heap.FlyingW base outer e cls (.ref t) h'->s.heap.UpToSlots h'->pw h' e->Q () {s with heap:=h'}):wpAny M A (leaving env (.ref e)) Q E s:=
 gS (vt _ _) (wpAny_leaves_madeW (Q:=λ_ s'=>∃h' t,s' = {s with heap:=h'}/\Heap.FlyingW base outer e cls (.ref t) h'/\s.heap.UpToSlots h') ve hf hkb hl hx λh' t a _ _ d=>⟨h',t,rfl,a,d⟩) (nK ve (hl.of_keeps λb o hb _=>⟨o,hx.keeps b o hb,rfl⟩) hf (C0 hx))
  λ_ _⟨h',t,z,a,d⟩q=>by subst z;exact hQ h' t a d q
theorem xM(ve:A.frames=some (env::outer))(hf:env.frame=some L)(Ow:Heap.FlyingW base (env::outer) e cls a0 s.heap)(ht:pw s.heap e)(hQ:∀h',Heap.FlyingW base outer e cls a0 h'->s.heap.UpToSlots h'->pw h' e->Q () {s with heap:=h'}):wpAny M A (leaving env (.ref e)) Q E s:=
 gS (vt _ _) (wpAny_leaves_onW (Q:=λ_ s'=>∃h',s' = {s with heap:=h'}/\Heap.FlyingW base outer e cls a0 h'/\s.heap.UpToSlots h') ve hf Ow λh' a d=>⟨h',rfl,a,d⟩) (nK ve Ow.2.2.1 hf ht)
  λ_ _⟨h',z,a,d⟩q=>by subst z;exact hQ h' a d q
theorem A3(ve:A.frames=some (env::outer))(hf:env.frame=some L)(Ow:Heap.FlyingW base (env::outer) e cls a0 s.heap)(ht:pw s.heap e)(hQ:∀h',Heap.HeldW base (env::outer) e cls a0 L h'->s.heap.UpToSlots h'->pw h' e->Q () {s with heap:=h'}):wpAny M A (noteFrame (.ref e) env) Q E s:=
 gS (zD _ _) (wpAny_looks_onW (Q:=λ_ s'=>∃h',s' = {s with heap:=h'}/\Heap.HeldW base (env::outer) e cls a0 L h'/\s.heap.UpToSlots h') ve hf Ow λh' a d=>⟨h',rfl,a,d⟩) (vx ve Ow.2.2.1 hf ht)
  λ_ _⟨h',z,a,d⟩q=>by subst z;exact hQ h' a d q
theorem KG{l:List PySem.Env}(hh:Heap.HeldW base l e cls a0 L s.heap)(ht:pw s.heap e)(hQ:∀h',Heap.FlyingW base l e cls a0 h'->s.heap.UpToSlots h'->pw h' e->Q () {s with heap:=h'}):wpAny M A (setFlight (.ref e) none) Q E s:=
 gS (mK _ _) (wpAny_landsW (Q:=λ_ s'=>∃h',s' = {s with heap:=h'}/\Heap.FlyingW base l e cls a0 h'/\s.heap.UpToSlots h') hh λh' a d=>⟨h',rfl,a,d⟩) (kD ht)
  λ_ _⟨h',z,a,d⟩q=>by subst z;exact hQ h' a d q
theorem t7{l:List PySem.Env}(hh:Heap.FlyingW base l e cls a0 s.heap)(ht:pw s.heap e)(hQ:∀h',Heap.FlyingW base l e cls a0 h'->s.heap.UpToSlots h'->pw h' e->Q () {s with heap:=h'}):wpAny M A (setFlight (.ref e) none) Q E s:=
 gS (mK _ _) (lands_againW (Q:=λ_ s'=>∃h',s' = {s with heap:=h'}/\Heap.FlyingW base l e cls a0 h'/\s.heap.UpToSlots h') hh λh' a d=>⟨h',rfl,a,d⟩) (kD ht)
  λ_ _⟨h',z,a,d⟩q=>by subst z;exact hQ h' a d q
end
section
variable[DecidableEq κ]
def iq(aD:List (κ×V))(k:κ):Option V:=(aD.find? λkv=>decide (kv.1=k)).map (·.2)
def putK(aD:List (κ×V))(k:κ)(v:V):List (κ×V):=
 if(aD.any λkv=>decide (kv.1=k))=true then aD.map (λkv=>if kv.1=k then(kv.1,v)else kv)else aD++[(k,v)]
def nL(aD:List (κ×V))(k:κ):List (κ×V):=aD.filter λkv=>decide (kv.1≠k)
theorem px{p:κ×V}{r:List (κ×V)}{k:κ}(e:p.1=k):iq (p::r) k=some p.2:=by simp[iq,Xg,e]
theorem pz{p:κ×V}{r:List (κ×V)}{k:κ}(e:¬ p.1=k):iq (p::r) k=iq r k:=by simp[iq,Xg,e]
theorem vy(k:κ):∀aD:List (κ×V),(aD.any λkv=>decide (kv.1=k))=(iq aD k).isSome
 |[]=>rfl
 |p::r=>by
  rw[Xj];by_cases e:p.1=k
  .simp only[px e,V0 e,ZG,Option.isSome_some]
  .rw[pz e,V2 e,XY];exact vy k r
theorem ju(aD:List (κ×V))(k:κ)(v:V):(putK aD k v).length<=aD.length+1:=by
 unfold putK;split
 .rw[Vs];lia
 .rw[VC,Vt,VE];lia
theorem k9.A4{o:Option V}{u:_J}(r:k9 o u):o.isSome=u.isSome:=by
 cases o with
 |none=>cases u with
  |none=>rfl
  |some _=>exact(show False from r).elim
 |some _=>cases u with
  |none=>exact(show False from r).elim
  |some _=>rfl
theorem k9.getD{o:Option V}{u:_J}{d:V}{d':_M}(r:k9 o u)(rd:bD d d'):bD (o.getD d) (u.getD d'):=by
 cases o with
 |none=>cases u with
  |none=>exact rd
  |some _=>exact(show False from r).elim
 |some _=>cases u with
  |none=>exact(show False from r).elim
  |some _=>exact r
theorem KV.val{aD:List (κ×V)}{vs:List (κ×_M)}(r:KV aD vs)(k:κ):k9 (iq aD k) (valueAt vs k):=by
 unfold KV at r
 induction r with
 |nil=>exact True.intro
 | @cons p q ps qs h t ih=>
  obtain⟨h1,h2⟩:=h;by_cases e:p.1=k
  .have e':q.1=k:=h1.symm.trans e;have b:valueAt (q::qs) k=some q.2:=by simp[valueAt,Xg,e']
   rw[px e,b];exact h2
  .have e':¬ q.1=k:=λz=>e (h1.trans z);have b:valueAt (q::qs) k=valueAt qs k:=by simp[valueAt,Xg,e']
   rw[pz e,b];exact ih
theorem KV.any{aD:List (κ×V)}{vs:List (κ×_M)}(r:KV aD vs)(k:κ):(aD.any λkv=>decide (kv.1=k))=vs.any λkv=>decide (kv.1=k):=by
 unfold KV at r
 induction r with
 |nil=>rfl
 |cons h t ih=>rw[Xj,Xj,ih,h.1]
theorem KV.xN{aD:List (κ×V)}{vs:List (κ×_M)}(r:KV aD vs)(k:κ){y:V}{u:_M}(ry:bD y u):
  KV (aD.map λkv=>if kv.1=k then(kv.1,y)else kv) (vs.map λkv=>if kv.1=k then(kv.1,u)else kv):=by
 unfold KV at r⊢
 induction r with
 |nil=>exact .nil
 | @cons p q ps qs h t ih=>
  rw[Vv,Vv];refine .cons ?_ ih;obtain⟨h1,h2⟩:=h;by_cases e:p.1=k
  .rw[VA e,VA (h1.symm.trans e)];exact⟨h1,ry⟩
  .rw[VL e,VL (λz=>e (h1.trans z))];exact⟨h1,h2⟩
theorem KV.put{aD:List (κ×V)}{vs:List (κ×_M)}(r:KV aD vs)(k:κ){y:V}{u:_M}(ry:bD y u):KV (putK aD k y) (stored vs k u):=by
 unfold putK stored;rw[r.any k];by_cases e:(vs.any λkv=>decide (kv.1=k))=true
 .rw[VA e,VA e];exact r.xN k ry
 .rw[VL e,VL e];exact Paired.snoc r ⟨rfl,ry⟩
theorem KV.length{aD:List (κ×V)}{vs:List (κ×_M)}(r:KV aD vs):aD.length=vs.length:=X_ r
theorem C1(aD:List (κ×V))(k:κ):(nL aD k).length<=aD.length:=YU _ _
end
theorem zE{k:cT}{u:_M}(r:bD (kV k) u):(c_ P w).is k u=true:=by
 cases k with
 |inl i=>obtain⟨t,e⟩:=(show ∃t,u=Value.int i t from r);subst e;exact vg P w i t
 |inr x=>obtain⟨t,e⟩:=(show ∃t,u=Value.str x t from r);subst e;exact vh P w x t
theorem sf{P:_Q}{w:World}:∀{ks:List cT}{us:_I},bw (ks.map kV) us->ItemsAre (c_ P w) ks us
 |[],_,r=>by rw[VQ]at r;cases r;exact .nil
 |k::ks,_,r=>by
  rw[Vv]at r;cases r with
  |cons h t=>exact .cons (zE h) (sf t)
abbrev KT(H:Hp):List (List cT×V)->List (List cT×_O×_M)->Prop:=Paired λp q=>p.1=q.1/\H q.2.1=some (.tup (p.1.map kV))/\bD p.2 q.2.2
theorem KT.val{aD:List (List cT×V)}{xs:List (List cT×_O×_M)}(r:KT H aD xs)(k:List cT):k9 (iq aD k) ((atKey xs k).map (·.2)):=by
 induction r with
 |nil=>exact True.intro
 | @cons p q ps qs h t ih=>
  obtain⟨h1,_,h2⟩:=h;by_cases e:p.1=k
  .have e':q.1=k:=h1.symm.trans e;have b:atKey (q::qs) k=some q.2:=by simp[atKey,Xg,e']
   rw[px e,b];exact h2
  .have e':¬ q.1=k:=λz=>e (h1.trans z);have b:atKey (q::qs) k=atKey qs k:=by simp[atKey,Xg,e']
   rw[pz e,b];exact ih
theorem KT.xN{aD:List (List cT×V)}{xs:List (List cT×_O×_M)}(r:KT H aD xs)(k:List cT){y:V}{u:_M}(ry:bD y u):
  KT H (aD.map λkv=>if kv.1=k then(kv.1,y)else kv) (xs.map (putAt k u)):=by
 induction r with
 |nil=>exact .nil
 | @cons p q ps qs h t ih=>
  rw[Vv,Vv];refine .cons ?_ ih;obtain⟨h1,h2,h3⟩:=h;unfold putAt;by_cases e:p.1=k
  .rw[VA e,VA (h1.symm.trans e)];exact⟨h1,h2,ry⟩
  .rw[VL e,VL (λz=>e (h1.trans z))];exact⟨h1,h2,h3⟩
theorem KT.put{aD:List (List cT×V)}{xs:List (List cT×_O×_M)}(r:KT H aD xs)(k:List cT){b:_O}{y:V}{u:_M}(hb:H b=some (.tup (k.map kV)))(ry:bD y u):
  KT H (putK aD k y) (storedH xs k b u):=by
 have e:(aD.any λkv=>decide (kv.1=k))=(atKey xs k).isSome:=by rw[vy,(r.val k).A4,Option.isSome_map]
 unfold putK storedH;rw[e];by_cases q:(atKey xs k).isSome=true
 .rw[VA q,VA q];exact r.xN k ry
 .rw[VL q,VL q];exact Paired.snoc r ⟨rfl,hb,ry⟩
theorem KT.keeps{aD:List (List cT×V)}{xs:List (List cT×_O×_M)}(r:KT H aD xs)(ht:∀b ys,H b=some (.tup ys)->H' b=some (.tup ys)):KT H' aD xs:=
 Paired.JT r λ_ _ z=>⟨z.1,ht _ _ z.2.1,z.2.2⟩
section
variable{h:Heap}{a:_O}
theorem Jc{u:HO}(ok:iQ P w H h)(e:Rd H a u):cj P w H h a u:=e.ok ok
theorem vz{aD:List (cT×V)}(ok:iQ P w H h)(e:Rd H a (.dK aD)):aD.length<=sizeLine/\(a==sysModules)=false/\∃vs,KV aD vs/\h.DictOf (c_ P w) a vs:=
 show cj P w H h a (.dK aD)from Jc ok e
theorem Ox{aD:List (cT×V)}(ok:iQ P w H h)(e:H a=some (.dK aD)):aD.length<=sizeLine/\(a==sysModules)=false/\∃vs,KV aD vs/\h.DictOf (c_ P w) a vs:=vz ok (.inl e)
theorem mL{ks:List cT}(ok:iQ P w H h)(e:H a=some (.tup (ks.map kV))):(tupleKind (c_ P w)).is h ks a:=by
 obtain⟨_,aI,r,o,h1,h2,n,h3⟩:=(show cj P w H h a (.tup (ks.map kV))from ok a _ e)
 exact⟨o,aI.toArray,n,h1,h2,h3,by simpa using sf r⟩
theorem vA{aD:List (List cT×V)}(ok:iQ P w H h)(e:Rd H a (.dT aD)):aD.length<=sizeLine/\(a==sysModules)=false /\
  ∃xs,KT H aD xs/\h.DictOfH (tupleKind (c_ P w)) a xs:=by
 obtain⟨z,y,xs,r,o,es,ep,h1,h2,h3,h4,h5⟩:=(show cj P w H h a (.dT aD)from Jc ok e)
 refine⟨z,y,xs,r,o,es,ep,h1,h2,h3,h4,λx hx=>?_,h5⟩;have all:∀{l:List (List cT×V)}{m:List (List cT×_O×_M)},KT H l m->∀x∈m,(tupleKind (c_ P w)).is h x.1 x.2.1:=by
  intro l m q
  induction q with
  |nil=>intro x hx;exact nomatch hx
  | @cons p q ps qs hq t ih=>
   intro x hx;rcases VO.mp hx with e|hx
   .subst e;exact mL ok (by rw[<-hq.1];exact hq.2.1)
   .exact ih x hx
 exact all r x hx
theorem Jd{aD:List (List cT×V)}(ok:iQ P w H h)(e:H a=some (.dT aD)):aD.length<=sizeLine/\(a==sysModules)=false /\
  ∃xs,KT H aD xs/\h.DictOfH (tupleKind (c_ P w)) a xs:=vA ok (.inl e)
end
def nY(H:Hp)(a:_O)(y:V)(r:Option V):Prop:=
 (∃aD k,Rd H a (.dK aD)/\y=kV k/\r=iq aD k)\/∃aD k b,Rd H a (.dT aD)/\y=.ref b/\H b=some (.tup (k.map kV))/\r=iq aD k
def t8(H:Hp)(a:_O)(y v:V)(H':Hp):Prop:=
 (∃aD k,H a=some (.dK aD)/\y=kV k/\aD.length<sizeLine/\H'=upd H a (.dK (putK aD k v))) \/
 ∃aD k b,H a=some (.dT aD)/\y=.ref b/\H b=some (.tup (k.map kV))/\aD.length<sizeLine/\H'=upd H a (.dT (putK aD k v))
theorem nY.k{H:Hp}{a:_O}{aD:List (cT×V)}{k:cT}(e:H a=some (.dK aD)):nY H a (kV k) (iq aD k):=.inl ⟨aD,k,.inl e,rfl,rfl⟩
theorem nY.t{a b:_O}{aD:List (List cT×V)}{k:List cT}(e:H a=some (.dT aD))(eb:H b=some (.tup (k.map kV))):nY H a (.ref b) (iq aD k):=.inr ⟨aD,k,b,.inl e,rfl,eb,rfl⟩
theorem t8.k{H:Hp}{a:_O}{aD:List (cT×V)}{k:cT}{v:V}(e:H a=some (.dK aD))(hl:aD.length<sizeLine):t8 H a (kV k) v (upd H a (.dK (putK aD k v))):=.inl ⟨aD,k,e,rfl,hl,rfl⟩
theorem t8.t{a b:_O}{aD:List (List cT×V)}{k:List cT}{v:V}(e:H a=some (.dT aD))(eb:H b=some (.tup (k.map kV)))(hl:aD.length<sizeLine):
  t8 H a (.ref b) v (upd H a (.dT (putK aD k v))):=.inr ⟨aD,k,b,e,rfl,eb,hl,rfl⟩
section
variable{s:_N}{a:_O}{y v:V}{u r:_M}{o:Option V}{E:_D}
theorem aM.big(I:aM X ae σ H s):sysModules<s.heap.objs.size:=by have h:mainGlobals<s.heap.objs.size:=(I.mod.glob.keeps I.bk).lt;exact Nat.lt_trans ⋯ h
theorem A5(hu:A.units+1<cLine)(I:aM X ae σ H s)(g:nY H a y (some v))(ry:bD y u)(h:∀w' s',aM X ae σ H s'->bD v w'->Q w' s'):
  wpAny (model X.prog X.w) A (getItem (.ref a) u) Q E s:=by
 rcases g with⟨aD,k,e,ey,l⟩|⟨aD,k,b,e,ey,eb,l⟩
 .subst ey;obtain⟨z,hd,vs,rel,dd⟩:=vz I.b? e;obtain⟨w',hw,vo⟩:=k9.some_of (v:=v) (o:=valueAt vs k) (by rw[l];exact rel.val k);exact wpAny_getItem_of (zE ry) dd.mapOf hw (h w' _ (I.tok _) vo)
 .subst ey;cases(show u=Value.ref b from ry);obtain⟨z,hd,xs,rel,dd⟩:=vA I.b? e;obtain⟨w',hw,vo⟩:=k9.some_of (v:=v) (o:=(atKey xs k).map (·.2)) (by rw[l];exact rel.val k);obtain⟨p,hp,Nk⟩:=Option.map_eq_some_iff.mp hw;refine wpAny_getItem_heap (Yg hu) (mL I.b? eb) dd hp ?_;rw[Nk];exact h w' _ (I.tok _) vo
theorem t9{t':Nat}{ob:HO}(I:aM X ae σ H s)(mu:NJ (H a))(hs:Heap.SameBut a s.heap h')(he:∃q,h'.get? a=some q)(new:cj X.prog X.w (upd H a ob) h' a ob):
  aM X ae σ (upd H a ob) {s with heap:=h',toks:=t'}:=
 I.write (x:=a) (e:=a) mu (.inl rfl) (λb q hb z=>(hs.2 b hb).trans z) he new
theorem KH{aD:List (cT×V)}{vs:List (cT×_M)}(z:aD.length<=sizeLine)(hd:(a==sysModules)=false)(rel:KV aD vs)(dd:h'.DictOf (c_ P w) a vs):
  cj P w H' h' a (.dK aD):=⟨z,hd,vs,rel,dd⟩
theorem A6{Q:Unit->_N->Prop}(hu:A.units+1<cLine)(I:aM X ae σ H s)(g:t8 H a y v H')(ry:bD y u)(rv:bD v r)(h:∀s',aM X ae σ H' s'->Q () s'):
  wpAny (model X.prog X.w) A (setItem (.ref a) u r) Q E s:=by
 rcases g with⟨aD,k,e,ey,l,eH⟩|⟨aD,k,b,e,ey,eb,l,eH⟩
 .subst ey eH;obtain⟨z,hd,vs,rel,dd⟩:=Ox I.b? e;have hz:vs.length<=sizeLine:=by rw[<-rel.length];exact z
  have hl:(putK aD k v).length<=sizeLine:=by have:=ju aD k v;lia
  refine wpAny_setItem_pairs (hsz:=hz) (zE ry) dd λh' Nl hs=>h _ ?_;have he:∃q,h'.get? a=some q:=let⟨q,_,_,hq,_⟩:=Nl;⟨q,hq⟩
  exact t9 I (by rw[e];exact True.intro) hs he (KH hl hd (rel.put k rv) Nl)
 .subst ey eH;cases(show u=Value.ref b from ry);obtain⟨z,hd,xs,rel,dd⟩:=Jd I.b? e;have hz:xs.length<=sizeLine:=by rw[<-X_ rel];exact z
  have hl:(putK aD k v).length<=sizeLine:=by have:=ju aD k v;lia
  refine wpAny_setItem_heap (hsz:=hz) (Yg hu) (mL I.b? eb) dd λh' Nl hs=>h _ ?_;obtain⟨q,es,ep,hq,h2,h3,h4,_,h5⟩:=Nl;refine t9 I (by rw[e];exact True.intro) hs ⟨q,hq⟩ ⟨hl,hd,_,(rel.put k eb rv).keeps λc ys ec=>?_,q,es,ep,hq,h2,h3,h4,h5⟩;rw[a8 (IU ec e (λz=>nomatch z))];exact ec
end
def KI(i:Expr):Prop:=∀ov iv,subscripted i false ov iv=operate [ov,iv] (getItem ov iv)
theorem Gy{E:_D}{s:_N}{env:Env}{slice:Expr}{T id:String}(hl:typeLookup (.type T) "__getitem__" = pure (some (.builtin id)))(hs:KI slice)(h:wpAny (model prog w) A (eval value env) (λo s₁=>wpAny (model prog w) A (eval slice env) (λi s₂=>s₂.TypeIs o T/\wpAny (model prog w) A (getItem o i) Q E s₂) E s₁) E s):
  wpAny (model prog w) A (eval (.Subscript value slice pos) env) Q E s:=by
 refine Subscript_ (Wz h (λo s₁ h₁=>Wz h₁ (λi s₂ h₂=>?_) λ_ _ x=>x) λ_ _ x=>x);obtain⟨hT,h₂⟩:=h₂;unfold subscriptTail;refine Vp ?_;rw[getitemInPython_of_ne hT.not_modules];refine Vp (wpAny_specialOf hT hl ?_);have fin:wpAny (model prog w) A (subscripted slice false o i) (λr s₃=>wpAny (model prog w) A (letTemporaryGo value o r >>= λ_=>pure r) Q E s₃) E s₂:=by rw[hs o i];exact wpAny_operating (Wz h₂ (λr s₃ h₃=>Vp (wpAny_letTemporaryGo (Vr h₃))) λ_ _ x=>x)
 first
  |exact Vr (Vp fin)
  |exact Vp (Vr (Vp fin))
  |exact Vp fin
theorem vB{s:_N}{a:_O}{y:V}{o:Option V}(I:aM X ae σ H s)(g:nY H a y o):s.TypeIs (.ref a) "dict":=by
 rcases g with⟨aD,k,e,_,_⟩|⟨aD,k,b,e,_,_,_⟩
 .obtain⟨_,_,vs,_,dd⟩:=vz I.b? e;exact dd.typeIs
 .obtain⟨_,_,xs,_,dd⟩:=vA I.b? e;exact dd.typeIs
def Oy(td ty:TE):TE:=λσ H Q=>td σ H λx H1=>ty σ H1 λy H2=>∃a v,x=.ref a/\nY H2 a y (some v)/\Q v H2
def Oz(td ty tv:TE):TS:=λD σ H=>tv σ H λv H1=>td σ H1 λx H2=>ty σ H2 λy H3=>∃a H4,x=.ref a/\t8 H3 a y v H4/\D.nx σ H4
section
variable{o i e:Expr}{ty tv:TE}
theorem Gz(hu:X.A.units+1<cLine)(ho:PE X o td)(hi:PE X i ty)(hs:KI i):PE X (.Subscript o i pos) (Oy td ty):=by intro ae s σ H Q I h;refine Gy PySem.F.slot_dict_getitem.lookup hs (dA (ho ae s σ H _ I h) λu s1⟨x,H1,I1,rx,q1⟩=>dA (hi ae s1 σ H1 _ I1 q1) λiv s2⟨y,H2,I2,ry,a,v,ex,g,q2⟩=>?_);subst ex;obtain rfl:u=Value.ref a:=rx;exact⟨vB I2 g,A5 hu I2 g ry λw' s3 I3 vo=>⟨v,H2,I3,vo,q2⟩⟩
theorem GA(hu:X.A.units+1<cLine)(ho:PE X o td)(hi:PE X i ty)(hv:PE X value tv)(hs:swapsWith value (some (.Subscript o i pos')) pos.line X.env=pure false):
  PS X (.Assign [.Subscript o i pos'] value pos) (Oz td ty tv):=by
 intro ae s σ H D I h;refine wpAny_Assign_Subscript (dA (hv ae s σ H _ I h) λr s1⟨v,H1,I1,rv,q1⟩=>dA (ho ae s1 σ H1 _ I1 q1) λu s2⟨x,H2,I2,rx,q2⟩=>dA (hi ae s2 σ H2 _ I2 q2) λiv s3⟨y,H3,I3,ry,a,H4,ex,g,q3⟩=>?_) hs;subst ex;obtain rfl:u=Value.ref a:=rx;exact A6 hu I3 g ry rv λs4 I4=>⟨σ,H4,I4,q3⟩
end
theorem C2(h:Heap)(hb:sysModules<h.objs.size):cj P w H (h.push {cls:=.type "dict",data:=.dict #[]}) h.objs.size (.dT []):=
 ⟨WN _,V6.mpr (WE (VX hb)),[],.nil,_,#[],0,VI _ rfl,⟨rfl,rfl,rfl⟩,rfl,rfl,Z8⟩
def KJ:TE:=λ_ H Q=>∀p,H p=none->Q (.ref p) (upd H p (.dT []))
theorem C3:PE X (.Dict [] [] pos) KJ:=λae s σ H Q I h=>
 wpAny_Dict_empty ⟨.ref s.heap.objs.size,_,I.laid (a:=s.heap.objs.size) (o:=.dT []) (t':=s.toks) (λ_ _ q=>Vq _ q) (Vy _) (C2 s.heap I.big),rfl,h _ (I.b?.fresh (Vy _))⟩
structure M1(X:Cx)(o:Expr)(m:Str)(apos:Pos)(e:Expr)(bM:Pos):Prop where
 base:attributeBase o m X.env (eval o X.env)=eval o X.env
 R_:((backTo bM (starEach [e] X.env)).all (λx => !x.1)&&(backToKw bM (keywordEach [] X.env)).all (λx=>x.1.isSome)
  && decide (([e]:List Expr).length+([]:List Keyword).length+(if([]:List Keyword).isEmpty then 0 else 1)<30))=true
 line:(apos.endLine==bM.line)=true
 trees:backTo bM (starEach [e] X.env)=[(false,eval e X.env)]
structure M2(X:Cx)(o:Expr)(m:Str)(apos:Pos)(e f:Expr)(bM:Pos):Prop where
 base:attributeBase o m X.env (eval o X.env)=eval o X.env
 R_:((backTo bM (starEach [e,f] X.env)).all (λx => !x.1)&&(backToKw bM (keywordEach [] X.env)).all (λx=>x.1.isSome)
  && decide (([e,f]:List Expr).length+([]:List Keyword).length+(if([]:List Keyword).isEmpty then 0 else 1)<30))=true
 line:(apos.endLine==bM.line)=true
 trees:backTo bM (starEach [e,f] X.env)=[(false,eval e X.env),(false,eval f X.env)]
def OA(H:Hp)(a:_O):Prop:=(∃aD,Rd H a (.dK aD))\/∃aD,Rd H a (.dT aD)
theorem C4{s:_N}{a:_O}(I:aM X ae σ H s)(d:OA H a):
  s.TypeIs (.ref a) "dict" /\ (∀b,Value.ref a=.ref b->∃ob,s.heap.get? b=some ob/\ob.dict=none)/\(a==sysModules)=false:=by
 rcases d with⟨aD,e⟩|⟨aD,e⟩
 .obtain⟨_,hd,vs,_,dd⟩:=vz I.b? e;refine⟨dd.typeIs,λb q=>?_,hd⟩;cases q;obtain⟨ob,_,_,h1,h2,_⟩:=dd;exact⟨ob,h1,h2.2.1⟩
 .obtain⟨_,hd,xs,_,dd⟩:=vA I.b? e;refine⟨dd.typeIs,λb q=>?_,hd⟩;cases q;obtain⟨ob,_,_,h1,h2,_⟩:=dd;exact⟨ob,h1,h2.2.1⟩
section
variable{s:_N}{a:_O}{y d:V}{u r:_M}{o:Option V}{E:_D}
theorem KL(hu:A.units+1<cLine)(I:aM X ae σ H s)(g:nY H a y o)(ry:bD y u)(rd:bD d r)(h:∀w' s',aM X ae σ H s'->bD (o.getD d) w'->Q w' s'):
  wpAny (model X.prog X.w) A (call (.builtin "dict.get") [.ref a,u,r]) Q E s:=by
 rcases g with⟨aD,k,e,ey,l⟩|⟨aD,k,b,e,ey,eb,l⟩
 .subst ey;obtain⟨z,hd,vs,rel,dd⟩:=vz I.b? e;refine Y? Yq dd.typeIs Zs (Zl _ _ _) (meets_dict_get_default (c_ X.prog X.w) a (zE ry) hd r) ⟨_,dd.mapOf,h _ _ (I.tok _) ?_⟩;rw[l];exact(rel.val k).getD rd
 .subst ey;cases(show u=Value.ref b from ry);obtain⟨z,hd,xs,rel,dd⟩:=vA I.b? e;refine Y? Yq dd.typeIs Zs (Zl _ _ _) (meetsH_dict_get_default (tupleKind (c_ X.prog X.w)) a b hd r) ⟨Yg hu,k,xs,mL I.b? eb,dd,h _ _ (I.tok _) ?_⟩;rw[l];exact(rel.val k).getD rd
end
def KN(td ty tx:TE):TE:=λσ H Q=>td σ H λx H1=>∃a,x=.ref a/\OA H1 a/\ty σ H1 λy H2=>tx σ H2 λz H3=>∃o,nY H3 a y o/\Q (o.getD z) H3
section
variable{o e f:Expr}{ty tx:TE}
theorem C5(hu:X.A.units+1<cLine)(ho:PE X o td)(he:PE X e ty)(hf:PE X f tx)(m:M2 X o "get" apos e f bM):PE X (.Call (.Attribute o "get" apos) [e,f] [] bM) (KN td ty tx):=by
 intro ae s σ H Q I h;refine wpAny_Call_method m.base m.R_ m.line Zk Yq PySem.F.type_dict_get (dA (ho ae s σ H _ I h) λu s1⟨x,H1,I1,rx,a,ex,d,q1⟩=>?_);subst ex;obtain rfl:u=Value.ref a:=rx;obtain⟨t1,t2,_⟩:=C4 I1 d;refine⟨t1,t2,?_⟩;rw[m.trees];refine YE rfl (X' (Yi (dA (he ae s1 σ H1 _ I1 q1) λiv s2⟨y,H2,I2,ry,q2⟩=>
  Yi (dA (hf ae s2 σ H2 _ I2 q2) λfv s3⟨z,H3,I3,rz,ov,g,q3⟩=>Y' ?_))))
 exact KL hu I3 g ry rz λw' s4 I4 vo=>⟨_,H3,I4,vo,q3⟩
end
theorem mJ.upd{H H':Hp}{p:_O}{o:HO}(e:mJ H H')(h:H' p=none):mJ H (upd H' p o):=λb u q=>by rw[a8 (bc (e b u q) h)];exact e b u q
def ic(k:Nat)(i:Int):Prop:=i.natAbs<2 ^ k
theorem ic.bits{k:Nat}{i:Int}(h:ic k i):Builtin.Int.intBits i<=k:=by
 unfold Builtin.Int.intBits;by_cases hz:(i==0)=true
 .rw[VA hz];exact WN _
 .rw[VL hz];have h0:i.natAbs≠0:=by intro e;apply hz;have:i=0:=Z!.mp e;simp[this]
  have:=(X1 h0).mpr h;lia
theorem ic.mono{j k:Nat}{i:Int}(h:ic j i)(hk:j<=k):ic k i:=VG h (X0 ⋯ hk)
theorem ic.le{k:Nat}{i:Int}(h:ic k j)(e:i.natAbs<=j.natAbs):ic k i:=Z6 e h
theorem ic.mul{j k:Nat}{x y:Int}(h1:ic j x)(h2:ic k y):ic (j+k) (x*y):=by show(x*y).natAbs<2 ^ (j+k);rw[Int.natAbs_mul,Nat.pow_add];exact Nat.mul_lt_mul'' h1 h2
def zF(i j:Int):Prop:=∃a b,ic a i/\ic b j/\a<=2 ^ 20/\b<=2 ^ 20
theorem zF.ok{i:Int}(h:zF i j):IntMulOk i j:=by obtain⟨a,b,h1,h2,h3,h4⟩:=h;exact IntMulOk.of_bits (V7 h1.bits h3) (V7 h2.bits h4)
def zG(i j:Int):Prop:=j≠0/\ic 9000 j
theorem zG.ok{i:Int}(h:zG i j):Builtin.divisionGoesByPylong i j=false:=
 PyProof.noPylong_of_log2 ((X1 (by intro e;exact h.1 (Z!.mp e))).mpr h.2)
theorem GB:dN X (binaryOp .Mult) (rI zF λi j=>.int (i*j)):=N5 λ_ _ _ _ _ _ _ hc q=>PyProof.Rows.mul_int q hc.ok
theorem C6:dN X (binaryOp .FloorDiv) (rI zG λi j=>.int (i.fdiv j)):=N5 λ_ _ _ _ _ _ _ hc q=>floordiv_int hc.1 q (.inl hc.ok)
def vf(X:Cx)(ifs:List Expr)(t:TT):Prop:=
 ∀(ae:_F)(s:_N)(σ:St)(H:Hp)(Q:Bool->Hp->Prop),aM X ae σ H s->t σ H Q ->
  wpAny (model X.prog X.w) X.A (forIn ifs true λc r=>if r=true then do let ok <- isTrue c X.env (eval c X.env);pure (ForInStep.yield ok)else pure (ForInStep.yield r)) (TP X ae σ Q) X.xe s
def OB:TT:=λ_ H Q=>Q true H
theorem zH:vf X [] OB:=λ_ _ _ H _ I h=>wpAny_tests_nil ⟨H,I,h⟩
theorem GC{c:Expr}{t:TT}(h:PT X c t):vf X [c] t:=λae s σ H Q I hw=>wpAny_tests_one (h ae s σ H Q I hw)
theorem iQ.OC{h:Heap}{a:_O}{o:HO}(x:iQ P w H h)(hn:H a=none)(new:cj P w (upd H a o) h a o):iQ P w (upd H a o) h:=λb u e=>by
 by_cases hb:b=a
 .subst hb;rw[cg]at e;cases e;exact new
 .rw[a8 hb]at e;exact(x b u e).k_ (λc v _ q=>q) (λc q=>by rw[a8 (bc q hn)];exact q) λc xs q=>by rw[a8 (bc q hn)];exact q
def pB(X:Cx)(N:_L)(scope:Scope)(cl:List (Str×_O))(C:_O)(fp:_K)(s:_N)(H:Hp):Cx:=
 {X with N:=N,s₀:=s,H₀:=H,env:=compEnvC scope cl C X.env,outer:=X.stack,stack:=X.stack,ex:=fp,fn:=λ_=>false,pn:=[],xe:=λ_ _=>False}
def j8(k:Nat)(caps:List Nat)(σ:St):St:=List.replicate k none++caps.map λj=>(σ[j]?).getD none
structure pC(X:Cx)(N:_L)(scope:Scope)(cl:List (Str×_O))(k:Nat)(caps:List Nat):Prop where
 jv:closureFor scope X.env=pure cl
 sub:∀x c,cl.lookup x=some c->X.env.cells.lookup x=some c
 has:∀x,((relabel scope X.env).names.lookup x=some .cell\/(relabel scope X.env).names.lookup x=some .free)->∃c,cl.lookup x=some c
 gT:∀x∈scope.names,x.2≠.cell
 kind:scope.kind=.function
 names:∀x∈scope.names,x.2=.local->scope.names.lookup x.1=some .local
 len:N.length=k+caps.length
 at_:∀i j x,caps[i]?=some j->N[k+i]?=some x->X.N[j]?=some x/\(X.env.kindOf x=some .cell\/X.env.kindOf x=some .free)/\((relabel scope X.env).names.lookup x=some .cell\/(relabel scope X.env).names.lookup x=some .free)
def pD(J:It)(k:Nat)(caps:List Nat)(g:TG)(tt:TT)(te:TE)(σ:St)(H1:Hp)(Q:VK):Prop:=
 ∃W:Nat->Nat->List V->St->Hp->Prop,(∃m,W 0 m [] (j8 k caps σ) H1)/\∀i m ys τ H,W i m ys τ H ->
  (J.stop i H/\ys.length<=sizeLine/\∀p,H p=none->Q (.ref p) (upd H p (.lst ys))) \/
  (J.go i H/\ys.length<sizeLine/\∀x H',J.Ni i H x H'->g x τ H' λτ2 H2=>tt τ2 H2 λb H3=>if b=true then te τ2 H3 λy H4=>∃m',m'<m/\W (i+1) m' (ys++[y]) τ2 H4 else ∃m',m'<m/\W (i+1) m' ys τ2 H3)
@[irreducible] def lF(k:Nat)(caps:List Nat)(wi:TI)(g:TG)(tt:TT)(te:TE):TE:=λσ H Q=>wi σ H λJ H1=>pD J k caps g tt te σ H1 Q
theorem C7{k:Nat}{g:TG}{Q:VK}(h:wi σ H λJ H1=>pD J k caps g tt te σ H1 Q):lF k caps wi g tt te σ H Q:=by unfold lF;exact h
theorem mM{k:Nat}{g:TG}{Q:VK}(h:lF k caps wi g tt te σ H Q):wi σ H λJ H1=>pD J k caps g tt te σ H1 Q:=by unfold lF at h;exact h
section
variable{s:_N}
theorem zI{k:Nat}{σ:St}{v:V}(h:(j8 k caps σ)[i]?=some (some v)):∃j,k<=i/\caps[i-k]?=some j/\σ[j]?=some (some v):=by
 unfold j8 at h;by_cases hi:i<k
 .rw[V4 (by simpa using hi),Xo]at h;split at h<;>cases h
 .rw[VN (by simpa using YX hi),Wn,VV]at h;cases e:caps[i-k]? with
  |none=>rw[e]at h;cases h
  |some j=>
   rw[e]at h;refine⟨j,YX hi,rfl,?_⟩;have h':(σ[j]?).getD none=some v:=by simpa using h
   cases q:σ[j]? with
   |none=>rw[q]at h';cases h'
   |some o=>rw[q]at h';exact Xc some h'
theorem aM.block{scope:Scope}{k:Nat}{t':Nat}{m':_E}(I:aM X ae σ H s)(B:pC X N scope cl k caps)(hf:∀b∈fp,j7 X ae H b)(hC:s.heap.objs.size<=C)(Co:∀b∈fp,∃o,s.heap.get? b=some o)(kp:∀b o,s.heap.get? b=some o->h'.get? b=some o)(ns:h'.Ns C m'):aM (pB X N scope cl C fp s H) [] (j8 k caps σ) H {s with heap:=h',toks:=t'}:=by
 have below:∀{b:_O}{o:Obj},s.heap.get? b=some o->b≠C:=λe=>VX (VG (Vz e) hC);have zJ:∀x c,cl.lookup x=some c->∃v,s.heap.IsCell c v:=λx c e=>I.cell x c (B.sub x c e);refine⟨⟨I.ok.mod,?_,I.ok.glob,I.ok.blt,hC,λx y c h1 h2=>I.ok.inj x y c (B.sub x c h1) (B.sub y c h2),λx hx=>B.has x hx,λx c h1 _=>?_,I.ok.hd,I.ok.frames,.inl rfl,λb hb=>⟨?_,λx c e=>?_⟩,I.bs,V7 I.ok.Cv I.sz,λb o e hb=>?_,λb hb=>?_,I.stack,I.oK⟩,
  rfl,I.bare,Un.kept kp,⟨m',ns,λi x v h1 h2 h3=>?_⟩,λx c e=>?_,?_,λx c e=>I.gA x c (B.sub x c e),λp hp=>absurd (show p∈([]:_F)from hp) (by simp),I.b?.kept kp,?_⟩
 .exact B.kind
 .exact absurd h1 (by simp[pB])
 .obtain⟨o,e⟩:=Co b hb;exact below e
 .exact(hf b hb).2.2.2.2.1 x c (B.sub x c e)
 .obtain⟨_,_,_,h4,_⟩:=hf b hb;rcases h4 with z|z
  .exact I.ok.tH b o e z
  .exact absurd (VG (Vz (I.ok.bs b o e).1) z) (V9 _)
 .intro z;rcases VO.mp (I.kz b z)with e|e
  .exact(hf b hb).2.1 e
  .exact(hf b hb).2.2.1 e
 .obtain⟨j,hk,hj,hσ⟩:=zI h2;have hN:N[k+(i-k)]?=some x:=by rw[ZV hk];exact h1
  obtain⟨a1,a2,a3⟩:=B.at_ (i-k) j x hj hN;obtain⟨m,hn,hl⟩:=I.loc;have R!:FE X.env.scope x:=by
   rcases a2 with z|z
   .exact .inr (.inl z)
   .exact .inr (.inr z)
  obtain⟨u,r,l⟩:=hl j x v a1 hσ R!;refine⟨u,r,.inr ⟨a3,?_⟩⟩;rcases l with⟨z,_⟩|⟨_,c,e,cc⟩
  .rcases a2 with y|y<;>(rw[z]at y;cases y)
  .obtain⟨c',e'⟩:=B.has x a3;have:X.env.cells.lookup x=some c':=B.sub x c' e';rw[e]at this;cases this;obtain⟨o,ho,hd⟩:=cc;exact⟨c,e',o,kp c o ho,hd⟩
 .obtain⟨v,o,ho,hd⟩:=zJ x c e;exact⟨v,o,kp c o ho,hd⟩
 .exact I.b?.fresh hC
 .show(j8 k caps σ).length=N.length;unfold j8;rw[VC,Wn,Vs,B.len]
def pE(X:Cx)(ae:_F)(σ:St)(s:_N)(Q:VK)(acc:_M)(C:_O)(s':_N):Prop:=
 ∃D H',acc=.ref D/\s.heap.objs.size<=C/\aM X ae σ H' s'/\H' C=none/\(∃m,s'.heap.Ns C m)/\Q (.ref D) H'
structure C8(C:Cx->Prop)(P:_Q)(w:World)(K:_G)(tg:Expr)(J:It)(fp:_K)(it:_O)(tn:Nat->Heap->Prop):Prop where
 obj:∀i h,tn i h->∀b∈fp,∃o,h.get? b=some o/\∀v,o.data≠.cell v
 keep:∀i h h',tn i h->(∀b∈fp,∀o,h.get? b=some o->h'.get? b=some o)->tn i h'
 item:∀(X:Cx),X.prog=P->X.w=w->X.K=K->C X->∀(i:Nat)(ae:_F)(s:_N)(σ:St)(H:Hp)(E:_D),aM X ae σ H s->(∀b∈fp,j7 X ae H b)->tn i s.heap->J.go i H ->
  wpAny (model P w) X.A (pyNext (.ref it)) (λr s1=>∃u,r=some u/\wpAny (model P w) X.A (letOwnedTupleGo tg (.ref it) u) (λ_ s2=>∃x H',aM X ae σ H' s2/\bD x u/\J.Ni i H x H'/\tn (i+1) s2.heap/\∀b∈fp,H' b=none) E s1) E s
 done:∀(X:Cx),X.prog=P->X.w=w->X.K=K->C X->∀(i:Nat)(ae:_F)(s:_N)(σ:St)(H:Hp)(E:_D),aM X ae σ H s->(∀b∈fp,j7 X ae H b)->tn i s.heap->J.stop i H ->
  wpAny (model P w) X.A (pyNext (.ref it)) (λr s1=>r=none/\aM X ae σ H s1) E s
 self:∀(A:_P)(i:Nat)(s:_N)(Q:_D)(E:_D),tn i s.heap->Q (.ref it) s->wpAny (model P w) A (pyIter (.ref it)) Q E s
theorem Turn.c{K:_G}(T:Turn P w K tg J fp it tn):C8 (λX=>X.calm=true) P w K tg J fp it tn:=⟨T.obj,T.keep,T.item,T.done,T.self⟩
def QF(X:Cx)(N:_L)(scope:Scope)(cl:List (Str×_O))(C:_O)(fp:_K)(s:_N)(H:Hp)(xe:_O->_M->_N->Prop):Cx:={pB X N scope cl C fp s H with xe:=xe C}
theorem aM.xe{X:Cx}{ae:_F}{σ:St}{H:Hp}{s:_N}(I:aM X ae σ H s)(x:_D):aM {X with xe:=x} ae σ H s:=by obtain⟨⟨o1,o2,o3,o4,o5,o6,o7,o8,o9,o10,o11,o12,o13,o14,o15,o16,o17,o18⟩,i2,i3,i4,i5,i6,i7,i8,i9,i10,i11⟩:=I;exact⟨⟨o1,o2,o3,o4,o5,o6,o7,o8,o9,o10,o11,o12,o13,o14,o15,o16,o17,o18⟩,i2,i3,i4,i5,i6,i7,i8,i9,i10,i11⟩
def KO(X:Cx)(fp:_K)(C:_O)(s:_N)(H:Hp):Prop:=∃ae σ,aM X ae σ H s/\(∀b∈fp,j7 X ae H b)/\s.heap.objs.size<=C
theorem KP{M:Model}{m:Sem α}{Q Q':α->_N->Prop}{E E':_D}{s:_N}(he:∀x s',E x s'->E' x s')(h:wpAny M A m Q E s)(k:∀a s',Q a s'->Q' a s'):wpAny M A m Q' E' s:=Wz h k he
theorem qZ{s:_N}{target:Expr}{scope:Scope}{it acc:_M}{env:Env}{R:Result->_N->Prop}(I:Nat->_N->Prop)
  (turn:∀ n s,I n s->wpAny (model prog w) A (pyNext it) (λr s₁=>match r with
   |none=>R (.ok .next) s₁
   |some v=>wpAny (model prog w) A (letOwnedTupleGo target it v) (λ_ Je=>wpAny (model prog w) A (assign target env v) (λ_ s₂=>
     wpAny (model prog w) A (forIn ifs true λc r=>if r=true then do let ok <- isTrue c env (eval c env);pure (ForInStep.yield ok)else pure (ForInStep.yield r)) (λok s₃=>
      if ok=true then wpAny (model prog w) A (eval elt env) (λx s₄=>
       wpAny (model prog w) A (call (.builtin "list.append") [acc,x]) (λ_ s₅=>∃m,m<n/\I m s₅) (notedBy (model prog w) A env λx s'=>R (.error x) s') s₄) (notedBy (model prog w) A env λx s'=>R (.error x) s') s₃
      else ∃m,m<n/\I m s₃) (notedBy (model prog w) A env λx s'=>R (.error x) s') s₂) (notedBy (model prog w) A env λx s'=>R (.error x) s') Je) (notedBy (model prog w) A env λx s'=>R (.error x) s') s₁) (notedBy (model prog w) A env λx s'=>R (.error x) s') s)
  (n:Nat) (h:I n s):codeAny (model prog w) A (.compLoop (.ListComp elt [⟨target,iter,ifs,0⟩] scope pos) 0 it acc env) R s:=by
 refine codeAny_loop rfl I (λn s hI=>?_) n h;show wpAny _ A ((compTurn (.ListComp elt [⟨target,iter,ifs,0⟩] scope pos) 0 it acc env).onRaise (λx=>do noteFrame x env;theTreesLotGoes x)) _ _ s;refine wpAny_noted ?_;rw[compTurn_list];refine Vp (ZW (Vp (Wz (turn n s hI) (λr s₁ h₁=>?_) λ_ _ h'=>h')));cases r with
 |none=>exact Vr h₁
 |some v=>
  refine Vp (Wz h₁ (λ_ Je OD=>?_) λ_ _ h'=>h');refine Vp (Wz OD (λ_ s₂ h₂=>Vp (Wz h₂ (λok s₃ h₃=>?_) λ_ _ h'=>h')) λ_ _ h'=>h');cases ok with
  |false=>exact Vr ⟨rfl,h₃⟩
  |true=>exact Vp (Vp (Wz h₃ (λx s₄ h₄=>Vp (Wz h₄ (λ_ s₅ h₅=>Vr (Vr ⟨rfl,h₅⟩)) λ_ _ h'=>h')) λ_ _ h'=>h'))
def KQ(X:Cx)(N:_L)(scope:Scope)(cs:List (Str×_O))(C:_O)(fp:_K)(s:_N)(H:Hp)(xe:_O->_M->_N->Prop)(fn:Str->Bool):Cx:={pB X N scope cs C fp s H with xe:=xe C,fn:=fn}
theorem sh{scope:Scope}{cs:List (Str×_O)}{k:Nat}{g:TG}{Q:VK}{RR:_M->Env->Result->_N->Prop}{xe:_O->_M->_N->Prop}{Cd:Cx->Prop}{fn:Str->Bool}{h₁:Heap}{tk:Nat}(hc:Cd (KQ X N scope cs C fp s H xe fn))(hg:PG (KQ X N scope cs C fp s H xe fn) tg g)(hi:vf (KQ X N scope cs C fp s H xe fn) ifs tt)(he:PE (KQ X N scope cs C fp s H xe fn) elt te)(I:aM X ae σ H s)(T:C8 Cd X.prog X.w X.K tg J fp it tn)(st:tn 0 s.heap)(hf:∀b∈fp,j7 X ae H b)(h:pD J k caps g tt te σ H Q)(I0:aM (KQ X N scope cs C fp s H xe fn) [] (j8 k caps σ) H {s with heap:=h₁,toks:=tk})(hC:C=s.heap.objs.size+1)(xO:h₁.get? s.heap.objs.size=some {cls:=.type "list",data:=.seq ([]:_I).toArray 0})(old:∀b o,s.heap.get? b=some o->h₁.get? b=some o)(cD:∀x c,cs.lookup x=some c->c≠s.heap.objs.size)(cF:∀b∈fp,∀x c,cs.lookup x=some c->c≠b)(OE:∀acc s',pE X ae σ s Q acc C s'->RR acc (compEnvC scope cs C X.env) (.ok .next) s')(mon:∀acc x s',xe C x s'->notedBy (model X.prog X.w) X.A (compEnvC scope cs C X.env) (λx s'=>RR acc (compEnvC scope cs C X.env) (.error x) s') x s'):
  codeAny (model X.prog X.w) X.A (.compLoop (.ListComp elt [⟨tg,iter,ifs,0⟩] scope pos) 0 (.ref it) (.ref s.heap.objs.size) (compEnvC scope cs C X.env)) (RR (.ref s.heap.objs.size) (compEnvC scope cs C X.env)) {s with heap:=h₁,toks:=tk}:=by
 obtain⟨W,⟨m0,w0⟩,turn⟩:=h;have FJ:s.heap.objs.size<=C:=by rw[hC];exact XH _
 have OF:s.heap.objs.size≠C:=by rw[hC];exact VX (Xd _)
 have R?:=T.obj 0 _ st;have Co:∀b∈fp,∃o,s.heap.get? b=some o:=λb hb=>let⟨o,e,_⟩:=R? b hb;⟨o,e⟩
 have UO:∀b∈fp,b≠s.heap.objs.size:=λb hb z=>by obtain⟨o,e⟩:=Co b hb;exact absurd (Vz e) (by rw[z];exact V9 _)
 have hD0:H s.heap.objs.size=none:=I.b?.fresh (Vy _);have vC:tn 0 h₁:=T.keep 0 _ _ st λb _ o e=>old b o e;have Sa:∀b∈gy X.stack,b≠s.heap.objs.size:=λb hb z=>by obtain⟨_,o,ho,_⟩:=I.stack.mem hb;exact absurd (Vz ho) (by rw[z];exact V9 _)
 generalize xB:KQ X N scope cs C fp s H xe fn=XB;have eP:XB.prog=X.prog:=by rw[<-xB];rfl
 have eW:XB.w=X.w:=by rw[<-xB];rfl
 have eK:XB.K=X.K:=by rw[<-xB];rfl
 have eA:XB.A=X.A:=by rw[<-xB];rfl
 have eE:XB.env=compEnvC scope cs C X.env:=by rw[<-xB];rfl
 have eL:XB.env.locals=C:=by rw[eE];rfl
 have eF:XB.fs=gy X.stack:=by rw[<-xB];rfl
 have eX:XB.ex=fp:=by rw[<-xB];rfl
 have eN:XB.pn=[]:=by rw[<-xB];rfl
 have e0:XB.s₀=s:=by rw[<-xB];rfl
 have eC:Cd XB:=by rw[<-xB];exact hc
 have UP:XB.env.cells=cs:=by rw[eE];rfl
 have Sb:XB.xe=xe C:=by rw[<-xB];rfl
 have mon:=mon (.ref s.heap.objs.size);have qU:PG XB tg g:=by rw[<-xB];exact hg
 have C9:vf XB ifs tt:=by rw[<-xB];exact hi
 have OG:PE XB elt te:=by rw[<-xB];exact he
 rw[xB]at I0
 -- Ck Jf pinned
 have Sd:∀{τ:St}{H':Hp}{s':_N}{aI:_I}{nn:Nat},aM XB [] τ H' s'->s'.heap.get? s.heap.objs.size=some {cls:=.type "list",data:=.seq aI.toArray nn}->H' s.heap.objs.size=none ->
   aM XB [(s.heap.objs.size,{cls:=.type "list",data:=.seq aI.toArray nn})] τ H' s':=λ{τ H' s' aI nn}J hd hn=>J.oM λp hp=>by
  obtain rfl:p=_:=VZ.mp hp;refine⟨hd,hn,by rw[eL];exact OF,by rw[eF];exact λz=>Sa _ z rfl,λv z=>?_⟩;have z':Data.seq aI.toArray nn=Data.cell v:=z;cases z'
 have xF:∀{H':Hp}{o:Obj},(∀b∈fp,H' b=none)->∀b∈fp,j7 XB [(s.heap.objs.size,o)] H' b:=λ{H' o}hn b hb=>by
  obtain⟨_,f1,f2,f3,f4,f5⟩:=hf b hb;refine⟨hn b hb,?_,?_,.inl (by rw[eX];exact hb),λx c e=>cF b hb x c (by rw[<-UP];exact e),λp hp=>?_⟩
  .rw[eL];obtain⟨o,e⟩:=Co b hb;exact VX (VG (Vz e) FJ)
  .rw[eF];intro z;rcases VO.mp (I.kz b z)with e|e
   .exact f1 e
   .exact f2 e
  .rw[eN]at hp;obtain rfl:p=_:=VZ.mp (by simpa using hp);exact WE (UO b hb)
 refine qZ (λn s'=>∃i ys aI nn τ H',aM XB [] τ H' s'/\s'.heap.get? s.heap.objs.size=some {cls:=.type "list",data:=.seq aI.toArray nn}/\H' s.heap.objs.size=none/\bw ys aI/\tn i s'.heap/\(∀b∈fp,H' b=none)/\W i n ys τ H') ?_ m0
  ⟨0,[],[],0,j8 k caps σ,H,I0,xO,hD0,.nil,vC,λb hb=>(hf b hb).1,w0⟩
 rintro n s3 ⟨i,ys,aI,nn,τ,H3,I3,Se,hn3,QG,nV,NZ,w3⟩;have UQ:=Sd I3 Se hn3;rcases turn i n ys τ H3 w3 with⟨stop,hz,qn⟩|⟨go,hz,step⟩
 .have D1:=T.done XB eP eW eK eC i _ s3 τ H3 (notedBy (model X.prog X.w) X.A (compEnvC scope cs C X.env) λx s'=>RR (.ref s.heap.objs.size) (compEnvC scope cs C X.env) (.error x) s') UQ (xF NZ) nV stop;rw[eA]at D1;refine dA D1 λr s4⟨hr,I4⟩=>?_;subst hr;refine OE _ s4 ?_;obtain⟨pd,OH,_⟩:=I4.pin (s.heap.objs.size,{cls:=.type "list",data:=.seq aI.toArray nn}) (by rw[eN];exact Wg _ (VZ.mpr rfl));have C!:Un (gy X.stack) fp H H3 s.heap s4.heap:=by have:=I4.base;rw[<-xB]at this;exact this
  have new:cj X.prog X.w (upd H3 s.heap.objs.size (.lst ys)) s4.heap s.heap.objs.size (.lst ys):=⟨hz,aI,nn,QG,pd⟩
  have Sf:iQ X.prog X.w H3 s4.heap:=by have:=I4.b?;rw[eP,eW]at this;exact this
  have b?:iQ X.prog X.w (upd H3 s.heap.objs.size (.lst ys)) s4.heap:=Sf.OC OH new;have os4:s4.os=s.os:=by have:=I4.os;rw[e0]at this;exact this
  have un:Un (gy X.stack) fp H (upd H3 s.heap.objs.size (.lst ys)) s.heap s4.heap:=
   ⟨C!.keep,C!.slot,λb o e n hx=>by rw[a8 (VX (Vz e))];exact C!.free b o e n hx,C!.there,
    λb xs e=>by rw[a8 (bc (C!.ky b xs e) OH)];exact C!.ky b xs e,λb o u e=>by rw[a8 (bc (C!.j6 b o u e) OH)];exact C!.j6 b o u e,
    λb ps e=>by
     obtain⟨more,q⟩:=C!.k! b ps e;exact⟨more,by rw[a8 (bc q OH)];exact q⟩⟩
  have I5:aM X ae σ (upd H3 s.heap.objs.size (.lst ys)) s4:=I.rY os4 un b? I4.bare λb hb=>⟨(hf b hb).2.2.2.1,(hf b hb).2.1,(hf b hb).2.2.2.2.1,(hf b hb).2.2.2.2.2⟩
  have hC4:H3 C=none:=by have:=I4.free;rw[eL]at this;exact this
  refine⟨s.heap.objs.size,_,rfl,FJ,I5,by rw[a8 (WE OF)];exact hC4,?_,qn _ OH⟩;obtain⟨m4,UR,_⟩:=I4.loc;rw[eL]at UR;exact⟨m4,UR⟩
 .have D1:=T.item XB eP eW eK eC i _ s3 τ H3 (notedBy (model X.prog X.w) X.A (compEnvC scope cs C X.env) λx s'=>RR (.ref s.heap.objs.size) (compEnvC scope cs C X.env) (.error x) s') UQ (xF NZ) nV go;rw[eA]at D1;refine dA D1 λr s4⟨u,hr,h4⟩=>?_;subst hr;refine dA h4 λ_ s5⟨x,H5,I5,r5,y5,Kb,RG⟩=>?_;have RH:=I5.pinned (xF RG) (T.obj _ _ Kb);have G:=qU _ s5 τ H5 x u _ RH r5 (step x H5 y5);rw[eP,eW,eA,eE,Sb]at G;refine KP mon G λ_ s6⟨τ6,H6,I6,q6⟩=>?_;have G2:=C9 _ s6 τ6 H6 _ I6 q6;rw[eP,eW,eA,eE,Sb]at G2;refine KP mon G2 λok s7⟨H7,I7,q7⟩=>?_
  -- J? Ck ae give back
  have back:∀{τ8:St}{H8:Hp}{s8:_N},aM XB ([(s.heap.objs.size,({cls:=.type "list",data:=.seq aI.toArray nn}:Obj))]++ph fp s5.heap) τ8 H8 s8 ->
    aM XB [] τ8 H8 s8/\s8.heap.get? s.heap.objs.size=some {cls:=.type "list",data:=.seq aI.toArray nn}/\H8 s.heap.objs.size=none/\tn (i+1) s8.heap/\∀b∈fp,H8 b=none:=λ{τ8 H8 s8}J=>by
   obtain⟨p1,p2,_⟩:=J.pin (s.heap.objs.size,{cls:=.type "list",data:=.seq aI.toArray nn}) (Wg _ (W5 _ (VZ.mpr rfl)));refine⟨J.oM λp hp=>absurd (show p∈([]:_F)from hp) (by simp),p1,p2,T.keep _ _ _ Kb λb hb o e=>(J.pin (b,o) (Wg _ (Wg _ (iS hb e)))).1,λb hb=>?_⟩;obtain⟨o,e,d⟩:=T.obj _ _ Kb b hb;exact(J.pin (b,o) (Wg _ (Wg _ (iS hb e)))).2.1
  cases ok with
  |false=>
   rw[VL VH]at q7⊢;obtain⟨m',hm,w7⟩:=q7;obtain⟨J,a1,a2,a3,a4⟩:=back I7;exact⟨m',hm,i+1,ys,aI,nn,τ6,H7,J,a1,a2,QG,a3,a4,w7⟩
  |true=>
   rw[VA rfl]at q7⊢;have G3:=OG _ s7 τ6 H7 _ I7 q7;rw[eP,eW,eA,eE,Sb]at G3;refine KP mon G3 λv s8⟨y,H8,I8,r8,m',hm,w8⟩=>?_;obtain⟨J,a1,a2,a3,a4⟩:=back I8;have hlen:=QG.length;refine X8 F.slot_list_append ⟨_,a1,rfl⟩ F.entry_list_append (F.args_list_append_2 _ _) (_a s.heap.objs.size aI.toArray nn v (by rw[VD];lia)) ⟨a1,?_⟩;have q:=_o a1 (λz=>z.push v);have other:∀b o,b≠s.heap.objs.size->s8.heap.get? b=some o->(s8.heap.update s.heap.objs.size (Obj.mapSeq λz=>z.push v)).get? b=some o:=λb o hb e=>(VW s8.heap (Obj.mapSeq λz=>z.push v) (WE hb)).trans e;have J':aM XB [] τ6 H8 {s8 with heap:=s8.heap.update s.heap.objs.size (Obj.mapSeq λz=>z.push v)}:=
    J.turned (t':=s8.toks) (it:=s.heap.objs.size) other a2 (by rw[eL];exact OF) (.inr (by rw[e0];exact Vy _)) (λx c e=>cD x c (by rw[<-UP];exact e)) λp hp=>absurd (show p∈([]:_F) by rw[eN]at hp;exact hp) (by simp)
   obtain⟨n2,q2⟩:∃n2,(s8.heap.update s.heap.objs.size (Obj.mapSeq λz=>z.push v)).get? s.heap.objs.size=some {cls:=.type "list",data:=.seq (aI++[v]).toArray n2}:=by
    have e1:aI.toArray.push v=(aI++[v]).toArray:=by simp
    rw[<-e1];exact⟨_,q⟩
   exact⟨m',hm,i+1,ys++[y],aI++[v],n2,τ6,H8,J',q2,a2,QG.append (.cons r8 .nil),T.keep _ _ _ a3 λb hb o e=>other b o (UO b hb) e,a4,w8⟩
theorem xP{scope:Scope}{k:Nat}{g:TG}{Q:VK}{RR:_M->Env->Result->_N->Prop}{E:_D}{xe:_O->_M->_N->Prop}{Cd:Cx->Prop}(hc:∀D,Cd (QF X N scope cl D fp s H xe))(B:pC X N scope cl k caps)(hg:∀C fp s H,PG (QF X N scope cl C fp s H xe) tg g)(hi:∀C fp s H,vf (QF X N scope cl C fp s H xe) ifs tt)(he:∀C fp s H,KO X fp C s H->PE (QF X N scope cl C fp s H xe) elt te)(I:aM X ae σ H s)(T:C8 Cd X.prog X.w X.K tg J fp it tn)(st:tn 0 s.heap)(hf:∀b∈fp,j7 X ae H b)(h:pD J k caps g tt te σ H Q)(OE:∀acc C s',pE X ae σ s Q acc C s'->RR acc (compEnvC scope cl C X.env) (.ok .next) s')(mon:∀acc C x s',xe C x s'->notedBy (model X.prog X.w) X.A (compEnvC scope cl C X.env) (λx s'=>RR acc (compEnvC scope cl C X.env) (.error x) s') x s'):
  wpAny (model X.prog X.w) X.A (newList []) (λacc s₃=>wpAny (model X.prog X.w) X.A (newFunctionEnv scope X.env.globals cl [] X.env.qual none .none (some X.env)) (λC? s₄=>
   codeAny (model X.prog X.w) X.A (.compStart (.ListComp elt [⟨tg,iter,ifs,0⟩] scope pos) 0 (.ref it) acc {C? with scope:=relabel scope X.env}) (RR acc {C? with scope:=relabel scope X.env}) s₄) E s₃) E s:=by
 refine Wf (wpAny_newFunctionEnv B.gT (by intro y hy;simp at hy) (λh₁ xQ t_=>?_) B.kind);dsimp only at xQ t_⊢;generalize Sg:s.heap.push {cls:=.type "list",dict:=none,data:=.seq ([]:_I).toArray} = H2 at xQ t_⊢;have hC:H2.objs.size=s.heap.objs.size+1:=by rw[<-Sg,WO]
 have FJ:s.heap.objs.size<=H2.objs.size:=by rw[hC];exact XH _
 have OF:s.heap.objs.size≠H2.objs.size:=by rw[hC];exact VX (Xd _)
 have old:∀b o,s.heap.get? b=some o->h₁.get? b=some o:=λb o e=>t_.extBut b o (VX (VG (Vz e) FJ)) (Vq _ (Sg▸Vq _ e));have xO:h₁.get? s.heap.objs.size=some {cls:=.type "list",data:=.seq ([]:_I).toArray 0}:=t_.extBut _ _ OF (Vq _ (Sg▸VI _ rfl));have Co:∀b∈fp,∃o,s.heap.get? b=some o:=λb hb=>let⟨o,e,_⟩:=T.obj 0 _ st b hb;⟨o,e⟩
 have OI:∀x c,cl.lookup x=some c->c≠s.heap.objs.size:=λx c e z=>by obtain⟨v,o,ho,_⟩:=I.cell x c (B.sub x c e);exact absurd (Vz ho) (by rw[z];exact V9 _)
 have loop:=sh (iter:=iter) (pos:=pos) (fn:=λ_=>false) (xe:=xe) (RR:=RR) (tk:=s.toks+([]:List (Str×_M)).length) (hc _) (hg _ _ _ _) (hi _ _ _ _) (he _ _ _ _ ⟨ae,σ,I,hf,FJ⟩) I T st hf h ((I.block B hf FJ Co old xQ).xe (xe H2.objs.size)) hC xO old OI (λb hb x c e=>(hf b hb).2.2.2.2.1 x c (B.sub x c e)) (λacc s' q=>OE acc _ s' q) (λacc x s' q=>mon acc _ x s' q);have vC:tn 0 h₁:=T.keep 0 _ _ st λb _ o e=>old b o e;exact _l loop (T.self X.A 0 _ _ _ vC loop)
theorem si{scope:Scope}{k:Nat}{g:TG}{Q:VK}{RR:_M->_O->Result->_N->Prop}{E:_D}(hc:X.calm=true)(B:pC X N scope cl k caps)(hg:∀C fp s H,PG (pB X N scope cl C fp s H) tg g)(hi:∀C fp s H,vf (pB X N scope cl C fp s H) ifs tt)(he:∀C fp s H,PE (pB X N scope cl C fp s H) elt te)(I:aM X ae σ H s)(T:Turn X.prog X.w X.K tg J fp it tn)(st:tn 0 s.heap)(hf:∀b∈fp,j7 X ae H b)(h:pD J k caps g tt te σ H Q)(OE:∀acc C s',pE X ae σ s Q acc C s'->RR acc C (.ok .next) s'):
  wpAny (model X.prog X.w) X.A (newList []) (λacc s₃=>wpAny (model X.prog X.w) X.A (newFunctionEnv scope X.env.globals cl [] X.env.qual none .none (some X.env)) (λC? s₄=>
   codeAny (model X.prog X.w) X.A (.compStart (.ListComp elt [⟨tg,iter,ifs,0⟩] scope pos) 0 (.ref it) acc {C? with scope:=relabel scope X.env}) (RR acc C?.locals) s₄) E s₃) E s:=by
 have z:=xP (xe:=λ_ _ _=>False) (RR:=λacc en=>RR acc en.locals) (E:=E) (iter:=iter) (pos:=pos) (Cd:=λX=>X.calm=true) (λ_=>hc) B hg hi (λC fp s H _=>he C fp s H) I T.c st hf h OE λ_ _ _ _ q=>q.elim;exact z
end
section
variable{scope:Scope}{k:Nat}{g:TG}
theorem aM.mO{σ':St}{s s':_N}(I:aM X ae σ H s)(hC:s.heap.objs.size<=C)(I':aM X ae σ' H' s')(hn:H' C=none)(sb:Heap.SameBut C s'.heap h'):
  aM X ae σ' H' {s' with heap:=h'}:=by
 refine I'.turned (t':=s'.toks) (it:=C) (λb o hb e=>(sb.2 b hb).trans e) hn (WK (VG I.lt hC)) (.inr (V7 I.sz hC)) (λx c e=>?_) λp hp=>?_
 .obtain⟨v,o,ho,_⟩:=I.cell x c e;exact VX (VG (Vz ho) hC)
 .exact VX (VG (Vz (I.pin p hp).1) hC)
theorem GD(hc:X.calm=true)(B:pC X N scope cl k caps)(hi:PI X tg iter wi)(hg:∀C fp s H,PG (pB X N scope cl C fp s H) tg g)(Dc:∀C fp s H,vf (pB X N scope cl C fp s H) ifs tt)(he:∀C fp s H,PE (pB X N scope cl C fp s H) elt te)(hs:∀x,foldedSetIterable iter X.env x=pure x:=by intro _;rfl):PE X (.ListComp elt [⟨tg,iter,ifs,0⟩] scope pos) (lF k caps wi g tt te):=by intro ae s σ H Q I h;rw[eval_ListComp];refine Yp (use:=none) rfl hs B.jv B.kind B.names (dA (hi ae s σ H _ I (mM h)) λxv s₁ h₁=>dA h₁ λNX s₂ h₂=>?_);obtain⟨it,fp,tn,J,H2,e,I2,T,dh,f2,hW⟩:=h₂;subst e;refine si (RR:=λacc C=>compPost (model X.prog X.w) X.A X.xe none (EP X ae σ Q) acc C) hc B hg Dc he I2 T dh f2 hW ?_;rintro acc C s' ⟨D,H',rfl,hC,I',hn,⟨m,ns⟩,q⟩;exact⟨m,ns,λh' sb=>⟨.ref D,H',I2.mO hC I' hn sb,rfl,q⟩⟩
theorem xR{py:Pos}(hN:X.N.Nodup)(hy:X.N[i]?=some y)(hx:Loc X.env.scope y)(hc:X.calm=true)(B:pC X N scope cl k caps)(hi:PI X tg iter wi)(hg:∀C fp s H,PG (pB X N scope cl C fp s H) tg g)(Dc:∀C fp s H,vf (pB X N scope cl C fp s H) ifs tt)(he:∀C fp s H,PE (pB X N scope cl C fp s H) elt te)(Sh:swapsWith (.ListComp elt [⟨tg,iter,ifs,0⟩] scope pos) (some (.Name y py)) A7.line X.env=pure true:=by rfl)(hs:∀x,foldedSetIterable iter X.env x=pure x:=by intro _;rfl)(hf:X.fn y=true\/X.env.scope.names.lookup y=some .local:=by left):
  PS X (.Assign [.Name y py] (.ListComp elt [⟨tg,iter,ifs,0⟩] scope pos) A7) (J8 (lF k caps wi g tt te) (vi i)):=by
 intro ae s σ H D I h;rw[exec_Assign_Name_used _ _ _ _ Sh];refine Vp (ZW (Vp ?_));show wpAny _ X.A (do let _ <- comprehension (.ListComp elt [⟨tg,iter,ifs,0⟩] scope pos) scope X.env _ (newList []) false (eval iter X.env) (some (assign (.Name y py) X.env))) _ _ s;refine Vp (Wz (Yp (use:=some (assign (.Name y py) X.env)) (Q:=λ_ s'=>SP X ae D .next s') rfl hs B.jv B.kind B.names (dA (hi ae s σ H _ I (mM h)) λxv s₁ h₁=>dA h₁ λNX s₂ h₂=>?_)) (λ_ s' hq=>Vr (Vr hq)) λ_ _ e=>e);obtain⟨it,fp,tn,J,H2,e,I2,T,dh,f2,hW⟩:=h₂;subst e;refine si (Q:=λv H'=>vi i v σ H' D.nx) (RR:=λacc C=>compPost (model X.prog X.w) X.A X.xe (some (assign (.Name y py) X.env)) (λ_ s'=>SP X ae D .next s') acc C) hc B hg Dc he I2 T dh f2 hW ?_;rintro acc C s' ⟨D',H',rfl,hC,I',hn,⟨m,ns⟩,q⟩;show wpAny _ _ (assign (.Name y py) X.env (.ref D')) _ _ s';refine wpAny_assign_Name (mF I' hN hy hx (v:=.ref D') rfl (λQx I''⟨a,sb,ha⟩=>?_) hf);have hCa:C≠a:=by
  rcases ha with e|e
  .rw[e];exact WK (VG I2.lt hC)
  .obtain⟨v,o,ho,_⟩:=I2.cell y a e;exact WK (VG (Vz ho) hC)
 exact⟨m,ns.sameBut sb hCa,λh' Si=>⟨_,H',I2.mO hC I'' hn Si,q⟩⟩
end
section
variable{K:_G}{g:TG}{Q:VK}
theorem GF{k:Nat}(n:Nat)(hn:n<=sizeLine)(Pv:Nat->List V->St->Hp->Prop)(h0:Pv 0 [] (j8 k caps σ) H)(hgo:∀i ys τ H,i<n->Pv i ys τ H->J.go i H)(AJ:∀ys τ H,Pv n ys τ H->J.stop n H)(hl:∀i ys τ H,Pv i ys τ H->ys.length<=i)(hs:∀i ys τ H x H',i<n->Pv i ys τ H->J.Ni i H x H'->∀K1:List V->St->Hp->Prop,(∀ys τ H,Pv (i+1) ys τ H->K1 ys τ H)->g x τ H' λτ2 H2=>tt τ2 H2 λb H3=>if b=true then te τ2 H3 λy H4=>K1 (ys++[y]) τ2 H4 else K1 ys τ2 H3)(hd:∀ys τ H p,Pv n ys τ H->H p=none->Q (.ref p) (upd H p (.lst ys))):pD J k caps g tt te σ H Q:=by
 refine⟨λi m ys τ H=>m=n-i/\i<=n/\Pv i ys τ H,⟨n,by simp,WN _,h0⟩,?_⟩;rintro i m ys τ H ⟨rfl,hi,p⟩;have hy:=hl i ys τ H p;by_cases lG:i<n
 .refine .inr ⟨hgo i ys τ H lG p,⋯,λx H' y=>?_⟩;exact hs i ys τ H x H' lG p y (λys τ H=>∃m',m'<n-i/\m'=n-(i+1)/\i+1<=n/\Pv (i+1) ys τ H) λys τ H q=>⟨n-(i+1),⋯,rfl,lG,q⟩
 .have e:i=n:=⋯
  subst e;exact .inl ⟨AJ ys τ H p,⋯,λq hq=>hd ys τ H q p hq⟩
end
def bP(b:Bool)(h:Heap)(i l:_O)(k:Nat):Prop:=match b with|true=>h.IsListIter i l k|false=>h.IsTupleIter i l k
def fm(b:Bool)(h:Heap)(l:_O)(xs:Array _M):Prop:=match b with|true=>h.IsList l xs|false=>h.IsTuple l xs
theorem bP.keep{b:Bool}{h:Heap}{i l:_O}{k:Nat}(x:bP b h i l k)(e:∀o,h.get? i=some o->h'.get? i=some o):bP b h' i l k:=by
 cases b with
 |true=>exact Heap.IsListIter.at x e
 |false=>exact Heap.IsTupleIter.at x e
theorem fm.keep{b:Bool}{h:Heap}{l:_O}(x:fm b h l xs)(e:∀o,h.get? l=some o->h'.get? l=some o):fm b h' l xs:=by
 cases b with
 |true=>exact Heap.IsList.at x e
 |false=>obtain⟨o,ho,r⟩:=(show h.IsTuple l xs from x);exact⟨o,e _ ho,r⟩
theorem bP.there{b:Bool}{h:Heap}{i l:_O}{k:Nat}(x:bP b h i l k):∃o n vs,h.get? i=some o/\o.cls=.type n/\o.data=.fields vs:=by
 cases b with
 |true=>obtain⟨o,h1,h2,h3⟩:=(show h.IsListIter i l k from x);exact⟨o,_,_,h1,h2,h3⟩
 |false=>obtain⟨o,h1,h2,h3⟩:=(show h.IsTupleIter i l k from x);exact⟨o,_,_,h1,h2,h3⟩
section
variable{E:_D}{s:_N}
theorem pF{t:_O}{x:_M}(hit:s.heap.IsTupleIter it t i)(ht:s.heap.IsTuple t items)(hx:items[i]?=some x)(hQ:∀h',h'.IsTupleIter it t (i+1)->Heap.SameBut it s.heap h'->Q x {s with heap:=h'}):wpAny (model prog w) A (Builtin.SmallTypes.nextOf (.ref it)) Q E s:=by obtain⟨oi,Jg,ci,di⟩:=id hit;obtain⟨ot,Sj,_,nt,dt⟩:=ht;unfold Builtin.SmallTypes.nextOf;refine Vp (Wm (name:=Str.ofString "__next__") hit.typeIs XG (Wr XG hit.typeIs ZN ?_ (ZF _)));show wpAny _ _ (field (.ref it) 0 >>= _) _ _ s;refine Vp (V_ Jg di (x:=.ref t) rfl ?_);show wpAny _ _ (if(Value.ref t==Value.none)=true then _ else _) _ _ s;rw[VL (show ¬ ((Value.ref t==Value.none)=true)from VH)];show wpAny _ _ (field (.ref it) 1 >>= _) _ _ s;refine Vp (V_ Jg di (x:=.int i 0) rfl ?_);show wpAny _ _ (seqItems? (.ref t) >>= _) _ _ s;refine Vp (Wb Sj dt ?_);simp only[Wi,hx];refine Vp (XF Jg di (by simp) (Vr ⟨x,rfl,Vr (hQ _ ?_ (Xn ..))⟩));exact⟨_,Wu _ Jg (Xw (WR di _)),(Obj.cls_mapFields ..).trans ci,by rw[WR di];simp[rawInt]⟩
theorem q0{t:_O}(hh:A.handled=none)(hit:s.heap.IsTupleIter it t i)(ht:s.heap.IsTuple t items)(hx:items[i]?=none)(hE:∀h' e,Heap.ExtBut it s.heap h'->(∃o,h'.get? e=some o/\o.cls=.type "StopIteration")->E (.ref e) {s with heap:=h'}):wpAny (model prog w) A (Builtin.SmallTypes.nextOf (.ref it)) Q E s:=by
 obtain⟨oi,Jg,ci,di⟩:=id hit;obtain⟨ot,Sj,_,nt,dt⟩:=ht;unfold Builtin.SmallTypes.nextOf;refine Vp (Wm (name:=Str.ofString "__next__") hit.typeIs XG (Wr XG hit.typeIs ZN ?_ (ZF _)));show wpAny _ _ (field (.ref it) 0 >>= _) _ _ s;refine Vp (V_ Jg di (x:=.ref t) rfl ?_);show wpAny _ _ (if(Value.ref t==Value.none)=true then _ else _) _ _ s;rw[VL (show ¬ ((Value.ref t==Value.none)=true)from VH)];show wpAny _ _ (field (.ref it) 1 >>= _) _ _ s;refine Vp (V_ Jg di (x:=.int i 0) rfl ?_);show wpAny _ _ (seqItems? (.ref t) >>= _) _ _ s;refine Vp (Wb Sj dt ?_);simp only[Wi,hx];refine Vp (W! (Vp (XF Jg di (by simp) ?_)));show wpAny _ _ (newExc (.type "StopIteration") [] >>= _) _ _ _;refine Vp ?_;simp only[newExc,newTuple];refine Vp (Wf ?_ (by size_fits));refine Vp (m:=firstArgMember _ _) (Zf (a:=Value.none) (by first|rfl|(simp only[firstArgMember];rfl)) ?_);refine Wf ?_ (by size_fits);simp only[raiseNew];refine Vp (wpAny_handled ?_)
 first|rw[show A.in1.handled=none from hh]|rw[hh]
 refine Vp (Vr (wpAny_throw ?_));exact hE _ _ (((Xn ..).extBut.push _).push _) ⟨_,VI _ rfl,rfl⟩
theorem cU{b:Bool}{t:_O}{x:_M}(hit:bP b s.heap it t i)(ht:fm b s.heap t items)(hx:items[i]?=some x)(hQ:∀h',bP b h' it t (i+1)->Heap.SameBut it s.heap h'->Q x {s with heap:=h'}):wpAny (model prog w) A (Builtin.SmallTypes.nextOf (.ref it)) Q E s:=by
 cases b with
 |true=>exact wpAny_nextOf_list_item hit ht hx hQ
 |false=>exact pF hit ht hx hQ
theorem fe{b:Bool}{t:_O}(hh:A.handled=none)(hit:bP b s.heap it t i)(ht:fm b s.heap t items)(hx:items[i]?=none)(hE:∀h' e,Heap.ExtBut it s.heap h'->(∃o,h'.get? e=some o/\o.cls=.type "StopIteration")->E (.ref e) {s with heap:=h'}):wpAny (model prog w) A (Builtin.SmallTypes.nextOf (.ref it)) Q E s:=by
 cases b with
 |true=>exact wpAny_nextOf_list_end hh hit ht hx hE
 |false=>exact q0 hh hit ht hx hE
end
abbrev pG(b:Bool)(l:_O):Obj:={cls:=.type (match b with|true => "list_iterator"|false => "tuple_iterator"),data:=.fields #[.ref l,.int 0 0]}
section
variable{E:_D}{s:_N}
theorem bP.new(b:Bool){h:Heap}{i l:_O}(e:h.get? i=some (pG b l)):bP b h i l 0:=by
 cases b with
 |true=>exact⟨_,e,rfl,rfl⟩
 |false=>exact⟨_,e,rfl,rfl⟩
theorem pH{b:Bool}{l:_O}(h:fm b s.heap l xs)(hQ:Q (.ref s.heap.objs.size) {s with heap:=s.heap.push (pG b l)}):wpAny (model prog w) A (pyIter (.ref l)) Q E s:=by
 cases b with
 |true=>exact Xy h hQ
 |false=>exact Y3 h hQ
theorem GG{z TI TO:_O}{x y a b:_M}(D:ZipApart z TI TO i1 i2 l1 l2)(hz:IsZip s.heap z TI TO .none)(iU:IsPair s.heap TI (.ref i1) (.ref i2))(jc:IsPair s.heap TO a b)(h1:bP b1 s.heap i1 l1 k1)(h2:bP b2 s.heap i2 l2 k2)(qV:fm b1 s.heap l1 xs)(r?:fm b2 s.heap l2 ys)(hx:xs[k1]?=some x)(hy:ys[k2]?=some y)
  (hQ:∀ h',IsZip h' z TI TO (rawInt s.heap.objs.size)->IsPair h' TO x y->bP b1 h' i1 l1 (k1+1)->bP b2 h' i2 l2 (k2+1)->IsPair h' s.heap.objs.size x y ->
   (∀c o,c≠z->c≠TO->c≠i1->c≠i2->s.heap.get? c=some o->h'.get? c=some o)->Q (.ref s.heap.objs.size) {s with heap:=h'}):
  wpAny (model prog w) A (Builtin.«zip.__next__» ⟨[.ref z],[]⟩) (λfin s'=>∃v,fin=.done (.ret v)/\Q v s') E s:=by
 show wpAny _ _ (field (.ref z) 2 >>= _) _ _ _;refine Vp (V_ hz rfl (x:=.bool false) rfl ?_);show wpAny _ _ (field (.ref z) 3 >>= _) _ _ _;refine Vp (V_ hz rfl (x:=.ref TI) rfl (Vp (Wb iU rfl ?_)));show wpAny _ _ (Builtin.SmallTypes.ownedTupleIsFree (.ref z) >>= _) _ _ _;refine Vp ?_;unfold Builtin.SmallTypes.ownedTupleIsFree;refine Vp (V_ hz rfl (x:=.none) rfl (Vr ?_));simp only[XJ];refine Vp (W! (Vp (V_ hz rfl (x:=.ref TO) rfl (Vp (Wl hz (by simp) λg₁ ff s₁=>?_)))));replace ff:IsZip g₁ z TI TO .ellipsis:=ff;refine Vp ?_;simp only[YA,YL,XM,XE];refine Vp (Vp (Xh ?_));show wpAny _ _ (Builtin.SmallTypes.nextOf (.ref i1) >>= _) _ _ _;refine Vp (cU (b:=b1) (h1.keep λo e=>s₁.extBut _ o D.i1z e) (qV.keep λo e=>s₁.extBut _ o D.l1z e) hx λg₂ q₁ s₂=>Vr ?_);have t₂:IsPair g₂ TO a b:=s₂.extBut _ _ D.TOi1 (s₁.extBut _ _ D.TOz jc);refine Vp (Wb t₂ rfl (Vp (Xb t₂ λg₃ t₃ s₃=>?_)));replace t₃:IsPair g₃ TO x b:=t₃;refine Vp (WL (Vr (Vp (Vp (Xh ?_)))));show wpAny _ _ (Builtin.SmallTypes.nextOf (.ref i2) >>= _) _ _ _;refine Vp (cU (b:=b2) (h2.keep λo e=>s₃.extBut _ o D.TOi2.symm (s₂.extBut _ o D.i12.symm (s₁.extBut _ o D.i2z e))) (r?.keep λo e=>s₃.extBut _ o D.l2TO (s₂.extBut _ o D.l2i1 (s₁.extBut _ o D.l2z e))) hy λg₄ q₂ s₄=>Vr ?_);have t₄:IsPair g₄ TO x b:=s₄.extBut _ _ D.TOi2 t₃;refine Vp (Wb t₄ rfl (Vp (Xb t₄ λg₅ t₅ s₅=>?_)));replace t₅:IsPair g₅ TO x y:=t₅;refine Vp (WL (Vr (Vr (Vp (Wb t₅ rfl (Vp (YM ?_)))))));have sz:g₅.objs.size=s.heap.objs.size:=by rw[s₅.1,s₄.1,s₃.1,s₂.1,s₁.1]
 have z₅:IsZip g₅ z TI TO .ellipsis:=s₅.extBut _ _ D.TOz.symm (s₄.extBut _ _ D.i2z.symm (s₃.extBut _ _ D.TOz.symm (s₂.extBut _ _ D.i1z.symm ff)));have kp:∀c o,c≠z->c≠TO->c≠i1->c≠i2->s.heap.get? c=some o->g₅.get? c=some o:=λc o n1 n2 n3 n4 e=>s₅.extBut _ _ n2 (s₄.extBut _ _ n4 (s₃.extBut _ _ n2 (s₂.extBut _ _ n3 (s₁.extBut _ _ n1 e))));have p₁:bP b1 g₅ i1 l1 (k1+1):=q₁.keep λo e=>s₅.extBut _ o D.TOi1.symm (s₄.extBut _ o D.i12 (s₃.extBut _ o D.TOi1.symm e));have p₂:bP b2 g₅ i2 l2 (k2+1):=q₂.keep λo e=>s₅.extBut _ o D.TOi2.symm e;have OJ:z<g₅.objs.size:=Vz z₅;show wpAny _ _ (Builtin.SmallTypes.ownedTupleHandOut (.ref z) (.ref g₅.objs.size) >>= _) _ _ _;refine Vp ?_;unfold Builtin.SmallTypes.ownedTupleHandOut;have z₆:IsZip (g₅.push {cls:=.type "tuple",data:=.seq #[x,y]}) z TI TO .ellipsis:=Vq _ z₅;refine Vp (Wl z₆ (by simp) λg₇ z₇ s₇=>?_);replace z₇:IsZip g₇ z TI TO (rawInt g₅.objs.size):=z₇;refine Wl z₇ (by simp) λg₈ z₈ s₈=>?_;replace z₈:IsZip g₈ z TI TO (rawInt g₅.objs.size):=z₈;have up:∀c o,c≠z->g₅.get? c=some o->g₈.get? c=some o:=λc o n e=>s₈.extBut _ _ n (s₇.extBut _ _ n (Vq _ e));have t₈:IsPair g₈ g₅.objs.size x y:=s₈.extBut _ _ (WK OJ) (s₇.extBut _ _ (WK OJ) (VI _ rfl));rw[sz]at z₈ t₈;refine Vr ⟨_,rfl,?_⟩;show Q (.ref g₅.objs.size) _;rw[sz];exact hQ g₈ z₈ (up _ _ D.TOz t₅) (p₁.keep λo e=>up _ o D.i1z e) (p₂.keep λo e=>up _ o D.i2z e) t₈ λc o n1 n2 n3 n4 e=>up c o n1 (kp c o n1 n2 n3 n4 e)
theorem KR{z TI TO:_O}{a b:_M}{Q:Fin->_N->Prop}(hh:A.handled=none)(D:ZipApart z TI TO i1 i2 l1 l2)(hz:IsZip s.heap z TI TO .none)(iU:IsPair s.heap TI (.ref i1) (.ref i2))(jc:IsPair s.heap TO a b)(h1:bP b1 s.heap i1 l1 k1)(h2:bP b2 s.heap i2 l2 k2)(qV:fm b1 s.heap l1 xs)(r?:fm b2 s.heap l2 ys)(he:xs[k1]?=none\/ys[k2]?=none)(hE:∀h' e,(∀c o,c≠z->c≠TO->c≠i1->c≠i2->s.heap.get? c=some o->h'.get? c=some o)->(∃o,h'.get? e=some o/\o.cls=.type "StopIteration")->E (.ref e) {s with heap:=h'}):
  wpAny (model prog w) A (Builtin.«zip.__next__» ⟨[.ref z],[]⟩) Q E s:=by
 show wpAny _ _ (field (.ref z) 2 >>= _) _ _ _;refine Vp (V_ hz rfl (x:=.bool false) rfl ?_);show wpAny _ _ (field (.ref z) 3 >>= _) _ _ _;refine Vp (V_ hz rfl (x:=.ref TI) rfl (Vp (Wb iU rfl ?_)));show wpAny _ _ (Builtin.SmallTypes.ownedTupleIsFree (.ref z) >>= _) _ _ _;refine Vp ?_;unfold Builtin.SmallTypes.ownedTupleIsFree;refine Vp (V_ hz rfl (x:=.none) rfl (Vr ?_));simp only[XJ];refine Vp (W! (Vp (V_ hz rfl (x:=.ref TO) rfl (Vp (Wl hz (by simp) λg₁ ff s₁=>?_)))));replace ff:IsZip g₁ z TI TO .ellipsis:=ff;refine Vp ?_;simp only[YA,YL,XM,XE];refine Vp (Vp (Xh ?_));show wpAny _ _ (Builtin.SmallTypes.nextOf (.ref i1) >>= _) _ _ _;cases hx:xs[k1]? with
 |none=>
  refine Vp (fe (b:=b1) hh (h1.keep λo e=>s₁.extBut _ o D.i1z e) (qV.keep λo e=>s₁.extBut _ o D.l1z e) hx λg₂ e s₂⟨oe,vD,ce⟩=>?_);have z₂:IsZip g₂ z TI TO .ellipsis:=s₂ _ _ D.i1z.symm ff;have KS:e≠z:=λq=>by subst q;rw[z₂]at vD;cases vD;simp at ce
  exact Wl z₂ (by simp) λg₃ _ s₃=>hE g₃ e (λc o n1 _ n3 _ q=>s₃.extBut _ _ n1 (s₂ _ _ n3 (s₁.extBut _ _ n1 q))) ⟨oe,s₃.extBut _ _ KS vD,ce⟩
 |some x=>
  have hy:ys[k2]?=none:=by
   rcases he with q|q
   .rw[hx]at q;cases q
   .exact q
  refine Vp (cU (b:=b1) (h1.keep λo e=>s₁.extBut _ o D.i1z e) (qV.keep λo e=>s₁.extBut _ o D.l1z e) hx λg₂ q₁ s₂=>Vr ?_);have t₂:IsPair g₂ TO a b:=s₂.extBut _ _ D.TOi1 (s₁.extBut _ _ D.TOz jc);refine Vp (Wb t₂ rfl (Vp (Xb t₂ λg₃ t₃ s₃=>?_)));refine Vp (WL (Vr (Vp (Vp (Xh ?_)))));show wpAny _ _ (Builtin.SmallTypes.nextOf (.ref i2) >>= _) _ _ _;refine Vp (fe (b:=b2) hh (h2.keep λo e=>s₃.extBut _ o D.TOi2.symm (s₂.extBut _ o D.i12.symm (s₁.extBut _ o D.i2z e))) (r?.keep λo e=>s₃.extBut _ o D.l2TO (s₂.extBut _ o D.l2i1 (s₁.extBut _ o D.l2z e))) hy λg₄ e s₄⟨oe,vD,ce⟩=>?_);have z₄:IsZip g₄ z TI TO .ellipsis:=s₄ _ _ D.i2z.symm (s₃.extBut _ _ D.TOz.symm (s₂.extBut _ _ D.i1z.symm ff));have KS:e≠z:=λq=>by subst q;rw[z₄]at vD;cases vD;simp at ce
  exact Wl z₄ (by simp) λg₅ _ s₅=>hE g₅ e (λc o n1 n2 n3 n4 q=>s₅.extBut _ _ n1 (s₄ _ _ n4 (s₃.extBut _ _ n2 (s₂.extBut _ _ n3 (s₁.extBut _ _ n1 q))))) ⟨oe,s₅.extBut _ _ KS vD,ce⟩
theorem A8{z TI TO:_O}{x y a b:_M}{Q:_J->_N->Prop}(D:ZipApart z TI TO i1 i2 l1 l2)(hz:IsZip s.heap z TI TO .none)(iU:IsPair s.heap TI (.ref i1) (.ref i2))(jc:IsPair s.heap TO a b)(h1:bP b1 s.heap i1 l1 k1)(h2:bP b2 s.heap i2 l2 k2)(qV:fm b1 s.heap l1 xs)(r?:fm b2 s.heap l2 ys)(hx:xs[k1]?=some x)(hy:ys[k2]?=some y)
  (hQ:∀ h',IsZip h' z TI TO (rawInt s.heap.objs.size)->IsPair h' TO x y->bP b1 h' i1 l1 (k1+1)->bP b2 h' i2 l2 (k2+1)->IsPair h' s.heap.objs.size x y ->
   (∀c o,c≠z->c≠TO->c≠i1->c≠i2->s.heap.get? c=some o->h'.get? c=some o)->Q (some (.ref s.heap.objs.size)) {s with heap:=h'}):wpAny (model prog w) A (pyNext (.ref z)) Q E s:=by
 have tz:s.TypeIs (.ref z) "zip":=⟨_,hz,rfl⟩
 unfold pyNext;exact Vp (Xv (Wm (name:=Str.ofString "__next__") tz W7
  (Wr W7 tz Yw (GG (b1:=b1) (b2:=b2) D hz iU jc h1 h2 qV r? hx hy λh' a1 a2 a3 a4 a5 a6=>Vr (hQ h' a1 a2 a3 a4 a5 a6)) (Yo _))))
theorem Dd{z TI TO:_O}{a b:_M}{Q:_J->_N->Prop}(hh:A.handled=none)(D:ZipApart z TI TO i1 i2 l1 l2)(hz:IsZip s.heap z TI TO .none)(iU:IsPair s.heap TI (.ref i1) (.ref i2))(jc:IsPair s.heap TO a b)(h1:bP b1 s.heap i1 l1 k1)(h2:bP b2 s.heap i2 l2 k2)(qV:fm b1 s.heap l1 xs)(r?:fm b2 s.heap l2 ys)(he:xs[k1]?=none\/ys[k2]?=none)(hQ:∀h',(∀c o,c≠z->c≠TO->c≠i1->c≠i2->s.heap.get? c=some o->h'.get? c=some o)->Q none {s with heap:=h'}):wpAny (model prog w) A (pyNext (.ref z)) Q E s:=by
 have tz:s.TypeIs (.ref z) "zip":=⟨_,hz,rfl⟩
 unfold pyNext;refine Vp (Xv (Wm (name:=Str.ofString "__next__") tz W7
  (Wr W7 tz Yw (KR (b1:=b1) (b2:=b2) hh D hz iU jc h1 h2 qV r? he λh' e hk he=>?_) (Yo _))))
 obtain⟨o,ho,hc⟩:=he;exact Vp (X7 (T:="StopIteration") (b:=true) ⟨o,ho,hc⟩ ZP (Vr (hQ _ hk)))
abbrev QH(b1:Bool)(h:Heap)(l1:_O):Heap:=h.push (pG b1 l1)
abbrev QI(b1 b2:Bool)(h:Heap)(l1 l2:_O):Heap:=(QH b1 h l1).push (pG b2 l2)
abbrev QJ(b1 b2:Bool)(h:Heap)(l1 l2:_O):Heap:=(QI b1 b2 h l1 l2).push {cls:=.type "tuple",data:=.seq #[.ref h.objs.size,.ref (QH b1 h l1).objs.size]}
abbrev QK(b1 b2:Bool)(h:Heap)(l1 l2:_O):Heap:=(QJ b1 b2 h l1 l2).push {cls:=.type "tuple",data:=.seq #[.none,.none]}
abbrev Nm(b1 b2:Bool)(h:Heap)(l1 l2:_O):Heap:=(QK b1 b2 h l1 l2).push {cls:=.type "zip",data:=.fields #[.none,.bool false,.bool false,.ref (QI b1 b2 h l1 l2).objs.size,.ref (QJ b1 b2 h l1 l2).objs.size]}
theorem De(b1 b2:Bool)(l1 l2:_O)(xs ys:Array _M):
  Meets (Builtin.«zip.__new__» ⟨[.type "zip",.ref l1,.ref l2],[]⟩) (λ_ R s=>fm b1 s.heap l1 xs/\fm b2 s.heap l2 ys/\R (.ok (.ret (.ref (QK b1 b2 s.heap l1 l2).objs.size))) {s with heap:=Nm b1 b2 s.heap l1 l2}):=
 .of_wp λprog w A R s h=>by
  obtain⟨hp,g,d,tk,os⟩:=s;obtain⟨q1,q2,h⟩:=h;have OK:=sub_zip;have w1:fm b1 (Shared.heap ⟨hp,g,d,tk,os⟩) l1 xs:=q1;have w2:fm b2 (Shared.heap ⟨hp.push (pG b1 l1),g,d,tk,os⟩) l2 ys:=q2.keep λo e=>Vq _ e
  wp_walk using pH w1,pH w2
  exact⟨_,rfl,h⟩
theorem vE(qV:fm b1 s.heap l1 xs)(r?:fm b2 s.heap l2 ys)
  (h:∀ h',IsZip h' (s.heap.objs.size+4) (s.heap.objs.size+2) (s.heap.objs.size+3) .none->IsPair h' (s.heap.objs.size+2) (.ref s.heap.objs.size) (.ref (s.heap.objs.size+1))->IsPair h' (s.heap.objs.size+3) .none .none ->
   bP b1 h' s.heap.objs.size l1 0->bP b2 h' (s.heap.objs.size+1) l2 0->(∀c o,s.heap.get? c=some o->h'.get? c=some o)->Q (.ref (s.heap.objs.size+4)) {s with heap:=h'}):
  wpAny (model prog w) A (call (.type "zip") [.ref l1,.ref l2]) Q E s:=by
 refine callType_new F.called_zip ⋯ (F.typeCall_zip_2 _ _) (F.newCall_zip_2 _ _) (λobj=>F.args_object_init_3 obj _ _) F.entry_zip_new (De b1 b2 l1 l2 xs ys) ⟨qV,r?,?_⟩;have z1:(QH b1 s.heap l1).objs.size=s.heap.objs.size+1:=WO ..;have z2:(QI b1 b2 s.heap l1 l2).objs.size=s.heap.objs.size+2:=by rw[WO,z1]
 have z3:(QJ b1 b2 s.heap l1 l2).objs.size=s.heap.objs.size+3:=by rw[WO,z2]
 have z4:(QK b1 b2 s.heap l1 l2).objs.size=s.heap.objs.size+4:=by rw[WO,z3]
 have g5:(Nm b1 b2 s.heap l1 l2).get? (QK b1 b2 s.heap l1 l2).objs.size=some _:=VI _ rfl;have g4:(Nm b1 b2 s.heap l1 l2).get? (QJ b1 b2 s.heap l1 l2).objs.size=some _:=Vq _ (VI _ rfl);have g3:(Nm b1 b2 s.heap l1 l2).get? (QI b1 b2 s.heap l1 l2).objs.size=some _:=Vq _ (Vq _ (VI _ rfl));have g2:(Nm b1 b2 s.heap l1 l2).get? (QH b1 s.heap l1).objs.size=some (pG b2 l2):=Vq _ (Vq _ (Vq _ (VI _ rfl)));have g1:(Nm b1 b2 s.heap l1 l2).get? s.heap.objs.size=some (pG b1 l1):=Vq _ (Vq _ (Vq _ (Vq _ (VI _ rfl))));show _/\_;rw[z2,z3,z4]at g5;rw[z1,z2]at g3;rw[z3]at g4;rw[z1]at g2;rw[z4];exact⟨⟨_,g5,rfl⟩,h _ g5 g3 g4 (.new b1 g1) (.new b2 g2) λc o x=>Vq _ (Vq _ (Vq _ (Vq _ (Vq _ x))))⟩
end
def vF(b:Bool)(K:_G)(H:Hp)(a:_O)(xs:List V):Prop:=match b with|true=>kf K H a xs|false=>jq K H a xs
theorem aM.Cp{s:_N}{b:Bool}{a:_O}{xs:List V}(I:aM X ae σ H s)(h:vF b X.K H a xs):∃aI:_I,bw xs aI/\fm b s.heap a aI.toArray/\xs.length<=sizeLine:=by
 cases b with
 |true=>obtain⟨aI,r,p,z⟩:=I.list h;exact⟨aI,r,p.isList,z⟩
 |false=>obtain⟨aI,r,p,z⟩:=I.tuple h;exact⟨aI,r,p,z⟩
theorem aM.oO{s:_N}{b:Bool}{a:_O}{xs ys:List V}(I:aM X ae σ H s)(h:vF b X.K H a xs)(h':vF b X.K H a ys):xs=ys:=by
 cases b with
 |true=>exact I.pe h h'
 |false=>exact I.mG h h'
theorem aM.zK{s:_N}{b:Bool}{l c:_O}{zs:List V}(I:aM X ae σ H s)(hs:vF b X.K H l zs)(f:j7 X ae H c):l≠c:=by
 intro q;have mo:∀o,X.K.lookup l=some o->False:=λo hk=>by
  have e:=I.mod.IV l o hk;rcases f.2.2.2.1 with z|z
  .exact I.ok.tH l o e (by rw[q];exact z)
  .exact absurd (VG (Vz (I.ok.bs l o e).1) (by rw[q];exact z)) (V9 _)
 have tr:∀o,H l=some o->False:=λo e=>by rw[q,f.1]at e;cases e
 cases b with
 |true=>
  rcases(show kf X.K H l zs from hs) with(r|⟨o,r⟩)|⟨o,aI,n,hk,_⟩
  .exact tr _ r
  .exact tr _ r
  .exact mo o hk
 |false=>
  rcases(show jq X.K H l zs from hs) with(r|⟨o,r⟩)|⟨o,aI,n,hk,_⟩
  .exact tr _ r
  .exact tr _ r
  .exact mo o hk
def Sk(K:_G)(b1 b2:Bool)(a b:_O):It:=
 ⟨λi H=>∃xs ys x y,vF b1 K H a xs/\vF b2 K H b ys/\xs[i]?=some x/\ys[i]?=some y,
  λi H v H'=>∃p x y,v=.ref p/\H p=none/\H'=upd H p (.tup [x,y])/\(∀xs,vF b1 K H a xs->xs[i]?=some x)/\∀ys,vF b2 K H b ys->ys[i]?=some y,
  λi H=>∃xs ys,vF b1 K H a xs/\vF b2 K H b ys/\(xs.length<=i\/ys.length<=i)⟩
theorem Df{K:_G}{z TI TO:_O}(a b:_O)(ne:z≠TI/\z≠TO/\z≠i1/\z≠i2/\TI≠TO/\TI≠i1/\TI≠i2/\TO≠i1/\TO≠i2/\i1≠i2):
  Turn P w K (.Tuple elts kt tp) (Sk K b1 b2 a b) [z,TI,TO,i1,i2] z (λi h=>IsZip h z TI TO .none/\IsPair h TI (.ref i1) (.ref i2)/\(∃u v,IsPair h TO u v)/\bP b1 h i1 a i/\bP b2 h i2 b i) where
 mem:=by simp
 obj:=λi h⟨hz,iU,⟨u,v,jc⟩,h1,h2⟩c hc=>by
  have cz:c=z\/c=TI\/c=TO\/c=i1\/c=i2:=by simpa using hc
  rcases cz with rfl|rfl|rfl|rfl|rfl
  .exact⟨_,hz,λv q=>by have q':Data.fields _=Data.cell v:=q;cases q'⟩
  .exact⟨_,iU,λv q=>by have q':Data.seq _ _=Data.cell v:=q;cases q'⟩
  .exact⟨_,jc,λv q=>by have q':Data.seq _ _=Data.cell v:=q;cases q'⟩
  .obtain⟨o,n,vs,e,_,d⟩:=h1.there;exact⟨o,e,λv q=>by rw[d]at q;cases q⟩
  .obtain⟨o,n,vs,e,_,d⟩:=h2.there;exact⟨o,e,λv q=>by rw[d]at q;cases q⟩
 keep:=λi h h'⟨hz,iU,⟨u,v,jc⟩,h1,h2⟩k=>⟨k z (by simp) _ hz,k TI (by simp) _ iU,⟨u,v,k TO (by simp) _ jc⟩,h1.keep λo e=>k i1 (by simp) o e,h2.keep λo e=>k i2 (by simp) o e⟩
 item:=by
  intro X hP hw hK hc i ae s σ H E I hf st hg;subst hP hw hK;obtain⟨hz,iU,⟨u,v,jc⟩,h1,h2⟩:=st;obtain⟨xs,ys,x,y,sx,sy,ex,ey⟩:=hg;obtain⟨aI,rv,p,_⟩:=I.Cp sx;obtain⟨dD,Dg,p2,_⟩:=I.Cp sy;obtain⟨ux,Sl,rx⟩:=rv.get ex;obtain⟨uy,Sm,ry⟩:=Dg.get ey;obtain⟨n1,n2,n3,n4,n5,n6,n7,n8,n9,KU⟩:=ne;have fz:=hf z (by simp);have cK:∀{b:Bool}{l:_O}{zs:List V},vF b X.K H l zs->∀c∈[z,TI,TO,i1,i2],l≠c:=λ{b l zs}hs c cz=>I.zK hs (hf c cz);have D:ZipApart z TI TO i1 i2 a b:=⟨n1.symm,n2.symm,n3.symm,n4.symm,n5,n6,n7,n8,n9,KU,cK sx z (by simp),cK sx TO (by simp),cK sx i1 (by simp),cK sx i2 (by simp),cK sy z (by simp),cK sy TO (by simp),cK sy i1 (by simp),cK sy i2 (by simp)⟩
  refine A8 (b1:=b1) (b2:=b2) D hz iU jc h1 h2 p p2 (x:=ux) (y:=uy) (by simpa using Sl) (by simpa using Sm) λh' a1 a2 a3 a4 a5 a6=>⟨_,rfl,?_⟩
  have hT:H s.heap.objs.size=none:=I.b?.fresh (Vy _);have KW:∀c∈[z,TO,i1,i2],H c=none:=λc cz=>(hf c (by simp at cz⊢;rcases cz with q|q|q|q<;>simp[q])).1;have kp:∀c o,c ∉ [z,TO,i1,i2]->s.heap.get? c=some o->h'.get? c=some o:=λc o cz e=>a6 c o (λq=>cz (by simp[q])) (λq=>cz (by simp[q])) (λq=>cz (by simp[q])) (λq=>cz (by simp[q])) e;have rW:∀c o,H c=some o->c ∉ [z,TO,i1,i2]:=λc o e cz=>by rw[KW c cz]at e;cases e
  have b?:iQ X.prog X.w (upd H s.heap.objs.size (.tup [x,y])) h':=λc o e=>by
   by_cases OL:c=s.heap.objs.size
   .subst OL;rw[cg]at e;cases e;exact⟨by show 2<=sizeLine;decide,[ux,uy],.cons rx (.cons ry .nil),_,a5,rfl,_,rfl⟩
   .rw[a8 OL]at e;refine(I.b? c o e).k_ (λd v hd q=>kp d v ?_ q) (λd q=>by rw[a8 (bc q hT)];exact q) λd zs q=>by rw[a8 (bc q hT)];exact q
    rcases hd with q'|q'
    .rw[q'];exact rW c o e
    .exact rW d _ q'
  have un:Un (gy X.stack) [z,TO,i1,i2] H (upd H s.heap.objs.size (.tup [x,y])) s.heap h':=
   ⟨λc o e n _ cz=>kp c o cz e,λc o e n _ cz=>⟨o.slots,kp c o cz e⟩,λc o e n cz=>by rw[a8 (VX (Vz e))];exact n,λc o e cz=>⟨o,kp c o cz e⟩,
    λc zs e=>by rw[a8 (bc e hT)];exact e,λc o u e=>by rw[a8 (bc e hT)];exact e,λc ps e=>⟨#[],by rw[a8 (bc e hT),e];simp⟩⟩
  have I1:aM X ae σ (upd H s.heap.objs.size (.tup [x,y])) {s with heap:=h'}:=I.rY rfl un b? I.bare λc cz=>by obtain⟨f0,f1,f2,f3,f4,f5⟩:=hf c (by simp at cz⊢;rcases cz with q|q|q|q<;>simp[q]);exact⟨f3,f1,f4,f5⟩
  have Sn:∀c∈[z,TI,TO,i1,i2],c≠s.heap.objs.size:=λc cz q=>by
   have lG:c<s.heap.objs.size:=by
    have KY:c=z\/c=TI\/c=TO\/c=i1\/c=i2:=by simpa using cz
    rcases KY with r|r|r|r|r
    .rw[r];exact Vz hz
    .rw[r];exact Vz iU
    .rw[r];exact Vz jc
    .obtain⟨o,_,_,e,_⟩:=h1.there;rw[r];exact Vz e
    .obtain⟨o,_,_,e,_⟩:=h2.there;rw[r];exact Vz e
   exact absurd lG (by rw[q];exact V9 _)
  have KZ:∀c∈[z,TI,TO,i1,i2],(upd H s.heap.objs.size (.tup [x,y])) c=none:=λc cz=>by rw[a8 (Sn c cz)];exact(hf c cz).1
  refine wpAny_letOwnedTupleGo_zip a1 λK0 So sb=>?_;obtain⟨f0,f1,f2,f3,f4,f5⟩:=fz;have I2:aM X ae σ (upd H s.heap.objs.size (.tup [x,y])) {s with heap:=K0}:=I1.turned (s:={s with heap:=h'}) (t':=s.toks) (it:=z) (λc o cz e=>(sb.2 c cz).trans e) (KZ z (by simp)) f1 f3 f4 f5;refine⟨.ref s.heap.objs.size,_,I2,rfl,⟨_,x,y,rfl,hT,rfl,λzs hs=>by rw[I.oO hs sx];exact ex,λzs hs=>by rw[I.oO hs sy];exact ey⟩,⟨So,?_,⟨_,_,sb.extBut _ _ n2.symm a2⟩,a3.keep λo e=>sb.extBut _ o n3.symm e,a4.keep λo e=>sb.extBut _ o n4.symm e⟩,KZ⟩;exact sb.extBut _ _ n1.symm (a6 _ _ n1.symm n5 n6 n7 iU)
 done:=by
  intro X hP hw hK hc i ae s σ H E I hf st hg;subst hP hw hK;obtain⟨hz,iU,⟨u,v,jc⟩,h1,h2⟩:=st;obtain⟨xs,ys,sx,sy,hl⟩:=hg;obtain⟨aI,rv,p,_⟩:=I.Cp sx;obtain⟨dD,Dg,p2,_⟩:=I.Cp sy;have l1:=rv.length;have l2:=Dg.length;obtain⟨n1,n2,n3,n4,n5,n6,n7,n8,n9,KU⟩:=ne;have cK:∀{b:Bool}{l:_O}{zs:List V},vF b X.K H l zs->∀c∈[z,TI,TO,i1,i2],l≠c:=λ{b l zs}hs c cz=>I.zK hs (hf c cz);have D:ZipApart z TI TO i1 i2 a b:=⟨n1.symm,n2.symm,n3.symm,n4.symm,n5,n6,n7,n8,n9,KU,cK sx z (by simp),cK sx TO (by simp),cK sx i1 (by simp),cK sx i2 (by simp),cK sy z (by simp),cK sy TO (by simp),cK sy i1 (by simp),cK sy i2 (by simp)⟩
  refine Dd (b1:=b1) (b2:=b2) (I.ok.hd hc) D hz iU jc h1 h2 p p2 (by rcases hl with q|q;exact .inl (by simp;lia);exact .inr (by simp;lia)) λh' a6=>⟨rfl,?_⟩
  have KW:∀c∈[z,TO,i1,i2],H c=none:=λc cz=>(hf c (by simp at cz⊢;rcases cz with q|q|q|q<;>simp[q])).1;have kp:∀c o,c ∉ [z,TO,i1,i2]->s.heap.get? c=some o->h'.get? c=some o:=λc o cz e=>a6 c o (λq=>cz (by simp[q])) (λq=>cz (by simp[q])) (λq=>cz (by simp[q])) (λq=>cz (by simp[q])) e;have rW:∀c o,H c=some o->c ∉ [z,TO,i1,i2]:=λc o e cz=>by rw[KW c cz]at e;cases e
  have b?:iQ X.prog X.w H h':=λc o e=>by
   refine(I.b? c o e).k_ (λd v hd q=>kp d v ?_ q) (λd q=>q) λd zs q=>q;rcases hd with q'|q'
   .rw[q'];exact rW c o e
   .exact rW d _ q'
  have un:Un (gy X.stack) [z,TO,i1,i2] H H s.heap h':=
   ⟨λc o e n _ cz=>kp c o cz e,λc o e n _ cz=>⟨o.slots,kp c o cz e⟩,λc o e n cz=>n,λc o e cz=>⟨o,kp c o cz e⟩,λc zs e=>e,λc o u e=>e,λc ps e=>⟨#[],by rw[e];simp⟩⟩
  exact I.rY rfl un b? I.bare λc cz=>by obtain⟨f0,f1,f2,f3,f4,f5⟩:=hf c (by simp at cz⊢;rcases cz with q|q|q|q<;>simp[q]);exact⟨f3,f1,f4,f5⟩
 self:=λ_ _ _ _ _ st h=>Zb st.1 h
section
variable{p:Pos}
def OM(K:_G)(b1 b2:Bool)(ta:TA):TI:=λσ H R=>ta σ H λvs H1=>∃a b,vs=[.ref a,.ref b]/\(∃xs,vF b1 K H1 a xs)/\(∃ys,vF b2 K H1 b ys)/\R (Sk K b1 b2 a b) H1
theorem K3(b1 b2:Bool){ea:Expr}{ta:TA}(hg:Gl X "zip")(hm:X.mg "zip" = none)(ha:PA X [ea,eb] ta)(hs:starEach [ea,eb] X.env=[(false,eval ea X.env),(false,eval eb X.env)]:=by rfl)(fU:starEach [eb] X.env=[(false,eval eb X.env)]:=by rfl):
  PI X (.Tuple elts kt tp) (.Call (.Name "zip" p) [ea,eb] [] pos) (OM X.K b1 b2 ta):=by
 intro ae s σ H R I h;refine Call_ (kA I hg hm boot_zip (Xr (dA (ha pos ae s σ H _ I h) λus s1⟨vs,H1,I1,r1,q1⟩=>?_) (by rw[hs,fU]) (by rw[fU];rfl)));obtain⟨a,b,e,⟨xs,sx⟩,⟨ys,sy⟩,q⟩:=q1;subst e;obtain⟨u,u2,rfl,ru,GH⟩:=vals2 r1;cases ru;cases GH;obtain⟨aI,rv,p1,_⟩:=I1.Cp sx;obtain⟨dD,Dg,p2,_⟩:=I1.Cp sy;refine vE (b1:=b1) (b2:=b2) p1 p2 λh' hz iU jc g1 g2 kp=>Zb hz ?_;have I2:aM X ae σ H1 {s1 with heap:=h'}:=I1.kept (t':=s1.toks) kp;refine⟨_,[s1.heap.objs.size+4,s1.heap.objs.size+2,s1.heap.objs.size+3,s1.heap.objs.size,s1.heap.objs.size+1],_,_,H1,rfl,I2,Df (b1:=b1) (b2:=b2) a b ?_,⟨hz,iU,⟨_,_,jc⟩,g1,g2⟩,λc hc=>?_,q⟩
 .refine⟨?_,?_,?_,?_,?_,?_,?_,?_,?_,?_⟩<;>(intro z;have z':(_:Nat)=_:=z;lia)
 .have hle:s1.heap.objs.size<=c:=by
   have cz:c=s1.heap.objs.size+4\/c=s1.heap.objs.size+2\/c=s1.heap.objs.size+3\/c=s1.heap.objs.size\/c=s1.heap.objs.size+1:=by simpa using hc
   rcases cz with r|r|r|r|r<;>(rw[r];first|exact Vy _|exact YY _ _)
  exact I1.CF hle (I1.b?.fresh hle)
end
theorem cj.there{h:Heap}{a:_O}{o:HO}(x:cj P w H h a o):∃ob,h.get? a=some ob:=by
 cases o with
 |lst xs=>obtain⟨_,_,_,_,e⟩:=x;exact⟨_,e⟩
 |tup xs=>obtain⟨_,_,_,ob,e,_⟩:=x;exact⟨_,e⟩
 |dK aD=>obtain⟨_,_,_,_,o,_,_,e,_⟩:=x;exact⟨_,e⟩
 |dT aD=>obtain⟨_,_,_,_,o,_,_,e,_⟩:=x;exact⟨_,e⟩
 |set S n=>obtain⟨o,_,_,_,e,_⟩:=x;exact⟨_,e⟩
 |ins C dx fs=>obtain⟨_,_,_,e,_⟩:=x;exact⟨_,e⟩
 |own y=>obtain⟨_,e⟩:=x;exact⟨_,e⟩
 |xd fs=>obtain⟨_,⟨_,_,_,e,_⟩,_⟩:=x;exact⟨_,e⟩
 |Qt lo hi=>obtain⟨_,_,_,e⟩:=x;exact⟨_,e⟩
 |kx ob u=>obtain⟨e,_⟩:=x;exact⟨_,e⟩
 |FD ps=>exact⟨_,(show h.get? a=some _ from x)⟩
 |met f y=>exact⟨_,(show h.get? a=some _ from x)⟩
 |ext φ=>obtain⟨_,e,_⟩:=x;exact e
structure US(P:_Q)(w:World)(l:List Env)(H H':Hp)(s s':_N)(ea:_O)(cls:_M):Prop where
 os:s'.os=s.os
 bare:AllBare s'.gens
 un:Un (gy l) [] H H' s.heap s'.heap
 b?:iQ P w H' s'.heap
 fl:∃(B:Heap)(t:_O),Heap.FlyingW B l ea cls (.ref t) s'.heap/\(∀b,H' b≠none->∃o,B.get? b=some o)/\(∀b o,s.heap.get? b=some o->b ∉ gy l->∃o',B.get? b=some o')
 tr:pw s'.heap ea
def kX(P:_Q)(w:World):xy:=λouter H s E e s'=>∃ea cls H',e=.ref ea/\US P w outer H H' s s' ea cls/\E cls none H'
section
variable{K:_G}{mg:_E}{base:Heap}{qual:Str}{scope:Scope}{cd:_M}{outer:List Env}
theorem vG{env:Env}{L:_O}(hf:env.frame=some L)(l:List Env):gy (env::l)=L::gy l:=by unfold gy;rw[Yn,hf]
theorem A9{s:_N}{e:_O}(I:aM (ip (kX P w) P w K mg base N qual scope f cd A outer s₀ H₀ E) ae σ H s)(hx:Heap.MadeExcOf s.heap h' e cls vs)(hE:E cls none H):(ip (kX P w) P w K mg base N qual scope f cd A outer s₀ H₀ E).xe (.ref e) {s with heap:=h'}:=by
 have AJ:=I.stack;have zj:=I.oK;have ve:(A.deeper (envOfC qual scope s₀.heap.objs.size f cd)).frames=some (envOfC qual scope s₀.heap.objs.size f cd::outer):=I.ok.frames;have ON:gy (envOfC qual scope s₀.heap.objs.size f cd::outer)=s₀.heap.objs.size::gy outer:=vG rfl outer;have Jh:∀env∈(envOfC qual scope s₀.heap.objs.size f cd::outer),∀b,env.frame=some b->b∈gy (envOfC qual scope s₀.heap.objs.size f cd::outer):=λenv he b hb=>Zy.mpr ⟨env,he,hb⟩;have Ji:∀b o,s₀.heap.get? b=some o->b ∉ gy outer->b ∉ gy (envOfC qual scope s₀.heap.objs.size f cd::outer):=λb o q hb hm=>by
  rw[ON]at hm;rcases VO.mp hm with z|z
  .exact absurd (Vz q) (by rw[z];exact V9 _)
  .exact hb z
 refine t5 (base:=W.hideAll s.heap (gy (envOfC qual scope s₀.heap.objs.size f cd::outer))) (h:=s.heap) ve rfl (λb o q=>Z1 _ q) (W.funFrames_hide AJ Jh) hx λK0 t fl up tr=>?_;have stays:∀b o,s.heap.get? b=some o->b ∉ gy (envOfC qual scope s₀.heap.objs.size f cd::outer)->K0.get? b=some o:=λb o q hb=>fl.1 b o (X6 _ q hb);have rW:∀b u,H b=some u->b ∉ gy (envOfC qual scope s₀.heap.objs.size f cd::outer):=λb u q hb=>by rw[zj b hb]at q;cases q
 have slot:∀b o,s₀.heap.get? b=some o->H₀ b=none->b∈gy outer->∃sl,K0.get? b=some {o with slots:=sl}:=λb o q n hb=>by obtain⟨sl,e1⟩:=I.base.slot b o q n hb (by intro z;cases z);obtain⟨_,o',rX,A2⟩:=AJ.mem (show b∈gy (envOfC qual scope s₀.heap.objs.size f cd::outer) by rw[ON];exact VJ _ hb);rw[e1]at rX;cases rX;obtain⟨IX,e2⟩:=up b _ (hx.keeps _ _ e1) A2;exact⟨IX,e2⟩
 have nil:∀b:_O,b ∉ (ip (kX P w) P w K mg base N qual scope f cd A outer s₀ H₀ E).ex:=λb z=>by cases z
 refine⟨e,cls,H,rfl,⟨I.os,I.bare,⟨λb o q n hb _=>stays b o (I.base.keep b o q n hb (nil b)) (Ji b o q hb),λb o q n hb _=>slot b o q n hb,λb o q n _=>I.base.free b o q n (nil b),λb o q _=>?_,I.base.ky,I.base.j6,I.base.k!⟩,λb u q=>?_,⟨W.hideAll s.heap (gy (envOfC qual scope s₀.heap.objs.size f cd::outer)),⟨t,fl,λb hb=>?_,λb o q hb=>?_⟩⟩,tr⟩,hE⟩
 .by_cases hb:b∈gy outer
  .obtain⟨sl,e1⟩:=slot b o q (I.ok.Cn b hb) hb;exact⟨_,e1⟩
  .obtain⟨o',e1⟩:=I.base.there b o q (nil b);exact⟨o',stays b o' e1 (Ji b o q hb)⟩
 .refine(I.b? b u q).k_ (λc v hc z=>stays c v z ?_) (λ_ z=>z) λ_ _ z=>z;rcases hc with z'|z'
  .rw[z'];exact rW b u q
  .exact rW c _ z'
 .cases q:H b with
  |none=>exact absurd q hb
  |some u=>
   obtain⟨o,e1⟩:=(I.b? b u q).there;exact⟨o,X6 _ e1 (rW b u q)⟩
 .obtain⟨o',e1⟩:=I.base.there b o q (nil b);exact⟨o',X6 _ e1 (Ji b o q hb)⟩
theorem Dh:Passes (kX P w) (ip (kX P w) P w K mg base N qual scope f cd A outer s₀ H₀ E) E:=by
 rintro ae σ H s e s' I ⟨ea,cls,H',rfl,Z,hE⟩;obtain⟨B,t,fl,ct,cs⟩:=Z.fl;have ve:(A.deeper (envOfC qual scope s₀.heap.objs.size f cd)).frames=some (envOfC qual scope s₀.heap.objs.size f cd::outer):=I.ok.frames;have ON:gy (envOfC qual scope s₀.heap.objs.size f cd::outer)=s₀.heap.objs.size::gy outer:=vG rfl outer;have Ji:∀b o,s₀.heap.get? b=some o->b ∉ gy outer->b ∉ gy (envOfC qual scope s₀.heap.objs.size f cd::outer):=λb o q hb hm=>by
  rw[ON]at hm;rcases VO.mp hm with z|z
  .exact absurd (Vz q) (by rw[z];exact V9 _)
  .exact hb z
 have sub:∀b,b∈gy outer->b∈gy (envOfC qual scope s₀.heap.objs.size f cd::outer):=λb hb=>by rw[ON];exact VJ _ hb
 have nil:∀b:_O,b ∉ (ip (kX P w) P w K mg base N qual scope f cd A outer s₀ H₀ E).ex:=λb z=>by cases z
 refine xM ve rfl fl Z.tr λK0 Sq up tr=>?_;have GI:∀b o,s'.heap.get? b=some o->(∃o',B.get? b=some o')->K0.get? b=some o:=λb o q⟨o',z⟩=>by have q':=fl.1 b o' z;rw[q]at q';cases q';exact Sq.1 b o z
 have slot:∀b o,s₀.heap.get? b=some o->H₀ b=none->b∈gy outer->∃sl,K0.get? b=some {o with slots:=sl}:=λb o q n hb=>by obtain⟨sl,e1⟩:=I.base.slot b o q n hb (nil b);obtain⟨Oc,e2⟩:=Z.un.slot b _ e1 (I.base.free b o q n (nil b)) (sub b hb) (by intro z;cases z);obtain⟨_,o',rX,A2⟩:=fl.2.2.1.mem (sub b hb);rw[e2]at rX;cases rX;obtain⟨IX,e3⟩:=up b _ e2 A2;exact⟨IX,e3⟩
 refine⟨ea,cls,H',rfl,⟨Z.os.trans I.os,Z.bare,⟨λb o q n hb _=>?_,λb o q n hb _=>slot b o q n hb,λb o q n _=>?_,λb o q _=>?_,λb xs q=>Z.un.ky b xs (I.base.ky b xs q),λb o u q=>Z.un.j6 b o u (I.base.j6 b o u q),λb ps q=>?_⟩,λb u q=>?_,⟨B,t,Sq,ct,λb o q hb=>?_⟩,tr⟩,hE⟩
 .have e1:=I.base.keep b o q n hb (nil b);have n1:=I.base.free b o q n (nil b);have nf:=Ji b o q hb;exact GI b o (Z.un.keep b o e1 n1 nf (by intro z;cases z)) (cs b o e1 nf)
 .obtain⟨o',e1⟩:=I.base.there b o q (nil b);exact Z.un.free b o' e1 (I.base.free b o q n (nil b)) (by intro z;cases z)
 .by_cases hb:b∈gy outer
  .obtain⟨sl,e1⟩:=slot b o q (I.ok.Cn b hb) hb;exact⟨_,e1⟩
  .obtain⟨o',e1⟩:=I.base.there b o q (nil b);obtain⟨o2,e2⟩:=cs b o' e1 (Ji b o q hb);exact⟨o2,Sq.1 b o2 e2⟩
 .obtain⟨m1,e1⟩:=I.base.k! b ps q;obtain⟨m2,e2⟩:=Z.un.k! b _ e1;exact⟨m1++m2,by rw[e2,Array.append_assoc]⟩
 .refine(Z.b? b u q).k_ (λc v hc z=>GI c v z (ct c ?_)) (λ_ z=>z) λ_ _ z=>z;rcases hc with z'|z'
  .rw[z',q];simp
  .rw[z'];simp
 .obtain⟨o',e1⟩:=I.base.there b o q (nil b);exact cs b o' e1 (Ji b o q hb)
theorem FH.okX{x:Str}{st:Stmt}{fd:FuncData}{ps:_L}{k:Nat}(F:FH K x qual st f fd)(S:fj N ps (aV st))(len:∀vs H Q E,sp vs H Q E->vs.length=ps.length)
  (vk:∀ (ej:_M) (A:_P) (outer:List Env) (s:_N) (H:Hp) (vs:List V) (Q:VK) (E:XK),fJ k (A.deeper (envOfC qual (aV st) s.heap.objs.size f ej))->sp vs H Q E ->
   ∃t,jk (ip (kX P w) P w K mg base N qual (aV st) f ej A outer s H E) (dH st) t/\t {nx:=λ_ H'=>Q .c6 H',rt:=Q} (start N vs) H):jr P w K mg base (kX P w) (k+1) f fd ps sp:=by
 obtain⟨oc,od,kV,doc,pm,an,ej,ct,AR,rfl,lk,o?⟩:=F.ex;exact Ob lk o? S len λA outer s H vs Q E hr I?=>vk ej A outer s H vs Q E hr I?
end
theorem Sr(f:Option _O->ClassData->Array (_J)->Bool)(o:Option Obj)(q:W.excIn.match_6 (λ_=>Bool) o f (λ_=>false)=true):∃dd cd sl,o=some ⟨.type "type",dd,.cls cd,sl⟩/\f dd cd sl=true:=by
 rcases o with _|⟨c,dd,d,sl⟩
 .exact absurd q VH
 cases c
 case type t=>
  by_cases z:t = "type"
  .subst z;cases d
   case cls cd=>exact⟨dd,cd,sl,rfl,q⟩
   all_goals exact absurd q VH
  .delta W.excIn.match_6 at q
   replace q:dite (t = "type") _ (λ_=>false)=true:=q;rw[dif_neg z]at q;exact absurd q VH
 all_goals exact absurd q VH
theorem Ss(f:_O->_I->_J->_J->_J->_J->String->_J->Bool)(a:_I)(b:List (_J))(q:W.excIn.match_1 (λ_ _=>Bool) a b f (λ_ _=>false)=true):∃C bm k0 k1 k2 k3 n k5,a=.ref C::bm/\b=[k0,k1,k2,k3,some (.builtin n),k5]/\f C bm k0 k1 k2 k3 n k5=true:=by
 rcases a with _|⟨m,bm⟩
 .exact absurd q VH
 cases m
 case ref C=>
  rcases b with _|⟨k0,_|⟨k1,_|⟨k2,_|⟨k3,_|⟨_|k4,r⟩⟩⟩⟩⟩
  case cons.cons.cons.cons.cons.some=>
   cases k4
   case builtin n=>
    rcases r with _|⟨k5,_|k6⟩
    case cons.nil=>exact⟨C,bm,k0,k1,k2,k3,n,k5,rfl,rfl,q⟩
    all_goals exact absurd q VH
   all_goals exact absurd q VH
  all_goals exact absurd q VH
 all_goals exact absurd q VH
theorem A_{K:_G}{h:Heap}{mg:_E}{x:Str}{UT:_I}(X:K.In h)(hb:mg x=some (.ref C))(q:W.excIn K C UT newId=true):OwnCls x C UT newId mg h:=by obtain⟨dd,⟨nm,bs,mro,ns,qn,hd,sn,sub,ab,col,del⟩,⟨sl⟩,ho,q⟩:=Sr _ _ q;obtain⟨C',bm,k0,k1,k2,k3,n,k5,e1,e2,q⟩:=Ss _ _ _ q;dsimp only at e1 e2;subst e1 e2;simp only[Wt,WC,YW]at q;obtain⟨⟨⟨⟨⟨rfl,rfl⟩,rfl⟩,ht⟩,b?⟩,Su⟩:=q;exact⟨hb,bm,ns,nm,qn,bs,hd,sn,sub,ab,col,dd,k0,k1,k2,k3,k5,_,X _ _ ho,.of_isNs (W.isNs_of_in X b?),W.nsMap_none_of_in X b? Su,W.tail_of_in X ht⟩
def K5(E:XK)(C:_O)(t:TA):TS:=λ_ σ H=>t σ H λvs H1=>vs.length<=sizeLine/\E (.ref C) none H1
def Raises(X:Cx)(E:XK):Prop:=∀(ae:_F)(σ:St)(H:Hp)(s:_N)(h':Heap)(e:_O)(cls:_M)(vs:_I),aM X ae σ H s->Heap.MadeExcOf s.heap h' e cls vs->E cls none H->X.xe (.ref e) {s with heap:=h'}
theorem Di{x:Str}{B xS:String}{bm:_I}{rest:List Expr}{t:TA}(hX:Raises X E)(hc:X.calm=true)(hm:X.mg x=some (.ref C))(hq:W.excIn X.K C bm newId=true)(FB:ExcBaseFacts B newId xS bm)(hg:Gl X x)(ha:PA X (e₀::rest) t)(he:starEach (e₀::rest) X.env=(false,eval e₀ X.env)::starEach rest X.env:=by rfl)(iR:(backTo bM (starEach rest X.env)).any (·.1)=false:=by rfl)(hd:(x==("__debug__":Str))=false:=by decide):
  PS X (.Raise (some (.Call (.Name x np) (e₀::rest) [] bM)) none pos) (K5 E C t):=by
 intro ae s σ H D I h;obtain⟨tl,NS,nm,q,bs,hdct,sn,sub,ab,col,dd,k0,k1,k2,k3,k5,mN,hC,hN,Su,T⟩:=(A_ I.mod.IV hm hq).obj;refine wpAny_Raise_call_subT (C:=C) (nm:=nm) (q:=q) (N:=NS) (bs:=bs) (bm:=tl) (hdct:=hdct) (sn:=sn) (sub:=sub) (ab:=ab) (col:=col) (dd:=dd) (k0:=k0) (k1:=k1) (k2:=k2) (k3:=k3) (k5:=k5)
  FB (mN:=mN) (T.hasType FB.hasBase) (I.ok.hd hc) (by rw[he];show(false || (backTo bM (starEach rest X.env)).any (·.1))=false;rw[iR];rfl) Su (jO I hg hm ⟨rfl,?_⟩ hd)
 have hA:=ha bM ae s σ H _ I h;rw[he]at hA⊢;exact X' (dA hA λus s2⟨vs,H2,I2,r2,z,q2⟩=>⟨rfl,by rw[<-r2.length];exact z,I2.bk _ _ hC,hN.keeps I2.bk,T.keeps I2.bk,λh' e GJ=>hX ae σ H2 s2 h' e _ _ I2 GJ q2⟩)
structure DefX(X:Cx):Prop where
 fn:∀y,X.fn y=true
 FF:X.stack=X.env::X.outer
 fr:X.env.frame=some X.env.locals
structure vH(X:Cx)(ae:_F)(σ:St)(H:Hp)(s:_N)(ea:_O)(cls:_M):Prop where
 inv:aM X ae σ H s
 fl:∃(B:Heap)(t:_O),Heap.FlyingW B X.stack ea cls (.ref t) s.heap/\(∀b,H b≠none->∃o,B.get? b=some o)/\(∀b o,X.s₀.heap.get? b=some o->b ∉ gy X.stack->b ∉ X.ex->∃o',B.get? b=some o')/\(∀p∈X.pn++ae,∃o',B.get? p.1=some o')/\(∀x c,X.env.cells.lookup x=some c->∃o,B.get? c=some o)
 tr:pw s.heap ea
section
variable{s s':_N}
theorem aM.GK(I:aM X ae σ H s){b:_O}(h1:b≠X.env.locals)(h2:b ∉ X.fs):b ∉ gy X.stack:=λz=>(VO.mp (I.kz b z)).elim h1 h2
theorem aM.slots{B h':Heap}(I:aM X ae σ H s)(sB:B.StaysIn s.heap)(c1:∀b,H b≠none->∃o,B.get? b=some o)(c2:∀b o,X.s₀.heap.get? b=some o->b ∉ gy X.stack->b ∉ X.ex->∃o',B.get? b=some o')(c3:∀p∈X.pn++ae,∃o',B.get? p.1=some o')(c4:∀x c,X.env.cells.lookup x=some c->∃o,B.get? c=some o)(k1:B.StaysIn h')(k2:s.heap.UpToSlots h'):aM X ae σ H {s with heap:=h'}:=by
 have GI:∀b o,s.heap.get? b=some o->(∃o',B.get? b=some o')->h'.get? b=some o:=λb o q⟨o',z⟩=>by have q':=sB b o' z;rw[q]at q';cases q';exact k1 b o z
 have Cw:∀b o,X.s₀.heap.get? b=some o->b≠X.env.locals:=λb o e=>VX (VG (Vz e) I.ok.above);have slot:∀b o,X.s₀.heap.get? b=some o->X.H₀ b=none->b∈X.fs->b ∉ X.ex->∃sl,h'.get? b=some {o with slots:=sl}:=λb o q n hb hx=>by obtain⟨sl,e1⟩:=I.base.slot b o q n hb hx;obtain⟨_,o',rX,A2⟩:=I.jo.mem hb;rw[e1]at rX;cases rX;obtain⟨IX,e2⟩:=k2 b _ e1 A2;exact⟨IX,e2⟩
 refine⟨I.ok,I.os,I.bare,⟨λb o q n hb hx=>?_,slot,I.base.free,λb o q hx=>?_,I.base.ky,I.base.j6,I.base.k!⟩,?_,λx c e=>?_,I.free,I.gA,λp hp=>?_,λb u q=>?_,I.len⟩
 .exact GI b o (I.base.keep b o q n hb hx) (c2 b o q (I.GK (Cw b o q) hb) hx)
 .by_cases hb:b∈X.fs
  .obtain⟨sl,e1⟩:=slot b o q (I.ok.Cn b hb) hb hx;exact⟨_,e1⟩
  .obtain⟨o',e1⟩:=I.base.there b o q hx;exact⟨o',GI b o' e1 (c2 b o q (I.GK (Cw b o q) hb) hx)⟩
 .obtain⟨m,hn,hl⟩:=I.loc;refine⟨m,k2.ns hn,λi x v e1 e2 e3=>?_⟩;obtain⟨u,r,l⟩:=hl i x v e1 e2 e3;refine⟨u,r,?_⟩;rcases l with l|⟨k,c,e,o,ho,hd⟩
  .exact .inl l
  .exact .inr ⟨k,c,e,o,GI c o ho (c4 x c e),hd⟩
 .obtain⟨v,o,ho,hd⟩:=I.cell x c e;exact⟨v,o,GI c o ho (c4 x c e),hd⟩
 .obtain⟨e,n,ne,nf,d⟩:=I.pin p hp;exact⟨GI p.1 p.2 e (c3 p hp),n,ne,nf,d⟩
 .refine(I.b? b u q).k_ (λc v hc z=>GI c v z (c1 c ?_)) (λ_ z=>z) λ_ _ z=>z;rcases hc with z'|z'
  .rw[z',q];simp
  .rw[z'];simp
theorem vH.slots(J:vH X ae σ H s ea cls):∃(B:Heap)(t:_O),Heap.FlyingW B X.stack ea cls (.ref t) s.heap/\H ea=none/\∀h',Heap.FlyingW B X.stack ea cls (.ref t) h'->s.heap.UpToSlots h'->pw h' ea->vH X ae σ H {s with heap:=h'} ea cls:=by
 obtain⟨B,t,fl,c1,c2,c3,c4⟩:=J.fl;refine⟨B,t,fl,?_,λh' f2 up tr=>⟨J.inv.slots fl.1 c1 c2 c3 c4 f2.1 up,⟨B,t,f2,c1,c2,c3,c4⟩,tr⟩⟩;cases q:H ea with
 |none=>rfl
 |some u=>
  obtain⟨o,e⟩:=c1 ea (by rw[q];simp);rw[fl.2.1]at e;cases e
theorem aM.flew(I:aM X ae σ H s)(Cz:∀y,X.fn y=true)(Z:US X.prog X.w X.stack H H' s s' ea cls):vH X ae σ H' s' ea cls:=by
 obtain⟨B,t,fl,ct,cs⟩:=Z.fl;have cl:∀x c,X.env.cells.lookup x=some c->c ∉ gy X.stack:=λx c e=>I.GK (I.AI x c e) λhb=>by obtain⟨_,o,ho,_⟩:=I.ok.jo.mem hb;exact absurd (VG (Vz ho) (I.ok.IW x c (Cz x) e)) (V9 _)
 refine⟨I.rY Z.os Z.un Z.b? Z.bare λb z=>absurd z (by simp),⟨B,t,fl,ct,λb o q hb hx=>?_,λp hp=>?_,λx c e=>?_⟩,Z.tr⟩
 .obtain⟨o',e1⟩:=I.base.there b o q hx;exact cs b o' e1 hb
 .obtain⟨e,n,ne,nf,d⟩:=I.pin p hp;exact cs p.1 p.2 e (I.GK ne nf)
 .obtain⟨v,o,ho,_⟩:=I.cell x c e;exact cs c o ho (cl x c e)
end
abbrev EK:=_M->_O->St->Hp->Prop
abbrev EH:=_M->_O->Hp->Prop
abbrev OO:=St->Hp->VK->EH->Prop
abbrev K6:=Ends->EK->St->Hp->Prop
def XP(X:Cx)(ae:_F)(EX:EK)(e:_M)(s':_N):Prop:=∃ea cls σ' H',e=.ref ea/\vH X ae σ' H' s' ea cls/\EX cls ea σ' H'
abbrev atS(σ:St)(EX:EH):EK:=λcls ea σ' H'=>σ'=σ/\EX cls ea H'
def FK(X:Cx)(e:Expr)(t:OO):Prop:=
 ∀(ae:_F)(s:_N)(σ:St)(H:Hp)(Q:VK)(EX:EH),aM X ae σ H s->t σ H Q EX->wpAny (model X.prog X.w) X.A (eval e X.env) (EP X ae σ Q) (XP X ae (atS σ EX)) s
def GL(X:Cx)(st:Stmt)(t:K6):Prop:=
 ∀(ae:_F)(s:_N)(σ:St)(H:Hp)(D:Ends)(EX:EK),aM X ae σ H s->t D EX σ H->wpAny (model X.prog X.w) X.A (exec st X.env) (SP X ae D) (XP X ae EX) s
def A!(X:Cx)(st:List Stmt)(t:K6):Prop:=
 ∀(ae:_F)(s:_N)(σ:St)(H:Hp)(D:Ends)(EX:EK),aM X ae σ H s->t D EX σ H->wpAny (model X.prog X.w) X.A (execs st X.env) (SP X ae D) (XP X ae EX) s
theorem XP.at{EX:EK}{e:_M}{s':_N}(h:XP X ae (atS σ λcls ea H'=>EX cls ea σ H') e s'):XP X ae EX e s':=by obtain⟨ea,cls,σ',H',rfl,J,rfl,q⟩:=h;exact⟨ea,cls,_,H',rfl,J,q⟩
def K7(sp:Sp)(t:TA):OO:=λσ H Q EX=>t σ H λvs H1=>sp vs H1 Q λcls _ H'=>∀ea,EX cls ea H'
theorem Dj{k:Nat}{fd:FuncData}{ps:_L}{x:Str}{p:Pos}{e:Expr}{t:TA}(F:jr X.prog X.w X.K X.mg X.base (kX X.prog X.w) k f fd ps sp)(hr:fJ k X.A)(hg:Gl X x)(hm:X.mg x=some (.ref f))(hk:PySem.W.keepIn X.K (.ref f)=true)(hb:Binds X.K fd ps [])(Cz:∀y,X.fn y=true)(ha:∀W,PA (X.pf W) (e::es) t)(kC:(x==("__debug__":Str))=false:=by decide)(he:starEach (e::es) X.env=(false,eval e X.env)::starEach es X.env:=by rfl)(iR:(backTo pos (starEach es X.env)).any (·.1)=false:=by rfl):
  FK X (.Call (.Name x p) (e::es) [] pos) (K7 sp t):=by
 intro ae s σ H Q EX I h;refine Xt (jO I hg hm ?_ kC);refine YJ (h₀:=X.base) I.ok.mod.IV hk (dA (ha (XP X ae (atS σ EX)) pos ae s σ H _ (I.pf _) h) λus s1⟨vs,H1,I1,r,q⟩=>⟨I1.tM.nI,?_⟩) he iR;have I2:=I1.tM;have hl:(us++[]).length=ps.length:=by rw[Wa,<-r.length];exact F.len _ _ _ _ q
 have K8:=hb s1 us I2.nI hl;rw[Wa]at K8;refine Yy (Yd (F.run X.A X.stack s1 H1 ⟨us,[]⟩ us vs Q _ hr I2.Ko K8 r q) λr s' hq=>?_);cases r with
 |error e=>
  obtain⟨ea,cls,H',rfl,Z,hE⟩:=hq;exact⟨ea,cls,σ,H',rfl,I2.flew Cz Z,rfl,hE ea⟩
 |ok fl=>
  cases fl with
  |ret u=>exact I2.after hq
  |next=>exact False.elim hq
  |brk=>exact False.elim hq
  |cont=>exact False.elim hq
theorem GN{e:Expr}{te:OO}(he:FK X e te):GL X (.Return (some e) pos) (λD EX σ H=>te σ H D.rt λcls ea H'=>EX cls ea σ H'):=by intro ae s σ H D EX I h;exact wpAny_Return_some (Wz (he ae s σ H _ _ I h) (λv s1⟨x,H1,I1,r1,q1⟩=>⟨x,σ,H1,I1,r1,q1⟩) λ_ _ q=>q.at)
theorem Dk{st:Stmt}{t:K6}(h1:GL X st t):A! X [st] t:=by
 intro ae s σ H D EX I h;refine Zc (dA (h1 ae s σ H D EX I h) λf s1 q=>?_);cases f with
 |next=>exact XT q
 |ret v=>exact q
 |brk=>exact q
 |cont=>exact q
abbrev GO:=Ends->EK->_M->_O->St->Hp->Prop
def PH(X:Cx)(hs:List ExceptHandler)(th:GO):Prop:=
 ∀(ae:_F)(s:_N)(σ:St)(H:Hp)(D:Ends)(EX:EK)(ea:_O)(cls:_M),vH X ae σ H s ea cls->th D EX cls ea σ H->wpAny (model X.prog X.w) X.A (handleBy (.ref ea) X.env hs) (SP X ae D) (XP X ae EX) s
def K9:GO:=λ_ _ _ _ _ _=>False
theorem K_:PH X [] K9:=λ_ _ _ _ _ _ _ _ _ h=>h.elim
theorem GP{body:List Stmt}{tb:K6}{th:GO}(dx:DefX X)(hb:A! X body tb)(hh:PH X (h₀::hs) th):GL X (.Try body (h₀::hs) [] [] pos) (λD EX σ H=>tb D (λcls ea σ' H'=>th D EX cls ea σ' H') σ H):=by
 intro ae s σ H D EX I h;refine wpAny_Try_except (Wz (hb ae s σ H D _ I h) (λf s1 q=>?_) λe s1 q=>?_)
 .cases f with
  |next=>exact XT q
  |ret v=>exact q
  |brk=>exact q
  |cont=>exact q
 .obtain⟨ea,cls,σ',H',rfl,J,hE⟩:=q;obtain⟨B,t,fl,hn,go⟩:=J.slots;have ve:X.A.frames=some (X.env::X.outer):=by rw[<-dx.FF];exact J.inv.ok.frames
  refine A3 ve dx.fr (by rw[<-dx.FF];exact fl) J.tr λh4 held up4 tr4=>?_;refine KG held tr4 λh5 fl5 up5 tr5=>?_;exact hh ae _ σ' H' D EX ea cls (go h5 (by rw[dx.FF];exact fl5) (up4.trans up5) tr5) hE
theorem K!{body:List Stmt}{tb:K6}{th:GO}(dx:DefX X)(hb:A! X body tb)(hh:PH X (h₀::hs) th):
  PS X (.Try body (h₀::hs) [] [] pos) (λD σ H=>tb D (λcls ea σ' H'=>th D (λ_ _ _ _=>False) cls ea σ' H') σ H):=by
 intro ae s σ H D I h;exact Wz (GP dx hb hh ae s σ H D (λ_ _ _ _=>False) I h) (λ_ _ q=>q) λ_ _⟨_,_,_,_,_,_,z⟩=>z.elim
def vI(X:Cx)(ea:_O)(oe:Obj):Cx:={X with A:=X.A.mark (some (.ref ea)),calm:=false,pn:=(ea,oe)::X.pn,xe:=λ_ _=>False}
theorem vH.vI{s:_N}(J:vH X ae σ H s ea cls):∃oe,s.heap.get? ea=some oe/\oe.cls=cls/\Gx oe/\aM (L2.vI X ea oe) ae σ H s:=by
 obtain⟨B,t,fl,hn,_⟩:=J.slots;obtain⟨oe,vs,he,hc,hd,_⟩:=fl.first;have I:=J.inv;have Ji:∀b∈gy X.stack,ea≠b:=λb hb z=>by obtain⟨_,o,ho,A2⟩:=I.stack.mem hb;rw[<-z,he]at ho;cases ho;exact A2 vs hd
 have Cw:ea≠X.env.locals:=λz=>by obtain⟨m,⟨o,es,ep,ho,UU,_⟩,_⟩:=I.loc;rw[<-z,he]at ho;cases ho;rw[hd]at UU;cases UU
 have Sa:ea ∉ X.fs:=λhb=>by obtain⟨_,o,ho,A2⟩:=I.jo.mem hb;rw[he]at ho;cases ho;exact A2 vs hd
 refine⟨oe,he,hc,J.tr.ctx he,⟨⟨I.ok.mod,I.ok.kind,I.ok.glob,I.ok.blt,I.ok.above,I.ok.inj,I.ok.has,I.ok.IW,λz=>(by cases z),I.ok.frames,I.ok.FF,I.ok.Qu,I.ok.bs,I.ok.Cv,I.ok.tH,I.ok.AH,I.ok.jo,I.ok.Cn⟩,I.os,I.bare,I.base,I.loc,I.cell,I.free,I.gA,λp hp=>?_,I.b?,I.len⟩⟩;rcases VO.mp (show p∈(ea,oe)::(X.pn++ae)from hp)with z|z
 .rw[z];exact⟨he,hn,Cw,Sa,λv q=>by rw[hd]at q;cases q⟩
 .exact I.pin p z
theorem aM.Sv{s:_N}(ok:X.Ok)(I:aM (L2.vI X ea oe) ae σ H s):aM X ae σ H s:=
 ⟨ok,I.os,I.bare,I.base,I.loc,I.cell,I.free,I.gA,λp hp=>I.pin p (VJ _ hp),I.b?,I.len⟩
theorem A?{M:Model}{E:_D}{s:_N}{K:_G}{b:Bool}{Q:Bool->_N->Prop}(KX:K.In s.heap)(he:s.heap.get? ea=some oe)(h1:W.kitCls K oe.cls (.ref C)=some b)(h2:W.subIn K (.ref C) (.type "BaseException")=some true)(q:Q b s):
  wpAny M A (excMatches (.ref ea) (.ref C)) Q E s:=by
 obtain⟨l1,l2,l3⟩:=_y (M:=M) KX h1;have l4:=W.looks_subIn (M:=M) KX h2;obtain⟨hp,g,d,tk,os⟩:=s;have lt:W.Looks M hp (isInstance (.ref C) (.type "tuple")) false:=l1.andThen (.of_pure tc_notTuple);have lx:W.Looks M hp (isExcClass (.ref C)) true:=λA' Q' E' s' k z=>by unfold isExcClass;refine Vp (l2 A' _ E' s' k ?_);rw[VA rfl];exact l4 A' Q' E' s' k z
 have ly:W.Looks M hp (typeOf (.ref ea)) oe.cls:=λA' Q' E' s' k z=>by unfold typeOf;exact Vp (wpAny_loadPart (k _ _ he) (Vr z))
 unfold excMatches;refine Vp (lt.here ?_);simp only[V5,WI,pure_bind,XM,XE,bind_assoc];refine Vp (lx.here ?_);simp only[We,V5,WI,pure_bind];refine Vp (ly.here ?_);refine Vp (l3.here ?_);cases b with
 |true=>exact Vr q
 |false=>exact Vr q
theorem nM{E:_D}{s:_N}{K:_G}{c:_M}(KX:K.In s.heap)(he:s.heap.get? ea=some oe)(e:PySem.W.kitOne K oe.cls c=some true)(h:Q (.bool true) s):
  wpAny (model prog w) A (call (.builtin "isinstance") [.ref ea,c]) Q E s:=by
 have ly:PySem.W.Looks (model prog w) s.heap (typeOf (.ref ea)) oe.cls:=λA' Q' E' s' k z=>by unfold typeOf;exact Vp (wpAny_loadPart (k _ _ he) (Vr z))
 refine PyProof.Rows.call_isinstance_of ?_ (by intro z;cases z);unfold PySem.W.kitOne at e;unfold Builtin.«isinstance.nested»;refine Vp (ly.here ?_);by_cases q:(oe.cls==c)=true
 .rw[VA q]
  first
   |exact Vp (W! h)
   |exact Vp (W! (Vr h))
   |exact Vr h
 .rw[VL q]at e;rw[VL q];obtain⟨Oi,OP,OK⟩:=_y (M:=model prog w) KX e;have LI:PySem.W.Looks (model prog w) s.heap (isInstance (.ref ea) c) true:=ly.andThen OK;refine Vp (Oi.here ?_);rw[VA ⋯]
  k_delta "plainIsInstance"
  refine Vp (Vp (OP.here ?_));simp only[We,V5,WI];refine Vp (LI.here ?_)
  first
   |exact Vr (Vr h)
   |(simp only[XJ];first|exact Vr (Vr h)|exact Vr h|exact Vp (Vr (Vr h)))
theorem t!:bp X (.builtin "isinstance") (λxs H Q=>∃ea oe c,(xs=[.ref ea,.ref c]/\W.kitOne X.K oe.cls (.ref c)=some true\/∃n,xs=[.ref ea,.ty n]/\W.kitOne X.K oe.cls (.type n)=some true)/\(ea,oe)∈X.pn/\Q (.bl true) H):=by
 intro ae s σ H xs us Q I r h;obtain⟨ea,oe,c,hx,hp,q⟩:=h;have he:=(I.pin (ea,oe) (W5 _ hp)).1;rcases hx with⟨rfl,e⟩|⟨n,rfl,e⟩
 .obtain⟨u,u2,rfl,ru,GH⟩:=vals2 r;cases ru;cases GH;exact nM I.nI he e ⟨.bl true,H,I,rfl,q⟩
 .obtain⟨u,u2,rfl,ru,GH⟩:=vals2 r;cases ru;cases GH;exact nM I.nI he e ⟨.bl true,H,I,rfl,q⟩
theorem aM.GQ{s:_N}{n:Str}{u:_J}{m:_E}(I:aM X ae σ H s)(hN:X.N.Nodup)(hi:X.N[i]?=some n)(hx:X.env.kindOf n=some .local)(hn:s.heap.Ns X.env.locals m)(hl:∀(j:Nat)(x:Str)(v:V),X.N[j]?=some x->σ[j]?=some (some v)->FE X.env.scope x->∃u,bD v u/\Look X.env s.heap m x u)(Nh:h'.Ns X.env.locals (λx=>if x=n then u else m x))(sb:Heap.SameBut X.env.locals s.heap h'):aM X ae (σ.set i none) H {s with heap:=h'}:=by
 have iσ:i<σ.length:=by rw[I.len];exact(Wh.mp hi).1
 have FI:∀b o,b≠X.env.locals->s.heap.get? b=some o->h'.get? b=some o:=λb o hb e=>(sb.2 b hb).trans e;have Cw:∀b o,X.s₀.heap.get? b=some o->b≠X.env.locals:=λb o e=>VX (VG (Vz e) I.ok.above);refine⟨I.ok,I.os,I.bare,⟨λb o q nn hb hx=>FI b o (Cw b o q) (I.base.keep b o q nn hb hx),λb o q nn hb hx=>?_,I.base.free,λb o q hx=>?_,I.base.ky,I.base.j6,I.base.k!⟩,⟨_,Nh,λj x v e1 e2 e3=>?_⟩,λx c e=>?_,I.free,I.gA,λp hp=>?_,λb w q=>?_,by rw[Xf];exact I.len⟩
 .obtain⟨sl,e1⟩:=I.base.slot b o q nn hb hx;exact⟨sl,FI b _ (Cw b o q) e1⟩
 .obtain⟨o',e1⟩:=I.base.there b o q hx;exact⟨o',FI b o' (Cw b o q) e1⟩
 .by_cases hj:j=i
  .subst hj;rw[Ws iσ]at e2;cases e2
  .rw[WA (WE hj)]at e2;obtain⟨u',r,l⟩:=hl j x v e1 e2 e3;have nx:x≠n:=λz=>hj (o_ hN e1 (z▸hi));refine⟨u',r,?_⟩;rcases l with⟨k,e⟩|⟨k,c,e,o,ho,hd⟩
   .exact .inl ⟨k,by simp[nx,e]⟩
   .exact .inr ⟨k,c,e,o,FI c o (I.AI x c e) ho,hd⟩
 .obtain⟨v,o,ho,hd⟩:=I.cell x c e;exact⟨v,o,FI c o (I.AI x c e) ho,hd⟩
 .obtain⟨e,z,ne,nf,d⟩:=I.pin p hp;exact⟨FI p.1 p.2 ne e,z,ne,nf,d⟩
 .refine(I.b? b w q).k_ (λc v hc z=>FI c v ?_ z) (λ_ z=>z) λ_ _ z=>z;intro z';rcases hc with r|r
  .rw[<-r,z',I.free]at q;cases q
  .rw[z',I.free]at r;cases r
def Sw(K:_G)(C:_O)(i:Nat)(ts:_O->Obj->TS)(tr:GO):GO:=λD EX cls ea σ H=>∃b,W.kitCls K cls (.ref C)=some b/\if b=true then ∀oe,oe.cls=cls->ts ea oe {nx:=λσ' H'=>D.nx (σ'.set i none) H',rt:=D.rt,bk:=λσ' H'=>D.bk (σ'.set i none) H',ct:=λσ' H'=>D.ct (σ'.set i none) H'} (σ.set i (some (.ref ea))) H else tr D EX cls ea σ H
theorem K?{x n:Str}{ts:_O->Obj->TS}{tr:GO}(hN:X.N.Nodup)(hi:X.N[i]?=some n)(hl:X.env.scope.names.lookup n=some .local)(hg:Gl X x)(hm:X.mg x=some (.ref C))(hB:W.subIn X.K (.ref C) (.type "BaseException")=some true)(hs:∀ea oe,Gx oe->jk (L2.vI X ea oe) (b₀::gU) (ts ea oe))(hr:PH X rest tr)(hd:(x==("__debug__":Str))=false:=by decide):PH X (.ExceptHandler (some (.Name x np)) (some n) (b₀::gU) pos::rest) (Sw X.K C i ts tr):=by
 intro ae s σ H D EX ea cls J h;obtain⟨b,hb,h⟩:=h;obtain⟨oe,he,hc,_,I⟩:=J.vI;refine wpAny_handleBy_cons (codeAny_handlers_test (jO I (show Gl (L2.vI X ea oe) x from hg) (show(L2.vI X ea oe).mg x=some (.ref C)from hm) ?_ hd)) (by intro z;cases z);refine A? I.nI he (by rw[hc];exact hb) hB ?_;cases b with
 |false=>exact hr ae s σ H D EX ea cls J (by simpa using h)
 |true=>
  obtain⟨B,t,fl,hn,go⟩:=J.slots;have h':∀oe,oe.cls=cls->ts ea oe {nx:=λσ' H'=>D.nx (σ'.set i none) H',rt:=D.rt,bk:=λσ' H'=>D.bk (σ'.set i none) H',ct:=λσ' H'=>D.ct (σ'.set i none) H'} (σ.set i (some (.ref ea))) H:=by simpa using h
  refine codeAny_handlers_suite_as (t7 fl J.tr λh6 fl6 up6 OQ=>?_);have J6:=go h6 fl6 up6 OQ;obtain⟨QL,he6,hc6,cx6,I6⟩:=J6.vI;refine o! (X:=L2.vI X ea QL) (v:=.ref ea) I6 hN hi (Or.inl hl) rfl (λs7 I7=>?_) (Or.inr hl);refine Wz (hs ea QL cx6 ae s7 _ H _ I7 (h' QL hc6)) (λf s8 q=>?_) λ_ _ z=>z.elim
  -- Ck name is let go
  have letGo:∀{σ8:St}{H8:Hp}{R:_N->Prop},aM (L2.vI X ea QL) ae σ8 H8 s8->(∀s9,aM X ae (σ8.set i none) H8 s9->R s9) ->
    wpAny (model X.prog X.w) X.A (do bindName X.env n .none;unbindBehindTheSuite X.env n pos) (λ_ s9=>R s9) (XP X ae EX) s8:=λ{σ8 H8 R}I8 k=>by
   have I9:=I8.Sv J.inv.ok;refine Vp (wpAny_bindName (mF I9 hN hi (Or.inl hl) (v:=.c6) rfl (λs9 Sx⟨a,sb,ha⟩=>?_) (Or.inr hl)));obtain⟨m,ns,UW⟩:=Sx.loc;have iσ:i<σ8.length:=by rw[I9.len];exact(Wh.mp hi).1
   obtain⟨u,ru,lk⟩:=UW i n .c6 hi (Ws iσ) (Or.inl hl);have hmn:m n=some u:=by
    rcases lk with⟨_,e⟩|⟨k',_⟩
    .exact e
    .exfalso;rcases k' with z|z
     .have z':X.env.scope.names.lookup n=some .cell:=z;rw[hl]at z';cases z'
     .have z':X.env.scope.names.lookup n=some .free:=z;rw[hl]at z';cases z'
   unfold unbindBehindTheSuite;refine Xh (wpAny_unbindName_local hl ns hmn (by rw[Sx.ok.kind];rfl) λNn u' Sy Si=>?_);have UX:=Sx.GQ hN hi hl ns UW Sy Si;rw[List.set_set]at UX;exact k _ UX
  cases f with
  |next=>
   obtain⟨σ8,H8,I8,q8⟩:=q;exact letGo I8 λs9 I9=>⟨_,H8,I9,q8⟩
  |brk=>
   obtain⟨σ8,H8,I8,q8⟩:=q;exact letGo I8 λs9 I9=>⟨_,H8,I9,q8⟩
  |cont=>
   obtain⟨σ8,H8,I8,q8⟩:=q;exact letGo I8 λs9 I9=>⟨_,H8,I9,q8⟩
  |ret v=>
   obtain⟨x8,σ8,H8,I8,r8,q8⟩:=q;exact letGo I8 λs9 I9=>⟨x8,_,H8,I9,r8,q8⟩
theorem Ba:bp X (.type "int") (λxs H Q=>∃b,xs=[.bl b]/\Q (.int (if b then 1 else 0)) H):=by rintro ae s σ H xs ws Q I r ⟨b,rfl,q⟩;obtain⟨u,rfl,ru⟩:=bw.one r;cases ru;exact call_int_bool ⟨.int (if b then 1 else 0),H,I.tok _,⟨_,rfl⟩,q⟩
structure nZ where
 qual:Str
 params:Arguments
 body:Expr
 scope:Scope
 ps:_L
 x:Str
abbrev Fz(H:Hp)(a:_O)(o:Obj):Prop:=H a=some (.kx o (.own 0))
structure QM(L:nZ)(H:Hp)(f c c':_O)(v:V):Prop where
 fn:∃pm SD,Fz H f (W.kla_obj "<lambda>" L.qual L.params L.body L.scope [(L.x,c)] pm c' SD)
 cd:∃oc vs t,Fz H c' oc/\oc.data=.fields vs/\vs[1]?=some (.str L.qual t)
 ce:∃oc u,Fz H c oc/\oc.data=.cell (some u)/\bD v u
def back(H H':Hp)(c:_O):Hp:=λb=>if b=c then H b else H' b
def Tab(H:Hp)(T:_O)(line col:Nat)(qual:Str):Prop:=H T=some (.FD #[]) \/
 ∃c' oc vs t,H T=some (.FD #[rawInt line,rawInt col,.ref c'])/\Fz H c' oc/\oc.data=.fields vs/\vs[1]?=some (.str qual t)
theorem QM.mono{L:nZ}{c:_O}{v:V}(C:QM L H f c c' v)(k:∀b o u,H b=some (.kx o u)->H' b=some (.kx o u)):QM L H' f c c' v:=by obtain⟨⟨pm,SD,h1⟩,⟨oc,vs,t,h2,h3⟩,⟨o2,u,h4,h5⟩⟩:=C;exact⟨⟨pm,SD,k _ _ _ h1⟩,⟨oc,vs,t,k _ _ _ h2,h3⟩,⟨o2,u,k _ _ _ h4,h5⟩⟩
end L2
variable {x qual:Str}
variable {k:Nat}
variable {base:Heap}
variable {ps:List Str}
variable {scope:Scope}
variable {L:L2.nZ}
variable {EX:L2.EK}
namespace MN
open PySem.Spec L2
open PyProof.Rows hiding St
inductive ak where
 |c6|bl (b:Bool)|int (i:Int)|str (x:Str)|tup (vs:List ak)|loc (n:Nat)|exc (c:Str)|fn (L:nZ) (u:ak)|mt (vs:List ak)
inductive bx where
 |lst (vs:List ak)|La (vs:List ak)|mod (vs:List ak)|dK (aD:List (cT×ak))|dT (aD:List (List cT×ak))|tab (x:Str) (line col:Nat) (qual:Str)|ins (c:Str) (fs:List (Str×ak))|fd (aD:List (cT×ak))
abbrev af:=List bx
abbrev Env:=List (Option ak)
inductive cL(α:Type) where
 |ok (a:α) (st:af)|err (c:Str) (st:af)|bad
inductive dI where
 |nx (μ:Env) (st:af)|rt (v:ak) (st:af)|bk (μ:Env) (st:af)|ct (μ:Env) (st:af)|er (c:Str) (μ:Env) (st:af)|bad
@[reducible] def cL.bind(r:cL α)(k:α->af->cL β):cL β:=match r with
 |.ok a st=>k a st
 |.err c st=>.err c st
 |.bad=>.bad
structure Wo where
 K:_G
 mg:Str->_J
 pn:_F
abbrev wo(X:Cx):Wo:=⟨X.K,X.mg,X.pn⟩
mutual
def Rl(K:_G)(ρ:_K)(H:Hp):ak->V->Prop
 |.c6,v=>v=.c6
 |.bl b,v=>v=.bl b
 |.int i,v=>v=.int i
 |.str x,v=>v=.str x
 |.tup us,v=>∃a vs,v=.ref a/\H a=some (.tup vs)/\bj K ρ H us vs
 |.mt us,v=>∃a vs,v=.ref a/\jq K H a vs/\bj K ρ H us vs
 |.loc n,v=>∃a,v=.ref a/\ρ[n]?=some a
 |.exc _,_=>False
 |.fn _ _,_=>False
def bj(K:_G)(ρ:_K)(H:Hp):List ak->List V->Prop
 |[],vs=>vs=[]
 |u::us,vs=>∃v r,vs=v::r/\Rl K ρ H u v/\bj K ρ H us r
end
structure aF(ρ:_K)(H:Hp)(ρ':_K)(H':Hp):Prop where
 pre:ρ <+: ρ'
 tup:∀b xs,H b=some (.tup xs)->H' b=some (.tup xs)
 kx:∀b o u,H b=some (.kx o u)->H' b=some (.kx o u)
theorem aF.refl(ρ:_K)(H:Hp):aF ρ H ρ H:=⟨Zx ρ,λ_ _ h=>h,λ_ _ _ h=>h⟩
theorem aF.trans{ρ1 ρ2:_K}{H1 H2:Hp}(a:aF ρ H ρ1 H1)(b:aF ρ1 H1 ρ2 H2):aF ρ H ρ2 H2:=
 ⟨a.pre.trans b.pre,λ_ _ h=>b.tup _ _ (a.tup _ _ h),λ_ _ _ h=>b.kx _ _ _ (a.kx _ _ _ h)⟩
theorem aF.same(e:mJ H H'):aF ρ H ρ H':=⟨Zx ρ,λ_ _ h=>e _ _ h,λ_ _ _ h=>e _ _ h⟩
theorem aF.snoc(p:_O)(e:mJ H H'):aF ρ H (ρ++[p]) H':=⟨List.prefix_append ρ [p],λ_ _ h=>e _ _ h,λ_ _ _ h=>e _ _ h⟩
theorem aF.at_(e:aF ρ H ρ' H'){n:Nat}{a:_O}(h:ρ[n]?=some a):ρ'[n]?=some a:=by
 obtain⟨t,rfl⟩:=e.pre;have hl:n<ρ.length:=by
  rcases WS n ρ.length with q|q
  .exact q
  .rw[V' q]at h;cases h
 rw[V4 hl,h]
theorem aF.SE{K:_G}(e:aF ρ H ρ' H'){a:_O}{xs:List V}(h:jq K H a xs):jq K H' a xs:=by
 rcases h with(h|⟨o,h⟩)|h
 .exact .inl (.inl (e.tup _ _ h))
 .exact .inl (.inr ⟨o,e.kx _ _ _ h⟩)
 .exact .inr h
mutual
theorem Rl.mono{K:_G}(e:aF ρ H ρ' H'):∀(u:ak)(v:V),Rl K ρ H u v->Rl K ρ' H' u v
 |.c6,_,h=>h
 |.bl _,_,h=>h
 |.int _,_,h=>h
 |.str _,_,h=>h
 |.tup us,v,h=>by unfold Rl at h⊢;obtain⟨a,vs,h1,h2,h3⟩:=h;exact⟨a,vs,h1,e.tup _ _ h2,bj.mono e us vs h3⟩
 |.mt us,v,h=>by unfold Rl at h⊢;obtain⟨a,vs,h1,h2,h3⟩:=h;exact⟨a,vs,h1,e.SE h2,bj.mono e us vs h3⟩
 |.loc n,v,h=>by unfold Rl at h⊢;obtain⟨a,h1,h2⟩:=h;exact⟨a,h1,e.at_ h2⟩
 |.exc c,v,h=>h
 |.fn _ _,_,h=>h
theorem bj.mono{K:_G}(e:aF ρ H ρ' H'):∀(us:List ak)(vs:List V),bj K ρ H us vs->bj K ρ' H' us vs
 |[],_,h=>h
 |u::us,vs,h=>by unfold bj at h⊢;obtain⟨v,r,h1,h2,h3⟩:=h;exact⟨v,r,h1,Rl.mono e u v h2,bj.mono e us r h3⟩
end
section
variable{K:_G}
theorem bj.nil:bj K ρ H [] []:=by unfold bj;rfl
theorem bj.cons{u:ak}{us:List ak}{v:V}{vs:List V}(h:Rl K ρ H u v)(hs:bj K ρ H us vs):bj K ρ H (u::us) (v::vs):=by unfold bj;exact⟨v,vs,rfl,h,hs⟩
theorem bj.cP{u:ak}{us:List ak}{vs:List V}(h:bj K ρ H (u::us) vs):∃v r,vs=v::r/\Rl K ρ H u v/\bj K ρ H us r:=by unfold bj at h;exact h
theorem bj.eM{vs:List V}(h:bj K ρ H [] vs):vs=[]:=by unfold bj at h;exact h
theorem bj.length:∀{us:List ak}{vs:List V},bj K ρ H us vs->us.length=vs.length
 |[],vs,h=>by rw[h.eM];rfl
 |u::us,vs,h=>by obtain⟨v,r,rfl,_,h3⟩:=h.cP;rw[Vt,Vt,h3.length]
theorem bj.get:∀{us:List ak}{vs:List V}{i:Nat}{u:ak},bj K ρ H us vs->us[i]?=some u->∃v,vs[i]?=some v/\Rl K ρ H u v
 |[],_,_,_,_,e=>by cases e
 |w::us,vs,0,u,h,e=>by obtain⟨v,r,rfl,h2,_⟩:=h.cP;cases e;exact⟨v,rfl,h2⟩
 |w::us,vs,i+1,u,h,e=>by obtain⟨v,r,rfl,_,h3⟩:=h.cP;exact bj.get (i:=i) h3 e
theorem bj.append:∀{us ws:List ak}{vs xs:List V},bj K ρ H us vs->bj K ρ H ws xs->bj K ρ H (us++ws) (vs++xs)
 |[],_,vs,_,h,k=>by rw[h.eM];exact k
 |u::us,ws,vs,xs,h,k=>by obtain⟨v,r,rfl,h2,h3⟩:=h.cP;exact bj.cons h2 (h3.append k)
theorem bj.drop:∀(n:Nat){us:List ak}{vs:List V},bj K ρ H us vs->bj K ρ H (us.drop n) (vs.drop n)
 |0,_,_,h=>h
 |_+1,[],vs,h=>by rw[h.eM];exact bj.nil
 |n+1,u::us,vs,h=>by obtain⟨v,r,rfl,h2,h3⟩:=h.cP;exact bj.drop n h3
theorem bj.take:∀(n:Nat){us:List ak}{vs:List V},bj K ρ H us vs->bj K ρ H (us.take n) (vs.take n)
 |0,_,_,_=>bj.nil
 |_+1,[],vs,h=>by rw[h.eM];exact bj.nil
 |n+1,u::us,vs,h=>by obtain⟨v,r,rfl,h2,h3⟩:=h.cP;exact bj.cons h2 (bj.take n h3)
theorem bj.one{u:ak}{v:V}(h:Rl K ρ H u v):bj K ρ H [u] [v]:=bj.cons h bj.nil
theorem bj.sj{u:ak}{vs:List V}(h:bj K ρ H [u] vs):∃v,vs=[v]/\Rl K ρ H u v:=by obtain⟨v,r,rfl,h2,h3⟩:=h.cP;rw[h3.eM];exact⟨v,rfl,h2⟩
theorem bj.QN{u w:ak}{vs:List V}(h:bj K ρ H [u,w] vs):∃v x,vs=[v,x]/\Rl K ρ H u v/\Rl K ρ H w x:=by obtain⟨v,r,rfl,h2,h3⟩:=h.cP;obtain⟨x,rfl,h4⟩:=h3.sj;exact⟨v,x,rfl,h2,h4⟩
theorem bj.ints:∀(ns:_H),bj K ρ H (ns.map ak.int) (ns.map V.int)
 |[]=>bj.nil
 |n::ns=>bj.cons (by unfold Rl;rfl) (bj.ints ns)
theorem Rl.cV{i:Int}{v:V}(h:Rl K ρ H (.int i) v):v=.int i:=by unfold Rl at h;exact h
theorem Rl.pJ{b:Bool}{v:V}(h:Rl K ρ H (.bl b) v):v=.bl b:=by unfold Rl at h;exact h
theorem Rl.jl{v:V}(h:Rl K ρ H (.str x) v):v=.str x:=by unfold Rl at h;exact h
theorem Rl.jm{v:V}(h:Rl K ρ H .c6 v):v=.c6:=by unfold Rl at h;exact h
theorem Rl.Lb{us:List ak}{v:V}(h:Rl K ρ H (.tup us) v):∃a vs,v=.ref a/\H a=some (.tup vs)/\bj K ρ H us vs:=by unfold Rl at h;exact h
theorem Rl.fN{us:List ak}{v:V}(h:Rl K ρ H (.tup us) v):∃a vs,v=.ref a/\jq K H a vs/\bj K ρ H us vs:=let⟨a,vs,h1,h2,h3⟩:=h.Lb;⟨a,vs,h1,jq.of h2,h3⟩
theorem Rl.UY{us:List ak}{v:V}(h:Rl K ρ H (.mt us) v):∃a vs,v=.ref a/\jq K H a vs/\bj K ρ H us vs:=by unfold Rl at h;exact h
theorem Rl.SF{us:List ak}{a:_O}{vs:List V}(h:jq K H a vs)(r:bj K ρ H us vs):Rl K ρ H (.mt us) (.ref a):=by unfold Rl;exact⟨a,vs,rfl,h,r⟩
theorem Rl.dO{n:Nat}{v:V}(h:Rl K ρ H (.loc n) v):∃a,v=.ref a/\ρ[n]?=some a:=by unfold Rl at h;exact h
theorem Rl.mkInt(i:Int):Rl K ρ H (.int i) (.int i):=by unfold Rl;rfl
theorem Rl.Bb(b:Bool):Rl K ρ H (.bl b) (.bl b):=by unfold Rl;rfl
theorem Rl.mkStr(x:Str):Rl K ρ H (.str x) (.str x):=by unfold Rl;rfl
theorem Rl.zL:Rl K ρ H .c6 .c6:=by unfold Rl;rfl
theorem Rl.lH{us:List ak}{a:_O}{vs:List V}(h:H a=some (.tup vs))(r:bj K ρ H us vs):Rl K ρ H (.tup us) (.ref a):=by unfold Rl;exact⟨a,vs,rfl,h,r⟩
theorem Rl.Dl{n:Nat}{a:_O}(h:ρ[n]?=some a):Rl K ρ H (.loc n) (.ref a):=by unfold Rl;exact⟨a,rfl,h⟩
end
def fI(K:_G)(ρ:_K)(H:Hp)(aD:List (κ×ak))(iV:List (κ×V)):Prop:=aD.map (·.1)=iV.map (·.1)/\bj K ρ H (aD.map (·.2)) (iV.map (·.2))
def jw:Option bx->Bool
 |some (.mod _)=>true
 |_=>false
def SG(K:_G)(a:_O)(vs:List V):Prop:=∃(o:Obj)(aI:Array _M)(n:Nat),K.lookup a=some o/\o.cls=.type "list" /\ o.dict=none/\o.data=.seq aI n/\aI.size<=sizeLine/\bw vs aI.toList
def gW(K:_G)(ρ:_K)(H:Hp):bx->_O->Prop
 |.lst us,a=>∃vs,H a=some (.lst vs)/\bj K ρ H us vs
 |.La us,a=>∃o vs,H a=some (.kx o (.lst vs))/\bj K ρ H us vs
 |.mod us,a=>∃vs,SG K a vs/\bj K ρ H us vs
 |.dK aD,a=>∃iV,H a=some (.dK iV)/\fI K ρ H aD iV
 |.dT aD,a=>∃iV,H a=some (.dT iV)/\fI K ρ H aD iV
 |.fd aD,a=>∃o iV,H a=some (.kx o (.dK iV))/\fI K ρ H aD iV
 |.tab x l c q,a=>(∃cd,W.tabIn K x=some (cd,a))/\Tab H a l c q
 |.ins c fs,a=>∃C dx gs,H a=some (.ins C dx gs)/\W.nsIn K mainGlobals c=some (some (.ref C))/\fI K ρ H fs gs
structure SR(K:_G)(ρ:_K)(st:af)(H:Hp):Prop where
 len:ρ.length=st.length
 nd:∀(n m:Nat)a,ρ[n]?=some a->ρ[m]?=some a->jw st[n]?=false->jw st[m]?=false->n=m
 cell:∀(n:Nat)c a,st[n]?=some c->ρ[n]?=some a->gW K ρ H c a
theorem aX{l:List α}{n:Nat}{x:α}(h:l[n]?=some x):n<l.length:=by
 rcases WS n l.length with q|q
 .exact q
 .rw[V' q]at h;cases h
section
variable{K:_G}{st:af}
theorem gW.there{c:bx}{a:_O}(h:gW K ρ H c a)(hn:jw (some c)=false):∃o,H a=some o/\∀xs,o≠.tup xs:=by
 cases c with
 |lst us=>obtain⟨vs,h,_⟩:=h;exact⟨_,h,λxs e=>by cases e⟩
 |La us=>obtain⟨o,vs,h,_⟩:=h;exact⟨_,h,λxs e=>by cases e⟩
 |fd us=>obtain⟨o,vs,h,_⟩:=h;exact⟨_,h,λxs e=>by cases e⟩
 |mod us=>cases hn
 |dK aD=>obtain⟨vs,h,_⟩:=h;exact⟨_,h,λxs e=>by cases e⟩
 |dT aD=>obtain⟨vs,h,_⟩:=h;exact⟨_,h,λxs e=>by cases e⟩
 |tab x l c q=>rcases h.2 with h|⟨_,_,_,_,h,_⟩<;>exact⟨_,h,λxs e=>by cases e⟩
 |ins c fs=>obtain⟨_,_,_,h,_⟩:=h;exact⟨_,h,λxs e=>by cases e⟩
theorem gW.mono{c:bx}{a:_O}(h:gW K ρ H c a)(e:aF ρ H ρ' H')(ha:jw (some c)=true\/H' a=H a):gW K ρ' H' c a:=by
 cases c with
 |mod us=>obtain⟨vs,h,r⟩:=h;exact⟨vs,h,bj.mono e _ _ r⟩
 |lst us=>rcases ha with ha|ha<;>first|cases ha;done|(obtain⟨vs,h,r⟩:=h;exact⟨vs,ha.trans h,bj.mono e _ _ r⟩)
 |La us=>rcases ha with ha|ha<;>first|cases ha;done|(obtain⟨o,vs,h,r⟩:=h;exact⟨o,vs,ha.trans h,bj.mono e _ _ r⟩)
 |dK aD=>rcases ha with ha|ha<;>first|cases ha;done|(obtain⟨vs,h,r⟩:=h;exact⟨vs,ha.trans h,r.1,bj.mono e _ _ r.2⟩)
 |dT aD=>rcases ha with ha|ha<;>first|cases ha;done|(obtain⟨vs,h,r⟩:=h;exact⟨vs,ha.trans h,r.1,bj.mono e _ _ r.2⟩)
 |fd aD=>rcases ha with ha|ha<;>first|cases ha;done|(obtain⟨o,vs,h,r⟩:=h;exact⟨o,vs,ha.trans h,r.1,bj.mono e _ _ r.2⟩)
 |ins c fs=>rcases ha with ha|ha<;>first|cases ha;done|(obtain⟨C,dx,gs,h,hn,r⟩:=h;exact⟨C,dx,gs,ha.trans h,hn,r.1,bj.mono e _ _ r.2⟩)
 |tab x l c q=>
  refine⟨h.1,?_⟩;rcases ha with ha|ha
  .cases ha
  .rcases h.2 with h|⟨c',oc,vs,t,h,h2,h3⟩
   .exact .inl (ha.trans h)
   .exact .inr ⟨c',oc,vs,t,ha.trans h,e.kx _ _ _ h2,h3⟩
theorem gW.grow{c:bx}{a:_O}(h:gW K ρ H c a)(e:aF ρ H ρ' H')(s:mJ H H'):gW K ρ' H' c a:=by
 cases z:jw (some c) with
 |true=>exact h.mono e (.inl z)
 |false=>
  obtain⟨o,ho,_⟩:=h.there z;exact h.mono e (.inr (by rw[ho];exact s _ _ ho))
theorem SR.there(s:SR K ρ st H){n:Nat}{a:_O}(h:ρ[n]?=some a):∃c,st[n]?=some c/\gW K ρ H c a:=by
 have hn:=aX h;have Nh:n<st.length:=by rw[<-s.len];exact hn
 exact⟨st[n],Vx Nh,s.cell n _ a (Vx Nh) h⟩
theorem SR.grow(s:SR K ρ st H)(e:mJ H H'):SR K ρ st H':=
 ⟨s.len,s.nd,λn c a h1 h2=>(s.cell n c a h1 h2).grow (aF.same e) e⟩
theorem SR.Jj(s:SR K ρ st H){p:_O}(hp:H p=none){n:Nat}(h:ρ[n]?=some p)(hm:jw st[n]?=false):False:=by obtain⟨c,hc,k⟩:=s.there h;rw[hc]at hm;obtain⟨o,ho,_⟩:=k.there hm;rw[hp]at ho;cases ho
theorem c7{p:_O}{o:HO}(hp:H p=none):mJ H (upd H p o):=mJ.upd (mJ.refl H) hp
theorem SR.alloc(s:SR K ρ st H){p:_O}{o:HO}{c:bx}(hp:H p=none)(k:gW K (ρ++[p]) (upd H p o) c p):SR K (ρ++[p]) (st++[c]) (upd H p o):=by
 have e:mJ H (upd H p o):=c7 hp;have at_:∀(n:Nat)(a:_O),(ρ++[p])[n]?=some a->(n<st.length/\ρ[n]?=some a/\(st++[c])[n]?=st[n]?)\/(n=st.length/\a=p/\(st++[c])[n]?=some c):=by
  intro n a h;rcases _g n st.length with q|q|q
  .rw[V4 (by rw[s.len];exact q)]at h;exact .inl ⟨q,h,V4 q⟩
  .subst q;rw[VN (by rw[s.len];exact Vy _),s.len,WJ]at h;cases h;refine .inr ⟨rfl,rfl,?_⟩;rw[VN (Vy _),WJ];rfl
  .rw[V' (by rw[VC,XC,s.len];lia)]at h;cases h
 refine⟨by rw[VC,VC,s.len];rfl,λn m a h1 h2 m1 m2=>?_,λn c' a h1 h2=>?_⟩
 .rcases at_ n a h1 with⟨q1,q2,q3⟩|⟨q1,q2,q3⟩<;>rcases at_ m a h2 with⟨r1,r2,r3⟩|⟨r1,r2,r3⟩
  .rw[q3]at m1;rw[r3]at m2;exact s.nd n m a q2 r2 m1 m2
  .subst r2;rw[q3]at m1;exact(s.Jj hp q2 m1).elim
  .subst q2;rw[r3]at m2;exact(s.Jj hp r2 m2).elim
  .rw[q1,r1]
 .rcases at_ n a h2 with⟨q1,q2,q3⟩|⟨q1,q2,q3⟩
  .rw[q3]at h1;exact(s.cell n c' a h1 q2).grow (aF.snoc p e) e
  .rw[q3]at h1;cases h1;subst q2;exact k
theorem aF.put{a:_O}{o o':HO}(h:H a=some o)(h1:∀xs,o≠.tup xs)(h2:∀x u,o≠.kx x u):aF ρ H ρ (upd H a o'):=by
 refine⟨Zx ρ,λb xs e=>?_,λb x u e=>?_⟩
 .rw[a8 (λz=>?_)]
  .exact e
  .subst z;rw[h]at e;exact h1 _ (V? e)
 .rw[a8 (λz=>?_)]
  .exact e
  .subst z;rw[h]at e;exact h2 _ _ (V? e)
theorem SR.set(s:SR K ρ st H){n:Nat}{a:_O}{o o':HO}{c c':bx}(h:st[n]?=some c)(hc:jw (some c)=false)(cz:jw (some c')=false)(ha:ρ[n]?=some a)(ho:H a=some o)(h1:∀xs,o≠.tup xs)(h2:∀x u,o≠.kx x u)(k:gW K ρ (upd H a o') c' a):SR K ρ (st.set n c') (upd H a o'):=by
 have hn:n<st.length:=aX h;have at_:∀(m:Nat),jw (st.set n c')[m]?=jw st[m]?:=λm=>by
  by_cases z:m=n
  .subst z;rw[Ws hn,h,hc,cz]
  .rw[WA (λy=>z y.symm)]
 refine⟨by rw[Xf];exact s.len,λi m b q1 q2 m1 m2=>s.nd i m b q1 q2 (by rw[<-at_];exact m1) (by rw[<-at_];exact m2),λm d b q1 q2=>?_⟩;by_cases z:m=n
 .subst z;rw[ha]at q2;cases q2;rw[Ws hn]at q1;cases q1;exact k
 .rw[WA (λy=>z y.symm)]at q1;have kb:=s.cell m d b q1 q2;cases zm:jw (some d) with
  |true=>exact kb.mono (aF.put ho h1 h2) (.inl zm)
  |false=>
   have hb:b≠a:=λy=>z (s.nd m n a (by rw[<-y];exact q2) ha (by rw[q1];exact zm) (by rw[h];exact hc));exact kb.mono (aF.put ho h1 h2) (.inr (a8 hb))
end
def zN(W:Wo)(ρ:_K)(H:Hp)(u:ak)(v:V):Prop:=match u with
 |.exc c=>∃a oe C,v=.ref a/\(a,oe)∈W.pn/\W.mg c=some (.ref C)/\oe.cls=.ref C
 |.fn L u=>∃f c c' cv,v=.ref f/\QM L H f c c' cv/\Rl W.K ρ H u cv
 |u=>Rl W.K ρ H u v
theorem zN.mono{W:Wo}{u:ak}{v:V}(h:zN W ρ H u v)(e:aF ρ H ρ' H'):zN W ρ' H' u v:=by
 cases u with
 |exc c=>exact h
 |fn L u=>obtain⟨f,c,c',cv,h1,C,r⟩:=h;exact⟨f,c,c',cv,h1,C.mono (λb o u q=>e.kx b o u q),Rl.mono e _ _ r⟩
 |_=>exact Rl.mono e _ _ h
theorem zN.of{W:Wo}{u:ak}{v:V}(h:Rl W.K ρ H u v):zN W ρ H u v:=by
 cases u with
 |exc c=>unfold Rl at h;exact h.elim
 |fn L u=>unfold Rl at h;exact h.elim
 |_=>exact h
structure RS(W:Wo)(ρ:_K)(H:Hp)(μ:Env)(σ:St):Prop where
 len:μ.length=σ.length
 at_:∀(i:Nat)u,μ[i]?=some (some u)->∃v,σ[i]?=some (some v)/\zN W ρ H u v
section
variable{W:Wo}{μ:Env}
theorem RS.mono(r:RS W ρ H μ σ)(e:aF ρ H ρ' H'):RS W ρ' H' μ σ:=⟨r.len,λi u h=>let⟨v,h1,h2⟩:=r.at_ i u h;⟨v,h1,h2.mono e⟩⟩
theorem RS.OR(r:RS W ρ H μ σ)(i:Nat){u:ak}{v:V}(h:zN W ρ H u v):RS W ρ H (μ.set i (some u)) (σ.set i (some v)):=by
 refine⟨by rw[Xf,Xf];exact r.len,λj w e=>?_⟩;by_cases z:j=i
 .subst z;have hj:=aX e;rw[Xf]at hj;rw[Ws hj]at e;cases e;exact⟨v,Ws (by rw[<-r.len];exact hj),h⟩
 .rw[WA (λy=>z y.symm)]at e⊢;exact r.at_ j w e
theorem RS.set(r:RS W ρ H μ σ)(i:Nat){u:ak}{v:V}(h:Rl W.K ρ H u v):RS W ρ H (μ.set i (some u)) (σ.set i (some v)):=r.OR i (zN.of h)
end
abbrev ME:=Env->af->cL ak
abbrev MT:=Env->af->cL Bool
abbrev MA:=Env->af->cL (List ak)
abbrev MB:=Env->af->dI
def wR(W:Wo)(E:XK)(R:_K->Hp->α->β->Prop)(ρ:_K)(H:Hp)(Q:β->Hp->Prop):cL α->Prop
 |.ok u az=>∀ρ' H' v,aF ρ H ρ' H'->SR W.K ρ' az H'->R ρ' H' u v->Q v H'
 |.err c az=>∃C,W.mg c=some (.ref C)/\∀ρ' H',aF ρ H ρ' H'->SR W.K ρ' az H'->E (.ref C) none H'
 |.bad=>False
theorem wR.mono{W:Wo}{R:_K->Hp->α->β->Prop}{Q:β->Hp->Prop}{r:cL α}(h:wR W E R ρ H Q r)(e:aF ρ H ρ' H'):wR W E R ρ' H' Q r:=by
 cases r with
 |ok u st=>exact λρ2 H2 v e2 s r=>h ρ2 H2 v (e.trans e2) s r
 |err c st=>obtain⟨C,h1,h2⟩:=h;exact⟨C,h1,λρ2 H2 e2 s=>h2 ρ2 H2 (e.trans e2) s⟩
 |bad=>exact h
theorem wR.pn{K:_G}{mg:_E}{pn:_F}{R:_K->Hp->α->β->Prop}{Q:β->Hp->Prop}{r:cL α}(h:wR ⟨K,mg,pn⟩ E R ρ H Q r):wR ⟨K,mg,Lc⟩ E R ρ H Q r:=by cases r<;>exact h
def tG(W:Wo)(E:XK)(R:_K->Hp->α->β->Prop)(m:Env->af->cL α):St->Hp->(β->Hp->Prop)->Prop:=
 λσ H Q=>∃μ ρ st,RS W ρ H μ σ/\SR W.K ρ st H/\wR W E R ρ H Q (m μ st)
abbrev RB:_K->Hp->Bool->Bool->Prop:=λ_ _ b c=>c=b
abbrev tE(X:Cx)(E:XK)(m:ME):TE:=tG (wo X) E (Rl X.K) m
abbrev tT(X:Cx)(E:XK)(m:MT):TT:=tG (wo X) E RB m
abbrev tL(X:Cx)(E:XK)(m:MA):TA:=tG (wo X) E (bj X.K) m
theorem go{γ δ:Type}{W:Wo}{R1:_K->Hp->α->β->Prop}{R2:_K->Hp->γ->δ->Prop}{m:Env->af->cL α}{k:α->af->cL γ}{Q:δ->Hp->Prop}{Q':β->Hp->Prop}(μ:Env)(ρ:_K)(st:af)(rs:RS W ρ H μ σ)(sr:SR W.K ρ st H)(h:wR W E R2 ρ H Q ((m μ st).bind k))(c:∀u a7 ρ1 H1 x,aF ρ H ρ1 H1->SR W.K ρ1 a7 H1->R1 ρ1 H1 u x->wR W E R2 ρ1 H1 Q (k u a7)->Q' x H1):tG W E R1 m σ H Q':=by
 refine⟨μ,ρ,st,rs,sr,?_⟩;cases e:m μ st with
 |ok u a7=>
  rw[e]at h;intro ρ1 H1 x e1 cA r1;exact c u a7 ρ1 H1 x e1 cA r1 (wR.mono h e1)
 |err c a7=>rw[e]at h;exact h
 |bad=>rw[e]at h;exact h
theorem PE.imp{e:Expr}{t t':TE}(h:PE X e t)(k:∀σ H Q,t' σ H Q->t σ H Q):PE X e t':=λae s σ H Q I q=>h ae s σ H Q I (k σ H Q q)
theorem PT.imp{e:Expr}{t t':TT}(h:PT X e t)(k:∀σ H Q,t' σ H Q->t σ H Q):PT X e t':=λae s σ H Q I q=>h ae s σ H Q I (k σ H Q q)
theorem PW.imp{e:Expr}{t t':TT}(h:PW X e t)(k:∀σ H Q,t' σ H Q->t σ H Q):PW X e t':=λw ae s σ H Q I q=>h w ae s σ H Q I (k σ H Q q)
theorem PA.imp{e:List Expr}{t t':TA}(h:PA X e t)(k:∀σ H Q,t' σ H Q->t σ H Q):PA X e t':=λp ae s σ H Q I q=>h p ae s σ H Q I (k σ H Q q)
theorem PS.imp{e:Stmt}{t t':TS}(h:PS X e t)(k:∀D σ H,t' D σ H->t D σ H):PS X e t':=λae s σ H D I q=>h ae s σ H D I (k D σ H q)
theorem jk.imp{e:List Stmt}{t t':TS}(h:jk X e t)(k:∀D σ H,t' D σ H->t D σ H):jk X e t':=λae s σ H D I q=>h ae s σ H D I (k D σ H q)
theorem PG.imp{e:Expr}{t t':TG}(h:PG X e t)(k:∀v σ H Q,t' v σ H Q->t v σ H Q):PG X e t':=λae s σ H v u Q I r q=>h ae s σ H v u Q I r (k v σ H Q q)
theorem dN.imp{f:_M->_M->Sem _M}{t t':R2}(h:dN X f t)(k:∀x y H Q,t' x y H Q->t x y H Q):dN X f t':=λae s σ H x y v u Q I rx ry q=>h ae s σ H x y v u Q I rx ry (k x y H Q q)
theorem bp.imp{f:_M}{t t':List V->Hp->VK->Prop}(h:bp X f t)(k:∀xs H Q,t' xs H Q->t xs H Q):bp X f t':=λae s σ H xs us Q I r q=>h ae s σ H xs us Q I r (k xs H Q q)
theorem xA.imp{t t':R2}(h:xA X t)(k:∀x y H Q,t' x y H Q->t x y H Q):xA X t':=λva sl ae s σ H x y v u Q I rx ry q e=>h va sl ae s σ H x y v u Q I rx ry (k x y H Q q) e
def UZ:ak->Bool
 |.exc _=>true
 |.fn _ _=>true
 |_=>false
def ir(i:Nat):ME:=λμ st=>match μ[i]? with
 |some (some v)=>if UZ v=true then .bad else .ok v st
 |_=>.bad
theorem zN.un{W:Wo}{u:ak}{v:V}(h:zN W ρ H u v)(n:¬ UZ u=true):Rl W.K ρ H u v:=by
 cases u with
 |exc c=>exact absurd rfl n
 |fn L u=>exact absurd rfl n
 |_=>exact h
def mC(v:ak):ME:=λ_ st=>.ok v st
theorem Ld(i:Nat)(hN:X.N[i]?=some x:=by rfl)(hv:FE X.env.scope x:=by left)(hd:(x==("__debug__":Str))=false:=by decide)(o?:(x==("__classdict__":Str))=false:=by decide):PE X (.Name x pos) (tE X E (ir i)):=by
 refine PE.imp (tJ hN hv hd o?) ?_;rintro σ H Q ⟨μ,ρ,st,rs,sr,h⟩;unfold ir at h;split at h
 .rename_i v e;obtain⟨w,e',r⟩:=rs.at_ i v e;split at h
  .exact h.elim
  .rename_i n;exact⟨w,e',h ρ H w (aF.refl _ _) sr (r.un n)⟩
 .exact h.elim
theorem vJ{e:Expr}{v:V}{c:ak}(h:PE X e (tC v))(r:∀ρ H,Rl X.K ρ H c v):PE X e (tE X E (mC c)):=by refine PE.imp h ?_;rintro σ H Q ⟨μ,ρ,st,rs,sr,h⟩;exact h ρ H v (aF.refl _ _) sr (r ρ H)
theorem Le{i j}:PE X (.Constant (.int i) j pos) (tE X E (mC (.int i))):=vJ JV λ_ _=>Rl.mkInt i
theorem OS{b j}:PE X (.Constant (.bool b) j pos) (tE X E (mC (.bl b))):=vJ IZ λ_ _=>Rl.Bb b
theorem Lf{j}:PE X (.Constant .none j pos) (tE X E (mC .c6)):=vJ JW λ_ _=>Rl.zL
theorem Lg{x j}:PE X (.Constant (.str x) j pos) (tE X E (mC (.str x))):=vJ JX λ_ _=>Rl.mkStr x
structure Glob(K:_G)(mg:_E)(x:Str)(c:ak):Prop where
 at_:∃(u:_M)(v:V),mg x=some u/\bD v u/\∀ρ H,Rl K ρ H c v
theorem t?{c:ak}(hg:Gl X x)(h:Glob X.K X.mg x c)(hd:(x==("__debug__":Str))=false:=by decide):PE X (.Name x pos) (tE X E (mC c)):=by obtain⟨u,v,h1,h2,h3⟩:=h.at_;exact vJ (tK hg h1 h2 hd) h3
abbrev F2:=ak->ak->af->cL ak
def rM(W:Wo)(E:XK)(f:F2):R2:=λx y H Q=>∃ρ st u w,SR W.K ρ st H/\Rl W.K ρ H u x/\Rl W.K ρ H w y/\wR W E (Rl W.K) ρ H Q (f u w st)
def ag(f:F2)(a b:ME):ME:=λμ st=>(a μ st).bind λx a7=>(b μ a7).bind λy dh=>f x y dh
section
variable{a b c:Expr}{ma mb mc:ME}{f g:F2}
theorem lI{Q:VK}(h:tE X E (ag f ma mb) σ H Q):Nj (rM (wo X) E f) (tE X E ma) (tE X E mb) σ H Q:=by obtain⟨μ,ρ,st,rs,sr,h⟩:=h;refine go μ ρ st rs sr h λu a7 ρ1 H1 x e1 cA r1 h1=>?_;refine go μ ρ1 a7 (rs.mono e1) cA h1 λw dh ρ2 H2 y e2 nN r2 h2=>?_;exact⟨ρ2,dh,u,w,nN,Rl.mono e2 _ _ r1,r2,h2⟩
theorem kE{op:Operator}(ho:dN X (binaryOp op) (rM (wo X) E f))(ha:PE X a (tE X E ma))(hb:PE X b (tE X E mb)):PE X (.BinOp a op b pos) (tE X E (ag f ma mb)):=
 PE.imp (N0 ho ha hb) λ_ _ _ h=>lI h
theorem jx(ho:dN X (compareOp op) (rM (wo X) E f))(ha:PE X a (tE X E ma))(hb:PE X b (tE X E mb))(hm:behindInMarks op b=false:=by first|exact CJ _|(with_unfolding_all rfl)):PE X (.Compare a [op] [b] pos) (tE X E (ag f ma mb)):=
 PE.imp (Gb ho ha hb hm) λ_ _ _ h=>lI h
def ck(m:ME):MT:=λμ st=>(m μ st).bind λv az=>match v with
 |.bl b=>.ok b az
 |_=>.bad
theorem vK{m:ME}{Q:Bool->Hp->Prop}(h:tT X E (ck m) σ H Q):tE X E m σ H λx H'=>∃k,x=.bl k/\Q k H':=by
 obtain⟨μ,ρ,st,rs,sr,h⟩:=h;refine go μ ρ st rs sr h λu a7 ρ1 H1 x e1 cA r1 h1=>?_;cases u with
 |bl b=>exact⟨b,r1.pJ,h1 ρ1 H1 b (aF.refl _ _) cA rfl⟩
 |_=>exact h1.elim
theorem jy(ho:dN X (compareOp op) (rM (wo X) E f))(ha:PE X a (tE X E ma))(hb:PE X b (tE X E mb))(hm:behindInMarks op b=false:=by first|exact CJ _|(with_unfolding_all rfl)):PT X (.Compare a [op] [b] pos) (tT X E (ck (ag f ma mb))):=
 PT.imp (Gd ho ha hb hm) λσ H Q h=>by show Nj (rM (wo X) E f) (tE X E ma) (tE X E mb) σ H _;exact lI (vK h)
theorem Lh{m:ME}(h:PE X a (tE X E m))(he:∀whole,isTrue a X.env whole=(do let v <- whole;standAt a.pos;holding [v] (truthy v)):=by intro _;rfl):PT X a (tT X E (ck m)):=
 PT.imp (JY h he) λσ H Q h=>vK h
def ua(f g:F2)(a b c:ME):ME:=λμ st=>(a μ st).bind λx a7=>(b μ a7).bind λy dh=>(f x y dh).bind λz nV=>match z with
 |.bl true=>(c μ nV).bind λw mP=>g y w mP
 |.bl false=>.ok (.bl false) nV
 |_=>.bad
def Tells(f:F2):Prop:=∀u w st,f u w st=.bad\/∃b,f u w st=.ok (.bl b) st
theorem xT(hf:Tells f){Q:VK}(h:tE X E (ua f g ma mb mc) σ H Q):CK (rM (wo X) E f) (rM (wo X) E g) (tE X E ma) (tE X E mb) (tE X E mc) σ H Q:=by
 obtain⟨μ,ρ,st,rs,sr,h⟩:=h;refine go μ ρ st rs sr h λu a7 ρ1 H1 x e1 cA r1 h1=>?_;refine go μ ρ1 a7 (rs.mono e1) cA h1 λw dh ρ2 H2 y e2 nN r2 h2=>?_;refine⟨ρ2,dh,u,w,nN,Rl.mono e2 _ _ r1,r2,?_⟩;rcases hf u w dh with e|⟨k,e⟩
 .rw[e]at h2;exact h2.elim
 .rw[e]at h2⊢;intro ρ3 H3 z e3 xU rz;rw[rz.pJ];refine⟨k,rfl,?_⟩;cases k with
  |true=>
   rw[VA rfl];refine go μ ρ3 dh (((rs.mono e1).mono e2).mono e3) xU (wR.mono h2 e3) λv mP ρ4 H4 x4 e4 n_ r4 h4=>?_;exact⟨ρ4,mP,w,v,n_,Rl.mono (e3.trans e4) _ _ r2,r4,h4⟩
  |false=>
   rw[VL VH];exact h2 ρ3 H3 _ e3 xU (Rl.Bb false)
theorem Dm{Kj:CmpOp}(hf:Tells f)(ho:dN X (compareOp op) (rM (wo X) E f))(rX:dN X (compareOp Kj) (rM (wo X) E g))(ha:PE X a (tE X E ma))(hb:PE X b (tE X E mb))(hc:PE X c (tE X E mc))(hm:lastMarks [op,Kj] [b,c]=false:=by with_unfolding_all rfl):PE X (.Compare a [op,Kj] [b,c] pos) (tE X E (ua f g ma mb mc)):=
 PE.imp (CL ho rX ha hb hc hm) λ_ _ _ h=>xT hf h
def q9(a b:ME):ME:=λμ st=>(a μ st).bind λx a7=>match x with
 |.bl true=>b μ a7
 |.bl false=>.ok (.bl false) a7
 |_=>.bad
def QO(a b:ME):ME:=λμ st=>(a μ st).bind λx a7=>match x with
 |.bl true=>.ok (.bl true) a7
 |.bl false=>b μ a7
 |_=>.bad
def Li(a:ME):ME:=λμ st=>(a μ st).bind λx a7=>match x with
 |.bl b=>.ok (.bl (!b)) a7
 |_=>.bad
def pK(a b:MT):MT:=λμ st=>(a μ st).bind λx a7=>match x with
 |true=>b μ a7
 |false=>.ok false a7
def eV(a b:MT):MT:=λμ st=>(a μ st).bind λx a7=>match x with
 |true=>.ok true a7
 |false=>b μ a7
def cH(a:MT):MT:=λμ st=>(a μ st).bind λx a7=>.ok (!x) a7
def OT(t:MT)(a b:ME):ME:=λμ st=>(t μ st).bind λx a7=>match x with
 |true=>a μ a7
 |false=>b μ a7
variable{rest:List Expr}{tA FV:MT}
theorem Lj{op}{m:ME}(h:PE X a (tE X E m)):PE X (.BoolOp op [a] pos) (tE X E m):=J2 h
theorem Lk(ha:PE X a (tE X E ma))(hb:PE X (.BoolOp .And (b::rest) pos) (tE X E mb)):PE X (.BoolOp .And (a::b::rest) pos) (tE X E (q9 ma mb)):=by
 refine PE.imp (J3 ha hb) ?_;rintro σ H Q ⟨μ,ρ,st,rs,sr,h⟩;refine go μ ρ st rs sr h λu a7 ρ1 H1 x e1 cA r1 h1=>?_;cases u with
 |bl k=>
  refine⟨k,r1.pJ,?_⟩;cases k with
  |true=>rw[VA rfl];exact⟨μ,ρ1,a7,rs.mono e1,cA,h1⟩
  |false=>rw[VL VH];exact h1 ρ1 H1 _ (aF.refl _ _) cA (Rl.Bb false)
 |_=>exact h1.elim
theorem OU(ha:PE X a (tE X E ma))(hb:PE X (.BoolOp .Or (b::rest) pos) (tE X E mb)):PE X (.BoolOp .Or (a::b::rest) pos) (tE X E (QO ma mb)):=by
 refine PE.imp (NR ha hb) ?_;rintro σ H Q ⟨μ,ρ,st,rs,sr,h⟩;refine go μ ρ st rs sr h λu a7 ρ1 H1 x e1 cA r1 h1=>?_;cases u with
 |bl k=>
  refine⟨k,r1.pJ,?_⟩;cases k with
  |true=>rw[VA rfl];exact h1 ρ1 H1 _ (aF.refl _ _) cA (Rl.Bb true)
  |false=>rw[VL VH];exact⟨μ,ρ1,a7,rs.mono e1,cA,h1⟩
 |_=>exact h1.elim
theorem Ll(ha:PE X a (tE X E ma)):PE X (.UnaryOp .Not a pos) (tE X E (Li ma)):=by
 refine PE.imp (J4 ha) ?_;rintro σ H Q ⟨μ,ρ,st,rs,sr,h⟩;refine go μ ρ st rs sr h λu a7 ρ1 H1 x e1 cA r1 h1=>?_;cases u with
 |bl k=>exact⟨k,r1.pJ,h1 ρ1 H1 _ (aF.refl _ _) cA (Rl.Bb _)⟩
 |_=>exact h1.elim
theorem GR(ha:PT X a (tT X E tA)):PW X (.BoolOp .And [a] pos) (tT X E tA):=FW ha
theorem Lm(ha:PT X a (tT X E tA)):PW X (.BoolOp .Or [a] pos) (tT X E tA):=JZ ha
theorem Ln(ha:PT X a (tT X E tA))(hb:PW X (.BoolOp .And (b::rest) pos) (tT X E FV)):PW X (.BoolOp .And (a::b::rest) pos) (tT X E (pK tA FV)):=by
 refine PW.imp (J0 ha hb) ?_;rintro σ H Q ⟨μ,ρ,st,rs,sr,h⟩;refine go (R1:=RB) μ ρ st rs sr h λu a7 ρ1 H1 x e1 cA r1 h1=>?_;cases r1;cases u with
 |true=>rw[VA rfl];exact⟨μ,ρ1,a7,rs.mono e1,cA,h1⟩
 |false=>rw[VL VH];exact h1 ρ1 H1 _ (aF.refl _ _) cA rfl
theorem OV(ha:PT X a (tT X E tA))(hb:PW X (.BoolOp .Or (b::rest) pos) (tT X E FV)):PW X (.BoolOp .Or (a::b::rest) pos) (tT X E (eV tA FV)):=by
 refine PW.imp (NO ha hb) ?_;rintro σ H Q ⟨μ,ρ,st,rs,sr,h⟩;refine go (R1:=RB) μ ρ st rs sr h λu a7 ρ1 H1 x e1 cA r1 h1=>?_;cases r1;cases u with
 |true=>rw[VA rfl];exact h1 ρ1 H1 _ (aF.refl _ _) cA rfl
 |false=>rw[VL VH];exact⟨μ,ρ1,a7,rs.mono e1,cA,h1⟩
theorem SH{e:Expr}{t:MT}(h:PW X e (tT X E t)):PT X e (tT X E t):=h.pt
theorem Lo(ha:PT X a (tT X E tA)):PT X (.UnaryOp .Not a pos) (tT X E (cH tA)):=by refine PT.imp (J1 ha) ?_;rintro σ H Q ⟨μ,ρ,st,rs,sr,h⟩;refine go (R1:=RB) μ ρ st rs sr h λu a7 ρ1 H1 x e1 cA r1 h1=>?_;cases r1;exact h1 ρ1 H1 _ (aF.refl _ _) cA rfl
theorem OW(hc:PT X c (tT X E tA))(ha:PE X a (tE X E ma))(hb:PE X b (tE X E mb)):PE X (.IfExp c a b pos) (tE X E (OT tA ma mb)):=by
 refine PE.imp (CA hc ha hb) ?_;rintro σ H Q ⟨μ,ρ,st,rs,sr,h⟩;refine go (R1:=RB) μ ρ st rs sr h λu a7 ρ1 H1 x e1 cA r1 h1=>?_;cases r1;cases u with
 |true=>rw[VA rfl];exact⟨μ,ρ1,a7,rs.mono e1,cA,h1⟩
 |false=>rw[VL VH];exact⟨μ,ρ1,a7,rs.mono e1,cA,h1⟩
end
def aj:MA:=λ_ st=>.ok [] st
def aa(a:ME)(r:MA):MA:=λμ st=>(a μ st).bind λx a7=>(r μ a7).bind λxs dh=>.ok (x::xs) dh
abbrev aE: ME := ir 0
abbrev aW: ME := ir 1
abbrev bK: ME := ir 2
abbrev c5: ME := ir 3
abbrev fV: ME := ir 4
abbrev kY: ME := ir 5
abbrev oP: ME := ir 6
abbrev zO: ME := ir 7
abbrev oQ: ME := ir 8
abbrev Bc: ME := ir 10
abbrev bI: ME := mC (.int 0)
abbrev dJ: ME := mC (.int 1)
abbrev so: ME := mC (.int 2)
abbrev Bd: ME := mC (.int 3)
abbrev vL: ME := mC (.int 4)
abbrev Lp: ME := mC (.int 5)
abbrev Be: ME := mC (.int 10)
abbrev vM: ME := mC (.int 20)
abbrev ft: ME := mC (.int 2147483629)
abbrev fu: ME := mC (.int 2147483647)
abbrev qs(x : Str): ME := mC (.str x)
abbrev qI(i : Int): Option ak := some (.int i)
abbrev qN(n : Nat): Option ak := some (.int n)
abbrev qS(x : Str): Option ak := some (.str x)
abbrev qL(n : Nat): Option ak := some (.loc n)
abbrev qn: Option ak := none
def cQ(a:MA):ME:=λμ st=>(a μ st).bind λxs a7=>if xs.length<=sizeLine then .ok (.tup xs) a7 else .bad
def df(a:MA):ME:=λμ st=>(a μ st).bind λxs a7=>if xs.length<=sizeLine then .ok (.loc a7.length) (a7++[.lst xs])else .bad
abbrev FN:=List ak->af->cL ak
def ai(f:FN)(a:MA):ME:=λμ st=>(a μ st).bind λxs a7=>f xs a7
def Lq(W:Wo)(f:FN):Sp:=λvs H Q E=>∃us ρ st,bj W.K ρ H us vs/\SR W.K ρ st H/\wR W E (Rl W.K) ρ H Q (f us st)
def cM(W:Wo)(E:XK)(f:FN):List V->Hp->VK->Prop:=λxs H Q=>∃ρ st us,SR W.K ρ st H/\bj W.K ρ H us xs/\wR W E (Rl W.K) ρ H Q (f us st)
section
variable{p:Pos}{e:Expr}{m:ME}{ms:MA}{f:FN}
theorem Lr:PA X [] (tL X E aj):=PA.imp kB λσ H Q⟨μ,ρ,st,rs,sr,h⟩=>h ρ H [] (aF.refl _ _) sr bj.nil
theorem GS(ha:PE X e (tE X E m))(hr:PA X es (tL X E ms))(hs:starEach (e::es) X.env=(false,eval e X.env)::starEach es X.env:=by rfl):PA X (e::es) (tL X E (aa m ms)):=by refine PA.imp (fS ha hr hs) ?_;rintro σ H Q ⟨μ,ρ,st,rs,sr,h⟩;refine go μ ρ st rs sr h λu a7 ρ1 H1 x e1 cA r1 h1=>?_;refine go (R1:=bj X.K) μ ρ1 a7 (rs.mono e1) cA h1 λw dh ρ2 H2 y e2 nN r2 h2=>?_;exact h2 ρ2 H2 _ (aF.refl _ _) nN (bj.cons (Rl.mono e2 _ _ r1) r2)
theorem Ls{k}(h:PA X es (tL X E ms)):PE X (.Tuple es k pos) (tE X E (cQ ms)):=by
 refine PE.imp (Km h) ?_;rintro σ H Q ⟨μ,ρ,st,rs,sr,h⟩;refine go (R1:=bj X.K) μ ρ st rs sr h λus a7 ρ1 H1 xs e1 cA r1 h1=>?_;by_cases hz:us.length<=sizeLine
 .rw[VA hz]at h1;refine⟨by rw[<-r1.length];exact hz,λp hp=>?_⟩;have s:=c7 (o:=.tup xs) hp;exact h1 ρ1 _ _ (aF.same s) (cA.grow s) (Rl.lH cg (bj.mono (aF.same s) _ _ r1))
 .rw[VL hz]at h1;exact h1.elim
theorem ie{K:_G}{st:af}{us:List ak}{xs:List V}(sr:SR K ρ st H)(r:bj K ρ H us xs){p:_O}(hp:H p=none):
  aF ρ H (ρ++[p]) (upd H p (.lst xs))/\SR K (ρ++[p]) (st++[.lst us]) (upd H p (.lst xs))/\Rl K (ρ++[p]) (upd H p (.lst xs)) (.loc st.length) (.ref p):=by
 have s:=c7 (o:=.lst xs) hp;refine⟨aF.snoc p s,sr.alloc hp ⟨xs,cg,bj.mono (aF.snoc p s) _ _ r⟩,Rl.Dl ?_⟩;rw[<-sr.len,VN (Vy _),WJ];rfl
theorem Lu(h:PA X es (tL X E ms)):PE X (.List es pos) (tE X E (df ms)):=by
 refine PE.imp (Kn h) ?_;rintro σ H Q ⟨μ,ρ,st,rs,sr,h⟩;refine go (R1:=bj X.K) μ ρ st rs sr h λus a7 ρ1 H1 xs e1 cA r1 h1=>?_;by_cases hz:us.length<=sizeLine
 .rw[VA hz]at h1;refine⟨by rw[<-r1.length];exact hz,λp hp=>?_⟩;obtain⟨a,b,c⟩:=ie cA r1 hp;exact h1 _ _ _ a b c
 .rw[VL hz]at h1;exact h1.elim
theorem GU{fd:FuncData}(F:jr X.prog X.w X.K X.mg X.base CX k fa fd ps (Lq ⟨X.K,X.mg,[]⟩ f))(hr:fJ k X.A)(hg:Gl X x)(hm:X.mg x=some (.ref fa))(hk:W.keepIn X.K (.ref fa)=true)(hb:Binds X.K fd ps [])(hx:Passes CX X E)(ha:PA X (e::es) (tL X E ms))(kC:(x==("__debug__":Str))=false:=by decide)(he:starEach (e::es) X.env=(false,eval e X.env)::starEach es X.env:=by rfl)(iR:(backTo pos (starEach es X.env)).any (·.1)=false:=by rfl):
  PE X (.Call (.Name x p) (e::es) [] pos) (tE X E (ai f ms)):=by
 refine PE.imp (Gg F hr hg hm hk hb .nil hx ha kC he iR) ?_;rintro σ H Q ⟨μ,ρ,st,rs,sr,h⟩;refine go (R1:=bj X.K) μ ρ st rs sr h λus a7 ρ1 H1 xs e1 cA r1 h1=>?_;rw[Wa];exact⟨us,ρ1,a7,r1,cA,wR.pn h1⟩
theorem f7{id:String}(hc:bp X (.builtin id) (cM (wo X) E f))(hg:Gl X x)(hm:X.mg x=none)(hv:bootBuiltins x=some (.builtin id))(ha:PA X (e::es) (tL X E ms))(hn:x ≠ "__name__":=by decide)(kC:(x==("__debug__":Str))=false:=by decide)(he:starEach (e::es) X.env=(false,eval e X.env)::starEach es X.env:=by rfl)(iR:(backTo pos (starEach es X.env)).any (·.1)=false:=by rfl):PE X (.Call (.Name x p) (e::es) [] pos) (tE X E (ai f ms)):=by refine PE.imp (k? hc hg hm hv ha hn kC he iR) ?_;rintro σ H Q ⟨μ,ρ,st,rs,sr,h⟩;exact go (R1:=bj X.K) μ ρ st rs sr h λus a7 ρ1 H1 xs e1 cA r1 h1=>⟨ρ1,a7,us,cA,r1,h1⟩
theorem jP{T:String}(hc:bp X (.type T) (cM (wo X) E f))(hg:Gl X x)(hm:X.mg x=none)(hv:bootBuiltins x=some (.type T))(ha:PA X (e::es) (tL X E ms))(hn:x ≠ "__name__":=by decide)(kC:(x==("__debug__":Str))=false:=by decide)(he:starEach (e::es) X.env=(false,eval e X.env)::starEach es X.env:=by rfl)(iR:(backTo pos (starEach es X.env)).any (·.1)=false:=by rfl):PE X (.Call (.Name x p) (e::es) [] pos) (tE X E (ai f ms)):=by refine PE.imp (AU hc hg hm hv ha hn kC he iR) ?_;rintro σ H Q ⟨μ,ρ,st,rs,sr,h⟩;exact go (R1:=bj X.K) μ ρ st rs sr h λus a7 ρ1 H1 xs e1 cA r1 h1=>⟨ρ1,a7,us,cA,r1,h1⟩
end
section
variable{a b:Expr}{ma mb:ME}{f:F2}
theorem OX(hr:xA X (rM (wo X) E f))(ha:PE X a (tE X E ma))(hb:PE X b (tE X E mb))(hs:tP b:=by exact λ_ _=>rfl):PE X (.Subscript a b pos) (tE X E (ag f ma mb)):=
 PE.imp (Og hr ha hb hs) λ_ _ _ h=>lI h
end
def wS(W:Wo)(E:XK)(ρ:_K)(H:Hp)(D:Ends):dI->Prop
 |.nx μ st=>∀ρ' H' σ',aF ρ H ρ' H'->SR W.K ρ' st H'->RS W ρ' H' μ σ'->D.nx σ' H'
 |.rt v st=>∀ρ' H' x,aF ρ H ρ' H'->SR W.K ρ' st H'->Rl W.K ρ' H' v x->D.rt x H'
 |.bk μ st=>∀ρ' H' σ',aF ρ H ρ' H'->SR W.K ρ' st H'->RS W ρ' H' μ σ'->D.bk σ' H'
 |.ct μ st=>∀ρ' H' σ',aF ρ H ρ' H'->SR W.K ρ' st H'->RS W ρ' H' μ σ'->D.ct σ' H'
 |.er c _ st=>∃C,W.mg c=some (.ref C)/\∀ρ' H',aF ρ H ρ' H'->SR W.K ρ' st H'->E (.ref C) none H'
 |.bad=>False
theorem wS.mono{W:Wo}{D:Ends}{r:dI}(h:wS W E ρ H D r)(e:aF ρ H ρ' H'):wS W E ρ' H' D r:=by
 cases r with
 |nx μ st=>exact λρ2 H2 σ2 e2 s r=>h ρ2 H2 σ2 (e.trans e2) s r
 |rt v st=>exact λρ2 H2 x e2 s r=>h ρ2 H2 x (e.trans e2) s r
 |bk μ st=>exact λρ2 H2 σ2 e2 s r=>h ρ2 H2 σ2 (e.trans e2) s r
 |ct μ st=>exact λρ2 H2 σ2 e2 s r=>h ρ2 H2 σ2 (e.trans e2) s r
 |er c μ st=>obtain⟨C,h1,h2⟩:=h;exact⟨C,h1,λρ2 H2 e2 s=>h2 ρ2 H2 (e.trans e2) s⟩
 |bad=>exact h
def tS(X:Cx)(E:XK)(m:MB):TS:=λD σ H=>∃μ ρ st,RS (wo X) ρ H μ σ/\SR X.K ρ st H/\wS (wo X) E ρ H D (m μ st)
@[reducible] def cL.sb(r:cL α)(μ:Env)(k:α->af->dI):dI:=match r with
 |.ok a st=>k a st
 |.err c st=>.er c μ st
 |.bad=>.bad
theorem GV{W:Wo}{R1:_K->Hp->α->β->Prop}{m:Env->af->cL α}{k:α->af->dI}{D:Ends}{Q':β->Hp->Prop}(μ:Env)(ρ:_K)(st:af)(rs:RS W ρ H μ σ)(sr:SR W.K ρ st H)(h:wS W E ρ H D ((m μ st).sb μ k))(c:∀u a7 ρ1 H1 x,aF ρ H ρ1 H1->SR W.K ρ1 a7 H1->R1 ρ1 H1 u x->wS W E ρ1 H1 D (k u a7)->Q' x H1):tG W E R1 m σ H Q':=by
 refine⟨μ,ρ,st,rs,sr,?_⟩;cases e:m μ st with
 |ok u a7=>
  rw[e]at h;intro ρ1 H1 x e1 cA r1;exact c u a7 ρ1 H1 x e1 cA r1 (wS.mono h e1)
 |err c a7=>rw[e]at h;exact h
 |bad=>rw[e]at h;exact h
def bz:MB:=λμ st=>.nx μ st
def aA(a b:MB):MB:=λμ st=>match a μ st with
 |.nx μ' az=>b μ' az
 |r=>r
def dy(m:ME):MB:=λμ st=>(m μ st).sb μ λ_ az=>.nx μ az
def aK(m:ME):MB:=λμ st=>(m μ st).sb μ λv az=>.rt v az
def fL(t:MT)(a b:MB):MB:=λμ st=>(t μ st).sb μ λk az=>match k with
 |true=>a μ az
 |false=>b μ az
def aN(i:Nat)(m:ME):MB:=λμ st=>(m μ st).sb μ λv az=>.nx (μ.set i (some v)) az
def mQ(c:Str)(m:MA):MB:=λμ st=>(m μ st).sb μ λvs az=>if vs.length<=sizeLine then .er c μ az else .bad
section
variable{s1:Stmt}{rest:List Stmt}{e:Expr}{m:ME}{a b:MB}
theorem Lv:jk X [] (tS X E bz):=jk.imp FX λD σ H⟨μ,ρ,st,rs,sr,h⟩=>h ρ H σ (aF.refl _ _) sr rs
theorem zP(h1:PS X s1 (tS X E a))(h2:jk X rest (tS X E b)):jk X (s1::rest) (tS X E (aA a b)):=by
 refine jk.imp (CB h1 h2) ?_;rintro D σ H ⟨μ,ρ,st,rs,sr,h⟩;refine⟨μ,ρ,st,rs,sr,?_⟩;unfold aA at h;cases e:a μ st with
 |nx μ' az=>
  rw[e]at h;intro ρ1 H1 σ1 e1 cA OY;exact⟨μ',ρ1,az,OY,cA,wS.mono h e1⟩
 |rt v az=>rw[e]at h;exact h
 |bk μ' az=>rw[e]at h;exact h
 |ct μ' az=>rw[e]at h;exact h
 |er c μ' az=>rw[e]at h;exact h
 |bad=>rw[e]at h;exact h
theorem Dn(h1:PS X s1 (tS X E a)):jk X [s1] (tS X E a):=FY h1
theorem GW(he:PE X e (tE X E m))(hs:swapsWith e none pos.line X.env=pure false:=by rfl):PS X (.Expr e pos) (tS X E (dy m)):=by refine PS.imp (FZ he hs) ?_;rintro D σ H ⟨μ,ρ,st,rs,sr,h⟩;exact GV μ ρ st rs sr h λu a7 ρ1 H1 x e1 cA r1 h1=>h1 ρ1 H1 σ (aF.refl _ _) cA (rs.mono e1)
theorem Lw(he:PE X e (tE X E m)):PS X (.Return (some e) pos) (tS X E (aK m)):=by refine PS.imp (J5 he) ?_;rintro D σ H ⟨μ,ρ,st,rs,sr,h⟩;exact GV μ ρ st rs sr h λu a7 ρ1 H1 x e1 cA r1 h1=>h1 ρ1 H1 x (aF.refl _ _) cA r1
theorem OZ{c:Expr}{sa sb:List Stmt}{t:MT}(hc:PT X c (tT X E t))(ha:jk X sa (tS X E a))(hb:jk X sb (tS X E b)):PS X (.If c sa sb pos) (tS X E (fL t a b)):=by
 refine PS.imp (NV hc ha hb) ?_;rintro D σ H ⟨μ,ρ,st,rs,sr,h⟩;refine GV (R1:=RB) μ ρ st rs sr h λu a7 ρ1 H1 x e1 cA r1 h1=>?_;cases r1;cases u with
 |true=>rw[VA rfl];exact⟨μ,ρ1,a7,rs.mono e1,cA,h1⟩
 |false=>rw[VL VH];exact⟨μ,ρ1,a7,rs.mono e1,cA,h1⟩
theorem vN{D:Ends}(h:tS X E (aN i m) D σ H):J8 (tE X E m) (vi i) D σ H:=by obtain⟨μ,ρ,st,rs,sr,h⟩:=h;exact GV μ ρ st rs sr h λu a7 ρ1 H1 x e1 cA r1 h1=>h1 ρ1 H1 _ (aF.refl _ _) cA ((rs.mono e1).set i r1)
theorem Lx(i:Nat)(hN:X.N.Nodup)(he:PE X e (tE X E m))(hi:X.N[i]?=some x:=by rfl)(hx:Loc X.env.scope x:=by left)(hs:swapsWith e (some (.Name x pos')) pos.line X.env=pure false:=by rfl)(hf:X.fn x=true\/X.env.scope.names.lookup x=some .local:=by left):PS X (.Assign [.Name x pos'] e pos) (tS X E (aN i m)):=
 PS.imp (J9 hN hi hx he hs hf) λ_ _ _ h=>vN h
theorem Dp{B xS:String}{bm:_I}{ms:MA}(hX:Raises X E)(hc:X.calm=true)(hm:X.mg x=some (.ref C))(hq:W.excIn X.K C bm newId=true)(FB:ExcBaseFacts B newId xS bm)(hg:Gl X x)(ha:PA X (e₀::es) (tL X E ms))(he:starEach (e₀::es) X.env=(false,eval e₀ X.env)::starEach es X.env:=by rfl)(iR:(backTo bM (starEach es X.env)).any (·.1)=false:=by rfl)(hd:(x==("__debug__":Str))=false:=by decide):
  PS X (.Raise (some (.Call (.Name x np) (e₀::es) [] bM)) none pos) (tS X E (mQ x ms)):=by
 refine PS.imp (Di (E:=E) hX hc hm hq FB hg ha he iR hd) ?_;rintro D σ H ⟨μ,ρ,st,rs,sr,h⟩;refine GV (R1:=bj X.K) μ ρ st rs sr h λus a7 ρ1 H1 xs e1 cA r1 h1=>?_;by_cases hz:us.length<=sizeLine
 .rw[VA hz]at h1;obtain⟨C',q1,q2⟩:=h1;have e:C'=C:=by have:=q1.symm.trans hm;injection this with this;injection this
  subst e;exact⟨by rw[<-r1.length];exact hz,q2 ρ1 H1 (aF.refl _ _) cA⟩
 .rw[VL hz]at h1;exact h1.elim
end
def gf(np n:Nat)(body:MB):FN:=λus st=>if us.length=np then(match body (us.map some++List.replicate (n-np) none) st with
 |.nx _ az=>.ok .c6 az
 |.rt v az=>.ok v az
 |.er c _ az=>.err c az
 |_=>.bad)else .bad
theorem RS.start{W:Wo}{us:List ak}{vs:List V}(r:bj W.K ρ H us vs):RS W ρ H (us.map some++List.replicate (N.length-us.length) none) (L2.start N vs):=by
 have hl:=r.length;refine⟨by simp[L2.start,hl],λi u e=>?_⟩;rcases WS i us.length with q|q
 .rw[V4 (by rw[Vs];exact q),VV]at e;have e':us[i]?=some u:=by
   cases z:us[i]? with
   |none=>rw[z]at e;cases e
   |some w=>rw[z]at e;exact Xc _ (V? (V? e))
  obtain⟨v,h1,h2⟩:=r.get e';refine⟨v,?_,zN.of h2⟩;unfold L2.start;rw[V4 (by rw[Vs,<-hl];exact q),VV,h1];rfl
 .rw[VN (by rw[Vs];exact q)]at e;rw[Xo]at e;split at e
  .cases e
  .cases e
section
variable{K:_G}{mg:_E}
theorem Dq{st:Stmt}{fd:FuncData}{body:MB}(F:FH K x qual st f fd)(S:fj N ps (aV st))
  (h:∀ (ej:_M) (A:_P) (outer:List PySem.Env) (s:_N) (H:Hp) (E:XK),fJ k (A.deeper (envOfC qual (aV st) s.heap.objs.size f ej)) ->
   jk (ip (kX P w) P w K mg base N qual (aV st) f ej A outer s H E) (dH st) (tS (ip (kX P w) P w K mg base N qual (aV st) f ej A outer s H E) E body)):
  jr P w K mg base (kX P w) (k+1) f fd ps (Lq ⟨K,mg,[]⟩ (gf ps.length N.length body)):=by
 refine F.okX S (λvs H Q E q=>?_) (λej A outer s H vs Q E hr q=>⟨_,h ej A outer s H E hr,?_⟩)
 .obtain⟨us,ρ,st,r,sr,q⟩:=q;by_cases hl:us.length=ps.length
  .rw[<-r.length];exact hl
  .unfold gf at q;rw[VL hl]at q;exact q.elim
 .obtain⟨us,ρ,az,r,sr,q⟩:=q;unfold gf at q;by_cases hl:us.length=ps.length
  .rw[VA hl,<-hl]at q;refine⟨_,ρ,az,RS.start r,sr,?_⟩;revert q;cases body (us.map some++List.replicate (N.length-us.length) none) az with
   |nx μ dh=>exact λq ρ' H' σ' e s _=>q ρ' H' .c6 e s Rl.zL
   |rt v dh=>exact λq=>q
   |er c μ dh=>exact λq=>q
   |bk μ dh=>exact λq=>q.elim
   |ct μ dh=>exact λq=>q.elim
   |bad=>exact λq=>q.elim
  .rw[VL hl]at q;exact q.elim
end
def Sz(i:Int):Prop:=i.natAbs.log2<1000000
instance (i:Int):Decidable (Sz i):=inferInstanceAs (Decidable (_<_))
theorem Sz.big{i:Int}(h:Sz i):ic 1000001 i:=by show _<_;have h1:i.natAbs<2 ^ (i.natAbs.log2+1):=_r;exact VG h1 (X0 ⋯ (by have:i.natAbs.log2<1000000:=h;lia))
theorem Sz.of{i:Int}(h:ic k i)(hk:k<=1000000):Sz i:=by
 show i.natAbs.log2<1000000;have h':i.natAbs<2 ^ k:=h;by_cases z:i.natAbs=0
 .rw[z];decide
 .exact VG ((X1 z).mpr h') hk
theorem Sz.mul{i:Int}(h:Sz i)(k:Sz j):zF i j:=⟨_,_,h.big,k.big,by decide,by decide⟩
def Dz(i:Int):Prop:=i≠0/\i.natAbs.log2<8000
instance (i:Int):Decidable (Dz i):=inferInstanceAs (Decidable (_/\_))
theorem Dz.ok{i:Int}(h:Dz j):zG i j:=by refine⟨h.1,?_⟩;show _<_;have h1:j.natAbs<2 ^ (j.natAbs.log2+1):=_r;exact VG h1 (X0 ⋯ (by have:=h.2;lia))
theorem Dz.of{i:Int}(h0:i≠0)(h:ic k i)(hk:k<=8000):Dz i:=by refine⟨h0,?_⟩;have h':i.natAbs<2 ^ k:=h;exact VG ((X1 ⋯).mpr h') hk
def MulOk(i j:Int):Prop:=(Sz i/\Sz j)\/CI i j
instance (i j:Int):Decidable (CI i j):=inferInstanceAs (Decidable (_\/_))
instance (i j:Int):Decidable (MulOk i j):=inferInstanceAs (Decidable (_\/_))
instance (i j:Int):Decidable (AN i j):=inferInstanceAs (Decidable (_/\_/\_))
def nO(k:Nat)(us:List ak):List ak:=(List.replicate k us).flatten
def cq:F2
 |.int i,.int j,st=>.ok (.int (i+j)) st
 |.str a,.str b,st=>if a.length+b.length<=sizeLine then .ok (.str (a++b)) st else .bad
 |.tup us,.tup ws,st=>if us.length+ws.length<=sizeLine then .ok (.tup (us++ws)) st else .bad
 |.loc n,.loc m,st=>match st[n]?,st[m]? with
  |some (.lst us),some (.lst ws)=>if us.length+ws.length<=sizeLine then .ok (.loc st.length) (st++[.lst (us++ws)])else .bad
  |_,_=>.bad
 |_,_,_=>.bad
def ub(g:Int->Int->af->cL ak):F2
 |.int i,.int j,st=>g i j st
 |_,_,_=>.bad
theorem zQ(g:Int->Int->af->cL ak)(u w:ak)(st:af):(∃i j,u=.int i/\w=.int j)\/ub g u w st=.bad:=by
 cases u with
 |int i=>
  cases w with
  |int j=>exact .inl ⟨i,j,rfl,rfl⟩
  |_=>exact .inr rfl
 |_=>exact .inr rfl
theorem iW{g:Int->Int->af->cL ak}{W:Wo}{st:af}{Q:VK}{u w:ak}(h:wR W E (Rl W.K) ρ H Q (ub g u w st)):∃i j,u=.int i/\w=.int j/\wR W E (Rl W.K) ρ H Q (g i j st):=by
 rcases zQ g u w st with⟨i,j,rfl,rfl⟩|z
 .exact⟨i,j,rfl,rfl,h⟩
 .rw[z]at h;exact h.elim
def q_:F2:=ub λi j st=>.ok (.int (i-j)) st
def dg:F2
 |.int i,.int j,st=>if MulOk i j then .ok (.int (i*j)) st else .bad
 |.loc n,.int k,st=>match st[n]? with
  |some (.lst us)=>if -(2 ^ 63)<=k/\k<2 ^ 63/\us.length*k.toNat<=sizeLine then .ok (.loc st.length) (st++[.lst (nO k.toNat us)])else .bad
  |_=>.bad
 |_,_,_=>.bad
def eO:F2:=ub λi j st=>if Dz j then .ok (.int (i.fdiv j)) st else .bad
def dE:F2:=ub λi j st=>if j=0 then .bad else .ok (.int (i.fmod j)) st
def uc:F2:=ub λi j st=>if AN i j then .ok (.int (i ^ j.toNat)) st else .bad
def ltV:F2:=ub λi j st=>.ok (.bl (decide (i<j))) st
def Jk:F2:=ub λi j st=>.ok (.bl (decide (i<=j))) st
def GX:F2:=ub λi j st=>.ok (.bl (decide (j<i))) st
theorem Dr:Tells Jk:=λu w st=>(zQ _ u w st).elim (λ⟨_,_,e1,e2⟩=>.inr (by rw[e1,e2];exact⟨_,rfl⟩)) .inl
theorem c!{W:Wo}{st:af}{Q:VK}{i:Int}(sr:SR W.K ρ st H)(h:wR W E (Rl W.K) ρ H Q (.ok (.int i) st)):Q (.int i) H:=h ρ H _ (aF.refl _ _) sr (Rl.mkInt i)
theorem d!{W:Wo}{st:af}{Q:VK}{i:Bool}(sr:SR W.K ρ st H)(h:wR W E (Rl W.K) ρ H Q (.ok (.bl i) st)):Q (.bl i) H:=h ρ H _ (aF.refl _ _) sr (Rl.Bb i)
theorem bj.Ly{K:_G}{us:List ak}{xs:List V}(r:bj K ρ H us xs):∀k:Nat,bj K ρ H (nO k us) (List.replicate k xs).flatten
 |0=>bj.nil
 |k+1=>by unfold nO;rw[VT,VT,Xi,Xi];exact r.append (bj.Ly r k)
theorem Dt:dN X (binaryOp .Add) (λx y H Q=>∃a b ys,x=.ref a/\y=.ref b/\jq X.K H a []/\jq X.K H b ys/\Q (.ref b) H):=by
 intro ae s σ H x y v u Q I rx ry h;obtain⟨a,b,ys,rfl,rfl,ha,hb,q⟩:=h;cases rx;cases ry;obtain⟨aI,r1,p1,_⟩:=I.tuple ha;obtain⟨dD,r2,p2,_⟩:=I.tuple hb;cases r1;obtain⟨⟨cls,dd,data,sl⟩,ho,hc,n,hd⟩:=id p1;obtain⟨⟨RN,Qy,data2,Oc⟩,vm,zy,n2,hd2⟩:=id p2;simp only at hc hd zy hd2;subst hc hd zy hd2;exact _k ⟨_,ho,rfl⟩ ⟨_,vm,rfl⟩ Zd ZZ Yk Yh (Ye _ _)
  (tuple_addW0 a b #[] dD.toArray n n2 dd Qy sl Oc (by simp)) ⟨ho,vm,⟨.ref b,H,I,rfl,q⟩⟩
theorem GY:dN X (binaryOp .Add) (rM (wo X) E cq):=by
 refine dN.imp (dN.or Kd (dN.or xG (dN.or Ky (dN.or Gm Dt)))) ?_;rintro x y H Q ⟨ρ,st,u,w,sr,r1,r2,h⟩;cases u<;>cases w<;>try exact h.elim
 case int.int i j=>exact .inl ⟨i,j,r1.cV,r2.cV,c! sr h⟩
 case str.str a b=>
  unfold cq at h;dsimp only at h;split at h
  .rename_i hz;exact .inr (.inl ⟨a,b,r1.jl,r2.jl,hz,h ρ H _ (aF.refl _ _) sr (Rl.mkStr _)⟩)
  .exact h.elim
 case tup.tup us ws=>
  unfold cq at h;dsimp only at h;split at h
  .rename_i hz;obtain⟨a,xs,rfl,ha,ra⟩:=r1.fN;obtain⟨b,ys,rfl,hb,rb⟩:=r2.fN;by_cases hx:xs=[]
   .subst hx;have hu:us=[]:=WB ra.length;subst hu;exact .inr (.inr (.inr (.inr ⟨a,b,ys,rfl,rfl,ha,hb,h ρ H _ (aF.refl _ _) sr r2⟩)))
   .refine .inr (.inr (.inr (.inl ⟨a,b,xs,ys,rfl,rfl,ha,hb,hx,by rw[<-ra.length,<-rb.length];exact hz,λhy=>?_,λhy p hp=>?_⟩)))
    .subst hy;have hw:ws=[]:=WB rb.length;subst hw;rw[Wa]at h;exact h ρ H _ (aF.refl _ _) sr r1
    .have s:=c7 (o:=.tup (xs++ys)) hp;exact h ρ _ _ (aF.same s) (sr.grow s) (Rl.lH cg (bj.mono (aF.same s) _ _ (ra.append rb)))
  .exact h.elim
 case loc.loc n m=>
  unfold cq at h;dsimp only at h;split at h
  .rename_i us ws e1 e2;split at h
   .rename_i hz;obtain⟨a,rfl,ha⟩:=r1.dO;obtain⟨b,rfl,hb⟩:=r2.dO;obtain⟨xs,h1,q1⟩:=sr.cell n _ a e1 ha;obtain⟨ys,h2,q2⟩:=sr.cell m _ b e2 hb;refine .inr (.inr (.inl ⟨a,b,xs,ys,rfl,rfl,h1,h2,by rw[<-q1.length,<-q2.length];exact hz,λp hp=>?_⟩));obtain⟨k1,k2,k3⟩:=ie sr (q1.append q2) hp;exact h _ _ _ k1 k2 k3
   .exact h.elim
  .exact h.elim
theorem GZ:dN X (binaryOp .Sub) (rM (wo X) E q_):=by refine dN.imp Ke ?_;rintro x y H Q ⟨ρ,st,u,w,sr,r1,r2,h⟩;obtain⟨i,j,rfl,rfl,q⟩:=iW h;exact⟨i,j,r1.cV,r2.cV,c! sr q⟩
theorem G0:dN X (binaryOp .Mult) (rM (wo X) E dg):=by
 refine dN.imp (dN.or GB (dN.or Kf Kz)) ?_;rintro x y H Q ⟨ρ,st,u,w,sr,r1,r2,h⟩;cases u<;>cases w<;>try exact h.elim
 case int.int i j=>
  unfold dg at h;dsimp only at h;split at h
  .rename_i hz;rcases hz with hz|hz
   .exact .inl ⟨i,j,r1.cV,r2.cV,hz.1.mul hz.2,c! sr h⟩
   .exact .inr (.inl ⟨i,j,r1.cV,r2.cV,hz,c! sr h⟩)
  .exact h.elim
 case loc.int n k=>
  unfold dg at h;dsimp only at h;split at h
  .rename_i us e1;split at h
   .rename_i hz;obtain⟨a,rfl,ha⟩:=r1.dO;obtain⟨xs,h1,q1⟩:=sr.cell n _ a e1 ha;refine .inr (.inr ⟨a,k,xs,rfl,r2.cV,h1,hz.1,hz.2.1,by rw[<-q1.length];exact hz.2.2,λp hp=>?_⟩);obtain⟨k1,k2,k3⟩:=ie sr (q1.Ly k.toNat) hp;exact h _ _ _ k1 k2 k3
   .exact h.elim
  .exact h.elim
theorem Du:dN X (binaryOp .FloorDiv) (rM (wo X) E eO):=by
 refine dN.imp C6 ?_;rintro x y H Q ⟨ρ,st,u,w,sr,r1,r2,h⟩;obtain⟨i,j,rfl,rfl,h0⟩:=iW h;clear h;have h:=h0;clear h0
 .split at h
  .rename_i hz;exact⟨i,j,r1.cV,r2.cV,hz.ok,c! sr h⟩
  .exact h.elim
theorem G1:dN X (binaryOp .Mod) (rM (wo X) E dE):=by
 refine dN.imp F' ?_;rintro x y H Q ⟨ρ,st,u,w,sr,r1,r2,h⟩;obtain⟨i,j,rfl,rfl,h0⟩:=iW h;clear h;have h:=h0;clear h0
 .split at h
  .exact h.elim
  .rename_i hz;exact⟨i,j,r1.cV,r2.cV,hz,c! sr h⟩
theorem G4:dN X (binaryOp .Pow) (rM (wo X) E uc):=by
 refine dN.imp Kg ?_;rintro x y H Q ⟨ρ,st,u,w,sr,r1,r2,h⟩;obtain⟨i,j,rfl,rfl,h0⟩:=iW h;clear h;have h:=h0;clear h0
 .split at h
  .rename_i hz;exact⟨i,j,r1.cV,r2.cV,hz,c! sr h⟩
  .exact h.elim
theorem Dw:dN X (compareOp .Lt) (rM (wo X) E ltV):=by refine dN.imp N7 ?_;rintro x y H Q ⟨ρ,st,u,w,sr,r1,r2,h⟩;obtain⟨i,j,rfl,rfl,q⟩:=iW h;exact⟨i,j,r1.cV,r2.cV,d! sr q⟩
theorem ud:dN X (compareOp .LtE) (rM (wo X) E Jk):=by refine dN.imp N8 ?_;rintro x y H Q ⟨ρ,st,u,w,sr,r1,r2,h⟩;obtain⟨i,j,rfl,rfl,q⟩:=iW h;exact⟨i,j,r1.cV,r2.cV,d! sr q⟩
theorem Dx:dN X (compareOp .Gt) (rM (wo X) E GX):=by refine dN.imp N9 ?_;rintro x y H Q ⟨ρ,st,u,w,sr,r1,r2,h⟩;obtain⟨i,j,rfl,rfl,q⟩:=iW h;exact⟨i,j,r1.cV,r2.cV,d! sr q⟩
def ue(m:ME):ME:=λμ st=>(m μ st).bind λv az=>match v with
 |.int i=>.ok (.int (-i)) az
 |_=>.bad
theorem Lz{a:Expr}{m:ME}(h:PE X a (tE X E m)):PE X (.UnaryOp .USub a pos) (tE X E (ue m)):=by
 refine PE.imp (N4 Kh h) ?_;rintro σ H Q ⟨μ,ρ,st,rs,sr,h⟩;refine go μ ρ st rs sr h λu a7 ρ1 H1 x e1 cA r1 h1=>?_;cases u with
 |int i=>exact⟨i,r1.cV,c! cA h1⟩
 |_=>exact h1.elim
def flat:ak->Bool
 |.c6=>true
 |.bl _=>true
 |.int _=>true
 |.str _=>true
 |_=>false
def zR:ak->ak->Bool
 |.c6,.c6=>true
 |.bl a,.bl b=>a==b
 |.bl a,.int b=>(if a then 1 else 0)==b
 |.int a,.bl b=>a==(if b then 1 else 0)
 |.int a,.int b=>a==b
 |.str a,.str b=>a==b
 |_,_=>false
def ar(st:af)(n:Nat):Option (List ak):=match st[n]? with
 |some (.lst us)=>some us
 |some (.La us)=>some us
 |some (.mod us)=>some us
 |_=>none
inductive Vw where
 |lst (us:List ak)|tup (us:List ak)|oJ
def vw(st:af):ak->Option Vw
 |.tup us=>some (.tup us)
 |.loc n=>(ar st n).map .lst
 |.c6=>some .oJ
 |.bl _=>some .oJ
 |.int _=>some .oJ
 |.str _=>some .oJ
 |_=>none
def gg(f:ak->ak->Option Bool):List ak->List ak->Option Bool
 |[],[]=>some true
 |x::xs,y::ys=>match f x y,gg f xs ys with
  |some a,some b=>some (a&&b)
  |_,_=>none
 |[],_::_=>some false
 |_::_,[]=>some false
def iB:Nat->af->ak->ak->Option Bool
 |0,_,_,_=>none
 |n+1,st,u,w=>match vw st u,vw st w with
  |some (.tup us),some (.tup ws)=>gg (iB n st) us ws
  |some (.lst us),some (.lst ws)=>gg (iB n st) us ws
  |some .oJ,some .oJ=>some (zR u w)
  |some _,some _=>some false
  |_,_=>none
theorem pL{f:ak->ak->Option Bool}:∀{us ws:List ak}{b:Bool},gg f us ws=some b->us.length≠ws.length->b=false
 |[],[],_,_,h=>absurd rfl h
 |[],_::_,b,e,_=>by injection e with e;exact e.symm
 |_::_,[],b,e,_=>by injection e with e;exact e.symm
 |x::xs,y::ys,b,e,h=>by
  unfold gg at e;split at e
  .rename_i a c h1 h2;injection e with e;rw[<-e,pL h2 (λz=>h (by simp[z])),Za]
  .cases e
theorem zS{f:ak->ak->Option Bool}:∀{us ws:List ak}{b:Bool},gg f us ws=some b->∀(j:Nat)(u w:ak),us[j]?=some u->ws[j]?=some w->∃c,f u w=some c
 |[],_,_,_,j,u,w,h1,_=>by cases h1
 |_::_,[],_,_,j,u,w,_,h2=>by cases h2
 |x::xs,y::ys,b,e,j,u,w,h1,h2=>by
  unfold gg at e;split at e
  .rename_i a c q1 q2;cases j with
   |zero=>cases h1;cases h2;exact⟨a,q1⟩
   |succ j=>exact zS q2 j u w h1 h2
  .cases e
def QP(f:ak->ak->Option Bool)(us ws:List ak)(j:Nat):Bool:=match us[j]?,ws[j]? with
 |some u,some w=>(f u w).getD true
 |_,_=>true
theorem pM{f:ak->ak->Option Bool}:∀{us ws:List ak}{b:Bool},gg f us ws=some b->us.length=ws.length->(List.range us.length).all (QP f us ws)=b
 |[],[],b,e,_=>by injection e
 |[],_::_,_,_,h=>by simp at h
 |_::_,[],_,_,h=>by simp at h
 |x::xs,y::ys,b,e,h=>by
  have h':xs.length=ys.length:=by simpa using h
  unfold gg at e;split at e
  .rename_i a c q1 q2;injection e with e;rw[Vt,Yl,Xk,ZS,<-e,<-pM q2 h'];congr 1;show(f x y).getD true=a;rw[q1];rfl
  .cases e
section
variable{s:_N}{st:af}
theorem bh(sr:SR X.K ρ st H){n:Nat}{us:List ak}{a:_O}(h:ar st n=some us)(ha:ρ[n]?=some a):∃vs,kf X.K H a vs/\bj X.K ρ H us vs:=by
 unfold ar at h;split at h
 .rename_i ws e;cases h;obtain⟨vs,h1,h2⟩:=sr.cell n _ a e ha;exact⟨vs,kf.of h1,h2⟩
 .rename_i ws e;cases h;obtain⟨o,vs,h1,h2⟩:=sr.cell n _ a e ha;exact⟨vs,.inl (.inr ⟨o,h1⟩),h2⟩
 .rename_i ws e;cases h;obtain⟨vs,h1,h2⟩:=sr.cell n _ a e ha;exact⟨vs,.inr h1,h2⟩
 .cases h
theorem zT(I:aM X ae σ H s)(sr:SR X.K ρ st H):∀(n:Nat)(u w:ak)(x:V)(b:Bool),Rl X.K ρ H u x->Rl X.K ρ H w x->iB n st u w=some b->b=true
 |0,_,_,_,_,_,_,e=>by cases e
 |n+1,u,w,x,b,r1,r2,e=>by
  have lst:∀(us ws:List ak)(vs:List V)(b:Bool),bj X.K ρ H us vs->bj X.K ρ H ws vs->gg (iB n st) us ws=some b->b=true:=by
   intro us
   induction us with
   |nil=>
    intro ws vs b h1 h2 e;have:=h1.eM;subst this;have hw:ws=[]:=WB h2.length;subst hw;injection e with e;exact e.symm
   |cons u us ih=>
    intro ws vs b h1 h2 e;obtain⟨v,r,rfl,q1,q2⟩:=h1.cP;cases ws with
    |nil=>have:=h2.eM;cases this
    |cons w ws=>
     obtain⟨v',r',e',q3,q4⟩:=h2.cP;cases e';unfold gg at e;split at e
     .rename_i a c z1 z2;injection e with e;rw[<-e,zT I sr n u w v a q1 q3 z1,ih ws r c q2 q4 z2];rfl
     .cases e
  unfold iB at e;cases u<;>cases w<;>dsimp only[vw]at e<;>try (cases e;done)
  all_goals first
   |(have z1:=Rl.cV r1;subst z1;have z2:=Rl.cV r2;cases z2;injection e with e;rw[<-e];exact WY _)
   |(have z1:=Rl.pJ r1;subst z1;have z2:=Rl.pJ r2;cases z2;injection e with e;rw[<-e];exact WY _)
   |(have z1:=Rl.jl r1;subst z1;have z2:=Rl.jl r2;cases z2;injection e with e;rw[<-e];exact WY _)
   |(have z1:=Rl.jm r1;subst z1;injection e with e;exact e.symm)
   |skip
  case tup.tup us ws=>
   obtain⟨a,vs,rfl,ha,ra⟩:=r1.fN;obtain⟨a',q!,ea,hb,rb⟩:=r2.fN;cases ea;have:=I.mG ha hb;subst this;exact lst us ws vs b ra rb e
  case loc.loc i j=>
   obtain⟨a,rfl,ha⟩:=r1.dO;obtain⟨a',ea,hb⟩:=r2.dO;cases ea;cases z:ar st i with
   |none=>rw[z]at e;cases e
   |some us=>
    cases z2:ar st j with
    |none=>rw[z,z2]at e;cases e
    |some ws=>
     rw[z,z2]at e;obtain⟨vs,s1,rv⟩:=bh sr z ha;obtain⟨q!,s2,rv'⟩:=bh sr z2 hb;have:=I.pe s1 s2;subst this;exact lst us ws vs b rv rv' e
  all_goals (exfalso;first
   |(have z1:=Rl.cV r1;subst z1;first|(have z2:=Rl.pJ r2;cases z2;done)|(have z2:=Rl.jl r2;cases z2;done)|(have z2:=Rl.jm r2;cases z2;done)|(obtain⟨_,_,z2,_⟩:=r2.fN;cases z2;done)|(obtain⟨_,z2,_⟩:=r2.dO;cases z2;done))
   |(have z1:=Rl.pJ r1;subst z1;first|(have z2:=Rl.cV r2;cases z2;done)|(have z2:=Rl.jl r2;cases z2;done)|(have z2:=Rl.jm r2;cases z2;done)|(obtain⟨_,_,z2,_⟩:=r2.fN;cases z2;done)|(obtain⟨_,z2,_⟩:=r2.dO;cases z2;done))
   |(have z1:=Rl.jl r1;subst z1;first|(have z2:=Rl.cV r2;cases z2;done)|(have z2:=Rl.pJ r2;cases z2;done)|(have z2:=Rl.jm r2;cases z2;done)|(obtain⟨_,_,z2,_⟩:=r2.fN;cases z2;done)|(obtain⟨_,z2,_⟩:=r2.dO;cases z2;done))
   |(have z1:=Rl.jm r1;subst z1;first|(have z2:=Rl.cV r2;cases z2;done)|(have z2:=Rl.pJ r2;cases z2;done)|(have z2:=Rl.jl r2;cases z2;done)|(obtain⟨_,_,z2,_⟩:=r2.fN;cases z2;done)|(obtain⟨_,z2,_⟩:=r2.dO;cases z2;done))
   |(obtain⟨_,_,z1,_⟩:=r1.fN;subst z1;first|(have z2:=Rl.cV r2;cases z2;done)|(have z2:=Rl.pJ r2;cases z2;done)|(have z2:=Rl.jl r2;cases z2;done)|(have z2:=Rl.jm r2;cases z2;done))
   |(obtain⟨_,z1,_⟩:=r1.dO;subst z1;first|(have z2:=Rl.cV r2;cases z2;done)|(have z2:=Rl.pJ r2;cases z2;done)|(have z2:=Rl.jl r2;cases z2;done)|(have z2:=Rl.jm r2;cases z2;done))
   |skip)
  case tup.loc us j=>
   obtain⟨a,vs,rfl,ha,ra⟩:=r1.fN;obtain⟨a',ea,hb⟩:=r2.dO;cases ea;cases z:ar st j with
   |none=>rw[z]at e;cases e
   |some sv=>
    obtain⟨ws,hw,_⟩:=bh sr z hb;obtain⟨_,_,p1,_⟩:=I.tuple ha;obtain⟨_,_,p2,_⟩:=I.list hw;exact _m p2.isList p1 rfl
  case loc.tup i us=>
   obtain⟨a,rfl,ha⟩:=r1.dO;obtain⟨a',vs,ea,hb,rb⟩:=r2.fN;cases ea;cases z:ar st i with
   |none=>rw[z]at e;cases e
   |some sv=>
    obtain⟨ws,hw,_⟩:=bh sr z ha;obtain⟨_,_,p1,_⟩:=I.tuple hb;obtain⟨_,_,p2,_⟩:=I.list hw;exact _m p2.isList p1 rfl
  all_goals (cases z:ar st _<;>rw[z]at e<;>cases e)
def Dy(X:Cx)(ρ:_K)(H:Hp)(s:_N):Vw->ak->_M->Prop
 |.tup us,_,v=>∃a aI vs,v=.ref a/\s.heap.IsTuple a (List.toArray aI)/\bw vs aI/\bj X.K ρ H us vs
 |.lst us,_,v=>∃a aI vs,v=.ref a/\s.heap.IsList a (List.toArray aI)/\bw vs aI/\bj X.K ρ H us vs
 |.oJ,u,v=>(u=.c6/\v=.none)\/(∃b,u=.bl b/\v=.bool b)\/(∃i t,u=.int i/\v=.int i t)\/(∃z t,u=.str z/\v=.str z t)
theorem seen(I:aM X ae σ H s)(sr:SR X.K ρ st H){u:ak}{x:V}{v:_M}{k:Vw}(r:Rl X.K ρ H u x)(q:bD x v)(h:vw st u=some k):Dy X ρ H s k u v:=by
 cases u with
 |c6=>cases h;have:=r.jm;subst this;exact .inl ⟨rfl,q⟩
 |bl b=>cases h;have:=r.pJ;subst this;exact .inr (.inl ⟨b,rfl,q⟩)
 |int i=>cases h;have:=r.cV;subst this;obtain⟨t,q⟩:=q;exact .inr (.inr (.inl ⟨i,t,rfl,q⟩))
 |str z=>cases h;have:=r.jl;subst this;obtain⟨t,q⟩:=q;exact .inr (.inr (.inr ⟨z,t,rfl,q⟩))
 |tup us=>
  cases h;obtain⟨a,vs,rfl,ha,ra⟩:=r.fN;obtain⟨aI,r1,p1,_⟩:=I.tuple ha;exact⟨a,aI,vs,q,p1,r1,ra⟩
 |loc n=>
  obtain⟨a,rfl,ha⟩:=r.dO;cases z:ar st n with
  |none=>simp only[vw,z]at h;cases h
  |some us=>
   simp only[vw,z]at h;cases h;obtain⟨vs,hs,rv⟩:=bh sr z ha;obtain⟨aI,r1,p1,_⟩:=I.list hs;exact⟨a,aI,vs,q,p1.isList,r1,rv⟩
 |exc c=>cases h
 |fn k c=>cases h
 |mt us=>cases h
theorem DA{f:ak->ak->Option Bool}{us ws:List ak}{xs ys:List V}{dD:_I}{b:Bool}(e:gg f us ws=some b)(ra:bj X.K ρ H us xs)(rb:bj X.K ρ H ws ys)(va:bw xs aI)(vb:bw ys dD)(ih:∀u w x y vu vw c,Rl X.K ρ H u x->bD x vu->Rl X.K ρ H w y->bD y vw->f u w=some c->SeqAt.EqAt A s vu vw c):
  ∀j(h1:j<aI.toArray.size)(h2:j<dD.toArray.size),SeqAt.EqAt A s aI.toArray[j] dD.toArray[j] (QP f us ws j):=by
 intro j h1 h2;have l1:=va.length;have l2:=vb.length;have l3:=ra.length;have l4:=rb.length;simp only[VD]at h1 h2;have e1:us[j]?=some us[j]:=Vx ⋯;have e2:ws[j]?=some ws[j]:=Vx ⋯;obtain⟨x,hx,rx⟩:=ra.get e1;obtain⟨y,hy,ry⟩:=rb.get e2;obtain⟨u,hu,ru⟩:=va.get hx;obtain⟨v,hv,rv⟩:=vb.get hy;have q1:aI.toArray[j]=u:=by obtain⟨_,e⟩:=Wh.mp hu;simpa using e
 have q2:dD.toArray[j]=v:=by obtain⟨_,e⟩:=Wh.mp hv;simpa using e
 obtain⟨c,hc⟩:=zS e j _ _ e1 e2;rw[q1,q2];unfold QP;rw[e1,e2];dsimp only;rw[hc];exact ih _ _ _ _ _ _ c rx ru ry rv hc
theorem in1_units(A:_P):A.in1.units=A.units+1:=by rfl
theorem LA(I:aM X ae σ H s)(sr:SR X.K ρ st H)(n:Nat)(ih:∀u w x y vu vw c,Rl X.K ρ H u x->bD x vu->Rl X.K ρ H w y->bD y vw->iB n st u w=some c->SeqAt.EqAt A.in1 s vu vw c)(hu:A.units<cLine){u w:ak}{x y:V}{v1 v2:_M}{b:Bool}(r1:Rl X.K ρ H u x)(q1:bD x v1)(r2:Rl X.K ρ H w y)(q2:bD y v2)(e:iB (n+1) st u w=some b):SeqAt.RcAt A s v1 v2 b/\SeqAt.RcNeAt A s v1 v2 (!b):=by
 unfold iB at e;cases z1:vw st u with
 |none=>rw[z1]at e;cases e
 |some k1=>
  cases z2:vw st w with
  |none=>rw[z1,z2]at e;cases k1<;>cases e
  |some k2=>
   rw[z1,z2]at e;have s1:=seen I sr r1 q1 z1;have s2:=seen I sr r2 q2 z2;cases k1 with
   |tup us=>
    obtain⟨a,aI,xs,rfl,p1,va,ra⟩:=s1;cases k2 with
    |tup ws=>
     obtain⟨a2,dD,ys,rfl,p2,vb,rb⟩:=s2;have el:=DA e ra rb va vb ih;have l1:=va.length;have l2:=vb.length;have l3:=ra.length;have l4:=rb.length;have hb:((List.range (min aI.toArray.size dD.toArray.size)).all (QP (iB n st) us ws)&&aI.toArray.size==dD.toArray.size)=b:=by
      by_cases hl:us.length=ws.length
      .rw[show min aI.toArray.size dD.toArray.size=us.length by simp only[VD];lia,pM e hl,show(aI.toArray.size==dD.toArray.size)=true by simp only[VD,WC];lia,Bool.and_true]
      .rw[show(aI.toArray.size==dD.toArray.size)=false by simp only[VD,V6];lia,Za];exact(pL e hl).symm
     have g1:=SeqAt.RcAt.tuples p1 p2 hu el;have g2:=SeqAt.RcNeAt.tuples p1 p2 hu el;rw[hb]at g1 g2;exact⟨g1,g2⟩
    |lst ws=>
     obtain⟨a2,dD,ys,rfl,p2,vb,rb⟩:=s2;cases e;exact⟨SeqAt.RcAt.tuple_list p1 p2 hu,SeqAt.RcNeAt.tuple_list p1 p2 hu⟩
    |oJ=>
     cases e;rcases s2 with⟨_,rfl⟩|⟨k,_,rfl⟩|⟨k,t,_,rfl⟩|⟨k,t,_,rfl⟩
     .exact⟨SeqAt.RcAt.tuple_none p1 hu,SeqAt.RcNeAt.tuple_none p1 hu⟩
     .exact⟨SeqAt.RcAt.tuple_bool _ p1 hu,SeqAt.RcNeAt.tuple_bool _ p1 hu⟩
     .exact⟨SeqAt.RcAt.tuple_int _ _ p1 hu,SeqAt.RcNeAt.tuple_int _ _ p1 hu⟩
     .exact⟨SeqAt.RcAt.tuple_str _ _ p1 hu,SeqAt.RcNeAt.tuple_str _ _ p1 hu⟩
   |lst us=>
    obtain⟨a,aI,xs,rfl,p1,va,ra⟩:=s1;cases k2 with
    |tup ws=>
     obtain⟨a2,dD,ys,rfl,p2,vb,rb⟩:=s2;cases e;exact⟨SeqAt.RcAt.list_tuple p1 p2 hu,SeqAt.RcNeAt.list_tuple p1 p2 hu⟩
    |lst ws=>
     obtain⟨a2,dD,ys,rfl,p2,vb,rb⟩:=s2;have l1:=va.length;have l2:=vb.length;have l3:=ra.length;have l4:=rb.length;by_cases hl:us.length=ws.length
     .have hs:aI.toArray.size=dD.toArray.size:=by simp only[VD];lia
      have el:=DA e ra rb va vb ih;have g1:=SeqAt.RcAt.lists p1 p2 hs hu el;have g2:=SeqAt.RcNeAt.lists p1 p2 hs hu el;rw[show aI.toArray.size=us.length by simp only[VD];lia,pM e hl]at g1 g2;exact⟨g1,g2⟩
     .have hs:(aI.toArray.size !=dD.toArray.size)=true:=by simp only[VD,bne_iff_ne];lia
      rw[pL e hl];exact⟨SeqAt.RcAt.lists_lengths p1 p2 hs hu,SeqAt.RcNeAt.lists_lengths p1 p2 hs hu⟩
    |oJ=>
     cases e;rcases s2 with⟨_,rfl⟩|⟨k,_,rfl⟩|⟨k,t,_,rfl⟩|⟨k,t,_,rfl⟩
     .exact⟨SeqAt.RcAt.list_none p1 hu,SeqAt.RcNeAt.list_none p1 hu⟩
     .exact⟨SeqAt.RcAt.list_bool _ p1 hu,SeqAt.RcNeAt.list_bool _ p1 hu⟩
     .exact⟨SeqAt.RcAt.list_int _ _ p1 hu,SeqAt.RcNeAt.list_int _ _ p1 hu⟩
     .exact⟨SeqAt.RcAt.list_str _ _ p1 hu,SeqAt.RcNeAt.list_str _ _ p1 hu⟩
   |oJ=>
    cases k2 with
    |tup ws=>
     obtain⟨a2,dD,ys,rfl,p2,vb,rb⟩:=s2;cases e;rcases s1 with⟨_,rfl⟩|⟨k,_,rfl⟩|⟨k,t,_,rfl⟩|⟨k,t,_,rfl⟩
     .exact⟨SeqAt.RcAt.none_tuple p2 hu,SeqAt.RcNeAt.none_tuple p2 hu⟩
     .exact⟨SeqAt.RcAt.bool_tuple _ p2 hu,SeqAt.RcNeAt.bool_tuple _ p2 hu⟩
     .exact⟨SeqAt.RcAt.int_tuple _ _ p2 hu,SeqAt.RcNeAt.int_tuple _ _ p2 hu⟩
     .exact⟨SeqAt.RcAt.str_tuple _ _ p2 hu,SeqAt.RcNeAt.str_tuple _ _ p2 hu⟩
    |lst ws=>
     obtain⟨a2,dD,ys,rfl,p2,vb,rb⟩:=s2;cases e;rcases s1 with⟨_,rfl⟩|⟨k,_,rfl⟩|⟨k,t,_,rfl⟩|⟨k,t,_,rfl⟩
     .exact⟨SeqAt.RcAt.none_list p2 hu,SeqAt.RcNeAt.none_list p2 hu⟩
     .exact⟨SeqAt.RcAt.bool_list _ p2 hu,SeqAt.RcNeAt.bool_list _ p2 hu⟩
     .exact⟨SeqAt.RcAt.int_list _ _ p2 hu,SeqAt.RcNeAt.int_list _ _ p2 hu⟩
     .exact⟨SeqAt.RcAt.str_list _ _ p2 hu,SeqAt.RcNeAt.str_list _ _ p2 hu⟩
    |oJ=>
     injection e with e;subst e;rcases s1 with⟨rfl,rfl⟩|⟨i,rfl,rfl⟩|⟨i,t,rfl,rfl⟩|⟨i,t,rfl,rfl⟩<;>rcases s2 with⟨rfl,rfl⟩|⟨j,rfl,rfl⟩|⟨j,t',rfl,rfl⟩|⟨j,t',rfl,rfl⟩
     .exact⟨SeqAt.RcAt.none_none,SeqAt.RcNeAt.none_none⟩
     .exact⟨SeqAt.RcAt.none_bool _,SeqAt.RcNeAt.none_bool _⟩
     .exact⟨SeqAt.RcAt.none_int _ _,SeqAt.RcNeAt.none_int _ _⟩
     .exact⟨SeqAt.RcAt.none_str _ _,SeqAt.RcNeAt.none_str _ _⟩
     .exact⟨SeqAt.RcAt.bool_none _,SeqAt.RcNeAt.bool_none _⟩
     .exact⟨SeqAt.RcAt.bool_bool _ _,SeqAt.RcNeAt.bool_bool _ _⟩
     .exact⟨SeqAt.RcAt.bool_int _ _ _,SeqAt.RcNeAt.bool_int _ _ _⟩
     .exact⟨SeqAt.RcAt.bool_str _ _ _,SeqAt.RcNeAt.bool_str _ _ _⟩
     .exact⟨SeqAt.RcAt.int_none _ _,SeqAt.RcNeAt.int_none _ _⟩
     .exact⟨SeqAt.RcAt.int_bool _ _ _,SeqAt.RcNeAt.int_bool _ _ _⟩
     .exact⟨SeqAt.RcAt.int_int _ _ _ _,SeqAt.RcNeAt.int_int _ _ _ _⟩
     .exact⟨SeqAt.RcAt.int_str _ _ _ _,SeqAt.RcNeAt.int_str _ _ _ _⟩
     .exact⟨SeqAt.RcAt.str_none _ _,SeqAt.RcNeAt.str_none _ _⟩
     .exact⟨SeqAt.RcAt.str_bool _ _ _,SeqAt.RcNeAt.str_bool _ _ _⟩
     .exact⟨SeqAt.RcAt.str_int _ _ _ _,SeqAt.RcNeAt.str_int _ _ _ _⟩
     .exact⟨SeqAt.RcAt.str_str _ _ _ _,SeqAt.RcNeAt.str_str _ _ _ _⟩
theorem G5{u w:ak}{v1 v2:_M}(s1:Dy X ρ H s .oJ u v1)(s2:Dy X ρ H s .oJ w v2):SeqAt.EqAt A s v1 v2 (zR u w):=by
 rcases s1 with⟨rfl,rfl⟩|⟨i,rfl,rfl⟩|⟨i,t,rfl,rfl⟩|⟨i,t,rfl,rfl⟩<;>rcases s2 with⟨rfl,rfl⟩|⟨j,rfl,rfl⟩|⟨j,t',rfl,rfl⟩|⟨j,t',rfl,rfl⟩
 .exact Zp _
 .exact SeqAt.EqAt.none_bool _
 .exact SeqAt.EqAt.none_int _ _
 .exact SeqAt.EqAt.none_str _ _
 .exact SeqAt.EqAt.bool_none _
 .exact SeqAt.EqAt.bool_bool _ _
 .exact SeqAt.EqAt.bool_int _ _ _
 .exact SeqAt.EqAt.bool_str _ _ _
 .exact SeqAt.EqAt.int_none _ _
 .exact SeqAt.EqAt.int_bool _ _ _
 .exact SeqAt.EqAt.int_int _ _ _ _
 .exact Y6 _ _ _ _
 .exact SeqAt.EqAt.str_none _ _
 .exact SeqAt.EqAt.str_bool _ _ _
 .exact Y5 _ _ _ _
 .exact SeqAt.EqAt.str_str _ _ _ _
theorem xV(I:aM X ae σ H s)(sr:SR X.K ρ st H):∀(n:Nat)(A:_P),A.units+n<cLine->∀(u w:ak)(x y:V)(v1 v2:_M)(b:Bool),Rl X.K ρ H u x->bD x v1->Rl X.K ρ H w y->bD y v2->iB n st u w=some b->SeqAt.EqAt A s v1 v2 b
 |0,_,_,_,_,_,_,_,_,_,_,_,_,_,e=>by cases e
 |n+1,A,hu,u,w,x,y,v1,v2,b,r1,q1,r2,q2,e=>by
  have rc:=(LA I sr n (λu w x y vu vw c a1 a2 a3 a4 a5=>xV I sr n A.in1 (by rw[in1_units];lia) u w x y vu vw c a1 a2 a3 a4 a5) ⋯ r1 q1 r2 q2 e).1;have refs:∀a a2,v1=.ref a->v2=.ref a2->SeqAt.EqAt A s v1 v2 b:=by
   intro a a2 e1 e2;subst e1 e2;by_cases hn:a=a2
   .subst hn;have hx:x=y:=q1.inj q2;subst hx;rw[zT I sr (n+1) u w x b r1 r2 e];exact Zp _
   .exact SeqAt.EqAt.of_refs hn rc
  cases z1:vw st u with
  |none=>unfold iB at e;rw[z1]at e;cases e
  |some k1=>
   cases z2:vw st w with
   |none=>unfold iB at e;rw[z1,z2]at e;cases k1<;>cases e
   |some k2=>
    have s1:=seen I sr r1 q1 z1;have s2:=seen I sr r2 q2 z2;unfold iB at e;rw[z1,z2]at e;cases k1 with
    |tup us=>
     obtain⟨a,aI,xs,rfl,p1,va,ra⟩:=s1;cases k2 with
     |tup ws=>obtain⟨a2,dD,ys,rfl,p2,vb,rb⟩:=s2;exact refs a a2 rfl rfl
     |lst ws=>obtain⟨a2,dD,ys,rfl,p2,vb,rb⟩:=s2;exact refs a a2 rfl rfl
     |oJ=>
      cases e;rcases s2 with⟨_,rfl⟩|⟨k,_,rfl⟩|⟨k,t,_,rfl⟩|⟨k,t,_,rfl⟩
      .exact SeqAt.EqAt.tuple_none p1 ⋯
      .exact SeqAt.EqAt.tuple_bool _ p1 ⋯
      .exact SeqAt.EqAt.tuple_int _ _ p1 ⋯
      .exact SeqAt.EqAt.tuple_str _ _ p1 ⋯
    |lst us=>
     obtain⟨a,aI,xs,rfl,p1,va,ra⟩:=s1;cases k2 with
     |tup ws=>obtain⟨a2,dD,ys,rfl,p2,vb,rb⟩:=s2;exact refs a a2 rfl rfl
     |lst ws=>obtain⟨a2,dD,ys,rfl,p2,vb,rb⟩:=s2;exact refs a a2 rfl rfl
     |oJ=>
      cases e;rcases s2 with⟨_,rfl⟩|⟨k,_,rfl⟩|⟨k,t,_,rfl⟩|⟨k,t,_,rfl⟩
      .exact SeqAt.EqAt.list_none p1 ⋯
      .exact SeqAt.EqAt.list_bool _ p1 ⋯
      .exact SeqAt.EqAt.list_int _ _ p1 ⋯
      .exact SeqAt.EqAt.list_str _ _ p1 ⋯
    |oJ=>
     cases k2 with
     |tup ws=>
      obtain⟨a2,dD,ys,rfl,p2,vb,rb⟩:=s2;cases e;rcases s1 with⟨_,rfl⟩|⟨k,_,rfl⟩|⟨k,t,_,rfl⟩|⟨k,t,_,rfl⟩
      .exact SeqAt.EqAt.none_tuple p2 ⋯
      .exact SeqAt.EqAt.bool_tuple _ p2 ⋯
      .exact SeqAt.EqAt.int_tuple _ _ p2 ⋯
      .exact SeqAt.EqAt.str_tuple _ _ p2 ⋯
     |lst ws=>
      obtain⟨a2,dD,ys,rfl,p2,vb,rb⟩:=s2;cases e;rcases s1 with⟨_,rfl⟩|⟨k,_,rfl⟩|⟨k,t,_,rfl⟩|⟨k,t,_,rfl⟩
      .exact SeqAt.EqAt.none_list p2 ⋯
      .exact SeqAt.EqAt.bool_list _ p2 ⋯
      .exact SeqAt.EqAt.int_list _ _ p2 ⋯
      .exact SeqAt.EqAt.str_list _ _ p2 ⋯
     |oJ=>
      injection e with e;subst e;exact G5 s1 s2
def gB:F2:=λu w st=>match iB 16 st u w with
 |some b=>.ok (.bl b) st
 |none=>.bad
def gC:F2:=λu w st=>match iB 16 st u w with
 |some b=>.ok (.bl (!b)) st
 |none=>.bad
theorem DB(hu:X.A.units+64<cLine):dN X (compareOp .Eq) (rM (wo X) E gB):=by
 intro ae s σ H x y v u Q I rx ry h;obtain⟨ρ,st,u1,w1,sr,r1,r2,h⟩:=h;unfold gB at h;split at h
 .rename_i b e;exact(LA I sr 15 (xV I sr 15 X.A.in1 (by rw[in1_units];lia)) ⋯ r1 rx r2 ry e).1 X.prog X.w X.xe (EP X ae σ Q) ⟨.bl b,H,I,rfl,d! sr h⟩
 .exact h.elim
theorem DC(hu:X.A.units+64<cLine):dN X (compareOp .NotEq) (rM (wo X) E gC):=by
 intro ae s σ H x y v u Q I rx ry h;obtain⟨ρ,st,u1,w1,sr,r1,r2,h⟩:=h;unfold gC at h;split at h
 .rename_i b e;exact(LA I sr 15 (xV I sr 15 X.A.in1 (by rw[in1_units];lia)) ⋯ r1 rx r2 ry e).2 X.prog X.w X.xe (EP X ae σ Q) ⟨.bl (!b),H,I,rfl,d! sr h⟩
 .exact h.elim
def Jl(st:af):ak->Option (List ak)
 |.tup us=>some us
 |.mt us=>some us
 |.loc n=>ar st n
 |_=>none
def LB(neg:Bool):F2:=λu w st=>match Jl st w with
 |some us=>if flat u=true/\us.all flat=true then .ok (.bl (if neg then !us.any (λy=>zR y u)else us.any (λy=>zR y u))) st else .bad
 |none=>.bad
theorem gX{K:_G}{u w:ak}{x y:V}(f1:flat u=true)(f2:flat w=true)(r1:Rl K ρ H u x)(r2:Rl K ρ H w y):fZ x=true/\fZ y=true/\tR x y=zR u w:=by
 cases u<;>(try cases f1)<;>cases w<;>(try cases f2)<;>
  (first|(have z1:=Rl.cV r1;subst z1)|(have z1:=Rl.pJ r1;subst z1)|(have z1:=Rl.jl r1;subst z1)|(have z1:=Rl.jm r1;subst z1))<;>
  (first|(have z2:=Rl.cV r2;subst z2)|(have z2:=Rl.pJ r2;subst z2)|(have z2:=Rl.jl r2;subst z2)|(have z2:=Rl.jm r2;subst z2))<;>exact⟨rfl,rfl,rfl⟩
theorem lJ{K:_G}{u:ak}{x:V}(f:flat u=true)(r:Rl K ρ H u x):∀{us:List ak}{vs:List V},us.all flat=true->bj K ρ H us vs->vs.all fZ=true/\QA x vs=us.any λy=>zR y u
 |[],vs,_,h=>by rw[h.eM];exact⟨rfl,rfl⟩
 |w::us,vs,hf,h=>by obtain⟨v,r',rfl,h2,h3⟩:=h.cP;rw[Xk,Wt]at hf;obtain⟨a,b,c⟩:=gX hf.1 f h2 r;obtain⟨d,e⟩:=lJ f r hf.2 h3;refine⟨by rw[Xk,a,d];rfl,?_⟩;show(tR v x || QA x r')=_;rw[c,e];rfl
theorem G6{neg:Bool}{x y:V}{H:Hp}{Q:VK}(h:rM (wo X) E (LB neg) x y H Q):UK X.K neg x y H Q:=by
 obtain⟨ρ,st,u,w,sr,r1,r2,h⟩:=h;unfold LB at h;split at h
 .rename_i us e;split at h
  .rename_i hz;cases w with
   |tup ws=>
    cases e;obtain⟨a,vs,rfl,ha,ra⟩:=r2.fN;obtain⟨q1,q2⟩:=lJ hz.1 r1 hz.2 ra;refine⟨a,vs,rfl,.inr ha,(gX hz.1 hz.1 r1 r1).1,q1,?_⟩;rw[q2];exact d! sr h
   |mt ws=>
    cases e;obtain⟨a,vs,rfl,ha,ra⟩:=r2.UY;obtain⟨q1,q2⟩:=lJ hz.1 r1 hz.2 ra;refine⟨a,vs,rfl,.inr ha,(gX hz.1 hz.1 r1 r1).1,q1,?_⟩;rw[q2];exact d! sr h
   |loc n=>
    obtain⟨a,rfl,ha⟩:=r2.dO;obtain⟨vs,hs,ra⟩:=bh sr e ha;obtain⟨q1,q2⟩:=lJ hz.1 r1 hz.2 ra;refine⟨a,vs,rfl,.inl hs,(gX hz.1 hz.1 r1 r1).1,q1,?_⟩;rw[q2];exact d! sr h
   |_=>cases e
  .exact h.elim
 .exact h.elim
theorem DD:dN X (compareOp .In) (rM (wo X) E (LB false)):=dN.imp AW λ_ _ _ _ h=>G6 h
def QQ(neg:Bool):F2
 |.c6,.c6,st=>.ok (.bl (!neg)) st
 |.bl a,.bl b,st=>.ok (.bl (if neg then a !=b else a==b)) st
 |.int _,.c6,st=>.ok (.bl neg) st
 |.bl _,.c6,st=>.ok (.bl neg) st
 |.str _,.c6,st=>.ok (.bl neg) st
 |.tup _,.c6,st=>.ok (.bl neg) st
 |.loc _,.c6,st=>.ok (.bl neg) st
 |_,_,_=>.bad
theorem vO:dN X (compareOp .IsNot) (λx y H Q=>∃a b,x=.bl a/\y=.bl b/\Q (.bl (a !=b)) H):=by rintro ae s σ H x y v u Q I rx ry ⟨a,b,rfl,rfl,q⟩;cases rx;cases ry;exact isnot_bool ⟨.bl _,H,I,rfl,q⟩
theorem sA:dN X (compareOp .IsNot) (rM (wo X) E (QQ true)):=by
 refine dN.imp (dN.or Ga vO) ?_;rintro x y H Q ⟨ρ,st,u,w,sr,r1,r2,h⟩;cases u<;>cases w<;>try exact h.elim
 case bl.bl a b=>exact .inr ⟨a,b,r1.pJ,r2.pJ,d! sr h⟩
 case c6.c6=>exact .inl ⟨r2.jm,by rw[r1.jm];exact d! sr h⟩
 case int.c6 i=>exact .inl ⟨r2.jm,by rw[r1.cV];exact d! sr h⟩
 case bl.c6 i=>exact .inl ⟨r2.jm,by rw[r1.pJ];exact d! sr h⟩
 case str.c6 i=>exact .inl ⟨r2.jm,by rw[r1.jl];exact d! sr h⟩
 case tup.c6 i=>obtain⟨a,vs,rfl,_⟩:=r1.fN;exact .inl ⟨r2.jm,d! sr h⟩
 case loc.c6 i=>obtain⟨a,rfl,_⟩:=r1.dO;exact .inl ⟨r2.jm,d! sr h⟩
end
def aU:F2
 |.tup us,.int i,st=>match mI us i with
  |some v=>.ok v st
  |none=>.bad
 |.loc n,.int i,st=>match ar st n with
  |some us=>match mI us i with
   |some v=>.ok v st
   |none=>.bad
  |none=>.bad
 |.str z,.int i,st=>if z.length<=sizeLine then(match mI z.cps.toList i with
   |some c=>.ok (.str ⟨#[c]⟩) st
   |none=>.bad)else .bad
 |_,_,_=>.bad
theorem bj.mI{K:_G}{us:List ak}{vs:List V}{i:Int}{u:ak}(r:bj K ρ H us vs)(h:mI us i=some u):∃v,L2.mI vs i=some v/\Rl K ρ H u v:=by
 unfold L2.mI at h⊢;rw[<-r.length];cases z:Jb us.length i with
 |none=>rw[z]at h;cases h
 |some j=>
  rw[z]at h;obtain⟨v,h1,h2⟩:=r.get (show us[j]?=some u from h);exact⟨v,h1,h2⟩
theorem SI:xA X (rM (wo X) E aU):=by
 refine xA.imp (xA.or Gp (xA.or bE Kv)) ?_;rintro x y H Q ⟨ρ,st,u,w,sr,r1,r2,h⟩;cases u<;>cases w<;>try exact h.elim
 case tup.int us i=>
  unfold aU at h;dsimp only at h;split at h
  .rename_i v e;obtain⟨a,vs,rfl,ha,ra⟩:=r1.fN;obtain⟨z,h1,h2⟩:=ra.mI e;exact .inr (.inl ⟨a,vs,i,z,rfl,r2.cV,ha,h1,h ρ H z (aF.refl _ _) sr h2⟩)
  .exact h.elim
 case loc.int n i=>
  unfold aU at h;dsimp only at h;split at h
  .rename_i us e;split at h
   .rename_i v e';obtain⟨a,rfl,ha⟩:=r1.dO;obtain⟨vs,hs,rv⟩:=bh sr e ha;obtain⟨z,h1,h2⟩:=rv.mI e';exact .inl ⟨a,vs,i,z,rfl,r2.cV,hs,h1,h ρ H z (aF.refl _ _) sr h2⟩
   .exact h.elim
  .exact h.elim
 case str.int z i=>
  unfold aU at h;dsimp only at h;split at h
  .rename_i hz;split at h
   .rename_i c e;exact .inr (.inr ⟨z,i,c,r1.jl,r2.cV,hz,e,h ρ H _ (aF.refl _ _) sr (Rl.mkStr _)⟩)
   .exact h.elim
  .exact h.elim
def cZ:FN
 |[.tup us],st=>.ok (.int us.length) st
 |[.loc n],st=>match ar st n with
  |some us=>.ok (.int us.length) st
  |none=>.bad
 |[.str z],st=>if z.length<=sizeLine then .ok (.int z.length) st else .bad
 |_,_=>.bad
theorem Bf:bp X (.builtin "len") (cM (wo X) E cZ):=by
 refine bp.imp (bp.or tX tY) ?_;rintro xs H Q ⟨ρ,st,us,sr,r,h⟩
 match us,r,h with
 |[],_,h=>exact h.elim
 |[.tup ws],r,h=>
  obtain⟨v,rfl,r1⟩:=r.sj;obtain⟨a,vs,rfl,ha,ra⟩:=r1.fN;refine .inl ⟨a,vs,rfl,.inr ha,?_⟩;rw[<-ra.length];exact c! sr h
 |[.loc n],r,h=>
  obtain⟨v,rfl,r1⟩:=r.sj;obtain⟨a,rfl,ha⟩:=r1.dO;unfold cZ at h;dsimp only at h;split at h
  .rename_i ws e;obtain⟨vs,hs,rv⟩:=bh sr e ha;refine .inl ⟨a,vs,rfl,.inl hs,?_⟩;rw[<-rv.length];exact c! sr h
  .exact h.elim
 |[.str z],r,h=>
  obtain⟨v,rfl,r1⟩:=r.sj;unfold cZ at h;dsimp only at h;split at h
  .rename_i hz;exact .inr ⟨z,by rw[r1.jl],hz,c! sr h⟩
  .exact h.elim
 |[.c6],_,h=>exact h.elim
 |[.bl _],_,h=>exact h.elim
 |[.int _],_,h=>exact h.elim
 |[.exc _],_,h=>exact h.elim
 |[.fn _ _],_,h=>exact h.elim
 |[.mt _],_,h=>exact h.elim
 |x::y::r,_,h=>cases x<;>exact h.elim
def lK:FN
 |[.int i],st=>.ok (.int (if i<0 then -i else i)) st
 |_,_=>.bad
theorem Bg:bp X (.builtin "abs") (cM (wo X) E lK):=by
 refine bp.imp CM ?_;rintro xs H Q ⟨ρ,st,us,sr,r,h⟩;unfold lK at h;split at h
 .rename_i i;obtain⟨v,rfl,r1⟩:=r.sj;exact⟨i,by rw[r1.cV],c! sr h⟩
 .exact h.elim
def gY:FN
 |[.tup us],st=>.ok (.tup us) st
 |[.loc n],st=>match ar st n with
  |some us=>.ok (.tup us) st
  |none=>.bad
 |_,_=>.bad
theorem Bh:bp X (.type "tuple") (cM (wo X) E gY):=by
 refine bp.imp qY ?_;rintro xs H Q ⟨ρ,st,us,sr,r,h⟩;unfold gY at h;split at h
 .rename_i ws;obtain⟨v,rfl,r1⟩:=r.sj;obtain⟨a,vs,rfl,ha,ra⟩:=r1.fN;exact⟨a,vs,rfl,.inr ⟨ha,h ρ H _ (aF.refl _ _) sr r1⟩⟩
 .rename_i n;obtain⟨v,rfl,r1⟩:=r.sj;obtain⟨a,rfl,ha⟩:=r1.dO;split at h
  .rename_i ws e;obtain⟨vs,hs,rv⟩:=bh sr e ha;refine⟨a,vs,rfl,.inl ⟨hs,λl hl=>?_⟩⟩;have s:=c7 (o:=.tup vs) hl;exact h ρ _ _ (aF.same s) (sr.grow s) (Rl.lH cg (bj.mono (aF.same s) _ _ rv))
  .exact h.elim
 .exact h.elim
def fw:FN
 |[.tup us],st=>.ok (.loc st.length) (st++[.lst us])
 |[.loc n],st=>match ar st n with
  |some us=>.ok (.loc st.length) (st++[.lst us])
  |none=>.bad
 |_,_=>.bad
theorem Bi:bp X (.type "list") (cM (wo X) E fw):=by
 refine bp.imp tZ ?_;rintro xs H Q ⟨ρ,st,us,sr,r,h⟩;unfold fw at h;split at h
 .rename_i ws;obtain⟨v,rfl,r1⟩:=r.sj;obtain⟨a,vs,rfl,ha,ra⟩:=r1.fN;refine⟨a,vs,rfl,.inr ha,λl hl=>?_⟩;obtain⟨k1,k2,k3⟩:=ie sr ra hl;exact h _ _ _ k1 k2 k3
 .rename_i n;obtain⟨v,rfl,r1⟩:=r.sj;obtain⟨a,rfl,ha⟩:=r1.dO;split at h
  .rename_i ws e;obtain⟨vs,hs,rv⟩:=bh sr e ha;refine⟨a,vs,rfl,.inl hs,λl hl=>?_⟩;obtain⟨k1,k2,k3⟩:=ie sr rv hl;exact h _ _ _ k1 k2 k3
  .exact h.elim
 .exact h.elim
def jd:List ak->Option (List Bool)
 |[]=>some []
 |.bl b::r=>(jd r).map (b :: ·)
 |_=>none
theorem sC{K:_G}{ρ:_K}{H:Hp}:∀{us:List ak}{bs:List Bool}{vs:List V}{aI:_I},jd us=some bs->bj K ρ H us vs->bw vs aI->LSm.BoolsAre aI bs
 |[],bs,vs,aI,h,r,v=>by cases h;have:=r.eM;subst this;cases v;exact .nil
 |u::us,bs,vs,aI,h,r,v=>by
  cases u with
  |bl b=>
   simp only[jd]at h;cases z:jd us with
   |none=>rw[z]at h;cases h
   |some bs'=>
    rw[z]at h;cases h;obtain⟨x,r',rfl,h2,h3⟩:=r.cP;have:=h2.pJ;subst this;cases v with
    |cons q1 q2=>
     cases q1;exact .cons b (sC z h3 q2)
  |_=>cases h
theorem pN(hh:X.A.handled=none):bp X (.builtin "all") (λxs H Q=>∃a ρ us vs bs,xs=[.ref a]/\kf X.K H a vs/\bj X.K ρ H us vs/\jd us=some bs/\Q (.bl (bs.all id)) H):=by
 rintro ae s σ H xs ws Q I r ⟨a,ρ,us,vs,bs,rfl,hs,rv,hb,q⟩;obtain⟨u,rfl,ru⟩:=vals1 r;cases ru;obtain⟨aI,r1,p1,_⟩:=I.list hs;have B:=sC hb rv r1;have hl:=p1.isList;have lG:a<s.heap.objs.size:=by obtain⟨_,e,_⟩:=hl;exact Vz e
 refine call_all_walk (Xy hl ?_);refine⟨s.heap.objs.size,[s.heap.objs.size,a],[s.heap.objs.size],aI.toArray.size,_,_,λi=>(bs[i]?).getD true,rfl,ZQ (A:=X.A.in1) hh _ a (VX lG) aI.toArray,
  ⟨⟨_,VI _ rfl,rfl,rfl⟩,hl.push _⟩,λi v s' Q' E' hP hQ=>?_,λh' tk hk=>?_⟩
 .obtain⟨b,e,rfl⟩:=B.get i v (by simpa using hP);simp only[e,Option.getD_some]at hQ;exact WX hQ
 .have e:((List.range aI.toArray.size).all λi=>(bs[i]?).getD true)=bs.all id:=by rw[VD,B.length];exact LSm.range_all bs
  rw[e];exact⟨.bl _,H,I.kept (LSm.kept_iter hk),rfl,q⟩
def pO:FN
 |[.loc n],st=>match ar st n with
  |some us=>match jd us with
   |some bs=>.ok (.bl (bs.all id)) st
   |none=>.bad
  |none=>.bad
 |_,_=>.bad
theorem G7(hc:bp X (.builtin "all") (λxs H Q=>∃a ρ us vs bs,xs=[.ref a]/\kf X.K H a vs/\bj X.K ρ H us vs/\jd us=some bs/\Q (.bl (bs.all id)) H)):bp X (.builtin "all") (cM (wo X) E pO):=by
 refine bp.imp hc ?_;rintro xs H Q ⟨ρ,st,us,sr,r,h⟩;unfold pO at h;split at h
 .rename_i n;obtain⟨v,rfl,r1⟩:=r.sj;obtain⟨a,rfl,ha⟩:=r1.dO;split at h
  .rename_i ws e;split at h
   .rename_i bs hb;obtain⟨vs,hs,rv⟩:=bh sr e ha;exact⟨a,ρ,ws,vs,bs,rfl,hs,rv,hb,d! sr h⟩
   .exact h.elim
  .exact h.elim
 .exact h.elim
theorem Bj(hh:X.A.handled=none):bp X (.builtin "all") (cM (wo X) E pO):=G7 (pN hh)
def kindOf(st:af):ak->Option String
 |.c6=>some "NoneType"
 |.bl _=>some "bool"
 |.int _=>some "int"
 |.str _=>some "str"
 |.tup _=>some "tuple"
 |.loc n=>match st[n]? with
  |some (.lst _)=>some "list"
  |some (.La _)=>some "list"
  |some (.mod _)=>none
  |some (.dK _)=>some "dict"
  |some (.dT _)=>some "dict"
  |_=>none
 |_=>none
def O0(T:String)(st:af)(v:ak):Option Bool:=(kindOf st v).map λk=>k==T || (k == "bool" && T == "int")
def vP(T:String)(m:ME):ME:=λμ st=>(m μ st).bind λv az=>match O0 T az v with
 |some b=>.ok (.bl b) az
 |none=>.bad
def DE(K:_G)(T:String):Prop:=∀k∈["NoneType","bool","int","str","tuple","list","dict"],W.kitOne K (.type k) (.type T)=some (k==T || (k == "bool" && T == "int"))
theorem xW{st:af}{v:ak}{k:String}(h:kindOf st v=some k):k∈["NoneType","bool","int","str","tuple","list","dict"]:=by
 unfold kindOf at h;split at h
 all_goals first
  |(cases h;decide)
  |(split at h<;>first|(cases h;decide)|cases h)
  |cases h
theorem DF{s:_N}{E:_D}{c:_M}{b:Bool}{st:af}{u:ak}{x:V}{v:_M}{k:String}(I:aM X ae σ H s)(sr:SR X.K ρ st H)(r:Rl X.K ρ H u x)(q:bD x v)(hk:kindOf st u=some k)(e:W.kitOne X.K (.type k) c=some b)(h:∀tk,Q (.bool b) {s with toks:=tk}):
  wpAny (model X.prog X.w) A (call (.builtin "isinstance") [v,c]) Q E s:=by
 cases u with
 |c6=>cases hk;have:=r.jm;subst this;exact fc I q .c6 e h
 |bl y=>cases hk;have:=r.pJ;subst this;exact fc I q (.bl y) e h
 |int i=>cases hk;have:=r.cV;subst this;exact fc I q (.int i) e h
 |str y=>cases hk;have:=r.jl;subst this;exact fc I q (.str y) e h
 |tup us=>
  cases hk;obtain⟨a,vs,rfl,ha,ra⟩:=r.fN;cases q;obtain⟨aI,r1,⟨o,h1,h2,_⟩,_⟩:=I.tuple ha;exact WD Z3 I.nI ⟨o,h1,h2⟩ e (λz=>nomatch z) h
 |loc n=>
  obtain⟨a,rfl,ha⟩:=r.dO;obtain⟨cl,hc,kc⟩:=sr.there ha;simp only[kindOf,hc]at hk;cases cl with
  |lst us=>cases hk;obtain⟨vs,h1,_⟩:=kc;exact fc I q (.lst h1) e h
  |La us=>cases hk;obtain⟨o,vs,h1,_⟩:=kc;exact fc I q (.kx h1) e h
  |mod us=>cases hk
  |dK us=>cases hk;obtain⟨vs,h1,_⟩:=kc;exact fc I q (.dK h1) e h
  |dT us=>cases hk;obtain⟨vs,h1,_⟩:=kc;exact fc I q (.dT h1) e h
  |tab _ _ _ _=>cases hk
  |ins _ _=>cases hk
  |fd _=>cases hk
 |exc c=>cases hk
 |fn k c=>cases hk
 |mt us=>cases hk
theorem uf{T:String}{e:Expr}{m:ME}{p q:Pos}(hK:DE X.K T)(hg:Gl X "isinstance")(hm:X.mg "isinstance" = none)(hgT:Gl X x)(hmT:X.mg x=none)(hvT:bootBuiltins x=some (.type T))(he:PE X e (tE X E m))(hn:x ≠ "__name__":=by decide)(hd:(x==("__debug__":Str))=false:=by decide)(hs:starEach [e,.Name x q] X.env=(false,eval e X.env)::starEach [.Name x q] X.env:=by rfl)(fU:starEach [.Name x q] X.env=(false,eval (.Name x q) X.env)::starEach [] X.env:=by rfl)(iR:(backTo pos (starEach [.Name x q] X.env)).any (·.1)=false:=by rfl):PE X (.Call (.Name "isinstance" p) [e,.Name x q] [] pos) (tE X E (vP T m)):=by
 have hc:bp X (.builtin "isinstance") (λxs H Q=>∃y ρ st u k b,xs=[y,.ty T]/\SR X.K ρ st H/\Rl X.K ρ H u y/\kindOf st u=some k/\W.kitOne X.K (.type k) (.type T)=some b/\Q (.bl b) H):=by rintro ae s σ H xs us Q I r ⟨y,ρ,st,u,k,b,rfl,sr,r1,h1,h2,h3⟩;obtain⟨v1,v2,rfl,q1,q2⟩:=vals2 r;cases q2;exact DF I sr r1 q1 h1 h2 λtk=>⟨.bl b,H,I.tok tk,rfl,h3⟩
 refine PE.imp (k? hc hg hm X2 (fS he (fS (zr (v:=.ty T) hgT hmT hvT rfl hn hd) kB fU) hs) ⋯ ⋯ hs iR) ?_;rintro σ H Q ⟨μ,ρ,st,rs,sr,h⟩;refine go μ ρ st rs sr h λu a7 ρ1 H1 x e1 cA r1 h1=>?_;cases z:kindOf a7 u with
 |none=>simp only[O0,z]at h1;exact h1.elim
 |some k=>
  simp only[O0,z]at h1;exact⟨x,ρ1,a7,u,k,_,rfl,cA,r1,z,hK k (xW z),d! cA h1⟩
theorem DG{K:_G}:DE K "int":=by intro k hk;simp only[VO,YC,XZ]at hk;rcases hk with rfl|rfl|rfl|rfl|rfl|rfl|rfl<;>first|rfl|kernel_rfl
theorem Bk{K:_G}:DE K "bool":=by intro k hk;simp only[VO,YC,XZ]at hk;rcases hk with rfl|rfl|rfl|rfl|rfl|rfl|rfl<;>first|rfl|kernel_rfl
theorem xX{K:_G}:DE K "tuple":=by intro k hk;simp only[VO,YC,XZ]at hk;rcases hk with rfl|rfl|rfl|rfl|rfl|rfl|rfl<;>first|rfl|kernel_rfl
theorem Bl{K:_G}:DE K "list":=by intro k hk;simp only[VO,YC,XZ]at hk;rcases hk with rfl|rfl|rfl|rfl|rfl|rfl|rfl<;>first|rfl|kernel_rfl
abbrev AS:=ak->Env->Option Env
def aq(i:Nat):AS:=λv μ=>some (μ.set i (some v))
def sE:List AS->List ak->Env->Option Env
 |[],[],μ=>some μ
 |a::as,v::vs,μ=>(a v μ).bind λμ'=>sE as vs μ'
 |_,_,_=>none
def bU(l:List AS):AS:=λv μ=>match v with
 |.tup vs=>sE l vs μ
 |_=>none
def tA(W:Wo)(a:AS):TG:=λv σ H Q=>∃μ ρ u μ',RS W ρ H μ σ/\Rl W.K ρ H u v/\a u μ=some μ'/\∀σ',RS W ρ H μ' σ'->Q σ' H
def QR(W:Wo)(l:List AS):F0:=λvs σ H Q=>∃μ ρ us μ',RS W ρ H μ σ/\bj W.K ρ H us vs/\sE l us μ=some μ'/\∀σ',RS W ρ H μ' σ'->Q σ' H
theorem xC.imp{e:List Expr}{t t':F0}(h:xC X e t)(k:∀v σ H Q,t' v σ H Q->t v σ H Q):xC X e t':=λae s σ H v u Q I r q=>h ae s σ H v u Q I r (k v σ H Q q)
theorem G8(i:Nat)(hN:X.N.Nodup)(hi:X.N[i]?=some x:=by rfl)(hx:Loc X.env.scope x:=by left)(hf:X.fn x=true\/X.env.scope.names.lookup x=some .local:=by left):PG X (.Name x pos) (tA (wo X) (aq i)):=by refine PG.imp (F_ hN hi hx hf) ?_;rintro v σ H Q ⟨μ,ρ,u,μ',rs,r,e,q⟩;cases e;exact q _ (rs.set i r)
theorem G9:xC X [] (QR (wo X) []):=by
 refine xC.imp F! ?_;rintro vs σ H Q ⟨μ,ρ,us,μ',rs,r,e,q⟩;cases us with
 |nil=>cases e;exact⟨r.eM,q σ rs⟩
 |cons=>cases e
theorem DH{e:Expr}{a:AS}{as:List AS}(h1:PG X e (tA (wo X) a))(h2:xC X es (QR (wo X) as))(hs:(assignEach (e::es) X.env).map (·.2)=assign e X.env::(assignEach es X.env).map (·.2):=by rfl):xC X (e::es) (QR (wo X) (a::as)):=by
 refine xC.imp (CC h1 h2 hs) ?_;rintro vs σ H Q ⟨μ,ρ,us,μ',rs,r,e,q⟩;cases us with
 |nil=>cases e
 |cons u us=>
  obtain⟨v,r',rfl,ru,rr⟩:=r.cP;unfold sE at e;cases z:a u μ with
  |none=>rw[z]at e;cases e
  |some μ1=>
   rw[z]at e;exact⟨v,r',rfl,μ,ρ,u,μ1,rs,ru,z,λσ1 OY=>⟨μ1,ρ,us,μ',OY,rr,e,q⟩⟩
theorem LC{l:List AS}(hc:X.calm=true)(h:xC X es (QR (wo X) l))(hn:(assignEach es X.env).length=l.length:=by rfl)(AJ:(assignEach es X.env).findIdx? (·.1)=none:=by rfl):PG X (.Tuple es k pos) (tA (wo X) (bU l)):=by
 refine PG.imp (J7 hc h hn AJ) ?_;rintro v σ H Q ⟨μ,ρ,u,μ',rs,r,e,q⟩;cases u with
 |tup us=>
  obtain⟨a,vs,rfl,ha,ra⟩:=r.fN;have len:∀(l:List AS)(us:List ak)(μ:Env),sE l us μ=some μ'->us.length=l.length:=by
   intro l
   induction l with
   |nil=>intro us μ e;cases us with|nil=>rfl|cons=>cases e
   |cons a l ih=>
    intro us μ e;cases us with
    |nil=>cases e
    |cons u us=>
     unfold sE at e;cases z:a u μ with
     |none=>rw[z]at e;cases e
     |some μ1=>rw[z]at e;rw[Vt,Vt,ih us μ1 e]
  exact⟨a,vs,rfl,ha,by rw[<-ra.length];exact len _ _ _ e,μ,ρ,us,μ',rs,ra,e,q⟩
 |_=>cases e
def aac(a:AS)(m:ME):MB:=λμ st=>(m μ st).sb μ λv az=>match a v μ with
 |some μ'=>.nx μ' az
 |none=>.bad
abbrev Itm:=List ak×(af->Prop)
abbrev MI:=Env->af->cL Itm
def Np(K:_G)(ρ0:_K)(H0:Hp)(p:Itm)(J:It):Prop:=
 ∀ρ st H,aF ρ0 H0 ρ H->SR K ρ st H->p.2 st->∀i:Nat,
  (∀u,p.1[i]?=some u->J.go i H/\∀x H',J.Ni i H x H'->aF ρ H ρ H'/\SR K ρ st H'/\Rl K ρ H' u x)/\(p.1.length<=i->J.stop i H)
abbrev tI(X:Cx)(E:XK)(m:MI):TI:=tG (wo X) E (Np X.K) m
section
variable{p:Pos}
theorem PI.imp{it:Expr}{t t':TI}(h:PI X tg it t)(k:∀σ H Q,t' σ H Q->t σ H Q):PI X tg it t':=λae s σ H R I q=>h ae s σ H R I (k σ H R q)
theorem LD{l:Expr}{tl:TE}(hl:PE X l tl):PI X tg l (λσ H R=>tl σ H λx H1=>∃a,x=.ref a/\(((∃xs,kf X.K H1 a xs)/\R (RD X.K a) H1)\/((∃xs,jq X.K H1 a xs)/\R (RE X.K a) H1))):=by
 intro ae s σ H R I h;refine dA (hl ae s σ H _ I h) λv s1⟨x,H1,I1,r1,q1⟩=>?_;obtain⟨a,e,q⟩:=q1;subst e;cases r1;rcases q with⟨⟨xs,hq⟩,q⟩|⟨⟨xs,hq⟩,q⟩
 .obtain⟨aI,rv,p,hz⟩:=I1.list hq;refine Xy p.isList ?_;refine⟨s1.heap.objs.size,[s1.heap.objs.size],_,_,H1,rfl,I1.kept (t':=s1.toks) λb o e=>Vq _ e,AK a _,⟨_,VI _ rfl,rfl,rfl⟩,λb hb=>?_,q⟩;have e:b=s1.heap.objs.size:=by simpa using hb
  subst e;exact I1.CF (Vy _) (I1.b?.fresh (Vy _))
 .obtain⟨aI,rv,p,hz⟩:=I1.tuple hq;refine Y3 (show s1.heap.IsTuple a aI.toArray from p) ?_;refine⟨s1.heap.objs.size,[s1.heap.objs.size],_,_,H1,rfl,I1.kept (t':=s1.toks) λb o e=>Vq _ e,xD a _,⟨_,VI _ rfl,rfl,rfl⟩,λb hb=>?_,q⟩;have e:b=s1.heap.objs.size:=by simpa using hb
  subst e;exact I1.CF (Vy _) (I1.b?.fresh (Vy _))
def pP(st:af):ak->Option Itm
 |.tup us=>some (us,λ_=>True)
 |.mt us=>some (us,λ_=>True)
 |.loc n=>(ar st n).map λus=>(us,λaz=>ar az n=some us)
 |_=>none
def bQ(m:ME):MI:=λμ st=>(m μ st).bind λv az=>match pP az v with
 |some p=>.ok p az
 |none=>.bad
theorem DI{K:_G}{n:Nat}{us:List ak}{a:_O}(ha:ρ[n]?=some a)(SJ:∀{ρ':_K}{az:af}{H':Hp},SR K ρ' az H'->ar az n=some us->ρ'[n]?=some a->∃vs,kf K H' a vs/\bj K ρ' H' us vs):
  Np K ρ H (us,λaz=>ar az n=some us) (RD K a):=by
 intro ρ' az H' e sr g i;obtain⟨vs,hs,rv⟩:=SJ sr g (e.at_ ha);refine⟨λu hu=>?_,λhi=>⟨vs,hs,by rw[<-rv.length];exact hi⟩⟩;obtain⟨v,hv,ru⟩:=rv.get hu;refine⟨⟨vs,v,hs,hv⟩,λx QS y=>?_⟩;obtain⟨rfl,y⟩:=y;have e:=(y vs hs).symm.trans hv;cases e;exact⟨aF.refl _ _,sr,ru⟩
theorem zU{K:_G}{us:List ak}{a:_O}{vs:List V}(ha:jq K H a vs)(ra:bj K ρ H us vs):Np K ρ H (us,λ_=>True) (RE K a):=by intro ρ' az H' e sr g i;have LF:jq K H' a vs:=e.SE ha;have rv:=bj.mono e _ _ ra;refine⟨λu hu=>?_,λhi=>⟨vs,LF,by rw[<-rv.length];exact hi⟩⟩;obtain⟨v,hv,ru⟩:=rv.get hu;refine⟨⟨vs,v,LF,hv⟩,λx QS y=>?_⟩;obtain⟨rfl,y⟩:=y;have e:=(y vs LF).symm.trans hv;cases e;exact⟨aF.refl _ _,sr,ru⟩
theorem LG{l:Expr}{m:ME}(hl:PE X l (tE X E m)):PI X tg l (tI X E (bQ m)):=by
 refine PI.imp (LD hl) ?_;rintro σ H R ⟨μ,ρ,st,rs,sr,h⟩;refine go μ ρ st rs sr h λu a7 ρ1 H1 x e1 cA r1 h1=>?_;cases u with
 |tup us=>
  obtain⟨a,vs,rfl,ha,ra⟩:=r1.fN;exact⟨a,rfl,.inr ⟨⟨vs,ha⟩,h1 ρ1 H1 _ (aF.refl _ _) cA (zU ha ra)⟩⟩
 |mt us=>
  obtain⟨a,vs,rfl,ha,ra⟩:=r1.UY;exact⟨a,rfl,.inr ⟨⟨vs,ha⟩,h1 ρ1 H1 _ (aF.refl _ _) cA (zU ha ra)⟩⟩
 |loc n=>
  obtain⟨a,rfl,ha⟩:=r1.dO;cases z:ar a7 n with
  |none=>simp only[pP,z]at h1;exact h1.elim
  |some us=>
   simp only[pP,z]at h1;obtain⟨vs,hs,rv⟩:=bh cA z ha;exact⟨a,rfl,.inl ⟨⟨vs,hs⟩,h1 ρ1 H1 _ (aF.refl _ _) cA (DI ha λs g h=>bh s g h)⟩⟩
 |_=>exact h1.elim
def cu(lo:Int)(n:Nat):List ak:=(List.range n).map λ(i:Nat)=>ak.int (lo+(i:Int))
theorem Bm{K:_G}(lo:Int)(n:Nat):Np K ρ H (cu lo n,λ_=>True) (Qw lo n):=by
 intro ρ' az H' e sr g i;refine⟨λu hu=>?_,λhi=>?_⟩
 .have hi:i<n:=by have:=aX hu;simpa[cu]using this
  refine⟨hi,λx QS y=>?_⟩;obtain⟨rfl,rfl⟩:=y;have e:u=ak.int (lo+(i:Int)):=by simp only[cu,VV]at hu;rw[XD hi]at hu;exact(V? hu).symm
  subst e;exact⟨aF.refl _ _,sr,Rl.mkInt _⟩
 .show n<=i;simpa[cu]using hi
def b_(m:MA):MI:=λμ st=>(m μ st).bind λvs az=>match vs with
 |[.int j]=>if -(2 ^ 62)<=j/\j<2 ^ 62 then .ok (cu 0 j.toNat,λ_=>True) az else .bad
 |_=>.bad
theorem Bn{a:Expr}{m:MA}(hg:Gl X "range")(hm:X.mg "range" = none)(ha:PA X [a] (tL X E m))(hs:starEach [a] X.env=[(false,eval a X.env)]:=by rfl):PI X tg (.Call (.Name "range" p) [a] [] pos) (tI X E (b_ m)):=by
 refine PI.imp (AL hg hm ha hs) ?_;rintro σ H R ⟨μ,ρ,st,rs,sr,h⟩;refine go (R1:=bj X.K) μ ρ st rs sr h λus a7 ρ1 H1 xs e1 cA r1 h1=>?_;split at h1
 .rename_i j;obtain⟨v,rfl,rv⟩:=r1.sj;split at h1
  .rename_i hz;exact⟨j,by rw[rv.cV],hz.1,hz.2,h1 ρ1 H1 _ (aF.refl _ _) cA (Bm 0 j.toNat)⟩
  .exact h1.elim
 .exact h1.elim
def iu(st:af):ak->Option (Bool×Itm)
 |.tup us=>some (false,us,λ_=>True)
 |.loc n=>(ar st n).map λus=>(true,us,λaz=>ar az n=some us)
 |_=>none
def jn:List ak->List ak->List ak
 |x::xs,y::ys=>.tup [x,y]::jn xs ys
 |_,_=>[]
theorem ug:∀(us ws:List ak)(i:Nat),(∀z,(jn us ws)[i]?=some z->∃u w,us[i]?=some u/\ws[i]?=some w/\z=.tup [u,w])/\((jn us ws).length<=i->us.length<=i\/ws.length<=i)
 |[],_,i=>⟨λz h=>(by cases h),λ_=>.inl (WN _)⟩
 |_::_,[],i=>⟨λz h=>(by cases h),λ_=>.inr (WN _)⟩
 |u::us,w::ws,0=>⟨λz h=>(by cases h;exact⟨u,w,rfl,rfl,rfl⟩),λh=>(by simp[jn]at h)⟩
 |u::us,w::ws,i+1=>by
  obtain⟨a,b⟩:=ug us ws i;refine⟨λz h=>a z h,λh=>?_⟩;have h':(jn us ws).length<=i:=by simpa[jn]using h
  rcases b h' with q|q
  .exact .inl (by rw[Vt];lia)
  .exact .inr (by rw[Vt];lia)
def gD(b1 b2:Bool)(m:MA):MI:=λμ st=>(m μ st).bind λvs az=>match vs with
 |[u,w]=>match iu az u,iu az w with
  |some (c1,us,g1),some (c2,ws,g2)=>if c1=b1/\c2=b2 then .ok (jn us ws,λdh=>g1 dh/\g2 dh) az else .bad
  |_,_=>.bad
 |_=>.bad
theorem oR{K:_G}{st:af}{u:ak}{x:V}{c:Bool}{us:List ak}{g:af->Prop}(sr:SR K ρ st H)(r:Rl K ρ H u x)(h:iu st u=some (c,us,g))(SJ:∀{ρ':_K}{az:af}{H':Hp}{n a},SR K ρ' az H'->ar az n=some us->ρ'[n]?=some a->∃vs,kf K H' a vs/\bj K ρ' H' us vs):
  ∃a,x=.ref a/\∀ρ' az H',aF ρ H ρ' H'->SR K ρ' az H'->g az->∃vs,vF c K H' a vs/\bj K ρ' H' us vs:=by
 cases u with
 |tup ws=>
  cases h;obtain⟨a,vs,rfl,ha,ra⟩:=r.fN;exact⟨a,rfl,λρ' az H' e _ _=>⟨vs,e.SE ha,bj.mono e _ _ ra⟩⟩
 |loc n=>
  obtain⟨a,rfl,ha⟩:=r.dO;cases z:ar st n with
  |none=>simp only[iu,z]at h;cases h
  |some ws=>
   simp only[iu,z]at h;cases h;exact⟨a,rfl,λρ' az H' e s g=>SJ s g (e.at_ ha)⟩
 |_=>cases h
theorem uh{st:af}{u:ak}{c:Bool}{us:List ak}{g:af->Prop}(h:iu st u=some (c,us,g)):g st:=by
 cases u with
 |tup ws=>cases h;exact True.intro
 |loc n=>
  cases z:ar st n with
  |none=>simp only[iu,z]at h;cases h
  |some ws=>simp only[iu,z]at h;cases h;exact z
 |_=>cases h
theorem LH(b1 b2:Bool){ea:Expr}{m:MA}(hg:Gl X "zip")(hm:X.mg "zip" = none)(ha:PA X [ea,eb] (tL X E m))(hs:starEach [ea,eb] X.env=[(false,eval ea X.env),(false,eval eb X.env)]:=by rfl)(fU:starEach [eb] X.env=[(false,eval eb X.env)]:=by rfl):
  PI X (.Tuple elts kt tp) (.Call (.Name "zip" p) [ea,eb] [] pos) (tI X E (gD b1 b2 m)):=by
 refine PI.imp (K3 b1 b2 hg hm ha hs fU) ?_;rintro σ H R ⟨μ,ρ,st,rs,sr,h⟩;refine go (R1:=bj X.K) μ ρ st rs sr h λus a7 ρ1 H1 xs e1 cA r1 h1=>?_;split at h1
 .rename_i u w;obtain⟨x,y,rfl,rx,ry⟩:=r1.QN;split at h1
  .rename_i c1 LJ g1 c2 SK g2 z1 z2;split at h1
   .rename_i hc;obtain⟨rfl,rfl⟩:=hc;obtain⟨a,rfl,ka⟩:=oR cA rx z1 λs g h=>bh s g h;obtain⟨b,rfl,kb⟩:=oR cA ry z2 λs g h=>bh s g h;obtain⟨v1,q1,_⟩:=ka ρ1 a7 H1 (aF.refl _ _) cA (uh z1);obtain⟨v2,q2,_⟩:=kb ρ1 a7 H1 (aF.refl _ _) cA (uh z2);refine⟨a,b,rfl,⟨v1,q1⟩,⟨v2,q2⟩,h1 ρ1 H1 _ (aF.refl _ _) cA ?_⟩;intro ρ' az H' e s g i;obtain⟨w1,s1,t1⟩:=ka ρ' az H' e s g.1;obtain⟨w2,s2,t2⟩:=kb ρ' az H' e s g.2;obtain⟨k1,k2⟩:=ug LJ SK i;refine⟨λz hz=>?_,λhi=>⟨w1,w2,s1,s2,?_⟩⟩
    .obtain⟨u',w',LK,SM,rfl⟩:=k1 z hz;obtain⟨p1,p2,p3⟩:=t1.get LK;obtain⟨o1,o2,o3⟩:=t2.get SM;refine⟨⟨w1,w2,p1,o1,s1,s2,p2,o2⟩,λx' QS y'=>?_⟩;obtain⟨pp,x1,y1,rfl,hp,rfl,f1,f2⟩:=y';have c1:=(f1 w1 s1).symm.trans p2;have c2:=(f2 w2 s2).symm.trans o2;cases c1;cases c2;exact⟨aF.same (c7 hp),s.grow (c7 hp),Rl.lH cg (bj.mono (aF.same (c7 hp)) _ _ (bj.cons p3 (bj.one o3)))⟩
    .rw[<-t1.length,<-t2.length];exact k2 hi
   .exact h1.elim
  .exact h1.elim
 .exact h1.elim
end
open Classical in
def forL(g:af->Prop)(a:AS)(body:MB):List ak->MB
 |[],μ,st=>if g st then .nx μ st else .bad
 |u::us,μ,st=>if g st then(match a u μ with
  |some μ1=>match body μ1 st with
   |.nx μ' az=>forL g a body us μ' az
   |.ct μ' az=>forL g a body us μ' az
   |.bk μ' az=>.nx μ' az
   |.rt v az=>.rt v az
   |.er c μ' az=>.er c μ' az
   |.bad=>.bad
  |none=>.bad)else .bad
def d5(it:MI)(a:AS)(body:MB):MB:=λμ st=>(it μ st).sb μ λp az=>forL p.2 a body p.1 μ az
section
variable{p:Pos}
theorem LL{sb:List Stmt}{it:MI}{a:AS}{body:MB}(hp:PassesOwn (model X.prog X.w) X.A X.env X.xe)(hc:X.calm=true)(hi:PI X tg iter (tI X E it))(hg:PG X tg (tA (wo X) a))(hb:jk X sb (tS X E body))(hs:∀x,foldedSetIterable iter X.env x=pure x:=by intro _;rfl):PS X (.For tg iter sb [] pos) (tS X E (d5 it a body)):=by
 refine PS.imp (J! hp hc hi hg hb hs) ?_;rintro D σ H ⟨μ,ρ,st,rs,sr,h⟩;refine GV (R1:=Np X.K) μ ρ st rs sr h λpr a7 ρ1 H1 J e1 cA rJ h1=>?_;obtain⟨us,g⟩:=pr;refine⟨λi m σ' H'=>m=us.length-i/\i<=us.length/\∃μ' ρ' az,aF ρ1 H1 ρ' H'/\RS (wo X) ρ' H' μ' σ'/\SR X.K ρ' az H'/\wS (wo X) E ρ' H' D (forL g a body (us.drop i) μ' az),
  ⟨us.length,by simp,WN _,μ,ρ1,a7,aF.refl _ _,rs.mono e1,cA,h1⟩,?_⟩
 rintro i m σ' H' ⟨rfl,hi,μ',ρ',az,e',zV,zW,h'⟩;by_cases lG:i<us.length
 .rw[Xe lG]at h';unfold forL at h';by_cases qU:g az
  .rw[VA qU]at h';obtain⟨k1,k2⟩:=rJ ρ' az H' e' zW qU i;obtain⟨go',yl⟩:=k1 _ (Vx lG);refine .inr ⟨go',λσ2 H2=>i+1<=us.length/\∃μ2 ρ2 dh,aF ρ1 H1 ρ2 H2/\RS (wo X) ρ2 H2 μ2 σ2/\SR X.K ρ2 dh H2/\wS (wo X) E ρ2 H2 D (forL g a body (us.drop (i+1)) μ2 dh),λσ2 H2 n=>⟨us.length-(i+1),⋯,rfl,n.1,n.2⟩,λx H2 y=>?_⟩;obtain⟨e2,nN,r2⟩:=yl x H2 y;cases z:a us[i] μ' with
   |none=>rw[z]at h';exact h'.elim
   |some μ1=>
    rw[z]at h';dsimp only at h';refine⟨μ',ρ',us[i],μ1,zV.mono e2,r2,z,λσ3 Nq=>⟨μ1,ρ',az,Nq,nN,?_⟩⟩;cases zb:body μ1 az with
    |nx μ4 mP=>
     rw[zb]at h';intro ρ4 H4 σ4 e4 n_ xY;exact⟨⋯,μ4,ρ4,mP,(e'.trans e2).trans e4,xY,n_,wS.mono h' (e2.trans e4)⟩
    |ct μ4 mP=>
     rw[zb]at h';intro ρ4 H4 σ4 e4 n_ xY;exact⟨⋯,μ4,ρ4,mP,(e'.trans e2).trans e4,xY,n_,wS.mono h' (e2.trans e4)⟩
    |bk μ4 mP=>rw[zb]at h';exact λρ4 H4 σ4 e4 n_ xY=>h' ρ4 H4 σ4 (e2.trans e4) n_ xY
    |rt v mP=>rw[zb]at h';exact λρ4 H4 σ4 e4 n_ xY=>h' ρ4 H4 σ4 (e2.trans e4) n_ xY
    |er c μ4 mP=>rw[zb]at h';obtain⟨C,q1,q2⟩:=h';exact⟨C,q1,λρ4 H4 e4 n_=>q2 ρ4 H4 (e2.trans e4) n_⟩
    |bad=>rw[zb]at h';exact h'
  .rw[VL qU]at h';exact h'.elim
 .have C9:i=us.length:=⋯
  subst C9;rw[ZC]at h';unfold forL at h';by_cases qU:g az
  .rw[VA qU]at h';exact .inl ⟨(rJ ρ' az H' e' zW qU us.length).2 (Vy _),h' ρ' H' σ' (aF.refl _ _) zW zV⟩
  .rw[VL qU]at h';exact h'.elim
end
def dR(t:MT)(body:MB):Nat->Env->af->Option dI
 |0,_,_=>none
 |n+1,μ,st=>match t μ st with
  |.ok true a7=>match body μ a7 with
   |.nx μ' az=>dR t body n μ' az
   |.ct μ' az=>dR t body n μ' az
   |.bk μ' az=>some (.nx μ' az)
   |.rt v az=>some (.rt v az)
   |.er c μ' az=>some (.er c μ' az)
   |.bad=>some .bad
  |.ok false a7=>some (.nx μ a7)
  |.err c a7=>some (.er c μ a7)
  |.bad=>some .bad
open Classical in
def fA(t:MT)(body:MB):MB:=λμ st=>if h:∃n r,dR t body n μ st=some r then h.choose_spec.choose else .bad
theorem jz{t:MT}{body:MB}:∀{n m:Nat}{μ:Env}{st:af}{r r':dI},dR t body n μ st=some r->dR t body m μ st=some r'->r=r'
 |0,_,_,_,_,_,h,_=>by cases h
 |_+1,0,_,_,_,_,_,h=>by cases h
 |n+1,m+1,μ,st,r,r',h,h'=>by
  unfold dR at h h';split at h
  .rename_i a7 e;rw[e]at h';dsimp only at h';split at h
   all_goals (rename_i eb;rw[eb]at h';dsimp only at h')
   .exact jz h h'
   .exact jz h h'
   all_goals (cases h;cases h';rfl)
  all_goals (rename_i e;rw[e]at h';dsimp only at h';cases h;cases h';rfl)
theorem mR{t:MT}{body:MB}{n:Nat}{μ:Env}{st:af}{r:dI}(h:dR t body n μ st=some r):fA t body μ st=r:=by
 have hx:∃n r,dR t body n μ st=some r:=⟨n,r,h⟩
 unfold fA;rw[dif_pos hx];exact jz hx.choose_spec.choose_spec h
theorem DJ{c:Expr}{sb:List Stmt}{t:MT}{body:MB}(hp:PassesOwn (model X.prog X.w) X.A X.env X.xe)(hc:PT X c (tT X E t))(hb:jk X sb (tS X E body)):PS X (.While c sb [] pos) (tS X E (fA t body)):=by
 refine PS.imp (CD hp hc hb) ?_;rintro D σ H ⟨μ,ρ,st,rs,sr,h⟩;unfold fA at h;split at h
 .rename_i hx;have hr:=hx.choose_spec.choose_spec;refine⟨λm σ' H'=>∃μ' ρ' az r,aF ρ H ρ' H'/\RS (wo X) ρ' H' μ' σ'/\SR X.K ρ' az H'/\dR t body m μ' az=some r/\wS (wo X) E ρ' H' D r,⟨_,μ,ρ,st,_,aF.refl _ _,rs,sr,hr,h⟩,?_⟩;rintro m σ' H' ⟨μ',ρ',az,r,e',zV,zW,hw,hq⟩;cases m with
  |zero=>cases hw
  |succ m=>
   unfold dR at hw;refine⟨μ',ρ',az,zV,zW,?_⟩;cases z:t μ' az with
   |ok k a7=>
    rw[z]at hw;intro ρ1 H1 k' e1 cA ek;cases ek;cases k with
    |true=>
     dsimp only at hw;rw[VA rfl];refine⟨λσ2 H2=>∃μ2 ρ2 dh r2,aF ρ H ρ2 H2/\RS (wo X) ρ2 H2 μ2 σ2/\SR X.K ρ2 dh H2/\dR t body m μ2 dh=some r2/\wS (wo X) E ρ2 H2 D r2,λσ2 H2 n=>⟨m,Xd m,n⟩,μ',ρ1,a7,zV.mono e1,cA,?_⟩;cases zb:body μ' a7 with
     |nx μ4 mP=>
      rw[zb]at hw;intro ρ4 H4 σ4 e4 n_ xY;exact⟨μ4,ρ4,mP,r,(e'.trans e1).trans e4,xY,n_,hw,wS.mono hq (e1.trans e4)⟩
     |ct μ4 mP=>
      rw[zb]at hw;intro ρ4 H4 σ4 e4 n_ xY;exact⟨μ4,ρ4,mP,r,(e'.trans e1).trans e4,xY,n_,hw,wS.mono hq (e1.trans e4)⟩
     |bk μ4 mP=>rw[zb]at hw;cases hw;exact λρ4 H4 σ4 e4 n_ xY=>hq ρ4 H4 σ4 (e1.trans e4) n_ xY
     |rt v mP=>rw[zb]at hw;cases hw;exact λρ4 H4 σ4 e4 n_ xY=>hq ρ4 H4 σ4 (e1.trans e4) n_ xY
     |er c μ4 mP=>rw[zb]at hw;cases hw;obtain⟨C,q1,q2⟩:=hq;exact⟨C,q1,λρ4 H4 e4 n_=>q2 ρ4 H4 (e1.trans e4) n_⟩
     |bad=>rw[zb]at hw;cases hw;exact hq
    |false=>
     cases hw;rw[VL VH];exact hq ρ1 H1 σ' e1 cA (zV.mono e1)
   |err c a7=>rw[z]at hw;cases hw;exact hq
   |bad=>rw[z]at hw;cases hw;exact hq
 .exact h.elim
def fK(k:Nat)(caps:List Nat)(μ:Env):Env:=List.replicate k none++caps.map λj=>(μ[j]?).getD none
theorem RS.kF{W:Wo}{μ:Env}{σ:L2.St}(r:RS W ρ H μ σ)(k:Nat)(caps:List Nat):RS W ρ H (fK k caps μ) (j8 k caps σ):=by
 refine⟨by simp[fK,j8],λi u e=>?_⟩;unfold fK at e;rcases WS i k with q|q
 .rw[V4 (by rw[Wn];exact q),Xo,VA q]at e;cases e
 .rw[VN (by rw[Wn];exact q),Wn,VV]at e;cases z:caps[i-k]? with
  |none=>rw[z]at e;cases e
  |some j=>
   rw[z]at e;have e':(μ[j]?).getD none=some u:=V? e;have e2:μ[j]?=some (some u):=by
    cases y:μ[j]? with
    |none=>rw[y]at e';cases e'
    |some w=>rw[y]at e';exact Xc _ e'
   obtain⟨v,h1,h2⟩:=r.at_ j u e2;refine⟨v,?_,h2⟩;unfold j8;rw[VN (by rw[Wn];exact q),Wn,VV,z];show some ((σ[j]?).getD none)=_;rw[h1];rfl
open Classical in
def bN(g:af->Prop)(a:AS)(c:MT)(e:ME):List ak->Env->af->List ak->cL (List ak)
 |[],_,st,ys=>if g st then .ok ys st else .bad
 |u::us,τ,st,ys=>if g st then(match a u τ with
  |some τ1=>match c τ1 st with
   |.ok true a7=>match e τ1 a7 with
    |.ok y dh=>bN g a c e us τ1 dh (ys++[y])
    |.err _ _=>.bad
    |.bad=>.bad
   |.ok false a7=>bN g a c e us τ1 a7 ys
   |.err _ _=>.bad
   |.bad=>.bad
  |none=>.bad)else .bad
def aO(k:Nat)(caps:List Nat)(it:MI)(a:AS)(c:MT)(e:ME):ME:=λμ st=>(it μ st).bind λp a7=>
 if p.1.length<=sizeLine then(bN p.2 a c e p.1 (fK k caps μ) a7 []).bind λys dh=>.ok (.loc dh.length) (dh++[.lst ys])else .bad
def aw:MT:=λ_ st=>.ok true st
abbrev W0(X:Cx):Wo:=⟨X.K,X.mg,[]⟩
section
variable{it:MI}{a:AS}{c:MT}{e:ME}
theorem xZ{σ:L2.St}{Q:VK}(h:∃μ ρ st,RS (wo X) ρ H μ σ/\(∀ρ H,RS (wo X) ρ H μ σ->RS (W0 X) ρ H (fK k caps μ) (j8 k caps σ))/\SR X.K ρ st H/\wR (wo X) E (Rl X.K) ρ H Q (aO k caps it a c e μ st)):lF k caps (tI X E it) (tA (W0 X) a) (tG (W0 X) E0 RB c) (tG (W0 X) E0 (Rl X.K) e) σ H Q:=by
 obtain⟨μ,ρ,st,rs,cp,sr,h⟩:=h;refine C7 (go (R1:=Np X.K) μ ρ st rs sr h λpr a7 ρ1 H1 J e1 cA rJ h1=>?_);obtain⟨us,g⟩:=pr;have OY:=cp _ _ (rs.mono e1);dsimp only at h1;split at h1
 .rename_i hz;refine GF us.length hz (λi ys τ H'=>∃μτ ρ' az yv,aF ρ1 H1 ρ' H'/\RS (W0 X) ρ' H' μτ τ/\SR X.K ρ' az H'/\bj X.K ρ' H' yv ys/\yv.length<=i/\wR (wo X) E (Rl X.K) ρ' H' Q ((bN g a c e (us.drop i) μτ az yv).bind λ(zs:List ak)(dh:af)=>cL.ok (ak.loc dh.length) (dh++[bx.lst zs])))
   ⟨fK k caps μ,ρ1,a7,[],aF.refl _ _,OY,cA,bj.nil,Vy _,h1⟩ ?_ ?_ ?_ ?_ ?_
  .rintro i ys τ H' hi ⟨μτ,ρ',az,yv,e',zV,zW,ry,hl,hq⟩;rw[Xe hi]at hq;unfold bN at hq;by_cases qU:g az
   .exact((rJ ρ' az H' e' zW qU i).1 _ (Vx hi)).1
   .rw[VL qU]at hq;exact hq.elim
  .rintro ys τ H' ⟨μτ,ρ',az,yv,e',zV,zW,ry,hl,hq⟩;rw[ZC]at hq;unfold bN at hq;by_cases qU:g az
   .exact(rJ ρ' az H' e' zW qU us.length).2 (Vy _)
   .rw[VL qU]at hq;exact hq.elim
  .rintro i ys τ H' ⟨μτ,ρ',az,yv,e',zV,zW,ry,hl,hq⟩;rw[<-ry.length];exact hl
  .rintro i ys τ H' x H2 hi ⟨μτ,ρ',az,yv,e',zV,zW,ry,hl,hq⟩ y K1 hK;rw[Xe hi]at hq;unfold bN at hq;by_cases qU:g az
   .rw[VA qU]at hq;obtain⟨e2,nN,r2⟩:=((rJ ρ' az H' e' zW qU i).1 _ (Vx hi)).2 x H2 y;cases z:a us[i] μτ with
    |none=>rw[z]at hq;exact hq.elim
    |some τ1=>
     rw[z]at hq;dsimp only at hq;refine⟨μτ,ρ',us[i],τ1,zV.mono e2,r2,z,λσ3 Nq=>⟨τ1,ρ',az,Nq,nN,?_⟩⟩;cases zc:c τ1 az with
     |ok b nV=>
      rw[zc]at hq;intro ρ3 H3 b' e3 xU eb;cases eb;cases b with
      |true=>
       dsimp only at hq;rw[VA rfl];refine⟨τ1,ρ3,nV,Nq.mono e3,xU,?_⟩;cases ze:e τ1 nV with
       |ok v mP=>
        rw[ze]at hq;intro ρ4 H4 y4 e4 n_ r4;exact hK _ _ _ ⟨τ1,ρ4,mP,yv++[v],((e'.trans e2).trans e3).trans e4,(Nq.mono e3).mono e4,n_,(bj.mono ((e2.trans e3).trans e4) _ _ ry).append (bj.one r4),by rw[VC,XC];lia,wR.mono hq ((e2.trans e3).trans e4)⟩
       |err c' mP=>rw[ze]at hq;exact hq.elim
       |bad=>rw[ze]at hq;exact hq.elim
      |false=>
       dsimp only at hq;rw[VL VH];exact hK _ _ _ ⟨τ1,ρ3,nV,yv,(e'.trans e2).trans e3,Nq.mono e3,xU,bj.mono (e2.trans e3) _ _ ry,⋯,wR.mono hq (e2.trans e3)⟩
     |err c' nV=>rw[zc]at hq;exact hq.elim
     |bad=>rw[zc]at hq;exact hq.elim
   .rw[VL qU]at hq;exact hq.elim
  .rintro ys τ H' p ⟨μτ,ρ',az,yv,e',zV,zW,ry,hl,hq⟩ hp;rw[ZC]at hq;unfold bN at hq;by_cases qU:g az
   .rw[VA qU]at hq;obtain⟨k1,k2,k3⟩:=ie zW ry hp;exact hq _ _ _ k1 k2 k3
   .rw[VL qU]at hq;exact hq.elim
 .exact h1.elim
theorem mS(FL:X.pn=[]){σ:L2.St}{Q:VK}(h:tE X E (aO k caps it a c e) σ H Q):lF k caps (tI X E it) (tA (W0 X) a) (tG (W0 X) E0 RB c) (tG (W0 X) E0 (Rl X.K) e) σ H Q:=by
 obtain⟨μ,ρ,st,rs,sr,h⟩:=h;refine xZ ⟨μ,ρ,st,rs,λρ H r=>?_,sr,h⟩;have ew:wo X=W0 X:=by show Wo.mk _ _ _=_;rw[FL]
 rw[ew]at r;exact r.kF k caps
theorem dc(hc:X.calm=true)(FL:X.pn=[])(B:pC X N scope cl k caps)(hi:PI X tg iter (tI X E it))(hg:∀C fp s H,PG (pB X N scope cl C fp s H) tg (tA (W0 X) a))(Dc:∀C fp s H,vf (pB X N scope cl C fp s H) ifs (tG (W0 X) E0 RB c))(he:∀C fp s H,PE (pB X N scope cl C fp s H) elt (tG (W0 X) E0 (Rl X.K) e))(hs:∀x,foldedSetIterable iter X.env x=pure x:=by intro _;rfl):PE X (.ListComp elt [⟨tg,iter,ifs,0⟩] scope pos) (tE X E (aO k caps it a c e)):=
 PE.imp (GD hc B hi hg Dc he hs) λ_ _ _ h=>mS FL h
theorem gZ(i:Nat){py:Pos}(hN:X.N.Nodup)(hc:X.calm=true)(FL:X.pn=[])(B:pC X N scope cl k caps)(hi:PI X tg iter (tI X E it))(hg:∀C fp s H,PG (pB X N scope cl C fp s H) tg (tA (W0 X) a))(Dc:∀C fp s H,vf (pB X N scope cl C fp s H) ifs (tG (W0 X) E0 RB c))(he:∀C fp s H,PE (pB X N scope cl C fp s H) elt (tG (W0 X) E0 (Rl X.K) e))(hy:X.N[i]?=some y:=by rfl)(hx:Loc X.env.scope y:=by left)(Sh:swapsWith (.ListComp elt [⟨tg,iter,ifs,0⟩] scope pos) (some (.Name y py)) A7.line X.env=pure true:=by rfl)(hs:∀x,foldedSetIterable iter X.env x=pure x:=by intro _;rfl)(hf:X.fn y=true\/X.env.scope.names.lookup y=some .local:=by left):
  PS X (.Assign [.Name y py] (.ListComp elt [⟨tg,iter,ifs,0⟩] scope pos) A7) (tS X E (aN i (aO k caps it a c e))):=
 PS.imp (L2.xR hN hy hx hc B hi hg Dc he Sh hs hf) λ_ _ _ h=>mS FL (vN h)
theorem G_{C fp s H}:vf (pB X N scope cl C fp s H) [] (tG (W0 X) E0 RB aw):=by intro ae s' σ H' Q I q;refine zH ae s' σ H' Q I ?_;obtain⟨μ,ρ,st,rs,sr,h⟩:=q;exact h ρ H' true (aF.refl _ _) sr rfl
theorem G!{cc:Expr}{C fp s H}(h:PT (pB X N scope cl C fp s H) cc (tG (W0 X) E0 RB c)):vf (pB X N scope cl C fp s H) [cc] (tG (W0 X) E0 RB c):=GC h
theorem O1{C fp s H}:Passes (kX P w) (pB X N scope cl C fp s H) E0:=by rintro ae σ H' s' e s2 I ⟨ea,cls,H2,_,_,q⟩;exact q.elim
end
abbrev FM:=ak->List ak->af->cL ak
def QT(W:Wo)(E:XK)(f:FM):V->List V->Hp->VK->Prop:=λx xs H Q=>∃ρ st u us,SR W.K ρ st H/\Rl W.K ρ H u x/\bj W.K ρ H us xs/\wR W E (Rl W.K) ρ H Q (f u us st)
def vQ(st:af):ak->Bool
 |.loc n=>match st[n]? with
  |some (.lst _)=>true
  |_=>false
 |_=>false
def g6(f:FM)(o:ME)(a:MA):ME:=λμ st=>(o μ st).bind λx a7=>if vQ a7 x=true then(a μ a7).bind λxs dh=>f x xs dh else .bad
def de:FM
 |.loc n,[v],st=>match st[n]? with
  |some (.lst us)=>if us.length<sizeLine then .ok .c6 (st.set n (.lst (us++[v])))else .bad
  |_=>.bad
 |_,_,_=>.bad
section
variable{o e:Expr}{mo:ME}{ms:MA}{f:FM}
theorem AX.imp{id:String}{r r':V->List V->Hp->VK->Prop}(h:AX X id r)(k:∀x xs H Q,r' x xs H Q->r x xs H Q):AX X id r':=λae s σ H x xs v us Q I rx rs q=>h ae s σ H x xs v us Q I rx rs (k x xs H Q q)
theorem G?{K:_G}{st:af}{n:Nat}{us sv:List ak}{a:_O}{vs q!:List V}(sr:SR K ρ st H)(h:st[n]?=some (.lst us))(ha:ρ[n]?=some a)(hH:H a=some (.lst vs))(r:bj K ρ H sv q!):
  aF ρ H ρ (upd H a (.lst q!))/\SR K ρ (st.set n (.lst sv)) (upd H a (.lst q!)):=by
 have e:aF ρ H ρ (upd H a (.lst q!)):=aF.put hH (λ_ z=>by cases z) (λ_ _ z=>by cases z);exact⟨e,sr.set h rfl rfl ha hH (λ_ z=>by cases z) (λ_ _ z=>by cases z) ⟨q!,cg,bj.mono e _ _ r⟩⟩
theorem x_:AX X "list.append" (QT (wo X) E de):=by
 refine AX.imp AZ ?_;rintro x xs H Q ⟨ρ,st,u,us,sr,r1,r2,h⟩;unfold de at h;split at h
 .rename_i n v;obtain⟨a,rfl,ha⟩:=r1.dO;obtain⟨y,rfl,ry⟩:=r2.sj;split at h
  .rename_i ws hw;split at h
   .rename_i hz;obtain⟨vs,hH,rv⟩:=sr.cell n _ a hw ha;refine⟨a,vs,y,rfl,rfl,hH,by rw[<-rv.length];exact hz,?_⟩;obtain⟨k1,k2⟩:=G? sr hw ha hH (rv.append (bj.one ry));exact h ρ _ _ k1 k2 Rl.zL
   .exact h.elim
  .exact h.elim
 .exact h.elim
theorem DK{K:_G}{st:af}{u:ak}{x:V}(sr:SR K ρ st H)(r:Rl K ρ H u x)(h:vQ st u=true):RW K "list" x H:=by
 cases u with
 |loc n=>
  obtain⟨a,rfl,ha⟩:=r.dO;obtain⟨c,hc,kc⟩:=sr.there ha;simp only[vQ,hc]at h;cases c with
  |lst us=>obtain⟨vs,h1,_⟩:=kc;exact .inl ⟨rfl,vs,kf.of h1⟩
  |_=>cases h
 |_=>cases h
theorem x!{id:String}(slot:Slot "list" name id)(Oi:typeOf (.builtin id)=pure (.type "method_descriptor"))(hm:AX X id (QT (wo X) E f))(ho:PE X o (tE X E mo))(ha:PA X (e::es) (tL X E ms))(lq:attributeBase o name X.env (eval o X.env)=eval o X.env:=by rfl)
  (t4:((backTo bM (starEach (e::es) X.env)).all (λx => !x.1)&&(backToKw bM (keywordEach [] X.env)).all (λx=>x.1.isSome)
   && decide ((e::es).length+([]:List Keyword).length+(if([]:List Keyword).isEmpty then 0 else 1)<30))=true:=by rfl)
  (lC:(apos.endLine==bM.line)=true:=by rfl) (hs:starEach (e::es) X.env=(false,eval e X.env)::starEach es X.env:=by rfl) (iT:(backTo bM (starEach es X.env)).any (·.1)=false:=by rfl):
  PE X (.Call (.Attribute o name apos) (e::es) [] bM) (tE X E (g6 f mo ms)):=by
 refine PE.imp (Oh PySem.F.plainAttrs_list slot Oi hm ho ha lq t4 lC hs iT) ?_;rintro σ H Q ⟨μ,ρ,st,rs,sr,h⟩;refine go μ ρ st rs sr h λu a7 ρ1 H1 x e1 cA r1 h1=>?_;split at h1
 .rename_i hz;refine⟨DK cA r1 hz,?_⟩;refine go (R1:=bj X.K) μ ρ1 a7 (rs.mono e1) cA h1 λus dh ρ2 H2 xs e2 nN r2 h2=>?_;exact⟨ρ2,dh,u,us,nN,Rl.mono e2 _ _ r1,r2,h2⟩
 .exact h1.elim
end
def Nr(W:Wo)(R:_K->Hp->α->β->Prop)(ρ:_K)(H:Hp)(Q:β->Hp->Prop)(EX:EH):cL α->Prop
 |.ok u az=>∀ρ' H' v,aF ρ H ρ' H'->SR W.K ρ' az H'->R ρ' H' u v->Q v H'
 |.err c az=>∃C,W.mg c=some (.ref C)/\∀ρ' H' ea,aF ρ H ρ' H'->SR W.K ρ' az H'->EX (.ref C) ea H'
 |.bad=>False
theorem Nr.mono{W:Wo}{R:_K->Hp->α->β->Prop}{Q:β->Hp->Prop}{EX:EH}{r:cL α}(h:Nr W R ρ H Q EX r)(e:aF ρ H ρ' H'):Nr W R ρ' H' Q EX r:=by
 cases r with
 |ok u st=>exact λρ2 H2 v e2 s r=>h ρ2 H2 v (e.trans e2) s r
 |err c st=>obtain⟨C,h1,h2⟩:=h;exact⟨C,h1,λρ2 H2 ea e2 s=>h2 ρ2 H2 ea (e.trans e2) s⟩
 |bad=>exact h
def QU(X:Cx)(m:ME):OO:=λσ H Q EX=>∃μ ρ st,RS (wo X) ρ H μ σ/\SR X.K ρ st H/\Nr (wo X) (Rl X.K) ρ H Q EX (m μ st)
def G'(W:Wo)(ρ:_K)(H:Hp)(D:Ends)(EX:EK):dI->Prop
 |.nx μ st=>∀ρ' H' σ',aF ρ H ρ' H'->SR W.K ρ' st H'->RS W ρ' H' μ σ'->D.nx σ' H'
 |.rt v st=>∀ρ' H' x,aF ρ H ρ' H'->SR W.K ρ' st H'->Rl W.K ρ' H' v x->D.rt x H'
 |.bk μ st=>∀ρ' H' σ',aF ρ H ρ' H'->SR W.K ρ' st H'->RS W ρ' H' μ σ'->D.bk σ' H'
 |.ct μ st=>∀ρ' H' σ',aF ρ H ρ' H'->SR W.K ρ' st H'->RS W ρ' H' μ σ'->D.ct σ' H'
 |.er c μ st=>∃C,W.mg c=some (.ref C)/\∀ρ' H' σ' ea,aF ρ H ρ' H'->SR W.K ρ' st H'->RS W ρ' H' μ σ'->EX (.ref C) ea σ' H'
 |.bad=>False
theorem G'.mono{W:Wo}{D:Ends}{r:dI}(h:G' W ρ H D EX r)(e:aF ρ H ρ' H'):G' W ρ' H' D EX r:=by
 cases r with
 |nx μ st=>exact λρ2 H2 σ2 e2 s r=>h ρ2 H2 σ2 (e.trans e2) s r
 |rt v st=>exact λρ2 H2 x e2 s r=>h ρ2 H2 x (e.trans e2) s r
 |bk μ st=>exact λρ2 H2 σ2 e2 s r=>h ρ2 H2 σ2 (e.trans e2) s r
 |ct μ st=>exact λρ2 H2 σ2 e2 s r=>h ρ2 H2 σ2 (e.trans e2) s r
 |er c μ st=>obtain⟨C,h1,h2⟩:=h;exact⟨C,h1,λρ2 H2 σ2 ea e2 s r=>h2 ρ2 H2 σ2 ea (e.trans e2) s r⟩
 |bad=>exact h
def Nt(X:Cx)(m:MB):K6:=λD EX σ H=>∃μ ρ st,RS (wo X) ρ H μ σ/\SR X.K ρ st H/\G' (wo X) ρ H D EX (m μ st)
def Cq(m:Env->af->cL α):Env->af->cL α:=λμ st=>match m μ st with
 |.ok v az=>.ok v az
 |.err _ _=>.bad
 |.bad=>.bad
section
variable{p:Pos}{e:Expr}{m:ME}{ms:MA}{f:FN}
theorem FK.imp{t t':OO}(h:FK X e t)(k:∀σ H Q EX,t' σ H Q EX->t σ H Q EX):FK X e t':=λae s σ H Q EX I q=>h ae s σ H Q EX I (k σ H Q EX q)
theorem GL.imp{st:Stmt}{t t':K6}(h:GL X st t)(k:∀D EX σ H,t' D EX σ H->t D EX σ H):GL X st t':=λae s σ H D EX I q=>h ae s σ H D EX I (k D EX σ H q)
theorem DM{fd:FuncData}(F:jr X.prog X.w X.K X.mg X.base (kX X.prog X.w) k fa fd ps (Lq ⟨X.K,X.mg,[]⟩ f))(hr:fJ k X.A)(hg:Gl X x)(hm:X.mg x=some (.ref fa))(hk:PySem.W.keepIn X.K (.ref fa)=true)(hb:Binds X.K fd ps [])(Cz:∀y,X.fn y=true)(ha:∀W,PA (X.pf W) (e::es) (tL X E0 ms))(kC:(x==("__debug__":Str))=false:=by decide)(he:starEach (e::es) X.env=(false,eval e X.env)::starEach es X.env:=by rfl)(iR:(backTo pos (starEach es X.env)).any (·.1)=false:=by rfl):
  FK X (.Call (.Name x p) (e::es) [] pos) (QU X (ai f (Cq ms))):=by
 refine FK.imp (Dj F hr hg hm hk hb Cz ha kC he iR) ?_;rintro σ H Q EX ⟨μ,ρ,st,rs,sr,h⟩;refine⟨μ,ρ,st,rs,sr,?_⟩;unfold ai Cq at h;cases z:ms μ st with
 |ok us a7=>
  rw[z]at h;intro ρ1 H1 vs e1 cA r1;refine⟨us,ρ1,a7,r1,cA,?_⟩;have h':Nr (wo X) (Rl X.K) ρ1 H1 Q EX (f us a7):=Nr.mono h e1;revert h';cases f us a7 with
  |ok u dh=>exact λq=>q
  |err c dh=>exact λ⟨C,q1,q2⟩=>⟨C,q1,λρ2 H2 e2 s2 ea=>q2 ρ2 H2 ea e2 s2⟩
  |bad=>exact λq=>q
 |err c az=>rw[z]at h;exact h.elim
 |bad=>rw[z]at h;exact h
theorem LM{σ:L2.St}{D:Ends}{k:ak->af->dI}{μ:Env}{st:af}(rs:RS (wo X) ρ H μ σ)(sr:SR X.K ρ st H)(h:G' (wo X) ρ H D EX ((m μ st).sb μ k)){Q:VK}(c:∀u a7 ρ1 H1 x,aF ρ H ρ1 H1->SR X.K ρ1 a7 H1->Rl X.K ρ1 H1 u x->G' (wo X) ρ1 H1 D EX (k u a7)->Q x H1):QU X m σ H Q λcls ea H'=>EX cls ea σ H':=by
 refine⟨μ,ρ,st,rs,sr,?_⟩;cases z:m μ st with
 |ok u a7=>rw[z]at h;exact λρ1 H1 x e1 cA r1=>c u a7 ρ1 H1 x e1 cA r1 (G'.mono h e1)
 |err c' a7=>rw[z]at h;obtain⟨C,q1,q2⟩:=h;exact⟨C,q1,λρ2 H2 ea e2 s2=>q2 ρ2 H2 σ ea e2 s2 (rs.mono e2)⟩
 |bad=>rw[z]at h;exact h
theorem Ha(he:FK X e (QU X m)):GL X (.Return (some e) pos) (Nt X (aK m)):=by refine GL.imp (GN he) ?_;rintro D EX σ H ⟨μ,ρ,st,rs,sr,h⟩;exact LM rs sr h λu a7 ρ1 H1 x e1 cA r1 h1=>h1 ρ1 H1 x (aF.refl _ _) cA r1
theorem Hb{s1:Stmt}{a:MB}(h:GL X s1 (Nt X a)):A! X [s1] (Nt X a):=Dk h
abbrev MH:=Str->MB
def x?:MH:=λ_ _ _=>.bad
def ya:dI->dI
 |.rt v st=>.rt v st
 |_=>.bad
def U0(sub:Str->Str->Option Bool)(x:Str)(gU:MB)(rest:MH):MH:=λc μ st=>match sub c x with
 |some true=>ya (gU μ st)
 |some false=>rest c μ st
 |none=>.bad
def DN(sub:Str->Str->Option Bool)(x:Str)(i:Nat)(gU:MB)(rest:MH):MH:=λc μ st=>match sub c x with
 |some true=>ya (gU (μ.set i (some (.exc c))) st)
 |some false=>rest c μ st
 |none=>.bad
def pQ(kn:Str->Bool)(body:MB)(h:MH):MB:=λμ st=>match body μ st with
 |.er c μ' az=>if kn c=true then h c μ' az else .bad
 |.nx μ' az=>.nx μ' az
 |.rt v az=>.rt v az
 |.bk μ' az=>.bk μ' az
 |.ct μ' az=>.ct μ' az
 |.bad=>.bad
def Hc(X:Cx)(h:MH):GO:=λD EX cls ea σ H=>∃c C μ ρ st,X.mg c=some (.ref C)/\cls=.ref C/\RS (wo X) ρ H μ σ/\SR X.K ρ st H/\G' (wo X) ρ H D EX (h c μ st)
theorem PH.imp{t t':GO}(h:PH X hs t)(k:∀D EX cls ea σ H,t' D EX cls ea σ H->t D EX cls ea σ H):PH X hs t':=λae s σ H D EX ea cls J q=>h ae s σ H D EX ea cls J (k D EX cls ea σ H q)
theorem LN:PH X [] (Hc X x?):=PH.imp K_ λD EX cls ea σ H q=>by obtain⟨c,C,μ,ρ,st,_,_,_,_,h⟩:=q;exact h
def LO(K:_G)(mg:_E)(sub:Str->Str->Option Bool):Prop:=∀c x b C D,sub c x=some b->mg c=some (.ref C)->mg x=some (.ref D)->W.kitCls K (.ref C) (.ref D)=some b
theorem zN.pn{K:_G}{mg:_E}{pn:_F}(hp:∀q∈pn,q∈Lc){u:ak}{v:V}(h:zN ⟨K,mg,pn⟩ ρ H u v):zN ⟨K,mg,Lc⟩ ρ H u v:=by
 cases u with
 |exc c=>obtain⟨a,oe,C,h1,h2,h3⟩:=h;exact⟨a,oe,C,h1,hp _ h2,h3⟩
 |_=>exact h
theorem RS.pn{K:_G}{mg:_E}{pn:_F}(hp:∀q∈pn,q∈Lc){μ:Env}{σ:L2.St}(h:RS ⟨K,mg,pn⟩ ρ H μ σ):RS ⟨K,mg,Lc⟩ ρ H μ σ:=
 ⟨h.len,λi u e=>let⟨v,h1,h2⟩:=h.at_ i u e;⟨v,h1,h2.pn hp⟩⟩
theorem LP{n:Str}{sub:Str->Str->Option Bool}{s:MB}{r:MH}(hS:LO X.K X.mg sub)(hN:X.N.Nodup)(hi:X.N[i]?=some n)(hl:X.env.scope.names.lookup n=some .local)(hg:Gl X x)(hm:X.mg x=some (.ref C))(hB:W.subIn X.K (.ref C) (.type "BaseException")=some true)(hs:∀ea oe,Gx oe->jk (L2.vI X ea oe) (b₀::gU) (tS (L2.vI X ea oe) E0 s))(hr:PH X rest (Hc X r))(hd:(x==("__debug__":Str))=false:=by decide):
  PH X (.ExceptHandler (some (.Name x np)) (some n) (b₀::gU) pos::rest) (Hc X (DN sub x i s r)):=by
 refine PH.imp (K? hN hi hl hg hm hB hs hr hd) ?_;rintro D EX cls ea σ H ⟨c,C',μ,ρ,st,h1,rfl,rs,sr,h⟩;unfold DN at h;split at h
 .rename_i e;refine⟨true,hS c x true C' C e h1 hm,?_⟩;rw[VA rfl];intro oe vD;have zV:RS (wo (L2.vI X ea oe)) ρ H (μ.set i (some (.exc c))) (σ.set i (some (.ref ea))):=
   (RS.pn (λq hq=>VJ _ hq) rs).OR i ⟨ea,oe,C',rfl,Vu,h1,vD⟩
  refine⟨_,ρ,st,zV,sr,?_⟩;revert h;cases s (μ.set i (some (.exc c))) st with
  |rt v az=>exact λq=>q
  |_=>exact λq=>q.elim
 .rename_i e;refine⟨false,hS c x false C' C e h1 hm,?_⟩;rw[VL VH];exact⟨c,C',μ,ρ,st,h1,rfl,rs,sr,h⟩
 .exact h.elim
theorem O2{n:Str}{sub:Str->Str->Option Bool}{s:MB}{r:MH}(hS:LO X.K X.mg sub)(hN:X.N.Nodup)(hi:X.N[i]?=some n)(hl:X.env.scope.names.lookup n=some .local)(hg:Gl X x)(hm:X.mg x=some (.ref C))(hB:W.subIn X.K (.ref C) (.type "BaseException")=some true)(hs:∀ea oe,jk (L2.vI X ea oe) (b₀::gU) (tS (L2.vI X ea oe) E0 s))(hr:PH X rest (Hc X r))(hd:(x==("__debug__":Str))=false:=by decide):
  PH X (.ExceptHandler (some (.Name x np)) (some n) (b₀::gU) pos::rest) (Hc X (DN sub x i s r)):=LP hS hN hi hl hg hm hB (λea oe _=>hs ea oe) hr hd
def Known(mg:_E)(kn:Str->Bool):Prop:=∀c,kn c=true->∃C,mg c=some (.ref C)
theorem DO{kn:Str->Bool}{b:MB}{h:MH}(hk:Known X.mg kn){D:Ends}{σ:L2.St}(q:Nt X (pQ kn b h) D EX σ H):Nt X b D (λcls ea σ' H'=>Hc X h D EX cls ea σ' H') σ H:=by
 obtain⟨μ,ρ,st,rs,sr,q⟩:=q;refine⟨μ,ρ,st,rs,sr,?_⟩;unfold pQ at q;cases z:b μ st with
 |er c μ' az=>
  rw[z]at q;dsimp only at q;split at q
  .rename_i hc;obtain⟨C,hC⟩:=hk c hc;exact⟨C,hC,λρ' H' σ' ea e s r=>⟨c,C,μ',ρ',az,hC,rfl,r,s,G'.mono q e⟩⟩
  .exact q.elim
 |_=>rw[z]at q;exact q
def pR(m:MB):MB:=λμ st=>match m μ st with
 |.er _ _ _=>.bad
 |.nx μ' az=>.nx μ' az
 |.rt v az=>.rt v az
 |.bk μ' az=>.bk μ' az
 |.ct μ' az=>.ct μ' az
 |.bad=>.bad
theorem LQ{kn:Str->Bool}{body:List Stmt}{b:MB}{h:MH}(hk:Known X.mg kn)(dx:DefX X)(hb:A! X body (Nt X b))(hh:PH X (h₀::hs) (Hc X h)):PS X (.Try body (h₀::hs) [] [] pos) (tS X E (pR (pQ kn b h))):=by
 refine PS.imp (K! dx hb hh) ?_;rintro D σ H ⟨μ,ρ,st,rs,sr,q⟩;refine DO (EX:=λ_ _ _ _=>False) hk ⟨μ,ρ,st,rs,sr,?_⟩;unfold pR at q;revert q;cases pQ kn b h μ st with
 |er c μ' az=>exact λq=>q.elim
 |_=>exact λq=>q
def yb(sub:Str->Str->Option Bool)(i:Nat)(x:Str):ME:=λμ st=>match μ[i]? with
 |some (some (.exc c))=>(match sub c x with
  |some true=>.ok (.bl true) st
  |_=>.bad)
 |_=>.bad
inductive ClsAt(X:Cx)(x:Str):_M->V->Prop
 |own {C:_O} (hm:X.mg x=some (.ref C)):ClsAt X x (.ref C) (.ref C)
 |blt {n:String} (hm:X.mg x=none) (hv:bootBuiltins x=some (.type n)) (hn:x ≠ "__name__"):ClsAt X x (.type n) (.ty n)
def O3(K:_G)(mg:_E)(sub:Str->Str->Option Bool)(x:Str)(cv:_M):Prop:=∀c C,sub c x=some true->mg c=some (.ref C)->W.kitOne K (.ref C) cv=some true
theorem LR{sub:Str->Str->Option Bool}{n:Str}{cv:_M}{v:V}(hc:ClsAt X x cv v)(hS:O3 X.K X.mg sub x cv)(hg:Gl X "isinstance")(hm:X.mg "isinstance" = none)(Nu:Gl X x)(hN:X.N[i]?=some n)(hv:FE X.env.scope n)(hd:(n==("__debug__":Str))=false)(o?:(n==("__classdict__":Str))=false)(Nv:(x==("__debug__":Str))=false)(hs:starEach [.Name n q1,.Name x q2] X.env=(false,eval (.Name n q1) X.env)::starEach [.Name x q2] X.env:=by rfl)(fU:starEach [.Name x q2] X.env=(false,eval (.Name x q2) X.env)::starEach [] X.env:=by rfl)(iR:(backTo pos (starEach [.Name x q2] X.env)).any (·.1)=false:=by rfl):PE X (.Call (.Name "isinstance" p) [.Name n q1,.Name x q2] [] pos) (tE X E (yb sub i x)):=by
 have hx:PE X (.Name x q2) (tC v):=by
  cases hc with
  |own h=>exact tK Nu h rfl Nv
  |blt h1 h2 h3=>exact zr Nu h1 h2 rfl h3 Nv
 refine PE.imp (k? t! hg hm X2 (fS (tJ (i:=i) hN hv hd o?) (fS hx kB fU) hs) ⋯ ⋯ hs iR) ?_;rintro σ H Q ⟨μ,ρ,st,rs,sr,h⟩;unfold yb at h;split at h
 .rename_i c e;split at h
  .rename_i es;obtain⟨w,e',a,oe,C,rfl,hp,hC,ho⟩:=rs.at_ i _ e;have hk:=hS c C es hC;rw[<-ho]at hk;cases hc with
   |own h'=>exact⟨_,e',a,oe,_,.inl ⟨rfl,hk⟩,hp,d! sr h⟩
   |blt h1 h2 h3=>exact⟨_,e',a,oe,0,.inr ⟨_,rfl,hk⟩,hp,d! sr h⟩
  .exact h.elim
 .exact h.elim
end
inductive fB(X:Cx)(scope:Scope):List (Str×_O)->List Nat->Prop
 |nil:fB X scope [] []
 |cons {y:Str} {c:_O} {j:Nat} {cl:List (Str×_O)} {caps:List Nat} (sub:X.env.cells.lookup y=some c) (hX:X.N[j]?=some y) (hk:X.env.kindOf y=some .cell\/X.env.kindOf y=some .free)
   (hr:(relabel scope X.env).names.lookup y=some .cell\/(relabel scope X.env).names.lookup y=some .free) (r:fB X scope cl caps):fB X scope ((y,c)::cl) (j::caps)
theorem fB.sub{X:Cx}{scope:Scope}{cl:List (Str×_O)}{caps:List Nat}(A:fB X scope cl caps):∀x c,cl.lookup x=some c->X.env.cells.lookup x=some c:=by
 induction A with
 |nil=>intro x c h;cases h
 | @cons y c0 _ _ _ sub _ _ _ _ ih=>
  intro x c h;rw[Yf]at h;by_cases e:x=y
  .rw[WC.mpr e]at h;rw[e];exact sub.trans h
  .rw[V6.mpr e]at h;exact ih x c h
theorem fB.at_(A:fB X scope cl caps):∀(i j:Nat)(x:Str),caps[i]?=some j->(cl.map (·.1))[i]?=some x ->
  X.N[j]?=some x/\(X.env.kindOf x=some .cell\/X.env.kindOf x=some .free)/\((relabel scope X.env).names.lookup x=some .cell\/(relabel scope X.env).names.lookup x=some .free):=by
 induction A with
 |nil=>intro i j x h;cases h
 |cons _ hX hk hr _ ih=>
  intro i j x h h2;cases i with
  |zero=>cases h;cases h2;exact⟨hX,hk,hr⟩
  |succ i=>exact ih i j x h h2
theorem fW:∀{cl:List (Str×_O)}{x:Str},x∈cl.map (·.1)->∃c,cl.lookup x=some c
 |[],x,h=>by simp at h
 |(y,c)::cl,x,h=>by
  by_cases e:x=y
  .exact⟨c,by simp[e]⟩
  .have e':(x==y)=false:=by simpa using e
   rw[Vv,VO]at h;rcases h with h|h
   .exact absurd h e
   .obtain⟨d,hd⟩:=fW h;exact⟨d,by simp only[Yf,e'];exact hd⟩
theorem O4(jv:closureFor scope X.env=pure cl)(A:fB X scope cl caps)(has:((relabel scope X.env).names.all λp => !(p.2 == .cell || p.2 == .free) || (cl.map (·.1)).contains p.1)=true)(gT:(scope.names.all λp => !(p.2 == .cell))=true)(kind:scope.kind=.function)(names:(scope.names.all λp => !(p.2 == .local) || scope.names.lookup p.1==some .local)=true)(len:N.length=k+caps.length)(hN:N.drop k=cl.map (·.1)):pC X N scope cl k caps where
 jv:=jv
 sub:=A.sub
 has:=λx h=>by
  have m:x∈cl.map (·.1):=by rcases h with h|h<;>(have m:=WV h;have z:=Wk.mp has _ m;simpa using z)
  exact fW m
 gT:=λx hx h=>by have z:=Wk.mp gT x hx;simp[h]at z
 kind:=kind
 names:=λx hx h=>by have z:=Wk.mp names x hx;simpa[h]using z
 len:=len
 at_:=λi j x h1 h2=>A.at_ i j x h1 (by rw[<-hN,WH];exact h2)
def FnAt(P:_Q)(w:World)(K:_G)(mg:_E)(base:Heap)(x:Str)(k:Nat)(f:FN):Prop:=
 ∃fa fd ps,jr P w K mg base (kX P w) k fa fd ps (Lq ⟨K,mg,[]⟩ f)/\mg x=some (.ref fa)/\W.keepIn K (.ref fa)=true/\Binds K fd ps []
section
variable{p:Pos}{e:Expr}{ms:MA}{f:FN}{j:Nat}
theorem O5(G:FnAt X.prog X.w X.K X.mg X.base x k f)(hr:fJ j X.A)(hk:k<=j)(hg:Gl X x)(hx:Passes (kX X.prog X.w) X E)(ha:PA X (e::es) (tL X E ms))(kC:(x==("__debug__":Str))=false:=by decide)(he:starEach (e::es) X.env=(false,eval e X.env)::starEach es X.env:=by rfl)(iR:(backTo pos (starEach es X.env)).any (·.1)=false:=by rfl):PE X (.Call (.Name x p) (e::es) [] pos) (tE X E (ai f ms)):=by obtain⟨fa,fd,ps,F,hm,kp,b⟩:=G;exact GU F (hr.mono hk) hg hm kp b hx ha kC he iR
theorem LS(G:FnAt X.prog X.w X.K X.mg X.base x k f)(hr:fJ j X.A)(hk:k<=j)(hg:Gl X x)(Cz:∀y,X.fn y=true)(ha:∀W,PA (X.pf W) (e::es) (tL X E0 ms))(kC:(x==("__debug__":Str))=false:=by decide)(he:starEach (e::es) X.env=(false,eval e X.env)::starEach es X.env:=by rfl)(iR:(backTo pos (starEach es X.env)).any (·.1)=false:=by rfl):FK X (.Call (.Name x p) (e::es) [] pos) (QU X (ai f (Cq ms))):=by obtain⟨fa,fd,ps,F,hm,kp,b⟩:=G;exact DM F (hr.mono hk) hg hm kp b Cz ha kC he iR
end
section
variable{K:_G}{mg:_E}
theorem FnAt.mk{st:Stmt}{fd:FuncData}{body:MB}(F:FH K x x st f fd)(hm:mg x=some (.ref f))(S:fj N ps (aV st))(hb:∀(kV doc pm:_M)(an:Option _O)(ej ct:_M)(us:_I),us.length=ps.length->bindArgs (W.fnOf x x (fT st) (dH st) (aV st) .none kV doc pm an ej ct) ⟨us,[]⟩=pure (ps.zip us))
  (h:∀ (ej:_M) (A:_P) (outer:List PySem.Env) (s:_N) (H:Hp) (E:XK),fJ k (A.deeper (envOfC x (aV st) s.heap.objs.size f ej)) ->
   jk (ip (kX P w) P w K mg base N x (aV st) f ej A outer s H E) (dH st) (tS (ip (kX P w) P w K mg base N x (aV st) f ej A outer s H E) E body)):FnAt P w K mg base x (k+1) (gf ps.length N.length body):=
 ⟨f,fd,ps,Dq F S h,hm,F.kp,F.binds hb⟩
theorem vR{cd:_M}{outer:List PySem.Env}:PassesOwn (model P w) (A.deeper (envOfC qual scope s₀.heap.objs.size f cd)) (envOfC qual scope s₀.heap.objs.size f cd) (ip (kX P w) P w K mg base N qual scope f cd A outer s₀ H₀ E).xe:=
 PassesOwn.leaving
theorem yc{cd:_M}{outer:List PySem.Env}:Raises (ip (kX P w) P w K mg base N qual scope f cd A outer s₀ H₀ E) E:=
 λae σ H s h' e cls vs I hx hE=>A9 I hx hE
theorem Glob.int{i:Int}{t:Tok}(h:mg x=some (.int i t)):Glob K mg x (.int i):=⟨_,.int i,h,⟨t,rfl⟩,λ_ _=>Rl.mkInt i⟩
theorem Glob.ints{a:_O}{o:Obj}{aI:Array _M}{n:Nat}(h:mg x=some (.ref a))(l:K.lookup a=some o)(hc:o.cls=.type "tuple")(hd:o.data=.seq aI n)(hz:aI.size<=sizeLine)(hv:bw (ns.map V.int) aI.toList):Glob K mg x (.mt (ns.map .int)):=
 ⟨_,.ref a,h,rfl,λρ H=>Rl.SF (.inr ⟨o,aI,n,l,hc,hd,hz,hv⟩) (bj.ints ns)⟩
def zX(K:_G):Sp:=λvs H Q _=>∃(a:_O)(ns:_H),vs=[.ref a]/\Gu H/\kf K H a (ns.map V.int)/\ns.length<=63/\∀H',Q (.bl true) H'
theorem LU{a:_O}{c:bx}(k:gW K [a] H c a):SR K [a] [c] H:=by
 refine⟨rfl,λn m b h1 h2 _ _=>?_,λn c' b h1 h2=>?_⟩
 .have p1:=aX h1;have p2:=aX h2;simp at p1 p2;lia
 .have p1:=aX h1;simp at p1;subst p1;cases h1;cases h2;exact k
theorem LV{f:FN}(hf:∀(c:bx)(ns:_H),ns.length<=63->ar [c] 0=some (ns.map ak.int)->∃az,f [.loc 0] [c]=.ok (.bl true) az){vs:List V}{Q:VK}(h:zX K vs H Q E):Lq ⟨K,mg,[]⟩ f vs H Q E:=by
 obtain⟨a,ns,rfl,hO,hS,hl,q⟩:=h;have fin:∀c:bx,gW K [a] H c a->ar [c] 0=some (ns.map ak.int)->Lq ⟨K,mg,[]⟩ f [.ref a] H Q E:=by intro c k hi;obtain⟨az,e⟩:=hf c ns hl hi;refine⟨[.loc 0],[a],[c],bj.one (Rl.Dl rfl),LU k,?_⟩;rw[e];intro ρ' H' v _ _ r;rw[r.pJ];exact q H'
 rcases hS with(h|⟨o,h⟩)|h
 .rcases hO a with z|⟨o,xs,z⟩<;>(rw[z]at h;cases h)
 .exact fin (.La (ns.map .int)) ⟨o,_,h,bj.ints ns⟩ rfl
 .exact fin (.mod (ns.map .int)) ⟨_,h,bj.ints ns⟩ rfl
theorem DP{l:W.OpenLaw}{q:_Q}{XP:(_E)->Heap->Prop}{d:DefRec}{K:Params->_G}(hn:l.most=some 63)(Oo:d.params.defaults=[])(hr:fJ k callerA)(hY:∀(w:World)(h:Heap),YP w h->(K w.params).In h)
  (F:∀ (w:World) (mg:_E) (fa:_O) (h:Heap),(K w.params).In h->h.Ns mainGlobals mg->mg d.name=some (.ref fa) ->
   ∃fd:FuncData,(∀(s:_N)(u:_M),BindsTo s fd ⟨[u],[]⟩ [(x,u)])/\∀base:Heap,(K w.params).In base->base.Ns mainGlobals mg->jr l.prog w (K w.params) mg base (kX l.prog w) k fa fd [x] (zX (K w.params))):
  W.WalkO q loose XP YP l.row.toRowW d [] (λf vs=>PySem.call f vs):=
 L2.Gv (n:=63) (k:=k) (x:=x) (CX:=λw=>kX l.prog w) (sp:=λw=>zX (K w.params)) hn ⋯ Oo hr hY F (λ_ _ a ns hl hO hS=>⟨a,ns,rfl,hO,hS,hl,λ_=>rfl⟩) λ_ _ _ _ _⟨_,_,_,_,_,z⟩=>z
end
theorem kh:bootBuiltins "ValueError" = some (.type "ValueError"):=by decide +kernel
abbrev U1:_I:=[.type "ValueError",.type "Exception",.type "BaseException",.type "object"]
def DQ(K:_G)(mg:_E)(x:Str):Prop:=∃C,mg x=some (.ref C)/\W.excIn K C U1 "ValueError.__new__" = true/\W.subIn K (.ref C) (.type "BaseException")=some true
theorem Bo{K:_G}{D:_O}{t:_M}{cd:ClassData}{b:Bool}(h1:W.clsIn K D=some cd)(h2:W.typeIn K (.ref D)=some (.type "type"))(h3:W.subIn K t (.ref D)=some b):W.kitCls K t (.ref D)=some b:=by show(if((W.clsIn K D).isSome&&W.typeIn K (.ref D)==some (.type "type"))=true then W.subIn K t (.ref D)else none)=some b;rw[h1,h2,h3];rfl
inductive eB(K:_G)(mg:_E):List (Str×Str×Bool)->Prop
 |nil:eB K mg []
 |own {c x:Str} {b:Bool} {C D:_O} {r:List (Str×Str×Bool)} (h1:mg c=some (.ref C)) (h2:mg x=some (.ref D)) (h3:W.kitCls K (.ref C) (.ref D)=some b) (hr:eB K mg r):eB K mg ((c,x,b)::r)
 |blt {c x:Str} {n:String} {C:_O} {r:List (Str×Str×Bool)} (h1:mg c=some (.ref C)) (h2:mg x=none) (Nw:bootBuiltins x=some (.type n)) (h3:W.kitOne K (.ref C) (.type n)=some true) (hr:eB K mg r):eB K mg ((c,x,true)::r)
def bY(tab:List (Str×Str×Bool))(c x:Str):Option Bool:=match tab with
 |[]=>none
 |(c',x',b)::r=>if c'=c/\x'=x then some b else bY r c x
section
variable{K:_G}{mg:_E}
theorem eB.O6{tab:List (Str×Str×Bool)}(S:eB K mg tab):LO K mg (bY tab):=by
 induction S with
 |nil=>intro c x b C D h;cases h
 | @own c' x' _ _ _ _ h1 h2 h3 _ ih=>
  intro c x b C D h e1 e2;rw[bY]at h;by_cases z:c'=c/\x'=x
  .rw[VA z]at h;cases h;rw[z.1,e1]at h1;cases h1;rw[z.2,e2]at h2;cases h2;exact h3
  .rw[VL z]at h;exact ih c x b C D h e1 e2
 | @blt c' x' _ _ _ h1 h2 _ _ _ ih=>
  intro c x b C D h e1 e2;rw[bY]at h;by_cases z:c'=c/\x'=x
  .rw[z.2,e2]at h2;cases h2
  .rw[VL z]at h;exact ih c x b C D h e1 e2
theorem eB.SN{tab:List (Str×Str×Bool)}(S:eB K mg tab):∀(x:Str)(cv:_M),(∃D,cv=.ref D/\mg x=some (.ref D))\/(∃n,cv=.type n/\bootBuiltins x=some (.type n)/\mg x=none)->O3 K mg (bY tab) x cv:=by
 induction S with
 |nil=>intro x cv _ c C h;cases h
 | @own c' x' _ _ _ _ h1 h2 h3 _ ih=>
  intro x cv hx c C h e1;rw[bY]at h;by_cases z:c'=c/\x'=x
  .rw[VA z]at h;cases h;rw[z.1,e1]at h1;cases h1;rw[z.2]at h2;rcases hx with⟨D,rfl,e2⟩|⟨n,rfl,_,e2⟩
   .rw[h2]at e2;cases e2;unfold W.kitOne;split
    .rfl
    .exact h3
   .rw[h2]at e2;cases e2
  .rw[VL z]at h;exact ih x cv hx c C h e1
 | @blt c' x' _ _ _ h1 h2 Nw h3 _ ih=>
  intro x cv hx c C h e1;rw[bY]at h;by_cases z:c'=c/\x'=x
  .rw[VA z]at h;cases h;rw[z.1,e1]at h1;cases h1;rw[z.2]at h2 Nw;rcases hx with⟨D,rfl,e2⟩|⟨n,rfl,e2,_⟩
   .rw[h2]at e2;cases e2
   .rw[Nw]at e2;cases e2;exact h3
  .rw[VL z]at h;exact ih x cv hx c C h e1
def LW(l:_L)(c:Str):Bool:=l.contains c
end
section
variable{p:Pos}{n:Str}{ms:MA}{tab:List (Str×Str×Bool)}{s:MB}{r:MH}
theorem Bp(hX:Raises X E)(hc:X.calm=true)(h:DQ X.K X.mg x)(hg:Gl X x)(ha:PA X (e₀::es) (tL X E ms))(he:starEach (e₀::es) X.env=(false,eval e₀ X.env)::starEach es X.env:=by rfl)(iR:(backTo bM (starEach es X.env)).any (·.1)=false:=by rfl)(hd:(x==("__debug__":Str))=false:=by decide):
  PS X (.Raise (some (.Call (.Name x np) (e₀::es) [] bM)) none pos) (tS X E (mQ x ms)):=by
 obtain⟨C,hm,hq,_⟩:=h;exact Dp hX hc hm hq PySem.F.excBase_ValueError hg ha he iR hd
theorem LX(hS:eB X.K X.mg tab)(hN:X.N.Nodup)(h:DQ X.K X.mg x)(hg:Gl X x)(hs:∀ea oe,jk (L2.vI X ea oe) (b₀::gU) (tS (L2.vI X ea oe) E0 s))(hr:PH X rest (Hc X r))(hi:X.N[i]?=some n:=by rfl)(hl:X.env.scope.names.lookup n=some .local:=by rfl)(hd:(x==("__debug__":Str))=false:=by decide):
  PH X (.ExceptHandler (some (.Name x np)) (some n) (b₀::gU) pos::rest) (Hc X (DN (bY tab) x i s r)):=by
 obtain⟨C,hm,_,hB⟩:=h;exact O2 hS.O6 hN hi hl hg hm hB hs hr hd
theorem He(i:Nat){T:String}(hS:eB X.K X.mg tab)(U2:X.mg x=none)(hb:bootBuiltins x=some (.type T))(hg:Gl X "isinstance")(hm:X.mg "isinstance" = none)(Nu:Gl X x)(hN:X.N[i]?=some n:=by rfl)(hv:FE X.env.scope n:=by first|exact Or.inl rfl|exact Or.inr (Or.inl rfl))(hn:x ≠ "__name__":=by decide)(hd:(n==("__debug__":Str))=false:=by decide)(o?:(n==("__classdict__":Str))=false:=by decide)(Nv:(x==("__debug__":Str))=false:=by decide)(hs:starEach [.Name n q1,.Name x q2] X.env=(false,eval (.Name n q1) X.env)::starEach [.Name x q2] X.env:=by rfl)(fU:starEach [.Name x q2] X.env=(false,eval (.Name x q2) X.env)::starEach [] X.env:=by rfl)(iR:(backTo pos (starEach [.Name x q2] X.env)).any (·.1)=false:=by rfl):PE X (.Call (.Name "isinstance" p) [.Name n q1,.Name x q2] [] pos) (tE X E (yb (bY tab) i x)):=
 LR (.blt U2 hb hn) (hS.SN x _ (.inr ⟨T,rfl,hb,U2⟩)) hg hm Nu hN hv hd o? Nv hs fU iR
end
section
variable[DecidableEq κ]
def q?(aD:List (κ×ak))(k:κ):Option ak:=(aD.find? λkv=>decide (kv.1=k)).map (·.2)
def ui(aD:List (κ×ak))(k:κ)(v:ak):List (κ×ak):=
 if(aD.any λkv=>decide (kv.1=k))=true then aD.map (λkv=>if kv.1=k then(kv.1,v)else kv)else aD++[(k,v)]
variable{K:_G}
theorem fI.nil:fI K ρ H ([]:List (κ×ak)) []:=⟨rfl,bj.nil⟩
theorem fI.cons{k:κ}{u:ak}{v:V}{aD:List (κ×ak)}{iV:List (κ×V)}(r:Rl K ρ H u v)(p:fI K ρ H aD iV):fI K ρ H ((k,u)::aD) ((k,v)::iV):=
 ⟨by simp only[Vv,p.1],bj.cons r p.2⟩
theorem fI.cP{k:κ}{u:ak}{aD:List (κ×ak)}{l:List (κ×V)}(p:fI K ρ H ((k,u)::aD) l):∃v iV,l=(k,v)::iV/\Rl K ρ H u v/\fI K ρ H aD iV:=by
 obtain⟨h1,h2⟩:=p;cases l with
 |nil=>simp at h1
 |cons x l=>
  obtain⟨k',v⟩:=x;simp only[Vv,List.cons.injEq]at h1 h2;obtain⟨rfl,h1⟩:=h1;obtain⟨v',r,e,q1,q2⟩:=h2.cP;simp only[List.cons.injEq]at e;obtain⟨rfl,rfl⟩:=e;exact⟨v,l,rfl,q1,h1,q2⟩
theorem fI.eM{l:List (κ×V)}(p:fI K ρ H ([]:List (κ×ak)) l):l=[]:=by
 have:=p.1;cases l with
 |nil=>rfl
 |cons=>simp at this
theorem fI.mono{aD:List (κ×ak)}{l:List (κ×V)}(p:fI K ρ H aD l)(e:aF ρ H ρ' H'):fI K ρ' H' aD l:=⟨p.1,bj.mono e _ _ p.2⟩
theorem fI.length{aD:List (κ×ak)}{l:List (κ×V)}(p:fI K ρ H aD l):aD.length=l.length:=by have:=Xc List.length p.1;simpa using this
theorem fI.val(k:κ):∀{aD:List (κ×ak)}{l:List (κ×V)},fI K ρ H aD l->(q? aD k=none/\iq l k=none)\/∃u v,q? aD k=some u/\iq l k=some v/\Rl K ρ H u v
 |[],l,p=>by rw[p.eM];exact .inl ⟨rfl,rfl⟩
 |(k',u)::aD,l,p=>by
  obtain⟨v,l',rfl,r,p'⟩:=p.cP;by_cases e:k'=k
  .exact .inr ⟨u,v,by simp[q?,e],by simp[iq,e],r⟩
  .rcases fI.val k p' with⟨h1,h2⟩|⟨u',v',h1,h2,h3⟩
   .exact .inl ⟨by simpa[q?,e]using h1,by simpa[iq,e]using h2⟩
   .exact .inr ⟨u',v',by simpa[q?,e]using h1,by simpa[iq,e]using h2,h3⟩
theorem fI.any(k:κ):∀{aD:List (κ×ak)}{l:List (κ×V)},fI K ρ H aD l->(aD.any λkv=>decide (kv.1=k))=l.any λkv=>decide (kv.1=k)
 |[],l,p=>by rw[p.eM];rfl
 |(k',u)::aD,l,p=>by obtain⟨v,l',rfl,r,p'⟩:=p.cP;simp only[Xj,fI.any k p']
theorem fI.xN(k:κ){u:ak}{v:V}(r:Rl K ρ H u v):∀{aD:List (κ×ak)}{l:List (κ×V)},fI K ρ H aD l->fI K ρ H (aD.map λkv=>if kv.1=k then(kv.1,u)else kv) (l.map λkv=>if kv.1=k then(kv.1,v)else kv)
 |[],l,p=>by rw[p.eM];exact fI.nil
 |(k',u')::aD,l,p=>by
  obtain⟨v',l',rfl,r',p'⟩:=p.cP;simp only[Vv];by_cases e:k'=k
  .rw[VA e,VA e];exact fI.cons r (fI.xN k r p')
  .rw[VL e,VL e];exact fI.cons r' (fI.xN k r p')
theorem fI.snoc{k:κ}{u:ak}{v:V}(r:Rl K ρ H u v):∀{aD:List (κ×ak)}{l:List (κ×V)},fI K ρ H aD l->fI K ρ H (aD++[(k,u)]) (l++[(k,v)])
 |[],l,p=>by rw[p.eM];exact fI.cons r fI.nil
 |(k',u')::aD,l,p=>by obtain⟨v',l',rfl,r',p'⟩:=p.cP;exact fI.cons r' (fI.snoc r p')
theorem fI.put(k:κ){u:ak}{v:V}(r:Rl K ρ H u v){aD:List (κ×ak)}{l:List (κ×V)}(p:fI K ρ H aD l):fI K ρ H (ui aD k u) (putK l k v):=by
 unfold ui putK;rw[p.any k];split
 .exact p.xN k r
 .exact p.snoc r
end
def pS:ak->Option cT
 |.int i=>some (.inl i)
 |.str x=>some (.inr x)
 |_=>none
def keysOf:List ak->Option (List cT)
 |[]=>some []
 |u::us=>match pS u,keysOf us with
  |some k,some ks=>some (k::ks)
  |_,_=>none
def iX:ak->Option (List cT)
 |.tup us=>keysOf us
 |_=>none
section
variable{K:_G}
theorem uj{u:ak}{v:V}{k:cT}(r:Rl K ρ H u v)(h:pS u=some k):v=kV k:=by
 cases u with
 |int i=>cases h;exact r.cV
 |str x=>cases h;exact r.jl
 |_=>cases h
theorem vS:∀{us:List ak}{vs:List V}{ks:List cT},bj K ρ H us vs->keysOf us=some ks->vs=ks.map kV
 |[],vs,ks,r,h=>by cases h;exact r.eM
 |u::us,vs,ks,r,h=>by
  obtain⟨v,r',rfl,h2,h3⟩:=r.cP;unfold keysOf at h;split at h
  .rename_i k ks' e1 e2;cases h;rw[uj h2 e1,vS h3 e2];rfl
  .cases h
theorem lM{u:ak}{v:V}{ks:List cT}(r:Rl K ρ H u v)(h:iX u=some ks):∃b,v=.ref b/\H b=some (.tup (ks.map kV)):=by
 cases u with
 |tup us=>
  obtain⟨b,vs,rfl,hb,rb⟩:=r.Lb;rw[vS rb h]at hb;exact⟨b,rfl,hb⟩
 |_=>cases h
end
def lN(st:af)(d k:ak):Option (Option ak):=match d with
 |.loc n=>match st[n]? with
  |some (.dK aD)=>(pS k).map λq=>q? aD q
  |some (.dT aD)=>(iX k).map λq=>q? aD q
  |_=>none
 |_=>none
def kG(st:af)(d k v:ak):Option af:=match d with
 |.loc n=>match st[n]? with
  |some (.dK aD)=>if aD.length<sizeLine then(pS k).map λq=>st.set n (.dK (ui aD q v))else none
  |some (.dT aD)=>if aD.length<sizeLine then(iX k).map λq=>st.set n (.dT (ui aD q v))else none
  |_=>none
 |_=>none
theorem sF{K:_G}{st:af}{d k:ak}{x y:V}{o:Option ak}(sr:SR K ρ st H)(rd:Rl K ρ H d x)(rk:Rl K ρ H k y)(h:lN st d k=some o):
  ∃a o',x=.ref a/\nY H a y o'/\OA H a/\((o=none/\o'=none)\/∃u v,o=some u/\o'=some v/\Rl K ρ H u v):=by
 cases d with
 |loc n=>
  obtain⟨a,rfl,ha⟩:=rd.dO;unfold lN at h;dsimp only at h;split at h
  .rename_i aD e;obtain⟨l,hl,p⟩:=sr.cell n _ a e ha;cases z:pS k with
   |none=>rw[z]at h;cases h
   |some q=>
    rw[z]at h;cases h;have:=uj rk z;subst this;exact⟨a,iq l q,rfl,nY.k hl,.inl ⟨l,.inl hl⟩,p.val q⟩
  .rename_i aD e;obtain⟨l,hl,p⟩:=sr.cell n _ a e ha;cases z:iX k with
   |none=>rw[z]at h;cases h
   |some q=>
    rw[z]at h;cases h;obtain⟨b,rfl,hb⟩:=lM rk z;exact⟨a,iq l q,rfl,nY.t hl hb,.inr ⟨l,.inl hl⟩,p.val q⟩
  .cases h
 |_=>cases h
theorem yd{K:_G}{st az:af}{d k v:ak}{x y z:V}(sr:SR K ρ st H)(rd:Rl K ρ H d x)(rk:Rl K ρ H k y)(rv:Rl K ρ H v z)(h:kG st d k v=some az):
  ∃a H',x=.ref a/\t8 H a y z H'/\aF ρ H ρ H'/\SR K ρ az H':=by
 cases d with
 |loc n=>
  obtain⟨a,rfl,ha⟩:=rd.dO;unfold kG at h;dsimp only at h;split at h
  .rename_i aD e;obtain⟨l,hl,p⟩:=sr.cell n _ a e ha;split at h
   .rename_i hz;cases zk:pS k with
    |none=>rw[zk]at h;cases h
    |some q=>
     rw[zk]at h;cases h;have:=uj rk zk;subst this;have a7:aF ρ H ρ (upd H a (.dK (putK l q z))):=aF.put hl (λ_ z=>by cases z) (λ_ _ z=>by cases z);exact⟨a,_,rfl,t8.k hl (by rw[<-p.length];exact hz),a7,sr.set e rfl rfl ha hl (λ_ z=>by cases z) (λ_ _ z=>by cases z) ⟨_,cg,(p.put q rv).mono a7⟩⟩
   .cases h
  .rename_i aD e;obtain⟨l,hl,p⟩:=sr.cell n _ a e ha;split at h
   .rename_i hz;cases zk:iX k with
    |none=>rw[zk]at h;cases h
    |some q=>
     rw[zk]at h;cases h;obtain⟨b,rfl,hb⟩:=lM rk zk;have a7:aF ρ H ρ (upd H a (.dT (putK l q z))):=aF.put hl (λ_ z=>by cases z) (λ_ _ z=>by cases z);exact⟨a,_,rfl,t8.t hl hb (by rw[<-p.length];exact hz),a7,sr.set e rfl rfl ha hl (λ_ z=>by cases z) (λ_ _ z=>by cases z) ⟨_,cg,(p.put q rv).mono a7⟩⟩
   .cases h
  .cases h
 |_=>cases h
def pT:ME:=λ_ st=>.ok (.loc st.length) (st++[.dT []])
def dQ:F2:=λd k st=>match lN st d k with
 |some (some v)=>.ok v st
 |_=>.bad
def aad(neg:Bool):F2:=λk d st=>match lN st d k with
 |some o=>.ok (.bl (if neg then !o.isSome else o.isSome)) st
 |none=>.bad
def pU(st:af):ak->Bool
 |.loc n=>match st[n]? with
  |some (.dK _)=>true
  |some (.dT _)=>true
  |_=>false
 |_=>false
def iw(d k x:ME):ME:=λμ st=>(d μ st).bind λdv a7=>if pU a7 dv=true then(k μ a7).bind λkv dh=>(x μ dh).bind λxv nV=>match lN nV dv kv with
 |some o=>.ok (o.getD xv) nV
 |none=>.bad else .bad
def mT(d k v:ME):MB:=λμ st=>(v μ st).sb μ λvv a7=>(d μ a7).sb μ λdv dh=>(k μ dh).sb μ λkv nV=>match kG nV dv kv vv with
 |some mP=>.nx μ mP
 |none=>.bad
section
variable{o i e f:Expr}{md mk mv mx:ME}
theorem vT{K:_G}{st:af}(sr:SR K ρ st H){p:_O}(hp:H p=none){ob:HO}{c:bx}(k:gW K (ρ++[p]) (upd H p ob) c p):
  aF ρ H (ρ++[p]) (upd H p ob)/\SR K (ρ++[p]) (st++[c]) (upd H p ob)/\Rl K (ρ++[p]) (upd H p ob) (.loc st.length) (.ref p):=by
 refine⟨aF.snoc p (c7 hp),sr.alloc hp k,Rl.Dl ?_⟩;rw[<-sr.len,VN (Vy _),WJ];rfl
theorem DR:PE X (.Dict [] [] pos) (tE X E pT):=by refine PE.imp C3 ?_;rintro σ H Q ⟨μ,ρ,st,rs,sr,h⟩ p hp;obtain⟨k1,k2,k3⟩:=vT (c:=.dT []) sr hp ⟨[],cg,fI.nil⟩;exact h _ _ _ k1 k2 k3
theorem Hf(hu:X.A.units+64<cLine)(ho:PE X o (tE X E md))(hi:PE X i (tE X E mk))(hs:KI i:=by exact λ_ _=>rfl):PE X (.Subscript o i pos) (tE X E (ag dQ md mk)):=by
 refine PE.imp (Gz ⋯ ho hi hs) ?_;rintro σ H Q ⟨μ,ρ,st,rs,sr,h⟩;refine go μ ρ st rs sr h λd a7 ρ1 H1 x e1 cA r1 h1=>?_;refine go μ ρ1 a7 (rs.mono e1) cA h1 λk dh ρ2 H2 y e2 nN r2 h2=>?_;unfold dQ at h2;split at h2
 .rename_i u hl;obtain⟨a,o',rfl,hd,_,hv⟩:=sF nN (Rl.mono e2 _ _ r1) r2 hl;rcases hv with⟨z,_⟩|⟨u',v,z,rfl,rv⟩
  .cases z
  .cases z;exact⟨a,v,rfl,hd,h2 ρ2 H2 v (aF.refl _ _) nN rv⟩
 .exact h2.elim
theorem zY{K:_G}{st:af}{d:ak}{x:V}(sr:SR K ρ st H)(r:Rl K ρ H d x)(h:pU st d=true):∃a,x=.ref a/\OA H a:=by
 cases d with
 |loc n=>
  obtain⟨a,rfl,ha⟩:=r.dO;obtain⟨c,hc,kc⟩:=sr.there ha;simp only[pU,hc]at h;cases c with
  |dK aD=>obtain⟨l,hl,_⟩:=kc;exact⟨a,rfl,.inl ⟨l,.inl hl⟩⟩
  |dT aD=>obtain⟨l,hl,_⟩:=kc;exact⟨a,rfl,.inr ⟨l,.inl hl⟩⟩
  |_=>cases h
 |_=>cases h
theorem DS(hu:X.A.units+64<cLine)(ho:PE X o (tE X E md))(he:PE X e (tE X E mk))(hf:PE X f (tE X E mx))(m:M2 X o "get" apos e f bM:=by exact⟨rfl,rfl,rfl,rfl⟩):PE X (.Call (.Attribute o "get" apos) [e,f] [] bM) (tE X E (iw md mk mx)):=by
 refine PE.imp (C5 ⋯ ho he hf m) ?_;rintro σ H Q ⟨μ,ρ,st,rs,sr,h⟩;refine go μ ρ st rs sr h λd a7 ρ1 H1 x e1 cA r1 h1=>?_;split at h1
 .rename_i hd;obtain⟨a,rfl,ia⟩:=zY cA r1 hd;refine⟨a,rfl,ia,?_⟩;refine go μ ρ1 a7 (rs.mono e1) cA h1 λk dh ρ2 H2 y e2 nN r2 h2=>?_;refine go μ ρ2 dh ((rs.mono e1).mono e2) nN h2 λxv nV ρ3 H3 z e3 xU r3 h3=>?_;split at h3
  .rename_i ov hl;obtain⟨a',o',ea,Rn,_,hv⟩:=sF xU (Rl.mono (e2.trans e3) _ _ r1) (Rl.mono e3 _ _ r2) hl;cases ea;refine⟨o',Rn,?_⟩;rcases hv with⟨rfl,rfl⟩|⟨u,v,rfl,rfl,rv⟩
   .exact h3 ρ3 H3 z (aF.refl _ _) xU r3
   .exact h3 ρ3 H3 v (aF.refl _ _) xU rv
  .exact h3.elim
 .exact h1.elim
theorem Hg(hu:X.A.units+64<cLine)(ho:PE X o (tE X E md))(hi:PE X i (tE X E mk))(hv:PE X value (tE X E mv))(hs:swapsWith value (some (.Subscript o i pos')) pos.line X.env=pure false:=by rfl):
  PS X (.Assign [.Subscript o i pos'] value pos) (tS X E (mT md mk mv)):=by
 refine PS.imp (GA ⋯ ho hi hv hs) ?_;rintro D σ H ⟨μ,ρ,st,rs,sr,h⟩;refine GV μ ρ st rs sr h λv a7 ρ1 H1 z e1 cA r1 h1=>?_;refine GV μ ρ1 a7 (rs.mono e1) cA h1 λd dh ρ2 H2 x e2 nN r2 h2=>?_;refine GV μ ρ2 dh ((rs.mono e1).mono e2) nN h2 λk nV ρ3 H3 y e3 xU r3 h3=>?_;split at h3
 .rename_i mP AJ;obtain⟨a,H4,rfl,hd,s4,n_⟩:=yd xU (Rl.mono e3 _ _ r2) r3 (Rl.mono (e2.trans e3) _ _ r1) AJ;exact⟨a,H4,rfl,hd,h3 ρ3 H4 σ s4 n_ ((((rs.mono e1).mono e2).mono e3).mono s4)⟩
 .exact h3.elim
end
section
variable{ms:MA}
theorem LY{a b:Expr}{ma mb:ME}(ha:PE X a (tE X E ma))(hb:PE X b (tE X E mb))(hs:tP b:=by exact λ_ _=>rfl):PE X (.Subscript a b pos) (tE X E (ag aU ma mb)):=OX SI ha hb hs
end
def pV(us:List ak)(lo hi:Option Int):List ak:=(us.drop (HT.fi us.length 0 lo)).take (HT.fi us.length us.length hi-HT.fi us.length 0 lo)
theorem bj.cut{K:_G}{us:List ak}{vs:List V}(r:bj K ρ H us vs)(lo hi:Option Int):bj K ρ H (pV us lo hi) (tN vs lo hi):=by unfold pV tN;rw[r.length];exact bj.take _ (bj.drop _ r)
abbrev MO:=Env->af->cL (Option Int)
abbrev RO:_K->Hp->Option Int->Option Int->Prop:=λ_ _ a b=>b=a
abbrev QV(X:Cx)(E:XK)(m:MO):TO:=tG (wo X) E RO m
def je:MO:=λ_ st=>.ok none st
def jf(m:ME):MO:=λμ st=>(m μ st).bind λv az=>match v with
 |.int i=>.ok (some i) az
 |_=>.bad
def FO(lo hi:Option Int):ak->af->cL ak
 |.tup us,st=>if HT.fi us.length 0 lo=0/\HT.fi us.length us.length hi=us.length then .bad else .ok (.tup (pV us lo hi)) st
 |.loc n,st=>match ar st n with
  |some us=>.ok (.loc st.length) (st++[.lst (pV us lo hi)])
  |none=>.bad
 |_,_=>.bad
def Bq(a:ME)(lo hi:MO):ME:=λμ st=>(a μ st).bind λx a7=>(lo μ a7).bind λl dh=>(hi μ dh).bind λh nV=>FO l h x nV
section
variable{e:Expr}{m:ME}
theorem PO.imp{e:Option Expr}{t t':TO}(h:PO X e t)(k:∀σ H Q,t' σ H Q->t σ H Q):PO X e t':=λae s σ H Q I q=>h ae s σ H Q I (k σ H Q q)
theorem Hh:PO X none (QV X E je):=PO.imp Gj λσ H Q⟨μ,ρ,st,rs,sr,h⟩=>h ρ H none (aF.refl _ _) sr rfl
theorem Hi(h:PE X e (tE X E m)):PO X (some e) (QV X E (jf m)):=by
 refine PO.imp (Gk h) ?_;rintro σ H Q ⟨μ,ρ,st,rs,sr,h⟩;refine go μ ρ st rs sr h λu a7 ρ1 H1 x e1 cA r1 h1=>?_;cases u with
 |int i=>exact⟨i,r1.cV,h1 ρ1 H1 (some i) (aF.refl _ _) cA rfl⟩
 |_=>exact h1.elim
theorem O7{lo hi:Option Expr}{ml mh:MO}(he:PE X e (tE X E m))(hl:PO X lo (QV X E ml))(hh:PO X hi (QV X E mh)):PE X (.Subscript e (.Slice lo hi none p2) pos) (tE X E (Bq m ml mh)):=by
 refine PE.imp (CS (Ja.or Gq Ku) he hl hh) ?_;rintro σ H Q ⟨μ,ρ,st,rs,sr,h⟩;refine go μ ρ st rs sr h λu a7 ρ1 H1 x e1 cA r1 h1=>?_;refine go (R1:=RO) μ ρ1 a7 (rs.mono e1) cA h1 λl dh ρ2 H2 l' e2 nN r2 h2=>?_;cases r2;refine go (R1:=RO) μ ρ2 dh ((rs.mono e1).mono e2) nN h2 λk nV ρ3 H3 k' e3 xU r3 h3=>?_;cases r3;have ru:=Rl.mono e3 _ _ (Rl.mono e2 _ _ r1);cases u with
 |tup us=>
  obtain⟨a,vs,rfl,ha,ra⟩:=ru.fN;unfold FO at h3;dsimp only at h3;split at h3
  .exact h3.elim
  .rename_i hz;refine .inr ⟨a,vs,rfl,ha,by rw[<-ra.length];exact hz,λp hp=>?_⟩;have s:=c7 (o:=.tup (tN vs l k)) hp;exact h3 ρ3 _ _ (aF.same s) (xU.grow s) (Rl.lH cg (bj.mono (aF.same s) _ _ (ra.cut l k)))
 |loc n=>
  obtain⟨a,rfl,ha⟩:=ru.dO;cases z:ar nV n with
  |none=>simp only[FO,z]at h3;exact h3.elim
  |some us=>
   simp only[FO,z]at h3;obtain⟨vs,hs,rv⟩:=bh xU z ha;refine .inl ⟨a,vs,rfl,hs,λp hp=>?_⟩;obtain⟨k1,k2,k3⟩:=ie xU (rv.cut l k) hp;exact h3 _ _ _ k1 k2 k3
 |_=>exact h3.elim
end
def O8:FM
 |.loc n,[],st=>match st[n]? with
  |some (.lst us)=>match us[us.length-1]? with
   |some u=>.ok u (st.set n (.lst us.dropLast))
   |none=>.bad
  |_=>.bad
 |_,_,_=>.bad
def QW:FM
 |.loc n,[.loc m],st=>match st[n]?,st[m]? with
  |some (.lst us),some (.lst ws)=>if us.length+ws.length<=sizeLine then .ok .c6 (st.set n (.lst (us++ws)))else .bad
  |_,_=>.bad
 |_,_,_=>.bad
def SQ:FN
 |[.int i,.int j],st=>.ok (.int (if j>i then j else i)) st
 |_,_=>.bad
def ye:FN
 |[.bl b],st=>.ok (.int (if b then 1 else 0)) st
 |_,_=>.bad
theorem Br:bp X (.type "int") (cM (wo X) E ye):=by
 refine bp.imp Ba ?_;rintro xs H Q ⟨ρ,st,us,sr,r,h⟩;unfold ye at h;split at h
 .rename_i b;obtain⟨v,rfl,r1⟩:=r.sj;exact⟨b,by rw[r1.pJ],c! sr h⟩
 .exact h.elim
section
variable{o e:Expr}{mo:ME}{ms:MA}
theorem Bs(ho:PE X o (tE X E mo))(ha:PA X (e::es) (tL X E ms))(lq:attributeBase o "append" X.env (eval o X.env)=eval o X.env:=by rfl)
  (t4:((backTo bM (starEach (e::es) X.env)).all (λx => !x.1)&&(backToKw bM (keywordEach [] X.env)).all (λx=>x.1.isSome)
   && decide ((e::es).length+([]:List Keyword).length+(if([]:List Keyword).isEmpty then 0 else 1)<30))=true:=by rfl)
  (lC:(apos.endLine==bM.line)=true:=by rfl) (hs:starEach (e::es) X.env=(false,eval e X.env)::starEach es X.env:=by rfl) (iT:(backTo bM (starEach es X.env)).any (·.1)=false:=by rfl):
  PE X (.Call (.Attribute o "append" apos) (e::es) [] bM) (tE X E (g6 de mo ms)):=x! PySem.F.slot_list_append PySem.F.type_list_append x_ ho ha lq t4 lC hs iT
end
theorem O9{cl':List (Str×_O)}{caps':List Nat}(jv:closureFor scope X.env=pure cl')(A:fB X scope cl caps)(B:fB X scope cl' caps')(has:((relabel scope X.env).names.all λp => !(p.2 == .cell || p.2 == .free) || (cl'.map (·.1)).contains p.1)=true)(gT:(scope.names.all λp => !(p.2 == .cell))=true)(kind:scope.kind=.function)(names:(scope.names.all λp => !(p.2 == .local) || scope.names.lookup p.1==some .local)=true)(len:N.length=k+caps.length)(hN:N.drop k=cl.map (·.1)):pC X N scope cl' k caps where
 jv:=jv
 sub:=B.sub
 has:=λx h=>by
  have m:x∈cl'.map (·.1):=by rcases h with h|h<;>(have m:=WV h;have z:=Wk.mp has _ m;simpa using z)
  exact fW m
 gT:=λx hx h=>by have z:=Wk.mp gT x hx;simp[h]at z
 kind:=kind
 names:=λx hx h=>by have z:=Wk.mp names x hx;simpa[h]using z
 len:=len
 at_:=λi j x h1 h2=>A.at_ i j x h1 (by rw[<-hN,WH];exact h2)
theorem len0{C:_I->Prop}(h:C [])(us:_I)(hl:us.length=0):C us:=by rw[WB hl];exact h
theorem DT{C:_I->Prop}{n:Nat}(h:∀a(r:_I),r.length=n->C (a::r))(us:_I)(hl:us.length=n+1):C us:=by
 cases us with
 |nil=>cases hl
 |cons a r=>exact h a r (YQ hl)
theorem LZ{C:_I->Prop}(h:∀a,C [a]):∀us:_I,us.length=1->C us:=DT λa=>len0 (C:=λr=>C (a::r)) (h a)
theorem O_{C:_I->Prop}(h:∀a b,C [a,b]):∀us:_I,us.length=2->C us:=DT λa=>LZ (C:=λr=>C (a::r)) (h a)
theorem O!{C:_I->Prop}(h:∀a b c,C [a,b,c]):∀us:_I,us.length=3->C us:=DT λa=>O_ (C:=λr=>C (a::r)) (h a)
theorem SS{C:_I->Prop}(h:∀a b c d,C [a,b,c,d]):∀us:_I,us.length=4->C us:=DT λa=>O! (C:=λr=>C (a::r)) (h a)
theorem O?{C:_I->Prop}(h:∀a b c d e,C [a,b,c,d,e]):∀us:_I,us.length=5->C us:=DT λa=>SS (C:=λr=>C (a::r)) (h a)
end MN
variable {us ws:List MN.ak}
variable {u v:MN.ak}
variable {s' st s1 az s2:MN.af}
variable {K:_G}
variable {body:MN.MB}
variable {mg:Str->Option Value}
variable {m md:MN.ME}
variable {ms:MN.MA}
variable {as:MN.AS}
variable {cell:Int}
variable {x2 x4 x0 x5 x6:Option MN.ak}
variable {nx:Str}
namespace L2
open PySem.Spec PyProof.Rows PySem.W Builtin Builtin.ObjectAttr Builtin.Getset_descriptor PySem.Calls
def uk(K:_G)(C:_O):Bool:=findIn K (.ref C) "__getattribute__" == some (some (.builtin "BaseException.__getattribute__"))&&(findIn K (.ref C) "__getattr__" == some none)&&(findIn K (.ref C) "__class__" == some (some (.builtin "object.__class__"))) &&
 (mroIn K C (.type "object")==some true)&&(mroIn K C (.type "BaseException")==some true)&&(specialIn K (.builtin "object.__class__") "__get__" == some (some (.builtin "getset_descriptor.__get__")))&&(takesIn K (.builtin "object.__class__")==some true)&&(kitCls K (.ref C) (.ref C)==some true)
structure jA(K:_G)(C:_O):Prop where
 ga:findIn K (.ref C) "__getattribute__" = some (some (.builtin "BaseException.__getattribute__"))
 gh:findIn K (.ref C) "__getattr__" = some none
 gc:findIn K (.ref C) "__class__" = some (some (.builtin "object.__class__"))
 mo:mroIn K C (.type "object")=some true
 mb:mroIn K C (.type "BaseException")=some true
 sg:specialIn K (.builtin "object.__class__") "__get__" = some (some (.builtin "getset_descriptor.__get__"))
 tk:takesIn K (.builtin "object.__class__")=some true
 kc:kitCls K (.ref C) (.ref C)=some true
theorem Bt(h:uk K C=true):jA K C:=by unfold uk at h;simp only[Wt]at h;obtain⟨⟨⟨⟨⟨⟨⟨a,b⟩,c⟩,d⟩,e⟩,f⟩,g⟩,i⟩:=h;exact⟨WC.mp a,WC.mp b,WC.mp c,WC.mp d,WC.mp e,WC.mp f,WC.mp g,WC.mp i⟩
section
variable{E:_D}{s:_N}{x:_O}{ox:Obj}{R:Result->_N->Prop}
theorem zZ{M:Model}{h:Heap}(hx:h.get? x=some ox)(hc:ox.cls=.ref C):Looks M h (typeOf (.ref x)) (.ref C):=hc▸(Looks.ld hx).andThen .now
theorem yf{tp:_M}(X:K.In s.heap)(hx:s.heap.get? x=some ox)(hc:ox.cls=.ref C)(hm:mroIn K C (.type "object")=some true)(h:R (.ok (.ret (.ref C))) s):codeAny (model prog w) A (.call (.builtin "getset_descriptor.__get__") ⟨[.builtin "object.__class__",.ref x,tp],[]⟩) R s:=by
 obtain⟨hh,g,dr,t,os⟩:=s;have L0:=zZ (M:=model prog w) hx hc;have L1:=looks_mroIn (M:=model prog w) X hm;refine YN KF.slot_gs.plain KF.entry_gs (KF.slot_gs.check _ _ _ _ _ _ _ _ KF.type_class (KF.args_gs _ _ _) ?_);unfold Builtin.«getset_descriptor.__get__» descrGet;rw[dga_obj];refine Vp (Vr ?_);unfold descrGetter descrCheckInstance descrNameAndClass isInstance;simp only[KF.owner_class]
 repeat lk
 refine⟨Code.quiet_builtin _ (by decide +kernel),WQ KF.entry_class ?_⟩;unfold Builtin.«object.__class__» shownTypeOf
 repeat lk
 exact h
theorem vU{M:Model}{h:Heap}(X:K.In h)(q:jA K C):Looks M h (find (.ref x) (.ref C) "__class__") (.bind (.builtin "getset_descriptor.__get__") (.builtin "object.__class__")):=by have L1:=looks_findIn (M:=M) X q.gc;have L2:Looks M h (getOf (some (.builtin "object.__class__"))) (some (.builtin "getset_descriptor.__get__")):=looks_specialIn X q.sg;have L3:=looks_takesIn (M:=M) X q.tk;refine L1.andThen (L2.andThen ?_);exact(show Looks M h (dataDescriptor? (some (.builtin "object.__class__")) (some (.builtin "getset_descriptor.__get__"))) (some (.builtin "getset_descriptor.__get__",.builtin "object.__class__"))from L3.andThen .now).andThen (Looks.tag .now)
theorem vV{tk:Tok}(X:K.In s.heap)(hx:s.heap.get? x=some ox)(hc:ox.cls=.ref C)(q:jA K C)(h:R (.ok (.ret (.ref C))) s):
  codeAny (model prog w) A (.call (.builtin "BaseException.__getattribute__") ⟨[.ref x,.str "__class__" tk],[]⟩) R s:=by
 obtain⟨hh,g,dr,t,os⟩:=s;have L0:=zZ (M:=model prog w) hx hc;have L1:=looks_mroIn (M:=model prog w) X q.mb;have L2:=vU (M:=model prog w) (x:=x) X q;refine YN Y_.ga.plain PySem.F.entry_bexc_ga ?_;have hk:builtinKind "BaseException.__getattribute__" = some .slot:=by decide +kernel
 have L4:splitId "BaseException.__getattribute__" = some ("BaseException","__getattribute__"):=by decide +kernel
 have ha:=PySem.F.args_bexc_ga (.ref x) (.str "__class__" tk);simp only[checkBuiltinCall,hk,L4];refine Vp ?_;unfold isInstance;refine Vp (L0.at (L1.at ?_));simp only[We,V5,WI];unfold argsOk at ha;generalize Manifest.signature? "BaseException.__getattribute__" = sg at ha⊢;cases sg
 all_goals (try (dsimp only at ha⊢;rw[ha]))
 all_goals refine Vr ?_
 all_goals unfold Builtin.«object.__getattribute__»
 all_goals (refine Vp (Vr ?_))
 all_goals (refine Vp (Vr ?_))
 all_goals (refine Vp (L0.at (Vp (L2.at ?_))))
 all_goals (unfold bindTo)
 all_goals (dsimp only)
 all_goals (refine Vp (Wj ?_))
 all_goals (refine Yy (yf X hx hc q.mo ?_))
 all_goals (exact Vr h)
theorem Bu{tk:Tok}(X:K.In s.heap)(hx:s.heap.get? x=some ox)(hc:ox.cls=.ref C)(q:jA K C)(h:Q (.ref C) s):wpAny (model prog w) A (getAttrBy (.ref x) (.str "__class__" tk) false) Q E s:=by
 obtain⟨hh,g,dr,t,os⟩:=s;have L0:=zZ (M:=model prog w) hx hc;have L1:=looks_findIn (M:=model prog w) X q.ga;have L2:=looks_findIn (M:=model prog w) X q.gh;unfold getAttrBy;refine Wj (Vp (L0.at (Vp (L1.at ?_))));have hx2:(Value.builtin "BaseException.__getattribute__" == Value.builtin "object.__getattribute__")=false:=by decide +kernel
 have O':(onTheHeap (Value.ref C)&&Value.builtin "BaseException.__getattribute__" == Value.builtin "object.__getattribute__")=false:=by rw[hx2];rfl
 dsimp only;rw[VL (by rw[O'];decide)];unfold getAttrByItsOwn;refine Vp ?_;have L3:Looks (model prog w) hh (hookBefore (.ref C)) none:=looks_hook X (by rw[VA (by rfl)];exact q.gh);refine L3.at (Vp (Xv (Wj ?_)));unfold callGetattribute;rw[VL (by simp)];unfold boundAndCalled;rw[Y_.ga.bind (.ref x)];refine Vp (Vr ?_);refine Yy (vV X hx hc q ?_);exact handed_on rfl h
theorem vW{Q:_J->_N->Prop}(X:K.In s.heap)(hx:s.heap.get? x=some ox)(hc:ox.cls=.ref C)(q:jA K C)(h:Q (some (.ref C)) {s with toks:=s.toks+1}):wpAny (model prog w) A (getAttr? (.ref x) "__class__") Q E s:=by unfold getAttr? getAttrBy?;refine Vp (wpAny_mkText (Vp (Xv (Bu X hx hc q ?_))));exact Vr h
end
theorem DU{x:_O}{ox:Obj}(hc:ox.cls=.ref C)(q:jA K C):KitX K (.ref x) (.ref C) (λh=>h.get? x=some ox) where
 ty:=λ_ _ _ hx=>zZ hx hc
 it:=λM h X _=>(kit_cls (M:=M) X q.kc).2.1
 ne:=λh tp dd aI n sl X e=>Bool.eq_false_iff.mpr λz=>by
  have z:=WC.mp z;cases z;have kc:=q.kc;unfold kitCls at kc;dsimp only at kc;split at kc
  .rename_i z;rw[Wt]at z;have z0:=z.1;unfold clsIn at z0;split at z0
   .rename_i c' d' cd' IX ho;rw[X _ _ ho]at e;cases e
   .cases z0
  .cases kc
 ca:=λX hx k=>vW X hx hc q k
end L2
variable {mb mo:MN.ME}
namespace MN
open PySem.Spec L2
open PyProof.Rows hiding St
inductive rf(K:_G)(mg:_E):_L->Prop
 |nil:rf K mg []
 |cons {x:Str} {C:_O} {r:_L} (hm:mg x=some (.ref C)) (hq:uk K C=true) (hr:rf K mg r):rf K mg (x::r)
theorem rf.at_{c:Str}:∀{qs:_L},rf K mg qs->qs.contains c=true->∃C,mg c=some (.ref C)/\jA K C
 |_,.nil,h=>by simp at h
 |_,.cons (x:=x) hm hq hr,h=>by
  by_cases e:c=x
  .subst e;exact⟨_,hm,Bt hq⟩
  .exact hr.at_ (by simpa[e]using h)
def Pa:cL ak->cL ak
 |.ok v st=>.ok v st
 |_=>.bad
structure DV where
 S:nZ
 own:Str
 line:Nat
 col:Nat
end MN
namespace PM
open PySem.Spec L2 MN
open PyProof.Rows hiding St
def fC:ak:=.mt ([2,3,5,7,11,13,17,19,23,29,31].map ak.int)
def jB:FN:=gf 1 1 (aK (q9 (vP "int" aE) (Li (vP "bool" aE))))
def cm:FN:=gf 1 1 (aA (fL (ck (ag (LB false) aE (mC PM.fC))) (aK (mC (.bl true))) bz) (aA (fL (eV (ck (ag ltV aE so)) (ck (ag GX aE (mC (.int 997))))) (aK (mC (.bl false))) bz) (aK (ai pO (aa (aO 1 [0] (bQ (mC PM.fC)) (aq 0) aw (ag gC (ag dE aW aE) bI)) aj)))))
def bV:FN:=gf 2 2 (aK (OT (ck (ag gB aE bI)) aW (ag dE aW aE)))
def jQ:FN:=gf 1 1 (aK (q9 (ai PM.jB (aa aE aj)) (QO (ag gB aE bI) (ai PM.cm (aa aE aj)))))
def eY:FN:=gf 1 1 (fL (cH (ck (ai PM.jQ (aa aE aj)))) (mQ "NoRing" (aa (qs "a ring is 0 or a prime from 2 to 997") aj)) bz)
def fg:FN:=gf 1 1 (aK (q9 (vP "int" aE) (Li (vP "bool" aE))))
end PM
namespace MN
open PySem.Spec L2
open PyProof.Rows hiding St
theorem dB{g:af->Prop}{a:AS}{body:MB}(P:Nat->Env->af->Prop):∀(us:List ak)(k:Nat)(μ:Env)(st:af),
  (∀(i:Nat)(u:ak)(μ:Env)(st:af),us[i]?=some u->P (k+i) μ st->g st/\∃μ1,a u μ=some μ1/\∃μ' az,(body μ1 st=.nx μ' az\/body μ1 st=.ct μ' az)/\P (k+i+1) μ' az) ->
  (∀μ st,P (k+us.length) μ st->g st)->P k μ st->∃μ' az,forL g a body us μ st=.nx μ' az/\P (k+us.length) μ' az
 |[],k,μ,st,_,he,h=>by refine⟨μ,st,?_,h⟩;unfold forL;rw[VA (he μ st h)]
 |u::us,k,μ,st,hs,he,h=>by
  obtain⟨hg,μ1,ha,μ',az,hb,hP⟩:=hs 0 u μ st rfl h;have ih:=dB (a:=a) (body:=body) P us (k+1) μ' az (λi v μ2 dh hv hp=>by
   have:=hs (i+1) v μ2 dh hv (by rw[show k+(i+1)=k+1+i by lia];exact hp);rw[show k+(i+1)+1=k+1+i+1 by lia]at this;exact this) (λμ2 dh hp=>he μ2 dh (by rw[Vt,show k+(us.length+1)=k+1+us.length by lia];exact hp)) hP
  obtain⟨μ2,dh,e2,p2⟩:=ih;refine⟨μ2,dh,?_,by rw[Vt,show k+(us.length+1)=k+1+us.length by lia];exact p2⟩;unfold forL;rw[VA hg,ha];rcases hb with hb|hb<;>(dsimp only;rw[hb];exact e2)
theorem cB{g:af->Prop}{a:AS}{c:MT}{e:ME}{st:af}(hg:g st)(I:Env->Prop)(p:ak->Bool)(f:ak->ak):∀(us:List ak)(τ:Env)(ys:List ak),I τ ->
  (∀u∈us,∀τ,I τ->∃τ1,a u τ=some τ1/\I τ1/\c τ1 st=.ok (p u) st/\(p u=true->e τ1 st=.ok (f u) st))->bN g a c e us τ st ys=.ok (ys++(us.filter p).map f) st
 |[],τ,ys,_,_=>by unfold bN;rw[VA hg];simp
 |u::us,τ,ys,hI,hs=>by
  obtain⟨τ1,h1,h2,h3,h4⟩:=hs u Vu τ hI;have QX:=λv hv=>hs v (VJ u hv);unfold bN;rw[VA hg,h1];dsimp only;rw[h3];cases z:p u with
  |true=>
   dsimp only;rw[h4 z];dsimp only;rw[cB hg I p f us τ1 _ h2 QX,Wx z];simp
  |false=>
   dsimp only;rw[cB hg I p f us τ1 _ h2 QX,Wy (by rw[z];simp)]
theorem bS(st:af)(us:List ak):ar (st++[.lst us]) st.length=some us:=by unfold ar;rw[VN (Vy _),WJ];rfl
theorem cn{n:Nat}(h:ar st n=some us)(more:af):ar (st++more) n=some us:=by
 have hn:n<st.length:=by
  rcases WS n st.length with q|q
  .exact q
  .unfold ar at h;rw[V' q]at h;cases h
 unfold ar at h⊢;rw[V4 hn];exact h
theorem pW{t:MT}{body:MB}(P:Env->af->Prop)(M:Env->af->Nat)(Q:Env->af->Prop)(hs:∀μ st,P μ st->(∃a7,t μ st=.ok false a7/\Q μ a7)\/∃a7 μ' az,t μ st=.ok true a7/\(body μ a7=.nx μ' az\/body μ a7=.ct μ' az)/\P μ' az/\M μ' az<M μ st):
  ∀(n:Nat)(μ:Env)(st:af),M μ st<n->P μ st->∃μ' az,dR t body n μ st=some (.nx μ' az)/\Q μ' az
 |0,μ,st,h,_=>absurd h (_z _)
 |n+1,μ,st,h,hp=>by
  unfold dR;rcases hs μ st hp with⟨a7,e,q⟩|⟨a7,μ',az,e,hb,p',lt⟩
  .rw[e];exact⟨μ,a7,rfl,q⟩
  .rw[e];dsimp only;obtain⟨μ2,dh,e2,q2⟩:=pW P M Q hs n μ' az ⋯ p';rcases hb with hb|hb<;>(rw[hb];exact⟨μ2,dh,e2,q2⟩)
theorem kH{t:MT}(P:Env->af->Prop)(M:Env->af->Nat)(Q:Env->af->Prop)(hs:∀μ st,P μ st->(∃a7,t μ st=.ok false a7/\Q μ a7)\/∃a7 μ' az,t μ st=.ok true a7/\(body μ a7=.nx μ' az\/body μ a7=.ct μ' az)/\P μ' az/\M μ' az<M μ st)(μ:Env)(st:af)(hp:P μ st):∃μ' az,fA t body μ st=.nx μ' az/\Q μ' az:=by obtain⟨μ',az,e,q⟩:=pW P M Q hs (M μ st+1) μ st (Xd _) hp;exact⟨μ',az,mR e,q⟩
def cL.f9(r:cL α)(k:α->af->cL β):cL β:=match r with
 |.ok a st=>k a st
 |.err c st=>.err c st
 |.bad=>.bad
def cL.FQ(r:cL α)(μ:Env)(k:α->af->dI):dI:=match r with
 |.ok a st=>k a st
 |.err c st=>.er c μ st
 |.bad=>.bad
def dI.dA(r:dI)(k:MB):dI:=match r with
 |.nx μ st=>k μ st
 |.rt v st=>.rt v st
 |.bk μ st=>.bk μ st
 |.ct μ st=>.ct μ st
 |.er c μ st=>.er c μ st
 |.bad=>.bad
def dI.fin(r:dI):cL ak:=match r with
 |.nx _ az=>.ok .c6 az
 |.rt v az=>.ok v az
 |.er c _ az=>.err c az
 |_=>.bad
section
variable{μ:Env}
theorem ao{a:α}{k:α->af->cL β}:(cL.ok a st).f9 k=k a st:=rfl
theorem ay{a:α}{k:α->af->dI}:(cL.ok a st).FQ μ k=k a st:=rfl
theorem Hj{c:Str}{k:α->af->dI}:(cL.err c st:cL α).FQ μ k=.er c μ st:=rfl
theorem aB{k:MB}:(dI.nx μ st).dA k=k μ st:=rfl
theorem g7{k:MB}:(dI.rt v st).dA k=.rt v st:=rfl
theorem DW{c:Str}{k:MB}:(dI.er c μ st).dA k=.er c μ st:=rfl
theorem L5:(dI.nx μ st).fin=.ok .c6 st:=rfl
theorem bR:(dI.rt v st).fin=.ok v st:=rfl
theorem DX{c:Str}:(dI.er c μ st).fin=.err c st:=rfl
theorem lO{r:cL α}{k:α->af->cL β}:r.bind k=r.f9 k:=by cases r<;>rfl
variable{a b c:ME}{f g:F2}{t u:MT}{s1 s2:MB}
theorem cC{r:cL α}{k k':α->af->cL β}(h:∀a st,k a st=k' a st):r.bind k=r.f9 k':=by cases r<;>first|exact h _ _|rfl
theorem mU{r:cL α}{k k':α->af->dI}(h:∀a st,k a st=k' a st):r.sb μ k=r.FQ μ k':=by cases r<;>first|exact h _ _|rfl
def vX(f:F2)(x:ak):ak->af->cL ak:=λy st=>f x y st
def Pb(f:F2)(b:ME)(μ:Env):ak->af->cL ak:=λx st=>(b μ st).f9 (vX f x)
theorem aL:ag f a b μ st=(a μ st).f9 (Pb f b μ):=cC λ_ _=>cC λ_ _=>rfl
theorem a9{x:ak}:Pb f b μ x st=(b μ st).f9 (vX f x):=rfl
theorem aJ{x y:ak}:vX f x y st=f x y st:=rfl
theorem cN:mC v μ st=.ok v st:=rfl
def U3:ak->af->cL Bool
 |.bl b,st=>.ok b st
 |_,_=>.bad
theorem a!{b:Bool}:U3 (.bl b) st=.ok b st:=rfl
theorem aY:ck a μ st=(a μ st).f9 U3:=cC λx _=>by cases x<;>rfl
def Pc(b:ME)(μ:Env):ak->af->cL ak
 |.bl true,st=>b μ st
 |.bl false,st=>.ok (.bl false) st
 |_,_=>.bad
theorem mV:q9 a b μ st=(a μ st).f9 (Pc b μ):=cC λx _=>by
 cases x<;>try rfl
 rename_i k;cases k<;>rfl
theorem jR:Pc b μ (.bl true) st=b μ st:=rfl
def SU(b:ME)(μ:Env):ak->af->cL ak
 |.bl true,st=>.ok (.bl true) st
 |.bl false,st=>b μ st
 |_,_=>.bad
theorem Jm:QO a b μ st=(a μ st).f9 (SU b μ):=cC λx _=>by
 cases x<;>try rfl
 rename_i k;cases k<;>rfl
theorem L6:SU b μ (.bl true) st=.ok (.bl true) st:=rfl
theorem L7:SU b μ (.bl false) st=b μ st:=rfl
def DY(u:MT)(μ:Env):Bool->af->cL Bool
 |true,st=>u μ st
 |false,st=>.ok false st
theorem jS:pK t u μ st=(t μ st).f9 (DY u μ):=cC λx _=>by cases x<;>rfl
theorem lP:DY u μ true st=u μ st:=rfl
theorem vY:DY u μ false st=.ok false st:=rfl
def L8(u:MT)(μ:Env):Bool->af->cL Bool
 |true,st=>.ok true st
 |false,st=>u μ st
theorem dS:eV t u μ st=(t μ st).f9 (L8 u μ):=cC λx _=>by cases x<;>rfl
theorem oS:L8 u μ true st=.ok true st:=rfl
theorem eU:L8 u μ false st=u μ st:=rfl
def Jn:Bool->af->cL Bool:=λk st=>.ok (!k) st
theorem fX:cH t μ st=(t μ st).f9 Jn:=cC λ_ _=>rfl
theorem jC{k:Bool}:Jn k st=.ok (!k) st:=rfl
def L9(a b:ME)(μ:Env):Bool->af->cL ak
 |true,st=>a μ st
 |false,st=>b μ st
theorem z7:OT t a b μ st=(t μ st).f9 (L9 a b μ):=cC λx _=>by cases x<;>rfl
theorem z8:L9 a b μ true st=a μ st:=rfl
theorem z9:L9 a b μ false st=b μ st:=rfl
def Hk(g:F2)(c:ME)(μ:Env)(y:ak):ak->af->cL ak
 |.bl true,st=>(c μ st).f9 (vX g y)
 |.bl false,st=>.ok (.bl false) st
 |_,_=>.bad
def L_(f g:F2)(c:ME)(μ:Env)(x:ak):ak->af->cL ak:=λy st=>(f x y st).f9 (Hk g c μ y)
def U4(f g:F2)(b c:ME)(μ:Env):ak->af->cL ak:=λx st=>(b μ st).f9 (L_ f g c μ x)
theorem vZ:ua f g a b c μ st=(a μ st).f9 (U4 f g b c μ):=cC λ_ _=>cC λ_ _=>cC λz _=>by
 cases z<;>try rfl
 rename_i k;cases k
 .rfl
 .exact cC λ_ _=>rfl
theorem Pd{x:ak}:U4 f g b c μ x st=(b μ st).f9 (L_ f g c μ x):=rfl
theorem Jo{x y:ak}:L_ f g c μ x y st=(f x y st).f9 (Hk g c μ y):=rfl
theorem Hl{y:ak}:Hk g c μ y (.bl true) st=(c μ st).f9 (vX g y):=rfl
theorem Hm{y:ak}:Hk g c μ y (.bl false) st=.ok (.bl false) st:=rfl
theorem aS:aj μ st=.ok [] st:=rfl
def yg(x:ak):List ak->af->cL (List ak):=λxs st=>.ok (x::xs) st
def Jp(ms:MA)(μ:Env):ak->af->cL (List ak):=λx st=>(ms μ st).f9 (yg x)
theorem aG:aa a ms μ st=(a μ st).f9 (Jp ms μ):=cC λ_ _=>cC λ_ _=>rfl
theorem aT{x:ak}:Jp ms μ x st=(ms μ st).f9 (yg x):=rfl
theorem aH{x:ak}{xs:List ak}:yg x xs st=.ok (x::xs) st:=rfl
def Pe:List ak->af->cL ak:=λxs st=>if xs.length<=sizeLine then .ok (.tup xs) st else .bad
theorem fO:cQ ms μ st=(ms μ st).f9 Pe:=cC λ_ _=>rfl
theorem jg{xs:List ak}:Pe xs st=if xs.length<=sizeLine then .ok (.tup xs) st else .bad:=rfl
def Pf:List ak->af->cL ak:=λxs st=>if xs.length<=sizeLine then .ok (.loc st.length) (st++[.lst xs])else .bad
theorem gi:df ms μ st=(ms μ st).f9 Pf:=cC λ_ _=>rfl
theorem jh{xs:List ak}:Pf xs st=if xs.length<=sizeLine then .ok (.loc st.length) (st++[.lst xs])else .bad:=rfl
theorem aP{h:FN}:ai h ms μ st=(ms μ st).f9 h:=cC λ_ _=>rfl
def aae:ak->af->cL ak
 |.int i,st=>.ok (.int (-i)) st
 |_,_=>.bad
def Ho(T:String)(v:ak)(st:af):cL ak:=match O0 T st v with
 |some b=>.ok (.bl b) st
 |none=>.bad
theorem DZ{T:String}:vP T a μ st=(a μ st).f9 (Ho T):=cC λ_ _=>rfl
theorem ax:aA s1 s2 μ st=(s1 μ st).dA s2:=by unfold aA;cases s1 μ st<;>rfl
theorem cw:bz μ st=.nx μ st:=rfl
def Jq(μ:Env):ak->af->dI:=λ_ st=>.nx μ st
theorem ig:dy a μ st=(a μ st).FQ μ (Jq μ):=mU λ_ _=>rfl
theorem L!:Jq μ v st=.nx μ st:=rfl
def Pg:ak->af->dI:=λv st=>.rt v st
theorem aQ:aK a μ st=(a μ st).FQ μ Pg:=mU λ_ _=>rfl
theorem cO:Pg v st=.rt v st:=rfl
def SV(s1 s2:MB)(μ:Env):Bool->af->dI
 |true,st=>s1 μ st
 |false,st=>s2 μ st
theorem bA:fL t s1 s2 μ st=(t μ st).FQ μ (SV s1 s2 μ):=mU λx _=>by cases x<;>rfl
theorem dU:SV s1 s2 μ true st=s1 μ st:=rfl
theorem cE:SV s1 s2 μ false st=s2 μ st:=rfl
def Ph(i:Nat)(μ:Env):ak->af->dI:=λv st=>.nx (μ.set i (some v)) st
theorem cG:aN i a μ st=(a μ st).FQ μ (Ph i μ):=mU λ_ _=>rfl
theorem d?:Ph i μ v st=.nx (μ.set i (some v)) st:=rfl
def D0(x:Str)(μ:Env):List ak->af->dI:=λvs st=>if vs.length<=sizeLine then .er x μ st else .bad
theorem D2:mQ x ms μ st=(ms μ st).FQ μ (D0 x μ):=mU λ_ _=>rfl
theorem Hq{vs:List ak}:D0 x μ vs st=if vs.length<=sizeLine then .er x μ st else .bad:=rfl
def kFor(as:AS)(s1:MB)(μ:Env):Itm->af->dI:=λp st=>forL p.2 as s1 p.1 μ st
theorem fP{it:MI}:d5 it as s1 μ st=(it μ st).FQ μ (kFor as s1 μ):=mU λ_ _=>rfl
theorem iC{q:af->Prop}:kFor as s1 μ (us,q) st=forL q as s1 us μ st:=rfl
def Bv:List ak->af->cL ak:=λys st=>.ok (.loc st.length) (st++[.lst ys])
theorem eQ{ys:List ak}:Bv ys st=.ok (.loc st.length) (st++[.lst ys]):=rfl
def D3(k:Nat)(caps:List Nat)(as:AS)(t:MT)(a:ME)(μ:Env):Itm->af->cL ak:=λp st=>if p.1.length<=sizeLine then(bN p.2 as t a p.1 (fK k caps μ) st []).f9 Bv else .bad
theorem cJ{it:MI}:aO k caps it as t a μ st=(it μ st).f9 (D3 k caps as t a μ):=cC λp a7=>by
 unfold D3;split
 .exact cC λ_ _=>rfl
 .rfl
theorem dn{q:af->Prop}:D3 k caps as t a μ (us,q) st=if us.length<=sizeLine then(bN q as t a us (fK k caps μ) st []).f9 Bv else .bad:=rfl
theorem aZ{np n:Nat}(h:us.length=np):gf np n s1 us st=(s1 (us.map some++List.replicate (n-np) none) st).fin:=by unfold gf;rw[VA h];cases s1 (us.map some++List.replicate (n-np) none) st<;>rfl
theorem bC{x:Option ak}{μ:Env}:ir (i+1) (x::μ) st=ir i μ st:=rfl
theorem bJ{μ:Env}:aE (some (.int j)::μ) st=.ok (.int j) st:=rfl
theorem lS{μ:Env}{j:List ak}:aE (some (.tup j)::μ) st=.ok (.tup j) st:=rfl
theorem cX{μ:Env}{j:Nat}:aE (some (.loc j)::μ) st=.ok (.loc j) st:=rfl
def sG(v:ak)(st:af):cL Itm:=match pP st v with
 |some p=>.ok p st
 |none=>.bad
theorem cy:bQ a μ st=(a μ st).f9 sG:=by unfold bQ;rw[lO];rfl
theorem mW:sG (.tup us) st=.ok (us,λ_=>True) st:=rfl
theorem bH{n:Nat}(h:ar st n=some us):sG (.loc n) st=.ok (us,λaz=>ar az n=some us) st:=by simp only[sG,pP,h];rfl
def um(vs:List ak)(az:af):cL Itm:=match vs with
 |[.int j]=>if -(2 ^ 62)<=j/\j<2 ^ 62 then .ok (cu 0 j.toNat,λ_=>True) az else .bad
 |_=>.bad
theorem gH:b_ ms μ st=(ms μ st).f9 um:=by unfold b_;rw[lO];rfl
theorem iY(h1:-(2 ^ 62)<=j)(h2:j<2 ^ 62):um [.int j] st=.ok (cu 0 j.toNat,λ_=>True) st:=by unfold um;dsimp only;rw[VA ⟨h1,h2⟩]
def D4(b1 b2:Bool)(vs:List ak)(az:af):cL Itm:=match vs with
 |[u,w]=>match iu az u,iu az w with
  |some (c1,us,g1),some (c2,ws,g2)=>if c1=b1/\c2=b2 then .ok (jn us ws,λdh=>g1 dh/\g2 dh) az else .bad
  |_,_=>.bad
 |_=>.bad
theorem yh:gD b1 b2 ms μ st=(ms μ st).f9 (D4 b1 b2):=by unfold gD;rw[lO];rfl
theorem uo:D4 false false [.tup us,.tup ws] st=.ok (jn us ws,λ_=>True/\True) st:=rfl
theorem iZ{n:Nat}(h1:ar st n=some us):gY [.loc n] st=.ok (.tup us) st:=by unfold gY;dsimp only;rw[h1]
theorem iy{i:Int}:cq (.int i) (.int j) st=.ok (.int (i+j)) st:=rfl
theorem yi{i:Int}:q_ (.int i) (.int j) st=.ok (.int (i-j)) st:=rfl
theorem pX{i:Int}(h:MulOk i j):dg (.int i) (.int j) st=.ok (.int (i*j)) st:=by unfold dg;dsimp only;rw[VA h]
theorem jD{i:Int}(h1:-(2 ^ 64)<i)(h2:i<2 ^ 64):dg (.int i) (.int j) st=.ok (.int (i*j)) st:=pX (.inr (.inl ⟨h1,h2⟩))
theorem mul_r{i:Int}(h1:-(2 ^ 64)<j)(h2:j<2 ^ 64):dg (.int i) (.int j) st=.ok (.int (i*j)) st:=pX (.inr (.inr ⟨h1,h2⟩))
theorem div_ii{i:Int}(h:Dz j):eO (.int i) (.int j) st=.ok (.int (i.fdiv j)) st:=VA h
theorem c8{i:Int}(h:¬ j=0):dE (.int i) (.int j) st=.ok (.int (i.fmod j)) st:=VL h
theorem D5{i:Int}(h:AN i j):uc (.int i) (.int j) st=.ok (.int (i ^ j.toNat)) st:=VA h
theorem pY{i:Int}:ltV (.int i) (.int j) st=.ok (.bl (decide (i<j))) st:=rfl
theorem Jr{i:Int}:Jk (.int i) (.int j) st=.ok (.bl (decide (i<=j))) st:=rfl
theorem v8{i:Int}:GX (.int i) (.int j) st=.ok (.bl (decide (j<i))) st:=rfl
theorem fh{i:Int}:gB (.int i) (.int j) st=.ok (.bl (i==j)) st:=rfl
theorem iD{i:Int}:gC (.int i) (.int j) st=.ok (.bl (!(i==j))) st:=rfl
theorem bE{i:Int}{v:ak}(h:L2.mI us i=some v):aU (.tup us) (.int i) st=.ok v st:=by unfold aU;dsimp only;rw[h]
theorem eZ{n:Nat}{i:Int}{v:ak}(h1:ar st n=some us)(h:L2.mI us i=some v):aU (.loc n) (.int i) st=.ok v st:=by unfold aU;dsimp only;rw[h1];dsimp only;rw[h]
theorem d6{n:Nat}(h1:ar st n=some us):cZ [.loc n] st=.ok (.int us.length) st:=by unfold cZ;dsimp only;rw[h1]
theorem Hr:cZ [.tup us] st=.ok (.int us.length) st:=rfl
theorem z_{i:Int}:lK [.int i] st=.ok (.int (if i<0 then -i else i)) st:=rfl
theorem z!{n m:Nat}(h1:ar st n=some us)(h2:ar st m=some []):iB 16 st (.loc n) (.loc m)=some us.isEmpty:=by unfold iB;simp only[vw,h1,h2];show gg _ us []=_;cases us<;>rfl
theorem eq_nil{n m:Nat}(h1:ar st n=some us)(h2:ar st m=some []):gB (.loc n) (.loc m) st=.ok (.bl us.isEmpty) st:=by unfold gB;rw[z! h1 h2]
theorem ne_nil{n m:Nat}(h1:ar st n=some us)(h2:ar st m=some []):gC (.loc n) (.loc m) st=.ok (.bl (!us.isEmpty)) st:=by unfold gC;rw[z! h1 h2]
end
open PyProof.Rows hiding St kindOf
section
variable{μ:Env}{a b c o:ME}{f:F2}{g:FM}{w:ak}{n m:Nat}
def L?(x:ak)(l:Option Int):Option Int->af->cL ak:=λh st=>FO l h x st
def Ma(hi:MO)(μ:Env)(x:ak):Option Int->af->cL ak:=λl st=>(hi μ st).f9 (L? x l)
def U5(lo hi:MO)(μ:Env):ak->af->cL ak:=λx st=>(lo μ st).f9 (Ma hi μ x)
theorem Js{lo hi:MO}:Bq a lo hi μ st=(a μ st).f9 (U5 lo hi μ):=cC λx a7=>cC λl dh=>cC λh nV=>rfl
theorem Pj{lo hi:MO}:U5 lo hi μ v st=(lo μ st).f9 (Ma hi μ v):=rfl
theorem Jt{hi:MO}{l:Option Int}:Ma hi μ v l st=(hi μ st).f9 (L? v l):=rfl
theorem Ju{l h:Option Int}:L? v l h st=FO l h v st:=rfl
theorem v9:je μ st=.ok none st:=rfl
def kO:ak->af->cL (Option Int)
 |.int i,st=>.ok (some i) st
 |_,_=>.bad
theorem v_:jf a μ st=(a μ st).f9 kO:=cC λx _=>by cases x<;>rfl
theorem Pk:kO (.int j) st=.ok (some j) st:=rfl
theorem D6{l h:Option Int}(e:ar st n=some us):FO l h (.loc n) st=.ok (.loc st.length) (st++[.lst (pV us l h)]):=by simp only[FO,e]
def Mb(g:FM)(x:ak):List ak->af->cL ak:=λxs st=>g x xs st
def Hs(g:FM)(ms:MA)(μ:Env):ak->af->cL ak:=λx st=>if vQ st x=true then(ms μ st).f9 (Mb g x)else .bad
theorem mX:g6 g o ms μ st=(o μ st).f9 (Hs g ms μ):=cC λx a7=>by
 unfold Hs;split
 .exact cC λ_ _=>rfl
 .rfl
theorem sH(h:st[n]?=some (.lst us)):Hs g ms μ (.loc n) st=(ms μ st).f9 (Mb g (.loc n)):=by unfold Hs;rw[VA (by unfold vQ;dsimp only;rw[h])]
theorem z?{xs:List ak}:Mb g v xs st=g v xs st:=rfl
theorem jT(h:st[n]?=some (.lst us))(hl:us.length<sizeLine):de (.loc n) [v] st=.ok .c6 (st.set n (.lst (us++[v]))):=by simp only[de,h];rw[VA hl]
theorem D7(h:st[n]?=some (.lst (us++[v]))):O8 (.loc n) [] st=.ok v (st.set n (.lst us)):=by
 simp only[O8,h];have e:(us++[v])[(us++[v]).length-1]?=some v:=by rw[VC,XC,Nat.add_sub_cancel,VN (Vy _),WJ];rfl
 rw[e,List.dropLast_concat]
theorem Jv{x:Bool}:ye [.bl x] st=.ok (.int (if x then 1 else 0)) st:=rfl
theorem i_(e:ar st n=some us):fw [.loc n] st=.ok (.loc st.length) (st++[.lst us]):=by simp only[fw,e]
theorem pZ(h1:st[n]?=some (.lst us))(h2:st[m]?=some (.lst ws))(hl:us.length+ws.length<=sizeLine):cq (.loc n) (.loc m) st=.ok (.loc st.length) (st++[.lst (us++ws)]):=by simp only[cq,h1,h2];rw[VA hl]
theorem Pl(h:st[n]?=some (.lst us)):ar st n=some us:=by unfold ar;rw[h]
theorem fD(st:af)(us:List ak):(st++[bx.lst us])[st.length]?=some (.lst us):=by rw[VN (Vy _),WJ];rfl
theorem Ht{k k':bx}(h:st[n]?=some k):(st.set n k')[n]?=some k':=Ws (aX h)
theorem Jw{k k':bx}(h:st[n]?=some k)(hn:m≠n):(st.set m k')[n]?=some k:=by rw[WA hn];exact h
theorem is_list(h:st[n]?=some (.lst us)):Ho "list" (.loc n) st=.ok (.bl true) st:=by unfold Ho O0 kindOf;dsimp only;rw[h];rfl
theorem v!:Ho "tuple" (.tup us) st=.ok (.bl true) st:=rfl
theorem D8(st:af)(k k':bx):(st++[k]).set st.length k'=st++[k']:=by rw[YT _ _ (Vy _),WJ];rfl
theorem uq(st:af)(k k':bx)(g:af):(st++k::g).set st.length k'=st++k'::g:=by rw[YT _ _ (Vy _),WJ];rfl
theorem Mc(st:af)(k:bx)(g:af):(st++k::g)[st.length]?=some k:=by rw[VN (Vy _),WJ];rfl
end
mutual
def v?:Nat->ak->Bool
 |_,.c6=>true
 |_,.bl _=>true
 |_,.int _=>true
 |_,.str _=>true
 |0,.tup _=>false
 |n+1,.tup us=>e_ n us
 |_,_=>false
def e_:Nat->List ak->Bool
 |_,[]=>true
 |n,u::us=>v? n u&&e_ n us
end
mutual
theorem D9(st:af):∀(n:Nat)(v:ak),v? n v=true->iB (n+1) st v v=some true
 |_,.c6,_=>rfl
 |_,.bl b,_=>by show some (b==b)=_;rw[WY]
 |_,.int i,_=>by show some (i==i)=_;rw[WY]
 |_,.str x,_=>by show some (x==x)=_;rw[WY]
 |0,.tup _,h=>by cases h
 |n+1,.tup us,h=>by show gg (iB (n+1) st) us us=some true;exact iE st n us h
 |n,.loc _,h=>by cases n<;>cases h
 |n,.exc _,h=>by cases n<;>cases h
 |n,.fn _ _,h=>by cases n<;>cases h
 |n,.mt _,h=>by cases n<;>cases h
theorem iE(st:af):∀(n:Nat)(us:List ak),e_ n us=true->gg (iB (n+1) st) us us=some true
 |_,[],_=>rfl
 |n,u::us,h=>by
  have h':v? n u=true/\e_ n us=true:=by simpa[e_]using h
  show(match iB (n+1) st u u,gg (iB (n+1) st) us us with|some a,some b=>some (a&&b)|_,_=>none)=_;rw[D9 st n u h'.1,iE st n us h'.2];rfl
end
theorem iF{n:Nat}:∀{us:List ak},(∀u∈us,v? n u=true)->e_ n us=true
 |[],_=>rfl
 |u::us,h=>by unfold e_;rw[h u Vu,iF λw hw=>h w (VJ u hw)];rfl
theorem jE(n:Nat)(ns:_H):e_ n (ns.map ak.int)=true:=iF λu hu=>by obtain⟨i,_,rfl⟩:=VP.mp hu;cases n<;>rfl
section
variable{n m:Nat}
theorem sI(h1:ar st n=some us)(h2:ar st m=some us)(hp:e_ 14 us=true):iB 16 st (.loc n) (.loc m)=some true:=by unfold iB;simp only[vw,h1,h2];exact iE st 14 us hp
theorem p4(h1:ar st n=some us)(h2:ar st m=some us)(hp:e_ 14 us=true):gB (.loc n) (.loc m) st=.ok (.bl true) st:=by unfold gB;rw[sI h1 h2 hp]
theorem p5(h1:ar st n=some us)(h2:ar st m=some us)(hp:e_ 14 us=true):gC (.loc n) (.loc m) st=.ok (.bl false) st:=by unfold gC;rw[sI h1 h2 hp];rfl
end
end MN
namespace SO
open PySem.W PyProof.Rows
abbrev g(p:Array Nat)(i:Nat):Nat:=p.getD i 0
theorem ur(p:Array Nat)(i:Nat):g p i=(p[i]?).getD 0:=Array.getD_eq_getD_getElem?
def Ok(L:Nat->Nat->Bool)(n:Nat){α:Type}(P:α->Prop):KasT α->Prop
 |.ret a=>P a
 |.ask i j k=>i<n/\j<n/\Ok L n P (k (L i j))
theorem Ok.bind{L:Nat->Nat->Bool}{n:Nat}{P:α->Prop}{Q:β->Prop}{f:α->KasT β}(hf:∀a,P a->Ok L n Q (f a)):∀{t:KasT α},Ok L n P t->Ok L n Q (t.bind f)
 |.ret a,h=>hf a h
 |.ask _ _ _,h=>⟨h.1,h.2.1,Ok.bind hf h.2.2⟩
theorem Ok.imp{L:Nat->Nat->Bool}{n:Nat}{P Q:α->Prop}(hf:∀a,P a->Q a):∀{t:KasT α},Ok L n P t->Ok L n Q t
 |.ret a,h=>hf a h
 |.ask _ _ _,h=>⟨h.1,h.2.1,Ok.imp hf h.2.2⟩
theorem Ok.wp{L:Nat->Nat->Bool}{n:Nat}{P:α->Prop}{cmp:Nat->Nat->(Bool->_N->Prop)->_N->Prop}{R:_N->Prop}{Q:α->_N->Prop}(ha:∀i j s(C:Bool->_N->Prop),i<n->j<n->R s->(∀s',R s'->C (L i j) s')->cmp i j C s)(hq:∀a s,P a->R s->Q a s):∀{t:KasT α}{s:_N},Ok L n P t->R s->t.kasWp cmp Q s
 |.ret a,s,h,r=>hq a s h r
 |.ask i j k,s,h,r=>ha i j s _ h.1 h.2.1 r λs' r'=>Ok.wp ha hq h.2.2 r'
structure Ord(L:Nat->Nat->Bool)(n:Nat):Prop where
 tr:∀i j k,i<n->j<n->k<n->L i j=true->L j k=true->L i k=true
 U6:∀i j,i<n->j<n->i≠j->L i j=false->L j i=true
 SW:∀i j,i<n->j<n->L i j=true->L j i=false
def Pm(n:Nat)(p:Array Nat):Prop:=p.Perm (List.toArray (List.range n))
section
variable{n:Nat}{p:Array Nat}
theorem Pm.list(h:Pm n p):p.toList.Perm (List.range n):=Array.perm_iff_toList_perm.mp h
theorem Pm.size(h:Pm n p):p.size=n:=by have:=h.list.length_eq;rw[V!]at this;exact this
theorem Pm.get(h:Pm n p)(hi:i<n):p[i]?=some (g p i):=by
 have hz:i<p.size:=by rw[h.size];exact hi
 rw[ur,_j p i hz];rfl
theorem Pm.lt(h:Pm n p)(hi:i<n):g p i<n:=by
 have hz:i<p.size:=by rw[h.size];exact hi
 have e:g p i=p.toList[i]'hz:=by rw[ur,_j p i hz];rfl
 have m:g p i∈p.toList:=by rw[e];exact W2 _
 exact XR.mp (h.list.mem_iff.mp m)
theorem Pm.inj(h:Pm n p){j:Nat}(hi:i<n)(hj:j<n)(e:g p i=g p j):i=j:=by
 have hz:i<p.size:=by rw[h.size];exact hi
 have Nx:j<p.size:=by rw[h.size];exact hj
 have nd:p.toList.Nodup:=h.list.nodup_iff.mpr List.nodup_range;have e1:g p i=p.toList[i]'hz:=by rw[ur,_j p i hz];rfl
 have e2:g p j=p.toList[j]'Nx:=by rw[ur,_j p j Nx];rfl
 rw[e1,e2]at e;exact(Zz nd).mp e
theorem Pm.start(n:Nat):Pm n (List.toArray (List.range n)):=Array.Perm.refl _
theorem Pm.rev(h:Pm n p)(i j:Nat):Pm n (kas_rev p i j):=(mirror_perm p i j _).trans h
theorem Pm.bub(h:Pm n p)(i j:Nat):Pm n (bubble p i j):=(bubble_perm p i j).trans h
theorem Jx(h:Pm n p){m:Nat}(hm:m<=n)(hi:i<m):g (kas_rev p 0 m) i=g p (m-1-i):=by rw[ur,ur];unfold kas_rev;rw[getElem?_mirror_all (by rw[h.size];exact hm),VA ⟨WN _,hi⟩,Wv]
theorem Jy(h:Pm n p){l:Nat}(hk:k<n)(hl:l<=k):g (bubble p k (k-l)) i=if i=l then g p k else if l<i/\i<=k then g p (i-1)else g p i:=by
 have e:k-(k-l)=l:=⋯
 rw[ur,getElem?_bubble (by rw[h.size];exact hk) (k-l) ⋯,e];split
 .rw[ur]
 .split<;>rw[ur]
end
section
variable{L:Nat->Nat->Bool}{n:Nat}(O:Ord L n)
include O
def rh(L:Nat->Nat->Bool)(p:Array Nat)(m:Nat):Prop:=∀i,i+1<m->L (g p i) (g p (i+1))=true
def Md(L:Nat->Nat->Bool)(p:Array Nat)(m:Nat):Prop:=∀i,i+1<m->L (g p (i+1)) (g p i)=true
theorem other{p:Array Nat}(h:Pm n p){j:Nat}(hi:i<n)(hj:j<n)(hn:i≠j)(e:L (g p i) (g p j)=false):L (g p j) (g p i)=true:=
 O.U6 _ _ (h.lt hi) (h.lt hj) (λz=>hn (h.inj hi hj z)) e
theorem rh.U7{p:Array Nat}(h:Pm n p){m:Nat}(hm:m<=n)(a:rh L p m):∀d:Nat,i+d+1<m->L (g p i) (g p (i+d+1))=true
 |0,hd=>a i hd
 |d+1,hd=>O.tr _ _ _ (h.lt ⋯) (h.lt ⋯) (h.lt ⋯) (rh.U7 h hm a d ⋯) (a (i+d+1) hd)
theorem rh.lt{p:Array Nat}(h:Pm n p){m:Nat}(hm:m<=n)(a:rh L p m){j:Nat}(QY:i<j)(hj:j<m):L (g p i) (g p j)=true:=by have:=rh.U7 O h hm a (i:=i) (j-i-1) ⋯;rwa [show i+(j-i-1)+1=j by lia]at this
theorem yj{p:Array Nat}(h:Pm n p):∀(f k:Nat),1<=k->k+f<=n->rh L p k->Ok L n (λm=>k<=m/\m<=k+f/\rh L p m/\(m<k+f->L (g p m) (g p (m-1))=true)) (kas_asc p f k)
 |0,k,_,_,a=>⟨Vy _,Vy _,a,λz=>absurd z (V9 _)⟩
 |f+1,k,h1,hk,a=>by
  refine⟨h.lt ⋯,h.lt ⋯,?_⟩;show Ok L n _ (if L (g p k) (g p (k-1))=true then .ret k else kas_asc p f (k+1));by_cases c:L (g p k) (g p (k-1))=true
  .rw[VA c];exact⟨Vy _,⋯,a,λ_=>c⟩
  .rw[VL c];have c':L (g p k) (g p (k-1))=false:=by simpa using c
   have z:=other O h ⋯ ⋯ ⋯ c';refine Ok.imp (λm hm=>?_) (yj h f (k+1) ⋯ ⋯ (λi hi=>?_))
   .exact⟨⋯,⋯,hm.2.2.1,λq=>hm.2.2.2 ⋯⟩
   .by_cases e:i+1<k
    .exact a i e
    .have:i=k-1:=⋯
     subst this;rw[show k-1+1=k by lia];exact z
theorem Aa{p:Array Nat}(h:Pm n p):∀(f k:Nat),1<=k->k+f<=n->Md L p k->Ok L n (λr=>r.1=p/\r.2.2=0/\k<=r.2.1/\r.2.1<=k+f/\Md L p r.2.1) (kas_desc f p k 0)
 |0,k,_,_,a=>⟨rfl,rfl,Vy _,Vy _,a⟩
 |f+1,k,h1,hk,a=>by
  refine⟨h.lt ⋯,h.lt ⋯,?_⟩;show Ok L n _ (if L (g p k) (g p (k-1))=true then(if 0>0 then kas_desc f (kas_rev p (k-(0+1)) k) (k+1) 0 else kas_desc f p (k+1) 0)else .ask (g p (k-1)) (g p k) λd=>if d=true then .ret (p,k,0)else kas_desc f p (k+1) (0+1));by_cases c:L (g p k) (g p (k-1))=true
  .rw[VA c,VL (V9 _)];refine Ok.imp (λr hr=>⟨hr.1,hr.2.1,⋯,⋯,hr.2.2.2.2⟩) (Aa h f (k+1) ⋯ ⋯ (λi hi=>?_));by_cases e:i+1<k
   .exact a i e
   .have:i=k-1:=⋯
    subst this;rw[show k-1+1=k by lia];exact c
  .rw[VL c];have c':L (g p k) (g p (k-1))=false:=by simpa using c
   have z:=other O h ⋯ ⋯ ⋯ c';refine⟨h.lt ⋯,h.lt ⋯,?_⟩;show Ok L n _ (if L (g p (k-1)) (g p k)=true then .ret (p,k,0)else kas_desc f p (k+1) (0+1));rw[VA z];exact⟨rfl,rfl,Vy _,YY _ _,a⟩
def Part(L:Nat->Nat->Bool)(n:Nat)(r:Nat×Array Nat):Prop:=1<=r.1/\r.1<=n/\Pm n r.2/\rh L r.2 r.1
theorem Hu{p:Array Nat}(h:Pm n p){m:Nat}(h1:1<=m)(hm:m<=n)(a:Md L p m):Ok L n (Part L n) (kas_tail3 m n p):=by
 have b:rh L (kas_rev p 0 m) m:=by intro i hi;rw[Jx h hm ⋯,Jx h hm hi];have:=a (m-1-(i+1)) ⋯;rwa [show m-1-(i+1)+1=m-1-i by lia]at this
 refine Ok.bind (λk hk=>?_) (yj O (h.rev 0 m) (n-m) m h1 ⋯ b);exact⟨⋯,⋯,h.rev 0 m,hk.2.2.1⟩
theorem D_{p:Array Nat}(h:Pm n p)(hn:1<=n):Ok L n (Part L n) (kas_count n p):=by
 refine Ok.bind (λk hk=>?_) (yj O h (n-1) 1 (Vy _) ⋯ (λi hi=>absurd hi ⋯));obtain⟨k1,k2,ka,kl⟩:=hk;have Pn:Part L n (k,p):=⟨k1,by show k<=n;lia,h,ka⟩
 by_cases e:(k==n)=true
 .rw[VA e];exact Pn
 .rw[VL e];have e':k≠n:=λz=>e (by simpa using z);by_cases e1:k>1
  .rw[VA e1];refine⟨h.lt ⋯,h.lt ⋯,?_⟩;show Ok L n _ (if L (g p 0) (g p (k-1))=true then .ret (k,p)else _);rw[VA (rh.lt O h ⋯ ka ⋯ ⋯)];exact Pn
  .rw[VL e1];have:k=1:=⋯
   subst this;have z:=kl ⋯;refine Ok.bind (λr hr=>?_) (Aa O h (n-(1+1)) (1+1) ⋯ ⋯ (λi hi=>?_))
   .obtain⟨r1,r2,r3⟩:=r;obtain⟨q1,q2,q3,q4,q5⟩:=hr;dsimp only at q1 q2 q3 q4 q5;subst q1 q2;show Ok L n _ (if 0>0 then _ else kas_tail3 r2 n r1);rw[VL (V9 _)];exact Hu O h ⋯ ⋯ q5
   .have:i=0:=⋯
    subst this;exact z
theorem p6{p:Array Nat}(h:Pm n p){k:Nat}(hk:k<n)(a:rh L p k):∀(f l r:Nat),l<=r->r<=k->r-l<=f->(∀i,i<l->L (g p i) (g p k)=true)->(∀i,r<=i->i<k->L (g p k) (g p i)=true) ->
  Ok L n (λm=>m<=k/\(∀i,i<m->L (g p i) (g p k)=true)/\∀i,m<=i->i<k->L (g p k) (g p i)=true) (kas_place p k f l r)
 |0,l,r,h1,h2,h3,lo,hi=>⟨⋯,lo,λi q=>hi i ⋯⟩
 |f+1,l,r,h1,h2,h3,lo,hi=>by
  show Ok L n _ (if l ≥ r then .ret l else .ask (g p k) (g p ((l+r) / 2)) λc=>if c=true then kas_place p k f l ((l+r) / 2)else kas_place p k f ((l+r) / 2+1) r);by_cases e:l ≥ r
  .rw[VA e];exact⟨⋯,lo,λi q=>hi i ⋯⟩
  .rw[VL e];obtain⟨m,hm⟩:=NE ((l+r) / 2)
   rw[<-hm];have m1:l<=m:=⋯
   have m2:m<r:=⋯
   refine⟨h.lt hk,h.lt ⋯,?_⟩;show Ok L n _ (if L (g p k) (g p m)=true then kas_place p k f l m else kas_place p k f (m+1) r);by_cases c:L (g p k) (g p m)=true
   .rw[VA c];refine p6 h hk a f l m m1 ⋯ ⋯ lo λi q1 q2=>?_;by_cases q:i=m
    .rw[q];exact c
    .exact O.tr _ _ _ (h.lt hk) (h.lt ⋯) (h.lt ⋯) c (rh.lt O h ⋯ a ⋯ q2)
   .rw[VL c];have c':L (g p k) (g p m)=false:=by simpa using c
    have z:=other O h hk ⋯ ⋯ c';refine p6 h hk a f (m+1) r ⋯ h2 ⋯ (λi q=>?_) hi;by_cases q1:i=m
    .rw[q1];exact z
    .exact O.tr _ _ _ (h.lt ⋯) (h.lt ⋯) (h.lt hk) (rh.lt O h ⋯ a (show i<m by lia) ⋯) z
theorem D!:∀(f:Nat)(p:Array Nat)(k:Nat),Pm n p->k+f=n->rh L p k->Ok L n (λq=>Pm n q/\rh L q n) (kas_bin f p k)
 |0,p,k,h,hk,a=>⟨h,by rw[<-hk];exact a⟩
 |f+1,p,k,h,hk,a=>by
  refine Ok.bind (λl hl=>?_) (p6 O h (k:=k) ⋯ a k 0 k (WN _) (Vy _) ⋯ (λi q=>absurd q (_z _)) (λi q1 q2=>absurd q1 ⋯));obtain⟨l1,lo,hi⟩:=hl;refine D! f _ (k+1) (h.bub _ _) ⋯ λi C9=>?_;rw[Jy h ⋯ l1,Jy h ⋯ l1];by_cases c1:i=l
  .rw[VA c1,VL ⋯,VA ⋯];exact hi _ ⋯ ⋯
  .rw[VL c1];by_cases c2:i+1=l
   .rw[VA c2,VL ⋯];exact lo i ⋯
   .rw[VL c2];by_cases c3:l<i
    .rw[VA ⟨c3,⋯⟩,VA ⟨⋯,⋯⟩];have:=a (i-1) ⋯;rwa [show i-1+1=i+1-1 by lia]at this
    .rw[VL ⋯,VL ⋯];exact a i ⋯
theorem Hv(hn:1<=n):Ok L n (λq=>Pm n q/\rh L q n) (kas_sort n):=by
 refine Ok.bind (λr hr=>?_) (D_ O (Pm.start n) hn);obtain⟨k,p⟩:=r;obtain⟨h1,h2,h3,h4⟩:=hr;dsimp only at h1 h2 h3 h4;show Ok L n _ (if k<n then kas_bin (n-max k 1) p (max k 1)else .ret p);have e:max k 1=k:=⋯
 rw[e];by_cases c:k<n
 .rw[VA c];exact D! O (n-k) p k h3 ⋯ h4
 .rw[VL c];have:k=n:=⋯
  subst this;exact⟨h3,h4⟩
end
def iG(h:Heap)(d:_O)(es:Array DictEntry)(ep:Nat):Prop:=∃o,h.get? d=some o/\o.cls=.type "dict" /\ o.data=.dict es ep
section
variable{E:_D}{s:_N}{d:_O}{es:Array DictEntry}
theorem iG.ty(x:iG s.heap d es ep):s.TypeIs (.ref d) "dict":=by obtain⟨o,ho,hc,_⟩:=x;exact⟨o,ho,hc⟩
theorem iG.lt{h:Heap}(x:iG h d es ep):d<h.objs.size:=by obtain⟨o,ho,_⟩:=x;exact Vz ho
theorem iG.to{h:Heap}(x:iG h d es ep)(hk:∀o,h.get? d=some o->h'.get? d=some o):iG h' d es ep:=by obtain⟨o,ho,r⟩:=x;exact⟨o,hk o ho,r⟩
theorem wa(hd:(d==sysModules)=false)(x:iG s.heap d es ep)(hQ:Q (.ref s.heap.objs.size) {s with heap:=s.heap.push {cls:=.type "dict_keyiterator",data:=.fields #[.ref d,.int 0 0,.int es.size 0,.int ep 0]} }):wpAny (model prog w) A (pyIter (.ref d)) Q E s:=by obtain⟨o,go,gc,gd⟩:=id x;have T:=x.ty;refine wpAny_pyIter_slot T Zr (Wr Zr T PySem.F.entry_dict_iter ?_ (PySem.F.args_dict_iter_1 _));unfold Builtin.«dict.__iter__»;refine Vp ?_;unfold Builtin.Dict.dictSlotNone;refine Vp (YI T ?_);show wpAny _ _ (pure (Value.ref d)) _ _ s;refine Vr ?_;show wpAny _ _ (Builtin.Dict.showsAll d >>= _) _ _ s;unfold Builtin.Dict.showsAll;rw[VL (by rw[hd];exact VH)];refine Vp (Vr ?_);refine Vp (Xz go gd ?_);refine Vp (Zo go gd ?_);refine Vp (Wf (Vr ⟨_,rfl,"dict_keyiterator",_,⟨_,VI _ rfl,rfl⟩,WM.lookup,?_⟩));simpa[rawInt]using hQ
theorem D?{Q:_J->_N->Prop}(hit:s.heap.IsKeyIter it d i es.size ep)(x:iG s.heap d es ep)(hi:i<es.size)(hQ:∀h',h'.IsKeyIter it d (i+1) es.size ep->Heap.SameBut it s.heap h'->Q (some es[i].key) {s with heap:=h'}):wpAny (model prog w) A (pyNext (.ref it)) Q E s:=by
 obtain⟨o,ho,hc,hf⟩:=id hit;obtain⟨od,go,gc,gd⟩:=id x;have T:=hit.typeIs;unfold pyNext;refine Vp (Xv (Wm (name:=Str.ofString "__next__") T WM (Wr WM T YF ?_ (Yz _))));refine Vp (Vr ?_);refine Vp ?_;refine Vp ?_
 first|refine Vp (Xp T (Vr ?_))|refine Vp (XQ T (Vr ?_))
 refine Vp (wpAny_fieldsOf ho hf ?_);have no:Builtin.Dict_items.ownsTuple "dict_keyiterator" = false:=by decide
 simp only[no,V5,WI];show wpAny _ _ (if(Value.ref d==Value.none)=true then _ else _) _ _ s;rw[VL (show ¬ ((Value.ref d==Value.none)=true)from VH)];refine Vp (Vr ?_);refine Vp (Xz go gd ?_);rw[VL (by simp)];refine Vp (Vr ?_);refine Vp (Zo go gd ?_);rw[VL (by simp)];refine Vr ?_;simp only[show ¬ ((i:Int)<0)from by lia,WI,Wi,XO hi];refine Vp ?_
 first|refine Vp (Xp T (Vr ?_))|refine Vp (XQ T (Vr ?_))
 refine Vp (_u T ?_);show wpAny _ _ (setField (.ref it) 1 (rawInt ((i:Int)+1)) >>= _) _ _ s;refine Vp (XF ho hf (by simp) ?_);have go2:(s.heap.update it (Obj.mapFields (·.setIfInBounds 1 (rawInt ((i:Int)+1))))).IsKeyIter it d (i+1) es.size ep:=
  ⟨_,Wu _ ho (Xw (WR hf _)),(Obj.cls_mapFields ..).trans hc,by rw[WR hf];simp[rawInt]⟩
 refine Vp (Wj ?_);refine Vp (_u (s:={s with heap:=s.heap.update it (Obj.mapFields (·.setIfInBounds 1 (rawInt ((i:Int)+1))))}) go2.typeIs ?_);show wpAny _ _ (pure es[i].key) _ _ _;exact Vr (Vr ⟨_,rfl,Vr (hQ _ go2 (Xn ..))⟩)
theorem Hw{Q:_J->_N->Prop}(hh:A.handled=none)(hit:s.heap.IsKeyIter it d i es.size ep)(x:iG s.heap d es ep)(hi:es.size<=i)(hQ:∀h',Heap.ExtBut it s.heap h'->Q none {s with heap:=h'}):wpAny (model prog w) A (pyNext (.ref it)) Q E s:=by
 obtain⟨o,ho,hc,hf⟩:=id hit;obtain⟨od,go,gc,gd⟩:=id x;have T:=hit.typeIs;unfold pyNext;refine Vp (Xv (Wm (name:=Str.ofString "__next__") T WM (Wr WM T YF ?_ (Yz _))));refine Vp (Vr ?_);refine Vp ?_;refine Vp ?_
 first|refine Vp (Xp T (Vr ?_))|refine Vp (XQ T (Vr ?_))
 refine Vp (wpAny_fieldsOf ho hf ?_);have no:Builtin.Dict_items.ownsTuple "dict_keyiterator" = false:=by decide
 simp only[no,V5,WI];show wpAny _ _ (if(Value.ref d==Value.none)=true then _ else _) _ _ s;rw[VL (show ¬ ((Value.ref d==Value.none)=true)from VH)];refine Vp (Vr ?_);refine Vp (Xz go gd ?_);rw[VL (by simp)];refine Vp (Vr ?_);refine Vp (Zo go gd ?_);rw[VL (by simp)];refine Vr ?_;simp only[show ¬ ((i:Int)<0)from by lia,WI,Wi,Array.getElem?_eq_none hi];refine Vp ?_
 first|refine Vp (Xp T (Vr ?_))|refine Vp (XQ T (Vr ?_))
 show wpAny _ _ (setField (.ref it) 0 .none >>= _) _ _ s;refine Vp (XF ho hf (by simp) ?_);show wpAny _ _ (newExc (.type "StopIteration") [] >>= _) _ _ _;refine Vp ?_;simp only[newExc,newTuple];refine Vp (Wf ?_ (by size_fits));refine Vp (m:=firstArgMember _ _) (Zf (a:=Value.none) (by first|rfl|(simp only[firstArgMember];rfl)) ?_);refine Wf ?_ (by size_fits);simp only[raiseNew];refine Vp (wpAny_handled ?_);rw[show A.in1.handled=none from hh];refine Vp (Vr (wpAny_throw ?_));refine Vp (X7 (T:="StopIteration") (b:=true) ⟨_,VI _ rfl,rfl⟩ ZP ?_);exact Vr (hQ _ (((Xn ..).extBut.push _).push _))
def Ea(es:Array DictEntry)(i:Nat)(v:_M):Prop:=∃h:i<es.size,v=es[i].key
theorem mY(hh:A.handled=none)(I:_O)(ri:d≠I):Walks prog w A I [I,d] [I] es.size (Ea es) (λi h=>h.IsKeyIter I d i es.size ep/\iG h d es ep) where
 sub:=λb hb=>by rw[VZ]at hb;rw[hb];exact Vu
 frame:=λ_ _ _ st hk=>⟨st.1.at λo e=>hk I Vu o e,st.2.to λo e=>hk d (VJ _ Vu) o e⟩
 item:=λi s Q E hi st hQ=>D? st.1 st.2 hi λh' k1 k2=>
  hQ _ h' s.toks ⟨hi,rfl⟩ ⟨k1,st.2.to λo e=>k2.extBut d o ri e⟩ λb o hb e=>k2.extBut b o (λz=>hb (by rw[z];exact _A _)) e
 done:=λs Q E st hQ=>Hw hh st.1 st.2 (Vy _) λh' k=>hQ h' s.toks λb o hb e=>k b o (λz=>hb (by rw[z];exact _A _)) e
 self:=λ_ _ _ _ st hQ=>wpAny_pyIter_keyiter st.1 hQ
theorem Hx(lo:(d==sysModules)=false):KdlSrc prog w "dict" d d es.size (Ea es) (λh=>iG h d es ep) where
 type:=λ_ x=>x.ty
 there:=λ_ x=>⟨x.lt,x.lt⟩
 keep:=λ_ _ x hk=>x.to λo e=>hk d (.inl rfl) o e
 notList:=by decide
 notTuple:=by decide
 hint:=λ_ _ _ _ x q=>kdl_hint_dict x.ty q
 iter:=λ_ _ hh x=>⟨_,_,(λ_ _ q=>wa lo x q),mY hh _ (VX x.lt),⟨⟨_,VI _ rfl,rfl,rfl⟩,x.to λo e=>Vq _ e⟩⟩
end
section
variable{E:_D}{s:_N}{d:_O}{es:Array DictEntry}
theorem Hy{acc:Array _M}(h:ItemsOf (Ea es) acc es.size):acc.toList=es.toList.map (·.key):=by
 apply ZA
 .rw[V3,Vs,V3];exact h.1
 .intro i h1 h2;have hi:i<acc.size:=by rw[V3]at h1;exact h1
  obtain⟨hz,e⟩:=h.2 i acc[i] (XO hi);rw[Array.getElem_toList,XX,Array.getElem_toList,e]
theorem wb{Q:_I->_N->Prop}(hh:A.handled=none)(lo:(d==sysModules)=false)(x:iG s.heap d es ep)(hn:es.size<=sizeLine)(h:∀h' tk,s.heap.objs.size<h'.objs.size->(∀b o,s.heap.get? b=some o->h'.get? b=some o)->Q (es.toList.map (·.key)) {s with heap:=h',toks:=tk}):wpAny (model prog w) A (collect (.ref d)) Q E s:=by
 unfold collect;refine Vp (wpAny_runValue (Yd (R:=λr s'=>r=.ok (.ret (.ref s.heap.objs.size))/\wpAny (model prog w) A (do
  let u <- load s.heap.objs.size
  match u.data with
  |.seq xs _=>pure xs.toList
  |_=>unsupported "internal:collect") Q E s') ?_ λr s' q=>?_))
 .refine WQ entry_proto_collect' ?_;show wpAny _ _ (do again (.builtin "list.__iadd__" ⟨[<-newList [],.ref d],[]⟩)) _ _ s;refine Vp (ZY (Vr ⟨Code.quiet_builtin _ (by decide +kernel),WQ entry_list_iadd' ?_⟩) (WN _));have ne:=WK x.lt;refine kdl_extend (R:=λr s'=>r=.ok (.ret (.ref s.heap.objs.size))/\wpAny (model prog w) A (do
   let u <- load s.heap.objs.size
   match u.data with
   |.seq xs _=>pure xs.toList
   |_=>unsupported "internal:collect") Q E s') (s:={s with heap:=s.heap.push (seqObj "list" #[] 0)}) (Hx (es:=es) (ep:=ep) lo) hh (x.to λo e=>Vq _ e) s.heap.objs.size ne ne (.ref s.heap.objs.size) 0 (VI _ rfl) (λh' tk acc c hk hS xO=>⟨rfl,?_⟩) hn
  refine Vp (wpAny_load hS ?_);show wpAny _ _ (pure acc.toList) Q E _;rw[Hy xO];exact Vr (h h' tk (Vz hS) λb o e=>hk b o (VX (Vz e)) (Vq _ e))
 .obtain⟨rfl,q⟩:=q;exact q
end
def lexLt:_H->_H->Bool
 |_,[]=>false
 |[],_::_=>true
 |x::xs,y::ys=>if x=y then lexLt xs ys else decide (x<y)
theorem jU:∀xs:_H,lexLt xs xs=false
 |[]=>rfl
 |x::xs=>by show(if x=x then lexLt xs xs else _)=false;rw[VA rfl];exact jU xs
theorem p7:∀{xs ys zs:_H},lexLt xs ys=true->lexLt ys zs=true->lexLt xs zs=true:=by
 intro xs
 induction xs with
 |nil=>
  intro ys zs h1 h2;cases zs with
  |nil=>cases ys<;>cases h2
  |cons z zs=>rfl
 |cons x xs ih=>
  intro ys zs h1 h2;cases ys with
  |nil=>cases h1
  |cons y ys=>
   cases zs with
   |nil=>cases h2
   |cons z zs=>
    replace h1:(if x=y then lexLt xs ys else decide (x<y))=true:=h1;replace h2:(if y=z then lexLt ys zs else decide (y<z))=true:=h2;show(if x=z then lexLt xs zs else decide (x<z))=true;by_cases e1:x=y
    .rw[VA e1]at h1;subst e1;by_cases e2:x=z
     .rw[VA e2]at h2⊢;exact ih h1 h2
     .rw[VL e2]at h2⊢;exact h2
    .rw[VL e1]at h1;have U8:=Xq h1;by_cases e2:y=z
     .subst e2;rw[VL e1];exact h1
     .rw[VL e2]at h2;have Nw:=Xq h2;rw[VL ⋯];exact V0 ⋯
theorem jV:∀{xs ys:_H},xs≠ys->lexLt xs ys=false->lexLt ys xs=true:=by
 intro xs
 induction xs with
 |nil=>
  intro ys h1 h2;cases ys with
  |nil=>exact absurd rfl h1
  |cons y ys=>cases h2
 |cons x xs ih=>
  intro ys h1 h2;cases ys with
  |nil=>rfl
  |cons y ys=>
   replace h2:(if x=y then lexLt xs ys else decide (x<y))=false:=h2;show(if y=x then lexLt ys xs else decide (y<x))=true;by_cases e:x=y
   .subst e;rw[VA rfl]at h2⊢;exact ih (λz=>h1 (by rw[z])) h2
   .rw[VL e]at h2;rw[VL (λz=>e z.symm)];have:=Z0 h2;exact V0 ⋯
theorem g8{xs ys:_H}(h:lexLt xs ys=true):lexLt ys xs=false:=by
 cases z:lexLt ys xs with
 |false=>rfl
 |true=>
  have:=p7 h z;rw[jU]at this;cases this
section
variable{E:_D}{s:_N}
theorem Me{fin:Bool}{Q:Bool->_N->Prop}:∀{us vs:_I}{xs ys:_H}(i:Nat),IntsAre us xs->IntsAre vs ys->fin=decide (xs.length<ys.length)->Q (lexLt xs ys) s ->
  KatLex prog w A true fin Q (us.zip vs) i s:=by
 intro us vs xs ys i h1
 induction h1 generalizing vs ys i with
 |nil=>
  intro h2 hf h;refine kat_nil ?_;cases h2 with
  |nil=>rw[hf];exact h
  |cons n t r=>rw[hf];exact h
 |cons n t r ih=>
  intro h2 hf h;cases h2 with
  |nil=>
   refine kat_nil ?_;rw[hf];exact h
  | @cons m u q! ys' r2=>
   refine kat_cons (Yu ?_);rename_i sv xs';replace h:Q (if n=m then lexLt xs' ys' else decide (n<m)) s:=h;by_cases e:n=m
   .subst e;rw[WY];refine kat_yes (ih (i+1) r2 ?_ ?_)
    .rw[hf];simp only[Vt,Nat.add_lt_add_iff_right]
    .rw[VA rfl]at h;exact h
   .rw[V6.mpr e];rw[VL e]at h;refine kat_no ?_;by_cases hi:i=0
    .subst hi;exact oneLt_int h
    .rw[show(true&&i==0)=false by rw[YH];exact V6.mpr hi];exact kat_one _ _ (lt_int h)
def gE(h:Heap)(v:_M)(xs:_H):Prop:=xs≠[]/\∃a o aI n,v=.ref a/\h.get? a=some o/\o.cls=.type "tuple" /\ o.data=.seq aI n/\IntsAre aI.toList xs
theorem gE.to{h:Heap}{v:_M}{xs:_H}(t:gE h v xs)(hk:∀b o,h.get? b=some o->o.cls=.type "tuple" -> h'.get? b=some o):gE h' v xs:=by obtain⟨ne,a,o,aI,n,e,ho,hc,r⟩:=t;exact⟨ne,a,o,aI,n,e,hk a o ho hc,hc,r⟩
theorem Po{Q:Bool->_N->Prop}{x y:_M}{xs ys:_H}(h1:gE s.heap x xs)(h2:gE s.heap y ys)(h:Q (lexLt xs ys) s):wpAny (model prog w) A (keyLt' (tuples' true) x y) Q E s:=by obtain⟨_,a,o,aI,n,rfl,ho,hc,hd,hi⟩:=h1;obtain⟨_,b,o2,dD,n2,rfl,vm,zy,hd2,Cr⟩:=h2;refine kat_lt ho hd vm hd2 (Me 0 hi Cr ?_ h);rw[<-hi.length,<-Cr.length,V3,V3]
inductive cR(h:Heap):_I->List (_H)->Prop
 |nil:cR h [] []
 |cons {v:_M} {x:_H} {vs:_I} {xs:List (_H)}:gE h v x->cR h vs xs->cR h (v::vs) (x::xs)
theorem cR.to{h:Heap}{xs:List (_H)}(t:cR h vs xs)(hk:∀b o,h.get? b=some o->o.cls=.type "tuple" -> h'.get? b=some o):cR h' vs xs:=by
 induction t with
 |nil=>exact .nil
 |cons a _ ih=>exact .cons (a.to hk) ih
theorem cR.length{h:Heap}{xs:List (_H)}(t:cR h vs xs):vs.length=xs.length:=by
 induction t with
 |nil=>rfl
 |cons _ _ ih=>rw[Vt,Vt,ih]
theorem cR.at_{h:Heap}{xs:List (_H)}(t:cR h vs xs):∀i,i<vs.length->gE h (vs.getD i .none) (xs.getD i []):=by
 induction t with
 |nil=>intro i hi;cases hi
 |cons a _ ih=>
  intro i hi;cases i with
  |zero=>exact a
  |succ i=>exact ih i (Nat.lt_of_succ_lt_succ hi)
theorem cR.append{h:Heap}{SX:_I}{xs U9:List (_H)}(t:cR h vs xs)(t2:cR h SX U9):cR h (vs++SX) (xs++U9):=by
 induction t with
 |nil=>exact t2
 |cons a _ ih=>exact .cons a ih
theorem cR.rev{h:Heap}{xs:List (_H)}(t:cR h vs xs):cR h vs.reverse xs.reverse:=by
 induction t with
 |nil=>exact .nil
 |cons a _ ih=>
  rw[X4,X4];exact ih.append (.cons a .nil)
theorem cR.kat{h:Heap}{xs:List (_H)}(t:cR h vs xs):∃fs,KatTups h vs fs/\fs.length=vs.length/\∀v∈fs,∃n u,v=.int n u:=by
 induction t with
 |nil=>exact⟨[],.nil,rfl,λv m=>by cases m⟩
 |cons a _ ih=>
  obtain⟨fs,k,l,al⟩:=ih;obtain⟨ne,a,o,aI,n,rfl,ho,hc,hd,hi⟩:=a;obtain⟨aI⟩:=aI;cases hi with
  |nil=>exact absurd rfl ne
  |cons m u r=>
   refine⟨_,KatTups.cons ho hc hd rfl k,by rw[Vt,Vt,l],λv mv=>?_⟩;rcases VO.mp mv with rfl|mv
   .exact⟨_,_,rfl⟩
   .exact al v mv
theorem Hz{xs:List (_H)}{Q:SortKind->_N->Prop}(t:cR s.heap vs xs)(h0:0<vs.length)(h:Q (tuples' true) s):wpAny (model prog w) A (keyKind' vs.toArray) Q E s:=by obtain⟨fs,k,l,al⟩:=t.kat;refine kat_kind (T:=.type "int") k (by rw[l];exact h0) (λv m=>?_) ⋯ h;obtain⟨n,u,rfl⟩:=al v m;exact Looks.of_pure rfl
end
def eR(xs:List (_H)):Prop:=xs.Pairwise λa b=>lexLt b a=true
section
variable{xs:List (_H)}
theorem Ab{l:List α}(d:α)(h:i<l.length):l.getD i d=l[i]:=by rw[Ww,Vx h];rfl
theorem Ac{α β:Type}:∀{vs:List α}{xs:List β},vs.length=xs.length->vs.reverse.zip xs.reverse=(vs.zip xs).reverse
 |[],[],_=>rfl
 |v::vs,x::xs,h=>by have h':vs.length=xs.length:=YQ h;rw[X4,X4,X3,X4,List.zip_append (by rw[Y7,Y7,h']),Ac h'];rfl
def HA(xs:List (_H))(i j:Nat):Bool:=lexLt (xs.getD i []) (xs.getD j [])
theorem Eb(nd:xs.Nodup):Ord (HA xs) xs.length where
 tr:=λ_ _ _ _ _ _ h1 h2=>p7 h1 h2
 U6:=λi j hi hj ne h=>jV (λe=>ne (by
  rw[Ab _ hi,Ab _ hj]at e;exact(Zz nd).mp e)) h
 SW:=λ_ _ _ _ h=>g8 h
theorem Bw:∀{vs:_I}{xs:List (_H)},vs.length=xs.length->(List.range vs.length).map (λi=>(vs.getD i Value.none,xs.getD i []))=vs.zip xs:=by
 intro vs xs hl;apply ZA
 .rw[Vs,V!,Xm,<-hl,X9]
 .intro i h1 h2;rw[Vs,V!]at h1;rw[XX,Z_,List.getElem_zip,Ab _ h1,Ab _ (hl▸h1)]
theorem Mf{p:Array Nat}(hl:vs.length=xs.length)(h:Pm xs.length p)(a:rh (HA xs) p xs.length)(nd:xs.Nodup):
  ∃zs:List (_M×List Int),zs.Perm (vs.zip xs)/\eR (zs.map (·.2))/\(p.toList.map λi=>vs.getD i Value.none).reverse=zs.map (·.1):=by
 refine⟨(p.toList.map λi=>(vs.getD i Value.none,xs.getD i [])).reverse,?_,?_,?_⟩
 .refine(Ze _).trans ?_;rw[<-Bw hl];refine List.Perm.map _ ?_;rw[hl];exact h.list
 .unfold eR;rw[List.map_reverse,List.pairwise_reverse,VR];rw[XN];intro i j hi hj QY;rw[Vs,V3,h.size]at hi hj;rw[XX,XX];have:=rh.lt (Eb nd) h (Vy _) a QY hj;have e1:g p i=p.toList[i]'(by rw[V3,h.size];exact hi):=by have:=h.get hi;rw[<-X?,Vx (by rw[V3,h.size];exact hi)]at this;exact(V? this).symm
  have e2:g p j=p.toList[j]'(by rw[V3,h.size];exact hj):=by have:=h.get hj;rw[<-X?,Vx (by rw[V3,h.size];exact hj)]at this;exact(V? this).symm
  rw[<-e1,<-e2];exact this
 .rw[List.map_reverse,VR];rfl
end
section
variable{E:_D}{s:_N}{xs:List (_H)}
theorem Ec{a:_O}{n:Nat}{P:PySem.Fin->_N->Prop}(ho:s.heap.get? a=some (seqObj "list" vs.toArray n))(t:cR s.heap vs xs)(nd:xs.Nodup)(U_:vs.length<64)(h:∀zs:List (_M×List Int),zs.Perm (vs.zip xs)->eR (zs.map (·.2))->P (.done (.ret .none)) {s with heap:=sortedHeap s.heap a vs (zs.map (·.1)).toArray}):
  wpAny (model prog w) A (Builtin.«list.sort» ⟨[.ref a],[(Str.ofString "reverse",.bool true)]⟩) P E s:=by
 rw[list_sort_rev];have ha:a<s.heap.objs.size:=Vz ho;have small:vs.toArray.size<=sizeLine:=by rw[VD,VF];lia
 obtain⟨h1,e1⟩:=NE (s.heap.update a (Obj.mapSeq λ_=>(#[]:Array _M)))
 obtain⟨c1,U!⟩:∃c,h1.get? a=some (seqObj "list" #[] c):=⟨_,by rw[e1];exact _w ho λ_ => #[]⟩
 obtain⟨h6,e6⟩:=NE ((h1.push (seqObj "tuple" vs.toArray 0)).push (seqObj "list" #[] 0))
 have QZ:h6.get? a=some (seqObj "list" #[] c1):=by rw[e6];exact Vq _ (Vq _ U!)
 have t6:cR h6 vs xs:=t.to λb o hb hc=>by
  rw[e6,e1];refine Vq _ (Vq _ ?_);have ne:a≠b:=λz=>by rw[<-z,ho]at hb;cases hb;exact absurd (ZR hc) ⋯
  exact(VW _ _ ne).trans hb
 refine Vp (listItems_at ho rfl (Vp (listUpdate_at ho rfl ?_ small (WN _))));rw[<-e1];refine Vp (seqEpoch_at U! rfl (Vp (YM ?_ (by show vs.length<=_;rw[VF];lia))));refine Vp (ZY ?_ (WN _));refine Wj ?_;show wpAny (model prog w) A _ P E {s with heap:=(h1.push (seqObj "tuple" vs.toArray 0)).push (seqObj "list" #[] 0)};rw[<-e6];have ends:∀zs:List (_M×List Int),zs.Perm (vs.zip xs)->eR (zs.map (·.2))->P (.done (.ret .none)) {s with heap:=h6.update a (Obj.mapSeq λ_=>(zs.map (·.1)).toArray)}:=by intro zs z1 z2;have:=h zs z1 z2;unfold sortedHeap at this;rw[<-e1,<-e6]at this;exact this
 dsimp only;rw[VA rfl];refine Vp (W! ?_);by_cases h2:vs.toArray.size<2
 .rw[VA h2,VA h2];refine Vp (Vr ?_);rw[StateT.run_pure];refine Vp (Vr ?_);dsimp only;have hz:(vs.zip xs).length<2:=by rw[Xm,<-t.length,X9];rw[VD]at h2;exact h2
  have out:(((vs.toArray.zip vs.toArray).reverse.map (·.2)).reverse)=((vs.zip xs).map (·.1)).toArray:=by rw[Array.map_reverse,Array.reverse_reverse];apply Array.toList_inj.mp;rw[Array.toList_map,Array.toList_zip];show List.map _ (vs.zip vs)=List.map _ (vs.zip xs);rw[List.map_snd_zip (Vy _),List.map_fst_zip (Zw t.length)]
  refine Vp (seqEpoch_at QZ rfl (Vp (listUpdate_at QZ rfl ?_ (WN _) ?_)))
  .show wpAny _ _ _ _ _ {s with heap:=h6.update a (Obj.mapSeq λ_=>(((vs.toArray.zip vs.toArray).reverse.map (·.2)).reverse))};rw[out];simp only[bne_self_eq_false,V5,WI];refine Vr (ends _ (List.Perm.refl _) ?_);unfold eR
   match(vs.zip xs),hz with
   |[],_=>exact .nil
   |[_],_=>exact YB _ _
  .show(((vs.toArray.zip vs.toArray).reverse.map (·.2)).reverse).size<=_;rw[out,VD,Vs,VF];lia
 .rw[VL h2,VL h2];have l2:2<=vs.length:=by rw[VD]at h2;lia
  obtain⟨rs,er⟩:=NE vs.reverse
  obtain⟨ks,ek⟩:=NE xs.reverse
  have OQ:cR h6 rs ks:=by rw[er,ek];exact t6.rev
  have lr:rs.length=vs.length:=by rw[er,Y7]
  have lk:rs.length=ks.length:=OQ.length;have U?:ks.Nodup:=by rw[ek];exact(Ze xs).nodup_iff.mpr nd
  refine Vp (Hz t6 ⋯ ?_);have pr:(vs.toArray.zip vs.toArray).reverse=rs.toArray.zip rs.toArray:=by have:=kat_pairs true (ks:=vs) (vs:=vs) rfl;rw[VA rfl]at this;rw[this,er];rfl
  rw[pr];refine Vp (Wz (kat_run (Q:=λaz s'=>∃p:Array Nat,arrOf az=p.map (kas_item (rs.toArray.zip rs.toArray))/\failedOf az=none/\Pm ks.length p/\rh (HA ks) p ks.length/\s' = {s with heap:=h6})
   (G:=λp s'=>Pm ks.length p/\rh (HA ks) p ks.length/\s' = {s with heap:=h6}) rfl ⋯ ⋯ (λp az s' _ a2 a3 a4=>⟨p,a2,a3,a4⟩) ?_) ?_ λ_ _ e=>e)
  .rw[lk];refine Ok.wp (R:=λs'=>s' = {s with heap:=h6}) (λi j s' C hi hj hs hC=>?_) (λp s' hp hs=>⟨hp.1,hp.2,hs⟩) (Hv (Eb U?) ⋯) rfl;subst hs;exact Po (OQ.at_ i ⋯) (OQ.at_ j ⋯) (hC _ rfl)
  .rintro⟨⟨⟩,az⟩ s' ⟨p,har,hf,hp,LF,rfl⟩;dsimp only;obtain⟨zs,z1,z2,z3⟩:=Mf lk hp LF U?;have out:((arrOf az).map (·.2)).reverse=(zs.map (·.1)).toArray:=by rw[kat_snds rfl har];apply Array.toList_inj.mp;rw[Array.toList_reverse];exact z3
   have lz:zs.length<64:=by have:=z1.length_eq;rw[Xm,<-lk,X9]at this;lia
   have zp:zs.Perm (vs.zip xs):=by refine z1.trans ?_;rw[er,ek,Ac t.length];exact Ze _
   refine Vp (seqEpoch_at QZ rfl (Vp (listUpdate_at QZ rfl ?_ (WN _) ?_)))
   .rw[VA rfl,out,hf];simp only[bne_self_eq_false,V5,WI];exact Vr (ends zs zp z2)
   .rw[VA rfl,out,VD,Vs,VF];lia
theorem yk{d:_O}{es:Array DictEntry}(hh:A.handled=none)(lo:(d==sysModules)=false)(x:iG s.heap d es ep)(t:cR s.heap (es.toList.map (·.key)) xs)(nd:xs.Nodup)(U_:es.size<64)
  (h:∀ (h':Heap) (tk:Nat) (l:_O) (c:Nat) (zs:List (_M × List Int)),(∀ b o,s.heap.get? b=some o->h'.get? b=some o)->s.heap.objs.size<=l->zs.Perm ((es.toList.map (·.key)).zip xs)->eR (zs.map (·.2)) ->
   h'.get? l=some (seqObj "list" (zs.map (·.1)).toArray c)->Q (.ref l) {s with heap:=h',toks:=tk}):
  wpAny (model prog w) A (call (.builtin "sorted") [.ref d] [(Str.ofString "reverse",.bool true)]) Q E s:=by
 refine call_function_entry_kw kind_sorted plain_sorted entry_sorted (args_sorted_rev _ _) ?_;unfold Builtin.«sorted»;refine Vp (m:=checkCount "sorted" 1 1 _) (Vr ?_);have hn:es.size<=sizeLine:=by rw[VF];lia
 obtain⟨vs,ev⟩:=NE (es.toList.map (·.key))
 have lv:vs.length=es.size:=by rw[ev,Vs,V3]
 refine Vp (wb hh lo x hn λh1 tk k0 k1=>?_);rw[<-ev]at t h⊢;refine Vp (ZY ?_ (by show vs.length<=_;lia));have gl:(h1.push (seqObj "list" vs.toArray 0)).get? h1.objs.size=some (seqObj "list" vs.toArray 0):=VI _ rfl;show wpAny _ _ _ _ _ {s with heap:=h1.push (seqObj "list" vs.toArray 0),toks:=tk};refine Vp (Wj (wpAny_call_entry_kw slot_list_sort ⟨_,gl,rfl⟩ entry_list_sort (Ec gl (t.to λb o e _=>Vq _ (k1 b o e)) nd ⋯ λzs z1 z2=>⟨_,rfl,?_⟩) (args_list_sort_rev _ _)));obtain⟨c,gc⟩:∃c,(sortedHeap (h1.push (seqObj "list" vs.toArray 0)) h1.objs.size vs (zs.map (·.1)).toArray).get? h1.objs.size=some (seqObj "list" (zs.map (·.1)).toArray c):=
  ⟨_,by unfold sortedHeap;exact _w (Vq _ (Vq _ (_w gl λ_ => #[]))) λ_=>(zs.map (·.1)).toArray⟩
 refine Vr ⟨_,rfl,h _ tk h1.objs.size c zs (λb o e=>?_) ?_ z1 z2 gc⟩
 .have e1:=k1 b o e;have ne:h1.objs.size≠b:=WK (Vz e1);unfold sortedHeap;refine(VW _ _ ne).trans (Vq _ (Vq _ ((VW _ _ ne).trans (Vq _ e1))))
 .exact YR k0
end
end SO
namespace L2
open PySem.Spec PyProof.Rows
def ym(X:Cx)(f:_M)(ks:_L)(r:List V->List V->Hp->VK->Prop):Prop:=
 ∀(ae:_F)(s:_N)(σ:St)(H:Hp)(xs zs:List V)(us ws:_I)(Q:VK),aM X ae σ H s->bw xs us->bw zs ws->r xs zs H Q ->
  wpAny (model X.prog X.w) X.A (call f us (ks.zip ws)) (EP X ae σ Q) X.xe s
def tCK(r:List V->List V->Hp->VK->Prop)(t tk:TA):TE:=λσ H Q=>t σ H λvs H1=>tk σ H1 λzs H2=>r vs zs H2 Q
section
variable{id:String}{ks:_L}{r:List V->List V->Hp->VK->Prop}{p:Pos}{e:Expr}{CN:List Keyword}{t tk:TA}
theorem sJ(hc:ym X (.builtin id) ks r)(hg:Gl X x)(hm:X.mg x=none)(hv:bootBuiltins x=some (.builtin id))(ha:PA X (e::es) t)(hkw:PK X CN tk)(Mg:(backToKw pos (keywordEach CN X.env)).filterMap (·.1)=ks:=by rfl)(hn:x ≠ "__name__":=by decide)(kC:(x==("__debug__":Str))=false:=by decide)(he:backTo pos (starEach (e::es) X.env)=(false,eval e X.env)::backTo pos (starEach es X.env):=by rfl)(iR:(backTo pos (starEach (e::es) X.env)).any (·.1)=false:=by rfl)(KA:(backToKw pos (keywordEach CN X.env)).all (·.1.isSome)=true:=by rfl)(Kt:(backToKw pos (keywordEach CN X.env)).any (·.1.isNone)=false:=by rfl):PE X (.Call (.Name x p) (e::es) CN pos) (tCK r t tk):=by intro ae s σ H Q I h;refine Xt (kA I hg hm hv ?_ hn kC);refine callWith_kw (dA (ha pos ae s σ H _ I h) λus s1 q1=>?_) he iR KA Kt;obtain⟨vs,H1,I1,r1,q1⟩:=q1;refine dA (hkw pos ae s1 σ H1 _ I1 q1) λws s2 q2=>?_;obtain⟨zs,H2,I2,r2,q2⟩:=q2;rw[Mg];exact hc ae s2 σ H2 vs zs us ws Q I2 r1 r2 q2
end
def iK(k:_H):List cT:=k.map Sum.inl
theorem Pq(k:_H):(iK k).map kV=k.map V.int:=by unfold iK;rw[VR];rfl
theorem yn{a b:_H}(h:iK a=iK b):a=b:=by
 induction a generalizing b with
 |nil=>cases b with
  |nil=>rfl
  |cons=>cases h
 |cons x a ih=>cases b with
  |nil=>cases h
  |cons y b=>
   injection h with h1 h2;injection h1 with h1;rw[h1,ih h2]
def Mh(H:Hp)(v:V)(k:_H):Prop:=∃a,v=.ref a/\H a=some (.tup (k.map V.int))
def Ed:List V->List V->Hp->VK->Prop:=λxs zs H Q=>∃(d:_O)(aD:List (List cT×V))(ks:List (_H)),xs=[.ref d]/\zs=[.bl true]/\H d=some (.dT aD)/\aD.map (·.1)=ks.map iK/\ks.length<64/\(∀k∈ks,k≠[]) /\
 ∀(l:_O)(vs:List V)(outs:List (_H)),H l=none->outs.Perm ks->SO.eR outs->Paired (Mh H) vs outs->Q (.ref l) (upd H l (.lst vs))
theorem g9{xs:_H}{us:_I}(h:bw (xs.map V.int) us):IntsAre us xs:=by
 induction xs generalizing us with
 |nil=>cases h;exact .nil
 |cons x xs ih=>
  cases h with
  |cons a b=>
   obtain⟨t,rfl⟩:=a;exact .cons x t (ih b)
theorem wc(hc:X.calm=true):ym X (.builtin "sorted") ["reverse"] Ed:=by
 intro ae s σ H xs zs us ws Q I rx rz h;obtain⟨d,aD,ks,rfl,rfl,hd,hk,U_,ri,q⟩:=h;obtain⟨u,rfl,r1⟩:=vals1 rx;obtain⟨z,rfl,r2⟩:=vals1 rz;cases r1;cases r2;obtain⟨_,lo,xs,pr,o,es,ep,h1,h2,h3,h4,h5⟩:=(show cj X.prog X.w H s.heap d (.dT aD)from I.b? d _ hd)
 -- Ck U' values and J? aaf hold
 have key:∀{aD:List (List cT×V)}{xs:List (List cT×_O×_M)}{ks:List (_H)},KT H aD xs->aD.map (·.1)=ks.map iK->(∀k∈ks,k≠[]) ->
   SO.cR s.heap (xs.map λx=>Value.ref x.2.1) ks/\xs.map (·.1)=ks.map iK/\∀z∈(xs.map λx=>Value.ref x.2.1).zip ks,∃a,z.1=.ref a/\H a=some (.tup (z.2.map V.int)):=by
  intro aD xs ks pr
  induction pr generalizing ks with
  |nil=>
   intro e _;cases ks with
   |nil=>exact⟨.nil,rfl,λz m=>by cases m⟩
   |cons=>cases e
  | @cons p x ps ys a _ ih=>
   intro e ne;cases ks with
   |nil=>cases e
   |cons k ks=>
    injection e with e1 e2;replace e1:p.1=iK k:=e1;obtain⟨i1,i2,i3⟩:=ih e2 λk m=>ne k (VJ _ m);have ht:H x.2.1=some (.tup (k.map V.int)):=by rw[<-Pq,<-e1];exact a.2.1
    obtain⟨_,aI,rv,o,g1,g2,n,g3⟩:=(show cj X.prog X.w H s.heap x.2.1 (.tup (k.map V.int))from I.b? _ _ ht)
    refine⟨.cons ⟨ne k Vu,x.2.1,o,aI.toArray,n,rfl,g1,g2,g3,g9 rv⟩ i1,?_,λz m=>?_⟩
    .rw[Vv,Vv,i2,<-a.1,e1]
    .rcases VO.mp m with m|m
     .rw[m];exact⟨_,rfl,ht⟩
     .exact i3 z m
 obtain⟨t,ek,hz⟩:=key pr hk ri;have nd:ks.Nodup:=by rw[ek]at h5;exact List.Pairwise.of_map iK (λa b z e=>z (by rw[e])) h5
 have ev:es.toList.map (·.key)=xs.map λx=>Value.ref x.2.1:=by rw[h4,VR];rfl
 have lv:es.size=ks.length:=by have:=Xc List.length h4;rw[V3,Vs]at this;have l2:=t.length;rw[Vs]at l2;lia
 have x:SO.iG s.heap d es ep:=⟨o,h1,h2.1,h3⟩
 refine SO.yk (I.ok.hd hc) lo x (by rw[ev];exact t) nd ⋯ λh' tk l c zs kp hl z1 z2 g=>?_;rw[ev]at z1;have all:∀z∈zs,∃a,z.1=.ref a/\H a=some (.tup (z.2.map V.int)):=λz m=>hz z (z1.mem_iff.mp m);have mk:∀{zs:List (_M×List Int)},(∀z∈zs,∃a,z.1=.ref a/\H a=some (.tup (z.2.map V.int)))->∃vs,bw vs (zs.map (·.1))/\Paired (Mh H) vs (zs.map (·.2)):=by
  intro zs
  induction zs with
  |nil=>intro _;exact⟨[],.nil,.nil⟩
  |cons z zs ih=>
   intro al;obtain⟨vs,v1,v2⟩:=ih λy m=>al y (VJ _ m);obtain⟨a,e1,e2⟩:=al z Vu;exact⟨.ref a::vs,.cons e1 v1,.cons ⟨a,rfl,e2⟩ v2⟩
 obtain⟨vs,v1,v2⟩:=mk all;have op:(zs.map (·.2)).Perm ks:=by have:=z1.map (·.2);rwa [List.map_snd_zip (Zw t.length.symm)]at this
 have lz:vs.length<=sizeLine:=by have e1:=v1.length;have e2:=op.length_eq;rw[Vs]at e1 e2;rw[VF];lia
 exact⟨.ref l,_,I.laid (t':=tk) kp hl (show cj X.prog X.w _ h' _ (.lst vs) from⟨lz,_,c,v1,g⟩),rfl,q l vs _ (I.b?.fresh hl) op z2 v2⟩
end L2
namespace SO
open PySem.W PyProof.Rows
section
variable{E:_D}{s:_N}
theorem HB{a b:_O}{oa:Obj}{us vs:Array _M}{n m:Nat}{xs ys:_H}{P:PySem.Fin->_N->Prop}(ha:s.heap.get? a=some oa)(hca:oa.cls=.type "tuple")(SY:oa.data=.seq us n)(hb:s.heap.get? b=some ob)(S0:ob.cls=.type "tuple")(kC:ob.data=.seq vs m)(ia:IntsAre us.toList xs)(ib:IntsAre vs.toList ys)(h:P (.done (.ret (.bool (!(lexLt xs ys))))) s):
  wpAny (model prog w) A (Builtin.«tuple.__ge__» ⟨[.ref a,.ref b],[]⟩) P E s:=by
 show wpAny _ _ (isInstance (.ref b) (.type "tuple") >>= _) _ _ s;refine Vp (X7 (T:="tuple") ⟨ob,hb,S0⟩ _v ?_);simp only[We,V5,WI];refine Vp (XU ha SY (Vp (XU hb kC ?_)));refine Vp ?_;refine wpAny_forIn_list _ (λrest r s'=>r.1=none/\s'=s/\∃x' y' sv q!,rest=List.zip sv q!/\IntsAre sv x'/\IntsAre q! y'/\lexLt x' y'=lexLt xs ys/\sv.length+vs.size=q!.length+us.size) _ ?_ ?_ _ _
  ⟨rfl,rfl,xs,ys,us.toList,vs.toList,rfl,ia,ib,rfl,by rw[V3,V3,YS]⟩
 .rintro⟨u,v⟩ rest r s' ⟨hr,rfl,x',y',sv,q!,hz,hx,hy,hl,hs⟩;cases hx with
  |nil=>cases hz
  | @cons i t LJ x1 O'=>
   cases hy with
   |nil=>cases hz
   | @cons j t2 S1 y1 S2=>
    rw[X3]at hz;injection hz with S3 Nx;cases S3;refine Vp (Yu ?_);replace hl:(if i=j then lexLt x1 y1 else decide (i<j))=lexLt xs ys:=hl;by_cases e:i=j
    .rw[VA e]at hl;rw[WC.mpr e];simp only[We,V5,WI];refine Vr ⟨rfl,rfl,x1,y1,LJ,S1,Nx,O',S2,hl,?_⟩;rw[Vt,Vt]at hs;lia
    .rw[VL e]at hl;rw[V6.mpr e];simp only[Ya,XJ];refine Vp (W! ?_);have hb:Value.bool (decide (i ≥ j))=.bool (!(lexLt xs ys)):=by
      rw[<-hl];congr 1;by_cases q:i<j
      .rw[V0 q,V2 ⋯];rfl
      .rw[V2 q,V0 ⋯];rfl
     refine Vp (show wpAny _ _ (richCompare .GtE (.int i t) (.int j t2)) _ _ _ from ge_int ?_);rw[hb];exact Vp (Vr (Vr (Vr h)))
 .rintro⟨r1,r2⟩ s' ⟨hr,rfl,x',y',sv,q!,hz,hx,hy,hl,hs⟩;simp only at hr;subst hr;refine Vr ?_;have hb:decide (us.size ≥ vs.size) = !(lexLt xs ys):=by
   rw[<-hl];cases hx with
   |nil=>
    cases hy with
    |nil=>rw[V0 (by simp at hs;lia)];rfl
    |cons _ _ _=>rw[V2 (by rw[Vt,VE]at hs;lia)];rfl
   |cons _ _ _=>
    cases hy with
    |nil=>rw[V0 (by rw[Vt,VE]at hs;lia)];rfl
    |cons _ _ _=>cases hz
  show P (.done (.ret (.bool (decide (us.size ≥ vs.size))))) s';rw[hb];exact h
theorem Mi{a b:_O}{xs ys:_H}(hu:A.units<cLine)(h1:gE s.heap (.ref a) xs)(h2:gE s.heap (.ref b) ys)(h:Q (.bool (!(lexLt xs ys))) s):
  wpAny (model prog w) A (compareOp .GtE (.ref a) (.ref b)) Q E s:=by
 obtain⟨_,a',o,aI,n,ea,ho,hc,hd,hi⟩:=h1;obtain⟨_,b',o2,dD,n2,eb,vm,zy,hd2,Cr⟩:=h2;cases ea;cases eb;refine cmp_ofGtE (ZH (op:=.GtE) (T:="tuple") ⟨o,ho,hc⟩ ⟨o2,vm,zy⟩ ZJ ?_ hu);refine Wr ZJ ⟨o,ho,hc⟩ PySem.F.entry_tuple_ge (HB ho hc hd vm zy hd2 hi Cr ?_) (PySem.F.args_tuple_ge_2 _ _);exact⟨_,rfl,(λe=>nomatch e),h⟩
end
def Ee(M:Int):_H->Int
 |[]=>M
 |x::r=>Ee (if x>M then x else M) r
theorem rj(a v:_M):argsOk "max" ⟨[a],[(Str.ofString "default",v)]⟩:=by unfold argsOk;kernel_rfl
theorem HC{us:_I}(h:IntsAre us ns):∀{i:Nat}{v:_M},us[i]?=some v->∃n t,ns[i]?=some n/\v=.int n t:=by
 induction h with
 |nil=>intro i v e;cases e
 |cons n t _ ih=>
  intro i v e;cases i with
  |zero=>cases e;exact⟨n,t,rfl,rfl⟩
  |succ i=>exact ih e
section
variable{E:_D}{I l S:_O}{us:_I}{d:_M}{R:Result->_N->Prop}
theorem Mj(hh:A.in1.handled=none)(hI:l≠I)(yo:S≠I)(Q0:S≠l)(ia:IntsAre us ns):∀(k j:Nat)(s:_N)(M:Int)(t:Tok)(c:Nat),ns.length-j=k->j<=ns.length->(s.heap.IsListIter I l j/\s.heap.IsList l us.toArray) ->
  s.heap.get? S=some (seqObj "list" #[.int M t,.int M t] c) ->
  (∀t' h' tk,(∀b o,b≠S->b≠I->s.heap.get? b=some o->h'.get? b=some o)->R (.ok (.ret (.int (Ee M (ns.drop j)) t'))) {s with heap:=h',toks:=tk}) ->
  codeAny (model prog w) A (.builtin "max.loop" ⟨[.ref I,.none,.ref S],[(Str.ofString "default",d)]⟩) R s:=by
 have W:=ZQ (prog:=prog) (w:=w) (A:=A.in1) hh I l hI us.toArray;have hsz:us.toArray.size=ns.length:=by rw[VD,ia.length]
 have jF:(toString "max" ++ toString ".loop":String) = "max.loop":=by decide
 intro k
 induction k with
 |zero=>
  intro j s M t c hk hj st hS hR;have e:j=us.toArray.size:=⋯
  refine WQ W4 ?_;rw[WU V8 _];show wpAny _ A.in1 (seqItems? (.ref S) >>= _) _ _ s;refine Vp (Wb hS rfl ?_);show wpAny _ A.in1 (tryCatch (pyNext (.ref I)) _ >>= _) _ _ s;refine Vp (W3 (W.done s _ _ (e▸st) λh' tk hm=>?_));have uu:=hm S _ (by simp[yo]) hS;show wpAny _ A.in1 (updateSeq S (λ_ => #[]) >>= _) _ _ _;refine Vp (XS uu rfl (Vp (WL (Vr ?_))));have:=hR t ((h'.update S (Obj.mapSeq λ_ => #[]))) tk λb o h1 h2 e=>(VW _ _ (WE h1)).trans (hm b o (by simp[h2]) e);rw[YK ⋯]at this;exact this
 |succ k ih=>
  intro j s M t c hk hj st hS hR;have lG:j<us.toArray.size:=⋯
  refine WQ W4 ?_;rw[WU V8 _];show wpAny _ A.in1 (seqItems? (.ref S) >>= _) _ _ s;refine Vp (Wb hS rfl ?_);show wpAny _ A.in1 (tryCatch (pyNext (.ref I)) _ >>= _) _ _ s;refine Vp (W3 (W.item j s _ _ lG st λv h' tk hP az hm=>?_));have uu:=hm S _ (by simp[yo]) hS;obtain⟨n,t2,en,rfl⟩:=HC ia (by rw[<-X!];exact hP);have Ny:j<ns.length:=⋯
  have ed:ns.drop j=n::ns.drop (j+1):=by rw[Vx Ny]at en;cases en;exact Xe Ny
  show wpAny _ A.in1 (tryCatch (holding [.int n t2,.int n t2] (richCompare .Gt (.int n t2) (.int M t) >>= _)) _ >>= _) _ _ _;refine Vp (W3 (Wj (Vp (show wpAny _ _ (compareOp .Gt (.int n t2) (.int M t)) _ _ _ from gt_int ?_))));refine Vp (Wj (WX (Vp (WL (Vr ?_)))));by_cases c1:n>M
  .rw[V0 c1];simp only[XJ];refine Vp (XS uu rfl (Vp (WL ?_)));rw[jF];refine Vr ⟨W9 V8 _,ih (j+1) _ n t2 _ ⋯ ⋯ (W.frame _ _ _ az λb hb o e=>?_) (Wu _ uu rfl) λt' h2 Ml GJ=>?_⟩
   .exact(VW _ _ (λz:S=b=>by rw[<-z]at hb;simp[yo,Q0]at hb)).trans e
   .have:=hR t' h2 Ml λb o h1 h3 e=>GJ b o h1 h3 ((VW _ _ (WE h1)).trans (hm b o (by simp[h3]) e));rw[ed]at this;replace this:R (.ok (.ret (.int (Ee (if n>M then n else M) (ns.drop (j+1))) t'))) _:=this;rw[VA c1]at this;exact this
  .rw[V2 c1];simp only[V5,WI];refine Vp (WL ?_);rw[jF];refine Vr ⟨W9 V8 _,ih (j+1) _ M t c ⋯ ⋯ az uu λt' h2 Ml GJ=>?_⟩;have:=hR t' h2 Ml λb o h1 h3 e=>GJ b o h1 h3 (hm b o (by simp[h3]) e);rw[ed]at this;replace this:R (.ok (.ret (.int (Ee (if n>M then n else M) (ns.drop (j+1))) t'))) _:=this;rw[VL c1]at this;exact this
def maxD(dv:Int):_H->Int
 |[]=>dv
 |n::r=>Ee n r
theorem uv{s:_N}{id:String}{b:Builtin}{kw:List (Str×_M)}(hk:builtinKind id=none)(hp:plainId id=true)(hb:entryFor table id=some b)(ha:argsOk id ⟨args,kw⟩)
  (hc:wpAny (model prog w) A.in1 (b ⟨args,kw⟩) (λfin s'=>match fin with
   |.done f=>(match(Except.ok f:Result) with|.ok (.ret v)=>Q v s'|.ok _=>False|.error e=>E e s')
   |.again c'=>c'.quiet=true/\codeAny (model prog w) A c' (λr s'=>match r with|.ok (.ret v)=>Q v s'|.ok _=>False|.error e=>E e s') s') E s):wpAny (model prog w) A (call (.builtin id) args kw) Q E s:=by
 refine Yy (YN hp hb ?_);simp only[checkBuiltinCall,hk];cases S4:Manifest.signature? id with
 |none=>exact Vr hc
 |some sig=>
  have LF:Bind.checkArgs id sig ⟨args,kw⟩=pure ():=by simpa only [argsOk,S4]using ha
  simp only[LF];exact Vr hc
theorem Ef{s:_N}{dv:Int}{dt:Tok}(hh:A.handled=none)(hl:s.heap.IsList l us.toArray)(ia:IntsAre us ns)(h:∀h' tk t,(∀b o,s.heap.get? b=some o->h'.get? b=some o)->Q (.int (maxD dv ns) t) {s with heap:=h',toks:=tk}):wpAny (model prog w) A (call (.builtin "max") [.ref l] [(Str.ofString "default",.int dv dt)]) Q E s:=by
 have jF:(toString "max" ++ toString ".loop":String) = "max.loop":=by decide
 refine uv _p _d _e (rj _ _) ?_;show wpAny _ A.in1 (Builtin.Builtins.bindParams "max" ["key","default"] 0 ⟨[],[(Str.ofString "default",.int dv dt)]⟩ >>= _) _ _ s;refine Vp (Zf (show Builtin.Builtins.bindParams "max" ["key","default"] 0 ⟨[],[(Str.ofString "default",.int dv dt)]⟩=pure [none,some (.int dv dt)]from rfl) ?_);refine Vp (Vr ?_);refine Vp (Xy hl ?_);refine Vp (Wf ?_);rw[jF];refine Vr ⟨W9 V8 _,?_⟩;obtain⟨I,eI⟩:=NE s.heap.objs.size
 obtain⟨h1,e1⟩:∃h1,h1=s.heap.push {cls:=.type "list_iterator",data:=.fields #[.ref l,.int 0 0]}:=⟨_,rfl⟩
 obtain⟨S,eS⟩:=NE h1.objs.size
 obtain⟨h2,e2⟩:=NE (h1.push (seqObj "list" #[] 0))
 have lG:l<s.heap.objs.size:=by obtain⟨_,e,_⟩:=id hl;exact Vz e
 have Mm:S=I+1:=by rw[eS,e1,eI,WO]
 have hI:l≠I:=by rw[eI];exact VX lG
 have yo:S≠I:=by rw[Mm];exact _q I
 have Q0:S≠l:=by rw[Mm,eI];exact WK (Xs lG)
 have k2:∀b o,s.heap.get? b=some o->h2.get? b=some o:=λb o e=>by rw[e2,e1];exact Vq _ (Vq _ e)
 have st:h2.IsListIter I l 0/\h2.IsList l us.toArray:=by
  constructor
  .refine⟨{cls:=.type "list_iterator",data:=.fields #[.ref l,.int 0 0]},?_,rfl,rfl⟩;rw[e2,e1,eI];exact Vq _ (VI _ rfl)
  .obtain⟨o,ho,r⟩:=hl;exact⟨o,k2 l o ho,r⟩
 have hS:h2.get? S=some (seqObj "list" #[] 0):=by rw[e2,eS];exact VI _ rfl
 show codeAny (model prog w) A (.builtin "max.loop" ⟨[.ref s.heap.objs.size,.none,.ref (s.heap.push {cls:=.type "list_iterator",data:=.fields #[.ref l,.int 0 0]}).objs.size],[(Str.ofString "default",.int dv dt)]⟩) _ {s with heap:=(s.heap.push {cls:=.type "list_iterator",data:=.fields #[.ref l,.int 0 0]}).push (seqObj "list" #[] 0)};rw[<-e1,<-e2,<-eS,<-eI];have W:=ZQ (prog:=prog) (w:=w) (A:=A.in1) hh I l hI us.toArray;have hsz:us.toArray.size=ns.length:=by rw[VD,ia.length]
 have fresh:∀b o,s.heap.get? b=some o->b≠S/\b≠I:=λb o e=>by have q:=Vz e;exact⟨by rw[Mm,eI];exact VX (Xs q),by rw[eI];exact VX q⟩
 refine WQ W4 ?_;rw[WU V8 _];show wpAny _ A.in1 (seqItems? (.ref S) >>= _) _ _ _;refine Vp (Wb (s:={s with heap:=h2}) hS rfl ?_);show wpAny _ A.in1 (tryCatch (pyNext (.ref I)) _ >>= _) _ _ _;cases ia with
 |nil=>
  refine Vp (W3 (W.done {s with heap:=h2} _ _ st λh' tk hm=>?_));refine Vp (W! (Vr ?_));exact h h' tk dt λb o e=>hm b o (by simp[(fresh b o e).2]) (k2 b o e)
 | @cons n t sv Sy r=>
  refine Vp (W3 (W.item 0 {s with heap:=h2} _ _ (by rw[hsz];exact YO _) st λv h' tk hP az hm=>?_));have uu:=hm S _ (by simp[yo]) hS;have hv:v=.int n t:=by rw[X!]at hP;cases hP;rfl
  subst hv;show wpAny _ A.in1 (updateSeq S (λ_ => #[.int n t,.int n t]) >>= _) _ _ _;refine Vp (XS uu rfl ?_);rw[jF];refine Vr ⟨W9 V8 _,Mj (us:=.int n t::sv) (ns:=n::Sy) hh hI yo Q0 (.cons n t r) _ 1 _ n t _ rfl (by simp) (W.frame _ _ _ az λb hb o e=>?_) (Wu _ uu rfl) λt' h3 S5 S6=>?_⟩
  .exact(VW _ _ (λz:S=b=>by rw[<-z]at hb;simp[yo,Q0]at hb)).trans e
  .refine h h3 S5 t' λb o e=>?_;have f:=fresh b o e;exact S6 b o f.1 f.2 ((VW _ _ (WE f.1)).trans (hm b o (by simp[f.2]) (k2 b o e)))
end
end SO
namespace MN
open PySem.Spec L2
open PyProof.Rows hiding St kindOf
def wd:List cT->Option (_H)
 |[]=>some []
 |.inl i::r=>(wd r).map (i :: ·)
 |.inr _::_=>none
def lT:List (List cT)->Option (List (_H))
 |[]=>some []
 |k::r=>match wd k,lT r with
  |some a,some b=>some (a::b)
  |_,_=>none
theorem HD:∀{k:List cT}{a:_H},wd k=some a->k=iK a:=by
 intro k
 induction k with
 |nil=>intro a h;cases h;rfl
 |cons x r ih=>
  intro a h;cases x with
  |inl i=>
   replace h:(wd r).map (i :: ·)=some a:=h;cases z:wd r with
   |none=>rw[z]at h;cases h
   |some b=>
    rw[z]at h;cases h;rw[ih z];rfl
  |inr x=>cases h
theorem we:∀{l:List (List cT)}{ks:List (_H)},lT l=some ks->l=ks.map iK:=by
 intro l
 induction l with
 |nil=>intro ks h;cases h;rfl
 |cons k r ih=>
  intro ks h;unfold lT at h;cases z1:wd k with
  |none=>rw[z1]at h;cases h
  |some a=>
   cases z2:lT r with
   |none=>rw[z1,z2]at h;cases h
   |some b=>
    rw[z1,z2]at h;cases h;rw[HD z1,ih z2];rfl
theorem HE(a:_H):wd (iK a)=some a:=by
 induction a with
 |nil=>rfl
 |cons x a ih=>show(wd (iK a)).map (x :: ·)=_;rw[ih];rfl
theorem wg(ks:List (_H)):lT (ks.map iK)=some ks:=by
 induction ks with
 |nil=>rfl
 |cons k ks ih=>rw[Vv];unfold lT;rw[HE,ih]
def Nz(a b:_H):Bool:=!(SO.lexLt a b)
def kZ(ks:List (_H)):List (_H):=ks.mergeSort Nz
theorem dW(ks:List (_H)):(kZ ks).Perm ks:=List.mergeSort_perm ks Nz
theorem iH(nd:ks.Nodup):SO.eR (kZ ks):=by
 have h1:(kZ ks).Pairwise λa b=>Nz a b=true:=by
  refine List.pairwise_mergeSort (λa b c h1 h2=>?_) (λa b=>?_) ks
  .unfold Nz at h1 h2⊢;rw[YW]at h1 h2⊢;by_cases e1:a=b
   .rw[e1];exact h2
   .by_cases e2:b=c
    .rw[<-e2];exact h1
    .exact SO.g8 (SO.p7 (SO.jV e2 h2) (SO.jV e1 h1))
  .unfold Nz;cases z:SO.lexLt a b with
   |false=>rfl
   |true=>rw[SO.g8 z];rfl
 have h2:(kZ ks).Nodup:=(dW ks).nodup_iff.mpr nd;refine List.Pairwise.imp (λ{a b}h=>?_) (h1.and h2);have z:SO.lexLt a b=false:=by have:=h.1;unfold Nz at this;rwa [YW]at this
 exact SO.jV h.2 z
theorem dF(h:SO.eR ks):ks.Nodup:=List.Pairwise.imp (λ{a b}h e=>by rw[e,SO.jU]at h;cases h) h
theorem p8{a b:List (_H)}(p:a.Perm b)(fa:SO.eR a)(fb:SO.eR b):a=b:=
 List.Perm.eq_of_pairwise (λx y _ _ h1 h2=>by rw[SO.g8 h1]at h2;cases h2) fa fb p
def au(k:_H):ak:=.tup (k.map .int)
def Eg(d:ak)(st:af):cL ak:=match d with
 |.loc n=>match st[n]? with
  |some (.dT aD)=>match lT (aD.map (·.1)) with
   |some ks=>if ks.length<64/\ks.all (λk => !k.isEmpty)=true then .ok (.loc st.length) (st++[.lst ((kZ ks).map au)])else .bad
   |none=>.bad
  |_=>.bad
 |_=>.bad
def mZ(m:ME):ME:=λμ st=>(m μ st).bind Eg
theorem HF{n:Nat}{aD:List (List cT×ak)}(h1:st[n]?=some (.dT aD))(h2:aD.map (·.1)=ks.map iK)(h3:ks.length<64)(h4:∀k∈ks,k≠[]):
  Eg (.loc n) st=.ok (.loc st.length) (st++[.lst ((kZ ks).map au)]):=by
 unfold Eg;dsimp only;rw[h1];dsimp only;rw[h2,wg];dsimp only;rw[VA ⟨h3,Wk.mpr λk m=>by
  cases k with
  |nil=>exact absurd rfl (h4 _ m)
  |cons=>rfl⟩]
theorem Eh{vs:List V}(p:Paired (Mh H) vs ks):bj K ρ H (ks.map au) vs:=by
 induction p with
 |nil=>exact bj.nil
 |cons a _ ih=>
  obtain⟨b,rfl,hb⟩:=a;exact bj.cons (Rl.lH hb (bj.ints _)) ih
section
variable{p cp:Pos}{e:Expr}{j:Nat}
theorem Ei(hc:X.calm=true)(hg:Gl X x)(hm:X.mg x=none)(hv:bootBuiltins x=some (.builtin "sorted"))(ha:PE X e (tE X E md))(hn:x ≠ "__name__":=by decide)(kC:(x==("__debug__":Str))=false:=by decide)(he:starEach [e] X.env=(false,eval e X.env)::starEach [] X.env:=by rfl):PE X (.Call (.Name x p) [e] [⟨some "reverse",.Constant (.bool true) j cp,kp⟩] pos) (tE X E (mZ md)):=by
 refine PE.imp (sJ (wc hc) hg hm hv (fS ha kB he) (zx IZ CO) (by rfl) hn kC (by rw[he];rfl) (by rw[he];rfl) (by rfl) (by rfl)) ?_;rintro σ H Q ⟨μ,ρ,st,rs,sr,h⟩;refine go μ ρ st rs sr h λd a7 ρ1 H1 v e1 cA r1 h1=>?_;show Ed [v] [.bl true] H1 Q;cases d with
 |loc n=>
  obtain⟨a,rfl,ha⟩:=r1.dO;unfold Eg at h1;dsimp only at h1;cases hn:a7[n]? with
  |none=>rw[hn]at h1;exact h1.elim
  |some c=>
   rw[hn]at h1;cases c with
   |dT aD=>
    obtain⟨iV,hd,pr⟩:=cA.cell n _ a hn ha;dsimp only at h1;cases hk:lT (aD.map (·.1)) with
    |none=>rw[hk]at h1;exact h1.elim
    |some ks=>
     rw[hk]at h1;dsimp only at h1;by_cases hz:ks.length<64/\ks.all (λk => !k.isEmpty)=true
     .rw[VA hz]at h1;refine⟨a,iV,ks,rfl,rfl,hd,by rw[<-pr.1];exact we hk,hz.1,λk m z=>?_,λl vs outs hl op fo pv=>?_⟩
      .have:=Wk.mp hz.2 k m;rw[z]at this;cases this
      .have nd:ks.Nodup:=op.nodup_iff.mp (dF fo);have eo:outs=kZ ks:=p8 (op.trans (dW ks).symm) fo (iH nd);rw[eo]at pv;obtain⟨k1,k2,k3⟩:=ie cA (Eh pv) hl;exact h1 _ _ _ k1 k2 k3
     .rw[VL hz]at h1;exact h1.elim
   |_=>exact h1.elim
 |_=>exact h1.elim
end
def gG:List ak->Option (_H)
 |[]=>some []
 |.int i::r=>(gG r).map (i :: ·)
 |_::_=>none
theorem iI:∀{us:List ak}{a:_H},gG us=some a->us=a.map ak.int:=by
 intro us
 induction us with
 |nil=>intro a h;cases h;rfl
 |cons u r ih=>
  intro a h;cases u with
  |int i=>
   replace h:(gG r).map (i :: ·)=some a:=h;cases z:gG r with
   |none=>rw[z]at h;cases h
   |some b=>rw[z]at h;cases h;rw[ih z];rfl
  |_=>cases h
theorem lU(a:_H):gG (a.map ak.int)=some a:=by
 induction a with
 |nil=>rfl
 |cons x a ih=>show(gG (a.map ak.int)).map (x :: ·)=_;rw[ih];rfl
def Pr(us ws:List ak)(st:af):cL ak:=match gG us,gG ws with
 |some a,some b=>if a≠[]/\b≠[]then .ok (.bl (!(SO.lexLt a b))) st else .bad
 |_,_=>.bad
def Mn:F2
 |.int i,.int j,st=>.ok (.bl (decide (j<=i))) st
 |.tup us,.tup ws,st=>Pr us ws st
 |_,_,_=>.bad
theorem Mo{a b:_H}(ha:a≠[])(hb:b≠[]):Mn (.tup (a.map ak.int)) (.tup (b.map ak.int)) st=.ok (.bl (!(SO.lexLt a b))) st:=by show Pr _ _ _=_;unfold Pr;rw[lU,lU];exact VA ⟨ha,hb⟩
theorem bj.lV:∀{a:_H}{vs:List V},bj K ρ H (a.map ak.int) vs->vs=a.map V.int:=by
 intro a
 induction a with
 |nil=>intro vs h;exact h.eM
 |cons x a ih=>
  intro vs h;obtain⟨v,r,rfl,q1,q2⟩:=bj.cP h;rw[Rl.cV q1,ih q2];rfl
theorem Mp(hu:X.A.units<cLine):dN X (compareOp .GtE) (λx y H Q=>∃a b xs ys,x=.ref a/\y=.ref b/\xs≠[]/\ys≠[]/\jq X.K H a (xs.map V.int)/\jq X.K H b (ys.map V.int)/\Q (.bl (!(SO.lexLt xs ys))) H):=by intro ae s σ H x y v u Q I rx ry h;obtain⟨a,b,xs,ys,rfl,rfl,n1,n2,ha,hb,q⟩:=h;cases rx;cases ry;obtain⟨aI,r1,p1,_⟩:=I.tuple ha;obtain⟨dD,r2,p2,_⟩:=I.tuple hb;obtain⟨o,ho,hc,n,hd⟩:=id p1;obtain⟨o2,vm,zy,m,hd2⟩:=id p2;exact SO.Mi hu ⟨n1,a,o,aI.toArray,n,rfl,ho,hc,hd,g9 r1⟩ ⟨n2,b,o2,dD.toArray,m,rfl,vm,zy,hd2,g9 r2⟩ ⟨.bl _,H,I,rfl,q⟩
theorem Ej(hu:X.A.units+64<cLine):dN X (compareOp .GtE) (rM (wo X) E Mn):=by
 refine dN.imp (dN.or N_ (Mp ⋯)) ?_;rintro x y H Q ⟨ρ,st,u,w,sr,r1,r2,h⟩;cases u with
 |int i=>
  cases w with
  |int j=>exact .inl ⟨i,j,r1.cV,r2.cV,d! sr h⟩
  |_=>exact h.elim
 |tup us=>
  cases w with
  |tup ws=>
   replace h:wR (wo X) E (Rl (wo X).K) ρ H Q (Pr us ws st):=h;unfold Pr at h;cases z1:gG us with
   |none=>rw[z1]at h;exact h.elim
   |some a=>
    cases z2:gG ws with
    |none=>rw[z1,z2]at h;exact h.elim
    |some b=>
     rw[z1,z2]at h;dsimp only at h;by_cases hz:a≠[]/\b≠[]
     .rw[VA hz]at h;rw[iI z1]at r1;rw[iI z2]at r2;obtain⟨p,vs,rfl,hp,rp⟩:=r1.fN;obtain⟨p2,SX,rfl,Nk,rp2⟩:=r2.fN;rw[bj.lV rp]at hp;rw[bj.lV rp2]at Nk;exact .inr ⟨p,p2,a,b,rfl,rfl,hz.1,hz.2,hp,Nk,d! sr h⟩
     .rw[VL hz]at h;exact h.elim
  |_=>exact h.elim
 |_=>exact h.elim
section
theorem yp(hc:X.calm=true):ym X (.builtin "max") ["default"] (λxs zs H Q=>∃(a:_O)(ns:_H)(dv:Int),xs=[.ref a]/\zs=[.int dv]/\kf X.K H a (ns.map V.int)/\Q (.int (SO.maxD dv ns)) H):=by intro ae s σ H xs zs us ws Q I rx rz h;obtain⟨a,ns,dv,rfl,rfl,ha,q⟩:=h;obtain⟨u,rfl,r1⟩:=vals1 rx;obtain⟨z,rfl,r2⟩:=vals1 rz;cases r1;obtain⟨t,rfl⟩:=r2;obtain⟨aI,r,p,_⟩:=I.list ha;exact SO.Ef (I.ok.hd hc) p.isList (g9 r) λh' tk t' k=>⟨.int _,H,I.kept k,⟨t',rfl⟩,q⟩
def Ek(v d:ak)(st:af):cL ak:=match v,d with
 |.loc n,.int dv=>match ar st n with
  |some us=>match gG us with
   |some ns=>.ok (.int (SO.maxD dv ns)) st
   |none=>.bad
  |none=>.bad
 |_,_=>.bad
def wj(m md:ME):ME:=λμ st=>(m μ st).bind λv a7=>(md μ a7).bind λd dh=>Ek v d dh
theorem HG{n:Nat}{dv:Int}(h:ar st n=some (ns.map ak.int)):Ek (.loc n) (.int dv) st=.ok (.int (SO.maxD dv ns)) st:=by unfold Ek;dsimp only;rw[h];dsimp only;rw[lU]
variable{p:Pos}{e ed:Expr}
theorem HH(hc:X.calm=true)(hg:Gl X x)(hm:X.mg x=none)(hv:bootBuiltins x=some (.builtin "max"))(ha:PE X e (tE X E m))(hd:PE X ed (tE X E md))(hn:x ≠ "__name__":=by decide)(kC:(x==("__debug__":Str))=false:=by decide)(he:starEach [e] X.env=(false,eval e X.env)::starEach [] X.env:=by rfl):PE X (.Call (.Name x p) [e] [⟨some "default",ed,kp⟩] pos) (tE X E (wj m md)):=by
 refine PE.imp (sJ (yp hc) hg hm hv (fS ha kB he) (zx hd CO) (by rfl) hn kC (by rw[he];rfl) (by rw[he];rfl) (by rfl) (by rfl)) ?_;rintro σ H Q ⟨μ,ρ,st,rs,sr,h⟩;refine go μ ρ st rs sr h λu a7 ρ1 H1 v e1 cA r1 h1=>?_;refine go μ ρ1 a7 (rs.mono e1) cA h1 λd dh ρ2 H2 z e2 nN r2 h2=>?_;have S7:=Rl.mono e2 _ _ r1;cases u with
 |loc n=>
  cases d with
  |int dv=>
   unfold Ek at h2;dsimp only at h2;cases hn:ar dh n with
   |none=>rw[hn]at h2;exact h2.elim
   |some us=>
    rw[hn]at h2;dsimp only at h2;cases hk:gG us with
    |none=>rw[hk]at h2;exact h2.elim
    |some ns=>
     rw[hk]at h2;obtain⟨a,rfl,ha⟩:=S7.dO;obtain⟨vs,h3,rv⟩:=bh nN hn ha;rw[iI hk]at rv;rw[bj.lV rv]at h3;exact⟨a,ns,dv,rfl,by rw[r2.cV],h3,c! nN h2⟩
  |_=>exact h2.elim
 |_=>exact h2.elim
end
end MN
namespace PM
open PySem.Spec L2 MN
open PyProof.Rows hiding St
def bL:FN:=gf 1 5 (aA (aN 1 bI) (aA (d5 (bQ aE) (aq 2) (aA (aN 3 (ai lK (aa bK aj))) (aA (fA (ck (ag gC c5 bI)) (aA (aN 4 (ag dE aW c5)) (aA (aN 1 c5) (aN 3 fV)))) (fL (ck (ag gB aW dJ)) (aK dJ) bz)))) (aK aW)))
def iJ:FN:=gf 2 2 (aK (wj (aO 2 [1] (bQ aE) (bU [(aq 0),(aq 1)]) aw (ag aU aE bK)) (ue dJ)))
def bZ:FN:=gf 2 4 (aA (aN 2 bI) (aA (fL (ck (ag ltV aW (ai cZ (aa aE aj)))) (aN 2 (ag aU aE aW)) bz) (aA (aN 3 (ag dE (ag dg (ag cq (ag dE bK ft) (ag dg (mC (.int 7919)) (ag cq aW dJ))) (mC (.int 48271))) fu)) (aA (aN 3 (ag dE (ag dg (ag dE (ag dg c5 c5) ft) (mC (.int 69621))) fu)) (aK (ag cq (ag dg (ag cq (ag dg (ag eO bK ft) fu) c5) ft) (ag dE (ag dg c5 c5) ft)))))))
def d8:FN:=gf 2 3 (aA (aN 2 (ag dE (ag dg (ag cq (ag cq (ag dE aE (mC (.int 1000000007))) (ag dg (mC (.int 7919)) aW)) (mC (.int 11))) (mC (.int 48271))) fu)) (aK (ag dE (ag dg bK (ag cq (ag dE (ag eO bK (mC (.int 7))) (mC (.int 65536))) Bd)) fu)))
def cb:FN:=gf 2 2 (aA (fL (ck (ag gB aW bI)) (aK (ag q_ (ag dE aE (mC (.int 7))) Bd)) bz) (aA (fL (ck (ag gB aW dJ)) (aK (ag q_ (ag dE aE (mC (.int 199))) (mC (.int 99)))) bz) (aK (ag q_ (ag dE (ag dg (ag dg aE aE) (mC (.int 69621))) (ag cq (ag dg so (ag uc Be vM)) dJ)) (ag uc Be vM)))))
def dq:FN:=gf 1 4 (aA (aN 1 pT) (aA (d5 (bQ aE) (bU [(aq 2),(aq 3)]) (mT aW bK (ag cq (iw aW bK bI) c5))) (aK (aO 1 [1] (bQ (mZ aW)) (aq 0) (ck (ag gC (ag dQ aW aE) bI)) (cQ (aa aE (aa (ag dQ aW aE) aj)))))))
def e!:FN:=gf 2 3 (aA (fA (ck (ag gC aW bI)) (aA (aN 2 (ag dE aE aW)) (aA (aN 0 aW) (aN 1 bK)))) (aK (ai lK (aa aE aj))))
def bo:FN:=gf 1 1 (aK (ai PM.bL (aa (aO 2 [] (bQ aE) (bU [(aq 0),(aq 1)]) aw aW) aj)))
def cf:FN:=gf 2 5 (aA (fL (cH (ck (vP "list" aE))) (aK (mC (.bl false))) bz) (aA (aN 2 (mC .c6)) (aA (d5 (bQ aE) (aq 3) (aA (fL (eV (cH (ck (vP "tuple" c5))) (eV (ck (ag gC (ai cZ (aa c5 aj)) so)) (eV (cH (ck (vP "tuple" (ag aU c5 bI)))) (ck (ag gC (ai cZ (aa (ag aU c5 bI) aj)) aW))))) (aK (mC (.bl false))) bz) (aA (d5 (bQ (ag aU c5 bI)) (aq 4) (fL (eV (cH (ck (ai PM.fg (aa fV aj)))) (ck (ag ltV fV bI))) (aK (mC (.bl false))) bz)) (aA (fL (eV (cH (ck (ai PM.fg (aa (ag aU c5 dJ) aj)))) (eV (ck (ag gB (ag aU c5 dJ) bI)) (pK (ck (ag (QQ true) bK (mC .c6))) (ck (ag Mn (ag aU c5 bI) bK))))) (aK (mC (.bl false))) bz) (aN 2 (ag aU c5 bI)))))) (aK (mC (.bl true))))))
def content:FN:=gf 1 1 (aK (ai PM.bo (aa aE aj)))
def bW:FN:=gf 3 3 (aK (q9 (ai PM.jB (aa aE aj)) (ua Jk Jk aW aE bK)))
def dP:FN:=gf 2 3 (aA (aN 2 (aO 2 [0] (bQ aW) (bU [(aq 0),(aq 1)]) aw (cQ (aa aE (aa (ai PM.bV (aa bK (aa aW aj))) aj))))) (aK (aO 1 [] (bQ bK) (aq 0) (ck (ag gC (ag aU aE dJ) bI)) aE)))
def c9:FN:=gf 1 1 (fL (cH (ck (ai PM.bW (aa aE (aa dJ (aa vL aj)))))) (mQ "NoUnknowns" (aa (qs "a count of unknowns is a whole number from 1 to 4") aj)) bz)
end PM
namespace DL
section
variable{E:_D}{s:_N}
theorem HI:typeLookup (.type "list") "keys" = pure none:=by
 rw[typeLookup_type,builtinLookup_eq_fast]
 kernel_rfl
theorem Bx{a:_O}{o:Obj}{Q:_J->_N->Prop}(hx:s.heap.get? a=some o)(hc:o.cls=.type "list")(rm:o.data=.seq xs k)(hd:o.dict=none)(hA:A.handled=none)(h:∀h' tk,(∀b u,s.heap.get? b=some u->h'.get? b=some u)->Q none {s with heap:=h',toks:=tk}):wpAny (model prog w) A (getAttr? (.ref a) "keys") Q E s:=by
 obtain⟨c,dct,dat,sl⟩:=o;simp only at hc rm hd;subst hc rm hd;obtain⟨hp,g,d,tk,os⟩:=s;have hT:∀Q3,(⟨hp,g,d,Q3,os⟩:_N).TypeIs (.ref a) "list":=λ_=>⟨_,hx,rfl⟩
 have q1:=sub_AttributeError;have q3:=Yr.lookup;have q4:=Yr.bind (.ref a);have q5:=am_list_getattr_none;unfold getAttr? getAttrBy? getAttrBy
 repeat (any_goals (first|assumption|exact hT _|((with_reducible show wpAny _ _ (call (Value.builtin "list.__getattribute__") _ _) _ _ _);refine X8 Yr (hT _) am_entry_list_getattribute (F.args_list_getattribute_2 _ _) (meets_getattribute_miss_list a xs k sl "keys" _ HI ⋯ (by size_fits)) ⟨hx,hA,λh' Q3 e Va=>?_⟩)|wp_step))
 obtain⟨t',u',he⟩:=Va.there;show wpAny _ _ (getattributeRaised _ _ _ _ _ _ _) _ _ _;unfold getattributeRaised
 repeat (any_goals (first|assumption|wp_step))
 exact h _ _ Va.keeps
def m6{K:Type}[DecidableEq K](knd:KeyKind prog w K)(h:Heap)(u:_M)(q:List K×_O×_M):Prop:=
 ∃a o aI n,u=.ref a/\h.get? a=some o/\o.cls=.type "tuple" /\ o.data=.seq aI n/\aI.toList=[.ref q.2.1,q.2.2]/\(tupleKind knd).is h q.1 q.2.1
def Keeps(h h':Heap):Prop:=∀b u,h.get? b=some u->h'.get? b=some u
variable{K:Type}[DecidableEq K]{knd:KeyKind prog w K}
theorem El{h:Heap}{k:List K}{a:_O}(x:(tupleKind knd).is h k a)(hk:Keeps h h'):(tupleKind knd).is h' k a:=by obtain⟨o,aI,n,h1,r⟩:=x;exact⟨o,aI,n,hk _ _ h1,r⟩
theorem m6.mono{h:Heap}{u:_M}{q:List K×_O×_M}(x:m6 knd h u q)(hk:Keeps h h'):m6 knd h' u q:=by obtain⟨a,o,aI,n,e,h1,h2,h3,h4,h5⟩:=x;exact⟨a,o,aI,n,e,hk _ _ h1,h2,h3,h4,El h5 hk⟩
def putAll(qs:List (List K×_O×_M)):List (List K×_O×_M)->List (List K×_O×_M):=λxs=>qs.foldl (λxs q=>storedH xs q.1 q.2.1 q.2.2) xs
theorem m7{h:Heap}{d:_O}{xs:List (List K×_O×_M)}(x:h.DictOfH (tupleKind knd) d xs)(hk:∀b u,b≠it->h.get? b=some u->h'.get? b=some u)(hd:d≠it)(hi:∀u,h.get? it=some u->u.cls≠.type "tuple"):h'.DictOfH (tupleKind knd) d xs:=by obtain⟨o,es,ep,ho,a1,a2,a3,a4,a5⟩:=x;refine⟨o,es,ep,hk _ _ hd ho,a1,a2,a3,λy hy=>?_,a5⟩;obtain⟨o,aI,n,h1,h2,r⟩:=a4 y hy;exact⟨o,aI,n,hk _ _ (λz=>hi o (by rw[<-z];exact h1) h2) h1,h2,r⟩
theorem yq(xs:List (List K×_O×_M))(q:List K×_O×_M):(storedH xs q.1 q.2.1 q.2.2).length<=xs.length+1:=by
 unfold storedH;split
 .rw[Vs];lia
 .rw[VC];exact Vy _
theorem p9:entryFor table "dict.update.loop" = some Builtin.«dict.update.loop»:=entryFor_of_tree (by kernel_rfl)
theorem i!:plainId "dict.update.loop" = true:=by decide +kernel
theorem Pt{B:Heap}{l d:_O}{R:Result->_N->Prop}(hh:A.in1.handled=none)(hu:A.in1.units<cLine)(hl:B.IsList l items)(hd:B.get? d=none)(hi:B.get? it=none)(S8:d≠it):∀(qs:List (List K×_O×_M))(j:Nat)(xs:List (List K×_O×_M))(s:_N),j+qs.length=items.size->(∀i q,qs[i]?=some q->∃u,items[j+i]?=some u/\m6 knd B u q)->Keeps B s.heap->s.heap.IsListIter it l j->s.heap.DictOfH (tupleKind knd) d xs->xs.length+qs.length<=sizeLine ->
  (∀h' tk,Keeps B h'->h'.DictOfH (tupleKind knd) d (putAll qs xs)->R (.ok (.ret .none)) {s with heap:=h',toks:=tk}) ->
  codeAny (model prog w) A (.builtin "dict.update.loop" ⟨[.ref d,.ref it,rawInt (j:Int),.none],[]⟩) R s:=by
 have keep:∀{h h':Heap}{x:_O},Keeps B h->B.get? x=none->Heap.SameBut x h h'->Keeps B h':=λhk hx hs b u e=>(hs.2 b (λz=>by rw[z,hx]at e;cases e)).trans (hk b u e);intro qs
 induction qs with
 |nil=>
  intro j xs s hj hq hk hit S9 hz hR;refine WQ p9 ?_;rw[WU i! _];show wpAny _ A.in1 (pyNext (.ref it) >>= _) _ _ s;obtain⟨ol,S_,S!⟩:=id hl;refine Vp (_t hh hit ⟨ol,hk _ _ S_,S!⟩ (Array.getElem?_eq_none (by simp at hj;lia)) λh' hx=>?_);refine Vp (Vr (Vr (hR h' s.toks (λb u e=>hx b u (λz=>by rw[z,hi]at e;cases e) (hk b u e)) ?_)));obtain⟨oi,i1,i2,_⟩:=hit;exact m7 S9 hx S8 λu e z=>by rw[i1]at e;cases e;rw[i2]at z;exact absurd (ZR z) ⋯
 |cons q qs ih=>
  intro j xs s hj hq hk hit S9 hz hR;obtain⟨u,hu0,hp⟩:=hq 0 q rfl;refine WQ p9 ?_;rw[WU i! _];show wpAny _ A.in1 (pyNext (.ref it) >>= _) _ _ s;obtain⟨ol,S_,S!⟩:=id hl;refine Vp (_i hit ⟨ol,hk _ _ S_,S!⟩ hu0 λh1 S? fY=>?_);have k1:Keeps B h1:=keep hk hi fY;obtain⟨a,o,aI,n,rfl,g1,g2,g3,g4,g5⟩:=hp.mono k1;have d1:h1.DictOfH (tupleKind knd) d xs:=m7 S9 (λb u hb e=>(fY.2 b hb).trans e) S8 λu e z=>by obtain⟨oi,i1,i2,_⟩:=hit;rw[i1]at e;cases e;rw[i2]at z;exact absurd (ZR z) ⋯
  dsimp only;refine Vp (Wj (Vp (W3 ?_)));unfold Builtin.Dict.pairItems;refine Vp (Y! (T:="tuple") ⟨o,g1,g2⟩ ?_);rw[VA ⋯];refine Vp (Wb g1 g3 ?_);refine Vr ?_;show wpAny _ _ (match aI.toList with|[k,v]=>_|l=>_) _ _ _;rw[g4];dsimp only;refine Wj (wpAny_dictSet_heap (hsz:=by simp at hz;lia) hu g5 d1 λh2 d2 fU=>?_);have k2:Keeps B h2:=keep k1 hd fU;refine Vr ⟨W9 i! _,?_⟩;have S':h2.IsListIter it l (j+1):=by obtain⟨oi,i1,r⟩:=S?;exact⟨oi,(fU.2 it (WE S8)).trans i1,r⟩
  have:=ih (j+1) _ {s with heap:=h2,toks:=s.toks+(tupleKind knd).draws q.1} (by simp at hj;lia) (λi q' e=>by
   have:=hq (i+1) q' e;rwa [show j+(i+1)=j+1+i by lia]at this) k2 S' d2 (by have:=yq xs q;simp at hz;lia) λh' tk a b=>hR h' tk a b
  exact this
theorem Pu{l:_O}{o:Obj}{n:Nat}{qs:List (List K×_O×_M)}(hh:A.handled=none)(hu:A.units+2<cLine)(ho:s.heap.get? l=some o)(hc:o.cls=.type "list")(rm:o.data=.seq items n)(Ta:o.dict=none)(hq:∀(i:Nat)q,qs[i]?=some q->∃u,items[i]?=some u/\m6 knd s.heap u q)(hlen:qs.length=items.size)(hz:qs.length<=sizeLine)(h:∀h' tk,Keeps s.heap h'->h'.DictOfH (tupleKind knd) s.heap.objs.size (putAll qs [])->Q (.ref s.heap.objs.size) {s with heap:=h',toks:=tk}):wpAny (model prog w) A (call (.type "dict") [.ref l]) Q E s:=by
 refine callType_codes (Q₁:=λobj s₁=>obj=.ref s.heap.objs.size/\s₁ = {s with heap:=s.heap.push {cls:=.type "dict",data:=.dict #[]} }) F.kt_called_dict (F.kt_typeCall_dict_1 _) F.entry_dict_init (kt_code_dict_new _ ⟨rfl,rfl⟩) ?_;rintro obj s₁ ⟨rfl,rfl⟩;obtain⟨h0,e0⟩:∃h0,h0=s.heap.push {cls:=.type "dict",data:=.dict #[]}:=⟨_,rfl⟩
 have new:h0.DictOfH (tupleKind knd) s.heap.objs.size []:=by rw[e0];exact Heap.DictOfH.new s.heap
 have k0:Keeps s.heap h0:=λb u e=>by rw[e0];exact Vq _ e
 have T:({s with heap:=h0}:_N).TypeIs (.ref s.heap.objs.size) "dict":=Heap.DictOfH.typeIs (s:={s with heap:=h0}) new;rw[<-e0];refine⟨T,F.args_dict_init_2 _ _,?_⟩;unfold Builtin.«dict.__init__»;refine Vp ?_;unfold Builtin.Dict.selfAndRest;refine Vp (YI T ?_);show wpAny _ _ (pure (s.heap.objs.size,[Value.ref l])) _ _ _;refine Vr ?_;show wpAny _ _ (Builtin.Dict.updateFrom "dict.__init__" s.heap.objs.size (.ref l) [] .none) _ _ _;unfold Builtin.Dict.updateFrom;refine Vp (Y! (T:="list") ⟨o,k0 _ _ ho,hc⟩ ?_);rw[VA ⋯];refine Vp (Bx (s:={s with heap:=h0}) (k0 _ _ ho) hc rm Ta hh λh1 tk k1=>?_);rw[VA (show(none:_J).isNone=true from rfl)];refine Vp (W! ?_);have hl:s.heap.IsList l items:=⟨o,ho,hc,n,rm⟩
 have Tb:Keeps s.heap h1:=λb u e=>k1 b u (k0 b u e);refine Vp (Xy (s:={s with heap:=h1,toks:=tk}) (items:=items) ⟨o,Tb _ _ ho,hc,n,rm⟩ ?_);have fresh:s.heap.get? h1.objs.size=none:=by
  cases z:s.heap.get? h1.objs.size with
  |none=>rfl
  |some u=>exact absurd (Vz (Tb _ _ z)) (V9 _)
 have lt:s.heap.objs.size<h1.objs.size:=by obtain⟨q,_,_,hq,_⟩:=new;exact Vz (k1 _ _ hq)
 refine Vr ⟨W9 i! _,?_⟩;obtain⟨h2,e2⟩:∃h2,h2=h1.push {cls:=.type "list_iterator",data:=.fields #[.ref l,.int 0 0]}:=⟨_,rfl⟩
 have k2:∀b u,h1.get? b=some u->h2.get? b=some u:=λb u e=>by rw[e2];exact Vq _ e
 have n0:∀u,h0.get? h1.objs.size=some u->u.cls≠.type "tuple":=λu e=>absurd (Vz (k1 _ _ e)) (V9 _);have:=Pt (knd:=knd) (A:=A.in1) (B:=s.heap) (l:=l) (d:=s.heap.objs.size) (it:=h1.objs.size) (items:=items) (R:=wants (λr s₂=>r=.none/\Q (.ref s.heap.objs.size) s₂) E) hh hu hl (Heap.get?_none_of_le (Vy _)) fresh (VX lt)
  qs 0 [] {s with heap:=h2,toks:=tk} ⋯ (λi q e=>by rw[Wv];exact hq i q e) (λb u e=>k2 b u (Tb b u e)) ⟨_,by rw[e2];exact VI _ rfl,rfl,rfl⟩ (m7 new (λb u _ e=>k2 b u (k1 b u e)) (VX lt) n0) (by simpa using hz) (λh' Q3 a b=>⟨rfl,h h' Q3 a b⟩)
 rw[e2]at this;exact this
end
end DL
namespace L2
open PySem.Spec PyProof.Rows
def Tc(H:Hp)(v:V)(q:List cT×V):Prop:=∃b c,v=.ref b/\H b=some (.tup [.ref c,q.2])/\H c=some (.tup (q.1.map kV))
def putL(kI aD:List (List cT×V)):List (List cT×V):=kI.foldl (λa q=>putK a q.1 q.2) aD
def Mq(K:_G):List V->Hp->VK->Prop:=λxs H Q=>∃a vs kI,xs=[.ref a]/\kf K H a vs/\Paired (Tc H) vs kI/\∀p,H p=none->Q (.ref p) (upd H p (.dT (putL kI [])))
theorem Mr{kI:List (List cT×V)}{qs:List (List cT×_O×_M)}(h:KT H kI qs):∀{aD:List (List cT×V)}{xs:List (List cT×_O×_M)},KT H aD xs->KT H (putL kI aD) (DL.putAll qs xs):=by
 induction h with
 |nil=>exact λr=>r
 | @cons p q ps qs a _ ih=>
  intro aD xs r;have:=r.put p.1 a.2.1 a.2.2;rw[a.1]at this;exact ih (show KT H (putK aD p.1 p.2) (storedH xs q.1 q.2.1 q.2.2)from by rw[a.1];exact this)
theorem wk:∀(kI aD:List (List cT×V)),(putL kI aD).length<=aD.length+kI.length
 |[],aD=>Vy _
 |p::ps,aD=>by have h1:=wk ps (putK aD p.1 p.2);have h2:=ju aD p.1 p.2;show(putL ps (putK aD p.1 p.2)).length<=_;rw[Vt];lia
theorem yr(hh:X.A.handled=none)(hu:X.A.units+64<cLine):bp X (.type "dict") (Mq X.K):=by
 intro ae s σ H xs us Q I rx h;obtain⟨a,vs,kI,rfl,hs,pr,q⟩:=h;obtain⟨u,rfl,r1⟩:=vals1 rx;cases r1;obtain⟨aI,rv,⟨o,n,ho,hc,Ta,rm⟩,hz⟩:=I.list hs;have key:∀{vs:List V}{kI:List (List cT×V)}{aI:_I},Paired (Tc H) vs kI->bw vs aI->∃qs:List (List cT×_O×_M),qs.length=aI.length/\KT H kI qs/\∀(i:Nat)q,qs[i]?=some q->∃u,aI[i]?=some u/\DL.m6 (c_ X.prog X.w) s.heap u q:=by
  intro vs kI aI p
  induction p generalizing aI with
  |nil=>
   intro v;cases v;exact⟨[],rfl,.nil,λi q e=>by cases e⟩
  | @cons x y xs ys b _ ih=>
   intro v;cases v with
   |cons v1 v2=>
    obtain⟨qs,l,k,al⟩:=ih v2;obtain⟨b,c,rfl,hb,NN⟩:=b;cases v1;obtain⟨_,it2,Dg,o2,g1,g2,n2,g3⟩:=(show cj X.prog X.w H s.heap b (.tup [.ref c,y.2])from I.b? b _ hb)
    obtain⟨w1,w2,rfl,z1,z2⟩:=vals2 Dg;cases z1;refine⟨(y.1,c,w2)::qs,by rw[Vt,Vt,l],.cons ⟨rfl,NN,z2⟩ k,λi q e=>?_⟩;cases i with
    |zero=>
     cases e;exact⟨_,rfl,b,o2,_,n2,rfl,g1,g2,g3,rfl,mL I.b? NN⟩
    |succ i=>exact al i q e
 obtain⟨qs,ql,kt,al⟩:=key pr rv;have lv:vs.length=aI.length:=rv.length;have lp:kI.length=qs.length:=X_ kt;refine DL.Pu (knd:=c_ X.prog X.w) (qs:=qs) hh ⋯ ho hc rm Ta (λi q e=>?_) (by rw[ql,VD]) ⋯ λh' tk kp dd=>?_
 .obtain⟨u,e1,e2⟩:=al i q e;exact⟨u,by rw[X!];exact e1,e2⟩
 .have hp:H s.heap.objs.size=none:=I.b?.fresh (Vy _);obtain⟨ob,es,ep,b1,b2,b3,b4,_,b5⟩:=dd;have hl:=wk kI [];refine⟨.ref s.heap.objs.size,_,I.laid (t':=tk) kp (Vy _) (show cj X.prog X.w _ h' _ (.dT (putL kI [])) from⟨by simp at hl;lia,V6.mpr (WE (VX I.big)),_,(Mr kt .nil).keeps λc ys ec=>?_,ob,es,ep,b1,b2,b3,b4,b5⟩),rfl,q _ hp⟩;rw[a8 (λz=>by rw[z,hp]at ec;cases ec)];exact ec
end L2
namespace MN
open PySem.Spec L2
open PyProof.Rows hiding St
def By:List ak->Option (List (List cT×ak))
 |[]=>some []
 |.tup [k,v]::r=>match iX k,By r with
  |some q,some l=>some ((q,v)::l)
  |_,_=>none
 |_=>none
def putAll(l:List (List cT×ak))(a:List (List cT×ak)):List (List cT×ak):=l.foldl (λa q=>ui a q.1 q.2) a
def wm:FN
 |[.loc n],st=>match ar st n with
  |some us=>match By us with
   |some l=>.ok (.loc st.length) (st++[.dT (putAll l [])])
   |none=>.bad
  |none=>.bad
 |_,_=>.bad
theorem Ad:∀{us:List ak}{vs:List V}{l:List (List cT×ak)},bj K ρ H us vs->By us=some l->∃kI,Paired (Tc H) vs kI/\fI K ρ H l kI
 |[],vs,l,r,h=>by cases h;rw[r.eM];exact⟨[],.nil,fI.nil⟩
 |u::us,vs,l,r,h=>by
  obtain⟨v,q!,rfl,r1,r2⟩:=r.cP;unfold By at h;split at h
  .rename_i e;cases e
  .rename_i k x sv e;cases e;split at h
   .rename_i q l' e1 e2;cases h;obtain⟨kI,p1,p2⟩:=Ad r2 e2;obtain⟨b,zs,rfl,hb,rb⟩:=r1.Lb;obtain⟨z1,z2,rfl,rk,rx⟩:=rb.QN;obtain⟨c,rfl,hc⟩:=lM rk e1;exact⟨(q,z2)::kI,.cons ⟨b,c,rfl,hb,hc⟩ p1,fI.cons rx p2⟩
   .cases h
  .cases h
theorem Ae:∀{l:List (List cT×ak)}{kI:List (List cT×V)}{a:List (List cT×ak)}{b:List (List cT×V)},fI K ρ H l kI->fI K ρ H a b->fI K ρ H (putAll l a) (putL kI b)
 |[],kI,a,b,p,r=>by rw[p.eM];exact r
 |(k,u)::l,kI,a,b,p,r=>by obtain⟨v,l',rfl,r',p'⟩:=p.cP;show fI K ρ H (putAll l (ui a k u)) (putL l' (putK b k v));exact Ae p' (r.put k r')
theorem Bz(hh:X.A.handled=none)(hu:X.A.units+64<cLine):bp X (.type "dict") (cM (wo X) E wm):=by
 refine bp.imp (yr hh hu) ?_;rintro xs H Q ⟨ρ,st,us,sr,r,h⟩;unfold wm at h;split at h
 .rename_i n;obtain⟨v,rfl,r1⟩:=r.sj;obtain⟨a,rfl,ha⟩:=r1.dO;split at h
  .rename_i ws e;split at h
   .rename_i l hl;obtain⟨vs,hs,rv⟩:=bh sr e ha;obtain⟨kI,p1,p2⟩:=Ad rv hl;refine⟨a,vs,kI,rfl,hs,p1,λp hp=>?_⟩;have s:=c7 (o:=.dT (putL kI [])) hp;obtain⟨k1,k2,k3⟩:=vT sr hp (c:=.dT (putAll l [])) ⟨_,cg,(Ae p2 fI.nil).mono (aF.snoc p s)⟩;exact h _ _ _ k1 k2 k3
   .exact h.elim
  .exact h.elim
 .exact h.elim
end MN
namespace DL
open PyProof.Rows
theorem BA:fillsNumberSlot (.type "tuple") "mul" = pure false:=
 PySem.fillsNumberSlot_seq (id:="tuple.__mul__") (r:=some (.builtin "tuple.__rmul__")) Zq.lookup (by decide +kernel) Zh.lookup (by decide +kernel)
theorem HJ:seqRepeat? (.type "tuple")=pure (some (.builtin "tuple.__mul__")):=by unfold seqRepeat?;rw[_n (name:="__mul__") (id:="tuple.__mul__") Zq.lookup (by decide +kernel),_n (name:="__rmul__") (id:="tuple.__rmul__") Zh.lookup (by decide +kernel)];rfl
theorem Em(k:Int)(t:Tok)(a:_O)(items:Array _M)(n:Nat)(dd:Option _O)(sl:Array (_J)):
  Meets (Builtin.«int.__rmul__» ⟨[.int k t,.ref a],[]⟩) (λ_ R s=>s.heap.get? a=some {cls:=.type "tuple",dict:=dd,data:=.seq items n,slots:=sl}/\R (.ok (.ret Value.notImplemented)) s):=
 .of_wp λprog w A R s h=>by
  obtain⟨hp,g,d,tk,os⟩:=s;obtain⟨hl,h⟩:=h
  wp_walk
  exact⟨_,rfl,h⟩
section
variable{E:_D}{s:_N}
theorem Td{k:Int}{t:Tok}{Q:Int->_N->Prop}(q:Q k s):wpAny (model prog w) A (asIndex (.int k t)) Q E s:=by unfold asIndex;refine Vp (m:=asInt? (.int k t)) (Vr ?_);exact Vr q
theorem HK{a:_O}{n:Nat}{k:Int}{t:Tok}{o:Obj}{P:PySem.Fin->_N->Prop}(ho:s.heap.get? a=some o)(hc:o.cls=.type "tuple")(hd:o.data=.seq items n)(h1:1<=k)(h2:k<2 ^ 63)(ri:items.isEmpty=false)(hz:items.size*k.toNat<=sizeLine){new:Array _M}(CU:(List.replicate k.toNat items).foldl (· ++ ·) #[]=new)(QC:new.size<=sizeLine)(q1:k=1->P (.done (.ret (.ref a))) s)(h:k≠1->P (.done (.ret (.ref s.heap.objs.size))) {s with heap:=s.heap.push {cls:=.type "tuple",data:=.seq new 0} }):
  wpAny (model prog w) A (Builtin.«tuple.__mul__» ⟨[.ref a,.int k t],[]⟩) P E s:=by
 unfold Builtin.«tuple.__mul__»;refine Vp (m:=asIndex (.int k t)) (Td ?_);dsimp only;rw[VL (by simp only[Y9,Yb];lia)];refine Vp (XU ho hd ?_);rw[ri];have e:((items.size:Int)*k)=((items.size*k.toNat:Nat):Int):=by rw[Int.natCast_mul,YD ⋯]
 by_cases c:k=1
 .rw[VA (by rw[c];rfl)];refine Vp ?_;unfold Builtin.Tuple.tupleIsExact;refine Vp (Y! (T:="tuple") ⟨o,ho,hc⟩ (Vr ?_));rw[VA ⋯];exact Vp (W! (Vr (q1 c)))
 .rw[VL (by simp only[XY,WC];exact c),VL (by simp only[Bool.or_false,Yb];lia),e];rw[VL (by rw[VF]at hz;lia),VL (by unfold Builtin.Tuple.tupleTooMany;simp only[Yb];lia)];unfold Builtin.Tuple.tupleExact;rw[CU];exact Vp (Wf (Vr (h c)) QC)
end
end DL
namespace L2
open PySem.Spec PyProof.Rows
def Pw(K:_G):R2:=λx y H Q=>∃a k xs,x=.ref a/\y=.int k/\jq K H a xs/\xs≠[]/\1<=k/\k<2 ^ 63/\xs.length*k.toNat<=sizeLine /\
 (k=1->Q (.ref a) H)/\(k≠1->∀p,H p=none->Q (.ref p) (upd H p (.tup (List.replicate k.toNat xs).flatten)))
theorem HL:dN X (binaryOp .Mult) (Pw X.K):=by
 intro ae s σ H x y v u Q I rx ry h;obtain⟨a,k,xs,rfl,rfl,ha,hx,h1,h2,hz,q1,q2⟩:=h;cases rx;obtain⟨t,rfl⟩:=ry;obtain⟨aI,r1,p1,_⟩:=I.tuple ha;obtain⟨⟨cls,dd,data,sl⟩,ho,hc,n,hd⟩:=id p1;simp only at hc hd;subst hc hd;have hl:=r1.length;have CU:List.foldl (λx1 x2=>x1++x2) #[] (List.replicate k.toNat aI.toArray)=(List.replicate k.toNat aI).flatten.toArray:=by have:=foldl_rep aI k.toNat [];rw[VB]at this;exact this
 refine ZU (T:="tuple") (U:="int") ⋯ ⟨_,ho,rfl⟩ (λs'=>Y4 s' k t) DL.BA F.fills_int_mul YG DL.HJ F.slot_int_index.lookup
  (X8 YG (Y4 s k t) F.entry_int_rmul (F.args_int_rmul_2 _ _) (DL.Em k t a aI.toArray n dd sl) ⟨ho,rfl,⟨_,ho,rfl⟩,?_⟩)
 refine Wr F.slot_tuple_mul ⟨_,ho,rfl⟩ F.entry_tuple_mul ?_ (F.args_tuple_mul_2 _ _);refine DL.HK ho rfl rfl h1 h2 ?_ (by rw[VD,<-hl];exact hz) CU (by rw[VD,len_rep,<-hl,Zv];exact hz) (λc=>⟨_,rfl,?_⟩) (λc=>⟨_,rfl,?_⟩)
 .cases aI with
  |nil=>exact absurd (r1.oN.mp rfl) hx
  |cons=>rfl
 .exact⟨.ref a,H,I,rfl,q1 c⟩
 .exact⟨.ref s.heap.objs.size,_,I.laid (t':=s.toks) (o:=.tup (List.replicate k.toNat xs).flatten) (λb ob q=>Vq _ q) (Vy _) ⟨by rw[len_rep,Zv];exact hz,_,r1.rep k.toNat,IsTup.new _ _⟩,rfl,q2 c _ (I.b?.fresh (Vy _))⟩
end L2
namespace MN
open PySem.Spec L2
open PyProof.Rows hiding St
def rn:F2
 |.tup us,.int k,st=>if us≠[]/\1<=k/\k<2 ^ 63/\us.length*k.toNat<=sizeLine then .ok (.tup (nO k.toNat us)) st else .bad
 |_,_,_=>.bad
theorem En(us:List ak):nO 1 us=us:=by unfold nO;rw[List.replicate_one,List.flatten_singleton]
theorem HM:dN X (binaryOp .Mult) (rM (wo X) E rn):=by
 refine dN.imp HL ?_;rintro x y H Q ⟨ρ,st,u,w,sr,r1,r2,h⟩;cases u<;>cases w<;>try exact h.elim
 case tup.int us k=>
  unfold rn at h;dsimp only at h;split at h
  .rename_i hz;obtain⟨a,vs,rfl,ha,ra⟩:=r1.fN;refine⟨a,k,vs,rfl,r2.cV,ha,λz=>?_,hz.2.1,hz.2.2.1,by rw[<-ra.length];exact hz.2.2.2,λc=>?_,λc p hp=>?_⟩
   .subst z;exact hz.1 (WB ra.length)
   .subst c;rw[show Int.toNat 1=1 from rfl,En]at h;exact h ρ H _ (aF.refl _ _) sr r1
   .have s:=c7 (o:=.tup (List.replicate k.toNat vs).flatten) hp;exact h ρ _ _ (aF.same s) (sr.grow s) (Rl.lH cg (bj.mono (aF.same s) _ _ (ra.Ly k.toNat)))
  .exact h.elim
end MN
namespace PM
open PySem.Spec L2 MN
open PyProof.Rows hiding St
def constant:FN:=gf 3 3 (aA (dy (ai PM.eY (aa aE aj))) (aA (dy (ai PM.c9 (aa aW aj))) (aK (ai PM.dP (aa aE (aa (df (aa (cQ (aa (ag rn (cQ (aa bI aj)) aW) (aa bK aj))) aj)) aj))))))
end PM
namespace PG
open PySem.Spec L2 MN
open PyProof.Rows hiding St kindOf
theorem gI(i:Int)(st:af):PM.jB [.int i] st=.ok (.bl true) st:=rfl
def FP:_H:=[2,3,5,7,11,13,17,19,23,29,31]
def HN(n:Int):Bool:=FP.contains n || (decide (2<=n)&&decide (n<=997)&&FP.all λp => !(n.fmod p==0))
theorem any_ints(n:Int)(ns:_H):(ns.map ak.int).any (λy=>zR y (.int n))=ns.contains n:=by
 induction ns with
 |nil=>rfl
 |cons m ns ih=>
  simp only[Vv,Xj,List.contains_cons];rw[ih];congr 1;show(m==n)=(n==m);rw[Bool.eq_iff_iff,WC,WC];exact⟨Eq.symm,Eq.symm⟩
theorem HP(n:Int)(ns:_H)(st:af):LB false (.int n) (.mt (ns.map ak.int)) st=.ok (.bl (ns.contains n)) st:=by
 have h1:(ns.map ak.int).all flat=true:=by rw[ZS];exact Wk.mpr λ_ _=>rfl
 unfold LB Jl;dsimp only;rw[VA ⟨rfl,h1⟩,any_ints];rfl
theorem HQ(ns:_H)(f:Int->Bool):jd ((ns.map ak.int).map λv=>match v with|.int i=>.bl (f i)|_=>.c6)=some (ns.map f):=by
 induction ns with
 |nil=>rfl
 |cons m ns ih=>
  simp only[Vv,jd]at ih⊢;rw[ih];rfl
theorem j9(n:Int)(st:af):∃g,PM.cm [.int n] st=.ok (.bl (HN n)) (st++g):=by
 have Jh:LB false (.int n) PM.fC st=.ok (.bl (FP.contains n)) st:=HP n FP st;cases h1:FP.contains n with
 |true=>
  refine⟨[],?_⟩;rw[h1]at Jh;simp![PM.cm,Jh,Wa,HN,h1,ZG]
 |false=>
  rw[h1]at Jh;by_cases h2:n<2
  .refine⟨[],?_⟩;have e2:decide (n<2)=true:=V0 h2;have e3:decide (2<=n)=false:=V2 ⋯;simp![PM.cm,Jh,e2,Wa,HN,h1,e3,XY,Yx]
  .have e2:decide (n<2)=false:=V2 h2;have e3:decide (2<=n)=true:=V0 ⋯;by_cases h3:997<n
   .refine⟨[],?_⟩;have e4:decide (997<n)=true:=V0 h3;have e5:decide (n<=997)=false:=V2 ⋯;simp![PM.cm,Jh,e2,e4,Wa,HN,h1,e3,e5,XY,Yx,YH]
   .have e4:decide (997<n)=false:=V2 h3;have e5:decide (n<=997)=true:=V0 ⋯
    let f:ak->ak:=λv=>match v with|.int i=>.bl (!(n.fmod i==0))|_=>.c6
    have hc:bN (λ_=>True) (aq 0) aw (ag gC (ag dE aW aE) (mC (ak.int 0))) (FP.map ak.int) (fK 1 [0] [some (ak.int n)]) st []=.ok ([]++((FP.map ak.int).filter λ_=>true).map f) st:=by
     refine cB trivial (λτ=>∃x,τ=[x,some (.int n)]) (λ_=>true) f (FP.map ak.int) _ [] ⟨none,rfl⟩ ?_;rintro u hu τ ⟨x,rfl⟩;obtain⟨i,hi,rfl⟩:=VP.mp hu;have Te:¬ i=0:=by intro z;subst z;revert hi;decide
     refine⟨_,rfl,⟨_,rfl⟩,rfl,λ_=>?_⟩;simp![c8 Te,f]
    have hb:jd (((FP.map ak.int).filter λ_=>true).map f)=some (FP.map λi => !(n.fmod i==0)):=by rw[Wq.mpr (λ_ _=>rfl)];exact HQ FP λi => !(n.fmod i==0)
    refine⟨[.lst (((FP.map ak.int).filter λ_=>true).map f)],?_⟩;have ha:pO [.loc st.length] (st++[.lst (((FP.map ak.int).filter λ_=>true).map f)])=.ok (.bl (HN n)) (st++[.lst (((FP.map ak.int).filter λ_=>true).map f)]):=by unfold pO;dsimp only;rw[bS];dsimp only;rw[hb];simp only[HN,h1,e3,e5,XY,YH,ZS];rfl
    have hw:sG PM.fC st=.ok (FP.map ak.int,λ_=>True) st:=rfl;have hz:(FP.map ak.int).length=11:=rfl;rw[VB]at hc;simp![PM.cm,dn,cJ,VF,Jh,e2,e4,hw,hc,ha,hz]
def g_(n:Int):Bool:=n==0 || HN n
theorem wq(n:Int)(st:af):∃g,PM.jQ [.int n] st=.ok (.bl (g_ n)) (st++g):=by
 cases h:n==0 with
 |true=>exact⟨[],by simp![PM.jQ,L6,gI,h,g_,ZG,Wa]⟩
 |false=>
  obtain⟨g,e⟩:=j9 n st;exact⟨g,by simp![PM.jQ,L7,gI,h,g_,XY,e]⟩
theorem ro{n:Int}(h:g_ n=true)(st:af):∃g,PM.eY [.int n] st=.ok .c6 (st++g):=by obtain⟨g,e⟩:=wq n st;rw[h]at e;exact⟨g,by simp![PM.eY,L5,We,e]⟩
theorem yt{x:ak}{r:List ak}:L2.mI (x::r) 0=some x:=by unfold L2.mI Jb;simp
theorem BB{p:Int}(h:HN p=true):2<=p/\p<=997:=by
 unfold HN at h;rw[Y9]at h;rcases h with h|h
 .exact(show ∀q∈FP,2<=q/\q<=997 by decide) p (by simpa using h)
 .simp only[Wt,Yb]at h;omega
theorem Eo{p:Int}(hp:0<p)(i:Int):i.fmod p=i % p:=WT i ⋯
theorem yu{x y:ak}{r:List ak}:L2.mI (x::y::r) 1=some y:=L2.d0 (xs:=x::y::r) (j:=1) rfl
theorem HR{k:Int}(h0:0<=k)(h1:k<(ns.length:Int)):∃c:Int,L2.mI (ns.map ak.int) k=some (.int c):=by
 have hk:k.toNat<ns.length:=⋯
 refine⟨ns[k.toNat],?_⟩;have e:=L2.d0 (xs:=ns.map ak.int) (j:=k.toNat) (v:=.int ns[k.toNat]) (by rw[VV,Vx hk];rfl);rw[show((k.toNat:Nat):Int)=k by lia]at e;exact e
theorem ji{m:Int}(hm:0<m)(i:Int):0<=i.fmod m/\i.fmod m<m:=by rw[Eo hm];exact⟨X5 _ ⋯,Z' _ hm⟩
theorem Px(h:0<j)(h1:j<2 ^ 64):Dz j:=by refine Dz.of (k:=64) ⋯ ?_ ⋯;show j.natAbs<2 ^ 64;lia
def dvP(n:Int)(u:ak):Bool:=match u with
 |.int b=>decide (b<n)&&(n.fmod b==0)
 |_=>false
def Gf(n:Int):List ak:=(cu 2 30).filter (dvP n)
def Py(μ:MN.Env):Nat:=match(μ[1]?:Option (Option ak)) with
 |some (some (ak.int n))=>n.toNat
 |_=>0
theorem p_{g:af->Prop}{a:AS}{e:ME}{st:af}(hg:g st)(I:MN.Env->Prop)(f:Int->ak):∀(ns:_H)(τ:MN.Env)(ys:List ak),I τ ->
  (∀i∈ns,∀τ,I τ->∃τ1,a (.int i) τ=some τ1/\I τ1/\e τ1 st=.ok (f i) st)->bN g a aw e (ns.map ak.int) τ st ys=.ok (ys++ns.map f) st
 |[],τ,ys,_,_=>by rw[VQ];unfold bN;rw[VA hg];simp
 |n::ns,τ,ys,hI,hs=>by obtain⟨τ1,h1,h2,h3⟩:=hs n Vu τ hI;have ih:=p_ hg I f ns τ1 (ys++[f n]) h2 λi hi=>hs i (VJ n hi);rw[Vv];unfold bN;rw[VA hg,h1];dsimp only[aw];rw[h3];dsimp only;rw[ih];simp
def eG(lo:Int)(n:Nat):_H:=(List.range n).map λ(i:Nat)=>lo+(i:Int)
theorem dk(lo:Int)(n:Nat):cu lo n=(eG lo n).map ak.int:=by unfold cu eG;rw[VR];rfl
theorem at_getD{i:Int}(h0:0<=i)(h1:i<(ns.length:Int)):L2.mI (ns.map ak.int) i=some (.int (ns.getD i.toNat 0)):=by
 have hk:i.toNat<ns.length:=⋯
 have e:=L2.d0 (xs:=ns.map ak.int) (j:=i.toNat) (v:=.int ns[i.toNat]) (by rw[VV,Vx hk];rfl);rw[show((i.toNat:Nat):Int)=i by lia]at e;rw[e,Ww,Vx hk];rfl
theorem f_{n:Nat}{k:Int}(h:ar st n=some (ns.map ak.int))(k0:0<=k)(k1:k<=1000):∃o,PM.bZ [.loc n,.int k] st=.ok (.int o) st:=by
 have len:((List.map ak.int ns).length:Int)=(ns.length:Int):=by rw[Vs]
 have dz:Dz 2147483629:=Px ⋯ ⋯;have fin:∀c:Int,((decide (k<((List.map ak.int ns).length:Int))=false/\c=0)\/(decide (k<((List.map ak.int ns).length:Int))=true/\L2.mI (ns.map ak.int) k=some (.int c)))->∃o,PM.bZ [.loc n,.int k] st=.ok (.int o) st:=by
  intro c hc;have q1:=ji (m:=2147483647) ⋯ ((c.fmod 2147483629+7919*(k+1))*48271);generalize hx:((c.fmod 2147483629+7919*(k+1))*48271).fmod 2147483647=x at q1;have q2:=ji (m:=2147483629) ⋯ (x*x);have q3:=ji (m:=2147483647) ⋯ ((x*x).fmod 2147483629*69621);generalize hy:((x*x).fmod 2147483629*69621).fmod 2147483647=y at q3;refine⟨(c.fdiv 2147483629*2147483647+y)*2147483629+(y*y).fmod 2147483629,?_⟩;have m1:∀s,dg (.int x) (.int x) s=.ok (.int (x*x)) s:=λs=>jD ⋯ ⋯;have m2:∀s,dg (.int y) (.int y) s=.ok (.int (y*y)) s:=λs=>jD ⋯ ⋯;rcases hc with⟨h1,rfl⟩|⟨h1,h2⟩
  .simp![PM.bZ,VT,d6 h,h1,c8 (j:=2147483629) ⋯,jD (i:=7919) ⋯ ⋯,mul_r (j:=48271) ⋯ ⋯,c8 (j:=2147483647) ⋯,hx,m1,mul_r (j:=69621) ⋯ ⋯,hy,m2,div_ii dz,mul_r (j:=2147483647) ⋯ ⋯,mul_r (j:=2147483629) ⋯ ⋯]
  .simp![PM.bZ,VT,d6 h,h1,eZ h h2,c8 (j:=2147483629) ⋯,jD (i:=7919) ⋯ ⋯,mul_r (j:=48271) ⋯ ⋯,c8 (j:=2147483647) ⋯,hx,m1,mul_r (j:=69621) ⋯ ⋯,hy,m2,div_ii dz,mul_r (j:=2147483647) ⋯ ⋯,mul_r (j:=2147483629) ⋯ ⋯]
 by_cases hk:k<(ns.length:Int)
 .obtain⟨c,hc⟩:=HR k0 hk;exact fin c (.inr ⟨V0 (by rw[len];exact hk),hc⟩)
 .exact fin 0 (.inl ⟨V2 (by rw[len];exact hk),rfl⟩)
theorem yw(c kind:Int)(c0:0<=c)(c1:c<2147483647):∃v,(∀st,PM.cb [.int c,.int kind] st=.ok (.int v) st)/\-(10 ^ 20)<=v/\v<=10 ^ 20:=by
 have cp:AN 10 20:=by decide
 have tn:(10:Int) ^ Int.toNat 20=100000000000000000000:=by decide
 have m1:∀s,dg (.int c) (.int c) s=.ok (.int (c*c)) s:=λs=>jD ⋯ ⋯;by_cases h0:kind=0
 .have e0:(kind==0)=true:=by rw[h0];rfl
  have q:=ji (m:=7) ⋯ c;refine⟨c.fmod 7-3,λst=>?_,⋯,⋯⟩;simp![PM.cb,e0,c8 (j:=7) ⋯]
 .have e0:(kind==0)=false:=by simpa using h0
  by_cases h1:kind=1
  .have e1:(kind==1)=true:=by rw[h1];rfl
   have q:=ji (m:=199) ⋯ c;refine⟨c.fmod 199-99,λst=>?_,⋯,⋯⟩;simp![PM.cb,e0,e1,c8 (j:=199) ⋯]
  .have e1:(kind==1)=false:=by simpa using h1
   have q:=ji (m:=2*100000000000000000000+1) ⋯ (c*c*69621);refine⟨(c*c*69621).fmod (2*100000000000000000000+1)-100000000000000000000,λst=>?_,⋯,⋯⟩;simp![PM.cb,e0,e1,m1,mul_r (j:=69621) ⋯ ⋯,D5 cp,tn,jD (i:=2) ⋯ ⋯,c8 (j:=2*100000000000000000000+1) ⋯]
abbrev aC:=List Int×Int
def tV(t:aC):ak:=.tup [au t.1,.int t.2]
def eD(t:aC):List cT×ak:=(iK t.1,.int t.2)
def ba(A:List aC)(k:_H):Int:=((A.find? λp=>decide (p.1=k)).map (·.2)).getD 0
def gj(A:List aC)(k:_H)(v:Int):List aC:=if A.any (λp=>decide (p.1=k))then A.map (λp=>if p.1=k then(p.1,v)else p)else A++[(k,v)]
theorem Ep(a k:_H):decide (iK a=iK k)=decide (a=k):=by
 by_cases h:a=k
 .rw[h,V0 rfl,V0 rfl]
 .rw[V2 h,V2 λe=>h (yn e)]
theorem uw(k:_H):∀A:List aC,q? (A.map eD) (iK k)=(A.find? λp=>decide (p.1=k)).map λp=>ak.int p.2
 |[]=>rfl
 |p::A=>by
  unfold q?;rw[Vv,Xg,Xg];show Option.map _ (match decide (iK p.1=iK k) with|true=>some (eD p)|false=>_)=_;rw[Ep];cases decide (p.1=k) with
  |true=>rfl
  |false=>exact uw k A
theorem Er(k:_H):∀A:List aC,((A.map eD).any λkv=>decide (kv.1=iK k))=A.any λp=>decide (p.1=k)
 |[]=>rfl
 |p::A=>by rw[Vv,Xj,Xj,Er k A];show(decide (iK p.1=iK k) || _)=_;rw[Ep]
theorem Af(A:List aC)(k:_H)(v:Int):ui (A.map eD) (iK k) (.int v)=(gj A k v).map eD:=by
 unfold ui gj;rw[Er];by_cases h:(A.any λp=>decide (p.1=k))=true
 .rw[VA h,VA h,VR,VR];refine Wc λp _=>?_;show(if iK p.1=iK k then(iK p.1,ak.int v)else eD p)=eD (if p.1=k then(p.1,v)else p);by_cases e:p.1=k
  .rw[VA e,VA (by rw[e])];rfl
  .rw[VL e,VL λz=>e (yn z)]
 .rw[VL h,VL h,WW];rfl
theorem jW(k:_H):iX (au k)=some (iK k):=by
 have h:∀k:_H,keysOf (k.map ak.int)=some (iK k):=by
  intro k
  induction k with
  |nil=>rfl
  |cons x k ih=>
   rw[Vv];unfold keysOf;show(match pS (ak.int x),keysOf (k.map ak.int) with|some a,some b=>some (a::b)|_,_=>none)=_;rw[ih];rfl
 show keysOf (k.map ak.int)=_;exact h k
theorem uz{A:List aC}(h:st[d]?=some (.dT (A.map eD)))(k:_H):lN st (.loc d) (au k)=some ((A.find? λp=>decide (p.1=k)).map λp=>ak.int p.2):=by unfold lN;dsimp only;rw[h];dsimp only;rw[jW,Option.map_some,uw]
theorem sL{A:List aC}(h:st[d]?=some (.dT (A.map eD)))(hl:A.length<sizeLine)(k:_H)(v:Int):kG st (.loc d) (au k) (.int v)=some (st.set d (.dT ((gj A k v).map eD))):=by unfold kG;dsimp only;rw[h];dsimp only;rw[VA (by rw[Vs];exact hl),jW,Option.map_some,Af]
theorem sM(A:List aC)(k:_H):((A.find? λp=>decide (p.1=k)).map λp=>ak.int p.2).getD (.int 0)=.int (ba A k):=by
 unfold ba;cases A.find? λp=>decide (p.1=k) with
 |none=>rfl
 |some p=>rfl
theorem BC{A:List aC}{k:_H}{v:Int}:(gj A k v).map (·.1)=if A.any (λp=>decide (p.1=k))then A.map (·.1)else A.map (·.1)++[k]:=by
 unfold gj;by_cases h:(A.any λp=>decide (p.1=k))=true
 .rw[VA h,VA h,VR];refine Wc λp _=>?_;show(if p.1=k then(p.1,v)else p).1=p.1;split<;>rfl
 .rw[VL h,VL h,WW];rfl
theorem uA{A:List aC}{k:_H}:(A.any λp=>decide (p.1=k))=true↔k∈A.map (·.1):=by
 rw[List.any_eq_true,VP];constructor
 .rintro⟨p,hp,e⟩;exact⟨p,hp,Xq e⟩
 .rintro⟨p,hp,e⟩;exact⟨p,hp,V0 e⟩
theorem kJ{A:List aC}(h:(A.map (·.1)).Nodup)(k:_H)(v:Int):((gj A k v).map (·.1)).Nodup:=by
 rw[BC];by_cases c:(A.any λp=>decide (p.1=k))=true
 .rw[VA c];exact h
 .rw[VL c];refine Ys.mpr ⟨h,YB _ _,?_⟩;intro a ha b hb e;rw[VZ.mp hb]at e;exact c (uA.mpr (e▸ha))
theorem wt{A:List aC}{k:_H}{v:Int}:(gj A k v).length<=A.length+1:=by
 unfold gj;split
 .rw[Vs];lia
 .rw[VC];exact Vy _
theorem p!{A:List aC}{k:_H}{v:Int}{t:aC}(h:t∈gj A k v):t∈A\/t=(k,v):=by
 unfold gj at h;split at h
 .obtain⟨p,hp,e⟩:=VP.mp h;by_cases c:p.1=k
  .rw[VA c]at e;exact .inr (by rw[<-e,c])
  .rw[VL c]at e;exact .inl (by rw[<-e];exact hp)
 .rcases W8.mp h with h|h
  .exact .inl h
  .exact .inr (VZ.mp h)
theorem wu{A:List aC}{k:_H}(h:k∈A.map (·.1)):(k,ba A k)∈A:=by
 unfold ba;cases z:A.find? λp=>decide (p.1=k) with
 |none=>
  rw[Ym]at z;obtain⟨p,hp,e⟩:=VP.mp h;exact absurd (V0 e) (z p hp)
 |some p=>
  have e:=List.find?_some z;have m:=_h z;have e':p.1=k:=Xq e;show(k,p.2)∈A;rw[<-e'];exact m
theorem yx{A:List aC}{k:_H}{b:Int}(b0:0<=b)(h:∀t∈A,-b<=t.2/\t.2<=b):-b<=ba A k/\ba A k<=b:=by
 unfold ba;cases z:A.find? λp=>decide (p.1=k) with
 |none=>show -b<=0/\(0:Int)<=b;lia
 |some p=>exact h p (_h z)
abbrev BD:MB:=mT aW bK (ag cq (iw aW bK bI) c5)
theorem Et{s:af}{p:Nat}{A:List aC}{k:_H}{v:Int}(h:s[d]?=some (.dT (A.map eD)))(hl:A.length<sizeLine):
  BD [qL p, qL d, some (au k), qI v] s=.nx [qL p, qL d, some (au k), qI v] (s.set d (.dT ((gj A k (ba A k+v)).map eD))):=by
 have hd:pU s (.loc d)=true:=by unfold pU;dsimp only;rw[h]
 have e1:iw aW bK bI [qL p, qL d, some (au k), qI v] s=.ok (.int (ba A k)) s:=by show(if pU s (.loc d)=true then(match lN s (.loc d) (au k) with|some o=>cL.ok (o.getD (.int 0)) s|none=>.bad)else .bad)=_;rw[VA hd,uz h k];show cL.ok (Option.getD _ (ak.int 0)) s=_;rw[sM]
 have e2:ag cq (iw aW bK bI) c5 [qL p, qL d, some (au k), qI v] s=.ok (.int (ba A k+v)) s:=by unfold ag;rw[e1];rfl
 unfold BD mT;rw[e2];show(match kG s (.loc d) (au k) (.int (ba A k+v)) with|some mP=>dI.nx _ mP|none=>.bad)=_;rw[sL h hl]
theorem set_dict(st:af)(a b:List (List cT×ak)):(st++[bx.dT a]).set st.length (.dT b)=st++[.dT b]:=D8 st _ _
theorem uB(st:af)(a:List (List cT×ak)):(st++[bx.dT a])[st.length]?=some (.dT a):=by rw[VN (Vy _),WJ];rfl
def told(A:List aC):List aC:=((kZ (A.map (·.1))).filter λk=>ba A k !=0).map λk=>(k,ba A k)
def Jz:ak->_H
 |.tup us=>(gG us).getD []
 |_=>[]
theorem wx(k:_H):Jz (au k)=k:=by show(gG (k.map ak.int)).getD []=k;rw[lU];rfl
theorem uC{s:af}{A:List aC}{k:_H}(h:s[d]?=some (.dT (A.map eD)))(hk:k∈A.map (·.1)):dQ (.loc d) (au k) s=.ok (.int (ba A k)) s:=by
 unfold dQ;rw[uz h k];unfold ba;cases z:A.find? λp=>decide (p.1=k) with
 |none=>
  rw[Ym]at z;obtain⟨p,hp,e⟩:=VP.mp hk;exact absurd (V0 e) (z p hp)
 |some p=>rfl
abbrev Pz:MT:=ck (ag gC (ag dQ aW aE) bI)
abbrev PB:ME:=cQ (aa aE (aa (ag dQ aW aE) aj))
theorem Eu{g:af->Prop}{s:af}{A:List aC}(hg:g s)(h:s[d]?=some (.dT (A.map eD))):bN g (aq 0) Pz PB ((kZ (A.map (·.1))).map au) [none,some (.loc d)] s []=.ok ((told A).map tV) s:=by
 have:=cB (a:=aq 0) (c:=Pz) (e:=PB) hg (λτ=>∃x,τ=[x,some (.loc d)]) (λv=>ba A (Jz v) !=0) (λv=>.tup [v,.int (ba A (Jz v))]) ((kZ (A.map (·.1))).map au) [none,some (.loc d)] [] ⟨_,rfl⟩ ?_
 .rw[this,VB];congr 1;unfold told;rw[Y2,VR,VR];have e:((λv=>ba A (Jz v) !=0) ∘ au)=λk=>ba A k !=0:=by funext k;show(ba A (Jz (au k)) !=0)=_;rw[wx]
  rw[e];refine Wc λk _=>?_;show ak.tup [au k,.int (ba A (Jz (au k)))]=_;rw[wx];rfl
 .rintro u hu τ ⟨x,rfl⟩;obtain⟨k,hk,rfl⟩:=VP.mp hu;have hk':=(dW _).mem_iff.mp hk;have e0:aE [some (au k),some (.loc d)] s=.ok (au k) s:=rfl;have e1:ag dQ aW aE [some (au k),some (.loc d)] s=.ok (.int (ba A k)) s:=by show dQ (.loc d) (au k) s=_;exact uC h hk'
  refine⟨[some (au k),some (.loc d)],rfl,⟨_,rfl⟩,?_,λ_=>?_⟩
  .rw[wx];show ck (ag gC (ag dQ aW aE) bI) [some (au k),some (.loc d)] s=_;rw[aY,aL,e1];simp only[ao,a9,aJ,cN,a!,iD];rfl
  .rw[wx];simp only[fO,aG,e0,e1,ao,aT,aH,aS,jg];exact VA (by rw[VF];show 2<=16777216;decide)
theorem Ew{μ:MN.Env}:mZ m μ st=(m μ st).f9 Eg:=lO
theorem jX{α:Type}{g:af->Prop}{a:AS}{e:ME}{st:af}(hg:g st)(I:MN.Env->Prop)(enc f:α->ak):∀(xs:List α)(τ:MN.Env)(ys:List ak),I τ ->
  (∀x∈xs,∀τ,I τ->∃τ1,a (enc x) τ=some τ1/\I τ1/\e τ1 st=.ok (f x) st)->bN g a aw e (xs.map enc) τ st ys=.ok (ys++xs.map f) st
 |[],τ,ys,_,_=>by rw[VQ];unfold bN;rw[VA hg];simp
 |n::ns,τ,ys,hI,hs=>by obtain⟨τ1,h1,h2,h3⟩:=hs n Vu τ hI;have ih:=jX hg I enc f ns τ1 (ys++[f n]) h2 λi hi=>hs i (VJ n hi);rw[Vv];unfold bN;rw[VA hg,h1];dsimp only[aw];rw[h3];dsimp only;rw[ih];simp
theorem BE{g:af->Prop}{a:AS}{e:ME}{y:ak}{τ τ1:MN.Env}{a7:af}{ys:List ak}(hg:g st)(h1:a u τ=some τ1)(h2:e τ1 st=.ok y a7):bN g a aw e (u::us) τ st ys=bN g a aw e us τ1 a7 (ys++[y]):=by rw[bN];rw[VA hg,h1];dsimp only[aw];rw[h2]
theorem BF{g:af->Prop}{a:AS}{c:MT}{e:ME}{τ:MN.Env}{ys:List ak}(hg:g st):bN g a c e [] τ st ys=.ok ys st:=by rw[bN,VA hg]
def yy(a k:Int):Int:=((a.fmod 1000000007+7919*k+11)*48271).fmod 2147483647
def wy(a k:Int):Int:=(yy a k*(((yy a k).fdiv 7).fmod 65536+3)).fmod 2147483647
theorem HS(a k:Int):0<=wy a k/\wy a k<2147483647:=ji ⋯ _
theorem Ex(a k:Int)(st:af):PM.d8 [.int a,.int k] st=.ok (.int (wy a k)) st:=by have d7:Dz 7:=Px ⋯ ⋯;have q1:0<=yy a k/\yy a k<2147483647:=ji ⋯ _;have hx:((a.fmod 1000000007+7919*k+11)*48271).fmod 2147483647=yy a k:=rfl;have m1:∀(j:Int)s,dg (.int (yy a k)) (.int j) s=.ok (.int (yy a k*j)) s:=λj s=>jD ⋯ ⋯;simp![PM.d8,VT,c8 (j:=1000000007) ⋯,jD (i:=7919) ⋯ ⋯,mul_r (j:=48271) ⋯ ⋯,c8 (j:=2147483647) ⋯,hx,div_ii d7,c8 (j:=65536) ⋯,m1];rfl
def gm(cell k power:Int)(ah:Nat):_H:=(eG 0 ah).map λj=>(wy cell (5*k+j)).fmod (power+1)
theorem Ey(cell k power:Int)(ah:Nat):(gm cell k power ah).length=ah:=by unfold gm eG;rw[Vs,Vs,V!]
theorem HU{k:Int}(hp:0<=power):∀e∈gm cell k power ah,0<=e:=by intro e he;obtain⟨j,_,rfl⟩:=VP.mp he;exact(ji ⋯ _).1
abbrev NA:ME:=ag dE (ai PM.d8 (aa aW (aa (ag cq (ag dg Lp bK) aE) aj))) (ag cq c5 dJ)
theorem BG{k:Int}(hp:0<=power)(s:af):bN (λ_=>True) (aq 0) aw NA (cu 0 ah) [qn, qI cell, qI k, qI power] s []=.ok ((gm cell k power ah).map ak.int) s:=by
 have:=cB (a:=aq 0) (c:=aw) (e:=NA) (g:=λ_=>True) (st:=s) trivial (λτ=>∃x,τ=[x, qI cell, qI k, qI power]) (λ_=>true)
  (λv=>match v with|.int j=>.int ((wy cell (5*k+j)).fmod (power+1))|_=>v) (cu 0 ah) [qn, qI cell, qI k, qI power] [] ⟨_,rfl⟩ ?_
 .rw[this,VB,dk,Wq.mpr λ_ _=>rfl,VR];unfold gm;rw[VR];rfl
 .rintro u hu τ ⟨x,rfl⟩;rw[dk]at hu;obtain⟨j,hj,rfl⟩:=VP.mp hu;refine⟨_,rfl,⟨_,rfl⟩,rfl,λ_=>?_⟩;simp![NA,jD (i:=5) ⋯ ⋯,Ex,c8 (j:=power+1) ⋯]
structure eh(ah:Nat)(D:List aC):Prop where
 p?:SO.eR (D.map (·.1))
 len:∀t∈D,t.1.length=ah
 nn:∀t∈D,∀e∈t.1,0<=e
 nz:∀t∈D,t.2≠0
abbrev PD:MB:=aA (aN 7 (ai gY (aa (aO 1 [0,6,3] (b_ (aa aW aj)) (aq 0) aw NA) aj))) (dy (g6 de kY (aa (cQ (aa zO (aa (ai PM.cb (aa (ai PM.d8 (aa aE (aa (ag cq (ag dg Lp oP) vL) aj))) (aa fV aj))) aj))) aj)))
theorem HV{terms kind k v:Int}{g:af}{P:List aC}{x7:Option ak}(hm:ah<=4)(hp:0<=power)(hP:P.length<=63)(hv:∀s,PM.cb [.int (wy cell (5*k+4)),.int kind] s=.ok (.int v) s):
  PD [qI cell, qI ah, qI terms, qI power, qI kind, qL st.length, qI k, x7] (st ++ .lst (P.map tV)::g) =
   .nx [qI cell, qI ah, qI terms, qI power, qI kind, qL st.length, qI k, some (au (gm cell k power ah))] (st ++ .lst ((P++[(gm cell k power ah,v)]).map tV)::(g++[.lst ((gm cell k power ah).map ak.int)])):=by
 obtain⟨M,hM⟩:=NE ((ah:Int):Int)
 obtain⟨s,hs⟩:=ZB (st++bx.lst (P.map tV)::g)
 rw[hs,<-hM];have Q4:=iY (st:=s) (j:=M) ⋯ ⋯;rw[show M.toNat=ah by lia]at Q4;have rl:(cu 0 ah).length=ah:=by rw[dk];unfold eG;rw[Vs,Vs,V!]
 have kF:fK 1 [0,6,3] [some (ak.int cell), qI M, qI terms, qI power, qI kind, qL st.length, qI k, x7]=[qn, qI cell, qI k, qI power]:=rfl;have sz:ah<=sizeLine:=by rw[VF];lia
 have comp:aO 1 [0,6,3] (b_ (aa aW aj)) (aq 0) aw NA [qI cell, qI M, qI terms, qI power, qI kind, qL st.length, qI k, x7] s=.ok (.loc s.length) (s++[.lst ((gm cell k power ah).map ak.int)]):=by
  have a1:b_ (aa aW aj) [some (ak.int cell), qI M, qI terms, qI power, qI kind, qL st.length, qI k, x7] s=.ok (cu 0 ah,λ_=>True) s:=by simp![Q4]
  rw[cJ,a1,ao,dn,VA (by rw[rl];exact sz),kF,BG hp,ao,eQ]
 obtain⟨s2,fU⟩:=ZB (s++[bx.lst ((gm cell k power ah).map ak.int)])
 have tup:gY [.loc s.length] s2=.ok (au (gm cell k power ah)) s2:=by rw[<-fU];exact iZ (bS s _)
 have Tf:aN 7 (ai gY (aa (aO 1 [0,6,3] (b_ (aa aW aj)) (aq 0) aw NA) aj)) [qI cell, qI M, qI terms, qI power, qI kind, qL st.length, qI k, x7] s =
   .nx [qI cell, qI M, qI terms, qI power, qI kind, qL st.length, qI k, some (au (gm cell k power ah))] s2:=by
  rw[cG,aP,aG,comp,ao,aT,aS,ao,aH,ao,fU,tup];rfl
 have cellAt:s2[st.length]?=some (.lst (P.map tV)):=by rw[<-fU,<-hs,VU];exact Mc st _ _
 have ap:=jT (v:=tV (gm cell k power ah,v)) cellAt (by rw[Vs,VF];lia);have arg:aa (cQ (aa zO (aa (ai PM.cb (aa (ai PM.d8 (aa aE (aa (ag cq (ag dg Lp oP) vL) aj))) (aa fV aj))) aj))) aj
   [qI cell, qI M, qI terms, qI power, qI kind, qL st.length, qI k, some (au (gm cell k power ah))] s2=.ok [tV (gm cell k power ah,v)] s2:=by
  have v7:zO [some (ak.int cell), qI M, qI terms, qI power, qI kind, qL st.length, qI k, some (au (gm cell k power ah))] s2=.ok (au (gm cell k power ah)) s2:=rfl;simp![v7,VF,jD (i:=5) ⋯ ⋯,Ex,hv];rfl
 have v5:kY [some (ak.int cell), qI M, qI terms, qI power, qI kind, qL st.length, qI k, some (au (gm cell k power ah))] s2=.ok (.loc st.length) s2:=rfl;have es:s2.set st.length (.lst (P.map tV++[tV (gm cell k power ah,v)]))=st ++ .lst ((P++[(gm cell k power ah,v)]).map tV)::(g++[.lst ((gm cell k power ah).map ak.int)]):=by rw[<-fU,<-hs,VU];show(st++bx.lst (P.map tV)::(g++[.lst ((gm cell k power ah).map ak.int)])).set _ _=_;rw[uq,WW];rfl
 unfold PD;rw[<-es,ax,Tf,aB,ig,mX,v5,ao,sH cellAt,arg,ao,z?,ap];rfl
def Ez(a:Nat)(t:aC):Int:=t.1.getD a 0
def Ag(D:List aC)(a:Nat):Int:=SO.maxD (-1) (D.map (Ez a))
def qW:ak->aC
 |.tup [k,.int n]=>(Jz k,n)
 |_=>([],0)
theorem ki(t:aC):qW (tV t)=t:=by show(Jz (au t.1),t.2)=t;rw[wx]
theorem Ms{k:_H}{a:Nat}(h:a<k.length)(s:af):aU (au k) (.int (a:Int)) s=.ok (.int (k.getD a 0)) s:=by have:=at_getD (ns:=k) (i:=(a:Int)) ⋯ ⋯;rw[Wi]at this;exact bE this
theorem EA{g:af->Prop}{s:af}{D:List aC}{a:Nat}(hg:g s)(S:eh ah D)(ha:a<ah):
  bN g (bU [aq 0,aq 1]) aw (ag aU aE bK) (D.map tV) [qn, qn, qI (a:Int)] s []=.ok ((D.map (Ez a)).map ak.int) s:=by
 have:=cB (a:=bU [aq 0,aq 1]) (c:=aw) (e:=ag aU aE bK) hg (λτ=>∃x y,τ=[x, y, qI (a:Int)]) (λ_=>true) (λv=>.int (Ez a (qW v))) (D.map tV) [qn, qn, qI (a:Int)] [] ⟨_,_,rfl⟩ ?_
 .rw[this,VB,Wq.mpr λ_ _=>rfl,VR,VR];congr 1;refine Wc λt _=>?_;show ak.int (Ez a (qW (tV t)))=_;rw[ki];rfl
 .rintro u hu τ ⟨x,y,rfl⟩;obtain⟨t,ht,rfl⟩:=VP.mp hu;refine⟨[some (au t.1),some (.int t.2),some (.int (a:Int))],rfl,⟨_,_,rfl⟩,rfl,λ_=>?_⟩;show aU (au t.1) (.int (a:Int)) s=_;rw[ki];exact Ms (by rw[S.len t ht];exact ha) s
theorem nP{p a:Nat}{D:List aC}(h:ar st p=some (D.map tV))(hl:D.length<=1000000)(S:eh ah D)(ha:a<ah):
  PM.iJ [.loc p,.int (a:Int)] st=.ok (.int (Ag D a)) (st++[.lst ((D.map (Ez a)).map ak.int)]):=by
 have kF:fK 2 [1] [some (ak.loc p),some (.int (a:Int))]=[qn, qn, qI (a:Int)]:=rfl;have comp:aO 2 [1] (bQ aE) (bU [aq 0,aq 1]) aw (ag aU aE bK) [some (.loc p),some (.int (a:Int))] st=.ok (.loc st.length) (st++[.lst ((D.map (Ez a)).map ak.int)]):=by have v0:aE [some (ak.loc p),some (.int (a:Int))] st=.ok (.loc p) st:=rfl;rw[cJ,cy,v0,ao,bH h,ao,dn,VA (by rw[Vs,VF];lia),kF,EA h S ha,ao,eQ]
 have mx:=HG (dv:=-1) (bS st ((D.map (Ez a)).map ak.int));have body:wj (aO 2 [1] (bQ aE) (bU [aq 0,aq 1]) aw (ag aU aE bK)) (ue dJ) [some (.loc p),some (.int (a:Int))] st=.ok (.int (Ag D a)) (st++[.lst ((D.map (Ez a)).map ak.int)]):=by unfold wj;rw[comp];show Ek (.loc st.length) (.int (-1)) (st++[.lst ((D.map (Ez a)).map ak.int)])=_;exact mx
 unfold PM.iJ;rw[aZ (np:=2) (us:=[ak.loc p,.int (a:Int)]) rfl];show(aK (wj (aO 2 [1] (bQ aE) (bU [aq 0,aq 1]) aw (ag aU aE bK)) (ue dJ)) [some (.loc p),some (.int (a:Int))] st).fin=_;rw[aQ,body];rfl
abbrev Q5:MB:=aN 2 (ai SQ (aa bK (aa (ag aU c5 aW) aj)))
def j_(g:Nat):_H->Nat
 |[]=>g
 |n::r=>j_ (Nat.gcd g n.natAbs) r
theorem wz:∀ns:_H,j_ 1 ns=1
 |[]=>rfl
 |n::r=>by show j_ (Nat.gcd 1 n.natAbs) r=1;rw[Nat.gcd_one_left];exact wz r
abbrev PF:MT:=ck (ag gC c5 bI)
abbrev Q6:MB:=aA (aN 4 (ag dE aW c5)) (aA (aN 1 c5) (aN 3 fV))
def Tg(μ:MN.Env):Nat:=match(μ[3]?:Option (Option ak)) with
 |some (some (ak.int n))=>n.toNat
 |_=>0
theorem EB{n:Int}(g l:Nat)(x4:Option ak):∃FR,fA PF Q6 [qL q, qI (g:Int), qI n, qI (l:Int), x4] st=.nx [qL q, qI (Nat.gcd g l:Nat), qI n, qI 0, FR] st:=by
 obtain⟨μ',az,e,rfl,x',rfl⟩:=kH (t:=PF) (body:=Q6)
  (λμ s=>s=st/\∃(a b:Nat)(x:Option ak),μ=[qL q, qI (a:Int), qI n, qI (b:Int), x]/\Nat.gcd a b=Nat.gcd g l) (λμ _=>Tg μ)
  (λμ s=>s=st/\∃x:Option ak,μ=[qL q, qI (Nat.gcd g l:Nat), qI n, qI 0, x])
  (by
   rintro μ s ⟨rfl,a,b,x,rfl,hg⟩;cases b with
   |zero=>
    refine .inl ⟨s,?_,rfl,x,?_⟩
    .have z:(((0:Nat):Int)==0)=true:=rfl;simp![PF,We,z]
    .rw[Nat.gcd_zero_right]at hg;rw[hg];rfl
   |succ b=>
    have z:(((b+1:Nat):Int)==0)=false:=by rw[V6];lia
    have nz:¬ ((b+1:Nat):Int)=0:=⋯
    have em:((a:Nat):Int).fmod ((b+1:Nat):Int)=((a % (b+1):Nat):Int):=by rw[WT _ ⋯];rfl
    refine .inr ⟨s,[qL q, qI ((b+1:Nat):Int), qI n, qI ((a % (b+1):Nat):Int), qI ((a % (b+1):Nat):Int)],s,?_,.inl ?_,⟨rfl,b+1,a % (b+1),_,rfl,?_⟩,?_⟩
    .simp![PF,Ya,z]
    .simp![Q6,c8 nz,em]
    .rw[<-hg,Nat.gcd_comm a,Nat.gcd_rec (b+1) a,Nat.gcd_comm]
    .show((a % (b+1):Nat):Int).toNat<((b+1:Nat):Int).toNat;rw[Wi,Wi];exact Nat.mod_lt _ (YO _))
  [qL q, qI (g:Int), qI n, qI (l:Int), x4] st ⟨rfl,g,l,x4,rfl,rfl⟩
 exact⟨x',e⟩
abbrev Mt:MB:=aA (aN 3 (ai lK (aa bK aj))) (aA (fA PF Q6) (fL (ck (ag gB aW dJ)) (aK dJ) bz))
theorem oU(n:Int):(if n<0 then -n else n)=(n.natAbs:Int):=by
 by_cases h:n<0
 .rw[VA h];lia
 .rw[VL h];lia
theorem HW{n:Int}(g:Nat)(x3 x4:Option ak):(Nat.gcd g n.natAbs=1/\Mt [qL q, qI (g:Int), qI n, x3, x4] st=.rt (.int 1) st) \/
  ∃FR,Mt [qL q, qI (g:Int), qI n, x3, x4] st=.nx [qL q, qI (Nat.gcd g n.natAbs:Nat), qI n, qI 0, FR] st:=by
 obtain⟨FR,e⟩:=EB (q:=q) (n:=n) (st:=st) g n.natAbs x4;have first:aN 3 (ai lK (aa bK aj)) [qL q, qI (g:Int), qI n, x3, x4] st=.nx [qL q, qI (g:Int), qI n, qI (n.natAbs:Int), x4] st:=by rw[<-oU n];simp only[ao,ay,aT,aH,d?,aS,aG,aP,cG,z_,bJ,bC,VY,V1]
 by_cases h:Nat.gcd g n.natAbs=1
 .refine .inl ⟨h,?_⟩;have z:(((Nat.gcd g n.natAbs:Nat):Int)==1)=true:=by rw[h];rfl
  unfold Mt;rw[ax,first,aB,ax,e,aB];simp![z]
 .refine .inr ⟨FR,?_⟩;have z:(((Nat.gcd g n.natAbs:Nat):Int)==1)=false:=by rw[V6];lia
  unfold Mt;rw[ax,first,aB,ax,e,aB];simp![z]
theorem EC{q:Nat}{us:List ak}{st:af}(hq:ar st q=some us):∀(ns:_H)(g:Nat)(x2 x3 x4:Option ak),(j_ g ns=1/\forL (λaz=>ar az q=some us) (aq 2) Mt (ns.map ak.int) [qL q, qI (g:Int), x2, x3, x4] st=.rt (.int 1) st) \/
  ∃y2 y3 y4,forL (λaz=>ar az q=some us) (aq 2) Mt (ns.map ak.int) [qL q, qI (g:Int), x2, x3, x4] st=.nx [qL q, qI (j_ g ns:Nat), y2, y3, y4] st
 |[],g,x2,x3,x4=>.inr ⟨x2,x3,x4,by
  rw[VQ];unfold forL;rw[VA hq];rfl⟩
 |n::ns,g,x2,x3,x4=>by
  have ha:(aq 2) (ak.int n) [qL q, qI (g:Int), x2, x3, x4]=some [qL q, qI (g:Int), qI n, x3, x4]:=rfl;rw[Vv];rcases HW (q:=q) (n:=n) (st:=st) g x3 x4 with⟨h,e⟩|⟨FR,e⟩
  .refine .inl ⟨?_,?_⟩
   .show j_ (Nat.gcd g n.natAbs) ns=1;rw[h];exact wz ns
   .rw[forL,VA hq,ha];dsimp only;rw[e]
  .have ih:=EC hq ns (Nat.gcd g n.natAbs) (some (.int n)) (some (.int 0)) FR;rw[forL,VA hq,ha];dsimp only;rw[e];exact ih
theorem nQ(hq:ar st q=some (ns.map ak.int)):PM.bL [.loc q] st=.ok (.int (j_ 0 ns:Nat)) st:=by
 have first:aN 1 bI [qL q, qn, qn, qn, qn] st=.nx [qL q, qI ((0:Nat):Int), qn, qn, qn] st:=rfl
 have v0:aE [some (ak.loc q), qI ((0:Nat):Int), qn, qn, qn] st=.ok (.loc q) st:=rfl;unfold PM.bL;rw[aZ (np:=1) (us:=[ak.loc q]) rfl];show(aA (aN 1 bI) (aA (d5 (bQ aE) (aq 2) Mt) (aK aW)) [qL q, qn, qn, qn, qn] st).fin=_;rw[ax,first,aB,ax,fP,cy,v0,ao,bH hq,ay,iC];rcases EC hq ns 0 none none none with⟨h,e⟩|⟨y2,y3,y4,e⟩
 .rw[e,h,g7];rfl
 .rw[e,aB];rfl
theorem yz{p:Nat}{D:List aC}(h:ar st p=some (D.map tV))(hl:D.length<=1000000):PM.content [.loc p] st=.ok (.int (j_ 0 (D.map (·.2)):Nat)) (st++[.lst ((D.map (·.2)).map ak.int)]):=by
 have cp:=cB (a:=bU [aq 0,aq 1]) (c:=aw) (e:=aW) (g:=λaz=>ar az p=some (D.map tV)) (st:=st) h (λτ=>∃x y,τ=[x,y]) (λ_=>true) (λv=>.int (qW v).2) (D.map tV) [none,none] [] ⟨_,_,rfl⟩ (by
  rintro u hu τ ⟨x,y,rfl⟩;obtain⟨t,ht,rfl⟩:=VP.mp hu;refine⟨[some (au t.1),some (.int t.2)],rfl,⟨_,_,rfl⟩,rfl,λ_=>?_⟩;rw[ki];rfl)
 have e:(List.filter (λ_=>true) (D.map tV)).map (λv=>ak.int (qW v).2)=(D.map (·.2)).map ak.int:=by rw[Wq.mpr λ_ _=>rfl,VR,VR];refine Wc λt _=>?_;show ak.int (qW (tV t)).2=_;rw[ki];rfl
 rw[e,VB]at cp;have kF:fK 2 [] [some (ak.loc p)]=[none,none]:=rfl;have v0:aE [some (ak.loc p)] st=.ok (.loc p) st:=rfl;have comp:aO 2 [] (bQ aE) (bU [aq 0,aq 1]) aw aW [some (.loc p)] st=.ok (.loc st.length) (st++[.lst ((D.map (·.2)).map ak.int)]):=by rw[cJ,cy,v0,ao,bH h,ao,dn,VA (by rw[Vs,VF];lia),kF,cp,ao,eQ]
 have gr:=nQ (bS st ((D.map (·.2)).map ak.int));have of:PM.bo [.loc p] st=.ok (.int (j_ 0 (D.map (·.2)):Nat)) (st++[.lst ((D.map (·.2)).map ak.int)]):=by unfold PM.bo;rw[aZ (np:=1) (us:=[ak.loc p]) rfl];show(aK (ai PM.bL (aa (aO 2 [] (bQ aE) (bU [aq 0,aq 1]) aw aW) aj)) [some (.loc p)] st).fin=_;rw[aQ,aP,aG,comp,ao,aT,aS,ao,aH,ao,gr];rfl
 unfold PM.content;rw[aZ (np:=1) (us:=[ak.loc p]) rfl];show(aK (ai PM.bo (aa aE aj)) [some (.loc p)] st).fin=_;rw[aQ,aP,aG,v0,ao,aT,aS,ao,aH,ao,of];rfl
abbrev JA:MT:=ck (ag gC aW bI)
abbrev NB:MB:=aA (aN 2 (ag dE aE aW)) (aA (aN 0 aW) (aN 1 bK))
theorem m8(n:Int)(F:Nat)(st:af):PM.e! [.int n,.int (F:Int)] st=.ok (.int (Nat.gcd F n.natAbs:Nat)) st:=by
 obtain⟨μ',az,e,rfl,a,x',rfl,ha⟩:=kH (t:=JA) (body:=NB)
  (λμ s=>s=st/\∃(a:Int)(b:Nat)(x:Option ak),μ=[qI a, qI (b:Int), x]/\Int.gcd a b=Nat.gcd F n.natAbs) (λμ _=>Py μ)
  (λμ s=>s=st/\∃(a:Int)(x:Option ak),μ=[qI a, qI 0, x]/\a.natAbs=Nat.gcd F n.natAbs)
  (by
   rintro μ s ⟨rfl,a,b,x,rfl,hg⟩;cases b with
   |zero=>
    refine .inl ⟨s,?_,rfl,a,x,rfl,?_⟩
    .have z:(((0:Nat):Int)==0)=true:=rfl;simp![JA,We,z]
    .rw[<-hg];show a.natAbs=Int.gcd a 0;rw[Z?]
   |succ b=>
    have z:(((b+1:Nat):Int)==0)=false:=by rw[V6];lia
    have nz:¬ ((b+1:Nat):Int)=0:=⋯
    have em:a.fmod ((b+1:Nat):Int)=((a % ((b+1:Nat):Int)).toNat:Int):=by rw[WT _ ⋯,YD (X5 _ nz)]
    refine .inr ⟨s,[qI ((b+1:Nat):Int), qI ((a % ((b+1:Nat):Int)).toNat:Int), qI ((a % ((b+1:Nat):Int)).toNat:Int)],s,?_,.inl ?_,⟨rfl,_,_,_,rfl,?_⟩,?_⟩
    .simp![JA,Ya,z]
    .simp![NB,c8 nz,em]
    .rw[<-hg,YD (X5 _ nz),ZD,Int.emod_def,YV];exact Int.gcd_sub_mul_right_left _ _ _
    .show((a % ((b+1:Nat):Int)).toNat:Int).toNat<((b+1:Nat):Int).toNat;have h1:=Z' a (b:=((b+1:Nat):Int)) ⋯;have h2:=X5 a nz;rw[Wi];lia)
  [qI n, qI (F:Int), qn] st ⟨rfl,n,F,none,rfl,by rw[ZD];rfl⟩
 unfold PM.e!;rw[aZ (np:=2) (us:=[ak.int n,.int (F:Int)]) rfl];show(aA (fA JA NB) (aK (ai lK (aa aE aj))) [qI n, qI (F:Int), qn] az).fin=_;rw[ax,e,aB,<-ha,<-oU];simp only[ao,ay,bR,aT,aH,cO,aS,aG,aP,aQ,z_,bJ]
abbrev Q7:MB:=fL (eV (cH (ck (ai PM.fg (aa fV aj)))) (ck (ag ltV fV bI))) (aK (mC (.bl false))) bz
theorem ED{p:Nat}{M:Int}{k:_H}(hk:∀e∈k,0<=e):
  ∃y,forL (λ_=>True) (aq 4) Q7 (k.map ak.int) [qL p, qI M, x2, some v, x4] st=.nx [qL p, qI M, x2, some v, y] st:=by
 obtain⟨μ',az,e,rfl,y,rfl⟩:=dB (g:=λ_=>True) (a:=aq 4) (body:=Q7) (λ_ μ s'=>s'=st/\∃y,μ=[qL p, qI M, x2, some v, y]) (k.map ak.int) 0 [qL p, qI M, x2, some v, x4] st
  (by
   rintro i u μ s' hu ⟨rfl,y,rfl⟩;refine⟨trivial,?_⟩;obtain⟨e,he,rfl⟩:=VP.mp (WG hu);refine⟨[some (.loc p),some (.int M),x2,some v,some (.int e)],rfl,_,s',.inl (?_:_=dI.nx [qL p, qI M, x2, some v, qI e] s'),rfl,_,rfl⟩;have c:eV (cH (ck (ai PM.fg (aa fV aj)))) (ck (ag ltV fV bI)) [qL p, qI M, x2, some v, qI e] s'=.ok (decide (e<0)) s':=rfl;rw[V2 (by have:=hk e he;lia)]at c;show fL _ _ _ _ s'=_;rw[bA,c,ay,cE];rfl)
  (λ_ _ _=>trivial) ⟨rfl,_,rfl⟩
 exact⟨y,e⟩
abbrev Mu:MT:=eV (cH (ck (vP "tuple" c5))) (eV (ck (ag gC (ai cZ (aa c5 aj)) so)) (eV (cH (ck (vP "tuple" (ag aU c5 bI)))) (ck (ag gC (ai cZ (aa (ag aU c5 bI) aj)) aW))))
abbrev HX:MT:=eV (cH (ck (ai PM.fg (aa (ag aU c5 dJ) aj)))) (eV (ck (ag gB (ag aU c5 dJ) bI)) (pK (ck (ag (QQ true) bK (mC .c6))) (ck (ag Mn (ag aU c5 bI) bK))))
abbrev JB:MB:=aA (fL Mu (aK (mC (.bl false))) bz) (aA (d5 (bQ (ag aU c5 bI)) (aq 4) Q7) (aA (fL HX (aK (mC (.bl false))) bz) (aN 2 (ag aU c5 bI))))
def Last(v:ak)(k:_H):Prop:=v=.c6\/∃l,v=au l/\l≠[]/\SO.lexLt k l=true
theorem HY{p:Nat}{t:aC}(hl:t.1.length=ah)(hm:1<=ah)(hk:∀e∈t.1,0<=e)(hz:t.2≠0)(hv:Last v t.1):
  ∃y,JB [qL p, qI (ah:Int), some v, some (tV t), x4] st=.nx [qL p, qI (ah:Int), some (au t.1), some (tV t), y] st:=by
 obtain⟨y,ei⟩:=ED (p:=p) (M:=(ah:Int)) (x2:=some v) (x4:=x4) (v:=tV t) (st:=st) hk;refine⟨y,?_⟩;have c1:Mu [qL p, qI (ah:Int), some v, some (tV t), x4] st=.ok (!(((t.1.map ak.int).length:Int)==(ah:Int))) st:=rfl;rw[Vs,hl,WY]at c1;have s1:fL Mu (aK (mC (.bl false))) bz [qL p, qI (ah:Int), some v, some (tV t), x4] st=.nx [qL p, qI (ah:Int), some v, some (tV t), x4] st:=by rw[bA,c1,ay,We,cE];rfl
 have i0:∀(y:Option ak),ag aU c5 bI [qL p, qI (ah:Int), some v, some (tV t), y] st=.ok (au t.1) st:=λ_=>rfl;have s2:d5 (bQ (ag aU c5 bI)) (aq 4) Q7 [qL p, qI (ah:Int), some v, some (tV t), x4] st=.nx [qL p, qI (ah:Int), some v, some (tV t), y] st:=by rw[fP,cy,i0,ao];show(sG (.tup (t.1.map ak.int)) st).FQ _ _=_;rw[mW,ay,iC];exact ei
 have nz:(t.2==0)=false:=V6.mpr hz;have ne:t.1≠[]:=λz=>by rw[z]at hl;simp at hl;lia
 have w1:cH (ck (ai PM.fg (aa (ag aU c5 dJ) aj))) [qL p, qI (ah:Int), some v, some (tV t), y] st=.ok false st:=rfl;have w2:ck (ag gB (ag aU c5 dJ) bI) [qL p, qI (ah:Int), some v, some (tV t), y] st=.ok (t.2==0) st:=rfl;rw[nz]at w2;have w3:pK (ck (ag (QQ true) bK (mC .c6))) (ck (ag Mn (ag aU c5 bI) bK)) [qL p, qI (ah:Int), some v, some (tV t), y] st=.ok false st:=by
  rcases hv with rfl|⟨l,rfl,nl,lt⟩
  .rfl
  .have ge:Mn (au t.1) (au l) st=.ok (.bl (!(SO.lexLt t.1 l))) st:=Mo ne nl;rw[lt]at ge;show ck (ag Mn (ag aU c5 bI) bK) _ st=_;have v2:bK [qL p, qI (ah:Int), some (au l), some (tV t), y] st=.ok (au l) st:=rfl;have i0':ag aU c5 bI [qL p, qI (ah:Int), some (au l), some (tV t), y] st=.ok (au t.1) st:=rfl;rw[aY,aL,i0',ao,a9,v2,ao,aJ,ge,ao];rfl
 have c3:HX [qL p, qI (ah:Int), some v, some (tV t), y] st=.ok false st:=by unfold HX;rw[dS,w1,ao,eU,dS,w2,ao,eU];exact w3
 have s3:fL HX (aK (mC (.bl false))) bz [qL p, qI (ah:Int), some v, some (tV t), y] st=.nx [qL p, qI (ah:Int), some v, some (tV t), y] st:=by rw[bA,c3,ay,cE];rfl
 unfold JB;rw[ax,s1,aB,ax,s2,aB,ax,s3,aB,cG,i0,ay];rfl
theorem gO{p:Nat}{D:List aC}(hc:st[p]?=some (.lst (D.map tV)))(S:eh ah D)(hm:1<=ah):PM.cf [.loc p,.int (ah:Int)] st=.ok (.bl true) st:=by
 have h:=Pl hc;have fa:∀i j(hi:i<D.length)(hj:j<D.length),i<j->SO.lexLt (D[j]).1 (D[i]).1=true:=by intro i j hi hj QY;have:=S.p?;unfold SO.eR at this;rw[List.pairwise_map,XN]at this;exact this i j hi hj QY
 obtain⟨μ',az,e,rfl,v,x3,x4,rfl,_⟩:=dB (g:=λaz=>ar az p=some (D.map tV)) (a:=aq 3) (body:=JB)
  (λi μ s'=>s'=st/\∃v x3 x4,μ=[qL p, qI (ah:Int), some v, x3, x4]/\∀(hi:i<D.length),Last v (D[i]).1)
  (D.map tV) 0 [qL p, qI (ah:Int), some .c6, qn, qn] st
  (by
   rintro i u μ s' hu ⟨rfl,v,x3,x4,rfl,hv⟩;rw[Wv]at hv⊢;refine⟨h,?_⟩;rw[VV]at hu;have hi:i<D.length:=by
    rcases WS i D.length with q|q
    .exact q
    .rw[V' q]at hu;cases hu
   rw[Vx hi]at hu;have mt:D[i]∈D:=W2 hi;cases hu;obtain⟨y,es⟩:=HY (p:=p) (x4:=x4) (st:=s') (S.len _ mt) hm (S.nn _ mt) (S.nz _ mt) (hv hi);refine⟨_,rfl,_,s',.inl es,rfl,_,_,_,rfl,λhj=>.inr ⟨(D[i]).1,rfl,λz=>?_,fa i (i+1) hi hj (Xd _)⟩⟩;have:=S.len _ mt;rw[z]at this;simp at this;lia)
  (λμ s hp=>by obtain⟨rfl,_⟩:=hp;exact h)
  ⟨rfl,_,none,none,rfl,λ_=>.inl rfl⟩
 have first:fL (cH (ck (vP "list" aE))) (aK (mC (.bl false))) bz [qL p, qI (ah:Int), qn, qn, qn] az=.nx [qL p, qI (ah:Int), qn, qn, qn] az:=by simp![We,is_list hc]
 have second:aN 2 (mC .c6) [qL p, qI (ah:Int), qn, qn, qn] az=.nx [qL p, qI (ah:Int), some .c6, qn, qn] az:=rfl;have v0:aE [some (ak.loc p), qI (ah:Int), some .c6, qn, qn] az=.ok (.loc p) az:=rfl;unfold PM.cf;rw[aZ (np:=2) (us:=[ak.loc p,.int (ah:Int)]) rfl];show(aA (fL (cH (ck (vP "list" aE))) (aK (mC (.bl false))) bz) (aA (aN 2 (mC .c6)) (aA (d5 (bQ aE) (aq 3) JB) (aK (mC (.bl true))))) [qL p, qI (ah:Int), qn, qn, qn] az).fin=_;rw[ax,first,aB,ax,second,aB,ax,fP,cy,v0,ao,bH h,ay,iC,e,aB];rfl
section
variable{μ:MN.Env}{s:af}{a b:ME}{f:F2}{x y:ak}{r:cL ak}{t u:MT}{c:Bool}{B:MB}
theorem bF(h1:a μ s=.ok x s1)(h2:b μ s1=.ok y s2):ag f a b μ s=f x y s2:=by show(a μ s).bind _=_;rw[h1];show(b μ s1).bind _=_;rw[h2]
theorem iz(h:a μ s=.ok (.bl c) s1):ck a μ s=.ok c s1:=by rw[aY,h];rfl
theorem JC(h1:t μ s=.ok false s1)(h2:u μ s1=.ok false s2):eV t u μ s=.ok false s2:=by rw[dS,h1,ao,eU,h2]
theorem EE(h:t μ s=.ok true s1):cH t μ s=.ok false s1:=by rw[fX,h];rfl
theorem wA(h:t μ s=.ok false s1):fL t B bz μ s=.nx μ s1:=by rw[bA,h,ay,cE];rfl
end
theorem dC{s:af}{n:Nat}{c:bx}(h:s[n]?=some c)(more:af):(s++more)[n]?=some c:=by
 have:n<s.length:=by
  rcases WS n s.length with q|q
  .exact q
  .rw[V' q]at h;cases h
 rw[V4 this];exact h
theorem Ah{s:af}{n:Nat}{c:bx}(h:s[n]?=some c):n<s.length:=by
 rcases WS n s.length with q|q
 .exact q
 .rw[V' q]at h;cases h
theorem yA{s:af}{n m:Nat}{c k:bx}(h:s[n]?=some c)(ne:m≠n):(s.set m k)[n]?=some c:=by rw[WA ne];exact h
def bO(r n:Int):Int:=if r=0 then n else n.fmod r
def wB(A:List aC):List aC:=(kZ (A.map (·.1))).map λk=>(k,ba A k)
def jG(r:Int)(A:List aC):List aC:=((wB A).map λt=>(t.1,bO r t.2)).filter λt=>t.2 !=0
theorem HZ(r n:Int)(st:af):PM.bV [.int r,.int n] st=.ok (.int (bO r n)) st:=by
 unfold bO;by_cases h:r=0
 .have e:(r==0)=true:=by rw[h];rfl
  rw[VA h];simp![PM.bV,e]
 .have e:(r==0)=false:=by simpa using h
  rw[VL h];simp![PM.bV,e,c8 h]
theorem yB{p:Nat}{L:List aC}{r:Int}(h:ar st p=some (L.map tV))(hl:L.length<=1000000):
  ∃c,PM.dP [.int r,.loc p] st=.ok (.loc (st.length+1)) (st++[c,.lst (((L.map λt=>(t.1,bO r t.2)).filter λt=>t.2 !=0).map tV)]):=by
 obtain⟨L',Th⟩:∃L':List aC,L'=L.map λt=>(t.1,bO r t.2):=⟨_,rfl⟩
 have cp:=cB (a:=bU [aq 0,aq 1]) (c:=aw) (e:=cQ (aa aE (aa (ai PM.bV (aa bK (aa aW aj))) aj))) (g:=λaz=>ar az p=some (L.map tV)) (st:=st) h (λτ=>∃x y,τ=[x, y, qI r]) (λ_=>true) (λv=>tV ((qW v).1,bO r (qW v).2)) (L.map tV) [qn, qn, qI r] [] ⟨_,_,rfl⟩ (by
  rintro u hu τ ⟨x,y,rfl⟩;obtain⟨t,ht,rfl⟩:=VP.mp hu;refine⟨[some (au t.1),some (.int t.2),some (.int r)],rfl,⟨_,_,rfl⟩,rfl,λ_=>?_⟩;have e0:aE [some (au t.1), qI t.2, qI r] st=.ok (au t.1) st:=rfl;have e1:ai PM.bV (aa bK (aa aW aj)) [some (au t.1), qI t.2, qI r] st=.ok (.int (bO r t.2)) st:=by show PM.bV [.int r,.int t.2] st=_;exact HZ _ _ _
  rw[ki,fO,aG,e0,ao,aT,aG,e1,ao,aT,aS,ao,aH,ao,aH,ao,jg];exact VA (by rw[VF];show 2<=16777216;decide))
 have e:(List.filter (λ_=>true) (L.map tV)).map (λv=>tV ((qW v).1,bO r (qW v).2))=L'.map tV:=by rw[Wq.mpr λ_ _=>rfl,VR,Th,VR];refine Wc λt _=>?_;show tV ((qW (tV t)).1,bO r (qW (tV t)).2)=_;rw[ki];rfl
 rw[e,VB]at cp;obtain⟨s,hs⟩:=NE (st++[bx.lst (L'.map tV)])
 have ls:s.length=st.length+1:=by rw[hs,VC];rfl
 have h2:ar s st.length=some (L'.map tV):=by rw[hs];exact bS st _
 have lL:L'.length=L.length:=by rw[Th,Vs]
 have Vb:=cB (a:=aq 0) (c:=ck (ag gC (ag aU aE dJ) bI)) (e:=aE) (g:=λaz=>ar az st.length=some (L'.map tV)) (st:=s) h2 (λτ=>∃x,τ=[x]) (λv=>(qW v).2 !=0) (λv=>v) (L'.map tV) [none] [] ⟨_,rfl⟩ (by
  rintro u hu τ ⟨x,rfl⟩;obtain⟨t,ht,rfl⟩:=VP.mp hu;refine⟨[some (tV t)],rfl,⟨_,rfl⟩,?_,λ_=>rfl⟩;rw[ki];refine iz ?_;rw[bF (x:=.int t.2) (s1:=s) rfl (y:=.int 0) (s2:=s) rfl,iD];rfl)
 have e2:(List.filter (λv=>(qW v).2 !=0) (L'.map tV)).map (λv=>v)=(L'.filter λt=>t.2 !=0).map tV:=by
  rw[List.map_id',Y2];have:((λv=>(qW v).2 !=0) ∘ tV)=λt=>t.2 !=0:=by funext t;show((qW (tV t)).2 !=0)=_;rw[ki]
  rw[this]
 rw[e2,VB]at Vb;refine⟨.lst (L'.map tV),?_⟩;have v1:aW [some (ak.int r), qL p, qn] st=.ok (.loc p) st:=rfl;have kF:fK 2 [0] [some (ak.int r), qL p, qn]=[qn, qn, qI r]:=rfl;have comp:aO 2 [0] (bQ aW) (bU [aq 0,aq 1]) aw (cQ (aa aE (aa (ai PM.bV (aa bK (aa aW aj))) aj))) [qI r, qL p, qn] st=.ok (.loc st.length) s:=by rw[cJ,cy,v1,ao,bH h,ao,dn,VA (by rw[Vs,VF];lia),kF,cp,ao,eQ,hs]
 have v2:bK [some (ak.int r), qL p, qL st.length] s=.ok (.loc st.length) s:=rfl;have Ti:fK 1 [] [some (ak.int r), qL p, qL st.length]=[none]:=rfl;have PJ:aO 1 [] (bQ bK) (aq 0) (ck (ag gC (ag aU aE dJ) bI)) aE [qI r, qL p, qL st.length] s=.ok (.loc s.length) (s++[.lst ((L'.filter λt=>t.2 !=0).map tV)]):=by rw[cJ,cy,v2,ao,bH h2,ao,dn,VA (by rw[Vs,VF];lia),Ti,Vb,ao,eQ]
 have first:aN 2 (aO 2 [0] (bQ aW) (bU [aq 0,aq 1]) aw (cQ (aa aE (aa (ai PM.bV (aa bK (aa aW aj))) aj)))) [qI r, qL p, qn] st=.nx [qI r, qL p, qL st.length] s:=by rw[cG,comp,ay];rfl
 have es:st++[bx.lst (L'.map tV),.lst ((L'.filter λt=>t.2 !=0).map tV)]=s++[.lst ((L'.filter λt=>t.2 !=0).map tV)]:=by rw[hs,VU];rfl
 unfold PM.dP;rw[aZ (np:=2) (us:=[ak.int r,.loc p]) rfl,<-Th,es,<-ls];show(aA (aN 2 (aO 2 [0] (bQ aW) (bU [aq 0,aq 1]) aw (cQ (aa aE (aa (ai PM.bV (aa bK (aa aW aj))) aj))))) (aK (aO 1 [] (bQ bK) (aq 0) (ck (ag gC (ag aU aE dJ) bI)) aE)) [qI r, qL p, qn] st).fin=_;rw[ax,first,aB,aQ,PJ,ay];rfl
def dX(P:List aC):List aC:=P.foldl (λA t=>gj A t.1 (ba A t.1+t.2)) []
theorem BH(P:List aC)(t:aC):dX (P++[t])=gj (dX P) t.1 (ba (dX P) t.1+t.2):=by unfold dX;rw[List.foldl_append];rfl
theorem fold_all(K:List (_H)):∀(P A:List aC),(A.map (·.1)).Nodup->(∀t∈A,t.1∈K)->(∀t∈P,t.1∈K) ->
  ((P.foldl (λA t=>gj A t.1 (ba A t.1+t.2)) A).map (·.1)).Nodup/\(P.foldl (λA t=>gj A t.1 (ba A t.1+t.2)) A).length<=A.length+P.length/\∀t∈P.foldl (λA t=>gj A t.1 (ba A t.1+t.2)) A,t.1∈K
 |[],A,h1,h2,_=>⟨h1,by simp,h2⟩
 |t::P,A,h1,h2,h3=>by
  have ih:=fold_all K P (gj A t.1 (ba A t.1+t.2)) (kJ h1 _ _) (λq hq=>by
   rcases p! hq with hq|rfl
   .exact h2 q hq
   .exact h3 t Vu) (λq hq=>h3 q (VJ _ hq))
  refine⟨ih.1,V7 ih.2.1 ?_,ih.2.2⟩;have:=wt (A:=A) (k:=t.1) (v:=ba A t.1+t.2);rw[Vt];lia
theorem f?(P:List aC):((dX P).map (·.1)).Nodup/\(dX P).length<=P.length/\∀t∈dX P,t.1∈P.map (·.1):=by have:=fold_all (P.map (·.1)) P [] Z8 (λt ht=>by cases ht) (λt ht=>VP.mpr ⟨t,ht,rfl⟩);refine⟨this.1,?_,this.2.2⟩;have:=this.2.1;simp at this;exact this
def NC(r:Int)(A:List aC)(ks:List (_H)):List aC:=(ks.map λk=>(k,bO r (ba A k))).filter λt=>t.2 !=0
theorem qa(r:Int)(A:List aC):NC r A (kZ (A.map (·.1)))=jG r A:=by unfold NC jG wB;rw[VR];rfl
theorem H9(r:Int)(A:List aC)(ks:List (_H)):(NC r A ks).length<=ks.length:=by unfold NC;refine V7 (YU _ _) ?_;rw[Vs];exact Vy _
theorem within_int(e lo hi:Int)(st:af):PM.bW [.int e,.int lo,.int hi] st=.ok (.bl (decide (lo<=e)&&decide (e<=hi))) st:=by
 by_cases h:lo<=e
 .have z:decide (lo<=e)=true:=V0 h;rw[z,YH];simp![PM.bW,Hl,gI,z]
 .have z:decide (lo<=e)=false:=V2 h;rw[z,Yx];simp![PM.bW,Hm,gI,z]
theorem lW(h1:1<=ah)(h4:ah<=4)(st:af):PM.c9 [.int (ah:Int)] st=.ok .c6 st:=by
 have q:ai PM.bW (aa aE (aa dJ (aa vL aj))) [some (.int (ah:Int))] st=.ok (.bl true) st:=by show PM.bW [.int (ah:Int),.int 1,.int 4] st=_;rw[within_int,V0 ⋯,V0 ⋯];rfl
 unfold PM.c9;rw[aZ (np:=1) (us:=[ak.int (ah:Int)]) rfl];show(fL (cH (ck (ai PM.bW (aa aE (aa dJ (aa vL aj)))))) _ bz [some (.int (ah:Int))] st).fin=_;rw[wA (EE (iz q))];rfl
section
variable{μ:MN.Env}{s:af}{o:Int}{t:MT}{B:MB}
theorem PL(h:m μ s=.ok (.int o) s1):ag gB m (mC (.int j)) μ s=.ok (.bl (o==j)) s1:=by rw[bF h (y:=.int j) (s2:=s1) rfl];exact fh
theorem dM(h:m μ s=.ok v s1):aN i m μ s=.nx (μ.set i (some v)) s1:=by rw[cG,h,ay];rfl
theorem yC{C:MB}(h:t μ s=.ok true s1):fL t B C μ s=B μ s1:=by rw[bA,h,ay,dU]
theorem dY(h:m μ s=.ok v s1):aa m aj μ s=.ok [v] s1:=by rw[aG,h,ao,aT,aS,ao,aH]
theorem gu{m2:ME}{w:ak}(h:m μ s=.ok v s1)(h2:m2 μ s1=.ok w s2):aa m (aa m2 aj) μ s=.ok [v,w] s2:=by rw[aG,h,ao,aT,dY h2,ao,aH]
theorem JD{m2:MA}(h:m μ s=.ok v s1)(h2:m2 μ s1=.ok ws s2):aa m m2 μ s=.ok (v::ws) s2:=by rw[aG,h,ao,aT,h2,ao,aH]
theorem aR{f:FN}{a:MA}{vs:List ak}(h:a μ s=.ok vs s1):ai f a μ s=f vs s1:=by rw[aP,h,ao]
theorem i?{a:MA}{vs:List ak}(h:a μ s=.ok vs s1)(hl:vs.length<=1000):cQ a μ s=.ok (.tup vs) s1:=by rw[fO,h,ao,jg];exact VA (by rw[VF];lia)
theorem m9{a:MA}{vs:List ak}(h:a μ s=.ok vs s1)(hl:vs.length<=1000):df a μ s=.ok (.loc s1.length) (s1++[.lst vs]):=by rw[gi,h,ao,jh];exact VA (by rw[VF];lia)
theorem EF{a:MA}(h:a μ s=.ok [.int j] s1)(h1:-(2 ^ 62)<=j)(h2:j<2 ^ 62):b_ a μ s=.ok (cu 0 j.toNat,λ_=>True) s1:=by rw[gH,h,ao,iY h1 h2]
end
def gF(A:List aC)(t:aC):List aC:=gj A t.1 (ba A t.1+t.2)
theorem H_(P:List aC):dX P=P.foldl gF []:=rfl
theorem gP{A:List aC}{k:_H}(h:k ∉ A.map (·.1)):ba A k=0:=by
 unfold ba;have:(A.find? λp=>decide (p.1=k))=none:=by rw[Ym];intro p hp z;exact h (VP.mpr ⟨p,hp,Xq z⟩)
 rw[this];rfl
theorem qb{A:List aC}{k:_H}(v:Int)(h:k ∉ A.map (·.1)):gj A k v=A++[(k,v)]:=by unfold gj;rw[VL λz=>h (uA.mp z)]
theorem EG{A P:List aC}{t:aC}(h:((A++t::P).map (·.1)).Nodup):t.1 ∉ A.map (·.1)/\((A++[t]++P).map (·.1)).Nodup:=by refine⟨?_,by rw[VU];exact h⟩;rw[WW,Vv,Ys]at h;exact λm=>h.2.2 _ m _ Vu rfl
theorem sN:∀(P A:List aC),((A++P).map (·.1)).Nodup->P.foldl gF A=A++P
 |[],A,_=>by rw[Wa];rfl
 |t::P,A,h=>by have n:=EG h;show P.foldl gF (gF A t)=_;unfold gF;rw[gP n.1,qb _ n.1,Xa];have:=sN P (A++[t]) n.2;rw[VU]at this;exact this
theorem sO{D:List aC}(h:(D.map (·.1)).Nodup):dX D=D:=sN D [] h
theorem wC:∀(P A:List aC),((A++P).map (·.1)).Nodup->MN.putAll (P.map eD) (A.map eD)=(A++P).map eD
 |[],A,_=>by rw[Wa];rfl
 |t::P,A,h=>by have n:=EG h;show MN.putAll (P.map eD) (ui (A.map eD) (iK t.1) (.int t.2))=_;rw[Af,qb _ n.1];have:=wC P (A++[t]) n.2;rw[VU]at this;exact this
theorem EI:∀D:List aC,By (D.map tV)=some (D.map eD)
 |[]=>rfl
 |t::D=>by
  show(match iX (au t.1),By (D.map tV) with
   |some q,some l=>some ((q,ak.int t.2)::l)
   |_,_=>none)=_
  rw[jW,EI D];rfl
theorem Mv{p:Nat}{D:List aC}(h:ar st p=some (D.map tV))(nd:(D.map (·.1)).Nodup):wm [.loc p] st=.ok (.loc st.length) (st++[.dT (D.map eD)]):=by unfold wm;dsimp only;rw[h];dsimp only;rw[EI];dsimp only;have:=wC D [] nd;rw[VQ,VB]at this;rw[this]
def Mw(r:Int)(L:List aC):List aC:=(L.map λt=>(t.1,bO r t.2)).filter λt=>t.2 !=0
theorem jY{D:List aC}(nd:(D.map (·.1)).Nodup){t:aC}(ht:t∈D):ba D t.1=t.2:=by
 have m:=wu (A:=D) (k:=t.1) (VP.mpr ⟨t,ht,rfl⟩);have:(t.1,ba D t.1)=t:=by
  have inj:∀a∈D,∀b∈D,a.1=b.1->a=b:=by
   intro a ha b hb e;have p:=List.pairwise_map.mp nd;exact XA λne=>by
    rcases Y0.mp ha with⟨i,hi,rfl⟩
    rcases Y0.mp hb with⟨j,hj,rfl⟩
    have q:=XN.mp p;rcases _g i j with c|c|c
    .exact q i j hi hj c e
    .subst c;exact ne rfl
    .exact q j i hj hi c e.symm
  exact inj _ m _ ht rfl
 exact Xc (·.2) this
theorem BI{r:Int}{D:List aC}(f:SO.eR (D.map (·.1))):jG r D=Mw r D:=by
 have nd:=dF f;have e:kZ (D.map (·.1))=D.map (·.1):=p8 (dW _) (iH nd) f;have:wB D=D:=by
  unfold wB;rw[e,VR];have:D.map ((λk=>(k,ba D k)) ∘ λt=>t.1)=D.map id:=Wc λt ht=>by show(t.1,ba D t.1)=t;rw[jY nd ht]
  rw[this,Yt]
 unfold jG Mw;rw[this]
theorem yD(r:Int){A:List aC}(nd:(A.map (·.1)).Nodup):SO.eR ((jG r A).map (·.1)):=by
 rw[<-qa];unfold NC;rw[Y2,VR];have:(((kZ (A.map (·.1))).filter ((λt=>t.2 !=0) ∘ λk=>(k,bO r (ba A k)))).map ((λt=>t.1) ∘ λk=>(k,bO r (ba A k))))=(kZ (A.map (·.1))).filter ((λt:aC=>t.2 !=0) ∘ λk=>(k,bO r (ba A k))):=by have:((λt:aC=>t.1) ∘ λk:_H=>(k,bO r (ba A k)))=id:=rfl;rw[this,Yt]
 rw[this];exact List.Pairwise.sublist Y8 (iH nd)
theorem qc{B:Int}(b0:0<=B):∀(P A:List aC)(m:Nat),(∀t∈P,-B<=t.2/\t.2<=B)->(∀t∈A,-(m*B)<=t.2/\t.2<=m*B)->∀t∈P.foldl gF A,-((m+P.length:Nat)*B)<=t.2/\t.2<=(m+P.length:Nat)*B
 |[],A,m,_,h=>h
 |p::P,A,m,hp,h=>by
  have e:((m+1:Nat):Int)*B=m*B+B:=by rw[Int.natCast_add,Int.add_mul];simp
  have mb:0<=(m:Int)*B:=Int.mul_nonneg (Int.natCast_nonneg _) b0;have q:=hp p Vu;have ih:=qc b0 P (gF A p) (m+1) (λt ht=>hp t (VJ _ ht)) (λt ht=>by
   rw[e];rcases p! ht with ht|rfl
   .have:=h t ht;lia
   .have:=yx (k:=p.1) mb h;dsimp only;lia)
  intro t ht;have:=ih t ht;rw[Vt,show m+(P.length+1)=m+1+P.length by lia];exact this
theorem yE{B:Int}(b0:0<=B){P:List aC}(hp:∀t∈P,-B<=t.2/\t.2<=B):∀t∈dX P,-(P.length*B)<=t.2/\t.2<=P.length*B:=by have:=qc b0 P [] 0 hp (λt ht=>by cases ht);rw[Wv]at this;exact this
theorem wD{r:Int}{A:List aC}{t:aC}(h:t∈jG r A):∃q∈A,t.1=q.1/\t.2=bO r q.2:=by unfold jG at h;obtain⟨u,hu,rfl⟩:=VP.mp (Xx.mp h).1;unfold wB at hu;obtain⟨k,hk,rfl⟩:=VP.mp hu;exact⟨_,wu ((dW _).mem_iff.mp hk),rfl,rfl⟩
theorem EJ(r:Int)(A:List aC):(jG r A).length<=A.length:=by rw[<-qa];refine V7 (H9 _ _ _) ?_;rw[(dW _).length_eq,Vs];exact Vy _
theorem yF(h1:1<=ah){k:_H}(h:k.length=ah):k≠[]:=λz=>by rw[z]at h;simp at h;lia
def chg(g:Int->Int)(L:List aC):List aC:=L.map λt=>(t.1,g t.2)
theorem EL{μ:MN.Env}{e:ME}{a:AS}{g:Int->Int}{s:af}{p:Nat}{L:List aC}(I:MN.Env->Prop)(hm:m μ s=.ok (.loc p) s1)(h:ar s1 p=some (L.map tV))(hl:L.length<=1000000)(hI:I (fK k caps μ))(hs:∀t∈L,∀τ,I τ->∃τ1,a (tV t) τ=some τ1/\I τ1/\e τ1 s1=.ok (tV (t.1,g t.2)) s1):
  aO k caps (bQ m) a aw e μ s=.ok (.loc s1.length) (s1++[.lst ((chg g L).map tV)]):=by
 have cp:=cB (a:=a) (c:=aw) (e:=e) (g:=λaz=>ar az p=some (L.map tV)) (st:=s1) h I (λ_=>true) (λv=>tV ((qW v).1,g (qW v).2)) (L.map tV) (fK k caps μ) [] hI (by
  intro u hu τ hτ;obtain⟨t,ht,rfl⟩:=VP.mp hu;obtain⟨τ1,h1,h2,h3⟩:=hs t ht τ hτ;exact⟨τ1,h1,h2,rfl,λ_=>by rw[ki];exact h3⟩)
 have ee:(List.filter (λ_=>true) (L.map tV)).map (λv=>tV ((qW v).1,g (qW v).2))=(chg g L).map tV:=by unfold chg;rw[Wq.mpr λ_ _=>rfl,VR,VR];refine Wc λt _=>?_;show tV ((qW (tV t)).1,g (qW (tV t)).2)=_;rw[ki];rfl
 rw[ee,VB]at cp;rw[cJ,cy,hm,ao,bH h,ao,dn,VA (by rw[Vs,VF];lia),cp,ao,eQ]
section
variable{r:Int}{p:Nat}{D P:List aC}{C:Int}
def lX(ah:Nat):_H:=List.replicate ah 0
theorem wF(ah:Nat):nO ah [ak.int 0]=(lX ah).map ak.int:=by
 unfold nO lX
 induction ah with
 |zero=>rfl
 |succ k ih=>
  rw[VT,VT,Xi,Vv,ih];rfl
theorem wG{n:Int}(hr:g_ r=true)(h1:1<=ah)(hm:ah<=4):
  ∃g k,PM.constant [.int r,.int (ah:Int),.int n] st=.ok (.loc k) (st++g)/\st.length<=k/\(st++g)[k]?=some (.lst ((Mw r [(lX ah,n)]).map tV)):=by
 obtain⟨g1,e1⟩:=ro hr st;obtain⟨s1,fY⟩:=NE (st++g1)
 rw[<-fY]at e1;obtain⟨μ,hμ⟩:=NE ([qI r, qI (ah:Int), qI n]:MN.Env)
 have x1:dy (ai PM.eY (aa aE aj)) μ st=.nx μ s1:=by rw[hμ,ig,aR (dY (v:=.int r) (s1:=st) rfl),e1,ay];rfl
 have x2:dy (ai PM.c9 (aa aW aj)) μ s1=.nx μ s1:=by rw[hμ,ig,aR (dY (v:=.int (ah:Int)) (s1:=s1) rfl),lW h1 hm s1,ay];rfl
 have tu:ag rn (cQ (aa bI aj)) aW μ s1=.ok (au (lX ah)) s1:=by rw[hμ,bF (i? (dY (v:=.int 0) (s1:=s1) rfl) (by show 1<=1000;decide)) (y:=.int (ah:Int)) (s2:=s1) rfl];unfold rn;dsimp only;rw[VA ⟨by simp,⋯,⋯,by rw[VF];show 1*(ah:Int).toNat<=_;lia⟩,Wi,wF];rfl
 have ls:df (aa (cQ (aa (ag rn (cQ (aa bI aj)) aW) (aa bK aj))) aj) μ s1=.ok (.loc s1.length) (s1++[.lst ([(lX ah,n)].map tV)]):=
  m9 (dY (i? (gu tu (w:=.int n) (s2:=s1) (by rw[hμ];rfl)) (by show 2<=1000;decide))) (by show 1<=1000;decide)
 obtain⟨c,se⟩:=yB (r:=r) (L:=[(lX ah,n)]) (p:=s1.length) (st:=s1++[.lst ([(lX ah,n)].map tV)]) (bS s1 _) (by show 1<=1000000;decide);refine⟨g1++[.lst ([(lX ah,n)].map tV)]++[c,.lst ((Mw r [(lX ah,n)]).map tV)],s1.length+2,?_,by rw[fY,VC];lia,?_⟩
 .unfold PM.constant;rw[aZ (np:=3) (us:=[ak.int r,.int (ah:Int),.int n]) rfl];show(aA (dy (ai PM.eY (aa aE aj))) (aA (dy (ai PM.c9 (aa aW aj))) (aK (ai PM.dP (aa aE (aa (df (aa (cQ (aa (ag rn (cQ (aa bI aj)) aW) (aa bK aj))) aj)) aj))))) [qI r, qI (ah:Int), qI n] st).fin=_;rw[<-hμ,ax,x1,aB,ax,x2,aB,aQ,aR (gu (v:=.int r) (s1:=s1) (by rw[hμ];rfl) ls),se,ay];rw[VC,fY];simp only[VU];rfl
 .rw[<-VU,<-VU,<-fY];rw[VN (by rw[VC];show s1.length+1<=_;lia),VC];rw[show s1.length+2-(s1.length+[bx.lst ([(lX ah,n)].map tV)].length)=1 by show s1.length+2-(s1.length+1)=1;lia];rfl
end
def ones(ah:Nat):_H:=List.replicate ah 1
section
variable{μ:MN.Env}{s:af}{a:ME}{k:Int}{x:ak}
theorem JE(h:a μ s=.ok x s)(h1:m μ s=.ok (.int k) s):Bq a (jf m) je μ s=FO (some k) none x s:=by rw[Js,h,ao,Pj,v_,h1,ao,Pk,ao,Jt,v9,ao,Ju]
end
theorem EM(h:k<=us.length):pV us (some (k:Int)) none=us.drop k:=by unfold pV;rw[HT.vn,HT.zz,Nat.min_eq_left h,W_ (by rw[W'];lia)]
theorem Mx(us:List ak)(k:Nat):pV us (some (k:Int)) none=us.drop k:=by
 rcases Nat.le_total k us.length with h|h
 .exact EM h
 .unfold pV;rw[HT.vn,HT.zz,Nat.min_eq_right h,WJ,Z7,YK h]
theorem g!(n:Int):bO 0 n=n:=VA rfl
theorem g?{r:Int}(h:0<r)(n:Int):bO r n=n % r:=by unfold bO;rw[VL ⋯,WT n ⋯]
theorem oV{r:Int}(hr:g_ r=true):r=0\/(2<=r/\r<=997):=by
 unfold g_ at hr;rcases Y9 _ _ |>.mp hr with h|h
 .exact .inl (by simpa using h)
 .have:=BB h;exact .inr ⋯
section
variable{r:Int}
theorem EN(hr:g_ r=true)(a b:Int):bO r (bO r a*bO r b)=bO r (a*b):=by
 rcases oV hr with rfl|h
 .rw[g!,g!,g!,g!]
 .rw[g? ⋯,g? ⋯,g? ⋯,g? ⋯,<-Int.mul_emod]
theorem H!(hr:g_ r=true)(a:Int):bO r (bO r a)=bO r a:=by
 rcases oV hr with rfl|h
 .rw[g!,g!]
 .rw[g? ⋯,g? ⋯,Int.emod_emod]
theorem EO(hr:g_ r=true)(a b:Int):bO r (a*bO r b)=bO r (a*b):=by rw[<-EN hr,H! hr,EN hr]
theorem ER(hr:g_ r=true)(a b:Int):bO r (bO r a+bO r b)=bO r (a+b):=by
 rcases oV hr with rfl|h
 .rw[g!,g!,g!,g!]
 .rw[g? ⋯,g? ⋯,g? ⋯,g? ⋯,<-Int.add_emod]
theorem H?(hr:g_ r=true):bO r 0=0:=by
 rcases oV hr with rfl|h
 .rw[g!]
 .rw[g? ⋯];exact Int.zero_emod _
end
theorem Ai(hk:1<=k):ic k 1:=by show(1:Int).natAbs<2 ^ k;have:2 ^ 1<=2 ^ k:=X0 ⋯ hk;have h1:(1:Int).natAbs=1:=rfl;lia
theorem iL{a b:Nat}{i:Int}(h:ic a i)(k:ic b j)(ha:a<=1000000)(hb:b<=1000000):MulOk i j:=.inl ⟨Sz.of h ha,Sz.of k hb⟩
theorem fE:∀es pt:_H,jn (es.map ak.int) (pt.map ak.int)=(es.zip pt).map λp=>ak.tup [.int p.1,.int p.2]
 |[],_=>by cases ‹List Int›<;>rfl
 |_::_,[]=>rfl
 |e::es,x::pt=>by show ak.tup [.int e,.int x]::jn (es.map ak.int) (pt.map ak.int)=_;rw[fE es pt];rfl
theorem JF{lo:Int}{n:Nat}(h:(cu lo n)[i]?=some u):i<n/\u=.int (lo+(i:Int)):=by unfold cu at h;have C9:=aX h;rw[Vs,V!]at C9;rw[VV,XD C9]at h;exact⟨C9,(V? h).symm⟩
theorem My(lo:Int)(n:Nat):(cu lo n).length=n:=by unfold cu;rw[Vs,V!]
def fF(k:_H)(a:Nat):_H:=k.take a++[k.getD a 0-1]++k.drop (a+1)
def a_(a b:_H):_H:=List.zipWith (· + ·) a b
def h_(A B:List aC):List aC:=A.flatMap λs=>B.map λt=>(a_ s.1 t.1,s.2*t.2)
def j!(r:Int)(P:List aC):List aC:=jG r (dX P)
def eJ(f:_H->Int):List aC->Int
 |[]=>0
 |t::L=>f t.1*t.2+eJ f L
theorem BJ{a b:_H}(ha:a.length=ah)(hb:b.length=ah):(a_ a b).length=ah:=by unfold a_;rw[List.length_zipWith,ha,hb,X9]
theorem BK(s:aC)(A B:List aC):h_ (s::A) B=(B.map λt=>(a_ s.1 t.1,s.2*t.2))++h_ A B:=rfl
theorem wH(A B:List aC):(h_ A B).length=A.length*B.length:=by
 induction A with
 |nil=>rw[VE,Nat.zero_mul];rfl
 |cons s A ih=>rw[BK,VC,Vs,ih,Vt,Zu,YS]
theorem ES{A B:List aC}{t:aC}(h:t∈h_ A B):∃a∈A,∃b∈B,t=(a_ a.1 b.1,a.2*b.2):=by obtain⟨a,ha,h⟩:=Z9.mp h;obtain⟨b,hb,rfl⟩:=VP.mp h;exact⟨a,ha,b,hb,rfl⟩
section
variable{f g:_H->Int}
theorem uD(A B:List aC):eJ f (A++B)=eJ f A+eJ f B:=by
 induction A with
 |nil=>rw[VB];show _=0+_;rw[Xa]
 |cons t A ih=>rw[VS];show f t.1*t.2+eJ f (A++B)=f t.1*t.2+eJ f A+eJ f B;rw[ih,Int.add_assoc]
theorem qd{A B:List aC}(p:A.Perm B):eJ f A=eJ f B:=by
 induction p with
 |nil=>rfl
 |cons x _ ih=>show f x.1*x.2+_=f x.1*x.2+_;rw[ih]
 |swap x y L=>show f y.1*y.2+(f x.1*x.2+_)=f x.1*x.2+(f y.1*y.2+_);lia
 |trans _ _ i j=>rw[i,j]
theorem qe{k:_H}{v:Int}:∀A:List aC,k ∉ A.map (·.1)->A.map (λp=>if p.1=k then(p.1,v)else p)=A
 |[],_=>rfl
 |p::A,h=>by rw[Vv]at h;rw[Vv,VL λz=>h (VO.mpr (.inl z.symm)),qe A λz=>h (VO.mpr (.inr z))]
theorem i'{A:List aC}{p:aC}{k:_H}(h:p.1=k):ba (p::A) k=p.2:=by unfold ba;rw[List.find?_cons_of_pos (by simpa using h)];rfl
theorem ja{A:List aC}{p:aC}{k:_H}(h:¬ p.1=k):ba (p::A) k=ba A k:=by unfold ba;rw[List.find?_cons_of_neg (by simpa using h)]
theorem qf{k:_H}{v:Int}:∀A:List aC,(A.map (·.1)).Nodup->k∈A.map (·.1)->eJ f (A.map λp=>if p.1=k then(p.1,v)else p)=eJ f A+f k*(v-ba A k)
 |[],_,h=>by cases h
 |p::A,nd,h=>by
  rw[Vv]at nd h;obtain⟨n1,n2⟩:=Wd.mp nd;rw[Vv];by_cases e:p.1=k
  .rw[VA e,i' e,qe A (by rw[<-e];exact n1)];show f p.1*v+eJ f A=f p.1*p.2+eJ f A+f k*(v-p.2);rw[e,Int.mul_sub];lia
  .rw[VL e,ja e];have h':k∈A.map (·.1):=(VO.mp h).resolve_left λz=>e z.symm;have:=qf (v:=v) A n2 h';show f p.1*p.2+_=f p.1*p.2+eJ f A+_;rw[this];lia
theorem Aj{A:List aC}{k:_H}{v:Int}(nd:(A.map (·.1)).Nodup):eJ f (gj A k v)=eJ f A+f k*(v-ba A k):=by
 by_cases h:k∈A.map (·.1)
 .unfold gj;rw[VA (uA.mpr h),qf A nd h]
 .rw[qb v h,uD,gP h,Int.sub_zero];show eJ f A+(f k*v+0)=_;rw[ZE]
theorem wI:∀(P A:List aC),(A.map (·.1)).Nodup->eJ f (P.foldl gF A)=eJ f A+eJ f P
 |[],A,_=>by show eJ f A=eJ f A+0;rw[ZE]
 |t::P,A,nd=>by rw[List.foldl_cons,wI P (gF A t) (kJ nd _ _)];show eJ f (gj A t.1 (ba A t.1+t.2))+eJ f P=eJ f A+(f t.1*t.2+eJ f P);rw[Aj nd,show ba A t.1+t.2-ba A t.1=t.2 by lia];lia
theorem qg(P:List aC):eJ f (dX P)=eJ f P:=by rw[H_,wI P [] Z8];show 0+_=_;rw[Xa]
theorem ET{A:List aC}(nd:(A.map (·.1)).Nodup):eJ f (wB A)=eJ f A:=by
 refine qd ?_;have e:A=(A.map (·.1)).map λk=>(k,ba A k):=by
  rw[VR]
  conv=>lhs;rw[<-Yt A]
  exact Wc λt ht=>by show t=(t.1,ba A t.1);rw[jY nd ht]
 unfold wB
 conv=>rhs;rw[e]
 exact(dW _).map _
end
section
variable{r:Int}
theorem Ak(hr:g_ r=true){f:_H->Int}:∀L:List aC,bO r (eJ f ((L.map λt=>(t.1,bO r t.2)).filter λt=>t.2 !=0))=bO r (eJ f L)
 |[]=>rfl
 |t::L=>by
  have ih:=Ak hr (f:=f) L;have e1:bO r (eJ f (t::L))=bO r (f t.1*bO r t.2+eJ f ((L.map λt=>(t.1,bO r t.2)).filter λt=>t.2 !=0)):=by show bO r (f t.1*t.2+eJ f L)=_;rw[<-ER hr,<-ih,<-EO hr (f t.1) t.2,ER hr]
  rw[e1,Vv,List.filter_cons];dsimp only;by_cases z:bO r t.2=0
  .rw[VL (by simp[z]),z,Int.mul_zero,Xa]
  .rw[VA (by simpa using z)];rfl
def Eqv(r:Int)(P Q:List aC):Prop:=∀f,bO r (eJ f P)=bO r (eJ f Q)
theorem Mz(hr:g_ r=true)(P:List aC):Eqv r (j! r P) P:=λf=>by show bO r (eJ f (((wB (dX P)).map λt=>(t.1,bO r t.2)).filter λt=>t.2 !=0))=_;rw[Ak hr,ET (f? P).1,qg]
theorem iM{k:_H}:∀A:List aC,(A.map (·.1)).Nodup->eJ (λx=>if x=k then 1 else 0) A=ba A k
 |[],_=>rfl
 |p::A,nd=>by
  rw[Vv]at nd;obtain⟨n1,n2⟩:=Wd.mp nd;show(if p.1=k then(1:Int)else 0)*p.2+eJ _ A=_;rw[iM A n2];by_cases e:p.1=k
  .rw[VA e,i' e,gP (by rw[<-e];exact n1)];lia
  .rw[VL e,ja e];lia
theorem oW(A:List aC):jG r A=((kZ (A.map (·.1))).filter λk=>bO r (ba A k) !=0).map λk=>(k,bO r (ba A k)):=by rw[<-qa];unfold NC;rw[Y2];rfl
theorem PN(hr:g_ r=true){P Q:List aC}(h:Eqv r P Q):j! r P=j! r Q:=by
 have gp:=(f? P).1;have gq:=(f? Q).1;have F:(λk=>bO r (ba (dX P) k))=λk=>bO r (ba (dX Q) k):=by
  funext k;have:=h λx=>if x=k then 1 else 0
  rw[<-qg P,<-qg Q,iM _ gp,iM _ gq]at this;exact this
 unfold j!;rw[oW,oW];have fk:∀k,bO r (ba (dX P) k)=bO r (ba (dX Q) k):=λk=>congrFun F k;have fp:SO.eR ((kZ ((dX P).map (·.1))).filter λk=>bO r (ba (dX P) k) !=0):=List.Pairwise.filter _ (iH gp);have fq:SO.eR ((kZ ((dX Q).map (·.1))).filter λk=>bO r (ba (dX Q) k) !=0):=List.Pairwise.filter _ (iH gq);have mem:∀(A:List aC)(k:_H),(k∈(kZ (A.map (·.1))).filter λk=>bO r (ba A k) !=0)↔bO r (ba A k)≠0:=by
  intro A k;rw[Xx,(dW _).mem_iff];refine⟨λq=>by simpa using q.2,λq=>⟨?_,by simpa using q⟩⟩;by_cases e:k∈A.map (·.1)
  .exact e
  .rw[gP e,H? hr]at q;exact absurd rfl q
 have pm:((kZ ((dX P).map (·.1))).filter λk=>bO r (ba (dX P) k) !=0).Perm ((kZ ((dX Q).map (·.1))).filter λk=>bO r (ba (dX Q) k) !=0):=
  (List.perm_ext_iff_of_nodup (dF fp) (dF fq)).mpr λk=>by rw[mem,mem,fk]
 rw[p8 pm fp fq];exact Wc λk _=>by rw[fk]
end
end PG
variable {t:PG.aC}
variable {R B D row SA SB:List PG.aC}
variable {Ds:List (List PG.aC)}
namespace L2
open PySem.Spec PyProof.Rows
theorem BL(hh:X.A.handled=none):bp X (.builtin "min") (λxs H Q=>∃i j,xs=[.int i,.int j]/\Q (.int (if j<i then j else i)) H):=by
 rintro ae s σ H xs ws Q I r ⟨i,j,rfl,q⟩;obtain⟨u,v,rfl,ru,rv⟩:=bw.two r;obtain⟨t,rfl⟩:=ru;obtain⟨t',rfl⟩:=rv;refine min_two_ints hh λh' tk hk=>?_;refine⟨.int (if j<i then j else i),H,I.kept hk,?_,q⟩;by_cases c:j<i
 .rw[VA c,VA c];exact⟨_,rfl⟩
 .rw[VL c,VL c];exact⟨_,rfl⟩
end L2
namespace MN
open PySem.Spec L2
open PyProof.Rows hiding St
def wJ:FN
 |[.int i,.int j],st=>.ok (.int (if j<i then j else i)) st
 |_,_=>.bad
theorem BM(hh:X.A.handled=none):bp X (.builtin "min") (cM (wo X) E wJ):=by
 refine bp.imp (BL hh) ?_;rintro xs H Q ⟨ρ,st,us,sr,r,h⟩;unfold wJ at h;split at h
 .rename_i i j;obtain⟨v,w,rfl,r1,r2⟩:=r.QN;exact⟨i,j,by rw[r1.cV,r2.cV],c! sr h⟩
 .exact h.elim
end MN
namespace PM
open PySem.Spec L2 MN
open PyProof.Rows hiding St
def joined:FN:=gf 2 2 (aK (ai gY (aa (aO 2 [] (gD false false (aa aE (aa aW aj))) (bU [(aq 0),(aq 1)]) aw (ag cq aE aW)) aj)))
end PM
namespace PG
open PySem.Spec L2 MN
open PyProof.Rows hiding St kindOf
theorem Ia(a b:_H):(a.zip b).map (λp=>p.1+p.2)=a_ a b:=by
 unfold a_
 induction a generalizing b with
 |nil=>rfl
 |cons x a ih=>cases b with
  |nil=>rfl
  |cons y b=>rw[X3,Vv,ih b,List.zipWith_cons_cons]
def nn:ak->Int
 |.tup [.int i,.int j]=>i+j
 |_=>0
theorem sP{a b:_H}(h:a.length<=10)(s:af):PM.joined [au a,au b] s=.ok (au (a_ a b)) (s++[.lst ((a_ a b).map ak.int)]):=by
 have cp:=cB (a:=bU [aq 0,aq 1]) (c:=aw) (e:=ag cq aE aW) (g:=λ_=>True/\True) (st:=s) ⟨trivial,trivial⟩ (λτ=>∃x y,τ=[x,y]) (λ_=>true) (λv=>.int (nn v)) (jn (a.map ak.int) (b.map ak.int)) [none,none] [] ⟨_,_,rfl⟩ (by
  rintro u hu τ ⟨x,y,rfl⟩;rw[fE]at hu;obtain⟨p,hp,rfl⟩:=VP.mp hu;exact⟨[some (.int p.1),some (.int p.2)],rfl,⟨_,_,rfl⟩,rfl,λ_=>rfl⟩)
 have e:((jn (a.map ak.int) (b.map ak.int)).filter λ_=>true).map (λv=>ak.int (nn v))=(a_ a b).map ak.int:=by rw[Wq.mpr λ_ _=>rfl,fE,VR,<-Ia,VR];rfl
 rw[e,VB]at cp;have zl:(jn (a.map ak.int) (b.map ak.int)).length<=sizeLine:=by rw[fE,Vs,Xm,VF];lia
 have comp:aO 2 [] (gD false false (aa aE (aa aW aj))) (bU [(aq 0),(aq 1)]) aw (ag cq aE aW) [some (au a),some (au b)] s=.ok (.loc s.length) (s++[.lst ((a_ a b).map ak.int)]):=by rw[cJ,yh,gu (v:=au a) (w:=au b) (s1:=s) (s2:=s) rfl rfl,ao];show(D4 false false [.tup (a.map ak.int),.tup (b.map ak.int)] s).f9 _=_;rw[uo,ao,dn,VA zl];show(bN _ _ _ _ _ [none,none] s []).f9 Bv=_;rw[cp,ao,eQ]
 unfold PM.joined;rw[aZ (np:=2) (us:=[au a,au b]) rfl];show(aK (ai gY (aa (aO 2 [] (gD false false (aa aE (aa aW aj))) (bU [(aq 0),(aq 1)]) aw (ag cq aE aW)) aj)) [some (au a),some (au b)] s).fin=_;rw[aQ,aR (dY comp),iZ (bS s _)];rfl
theorem uq(st g:af)(c c':bx):(st++c::g).set st.length c'=st++c'::g:=by rw[YT _ _ (Vy _),WJ];rfl
theorem uE(st g:af)(c:bx):(st++c::g)[st.length]?=some c:=by rw[VN (Vy _),WJ];rfl
def m_(s:aC)(B:List aC):List aC:=B.map λt=>(a_ s.1 t.1,s.2*t.2)
theorem BN(A B:List aC)(s:aC):h_ (A++[s]) B=h_ A B++m_ s B:=by unfold h_ m_;rw[List.flatMap_append];simp
theorem Al{μ:MN.Env}{s:af}{o:ME}{a:MA}{n:Nat}(ho:o μ s=.ok (.loc n) s)(h0:s[n]?=some (.lst us))(ha:a μ s=.ok [v] s1)(h:s1[n]?=some (.lst us))(hl:us.length<1000000):dy (g6 de o a) μ s=.nx μ (s1.set n (.lst (us++[v]))):=by rw[ig,mX,ho,ao,sH h0,ha,ao,z?,jT h (by rw[VF];lia),ay];rfl
def natOf:ak->Nat
 |.int i=>i.toNat
 |_=>0
theorem Am:∀(a b:_H),a.length=b.length->(List.range a.length).map (λi=>a.getD i 0+b.getD i 0)=a_ a b
 |[],[],_=>rfl
 |x::a,y::b,h=>by have ih:=Am a b (by simpa using h);rw[Vt,Yl,Vv,VR];show _=(x+y)::a_ a b;rw[<-ih];rfl
section
variable{r:Int}{b:Nat}{P X:List aC}
theorem MC(P:List aC):(j! r P).length<=P.length:=V7 (EJ _ _) (f? P).2.1
theorem av{s:af}{n:Nat}(h:s[n]?=some (.lst us)):ar s n=some us:=by unfold ar;rw[h]
end
end PG
namespace SO
open PySem.W PyProof.Rows
section
variable{E:_D}{s:_N}
theorem Ib{a b:_O}{oa:Obj}{us vs:Array _M}{n m:Nat}{xs ys:_H}{P:PySem.Fin->_N->Prop}(ha:s.heap.get? a=some oa)(hca:oa.cls=.type "tuple")(SY:oa.data=.seq us n)(hb:s.heap.get? b=some ob)(S0:ob.cls=.type "tuple")(kC:ob.data=.seq vs m)(ia:IntsAre us.toList xs)(ib:IntsAre vs.toList ys)(h:P (.done (.ret (.bool (lexLt ys xs)))) s):
  wpAny (model prog w) A (Builtin.«tuple.__gt__» ⟨[.ref a,.ref b],[]⟩) P E s:=by
 show wpAny _ _ (isInstance (.ref b) (.type "tuple") >>= _) _ _ s;refine Vp (X7 (T:="tuple") ⟨ob,hb,S0⟩ _v ?_);simp only[We,V5,WI];refine Vp (XU ha SY (Vp (XU hb kC ?_)));refine Vp ?_;refine wpAny_forIn_list _ (λrest r s'=>r.1=none/\s'=s/\∃x' y' sv q!,rest=List.zip sv q!/\IntsAre sv x'/\IntsAre q! y'/\lexLt y' x'=lexLt ys xs/\sv.length+vs.size=q!.length+us.size) _ ?_ ?_ _ _
  ⟨rfl,rfl,xs,ys,us.toList,vs.toList,rfl,ia,ib,rfl,by rw[V3,V3,YS]⟩
 .rintro⟨u,v⟩ rest r s' ⟨hr,rfl,x',y',sv,q!,hz,hx,hy,hl,hs⟩;cases hx with
  |nil=>cases hz
  | @cons i t LJ x1 O'=>
   cases hy with
   |nil=>cases hz
   | @cons j t2 S1 y1 S2=>
    rw[X3]at hz;injection hz with S3 Nx;cases S3;refine Vp (Yu ?_);replace hl:(if j=i then lexLt y1 x1 else decide (j<i))=lexLt ys xs:=hl;by_cases e:i=j
    .rw[VA e.symm]at hl;rw[WC.mpr e];simp only[We,V5,WI];refine Vr ⟨rfl,rfl,x1,y1,LJ,S1,Nx,O',S2,hl,?_⟩;rw[Vt,Vt]at hs;lia
    .rw[VL λz=>e z.symm]at hl;rw[V6.mpr e];simp only[Ya,XJ];refine Vp (W! ?_);refine Vp (show wpAny _ _ (richCompare .Gt (.int i t) (.int j t2)) _ _ _ from gt_int ?_);rw[show decide (i>j)=lexLt ys xs from hl];exact Vp (Vr (Vr (Vr h)))
 .rintro⟨r1,r2⟩ s' ⟨hr,rfl,x',y',sv,q!,hz,hx,hy,hl,hs⟩;simp only at hr;subst hr;refine Vr ?_;have hb:decide (us.size>vs.size)=lexLt ys xs:=by
   rw[<-hl];cases hx with
   |nil=>
    cases hy with
    |nil=>rw[V2 (by simp at hs;lia)];rfl
    |cons _ _ _=>rw[V2 (by rw[Vt,VE]at hs;lia)];rfl
   |cons _ _ _=>
    cases hy with
    |nil=>rw[V0 (by rw[Vt,VE]at hs;lia)];rfl
    |cons _ _ _=>cases hz
  show P (.done (.ret (.bool (decide (us.size>vs.size))))) s';rw[hb];exact h
theorem Ic{a b:_O}{xs ys:_H}(hu:A.units<cLine)(h1:gE s.heap (.ref a) xs)(h2:gE s.heap (.ref b) ys)(h:Q (.bool (lexLt ys xs)) s):
  wpAny (model prog w) A (richCompare .Gt (.ref a) (.ref b)) Q E s:=by
 obtain⟨_,a',o,aI,n,ea,ho,hc,hd,hi⟩:=h1;obtain⟨_,b',o2,dD,n2,eb,vm,zy,hd2,Cr⟩:=h2;cases ea;cases eb;refine ZH (op:=.Gt) (T:="tuple") ⟨o,ho,hc⟩ ⟨o2,vm,zy⟩ ZI ?_ hu;refine Wr ZI ⟨o,ho,hc⟩ PySem.F.entry_tuple_gt (Ib ho hc hd vm zy hd2 hi Cr ?_) (PySem.F.args_tuple_gt_2 _ _);exact⟨_,rfl,(λe=>nomatch e),h⟩
end
end SO
namespace PM
open PySem.Spec L2 MN
open PyProof.Rows hiding St
def e?:FN:=gf 2 2 (aK (ai pO (aa (aO 2 [] (gD false false (aa aE (aa aW aj))) (bU [(aq 0),(aq 1)]) aw (ag Jk aE aW)) aj)))
def d9:FN:=gf 2 2 (aK (ai gY (aa (aO 2 [] (gD false false (aa aE (aa aW aj))) (bU [(aq 0),(aq 1)]) aw (ag q_ aE aW)) aj)))
end PM
namespace PG
open PySem.Spec L2 MN
open PyProof.Rows hiding St kindOf
theorem uF{g:af->Prop}{A:AS}{μ μ1 μ2:MN.Env}{dh:af}(hg:g st)(ha:A u μ=some μ1)(hb:body μ1 st=.nx μ2 dh):forL g A body (u::us) μ st=forL g A body us μ2 dh:=by
 conv=>lhs;unfold forL
 rw[VA hg,ha];dsimp only;rw[hb]
def pA:ak->Int×Int
 |.tup [.int i,.int j]=>(i,j)
 |_=>(0,0)
theorem An{e:ME}{g:Int->Int->ak}{a b:_H}{s:af}(ha:a.length<=100)(he:∀i j,e [some (.int i),some (.int j)] s=.ok (g i j) s):
  aO 2 [] (gD false false (aa aE (aa aW aj))) (bU [(aq 0),(aq 1)]) aw e [some (au a),some (au b)] s=.ok (.loc s.length) (s++[.lst ((a.zip b).map λp=>g p.1 p.2)]):=by
 have cp:=cB (a:=bU [aq 0,aq 1]) (c:=aw) (e:=e) (g:=λ_=>True/\True) (st:=s) ⟨trivial,trivial⟩ (λτ=>∃x y,τ=[x,y]) (λ_=>true) (λv=>g (pA v).1 (pA v).2) (jn (a.map ak.int) (b.map ak.int)) [none,none] [] ⟨_,_,rfl⟩ (by
  rintro u hu τ ⟨x,y,rfl⟩;rw[fE]at hu;obtain⟨p,hp,rfl⟩:=VP.mp hu;exact⟨[some (.int p.1),some (.int p.2)],rfl,⟨_,_,rfl⟩,rfl,λ_=>he p.1 p.2⟩)
 have e2:((jn (a.map ak.int) (b.map ak.int)).filter λ_=>true).map (λv=>g (pA v).1 (pA v).2)=(a.zip b).map λp=>g p.1 p.2:=by rw[Wq.mpr λ_ _=>rfl,fE,VR];rfl
 rw[e2,VB]at cp;have zl:(jn (a.map ak.int) (b.map ak.int)).length<=sizeLine:=by rw[fE,Vs,Xm,VF];lia
 rw[cJ,yh,gu (v:=au a) (w:=au b) (s1:=s) (s2:=s) rfl rfl,ao];show(D4 false false [.tup (a.map ak.int),.tup (b.map ak.int)] s).f9 _=_;rw[uo,ao,dn,VA zl];show(bN _ _ _ _ _ [none,none] s []).f9 Bv=_;rw[cp,ao,eQ]
def gJ(f:Int->Int->Int)(a b:_H):_H:=(a.zip b).map λp=>f p.1 p.2
theorem Tj{F:FN}{e:ME}{f:Int->Int->Int}{a b:_H}{s:af}(hF:F=gf 2 2 (aK (ai gY (aa (aO 2 [] (gD false false (aa aE (aa aW aj))) (bU [(aq 0),(aq 1)]) aw e) aj))))(ha:a.length<=100)(he:∀i j,e [some (.int i),some (.int j)] s=.ok (.int (f i j)) s):
  ∃g,F [au a,au b] s=.ok (au (gJ f a b)) (s++g):=by
 refine⟨[.lst ((a.zip b).map λp=>ak.int (f p.1 p.2))],?_⟩;rw[hF,aZ (np:=2) (us:=[au a,au b]) rfl];show(aK (ai gY (aa (aO 2 [] (gD false false (aa aE (aa aW aj))) (bU [(aq 0),(aq 1)]) aw e) aj)) [some (au a),some (au b)] s).fin=_;rw[aQ,aR (dY (An (g:=λi j=>.int (f i j)) ha he)),iZ (bS s _),ay];show cL.ok (ak.tup _) _=_;unfold gJ au;rw[VR];rfl
theorem Ao{a b:_H}(ha:a.length<=100)(s:af):∃g,PM.d9 [au a,au b] s=.ok (au (gJ (· - ·) a b)) (s++g):=Tj rfl ha λi j=>rfl
theorem wK{α:Type}(f:α->Bool):∀l:List α,jd (l.map λp=>ak.bl (f p))=some (l.map f)
 |[]=>rfl
 |p::l=>by show(jd (l.map λp=>ak.bl (f p))).map (f p :: ·)=_;rw[wK f l];rfl
theorem yG{a b:_H}(ha:a.length<=100)(s:af):∃g,PM.e? [au a,au b] s=.ok (.bl ((a.zip b).all λp=>decide (p.1<=p.2))) (s++g):=by
 refine⟨[.lst ((a.zip b).map λp=>ak.bl (decide (p.1<=p.2)))],?_⟩;unfold PM.e?;rw[aZ (np:=2) (us:=[au a,au b]) rfl];show(aK (ai pO (aa (aO 2 [] (gD false false (aa aE (aa aW aj))) (bU [(aq 0),(aq 1)]) aw (ag Jk aE aW)) aj)) [some (au a),some (au b)] s).fin=_;have c:=An (e:=ag Jk aE aW) (g:=λi j=>.bl (decide (i<=j))) (a:=a) (b:=b) (s:=s) ha λi j=>rfl;have al:pO [.loc s.length] (s++[.lst ((a.zip b).map λp=>ak.bl (decide (p.1<=p.2)))])=.ok (.bl ((a.zip b).all λp=>decide (p.1<=p.2))) (s++[.lst ((a.zip b).map λp=>ak.bl (decide (p.1<=p.2)))]):=by unfold pO;dsimp only;rw[bS s _];dsimp only;rw[wK (λp:Int×Int=>decide (p.1<=p.2))];dsimp only;rw[ZS];rfl
 rw[aQ,aR (dY c),al,ay];rfl
end PG
namespace L2
open PySem.Spec PyProof.Rows
structure h!(k:Nat)(A:_P):Prop where
 dp:A.depth+3*k+5<recursionLimit
 un:A.units+16*k+200<cLine
theorem h!.room(r:h! k A):fJ k {A with handled:=none}:=⟨rfl,r.dp,r.un⟩
theorem h!.mono{j:Nat}(r:h! k A)(h:j<=k):h! j A:=⟨by have:=r.dp;lia,by have:=r.un;lia⟩
theorem h!.units(r:h! k A):A.units+64<cLine:=by have:=r.un;lia
theorem h!.mark(r:fJ k A)(v:_J):h! k (A.mark v):=⟨r.dp,r.un⟩
structure PQ(ea:_O)(oe:Obj)(outer:List Env)(H:Hp)(s:_N):Prop where
 get:s.heap.get? ea=some oe
 no:H ea=none
 out:ea ∉ gy outer
 dat:∀v,oe.data≠.cell v
def ND(CX:xy)(P:_Q)(w:World)(K:_G)(mg:_E)(base:Heap)(N:_L)(qual:Str)(scope:Scope)(f:_O)(cd:_M)(A:_P)(outer:List Env)(s:_N)(H:Hp)(E:XK)(ea:_O)(oe:Obj):Cx:=
 {ip CX P w K mg base N qual scope f cd A outer s H E with calm:=false,pn:=[(ea,oe)]}
theorem MD{params:Arguments}{body:List Stmt}{dV kV ct:_M}(lk:K.lookup f=some ⟨oc,od,.func (W.fnOf name qual params body scope dV kV doc pm an ej ct),AR⟩)(o?:W.codeIn K ej qual=true)(S:fj N ps scope){outer:List Env}{s:_N}{args:Args}{us:_I}{vs:List V}{Q:VK}(hr:h! (k+1) A)(e0:xH P w K mg base A outer s H)(hb:BindsTo s (W.fnOf name qual params body scope dV kV doc pm an ej ct) args (ps.zip us))(r:bw vs us)(hl:vs.length=ps.length)(hx:PQ ea oe outer H s)(vk:∃t,jk (ND CX P w K mg base N qual scope f ej A outer s H E ea oe) body t/\t {nx:=λ_ H'=>Q .c6 H',rt:=Q} (start N vs) H):
  codeAny (model P w) A (.call (.ref f) args) (CR CX outer P w H s Q E) s:=by
 have KX:K.In s.heap:=e0.mod.IV.keeps λb o e=>(e0.bs b o e).1;have lim:s.heap.NoLimit:=e0.mod.nolimit.keeps λb o e=>(e0.bs b o e).1;have CP:∀y∈ps.zip us,scope.names.lookup y.1=some .local\/(scope.names.lookup y.1=some .cell/\((cellsFrom (s.heap.objs.size+1) scope.names []).lookup y.1).isSome=true):=λ⟨n,v⟩hy=>by
  rcases S.par n (Y1 hy).1 with q|q
  .exact .inl q
  .exact .inr ⟨q,Yj _ _ _ (.inl q)⟩
 refine _x (A:=A) (show _ from hr.room.depth) (KX _ _ lk) rfl S.co S.gen rfl (Z4 KX o?) (hb _ _ _ _ ?_);refine ZO S.kind CP λenv he s1 x=>?_;subst he;refine⟨lim.keeps x.toInCall.keep,codeAny_func ?_⟩;obtain⟨t,ht,hq⟩:=vk;have e1:xH P w K mg base {A with handled:=none} outer s H:=⟨e0.frames,e0.mod,e0.bs,e0.Cv,e0.jo,e0.Cn,e0.b?,e0.bare⟩
 have I0:aM (ip CX P w K mg base N qual scope f ej {A with handled:=none} outer s H E) [] (start N vs) H s1:=r! S rfl e1 hl r x;have I:aM (ND CX P w K mg base N qual scope f ej A outer s H E ea oe) [] (start N vs) H s1:=by
  refine⟨⟨I0.ok.mod,I0.ok.kind,I0.ok.glob,I0.ok.blt,I0.ok.above,I0.ok.inj,I0.ok.has,I0.ok.IW,λh=>(by cases h),I0.ok.frames,I0.ok.FF,I0.ok.Qu,I0.ok.bs,I0.ok.Cv,I0.ok.tH,I0.ok.AH,I0.ok.jo,I0.ok.Cn⟩,I0.os,I0.bare,I0.base,I0.loc,I0.cell,I0.free,I0.gA,λp hp=>?_,I0.b?,I0.len⟩;have hp':p=(ea,oe):=by simpa[ND]using hp
  subst hp';refine⟨x.toInCall.keep _ _ hx.get,hx.no,?_,hx.out,hx.dat⟩;exact VX (Vz hx.get)
 refine Wz (ht [] s1 (start N vs) H _ I hq) (λfl s' hs=>?_) λe s' hs=>hs;have fin:∀{σ':St}{H':Hp}{v:V}{u:_M},aM (ND CX P w K mg base N qual scope f ej A outer s H E ea oe) [] σ' H' s'->bD v u->Q v H'->CE outer P w H s Q u s':=
  λ{σ' H' v u}J rv q=>⟨v,H',J.os,J.bare,J.base,J.b?,rv,q⟩
 cases fl with
 |ret u=>
  obtain⟨v,σ',H',J,rv,q⟩:=hs;exact fin J rv q
 |next=>
  obtain⟨σ',H',J,q⟩:=hs;exact fin (v:=V.c6) (u:=Value.none) J rfl q
 |brk=>
  obtain⟨_,_,_,q⟩:=hs;exact False.elim q
 |cont=>
  obtain⟨_,_,_,q⟩:=hs;exact False.elim q
end L2
namespace MN
open PySem.Spec L2
open PyProof.Rows hiding St
def sR(P:_Q)(w:World)(K:_G)(mg:_E)(base:Heap)(x:Str)(k:Nat)(F:Str->af->cL ak):Prop:=
 ∃(fa:_O)(fd:FuncData)(ps:_L),mg x=some (.ref fa)/\W.keepIn K (.ref fa)=true/\Binds K fd ps []/\ps.length=1 /\
  ∀(A:_P)(outer:List PySem.Env)(s:_N)(H:Hp)(ea:_O)(oe:Obj)(C:_O)(c:Str)(Q:VK)(args:Args),h! k A->xH P w K mg base A outer s H->BindsTo s fd args (ps.zip [.ref ea])->PQ ea oe outer H s->mg c=some (.ref C)->oe.cls=.ref C ->
   (∃ρ st,SR K ρ st H/\wR ⟨K,mg,[]⟩ E0 (Rl K) ρ H Q (F c st))->codeAny (model P w) A (.call (.ref fa) args) (CR (kX P w) outer P w H s Q E0) s
def Tn(n:Nat)(body:MB):Str->af->cL ak:=λc st=>(body (some (.exc c)::List.replicate n none) st).fin
theorem sR.mk{p:Str}{st:Stmt}{fd:FuncData}(F:FH K x x st f fd)(hm:mg x=some (.ref f))(S:fj (p::N) [p] (aV st))(hb:∀(kV doc pm:_M)(an:Option _O)(ej ct:_M)(us:_I),us.length=1->bindArgs (W.fnOf x x (fT st) (dH st) (aV st) .none kV doc pm an ej ct) ⟨us,[]⟩=pure ([p].zip us))
  (h:∀ (ej:_M) (A:_P) (outer:List PySem.Env) (s:_N) (H:Hp) (ea:_O) (oe:Obj),h! k (A.deeper (envOfC x (aV st) s.heap.objs.size f ej)) ->
   jk (ND (kX P w) P w K mg base (p::N) x (aV st) f ej A outer s H E0 ea oe) (dH st) (tS (ND (kX P w) P w K mg base (p::N) x (aV st) f ej A outer s H E0 ea oe) E0 body)):
  sR P w K mg base x (k+1) (Tn N.length body):=by
 refine⟨f,fd,[p],hm,F.kp,F.binds hb,rfl,λA outer s H ea oe C c Q args hr e0 hbt hx hc Cy q=>?_⟩;obtain⟨ρ,az,sr,q⟩:=q;obtain⟨oc,od,kV,doc,pm,an,ej,ct,AR,rfl,lk,o?⟩:=F.ex;have hr2:h! k (A.deeper (envOfC x (aV st) s.heap.objs.size f ej)):=by have:=(hr.room).deeper (envOfC x (aV st) s.heap.objs.size f ej);exact⟨this.dp,this.un⟩
 refine MD (vs:=[V.ref ea]) (E:=E0) lk o? S hr e0 hbt (.cons rfl .nil) rfl hx ⟨_,h ej A outer s H ea oe hr2,some (.exc c)::List.replicate N.length none,ρ,az,?_,sr,?_⟩
 .refine⟨by simp[L2.start],λi u e=>?_⟩;cases i with
  |zero=>
   cases e;exact⟨.ref ea,rfl,ea,oe,C,rfl,VZ.mpr rfl,hc,Cy⟩
  |succ i=>
   rw[_B,Xo]at e;split at e<;>cases e
 .unfold Tn at q;revert q;cases body (some (.exc c)::List.replicate N.length none) az with
  |nx μ dh=>exact λq ρ' H' σ' e s _=>q ρ' H' .c6 e s Rl.zL
  |rt v dh=>exact λq=>q
  |er c μ dh=>exact λq=>q
  |bk μ dh=>exact λq=>q.elim
  |ct μ dh=>exact λq=>q.elim
  |bad=>exact λq=>q.elim
def iA(i:Nat)(F:Str->af->cL ak):ME:=λμ st=>match μ[i]? with
 |some (some (.exc c))=>Pa (F c st)
 |_=>.bad
section
variable{p:Pos}{n:Str}{j:Nat}{F:Str->af->cL ak}
theorem EU(i:Nat)(G:sR X.prog X.w X.K X.mg X.base x k F)(hr:h! k X.A)(hg:Gl X x)(hN:X.N[i]?=some n:=by rfl)(hv:FE X.env.scope n:=by first|exact Or.inl rfl|exact Or.inr (Or.inl rfl))(hd:(n==("__debug__":Str))=false:=by decide)(o?:(n==("__classdict__":Str))=false:=by decide)(kC:(x==("__debug__":Str))=false:=by decide)(he:starEach [.Name n q1] X.env=(false,eval (.Name n q1) X.env)::starEach [] X.env:=by rfl)(iR:(backTo pos (starEach [] X.env)).any (·.1)=false:=by rfl):
  PE X (.Call (.Name x p) [.Name n q1] [] pos) (tE X E (iA i F)):=by
 obtain⟨fa,fd,ps,hm,hk,hb,hps,run⟩:=G;intro ae s σ H Q I h;obtain⟨μ,ρ,st,rs,sr,h⟩:=h;unfold iA at h;split at h
 .rename_i c hμ;obtain⟨v,hσ,ea,oe,C,rfl,FL,hmc,Cy⟩:=rs.at_ i _ hμ;have pin:=I.pin (ea,oe) (W5 _ FL);refine Xt (jO I hg hm ?_ kC);refine YJ (h₀:=X.base) I.ok.mod.IV hk (dA ((fS (tJ hN hv hd o?) kB he) pos ae s σ H (λvs H1=>vs=[.ref ea]/\H1=H) I ⟨_,hσ,rfl,rfl⟩) λus s1⟨vs,H1,I1,r,e1,e2⟩=>⟨I1.nI,?_⟩) he iR;subst e1 e2;obtain⟨u,rfl,ru⟩:=vals1 r;cases ru;have EV:=I1.pin (ea,oe) (W5 _ FL);have Q8:=hb s1 [.ref ea] I1.nI (by rw[Wa,hps];rfl);rw[Wa]at Q8;refine Yy (Yd (run X.A X.stack s1 H1 ea oe C c Q ⟨[.ref ea],[]⟩ hr I1.Ko Q8 ⟨EV.1,EV.2.1,λhb=>(VO.mp (I1.kz ea hb)).elim EV.2.2.1 EV.2.2.2.1,EV.2.2.2.2⟩ hmc Cy ⟨ρ,st,sr,?_⟩) λr s' hq=>?_)
  .revert h;cases F c st with
   |ok y dh=>exact λh=>h
   |err c dh=>exact λh=>h.elim
   |bad=>exact λh=>h.elim
  .cases r with
   |error e=>obtain⟨_,_,_,_,_,z⟩:=hq;exact z.elim
   |ok fl=>
    cases fl with
    |ret u=>exact I1.after hq
    |next=>exact False.elim hq
    |brk=>exact False.elim hq
    |cont=>exact False.elim hq
 .exact h.elim
end
end MN
namespace L2
open PySem.Spec PyProof.Rows
theorem sS{x:V}:∀{xs:List V}{us:_I},bw xs us->xs.all fZ=true->us.countP (AV x)=xs.countP λy=>tR y x
 |_,_,.nil,_=>rfl
 |y::xs,u::us,.cons r t,f=>by rw[Xk,Wt]at f;rw[List.countP_cons,List.countP_cons,tU r f.1,sS t f.2]
def MF:V->List V->Hp->VK->Prop:=λx vs H Q=>∃l xs y,x=.ref l/\vs=[y]/\H l=some (.lst xs)/\fZ y=true/\xs.all fZ=true/\Q (.int ((xs.countP λz=>tR z y:Nat):Int)) H
theorem EW:AX X "list.count" MF:=by intro ae s σ H x vs v us Q I rx rv h;obtain⟨l,xs,y,rfl,rfl,hH,fy,fs,q⟩:=h;cases rx;obtain⟨u,rfl,ru⟩:=rv.one;obtain⟨z,aI,n,r,hl,e⟩:=I.AY hH;refine X8 Zj ⟨_,e,rfl⟩ PySem.F.entry_list_count (PySem.F.args_list_count_2 _ _) (SeqAt.list_countAt l aI.toArray n none #[] u (AV y)) ⟨e,λw hw=>js ru fy r fs w (by simpa using hw),?_⟩;refine⟨.int _,H,I.tok _,⟨_,rfl⟩,?_⟩;rw[show aI.toArray.toList=aI from rfl,sS r fs];exact q
def MG:V->List V->Hp->VK->Prop:=λx vs H Q=>∃l xs y j,x=.ref l/\vs=[y]/\H l=some (.lst xs)/\fZ y=true/\xs.all fZ=true/\(∃z,xs[j]?=some z/\tR z y=true)/\(∀m z,m<j->xs[m]?=some z->tR z y=false)/\Q (.int ((j:Nat):Int)) H
theorem EY:AX X "list.index" MG:=by
 intro ae s σ H x vs v us Q I rx rv h;obtain⟨l,xs,y,j,rfl,rfl,hH,fy,fs,⟨z,hz,ez⟩,Kt,q⟩:=h;cases rx;obtain⟨u,rfl,ru⟩:=rv.one;obtain⟨hsz,aI,n,r,hl,e⟩:=I.AY hH;have at_:∀(m:Nat)(hm:m<aI.toArray.size),∃z,xs[m]?=some z/\AV y aI.toArray[m]=tR z y:=by
  intro m hm;have To:m<aI.length:=by simpa using hm
  obtain⟨z,hz⟩:∃z,xs[m]?=some z:=⟨_,Vx ⋯⟩
  obtain⟨w,hw,vo⟩:=r.get hz;have e1:aI.toArray[m]=w:=by have:=Vx To;rw[this]at hw;simpa using hw
  refine⟨z,hz,?_⟩;rw[e1,tU vo (Wk.mp fs z (WG hz))]
 have hj:j<aI.toArray.size:=by have:=(Wh.mp hz).1;simp;lia
 have Tp:(j:Int)<2 ^ 63-1:=by have:=(Wh.mp hz).1;rw[VF]at hsz;lia
 refine X8 Zi ⟨_,e,rfl⟩ PySem.F.entry_list_index (PySem.F.args_list_index_2 _ _) (SeqAt.list_indexAt l aI.toArray n none #[] u (AV y) j hj Tp ?_ ?_) ⟨e,λw hw=>js ru fy r fs w (by simpa using hw),?_⟩
 .obtain⟨z',h1,h2⟩:=at_ j hj;rw[h2];rw[hz]at h1;cases h1;exact ez
 .intro m hm hmj;obtain⟨z',h1,h2⟩:=at_ m hm;rw[h2];exact Kt m z' hmj h1
 .exact⟨.int _,H,I.tok _,⟨_,rfl⟩,q⟩
end L2
namespace MN
open PySem.Spec L2
open PyProof.Rows hiding St
def jH:FM
 |.loc n,[u],st=>match st[n]? with
  |some (.lst us)=>if flat u=true/\us.all flat=true then .ok (.int ((us.countP λy=>zR y u:Nat):Int)) st else .bad
  |_=>.bad
 |_,_,_=>.bad
def kK:FM
 |.loc n,[u],st=>match st[n]? with
  |some (.lst us)=>if flat u=true/\us.all flat=true then(match us.findIdx? (λy=>zR y u) with|some j=>.ok (.int ((j:Nat):Int)) st|none=>.bad)else .bad
  |_=>.bad
 |_,_,_=>.bad
section
theorem qh{K:_G}{ρ:_K}{H:Hp}{u:ak}{x:V}(f:flat u=true)(r:Rl K ρ H u x):∀{us:List ak}{vs:List V},us.all flat=true->bj K ρ H us vs->vs.all fZ=true/\(vs.map λy=>tR y x)=us.map λy=>zR y u
 |[],vs,_,h=>by rw[h.eM];exact⟨rfl,rfl⟩
 |w::us,vs,hf,h=>by obtain⟨v,r',rfl,h2,h3⟩:=h.cP;rw[Xk,Wt]at hf;obtain⟨a,b,c⟩:=gX hf.1 f h2 r;obtain⟨d,e⟩:=qh f r hf.2 h3;exact⟨by rw[Xk,a,d];rfl,by rw[Vv,Vv,c,e]⟩
theorem nR(f:α->Bool)(l:List α):l.countP f=(l.map f).countP id:=by rw[List.countP_map];rfl
theorem BO:AX X "list.count" (QT (wo X) E jH):=by
 refine AX.imp EW ?_;rintro x xs H Q ⟨ρ,st,u,us,sr,r1,r2,h⟩;unfold jH at h;split at h
 .rename_i n v;obtain⟨a,rfl,ha⟩:=r1.dO;obtain⟨y,rfl,ry⟩:=r2.sj;split at h
  .rename_i ws hw;split at h
   .rename_i hz;obtain⟨vs,hH,rv⟩:=sr.cell n _ a hw ha;obtain⟨q1,q2⟩:=qh hz.1 ry hz.2 rv;refine⟨a,vs,y,rfl,rfl,hH,(gX hz.1 hz.1 ry ry).1,q1,?_⟩;rw[nR (λz=>tR z y),q2,<-nR];exact h ρ _ _ (aF.refl _ _) sr (Rl.mkInt _)
   .exact h.elim
  .exact h.elim
 .exact h.elim
theorem BP:AX X "list.index" (QT (wo X) E kK):=by
 refine AX.imp EY ?_;rintro x xs H Q ⟨ρ,st,u,us,sr,r1,r2,h⟩;unfold kK at h;split at h
 .rename_i n v;obtain⟨a,rfl,ha⟩:=r1.dO;obtain⟨y,rfl,ry⟩:=r2.sj;split at h
  .rename_i ws hw;split at h
   .rename_i hz;obtain⟨vs,hH,rv⟩:=sr.cell n _ a hw ha;obtain⟨q1,q2⟩:=qh hz.1 ry hz.2 rv;split at h
    .rename_i j hj;have at_:∀(m:Nat)(z:V),vs[m]?=some z->∃w,ws[m]?=some w/\tR z y=zR w v:=by
      intro m z NF;have e:(vs.map λy'=>tR y' y)[m]?=(ws.map λy'=>zR y' v)[m]?:=by rw[q2]
      rw[VV,VV,NF]at e;cases JG:ws[m]? with
      |none=>rw[JG]at e;cases e
      |some w=>rw[JG]at e;exact⟨w,rfl,V? e⟩
     obtain⟨Tq,hjt,hjn⟩:=List.findIdx?_eq_some_iff_getElem.mp hj;have hl:=rv.length;refine⟨a,vs,y,j,rfl,rfl,hH,(gX hz.1 hz.1 ry ry).1,q1,?_,?_,h ρ _ _ (aF.refl _ _) sr (Rl.mkInt _)⟩
     .obtain⟨z,NF⟩:∃z,vs[j]?=some z:=⟨_,Vx ⋯⟩
      obtain⟨w,JG,e⟩:=at_ j z NF;refine⟨z,NF,?_⟩;rw[Vx Tq]at JG;cases JG;rw[e];exact hjt
     .intro m z hm NF;obtain⟨w,JG,e⟩:=at_ m z NF;rw[Vx ⋯]at JG;cases JG;rw[e];simpa using hjn m hm
    .exact h.elim
   .exact h.elim
  .exact h.elim
 .exact h.elim
variable{o e:Expr}
theorem EZ(ho:PE X o (tE X E mo))(ha:PA X (e::es) (tL X E ms))(lq:attributeBase o "count" X.env (eval o X.env)=eval o X.env:=by rfl)
  (t4:((backTo bM (starEach (e::es) X.env)).all (λx => !x.1)&&(backToKw bM (keywordEach [] X.env)).all (λx=>x.1.isSome)
   && decide ((e::es).length+([]:List Keyword).length+(if([]:List Keyword).isEmpty then 0 else 1)<30))=true:=by rfl)
  (lC:(apos.endLine==bM.line)=true:=by rfl) (hs:starEach (e::es) X.env=(false,eval e X.env)::starEach es X.env:=by rfl) (iT:(backTo bM (starEach es X.env)).any (·.1)=false:=by rfl):
  PE X (.Call (.Attribute o "count" apos) (e::es) [] bM) (tE X E (g6 jH mo ms)):=x! Zj PySem.F.type_list_count BO ho ha lq t4 lC hs iT
theorem E3(ho:PE X o (tE X E mo))(ha:PA X (e::es) (tL X E ms))(lq:attributeBase o "index" X.env (eval o X.env)=eval o X.env:=by rfl)
  (t4:((backTo bM (starEach (e::es) X.env)).all (λx => !x.1)&&(backToKw bM (keywordEach [] X.env)).all (λx=>x.1.isSome)
   && decide ((e::es).length+([]:List Keyword).length+(if([]:List Keyword).isEmpty then 0 else 1)<30))=true:=by rfl)
  (lC:(apos.endLine==bM.line)=true:=by rfl) (hs:starEach (e::es) X.env=(false,eval e X.env)::starEach es X.env:=by rfl) (iT:(backTo bM (starEach es X.env)).any (·.1)=false:=by rfl):
  PE X (.Call (.Attribute o "index" apos) (e::es) [] bM) (tE X E (g6 kK mo ms)):=x! Zi PySem.F.type_list_index BP ho ha lq t4 lC hs iT
end
end MN
namespace SO
open PySem.W PyProof.Rows
theorem sT{K:Type}[DecidableEq K]:∀{xs:List (K×_O×_M)}{j:Nat}{k:K}{p:_O×_M},(xs.map (·.1)).Nodup->xs[j]?=some (k,p)->xs.eraseIdx j=xs.filter λx=>decide (x.1≠k)
 |[],_,_,_,_,h=>by cases h
 |x::xs,0,k,p,hn,h=>by
  cases h;rw[Vv,Wd]at hn;rw[List.eraseIdx_cons_zero,Wy (by simp)];exact(Wq.mpr λy hy=>by
   have:y.1≠k:=λe=>hn.1 (VP.mpr ⟨y,hy,e⟩);simpa using this).symm
 |x::xs,j+1,k,p,hn,h=>by rw[Vv,Wd]at hn;rw[_B]at h;have ne:x.1≠k:=λe=>hn.1 (VP.mpr ⟨(k,p),WG h,e.symm⟩);rw[List.eraseIdx_cons_succ,Wx (by simpa using ne),sT hn.2 h]
theorem sU{α β:Type}(f:α->β):∀(l:List α)(j:Nat),(l.map f).eraseIdx j=(l.eraseIdx j).map f
 |[],_=>rfl
 |_::_,0=>rfl
 |x::l,j+1=>by show f x::(l.map f).eraseIdx j=f x::(l.eraseIdx j).map f;rw[sU f l j]
section
variable{K:Type}[DecidableEq K]{knd:HeapKind prog w K}{E:_D}{s:_N}
theorem uG{d a:_O}{xs:List (K×_O×_M)}{k:K}{p:_O×_M}{Q:Option DictEntry->_N->Prop}(hu:knd.room A)(AQ:knd.is s.heap k a)(hm:s.heap.DictOfH knd d xs)(hp:atKey xs k=some p)(hsz:xs.length<=sizeLine)(hQ:∀e h',e.val=p.2->h'.DictOfH knd d (xs.filter λx=>decide (x.1≠k))->Heap.SameBut d s.heap h'->Q (some e) {s with heap:=h',toks:=s.toks+knd.draws k}):
  wpAny (model prog w) A (Builtin.Dict.takeOut d (.ref a)) Q E s:=by
 obtain⟨o,es,ep,ho,hc,hd,he,OP,hn⟩:=hm;unfold Builtin.Dict.takeOut
 try with_reducible refine Wj ?_
 refine Vp (knd.pyHash hu AQ (Vp (wpAny_dictFind_heap (s:={s with toks:=s.toks+knd.draws k}) hu AQ ho hd he OP hn ?_ ?_)))
 .intro Kt;rw[atKey_none_of_get Kt]at hp;cases hp
 .intro j q hj;rw[atKey_of_get hn hj]at hp;cases hp;refine Vp (Xz (s:={s with toks:=s.toks+knd.draws k}) ho hd ?_);rw[entry_at he j,hj];have er:=sT hn hj;have sub:∀x∈xs.filter (λx=>decide (x.1≠k)),x∈xs:=λx hx=>(Xx.mp hx).1;refine Vp (wpAny_updateDictKeys (hz:=by have e:=size_of_entries he;lia) (s:={s with toks:=s.toks+knd.draws k}) ho hd (Vr (hQ _ _ rfl ⟨_,_,ep+1,Wu _ ho (Obj.isFreed_of_dict (Obj.data_mapDictKeys hd _)),
   hc.mapDictKeys _,Obj.data_mapDictKeys hd _,?_,?_,?_⟩ (Xn ..))))
  .rw[<-er];have Tq:j<es.size:=by
    rw[size_of_entries he];rcases WS j xs.length with z|z
    .exact z
    .rw[V' z]at hj;cases hj
   rw[Array.eraseIdxIfInBounds,dif_pos Tq,Array.toList_eraseIdx,he,sU]
  .intro x hx;exact knd.keeps (OP x (sub x hx)) ho hd (Xn ..)
  .exact List.Nodup.sublist ((Y8).map _) hn
theorem BQ(d a:_O):MeetsIn prog w (Builtin.«dict.pop» ⟨[.ref d,.ref a],[]⟩) (λA R s=>knd.room A.in1/\∃k xs p,knd.is s.heap k a/\s.heap.DictOfH knd d xs/\xs.length<=sizeLine/\atKey xs k=some p /\
   ∀h',h'.DictOfH knd d (xs.filter λx=>decide (x.1≠k))->Heap.SameBut d s.heap h'->R (.ok (.ret p.2)) {s with heap:=h',toks:=s.toks+knd.draws k}):=
 .of_wp λA R s⟨hu,k,xs,p,AQ,hm,hsz,hp,h⟩=>by
  unfold Builtin.«dict.pop»;refine Vp ?_;unfold Builtin.Dict.keyAndDefault;refine Vp (YI hm.typeIs ?_);show wpAny _ _ (pure (d,Value.ref a,none)) _ _ s;refine Vr ?_;obtain⟨o,es,ep,ho,hc,hd,he,OP,hn⟩:=id hm;have ri:es.isEmpty=false:=by
   cases z:es.isEmpty with
   |false=>rfl
   |true=>
    have z':es = #[]:=by simpa using z
    rw[z']at he;cases xs with
    |nil=>cases hp
    |cons x xs=>simp at he
  dsimp only[keyPart];simp only[Option.isSome_none,V5,WI];refine Vp (Xz ho hd (Vp (Vr ?_)));rw[ri];simp only[V5,WI];refine Vp (uG hu AQ hm hp hsz λe h' ev To QX=>?_);simp only[Option.isNone_some,V5,WI];exact Vp (WL (Vr ⟨e.val,rfl,by rw[ev];exact h h' To QX⟩))
end
section
variable{E:_D}{s:_N}{d:_O}{es:Array DictEntry}
theorem Ie(hd:(d==sysModules)=false):MeetsIn prog w (Builtin.«dict.__len__» ⟨[.ref d],[]⟩) (λ_ R s=>∃es ep,iG s.heap d es ep/\R (.ok (.ret (.int es.size s.toks))) {s with toks:=s.toks+1}):=
 .of_wp λA R s⟨es,ep,⟨o,ho,hc,rm⟩,h⟩=>by show wpAny _ _ (dictSize d >>= _) _ _ s;unfold dictSize;refine Vp (Vp (Xz ho rm (Vr ?_)));show wpAny _ _ (Builtin.Dict.pendingCount d >>= _) _ _ s;refine Vp (wpAny_pendingCount_other hd ?_);refine wpAny_ret_mkInt ?_;rw[Nat.add_zero];exact h
theorem Ig(hd:(d==sysModules)=false)(x:iG s.heap d es ep)(Ol:(es.size:Int)<2 ^ 63)(h:Q (.int es.size (s.toks+1)) {s with toks:=s.toks+1+1}):wpAny (model prog w) A (call (.builtin "len") [.ref d]) Q E s:=by
 refine Calls.call_function_entry kind_len plain_len entry_len (args_len1 _) ?_;unfold Builtin.«len»;refine Vp (m:=oneArg "len" _) (Vr ?_);refine Vp (m:=callSpecial? (.ref d) (Str.ofString "__len__")) (Wm (name:=Str.ofString "__len__") x.ty ZL
  (Y? ZL x.ty PySem.F.entry_dict_len (PySem.F.args_dict_len_1 _) (Ie hd) ⟨es,ep,x,?_⟩))
 show wpAny _ _ _ _ _ {s with toks:=s.toks+1};refine Vp (Wj (Vr ?_));refine Vp (WL ?_);show wpAny _ _ (if((es.size:Nat):Int)<0 then _ else _) _ _ _;rw[VL ⋯];show wpAny _ _ (if((es.size:Nat):Int) ≥ 2 ^ 63 then _ else _) _ _ _;rw[VL ⋯];exact Vp (wpAny_mkInt (Vr ⟨_,rfl,h⟩))
end
def uH(b:_M×List Int):List (_M×List Int)->_M×List Int
 |[]=>b
 |x::r=>uH (if lexLt b.2 x.2=true then x else b) r
section
variable{E:_D}{I d S:_O}{es:Array DictEntry}{zs:List (_M×List Int)}{R:Result->_N->Prop}
theorem Ih(hh:A.in1.handled=none)(hu:A.in1.units<cLine)(hI:d≠I)(yo:S≠I)(Q9:S≠d)(hz:es.toList.map (·.key)=zs.map (·.1)):∀(k j:Nat)(s:_N)(b:_M×List Int)(c:Nat),zs.length-j=k->j<=zs.length->(s.heap.IsKeyIter I d j es.size ep/\iG s.heap d es ep) ->
  s.heap.get? S=some (seqObj "list" #[b.1,b.1] c)->(∀z∈b::zs,gE s.heap z.1 z.2) ->
  (∀h' tk,(∀b o,b≠S->b≠I->s.heap.get? b=some o->h'.get? b=some o)->R (.ok (.ret (uH b (zs.drop j)).1)) {s with heap:=h',toks:=tk}) ->
  codeAny (model prog w) A (.builtin "max.loop" ⟨[.ref I,.none,.ref S],[]⟩) R s:=by
 have W:=mY (prog:=prog) (w:=w) (A:=A.in1) (es:=es) (ep:=ep) hh I hI;have hsz:es.size=zs.length:=by have:=Xc List.length hz;simpa using this
 have jF:(toString "max" ++ toString ".loop":String) = "max.loop":=by decide
 intro k
 induction k with
 |zero=>
  intro j s b c hk hj st hS hT hR;have e:j=es.size:=⋯
  refine WQ W4 ?_;rw[WU V8 _];show wpAny _ A.in1 (seqItems? (.ref S) >>= _) _ _ s;refine Vp (Wb hS rfl ?_);show wpAny _ A.in1 (tryCatch (pyNext (.ref I)) _ >>= _) _ _ s;refine Vp (W3 (W.done s _ _ (e▸st) λh' tk hm=>?_));have uu:=hm S _ (by simp[yo]) hS;show wpAny _ A.in1 (updateSeq S (λ_ => #[]) >>= _) _ _ _;refine Vp (XS uu rfl (Vp (WL (Vr ?_))));have:=hR ((h'.update S (Obj.mapSeq λ_ => #[]))) tk λb o h1 h2 e=>(VW _ _ (WE h1)).trans (hm b o (by simp[h2]) e);rw[YK ⋯]at this;exact this
 |succ k ih=>
  intro j s b c hk hj st hS hT hR;have lG:j<es.size:=⋯
  refine WQ W4 ?_;rw[WU V8 _];show wpAny _ A.in1 (seqItems? (.ref S) >>= _) _ _ s;refine Vp (Wb hS rfl ?_);show wpAny _ A.in1 (tryCatch (pyNext (.ref I)) _ >>= _) _ _ s;refine Vp (W3 (W.item j s _ _ lG st λv h' tk hP az hm=>?_));have uu:=hm S _ (by simp[yo]) hS;obtain⟨_,rfl⟩:=hP;have Ny:j<zs.length:=⋯
  have ev:es[j].key=zs[j].1:=by have:=Xc (λl=>l[j]?) hz;simp only[VV,X?]at this;rw[XO lG,Vx Ny]at this;simpa using this
  obtain⟨z,ez⟩:=NE (zs[j])
  rw[ev,<-ez];have ed:zs.drop j=z::zs.drop (j+1):=by rw[ez];exact Xe Ny
  have mz:z∈zs:=by rw[ez];exact W2 Ny
  have sV:∀z∈b::zs,gE h' z.1 z.2:=λz hz=>(hT z hz).to λa o ha hc=>hm a o (λq=>by
   rw[VZ]at q;obtain⟨oI,eI,cI,_⟩:=st.1;rw[q,eI]at ha;cases ha;rw[cI]at hc;exact absurd hc ⋯) ha
  have t1:=sV z (VJ _ mz);have t2:=sV b Vu;obtain⟨_,a1,_,_,_,e1,_⟩:=id t1;obtain⟨_,a2,_,_,_,e2,_⟩:=id t2;show wpAny _ A.in1 (tryCatch (holding [z.1,z.1] (richCompare .Gt z.1 b.1 >>= _)) _ >>= _) _ _ _;have cmp:∀{Q:_D}{E:_D},Q (.bool (lexLt b.2 z.2)) {s with heap:=h',toks:=tk}->wpAny (model prog w) A.in1 (richCompare .Gt z.1 b.1) Q E {s with heap:=h',toks:=tk}:=by intro Q E q;rw[e1,e2];rw[e1]at t1;rw[e2]at t2;exact Ic hu t1 t2 q
  refine Vp (W3 (Wj (Vp (cmp ?_))));refine Vp (Wj (WX (Vp (WL (Vr ?_)))));cases c1:lexLt b.2 z.2 with
  |true=>
   simp only[XJ];refine Vp (XS uu rfl (Vp (WL ?_)));rw[jF];have PR:∀a o,a≠S->h'.get? a=some o->(h'.update S (Obj.mapSeq λ_ => #[z.1,z.1])).get? a=some o:=λa o ne e=>(VW _ _ (WE ne)).trans e;refine Vr ⟨W9 V8 _,ih (j+1) _ z _ ⋯ ⋯ (W.frame _ _ _ az λb hb o e=>?_) (Wu _ uu rfl) (λy hy=>(sV y (by
     rcases VO.mp hy with rfl|hy
     .exact VJ _ mz
     .exact VJ _ hy)).to λa o ha hc=>PR a o (λq=>by rw[q,uu]at ha;cases ha;exact absurd (show Value.type "list" = Value.type "tuple" from hc) ⋯) ha) λh2 Ml GJ=>?_⟩
   .exact(VW _ _ (λz:S=b=>by rw[<-z]at hb;simp[yo,Q9]at hb)).trans e
   .have:=hR h2 Ml λb o h1 h3 e=>GJ b o h1 h3 ((VW _ _ (WE h1)).trans (hm b o (by simp[h3]) e));rw[ed]at this;replace this:R (.ok (.ret (uH (if lexLt b.2 z.2=true then z else b) (zs.drop (j+1))).1)) _:=this;rw[VA c1]at this;exact this
  |false=>
   simp only[V5,WI];refine Vp (WL ?_);rw[jF];refine Vr ⟨W9 V8 _,ih (j+1) _ b c ⋯ ⋯ az uu sV λh2 Ml GJ=>?_⟩;have:=hR h2 Ml λb o h1 h3 e=>GJ b o h1 h3 (hm b o (by simp[h3]) e);rw[ed]at this;replace this:R (.ok (.ret (uH (if lexLt b.2 z.2=true then z else b) (zs.drop (j+1))).1)) _:=this;rw[VL (by rw[c1];exact VH)]at this;exact this
theorem Ii{s:_N}{z:_M×List Int}(hh:A.handled=none)(hu:A.units+1<cLine)(lo:(d==sysModules)=false)(x:iG s.heap d es ep)(hz:es.toList.map (·.key)=(z::zs).map (·.1))(hT:∀y∈z::zs,gE s.heap y.1 y.2)(h:∀h' tk,(∀b o,s.heap.get? b=some o->h'.get? b=some o)->Q (uH z zs).1 {s with heap:=h',toks:=tk}):wpAny (model prog w) A (call (.builtin "max") [.ref d]) Q E s:=by
 have jF:(toString "max" ++ toString ".loop":String) = "max.loop":=by decide
 refine call_function_tree _p _d _e (PySem.F.args_max1 _) ?_;show wpAny _ A.in1 (Builtin.Builtins.bindParams "max" ["key","default"] 0 ⟨[],[]⟩ >>= _) _ _ s;refine Vp (Zf (show Builtin.Builtins.bindParams "max" ["key","default"] 0 ⟨[],[]⟩=pure [none,none]from rfl) ?_);refine Vp (Vr ?_);refine Vp (wa lo x ?_);refine Vp (Wf ?_);rw[jF];refine Vr ⟨W9 V8 _,?_⟩;obtain⟨I,eI⟩:=NE s.heap.objs.size
 obtain⟨h1,e1⟩:∃h1,h1=s.heap.push {cls:=.type "dict_keyiterator",data:=.fields #[.ref d,.int 0 0,.int es.size 0,.int ep 0]}:=⟨_,rfl⟩
 obtain⟨S,eS⟩:=NE h1.objs.size
 obtain⟨h2,e2⟩:=NE (h1.push (seqObj "list" #[] 0))
 have lG:d<s.heap.objs.size:=x.lt;have Mm:S=I+1:=by rw[eS,e1,eI,WO]
 have hI:d≠I:=by rw[eI];exact VX lG
 have yo:S≠I:=by rw[Mm];exact _q I
 have Q9:S≠d:=by rw[Mm,eI];exact WK (Xs lG)
 have k2:∀b o,s.heap.get? b=some o->h2.get? b=some o:=λb o e=>by rw[e2,e1];exact Vq _ (Vq _ e)
 have st:h2.IsKeyIter I d 0 es.size ep/\iG h2 d es ep:=by
  constructor
  .refine⟨{cls:=.type "dict_keyiterator",data:=.fields #[.ref d,.int 0 0,.int es.size 0,.int ep 0]},?_,rfl,rfl⟩;rw[e2,e1,eI];exact Vq _ (VI _ rfl)
  .exact x.to λo e=>k2 d o e
 have hS:h2.get? S=some (seqObj "list" #[] 0):=by rw[e2,eS];exact VI _ rfl
 show codeAny (model prog w) A (.builtin "max.loop" ⟨[.ref s.heap.objs.size,.none,.ref (s.heap.push {cls:=.type "dict_keyiterator",data:=.fields #[.ref d,.int 0 0,.int es.size 0,.int ep 0]}).objs.size],[]⟩) _ {s with heap:=(s.heap.push {cls:=.type "dict_keyiterator",data:=.fields #[.ref d,.int 0 0,.int es.size 0,.int ep 0]}).push (seqObj "list" #[] 0)};rw[<-e1,<-e2,<-eS,<-eI];have W:=mY (prog:=prog) (w:=w) (A:=A.in1) (es:=es) (ep:=ep) hh I hI;have hsz:es.size=zs.length+1:=by have:=Xc List.length hz;simpa using this
 have fresh:∀b o,s.heap.get? b=some o->b≠S/\b≠I:=λb o e=>by have q:=Vz e;exact⟨by rw[Mm,eI];exact VX (Xs q),by rw[eI];exact VX q⟩
 refine WQ W4 ?_;rw[WU V8 _];show wpAny _ A.in1 (seqItems? (.ref S) >>= _) _ _ _;refine Vp (Wb (s:={s with heap:=h2}) hS rfl ?_);show wpAny _ A.in1 (tryCatch (pyNext (.ref I)) _ >>= _) _ _ _;refine Vp (W3 (W.item 0 {s with heap:=h2} _ _ ⋯ st λv h' tk hP az hm=>?_));have uu:=hm S _ (by simp[yo]) hS;obtain⟨h0,rfl⟩:=hP;have ev:es[0].key=z.1:=by have:=Xc (λl=>l[0]?) hz;simp only[VV,X?]at this;rw[XO h0]at this;simpa using this
 rw[ev];show wpAny _ A.in1 (updateSeq S (λ_ => #[z.1,z.1]) >>= _) _ _ _;refine Vp (XS uu rfl ?_);rw[jF];have sV:∀y∈z::zs,gE h' y.1 y.2:=λy hy=>(hT y hy).to λa o ha hc=>hm a o (λq=>(fresh a o ha).2 (VZ.mp q)) (k2 a o ha);have fin:=Ih (prog:=prog) (w:=w) (A:=A) (ep:=ep) (zs:=z::zs) (R:=λr s'=>match r with|.ok (.ret v)=>Q v s'|.ok _=>False|.error e=>E e s') hh hu hI yo Q9 hz _ 1 {s with heap:=h'.update S (Obj.mapSeq λ_ => #[z.1,z.1]),toks:=tk} z _ rfl (by simp) (W.frame _ _ _ az λb hb o e=>(VW _ _ (λz:S=b=>by rw[<-z]at hb;simp[yo,Q9]at hb)).trans e)
  (Wu _ uu rfl) (λy hy=>(sV y (by
    rcases VO.mp hy with rfl|hy
    .exact Vu
    .exact hy)).to λa o ha hc=>(VW _ _ (λq:S=a=>by rw[<-q,uu]at ha;cases ha;exact absurd (show Value.type "list" = Value.type "tuple" from hc) ⋯)).trans ha) λh3 S5 S6=>?_
 .exact Vr ⟨W9 V8 _,fin⟩
 .refine h h3 S5 λb o e=>?_;have f:=fresh b o e;exact S6 b o f.1 f.2 ((VW _ _ (WE f.1)).trans (hm b o (by simp[f.2]) (k2 b o e)))
end
def yH(k:_H):List (_H)->_H
 |[]=>k
 |x::r=>yH (if lexLt k x=true then x else k) r
theorem wL:∀(l:List (_M×List Int))(b:_M×List Int),uH b l∈b::l
 |[],b=>Vu
 |x::r,b=>by
  show uH (if lexLt b.2 x.2=true then x else b) r∈_;rcases VO.mp (wL r (if lexLt b.2 x.2=true then x else b))with h|h
  .rw[h];split
   .exact VJ _ Vu
   .exact Vu
  .exact VJ _ (VJ _ h)
theorem wM:∀(l:List (_M×List Int))(b:_M×List Int),(uH b l).2=yH b.2 (l.map (·.2))
 |[],b=>rfl
 |x::r,b=>by show(uH (if lexLt b.2 x.2=true then x else b) r).2=yH (if lexLt b.2 x.2=true then x.2 else b.2) (r.map (·.2));rw[wM r];split<;>rfl
def jI(f:Nat->Int):Nat->Int
 |0=>f 0
 |j+1=>if f (j+1)<jI f j then f (j+1)else jI f j
theorem jJ(f:Nat->Int):∀j,f (argBest (λi j=>decide (f i<f j)) j)=jI f j
 |0=>rfl
 |j+1=>by
  have ih:=jJ f j;show f (if decide (f (j+1)<f (argBest (λi j=>decide (f i<f j)) j))=true then j+1 else argBest (λi j=>decide (f i<f j)) j)=if f (j+1)<jI f j then f (j+1)else jI f j
  rw[ih];by_cases c:f (j+1)<jI f j
  .rw[VA (V0 c),VA c]
  .rw[VL (by rw[V2 c];exact VH),VL c,ih]
theorem kL{f g:Nat->Int}:∀{j:Nat},(∀i,i<=j->f i=g i)->jI f j=jI g j
 |0,h=>h 0 (Vy _)
 |j+1,h=>by unfold jI;rw[kL (j:=j) λi hi=>h i ⋯,h (j+1) (Vy _)]
section
variable{E:_D}{s:_N}{l:_O}{us:_I}
theorem qi(h:IntsAre us ns):∃xs:Array (Int×Tok),us.toArray=intItems xs/\xs.size=ns.length/\∀i,numAt xs i=ns.getD i 0:=by
 have:∃l:List (Int×Tok),us=l.map (λp=>Value.int p.1 p.2)/\l.map (·.1)=ns:=by
  induction h with
  |nil=>exact⟨[],rfl,rfl⟩
  |cons n t _ ih=>
   obtain⟨l,e1,e2⟩:=ih;exact⟨(n,t)::l,by rw[e1];rfl,by rw[<-e2];rfl⟩
 obtain⟨l,rfl,rfl⟩:=this;refine⟨l.toArray,by simp[intItems],by simp,λi=>?_⟩;unfold numAt;rw[X!,Ww,VV]
theorem BR(hh:A.handled=none)(hl:s.heap.IsTuple l us.toArray)(ia:IntsAre us ns)(ri:ns≠[])(h:∀t h' tk,(∀b o,s.heap.get? b=some o->h'.get? b=some o)->Q (.int (jI (λi=>ns.getD i 0) (ns.length-1)) t) {s with heap:=h',toks:=tk}):
  wpAny (model prog w) A (call (.builtin "min") [.ref l]) Q E s:=by
 obtain⟨xs,ex,sx,nx⟩:=qi ia;rw[ex]at hl;have lG:l<s.heap.objs.size:=by obtain⟨_,e,_⟩:=id hl;exact Vz e
 have MJ:0<xs.size:=by
  rw[sx];cases ns with
  |nil=>exact absurd rfl ri
  |cons=>exact YO _
 refine call_min_walk (Y3 hl ?_);refine⟨_,[_,l],[_],_,_,_,_,rfl,Walks.tuple (A:=A.in1) hh _ l (VX lG) (intItems xs),
  ⟨⟨_,VI _ rfl,rfl,rfl⟩,hl.push _⟩,λc hc=>?_,by simpa[intItems]using MJ,CmpOf.ints_lt (numAt xs) (λ_ _=>Zg),λv h' tk hP hk=>?_⟩
 .show c<(s.heap.push _).objs.size;rw[WO];rcases VO.mp hc with rfl|hc
  .exact Xd _
  .rcases VO.mp hc with rfl|hc
   .exact Xs lG
   .cases hc
 .have hold:∀c o,s.heap.get? c=some o->h'.get? c=some o:=λc o e=>by
   refine hk c o (λhm=>?_) (Vq _ e);rcases VO.mp hm with e1|hm
   .have:=Vz e;rw[e1]at this;exact V9 _ this
   .cases hm
  obtain⟨t,rfl⟩:=Zg hP;have ev:numAt xs (argBest (λi j=>decide (numAt xs i<numAt xs j)) ((intItems xs).size-1))=jI (λi=>ns.getD i 0) (ns.length-1):=by rw[jJ (numAt xs),show(intItems xs).size-1=ns.length-1 by rw[<-sx];simp[intItems]];exact kL λi _=>nx i
  rw[ev];exact h t h' tk hold
end
end SO
namespace L2
open PySem.Spec PyProof.Rows
theorem KT.drop{aD:List (List cT×V)}{xs:List (List cT×_O×_M)}(r:KT H aD xs)(k:List cT):KT H (nL aD k) (xs.filter λx=>decide (x.1≠k)):=by
 induction r with
 |nil=>exact .nil
 | @cons p q ps qs h t ih=>
  obtain⟨h1,h2,h3⟩:=h;unfold nL at ih⊢;by_cases e:p.1=k
  .rw[Wy (by simp[e]),Wy (by simp[<-h1,e])];exact ih
  .rw[Wx (by simp[e]),Wx (by simp[<-h1,e])];exact .cons ⟨h1,h2,h3⟩ ih
section
variable{s:_N}{a b:_O}{aD:List (List cT×V)}{k:List cT}{E:_D}
theorem MK{v:V}(hu:A.units+1<cLine)(I:aM X ae σ H s)(e:H a=some (.dT aD))(eb:H b=some (.tup (k.map kV)))(l:iq aD k=some v)(h:∀w' s',aM X ae σ (upd H a (.dT (nL aD k))) s'->bD v w'->Q w' s'):wpAny (model X.prog X.w) A (call (.builtin "dict.pop") [.ref a,.ref b]) Q E s:=by
 obtain⟨z,hd,xs,rel,dd⟩:=Jd I.b? e;obtain⟨w',hw,vo⟩:=k9.some_of (v:=v) (o:=(atKey xs k).map (·.2)) (by rw[<-l];exact rel.val k);cases hk:atKey xs k with
 |none=>rw[hk]at hw;cases hw
 |some p=>
  rw[hk]at hw;replace hw:p.2=w':=V? hw;refine Y? ZK dd.typeIs PySem.F.entry_dict_pop (PySem.F.args_dict_pop_2 _ _) (SO.BQ (knd:=tupleKind (c_ X.prog X.w)) a b) ⟨Yg hu,k,xs,p,mL I.b? eb,dd,by rw[<-X_ rel];exact z,hk,λh' Nl hs=>h p.2 _ ?_ (by rw[hw];exact vo)⟩;obtain⟨q,es,ep,hq,h2,h3,h4,_,h5⟩:=Nl;refine t9 I (by rw[e];exact True.intro) hs ⟨q,hq⟩ ⟨V7 (C1 aD k) z,hd,_,(rel.drop k).keeps λc ys ec=>?_,q,es,ep,hq,h2,h3,h4,h5⟩;rw[a8 (IU ec e (λz=>nomatch z))];exact ec
end
def ML(td ty:TE):TE:=λσ H Q=>td σ H λx H1=>∃a,x=.ref a/\OA H1 a/\ty σ H1 λy H2=>∃aD k v b,H2 a=some (.dT aD)/\y=.ref b/\H2 b=some (.tup (k.map kV))/\iq aD k=some v/\Q v (upd H2 a (.dT (nL aD k)))
section
variable{o e:Expr}{ty:TE}
theorem E4(hu:X.A.units+1<cLine)(ho:PE X o td)(he:PE X e ty)(m:M1 X o "pop" apos e bM):PE X (.Call (.Attribute o "pop" apos) [e] [] bM) (ML td ty):=by intro ae s σ H Q I h;refine wpAny_Call_method m.base m.R_ m.line Zk ZK PySem.F.type_dict_pop (dA (ho ae s σ H _ I h) λu s1⟨x,H1,I1,rx,a,ex,d,q1⟩=>?_);subst ex;obtain rfl:u=Value.ref a:=rx;obtain⟨t1,t2,_⟩:=C4 I1 d;refine⟨t1,t2,?_⟩;rw[m.trees];refine YE rfl (X' (Yi (dA (he ae s1 σ H1 _ I1 q1) λiv s2⟨y,H2,I2,ry,aD,k,v,b,ea,ey,eb,l,q2⟩=>Y' ?_)));subst ey;obtain rfl:iv=Value.ref b:=ry;exact MK hu I2 ea eb l λw' s3 I3 vo=>⟨v,_,I3,vo,q2⟩
theorem BS:bp X (.builtin "len") (λxs H Q=>∃a aD,xs=[V.ref a]/\H a=some (.dT aD)/\Q (.int aD.length) H):=by
 intro ae s σ H xs us Q I r h;obtain⟨a,aD,rfl,ha,q⟩:=h;obtain⟨u,rfl,ru⟩:=vals1 r;cases ru;obtain⟨z,lo,ys,pr,o,es,ep,h1,h2,h3,h4,h5⟩:=(show cj X.prog X.w H s.heap a (.dT aD)from I.b? a _ ha)
 have el:es.size=aD.length:=by have:=Xc List.length h4;rw[V3,Vs]at this;rw[this,<-X_ pr]
 refine SO.Ig lo ⟨o,h1,h2.1,h3⟩ (by rw[VF]at z;lia) ⟨.int aD.length,H,I.tok _,⟨_,by rw[el]⟩,q⟩
theorem BU(hc:X.calm=true)(hu:X.A.units+1<cLine):bp X (.builtin "max") (λxs H Q=>∃(d:_O)(aD:List (List cT×V))(k:_H)(ks:List (_H)),xs=[.ref d]/\H d=some (.dT aD)/\aD.map (·.1)=(k::ks).map iK/\(∀x∈k::ks,x≠[])/\∀a,H a=some (.tup ((SO.yH k ks).map V.int))->Q (.ref a) H):=by
 intro ae s σ H xs us Q I r h;obtain⟨d,aD,k,ks,rfl,hd,hk,ri,q⟩:=h;obtain⟨u,rfl,ru⟩:=vals1 r;cases ru;obtain⟨_,lo,xs,pr,o,es,ep,h1,h2,h3,h4,h5⟩:=(show cj X.prog X.w H s.heap d (.dT aD)from I.b? d _ hd)
 have key:∀{aD:List (List cT×V)}{xs:List (List cT×_O×_M)}{ks:List (_H)},KT H aD xs->aD.map (·.1)=ks.map iK->(∀k∈ks,k≠[]) ->
   ∃zs:List (_M×List Int),zs.map (·.1)=xs.map (λx=>Value.ref x.2.1)/\zs.map (·.2)=ks/\∀z∈zs,SO.gE s.heap z.1 z.2/\∃a,z.1=.ref a/\H a=some (.tup (z.2.map V.int)):=by
  intro aD xs ks pr
  induction pr generalizing ks with
  |nil=>
   intro e _;cases ks with
   |nil=>exact⟨[],rfl,rfl,λz m=>by cases m⟩
   |cons=>cases e
  | @cons p x ps ys a _ ih=>
   intro e ne;cases ks with
   |nil=>cases e
   |cons k ks=>
    injection e with e1 e2;replace e1:p.1=iK k:=e1;obtain⟨zs,i1,i2,i3⟩:=ih e2 λk m=>ne k (VJ _ m);have ht:H x.2.1=some (.tup (k.map V.int)):=by rw[<-Pq,<-e1];exact a.2.1
    obtain⟨_,aI,rv,o,g1,g2,n,g3⟩:=(show cj X.prog X.w H s.heap x.2.1 (.tup (k.map V.int))from I.b? _ _ ht)
    refine⟨(.ref x.2.1,k)::zs,by rw[Vv,Vv,i1],by rw[Vv,i2],λz m=>?_⟩;rcases VO.mp m with m|m
    .rw[m];exact⟨⟨ne k Vu,x.2.1,o,aI.toArray,n,rfl,g1,g2,g3,g9 rv⟩,_,rfl,ht⟩
    .exact i3 z m
 obtain⟨zs,z1,z2,z3⟩:=key pr hk ri;have ev:es.toList.map (·.key)=zs.map (·.1):=by rw[z1,h4,VR];rfl
 cases zs with
 |nil=>cases z2
 |cons z zs=>
  injection z2 with e1 e2;replace e1:z.2=k:=e1;replace e2:zs.map (·.2)=ks:=e2;refine SO.Ii (I.ok.hd hc) hu lo ⟨o,h1,h2.1,h3⟩ ev (λy hy=>(z3 y hy).1) λh' tk kp=>?_;obtain⟨_,a,ea,ha⟩:=z3 _ (SO.wL zs z);rw[SO.wM,e1,e2]at ha;rw[ea];exact⟨.ref a,H,I.kept kp,rfl,q a ha⟩
theorem BV(hh:X.A.handled=none):bp X (.builtin "min") (λxs H Q=>∃a ns,xs=[.ref a]/\jq X.K H a (ns.map V.int)/\ns≠[]/\Q (.int (SO.jI (λi=>ns.getD i 0) (ns.length-1))) H):=by rintro ae s σ H xs ws Q I r ⟨a,ns,rfl,ha,ri,q⟩;obtain⟨u,rfl,ru⟩:=vals1 r;cases ru;obtain⟨aI,r1,p1,_⟩:=I.tuple ha;obtain⟨o,ho,hc,n,hd⟩:=id p1;exact SO.BR hh ⟨o,ho,hc,n,hd⟩ (g9 r1) ri λt h' tk kp=>⟨.int _,H,I.kept kp,⟨t,rfl⟩,q⟩
end
end L2
namespace MN
open PySem.Spec L2
open PyProof.Rows hiding St kindOf
section
variable[DecidableEq κ]
def wN(aD:List (κ×ak))(k:κ):List (κ×ak):=aD.filter λkv=>decide (kv.1≠k)
theorem fI.drop(k:κ):∀{aD:List (κ×ak)}{l:List (κ×V)},fI K ρ H aD l->fI K ρ H (wN aD k) (nL l k)
 |[],l,p=>by rw[p.eM];exact fI.nil
 |(k',u)::aD,l,p=>by
  obtain⟨v,l',rfl,r,p'⟩:=p.cP;have ih:=fI.drop k p';unfold wN nL at ih⊢;by_cases e:k'=k
  .rw[Wy (by simp[e]),Wy (by simp[e])];exact ih
  .rw[Wx (by simp[e]),Wx (by simp[e])];exact fI.cons r ih
end
def E5(d k:ak)(st:af):cL ak:=match d with
 |.loc n=>match st[n]? with
  |some (.dT aD)=>match iX k with
   |some ks=>match q? aD ks with
    |some v=>.ok v (st.set n (.dT (wN aD ks)))
    |none=>.bad
   |none=>.bad
  |_=>.bad
 |_=>.bad
def Aq(d k:ME):ME:=λμ st=>(d μ st).bind λdv a7=>if pU a7 dv=true then(k μ a7).bind λkv dh=>E5 dv kv dh else .bad
def wO:FN
 |[.loc n],st=>match st[n]? with
  |some (.dT aD)=>.ok (.int aD.length) st
  |_=>.bad
 |_,_=>.bad
def wQ:FN
 |[.loc n],st=>match st[n]? with
  |some (.dT aD)=>match lT (aD.map (·.1)) with
   |some (k::ks)=>if(k::ks).all (λk => !k.isEmpty)=true then .ok (au (SO.yH k ks)) st else .bad
   |_=>.bad
  |_=>.bad
 |_,_=>.bad
def wU:FN
 |[.tup us],st=>match gG us with
  |some (n::ns)=>.ok (.int (SO.jI (λi=>(n::ns).getD i 0) ns.length)) st
  |_=>.bad
 |_,_=>.bad
section
variable{o e:Expr}{mk:ME}
theorem Ij(hu:X.A.units+64<cLine)(ho:PE X o (tE X E md))(he:PE X e (tE X E mk))(m:M1 X o "pop" apos e bM:=by exact⟨rfl,rfl,rfl,rfl⟩):PE X (.Call (.Attribute o "pop" apos) [e] [] bM) (tE X E (Aq md mk)):=by
 refine PE.imp (E4 ⋯ ho he m) ?_;rintro σ H Q ⟨μ,ρ,st,rs,sr,h⟩;refine go μ ρ st rs sr h λd a7 ρ1 H1 x e1 cA r1 h1=>?_;split at h1
 .rename_i hd;obtain⟨a,rfl,ia⟩:=zY cA r1 hd;refine⟨a,rfl,ia,?_⟩;refine go μ ρ1 a7 (rs.mono e1) cA h1 λk dh ρ2 H2 y e2 nN r2 h2=>?_;have S7:=Rl.mono e2 _ _ r1;unfold E5 at h2;split at h2
  .rename_i n;obtain⟨a',ea,ha⟩:=S7.dO;cases ea;split at h2
   .rename_i aD hn;obtain⟨l,hl,p⟩:=nN.cell n _ a hn ha;split at h2
    .rename_i ks hk;obtain⟨b,rfl,hb⟩:=lM r2 hk;split at h2
     .rename_i v hv;rcases p.val ks with⟨z,_⟩|⟨u',v',z,zv,rv⟩
      .rw[hv]at z;cases z
      .rw[hv]at z;cases z;have MM:aF ρ2 H2 ρ2 (upd H2 a (.dT (nL l ks))):=aF.put hl (λ_ z=>by cases z) (λ_ _ z=>by cases z);refine⟨l,ks,v',b,hl,rfl,hb,zv,h2 ρ2 _ v' MM ?_ (Rl.mono MM _ _ rv)⟩;exact nN.set hn rfl rfl ha hl (λ_ z=>by cases z) (λ_ _ z=>by cases z) ⟨_,cg,(p.drop ks).mono MM⟩
     .exact h2.elim
    .exact h2.elim
   .exact h2.elim
  .exact h2.elim
 .exact h1.elim
theorem yI:bp X (.builtin "len") (cM (wo X) E wO):=by
 refine bp.imp BS ?_;rintro xs H Q ⟨ρ,st,us,sr,r,h⟩;unfold wO at h;split at h
 .rename_i n;obtain⟨v,rfl,r1⟩:=r.sj;obtain⟨a,rfl,ha⟩:=r1.dO;split at h
  .rename_i aD hn;obtain⟨l,hl,p⟩:=sr.cell n _ a hn ha;refine⟨a,l,rfl,hl,?_⟩;rw[<-p.length];exact c! sr h
  .exact h.elim
 .exact h.elim
theorem yJ(hc:X.calm=true)(hu:X.A.units+64<cLine):bp X (.builtin "max") (cM (wo X) E wQ):=by
 refine bp.imp (BU hc ⋯) ?_;rintro xs H Q ⟨ρ,st,us,sr,r,h⟩;unfold wQ at h;split at h
 .rename_i n;obtain⟨v,rfl,r1⟩:=r.sj;obtain⟨a,rfl,ha⟩:=r1.dO;split at h
  .rename_i aD hn;obtain⟨l,hl,p⟩:=sr.cell n _ a hn ha;split at h
   .rename_i k ks hk;split at h
    .rename_i hz;refine⟨a,l,k,ks,rfl,hl,by rw[<-p.1];exact we hk,λx m z=>?_,λb hb=>h ρ H _ (aF.refl _ _) sr (Rl.lH hb (bj.ints _))⟩;have:=Wk.mp hz x m;rw[z]at this;cases this
    .exact h.elim
   .exact h.elim
  .exact h.elim
 .exact h.elim
theorem yK(hh:X.A.handled=none):bp X (.builtin "min") (cM (wo X) E wU):=by
 refine bp.imp (BV hh) ?_;rintro xs H Q ⟨ρ,st,us,sr,r,h⟩;unfold wU at h;split at h
 .rename_i ws;obtain⟨v,rfl,r1⟩:=r.sj;split at h
  .rename_i n ns hk;rw[iI hk]at r1;obtain⟨a,vs,rfl,ha,ra⟩:=r1.fN;rw[bj.lV ra]at ha;exact⟨a,n::ns,rfl,ha,by simp,c! sr h⟩
  .exact h.elim
 .exact h.elim
end
end MN
namespace L2
open PySem.Spec PyProof.Rows PySem.W
theorem rq:bp X (.builtin "isinstance") (λxs H Q=>∃(ea:_O)(oe:Obj)(C D:_O)(b:Bool),xs=[.ref ea,.ref D]/\(ea,oe)∈X.pn/\oe.cls=.ref C/\jA X.K C/\kitOne X.K (.ref C) (.ref D)=some b/\Q (.bl b) H):=by intro ae s σ H xs us Q I r h;obtain⟨ea,oe,C,D,b,rfl,hp,hc,hq,hk,q⟩:=h;have he:=(I.pin (ea,oe) (W5 _ hp)).1;obtain⟨u,u2,rfl,ru,GH⟩:=vals2 r;cases ru;cases GH;exact kia_one (DU hc hq) I.nI he hk (by intro z;cases z) λtk=>⟨.bl b,H,I.tok tk,rfl,q⟩
end L2
namespace MN
open PySem.Spec L2
open PyProof.Rows hiding St
def dG(sub:Str->Str->Option Bool)(qs:_L)(i:Nat)(x:Str):ME:=λμ st=>match μ[i]? with
 |some (some (.exc c))=>if qs.contains c then(match sub c x with
  |some b=>.ok (.bl b) st
  |none=>.bad)else .bad
 |_=>.bad
section
variable{p:Pos}{n:Str}{tab:List (Str×Str×Bool)}{qs:_L}
theorem Ik(i:Nat)(hS:eB X.K X.mg tab)(hQ:rf X.K X.mg qs)(h:DQ X.K X.mg x)(hg:Gl X "isinstance")(hm:X.mg "isinstance" = none)(Nu:Gl X x)(hN:X.N[i]?=some n:=by rfl)(hv:FE X.env.scope n:=by first|exact Or.inl rfl|exact Or.inr (Or.inl rfl))(hd:(n==("__debug__":Str))=false:=by decide)(o?:(n==("__classdict__":Str))=false:=by decide)(Nv:(x==("__debug__":Str))=false:=by decide)(hs:starEach [.Name n q1,.Name x q2] X.env=(false,eval (.Name n q1) X.env)::starEach [.Name x q2] X.env:=by rfl)(fU:starEach [.Name x q2] X.env=(false,eval (.Name x q2) X.env)::starEach [] X.env:=by rfl)(iR:(backTo pos (starEach [.Name x q2] X.env)).any (·.1)=false:=by rfl):PE X (.Call (.Name "isinstance" p) [.Name n q1,.Name x q2] [] pos) (tE X E (dG (bY tab) qs i x)):=by
 obtain⟨D,hD,_,_⟩:=h;refine PE.imp (k? rq hg hm X2 (fS (tJ (i:=i) hN hv hd o?) (fS (tK (v:=.ref D) Nu hD rfl Nv) kB fU) hs) ⋯ ⋯ hs iR) ?_;rintro σ H Q ⟨μ,ρ,st,rs,sr,h⟩;unfold dG at h;split at h
 .rename_i c e;split at h
  .rename_i hqs;split at h
   .rename_i b eb;obtain⟨w,e',a,oe,C,rfl,hp,hC,ho⟩:=rs.at_ i _ e;obtain⟨C',Q_,hq⟩:=hQ.at_ hqs;have hC:X.mg c=some (.ref C):=hC;rw[hC]at Q_;cases Q_;refine⟨_,e',a,oe,C,D,b,rfl,hp,ho,hq,?_,d! sr h⟩;have k:=hS.O6 c x b C D eb hC hD;unfold W.kitOne;split
    .rename_i z;have z:=WC.mp z;cases z;rw[hq.kc]at k;exact k
    .exact k
   .exact h.elim
  .exact h.elim
 .exact h.elim
def MP:MB:=λ_ _=>.bad
theorem Ar{ss:List Stmt}:jk X ss (tS X E MP):=λ_ _ _ _ _ _ h=>by obtain⟨_,_,_,_,_,h⟩:=h;exact h.elim
end
end MN
namespace PM
open PySem.Spec L2 MN
open PyProof.Rows hiding St
def cY:FN:=gf 3 7 (d5 (bQ aW) (bU [(aq 3),(aq 4)]) (aA (aN 5 (ai PM.joined (aa c5 (aa (ag aU bK bI) aj)))) (aA (aN 6 (ag q_ (iw aE kY bI) (ag dg (ag aU bK dJ) fV))) (fL (ck (ag gB oP bI)) (dy (Aq aE kY)) (mT aE kY oP)))))
def bX:FN:=gf 2 7 (aA (aN 2 (df aj)) (aA (d5 (bQ aE) (bU [(aq 3),(aq 4)]) (d5 (bQ aW) (bU [(aq 5),(aq 6)]) (dy (g6 de bK (aa (cQ (aa (ai gY (aa (aO 1 [3,5] (b_ (aa (ai cZ (aa c5 aj)) aj)) (aq 0) aw (ag cq (ag aU aW aE) (ag aU bK aE))) aj)) (aa (ag dg fV oP) aj))) aj))))) (aK (ai PM.dq (aa bK aj)))))
def iN:FN:=gf 2 2 (aK (ai PM.dq (aa (ag cq aE aW) aj)))
def d_:FN:=gf 5 8 (aA (aN 5 (df aj)) (aA (d5 (b_ (aa bK aj)) (aq 6) (aA (aN 7 (ai gY (aa (aO 1 [0,6,3] (b_ (aa aW aj)) (aq 0) aw (ag dE (ai PM.d8 (aa aW (aa (ag cq (ag dg Lp bK) aE) aj))) (ag cq c5 dJ))) aj))) (dy (g6 de kY (aa (cQ (aa zO (aa (ai PM.cb (aa (ai PM.d8 (aa aE (aa (ag cq (ag dg Lp oP) vL) aj))) (aa fV aj))) aj))) aj))))) (aK (ai PM.dq (aa kY aj)))))
def br:FN:=gf 2 6 (aA (aN 2 (ai wm (aa aE aj))) (aA (aN 3 (df aj)) (aA (fA (ck (ag GX (ai wO (aa bK aj)) bI)) (aA (aN 4 (ai wQ (aa bK aj))) (aA (fL (eV (cH (ck (ai PM.e? (aa (ag aU (ag aU aW bI) bI) (aa fV aj))))) (ck (ag gC (ag dE (ag dQ bK fV) (ag aU (ag aU aW bI) dJ)) bI))) (aK (mC .c6)) bz) (aA (aN 5 (cQ (aa (ai PM.d9 (aa fV (aa (ag aU (ag aU aW bI) bI) aj))) (aa (ag eO (ag dQ bK fV) (ag aU (ag aU aW bI) dJ)) aj)))) (aA (dy (g6 de c5 (aa kY aj))) (dy (ai PM.cY (aa bK (aa aW (aa kY aj)))))))))) (aK c5))))
end PM
namespace PG
def gx(e:_H)(i:Nat):Int:=e.getD i 0
theorem E6(i:Nat):gx [] i=0:=rfl
theorem qj:∀{a b:_H}(i:Nat),a.length=b.length->gx (gJ (· - ·) a b) i=gx a i-gx b i
 |[],[],i,_=>by simp[gJ,gx]
 |x::a,y::b,0,h=>rfl
 |x::a,y::b,i+1,h=>qj (a:=a) (b:=b) i (by simpa using h)
 |[],y::b,_,h=>by simp at h
 |x::a,[],_,h=>by simp at h
theorem sub_len{a b:_H}(h:a.length=b.length):(gJ (· - ·) a b).length=a.length:=by unfold gJ;rw[Vs,Xm,h,X9]
theorem wV:∀{a b:_H},a.length=b.length->a_ (gJ (· - ·) a b) b=a
 |[],[],_=>rfl
 |x::a,y::b,h=>by show(x-y+y)::a_ (gJ (· - ·) a b) b=_;rw[wV (by simpa using h)];congr 1;lia
 |[],y::b,h=>by simp at h
 |x::a,[],h=>by simp at h
theorem join_comm(a b:_H):a_ a b=a_ b a:=by unfold a_;rw[List.zipWith_comm];congr 1;funext x y;exact Int.add_comm y x
open PySem.Spec L2 MN
open PyProof.Rows hiding St kindOf
theorem JH(n:Int):bO 0 n=n:=by unfold bO;rw[VA rfl]
theorem E7(f:_H->Int)(P:List aC):eJ f (j! 0 P)=eJ f P:=by have:=Mz (r:=0) rfl P f;rwa [JH,JH]at this
theorem JI{P Q:List aC}(h:∀f,eJ f P=eJ f Q):j! 0 P=j! 0 Q:=PN rfl λf=>by rw[h f]
theorem E8(P:List aC):SO.eR ((j! 0 P).map (·.1)):=yD 0 (f? P).1
theorem yL{P:List aC}(h:t∈j! 0 P):t.1∈P.map (·.1)/\t.2≠0:=by obtain⟨q,hq,e1,e2⟩:=wD h;refine⟨by rw[e1];exact VP.mpr (VP.mp ((f? P).2.2 q hq)),?_⟩;unfold j! jG at h;simpa using(Xx.mp h).2
theorem MQ{P:List aC}(h:∀t∈P,t.1.length=ah/\∀e∈t.1,0<=e):eh ah (j! 0 P):=by
 have key:∀t∈j! 0 P,t.1.length=ah/\∀e∈t.1,0<=e:=λt ht=>by obtain⟨q,hq,e⟩:=VP.mp (yL ht).1;rw[<-e];exact h q hq
 exact⟨E8 P,λt ht=>(key t ht).1,λt ht=>(key t ht).2,λt ht=>(yL ht).2⟩
theorem gK(S:eh ah D):j! 0 D=D:=by
 unfold j!;rw[sO (dF S.p?),BI S.p?];unfold Mw;have e:D.map (λt=>(t.1,bO 0 t.2))=D:=by
  conv=>rhs;rw[<-Yt D]
  exact Wc λt _=>by rw[JH];rfl
 rw[e];exact Wq.mpr λt ht=>by simpa using S.nz t ht
theorem Il{A:List aC}(nd:(A.map (·.1)).Nodup)(nz:∀t∈A,t.2≠0):(j! 0 A).Perm A:=by
 unfold j!;rw[sO nd,oW];have e1:((kZ (A.map (·.1))).filter λk=>bO 0 (ba A k) !=0)=kZ (A.map (·.1)):=Wq.mpr λk hk=>by obtain⟨t,ht,e⟩:=VP.mp ((dW _).mem_iff.mp hk);rw[JH,<-e,jY nd ht];simpa using nz t ht
 rw[e1];have e2:((A.map (·.1)).map λk=>(k,bO 0 (ba A k)))=A:=by
  rw[VR]
  conv=>rhs;rw[<-Yt A]
  exact Wc λt ht=>by show(t.1,bO 0 (ba A t.1))=t;rw[JH,jY nd ht]
 have:=(dW (A.map (·.1))).map λk=>(k,bO 0 (ba A k))
 rwa [e2]at this
theorem sW{A:List aC}(p:A.Perm D)(nd:(A.map (·.1)).Nodup)(k:_H):ba A k=ba D k:=by rw[<-iM A nd,<-iM D ((p.map _).nodup_iff.mp nd),qd p]
def sX(q:aC)(A:List aC)(b:aC):List aC:=
 if ba A (a_ b.1 q.1)-q.2*b.2=0 then A.filter λp=>decide (p.1≠a_ b.1 q.1)else gj A (a_ b.1 q.1) (ba A (a_ b.1 q.1)-q.2*b.2)
theorem wW{f:_H->Int}{k:_H}:∀A:List aC,(A.map (·.1)).Nodup->eJ f (A.filter λp=>decide (p.1≠k))=eJ f A-f k*ba A k
 |[],_=>by show(0:Int)=0-f k*0;lia
 |p::A,nd=>by
  rw[Vv]at nd;obtain⟨n1,n2⟩:=Wd.mp nd;have ih:=wW (f:=f) (k:=k) A n2;by_cases e:p.1=k
  .rw[Wy (by simp[e]),ih,i' e,gP (by rw[<-e];exact n1)];show _=f p.1*p.2+eJ f A-f k*p.2;rw[e];lia
  .rw[Wx (by simp[e]),ja e];show f p.1*p.2+eJ f (A.filter λp=>decide (p.1≠k))=f p.1*p.2+eJ f A-f k*ba A k;rw[ih];lia
structure Tk(A:List aC):Prop where
 nd:(A.map (·.1)).Nodup
 nz:∀t∈A,t.2≠0
theorem MR{q b:aC}{A:List aC}(h:Tk A):Tk (sX q A b)/\(sX q A b).length<=A.length+1/\∀f,eJ f (sX q A b)=eJ f A-f (a_ q.1 b.1)*(q.2*b.2):=by
 unfold sX;by_cases z:ba A (a_ b.1 q.1)-q.2*b.2=0
 .rw[VA z];refine⟨⟨List.Nodup.sublist ((Y8).map _) h.nd,λt ht=>h.nz t (Xx.mp ht).1⟩,Nat.le_succ_of_le (YU _ _),λf=>?_⟩;rw[wW A h.nd,join_comm q.1 b.1,show ba A (a_ b.1 q.1)=q.2*b.2 by lia]
 .rw[VL z];refine⟨⟨kJ h.nd _ _,λt ht=>?_⟩,wt,λf=>?_⟩
  .rcases p! ht with ht|rfl
   .exact h.nz t ht
   .exact z
  .rw[Aj h.nd,join_comm q.1 b.1,show ba A (a_ b.1 q.1)-q.2*b.2-ba A (a_ b.1 q.1) = -(q.2*b.2) by lia,Int.mul_neg];lia
theorem yM{q:aC}:∀(B A:List aC),Tk A->Tk (B.foldl (sX q) A)/\(B.foldl (sX q) A).length<=A.length+B.length/\∀f,eJ f (B.foldl (sX q) A)=eJ f A-eJ f (m_ q B)
 |[],A,h=>⟨h,Vy _,λf=>by show eJ f A=eJ f A-0;lia⟩
 |b::B,A,h=>by obtain⟨h1,h2,h3⟩:=MR (q:=q) (b:=b) h;obtain⟨k1,k2,k3⟩:=yM B (sX q A b) h1;refine⟨k1,by rw[Vt];show(B.foldl (sX q) (sX q A b)).length<=_;lia,λf=>?_⟩;show eJ f (B.foldl (sX q) (sX q A b))=eJ f A-(f (a_ q.1 b.1)*(q.2*b.2)+eJ f (m_ q B));rw[k3,h3];lia
theorem uI(f:_H->Int):∀L:List aC,eJ f (chg (λn => -n) L) = -eJ f L
 |[]=>rfl
 |t::L=>by show f t.1 * -t.2+eJ f (chg (λn => -n) L) = -(f t.1*t.2+eJ f L);rw[uI f L,Int.mul_neg];lia
def JJ(B D:List aC)(q:aC):List aC:=j! 0 (D++chg (λn => -n) (m_ q B))
theorem Im(f:_H->Int)(B D:List aC)(q:aC):eJ f (JJ B D q)=eJ f D-eJ f (m_ q B):=by unfold JJ;rw[E7,uD,uI];lia
theorem Io{q:aC}{A:List aC}(h:Tk A)(p:A.Perm D):Tk (B.foldl (sX q) A)/\(B.foldl (sX q) A).Perm (JJ B D q):=by
 obtain⟨k1,_,k3⟩:=yM (q:=q) B A h;refine⟨k1,?_⟩;have e:j! 0 (B.foldl (sX q) A)=JJ B D q:=by refine JI λf=>?_;rw[k3,uD,uI,qd p];lia
 rw[<-e];exact(Il k1.nd k1.nz).symm
theorem E9{r:List aC}(f:SO.eR ((t::r).map (·.1))):∀{ks:List (_H)}{k:_H},(k::ks).Perm ((t::r).map (·.1))->SO.yH k ks=t.1:=by
 intro ks k p;have top:∀x∈k::ks,x=t.1\/SO.lexLt x t.1=true:=λx hx=>by
  have:=p.mem_iff.mp hx;rw[Vv]at this f;rcases VO.mp this with e|m
  .exact .inl e
  .exact .inr ((List.pairwise_cons.mp f).1 x m)
 have has:t.1∈k::ks:=p.mem_iff.mpr Vu;clear p f
 induction ks generalizing k with
 |nil=>
  rcases VO.mp has with e|m
  .exact e.symm
  .cases m
 |cons x ks ih=>
  show SO.yH (if SO.lexLt k x=true then x else k) ks=t.1;refine ih (λy hy=>?_) ?_
  .rcases VO.mp hy with e|m
   .rw[e];split
    .exact top x (VJ _ Vu)
    .exact top k Vu
   .exact top y (VJ _ (VJ _ m))
  .rcases VO.mp has with e|m
   .rw[<-e];have nx:¬ SO.lexLt t.1 x=true:=λz=>by
     rcases top x (VJ _ Vu)with e2|m2
     .rw[e2,SO.jU]at z;cases z
     .rw[SO.g8 z]at m2;cases m2
    rw[VL nx];exact Vu
   .rcases VO.mp m with e|m
    .rw[<-e];by_cases z:SO.lexLt k t.1=true
     .rw[VA z];exact Vu
     .rw[VL z];rcases top k Vu with e2|m2
      .rw[e2];exact Vu
      .exact absurd m2 z
    .exact VJ _ m
def JK(l t:aC):Bool:=((l.1.zip t.1).all λp=>decide (p.1<=p.2))&&(t.2.fmod l.2==0)
def jZ(l t:aC):aC:=(gJ (· - ·) t.1 l.1,t.2.fdiv l.2)
theorem E_{e:_H}(h:i<e.length):gx e i∈e:=by unfold gx;rw[Ww,Vx h];exact W2 h
theorem E!{e:_H}{x:Int}(h:x∈e):∃i,gx e i=x:=by obtain⟨i,hi,e1⟩:=Y0.mp h;refine⟨i,?_⟩;unfold gx;rw[Ww,Vx hi];exact e1
structure Tr(ah:Nat)(D Q:List aC):Prop where
 sD:eh ah D
 sQ:eh ah Q
 lD:D.length<=15625200
 lQ:Q.length<=15625200
inductive Dv(ah:Nat)(B:List aC)(l:aC):List aC->List aC->Option (List aC)->Prop
 |done {Q:List aC} (h:Tr ah [] Q):Dv ah B l [] Q (some Q)
 |stop {t:aC} {r Q:List aC} (h:Tr ah (t::r) Q) (n:JK l t=false):Dv ah B l (t::r) Q none
 |more {t:aC} {r Q:List aC} {R:Option (List aC)} (h:Tr ah (t::r) Q) (n:JK l t=true) (m:∀b∈B,MulOk (jZ l t).2 b.2) (k:Dv ah B l (JJ B (t::r) (jZ l t)) (Q++[jZ l t]) R):Dv ah B l (t::r) Q R
theorem BW{p:Nat}{P:List aC}(h:ar st p=some (P.map tV))(hl:P.length<64):
  ∃x2 x3,forL (λaz=>ar az p=some (P.map tV)) (bU [aq 2,aq 3]) BD (P.map tV) [qL p, qL st.length, qn, qn] (st++[.dT []])=.nx [qL p, qL st.length, x2, x3] (st++[.dT ((dX P).map eD)]):=by
 symm;have hg:∀(A:List aC),ar (st++[.dT (A.map eD)]) p=some (P.map tV):=λA=>cn h _;obtain⟨μ',az,e,rfl,x2,x3,rfl⟩:=dB (g:=λaz=>ar az p=some (P.map tV)) (a:=bU [aq 2,aq 3]) (body:=BD)
  (λi μ s'=>s'=st++[.dT ((dX (P.take i)).map eD)]/\∃x2 x3,μ=[qL p, qL st.length, x2, x3])
  (P.map tV) 0 [qL p, qL st.length, qn, qn] (st++[.dT []])
  (by
   rintro i u μ s' hu ⟨rfl,x2,x3,rfl⟩;rw[Wv];refine⟨hg _,?_⟩;rw[VV]at hu;have hi:i<P.length:=by
    rcases WS i P.length with q|q
    .exact q
    .rw[V' q]at hu;cases hu
   rw[Vx hi]at hu;obtain⟨t,ht⟩:=NE (P[i])
   rw[<-ht]at hu;cases hu;have tk:P.take (i+1)=P.take i++[t]:=by rw[YZ,Vx hi,<-ht];rfl
   have lA:=(f? (P.take i)).2.1;rw[W?]at lA;have ad:=Et (p:=p) (k:=t.1) (v:=t.2) (uB st ((dX (P.take i)).map eD)) (by rw[VF];lia);rw[set_dict,<-BH,<-tk]at ad;exact⟨_,rfl,_,_,.inl ad,rfl,_,_,rfl⟩)
  (λμ s hp=>by obtain⟨rfl,_⟩:=hp;exact hg _)
  ⟨rfl,none,none,rfl⟩
 rw[Wv,Vs,W_ (Vy _)]at e;rfl';exact⟨x2,x3,e⟩
theorem Ip(P:List aC):told (dX P)=j! 0 P:=by unfold told j!;rw[oW];have e:(λk=>bO 0 (ba (dX P) k))=λk=>ba (dX P) k:=funext λk=>JH _;show _=((kZ ((dX P).map (·.1))).filter λk=>(λk=>bO 0 (ba (dX P) k)) k !=0).map λk=>Prod.mk k ((λk=>bO 0 (ba (dX P) k)) k);rw[e]
theorem kM{p:Nat}{P:List aC}(h:ar st p=some (P.map tV))(ri:∀t∈P,t.1≠[])(hl:P.length<64):
  ∃c1 c2,PM.dq [.loc p] st=.ok (.loc (st.length+2)) (st++[c1,c2,.lst ((j! 0 P).map tV)]):=by
 symm;obtain⟨x2,x3,e⟩:=BW h hl;obtain⟨A,hA⟩:=NE (dX P)
 have G:=f? P;rfl';rw[<-Ip];rw[<-hA]at e G⊢;symm;obtain⟨s,hs⟩:=NE (st++[bx.dT (A.map eD)])
 rfl';have hd:s[st.length]?=some (.dT (A.map eD)):=by rw[hs];exact uB st _
 have PU:(A.map eD).map (·.1)=(A.map (·.1)).map iK:=by rw[VR,VR];rfl
 symm;have lA:=G.2.1;have hsd:=HF (ks:=A.map (·.1)) hd PU (by rw[Vs];lia) (λk hk=>by
  obtain⟨t,ht,rfl⟩:=VP.mp hk;obtain⟨q,hq,e⟩:=VP.mp (G.2.2 t ht);rw[<-e];exact ri q hq)
 obtain⟨s2,fU⟩:=NE (s++[bx.lst ((kZ (A.map (·.1))).map au)])
 rfl';have ls:s.length=st.length+1:=by rw[hs,VC];rfl
 have hd2:s2[st.length]?=some (.dT (A.map eD)):=by rw[fU,V4 ⋯];exact hd
 have hit:ar s2 s.length=some ((kZ (A.map (·.1))).map au):=by rw[fU];exact bS s _
 have hc:=Eu (g:=λaz=>ar az s.length=some ((kZ (A.map (·.1))).map au)) hit hd2;have hlen:((kZ (A.map (·.1))).map au).length<=sizeLine:=by rw[Vs,(dW _).length_eq,Vs,VF];lia
 refine⟨.dT (A.map eD),.lst ((kZ (A.map (·.1))).map au),?_⟩;have kF:fK 1 [1] [some (ak.loc p),some (ak.loc st.length),x2,x3]=[none,some (.loc st.length)]:=rfl;have comp:aO 1 [1] (bQ (mZ aW)) (aq 0) Pz PB [qL p, qL st.length, x2, x3] s=.ok (.loc s2.length) (s2++[.lst ((told A).map tV)]):=by have v1:aW [qL p, qL st.length, x2, x3] s=.ok (.loc st.length) s:=rfl;rw[cJ,cy,Ew,v1,ao,hsd,<-fU,ao,bH hit,ao,dn,VA hlen,kF,hc,ao,eQ]
 have fl:d5 (bQ aE) (bU [aq 2,aq 3]) BD [qL p, qL st.length, qn, qn] (st++[.dT []])=.nx [qL p, qL st.length, x2, x3] s:=by have v0:aE [qL p, qL st.length, qn, qn] (st++[.dT []])=.ok (.loc p) (st++[.dT []]):=rfl;rw[fP,cy,v0,ao,bH (cn h _),ay,iC,hs];exact e
 have l2:s2.length=st.length+2:=by rw[fU,VC,ls];rfl
 have es:s2++[bx.lst ((told A).map tV)]=st++[.dT (A.map eD),.lst ((kZ (A.map (·.1))).map au),.lst ((told A).map tV)]:=by rw[fU,hs,VU,VU];rfl
 rw[<-es,<-l2];have start:aN 1 pT [qL p, qn, qn, qn] st=.nx [qL p, qL st.length, qn, qn] (st++[.dT []]):=rfl;have ret:aK (aO 1 [1] (bQ (mZ aW)) (aq 0) Pz PB) [qL p, qL st.length, x2, x3] s=.rt (.loc s2.length) (s2++[.lst ((told A).map tV)]):=by rw[aQ,comp];rfl
 unfold PM.dq;rw[aZ (np:=1) (us:=[ak.loc p]) rfl];show(aA (aN 1 pT) (aA (d5 (bQ aE) (bU [aq 2,aq 3]) BD) (aK (aO 1 [1] (bQ (mZ aW)) (aq 0) Pz PB))) [qL p, qn, qn, qn] st).fin=_;rw[ax,start,aB,ax,fl,aB,ret];rfl
def wX(st az:af)(k:Nat)(D:List aC):Prop:=(∃g,az=st++g)/\st.length<=k/\az[k]?=some (.lst (D.map tV))
theorem wX.old{n:Nat}{c:bx}(h:wX st az k D)(e:st[n]?=some c):az[n]?=some c:=by obtain⟨⟨g,rfl⟩,_⟩:=h;exact dC e g
theorem wX.E?{n:Nat}(h:wX st az k D)(e:ar st n=some us):ar az n=some us:=by symm;obtain⟨⟨g,rfl⟩,_⟩:=h;rfl';exact cn e g
theorem nT{p:Nat}{P:List aC}(hp:st[p]?=some (.lst (P.map tV)))(hq:st[q]?=some (.lst (R.map tV)))(ri:∀t∈P++R,t.1≠[])(hl:P.length+R.length<64):
  ∃k az,PM.iN [.loc p,.loc q] st=.ok (.loc k) az/\wX st az k (j! 0 (P++R)):=by
 obtain⟨s1,fY⟩:=NE (st++[bx.lst ((P++R).map tV)])
 have i1:ar s1 st.length=some ((P++R).map tV):=by rw[fY];exact bS st _
 obtain⟨c1,c2,e⟩:=kM i1 ri (by rw[VC];exact hl);have l1:s1.length=st.length+1:=by rw[fY,VC];rfl
 refine⟨s1.length+2,s1++[c1,c2,.lst ((j! 0 (P++R)).map tV)],?_,⟨⟨[bx.lst ((P++R).map tV),c1,c2,.lst ((j! 0 (P++R)).map tV)],by rw[fY,VU];rfl⟩,⋯,?_⟩⟩
 .unfold PM.iN;rw[aZ (np:=2) (us:=[ak.loc p,.loc q]) rfl];show(aK (ai PM.dq (aa (ag cq aE aW) aj)) [some (.loc p),some (.loc q)] st).fin=_;have ad:ag cq aE aW [some (.loc p),some (.loc q)] st=.ok (.loc st.length) s1:=by rw[bF (x:=.loc p) (y:=.loc q) (s1:=st) (s2:=st) rfl rfl];show(match st[p]?,st[q]? with|some (.lst us),some (.lst ws)=>if us.length+ws.length<=sizeLine then cL.ok (ak.loc st.length) (st++[bx.lst (us++ws)])else .bad|_,_=>.bad)=_;rw[hp,hq];dsimp only;rw[VA (by rw[Vs,Vs,VF];lia),fY,WW]
  rw[aQ,aR (dY ad),e,ay];rfl
 .rw[VN ⋯,show s1.length+2-s1.length=2 by lia];rfl
abbrev Ts:ME:=ag cq (ag aU aW aE) (ag aU bK aE)
abbrev PV:ME:=aO 1 [3,5] (b_ (aa (ai cZ (aa c5 aj)) aj)) (aq 0) aw Ts
theorem Iq{μ:MN.Env}{a b:_H}{s:af}(hc:fK 1 [3,5] μ=[none,some (au a),some (au b)])(v3:c5 μ s=.ok (au a) s)(hl:a.length=b.length)(h:a.length<=10):PV μ s=.ok (.loc s.length) (s++[.lst ((a_ a b).map ak.int)]):=by
 have cp:=cB (a:=aq 0) (c:=aw) (e:=Ts) (g:=λ_=>True) (st:=s) trivial (λτ=>∃x,τ=[x,some (au a),some (au b)]) (λ_=>true) (λv=>.int (a.getD (natOf v) 0+b.getD (natOf v) 0)) (cu 0 a.length) [none,some (au a),some (au b)] [] ⟨_,rfl⟩ (by
  rintro v hv τ ⟨x,rfl⟩;obtain⟨i,Te⟩:=List.getElem?_of_mem hv;obtain⟨hi,rfl⟩:=JF Te;refine⟨[some (.int (0+(i:Int))),some (au a),some (au b)],rfl,⟨_,rfl⟩,rfl,λ_=>?_⟩;rw[Xa];have e1:ag aU aW aE [qI (i:Int), some (au a), some (au b)] s=.ok (.int (a.getD i 0)) s:=by rw[bF (x:=au a) (y:=.int (i:Int)) (s1:=s) (s2:=s) rfl rfl,Ms hi]
  have e2:ag aU bK aE [qI (i:Int), some (au a), some (au b)] s=.ok (.int (b.getD i 0)) s:=by rw[bF (x:=au b) (y:=.int (i:Int)) (s1:=s) (s2:=s) rfl rfl,Ms ⋯]
  unfold Ts;rw[bF e1 e2,iy];rfl)
 have e:((cu 0 a.length).filter λ_=>true).map (λv=>ak.int (a.getD (natOf v) 0+b.getD (natOf v) 0))=(a_ a b).map ak.int:=by rw[Wq.mpr λ_ _=>rfl,<-Am a b hl];unfold cu;rw[VR,VR];refine Wc λi _=>?_;show ak.int (a.getD (natOf (.int (0+(i:Int)))) 0+b.getD (natOf (.int (0+(i:Int)))) 0)=_;rw[Xa];rfl
 rw[e,VB]at cp;have len:ai cZ (aa c5 aj) μ s=.ok (.int (a.length:Int)) s:=by rw[aR (dY v3)];show cZ [.tup (a.map ak.int)] s=_;rw[Hr,Vs]
 unfold PV;rw[cJ,EF (dY len) ⋯ ⋯,ao,Wi,dn,VA (by rw[My,VF];lia),hc,cp,ao,eQ]
abbrev Tt:MB:=dy (g6 de bK (aa (cQ (aa (ai gY (aa PV aj)) (aa (ag dg fV oP) aj))) aj))
theorem Fb{u:aC}{L0:List aC}{g0:af}{z5 z6:Option ak}(hq:ar st q=some (B.map tV))(hs:u.1.length<=10)(hB:∀t∈B,u.1.length=t.1.length/\MulOk u.2 t.2)(hl:L0.length+B.length<1000000):
  ∃y5 y6 g,forL (λaz=>ar az q=some (B.map tV)) (bU [aq 5,aq 6]) Tt (B.map tV) [x0, qL q, qL st.length, some (au u.1), qI u.2, z5, z6] (st ++ .lst (L0.map tV)::g0)=.nx [x0, qL q, qL st.length, some (au u.1), qI u.2, y5, y6] (st ++ .lst ((L0++m_ u B).map tV)::g):=by
 symm;have hg:∀g:af,ar (st++g) q=some (B.map tV):=λg=>cn hq _;obtain⟨μ',az,e,g,rfl,y5,y6,rfl⟩:=dB (g:=λaz=>ar az q=some (B.map tV)) (a:=bU [aq 5,aq 6]) (body:=Tt)
  (λi μ s'=>∃g,s'=st ++ .lst ((L0++m_ u (B.take i)).map tV)::g/\∃y5 y6,μ=[x0, qL q, qL st.length, some (au u.1), qI u.2, y5, y6])
  (B.map tV) 0 [x0, qL q, qL st.length, some (au u.1), qI u.2, z5, z6] (st ++ .lst (L0.map tV)::g0)
  (by
   rintro i v μ s' hu ⟨g,rfl,y5,y6,rfl⟩;rw[Wv];refine⟨hg _,?_⟩;rw[VV]at hu;have hi:i<B.length:=by
    rcases WS i B.length with z|z
    .exact z
    .rw[V' z]at hu;cases hu
   rw[Vx hi]at hu;obtain⟨t,ht⟩:=NE (B[i])
   rw[<-ht]at hu;cases hu;have tB:t∈B:=by rw[ht];exact W2 hi
   have tk:B.take (i+1)=B.take i++[t]:=by rw[YZ,Vx hi,<-ht];rfl
   obtain⟨L,hL⟩:=NE (L0++m_ u (B.take i))
   have lL:L.length<1000000:=by rw[hL,VC];unfold m_;rw[Vs,W?];lia
   have sn:L0++m_ u (B.take (i+1))=L++[(a_ u.1 t.1,u.2*t.2)]:=by rw[hL,tk];unfold m_;rw[WW,VU];rfl
   rw[<-hL,sn];obtain⟨s1,fY⟩:=NE (st++bx.lst (L.map tV)::g)
   obtain⟨g1,hg1⟩:=NE (g++[bx.lst ((a_ u.1 t.1).map ak.int)])
   have fU:s1++[bx.lst ((a_ u.1 t.1).map ak.int)]=st++bx.lst (L.map tV)::g1:=by rw[fY,hg1,VU];rfl
   refine⟨[x0,some (.loc q),some (.loc st.length),some (au u.1),some (.int u.2),some (au t.1),some (.int t.2)],rfl,[x0, qL q, qL st.length, some (au u.1), qI u.2, some (au t.1), qI t.2],st++bx.lst ((L++[(a_ u.1 t.1,u.2*t.2)]).map tV)::g1,.inl ?_,g1,rfl,_,_,rfl⟩;rw[<-fY];have f1:ai gY (aa PV aj) [x0, qL q, qL st.length, some (au u.1), qI u.2, some (au t.1), qI t.2] s1=.ok (au (a_ u.1 t.1)) (s1++[bx.lst ((a_ u.1 t.1).map ak.int)]):=by rw[aR (dY (Iq (a:=u.1) (b:=t.1) rfl rfl (hB t tB).1 hs)),iZ (bS s1 _)];rfl
   rw[fU]at f1;have m:∀s2,ag dg fV oP [x0, qL q, qL st.length, some (au u.1), qI u.2, some (au t.1), qI t.2] s2=.ok (.int (u.2*t.2)) s2:=λs2=>by rw[bF (x:=.int u.2) (y:=.int t.2) (s1:=s2) (s2:=s2) rfl rfl,pX (hB t tB).2]
   have f2:=Al (μ:=[x0,some (.loc q),some (.loc st.length),some (au u.1),some (.int u.2),some (au t.1),some (.int t.2)]) (s:=s1) (s1:=st++bx.lst (L.map tV)::g1) (o:=bK) (a:=aa (cQ (aa (ai gY (aa PV aj)) (aa (ag dg fV oP) aj))) aj) (n:=st.length) (us:=L.map tV) (v:=tV (a_ u.1 t.1,u.2*t.2)) rfl (by rw[fY];exact uE _ _ _) (dY (i? (gu f1 (m _)) (by show 2<=1000;decide))) (uE _ _ _) (by rw[Vs];exact lL);rw[uq]at f2;show dy _ _ _=_;rw[f2,WW];rfl)
  (λμ s hp=>by obtain⟨g,rfl,_⟩:=hp;exact hg _)
  ⟨g0,by rw[Z7];show _=st++bx.lst ((L0++[]).map tV)::g0;rw[Wa],z5,z6,rfl⟩
 rw[Wv,Vs,W_ (Vy _)]at e;rfl';exact⟨y5,y6,g,e⟩
abbrev Tu:MB:=d5 (bQ aW) (bU [aq 5,aq 6]) Tt
theorem Fc{p:Nat}{A:List aC}(hp:ar st p=some (A.map tV))(hq:ar st q=some (B.map tV))(h4:ah<=4)(hA:∀t∈A,t.1.length=ah)(hB:∀t∈B,t.1.length=ah)(hm:∀s∈A,∀t∈B,MulOk s.2 t.2)(hl:A.length*B.length<1000000):
  ∃y3 y4 y5 y6 g,forL (λaz=>ar az p=some (A.map tV)) (bU [aq 3,aq 4]) Tu (A.map tV) [qL p, qL q, qL st.length, qn, qn, qn, qn] (st++[.lst []])=.nx [qL p, qL q, qL st.length, y3, y4, y5, y6] (st ++ .lst ((h_ A B).map tV)::g):=by
 symm;have hg:∀g:af,ar (st++g) p=some (A.map tV):=λg=>cn hp _;obtain⟨μ',az,e,g,rfl,y3,y4,y5,y6,rfl⟩:=dB (g:=λaz=>ar az p=some (A.map tV)) (a:=bU [aq 3,aq 4]) (body:=Tu)
  (λi μ s'=>∃g,s'=st ++ .lst ((h_ (A.take i) B).map tV)::g/\∃y3 y4 y5 y6,μ=[qL p, qL q, qL st.length, y3, y4, y5, y6])
  (A.map tV) 0 [qL p, qL q, qL st.length, qn, qn, qn, qn] (st++[.lst []])
  (by
   rintro i v μ s' hu ⟨g,rfl,y3,y4,y5,y6,rfl⟩;rw[Wv];refine⟨hg _,?_⟩;rw[VV]at hu;have hi:i<A.length:=by
    rcases WS i A.length with z|z
    .exact z
    .rw[V' z]at hu;cases hu
   rw[Vx hi]at hu;obtain⟨t,ht⟩:=NE (A[i])
   rw[<-ht]at hu;cases hu;have tA:t∈A:=by rw[ht];exact W2 hi
   have tk:A.take (i+1)=A.take i++[t]:=by rw[YZ,Vx hi,<-ht];rfl
   have lL:(h_ (A.take i) B).length+B.length<1000000:=by rw[wH,W?,<-Zu];refine Z6 (Nat.mul_le_mul_right _ ?_) hl;lia
   obtain⟨z5,z6,g1,en⟩:=Fb (q:=q) (u:=t) (B:=B) (L0:=h_ (A.take i) B) (st:=st) (g0:=g) (x0:=some (.loc p)) (z5:=y5) (z6:=y6) hq (by rw[hA t tA];lia) (λb hb=>⟨by rw[hA t tA,hB b hb],hm t tA b hb⟩) lL;rw[<-BN,<-tk]at en;refine⟨[some (.loc p),some (.loc q),some (.loc st.length),some (au t.1),some (.int t.2),y5,y6],rfl,[qL p, qL q, qL st.length, some (au t.1), qI t.2, z5, z6],_,.inl ?_,g1,rfl,_,_,_,_,rfl⟩;have v2:∀s,aW [qL p, qL q, qL st.length, some (au t.1), qI t.2, y5, y6] s=.ok (.loc q) s:=λ_=>rfl;show d5 _ _ _ _ _=_;rw[fP,cy,v2,ao,bH (cn hq _),ay,iC,en])
  (λμ s hp=>by obtain⟨g,rfl,_⟩:=hp;exact hg _)
  ⟨[],rfl,none,none,none,none,rfl⟩
 rw[Wv,Vs,W_ (Vy _)]at e;rfl';exact⟨y3,y4,y5,y6,g,e⟩
theorem fG{p:Nat}{A:List aC}(hp:ar st p=some (A.map tV))(hq:ar st q=some (B.map tV))(h1:1<=ah)(h4:ah<=4)(hA:∀t∈A,t.1.length=ah)(hB:∀t∈B,t.1.length=ah)(hm:∀s∈A,∀t∈B,MulOk s.2 t.2)(hl:A.length*B.length<64):
  ∃k az,PM.bX [.loc p,.loc q] st=.ok (.loc k) az/\wX st az k (j! 0 (h_ A B)):=by
 symm;obtain⟨y3,y4,y5,y6,g,e⟩:=Fc hp hq h4 hA hB hm ⋯;obtain⟨s1,fY⟩:=NE (st++bx.lst ((h_ A B).map tV)::g)
 rw[<-fY]at e;have it:ar s1 st.length=some ((h_ A B).map tV):=by rw[fY];unfold ar;rw[uE]
 obtain⟨c1,c2,et⟩:=kM it (λt ht=>by
  obtain⟨a,ha,b,hb,rfl⟩:=ES ht;exact yF h1 (BJ (hA a ha) (hB b hb))) (by rw[wH];lia)
 rfl';have l1:s1.length=st.length+(g.length+1):=by rw[fY,VC];rfl
 refine⟨s1.length+2,s1++[c1,c2,.lst ((j! 0 (h_ A B)).map tV)],?_,⟨(bx.lst ((h_ A B).map tV)::g)++[c1,c2,.lst ((j! 0 (h_ A B)).map tV)],by rw[fY,VU]⟩,⋯,?_⟩
 .have v1:∀s,aE [qL p, qL q, qL st.length, qn, qn, qn, qn] s=.ok (.loc p) s:=λ_=>rfl;have x2:aN 2 (df aj) [qL p, qL q, qn, qn, qn, qn, qn] st=.nx [qL p, qL q, qL st.length, qn, qn, qn, qn] (st++[.lst []]):=dM (v:=.loc st.length) (m9 (vs:=[]) rfl ⋯);unfold PM.bX;rw[aZ (np:=2) (us:=[ak.loc p,.loc q]) rfl];show(aA (aN 2 (df aj)) (aA (d5 (bQ aE) (bU [aq 3,aq 4]) Tu) (aK (ai PM.dq (aa bK aj)))) [qL p, qL q, qn, qn, qn, qn, qn] st).fin=_;rw[ax,x2,aB,ax,fP,cy,v1,ao,bH (cn hp _),ay,iC,e,aB,aQ,aR (dY (v:=.loc st.length) (s1:=s1) rfl),et,ay];rfl
 .rw[VN ⋯,show s1.length+2-s1.length=2 by lia];rfl
theorem Ir{k:Int}(hp:0<=power):∀e∈gm cell k power ah,e<=power:=by intro e he;unfold gm at he;obtain⟨j,_,rfl⟩:=VP.mp he;have:=ji (m:=power+1) ⋯ (wy cell (5*k+j));lia
structure Vc(ah:Nat)(power:Int)(n:Nat)(D:List aC):Prop where
 s:eh ah D
 hi:∀t∈D,∀e∈t.1,e<=power
 l:D.length<=n
 b:∀t∈D,-(n*10 ^ 20)<=t.2/\t.2<=n*10 ^ 20
theorem Fd{B:Int}(b0:0<=B){P:List aC}(hp:∀t∈P,-B<=t.2/\t.2<=B):∀t∈j! 0 P,-(P.length*B)<=t.2/\t.2<=P.length*B:=λt ht=>by symm;obtain⟨q,hq,e1,e2⟩:=wD ht;rfl';rw[e2,JH];exact yE b0 hp q hq
theorem uJ{terms kind:Int}(hm1:1<=ah)(hm:ah<=4)(t0:0<=terms)(t1:terms<=60)(p0:0<=power)(st:af):
  ∃k az D,PM.d_ [.int cell,.int ah,.int terms,.int power,.int kind] st=.ok (.loc k) az/\wX st az k D/\Vc ah power terms.toNat D:=by
 symm;have Q4:=iY (st:=st++[.lst []]) (j:=terms) ⋯ ⋯;obtain⟨μ',az,e,P,g,x6,x7,rfl,rfl,hP,hk⟩:=dB (g:=λ_=>True) (a:=aq 6) (body:=PD)
  (λi μ s'=>∃(P:List aC)(g:af)(x6 x7:Option ak),s'=st ++ .lst (P.map tV)::g/\μ=[qI cell, qI ah, qI terms, qI power, qI kind, qL st.length, x6, x7]/\P.length=i/\∀t∈P,(t.1.length=ah/\∀e∈t.1,0<=e)/\(∀e∈t.1,e<=power)/\-(10 ^ 20)<=t.2/\t.2<=10 ^ 20)
  (cu 0 terms.toNat) 0 [qI cell, qI ah, qI terms, qI power, qI kind, qL st.length, qn, qn] (st++[.lst []])
  (by
   rintro i u μ s' hu ⟨P,g,x6,x7,rfl,rfl,hP,hk⟩;rw[Wv]at hP⊢;refine⟨trivial,?_⟩;rw[dk]at hu;obtain⟨k,hkm,rfl⟩:=VP.mp (WG hu);have hi:i<terms.toNat:=by have:=aX hu;rw[Vs]at this;unfold eG at this;rw[Vs,V!]at this;exact this
   have mr:=HS cell (5*k+4);obtain⟨v,hv,v1,v2⟩:=yw (wy cell (5*k+4)) kind mr.1 mr.2;refine⟨_,rfl,_,_,.inl (HV hm p0 ⋯ hv),P++[(gm cell k power ah,v)],_,_,_,rfl,rfl,by rw[VC,hP];rfl,λt ht=>?_⟩;rcases W8.mp ht with ht|ht
   .exact hk t ht
   .rw[VZ.mp ht];exact⟨⟨Ey _ _ _ _,HU p0⟩,Ir p0,v1,v2⟩)
  (λ_ _ _=>trivial) ⟨[],[],none,none,rfl,rfl,rfl,λt m=>(by cases m)⟩
 rw[Wv]at hP;have hP':P.length=terms.toNat:=by rw[hP,dk];unfold eG;rw[Vs,Vs,V!]
 obtain⟨s,hs⟩:=NE (st++bx.lst (P.map tV)::g)
 have hc:ar s st.length=some (P.map tV):=by rw[hs];unfold ar;rw[uE]
 obtain⟨c1,c2,et⟩:=kM hc (λt ht=>yF hm1 (hk t ht).1.1) ⋯;rfl';have l1:s.length=st.length+(g.length+1):=by rw[hs,VC];rfl
 refine⟨s.length+2,s++[c1,c2,.lst ((j! 0 P).map tV)],j! 0 P,?_,⟨⟨bx.lst (P.map tV)::g++[c1,c2,.lst ((j! 0 P).map tV)],by rw[hs,VU]⟩,⋯,?_⟩,⟨MQ λt ht=>(hk t ht).1,λt ht=>?_,by have:=MC (r:=0) P;lia,λt ht=>?_⟩⟩
 .have first:aN 5 (df aj) [qI cell, qI ah, qI terms, qI power, qI kind, qn, qn, qn] st=.nx [qI cell, qI ah, qI terms, qI power, qI kind, qL st.length, qn, qn] (st++[.lst []]):=by simp![VF]
  have loop:d5 (b_ (aa bK aj)) (aq 6) PD [qI cell, qI ah, qI terms, qI power, qI kind, qL st.length, qn, qn] (st++[.lst []])=.nx [qI cell, qI ah, qI terms, qI power, qI kind, qL st.length, x6, x7] s:=by
   have a1:b_ (aa bK aj) [some (ak.int cell), qI ah, qI terms, qI power, qI kind, qL st.length, qn, qn] (st++[.lst []])=.ok (cu 0 terms.toNat,λ_=>True) (st++[.lst []]):=by simp![Q4]
   rw[fP,a1,ay,iC,hs];exact e
  unfold PM.d_;rw[aZ (np:=5) (us:=[ak.int cell,.int ah,.int terms,.int power,.int kind]) rfl];show(aA (aN 5 (df aj)) (aA (d5 (b_ (aa bK aj)) (aq 6) PD) (aK (ai PM.dq (aa kY aj)))) [qI cell, qI ah, qI terms, qI power, qI kind, qn, qn, qn] st).fin=_;rw[ax,first,aB,ax,loop,aB,aQ,aR (dY (v:=.loc st.length) (s1:=s) rfl),et];rfl
 .rw[VN ⋯,show s.length+2-s.length=2 by lia];rfl
 .symm;obtain⟨q,hq,e⟩:=VP.mp (yL ht).1;rfl';rw[<-e];exact(hk q hq).2.1
 .have:=Fd (B:=10 ^ 20) ⋯ (λt ht=>(hk t ht).2.2) t ht;rw[hP']at this;exact this
end PG
namespace PM
open PySem.Spec L2 MN
open PyProof.Rows hiding St
def iO:FN:=gf 1 3 (aA (aN 1 (aO 1 [] (bQ aE) (aq 0) aw (ai fw (aa aE aj)))) (aA (d5 (b_ (aa (ai cZ (aa aE aj)) aj)) (aq 2) (aA (fL (ck (ag gC (aO 1 [] (bQ (Bq aE (jf bK) je)) (aq 0) aw (ai fw (aa aE aj))) (Bq aW (jf bK) je))) (aK (mC (.bl false))) bz) (dy (g6 de (ag aU aE bK) (aa bI aj))))) (aK (mC (.bl true)))))
end PM
namespace PG
open PySem.Spec L2 MN
open PyProof.Rows hiding St kindOf
def Ap(s s':af):Prop:=∃g,s'=s++g
theorem Ap.trans{s:af}(h:Ap s s1)(k:Ap s1 s2):Ap s s2:=by obtain⟨g,rfl⟩:=h;obtain⟨g',rfl⟩:=k;exact⟨g++g',VU ..⟩
theorem Ap.at{s:af}{n:Nat}{c:bx}(h:Ap s s')(e:s[n]?=some c):s'[n]?=some c:=by obtain⟨g,rfl⟩:=h;exact dC e g
theorem Ap.len{s:af}(h:Ap s s'):s.length<=s'.length:=by obtain⟨g,rfl⟩:=h;rw[VC];lia
abbrev JL(D:List aC):bx:=.lst (D.map tV)
def b!(s:af)(ls:List Nat)(Ds:List (List aC)):Prop:=ls.length=Ds.length/\∀(i l:Nat)(D:List aC),ls[i]?=some l->Ds[i]?=some D->s[l]?=some (JL D)
theorem b!.old{s:af}(h:b! s ls Ds)(g:af):b! (s++g) ls Ds:=⟨h.1,λi l R h1 h2=>dC (h.2 i l R h1 h2) g⟩
theorem b!.ap{s:af}(h:b! s ls Ds)(a:Ap s s'):b! s' ls Ds:=⟨h.1,λi l R h1 h2=>a.at (h.2 i l R h1 h2)⟩
theorem b!.tail{s:af}{l:Nat}(h:b! s (l::ls) (D::Ds)):b! s ls Ds:=⟨by have:=h.1;simpa using this,λi l' R' h1 h2=>h.2 (i+1) l' R' h1 h2⟩
theorem b!.drop{s:af}(h:b! s ls Ds)(k:Nat):b! s (ls.drop k) (Ds.drop k):=⟨by rw[W',W',h.1],λi l D h1 h2=>h.2 (k+i) l D (by rw[<-WH];exact h1) (by rw[<-WH];exact h2)⟩
theorem sY{G:af->Prop}:∀(ls:List Nat)(Ds:List (List aC))(st:af)(τ:MN.Env)(ys:List ak),b! st ls Ds->(∀g,G (st++g))->τ.length=1 ->
  bN G (aq 0) aw (ai fw (aa aE aj)) (ls.map ak.loc) τ st ys=.ok (ys++(List.range ls.length).map λi=>ak.loc (st.length+i)) (st++Ds.map JL)
 |[],Ds,st,τ,ys,h,hn,_=>by have:Ds=[]:=WB h.1.symm;subst this;rw[VQ,BF (by have:=hn [];rwa [Wa]at this)];simp
 |l::ls,[],st,τ,ys,h,hn,_=>by have:=h.1;simp at this
 |l::ls,R::Rs,st,[x],ys,h,hn,_=>by
  have hl:=h.2 0 l R rfl rfl;have e:ai fw (aa aE aj) [some (.loc l)] st=.ok (.loc st.length) (st++[JL R]):=by rw[aR (dY (v:=.loc l) (s1:=st) rfl),i_ (av hl)]
  rw[Vv,BE (τ1:=[some (.loc l)]) (by have:=hn [];rwa [Wa]at this) rfl e,sY ls Rs (st++[JL R]) [some (.loc l)] _ (h.tail.old _) (λg=>by rw[VU];exact hn _) rfl];congr 1
  .rw[Vt,Yl,Vv,VR,VU];congr 1;rw[List.singleton_append];congr 1;refine Wc λi _=>?_;show ak.loc ((st++[JL R]).length+i)=ak.loc (st.length+(i+1));rw[VC,XC,show st.length+1+i=st.length+(i+1) by lia]
  .rw[Vv,VU,List.singleton_append]
theorem As{μ:MN.Env}{m:ME}{it:MI}{s:af}{G:af->Prop}(hi:it μ s=.ok (ls.map ak.loc,G) s1)(hG:∀g,G (s1++g))(h:b! s1 ls Ds)(hl:ls.length<=1000):
  ∃k s' Au,aO 1 [] it (aq 0) aw (ai fw (aa aE aj)) μ s=.ok (.loc k) s'/\Ap s1 s'/\s'[k]?=some (.lst (Au.map ak.loc))/\b! s' Au Ds/\s1.length<=k/\∀x∈Au,s1.length<=x/\x<k:=by
 obtain⟨s2,fU⟩:=NE (s1++Ds.map JL)
 have l2:s2.length=s1.length+ls.length:=by rw[fU,VC,Vs,h.1]
 refine⟨s2.length,s2++[.lst (((List.range ls.length).map λi=>s1.length+i).map ak.loc)],(List.range ls.length).map λi=>s1.length+i,?_,⟨Ds.map JL++[.lst (((List.range ls.length).map λi=>s1.length+i).map ak.loc)],by rw[fU,VU]⟩,fD s2 _,⟨by rw[Vs,V!];exact h.1,λi l D h1 h2=>?_⟩,⋯,λx hx=>?_⟩
 .have cp:=sY ls Ds s1 [none] [] h hG rfl;have kF:fK 1 [] μ=[none]:=rfl;rw[cJ,hi,ao,dn,VA (by rw[Vs,VF];lia),kF,cp,ao,eQ,VB,<-fU,VR];rfl
 .rw[VV]at h1;cases z:(List.range ls.length)[i]? with
  |none=>rw[z]at h1;cases h1
  |some j=>
   rw[z]at h1;have hi:i<ls.length:=by have:=aX z;rwa [V!]at this
   rw[XD hi]at z;cases z;cases h1;show(s2++_)[s1.length+i]?=_;rw[V4 ⋯,fU,VN ⋯,Nat.add_sub_cancel_left,VV,h2];rfl
 .obtain⟨i,hi,rfl⟩:=VP.mp hx;have:=XR.mp hi;lia
theorem BX(t:aC):v? 13 (tV t)=true:=by show(e_ 11 (t.1.map ak.int)&&(true&&true))=true;rw[jE];rfl
theorem wY{s:af}:∀{ls Au:List Nat}{Ds:List (List aC)},b! s ls Ds->b! s Au Ds->gg (iB 15 s) (ls.map ak.loc) (Au.map ak.loc)=some true
 |[],Au,Ds,h,h'=>by obtain rfl:Au=[]:=WB (by rw[h'.1,<-h.1];rfl);rfl
 |l::ls,[],Ds,h,h'=>by have:=h.1;have:=h'.1;rw[Vt]at *;rw[VE]at *;lia
 |l::ls,l'::Au,[],h,h'=>by have:=h.1;rw[Vt,VE]at this;lia
 |l::ls,l'::Au,D::Ds,h,h'=>by
  have i:=wY h.tail h'.tail;have e:iB 15 s (.loc l) (.loc l')=some true:=by
   unfold iB;simp only[vw,av (h.2 0 l D rfl rfl),av (h'.2 0 l' D rfl rfl)];exact iE s 13 _ (iF λu hu=>by
    obtain⟨t,_,rfl⟩:=VP.mp hu;exact BX t)
  show(match iB 15 s (.loc l) (.loc l'),gg (iB 15 s) (ls.map ak.loc) (Au.map ak.loc) with|some a,some b=>some (a&&b)|_,_=>none)=_;rw[e,i];rfl
theorem Iu{s:af}{a b:Nat}{Au:List Nat}(ha:s[a]?=some (.lst (ls.map ak.loc)))(hb:s[b]?=some (.lst (Au.map ak.loc)))(h:b! s ls Ds)(h':b! s Au Ds):iB 16 s (.loc a) (.loc b)=some true:=by unfold iB;simp only[vw,av ha,av hb];exact wY h h'
abbrev Tv:MB:=aA (fL (ck (ag gC (aO 1 [] (bQ (Bq aE (jf bK) je)) (aq 0) aw (ai fw (aa aE aj))) (Bq aW (jf bK) je))) (aK (mC (.bl false))) bz) (dy (g6 de (ag aU aE bK) (aa bI aj)))
theorem sZ(ls:List Nat)(k:Nat):pV (ls.map ak.loc) (some (k:Int)) none=(ls.drop k).map ak.loc:=by rw[Mx,List.map_drop]
theorem Iv{s:af}{n kl:Nat}{ks:List Nat}{l:Nat}(hn:s[n]?=some (.lst (ls.map ak.loc)))(hk:s[kl]?=some (.lst (ks.map ak.loc)))(hd:b! s (ls.drop k) (Ds.drop k))(Mg:b! s ks Ds)(hl:ls[k]?=some l)(hD:Ds[k]?=some D)(hlen:ls.length<=1000)(Tw:D.length<1000000):
  ∃s',Tv [qL n, qL kl, qI (k:Int)] s=.nx [qL n, qL kl, qI (k:Int)] s'/\s.length<=s'.length/\∀(x:Nat)c,s[x]?=some c->x≠l->s'[x]?=some c:=by
 obtain⟨μ,hμ⟩:=NE ([qL n, qL kl, qI (k:Int)]:MN.Env)
 rw[<-hμ];have v0:∀s,aE μ s=.ok (.loc n) s:=λs=>by rw[hμ];rfl
 have v1:∀s,aW μ s=.ok (.loc kl) s:=λs=>by rw[hμ];rfl
 have v2:∀s,bK μ s=.ok (.int (k:Int)) s:=λs=>by rw[hμ];rfl
 obtain⟨s1,fY⟩:=NE (s++[bx.lst ((ls.drop k).map ak.loc)])
 have a1:Ap s s1:=⟨_,fY⟩
 have n1:s1[s.length]?=some (.lst ((ls.drop k).map ak.loc)):=by rw[fY];exact fD s _
 have i1:bQ (Bq aE (jf bK) je) μ s=.ok ((ls.drop k).map ak.loc,λaz=>ar az s.length=some ((ls.drop k).map ak.loc)) s1:=by rw[cy,JE (v0 s) (v2 s),D6 (av hn),sZ,<-fY,ao,bH (av n1)]
 obtain⟨c,s2,cs,e2,a2,hc,sc,_,_⟩:=As (m:=aE) (Ds:=Ds.drop k) i1 (λg=>cn (av n1) g) (hd.ap a1) (by rw[W'];lia);have Vd:=a1.trans a2;obtain⟨s3,Iw⟩:=NE (s2++[bx.lst ((ks.drop k).map ak.loc)])
 have a3:Ap s2 s3:=⟨_,Iw⟩
 have PX:=Vd.trans a3;have e3:Bq aW (jf bK) je μ s2=.ok (.loc s2.length) s3:=by rw[JE (v1 s2) (v2 s2),D6 (av (Vd.at hk)),sZ,Iw]
 have Cs:ck (ag gC (aO 1 [] (bQ (Bq aE (jf bK) je)) (aq 0) aw (ai fw (aa aE aj))) (Bq aW (jf bK) je)) μ s=.ok false s3:=by refine iz ?_;rw[bF e2 e3];unfold gC;rw[Iu (a3.at hc) (by rw[Iw];exact fD s2 _) (sc.ap a3) ((Mg.drop k).ap PX)];rfl
 have Ve:s3[l]?=some (JL D):=PX.at (hd.2 0 l D (by rw[WH];exact hl) (by rw[WH];exact hD));have ix:ag aU aE bK μ s3=.ok (.loc l) s3:=by rw[bF (v0 s3) (v2 s3)];exact eZ (av (PX.at hn)) (L2.d0 (by rw[VV,hl];rfl))
 refine⟨s3.set l (.lst (D.map tV++[.int 0])),?_,by rw[Xf];exact PX.len,λx c h ne=>yA (PX.at h) (WE ne)⟩;show aA _ _ μ s=_;rw[ax,wA Cs,aB,Al ix Ve (dY (v:=.int 0) (s1:=s3) rfl) Ve (by rw[Vs];exact Tw)]
theorem uK{s:af}{n:Nat}(hn:s[n]?=some (.lst (ls.map ak.loc)))(h:b! s ls Ds)(nd:ls.Nodup)(hnl:n ∉ ls)(hlen:ls.length<=1000)(Tw:∀D∈Ds,D.length<1000000):
  ∃s',PM.iO [.loc n] s=.ok (.bl true) s'/\s.length<=s'.length/\∀(x:Nat)c,s[x]?=some c->x ∉ ls->s'[x]?=some c:=by
 have v0:aE [qL n, qn, qn] s=.ok (.loc n) s:=rfl;obtain⟨kl,s1,ks,e1,a1,hk,sk,l1,l2⟩:=As (m:=aE) (μ:=[some (.loc n),none,none]) (it:=bQ aE) (s:=s) (s1:=s) (Ds:=Ds) (by rw[cy,v0,ao,bH (av hn)]) (λg=>cn (av hn) g) h hlen;have old:∀x∈ls,x<s.length:=λx hx=>by
  obtain⟨i,hi⟩:=List.mem_iff_getElem?.mp hx;have:=aX hi;have li:i<Ds.length:=by rw[<-h.1];exact this
  exact Ah (h.2 i x _ hi (Vx li))
 have klx:kl ∉ ls:=λz=>by have:=old kl z;lia
 have ksx:∀x∈ks,x ∉ ls:=λx hx z=>by have:=old x z;have:=l2 x hx;lia
 obtain⟨μ',s',e,y2,rfl,I1,I2,I3,I4⟩:=dB (g:=λ_=>True) (a:=aq 2) (body:=Tv)
  (λk μ t=>∃y2,μ=[qL n, qL kl, y2]/\b! t (ls.drop k) (Ds.drop k)/\b! t ks Ds/\s1.length<=t.length/\∀(x:Nat)c,s1[x]?=some c->x ∉ ls->t[x]?=some c)
  (cu 0 ls.length) 0 [qL n, qL kl, qn] s1
  (by
   rintro i u μ t hu ⟨y2,rfl,hd,Mg,tl,ht⟩;refine⟨trivial,?_⟩;rw[Wv]at hd⊢;obtain⟨hi,rfl⟩:=JF hu;have C9:i<Ds.length:=by rw[<-h.1];exact hi
   have g1:=Vx hi;have g2:=Vx C9;obtain⟨t',e',tl',kp⟩:=Iv (ht n _ (a1.at hn) hnl) (ht kl _ hk klx) hd Mg g1 g2 hlen (Tw _ (W2 C9));have PY:ls[i]∈ls:=W2 hi;refine⟨[some (.loc n),some (.loc kl),some (.int (i:Int))],by rw[Xa];rfl,_,t',.inl e',_,rfl,⟨by rw[W',W',h.1],λj x D h1 h2=>?_⟩,⟨Mg.1,λj x D h1 h2=>kp x _ (Mg.2 j x D h1 h2) λz=>ksx x (List.mem_iff_getElem?.mpr ⟨j,h1⟩) (by rw[z];exact PY)⟩,⋯,λx c h1 h2=>kp x c (ht x c h1 h2) λz=>h2 (by rw[z];exact PY)⟩;have U8:(ls.drop i)[j+1]?=some x:=by rw[WH]at h1⊢;rw[show i+(j+1)=i+1+j by lia];exact h1
   have Nw:(Ds.drop i)[j+1]?=some D:=by rw[WH]at h2⊢;rw[show i+(j+1)=i+1+j by lia];exact h2
   refine kp x _ (hd.2 (j+1) x D U8 Nw) λz=>?_;rw[WH]at h1;have lj:=aX h1;rw[Vx lj]at h1;have q:ls[i+1+j]=ls[i]:=(V? h1).trans z;exact XN.mp nd i (i+1+j) hi lj ⋯ q.symm)
  (λμ s hp=>trivial)
  ⟨none,rfl,by rw[List.drop_zero,List.drop_zero];exact h.ap a1,sk,Vy _,λx c h _=>h⟩
 refine⟨s',?_,V7 a1.len I3,λx c h1 h2=>I4 x c (a1.at h1) h2⟩;unfold PM.iO;rw[aZ (np:=1) (us:=[ak.loc n]) rfl];show(aA (aN 1 _) _ [qL n, qn, qn] s).fin=_;rw[ax,dM e1,aB];show(aA (d5 (b_ (aa (ai cZ (aa aE aj)) aj)) (aq 2) Tv) _ [qL n, qL kl, qn] s1).fin=_;rw[ax,fP,EF (j:=(ls.length:Int)) (s1:=s1) (dY (by rw[aR (dY (v:=.loc n) (s1:=s1) rfl),d6 (av (a1.at hn)),Vs])) ⋯ ⋯,ay,iC,show((ls.length:Int)).toNat=ls.length by lia,e,aB];rfl
structure Kp(d a:Nat)(s s':af):Prop where
 len:s.length<=s'.length
 at_:∀n c,n≠d->n≠a->s[n]?=some c->s'[n]?=some c
theorem Kp.m?{a:Nat}{s:af}:Kp d a s s:=⟨Vy _,λ_ _ _ _ h=>h⟩
theorem Kp.trans{a:Nat}{s:af}(h:Kp d a s s1)(k:Kp d a s1 s2):Kp d a s s2:=⟨V7 h.len k.len,λn c h1 h2 e=>k.at_ n c h1 h2 (h.at_ n c h1 h2 e)⟩
theorem Kp.app{a:Nat}{s:af}(g:af):Kp d a s (s++g):=⟨by rw[VC];lia,λn c _ _ e=>dC e g⟩
theorem Kp.Tx{a:Nat}{s:af}(c:bx):Kp d a s (s.set d c):=⟨by rw[Xf];exact Vy _,λn c' h1 _ e=>by rw[WA (WE h1)];exact e⟩
theorem Kp.Tz{a:Nat}{s:af}(c:bx):Kp d a s (s.set a c):=⟨by rw[Xf];exact Vy _,λn c' _ h1 e=>by rw[WA (WE h1)];exact e⟩
theorem get_set{s:af}{c c':bx}(h:s[d]?=some c):(s.set d c')[d]?=some c':=by rw[Ws (Ah h)]
theorem Av(k:_H):∀A:List aC,wN (A.map eD) (iK k)=(A.filter λp=>decide (p.1≠k)).map eD
 |[]=>rfl
 |p::A=>by
  have ih:=Av k A;unfold wN at ih⊢;rw[Vv];by_cases e:p.1=k
  .rw[Wy (by show ¬ decide (iK p.1≠iK k)=true;simp[e]),Wy (by simp[e])];exact ih
  .rw[Wx (by show decide (iK p.1≠iK k)=true;exact V0 λz=>e (yn z)),Wx (by simp[e]),Vv,ih]
theorem find_some{A:List aC}{k:_H}(h:k∈A.map (·.1)):∃v,(A.find? λp=>decide (p.1=k)).map (λp=>ak.int p.2)=some v:=by
 cases z:A.find? λp=>decide (p.1=k) with
 |none=>
  rw[Ym]at z;obtain⟨p,hp,e⟩:=VP.mp h;exact absurd (V0 e) (z p hp)
 |some p=>exact⟨_,rfl⟩
theorem D7{s:af}{A:List aC}{k:_H}(h:s[d]?=some (.dT (A.map eD)))(hk:k∈A.map (·.1)):∃v,E5 (.loc d) (au k) s=.ok v (s.set d (.dT ((A.filter λp=>decide (p.1≠k)).map eD))):=by obtain⟨v,hv⟩:=find_some hk;refine⟨v,?_⟩;unfold E5;dsimp only;rw[h];dsimp only;rw[jW];dsimp only;rw[uw,hv];dsimp only;rw[Av]
theorem Aw{s:af}{A:List aC}(h:s[d]?=some (.dT (A.map eD))):pU s (.loc d)=true:=by unfold pU;dsimp only;rw[h]
theorem Fe{mk mx:ME}{μ:MN.Env}{s:af}{A:List aC}{k:_H}(h:s[d]?=some (.dT (A.map eD)))(h1:md μ s=.ok (.loc d) s)(h2:mk μ s=.ok (au k) s)(h3:mx μ s=.ok (.int 0) s):iw md mk mx μ s=.ok (.int (ba A k)) s:=by unfold iw;rw[h1];show(if pU s (.loc d)=true then _ else cL.bad)=_;rw[VA (Aw h),h2];show((mx μ s).bind _)=_;rw[h3];show(match lN s (.loc d) (au k) with|some o=>cL.ok (o.getD (.int 0)) s|none=>.bad)=_;rw[uz h k];show cL.ok (Option.getD _ (ak.int 0)) s=_;rw[sM]
abbrev Q!:MB:=aA (aN 5 (ai PM.joined (aa c5 (aa (ag aU bK bI) aj)))) (aA (aN 6 (ag q_ (iw aE kY bI) (ag dg (ag aU bK dJ) fV))) (fL (ck (ag gB oP bI)) (dy (Aq aE kY)) (mT aE kY oP)))
theorem Iy{s:af}{A:List aC}{q b:aC}{x1:Option ak}(h:s[d]?=some (.dT (A.map eD)))(hl:A.length<sizeLine)(hb:b.1.length<=10)(hm:MulOk q.2 b.2)(nz:q.2*b.2≠0):
  ∃s' y5 y6,Q! [qL d, x1, some (tV q), some (au b.1), qI b.2, x5, x6] s=.nx [qL d, x1, some (tV q), some (au b.1), qI b.2, y5, y6] s'/\s'[d]?=some (.dT ((sX q A b).map eD))/\∀a,Kp d a s s':=by
 obtain⟨k,hk⟩:=NE (a_ b.1 q.1)
 obtain⟨v,hv⟩:=NE (ba A k-q.2*b.2)
 obtain⟨s1,fY⟩:=NE (s++[bx.lst (k.map ak.int)])
 have h1:s1[d]?=some (.dT (A.map eD)):=by rw[fY];exact dC h _
 have f1:aN 5 (ai PM.joined (aa c5 (aa (ag aU bK bI) aj))) [qL d, x1, some (tV q), some (au b.1), qI b.2, x5, x6] s=.nx [qL d, x1, some (tV q), some (au b.1), qI b.2, some (au k), x6] s1:=by refine dM (v:=au k) ?_;rw[aR (gu (v:=au b.1) (s1:=s) rfl (w:=au q.1) (s2:=s) rfl),sP hb,fY,hk]
 have f2:aN 6 (ag q_ (iw aE kY bI) (ag dg (ag aU bK dJ) fV)) [qL d, x1, some (tV q), some (au b.1), qI b.2, some (au k), x6] s1=.nx [qL d, x1, some (tV q), some (au b.1), qI b.2, some (au k), qI v] s1:=by
  refine dM (v:=.int v) ?_;have g:=Fe (md:=aE) (mk:=kY) (mx:=bI) (μ:=[some (.loc d),x1,some (tV q),some (au b.1),some (.int b.2),some (au k),x6]) (k:=k) h1 rfl rfl rfl;have m:ag dg (ag aU bK dJ) fV [qL d, x1, some (tV q), some (au b.1), qI b.2, some (au k), x6] s1=.ok (.int (q.2*b.2)) s1:=by rw[bF (x:=.int q.2) (s1:=s1) rfl (y:=.int b.2) (s2:=s1) rfl];exact pX hm
  rw[bF g m,hv];rfl
 have Cs:ck (ag gB oP bI) [qL d, x1, some (tV q), some (au b.1), qI b.2, some (au k), qI v] s1=.ok (v==0) s1:=iz (PL (o:=v) rfl);have kp:∀c a,Kp d a s (s1.set d c):=λc a=>by rw[fY];exact(Kp.app _).trans (Kp.Tx c)
 unfold Q!;rw[ax,f1,aB,ax,f2,aB];by_cases z:v=0
 .have mk:k∈A.map (·.1):=by
   by_cases m:k∈A.map (·.1)
   .exact m
   .rw[gP m]at hv;lia
  obtain⟨u,hu⟩:=D7 h1 mk;refine⟨s1.set d (.dT ((A.filter λp=>decide (p.1≠k)).map eD)),some (au k),some (.int v),?_,?_,kp _⟩
  .rw[yC (by rw[Cs,z];rfl)];have e:Aq aE kY [qL d, x1, some (tV q), some (au b.1), qI b.2, some (au k), qI v] s1=.ok u (s1.set d (.dT ((A.filter λp=>decide (p.1≠k)).map eD))):=by show(if pU s1 (.loc d)=true then E5 (.loc d) (au k) s1 else cL.bad)=_;rw[VA (Aw h1),hu]
   rw[ig,e,ay];rfl
  .rw[get_set h1];unfold sX;rw[VA (by rw[<-hk,<-hv];exact z),<-hk]
 .refine⟨s1.set d (.dT ((gj A k v).map eD)),some (au k),some (.int v),?_,?_,kp _⟩
  .rw[bA,Cs,ay,show(v==0)=false by simpa using z,cE];show(match kG s1 (.loc d) (au k) (.int v) with|some mP=>dI.nx _ mP|none=>.bad)=_;rw[sL h1 hl]
  .rw[get_set h1];unfold sX;rw[VL (by rw[<-hk,<-hv];exact z),<-hk,<-hv]
theorem nc{s:af}{b:Nat}{A:List aC}{q:aC}(h:s[d]?=some (.dT (A.map eD)))(hB:s[b]?=some (.lst (B.map tV)))(T:Tk A)(hl:A.length+B.length<sizeLine)(hb:∀x∈B,x.1.length<=10)(hm:∀x∈B,MulOk q.2 x.2)(nz:∀x∈B,q.2*x.2≠0):
  ∃s',PM.cY [.loc d,.loc b,tV q] s=.ok .c6 s'/\s'[d]?=some (.dT ((B.foldl (sX q) A).map eD))/\∀a,Kp d a s s':=by
 have db:b≠d:=λz=>by rw[z,h]at hB;cases hB
 obtain⟨μ',s',e,hd,hB',K,y3,y4,y5,y6,rfl⟩:=dB (g:=λaz=>ar az b=some (B.map tV)) (a:=bU [aq 3,aq 4]) (body:=Q!)
  (λi μ s'=>s'[d]?=some (.dT (((B.take i).foldl (sX q) A).map eD))/\s'[b]?=some (.lst (B.map tV))/\(∀a,Kp d a s s')/\∃y3 y4 y5 y6,μ=[qL d, qL b, some (tV q), y3, y4, y5, y6])
  (B.map tV) 0 [qL d, qL b, some (tV q), qn, qn, qn, qn] s
  (by
   rintro i u μ s1 hu ⟨hd,Vf,K,y3,y4,y5,y6,rfl⟩;rw[Wv]at hd⊢;refine⟨av Vf,?_⟩;rw[VV]at hu;have hi:i<B.length:=by
    rcases WS i B.length with z|z
    .exact z
    .rw[V' z]at hu;cases hu
   rw[Vx hi]at hu;obtain⟨t,ht⟩:=NE (B[i])
   rw[<-ht]at hu;cases hu;have tB:t∈B:=by rw[ht];exact W2 hi
   have tk:B.take (i+1)=B.take i++[t]:=by rw[YZ,Vx hi,<-ht];rfl
   have lA:=(yM (q:=q) (B.take i) A T).2.1;rw[W?]at lA;obtain⟨s2,z5,z6,e2,d2,K2⟩:=Iy (q:=q) (b:=t) (x1:=some (.loc b)) (x5:=y5) (x6:=y6) hd ⋯ (hb t tB) (hm t tB) (nz t tB);refine⟨[some (.loc d),some (.loc b),some (tV q),some (au t.1),some (.int t.2),y5,y6],rfl,_,s2,.inl e2,?_,(K2 d).at_ b _ db db Vf,λa=>(K a).trans (K2 a),_,_,_,_,rfl⟩;rw[tk,List.foldl_append];exact d2)
  (λμ s hp=>av hp.2.1)
  ⟨by rw[Z7];exact h,hB,λa=>Kp.m?,none,none,none,none,rfl⟩
 rw[Wv,Vs,W_ (Vy _)]at hd;refine⟨s',?_,hd,K⟩;unfold PM.cY;rw[aZ (np:=3) (us:=[ak.loc d,.loc b,tV q]) rfl];show(d5 (bQ aW) (bU [aq 3,aq 4]) Q! [qL d, qL b, some (tV q), qn, qn, qn, qn] s).fin=_;have v1:aW [qL d, qL b, some (tV q), qn, qn, qn, qn] s=.ok (.loc b) s:=rfl;rw[fP,cy,v1,ao,bH (av hB),ay,iC,e];rfl
abbrev qT:MT:=ck (ag GX (ai wO (aa bK aj)) bI)
abbrev JM:ME:=ag aU (ag aU aW bI) bI
abbrev Iz:ME:=ag aU (ag aU aW bI) dJ
abbrev MS:MB:=aA (aN 4 (ai wQ (aa bK aj))) (aA (fL (eV (cH (ck (ai PM.e? (aa JM (aa fV aj))))) (ck (ag gC (ag dE (ag dQ bK fV) Iz) bI))) (aK (mC .c6)) bz) (aA (aN 5 (cQ (aa (ai PM.d9 (aa fV (aa JM aj))) (aa (ag eO (ag dQ bK fV) Iz) aj)))) (aA (dy (g6 de c5 (aa kY aj))) (dy (ai PM.cY (aa bK (aa aW (aa kY aj))))))))
theorem gM{s:af}{b:Nat}{l:aC}(h:s[b]?=some (.lst ((l::B).map tV))):aU (.loc b) (.int 0) s=.ok (tV l) s:=eZ (av h) (d0 (j:=0) rfl)
theorem len_dict{s:af}{A:List aC}(h:s[d]?=some (.dT (A.map eD))):wO [.loc d] s=.ok (.int (A.length:Int)) s:=by unfold wO;dsimp only;rw[h];dsimp only;rw[Vs]
theorem Ff{s:af}{A r:List aC}(h:s[d]?=some (.dT (A.map eD)))(p:A.Perm (t::r))(f:SO.eR ((t::r).map (·.1)))(hm:1<=ah)(hl:∀x∈t::r,x.1.length=ah):wQ [.loc d] s=.ok (au t.1) s:=by
 have ek:(A.map eD).map (·.1)=(A.map (·.1)).map iK:=by rw[VR,VR];rfl
 unfold wQ;dsimp only;rw[h];dsimp only;rw[ek,wg];cases A with
 |nil=>have:=p.length_eq;simp at this
 |cons x A=>
  rw[Vv];dsimp only;have al:((x.1::A.map (·.1)).all λk => !k.isEmpty)=true:=Wk.mpr λk hk=>by
   rw[<-Vv (f:=(·.1)) (a:=x)]at hk;obtain⟨y,hy,rfl⟩:=VP.mp hk;have:=yF hm (hl y (p.mem_iff.mp hy));cases z:y.1 with
   |nil=>exact absurd z this
   |cons=>rfl
  rw[VA al,E9 f (by have:=p.map (·.1);rwa [Vv]at this)]
theorem MU{t u:MT}{μ:MN.Env}{s:af}{a b:Bool}(h1:t μ s=.ok a s1)(h2:u μ s1=.ok b s1):eV t u μ s=.ok (a || b) s1:=by
 cases a with
 |true=>rw[dS,h1,ao];rfl
 |false=>rw[dS,h1,ao,eU,h2];rfl
theorem IA{t:MT}{μ:MN.Env}{s:af}{a:Bool}(h:t μ s=.ok a s1):cH t μ s=.ok (!a) s1:=by rw[fX,h];rfl
abbrev qC:MB:=aA (aN 5 (cQ (aa (ai PM.d9 (aa fV (aa JM aj))) (aa (ag eO (ag dQ bK fV) Iz) aj)))) (aA (dy (g6 de c5 (aa kY aj))) (dy (ai PM.cY (aa bK (aa aW (aa kY aj))))))
section
variable{a b:Nat}{l:aC}{A r:List aC}{s:af}{μ:MN.Env}
theorem Fg(hμ:μ=[x0, qL b, qL d, qL a, some (au t.1), x5])(hb:s[b]?=some (.lst ((l::B).map tV))):JM μ s=.ok (au l.1) s:=by
 have:ag aU aW bI μ s=.ok (tV l) s:=by rw[hμ,bF (x:=.loc b) (s1:=s) rfl (y:=.int 0) (s2:=s) rfl];exact gM hb
 unfold JM;rw[bF this (y:=.int 0) (s2:=s) rfl];rfl
theorem Fh(hμ:μ=[x0, qL b, qL d, qL a, some (au t.1), x5])(hb:s[b]?=some (.lst ((l::B).map tV))):Iz μ s=.ok (.int l.2) s:=by
 have:ag aU aW bI μ s=.ok (tV l) s:=by rw[hμ,bF (x:=.loc b) (s1:=s) rfl (y:=.int 0) (s2:=s) rfl];exact gM hb
 unfold Iz;rw[bF this (y:=.int 1) (s2:=s) rfl];rfl
theorem Ax(m1:1<=ah)(m4:ah<=4)(ll:l.1.length=ah)(lz:l.2≠0)(S:eh ah (t::r))(p:A.Perm (t::r))(T:Tk A)(hd:s[d]?=some (.dT (A.map eD)))(hb:s[b]?=some (.lst ((l::B).map tV))):
  ∃g,(JK l t=false->MS [x0, qL b, qL d, qL a, x4, x5] s=.rt .c6 (s++g))/\(JK l t=true->MS [x0, qL b, qL d, qL a, x4, x5] s=qC [x0, qL b, qL d, qL a, some (au t.1), x5] (s++g)) /\
   ag dQ bK fV [x0, qL b, qL d, qL a, some (au t.1), x5] (s++g)=.ok (.int t.2) (s++g):=by
 have lt:t.1.length=ah:=S.len t Vu;have mt:t.1∈A.map (·.1):=(p.map _).mem_iff.mpr (by rw[Vv];exact Vu);have gt:ba A t.1=t.2:=by rw[sW p T.nd];exact jY (dF S.p?) Vu
 obtain⟨g1,hdiv⟩:=yG (a:=l.1) (b:=t.1) ⋯ s;obtain⟨s1,fY⟩:=NE (s++g1)
 refine⟨g1,?_⟩;rw[<-fY]at hdiv⊢;have NG:s1[d]?=some (.dT (A.map eD)):=by rw[fY];exact dC hd _
 have NH:s1[b]?=some (.lst ((l::B).map tV)):=by rw[fY];exact dC hb _
 obtain⟨μ,hμ⟩:=NE ([x0, qL b, qL d, qL a, some (au t.1), x5]:MN.Env)
 have f1:aN 4 (ai wQ (aa bK aj)) [x0, qL b, qL d, qL a, x4, x5] s=.nx μ s:=by rw[hμ];refine dM (v:=au t.1) ?_;rw[aR (dY (v:=.loc d) (s1:=s) rfl)];exact Ff hd p S.p? m1 S.len
 have dv:ck (ai PM.e? (aa JM (aa fV aj))) μ s=.ok ((l.1.zip t.1).all λp=>decide (p.1<=p.2)) s1:=by refine iz ?_;rw[aR (gu (Fg hμ hb) (w:=au t.1) (s2:=s) (by rw[hμ];rfl))];exact hdiv
 have g:ag dQ bK fV μ s1=.ok (.int t.2) s1:=by rw[hμ,bF (x:=.loc d) (s1:=s1) rfl (y:=au t.1) (s2:=s1) rfl,uC NG mt,gt]
 have md:ck (ag gC (ag dE (ag dQ bK fV) Iz) bI) μ s1=.ok (!(t.2.fmod l.2==0)) s1:=by
  have e1:ag dE (ag dQ bK fV) Iz μ s1=.ok (.int (t.2.fmod l.2)) s1:=by rw[bF g (Fh hμ NH)];exact c8 lz
  refine iz ?_;rw[bF e1 (y:=.int 0) (s2:=s1) rfl,iD]
 have Cs:=MU (IA dv) md;rw[<-hμ];have ok:((!((l.1.zip t.1).all λp=>decide (p.1<=p.2))) || !(t.2.fmod l.2==0)) = !JK l t:=by unfold JK;rw[Bool.not_and]
 rw[ok]at Cs;refine⟨λz=>?_,λz=>?_,g⟩
 .unfold MS;rw[ax,f1,aB,ax,yC (by rw[Cs,z];rfl)];rfl
 .unfold MS;rw[ax,f1,aB,ax,wA (by rw[Cs,z];rfl),aB]
end
def TB(R:Option (List aC))(s':af)(a:Nat)(rt nx:Prop):Prop:=match R with
 |none=>rt
 |some Q'=>s'[a]?=some (.lst (Q'.map tV))/\nx
def TC(R:Option (List aC))(s s':af)(r e:cL ak):Prop:=match R with
 |none=>r=e
 |some Q=>∃k,s.length<=k/\s'[k]?=some (.lst (Q.map tV))/\r=.ok (.loc k) s'
theorem MV{l:aC}(m1:1<=ah)(m4:ah<=4)(lB:B.length<=100)(sB:eh ah (l::B))(dz:Dz l.2){Q:List aC}{R:Option (List aC)}(V:Dv ah (l::B) l D Q R):
  ∀{s:af}{d a b:Nat}{A:List aC}{x0 x4 x5:Option ak},A.Perm D->Tk A->s[d]?=some (.dT (A.map eD))->s[a]?=some (.lst (Q.map tV))->s[b]?=some (.lst ((l::B).map tV))->b≠a ->
   ∃n res s',dR qT MS n [x0, qL b, qL d, qL a, x4, x5] s=some res/\Kp d a s s'/\TB R s' a (res=.rt .c6 s') (∃y4 y5,res=.nx [x0, qL b, qL d, qL a, y4, y5] s'):=by
 have ll:l.1.length=ah:=sB.len l Vu;have lz:l.2≠0:=sB.nz l Vu;have Cs:∀{s:af}{d a b:Nat}{A:List aC}{x0 x4 x5:Option ak},s[d]?=some (.dT (A.map eD))->qT [x0, qL b, qL d, qL a, x4, x5] s=.ok (decide (0<(A.length:Int))) s:=by intro s d a b A x0 x4 x5 h;refine iz ?_;rw[bF (show ai wO (aa bK aj) [x0, qL b, qL d, qL a, x4, x5] s=.ok (.int (A.length:Int)) s by rw[aR (dY (v:=.loc d) (s1:=s) rfl)];exact len_dict h) (y:=.int 0) (s2:=s) rfl];rfl
 induction V with
 |done h=>
  intro s d a b A x0 x4 x5 p T hd ha hb ne;refine⟨1,_,s,?_,Kp.m?,ha,x4,x5,rfl⟩;have e:=p.length_eq;unfold dR;rw[Cs hd,V2 (by rw[e];decide)]
 | @stop t r Q h n=>
  intro s d a b A x0 x4 x5 p T hd ha hb ne;have e:=p.length_eq;obtain⟨g,f,_,_⟩:=Ax (x0:=x0) (x4:=x4) (x5:=x5) (a:=a) m1 m4 ll lz h.sD p T hd hb;refine⟨1,_,s++g,?_,Kp.app g,rfl⟩;unfold dR;rw[Cs hd,V0 (by rw[e,Vt];lia)];dsimp only;rw[f n]
 | @more t r Q R h n m k ih=>
  intro s d a b A x0 x4 x5 p T hd ha hb ne;have e:=p.length_eq;obtain⟨g,_,f,gd⟩:=Ax (x0:=x0) (x4:=x4) (x5:=x5) (a:=a) m1 m4 ll lz h.sD p T hd hb;have f:=f n;obtain⟨s1,fY⟩:=NE (s++g)
  have K1:Kp d a s s1:=by rw[fY];exact Kp.app g
  rw[<-fY]at f gd;have NG:s1[d]?=some (.dT (A.map eD)):=by rw[fY];exact dC hd _
  have Vg:s1[a]?=some (.lst (Q.map tV)):=by rw[fY];exact dC ha _
  have NH:s1[b]?=some (.lst ((l::B).map tV)):=by rw[fY];exact dC hb _
  have lt:t.1.length=ah:=h.sD.len t Vu;have da:d≠a:=λz=>by rw[z,Vg]at NG;cases NG
  have db:b≠d:=λz=>by rw[z,NG]at NH;cases NH
  obtain⟨g2,JN⟩:=Ao (a:=t.1) (b:=l.1) ⋯ s1;obtain⟨s2,fU⟩:=NE (s1++g2)
  rw[<-fU]at JN;have hd2:s2[d]?=some (.dT (A.map eD)):=by rw[fU];exact dC NG _
  have TF:s2[a]?=some (.lst (Q.map tV)):=by rw[fU];exact dC Vg _
  have K8:s2[b]?=some (.lst ((l::B).map tV)):=by rw[fU];exact dC NH _
  have mt:t.1∈A.map (·.1):=(p.map _).mem_iff.mpr (by rw[Vv];exact Vu);have gt:ba A t.1=t.2:=by rw[sW p T.nd];exact jY (dF h.sD.p?) Vu
  obtain⟨μ,hμ⟩:=NE ([x0, qL b, qL d, qL a, some (au t.1), x5]:MN.Env)
  obtain⟨μ2,Fi⟩:=NE ([x0, qL b, qL d, qL a, some (au t.1), some (tV (jZ l t))]:MN.Env)
  have g2':ag dQ bK fV μ s2=.ok (.int t.2) s2:=by rw[hμ,bF (x:=.loc d) (s1:=s2) rfl (y:=au t.1) (s2:=s2) rfl,uC hd2 mt,gt]
  have c1:aN 5 (cQ (aa (ai PM.d9 (aa fV (aa JM aj))) (aa (ag eO (ag dQ bK fV) Iz) aj))) μ s1=.nx μ2 s2:=by
   have e1:ai PM.d9 (aa fV (aa JM aj)) μ s1=.ok (au (gJ (· - ·) t.1 l.1)) s2:=by rw[aR (gu (v:=au t.1) (s1:=s1) (by rw[hμ];rfl) (Fg hμ NH))];exact JN
   have e2:ag eO (ag dQ bK fV) Iz μ s2=.ok (.int (t.2.fdiv l.2)) s2:=by rw[bF g2' (Fh hμ K8)];exact div_ii dz
   rw[dM (i? (gu e1 e2) (by show 2<=1000;decide)),hμ,Fi];rfl
  obtain⟨s3,Iw⟩:=NE (s2.set a (.lst ((Q++[jZ l t]).map tV)))
  have Se:s3[d]?=some (.dT (A.map eD)):=by rw[Iw];exact yA hd2 (WE da)
  have Vh:s3[b]?=some (.lst ((l::B).map tV)):=by rw[Iw];exact yA K8 (WE ne)
  have ha3:s3[a]?=some (.lst ((Q++[jZ l t]).map tV)):=by rw[Iw];exact get_set TF
  have c2:dy (g6 de c5 (aa kY aj)) μ2 s2=.nx μ2 s3:=by
   have v3:c5 μ2 s2=.ok (.loc a) s2:=by rw[Fi];rfl
   have arg:aa kY aj μ2 s2=.ok [tV (jZ l t)] s2:=by rw[Fi];rfl
   have lQ:=h.lQ;rw[ig,mX,v3,ao,sH TF,arg,ao,z?,jT TF (by rw[Vs,VF];lia),ay,Iw,WW];rfl
  have qz:(jZ l t).2≠0:=by
   have n':=n;unfold JK at n';rw[Wt]at n';have z:t.2.fmod l.2=0:=by simpa using n'.2
   have e:=Int.fmod_add_mul_fdiv t.2 l.2;rw[z]at e;intro y;have y':t.2.fdiv l.2=0:=y;rw[y',Int.mul_zero]at e;exact h.sD.nz t Vu ⋯
  have lD:=h.lD;obtain⟨s4,et,hd4,K4⟩:=nc (q:=jZ l t) (B:=l::B) Se Vh T (by rw[e,Vt (as:=B),VF];lia) (λx hx=>by rw[sB.len x hx];lia) m (λx hx=>_C qz (sB.nz x hx));have c3:dy (ai PM.cY (aa bK (aa aW (aa kY aj)))) μ2 s3=.nx μ2 s4:=by
   have arg:aa bK (aa aW (aa kY aj)) μ2 s3=.ok [.loc d,.loc b,tV (jZ l t)] s3:=by rw[Fi];rfl
   rw[ig,aR arg,et,ay];rfl
  have ha4:s4[a]?=some (.lst ((Q++[jZ l t]).map tV)):=(K4 d).at_ a _ (WE da) (WE da) ha3;have C!:s4[b]?=some (.lst ((l::B).map tV)):=(K4 d).at_ b _ db db Vh;obtain⟨T',p'⟩:=Io (q:=jZ l t) (B:=l::B) T p;obtain⟨n',res,s',ew,K',fin⟩:=ih (x0:=x0) (x4:=some (au t.1)) (x5:=some (tV (jZ l t))) p' T' hd4 ha4 C! ne;refine⟨n'+1,res,s',?_,((K1.trans (show Kp d a s1 s2 by rw[fU];exact Kp.app g2)).trans (show Kp d a s2 s3 by rw[Iw];exact Kp.Tz _)).trans ((K4 a).trans K'),fin⟩;unfold dR;rw[Cs hd,V0 (by rw[e,Vt];lia)];dsimp only;rw[f,<-hμ];unfold qC;rw[ax,c1,aB,ax,c2,aB,c3];dsimp only;rw[Fi];exact ew
def Ext(s s':af):Prop:=s.length<=s'.length/\∀(n:Nat)(c:bx),s[n]?=some c->s'[n]?=some c
theorem jK{l:aC}{R:Option (List aC)}{s:af}{p b:Nat}(m1:1<=ah)(m4:ah<=4)(lB:B.length<=100)(sB:eh ah (l::B))(dz:Dz l.2)(sD:eh ah D)(V:Dv ah (l::B) l D [] R)(hp:s[p]?=some (.lst (D.map tV)))(hb:s[b]?=some (.lst ((l::B).map tV))):
  ∃s',Ext s s'/\TC R s s' (PM.br [.loc p,.loc b] s) (.ok .c6 s'):=by
 obtain⟨s1,fY⟩:=NE (s++[bx.dT (D.map eD)])
 obtain⟨s2,fU⟩:=NE (s1++[bx.lst []])
 have l1:s1.length=s.length+1:=by rw[fY,VC];rfl
 have hd:s2[s.length]?=some (.dT (D.map eD)):=by rw[fU];exact dC (by rw[fY];exact uB s _) _
 have ha:s2[s1.length]?=some (.lst (([]:List aC).map tV)):=by rw[fU];exact fD s1 _
 have K8:s2[b]?=some (.lst ((l::B).map tV)):=by rw[fU,fY];exact dC (dC hb _) _
 have lb:=Ah hb;have T:Tk D:=⟨dF sD.p?,sD.nz⟩
 obtain⟨n,res,s',ew,K,fin⟩:=MV m1 m4 lB sB dz V (x0:=some (.loc p)) (x4:=none) (x5:=none) (List.Perm.refl D) T hd ha K8 ⋯;have E:Ext s s':=⟨by have:=K.len;rw[fU,VC,l1]at this;lia,λn c h=>by
  have ln:=Ah h;exact K.at_ n c ⋯ ⋯ (by rw[fU,fY];exact dC (dC h _) _)⟩
 refine⟨s',E,?_⟩;have c1:aN 2 (ai wm (aa aE aj)) [qL p, qL b, qn, qn, qn, qn] s=.nx [qL p, qL b, qL s.length, qn, qn, qn] s1:=by refine dM (v:=.loc s.length) ?_;rw[aR (dY (v:=.loc p) (s1:=s) rfl),Mv (av hp) T.nd,fY]
 have c2:aN 3 (df aj) [qL p, qL b, qL s.length, qn, qn, qn] s1=.nx [qL p, qL b, qL s.length, qL s1.length, qn, qn] s2:=by rw[dM (m9 (vs:=[]) (s1:=s1) rfl ⋯),fU];rfl
 have run:PM.br [.loc p,.loc b] s=(aA (fA qT MS) (aK c5) [qL p, qL b, qL s.length, qL s1.length, qn, qn] s2).fin:=by unfold PM.br;rw[aZ (np:=2) (us:=[ak.loc p,.loc b]) rfl];show(aA (aN 2 (ai wm (aa aE aj))) (aA (aN 3 (df aj)) (aA (fA qT MS) (aK c5))) [qL p, qL b, qn, qn, qn, qn] s).fin=_;rw[ax,c1,aB,ax,c2,aB]
 cases R with
 |none=>
  show PM.br [.loc p,.loc b] s=.ok .c6 s';have fin:res=.rt .c6 s':=fin;rw[run,ax,mR ew,fin];rfl
 |some Q=>
  obtain⟨hQ,y4,y5,e⟩:=fin;refine⟨s1.length,⋯,hQ,?_⟩;rw[run,ax,mR ew,e,aB];rfl
theorem s_:∀{a b:_H},a.length=b.length->(∀i,i<a.length->gx a i<=gx b i)->((a.zip b).all λp=>decide (p.1<=p.2))=true
 |[],[],_,_=>rfl
 |x::a,y::b,h,q=>by rw[X3,Xk,Wt];exact⟨V0 (q 0 (by simp)),s_ (by simpa using h) λi hi=>q (i+1) (by simpa using hi)⟩
 |[],_::_,h,_=>by simp at h
 |_::_,[],h,_=>by simp at h
end PG
namespace L2
open PySem.Spec PyProof.Rows
theorem yN{M:Model}{E:_D}{s:_N}{globals:_O}{env:Env}{Q:Env->_N->Prop}(hc:∀n,cellsFrom n scope.names cl=(y,n)::cl)(hp:∀h,pushCells h scope.names=h.push {cls:=.type "cell",data:=.cell none})(h:Q {scope:=scope,locals:=s.heap.objs.size,globals:=globals,cells:=(y,s.heap.objs.size+1)::cl,qual:=qual,func:=none,code:=env.code,frame:=env.frame,builtins:=env.builtins} {s with heap:=(s.heap.push {cls:=.type "dict",data:=.dict #[]}).push {cls:=.type "cell",data:=.cell none} }):
  wpAny M A (newFunctionEnv scope globals cl [] qual none .none (some env)) Q E s:=by
 simp only[newFunctionEnv,Option.isSome_some,XJ];refine Vp (wpAny_alloc ?_);refine Vp (wpAny_layCells _ (λname kind cells=>by cases hkc:kind==NameKind.cell<;>simp[hkc]) _ _ _ _ ?_);rw[hc,hp,show({s with heap:=s.heap.push {cls:=.type "dict",data:=.dict #[]} }:_N).heap.objs.size=s.heap.objs.size+1 from WO ..];refine Vp ?_;rw[XE];exact Vr (Vr h)
structure uL(X:Cx)(N:_L)(scope:Scope)(cl:List (Str×_O))(y:Str)(k:Nat)(caps:List Nat):Prop where
 jv:closureFor scope X.env=pure cl
 sub:∀x c,cl.lookup x=some c->X.env.cells.lookup x=some c
 has:∀x,((relabel scope X.env).names.lookup x=some .cell\/(relabel scope X.env).names.lookup x=some .free)->x=y\/∃c,cl.lookup x=some c
 cells:∀n,cellsFrom n scope.names cl=(y,n)::cl
 push:∀h,pushCells h scope.names=h.push {cls:=.type "cell",data:=.cell none}
 kind:scope.kind=.function
 names:∀x∈scope.names,x.2=.local->scope.names.lookup x.1=some .local
 len:N.length=k+caps.length
 at_:∀i j x,caps[i]?=some j->N[k+i]?=some x->X.N[j]?=some x/\(X.env.kindOf x=some .cell\/X.env.kindOf x=some .free)/\((relabel scope X.env).names.lookup x=some .cell\/(relabel scope X.env).names.lookup x=some .free)/\x≠y
def uM(X:Cx)(N:_L)(scope:Scope)(cl:List (Str×_O))(y:Str)(C:_O)(fp:_K)(s:_N)(H:Hp):Cx:=KQ X N scope ((y,C+1)::cl) C fp s H (λ_ _ _=>False) λx=>x==y
section
variable{s:_N}
theorem jL{d c:_O}(h:((y,d)::cl).lookup x=some c):(x=y/\c=d)\/(x≠y/\cl.lookup x=some c):=by
 rw[Yf]at h;by_cases e:x=y
 .rw[WC.mpr e]at h;cases h;exact .inl ⟨e,rfl⟩
 .rw[V6.mpr e]at h;exact .inr ⟨e,h⟩
theorem aM.IB{t':Nat}{m':_E}(I:aM X ae σ H s)(B:uL X N scope cl y k caps)(hf:∀b∈fp,j7 X ae H b)(hC:s.heap.objs.size<=C)(Co:∀b∈fp,∃o,s.heap.get? b=some o)(kp:∀b o,s.heap.get? b=some o->h'.get? b=some o)(ns:h'.Ns C m')(hc:∃v,h'.IsCell (C+1) v):aM (uM X N scope cl y C fp s H) [] (j8 k caps σ) H {s with heap:=h',toks:=t'}:=by
 have below:∀{b:_O}{o:Obj},s.heap.get? b=some o->b≠C:=λe=>VX (VG (Vz e) hC);have zJ:∀x c,cl.lookup x=some c->∃v,s.heap.IsCell c v:=λx c e=>I.cell x c (B.sub x c e);have AI:∀x c,cl.lookup x=some c->c≠C+1:=λx c e z=>by obtain⟨v,o,ho,_⟩:=zJ x c e;exact absurd (Vz ho) (by rw[z];exact Z5.mpr (V7 hC (XH _)))
 refine⟨⟨I.ok.mod,?_,I.ok.glob,I.ok.blt,hC,λx z c h1 h2=>?_,λx hx=>?_,λx c h1 h2=>?_,I.ok.hd,I.ok.frames,.inl rfl,λb hb=>⟨?_,λx c e=>?_⟩,I.bs,V7 I.ok.Cv I.sz,λb o e hb=>?_,λb hb=>?_,I.stack,I.oK⟩,
  rfl,I.bare,Un.kept kp,⟨m',ns,λi x v h1 h2 h3=>?_⟩,λx c e=>?_,?_,λx c e=>?_,λp hp=>absurd (show p∈([]:_F)from hp) (by simp),I.b?.kept kp,?_⟩
 .exact B.kind
 .rcases jL h1 with⟨a1,a2⟩|⟨a1,a2⟩<;>rcases jL h2 with⟨b1,b2⟩|⟨b1,b2⟩
  .rw[a1,b1]
  .exact(AI z c b2 a2).elim
  .exact(AI x c a2 b2).elim
  .exact I.ok.inj x z c (B.sub x c a2) (B.sub z c b2)
 .show ∃c,((y,C+1)::cl).lookup x=some c;rw[Yf];by_cases e:x=y
  .exact⟨C+1,by rw[WC.mpr e]⟩
  .rw[V6.mpr e];rcases B.has x hx with z|z
   .exact(e z).elim
   .exact z
 .have e:x=y:=WC.mp h1;rcases jL h2 with⟨_,a2⟩|⟨a1,_⟩
  .rw[a2];exact V7 hC (XH _)
  .exact(a1 e).elim
 .obtain⟨o,e⟩:=Co b hb;exact below e
 .rcases jL e with⟨_,a2⟩|⟨_,a2⟩
  .obtain⟨o,eo⟩:=Co b hb;exact λz=>absurd (Vz eo) (by rw[<-z,a2];exact Z5.mpr (V7 hC (XH _)))
  .exact(hf b hb).2.2.2.2.1 x c (B.sub x c a2)
 .obtain⟨_,_,_,h4,_⟩:=hf b hb;rcases h4 with z|z
  .exact I.ok.tH b o e z
  .exact absurd (VG (Vz (I.ok.bs b o e).1) z) (V9 _)
 .intro z;rcases VO.mp (I.kz b z)with e|e
  .exact(hf b hb).2.1 e
  .exact(hf b hb).2.2.1 e
 .obtain⟨j,hk,hj,hσ⟩:=zI h2;have hN:N[k+(i-k)]?=some x:=by rw[ZV hk];exact h1
  obtain⟨a1,a2,a3,a4⟩:=B.at_ (i-k) j x hj hN;obtain⟨m,hn,hl⟩:=I.loc;have R!:FE X.env.scope x:=by
   rcases a2 with z|z
   .exact .inr (.inl z)
   .exact .inr (.inr z)
  obtain⟨u,r,l⟩:=hl j x v a1 hσ R!;refine⟨u,r,.inr ⟨a3,?_⟩⟩;rcases l with⟨z,_⟩|⟨_,c,e,cc⟩
  .rcases a2 with y|y<;>(rw[z]at y;cases y)
  .obtain⟨c',e'⟩:=(B.has x a3).resolve_left a4;have:X.env.cells.lookup x=some c':=B.sub x c' e';rw[e]at this;cases this;obtain⟨o,ho,hd⟩:=cc;refine⟨c,?_,o,kp c o ho,hd⟩;show((y,C+1)::cl).lookup x=some c;rw[Yf,V6.mpr a4];exact e'
 .rcases jL e with⟨_,a2⟩|⟨_,a2⟩
  .rw[a2];exact hc
  .obtain⟨v,o,ho,hd⟩:=zJ x c a2;exact⟨v,o,kp c o ho,hd⟩
 .exact I.b?.fresh hC
 .rcases jL e with⟨_,a2⟩|⟨_,a2⟩
  .rw[a2];exact I.b?.fresh (V7 hC (XH _))
  .exact I.gA x c (B.sub x c a2)
 .show(j8 k caps σ).length=N.length;unfold j8;rw[VC,Wn,Vs,B.len]
end
section
variable{g:TG}
theorem BY(hc:X.calm=true)(B:uL X N scope cl y k caps)(hi:PI X tg iter wi)(hg:∀C fp s H,PG (uM X N scope cl y C fp s H) tg g)(Dc:∀C fp s H,vf (uM X N scope cl y C fp s H) ifs tt)(he:∀C fp s H,PE (uM X N scope cl y C fp s H) elt te)(hs:∀x,foldedSetIterable iter X.env x=pure x:=by intro _;rfl):PE X (.ListComp elt [⟨tg,iter,ifs,0⟩] scope pos) (lF k caps wi g tt te):=by
 intro ae s σ H Q I h;rw[eval_ListComp];refine Yp (use:=none) rfl hs B.jv B.kind B.names (dA (hi ae s σ H _ I (mM h)) λxv s₁ h₁=>dA h₁ λNX s₂ h₂=>?_);obtain⟨it,fp,tn,J,H2,e,I2,T,dh,f2,hW⟩:=h₂;subst e;refine Wf (yN B.cells B.push ?_);generalize TH:s₂.heap.push {cls:=.type "list",dict:=none,data:=.seq ([]:_I).toArray} = H3;have hC:H3.objs.size=s₂.heap.objs.size+1:=by rw[<-TH,WO]
 have FJ:s₂.heap.objs.size<=H3.objs.size:=by rw[hC];exact XH _
 obtain⟨h₁,e1⟩:∃h₁,h₁=(H3.push {cls:=.type "dict",data:=.dict #[]}).push {cls:=.type "cell",data:=.cell none}:=⟨_,rfl⟩
 have old:∀b o,s₂.heap.get? b=some o->h₁.get? b=some o:=λb o q=>by rw[e1];exact Vq _ (Vq _ (TH▸Vq _ q))
 have xO:h₁.get? s₂.heap.objs.size=some {cls:=.type "list",data:=.seq ([]:_I).toArray 0}:=by rw[e1];exact Vq _ (Vq _ (TH▸VI _ rfl))
 have ns:h₁.Ns H3.objs.size λ_=>none:=by rw[e1];exact(Heap.Ns.new H3 (.type "dict")).keeps λb o q=>Vq _ q
 have zo:∃v,h₁.IsCell (H3.objs.size+1) v:=⟨none,{cls:=.type "cell",data:=.cell none},by rw[e1,<-WO H3 {cls:=.type "dict",data:=.dict #[]}];exact VI _ rfl,rfl⟩
 have Co:∀b∈fp,∃o,s₂.heap.get? b=some o:=λb hb=>let⟨o,e,_⟩:=T.obj 0 _ dh b hb;⟨o,e⟩
 have loop:=sh (X:=X) (iter:=iter) (pos:=pos) (xe:=λ_ _ _=>False) (fn:=λx=>x==y) (RR:=λacc en=>compPost (model X.prog X.w) X.A X.xe none (EP X ae σ Q) acc en.locals) (tk:=s₂.toks) (Cd:=λX=>X.calm=true) (cs:=(y,H3.objs.size+1)::cl) (C:=H3.objs.size) (h₁:=h₁) hc (hg _ _ _ _) (Dc _ _ _ _) (he _ _ _ _) I2 T.c dh f2 hW (I2.IB B f2 FJ Co old ns zo) hC xO old (λx c e z=>by
   rcases jL e with⟨_,a2⟩|⟨_,a2⟩
   .exact absurd (a2.symm.trans z) (WK (Nat.lt_succ_of_le FJ))
   .obtain⟨v,o,ho,_⟩:=I2.cell x c (B.sub x c a2);exact absurd (Vz ho) (by rw[z];exact V9 _)) (λb hb x c e=>by
   rcases jL e with⟨_,a2⟩|⟨_,a2⟩
   .obtain⟨o,eo⟩:=Co b hb;exact λz=>absurd (Vz eo) (by rw[<-z,a2];exact Z5.mpr (V7 FJ (XH _)))
   .exact(f2 b hb).2.2.2.2.1 x c (B.sub x c a2)) (λacc s' q=>by
   obtain⟨D,H',rfl,Q_,I',hn,⟨m,ns⟩,q⟩:=q;exact⟨m,ns,λh' sb=>⟨.ref D,H',I2.mO Q_ I' hn sb,rfl,q⟩⟩) λ_ _ _ z=>z.elim
 have vC:tn 0 h₁:=T.keep 0 _ _ dh λb _ o e=>old b o e;have fin:=_l loop (T.self X.A 0 _ _ _ vC loop);rw[e1]at fin;exact fin
end
end L2
namespace MN
open PySem.Spec L2
open PyProof.Rows hiding St
section
variable{it:MI}{a:AS}{c:MT}{e:ME}
theorem BZ(hc:X.calm=true)(FL:X.pn=[])(B:uL X N scope cl y k caps)(hi:PI X tg iter (tI X E it))(hg:∀C fp s H,PG (uM X N scope cl y C fp s H) tg (tA (W0 X) a))(Dc:∀C fp s H,vf (uM X N scope cl y C fp s H) ifs (tG (W0 X) E0 RB c))(he:∀C fp s H,PE (uM X N scope cl y C fp s H) elt (tG (W0 X) E0 (Rl X.K) e))(hs:∀x,foldedSetIterable iter X.env x=pure x:=by intro _;rfl):PE X (.ListComp elt [⟨tg,iter,ifs,0⟩] scope pos) (tE X E (aO k caps it a c e)):=
 PE.imp (BY hc B hi hg Dc he hs) λ_ _ _ h=>mS FL h
theorem B0{C fp s H}:vf (uM X N scope cl y C fp s H) [] (tG (W0 X) E0 RB aw):=by intro ae s' σ H' Q I q;refine zH ae s' σ H' Q I ?_;obtain⟨μ,ρ,st,rs,sr,h⟩:=q;exact h ρ H' true (aF.refl _ _) sr rfl
theorem MW{C fp s H}:Passes (kX P w) (uM X N scope cl y C fp s H) E0:=by rintro ae σ H' s' e s2 I ⟨ea,cls,H2,_,_,q⟩;exact q.elim
end
theorem MX(jv:closureFor scope X.env=pure cl:=by rfl)(A:fB X scope cl caps:=by right)(has:((relabel scope X.env).names.all λp => !(p.2 == .cell || p.2 == .free) || p.1==y || (cl.map (·.1)).contains p.1)=true:=by rfl)(cells:∀n,cellsFrom n scope.names cl=(y,n)::cl:=by intro _;rfl)(push:∀h,pushCells h scope.names=h.push {cls:=.type "cell",data:=.cell none}:=by intro _;rfl)(kind:scope.kind=.function:=by rfl)(names:(scope.names.all λp => !(p.2 == .local) || scope.names.lookup p.1==some .local)=true:=by rfl)(len:N.length=k+caps.length:=by rfl)(hN:N.drop k=cl.map (·.1):=by rfl)(hy:(cl.map (·.1)).contains y=false:=by rfl):uL X N scope cl y k caps where
 jv:=jv
 sub:=A.sub
 has:=λx h=>by
  have m:x=y\/x∈cl.map (·.1):=by rcases h with h|h<;>(have m:=WV h;have z:=Wk.mp has _ m;simpa using z)
  exact m.imp_right fW
 cells:=cells
 push:=push
 kind:=kind
 names:=λx hx h=>by have z:=Wk.mp names x hx;simpa[h]using z
 len:=len
 at_:=λi j x h1 h2=>by
  have hx:(cl.map (·.1))[i]?=some x:=by rw[<-hN,WH];exact h2
  obtain⟨a,b,c⟩:=A.at_ i j x h1 hx;refine⟨a,b,c,λe=>?_⟩;have:=List.contains_iff_mem.mpr (WG hx);rw[e,hy]at this;cases this
section
variable{h:Heap}
def dm(K:_G)(x:Str)(st:Stmt):Prop:=∃(f:_O)(fd:FuncData),FH K x x st f fd/\W.nsIn K mainGlobals x=some (some (.ref f))
theorem dm.mk{st:Stmt}{kV ct:_M}(a:W.nsIn K mainGlobals x=some (some (.ref f)))(l:K.lookup f=some ⟨oc,od,.func (W.fnOf x x (fT st) (dH st) (aV st) .none kV doc pm an ej ct),AR⟩)(c:W.codeIn K ej x=true)(k:W.keepIn K (.ref f)=true):dm K x st:=⟨f,_,CW l c k,a⟩
inductive yO(K:_G):_L->Prop
 |nil:yO K []
 |cons {x:Str} {r:_L} (a:W.nsIn K mainGlobals x=some none) (t:yO K r):yO K (x::r)
@[reducible] def IC(mg:_E):_L->Prop
 |[]=>True
 |x::r=>mg x=none/\IC mg r
theorem yO.get(X:K.In h)(G:h.Ns mainGlobals mg):∀{l:_L},yO K l->IC mg l
 |_,.nil=>trivial
 |_,.cons a t=>⟨Z2 X G a,t.get X G⟩
inductive yP(K:_G):_L->Prop
 |nil:yP K []
 |cons {x:Str} {r:_L} {C:_O} (a:W.nsIn K mainGlobals x=some (some (.ref C))) (e:W.excIn K C U1 "ValueError.__new__" = true) (s:W.subIn K (.ref C) (.type "BaseException")=some true) (t:yP K r):yP K (x::r)
@[reducible] def ID(K:_G)(mg:_E):_L->Prop
 |[]=>True
 |x::r=>DQ K mg x/\ID K mg r
theorem yP.get(X:K.In h)(G:h.Ns mainGlobals mg):∀{l:_L},yP K l->ID K mg l
 |_,.nil=>trivial
 |_,.cons a e s t=>⟨⟨_,W6 X G a,e,s⟩,t.get X G⟩
inductive nU(K:_G):List (Str×Str×Bool)->Prop
 |nil:nU K []
 |cons {c x:Str} {b:Bool} {C D:_O} {cd:ClassData} {r:List (Str×Str×Bool)} (h1:W.nsIn K mainGlobals c=some (some (.ref C))) (h2:W.nsIn K mainGlobals x=some (some (.ref D))) (h3:W.clsIn K D=some cd) (h4:W.typeIn K (.ref D)=some (.type "type")) (h5:W.subIn K (.ref C) (.ref D)=some b) (t:nU K r):nU K ((c,x,b)::r)
inductive qk(K:_G):_L->Prop
 |nil:qk K []
 |cons {c:Str} {C:_O} {r:_L} (h1:W.nsIn K mainGlobals c=some (some (.ref C))) (h3:W.kitOne K (.ref C) (.type "ValueError")=some true) (t:qk K r):qk K (c::r)
def PZ(l:_L):List (Str×Str×Bool):=l.map λc=>(c,"ValueError",true)
theorem qk.get(X:K.In h)(G:h.Ns mainGlobals mg)(n:W.nsIn K mainGlobals "ValueError" = some none):∀{l:_L},qk K l->eB K mg (PZ l)
 |_,.nil=>.nil
 |_,.cons h1 h3 t=>.blt (W6 X G h1) (Z2 X G n) kh h3 (t.get X G n)
theorem nU.get(X:K.In h)(G:h.Ns mainGlobals mg){l':List (Str×Str×Bool)}(S:eB K mg l'):∀{l:List (Str×Str×Bool)},nU K l->eB K mg (l++l')
 |_,.nil=>S
 |_,.cons h1 h2 h3 h4 h5 t=>.own (W6 X G h1) (W6 X G h2) (Bo h3 h4 h5) (t.get X G S)
inductive yQ(K:_G):_L->Prop
 |nil:yQ K []
 |cons {x:Str} {r:_L} {C:_O} (a:W.nsIn K mainGlobals x=some (some (.ref C))) (q:L2.uk K C=true) (t:yQ K r):yQ K (x::r)
theorem yQ.get(X:K.In h)(G:h.Ns mainGlobals mg):∀{l:_L},yQ K l->rf K mg l
 |_,.nil=>.nil
 |_,.cons a q t=>.cons (W6 X G a) q (t.get X G)
theorem rf.known{l:_L}(Q:rf K mg l):Known mg (LW l):=λc hc=>let⟨C,h,_⟩:=Q.at_ hc;⟨C,h⟩
end
section
variable{a b:Expr}{ma:ME}
theorem MY(ha:PE X a (tE X E ma))(hb:PE X b (tE X E mb)):PE X (.BinOp a .Add b pos) (tE X E (ag cq ma mb)):=kE GY ha hb
theorem MZ(ha:PE X a (tE X E ma))(hb:PE X b (tE X E mb)):PE X (.BinOp a .Sub b pos) (tE X E (ag q_ ma mb)):=kE GZ ha hb
theorem M0(ha:PE X a (tE X E ma))(hb:PE X b (tE X E mb)):PE X (.BinOp a .Mult b pos) (tE X E (ag dg ma mb)):=kE G0 ha hb
theorem M3(ha:PE X a (tE X E ma))(hb:PE X b (tE X E mb)):PE X (.BinOp a .FloorDiv b pos) (tE X E (ag eO ma mb)):=kE Du ha hb
theorem M4(ha:PE X a (tE X E ma))(hb:PE X b (tE X E mb)):PE X (.BinOp a .Mod b pos) (tE X E (ag dE ma mb)):=kE G1 ha hb
theorem M5(ha:PE X a (tE X E ma))(hb:PE X b (tE X E mb)):PE X (.BinOp a .Pow b pos) (tE X E (ag uc ma mb)):=kE G4 ha hb
theorem P0(ha:PE X a (tE X E ma))(hb:PE X b (tE X E mb)):PT X (.Compare a [.Lt] [b] pos) (tT X E (ck (ag ltV ma mb))):=jy Dw ha hb
theorem P_(ha:PE X a (tE X E ma))(hb:PE X b (tE X E mb)):PT X (.Compare a [.Gt] [b] pos) (tT X E (ck (ag GX ma mb))):=jy Dx ha hb
theorem P!(hu:X.A.units+64<cLine)(ha:PE X a (tE X E ma))(hb:PE X b (tE X E mb)):PT X (.Compare a [.Eq] [b] pos) (tT X E (ck (ag gB ma mb))):=jy (DB hu) ha hb
theorem P?(hu:X.A.units+64<cLine)(ha:PE X a (tE X E ma))(hb:PE X b (tE X E mb)):PT X (.Compare a [.NotEq] [b] pos) (tT X E (ck (ag gC ma mb))):=jy (DC hu) ha hb
theorem P'(hu:X.A.units+64<cLine)(ha:PE X a (tE X E ma))(hb:PE X b (tE X E mb)):PE X (.Compare a [.Eq] [b] pos) (tE X E (ag gB ma mb)):=jx (DB hu) ha hb
theorem Qa(hu:X.A.units+64<cLine)(ha:PE X a (tE X E ma))(hb:PE X b (tE X E mb)):PE X (.Compare a [.NotEq] [b] pos) (tE X E (ag gC ma mb)):=jx (DC hu) ha hb
end
end MN
namespace DL
section
variable{E:_D}{s:_N}
variable{K:Type}[DecidableEq K]{knd:KeyKind prog w K}
def nU(knd:KeyKind prog w K)(h:Heap)(u:_M)(q:K×_M):Prop:=
 ∃a o aI n key,u=.ref a/\h.get? a=some o/\o.cls=.type "tuple" /\ o.data=.seq aI n/\aI.toList=[key,q.2]/\knd.is q.1 key=true
end
end DL
namespace L2
open PySem.Spec PyProof.Rows
abbrev n!(h:Heap)(z TI TO:_O)(f0 f1:_M):Prop:=
 h.get? z=some {cls:=.type "zip",dict:=none,data:=.fields #[f0,f1,.bool false,.ref TI,.ref TO],slots:=#[]}
def ZX(h:Heap)(z TI TO:_O):Prop:=∃f0 b,n! h z TI TO f0 (.bool b)/\(f0=.none\/∃a:Nat,f0=rawInt a)
section
variable{E:_D}{s:_N}
theorem wZ{a:_O}{Q:Option Obj->_N->Prop}(h:Q (s.heap.get? a) s):wpAny (model prog w) A (loadIfAlive a) Q E s:=λΓ p hΓ=>by unfold loadIfAlive;rw[Sem.wp_loadIfAlive];exact h
theorem Ay{z TI TO:_O}{Q:Bool->_N->Prop}{f0:_M}{b:Bool}(hz:n! s.heap z TI TO f0 (.bool b))(hf:f0=.none\/∃a:Nat,f0=rawInt a)(h1:Q true s)(h2:∀h',n! h' z TI TO f0 (.bool true)->Heap.SameBut z s.heap h'->Q false {s with heap:=h'}):wpAny (model prog w) A (Builtin.SmallTypes.ownedTupleIsFree (.ref z)) Q E s:=by
 unfold Builtin.SmallTypes.ownedTupleIsFree;rcases hf with rfl|⟨a,rfl⟩
 .exact Vp (V_ hz rfl (x:=.none) rfl (Vr h1))
 .refine Vp (V_ hz rfl (x:=rawInt a) rfl (Vp (wZ ?_)));cases hg:s.heap.get? (Int.toNat (a:Int)) with
  |none=>exact Vr h1
  |some o=>
   refine Vp (V_ hz rfl (x:=.bool b) rfl ?_);cases b with
   |true=>exact Vr (h2 _ hz ⟨rfl,λ_ _=>rfl⟩)
   |false=>
    refine Vp (Wl hz (by simp) λg gz sg=>Vr (h2 g gz sg))
theorem Fj{z TI TO:_O}{x y a b:_M}(D:ZipApart z TI TO i1 i2 l1 l2)(hZ:ZX s.heap z TI TO)(iU:IsPair s.heap TI (.ref i1) (.ref i2))(jc:IsPair s.heap TO a b)(h1:bP b1 s.heap i1 l1 k1)(h2:bP b2 s.heap i2 l2 k2)(qV:fm b1 s.heap l1 xs)(r?:fm b2 s.heap l2 ys)(hx:xs[k1]?=some x)(hy:ys[k2]?=some y)
  (hQ:∀ h',ZX h' z TI TO->(∃ u v,IsPair h' TO u v)->bP b1 h' i1 l1 (k1+1)->bP b2 h' i2 l2 (k2+1)->IsPair h' s.heap.objs.size x y ->
   (∀c o,c≠z->c≠TO->c≠i1->c≠i2->s.heap.get? c=some o->h'.get? c=some o)->Q (.ref s.heap.objs.size) {s with heap:=h'}):
  wpAny (model prog w) A (Builtin.«zip.__next__» ⟨[.ref z],[]⟩) (λfin s'=>∃v,fin=.done (.ret v)/\Q v s') E s:=by
 obtain⟨f0,bb,hz,hf⟩:=hZ;show wpAny _ _ (field (.ref z) 2 >>= _) _ _ _;refine Vp (V_ hz rfl (x:=.bool false) rfl ?_);show wpAny _ _ (field (.ref z) 3 >>= _) _ _ _;refine Vp (V_ hz rfl (x:=.ref TI) rfl (Vp (Wb iU rfl ?_)));show wpAny _ _ (Builtin.SmallTypes.ownedTupleIsFree (.ref z) >>= _) _ _ _;refine Vp (Ay hz hf ?_ λg₁ ff s₁=>?_)
 .simp only[XJ];refine Vp (W! (Vp (V_ hz rfl (x:=.ref TO) rfl (Vp (Wl hz (by simp) λg₁ ff s₁=>?_)))));replace ff:n! g₁ z TI TO .ellipsis (.bool bb):=ff;refine Vp ?_;simp only[YA,YL,XM,XE];refine Vp (Vp (Xh ?_));show wpAny _ _ (Builtin.SmallTypes.nextOf (.ref i1) >>= _) _ _ _;refine Vp (cU (b:=b1) (h1.keep λo e=>s₁.extBut _ o D.i1z e) (qV.keep λo e=>s₁.extBut _ o D.l1z e) hx λg₂ q₁ s₂=>Vr ?_);have t₂:IsPair g₂ TO a b:=s₂.extBut _ _ D.TOi1 (s₁.extBut _ _ D.TOz jc);refine Vp (Wb t₂ rfl (Vp (Xb t₂ λg₃ t₃ s₃=>?_)));replace t₃:IsPair g₃ TO x b:=t₃;refine Vp (WL (Vr (Vp (Vp (Xh ?_)))));show wpAny _ _ (Builtin.SmallTypes.nextOf (.ref i2) >>= _) _ _ _;refine Vp (cU (b:=b2) (h2.keep λo e=>s₃.extBut _ o D.TOi2.symm (s₂.extBut _ o D.i12.symm (s₁.extBut _ o D.i2z e))) (r?.keep λo e=>s₃.extBut _ o D.l2TO (s₂.extBut _ o D.l2i1 (s₁.extBut _ o D.l2z e))) hy λg₄ q₂ s₄=>Vr ?_);have t₄:IsPair g₄ TO x b:=s₄.extBut _ _ D.TOi2 t₃;refine Vp (Wb t₄ rfl (Vp (Xb t₄ λg₅ t₅ s₅=>?_)));replace t₅:IsPair g₅ TO x y:=t₅;refine Vp (WL (Vr (Vr (Vp (Wb t₅ rfl (Vp (YM ?_)))))));have sz:g₅.objs.size=s.heap.objs.size:=by rw[s₅.1,s₄.1,s₃.1,s₂.1,s₁.1]
  have z₅:n! g₅ z TI TO .ellipsis (.bool bb):=s₅.extBut _ _ D.TOz.symm (s₄.extBut _ _ D.i2z.symm (s₃.extBut _ _ D.TOz.symm (s₂.extBut _ _ D.i1z.symm ff)));have kp:∀c o,c≠z->c≠TO->c≠i1->c≠i2->s.heap.get? c=some o->g₅.get? c=some o:=λc o n1 n2 n3 n4 e=>s₅.extBut _ _ n2 (s₄.extBut _ _ n4 (s₃.extBut _ _ n2 (s₂.extBut _ _ n3 (s₁.extBut _ _ n1 e))));have p₁:bP b1 g₅ i1 l1 (k1+1):=q₁.keep λo e=>s₅.extBut _ o D.TOi1.symm (s₄.extBut _ o D.i12 (s₃.extBut _ o D.TOi1.symm e));have p₂:bP b2 g₅ i2 l2 (k2+1):=q₂.keep λo e=>s₅.extBut _ o D.TOi2.symm e;have OJ:z<g₅.objs.size:=Vz z₅;show wpAny _ _ (Builtin.SmallTypes.ownedTupleHandOut (.ref z) (.ref g₅.objs.size) >>= _) _ _ _;refine Vp ?_;unfold Builtin.SmallTypes.ownedTupleHandOut;have z₆:n! (g₅.push {cls:=.type "tuple",data:=.seq #[x,y]}) z TI TO .ellipsis (.bool bb):=Vq _ z₅;refine Vp (Wl z₆ (by simp) λg₇ z₇ s₇=>?_);replace z₇:n! g₇ z TI TO (rawInt g₅.objs.size) (.bool bb):=z₇;refine Wl z₇ (by simp) λg₈ z₈ s₈=>?_;replace z₈:n! g₈ z TI TO (rawInt g₅.objs.size) (.bool false):=z₈;have up:∀c o,c≠z->g₅.get? c=some o->g₈.get? c=some o:=λc o n e=>s₈.extBut _ _ n (s₇.extBut _ _ n (Vq _ e));have t₈:IsPair g₈ g₅.objs.size x y:=s₈.extBut _ _ (WK OJ) (s₇.extBut _ _ (WK OJ) (VI _ rfl));rw[sz]at t₈;refine Vr ⟨_,rfl,?_⟩;show Q (.ref g₅.objs.size) _;rw[sz];exact hQ g₈ ⟨_,_,z₈,.inr ⟨_,rfl⟩⟩ ⟨_,_,up _ _ D.TOz t₅⟩ (p₁.keep λo e=>up _ o D.i1z e) (p₂.keep λo e=>up _ o D.i2z e) t₈ λc o n1 n2 n3 n4 e=>up c o n1 (kp c o n1 n2 n3 n4 e)
 .simp only[V5,WI];refine Vp ?_;rw[<-Array.forIn_toList];simp only[XM,XE];refine Vp (Vp (Wj ?_));show wpAny _ _ (Builtin.SmallTypes.nextOf (.ref i1) >>= _) _ _ _;refine Vp (cU (b:=b1) (h1.keep λo e=>s₁.extBut _ o D.i1z e) (qV.keep λo e=>s₁.extBut _ o D.l1z e) hx λg₂ q₁ s₂=>Vr ?_);refine Vr (Vp (Vp (Wj ?_)));show wpAny _ _ (Builtin.SmallTypes.nextOf (.ref i2) >>= _) _ _ _;refine Vp (cU (b:=b2) (h2.keep λo e=>s₂.extBut _ o D.i12.symm (s₁.extBut _ o D.i2z e)) (r?.keep λo e=>s₂.extBut _ o D.l2i1 (s₁.extBut _ o D.l2z e)) hy λg₄ q₂ s₄=>Vr ?_);refine Vr (Vr (Vp (YM ?_ (by show 2<=sizeLine;decide))));have sz:g₄.objs.size=s.heap.objs.size:=by rw[s₄.1,s₂.1,s₁.1]
  have z₅:n! g₄ z TI TO f0 (.bool true):=s₄.extBut _ _ D.i2z.symm (s₂.extBut _ _ D.i1z.symm ff);have kp:∀c o,c≠z->c≠i1->c≠i2->s.heap.get? c=some o->g₄.get? c=some o:=λc o n1 n3 n4 e=>s₄.extBut _ _ n4 (s₂.extBut _ _ n3 (s₁.extBut _ _ n1 e));have p₁:bP b1 g₄ i1 l1 (k1+1):=q₁.keep λo e=>s₄.extBut _ o D.i12 e;have up:∀c o,g₄.get? c=some o->(g₄.push {cls:=.type "tuple",data:=.seq #[x,y]}).get? c=some o:=λc o e=>Vq _ e;have t₈:IsPair (g₄.push {cls:=.type "tuple",data:=.seq #[x,y]}) g₄.objs.size x y:=VI _ rfl;rw[sz]at t₈;refine Vr ⟨_,rfl,?_⟩;show Q (.ref g₄.objs.size) _;rw[sz];exact hQ _ ⟨_,_,up _ _ z₅,hf⟩ ⟨_,_,up _ _ (kp _ _ D.TOz D.TOi1 D.TOi2 jc)⟩ (p₁.keep λo e=>up _ o e) (q₂.keep λo e=>up _ o e) t₈ λc o n1 n2 n3 n4 e=>up c o (kp c o n1 n3 n4 e)
theorem IE{z TI TO:_O}{a b:_M}{Q:Fin->_N->Prop}(hh:A.handled=none)(D:ZipApart z TI TO i1 i2 l1 l2)(hZ:ZX s.heap z TI TO)(iU:IsPair s.heap TI (.ref i1) (.ref i2))(jc:IsPair s.heap TO a b)(h1:bP b1 s.heap i1 l1 k1)(h2:bP b2 s.heap i2 l2 k2)(qV:fm b1 s.heap l1 xs)(r?:fm b2 s.heap l2 ys)(he:xs[k1]?=none\/ys[k2]?=none)(hE:∀h' e,(∀c o,c≠z->c≠TO->c≠i1->c≠i2->s.heap.get? c=some o->h'.get? c=some o)->(∃o,h'.get? e=some o/\o.cls=.type "StopIteration")->E (.ref e) {s with heap:=h'}):
  wpAny (model prog w) A (Builtin.«zip.__next__» ⟨[.ref z],[]⟩) Q E s:=by
 obtain⟨f0,bb,hz,hf⟩:=hZ;show wpAny _ _ (field (.ref z) 2 >>= _) _ _ _;refine Vp (V_ hz rfl (x:=.bool false) rfl ?_);show wpAny _ _ (field (.ref z) 3 >>= _) _ _ _;refine Vp (V_ hz rfl (x:=.ref TI) rfl (Vp (Wb iU rfl ?_)));show wpAny _ _ (Builtin.SmallTypes.ownedTupleIsFree (.ref z) >>= _) _ _ _;refine Vp (Ay hz hf ?_ λg₁ ff s₁=>?_)
 .simp only[XJ];refine Vp (W! (Vp (V_ hz rfl (x:=.ref TO) rfl (Vp (Wl hz (by simp) λg₁ ff s₁=>?_)))));replace ff:n! g₁ z TI TO .ellipsis (.bool bb):=ff;refine Vp ?_;simp only[YA,YL,XM,XE];refine Vp (Vp (Xh ?_));show wpAny _ _ (Builtin.SmallTypes.nextOf (.ref i1) >>= _) _ _ _;cases hx:xs[k1]? with
  |none=>
   refine Vp (fe (b:=b1) hh (h1.keep λo e=>s₁.extBut _ o D.i1z e) (qV.keep λo e=>s₁.extBut _ o D.l1z e) hx λg₂ e s₂⟨oe,vD,ce⟩=>?_);have z₂:n! g₂ z TI TO .ellipsis (.bool bb):=s₂ _ _ D.i1z.symm ff;have KS:e≠z:=λq=>by subst q;rw[z₂]at vD;cases vD;simp at ce
   exact Wl z₂ (by simp) λg₃ _ s₃=>hE g₃ e (λc o n1 _ n3 _ q=>s₃.extBut _ _ n1 (s₂ _ _ n3 (s₁.extBut _ _ n1 q))) ⟨oe,s₃.extBut _ _ KS vD,ce⟩
  |some x=>
   have hy:ys[k2]?=none:=by
    rcases he with q|q
    .rw[hx]at q;cases q
    .exact q
   refine Vp (cU (b:=b1) (h1.keep λo e=>s₁.extBut _ o D.i1z e) (qV.keep λo e=>s₁.extBut _ o D.l1z e) hx λg₂ q₁ s₂=>Vr ?_);have t₂:IsPair g₂ TO a b:=s₂.extBut _ _ D.TOi1 (s₁.extBut _ _ D.TOz jc);refine Vp (Wb t₂ rfl (Vp (Xb t₂ λg₃ t₃ s₃=>?_)));refine Vp (WL (Vr (Vp (Vp (Xh ?_)))));show wpAny _ _ (Builtin.SmallTypes.nextOf (.ref i2) >>= _) _ _ _;refine Vp (fe (b:=b2) hh (h2.keep λo e=>s₃.extBut _ o D.TOi2.symm (s₂.extBut _ o D.i12.symm (s₁.extBut _ o D.i2z e))) (r?.keep λo e=>s₃.extBut _ o D.l2TO (s₂.extBut _ o D.l2i1 (s₁.extBut _ o D.l2z e))) hy λg₄ e s₄⟨oe,vD,ce⟩=>?_);have z₄:n! g₄ z TI TO .ellipsis (.bool bb):=s₄ _ _ D.i2z.symm (s₃.extBut _ _ D.TOz.symm (s₂.extBut _ _ D.i1z.symm ff));have KS:e≠z:=λq=>by subst q;rw[z₄]at vD;cases vD;simp at ce
   exact Wl z₄ (by simp) λg₅ _ s₅=>hE g₅ e (λc o n1 n2 n3 n4 q=>s₅.extBut _ _ n1 (s₄ _ _ n4 (s₃.extBut _ _ n2 (s₂.extBut _ _ n3 (s₁.extBut _ _ n1 q))))) ⟨oe,s₅.extBut _ _ KS vD,ce⟩
 .simp only[V5,WI];refine Vp ?_;rw[<-Array.forIn_toList];simp only[XM,XE];refine Vp (Vp (Wj ?_));show wpAny _ _ (Builtin.SmallTypes.nextOf (.ref i1) >>= _) _ _ _;cases hx:xs[k1]? with
  |none=>
   exact Vp (fe (b:=b1) hh (h1.keep λo e=>s₁.extBut _ o D.i1z e) (qV.keep λo e=>s₁.extBut _ o D.l1z e) hx λg₂ e s₂ OG=>hE g₂ e (λc o n1 _ n3 _ q=>s₂ _ _ n3 (s₁.extBut _ _ n1 q)) OG)
  |some x=>
   have hy:ys[k2]?=none:=by
    rcases he with q|q
    .rw[hx]at q;cases q
    .exact q
   refine Vp (cU (b:=b1) (h1.keep λo e=>s₁.extBut _ o D.i1z e) (qV.keep λo e=>s₁.extBut _ o D.l1z e) hx λg₂ q₁ s₂=>Vr ?_);refine Vr (Vp (Vp (Wj ?_)));show wpAny _ _ (Builtin.SmallTypes.nextOf (.ref i2) >>= _) _ _ _;exact Vp (fe (b:=b2) hh (h2.keep λo e=>s₂.extBut _ o D.i12.symm (s₁.extBut _ o D.i2z e)) (r?.keep λo e=>s₂.extBut _ o D.l2i1 (s₁.extBut _ o D.l2z e)) hy λg₄ e s₄ OG=>hE g₄ e (λc o n1 _ n3 n4 q=>s₄ _ _ n4 (s₂.extBut _ _ n3 (s₁.extBut _ _ n1 q))) OG)
theorem ZX.ty{z TI TO:_O}(h:ZX s.heap z TI TO):s.TypeIs (.ref z) "zip":=let⟨_,_,hz,_⟩:=h;⟨_,hz,rfl⟩
theorem yR{z TI TO:_O}{x y a b:_M}{Q:_J->_N->Prop}(D:ZipApart z TI TO i1 i2 l1 l2)(hz:ZX s.heap z TI TO)(iU:IsPair s.heap TI (.ref i1) (.ref i2))(jc:IsPair s.heap TO a b)(h1:bP b1 s.heap i1 l1 k1)(h2:bP b2 s.heap i2 l2 k2)(qV:fm b1 s.heap l1 xs)(r?:fm b2 s.heap l2 ys)(hx:xs[k1]?=some x)(hy:ys[k2]?=some y)
  (hQ:∀ h',ZX h' z TI TO->(∃ u v,IsPair h' TO u v)->bP b1 h' i1 l1 (k1+1)->bP b2 h' i2 l2 (k2+1)->IsPair h' s.heap.objs.size x y ->
   (∀c o,c≠z->c≠TO->c≠i1->c≠i2->s.heap.get? c=some o->h'.get? c=some o)->Q (some (.ref s.heap.objs.size)) {s with heap:=h'}):wpAny (model prog w) A (pyNext (.ref z)) Q E s:=by
 unfold pyNext;exact Vp (Xv (Wm (name:=Str.ofString "__next__") hz.ty W7
  (Wr W7 hz.ty Yw (Fj (b1:=b1) (b2:=b2) D hz iU jc h1 h2 qV r? hx hy λh' a1 a2 a3 a4 a5 a6=>Vr (hQ h' a1 a2 a3 a4 a5 a6)) (Yo _))))
theorem B3{z TI TO:_O}{a b:_M}{Q:_J->_N->Prop}(hh:A.handled=none)(D:ZipApart z TI TO i1 i2 l1 l2)(hz:ZX s.heap z TI TO)(iU:IsPair s.heap TI (.ref i1) (.ref i2))(jc:IsPair s.heap TO a b)(h1:bP b1 s.heap i1 l1 k1)(h2:bP b2 s.heap i2 l2 k2)(qV:fm b1 s.heap l1 xs)(r?:fm b2 s.heap l2 ys)(he:xs[k1]?=none\/ys[k2]?=none)(hQ:∀h',(∀c o,c≠z->c≠TO->c≠i1->c≠i2->s.heap.get? c=some o->h'.get? c=some o)->Q none {s with heap:=h'}):wpAny (model prog w) A (pyNext (.ref z)) Q E s:=by
 unfold pyNext;refine Vp (Xv (Wm (name:=Str.ofString "__next__") hz.ty W7
  (Wr W7 hz.ty Yw (IE (b1:=b1) (b2:=b2) hh D hz iU jc h1 h2 qV r? he λh' e hk he=>?_) (Yo _))))
 obtain⟨o,ho,hc⟩:=he;exact Vp (X7 (T:="StopIteration") (b:=true) ⟨o,ho,hc⟩ ZP (Vr (hQ _ hk)))
theorem Fl{z TI TO:_O}(hz:ZX s.heap z TI TO)(h:Q (.ref z) s):wpAny (model prog w) A (pyIter (.ref z)) Q E s:=by have hT:=hz.ty;refine wpAny_pyIter_slot hT F.slot_zip_iter (Wr F.slot_zip_iter hT F.entry_zip_iter ?_ (F.args_zip_iter_1 _));show wpAny _ _ (ret (.ref z)) _ _ s;exact Vr ⟨_,rfl,"zip",_,hT,W7.lookup,h⟩
end
theorem B4{z TI TO:_O}(a b:_O)(ne:z≠TI/\z≠TO/\z≠i1/\z≠i2/\TI≠TO/\TI≠i1/\TI≠i2/\TO≠i1/\TO≠i2/\i1≠i2):
  Turn P w K (.Name nx np) (Sk K b1 b2 a b) [z,TI,TO,i1,i2] z (λi h=>ZX h z TI TO/\IsPair h TI (.ref i1) (.ref i2)/\(∃u v,IsPair h TO u v)/\bP b1 h i1 a i/\bP b2 h i2 b i) where
 mem:=by simp
 obj:=λi h⟨hz,iU,⟨u,v,jc⟩,h1,h2⟩c hc=>by
  have cz:c=z\/c=TI\/c=TO\/c=i1\/c=i2:=by simpa using hc
  rcases cz with rfl|rfl|rfl|rfl|rfl
  .obtain⟨_,_,hz,_⟩:=hz;exact⟨_,hz,λv q=>by have q':Data.fields _=Data.cell v:=q;cases q'⟩
  .exact⟨_,iU,λv q=>by have q':Data.seq _ _=Data.cell v:=q;cases q'⟩
  .exact⟨_,jc,λv q=>by have q':Data.seq _ _=Data.cell v:=q;cases q'⟩
  .obtain⟨o,n,vs,e,_,d⟩:=h1.there;exact⟨o,e,λv q=>by rw[d]at q;cases q⟩
  .obtain⟨o,n,vs,e,_,d⟩:=h2.there;exact⟨o,e,λv q=>by rw[d]at q;cases q⟩
 keep:=λi h h'⟨hz,iU,⟨u,v,jc⟩,h1,h2⟩k=>⟨(let⟨f0,b,hz,hf⟩:=hz;⟨f0,b,k z (by simp) _ hz,hf⟩),k TI (by simp) _ iU,⟨u,v,k TO (by simp) _ jc⟩,h1.keep λo e=>k i1 (by simp) o e,h2.keep λo e=>k i2 (by simp) o e⟩
 item:=by
  intro X hP hw hK hc i ae s σ H E I hf st hg;subst hP hw hK;obtain⟨hz,iU,⟨u,v,jc⟩,h1,h2⟩:=st;obtain⟨xs,ys,x,y,sx,sy,ex,ey⟩:=hg;obtain⟨aI,rv,p,_⟩:=I.Cp sx;obtain⟨dD,Dg,p2,_⟩:=I.Cp sy;obtain⟨ux,Sl,rx⟩:=rv.get ex;obtain⟨uy,Sm,ry⟩:=Dg.get ey;obtain⟨n1,n2,n3,n4,n5,n6,n7,n8,n9,KU⟩:=ne;have fz:=hf z (by simp);have cK:∀{b:Bool}{l:_O}{zs:List V},vF b X.K H l zs->∀c∈[z,TI,TO,i1,i2],l≠c:=λ{b l zs}hs c cz=>I.zK hs (hf c cz);have D:ZipApart z TI TO i1 i2 a b:=⟨n1.symm,n2.symm,n3.symm,n4.symm,n5,n6,n7,n8,n9,KU,cK sx z (by simp),cK sx TO (by simp),cK sx i1 (by simp),cK sx i2 (by simp),cK sy z (by simp),cK sy TO (by simp),cK sy i1 (by simp),cK sy i2 (by simp)⟩
  refine yR (b1:=b1) (b2:=b2) D hz iU jc h1 h2 p p2 (x:=ux) (y:=uy) (by simpa using Sl) (by simpa using Sm) λh' a1 a2 a3 a4 a5 a6=>⟨_,rfl,?_⟩
  have hT:H s.heap.objs.size=none:=I.b?.fresh (Vy _);have KW:∀c∈[z,TO,i1,i2],H c=none:=λc cz=>(hf c (by simp at cz⊢;rcases cz with q|q|q|q<;>simp[q])).1;have kp:∀c o,c ∉ [z,TO,i1,i2]->s.heap.get? c=some o->h'.get? c=some o:=λc o cz e=>a6 c o (λq=>cz (by simp[q])) (λq=>cz (by simp[q])) (λq=>cz (by simp[q])) (λq=>cz (by simp[q])) e;have rW:∀c o,H c=some o->c ∉ [z,TO,i1,i2]:=λc o e cz=>by rw[KW c cz]at e;cases e
  have b?:iQ X.prog X.w (upd H s.heap.objs.size (.tup [x,y])) h':=λc o e=>by
   by_cases OL:c=s.heap.objs.size
   .subst OL;rw[cg]at e;cases e;exact⟨by show 2<=sizeLine;decide,[ux,uy],.cons rx (.cons ry .nil),_,a5,rfl,_,rfl⟩
   .rw[a8 OL]at e;refine(I.b? c o e).k_ (λd v hd q=>kp d v ?_ q) (λd q=>by rw[a8 (bc q hT)];exact q) λd zs q=>by rw[a8 (bc q hT)];exact q
    rcases hd with q'|q'
    .rw[q'];exact rW c o e
    .exact rW d _ q'
  have un:Un (gy X.stack) [z,TO,i1,i2] H (upd H s.heap.objs.size (.tup [x,y])) s.heap h':=
   ⟨λc o e n _ cz=>kp c o cz e,λc o e n _ cz=>⟨o.slots,kp c o cz e⟩,λc o e n cz=>by rw[a8 (VX (Vz e))];exact n,λc o e cz=>⟨o,kp c o cz e⟩,
    λc zs e=>by rw[a8 (bc e hT)];exact e,λc o u e=>by rw[a8 (bc e hT)];exact e,λc ps e=>⟨#[],by rw[a8 (bc e hT),e];simp⟩⟩
  have I1:aM X ae σ (upd H s.heap.objs.size (.tup [x,y])) {s with heap:=h'}:=I.rY rfl un b? I.bare λc cz=>by obtain⟨f0,f1,f2,f3,f4,f5⟩:=hf c (by simp at cz⊢;rcases cz with q|q|q|q<;>simp[q]);exact⟨f3,f1,f4,f5⟩
  have Sn:∀c∈[z,TI,TO,i1,i2],c≠s.heap.objs.size:=λc cz q=>by
   have lG:c<s.heap.objs.size:=by
    have KY:c=z\/c=TI\/c=TO\/c=i1\/c=i2:=by simpa using cz
    rcases KY with r|r|r|r|r
    .rw[r];exact(let⟨_,_,hz,_⟩:=hz;Vz hz)
    .rw[r];exact Vz iU
    .rw[r];exact Vz jc
    .obtain⟨o,_,_,e,_⟩:=h1.there;rw[r];exact Vz e
    .obtain⟨o,_,_,e,_⟩:=h2.there;rw[r];exact Vz e
   exact absurd lG (by rw[q];exact V9 _)
  have KZ:∀c∈[z,TI,TO,i1,i2],(upd H s.heap.objs.size (.tup [x,y])) c=none:=λc cz=>by rw[a8 (Sn c cz)];exact(hf c cz).1
  refine Vr ⟨.ref s.heap.objs.size,_,I1,rfl,⟨_,x,y,rfl,hT,rfl,λzs hs=>by rw[I.oO hs sx];exact ex,λzs hs=>by rw[I.oO hs sy];exact ey⟩,⟨a1,a6 _ _ n1.symm n5 n6 n7 iU,a2,a3,a4⟩,KZ⟩
 done:=by
  intro X hP hw hK hc i ae s σ H E I hf st hg;subst hP hw hK;obtain⟨hz,iU,⟨u,v,jc⟩,h1,h2⟩:=st;obtain⟨xs,ys,sx,sy,hl⟩:=hg;obtain⟨aI,rv,p,_⟩:=I.Cp sx;obtain⟨dD,Dg,p2,_⟩:=I.Cp sy;have l1:=rv.length;have l2:=Dg.length;obtain⟨n1,n2,n3,n4,n5,n6,n7,n8,n9,KU⟩:=ne;have cK:∀{b:Bool}{l:_O}{zs:List V},vF b X.K H l zs->∀c∈[z,TI,TO,i1,i2],l≠c:=λ{b l zs}hs c cz=>I.zK hs (hf c cz);have D:ZipApart z TI TO i1 i2 a b:=⟨n1.symm,n2.symm,n3.symm,n4.symm,n5,n6,n7,n8,n9,KU,cK sx z (by simp),cK sx TO (by simp),cK sx i1 (by simp),cK sx i2 (by simp),cK sy z (by simp),cK sy TO (by simp),cK sy i1 (by simp),cK sy i2 (by simp)⟩
  refine B3 (b1:=b1) (b2:=b2) (I.ok.hd hc) D hz iU jc h1 h2 p p2 (by rcases hl with q|q;exact .inl (by simp;lia);exact .inr (by simp;lia)) λh' a6=>⟨rfl,?_⟩
  have KW:∀c∈[z,TO,i1,i2],H c=none:=λc cz=>(hf c (by simp at cz⊢;rcases cz with q|q|q|q<;>simp[q])).1;have kp:∀c o,c ∉ [z,TO,i1,i2]->s.heap.get? c=some o->h'.get? c=some o:=λc o cz e=>a6 c o (λq=>cz (by simp[q])) (λq=>cz (by simp[q])) (λq=>cz (by simp[q])) (λq=>cz (by simp[q])) e;have rW:∀c o,H c=some o->c ∉ [z,TO,i1,i2]:=λc o e cz=>by rw[KW c cz]at e;cases e
  have b?:iQ X.prog X.w H h':=λc o e=>by
   refine(I.b? c o e).k_ (λd v hd q=>kp d v ?_ q) (λd q=>q) λd zs q=>q;rcases hd with q'|q'
   .rw[q'];exact rW c o e
   .exact rW d _ q'
  have un:Un (gy X.stack) [z,TO,i1,i2] H H s.heap h':=
   ⟨λc o e n _ cz=>kp c o cz e,λc o e n _ cz=>⟨o.slots,kp c o cz e⟩,λc o e n cz=>n,λc o e cz=>⟨o,kp c o cz e⟩,λc zs e=>e,λc o u e=>e,λc ps e=>⟨#[],by rw[e];simp⟩⟩
  exact I.rY rfl un b? I.bare λc cz=>by obtain⟨f0,f1,f2,f3,f4,f5⟩:=hf c (by simp at cz⊢;rcases cz with q|q|q|q<;>simp[q]);exact⟨f3,f1,f4,f5⟩
 self:=λ_ _ _ _ _ st h=>Fl st.1 h
section
variable{p:Pos}
theorem IF(b1 b2:Bool){ea:Expr}{ta:TA}(hg:Gl X "zip")(hm:X.mg "zip" = none)(ha:PA X [ea,eb] ta)(hs:starEach [ea,eb] X.env=[(false,eval ea X.env),(false,eval eb X.env)]:=by rfl)(fU:starEach [eb] X.env=[(false,eval eb X.env)]:=by rfl):
  PI X (.Name nx np) (.Call (.Name "zip" p) [ea,eb] [] pos) (OM X.K b1 b2 ta):=by
 intro ae s σ H R I h;refine Call_ (kA I hg hm boot_zip (Xr (dA (ha pos ae s σ H _ I h) λus s1⟨vs,H1,I1,r1,q1⟩=>?_) (by rw[hs,fU]) (by rw[fU];rfl)));obtain⟨a,b,e,⟨xs,sx⟩,⟨ys,sy⟩,q⟩:=q1;subst e;obtain⟨u,u2,rfl,ru,GH⟩:=vals2 r1;cases ru;cases GH;obtain⟨aI,rv,p1,_⟩:=I1.Cp sx;obtain⟨dD,Dg,p2,_⟩:=I1.Cp sy;refine vE (b1:=b1) (b2:=b2) p1 p2 λh' hz iU jc g1 g2 kp=>Zb hz ?_;have I2:aM X ae σ H1 {s1 with heap:=h'}:=I1.kept (t':=s1.toks) kp;refine⟨_,[s1.heap.objs.size+4,s1.heap.objs.size+2,s1.heap.objs.size+3,s1.heap.objs.size,s1.heap.objs.size+1],_,_,H1,rfl,I2,B4 (b1:=b1) (b2:=b2) a b ?_,⟨⟨_,_,hz,.inl rfl⟩,iU,⟨_,_,jc⟩,g1,g2⟩,λc hc=>?_,q⟩
 .refine⟨?_,?_,?_,?_,?_,?_,?_,?_,?_,?_⟩<;>(intro z;have z':(_:Nat)=_:=z;lia)
 .have hle:s1.heap.objs.size<=c:=by
   have cz:c=s1.heap.objs.size+4\/c=s1.heap.objs.size+2\/c=s1.heap.objs.size+3\/c=s1.heap.objs.size\/c=s1.heap.objs.size+1:=by simpa using hc
   rcases cz with r|r|r|r|r<;>(rw[r];first|exact Vy _|exact YY _ _)
  exact I1.CF hle (I1.b?.fresh hle)
end
end L2
namespace MN
open PySem.Spec L2
open PyProof.Rows hiding St kindOf
theorem IG(b1 b2:Bool){p:Pos}{ea:Expr}{m:MA}(hg:Gl X "zip")(hm:X.mg "zip" = none)(ha:PA X [ea,eb] (tL X E m))(hs:starEach [ea,eb] X.env=[(false,eval ea X.env),(false,eval eb X.env)]:=by rfl)(fU:starEach [eb] X.env=[(false,eval eb X.env)]:=by rfl):
  PI X (.Name nx np) (.Call (.Name "zip" p) [ea,eb] [] pos) (tI X E (gD b1 b2 m)):=by
 refine PI.imp (IF b1 b2 hg hm ha hs fU) ?_;rintro σ H R ⟨μ,ρ,st,rs,sr,h⟩;refine go (R1:=bj X.K) μ ρ st rs sr h λus a7 ρ1 H1 xs e1 cA r1 h1=>?_;split at h1
 .rename_i u w;obtain⟨x,y,rfl,rx,ry⟩:=r1.QN;split at h1
  .rename_i c1 LJ g1 c2 SK g2 z1 z2;split at h1
   .rename_i hc;obtain⟨rfl,rfl⟩:=hc;obtain⟨a,rfl,ka⟩:=oR cA rx z1 λs g h=>bh s g h;obtain⟨b,rfl,kb⟩:=oR cA ry z2 λs g h=>bh s g h;obtain⟨v1,q1,_⟩:=ka ρ1 a7 H1 (aF.refl _ _) cA (uh z1);obtain⟨v2,q2,_⟩:=kb ρ1 a7 H1 (aF.refl _ _) cA (uh z2);refine⟨a,b,rfl,⟨v1,q1⟩,⟨v2,q2⟩,h1 ρ1 H1 _ (aF.refl _ _) cA ?_⟩;intro ρ' az H' e s g i;obtain⟨w1,s1,t1⟩:=ka ρ' az H' e s g.1;obtain⟨w2,s2,t2⟩:=kb ρ' az H' e s g.2;obtain⟨k1,k2⟩:=ug LJ SK i;refine⟨λz hz=>?_,λhi=>⟨w1,w2,s1,s2,?_⟩⟩
    .obtain⟨u',w',LK,SM,rfl⟩:=k1 z hz;obtain⟨p1,p2,p3⟩:=t1.get LK;obtain⟨o1,o2,o3⟩:=t2.get SM;refine⟨⟨w1,w2,p1,o1,s1,s2,p2,o2⟩,λx' QS y'=>?_⟩;obtain⟨pp,x1,y1,rfl,hp,rfl,f1,f2⟩:=y';have c1:=(f1 w1 s1).symm.trans p2;have c2:=(f2 w2 s2).symm.trans o2;cases c1;cases c2;exact⟨aF.same (c7 hp),s.grow (c7 hp),Rl.lH cg (bj.mono (aF.same (c7 hp)) _ _ (bj.cons p3 (bj.one o3)))⟩
    .rw[<-t1.length,<-t2.length];exact k2 hi
   .exact h1.elim
  .exact h1.elim
 .exact h1.elim
end MN
namespace SO
open PySem.W PyProof.Rows
section
variable{E:_D}{s:_N}{l:_O}{us:_I}
theorem IH(hh:A.handled=none)(hl:s.heap.IsList l us.toArray)(ia:IntsAre us ns)(ri:ns≠[])(h:∀t h' tk,(∀b o,s.heap.get? b=some o->h'.get? b=some o)->Q (.int (jI (λi=>ns.getD i 0) (ns.length-1)) t) {s with heap:=h',toks:=tk}):
  wpAny (model prog w) A (call (.builtin "min") [.ref l]) Q E s:=by
 obtain⟨xs,ex,sx,nx⟩:=qi ia;rw[ex]at hl;have lG:l<s.heap.objs.size:=by obtain⟨_,e,_⟩:=id hl;exact Vz e
 have MJ:0<xs.size:=by
  rw[sx];cases ns with
  |nil=>exact absurd rfl ri
  |cons=>exact YO _
 refine call_min_walk (Xy hl ?_);refine⟨_,[_,l],[_],_,_,_,_,rfl,ZQ (A:=A.in1) hh _ l (VX lG) (intItems xs),
  ⟨⟨_,VI _ rfl,rfl,rfl⟩,hl.push _⟩,λc hc=>?_,by simpa[intItems]using MJ,CmpOf.ints_lt (numAt xs) (λ_ _=>Zg),λv h' tk hP hk=>?_⟩
 .show c<(s.heap.push _).objs.size;rw[WO];rcases VO.mp hc with rfl|hc
  .exact Xd _
  .rcases VO.mp hc with rfl|hc
   .exact Xs lG
   .cases hc
 .have hold:∀c o,s.heap.get? c=some o->h'.get? c=some o:=λc o e=>by
   refine hk c o (λhm=>?_) (Vq _ e);rcases VO.mp hm with e1|hm
   .have:=Vz e;rw[e1]at this;exact V9 _ this
   .cases hm
  obtain⟨t,rfl⟩:=Zg hP;have ev:numAt xs (argBest (λi j=>decide (numAt xs i<numAt xs j)) ((intItems xs).size-1))=jI (λi=>ns.getD i 0) (ns.length-1):=by rw[jJ (numAt xs),show(intItems xs).size-1=ns.length-1 by rw[<-sx];simp[intItems]];exact kL λi _=>nx i
  rw[ev];exact h t h' tk hold
end
end SO
namespace L2
open PySem.Spec PyProof.Rows
open PySem.Builtin PySem.Builtin.Str
section
variable{o e:Expr}{to:TE}
theorem yS(hh:X.A.handled=none):bp X (.builtin "min") (λxs H Q=>∃a ns,xs=[.ref a]/\kf X.K H a (ns.map V.int)/\ns≠[]/\Q (.int (SO.jI (λi=>ns.getD i 0) (ns.length-1))) H):=by rintro ae s σ H xs ws Q I r ⟨a,ns,rfl,ha,ri,q⟩;obtain⟨u,rfl,ru⟩:=vals1 r;cases ru;obtain⟨aI,r1,p1,_⟩:=I.list ha;exact SO.IH hh p1.isList (g9 r1) ri λt h' tk kp=>⟨.int _,H,I.kept kp,⟨t,rfl⟩,q⟩
end
end L2
namespace MN
open PySem.Spec L2
open PyProof.Rows hiding St kindOf
def yT:FN
 |[.loc n],st=>match ar st n with
  |some us=>match gG us with
   |some (n::ns)=>.ok (.int (SO.jI (λi=>(n::ns).getD i 0) ns.length)) st
   |_=>.bad
  |none=>.bad
 |_,_=>.bad
section
variable{o e i:Expr}{me mi:ME}
theorem yU(hh:X.A.handled=none):bp X (.builtin "min") (cM (wo X) E yT):=by
 refine bp.imp (yS hh) ?_;rintro xs H Q ⟨ρ,st,us,sr,r,h⟩;unfold yT at h;split at h
 .rename_i n;obtain⟨v,rfl,r1⟩:=r.sj;split at h
  .rename_i ws hw;split at h
   .rename_i n ns hk;obtain⟨a,rfl,ha⟩:=r1.dO;obtain⟨vs,hs,rv⟩:=bh sr hw ha;rw[iI hk]at rv;rw[bj.lV rv]at hs;exact⟨a,n::ns,rfl,hs,by simp,c! sr h⟩
   .exact h.elim
  .exact h.elim
 .exact h.elim
end
end MN
namespace PM
open PySem.Spec L2 MN
open PyProof.Rows hiding St
def lY:FN:=gf 1 1 (aK (aO 2 [] (bQ aE) (bU [(aq 0),(aq 1)]) aw (cQ (aa aE (aa (ue aW) aj)))))
def bB:FN:=gf 1 1 (aK (ai gY (aa (aO 1 [0] (b_ (aa (ai cZ (aa (ag aU (ag aU aE bI) bI) aj)) aj)) (aq 0) aw (ai yT (aa (aO 2 [0] (bQ aW) (bU [(aq 0),(aq 1)]) aw (ag aU aE bK)) aj))) aj)))
def du:FN:=gf 2 5 (aA (fL (eV (ck (ag gB (ai cZ (aa aE aj)) dJ)) (ck (ag gB (ai cZ (aa aW aj)) dJ))) (aK (df (aa (cQ (aa (ag rn (cQ (aa bI aj)) (ai cZ (aa (ag aU (ag aU aE bI) bI) aj))) (aa dJ aj))) aj))) bz) MP)
def j2:FN:=gf 1 1 (aK (OT (pK (ck (ag GX (ai cZ (aa aE aj)) bI)) (ck (ag ltV (ag aU (ag aU aE bI) dJ) bI))) (ai PM.lY (aa aE aj)) (ai fw (aa aE aj))))
def fQ:FN:=gf 3 3 (aK (aO 2 [1,2] (bQ aE) (bU [(aq 0),(aq 1)]) aw (cQ (aa (ai PM.joined (aa aE (aa bK aj))) (aa (ag dg aW c5) aj)))))
def dZ:FN:=gf 2 3 (aA (fL (eV (ck (ag gB aE (df aj))) (ck (ag gB aW (df aj)))) (aK (aO 1 [] (bQ (ag cq aE aW)) (aq 0) aw (cQ (aa (ag aU aE bI) (aa (ai lK (aa (ag aU aE dJ) aj)) aj))))) bz) (aA (aN 2 (ai gY (aa (aO 1 [0,1] (b_ (aa (ai cZ (aa (ag aU (ag aU aE bI) bI) aj)) aj)) (aq 0) aw (ai wJ (aa (ag aU (ag aU (ag aU aW bI) bI) aE) (aa (ag aU (ag aU (ag aU bK bI) bI) aE) aj)))) aj))) (aK (df (aa (cQ (aa bK (aa (ai PM.e! (aa (ag aU (ag aU aE bI) dJ) (aa (ag aU (ag aU aW bI) dJ) aj))) aj))) aj)))))
def bare:FN:=gf 2 3 (aA (aN 2 (ai PM.bo (aa aE aj))) (aK (aO 2 [1,2] (bQ aE) (bU [(aq 0),(aq 1)]) aw (cQ (aa (ai PM.d9 (aa aE (aa bK aj))) (aa (ag eO aW c5) aj))))))
def gQ:FN:=gf 5 9 (aA (fL (eV (cH (ck (vP "tuple" bK))) (ck (ag gC (ai cZ (aa bK aj)) Bd))) (aK (mC (.bl false))) bz) (aA (d5 (bQ bK) (aq 5) (fL (cH (ck (ai PM.cf (aa kY (aa fV aj))))) (aK (mC (.bl false))) bz)) (aA (d5 (bQ (ag aU bK so)) (bU [(aq 6),(aq 7)]) (fL (ck (ag gC (ag aU oP c5) bI)) (aK (mC (.bl false))) bz)) (aA (aN 8 (ai PM.iN (aa (ai PM.bX (aa (ag aU bK bI) (aa aE aj))) (aa (ai PM.bX (aa (ag aU bK dJ) (aa aW aj))) aj)))) (aK (q9 (ag gC (ag aU bK so) (df aj)) (ag gB oQ (ag aU bK so))))))))
def fH:FN:=gf 2 7 (aA (aN 2 (ai PM.bL (aa (df (aa (ai PM.bo (aa aE aj)) (aa (ai PM.bo (aa aW aj)) aj))) aj))) (aA (aN 3 (ai PM.bB (aa aE aj))) (aA (aN 4 (ai PM.bB (aa aW aj))) (aA (aN 5 (ai gY (aa (aO 1 [] (gD false false (aa c5 (aa fV aj))) (aq 0) aw (ai wU (aa aE aj))) aj))) (aA (aN 6 (ai PM.du (aa (ai PM.bare (aa aE (aa c5 aj))) (aa (ai PM.bare (aa aW (aa fV aj))) aj)))) (aK (ai PM.fQ (aa oP (aa kY (aa bK aj))))))))))
def eT:FN:=gf 3 10 (aA (aN 3 (ai PM.constant (aa bI (aa (ai cZ (aa (ag aU (ag aU (ag cq aE aW) bI) bI) aj)) (aa dJ aj))))) (aA (fL (ck (ag gB (ai PM.iJ (aa aE (aa bK aj))) bI)) (aK (cQ (aa c5 (aa (df aj) (aa (ai fw (aa aE aj)) aj))))) bz) (aA (fL (ck (ag gB (ai PM.iJ (aa aW (aa bK aj))) bI)) (aK (cQ (aa (df aj) (aa c5 (aa (ai fw (aa aW aj)) aj))))) bz) MP)))
def cW:FN:=gf 2 3 (aA (fL (pK (ck (ag gB (ai cZ (aa aE aj)) bI)) (ck (ag gB (ai cZ (aa aW aj)) bI))) (mQ "NoMeet" (aa (qs "two noughts have no greatest divisor") aj)) bz) (aA (fL (eV (ck (ag gB (ai cZ (aa aE aj)) bI)) (ck (ag gB (ai cZ (aa aW aj)) bI))) (aN 2 (ai PM.j2 (aa (ag cq aE aW) aj))) (aN 2 (ai PM.fH (aa aE (aa aW aj))))) (aK (cQ (aa bK (aa (ai PM.br (aa aE (aa bK aj))) (aa (ai PM.br (aa aW (aa bK aj))) aj)))))))
def common:FN:=gf 2 4 (aA (aN 2 (ai PM.cW (aa aE (aa aW aj)))) (aA (aN 3 (aO 1 [2] (b_ (aa (ai cZ (aa (ag aU (ag aU (ag aU bK bI) bI) bI) aj)) aj)) (aq 0) aw (ai PM.eT (aa (ag aU aW dJ) (aa (ag aU aW so) (aa aE aj)))))) (aK (cQ (aa (ag aU bK bI) (aa (ag aU bK dJ) (aa (ag aU bK so) (aa c5 aj))))))))
end PM
namespace qm
open PySem.Spec L2 MN PG
open PyProof.Rows hiding St kindOf
theorem Ext.m?{s:af}:Ext s s:=⟨Vy _,λ_ _ h=>h⟩
theorem Ext.trans{a b c:af}(h:Ext a b)(k:Ext b c):Ext a c:=⟨V7 h.1 k.1,λn x q=>k.2 n x (h.2 n x q)⟩
theorem Ext.app(s g:af):Ext s (s++g):=⟨by rw[VC];lia,λn c e=>dC e g⟩
theorem Ext.ap{s:af}(h:Ap s s'):Ext s s':=⟨h.len,λn c e=>h.at e⟩
theorem Ext.new{s:af}(h:wX s s' k D):Ext s s':=Ext.ap h.1
theorem put(s:af)(us:List ak):∃s',s'=s++[bx.lst us]/\Ext s s'/\s'[s.length]?=some (.lst us)/\s'.length=s.length+1:=⟨_,rfl,Ext.app _ _,fD _ _,by rw[VC];rfl⟩
theorem lZ{α:Type}{g:af->Prop}{a:AS}{e:ME}{s0:af}(hg:∀s,Ext s0 s->g s)(I:MN.Env->Prop)(val f:α->ak):∀(us:List α)(τ:MN.Env)(s:af)(ys:List ak),I τ->Ext s0 s ->
  (∀u∈us,∀τ s,I τ->Ext s0 s->∃τ1,a (val u) τ=some τ1/\I τ1/\∃s',e τ1 s=.ok (f u) s'/\Ext s s')->∃s',bN g a aw e (us.map val) τ s ys=.ok (ys++us.map f) s'/\Ext s s'
 |[],τ,s,ys,_,F,_=>⟨s,by
   rw[VQ];unfold bN;rw[VA (hg s F)];simp,Ext.m?⟩
 |u::us,τ,s,ys,hI,F,hs=>by obtain⟨τ1,h1,h2,s1,e1,F1⟩:=hs u Vu τ s hI F;obtain⟨s2,e2,F2⟩:=lZ hg I val f us τ1 s1 (ys++[f u]) h2 (Ext.trans F F1) λv hv=>hs v (VJ u hv);rw[Vv];unfold bN;rw[VA (hg s F),h1];dsimp only[aw];rw[e1];dsimp only;exact⟨s2,by rw[e2,VU];rfl,Ext.trans F1 F2⟩
section
variable{s:af}{p:Nat}{u:aC}{low:_H}
theorem qo(h:s[p]?=some (.lst (D.map tV)))(hl:D.length<=1000000):PM.bo [.loc p] s=.ok (.int (j_ 0 (D.map (·.2)):Nat)) (s++[.lst ((D.map (·.2)).map ak.int)]):=by
 have c:=yz (av h) hl;unfold PM.content at c;rw[aZ (np:=1) (us:=[ak.loc p]) rfl]at c;have e:(aK (ai PM.bo (aa aE aj)) [some (.loc p)] s).fin=PM.bo [.loc p] s:=by rw[aQ,aR (dY (v:=.loc p) (s1:=s) rfl)];cases PM.bo [.loc p] s<;>rfl
 exact e.symm.trans c
theorem yV(h:s[p]?=some (.lst (D.map tV)))(hl:D.length<=1000000):PM.lY [.loc p] s=.ok (.loc s.length) (s++[.lst ((chg (λn => -n) D).map tV)]):=by
 have cp:=EL (μ:=[some (.loc p)]) (m:=aE) (s:=s) (s1:=s) (k:=2) (caps:=[]) (a:=bU [aq 0,aq 1]) (e:=cQ (aa aE (aa (ue aW) aj))) (g:=λn => -n) (λτ=>∃x y,τ=[x,y]) rfl (av h) hl ⟨none,none,rfl⟩ (by
  rintro t ht τ ⟨x,y,rfl⟩;exact⟨[some (au t.1),some (.int t.2)],rfl,⟨_,_,rfl⟩,i? (gu (v:=au t.1) (s1:=s) rfl (w:=.int (-t.2)) (s2:=s) rfl) (by show 2<=1000;decide)⟩)
 unfold PM.lY;rw[aZ (np:=1) (us:=[ak.loc p]) rfl];show(aK (aO 2 [] (bQ aE) (bU [aq 0,aq 1]) aw (cQ (aa aE (aa (ue aW) aj)))) [some (.loc p)] s).fin=_;rw[aQ,cp];rfl
theorem qp(h:s[p]?=some (.lst [tV t])):∃s',PM.j2 [.loc p] s=.ok (.loc s.length) s'/\Ext s s'/\s'[s.length]?=some (.lst [tV (t.1,(t.2.natAbs:Int))]):=by
 have kl:cZ [.loc p] s=.ok (.int 1) s:=d6 (av h);have d:decide ((1:Int)>0)=true:=rfl;have i0:=gM (l:=t) (B:=[]) h;have i1:aU (tV t) (.int 1) s=.ok (.int t.2) s:=bE (L2.d0 (xs:=[au t.1,.int t.2]) (j:=1) rfl);cases c:decide (t.2<0) with
 |true=>
  have l:=yV (D:=[t]) h (by show 1<=1000000;decide);refine⟨_,?_,Ext.app _ _,by
   have:=Xq c;rw[show(t.2.natAbs:Int) = -t.2 by lia];exact fD _ _⟩
  simp![PM.j2,kl,d,i0,i1,c,l];rfl
 |false=>
  have l:=i_ (av h);refine⟨_,?_,Ext.app _ _,by
   have:=Z0 c;rw[show(t.2.natAbs:Int)=t.2 by lia];exact fD _ _⟩
  simp![PM.j2,kl,d,i0,i1,c,l]
theorem s?(e:_H):((eG 0 e.length).map λi=>ak.int (e.getD i.toNat 0))=e.map ak.int:=by unfold eG;rw[VR];refine ZA (by rw[Vs,V!,Vs]) λi h1 h2=>?_;rw[Vs]at h2;rw[XX,Z_,XX];show ak.int (e.getD (0+(i:Int)).toNat 0)=_;rw[show(0+(i:Int)).toNat=i by lia,Ww,Vx h2];rfl
theorem tf(h:s[p]?=some (.lst [tV t]))(hl:t.1.length<=1000):∃s',PM.bB [.loc p] s=.ok (au t.1) s'/\Ext s s':=by
 have i0:=gM (l:=t) (B:=[]) h;have i1:aU (tV t) (.int 0) s=.ok (au t.1) s:=bE (L2.d0 (xs:=[au t.1,.int t.2]) (j:=0) rfl);obtain⟨L,hL⟩:=NE ((t.1.length:Int):Int)
 have kl:cZ [au t.1] s=.ok (.int L) s:=by rw[hL];show cL.ok (ak.int ((t.1.map ak.int).length:Nat)) s=_;rw[Vs]
 obtain⟨s1,ec,F1⟩:=lZ (g:=λ_=>True) (a:=aq 0) (e:=ai yT (aa (aO 2 [0] (bQ aW) (bU [aq 0,aq 1]) aw (ag aU aE bK)) aj)) (s0:=s) (λ_ _=>trivial) (λτ=>∃z,τ=[z,some (.loc p)]) ak.int (λi=>ak.int (t.1.getD i.toNat 0)) (eG 0 t.1.length) [none,some (.loc p)] s [] ⟨none,rfl⟩ Ext.m? (by
  rintro i mi τ s' ⟨z,rfl⟩ F;have bi:0<=i/\i<(t.1.length:Int):=by unfold eG at mi;obtain⟨j,hj,rfl⟩:=VP.mp mi;have:=XR.mp hj;lia
  have hp:=F.2 _ _ h;have ix:aU (au t.1) (.int i) s'=.ok (.int (t.1.getD i.toNat 0)) s':=bE (at_getD bi.1 bi.2);have c1:=jX (g:=λaz=>ar az p=some [tV t]) (a:=bU [aq 0,aq 1]) (e:=ag aU aE bK) (st:=s') (av hp) (λτ=>∃x y,τ=[x, y, qI i]) tV (λ(r:aC)=>.int (t.1.getD i.toNat 0)) [t] [qn, qn, qI i] [] ⟨_,_,rfl⟩ (by
   rintro r mr τ ⟨x,y,rfl⟩;rw[VZ.mp mr];exact⟨[some (au t.1),some (.int t.2),some (.int i)],rfl,⟨_,_,rfl⟩,by
    have v0:aE [some (au t.1), qI t.2, qI i] s'=.ok (au t.1) s':=rfl;rw[bF v0 (y:=.int i) (s2:=s') rfl,ix]⟩)
  rw[VB]at c1;refine⟨[some (.int i),some (.loc p)],rfl,⟨_,rfl⟩,s'++[.lst [.int (t.1.getD i.toNat 0)]],?_,Ext.app _ _⟩;have kF:fK 2 [0] [some (ak.int i),some (.loc p)]=[qn, qn, qI i]:=rfl;have v1:aW [some (ak.int i),some (.loc p)] s'=.ok (.loc p) s':=rfl;have comp:aO 2 [0] (bQ aW) (bU [aq 0,aq 1]) aw (ag aU aE bK) [some (.int i),some (.loc p)] s'=.ok (.loc s'.length) (s'++[.lst [.int (t.1.getD i.toNat 0)]]):=by rw[cJ,cy,v1,ao,bH (av hp),ao,dn,VA (by rw[VF];show 1<=_;decide),kF];show(bN (λaz=>ar az p=some [tV t]) (bU [aq 0,aq 1]) aw (ag aU aE bK) ([t].map tV) [qn, qn, qI i] s' []).f9 _=_;rw[c1,ao,eQ];rfl
  rw[aR (dY comp)];unfold yT;dsimp only;rw[bS];rfl)
 rw[VB,s?]at ec;have F2:Ext s1 (s1++[.lst (t.1.map ak.int)]):=Ext.app _ _;refine⟨_,?_,Ext.trans F1 F2⟩;have kF:fK 1 [0] [some (ak.loc p)]=[none,some (.loc p)]:=rfl;have rg:um [.int L] s=.ok ((eG 0 t.1.length).map ak.int,λ_=>True) s:=by have:=iY (st:=s) (j:=L) ⋯ ⋯;rw[dk,show L.toNat=t.1.length by lia]at this;exact this
 have rl:((eG 0 t.1.length).map ak.int).length<=16777216:=by unfold eG;rw[Vs,Vs,V!];lia
 have tp:=iZ (bS s1 (t.1.map ak.int));unfold PM.bB;generalize ai yT _=B at ec⊢;simp![dn,cJ,VF,i0,i1,kl,rg,kF,ec,VA rl,tp];rfl
theorem uN(e:_H)(s:af):cZ [au e] s=.ok (.int (e.length:Int)) s:=by show cL.ok (ak.int ((e.map ak.int).length:Nat)) s=_;rw[Vs]
theorem Az(h:s[p]?=some (.lst [tV t]))(hz:t.2≠0)(ht:ic 140 t.2)(hl:t.1.length<=100)(ll:low.length=t.1.length):∃k u s',PM.bare [.loc p,au low] s=.ok (.loc k) s'/\Ext s s'/\s'[k]?=some (.lst [tV u])/\u.1.length=t.1.length:=by
 have c0:=qo (D:=[t]) h (by show 1<=1000000;decide);obtain⟨s1,e1,F1,l1,_⟩:=put s (([t].map (·.2)).map ak.int);rw[<-e1]at c0;obtain⟨N,hN⟩:=NE ((j_ 0 ([t].map (·.2)):Nat):Int)
 rw[<-hN]at c0;have eN:N=(t.2.natAbs:Int):=by rw[hN];show((Nat.gcd 0 t.2.natAbs:Nat):Int)=_;rw[Yc]
 have dz:Dz N:=by refine⟨⋯,?_⟩;have b:t.2.natAbs<2 ^ 140:=ht;rw[eN,Xl];exact VG ((X1 ⋯).mpr b) ⋯
 have h1:=F1.2 _ _ h;obtain⟨u,hu⟩:=NE ((gJ (· - ·) t.1 low,t.2.fdiv N):aC)
 obtain⟨s2,ec,F2⟩:=lZ (g:=λaz=>ar az p=some [tV t]) (a:=bU [aq 0,aq 1]) (e:=cQ (aa (ai PM.d9 (aa aE (aa bK aj))) (aa (ag eO aW c5) aj))) (s0:=s1) (λs' F=>av (F.2 _ _ h1)) (λτ=>∃x y,τ=[x, y, some (au low), qI N]) tV (λ(_:aC)=>tV u) [t] [qn, qn, some (au low), qI N] s1 [] ⟨_,_,rfl⟩ Ext.m? (by
  rintro r mr τ s' ⟨x,y,rfl⟩ F;rw[VZ.mp mr];obtain⟨g,eg⟩:=Ao (a:=t.1) (b:=low) hl s';refine⟨[some (au t.1),some (.int t.2),some (au low),some (.int N)],rfl,⟨_,_,rfl⟩,s'++g,?_,Ext.app _ _⟩;have v0:aE [some (au t.1), qI t.2, some (au low), qI N] s'=.ok (au t.1) s':=rfl;have v2:bK [some (au t.1), qI t.2, some (au low), qI N] s'=.ok (au low) s':=rfl;have a1:ai PM.d9 (aa aE (aa bK aj)) [some (au t.1), qI t.2, some (au low), qI N] s'=.ok (au (gJ (· - ·) t.1 low)) (s'++g):=by rw[aR (gu v0 v2),eg]
  have a2:ag eO aW c5 [some (au t.1), qI t.2, some (au low), qI N] (s'++g)=.ok (.int (t.2.fdiv N)) (s'++g):=by rw[bF (x:=.int t.2) (s1:=s'++g) rfl (y:=.int N) (s2:=s'++g) rfl,div_ii dz]
  rw[i? (gu a1 a2) (by show 2<=1000;decide),hu];rfl)
 rw[VB]at ec;refine⟨s2.length,u,s2++[.lst [tV u]],?_,Ext.trans F1 (Ext.trans F2 (Ext.app _ _)),fD _ _,by rw[hu];exact sub_len ll.symm⟩;have kF:fK 2 [1,2] [some (ak.loc p), some (au low), qI N]=[qn, qn, some (au low), qI N]:=rfl;have v0:aE [some (ak.loc p), some (au low), qI N] s1=.ok (.loc p) s1:=rfl;have comp:aO 2 [1,2] (bQ aE) (bU [aq 0,aq 1]) aw (cQ (aa (ai PM.d9 (aa aE (aa bK aj))) (aa (ag eO aW c5) aj))) [qL p, some (au low), qI N] s1=.ok (.loc s2.length) (s2++[.lst [tV u]]):=by rw[cJ,cy,v0,ao,bH (av h1),ao,dn,VA (by rw[VF];show 1<=_;decide),kF];show(bN (λaz=>ar az p=some [tV t]) (bU [aq 0,aq 1]) aw _ ([t].map tV) [qn, qn, some (au low), qI N] s1 []).f9 _=_;rw[ec,ao,eQ];rfl
 have x1:aN 2 (ai PM.bo (aa aE aj)) [qL p, some (au low), qn] s=.nx [qL p, some (au low), qI N] s1:=by rw[dM (show ai PM.bo (aa aE aj) [qL p, some (au low), qn] s=.ok (.int N) s1 by rw[aR (dY (v:=.loc p) (s1:=s) rfl),c0])];rfl
 unfold PM.bare;rw[aZ (np:=2) (us:=[ak.loc p,au low]) rfl];show(aA (aN 2 (ai PM.bo (aa aE aj))) (aK (aO 2 [1,2] (bQ aE) (bU [aq 0,aq 1]) aw (cQ (aa (ai PM.d9 (aa aE (aa bK aj))) (aa (ag eO aW c5) aj))))) [qL p, some (au low), qn] s).fin=_;rw[ax,x1,aB,aQ,comp];rfl
theorem Fm(h:s[p]?=some (.lst [tV t]))(ht:t.1.length=ah)(h1:1<=ah)(hm:ah<=4):PM.du [.loc p,.loc q] s=.ok (.loc s.length) (s++[.lst [tV (lX ah,1)]]):=by
 have kl:cZ [.loc p] s=.ok (.int 1) s:=d6 (av h);have i0:=gM (l:=t) (B:=[]) h;have i1:aU (tV t) (.int 0) s=.ok (au t.1) s:=bE (L2.d0 (xs:=[au t.1,.int t.2]) (j:=0) rfl);have kt:=uN t.1 s;rw[ht]at kt;have mx:rn (.tup [.int 0]) (.int (ah:Int)) s=.ok (au (lX ah)) s:=by unfold rn;dsimp only;rw[VA ⟨by simp,⋯,⋯,by rw[VF];show 1*(ah:Int).toNat<=_;lia⟩,Wi,wF];rfl
 obtain⟨M,hM⟩:=NE ((ah:Int):Int)
 rw[<-hM]at kt mx;have z:((1:Int)==1)=true:=rfl;simp![PM.du,VT,VF,kl,z,i0,i1,kt,mx];rfl
theorem rA{n:Int}(h:s[p]?=some (.lst [tV t]))(ht:t.1.length<=10)(ho:t.2=1)(ll:low.length=t.1.length):∃k s',PM.fQ [.loc p,au low,.int n] s=.ok (.loc k) s'/\Ext s s'/\s.length<=k/\s'[k]?=some (.lst [tV (a_ t.1 low,n)]):=by
 obtain⟨s2,ec,F2⟩:=lZ (g:=λaz=>ar az p=some [tV t]) (a:=bU [aq 0,aq 1]) (e:=cQ (aa (ai PM.joined (aa aE (aa bK aj))) (aa (ag dg aW c5) aj))) (s0:=s) (λs' F=>av (F.2 _ _ h)) (λτ=>∃x y,τ=[x, y, some (au low), qI n]) tV (λ(_:aC)=>tV (a_ t.1 low,n)) [t] [qn, qn, some (au low), qI n] s [] ⟨_,_,rfl⟩ Ext.m? (by
  rintro r mr τ s' ⟨x,y,rfl⟩ F;rw[VZ.mp mr];have eg:=sP (a:=t.1) (b:=low) ht s';refine⟨[some (au t.1),some (.int t.2),some (au low),some (.int n)],rfl,⟨_,_,rfl⟩,s'++[.lst ((a_ t.1 low).map ak.int)],?_,Ext.app _ _⟩;have v0:aE [some (au t.1), qI t.2, some (au low), qI n] s'=.ok (au t.1) s':=rfl;have v2:bK [some (au t.1), qI t.2, some (au low), qI n] s'=.ok (au low) s':=rfl;have a1:ai PM.joined (aa aE (aa bK aj)) [some (au t.1), qI t.2, some (au low), qI n] s'=.ok (au (a_ t.1 low)) (s'++[.lst ((a_ t.1 low).map ak.int)]):=by rw[aR (gu v0 v2),eg]
  have a2:ag dg aW c5 [some (au t.1), qI t.2, some (au low), qI n] (s'++[.lst ((a_ t.1 low).map ak.int)])=.ok (.int n) (s'++[.lst ((a_ t.1 low).map ak.int)]):=by rw[bF (x:=.int t.2) (s1:=s'++[.lst ((a_ t.1 low).map ak.int)]) rfl (y:=.int n) (s2:=s'++[.lst ((a_ t.1 low).map ak.int)]) rfl,ho,jD ⋯ ⋯,Int.one_mul]
  rw[i? (gu a1 a2) (by show 2<=1000;decide)];rfl)
 rw[VB]at ec;refine⟨s2.length,s2++[.lst [tV (a_ t.1 low,n)]],?_,Ext.trans F2 (Ext.app _ _),F2.1,fD _ _⟩;have kF:fK 2 [1,2] [some (ak.loc p), some (au low), qI n]=[qn, qn, some (au low), qI n]:=rfl;have v0:aE [some (ak.loc p), some (au low), qI n] s=.ok (.loc p) s:=rfl;unfold PM.fQ;rw[aZ (np:=3) (us:=[ak.loc p,au low,.int n]) rfl];show(aK (aO 2 [1,2] (bQ aE) (bU [aq 0,aq 1]) aw (cQ (aa (ai PM.joined (aa aE (aa bK aj))) (aa (ag dg aW c5) aj)))) [qL p, some (au low), qI n] s).fin=_;have comp:aO 2 [1,2] (bQ aE) (bU [aq 0,aq 1]) aw (cQ (aa (ai PM.joined (aa aE (aa bK aj))) (aa (ag dg aW c5) aj))) [qL p, some (au low), qI n] s=.ok (.loc s2.length) (s2++[.lst [tV (a_ t.1 low,n)]]):=by rw[cJ,cy,v0,ao,bH (av h),ao,dn,VA (by rw[VF];show 1<=_;decide),kF];show(bN (λaz=>ar az p=some [tV t]) (bU [aq 0,aq 1]) aw _ ([t].map tV) [qn, qn, some (au low), qI n] s []).f9 _=_;rw[ec,ao,eQ];rfl
 rw[aQ,comp];rfl
end
def FT(i j:Int):Int:=if j<i then j else i
abbrev fF(a b:_H):_H:=gJ FT a b
theorem oX{a b:_H}(h:a.length=b.length):(fF a b).length=a.length:=by unfold fF gJ;rw[Vs,Xm,h,X9]
theorem yW:∀{a b:_H}(i:Nat),a.length=b.length->gx (fF a b) i=FT (gx a i) (gx b i)
 |[],[],i,_=>by rw[E6];exact(E6 i).trans rfl
 |[],_::_,_,h=>by cases h
 |_::_,[],_,h=>by cases h
 |x::a,y::b,0,_=>rfl
 |x::a,y::b,i+1,h=>yW (a:=a) (b:=b) i (YQ h)
section
variable{s:af}{p:Nat}{u:aC}{low:_H}
theorem TJ{a b:_H}{μ:MN.Env}(v3:∀s,c5 μ s=.ok (au a) s)(v4:∀s,fV μ s=.ok (au b) s)(kF:fK 1 [] μ=[none])(ha:a.length<=100):
  aO 1 [] (gD false false (aa c5 (aa fV aj))) (aq 0) aw (ai wU (aa aE aj)) μ s=.ok (.loc s.length) (s++[.lst ((fF a b).map ak.int)]):=by
 have cp:=jX (g:=λ_=>True/\True) (a:=aq 0) (e:=ai wU (aa aE aj)) (st:=s) ⟨trivial,trivial⟩ (λτ=>∃x,τ=[x]) (λp:Int×Int=>ak.tup [.int p.1,.int p.2]) (λp=>.int (FT p.1 p.2)) (a.zip b) [none] [] ⟨_,rfl⟩ (by
  rintro⟨x,y⟩ _ τ ⟨z,rfl⟩;refine⟨[some (.tup [.int x,.int y])],rfl,⟨_,rfl⟩,?_⟩;rw[aR (dY (v:=.tup [.int x,.int y]) (s1:=s) rfl)];rfl)
 rw[VB]at cp;have zl:(jn (a.map ak.int) (b.map ak.int)).length<=sizeLine:=by rw[fE,Vs,Xm,VF];lia
 rw[cJ,yh,gu (v3 s) (v4 s),ao];show(D4 false false [.tup (a.map ak.int),.tup (b.map ak.int)] s).f9 _=_;rw[uo,ao,dn,VA zl,kF,fE];show(bN (λ_=>True/\True) (aq 0) aw (ai wU (aa aE aj)) ((a.zip b).map λp=>ak.tup [.int p.1,.int p.2]) [none] s []).f9 Bv=_;rw[cp,ao,eQ];unfold fF gJ;rw[VR];rfl
theorem qq:∀{e:_H}{ah:Nat},e.length=ah->a_ (lX ah) e=e
 |[],ah,h=>by unfold a_;rw[List.zipWith_nil_right]
 |x::e,0,h=>by cases h
 |x::e,ah+1,h=>by show(0+x)::a_ (lX ah) e=x::e;rw[qq (YQ h),Xa]
theorem n?(hp:s[p]?=some (.lst [tV t]))(hq:s[q]?=some (.lst [tV u]))(ht:t.1.length=ah)(hu:u.1.length=ah)(m1:1<=ah)(m4:ah<=4)(zt:t.2≠0)(zu:u.2≠0)(bt:ic 140 t.2)(bu:ic 140 u.2):
    ∃k s',PM.fH [.loc p,.loc q] s=.ok (.loc k) s'/\Ext s s'/\s.length<=k/\s'[k]?=some (.lst [tV (fF t.1 u.1,((Nat.gcd t.2.natAbs u.2.natAbs:Nat):Int))]):=by
  obtain⟨d,hd⟩:=NE (((Nat.gcd t.2.natAbs u.2.natAbs:Nat):Int):Int)
  rw[<-hd];have c1:=qo (D:=[t]) hp (by show 1<=1000000;decide);obtain⟨s1,e1,F1,_,_⟩:=put s (([t].map (·.2)).map ak.int);rw[<-e1]at c1;have c2:=qo (D:=[u]) (F1.2 _ _ hq) (by show 1<=1000000;decide);obtain⟨s2,e2,F2,_,_⟩:=put s1 (([u].map (·.2)).map ak.int);rw[<-e2]at c2;obtain⟨n1,KZ⟩:=NE ((j_ 0 ([t].map (·.2)):Nat):Int)
  obtain⟨n2,QE⟩:=NE ((j_ 0 ([u].map (·.2)):Nat):Int)
  have g1:j_ 0 ([t].map (·.2))=t.2.natAbs:=Yc _;have g2:j_ 0 ([u].map (·.2))=u.2.natAbs:=Yc _;rw[<-KZ]at c1;rw[<-QE]at c2;obtain⟨s3,e3,F3,l3,_⟩:=put s2 ([n1,n2].map ak.int);have gr:=nQ (av l3);have eg:((j_ 0 [n1,n2]:Nat):Int)=d:=by rw[hd,KZ,QE,g1,g2];show((Nat.gcd (Nat.gcd 0 (t.2.natAbs:Int).natAbs) (u.2.natAbs:Int).natAbs:Nat):Int)=_;rw[Xl,Xl,Yc]
  rw[eg]at gr;have x1:aN 2 (ai PM.bL (aa (df (aa (ai PM.bo (aa aE aj)) (aa (ai PM.bo (aa aW aj)) aj))) aj)) [qL p, qL q, qn, qn, qn, qn, qn] s=.nx [qL p, qL q, qI d, qn, qn, qn, qn] s3:=by
    rw[dM (show ai PM.bL _ [qL p, qL q, qn, qn, qn, qn, qn] s=.ok (.int d) s3 by
      rw[aR (dY (m9 (gu (show ai PM.bo (aa aE aj) [qL p, qL q, qn, qn, qn, qn, qn] s=.ok (.int n1) s1 by rw[aR (dY (v:=.loc p) (s1:=s) rfl),c1]) (show ai PM.bo (aa aW aj) [qL p, qL q, qn, qn, qn, qn, qn] s1=.ok (.int n2) s2 by rw[aR (dY (v:=.loc q) (s1:=s1) rfl),c2])) (by show 2<=1000;decide)))];show PM.bL [.loc s2.length] (s2++[.lst ([n1,n2].map ak.int)])=_;rw[<-e3,gr])]
    rfl
  have og:=Ext.trans F1 (Ext.trans F2 F3);obtain⟨s4,e4,F4⟩:=tf (og.2 _ _ hp) ⋯;have x2:aN 3 (ai PM.bB (aa aE aj)) [qL p, qL q, qI d, qn, qn, qn, qn] s3=.nx [qL p, qL q, qI d, some (au t.1), qn, qn, qn] s4:=by rw[dM (show ai PM.bB (aa aE aj) [qL p, qL q, qI d, qn, qn, qn, qn] s3=.ok (au t.1) s4 by rw[aR (dY (v:=.loc p) (s1:=s3) rfl),e4])];rfl
  have Ct:=Ext.trans og F4;obtain⟨s5,e5,F5⟩:=tf (Ct.2 _ _ hq) ⋯;have x3:aN 4 (ai PM.bB (aa aW aj)) [qL p, qL q, qI d, some (au t.1), qn, qn, qn] s4=.nx [qL p, qL q, qI d, some (au t.1), some (au u.1), qn, qn] s5:=by rw[dM (show ai PM.bB (aa aW aj) [qL p, qL q, qI d, some (au t.1), qn, qn, qn] s4=.ok (au u.1) s5 by rw[aR (dY (v:=.loc q) (s1:=s4) rfl),e5])];rfl
  have F05:=Ext.trans Ct F5;have mc:=TJ (s:=s5) (a:=t.1) (b:=u.1) (μ:=[some (.loc p),some (.loc q),some (.int d),some (au t.1),some (au u.1),none,none]) (λ_=>rfl) (λ_=>rfl) rfl ⋯;obtain⟨s6,e6,F6,l6,_⟩:=put s5 ((fF t.1 u.1).map ak.int);rw[<-e6]at mc;have tp:=iZ (av l6);have x4:aN 5 (ai gY (aa (aO 1 [] (gD false false (aa c5 (aa fV aj))) (aq 0) aw (ai wU (aa aE aj))) aj)) [qL p, qL q, qI d, some (au t.1), some (au u.1), qn, qn] s5=.nx [qL p, qL q, qI d, some (au t.1), some (au u.1), some (au (fF t.1 u.1)), qn] s6:=by rw[dM (show ai gY _ [qL p, qL q, qI d, some (au t.1), some (au u.1), qn, qn] s5=.ok (au (fF t.1 u.1)) s6 by rw[aR (dY mc),tp];rfl)];rfl
  have Vi:=Ext.trans F05 F6;obtain⟨k7,u7,s7,e7,F7,l7,n7⟩:=Az (Vi.2 _ _ hp) zt bt ⋯ (low:=t.1) rfl;have Vj:=Ext.trans Vi F7;obtain⟨k8,u8,s8,e8,F8,l8,n8⟩:=Az (Vj.2 _ _ hq) zu bu ⋯ (low:=u.1) rfl;have b9:=Fm (q:=k8) (ah:=ah) (F8.2 _ _ l7) (by rw[n7,ht]) m1 m4;obtain⟨s9,e9,F9,l9,_⟩:=put s8 [tV (lX ah,1)];rw[<-e9]at b9;have x5:aN 6 (ai PM.du (aa (ai PM.bare (aa aE (aa c5 aj))) (aa (ai PM.bare (aa aW (aa fV aj))) aj))) [qL p, qL q, qI d, some (au t.1), some (au u.1), some (au (fF t.1 u.1)), qn] s6=.nx [qL p, qL q, qI d, some (au t.1), some (au u.1), some (au (fF t.1 u.1)), qL s8.length] s9:=by
    rw[dM (show ai PM.du _ [qL p, qL q, qI d, some (au t.1), some (au u.1), some (au (fF t.1 u.1)), qn] s6=.ok (.loc s8.length) s9 by
      rw[aR (gu (show ai PM.bare (aa aE (aa c5 aj)) [qL p, qL q, qI d, some (au t.1), some (au u.1), some (au (fF t.1 u.1)), qn] s6=.ok (.loc k7) s7 by rw[aR (gu (v:=.loc p) (s1:=s6) rfl (w:=au t.1) (s2:=s6) rfl),e7]) (show ai PM.bare (aa aW (aa fV aj)) [qL p, qL q, qI d, some (au t.1), some (au u.1), some (au (fF t.1 u.1)), qn] s7=.ok (.loc k8) s8 by rw[aR (gu (v:=.loc q) (s1:=s7) rfl (w:=au u.1) (s2:=s7) rfl),e8])),b9])]
    rfl
  have zl:(lX ah).length=ah:=Wn;obtain⟨k,s',e10,F10,g10,Vk⟩:=rA (n:=d) (low:=fF t.1 u.1) l9 (by show(lX ah).length<=10;lia) rfl (by show _=(lX ah).length;rw[oX ⋯];lia);rw[show a_ (lX ah) (fF t.1 u.1)=fF t.1 u.1 from qq (by rw[oX ⋯,ht])]at Vk;have Vl:=Ext.trans Vj (Ext.trans F8 F9);refine⟨k,s',?_,Ext.trans Vl F10,V7 Vl.1 g10,Vk⟩;unfold PM.fH;rw[aZ (np:=2) (us:=[ak.loc p,.loc q]) rfl];show(aA _ (aA _ (aA _ (aA _ (aA _ (aK (ai PM.fQ (aa oP (aa kY (aa bK aj)))))))))  [qL p, qL q, qn, qn, qn, qn, qn] s).fin=_;rw[ax,x1,aB,ax,x2,aB,ax,x3,aB,ax,x4,aB,ax,x5,aB,aQ,aR (JD (v:=.loc s8.length) (s1:=s9) rfl (gu (v:=au (fF t.1 u.1)) (s1:=s9) rfl (w:=.int d) (s2:=s9) rfl)),e10];rfl
end
structure One(ah:Nat)(D:List aC):Prop where
 s:eh ah D
 l:D.length<=1
 b:∀t∈D,ic 140 t.2
theorem One.cases(h:One ah D):D=[]\/∃t,D=[t]:=by
 match D,h.l with
 |[],_=>exact .inl rfl
 |[t],_=>exact .inr ⟨t,rfl⟩
theorem gN(h1:t.1.length=ah)(h2:∀e∈t.1,0<=e)(h3:t.2≠0):eh ah [t]:=by
 refine⟨?_,λx m=>?_,λx m=>?_,λx m=>?_⟩
 .show SO.eR [t.1];exact YB _ _
 all_goals rw[VZ.mp m];assumption
theorem sum_nil(ah:Nat):eh ah []:=⟨.nil,(λx m=>by cases m),(λx m=>by cases m),λx m=>by cases m⟩
structure II(ah:Nat)(g t q:aC):Prop where
 len:q.1.length=ah
 nn:∀e∈q.1,0<=e
 nz:q.2≠0
 e:a_ q.1 g.1=t.1
 n:q.2*g.2=t.2
 b:ic 140 q.2
section
variable{s:af}{p:Nat}{u g:aC}
theorem M6(hg:g.1.length=ah)(ht:t.1.length=ah)(nt:∀e∈t.1,0<=e)(zt:t.2≠0)(bt:ic 140 t.2)(le:∀i,gx g.1 i<=gx t.1 i)(md:t.2.fmod g.2=0)(gp:0<g.2)(bg:ic 140 g.2):Dv ah [g] g [t] [] (some [jZ g t])/\II ah g t (jZ g t):=by
 have e1:a_ (gJ (· - ·) t.1 g.1) g.1=t.1:=wV ⋯;have hm:t.2.fdiv g.2*g.2=t.2:=by have:=ZM t.2 g.2;rw[md,ZE,YV]at this;exact this
 have nz:t.2.fdiv g.2≠0:=λz=>zt (by rw[<-hm,z,Int.zero_mul]);have bq:ic 140 (t.2.fdiv g.2):=by refine ic.le bt ?_;have:=Xc Int.natAbs hm;rw[Int.natAbs_mul]at this;rw[<-this];exact Nat.le_mul_of_pos_right _ ⋯
 have ql:(gJ (· - ·) t.1 g.1).length=ah:=by rw[sub_len ⋯,ht]
 have qn:∀e∈gJ (· - ·) t.1 g.1,0<=e:=λe m=>by obtain⟨i,rfl⟩:=E! m;rw[qj i ⋯];have:=le i;lia
 have D:II ah g t (jZ g t):=⟨ql,qn,nz,e1,hm,bq⟩
 have sq:eh ah [jZ g t]:=gN ql qn nz;have st:eh ah [t]:=gN ht nt zt;have l1:[t].length<=15625200:=by show 1<=_;decide
 refine⟨.more ⟨st,sum_nil ah,l1,by show 0<=_;decide⟩ ?_ ?_ ?_,D⟩
 .unfold JK;rw[s_ ⋯ (λi _=>le i),md];rfl
 .intro b m;rw[VZ.mp m];exact iL bq bg ⋯ ⋯
 .have z:JJ [g] [t] (jZ g t)=[]:=by
   unfold JJ;rw[JI (P:=[t]++chg (λn => -n) (m_ (jZ g t) [g])) (Q:=[]) λf=>?_]
   .exact gK (sum_nil ah)
   .have:=Im f [g] [t] (jZ g t);unfold JJ at this;rw[E7]at this;rw[this];show f t.1*t.2+0-(f (a_ (jZ g t).1 g.1)*((jZ g t).2*g.2)+0)=0;rw[show a_ (jZ g t).1 g.1=t.1 from e1,show(jZ g t).2*g.2=t.2 from hm];lia
  rw[z];exact .done ⟨sum_nil ah,sq,by show 0<=_;decide,by show 1<=_;decide⟩
theorem oY(m1:1<=ah)(m4:ah<=4)(hg:g.1.length=ah)(ng:∀e∈g.1,0<=e)(gp:0<g.2)(bg:ic 140 g.2)(ht:t.1.length=ah)(nt:∀e∈t.1,0<=e)(zt:t.2≠0)(bt:ic 140 t.2)(le:∀i,gx g.1 i<=gx t.1 i)(md:t.2.fmod g.2=0)(hp:s[p]?=some (.lst [tV t]))(hq:s[q]?=some (.lst [tV g])):
  ∃k s',PM.br [.loc p,.loc q] s=.ok (.loc k) s'/\Ext s s'/\s.length<=k/\s'[k]?=some (.lst [tV (jZ g t)])/\II ah g t (jZ g t):=by
 obtain⟨V,D⟩:=M6 hg ht nt zt bt le md gp bg;have dz:Dz g.2:=by refine⟨⋯,?_⟩;have b:g.2.natAbs<2 ^ 140:=bg;exact VG ((X1 ⋯).mpr b) ⋯
 obtain⟨s',F,k,hk,hl,e⟩:=jK (B:=[]) m1 m4 (by show 0<=100;decide) (gN hg ng ⋯) dz (gN ht nt zt) V hp hq;exact⟨k,s',e,F,hk,hl,D⟩
theorem AA(m1:1<=ah)(m4:ah<=4)(hg:g.1.length=ah)(ng:∀e∈g.1,0<=e)(gp:0<g.2)(bg:ic 140 g.2)(hp:s[p]?=some (.lst []))(hq:s[q]?=some (.lst [tV g])):
  ∃k s',PM.br [.loc p,.loc q] s=.ok (.loc k) s'/\Ext s s'/\s.length<=k/\s'[k]?=some (.lst []):=by
 have dz:Dz g.2:=by refine⟨⋯,?_⟩;have b:g.2.natAbs<2 ^ 140:=bg;exact VG ((X1 ⋯).mpr b) ⋯
 obtain⟨s',F,k,hk,hl,e⟩:=jK (B:=[]) (D:=[]) (R:=some []) m1 m4 (by show 0<=100;decide) (gN hg ng ⋯) dz (sum_nil ah) (.done ⟨sum_nil ah,sum_nil ah,by show 0<=_;decide,by show 0<=_;decide⟩) hp hq;exact⟨k,s',e,F,hk,hl⟩
end
def l_:List aC->List aC->aC
 |[t],[u]=>(fF t.1 u.1,((Nat.gcd t.2.natAbs u.2.natAbs:Nat):Int))
 |[t],_=>(t.1,(t.2.natAbs:Int))
 |_,[u]=>(u.1,(u.2.natAbs:Int))
 |_,_=>([],1)
def Mk(ah:Nat)(g:aC)(D S:List aC):Prop:=(D=[]/\S=[])\/∃t q,D=[t]/\S=[q]/\II ah g t q
structure Cm(ah:Nat)(A B:List aC)(g:aC)(SA SB:List aC):Prop where
 gl:g.1.length=ah
 gn:∀e∈g.1,0<=e
 gp:0<g.2
 gb:ic 140 g.2
 a:Mk ah g A SA
 b:Mk ah g B SB
 z:∀u,u<ah->Ag SA u=0\/Ag SB u=0
theorem Mk.sum{g:aC}{S:List aC}(h:Mk ah g D S):One ah S:=by
 rcases h with⟨_,rfl⟩|⟨t,q,_,rfl,d⟩
 .exact⟨sum_nil ah,by show 0<=1;decide,λt m=>by cases m⟩
 .exact⟨gN d.len d.nn d.nz,Vy _,λt m=>by rw[VZ.mp m];exact d.b⟩
theorem oZ(q:aC)(u:Nat):Ag [q] u=gx q.1 u:=rfl
section
variable{s:af}{p:Nat}{A:List aC}
theorem qr{n:Int}(h:n≠0):n.fmod (n.natAbs:Int)=0:=by rw[WT _ ⋯];exact Zn (Int.natAbs_dvd.mpr (Int.dvd_refl n))
theorem AB(a:_H)(i:Nat):gx (gJ (· - ·) a a) i=0:=by rw[qj i rfl];lia
theorem Fn(m1:1<=ah)(m4:ah<=4)(hA:One ah A)(hB:One ah B)(ne:A≠[]\/B≠[])(hp:s[p]?=some (.lst (A.map tV)))(hq:s[q]?=some (.lst (B.map tV))):
  ∃kg ka kb s' SA SB,PM.cW [.loc p,.loc q] s=.ok (.tup [.loc kg,.loc ka,.loc kb]) s'/\Ext s s'/\s.length<=kg/\kg<ka/\ka<kb/\s'[kg]?=some (.lst [tV (l_ A B)])/\s'[ka]?=some (.lst (SA.map tV))/\s'[kb]?=some (.lst (SB.map tV))/\Cm ah A B (l_ A B) SA SB:=by
 have Q?:((0:Int)==0)=true:=rfl;have TK:((1:Int)==0)=false:=rfl;rcases hA.cases with rfl|⟨t,rfl⟩
 .rcases hB.cases with rfl|⟨u,rfl⟩
  .rcases ne with h|h<;>exact(h rfl).elim
  -- Ck first is M7
  have hu:=hB.s.len u Vu;have nu:=hB.s.nn u Vu;have zu:=hB.s.nz u Vu;have bu:=hB.b u Vu;have k0:cZ [.loc p] s=.ok (.int 0) s:=d6 (av hp);have k1:cZ [.loc q] s=.ok (.int 1) s:=d6 (av hq);have ad:=pZ hp hq (by rw[VF];show 0+1<=_;decide);obtain⟨s1,e1,F1,l1,_⟩:=put s [tV u];replace ad:cq (.loc p) (.loc q) s=.ok (.loc s.length) s1:=by rw[e1];exact ad
  obtain⟨s2,e2,F2,l2⟩:=qp l1;obtain⟨g,hg⟩:=NE ((u.1,(u.2.natAbs:Int)):aC)
  rw[<-hg]at l2;have gp:0<g.2:=by rw[hg];show(0:Int)<(u.2.natAbs:Int);lia
  have gb:ic 140 g.2:=by rw[hg];exact ic.le bu (by show((u.2.natAbs:Int)).natAbs<=_;rw[Xl];exact Vy _)
  have gl:g.1.length=ah:=by rw[hg];exact hu
  have gn:∀e∈g.1,0<=e:=by rw[hg];exact nu
  have uO:=Ext.trans F1 F2;obtain⟨k3,s3,e3,F3,h3,l3⟩:=AA m1 m4 gl gn gp gb (uO.2 _ _ hp) l2;obtain⟨k4,s4,e4,F4,h4,l4,D⟩:=oY (t:=u) m1 m4 gl gn gp gb hu nu zu bu (λi=>by rw[hg];exact Yv _) (by rw[hg];exact qr zu) (Ext.trans uO F3 |>.2 _ _ hq) (F3.2 _ _ l2);refine⟨s1.length,k3,k4,s4,[],[jZ g u],?_,Ext.trans uO (Ext.trans F3 F4),F1.1,by have:=aX l2;lia,by have:=aX l3;lia,?_,F4.2 _ _ l3,l4,?_⟩
  .simp![PM.cW,VT,VF,k0,k1,Q?,TK,ad,e2,e3,e4]
  .show s4[s1.length]?=some (.lst [tV (u.1,(u.2.natAbs:Int))]);rw[<-hg];exact F4.2 _ _ (F3.2 _ _ l2)
  .show Cm ah [] [u] (u.1,(u.2.natAbs:Int)) [] [jZ g u];rw[<-hg];refine⟨gl,gn,gp,gb,.inl ⟨rfl,rfl⟩,.inr ⟨u,_,rfl,rfl,D⟩,λi hi=>.inr ?_⟩;rw[oZ];show gx (gJ (· - ·) u.1 g.1) i=0;rw[hg];exact AB _ _
 .have ht:=hA.s.len t Vu;have nt:=hA.s.nn t Vu;have zt:=hA.s.nz t Vu;have bt:=hA.b t Vu;have k0:cZ [.loc p] s=.ok (.int 1) s:=d6 (av hp);rcases hB.cases with rfl|⟨u,rfl⟩
  .have k1:cZ [.loc q] s=.ok (.int 0) s:=d6 (av hq);have ad:=pZ hp hq (by rw[VF];show 1+0<=_;decide);obtain⟨s1,e1,F1,l1,_⟩:=put s [tV t];replace ad:cq (.loc p) (.loc q) s=.ok (.loc s.length) s1:=by rw[e1];exact ad
   obtain⟨s2,e2,F2,l2⟩:=qp l1;obtain⟨g,hg⟩:=NE ((t.1,(t.2.natAbs:Int)):aC)
   rw[<-hg]at l2;have gp:0<g.2:=by rw[hg];show(0:Int)<(t.2.natAbs:Int);lia
   have gb:ic 140 g.2:=by rw[hg];exact ic.le bt (by show((t.2.natAbs:Int)).natAbs<=_;rw[Xl];exact Vy _)
   have gl:g.1.length=ah:=by rw[hg];exact ht
   have gn:∀e∈g.1,0<=e:=by rw[hg];exact nt
   have uO:=Ext.trans F1 F2;obtain⟨k3,s3,e3,F3,h3,l3,D⟩:=oY (t:=t) m1 m4 gl gn gp gb ht nt zt bt (λi=>by rw[hg];exact Yv _) (by rw[hg];exact qr zt) (uO.2 _ _ hp) l2;obtain⟨k4,s4,e4,F4,h4,l4⟩:=AA m1 m4 gl gn gp gb (Ext.trans uO F3 |>.2 _ _ hq) (F3.2 _ _ l2);refine⟨s1.length,k3,k4,s4,[jZ g t],[],?_,Ext.trans uO (Ext.trans F3 F4),F1.1,by have:=aX l2;lia,by have:=aX l3;lia,?_,F4.2 _ _ l3,l4,?_⟩
   .simp![PM.cW,VT,VF,k0,k1,Q?,TK,ad,e2,e3,e4]
   .show s4[s1.length]?=some (.lst [tV (t.1,(t.2.natAbs:Int))]);rw[<-hg];exact F4.2 _ _ (F3.2 _ _ l2)
   .show Cm ah [t] [] (t.1,(t.2.natAbs:Int)) [jZ g t] [];rw[<-hg];refine⟨gl,gn,gp,gb,.inr ⟨t,_,rfl,rfl,D⟩,.inl ⟨rfl,rfl⟩,λi hi=>.inl ?_⟩;rw[oZ];show gx (gJ (· - ·) t.1 g.1) i=0;rw[hg];exact AB _ _
  .have hu:=hB.s.len u Vu;have nu:=hB.s.nn u Vu;have zu:=hB.s.nz u Vu;have bu:=hB.b u Vu;have k1:cZ [.loc q] s=.ok (.int 1) s:=d6 (av hq);obtain⟨kg,s2,e2,F2,h2,l2⟩:=n? hp hq ht hu m1 m4 zt zu bt bu;obtain⟨g,hg⟩:=NE ((fF t.1 u.1,((Nat.gcd t.2.natAbs u.2.natAbs:Nat):Int)):aC)
   rw[<-hg]at l2;have g0:0<Nat.gcd t.2.natAbs u.2.natAbs:=Nat.gcd_pos_of_pos_left _ ⋯;have gp:0<g.2:=by rw[hg];show(0:Int)<((Nat.gcd t.2.natAbs u.2.natAbs:Nat):Int);lia
   have gb:ic 140 g.2:=by rw[hg];refine ic.le bt ?_;show(((Nat.gcd t.2.natAbs u.2.natAbs:Nat):Int)).natAbs<=_;rw[Xl];exact Nat.gcd_le_left _ ⋯
   have gl:g.1.length=ah:=by rw[hg];show(fF t.1 u.1).length=ah;rw[oX ⋯,ht]
   have low:∀i,gx g.1 i=FT (gx t.1 i) (gx u.1 i):=λi=>by rw[hg];exact yW i ⋯
   have gn:∀e∈g.1,0<=e:=λe m=>by
    obtain⟨i,rfl⟩:=E! m;rw[low i];have a:0<=gx t.1 i:=by
     by_cases h:i<t.1.length
     .exact nt _ (E_ h)
     .unfold gx;rw[Ww,V' ⋯];exact Yv _
    have b:0<=gx u.1 i:=by
     by_cases h:i<u.1.length
     .exact nu _ (E_ h)
     .unfold gx;rw[Ww,V' ⋯];exact Yv _
    unfold FT;split<;>assumption
   have md:∀n:Int,Nat.gcd t.2.natAbs u.2.natAbs ∣ n.natAbs->n.fmod g.2=0:=λn d=>by rw[WT _ ⋯,hg];exact Zn (Int.ofNat_dvd_left.mpr d)
   obtain⟨k3,s3,e3,F3,h3,l3,D⟩:=oY (t:=t) m1 m4 gl gn gp gb ht nt zt bt (λi=>by rw[low i];unfold FT;split<;>lia) (md _ (Nat.gcd_dvd_left _ _)) (F2.2 _ _ hp) l2;obtain⟨k4,s4,e4,F4,h4,l4,D'⟩:=oY (t:=u) m1 m4 gl gn gp gb hu nu zu bu (λi=>by rw[low i];unfold FT;split<;>lia) (md _ (Nat.gcd_dvd_right _ _)) (Ext.trans F2 F3 |>.2 _ _ hq) (F3.2 _ _ l2);refine⟨kg,k3,k4,s4,[jZ g t],[jZ g u],?_,Ext.trans F2 (Ext.trans F3 F4),h2,by have:=aX l2;lia,by have:=aX l3;lia,?_,F4.2 _ _ l3,l4,?_⟩
   .simp![PM.cW,VT,VF,k0,k1,TK,e2,e3,e4]
   .show s4[kg]?=some (.lst [tV (fF t.1 u.1,((Nat.gcd t.2.natAbs u.2.natAbs:Nat):Int))]);rw[<-hg];exact F4.2 _ _ (F3.2 _ _ l2)
   .show Cm ah [t] [u] (fF t.1 u.1,((Nat.gcd t.2.natAbs u.2.natAbs:Nat):Int)) [jZ g t] [jZ g u];rw[<-hg];refine⟨gl,gn,gp,gb,.inr ⟨t,_,rfl,rfl,D⟩,.inr ⟨u,_,rfl,rfl,D'⟩,λi hi=>?_⟩;rw[oZ,oZ];show gx (gJ (· - ·) t.1 g.1) i=0\/gx (gJ (· - ·) u.1 g.1) i=0;rw[qj i ⋯,qj i ⋯,low i];unfold FT;split
    .exact .inr ⋯
    .exact .inl ⋯
theorem yX(hp:s[p]?=some (.lst []))(hq:s[q]?=some (.lst [])):PM.cW [.loc p,.loc q] s=.err "NoMeet" s:=by have Q?:((0:Int)==0)=true:=rfl;have k0:cZ [.loc p] s=.ok (.int 0) s:=d6 (av hp);have k1:cZ [.loc q] s=.ok (.int 0) s:=d6 (av hq);simp![PM.cW,Hq,D2,VT,VF,k0,k1,Q?]
end
theorem B5{x y z:ak}{r:List ak}:L2.mI (x::y::z::r) 2=some z:=L2.d0 (xs:=x::y::z::r) (j:=2) rfl
theorem Qb{x y z w:ak}{r:List ak}:L2.mI (x::y::z::w::r) 3=some w:=L2.d0 (xs:=x::y::z::w::r) (j:=3) rfl
abbrev Pp:=(Nat×Nat×Nat)×(List aC×List aC×List aC)
def rB(b:Pp):ak:=.tup [.loc b.1.1,.loc b.1.2.1,.loc b.1.2.2]
def qt(b:Pp):List Nat:=[b.1.1,b.1.2.1,b.1.2.2]
structure rC(s:af)(x:Pp):Prop where
 a:s[x.1.1]?=some (.lst (x.2.1.map tV))
 b:s[x.1.2.1]?=some (.lst (x.2.2.1.map tV))
 c:s[x.1.2.2]?=some (.lst (x.2.2.2.map tV))
theorem rC.to{s:af}{b:Pp}(h:rC s b)(F:Ext s s'):rC s' b:=⟨F.2 _ _ h.a,F.2 _ _ h.b,F.2 _ _ h.c⟩
def B6(ah u:Nat)(SA SB:List aC)(b:Pp):Prop:=
 (b.2=([(lX ah,1)],[],SA)/\Ag SA u=0)\/(b.2=([],[(lX ah,1)],SB)/\Ag SB u=0)
section
variable{s:af}{u:Nat}
theorem Fo(m1:1<=ah)(m4:ah<=4)(hA:One ah SA)(hB:One ah SB)(ne:SA++SB≠[])(hu:u<ah)(z:Ag SA u=0\/Ag SB u=0)(la:s[ka]?=some (.lst (SA.map tV)))(lb:s[kb]?=some (.lst (SB.map tV))):
  ∃b s',PM.eT [.loc ka,.loc kb,.int (u:Int)] s=.ok (rB b) s'/\Ext s s'/\rC s' b/\B6 ah u SA SB b/\(qt b).Nodup/\∀c∈qt b,s.length<=c/\c<s'.length:=by
 obtain⟨U,hU⟩:=NE ((u:Int):Int)
 obtain⟨h,r,hr⟩:∃h r,SA++SB=h::r:=by
  cases e:SA++SB with
  |nil=>exact(ne e).elim
  |cons h r=>exact⟨h,r,rfl⟩
 have hl:h.1.length=ah:=by
  have:h∈SA++SB:=by rw[hr];exact Vu
  rcases W8.mp this with m|m
  .exact hA.s.len h m
  .exact hB.s.len h m
 have ad:=pZ la lb (by rw[Vs,Vs,VF];have:=hA.l;have:=hB.l;lia);rw[<-WW,hr]at ad;obtain⟨s1,e1,F1,l1,_⟩:=put s ((h::r).map tV);rw[<-e1]at ad;have i0:=gM l1;have i1:aU (tV h) (.int 0) s1=.ok (au h.1) s1:=bE (L2.d0 (xs:=[au h.1,.int h.2]) (j:=0) rfl);have kt:=uN h.1 s1;rw[hl]at kt;obtain⟨g,kn,ec,gk,lk⟩:=wG (r:=0) (n:=1) (st:=s1) rfl m1 m4;rw[show Mw 0 [(lX ah,(1:Int))]=[(lX ah,1)]from by unfold Mw;rw[List.map_singleton,JH];rfl]at lk;obtain⟨M,hM⟩:=NE ((ah:Int):Int)
 rw[<-hM]at kt ec;obtain⟨s2,fU⟩:=NE (s1++g)
 rw[<-fU]at ec lk;have F2:Ext s1 s2:=by rw[fU];exact Ext.app _ _
 have uO:=Ext.trans F1 F2;have pa:=nP (a:=u) (av (uO.2 _ _ la)) (by have:=hA.l;lia) hA.s hu;rw[<-hU]at pa;obtain⟨s3,e3,F3,_,n3⟩:=put s2 ((SA.map (Ez u)).map ak.int);rw[<-e3]at pa;have og:=Ext.trans uO F3;have kl:=aX lk;have v3:∀s,c5 [some (ak.loc ka), qL kb, qI U, qL kn, qn, qn, qn, qn, qn, qn] s=.ok (.loc kn) s:=λ_=>rfl;by_cases c:Ag SA u=0
 .have z1:(Ag SA u==0)=true:=by rw[c];rfl
  obtain⟨s4,e4,F4,l4,n4⟩:=put s3 [];have cl:=i_ (av (F4.2 _ _ (og.2 _ _ la)));obtain⟨s5,e5,F5,l5,n5⟩:=put s4 (SA.map tV);rw[<-e5]at cl;refine⟨((kn,s3.length,s4.length),([(lX ah,1)],[],SA)),s5,?_,Ext.trans og (Ext.trans F4 F5),⟨F5.2 _ _ (F4.2 _ _ (F3.2 _ _ lk)),F5.2 _ _ l4,l5⟩,.inl ⟨rfl,c⟩,?_,?_⟩
  .show PM.eT [.loc ka,.loc kb,.int (u:Int)] s=.ok (.tup [.loc kn,.loc s3.length,.loc s4.length]) s5;rw[<-hU];simp![PM.eT,VT,VF,ad,i0,i1,kt,ec,pa,z1,<-e4,cl]
  .show[kn,s3.length,s4.length].Nodup;have:kn<s3.length:=⋯
   refine Wd.mpr ⟨?_,Wd.mpr ⟨?_,Wd.mpr ⟨WZ,.nil⟩⟩⟩<;>simp<;>lia
  .intro x m;have f1:=F1.1;have f2:=F2.1;have f3:=F3.1;have:x=kn\/x=s3.length\/x=s4.length:=by simpa[qt]using m
   lia
 .have z1:(Ag SA u==0)=false:=V6.mpr c;have c2:=z.resolve_left c;have z2:(Ag SB u==0)=true:=by rw[c2];rfl
  have pb:=nP (a:=u) (av (og.2 _ _ lb)) (by have:=hB.l;lia) hB.s hu;rw[<-hU]at pb;obtain⟨s4,e4,F4,_,n4⟩:=put s3 ((SB.map (Ez u)).map ak.int);rw[<-e4]at pb;have Ct:=Ext.trans og F4;obtain⟨s5,e5,F5,l5,n5⟩:=put s4 [];have cl:=i_ (av (F5.2 _ _ (Ct.2 _ _ lb)));obtain⟨s6,e6,F6,l6,n6⟩:=put s5 (SB.map tV);rw[<-e6]at cl;refine⟨((s4.length,kn,s5.length),([],[(lX ah,1)],SB)),s6,?_,Ext.trans Ct (Ext.trans F5 F6),⟨F6.2 _ _ l5,F6.2 _ _ (F5.2 _ _ (F4.2 _ _ (F3.2 _ _ lk))),l6⟩,.inr ⟨rfl,c2⟩,?_,?_⟩
  .show PM.eT [.loc ka,.loc kb,.int (u:Int)] s=.ok (.tup [.loc s4.length,.loc kn,.loc s5.length]) s6;rw[<-hU];simp![PM.eT,VT,VF,ad,i0,i1,kt,ec,pa,z1,pb,z2,<-e5,cl]
  .show[s4.length,kn,s5.length].Nodup;have:kn<s4.length:=⋯
   refine Wd.mpr ⟨?_,Wd.mpr ⟨?_,Wd.mpr ⟨WZ,.nil⟩⟩⟩<;>simp<;>lia
  .intro x m;have f1:=F1.1;have f2:=F2.1;have f3:=F3.1;have f4:=F4.1;have:x=s4.length\/x=kn\/x=s5.length:=by simpa[qt]using m
   lia
theorem AD{α:Type}{g:af->Prop}{a:AS}{e:ME}{s0:af}(hg:∀s,Ext s0 s->g s)(I:MN.Env->Prop)(val:α->ak)(G:α->Pp->Prop):∀(us:List α)(τ:MN.Env)(s:af)(ys:List ak),I τ->Ext s0 s ->
  (∀u∈us,∀τ s,I τ->Ext s0 s->∃τ1,a (val u) τ=some τ1/\I τ1/\∃b s',e τ1 s=.ok (rB b) s'/\Ext s s'/\rC s' b/\G u b/\(qt b).Nodup/\∀c∈qt b,s.length<=c/\c<s'.length) ->
  ∃(bs:List Pp)(s':af),bN g a aw e (us.map val) τ s ys=.ok (ys++bs.map rB) s'/\Ext s s'/\bs.length=us.length/\(∀(i:Nat)u b,us[i]?=some u->bs[i]?=some b->G u b)/\(∀b∈bs,rC s' b)/\(bs.flatMap qt).Nodup/\∀c∈bs.flatMap qt,s.length<=c
 |[],τ,s,ys,_,F,_=>⟨[],s,by
   rw[VQ];unfold bN;rw[VA (hg s F)];simp,Ext.m?,rfl,(λi u b h=>by cases h),(λb m=>by cases m),.nil,λc m=>by cases m⟩
 |u::us,τ,s,ys,hI,F,hs=>by
  obtain⟨τ1,h1,h2,b,s1,e1,F1,p1,g1,d1,c1⟩:=hs u Vu τ s hI F;obtain⟨bs,s2,e2,F2,n2,i2,p2,d2,c2⟩:=AD hg I val G us τ1 s1 (ys++[rB b]) h2 (Ext.trans F F1) λv hv=>hs v (VJ u hv);rw[Vv];unfold bN;rw[VA (hg s F),h1];dsimp only[aw];rw[e1];dsimp only;refine⟨b::bs,s2,by rw[e2,VU];rfl,Ext.trans F1 F2,by rw[Vt,Vt,n2],λi v c hv hc=>?_,λx m=>?_,?_,λx m=>?_⟩
  .cases i with
   |zero=>cases hv;cases hc;exact g1
   |succ i=>exact i2 i v c hv hc
  .rcases VO.mp m with rfl|m
   .exact p1.to F2
   .exact p2 x m
  .rw[XI];refine Ys.mpr ⟨d1,d2,λx mx y my z=>?_⟩;have:=(c1 x mx).2;have:=c2 y my;lia
  .rw[XI]at m;rcases W8.mp m with m|m
   .exact(c1 x m).1
   .have:=c2 x m;have:=F1.1;lia
end
section
variable{s:af}{p:Nat}{A:List aC}
structure Told(ah:Nat)(A B:List aC)(s0 s':af)(kg ka kb kp:Nat)(SA SB:List aC)(bs:List Pp):Prop where
 g:s'[kg]?=some (.lst [tV (l_ A B)])
 a:s'[ka]?=some (.lst (SA.map tV))
 b:s'[kb]?=some (.lst (SB.map tV))
 p:s'[kp]?=some (.lst (bs.map rB))
 n:bs.length=ah
 o:∀(i:Nat)b,bs[i]?=some b->B6 ah i SA SB b
 at_:∀b∈bs,rC s' b
 nd:([kg,ka,kb]++bs.flatMap qt).Nodup
 lo:∀c∈[kg,ka,kb]++bs.flatMap qt,s0.length<=c
 c:Cm ah A B (l_ A B) SA SB
theorem JO{g:aC}{S:List aC}(h:Mk ah g D S)(ne:D≠[]):S≠[]:=by
 rcases h with⟨rfl,_⟩|⟨t,q,_,rfl,_⟩
 .exact(ne rfl).elim
 .simp
theorem m8(m1:1<=ah)(m4:ah<=4)(hA:One ah A)(hB:One ah B)(ne:A≠[]\/B≠[])(hp:s[p]?=some (.lst (A.map tV)))(hq:s[q]?=some (.lst (B.map tV))):
  ∃kg ka kb kp s' SA SB bs,PM.common [.loc p,.loc q] s=.ok (.tup [.loc kg,.loc ka,.loc kb,.loc kp]) s'/\Ext s s'/\Told ah A B s s' kg ka kb kp SA SB bs:=by
 obtain⟨kg,ka,kb,s1,SA,SB,e1,F1,h1,h2,h3,lg,la,lb,C⟩:=Fn m1 m4 hA hB ne hp hq;have nS:SA++SB≠[]:=by
  intro z;obtain⟨z1,z2⟩:=List.append_eq_nil_iff.mp z;rcases ne with h|h
  .exact JO C.a h z1
  .exact JO C.b h z2
 obtain⟨g,hg⟩:=NE (l_ A B)
 have gl:g.1.length=ah:=by rw[hg];exact C.gl
 have Vm:=lg;rw[<-hg]at Vm;have i0:=gM (l:=g) (B:=[]) Vm;have i1:aU (tV g) (.int 0) s1=.ok (au g.1) s1:=bE (L2.d0 (xs:=[au g.1,.int g.2]) (j:=0) rfl);have kt:=uN g.1 s1;rw[gl]at kt;obtain⟨M,hM⟩:=NE ((ah:Int):Int)
 rw[<-hM]at kt;obtain⟨bs,s2,ec,F2,n2,i2,p2,d2,c2⟩:=AD (g:=λ_=>True) (a:=aq 0) (e:=ai PM.eT (aa (ag aU aW dJ) (aa (ag aU aW so) (aa aE aj)))) (s0:=s1) (λ_ _=>trivial) (λτ=>∃z,τ=[z,some (.tup [.loc kg,.loc ka,.loc kb])]) ak.int (λ(i:Int)b=>B6 ah i.toNat SA SB b) (eG 0 ah) [none,some (.tup [.loc kg,.loc ka,.loc kb])] s1 [] ⟨none,rfl⟩ Ext.m? (by
  rintro i mi τ s' ⟨z,rfl⟩ F;obtain⟨j,hj,rfl⟩:∃j:Nat,j<ah/\i=(j:Int):=by unfold eG at mi;obtain⟨j,hj,rfl⟩:=VP.mp mi;exact⟨j,XR.mp hj,⋯⟩
  obtain⟨b,s3,e3,F3,P3,o3,d3,c3⟩:=Fo m1 m4 C.a.sum C.b.sum nS hj (C.z j hj) (F.2 _ _ la) (F.2 _ _ lb);refine⟨[some (.int (j:Int)),some (.tup [.loc kg,.loc ka,.loc kb])],rfl,⟨_,rfl⟩,b,s3,?_,F3,P3,by rw[Wi];exact o3,d3,c3⟩;obtain⟨J,hJ⟩:=NE ((j:Int):Int)
  rw[<-hJ]at e3⊢;simp![bE yu,bE B5,e3])
 rw[VB]at ec;have Fp:(eG 0 ah).length=ah:=by unfold eG;rw[Vs,V!]
 obtain⟨s3,e3,F3,l3,_⟩:=put s2 (bs.map rB);have Ra:=Ext.trans F2 F3;have g1:=aX lb;refine⟨kg,ka,kb,s2.length,s3,SA,SB,bs,?_,Ext.trans F1 Ra,⟨Ra.2 _ _ lg,Ra.2 _ _ la,Ra.2 _ _ lb,l3,by rw[n2,Fp],λi b hb=>?_,λb m=>(p2 b m).to F3,?_,?_,C⟩⟩
 .have kF:fK 1 [2] [some (ak.loc p), qL q, some (.tup [.loc kg,.loc ka,.loc kb]), qn]=[none,some (.tup [.loc kg,.loc ka,.loc kb])]:=rfl;have rg:um [.int M] s1=.ok ((eG 0 ah).map ak.int,λ_=>True) s1:=by have:=iY (st:=s1) (j:=M) ⋯ ⋯;rw[dk,show M.toNat=ah by lia]at this;exact this
  have rl:((eG 0 ah).map ak.int).length<=16777216:=by rw[Vs,Fp];lia
  unfold PM.common;generalize ai PM.eT _=B at ec⊢;simp![dn,cJ,VT,VF,e1,bE yt,i0,i1,kt,rg,kF,ec,VA rl,<-e3,bE yu,bE B5]
 .have li:i<ah:=by have:=aX hb;rw[n2,Fp]at this;exact this
  have:=i2 i (i:Int) b (by
   unfold eG;rw[VV,XD li];show some (0+(i:Int))=_;rw[Xa]) hb
  rw[Wi]at this;exact this
 .refine Ys.mpr ⟨?_,d2,λx mx y my z=>?_⟩
  .refine Wd.mpr ⟨?_,Wd.mpr ⟨?_,Wd.mpr ⟨WZ,.nil⟩⟩⟩<;>simp<;>lia
  .have:=c2 y my;have:x=kg\/x=ka\/x=kb:=by simpa using mx
   lia
 .intro x m;rcases W8.mp m with m|m
  .have:x=kg\/x=ka\/x=kb:=by simpa using m
   lia
  .have:=c2 x m;have:=F1.1;lia
theorem w4(hp:s[p]?=some (.lst []))(hq:s[q]?=some (.lst [])):PM.common [.loc p,.loc q] s=.err "NoMeet" s:=by have e:=yX hp hq;simp![PM.common,Hj,VT,e]
end
end qm
variable {bs:List qm.Pp}
namespace qm
open PySem.Spec L2 MN
open PyProof.Rows hiding St
def Qc:List (Str×Str×Bool):=[(("NoRing":Str),("ByNought":Str),false),(("NoRing":Str),("NotWhole":Str),false),(("NoRing":Str),("NoMeet":Str),false),(("NoRing":Str),("NoParts":Str),false),(("NoRing":Str),("NoCount":Str),false),(("NoRing":Str),("NoInverse":Str),false),(("NoRing":Str),("NoLead":Str),false),(("NoRing":Str),("NoOrder":Str),false),(("NoRing":Str),("NoPrime":Str),false),(("NoRing":Str),("NoRing":Str),true),(("NoRing":Str),("NoSums":Str),false),(("NoRing":Str),("NoTerm":Str),false),(("NoRing":Str),("NotPlain":Str),false),(("NoRing":Str),("NotWritten":Str),false),(("NoRing":Str),("NoUnknowns":Str),false),(("NoRing":Str),("AlgebraError":Str),true),(("NoUnknowns":Str),("ByNought":Str),false),(("NoUnknowns":Str),("NotWhole":Str),false),(("NoUnknowns":Str),("NoMeet":Str),false),(("NoUnknowns":Str),("NoParts":Str),false),(("NoUnknowns":Str),("NoCount":Str),false),(("NoUnknowns":Str),("NoInverse":Str),false),(("NoUnknowns":Str),("NoLead":Str),false),(("NoUnknowns":Str),("NoOrder":Str),false),(("NoUnknowns":Str),("NoPrime":Str),false),(("NoUnknowns":Str),("NoRing":Str),false),(("NoUnknowns":Str),("NoSums":Str),false),(("NoUnknowns":Str),("NoTerm":Str),false),(("NoUnknowns":Str),("NotPlain":Str),false),(("NoUnknowns":Str),("NotWritten":Str),false),(("NoUnknowns":Str),("NoUnknowns":Str),true),(("NoUnknowns":Str),("AlgebraError":Str),true),(("NoMeet":Str),("ByNought":Str),false),(("NoMeet":Str),("NotWhole":Str),false),(("NoMeet":Str),("NoMeet":Str),true),(("NoMeet":Str),("NoParts":Str),false),(("NoMeet":Str),("NoCount":Str),false),(("NoMeet":Str),("NoInverse":Str),false),(("NoMeet":Str),("NoLead":Str),false),(("NoMeet":Str),("NoOrder":Str),false),(("NoMeet":Str),("NoPrime":Str),false),(("NoMeet":Str),("NoRing":Str),false),(("NoMeet":Str),("NoSums":Str),false),(("NoMeet":Str),("NoTerm":Str),false),(("NoMeet":Str),("NotPlain":Str),false),(("NoMeet":Str),("NotWritten":Str),false),(("NoMeet":Str),("NoUnknowns":Str),false),(("NoMeet":Str),("AlgebraError":Str),true)]
def tab:List (Str×Str×Bool):=Qc++PZ ["NoRing","NoUnknowns","NoMeet"]
def kn:_L:=["NoRing","NoUnknowns","NoMeet"]
def bT:Str->af->cL ak:=Tn 1 (aA (aN 1 (df (aa (dG (bY tab) kn 0 "ByNought") (aa (dG (bY tab) kn 0 "NotWhole") (aa (dG (bY tab) kn 0 "NoMeet") aj))))) (aA (aN 1 (ag cq aW (df (aa (dG (bY tab) kn 0 "NoParts") (aa (dG (bY tab) kn 0 "NoCount") (aa (dG (bY tab) kn 0 "NoInverse") aj)))))) (aA (aN 1 (ag cq aW (df (aa (dG (bY tab) kn 0 "NoLead") (aa (dG (bY tab) kn 0 "NoOrder") (aa (dG (bY tab) kn 0 "NoPrime") aj)))))) (aA (aN 1 (ag cq aW (df (aa (dG (bY tab) kn 0 "NoRing") (aa (dG (bY tab) kn 0 "NoSums") (aa (dG (bY tab) kn 0 "NoTerm") aj)))))) (aA (aN 1 (ag cq aW (df (aa (dG (bY tab) kn 0 "NotPlain") (aa (dG (bY tab) kn 0 "NotWritten") (aa (dG (bY tab) kn 0 "NoUnknowns") aj)))))) (aA (fL (eV (cH (ck (dG (bY tab) kn 0 "AlgebraError"))) (eV (cH (ck (yb (bY tab) 0 "ValueError"))) (ck (ag gC (g6 jH aW (aa (mC (.bl true)) aj)) dJ)))) (aK (ue dJ)) bz) (aK (g6 kK aW (aa (mC (.bl true)) aj)))))))))
def cS:FN:=gf 2 3 (pR (pQ (LW kn) (aK (ai PM.common (Cq (aa aE (aa aW aj))))) (DN (bY tab) "AlgebraError" 2 (aK (iA 2 bT)) x?)))
def ti:MB:=(aK (q9 (ag gB (ag aU (ir 12) bI) (ir 11)) (q9 (ag gB (ai PM.bX (aa (ag aU (ir 12) bI) (aa (ag aU (ir 12) dJ) aj))) (ag aU c5 bI)) (ag gB zO c5))))
def j3:MB:=(aA (aN 12 (ai PM.common (aa (ag aU zO bI) (aa (ag aU zO dJ) aj)))) ti)
def tj:MB:=(aA (fL (cH (ck (ai PM.iO (aa (ir 9) aj)))) (aK (mC (.bl false))) bz) j3)
def tm:MB:=(aA (aN 11 (ai fw (aa (ag aU oQ bI) aj))) tj)
def tq:MB:=(aA (d5 (b_ (aa aW aj)) (aq 10) (aA (fL (cH (ck (ai PM.gQ (aa (ag aU oQ dJ) (aa (ag aU oQ so) (aa (ag aU (ag aU oQ Bd) Bc) (aa Bc (aa aW aj)))))))) (aK (mC (.bl false))) bz) (aN 9 (ag cq (ir 9) (ai fw (aa (ag aU (ag aU oQ Bd) Bc) aj)))))) tm)
def j4:MB:=(aA (aN 9 (ai fw (aa (Bq oQ je (jf Bd)) aj))) tq)
def tw:MB:=(aA (fL (eV (ck (ag gC (ai PM.bX (aa (ag aU oQ bI) (aa (ag aU oQ dJ) aj))) (ag aU c5 bI))) (ck (ag gC (ai PM.bX (aa (ag aU oQ bI) (aa (ag aU oQ so) aj))) (ag aU c5 dJ)))) (aK (mC (.bl false))) bz) j4)
def w5:MB:=(aA (fL (eV (ck (ag gC (ag aU oQ bI) (ai PM.dZ (aa (ag aU c5 bI) (aa (ag aU c5 dJ) aj))))) (ck (ag gC (ai cZ (aa (ag aU oQ Bd) aj)) aW))) (aK (mC (.bl false))) bz) tw)
def w6:MB:=(aA (d5 (b_ (aa Bd aj)) (aq 4) (fL (cH (ck (ai PM.cf (aa (ag aU oQ fV) (aa aW aj))))) (aK (mC (.bl false))) bz)) w5)
def qu:MB:=(aA (fL (eV (cH (ck (vP "tuple" oQ))) (eV (ck (ag gC (ai cZ (aa oQ aj)) vL)) (eV (ck (ag gC zO c5)) (cH (ck (vP "list" (ag aU oQ Bd))))))) (aK (mC (.bl false))) bz) w6)
def qv:MB:=(aA (fL (ck (ag gB c5 (df (aa (df aj) (aa (df aj) aj))))) (aK (ag gB oQ so)) bz) qu)
def qw:MB:=(aA (aN 8 (ai cS (aa (ag aU zO bI) (aa (ag aU zO dJ) aj)))) qv)
def jM:MB:=(aA (aN 7 (aO 1 [] (bQ c5) (aq 0) aw (ai fw (aa aE aj)))) qw)
def w9:MB:=(aA (d5 (b_ (aa so aj)) (aq 4) (aA (aN 5 (ai ye (aa (ag GX (ag dE (ag eO (ai PM.bZ (aa aE (aa bI aj))) (ag aU (df (aa vL (aa vM aj))) fV)) Lp) bI) aj))) (aA (aN 6 (ai PM.d_ (aa (ai PM.bZ (aa aE (aa (ag cq so fV) aj))) (aa aW (aa kY (aa bK (aa (ag dE (ag eO (ai PM.bZ (aa aE (aa dJ aj))) vL) Bd) aj))))))) (aA (fL (ck (ag gB (ag dE (ag eO (ai PM.bZ (aa aE (aa dJ aj))) (mC (.int 12))) so) dJ)) (aN 6 (aO 1 [0] (bQ oP) (aq 0) aw (cQ (aa (ag aU aE bI) (aa (ag dg (ag aU aE dJ) (ag cq dJ (ag dE (ai PM.bZ (aa aW (aa vL aj))) (ag uc Be vM)))) aj))))) bz) (dy (g6 de c5 (aa oP aj))))))) jM)
def w_:MB:=(aA (aN 3 (df aj)) w9)
def w!:MB:=(aA (aN 2 (ag aU (df (aa (mC (.int 9)) (aa (mC (.int 99)) aj))) (ai ye (aa (ag gB (ag dE (ai PM.bZ (aa aE (aa dJ aj))) vL) dJ) aj)))) w_)
def Fq:FN:=gf 1 13 (aA (aN 1 (ag cq dJ (ag dE (ai PM.bZ (aa aE (aa bI aj))) vL))) w!)
open PySem.Spec L2 MN PG
open PyProof.Rows hiding St kindOf
theorem isq{μ:MN.Env}{s:af}{c:Str}{b:Bool}(h:μ[0]?=some (some (.exc c)))(hk:kn.contains c=true)(hs:bY tab c x=some b):dG (bY tab) kn 0 x μ s=.ok (.bl b) s:=by unfold dG;rw[h];dsimp only;rw[VA hk,hs]
theorem Fs{μ:MN.Env}{s:af}{m1 m2 m3:ME}{w:ak}(h1:m1 μ s=.ok u s)(h2:m2 μ s=.ok v s)(h3:m3 μ s=.ok w s):aa m1 (aa m2 (aa m3 aj)) μ s=.ok [u,v,w] s:=JD h1 (gu h2 h3)
theorem j5{e:Option ak}{s:af}{n:Nat}{vs:List ak}{a:MA}(h:s[n]?=some (.lst us))(ha:a [e,some (.loc n)] s=.ok vs s)(hl:us.length<=100)(hv:vs.length<=100):
  ∃m s',aN 1 (ag cq aW (df a)) [e,some (.loc n)] s=.nx [e,some (.loc m)] s'/\(∃g,s'=s++g)/\s'[m]?=some (.lst (us++vs)):=by
 obtain⟨s1,fY⟩:=NE (s++[bx.lst vs])
 have h1:s1[n]?=some (.lst us):=by rw[fY];exact dC h _
 have h2:s1[s.length]?=some (.lst vs):=by rw[fY];exact fD s _
 refine⟨s1.length,s1++[.lst (us++vs)],?_,⟨[.lst vs,.lst (us++vs)],by rw[fY,VU];rfl⟩,fD s1 _⟩;have ad:ag cq aW (df a) [e,some (.loc n)] s=.ok (.loc s1.length) (s1++[.lst (us++vs)]):=by rw[bF (x:=.loc n) (s1:=s) rfl (m9 ha ⋯),<-fY];show(match s1[n]?,s1[s.length]? with|some (.lst us),some (.lst ws)=>if us.length+ws.length<=sizeLine then cL.ok (ak.loc s1.length) (s1++[bx.lst (us++ws)])else .bad|_,_=>.bad)=_;rw[h1,h2];dsimp only;rw[VA (by rw[VF];lia)]
 rw[dM ad];rfl
theorem B7{c:Str}{b0 b3 b4 b5 b6 b7 b8 b9 b10 b11 b12 b13 b14:Bool}{j:Nat}(hk:kn.contains c=true)(h0:bY tab c "ByNought" = some b0)(h1:bY tab c "NotWhole" = some b1)(h2:bY tab c "NoMeet" = some b2)(h3:bY tab c "NoParts" = some b3)(h4:bY tab c "NoCount" = some b4)(h5:bY tab c "NoInverse" = some b5)(h6:bY tab c "NoLead" = some b6)(h7:bY tab c "NoOrder" = some b7)(h8:bY tab c "NoPrime" = some b8)(h9:bY tab c "NoRing" = some b9)(Qd:bY tab c "NoSums" = some b10)(Nn:bY tab c "NoTerm" = some b11)(Qe:bY tab c "NotPlain" = some b12)(Qf:bY tab c "NotWritten" = some b13)(Qg:bY tab c "NoUnknowns" = some b14)(hA:bY tab c "AlgebraError" = some true)(hV:bY tab c "ValueError" = some true)(hc:([b0,b1,b2,b3,b4,b5,b6,b7,b8,b9,b10,b11,b12,b13,b14].map ak.bl).countP (λy=>zR y (.bl true))=1)(hj:([b0,b1,b2,b3,b4,b5,b6,b7,b8,b9,b10,b11,b12,b13,b14].map ak.bl).findIdx? (λy=>zR y (.bl true))=some j)(st:af):
  ∃g,bT c st=.ok (.int (j:Int)) (st++g):=by
 have q:∀{x:Str}{b:Bool}{y:Option ak}{s:af},bY tab c x=some b->dG (bY tab) kn 0 x [some (.exc c),y] s=.ok (.bl b) s:=λ{x b y s}h=>isq rfl hk h;obtain⟨s1,fY⟩:=NE (st++[bx.lst [ak.bl b0,.bl b1,.bl b2]])
 have f1:aN 1 (df (aa (dG (bY tab) kn 0 "ByNought") (aa (dG (bY tab) kn 0 "NotWhole") (aa (dG (bY tab) kn 0 "NoMeet") aj)))) [some (.exc c),none] st=.nx [some (.exc c),some (.loc st.length)] s1:=by rw[dM (m9 (Fs (q h0) (q h1) (q h2)) (by show 3<=1000;decide)),fY];rfl
 have a1:s1[st.length]?=some (.lst [ak.bl b0,.bl b1,.bl b2]):=by rw[fY];exact fD st _
 obtain⟨m2,s2,f2,⟨g2,e2⟩,a2⟩:=j5 (e:=some (.exc c)) a1 (Fs (q h3) (q h4) (q h5)) (by show 3<=100;decide) (by show 3<=100;decide);obtain⟨m3,s3,f3,⟨g3,e3⟩,a3⟩:=j5 (e:=some (.exc c)) a2 (Fs (q h6) (q h7) (q h8)) (by show 6<=100;decide) (by show 3<=100;decide);obtain⟨m4,s4,f4,⟨g4,e4⟩,a4⟩:=j5 (e:=some (.exc c)) a3 (Fs (q h9) (q Qd) (q Nn)) (by show 9<=100;decide) (by show 3<=100;decide);obtain⟨m5,s5,f5,⟨g5,e5⟩,a5⟩:=j5 (e:=some (.exc c)) a4 (Fs (q Qe) (q Qf) (q Qg)) (by show 12<=100;decide) (by show 3<=100;decide);replace a5:s5[m5]?=some (.lst ([b0,b1,b2,b3,b4,b5,b6,b7,b8,b9,b10,b11,b12,b13,b14].map ak.bl)):=a5;obtain⟨bs,Q8⟩:=NE ([b0,b1,b2,b3,b4,b5,b6,b7,b8,b9,b10,b11,b12,b13,b14])
 rw[<-Q8]at a5 hc hj;have fl:(bs.map ak.bl).all flat=true:=Wk.mpr λx hx=>by obtain⟨b,_,rfl⟩:=VP.mp hx;rfl
 refine⟨[bx.lst [ak.bl b0,.bl b1,.bl b2]]++g2++g3++g4++g5,?_⟩;have es:st++([bx.lst [ak.bl b0,.bl b1,.bl b2]]++g2++g3++g4++g5)=s5:=by rw[e5,e4,e3,e2,fY];simp only[VU]
 rw[es];have v1:∀s,aW [some (.exc c),some (.loc m5)] s=.ok (.loc m5) s:=λ_=>rfl;have cnt:g6 jH aW (aa (mC (.bl true)) aj) [some (.exc c),some (.loc m5)] s5=.ok (.int 1) s5:=by rw[mX,v1,ao,sH a5];show jH (.loc m5) [.bl true] s5=_;unfold jH;dsimp only;rw[a5];dsimp only;rw[VA ⟨rfl,fl⟩,hc];rfl
 have idx:g6 kK aW (aa (mC (.bl true)) aj) [some (.exc c),some (.loc m5)] s5=.ok (.int (j:Int)) s5:=by rw[mX,v1,ao,sH a5];show kK (.loc m5) [.bl true] s5=_;unfold kK;dsimp only;rw[a5];dsimp only;rw[VA ⟨rfl,fl⟩,hj]
 have tA:cH (ck (dG (bY tab) kn 0 "AlgebraError")) [some (.exc c),some (.loc m5)] s5=.ok false s5:=EE (iz (q hA));have TL:yb (bY tab) 0 "ValueError" [some (.exc c),some (.loc m5)] s5=.ok (.bl true) s5:=by show(match bY tab c "ValueError" with|some true=>cL.ok (ak.bl true) s5|_=>.bad)=_;rw[hV]
 have tV':cH (ck (yb (bY tab) 0 "ValueError")) [some (.exc c),some (.loc m5)] s5=.ok false s5:=EE (iz TL);have tC:ck (ag gC (g6 jH aW (aa (mC (.bl true)) aj)) dJ) [some (.exc c),some (.loc m5)] s5=.ok false s5:=by refine iz ?_;rw[bF cnt (y:=.int 1) (s2:=s5) rfl];rfl
 have f6:=wA (B:=aK (ue dJ)) (JC tA (JC tV' tC));show(aA _ _ [some (.exc c),none] st).fin=_;rw[ax,f1,aB,ax,f2,aB,ax,f3,aB,ax,f4,aB,ax,f5,aB,ax,f6,aB,aQ,idx,ay];rfl
theorem yY(st:af):∃g,bT "NoMeet" st=.ok (.int 2) (st++g):=
 B7 (c:="NoMeet") (b0:=false) (b1:=false) (b2:=true) (b3:=false) (b4:=false) (b5:=false) (b6:=false) (b7:=false) (b8:=false) (b9:=false) (b10:=false) (b11:=false) (b12:=false) (b13:=false) (b14:=false) (j:=2) (by decide +kernel) (by decide +kernel) (by decide +kernel) (by decide +kernel) (by decide +kernel) (by decide +kernel) (by decide +kernel) (by decide +kernel) (by decide +kernel) (by decide +kernel) (by decide +kernel) (by decide +kernel) (by decide +kernel) (by decide +kernel) (by decide +kernel) (by decide +kernel) (by decide +kernel) (by decide +kernel) rfl rfl st
section
variable{s:af}{p b:Nat}
theorem Ft{c:Str}(hc:kn.contains c=true)(hA:bY tab c "AlgebraError" = some true)(h:PM.common [.loc p,.loc b] s=.err c s')(hk:∀st,∃g,bT c st=.ok (.int j) (st++g)):∃g,cS [.loc p,.loc b] s=.ok (.int j) (s'++g):=by
 obtain⟨g,hg⟩:=hk s';refine⟨g,?_⟩;unfold cS;rw[aZ (np:=2) (us:=[ak.loc p,.loc b]) rfl];show(pR (pQ (LW kn) (aK (ai PM.common (Cq (aa aE (aa aW aj))))) (DN (bY tab) "AlgebraError" 2 (aK (iA 2 bT)) x?)) [qL p, qL b, qn] s).fin=_;have arg:Cq (aa aE (aa aW aj)) [some (ak.loc p), qL b, qn] s=.ok [.loc p,.loc b] s:=rfl;have bd:aK (ai PM.common (Cq (aa aE (aa aW aj)))) [qL p, qL b, qn] s=.er c [qL p, qL b, qn] s':=by rw[aQ,aR arg,h];rfl
 have hd:DN (bY tab) "AlgebraError" 2 (aK (iA 2 bT)) x? c [qL p, qL b, qn] s'=.rt (.int j) (s'++g):=by
  unfold DN;rw[hA];show ya (aK (iA 2 bT) [qL p, qL b, some (.exc c)] s')=_;have:iA 2 bT [qL p, qL b, some (.exc c)] s'=.ok (.int j) (s'++g):=by show Pa (bT c s')=_;rw[hg];rfl
  rw[aQ,this];rfl
 have tr:pQ (LW kn) (aK (ai PM.common (Cq (aa aE (aa aW aj))))) (DN (bY tab) "AlgebraError" 2 (aK (iA 2 bT)) x?) [qL p, qL b, qn] s=.rt (.int j) (s'++g):=by unfold pQ;rw[bd];dsimp only;rw[VA (show LW kn c=true from hc),hd]
 unfold pR;rw[tr];rfl
theorem Fu(h:PM.common [.loc p,.loc b] s=.ok v s'):cS [.loc p,.loc b] s=.ok v s':=by
 unfold cS;rw[aZ (np:=2) (us:=[ak.loc p,.loc b]) rfl];show(pR (pQ (LW kn) (aK (ai PM.common (Cq (aa aE (aa aW aj))))) (DN (bY tab) "AlgebraError" 2 (aK (iA 2 bT)) x?)) [qL p, qL b, qn] s).fin=_;have arg:Cq (aa aE (aa aW aj)) [some (ak.loc p), qL b, qn] s=.ok [.loc p,.loc b] s:=rfl;have bd:aK (ai PM.common (Cq (aa aE (aa aW aj)))) [qL p, qL b, qn] s=.rt v s':=by rw[aQ,aR arg,h];rfl
 have tr:pQ (LW kn) (aK (ai PM.common (Cq (aa aE (aa aW aj))))) (DN (bY tab) "AlgebraError" 2 (aK (iA 2 bT)) x?) [qL p, qL b, qn] s=.rt v s':=by unfold pQ;rw[bd]
 unfold pR;rw[tr];rfl
theorem B8(hp:s[p]?=some (.lst []))(hq:s[b]?=some (.lst [])):∃g,cS [.loc p,.loc b] s=.ok (.int 2) (s++g):=
 Ft (c:="NoMeet") (by decide +kernel) (by decide +kernel) (w4 hp hq) yY
end
theorem Fv(a:Int){b:Int}(h:b≠0):(a.fmod b).natAbs<b.natAbs:=by
 rw[Int.fmod_eq_emod];have h1:=X5 a h;have h2:=Int.emod_lt a h;by_cases c:0<=b\/b ∣ a
 .rw[VA c];lia
 .rw[VL c];have:a % b≠0:=λz=>c (.inr (Int.dvd_of_emod_eq_zero z));lia
def Qh(μ:MN.Env):Nat:=match(μ[1]?:Option (Option ak)) with
 |some (some (.int n))=>n.natAbs
 |_=>0
theorem B9(n m:Int)(st:af):PM.e! [.int n,.int m] st=.ok (.int ((Nat.gcd n.natAbs m.natAbs:Nat):Int)) st:=by
 obtain⟨μ',az,e,rfl,a,x',rfl,ha⟩:=kH (t:=JA) (body:=NB)
  (λμ s=>s=st/\∃(a b:Int)(x:Option ak),μ=[qI a, qI b, x]/\Int.gcd a b=Nat.gcd n.natAbs m.natAbs) (λμ _=>Qh μ)
  (λμ s=>s=st/\∃(a:Int)(x:Option ak),μ=[qI a, qI 0, x]/\a.natAbs=Nat.gcd n.natAbs m.natAbs)
  (by
   rintro μ s ⟨rfl,a,b,x,rfl,hg⟩;by_cases z:b=0
   .subst z;refine .inl ⟨s,?_,rfl,a,x,rfl,?_⟩
    .have z:((0:Int)==0)=true:=rfl;simp![JA,We,z]
    .rw[<-hg,Z?]
   .have z':(b==0)=false:=V6.mpr z;refine .inr ⟨s,[qI b, qI (a.fmod b), qI (a.fmod b)],s,?_,.inl ?_,⟨rfl,_,_,_,rfl,?_⟩,Fv a z⟩
    .simp![JA,Ya,z']
    .simp![NB,c8 z]
    .rw[<-hg,ZD a b];have:a.fmod b=a-b*a.fdiv b:=by have:=ZM a b;lia
     rw[this,YV];exact Int.gcd_sub_mul_right_right _ _ _)
  [qI n, qI m, qn] st ⟨rfl,n,m,none,rfl,rfl⟩
 unfold PM.e!;rw[aZ (np:=2) (us:=[ak.int n,.int m]) rfl];show(aA (fA JA NB) (aK (ai lK (aa aE aj))) [qI n, qI m, qn] az).fin=_;rw[ax,e,aB,<-ha,<-oU];simp only[ao,ay,bR,aT,aH,cO,aS,aG,aP,aQ,z_,bJ]
section
variable{s:af}{p:Nat}{A:List aC}
theorem IJ(i j:Int)(s:af):wJ [.int i,.int j] s=.ok (.int (FT i j)) s:=by unfold FT;show cL.ok (ak.int (if j<i then j else i)) s=_;rfl
theorem M8(hA:One ah A)(hB:One ah B)(m4:ah<=4)(ne:A≠[]\/B≠[])(hp:s[p]?=some (.lst (A.map tV)))(hq:s[q]?=some (.lst (B.map tV))):
  ∃k s',PM.dZ [.loc p,.loc q] s=.ok (.loc k) s'/\Ext s s'/\s'[k]?=some (.lst [tV (l_ A B)]):=by
 obtain⟨s1,e1,F1,l1,_⟩:=put s [];have q1:=eq_nil (av (F1.2 _ _ hp)) (av l1)
 -- one of aag is M7
 have one:∀(s2:af)(t:aC),Ext s s2->A++B=[t]->∃k s',aO 1 [] (bQ (ag cq aE aW)) (aq 0) aw (cQ (aa (ag aU aE bI) (aa (ai lK (aa (ag aU aE dJ) aj)) aj))) [qL p, qL q, qn] s2=.ok (.loc k) s'/\Ext s2 s'/\s'[k]?=some (.lst [tV (t.1,(t.2.natAbs:Int))]):=by
  intro s2 t F h;have ad:=pZ (F.2 _ _ hp) (F.2 _ _ hq) (by rw[Vs,Vs,VF];have:=hA.l;have:=hB.l;lia);rw[<-WW,h]at ad;obtain⟨s3,e3,F3,l3,_⟩:=put s2 ([t].map tV);rw[<-e3]at ad;have c:=jX (g:=λst=>ar st s2.length=some [tV t]) (a:=aq 0) (e:=cQ (aa (ag aU aE bI) (aa (ai lK (aa (ag aU aE dJ) aj)) aj))) (st:=s3) (av l3) (λτ=>∃z,τ=[z]) tV (λ(_:aC)=>tV (t.1,(t.2.natAbs:Int))) [t] [none] [] ⟨_,rfl⟩ (by
   rintro r mr τ ⟨z,rfl⟩;rw[VZ.mp mr];refine⟨[some (tV t)],rfl,⟨_,rfl⟩,?_⟩;have v0:aE [some (tV t)] s3=.ok (tV t) s3:=rfl;have a1:ag aU aE bI [some (tV t)] s3=.ok (au t.1) s3:=by rw[bF v0 (y:=.int 0) (s2:=s3) rfl];exact bE yt
   have a2:ag aU aE dJ [some (tV t)] s3=.ok (.int t.2) s3:=by rw[bF v0 (y:=.int 1) (s2:=s3) rfl];exact bE yu
   have a3:ai lK (aa (ag aU aE dJ) aj) [some (tV t)] s3=.ok (.int (t.2.natAbs:Int)) s3:=by rw[aR (dY a2),z_,oU]
   exact i? (gu a1 a3) (by show 2<=1000;decide))
  rw[VB]at c;refine⟨s3.length,s3++[.lst [tV (t.1,(t.2.natAbs:Int))]],?_,Ext.trans F3 (Ext.app _ _),fD _ _⟩;have kF:fK 1 [] [some (ak.loc p), qL q, qn]=[none]:=rfl;have b1:ag cq aE aW [qL p, qL q, qn] s2=.ok (.loc s2.length) s3:=by rw[bF (x:=.loc p) (s1:=s2) rfl (y:=.loc q) (s2:=s2) rfl,ad]
  rw[cJ,cy,b1,ao,bH (av l3),ao,dn,VA (by rw[VF];show 1<=_;decide),kF];show(bN (λst=>ar st s2.length=some [tV t]) (aq 0) aw _ ([t].map tV) [none] s3 []).f9 _=_;rw[c,ao,eQ];rfl
 rcases hA.cases with rfl|⟨t,rfl⟩
 .rcases hB.cases with rfl|⟨u,rfl⟩
  .rcases ne with h|h<;>exact(h rfl).elim
  .obtain⟨k,s',e,F,l⟩:=one s1 u F1 rfl;refine⟨k,s',?_,Ext.trans F1 F,l⟩;have z:(([]:List aC).map tV).isEmpty=true:=rfl;rw[z]at q1;unfold PM.dZ;generalize aO 1 [] _ (aq 0) aw _=C at e⊢;simp![VT,VF,<-e1,q1,e]
 .have z:(([t]:List aC).map tV).isEmpty=false:=rfl;rw[z]at q1;obtain⟨s2,e2,F2,l2,_⟩:=put s1 [];have q2:=eq_nil (av (F2.2 _ _ (F1.2 _ _ hq))) (av l2);rcases hB.cases with rfl|⟨u,rfl⟩
  .obtain⟨k,s',e,F,l⟩:=one s2 t (Ext.trans F1 F2) rfl;refine⟨k,s',?_,Ext.trans F1 (Ext.trans F2 F),l⟩;have z:(([]:List aC).map tV).isEmpty=true:=rfl;rw[z]at q2;unfold PM.dZ;generalize aO 1 [] _ (aq 0) aw _=C at e⊢;simp![VT,VF,<-e1,q1,<-e2,q2,e]
  .have z:(([u]:List aC).map tV).isEmpty=false:=rfl;rw[z]at q2;have uO:=Ext.trans F1 F2;have Nk:=uO.2 _ _ hp;have hq2:=uO.2 _ _ hq;have ht:=hA.s.len t Vu;have hu:=hB.s.len u Vu;have pI:∀s':af,Ext s2 s'->aU (.loc p) (.int 0) s'=.ok (tV t) s':=λs' F=>gM (l:=t) (B:=[]) (F.2 _ _ Nk);have qI:∀s':af,Ext s2 s'->aU (.loc q) (.int 0) s'=.ok (tV u) s':=λs' F=>gM (l:=u) (B:=[]) (F.2 _ _ hq2);have t0:∀(x:aC)(s':af),aU (tV x) (.int 0) s'=.ok (au x.1) s':=λx s'=>bE yt;have t1:∀(x:aC)(s':af),aU (tV x) (.int 1) s'=.ok (.int x.2) s':=λx s'=>bE yu;have kt:=uN t.1 s2;rw[ht]at kt;obtain⟨M,hM⟩:=NE ((ah:Int):Int)
   rw[<-hM]at kt;have c:=p_ (g:=λ_=>True) (a:=aq 0) (e:=ai wJ (aa (ag aU (ag aU (ag aU aW bI) bI) aE) (aa (ag aU (ag aU (ag aU bK bI) bI) aE) aj))) (st:=s2) trivial (λτ=>∃z,τ=[z, qL p, qL q]) (λi=>.int ((fF t.1 u.1).getD i.toNat 0)) (eG 0 ah) [qn, qL p, qL q] [] ⟨none,rfl⟩ (by
    rintro i mi τ ⟨z,rfl⟩;have bi:0<=i/\i<(ah:Int):=by unfold eG at mi;obtain⟨j,hj,rfl⟩:=VP.mp mi;have:=XR.mp hj;lia
    have x1:aU (au t.1) (.int i) s2=.ok (.int (t.1.getD i.toNat 0)) s2:=bE (at_getD bi.1 ⋯);have x2:aU (au u.1) (.int i) s2=.ok (.int (u.1.getD i.toNat 0)) s2:=bE (at_getD bi.1 ⋯);refine⟨[some (.int i),some (.loc p),some (.loc q)],rfl,⟨_,rfl⟩,?_⟩;have g:=yW (a:=t.1) (b:=u.1) i.toNat ⋯;unfold gx at g;rw[g];simp![pI s2 Ext.m?,qI s2 Ext.m?,t0,x1,x2,IJ])
   have ll:(fF t.1 u.1).length=ah:=by rw[oX ⋯,ht]
   rw[VB,<-ll,s?,ll]at c;obtain⟨s3,e3,F3,l3,_⟩:=put s2 ((fF t.1 u.1).map ak.int);have tp:=iZ (av l3);have eu:=B9 t.2 u.2 s3;obtain⟨d,hd⟩:=NE (((Nat.gcd t.2.natAbs u.2.natAbs:Nat):Int):Int)
   rw[<-hd]at eu;refine⟨s3.length,s3++[.lst [tV (fF t.1 u.1,d)]],?_,Ext.trans uO (Ext.trans F3 (Ext.app _ _)),by show _=some (bx.lst [tV (fF t.1 u.1,((Nat.gcd t.2.natAbs u.2.natAbs:Nat):Int))]);rw[<-hd];exact fD _ _⟩;have kF:fK 1 [0,1] [some (ak.loc p), qL q, qn]=[qn, qL p, qL q]:=rfl;have rg:um [.int M] s2=.ok ((eG 0 ah).map ak.int,λ_=>True) s2:=by have:=iY (st:=s2) (j:=M) ⋯ ⋯;rw[dk,show M.toNat=ah by lia]at this;exact this
   have rl:((eG 0 ah).map ak.int).length<=16777216:=by unfold eG;rw[Vs,Vs,V!];lia
   have comp:aO 1 [0,1] (b_ (aa (ai cZ (aa (ag aU (ag aU aE bI) bI) aj)) aj)) (aq 0) aw (ai wJ (aa (ag aU (ag aU (ag aU aW bI) bI) aE) (aa (ag aU (ag aU (ag aU bK bI) bI) aE) aj))) [qL p, qL q, qn] s2=.ok (.loc s2.length) s3:=by generalize ai wJ _=B at c⊢;simp![dn,cJ,VF,pI s2 Ext.m?,t0,kt,rg,kF,c,VA rl,<-e3]
   unfold PM.dZ;generalize aO 1 [0,1] _ (aq 0) aw _=C at comp⊢;generalize aO 1 [] _ (aq 0) aw _=C';simp![VT,VF,<-e1,q1,<-e2,q2,comp,tp,pI s3 F3,qI s3 F3,t1,eu];rfl
end
theorem tD(D:List aC):e_ 14 (D.map tV)=true:=iF λu hu=>by obtain⟨t,_,rfl⟩:=VP.mp hu;show(e_ 12 (t.1.map ak.int)&&(true&&true))=true;rw[jE];rfl
theorem w?(h:∀t∈D,t.1.length=ah):h_ [(lX ah,1)] D=D:=by unfold h_;rw[XI,List.flatMap_nil,Wa];refine(Wc λt m=>?_).trans (Yt D);show(a_ (lX ah) t.1,1*t.2)=t;rw[qq (h t m),Int.one_mul]
theorem xa{u:Nat}{S:List aC}(h:One ah S)(z:Ag S u=0):∃t,S=[t]/\t.1.getD u 0=0:=by
 rcases h.cases with rfl|⟨t,rfl⟩
 .exact absurd (show(-1:Int)=0 from z) ⋯
 .exact⟨t,rfl,z⟩
section
variable{s:af}{u:Nat}{b:Pp}
theorem IK(m1:1<=ah)(m4:ah<=4)(hA:One ah SA)(hB:One ah SB)(la:s[ka]?=some (.lst (SA.map tV)))(lb:s[kb]?=some (.lst (SB.map tV)))(P:rC s b)(o:B6 ah u SA SB b):
  ∃t k k' s1 s2 M9 s3,b.2.2.2=[t]/\One ah [t]/\t.1.getD u 0=0/\(∀D,D=b.2.1\/D=b.2.2.1->eh ah D)/\PM.bX [.loc b.1.1,.loc ka] s=.ok (.loc k) s1/\PM.bX [.loc b.1.2.1,.loc kb] s1=.ok (.loc k') s2/\PM.iN [.loc k,.loc k'] s2=.ok (.loc M9) s3/\Ext s s3/\s3[M9]?=some (.lst [tV t]):=by
 have su:eh ah [((lX ah,1):aC)]:=gN Wn (λe m=>by rw[(List.mem_replicate.mp m).2];exact Yv _) (by show(1:Int)≠0;decide);have lu:∀t∈[((lX ah,1):aC)],t.1.length=ah:=su.len;rcases o with⟨e,z⟩|⟨e,z⟩
 .obtain⟨t,rfl,ht⟩:=xa hA z;have p1:=P.a;have p2:=P.b;rw[e]at p1 p2;obtain⟨k,s1,e1,N1⟩:=fG (av p1) (av la) m1 m4 lu hA.s.len (λx hx y hy=>by rw[VZ.mp hx];exact iL (Ai (k:=1) ⋯) (hA.b y hy) ⋯ ⋯) (by show 1*1<_;decide);rw[w? hA.s.len,gK hA.s]at N1;obtain⟨k',s2,e2,N2⟩:=fG (A:=[]) (N1.E? (av p2)) (N1.E? (av lb)) m1 m4 (λx m=>by cases m) hB.s.len (λx m=>by cases m) (by show 0*_<_;lia);rw[show h_ [] SB=[]from rfl,gK (sum_nil ah)]at N2;obtain⟨M9,s3,e3,N3⟩:=nT (N2.old N1.2.2) N2.2.2 (λx m=>by
   rw[Wa]at m;have:=hA.s.len x m;intro z;rw[z]at this;show False;have:ah=0:=this.symm;lia) (by show 1+0<_;decide)
  rw[Wa,gK hA.s]at N3;exact⟨t,k,k',s1,s2,M9,s3,by rw[e],hA,ht,λD h=>by
   rw[e]at h;rcases h with rfl|rfl
   .exact su
   .exact sum_nil ah,e1,e2,e3,Ext.trans (Ext.new N1) (Ext.trans (Ext.new N2) (Ext.new N3)),N3.2.2⟩
 .obtain⟨t,rfl,ht⟩:=xa hB z;have p1:=P.a;have p2:=P.b;rw[e]at p1 p2;obtain⟨k,s1,e1,N1⟩:=fG (A:=[]) (av p1) (av la) m1 m4 (λx m=>by cases m) hA.s.len (λx m=>by cases m) (by show 0*_<_;lia);rw[show h_ [] SA=[]from rfl,gK (sum_nil ah)]at N1;obtain⟨k',s2,e2,N2⟩:=fG (N1.E? (av p2)) (N1.E? (av lb)) m1 m4 lu hB.s.len (λx hx y hy=>by rw[VZ.mp hx];exact iL (Ai (k:=1) ⋯) (hB.b y hy) ⋯ ⋯) (by show 1*1<_;decide);rw[w? hB.s.len,gK hB.s]at N2;obtain⟨M9,s3,e3,N3⟩:=nT (P:=[]) (N2.old N1.2.2) N2.2.2 (λx m=>by
   have:=hB.s.len x m;intro z;rw[z]at this;show False;have:ah=0:=this.symm;lia) (by show 0+1<_;decide)
  rw[VB,gK hB.s]at N3;exact⟨t,k,k',s1,s2,M9,s3,by rw[e],hB,ht,λD h=>by
   rw[e]at h;rcases h with rfl|rfl
   .exact sum_nil ah
   .exact su,e1,e2,e3,Ext.trans (Ext.new N1) (Ext.trans (Ext.new N2) (Ext.new N3)),N3.2.2⟩
abbrev TM:MB:=fL (cH (ck (ai PM.cf (aa kY (aa fV aj))))) (aK (mC (.bl false))) bz
abbrev TN:MB:=fL (ck (ag gC (ag aU oP c5) bI)) (aK (mC (.bl false))) bz
theorem uP(m1:1<=ah)(m4:ah<=4)(hu:u<ah)(hA:One ah SA)(hB:One ah SB)(la:s[ka]?=some (.lst (SA.map tV)))(lb:s[kb]?=some (.lst (SB.map tV)))(P:rC s b)(o:B6 ah u SA SB b):
  ∃s',PM.gQ [.loc ka,.loc kb,rB b,.int (u:Int),.int (ah:Int)] s=.ok (.bl true) s'/\Ext s s':=by
 obtain⟨t,k,k',s1,s2,M9,s3,eC,oC,ht,sm,e1,e2,e3,F,lk⟩:=IK m1 m4 hA hB la lb P o;obtain⟨U,hU⟩:=NE ((u:Int):Int)
 obtain⟨M,hM⟩:=NE ((ah:Int):Int)
 have pc:=P.c;rw[eC]at pc;replace pc:s[b.1.2.2]?=some (.lst [tV t]):=pc;have M_:∀x,x∈[ak.loc b.1.1,.loc b.1.2.1,.loc b.1.2.2]->PM.cf [x,.int M] s=.ok (.bl true) s/\∃n,x=.loc n:=λx m=>by
  rw[hM];simp only[VO,WZ,XZ]at m;rcases m with rfl|rfl|rfl
  .exact⟨gO P.a (sm _ (.inl rfl)) m1,_,rfl⟩
  .exact⟨gO P.b (sm _ (.inr rfl)) m1,_,rfl⟩
  .exact⟨gO (D:=[t]) pc oC.s m1,_,rfl⟩
 obtain⟨μ1,s4,f1,rfl,y5,rfl⟩:=dB (g:=λ_=>True) (a:=aq 5) (body:=TM) (λi μ st=>st=s/\∃y5,μ=[some (ak.loc ka), qL kb, some (rB b), qI U, qI M, y5, qn, qn, qn]) [ak.loc b.1.1,.loc b.1.2.1,.loc b.1.2.2] 0 [qL ka, qL kb, some (rB b), qI U, qI M, qn, qn, qn, qn] s (by
  rintro i x μ st hx ⟨rfl,y5,rfl⟩;obtain⟨q,n,rfl⟩:=M_ x (WG hx);refine⟨trivial,[qL ka, qL kb, some (rB b), qI U, qI M, qL n, qn, qn, qn],rfl,[qL ka, qL kb, some (rB b), qI U, qI M, qL n, qn, qn, qn],st,.inl ?_,rfl,_,rfl⟩;simp![We,q]) (λ_ _ _=>trivial) ⟨rfl,none,rfl⟩
 have x0:aU (au t.1) (.int U) s4=.ok (.int 0) s4:=by have:=bE (st:=s4) (us:=t.1.map ak.int) (i:=U) (at_getD ⋯ (by have:=oC.s.len t Vu;lia));rw[show U.toNat=u by lia,ht]at this;exact this
 have z0:((0:Int)==0)=true:=rfl;obtain⟨μ2,s5,f2,rfl,y6,y7,rfl⟩:=dB (g:=λst=>ar st b.1.2.2=some [tV t]) (a:=bU [aq 6,aq 7]) (body:=TN) (λi μ st=>st=s4/\∃y6 y7,μ=[some (ak.loc ka), qL kb, some (rB b), qI U, qI M, y5, y6, y7, qn]) [tV t] 0 [qL ka, qL kb, some (rB b), qI U, qI M, y5, qn, qn, qn] s4 (by
  rintro i x μ st hx ⟨rfl,y6,y7,rfl⟩;have:=WG hx;rw[VZ.mp this];refine⟨av pc,[qL ka, qL kb, some (rB b), qI U, qI M, y5, some (au t.1), qI t.2, qn],rfl,[qL ka, qL kb, some (rB b), qI U, qI M, y5, some (au t.1), qI t.2, qn],st,.inl ?_,rfl,_,_,rfl⟩;have v6:oP [some (ak.loc ka), qL kb, some (rB b), qI U, qI M, y5, some (au t.1), qI t.2, qn] st=.ok (au t.1) st:=rfl;simp![We,v6,x0,z0]) (λ_ st⟨h,_⟩=>by rw[h];exact av pc) ⟨rfl,none,none,rfl⟩
 obtain⟨s6,e6,F6,l6,_⟩:=put s3 [];have n6:=ne_nil (av (F6.2 _ _ (F.2 _ _ pc))) (av l6);replace n6:gC (.loc b.1.2.2) (.loc s3.length) s6=.ok (.bl true) s6:=n6;have q6:=p4 (av (F6.2 _ _ lk)) (av (F6.2 _ _ (F.2 _ _ pc))) (tD [t]);refine⟨s6,?_,Ext.trans F F6⟩;have z3:((3:Int)==3)=true:=rfl;have kl:cZ [.tup [.loc b.1.1,.loc b.1.2.1,.loc b.1.2.2]] s5=.ok (.int 3) s5:=rfl;rw[<-hU,<-hM];unfold PM.gQ;rw[aZ (np:=5) (us:=[ak.loc ka,.loc kb,rB b,.int U,.int M]) rfl];show(aA _ (aA (d5 _ (aq 5) TM) (aA (d5 _ (bU [aq 6,aq 7]) TN) _)) [qL ka, qL kb, some (rB b), qI U, qI M, qn, qn, qn, qn] s5).fin=_;unfold rB at f1 f2⊢;generalize TM=B1 at f1⊢;generalize TN=B2 at f2⊢;simp![iC,fP,We,VF,v!,kl,z3,f1,bE B5,bH (av pc),f2,bE yt,bE yu,e1,e2,e3,<-e6,n6,q6]
end
section
variable{s:af}{R Hd r0 r1 h0 h1:Nat}{A:List aC}
structure Hn(s:af)(R Hd r0 r1 h0 h1:Nat)(A B:List aC):Prop where
 r:s[R]?=some (.lst [.loc r0,.loc r1])
 h:s[Hd]?=some (.lst [.loc h0,.loc h1])
 ra:s[r0]?=some (.lst (A.map tV))
 rb:s[r1]?=some (.lst (B.map tV))
 ha:s[h0]?=some (.lst (A.map tV))
 hb:s[h1]?=some (.lst (B.map tV))
theorem Hn.to(H:Hn s R Hd r0 r1 h0 h1 A B)(F:∀(n:Nat)(c:bx),s[n]?=some c->s'[n]?=some c):Hn s' R Hd r0 r1 h0 h1 A B:=⟨F _ _ H.r,F _ _ H.h,F _ _ H.ra,F _ _ H.rb,F _ _ H.ha,F _ _ H.hb⟩
theorem Qi{a b:Nat}(ha:s[a]?=some (.lst (D.map tV)))(hb:s[b]?=some (.lst (D.map tV))):iB 15 s (.loc a) (.loc b)=some true:=by unfold iB;simp only[vw,av ha,av hb];refine iE s 13 _ (iF λu hu=>?_);obtain⟨t,_,rfl⟩:=VP.mp hu;show(e_ 11 (t.1.map ak.int)&&(true&&true))=true;rw[jE];rfl
theorem Hn.eq(H:Hn s R Hd r0 r1 h0 h1 A B):iB 16 s (.loc Hd) (.loc R)=some true:=by unfold iB;simp only[vw,av H.h,av H.r];show gg (iB 15 s) [.loc h0,.loc h1] [.loc r0,.loc r1]=some true;unfold gg;rw[Qi H.ha H.ra];unfold gg;rw[Qi H.hb H.rb];rfl
theorem Hn.gB(H:Hn s R Hd r0 r1 h0 h1 A B):MN.gB (.loc Hd) (.loc R) s=.ok (.bl true) s:=by unfold MN.gB;rw[H.eq]
theorem Hn.gC(H:Hn s R Hd r0 r1 h0 h1 A B):MN.gC (.loc Hd) (.loc R) s=.ok (.bl false) s:=by unfold MN.gC;rw[H.eq];rfl
theorem Fw{g:aC}{S:List aC}(m1:1<=ah)(h:Mk ah g D S)(hD:One ah D):j! 0 (h_ [g] S)=D:=by
 rcases h with⟨rfl,rfl⟩|⟨t,q,rfl,rfl,d⟩
 .exact gK (sum_nil ah)
 .have:h_ [g] [q]=[t]:=by show[(a_ g.1 q.1,g.2*q.2)]=[t];rw[join_comm,d.e,YV,d.n]
  rw[this,gK hD.s]
theorem kN{g:aC}{S:List aC}(m1:1<=ah)(m4:ah<=4)(gl:g.1.length=ah)(gb:ic 140 g.2)(h:Mk ah g D S)(hD:One ah D)(lg:s[kg]?=some (.lst [tV g]))(la:s[ka]?=some (.lst (S.map tV))):
  ∃k s',PM.bX [.loc kg,.loc ka] s=.ok (.loc k) s'/\Ext s s'/\s'[k]?=some (.lst (D.map tV)):=by
 obtain⟨k,s',e,N⟩:=fG (A:=[g]) (av lg) (av la) m1 m4 (λx m=>by rw[VZ.mp m];exact gl) h.sum.s.len (λx hx y hy=>by rw[VZ.mp hx];exact iL gb (h.sum.b y hy) ⋯ ⋯) (by have:=h.sum.l;show 1*_<_;lia);rw[Fw m1 h hD]at N;exact⟨k,s',e,Ext.new N,N.2.2⟩
theorem M!{kk:Nat}{x8 x9 x10:Option ak}(m1:1<=ah)(m4:ah<=4)(hA:One ah A)(hB:One ah B)(ne:A≠[]\/B≠[])(H:Hn s R Hd r0 r1 h0 h1 A B)(lk:s[kk]?=some (.lst [tV (l_ A B)])):
  ∃s',j3 [qL 0, qI (ah:Int), x2, qL R, x4, x5, x6, qL Hd, x8, x9, x10, qL kk, qn] s=.rt (.bl true) s':=by
 obtain⟨kg,ka,kb,kp,s1,SA,SB,bs,e1,F1,T⟩:=m8 m1 m4 hA hB ne H.ha H.hb;have H1:=H.to F1.2;have q1:=p4 (av T.g) (av (F1.2 _ _ lk)) (tD [l_ A B]);obtain⟨k2,s2,e2,F2,l2⟩:=kN m1 m4 T.c.gl T.c.gb T.c.a hA T.g T.a;have H2:=H1.to F2.2;have q2:=p4 (av l2) (av H2.ra) (tD A);have q3:=H2.gB;have i0:∀s':af,s'[Hd]?=some (.lst [.loc h0,.loc h1])->aU (.loc Hd) (.int 0) s'=.ok (.loc h0) s':=λs' h=>eZ (av h) yt;have i1:∀s':af,s'[Hd]?=some (.lst [.loc h0,.loc h1])->aU (.loc Hd) (.int 1) s'=.ok (.loc h1) s':=λs' h=>eZ (av h) yu;have j0:aU (.loc R) (.int 0) s2=.ok (.loc r0) s2:=eZ (av H2.r) yt;obtain⟨M,hM⟩:=NE ((ah:Int):Int)
 rw[<-hM];refine⟨s2,?_⟩;unfold j3 ti;simp![i0 s H.h,i1 s H.h,e1,bE yt,bE yu,q1,e2,j0,q2,q3]
def qy(b:Pp):List (List aC):=[b.2.1,b.2.2.1,b.2.2.2]
theorem xb{ms:List Nat}{Es:List (List aC)}(h:b! s ls Ds)(k:b! s ms Es):b! s (ls++ms) (Ds++Es):=by
 refine⟨by rw[VC,VC,h.1,k.1],λi l D h1 h2=>?_⟩;by_cases c:i<ls.length
 .rw[V4 c]at h1;rw[V4 (by rw[<-h.1];exact c)]at h2;exact h.2 i l D h1 h2
 .rw[VN ⋯]at h1;rw[VN (by rw[<-h.1];lia),<-h.1]at h2;exact k.2 _ l D h1 h2
theorem qA{a b c:Nat}{X Y Z:List aC}(ha:s[a]?=some (.lst (X.map tV)))(hb:s[b]?=some (.lst (Y.map tV)))(hc:s[c]?=some (.lst (Z.map tV))):b! s [a,b,c] [X,Y,Z]:=by
 refine⟨rfl,λi l D h1 h2=>?_⟩
 match i,h1,h2 with
 |0,h1,h2=>cases h1;cases h2;exact ha
 |1,h1,h2=>cases h1;cases h2;exact hb
 |2,h1,h2=>cases h1;cases h2;exact hc
theorem xc:∀{bs:List Pp},(∀b∈bs,rC s b)->b! s (bs.flatMap qt) (bs.flatMap qy)
 |[],_=>⟨rfl,λi l D h=>by cases h⟩
 |b::bs,h=>by rw[XI,XI];have p:=h b Vu;exact xb (qA p.a p.b p.c) (xc λx m=>h x (VJ _ m))
theorem uQ:∀l:List Pp,(l.flatMap qt).length=3*l.length
 |[]=>rfl
 |x::l=>by rw[XI,VC,uQ l,Vt];show 3+_=_;lia
theorem B_(h:∀b∈bs,∀D∈qy b,D.length<=1):∀D∈bs.flatMap qy,D.length<1000000:=λD m=>by obtain⟨b,mb,md⟩:=Z9.mp m;have:=h b mb D md;lia
theorem M?{u:Nat}{b:Pp}(hA:One ah SA)(hB:One ah SB)(o:B6 ah u SA SB b):∀D∈qy b,D.length<=1:=λD m=>by
 have a:=hA.l;have c:=hB.l;rcases o with⟨e,_⟩|⟨e,_⟩
 .unfold qy at m;rw[e]at m;simp only[VO,WZ,XZ]at m;rcases m with rfl|rfl|rfl
  .exact Vy _
  .exact WN _
  .exact a
 .unfold qy at m;rw[e]at m;simp only[VO,WZ,XZ]at m;rcases m with rfl|rfl|rfl
  .exact WN _
  .exact Vy _
  .exact c
abbrev Q5:MB:=aA (fL (cH (ck (ai PM.gQ (aa (ag aU oQ dJ) (aa (ag aU oQ so) (aa (ag aU (ag aU oQ Bd) Bc) (aa Bc (aa aW aj)))))))) (aK (mC (.bl false))) bz) (aN 9 (ag cq (ir 9) (ai fw (aa (ag aU (ag aU oQ Bd) Bc) aj))))
theorem M'{s0:af}{kp:Nat}(m1:1<=ah)(m4:ah<=4)(hA:One ah A)(hB:One ah B)(ne:A≠[]\/B≠[])(H:Hn s R Hd r0 r1 h0 h1 A B)(T:Told ah A B s0 s kg ka kb kp SA SB bs)(lo:R<s0.length/\Hd<s0.length/\r0<s0.length/\r1<s0.length/\h0<s0.length/\h1<s0.length):
  ∃s',j4 [qL 0, qI (ah:Int), x2, qL R, x4, x5, x6, qL Hd, some (.tup [.loc kg,.loc ka,.loc kb,.loc kp]), qn, qn, qn, qn] s=.rt (.bl true) s':=by
 obtain⟨M,hM⟩:=NE ((ah:Int):Int)
 have oA:=T.c.a.sum;have oB:=T.c.b.sum;have sl:FO none (some 3) (.tup [.loc kg,.loc ka,.loc kb,.loc kp]) s=.ok (.tup [.loc kg,.loc ka,.loc kb]) s:=by show(if HT.fi 4 0 none=0/\HT.fi 4 4 (some 3)=4 then cL.bad else cL.ok (ak.tup (pV [.loc kg,.loc ka,.loc kb,.loc kp] none (some 3))) s)=_;rw[VL ⋯];rfl
 obtain⟨s1,e1,F1,l1,_⟩:=put s ([kg,ka,kb].map ak.loc);have c1:fw [.tup [.loc kg,.loc ka,.loc kb]] s=.ok (.loc s.length) s1:=by rw[e1];rfl
 obtain⟨μ',s2,f2,F2,L,l2,hL,Rb,rfl⟩:=dB (g:=λ_=>True) (a:=aq 10) (body:=Q5) (λi μ st=>Ext s st/\∃L,st[L]?=some (.lst (([kg,ka,kb]++(bs.take i).flatMap qt).map ak.loc))/\s.length<=L/\∃Rb,μ=[qL 0, qI M, x2, qL R, x4, x5, x6, qL Hd, some (.tup [.loc kg,.loc ka,.loc kb,.loc kp]), qL L, Rb, qn, qn]) ((eG 0 ah).map ak.int) 0 [qL 0, qI M, x2, qL R, x4, x5, x6, qL Hd, some (.tup [.loc kg,.loc ka,.loc kb,.loc kp]), qL s.length, qn, qn, qn] s1 (by
  rintro i v μ st hv ⟨F,L,lL,gL,Rb,rfl⟩;rw[Wv]at lL⊢;have li:=aX hv;rw[Vs]at li;unfold eG at hv li;rw[Vs,V!]at li;rw[VV,VV,XD li]at hv;replace hv:some (ak.int (0+(i:Int)))=some v:=hv;rw[Xa]at hv;cases hv;obtain⟨b,hb⟩:∃b,bs[i]?=some b:=⟨_,Vx (by rw[T.n];exact li)⟩
  have mb:=WG hb;obtain⟨s3,e3,F3⟩:=uP m1 m4 li oA oB (F.2 _ _ T.a) (F.2 _ _ T.b) ((T.at_ b mb).to F) (T.o i b hb);have og:=Ext.trans F F3;have ib:∀s':af,Ext s s'->aU (.loc kp) (.int (i:Int)) s'=.ok (rB b) s':=λs' G=>eZ (av (G.2 _ _ T.p)) (L2.d0 (by rw[VV,hb];rfl));obtain⟨s4,e4,F4,l4,_⟩:=put s3 ((qt b).map ak.loc);have c4:fw [rB b] s3=.ok (.loc s3.length) s4:=by rw[e4];rfl
  have ad:=pZ (F4.2 _ _ (F3.2 _ _ lL)) l4 (by
   rw[Vs,Vs,VC,VF];have:((bs.take i).flatMap qt).length<=3*4:=by rw[uQ,W?];lia
   show 3+_+3<=_;lia)
  rw[<-WW,VU]at ad;have tk:(bs.take i).flatMap qt++qt b=(bs.take (i+1)).flatMap qt:=by rw[List.take_add_one,hb,List.flatMap_append];show _=_++(qt b++[]);rw[Wa]
  rw[tk]at ad;obtain⟨s5,e5,F5,l5,_⟩:=put s4 (([kg,ka,kb]++(bs.take (i+1)).flatMap qt).map ak.loc);rw[<-e5]at ad;obtain⟨I,hI⟩:=NE ((i:Int):Int)
  rw[<-hI,<-hM]at e3;rw[<-hI]at ib⊢;have f3:=F3.1;have f4:=F4.1;have f0:=F.1;refine⟨trivial,[qL 0, qI M, x2, qL R, x4, x5, x6, qL Hd, some (.tup [.loc kg,.loc ka,.loc kb,.loc kp]), qL L, qI I, qn, qn],rfl,[qL 0, qI M, x2, qL R, x4, x5, x6, qL Hd, some (.tup [.loc kg,.loc ka,.loc kb,.loc kp]), qL s4.length, qI I, qn, qn],s5,.inl ?_,Ext.trans og (Ext.trans F4 F5),s4.length,l5,⋯,_,rfl⟩;simp![We,bE yu,bE B5,bE Qb,ib st F,e3,ib s3 og,c4,ad]) (λ_ _ _=>trivial) ⟨F1,s.length,l1,Vy _,none,rfl⟩
 have Fp:((eG 0 ah).map ak.int).length=ah:=by unfold eG;rw[Vs,Vs,V!]
 rw[Wv,Fp,W_ (by rw[T.n];exact Vy _)]at l2;have c3:=i_ (av (F2.2 _ _ T.g));obtain⟨s3,e3,F3,l3,_⟩:=put s2 [tV (l_ A B)];rw[<-e3]at c3;have og:=Ext.trans F2 F3;have TQ:b! s3 ([kg,ka,kb]++bs.flatMap qt) ([[l_ A B],SA,SB]++bs.flatMap qy):=xb (qA (og.2 _ _ T.g) (og.2 _ _ T.a) (og.2 _ _ T.b)) (xc λb m=>(T.at_ b m).to og);have inl:∀x∈[kg,ka,kb]++bs.flatMap qt,x<s.length:=λx m=>by
  rcases W8.mp m with m|m
  .simp only[VO,WZ,XZ]at m;rcases m with rfl|rfl|rfl
   .exact aX T.g
   .exact aX T.a
   .exact aX T.b
  .obtain⟨b,mb,mc⟩:=Z9.mp m;have p:=T.at_ b mb;unfold qt at mc;simp only[VO,WZ,XZ]at mc;rcases mc with rfl|rfl|rfl
   .exact aX p.a
   .exact aX p.b
   .exact aX p.c
 have TR:=uQ bs;obtain⟨s4,e4,g4,k4⟩:=uK (n:=L) (F3.2 _ _ l2) TQ T.nd (λm=>by have:=inl L m;lia) (by
   rw[VC,TR,T.n];show 3+_<=_;lia) (λD m=>by
  rcases W8.mp m with m|m
  .simp only[VO,WZ,XZ]at m;have:=oA.l;have:=oB.l;rcases m with rfl|rfl|rfl
   .show 1<_;decide
   .lia
   .lia
  .refine B_ (λb mb=>?_) D m;obtain⟨i,hi⟩:=List.getElem?_of_mem mb;exact M? oA oB (T.o i b hi))
 have keep:∀(x:Nat)(c:bx),x<s0.length->s[x]?=some c->s4[x]?=some c:=λx c lt h=>k4 x c (og.2 _ _ h) λm=>by have:=T.lo x m;lia
 have H4:Hn s4 R Hd r0 r1 h0 h1 A B:=⟨keep _ _ lo.1 H.r,keep _ _ lo.2.1 H.h,keep _ _ lo.2.2.1 H.ra,keep _ _ lo.2.2.2.1 H.rb,keep _ _ lo.2.2.2.2.1 H.ha,keep _ _ lo.2.2.2.2.2 H.hb⟩
 have lk4:s4[s2.length]?=some (.lst [tV (l_ A B)]):=k4 _ _ l3 λm=>by have:=inl _ m;have:=F2.1;lia
 obtain⟨s',e'⟩:=M! (x2:=x2) (x4:=x4) (x5:=x5) (x6:=x6) (x8:=some (.tup [.loc kg,.loc ka,.loc kb,.loc kp])) (x9:=some (.loc L)) (x10:=Rb) m1 m4 hA hB ne H4 lk4;refine⟨s',?_⟩;rw[<-hM]at e'⊢;have rg:um [.int M] s1=.ok ((eG 0 ah).map ak.int,λ_=>True) s1:=by have:=iY (st:=s1) (j:=M) ⋯ ⋯;rw[dk,show M.toNat=ah by lia]at this;exact this
 unfold j4 tq tm tj;show aA _ (aA (d5 _ (aq 10) Q5) _) _ s=_;generalize Q5=B' at f2⊢;generalize j3=T15 at e'⊢;simp![iC,fP,We,Js,Pj,Jt,Ju,v9,v_,Pk,sl,c1,rg,f2,bE yt,c3,e4,e']
end
section
variable{s:af}{R Hd r0 r1 h0 h1:Nat}{A:List aC}
abbrev JB:MB:=fL (cH (ck (ai PM.cf (aa (ag aU oQ fV) (aa aW aj))))) (aK (mC (.bl false))) bz
theorem Qj{s0:af}{kp:Nat}(m1:1<=ah)(m4:ah<=4)(hA:One ah A)(hB:One ah B)(ne:A≠[]\/B≠[])(H:Hn s R Hd r0 r1 h0 h1 A B)(T:Told ah A B s0 s kg ka kb kp SA SB bs)(lo:R<s0.length/\Hd<s0.length/\r0<s0.length/\r1<s0.length/\h0<s0.length/\h1<s0.length):
  ∃s',qu [qL 0, qI (ah:Int), x2, qL R, x4, x5, x6, qL Hd, some (.tup [.loc kg,.loc ka,.loc kb,.loc kp]), qn, qn, qn, qn] s=.rt (.bl true) s':=by
 obtain⟨M,hM⟩:=NE ((ah:Int):Int)
 have sg:eh ah [l_ A B]:=gN T.c.gl T.c.gn (by have:=T.c.gp;lia);have M_:∀(i:Nat)x,[ak.loc kg,.loc ka,.loc kb][i]?=some x->PM.cf [x,.int M] s=.ok (.bl true) s/\L2.mI [ak.loc kg,.loc ka,.loc kb,.loc kp] (i:Int)=some x/\∃n,x=.loc n:=λi x hx=>by
  rw[hM]
  match i,hx with
  |0,hx=>cases hx;exact⟨gO (D:=[l_ A B]) T.g sg m1,yt,_,rfl⟩
  |1,hx=>cases hx;exact⟨gO T.a T.c.a.sum.s m1,yu,_,rfl⟩
  |2,hx=>cases hx;exact⟨gO T.b T.c.b.sum.s m1,B5,_,rfl⟩
 obtain⟨μ',s1,f1,rfl,y4,rfl⟩:=dB (g:=λ_=>True) (a:=aq 4) (body:=JB) (λi μ st=>st=s/\∃y4,μ=[some (ak.loc 0), qI M, x2, qL R, y4, x5, x6, qL Hd, some (.tup [.loc kg,.loc ka,.loc kb,.loc kp]), qn, qn, qn, qn]) ((eG 0 3).map ak.int) 0 [qL 0, qI M, x2, qL R, x4, x5, x6, qL Hd, some (.tup [.loc kg,.loc ka,.loc kb,.loc kp]), qn, qn, qn, qn] s (by
  rintro i v μ st hv ⟨rfl,y4,rfl⟩;have li:=aX hv;replace li:i<3:=li;obtain⟨x,hx⟩:∃x,[ak.loc kg,.loc ka,.loc kb][i]?=some x:=⟨_,Vx li⟩
  obtain⟨q1,q2,n,rfl⟩:=M_ i x hx;have ev:v=.int (i:Int):=by
   match i,li,hv with
   |0,_,hv=>cases hv;rfl
   |1,_,hv=>cases hv;rfl
   |2,_,hv=>cases hv;rfl
  subst ev;obtain⟨I,hI⟩:=NE ((i:Int):Int)
  rw[<-hI]at q2⊢;refine⟨trivial,[qL 0, qI M, x2, qL R, qI I, x5, x6, qL Hd, some (.tup [.loc kg,.loc ka,.loc kb,.loc kp]), qn, qn, qn, qn],rfl,[qL 0, qI M, x2, qL R, qI I, x5, x6, qL Hd, some (.tup [.loc kg,.loc ka,.loc kb,.loc kp]), qn, qn, qn, qn],st,.inl ?_,rfl,_,rfl⟩;simp![We,bE q2,q1]) (λ_ _ _=>trivial) ⟨rfl,x4,rfl⟩
 have j0:∀s':af,s'[R]?=some (.lst [.loc r0,.loc r1])->aU (.loc R) (.int 0) s'=.ok (.loc r0) s':=λs' h=>eZ (av h) yt;have j1:∀s':af,s'[R]?=some (.lst [.loc r0,.loc r1])->aU (.loc R) (.int 1) s'=.ok (.loc r1) s':=λs' h=>eZ (av h) yu;obtain⟨kd,s2,e2,F2,l2⟩:=M8 hA hB m4 ne H.ra H.rb;have n2:=p5 (av (F2.2 _ _ T.g)) (av l2) (tD [l_ A B]);have kl:cZ [.loc kp] s2=.ok (.int M) s2:=by rw[d6 (av (F2.2 _ _ T.p)),Vs,T.n,hM]
 have zM:(M==M)=true:=WY M;obtain⟨k3,s3,e3,F3,l3⟩:=kN m1 m4 T.c.gl T.c.gb T.c.a hA (F2.2 _ _ T.g) (F2.2 _ _ T.a);have og:=Ext.trans F2 F3;have H3:=H.to og.2;have n3:=p5 (av l3) (av H3.ra) (tD A);obtain⟨k4,s4,e4,F4,l4⟩:=kN m1 m4 T.c.gl T.c.gb T.c.b hB (og.2 _ _ T.g) (og.2 _ _ T.b);have Ct:=Ext.trans og F4;have H4:=H.to Ct.2;have n4:=p5 (av l4) (av H4.rb) (tD B);have T4:Told ah A B s0 s4 kg ka kb kp SA SB bs:=⟨Ct.2 _ _ T.g,Ct.2 _ _ T.a,Ct.2 _ _ T.b,Ct.2 _ _ T.p,T.n,T.o,λb m=>(T.at_ b m).to Ct,T.nd,T.lo,T.c⟩
 obtain⟨s',e'⟩:=M' (x2:=x2) (x4:=y4) (x5:=x5) (x6:=x6) m1 m4 hA hB ne H4 T4 lo;refine⟨s',?_⟩;rw[<-hM]at e'⊢;have hn:=H.gC;have z4:((4:Int)==4)=true:=rfl;have kl4:cZ [.tup [.loc kg,.loc ka,.loc kb,.loc kp]] s1=.ok (.int 4) s1:=rfl;have il:=is_list T.p;have rg:um [.int 3] s1=.ok ((eG 0 3).map ak.int,λ_=>True) s1:=rfl;unfold qu w6 w5 tw;show aA _ (aA (d5 _ (aq 4) JB) _) _ s1=_;generalize JB=B' at f1⊢;generalize j4=T11 at e'⊢;simp![iC,fP,We,v!,kl4,z4,hn,bE Qb,il,rg,f1,bE yt,j0 s1 H.r,j1 s1 H.r,e2,n2,kl,zM,bE yu,e3,j0 s3 H3.r,n3,bE B5,e4,j1 s4 H4.r,n4,e']
theorem eq_empty{a b:Nat}(h:s[a]?=some (.lst (D.map tV)))(k:s[b]?=some (.lst [])):iB 15 s (.loc a) (.loc b)=some D.isEmpty:=by unfold iB;simp only[vw,av h,av k];cases D<;>rfl
theorem Qk(m1:1<=ah)(m4:ah<=4)(hA:One ah A)(hB:One ah B)(lr:s[R]?=some (.lst [.loc r0,.loc r1]))(ra:s[r0]?=some (.lst (A.map tV)))(rb:s[r1]?=some (.lst (B.map tV))):
    ∃s',jM [qL 0, qI (ah:Int), x2, qL R, x4, x5, x6, qn, qn, qn, qn, qn, qn] s=.rt (.bl true) s':=by
  obtain⟨M,hM⟩:=NE ((ah:Int):Int)
  -- handed in
  obtain⟨s1,e1,F1,l1,g1⟩:=put s (A.map tV);obtain⟨s2,e2,F2,l2,g2⟩:=put s1 (B.map tV);have uO:=Ext.trans F1 F2;obtain⟨s3,e3,F3,l3,g3⟩:=put s2 [.loc s.length,.loc s1.length];have og:=Ext.trans uO F3;have cp:bN (λst=>ar st R=some [.loc r0,.loc r1]) (aq 0) aw (ai fw (aa aE aj)) [.loc r0,.loc r1] [none] s []=.ok [.loc s.length,.loc s1.length] s2:=by
    have a1:ai fw (aa aE aj) [some (.loc r0)] s=.ok (.loc s.length) s1:=by rw[aR (dY (v:=.loc r0) (s1:=s) rfl),i_ (av ra),e1]
    have a2:ai fw (aa aE aj) [some (.loc r1)] s1=.ok (.loc s1.length) s2:=by rw[aR (dY (v:=.loc r1) (s1:=s1) rfl),i_ (av (F1.2 _ _ rb)),e2]
    unfold bN;rw[VA (av lr)];show(match ai fw (aa aE aj) [some (.loc r0)] s with|.ok y az=>_|.err c az=>_|.bad=>_)=_;rw[a1];dsimp only;unfold bN;rw[VA (av (F1.2 _ _ lr))];show(match ai fw (aa aE aj) [some (.loc r1)] s1 with|.ok y az=>_|.err c az=>_|.bad=>_)=_;rw[a2];dsimp only;unfold bN;rw[VA (av (uO.2 _ _ lr))];rfl
  have H:Hn s3 R s2.length r0 r1 s.length s1.length A B:=⟨og.2 _ _ lr,l3,og.2 _ _ ra,og.2 _ _ rb,F3.2 _ _ (F2.2 _ _ l1),F3.2 _ _ l2⟩
  obtain⟨Hd,Vn⟩:=NE s2.length
  obtain⟨h0,hh0⟩:=NE s.length
  obtain⟨h1,hh1⟩:=NE s1.length
  rw[<-Vn,<-hh0,<-hh1]at H;have i0:aU (.loc Hd) (.int 0) s3=.ok (.loc h0) s3:=eZ (av H.h) yt;have i1:aU (.loc Hd) (.int 1) s3=.ok (.loc h1) s3:=eZ (av H.h) yu;have FR:aN 7 (aO 1 [] (bQ c5) (aq 0) aw (ai fw (aa aE aj))) [qL 0, qI M, x2, qL R, x4, x5, x6, qn, qn, qn, qn, qn, qn] s=.nx [qL 0, qI M, x2, qL R, x4, x5, x6, qL Hd, qn, qn, qn, qn, qn] s3:=by
    have kF:fK 1 [] [some (ak.loc 0), qI M, x2, qL R, x4, x5, x6, qn, qn, qn, qn, qn, qn]=[none]:=rfl;have v3:c5 [some (ak.loc 0), qI M, x2, qL R, x4, x5, x6, qn, qn, qn, qn, qn, qn] s=.ok (.loc R) s:=rfl;rw[dM (show aO 1 [] (bQ c5) (aq 0) aw (ai fw (aa aE aj)) _ s=.ok (.loc Hd) s3 by
      rw[cJ,cy,v3,ao,bH (av lr),ao,dn,VA (by rw[VF];show 2<=_;decide),kF,cp,ao,eQ,Vn,e3])]
    rfl
  -- J? is told,then Ck test for two Rc
  have t6:∀(v:ak)(s4:af),Ext s3 s4->∃s5,Ext s4 s5/\ck (ag gB c5 (df (aa (df aj) (aa (df aj) aj)))) [qL 0, qI M, x2, qL R, x4, x5, x6, qL Hd, some v, qn, qn, qn, qn] s4=.ok (A.isEmpty&&B.isEmpty) s5:=λv s4 F4=>by
    obtain⟨s5,e5,F5,l5,_⟩:=put s4 [];obtain⟨s6,e6,F6,l6,_⟩:=put s5 [];obtain⟨s7,e7,F7,l7,_⟩:=put s6 [.loc s4.length,.loc s5.length];have Vo:=Ext.trans F5 (Ext.trans F6 F7);have H7:=(H.to F4.2).to Vo.2;have q:MN.gB (.loc R) (.loc s6.length) s7=.ok (.bl (A.isEmpty&&B.isEmpty)) s7:=by
      have:iB 16 s7 (.loc R) (.loc s6.length)=some (A.isEmpty&&B.isEmpty):=by unfold iB;simp only[vw,av H7.r,av l7];show gg (iB 15 s7) [.loc r0,.loc r1] [.loc s4.length,.loc s5.length]=_;unfold gg;rw[eq_empty H7.ra (F7.2 _ _ (F6.2 _ _ l5))];unfold gg;rw[eq_empty H7.rb (F7.2 _ _ l6)];unfold gg;simp
      unfold MN.gB;rw[this]
    refine⟨s7,Vo,?_⟩;simp![VF,<-e5,<-e6,<-e7,q]
  by_cases ne:A≠[]\/B≠[]
  · obtain⟨kg,ka,kb,kp,s4,SA,SB,bs,ec,F4,T⟩:=m8 m1 m4 hA hB ne H.ha H.hb;have et:=Fu ec;obtain⟨s5,F5,e5⟩:=t6 (.tup [.loc kg,.loc ka,.loc kb,.loc kp]) s4 F4;have zf:(A.isEmpty&&B.isEmpty)=false:=by
      rcases ne with h|h
      · cases A with
        |nil=>exact(h rfl).elim
        |cons x A=>rfl
      · cases B with
        |nil=>exact(h rfl).elim
        |cons x B=>exact Za _
    rw[zf]at e5;have H5:=(H.to F4.2).to F5.2;have T5:Told ah A B s3 s5 kg ka kb kp SA SB bs:=⟨F5.2 _ _ T.g,F5.2 _ _ T.a,F5.2 _ _ T.b,F5.2 _ _ T.p,T.n,T.o,λb m=>(T.at_ b m).to F5,T.nd,T.lo,T.c⟩
    obtain⟨s',e'⟩:=Qj (x2:=x2) (x4:=x4) (x5:=x5) (x6:=x6) m1 m4 hA hB ne H5 T5 ⟨aX H.r,aX H.h,aX H.ra,aX H.rb,aX H.ha,aX H.hb⟩;refine⟨s',?_⟩;rw[<-hM]at e'⊢;have TU:aN 8 (ai cS (aa (ag aU zO bI) (aa (ag aU zO dJ) aj))) [qL 0, qI M, x2, qL R, x4, x5, x6, qL Hd, qn, qn, qn, qn, qn] s3=.nx [qL 0, qI M, x2, qL R, x4, x5, x6, qL Hd, some (.tup [.loc kg,.loc ka,.loc kb,.loc kp]), qn, qn, qn, qn] s4:=by
      rw[dM (show ai cS _ _ s3=.ok (.tup [.loc kg,.loc ka,.loc kb,.loc kp]) s4 by
        rw[aR (gu (v:=.loc h0) (s1:=s3) (by rw[bF (x:=.loc Hd) (s1:=s3) rfl (y:=.int 0) (s2:=s3) rfl,i0]) (w:=.loc h1) (s2:=s3) (by rw[bF (x:=.loc Hd) (s1:=s3) rfl (y:=.int 1) (s2:=s3) rfl,i1])),et])]
      rfl
    unfold jM qw qv;rw[ax,FR,aB,ax,TU,aB,ax,wA e5,aB,e']
  · have hn:A=[]/\B=[]:=by
      constructor
      · exact XA λh=>ne (.inl h)
      · exact XA λh=>ne (.inr h)
    obtain⟨rfl,rfl⟩:=hn;obtain⟨g,et⟩:=B8 (s:=s3) (p:=h0) (b:=h1) H.ha H.hb;obtain⟨s5,F5,e5⟩:=t6 (.int 2) (s3++g) (Ext.app _ _);replace e5:ck (ag gB c5 (df (aa (df aj) (aa (df aj) aj)))) [qL 0, qI M, x2, qL R, x4, x5, x6, qL Hd, qI 2, qn, qn, qn, qn] (s3++g)=.ok true s5:=e5;refine⟨s5,?_⟩;rw[<-hM];have TU:aN 8 (ai cS (aa (ag aU zO bI) (aa (ag aU zO dJ) aj))) [qL 0, qI M, x2, qL R, x4, x5, x6, qL Hd, qn, qn, qn, qn, qn] s3=.nx [qL 0, qI M, x2, qL R, x4, x5, x6, qL Hd, qI 2, qn, qn, qn, qn] (s3++g):=by
      rw[dM (show ai cS _ _ s3=.ok (.int 2) (s3++g) by
        rw[aR (gu (v:=.loc h0) (s1:=s3) (by rw[bF (x:=.loc Hd) (s1:=s3) rfl (y:=.int 0) (s2:=s3) rfl,i0]) (w:=.loc h1) (s2:=s3) (by rw[bF (x:=.loc Hd) (s1:=s3) rfl (y:=.int 1) (s2:=s3) rfl,i1])),et])]
      rfl
    have rt:aK (ag gB oQ so) [qL 0, qI M, x2, qL R, x4, x5, x6, qL Hd, qI 2, qn, qn, qn, qn] s5=.rt (.bl true) s5:=rfl;unfold jM qw qv;rw[ax,FR,aB,ax,TU,aB,ax,yC e5,rt];rfl
end
end qm
namespace MN
open PySem.Spec L2
open PyProof.Rows hiding St kindOf
theorem dw{P:_L}{sc:Scope}(a:sc.kind=.function:=by rfl)(b:sc.isCoroutine=false:=by rfl)(c:sc.isGenerator=false:=by rfl)(d:N.Nodup:=by decide +kernel)(e:N.take P.length=P:=by rfl)(f:∀x∈P,sc.names.lookup x=some .local\/sc.names.lookup x=some .cell:=by decide +kernel)(g:∀y∈sc.names,y.2≠.free:=by decide +kernel):fj N P sc:=⟨a,b,c,d,e,f,g⟩
theorem fM(jv:closureFor scope X.env=pure cl:=by rfl)(A:fB X scope cl caps:=by right)(has:((relabel scope X.env).names.all λp => !(p.2 == .cell || p.2 == .free) || (cl.map (·.1)).contains p.1)=true:=by rfl)(gT:(scope.names.all λp => !(p.2 == .cell))=true:=by rfl)(kind:scope.kind=.function:=by rfl)(names:(scope.names.all λp => !(p.2 == .local) || scope.names.lookup p.1==some .local)=true:=by rfl)(len:N.length=k+caps.length:=by rfl)(hN:N.drop k=cl.map (·.1):=by rfl):pC X N scope cl k caps:=O4 jv A has gT kind names len hN
theorem xf{cl':List (Str×_O)}{caps':List Nat}(jv:closureFor scope X.env=pure cl':=by rfl)(A:fB X scope cl caps:=by right)(B:fB X scope cl' caps':=by right)(has:((relabel scope X.env).names.all λp => !(p.2 == .cell || p.2 == .free) || (cl'.map (·.1)).contains p.1)=true:=by rfl)(gT:(scope.names.all λp => !(p.2 == .cell))=true:=by rfl)(kind:scope.kind=.function:=by rfl)(names:(scope.names.all λp => !(p.2 == .local) || scope.names.lookup p.1==some .local)=true:=by rfl)(len:N.length=k+caps.length:=by rfl)(hN:N.drop k=cl.map (·.1):=by rfl):pC X N scope cl' k caps:=O9 jv A B has gT kind names len hN
def MgK(K:_G)(mg:_E):Prop:=∀x f,W.nsIn K mainGlobals x=some (some (.ref f))->mg x=some (.ref f)
theorem f'{x:Str}:∀{l:_L},IC mg l->x∈l->mg x=none
 |y::l,h,hx=>by
  rcases VO.mp hx with e|e
  .rw[e];exact h.1
  .exact f' h.2 e
theorem Na{x:Str}:∀{l:_L},ID K mg l->x∈l->DQ K mg x
 |y::l,h,hx=>by
  rcases VO.mp hx with e|e
  .rw[e];exact h.1
  .exact Na h.2 e
theorem FnAt.iP{st:Stmt}(N ps:_L)(F:dm K x st)(hm:MgK K mg)
  (h:∀ (f:_O) (ej:_M) (A:_P) (outer:List PySem.Env) (s:_N) (H:Hp) (E:XK),N.Nodup->fJ k (A.deeper (envOfC x (aV st) s.heap.objs.size f ej)) ->
   jk (ip (kX P w) P w K mg base N x (aV st) f ej A outer s H E) (dH st) (tS (ip (kX P w) P w K mg base N x (aV st) f ej A outer s H E) E body))
  (hb:∀ (kV doc pm:_M) (an:Option _O) (ej ct:_M) (us:_I),us.length=ps.length->bindArgs (W.fnOf x x (fT st) (dH st) (aV st) .none kV doc pm an ej ct) ⟨us,[]⟩=pure (ps.zip us):=by
   intro _ _ _ _ _ _;first|exact LZ λ_=>rfl|exact O_ λ_ _=>rfl|exact O! λ_ _ _=>rfl|exact len0 rfl)(S:fj N ps (aV st):=by exact dw):FnAt P w K mg base x (k+1) (gf ps.length N.length body):=by
 obtain⟨f,fd,F,a⟩:=F;exact FnAt.mk F (hm _ _ a) S hb λej A outer s H E=>h f ej A outer s H E S.nd
end MN
namespace qm
open PySem.Spec L2 MN PG
open PyProof.Rows hiding St kindOf
theorem uF{g:af->Prop}{a:AS}{μ μ1 μ':MN.Env}(hg:g st)(ha:a u μ=some μ1)(hb:body μ1 st=.nx μ' az):forL g a body (u::us) μ st=forL g a body us μ' az:=by
 conv=>lhs;unfold forL
 rw[VA hg,ha];dsimp only;rw[hb]
section
variable{s:af}{R:Nat}
theorem IL{w:Int}{n:Nat}(h:Vc ah w n D)(hn:n<=1):eh ah D/\D.length<=1/\∀t∈D,ic 70 t.2:=by
 refine⟨h.s,V7 h.l hn,λt m=>?_⟩;obtain⟨a,b⟩:=h.b t m;have e:(n:Int)*10 ^ 20<=10 ^ 20:=by rcases(show n=0\/n=1 by lia)with rfl|rfl<;>decide
 show t.2.natAbs<2 ^ 70;have:(10:Int) ^ 20<2 ^ 70:=by decide
 lia
theorem IM{f:Int}(h:eh ah D/\D.length<=1/\∀t∈D,ic 70 t.2)(f1:1<=f)(bf:ic 70 f):One ah (chg (· * f) D):=by
 obtain⟨h1,h2,h3⟩:=h
 match D,h2 with
 |[],_=>exact⟨sum_nil ah,by show 0<=1;decide,λt m=>by cases m⟩
 |[t],_=>
  refine⟨gN (h1.len t Vu) (h1.nn t Vu) ?_,Vy _,λx m=>?_⟩
  .show t.2*f≠0;exact _C (h1.nz t Vu) ⋯
  .rw[VZ.mp m];exact(h3 t Vu).mul bf
abbrev IP:ME:=cQ (aa (ag aU aE bI) (aa (ag dg (ag aU aE dJ) (ag cq dJ (ag dE (ai PM.bZ (aa aW (aa vL aj))) (ag uc Be vM)))) aj))
abbrev Rf:MB:=fL (ck (ag gB (ag dE (ag eO (ai PM.bZ (aa aE (aa dJ aj))) (mC (.int 12))) so) dJ)) (aN 6 (aO 1 [0] (bQ oP) (aq 0) aw IP)) bz
abbrev Ql:MB:=aA (aN 5 (ai ye (aa (ag GX (ag dE (ag eO (ai PM.bZ (aa aE (aa bI aj))) (ag aU (df (aa vL (aa vM aj))) fV)) Lp) bI) aj))) (aA (aN 6 (ai PM.d_ (aa (ai PM.bZ (aa aE (aa (ag cq so fV) aj))) (aa aW (aa kY (aa bK (aa (ag dE (ag eO (ai PM.bZ (aa aE (aa dJ aj))) vL) Bd) aj))))))) (aA Rf (dy (g6 de c5 (aa oP aj)))))
theorem Fx{w M:Int}(hM:M=(ah:Int))(m1:1<=ah)(m4:ah<=4)(w0:0<=w)(hi:ar s 0=some (ns.map ak.int))(i2:i<2)(lR:s[R]?=some (.lst us))(ul:us.length<=2):
  ∃r D y5 s',Ql [qL 0, qI M, qI w, qL R, qI (i:Int), x5, x6, qn, qn, qn, qn, qn, qn] s=.nx [qL 0, qI M, qI w, qL R, qI (i:Int), y5, qL r, qn, qn, qn, qn, qn, qn] s'/\s'[R]?=some (.lst (us++[.loc r]))/\s'[r]?=some (.lst (D.map tV))/\One ah D/\s.length<=r/\∀(n:Nat)(c:bx),n≠R->s[n]?=some c->s'[n]?=some c:=by
 obtain⟨o0,c0⟩:=f_ (k:=0) hi ⋯ ⋯;obtain⟨s1,e1,F1,l1,_⟩:=put s ([4,20].map ak.int);obtain⟨f,ef,fz⟩:∃f:Int,aU (.loc s.length) (.int (i:Int)) s1=.ok (.int f) s1/\Dz f:=by
  match i,i2 with
  |0,_=>exact⟨4,eZ (av l1) yt,by decide⟩
  |1,_=>exact⟨20,eZ (av l1) yu,by decide⟩
 obtain⟨I,hI⟩:=NE ((i:Int):Int)
 rw[<-hI]at ef⊢;obtain⟨z,hz,z01⟩:∃z:Int,z=(if decide ((o0.fdiv f).fmod 5>0)=true then 1 else 0)/\(z=0\/z=1):=⟨_,rfl,by split<;>simp⟩
 have NI:ar s1 0=some (ns.map ak.int):=by rw[e1];exact cn hi _
 obtain⟨o2,c2⟩:=f_ (k:=2+I) NI ⋯ ⋯;obtain⟨o1,c1⟩:=f_ (k:=1) NI ⋯ ⋯;have d4:Dz 4:=by decide
 have d12:Dz 12:=by decide
 obtain⟨kd,hkd⟩:=NE ((o1.fdiv 4).fmod 3)
 obtain⟨k,s2,D,e2,N2,dr⟩:=uJ (cell:=o2) (terms:=z) (power:=w) (kind:=kd) m1 m4 ⋯ ⋯ w0 s1;rw[<-hM]at e2;have h2:=IL dr ⋯;have F2:=Ext.new N2;have Cr:ar s2 0=some (ns.map ak.int):=N2.E? NI;have b2:(∀t∈D,ic 140 t.2):=λt m=>(h2.2.2 t m).mono ⋯;obtain⟨o3,c3⟩:=f_ (k:=1) Cr ⋯ ⋯;have lR2:=F2.2 _ _ (F1.2 _ _ lR);have uO:=Ext.trans F1 F2
 -- Ck last two steps
 have fin:∀(r:Nat)(s3:af),Ext s2 s3->s1.length<=r->(∃D',s3[r]?=some (.lst (D'.map tV))/\One ah D')->Rf [qL 0, qI M, qI w, qL R, qI I, qI z, qL k, qn, qn, qn, qn, qn, qn] s2=.nx [qL 0, qI M, qI w, qL R, qI I, qI z, qL r, qn, qn, qn, qn, qn, qn] s3 ->
   ∃r D y5 s',Ql [qL 0, qI M, qI w, qL R, qI I, x5, x6, qn, qn, qn, qn, qn, qn] s=.nx [qL 0, qI M, qI w, qL R, qI I, y5, qL r, qn, qn, qn, qn, qn, qn] s'/\s'[R]?=some (.lst (us++[.loc r]))/\s'[r]?=some (.lst (D.map tV))/\One ah D/\s.length<=r/\∀(n:Nat)(c:bx),n≠R->s[n]?=some c->s'[n]?=some c:=by
  rintro r s3 F3 gr ⟨D',lr,oD⟩ est;have Qm:=F3.2 _ _ lR2;have ap:=jT (v:=.loc r) Qm (by rw[VF];lia);have gR:=aX lR;have f1:=F1.1;refine⟨r,D',some (.int z),s3.set R (.lst (us++[.loc r])),?_,Ht Qm,Jw lr ⋯,oD,⋯,λn c hn h=>Jw (F3.2 _ _ (uO.2 _ _ h)) (WE hn)⟩;show aA _ (aA _ (aA Rf _)) _ s=_;generalize Rf=S at est⊢;have LK:s1=s++[bx.lst [.int 4,.int 20]]:=e1;simp![L!,ig,VF,mX,z?,Jv,c0,<-LK,ef,div_ii fz,c8 (j:=5) ⋯,<-hz,c2,c1,div_ii d4,c8 (j:=3) ⋯,<-hkd,e2,est,sH Qm,ap]
 cases q:((o3.fdiv 12).fmod 2==1) with
 |false=>
  refine fin k s2 Ext.m? N2.2.1 ⟨D,N2.2.2,⟨h2.1,h2.2.1,b2⟩⟩ ?_;simp![c3,div_ii d12,c8 (j:=2) ⋯,q]
 |true=>
  obtain⟨o4,c4⟩:=f_ (k:=4) Cr ⋯ ⋯;have TV:AN 10 20:=by decide
  have e20:(10:Int) ^ Int.toNat 20=100000000000000000000:=by decide
  obtain⟨g,hg⟩:=NE (1+o4.fmod 100000000000000000000:Int)
  have bg:=ji (m:=100000000000000000000) ⋯ o4;have big:ic 70 g:=by
   show g.natAbs<2 ^ 70;have:(100000000000000000000:Int)<2 ^ 70:=by decide
   lia
  have TX:=EL (μ:=[some (.loc 0),some (.int M),some (.int w),some (.loc R),some (.int I),some (.int z),some (.loc k),none,none,none,none,none,none]) (m:=oP) (s:=s2) (s1:=s2) (k:=1) (caps:=[0]) (a:=aq 0) (e:=IP) (g:=(· * g)) (λτ=>∃x,τ=[x,some (.loc 0)]) rfl (av N2.2.2) (by have:=h2.2.1;lia) ⟨none,rfl⟩ (by
   rintro t ht τ ⟨x,rfl⟩;refine⟨[some (tV t),some (.loc 0)],rfl,⟨_,rfl⟩,?_⟩;have v0:aE [some (tV t),some (.loc 0)] s2=.ok (tV t) s2:=rfl;have a1:ag aU aE bI [some (tV t),some (.loc 0)] s2=.ok (au t.1) s2:=by rw[bF v0 (y:=.int 0) (s2:=s2) rfl];exact bE yt
   have a2:ag aU aE dJ [some (tV t),some (.loc 0)] s2=.ok (.int t.2) s2:=by rw[bF v0 (y:=.int 1) (s2:=s2) rfl];exact bE yu
   have a3:ag cq dJ (ag dE (ai PM.bZ (aa aW (aa vL aj))) (ag uc Be vM)) [some (tV t),some (.loc 0)] s2=.ok (.int g) s2:=by simp![c4,D5 TV,e20,c8 (j:=100000000000000000000) ⋯,<-hg]
   have a4:ag dg (ag aU aE dJ) (ag cq dJ (ag dE (ai PM.bZ (aa aW (aa vL aj))) (ag uc Be vM))) [some (tV t),some (.loc 0)] s2=.ok (.int (t.2*g)) s2:=by rw[bF a2 a3];exact pX (iL (h2.2.2 t ht) big ⋯ ⋯)
   exact i? (gu a1 a4) (by show 2<=1000;decide))
  obtain⟨s3,e3,F3,l3,_⟩:=put s2 ((chg (· * g) D).map tV);rw[<-e3]at TX;refine fin s2.length s3 F3 F2.1 ⟨_,l3,IM h2 ⋯ big⟩ ?_;show fL _ (aN 6 (aO 1 [0] (bQ oP) (aq 0) aw IP)) bz _ s2=_;generalize aO 1 [0] (bQ oP) (aq 0) aw IP=C at TX⊢;simp![c3,div_ii d12,c8 (j:=2) ⋯,q,TX]
end
theorem Fy(c:bx)(ns:_H)(hl:ns.length<=63)(hi:ar [c] 0=some (ns.map ak.int)):∃az,Fq [.loc 0] [c]=.ok (.bl true) az:=by
 obtain⟨st,AJ⟩:=ZB ([c])
 have l0:0<st.length:=by rw[<-AJ];exact Nat.zero_lt_succ _
 rw[AJ]at hi⊢;obtain⟨o0,c0⟩:=f_ (k:=0) hi ⋯ ⋯;have w0:=ji (m:=4) ⋯ o0;obtain⟨ah,hm⟩:∃ah:Nat,(ah:Int)=1+o0.fmod 4:=⟨(1+o0.fmod 4).toNat,⋯⟩
 obtain⟨M,hM⟩:=NE (1+o0.fmod 4:Int)
 obtain⟨o1,c1⟩:=f_ (k:=1) hi ⋯ ⋯;obtain⟨s1,e1,F1,l1,g1⟩:=put st ([9,99].map ak.int);have NI:ar s1 0=some (ns.map ak.int):=by rw[e1];exact cn hi _
 obtain⟨o1',c1'⟩:=f_ (k:=1) NI ⋯ ⋯;obtain⟨w,ew,ww⟩:∃w:Int,aU (.loc st.length) (.int (if(o1'.fmod 4==1)=true then 1 else 0)) s1=.ok (.int w) s1/\0<=w:=by
  cases(o1'.fmod 4==1) with
  |true=>exact⟨99,eZ (av l1) yu,by decide⟩
  |false=>exact⟨9,eZ (av l1) yt,by decide⟩
 obtain⟨s2,e2,F2,l2,g2⟩:=put s1 [];have Cr:ar s2 0=some (ns.map ak.int):=by rw[e2];exact cn NI _
 obtain⟨R,hR⟩:=NE s1.length
 rw[<-hR]at l2;have R0:0≠R:=⋯
 have Qn:∀{a b:af},ar a 0=some (ns.map ak.int)->(∀(n:Nat)(c:bx),n≠R->a[n]?=some c->b[n]?=some c)->ar b 0=some (ns.map ak.int):=λ{a b}h k=>by
  unfold ar at h⊢;cases e:a[0]? with
  |none=>rw[e]at h;cases h
  |some c=>rw[k 0 c R0 e];rw[e]at h;exact h
 obtain⟨r0,A,y5,s3,f3,Qm,la3,oA,gr0,k3⟩:=Fx (ah:=ah) (M:=M) (w:=w) (i:=0) (x5:=none) (x6:=none) ⋯ ⋯ ⋯ ww Cr ⋯ l2 (by show 0<=2;decide);have hi3:=Qn Cr k3;obtain⟨r1,B,z5,s4,f4,lR4,lb4,oB,gr1,k4⟩:=Fx (ah:=ah) (M:=M) (w:=w) (i:=1) (x5:=y5) (x6:=some (.loc r0)) ⋯ ⋯ ⋯ ww hi3 ⋯ Qm (by show 1<=2;decide);have gR:=aX l2;have la4:=k4 r0 _ ⋯ la3;obtain⟨s',e'⟩:=Qk (x2:=some (.int w)) (x4:=some (.int 1)) (x5:=z5) (x6:=some (.loc r1)) (ah:=ah) ⋯ ⋯ oA oB lR4 la4 lb4;refine⟨s',?_⟩;rw[show(ah:Int)=M by lia]at e';have LK:s1=st++[bx.lst [.int 9,.int 99]]:=e1;have fl:forL (λ_=>True) (aq 4) Ql (cu 0 2) [qL 0, qI M, qI w, qL R, qn, qn, qn, qn, qn, qn, qn, qn, qn] s2=.nx [qL 0, qI M, qI w, qL R, qI 1, z5, qL r1, qn, qn, qn, qn, qn, qn] s4:=by have ra:cu 0 2=[.int ((0:Nat):Int),.int ((1:Nat):Int)]:=rfl;rw[ra,uF trivial rfl f3,uF trivial rfl f4];unfold forL;rw[VA trivial];rfl
 have rg:∀s:af,um [.int 2] s=.ok (cu 0 2,λ_=>True) s:=λ_=>rfl;unfold Fq w! w_ w9;rw[aZ (np:=1) (us:=[ak.loc 0]) rfl];show(aA _ (aA _ (aA _ (aA (d5 _ (aq 4) Ql) _))) [qL 0, qn, qn, qn, qn, qn, qn, qn, qn, qn, qn, qn, qn] st).fin=_;generalize Ql=B' at fl⊢;generalize jM=T at e'⊢;simp![iC,fP,VF,Jv,c0,c8 (j:=4) ⋯,<-hM,<-LK,c1',ew,<-e2,<-hR,rg,fl,e']
open PySem.Spec L2 MN
open PyProof.Rows hiding St
def top(i:Nat):Stmt:=PySem.Challenge.pw_polyring_k28_common_of_few.main.body.getD i (.Pass ⟨0,0,0,0⟩)
structure Txt(P:_Q)(w:World)(K:_G)(mg:_E)(base:Heap):Prop where
 gl:MgK K mg
 b:IC mg ["ValueError","abs","all","bool","dict","int","isinstance","len","list","max","min","range","sorted","tuple","zip"]
 c:ID K mg ["AlgebraError","NoRing","NoPrime","NoInverse","NotWhole","NoUnknowns","NoTerm","NoCount","NoLead","NoOrder","NotWritten","ByNought","NoMeet","NoParts","NotPlain","NoSums"]
 xg:Glob K mg "MOST_RING" (.int 997)
 qB:Glob K mg "FIRST_PRIMES" PM.fC
 oh:Glob K mg "MOST_UNKNOWNS" (.int 4)
 sub:eB K mg tab
 qx:rf K mg qm.kn
theorem IQ{e:Expr}(hN:X.N.Nodup)(he:PE X e (tE X E m))(hi:X.N[i]?=some x:=by rfl)(hx:Loc X.env.scope x:=by left)(hs:swapsWith e (some (.Name x pos')) pos.line X.env=pure false:=by rfl)(hf:X.fn x=true\/X.env.scope.names.lookup x=some .local:=by left):PS X (.Assign [.Name x pos'] e pos) (tS X E (aN i m)):=Lx i hN he hi hx hs hf
section
variable{P:_Q}{w:World}{K:_G}{mg:_E}{base:Heap}(T:Txt P w K mg base)
theorem km:fj ["_law_error","_law_found"] ["_law_error"] (aV (top 122)):=dw
theorem uR:fj ["_law_script","_law_many","_law_power","_law_rows","_law_k","_law_size","_law_row","_law_handed","_law_found","_law_lists","_law_at","_law_kept","_law_again"] ["_law_script"] (aV (top 126)):=dw
seal L2.PE L2.PT L2.PA L2.PS L2.jk L2.PG L2.xC L2.PI L2.vf L2.FK L2.A! L2.PH
set_option hygiene false
local macro_rules|`(nofun)=>`(by first|rfl|assumption|exact f' T.b (by decide +kernel)|exact Dh|exact O1|exact MW|exact Na T.c (by decide +kernel)|lia)
def y_q:Array String:=("PA _ ( List.cons _ _ ) _,GS ? ?;PA _ List.nil _,Lr;PE _ ( Expr.Name .. ) _,Ld _;PE _ ( Expr.Name .. ) _,t? ! T.xg;PE _ ( Expr.Name .. ) _,t? ! T.qB;PE _ ( Expr.Name .. ) _,t? ! T.oh;PE _ ( Expr.Constant .. ) _,Le;PE _ ( Expr.Constant .. ) _,OS;PE _ ( Expr.Constant .. ) _,Lf;PE _ ( Expr.Constant .. ) _,Lg;PE _ _ ( tG _ _ _ ( ai pO _ ) ),f7 ( Bj hr.hd ) ! ! PyProof.Rows.boot_all ?;PE _ _ ( tG _ _ _ ( ai gY _ ) ),jP Bh ! ! Zm ?;PE _ _ ( tG _ _ _ ( ai lK _ ) ),f7 Bg ! ! PyProof.Rows.boot_abs ?;PE _ _ ( tG _ _ _ ( ai cZ _ ) ),f7 Bf ! ! boot_len ?;PE _ _ ( tG _ _ _ ( ai yT _ ) ),f7 ( yU hr.hd ) ! ! PyProof.Rows.Boot.min ?;PE _ _ ( tG _ _ _ ( ai fw _ ) ),jP Bi ! ! Zt ?;PE _ _ ( tG _ _ _ ( ai wJ _ ) ),f7 ( BM hr.hd ) ! ! PyProof.Rows.Boot.min ?;PE _ _ ( tG _ _ _ ( ai wm _ ) ),jP ( Bz hr.hd hr.units ) ! ! PyProof.Rows.boot_dict ?;PE _ _ ( tG _ _ _ ( ai wO _ ) ),f7 yI ! ! boot_len ?;PE _ _ ( tG _ _ _ ( ai wQ _ ) ),f7 ( yJ ! hr.units ) ! ! PyProof.Rows.Boot.max ?;PE _ _ ( tG _ _ _ ( ai wU _ ) ),f7 ( yK hr.hd ) ! ! PyProof.Rows.Boot.min ?;PE _ _ ( tG _ _ _ ( ai ye _ ) ),jP Br ! ! PyProof.Rows.Boot.int ?;PE _ _ ( tG _ _ _ ( ai _ _ ) ),O5 ! hr ! ! ! ?;PE _ _ ( tG _ _ _ ( ag aU _ _ ) ),LY ? ?;PE _ _ ( tG _ _ _ ( ag dQ _ _ ) ),Hf hr.units ? ?;PE _ _ ( tG _ _ _ ( q9 _ _ ) ),Lk ? ?;PE _ _ ( tG _ _ _ ( QO _ _ ) ),OU ? ?;PE _ _ ( tG _ _ _ ( OT _ _ _ ) ),OW ? ? ?;PE _ _ ( tG _ _ _ ( cQ _ ) ),Ls ?;PE _ _ ( tG _ _ _ ( df _ ) ),Lu ?;PE _ _ ( tG _ _ _ ( Bq _ _ _ ) ),O7 ? ? ?;PE _ _ ( tG _ _ _ ( pT ) ),DR;PE _ ( Expr.BinOp .. ) _,M4 ? ?;PE _ ( Expr.BinOp .. ) _,M3 ? ?;PE _ ( Expr.BinOp .. ) _,MY ? ?;PE _ ( Expr.BinOp .. ) _,MZ ? ?;PE _ ( Expr.BinOp .. ) _,M0 ? ?;PE _ ( Expr.BinOp .. ) _,M5 ? ?;PE _ ( Expr.BinOp .. ) _,kE HM ? ?;PE _ ( Expr.Compare .. ) _,P' hr.units ? ?;PE _ ( Expr.Compare .. ) _,Qa hr.units ? ?;PE _ ( Expr.Compare .. ) _,jx Dw ? ?;PE _ ( Expr.Compare .. ) _,jx ud ? ?;PE _ ( Expr.Compare .. ) _,jx Dx ? ?;PE _ ( Expr.Compare .. ) _,jx ( Ej hr.units ) ? ?;PE _ ( Expr.Compare .. ) _,jx DD ? ?;PE _ ( Expr.Compare .. ) _,jx sA ? ?;PE _ ( Expr.UnaryOp .. ) _,Lz ?;PE _ ( Expr.UnaryOp .. ) _,Ll ?;PE _ ( Expr.Call ( Expr.Attribute .. ) .. ) _,Bs ? ?;PE _ ( Expr.Call ( Expr.Attribute .. ) .. ) _,EZ ? ?;PE _ ( Expr.Call ( Expr.Attribute .. ) .. ) _,E3 ? ?;PE _ ( Expr.Call ( Expr.Attribute .. ) .. ) _,DS hr.units ? ? ?;PE _ ( Expr.Call ( Expr.Attribute .. ) .. ) _,Ij hr.units ? ?;PE _ _ ( tG _ _ _ ( vP _ _ ) ),uf DG ! ! ! ! PyProof.Rows.boot_int ?;PE _ _ ( tG _ _ _ ( vP _ _ ) ),uf Bk ! ! ! ! PyProof.Rows.boot_bool ?;PE _ _ ( tG _ _ _ ( vP _ _ ) ),uf xX ! ! ! ! Zm ?;PE _ _ ( tG _ _ _ ( vP _ _ ) ),uf Bl ! ! ! ! Zt ?;PE _ _ ( tG _ _ _ ( dG _ _ _ _ ) ),Ik _ T.sub T.qx ! ! ! !;PE _ _ ( tG _ _ _ ( yb _ _ _ ) ),He _ T.sub ! kh ! ! !;jk _ ( List.cons _ List.nil ) _,Dn ?;jk _ ( List.cons _ _ ) _,zP ? ?;jk _ List.nil _,Lv;PS _ ( Stmt.Assign ( List.cons ( Expr.Name .. ) List.nil ) .. ) _,IQ ! ?;PS _ ( Stmt.Assign ( List.cons ( Expr.Subscript .. ) List.nil ) .. ) _,Hg hr.units ? ? ?;PS _ ( Stmt.Return .. ) _,Lw ?;PS _ ( Stmt.If .. ) _,OZ ? ? ?;PS _ ( Stmt.Expr .. ) _,GW ?;PS _ ( Stmt.While .. ) _,DJ vR ? ?;PS _ ( Stmt.For .. ) _,LL vR rfl ? ? ?;PS _ ( Stmt.Raise .. ) _,Bp yc rfl ! ! ?;PI _ _ _ ( tG _ _ _ ( bQ _ ) ),LG ?;PI _ _ ( Expr.Call .. ) _,Bn ! ! ?;PI _ _ ( Expr.Call .. ) _,LH _ _ ! ! ?;PG _ ( Expr.Name .. ) _,G8 _ !;PG _ ( Expr.Tuple .. ) _,LC rfl ?;xC _ ( List.cons _ _ ) _,DH ? ?;xC _ List.nil _,G9;vf _ List.nil _,G_;vf _ List.nil _,B0;vf _ ( List.cons _ List.nil ) _,G! ?;PT _ ( Expr.Compare .. ) _,P! hr.units ? ?;PT _ ( Expr.Compare .. ) _,P? hr.units ? ?;PT _ ( Expr.Compare .. ) _,P0 ? ?;PT _ ( Expr.Compare .. ) _,P_ ? ?;PT _ ( Expr.Compare .. ) _,jy ud ? ?;PT _ ( Expr.Compare .. ) _,jy ( Ej hr.units ) ? ?;PT _ ( Expr.Compare .. ) _,jy DD ? ?;PT _ ( Expr.Compare .. ) _,jy sA ? ?;PT _ ( Expr.UnaryOp .. ) _,Lo ?;PT _ ( Expr.BoolOp .. ) _,SH ?;PT _ _ ( tG _ _ _ ( ck _ ) ),Lh ?;Hi ?;Hh;OV ? ?;Lm ?;Ln ? ?;GR ?;Lj ?;jk _ _ _,Dn ?;jk _ _ _,zP ? ?".splitOn ";").toArray
def y_k(i:Nat):Lean.MacroM (Lean.TSyntax `tactic):=do
 let f:=yf (<-`(?_)) (<-`(nofun)) (<-`(_))
 match y_q[i]!.splitOn "," with|[g,t]=>`(tactic|((with_reducible show $(f g));refine $(f t)))|_=>`(tactic|refine $(f y_q[i]!))
local macro_rules|`(tactic|fail)=>y_k 100
local macro_rules|`(tactic|fail)=>y_k 99
local macro_rules|`(tactic|fail)=>y_k 98
local macro_rules|`(tactic|fail)=>y_k 97
local macro_rules|`(tactic|fail)=>y_k 96
local macro_rules|`(tactic|fail)=>y_k 95
local macro_rules|`(tactic|fail)=>y_k 94
local macro_rules|`(tactic|fail)=>y_k 93
local macro_rules|`(tactic|fail)=>y_k 92
local macro_rules|`(tactic|fail)=>y_k 91
local macro_rules|`(tactic|fail)=>y_k 90
local macro_rules|`(tactic|fail)=>y_k 89
local macro_rules|`(tactic|fail)=>y_k 88
local macro_rules|`(tactic|fail)=>y_k 87
local macro_rules|`(tactic|fail)=>y_k 86
local macro_rules|`(tactic|fail)=>y_k 85
local macro_rules|`(tactic|fail)=>y_k 84
local macro_rules|`(tactic|fail)=>y_k 83
local macro_rules|`(tactic|fail)=>y_k 82
local macro_rules|`(tactic|fail)=>y_k 81
local macro_rules|`(tactic|fail)=>y_k 80
local macro_rules|`(tactic|fail)=>y_k 79
local macro_rules|`(tactic|fail)=>y_k 78
local macro_rules|`(tactic|fail)=>y_k 77
local macro_rules|`(tactic|fail)=>y_k 76
local macro_rules|`(tactic|fail)=>y_k 75
local macro_rules|`(tactic|fail)=>y_k 74
local macro_rules|`(tactic|fail)=>y_k 73
local macro_rules|`(tactic|fail)=>y_k 72
local macro_rules|`(tactic|fail)=>y_k 71
local macro_rules|`(tactic|fail)=>y_k 70
local macro_rules|`(tactic|fail)=>y_k 69
local macro_rules|`(tactic|fail)=>y_k 68
local macro_rules|`(tactic|fail)=>y_k 67
local macro_rules|`(tactic|fail)=>y_k 66
local macro_rules|`(tactic|fail)=>y_k 65
local macro_rules|`(tactic|fail)=>y_k 64
local macro_rules|`(tactic|fail)=>y_k 63
local macro_rules|`(tactic|fail)=>y_k 62
local macro_rules|`(tactic|fail)=>y_k 61
local macro_rules|`(tactic|fail)=>y_k 60
local macro_rules|`(tactic|fail)=>y_k 59
local macro_rules|`(tactic|fail)=>y_k 58
local macro_rules|`(tactic|fail)=>y_k 57
local macro_rules|`(tactic|fail)=>y_k 56
local macro_rules|`(tactic|fail)=>y_k 55
local macro_rules|`(tactic|fail)=>y_k 54
local macro_rules|`(tactic|fail)=>y_k 53
local macro_rules|`(tactic|fail)=>y_k 52
local macro_rules|`(tactic|fail)=>y_k 51
local macro_rules|`(tactic|fail)=>y_k 50
local macro_rules|`(tactic|fail)=>y_k 49
local macro_rules|`(tactic|fail)=>y_k 48
local macro_rules|`(tactic|fail)=>y_k 47
local macro_rules|`(tactic|fail)=>y_k 46
local macro_rules|`(tactic|fail)=>y_k 45
local macro_rules|`(tactic|fail)=>y_k 44
local macro_rules|`(tactic|fail)=>y_k 43
local macro_rules|`(tactic|fail)=>y_k 42
local macro_rules|`(tactic|fail)=>y_k 41
local macro_rules|`(tactic|fail)=>y_k 40
local macro_rules|`(tactic|fail)=>y_k 39
local macro_rules|`(tactic|fail)=>y_k 38
local macro_rules|`(tactic|fail)=>y_k 37
local macro_rules|`(tactic|fail)=>y_k 36
local macro_rules|`(tactic|fail)=>y_k 35
local macro_rules|`(tactic|fail)=>y_k 34
local macro_rules|`(tactic|fail)=>y_k 33
local macro_rules|`(tactic|fail)=>y_k 32
local macro_rules|`(tactic|fail)=>y_k 31
local macro_rules|`(tactic|fail)=>y_k 30
local macro_rules|`(tactic|fail)=>y_k 29
local macro_rules|`(tactic|fail)=>y_k 28
local macro_rules|`(tactic|fail)=>y_k 27
local macro_rules|`(tactic|fail)=>y_k 26
local macro_rules|`(tactic|fail)=>y_k 25
local macro_rules|`(tactic|fail)=>y_k 24
local macro_rules|`(tactic|fail)=>y_k 23
local macro_rules|`(tactic|fail)=>y_k 22
local macro_rules|`(tactic|fail)=>y_k 21
local macro_rules|`(tactic|fail)=>y_k 20
local macro_rules|`(tactic|fail)=>y_k 19
local macro_rules|`(tactic|fail)=>y_k 18
local macro_rules|`(tactic|fail)=>y_k 17
local macro_rules|`(tactic|fail)=>y_k 16
local macro_rules|`(tactic|fail)=>y_k 15
local macro_rules|`(tactic|fail)=>y_k 14
local macro_rules|`(tactic|fail)=>y_k 13
local macro_rules|`(tactic|fail)=>y_k 12
local macro_rules|`(tactic|fail)=>y_k 11
local macro_rules|`(tactic|fail)=>y_k 10
local macro_rules|`(tactic|fail)=>y_k 9
local macro_rules|`(tactic|fail)=>y_k 8
local macro_rules|`(tactic|fail)=>y_k 7
local macro_rules|`(tactic|fail)=>y_k 6
local macro_rules|`(tactic|fail)=>y_k 5
local macro_rules|`(tactic|fail)=>y_k 4
local macro_rules|`(tactic|fail)=>y_k 3
local macro_rules|`(tactic|fail)=>y_k 2
local macro_rules|`(tactic|fail)=>y_k 1
local macro_rules|`(tactic|fail)=>y_k 0
local macro_rules|`(tactic|trivial)=>`(tactic|repeat' first|fail|fail_if_success skip)
include T
theorem yZ(F:dm K "divides" (top 18)):FnAt P w K mg base "divides" 1 PM.e?:=
 FnAt.iP ["one","other"] ["one","other"] F T.gl (λ_ _ _ _ s _ _ nd hr=>by
 have:(["mine","theirs"]:_L).Nodup:=by decide +kernel
 trivial
 .refine dc (N:=["mine","theirs"]) (k:=2) rfl rfl (fM (cl:=[])) ?_ ?_ ?_ ?_<;>intros<;>trivial)
variable(B!:FnAt P w K mg base "divides" 1 PM.e?)
theorem IS(F:dm K "less" (top 19)):FnAt P w K mg base "less" 1 PM.d9:=
 FnAt.iP ["one","other"] ["one","other"] F T.gl (λ_ _ _ _ s _ _ nd hr=>by
 have:(["mine","theirs"]:_L).Nodup:=by decide +kernel
 trivial
 .refine dc (N:=["mine","theirs"]) (k:=2) rfl rfl (fM (cl:=[])) ?_ ?_ ?_ ?_<;>intros<;>trivial)
variable(FA:FnAt P w K mg base "less" 1 PM.d9)
theorem xh(F:dm K "is_whole" (top 23)):FnAt P w K mg base "is_whole" 1 PM.jB:=
 FnAt.iP ["thing"] ["thing"] F T.gl (λ_ _ _ _ s _ _ nd hr=>by
 trivial)
variable(qD:FnAt P w K mg base "is_whole" 1 PM.jB)
theorem kP(F:dm K "is_prime_within" (top 24)):FnAt P w K mg base "is_prime_within" 1 PM.cm:=
 FnAt.iP ["number"] ["number"] F T.gl (λ_ _ _ _ s _ _ nd hr=>by
 have:(["prime","number"]:_L).Nodup:=by decide +kernel
 trivial
 .refine dc (N:=["prime","number"]) (k:=1) rfl rfl (fM (cl:=[("number",s.heap.objs.size+1)])) ?_ ?_ ?_ ?_<;>intros<;>trivial)
variable(l!:FnAt P w K mg base "is_prime_within" 1 PM.cm)
theorem oj(F:dm K "rest_in_ring" (top 27)):FnAt P w K mg base "rest_in_ring" 1 PM.bV:=
 FnAt.iP ["ring","number"] ["ring","number"] F T.gl (λ_ _ _ _ s _ _ nd hr=>by
 trivial)
variable(qE:FnAt P w K mg base "rest_in_ring" 1 PM.bV)
theorem kQ(F:dm K "greatest_number" (top 28)):FnAt P w K mg base "greatest_number" 1 PM.bL:=
 FnAt.iP ["numbers","greatest","number","lower","rest"] ["numbers"] F T.gl (λ_ _ _ _ s _ _ nd hr=>by
 trivial)
variable(ij:FnAt P w K mg base "greatest_number" 1 PM.bL)
theorem B?(F:dm K "joined" (top 43)):FnAt P w K mg base "joined" 1 PM.joined:=
 FnAt.iP ["exponents","others"] ["exponents","others"] F T.gl (λ_ _ _ _ s _ _ nd hr=>by
 have:(["one","other"]:_L).Nodup:=by decide +kernel
 trivial
 .refine dc (N:=["one","other"]) (k:=2) rfl rfl (fM (cl:=[])) ?_ ?_ ?_ ?_<;>intros<;>trivial)
variable(xi:FnAt P w K mg base "joined" 1 PM.joined)
theorem xj(F:dm K "power_in" (top 47)):FnAt P w K mg base "power_in" 1 PM.iJ:=
 FnAt.iP ["row","unknown"] ["row","unknown"] F T.gl (λ_ _ _ _ s _ _ nd hr=>by
 have:(["exponents","number","unknown"]:_L).Nodup:=by decide +kernel
 trivial
 .refine HH (by rfl) (by rfl) T.b.2.2.2.2.2.2.2.2.2.1 PyProof.Rows.Boot.«max» ?_ ?_
  .refine dc (N:=["exponents","number","unknown"]) (k:=2) rfl rfl (fM (cl:=[("unknown",s.heap.objs.size+1)])) ?_ ?_ ?_ ?_<;>intros<;>trivial
  .trivial)
variable(y0:FnAt P w K mg base "power_in" 1 PM.iJ)
theorem y8(F:dm K "less_it" (top 58)):FnAt P w K mg base "less_it" 1 PM.lY:=
 FnAt.iP ["row"] ["row"] F T.gl (λ_ _ _ _ s _ _ nd hr=>by
 have:(["exponents","number"]:_L).Nodup:=by decide +kernel
 trivial
 .refine dc (N:=["exponents","number"]) (k:=2) rfl rfl (fM (cl:=[])) ?_ ?_ ?_ ?_<;>intros<;>trivial)
variable(Ca:FnAt P w K mg base "less_it" 1 PM.lY)
theorem j?(F:dm K "lowest_exponents" (top 60)):FnAt P w K mg base "lowest_exponents" 1 PM.bB:=
 FnAt.iP ["row"] ["row"] F T.gl (λ_ _ _ _ s _ _ nd hr=>by
 have:(["place","row"]:_L).Nodup:=by decide +kernel
 have:(["exponents","number","place"]:_L).Nodup:=by decide +kernel
 trivial
 .refine BZ (N:=["place","row"]) (k:=1) rfl rfl (MX (cl:=[("row",s.heap.objs.size+1)]) (y:="place")) ?_ (λ_ _ _ _=>?_) (λ_ _ _ _=>?_) (λC_ _ _ _=>?_)
  .trivial
  .trivial
  .trivial
  .trivial
   .refine dc (N:=["exponents","number","place"]) (k:=2) rfl rfl (fM (cl:=[("place",(C_+1))])) ?_ ?_ ?_ ?_<;>intros<;>trivial)
variable(kR:FnAt P w K mg base "lowest_exponents" 1 PM.bB)
theorem nh(F:dm K "greatest_bare" (top 64)):FnAt P w K mg base "greatest_bare" 1 PM.du:=
 FnAt.iP ["ones","others","unknown","place","found"] ["ones","others"] F T.gl (λ_ _ _ _ s _ _ nd hr=>by
 trivial
 .exact Ar)
variable(om:FnAt P w K mg base "greatest_bare" 1 PM.du)
theorem uS(F:dm K "_law_cell" (top 111)):FnAt P w K mg base "_law_cell" 1 PM.bZ:=
 FnAt.iP ["_law_script","_law_k","_law_cell_here","_law_mark"] ["_law_script","_law_k"] F T.gl (λ_ _ _ _ s _ _ nd hr=>by
 trivial)
variable(xk:FnAt P w K mg base "_law_cell" 1 PM.bZ)
theorem rD(F:dm K "_law_whole" (top 112)):FnAt P w K mg base "_law_whole" 1 PM.fg:=
 FnAt.iP ["_law_found"] ["_law_found"] F T.gl (λ_ _ _ _ s _ _ nd hr=>by
 trivial)
variable(uT:FnAt P w K mg base "_law_whole" 1 PM.fg)
theorem rE(F:dm K "_law_mixed" (top 113)):FnAt P w K mg base "_law_mixed" 1 PM.d8:=
 FnAt.iP ["_law_cell_here","_law_k","_law_mark"] ["_law_cell_here","_law_k"] F T.gl (λ_ _ _ _ s _ _ nd hr=>by
 trivial)
variable(uU:FnAt P w K mg base "_law_mixed" 1 PM.d8)
theorem qF(F:dm K "_law_number" (top 114)):FnAt P w K mg base "_law_number" 1 PM.cb:=
 FnAt.iP ["_law_cell_here","_law_kind"] ["_law_cell_here","_law_kind"] F T.gl (λ_ _ _ _ s _ _ nd hr=>by
 trivial)
variable(rF:FnAt P w K mg base "_law_number" 1 PM.cb)
theorem xl(F:dm K "_law_sum" (top 115)):FnAt P w K mg base "_law_sum" 1 PM.dq:=
 FnAt.iP ["_law_pairs","_law_found","_law_exponents","_law_number_here"] ["_law_pairs"] F T.gl (λ_ _ _ _ s _ _ nd hr=>by
 have:(["_law_exponents","_law_found"]:_L).Nodup:=by decide +kernel
 trivial
 .refine dc (N:=["_law_exponents","_law_found"]) (k:=1) rfl rfl (fM (cl:=[("_law_found",s.heap.objs.size+1)])) ?_ (λ_ _ _ _=>?_) (λ_ _ _ _=>?_) (λ_ _ _ _=>?_)
  .trivial
   .refine Ei (by rfl) (by rfl) T.b.2.2.2.2.2.2.2.2.2.2.2.2.1 PyProof.Rows.Boot.«sorted» ?_<;>trivial
  .trivial
  .trivial
  .trivial)
variable(kS:FnAt P w K mg base "_law_sum" 1 PM.dq)
theorem qG(F:dm K "_law_common" (top 120)):FnAt P w K mg base "_law_common" 1 PM.e!:=
 FnAt.iP ["_law_one","_law_other","_law_rest"] ["_law_one","_law_other"] F T.gl (λ_ _ _ _ s _ _ nd hr=>by
 trivial)
variable(rG:FnAt P w K mg base "_law_common" 1 PM.e!)
theorem rH(F:dm K "_law_kinds" (top 122)):sR P w K mg base "_law_kinds" 1 bT:=let⟨_,_,F,a⟩:=F
 sR.mk F (T.gl _ _ a) km (λ_ _ _ _ _ _=>LZ λ_=>rfl) λej A outer s H ea oe hr=>by
 have:=km.nd;trivial
variable(l?:sR P w K mg base "_law_kinds" 1 bT)
theorem rK(F:dm K "_law_apart" (top 125)):FnAt P w K mg base "_law_apart" 1 PM.iO:=
 FnAt.iP ["_law_lists","_law_kept","_law_k"] ["_law_lists"] F T.gl (λ_ _ _ _ s _ _ nd hr=>by
 have:(["_law_one"]:_L).Nodup:=by decide +kernel
 trivial
 .refine MN.gZ 1 (N:=["_law_one"]) (k:=1) nd rfl rfl (fM (cl:=[])) ?_ ?_ ?_ ?_<;>intros<;>trivial
 .refine dc (N:=["_law_one"]) (k:=1) rfl rfl (fM (cl:=[])) ?_ ?_ ?_ ?_<;>intros<;>trivial)
variable(uV:FnAt P w K mg base "_law_apart" 1 PM.iO)
include qD l! in
theorem y9(F:dm K "is_ring" (top 25)):FnAt P w K mg base "is_ring" 2 PM.jQ:=
 FnAt.iP ["thing"] ["thing"] F T.gl (λ_ _ _ _ s _ _ nd hr=>by
 trivial)
variable(Cb:FnAt P w K mg base "is_ring" 2 PM.jQ)
include qD in
theorem kT(F:dm K "is_whole_within" (top 32)):FnAt P w K mg base "is_whole_within" 2 PM.bW:=
 FnAt.iP ["thing","lowest","highest"] ["thing","lowest","highest"] F T.gl (λ_ _ _ _ s _ _ nd hr=>by
 trivial
 .refine Dm Dr ud ud ?_ ?_ ?_<;>trivial)
variable(mf:FnAt P w K mg base "is_whole_within" 2 PM.bW)
include qE in
theorem ni(F:dm K "settled_terms" (top 35)):FnAt P w K mg base "settled_terms" 2 PM.dP:=
 FnAt.iP ["ring","pairs","terms"] ["ring","pairs"] F T.gl (λ_ _ _ _ s _ _ nd hr=>by
 have:(["exponents","number","ring"]:_L).Nodup:=by decide +kernel
 have:(["term"]:_L).Nodup:=by decide +kernel
 trivial
 .refine MN.gZ 2 (N:=["exponents","number","ring"]) (k:=2) nd rfl rfl (fM (cl:=[("ring",s.heap.objs.size+1)])) ?_ ?_ ?_ ?_<;>intros<;>trivial
 .refine dc (N:=["term"]) (k:=1) rfl rfl (fM (cl:=[])) ?_ ?_ ?_ ?_<;>intros<;>trivial)
variable(oo:FnAt P w K mg base "settled_terms" 2 PM.dP)
include xi in
theorem nj(F:dm K "take_multiple" (top 54)):FnAt P w K mg base "take_multiple" 2 PM.cY:=
 FnAt.iP ["left","by","step","exponents","number","place","rest"] ["left","by","step"] F T.gl (λ_ _ _ _ s _ _ nd hr=>by
 trivial)
variable(oq:FnAt P w K mg base "take_multiple" 2 PM.cY)
include ij in
theorem rL(F:dm K "content_of" (top 56)):FnAt P w K mg base "content_of" 2 PM.bo:=
 FnAt.iP ["row"] ["row"] F T.gl (λ_ _ _ _ s _ _ nd hr=>by
 have:(["exponents","number"]:_L).Nodup:=by decide +kernel
 trivial
 .refine dc (N:=["exponents","number"]) (k:=2) rfl rfl (fM (cl:=[])) ?_ ?_ ?_ ?_<;>intros<;>trivial)
variable(mj:FnAt P w K mg base "content_of" 2 PM.bo)
include Ca in
theorem y_(F:dm K "upright" (top 57)):FnAt P w K mg base "upright" 2 PM.j2:=
 FnAt.iP ["row"] ["row"] F T.gl (λ_ _ _ _ s _ _ nd hr=>by
 trivial)
variable(Cc:FnAt P w K mg base "upright" 2 PM.j2)
include xi in
theorem rN(F:dm K "times_term" (top 61)):FnAt P w K mg base "times_term" 2 PM.fQ:=
 FnAt.iP ["row","exponents","number"] ["row","exponents","number"] F T.gl (λ_ _ _ _ s _ _ nd hr=>by
 have:(["own","own_number","exponents","number"]:_L).Nodup:=by decide +kernel
 trivial
 .refine dc (N:=["own","own_number","exponents","number"]) (k:=2) rfl rfl (xf (cl:=[("exponents",s.heap.objs.size+1),("number",s.heap.objs.size+2)]) (cl':=[("number",s.heap.objs.size+2),("exponents",s.heap.objs.size+1)]) (caps':=[2,1])) ?_ ?_ ?_ ?_<;>intros<;>trivial)
variable(uW:FnAt P w K mg base "times_term" 2 PM.fQ)
include kS in
theorem rO(F:dm K "_law_times" (top 116)):FnAt P w K mg base "_law_times" 2 PM.bX:=
 FnAt.iP ["_law_ones","_law_others","_law_pairs","_law_one","_law_number_here","_law_other","_law_more"] ["_law_ones","_law_others"] F T.gl (λ_ _ _ _ s _ _ nd hr=>by
 have:(["_law_k","_law_one","_law_other"]:_L).Nodup:=by decide +kernel
 trivial
 .refine dc (N:=["_law_k","_law_one","_law_other"]) (k:=1) rfl rfl (xf (cl:=[("_law_one",s.heap.objs.size+1),("_law_other",s.heap.objs.size+2)]) (cl':=[("_law_other",s.heap.objs.size+2),("_law_one",s.heap.objs.size+1)]) (caps':=[5,3])) ?_ ?_ ?_ ?_<;>intros<;>trivial)
variable(mm:FnAt P w K mg base "_law_times" 2 PM.bX)
include kS in
theorem uX(F:dm K "_law_plus" (top 117)):FnAt P w K mg base "_law_plus" 2 PM.iN:=
 FnAt.iP ["_law_ones","_law_others"] ["_law_ones","_law_others"] F T.gl (λ_ _ _ _ s _ _ nd hr=>by
 trivial)
variable(xm:FnAt P w K mg base "_law_plus" 2 PM.iN)
include uU rF kS in
theorem rP(F:dm K "_law_drawn" (top 118)):FnAt P w K mg base "_law_drawn" 2 PM.d_:=
 FnAt.iP ["_law_cell_here","_law_many","_law_terms","_law_power","_law_kind","_law_pairs","_law_k","_law_exponents"] ["_law_cell_here","_law_many","_law_terms","_law_power","_law_kind"] F T.gl (λ_ _ _ _ s _ _ nd hr=>by
 have:(["_law_j","_law_cell_here","_law_k","_law_power"]:_L).Nodup:=by decide +kernel
 trivial
 .refine dc (N:=["_law_j","_law_cell_here","_law_k","_law_power"]) (k:=1) rfl rfl (xf (cl:=[("_law_cell_here",s.heap.objs.size+1),("_law_k",s.heap.objs.size+3),("_law_power",s.heap.objs.size+2)]) (cl':=[("_law_power",s.heap.objs.size+2),("_law_k",s.heap.objs.size+3),("_law_cell_here",s.heap.objs.size+1)]) (caps':=[3,6,0])) ?_ ?_ ?_ ?_<;>intros<;>trivial) (λ_ _ _ _ _ _=>O? λ_ _ _ _ _=>rfl)
variable(uY:FnAt P w K mg base "_law_drawn" 2 PM.d_)
include uT in
theorem qH(F:dm K "_law_is_sum" (top 119)):FnAt P w K mg base "_law_is_sum" 2 PM.cf:=
 FnAt.iP ["_law_found","_law_many","_law_last","_law_term","_law_exponent"] ["_law_found","_law_many"] F T.gl (λ_ _ _ _ s _ _ nd hr=>by
 trivial)
variable(ko:FnAt P w K mg base "_law_is_sum" 2 PM.cf)
include rG in
theorem xn(F:dm K "_law_due" (top 124)):FnAt P w K mg base "_law_due" 2 PM.dZ:=
 FnAt.iP ["_law_ones","_law_others","_law_high"] ["_law_ones","_law_others"] F T.gl (λ_ _ _ _ s _ _ nd hr=>by
 have:(["_law_term"]:_L).Nodup:=by decide +kernel
 have:(["_law_k","_law_ones","_law_others"]:_L).Nodup:=by decide +kernel
 trivial
 .refine dc (N:=["_law_term"]) (k:=1) rfl rfl (fM (cl:=[])) ?_ ?_ ?_ ?_<;>intros<;>trivial
 .refine dc (N:=["_law_k","_law_ones","_law_others"]) (k:=1) rfl rfl (xf (cl:=[("_law_ones",s.heap.objs.size+1),("_law_others",s.heap.objs.size+2)]) (cl':=[("_law_others",s.heap.objs.size+2),("_law_ones",s.heap.objs.size+1)]) (caps':=[1,0])) ?_ ?_ ?_ ?_<;>intros<;>trivial)
variable(y!:FnAt P w K mg base "_law_due" 2 PM.dZ)
include Cb in
theorem rQ(F:dm K "check_ring" (top 26)):FnAt P w K mg base "check_ring" 3 PM.eY:=
 FnAt.iP ["ring"] ["ring"] F T.gl (λ_ _ _ _ s _ _ nd hr=>by
 trivial)
variable(uZ:FnAt P w K mg base "check_ring" 3 PM.eY)
include mf in
theorem mn(F:dm K "check_unknowns" (top 33)):FnAt P w K mg base "check_unknowns" 3 PM.c9:=
 FnAt.iP ["many"] ["many"] F T.gl (λ_ _ _ _ s _ _ nd hr=>by
 trivial)
variable(nk:FnAt P w K mg base "check_unknowns" 3 PM.c9)
include B! FA oq in
theorem jN(F:dm K "quotient_if_whole" (top 53)):FnAt P w K mg base "quotient_if_whole" 3 PM.br:=
 FnAt.iP ["row","by","left","answer","top","step"] ["row","by"] F T.gl (λ_ _ _ _ s _ _ nd hr=>by
 trivial)
variable(j':FnAt P w K mg base "quotient_if_whole" 3 PM.br)
include FA mj in
theorem IT(F:dm K "bare" (top 63)):FnAt P w K mg base "bare" 3 PM.bare:=
 FnAt.iP ["row","low","number"] ["row","low"] F T.gl (λ_ _ _ _ s _ _ nd hr=>by
 have:(["exponents","own","low","number"]:_L).Nodup:=by decide +kernel
 trivial
 .refine dc (N:=["exponents","own","low","number"]) (k:=2) rfl rfl (xf (cl:=[("low",s.heap.objs.size+1),("number",s.heap.objs.size+2)]) (cl':=[("number",s.heap.objs.size+2),("low",s.heap.objs.size+1)]) (caps':=[2,1])) ?_ ?_ ?_ ?_<;>intros<;>trivial)
variable(Nb:FnAt P w K mg base "bare" 3 PM.bare)
include mm xm ko in
theorem rR(F:dm K "_law_paper" (top 121)):FnAt P w K mg base "_law_paper" 3 PM.gQ:=
 FnAt.iP ["_law_ones","_law_others","_law_told_here","_law_at","_law_many","_law_row","_law_exponents","_law_number_here","_law_both"] ["_law_ones","_law_others","_law_told_here","_law_at","_law_many"] F T.gl (λ_ _ _ _ s _ _ nd hr=>by
 trivial) (λ_ _ _ _ _ _=>O? λ_ _ _ _ _=>rfl)
variable(u0:FnAt P w K mg base "_law_paper" 3 PM.gQ)
include oo uZ nk in
theorem xo(F:dm K "constant" (top 37)):FnAt P w K mg base "constant" 4 PM.constant:=
 FnAt.iP ["ring","many","number"] ["ring","many","number"] F T.gl (λ_ _ _ _ s _ _ nd hr=>by
 trivial)
variable(y?:FnAt P w K mg base "constant" 4 PM.constant)
include ij kR om mj uW Nb in
theorem ou(F:dm K "greatest_sum" (top 62)):FnAt P w K mg base "greatest_sum" 4 PM.fH:=
 FnAt.iP ["ones","others","number","low_one","low_other","low","greatest"] ["ones","others"] F T.gl (λ_ _ _ _ s _ _ nd hr=>by
 have:(["pair"]:_L).Nodup:=by decide +kernel
 trivial
 .refine dc (N:=["pair"]) (k:=1) rfl rfl (fM (cl:=[])) ?_ (λ_ _ _ _=>?_) (λ_ _ _ _=>?_) (λ_ _ _ _=>?_)
  .refine IG false false (by rfl) T.b.2.2.2.2.2.2.2.2.2.2.2.2.2.2.1 ?_<;>trivial
  .trivial
  .trivial
  .trivial)
variable(qJ:FnAt P w K mg base "greatest_sum" 4 PM.fH)
include y0 y? in
theorem xp(F:dm K "paper_of" (top 104)):FnAt P w K mg base "paper_of" 5 PM.eT:=
 FnAt.iP ["ones","others","unknown","number","own","their","paper","both","beyond","left"] ["ones","others","unknown"] F T.gl (λ_ _ _ _ s _ _ nd hr=>by
 trivial
 .exact Ar)
variable(za:FnAt P w K mg base "paper_of" 5 PM.eT)
include Cc j' qJ in
theorem ow(F:dm K "common_parts" (top 109)):FnAt P w K mg base "common_parts" 5 PM.cW:=
 FnAt.iP ["ones","others","greatest"] ["ones","others"] F T.gl (λ_ _ _ _ s _ _ nd hr=>by
 trivial)
variable(qK:FnAt P w K mg base "common_parts" 5 PM.cW)
include za qK in
theorem Ce(F:dm K "common" (top 108)):FnAt P w K mg base "common" 6 PM.common:=
 FnAt.iP ["ones","others","found","papers"] ["ones","others"] F T.gl (λ_ _ _ _ s _ _ nd hr=>by
 have:(["unknown","found"]:_L).Nodup:=by decide +kernel
 trivial
 .refine MN.gZ 3 (N:=["unknown","found"]) (k:=1) nd rfl rfl (fM (cl:=[("found",s.heap.objs.size+1)])) ?_ ?_ ?_ ?_<;>intros<;>trivial)
variable(qM:FnAt P w K mg base "common" 6 PM.common)
include l? qM in
theorem u3(F:dm K "_law_told" (top 123)):FnAt P w K mg base "_law_told" 7 cS:=
 FnAt.iP ["_law_ones","_law_others","_law_error"] ["_law_ones","_law_others"] F T.gl (λ_ _ _ _ s _ _ nd hr=>by
 trivial
 .refine LQ T.qx.known ⟨λ_=>rfl,rfl,rfl⟩ ?_ ?_
  .refine Hb ?_
   .refine Ha ?_
    .refine LS qM hr ⋯ (by rfl) (λ_=>rfl) (λ_=>?_)<;>trivial
  .refine LX (i:=2) T.sub nd T.c.1 (by rfl) (λ_ _=>?_) ?_
   .trivial
    .exact(EU 2 l? ((h!.mark hr _).mono ⋯) (by rfl))
   .exact LN)
variable(xq:FnAt P w K mg base "_law_told" 7 cS)
include xk uV mm uY ko y! u0 qM xq in
theorem Nc{fd:FuncData}(F:FH K "law" "law" (top 126) f fd):jr P w K mg base (kX P w) 8 f fd ["_law_script"] (Lq ⟨K,mg,[]⟩ Fq):=
 Dq F uR λej A outer s H E hr=>by
 have:=uR.nd;have:(["_law_term","_law_script"]:_L).Nodup:=by decide +kernel
 have:(["_law_row"]:_L).Nodup:=by decide +kernel
 trivial
 .refine MN.gZ 6 (N:=["_law_term","_law_script"]) (k:=1) uR.nd rfl rfl (fM (cl:=[("_law_script",s.heap.objs.size+1)])) ?_ ?_ ?_ ?_<;>intros<;>trivial
 .refine MN.gZ 7 (N:=["_law_row"]) (k:=1) uR.nd rfl rfl (fM (cl:=[])) ?_ ?_ ?_ ?_<;>intros<;>trivial
end
theorem all_mk{l:W.OpenLaw}{h:Heap}(X:K.In h)(G:h.Ns mainGlobals mg)(hfa:mg "law" = some (.ref fa)){TY:_O}{TZ Qo:Option _O}{T1:Array (_J)}{T2 Qp Qq Qr Nd Qs:_M}{u4:Tok}{jj:_O}{oy:Option _O}{oz:Nat}{oE:Array (_J)}{nq nr nv ny nA nB nC nD nE nF mq:Tok}{nG:Tok}(h0:dm K "divides" (top 18))(h1:dm K "less" (top 19))(h2:dm K "is_whole" (top 23))(h3:dm K "is_prime_within" (top 24))(h4:dm K "rest_in_ring" (top 27))(h5:dm K "greatest_number" (top 28))(h6:dm K "joined" (top 43))(h7:dm K "power_in" (top 47))(h8:dm K "less_it" (top 58))(h9:dm K "lowest_exponents" (top 60))(Qd:dm K "greatest_bare" (top 64))(Nn:dm K "_law_cell" (top 111))(Qe:dm K "_law_whole" (top 112))(Qf:dm K "_law_mixed" (top 113))(Qg:dm K "_law_number" (top 114))(T3:dm K "_law_sum" (top 115))(T6:dm K "_law_common" (top 120))(T7:dm K "_law_kinds" (top 122))(T8:dm K "_law_apart" (top 125))(T9:dm K "is_ring" (top 25))(T_:dm K "is_whole_within" (top 32))(T!:dm K "settled_terms" (top 35))(T?:dm K "take_multiple" (top 54))(Ua:dm K "content_of" (top 56))(Ub:dm K "upright" (top 57))(Uc:dm K "times_term" (top 61))(Ud:dm K "_law_times" (top 116))(Ue:dm K "_law_plus" (top 117))(Ug:dm K "_law_drawn" (top 118))(Uh:dm K "_law_is_sum" (top 119))(Ui:dm K "_law_due" (top 124))(Uj:dm K "check_ring" (top 26))(Uk:dm K "check_unknowns" (top 33))(Ul:dm K "quotient_if_whole" (top 53))(Um:dm K "bare" (top 63))(Uo:dm K "_law_paper" (top 121))(Up:dm K "constant" (top 37))(Uq:dm K "greatest_sum" (top 62))(Ur:dm K "paper_of" (top 104))(Us:dm K "common_parts" (top 109))(Ut:dm K "common" (top 108))(Uu:dm K "_law_told" (top 123))(Uv:W.nsIn K mainGlobals "law" = some (some (.ref TY)))(Uw:K.lookup TY=some ⟨T2,TZ,.func (W.fnOf "law" "law" (fT (top 126)) (dH (top 126)) (aV (top 126)) .none Qp Qq Qr Qo Nd Qs),T1⟩)(Ux:W.codeIn K Nd "law" = true)(Uy:W.keepIn K (.ref TY)=true)(zb:yO K ["ValueError","abs","all","bool","dict","int","isinstance","len","list","max","min","range","sorted","tuple","zip"])(zc:yP K ["AlgebraError","NoRing","NoPrime","NoInverse","NotWhole","NoUnknowns","NoTerm","NoCount","NoLead","NoOrder","NotWritten","ByNought","NoMeet","NoParts","NotPlain","NoSums"])(jb:W.nsIn K mainGlobals "MOST_RING" = some (some (.int 997 u4)))(gv:W.nsIn K mainGlobals "FIRST_PRIMES" = some (some (.ref jj)))(gw:K.lookup jj=some ⟨.type "tuple",oy,.seq #[.int 2 nq,.int 3 nr,.int 5 nv,.int 7 ny,.int 11 nA,.int 13 nB,.int 17 nC,.int 19 nD,.int 23 nE,.int 29 nF,.int 31 mq] oz,oE⟩)(fR:W.nsIn K mainGlobals "MOST_UNKNOWNS" = some (some (.int 4 nG)))(zp:nU K Qc)(zv:qk K ["NoRing","NoUnknowns","NoMeet"])(zw:W.nsIn K mainGlobals "ValueError" = some none)(zq:yQ K kn):
  ∃fd:FuncData,(∀(s:_N)(v:_M),BindsTo s fd ⟨[v],[]⟩ [("_law_script",v)])/\∀base:Heap,K.In base->base.Ns mainGlobals mg->jr l.prog w K mg base (kX l.prog w) 8 fa fd ["_law_script"] (zX K):=by
 have e:=hfa.symm.trans (W6 X G Uv);cases e;refine⟨W.fnOf "law" "law" (fT (top 126)) (dH (top 126)) (aV (top 126)) .none Qp Qq Qr Qo Nd Qs,λs v=>.of_eq rfl,λbase _ _=>?_⟩;have T:Txt l.prog w K mg base:=⟨λ_ _ h=>W6 X G h,zb.get X G,zc.get X G,Glob.int (W6 X G jb),Glob.ints (ns:=[2,3,5,7,11,13,17,19,23,29,31]) (W6 X G gv) gw rfl rfl (by simp[VF]) (.cons ⟨_,rfl⟩ (.cons ⟨_,rfl⟩ (.cons ⟨_,rfl⟩ (.cons ⟨_,rfl⟩ (.cons ⟨_,rfl⟩ (.cons ⟨_,rfl⟩ (.cons ⟨_,rfl⟩ (.cons ⟨_,rfl⟩ (.cons ⟨_,rfl⟩ (.cons ⟨_,rfl⟩ (.cons ⟨_,rfl⟩ (.nil)))))))))))),Glob.int (W6 X G fR),zp.get X G (zv.get X G zw),zq.get X G⟩
 have Cf:=yZ T  h0;have FC:=IS T  h1;have qO:=xh T  h2;have mw:=kP T  h3;have qP:=oj T  h4;have ik:=kQ T  h5;have xr:=B? T  h6;have zd:=xj T  h7;have Cg:=y8 T  h8;have kU:=j? T  h9;have oF:=nh T  Qd;have xt:=uS T  Nn;have u5:=rD T  Qe;have u6:=rE T  Qf;have rS:=qF T  Qg;have kW:=xl T  T3;have rT:=qG T  T6;have u9:=rH T  T7;have u_:=rK T  T8;have Ci:=y9 T qO mw T9;have mB:=kT T qO T_;have oG:=ni T qP T!;have oH:=nj T xr T?;have mD:=rL T ik Ua;have Cj:=y_ T Cg Ub;have u!:=rN T xr Uc;have mE:=rO T kW Ud;have xu:=uX T kW Ue;have u?:=rP T u6 rS kW Ug;have ku:=qH T u5 Uh;have zg:=xn T rT Ui;have vc:=rQ T Ci Uj;have nH:=mn T mB Uk;have ke:=jN T Cf FC oH Ul;have Nf:=IT T FC mD Um;have vd:=rR T mE xu ku Uo;have zh:=xo T oG vc nH Up;have qQ:=ou T ik kU oF mD u! Nf Uq;have zi:=xp T zd zh Ur;have qR:=ow T Cj ke qQ Us;have xw:=Ce T zi qR Ut;have xx:=u3 T u9 xw Uu;exact(Nc T xt u_ mE u? ku zg vd xw xx (CW (st:=top 126) Uw Ux Uy)).imp λ_ _ _ _ h=>LV Fy h
end qm
structure PySem.W.Fast:Prop where(tw4342861876940043602 tw12294413354723104314 tw6955502421772349562 tw11617917520077347923 tw4342073403451395221 tw6085668120795237984 tw1258882759400294298 tw12034158462722259952 tw10127031333010801665 tw4350281551760125922 tw2365027398448322767 tw7712319155913701864 tw13805378472814889204 tw1533707566621750909 tw2090438770191876744 tw9018668307156505910 tw8508203028845409377 tw10836604267324842122 tw1816737574825339687 tw10671988150875578972 tw10838231266193724867 tw4905359068187215525 tw16196516350779529325 tw9485153813345259491 tw10499167276403384045 tw14284767555089753615 tw11120507838596738197 tw5525806577118273862 tw1621280709349515915 tw7703349004073109368 tw7238502274130002751 tw14221346396968863173 tw3253947054202452058 tw15940785146514015107 tw1148279767139821555 tw8160967102675353719 tw17142911035322098755 tw6433183569190590132 tw4535429119389934397 tw8596469135934172173 tw1084929841086484225 tw7520031069467851393 tw12929228845247054675 tw15594796130716046540 tw15610124491413916362 tw3046243215731412622 tw2003571220104555911 tw16570360526438984304 tw4966525338143998733 tw12029494857974356333 tw28339073465095685 tw6363611696625905890 tw12767508974288087648 tw12864877686081030661 tw16906005394455714080 tw7780139486846826601 tw246625382617407593 tw10829227377373734638 tw13802398328878009845 tw16408658615129120711 tw16638896260872856572 tw17479755177967403360 tw13734032183774340951 tw12115850763321195652 tw4576503524544202427 tw15059816271631232642 tw5201879287989152888 tw14255050319652283650 tw1022513790853133767 tw7959085319707008576 tw7818752419380224665 tw12865390859131477866 tw18126845221350117945 tw3320890715120084873 tw656374257973278729 tw15337676150664868799 tw1669901407284505911 tw11471308469591680736 tw4933937816114482828 tw6236353048228517157 tw3539100008714530330 tw14233512223497464318 tw8718017905827058738 tw4836649609272987082 tw7568599077878243561 tw16647616516675937886 tw3081358594869075619 tw3801885596749434748 tw17544486496573870447 tw1434431656468013223 tw11804193489516243165 tw15141327344592752524 tw4123096888252663563 tw419606341622375965 tw11337896768144271008 tw13554833406253663477 tw8830195071505013253 tw304467687346716142 tw2952952736790120596 tw8319677050184249571 tw17971160381966750885 tw2609939861333131732 tw4845663948961106961 tw15850709373584776651 tw13531041646703451462 tw1163080336909062716 tw905940872446288727 tw10930547054590609570 tw17505912796962225103 tw4501705964902433230 tw7051068177307250644 tw6471036674421819764 tw10136098690092885576 tw5147800153927437991 tw6152391039436267957 tw7596589364597275390 tw10565180788052939603 tw12254700127384656768 tw3232177655461074955 tw15101839961192388775 tw2608851553080027554 tw5630575681529458796 tw9687025193402041415 tw4141201713841789707 tw15913281200667166488 tw6229713324359489381 tw12208423459220394836 tw14047031862731677091 tw841171011744023512 tw3399207721769567241 tw12218583079734965381 tw17490379015220830105 tw1029209171215661504 tw1574535288584164007 tw8260917383353765368 tw5339734018624737110 tw10855853346947450662 tw5782861368973747865 tw12854701071372543965 tw15348009340948449881 tw15421284870563283072 tw4692528398837448222 tw9458356307093651573 tw9328277795242709519 tw15146479956883368226 tw6601183823519257176 tw15569684224506526057 tw4657091411933630001 tw17922098697512524715 tw11520049453761189686 tw11244396674019703080 tw7207043348270625837 tw5820991812022295297 tw8067418961520713900 tw9779823770263501903 tw13211852201887063906 tw7330150474172170231 tw419270435723044193 tw15347754578906155869 tw8720446195461963395 tw4333112542359787790 tw9632611157869755381 tw13902305876584805668 tw17529830374169409992 tw13778093765993326385 tw3052698785935052502 tw14639668388106209849 tw14270125210270337425 tw76071342572093183 tw2792835712168895865 tw4898512387635768360 tw5725950979234185602 tw8996283923005450972 tw6157464251654392939 tw11525048672624355470 tw6514323612886399418 tw10564484002451142135 tw8998276896650388634 tw7754510509182711082 tw17495433613689128903 tw10090407953435753228 tw3777170466753923734 tw17956196345800979592 tw11062507047547582593 tw11410280511393226169 tw3233892667626426368 tw8389435149393307114 tw13446796403134077909 tw2881073225029067012 tw16434996858143598554 tw7870411032348522659 tw5219178950571708618 tw9346242688403491838 tw5944554377325413141 tw3135162160720849474 tw9370859451256816397 tw10472040348013162093 tw12568583007606467385 tw10443093957493141247 tw666996395812993317 tw16569803373052750665 tw16486767737660660945 tw12536694773845553432 tw8468062193866727350 tw18409294816592910243 tw9477491310733931375 tw3074655764160296917 tw13943835198889733568 tw9884866534887599395 tw5427244646361253066 tw17716710100421698790 tw17469444766516038501 tw10667670696592151477 tw10953192158450000552 tw12953178973546097301 tw11491930479803733107 tw3593771772468392024 tw16003413364137340398 tw15249565909822082317 tw14956696472809533877 tw7142372864602368313 tw1479227145366041929 tw570739192737695224 tw12715021560161202373 tw7579586183345287671 tw4572063884553160193 tw3362275052021617274 tw2941514950745262366 tw1887671873128997675 tw17130348968085161063 tw10196828958777610583 tw2845727488138149813 tw10612782692127674108 tw10532295785154765485 tw566691739712869530 tw5643155665154691459 tw10035944659403623003 tw11770312659830691523 tw706956611629936207 tw7988655805664899600 tw16371863655348519899 tw10465027885930264274 tw7202104730349780954 tw16793029026349332110 tw7503345301744930581 tw2523829957821663667 tw2811675118201618017 tw16705960592563590577 tw1653746492938094886 tw18149817028762200138 tw11918886314033226295 tw1701711659122596979 tw5090830062152829746 tw13992814134630888566 tw13405470935632161117 tw11868999876392186112 tw1169161483826438150 tw8498479476875371823 tw5221440841475330238 tw3764558743739446610 tw10187438092923549820 tw856514869228095797 tw17213503915149272458 tw7854235929048228756 tw7418921727129536798 tw6702494409136232112 tw553010586397580085 tw4297993508770163616 tw4094902109446249985 tw3272503253847500645 tw3121292152631934960 tw16735950551807660469 tw16312121461835610875 tw14457272040382763474 tw13038984783271452580 tw12945900969263600608 tw11479372902686655022 tw10645729036748942673 tw6081190679042634259 tw7991157900373788305 tw5277830707645702316 tw17933363461988238981 tw9744134021200967755 tw9083298397776500953 tw7440152745048816637 tw7038826496773524335 tw5238407597444559045 tw4872245671519379970 tw4587916734403263902 tw17268609349786287674 tw17020560155938273179 tw15807394795656215128 tw13739868488503226366 tw12192090455300685903 tw11598002264049892050 tw11596572719506492883 tw10780563260756566702 tw5438189501760279656 tw13741992785726038633 tw6808871924322840254 tw5677108320557623539 tw5500289440524112113 tw5038432888015527694 tw416771446851882232 tw3105930520417757216 tw2541938072567265663 tw18109921067035995258 tw17341993692464436348 tw15577960378949057278 tw15383780124871830608 tw15056595668983567756 tw13951134244434375090 tw13335209793735397683 tw11780960139627922328 tw113939982096947839 tw10425619901316814290 tw6252357335799616389 tw6147145061392829664 tw6028453736823787017 tw4373936802427055121 tw2468156800075184977 tw17890980331835128712 tw1757696324246308271 tw16619884324846207511 tw16571587628840863054 tw16475977240050653082 tw1643921415254470879 tw16215335369856449367 tw14382676471238562734 tw12366156461805511182 tw10712832118813887392 tw9622926330503317710 tw6011844927883598544 tw16615265441528986860 tw13919587116195395321 tw11853541902955140318 tw9457059651277099062 tw1182255612295568884 tw11572059651788235459 tw13943453932428722637 tw8187196008292288596 tw13365482065850477890 tw9321864028563493814 tw8305663616231550867 tw7570930824485382991 tw7194185970605521980 tw6183626751867779947 tw6025406627137245210 tw4531797098475769421 tw3741085317071109422 tw1740125416290266386 tw1692894592888817883 tw16001730925590476481 tw15608063963696433038 tw11370149470868164365 tw11014750969159694150 tw10943017053814203663 tw10341501212164481527 tw9936914149625549576 tw9798433318202867429 tw9761716274528893908 tw9680577765039354778 tw9652152264007887088 tw962049481427315589 tw9397202542332046848 tw9292384250721537648 tw9208638751449338285 tw9015933467589581384 tw8932651990255331766 tw8904306412284611092 tw8897776355168339479 tw8878809250931652064 tw860196979926541509 tw846415119012564760 tw8454395940468619050 tw8449071310494050040 tw8313153332954986148 tw8303804870340789054 tw8009559746790987971 tw7964679849338574153 tw7888421735515913393 tw7737753123788705216 tw7683867060136783104 tw7250579144925053627 tw7178161078462863682 tw7054845478140363654 tw6879816544537762128 tw6671688811512077250 tw6669280142006218361 tw6570782381936871048 tw6476483816625301109 tw614418141047028821 tw5946464015562477523 tw5787762830458954782 tw5691758597518317054 tw5422145642983633470 tw5249381618411363187 tw5221111636132113654 tw4974535047273022900 tw4970650442091473177 tw4358200173614670859 tw4152254795257188594 tw3586800496393263772 tw3213609676473389566 tw2938484436934393682 tw2807455333368740920 tw2801848694854853679 tw2294814721281987712 tw2225844256360974231 tw18160738196021394822 tw18039444326941808970 tw17932551127872103854 tw1783571611478117752 tw17771097158537792691 tw17656668588451624874 tw17379520331686123876 tw17022961036473033866 tw16989385527780422447 tw16940115598515442086 tw1693867949659052991 tw16881590544773933581 tw16766370920192428188 tw16136124215194929179 tw16042235986141218845 tw15916016500970911070 tw15753631975572066903 tw15738229371276531117 tw15713727044434348593 tw15711880326584594024 tw15629617698702335260 tw15555859007234280980 tw15527369531777566631 tw15405452840010936434 tw15333845688936044181 tw14968443289677732857 tw14918648771647157334 tw1469399912737531033 tw14531424401840712489 tw14402686778754121712 tw1422160720177936094 tw13418014362253824075 tw131448981288760960 tw12663430372314493244 tw12577557081925456898 tw12562683332690878930 tw12329493687828373135 tw12222885019516411478 tw12002776321554707620 tw11878461519841878093 tw11787035869247584050 tw11779121608306999881 tw11640583880122430327 tw11551955488768617346 tw11546451325672839970 tw11531691527961232486 tw11406203742660411152 tw11305210994519109171 tw11028748615033348357 tw11025858154088643850 tw10994497862283007888 tw10930025337817647401 tw10800068044195951482 tw10794672150116428953 tw10687326275291438326 tw1066446171073564964 tw10524014287316822908 tw10172273391882489144 tw1001925652492608035 tw7663459224252922610 tw4104050284061131605 tw7333607441728379880 tw4419377443134042206 tw16799383406753596386 tw15542936075190904419 tw14378196356235988240 tw11962662369522942407 tw11249128925865858909 tw10253106443360081445 tw9939460948139621919 tw10754087103402829403 tw7840808466513038348 tw7076087698052320959 tw6041817849301106894 tw34969676573813422 tw2810304568435779397 tw17694912446345912639 tw16495573670594958904 tw16078255297487511146 tw14143200929886008345 tw1294954618970428105 tw12229708420789738488 tw10771470844807809254 tw104760650223419214 tw10135572239633080434 tw11417761045317260949 tw5890164633173309984 tw17458655387518552669 tw14465048382219299271 tw12724798905317909888 tw12618248725716957408 tw12271046378695641291 tw1148465268564040025 tw11451228852422559345 tw11080006006844903237 tw4930968235174416861 tw9908784754159557909 tw7364017581275930436 tw6775692094887672791 tw6693686246753679710 tw4328710393820631884 tw3981332696753807616 tw2766337633045993554 tw1857572030675871842 tw17750481045196760694 tw17113490953850452594 tw1470403214326850664 tw14087374872572577993 tw13860179263108579825 tw11586216171155479247 tw11225142265739712032 tw10575766671978565353 tw9645771238947066040 tw8830519936124291190 tw7542374331037683581 tw5319836086317625446 tw402387385524605312 tw3741233103843903894 tw3156831234684504847 tw1901464610004930273 tw16165636102599800867 tw15943968921944901326 tw14369485399434041275 tw1402974865574053031 tw12861210914316881030 tw10339611326183397775 tw10159340517177096512 tw10113574491711670227 tw9918532508070005107 tw9127715355346124633 tw9008353523172804938 tw7320715167302556673 tw6478570110816570612 tw2813738920886505318 tw2469145243501118535 tw2466648917844633570 tw16054980997133322179 tw15456225444982241880 tw15359026528632367103 tw13764357450683158355 tw13541941093983631373 tw13322211449645403981 tw13250370259732638967 tw13206728896712734778 tw12559488315140669524 tw11311176655705378252 tw9860219029469656876 tw9715334916154175886 tw9622675127415414068 tw9614143030379755646 tw9588675760579222531 tw9570211696134975339 tw9525037816508310630 tw9492998429197902824 tw9466925317190795592 tw9380159123735020523 tw9218329279061416119 tw9143996677148301048 tw907880044061797820 tw8930801065405624293 tw8922465122185091508 tw8626890183364952651 tw8542012984498934942 tw8432470176556947645 tw832886352923529974 tw8234590256616636245 tw8043631762228448279 tw8026615777157535202 tw7959165697086465636 tw7902283947998999235 tw7871308197498715185 tw7851057754823671317 tw7797405334419176551 tw7662914599228717996 tw7477216368614472032 tw7468220466384293072 tw7383915941542212319 tw7168004193627034048 tw7142906068827252198 tw7091352361594886271 tw7061431895331658752 tw7045347028836197196 tw7030788983694460999 tw6986183743092829644 tw6858548410425851867 tw6780283936018948582 tw6706985442588205177 tw6432649529909521978 tw6419633094144818442 tw6227532971912756039 tw6208889375003446932 tw6122977583761860391 tw6098192731619182827 tw606729237335126459 tw5918657003582879526 tw568653094320327904 tw5630237222554541829 tw5608849113168414795 tw5547273306019943630 tw5439166365298539108 tw5397407235830058651 tw5396547183122971871 tw5327003963102794508 tw5131076866256119979 tw5098466504283843634 tw5057041114145690049 tw5040691858617846948 tw4988224994244451850 tw4936748219218068524 tw4851186419190696609 tw4545516031525285272 tw4457667109728906528 tw4382564516593873425 tw4331056194461452692 tw4281593665469072818 tw4223838019459371738 tw4139695132998140700 tw4070831997054385766 tw4021915878044931702 tw3918000653876459994 tw3808799040634312066 tw3771722675594164734 tw3716517444637074433 tw3688842104798972198 tw368296219805787000 tw3565610485665566320 tw3355102418917196503 tw3237868809777195158 tw3179634411718856711 tw2791929368657015407 tw2766870533819131144 tw274793395018071117 tw2703018379248544820 tw2678213430928971081 tw2675831203308755184 tw2456877203715637164 tw2352649704987652802 tw2279334077065598714 tw2135162685464552444 tw1910903862315292080 tw1903643656315774672 tw1848048548864408160 tw18423302309172451180 tw18419097867874947004 tw18314908116564979679 tw18310156585159611023 tw18264930487975889076 tw18264867089202353208 tw18201124277398533710 tw18142738976641364262 tw18053476235624890441 tw18028479230364226520 tw18023182904757861709 tw1797582165035095811 tw17965205402468328554 tw17853386645848701896 tw17705000821556119836 tw1760440924071223318 tw17589590328121013241 tw1756013395718629429 tw17554663005159967087 tw17522903980106271559 tw17508348408998258633 tw17411570168438697514 tw17318215135729040820 tw1712593813866348823 tw17078260348286796459 tw17071053361547611028 tw17054478835027864470 tw16989082058309601373 tw16894469373895214257 tw16877651093507493961 tw16713866222131939020 tw16707774649684865760 tw16625914961080233398 tw16525501099683566888 tw1640535917013621461 tw16387939164257707610 tw16370278807209390557 tw16239233852066039862 tw15914864589972332473 tw15811040554173011984 tw1573758481835703567 tw15639081987458908350 tw15560846099723288391 tw15406916958018330096 tw1538840614391537506 tw15359314030295046410 tw15344281555427427983 tw15237980785810251024 tw15201184796552635648 tw15130181596344575360 tw15084627057506249519 tw15002043771803100384 tw14958859753409993913 tw14893203336176906369 tw14871626999326830177 tw14768268611529072785 tw14732450513854873391 tw14693360838064600144 tw14469035107418794831 tw14445619754576237929 tw14312135058219253757 tw14058882905766428437 tw14010191158378771189 tw14009811161625325102 tw13886861682523079370 tw13796007574445995195 tw13705537337982524494 tw13672482644133462857 tw13635549089473986301 tw1345755265984833552 tw13449633491329511936 tw13282624075336976414 tw13027474578271297851 tw1298858727467185057 tw12943634483107570437 tw12800952879075984914 tw12751502021229614663 tw12722485955043198119 tw1264356821129194928 tw12588107440310330869 tw12502196017540950345 tw12421496394865891901 tw12330945104664260992 tw12300100112608022841 tw12273334889253206766 tw12180199018490454342 tw12102524810507970964 tw12011972097854306065 tw11886696957805040043 tw11883731935142012234 tw11875014626706457670 tw11870591628378032147 tw11864440337827020823 tw11854443136725182603 tw11850821055025377029 tw11677366773106348686 tw1161121459341220092 tw11524921144769582996 tw11523608276926112046 tw11446886675151592968 tw11437026131927608035 tw11388444818972933484 tw11326279221302926569 tw11018577311926524659 tw10994485831049307479 tw10984813065461538384 tw10968184639491419901 tw10946695469005245172 tw10883971100124818552 tw10735434914956610997 tw10641077160611826361 tw10599696159423701342 tw10573631093126010978 tw10510363357164994208 tw1048470678306145076 tw10095570065373555183:True)
open PySem.W PyProof.Rows
set_option maxRecDepth 100000 in
set_option maxHeartbeats 0 in
theorem PySem.Challenge.cw_polyring_k28_common_of_few_holds : PySem.Challenge.rw_polyring_k28_common_of_few.Holds := by
 w_on;o_law;k_head;(case hw=>w_witness2)
 k_fill
 refine MN.DP (l:=PySem.Challenge.rw_polyring_k28_common_of_few) (k:=8) (x:="_law_script") rfl rfl ⟨rfl,by decide,by decide⟩ (λw h Y=>PySem.W.km_in_of Y) ?F
 case F=>
  intro w mg fa h KX G Oq;refine' qm.all_mk KX G Oq ?h0 ?h1 ?h2 ?h3 ?h4 ?h5 ?h6 ?h7 ?h8 ?h9 ?Qd ?Nn ?Qe ?Qf ?Qg ?T3 ?T6 ?T7 ?T8 ?T9 ?T_ ?T! ?T? ?Ua ?Ub ?Uc ?Ud ?Ue ?Ug ?Uh ?Ui ?Uj ?Uk ?Ul ?Um ?Uo ?Up ?Uq ?Ur ?Us ?Ut ?Uu ?Uv ?Uw ?Ux ?Uy ?zb ?zc ?jb ?gv ?gw ?fR ?zp ?zv ?zw ?zq
  (case h0|h1|h2|h3|h4|h5|h6|h7|h8|h9|Qd|Nn|Qe|Qf|Qg|T3|T6|T7|T8|T9|T_|T! | T? | Ua|Ub|Uc|Ud|Ue|Ug|Uh|Ui|Uj|Uk|Ul|Um|Uo|Up|Uq|Ur|Us|Ut|Uu=>refine' MN.dm.mk ?a ?l ?c ?k;(case a=>k_is);(case l=>k_is);(case c=>k_is);(case k=>k_is);skip)
  (case Uv=>k_is)
  (case Uw=>k_is)
  (case Ux=>k_is)
  (case Uy=>k_is)
  case zb=>
   repeat (refine' MN.yO.cons ?a ?_;(case a=>k_is);skip)
   exact .nil
  case zc=>
   repeat (refine' MN.yP.cons ?a ?e ?s ?_;(case a=>k_is);(case e=>k_exc);(case s=>k_is);skip)
   exact .nil
  (case jb=>k_is)
  (case gv=>k_is)
  (case gw=>k_is)
  (case fR=>k_is)
  case zp=>
   repeat (refine' MN.nU.cons ?a ?b ?c ?d ?e ?_;(case a=>k_is);(case b=>k_is);(case c=>k_is);(case d=>k_is);(case e=>first|k_is|kit_is);skip)
   exact .nil
  case zv=>
   repeat (refine' MN.qk.cons ?a ?e ?_;(case a=>k_is);(case e=>first|k_is|kit_is);skip)
   exact .nil
  (case zw=>k_is)
  case zq=>
   repeat (refine' MN.yQ.cons ?a ?e ?_;(case a=>k_is);(case e=>first|k_is|kit_is|rfl|decide +kernel);skip)
   exact .nil
