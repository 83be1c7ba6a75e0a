import PyProof.Rows.All
import Wide.All
import OpenK.AllK
import PySem.Challenge.RW_polyring_k26_told_rests
set_option Elab.async false
set_option maxRecDepth 100000
set_option maxHeartbeats 4000000
set_option compiler.extract_closed false
set_option genSizeOf false
-- SY: aaD aay module here,as Og last of aaz rows
open PySem
noncomputable section
abbrev _O:=Value->Shared->Prop
abbrev _P:=Str->Option Value
abbrev _Q:=List (Addr×Obj)
abbrev _R:=W.Frag
abbrev _S:=List Int
abbrev _T:=List Value
abbrev _U:=Option Value
abbrev _V:=List Addr
abbrev _W:=List Str
abbrev _X:=Value
abbrev _Y:=Shared
abbrev _Z:=Addr
abbrev _0:=Around
abbrev _1:=Program
variable {κ α β:Type}
variable {o e tg iter value elt e₀:Expr}
variable {P:Program}
variable {h h':Heap}
variable {ag LY:List (Addr×Obj)}
variable {t' i j n lo p q k1 k2 kt d ep af:Nat}
variable {ch fp ρ ρ':List Addr}
variable {Q:Value->Shared->Prop}
variable {pos pos' GV apos p2 bV tp np q1 q2:Pos}
variable {rest es ifs elts:List Expr}
variable {vs aF:List Value}
variable {r power terms:Int}
variable {C dx f z i1 i2 l1 l2 ea c' fa:Addr}
variable {op:CmpOp}
variable {mA:Str->Option Value}
variable {name y:Str}
variable {fd:FuncData}
variable {ks xs:List (_S)}
variable {doc dh oc cls:Value}
variable {an od:Option Addr}
variable {z_:Array (Option Value)}
variable {items ys:Array Value}
variable {loose:List Str}
variable {a_ ls:List Nat}
variable {b2 left:Bool}
variable {s₀:Shared}
variable {newId:String}
variable {h₀:ExceptHandler}
variable {hs:List ExceptHandler}
variable {oe:Obj}
variable {b₀:Stmt}
variable {ja:List Stmt}
variable {pend:Array (Nat×Nat×Nat)}
def Vl:=@wpAny_bind
def Vm.{u,v}:=@List.length_map.{u,v}
def Vn:=@Heap.get?_push_of_some
def Vo:=@Nat.le_refl
def Vp.{u}:=@List.getElem?_eq_getElem.{u}
def Vq:=@wpAny_pure
def Vr.{u}:=@List.length_append.{u}
def Vs.{u}:=@List.append_assoc.{u}
def Vt.{u}:=@List.length_cons.{u}
def Vu.{u}:=@if_pos.{u}
def Vv.{u}:=@List.getElem?_append_right.{u}
def Vx:=@Nat.le_trans
def Vy.{u}:=@Array.length_toList.{u}
def Vz:=@Heap.lt_size
def VA.{u}:=@if_neg.{u}
def VB.{u,v}:=@List.map_cons.{u,v}
def VC.{u}:=@List.size_toArray.{u}
def VD:=@PyProof.Rows.wpS_bind
def VE:=@Nat.lt_of_lt_of_le
def VF.{u,v}:=@List.getElem?_map.{u,v}
def VG:=@PyProof.Rows.wpS_pure
def VH.{u,v}:=@List.mem_map.{u,v}
def VI:=@Bool.false_ne_true
def VJ:=@Heap.get?_push_size
def VL.{u}:=@List.getElem?_append_left.{u}
def VM.{u}:=@List.nil_append.{u}
def VN.{u,v,w}:=@List.map_map.{u,v,w}
def VO.{u}:=@List.mem_cons_self.{u}
def VP.{u}:=@Option.some.inj.{u}
def VQ.{u}:=@List.mem_cons_of_mem.{u}
def VR:=@decide_eq_false
def VS:=@Nat.ne_of_lt
def VT:=@sizeLine_eq
def VU.{u}:=@List.mem_cons.{u}
def VV:=@decide_eq_true
def VW.{u}:=@List.getElem?_eq_none.{u}
def VX.{u}:=@Array.mem_toList_iff.{u}
def VY.{u}:=@List.length_nil.{u}
def VZ.{u}:=@List.append_nil.{u}
def V0.{u}:=@List.mem_singleton.{u}
def V1:=@Nat.zero_add
def V2:=@Nat.lt_or_ge
def V3:=@Bool.false_eq_true
def V4:=@Nat.mul_le_mul
def V5.{u}:=@List.replicate_zero.{u}
def V6.{u}:=@Array.toList_append.{u}
def V7.{u,v}:=@List.map_congr_left.{u,v}
def V8.{u}:=@List.getD_eq_getElem?_getD.{u}
def V9.{u}:=@beq_eq_false_iff_ne.{u}
def V_.{u}:=@List.getElem?_eq_some_iff.{u}
def V!.{u}:=@List.mem_append_right.{u}
def V?:=@Nat.zero_le
def V'.{u}:=@List.length_take.{u}
def Wa.{u}:=@List.cons_append.{u}
def Wb.{u}:=@List.mem_append.{u}
def Wc:=@Nat.lt_irrefl
def Wd:=@Nat.lt_of_le_of_lt
def We.{u}:=@List.length_replicate.{u}
def Wf.{u}:=@List.take_of_length_le.{u}
def Wg.{u,v}:=@List.map_nil.{u,v}
def Wh.{u}:=@List.all_eq_true.{u}
def Wi.{u}:=@List.eq_nil_of_length_eq_zero.{u}
def Wj:=@Nat.sub_self
def Wk.{u}:=@List.replicate_succ.{u}
def Wl.{u}:=@List.length_drop.{u}
def Wm:=@Heap.get?_update_other
def Wn:=@wpAny_newObj_type
def Wq:=@PyProof.Rows.wpS_forRange
def Wr.{u}:=@beq_iff_eq.{u}
def Ws:=@wpAny_mono
def Wt.{u}:=@List.getElem_mem.{u}
def Wu:=@W.kia_one
def Wv:=@Bool.and_eq_true
def Ww.{u}:=@List.getElem?_replicate.{u}
def Wx:=@mem_of_lookup
def Wy.{u}:=@List.getElem?_drop.{u}
def Wz:=@of_decide_eq_true
def WA:=@decide_eq_true_eq
def WB.{u}:=@List.nodup_cons.{u}
def WC.{u}:=@List.mem_filter.{u}
def WD:=@List.length_range
def WE:=@Int.toNat_natCast
def WG.{u}:=@beq_self_eq_true.{u}
def WH.{u}:=@List.getElem?_set_self.{u}
def WI.{u,v}:=@List.map_append.{u,v}
def WJ.{u}:=@List.pairwise_iff_getElem.{u}
def WK:=@F.slot_dict_keyiterator_next
def WL.{u}:=@List.filter_eq_self.{u}
def WM:=@wpAny_seqItems
def WN.{u}:=@if_false.{u}
def WO:=@wpAny_field
def WQ:=@wpAny_call_entry
def WR:=@wpAny_callSpecial?_slot
def WS:=@F.plain_max_loop
def WT.{u}:=@List.set_cons_zero.{u}
def WU.{u}:=@List.mem_append_left.{u}
def WV:=@wpAny_rule
def WW:=@Nat.pow_le_pow_right
def WX.{u}:=@List.drop_eq_getElem_cons.{u}
def WY:=@wpAny_Call_Name_kw
def WZ.{u}:=@List.length_singleton.{u}
def W2.{u}:=@Array.getElem?_toList.{u}
def W3:=@decide_eq_false_iff_not
def W4:=@wpAny_holding
def W5.{u}:=@List.mem_reverse.{u}
def W6.{u}:=@List.getElem?_set_ne.{u}
def W7.{u}:=@Array.toList_reverse.{u}
def W8:=@wpAny_truthy_bool
def W9:=@W.mg_of
def W_:=@of_decide_eq_false
def W!:=@PyProof.Rows.wpS_mono
def W?:=@Bool.not_true
def W':=@codeAny_builtin
def Xa.{u}:=@List.find?_cons.{u}
def Xb.{u}:=@List.reverse_perm.{u}
def Xc.{u}:=@List.pairwise_append.{u}
def Xd.{u}:=@List.flatten_cons.{u}
def Xe:=@Nat.ne_of_gt
def Xf.{u}:=@List.any_cons.{u}
def Xg.{u,v}:=@congrArg.{u,v}
def Xh.{u,v}:=@List.pairwise_map.{u,v}
def Xi.{u}:=@Ne.symm.{u}
def Xj.{u}:=@List.reverse_append.{u}
def Xk.{u}:=@List.take_succ.{u}
def Xl.{u}:=@List.Perm.refl.{u}
def Xm:=@wpAny_typeNameOfWhole_keyiter
def Xn:=@PyProof.Rows.callWith_type1
def Xo:=@Bool.not_eq_true'
def Xp:=@wpAny_setField_rec
def Xq:=@wpAny_passesOwn
def Xr.{u}:=@if_true.{u}
def Xs:=@Int.zero_add
def Xt.{u}:=@List.all_cons.{u}
def Xu.{u}:=@List.set_append_right.{u}
def Xv:=@List.getElem?_range
def Xw:=@PyProof.Rows.wpS_modify
def Xx.{u}:=@List.reverse_cons.{u}
def Xy.{u}:=@Array.toList_push.{u}
def Xz:=@F.slot_tuple_iterator_next
def XA:=@Around.under_plainId
def XC:=@codeAny_mono
def XD.{u}:=@List.mem_of_getElem?.{u}
def XE:=@Int.natCast_nonneg
def XG:=@Int.le_refl
def XH.{u}:=@Array.toList_inj.{u}
def XI:=@wpAny_typeNameOf_keyiter
def XJ:=@wpAny_attempt
def XM:=@wpAny_execs_nil
def XN:=@PyProof.Rows.slot_tuple_getitem
def XO.{u}:=@List.length_set.{u}
def XQ.{u}:=@List.set_cons_succ.{u}
def XR.{u}:=@List.countP_cons_of_pos.{u}
def XS:=@Bool.false_or
def XT:=@wpAny_tryCatch
def XU:=@wpAny_pyIter_list
def XW:=@Nat.mul_le_mul_right
def XX:=@Heap.size_push
def XY.{u,v}:=@List.of_mem_zip.{u,v}
def XZ:=@PyProof.Rows.boot_isinstance
def X0:=@W.hideAll_get
def X1:=@Nat.pow_le_pow_left
def X2:=@Heap.get?_update_self
def X3:=@wpAny_call
def X4:=@call_meets
def X5:=@Nat.pow_succ
def X6:=@Nat.le_of_lt
def X7:=@plainId_quiet
def X8.{u}:=@List.pairwise_reverse.{u}
def X9:=@wpAny_letGo
def X_:=@or_false
def X!:=@W.callWith_K
def X?.{u}:=@List.not_mem_nil.{u}
def Ya.{u}:=@List.filter_cons.{u}
def Yb.{u}:=@List.reverse_reverse.{u}
def Yc.{u}:=@Array.getElem_toList.{u}
def Yd:=@Heap.SameBut.update
def Ye.{u,v,w}:=@getElem?_pos.{u,v,w}
def Yf:=@F.args_tuple_add_2
def Yg:=@F.entry_tuple_add
def Yh:=@Obj.data_mapFields
def Yi:=@W.cellsFrom_some
def Yj:=@F.slot_tuple_add
def Yk:=@F.entry_max_loop
def Yl:=@Nat.mul_comm
def Ym:=@Nat.lt_of_succ_lt_succ
def Yn:=@List.range_succ_eq_map
def Yo.{u,v}:=@List.filter_map.{u,v}
def Yp.{u}:=@List.drop_zero.{u}
def Yq.{u,v}:=@List.filterMap_cons.{u,v}
def Yr:=@wpAny_onRaise
def Ys:=@F.slot_dict_get
def Yt:=@F.slot_list_getattribute
def Yu:=@PyProof.Rows.wpS_get
def Yv.{u}:=@List.map_id.{u}
def Yw.{u}:=@List.ext_getElem?.{u}
def Yx:=@Nat.log2_lt
def Yy.{u,v}:=@List.zip_cons_cons.{u,v}
def Yz.{u}:=@List.Pairwise.imp_of_mem.{u}
def YA:=@Bool.false_and
def YB:=@typeIs_int
def YC:=@F.args_dict_keyiterator_next_1
def YD.{u}:=@List.prefix_refl.{u}
def YE.{u}:=@List.pairwise_singleton.{u}
def YF.{u}:=@List.mem_nil_iff.{u}
def YG.{u}:=@List.getElem?_cons_succ.{u}
def YH.{u}:=@List.countP_cons_of_neg.{u}
def YI:=@Calls.callWith_builtin
def YJ:=@F.entry_dict_keyiterator_next
def YK:=@F.slot_zip_next
def YL:=@F.slot_int_rmul
def YM:=@Bool.true_and
def YN:=@Bool.not_eq_false'
def YO:=@wpAny_updateSeq_pair
def YQ:=@wpAny_setField
def YR:=@wpAny_loadName_local
def YS:=@codeAny_call_builtin
def YT:=@Nat.succ_mul
def YU:=@Nat.succ.inj
def YV:=@Nat.sub_zero
def YW:=@Nat.mul_left_comm
def YX:=@Nat.lt_trichotomy
def YY:=@Nat.le_of_eq
def YZ:=@Nat.add_zero
def Y0.{u}:=@List.singleton_append.{u}
def Y4.{u}:=@List.mem_iff_getElem?.{u}
def Y5.{u,v}:=@List.lookup_cons.{u,v}
def Y6.{u}:=@List.getElem?_toArray.{u}
def Y7.{u}:=@List.Perm.append_left.{u}
def Y8:=@Calls.evalArgs_plain
def Y9:=@Nat.lt_succ_self
def Y_:=@Nat.lt_log2_self
def Y!:=@Nat.le_of_not_lt
def Y?.{u}:=@List.nodup_nil.{u}
def Y'.{u}:=@List.mem_iff_getElem.{u}
def Za.{u}:=@List.getElem?_of_mem.{u}
def Zb.{u}:=@List.Pairwise.filter.{u}
def Zc:=@Int.mul_le_mul_of_nonneg_right
def Zd:=@Paired.length
def Ze:=@Nat.pow_add
def Zf:=@Int.add_mul
def Zg:=@wpAny_tupleItemsOf
def Zh:=@tupleKind_room_in1
def Zi:=@SeqAt.EqAt.str_int
def Zj:=@SeqAt.EqAt.int_str
def Zk.{u}:=@List.length_reverse.{u}
def Zl:=@Calls.spliced_cons
def Zm:=@Bool.or_eq_true
def Zn:=@F.attrBase_ValueError
def Zo:=@wpAny_typeOf
def Zp:=@wpAny_dictEntries
def Zq.{u}:=@List.find?_eq_none.{u}
def Zr:=@Int.fmod_eq_emod_of_nonneg
def Zs:=@PyProof.Rows.wpS_lift
def Zt:=@wpAny_isInstance
def Zu:=@wpAny_execs_cons
def Zv:=@wpAny_eqBool_int
def Zw:=@noFill_tuple_add
def Zx:=@PyProof.noPylong_of_log2
def Zy:=@Nat.add_assoc
def Zz.{u}:=@List.nodup_append.{u}
def ZA:=@Int.mul_assoc
def ZC:=@F.slot_tuple_rmul
def ZD:=@F.slot_list_index
def ZE:=@F.slot_list_count
def ZF:=@F.args_dict_get_3
def ZG:=@PyProof.Rows.boot_tuple
def ZH:=@Nat.add_sub_cancel_left
def ZI:=@wpAny_updateSeq
def ZJ:=@wpAny_dictEpoch
def ZK:=@SeqAt.EqAt.same
def ZL:=@F.slot_tuple_mul
def ZM:=@F.slot_dict_iter
def ZN:=@F.entry_dict_get
def ZO:=@PyProof.Rows.boot_list
def ZP:=@Nat.min_self
def ZQ:=@Nat.lt_trans
def ZR:=@Nat.add_comm
def ZS.{u}:=@List.zipIdx_cons.{u}
def ZT.{u,v}:=@List.mem_filterMap.{u,v}
def ZU.{u}:=@List.drop_length.{u}
def ZV:=@Int.zero_mul
def ZW:=@Int.le_trans
def ZX:=@F.args_tuple_iterator_next_1
def ZY:=@Bool.true_or
def ZZ:=@F.slot_tuple_ge
def Z0:=@Nat.le_div_iff_mul_le
def Z1:=@F.entry_tuple_iterator_next
def Z2:=@wpAny_newFunctionEnv_cells
def Z3:=@wpAny_Name
def Z4:=@Value.type.inj
def Z5.{u,v}:=@List.foldl_append.{u,v}
def Z6:=@Int.one_mul
def Z7:=@Calls.Name_function_global
def Z8.{u}:=@Array.getElem?_extract_of_lt.{u}
def Z9:=@wpAny_binaryOp_repeat_ref
def Z_:=@Nat.add_le_add_left
def Z!:=@wpAny_standAt
def Z?:=@wpAny_newList
def Z':=@wpAny_comprehension_free
def _a:=@seq_tuple_add
def _b:=@W.of_hideAll
def _c:=@W.mg_none_of
def _d:=@W.kitx_tuple
def _e:=@W.codeRec_of
def _g.{u}:=@List.take_zero.{u}
def _h.{u,v}:=@List.getElem_map.{u,v}
def _i:=@Int.natAbs_eq_zero
def _j.{u}:=@Array.toList_setIfInBounds.{u}
def _k.{u}:=@Array.perm_iff_toList_perm.{u}
def _l.{u}:=@Array.getElem?_eq_some_iff.{u}
def _m:=@list_append
def _n:=@W.kitx_list
def _o:=@W.kitx_dict
def _p:=@Nat.lt_succ_of_lt
def _q.{u}:=@List.mem_of_find?_eq_some.{u}
def _r.{u}:=@Array.getElem?_eq_getElem.{u}
def _s:=@wpAny_pyNext_range_end
def _t:=@wpAny_pyNext_list_item
def _u:=@wpAny_pyIter_rangeiter
def _v:=@concat_meets
def _w:=@SeqAt.ne_of_list_tuple
def _x:=@seqSlot_of
def _y:=@IsL.update
def _z:=@Nat.succ_le_succ
def _A:=@Nat.log2_self_le
def _B.{u,v}:=@List.length_zip.{u,v}
def _C.{u,v}:=@List.foldl_cons.{u,v}
def _D:=@wpAny_pyNext_list_end
def _E:=@wpAny_notOrdered_dict
def _F:=@wpAny_isOneOf_keyiter
def _G:=@PyProof.Rows.get?_update_seq
def _H:=@codeAny_call_function
def _I:=@W.kit_cls
def _J:=@Obj.isFreed_of_fields
def _K:=@Nat.not_lt_zero
def _L.{u}:=@List.mem_singleton_self.{u}
def _M.{u}:=@List.filter_cons_of_pos.{u}
def _N.{u}:=@List.filter_cons_of_neg.{u}
namespace L2
open Spec PyProof.Rows
abbrev da:=Sum Int Str
def sA:da->_X->Bool
 |.inl k,v=>Value.isInt k v
 |.inr x,v=>Value.isStrOf x v
def S1(w:World):da->Int
 |.inl k=>hashInt k
 |.inr x=>hashStr w x
theorem dj:∀{k:da}{v:_X},sA k v=true->(∃i t,k=Sum.inl i/\v=Value.int i t)\/(∃x t,k=Sum.inr x/\v=Value.str x t)
 |.inl i,v,h=>by obtain⟨t,e⟩:=Value.isInt_shape (k:=i) (v:=v) h;exact .inl ⟨i,t,rfl,e⟩
 |.inr x,v,h=>by obtain⟨t,e⟩:=Value.isStrOf_shape (x:=x) (v:=v) h;exact .inr ⟨x,t,rfl,e⟩
theorem Bc(i:Int)(t:Tok):sA (.inl i) (.int i t)=true:=by simp[sA,Value.isInt]
theorem Bd(x:Str)(t:Tok):sA (.inr x) (.str x t)=true:=by simp[sA,Value.isStrOf]
theorem KG(a b:Int):decide ((Sum.inl a:da)=Sum.inl b)=(a==b):=by
 by_cases e:a=b
 .subst e;simp
 .have h:¬ (Sum.inl a:da)=Sum.inl b:=fun q=>e (Sum.inl.inj q);rw[VR h];exact(V9.mpr e).symm
theorem KH(a b:Str):decide ((Sum.inr a:da)=Sum.inr b)=decide (a=b):=by
 by_cases e:a=b
 .subst e;simp
 .have h:¬ (Sum.inr a:da)=Sum.inr b:=fun q=>e (Sum.inr.inj q);rw[VR h,VR e]
theorem KI(a:Int)(b:Str):decide ((Sum.inl a:da)=Sum.inr b)=false:=VR (fun q=>nomatch q)
theorem KJ(a:Str)(b:Int):decide ((Sum.inr a:da)=Sum.inl b)=false:=VR (fun q=>nomatch q)
def dk(prog:_1)(w:World):PySem.KeyKind prog w da where
 is:=sA
 hash:=S1 w
 inj:=fun v a b ha hb=>by
  rcases dj ha with⟨i,t,rfl,rfl⟩|⟨x,t,rfl,rfl⟩
  .rcases dj hb with⟨j,u,rfl,e⟩|⟨y,u,rfl,e⟩
   .injection e with e1 _;rw[e1]
   .exact nomatch e
  .rcases dj hb with⟨j,u,rfl,e⟩|⟨y,u,rfl,e⟩
   .exact nomatch e
   .injection e with e1 _;rw[e1]
 byValue:=fun k v h=>by rcases dj h with⟨i,t,rfl,rfl⟩|⟨x,t,rfl,rfl⟩<;>rfl
 pyHash:=fun hv h=>by
  rcases dj hv with⟨i,t,rfl,rfl⟩|⟨x,t,rfl,rfl⟩
  .exact wpAny_pyHash_int h
  .exact wpAny_pyHash_str h
 eqBool:=fun hu hv h=>by
  rcases dj hu with⟨i,t,rfl,rfl⟩|⟨x,t,rfl,rfl⟩
  .rcases dj hv with⟨j,u,rfl,rfl⟩|⟨y,u,rfl,rfl⟩
   .rw[KG]at h;exact Zv h
   .rw[KI]at h;exact Zj i t y u _ _ _ _ h
  .rcases dj hv with⟨j,u,rfl,rfl⟩|⟨y,u,rfl,rfl⟩
   .rw[KJ]at h;exact Zi x t j u _ _ _ _ h
   .rw[KH]at h;exact wpAny_eqBool_str h
 «strs»:=fun k x t v h=>by
  rcases dj h with⟨i,u,rfl,e⟩|⟨y,u,rfl,e⟩
  .exact nomatch e
  .injection e with e1 _;subst e1;cases v<;>rfl
theorem vX(prog:_1)(w:World)(i:Int)(t:Tok):(dk prog w).is (.inl i) (.int i t)=true:=Bc i t
theorem vY(prog:_1)(w:World)(x:Str)(t:Tok):(dk prog w).is (.inr x) (.str x t)=true:=Bd x t
inductive V where
 |dc|bl (b:Bool)|int (i:Int)|str (x:Str)|S2 (b:Array UInt8)|pq (b:UInt64)|ref (a:_Z)|ty (n:String)
 deriving DecidableEq
def bo:V->_X->Prop
 |.dc,u=>u=Value.none
 |.bl b,u=>u=Value.bool b
 |.int i,u=>∃t,u=Value.int i t
 |.str x,u=>∃t,u=Value.str x t
 |.S2 b,u=>∃t,u=Value.bytes b t
 |.pq b,u=>∃t,u=Value.float b t
 |.ref a,u=>u=Value.ref a
 |.ty n,u=>u=Value.type n
abbrev bf:List V->_T->Prop:=Paired bo
theorem bf.length{xs:List V}{us:_T}(r:bf xs us):xs.length=us.length:=Zd r
theorem bf.get:∀{xs:List V}{us:_T}{i:Nat}{x:V},bf xs us->xs[i]?=some x->∃u,us[i]?=some u/\bo x u
 |_,_,_,_,.nil,e=>by simp at e
 |_,_,0,_,.cons r _,e=>by simp at e;subst e;exact⟨_,rfl,r⟩
 |_,_,i+1,x,.cons _ t,e=>by obtain⟨u,h1,h2⟩:=bf.get (i:=i) (x:=x) t (by simpa using e);exact⟨u,by simpa using h1,h2⟩
theorem bf.append:∀{xs ys:List V}{us ws:_T},bf xs us->bf ys ws->bf (xs++ys) (us++ws)
 |_,_,_,_,.nil,s=>s
 |_,_,_,_,.cons r t,s=>.cons r (bf.append t s)
theorem bf.take:∀{xs:List V}{us:_T}(n:Nat),bf xs us->bf (xs.take n) (us.take n)
 |_,_,0,_=>.nil
 |_,_,_+1,.nil=>.nil
 |_,_,n+1,.cons r t=>.cons r (bf.take n t)
theorem bf.drop:∀{xs:List V}{us:_T}(n:Nat),bf xs us->bf (xs.drop n) (us.drop n)
 |_,_,0,r=>r
 |_,_,_+1,.nil=>.nil
 |_,_,n+1,.cons _ t=>bf.drop n t
def nu:Option V->_U->Prop
 |some v,some u=>bo v u
 |none,none=>True
 |_,_=>False
def KV:List (κ×V)->List (κ×_X)->Prop:=Paired fun(p:κ×V)(q:κ×_X)=>p.1=q.1/\bo p.2 q.2
def kV:da->V
 |.inl i=>.int i
 |.inr x=>.str x
inductive HO where
  |lst (xs:List V)
  |tup (xs:List V)
  |dK (aI:List (da×V))|dT (aI:List (List da×V))
  |set (S:Int->Bool) (n:Nat)
  |ins (C dx:_Z) (fs:List (Str×V))
  |own (x:_Z)
  |xd (fs:List (Str×V))
  |met (f x:_Z)
  |RN (lo hi:Int)
  |gB (o:Obj) (u:HO)
  |rG (ps:Array _X)
  |ext (φ:Heap->Prop)
abbrev Hp:=_Z->Option HO
def upd(H:Hp)(a:_Z)(o:HO):Hp:=fun b=>if b=a then some o else H b
theorem bu{H:Hp}{a:_Z}{o:HO}:upd H a o a=some o:=by unfold upd;rw[Vu rfl]
theorem aH{H:Hp}{a b:_Z}{o:HO}(h:b≠a):upd H a o b=H b:=by unfold upd;rw[VA h]
theorem OQ{H:Hp}{a b:_Z}{o u:HO}(h:H a=some o)(h':H b=some u)(d:o≠u):a≠b:=by intro e;subst e;rw[h]at h';exact d (VP h')
theorem bG{H:Hp}{a b:_Z}{o:HO}(h:H a=some o)(h':H b=none):a≠b:=by intro e;subst e;rw[h]at h';cases h'
section
variable(P:_1)(w:World)
def ck(H:Hp)(h:Heap)(a:_Z):HO->Prop
 |.lst xs=>xs.length<=sizeLine/\∃(aF:_T)(n:Nat),bf xs aF/\h.get? a=some {cls:=.type "list",data:=.seq aF.toArray n}
 |.tup xs=>xs.length<=sizeLine/\∃aF:_T,bf xs aF/\IsTup h a aF.toArray
 |.dK aI=>aI.length<=sizeLine/\(a==sysModules)=false/\∃vs,KV aI vs/\h.DictOf (dk P w) a vs
 |.dT aI=>aI.length<=sizeLine/\(a==sysModules)=false/\∃xs:List (List da×_Z×_X),
   Paired (fun(p:List da×V)(q:List da×_Z×_X)=>p.1=q.1/\H q.2.1=some (.tup (p.1.map kV))/\bo p.2 q.2.2) aI xs /\
   ∃o es ep,h.get? a=some o/\o.ExactDict/\o.data=.dict es ep/\es.toList=xs.map (entryOfKey (tupleKind (dk P w)))/\(xs.map (·.1)).Nodup
 |.set S n=>h.SetOf (intKind P w) a S n
 |.ins C dx fs=>H dx=some (.own a)/\fs.length<=1000/\dx≠a/\h.get? a=some (W.instObj C dx) /\
   ∃mA,h.Ns1 dx mA/\(∀f,nu (fs.lookup f) (mA f))/\PySem.Within mA (fs.map (·.1))
 |.own _=>∃o,h.get? a=some o
 |.xd fs=>∃mA,h.Ns1 a mA/\∀f,nu (fs.lookup f) (mA f)
 |.RN lo hi=>∃t u v,h.get? a=some {cls:=.type "range",data:=.fields #[.int lo t,.int hi u,.int 1 v]}
 |.gB o u=>h.get? a=some o/\ck H h a u
 |.rG ps=>h.get? a=some {cls:=.none,data:=.fields ps}
 |.met f x=>h.get? a=some (W.methodObj (.ref f) (.ref x))
 |.ext φ=>φ h/\(∃o,h.get? a=some o)/\∀h1 h2:Heap,φ h1->(∀o,h1.get? a=some o->h2.get? a=some o)->φ h2
def il(H:Hp)(h:Heap):Prop:=∀a o,H a=some o->ck P w H h a o
end
section
variable{w:World}{H H':Hp}{a:_Z}{o:HO}
theorem ck.lt(x:ck P w H h a o):a<h.objs.size:=by
 cases o with
 |lst xs=>obtain⟨_,_,_,_,e⟩:=x;exact Vz e
 |tup xs=>obtain⟨_,_,_,p⟩:=x;exact p.lt
 |dK aI=>obtain⟨_,_,_,_,o,_,_,e,_⟩:=x;exact Vz e
 |dT aI=>obtain⟨_,_,_,_,o,_,_,e,_⟩:=x;exact Vz e
 |set S n=>obtain⟨o,_,_,_,e,_⟩:=x;exact Vz e
 |ins C dx fs=>obtain⟨_,_,_,e,_⟩:=x;exact Vz e
 |own y=>obtain⟨_,e⟩:=x;exact Vz e
 |xd fs=>obtain⟨_,⟨_,_,_,e,_⟩,_⟩:=x;exact Vz e
 |RN lo hi=>obtain⟨_,_,_,e⟩:=x;exact Vz e
 |gB ob u=>obtain⟨e,_⟩:=x;exact Vz e
 |rG ps=>exact Vz (show h.get? a=some _ from x)
 |met f y=>exact Vz (show h.get? a=some _ from x)
 |ext φ=>obtain⟨_,⟨_,e⟩,_⟩:=x;exact Vz e
theorem Paired.KL{F G:α->β->Prop}:∀{l₁:List α}{l₂:List β},Paired F l₁ l₂->(∀a b,F a b->G a b)->Paired G l₁ l₂
 |_,_,.nil,_=>.nil
 |_,_,.cons r t,f=>.cons (f _ _ r) (Paired.KL t f)
theorem ck.kj(x:ck P w H h a o)(k:∀b u,(b=a\/H b=some (.own a))->h.get? b=some u->h'.get? b=some u)(ho:∀b,H b=some (.own a)->H' b=some (.own a))(ht:∀b xs,H b=some (.tup xs)->H' b=some (.tup xs)):ck P w H' h' a o:=by
 induction o with
 |lst xs=>obtain⟨z,aF,n,r,e⟩:=x;exact⟨z,aF,n,r,k _ _ (.inl rfl) e⟩
 |tup xs=>obtain⟨z,aF,r,ob,e,c⟩:=x;exact⟨z,aF,r,ob,k _ _ (.inl rfl) e,c⟩
 |dK aI=>obtain⟨z,y,vs,r,ob,es,ep,e,c⟩:=x;exact⟨z,y,vs,r,ob,es,ep,k _ _ (.inl rfl) e,c⟩
 |dT aI=>
  obtain⟨z,y,xs,r,ob,es,ep,e,c⟩:=x;exact⟨z,y,xs,Paired.KL r fun p q z=>⟨z.1,ht _ _ z.2.1,z.2.2⟩,ob,es,ep,k _ _ (.inl rfl) e,c⟩
 |set S n=>obtain⟨ob,es,ep,t,e,c⟩:=x;exact⟨ob,es,ep,t,k _ _ (.inl rfl) e,c⟩
 |ins C dx fs=>
  obtain⟨d,z,ne,e,mA,⟨od,es,ep,e2,c⟩,r⟩:=x;exact⟨ho _ d,z,ne,k _ _ (.inl rfl) e,mA,⟨od,es,ep,k _ _ (.inr d) e2,c⟩,r⟩
 |own y=>obtain⟨ob,e⟩:=x;exact⟨ob,k _ _ (.inl rfl) e⟩
 |xd fs=>obtain⟨mA,⟨od,es,ep,e,c⟩,r⟩:=x;exact⟨mA,⟨od,es,ep,k _ _ (.inl rfl) e,c⟩,r⟩
 |RN lo hi=>obtain⟨t,u,v,e⟩:=x;exact⟨t,u,v,k _ _ (.inl rfl) e⟩
 |gB ob u ih=>obtain⟨e,q⟩:=x;exact⟨k _ _ (.inl rfl) e,ih q⟩
 |rG ps=>
  have e:h.get? a=some {cls:=.none,data:=.fields ps}:=x;show h'.get? a=some {cls:=.none,data:=.fields ps};exact k a _ (.inl rfl) e
 |met f y=>
  have e:h.get? a=some (W.methodObj (.ref f) (.ref y)):=x;show h'.get? a=some (W.methodObj (.ref f) (.ref y));exact k a _ (.inl rfl) e
 |ext φ=>obtain⟨p,⟨o,e⟩,st⟩:=x;exact⟨st _ _ p fun o q=>k _ _ (.inl rfl) q,⟨o,k _ _ (.inl rfl) e⟩,st⟩
theorem il.lt(x:il P w H h)(e:H a=some o):a<h.objs.size:=(x a o e).lt
theorem il.fresh(x:il P w H h)(e:h.objs.size<=a):H a=none:=by
 cases q:H a with
 |none=>rfl
 |some u=>exact absurd (VE (x.lt q) e) (Wc _)
theorem il.kept(x:il P w H h)(k:∀b u,h.get? b=some u->h'.get? b=some u):il P w H h':=fun a o e=>
 (x a o e).kj (fun b u _ q=>k b u q) (fun _ q=>q) fun _ _ q=>q
theorem il.laid(x:il P w H h)(k:∀b u,h.get? b=some u->h'.get? b=some u)(hp:h.objs.size<=a)(new:ck P w (upd H a o) h' a o):il P w (upd H a o) h':=fun b u e=>by
 have hn:=x.fresh hp;by_cases hb:b=a
 .subst hb;rw[bu]at e;cases e;exact new
 .rw[aH hb]at e;exact(x b u e).kj (fun c v _ q=>k c v q) (fun c q=>by rw[aH (bG q hn)];exact q) fun c xs q=>by rw[aH (bG q hn)];exact q
end
def Rd(H:Hp)(a:_Z)(u:HO):Prop:=H a=some u\/∃o,H a=some (.gB o u)
theorem Rd.ok{w:World}{H:Hp}{a:_Z}{u:HO}(r:Rd H a u)(x:il P w H h):ck P w H h a u:=by
 rcases r with r|⟨o,r⟩
 .exact x a u r
 .obtain⟨_,q⟩:=x a _ r;exact q
def OR:Option HO->Prop
 |some (.lst _)=>True
 |some (.dK _)=>True
 |some (.dT _)=>True
 |some (.set _ _)=>True
 |some (.ins _ _ _)=>True
 |some (.ext _)=>True
 |_=>False
section
variable{w:World}{H:Hp}{x e:_Z}{o':HO}
theorem il.write(ok:il P w H h)(mu:OR (H x))(he:e=x\/H e=some (.own x))(k:∀b u,b≠e->h.get? b=some u->h'.get? b=some u)(Oh:∃u,h'.get? e=some u)(new:ck P w (upd H x o') h' x o'):il P w (upd H x o') h':=fun b u q=>by
 have OS:∀c y,H c=some (.own y)->c≠x:=fun c y r z=>by subst z;rw[r]at mu;exact mu
 have S3:∀c xs,H c=some (.tup xs)->c≠x:=fun c xs r z=>by subst z;rw[r]at mu;exact mu
 by_cases hb:b=x
 .subst hb;rw[bu]at q;cases q;exact new
 .rw[aH hb]at q;by_cases KN:b=e
  .have q':H b=some (.own x):=by
    rcases he with z|z
    .exact absurd (KN.trans z) hb
    .rw[KN];exact z
   rw[q]at q';cases q';obtain⟨v,hv⟩:=Oh;exact⟨v,by rw[KN];exact hv⟩
  .refine(ok b u q).kj (fun c v hc r=>k c v ?_ r) (fun c r=>by rw[aH (OS c b r)];exact r) fun c xs r=>by rw[aH (S3 c xs r)];exact r
   rcases hc with rfl|hc
   .exact KN
   .rintro rfl;rcases he with z|z
    .exact OS c b hc z
    .rw[hc]at z;cases z;exact hb rfl
end
structure Un(fs ex:_V)(H H':Hp)(h h':Heap):Prop where
 keep:∀b o,h.get? b=some o->H b=none->b ∉ fs->b ∉ ex->h'.get? b=some o
 slot:∀b o,h.get? b=some o->H b=none->b∈fs->b ∉ ex->∃sl,h'.get? b=some {o with slots:=sl}
 free:∀b o,h.get? b=some o->H b=none->b ∉ ex->H' b=none
 there:∀b o,h.get? b=some o->b ∉ ex->∃o',h'.get? b=some o'
 jC:∀b xs,H b=some (.tup xs)->H' b=some (.tup xs)
 iT:∀b o u,H b=some (.gB o u)->H' b=some (.gB o u)
 jD:∀b ps,H b=some (.rG ps)->∃more,H' b=some (.rG (ps++more))
section
variable{fs fs' ex ex':_V}{H H1 H2:Hp}{h1 h2:Heap}{a x e:_Z}{o:HO}
theorem Un.any(u:Un fs ex H H1 h h1){b:_Z}{ob:Obj}(q:h.get? b=some ob)(n:H b=none)(hx:b ∉ ex):∃sl,h1.get? b=some {ob with slots:=sl}:=by
 by_cases hb:b∈fs
 .exact u.slot b ob q n hb hx
 .exact⟨ob.slots,u.keep b ob q n hb hx⟩
theorem Un.kept(k:∀b u,h.get? b=some u->h'.get? b=some u):Un fs ex H H h h':=
 ⟨fun b ob q _ _ _=>k b ob q,fun b ob q _ _ _=>⟨ob.slots,k b ob q⟩,fun _ _ _ n _=>n,fun b ob q _=>⟨ob,k b ob q⟩,fun _ _ q=>q,fun _ _ _ q=>q,fun _ ps q=>⟨#[],by rw[q];simp⟩⟩
theorem Un.refl:Un fs ex H H h h:=Un.kept fun _ _ q=>q
theorem Un.laid(k:∀b u,h.get? b=some u->h'.get? b=some u)(hp:h.objs.size<=a)(hn:H a=none):Un fs ex H (upd H a o) h h' where
 keep:=fun b u q _ _ _=>k b u q
 slot:=fun b u q _ _ _=>⟨u.slots,k b u q⟩
 free:=fun b u q n _=>by rw[aH (VS (VE (Vz q) hp))];exact n
 there:=fun b u q _=>⟨u,k b u q⟩
 jC:=fun b xs q=>by rw[aH (bG q hn)];exact q
 iT:=fun b u xs q=>by rw[aH (bG q hn)];exact q
 jD:=fun b ps q=>⟨#[],by rw[aH (bG q hn),q];simp⟩
theorem Un.write(mu:OR (H x))(he:e=x\/H e=some (.own x))(k:∀b u,b≠e->h.get? b=some u->h'.get? b=some u)(Oh:∃u,h'.get? e=some u):Un fs ex H (upd H x o) h h':=by
 have hx:∀b,H b=none->b≠x:=fun b n z=>by subst z;rw[n]at mu;exact mu
 have hb:∀b,H b=none->b≠e:=fun b n z=>by
  subst z;rcases he with r|r
  .exact hx b n r
  .rw[n]at r;cases r
 have hm:∀b u,H b=some u->¬ OR (some u)->b≠x:=fun b u q nm z=>by subst z;rw[q]at mu;exact nm mu
 refine⟨fun b u q n _ _=>k b u (hb b n) q,fun b u q n _ _=>⟨u.slots,k b u (hb b n) q⟩,fun b u q n _=>by rw[aH (hx b n)];exact n,fun b u q _=>?_,
  fun b xs q=>by rw[aH (hm b _ q fun z=>z)];exact q,fun b u xs q=>by rw[aH (hm b _ q fun z=>z)];exact q,fun b ps q=>⟨#[],by rw[aH (hm b _ q fun z=>z),q];simp⟩⟩
 by_cases KN:b=e
 .subst KN;exact Oh
 .exact⟨u,k b u KN q⟩
end
def zT(h:Heap)(H:Hp):_V:=(List.range h.objs.size).filter fun a=>(H a).isSome
def rH(h:Heap)(H:Hp):Heap:=W.hideAll h (zT h H)
theorem Be(h:Heap)(H:Hp):(rH h H).objs.size=h.objs.size:=W.hideAll_size _ _
theorem CW{H:Hp}{b:_Z}{o:Obj}(e:h.get? b=some o)(n:H b=none):(rH h H).get? b=some o:=
 X0 _ e fun hm=>by have q:(H b).isSome=true:=(WC.mp hm).2;rw[n]at q;simp at q
theorem Gy{H:Hp}{b:_Z}{o:Obj}(e:(rH h H).get? b=some o):h.get? b=some o/\H b=none:=by
 have e':h.get? b=some o:=_b (zT h H) e;refine⟨e',?_⟩;cases q:H b with
 |none=>rfl
 |some x=>
  have hm:b∈zT h H:=WC.mpr ⟨List.mem_range.mpr (Vz e'),by simp[q]⟩;have z:(rH h H).get? b=none:=W.hideAll_none (zT h H) hm;rw[z]at e;cases e
structure Mod(K:_R)(mg:_P)(base:Heap):Prop where
 Gz:K.In base
 glob:base.Ns mainGlobals mg
 blt:∃mb,base.Ns builtinsNs mb/\∀x:Str,x ≠ "__name__" -> mb x=bootBuiltins x
 nolimit:base.NoLimit
structure Cx where
 prog:_1
 w:World
 K:_R
 mg:Str->_U
 base:Heap
 A:_0
 N:_W
 s₀:_Y
 H₀:Hp
 env:Env
 outer:List Env
 stack:List Env
 ex:_V
 fn:Str->Bool
 calm:Bool
 pn:_Q
 xe:_X->_Y->Prop
def gN(l:List Env):_V:=l.filterMap (·.frame)
abbrev Cx.fs(X:Cx):_V:=gN X.outer
def Gh(sc:Scope)(x:Str):Prop:=sc.names.lookup x=some .local\/sc.names.lookup x=some .cell\/sc.names.lookup x=some .free
def Loc(sc:Scope)(x:Str):Prop:=sc.names.lookup x=some .local\/sc.names.lookup x=some .cell
def Look(env:Env)(h:Heap)(m:_P)(x:Str)(u:_X):Prop:=
 (env.kindOf x=some .local/\m x=some u)\/((env.kindOf x=some .cell\/env.kindOf x=some .free)/\∃c,env.cells.lookup x=some c/\h.IsCell c (some u))
structure Cx.Ok(X:Cx):Prop where
 mod:Mod X.K X.mg X.base
 kind:X.env.scope.kind=.function
 glob:X.env.globals=mainGlobals
 blt:X.env.builtins=builtinsNs
 above:X.s₀.heap.objs.size<=X.env.locals
 inj:∀x y c,X.env.cells.lookup x=some c->X.env.cells.lookup y=some c->x=y
 has:∀x,(X.env.kindOf x=some .cell\/X.env.kindOf x=some .free)->∃c,X.env.cells.lookup x=some c
 CS:∀x c,X.fn x=true->X.env.cells.lookup x=some c->X.s₀.heap.objs.size<=c
 hd:X.calm=true->X.A.handled=none
 frames:X.A.frames=some X.stack
 Gi:X.stack=X.outer\/(X.stack=X.env::X.outer/\X.env.frame=some X.env.locals)
 RP:∀b∈X.ex,b≠X.env.locals/\∀x c,X.env.cells.lookup x=some c->c≠b
 bs:∀b o,X.base.get? b=some o->X.s₀.heap.get? b=some o/\X.H₀ b=none
 Bf:X.base.objs.size<=X.s₀.heap.objs.size
 vZ:∀b o,X.base.get? b=some o->b ∉ X.ex
 Bg:∀b∈X.ex,b ∉ X.fs
 iM:X.s₀.heap.FunFrames X.base X.outer
 x?:∀b∈X.fs,X.H₀ b=none
structure aM(X:Cx)(ag:_Q)(σ:List (Option V))(H:Hp)(s:_Y):Prop where
 ok:X.Ok
 os:s.os=X.s₀.os
 bare:AllBare s.gens
 base:Un X.fs X.ex X.H₀ H X.s₀.heap s.heap
 loc:∃m,s.heap.Ns X.env.locals m/\∀(i:Nat)(x:Str)(v:V),X.N[i]?=some x->σ[i]?=some (some v)->Gh X.env.scope x->∃u,bo v u/\Look X.env s.heap m x u
 cell:∀x c,X.env.cells.lookup x=some c->∃v,s.heap.IsCell c v
 free:H X.env.locals=none
 gO:∀x c,X.env.cells.lookup x=some c->H c=none
 pin:∀p∈X.pn++ag,s.heap.get? p.1=some p.2/\H p.1=none/\p.1≠X.env.locals/\p.1 ∉ X.fs/\∀v,p.2.data≠.cell v
 bN:il X.prog X.w H s.heap
 len:σ.length=X.N.length
section
variable{X:Cx}{σ:List (Option V)}{H H':Hp}{s:_Y}
theorem Cx.Ok.S4(ok:X.Ok){b:_Z}{o:Obj}(e:X.base.get? b=some o):b ∉ X.fs:=fun hb=>by have:=(ok.iM.mem hb).1;rw[e]at this;cases this
theorem aM.bs(I:aM X ag σ H s):∀b o,X.base.get? b=some o->s.heap.get? b=some o/\H b=none:=fun b o e=>
 ⟨I.base.keep b o (I.ok.bs b o e).1 (I.ok.bs b o e).2 (I.ok.S4 e) (I.ok.vZ b o e),I.base.free b o (I.ok.bs b o e).1 (I.ok.bs b o e).2 (I.ok.vZ b o e)⟩
theorem aM.bk(I:aM X ag σ H s):∀b o,X.base.get? b=some o->s.heap.get? b=some o:=fun b o e=>(I.bs b o e).1
theorem aM.mod(I:aM X ag σ H s):Mod X.K X.mg X.base:=I.ok.mod
theorem aM.nq(I:aM X ag σ H s):X.K.In s.heap:=I.ok.mod.Gz.keeps I.bk
theorem aM.lt(I:aM X ag σ H s):X.env.locals<s.heap.objs.size:=let⟨_,hn,_⟩:=I.loc;hn.lt
theorem aM.sz(I:aM X ag σ H s):X.s₀.heap.objs.size<=s.heap.objs.size:=Vx I.ok.above (X6 I.lt)
theorem aM.S5(I:aM X ag σ H s){a:_Z}(h:s.heap.objs.size<=a):a ∉ X.fs:=fun hb=>by obtain⟨_,o,ho,_⟩:=I.ok.iM.mem hb;exact absurd (VE (Vz ho) (Vx I.sz h)) (Wc _)
theorem aM.CY(I:aM X ag σ H s):∀x c,X.env.cells.lookup x=some c->c≠X.env.locals:=fun x c e z=>by obtain⟨v,o,ho,hd⟩:=I.cell x c e;obtain⟨m,⟨o',es,ep,lS,S6,_⟩,_⟩:=I.loc;rw[z,lS]at ho;cases ho;rw[S6]at hd;cases hd
theorem aM.iM(I:aM X ag σ H s):s.heap.FunFrames X.base X.outer:=by
 have all:∀(l:List Env),(∀b∈gN l,b∈X.fs)->X.s₀.heap.FunFrames X.base l->s.heap.FunFrames X.base l:=by
  intro l
  induction l with
  |nil=>intro _ _;trivial
  |cons env r ih=>
   intro hs hl;obtain⟨hk,⟨L,o,hf,hn,ho,hd⟩,hr⟩:=hl;have hL:L∈X.fs:=hs L (by unfold gN;rw[Yq,hf];exact VO);obtain⟨sl,e⟩:=I.base.slot L o ho (I.ok.x? L hL) hL fun z=>I.ok.Bg L z hL;exact⟨hk,⟨L,_,hf,hn,e,hd⟩,ih (fun b hb=>hs b (by unfold gN;rw[Yq,hf];exact VQ _ hb)) hr⟩
 exact all X.outer (fun _ hb=>hb) I.ok.iM
theorem aM.stack(I:aM X ag σ H s):s.heap.FunFrames X.base X.stack:=by
 rcases I.ok.Gi with e|⟨e,hf⟩
 .rw[e];exact I.iM
 .rw[e];obtain⟨m,hn,_⟩:=I.loc;refine .cons (by rw[I.ok.kind];decide) hf hn ?_ I.iM;exact Heap.get?_none_of_le (Vx I.ok.Bf I.ok.above)
theorem aM.kM(I:aM X ag σ H s):∀b∈gN X.stack,b∈X.env.locals::X.fs:=fun b hb=>by
 rcases I.ok.Gi with e|⟨e,hf⟩
 .rw[e]at hb;exact VQ _ hb
 .rw[e]at hb;unfold gN at hb;rw[Yq,hf]at hb;exact hb
theorem aM.uo(I:aM X ag σ H s):∀b∈gN X.stack,H b=none:=fun b hb=>by
 rcases VU.mp (I.kM b hb)with e|hb
 .rw[e];exact I.free
 .obtain⟨_,o,ho,_⟩:=I.ok.iM.mem hb;exact I.base.free b o ho (I.ok.x? b hb) fun z=>I.ok.Bg b z hb
theorem aM.step{g':Array GenState}{t':Nat}{d':Drawn}(I:aM X ag σ H s)(Gj:∀b∈ch,(b∈X.ex\/X.s₀.heap.objs.size<=b)/\b≠X.env.locals/\(∀x c,X.env.cells.lookup x=some c->c≠b)/\∀p∈X.pn++ag,p.1≠b)(keep:∀b o,b≠X.env.locals->b ∉ X.fs->b ∉ ch->s.heap.get? b=some o->H b=none->h'.get? b=some o)(slot:∀b o,b≠X.env.locals->b∈X.fs->b ∉ ch->s.heap.get? b=some o->H b=none->∃sl,h'.get? b=some {o with slots:=sl})(free:∀b o,b ∉ ch->s.heap.get? b=some o->H b=none->H' b=none)(there:∀b o,b ∉ ch->s.heap.get? b=some o->∃o',h'.get? b=some o')(jC:∀b xs,H b=some (.tup xs)->H' b=some (.tup xs))(iT:∀b o u,H b=some (.gB o u)->H' b=some (.gB o u))(jD:∀b ps,H b=some (.rG ps)->∃more,H' b=some (.rG (ps++more)))(ns:∀m,s.heap.Ns X.env.locals m->h'.Ns X.env.locals m)(bN:il X.prog X.w H' h')(hg:AllBare g'):
  aM X ag σ H' {s with heap:=h',gens:=g',drawn:=d',toks:=t'}:=by
 have CZ:∀b o,X.s₀.heap.get? b=some o->b≠X.env.locals:=fun b o e=>VS (VE (Vz e) I.ok.above);have RQ:∀b o,X.s₀.heap.get? b=some o->b ∉ X.ex->b ∉ ch:=fun b o e hx hb=>by
  rcases(Gj b hb).1 with z|z
  .exact hx z
  .exact absurd (VE (Vz e) z) (Wc _)
 have cellK:∀x c,X.env.cells.lookup x=some c->∀v,s.heap.IsCell c v->h'.IsCell c v:=fun x c e v⟨o,ho,hd⟩=>by
  have OT:c ∉ ch:=fun z=>(Gj c z).2.2.1 x c e rfl;by_cases hc:c∈X.fs
  .obtain⟨sl,q⟩:=slot c o (I.CY x c e) hc OT ho (I.gO x c e);exact⟨_,q,hd⟩
  .exact⟨o,keep c o (I.CY x c e) hc OT ho (I.gO x c e),hd⟩
 refine⟨I.ok,I.os,hg,⟨fun b o e n hb hx=>?_,fun b o e n hb hx=>?_,fun b o e n hx=>?_,fun b o e hx=>?_,fun b xs e=>jC b xs (I.base.jC b xs e),fun b o xs e=>iT b o xs (I.base.iT b o xs e),fun b ps e=>?_⟩,?_,fun x c e=>?_,?_,fun x c e=>?_,fun p hp=>?_,bN,I.len⟩
 .exact keep b o (CZ b o e) hb (RQ b o e hx) (I.base.keep b o e n hb hx) (I.base.free b o e n hx)
 .obtain⟨sl,e1⟩:=I.base.slot b o e n hb hx;obtain⟨JQ,e2⟩:=slot b _ (CZ b o e) hb (RQ b o e hx) e1 (I.base.free b o e n hx);exact⟨JQ,e2⟩
 .obtain⟨o',e1⟩:=I.base.there b o e hx;exact free b o' (RQ b o e hx) e1 (I.base.free b o e n hx)
 .obtain⟨o',e1⟩:=I.base.there b o e hx;exact there b o' (RQ b o e hx) e1
 .obtain⟨m1,e1⟩:=I.base.jD b ps e;obtain⟨m2,e2⟩:=jD b _ e1;exact⟨m1++m2,by rw[e2,Array.append_assoc]⟩
 .obtain⟨m,hn,hl⟩:=I.loc;refine⟨m,ns m hn,fun i x v e1 e2 e3=>?_⟩;obtain⟨u,r,l⟩:=hl i x v e1 e2 e3;refine⟨u,r,?_⟩;rcases l with l|⟨k,c,e,z⟩
  .exact .inl l
  .exact .inr ⟨k,c,e,cellK x c e _ z⟩
 .obtain⟨v,z⟩:=I.cell x c e;exact⟨v,cellK x c e v z⟩
 .obtain⟨m,⟨o,_,_,ho,_⟩,_⟩:=I.loc;exact free _ o (fun z=>(Gj _ z).2.1 rfl) ho I.free
 .obtain⟨v,o,ho,hd⟩:=I.cell x c e;exact free c o (fun z=>(Gj c z).2.2.1 x c e rfl) ho (I.gO x c e)
 .obtain⟨e,n,ne,nf,d⟩:=I.pin p hp;have OT:p.1 ∉ ch:=fun z=>(Gj p.1 z).2.2.2 p hp rfl;exact⟨keep p.1 p.2 ne nf OT e n,free p.1 p.2 OT e n,ne,nf,d⟩
theorem aM.un{t':Nat}(I:aM X ag σ H s)(u:Un X.fs [] H H' s.heap h')(bN:il X.prog X.w H' h'):aM X ag σ H' {s with heap:=h',toks:=t'}:=by
 obtain⟨m,⟨o,es,ep,ho,r⟩,_⟩:=id I.loc;obtain⟨sl,hL⟩:=u.any ho I.free (by simp);exact I.step (g':=s.gens) (d':=s.drawn) (ch:=[]) (fun _ z=>nomatch z) (fun b o _ hb _ e n=>u.keep b o e n hb (by simp)) (fun b o _ hb _ e n=>u.slot b o e n hb (by simp)) (fun b o _ e n=>u.free b o e n (by simp)) (fun b o _ e=>u.there b o e (by simp)) u.jC u.iT u.jD (fun m' hm=>by
  obtain⟨o',S7,S8,lS,r'⟩:=hm;rw[ho]at lS;cases lS;exact⟨_,S7,S8,hL,r'⟩) bN I.bare
theorem aM.call{g':Array GenState}{t':Nat}{d':Drawn}(I:aM X ag σ H s)(u:Un (gN X.stack) ch H H' s.heap h')(bN:il X.prog X.w H' h')(hg:AllBare g')(Gj:∀b∈ch,(b∈X.ex\/X.s₀.heap.objs.size<=b)/\b≠X.env.locals/\(∀x c,X.env.cells.lookup x=some c->c≠b)/\∀p∈X.pn++ag,p.1≠b):
  aM X ag σ H' {s with heap:=h',gens:=g',drawn:=d',toks:=t'}:=by
 obtain⟨m,⟨o,es,ep,ho,r⟩,_⟩:=id I.loc;obtain⟨sl,hL⟩:=u.any ho I.free fun z=>(Gj _ z).2.1 rfl;exact I.step (ch:=ch) Gj (fun b o hL hb hc e n=>u.keep b o e n (fun z=>(VU.mp (I.kM b z)).elim hL hb) hc) (fun b o _ _ hc e n=>u.any e n hc) (fun b o hc e n=>u.free b o e n hc) (fun b o hc e=>u.there b o e hc) u.jC u.iT u.jD (fun m' hm=>by
  obtain⟨o',S7,S8,lS,r'⟩:=hm;rw[ho]at lS;cases lS;exact⟨_,S7,S8,hL,r'⟩) bN hg
theorem aM.turned{t':Nat}{it:_Z}(I:aM X ag σ H s)(k:∀b o,b≠it->s.heap.get? b=some o->h'.get? b=some o)(hn:H it=none)(hL:it≠X.env.locals)(h1:it∈X.ex\/X.s₀.heap.objs.size<=it)(h2:∀x c,X.env.cells.lookup x=some c->c≠it)(h3:∀p∈X.pn++ag,p.1≠it):aM X ag σ H {s with heap:=h',toks:=t'}:=by
 have nit:∀b u,H b=some u->b≠it:=fun b u e z=>by rw[z,hn]at e;cases e
 refine I.step (g':=s.gens) (d':=s.drawn) (ch:=[it]) (fun b hb=>?_) (fun b o _ _ hc e _=>k b o (fun z=>hc (by simp[z])) e) (fun b o _ _ hc e _=>⟨o.slots,k b o (fun z=>hc (by simp[z])) e⟩) (fun _ _ _ _ n=>n)
  (fun b o hc e=>⟨o,k b o (fun z=>hc (by simp[z])) e⟩) (fun _ _ e=>e) (fun _ _ _ e=>e) (fun b ps e=>⟨#[],by rw[e];simp⟩) (fun m hm=>?_) (fun b u e=>?_) I.bare
 .have e:b=it:=by simpa using hb
  subst e;exact⟨h1,hL,h2,h3⟩
 .obtain⟨o,es,ep,ho,r⟩:=hm;exact⟨o,es,ep,k _ o (Xi hL) ho,r⟩
 .refine(I.bN b u e).kj (fun c v hc q=>k c v ?_ q) (fun _ q=>q) fun _ _ q=>q;rcases hc with z|z
  .rw[z];exact nit b u e
  .exact nit c _ z
theorem aM.tok(I:aM X ag σ H s)(t:Nat):aM X ag σ H {s with toks:=t}:=I.un (h':=s.heap) (t':=t) Un.refl I.bN
theorem aM.kept{t':Nat}(I:aM X ag σ H s)(k:∀b u,s.heap.get? b=some u->h'.get? b=some u):aM X ag σ H {s with heap:=h',toks:=t'}:=I.un (Un.kept k) (I.bN.kept k)
theorem aM.laid{a:_Z}{o:HO}{t':Nat}(I:aM X ag σ H s)(k:∀b u,s.heap.get? b=some u->h'.get? b=some u)(hp:s.heap.objs.size<=a)(new:ck X.prog X.w (upd H a o) h' a o):
  aM X ag σ (upd H a o) {s with heap:=h',toks:=t'}:=I.un (Un.laid k hp (I.bN.fresh hp)) (I.bN.laid k hp new)
theorem aM.write{x e:_Z}{o:HO}{t':Nat}(I:aM X ag σ H s)(mu:OR (H x))(he:e=x\/H e=some (.own x))(k:∀b u,b≠e->s.heap.get? b=some u->h'.get? b=some u)(Oh:∃u,h'.get? e=some u)(new:ck X.prog X.w (upd H x o) h' x o):aM X ag σ (upd H x o) {s with heap:=h',toks:=t'}:=I.un (Un.write mu he k Oh) (I.bN.write mu he k Oh new)
theorem aM.pz{JR:_Q}(I:aM X ag σ H s)(h:∀p∈JR,s.heap.get? p.1=some p.2/\H p.1=none/\p.1≠X.env.locals/\p.1 ∉ X.fs/\∀v,p.2.data≠.cell v):aM X JR σ H s:=
 ⟨I.ok,I.os,I.bare,I.base,I.loc,I.cell,I.free,I.gO,fun p hp=>(Wb.mp hp).elim (fun z=>I.pin p (WU _ z)) (h p),I.bN,I.len⟩
theorem pN{N:_W}(hN:N.Nodup){x:Str}(a:N[i]?=some x)(b:N[j]?=some x):i=j:=by obtain⟨h1,e1⟩:=V_.mp a;obtain⟨h2,e2⟩:=V_.mp b;exact(List.getElem_inj hN).mp (e1.trans e2.symm)
theorem nv{M:Model}{A:_0}{E:_O}{x:Str}{v:V}{u:_X}{Q:Unit->_Y->Prop}(I:aM X ag σ H s)(hN:X.N.Nodup)(hi:X.N[i]?=some x)(hx:Loc X.env.scope x)(r:bo v u)(h:∀s',aM X ag (σ.set i (some v)) H s'->(∃a,Heap.SameBut a s.heap s'.heap/\(a=X.env.locals\/X.env.cells.lookup x=some a))->Q () s')(hf:X.fn x=true\/X.env.scope.names.lookup x=some .local:=by first|exact .inl rfl|exact .inr rfl|assumption):wpAny M A (storeName X.env x u) Q E s:=by
 obtain⟨m,hn,hl⟩:=id I.loc;have C0:(X.env.scope.kind == .class || (X.env.scope.kind == .module&&X.env.locals !=X.env.globals))=false:=by rw[I.ok.kind];rfl
 have OU:i<σ.length:=by rw[I.len];exact(V_.mp hi).1
 have CY:=I.CY;have tracked:∀{a:_Z}{h':Heap},(∃o,s.heap.get? a=some o/\H a=none)->Heap.SameBut a s.heap h'->il X.prog X.w H h':=fun{a h'}ha hs b ob e=>by
  obtain⟨_,_,zU⟩:=ha;refine(I.bN b ob e).kj (fun c w' hc q=>(hs.2 c ?_).trans q) (fun _ q=>q) fun _ _ q=>q;rintro rfl;rcases hc with rfl|hc
  .rw[zU]at e;cases e
  .rw[zU]at hc;cases hc
 rcases hx with hk|hk
 .refine wpAny_storeName_local hk hn (fun h' GA hs=>?_) C0;obtain⟨oL,_,_,hoL,_⟩:=id hn;refine h _ ⟨I.ok,I.os,I.bare,⟨fun b o e n hb hx=>?_,fun b o e n hb hx=>?_,I.base.free,fun b o e hx=>?_,I.base.jC,I.base.iT,I.base.jD⟩,⟨_,GA,fun j y v' e1 e2 e3=>?_⟩,fun y c e=>?_,I.free,I.gO,fun p hp=>?_,tracked ⟨oL,hoL,I.free⟩ hs,by simpa using I.len⟩ ⟨_,hs,.inl rfl⟩
  .exact(hs.2 b (VS (VE (Vz e) I.ok.above))).trans (I.base.keep b o e n hb hx)
  .obtain⟨sl,e1⟩:=I.base.slot b o e n hb hx;exact⟨sl,(hs.2 b (VS (VE (Vz e) I.ok.above))).trans e1⟩
  .obtain⟨o',e1⟩:=I.base.there b o e hx;exact⟨o',(hs.2 b (VS (VE (Vz e) I.ok.above))).trans e1⟩
  .by_cases hj:j=i
   .subst hj;rw[hi]at e1;cases e1;rw[WH OU]at e2;cases e2;exact⟨u,r,.inl ⟨hk,by simp⟩⟩
   .rw[W6 (Xi hj)]at e2;obtain⟨u',r',q⟩:=hl j y v' e1 e2 e3;refine⟨u',r',?_⟩;rcases q with⟨k,e⟩|⟨k,c,e,z⟩
    .refine .inl ⟨k,?_⟩;have:y≠x:=fun e=>hj (pN hN e1 (e▸hi));simp[this,e]
    .exact .inr ⟨k,c,e,z.sameBut hs (CY y c e)⟩
  .obtain⟨w',z⟩:=I.cell y c e;exact⟨w',z.sameBut hs (CY y c e)⟩
  .obtain⟨e,n,ne,nf,d⟩:=I.pin p hp;exact⟨(hs.2 p.1 ne).trans e,n,ne,nf,d⟩
 .have ya:X.fn x=true:=by
   rcases hf with z|z
   .exact z
   .rw[z]at hk;cases hk
  obtain⟨c,hc⟩:=I.ok.has x (.inl hk);obtain⟨w',z⟩:=I.cell x c hc;refine wpAny_storeName_cell I.ok.kind hk hc z (fun h' ft hs=>?_);obtain⟨oc,OV,S9⟩:=id z;refine h {s with heap:=h'} ⟨I.ok,I.os,I.bare,⟨fun b o e n hb hx=>?_,fun b o e n hb hx=>?_,I.base.free,fun b o e hx=>?_,I.base.jC,I.base.iT,I.base.jD⟩,⟨m,hn.sameBut hs (Xi (CY x c hc)),fun j y v' e1 e2 e3=>?_⟩,fun y c' e=>?_,I.free,I.gO,fun p hp=>?_,tracked ⟨oc,OV,I.gO x c hc⟩ hs,by simpa using I.len⟩ ⟨c,hs,.inr hc⟩
  .exact(hs.2 b (VS (VE (Vz e) (I.ok.CS x c ya hc)))).trans (I.base.keep b o e n hb hx)
  .obtain⟨sl,e1⟩:=I.base.slot b o e n hb hx;exact⟨sl,(hs.2 b (VS (VE (Vz e) (I.ok.CS x c ya hc)))).trans e1⟩
  .obtain⟨o',e1⟩:=I.base.there b o e hx;exact⟨o',(hs.2 b (VS (VE (Vz e) (I.ok.CS x c ya hc)))).trans e1⟩
  .by_cases hj:j=i
   .subst hj;rw[hi]at e1;cases e1;rw[WH OU]at e2;cases e2;exact⟨u,r,.inr ⟨.inl hk,c,hc,ft⟩⟩
   .rw[W6 (Xi hj)]at e2;obtain⟨u',r',q⟩:=hl j y v' e1 e2 e3;refine⟨u',r',?_⟩;rcases q with q|⟨k,c',e,z'⟩
    .exact .inl q
    .refine .inr ⟨k,c',e,z'.sameBut hs ?_⟩;rintro rfl;exact hj (pN hN e1 (I.ok.inj _ _ _ e hc▸hi))
  .by_cases OW:c'=c
   .subst OW;exact⟨_,ft⟩
   .obtain⟨w2,z2⟩:=I.cell y c' e;exact⟨w2,z2.sameBut hs OW⟩
  .obtain⟨e,n,ne,nf,d⟩:=I.pin p hp;refine⟨(hs.2 p.1 ?_).trans e,n,ne,nf,d⟩;intro q;rw[q,OV]at e;have q':oc=p.2:=VP e;exact d w' (by rw[<-q'];exact S9)
theorem lU{M:Model}{A:_0}{E:_O}{x:Str}{v:V}{u:_X}{Q:Unit->_Y->Prop}(I:aM X ag σ H s)(hN:X.N.Nodup)(hi:X.N[i]?=some x)(hx:Loc X.env.scope x)(r:bo v u)(h:∀s',aM X ag (σ.set i (some v)) H s'->Q () s')(hf:X.fn x=true\/X.env.scope.names.lookup x=some .local:=by first|exact .inl rfl|exact .inr rfl|assumption):wpAny M A (storeName X.env x u) Q E s:=
 nv I hN hi hx r (fun s' I' _=>h s' I') hf
theorem aM.zV{s':_Y}(I:aM X ag σ H s)(ho:s'.os=s.os)(u:Un (gN X.stack) ch H H' s.heap s'.heap)(bN:il X.prog X.w H' s'.heap)(hg:AllBare s'.gens)(Gj:∀b∈ch,(b∈X.ex\/X.s₀.heap.objs.size<=b)/\b≠X.env.locals/\(∀x c,X.env.cells.lookup x=some c->c≠b)/\∀p∈X.pn++ag,p.1≠b):aM X ag σ H' s':=by obtain⟨h',g',d',t',o'⟩:=s';have e:o'=s.os:=ho;subst e;exact I.call (g':=g') (t':=t') (d':=d') u bN hg Gj
end
abbrev XK:=_X->Option _Z->Hp->Prop
abbrev St:=List (Option V)
abbrev VK:=V->Hp->Prop
abbrev TE:=St->Hp->VK->Prop
abbrev TT:=St->Hp->(Bool->Hp->Prop)->Prop
abbrev TA:=St->Hp->(List V->Hp->Prop)->Prop
structure Ends where
 nx:St->Hp->Prop
 rt:VK
 bk:St->Hp->Prop:=fun _ _=>False
 ct:St->Hp->Prop:=fun _ _=>False
abbrev TS:=Ends->St->Hp->Prop
def EP(X:Cx)(ag:_Q)(σ:St)(Q:VK)(u:_X)(s':_Y):Prop:=∃v H',aM X ag σ H' s'/\bo v u/\Q v H'
def TP(X:Cx)(ag:_Q)(σ:St)(Q:Bool->Hp->Prop)(b:Bool)(s':_Y):Prop:=∃H',aM X ag σ H' s'/\Q b H'
def AP(X:Cx)(ag:_Q)(σ:St)(Q:List V->Hp->Prop)(us:_T)(s':_Y):Prop:=∃vs H',aM X ag σ H' s'/\bf vs us/\Q vs H'
def SP(X:Cx)(ag:_Q)(D:Ends)(f:Flow)(s':_Y):Prop:=
 match f with
 |.next=>∃σ' H',aM X ag σ' H' s'/\D.nx σ' H'
 |.brk=>∃σ' H',aM X ag σ' H' s'/\D.bk σ' H'
 |.cont=>∃σ' H',aM X ag σ' H' s'/\D.ct σ' H'
 |.ret u=>∃v σ' H',aM X ag σ' H' s'/\bo v u/\D.rt v H'
def PE(X:Cx)(e:Expr)(t:TE):Prop:=
 ∀(ag:_Q)(s:_Y)(σ:St)(H:Hp)(Q:VK),aM X ag σ H s->t σ H Q->wpAny (model X.prog X.w) X.A (eval e X.env) (EP X ag σ Q) X.xe s
def PT(X:Cx)(e:Expr)(t:TT):Prop:=
 ∀(ag:_Q)(s:_Y)(σ:St)(H:Hp)(Q:Bool->Hp->Prop),aM X ag σ H s->t σ H Q->wpAny (model X.prog X.w) X.A (isTrue e X.env (eval e X.env)) (TP X ag σ Q) X.xe s
def PW(X:Cx)(e:Expr)(t:TT):Prop:=
 ∀(whole:Sem _X)(ag:_Q)(s:_Y)(σ:St)(H:Hp)(Q:Bool->Hp->Prop),aM X ag σ H s->t σ H Q->wpAny (model X.prog X.w) X.A (isTrue e X.env whole) (TP X ag σ Q) X.xe s
theorem PW.pt{X:Cx}{t:TT}(h:PW X e t):PT X e t:=h _
def PA(X:Cx)(es:List Expr)(t:TA):Prop:=
 ∀(pos:Pos)(ag:_Q)(s:_Y)(σ:St)(H:Hp)(Q:List V->Hp->Prop),aM X ag σ H s->t σ H Q->wpAny (model X.prog X.w) X.A (spliced (backTo pos (starEach es X.env))) (AP X ag σ Q) X.xe s
def PS(X:Cx)(st:Stmt)(t:TS):Prop:=
 ∀(ag:_Q)(s:_Y)(σ:St)(H:Hp)(D:Ends),aM X ag σ H s->t D σ H->wpAny (model X.prog X.w) X.A (exec st X.env) (SP X ag D) X.xe s
def i'(X:Cx)(st:List Stmt)(t:TS):Prop:=
 ∀(ag:_Q)(s:_Y)(σ:St)(H:Hp)(D:Ends),aM X ag σ H s->t D σ H->wpAny (model X.prog X.w) X.A (execs st X.env) (SP X ag D) X.xe s
theorem df{t:Sem α}{Q Q':α->_Y->Prop}{M:Model}{A:_0}{E:_O}{s:_Y}(h:wpAny M A t Q E s)(hQ:∀a s,Q a s->Q' a s):wpAny M A t Q' E s:=Ws h hQ fun _ _ x=>x
section
variable{X:Cx}
def S_(i:Nat):TE:=fun σ H Q=>∃v,σ[i]?=some (some v)/\Q v H
def tC(v:V):TE:=fun _ H Q=>Q v H
theorem uq{x:Str}(hN:X.N[i]?=some x)(hv:Gh X.env.scope x)(hd:(x==("__debug__":Str))=false:=by decide)(j6:(x==("__classdict__":Str))=false:=by decide):PE X (.Name x pos) (S_ i):=by
 intro ag s σ H Q I h;obtain⟨v,e,h⟩:=h;obtain⟨m,hn,hl⟩:=I.loc;obtain⟨u,r,l⟩:=hl i x v hN e hv;have fin:EP X ag σ Q u s:=⟨v,H,I,r,h⟩
 rcases l with⟨hk,hm⟩|⟨hk,c,hc,sC⟩
 .exact Z3 (YR I.ok.kind hk hn hm fin) hd
 .rcases hk with hk|hk
  .exact Z3 (wpAny_loadName_cell I.ok.kind hk hc sC fin) hd
  .exact Z3 (wpAny_loadName_free I.ok.kind hk hc sC fin j6) hd
theorem KO{i j pos}:PE X (.Constant (.int i) j pos) (tC (.int i)):=fun _ _ _ H _ I h=>wpAny_Constant_int ⟨.int i,H,I.tok _,⟨_,rfl⟩,h⟩
theorem JS{b j pos}:PE X (.Constant (.bool b) j pos) (tC (.bl b)):=fun _ _ _ H _ I h=>Constant_bool ⟨.bl b,H,I,rfl,h⟩
theorem KP{j pos}:PE X (.Constant .none j pos) (tC .dc):=fun _ _ _ H _ I h=>Constant_none ⟨.dc,H,I,rfl,h⟩
theorem KQ{x j pos}:PE X (.Constant (.str x) j pos) (tC (.str x)):=fun _ _ _ H _ I h=>Calls.Constant_str ⟨.str x,H,I.tok _,⟨_,rfl⟩,h⟩
def Gl(X:Cx)(x:Str):Prop:=X.env.kindOf x=some .globalImplicit
theorem iU{E:_O}{s:_Y}{σ:St}{H:Hp}{x:Str}{u:_X}(I:aM X ag σ H s)(hg:Gl X x)(hm:X.mg x=some u)(h:Q u s)(hd:(x==("__debug__":Str))=false:=by decide):wpAny (model X.prog X.w) X.A (eval (.Name x pos) X.env) Q E s:=
 Z7 I.ok.kind hg (Calls.loadGlobal_global (by rw[I.ok.glob];exact I.mod.glob.keeps I.bk) hm h) hd
theorem kN{E:_O}{s:_Y}{σ:St}{H:Hp}{x:Str}{u:_X}(I:aM X ag σ H s)(hg:Gl X x)(hm:X.mg x=none)(hv:bootBuiltins x=some u)(h:Q u s)(hn:x ≠ "__name__":=by decide)(hd:(x==("__debug__":Str))=false:=by decide):wpAny (model X.prog X.w) X.A (eval (.Name x pos) X.env) Q E s:=by obtain⟨mb,h1,h2⟩:=I.mod.blt;exact Z7 I.ok.kind hg (Calls.loadGlobal_builtin (by rw[I.ok.glob];exact I.mod.glob.keeps I.bk) hm (by rw[I.ok.blt];exact h1.keeps I.bk) ((h2 x hn).trans hv) h) hd
theorem ur{x:Str}{v:V}{u:_X}(hg:Gl X x)(hm:X.mg x=some u)(r:bo v u)(hd:(x==("__debug__":Str))=false:=by decide):PE X (.Name x pos) (tC v):=
 fun _ _ _ H _ I h=>iU I hg hm ⟨v,H,I,r,h⟩ hd
theorem zW{x:Str}{v:V}{u:_X}(hg:Gl X x)(hm:X.mg x=none)(hv:bootBuiltins x=some u)(r:bo v u)(hn:x ≠ "__name__":=by decide)(hd:(x==("__debug__":Str))=false:=by decide):PE X (.Name x pos) (tC v):=
 fun _ _ _ H _ I h=>kN I hg hm hv ⟨v,H,I,r,h⟩ hn hd
variable{a b:Expr}{ta tb:TE}
def PC(X:Cx)(op:CmpOp)(a b:Expr)(t:TE):Prop:=
 ∀(ag:_Q)(s:_Y)(σ:St)(H:Hp)(Q:VK),aM X ag σ H s->t σ H Q ->
  wpAny (model X.prog X.w) X.A (eval a X.env) (fun v s₁=>wpAny (model X.prog X.w) X.A (eval b X.env) (fun u s₂=>wpAny (model X.prog X.w) X.A (compareOp op v u) (EP X ag σ Q) X.xe s₂) X.xe s₁) X.xe s
def tB(t:TE):TT:=fun σ H Q=>t σ H fun x H1=>∃c,x=.bl c/\Q c H1
theorem KR{t:TE}(h:PE X e t)(he:∀whole,isTrue e X.env whole=(do let v <- whole;standAt e.pos;holding [v] (truthy v)):=by intro _;rfl):PT X e (tB t):=by intro ag s σ H Q I hw;refine isTrue_plain (df (h ag s σ H _ I hw) fun v s1⟨x,H1,I1,r1,q1⟩=>?_) (he _);obtain⟨d,rfl,q⟩:=q1;cases r1;exact W8 ⟨H1,I1,q⟩
variable{tA GB:TT}
def S!(t u:TT):TT:=fun σ H Q=>t σ H fun c H1=>if c=true then u σ H1 Q else Q false H1
def tOr(t u:TT):TT:=fun σ H Q=>t σ H fun c H1=>if c=true then Q true H1 else u σ H1 Q
def S?(t:TT):TT:=fun σ H Q=>t σ H fun c H1=>Q (!c) H1
theorem GC(ha:PT X a tA):PW X (.BoolOp .And [a] pos) tA:=by
 intro wh ag s σ H Q I h;refine isTrue_and (df (ha ag s σ H Q I h) fun c s1 e=>?_);cases c with
 |true=>exact isTrue_and_nil e
 |false=>exact e
theorem KS(ha:PT X a tA):PW X (.BoolOp .Or [a] pos) tA:=by
 intro wh ag s σ H Q I h;refine isTrue_or (df (ha ag s σ H Q I h) fun c s1 e=>?_);cases c with
 |false=>exact isTrue_or_nil e
 |true=>exact e
theorem KU(ha:PT X a tA)(hb:PW X (.BoolOp .And (b::rest) pos) GB):PW X (.BoolOp .And (a::b::rest) pos) (S! tA GB):=by
 intro wh ag s σ H Q I h;refine isTrue_and (df (ha ag s σ H _ I h) fun c s1⟨H1,I1,q1⟩=>?_);cases c with
 |true=>exact hb wh ag s1 σ H1 Q I1 q1
 |false=>exact⟨H1,I1,q1⟩
theorem OX(ha:PT X a tA)(hb:PW X (.BoolOp .Or (b::rest) pos) GB):PW X (.BoolOp .Or (a::b::rest) pos) (tOr tA GB):=by
 intro wh ag s σ H Q I h;refine isTrue_or (df (ha ag s σ H _ I h) fun c s1⟨H1,I1,q1⟩=>?_);cases c with
 |true=>exact⟨H1,I1,q1⟩
 |false=>exact hb wh ag s1 σ H1 Q I1 q1
theorem KW(ha:PT X a tA):PT X (.UnaryOp .Not a pos) (S? tA):=by intro ag s σ H Q I h;exact isTrue_not (ha ag s σ H (fun c H1=>Q (!c) H1) I h)
def OY(ta tb:TE):TE:=fun σ H Q=>ta σ H fun x H1=>∃c,x=.bl c/\if c=true then tb σ H1 Q else Q (.bl false) H1
def Ta(ta tb:TE):TE:=fun σ H Q=>ta σ H fun x H1=>∃c,x=.bl c/\if c=true then Q (.bl true) H1 else tb σ H1 Q
def OZ(ta:TE):TE:=fun σ H Q=>ta σ H fun x H1=>∃c,x=.bl c/\Q (.bl (!c)) H1
theorem KY{op}{t:TE}(h:PE X a t):PE X (.BoolOp op [a] pos) t:=fun ag s σ H Q I hw=>BoolOp_one (h ag s σ H Q I hw)
theorem KZ(ha:PE X a ta)(hb:PE X (.BoolOp .And (b::rest) pos) tb):PE X (.BoolOp .And (a::b::rest) pos) (OY ta tb):=by
 intro ag s σ H Q I h;refine BoolOp_and (df (ha ag s σ H _ I h) fun v s1⟨x,H1,I1,r1,q1⟩=>?_);obtain⟨c,rfl,q1⟩:=q1;cases r1;refine W8 ?_;cases c with
 |true=>exact hb ag s1 σ H1 Q I1 q1
 |false=>exact⟨.bl false,H1,I1,rfl,q1⟩
theorem O0(ha:PE X a ta)(hb:PE X (.BoolOp .Or (b::rest) pos) tb):PE X (.BoolOp .Or (a::b::rest) pos) (Ta ta tb):=by
 intro ag s σ H Q I h;refine BoolOp_or (df (ha ag s σ H _ I h) fun v s1⟨x,H1,I1,r1,q1⟩=>?_);obtain⟨c,rfl,q1⟩:=q1;cases r1;refine W8 ?_;cases c with
 |false=>exact hb ag s1 σ H1 Q I1 q1
 |true=>exact⟨.bl true,H1,I1,rfl,q1⟩
theorem K0(ha:PE X a ta):PE X (.UnaryOp .Not a pos) (OZ ta):=by intro ag s σ H Q I h;refine UnaryOp_ (df (ha ag s σ H _ I h) fun v s1⟨x,H1,I1,r1,q1⟩=>?_);obtain⟨c,rfl,q1⟩:=q1;cases r1;exact not_of (W8 ⟨.bl (!c),H1,I1,rfl,q1⟩)
def tIf(t:TT)(ta tb:TE):TE:=fun σ H Q=>t σ H fun c H1=>if c=true then ta σ H1 Q else tb σ H1 Q
theorem C2{c:Expr}(hc:PT X c tA)(ha:PE X a ta)(hb:PE X b tb):PE X (.IfExp c a b pos) (tIf tA ta tb):=by
 intro ag s σ H Q I h;refine wpAny_IfExp (df (hc ag s σ H _ I h) fun d s1⟨H1,I1,q1⟩=>?_);cases d with
 |true=>exact ha ag s1 σ H1 Q I1 q1
 |false=>exact hb ag s1 σ H1 Q I1 q1
end
def nr(K:_R)(H:Hp)(a:_Z)(xs:List V):Prop:=
 Rd H a (.lst xs) \/
  ∃(o:Obj)(aF:Array _X)(n:Nat),K.lookup a=some o/\o.cls=.type "list" /\ o.dict=none/\o.data=.seq aF n/\aF.size<=sizeLine/\bf xs aF.toList
def jB(K:_R)(H:Hp)(a:_Z)(xs:List V):Prop:=
 Rd H a (.tup xs) \/
  ∃(o:Obj)(aF:Array _X)(n:Nat),K.lookup a=some o/\o.cls=.type "tuple" /\ o.data=.seq aF n/\aF.size<=sizeLine/\bf xs aF.toList
def Tb:_X->Option V
 |.none=>some .dc
 |.bool b=>some (.bl b)
 |.int i _=>some (.int i)
 |.str x _=>some (.str x)
 |.bytes b _=>some (.S2 b)
 |.float b _=>some (.pq b)
 |.ref a=>some (.ref a)
 |.type n=>some (.ty n)
 |_=>none
theorem bo.abs{x:V}{u:_X}(r:bo x u):Tb u=some x:=by
 cases x with
 |dc=>cases r;rfl
 |bl _=>cases r;rfl
 |int _=>obtain⟨t,rfl⟩:=r;rfl
 |str _=>obtain⟨t,rfl⟩:=r;rfl
 |S2 _=>obtain⟨t,rfl⟩:=r;rfl
 |pq _=>obtain⟨t,rfl⟩:=r;rfl
 |ref _=>cases r;rfl
 |ty _=>cases r;rfl
theorem bo.inj{x y:V}{u:_X}(r:bo x u)(q:bo y u):x=y:=VP (r.abs.symm.trans q.abs)
theorem bf.inj{xs ys:List V}{us:_T}(p:bf xs us)(q:bf ys us):xs=ys:=by
 induction p generalizing ys with
 |nil=>cases q;rfl
 |cons r t ih=>
  cases q with
  |cons r' t'=>rw[r.inj r',ih t']
section
variable{X:Cx}{σ:St}{H:Hp}{s:_Y}{a:_Z}{xs ys:List V}
theorem nr.of{K:_R}(h:H a=some (.lst xs)):nr K H a xs:=.inl (.inl h)
theorem jB.of{K:_R}(h:H a=some (.tup xs)):jB K H a xs:=.inl (.inl h)
theorem aM.list(I:aM X ag σ H s)(h:nr X.K H a xs):∃aF:_T,bf xs aF/\PlainL s.heap a aF.toArray/\xs.length<=sizeLine:=by
 rcases h with h|⟨o,aF,n,hk,hc,hd,hs,hz,r⟩
 .obtain⟨z,aF,n,r,e⟩:=h.ok I.bN;exact⟨aF,r,⟨_,n,e,rfl,rfl,rfl⟩,z⟩
 .refine⟨aF.toList,r,⟨o,n,I.nq a o hk,hc,hd,by simpa using hs⟩,?_⟩;have e:=r.length;simp only[Vy]at e;lia
theorem aM.tuple(I:aM X ag σ H s)(h:jB X.K H a xs):∃aF:_T,bf xs aF/\IsTup s.heap a aF.toArray/\xs.length<=sizeLine:=by
 rcases h with h|⟨o,aF,n,hk,hc,hs,hz,r⟩
 .obtain⟨z,aF,r,p⟩:=h.ok I.bN;exact⟨aF,r,p,z⟩
 .refine⟨aF.toList,r,⟨o,I.nq a o hk,hc,n,by simpa using hs⟩,?_⟩;have e:=r.length;simp only[Vy]at e;lia
theorem aM.pO(I:aM X ag σ H s)(h:nr X.K H a xs)(h':nr X.K H a ys):xs=ys:=by
 obtain⟨aF,r,⟨o,n,e,_,_,d⟩,_⟩:=I.list h;obtain⟨its',r',⟨o',n',e',_,_,d'⟩,_⟩:=I.list h';rw[e]at e';cases e';rw[d]at d';injection d' with d1 _;have:aF=its':=by simpa using Xg Array.toList d1
 subst this;exact r.inj r'
theorem aM.ny(I:aM X ag σ H s)(h:jB X.K H a xs)(h':jB X.K H a ys):xs=ys:=by
 obtain⟨aF,r,⟨o,e,_,n,d⟩,_⟩:=I.tuple h;obtain⟨its',r',⟨o',e',_,n',d'⟩,_⟩:=I.tuple h';rw[e]at e';cases e';rw[d]at d';injection d' with d1 _;have:aF=its':=by simpa using Xg Array.toList d1
 subst this;exact r.inj r'
end
abbrev Cx.pP(X:Cx)(E:_O):Cx:={X with xe:=E}
theorem Cx.Ok.pP{X:Cx}(ok:X.Ok)(E:_O):(X.pP E).Ok:=
 ⟨ok.mod,ok.kind,ok.glob,ok.blt,ok.above,ok.inj,ok.has,ok.CS,ok.hd,ok.frames,ok.Gi,ok.RP,ok.bs,ok.Bf,ok.vZ,ok.Bg,ok.iM,ok.x?⟩
theorem Cx.Ok.uu{X:Cx}{E:_O}(ok:(X.pP E).Ok):X.Ok:=
 ⟨ok.mod,ok.kind,ok.glob,ok.blt,ok.above,ok.inj,ok.has,ok.CS,ok.hd,ok.frames,ok.Gi,ok.RP,ok.bs,ok.Bf,ok.vZ,ok.Bg,ok.iM,ok.x?⟩
section
variable{X:Cx}{σ:St}{H:Hp}{s:_Y}{E:_O}
theorem aM.pP(I:aM X ag σ H s)(E:_O):aM (X.pP E) ag σ H s:=⟨I.ok.pP E,I.os,I.bare,I.base,I.loc,I.cell,I.free,I.gO,I.pin,I.bN,I.len⟩
theorem aM.uu(I:aM (X.pP E) ag σ H s):aM X ag σ H s:=⟨I.ok.uu,I.os,I.bare,I.base,I.loc,I.cell,I.free,I.gO,I.pin,I.bN,I.len⟩
end
section
variable{X:Cx}{st:Stmt}{rest:List Stmt}{t u:TS}{te:TE}
def O1:TS:=fun D σ H=>D.nx σ H
def Tc(t u:TS):TS:=fun D σ H=>t {D with nx:=u D} σ H
theorem GD:i' X [] O1:=fun _ _ σ H _ I h=>XM ⟨σ,H,I,h⟩
theorem C3(h1:PS X st t)(h2:i' X rest u):i' X (st::rest) (Tc t u):=by
 intro ag s σ H D I h;refine Zu (df (h1 ag s σ H {D with nx:=u D} I h) fun f s1 q=>?_);cases f with
 |next=>
  obtain⟨σ',H',I',q⟩:=q;exact h2 ag s1 σ' H' D I' q
 |ret v=>exact q
 |brk=>exact q
 |cont=>exact q
theorem GF(h1:PS X st t):i' X [st] t:=by
 intro ag s σ H D I h;refine Zu (df (h1 ag s σ H D I h) fun f s1 q=>?_);cases f with
 |next=>exact XM q
 |ret v=>exact q
 |brk=>exact q
 |cont=>exact q
theorem aM.quiet{σ:St}{H:Hp}{s:_Y}(I:aM X ag σ H s):interactive X.env=false:=by simp[interactive,I.ok.kind]
def O2(te:TE):TS:=fun D σ H=>te σ H fun _ H1=>D.nx σ H1
theorem GG(he:PE X e te)(hs:swapsWith e none pos.line X.env=pure false:=by rfl):PS X (.Expr e pos) (O2 te):=by intro ag s σ H D I h;exact wpAny_Expr_any (df (he ag s σ H _ I h) fun v s1⟨x,H1,I1,r1,q1⟩=>⟨σ,H1,I1,q1⟩) I.quiet hs
def Td(te:TE):TS:=fun D σ H=>te σ H D.rt
theorem K2(he:PE X e te):PS X (.Return (some e) pos) (Td te):=by intro ag s σ H D I h;exact wpAny_Return_some (df (he ag s σ H _ I h) fun v s1⟨x,H1,I1,r1,q1⟩=>⟨x,σ,H1,I1,r1,q1⟩)
def Te(c:TT)(t u:TS):TS:=fun D σ H=>c σ H fun b H1=>if b=true then t D σ H1 else u D σ H1
theorem O3{c:Expr}{a b:List Stmt}{tc:TT}(hc:PT X c tc)(ha:i' X a t)(hb:i' X b u):PS X (.If c a b pos) (Te tc t u):=by
 intro ag s σ H D I h;refine wpAny_If (df (hc ag s σ H _ I h) fun d s1⟨H1,I1,q1⟩=>?_);cases d with
 |true=>exact ha ag s1 σ H1 D I1 q1
 |false=>exact hb ag s1 σ H1 D I1 q1
end
abbrev TG:=V->St->Hp->(St->Hp->Prop)->Prop
abbrev GH:=List V->St->Hp->(St->Hp->Prop)->Prop
def PG(X:Cx)(target:Expr)(t:TG):Prop:=
 ∀(ag:_Q)(s:_Y)(σ:St)(H:Hp)(v:V)(u:_X)(Q:St->Hp->Prop),aM X ag σ H s->bo v u->t v σ H Q ->
  wpAny (model X.prog X.w) X.A (assign target X.env u) (fun _ s'=>∃σ' H',aM X ag σ' H' s'/\Q σ' H') X.xe s
def zZ(X:Cx)(ts:List Expr)(t:GH):Prop:=
 ∀(ag:_Q)(s:_Y)(σ:St)(H:Hp)(vs:List V)(us:_T)(Q:St->Hp->Prop),aM X ag σ H s->bf vs us->t vs σ H Q ->
  wpAny (model X.prog X.w) X.A (assignInOrder ((assignEach ts X.env).map (·.2)) us) (fun _ s'=>∃σ' H',aM X ag σ' H' s'/\Q σ' H') X.xe s
abbrev Tf:=V->V->Hp->VK->Prop
def PIp(X:Cx)(op:Operator)(t:Tf):Prop:=
 ∀(ag:_Q)(s:_Y)(σ:St)(H:Hp)(x y:V)(v u:_X)(Q:VK),aM X ag σ H s->bo x v->bo y u->t x y H Q ->
  wpAny (model X.prog X.w) X.A (inplaceOp op v u) (EP X ag σ Q) X.xe s
section
variable{X:Cx}
def v9(i:Nat):TG:=fun v σ H Q=>Q (σ.set i (some v)) H
theorem GI{x:Str}(hN:X.N.Nodup)(hi:X.N[i]?=some x)(hx:Loc X.env.scope x)(hf:X.fn x=true\/X.env.scope.names.lookup x=some .local:=by first|exact .inl rfl|exact .inr rfl|assumption):PG X (.Name x pos) (v9 i):=by intro ag s σ H v u Q I r h;exact wpAny_assign_Name (lU I hN hi hx r (fun s' I'=>⟨_,H,I',h⟩) hf)
def Tg:GH:=fun vs σ H Q=>vs=[]/\Q σ H
def O4(t:TG)(u:GH):GH:=fun vs σ H Q=>∃v r,vs=v::r/\t v σ H fun σ' H'=>u r σ' H' Q
theorem GJ:zZ X [] Tg:=by intro ag s σ H vs us Q I r h;obtain⟨e,h⟩:=h;subst e;cases r;exact assignInOrder_nil ⟨σ,H,I,h⟩
theorem C4{t:TG}{u:GH}(h1:PG X e t)(h2:zZ X es u)(hs:(assignEach (e::es) X.env).map (·.2)=assign e X.env::(assignEach es X.env).map (·.2):=by rfl):zZ X (e::es) (O4 t u):=by
 intro ag s σ H vs us Q I r h;obtain⟨v,vr,e1,h⟩:=h;subst e1;cases r with
 |cons r rr=>
  rw[hs];refine assignInOrder_cons (df (h1 ag s σ H _ _ _ I r h) fun _ s1⟨σ1,H1,I1,q1⟩=>?_);exact h2 ag s1 σ1 H1 _ _ Q I1 rr q1
def Th(K:_R)(n:Nat)(t:GH):TG:=fun v σ H Q=>∃a xs,v=.ref a/\jB K H a xs/\xs.length=n/\t xs σ H Q
theorem K3{k:Nat}{t:GH}(hc:X.calm=true)(h:zZ X es t)(hn:(assignEach es X.env).length=n:=by rfl)(CT:(assignEach es X.env).findIdx? (·.1)=none:=by rfl):PG X (.Tuple es k pos) (Th X.K n t):=by intro ag s σ H v u Q I r hw;obtain⟨a,xs,e1,hq,hl,hw⟩:=hw;subst e1;cases r;obtain⟨aF,rv,ht,hz⟩:=I.tuple hq;refine assign_Tuple_tuple (I.ok.hd hc) ht (by simp[hn,<-hl,rv.length]) CT fun h' hx=>?_;have I1:aM X ag σ H {s with heap:=h'}:=I.kept (t':=s.toks) fun b o e=>hx b o (VS (Vz e)) e;exact h ag _ σ H xs _ Q I1 (by simpa using rv) hw
def GK(te:TE)(g:TG):TS:=fun D σ H=>te σ H fun x H1=>g x σ H1 D.nx
theorem K4{te:TE}{g:TG}(he:PE X e te)(hg:PG X tg g)(hs:swapsWithSole [tg] e pos.line X.env=pure false:=by rfl)(hw:swappedStores [tg] e X.env=pure none:=by rfl)(h1:(assignEach [tg] X.env).map (·.2)=[assign tg X.env]:=by rfl):PS X (.Assign [tg] e pos) (GK te g):=by intro ag s σ H D I h;refine wpAny_Assign_stores (df (he ag s σ H _ I h) fun v s1⟨x,H1,I1,r1,q1⟩=>?_) hs hw;rw[h1];exact df (hg ag s1 σ H1 x v _ I1 r1 q1) fun _ s2 q=>q
theorem K5{x:Str}{te:TE}(hN:X.N.Nodup)(hi:X.N[i]?=some x)(hx:Loc X.env.scope x)(he:PE X e te)(hs:swapsWith e (some (.Name x pos')) pos.line X.env=pure false:=by rfl)(hf:X.fn x=true\/X.env.scope.names.lookup x=some .local:=by first|exact .inl rfl|exact .inr rfl|assumption):
  PS X (.Assign [.Name x pos'] e pos) (GK te (v9 i)):=by
 intro ag s σ H D I h;refine wpAny_Assign_Name (df (he ag s σ H _ I h) fun v s1⟨y,H1,I1,r1,q1⟩=>?_) hs;exact lU I1 hN hi hx r1 (fun s2 I2=>⟨_,H1,I2,q1⟩) hf
def Ti(i:Nat)(te:TE)(ti:Tf):TS:=fun D σ H=>∃x,σ[i]?=some (some x)/\te σ H fun y H1=>ti x y H1 fun z H2=>D.nx (σ.set i (some z)) H2
theorem K6{x:Str}{te:TE}{op:Operator}{ti:Tf}(hN:X.N.Nodup)(hi:X.N[i]?=some x)(hx:Loc X.env.scope x)(he:PE X e te)(ho:PIp X op ti)(hf:X.fn x=true\/X.env.scope.names.lookup x=some .local:=by first|exact .inl rfl|exact .inr rfl|assumption):
  PS X (.AugAssign (.Name x pos') op e pos) (Ti i te ti):=by
 intro ag s σ H D I h;obtain⟨v,e1,h⟩:=h;obtain⟨m,hn,hl⟩:=I.loc;have Tj:Gh X.env.scope x:=by rcases hx with k|k;exact .inl k;exact .inr (.inl k)
 obtain⟨u,r,l⟩:=hl i x v hi e1 Tj;refine wpAny_AugAssign_Name ?_;have go:wpAny (model X.prog X.w) X.A (eval e X.env) (fun w s₂=>wpAny (model X.prog X.w) X.A (inplaceOp op u w) (fun r s₃=>wpAny (model X.prog X.w) X.A (storeName X.env x r) (fun _=>SP X ag D .next) X.xe s₃) X.xe s₂) X.xe s:=by refine df (he ag s σ H _ I h) fun w s1⟨y,H1,I1,r1,q1⟩=>?_;refine df (ho ag s1 σ H1 v y u w _ I1 r r1 q1) fun z s2⟨zv,H2,I2,r2,q2⟩=>?_;exact lU I2 hN hi hx r2 (fun s3 I3=>⟨_,H2,I3,q2⟩) hf
 rcases l with⟨hk,hm⟩|⟨hk,c,hc,sC⟩
 .exact YR I.ok.kind hk hn hm go
 .rcases hk with hk|hk
  .exact wpAny_loadName_cell I.ok.kind hk hc sC go
  .rcases hx with k|k
   .have:X.env.scope.names.lookup x=some .free:=hk;rw[k]at this;cases this
   .have:X.env.scope.names.lookup x=some .free:=hk;rw[k]at this;cases this
end
section
variable{X:Cx}
def K7(c:TT)(tb:TS):TS:=fun D σ H=>∃W:Nat->St->Hp->Prop,(∃m,W m σ H)/\∀m σ H,W m σ H ->
 c σ H fun b H1=>if b=true then ∃N:St->Hp->Prop,(∀σ' H',N σ' H'->∃m',m'<m/\W m' σ' H')/\tb {D with nx:=N,ct:=N,bk:=D.nx} σ H1 else D.nx σ H1
theorem C5{c:Expr}{body:List Stmt}{tc:TT}{tb:TS}(hp:PassesOwn (model X.prog X.w) X.A X.env X.xe)(hc:PT X c tc)(hb:i' X body tb):PS X (.While c body [] pos) (K7 tc tb):=by
 intro ag s σ H D I h;obtain⟨W,⟨m0,w0⟩,turn⟩:=h;refine wpAny_While (codeAny_whileLoop (fun n s'=>∃σ' H',aM X ag σ' H' s'/\W n σ' H') ?_ m0 ⟨σ,H,I,w0⟩);rintro n s1 ⟨σ1,H1,I1,w1⟩;refine Xq hp (df (hc ag s1 σ1 H1 _ I1 (turn n σ1 H1 w1)) fun b s2⟨H2,I2,q2⟩=>?_);cases b with
 |true=>
  obtain⟨N,hN,q2⟩:=q2;rw[Vu rfl];refine Xq hp (df (hb ag s2 σ1 H2 _ I2 q2) fun f s3 q3=>?_);cases f with
  |next=>
   obtain⟨σ3,H3,I3,n3⟩:=q3;obtain⟨m',hm,w3⟩:=hN σ3 H3 n3;exact⟨m',hm,σ3,H3,I3,w3⟩
  |cont=>
   obtain⟨σ3,H3,I3,n3⟩:=q3;obtain⟨m',hm,w3⟩:=hN σ3 H3 n3;exact⟨m',hm,σ3,H3,I3,w3⟩
  |brk=>exact q3
  |ret v=>exact q3
 |false=>
  rw[VA VI];exact XM ⟨σ1,H2,I2,q2⟩
end
structure It where
 go:Nat->Hp->Prop
 O5:Nat->Hp->V->Hp->Prop
 stop:Nat->Hp->Prop
def rK(X:Cx)(ag:_Q)(H:Hp)(b:_Z):Prop:=
 H b=none/\b≠X.env.locals/\b ∉ X.fs/\(b∈X.ex\/X.s₀.heap.objs.size<=b)/\(∀x c,X.env.cells.lookup x=some c->c≠b)/\∀p∈X.pn++ag,p.1≠b
theorem aM.C6{X:Cx}{σ:St}{H H':Hp}{s:_Y}{b:_Z}(I:aM X ag σ H s)(hb:s.heap.objs.size<=b)(hn:H' b=none):rK X ag H' b:=by
 refine⟨hn,Xe (VE I.lt hb),I.S5 hb,.inr (Vx I.sz hb),fun x c e z=>?_,fun p hp z=>?_⟩
 .obtain⟨v,q⟩:=I.cell x c e;exact absurd (VE q.lt (by rw[z];exact hb)) (Wc _)
 .exact absurd (VE (Vz (I.pin p hp).1) (by rw[z];exact hb)) (Wc _)
structure Turn(P:_1)(w:World)(K:_R)(tg:Expr)(J:It)(fp:_V)(it:_Z)(tn:Nat->Heap->Prop):Prop where
 mem:it∈fp
 obj:∀i h,tn i h->∀b∈fp,∃o,h.get? b=some o/\∀v,o.data≠.cell v
 keep:∀i h h',tn i h->(∀b∈fp,∀o,h.get? b=some o->h'.get? b=some o)->tn i h'
 item:∀(X:Cx),X.prog=P->X.w=w->X.K=K->X.calm=true->∀(i:Nat)(ag:_Q)(s:_Y)(σ:St)(H:Hp)(E:_O),aM X ag σ H s->(∀b∈fp,rK X ag H b)->tn i s.heap->J.go i H ->
  wpAny (model P w) X.A (pyNext (.ref it)) (fun r s1=>∃u,r=some u /\
   wpAny (model P w) X.A (letOwnedTupleGo tg (.ref it) u) (fun _ s2=>∃x H',aM X ag σ H' s2/\bo x u/\J.O5 i H x H'/\tn (i+1) s2.heap/\∀b∈fp,H' b=none) E s1) E s
 done:∀(X:Cx),X.prog=P->X.w=w->X.K=K->X.calm=true->∀(i:Nat)(ag:_Q)(s:_Y)(σ:St)(H:Hp)(E:_O),aM X ag σ H s->(∀b∈fp,rK X ag H b)->tn i s.heap->J.stop i H ->
  wpAny (model P w) X.A (pyNext (.ref it)) (fun r s1=>r=none/\aM X ag σ H s1) E s
 self:∀(A:_0)(i:Nat)(s:_Y)(Q:_O)(E:_O),tn i s.heap->Q (.ref it) s->wpAny (model P w) A (pyIter (.ref it)) Q E s
abbrev TI:=St->Hp->(It->Hp->Prop)->Prop
def Tn(X:Cx)(ag:_Q)(σ:St)(tg:Expr)(R:It->Hp->Prop)(RT:_X)(s2:_Y):Prop:=
 ∃(it:_Z)(fp:_V)(tn:Nat->Heap->Prop)(J:It)(H':Hp),RT=.ref it/\aM X ag σ H' s2/\Turn X.prog X.w X.K tg J fp it tn/\tn 0 s2.heap/\(∀b∈fp,rK X ag H' b)/\R J H'
def PI(X:Cx)(tg iter:Expr)(wi:TI):Prop:=
 ∀(ag:_Q)(s:_Y)(σ:St)(H:Hp)(R:It->Hp->Prop),aM X ag σ H s->wi σ H R ->
  wpAny (model X.prog X.w) X.A (eval iter X.env) (fun v s1=>wpAny (model X.prog X.w) X.A (pyIter v) (Tn X ag σ tg R) X.xe s1) X.xe s
theorem z8{M:Model}{A:_0}{E:_O}{s:_Y}{it:_Z}{u:_X}{o:Obj}{n:String}{vs:Array _X}{Q:Unit->_Y->Prop}(ho:s.heap.get? it=some o)(hc:o.cls=.type n)(hd:o.data=.fields vs)(hn:["enumerate","zip","dict_itemiterator","dict_reverseitemiterator","odict_iterator","itertools.zip_longest","itertools.pairwise"].contains n=false)(hQ:Q () s):wpAny M A (letOwnedTupleGo tg (.ref it) u) Q E s:=by
  unfold letOwnedTupleGo;cases tg<;>first
    |exact Vq hQ
    |(cases u<;>first
        |exact Vq hQ
        | (refine Vl (wpAny_load ho ?_)
           rw[hc,hd];show wpAny M A (if(["enumerate","zip","dict_itemiterator","dict_reverseitemiterator","odict_iterator","itertools.zip_longest","itertools.pairwise"].contains n&&vs[0]?==some (rawInt _))=true then _ else _) Q E s;rw[VA (by intro h;rw[hn,YA]at h;cases h)];exact Vq hQ))
def To(K:_R)(a:_Z):It:=
 ⟨fun i H=>∃xs x,nr K H a xs/\xs[i]?=some x,fun i H x H'=>H'=H/\∀xs,nr K H a xs->xs[i]?=some x,fun i H=>∃xs,nr K H a xs/\xs.length<=i⟩
def Tp(K:_R)(a:_Z):It:=
 ⟨fun i H=>∃xs x,jB K H a xs/\xs[i]?=some x,fun i H x H'=>H'=H/\∀xs,jB K H a xs->xs[i]?=some x,fun i H=>∃xs,jB K H a xs/\xs.length<=i⟩
def RU(lo:Int)(n:Nat):It:=⟨fun i _=>i<n,fun i H x H'=>H'=H/\x=.int (lo+i),fun i _=>n<=i⟩
theorem Bh{w:World}{K:_R}(a it:_Z):Turn P w K tg (To K a) [it] it (fun i h=>h.IsListIter it a i) where
 mem:=by simp
 obj:=fun i h st b hb=>by
  have e:b=it:=by simpa using hb
  subst e;obtain⟨o,e,c,d⟩:=st;exact⟨o,e,fun v z=>by rw[d]at z;cases z⟩
 keep:=fun i h h' st k=>st.at fun o e=>k it (by simp) o e
 item:=by intro X hP hw hK hc i ag s σ H E I hf st hg;subst hP hw hK;obtain⟨xs,x,hq,hx⟩:=hg;obtain⟨aF,rv,p,hz⟩:=I.list hq;obtain⟨u,hu,ru⟩:=rv.get hx;obtain⟨f0,f1,f2,f3,f4,f5⟩:=hf it (by simp);refine _t st p.isList (x:=u) (by simpa using hu) fun h' av sb=>?_;have I1:aM X ag σ H {s with heap:=h'}:=I.turned (t':=s.toks) (fun b o hb e=>(sb.2 b hb).trans e) f0 f1 f3 f4 f5;obtain⟨o,e,c,d⟩:=id av;exact⟨u,rfl,z8 (s:={s with heap:=h'}) e c d (by decide) ⟨x,H,I1,ru,⟨rfl,fun ys hy=>by rw[I.pO hy hq];exact hx⟩,av,fun b hb=>(hf b hb).1⟩⟩
 done:=by intro X hP hw hK hc i ag s σ H E I hf st hg;subst hP hw hK;obtain⟨xs,hq,hx⟩:=hg;obtain⟨aF,rv,p,hz⟩:=I.list hq;obtain⟨f0,f1,f2,f3,f4,f5⟩:=hf it (by simp);have hl:=rv.length;exact _D (I.ok.hd hc) st p.isList (by simp;lia) fun h' eb=>⟨rfl,I.turned (t':=s.toks) (fun b o hb e=>eb b o hb e) f0 f1 f3 f4 f5⟩
 self:=fun _ _ _ _ _ st h=>wpAny_pyIter_listiter st h
theorem yb{w:World}{K:_R}(a it:_Z):Turn P w K tg (Tp K a) [it] it (fun i h=>h.IsTupleIter it a i) where
 mem:=by simp
 obj:=fun i h st b hb=>by
  have e:b=it:=by simpa using hb
  subst e;obtain⟨o,e,c,d⟩:=st;exact⟨o,e,fun v z=>by rw[d]at z;cases z⟩
 keep:=fun i h h' st k=>st.at fun o e=>k it (by simp) o e
 item:=by intro X hP hw hK hc i ag s σ H E I hf st hg;subst hP hw hK;obtain⟨xs,x,hq,hx⟩:=hg;obtain⟨aF,rv,p,hz⟩:=I.tuple hq;obtain⟨u,hu,ru⟩:=rv.get hx;obtain⟨f0,f1,f2,f3,f4,f5⟩:=hf it (by simp);refine wpAny_pyNext_tuple_item st (show s.heap.IsTuple a aF.toArray from p) (x:=u) (by simpa using hu) fun h' av sb=>?_;have I1:aM X ag σ H {s with heap:=h'}:=I.turned (t':=s.toks) (fun b o hb e=>(sb.2 b hb).trans e) f0 f1 f3 f4 f5;obtain⟨o,e,c,d⟩:=id av;exact⟨u,rfl,z8 (s:={s with heap:=h'}) e c d (by decide) ⟨x,H,I1,ru,⟨rfl,fun ys hy=>by rw[I.ny hy hq];exact hx⟩,av,fun b hb=>(hf b hb).1⟩⟩
 done:=by intro X hP hw hK hc i ag s σ H E I hf st hg;subst hP hw hK;obtain⟨xs,hq,hx⟩:=hg;obtain⟨aF,rv,p,hz⟩:=I.tuple hq;obtain⟨f0,f1,f2,f3,f4,f5⟩:=hf it (by simp);have hl:=rv.length;exact wpAny_pyNext_tuple_end (I.ok.hd hc) st (show s.heap.IsTuple a aF.toArray from p) (by simp;lia) fun h' eb=>⟨rfl,I.turned (t':=s.toks) (fun b o hb e=>eb b o hb e) f0 f1 f3 f4 f5⟩
 self:=fun _ _ _ _ _ st h=>wpAny_pyIter_tupleiter st h
theorem yc{w:World}{K:_R}(it:_Z)(lo:Int)(n:Nat):Turn P w K tg (RU lo n) [it] it (fun i h=>IsRangeIter h it (lo+(i:Nat)*1) ((n:Int)-(i:Nat)) 1) where
 mem:=by simp
 obj:=fun i h st b hb=>by
  have e:b=it:=by simpa using hb
  subst e;exact⟨_,st,fun v z=>by
   have z':Data.fields _=Data.cell v:=z;cases z'⟩
 keep:=fun i h h' st k=>k it (by simp) _ st
 item:=by intro X hP hw hK hc i ag s σ H E I hf st hg;subst hP hw hK;obtain⟨f0,f1,f2,f3,f4,f5⟩:=hf it (by simp);have W:=Walks.range (prog:=X.prog) (w:=X.w) (I.ok.hd hc) it lo 1 n;refine W.item i s _ _ hg st fun v h' tk hv av kk=>?_;obtain⟨t,rfl⟩:=hv;have I1:aM X ag σ H {s with heap:=h',toks:=tk}:=I.turned (fun b o hb e=>kk b o (by simpa using hb) e) f0 f1 f3 f4 f5;refine⟨_,rfl,z8 (s:={s with heap:=h',toks:=tk}) (n:="range_iterator") av rfl rfl (by decide) ⟨.int (lo+i),H,I1,⟨t,?_⟩,⟨rfl,rfl⟩,av,fun b hb=>(hf b hb).1⟩⟩;rw[Int.mul_one]
 done:=by intro X hP hw hK hc i ag s σ H E I hf st hg;subst hP hw hK;obtain⟨f0,f1,f2,f3,f4,f5⟩:=hf it (by simp);exact _s (I.ok.hd hc) st (by have:n<=i:=hg;lia) fun h' eb=>⟨rfl,I.turned (t':=s.toks) (fun b o hb e=>eb b o hb e) f0 f1 f3 f4 f5⟩
 self:=fun _ _ _ _ _ st h=>_u st h
section
variable{X:Cx}
theorem C7{σ:St}{H:Hp}{s:_Y}{R:It->Hp->Prop}{E:_O}{lo hi:Int}{t u v:Tok}{tk:Nat}(I:aM X ag σ H s)(h1:-(2 ^ 62)<=lo)(h2:lo<2 ^ 62)(h3:-(2 ^ 62)<=hi)(h4:hi<2 ^ 62)(q:R (RU lo (hi-lo).toNat) H):wpAny (model X.prog X.w) X.A (pyIter (.ref s.heap.objs.size)) (Tn X ag σ tg R) E {s with heap:=s.heap.push {cls:=.type "range",data:=.fields #[.int lo t,.int hi u,.int 1 v]},toks:=tk}:=by
 refine wpAny_pyIter_range (IsRange.new ..) (small_one h1 h2 h3 h4) ?_;have I1:aM X ag σ H {s with heap:=s.heap.push {cls:=.type "range",data:=.fields #[.int lo t,.int hi u,.int 1 v]},toks:=tk}:=I.kept fun b o e=>Vn _ e;refine⟨(s.heap.push {cls:=.type "range",data:=.fields #[.int lo t,.int hi u,.int 1 v]}).objs.size,[(s.heap.push {cls:=.type "range",data:=.fields #[.int lo t,.int hi u,.int 1 v]}).objs.size],_,_,H,rfl,
  I1.kept (t':=tk) fun b o e=>Vn _ e,yc _ lo (hi-lo).toNat,?_,fun b hb=>?_,q⟩
 .have e1:lo+((0:Nat):Int)*1=lo:=by simp
  have e2:(((hi-lo).toNat:Nat):Int)-((0:Nat):Int)=Builtin.Range.rangeSize lo hi 1:=by rw[rangeSize_one];split<;>lia
  show IsRangeIter _ _ (lo+((0:Nat):Int)*1) ((((hi-lo).toNat:Nat):Int)-((0:Nat):Int)) 1;rw[e1,e2];exact VJ _ rfl
 .have e:b=(s.heap.push {cls:=.type "range",data:=.fields #[.int lo t,.int hi u,.int 1 v]}).objs.size:=by simpa using hb
  subst e;exact I1.C6 (Vo _) (I1.bN.fresh (Vo _))
def O6(ta:TA):TI:=fun σ H R=>ta σ H fun vs H1=>∃j:Int,vs=[.int j]/\-(2 ^ 62)<=j/\j<2 ^ 62/\R (RU 0 j.toNat) H1
theorem Bi{a:Expr}{ta:TA}{p:Pos}(hg:Gl X "range")(hm:X.mg "range" = none)(ha:PA X [a] ta)(hs:starEach [a] X.env=[(false,eval a X.env)]:=by rfl):PI X tg (.Call (.Name "range" p) [a] [] pos) (O6 ta):=by
 intro ag s σ H R I h;refine Call_ (kN I hg hm boot_range (Xn (df (ha pos ag s σ H _ I h) fun us s1⟨vs,H1,I1,r1,q1⟩=>?_) hs rfl));obtain⟨j,e,q1,q2,q⟩:=q1;subst e;cases r1 with
 |cons r rr=>
  cases rr;obtain⟨t,rfl⟩:=r;exact call_range_1 (C7 I1 (by lia) (by lia) q1 q2 (by simpa using q))
def Tq(wi:TI)(g:TG)(tb:TS):TS:=fun D σ H=>wi σ H fun J H1=>∃W:Nat->Nat->St->Hp->Prop,(∃m,W 0 m σ H1)/\∀i m σ H,W i m σ H ->
 (J.stop i H/\D.nx σ H)\/(J.go i H/\∃N:St->Hp->Prop,(∀σ' H',N σ' H'->∃m',m'<m/\W (i+1) m' σ' H')/\∀x H',J.O5 i H x H'->g x σ H' fun σ2 H2=>tb {D with nx:=N,ct:=N,bk:=D.nx} σ2 H2)
def pQ(fp:_V)(h:Heap):_Q:=fp.filterMap fun b=>(h.get? b).map fun o=>(b,o)
theorem iV{b:_Z}{o:Obj}(hb:b∈fp)(e:h.get? b=some o):(b,o)∈pQ fp h:=ZT.mpr ⟨b,hb,by rw[e];rfl⟩
theorem Bj{p:_Z×Obj}(hp:p∈pQ fp h):p.1∈fp/\h.get? p.1=some p.2:=by
 obtain⟨b,hb,e⟩:=ZT.mp hp;cases q:h.get? b with
 |none=>rw[q]at e;cases e
 |some o=>
  rw[q]at e;have e':(b,o)=p:=VP e;subst e';exact⟨hb,q⟩
theorem aM.pinned{σ:St}{H:Hp}{s:_Y}(I:aM X ag σ H s)(hf:∀b∈fp,rK X ag H b)(ho:∀b∈fp,∃o,s.heap.get? b=some o/\∀v,o.data≠.cell v):aM X (ag++pQ fp s.heap) σ H s:=
 I.pz fun p hp=>(Wb.mp hp).elim (fun z=>I.pin p (V! _ z)) fun z=>by obtain⟨hb,e⟩:=Bj z;obtain⟨f0,f1,f2,_⟩:=hf p.1 hb;obtain⟨o,e',d⟩:=ho p.1 hb;rw[e]at e';cases e';exact⟨e,f0,f1,f2,d⟩
theorem aM.pS{pl:_Q}{σ:St}{H:Hp}{s:_Y}(I:aM X (ag++pl) σ H s):aM X ag σ H s:=I.pz fun p hp=>I.pin p (V! _ (WU _ hp))
theorem K8{body:List Stmt}{wi:TI}{g:TG}{tb:TS}(hp:PassesOwn (model X.prog X.w) X.A X.env X.xe)(hc:X.calm=true)(hi:PI X tg iter wi)(hg:PG X tg g)(hb:i' X body tb)(hs:∀x,foldedSetIterable iter X.env x=pure x:=by intro _;rfl):PS X (.For tg iter body [] pos) (Tq wi g tb):=by
 intro ag s σ H D I h;refine wpAny_For (df (hi ag s σ H _ I h) fun v s1 h1=>df h1 fun RT s2 h2=>?_) hs;obtain⟨it,fp,tn,J,H2,e,I2,T,cE,f2,W,⟨m0,w0⟩,turn⟩:=h2;subst e
 -- O7 stays true of Og K9 objects through Og loop
 have yd:∀{H':Hp},(∀b∈fp,H' b=none)->∀b∈fp,rK X ag H' b:=fun hn b hb=>⟨hn b hb,(f2 b hb).2⟩
 refine codeAny_forLoop_any (fun n s'=>∃i σ' H',aM X ag σ' H' s'/\tn i s'.heap/\(∀b∈fp,H' b=none)/\W i n σ' H') ?_ m0 ⟨0,σ,H2,I2,cE,fun b hb=>(f2 b hb).1,w0⟩;rintro n s3 ⟨i,σ3,H3,I3,jE,O8,w3⟩;rcases turn i n σ3 H3 w3 with⟨stop,qn⟩|⟨go,N,hN,step⟩
 .refine Xq hp (df (T.done X rfl rfl rfl hc i ag s3 σ3 H3 X.xe I3 (yd O8) jE stop) fun r s4⟨hr,I4⟩=>?_);subst hr;exact XM ⟨σ3,H3,I4,qn⟩
 .refine Xq hp (df (T.item X rfl rfl rfl hc i ag s3 σ3 H3 X.xe I3 (yd O8) jE go) fun r s4⟨u,hr,h4⟩=>?_);subst hr;refine Xq hp (df h4 fun _ s5⟨x,H5,I5,r5,y5,K_,Tr⟩=>?_);have Ts:=I5.pinned (yd Tr) (T.obj _ _ K_);refine Xq hp (df (hg _ s5 σ3 H5 x u _ Ts r5 (step x H5 y5)) fun _ s6⟨σ6,H6,I6,q6⟩=>?_);refine Xq hp (df (hb _ s6 σ6 H6 _ I6 q6) fun f s7 q7=>?_);have again:∀{σ7:St}{H7:Hp},aM X (ag++pQ fp s5.heap) σ7 H7 s7->N σ7 H7->∃m,m<n/\∃i σ' H',aM X ag σ' H' s7/\tn i s7.heap/\(∀b∈fp,H' b=none)/\W i m σ' H':=fun{σ7 H7}I7 n7=>by obtain⟨m',hm,w7⟩:=hN σ7 H7 n7;refine⟨m',hm,i+1,σ7,H7,I7.pS,T.keep _ _ _ K_ fun b hb o e=>(I7.pin (b,o) (V! _ (V! _ (iV hb e)))).1,fun b hb=>?_,w7⟩;obtain⟨o,e,d⟩:=T.obj _ _ K_ b hb;exact(I7.pin (b,o) (V! _ (V! _ (iV hb e)))).2.1
  cases f with
  |next=>obtain⟨σ7,H7,I7,n7⟩:=q7;exact again I7 n7
  |cont=>obtain⟨σ7,H7,I7,n7⟩:=q7;exact again I7 n7
  |brk=>obtain⟨σ7,H7,I7,q7⟩:=q7;exact⟨σ7,H7,I7.pS,q7⟩
  |ret v=>obtain⟨x7,σ7,H7,I7,r7,q7⟩:=q7;exact⟨x7,σ7,H7,I7.pS,r7,q7⟩
end
abbrev R2:=V->V->Hp->VK->Prop
def dq(X:Cx)(f:_X->_X->Sem _X)(r:R2):Prop:=
 ∀(ag:_Q)(s:_Y)(σ:St)(H:Hp)(x y:V)(v u:_X)(Q:VK),aM X ag σ H s->bo x v->bo y u->r x y H Q ->
  wpAny (model X.prog X.w) X.A (f v u) (EP X ag σ Q) X.xe s
def Tt(X:Cx)(f:_X->Sem _X)(r:V->Hp->VK->Prop):Prop:=
 ∀(ag:_Q)(s:_Y)(σ:St)(H:Hp)(x:V)(v:_X)(Q:VK),aM X ag σ H s->bo x v->r x H Q ->
  wpAny (model X.prog X.w) X.A (f v) (EP X ag σ Q) X.xe s
def cm(X:Cx)(f:_X)(r:List V->Hp->VK->Prop):Prop:=
 ∀(ag:_Q)(s:_Y)(σ:St)(H:Hp)(xs:List V)(us:_T)(Q:VK),aM X ag σ H s->bf xs us->r xs H Q ->
  wpAny (model X.prog X.w) X.A (call f us) (EP X ag σ Q) X.xe s
def Oi(r:R2)(ta tb:TE):TE:=fun σ H Q=>ta σ H fun x H1=>tb σ H1 fun y H2=>r x y H2 Q
def tUn(r:V->Hp->VK->Prop)(ta:TE):TE:=fun σ H Q=>ta σ H fun x H1=>r x H1 Q
def rI(C:Int->Int->Prop)(g:Int->Int->V):R2:=fun x y H Q=>∃i j,x=.int i/\y=.int j/\C i j/\Q (g i j) H
def Gk(g:Int->Int->V):R2:=fun x y H Q=>∃i j,x=.int i/\y=.int j/\Q (g i j) H
def rU(g:Int->V):V->Hp->VK->Prop:=fun x H Q=>∃i,x=.int i/\Q (g i) H
section
variable{X:Cx}{a b c:Expr}{ta tb tc:TE}
theorem K!(ha:PE X a ta)(hb:PE X b tb){s:_Y}{σ:St}{H:Hp}{R:V->V->Hp->Prop}(I:aM X ag σ H s)(h:ta σ H fun x H1=>tb σ H1 fun y H2=>R x y H2){f:_X->_X->Sem _X}(hf:∀v u s2 x y H2,aM X ag σ H2 s2->bo x v->bo y u->R x y H2->wpAny (model X.prog X.w) X.A (f v u) Q X.xe s2):
  wpAny (model X.prog X.w) X.A (eval a X.env) (fun v s₁=>wpAny (model X.prog X.w) X.A (eval b X.env) (fun u s₂=>wpAny (model X.prog X.w) X.A (f v u) Q X.xe s₂) X.xe s₁) X.xe s:=by
 refine df (ha ag s σ H _ I h) fun v s1⟨x,H1,I1,r1,q1⟩=>?_;refine df (hb ag s1 σ H1 _ I1 q1) fun u s2⟨y,H2,I2,r2,q2⟩=>?_;exact hf v u s2 x y H2 I2 r1 r2 q2
theorem O9{op:Operator}{r:R2}(ho:dq X (binaryOp op) r)(ha:PE X a ta)(hb:PE X b tb):PE X (.BinOp a op b pos) (Oi r ta tb):=by intro ag s σ H Q I h;exact wpAny_BinOp (K! ha hb I h fun v u s2 x y H2 I2 rx ry q=>ho ag s2 σ H2 x y v u Q I2 rx ry q)
theorem O_{op:UnaryOp}{r:V->Hp->VK->Prop}(ho:Tt X (unaryOp op) r)(ha:PE X a ta):PE X (.UnaryOp op a pos) (tUn r ta):=by intro ag s σ H Q I h;exact UnaryOp_ (df (ha ag s σ H _ I h) fun v s1⟨x,H1,I1,r1,q1⟩=>ho ag s1 σ H1 x v Q I1 r1 q1)
theorem Oj{f:_X->_X->Sem _X}{C:Int->Int->Prop}{g:Int->Int->Int}(rule:∀(i j:Int)(t u:Tok)(s:_Y)(Q:_O)(E:_O),C i j->Q (.int (g i j) s.toks) {s with toks:=s.toks+1}->wpAny (model X.prog X.w) X.A (f (.int i t) (.int j u)) Q E s):
  dq X f (rI C fun i j=>.int (g i j)):=by
 intro ag s σ H x y v u Q I rx ry h;obtain⟨i,j,rfl,rfl,hc,q⟩:=h;obtain⟨t,rfl⟩:=rx;obtain⟨t',rfl⟩:=ry;exact rule i j t t' s _ _ hc ⟨.int (g i j),H,I.tok _,⟨_,rfl⟩,q⟩
theorem GL{f:_X->_X->Sem _X}{g:Int->Int->Int}(rule:∀(i j:Int)(t u:Tok)(s:_Y)(Q:_O)(E:_O),Q (.int (g i j) s.toks) {s with toks:=s.toks+1}->wpAny (model X.prog X.w) X.A (f (.int i t) (.int j u)) Q E s):
  dq X f (Gk fun i j=>.int (g i j)):=by
 intro ag s σ H x y v u Q I rx ry h;obtain⟨i,j,rfl,rfl,q⟩:=h;obtain⟨t,rfl⟩:=rx;obtain⟨t',rfl⟩:=ry;exact rule i j t t' s _ _ ⟨.int (g i j),H,I.tok _,⟨_,rfl⟩,q⟩
theorem GN{f:_X->_X->Sem _X}{g:Int->Int->Bool}(rule:∀(i j:Int)(t u:Tok)(s:_Y)(Q:_O)(E:_O),Q (.bool (g i j)) s->wpAny (model X.prog X.w) X.A (f (.int i t) (.int j u)) Q E s):
  dq X f (Gk fun i j=>.bl (g i j)):=by
 intro ag s σ H x y v u Q I rx ry h;obtain⟨i,j,rfl,rfl,q⟩:=h;obtain⟨t,rfl⟩:=rx;obtain⟨t',rfl⟩:=ry;exact rule i j t t' s _ _ ⟨.bl (g i j),H,I,rfl,q⟩
def C8(i j:Int):Prop:=0<=j/\j<=1000000/\i.natAbs<2 ^ 64
def C9(i j:Int):Prop:=(-(2 ^ 64)<i/\i<2 ^ 64)\/(-(2 ^ 64)<j/\j<2 ^ 64)
theorem C9.ok{i j:Int}(h:C9 i j):IntMulOk i j:=by
 rcases h with⟨h1,h2⟩|⟨h1,h2⟩
 .exact .of_left (intBits_le_64 h1 h2)
 .exact .of_right (intBits_le_64 h1 h2)
theorem ye(k:Nat):(0:Int)<=2 ^ k:=by rw[two_pow_cast];exact XE _
theorem K?:dq X (binaryOp .Add) (Gk fun i j=>.int (i+j)):=GL fun _ _ _ _ _ _ _ q=>add_int q
theorem K':dq X (binaryOp .Sub) (Gk fun i j=>.int (i-j)):=GL fun _ _ _ _ _ _ _ q=>sub_int q
theorem La:dq X (binaryOp .Mult) (rI C9 fun i j=>.int (i*j)):=Oj fun _ _ _ _ _ _ _ hc q=>mul_int q hc.ok
theorem GO:dq X (binaryOp .Mod) (rI (fun _ j=>j≠0) fun i j=>.int (i.fmod j)):=Oj fun _ _ _ _ _ _ _ hc q=>mod_int' hc q
theorem Lb:dq X (binaryOp .Pow) (rI C8 fun i j=>.int (i ^ j.toNat)):=Oj fun _ _ _ _ _ _ _ hc q=>pow_int_small hc.1 hc.2.1 hc.2.2 q
theorem Lc:dq X (binaryOp .RShift) (rI (fun _ j=>0<=j) fun i j=>.int (i / 2 ^ j.toNat)):=Oj fun i j _ _ _ _ _ hc q=>
 rshift_int hc (by rw[Int.fdiv_eq_ediv_of_nonneg i (ye _)];exact q)
theorem Ld:dq X (binaryOp .BitAnd) (Gk fun i j=>.int (Builtin.bitAnd i j)):=GL fun _ _ _ _ _ _ _ q=>and_int q
theorem GP:dq X (inplaceOp .Sub) (Gk fun i j=>.int (i-j)):=GL fun _ _ _ _ _ _ _ q=>isub_int q
theorem unI{f:_X->Sem _X}{g:Int->Int}(rule:∀(i:Int)(t:Tok)(s:_Y)(Q:_O)(E:_O),Q (.int (g i) s.toks) {s with toks:=s.toks+1}->wpAny (model X.prog X.w) X.A (f (.int i t)) Q E s):
  Tt X f (rU fun i=>.int (g i)):=by
 intro ag s σ H x v Q I rx h;obtain⟨i,rfl,q⟩:=h;obtain⟨t,rfl⟩:=rx;exact rule i t s _ _ ⟨.int (g i),H,I.tok _,⟨_,rfl⟩,q⟩
theorem Le:Tt X (unaryOp .USub) (rU fun i=>.int (-i)):=unI fun _ _ _ _ _ q=>neg_int q
end
section
variable{X:Cx}{a b c:Expr}{ta tb tc:TE}
theorem Lf{σ:St}{H:Hp}{s:_Y}{Q:VK}{k k':Bool}(I:aM X ag σ H s)(q:Q (.bl k) H)(e:k=k'):EP X ag σ Q (.bool k') s:=by subst e;exact⟨.bl k,H,I,rfl,q⟩
theorem O!:dq X (compareOp .Lt) (Gk fun i j=>.bl (decide (i<j))):=GN fun _ _ _ _ _ _ _ q=>lt_int q
theorem O?:dq X (compareOp .LtE) (Gk fun i j=>.bl (decide (i<=j))):=GN fun _ _ _ _ _ _ _ q=>le_int q
theorem O':dq X (compareOp .Gt) (Gk fun i j=>.bl (decide (j<i))):=GN fun _ _ _ _ _ _ _ q=>gt_int q
theorem Pa:dq X (compareOp .GtE) (Gk fun i j=>.bl (decide (j<=i))):=GN fun _ _ _ _ _ _ _ q=>ge_int q
theorem GQ:dq X (compareOp .IsNot) (fun x y H Q=>y=.dc/\Q (.bl (!decide (x=.dc))) H):=by
 intro ag s σ H x y v u Q I rx ry h;obtain⟨rfl,q⟩:=h;cases ry;refine isnot_none_gen (Lf I q ?_);cases x<;>first
  |(cases rx;rfl)
  |(obtain⟨t,rfl⟩:=rx;rfl)
theorem dq.or{f:_X->_X->Sem _X}{r r':R2}(h:dq X f r)(h':dq X f r'):dq X f (fun x y H Q=>r x y H Q\/r' x y H Q):=by
 intro ag s σ H x y v u Q I rx ry q;rcases q with q|q
 .exact h ag s σ H x y v u Q I rx ry q
 .exact h' ag s σ H x y v u Q I rx ry q
theorem C_(b:Expr)(h:op≠.In:=by decide)(h2:op≠.NotIn:=by decide):behindInMarks op b=false:=by
 have e1:(op==CmpOp.In)=false:=by cases op<;>first|rfl|exact absurd rfl h
 have e2:(op==CmpOp.NotIn)=false:=by cases op<;>first|rfl|exact absurd rfl h2
 cases b<;>simp[behindInMarks,e1,e2]
theorem GR{r:R2}(ho:dq X (compareOp op) r)(ha:PE X a ta)(hb:PE X b tb)(hm:behindInMarks op b=false):PE X (.Compare a [op] [b] pos) (Oi r ta tb):=by intro ag s σ H Q I h;exact wpAny_Compare1 (K! ha hb I h fun v u s2 x y H2 I2 rx ry q=>ho ag s2 σ H2 x y v u Q I2 rx ry q) hm
def Pb(t:TE):TT:=fun σ H Q=>t σ H fun x H'=>∃k,x=.bl k/\Q k H'
theorem GS{r:R2}(ho:dq X (compareOp op) r)(ha:PE X a ta)(hb:PE X b tb)(hm:behindInMarks op b=false):PT X (.Compare a [op] [b] pos) (Pb (Oi r ta tb)):=by
 intro ag s σ H Q I h;refine wpAny_isTrue_Compare1 (df (ha ag s σ H _ I h) fun v s1⟨x,H1,I1,r1,q1⟩=>df (hb ag s1 σ H1 _ I1 q1) fun u s2⟨y,H2,I2,r2,q2⟩=>
  df (ho ag s2 σ H2 x y v u _ I2 r1 r2 q2) fun c s3⟨z,H3,I3,r3,k,e,q3⟩=>?_) hm
 subst e;cases r3;exact W8 ⟨H3,I3,q3⟩
def C!(r r':R2)(ta tb tc:TE):TE:=fun σ H Q=>ta σ H fun x H1=>tb σ H1 fun y H2=>r x y H2 fun z H3=>∃k,z=.bl k /\
 (if k=true then tc σ H3 fun w' H4=>r' y w' H4 Q else Q (.bl false) H3)
theorem C?{Lg:CmpOp}{r r':R2}(ho:dq X (compareOp op) r)(lS:dq X (compareOp Lg) r')(ha:PE X a ta)(hb:PE X b tb)(hc:PE X c tc)(hm:lastMarks [op,Lg] [b,c]=false:=by with_unfolding_all rfl):PE X (.Compare a [op,Lg] [b,c] pos) (C! r r' ta tb tc):=by
 intro ag s σ H Q I h;refine Compare_chain (df (ha ag s σ H _ I h) fun v s1⟨x,H1,I1,r1,q1⟩=>chain_link (df (hb ag s1 σ H1 _ I1 q1) fun u s2⟨y,H2,I2,r2,q2⟩=>
  df (ho ag s2 σ H2 x y v u _ I2 r1 r2 q2) fun d s3⟨z,H3,I3,r3,k,e,q3⟩=>?_)) hm
 subst e;cases r3;refine W8 ?_;cases k with
 |false=>exact ite_ff ⟨.bl false,H3,I3,rfl,q3⟩
 |true=>exact ite_tt (chain_last (df (hc ag s3 σ H3 _ I3 q3) fun w' s4⟨z',H4,I4,r4,q4⟩=>lS ag s4 σ H4 y z' u w' Q I4 r2 r4 q4))
theorem pT:(sizeLine:Nat)<2 ^ 63:=by rw[VT];decide
theorem yf:dq X (binaryOp .Add) (fun x y H Q=>∃i j,x=.str i/\y=.str j/\i.length+j.length<=sizeLine/\Q (.str (i++j)) H):=by intro ag s σ H x y v u Q I rx ry h;obtain⟨i,j,rfl,rfl,hz,q⟩:=h;obtain⟨t,rfl⟩:=rx;obtain⟨t',rfl⟩:=ry;exact add_str (fun t' tk=>⟨.str (i++j),H,I.tok _,⟨_,rfl⟩,q⟩) hz
theorem vals1{x:V}{us:_T}(r:bf [x] us):∃u,us=[u]/\bo x u:=by
 cases r with
 |cons r1 r2=>cases r2;exact⟨_,rfl,r1⟩
theorem vals2{x y:V}{us:_T}(r:bf [x,y] us):∃u w',us=[u,w']/\bo x u/\bo y w':=by
 cases r with
 |cons r1 r2=>
  cases r2 with
  |cons r3 r4=>cases r4;exact⟨_,_,rfl,r1,r3⟩
end
structure Lh(h:Heap)(x dx C:_Z)(mA:_P):Prop where
 obj:h.get? x=some (W.instObj C dx)
 ns:h.Ns1 dx mA
 ne:dx≠x
theorem Bk(n:h.Ns1 dx mA):∃od,h.get? dx=some od/\∀name,W.lookIn name od=some (mA name):=by
 obtain⟨o,es,ep,ho,hd,hk,_,hm⟩:=n;refine⟨o,ho,fun name=>?_⟩;have e:=hm name;unfold nsFind findBy at e;rw[<-Array.find?_toList]at e;unfold W.lookIn;rw[hd];dsimp only;split
 .rename_i y q;rw[q]at e;exact Xg some e
 .rename_i q;rw[q]at e;have a:es.toList.any (·.refKey)=false:=by rw[List.any_eq_false];intro y hy;obtain⟨z,t,Tu⟩:=hk y (VX.mp hy);simp[DictEntry.refKey,Tu]
  have a':¬ es.toList.any (·.refKey)=true:=by rw[a];exact VI
  rw[VA a'];exact Xg some e
theorem Lh.look{x:_Z}(I:Lh h x dx C mA):∃od,W.InstAt h x (W.instObj C dx) C (some od)/\∀name,W.lookIn name od=some (mA name):=
 let⟨od,ho,hl⟩:=Bk I.ns
 ⟨od,⟨I.obj,rfl,rfl,ho⟩,hl⟩
section
variable{prog:_1}{w:World}{A:_0}{E:_O}{s:_Y}{K:_R}{x:_Z}{v:_X}
end
theorem nu.some_of{v:V}{o:_U}(r:nu (some v) o):∃u,o=some u/\bo v u:=by
 cases o with
 |none=>exact(show False from r).elim
 |some u=>exact⟨u,rfl,r⟩
section
variable{w:World}{H H':Hp}{a:_Z}{fs fs':List (Str×V)}
theorem GU(bN:il P w H h)(e:H a=some (.ins C dx fs)):∃mA,Lh h a dx C mA/\(∀f,nu (fs.lookup f) (mA f))/\PySem.Within mA (fs.map (·.1))/\fs.length<=1000/\H dx=some (.own a):=by
 obtain⟨d,z,ne,ob,mA,n,r,q⟩:=(show ck P w H h a (.ins C dx fs)from bN a _ e)
 exact⟨mA,⟨ob,n,ne⟩,r,q,z,d⟩
end
structure Tv(K:_R)(C:_Z):Prop where
 pg:W.plainGet K C Str.empty=true
 hd:W.hasDictIn K C=true
 po:W.plainOver K C=true
 sa:W.findIn K (.ref C) "__setattr__" = some (some (.builtin "object.__setattr__"))
theorem Tv.get{K:_R}(c:Tv K C)(f:Str):W.plainGet K C f=true:=c.pg
section
variable{X:Cx}{σ:St}{H:Hp}{s:_Y}{a:_Z}{fs:List (Str×V)}{f:Str}{v:V}{A:_0}{E:_O}
end
section
variable{X:Cx}{f:Str}{ta tv:TE}
end
section
variable{X:Cx}{σ:St}{H:Hp}{s:_Y}{A:_0}{E:_O}{c:_X}{b:Bool}
inductive oX(K:_R)(H:Hp):V->_X->Prop where
 |dc:oX K H .dc (.type "NoneType")
 |bl (x:Bool):oX K H (.bl x) (.type "bool")
 |int (i:Int):oX K H (.int i) (.type "int")
 |str (x:Str):oX K H (.str x) (.type "str")
 |pq (x:UInt64):oX K H (.pq x) (.type "float")
 |lst {a:_Z} {xs:List V} (e:H a=some (.lst xs)):oX K H (.ref a) (.type "list")
 |gB {a:_Z} {o:Obj} {xs:List V} (e:H a=some (.gB o (.lst xs))):oX K H (.ref a) (.type "list")
 |tup {a:_Z} {xs:List V} (e:H a=some (.tup xs)):oX K H (.ref a) (.type "tuple")
 |dK {a:_Z} {aI:List (da×V)} (e:H a=some (.dK aI)):oX K H (.ref a) (.type "dict")
 |dT {a:_Z} {aI:List (List da×V)} (e:H a=some (.dT aI)):oX K H (.ref a) (.type "dict")
 |ins {a C dx:_Z} {fs:List (Str×V)} (e:H a=some (.ins C dx fs)) (cl:Tv K C) (ha:W.findIn K (.ref C) "__class__" = some (some (.builtin "object.__class__")))
   (hn:W.specialIn K (.builtin "object.__class__") "__get__" = some (some (.builtin "getset_descriptor.__get__"))) (htk:W.takesIn K (.builtin "object.__class__")=some true)
   (hm:W.mroIn K C (.type "object")=some true):oX K H (.ref a) (.ref C)
theorem fE{x:V}{u t:_X}(I:aM X ag σ H s)(rx:bo x u)(ty:oX X.K H x t)(e:W.kitOne X.K t c=some b)(h:∀tk,Q (.bool b) {s with toks:=tk}):
  wpAny (model X.prog X.w) A (call (.builtin "isinstance") [u,c]) Q E s:=by
 cases ty with
 |dc=>cases(show u=Value.none from rx);exact Wu W.kitx_none I.nq True.intro e (fun z=>nomatch z) h
 |bl y=>cases(show u=Value.bool y from rx);exact Wu W.kitx_bool I.nq True.intro e (fun z=>nomatch z) h
 |int i=>obtain⟨t,q⟩:=(show ∃t,u=Value.int i t from rx);cases q;exact Wu W.kitx_int I.nq True.intro e (fun z=>nomatch z) h
 |str y=>obtain⟨t,q⟩:=(show ∃t,u=Value.str y t from rx);cases q;exact Wu W.kitx_str I.nq True.intro e (fun z=>nomatch z) h
 |pq y=>obtain⟨t,q⟩:=(show ∃t,u=Value.float y t from rx);cases q;exact Wu W.kitx_float I.nq True.intro e (fun z=>nomatch z) h
 | @lst a xs ea=>
  cases(show u=Value.ref a from rx);obtain⟨_,_,n,_,h1⟩:=(show ck X.prog X.w H s.heap a (.lst xs)from I.bN a _ ea)
  exact Wu _n I.nq ⟨_,h1,rfl⟩ e (fun z=>nomatch z) h
 | @gB a ob xs ea=>
  cases(show u=Value.ref a from rx);obtain⟨_,_,_,n,_,h1⟩:=(show ck X.prog X.w H s.heap a (.gB ob (.lst xs))from I.bN a _ ea)
  exact Wu _n I.nq ⟨_,h1,rfl⟩ e (fun z=>nomatch z) h
 | @tup a xs ea=>
  cases(show u=Value.ref a from rx);obtain⟨_,_,_,p⟩:=(show ck X.prog X.w H s.heap a (.tup xs)from I.bN a _ ea)
  obtain⟨o,h1,h2,_⟩:=p;exact Wu _d I.nq ⟨o,h1,h2⟩ e (fun z=>nomatch z) h
 | @dK a aI ea=>
  cases(show u=Value.ref a from rx);obtain⟨_,_,vs,_,p⟩:=(show ck X.prog X.w H s.heap a (.dK aI)from I.bN a _ ea)
  obtain⟨o,es,ep,h1,h2,_⟩:=p;exact Wu _o I.nq ⟨o,h1,h2.1⟩ e (fun z=>nomatch z) h
 | @dT a aI ea=>
  cases(show u=Value.ref a from rx);obtain⟨_,_,xs,_,o,es,ep,h1,h2,_⟩:=(show ck X.prog X.w H s.heap a (.dT aI)from I.bN a _ ea)
  exact Wu _o I.nq ⟨o,h1,h2.1⟩ e (fun z=>nomatch z) h
 | @ins a C dx fs ea cl ha hn htk hm=>
  cases(show u=Value.ref a from rx);obtain⟨mA,O,_⟩:=GU I.bN ea;obtain⟨od,J,_⟩:=O.look;exact Wu (W.kitx_own (cl.get _) cl.hd ha hn htk hm) I.nq J e (fun z=>nomatch z) h
end
structure d0(k:Nat)(A:_0):Prop where
 hd:A.handled=none
 dp:A.depth+3*k+5<recursionLimit
 un:A.units+16*k+200<cLine
theorem d0.mono{k:Nat}{A:_0}(r:d0 k A)(h:j<=k):d0 j A:=⟨r.hd,by have:=r.dp;lia,by have:=r.un;lia⟩
theorem d0.deeper{k:Nat}{A:_0}(r:d0 (k+1) A)(env:Env):d0 k (A.deeper env):=
 ⟨r.hd,by have:=r.dp;show A.depth+1+3*k+5<_;lia,by have:=r.un;show A.units+3+16*k+200<_;lia⟩
theorem d0.depth{k:Nat}{A:_0}(r:d0 k A):A.depth<recursionLimit:=by have:=r.dp;lia
theorem d0.units{k:Nat}{A:_0}(r:d0 k A):A.units+64<cLine:=by have:=r.un;lia
def Pc:TA:=fun _ H Q=>Q [] H
def JT(ta:TE)(tr:TA):TA:=fun σ H Q=>ta σ H fun x H1=>tr σ H1 fun xs H2=>Q (x::xs) H2
section
variable{X:Cx}{te:TE}{t:TA}
theorem kP:PA X [] Pc:=fun _ _ _ _ H Q I h=>Calls.spliced_nil ⟨[],H,I,.nil,h⟩
theorem fM(ha:PE X e te)(hr:PA X es t)(hs:starEach (e::es) X.env=(false,eval e X.env)::starEach es X.env:=by rfl):PA X (e::es) (JT te t):=by intro pos ag s σ H Q I h;rw[hs];show wpAny _ _ (spliced ((false,eval e X.env)::backTo pos (starEach es X.env))) _ _ s;refine Zl (df (ha ag s σ H _ I h) fun u s1⟨x,H1,I1,r1,q1⟩=>?_);exact df (hr pos ag s1 σ H1 _ I1 q1) fun us s2⟨xs,H2,I2,r2,q2⟩=>⟨x::xs,H2,I2,.cons r1 r2,q2⟩
def Tw(t:TA):TE:=fun σ H Q=>t σ H fun xs H1=>xs.length<=sizeLine/\∀p,H1 p=none->Q (.ref p) (upd H1 p (.tup xs))
def Tx(t:TA):TE:=fun σ H Q=>t σ H fun xs H1=>xs.length<=sizeLine/\∀p,H1 p=none->Q (.ref p) (upd H1 p (.lst xs))
theorem Li{x1}(h:PA X es t):PE X (.Tuple es x1 pos) (Tw t):=by intro ag s σ H Q I hq;refine wpAny_Tuple_spliced (df (h pos ag s σ H _ I hq) fun us s1⟨xs,H1,I1,r,z,q⟩=>⟨by rw[<-r.length];exact z,?_⟩);have hf:H1 s1.heap.objs.size=none:=I1.bN.fresh (Vo _);refine⟨.ref s1.heap.objs.size,upd H1 s1.heap.objs.size (.tup xs),I1.laid (t':=s1.toks) (fun b u e=>Vn _ e) (Vo _) ?_,rfl,q _ hf⟩;exact⟨z,us,r,⟨_,VJ _ rfl,rfl,_,rfl⟩⟩
theorem Lj(h:PA X es t):PE X (.List es pos) (Tx t):=by intro ag s σ H Q I hq;refine wpAny_List_spliced (df (h pos ag s σ H _ I hq) fun us s1⟨xs,H1,I1,r,z,q⟩=>⟨by rw[<-r.length];exact z,?_⟩);have hf:H1 s1.heap.objs.size=none:=I1.bN.fresh (Vo _);refine⟨.ref s1.heap.objs.size,upd H1 s1.heap.objs.size (.lst xs),I1.laid (t':=s1.toks) (fun b u e=>Vn _ e) (Vo _) ?_,rfl,q _ hf⟩;exact⟨z,us,0,r,VJ _ rfl⟩
end
abbrev Sp:=List V->Hp->VK->XK->Prop
abbrev Bl:=List Env->Hp->_Y->XK->_X->_Y->Prop
structure rL(P:_1)(w:World)(K:_R)(mg:_P)(base:Heap)(A:_0)(outer:List Env)(s:_Y)(H:Hp):Prop where
 frames:A.frames=some outer
 mod:Mod K mg base
 bs:∀b o,base.get? b=some o->s.heap.get? b=some o/\H b=none
 Bf:base.objs.size<=s.heap.objs.size
 iM:s.heap.FunFrames base outer
 x?:∀b∈gN outer,H b=none
 bN:il P w H s.heap
 bare:AllBare s.gens
def CE(outer:List Env)(P:_1)(w:World)(H:Hp)(s:_Y)(Q:VK)(u:_X)(s':_Y):Prop:=
 ∃v H',s'.os=s.os/\AllBare s'.gens/\Un (gN outer) [] H H' s.heap s'.heap/\il P w H' s'.heap/\bo v u/\Q v H'
def CR(CX:Bl)(outer:List Env)(P:_1)(w:World)(H:Hp)(s:_Y)(Q:VK)(E:XK)(r:Result)(s':_Y):Prop:=
 match r with
 |.ok (.ret u)=>CE outer P w H s Q u s'
 |.ok _=>False
 |.error e=>CX outer H s E e s'
structure ku(P:_1)(w:World)(K:_R)(mg:_P)(base:Heap)(CX:Bl)(k:Nat)(f:_Z)(fd:FuncData)(ps:_W)(sp:Sp):Prop where
 len:∀vs H Q E,sp vs H Q E->vs.length=ps.length
 run:∀(A:_0)(outer:List Env)(s:_Y)(H:Hp)(args:Args)(us:_T)(vs:List V)(Q:VK)(E:XK),d0 k A->rL P w K mg base A outer s H->BindsTo s fd args (ps.zip us)->bf vs us->sp vs H Q E ->
  codeAny (model P w) A (.call (.ref f) args) (CR CX outer P w H s Q E) s
section
variable{X:Cx}{σ:St}{H:Hp}{s s':_Y}
theorem aM.Dc(I:aM X ag σ H s):rL X.prog X.w X.K X.mg X.base X.A X.stack s H:=
 ⟨I.ok.frames,I.ok.mod,I.bs,Vx I.ok.Bf I.sz,I.stack,I.uo,I.bN,I.bare⟩
theorem aM.after{Q:VK}{u:_X}(I:aM X ag σ H s)(h:CE X.stack X.prog X.w H s Q u s'):EP X ag σ Q u s':=by obtain⟨v,H',os,bare,un,bN,r,q⟩:=h;obtain⟨hh,g,d,t,os'⟩:=s';obtain rfl:os'=s.os:=os;exact⟨v,H',I.call (h':=hh) (g':=g) (d':=d) (t':=t) (ch:=[]) un bN bare (fun b z=>absurd z (by simp)),r,q⟩
end
def Pd(sp:Sp)(GW:List V)(E:XK)(t:TA):TE:=fun σ H Q=>t σ H fun vs H1=>sp (vs++GW) H1 Q E
def Binds(K:_R)(fd:FuncData)(ps:_W)(ds:_T):Prop:=
 ∀(s:_Y)(us:_T),K.In s.heap->(us++ds).length=ps.length->BindsTo s fd ⟨us,[]⟩ (ps.zip (us++ds))
theorem Binds.all{K:_R}{ps:_W}(h:∀us:_T,us.length=ps.length->bindArgs fd ⟨us,[]⟩=pure (ps.zip us)):Binds K fd ps []:=fun s us _ hl=>by rw[VZ]at hl⊢;exact .of_eq (h us hl)
def Passes(CX:Bl)(X:Cx)(E:XK):Prop:=∀(ag:_Q)(σ:St)(H:Hp)(s:_Y)(e:_X)(s':_Y),aM X ag σ H s->CX X.stack H s E e s'->X.xe e s'
section
variable{X:Cx}{CX:Bl}{k:Nat}{ps:_W}{sp:Sp}{GW:List V}{ds:_T}{E:XK}{x m:Str}{p:Pos}{ta:TE}{t:TA}
theorem Lk{σ:St}{H:Hp}{s:_Y}{Q:VK}{us:_T}{vs:List V}(F:ku X.prog X.w X.K X.mg X.base CX k f fd ps sp)(hr:d0 k X.A)(hb:Binds X.K fd ps ds)(hd:bf GW ds)(hx:Passes CX X E)(I:aM X ag σ H s)(r:bf vs us)(h:sp (vs++GW) H Q E):wpAny (model X.prog X.w) X.A (call (.ref f) us) (EP X ag σ Q) X.xe s:=by
 have r2:bf (vs++GW) (us++ds):=r.append hd;have hl:(us++ds).length=ps.length:=by rw[<-r2.length];exact F.len _ _ _ _ h
 refine X3 (XC (F.run X.A X.stack s H ⟨us,[]⟩ (us++ds) (vs++GW) Q E hr I.Dc (hb s us I.nq hl) r2 h) fun r s' hq=>?_);cases r with
 |error e=>exact hx ag σ H s e s' I hq
 |ok fl=>
  cases fl with
  |ret u=>exact I.after hq
  |next=>exact False.elim hq
  |brk=>exact False.elim hq
  |cont=>exact False.elim hq
theorem GX(F:ku X.prog X.w X.K X.mg X.base CX k f fd ps sp)(hr:d0 k X.A)(hg:Gl X x)(hm:X.mg x=some (.ref f))(hk:W.keepIn X.K (.ref f)=true)(hb:Binds X.K fd ps ds)(hd:bf GW ds)(hx:Passes CX X E)(ha:PA X (e::es) t)(ju:(x==("__debug__":Str))=false:=by decide)(he:starEach (e::es) X.env=(false,eval e X.env)::starEach es X.env:=by rfl)(ip:(backTo pos (starEach es X.env)).any (·.1)=false:=by rfl):
  PE X (.Call (.Name x p) (e::es) [] pos) (Pd sp GW E t):=by
 intro ag s σ H Q I h;refine WY (iU I hg hm ?_ ju);refine X! (h₀:=X.base) I.ok.mod.Gz hk (df (ha pos ag s σ H _ I h) fun us s1⟨vs,H1,I1,r,q⟩=>⟨I1.nq,?_⟩) he ip;exact Lk F hr hb hd hx I1 r q
end
def PK(X:Cx)(Dd:List Keyword)(t:TA):Prop:=
 ∀(pos:Pos)(ag:_Q)(s:_Y)(σ:St)(H:Hp)(Q:List V->Hp->Prop),aM X ag σ H s->t σ H Q->wpAny (model X.prog X.w) X.A (evalAll ((backToKw pos (keywordEach Dd X.env)).map (·.2))) (AP X ag σ Q) X.xe s
section
variable{X:Cx}{CX:Bl}{k:Nat}{ps ks:_W}{sp:Sp}{E:XK}{x m:Str}{p Tz:Pos}{Dd:List Keyword}{te ta:TE}{t tk:TA}{nm:Option Str}
theorem De:PK X [] Pc:=fun _ _ _ _ H Q I h=>wpAny_evalAll_nil ⟨[],H,I,.nil,h⟩
theorem z9(ha:PE X e te)(hr:PK X Dd t):PK X (⟨nm,e,Tz⟩::Dd) (JT te t):=by intro pos ag s σ H Q I h;show wpAny _ _ (evalAll ((do let v <- eval e X.env;standAt pos;pure v)::(backToKw pos (keywordEach Dd X.env)).map (·.2))) _ _ s;refine wpAny_evalAll_cons (Vl (df (ha ag s σ H _ I h) fun u s1⟨x,H1,I1,r1,q1⟩=>Vl (Z! (Vq ?_))));exact df (hr pos ag s1 σ H1 _ I1 q1) fun us s2⟨xs,H2,I2,r2,q2⟩=>⟨x::xs,H2,I2,.cons r1 r2,q2⟩
variable{g:_T->_T->_T}{gV:List V->List V->List V}
end
structure dF(N P:_W)(sc:Scope):Prop where
 kind:sc.kind=.function
 co:sc.isCoroutine=false
 gen:sc.isGenerator=false
 nd:N.Nodup
 pre:N.take P.length=P
 par:∀x∈P,sc.names.lookup x=some .local\/sc.names.lookup x=some .cell
 Ll:∀y∈sc.names,y.2≠.free
theorem sE{kindOf:Str->Option NameKind}{x:Str}:∀{binds:List (Str×_X)}{m:_P},(∀v,(x,v) ∉ binds)->bindL kindOf binds m x=m x
 |[],_,_=>rfl
 |(n,v)::r,m,h=>by
  unfold bindL;rw[sE fun w hw=>h w (VQ _ hw)];split
  .have:x≠n:=by rintro rfl;exact h v VO
   simp[this]
  .rfl
theorem sF{kindOf:Str->Option NameKind}{x:Str}:∀{binds:List (Str×_X)}{m:_P},(∀v,(x,v) ∉ binds)->bindC kindOf binds m x=m x
 |[],_,_=>rfl
 |(n,v)::r,m,h=>by
  unfold bindC;rw[sF fun w hw=>h w (VQ _ hw)];split
  .rfl
  .have:x≠n:=by rintro rfl;exact h v VO
   simp[this]
theorem sG{kindOf:Str->Option NameKind}{x:Str}{v:_X}:∀{P:_W}{vs:_T}{i:Nat}{m:_P},P.Nodup->P[i]?=some x->vs[i]?=some v->kindOf x=some .local ->
  bindL kindOf (P.zip vs) m x=some v
 |[],_,_,_,_,h,_,_=>by simp at h
 |_::_,[],_,_,_,_,h,_=>by simp at h
 |p::P,w::vs,0,m,nd,h1,h2,hk=>by simp at h1 h2;subst h1;subst h2;show bindL kindOf ((p,w)::P.zip vs) m p=_;unfold bindL;rw[sE fun v hv=>(WB.mp nd).1 (XY hv).1,Vu hk];simp
 |p::P,w::vs,i+1,m,nd,h1,h2,hk=>by show bindL kindOf ((p,w)::P.zip vs) m x=_;unfold bindL;exact sG (i:=i) (WB.mp nd).2 (by simpa using h1) (by simpa using h2) hk
theorem sH{kindOf:Str->Option NameKind}{x:Str}{v:_X}:∀{P:_W}{vs:_T}{i:Nat}{m:_P},P.Nodup->P[i]?=some x->vs[i]?=some v->kindOf x≠some .local ->
  bindC kindOf (P.zip vs) m x=some v
 |[],_,_,_,_,h,_,_=>by simp at h
 |_::_,[],_,_,_,_,h,_=>by simp at h
 |p::P,w::vs,0,m,nd,h1,h2,hk=>by simp at h1 h2;subst h1;subst h2;show bindC kindOf ((p,w)::P.zip vs) m p=_;unfold bindC;rw[sF fun v hv=>(WB.mp nd).1 (XY hv).1,VA hk];simp
 |p::P,w::vs,i+1,m,nd,h1,h2,hk=>by show bindC kindOf ((p,w)::P.zip vs) m x=_;unfold bindC;exact sH (i:=i) (WB.mp nd).2 (by simpa using h1) (by simpa using h2) hk
def start(N:_W)(vs:List V):St:=vs.map some++List.replicate (N.length-vs.length) none
def fN(CX:Bl)(P:_1)(w:World)(K:_R)(mg:_P)(base:Heap)(N:_W)(qual:Str)(scope:Scope)(f:_Z)(cd:_X)(A:_0)(outer:List Env)(s:_Y)(H:Hp)(E:XK):Cx where
 prog:=P
 w:=w
 K:=K
 mg:=mg
 base:=base
 A:=A.deeper (envOfC qual scope s.heap.objs.size f cd)
 N:=N
 s₀:=s
 H₀:=H
 env:=envOfC qual scope s.heap.objs.size f cd
 outer:=outer
 stack:=envOfC qual scope s.heap.objs.size f cd::outer
 ex:=[]
 calm:=true
 fn:=fun _=>true
 pn:=[]
 xe:=fun e s'=>wpAny (model P w) (A.deeper (envOfC qual scope s.heap.objs.size f cd)) (leaving (envOfC qual scope s.heap.objs.size f cd) e) (fun _ RV=>CX outer H s E e RV) (fun e' RV=>CX outer H s E e' RV) s'
theorem v_{sc:Scope}{x:Str}(h:sc.names.lookup x=some .cell):∃c,(cellsFrom n sc.names []).lookup x=some c:=by have q:=Yi sc.names n [] (.inl h);exact Option.isSome_iff_exists.mp q
theorem sI{CX:Bl}{w:World}{K:_R}{mg:_P}{base:Heap}{N ps:_W}{qual:Str}{scope:Scope}{cd:_X}{A:_0}{outer:List Env}{s s1:_Y}{H:Hp}{E:XK}{us:_T}{vs:List V}(S:dF N ps scope)(hd:A.handled=none)(e0:rL P w K mg base A outer s H)(hl:vs.length=ps.length)(r:bf vs us)(x:InCallC s s.heap.objs.size (bindL (envOfC qual scope s.heap.objs.size f cd).kindOf (ps.zip us) fun _=>none) (cellsFrom (s.heap.objs.size+1) scope.names []) (bindC (envOfC qual scope s.heap.objs.size f cd).kindOf (ps.zip us) fun _=>none) s1):
  aM (fN CX P w K mg base N qual scope f cd A outer s H E) [] (start N vs) H s1:=by
 have ip:ps.length<=N.length:=by have:=Xg List.length S.pre;rw[V']at this;lia
 obtain⟨h1,tk,rfl,hk⟩:=x.done;have Ol:∀b:_Z,b ∉ (fN CX P w K mg base N qual scope f cd A outer s H E).ex:=fun b z=>absurd (show b∈([]:_V)from z) (by simp);refine⟨⟨e0.mod,S.kind,rfl,rfl,Vo _,fun y z c h1 h2=>?_,fun y hy=>?_,fun y c _ h=>?_,fun _=>hd,Around.frames_deeper e0.frames,.inr ⟨rfl,rfl⟩,fun b z=>absurd z (Ol b),e0.bs,e0.Bf,fun b _ _=>Ol b,fun b z=>absurd z (Ol b),e0.iM,e0.x?⟩,
  rfl,e0.bare,Un.kept hk,⟨_,x.toInCall.ns,fun i y v h1 h2 h3=>?_⟩,fun y c h=>⟨_,x.cell y c h⟩,e0.bN.fresh (Vo _),fun y c h=>?_,fun p hp=>absurd (show p∈([]:_Q)from hp) (by simp),e0.bN.kept hk,?_⟩
 .exact name_of_addr x.apart (Wx h1) (Wx h2)
 .have hy:scope.names.lookup y=some .cell\/scope.names.lookup y=some .free:=hy;rcases hy with hy|hy
  .exact v_ hy
  .exact absurd rfl (S.Ll _ (Wx hy))
 .exact X6 (x.above y c (Wx h))
 .have hi:i<vs.length:=by
   unfold start at h2;by_cases hi:i<vs.length
   .exact hi
   .rw[Vv (by simpa using hi)]at h2;rw[Ww]at h2;split at h2<;>cases h2
  have ha:vs[i]?=some v:=by
   unfold start at h2;rw[VL (by simpa using hi),VF]at h2;cases e:vs[i]? with
   |none=>rw[e]at h2;cases h2
   |some a=>rw[e]at h2;cases h2;rfl
  obtain⟨u,hu,rv⟩:=r.get ha;have hp:ps[i]?=some y:=by rw[<-S.pre,List.getElem?_take_of_lt (by lia)];exact h1
  have RW:ps.Nodup:=by rw[<-S.pre];exact S.nd.sublist (List.take_sublist _ _)
  refine⟨u,rv,?_⟩;rcases S.par y (XD hp)with k|k
  .exact .inl ⟨k,sG RW hp hu k⟩
  .obtain⟨c,e⟩:=v_ (n:=s.heap.objs.size+1) k;refine .inr ⟨.inl k,c,e,?_⟩;have q:=x.cell y c e;rw[sH RW hp hu (by show scope.names.lookup y≠_;rw[k];decide)]at q;exact q
 .exact e0.bN.fresh (X6 (x.above y c (Wx h)))
 .unfold start;show _=N.length;rw[Vr,Vm,We];lia
theorem JU{CX:Bl}{w:World}{K:_R}{mg:_P}{base:Heap}{k:Nat}{qual:Str}{params:Arguments}{body:List Stmt}{scope:Scope}{dV kV pm ct:_X}{N ps:_W}{sp:Sp}(lk:K.lookup f=some ⟨oc,od,.func (W.fnOf name qual params body scope dV kV doc pm an dh ct),z_⟩)(j6:W.codeIn K dh qual=true)(S:dF N ps scope)(len:∀vs H Q E,sp vs H Q E->vs.length=ps.length)
  (v!:∀ (A:_0) (outer:List Env) (s:_Y) (H:Hp) (vs:List V) (Q:VK) (E:XK),d0 k (A.deeper (envOfC qual scope s.heap.objs.size f dh))->sp vs H Q E ->
   ∃t,i' (fN CX P w K mg base N qual scope f dh A outer s H E) body t/\t {nx:=fun _ H'=>Q .dc H',rt:=Q} (start N vs) H):
  ku P w K mg base CX (k+1) f (W.fnOf name qual params body scope dV kV doc pm an dh ct) ps sp:=by
 refine⟨len,fun A outer s H args us vs Q E hr e0 hb r Om=>?_⟩;have hl:=len _ _ _ _ Om;have KX:K.In s.heap:=e0.mod.Gz.keeps fun b o e=>(e0.bs b o e).1;have lim:s.heap.NoLimit:=e0.mod.nolimit.keeps fun b o e=>(e0.bs b o e).1;have Df:∀y∈ps.zip us,scope.names.lookup y.1=some .local\/(scope.names.lookup y.1=some .cell/\((cellsFrom (s.heap.objs.size+1) scope.names []).lookup y.1).isSome=true):=fun⟨n,v⟩hy=>by
  rcases S.par n (XY hy).1 with q|q
  .exact .inl q
  .exact .inr ⟨q,Yi _ _ _ (.inl q)⟩
 refine _H hr.depth (KX _ _ lk) rfl S.co S.gen rfl (_e KX j6) (hb _ _ _ _ ?_);refine Z2 S.kind Df fun env he s1 x=>?_;subst he;refine⟨lim.keeps x.toInCall.keep,codeAny_func ?_⟩;obtain⟨t,ht,hq⟩:=v! A outer s H vs Q E (hr.deeper _) Om;have I:aM (fN CX P w K mg base N qual scope f dh A outer s H E) [] (start N vs) H s1:=sI S hr.hd e0 hl r x;refine Ws (ht [] s1 (start N vs) H _ I hq) (fun fl s' hs=>?_) fun e s' hs=>hs;have fin:∀{σ':St}{H':Hp}{v:V}{u:_X},aM (fN CX P w K mg base N qual scope f dh A outer s H E) [] σ' H' s'->bo v u->Q v H'->CE outer P w H s Q u s':=
  fun{σ' H' v u}J rv q=>⟨v,H',J.os,J.bare,J.base,J.bN,rv,q⟩
 cases fl with
 |ret u=>
  obtain⟨v,σ',H',J,rv,q⟩:=hs;exact fin J rv q
 |next=>
  obtain⟨σ',H',J,q⟩:=hs;exact fin (v:=V.dc) (u:=Value.none) J rfl q
 |brk=>
  obtain⟨_,_,_,q⟩:=hs;exact False.elim q
 |cont=>
  obtain⟨_,_,_,q⟩:=hs;exact False.elim q
section
variable{X:Cx}{x:Str}{p:Pos}{t:TA}{id T:String}{r:List V->Hp->VK->Prop}
def tCB(r:List V->Hp->VK->Prop)(t:TA):TE:=fun σ H Q=>t σ H fun vs H1=>r vs H1 Q
theorem lV(hc:cm X (.builtin id) r)(hg:Gl X x)(hm:X.mg x=none)(hv:bootBuiltins x=some (.builtin id))(ha:PA X (e::es) t)(hn:x ≠ "__name__":=by decide)(ju:(x==("__debug__":Str))=false:=by decide)(he:starEach (e::es) X.env=(false,eval e X.env)::starEach es X.env:=by rfl)(ip:(backTo pos (starEach es X.env)).any (·.1)=false:=by rfl):PE X (.Call (.Name x p) (e::es) [] pos) (tCB r t):=by intro ag s σ H Q I h;refine WY (kN I hg hm hv ?_ hn ju);exact PyProof.Rows.callWith_builtin1 (df (ha pos ag s σ H _ I h) fun us s1⟨vs,H1,I1,r1,q1⟩=>hc ag s1 σ H1 vs us Q I1 r1 q1) he ip
theorem Bm(hc:cm X (.type T) r)(hg:Gl X x)(hm:X.mg x=none)(hv:bootBuiltins x=some (.type T))(ha:PA X (e::es) t)(hn:x ≠ "__name__":=by decide)(ju:(x==("__debug__":Str))=false:=by decide)(he:starEach (e::es) X.env=(false,eval e X.env)::starEach es X.env:=by rfl)(ip:(backTo pos (starEach es X.env)).any (·.1)=false:=by rfl):PE X (.Call (.Name x p) (e::es) [] pos) (tCB r t):=by intro ag s σ H Q I h;refine WY (kN I hg hm hv ?_ hn ju);exact Xn (df (ha pos ag s σ H _ I h) fun us s1⟨vs,H1,I1,r1,q1⟩=>hc ag s1 σ H1 vs us Q I1 r1 q1) he ip
end
end L2
variable {H H' H₀:L2.Hp}
variable {w:World}
variable {X:L2.Cx}
variable {N:List Str}
variable {A:Around}
variable {E:L2.XK}
variable {σ:L2.St}
variable {te td:L2.TE}
variable {g:L2.TG}
variable {wi:L2.TI}
variable {prog:Program}
variable {CX:L2.Bl}
variable {sp:L2.Sp}
variable {tt:L2.TT}
variable {ns:_S}
namespace HT
open PyProof.Rows
section
open SeqAt
open PySem.AutoSeq1 (wpAny_loadPart')
open MeetsSeq MeetsSeq2 MeetsSeq3
end
section
variable{E:_O}{s:_Y}
theorem GY{t b:_Z}{ws:_T}(ht:IsTup s.heap t vs.toArray)(hb:IsTup s.heap b ws.toArray)(hv:vs≠[])(h1:ws=[]->Q (.ref t) s)(h2:ws≠[]->Q (.ref s.heap.objs.size) {s with heap:=s.heap.push {cls:=.type "tuple",data:=.seq (vs++ws).toArray} })(hsz:vs.length+ws.length<=sizeLine):wpAny (model prog w) A (binaryOp .Add (.ref t) (.ref b)) Q E s:=by
 obtain⟨⟨cls,dd,data,sl⟩,ho,hc,n,hd⟩:=id ht;obtain⟨⟨TB,RX,data2,Pe⟩,z!,vU,n2,hd2⟩:=id hb;simp only at hc hd vU hd2;subst hc hd vU hd2;have e:vs.toArray++ws.toArray=(vs++ws).toArray:=by simp
 by_cases hw:ws=[]
 .exact _v ⟨_,ho,rfl⟩ ⟨_,z!,rfl⟩ Zw _a Yj Yg (Yf _ _)
   (tuple_addW1 t b vs.toArray ws.toArray n n2 dd RX sl Pe (by simpa using hv) (by simp[hw])) ⟨ho,z!,h1 hw⟩
 .refine _v ⟨_,ho,rfl⟩ ⟨_,z!,rfl⟩ Zw _a Yj Yg (Yf _ _)
   (tuple_addW2 t b vs.toArray ws.toArray n n2 dd RX sl Pe (by simpa using hv) (by simpa using hw) (by rw[VC,VC];exact hsz)) ⟨ho,z!,?_⟩
  rw[e];exact h2 hw
def e?(n d:Nat):Option Int->Nat
 |none=>d
 |some v=>if v<0 then(v+(n:Int)).toNat else min v.toNat n
theorem lW(n d:Nat):e? n d none=d:=rfl
theorem j7(n d k:Nat):e? n d (some (k:Int))=min k n:=by show(if(k:Int)<0 then((k:Int)+(n:Int)).toNat else min (k:Int).toNat n)=min k n;rw[VA (by lia),WE]
theorem Lm(n d:Nat)(hd:d<=n)(o:Option Int):e? n d o<=n:=by
 cases o with
 |none=>exact hd
 |some v=>
  show(if v<0 then(v+(n:Int)).toNat else min v.toNat n)<=n;by_cases hv:v<0
  .rw[Vu hv];lia
  .rw[VA hv];exact Nat.min_le_right _ _
theorem z?(v:Int)(n d:Nat):(if v<0 then max (v+(n:Int)) 0 else min v (n:Int))=((e? n d (some v):Nat):Int):=by
 show(if v<0 then max (v+(n:Int)) 0 else min v (n:Int))=(((if v<0 then(v+(n:Int)).toNat else min v.toNat n):Nat):Int);by_cases hv:v<0
 .simp only[Vu hv];lia
 .simp only[VA hv];lia
theorem yg(lo hi:Option Int)(n:Nat):Builtin.Slice.sliceAdjust lo hi 1 (n:Int)=(((e? n 0 lo:Nat):Int),((e? n n hi:Nat):Int)):=by
 have h1:¬ ((1:Int)<0):=by lia
 unfold Builtin.Slice.sliceAdjust;simp only[h1,WN];refine Prod.ext ?_ ?_
 .cases lo with
  |none=>rfl
  |some v=>exact z? v n 0
 .cases hi with
  |none=>rfl
  |some v=>exact z? v n n
theorem yh(i j:Nat):Builtin.Slice.slicePlaces (i:Int) (j:Int) 1=j-i:=by
 unfold Builtin.Slice.slicePlaces;have h1:(1:Int)>0:=by lia
 simp only[h1,Xr,Int.ediv_one];split<;>lia
theorem pU{v:_X}{o:Option Int}{Q:Option Int->_Y->Prop}(p:IsPart v o)(h:Q o s):wpAny (model prog w) A (Builtin.Slice.slicePartIndex v) Q E s:=by
 cases p with
 |none=>exact slicePart_none h
 |int i t=>exact slicePart_int h
theorem nB{sl:_Z}{vl vu:_X}{lo hi:Option Int}{Q:Int×Int×Nat->_Y->Prop}(hs:s.heap.IsSliceOf sl vl vu .none)(pl:IsPart vl lo)(pu:IsPart vu hi)(h:Q (((e? n 0 lo:Nat):Int),1,e? n n hi-e? n 0 lo) s):wpAny (model prog w) A (Builtin.Slice.sliceApplied (.ref sl) (pure (n:Int))) Q E s:=by obtain⟨os,Pf,hcs,RY⟩:=id hs;unfold Builtin.Slice.sliceApplied Builtin.Slice.sliceFields;refine Vl (Vl (WO Pf RY (x:=vl) rfl (Vl (WO Pf RY (x:=vu) rfl (Vl (WO Pf RY (x:=.none) rfl (Vq ?_)))))));refine Vl (slicePart_none ?_);show wpAny _ _ (if((1:Int)==0)=true then _ else _) _ _ s;rw[VA (by decide)];refine Vl (pU pl (Vl (pU pu (Vl (Vq ?_)))));show wpAny _ _ (match Builtin.Slice.sliceAdjust lo hi 1 (n:Int) with|(lo,hi)=>pure (lo,(1:Int),Builtin.Slice.slicePlaces lo hi 1)) _ _ s;rw[yg lo hi n];show wpAny _ _ (pure (((e? n 0 lo:Nat):Int),(1:Int),Builtin.Slice.slicePlaces ((e? n 0 lo:Nat):Int) ((e? n n hi:Nat):Int) 1)) _ _ s;rw[yh];exact Vq h
theorem Dg(xs:Array _X)(i k:Nat):((List.range k).filterMap fun(m:Nat)=>xs[((i:Int)+(m:Int)*1).toNat]?).toArray=((xs.toList.drop i).take k).toArray:=by
 have e:(fun(m:Nat)=>xs[((i:Int)+(m:Int)*1).toNat]?)=fun m=>xs[i+m]?:=by
  funext m;have:((i:Int)+(m:Int)*1).toNat=i+m:=by lia
  rw[this]
 rw[e];have:=pick_run xs i k;rw[List.filterMap_map]at this;have e2:((fun x=>xs[x]?) ∘ fun x=>i+x)=fun m=>xs[i+m]?:=rfl;rw[e2]at this;rw[this]
theorem lX{t sl:_Z}{vl vu:_X}{lo hi:Option Int}(ht:IsTup s.heap t items)(hs:s.heap.IsSliceOf sl vl vu .none)(pl:IsPart vl lo)(pu:IsPart vu hi)(hw:¬ (e? items.size 0 lo=0/\e? items.size items.size hi=items.size))(h:Q (.ref s.heap.objs.size) {s with heap:=s.heap.push {cls:=.type "tuple",data:=.seq ((items.toList.drop (e? items.size 0 lo)).take (e? items.size items.size hi-e? items.size 0 lo)).toArray} })(hsz:items.size<=sizeLine):wpAny (model prog w) A (getItem (.ref t) (.ref sl)) Q E s:=by
 have Aa:sizeOk (.seq ((items.toList.drop (e? items.size 0 lo)).take (e? items.size items.size hi-e? items.size 0 lo)).toArray):=by show((items.toList.drop (e? items.size 0 lo)).take (e? items.size items.size hi-e? items.size 0 lo)).toArray.size<=sizeLine;rw[VC,V',Wl,Vy];lia
 have hj:e? items.size items.size hi<=items.size:=Lm _ _ (Vo _) hi;obtain⟨os,Pf,hcs,RY⟩:=id hs;have hTs:s.TypeIs (.ref sl) "slice":=⟨os,Pf,hcs⟩
 unfold getItem
 try with_reducible refine W4 ?_
 first|refine Vl (Vq ?_)|skip
 refine Vl (wpAny_sequenceKey ht.typeIs (by decide) ?_);refine Vl (WR (name:=Str.ofString "__getitem__") ht.typeIs XN
  (WQ XN ht.typeIs entry_tuple_getitem ?_ (args_tuple_getitem _ _)))
 show wpAny _ _ (Builtin.Tuple.tupleItemsOf (.ref t) >>= _) _ _ s;refine Vl (tupleItemsOf_ ht ?_);refine Vl (Zo hTs ?_);rw[Vu (by decide)];refine Vl (nB hs pl pu ?_);have Pg:¬ ((((e? items.size 0 lo:Nat):Int)==0&&(1:Int)==1&&(e? items.size items.size hi-e? items.size 0 lo)==items.size)=true):=by intro q;rw[Wv,Wv]at q;have q1:((e? items.size 0 lo:Nat):Int)=0:=eq_of_beq q.1.1;have q2:e? items.size items.size hi-e? items.size 0 lo=items.size:=eq_of_beq q.2;exact hw ⟨by lia,by lia⟩
 show wpAny _ _ (if(((e? items.size 0 lo:Nat):Int)==0&&(1:Int)==1&&(e? items.size items.size hi-e? items.size 0 lo)==items.size)=true then _ else _) _ _ s;rw[VA Pg,Dg]
 first
  |exact Vl (m:=Builtin.Tuple.tupleExact _) (Wn (Vq ⟨_,rfl,Vq h⟩) Aa)
  |exact Vl (m:=Builtin.Tuple.tupleExact _) (Wn (Vl (Vq (Vq ⟨_,rfl,Vq h⟩))) Aa)
  |exact Vl (Vl (m:=Builtin.Tuple.tupleExact _) (Wn (Vq (Vq ⟨_,rfl,Vq h⟩)) Aa))
  |exact Vl (Vl (m:=Builtin.Tuple.tupleExact _) (Wn (Vq ⟨_,rfl,Vq h⟩) Aa))
end
end HT
namespace L2
open Spec PyProof.Rows
abbrev TO:=St->Hp->(Option Int->Hp->Prop)->Prop
def PO(X:Cx)(e:Option Expr)(t:TO):Prop:=
 ∀(ag:_Q)(s:_Y)(σ:St)(H:Hp)(Q:Option Int->Hp->Prop),aM X ag σ H s->t σ H Q ->
  wpAny (model X.prog X.w) X.A (evalPart e X.env) (fun u s'=>∃o H',aM X ag σ H' s'/\IsPart u o/\Q o H') X.xe s
def GZ:TO:=fun _ H Q=>Q none H
def Ph(t:TE):TO:=fun σ H Q=>t σ H fun x H1=>∃i,x=.int i/\Q (some i) H1
section
variable{lo hi:Option Expr}{tl th:TO}
theorem G0:PO X none GZ:=by intro ag s σ H Q I h;rw[evalPart_none];exact Vq ⟨none,H,I,.none,h⟩
theorem G1(h:PE X e te):PO X (some e) (Ph te):=by intro ag s σ H Q I hw;rw[evalPart_some];refine df (h ag s σ H _ I hw) fun u s1⟨x,H1,I1,r1,q1⟩=>?_;obtain⟨i,rfl,q⟩:=q1;obtain⟨t,rfl⟩:=r1;exact⟨some i,H1,I1,.int i t,q⟩
def JV(X:Cx)(r:V->Option Int->Option Int->Hp->VK->Prop):Prop:=
 ∀(ag:_Q)(s:_Y)(σ:St)(H:Hp)(x:V)(v vl vu:_X)(lo hi:Option Int)(sl:_Z)(Q:VK),aM X ag σ H s->bo x v->s.heap.IsSliceOf sl vl vu .none->IsPart vl lo->IsPart vu hi->r x lo hi H Q ->
  ∃T id,typeLookup (.type T) "__getitem__" = pure (some (.builtin id))/\s.TypeIs v T/\wpAny (model X.prog X.w) X.A (getItem v (.ref sl)) (EP X ag σ Q) X.xe s
theorem JV.or{r r':V->Option Int->Option Int->Hp->VK->Prop}(h:JV X r)(h':JV X r'):JV X (fun x lo hi H Q=>r x lo hi H Q\/r' x lo hi H Q):=by
 intro ag s σ H x v vl vu lo hi sl Q I rx hs pl pu q;rcases q with q|q
 .exact h ag s σ H x v vl vu lo hi sl Q I rx hs pl pu q
 .exact h' ag s σ H x v vl vu lo hi sl Q I rx hs pl pu q
def tSl(r:V->Option Int->Option Int->Hp->VK->Prop)(te:TE)(tl th:TO):TE:=fun σ H Q=>te σ H fun x H1=>tl σ H1 fun l H2=>th σ H2 fun u H3=>r x l u H3 Q
theorem Dh{r:V->Option Int->Option Int->Hp->VK->Prop}(hr:JV X r)(he:PE X e te)(hl:PO X lo tl)(hu:PO X hi th):PE X (.Subscript e (.Slice lo hi none p2) pos) (tSl r te tl th):=by intro ag s σ H Q I h;refine Subscript_ (df (he ag s σ H _ I h) fun v s1⟨x,H1,I1,r1,q1⟩=>?_);refine wpAny_Slice (df (hl ag s1 σ H1 _ I1 q1) fun vl s2⟨l,H2,I2,pl,q2⟩=>df (hu ag s2 σ H2 _ I2 q2) fun vu s3⟨u,H3,I3,pu,q3⟩=>?_);rw[evalPart_none];refine Vq ?_;have I4:aM X ag σ H3 {s3 with heap:=s3.heap.push {cls:=.type "slice",data:=.fields #[vl,vu,.none]} }:=I3.kept (t':=s3.toks) fun b ob q=>Vn _ q;obtain⟨T,id,hT,ht,hg⟩:=hr ag {s3 with heap:=s3.heap.push {cls:=.type "slice",data:=.fields #[vl,vu,.none]} } σ H3 x v vl vu l u s3.heap.objs.size Q I4 r1 (Heap.IsSliceOf.new ..) pl pu q3;show wpAny (model X.prog X.w) X.A (subscriptTail e (.Slice lo hi none p2) v (.ref s3.heap.objs.size)) (EP X ag σ Q) X.xe {s3 with heap:=s3.heap.push {cls:=.type "slice",data:=.fields #[vl,vu,.none]} };exact tail_any (ops:=[.ref s3.heap.objs.size,v]) ht hT hg (by with_unfolding_all rfl)
def uw(xs:List V)(lo hi:Option Int):List V:=(xs.drop (HT.e? xs.length 0 lo)).take (HT.e? xs.length xs.length hi-HT.e? xs.length 0 lo)
theorem oE(xs:List V)(lo hi:Option Int):(uw xs lo hi).length<=xs.length:=by unfold uw;rw[V',Wl];lia
def TC(K:_R):V->Option Int->Option Int->Hp->VK->Prop:=fun x lo hi H Q=>∃a xs,x=.ref a/\jB K H a xs /\
 ¬ (HT.e? xs.length 0 lo=0/\HT.e? xs.length xs.length hi=xs.length)/\∀p,H p=none->Q (.ref p) (upd H p (.tup (uw xs lo hi)))
theorem Ln:JV X (TC X.K):=by
 intro ag s σ H x v vl vu lo hi sl Q I rx hs pl pu h;obtain⟨a,xs,rfl,hx,hw,q⟩:=h;cases rx;obtain⟨aF,r,ht,hz⟩:=I.tuple hx;have hlen:aF.toArray.size=xs.length:=by rw[VC];exact r.length.symm
 refine⟨"tuple",_,XN.lookup,ht.typeIs,?_⟩;refine HT.lX ht hs pl pu (by rw[hlen];exact hw) ?_ (by rw[hlen];exact hz);rw[hlen];refine⟨.ref s.heap.objs.size,_,I.laid (t':=s.toks) (o:=.tup (uw xs lo hi)) (fun b ob q=>Vn _ q) (Vo _) ?_,rfl,q _ (I.bN.fresh (Vo _))⟩;exact⟨Vx (oE xs lo hi) hz,_,(r.drop (HT.e? xs.length 0 lo)).take (HT.e? xs.length xs.length hi-HT.e? xs.length 0 lo),IsTup.new _ _⟩
def Pj(K:_R):R2:=fun x y H Q=>∃a b xs ys,x=.ref a/\y=.ref b/\jB K H a xs/\jB K H b ys/\xs≠[]/\xs.length+ys.length<=sizeLine /\
 (ys=[]->Q (.ref a) H)/\(ys≠[]->∀p,H p=none->Q (.ref p) (upd H p (.tup (xs++ys))))
theorem bf.pA{xs:List V}{us:_T}(r:bf xs us):us=[]↔xs=[]:=by
 cases r with
 |nil=>simp
 |cons _ _=>simp
theorem G4:dq X (binaryOp .Add) (Pj X.K):=by intro ag s σ H x y v u Q I rx ry h;obtain⟨a,b,xs,ys,rfl,rfl,ha,hb,hx,hz,q1,q2⟩:=h;cases rx;cases ry;obtain⟨aF,r1,p1,_⟩:=I.tuple ha;obtain⟨d?,r2,p2,_⟩:=I.tuple hb;refine HT.GY p1 p2 (fun z=>hx (r1.pA.mp z)) (fun z=>⟨.ref a,H,I,rfl,q1 (r2.pA.mp z)⟩) (fun z=>?_) (by rw[<-r1.length,<-r2.length];exact hz);refine⟨.ref s.heap.objs.size,_,I.laid (t':=s.toks) (o:=.tup (xs++ys)) (fun b ob q=>Vn _ q) (Vo _) ?_,rfl,q2 (fun w=>z (r2.pA.mpr w)) _ (I.bN.fresh (Vo _))⟩;exact⟨by rw[Vr];exact hz,_,r1.append r2,IsTup.new _ _⟩
end
def Lo(n:Nat)(i:Int):Option Nat:=if 0<=i then(if i<n then some i.toNat else none)else if -(n:Int)<=i then some (i+n).toNat else none
def rN(xs:List α)(i:Int):Option α:=(Lo xs.length i).bind fun j=>xs[j]?
theorem G5{i:Int}(h:Lo n i=some j):seqIndex? i n=some j/\j<n/\-(n:Int)<=i/\i<n:=by
 unfold Lo at h;by_cases h0:0<=i
 .rw[Vu h0]at h;by_cases h1:i<n
  .rw[Vu h1]at h;have e:i.toNat=j:=VP h;exact⟨by rw[seqIndex_of h0 h1,e],by lia,by lia,h1⟩
  .rw[VA h1]at h;cases h
 .rw[VA h0]at h;by_cases h1:-(n:Int)<=i
  .rw[Vu h1]at h;have e:(i+n).toNat=j:=VP h;exact⟨by rw[seqIndex_neg (by lia) h1,e],by lia,h1,by lia⟩
  .rw[VA h1]at h;cases h
theorem uz{xs:List α}{i:Int}{v:α}(h:rN xs i=some v):∃j,seqIndex? i xs.length=some j/\xs[j]?=some v/\j<xs.length/\-(xs.length:Int)<=i/\i<xs.length:=by
 unfold rN at h;cases e:Lo xs.length i with
 |none=>rw[e]at h;cases h
 |some j=>
  rw[e]at h;obtain⟨h1,h2,h3,h4⟩:=G5 e;exact⟨j,h1,h,h2,h3,h4⟩
theorem iu{xs:List α}{v:α}(h:xs[j]?=some v):rN xs (j:Int)=some v:=by
 have hj:j<xs.length:=(V_.mp h).1;have e:Lo xs.length (j:Int)=some j:=by unfold Lo;rw[Vu (by lia),Vu (by lia)];simp
 unfold rN;rw[e];exact h
def uA(b:Expr):Prop:=∀o i,subscripted b false o i=operate [o,i] (getItem o i)
def xY(X:Cx)(r:R2):Prop:=
 ∀(value slice:Expr)(ag:_Q)(s:_Y)(σ:St)(H:Hp)(x y:V)(v u:_X)(Q:VK),aM X ag σ H s->bo x v->bo y u->r x y H Q ->
  subscripted slice false v u=operate [v,u] (getItem v u)->wpAny (model X.prog X.w) X.A (subscriptTail value slice v u) (EP X ag σ Q) X.xe s
def MtR(X:Cx)(id:String)(r:V->List V->Hp->VK->Prop):Prop:=
 ∀(ag:_Q)(s:_Y)(σ:St)(H:Hp)(x:V)(xs:List V)(v:_X)(us:_T)(Q:VK),aM X ag σ H s->bo x v->bf xs us->r x xs H Q ->
  wpAny (model X.prog X.w) X.A (call (.builtin id) (v::us)) (EP X ag σ Q) X.xe s
section
variable{a b:Expr}{ta tb:TE}
theorem xY.or{r r':R2}(h:xY X r)(h':xY X r'):xY X (fun x y H Q=>r x y H Q\/r' x y H Q):=by
 intro value slice ag s σ H x y v u Q I rx ry q hs;rcases q with q|q
 .exact h value slice ag s σ H x y v u Q I rx ry q hs
 .exact h' value slice ag s σ H x y v u Q I rx ry q hs
theorem Pk{r:R2}(hr:xY X r)(ha:PE X a ta)(hb:PE X b tb)(hs:uA b):PE X (.Subscript a b pos) (Oi r ta tb):=by intro ag s σ H Q I h;exact Subscript_ (K! ha hb I h fun v u s2 x y H2 I2 rx ry q=>hr a b ag s2 σ H2 x y v u Q I2 rx ry q (hs _ _))
def TF(K:_R):R2:=fun x y H Q=>∃p xs i v,x=.ref p/\y=.int i/\nr K H p xs/\rN xs i=some v/\Q v H
def TH(K:_R):R2:=fun x y H Q=>∃p xs i v,x=.ref p/\y=.int i/\jB K H p xs/\rN xs i=some v/\Q v H
def TJ:R2:=fun x y H Q=>∃z i c,x=.str z/\y=.int i/\z.length<=sizeLine/\rN z.cps.toList i=some c/\Q (.str ⟨#[c]⟩) H
theorem G6:xY X (TF X.K):=by
 intro value slice ag s σ H x y v u Q I rx ry h hs;obtain⟨p,xs,i,z,rfl,rfl,hq,he,q⟩:=h;cases rx;obtain⟨t,rfl⟩:=ry;obtain⟨aF,r,pl,hz⟩:=I.list hq;obtain⟨j,h1,h2,h3,h4,h5⟩:=uz he;obtain⟨w,ew,yi⟩:=r.get h2;have hl:=r.length;have hn:=pT;have fin:EP X ag σ Q w s:=⟨z,H,I,yi,q⟩
 by_cases h0:0<=i
 .have hj:i.toNat=j:=by rw[seqIndex_of h0 h5]at h1;exact VP h1
  exact item_listR pl.isList h0 (by lia) (by rw[hj];simpa using ew) fin hs
 .have hj:(i+(aF.toArray.size:Int)).toNat=j:=by rw[seqIndex_neg (by lia) h4]at h1;rw[VC,<-hl];exact VP h1
  exact subscriptTail_builtinR (x:=w) pl.isList.typeIs slot_list_getitem.lookup
   (wpAny_getItem_list_neg (Q:=fun r s'=>r=w/\EP X ag σ Q r s') pl.isList (by lia) (by rw[VC]<;>lia) (by lia) (by rw[hj];simpa using ew) ⟨rfl,fin⟩) hs
theorem uB:xY X (TH X.K):=by
 intro value slice ag s σ H x y v u Q I rx ry h hs;obtain⟨p,xs,i,z,rfl,rfl,hq,he,q⟩:=h;cases rx;obtain⟨t,rfl⟩:=ry;obtain⟨aF,r,pl,hz⟩:=I.tuple hq;obtain⟨j,h1,h2,h3,h4,h5⟩:=uz he;obtain⟨w,ew,yi⟩:=r.get h2;have hl:=r.length;have hn:=pT;have fin:EP X ag σ Q w s:=⟨z,H,I,yi,q⟩
 exact subscriptTail_builtinR (x:=w) pl.typeIs slot_tuple_getitem.lookup
  (getItem_tuple (j:=j) (Q:=fun r s'=>r=w/\EP X ag σ Q r s') pl (by lia) (by lia) (by rw[VC,<-hl];exact h1) (by simpa using ew) ⟨rfl,fin⟩) hs
theorem Lp:xY X TJ:=by
 intro value slice ag s σ H x y v u Q I rx ry h hs;obtain⟨z,i,c,rfl,rfl,hz,he,q⟩:=h;obtain⟨t,rfl⟩:=rx;obtain⟨t',rfl⟩:=ry;obtain⟨j,h1,h2,h3,h4,h5⟩:=uz he;have hl:z.cps.toList.length=z.length:=by simp[Str.length]
 rw[hl]at h1 h4 h5;have hn:=pT;exact tail_any (typeIs_str s z t) slot_str_getitem.lookup (getItem_str (c:=c) (by
  have e1:decide (i < -(2 ^ 63:Int))=false:=VR (by lia);have e2:decide (i ≥ 2 ^ 63)=false:=VR (by lia);rw[e1,e2,Bool.or_false]) (by rw[h1];simpa using h2) ⟨.str ⟨#[c]⟩,H,I.tok _,⟨_,rfl⟩,q⟩) hs
theorem uC(lo hi:Option Int)(n:Nat):(sliceBounds lo hi none n).1=((HT.e? n 0 lo:Nat):Int)/\(sliceBounds lo hi none n).2.1=((HT.e? n n hi:Nat):Int)/\(sliceBounds lo hi none n).2.2=1:=by
 refine⟨?_,?_,rfl⟩
 .cases lo with
  |none=>simp[sliceBounds,HT.e?]
  |some i=>
   simp only[sliceBounds,HT.e?,Option.getD_none,show(1:Int)>0 by decide,Xr];by_cases h:i<0
   .simp only[h,Xr]<;>lia
   .simp only[h,WN]<;>lia
 .cases hi with
  |none=>simp[sliceBounds,HT.e?]
  |some i=>
   simp only[sliceBounds,HT.e?,Option.getD_none,show(1:Int)>0 by decide,Xr];by_cases h:i<0
   .simp only[h,Xr]<;>lia
   .simp only[h,WN]<;>lia
theorem rO(aF:_T)(lo hi:Option Int):slicePick aF.toArray lo hi none=((aF.drop (HT.e? aF.length 0 lo)).take (HT.e? aF.length aF.length hi-HT.e? aF.length 0 lo)).toArray:=by obtain⟨h1,h2,h3⟩:=uC lo hi aF.toArray.size;unfold slicePick;rw[h1,h2,h3];simp only[sliceRange_one,pick_run,VC]<;>rfl
def TK(K:_R):V->Option Int->Option Int->Hp->VK->Prop:=fun x lo hi H Q=>∃a xs,x=.ref a/\nr K H a xs/\∀p,H p=none->Q (.ref p) (upd H p (.lst (uw xs lo hi)))
theorem G7:JV X (TK X.K):=by intro ag s σ H x v vl vu lo hi sl Q I rx hs pl pu h;obtain⟨a,xs,rfl,hx,q⟩:=h;cases rx;obtain⟨aF,r,ht,hz⟩:=I.list hx;have hlen:=r.length;refine⟨"list",_,slot_list_getitem.lookup,ht.isList.typeIs,?_⟩;refine wpAny_getItem_list_slice ht.isList hs pl pu .none (by simp) ?_ (by rw[VC]<;>lia);rw[rO,<-hlen];refine⟨.ref s.heap.objs.size,_,I.laid (t':=s.toks) (o:=.lst (uw xs lo hi)) (fun b ob q=>Vn _ q) (Vo _) ?_,rfl,q _ (I.bN.fresh (Vo _))⟩;exact⟨Vx (oE xs lo hi) hz,_,0,(r.drop (HT.e? xs.length 0 lo)).take (HT.e? xs.length xs.length hi-HT.e? xs.length 0 lo),VJ _ rfl⟩
def gn:V->Bool
 |.dc=>true
 |.bl _=>true
 |.int _=>true
 |.str _=>true
 |_=>false
def uD:V->V->Bool
 |.dc,.dc=>true
 |.bl a,.bl b=>a==b
 |.bl a,.int b=>(if a then 1 else 0)==b
 |.int a,.bl b=>a==(if b then 1 else 0)
 |.int a,.int b=>a==b
 |.str a,.str b=>a==b
 |_,_=>false
theorem Lq{s:_Y}{y x:V}{u v:_X}(ry:bo y u)(rx:bo x v)(fy:gn y=true)(fx:gn x=true):SeqAt.EqAt A s u v (uD y x):=by
 cases y with
 |dc=>
  cases ry;cases x with
  |dc=>cases rx;exact ZK _
  |bl b=>cases rx;exact SeqAt.EqAt.none_bool b
  |int b=>obtain⟨t,rfl⟩:=rx;exact SeqAt.EqAt.none_int b t
  |str b=>obtain⟨t,rfl⟩:=rx;exact SeqAt.EqAt.none_str b t
  |_=>exact absurd (show false=true from fx) VI
 |bl a=>
  cases ry;cases x with
  |dc=>cases rx;exact SeqAt.EqAt.bool_none a
  |bl b=>cases rx;exact SeqAt.EqAt.bool_bool a b
  |int b=>obtain⟨t,rfl⟩:=rx;exact SeqAt.EqAt.bool_int a b t
  |str b=>obtain⟨t,rfl⟩:=rx;exact SeqAt.EqAt.bool_str a b t
  |_=>exact absurd (show false=true from fx) VI
 |int a=>
  obtain⟨t',rfl⟩:=ry;cases x with
  |dc=>cases rx;exact SeqAt.EqAt.int_none a t'
  |bl b=>cases rx;exact SeqAt.EqAt.int_bool a t' b
  |int b=>obtain⟨t,rfl⟩:=rx;exact SeqAt.EqAt.int_int a t' b t
  |str b=>obtain⟨t,rfl⟩:=rx;exact Zj a t' b t
  |_=>exact absurd (show false=true from fx) VI
 |str a=>
  obtain⟨t',rfl⟩:=ry;cases x with
  |dc=>cases rx;exact SeqAt.EqAt.str_none a t'
  |bl b=>cases rx;exact SeqAt.EqAt.str_bool a t' b
  |int b=>obtain⟨t,rfl⟩:=rx;exact Zi a t' b t
  |str b=>obtain⟨t,rfl⟩:=rx;exact SeqAt.EqAt.str_str a t' b t
  |_=>exact absurd (show false=true from fx) VI
 |_=>exact absurd (show false=true from fy) VI
def Bn(x:V)(u:_X):Bool:=match u with
 |.none=>uD .dc x
 |.bool b=>uD (.bl b) x
 |.int i _=>uD (.int i) x
 |.str z _=>uD (.str z) x
 |_=>false
theorem uE{x y:V}{u:_X}(r:bo y u)(f:gn y=true):Bn x u=uD y x:=by
 cases y with
 |dc=>cases r;rfl
 |bl b=>cases r;rfl
 |int i=>obtain⟨t,rfl⟩:=r;rfl
 |str z=>obtain⟨t,rfl⟩:=r;rfl
 |_=>exact absurd (show false=true from f) VI
theorem uF{x:V}:∀{xs:List V}{us:_T},bf xs us->xs.all gn=true->us.any (Bn x)=xs.any fun y=>uD y x
 |_,_,.nil,_=>rfl
 |y::xs,u::us,.cons r t,f=>by rw[Xt,Wv]at f;rw[Xf,Xf,uE r f.1,uF t f.2]
theorem jF{A:_0}{s:_Y}{x:V}{v:_X}(rx:bo x v)(fx:gn x=true):∀{xs:List V}{us:_T},bf xs us->xs.all gn=true->∀u∈us,SeqAt.EqAt A s u v (Bn x u)
 |_,_,.nil,_=>fun u hu=>by cases hu
 |y::xs,u::us,.cons r t,f=>fun u' hu=>by
  rw[Xt,Wv]at f;rcases VU.mp hu with rfl|hu
  .rw[uE r f.1];exact Lq r rx f.1 fx
  .exact jF rx fx t f.2 u' hu
def RZ(x:V)(xs:List V):Bool:=xs.any fun y=>uD y x
def rIn(K:_R)(neg:Bool):R2:=fun x y H Q=>∃p xs,y=.ref p/\(nr K H p xs\/jB K H p xs)/\gn x=true/\xs.all gn=true/\Q (.bl (if neg then !RZ x xs else RZ x xs)) H
theorem Bo:dq X (compareOp .In) (rIn X.K false):=by
 intro ag s σ H x y v u Q I rx ry h;obtain⟨p,xs,rfl,hq,fx,fs,q⟩:=h;cases ry;rcases hq with hq|hq
 .obtain⟨aF,r,pl,hz⟩:=I.list hq;refine SeqAt.in_listAt (Bn x) pl.isList (fun w hw=>jF rx fx r fs w (by simpa using hw)) ⟨.bl _,H,I,rfl,?_⟩;rw[show aF.toArray.any (Bn x)=aF.any (Bn x) by simp,uF r fs];exact q
 .obtain⟨aF,r,pl,hz⟩:=I.tuple hq;refine SeqAt.in_tupleAt (Bn x) pl (fun w hw=>jF rx fx r fs w (by simpa using hw)) ⟨.bl _,H,I,rfl,?_⟩;rw[show aF.toArray.any (Bn x)=aF.any (Bn x) by simp,uF r fs];exact q
theorem uG:cm X (.builtin "len") (fun xs H Q=>∃p ys,xs=[.ref p]/\(nr X.K H p ys\/jB X.K H p ys)/\Q (.int ys.length) H):=by
 intro ag s σ H xs us Q I r h;obtain⟨p,ys,rfl,hq,q⟩:=h;obtain⟨u,rfl,rx⟩:=vals1 r;cases rx;have hn:=pT;rcases hq with hq|hq
 .obtain⟨aF,r',pl,hz⟩:=I.list hq;have hlen:=r'.length;exact Calls.call_len_list pl.isList (by simp only[VC]<;>lia) ⟨.int ys.length,H,I.tok _,⟨s.toks+1,by rw[VC,hlen]⟩,q⟩
 .obtain⟨aF,r',pl,hz⟩:=I.tuple hq;have hlen:=r'.length;exact len_tuple pl (by simp only[VC]<;>lia) ⟨.int ys.length,H,I.tok _,⟨s.toks+1,by rw[VC,hlen]⟩,q⟩
theorem uH:cm X (.builtin "len") (fun xs H Q=>∃z,xs=[.str z]/\z.length<=sizeLine/\Q (.int z.length) H):=by intro ag s σ H xs us Q I r h;obtain⟨z,rfl,hz,q⟩:=h;obtain⟨u,rfl,t,rfl⟩:=vals1 r;have hn:=pT;exact len_str (by lia) ⟨.int z.length,H,I.tok _,⟨_,rfl⟩,q⟩
theorem cm.or{f:_X}{r r':List V->Hp->VK->Prop}(h:cm X f r)(h':cm X f r'):cm X f (fun xs H Q=>r xs H Q\/r' xs H Q):=by
 intro ag s σ H xs us Q I rs q;rcases q with q|q
 .exact h ag s σ H xs us Q I rs q
 .exact h' ag s σ H xs us Q I rs q
theorem uI:cm X (.type "list") (fun xs H Q=>∃p ys,xs=[.ref p]/\(nr X.K H p ys\/jB X.K H p ys)/\∀l,H l=none->Q (.ref l) (upd H l (.lst ys))):=by
 intro ag s σ H xs us Q I r h;obtain⟨p,ys,rfl,hq,q⟩:=h;obtain⟨u,rfl,rx⟩:=vals1 r;cases rx;have fin:∀(aF:_T),bf ys aF->ys.length<=sizeLine->∀(h':Heap)(c':Nat),(∀b o',s.heap.get? b=some o'->h'.get? b=some o') ->
   h'.get? s.heap.objs.size=some {cls:=.type "list",dict:=none,data:=.seq aF.toArray c',slots:=#[]}->EP X ag σ Q (.ref s.heap.objs.size) {s with heap:=h'}:=fun aF r' hz h' c' kp e=>
  ⟨.ref s.heap.objs.size,_,I.laid (t':=s.toks) kp (Vo _) (show ck X.prog X.w _ h' _ (.lst ys) from⟨hz,aF,c',r',e⟩),rfl,q _ (I.bN.fresh (Vo _))⟩
 rcases hq with hq|hq
 .obtain⟨aF,r',pl,hz⟩:=I.list hq;have hlen:=r'.length;obtain⟨o,ho,hc,n,hd⟩:=pl.isList;exact call_list_seq p (.inl rfl) ho hc hd (fun h' c' kp e=>fin aF r' hz h' c' kp e) (by simp only[VC]<;>lia)
 .obtain⟨aF,r',pl,hz⟩:=I.tuple hq;have hlen:=r'.length;obtain⟨o,ho,hc,n,hd⟩:=pl;exact call_list_seq p (.inr rfl) ho hc hd (fun h' c' kp e=>fin aF r' hz h' c' kp e) (by simp only[VC]<;>lia)
theorem rP:cm X (.type "tuple") (fun xs H Q=>∃p ys,xs=[.ref p]/\((nr X.K H p ys/\∀l,H l=none->Q (.ref l) (upd H l (.tup ys)))\/(jB X.K H p ys/\Q (.ref p) H))):=by
 intro ag s σ H xs us Q I r h;obtain⟨p,ys,rfl,h⟩:=h;obtain⟨u,rfl,rx⟩:=vals1 r;cases rx;rcases h with⟨hq,q⟩|⟨hq,q⟩
 .obtain⟨aF,r',pl,hz⟩:=I.list hq;have hlen:=r'.length;refine call_tuple_list pl.isList (fun h' kp=>?_) (by simp only[VC]<;>lia);have I1:aM X ag σ H {s with heap:=h'}:=I.kept (t':=s.toks) kp;have I2:aM X ag σ (upd H h'.objs.size (.tup ys)) {s with heap:=h'.push {cls:=.type "tuple",data:=.seq aF.toArray} }:=
   I1.laid (t':=s.toks) (fun b o e=>Vn _ e) (Vo _) (show ck X.prog X.w _ _ _ (.tup ys) from⟨hz,aF,r',IsTup.new _ _⟩)
  exact⟨.ref h'.objs.size,_,I2,rfl,q _ (I1.bN.fresh (Vo _))⟩
 .obtain⟨aF,r',pl,hz⟩:=I.tuple hq;exact call_tuple_same pl ⟨.ref p,H,I,rfl,q⟩
def R0(K:_R)(T:String)(x:V)(H:Hp):Prop:=match x with
 |.str _=>T = "str"
 |.int _=>T = "int"
 |.ref p=>(T = "list" /\ ∃xs,nr K H p xs)\/(T = "tuple" /\ ∃o,K.lookup p=some o/\o.cls=.type "tuple" /\ o.dict=none) \/
   (T = "dict" /\ ((∃aI,H p=some (.dK aI))\/∃aI,H p=some (.dT aI)))\/(T = "set" /\ ∃S n,H p=some (.set S n))
 |_=>False
theorem Dj{s:_Y}{T:String}{x:V}{v:_X}(I:aM X ag σ H s)(r:bo x v)(ty:R0 X.K T x H):
  s.TypeIs v T/\∀a,v=.ref a->∃ob,s.heap.get? a=some ob/\ob.dict=none:=by
 cases x with
 |str z=>
  obtain⟨t,rfl⟩:=r;cases(show T = "str" from ty);exact⟨typeIs_str s z t,fun _ e=>nomatch e⟩
 |int i=>
  obtain⟨t,rfl⟩:=r;cases(show T = "int" from ty);exact⟨YB s i t,fun _ e=>nomatch e⟩
 |ref p=>
  cases r;rcases ty with⟨rfl,xs,hq⟩|⟨rfl,o,hk,hc,hd⟩|⟨rfl,hk⟩|⟨rfl,S,n,hk⟩
  .obtain⟨aF,_,pl,_⟩:=I.list hq;refine⟨pl.isList.typeIs,fun a e=>?_⟩;cases e;obtain⟨o,n,e,c,hd,_⟩:=pl;exact⟨o,e,hd⟩
  .refine⟨⟨o,I.nq p o hk,hc⟩,fun a e=>?_⟩;cases e;exact⟨o,I.nq _ o hk,hd⟩
  .have z:∃o,s.heap.get? p=some o/\o.ExactDict:=by
    rcases hk with⟨aI,hk⟩|⟨aI,hk⟩
    .obtain⟨_,_,_,_,o,_,_,e,ex,_⟩:=I.bN p _ hk;exact⟨o,e,ex⟩
    .obtain⟨_,_,_,_,o,_,_,e,ex,_⟩:=I.bN p _ hk;exact⟨o,e,ex⟩
   obtain⟨o,e,ex⟩:=z;refine⟨⟨o,e,ex.1⟩,fun a e2=>?_⟩;cases e2;exact⟨o,e,ex.2.1⟩
  .obtain⟨o,_,_,_,e,ex,_⟩:=I.bN p _ hk;refine⟨⟨o,e,ex.1⟩,fun a e2=>?_⟩;cases e2;exact⟨o,e,ex.2.1⟩
 |_=>exact False.elim ty
def TL(K:_R)(T:String)(r:V->List V->Hp->VK->Prop)(to:TE):TE:=fun σ H Q=>to σ H fun x H1=>R0 K T x H1/\r x [] H1 Q
def tBM(K:_R)(T:String)(r:V->List V->Hp->VK->Prop)(to:TE)(t:TA):TE:=fun σ H Q=>to σ H fun x H1=>R0 K T x H1/\t σ H1 fun xs H2=>r x xs H2 Q
variable{to:TE}{t:TA}{T id:String}{r:V->List V->Hp->VK->Prop}
theorem Lr(pa:PlainAttrs T)(slot:Slot T name id)(Ls:typeOf (.builtin id)=pure (.type "method_descriptor"))(hm:MtR X id r)(ho:PE X o to)(iN:attributeBase o name X.env (eval o X.env)=eval o X.env:=by rfl)(iO:(apos.endLine==bV.line)=true:=by rfl):PE X (.Call (.Attribute o name apos) [] [] bV) (TL X.K T r to):=by intro ag s σ H Q I h;refine wpAny_Call_method0_late iN iO (df (ho ag s σ H _ I h) fun v s1⟨x,H1,I1,r1,ty,q1⟩=>?_);obtain⟨h1,h2⟩:=Dj I1 r1 ty;exact⟨T,id,pa,slot,Ls,h1,h2,YI rfl (PySem.evalArgs_none (hm ag s1 σ H1 x [] v [] Q I1 r1 .nil q1))⟩
theorem Pl(pa:PlainAttrs T)(slot:Slot T name id)(Ls:typeOf (.builtin id)=pure (.type "method_descriptor"))(hm:MtR X id r)(ho:PE X o to)(ha:PA X (e::es) t)(iN:attributeBase o name X.env (eval o X.env)=eval o X.env:=by rfl)
  (uJ:((backTo bV (starEach (e::es) X.env)).all (fun x => !x.1)&&(backToKw bV (keywordEach [] X.env)).all (fun x=>x.1.isSome)
   && decide ((e::es).length+([]:List Keyword).length+(if([]:List Keyword).isEmpty then 0 else 1)<30))=true:=by rfl)
  (iO:(apos.endLine==bV.line)=true:=by rfl) (hs:starEach (e::es) X.env=(false,eval e X.env)::starEach es X.env:=by rfl) (iW:(backTo bV (starEach es X.env)).any (·.1)=false:=by rfl):
  PE X (.Call (.Attribute o name apos) (e::es) [] bV) (tBM X.K T r to t):=by
 intro ag s σ H Q I h;refine wpAny_Call_method_late iN uJ iO rfl (df (ho ag s σ H _ I h) fun v s1⟨x,H1,I1,r1,ty,q1⟩=>?_);obtain⟨h1,h2⟩:=Dj I1 r1 ty;refine⟨T,id,pa,slot,Ls,h1,h2,?_⟩;have hA:=ha bV ag s1 σ H1 _ I1 q1;rw[hs]at hA⊢;refine YI (by show(false || (backTo bV (starEach es X.env)).any (·.1))=false;rw[iW]<;>rfl) (Y8 ?_);exact df hA fun us s2⟨vs,H2,I2,r2,q2⟩=>hm ag s2 σ H2 x vs v us Q I2 r1 r2 q2
end
def Ab(X:Cx)(id:String)(r:V->List V->Hp->VK->Prop):Prop:=
 ∀(ag:_Q)(s:_Y)(σ:St)(H:Hp)(x:V)(xs:List V)(v:_X)(us:_T)(Q:VK),aM X ag σ H s->bo x v->bf xs us->r x xs H Q ->
  wpAny (model X.prog X.w) X.A (call (.builtin id) (v::us)) (EP X ag σ Q) X.xe s
theorem bf.one{x:V}{us:_T}(p:bf [x] us):∃u,us=[u]/\bo x u:=by
 cases p with
 |cons r t=>cases t;exact⟨_,rfl,r⟩
theorem bf.two{x y:V}{us:_T}(p:bf [x,y] us):∃u v,us=[u,v]/\bo x u/\bo y v:=by
 cases p with
 |cons r t=>
  obtain⟨v,z,q⟩:=bf.one t;rw[z];exact⟨_,v,rfl,r,q⟩
theorem bf.zero:∀{us:_T},bf [] us->us=[]
 |_,.nil=>rfl
theorem bf.rep{xs:List V}{us:_T}(h:bf xs us):∀k:Nat,bf (List.replicate k xs).flatten (List.replicate k us).flatten
 |0=>.nil
 |k+1=>by rw[Wk,Wk,Xd,Xd];exact bf.append h (bf.rep h k)
theorem foldl_rep(aF:_T):∀(k:Nat)(acc:_T),
  List.foldl (fun x1 x2=>x1++x2) acc.toArray (List.replicate k aF.toArray)=(acc++(List.replicate k aF).flatten).toArray
 |0,acc=>by simp
 |k+1,acc=>by
  have e:acc.toArray++aF.toArray=(acc++aF).toArray:=by simp
  have e2:(acc++aF)++(List.replicate k aF).flatten=acc++(List.replicate (k+1) aF).flatten:=by rw[Wk,Xd,Vs]
  rw[<-e2,<-foldl_rep aF k (acc++aF),<-e,Wk,_C]
section
variable{s:_Y}{l b:_Z}{xs ys zs:List V}
theorem aM.TM{its':_T}{f:Array _X->Array _X}{t':Nat}(I:aM X ag σ H s)(hH:H l=some (.lst xs))(e:s.heap.get? l=some {cls:=.type "list",data:=.seq aF.toArray n})(hf:f aF.toArray=its'.toArray)(hv:bf ys its')(hz:ys.length<=sizeLine):
  aM X ag σ (upd H l (.lst ys)) {s with heap:=s.heap.update l (Obj.mapSeq f),toks:=t'}:=by
 have q:=_y e f;rw[hf]at q;refine I.write (x:=l) (e:=l) (by rw[hH];exact trivial) (.inl rfl) (fun b' u hb hu=>(Wm s.heap (Obj.mapSeq f) (Xi hb)).trans hu) ⟨_,q⟩ ?_;exact⟨hz,its',_,hv,q⟩
theorem aM.Pm{t':Nat}(I:aM X ag σ H s)(hv:bf ys aF)(hz:ys.length<=sizeLine):
  aM X ag σ (upd H s.heap.objs.size (.lst ys)) {s with heap:=s.heap.push {cls:=.type "list",data:=.seq aF.toArray},toks:=t'}:=
 I.laid (fun _ _ q=>Vn _ q) (Vo _) ⟨hz,aF,0,hv,VJ _ rfl⟩
theorem aM.fresh(I:aM X ag σ H s):H s.heap.objs.size=none:=I.bN.fresh (Vo _)
theorem aM.Bp(I:aM X ag σ H s)(hH:H l=some (.lst xs)):xs.length<=sizeLine/\∃(aF:_T)(n:Nat),bf xs aF/\xs.length=aF.length/\s.heap.get? l=some {cls:=.type "list",data:=.seq aF.toArray n}:=by obtain⟨z,aF,n,r,e⟩:=I.bN l _ hH;exact⟨z,aF,n,r,r.length,e⟩
theorem Dk(h:n<=sizeLine):Builtin.List.listTooLong n=false:=by unfold Builtin.List.listTooLong;exact VR (by lia)
end
def G8:V->List V->Hp->VK->Prop:=fun x vs H Q=>∃l xs y,x=.ref l/\vs=[y]/\H l=some (.lst xs)/\xs.length<sizeLine/\Q .dc (upd H l (.lst (xs++[y])))
theorem Bq:Ab X "list.append" G8:=by intro ag s σ H x vs v us Q I rx rv h;obtain⟨l,xs,y,rfl,rfl,hH,hz,q⟩:=h;cases rx;obtain⟨u,rfl,ru⟩:=rv.one;obtain⟨z,aF,n,r,hl,e⟩:=I.Bp hH;refine X4 F.slot_list_append ⟨_,e,rfl⟩ F.entry_list_append (F.args_list_append_2 _ _) (_m l aF.toArray n u (by rw[VC];lia)) ⟨e,?_⟩;refine⟨.dc,_,I.TM (its':=aF++[u]) hH e (by simp) (r.append (.cons ru .nil)) ?_,rfl,q⟩;rw[Vr,WZ];lia
def R3:V->List V->Hp->VK->Prop:=fun x vs H Q=>∃l b xs zs,x=.ref l/\vs=[.ref b]/\H l=some (.lst xs)/\H b=some (.lst zs)/\xs.length+zs.length<=sizeLine/\Q .dc (upd H l (.lst (xs++zs)))
def TN:R2:=fun x y H Q=>∃l b xs zs,x=.ref l/\y=.ref b/\H l=some (.lst xs)/\H b=some (.lst zs)/\xs.length+zs.length<=sizeLine/\∀p,H p=none->Q (.ref p) (upd H p (.lst (xs++zs)))
theorem Lu:dq X (binaryOp .Add) TN:=by
 intro ag s σ H x y v u Q I rx ry h;obtain⟨l,b,xs,zs,rfl,rfl,hH,hB,hz,q⟩:=h;cases rx;cases ry;obtain⟨z,aF,n,r,hl,e⟩:=I.Bp hH;obtain⟨z2,d?,n2,r2,Ac,e2⟩:=I.Bp hB;refine PySem.P.add_list e e2 ?_ (by rw[VC,VC];lia);have ea:aF.toArray++d?.toArray=(aF++d?).toArray:=by simp
 rw[ea];exact⟨.ref _,_,I.Pm (t':=s.toks) (r.append r2) (by rw[Vr];lia),rfl,q _ I.fresh⟩
def TQ:R2:=fun x y H Q=>∃l k xs,x=.ref l/\y=.int k/\H l=some (.lst xs)/\-(2 ^ 63)<=k/\k<2 ^ 63/\xs.length*k.toNat<=sizeLine /\
 ∀p,H p=none->Q (.ref p) (upd H p (.lst (List.replicate k.toNat xs).flatten))
theorem len_rep(xs:List α)(k:Nat):(List.replicate k xs).flatten.length=k*xs.length:=by
 induction k with
 |zero=>simp
 |succ k ih=>rw[Wk,Xd,Vr,ih,YT,ZR]
theorem Lv:dq X (binaryOp .Mult) TQ:=by
 intro ag s σ H x y v u Q I rx ry h;obtain⟨l,k,xs,rfl,rfl,hH,h1,h2,hz,q⟩:=h;cases rx;obtain⟨t,rfl⟩:=ry;obtain⟨z,aF,n,r,hl,e⟩:=I.Bp hH;have hlen:aF.toArray.size*k.toNat<=sizeLine:=by rw[VC,<-hl];exact hz
 have TR:¬ aF.toArray.size*k.toNat>(2 ^ 63-1) / 8:=by
  have:(sizeLine:Nat)<=(2 ^ 63-1) / 8:=by decide
  lia
 have TU:¬ (!Builtin.List.listFitsIndex k)=true:=by rw[fitsIndex_both h1 h2];exact VI
 have Pn:¬ Builtin.List.listTooLong (aF.toArray.size*k.toNat)=true:=by rw[Dk hlen];exact VI
 have Dl:List.foldl (fun x1 x2=>x1++x2) #[] (List.replicate (if aF.toArray.isEmpty=true then 0 else k.toNat) aF.toArray)=(List.replicate k.toNat aF).flatten.toArray:=by
  have f0:∀m:Nat,List.foldl (fun x1 x2=>x1++x2) #[] (List.replicate m aF.toArray)=(List.replicate m aF).flatten.toArray:=fun m=>by have:=foldl_rep aF m [];rw[VM]at this;exact this
  rw[f0];cases aF with
  |nil=>simp
  |cons a r'=>rw[VA (by simp)]
 refine Z9 (T:="list") (U:="int") (by decide) ⟨_,e,rfl⟩ (fun s'=>YB s' k t) noFill_list_mul F.fills_int_mul YL repeat_list F.slot_int_index.lookup
  (X4 YL (YB s k t) F.entry_int_rmul (F.args_int_rmul_2 _ _) (int___rmul___int_list k t l aF.toArray n)
   ⟨e,rfl,⟨_,e,rfl⟩,X4 F.slot_list_mul ⟨_,e,rfl⟩ F.entry_list_mul (F.args_list_mul_2 _ _) (AutoListH.list___mul___list_int_3 l aF.toArray n k t TU TR Pn) ⟨e,?_⟩⟩)
 rw[Dl];exact⟨.ref _,_,I.Pm (t':=s.toks) (r.rep k.toNat) (by rw[len_rep,Yl];exact hz),rfl,q _ I.fresh⟩
section
variable{E:_O}{s:_Y}
end
end L2
namespace Att
open W Calls PyProof.Rows
theorem oY{P:Params}:∀(ns:_S)(vs:_T),WellAll P h vs (ns.map WData.int)->IntsAre vs ns:=by
 intro ns
 induction ns with
 |nil=>
  intro vs w;rw[Wg]at w;cases w;exact .nil
 |cons n ns ih=>
  intro vs w;rw[VB]at w;cases w with
  |cons a b=>
   cases a;exact .cons _ _ (ih _ b)
theorem Br{l:OpenLaw}(hn:l.most=some n){P:Params}{args:List WData}{vals:_T}(G9:l.row.toRowW.claim.pre args=true)(TV:WellAll P h vals args):
  ∃a vs ns,vals=[Value.ref a]/\args=[WData.list (ns.map WData.int)]/\h.get? a=some {cls:=.type "list",data:=.seq vs.toArray}/\IntsAre vs ns/\ns.length<=n:=by
 have hsh:WShape.hasAll [] args [.list .int]=true:=(pre_splitW G9).1;have hc:l.pre.holds [] {args:=args} = true:=(pre_splitW G9).2;obtain⟨d,r,rfl,h1,h2⟩:=hasAllW_cons hsh;obtain rfl:=hasAllW_nil h2;obtain⟨xs,rfl,h3⟩:=hasW_list h1;obtain⟨ns,rfl⟩:=items_int h3;have hlen:ns.length<=n:=by
  unfold OpenLaw.pre at hc;have h4:(WTm.not (.lt (.lit (.int (n:Int))) (.len (.arg 0)))).holds [] {args:=[.list (ns.map .int)]} = true:=by have h4:=(holds_andW hc).1;rw[hn]at h4;exact h4
  have h5:=condW_of h4 (w_not (w_lt w_lit (w_len_list (w_arg rfl))));rw[Vm]at h5;refine Y! fun q=>?_;have q':(n:Int)<((ns.length:Nat):Int):=by lia
  first
   |(rw[VV q']at h5;exact absurd h5 (by decide))
   |(simp at h5;lia)
 cases TV with
 |cons w1 w2=>
  cases w2;cases w1 with
  |list ho Lw=>exact⟨_,_,ns,rfl,rfl,ho,oY ns _ Lw,hlen⟩
theorem Bs(l:OpenLaw)(args:List WData):l.row.toRowW.claim.post args (.bool true) args=true:=
 postW_of (r:=l.row.toRowW) (X:=(true==true))
  (show WShape.has [] (.bool true) .bool=true by first|rfl|decide|simp[WShape.has,WShape.arms,WShape.armsAll])
  (show(WTm.eq .res (.lit (.bool true))).value [] {args:=args,res:=some (.bool true),after:=args} = some (.bool (true==true))from w_eq_bool (w_res rfl) w_lit) rfl
theorem v?{l:OpenLaw}{q:_1}{XP:(_P)->Heap->Prop}{YP:World->Heap->Prop}{d:DefRec}(hn:l.most=some n)(Po:d.params.defaults=[])
  (call:∀ (w:World) (s₀ s₁:_Y) (mg mb:_P) (fa:_Z) (o:Obj) (pm cd doc:_X) (a:_Z) (vs:_T) (ns:_S),
   Ground q loose [] XP w s₀ mg mb s₁.heap->YP w s₁.heap ->
   s₁.heap.get? fa=some o->o.data=.func (docDef d.name d.params d.body d.scope pm cd doc)->s₁.heap.CodeRec cd d.name->mg d.name=some (.ref fa) ->
   s₁.heap.get? a=some {cls:=.type "list",data:=.seq vs.toArray}->IntsAre vs ns->ns.length<=n->s₁.gens = #[] ->
   codeAny (model l.prog w) callerA (.call (.ref fa) ⟨[.ref a],[]⟩) (fun r s'=>r=.ok (.ret (.bool true))/\OldK s₁.heap s'.heap/\s'.os=s₁.os/\AllBare s'.gens) s₁):
  WalkO q loose XP YP l.row.toRowW d [] (fun f vs=>PySem.call f vs):=by
 intro w s₀ s₁ mg mb G Y fa o pm cd doc dV kV ho hd j6 hD Pp hg args vals as G9 aaE hrd TV Oo;obtain rfl:dV=.none:=Dflts.none hD Po;obtain rfl:kV=.none:=Dflts.noKw hD;obtain⟨a,vs,ns,rfl,rfl,Lx,hints,hlen⟩:=Br hn G9 TV;refine enter_call (XC (call w s₀ s₁ mg mb fa o pm cd doc a vs ns G Y ho (fd_plain hd) j6 Pp Lx hints hlen hg) fun r s' hq=>?_);obtain⟨rfl,h2,h3,h4⟩:=hq;exact⟨.inl ⟨.bool true,.bool true,[],rfl,fun _=>rfl,.bool true,Bs l _,fun _=>⟨List.Pairwise.nil,fun _ hm=>(nomatch hm)⟩⟩,h2,h3,h4⟩
section
variable{E:_O}{s:_Y}{K:Frag}
end
end Att
namespace L2
open Spec PyProof.Rows
theorem sJ:∀{vs:_T}{ns:_S},IntsAre vs ns->bf (ns.map V.int) vs
 |_,_,.nil=>.nil
 |_,_,.cons n t h=>.cons ⟨t,rfl⟩ (sJ h)
def eM(s:Stmt):Arguments:=match s with
 |.FunctionDef _ a _ _ _ _ _ _ _ _=>a
 |_ => {posonlyargs:=[],args:=[],vararg:=none,kwonlyargs:=[],kw_defaults:=[],kwarg:=none,defaults:=[]}
def bZ(s:Stmt):List Stmt:=match s with
 |.FunctionDef _ _ b _ _ _ _ _ _ _=>b
 |_=>[]
def aC(s:Stmt):Scope:=match s with
 |.FunctionDef _ _ _ _ _ _ sc _ _ _=>sc
 |_ => {kind:=.function,names:=[],isGenerator:=false,isCoroutine:=false}
abbrev E0:XK:=fun _ _ _=>False
structure Ad(K:_R)(x qual:Str)(st:Stmt)(f:_Z)(fd:FuncData):Prop where
 ex:∃(oc:_X)(od:Option _Z)(kV doc pm:_X)(an:Option _Z)(dh ct:_X)(z_:Array (_U)),
  fd=W.fnOf x qual (eM st) (bZ st) (aC st) .none kV doc pm an dh ct/\K.lookup f=some ⟨oc,od,.func fd,z_⟩/\W.codeIn K dh qual=true
 kp:W.keepIn K (.ref f)=true
section
variable{K:_R}{mg:_P}{base:Heap}
theorem Ad.binds{x qual:Str}{st:Stmt}{ps:_W}(F:Ad K x qual st f fd)(h:∀(kV doc pm:_X)(an:Option _Z)(dh ct:_X)(us:_T),us.length=ps.length->bindArgs (W.fnOf x qual (eM st) (bZ st) (aC st) .none kV doc pm an dh ct) ⟨us,[]⟩=pure (ps.zip us)):Binds K fd ps []:=by obtain⟨oc,od,kV,doc,pm,an,dh,ct,z_,rfl,lk,j6⟩:=F.ex;exact .all (h kV doc pm an dh ct)
theorem yj{x qual:Str}{st:Stmt}{kV pm ct:_X}(l:K.lookup f=some ⟨oc,od,.func (W.fnOf x qual (eM st) (bZ st) (aC st) .none kV doc pm an dh ct),z_⟩)(c:W.codeIn K dh qual=true)(k:W.keepIn K (.ref f)=true):Ad K x qual st f (W.fnOf x qual (eM st) (bZ st) (aC st) .none kV doc pm an dh ct):=⟨⟨oc,od,kV,doc,pm,an,dh,ct,z_,rfl,l,c⟩,k⟩
end
def kS(H H':Hp):Prop:=∀b o,H b=some o->H' b=some o
theorem kS.refl(H:Hp):kS H H:=fun _ _ h=>h
section
variable[DecidableEq κ]
def iX(aI:List (κ×V))(k:κ):Option V:=(aI.find? fun kv=>decide (kv.1=k)).map (·.2)
def putK(aI:List (κ×V))(k:κ)(v:V):List (κ×V):=
 if(aI.any fun kv=>decide (kv.1=k))=true then aI.map (fun kv=>if kv.1=k then(kv.1,v)else kv)else aI++[(k,v)]
theorem pV{p:κ×V}{r:List (κ×V)}{k:κ}(e:p.1=k):iX (p::r) k=some p.2:=by simp[iX,Xa,e]
theorem pW{p:κ×V}{r:List (κ×V)}{k:κ}(e:¬ p.1=k):iX (p::r) k=iX r k:=by simp[iX,Xa,e]
theorem wa(k:κ):∀aI:List (κ×V),(aI.any fun kv=>decide (kv.1=k))=(iX aI k).isSome
 |[]=>rfl
 |p::r=>by
  rw[Xf];by_cases e:p.1=k
  .simp only[pV e,VV e,ZY,Option.isSome_some]
  .rw[pW e,VR e,XS];exact wa k r
theorem jG(aI:List (κ×V))(k:κ)(v:V):(putK aI k v).length<=aI.length+1:=by
 unfold putK;split
 .rw[Vm];lia
 .rw[Vr,Vt,VY];lia
theorem nu.Bt{o:Option V}{u:_U}(r:nu o u):o.isSome=u.isSome:=by
 cases o with
 |none=>cases u with
  |none=>rfl
  |some _=>exact(show False from r).elim
 |some _=>cases u with
  |none=>exact(show False from r).elim
  |some _=>rfl
theorem nu.getD{o:Option V}{u:_U}{d:V}{d':_X}(r:nu o u)(rd:bo d d'):bo (o.getD d) (u.getD d'):=by
 cases o with
 |none=>cases u with
  |none=>exact rd
  |some _=>exact(show False from r).elim
 |some _=>cases u with
  |none=>exact(show False from r).elim
  |some _=>exact r
theorem KV.val{aI:List (κ×V)}{vs:List (κ×_X)}(r:KV aI vs)(k:κ):nu (iX aI k) (valueAt vs k):=by
 unfold KV at r
 induction r with
 |nil=>exact True.intro
 | @cons p q ps qs h t ih=>
  obtain⟨h1,h2⟩:=h;by_cases e:p.1=k
  .have e':q.1=k:=h1.symm.trans e;have b:valueAt (q::qs) k=some q.2:=by simp[valueAt,Xa,e']
   rw[pV e,b];exact h2
  .have e':¬ q.1=k:=fun z=>e (h1.trans z);have b:valueAt (q::qs) k=valueAt qs k:=by simp[valueAt,Xa,e']
   rw[pW e,b];exact ih
theorem KV.any{aI:List (κ×V)}{vs:List (κ×_X)}(r:KV aI vs)(k:κ):(aI.any fun kv=>decide (kv.1=k))=vs.any fun kv=>decide (kv.1=k):=by
 unfold KV at r
 induction r with
 |nil=>rfl
 |cons h t ih=>rw[Xf,Xf,ih,h.1]
theorem KV.uK{aI:List (κ×V)}{vs:List (κ×_X)}(r:KV aI vs)(k:κ){y:V}{u:_X}(ry:bo y u):
  KV (aI.map fun kv=>if kv.1=k then(kv.1,y)else kv) (vs.map fun kv=>if kv.1=k then(kv.1,u)else kv):=by
 unfold KV at r⊢
 induction r with
 |nil=>exact .nil
 | @cons p q ps qs h t ih=>
  rw[VB,VB];refine .cons ?_ ih;obtain⟨h1,h2⟩:=h;by_cases e:p.1=k
  .rw[Vu e,Vu (h1.symm.trans e)];exact⟨h1,ry⟩
  .rw[VA e,VA (fun z=>e (h1.trans z))];exact⟨h1,h2⟩
theorem KV.put{aI:List (κ×V)}{vs:List (κ×_X)}(r:KV aI vs)(k:κ){y:V}{u:_X}(ry:bo y u):KV (putK aI k y) (stored vs k u):=by
 unfold putK stored;rw[r.any k];by_cases e:(vs.any fun kv=>decide (kv.1=k))=true
 .rw[Vu e,Vu e];exact r.uK k ry
 .rw[VA e,VA e];exact Paired.snoc r ⟨rfl,ry⟩
theorem KV.length{aI:List (κ×V)}{vs:List (κ×_X)}(r:KV aI vs):aI.length=vs.length:=Zd r
end
theorem Ae{k:da}{u:_X}(r:bo (kV k) u):(dk P w).is k u=true:=by
 cases k with
 |inl i=>obtain⟨t,e⟩:=(show ∃t,u=Value.int i t from r);subst e;exact vX P w i t
 |inr x=>obtain⟨t,e⟩:=(show ∃t,u=Value.str x t from r);subst e;exact vY P w x t
theorem sL{P:_1}{w:World}:∀{ks:List da}{us:_T},bf (ks.map kV) us->ItemsAre (dk P w) ks us
 |[],_,r=>by rw[Wg]at r;cases r;exact .nil
 |k::ks,_,r=>by
  rw[VB]at r;cases r with
  |cons h t=>exact .cons (Ae h) (sL t)
abbrev KT(H:Hp):List (List da×V)->List (List da×_Z×_X)->Prop:=Paired fun p q=>p.1=q.1/\H q.2.1=some (.tup (p.1.map kV))/\bo p.2 q.2.2
theorem KT.val{aI:List (List da×V)}{xs:List (List da×_Z×_X)}(r:KT H aI xs)(k:List da):nu (iX aI k) ((atKey xs k).map (·.2)):=by
 induction r with
 |nil=>exact True.intro
 | @cons p q ps qs h t ih=>
  obtain⟨h1,_,h2⟩:=h;by_cases e:p.1=k
  .have e':q.1=k:=h1.symm.trans e;have b:atKey (q::qs) k=some q.2:=by simp[atKey,Xa,e']
   rw[pV e,b];exact h2
  .have e':¬ q.1=k:=fun z=>e (h1.trans z);have b:atKey (q::qs) k=atKey qs k:=by simp[atKey,Xa,e']
   rw[pW e,b];exact ih
theorem KT.uK{aI:List (List da×V)}{xs:List (List da×_Z×_X)}(r:KT H aI xs)(k:List da){y:V}{u:_X}(ry:bo y u):
  KT H (aI.map fun kv=>if kv.1=k then(kv.1,y)else kv) (xs.map (putAt k u)):=by
 induction r with
 |nil=>exact .nil
 | @cons p q ps qs h t ih=>
  rw[VB,VB];refine .cons ?_ ih;obtain⟨h1,h2,h3⟩:=h;unfold putAt;by_cases e:p.1=k
  .rw[Vu e,Vu (h1.symm.trans e)];exact⟨h1,h2,ry⟩
  .rw[VA e,VA (fun z=>e (h1.trans z))];exact⟨h1,h2,h3⟩
theorem KT.put{aI:List (List da×V)}{xs:List (List da×_Z×_X)}(r:KT H aI xs)(k:List da){b:_Z}{y:V}{u:_X}(hb:H b=some (.tup (k.map kV)))(ry:bo y u):
  KT H (putK aI k y) (storedH xs k b u):=by
 have e:(aI.any fun kv=>decide (kv.1=k))=(atKey xs k).isSome:=by rw[wa,(r.val k).Bt,Option.isSome_map]
 unfold putK storedH;rw[e];by_cases q:(atKey xs k).isSome=true
 .rw[Vu q,Vu q];exact r.uK k ry
 .rw[VA q,VA q];exact Paired.snoc r ⟨rfl,hb,ry⟩
theorem KT.keeps{aI:List (List da×V)}{xs:List (List da×_Z×_X)}(r:KT H aI xs)(ht:∀b ys,H b=some (.tup ys)->H' b=some (.tup ys)):KT H' aI xs:=
 Paired.KL r fun _ _ z=>⟨z.1,ht _ _ z.2.1,z.2.2⟩
section
variable{a:_Z}
theorem JW{u:HO}(ok:il P w H h)(e:Rd H a u):ck P w H h a u:=e.ok ok
theorem wb{aI:List (da×V)}(ok:il P w H h)(e:Rd H a (.dK aI)):aI.length<=sizeLine/\(a==sysModules)=false/\∃vs,KV aI vs/\h.DictOf (dk P w) a vs:=
 show ck P w H h a (.dK aI)from JW ok e
theorem Pq{aI:List (da×V)}(ok:il P w H h)(e:H a=some (.dK aI)):aI.length<=sizeLine/\(a==sysModules)=false/\∃vs,KV aI vs/\h.DictOf (dk P w) a vs:=wb ok (.inl e)
theorem pX{ks:List da}(ok:il P w H h)(e:H a=some (.tup (ks.map kV))):(tupleKind (dk P w)).is h ks a:=by
 obtain⟨_,aF,r,o,h1,h2,n,h3⟩:=(show ck P w H h a (.tup (ks.map kV))from ok a _ e)
 exact⟨o,aF.toArray,n,h1,h2,h3,by simpa using sL r⟩
theorem wc{aI:List (List da×V)}(ok:il P w H h)(e:Rd H a (.dT aI)):aI.length<=sizeLine/\(a==sysModules)=false /\
  ∃xs,KT H aI xs/\h.DictOfH (tupleKind (dk P w)) a xs:=by
 obtain⟨z,y,xs,r,o,es,ep,h1,h2,h3,h4,h5⟩:=(show ck P w H h a (.dT aI)from JW ok e)
 refine⟨z,y,xs,r,o,es,ep,h1,h2,h3,h4,fun x hx=>?_,h5⟩;have all:∀{l:List (List da×V)}{m:List (List da×_Z×_X)},KT H l m->∀x∈m,(tupleKind (dk P w)).is h x.1 x.2.1:=by
  intro l m q
  induction q with
  |nil=>intro x hx;exact nomatch hx
  | @cons p q ps qs hq t ih=>
   intro x hx;rcases VU.mp hx with e|hx
   .subst e;exact pX ok (by rw[<-hq.1];exact hq.2.1)
   .exact ih x hx
 exact all r x hx
theorem Pr{aI:List (List da×V)}(ok:il P w H h)(e:H a=some (.dT aI)):aI.length<=sizeLine/\(a==sysModules)=false /\
  ∃xs,KT H aI xs/\h.DictOfH (tupleKind (dk P w)) a xs:=wc ok (.inl e)
end
def oZ(H:Hp)(a:_Z)(y:V)(r:Option V):Prop:=
 (∃aI k,Rd H a (.dK aI)/\y=kV k/\r=iX aI k)\/∃aI k b,Rd H a (.dT aI)/\y=.ref b/\H b=some (.tup (k.map kV))/\r=iX aI k
def uL(H:Hp)(a:_Z)(y v:V)(H':Hp):Prop:=
 (∃aI k,H a=some (.dK aI)/\y=kV k/\aI.length<sizeLine/\H'=upd H a (.dK (putK aI k v))) \/
 ∃aI k b,H a=some (.dT aI)/\y=.ref b/\H b=some (.tup (k.map kV))/\aI.length<sizeLine/\H'=upd H a (.dT (putK aI k v))
theorem oZ.k{H:Hp}{a:_Z}{aI:List (da×V)}{k:da}(e:H a=some (.dK aI)):oZ H a (kV k) (iX aI k):=.inl ⟨aI,k,.inl e,rfl,rfl⟩
theorem oZ.t{a b:_Z}{aI:List (List da×V)}{k:List da}(e:H a=some (.dT aI))(eb:H b=some (.tup (k.map kV))):oZ H a (.ref b) (iX aI k):=.inr ⟨aI,k,b,.inl e,rfl,eb,rfl⟩
theorem uL.k{H:Hp}{a:_Z}{aI:List (da×V)}{k:da}{v:V}(e:H a=some (.dK aI))(hl:aI.length<sizeLine):uL H a (kV k) v (upd H a (.dK (putK aI k v))):=.inl ⟨aI,k,e,rfl,hl,rfl⟩
theorem uL.t{a b:_Z}{aI:List (List da×V)}{k:List da}{v:V}(e:H a=some (.dT aI))(eb:H b=some (.tup (k.map kV)))(hl:aI.length<sizeLine):
  uL H a (.ref b) v (upd H a (.dT (putK aI k v))):=.inr ⟨aI,k,b,e,rfl,eb,hl,rfl⟩
section
variable{s:_Y}{a:_Z}{y v:V}{u r:_X}{o:Option V}{E:_O}
theorem aM.big(I:aM X ag σ H s):sysModules<s.heap.objs.size:=by have h:mainGlobals<s.heap.objs.size:=(I.mod.glob.keeps I.bk).lt;exact ZQ (by decide) h
theorem Bu(hu:A.units+1<cLine)(I:aM X ag σ H s)(g:oZ H a y (some v))(ry:bo y u)(h:∀w' s',aM X ag σ H s'->bo v w'->Q w' s'):
  wpAny (model X.prog X.w) A (getItem (.ref a) u) Q E s:=by
 rcases g with⟨aI,k,e,ey,l⟩|⟨aI,k,b,e,ey,eb,l⟩
 .subst ey;obtain⟨z,hd,vs,rel,dd⟩:=wb I.bN e;obtain⟨w',hw,yi⟩:=nu.some_of (v:=v) (o:=valueAt vs k) (by rw[l];exact rel.val k);exact wpAny_getItem_of (Ae ry) dd.mapOf hw (h w' _ (I.tok _) yi)
 .subst ey;cases(show u=Value.ref b from ry);obtain⟨z,hd,xs,rel,dd⟩:=wc I.bN e;obtain⟨w',hw,yi⟩:=nu.some_of (v:=v) (o:=(atKey xs k).map (·.2)) (by rw[l];exact rel.val k);obtain⟨p,hp,R4⟩:=Option.map_eq_some_iff.mp hw;refine wpAny_getItem_heap (Zh hu) (pX I.bN eb) dd hp ?_;rw[R4];exact h w' _ (I.tok _) yi
theorem Af{t':Nat}{ob:HO}(I:aM X ag σ H s)(mu:OR (H a))(hs:Heap.SameBut a s.heap h')(he:∃q,h'.get? a=some q)(new:ck X.prog X.w (upd H a ob) h' a ob):
  aM X ag σ (upd H a ob) {s with heap:=h',toks:=t'}:=
 I.write (x:=a) (e:=a) mu (.inl rfl) (fun b q hb z=>(hs.2 b hb).trans z) he new
theorem Ly{aI:List (da×V)}{vs:List (da×_X)}(z:aI.length<=sizeLine)(hd:(a==sysModules)=false)(rel:KV aI vs)(dd:h'.DictOf (dk P w) a vs):
  ck P w H' h' a (.dK aI):=⟨z,hd,vs,rel,dd⟩
theorem Bv{Q:Unit->_Y->Prop}(hu:A.units+1<cLine)(I:aM X ag σ H s)(g:uL H a y v H')(ry:bo y u)(rv:bo v r)(h:∀s',aM X ag σ H' s'->Q () s'):
  wpAny (model X.prog X.w) A (setItem (.ref a) u r) Q E s:=by
 rcases g with⟨aI,k,e,ey,l,eH⟩|⟨aI,k,b,e,ey,eb,l,eH⟩
 .subst ey eH;obtain⟨z,hd,vs,rel,dd⟩:=Pq I.bN e;have hz:vs.length<=sizeLine:=by rw[<-rel.length];exact z
  have hl:(putK aI k v).length<=sizeLine:=by have:=jG aI k v;lia
  refine wpAny_setItem_pairs (hsz:=hz) (Ae ry) dd fun h' R5 hs=>h _ ?_;have he:∃q,h'.get? a=some q:=let⟨q,_,_,hq,_⟩:=R5;⟨q,hq⟩
  exact Af I (by rw[e];exact True.intro) hs he (Ly hl hd (rel.put k rv) R5)
 .subst ey eH;cases(show u=Value.ref b from ry);obtain⟨z,hd,xs,rel,dd⟩:=Pr I.bN e;have hz:xs.length<=sizeLine:=by rw[<-Zd rel];exact z
  have hl:(putK aI k v).length<=sizeLine:=by have:=jG aI k v;lia
  refine wpAny_setItem_heap (hsz:=hz) (Zh hu) (pX I.bN eb) dd fun h' R5 hs=>h _ ?_;obtain⟨q,es,ep,hq,h2,h3,h4,_,h5⟩:=R5;refine Af I (by rw[e];exact True.intro) hs ⟨q,hq⟩ ⟨hl,hd,_,(rel.put k eb rv).keeps fun c ys ec=>?_,q,es,ep,hq,h2,h3,h4,h5⟩;rw[aH (OQ ec e (fun z=>nomatch z))];exact ec
end
section
variable{s:_Y}{a:_Z}{aI:List (da×V)}{k:da}{u:_X}{E:_O}
end
def Lz(i:Expr):Prop:=∀ov iv,subscripted i false ov iv=operate [ov,iv] (getItem ov iv)
theorem G_{E:_O}{s:_Y}{env:Env}{slice:Expr}{T id:String}(hl:typeLookup (.type T) "__getitem__" = pure (some (.builtin id)))(hs:Lz slice)(h:wpAny (model prog w) A (eval value env) (fun o s₁=>wpAny (model prog w) A (eval slice env) (fun i s₂=>s₂.TypeIs o T/\wpAny (model prog w) A (getItem o i) Q E s₂) E s₁) E s):
  wpAny (model prog w) A (eval (.Subscript value slice pos) env) Q E s:=by
 refine Subscript_ (Ws h (fun o s₁ h₁=>Ws h₁ (fun i s₂ h₂=>?_) fun _ _ x=>x) fun _ _ x=>x);obtain⟨hT,h₂⟩:=h₂;unfold subscriptTail;refine Vl ?_;rw[getitemInPython_of_ne hT.not_modules];refine Vl (wpAny_specialOf hT hl ?_);have fin:wpAny (model prog w) A (subscripted slice false o i) (fun r s₃=>wpAny (model prog w) A (letTemporaryGo value o r >>= fun _=>pure r) Q E s₃) E s₂:=by rw[hs o i];exact wpAny_operating (Ws h₂ (fun r s₃ h₃=>Vl (wpAny_letTemporaryGo (Vq h₃))) fun _ _ x=>x)
 first
  |exact Vq (Vl fin)
  |exact Vl (Vq (Vl fin))
  |exact Vl fin
theorem wd{s:_Y}{a:_Z}{y:V}{o:Option V}(I:aM X ag σ H s)(g:oZ H a y o):s.TypeIs (.ref a) "dict":=by
 rcases g with⟨aI,k,e,_,_⟩|⟨aI,k,b,e,_,_,_⟩
 .obtain⟨_,_,vs,_,dd⟩:=wb I.bN e;exact dd.typeIs
 .obtain⟨_,_,xs,_,dd⟩:=wc I.bN e;exact dd.typeIs
def Pt(td ty:TE):TE:=fun σ H Q=>td σ H fun x H1=>ty σ H1 fun y H2=>∃a v,x=.ref a/\oZ H2 a y (some v)/\Q v H2
def Pu(td ty tv:TE):TS:=fun D σ H=>tv σ H fun v H1=>td σ H1 fun x H2=>ty σ H2 fun y H3=>∃a H4,x=.ref a/\uL H3 a y v H4/\D.nx σ H4
section
variable{i:Expr}{ty tv:TE}
theorem G!(hu:X.A.units+1<cLine)(ho:PE X o td)(hi:PE X i ty)(hs:Lz i):PE X (.Subscript o i pos) (Pt td ty):=by intro ag s σ H Q I h;refine G_ F.slot_dict_getitem.lookup hs (df (ho ag s σ H _ I h) fun u s1⟨x,H1,I1,rx,q1⟩=>df (hi ag s1 σ H1 _ I1 q1) fun iv s2⟨y,H2,I2,ry,a,v,ex,g,q2⟩=>?_);subst ex;obtain rfl:u=Value.ref a:=rx;exact⟨wd I2 g,Bu hu I2 g ry fun w' s3 I3 yi=>⟨v,H2,I3,yi,q2⟩⟩
theorem G?(hu:X.A.units+1<cLine)(ho:PE X o td)(hi:PE X i ty)(hv:PE X value tv)(hs:swapsWith value (some (.Subscript o i pos')) pos.line X.env=pure false):
  PS X (.Assign [.Subscript o i pos'] value pos) (Pu td ty tv):=by
 intro ag s σ H D I h;refine wpAny_Assign_Subscript (df (hv ag s σ H _ I h) fun r s1⟨v,H1,I1,rv,q1⟩=>df (ho ag s1 σ H1 _ I1 q1) fun u s2⟨x,H2,I2,rx,q2⟩=>df (hi ag s2 σ H2 _ I2 q2) fun iv s3⟨y,H3,I3,ry,a,H4,ex,g,q3⟩=>?_) hs;subst ex;obtain rfl:u=Value.ref a:=rx;exact Bv hu I3 g ry rv fun s4 I4=>⟨σ,H4,I4,q3⟩
end
theorem Dm(h:Heap)(hb:sysModules<h.objs.size):ck P w H (h.push {cls:=.type "dict",data:=.dict #[]}) h.objs.size (.dT []):=
 ⟨V? _,V9.mpr (Xi (VS hb)),[],.nil,_,#[],0,VJ _ rfl,⟨rfl,rfl,rfl⟩,rfl,rfl,Y?⟩
def LA:TE:=fun _ H Q=>∀p,H p=none->Q (.ref p) (upd H p (.dT []))
theorem Dp:PE X (.Dict [] [] pos) LA:=fun ag s σ H Q I h=>
 wpAny_Dict_empty ⟨.ref s.heap.objs.size,_,I.laid (a:=s.heap.objs.size) (o:=.dT []) (t':=s.toks) (fun _ _ q=>Vn _ q) (Vo _) (Dm s.heap I.big),rfl,h _ (I.bN.fresh (Vo _))⟩
structure M2(X:Cx)(o:Expr)(m:Str)(apos:Pos)(e f:Expr)(bV:Pos):Prop where
 base:attributeBase o m X.env (eval o X.env)=eval o X.env
 R6:((backTo bV (starEach [e,f] X.env)).all (fun x => !x.1)&&(backToKw bV (keywordEach [] X.env)).all (fun x=>x.1.isSome)
  && decide (([e,f]:List Expr).length+([]:List Keyword).length+(if([]:List Keyword).isEmpty then 0 else 1)<30))=true
 line:(apos.endLine==bV.line)=true
 trees:backTo bV (starEach [e,f] X.env)=[(false,eval e X.env),(false,eval f X.env)]
def R7(H:Hp)(a:_Z):Prop:=(∃aI,Rd H a (.dK aI))\/∃aI,Rd H a (.dT aI)
theorem LB{s:_Y}{a:_Z}(I:aM X ag σ H s)(d:R7 H a):
  s.TypeIs (.ref a) "dict" /\ (∀b,Value.ref a=.ref b->∃ob,s.heap.get? b=some ob/\ob.dict=none)/\(a==sysModules)=false:=by
 rcases d with⟨aI,e⟩|⟨aI,e⟩
 .obtain⟨_,hd,vs,_,dd⟩:=wb I.bN e;refine⟨dd.typeIs,fun b q=>?_,hd⟩;cases q;obtain⟨ob,_,_,h1,h2,_⟩:=dd;exact⟨ob,h1,h2.2.1⟩
 .obtain⟨_,hd,xs,_,dd⟩:=wc I.bN e;refine⟨dd.typeIs,fun b q=>?_,hd⟩;cases q;obtain⟨ob,_,_,h1,h2,_⟩:=dd;exact⟨ob,h1,h2.2.1⟩
section
variable{s:_Y}{a:_Z}{y d:V}{u r:_X}{o:Option V}{E:_O}
theorem LC(hu:A.units+1<cLine)(I:aM X ag σ H s)(g:oZ H a y o)(ry:bo y u)(rd:bo d r)(h:∀w' s',aM X ag σ H s'->bo (o.getD d) w'->Q w' s'):
  wpAny (model X.prog X.w) A (call (.builtin "dict.get") [.ref a,u,r]) Q E s:=by
 rcases g with⟨aI,k,e,ey,l⟩|⟨aI,k,b,e,ey,eb,l⟩
 .subst ey;obtain⟨z,hd,vs,rel,dd⟩:=wb I.bN e;refine call_meetsIn Ys dd.typeIs ZN (ZF _ _ _) (meets_dict_get_default (dk X.prog X.w) a (Ae ry) hd r) ⟨_,dd.mapOf,h _ _ (I.tok _) ?_⟩;rw[l];exact(rel.val k).getD rd
 .subst ey;cases(show u=Value.ref b from ry);obtain⟨z,hd,xs,rel,dd⟩:=wc I.bN e;refine call_meetsIn Ys dd.typeIs ZN (ZF _ _ _) (meetsH_dict_get_default (tupleKind (dk X.prog X.w)) a b hd r) ⟨Zh hu,k,xs,pX I.bN eb,dd,h _ _ (I.tok _) ?_⟩;rw[l];exact(rel.val k).getD rd
end
def LD(td ty tx:TE):TE:=fun σ H Q=>td σ H fun x H1=>∃a,x=.ref a/\R7 H1 a/\ty σ H1 fun y H2=>tx σ H2 fun z H3=>∃o,oZ H3 a y o/\Q (o.getD z) H3
section
variable{f:Expr}{ty tx:TE}
theorem Dq(hu:X.A.units+1<cLine)(ho:PE X o td)(he:PE X e ty)(hf:PE X f tx)(m:M2 X o "get" apos e f bV):PE X (.Call (.Attribute o "get" apos) [e,f] [] bV) (LD td ty tx):=by
 intro ag s σ H Q I h;refine wpAny_Call_method m.base m.R6 m.line F.plainAttrs_dict Ys F.type_dict_get (df (ho ag s σ H _ I h) fun u s1⟨x,H1,I1,rx,a,ex,d,q1⟩=>?_);subst ex;obtain rfl:u=Value.ref a:=rx;obtain⟨t1,t2,_⟩:=LB I1 d;refine⟨t1,t2,?_⟩;rw[m.trees];refine YI rfl (Y8 (Zl (df (he ag s1 σ H1 _ I1 q1) fun iv s2⟨y,H2,I2,ry,q2⟩=>
  Zl (df (hf ag s2 σ H2 _ I2 q2) fun fv s3⟨z,H3,I3,rz,ov,g,q3⟩=>Calls.spliced_nil ?_))))
 exact LC hu I3 g ry rz fun w' s4 I4 yi=>⟨_,H3,I4,yi,q3⟩
end
section
variable{s:_Y}{a:_Z}{aI:List (da×V)}{E:_O}
end
section
variable{s:_Y}{a:_Z}{y:V}{u:_X}{E:_O}
end
section
variable[DecidableEq κ]
end
theorem kS.upd{H H':Hp}{p:_Z}{o:HO}(e:kS H H')(h:H' p=none):kS H (upd H' p o):=fun b u q=>by rw[aH (bG (e b u q) h)];exact e b u q
def gP(k:Nat)(i:Int):Prop:=i.natAbs<2 ^ k
theorem gP.bits{k:Nat}{i:Int}(h:gP k i):Builtin.Int.intBits i<=k:=by
 unfold Builtin.Int.intBits;by_cases hz:(i==0)=true
 .rw[Vu hz];exact V? _
 .rw[VA hz];have h0:i.natAbs≠0:=by intro e;apply hz;have:i=0:=_i.mp e;simp[this]
  have:=(Yx h0).mpr h;lia
theorem gP.mono{k:Nat}{i:Int}(h:gP j i)(hk:j<=k):gP k i:=VE h (WW (by decide) hk)
theorem gP.mul{k:Nat}{x y:Int}(h1:gP j x)(h2:gP k y):gP (j+k) (x*y):=by show(x*y).natAbs<2 ^ (j+k);rw[Int.natAbs_mul,Ze];exact Nat.mul_lt_mul'' h1 h2
def Ag(i j:Int):Prop:=∃a b,gP a i/\gP b j/\a<=2 ^ 20/\b<=2 ^ 20
theorem Ag.ok{i j:Int}(h:Ag i j):IntMulOk i j:=by obtain⟨a,b,h1,h2,h3,h4⟩:=h;exact IntMulOk.of_bits (Vx h1.bits h3) (Vx h2.bits h4)
def Ah(i j:Int):Prop:=j≠0/\gP 9000 j
theorem Ah.ok{i j:Int}(h:Ah i j):Builtin.divisionGoesByPylong i j=false:=
 Zx ((Yx (by intro e;exact h.1 (_i.mp e))).mpr h.2)
theorem G':dq X (binaryOp .Mult) (rI Ag fun i j=>.int (i*j)):=Oj fun _ _ _ _ _ _ _ hc q=>PyProof.Rows.mul_int q hc.ok
theorem Dr:dq X (binaryOp .FloorDiv) (rI Ah fun i j=>.int (i.fdiv j)):=Oj fun _ _ _ _ _ _ _ hc q=>floordiv_int hc.1 q (.inl hc.ok)
theorem uM{s:_Y}{target:Expr}{scope:Scope}{it acc:_X}{env:Env}{R:Result->_Y->Prop}(I:Nat->_Y->Prop)
  (turn:∀ n s,I n s->wpAny (model prog w) A (pyNext it) (fun r s₁=>match r with
   |none=>R (.ok .next) s₁
   |some v=>wpAny (model prog w) A (letOwnedTupleGo target it v) (fun _ JX=>wpAny (model prog w) A (assign target env v) (fun _ s₂=>
     wpAny (model prog w) A (forIn ifs true fun c r=>if r=true then do let ok <- isTrue c env (eval c env);pure (ForInStep.yield ok)else pure (ForInStep.yield r)) (fun ok s₃=>
      if ok=true then wpAny (model prog w) A (eval elt env) (fun x s₄=>
       wpAny (model prog w) A (call (.builtin "list.append") [acc,x]) (fun _ s₅=>∃m,m<n/\I m s₅) (fun _ _=>False) s₄) (fun _ _=>False) s₃
      else ∃m,m<n/\I m s₃) (fun _ _=>False) s₂) (fun _ _=>False) JX) (fun _ _=>False) s₁) (fun _ _=>False) s)
  (n:Nat) (h:I n s):codeAny (model prog w) A (.compLoop (.ListComp elt [⟨target,iter,ifs,0⟩] scope pos) 0 it acc env) R s:=by
 refine codeAny_loop rfl I (fun n s hI=>?_) n h;show wpAny _ A ((compTurn (.ListComp elt [⟨target,iter,ifs,0⟩] scope pos) 0 it acc env).onRaise (fun x=>do noteFrame x env;theTreesLotGoes x)) _ _ s;refine wpAny_noted ?_;rw[compTurn_list];refine Vl (Z! (Vl (Ws (turn n s hI) (fun r s₁ h₁=>?_) fun _ _ h'=>h'.elim)));cases r with
 |none=>exact Vq h₁
 |some v=>
  refine Vl (Ws h₁ (fun _ JX Pw=>?_) fun _ _ h'=>h'.elim);refine Vl (Ws Pw (fun _ s₂ h₂=>Vl (Ws h₂ (fun ok s₃ h₃=>?_) fun _ _ h'=>h'.elim)) fun _ _ h'=>h'.elim);cases ok with
  |false=>exact Vq ⟨rfl,h₃⟩
  |true=>exact Vl (Vl (Ws h₃ (fun x s₄ h₄=>Vl (Ws h₄ (fun _ s₅ h₅=>Vq (Vq ⟨rfl,h₅⟩)) fun _ _ h'=>h'.elim)) fun _ _ h'=>h'.elim))
def CU(X:Cx)(ifs:List Expr)(t:TT):Prop:=
 ∀(ag:_Q)(s:_Y)(σ:St)(H:Hp)(Q:Bool->Hp->Prop),aM X ag σ H s->t σ H Q ->
  wpAny (model X.prog X.w) X.A (forIn ifs true fun c r=>if r=true then do let ok <- isTrue c X.env (eval c X.env);pure (ForInStep.yield ok)else pure (ForInStep.yield r)) (TP X ag σ Q) X.xe s
def Px:TT:=fun _ H Q=>Q true H
theorem Ha:CU X [] Px:=fun _ _ _ H _ I h=>wpAny_tests_nil ⟨H,I,h⟩
theorem Hb{c:Expr}{t:TT}(h:PT X c t):CU X [c] t:=fun ag s σ H Q I hw=>wpAny_tests_one (h ag s σ H Q I hw)
theorem il.Py{a:_Z}{o:HO}(x:il P w H h)(hn:H a=none)(new:ck P w (upd H a o) h a o):il P w (upd H a o) h:=fun b u e=>by
 by_cases hb:b=a
 .subst hb;rw[bu]at e;cases e;exact new
 .rw[aH hb]at e;exact(x b u e).kj (fun c v _ q=>q) (fun c q=>by rw[aH (bG q hn)];exact q) fun c xs q=>by rw[aH (bG q hn)];exact q
def rC(X:Cx)(N:_W)(scope:Scope)(cl:List (Str×_Z))(C:_Z)(fp:_V)(s:_Y)(H:Hp):Cx:=
 {X with N:=N,s₀:=s,H₀:=H,env:=compEnvC scope cl C X.env,outer:=X.stack,stack:=X.stack,ex:=fp,fn:=fun _=>false,pn:=[],xe:=fun _ _=>False}
def o5(k:Nat)(a_:List Nat)(σ:St):St:=List.replicate k none++a_.map fun j=>(σ[j]?).getD none
structure rQ(X:Cx)(N:_W)(scope:Scope)(cl:List (Str×_Z))(k:Nat)(a_:List Nat):Prop where
 o6:closureFor scope X.env=pure cl
 sub:∀x c,cl.lookup x=some c->X.env.cells.lookup x=some c
 has:∀x,((relabel scope X.env).names.lookup x=some .cell\/(relabel scope X.env).names.lookup x=some .free)->∃c,cl.lookup x=some c
 fu:∀x∈scope.names,x.2≠.cell
 kind:scope.kind=.function
 names:∀x∈scope.names,x.2=.local->scope.names.lookup x.1=some .local
 len:N.length=k+a_.length
 at_:∀i j x,a_[i]?=some j->N[k+i]?=some x->X.N[j]?=some x/\(X.env.kindOf x=some .cell\/X.env.kindOf x=some .free)/\((relabel scope X.env).names.lookup x=some .cell\/(relabel scope X.env).names.lookup x=some .free)
def we(J:It)(k:Nat)(a_:List Nat)(g:TG)(tt:TT)(te:TE)(σ:St)(H1:Hp)(Q:VK):Prop:=
 ∃W:Nat->Nat->List V->St->Hp->Prop,(∃m,W 0 m [] (o5 k a_ σ) H1)/\∀i m ys τ H,W i m ys τ H ->
  (J.stop i H/\ys.length<=sizeLine/\∀p,H p=none->Q (.ref p) (upd H p (.lst ys))) \/
  (J.go i H/\ys.length<sizeLine/\∀x H',J.O5 i H x H'->g x τ H' fun τ2 H2=>tt τ2 H2 fun b H3=>if b=true then te τ2 H3 fun y H4=>∃m',m'<m/\W (i+1) m' (ys++[y]) τ2 H4 else ∃m',m'<m/\W (i+1) m' ys τ2 H3)
@[irreducible] def pZ(k:Nat)(a_:List Nat)(wi:TI)(g:TG)(tt:TT)(te:TE):TE:=fun σ H Q=>wi σ H fun J H1=>we J k a_ g tt te σ H1 Q
theorem Dt{k:Nat}{Q:VK}(h:wi σ H fun J H1=>we J k a_ g tt te σ H1 Q):pZ k a_ wi g tt te σ H Q:=by unfold pZ;exact h
theorem sM{k:Nat}{Q:VK}(h:pZ k a_ wi g tt te σ H Q):wi σ H fun J H1=>we J k a_ g tt te σ H1 Q:=by unfold pZ at h;exact h
section
variable{s:_Y}
theorem Hc{k:Nat}{σ:St}{v:V}(h:(o5 k a_ σ)[i]?=some (some v)):∃j,k<=i/\a_[i-k]?=some j/\σ[j]?=some (some v):=by
 unfold o5 at h;by_cases hi:i<k
 .rw[VL (by simpa using hi),Ww]at h;split at h<;>cases h
 .rw[Vv (by simpa using Y! hi),We,VF]at h;cases e:a_[i-k]? with
  |none=>rw[e]at h;cases h
  |some j=>
   rw[e]at h;refine⟨j,Y! hi,rfl,?_⟩;have h':(σ[j]?).getD none=some v:=by simpa using h
   cases q:σ[j]? with
   |none=>rw[q]at h';cases h'
   |some o=>rw[q]at h';exact Xg some h'
theorem aM.block{scope:Scope}{cl:List (Str×_Z)}{k:Nat}{t':Nat}{m':_P}(I:aM X ag σ H s)(B:rQ X N scope cl k a_)(hf:∀b∈fp,rK X ag H b)(hC:s.heap.objs.size<=C)(Pz:∀b∈fp,∃o,s.heap.get? b=some o)(kp:∀b o,s.heap.get? b=some o->h'.get? b=some o)(ns:h'.Ns C m'):aM (rC X N scope cl C fp s H) [] (o5 k a_ σ) H {s with heap:=h',toks:=t'}:=by
 have below:∀{b:_Z}{o:Obj},s.heap.get? b=some o->b≠C:=fun e=>VS (VE (Vz e) hC);have PB:∀x c,cl.lookup x=some c->∃v,s.heap.IsCell c v:=fun x c e=>I.cell x c (B.sub x c e);refine⟨⟨I.ok.mod,?_,I.ok.glob,I.ok.blt,hC,fun x y c h1 h2=>I.ok.inj x y c (B.sub x c h1) (B.sub y c h2),fun x hx=>B.has x hx,fun x c h1 _=>?_,I.ok.hd,I.ok.frames,.inl rfl,fun b hb=>⟨?_,fun x c e=>?_⟩,I.bs,Vx I.ok.Bf I.sz,fun b o e hb=>?_,fun b hb=>?_,I.stack,I.uo⟩,
  rfl,I.bare,Un.kept kp,⟨m',ns,fun i x v h1 h2 h3=>?_⟩,fun x c e=>?_,?_,fun x c e=>I.gO x c (B.sub x c e),fun p hp=>absurd (show p∈([]:_Q)from hp) (by simp),I.bN.kept kp,?_⟩
 .exact B.kind
 .exact absurd h1 (by simp[rC])
 .obtain⟨o,e⟩:=Pz b hb;exact below e
 .exact(hf b hb).2.2.2.2.1 x c (B.sub x c e)
 .obtain⟨_,_,_,h4,_⟩:=hf b hb;rcases h4 with z|z
  .exact I.ok.vZ b o e z
  .exact absurd (VE (Vz (I.ok.bs b o e).1) z) (Wc _)
 .intro z;rcases VU.mp (I.kM b z)with e|e
  .exact(hf b hb).2.1 e
  .exact(hf b hb).2.2.1 e
 .obtain⟨j,hk,hj,hσ⟩:=Hc h2;have hN:N[k+(i-k)]?=some x:=by rw[Nat.add_sub_cancel' hk];exact h1
  obtain⟨a1,a2,a3⟩:=B.at_ (i-k) j x hj hN;obtain⟨m,hn,hl⟩:=I.loc;have Tj:Gh X.env.scope x:=by
   rcases a2 with z|z
   .exact .inr (.inl z)
   .exact .inr (.inr z)
  obtain⟨u,r,l⟩:=hl j x v a1 hσ Tj;refine⟨u,r,.inr ⟨a3,?_⟩⟩;rcases l with⟨z,_⟩|⟨_,c,e,cc⟩
  .rcases a2 with y|y<;>(rw[z]at y;cases y)
  .obtain⟨c',e'⟩:=B.has x a3;have:X.env.cells.lookup x=some c':=B.sub x c' e';rw[e]at this;cases this;obtain⟨o,ho,hd⟩:=cc;exact⟨c,e',o,kp c o ho,hd⟩
 .obtain⟨v,o,ho,hd⟩:=PB x c e;exact⟨v,o,kp c o ho,hd⟩
 .exact I.bN.fresh hC
 .show(o5 k a_ σ).length=N.length;unfold o5;rw[Vr,We,Vm,B.len]
def Du(X:Cx)(ag:_Q)(σ:St)(s:_Y)(Q:VK)(acc:_X)(C:_Z)(s':_Y):Prop:=
 ∃D H',acc=.ref D/\s.heap.objs.size<=C/\aM X ag σ H' s'/\H' C=none/\(∃m,s'.heap.Ns C m)/\Q (.ref D) H'
theorem sN{scope:Scope}{cl:List (Str×_Z)}{k:Nat}{it:_Z}{tn:Nat->Heap->Prop}{J:It}{Q:VK}{RR:_X->_Z->Result->_Y->Prop}{E:_O}(hc:X.calm=true)(B:rQ X N scope cl k a_)(hg:∀C fp s H,PG (rC X N scope cl C fp s H) tg g)(hi:∀C fp s H,CU (rC X N scope cl C fp s H) ifs tt)(he:∀C fp s H,PE (rC X N scope cl C fp s H) elt te)(I:aM X ag σ H s)(T:Turn X.prog X.w X.K tg J fp it tn)(st:tn 0 s.heap)(hf:∀b∈fp,rK X ag H b)(h:we J k a_ g tt te σ H Q)(hRR:∀acc C s',Du X ag σ s Q acc C s'->RR acc C (.ok .next) s'):
  wpAny (model X.prog X.w) X.A (newList []) (fun acc s₃=>wpAny (model X.prog X.w) X.A (newFunctionEnv scope X.env.globals cl [] X.env.qual none .none (some X.env)) (fun PD s₄=>
   codeAny (model X.prog X.w) X.A (.compStart (.ListComp elt [⟨tg,iter,ifs,0⟩] scope pos) 0 (.ref it) acc {PD with scope:=relabel scope X.env}) (RR acc PD.locals) s₄) E s₃) E s:=by
 obtain⟨W,⟨m0,w0⟩,turn⟩:=h;refine Wn (wpAny_newFunctionEnv B.fu (by intro y hy;simp at hy) (fun h₁ yk uN=>?_) B.kind);dsimp only at yk uN⊢;generalize TX:s.heap.push {cls:=.type "list",dict:=none,data:=.seq ([]:_T).toArray} = H2 at yk uN⊢;have hC:H2.objs.size=s.heap.objs.size+1:=by rw[<-TX,XX]
 have R8:s.heap.objs.size<=H2.objs.size:=by rw[hC];exact Nat.le_succ _
 have R9:s.heap.objs.size≠H2.objs.size:=by rw[hC];exact VS (Y9 _)
 have old:∀b o,s.heap.get? b=some o->h₁.get? b=some o:=fun b o e=>uN.extBut b o (VS (VE (Vz e) R8)) (Vn _ (TX▸Vn _ e));have LF:h₁.get? s.heap.objs.size=some {cls:=.type "list",data:=.seq ([]:_T).toArray 0}:=uN.extBut _ _ R9 (Vn _ (TX▸VJ _ rfl));have TY:=T.obj 0 _ st;have Pz:∀b∈fp,∃o,s.heap.get? b=some o:=fun b hb=>let⟨o,e,_⟩:=TY b hb;⟨o,e⟩
 have hDf:∀b∈fp,b≠s.heap.objs.size:=fun b hb z=>by obtain⟨o,e⟩:=Pz b hb;exact absurd (Vz e) (by rw[z];exact Wc _)
 have hD0:H s.heap.objs.size=none:=I.bN.fresh (Vo _);have JY:tn 0 h₁:=T.keep 0 _ _ st fun b _ o e=>old b o e;have PF:∀x c,cl.lookup x=some c->c≠s.heap.objs.size:=fun x c e z=>by obtain⟨v,o,ho,_⟩:=I.cell x c (B.sub x c e);exact absurd (Vz ho) (by rw[z];exact Wc _)
 have TZ:∀b∈gN X.stack,b≠s.heap.objs.size:=fun b hb z=>by obtain⟨_,o,ho,_⟩:=I.stack.mem hb;exact absurd (Vz ho) (by rw[z];exact Wc _)
 have loop:∀s₃:_Y,s₃ = {s with heap:=h₁,toks:=s.toks+([]:List (Str×_X)).length} ->
   codeAny (model X.prog X.w) X.A (.compLoop (.ListComp elt [⟨tg,iter,ifs,0⟩] scope pos) 0 (.ref it) (.ref s.heap.objs.size) (compEnvC scope cl H2.objs.size X.env)) (RR (.ref s.heap.objs.size) H2.objs.size) s₃:=by
  rintro s₃ rfl;generalize xZ:rC X N scope cl H2.objs.size fp s H=XB;have eP:XB.prog=X.prog:=by rw[<-xZ];rfl
  have eW:XB.w=X.w:=by rw[<-xZ];rfl
  have eK:XB.K=X.K:=by rw[<-xZ];rfl
  have eA:XB.A=X.A:=by rw[<-xZ];rfl
  have eE:XB.env=compEnvC scope cl H2.objs.size X.env:=by rw[<-xZ];rfl
  have eL:XB.env.locals=H2.objs.size:=by rw[eE];rfl
  have eF:XB.fs=gN X.stack:=by rw[<-xZ];rfl
  have eX:XB.ex=fp:=by rw[<-xZ];rfl
  have eN:XB.pn=[]:=by rw[<-xZ];rfl
  have e0:XB.s₀=s:=by rw[<-xZ];rfl
  have eC:XB.calm=true:=by rw[<-xZ];exact hc
  have ecl:XB.env.cells=cl:=by rw[eE];rfl
  have T1:XB.xe=fun _ _=>False:=by rw[<-xZ];rfl
  have rD:PG XB tg g:=by rw[<-xZ];exact hg _ _ _ _
  have wg:CU XB ifs tt:=by rw[<-xZ];exact hi _ _ _ _
  have he':PE XB elt te:=by rw[<-xZ];exact he _ _ _ _
  have I0:aM XB [] (o5 k a_ σ) H {s with heap:=h₁,toks:=s.toks+([]:List (Str×_X)).length}:=by rw[<-xZ];exact I.block B hf R8 Pz old yk
  -- Og JZ pinned
  have T2:∀{τ:St}{H':Hp}{s':_Y}{aF:_T}{nn:Nat},aM XB [] τ H' s'->s'.heap.get? s.heap.objs.size=some {cls:=.type "list",data:=.seq aF.toArray nn}->H' s.heap.objs.size=none ->
    aM XB [(s.heap.objs.size,{cls:=.type "list",data:=.seq aF.toArray nn})] τ H' s':=fun{τ H' s' aF nn}J hd hn=>J.pz fun p hp=>by
   obtain rfl:p=_:=V0.mp hp;refine⟨hd,hn,by rw[eL];exact R9,by rw[eF];exact fun z=>TZ _ z rfl,fun v z=>?_⟩;have z':Data.seq aF.toArray nn=Data.cell v:=z;cases z'
  have yd:∀{H':Hp}{o:Obj},(∀b∈fp,H' b=none)->∀b∈fp,rK XB [(s.heap.objs.size,o)] H' b:=fun{H' o}hn b hb=>by
   obtain⟨_,f1,f2,f3,f4,f5⟩:=hf b hb;refine⟨hn b hb,?_,?_,.inl (by rw[eX];exact hb),fun x c e=>f4 x c (B.sub x c (by rw[<-ecl];exact e)),fun p hp=>?_⟩
   .rw[eL];obtain⟨o,e⟩:=Pz b hb;exact VS (VE (Vz e) R8)
   .rw[eF];intro z;rcases VU.mp (I.kM b z)with e|e
    .exact f1 e
    .exact f2 e
   .rw[eN]at hp;obtain rfl:p=_:=V0.mp (by simpa using hp);exact Xi (hDf b hb)
  refine uM (fun n s'=>∃i ys aF nn τ H',aM XB [] τ H' s'/\s'.heap.get? s.heap.objs.size=some {cls:=.type "list",data:=.seq aF.toArray nn}/\H' s.heap.objs.size=none/\bf ys aF/\tn i s'.heap/\(∀b∈fp,H' b=none)/\W i n ys τ H') ?_ m0
   ⟨0,[],[],0,o5 k a_ σ,H,I0,LF,hD0,.nil,JY,fun b hb=>(hf b hb).1,w0⟩
  rintro n s3 ⟨i,ys,aF,nn,τ,H3,I3,hd3,hn3,R_,jE,O8,w3⟩;have I3':=T2 I3 hd3 hn3;rcases turn i n ys τ H3 w3 with⟨stop,hz,qn⟩|⟨go,hz,step⟩
  .have D1:=T.done XB eP eW eK eC i _ s3 τ H3 (fun _ _=>False) I3' (yd O8) jE stop;rw[eA]at D1;refine df D1 fun r s4⟨hr,I4⟩=>?_;subst hr;refine hRR _ _ s4 ?_;obtain⟨pd,PJ,_⟩:=I4.pin (s.heap.objs.size,{cls:=.type "list",data:=.seq aF.toArray nn}) (by rw[eN];exact V! _ (V0.mpr rfl));have Hd:Un (gN X.stack) fp H H3 s.heap s4.heap:=by have:=I4.base;rw[<-xZ]at this;exact this
   have new:ck X.prog X.w (upd H3 s.heap.objs.size (.lst ys)) s4.heap s.heap.objs.size (.lst ys):=⟨hz,aF,nn,R_,pd⟩
   have T3:il X.prog X.w H3 s4.heap:=by have:=I4.bN;rw[eP,eW]at this;exact this
   have bN:il X.prog X.w (upd H3 s.heap.objs.size (.lst ys)) s4.heap:=T3.Py PJ new;have os4:s4.os=s.os:=by have:=I4.os;rw[e0]at this;exact this
   have un:Un (gN X.stack) fp H (upd H3 s.heap.objs.size (.lst ys)) s.heap s4.heap:=
    ⟨Hd.keep,Hd.slot,fun b o e n hx=>by rw[aH (VS (Vz e))];exact Hd.free b o e n hx,Hd.there,
     fun b xs e=>by rw[aH (bG (Hd.jC b xs e) PJ)];exact Hd.jC b xs e,fun b o u e=>by rw[aH (bG (Hd.iT b o u e) PJ)];exact Hd.iT b o u e,
     fun b ps e=>by
      obtain⟨more,q⟩:=Hd.jD b ps e;exact⟨more,by rw[aH (bG q PJ)];exact q⟩⟩
   have I5:aM X ag σ (upd H3 s.heap.objs.size (.lst ys)) s4:=I.zV os4 un bN I4.bare fun b hb=>⟨(hf b hb).2.2.2.1,(hf b hb).2.1,(hf b hb).2.2.2.2.1,(hf b hb).2.2.2.2.2⟩
   have hC4:H3 H2.objs.size=none:=by have:=I4.free;rw[eL]at this;exact this
   refine⟨s.heap.objs.size,_,rfl,R8,I5,by rw[aH (Xi R9)];exact hC4,?_,qn _ PJ⟩;obtain⟨m4,ns4,_⟩:=I4.loc;rw[eL]at ns4;exact⟨m4,ns4⟩
  .have D1:=T.item XB eP eW eK eC i _ s3 τ H3 (fun _ _=>False) I3' (yd O8) jE go;rw[eA]at D1;refine df D1 fun r s4⟨u,hr,h4⟩=>?_;subst hr;refine df h4 fun _ s5⟨x,H5,I5,r5,y5,K_,Tr⟩=>?_;have Ts:=I5.pinned (yd Tr) (T.obj _ _ K_);have G:=rD _ s5 τ H5 x u _ Ts r5 (step x H5 y5);rw[eP,eW,eA,eE,T1]at G;refine df G fun _ s6⟨τ6,H6,I6,q6⟩=>?_;have G2:=wg _ s6 τ6 H6 _ I6 q6;rw[eP,eW,eA,eE,T1]at G2;refine df G2 fun ok s7⟨H7,I7,q7⟩=>?_
   -- O7 Og ag give back
   have back:∀{τ8:St}{H8:Hp}{s8:_Y},aM XB ([(s.heap.objs.size,({cls:=.type "list",data:=.seq aF.toArray nn}:Obj))]++pQ fp s5.heap) τ8 H8 s8 ->
     aM XB [] τ8 H8 s8/\s8.heap.get? s.heap.objs.size=some {cls:=.type "list",data:=.seq aF.toArray nn}/\H8 s.heap.objs.size=none/\tn (i+1) s8.heap/\∀b∈fp,H8 b=none:=fun{τ8 H8 s8}J=>by
    obtain⟨p1,p2,_⟩:=J.pin (s.heap.objs.size,{cls:=.type "list",data:=.seq aF.toArray nn}) (V! _ (WU _ (V0.mpr rfl)));refine⟨J.pz fun p hp=>absurd (show p∈([]:_Q)from hp) (by simp),p1,p2,T.keep _ _ _ K_ fun b hb o e=>(J.pin (b,o) (V! _ (V! _ (iV hb e)))).1,fun b hb=>?_⟩;obtain⟨o,e,d⟩:=T.obj _ _ K_ b hb;exact(J.pin (b,o) (V! _ (V! _ (iV hb e)))).2.1
   cases ok with
   |false=>
    rw[VA VI]at q7⊢;obtain⟨m',hm,w7⟩:=q7;obtain⟨J,a1,a2,a3,a4⟩:=back I7;exact⟨m',hm,i+1,ys,aF,nn,τ6,H7,J,a1,a2,R_,a3,a4,w7⟩
   |true=>
    rw[Vu rfl]at q7⊢;have G3:=he' _ s7 τ6 H7 _ I7 q7;rw[eP,eW,eA,eE,T1]at G3;refine df G3 fun v s8⟨y,H8,I8,r8,m',hm,w8⟩=>?_;obtain⟨J,a1,a2,a3,a4⟩:=back I8;have hlen:=R_.length;refine X4 F.slot_list_append ⟨_,a1,rfl⟩ F.entry_list_append (F.args_list_append_2 _ _) (_m s.heap.objs.size aF.toArray nn v (by rw[VC];lia)) ⟨a1,?_⟩;have q:=_y a1 (fun z=>z.push v);have other:∀b o,b≠s.heap.objs.size->s8.heap.get? b=some o->(s8.heap.update s.heap.objs.size (Obj.mapSeq fun z=>z.push v)).get? b=some o:=fun b o hb e=>(Wm s8.heap (Obj.mapSeq fun z=>z.push v) (Xi hb)).trans e;have J':aM XB [] τ6 H8 {s8 with heap:=s8.heap.update s.heap.objs.size (Obj.mapSeq fun z=>z.push v)}:=
     J.turned (t':=s8.toks) (it:=s.heap.objs.size) other a2 (by rw[eL];exact R9) (.inr (by rw[e0];exact Vo _)) (fun x c e=>PF x c (by rw[<-ecl];exact e)) fun p hp=>absurd (show p∈([]:_Q) by rw[eN]at hp;exact hp) (by simp)
    obtain⟨n2,q2⟩:∃n2,(s8.heap.update s.heap.objs.size (Obj.mapSeq fun z=>z.push v)).get? s.heap.objs.size=some {cls:=.type "list",data:=.seq (aF++[v]).toArray n2}:=by
     have e1:aF.toArray.push v=(aF++[v]).toArray:=by simp
     rw[<-e1];exact⟨_,q⟩
    exact⟨m',hm,i+1,ys++[y],aF++[v],n2,τ6,H8,J',q2,a2,R_.append (.cons r8 .nil),T.keep _ _ _ a3 fun b hb o e=>other b o (hDf b hb) e,a4,w8⟩
 exact codeAny_compStart_list (loop _ rfl) (T.self X.A 0 _ _ _ JY (loop _ rfl))
end
section
variable{scope:Scope}{Dv:Pos}{cl:List (Str×_Z)}{k:Nat}
theorem aM.sO{σ':St}{s s':_Y}(I:aM X ag σ H s)(hC:s.heap.objs.size<=C)(I':aM X ag σ' H' s')(hn:H' C=none)(sb:Heap.SameBut C s'.heap h'):
  aM X ag σ' H' {s' with heap:=h'}:=by
 refine I'.turned (t':=s'.toks) (it:=C) (fun b o hb e=>(sb.2 b hb).trans e) hn (Xe (VE I.lt hC)) (.inr (Vx I.sz hC)) (fun x c e=>?_) fun p hp=>?_
 .obtain⟨v,o,ho,_⟩:=I.cell x c e;exact VS (VE (Vz ho) hC)
 .exact VS (VE (Vz (I.pin p hp).1) hC)
theorem He(hc:X.calm=true)(B:rQ X N scope cl k a_)(hi:PI X tg iter wi)(hg:∀C fp s H,PG (rC X N scope cl C fp s H) tg g)(LG:∀C fp s H,CU (rC X N scope cl C fp s H) ifs tt)(he:∀C fp s H,PE (rC X N scope cl C fp s H) elt te)(hs:∀x,foldedSetIterable iter X.env x=pure x:=by intro _;rfl):PE X (.ListComp elt [⟨tg,iter,ifs,0⟩] scope pos) (pZ k a_ wi g tt te):=by intro ag s σ H Q I h;rw[eval_ListComp];refine Z' (use:=none) rfl hs B.o6 B.kind B.names (df (hi ag s σ H _ I (sM h)) fun xv s₁ h₁=>df h₁ fun RT s₂ h₂=>?_);obtain⟨it,fp,tn,J,H2,e,I2,T,cE,f2,hW⟩:=h₂;subst e;refine sN (RR:=fun acc C=>compPost (model X.prog X.w) X.A X.xe none (EP X ag σ Q) acc C) hc B hg LG he I2 T cE f2 hW ?_;rintro acc C s' ⟨D,H',rfl,hC,I',hn,⟨m,ns⟩,q⟩;exact⟨m,ns,fun h' sb=>⟨.ref D,H',I2.sO hC I' hn sb,rfl,q⟩⟩
theorem ym{py:Pos}(hN:X.N.Nodup)(hy:X.N[i]?=some y)(hx:Loc X.env.scope y)(hc:X.calm=true)(B:rQ X N scope cl k a_)(hi:PI X tg iter wi)(hg:∀C fp s H,PG (rC X N scope cl C fp s H) tg g)(LG:∀C fp s H,CU (rC X N scope cl C fp s H) ifs tt)(he:∀C fp s H,PE (rC X N scope cl C fp s H) elt te)(T4:swapsWith (.ListComp elt [⟨tg,iter,ifs,0⟩] scope pos) (some (.Name y py)) Dv.line X.env=pure true:=by rfl)(hs:∀x,foldedSetIterable iter X.env x=pure x:=by intro _;rfl)(hf:X.fn y=true\/X.env.scope.names.lookup y=some .local:=by first|exact .inl rfl|exact .inr rfl|assumption):
  PS X (.Assign [.Name y py] (.ListComp elt [⟨tg,iter,ifs,0⟩] scope pos) Dv) (GK (pZ k a_ wi g tt te) (v9 i)):=by
 intro ag s σ H D I h;rw[exec_Assign_Name_used _ _ _ _ T4];refine Vl (Z! (Vl ?_));show wpAny _ X.A (do let _ <- comprehension (.ListComp elt [⟨tg,iter,ifs,0⟩] scope pos) scope X.env _ (newList []) false (eval iter X.env) (some (assign (.Name y py) X.env))) _ _ s;refine Vl (Ws (Z' (use:=some (assign (.Name y py) X.env)) (Q:=fun _ s'=>SP X ag D .next s') rfl hs B.o6 B.kind B.names (df (hi ag s σ H _ I (sM h)) fun xv s₁ h₁=>df h₁ fun RT s₂ h₂=>?_)) (fun _ s' hq=>Vq (Vq hq)) fun _ _ e=>e);obtain⟨it,fp,tn,J,H2,e,I2,T,cE,f2,hW⟩:=h₂;subst e;refine sN (Q:=fun v H'=>v9 i v σ H' D.nx) (RR:=fun acc C=>compPost (model X.prog X.w) X.A X.xe (some (assign (.Name y py) X.env)) (fun _ s'=>SP X ag D .next s') acc C) hc B hg LG he I2 T cE f2 hW ?_;rintro acc C s' ⟨D',H',rfl,hC,I',hn,⟨m,ns⟩,q⟩;show wpAny _ _ (assign (.Name y py) X.env (.ref D')) _ _ s';refine wpAny_assign_Name (nv I' hN hy hx (v:=.ref D') rfl (fun RV I''⟨a,sb,ha⟩=>?_) hf);have hCa:C≠a:=by
  rcases ha with e|e
  .rw[e];exact Xe (VE I2.lt hC)
  .obtain⟨v,o,ho,_⟩:=I2.cell y a e;exact Xe (VE (Vz ho) hC)
 exact⟨m,ns.sameBut sb hCa,fun h' T5=>⟨_,H',I2.sO hC I'' hn T5,q⟩⟩
end
section
variable{K:_R}{Q:VK}
theorem Hf{J:It}{k:Nat}(n:Nat)(hn:n<=sizeLine)(Pv:Nat->List V->St->Hp->Prop)(h0:Pv 0 [] (o5 k a_ σ) H)(hgo:∀i ys τ H,i<n->Pv i ys τ H->J.go i H)(CT:∀ys τ H,Pv n ys τ H->J.stop n H)(hl:∀i ys τ H,Pv i ys τ H->ys.length<=i)(hs:∀i ys τ H x H',i<n->Pv i ys τ H->J.O5 i H x H'->∀K1:List V->St->Hp->Prop,(∀ys τ H,Pv (i+1) ys τ H->K1 ys τ H)->g x τ H' fun τ2 H2=>tt τ2 H2 fun b H3=>if b=true then te τ2 H3 fun y H4=>K1 (ys++[y]) τ2 H4 else K1 ys τ2 H3)(hd:∀ys τ H p,Pv n ys τ H->H p=none->Q (.ref p) (upd H p (.lst ys))):we J k a_ g tt te σ H Q:=by
 refine⟨fun i m ys τ H=>m=n-i/\i<=n/\Pv i ys τ H,⟨n,by simp,V? _,h0⟩,?_⟩;rintro i m ys τ H ⟨rfl,hi,p⟩;have hy:=hl i ys τ H p;by_cases uO:i<n
 .refine .inr ⟨hgo i ys τ H uO p,by lia,fun x H' y=>?_⟩;exact hs i ys τ H x H' uO p y (fun ys τ H=>∃m',m'<n-i/\m'=n-(i+1)/\i+1<=n/\Pv (i+1) ys τ H) fun ys τ H q=>⟨n-(i+1),by lia,rfl,uO,q⟩
 .have e:i=n:=by lia
  subst e;exact .inl ⟨CT ys τ H p,by lia,fun q hq=>hd ys τ H q p hq⟩
end
def dw(b:Bool)(h:Heap)(i l:_Z)(k:Nat):Prop:=match b with|true=>h.IsListIter i l k|false=>h.IsTupleIter i l k
def iC(b:Bool)(h:Heap)(l:_Z)(xs:Array _X):Prop:=match b with|true=>h.IsList l xs|false=>h.IsTuple l xs
theorem dw.keep{b:Bool}{i l:_Z}{k:Nat}(x:dw b h i l k)(e:∀o,h.get? i=some o->h'.get? i=some o):dw b h' i l k:=by
 cases b with
 |true=>exact Heap.IsListIter.at x e
 |false=>exact Heap.IsTupleIter.at x e
theorem iC.keep{b:Bool}{l:_Z}{xs:Array _X}(x:iC b h l xs)(e:∀o,h.get? l=some o->h'.get? l=some o):iC b h' l xs:=by
 cases b with
 |true=>exact Heap.IsList.at x e
 |false=>obtain⟨o,ho,r⟩:=(show h.IsTuple l xs from x);exact⟨o,e _ ho,r⟩
theorem dw.there{b:Bool}{i l:_Z}{k:Nat}(x:dw b h i l k):∃o n vs,h.get? i=some o/\o.cls=.type n/\o.data=.fields vs:=by
 cases b with
 |true=>obtain⟨o,h1,h2,h3⟩:=(show h.IsListIter i l k from x);exact⟨o,_,_,h1,h2,h3⟩
 |false=>obtain⟨o,h1,h2,h3⟩:=(show h.IsTupleIter i l k from x);exact⟨o,_,_,h1,h2,h3⟩
section
variable{E:_O}{s:_Y}
theorem p4{it t:_Z}{x:_X}(hit:s.heap.IsTupleIter it t i)(ht:s.heap.IsTuple t items)(hx:items[i]?=some x)(hQ:∀h',h'.IsTupleIter it t (i+1)->Heap.SameBut it s.heap h'->Q x {s with heap:=h'}):wpAny (model prog w) A (Builtin.SmallTypes.nextOf (.ref it)) Q E s:=by obtain⟨oi,J0,ci,di⟩:=id hit;obtain⟨ot,T6,_,nt,dt⟩:=ht;unfold Builtin.SmallTypes.nextOf;refine Vl (WR (name:=Str.ofString "__next__") hit.typeIs Xz (WQ Xz hit.typeIs Z1 ?_ (ZX _)));show wpAny _ _ (field (.ref it) 0 >>= _) _ _ s;refine Vl (WO J0 di (x:=.ref t) rfl ?_);show wpAny _ _ (if(Value.ref t==Value.none)=true then _ else _) _ _ s;rw[VA (show ¬ ((Value.ref t==Value.none)=true)from VI)];show wpAny _ _ (field (.ref it) 1 >>= _) _ _ s;refine Vl (WO J0 di (x:=.int i 0) rfl ?_);show wpAny _ _ (seqItems? (.ref t) >>= _) _ _ s;refine Vl (WM T6 dt ?_);simp only[WE,hx];refine Vl (YQ J0 di (by simp) (Vq ⟨x,rfl,Vq (hQ _ ?_ (Yd ..))⟩));exact⟨_,X2 _ J0 (_J (Yh di _)),(Obj.cls_mapFields ..).trans ci,by rw[Yh di];simp[rawInt]⟩
theorem rR{it t:_Z}(hh:A.handled=none)(hit:s.heap.IsTupleIter it t i)(ht:s.heap.IsTuple t items)(hx:items[i]?=none)(hE:∀h' e,Heap.ExtBut it s.heap h'->(∃o,h'.get? e=some o/\o.cls=.type "StopIteration")->E (.ref e) {s with heap:=h'}):wpAny (model prog w) A (Builtin.SmallTypes.nextOf (.ref it)) Q E s:=by
 obtain⟨oi,J0,ci,di⟩:=id hit;obtain⟨ot,T6,_,nt,dt⟩:=ht;unfold Builtin.SmallTypes.nextOf;refine Vl (WR (name:=Str.ofString "__next__") hit.typeIs Xz (WQ Xz hit.typeIs Z1 ?_ (ZX _)));show wpAny _ _ (field (.ref it) 0 >>= _) _ _ s;refine Vl (WO J0 di (x:=.ref t) rfl ?_);show wpAny _ _ (if(Value.ref t==Value.none)=true then _ else _) _ _ s;rw[VA (show ¬ ((Value.ref t==Value.none)=true)from VI)];show wpAny _ _ (field (.ref it) 1 >>= _) _ _ s;refine Vl (WO J0 di (x:=.int i 0) rfl ?_);show wpAny _ _ (seqItems? (.ref t) >>= _) _ _ s;refine Vl (WM T6 dt ?_);simp only[WE,hx];refine Vl (WV (Vl (YQ J0 di (by simp) ?_)));show wpAny _ _ (newExc (.type "StopIteration") [] >>= _) _ _ _;refine Vl ?_;simp only[newExc,newTuple];refine Vl (Wn ?_ (by size_fits));refine Vl (m:=firstArgMember _ _) (wpAny_of_eq (a:=Value.none) (by first|rfl|(simp only[firstArgMember];rfl)) ?_);refine Wn ?_ (by size_fits);simp only[raiseNew];refine Vl (wpAny_handled ?_)
 first|rw[show A.in1.handled=none from hh]|rw[hh]
 refine Vl (Vq (wpAny_throw ?_));exact hE _ _ (((Yd ..).extBut.push _).push _) ⟨_,VJ _ rfl,rfl⟩
theorem iY{b:Bool}{it t:_Z}{x:_X}(hit:dw b s.heap it t i)(ht:iC b s.heap t items)(hx:items[i]?=some x)(hQ:∀h',dw b h' it t (i+1)->Heap.SameBut it s.heap h'->Q x {s with heap:=h'}):wpAny (model prog w) A (Builtin.SmallTypes.nextOf (.ref it)) Q E s:=by
 cases b with
 |true=>exact wpAny_nextOf_list_item hit ht hx hQ
 |false=>exact p4 hit ht hx hQ
theorem oF{b:Bool}{it t:_Z}(hh:A.handled=none)(hit:dw b s.heap it t i)(ht:iC b s.heap t items)(hx:items[i]?=none)(hE:∀h' e,Heap.ExtBut it s.heap h'->(∃o,h'.get? e=some o/\o.cls=.type "StopIteration")->E (.ref e) {s with heap:=h'}):wpAny (model prog w) A (Builtin.SmallTypes.nextOf (.ref it)) Q E s:=by
 cases b with
 |true=>exact wpAny_nextOf_list_end hh hit ht hx hE
 |false=>exact rR hh hit ht hx hE
end
abbrev p5(b:Bool)(l:_Z):Obj:={cls:=.type (match b with|true => "list_iterator"|false => "tuple_iterator"),data:=.fields #[.ref l,.int 0 0]}
section
variable{E:_O}{s:_Y}
theorem dw.new(b:Bool){i l:_Z}(e:h.get? i=some (p5 b l)):dw b h i l 0:=by
 cases b with
 |true=>exact⟨_,e,rfl,rfl⟩
 |false=>exact⟨_,e,rfl,rfl⟩
theorem p7{b:Bool}{l:_Z}{xs:Array _X}(h:iC b s.heap l xs)(hQ:Q (.ref s.heap.objs.size) {s with heap:=s.heap.push (p5 b l)}):wpAny (model prog w) A (pyIter (.ref l)) Q E s:=by
 cases b with
 |true=>exact XU h hQ
 |false=>exact wpAny_pyIter_tuple h hQ
theorem Hg{b1:Bool}{TI TO:_Z}{xs:Array _X}{x y a b:_X}(D:ZipApart z TI TO i1 i2 l1 l2)(hz:IsZip s.heap z TI TO .none)(uP:IsPair s.heap TI (.ref i1) (.ref i2))(vV:IsPair s.heap TO a b)(h1:dw b1 s.heap i1 l1 k1)(h2:dw b2 s.heap i2 l2 k2)(Ai:iC b1 s.heap l1 xs)(Ac:iC b2 s.heap l2 ys)(hx:xs[k1]?=some x)(hy:ys[k2]?=some y)
  (hQ:∀ h',IsZip h' z TI TO (rawInt s.heap.objs.size)->IsPair h' TO x y->dw b1 h' i1 l1 (k1+1)->dw b2 h' i2 l2 (k2+1)->IsPair h' s.heap.objs.size x y ->
   (∀c o,c≠z->c≠TO->c≠i1->c≠i2->s.heap.get? c=some o->h'.get? c=some o)->Q (.ref s.heap.objs.size) {s with heap:=h'}):
  wpAny (model prog w) A (Builtin.«zip.__next__» ⟨[.ref z],[]⟩) (fun fin s'=>∃v,fin=.done (.ret v)/\Q v s') E s:=by
 show wpAny _ _ (field (.ref z) 2 >>= _) _ _ _;refine Vl (WO hz rfl (x:=.bool false) rfl ?_);show wpAny _ _ (field (.ref z) 3 >>= _) _ _ _;refine Vl (WO hz rfl (x:=.ref TI) rfl (Vl (WM uP rfl ?_)));show wpAny _ _ (Builtin.SmallTypes.ownedTupleIsFree (.ref z) >>= _) _ _ _;refine Vl ?_;unfold Builtin.SmallTypes.ownedTupleIsFree;refine Vl (WO hz rfl (x:=.none) rfl (Vq ?_));simp only[Xr];refine Vl (WV (Vl (WO hz rfl (x:=.ref TO) rfl (Vl (Xp hz (by simp) fun g₁ oG s₁=>?_)))));replace oG:IsZip g₁ z TI TO .ellipsis:=oG;refine Vl ?_;simp only[ZS,List.zipIdx_nil,List.forIn_cons,List.forIn_nil];refine Vl (Vl (Yr ?_));show wpAny _ _ (Builtin.SmallTypes.nextOf (.ref i1) >>= _) _ _ _;refine Vl (iY (b:=b1) (h1.keep fun o e=>s₁.extBut _ o D.i1z e) (Ai.keep fun o e=>s₁.extBut _ o D.l1z e) hx fun g₂ q₁ s₂=>Vq ?_);have t₂:IsPair g₂ TO a b:=s₂.extBut _ _ D.TOi1 (s₁.extBut _ _ D.TOz vV);refine Vl (WM t₂ rfl (Vl (YO t₂ fun g₃ t₃ s₃=>?_)));replace t₃:IsPair g₃ TO x b:=t₃;refine Vl (X9 (Vq (Vl (Vl (Yr ?_)))));show wpAny _ _ (Builtin.SmallTypes.nextOf (.ref i2) >>= _) _ _ _;refine Vl (iY (b:=b2) (h2.keep fun o e=>s₃.extBut _ o D.TOi2.symm (s₂.extBut _ o D.i12.symm (s₁.extBut _ o D.i2z e))) (Ac.keep fun o e=>s₃.extBut _ o D.l2TO (s₂.extBut _ o D.l2i1 (s₁.extBut _ o D.l2z e))) hy fun g₄ q₂ s₄=>Vq ?_);have t₄:IsPair g₄ TO x b:=s₄.extBut _ _ D.TOi2 t₃;refine Vl (WM t₄ rfl (Vl (YO t₄ fun g₅ t₅ s₅=>?_)));replace t₅:IsPair g₅ TO x y:=t₅;refine Vl (X9 (Vq (Vq (Vl (WM t₅ rfl (Vl (wpAny_newTuple ?_)))))));have sz:g₅.objs.size=s.heap.objs.size:=by rw[s₅.1,s₄.1,s₃.1,s₂.1,s₁.1]
 have z₅:IsZip g₅ z TI TO .ellipsis:=s₅.extBut _ _ D.TOz.symm (s₄.extBut _ _ D.i2z.symm (s₃.extBut _ _ D.TOz.symm (s₂.extBut _ _ D.i1z.symm oG)));have kp:∀c o,c≠z->c≠TO->c≠i1->c≠i2->s.heap.get? c=some o->g₅.get? c=some o:=fun c o n1 n2 n3 n4 e=>s₅.extBut _ _ n2 (s₄.extBut _ _ n4 (s₃.extBut _ _ n2 (s₂.extBut _ _ n3 (s₁.extBut _ _ n1 e))));have p₁:dw b1 g₅ i1 l1 (k1+1):=q₁.keep fun o e=>s₅.extBut _ o D.TOi1.symm (s₄.extBut _ o D.i12 (s₃.extBut _ o D.TOi1.symm e));have p₂:dw b2 g₅ i2 l2 (k2+1):=q₂.keep fun o e=>s₅.extBut _ o D.TOi2.symm e;have zlt:z<g₅.objs.size:=Vz z₅;show wpAny _ _ (Builtin.SmallTypes.ownedTupleHandOut (.ref z) (.ref g₅.objs.size) >>= _) _ _ _;refine Vl ?_;unfold Builtin.SmallTypes.ownedTupleHandOut;have z₆:IsZip (g₅.push {cls:=.type "tuple",data:=.seq #[x,y]}) z TI TO .ellipsis:=Vn _ z₅;refine Vl (Xp z₆ (by simp) fun g₇ z₇ s₇=>?_);replace z₇:IsZip g₇ z TI TO (rawInt g₅.objs.size):=z₇;refine Xp z₇ (by simp) fun g₈ z₈ s₈=>?_;replace z₈:IsZip g₈ z TI TO (rawInt g₅.objs.size):=z₈;have up:∀c o,c≠z->g₅.get? c=some o->g₈.get? c=some o:=fun c o n e=>s₈.extBut _ _ n (s₇.extBut _ _ n (Vn _ e));have t₈:IsPair g₈ g₅.objs.size x y:=s₈.extBut _ _ (Xe zlt) (s₇.extBut _ _ (Xe zlt) (VJ _ rfl));rw[sz]at z₈ t₈;refine Vq ⟨_,rfl,?_⟩;show Q (.ref g₅.objs.size) _;rw[sz];exact hQ g₈ z₈ (up _ _ D.TOz t₅) (p₁.keep fun o e=>up _ o D.i1z e) (p₂.keep fun o e=>up _ o D.i2z e) t₈ fun c o n1 n2 n3 n4 e=>up c o n1 (kp c o n1 n2 n3 n4 e)
theorem LH{b1:Bool}{TI TO:_Z}{xs:Array _X}{a b:_X}{Q:Fin->_Y->Prop}(hh:A.handled=none)(D:ZipApart z TI TO i1 i2 l1 l2)(hz:IsZip s.heap z TI TO .none)(uP:IsPair s.heap TI (.ref i1) (.ref i2))(vV:IsPair s.heap TO a b)(h1:dw b1 s.heap i1 l1 k1)(h2:dw b2 s.heap i2 l2 k2)(Ai:iC b1 s.heap l1 xs)(Ac:iC b2 s.heap l2 ys)(he:xs[k1]?=none\/ys[k2]?=none)(hE:∀h' e,(∀c o,c≠z->c≠TO->c≠i1->c≠i2->s.heap.get? c=some o->h'.get? c=some o)->(∃o,h'.get? e=some o/\o.cls=.type "StopIteration")->E (.ref e) {s with heap:=h'}):
  wpAny (model prog w) A (Builtin.«zip.__next__» ⟨[.ref z],[]⟩) Q E s:=by
 show wpAny _ _ (field (.ref z) 2 >>= _) _ _ _;refine Vl (WO hz rfl (x:=.bool false) rfl ?_);show wpAny _ _ (field (.ref z) 3 >>= _) _ _ _;refine Vl (WO hz rfl (x:=.ref TI) rfl (Vl (WM uP rfl ?_)));show wpAny _ _ (Builtin.SmallTypes.ownedTupleIsFree (.ref z) >>= _) _ _ _;refine Vl ?_;unfold Builtin.SmallTypes.ownedTupleIsFree;refine Vl (WO hz rfl (x:=.none) rfl (Vq ?_));simp only[Xr];refine Vl (WV (Vl (WO hz rfl (x:=.ref TO) rfl (Vl (Xp hz (by simp) fun g₁ oG s₁=>?_)))));replace oG:IsZip g₁ z TI TO .ellipsis:=oG;refine Vl ?_;simp only[ZS,List.zipIdx_nil,List.forIn_cons,List.forIn_nil];refine Vl (Vl (Yr ?_));show wpAny _ _ (Builtin.SmallTypes.nextOf (.ref i1) >>= _) _ _ _;cases hx:xs[k1]? with
 |none=>
  refine Vl (oF (b:=b1) hh (h1.keep fun o e=>s₁.extBut _ o D.i1z e) (Ai.keep fun o e=>s₁.extBut _ o D.l1z e) hx fun g₂ e s₂⟨oe,Hh,ce⟩=>?_);have z₂:IsZip g₂ z TI TO .ellipsis:=s₂ _ _ D.i1z.symm oG;have T7:e≠z:=fun q=>by subst q;rw[z₂]at Hh;cases Hh;simp at ce
  exact Xp z₂ (by simp) fun g₃ _ s₃=>hE g₃ e (fun c o n1 _ n3 _ q=>s₃.extBut _ _ n1 (s₂ _ _ n3 (s₁.extBut _ _ n1 q))) ⟨oe,s₃.extBut _ _ T7 Hh,ce⟩
 |some x=>
  have hy:ys[k2]?=none:=by
   rcases he with q|q
   .rw[hx]at q;cases q
   .exact q
  refine Vl (iY (b:=b1) (h1.keep fun o e=>s₁.extBut _ o D.i1z e) (Ai.keep fun o e=>s₁.extBut _ o D.l1z e) hx fun g₂ q₁ s₂=>Vq ?_);have t₂:IsPair g₂ TO a b:=s₂.extBut _ _ D.TOi1 (s₁.extBut _ _ D.TOz vV);refine Vl (WM t₂ rfl (Vl (YO t₂ fun g₃ t₃ s₃=>?_)));refine Vl (X9 (Vq (Vl (Vl (Yr ?_)))));show wpAny _ _ (Builtin.SmallTypes.nextOf (.ref i2) >>= _) _ _ _;refine Vl (oF (b:=b2) hh (h2.keep fun o e=>s₃.extBut _ o D.TOi2.symm (s₂.extBut _ o D.i12.symm (s₁.extBut _ o D.i2z e))) (Ac.keep fun o e=>s₃.extBut _ o D.l2TO (s₂.extBut _ o D.l2i1 (s₁.extBut _ o D.l2z e))) hy fun g₄ e s₄⟨oe,Hh,ce⟩=>?_);have z₄:IsZip g₄ z TI TO .ellipsis:=s₄ _ _ D.i2z.symm (s₃.extBut _ _ D.TOz.symm (s₂.extBut _ _ D.i1z.symm oG));have T7:e≠z:=fun q=>by subst q;rw[z₄]at Hh;cases Hh;simp at ce
  exact Xp z₄ (by simp) fun g₅ _ s₅=>hE g₅ e (fun c o n1 n2 n3 n4 q=>s₅.extBut _ _ n1 (s₄ _ _ n4 (s₃.extBut _ _ n2 (s₂.extBut _ _ n3 (s₁.extBut _ _ n1 q))))) ⟨oe,s₅.extBut _ _ T7 Hh,ce⟩
theorem Bw{b1:Bool}{TI TO:_Z}{xs:Array _X}{x y a b:_X}{Q:_U->_Y->Prop}(D:ZipApart z TI TO i1 i2 l1 l2)(hz:IsZip s.heap z TI TO .none)(uP:IsPair s.heap TI (.ref i1) (.ref i2))(vV:IsPair s.heap TO a b)(h1:dw b1 s.heap i1 l1 k1)(h2:dw b2 s.heap i2 l2 k2)(Ai:iC b1 s.heap l1 xs)(Ac:iC b2 s.heap l2 ys)(hx:xs[k1]?=some x)(hy:ys[k2]?=some y)
  (hQ:∀ h',IsZip h' z TI TO (rawInt s.heap.objs.size)->IsPair h' TO x y->dw b1 h' i1 l1 (k1+1)->dw b2 h' i2 l2 (k2+1)->IsPair h' s.heap.objs.size x y ->
   (∀c o,c≠z->c≠TO->c≠i1->c≠i2->s.heap.get? c=some o->h'.get? c=some o)->Q (some (.ref s.heap.objs.size)) {s with heap:=h'}):wpAny (model prog w) A (pyNext (.ref z)) Q E s:=by
 have tz:s.TypeIs (.ref z) "zip":=⟨_,hz,rfl⟩
 unfold pyNext;exact Vl (XJ (WR (name:=Str.ofString "__next__") tz YK
  (WQ YK tz F.entry_zip_next (Hg (b1:=b1) (b2:=b2) D hz uP vV h1 h2 Ai Ac hx hy fun h' a1 a2 a3 a4 a5 a6=>Vq (hQ h' a1 a2 a3 a4 a5 a6)) (F.args_zip_next_1 _))))
theorem Dw{b1:Bool}{TI TO:_Z}{xs:Array _X}{a b:_X}{Q:_U->_Y->Prop}(hh:A.handled=none)(D:ZipApart z TI TO i1 i2 l1 l2)(hz:IsZip s.heap z TI TO .none)(uP:IsPair s.heap TI (.ref i1) (.ref i2))(vV:IsPair s.heap TO a b)(h1:dw b1 s.heap i1 l1 k1)(h2:dw b2 s.heap i2 l2 k2)(Ai:iC b1 s.heap l1 xs)(Ac:iC b2 s.heap l2 ys)(he:xs[k1]?=none\/ys[k2]?=none)(hQ:∀h',(∀c o,c≠z->c≠TO->c≠i1->c≠i2->s.heap.get? c=some o->h'.get? c=some o)->Q none {s with heap:=h'}):wpAny (model prog w) A (pyNext (.ref z)) Q E s:=by
 have tz:s.TypeIs (.ref z) "zip":=⟨_,hz,rfl⟩
 unfold pyNext;refine Vl (XJ (WR (name:=Str.ofString "__next__") tz YK
  (WQ YK tz F.entry_zip_next (LH (b1:=b1) (b2:=b2) hh D hz uP vV h1 h2 Ai Ac he fun h' e hk he=>?_) (F.args_zip_next_1 _))))
 obtain⟨o,ho,hc⟩:=he;exact Vl (Zt (T:="StopIteration") (b:=true) ⟨o,ho,hc⟩ isSubtype_stop (Vq (hQ _ hk)))
abbrev R!(b1:Bool)(h:Heap)(l1:_Z):Heap:=h.push (p5 b1 l1)
abbrev R?(b1 b2:Bool)(h:Heap)(l1 l2:_Z):Heap:=(R! b1 h l1).push (p5 b2 l2)
abbrev Sa(b1 b2:Bool)(h:Heap)(l1 l2:_Z):Heap:=(R? b1 b2 h l1 l2).push {cls:=.type "tuple",data:=.seq #[.ref h.objs.size,.ref (R! b1 h l1).objs.size]}
noncomputable abbrev Sb(b1 b2:Bool)(h:Heap)(l1 l2:_Z):Heap:=(Sa b1 b2 h l1 l2).push {cls:=.type "tuple",data:=.seq #[.none,.none]}
noncomputable abbrev Oq(b1 b2:Bool)(h:Heap)(l1 l2:_Z):Heap:=(Sb b1 b2 h l1 l2).push {cls:=.type "zip",data:=.fields #[.none,.bool false,.bool false,.ref (R? b1 b2 h l1 l2).objs.size,.ref (Sa b1 b2 h l1 l2).objs.size]}
theorem Dx(b1 b2:Bool)(l1 l2:_Z)(xs ys:Array _X):
  Meets (Builtin.«zip.__new__» ⟨[.type "zip",.ref l1,.ref l2],[]⟩) (fun _ R s=>iC b1 s.heap l1 xs/\iC b2 s.heap l2 ys/\R (.ok (.ret (.ref (Sb b1 b2 s.heap l1 l2).objs.size))) {s with heap:=Oq b1 b2 s.heap l1 l2}):=
 .of_wp fun prog w A R s h=>by
  obtain⟨hp,g,d,tk,os⟩:=s;obtain⟨q1,q2,h⟩:=h;have PL:=sub_zip;have w1:iC b1 (Shared.heap ⟨hp,g,d,tk,os⟩) l1 xs:=q1;have w2:iC b2 (Shared.heap ⟨hp.push (p5 b1 l1),g,d,tk,os⟩) l2 ys:=q2.keep fun o e=>Vn _ e
  wp_walk using p7 w1,p7 w2
  exact⟨_,rfl,h⟩
theorem Dy{b1:Bool}{xs:Array _X}(Ai:iC b1 s.heap l1 xs)(Ac:iC b2 s.heap l2 ys)
  (h:∀ h',IsZip h' (s.heap.objs.size+4) (s.heap.objs.size+2) (s.heap.objs.size+3) .none->IsPair h' (s.heap.objs.size+2) (.ref s.heap.objs.size) (.ref (s.heap.objs.size+1))->IsPair h' (s.heap.objs.size+3) .none .none ->
   dw b1 h' s.heap.objs.size l1 0->dw b2 h' (s.heap.objs.size+1) l2 0->(∀c o,s.heap.get? c=some o->h'.get? c=some o)->Q (.ref (s.heap.objs.size+4)) {s with heap:=h'}):
  wpAny (model prog w) A (call (.type "zip") [.ref l1,.ref l2]) Q E s:=by
 refine callType_new F.called_zip (by decide) (F.typeCall_zip_2 _ _) (F.newCall_zip_2 _ _) (fun obj=>F.args_object_init_3 obj _ _) F.entry_zip_new (Dx b1 b2 l1 l2 xs ys) ⟨Ai,Ac,?_⟩;have z1:(R! b1 s.heap l1).objs.size=s.heap.objs.size+1:=XX ..;have z2:(R? b1 b2 s.heap l1 l2).objs.size=s.heap.objs.size+2:=by rw[XX,z1]
 have z3:(Sa b1 b2 s.heap l1 l2).objs.size=s.heap.objs.size+3:=by rw[XX,z2]
 have z4:(Sb b1 b2 s.heap l1 l2).objs.size=s.heap.objs.size+4:=by rw[XX,z3]
 have g5:(Oq b1 b2 s.heap l1 l2).get? (Sb b1 b2 s.heap l1 l2).objs.size=some _:=VJ _ rfl;have g4:(Oq b1 b2 s.heap l1 l2).get? (Sa b1 b2 s.heap l1 l2).objs.size=some _:=Vn _ (VJ _ rfl);have g3:(Oq b1 b2 s.heap l1 l2).get? (R? b1 b2 s.heap l1 l2).objs.size=some _:=Vn _ (Vn _ (VJ _ rfl));have g2:(Oq b1 b2 s.heap l1 l2).get? (R! b1 s.heap l1).objs.size=some (p5 b2 l2):=Vn _ (Vn _ (Vn _ (VJ _ rfl)));have g1:(Oq b1 b2 s.heap l1 l2).get? s.heap.objs.size=some (p5 b1 l1):=Vn _ (Vn _ (Vn _ (Vn _ (VJ _ rfl))));show _/\_;rw[z2,z3,z4]at g5;rw[z1,z2]at g3;rw[z3]at g4;rw[z1]at g2;rw[z4];exact⟨⟨_,g5,rfl⟩,h _ g5 g3 g4 (.new b1 g1) (.new b2 g2) fun c o x=>Vn _ (Vn _ (Vn _ (Vn _ (Vn _ x))))⟩
end
def yn(b:Bool)(K:_R)(H:Hp)(a:_Z)(xs:List V):Prop:=match b with|true=>nr K H a xs|false=>jB K H a xs
theorem aM.Ot{s:_Y}{b:Bool}{a:_Z}{xs:List V}(I:aM X ag σ H s)(h:yn b X.K H a xs):∃aF:_T,bf xs aF/\iC b s.heap a aF.toArray/\xs.length<=sizeLine:=by
 cases b with
 |true=>obtain⟨aF,r,p,z⟩:=I.list h;exact⟨aF,r,p.isList,z⟩
 |false=>obtain⟨aF,r,p,z⟩:=I.tuple h;exact⟨aF,r,p,z⟩
theorem aM.Aj{s:_Y}{b:Bool}{a:_Z}{xs ys:List V}(I:aM X ag σ H s)(h:yn b X.K H a xs)(h':yn b X.K H a ys):xs=ys:=by
 cases b with
 |true=>exact I.pO h h'
 |false=>exact I.ny h h'
theorem aM.J1{s:_Y}{b:Bool}{l c:_Z}{zs:List V}(I:aM X ag σ H s)(hs:yn b X.K H l zs)(f:rK X ag H c):l≠c:=by
 intro q;have mo:∀o,X.K.lookup l=some o->False:=fun o hk=>by
  have e:=I.mod.Gz l o hk;rcases f.2.2.2.1 with z|z
  .exact I.ok.vZ l o e (by rw[q];exact z)
  .exact absurd (VE (Vz (I.ok.bs l o e).1) (by rw[q];exact z)) (Wc _)
 have tr:∀o,H l=some o->False:=fun o e=>by rw[q,f.1]at e;cases e
 cases b with
 |true=>
  rcases(show nr X.K H l zs from hs) with(r|⟨o,r⟩)|⟨o,aF,n,hk,_⟩
  .exact tr _ r
  .exact tr _ r
  .exact mo o hk
 |false=>
  rcases(show jB X.K H l zs from hs) with(r|⟨o,r⟩)|⟨o,aF,n,hk,_⟩
  .exact tr _ r
  .exact tr _ r
  .exact mo o hk
def Itz(K:_R)(b1 b2:Bool)(a b:_Z):It:=
 ⟨fun i H=>∃xs ys x y,yn b1 K H a xs/\yn b2 K H b ys/\xs[i]?=some x/\ys[i]?=some y,
  fun i H v H'=>∃p x y,v=.ref p/\H p=none/\H'=upd H p (.tup [x,y])/\(∀xs,yn b1 K H a xs->xs[i]?=some x)/\∀ys,yn b2 K H b ys->ys[i]?=some y,
  fun i H=>∃xs ys,yn b1 K H a xs/\yn b2 K H b ys/\(xs.length<=i\/ys.length<=i)⟩
theorem DA{K:_R}{b1:Bool}{TI TO:_Z}(a b:_Z)(ne:z≠TI/\z≠TO/\z≠i1/\z≠i2/\TI≠TO/\TI≠i1/\TI≠i2/\TO≠i1/\TO≠i2/\i1≠i2):
  Turn P w K (.Tuple elts kt tp) (Itz K b1 b2 a b) [z,TI,TO,i1,i2] z (fun i h=>IsZip h z TI TO .none/\IsPair h TI (.ref i1) (.ref i2)/\(∃u v,IsPair h TO u v)/\dw b1 h i1 a i/\dw b2 h i2 b i) where
 mem:=by simp
 obj:=fun i h⟨hz,uP,⟨u,v,vV⟩,h1,h2⟩c hc=>by
  have ft:c=z\/c=TI\/c=TO\/c=i1\/c=i2:=by simpa using hc
  rcases ft with rfl|rfl|rfl|rfl|rfl
  .exact⟨_,hz,fun v q=>by have q':Data.fields _=Data.cell v:=q;cases q'⟩
  .exact⟨_,uP,fun v q=>by have q':Data.seq _ _=Data.cell v:=q;cases q'⟩
  .exact⟨_,vV,fun v q=>by have q':Data.seq _ _=Data.cell v:=q;cases q'⟩
  .obtain⟨o,n,vs,e,_,d⟩:=h1.there;exact⟨o,e,fun v q=>by rw[d]at q;cases q⟩
  .obtain⟨o,n,vs,e,_,d⟩:=h2.there;exact⟨o,e,fun v q=>by rw[d]at q;cases q⟩
 keep:=fun i h h'⟨hz,uP,⟨u,v,vV⟩,h1,h2⟩k=>⟨k z (by simp) _ hz,k TI (by simp) _ uP,⟨u,v,k TO (by simp) _ vV⟩,h1.keep fun o e=>k i1 (by simp) o e,h2.keep fun o e=>k i2 (by simp) o e⟩
 item:=by
  intro X hP hw hK hc i ag s σ H E I hf st hg;subst hP hw hK;obtain⟨hz,uP,⟨u,v,vV⟩,h1,h2⟩:=st;obtain⟨xs,ys,x,y,sx,sy,ex,ey⟩:=hg;obtain⟨aF,rv,p,_⟩:=I.Ot sx;obtain⟨d?,Ou,p2,_⟩:=I.Ot sy;obtain⟨ux,eux,rx⟩:=rv.get ex;obtain⟨uy,euy,ry⟩:=Ou.get ey;obtain⟨n1,n2,n3,n4,n5,n6,n7,n8,n9,T8⟩:=ne;have fz:=hf z (by simp);have gr:∀{b:Bool}{l:_Z}{zs:List V},yn b X.K H l zs->∀c∈[z,TI,TO,i1,i2],l≠c:=fun{b l zs}hs c ft=>I.J1 hs (hf c ft);have D:ZipApart z TI TO i1 i2 a b:=⟨n1.symm,n2.symm,n3.symm,n4.symm,n5,n6,n7,n8,n9,T8,gr sx z (by simp),gr sx TO (by simp),gr sx i1 (by simp),gr sx i2 (by simp),gr sy z (by simp),gr sy TO (by simp),gr sy i1 (by simp),gr sy i2 (by simp)⟩
  refine Bw (b1:=b1) (b2:=b2) D hz uP vV h1 h2 p p2 (x:=ux) (y:=uy) (by simpa using eux) (by simpa using euy) fun h' a1 a2 a3 a4 a5 a6=>⟨_,rfl,?_⟩
  have hT:H s.heap.objs.size=none:=I.bN.fresh (Vo _);have T9:∀c∈[z,TO,i1,i2],H c=none:=fun c ft=>(hf c (by simp at ft⊢;rcases ft with q|q|q|q<;>simp[q])).1;have kp:∀c o,c ∉ [z,TO,i1,i2]->s.heap.get? c=some o->h'.get? c=some o:=fun c o ft e=>a6 c o (fun q=>ft (by simp[q])) (fun q=>ft (by simp[q])) (fun q=>ft (by simp[q])) (fun q=>ft (by simp[q])) e;have zT:∀c o,H c=some o->c ∉ [z,TO,i1,i2]:=fun c o e ft=>by rw[T9 c ft]at e;cases e
  have bN:il X.prog X.w (upd H s.heap.objs.size (.tup [x,y])) h':=fun c o e=>by
   by_cases hcT:c=s.heap.objs.size
   .subst hcT;rw[bu]at e;cases e;exact⟨by show 2<=sizeLine;decide,[ux,uy],.cons rx (.cons ry .nil),_,a5,rfl,_,rfl⟩
   .rw[aH hcT]at e;refine(I.bN c o e).kj (fun d v hd q=>kp d v ?_ q) (fun d q=>by rw[aH (bG q hT)];exact q) fun d zs q=>by rw[aH (bG q hT)];exact q
    rcases hd with q'|q'
    .rw[q'];exact zT c o e
    .exact zT d _ q'
  have un:Un (gN X.stack) [z,TO,i1,i2] H (upd H s.heap.objs.size (.tup [x,y])) s.heap h':=
   ⟨fun c o e n _ ft=>kp c o ft e,fun c o e n _ ft=>⟨o.slots,kp c o ft e⟩,fun c o e n ft=>by rw[aH (VS (Vz e))];exact n,fun c o e ft=>⟨o,kp c o ft e⟩,
    fun c zs e=>by rw[aH (bG e hT)];exact e,fun c o u e=>by rw[aH (bG e hT)];exact e,fun c ps e=>⟨#[],by rw[aH (bG e hT),e];simp⟩⟩
  have I1:aM X ag σ (upd H s.heap.objs.size (.tup [x,y])) {s with heap:=h'}:=I.zV rfl un bN I.bare fun c ft=>by obtain⟨f0,f1,f2,f3,f4,f5⟩:=hf c (by simp at ft⊢;rcases ft with q|q|q|q<;>simp[q]);exact⟨f3,f1,f4,f5⟩
  have fpT:∀c∈[z,TI,TO,i1,i2],c≠s.heap.objs.size:=fun c ft q=>by
   have uO:c<s.heap.objs.size:=by
    have T_:c=z\/c=TI\/c=TO\/c=i1\/c=i2:=by simpa using ft
    rcases T_ with r|r|r|r|r
    .rw[r];exact Vz hz
    .rw[r];exact Vz uP
    .rw[r];exact Vz vV
    .obtain⟨o,_,_,e,_⟩:=h1.there;rw[r];exact Vz e
    .obtain⟨o,_,_,e,_⟩:=h2.there;rw[r];exact Vz e
   exact absurd uO (by rw[q];exact Wc _)
  have hn1:∀c∈[z,TI,TO,i1,i2],(upd H s.heap.objs.size (.tup [x,y])) c=none:=fun c ft=>by rw[aH (fpT c ft)];exact(hf c ft).1
  refine wpAny_letOwnedTupleGo_zip a1 fun LJ T! sb=>?_;obtain⟨f0,f1,f2,f3,f4,f5⟩:=fz;have I2:aM X ag σ (upd H s.heap.objs.size (.tup [x,y])) {s with heap:=LJ}:=I1.turned (s:={s with heap:=h'}) (t':=s.toks) (it:=z) (fun c o ft e=>(sb.2 c ft).trans e) (hn1 z (by simp)) f1 f3 f4 f5;refine⟨.ref s.heap.objs.size,_,I2,rfl,⟨_,x,y,rfl,hT,rfl,fun zs hs=>by rw[I.Aj hs sx];exact ex,fun zs hs=>by rw[I.Aj hs sy];exact ey⟩,⟨T!,?_,⟨_,_,sb.extBut _ _ n2.symm a2⟩,a3.keep fun o e=>sb.extBut _ o n3.symm e,a4.keep fun o e=>sb.extBut _ o n4.symm e⟩,hn1⟩;exact sb.extBut _ _ n1.symm (a6 _ _ n1.symm n5 n6 n7 uP)
 done:=by
  intro X hP hw hK hc i ag s σ H E I hf st hg;subst hP hw hK;obtain⟨hz,uP,⟨u,v,vV⟩,h1,h2⟩:=st;obtain⟨xs,ys,sx,sy,hl⟩:=hg;obtain⟨aF,rv,p,_⟩:=I.Ot sx;obtain⟨d?,Ou,p2,_⟩:=I.Ot sy;have l1:=rv.length;have l2:=Ou.length;obtain⟨n1,n2,n3,n4,n5,n6,n7,n8,n9,T8⟩:=ne;have gr:∀{b:Bool}{l:_Z}{zs:List V},yn b X.K H l zs->∀c∈[z,TI,TO,i1,i2],l≠c:=fun{b l zs}hs c ft=>I.J1 hs (hf c ft);have D:ZipApart z TI TO i1 i2 a b:=⟨n1.symm,n2.symm,n3.symm,n4.symm,n5,n6,n7,n8,n9,T8,gr sx z (by simp),gr sx TO (by simp),gr sx i1 (by simp),gr sx i2 (by simp),gr sy z (by simp),gr sy TO (by simp),gr sy i1 (by simp),gr sy i2 (by simp)⟩
  refine Dw (b1:=b1) (b2:=b2) (I.ok.hd hc) D hz uP vV h1 h2 p p2 (by rcases hl with q|q;exact .inl (by simp;lia);exact .inr (by simp;lia)) fun h' a6=>⟨rfl,?_⟩
  have T9:∀c∈[z,TO,i1,i2],H c=none:=fun c ft=>(hf c (by simp at ft⊢;rcases ft with q|q|q|q<;>simp[q])).1;have kp:∀c o,c ∉ [z,TO,i1,i2]->s.heap.get? c=some o->h'.get? c=some o:=fun c o ft e=>a6 c o (fun q=>ft (by simp[q])) (fun q=>ft (by simp[q])) (fun q=>ft (by simp[q])) (fun q=>ft (by simp[q])) e;have zT:∀c o,H c=some o->c ∉ [z,TO,i1,i2]:=fun c o e ft=>by rw[T9 c ft]at e;cases e
  have bN:il X.prog X.w H h':=fun c o e=>by
   refine(I.bN c o e).kj (fun d v hd q=>kp d v ?_ q) (fun d q=>q) fun d zs q=>q;rcases hd with q'|q'
   .rw[q'];exact zT c o e
   .exact zT d _ q'
  have un:Un (gN X.stack) [z,TO,i1,i2] H H s.heap h':=
   ⟨fun c o e n _ ft=>kp c o ft e,fun c o e n _ ft=>⟨o.slots,kp c o ft e⟩,fun c o e n ft=>n,fun c o e ft=>⟨o,kp c o ft e⟩,fun c zs e=>e,fun c o u e=>e,fun c ps e=>⟨#[],by rw[e];simp⟩⟩
  exact I.zV rfl un bN I.bare fun c ft=>by obtain⟨f0,f1,f2,f3,f4,f5⟩:=hf c (by simp at ft⊢;rcases ft with q|q|q|q<;>simp[q]);exact⟨f3,f1,f4,f5⟩
 self:=fun _ _ _ _ _ st h=>wpAny_pyIter_zip st.1 h
section
variable{p:Pos}
def T?(K:_R)(b1 b2:Bool)(ta:TA):TI:=fun σ H R=>ta σ H fun vs H1=>∃a b,vs=[.ref a,.ref b]/\(∃xs,yn b1 K H1 a xs)/\(∃ys,yn b2 K H1 b ys)/\R (Itz K b1 b2 a b) H1
theorem LK(b1 b2:Bool){ea eb:Expr}{ta:TA}(hg:Gl X "zip")(hm:X.mg "zip" = none)(ha:PA X [ea,eb] ta)(hs:starEach [ea,eb] X.env=[(false,eval ea X.env),(false,eval eb X.env)]:=by rfl)(eV:starEach [eb] X.env=[(false,eval eb X.env)]:=by rfl):
  PI X (.Tuple elts kt tp) (.Call (.Name "zip" p) [ea,eb] [] pos) (T? X.K b1 b2 ta):=by
 intro ag s σ H R I h;refine Call_ (kN I hg hm boot_zip (Xn (df (ha pos ag s σ H _ I h) fun us s1⟨vs,H1,I1,r1,q1⟩=>?_) (by rw[hs,eV]) (by rw[eV];rfl)));obtain⟨a,b,e,⟨xs,sx⟩,⟨ys,sy⟩,q⟩:=q1;subst e;obtain⟨u,u2,rfl,ru,LL⟩:=vals2 r1;cases ru;cases LL;obtain⟨aF,rv,p1,_⟩:=I1.Ot sx;obtain⟨d?,Ou,p2,_⟩:=I1.Ot sy;refine Dy (b1:=b1) (b2:=b2) p1 p2 fun h' hz uP vV g1 g2 kp=>wpAny_pyIter_zip hz ?_;have I2:aM X ag σ H1 {s1 with heap:=h'}:=I1.kept (t':=s1.toks) kp;refine⟨_,[s1.heap.objs.size+4,s1.heap.objs.size+2,s1.heap.objs.size+3,s1.heap.objs.size,s1.heap.objs.size+1],_,_,H1,rfl,I2,DA (b1:=b1) (b2:=b2) a b ?_,⟨hz,uP,⟨_,_,vV⟩,g1,g2⟩,fun c hc=>?_,q⟩
 .refine⟨?_,?_,?_,?_,?_,?_,?_,?_,?_,?_⟩<;>(intro z;have z':(_:Nat)=_:=z;lia)
 .have hle:s1.heap.objs.size<=c:=by
   have ft:c=s1.heap.objs.size+4\/c=s1.heap.objs.size+2\/c=s1.heap.objs.size+3\/c=s1.heap.objs.size\/c=s1.heap.objs.size+1:=by simpa using hc
   rcases ft with r|r|r|r|r<;>(rw[r];first|exact Vo _|exact Nat.le_add_right _ _)
  exact I1.C6 hle (I1.bN.fresh hle)
end
theorem ck.there{a:_Z}{o:HO}(x:ck P w H h a o):∃ob,h.get? a=some ob:=by
 cases o with
 |lst xs=>obtain⟨_,_,_,_,e⟩:=x;exact⟨_,e⟩
 |tup xs=>obtain⟨_,_,_,ob,e,_⟩:=x;exact⟨_,e⟩
 |dK aI=>obtain⟨_,_,_,_,o,_,_,e,_⟩:=x;exact⟨_,e⟩
 |dT aI=>obtain⟨_,_,_,_,o,_,_,e,_⟩:=x;exact⟨_,e⟩
 |set S n=>obtain⟨o,_,_,_,e,_⟩:=x;exact⟨_,e⟩
 |ins C dx fs=>obtain⟨_,_,_,e,_⟩:=x;exact⟨_,e⟩
 |own y=>obtain⟨_,e⟩:=x;exact⟨_,e⟩
 |xd fs=>obtain⟨_,⟨_,_,_,e,_⟩,_⟩:=x;exact⟨_,e⟩
 |RN lo hi=>obtain⟨_,_,_,e⟩:=x;exact⟨_,e⟩
 |gB ob u=>obtain⟨e,_⟩:=x;exact⟨_,e⟩
 |rG ps=>exact⟨_,(show h.get? a=some _ from x)⟩
 |met f y=>exact⟨_,(show h.get? a=some _ from x)⟩
 |ext φ=>obtain⟨_,e,_⟩:=x;exact e
structure Fly(P:_1)(w:World)(l:List Env)(H H':Hp)(s s':_Y)(ea:_Z)(cls:_X):Prop where
 os:s'.os=s.os
 bare:AllBare s'.gens
 un:Un (gN l) [] H H' s.heap s'.heap
 bN:il P w H' s'.heap
 fl:∃(B:Heap)(t:_Z),Heap.FlyingW B l ea cls (.ref t) s'.heap/\(∀b,H' b≠none->∃o,B.get? b=some o)/\(∀b o,s.heap.get? b=some o->b ∉ gN l->∃o',B.get? b=some o')
def iL(P:_1)(w:World):Bl:=fun outer H s E e s'=>∃ea cls H',e=.ref ea/\Fly P w outer H H' s s' ea cls/\E cls none H'
section
variable{K:_R}{mg:_P}{base:Heap}{qual:Str}{scope:Scope}{cd:_X}{outer:List Env}
theorem wj{env:Env}{L:_Z}(hf:env.frame=some L)(l:List Env):gN (env::l)=L::gN l:=by unfold gN;rw[Yq,hf]
theorem Bx{s:_Y}{e:_Z}(I:aM (fN (iL P w) P w K mg base N qual scope f cd A outer s₀ H₀ E) ag σ H s)(hx:Heap.MadeExcOf s.heap h' e cls vs)(hE:E cls none H):(fN (iL P w) P w K mg base N qual scope f cd A outer s₀ H₀ E).xe (.ref e) {s with heap:=h'}:=by
 have CT:=I.stack;have zU:=I.uo;have PN:(A.deeper (envOfC qual scope s₀.heap.objs.size f cd)).frames=some (envOfC qual scope s₀.heap.objs.size f cd::outer):=I.ok.frames;have PQ:gN (envOfC qual scope s₀.heap.objs.size f cd::outer)=s₀.heap.objs.size::gN outer:=wj rfl outer;have J2:∀env∈(envOfC qual scope s₀.heap.objs.size f cd::outer),∀b,env.frame=some b->b∈gN (envOfC qual scope s₀.heap.objs.size f cd::outer):=fun env he b hb=>ZT.mpr ⟨env,he,hb⟩;have J3:∀b o,s₀.heap.get? b=some o->b ∉ gN outer->b ∉ gN (envOfC qual scope s₀.heap.objs.size f cd::outer):=fun b o q hb hm=>by
  rw[PQ]at hm;rcases VU.mp hm with z|z
  .exact absurd (Vz q) (by rw[z];exact Wc _)
  .exact hb z
 refine wpAny_leaves_madeW (base:=W.hideAll s.heap (gN (envOfC qual scope s₀.heap.objs.size f cd::outer))) (h:=s.heap) PN rfl (fun b o q=>_b _ q) (W.funFrames_hide CT J2) hx fun LJ t fl _ _ up=>?_;have stays:∀b o,s.heap.get? b=some o->b ∉ gN (envOfC qual scope s₀.heap.objs.size f cd::outer)->LJ.get? b=some o:=fun b o q hb=>fl.1 b o (X0 _ q hb);have zT:∀b u,H b=some u->b ∉ gN (envOfC qual scope s₀.heap.objs.size f cd::outer):=fun b u q hb=>by rw[zU b hb]at q;cases q
 have slot:∀b o,s₀.heap.get? b=some o->H₀ b=none->b∈gN outer->∃sl,LJ.get? b=some {o with slots:=sl}:=fun b o q n hb=>by obtain⟨sl,e1⟩:=I.base.slot b o q n hb (by intro z;cases z);obtain⟨_,o',lS,Hi⟩:=CT.mem (show b∈gN (envOfC qual scope s₀.heap.objs.size f cd::outer) by rw[PQ];exact VQ _ hb);rw[e1]at lS;cases lS;obtain⟨JQ,e2⟩:=up b _ (hx.keeps _ _ e1) Hi;exact⟨JQ,e2⟩
 have nil:∀b:_Z,b ∉ (fN (iL P w) P w K mg base N qual scope f cd A outer s₀ H₀ E).ex:=fun b z=>by cases z
 refine⟨e,cls,H,rfl,⟨I.os,I.bare,⟨fun b o q n hb _=>stays b o (I.base.keep b o q n hb (nil b)) (J3 b o q hb),fun b o q n hb _=>slot b o q n hb,fun b o q n _=>I.base.free b o q n (nil b),fun b o q _=>?_,I.base.jC,I.base.iT,I.base.jD⟩,fun b u q=>?_,W.hideAll s.heap (gN (envOfC qual scope s₀.heap.objs.size f cd::outer)),t,fl,fun b hb=>?_,fun b o q hb=>?_⟩,hE⟩
 .by_cases hb:b∈gN outer
  .obtain⟨sl,e1⟩:=slot b o q (I.ok.x? b hb) hb;exact⟨_,e1⟩
  .obtain⟨o',e1⟩:=I.base.there b o q (nil b);exact⟨o',stays b o' e1 (J3 b o q hb)⟩
 .refine(I.bN b u q).kj (fun c v hc z=>stays c v z ?_) (fun _ z=>z) fun _ _ z=>z;rcases hc with z'|z'
  .rw[z'];exact zT b u q
  .exact zT c _ z'
 .cases q:H b with
  |none=>exact absurd q hb
  |some u=>
   obtain⟨o,e1⟩:=(I.bN b u q).there;exact⟨o,X0 _ e1 (zT b u q)⟩
 .obtain⟨o',e1⟩:=I.base.there b o q (nil b);exact⟨o',X0 _ e1 (J3 b o q hb)⟩
theorem DB:Passes (iL P w) (fN (iL P w) P w K mg base N qual scope f cd A outer s₀ H₀ E) E:=by
 rintro ag σ H s e s' I ⟨ea,cls,H',rfl,Z,hE⟩;obtain⟨B,t,fl,ct,cs⟩:=Z.fl;have PN:(A.deeper (envOfC qual scope s₀.heap.objs.size f cd)).frames=some (envOfC qual scope s₀.heap.objs.size f cd::outer):=I.ok.frames;have PQ:gN (envOfC qual scope s₀.heap.objs.size f cd::outer)=s₀.heap.objs.size::gN outer:=wj rfl outer;have J3:∀b o,s₀.heap.get? b=some o->b ∉ gN outer->b ∉ gN (envOfC qual scope s₀.heap.objs.size f cd::outer):=fun b o q hb hm=>by
  rw[PQ]at hm;rcases VU.mp hm with z|z
  .exact absurd (Vz q) (by rw[z];exact Wc _)
  .exact hb z
 have sub:∀b,b∈gN outer->b∈gN (envOfC qual scope s₀.heap.objs.size f cd::outer):=fun b hb=>by rw[PQ];exact VQ _ hb
 have nil:∀b:_Z,b ∉ (fN (iL P w) P w K mg base N qual scope f cd A outer s₀ H₀ E).ex:=fun b z=>by cases z
 refine wpAny_leaves_onW PN rfl fl fun LJ Ua up=>?_;have Hj:∀b o,s'.heap.get? b=some o->(∃o',B.get? b=some o')->LJ.get? b=some o:=fun b o q⟨o',z⟩=>by have q':=fl.1 b o' z;rw[q]at q';cases q';exact Ua.1 b o z
 have slot:∀b o,s₀.heap.get? b=some o->H₀ b=none->b∈gN outer->∃sl,LJ.get? b=some {o with slots:=sl}:=fun b o q n hb=>by obtain⟨sl,e1⟩:=I.base.slot b o q n hb (nil b);obtain⟨Pe,e2⟩:=Z.un.slot b _ e1 (I.base.free b o q n (nil b)) (sub b hb) (by intro z;cases z);obtain⟨_,o',lS,Hi⟩:=fl.2.2.1.mem (sub b hb);rw[e2]at lS;cases lS;obtain⟨JQ,e3⟩:=up b _ e2 Hi;exact⟨JQ,e3⟩
 refine⟨ea,cls,H',rfl,⟨Z.os.trans I.os,Z.bare,⟨fun b o q n hb _=>?_,fun b o q n hb _=>slot b o q n hb,fun b o q n _=>?_,fun b o q _=>?_,fun b xs q=>Z.un.jC b xs (I.base.jC b xs q),fun b o u q=>Z.un.iT b o u (I.base.iT b o u q),fun b ps q=>?_⟩,fun b u q=>?_,B,t,Ua,ct,fun b o q hb=>?_⟩,hE⟩
 .have e1:=I.base.keep b o q n hb (nil b);have n1:=I.base.free b o q n (nil b);have nf:=J3 b o q hb;exact Hj b o (Z.un.keep b o e1 n1 nf (by intro z;cases z)) (cs b o e1 nf)
 .obtain⟨o',e1⟩:=I.base.there b o q (nil b);exact Z.un.free b o' e1 (I.base.free b o q n (nil b)) (by intro z;cases z)
 .by_cases hb:b∈gN outer
  .obtain⟨sl,e1⟩:=slot b o q (I.ok.x? b hb) hb;exact⟨_,e1⟩
  .obtain⟨o',e1⟩:=I.base.there b o q (nil b);obtain⟨o2,e2⟩:=cs b o' e1 (J3 b o q hb);exact⟨o2,Ua.1 b o2 e2⟩
 .obtain⟨m1,e1⟩:=I.base.jD b ps q;obtain⟨m2,e2⟩:=Z.un.jD b _ e1;exact⟨m1++m2,by rw[e2,Array.append_assoc]⟩
 .refine(Z.bN b u q).kj (fun c v hc z=>Hj c v z (ct c ?_)) (fun _ z=>z) fun _ _ z=>z;rcases hc with z'|z'
  .rw[z',q];simp
  .rw[z'];simp
 .obtain⟨o',e1⟩:=I.base.there b o q (nil b);exact cs b o' e1 (J3 b o q hb)
theorem Ad.okX{x:Str}{st:Stmt}{ps:_W}{k:Nat}(F:Ad K x qual st f fd)(S:dF N ps (aC st))(len:∀vs H Q E,sp vs H Q E->vs.length=ps.length)
  (v!:∀ (dh:_X) (A:_0) (outer:List Env) (s:_Y) (H:Hp) (vs:List V) (Q:VK) (E:XK),d0 k (A.deeper (envOfC qual (aC st) s.heap.objs.size f dh))->sp vs H Q E ->
   ∃t,i' (fN (iL P w) P w K mg base N qual (aC st) f dh A outer s H E) (bZ st) t/\t {nx:=fun _ H'=>Q .dc H',rt:=Q} (start N vs) H):ku P w K mg base (iL P w) (k+1) f fd ps sp:=by
 obtain⟨oc,od,kV,doc,pm,an,dh,ct,z_,rfl,lk,j6⟩:=F.ex;exact JU lk j6 S len fun A outer s H vs Q E hr Om=>v! dh A outer s H vs Q E hr Om
end
theorem By{K:_R}{mg:_P}{x:Str}{bmB:_T}(X:K.In h)(hb:mg x=some (.ref C))(q:W.excIn K C bmB newId=true):OwnCls x C bmB newId mg h:=by
 refine⟨hb,?_⟩;unfold W.excIn at q;split at q
 .rename_i dd cd sl ho;split at q
  .rename_i C' bm k0 k1 k2 k3 n k5 hm hs;simp only[Wv,Wr,Xo]at q;obtain⟨⟨⟨⟨⟨rfl,rfl⟩,PR⟩,ht⟩,bN⟩,Sd⟩:=q;obtain⟨nm,bs,mro,ns,qn,hd,sn,sub,ab,col,del⟩:=cd;dsimp only at hm PR bN Sd;subst hm PR;have hsl:sl = #[k0,k1,k2,k3,some (.builtin n),k5]:=by obtain⟨l⟩:=sl;simp only at hs;rw[hs]
   subst hsl;exact⟨bm,ns,nm,qn,bs,hd,sn,sub,ab,col,dd,k0,k1,k2,k3,k5,_,X _ _ ho,.of_isNs (W.isNs_of_in X bN),W.nsMap_none_of_in X bN Sd,W.tail_of_in X ht⟩
  .cases q
 .cases q
def LM(E:XK)(C:_Z)(t:TA):TS:=fun _ σ H=>t σ H fun vs H1=>vs.length<=sizeLine/\E (.ref C) none H1
def Raises(X:Cx)(E:XK):Prop:=∀(ag:_Q)(σ:St)(H:Hp)(s:_Y)(h':Heap)(e:_Z)(cls:_X)(vs:_T),aM X ag σ H s->Heap.MadeExcOf s.heap h' e cls vs->E cls none H->X.xe (.ref e) {s with heap:=h'}
theorem DC{x:Str}{B yo:String}{bm:_T}{t:TA}(hX:Raises X E)(hc:X.calm=true)(hm:X.mg x=some (.ref C))(hq:W.excIn X.K C bm newId=true)(FB:ExcBaseFacts B newId yo bm)(hg:Gl X x)(ha:PA X (e₀::rest) t)(he:starEach (e₀::rest) X.env=(false,eval e₀ X.env)::starEach rest X.env:=by rfl)(ip:(backTo bV (starEach rest X.env)).any (·.1)=false:=by rfl)(hd:(x==("__debug__":Str))=false:=by decide):
  PS X (.Raise (some (.Call (.Name x np) (e₀::rest) [] bV)) none pos) (LM E C t):=by
 intro ag s σ H D I h;obtain⟨tl,NS,nm,q,bs,hdct,sn,sub,ab,col,dd,k0,k1,k2,k3,k5,mN,hC,hN,Sd,T⟩:=(By I.mod.Gz hm hq).obj;refine wpAny_Raise_call_subT (C:=C) (nm:=nm) (q:=q) (N:=NS) (bs:=bs) (bm:=tl) (hdct:=hdct) (sn:=sn) (sub:=sub) (ab:=ab) (col:=col) (dd:=dd) (k0:=k0) (k1:=k1) (k2:=k2) (k3:=k3) (k5:=k5)
  FB (mN:=mN) (T.hasType FB.hasBase) (I.ok.hd hc) (by rw[he];show(false || (backTo bV (starEach rest X.env)).any (·.1))=false;rw[ip];rfl) Sd (iU I hg hm ⟨rfl,?_⟩ hd)
 have hA:=ha bV ag s σ H _ I h;rw[he]at hA⊢;exact Y8 (df hA fun us s2⟨vs,H2,I2,r2,z,q2⟩=>⟨rfl,by rw[<-r2.length];exact z,I2.bk _ _ hC,hN.keeps I2.bk,T.keeps I2.bk,fun h' e PU=>hX ag σ H2 s2 h' e _ _ I2 PU q2⟩)
structure DefX(X:Cx):Prop where
 fn:∀y,X.fn y=true
 Gi:X.stack=X.env::X.outer
 fr:X.env.frame=some X.env.locals
structure wk(X:Cx)(ag:_Q)(σ:St)(H:Hp)(s:_Y)(ea:_Z)(cls:_X):Prop where
 inv:aM X ag σ H s
 fl:∃(B:Heap)(t:_Z),Heap.FlyingW B X.stack ea cls (.ref t) s.heap/\(∀b,H b≠none->∃o,B.get? b=some o)/\(∀b o,X.s₀.heap.get? b=some o->b ∉ gN X.stack->b ∉ X.ex->∃o',B.get? b=some o')/\(∀p∈X.pn++ag,∃o',B.get? p.1=some o')/\(∀x c,X.env.cells.lookup x=some c->∃o,B.get? c=some o)
section
variable{s s':_Y}
theorem aM.Hk(I:aM X ag σ H s){b:_Z}(h1:b≠X.env.locals)(h2:b ∉ X.fs):b ∉ gN X.stack:=fun z=>(VU.mp (I.kM b z)).elim h1 h2
theorem aM.slots{B h':Heap}(I:aM X ag σ H s)(sB:B.StaysIn s.heap)(c1:∀b,H b≠none->∃o,B.get? b=some o)(c2:∀b o,X.s₀.heap.get? b=some o->b ∉ gN X.stack->b ∉ X.ex->∃o',B.get? b=some o')(c3:∀p∈X.pn++ag,∃o',B.get? p.1=some o')(c4:∀x c,X.env.cells.lookup x=some c->∃o,B.get? c=some o)(k1:B.StaysIn h')(k2:s.heap.UpToSlots h'):aM X ag σ H {s with heap:=h'}:=by
 have Hj:∀b o,s.heap.get? b=some o->(∃o',B.get? b=some o')->h'.get? b=some o:=fun b o q⟨o',z⟩=>by have q':=sB b o' z;rw[q]at q';cases q';exact k1 b o z
 have CZ:∀b o,X.s₀.heap.get? b=some o->b≠X.env.locals:=fun b o e=>VS (VE (Vz e) I.ok.above);have slot:∀b o,X.s₀.heap.get? b=some o->X.H₀ b=none->b∈X.fs->b ∉ X.ex->∃sl,h'.get? b=some {o with slots:=sl}:=fun b o q n hb hx=>by obtain⟨sl,e1⟩:=I.base.slot b o q n hb hx;obtain⟨_,o',lS,Hi⟩:=I.iM.mem hb;rw[e1]at lS;cases lS;obtain⟨JQ,e2⟩:=k2 b _ e1 Hi;exact⟨JQ,e2⟩
 refine⟨I.ok,I.os,I.bare,⟨fun b o q n hb hx=>?_,slot,I.base.free,fun b o q hx=>?_,I.base.jC,I.base.iT,I.base.jD⟩,?_,fun x c e=>?_,I.free,I.gO,fun p hp=>?_,fun b u q=>?_,I.len⟩
 .exact Hj b o (I.base.keep b o q n hb hx) (c2 b o q (I.Hk (CZ b o q) hb) hx)
 .by_cases hb:b∈X.fs
  .obtain⟨sl,e1⟩:=slot b o q (I.ok.x? b hb) hb hx;exact⟨_,e1⟩
  .obtain⟨o',e1⟩:=I.base.there b o q hx;exact⟨o',Hj b o' e1 (c2 b o q (I.Hk (CZ b o q) hb) hx)⟩
 .obtain⟨m,hn,hl⟩:=I.loc;refine⟨m,k2.ns hn,fun i x v e1 e2 e3=>?_⟩;obtain⟨u,r,l⟩:=hl i x v e1 e2 e3;refine⟨u,r,?_⟩;rcases l with l|⟨k,c,e,o,ho,hd⟩
  .exact .inl l
  .exact .inr ⟨k,c,e,o,Hj c o ho (c4 x c e),hd⟩
 .obtain⟨v,o,ho,hd⟩:=I.cell x c e;exact⟨v,o,Hj c o ho (c4 x c e),hd⟩
 .obtain⟨e,n,ne,nf,d⟩:=I.pin p hp;exact⟨Hj p.1 p.2 e (c3 p hp),n,ne,nf,d⟩
 .refine(I.bN b u q).kj (fun c v hc z=>Hj c v z (c1 c ?_)) (fun _ z=>z) fun _ _ z=>z;rcases hc with z'|z'
  .rw[z',q];simp
  .rw[z'];simp
theorem wk.slots(J:wk X ag σ H s ea cls):∃(B:Heap)(t:_Z),Heap.FlyingW B X.stack ea cls (.ref t) s.heap/\H ea=none/\∀h',Heap.FlyingW B X.stack ea cls (.ref t) h'->s.heap.UpToSlots h'->wk X ag σ H {s with heap:=h'} ea cls:=by
 obtain⟨B,t,fl,c1,c2,c3,c4⟩:=J.fl;refine⟨B,t,fl,?_,fun h' f2 up=>⟨J.inv.slots fl.1 c1 c2 c3 c4 f2.1 up,B,t,f2,c1,c2,c3,c4⟩⟩;cases q:H ea with
 |none=>rfl
 |some u=>
  obtain⟨o,e⟩:=c1 ea (by rw[q];simp);rw[fl.2.1]at e;cases e
theorem aM.flew(I:aM X ag σ H s)(ya:∀y,X.fn y=true)(Z:Fly X.prog X.w X.stack H H' s s' ea cls):wk X ag σ H' s' ea cls:=by
 obtain⟨B,t,fl,ct,cs⟩:=Z.fl;have cl:∀x c,X.env.cells.lookup x=some c->c ∉ gN X.stack:=fun x c e=>I.Hk (I.CY x c e) fun hb=>by obtain⟨_,o,ho,_⟩:=I.ok.iM.mem hb;exact absurd (VE (Vz ho) (I.ok.CS x c (ya x) e)) (Wc _)
 refine⟨I.zV Z.os Z.un Z.bN Z.bare fun b z=>absurd z (by simp),B,t,fl,ct,fun b o q hb hx=>?_,fun p hp=>?_,fun x c e=>?_⟩
 .obtain⟨o',e1⟩:=I.base.there b o q hx;exact cs b o' e1 hb
 .obtain⟨e,n,ne,nf,d⟩:=I.pin p hp;exact cs p.1 p.2 e (I.Hk ne nf)
 .obtain⟨v,o,ho,_⟩:=I.cell x c e;exact cs c o ho (cl x c e)
end
abbrev EK:=_X->_Z->St->Hp->Prop
abbrev EH:=_X->_Z->Hp->Prop
abbrev PV:=St->Hp->VK->EH->Prop
abbrev LN:=Ends->EK->St->Hp->Prop
def XP(X:Cx)(ag:_Q)(EX:EK)(e:_X)(s':_Y):Prop:=∃ea cls σ' H',e=.ref ea/\wk X ag σ' H' s' ea cls/\EX cls ea σ' H'
abbrev atS(σ:St)(EX:EH):EK:=fun cls ea σ' H'=>σ'=σ/\EX cls ea H'
def Hl(X:Cx)(e:Expr)(t:PV):Prop:=
 ∀(ag:_Q)(s:_Y)(σ:St)(H:Hp)(Q:VK)(EX:EH),aM X ag σ H s->t σ H Q EX->wpAny (model X.prog X.w) X.A (eval e X.env) (EP X ag σ Q) (XP X ag (atS σ EX)) s
def Hm(X:Cx)(st:Stmt)(t:LN):Prop:=
 ∀(ag:_Q)(s:_Y)(σ:St)(H:Hp)(D:Ends)(EX:EK),aM X ag σ H s->t D EX σ H->wpAny (model X.prog X.w) X.A (exec st X.env) (SP X ag D) (XP X ag EX) s
def DD(X:Cx)(st:List Stmt)(t:LN):Prop:=
 ∀(ag:_Q)(s:_Y)(σ:St)(H:Hp)(D:Ends)(EX:EK),aM X ag σ H s->t D EX σ H->wpAny (model X.prog X.w) X.A (execs st X.env) (SP X ag D) (XP X ag EX) s
theorem XP.at{EX:EK}{e:_X}{s':_Y}(h:XP X ag (atS σ fun cls ea H'=>EX cls ea σ H') e s'):XP X ag EX e s':=by obtain⟨ea,cls,σ',H',rfl,J,rfl,q⟩:=h;exact⟨ea,cls,_,H',rfl,J,q⟩
def LP(sp:Sp)(t:TA):PV:=fun σ H Q EX=>t σ H fun vs H1=>sp vs H1 Q fun cls _ H'=>∀ea,EX cls ea H'
theorem DE{k:Nat}{ps:_W}{x:Str}{p:Pos}{t:TA}(F:ku X.prog X.w X.K X.mg X.base (iL X.prog X.w) k f fd ps sp)(hr:d0 k X.A)(hg:Gl X x)(hm:X.mg x=some (.ref f))(hk:PySem.W.keepIn X.K (.ref f)=true)(hb:Binds X.K fd ps [])(ya:∀y,X.fn y=true)(ha:∀W,PA (X.pP W) (e::es) t)(ju:(x==("__debug__":Str))=false:=by decide)(he:starEach (e::es) X.env=(false,eval e X.env)::starEach es X.env:=by rfl)(ip:(backTo pos (starEach es X.env)).any (·.1)=false:=by rfl):
  Hl X (.Call (.Name x p) (e::es) [] pos) (LP sp t):=by
 intro ag s σ H Q EX I h;refine WY (iU I hg hm ?_ ju);refine X! (h₀:=X.base) I.ok.mod.Gz hk (df (ha (XP X ag (atS σ EX)) pos ag s σ H _ (I.pP _) h) fun us s1⟨vs,H1,I1,r,q⟩=>⟨I1.uu.nq,?_⟩) he ip;have I2:=I1.uu;have hl:(us++[]).length=ps.length:=by rw[VZ,<-r.length];exact F.len _ _ _ _ q
 have hb2:=hb s1 us I2.nq hl;rw[VZ]at hb2;refine X3 (XC (F.run X.A X.stack s1 H1 ⟨us,[]⟩ us vs Q _ hr I2.Dc hb2 r q) fun r s' hq=>?_);cases r with
 |error e=>
  obtain⟨ea,cls,H',rfl,Z,hE⟩:=hq;exact⟨ea,cls,σ,H',rfl,I2.flew ya Z,rfl,hE ea⟩
 |ok fl=>
  cases fl with
  |ret u=>exact I2.after hq
  |next=>exact False.elim hq
  |brk=>exact False.elim hq
  |cont=>exact False.elim hq
theorem Hn{te:PV}(he:Hl X e te):Hm X (.Return (some e) pos) (fun D EX σ H=>te σ H D.rt fun cls ea H'=>EX cls ea σ H'):=by intro ag s σ H D EX I h;exact wpAny_Return_some (Ws (he ag s σ H _ _ I h) (fun v s1⟨x,H1,I1,r1,q1⟩=>⟨x,σ,H1,I1,r1,q1⟩) fun _ _ q=>q.at)
theorem DF{st:Stmt}{t:LN}(h1:Hm X st t):DD X [st] t:=by
 intro ag s σ H D EX I h;refine Zu (df (h1 ag s σ H D EX I h) fun f s1 q=>?_);cases f with
 |next=>exact XM q
 |ret v=>exact q
 |brk=>exact q
 |cont=>exact q
abbrev Ho:=Ends->EK->_X->_Z->St->Hp->Prop
def PH(X:Cx)(hs:List ExceptHandler)(th:Ho):Prop:=
 ∀(ag:_Q)(s:_Y)(σ:St)(H:Hp)(D:Ends)(EX:EK)(ea:_Z)(cls:_X),wk X ag σ H s ea cls->th D EX cls ea σ H->wpAny (model X.prog X.w) X.A (handleBy (.ref ea) X.env hs) (SP X ag D) (XP X ag EX) s
def LQ:Ho:=fun _ _ _ _ _ _=>False
theorem LR:PH X [] LQ:=fun _ _ _ _ _ _ _ _ _ h=>h.elim
theorem Hq{body:List Stmt}{tb:LN}{th:Ho}(dx:DefX X)(hb:DD X body tb)(hh:PH X (h₀::hs) th):Hm X (.Try body (h₀::hs) [] [] pos) (fun D EX σ H=>tb D (fun cls ea σ' H'=>th D EX cls ea σ' H') σ H):=by
 intro ag s σ H D EX I h;refine wpAny_Try_except (Ws (hb ag s σ H D _ I h) (fun f s1 q=>?_) fun e s1 q=>?_)
 .cases f with
  |next=>exact XM q
  |ret v=>exact q
  |brk=>exact q
  |cont=>exact q
 .obtain⟨ea,cls,σ',H',rfl,J,hE⟩:=q;obtain⟨B,t,fl,hn,go⟩:=J.slots;have PN:X.A.frames=some (X.env::X.outer):=by rw[<-dx.Gi];exact J.inv.ok.frames
  refine wpAny_looks_onW PN dx.fr (by rw[<-dx.Gi];exact fl) fun h4 held up4=>?_;refine wpAny_landsW held fun h5 fl5 up5=>?_;exact hh ag _ σ' H' D EX ea cls (go h5 (by rw[dx.Gi];exact fl5) (up4.trans up5)) hE
theorem LS{body:List Stmt}{tb:LN}{th:Ho}(dx:DefX X)(hb:DD X body tb)(hh:PH X (h₀::hs) th):
  PS X (.Try body (h₀::hs) [] [] pos) (fun D σ H=>tb D (fun cls ea σ' H'=>th D (fun _ _ _ _=>False) cls ea σ' H') σ H):=by
 intro ag s σ H D I h;exact Ws (Hq dx hb hh ag s σ H D (fun _ _ _ _=>False) I h) (fun _ _ q=>q) fun _ _⟨_,_,_,_,_,_,z⟩=>z.elim
def yp(X:Cx)(ea:_Z)(oe:Obj):Cx:={X with A:=X.A.mark (some (.ref ea)),calm:=false,pn:=(ea,oe)::X.pn,xe:=fun _ _=>False}
theorem wk.yp{s:_Y}(J:wk X ag σ H s ea cls):∃oe,s.heap.get? ea=some oe/\oe.cls=cls/\aM (L2.yp X ea oe) ag σ H s:=by
 obtain⟨B,t,fl,hn,_⟩:=J.slots;obtain⟨oe,vs,he,hc,hd,_⟩:=fl.first;have I:=J.inv;have J3:∀b∈gN X.stack,ea≠b:=fun b hb z=>by obtain⟨_,o,ho,Hi⟩:=I.stack.mem hb;rw[<-z,he]at ho;cases ho;exact Hi vs hd
 have CZ:ea≠X.env.locals:=fun z=>by obtain⟨m,⟨o,es,ep,ho,hdd,_⟩,_⟩:=I.loc;rw[<-z,he]at ho;cases ho;rw[hd]at hdd;cases hdd
 have TZ:ea ∉ X.fs:=fun hb=>by obtain⟨_,o,ho,Hi⟩:=I.iM.mem hb;rw[he]at ho;cases ho;exact Hi vs hd
 refine⟨oe,he,hc,⟨⟨I.ok.mod,I.ok.kind,I.ok.glob,I.ok.blt,I.ok.above,I.ok.inj,I.ok.has,I.ok.CS,fun z=>(by cases z),I.ok.frames,I.ok.Gi,I.ok.RP,I.ok.bs,I.ok.Bf,I.ok.vZ,I.ok.Bg,I.ok.iM,I.ok.x?⟩,I.os,I.bare,I.base,I.loc,I.cell,I.free,I.gO,fun p hp=>?_,I.bN,I.len⟩⟩;rcases VU.mp (show p∈(ea,oe)::(X.pn++ag)from hp)with z|z
 .rw[z];exact⟨he,hn,CZ,TZ,fun v q=>by rw[hd]at q;cases q⟩
 .exact I.pin p z
theorem aM.Ub{s:_Y}(ok:X.Ok)(I:aM (L2.yp X ea oe) ag σ H s):aM X ag σ H s:=
 ⟨ok,I.os,I.bare,I.base,I.loc,I.cell,I.free,I.gO,fun p hp=>I.pin p (VQ _ hp),I.bN,I.len⟩
theorem Bz{M:Model}{E:_O}{s:_Y}{K:_R}{b:Bool}{Q:Bool->_Y->Prop}(KX:K.In s.heap)(he:s.heap.get? ea=some oe)(h1:PySem.W.kitCls K oe.cls (.ref C)=some b)(h2:PySem.W.subIn K (.ref C) (.type "BaseException")=some true)(q:Q b s):
  wpAny M A (excMatches (.ref ea) (.ref C)) Q E s:=by
 obtain⟨l1,l2,l3⟩:=_I (M:=M) KX h1;have l4:=PySem.W.looks_subIn (M:=M) KX h2;obtain⟨hp,g,d,tk,os⟩:=s;have lt:PySem.W.Looks M hp (isInstance (.ref C) (.type "tuple")) false:=l1.andThen (.of_pure tc_notTuple);have lx:PySem.W.Looks M hp (isExcClass (.ref C)) true:=fun A' Q' E' s' k z=>by unfold isExcClass;refine Vl (l2 A' _ E' s' k ?_);rw[Vu rfl];exact l4 A' Q' E' s' k z
 have ly:PySem.W.Looks M hp (typeOf (.ref ea)) oe.cls:=fun A' Q' E' s' k z=>by unfold typeOf;exact Vl (wpAny_loadPart (k _ _ he) (Vq z))
 unfold excMatches;refine Vl (lt.here ?_);simp only[V3,WN,pure_bind,List.forIn_cons,List.forIn_nil,bind_assoc];refine Vl (lx.here ?_);simp only[W?,V3,WN,pure_bind];refine Vl (ly.here ?_);refine Vl (l3.here ?_);cases b with
 |true=>exact Vq q
 |false=>exact Vq q
theorem oH{E:_O}{s:_Y}{K:_R}{c:_X}(KX:K.In s.heap)(he:s.heap.get? ea=some oe)(e:PySem.W.kitOne K oe.cls c=some true)(h:Q (.bool true) s):
  wpAny (model prog w) A (call (.builtin "isinstance") [.ref ea,c]) Q E s:=by
 have ly:PySem.W.Looks (model prog w) s.heap (typeOf (.ref ea)) oe.cls:=fun A' Q' E' s' k z=>by unfold typeOf;exact Vl (wpAny_loadPart (k _ _ he) (Vq z))
 refine PyProof.Rows.call_isinstance_of ?_ (by intro z;cases z);unfold PySem.W.kitOne at e;unfold Builtin.«isinstance.nested»;refine Vl (ly.here ?_);by_cases q:(oe.cls==c)=true
 .rw[Vu q]
  first
   |exact Vl (WV h)
   |exact Vl (WV (Vq h))
   |exact Vq h
 .rw[VA q]at e;rw[VA q];obtain⟨Ls,his,PL⟩:=_I (M:=model prog w) KX e;have LI:PySem.W.Looks (model prog w) s.heap (isInstance (.ref ea) c) true:=ly.andThen PL;refine Vl (Ls.here ?_);rw[Vu (by decide)]
  k_delta "plainIsInstance"
  refine Vl (Vl (his.here ?_));simp only[W?,V3,WN];refine Vl (LI.here ?_)
  first
   |exact Vq (Vq h)
   |(simp only[Xr];first|exact Vq (Vq h)|exact Vq h|exact Vl (Vq (Vq h)))
theorem uQ:cm X (.builtin "isinstance") (fun xs H Q=>∃ea oe c,(xs=[.ref ea,.ref c]/\W.kitOne X.K oe.cls (.ref c)=some true\/∃n,xs=[.ref ea,.ty n]/\W.kitOne X.K oe.cls (.type n)=some true)/\(ea,oe)∈X.pn/\Q (.bl true) H):=by
 intro ag s σ H xs us Q I r h;obtain⟨ea,oe,c,hx,hp,q⟩:=h;have he:=(I.pin (ea,oe) (WU _ hp)).1;rcases hx with⟨rfl,e⟩|⟨n,rfl,e⟩
 .obtain⟨u,u2,rfl,ru,LL⟩:=vals2 r;cases ru;cases LL;exact oH I.nq he e ⟨.bl true,H,I,rfl,q⟩
 .obtain⟨u,u2,rfl,ru,LL⟩:=vals2 r;cases ru;cases LL;exact oH I.nq he e ⟨.bl true,H,I,rfl,q⟩
theorem aM.Hr{s:_Y}{n:Str}{u:_U}{m:_P}(I:aM X ag σ H s)(hN:X.N.Nodup)(hi:X.N[i]?=some n)(hx:X.env.kindOf n=some .local)(hn:s.heap.Ns X.env.locals m)(hl:∀(j:Nat)(x:Str)(v:V),X.N[j]?=some x->σ[j]?=some (some v)->Gh X.env.scope x->∃u,bo v u/\Look X.env s.heap m x u)(GA:h'.Ns X.env.locals (fun x=>if x=n then u else m x))(sb:Heap.SameBut X.env.locals s.heap h'):aM X ag (σ.set i none) H {s with heap:=h'}:=by
 have iσ:i<σ.length:=by rw[I.len];exact(V_.mp hi).1
 have LU:∀b o,b≠X.env.locals->s.heap.get? b=some o->h'.get? b=some o:=fun b o hb e=>(sb.2 b hb).trans e;have CZ:∀b o,X.s₀.heap.get? b=some o->b≠X.env.locals:=fun b o e=>VS (VE (Vz e) I.ok.above);refine⟨I.ok,I.os,I.bare,⟨fun b o q nn hb hx=>LU b o (CZ b o q) (I.base.keep b o q nn hb hx),fun b o q nn hb hx=>?_,I.base.free,fun b o q hx=>?_,I.base.jC,I.base.iT,I.base.jD⟩,⟨_,GA,fun j x v e1 e2 e3=>?_⟩,fun x c e=>?_,I.free,I.gO,fun p hp=>?_,fun b w q=>?_,by rw[XO];exact I.len⟩
 .obtain⟨sl,e1⟩:=I.base.slot b o q nn hb hx;exact⟨sl,LU b _ (CZ b o q) e1⟩
 .obtain⟨o',e1⟩:=I.base.there b o q hx;exact⟨o',LU b o' (CZ b o q) e1⟩
 .by_cases hj:j=i
  .subst hj;rw[WH iσ]at e2;cases e2
  .rw[W6 (Xi hj)]at e2;obtain⟨u',r,l⟩:=hl j x v e1 e2 e3;have nx:x≠n:=fun z=>hj (pN hN e1 (z▸hi));refine⟨u',r,?_⟩;rcases l with⟨k,e⟩|⟨k,c,e,o,ho,hd⟩
   .exact .inl ⟨k,by simp[nx,e]⟩
   .exact .inr ⟨k,c,e,o,LU c o (I.CY x c e) ho,hd⟩
 .obtain⟨v,o,ho,hd⟩:=I.cell x c e;exact⟨v,o,LU c o (I.CY x c e) ho,hd⟩
 .obtain⟨e,z,ne,nf,d⟩:=I.pin p hp;exact⟨LU p.1 p.2 ne e,z,ne,nf,d⟩
 .refine(I.bN b w q).kj (fun c v hc z=>LU c v ?_ z) (fun _ z=>z) fun _ _ z=>z;intro z';rcases hc with r|r
  .rw[<-r,z',I.free]at q;cases q
  .rw[z',I.free]at r;cases r
def Uc(K:_R)(C:_Z)(i:Nat)(ts:_Z->Obj->TS)(tr:Ho):Ho:=fun D EX cls ea σ H=>∃b,W.kitCls K cls (.ref C)=some b/\if b=true then ∀oe,oe.cls=cls->ts ea oe {nx:=fun σ' H'=>D.nx (σ'.set i none) H',rt:=D.rt,bk:=fun σ' H'=>D.bk (σ'.set i none) H',ct:=fun σ' H'=>D.ct (σ'.set i none) H'} (σ.set i (some (.ref ea))) H else tr D EX cls ea σ H
theorem PX{x n:Str}{rest:List ExceptHandler}{ts:_Z->Obj->TS}{tr:Ho}(hN:X.N.Nodup)(hi:X.N[i]?=some n)(hl:X.env.scope.names.lookup n=some .local)(hg:Gl X x)(hm:X.mg x=some (.ref C))(hB:W.subIn X.K (.ref C) (.type "BaseException")=some true)(hs:∀ea oe,i' (L2.yp X ea oe) (b₀::ja) (ts ea oe))(hr:PH X rest tr)(hd:(x==("__debug__":Str))=false:=by decide):PH X (.ExceptHandler (some (.Name x np)) (some n) (b₀::ja) pos::rest) (Uc X.K C i ts tr):=by
 intro ag s σ H D EX ea cls J h;obtain⟨b,hb,h⟩:=h;obtain⟨oe,he,hc,I⟩:=J.yp;refine wpAny_handleBy_cons (codeAny_handlers_test (iU I (show Gl (L2.yp X ea oe) x from hg) (show(L2.yp X ea oe).mg x=some (.ref C)from hm) ?_ hd)) (by intro z;cases z);refine Bz I.nq he (by rw[hc];exact hb) hB ?_;cases b with
 |false=>exact hr ag s σ H D EX ea cls J (by simpa using h)
 |true=>
  obtain⟨B,t,fl,hn,go⟩:=J.slots;have h':∀oe,oe.cls=cls->ts ea oe {nx:=fun σ' H'=>D.nx (σ'.set i none) H',rt:=D.rt,bk:=fun σ' H'=>D.bk (σ'.set i none) H',ct:=fun σ' H'=>D.ct (σ'.set i none) H'} (σ.set i (some (.ref ea))) H:=by simpa using h
  refine codeAny_handlers_suite_as (lands_againW fl fun h6 fl6 up6=>?_);have J6:=go h6 fl6 up6;obtain⟨Se,he6,hc6,I6⟩:=J6.yp;refine lU (X:=L2.yp X ea Se) (v:=.ref ea) I6 hN hi (Or.inl hl) rfl (fun s7 I7=>?_) (Or.inr hl);refine Ws (hs ea Se ag s7 _ H _ I7 (h' Se hc6)) (fun f s8 q=>?_) fun _ _ z=>z.elim
  -- Og name is let go
  have letGo:∀{σ8:St}{H8:Hp}{R:_Y->Prop},aM (L2.yp X ea Se) ag σ8 H8 s8->(∀s9,aM X ag (σ8.set i none) H8 s9->R s9) ->
    wpAny (model X.prog X.w) X.A (do bindName X.env n .none;unbindBehindTheSuite X.env n pos) (fun _ s9=>R s9) (XP X ag EX) s8:=fun{σ8 H8 R}I8 k=>by
   have I9:=I8.Ub J.inv.ok;refine Vl (wpAny_bindName (nv I9 hN hi (Or.inl hl) (v:=.dc) rfl (fun s9 Ud⟨a,sb,ha⟩=>?_) (Or.inr hl)));obtain⟨m,ns,hlk⟩:=Ud.loc;have iσ:i<σ8.length:=by rw[I9.len];exact(V_.mp hi).1
   obtain⟨u,ru,lk⟩:=hlk i n .dc hi (WH iσ) (Or.inl hl);have hmn:m n=some u:=by
    rcases lk with⟨_,e⟩|⟨k',_⟩
    .exact e
    .exfalso;rcases k' with z|z
     .have z':X.env.scope.names.lookup n=some .cell:=z;rw[hl]at z';cases z'
     .have z':X.env.scope.names.lookup n=some .free:=z;rw[hl]at z';cases z'
   unfold unbindBehindTheSuite;refine Yr (wpAny_unbindName_local hl ns hmn (by rw[Ud.ok.kind];rfl) fun Ov u' Ue T5=>?_);have I11:=Ud.Hr hN hi hl ns hlk Ue T5;rw[List.set_set]at I11;exact k _ I11
  cases f with
  |next=>
   obtain⟨σ8,H8,I8,q8⟩:=q;exact letGo I8 fun s9 I9=>⟨_,H8,I9,q8⟩
  |brk=>
   obtain⟨σ8,H8,I8,q8⟩:=q;exact letGo I8 fun s9 I9=>⟨_,H8,I9,q8⟩
  |cont=>
   obtain⟨σ8,H8,I8,q8⟩:=q;exact letGo I8 fun s9 I9=>⟨_,H8,I9,q8⟩
  |ret v=>
   obtain⟨x8,σ8,H8,I8,r8,q8⟩:=q;exact letGo I8 fun s9 I9=>⟨x8,_,H8,I9,r8,q8⟩
def Sf(lo:Int)(n:Nat):It:=⟨fun i _=>i<n,fun i H x H'=>H'=H/\x=.int (lo-i),fun i _=>n<=i⟩
theorem BA{K:_R}(it:_Z)(lo:Int)(n:Nat):Turn P w K tg (Sf lo n) [it] it (fun i h=>IsRangeIter h it (lo+(i:Nat)*(-1)) ((n:Int)-(i:Nat)) (-1)) where
 mem:=by simp
 obj:=fun i h st b hb=>by
  have e:b=it:=by simpa using hb
  subst e;exact⟨_,st,fun v z=>by
   have z':Data.fields _=Data.cell v:=z;cases z'⟩
 keep:=fun i h h' st k=>k it (by simp) _ st
 item:=by intro X hP hw hK hc i ag s σ H E I hf st hg;subst hP hw hK;obtain⟨f0,f1,f2,f3,f4,f5⟩:=hf it (by simp);have W:=Walks.range (prog:=X.prog) (w:=X.w) (I.ok.hd hc) it lo (-1) n;refine W.item i s _ _ hg st fun v h' tk hv av kk=>?_;obtain⟨t,rfl⟩:=hv;have I1:aM X ag σ H {s with heap:=h',toks:=tk}:=I.turned (fun b o hb e=>kk b o (by simpa using hb) e) f0 f1 f3 f4 f5;refine⟨_,rfl,z8 (s:={s with heap:=h',toks:=tk}) (n:="range_iterator") av rfl rfl (by decide) ⟨.int (lo-i),H,I1,⟨t,?_⟩,⟨rfl,rfl⟩,av,fun b hb=>(hf b hb).1⟩⟩;rw[show lo+(i:Int)*(-1)=lo-(i:Int) by lia]
 done:=by intro X hP hw hK hc i ag s σ H E I hf st hg;subst hP hw hK;obtain⟨f0,f1,f2,f3,f4,f5⟩:=hf it (by simp);exact _s (I.ok.hd hc) st (by have:n<=i:=hg;lia) fun h' eb=>⟨rfl,I.turned (t':=s.toks) (fun b o hb e=>eb b o hb e) f0 f1 f3 f4 f5⟩
 self:=fun _ _ _ _ _ st h=>_u st h
theorem Hs{s:_Y}{R:It->Hp->Prop}{E:_O}{lo hi:Int}{t u v:Tok}{tk:Nat}(I:aM X ag σ H s)(h1:-(2 ^ 62)<=lo)(h2:lo<2 ^ 62)(h3:-(2 ^ 62)<=hi)(h4:hi<2 ^ 62)(q:R (Sf lo (lo-hi).toNat) H):wpAny (model X.prog X.w) X.A (pyIter (.ref s.heap.objs.size)) (Tn X ag σ tg R) E {s with heap:=s.heap.push {cls:=.type "range",data:=.fields #[.int lo t,.int hi u,.int (-1) v]},toks:=tk}:=by
 refine wpAny_pyIter_range (IsRange.new ..) (W.small_down h1 h2 h3 h4) ?_;have I1:aM X ag σ H {s with heap:=s.heap.push {cls:=.type "range",data:=.fields #[.int lo t,.int hi u,.int (-1) v]},toks:=tk}:=I.kept fun b o e=>Vn _ e;refine⟨(s.heap.push {cls:=.type "range",data:=.fields #[.int lo t,.int hi u,.int (-1) v]}).objs.size,[(s.heap.push {cls:=.type "range",data:=.fields #[.int lo t,.int hi u,.int (-1) v]}).objs.size],_,_,H,rfl,
  I1.kept (t':=tk) fun b o e=>Vn _ e,BA _ lo (lo-hi).toNat,?_,fun b hb=>?_,q⟩
 .have e1:lo+((0:Nat):Int)*(-1)=lo:=by simp
  have e2:(((lo-hi).toNat:Nat):Int)-((0:Nat):Int)=Builtin.Range.rangeSize lo hi (-1):=by rw[W.rangeSize_downNat];lia
  show IsRangeIter _ _ (lo+((0:Nat):Int)*(-1)) ((((lo-hi).toNat:Nat):Int)-((0:Nat):Int)) (-1);rw[e1,e2];exact VJ _ rfl
 .have e:b=(s.heap.push {cls:=.type "range",data:=.fields #[.int lo t,.int hi u,.int (-1) v]}).objs.size:=by simpa using hb
  subst e;exact I1.C6 (Vo _) (I1.bN.fresh (Vo _))
def PY(ta:TA):TI:=fun σ H R=>ta σ H fun vs H1=>∃i j:Int,vs=[.int i,.int j,.int (-1)]/\(-(2 ^ 62)<=i/\i<2 ^ 62/\-(2 ^ 62)<=j/\j<2 ^ 62)/\R (Sf i (i-j).toNat) H1
theorem Ht{a b c:Expr}{ta:TA}{p:Pos}(hg:Gl X "range")(hm:X.mg "range" = none)(ha:PA X [a,b,c] ta)(hs:starEach [a,b,c] X.env=[(false,eval a X.env),(false,eval b X.env),(false,eval c X.env)]:=by rfl)(eV:starEach [b,c] X.env=[(false,eval b X.env),(false,eval c X.env)]:=by rfl):
  PI X tg (.Call (.Name "range" p) [a,b,c] [] pos) (PY ta):=by
 intro ag s σ H R I h;refine Call_ (kN I hg hm boot_range (Xn (df (ha pos ag s σ H _ I h) fun us s1⟨vs,H1,I1,r1,q1⟩=>?_) (by rw[hs,eV]) (by rw[eV];rfl)));obtain⟨i,j,e,⟨q1,q2,q3,q4⟩,q⟩:=q1;subst e;cases r1 with
 |cons r rr=>
  cases rr with
  |cons r' rr=>
   cases rr with
   |cons r'' rr=>
    cases rr;obtain⟨t,rfl⟩:=r;obtain⟨t',rfl⟩:=r';obtain⟨t'',rfl⟩:=r'';refine call_range_3 (by decide) (Hs I1 q1 q2 q3 q4 q) (.inl (Zx (by decide +kernel)))
section
variable{p:Pos}
end
theorem BB(hh:X.A.handled=none):cm X (.builtin "max") (fun xs H Q=>∃i j,xs=[.int i,.int j]/\Q (.int (if j>i then j else i)) H):=by
 rintro ag s σ H xs ws Q I r ⟨i,j,rfl,q⟩;obtain⟨u,v,rfl,ru,rv⟩:=bf.two r;obtain⟨t,rfl⟩:=ru;obtain⟨t',rfl⟩:=rv;refine max_two_ints hh fun h' tk hk=>?_;refine⟨.int (if j>i then j else i),H,I.kept hk,?_,q⟩;by_cases c:j>i
 .rw[Vu c,Vu c];exact⟨_,rfl⟩
 .rw[VA c,VA c];exact⟨_,rfl⟩
theorem BC:cm X (.type "int") (fun xs H Q=>∃b,xs=[.bl b]/\Q (.int (if b then 1 else 0)) H):=by rintro ag s σ H xs ws Q I r ⟨b,rfl,q⟩;obtain⟨u,rfl,ru⟩:=bf.one r;cases ru;exact call_int_bool ⟨.int (if b then 1 else 0),H,I.tok _,⟨_,rfl⟩,q⟩
structure d5 where
 qual:Str
 params:Arguments
 body:Expr
 scope:Scope
 ps:_W
 x:Str
structure d5.Ok(L:d5):Prop where
 kind:L.scope.kind=.function
 co:L.scope.isCoroutine=false
 gen:L.scope.isGenerator=false
 fu:∀y∈L.scope.names,y.2≠.cell
 par:∀p∈L.ps,L.scope.names.lookup p=some .local
 fr:L.scope.names.lookup L.x=some .free
 free:∀y,L.scope.names.lookup y=some .free->y=L.x
 nd:(L.ps++[L.x]).Nodup
 bind:∀(pm cd ct:_X)(cl:List (Str×_Z))(us:_T),us.length=L.ps.length->bindArgs (W.kla_fn "<lambda>" L.qual L.params L.body L.scope cl pm cd ct) ⟨us,[]⟩=pure (L.ps.zip us)
abbrev Fz(H:Hp)(a:_Z)(o:Obj):Prop:=H a=some (.gB o (.own 0))
structure BD(L:d5)(H:Hp)(f c c':_Z)(v:V):Prop where
 fn:∃pm yq,Fz H f (W.kla_obj "<lambda>" L.qual L.params L.body L.scope [(L.x,c)] pm c' yq)
 cd:∃oc vs t,Fz H c' oc/\oc.data=.fields vs/\vs[1]?=some (.str L.qual t)
 ce:∃oc u,Fz H c oc/\oc.data=.cell (some u)/\bo v u
def hide(H:Hp)(c:_Z):Hp:=fun b=>if b=c then none else H b
def back(H H':Hp)(c:_Z):Hp:=fun b=>if b=c then H b else H' b
theorem cj{b c:_Z}(h:b≠c):hide H c b=H b:=VA h
theorem hide_self{c:_Z}:hide H c c=none:=Vu rfl
theorem gU{b c:_Z}(h:b≠c):back H H' c b=H' b:=VA h
theorem nC{c:_Z}:back H H' c c=H c:=Vu rfl
def sP(P:_1)(w:World)(K:_R)(mg:_P)(base:Heap)(L:d5)(f c c':_Z)(A:_0)(outer:List Env)(s:_Y)(H:Hp):Cx where
 prog:=P
 w:=w
 K:=K
 mg:=mg
 base:=base
 A:=A.deeper (W.envX L.qual L.scope s.heap.objs.size f (.ref c') [(L.x,c)])
 N:=L.ps++[L.x]
 s₀:=s
 H₀:=hide H c
 env:=W.envX L.qual L.scope s.heap.objs.size f (.ref c') [(L.x,c)]
 outer:=outer
 stack:=W.envX L.qual L.scope s.heap.objs.size f (.ref c') [(L.x,c)]::outer
 ex:=[]
 calm:=true
 fn:=fun y => !(y==L.x)
 pn:=[]
 xe:=fun _ _=>False
theorem Ak:∀{ps:_W}{us:_T}{i:Nat}{y:Str}{u:_X},ps.Nodup->ps[i]?=some y->us[i]?=some u->(ps.zip us).reverse.lookup y=some u
 |[],_,_,_,_,_,h,_=>by cases h
 |_::_,[],_,_,_,_,_,h=>by cases h
 |p::ps,w::us,i,y,u,nd,h1,h2=>by
  have n:=WB.mp nd;rw[Yy,Xx,List.lookup_append];cases i with
  |zero=>
   cases h1;cases h2;have:(ps.zip us).reverse.lookup p=none:=by
    rw[List.lookup_eq_none_iff];intro q hq;have:=(XY (W5.mp hq)).1;have ne:p≠q.1:=by intro z;apply n.1;rw[z];exact this
    first|exact V9.mpr ne|exact V9.mpr (Xi ne)|simpa using ne|simpa using(Xi ne)
   rw[this];simp
  |succ i=>
   rw[Ak n.2 (show ps[i]?=some y from h1) (show us[i]?=some u from h2)];rfl
section
variable{K:_R}{mg:_P}{base:Heap}{L:d5}{c:_Z}{outer:List Env}{s s1:_Y}{us:_T}{vs:List V}{v:V}
theorem wm{o:Obj}(x:il P w H h)(hc:Fz H c o)(k:∀b u,h.get? b=some u->h'.get? b=some u):il P w (hide H c) h':=fun a ob e=>by
 have ne:a≠c:=fun z=>by rw[z,hide_self]at e;cases e
 rw[cj ne]at e;refine(x a ob e).kj (fun b u _ q=>k b u q) (fun b q=>?_) fun b xs q=>?_
 .have n2:b≠c:=by intro z;rw[z,hc]at q;cases q
  rw[cj n2];exact q
 .have n2:b≠c:=by intro z;rw[z,hc]at q;cases q
  rw[cj n2];exact q
theorem BE(LO:L.Ok)(C:BD L H f c c' v)(hd:A.handled=none)(e0:rL P w K mg base A outer s H)(hl:vs.length=L.ps.length)(r:bf vs us){h1:Heap}{tk:Nat}(Gm:h1.Ns s.heap.objs.size (fun y=>(L.ps.zip us).reverse.lookup y))(hk:∀b o,s.heap.get? b=some o->h1.get? b=some o):
  aM (sP P w K mg base L f c c' A outer s H) [] (vs.map some++[some v]) (hide H c) {s with heap:=h1,toks:=tk}:=by
 obtain⟨oc,u,hc,j6,rv⟩:=C.ce;have gc:s.heap.get? c=some oc:=(e0.bN c _ hc).1;have ic:h1.IsCell c (some u):=⟨oc,hk _ _ gc,j6⟩
 have wq:∀y z,([(L.x,c)]:List (Str×_Z)).lookup y=some z->y=L.x/\z=c:=fun y z h=>by
  rw[Y5]at h;split at h
  .rename_i e;exact⟨by simpa using e,(VP h).symm⟩
  .cases h
 have J4:([(L.x,c)]:List (Str×_Z)).lookup L.x=some c:=by rw[Y5,WG]
 have Ug:∀b,H b=none->hide H c b=none:=fun b h=>by
  unfold hide;split
  .rfl
  .exact h
 have RW:L.ps.Nodup:=(Zz.mp LO.nd).1;refine⟨⟨e0.mod,LO.kind,rfl,rfl,Vo _,fun y z a h1 h2=>(wq y a h1).1.trans (wq z a h2).1.symm,fun y hy=>?_,fun y a h1 h2=>?_,fun _=>hd,Around.frames_deeper e0.frames,.inr ⟨rfl,rfl⟩,(fun b z=>by cases z),fun b o e=>⟨(e0.bs b o e).1,Ug b (e0.bs b o e).2⟩,e0.Bf,(fun b _ _ z=>by cases z),(fun b z=>by cases z),e0.iM,fun b hb=>Ug b (e0.x? b hb)⟩,
  rfl,e0.bare,Un.kept hk,⟨_,Gm,fun i y v' h1 h2 h3=>?_⟩,(fun y a h=>⟨some u,by rw[(wq y a h).2];exact ic⟩),Ug _ (e0.bN.fresh (Vo _)),(fun y a h=>by rw[(wq y a h).2];exact hide_self),(fun q hq=>by cases hq),wm e0.bN hc hk,?_⟩
 .have hy:L.scope.names.lookup y=some .cell\/L.scope.names.lookup y=some .free:=hy;rcases hy with hy|hy
  .exact absurd rfl (LO.fu _ (Wx hy))
  .exact⟨c,by rw[LO.free y hy];exact J4⟩
 .have:=(wq y a h2).1;subst this;have h1:(!(L.x==L.x))=true:=h1;rw[WG]at h1;cases h1
 .have h1:(L.ps++[L.x])[i]?=some y:=h1;rcases V2 i L.ps.length with q|q
  .rw[VL q]at h1;rw[VL (by rw[Vm,hl];exact q),VF]at h2;have ha:vs[i]?=some v':=by
    cases e:vs[i]? with
    |none=>rw[e]at h2;cases h2
    |some a=>rw[e]at h2;cases h2;rfl
   obtain⟨u',hu,Uh⟩:=r.get ha;exact⟨u',Uh,.inl ⟨LO.par y (XD h1),Ak RW h1 hu⟩⟩
  .rw[Vv q]at h1;rw[Vv (by rw[Vm,hl];exact q),Vm,hl]at h2;cases z:i-L.ps.length with
   |zero=>
    rw[z]at h1 h2;cases h1;cases h2;exact⟨u,rv,.inr ⟨.inr LO.fr,c,J4,ic⟩⟩
   |succ k=>rw[z]at h1;cases h1
 .show(vs.map some++[some v]).length=(L.ps++[L.x]).length;rw[Vr,Vr,Vm,hl];rfl
theorem Hu{o:Obj}{fs:_V}(hc:Fz H c o)(Ui:c ∉ fs)(ok:il P w H h)(u:Un fs [] (hide H c) H' h h')(Sg:il P w H' h'):Un fs [] H (back H H' c) h h'/\il P w (back H H' c) h':=by
 have gc:h.get? c=some o:=(ok c _ hc).1;have PZ:h'.get? c=some o:=u.keep c o gc hide_self Ui (by simp);have fc:H' c=none:=u.free c o gc hide_self (by simp);have nc:∀b x,H b=some x->(∀o u,x≠.gB o u)->b≠c:=fun b x q z e=>by rw[e,hc]at q;exact z _ _ (VP q).symm
 have n0:∀b,H b=none->b≠c:=fun b q e=>by rw[e,hc]at q;cases q
 refine⟨⟨fun b ob q n hb _=>u.keep b ob q (by rw[cj (n0 b n)];exact n) hb (by simp),fun b ob q n hb _=>u.slot b ob q (by rw[cj (n0 b n)];exact n) hb (by simp),fun b ob q n _=>?_,fun b ob q _=>u.there b ob q (by simp),fun b xs q=>?_,fun b ob x q=>?_,fun b ps q=>?_⟩,fun b x q=>?_⟩
 .rw[gU (n0 b n)];exact u.free b ob q (by rw[cj (n0 b n)];exact n) (by simp)
 .have ne:=nc b _ q fun _ _ z=>by cases z
  rw[gU ne];exact u.jC b xs (by rw[cj ne];exact q)
 .by_cases ne:b=c
  .rw[ne,nC,<-ne];exact q
  .rw[gU ne];exact u.iT b ob x (by rw[cj ne];exact q)
 .have ne:=nc b _ q fun _ _ z=>by cases z
  rw[gU ne];exact u.jD b ps (by rw[cj ne];exact q)
 .by_cases ne:b=c
  .rw[ne,nC,hc]at q;cases q;rw[ne];exact⟨PZ,o,PZ⟩
  .rw[gU ne]at q;have up:∀a y,H' a=some y->back H H' c a=some y:=fun a y z=>by rw[gU (fun e=>by rw[e,fc]at z;cases z)];exact z
   exact(Sg b x q).kj (fun _ _ _ z=>z) (fun a z=>up a _ z) fun a xs z=>up a _ z
theorem Hv{k:Nat}{Q:VK}(LO:L.Ok)(C:BD L H f c c' v)(hr:d0 (k+1) A)(e0:rL P w K mg base A outer s H)(hl:vs.length=L.ps.length)(r:bf vs us)(h:∃t,PE (sP P w K mg base L f c c' A outer s H) L.body t/\t (vs.map some++[some v]) (hide H c) fun y H'=>H' c=none->Q y (back H H' c)):
  codeAny (model P w) A (.call (.ref f) ⟨us,[]⟩) (CR (iL P w) outer P w H s Q E) s:=by
 obtain⟨pm,yq,hf⟩:=C.fn;obtain⟨oc,ws,t,j6,hd,hq⟩:=C.cd;obtain⟨ocl,u0,Uj,_⟩:=C.ce;have hlu:us.length=L.ps.length:=by rw[<-r.length];exact hl
 have lim:s.heap.NoLimit:=e0.mod.nolimit.keeps fun b o e=>(e0.bs b o e).1;refine W.kla_callFunE hr.depth (e0.bN f _ hf).1 rfl LO.co LO.gen rfl ⟨c',oc,ws,t,rfl,(e0.bN c' _ j6).1,hd,hq⟩ ?_;rw[LO.bind _ _ _ _ us hlu];refine Vq (wpAny_newFunctionEnv LO.fu (fun y hy=>LO.par y.1 (XY (show(y.1,y.2)∈L.ps.zip us from hy)).1) (fun h1 Gm hsb=>?_) LO.kind);have hk:∀b o,s.heap.get? b=some o->h1.get? b=some o:=fun b o e=>hsb.extBut b o (VS (Vz e)) (Vn _ e);refine⟨lim.keeps hk,?_⟩;show codeAny _ _ (.expr L.body (W.envX L.qual L.scope s.heap.objs.size f (.ref c') [(L.x,c)])) _ _;obtain⟨tr,pe,ht⟩:=h;have I:=BE (tk:=s.toks+(L.ps.zip us).length) LO C hr.hd e0 hl r Gm hk;refine W.kla_codeExpr (Ws (pe [] _ _ _ _ I ht) (fun y s' hy=>?_) fun _ _ z=>z.elim);obtain⟨y',H',J,ry,qy⟩:=hy;have Ui:c ∉ gN outer:=fun z=>by have:=e0.x? c z;rw[Uj]at this;cases this
 obtain⟨un,ok⟩:=Hu Uj Ui e0.bN J.base J.bN;exact⟨y',back H H' c,J.os,J.bare,un,ok,ry,qy (J.base.free c _ (e0.bN c _ Uj).1 hide_self (by simp[sP]))⟩
end
def Tab(H:Hp)(T:_Z)(line col:Nat)(qual:Str):Prop:=H T=some (.rG #[]) \/
 ∃c' oc vs t,H T=some (.rG #[rawInt line,rawInt col,.ref c'])/\Fz H c' oc/\oc.data=.fields vs/\vs[1]?=some (.str qual t)
structure J5(X:Cx)(L:d5)(pos:Pos)(cd T c:_Z):Prop where
 code:X.env.code=.ref cd
 hd:W.CodeHd X.base cd T
 cl:closureFor L.scope X.env=pure [(L.x,c)]
 qual:L.qual=X.env.qual ++ "<lambda>"
 dflt:defaultsOf L.params X.env=([],[])
 blt:X.base.BuiltinsAt X.mg T
 gT:mainGlobals≠T
structure DG(L:d5)(H H':Hp)(T c f c':_Z)(pos:Pos):Prop where
 fn:∃pm yq,Fz H' f (W.kla_obj "<lambda>" L.qual L.params L.body L.scope [(L.x,c)] pm c' yq)
 cd:∃oc vs t,Fz H' c' oc/\oc.data=.fields vs/\vs[1]?=some (.str L.qual t)
 tab:Tab H' T pos.line pos.col L.qual
 old:∀b o,b≠T->H b=some o->H' b=some o
def Uk(L:d5)(T c:_Z)(pos:Pos):TE:=fun _ H Q=>Tab H T pos.line pos.col L.qual/\∀f c' H',DG L H H' T c f c' pos->Q (.ref f) H'
theorem BF:codeAmong pos (#[]:Array _X).toList=none:=rfl
section
variable{L:d5}{cd T c:_Z}
theorem LV(A:J5 X L pos cd T c):PE X (.Lambda L.params L.body L.scope pos) (Uk L T c pos):=by
 intro ag s σ H Q I h;obtain⟨tb,q⟩:=h;have C:W.CodeHd s.heap cd T:=A.hd.keeps I.bk;have G:s.heap.Ns mainGlobals X.mg:=I.ok.mod.glob.keeps I.bk;have B:s.heap.BuiltinsAt X.mg T:=by obtain⟨bm,o,h1,h2,h3,h4,h5,h6⟩:=A.blt;exact⟨bm,o,h1,h2,h3,h4,I.bk _ _ h5,h6⟩
 refine W.kla_eval A.dflt ?_;rw[<-A.qual];rcases tb with tb|⟨c',oc,vs,t,tb,hc,hd,hv⟩
 .have hT:s.heap.get? T=some (W.tabObj #[]):=I.bN T _ tb;refine W.kla_makeFunction (ps:=#[]) A.cl I.ok.glob G A.code C hT trivial BF A.gT B fun c' yq h' tk hx P0 uO Ul htb=>?_;obtain⟨c2,oc,vs,t,e2,OV,hd,hv⟩:=Ul;cases e2;obtain⟨ob,eo⟩:∃ob,ob=W.kla_obj "<lambda>" L.qual L.params L.body L.scope [(L.x,c)] ((X.mg "__name__").getD .none) c' yq:=⟨_,rfl⟩
  obtain⟨ps,eps⟩:∃ps:Array _X,ps = #[rawInt pos.line,rawInt pos.col,.ref c']:=⟨_,rfl⟩
  have P_:h'.get? T=some (W.tabObj ps):=by rw[htb,eps];rfl
  rw[<-eo];have lT:T<s.heap.objs.size:=Vz hT;have nc:H c'=none:=I.bN.fresh P0;have nf:H h'.objs.size=none:=I.bN.fresh (by lia);have tr:∀b x,H b=some x->b<s.heap.objs.size:=fun b x q=>by obtain⟨o,e⟩:=(I.bN b x q).there;exact Vz e
  obtain⟨H',eH⟩:∃H',H'=upd (upd (upd H T (.rG ps)) c' (.gB oc (.own 0))) h'.objs.size (.gB ob (.own 0)):=⟨_,rfl⟩
  have hf':H' h'.objs.size=some (.gB ob (.own 0)):=by rw[eH];exact bu
  have ft:H' c'=some (.gB oc (.own 0)):=by rw[eH,aH (VS uO)];exact bu
  have P!:H' T=some (.rG ps):=by rw[eH,aH (VS (ZQ lT (Wd P0 uO))),aH (VS (VE lT P0))];exact bu
  have lS:∀b,b≠T->b<s.heap.objs.size->H' b=H b:=fun b h1 h2=>by rw[eH,aH (VS (ZQ h2 (Wd P0 uO))),aH (VS (VE h2 P0)),aH h1]
  have nT:∀b x,H b=some x->(∀ps,x≠.rG ps)->b≠T:=fun b x q z e=>by rw[e,tb]at q;exact z _ (VP q).symm
  have n0:∀b,H b=none->b≠T:=fun b q e=>by rw[e,tb]at q;cases q
  have kp:∀b o,b≠T->s.heap.get? b=some o->(h'.push ob).get? b=some o:=fun b o h1 h2=>Vn _ (hx b o h1 h2);have un:Un X.fs [] H H' s.heap (h'.push ob):=by
   refine⟨fun b o q n _ _=>kp b o (n0 b n) q,fun b o q n _ _=>⟨o.slots,kp b o (n0 b n) q⟩,fun b o q n _=>?_,fun b o q _=>?_,fun b xs q=>?_,fun b o u q=>?_,fun b ps' q=>?_⟩
   .rw[lS b (n0 b n) (Vz q)];exact n
   .by_cases e:b=T
    .rw[e];exact⟨_,Vn _ P_⟩
    .exact⟨o,kp b o e q⟩
   .rw[lS b (nT b _ q fun _ z=>by cases z) (tr b _ q)];exact q
   .rw[lS b (nT b _ q fun _ z=>by cases z) (tr b _ q)];exact q
   .by_cases e:b=T
    .rw[e,tb]at q;cases q;exact⟨ps,by rw[e,P!];simp⟩
    .exact⟨#[],by rw[lS b e (tr b _ q),q];simp⟩
  have ok:il X.prog X.w H' (h'.push ob):=fun b x q=>by
   by_cases e1:b=h'.objs.size
   .rw[e1,hf']at q;cases q;rw[e1];have g:(h'.push ob).get? h'.objs.size=some ob:=VJ _ (by rw[eo];rfl);exact⟨g,ob,g⟩
   .by_cases e2:b=c'
    .rw[e2,ft]at q;cases q;rw[e2];exact⟨Vn _ OV,oc,Vn _ OV⟩
    .by_cases e3:b=T
     .rw[e3,P!]at q;cases q;rw[e3];exact Vn _ P_
     .rw[eH,aH e1,aH e2,aH e3]at q;refine(I.bN b x q).kj (fun a u ha z=>kp a u ?_ z) (fun a z=>?_) fun a xs z=>?_
      .rcases ha with rfl|ha
       .exact e3
       .exact nT a _ ha fun _ z=>by cases z
      .rw[lS a (nT a _ z fun _ z=>by cases z) (tr a _ z)];exact z
      .rw[lS a (nT a _ z fun _ z=>by cases z) (tr a _ z)];exact z
  refine⟨.ref h'.objs.size,H',I.un (t':=tk) un ok,rfl,q h'.objs.size c' H' ⟨⟨(X.mg "__name__").getD .none,yq,by show H' _=some _;rw[hf',eo]⟩,⟨oc,vs,t,ft,hd,hv⟩,.inr ⟨c',oc,vs,t,by rw[P!,eps],ft,hd,hv⟩,fun b o h1 h2=>?_⟩⟩;rw[lS b h1 (tr b _ h2)];exact h2
 .have hT:s.heap.get? T=some (W.tabObj #[rawInt pos.line,rawInt pos.col,.ref c']):=I.bN T _ tb;refine W.kla_makeFunctionHit (cv:=.ref c') A.cl I.ok.glob G A.code C hT trivial ?_ B fun yq h' tk hk hsz=>?_
  .show codeAmong pos [rawInt pos.line,rawInt pos.col,.ref c']=_;unfold rawInt codeAmong;rw[Vu (by simp)]
  .obtain⟨ob,eo⟩:∃ob,ob=W.kla_obj "<lambda>" L.qual L.params L.body L.scope [(L.x,c)] ((X.mg "__name__").getD .none) c' yq:=⟨_,rfl⟩
   have g:(h'.push ob).get? h'.objs.size=some ob:=VJ _ (by rw[eo];rfl);have nf:H h'.objs.size=none:=I.bN.fresh hsz;have vU:H c'=some (.gB oc (.own 0)):=hc;have e1:c'≠h'.objs.size:=fun z=>by rw[z,nf]at vU;cases vU
   have hc3:∀o,upd H h'.objs.size o c'=some (.gB oc (.own 0)):=fun o=>by rw[aH e1];exact vU
   have e2:T≠h'.objs.size:=fun z=>by rw[z,nf]at tb;cases tb
   have J:=I.laid (a:=h'.objs.size) (o:=.gB ob (.own 0)) (t':=tk) (h':=h'.push ob) (fun b u e=>Vn _ (hk b u e)) hsz ⟨g,ob,g⟩;rw[eo]at J;refine⟨.ref h'.objs.size,_,J,rfl,q _ c' _ ⟨⟨_,yq,bu⟩,⟨oc,vs,t,hc3 _,hd,hv⟩,.inr ⟨c',oc,vs,t,by rw[aH e2];exact tb,hc3 _,hd,hv⟩,fun b o h1 h2=>?_⟩⟩;rw[aH (fun z=>by rw[z,nf]at h2;cases h2)];exact h2
end
theorem BD.mono{L:d5}{c:_Z}{v:V}(C:BD L H f c c' v)(k:∀b o u,H b=some (.gB o u)->H' b=some (.gB o u)):BD L H' f c c' v:=by obtain⟨⟨pm,yq,h1⟩,⟨oc,vs,t,h2,h3⟩,⟨o2,u,h4,h5⟩⟩:=C;exact⟨⟨pm,yq,k _ _ _ h1⟩,⟨oc,vs,t,k _ _ _ h2,h3⟩,⟨o2,u,k _ _ _ h4,h5⟩⟩
def XF:XK:=fun _ _ _=>False
section
variable{L:d5}{x:Str}{c:_Z}{v:V}{k:Nat}{t:TA}{p:Pos}
def J7(X:Cx)(L:d5)(f c c':_Z)(v:V)(vs:List V)(H:Hp)(Q:VK):Prop:=vs.length=L.ps.length/\∀s:_Y,∃t',PE (sP X.prog X.w X.K X.mg X.base L f c c' X.A X.stack s H) L.body t'/\t' (vs.map some++[some v]) (hide H c) fun y H'=>H' c=none->Q y (back H H' c)
theorem DH(LO:L.Ok)(hr:d0 (k+1) X.A)(hN:X.N[i]?=some x)(hk:X.env.scope.names.lookup x=some .local)(ha:PA X (e::es) t)(ju:(x==("__debug__":Str))=false:=by decide)(he:starEach (e::es) X.env=(false,eval e X.env)::starEach es X.env:=by rfl)(ip:(backTo pos (starEach es X.env)).any (·.1)=false:=by rfl):
  PE X (.Call (.Name x p) (e::es) [] pos) (fun σ H Q=>∃f c c' v,σ[i]?=some (some (.ref f))/\BD L H f c c' v/\t σ H fun vs H1=>BD L H1 f c c' v/\J7 X L f c c' v vs H1 Q):=by
 intro ag s σ H Q I h;obtain⟨f,c,c',v,h0,hC,h⟩:=h;have P?:∀{ag:_Q}{σ:St}{H:Hp}{s:_Y},aM X ag σ H s->BD L H f c c' v->W.FnAt f s.heap:=fun J C=>by obtain⟨pm,yq,hf⟩:=C.fn;exact⟨_,_,_,_,(J.bN f _ hf).1⟩
 refine WY ?_;obtain⟨m,hn,hl⟩:=I.loc;obtain⟨u,ru,l⟩:=hl i x _ hN h0 (.inl hk);cases ru;rcases l with⟨J8,hm⟩|⟨J8,_⟩
 .refine Z3 (YR I.ok.kind J8 hn hm ?_) ju;refine W.callWith_F (P? I hC) (df (ha pos ag s σ H _ I h) fun us s1 q1=>?_) he ip;obtain⟨vs,H1,I1,r,hC1,Ai,q⟩:=q1;refine⟨P? I1 hC1,?_⟩;refine X3 (XC (Hv (E:=XF) (Q:=Q) LO hC1 hr I1.Dc Ai r (q s1)) fun r s' hq=>?_);cases r with
  |error e=>obtain⟨_,_,_,_,_,z⟩:=hq;exact z.elim
  |ok fl=>
   cases fl with
   |ret u=>exact I1.after hq
   |next=>exact False.elim hq
   |brk=>exact False.elim hq
   |cont=>exact False.elim hq
 .have:X.env.kindOf x=some .local:=hk;rw[this]at J8;rcases J8 with z|z<;>cases z
end
section
variable{c:_Z}{o:Obj}{fs:_V}
theorem Hw(hn:H c=none)(gc:h.get? c=some o)(u:Un fs [] (upd H c (.gB o (.own 0))) H' h h')(Sg:il P w H' h'):Un fs [] H (hide H' c) h h'/\il P w (hide H' c) h':=by
 have fc:H' c=some (.gB o (.own 0)):=u.iT c o _ bu;have PZ:h'.get? c=some o:=(Sg c _ fc).1;have ne:∀b x,H b=some x->b≠c:=fun b x q e=>by rw[e,hn]at q;cases q
 refine⟨⟨fun b ob q n hb _=>?_,fun b ob q n hb _=>?_,fun b ob q n _=>?_,fun b ob q _=>u.there b ob q (by simp),fun b xs q=>?_,fun b ob x q=>?_,fun b ps q=>?_⟩,wm Sg fc fun _ _ z=>z⟩
 .by_cases e:b=c
  .rw[e]at q⊢;rw[gc]at q;cases q;exact PZ
  .exact u.keep b ob q (by rw[aH e];exact n) hb (by simp)
 .by_cases e:b=c
  .rw[e]at q⊢;rw[gc]at q;cases q;exact⟨o.slots,PZ⟩
  .exact u.slot b ob q (by rw[aH e];exact n) hb (by simp)
 .by_cases e:b=c
  .rw[e];exact hide_self
  .rw[cj e];exact u.free b ob q (by rw[aH e];exact n) (by simp)
 .rw[cj (ne b _ q)];exact u.jC b xs (by rw[aH (ne b _ q)];exact q)
 .rw[cj (ne b _ q)];exact u.iT b ob x (by rw[aH (ne b _ q)];exact q)
 .rw[cj (ne b _ q)];exact u.jD b ps (by rw[aH (ne b _ q)];exact q)
end
section
variable{k:Nat}{ps:_W}{x:Str}{c:_Z}{p:Pos}{t:TA}
theorem DI(F:ku X.prog X.w X.K X.mg X.base (iL X.prog X.w) k f fd ps sp)(hr:d0 k X.A)(hg:Gl X x)(hm:X.mg x=some (.ref f))(hk:W.keepIn X.K (.ref f)=true)(hb:Binds X.K fd ps [])(hN:X.N[i]?=some y)(hy:X.env.scope.names.lookup y=some .cell)(hc:X.env.cells.lookup y=some c)(ya:X.fn y=true)(ha:PA X (e::es) t)(ju:(x==("__debug__":Str))=false:=by decide)(he:starEach (e::es) X.env=(false,eval e X.env)::starEach es X.env:=by rfl)(ip:(backTo pos (starEach es X.env)).any (·.1)=false:=by rfl):
  PE X (.Call (.Name x p) (e::es) [] pos) (fun σ H Q=>t σ H fun vs H1=>∃v,σ[i]?=some (some v)/\∀oc u,oc.data=.cell (some u)->bo v u->H1 c=none->sp vs (upd H1 c (.gB oc (.own 0))) (fun z H2=>Q z (hide H2 c)) XF):=by
 intro ag s σ H Q I h;refine WY (iU I hg hm ?_ ju);refine X! (h₀:=X.base) I.ok.mod.Gz hk (df (ha pos ag s σ H _ I h) fun us s1 q1=>?_) he ip;obtain⟨vs,H1,I1,r,v,hv,q⟩:=q1;refine⟨I1.nq,?_⟩;obtain⟨m,hn,hl⟩:=I1.loc;obtain⟨u,ru,l⟩:=hl i y v hN hv (.inr (.inl hy));have hkd:X.env.kindOf y=some .cell:=hy;rcases l with⟨z,_⟩|⟨_,c2,vU,sC⟩
 .rw[hkd]at z;cases z
 rw[hc]at vU;cases vU;obtain⟨oc,go,od⟩:=sC;have nH:H1 c=none:=I1.gO y c hc;have CS:X.s₀.heap.objs.size<=c:=I1.ok.CS y c ya hc;have e0:=I1.Dc;have nb:∀b o,X.base.get? b=some o->b≠c:=fun b o e z=>by have:=Vz e;have h2:=I1.ok.Bf;rw[z]at this;exact absurd (VE this h2) (Nat.not_lt.mpr CS)
 have nf:∀b∈gN X.stack,b≠c:=fun b hb z=>by
  rcases VU.mp (I1.kM b hb)with q|q
  .exact I1.CY y c hc (z.symm.trans q)
  .have h2:=I1.ok.iM.mem q;obtain⟨_,o',lS,_⟩:=h2;have h3:=Vz lS;rw[z]at h3;exact absurd h3 (Nat.not_lt.mpr CS)
 have e1:rL X.prog X.w X.K X.mg X.base X.A X.stack s1 (upd H1 c (.gB oc (.own 0))):=by
  refine⟨e0.frames,e0.mod,fun b o e=>⟨(e0.bs b o e).1,by rw[aH (nb b o e)];exact(e0.bs b o e).2⟩,e0.Bf,e0.iM,fun b hb=>by rw[aH (nf b hb)];exact e0.x? b hb,fun b x q=>?_,e0.bare⟩;by_cases z:b=c
  .rw[z,bu]at q;cases q;rw[z];exact⟨go,oc,go⟩
  .rw[aH z]at q;have nn:∀a x,H1 a=some x->a≠c:=fun a x w e=>by rw[e,nH]at w;cases w
   exact(e0.bN b x q).kj (fun _ _ _ w=>w) (fun a w=>by rw[aH (nn a _ w)];exact w) fun a xs w=>by rw[aH (nn a _ w)];exact w
 have hs:=q oc u od ru nH;have Ac:us.length=ps.length:=by rw[<-r.length];exact F.len _ _ _ _ hs
 have LW:=hb s1 us I1.nq (by rw[VZ];exact Ac);rw[VZ]at LW;refine X3 (XC (F.run X.A X.stack s1 _ ⟨us,[]⟩ us vs _ XF hr e1 LW r hs) fun r s' hq=>?_);cases r with
 |error e=>obtain⟨_,_,_,_,_,z⟩:=hq;exact z.elim
 |ok fl=>
  cases fl with
  |ret u=>
   obtain⟨v',H',os,bare,un,bN,rv,qv⟩:=hq;obtain⟨Ow,ok2⟩:=Hw nH go un bN;exact I1.after ⟨v',hide H' c,os,bare,Ow,ok2,rv,qv⟩
  |next=>exact False.elim hq
  |brk=>exact False.elim hq
  |cont=>exact False.elim hq
end
end L2
variable {x qual:Str}
variable {ps:List Str}
variable {base:Heap}
variable {scope:Scope}
variable {cd:Addr}
variable {EX:L2.EK}
variable {kp:Pos}
variable {kind:Int}
namespace MN
open Spec L2
open PyProof.Rows hiding St
inductive ao where
 |dc|bl (b:Bool)|int (i:Int)|str (x:Str)|tup (vs:List ao)|loc (n:Nat)|exc (c:Str)|fn (L:d5) (u:ao)|mt (vs:List ao)
inductive aR where
 |lst (vs:List ao)|J9 (vs:List ao)|mod (vs:List ao)|dK (aI:List (da×ao))|dT (aI:List (List da×ao))|tab (x:Str) (line col:Nat) (qual:Str)|ins (c:Str) (fs:List (Str×ao))
abbrev ai:=List aR
abbrev Env:=List (Option ao)
inductive cD(α:Type) where
 |ok (a:α) (st:ai)|err (c:Str) (st:ai)|bad
inductive c6 where
 |nx (μ:Env) (st:ai)|rt (v:ao) (st:ai)|bk (μ:Env) (st:ai)|ct (μ:Env) (st:ai)|er (c:Str) (μ:Env) (st:ai)|bad
@[reducible] def cD.bind(r:cD α)(k:α->ai->cD β):cD β:=match r with
 |.ok a st=>k a st
 |.err c st=>.err c st
 |.bad=>.bad
structure Wo where
 K:_R
 mg:Str->_U
 pn:_Q
abbrev wo(X:Cx):Wo:=⟨X.K,X.mg,X.pn⟩
mutual
def Rl(K:_R)(ρ:_V)(H:Hp):ao->V->Prop
 |.dc,v=>v=.dc
 |.bl b,v=>v=.bl b
 |.int i,v=>v=.int i
 |.str x,v=>v=.str x
 |.tup us,v=>∃a vs,v=.ref a/\H a=some (.tup vs)/\aY K ρ H us vs
 |.mt us,v=>∃a vs,v=.ref a/\jB K H a vs/\aY K ρ H us vs
 |.loc n,v=>∃a,v=.ref a/\ρ[n]?=some a
 |.exc _,_=>False
 |.fn _ _,_=>False
def aY(K:_R)(ρ:_V)(H:Hp):List ao->List V->Prop
 |[],vs=>vs=[]
 |u::us,vs=>∃v r,vs=v::r/\Rl K ρ H u v/\aY K ρ H us r
end
structure aD(ρ:_V)(H:Hp)(ρ':_V)(H':Hp):Prop where
 pre:ρ <+: ρ'
 tup:∀b xs,H b=some (.tup xs)->H' b=some (.tup xs)
 gB:∀b o u,H b=some (.gB o u)->H' b=some (.gB o u)
theorem aD.refl(ρ:_V)(H:Hp):aD ρ H ρ H:=⟨YD ρ,fun _ _ h=>h,fun _ _ _ h=>h⟩
theorem aD.trans{ρ1 ρ2:_V}{H1 H2:Hp}(a:aD ρ H ρ1 H1)(b:aD ρ1 H1 ρ2 H2):aD ρ H ρ2 H2:=
 ⟨a.pre.trans b.pre,fun _ _ h=>b.tup _ _ (a.tup _ _ h),fun _ _ _ h=>b.gB _ _ _ (a.gB _ _ _ h)⟩
theorem aD.same(e:kS H H'):aD ρ H ρ H':=⟨YD ρ,fun _ _ h=>e _ _ h,fun _ _ _ h=>e _ _ h⟩
theorem aD.snoc(p:_Z)(e:kS H H'):aD ρ H (ρ++[p]) H':=⟨List.prefix_append ρ [p],fun _ _ h=>e _ _ h,fun _ _ _ h=>e _ _ h⟩
theorem aD.at_(e:aD ρ H ρ' H'){a:_Z}(h:ρ[n]?=some a):ρ'[n]?=some a:=by
 obtain⟨t,rfl⟩:=e.pre;have hl:n<ρ.length:=by
  rcases V2 n ρ.length with q|q
  .exact q
  .rw[VW q]at h;cases h
 rw[VL hl,h]
theorem aD.Um{K:_R}(e:aD ρ H ρ' H'){a:_Z}{xs:List V}(h:jB K H a xs):jB K H' a xs:=by
 rcases h with(h|⟨o,h⟩)|h
 .exact .inl (.inl (e.tup _ _ h))
 .exact .inl (.inr ⟨o,e.gB _ _ _ h⟩)
 .exact .inr h
mutual
theorem Rl.mono{K:_R}(e:aD ρ H ρ' H'):∀(u:ao)(v:V),Rl K ρ H u v->Rl K ρ' H' u v
 |.dc,_,h=>h
 |.bl _,_,h=>h
 |.int _,_,h=>h
 |.str _,_,h=>h
 |.tup us,v,h=>by unfold Rl at h⊢;obtain⟨a,vs,h1,h2,h3⟩:=h;exact⟨a,vs,h1,e.tup _ _ h2,aY.mono e us vs h3⟩
 |.mt us,v,h=>by unfold Rl at h⊢;obtain⟨a,vs,h1,h2,h3⟩:=h;exact⟨a,vs,h1,e.Um h2,aY.mono e us vs h3⟩
 |.loc n,v,h=>by unfold Rl at h⊢;obtain⟨a,h1,h2⟩:=h;exact⟨a,h1,e.at_ h2⟩
 |.exc c,v,h=>h
 |.fn _ _,_,h=>h
theorem aY.mono{K:_R}(e:aD ρ H ρ' H'):∀(us:List ao)(vs:List V),aY K ρ H us vs->aY K ρ' H' us vs
 |[],_,h=>h
 |u::us,vs,h=>by unfold aY at h⊢;obtain⟨v,r,h1,h2,h3⟩:=h;exact⟨v,r,h1,Rl.mono e u v h2,aY.mono e us r h3⟩
end
section
variable{K:_R}
theorem aY.nil:aY K ρ H [] []:=by unfold aY;rfl
theorem aY.cons{u:ao}{us:List ao}{v:V}{vs:List V}(h:Rl K ρ H u v)(hs:aY K ρ H us vs):aY K ρ H (u::us) (v::vs):=by unfold aY;exact⟨v,vs,rfl,h,hs⟩
theorem aY.cQ{u:ao}{us:List ao}{vs:List V}(h:aY K ρ H (u::us) vs):∃v r,vs=v::r/\Rl K ρ H u v/\aY K ρ H us r:=by unfold aY at h;exact h
theorem aY.fF{vs:List V}(h:aY K ρ H [] vs):vs=[]:=by unfold aY at h;exact h
theorem aY.length:∀{us:List ao}{vs:List V},aY K ρ H us vs->us.length=vs.length
 |[],vs,h=>by rw[h.fF];rfl
 |u::us,vs,h=>by obtain⟨v,r,rfl,_,h3⟩:=h.cQ;rw[Vt,Vt,h3.length]
theorem aY.get:∀{us:List ao}{vs:List V}{i:Nat}{u:ao},aY K ρ H us vs->us[i]?=some u->∃v,vs[i]?=some v/\Rl K ρ H u v
 |[],_,_,_,_,e=>by cases e
 |w::us,vs,0,u,h,e=>by obtain⟨v,r,rfl,h2,_⟩:=h.cQ;cases e;exact⟨v,rfl,h2⟩
 |w::us,vs,i+1,u,h,e=>by obtain⟨v,r,rfl,_,h3⟩:=h.cQ;exact aY.get (i:=i) h3 e
theorem aY.append:∀{us ws:List ao}{vs xs:List V},aY K ρ H us vs->aY K ρ H ws xs->aY K ρ H (us++ws) (vs++xs)
 |[],_,vs,_,h,k=>by rw[h.fF];exact k
 |u::us,ws,vs,xs,h,k=>by obtain⟨v,r,rfl,h2,h3⟩:=h.cQ;exact aY.cons h2 (h3.append k)
theorem aY.drop:∀(n:Nat){us:List ao}{vs:List V},aY K ρ H us vs->aY K ρ H (us.drop n) (vs.drop n)
 |0,_,_,h=>h
 |_+1,[],vs,h=>by rw[h.fF];exact aY.nil
 |n+1,u::us,vs,h=>by obtain⟨v,r,rfl,h2,h3⟩:=h.cQ;exact aY.drop n h3
theorem aY.take:∀(n:Nat){us:List ao}{vs:List V},aY K ρ H us vs->aY K ρ H (us.take n) (vs.take n)
 |0,_,_,_=>aY.nil
 |_+1,[],vs,h=>by rw[h.fF];exact aY.nil
 |n+1,u::us,vs,h=>by obtain⟨v,r,rfl,h2,h3⟩:=h.cQ;exact aY.cons h2 (aY.take n h3)
theorem aY.one{u:ao}{v:V}(h:Rl K ρ H u v):aY K ρ H [u] [v]:=aY.cons h aY.nil
theorem aY.yr{u:ao}{vs:List V}(h:aY K ρ H [u] vs):∃v,vs=[v]/\Rl K ρ H u v:=by obtain⟨v,r,rfl,h2,h3⟩:=h.cQ;rw[h3.fF];exact⟨v,rfl,h2⟩
theorem aY.Ow{u w:ao}{vs:List V}(h:aY K ρ H [u,w] vs):∃v x,vs=[v,x]/\Rl K ρ H u v/\Rl K ρ H w x:=by obtain⟨v,r,rfl,h2,h3⟩:=h.cQ;obtain⟨x,rfl,h4⟩:=h3.yr;exact⟨v,x,rfl,h2,h4⟩
theorem aY.ints:∀(ns:_S),aY K ρ H (ns.map ao.int) (ns.map V.int)
 |[]=>aY.nil
 |n::ns=>aY.cons (by unfold Rl;rfl) (aY.ints ns)
theorem Rl.b!{i:Int}{v:V}(h:Rl K ρ H (.int i) v):v=.int i:=by unfold Rl at h;exact h
theorem Rl.p8{b:Bool}{v:V}(h:Rl K ρ H (.bl b) v):v=.bl b:=by unfold Rl at h;exact h
theorem Rl.jv{v:V}(h:Rl K ρ H (.str x) v):v=.str x:=by unfold Rl at h;exact h
theorem Rl.jw{v:V}(h:Rl K ρ H .dc v):v=.dc:=by unfold Rl at h;exact h
theorem Rl.LX{us:List ao}{v:V}(h:Rl K ρ H (.tup us) v):∃a vs,v=.ref a/\H a=some (.tup vs)/\aY K ρ H us vs:=by unfold Rl at h;exact h
theorem Rl.gu{us:List ao}{v:V}(h:Rl K ρ H (.tup us) v):∃a vs,v=.ref a/\jB K H a vs/\aY K ρ H us vs:=let⟨a,vs,h1,h2,h3⟩:=h.LX;⟨a,vs,h1,jB.of h2,h3⟩
theorem Rl.mt_{us:List ao}{v:V}(h:Rl K ρ H (.mt us) v):∃a vs,v=.ref a/\jB K H a vs/\aY K ρ H us vs:=by unfold Rl at h;exact h
theorem Rl.Uo{us:List ao}{a:_Z}{vs:List V}(h:jB K H a vs)(r:aY K ρ H us vs):Rl K ρ H (.mt us) (.ref a):=by unfold Rl;exact⟨a,vs,rfl,h,r⟩
theorem Rl.eO{v:V}(h:Rl K ρ H (.loc n) v):∃a,v=.ref a/\ρ[n]?=some a:=by unfold Rl at h;exact h
theorem Rl.mkInt(i:Int):Rl K ρ H (.int i) (.int i):=by unfold Rl;rfl
theorem Rl.BG(b:Bool):Rl K ρ H (.bl b) (.bl b):=by unfold Rl;rfl
theorem Rl.mkStr(x:Str):Rl K ρ H (.str x) (.str x):=by unfold Rl;rfl
theorem Rl.sS:Rl K ρ H .dc .dc:=by unfold Rl;rfl
theorem Rl.p9{us:List ao}{a:_Z}{vs:List V}(h:H a=some (.tup vs))(r:aY K ρ H us vs):Rl K ρ H (.tup us) (.ref a):=by unfold Rl;exact⟨a,vs,rfl,h,r⟩
theorem Rl.DJ{a:_Z}(h:ρ[n]?=some a):Rl K ρ H (.loc n) (.ref a):=by unfold Rl;exact⟨a,rfl,h⟩
end
def gD(K:_R)(ρ:_V)(H:Hp)(aI:List (κ×ao))(kD:List (κ×V)):Prop:=aI.map (·.1)=kD.map (·.1)/\aY K ρ H (aI.map (·.2)) (kD.map (·.2))
def jb:Option aR->Bool
 |some (.mod _)=>true
 |_=>false
def Uq(K:_R)(a:_Z)(vs:List V):Prop:=∃(o:Obj)(aF:Array _X)(n:Nat),K.lookup a=some o/\o.cls=.type "list" /\ o.dict=none/\o.data=.seq aF n/\aF.size<=sizeLine/\bf vs aF.toList
def fG(K:_R)(ρ:_V)(H:Hp):aR->_Z->Prop
 |.lst us,a=>∃vs,H a=some (.lst vs)/\aY K ρ H us vs
 |.J9 us,a=>∃o vs,H a=some (.gB o (.lst vs))/\aY K ρ H us vs
 |.mod us,a=>∃vs,Uq K a vs/\aY K ρ H us vs
 |.dK aI,a=>∃kD,H a=some (.dK kD)/\gD K ρ H aI kD
 |.dT aI,a=>∃kD,H a=some (.dT kD)/\gD K ρ H aI kD
 |.tab x l c q,a=>(∃cd,W.tabIn K x=some (cd,a))/\Tab H a l c q
 |.ins c fs,a=>∃C dx gs,H a=some (.ins C dx gs)/\W.nsIn K mainGlobals c=some (some (.ref C))/\gD K ρ H fs gs
structure SR(K:_R)(ρ:_V)(st:ai)(H:Hp):Prop where
 len:ρ.length=st.length
 nd:∀(n m:Nat)a,ρ[n]?=some a->ρ[m]?=some a->jb st[n]?=false->jb st[m]?=false->n=m
 cell:∀(n:Nat)c a,st[n]?=some c->ρ[n]?=some a->fG K ρ H c a
theorem d9{l:List α}{x:α}(h:l[n]?=some x):n<l.length:=by
 rcases V2 n l.length with q|q
 .exact q
 .rw[VW q]at h;cases h
section
variable{K:_R}{st:ai}
theorem fG.there{c:aR}{a:_Z}(h:fG K ρ H c a)(hn:jb (some c)=false):∃o,H a=some o/\∀xs,o≠.tup xs:=by
 cases c with
 |lst us=>obtain⟨vs,h,_⟩:=h;exact⟨_,h,fun xs e=>by cases e⟩
 |J9 us=>obtain⟨o,vs,h,_⟩:=h;exact⟨_,h,fun xs e=>by cases e⟩
 |mod us=>cases hn
 |dK aI=>obtain⟨vs,h,_⟩:=h;exact⟨_,h,fun xs e=>by cases e⟩
 |dT aI=>obtain⟨vs,h,_⟩:=h;exact⟨_,h,fun xs e=>by cases e⟩
 |tab x l c q=>rcases h.2 with h|⟨_,_,_,_,h,_⟩<;>exact⟨_,h,fun xs e=>by cases e⟩
 |ins c fs=>obtain⟨_,_,_,h,_⟩:=h;exact⟨_,h,fun xs e=>by cases e⟩
theorem fG.mono{c:aR}{a:_Z}(h:fG K ρ H c a)(e:aD ρ H ρ' H')(ha:jb (some c)=true\/H' a=H a):fG K ρ' H' c a:=by
 cases c with
 |mod us=>obtain⟨vs,h,r⟩:=h;exact⟨vs,h,aY.mono e _ _ r⟩
 |lst us=>rcases ha with ha|ha<;>first|cases ha;done|(obtain⟨vs,h,r⟩:=h;exact⟨vs,ha.trans h,aY.mono e _ _ r⟩)
 |J9 us=>rcases ha with ha|ha<;>first|cases ha;done|(obtain⟨o,vs,h,r⟩:=h;exact⟨o,vs,ha.trans h,aY.mono e _ _ r⟩)
 |dK aI=>rcases ha with ha|ha<;>first|cases ha;done|(obtain⟨vs,h,r⟩:=h;exact⟨vs,ha.trans h,r.1,aY.mono e _ _ r.2⟩)
 |dT aI=>rcases ha with ha|ha<;>first|cases ha;done|(obtain⟨vs,h,r⟩:=h;exact⟨vs,ha.trans h,r.1,aY.mono e _ _ r.2⟩)
 |ins c fs=>rcases ha with ha|ha<;>first|cases ha;done|(obtain⟨C,dx,gs,h,hn,r⟩:=h;exact⟨C,dx,gs,ha.trans h,hn,r.1,aY.mono e _ _ r.2⟩)
 |tab x l c q=>
  refine⟨h.1,?_⟩;rcases ha with ha|ha
  .cases ha
  .rcases h.2 with h|⟨c',oc,vs,t,h,h2,h3⟩
   .exact .inl (ha.trans h)
   .exact .inr ⟨c',oc,vs,t,ha.trans h,e.gB _ _ _ h2,h3⟩
theorem fG.grow{c:aR}{a:_Z}(h:fG K ρ H c a)(e:aD ρ H ρ' H')(s:kS H H'):fG K ρ' H' c a:=by
 cases z:jb (some c) with
 |true=>exact h.mono e (.inl z)
 |false=>
  obtain⟨o,ho,_⟩:=h.there z;exact h.mono e (.inr (by rw[ho];exact s _ _ ho))
theorem SR.there(s:SR K ρ st H){a:_Z}(h:ρ[n]?=some a):∃c,st[n]?=some c/\fG K ρ H c a:=by
 have hn:=d9 h;have GA:n<st.length:=by rw[<-s.len];exact hn
 exact⟨st[n],Vp GA,s.cell n _ a (Vp GA) h⟩
theorem SR.addr(s:SR K ρ st H){c:aR}(h:st[n]?=some c):∃a,ρ[n]?=some a/\fG K ρ H c a:=by
 have hn:=d9 h;have GA:n<ρ.length:=by rw[s.len];exact hn
 exact⟨ρ[n],Vp GA,s.cell n c _ h (Vp GA)⟩
theorem SR.grow(s:SR K ρ st H)(e:kS H H'):SR K ρ st H':=
 ⟨s.len,s.nd,fun n c a h1 h2=>(s.cell n c a h1 h2).grow (aD.same e) e⟩
theorem SR.J_(s:SR K ρ st H){p:_Z}(hp:H p=none)(h:ρ[n]?=some p)(hm:jb st[n]?=false):False:=by obtain⟨c,hc,k⟩:=s.there h;rw[hc]at hm;obtain⟨o,ho,_⟩:=k.there hm;rw[hp]at ho;cases ho
theorem dH{p:_Z}{o:HO}(hp:H p=none):kS H (upd H p o):=kS.upd (kS.refl H) hp
theorem SR.alloc(s:SR K ρ st H){p:_Z}{o:HO}{c:aR}(hp:H p=none)(k:fG K (ρ++[p]) (upd H p o) c p):SR K (ρ++[p]) (st++[c]) (upd H p o):=by
 have e:kS H (upd H p o):=dH hp;have at_:∀(n:Nat)(a:_Z),(ρ++[p])[n]?=some a->(n<st.length/\ρ[n]?=some a/\(st++[c])[n]?=st[n]?)\/(n=st.length/\a=p/\(st++[c])[n]?=some c):=by
  intro n a h;rcases YX n st.length with q|q|q
  .rw[VL (by rw[s.len];exact q)]at h;exact .inl ⟨q,h,VL q⟩
  .subst q;rw[Vv (by rw[s.len];exact Vo _),s.len,Wj]at h;cases h;refine .inr ⟨rfl,rfl,?_⟩;rw[Vv (Vo _),Wj];rfl
  .rw[VW (by rw[Vr,WZ,s.len];lia)]at h;cases h
 refine⟨by rw[Vr,Vr,s.len];rfl,fun n m a h1 h2 m1 m2=>?_,fun n c' a h1 h2=>?_⟩
 .rcases at_ n a h1 with⟨q1,q2,q3⟩|⟨q1,q2,q3⟩<;>rcases at_ m a h2 with⟨r1,r2,r3⟩|⟨r1,r2,r3⟩
  .rw[q3]at m1;rw[r3]at m2;exact s.nd n m a q2 r2 m1 m2
  .subst r2;rw[q3]at m1;exact(s.J_ hp q2 m1).elim
  .subst q2;rw[r3]at m2;exact(s.J_ hp r2 m2).elim
  .rw[q1,r1]
 .rcases at_ n a h2 with⟨q1,q2,q3⟩|⟨q1,q2,q3⟩
  .rw[q3]at h1;exact(s.cell n c' a h1 q2).grow (aD.snoc p e) e
  .rw[q3]at h1;cases h1;subst q2;exact k
theorem aD.put{a:_Z}{o o':HO}(h:H a=some o)(h1:∀xs,o≠.tup xs)(h2:∀x u,o≠.gB x u):aD ρ H ρ (upd H a o'):=by
 refine⟨YD ρ,fun b xs e=>?_,fun b x u e=>?_⟩
 .rw[aH (fun z=>?_)]
  .exact e
  .subst z;rw[h]at e;exact h1 _ (VP e)
 .rw[aH (fun z=>?_)]
  .exact e
  .subst z;rw[h]at e;exact h2 _ _ (VP e)
theorem SR.set(s:SR K ρ st H){a:_Z}{o o':HO}{c c':aR}(h:st[n]?=some c)(hc:jb (some c)=false)(ft:jb (some c')=false)(ha:ρ[n]?=some a)(ho:H a=some o)(h1:∀xs,o≠.tup xs)(h2:∀x u,o≠.gB x u)(k:fG K ρ (upd H a o') c' a):SR K ρ (st.set n c') (upd H a o'):=by
 have hn:n<st.length:=d9 h;have at_:∀(m:Nat),jb (st.set n c')[m]?=jb st[m]?:=fun m=>by
  by_cases z:m=n
  .subst z;rw[WH hn,h,hc,ft]
  .rw[W6 (fun y=>z y.symm)]
 refine⟨by rw[XO];exact s.len,fun i m b q1 q2 m1 m2=>s.nd i m b q1 q2 (by rw[<-at_];exact m1) (by rw[<-at_];exact m2),fun m d b q1 q2=>?_⟩;by_cases z:m=n
 .subst z;rw[ha]at q2;cases q2;rw[WH hn]at q1;cases q1;exact k
 .rw[W6 (fun y=>z y.symm)]at q1;have kb:=s.cell m d b q1 q2;cases zm:jb (some d) with
  |true=>exact kb.mono (aD.put ho h1 h2) (.inl zm)
  |false=>
   have hb:b≠a:=fun y=>z (s.nd m n a (by rw[<-y];exact q2) ha (by rw[q1];exact zm) (by rw[h];exact hc));exact kb.mono (aD.put ho h1 h2) (.inr (aH hb))
end
def wt(W:Wo)(ρ:_V)(H:Hp)(u:ao)(v:V):Prop:=match u with
 |.exc c=>∃a oe C,v=.ref a/\(a,oe)∈W.pn/\W.mg c=some (.ref C)/\oe.cls=.ref C
 |.fn L u=>∃f c c' cv,v=.ref f/\BD L H f c c' cv/\Rl W.K ρ H u cv
 |u=>Rl W.K ρ H u v
theorem wt.mono{W:Wo}{u:ao}{v:V}(h:wt W ρ H u v)(e:aD ρ H ρ' H'):wt W ρ' H' u v:=by
 cases u with
 |exc c=>exact h
 |fn L u=>obtain⟨f,c,c',cv,h1,C,r⟩:=h;exact⟨f,c,c',cv,h1,C.mono (fun b o u q=>e.gB b o u q),Rl.mono e _ _ r⟩
 |_=>exact Rl.mono e _ _ h
theorem wt.of{W:Wo}{u:ao}{v:V}(h:Rl W.K ρ H u v):wt W ρ H u v:=by
 cases u with
 |exc c=>unfold Rl at h;exact h.elim
 |fn L u=>unfold Rl at h;exact h.elim
 |_=>exact h
structure RS(W:Wo)(ρ:_V)(H:Hp)(μ:Env)(σ:St):Prop where
 len:μ.length=σ.length
 at_:∀(i:Nat)u,μ[i]?=some (some u)->∃v,σ[i]?=some (some v)/\wt W ρ H u v
section
variable{W:Wo}{μ:Env}
theorem RS.mono(r:RS W ρ H μ σ)(e:aD ρ H ρ' H'):RS W ρ' H' μ σ:=⟨r.len,fun i u h=>let⟨v,h1,h2⟩:=r.at_ i u h;⟨v,h1,h2.mono e⟩⟩
theorem RS.P'(r:RS W ρ H μ σ)(i:Nat){u:ao}{v:V}(h:wt W ρ H u v):RS W ρ H (μ.set i (some u)) (σ.set i (some v)):=by
 refine⟨by rw[XO,XO];exact r.len,fun j w e=>?_⟩;by_cases z:j=i
 .subst z;have hj:=d9 e;rw[XO]at hj;rw[WH hj]at e;cases e;exact⟨v,WH (by rw[<-r.len];exact hj),h⟩
 .rw[W6 (fun y=>z y.symm)]at e⊢;exact r.at_ j w e
theorem RS.set(r:RS W ρ H μ σ)(i:Nat){u:ao}{v:V}(h:Rl W.K ρ H u v):RS W ρ H (μ.set i (some u)) (σ.set i (some v)):=r.P' i (wt.of h)
end
abbrev ME:=Env->ai->cD ao
abbrev MT:=Env->ai->cD Bool
abbrev MA:=Env->ai->cD (List ao)
abbrev MB:=Env->ai->c6
def wR(W:Wo)(E:XK)(R:_V->Hp->α->β->Prop)(ρ:_V)(H:Hp)(Q:β->Hp->Prop):cD α->Prop
 |.ok u av=>∀ρ' H' v,aD ρ H ρ' H'->SR W.K ρ' av H'->R ρ' H' u v->Q v H'
 |.err c av=>∃C,W.mg c=some (.ref C)/\∀ρ' H',aD ρ H ρ' H'->SR W.K ρ' av H'->E (.ref C) none H'
 |.bad=>False
theorem wR.mono{W:Wo}{R:_V->Hp->α->β->Prop}{Q:β->Hp->Prop}{r:cD α}(h:wR W E R ρ H Q r)(e:aD ρ H ρ' H'):wR W E R ρ' H' Q r:=by
 cases r with
 |ok u st=>exact fun ρ2 H2 v e2 s r=>h ρ2 H2 v (e.trans e2) s r
 |err c st=>obtain⟨C,h1,h2⟩:=h;exact⟨C,h1,fun ρ2 H2 e2 s=>h2 ρ2 H2 (e.trans e2) s⟩
 |bad=>exact h
theorem wR.pn{K:_R}{mg:_P}{pn:_Q}{R:_V->Hp->α->β->Prop}{Q:β->Hp->Prop}{r:cD α}(h:wR ⟨K,mg,pn⟩ E R ρ H Q r):wR ⟨K,mg,LY⟩ E R ρ H Q r:=by cases r<;>exact h
def tG(W:Wo)(E:XK)(R:_V->Hp->α->β->Prop)(m:Env->ai->cD α):St->Hp->(β->Hp->Prop)->Prop:=
 fun σ H Q=>∃μ ρ st,RS W ρ H μ σ/\SR W.K ρ st H/\wR W E R ρ H Q (m μ st)
abbrev RB:_V->Hp->Bool->Bool->Prop:=fun _ _ b c=>c=b
abbrev tE(X:Cx)(E:XK)(m:ME):TE:=tG (wo X) E (Rl X.K) m
abbrev tT(X:Cx)(E:XK)(m:MT):TT:=tG (wo X) E RB m
abbrev tL(X:Cx)(E:XK)(m:MA):TA:=tG (wo X) E (aY X.K) m
theorem go{γ δ:Type}{W:Wo}{R1:_V->Hp->α->β->Prop}{R2:_V->Hp->γ->δ->Prop}{m:Env->ai->cD α}{k:α->ai->cD γ}{Q:δ->Hp->Prop}{Q':β->Hp->Prop}(μ:Env)(ρ:_V)(st:ai)(rs:RS W ρ H μ σ)(sr:SR W.K ρ st H)(h:wR W E R2 ρ H Q ((m μ st).bind k))(c:∀u a0 ρ1 H1 x,aD ρ H ρ1 H1->SR W.K ρ1 a0 H1->R1 ρ1 H1 u x->wR W E R2 ρ1 H1 Q (k u a0)->Q' x H1):tG W E R1 m σ H Q':=by
 refine⟨μ,ρ,st,rs,sr,?_⟩;cases e:m μ st with
 |ok u a0=>
  rw[e]at h;intro ρ1 H1 x e1 cb r1;exact c u a0 ρ1 H1 x e1 cb r1 (wR.mono h e1)
 |err c a0=>rw[e]at h;exact h
 |bad=>rw[e]at h;exact h
theorem PE.imp{t t':TE}(h:PE X e t)(k:∀σ H Q,t' σ H Q->t σ H Q):PE X e t':=fun ag s σ H Q I q=>h ag s σ H Q I (k σ H Q q)
theorem PT.imp{t t':TT}(h:PT X e t)(k:∀σ H Q,t' σ H Q->t σ H Q):PT X e t':=fun ag s σ H Q I q=>h ag s σ H Q I (k σ H Q q)
theorem PW.imp{t t':TT}(h:PW X e t)(k:∀σ H Q,t' σ H Q->t σ H Q):PW X e t':=fun w ag s σ H Q I q=>h w ag s σ H Q I (k σ H Q q)
theorem PA.imp{e:List Expr}{t t':TA}(h:PA X e t)(k:∀σ H Q,t' σ H Q->t σ H Q):PA X e t':=fun p ag s σ H Q I q=>h p ag s σ H Q I (k σ H Q q)
theorem PS.imp{e:Stmt}{t t':TS}(h:PS X e t)(k:∀D σ H,t' D σ H->t D σ H):PS X e t':=fun ag s σ H D I q=>h ag s σ H D I (k D σ H q)
theorem i'.imp{e:List Stmt}{t t':TS}(h:i' X e t)(k:∀D σ H,t' D σ H->t D σ H):i' X e t':=fun ag s σ H D I q=>h ag s σ H D I (k D σ H q)
theorem PG.imp{t t':TG}(h:PG X e t)(k:∀v σ H Q,t' v σ H Q->t v σ H Q):PG X e t':=fun ag s σ H v u Q I r q=>h ag s σ H v u Q I r (k v σ H Q q)
theorem dq.imp{f:_X->_X->Sem _X}{t t':R2}(h:dq X f t)(k:∀x y H Q,t' x y H Q->t x y H Q):dq X f t':=fun ag s σ H x y v u Q I rx ry q=>h ag s σ H x y v u Q I rx ry (k x y H Q q)
theorem cm.imp{f:_X}{t t':List V->Hp->VK->Prop}(h:cm X f t)(k:∀xs H Q,t' xs H Q->t xs H Q):cm X f t':=fun ag s σ H xs us Q I r q=>h ag s σ H xs us Q I r (k xs H Q q)
theorem xY.imp{t t':R2}(h:xY X t)(k:∀x y H Q,t' x y H Q->t x y H Q):xY X t':=fun va sl ag s σ H x y v u Q I rx ry q e=>h va sl ag s σ H x y v u Q I rx ry (k x y H Q q) e
def Qa:ao->Bool
 |.exc _=>true
 |.fn _ _=>true
 |_=>false
def ae(i:Nat):ME:=fun μ st=>match μ[i]? with
 |some (some v)=>if Qa v=true then .bad else .ok v st
 |_=>.bad
theorem wt.un{W:Wo}{u:ao}{v:V}(h:wt W ρ H u v)(n:¬ Qa u=true):Rl W.K ρ H u v:=by
 cases u with
 |exc c=>exact absurd rfl n
 |fn L u=>exact absurd rfl n
 |_=>exact h
def mC(v:ao):ME:=fun _ st=>.ok v st
theorem uR(i:Nat)(hN:X.N[i]?=some x:=by rfl)(hv:Gh X.env.scope x:=by first|exact Or.inl rfl|exact Or.inr (Or.inl rfl)|exact Or.inr (Or.inr rfl))(hd:(x==("__debug__":Str))=false:=by decide)(j6:(x==("__classdict__":Str))=false:=by decide):PE X (.Name x pos) (tE X E (ae i)):=by
 refine PE.imp (uq hN hv hd j6) ?_;rintro σ H Q ⟨μ,ρ,st,rs,sr,h⟩;unfold ae at h;split at h
 .rename_i v e;obtain⟨w,e',r⟩:=rs.at_ i v e;split at h
  .exact h.elim
  .rename_i n;exact⟨w,e',h ρ H w (aD.refl _ _) sr (r.un n)⟩
 .exact h.elim
theorem wu{v:V}{c:ao}(h:PE X e (tC v))(r:∀ρ H,Rl X.K ρ H c v):PE X e (tE X E (mC c)):=by refine PE.imp h ?_;rintro σ H Q ⟨μ,ρ,st,rs,sr,h⟩;exact h ρ H v (aD.refl _ _) sr (r ρ H)
theorem LZ{i j}:PE X (.Constant (.int i) j pos) (tE X E (mC (.int i))):=wu KO fun _ _=>Rl.mkInt i
theorem Qb{b j}:PE X (.Constant (.bool b) j pos) (tE X E (mC (.bl b))):=wu JS fun _ _=>Rl.BG b
theorem L4{j}:PE X (.Constant .none j pos) (tE X E (mC .dc)):=wu KP fun _ _=>Rl.sS
theorem L5{x j}:PE X (.Constant (.str x) j pos) (tE X E (mC (.str x))):=wu KQ fun _ _=>Rl.mkStr x
structure Glob(K:_R)(mg:_P)(x:Str)(c:ao):Prop where
 at_:∃(u:_X)(v:V),mg x=some u/\bo v u/\∀ρ H,Rl K ρ H c v
theorem uS{c:ao}(hg:Gl X x)(h:Glob X.K X.mg x c)(hd:(x==("__debug__":Str))=false:=by decide):PE X (.Name x pos) (tE X E (mC c)):=by obtain⟨u,v,h1,h2,h3⟩:=h.at_;exact wu (ur hg h1 h2 hd) h3
abbrev F2:=ao->ao->ai->cD ao
def rM(W:Wo)(E:XK)(f:F2):R2:=fun x y H Q=>∃ρ st u w,SR W.K ρ st H/\Rl W.K ρ H u x/\Rl W.K ρ H w y/\wR W E (Rl W.K) ρ H Q (f u w st)
def ak(f:F2)(a b:ME):ME:=fun μ st=>(a μ st).bind fun x a0=>(b μ a0).bind fun y cE=>f x y cE
section
variable{a b c:Expr}{ma mb mc:ME}{f g:F2}
theorem lY{Q:VK}(h:tE X E (ak f ma mb) σ H Q):Oi (rM (wo X) E f) (tE X E ma) (tE X E mb) σ H Q:=by obtain⟨μ,ρ,st,rs,sr,h⟩:=h;refine go μ ρ st rs sr h fun u a0 ρ1 H1 x e1 cb r1 h1=>?_;refine go μ ρ1 a0 (rs.mono e1) cb h1 fun w cE ρ2 H2 y e2 lZ r2 h2=>?_;exact⟨ρ2,cE,u,w,lZ,Rl.mono e2 _ _ r1,r2,h2⟩
theorem iZ{op:Operator}(ho:dq X (binaryOp op) (rM (wo X) E f))(ha:PE X a (tE X E ma))(hb:PE X b (tE X E mb)):PE X (.BinOp a op b pos) (tE X E (ak f ma mb)):=
 PE.imp (O9 ho ha hb) fun _ _ _ h=>lY h
theorem DK(ho:dq X (compareOp op) (rM (wo X) E f))(ha:PE X a (tE X E ma))(hb:PE X b (tE X E mb))(hm:behindInMarks op b=false:=by first|exact C_ _|(with_unfolding_all rfl)):PE X (.Compare a [op] [b] pos) (tE X E (ak f ma mb)):=
 PE.imp (GR ho ha hb hm) fun _ _ _ h=>lY h
def bO(m:ME):MT:=fun μ st=>(m μ st).bind fun v av=>match v with
 |.bl b=>.ok b av
 |_=>.bad
theorem wx{m:ME}{Q:Bool->Hp->Prop}(h:tT X E (bO m) σ H Q):tE X E m σ H fun x H'=>∃k,x=.bl k/\Q k H':=by
 obtain⟨μ,ρ,st,rs,sr,h⟩:=h;refine go μ ρ st rs sr h fun u a0 ρ1 H1 x e1 cb r1 h1=>?_;cases u with
 |bl b=>exact⟨b,r1.p8,h1 ρ1 H1 b (aD.refl _ _) cb rfl⟩
 |_=>exact h1.elim
theorem kU(ho:dq X (compareOp op) (rM (wo X) E f))(ha:PE X a (tE X E ma))(hb:PE X b (tE X E mb))(hm:behindInMarks op b=false:=by first|exact C_ _|(with_unfolding_all rfl)):PT X (.Compare a [op] [b] pos) (tT X E (bO (ak f ma mb))):=
 PT.imp (GS ho ha hb hm) fun σ H Q h=>by show Oi (rM (wo X) E f) (tE X E ma) (tE X E mb) σ H _;exact lY (wx h)
theorem L6{m:ME}(h:PE X a (tE X E m))(he:∀whole,isTrue a X.env whole=(do let v <- whole;standAt a.pos;holding [v] (truthy v)):=by intro _;rfl):PT X a (tT X E (bO m)):=
 PT.imp (KR h he) fun σ H Q h=>wx h
def uT(f g:F2)(a b c:ME):ME:=fun μ st=>(a μ st).bind fun x a0=>(b μ a0).bind fun y cE=>(f x y cE).bind fun z jE=>match z with
 |.bl true=>(c μ jE).bind fun w l0=>g y w l0
 |.bl false=>.ok (.bl false) jE
 |_=>.bad
def Tells(f:F2):Prop:=∀u w st,f u w st=.bad\/∃b,f u w st=.ok (.bl b) st
theorem yt(hf:Tells f){Q:VK}(h:tE X E (uT f g ma mb mc) σ H Q):C! (rM (wo X) E f) (rM (wo X) E g) (tE X E ma) (tE X E mb) (tE X E mc) σ H Q:=by
 obtain⟨μ,ρ,st,rs,sr,h⟩:=h;refine go μ ρ st rs sr h fun u a0 ρ1 H1 x e1 cb r1 h1=>?_;refine go μ ρ1 a0 (rs.mono e1) cb h1 fun w cE ρ2 H2 y e2 lZ r2 h2=>?_;refine⟨ρ2,cE,u,w,lZ,Rl.mono e2 _ _ r1,r2,?_⟩;rcases hf u w cE with e|⟨k,e⟩
 .rw[e]at h2;exact h2.elim
 .rw[e]at h2⊢;intro ρ3 H3 z e3 yu rz;rw[rz.p8];refine⟨k,rfl,?_⟩;cases k with
  |true=>
   rw[Vu rfl];refine go μ ρ3 cE (((rs.mono e1).mono e2).mono e3) yu (wR.mono h2 e3) fun v l0 ρ4 H4 x4 e4 nD r4 h4=>?_;exact⟨ρ4,l0,w,v,nD,Rl.mono (e3.trans e4) _ _ r2,r4,h4⟩
  |false=>
   rw[VA VI];exact h2 ρ3 H3 _ e3 yu (Rl.BG false)
theorem DM{Lg:CmpOp}(hf:Tells f)(ho:dq X (compareOp op) (rM (wo X) E f))(lS:dq X (compareOp Lg) (rM (wo X) E g))(ha:PE X a (tE X E ma))(hb:PE X b (tE X E mb))(hc:PE X c (tE X E mc))(hm:lastMarks [op,Lg] [b,c]=false:=by with_unfolding_all rfl):PE X (.Compare a [op,Lg] [b,c] pos) (tE X E (uT f g ma mb mc)):=
 PE.imp (C? ho lS ha hb hc hm) fun _ _ _ h=>yt hf h
def l_(a b:ME):ME:=fun μ st=>(a μ st).bind fun x a0=>match x with
 |.bl true=>b μ a0
 |.bl false=>.ok (.bl false) a0
 |_=>.bad
def Sh(a b:ME):ME:=fun μ st=>(a μ st).bind fun x a0=>match x with
 |.bl true=>.ok (.bl true) a0
 |.bl false=>b μ a0
 |_=>.bad
def L7(a:ME):ME:=fun μ st=>(a μ st).bind fun x a0=>match x with
 |.bl b=>.ok (.bl (!b)) a0
 |_=>.bad
def Al(a b:MT):MT:=fun μ st=>(a μ st).bind fun x a0=>match x with
 |true=>b μ a0
 |false=>.ok false a0
def gE(a b:MT):MT:=fun μ st=>(a μ st).bind fun x a0=>match x with
 |true=>.ok true a0
 |false=>b μ a0
def cN(a:MT):MT:=fun μ st=>(a μ st).bind fun x a0=>.ok (!x) a0
def Ox(t:MT)(a b:ME):ME:=fun μ st=>(t μ st).bind fun x a0=>match x with
 |true=>a μ a0
 |false=>b μ a0
variable{tA GB:MT}
theorem L8{op}{m:ME}(h:PE X a (tE X E m)):PE X (.BoolOp op [a] pos) (tE X E m):=KY h
theorem L9(ha:PE X a (tE X E ma))(hb:PE X (.BoolOp .And (b::rest) pos) (tE X E mb)):PE X (.BoolOp .And (a::b::rest) pos) (tE X E (l_ ma mb)):=by
 refine PE.imp (KZ ha hb) ?_;rintro σ H Q ⟨μ,ρ,st,rs,sr,h⟩;refine go μ ρ st rs sr h fun u a0 ρ1 H1 x e1 cb r1 h1=>?_;cases u with
 |bl k=>
  refine⟨k,r1.p8,?_⟩;cases k with
  |true=>rw[Vu rfl];exact⟨μ,ρ1,a0,rs.mono e1,cb,h1⟩
  |false=>rw[VA VI];exact h1 ρ1 H1 _ (aD.refl _ _) cb (Rl.BG false)
 |_=>exact h1.elim
theorem Qc(ha:PE X a (tE X E ma))(hb:PE X (.BoolOp .Or (b::rest) pos) (tE X E mb)):PE X (.BoolOp .Or (a::b::rest) pos) (tE X E (Sh ma mb)):=by
 refine PE.imp (O0 ha hb) ?_;rintro σ H Q ⟨μ,ρ,st,rs,sr,h⟩;refine go μ ρ st rs sr h fun u a0 ρ1 H1 x e1 cb r1 h1=>?_;cases u with
 |bl k=>
  refine⟨k,r1.p8,?_⟩;cases k with
  |true=>rw[Vu rfl];exact h1 ρ1 H1 _ (aD.refl _ _) cb (Rl.BG true)
  |false=>rw[VA VI];exact⟨μ,ρ1,a0,rs.mono e1,cb,h1⟩
 |_=>exact h1.elim
theorem L_(ha:PE X a (tE X E ma)):PE X (.UnaryOp .Not a pos) (tE X E (L7 ma)):=by
 refine PE.imp (K0 ha) ?_;rintro σ H Q ⟨μ,ρ,st,rs,sr,h⟩;refine go μ ρ st rs sr h fun u a0 ρ1 H1 x e1 cb r1 h1=>?_;cases u with
 |bl k=>exact⟨k,r1.p8,h1 ρ1 H1 _ (aD.refl _ _) cb (Rl.BG _)⟩
 |_=>exact h1.elim
theorem Hx(ha:PT X a (tT X E tA)):PW X (.BoolOp .And [a] pos) (tT X E tA):=GC ha
theorem L!(ha:PT X a (tT X E tA)):PW X (.BoolOp .Or [a] pos) (tT X E tA):=KS ha
theorem L?(ha:PT X a (tT X E tA))(hb:PW X (.BoolOp .And (b::rest) pos) (tT X E GB)):PW X (.BoolOp .And (a::b::rest) pos) (tT X E (Al tA GB)):=by
 refine PW.imp (KU ha hb) ?_;rintro σ H Q ⟨μ,ρ,st,rs,sr,h⟩;refine go (R1:=RB) μ ρ st rs sr h fun u a0 ρ1 H1 x e1 cb r1 h1=>?_;cases r1;cases u with
 |true=>rw[Vu rfl];exact⟨μ,ρ1,a0,rs.mono e1,cb,h1⟩
 |false=>rw[VA VI];exact h1 ρ1 H1 _ (aD.refl _ _) cb rfl
theorem Qd(ha:PT X a (tT X E tA))(hb:PW X (.BoolOp .Or (b::rest) pos) (tT X E GB)):PW X (.BoolOp .Or (a::b::rest) pos) (tT X E (gE tA GB)):=by
 refine PW.imp (OX ha hb) ?_;rintro σ H Q ⟨μ,ρ,st,rs,sr,h⟩;refine go (R1:=RB) μ ρ st rs sr h fun u a0 ρ1 H1 x e1 cb r1 h1=>?_;cases r1;cases u with
 |true=>rw[Vu rfl];exact h1 ρ1 H1 _ (aD.refl _ _) cb rfl
 |false=>rw[VA VI];exact⟨μ,ρ1,a0,rs.mono e1,cb,h1⟩
theorem Ur{t:MT}(h:PW X e (tT X E t)):PT X e (tT X E t):=h.pt
theorem Ma(ha:PT X a (tT X E tA)):PT X (.UnaryOp .Not a pos) (tT X E (cN tA)):=by refine PT.imp (KW ha) ?_;rintro σ H Q ⟨μ,ρ,st,rs,sr,h⟩;refine go (R1:=RB) μ ρ st rs sr h fun u a0 ρ1 H1 x e1 cb r1 h1=>?_;cases r1;exact h1 ρ1 H1 _ (aD.refl _ _) cb rfl
theorem Qe(hc:PT X c (tT X E tA))(ha:PE X a (tE X E ma))(hb:PE X b (tE X E mb)):PE X (.IfExp c a b pos) (tE X E (Ox tA ma mb)):=by
 refine PE.imp (C2 hc ha hb) ?_;rintro σ H Q ⟨μ,ρ,st,rs,sr,h⟩;refine go (R1:=RB) μ ρ st rs sr h fun u a0 ρ1 H1 x e1 cb r1 h1=>?_;cases r1;cases u with
 |true=>rw[Vu rfl];exact⟨μ,ρ1,a0,rs.mono e1,cb,h1⟩
 |false=>rw[VA VI];exact⟨μ,ρ1,a0,rs.mono e1,cb,h1⟩
end
def aj:MA:=fun _ st=>.ok [] st
def aa(a:ME)(r:MA):MA:=fun μ st=>(a μ st).bind fun x a0=>(r μ a0).bind fun xs cE=>.ok (x::xs) cE
def cq(a:MA):ME:=fun μ st=>(a μ st).bind fun xs a0=>if xs.length<=sizeLine then .ok (.tup xs) a0 else .bad
def bW(a:MA):ME:=fun μ st=>(a μ st).bind fun xs a0=>if xs.length<=sizeLine then .ok (.loc a0.length) (a0++[.lst xs])else .bad
abbrev FN:=List ao->ai->cD ao
def ah(f:FN)(a:MA):ME:=fun μ st=>(a μ st).bind fun xs a0=>f xs a0
def J!(W:Wo)(f:FN):Sp:=fun vs H Q E=>∃us ρ st,aY W.K ρ H us vs/\SR W.K ρ st H/\wR W E (Rl W.K) ρ H Q (f us st)
def cM(W:Wo)(E:XK)(f:FN):List V->Hp->VK->Prop:=fun xs H Q=>∃ρ st us,SR W.K ρ st H/\aY W.K ρ H us xs/\wR W E (Rl W.K) ρ H Q (f us st)
section
variable{p:Pos}{m:ME}{ms:MA}{f:FN}
theorem DN:PA X [] (tL X E aj):=PA.imp kP fun σ H Q⟨μ,ρ,st,rs,sr,h⟩=>h ρ H [] (aD.refl _ _) sr aY.nil
theorem pC(ha:PE X e (tE X E m))(hr:PA X es (tL X E ms))(hs:starEach (e::es) X.env=(false,eval e X.env)::starEach es X.env:=by rfl):PA X (e::es) (tL X E (aa m ms)):=by refine PA.imp (fM ha hr hs) ?_;rintro σ H Q ⟨μ,ρ,st,rs,sr,h⟩;refine go μ ρ st rs sr h fun u a0 ρ1 H1 x e1 cb r1 h1=>?_;refine go (R1:=aY X.K) μ ρ1 a0 (rs.mono e1) cb h1 fun w cE ρ2 H2 y e2 lZ r2 h2=>?_;exact h2 ρ2 H2 _ (aD.refl _ _) lZ (aY.cons (Rl.mono e2 _ _ r1) r2)
theorem Mb{k}(h:PA X es (tL X E ms)):PE X (.Tuple es k pos) (tE X E (cq ms)):=by
 refine PE.imp (Li h) ?_;rintro σ H Q ⟨μ,ρ,st,rs,sr,h⟩;refine go (R1:=aY X.K) μ ρ st rs sr h fun us a0 ρ1 H1 xs e1 cb r1 h1=>?_;by_cases hz:us.length<=sizeLine
 .rw[Vu hz]at h1;refine⟨by rw[<-r1.length];exact hz,fun p hp=>?_⟩;have s:=dH (o:=.tup xs) hp;exact h1 ρ1 _ _ (aD.same s) (cb.grow s) (Rl.p9 bu (aY.mono (aD.same s) _ _ r1))
 .rw[VA hz]at h1;exact h1.elim
theorem iw{K:_R}{st:ai}{us:List ao}{xs:List V}(sr:SR K ρ st H)(r:aY K ρ H us xs){p:_Z}(hp:H p=none):
  aD ρ H (ρ++[p]) (upd H p (.lst xs))/\SR K (ρ++[p]) (st++[.lst us]) (upd H p (.lst xs))/\Rl K (ρ++[p]) (upd H p (.lst xs)) (.loc st.length) (.ref p):=by
 have s:=dH (o:=.lst xs) hp;refine⟨aD.snoc p s,sr.alloc hp ⟨xs,bu,aY.mono (aD.snoc p s) _ _ r⟩,Rl.DJ ?_⟩;rw[<-sr.len,Vv (Vo _),Wj];rfl
theorem Mc(h:PA X es (tL X E ms)):PE X (.List es pos) (tE X E (bW ms)):=by
 refine PE.imp (Lj h) ?_;rintro σ H Q ⟨μ,ρ,st,rs,sr,h⟩;refine go (R1:=aY X.K) μ ρ st rs sr h fun us a0 ρ1 H1 xs e1 cb r1 h1=>?_;by_cases hz:us.length<=sizeLine
 .rw[Vu hz]at h1;refine⟨by rw[<-r1.length];exact hz,fun p hp=>?_⟩;obtain⟨a,b,c⟩:=iw cb r1 hp;exact h1 _ _ _ a b c
 .rw[VA hz]at h1;exact h1.elim
theorem Hy{k:Nat}(F:ku X.prog X.w X.K X.mg X.base CX k fa fd ps (J! ⟨X.K,X.mg,[]⟩ f))(hr:d0 k X.A)(hg:Gl X x)(hm:X.mg x=some (.ref fa))(hk:W.keepIn X.K (.ref fa)=true)(hb:Binds X.K fd ps [])(hx:Passes CX X E)(ha:PA X (e::es) (tL X E ms))(ju:(x==("__debug__":Str))=false:=by decide)(he:starEach (e::es) X.env=(false,eval e X.env)::starEach es X.env:=by rfl)(ip:(backTo pos (starEach es X.env)).any (·.1)=false:=by rfl):
  PE X (.Call (.Name x p) (e::es) [] pos) (tE X E (ah f ms)):=by
 refine PE.imp (GX F hr hg hm hk hb .nil hx ha ju he ip) ?_;rintro σ H Q ⟨μ,ρ,st,rs,sr,h⟩;refine go (R1:=aY X.K) μ ρ st rs sr h fun us a0 ρ1 H1 xs e1 cb r1 h1=>?_;rw[VZ];exact⟨us,ρ1,a0,r1,cb,wR.pn h1⟩
theorem p_{id:String}(hc:cm X (.builtin id) (cM (wo X) E f))(hg:Gl X x)(hm:X.mg x=none)(hv:bootBuiltins x=some (.builtin id))(ha:PA X (e::es) (tL X E ms))(hn:x ≠ "__name__":=by decide)(ju:(x==("__debug__":Str))=false:=by decide)(he:starEach (e::es) X.env=(false,eval e X.env)::starEach es X.env:=by rfl)(ip:(backTo pos (starEach es X.env)).any (·.1)=false:=by rfl):PE X (.Call (.Name x p) (e::es) [] pos) (tE X E (ah f ms)):=by refine PE.imp (lV hc hg hm hv ha hn ju he ip) ?_;rintro σ H Q ⟨μ,ρ,st,rs,sr,h⟩;exact go (R1:=aY X.K) μ ρ st rs sr h fun us a0 ρ1 H1 xs e1 cb r1 h1=>⟨ρ1,a0,us,cb,r1,h1⟩
theorem j8{T:String}(hc:cm X (.type T) (cM (wo X) E f))(hg:Gl X x)(hm:X.mg x=none)(hv:bootBuiltins x=some (.type T))(ha:PA X (e::es) (tL X E ms))(hn:x ≠ "__name__":=by decide)(ju:(x==("__debug__":Str))=false:=by decide)(he:starEach (e::es) X.env=(false,eval e X.env)::starEach es X.env:=by rfl)(ip:(backTo pos (starEach es X.env)).any (·.1)=false:=by rfl):PE X (.Call (.Name x p) (e::es) [] pos) (tE X E (ah f ms)):=by refine PE.imp (Bm hc hg hm hv ha hn ju he ip) ?_;rintro σ H Q ⟨μ,ρ,st,rs,sr,h⟩;exact go (R1:=aY X.K) μ ρ st rs sr h fun us a0 ρ1 H1 xs e1 cb r1 h1=>⟨ρ1,a0,us,cb,r1,h1⟩
end
section
variable{a b:Expr}{ma mb:ME}{f:F2}
theorem Qf(hr:xY X (rM (wo X) E f))(ha:PE X a (tE X E ma))(hb:PE X b (tE X E mb))(hs:uA b:=by exact fun _ _=>rfl):PE X (.Subscript a b pos) (tE X E (ak f ma mb)):=
 PE.imp (Pk hr ha hb hs) fun _ _ _ h=>lY h
end
def wS(W:Wo)(E:XK)(ρ:_V)(H:Hp)(D:Ends):c6->Prop
 |.nx μ st=>∀ρ' H' σ',aD ρ H ρ' H'->SR W.K ρ' st H'->RS W ρ' H' μ σ'->D.nx σ' H'
 |.rt v st=>∀ρ' H' x,aD ρ H ρ' H'->SR W.K ρ' st H'->Rl W.K ρ' H' v x->D.rt x H'
 |.bk μ st=>∀ρ' H' σ',aD ρ H ρ' H'->SR W.K ρ' st H'->RS W ρ' H' μ σ'->D.bk σ' H'
 |.ct μ st=>∀ρ' H' σ',aD ρ H ρ' H'->SR W.K ρ' st H'->RS W ρ' H' μ σ'->D.ct σ' H'
 |.er c _ st=>∃C,W.mg c=some (.ref C)/\∀ρ' H',aD ρ H ρ' H'->SR W.K ρ' st H'->E (.ref C) none H'
 |.bad=>False
theorem wS.mono{W:Wo}{D:Ends}{r:c6}(h:wS W E ρ H D r)(e:aD ρ H ρ' H'):wS W E ρ' H' D r:=by
 cases r with
 |nx μ st=>exact fun ρ2 H2 σ2 e2 s r=>h ρ2 H2 σ2 (e.trans e2) s r
 |rt v st=>exact fun ρ2 H2 x e2 s r=>h ρ2 H2 x (e.trans e2) s r
 |bk μ st=>exact fun ρ2 H2 σ2 e2 s r=>h ρ2 H2 σ2 (e.trans e2) s r
 |ct μ st=>exact fun ρ2 H2 σ2 e2 s r=>h ρ2 H2 σ2 (e.trans e2) s r
 |er c μ st=>obtain⟨C,h1,h2⟩:=h;exact⟨C,h1,fun ρ2 H2 e2 s=>h2 ρ2 H2 (e.trans e2) s⟩
 |bad=>exact h
def tS(X:Cx)(E:XK)(m:MB):TS:=fun D σ H=>∃μ ρ st,RS (wo X) ρ H μ σ/\SR X.K ρ st H/\wS (wo X) E ρ H D (m μ st)
@[reducible] def cD.sb(r:cD α)(μ:Env)(k:α->ai->c6):c6:=match r with
 |.ok a st=>k a st
 |.err c st=>.er c μ st
 |.bad=>.bad
theorem DO{W:Wo}{R1:_V->Hp->α->β->Prop}{m:Env->ai->cD α}{k:α->ai->c6}{D:Ends}{Q':β->Hp->Prop}(μ:Env)(ρ:_V)(st:ai)(rs:RS W ρ H μ σ)(sr:SR W.K ρ st H)(h:wS W E ρ H D ((m μ st).sb μ k))(c:∀u a0 ρ1 H1 x,aD ρ H ρ1 H1->SR W.K ρ1 a0 H1->R1 ρ1 H1 u x->wS W E ρ1 H1 D (k u a0)->Q' x H1):tG W E R1 m σ H Q':=by
 refine⟨μ,ρ,st,rs,sr,?_⟩;cases e:m μ st with
 |ok u a0=>
  rw[e]at h;intro ρ1 H1 x e1 cb r1;exact c u a0 ρ1 H1 x e1 cb r1 (wS.mono h e1)
 |err c a0=>rw[e]at h;exact h
 |bad=>rw[e]at h;exact h
def aX:MB:=fun μ st=>.nx μ st
def aB(a b:MB):MB:=fun μ st=>match a μ st with
 |.nx μ' av=>b μ' av
 |r=>r
def cO(m:ME):MB:=fun μ st=>(m μ st).sb μ fun _ av=>.nx μ av
def aP(m:ME):MB:=fun μ st=>(m μ st).sb μ fun v av=>.rt v av
def fw(t:MT)(a b:MB):MB:=fun μ st=>(t μ st).sb μ fun k av=>match k with
 |true=>a μ av
 |false=>b μ av
def aG(i:Nat)(m:ME):MB:=fun μ st=>(m μ st).sb μ fun v av=>.nx (μ.set i (some v)) av
def kW(c:Str)(m:MA):MB:=fun μ st=>(m μ st).sb μ fun vs av=>if vs.length<=sizeLine then .er c μ av else .bad
section
variable{s1:Stmt}{rest:List Stmt}{m:ME}{a b:MB}
theorem Md:i' X [] (tS X E aX):=i'.imp GD fun D σ H⟨μ,ρ,st,rs,sr,h⟩=>h ρ H σ (aD.refl _ _) sr rs
theorem Am(h1:PS X s1 (tS X E a))(h2:i' X rest (tS X E b)):i' X (s1::rest) (tS X E (aB a b)):=by
 refine i'.imp (C3 h1 h2) ?_;rintro D σ H ⟨μ,ρ,st,rs,sr,h⟩;refine⟨μ,ρ,st,rs,sr,?_⟩;unfold aB at h;cases e:a μ st with
 |nx μ' av=>
  rw[e]at h;intro ρ1 H1 σ1 e1 cb Oy;exact⟨μ',ρ1,av,Oy,cb,wS.mono h e1⟩
 |rt v av=>rw[e]at h;exact h
 |bk μ' av=>rw[e]at h;exact h
 |ct μ' av=>rw[e]at h;exact h
 |er c μ' av=>rw[e]at h;exact h
 |bad=>rw[e]at h;exact h
theorem DP(h1:PS X s1 (tS X E a)):i' X [s1] (tS X E a):=GF h1
theorem Hz(he:PE X e (tE X E m))(hs:swapsWith e none pos.line X.env=pure false:=by rfl):PS X (.Expr e pos) (tS X E (cO m)):=by refine PS.imp (GG he hs) ?_;rintro D σ H ⟨μ,ρ,st,rs,sr,h⟩;exact DO μ ρ st rs sr h fun u a0 ρ1 H1 x e1 cb r1 h1=>h1 ρ1 H1 σ (aD.refl _ _) cb (rs.mono e1)
theorem Me(he:PE X e (tE X E m)):PS X (.Return (some e) pos) (tS X E (aP m)):=by refine PS.imp (K2 he) ?_;rintro D σ H ⟨μ,ρ,st,rs,sr,h⟩;exact DO μ ρ st rs sr h fun u a0 ρ1 H1 x e1 cb r1 h1=>h1 ρ1 H1 x (aD.refl _ _) cb r1
theorem Qg{c:Expr}{sa sb:List Stmt}{t:MT}(hc:PT X c (tT X E t))(ha:i' X sa (tS X E a))(hb:i' X sb (tS X E b)):PS X (.If c sa sb pos) (tS X E (fw t a b)):=by
 refine PS.imp (O3 hc ha hb) ?_;rintro D σ H ⟨μ,ρ,st,rs,sr,h⟩;refine DO (R1:=RB) μ ρ st rs sr h fun u a0 ρ1 H1 x e1 cb r1 h1=>?_;cases r1;cases u with
 |true=>rw[Vu rfl];exact⟨μ,ρ1,a0,rs.mono e1,cb,h1⟩
 |false=>rw[VA VI];exact⟨μ,ρ1,a0,rs.mono e1,cb,h1⟩
theorem wy{D:Ends}(h:tS X E (aG i m) D σ H):GK (tE X E m) (v9 i) D σ H:=by obtain⟨μ,ρ,st,rs,sr,h⟩:=h;exact DO μ ρ st rs sr h fun u a0 ρ1 H1 x e1 cb r1 h1=>h1 ρ1 H1 _ (aD.refl _ _) cb ((rs.mono e1).set i r1)
theorem Mf(i:Nat)(hN:X.N.Nodup)(he:PE X e (tE X E m))(hi:X.N[i]?=some x:=by rfl)(hx:Loc X.env.scope x:=by first|exact Or.inl rfl|exact Or.inr rfl)(hs:swapsWith e (some (.Name x pos')) pos.line X.env=pure false:=by rfl)(hf:X.fn x=true\/X.env.scope.names.lookup x=some .local:=by first|exact .inl rfl|exact .inr rfl|assumption):PS X (.Assign [.Name x pos'] e pos) (tS X E (aG i m)):=
 PS.imp (K5 hN hi hx he hs hf) fun _ _ _ h=>wy h
theorem DQ{B yo:String}{bm:_T}{ms:MA}(hX:Raises X E)(hc:X.calm=true)(hm:X.mg x=some (.ref C))(hq:W.excIn X.K C bm newId=true)(FB:ExcBaseFacts B newId yo bm)(hg:Gl X x)(ha:PA X (e₀::es) (tL X E ms))(he:starEach (e₀::es) X.env=(false,eval e₀ X.env)::starEach es X.env:=by rfl)(ip:(backTo bV (starEach es X.env)).any (·.1)=false:=by rfl)(hd:(x==("__debug__":Str))=false:=by decide):
  PS X (.Raise (some (.Call (.Name x np) (e₀::es) [] bV)) none pos) (tS X E (kW x ms)):=by
 refine PS.imp (DC (E:=E) hX hc hm hq FB hg ha he ip hd) ?_;rintro D σ H ⟨μ,ρ,st,rs,sr,h⟩;refine DO (R1:=aY X.K) μ ρ st rs sr h fun us a0 ρ1 H1 xs e1 cb r1 h1=>?_;by_cases hz:us.length<=sizeLine
 .rw[Vu hz]at h1;obtain⟨C',q1,q2⟩:=h1;have e:C'=C:=by have:=q1.symm.trans hm;injection this with this;injection this
  subst e;exact⟨by rw[<-r1.length];exact hz,q2 ρ1 H1 (aD.refl _ _) cb⟩
 .rw[VA hz]at h1;exact h1.elim
end
def gC(np n:Nat)(body:MB):FN:=fun us st=>if us.length=np then(match body (us.map some++List.replicate (n-np) none) st with
 |.nx _ av=>.ok .dc av
 |.rt v av=>.ok v av
 |.er c _ av=>.err c av
 |_=>.bad)else .bad
theorem RS.start{W:Wo}{us:List ao}{vs:List V}(r:aY W.K ρ H us vs):RS W ρ H (us.map some++List.replicate (N.length-us.length) none) (L2.start N vs):=by
 have hl:=r.length;refine⟨by simp[L2.start,hl],fun i u e=>?_⟩;rcases V2 i us.length with q|q
 .rw[VL (by rw[Vm];exact q),VF]at e;have e':us[i]?=some u:=by
   cases z:us[i]? with
   |none=>rw[z]at e;cases e
   |some w=>rw[z]at e;exact Xg _ (VP (VP e))
  obtain⟨v,h1,h2⟩:=r.get e';refine⟨v,?_,wt.of h2⟩;unfold L2.start;rw[VL (by rw[Vm,<-hl];exact q),VF,h1];rfl
 .rw[Vv (by rw[Vm];exact q)]at e;rw[Ww]at e;split at e
  .cases e
  .cases e
section
variable{K:_R}{mg:_P}
theorem DR{st:Stmt}{k:Nat}{body:MB}(F:Ad K x qual st f fd)(S:dF N ps (aC st))
  (h:∀ (dh:_X) (A:_0) (outer:List PySem.Env) (s:_Y) (H:Hp) (E:XK),d0 k (A.deeper (envOfC qual (aC st) s.heap.objs.size f dh)) ->
   i' (fN (iL P w) P w K mg base N qual (aC st) f dh A outer s H E) (bZ st) (tS (fN (iL P w) P w K mg base N qual (aC st) f dh A outer s H E) E body)):
  ku P w K mg base (iL P w) (k+1) f fd ps (J! ⟨K,mg,[]⟩ (gC ps.length N.length body)):=by
 refine F.okX S (fun vs H Q E q=>?_) (fun dh A outer s H vs Q E hr q=>⟨_,h dh A outer s H E hr,?_⟩)
 .obtain⟨us,ρ,st,r,sr,q⟩:=q;by_cases hl:us.length=ps.length
  .rw[<-r.length];exact hl
  .unfold gC at q;rw[VA hl]at q;exact q.elim
 .obtain⟨us,ρ,av,r,sr,q⟩:=q;unfold gC at q;by_cases hl:us.length=ps.length
  .rw[Vu hl,<-hl]at q;refine⟨_,ρ,av,RS.start r,sr,?_⟩;revert q;cases body (us.map some++List.replicate (N.length-us.length) none) av with
   |nx μ cE=>exact fun q ρ' H' σ' e s _=>q ρ' H' .dc e s Rl.sS
   |rt v cE=>exact fun q=>q
   |er c μ cE=>exact fun q=>q
   |bk μ cE=>exact fun q=>q.elim
   |ct μ cE=>exact fun q=>q.elim
   |bad=>exact fun q=>q.elim
  .rw[VA hl]at q;exact q.elim
end
def Sz(i:Int):Prop:=i.natAbs.log2<1000000
instance (i:Int):Decidable (Sz i):=inferInstanceAs (Decidable (_<_))
theorem Sz.big{i:Int}(h:Sz i):gP 1000001 i:=by show _<_;have h1:i.natAbs<2 ^ (i.natAbs.log2+1):=Y_;exact VE h1 (WW (by decide) (by have:i.natAbs.log2<1000000:=h;lia))
theorem Sz.of{k:Nat}{i:Int}(h:gP k i)(hk:k<=1000000):Sz i:=by
 show i.natAbs.log2<1000000;have h':i.natAbs<2 ^ k:=h;by_cases z:i.natAbs=0
 .rw[z];decide
 .exact VE ((Yx z).mpr h') hk
theorem Sz.mul{i j:Int}(h:Sz i)(k:Sz j):Ag i j:=⟨_,_,h.big,k.big,by decide,by decide⟩
def Dz(i:Int):Prop:=i≠0/\i.natAbs.log2<8000
instance (i:Int):Decidable (Dz i):=inferInstanceAs (Decidable (_/\_))
theorem Dz.ok{i j:Int}(h:Dz j):Ah i j:=by refine⟨h.1,?_⟩;show _<_;have h1:j.natAbs<2 ^ (j.natAbs.log2+1):=Y_;exact VE h1 (WW (by decide) (by have:=h.2;lia))
theorem Dz.of{k:Nat}{i:Int}(h0:i≠0)(h:gP k i)(hk:k<=8000):Dz i:=by refine⟨h0,?_⟩;have h':i.natAbs<2 ^ k:=h;exact VE ((Yx (by lia)).mpr h') hk
def MulOk(i j:Int):Prop:=(Sz i/\Sz j)\/C9 i j
instance (i j:Int):Decidable (C9 i j):=inferInstanceAs (Decidable (_\/_))
instance (i j:Int):Decidable (MulOk i j):=inferInstanceAs (Decidable (_\/_))
instance (i j:Int):Decidable (C8 i j):=inferInstanceAs (Decidable (_/\_/\_))
def g_(k:Nat)(us:List ao):List ao:=(List.replicate k us).flatten
noncomputable def a8:F2
 |.int i,.int j,st=>.ok (.int (i+j)) st
 |.str a,.str b,st=>if a.length+b.length<=sizeLine then .ok (.str (a++b)) st else .bad
 |.tup us,.tup ws,st=>if us.length+ws.length<=sizeLine then .ok (.tup (us++ws)) st else .bad
 |.loc n,.loc m,st=>match st[n]?,st[m]? with
  |some (.lst us),some (.lst ws)=>if us.length+ws.length<=sizeLine then .ok (.loc st.length) (st++[.lst (us++ws)])else .bad
  |_,_=>.bad
 |_,_,_=>.bad
def o7(g:Int->Int->ai->cD ao):F2
 |.int i,.int j,st=>g i j st
 |_,_,_=>.bad
theorem An(g:Int->Int->ai->cD ao)(u w:ao)(st:ai):(∃i j,u=.int i/\w=.int j)\/o7 g u w st=.bad:=by
 cases u with
 |int i=>
  cases w with
  |int j=>exact .inl ⟨i,j,rfl,rfl⟩
  |_=>exact .inr rfl
 |_=>exact .inr rfl
theorem gi{g:Int->Int->ai->cD ao}{W:Wo}{st:ai}{Q:VK}{u w:ao}(h:wR W E (Rl W.K) ρ H Q (o7 g u w st)):∃i j,u=.int i/\w=.int j/\wR W E (Rl W.K) ρ H Q (g i j st):=by
 rcases An g u w st with⟨i,j,rfl,rfl⟩|z
 .exact⟨i,j,rfl,rfl,h⟩
 .rw[z]at h;exact h.elim
def jH:F2:=o7 fun i j st=>.ok (.int (i-j)) st
noncomputable def cu:F2
 |.int i,.int j,st=>if MulOk i j then .ok (.int (i*j)) st else .bad
 |.loc n,.int k,st=>match st[n]? with
  |some (.lst us)=>if -(2 ^ 63)<=k/\k<2 ^ 63/\us.length*k.toNat<=sizeLine then .ok (.loc st.length) (st++[.lst (g_ k.toNat us)])else .bad
  |_=>.bad
 |_,_,_=>.bad
def gv:F2:=o7 fun i j st=>if Dz j then .ok (.int (i.fdiv j)) st else .bad
def dJ:F2:=o7 fun i j st=>if j=0 then .bad else .ok (.int (i.fmod j)) st
def DS:F2:=o7 fun i j st=>if C8 i j then .ok (.int (i ^ j.toNat)) st else .bad
def ltV:F2:=o7 fun i j st=>.ok (.bl (decide (i<j))) st
def Qh:F2:=o7 fun i j st=>.ok (.bl (decide (i<=j))) st
def Gn:F2:=o7 fun i j st=>.ok (.bl (decide (j<i))) st
theorem DT:Tells Qh:=fun u w st=>(An _ u w st).elim (fun⟨_,_,e1,e2⟩=>.inr (by rw[e1,e2];exact⟨_,rfl⟩)) .inl
theorem de{W:Wo}{st:ai}{Q:VK}{i:Int}(sr:SR W.K ρ st H)(h:wR W E (Rl W.K) ρ H Q (.ok (.int i) st)):Q (.int i) H:=h ρ H _ (aD.refl _ _) sr (Rl.mkInt i)
theorem eR{W:Wo}{st:ai}{Q:VK}{i:Bool}(sr:SR W.K ρ st H)(h:wR W E (Rl W.K) ρ H Q (.ok (.bl i) st)):Q (.bl i) H:=h ρ H _ (aD.refl _ _) sr (Rl.BG i)
theorem aY.Mg{K:_R}{us:List ao}{xs:List V}(r:aY K ρ H us xs):∀k:Nat,aY K ρ H (g_ k us) (List.replicate k xs).flatten
 |0=>aY.nil
 |k+1=>by unfold g_;rw[Wk,Wk,Xd,Xd];exact r.append (aY.Mg r k)
theorem DU:dq X (binaryOp .Add) (fun x y H Q=>∃a b ys,x=.ref a/\y=.ref b/\jB X.K H a []/\jB X.K H b ys/\Q (.ref b) H):=by
 intro ag s σ H x y v u Q I rx ry h;obtain⟨a,b,ys,rfl,rfl,ha,hb,q⟩:=h;cases rx;cases ry;obtain⟨aF,r1,p1,_⟩:=I.tuple ha;obtain⟨d?,r2,p2,_⟩:=I.tuple hb;cases r1;obtain⟨⟨cls,dd,data,sl⟩,ho,hc,n,hd⟩:=id p1;obtain⟨⟨TB,RX,data2,Pe⟩,z!,vU,n2,hd2⟩:=id p2;simp only at hc hd vU hd2;subst hc hd vU hd2;exact _v ⟨_,ho,rfl⟩ ⟨_,z!,rfl⟩ Zw _a Yj Yg (Yf _ _)
  (tuple_addW0 a b #[] d?.toArray n n2 dd RX sl Pe (by simp)) ⟨ho,z!,⟨.ref b,H,I,rfl,q⟩⟩
theorem HA:dq X (binaryOp .Add) (rM (wo X) E a8):=by
 refine dq.imp (dq.or K? (dq.or yf (dq.or Lu (dq.or G4 DU)))) ?_;rintro x y H Q ⟨ρ,st,u,w,sr,r1,r2,h⟩;cases u<;>cases w<;>try exact h.elim
 case int.int i j=>exact .inl ⟨i,j,r1.b!,r2.b!,de sr h⟩
 case str.str a b=>
  unfold a8 at h;dsimp only at h;split at h
  .rename_i hz;exact .inr (.inl ⟨a,b,r1.jv,r2.jv,hz,h ρ H _ (aD.refl _ _) sr (Rl.mkStr _)⟩)
  .exact h.elim
 case tup.tup us ws=>
  unfold a8 at h;dsimp only at h;split at h
  .rename_i hz;obtain⟨a,xs,rfl,ha,ra⟩:=r1.gu;obtain⟨b,ys,rfl,hb,rb⟩:=r2.gu;by_cases hx:xs=[]
   .subst hx;have hu:us=[]:=Wi ra.length;subst hu;exact .inr (.inr (.inr (.inr ⟨a,b,ys,rfl,rfl,ha,hb,h ρ H _ (aD.refl _ _) sr r2⟩)))
   .refine .inr (.inr (.inr (.inl ⟨a,b,xs,ys,rfl,rfl,ha,hb,hx,by rw[<-ra.length,<-rb.length];exact hz,fun hy=>?_,fun hy p hp=>?_⟩)))
    .subst hy;have hw:ws=[]:=Wi rb.length;subst hw;rw[VZ]at h;exact h ρ H _ (aD.refl _ _) sr r1
    .have s:=dH (o:=.tup (xs++ys)) hp;exact h ρ _ _ (aD.same s) (sr.grow s) (Rl.p9 bu (aY.mono (aD.same s) _ _ (ra.append rb)))
  .exact h.elim
 case loc.loc n m=>
  unfold a8 at h;dsimp only at h;split at h
  .rename_i us ws e1 e2;split at h
   .rename_i hz;obtain⟨a,rfl,ha⟩:=r1.eO;obtain⟨b,rfl,hb⟩:=r2.eO;obtain⟨xs,h1,q1⟩:=sr.cell n _ a e1 ha;obtain⟨ys,h2,q2⟩:=sr.cell m _ b e2 hb;refine .inr (.inr (.inl ⟨a,b,xs,ys,rfl,rfl,h1,h2,by rw[<-q1.length,<-q2.length];exact hz,fun p hp=>?_⟩));obtain⟨k1,k2,k3⟩:=iw sr (q1.append q2) hp;exact h _ _ _ k1 k2 k3
   .exact h.elim
  .exact h.elim
theorem HB:dq X (binaryOp .Sub) (rM (wo X) E jH):=by refine dq.imp K' ?_;rintro x y H Q ⟨ρ,st,u,w,sr,r1,r2,h⟩;obtain⟨i,j,rfl,rfl,q⟩:=gi h;exact⟨i,j,r1.b!,r2.b!,de sr q⟩
theorem HC:dq X (binaryOp .Mult) (rM (wo X) E cu):=by
 refine dq.imp (dq.or G' (dq.or La Lv)) ?_;rintro x y H Q ⟨ρ,st,u,w,sr,r1,r2,h⟩;cases u<;>cases w<;>try exact h.elim
 case int.int i j=>
  unfold cu at h;dsimp only at h;split at h
  .rename_i hz;rcases hz with hz|hz
   .exact .inl ⟨i,j,r1.b!,r2.b!,hz.1.mul hz.2,de sr h⟩
   .exact .inr (.inl ⟨i,j,r1.b!,r2.b!,hz,de sr h⟩)
  .exact h.elim
 case loc.int n k=>
  unfold cu at h;dsimp only at h;split at h
  .rename_i us e1;split at h
   .rename_i hz;obtain⟨a,rfl,ha⟩:=r1.eO;obtain⟨xs,h1,q1⟩:=sr.cell n _ a e1 ha;refine .inr (.inr ⟨a,k,xs,rfl,r2.b!,h1,hz.1,hz.2.1,by rw[<-q1.length];exact hz.2.2,fun p hp=>?_⟩);obtain⟨k1,k2,k3⟩:=iw sr (q1.Mg k.toNat) hp;exact h _ _ _ k1 k2 k3
   .exact h.elim
  .exact h.elim
theorem DV:dq X (binaryOp .FloorDiv) (rM (wo X) E gv):=by
 refine dq.imp Dr ?_;rintro x y H Q ⟨ρ,st,u,w,sr,r1,r2,h⟩;obtain⟨i,j,rfl,rfl,h0⟩:=gi h;clear h;have h:=h0;clear h0
 .split at h
  .rename_i hz;exact⟨i,j,r1.b!,r2.b!,hz.ok,de sr h⟩
  .exact h.elim
theorem HD:dq X (binaryOp .Mod) (rM (wo X) E dJ):=by
 refine dq.imp GO ?_;rintro x y H Q ⟨ρ,st,u,w,sr,r1,r2,h⟩;obtain⟨i,j,rfl,rfl,h0⟩:=gi h;clear h;have h:=h0;clear h0
 .split at h
  .exact h.elim
  .rename_i hz;exact⟨i,j,r1.b!,r2.b!,hz,de sr h⟩
theorem HE:dq X (binaryOp .Pow) (rM (wo X) E DS):=by
 refine dq.imp Lb ?_;rintro x y H Q ⟨ρ,st,u,w,sr,r1,r2,h⟩;obtain⟨i,j,rfl,rfl,h0⟩:=gi h;clear h;have h:=h0;clear h0
 .split at h
  .rename_i hz;exact⟨i,j,r1.b!,r2.b!,hz,de sr h⟩
  .exact h.elim
theorem Mi:dq X (compareOp .Lt) (rM (wo X) E ltV):=by refine dq.imp O! ?_;rintro x y H Q ⟨ρ,st,u,w,sr,r1,r2,h⟩;obtain⟨i,j,rfl,rfl,q⟩:=gi h;exact⟨i,j,r1.b!,r2.b!,eR sr q⟩
theorem DW:dq X (compareOp .LtE) (rM (wo X) E Qh):=by refine dq.imp O? ?_;rintro x y H Q ⟨ρ,st,u,w,sr,r1,r2,h⟩;obtain⟨i,j,rfl,rfl,q⟩:=gi h;exact⟨i,j,r1.b!,r2.b!,eR sr q⟩
theorem Mj:dq X (compareOp .Gt) (rM (wo X) E Gn):=by refine dq.imp O' ?_;rintro x y H Q ⟨ρ,st,u,w,sr,r1,r2,h⟩;obtain⟨i,j,rfl,rfl,q⟩:=gi h;exact⟨i,j,r1.b!,r2.b!,eR sr q⟩
def jI(m:ME):ME:=fun μ st=>(m μ st).bind fun v av=>match v with
 |.int i=>.ok (.int (-i)) av
 |_=>.bad
theorem Mk{a:Expr}{m:ME}(h:PE X a (tE X E m)):PE X (.UnaryOp .USub a pos) (tE X E (jI m)):=by
 refine PE.imp (O_ Le h) ?_;rintro σ H Q ⟨μ,ρ,st,rs,sr,h⟩;refine go μ ρ st rs sr h fun u a0 ρ1 H1 x e1 cb r1 h1=>?_;cases u with
 |int i=>exact⟨i,r1.b!,de cb h1⟩
 |_=>exact h1.elim
def flat:ao->Bool
 |.dc=>true
 |.bl _=>true
 |.int _=>true
 |.str _=>true
 |_=>false
def Ao:ao->ao->Bool
 |.dc,.dc=>true
 |.bl a,.bl b=>a==b
 |.bl a,.int b=>(if a then 1 else 0)==b
 |.int a,.bl b=>a==(if b then 1 else 0)
 |.int a,.int b=>a==b
 |.str a,.str b=>a==b
 |_,_=>false
def aq(st:ai)(n:Nat):Option (List ao):=match st[n]? with
 |some (.lst us)=>some us
 |some (.J9 us)=>some us
 |some (.mod us)=>some us
 |_=>none
inductive Vw where
 |lst (us:List ao)|tup (us:List ao)|pq
def vw(st:ai):ao->Option Vw
 |.tup us=>some (.tup us)
 |.loc n=>(aq st n).map .lst
 |.dc=>some .pq
 |.bl _=>some .pq
 |.int _=>some .pq
 |.str _=>some .pq
 |_=>none
def jx(f:ao->ao->Option Bool):List ao->List ao->Option Bool
 |[],[]=>some true
 |x::xs,y::ys=>match f x y,jx f xs ys with
  |some a,some b=>some (a&&b)
  |_,_=>none
 |[],_::_=>some false
 |_::_,[]=>some false
def kX:Nat->ai->ao->ao->Option Bool
 |0,_,_,_=>none
 |n+1,st,u,w=>match vw st u,vw st w with
  |some (.tup us),some (.tup ws)=>jx (kX n st) us ws
  |some (.lst us),some (.lst ws)=>jx (kX n st) us ws
  |some .pq,some .pq=>some (Ao u w)
  |some _,some _=>some false
  |_,_=>none
theorem p!{f:ao->ao->Option Bool}:∀{us ws:List ao}{b:Bool},jx f us ws=some b->us.length≠ws.length->b=false
 |[],[],_,_,h=>absurd rfl h
 |[],_::_,b,e,_=>by injection e with e;exact e.symm
 |_::_,[],b,e,_=>by injection e with e;exact e.symm
 |x::xs,y::ys,b,e,h=>by
  unfold jx at e;split at e
  .rename_i a c h1 h2;injection e with e;rw[<-e,p! h2 (fun z=>h (by simp[z])),Bool.and_false]
  .cases e
theorem Aq{f:ao->ao->Option Bool}:∀{us ws:List ao}{b:Bool},jx f us ws=some b->∀(j:Nat)(u w:ao),us[j]?=some u->ws[j]?=some w->∃c,f u w=some c
 |[],_,_,_,j,u,w,h1,_=>by cases h1
 |_::_,[],_,_,j,u,w,_,h2=>by cases h2
 |x::xs,y::ys,b,e,j,u,w,h1,h2=>by
  unfold jx at e;split at e
  .rename_i a c q1 q2;cases j with
   |zero=>cases h1;cases h2;exact⟨a,q1⟩
   |succ j=>exact Aq q2 j u w h1 h2
  .cases e
def Si(f:ao->ao->Option Bool)(us ws:List ao)(j:Nat):Bool:=match us[j]?,ws[j]? with
 |some u,some w=>(f u w).getD true
 |_,_=>true
theorem p?{f:ao->ao->Option Bool}:∀{us ws:List ao}{b:Bool},jx f us ws=some b->us.length=ws.length->(List.range us.length).all (Si f us ws)=b
 |[],[],b,e,_=>by injection e
 |[],_::_,_,_,h=>by simp at h
 |_::_,[],_,_,h=>by simp at h
 |x::xs,y::ys,b,e,h=>by
  have h':xs.length=ys.length:=by simpa using h
  unfold jx at e;split at e
  .rename_i a c q1 q2;injection e with e;rw[Vt,Yn,Xt,List.all_map,<-e,<-p? q2 h'];congr 1;show(f x y).getD true=a;rw[q1];rfl
  .cases e
section
variable{s:_Y}{st:ai}
theorem bp(sr:SR X.K ρ st H){us:List ao}{a:_Z}(h:aq st n=some us)(ha:ρ[n]?=some a):∃vs,nr X.K H a vs/\aY X.K ρ H us vs:=by
 unfold aq at h;split at h
 .rename_i ws e;cases h;obtain⟨vs,h1,h2⟩:=sr.cell n _ a e ha;exact⟨vs,nr.of h1,h2⟩
 .rename_i ws e;cases h;obtain⟨o,vs,h1,h2⟩:=sr.cell n _ a e ha;exact⟨vs,.inl (.inr ⟨o,h1⟩),h2⟩
 .rename_i ws e;cases h;obtain⟨vs,h1,h2⟩:=sr.cell n _ a e ha;exact⟨vs,.inr h1,h2⟩
 .cases h
theorem Ar(I:aM X ag σ H s)(sr:SR X.K ρ st H):∀(n:Nat)(u w:ao)(x:V)(b:Bool),Rl X.K ρ H u x->Rl X.K ρ H w x->kX n st u w=some b->b=true
 |0,_,_,_,_,_,_,e=>by cases e
 |n+1,u,w,x,b,r1,r2,e=>by
  have lst:∀(us ws:List ao)(vs:List V)(b:Bool),aY X.K ρ H us vs->aY X.K ρ H ws vs->jx (kX n st) us ws=some b->b=true:=by
   intro us
   induction us with
   |nil=>
    intro ws vs b h1 h2 e;have:=h1.fF;subst this;have hw:ws=[]:=Wi h2.length;subst hw;injection e with e;exact e.symm
   |cons u us ih=>
    intro ws vs b h1 h2 e;obtain⟨v,r,rfl,q1,q2⟩:=h1.cQ;cases ws with
    |nil=>have:=h2.fF;cases this
    |cons w ws=>
     obtain⟨v',r',e',q3,q4⟩:=h2.cQ;cases e';unfold jx at e;split at e
     .rename_i a c z1 z2;injection e with e;rw[<-e,Ar I sr n u w v a q1 q3 z1,ih ws r c q2 q4 z2];rfl
     .cases e
  unfold kX at e;cases u<;>cases w<;>dsimp only[vw]at e<;>try (cases e;done)
  all_goals first
   |(have z1:=Rl.b! r1;subst z1;have z2:=Rl.b! r2;cases z2;injection e with e;rw[<-e];exact WG _)
   |(have z1:=Rl.p8 r1;subst z1;have z2:=Rl.p8 r2;cases z2;injection e with e;rw[<-e];exact WG _)
   |(have z1:=Rl.jv r1;subst z1;have z2:=Rl.jv r2;cases z2;injection e with e;rw[<-e];exact WG _)
   |(have z1:=Rl.jw r1;subst z1;injection e with e;exact e.symm)
   |skip
  case tup.tup us ws=>
   obtain⟨a,vs,rfl,ha,ra⟩:=r1.gu;obtain⟨a',yw,ea,hb,rb⟩:=r2.gu;cases ea;have:=I.ny ha hb;subst this;exact lst us ws vs b ra rb e
  case loc.loc i j=>
   obtain⟨a,rfl,ha⟩:=r1.eO;obtain⟨a',ea,hb⟩:=r2.eO;cases ea;cases z:aq st i with
   |none=>rw[z]at e;cases e
   |some us=>
    cases z2:aq st j with
    |none=>rw[z,z2]at e;cases e
    |some ws=>
     rw[z,z2]at e;obtain⟨vs,s1,rv⟩:=bp sr z ha;obtain⟨yw,s2,Uh⟩:=bp sr z2 hb;have:=I.pO s1 s2;subst this;exact lst us ws vs b rv Uh e
  all_goals (exfalso;first
   |(have z1:=Rl.b! r1;subst z1;first|(have z2:=Rl.p8 r2;cases z2;done)|(have z2:=Rl.jv r2;cases z2;done)|(have z2:=Rl.jw r2;cases z2;done)|(obtain⟨_,_,z2,_⟩:=r2.gu;cases z2;done)|(obtain⟨_,z2,_⟩:=r2.eO;cases z2;done))
   |(have z1:=Rl.p8 r1;subst z1;first|(have z2:=Rl.b! r2;cases z2;done)|(have z2:=Rl.jv r2;cases z2;done)|(have z2:=Rl.jw r2;cases z2;done)|(obtain⟨_,_,z2,_⟩:=r2.gu;cases z2;done)|(obtain⟨_,z2,_⟩:=r2.eO;cases z2;done))
   |(have z1:=Rl.jv r1;subst z1;first|(have z2:=Rl.b! r2;cases z2;done)|(have z2:=Rl.p8 r2;cases z2;done)|(have z2:=Rl.jw r2;cases z2;done)|(obtain⟨_,_,z2,_⟩:=r2.gu;cases z2;done)|(obtain⟨_,z2,_⟩:=r2.eO;cases z2;done))
   |(have z1:=Rl.jw r1;subst z1;first|(have z2:=Rl.b! r2;cases z2;done)|(have z2:=Rl.p8 r2;cases z2;done)|(have z2:=Rl.jv r2;cases z2;done)|(obtain⟨_,_,z2,_⟩:=r2.gu;cases z2;done)|(obtain⟨_,z2,_⟩:=r2.eO;cases z2;done))
   |(obtain⟨_,_,z1,_⟩:=r1.gu;subst z1;first|(have z2:=Rl.b! r2;cases z2;done)|(have z2:=Rl.p8 r2;cases z2;done)|(have z2:=Rl.jv r2;cases z2;done)|(have z2:=Rl.jw r2;cases z2;done))
   |(obtain⟨_,z1,_⟩:=r1.eO;subst z1;first|(have z2:=Rl.b! r2;cases z2;done)|(have z2:=Rl.p8 r2;cases z2;done)|(have z2:=Rl.jv r2;cases z2;done)|(have z2:=Rl.jw r2;cases z2;done))
   |skip)
  case tup.loc us j=>
   obtain⟨a,vs,rfl,ha,ra⟩:=r1.gu;obtain⟨a',ea,hb⟩:=r2.eO;cases ea;cases z:aq st j with
   |none=>rw[z]at e;cases e
   |some As=>
    obtain⟨ws,hw,_⟩:=bp sr z hb;obtain⟨_,_,p1,_⟩:=I.tuple ha;obtain⟨_,_,p2,_⟩:=I.list hw;exact _w p2.isList p1 rfl
  case loc.tup i us=>
   obtain⟨a,rfl,ha⟩:=r1.eO;obtain⟨a',vs,ea,hb,rb⟩:=r2.gu;cases ea;cases z:aq st i with
   |none=>rw[z]at e;cases e
   |some As=>
    obtain⟨ws,hw,_⟩:=bp sr z ha;obtain⟨_,_,p1,_⟩:=I.tuple hb;obtain⟨_,_,p2,_⟩:=I.list hw;exact _w p2.isList p1 rfl
  all_goals (cases z:aq st _<;>rw[z]at e<;>cases e)
def DX(X:Cx)(ρ:_V)(H:Hp)(s:_Y):Vw->ao->_X->Prop
 |.tup us,_,v=>∃a aF vs,v=.ref a/\s.heap.IsTuple a (List.toArray aF)/\bf vs aF/\aY X.K ρ H us vs
 |.lst us,_,v=>∃a aF vs,v=.ref a/\s.heap.IsList a (List.toArray aF)/\bf vs aF/\aY X.K ρ H us vs
 |.pq,u,v=>(u=.dc/\v=.none)\/(∃b,u=.bl b/\v=.bool b)\/(∃i t,u=.int i/\v=.int i t)\/(∃z t,u=.str z/\v=.str z t)
theorem seen(I:aM X ag σ H s)(sr:SR X.K ρ st H){u:ao}{x:V}{v:_X}{k:Vw}(r:Rl X.K ρ H u x)(q:bo x v)(h:vw st u=some k):DX X ρ H s k u v:=by
 cases u with
 |dc=>cases h;have:=r.jw;subst this;exact .inl ⟨rfl,q⟩
 |bl b=>cases h;have:=r.p8;subst this;exact .inr (.inl ⟨b,rfl,q⟩)
 |int i=>cases h;have:=r.b!;subst this;obtain⟨t,q⟩:=q;exact .inr (.inr (.inl ⟨i,t,rfl,q⟩))
 |str z=>cases h;have:=r.jv;subst this;obtain⟨t,q⟩:=q;exact .inr (.inr (.inr ⟨z,t,rfl,q⟩))
 |tup us=>
  cases h;obtain⟨a,vs,rfl,ha,ra⟩:=r.gu;obtain⟨aF,r1,p1,_⟩:=I.tuple ha;exact⟨a,aF,vs,q,p1,r1,ra⟩
 |loc n=>
  obtain⟨a,rfl,ha⟩:=r.eO;cases z:aq st n with
  |none=>simp only[vw,z]at h;cases h
  |some us=>
   simp only[vw,z]at h;cases h;obtain⟨vs,hs,rv⟩:=bp sr z ha;obtain⟨aF,r1,p1,_⟩:=I.list hs;exact⟨a,aF,vs,q,p1.isList,r1,rv⟩
 |exc c=>cases h
 |fn k c=>cases h
 |mt us=>cases h
theorem DY{f:ao->ao->Option Bool}{us ws:List ao}{xs ys:List V}{d?:_T}{b:Bool}(e:jx f us ws=some b)(ra:aY X.K ρ H us xs)(rb:aY X.K ρ H ws ys)(va:bf xs aF)(vb:bf ys d?)(ih:∀u w x y vu vw c,Rl X.K ρ H u x->bo x vu->Rl X.K ρ H w y->bo y vw->f u w=some c->SeqAt.EqAt A s vu vw c):
  ∀j(h1:j<aF.toArray.size)(h2:j<d?.toArray.size),SeqAt.EqAt A s aF.toArray[j] d?.toArray[j] (Si f us ws j):=by
 intro j h1 h2;have l1:=va.length;have l2:=vb.length;have l3:=ra.length;have l4:=rb.length;simp only[VC]at h1 h2;have e1:us[j]?=some us[j]:=Vp (by lia);have e2:ws[j]?=some ws[j]:=Vp (by lia);obtain⟨x,hx,rx⟩:=ra.get e1;obtain⟨y,hy,ry⟩:=rb.get e2;obtain⟨u,hu,ru⟩:=va.get hx;obtain⟨v,hv,rv⟩:=vb.get hy;have q1:aF.toArray[j]=u:=by obtain⟨_,e⟩:=V_.mp hu;simpa using e
 have q2:d?.toArray[j]=v:=by obtain⟨_,e⟩:=V_.mp hv;simpa using e
 obtain⟨c,hc⟩:=Aq e j _ _ e1 e2;rw[q1,q2];unfold Si;rw[e1,e2];dsimp only;rw[hc];exact ih _ _ _ _ _ _ c rx ru ry rv hc
theorem in1_units(A:_0):A.in1.units=A.units+1:=by rfl
theorem Ml(I:aM X ag σ H s)(sr:SR X.K ρ st H)(n:Nat)(ih:∀u w x y vu vw c,Rl X.K ρ H u x->bo x vu->Rl X.K ρ H w y->bo y vw->kX n st u w=some c->SeqAt.EqAt A.in1 s vu vw c)(hu:A.units<cLine){u w:ao}{x y:V}{v1 v2:_X}{b:Bool}(r1:Rl X.K ρ H u x)(q1:bo x v1)(r2:Rl X.K ρ H w y)(q2:bo y v2)(e:kX (n+1) st u w=some b):SeqAt.RcAt A s v1 v2 b/\SeqAt.RcNeAt A s v1 v2 (!b):=by
 unfold kX at e;cases z1:vw st u with
 |none=>rw[z1]at e;cases e
 |some k1=>
  cases z2:vw st w with
  |none=>rw[z1,z2]at e;cases k1<;>cases e
  |some k2=>
   rw[z1,z2]at e;have s1:=seen I sr r1 q1 z1;have s2:=seen I sr r2 q2 z2;cases k1 with
   |tup us=>
    obtain⟨a,aF,xs,rfl,p1,va,ra⟩:=s1;cases k2 with
    |tup ws=>
     obtain⟨a2,d?,ys,rfl,p2,vb,rb⟩:=s2;have el:=DY e ra rb va vb ih;have l1:=va.length;have l2:=vb.length;have l3:=ra.length;have l4:=rb.length;have hb:((List.range (min aF.toArray.size d?.toArray.size)).all (Si (kX n st) us ws)&&aF.toArray.size==d?.toArray.size)=b:=by
      by_cases hl:us.length=ws.length
      .rw[show min aF.toArray.size d?.toArray.size=us.length by simp only[VC];lia,p? e hl,show(aF.toArray.size==d?.toArray.size)=true by simp only[VC,Wr];lia,Bool.and_true]
      .rw[show(aF.toArray.size==d?.toArray.size)=false by simp only[VC,V9];lia,Bool.and_false];exact(p! e hl).symm
     have g1:=SeqAt.RcAt.tuples p1 p2 hu el;have g2:=SeqAt.RcNeAt.tuples p1 p2 hu el;rw[hb]at g1 g2;exact⟨g1,g2⟩
    |lst ws=>
     obtain⟨a2,d?,ys,rfl,p2,vb,rb⟩:=s2;cases e;exact⟨SeqAt.RcAt.tuple_list p1 p2 hu,SeqAt.RcNeAt.tuple_list p1 p2 hu⟩
    |pq=>
     cases e;rcases s2 with⟨_,rfl⟩|⟨k,_,rfl⟩|⟨k,t,_,rfl⟩|⟨k,t,_,rfl⟩
     .exact⟨SeqAt.RcAt.tuple_none p1 hu,SeqAt.RcNeAt.tuple_none p1 hu⟩
     .exact⟨SeqAt.RcAt.tuple_bool _ p1 hu,SeqAt.RcNeAt.tuple_bool _ p1 hu⟩
     .exact⟨SeqAt.RcAt.tuple_int _ _ p1 hu,SeqAt.RcNeAt.tuple_int _ _ p1 hu⟩
     .exact⟨SeqAt.RcAt.tuple_str _ _ p1 hu,SeqAt.RcNeAt.tuple_str _ _ p1 hu⟩
   |lst us=>
    obtain⟨a,aF,xs,rfl,p1,va,ra⟩:=s1;cases k2 with
    |tup ws=>
     obtain⟨a2,d?,ys,rfl,p2,vb,rb⟩:=s2;cases e;exact⟨SeqAt.RcAt.list_tuple p1 p2 hu,SeqAt.RcNeAt.list_tuple p1 p2 hu⟩
    |lst ws=>
     obtain⟨a2,d?,ys,rfl,p2,vb,rb⟩:=s2;have l1:=va.length;have l2:=vb.length;have l3:=ra.length;have l4:=rb.length;by_cases hl:us.length=ws.length
     .have hs:aF.toArray.size=d?.toArray.size:=by simp only[VC];lia
      have el:=DY e ra rb va vb ih;have g1:=SeqAt.RcAt.lists p1 p2 hs hu el;have g2:=SeqAt.RcNeAt.lists p1 p2 hs hu el;rw[show aF.toArray.size=us.length by simp only[VC];lia,p? e hl]at g1 g2;exact⟨g1,g2⟩
     .have hs:(aF.toArray.size !=d?.toArray.size)=true:=by simp only[VC,bne_iff_ne];lia
      rw[p! e hl];exact⟨SeqAt.RcAt.lists_lengths p1 p2 hs hu,SeqAt.RcNeAt.lists_lengths p1 p2 hs hu⟩
    |pq=>
     cases e;rcases s2 with⟨_,rfl⟩|⟨k,_,rfl⟩|⟨k,t,_,rfl⟩|⟨k,t,_,rfl⟩
     .exact⟨SeqAt.RcAt.list_none p1 hu,SeqAt.RcNeAt.list_none p1 hu⟩
     .exact⟨SeqAt.RcAt.list_bool _ p1 hu,SeqAt.RcNeAt.list_bool _ p1 hu⟩
     .exact⟨SeqAt.RcAt.list_int _ _ p1 hu,SeqAt.RcNeAt.list_int _ _ p1 hu⟩
     .exact⟨SeqAt.RcAt.list_str _ _ p1 hu,SeqAt.RcNeAt.list_str _ _ p1 hu⟩
   |pq=>
    cases k2 with
    |tup ws=>
     obtain⟨a2,d?,ys,rfl,p2,vb,rb⟩:=s2;cases e;rcases s1 with⟨_,rfl⟩|⟨k,_,rfl⟩|⟨k,t,_,rfl⟩|⟨k,t,_,rfl⟩
     .exact⟨SeqAt.RcAt.none_tuple p2 hu,SeqAt.RcNeAt.none_tuple p2 hu⟩
     .exact⟨SeqAt.RcAt.bool_tuple _ p2 hu,SeqAt.RcNeAt.bool_tuple _ p2 hu⟩
     .exact⟨SeqAt.RcAt.int_tuple _ _ p2 hu,SeqAt.RcNeAt.int_tuple _ _ p2 hu⟩
     .exact⟨SeqAt.RcAt.str_tuple _ _ p2 hu,SeqAt.RcNeAt.str_tuple _ _ p2 hu⟩
    |lst ws=>
     obtain⟨a2,d?,ys,rfl,p2,vb,rb⟩:=s2;cases e;rcases s1 with⟨_,rfl⟩|⟨k,_,rfl⟩|⟨k,t,_,rfl⟩|⟨k,t,_,rfl⟩
     .exact⟨SeqAt.RcAt.none_list p2 hu,SeqAt.RcNeAt.none_list p2 hu⟩
     .exact⟨SeqAt.RcAt.bool_list _ p2 hu,SeqAt.RcNeAt.bool_list _ p2 hu⟩
     .exact⟨SeqAt.RcAt.int_list _ _ p2 hu,SeqAt.RcNeAt.int_list _ _ p2 hu⟩
     .exact⟨SeqAt.RcAt.str_list _ _ p2 hu,SeqAt.RcNeAt.str_list _ _ p2 hu⟩
    |pq=>
     injection e with e;subst e;rcases s1 with⟨rfl,rfl⟩|⟨i,rfl,rfl⟩|⟨i,t,rfl,rfl⟩|⟨i,t,rfl,rfl⟩<;>rcases s2 with⟨rfl,rfl⟩|⟨j,rfl,rfl⟩|⟨j,t',rfl,rfl⟩|⟨j,t',rfl,rfl⟩
     .exact⟨SeqAt.RcAt.none_none,SeqAt.RcNeAt.none_none⟩
     .exact⟨SeqAt.RcAt.none_bool _,SeqAt.RcNeAt.none_bool _⟩
     .exact⟨SeqAt.RcAt.none_int _ _,SeqAt.RcNeAt.none_int _ _⟩
     .exact⟨SeqAt.RcAt.none_str _ _,SeqAt.RcNeAt.none_str _ _⟩
     .exact⟨SeqAt.RcAt.bool_none _,SeqAt.RcNeAt.bool_none _⟩
     .exact⟨SeqAt.RcAt.bool_bool _ _,SeqAt.RcNeAt.bool_bool _ _⟩
     .exact⟨SeqAt.RcAt.bool_int _ _ _,SeqAt.RcNeAt.bool_int _ _ _⟩
     .exact⟨SeqAt.RcAt.bool_str _ _ _,SeqAt.RcNeAt.bool_str _ _ _⟩
     .exact⟨SeqAt.RcAt.int_none _ _,SeqAt.RcNeAt.int_none _ _⟩
     .exact⟨SeqAt.RcAt.int_bool _ _ _,SeqAt.RcNeAt.int_bool _ _ _⟩
     .exact⟨SeqAt.RcAt.int_int _ _ _ _,SeqAt.RcNeAt.int_int _ _ _ _⟩
     .exact⟨SeqAt.RcAt.int_str _ _ _ _,SeqAt.RcNeAt.int_str _ _ _ _⟩
     .exact⟨SeqAt.RcAt.str_none _ _,SeqAt.RcNeAt.str_none _ _⟩
     .exact⟨SeqAt.RcAt.str_bool _ _ _,SeqAt.RcNeAt.str_bool _ _ _⟩
     .exact⟨SeqAt.RcAt.str_int _ _ _ _,SeqAt.RcNeAt.str_int _ _ _ _⟩
     .exact⟨SeqAt.RcAt.str_str _ _ _ _,SeqAt.RcNeAt.str_str _ _ _ _⟩
theorem HF{u w:ao}{v1 v2:_X}(s1:DX X ρ H s .pq u v1)(s2:DX X ρ H s .pq w v2):SeqAt.EqAt A s v1 v2 (Ao u w):=by
 rcases s1 with⟨rfl,rfl⟩|⟨i,rfl,rfl⟩|⟨i,t,rfl,rfl⟩|⟨i,t,rfl,rfl⟩<;>rcases s2 with⟨rfl,rfl⟩|⟨j,rfl,rfl⟩|⟨j,t',rfl,rfl⟩|⟨j,t',rfl,rfl⟩
 .exact ZK _
 .exact SeqAt.EqAt.none_bool _
 .exact SeqAt.EqAt.none_int _ _
 .exact SeqAt.EqAt.none_str _ _
 .exact SeqAt.EqAt.bool_none _
 .exact SeqAt.EqAt.bool_bool _ _
 .exact SeqAt.EqAt.bool_int _ _ _
 .exact SeqAt.EqAt.bool_str _ _ _
 .exact SeqAt.EqAt.int_none _ _
 .exact SeqAt.EqAt.int_bool _ _ _
 .exact SeqAt.EqAt.int_int _ _ _ _
 .exact Zj _ _ _ _
 .exact SeqAt.EqAt.str_none _ _
 .exact SeqAt.EqAt.str_bool _ _ _
 .exact Zi _ _ _ _
 .exact SeqAt.EqAt.str_str _ _ _ _
theorem yy(I:aM X ag σ H s)(sr:SR X.K ρ st H):∀(n:Nat)(A:_0),A.units+n<cLine->∀(u w:ao)(x y:V)(v1 v2:_X)(b:Bool),Rl X.K ρ H u x->bo x v1->Rl X.K ρ H w y->bo y v2->kX n st u w=some b->SeqAt.EqAt A s v1 v2 b
 |0,_,_,_,_,_,_,_,_,_,_,_,_,_,e=>by cases e
 |n+1,A,hu,u,w,x,y,v1,v2,b,r1,q1,r2,q2,e=>by
  have rc:=(Ml I sr n (fun u w x y vu vw c a1 a2 a3 a4 a5=>yy I sr n A.in1 (by rw[in1_units];lia) u w x y vu vw c a1 a2 a3 a4 a5) (by lia) r1 q1 r2 q2 e).1;have refs:∀a a2,v1=.ref a->v2=.ref a2->SeqAt.EqAt A s v1 v2 b:=by
   intro a a2 e1 e2;subst e1 e2;by_cases hn:a=a2
   .subst hn;have hx:x=y:=q1.inj q2;subst hx;rw[Ar I sr (n+1) u w x b r1 r2 e];exact ZK _
   .exact SeqAt.EqAt.of_refs hn rc
  cases z1:vw st u with
  |none=>unfold kX at e;rw[z1]at e;cases e
  |some k1=>
   cases z2:vw st w with
   |none=>unfold kX at e;rw[z1,z2]at e;cases k1<;>cases e
   |some k2=>
    have s1:=seen I sr r1 q1 z1;have s2:=seen I sr r2 q2 z2;unfold kX at e;rw[z1,z2]at e;cases k1 with
    |tup us=>
     obtain⟨a,aF,xs,rfl,p1,va,ra⟩:=s1;cases k2 with
     |tup ws=>obtain⟨a2,d?,ys,rfl,p2,vb,rb⟩:=s2;exact refs a a2 rfl rfl
     |lst ws=>obtain⟨a2,d?,ys,rfl,p2,vb,rb⟩:=s2;exact refs a a2 rfl rfl
     |pq=>
      cases e;rcases s2 with⟨_,rfl⟩|⟨k,_,rfl⟩|⟨k,t,_,rfl⟩|⟨k,t,_,rfl⟩
      .exact SeqAt.EqAt.tuple_none p1 (by lia)
      .exact SeqAt.EqAt.tuple_bool _ p1 (by lia)
      .exact SeqAt.EqAt.tuple_int _ _ p1 (by lia)
      .exact SeqAt.EqAt.tuple_str _ _ p1 (by lia)
    |lst us=>
     obtain⟨a,aF,xs,rfl,p1,va,ra⟩:=s1;cases k2 with
     |tup ws=>obtain⟨a2,d?,ys,rfl,p2,vb,rb⟩:=s2;exact refs a a2 rfl rfl
     |lst ws=>obtain⟨a2,d?,ys,rfl,p2,vb,rb⟩:=s2;exact refs a a2 rfl rfl
     |pq=>
      cases e;rcases s2 with⟨_,rfl⟩|⟨k,_,rfl⟩|⟨k,t,_,rfl⟩|⟨k,t,_,rfl⟩
      .exact SeqAt.EqAt.list_none p1 (by lia)
      .exact SeqAt.EqAt.list_bool _ p1 (by lia)
      .exact SeqAt.EqAt.list_int _ _ p1 (by lia)
      .exact SeqAt.EqAt.list_str _ _ p1 (by lia)
    |pq=>
     cases k2 with
     |tup ws=>
      obtain⟨a2,d?,ys,rfl,p2,vb,rb⟩:=s2;cases e;rcases s1 with⟨_,rfl⟩|⟨k,_,rfl⟩|⟨k,t,_,rfl⟩|⟨k,t,_,rfl⟩
      .exact SeqAt.EqAt.none_tuple p2 (by lia)
      .exact SeqAt.EqAt.bool_tuple _ p2 (by lia)
      .exact SeqAt.EqAt.int_tuple _ _ p2 (by lia)
      .exact SeqAt.EqAt.str_tuple _ _ p2 (by lia)
     |lst ws=>
      obtain⟨a2,d?,ys,rfl,p2,vb,rb⟩:=s2;cases e;rcases s1 with⟨_,rfl⟩|⟨k,_,rfl⟩|⟨k,t,_,rfl⟩|⟨k,t,_,rfl⟩
      .exact SeqAt.EqAt.none_list p2 (by lia)
      .exact SeqAt.EqAt.bool_list _ p2 (by lia)
      .exact SeqAt.EqAt.int_list _ _ p2 (by lia)
      .exact SeqAt.EqAt.str_list _ _ p2 (by lia)
     |pq=>
      injection e with e;subst e;exact HF s1 s2
def fZ:F2:=fun u w st=>match kX 16 st u w with
 |some b=>.ok (.bl b) st
 |none=>.bad
def jJ:F2:=fun u w st=>match kX 16 st u w with
 |some b=>.ok (.bl (!b)) st
 |none=>.bad
theorem DZ(hu:X.A.units+64<cLine):dq X (compareOp .Eq) (rM (wo X) E fZ):=by
 intro ag s σ H x y v u Q I rx ry h;obtain⟨ρ,st,u1,w1,sr,r1,r2,h⟩:=h;unfold fZ at h;split at h
 .rename_i b e;exact(Ml I sr 15 (yy I sr 15 X.A.in1 (by rw[in1_units];lia)) (by lia) r1 rx r2 ry e).1 X.prog X.w X.xe (EP X ag σ Q) ⟨.bl b,H,I,rfl,eR sr h⟩
 .exact h.elim
theorem D0(hu:X.A.units+64<cLine):dq X (compareOp .NotEq) (rM (wo X) E jJ):=by
 intro ag s σ H x y v u Q I rx ry h;obtain⟨ρ,st,u1,w1,sr,r1,r2,h⟩:=h;unfold jJ at h;split at h
 .rename_i b e;exact(Ml I sr 15 (yy I sr 15 X.A.in1 (by rw[in1_units];lia)) (by lia) r1 rx r2 ry e).2 X.prog X.w X.xe (EP X ag σ Q) ⟨.bl (!b),H,I,rfl,eR sr h⟩
 .exact h.elim
def J?(st:ai):ao->Option (List ao)
 |.tup us=>some us
 |.mt us=>some us
 |.loc n=>aq st n
 |_=>none
def Mn(neg:Bool):F2:=fun u w st=>match J? st w with
 |some us=>if flat u=true/\us.all flat=true then .ok (.bl (if neg then !us.any (fun y=>Ao y u)else us.any (fun y=>Ao y u))) st else .bad
 |none=>.bad
theorem g!{K:_R}{u w:ao}{x y:V}(f1:flat u=true)(f2:flat w=true)(r1:Rl K ρ H u x)(r2:Rl K ρ H w y):gn x=true/\gn y=true/\uD x y=Ao u w:=by
 cases u<;>(try cases f1)<;>cases w<;>(try cases f2)<;>
  (first|(have z1:=Rl.b! r1;subst z1)|(have z1:=Rl.p8 r1;subst z1)|(have z1:=Rl.jv r1;subst z1)|(have z1:=Rl.jw r1;subst z1))<;>
  (first|(have z2:=Rl.b! r2;subst z2)|(have z2:=Rl.p8 r2;subst z2)|(have z2:=Rl.jv r2;subst z2)|(have z2:=Rl.jw r2;subst z2))<;>exact⟨rfl,rfl,rfl⟩
theorem l!{K:_R}{u:ao}{x:V}(f:flat u=true)(r:Rl K ρ H u x):∀{us:List ao}{vs:List V},us.all flat=true->aY K ρ H us vs->vs.all gn=true/\RZ x vs=us.any fun y=>Ao y u
 |[],vs,_,h=>by rw[h.fF];exact⟨rfl,rfl⟩
 |w::us,vs,hf,h=>by obtain⟨v,r',rfl,h2,h3⟩:=h.cQ;rw[Xt,Wv]at hf;obtain⟨a,b,c⟩:=g! hf.1 f h2 r;obtain⟨d,e⟩:=l! f r hf.2 h3;refine⟨by rw[Xt,a,d];rfl,?_⟩;show(uD v x || RZ x r')=_;rw[c,e];rfl
theorem HG{neg:Bool}{x y:V}{H:Hp}{Q:VK}(h:rM (wo X) E (Mn neg) x y H Q):rIn X.K neg x y H Q:=by
 obtain⟨ρ,st,u,w,sr,r1,r2,h⟩:=h;unfold Mn at h;split at h
 .rename_i us e;split at h
  .rename_i hz;cases w with
   |tup ws=>
    cases e;obtain⟨a,vs,rfl,ha,ra⟩:=r2.gu;obtain⟨q1,q2⟩:=l! hz.1 r1 hz.2 ra;refine⟨a,vs,rfl,.inr ha,(g! hz.1 hz.1 r1 r1).1,q1,?_⟩;rw[q2];exact eR sr h
   |mt ws=>
    cases e;obtain⟨a,vs,rfl,ha,ra⟩:=r2.mt_;obtain⟨q1,q2⟩:=l! hz.1 r1 hz.2 ra;refine⟨a,vs,rfl,.inr ha,(g! hz.1 hz.1 r1 r1).1,q1,?_⟩;rw[q2];exact eR sr h
   |loc n=>
    obtain⟨a,rfl,ha⟩:=r2.eO;obtain⟨vs,hs,ra⟩:=bp sr e ha;obtain⟨q1,q2⟩:=l! hz.1 r1 hz.2 ra;refine⟨a,vs,rfl,.inl hs,(g! hz.1 hz.1 r1 r1).1,q1,?_⟩;rw[q2];exact eR sr h
   |_=>cases e
  .exact h.elim
 .exact h.elim
theorem Mo:dq X (compareOp .In) (rM (wo X) E (Mn false)):=dq.imp Bo fun _ _ _ _ h=>HG h
def Sj(neg:Bool):F2
 |.dc,.dc,st=>.ok (.bl (!neg)) st
 |.bl a,.bl b,st=>.ok (.bl (if neg then a !=b else a==b)) st
 |.int _,.dc,st=>.ok (.bl neg) st
 |.bl _,.dc,st=>.ok (.bl neg) st
 |.str _,.dc,st=>.ok (.bl neg) st
 |.tup _,.dc,st=>.ok (.bl neg) st
 |.loc _,.dc,st=>.ok (.bl neg) st
 |_,_,_=>.bad
theorem wz:dq X (compareOp .IsNot) (fun x y H Q=>∃a b,x=.bl a/\y=.bl b/\Q (.bl (a !=b)) H):=by rintro ag s σ H x y v u Q I rx ry ⟨a,b,rfl,rfl,q⟩;cases rx;cases ry;exact isnot_bool ⟨.bl _,H,I,rfl,q⟩
theorem BH:dq X (compareOp .IsNot) (rM (wo X) E (Sj true)):=by
 refine dq.imp (dq.or GQ wz) ?_;rintro x y H Q ⟨ρ,st,u,w,sr,r1,r2,h⟩;cases u<;>cases w<;>try exact h.elim
 case bl.bl a b=>exact .inr ⟨a,b,r1.p8,r2.p8,eR sr h⟩
 case dc.dc=>exact .inl ⟨r2.jw,by rw[r1.jw];exact eR sr h⟩
 case int.dc i=>exact .inl ⟨r2.jw,by rw[r1.b!];exact eR sr h⟩
 case bl.dc i=>exact .inl ⟨r2.jw,by rw[r1.p8];exact eR sr h⟩
 case str.dc i=>exact .inl ⟨r2.jw,by rw[r1.jv];exact eR sr h⟩
 case tup.dc i=>obtain⟨a,vs,rfl,_⟩:=r1.gu;exact .inl ⟨r2.jw,eR sr h⟩
 case loc.dc i=>obtain⟨a,rfl,_⟩:=r1.eO;exact .inl ⟨r2.jw,eR sr h⟩
end
def cw:F2
 |.tup us,.int i,st=>match rN us i with
  |some v=>.ok v st
  |none=>.bad
 |.loc n,.int i,st=>match aq st n with
  |some us=>match rN us i with
   |some v=>.ok v st
   |none=>.bad
  |none=>.bad
 |.str z,.int i,st=>if z.length<=sizeLine then(match rN z.cps.toList i with
   |some c=>.ok (.str ⟨#[c]⟩) st
   |none=>.bad)else .bad
 |_,_,_=>.bad
theorem aY.rN{K:_R}{us:List ao}{vs:List V}{i:Int}{u:ao}(r:aY K ρ H us vs)(h:rN us i=some u):∃v,L2.rN vs i=some v/\Rl K ρ H u v:=by
 unfold L2.rN at h⊢;rw[<-r.length];cases z:Lo us.length i with
 |none=>rw[z]at h;cases h
 |some j=>
  rw[z]at h;obtain⟨v,h1,h2⟩:=r.get (show us[j]?=some u from h);exact⟨v,h1,h2⟩
theorem Us:xY X (rM (wo X) E cw):=by
 refine xY.imp (xY.or G6 (xY.or uB Lp)) ?_;rintro x y H Q ⟨ρ,st,u,w,sr,r1,r2,h⟩;cases u<;>cases w<;>try exact h.elim
 case tup.int us i=>
  unfold cw at h;dsimp only at h;split at h
  .rename_i v e;obtain⟨a,vs,rfl,ha,ra⟩:=r1.gu;obtain⟨z,h1,h2⟩:=ra.rN e;exact .inr (.inl ⟨a,vs,i,z,rfl,r2.b!,ha,h1,h ρ H z (aD.refl _ _) sr h2⟩)
  .exact h.elim
 case loc.int n i=>
  unfold cw at h;dsimp only at h;split at h
  .rename_i us e;split at h
   .rename_i v e';obtain⟨a,rfl,ha⟩:=r1.eO;obtain⟨vs,hs,rv⟩:=bp sr e ha;obtain⟨z,h1,h2⟩:=rv.rN e';exact .inl ⟨a,vs,i,z,rfl,r2.b!,hs,h1,h ρ H z (aD.refl _ _) sr h2⟩
   .exact h.elim
  .exact h.elim
 case str.int z i=>
  unfold cw at h;dsimp only at h;split at h
  .rename_i hz;split at h
   .rename_i c e;exact .inr (.inr ⟨z,i,c,r1.jv,r2.b!,hz,e,h ρ H _ (aD.refl _ _) sr (Rl.mkStr _)⟩)
   .exact h.elim
  .exact h.elim
def fe:FN
 |[.tup us],st=>.ok (.int us.length) st
 |[.loc n],st=>match aq st n with
  |some us=>.ok (.int us.length) st
  |none=>.bad
 |[.str z],st=>if z.length<=sizeLine then .ok (.int z.length) st else .bad
 |_,_=>.bad
theorem BI:cm X (.builtin "len") (cM (wo X) E fe):=by
 refine cm.imp (cm.or uG uH) ?_;rintro xs H Q ⟨ρ,st,us,sr,r,h⟩
 match us,r,h with
 |[],_,h=>exact h.elim
 |[.tup ws],r,h=>
  obtain⟨v,rfl,r1⟩:=r.yr;obtain⟨a,vs,rfl,ha,ra⟩:=r1.gu;refine .inl ⟨a,vs,rfl,.inr ha,?_⟩;rw[<-ra.length];exact de sr h
 |[.loc n],r,h=>
  obtain⟨v,rfl,r1⟩:=r.yr;obtain⟨a,rfl,ha⟩:=r1.eO;unfold fe at h;dsimp only at h;split at h
  .rename_i ws e;obtain⟨vs,hs,rv⟩:=bp sr e ha;refine .inl ⟨a,vs,rfl,.inl hs,?_⟩;rw[<-rv.length];exact de sr h
  .exact h.elim
 |[.str z],r,h=>
  obtain⟨v,rfl,r1⟩:=r.yr;unfold fe at h;dsimp only at h;split at h
  .rename_i hz;exact .inr ⟨z,by rw[r1.jv],hz,de sr h⟩
  .exact h.elim
 |[.dc],_,h=>exact h.elim
 |[.bl _],_,h=>exact h.elim
 |[.int _],_,h=>exact h.elim
 |[.exc _],_,h=>exact h.elim
 |[.fn _ _],_,h=>exact h.elim
 |[.mt _],_,h=>exact h.elim
 |x::y::r,_,h=>cases x<;>exact h.elim
def gW:FN
 |[.tup us],st=>.ok (.tup us) st
 |[.loc n],st=>match aq st n with
  |some us=>.ok (.tup us) st
  |none=>.bad
 |_,_=>.bad
theorem BJ:cm X (.type "tuple") (cM (wo X) E gW):=by
 refine cm.imp rP ?_;rintro xs H Q ⟨ρ,st,us,sr,r,h⟩;unfold gW at h;split at h
 .rename_i ws;obtain⟨v,rfl,r1⟩:=r.yr;obtain⟨a,vs,rfl,ha,ra⟩:=r1.gu;exact⟨a,vs,rfl,.inr ⟨ha,h ρ H _ (aD.refl _ _) sr r1⟩⟩
 .rename_i n;obtain⟨v,rfl,r1⟩:=r.yr;obtain⟨a,rfl,ha⟩:=r1.eO;split at h
  .rename_i ws e;obtain⟨vs,hs,rv⟩:=bp sr e ha;refine⟨a,vs,rfl,.inl ⟨hs,fun l hl=>?_⟩⟩;have s:=dH (o:=.tup vs) hl;exact h ρ _ _ (aD.same s) (sr.grow s) (Rl.p9 bu (aY.mono (aD.same s) _ _ rv))
  .exact h.elim
 .exact h.elim
def fO:FN
 |[.tup us],st=>.ok (.loc st.length) (st++[.lst us])
 |[.loc n],st=>match aq st n with
  |some us=>.ok (.loc st.length) (st++[.lst us])
  |none=>.bad
 |_,_=>.bad
theorem BK:cm X (.type "list") (cM (wo X) E fO):=by
 refine cm.imp uI ?_;rintro xs H Q ⟨ρ,st,us,sr,r,h⟩;unfold fO at h;split at h
 .rename_i ws;obtain⟨v,rfl,r1⟩:=r.yr;obtain⟨a,vs,rfl,ha,ra⟩:=r1.gu;refine⟨a,vs,rfl,.inr ha,fun l hl=>?_⟩;obtain⟨k1,k2,k3⟩:=iw sr ra hl;exact h _ _ _ k1 k2 k3
 .rename_i n;obtain⟨v,rfl,r1⟩:=r.yr;obtain⟨a,rfl,ha⟩:=r1.eO;split at h
  .rename_i ws e;obtain⟨vs,hs,rv⟩:=bp sr e ha;refine⟨a,vs,rfl,.inl hs,fun l hl=>?_⟩;obtain⟨k1,k2,k3⟩:=iw sr rv hl;exact h _ _ _ k1 k2 k3
  .exact h.elim
 .exact h.elim
def l?:List ao->Option (List Bool)
 |[]=>some []
 |.bl b::r=>(l? r).map (b :: ·)
 |_=>none
theorem sT{K:_R}{ρ:_V}{H:Hp}:∀{us:List ao}{bs:List Bool}{vs:List V}{aF:_T},l? us=some bs->aY K ρ H us vs->bf vs aF->LSm.BoolsAre aF bs
 |[],bs,vs,aF,h,r,v=>by cases h;have:=r.fF;subst this;cases v;exact .nil
 |u::us,bs,vs,aF,h,r,v=>by
  cases u with
  |bl b=>
   simp only[l?]at h;cases z:l? us with
   |none=>rw[z]at h;cases h
   |some bs'=>
    rw[z]at h;cases h;obtain⟨x,r',rfl,h2,h3⟩:=r.cQ;have:=h2.p8;subst this;cases v with
    |cons q1 q2=>
     cases q1;exact .cons b (sT z h3 q2)
  |_=>cases h
theorem qa(hh:X.A.handled=none):cm X (.builtin "all") (fun xs H Q=>∃a ρ us vs bs,xs=[.ref a]/\nr X.K H a vs/\aY X.K ρ H us vs/\l? us=some bs/\Q (.bl (bs.all id)) H):=by
 rintro ag s σ H xs ws Q I r ⟨a,ρ,us,vs,bs,rfl,hs,rv,hb,q⟩;obtain⟨u,rfl,ru⟩:=vals1 r;cases ru;obtain⟨aF,r1,p1,_⟩:=I.list hs;have B:=sT hb rv r1;have hl:=p1.isList;have uO:a<s.heap.objs.size:=by obtain⟨_,e,_⟩:=hl;exact Vz e
 refine call_all_walk (XU hl ?_);refine⟨s.heap.objs.size,[s.heap.objs.size,a],[s.heap.objs.size],aF.toArray.size,_,_,fun i=>(bs[i]?).getD true,rfl,Walks.list (A:=X.A.in1) hh _ a (VS uO) aF.toArray,
  ⟨⟨_,VJ _ rfl,rfl,rfl⟩,hl.push _⟩,fun i v s' Q' E' hP hQ=>?_,fun h' tk hk=>?_⟩
 .obtain⟨b,e,rfl⟩:=B.get i v (by simpa using hP);simp only[e,Option.getD_some]at hQ;exact W8 hQ
 .have e:((List.range aF.toArray.size).all fun i=>(bs[i]?).getD true)=bs.all id:=by rw[VC,B.length];exact LSm.range_all bs
  rw[e];exact⟨.bl _,H,I.kept (LSm.kept_iter hk),rfl,q⟩
def BL:FN
 |[.loc n],st=>match aq st n with
  |some us=>match l? us with
   |some bs=>.ok (.bl (bs.all id)) st
   |none=>.bad
  |none=>.bad
 |_,_=>.bad
theorem BM(hh:X.A.handled=none):cm X (.builtin "all") (cM (wo X) E BL):=by
 refine cm.imp (qa hh) ?_;rintro xs H Q ⟨ρ,st,us,sr,r,h⟩;unfold BL at h;split at h
 .rename_i n;obtain⟨v,rfl,r1⟩:=r.yr;obtain⟨a,rfl,ha⟩:=r1.eO;split at h
  .rename_i ws e;split at h
   .rename_i bs hb;obtain⟨vs,hs,rv⟩:=bp sr e ha;exact⟨a,ρ,ws,vs,bs,rfl,hs,rv,hb,eR sr h⟩
   .exact h.elim
  .exact h.elim
 .exact h.elim
def kindOf(st:ai):ao->Option String
 |.dc=>some "NoneType"
 |.bl _=>some "bool"
 |.int _=>some "int"
 |.str _=>some "str"
 |.tup _=>some "tuple"
 |.loc n=>match st[n]? with
  |some (.lst _)=>some "list"
  |some (.J9 _)=>some "list"
  |some (.mod _)=>none
  |some (.dK _)=>some "dict"
  |some (.dT _)=>some "dict"
  |_=>none
 |_=>none
def Qi(T:String)(st:ai)(v:ao):Option Bool:=(kindOf st v).map fun k=>k==T || (k == "bool" && T == "int")
def x_(T:String)(m:ME):ME:=fun μ st=>(m μ st).bind fun v av=>match Qi T av v with
 |some b=>.ok (.bl b) av
 |none=>.bad
def D3(K:_R)(T:String):Prop:=∀k∈["NoneType","bool","int","str","tuple","list","dict"],W.kitOne K (.type k) (.type T)=some (k==T || (k == "bool" && T == "int"))
theorem yz{st:ai}{v:ao}{k:String}(h:kindOf st v=some k):k∈["NoneType","bool","int","str","tuple","list","dict"]:=by
 unfold kindOf at h;split at h
 all_goals first
  |(cases h;decide)
  |(split at h<;>first|(cases h;decide)|cases h)
  |cases h
theorem D4{s:_Y}{E:_O}{c:_X}{b:Bool}{st:ai}{u:ao}{x:V}{v:_X}{k:String}(I:aM X ag σ H s)(sr:SR X.K ρ st H)(r:Rl X.K ρ H u x)(q:bo x v)(hk:kindOf st u=some k)(e:W.kitOne X.K (.type k) c=some b)(h:∀tk,Q (.bool b) {s with toks:=tk}):
  wpAny (model X.prog X.w) A (call (.builtin "isinstance") [v,c]) Q E s:=by
 cases u with
 |dc=>cases hk;have:=r.jw;subst this;exact fE I q .dc e h
 |bl y=>cases hk;have:=r.p8;subst this;exact fE I q (.bl y) e h
 |int i=>cases hk;have:=r.b!;subst this;exact fE I q (.int i) e h
 |str y=>cases hk;have:=r.jv;subst this;exact fE I q (.str y) e h
 |tup us=>
  cases hk;obtain⟨a,vs,rfl,ha,ra⟩:=r.gu;cases q;obtain⟨aF,r1,⟨o,h1,h2,_⟩,_⟩:=I.tuple ha;exact Wu _d I.nq ⟨o,h1,h2⟩ e (fun z=>nomatch z) h
 |loc n=>
  obtain⟨a,rfl,ha⟩:=r.eO;obtain⟨cl,hc,kc⟩:=sr.there ha;simp only[kindOf,hc]at hk;cases cl with
  |lst us=>cases hk;obtain⟨vs,h1,_⟩:=kc;exact fE I q (.lst h1) e h
  |J9 us=>cases hk;obtain⟨o,vs,h1,_⟩:=kc;exact fE I q (.gB h1) e h
  |mod us=>cases hk
  |dK us=>cases hk;obtain⟨vs,h1,_⟩:=kc;exact fE I q (.dK h1) e h
  |dT us=>cases hk;obtain⟨vs,h1,_⟩:=kc;exact fE I q (.dT h1) e h
  |tab _ _ _ _=>cases hk
  |ins _ _=>cases hk
 |exc c=>cases hk
 |fn k c=>cases hk
 |mt us=>cases hk
theorem uU{T:String}{m:ME}{p q:Pos}(hK:D3 X.K T)(hg:Gl X "isinstance")(hm:X.mg "isinstance" = none)(hgT:Gl X x)(hmT:X.mg x=none)(hvT:bootBuiltins x=some (.type T))(he:PE X e (tE X E m))(hn:x ≠ "__name__":=by decide)(hd:(x==("__debug__":Str))=false:=by decide)(hs:starEach [e,.Name x q] X.env=(false,eval e X.env)::starEach [.Name x q] X.env:=by rfl)(eV:starEach [.Name x q] X.env=(false,eval (.Name x q) X.env)::starEach [] X.env:=by rfl)(ip:(backTo pos (starEach [.Name x q] X.env)).any (·.1)=false:=by rfl):PE X (.Call (.Name "isinstance" p) [e,.Name x q] [] pos) (tE X E (x_ T m)):=by
 have hc:cm X (.builtin "isinstance") (fun xs H Q=>∃y ρ st u k b,xs=[y,.ty T]/\SR X.K ρ st H/\Rl X.K ρ H u y/\kindOf st u=some k/\W.kitOne X.K (.type k) (.type T)=some b/\Q (.bl b) H):=by rintro ag s σ H xs us Q I r ⟨y,ρ,st,u,k,b,rfl,sr,r1,h1,h2,h3⟩;obtain⟨v1,v2,rfl,q1,q2⟩:=vals2 r;cases q2;exact D4 I sr r1 q1 h1 h2 fun tk=>⟨.bl b,H,I.tok tk,rfl,h3⟩
 refine PE.imp (lV hc hg hm XZ (fM he (fM (zW (v:=.ty T) hgT hmT hvT rfl hn hd) kP eV) hs) (by decide) (by decide) hs ip) ?_;rintro σ H Q ⟨μ,ρ,st,rs,sr,h⟩;refine go μ ρ st rs sr h fun u a0 ρ1 H1 x e1 cb r1 h1=>?_;cases z:kindOf a0 u with
 |none=>simp only[Qi,z]at h1;exact h1.elim
 |some k=>
  simp only[Qi,z]at h1;exact⟨x,ρ1,a0,u,k,_,rfl,cb,r1,z,hK k (yz z),eR cb h1⟩
theorem D5{K:_R}:D3 K "int":=by intro k hk;simp only[VU,YF,X_]at hk;rcases hk with rfl|rfl|rfl|rfl|rfl|rfl|rfl<;>first|rfl|kernel_rfl
theorem BN{K:_R}:D3 K "bool":=by intro k hk;simp only[VU,YF,X_]at hk;rcases hk with rfl|rfl|rfl|rfl|rfl|rfl|rfl<;>first|rfl|kernel_rfl
theorem yA{K:_R}:D3 K "tuple":=by intro k hk;simp only[VU,YF,X_]at hk;rcases hk with rfl|rfl|rfl|rfl|rfl|rfl|rfl<;>first|rfl|kernel_rfl
theorem BO{K:_R}:D3 K "list":=by intro k hk;simp only[VU,YF,X_]at hk;rcases hk with rfl|rfl|rfl|rfl|rfl|rfl|rfl<;>first|rfl|kernel_rfl
abbrev AS:=ao->Env->Option Env
def au(i:Nat):AS:=fun v μ=>some (μ.set i (some v))
def sU:List AS->List ao->Env->Option Env
 |[],[],μ=>some μ
 |a::as,v::vs,μ=>(a v μ).bind fun μ'=>sU as vs μ'
 |_,_,_=>none
def bX(l:List AS):AS:=fun v μ=>match v with
 |.tup vs=>sU l vs μ
 |_=>none
def tA(W:Wo)(a:AS):TG:=fun v σ H Q=>∃μ ρ u μ',RS W ρ H μ σ/\Rl W.K ρ H u v/\a u μ=some μ'/\∀σ',RS W ρ H μ' σ'->Q σ' H
def Sk(W:Wo)(l:List AS):GH:=fun vs σ H Q=>∃μ ρ us μ',RS W ρ H μ σ/\aY W.K ρ H us vs/\sU l us μ=some μ'/\∀σ',RS W ρ H μ' σ'->Q σ' H
theorem zZ.imp{e:List Expr}{t t':GH}(h:zZ X e t)(k:∀v σ H Q,t' v σ H Q->t v σ H Q):zZ X e t':=fun ag s σ H v u Q I r q=>h ag s σ H v u Q I r (k v σ H Q q)
theorem HH(i:Nat)(hN:X.N.Nodup)(hi:X.N[i]?=some x:=by rfl)(hx:Loc X.env.scope x:=by first|exact Or.inl rfl|exact Or.inr rfl)(hf:X.fn x=true\/X.env.scope.names.lookup x=some .local:=by first|exact .inl rfl|exact .inr rfl|assumption):PG X (.Name x pos) (tA (wo X) (au i)):=by refine PG.imp (GI hN hi hx hf) ?_;rintro v σ H Q ⟨μ,ρ,u,μ',rs,r,e,q⟩;cases e;exact q _ (rs.set i r)
theorem HI:zZ X [] (Sk (wo X) []):=by
 refine zZ.imp GJ ?_;rintro vs σ H Q ⟨μ,ρ,us,μ',rs,r,e,q⟩;cases us with
 |nil=>cases e;exact⟨r.fF,q σ rs⟩
 |cons=>cases e
theorem D6{a:AS}{as:List AS}(h1:PG X e (tA (wo X) a))(h2:zZ X es (Sk (wo X) as))(hs:(assignEach (e::es) X.env).map (·.2)=assign e X.env::(assignEach es X.env).map (·.2):=by rfl):zZ X (e::es) (Sk (wo X) (a::as)):=by
 refine zZ.imp (C4 h1 h2 hs) ?_;rintro vs σ H Q ⟨μ,ρ,us,μ',rs,r,e,q⟩;cases us with
 |nil=>cases e
 |cons u us=>
  obtain⟨v,r',rfl,ru,rr⟩:=r.cQ;unfold sU at e;cases z:a u μ with
  |none=>rw[z]at e;cases e
  |some μ1=>
   rw[z]at e;exact⟨v,r',rfl,μ,ρ,u,μ1,rs,ru,z,fun σ1 Oy=>⟨μ1,ρ,us,μ',Oy,rr,e,q⟩⟩
theorem Mp{k:Nat}{l:List AS}(hc:X.calm=true)(h:zZ X es (Sk (wo X) l))(hn:(assignEach es X.env).length=l.length:=by rfl)(CT:(assignEach es X.env).findIdx? (·.1)=none:=by rfl):PG X (.Tuple es k pos) (tA (wo X) (bX l)):=by
 refine PG.imp (K3 hc h hn CT) ?_;rintro v σ H Q ⟨μ,ρ,u,μ',rs,r,e,q⟩;cases u with
 |tup us=>
  obtain⟨a,vs,rfl,ha,ra⟩:=r.gu;have len:∀(l:List AS)(us:List ao)(μ:Env),sU l us μ=some μ'->us.length=l.length:=by
   intro l
   induction l with
   |nil=>intro us μ e;cases us with|nil=>rfl|cons=>cases e
   |cons a l ih=>
    intro us μ e;cases us with
    |nil=>cases e
    |cons u us=>
     unfold sU at e;cases z:a u μ with
     |none=>rw[z]at e;cases e
     |some μ1=>rw[z]at e;rw[Vt,Vt,ih us μ1 e]
  exact⟨a,vs,rfl,ha,by rw[<-ra.length];exact len _ _ _ e,μ,ρ,us,μ',rs,ra,e,q⟩
 |_=>cases e
def HJ(a:AS)(m:ME):MB:=fun μ st=>(m μ st).sb μ fun v av=>match a v μ with
 |some μ'=>.nx μ' av
 |none=>.bad
theorem Mq{m:ME}{a:AS}(he:PE X e (tE X E m))(hg:PG X tg (tA (wo X) a))(hs:swapsWithSole [tg] e pos.line X.env=pure false:=by rfl)(hw:swappedStores [tg] e X.env=pure none:=by rfl)(h1:(assignEach [tg] X.env).map (·.2)=[assign tg X.env]:=by rfl):
  PS X (.Assign [tg] e pos) (tS X E (HJ a m)):=by
 refine PS.imp (K4 he hg hs hw h1) ?_;rintro D σ H ⟨μ,ρ,st,rs,sr,h⟩;refine DO μ ρ st rs sr h fun u a0 ρ1 H1 x e1 cb r1 h1=>?_;cases z:a u μ with
 |none=>rw[z]at h1;exact h1.elim
 |some μ'=>
  rw[z]at h1;exact⟨μ,ρ1,u,μ',rs.mono e1,r1,z,fun σ' x!=>h1 ρ1 H1 σ' (aD.refl _ _) cb x!⟩
abbrev Itm:=List ao×(ai->Prop)
abbrev MI:=Env->ai->cD Itm
def Mr(K:_R)(ρ0:_V)(H0:Hp)(p:Itm)(J:It):Prop:=
 ∀ρ st H,aD ρ0 H0 ρ H->SR K ρ st H->p.2 st->∀i:Nat,
  (∀u,p.1[i]?=some u->J.go i H/\∀x H',J.O5 i H x H'->aD ρ H ρ H'/\SR K ρ st H'/\Rl K ρ H' u x)/\(p.1.length<=i->J.stop i H)
abbrev tI(X:Cx)(E:XK)(m:MI):TI:=tG (wo X) E (Mr X.K) m
section
variable{p:Pos}
theorem PI.imp{it:Expr}{t t':TI}(h:PI X tg it t)(k:∀σ H Q,t' σ H Q->t σ H Q):PI X tg it t':=fun ag s σ H R I q=>h ag s σ H R I (k σ H R q)
theorem Ms{l:Expr}{tl:TE}(hl:PE X l tl):PI X tg l (fun σ H R=>tl σ H fun x H1=>∃a,x=.ref a/\(((∃xs,nr X.K H1 a xs)/\R (To X.K a) H1)\/((∃xs,jB X.K H1 a xs)/\R (Tp X.K a) H1))):=by
 intro ag s σ H R I h;refine df (hl ag s σ H _ I h) fun v s1⟨x,H1,I1,r1,q1⟩=>?_;obtain⟨a,e,q⟩:=q1;subst e;cases r1;rcases q with⟨⟨xs,hq⟩,q⟩|⟨⟨xs,hq⟩,q⟩
 .obtain⟨aF,rv,p,hz⟩:=I1.list hq;refine XU p.isList ?_;refine⟨s1.heap.objs.size,[s1.heap.objs.size],_,_,H1,rfl,I1.kept (t':=s1.toks) fun b o e=>Vn _ e,Bh a _,⟨_,VJ _ rfl,rfl,rfl⟩,fun b hb=>?_,q⟩;have e:b=s1.heap.objs.size:=by simpa using hb
  subst e;exact I1.C6 (Vo _) (I1.bN.fresh (Vo _))
 .obtain⟨aF,rv,p,hz⟩:=I1.tuple hq;refine wpAny_pyIter_tuple (show s1.heap.IsTuple a aF.toArray from p) ?_;refine⟨s1.heap.objs.size,[s1.heap.objs.size],_,_,H1,rfl,I1.kept (t':=s1.toks) fun b o e=>Vn _ e,yb a _,⟨_,VJ _ rfl,rfl,rfl⟩,fun b hb=>?_,q⟩;have e:b=s1.heap.objs.size:=by simpa using hb
  subst e;exact I1.C6 (Vo _) (I1.bN.fresh (Vo _))
def qc(st:ai):ao->Option Itm
 |.tup us=>some (us,fun _=>True)
 |.mt us=>some (us,fun _=>True)
 |.loc n=>(aq st n).map fun us=>(us,fun av=>aq av n=some us)
 |_=>none
def bJ(m:ME):MI:=fun μ st=>(m μ st).bind fun v av=>match qc av v with
 |some p=>.ok p av
 |none=>.bad
theorem D7{K:_R}{us:List ao}{a:_Z}(ha:ρ[n]?=some a)(Ut:∀{ρ':_V}{av:ai}{H':Hp},SR K ρ' av H'->aq av n=some us->ρ'[n]?=some a->∃vs,nr K H' a vs/\aY K ρ' H' us vs):
  Mr K ρ H (us,fun av=>aq av n=some us) (To K a):=by
 intro ρ' av H' e sr g i;obtain⟨vs,hs,rv⟩:=Ut sr g (e.at_ ha);refine⟨fun u hu=>?_,fun hi=>⟨vs,hs,by rw[<-rv.length];exact hi⟩⟩;obtain⟨v,hv,ru⟩:=rv.get hu;refine⟨⟨vs,v,hs,hv⟩,fun x Sl y=>?_⟩;obtain⟨rfl,y⟩:=y;have e:=(y vs hs).symm.trans hv;cases e;exact⟨aD.refl _ _,sr,ru⟩
theorem Au{K:_R}{us:List ao}{a:_Z}{vs:List V}(ha:jB K H a vs)(ra:aY K ρ H us vs):Mr K ρ H (us,fun _=>True) (Tp K a):=by intro ρ' av H' e sr g i;have Qj:jB K H' a vs:=e.Um ha;have rv:=aY.mono e _ _ ra;refine⟨fun u hu=>?_,fun hi=>⟨vs,Qj,by rw[<-rv.length];exact hi⟩⟩;obtain⟨v,hv,ru⟩:=rv.get hu;refine⟨⟨vs,v,Qj,hv⟩,fun x Sl y=>?_⟩;obtain⟨rfl,y⟩:=y;have e:=(y vs Qj).symm.trans hv;cases e;exact⟨aD.refl _ _,sr,ru⟩
theorem Mt{l:Expr}{m:ME}(hl:PE X l (tE X E m)):PI X tg l (tI X E (bJ m)):=by
 refine PI.imp (Ms hl) ?_;rintro σ H R ⟨μ,ρ,st,rs,sr,h⟩;refine go μ ρ st rs sr h fun u a0 ρ1 H1 x e1 cb r1 h1=>?_;cases u with
 |tup us=>
  obtain⟨a,vs,rfl,ha,ra⟩:=r1.gu;exact⟨a,rfl,.inr ⟨⟨vs,ha⟩,h1 ρ1 H1 _ (aD.refl _ _) cb (Au ha ra)⟩⟩
 |mt us=>
  obtain⟨a,vs,rfl,ha,ra⟩:=r1.mt_;exact⟨a,rfl,.inr ⟨⟨vs,ha⟩,h1 ρ1 H1 _ (aD.refl _ _) cb (Au ha ra)⟩⟩
 |loc n=>
  obtain⟨a,rfl,ha⟩:=r1.eO;cases z:aq a0 n with
  |none=>simp only[qc,z]at h1;exact h1.elim
  |some us=>
   simp only[qc,z]at h1;obtain⟨vs,hs,rv⟩:=bp cb z ha;exact⟨a,rfl,.inl ⟨⟨vs,hs⟩,h1 ρ1 H1 _ (aD.refl _ _) cb (D7 ha fun s g h=>bp s g h)⟩⟩
 |_=>exact h1.elim
def cF(lo:Int)(n:Nat):List ao:=(List.range n).map fun(i:Nat)=>ao.int (lo+(i:Int))
theorem BP{K:_R}(lo:Int)(n:Nat):Mr K ρ H (cF lo n,fun _=>True) (RU lo n):=by
 intro ρ' av H' e sr g i;refine⟨fun u hu=>?_,fun hi=>?_⟩
 .have hi:i<n:=by have:=d9 hu;simpa[cF]using this
  refine⟨hi,fun x Sl y=>?_⟩;obtain⟨rfl,rfl⟩:=y;have e:u=ao.int (lo+(i:Int)):=by simp only[cF,VF]at hu;rw[Xv hi]at hu;exact(VP hu).symm
  subst e;exact⟨aD.refl _ _,sr,Rl.mkInt _⟩
 .show n<=i;simpa[cF]using hi
def cA(m:MA):MI:=fun μ st=>(m μ st).bind fun vs av=>match vs with
 |[.int j]=>if -(2 ^ 62)<=j/\j<2 ^ 62 then .ok (cF 0 j.toNat,fun _=>True) av else .bad
 |_=>.bad
theorem BQ{a:Expr}{m:MA}(hg:Gl X "range")(hm:X.mg "range" = none)(ha:PA X [a] (tL X E m))(hs:starEach [a] X.env=[(false,eval a X.env)]:=by rfl):PI X tg (.Call (.Name "range" p) [a] [] pos) (tI X E (cA m)):=by
 refine PI.imp (Bi hg hm ha hs) ?_;rintro σ H R ⟨μ,ρ,st,rs,sr,h⟩;refine go (R1:=aY X.K) μ ρ st rs sr h fun us a0 ρ1 H1 xs e1 cb r1 h1=>?_;split at h1
 .rename_i j;obtain⟨v,rfl,rv⟩:=r1.yr;split at h1
  .rename_i hz;exact⟨j,by rw[rv.b!],hz.1,hz.2,h1 ρ1 H1 _ (aD.refl _ _) cb (BP 0 j.toNat)⟩
  .exact h1.elim
 .exact h1.elim
def iD(st:ai):ao->Option (Bool×Itm)
 |.tup us=>some (false,us,fun _=>True)
 |.loc n=>(aq st n).map fun us=>(true,us,fun av=>aq av n=some us)
 |_=>none
def mf:List ao->List ao->List ao
 |x::xs,y::ys=>.tup [x,y]::mf xs ys
 |_,_=>[]
theorem Av:∀(us ws:List ao)(i:Nat),(∀z,(mf us ws)[i]?=some z->∃u w,us[i]?=some u/\ws[i]?=some w/\z=.tup [u,w])/\((mf us ws).length<=i->us.length<=i\/ws.length<=i)
 |[],_,i=>⟨fun z h=>(by cases h),fun _=>.inl (V? _)⟩
 |_::_,[],i=>⟨fun z h=>(by cases h),fun _=>.inr (V? _)⟩
 |u::us,w::ws,0=>⟨fun z h=>(by cases h;exact⟨u,w,rfl,rfl,rfl⟩),fun h=>(by simp[mf]at h)⟩
 |u::us,w::ws,i+1=>by
  obtain⟨a,b⟩:=Av us ws i;refine⟨fun z h=>a z h,fun h=>?_⟩;have h':(mf us ws).length<=i:=by simpa[mf]using h
  rcases b h' with q|q
  .exact .inl (by rw[Vt];lia)
  .exact .inr (by rw[Vt];lia)
def sV(b1 b2:Bool)(m:MA):MI:=fun μ st=>(m μ st).bind fun vs av=>match vs with
 |[u,w]=>match iD av u,iD av w with
  |some (c1,us,g1),some (c2,ws,g2)=>if c1=b1/\c2=b2 then .ok (mf us ws,fun cE=>g1 cE/\g2 cE) av else .bad
  |_,_=>.bad
 |_=>.bad
theorem Aw{K:_R}{st:ai}{u:ao}{x:V}{c:Bool}{us:List ao}{g:ai->Prop}(sr:SR K ρ st H)(r:Rl K ρ H u x)(h:iD st u=some (c,us,g))(Ut:∀{ρ':_V}{av:ai}{H':Hp}{n a},SR K ρ' av H'->aq av n=some us->ρ'[n]?=some a->∃vs,nr K H' a vs/\aY K ρ' H' us vs):
  ∃a,x=.ref a/\∀ρ' av H',aD ρ H ρ' H'->SR K ρ' av H'->g av->∃vs,yn c K H' a vs/\aY K ρ' H' us vs:=by
 cases u with
 |tup ws=>
  cases h;obtain⟨a,vs,rfl,ha,ra⟩:=r.gu;exact⟨a,rfl,fun ρ' av H' e _ _=>⟨vs,e.Um ha,aY.mono e _ _ ra⟩⟩
 |loc n=>
  obtain⟨a,rfl,ha⟩:=r.eO;cases z:aq st n with
  |none=>simp only[iD,z]at h;cases h
  |some ws=>
   simp only[iD,z]at h;cases h;exact⟨a,rfl,fun ρ' av H' e s g=>Ut s g (e.at_ ha)⟩
 |_=>cases h
theorem D8{st:ai}{u:ao}{c:Bool}{us:List ao}{g:ai->Prop}(h:iD st u=some (c,us,g)):g st:=by
 cases u with
 |tup ws=>cases h;exact True.intro
 |loc n=>
  cases z:aq st n with
  |none=>simp only[iD,z]at h;cases h
  |some ws=>simp only[iD,z]at h;cases h;exact z
 |_=>cases h
theorem Mu(b1 b2:Bool){ea eb:Expr}{m:MA}(hg:Gl X "zip")(hm:X.mg "zip" = none)(ha:PA X [ea,eb] (tL X E m))(hs:starEach [ea,eb] X.env=[(false,eval ea X.env),(false,eval eb X.env)]:=by rfl)(eV:starEach [eb] X.env=[(false,eval eb X.env)]:=by rfl):
  PI X (.Tuple elts kt tp) (.Call (.Name "zip" p) [ea,eb] [] pos) (tI X E (sV b1 b2 m)):=by
 refine PI.imp (LK b1 b2 hg hm ha hs eV) ?_;rintro σ H R ⟨μ,ρ,st,rs,sr,h⟩;refine go (R1:=aY X.K) μ ρ st rs sr h fun us a0 ρ1 H1 xs e1 cb r1 h1=>?_;split at h1
 .rename_i u w;obtain⟨x,y,rfl,rx,ry⟩:=r1.Ow;split at h1
  .rename_i c1 Uu g1 c2 us2 g2 z1 z2;split at h1
   .rename_i hc;obtain⟨rfl,rfl⟩:=hc;obtain⟨a,rfl,ka⟩:=Aw cb rx z1 fun s g h=>bp s g h;obtain⟨b,rfl,kb⟩:=Aw cb ry z2 fun s g h=>bp s g h;obtain⟨v1,q1,_⟩:=ka ρ1 a0 H1 (aD.refl _ _) cb (D8 z1);obtain⟨v2,q2,_⟩:=kb ρ1 a0 H1 (aD.refl _ _) cb (D8 z2);refine⟨a,b,rfl,⟨v1,q1⟩,⟨v2,q2⟩,h1 ρ1 H1 _ (aD.refl _ _) cb ?_⟩;intro ρ' av H' e s g i;obtain⟨w1,s1,t1⟩:=ka ρ' av H' e s g.1;obtain⟨w2,s2,t2⟩:=kb ρ' av H' e s g.2;obtain⟨k1,k2⟩:=Av Uu us2 i;refine⟨fun z hz=>?_,fun hi=>⟨w1,w2,s1,s2,?_⟩⟩
    .obtain⟨u',w',e1',e2',rfl⟩:=k1 z hz;obtain⟨p1,p2,p3⟩:=t1.get e1';obtain⟨o1,o2,o3⟩:=t2.get e2';refine⟨⟨w1,w2,p1,o1,s1,s2,p2,o2⟩,fun x' Sl y'=>?_⟩;obtain⟨pp,x1,y1,rfl,hp,rfl,f1,f2⟩:=y';have c1:=(f1 w1 s1).symm.trans p2;have c2:=(f2 w2 s2).symm.trans o2;cases c1;cases c2;exact⟨aD.same (dH hp),s.grow (dH hp),Rl.p9 bu (aY.mono (aD.same (dH hp)) _ _ (aY.cons p3 (aY.one o3)))⟩
    .rw[<-t1.length,<-t2.length];exact k2 hi
   .exact h1.elim
  .exact h1.elim
 .exact h1.elim
end
open Classical in
def forL(g:ai->Prop)(a:AS)(body:MB):List ao->MB
 |[],μ,st=>if g st then .nx μ st else .bad
 |u::us,μ,st=>if g st then(match a u μ with
  |some μ1=>match body μ1 st with
   |.nx μ' av=>forL g a body us μ' av
   |.ct μ' av=>forL g a body us μ' av
   |.bk μ' av=>.nx μ' av
   |.rt v av=>.rt v av
   |.er c μ' av=>.er c μ' av
   |.bad=>.bad
  |none=>.bad)else .bad
def dM(it:MI)(a:AS)(body:MB):MB:=fun μ st=>(it μ st).sb μ fun p av=>forL p.2 a body p.1 μ av
section
variable{p:Pos}
theorem Mv{sb:List Stmt}{it:MI}{a:AS}{body:MB}(hp:PassesOwn (model X.prog X.w) X.A X.env X.xe)(hc:X.calm=true)(hi:PI X tg iter (tI X E it))(hg:PG X tg (tA (wo X) a))(hb:i' X sb (tS X E body))(hs:∀x,foldedSetIterable iter X.env x=pure x:=by intro _;rfl):PS X (.For tg iter sb [] pos) (tS X E (dM it a body)):=by
 refine PS.imp (K8 hp hc hi hg hb hs) ?_;rintro D σ H ⟨μ,ρ,st,rs,sr,h⟩;refine DO (R1:=Mr X.K) μ ρ st rs sr h fun pr a0 ρ1 H1 J e1 cb rJ h1=>?_;obtain⟨us,g⟩:=pr;refine⟨fun i m σ' H'=>m=us.length-i/\i<=us.length/\∃μ' ρ' av,aD ρ1 H1 ρ' H'/\RS (wo X) ρ' H' μ' σ'/\SR X.K ρ' av H'/\wS (wo X) E ρ' H' D (forL g a body (us.drop i) μ' av),
  ⟨us.length,by simp,V? _,μ,ρ1,a0,aD.refl _ _,rs.mono e1,cb,h1⟩,?_⟩
 rintro i m σ' H' ⟨rfl,hi,μ',ρ',av,e',x!,Ax,h'⟩;by_cases uO:i<us.length
 .rw[WX uO]at h';unfold forL at h';by_cases rD:g av
  .rw[Vu rD]at h';obtain⟨k1,k2⟩:=rJ ρ' av H' e' Ax rD i;obtain⟨go',yl⟩:=k1 _ (Vp uO);refine .inr ⟨go',fun σ2 H2=>i+1<=us.length/\∃μ2 ρ2 cE,aD ρ1 H1 ρ2 H2/\RS (wo X) ρ2 H2 μ2 σ2/\SR X.K ρ2 cE H2/\wS (wo X) E ρ2 H2 D (forL g a body (us.drop (i+1)) μ2 cE),fun σ2 H2 n=>⟨us.length-(i+1),by lia,rfl,n.1,n.2⟩,fun x H2 y=>?_⟩;obtain⟨e2,lZ,r2⟩:=yl x H2 y;cases z:a us[i] μ' with
   |none=>rw[z]at h';exact h'.elim
   |some μ1=>
    rw[z]at h';dsimp only at h';refine⟨μ',ρ',us[i],μ1,x!.mono e2,r2,z,fun σ3 Oz=>⟨μ1,ρ',av,Oz,lZ,?_⟩⟩;cases zb:body μ1 av with
    |nx μ4 l0=>
     rw[zb]at h';intro ρ4 H4 σ4 e4 nD yB;exact⟨by lia,μ4,ρ4,l0,(e'.trans e2).trans e4,yB,nD,wS.mono h' (e2.trans e4)⟩
    |ct μ4 l0=>
     rw[zb]at h';intro ρ4 H4 σ4 e4 nD yB;exact⟨by lia,μ4,ρ4,l0,(e'.trans e2).trans e4,yB,nD,wS.mono h' (e2.trans e4)⟩
    |bk μ4 l0=>rw[zb]at h';exact fun ρ4 H4 σ4 e4 nD yB=>h' ρ4 H4 σ4 (e2.trans e4) nD yB
    |rt v l0=>rw[zb]at h';exact fun ρ4 H4 σ4 e4 nD yB=>h' ρ4 H4 σ4 (e2.trans e4) nD yB
    |er c μ4 l0=>rw[zb]at h';obtain⟨C,q1,q2⟩:=h';exact⟨C,q1,fun ρ4 H4 e4 nD=>q2 ρ4 H4 (e2.trans e4) nD⟩
    |bad=>rw[zb]at h';exact h'
  .rw[VA rD]at h';exact h'.elim
 .have wg:i=us.length:=by lia
  subst wg;rw[ZU]at h';unfold forL at h';by_cases rD:g av
  .rw[Vu rD]at h';exact .inl ⟨(rJ ρ' av H' e' Ax rD us.length).2 (Vo _),h' ρ' H' σ' (aD.refl _ _) Ax x!⟩
  .rw[VA rD]at h';exact h'.elim
end
def fP(t:MT)(body:MB):Nat->Env->ai->Option c6
 |0,_,_=>none
 |n+1,μ,st=>match t μ st with
  |.ok true a0=>match body μ a0 with
   |.nx μ' av=>fP t body n μ' av
   |.ct μ' av=>fP t body n μ' av
   |.bk μ' av=>some (.nx μ' av)
   |.rt v av=>some (.rt v av)
   |.er c μ' av=>some (.er c μ' av)
   |.bad=>some .bad
  |.ok false a0=>some (.nx μ a0)
  |.err c a0=>some (.er c μ a0)
  |.bad=>some .bad
open Classical in
def nE(t:MT)(body:MB):MB:=fun μ st=>if h:∃n r,fP t body n μ st=some r then h.choose_spec.choose else .bad
theorem jK{t:MT}{body:MB}:∀{n m:Nat}{μ:Env}{st:ai}{r r':c6},fP t body n μ st=some r->fP t body m μ st=some r'->r=r'
 |0,_,_,_,_,_,h,_=>by cases h
 |_+1,0,_,_,_,_,_,h=>by cases h
 |n+1,m+1,μ,st,r,r',h,h'=>by
  unfold fP at h h';split at h
  .rename_i a0 e;rw[e]at h';dsimp only at h';split at h
   all_goals (rename_i eb;rw[eb]at h';dsimp only at h')
   .exact jK h h'
   .exact jK h h'
   all_goals (cases h;cases h';rfl)
  all_goals (rename_i e;rw[e]at h';dsimp only at h';cases h;cases h';rfl)
theorem sW{t:MT}{body:MB}{μ:Env}{st:ai}{r:c6}(h:fP t body n μ st=some r):nE t body μ st=r:=by
 have hx:∃n r,fP t body n μ st=some r:=⟨n,r,h⟩
 unfold nE;rw[dif_pos hx];exact jK hx.choose_spec.choose_spec h
theorem D9{c:Expr}{sb:List Stmt}{t:MT}{body:MB}(hp:PassesOwn (model X.prog X.w) X.A X.env X.xe)(hc:PT X c (tT X E t))(hb:i' X sb (tS X E body)):PS X (.While c sb [] pos) (tS X E (nE t body)):=by
 refine PS.imp (C5 hp hc hb) ?_;rintro D σ H ⟨μ,ρ,st,rs,sr,h⟩;unfold nE at h;split at h
 .rename_i hx;have hr:=hx.choose_spec.choose_spec;refine⟨fun m σ' H'=>∃μ' ρ' av r,aD ρ H ρ' H'/\RS (wo X) ρ' H' μ' σ'/\SR X.K ρ' av H'/\fP t body m μ' av=some r/\wS (wo X) E ρ' H' D r,⟨_,μ,ρ,st,_,aD.refl _ _,rs,sr,hr,h⟩,?_⟩;rintro m σ' H' ⟨μ',ρ',av,r,e',x!,Ax,hw,hq⟩;cases m with
  |zero=>cases hw
  |succ m=>
   unfold fP at hw;refine⟨μ',ρ',av,x!,Ax,?_⟩;cases z:t μ' av with
   |ok k a0=>
    rw[z]at hw;intro ρ1 H1 k' e1 cb ek;cases ek;cases k with
    |true=>
     dsimp only at hw;rw[Vu rfl];refine⟨fun σ2 H2=>∃μ2 ρ2 cE r2,aD ρ H ρ2 H2/\RS (wo X) ρ2 H2 μ2 σ2/\SR X.K ρ2 cE H2/\fP t body m μ2 cE=some r2/\wS (wo X) E ρ2 H2 D r2,fun σ2 H2 n=>⟨m,Y9 m,n⟩,μ',ρ1,a0,x!.mono e1,cb,?_⟩;cases zb:body μ' a0 with
     |nx μ4 l0=>
      rw[zb]at hw;intro ρ4 H4 σ4 e4 nD yB;exact⟨μ4,ρ4,l0,r,(e'.trans e1).trans e4,yB,nD,hw,wS.mono hq (e1.trans e4)⟩
     |ct μ4 l0=>
      rw[zb]at hw;intro ρ4 H4 σ4 e4 nD yB;exact⟨μ4,ρ4,l0,r,(e'.trans e1).trans e4,yB,nD,hw,wS.mono hq (e1.trans e4)⟩
     |bk μ4 l0=>rw[zb]at hw;cases hw;exact fun ρ4 H4 σ4 e4 nD yB=>hq ρ4 H4 σ4 (e1.trans e4) nD yB
     |rt v l0=>rw[zb]at hw;cases hw;exact fun ρ4 H4 σ4 e4 nD yB=>hq ρ4 H4 σ4 (e1.trans e4) nD yB
     |er c μ4 l0=>rw[zb]at hw;cases hw;obtain⟨C,q1,q2⟩:=hq;exact⟨C,q1,fun ρ4 H4 e4 nD=>q2 ρ4 H4 (e1.trans e4) nD⟩
     |bad=>rw[zb]at hw;cases hw;exact hq
    |false=>
     cases hw;rw[VA VI];exact hq ρ1 H1 σ' e1 cb (x!.mono e1)
   |err c a0=>rw[z]at hw;cases hw;exact hq
   |bad=>rw[z]at hw;cases hw;exact hq
 .exact h.elim
def jy(k:Nat)(a_:List Nat)(μ:Env):Env:=List.replicate k none++a_.map fun j=>(μ[j]?).getD none
theorem RS.wA{W:Wo}{μ:Env}{σ:L2.St}(r:RS W ρ H μ σ)(k:Nat)(a_:List Nat):RS W ρ H (jy k a_ μ) (o5 k a_ σ):=by
 refine⟨by simp[jy,o5],fun i u e=>?_⟩;unfold jy at e;rcases V2 i k with q|q
 .rw[VL (by rw[We];exact q),Ww,Vu q]at e;cases e
 .rw[Vv (by rw[We];exact q),We,VF]at e;cases z:a_[i-k]? with
  |none=>rw[z]at e;cases e
  |some j=>
   rw[z]at e;have e':(μ[j]?).getD none=some u:=VP e;have e2:μ[j]?=some (some u):=by
    cases y:μ[j]? with
    |none=>rw[y]at e';cases e'
    |some w=>rw[y]at e';exact Xg _ e'
   obtain⟨v,h1,h2⟩:=r.at_ j u e2;refine⟨v,?_,h2⟩;unfold o5;rw[Vv (by rw[We];exact q),We,VF,z];show some ((σ[j]?).getD none)=_;rw[h1];rfl
open Classical in
def dN(g:ai->Prop)(a:AS)(c:MT)(e:ME):List ao->Env->ai->List ao->cD (List ao)
 |[],_,st,ys=>if g st then .ok ys st else .bad
 |u::us,τ,st,ys=>if g st then(match a u τ with
  |some τ1=>match c τ1 st with
   |.ok true a0=>match e τ1 a0 with
    |.ok y cE=>dN g a c e us τ1 cE (ys++[y])
    |.err _ _=>.bad
    |.bad=>.bad
   |.ok false a0=>dN g a c e us τ1 a0 ys
   |.err _ _=>.bad
   |.bad=>.bad
  |none=>.bad)else .bad
def bz(k:Nat)(a_:List Nat)(it:MI)(a:AS)(c:MT)(e:ME):ME:=fun μ st=>(it μ st).bind fun p a0=>
 if p.1.length<=sizeLine then(dN p.2 a c e p.1 (jy k a_ μ) a0 []).bind fun ys cE=>.ok (.loc cE.length) (cE++[.lst ys])else .bad
def aV:MT:=fun _ st=>.ok true st
abbrev W0(X:Cx):Wo:=⟨X.K,X.mg,[]⟩
section
variable{Dv:Pos}{cl:List (Str×_Z)}{k:Nat}{it:MI}{a:AS}{c:MT}{e:ME}
theorem sZ(Kc:X.pn=[]){σ:L2.St}{Q:VK}(h:tE X E (bz k a_ it a c e) σ H Q):pZ k a_ (tI X E it) (tA (W0 X) a) (tG (W0 X) E0 RB c) (tG (W0 X) E0 (Rl X.K) e) σ H Q:=by
 obtain⟨μ,ρ,st,rs,sr,h⟩:=h;refine Dt (go (R1:=Mr X.K) μ ρ st rs sr h fun pr a0 ρ1 H1 J e1 cb rJ h1=>?_);obtain⟨us,g⟩:=pr;have ew:wo X=W0 X:=by show Wo.mk _ _ _=_;rw[Kc]
 have Oy:=rs.mono e1;rw[ew]at Oy h1;dsimp only at h1;split at h1
 .rename_i hz;refine Hf us.length hz (fun i ys τ H'=>∃μτ ρ' av yv,aD ρ1 H1 ρ' H'/\RS (W0 X) ρ' H' μτ τ/\SR X.K ρ' av H'/\aY X.K ρ' H' yv ys/\yv.length<=i/\wR (W0 X) E (Rl X.K) ρ' H' Q ((dN g a c e (us.drop i) μτ av yv).bind fun(zs:List ao)(cE:ai)=>cD.ok (ao.loc cE.length) (cE++[aR.lst zs])))
   ⟨jy k a_ μ,ρ1,a0,[],aD.refl _ _,Oy.wA k a_,cb,aY.nil,Vo _,h1⟩ ?_ ?_ ?_ ?_ ?_
  .rintro i ys τ H' hi ⟨μτ,ρ',av,yv,e',x!,Ax,ry,hl,hq⟩;rw[WX hi]at hq;unfold dN at hq;by_cases rD:g av
   .exact((rJ ρ' av H' e' Ax rD i).1 _ (Vp hi)).1
   .rw[VA rD]at hq;exact hq.elim
  .rintro ys τ H' ⟨μτ,ρ',av,yv,e',x!,Ax,ry,hl,hq⟩;rw[ZU]at hq;unfold dN at hq;by_cases rD:g av
   .exact(rJ ρ' av H' e' Ax rD us.length).2 (Vo _)
   .rw[VA rD]at hq;exact hq.elim
  .rintro i ys τ H' ⟨μτ,ρ',av,yv,e',x!,Ax,ry,hl,hq⟩;rw[<-ry.length];exact hl
  .rintro i ys τ H' x H2 hi ⟨μτ,ρ',av,yv,e',x!,Ax,ry,hl,hq⟩ y K1 hK;rw[WX hi]at hq;unfold dN at hq;by_cases rD:g av
   .rw[Vu rD]at hq;obtain⟨e2,lZ,r2⟩:=((rJ ρ' av H' e' Ax rD i).1 _ (Vp hi)).2 x H2 y;cases z:a us[i] μτ with
    |none=>rw[z]at hq;exact hq.elim
    |some τ1=>
     rw[z]at hq;dsimp only at hq;refine⟨μτ,ρ',us[i],τ1,x!.mono e2,r2,z,fun σ3 Oz=>⟨τ1,ρ',av,Oz,lZ,?_⟩⟩;cases zc:c τ1 av with
     |ok b jE=>
      rw[zc]at hq;intro ρ3 H3 b' e3 yu eb;cases eb;cases b with
      |true=>
       dsimp only at hq;rw[Vu rfl];refine⟨τ1,ρ3,jE,Oz.mono e3,yu,?_⟩;cases ze:e τ1 jE with
       |ok v l0=>
        rw[ze]at hq;intro ρ4 H4 y4 e4 nD r4;exact hK _ _ _ ⟨τ1,ρ4,l0,yv++[v],((e'.trans e2).trans e3).trans e4,(Oz.mono e3).mono e4,nD,(aY.mono ((e2.trans e3).trans e4) _ _ ry).append (aY.one r4),by rw[Vr,WZ];lia,wR.mono hq ((e2.trans e3).trans e4)⟩
       |err c' l0=>rw[ze]at hq;exact hq.elim
       |bad=>rw[ze]at hq;exact hq.elim
      |false=>
       dsimp only at hq;rw[VA VI];exact hK _ _ _ ⟨τ1,ρ3,jE,yv,(e'.trans e2).trans e3,Oz.mono e3,yu,aY.mono (e2.trans e3) _ _ ry,by lia,wR.mono hq (e2.trans e3)⟩
     |err c' jE=>rw[zc]at hq;exact hq.elim
     |bad=>rw[zc]at hq;exact hq.elim
   .rw[VA rD]at hq;exact hq.elim
  .rintro ys τ H' p ⟨μτ,ρ',av,yv,e',x!,Ax,ry,hl,hq⟩ hp;rw[ZU]at hq;unfold dN at hq;by_cases rD:g av
   .rw[Vu rD]at hq;obtain⟨k1,k2,k3⟩:=iw Ax ry hp;exact hq _ _ _ k1 k2 k3
   .rw[VA rD]at hq;exact hq.elim
 .exact h1.elim
theorem fj(hc:X.calm=true)(Kc:X.pn=[])(B:rQ X N scope cl k a_)(hi:PI X tg iter (tI X E it))(hg:∀C fp s H,PG (rC X N scope cl C fp s H) tg (tA (W0 X) a))(LG:∀C fp s H,CU (rC X N scope cl C fp s H) ifs (tG (W0 X) E0 RB c))(he:∀C fp s H,PE (rC X N scope cl C fp s H) elt (tG (W0 X) E0 (Rl X.K) e))(hs:∀x,foldedSetIterable iter X.env x=pure x:=by intro _;rfl):PE X (.ListComp elt [⟨tg,iter,ifs,0⟩] scope pos) (tE X E (bz k a_ it a c e)):=
 PE.imp (He hc B hi hg LG he hs) fun _ _ _ h=>sZ Kc h
theorem kY(i:Nat){py:Pos}(hN:X.N.Nodup)(hc:X.calm=true)(Kc:X.pn=[])(B:rQ X N scope cl k a_)(hi:PI X tg iter (tI X E it))(hg:∀C fp s H,PG (rC X N scope cl C fp s H) tg (tA (W0 X) a))(LG:∀C fp s H,CU (rC X N scope cl C fp s H) ifs (tG (W0 X) E0 RB c))(he:∀C fp s H,PE (rC X N scope cl C fp s H) elt (tG (W0 X) E0 (Rl X.K) e))(hy:X.N[i]?=some y:=by rfl)(hx:Loc X.env.scope y:=by first|exact Or.inl rfl|exact Or.inr rfl)(T4:swapsWith (.ListComp elt [⟨tg,iter,ifs,0⟩] scope pos) (some (.Name y py)) Dv.line X.env=pure true:=by rfl)(hs:∀x,foldedSetIterable iter X.env x=pure x:=by intro _;rfl)(hf:X.fn y=true\/X.env.scope.names.lookup y=some .local:=by first|exact .inl rfl|exact .inr rfl|assumption):
  PS X (.Assign [.Name y py] (.ListComp elt [⟨tg,iter,ifs,0⟩] scope pos) Dv) (tS X E (aG i (bz k a_ it a c e))):=
 PS.imp (L2.ym hN hy hx hc B hi hg LG he T4 hs hf) fun _ _ _ h=>sZ Kc (wy h)
theorem HK{C fp s H}:CU (rC X N scope cl C fp s H) [] (tG (W0 X) E0 RB aV):=by intro ag s' σ H' Q I q;refine Ha ag s' σ H' Q I ?_;obtain⟨μ,ρ,st,rs,sr,h⟩:=q;exact h ρ H' true (aD.refl _ _) sr rfl
theorem HL{cc:Expr}{C fp s H}(h:PT (rC X N scope cl C fp s H) cc (tG (W0 X) E0 RB c)):CU (rC X N scope cl C fp s H) [cc] (tG (W0 X) E0 RB c):=Hb h
theorem Qk{C fp s H}:Passes (iL P w) (rC X N scope cl C fp s H) E0:=by rintro ag σ H' s' e s2 I ⟨ea,cls,H2,_,_,q⟩;exact q.elim
end
abbrev FM:=ao->List ao->ai->cD ao
def Sm(W:Wo)(E:XK)(f:FM):V->List V->Hp->VK->Prop:=fun x xs H Q=>∃ρ st u us,SR W.K ρ st H/\Rl W.K ρ H u x/\aY W.K ρ H us xs/\wR W E (Rl W.K) ρ H Q (f u us st)
def wB(st:ai):ao->Bool
 |.loc n=>match st[n]? with
  |some (.lst _)=>true
  |_=>false
 |_=>false
def iP(f:FM)(o:ME)(a:MA):ME:=fun μ st=>(o μ st).bind fun x a0=>if wB a0 x=true then(a μ a0).bind fun xs cE=>f x xs cE else .bad
def dS:FM
 |.loc n,[v],st=>match st[n]? with
  |some (.lst us)=>if us.length<sizeLine then .ok .dc (st.set n (.lst (us++[v])))else .bad
  |_=>.bad
 |_,_,_=>.bad
section
variable{mo:ME}{ms:MA}{f:FM}
theorem Ab.imp{id:String}{r r':V->List V->Hp->VK->Prop}(h:Ab X id r)(k:∀x xs H Q,r' x xs H Q->r x xs H Q):Ab X id r':=fun ag s σ H x xs v us Q I rx rs q=>h ag s σ H x xs v us Q I rx rs (k x xs H Q q)
theorem HM{K:_R}{st:ai}{us As:List ao}{a:_Z}{vs yw:List V}(sr:SR K ρ st H)(h:st[n]?=some (.lst us))(ha:ρ[n]?=some a)(hH:H a=some (.lst vs))(r:aY K ρ H As yw):
  aD ρ H ρ (upd H a (.lst yw))/\SR K ρ (st.set n (.lst As)) (upd H a (.lst yw)):=by
 have e:aD ρ H ρ (upd H a (.lst yw)):=aD.put hH (fun _ z=>by cases z) (fun _ _ z=>by cases z);exact⟨e,sr.set h rfl rfl ha hH (fun _ z=>by cases z) (fun _ _ z=>by cases z) ⟨yw,bu,aY.mono e _ _ r⟩⟩
theorem yC:Ab X "list.append" (Sm (wo X) E dS):=by
 refine Ab.imp Bq ?_;rintro x xs H Q ⟨ρ,st,u,us,sr,r1,r2,h⟩;unfold dS at h;split at h
 .rename_i n v;obtain⟨a,rfl,ha⟩:=r1.eO;obtain⟨y,rfl,ry⟩:=r2.yr;split at h
  .rename_i ws hw;split at h
   .rename_i hz;obtain⟨vs,hH,rv⟩:=sr.cell n _ a hw ha;refine⟨a,vs,y,rfl,rfl,hH,by rw[<-rv.length];exact hz,?_⟩;obtain⟨k1,k2⟩:=HM sr hw ha hH (rv.append (aY.one ry));exact h ρ _ _ k1 k2 Rl.sS
   .exact h.elim
  .exact h.elim
 .exact h.elim
theorem D_{K:_R}{st:ai}{u:ao}{x:V}(sr:SR K ρ st H)(r:Rl K ρ H u x)(h:wB st u=true):R0 K "list" x H:=by
 cases u with
 |loc n=>
  obtain⟨a,rfl,ha⟩:=r.eO;obtain⟨c,hc,kc⟩:=sr.there ha;simp only[wB,hc]at h;cases c with
  |lst us=>obtain⟨vs,h1,_⟩:=kc;exact .inl ⟨rfl,vs,nr.of h1⟩
  |_=>cases h
 |_=>cases h
theorem yD{id:String}(slot:Slot "list" name id)(Ls:typeOf (.builtin id)=pure (.type "method_descriptor"))(hm:Ab X id (Sm (wo X) E f))(ho:PE X o (tE X E mo))(ha:PA X (e::es) (tL X E ms))(iN:attributeBase o name X.env (eval o X.env)=eval o X.env:=by rfl)
  (uJ:((backTo bV (starEach (e::es) X.env)).all (fun x => !x.1)&&(backToKw bV (keywordEach [] X.env)).all (fun x=>x.1.isSome)
   && decide ((e::es).length+([]:List Keyword).length+(if([]:List Keyword).isEmpty then 0 else 1)<30))=true:=by rfl)
  (iO:(apos.endLine==bV.line)=true:=by rfl) (hs:starEach (e::es) X.env=(false,eval e X.env)::starEach es X.env:=by rfl) (iW:(backTo bV (starEach es X.env)).any (·.1)=false:=by rfl):
  PE X (.Call (.Attribute o name apos) (e::es) [] bV) (tE X E (iP f mo ms)):=by
 refine PE.imp (Pl F.plainAttrs_list slot Ls hm ho ha iN uJ iO hs iW) ?_;rintro σ H Q ⟨μ,ρ,st,rs,sr,h⟩;refine go μ ρ st rs sr h fun u a0 ρ1 H1 x e1 cb r1 h1=>?_;split at h1
 .rename_i hz;refine⟨D_ cb r1 hz,?_⟩;refine go (R1:=aY X.K) μ ρ1 a0 (rs.mono e1) cb h1 fun us cE ρ2 H2 xs e2 lZ r2 h2=>?_;exact⟨ρ2,cE,u,us,lZ,Rl.mono e2 _ _ r1,r2,h2⟩
 .exact h1.elim
end
def OA(W:Wo)(R:_V->Hp->α->β->Prop)(ρ:_V)(H:Hp)(Q:β->Hp->Prop)(EX:EH):cD α->Prop
 |.ok u av=>∀ρ' H' v,aD ρ H ρ' H'->SR W.K ρ' av H'->R ρ' H' u v->Q v H'
 |.err c av=>∃C,W.mg c=some (.ref C)/\∀ρ' H' ea,aD ρ H ρ' H'->SR W.K ρ' av H'->EX (.ref C) ea H'
 |.bad=>False
theorem OA.mono{W:Wo}{R:_V->Hp->α->β->Prop}{Q:β->Hp->Prop}{EX:EH}{r:cD α}(h:OA W R ρ H Q EX r)(e:aD ρ H ρ' H'):OA W R ρ' H' Q EX r:=by
 cases r with
 |ok u st=>exact fun ρ2 H2 v e2 s r=>h ρ2 H2 v (e.trans e2) s r
 |err c st=>obtain⟨C,h1,h2⟩:=h;exact⟨C,h1,fun ρ2 H2 ea e2 s=>h2 ρ2 H2 ea (e.trans e2) s⟩
 |bad=>exact h
def Sn(X:Cx)(m:ME):PV:=fun σ H Q EX=>∃μ ρ st,RS (wo X) ρ H μ σ/\SR X.K ρ st H/\OA (wo X) (Rl X.K) ρ H Q EX (m μ st)
def HN(W:Wo)(ρ:_V)(H:Hp)(D:Ends)(EX:EK):c6->Prop
 |.nx μ st=>∀ρ' H' σ',aD ρ H ρ' H'->SR W.K ρ' st H'->RS W ρ' H' μ σ'->D.nx σ' H'
 |.rt v st=>∀ρ' H' x,aD ρ H ρ' H'->SR W.K ρ' st H'->Rl W.K ρ' H' v x->D.rt x H'
 |.bk μ st=>∀ρ' H' σ',aD ρ H ρ' H'->SR W.K ρ' st H'->RS W ρ' H' μ σ'->D.bk σ' H'
 |.ct μ st=>∀ρ' H' σ',aD ρ H ρ' H'->SR W.K ρ' st H'->RS W ρ' H' μ σ'->D.ct σ' H'
 |.er c μ st=>∃C,W.mg c=some (.ref C)/\∀ρ' H' σ' ea,aD ρ H ρ' H'->SR W.K ρ' st H'->RS W ρ' H' μ σ'->EX (.ref C) ea σ' H'
 |.bad=>False
theorem HN.mono{W:Wo}{D:Ends}{r:c6}(h:HN W ρ H D EX r)(e:aD ρ H ρ' H'):HN W ρ' H' D EX r:=by
 cases r with
 |nx μ st=>exact fun ρ2 H2 σ2 e2 s r=>h ρ2 H2 σ2 (e.trans e2) s r
 |rt v st=>exact fun ρ2 H2 x e2 s r=>h ρ2 H2 x (e.trans e2) s r
 |bk μ st=>exact fun ρ2 H2 σ2 e2 s r=>h ρ2 H2 σ2 (e.trans e2) s r
 |ct μ st=>exact fun ρ2 H2 σ2 e2 s r=>h ρ2 H2 σ2 (e.trans e2) s r
 |er c μ st=>obtain⟨C,h1,h2⟩:=h;exact⟨C,h1,fun ρ2 H2 σ2 ea e2 s r=>h2 ρ2 H2 σ2 ea (e.trans e2) s r⟩
 |bad=>exact h
def OB(X:Cx)(m:MB):LN:=fun D EX σ H=>∃μ ρ st,RS (wo X) ρ H μ σ/\SR X.K ρ st H/\HN (wo X) ρ H D EX (m μ st)
def wC(m:Env->ai->cD α):Env->ai->cD α:=fun μ st=>match m μ st with
 |.ok v av=>.ok v av
 |.err _ _=>.bad
 |.bad=>.bad
section
variable{p:Pos}{m:ME}{ms:MA}{f:FN}
theorem Hl.imp{t t':PV}(h:Hl X e t)(k:∀σ H Q EX,t' σ H Q EX->t σ H Q EX):Hl X e t':=fun ag s σ H Q EX I q=>h ag s σ H Q EX I (k σ H Q EX q)
theorem Hm.imp{st:Stmt}{t t':LN}(h:Hm X st t)(k:∀D EX σ H,t' D EX σ H->t D EX σ H):Hm X st t':=fun ag s σ H D EX I q=>h ag s σ H D EX I (k D EX σ H q)
theorem D!{k:Nat}(F:ku X.prog X.w X.K X.mg X.base (iL X.prog X.w) k fa fd ps (J! ⟨X.K,X.mg,[]⟩ f))(hr:d0 k X.A)(hg:Gl X x)(hm:X.mg x=some (.ref fa))(hk:PySem.W.keepIn X.K (.ref fa)=true)(hb:Binds X.K fd ps [])(ya:∀y,X.fn y=true)(ha:∀W,PA (X.pP W) (e::es) (tL X E0 ms))(ju:(x==("__debug__":Str))=false:=by decide)(he:starEach (e::es) X.env=(false,eval e X.env)::starEach es X.env:=by rfl)(ip:(backTo pos (starEach es X.env)).any (·.1)=false:=by rfl):
  Hl X (.Call (.Name x p) (e::es) [] pos) (Sn X (ah f (wC ms))):=by
 refine Hl.imp (DE F hr hg hm hk hb ya ha ju he ip) ?_;rintro σ H Q EX ⟨μ,ρ,st,rs,sr,h⟩;refine⟨μ,ρ,st,rs,sr,?_⟩;unfold ah wC at h;cases z:ms μ st with
 |ok us a0=>
  rw[z]at h;intro ρ1 H1 vs e1 cb r1;refine⟨us,ρ1,a0,r1,cb,?_⟩;have h':OA (wo X) (Rl X.K) ρ1 H1 Q EX (f us a0):=OA.mono h e1;revert h';cases f us a0 with
  |ok u cE=>exact fun q=>q
  |err c cE=>exact fun⟨C,q1,q2⟩=>⟨C,q1,fun ρ2 H2 e2 s2 ea=>q2 ρ2 H2 ea e2 s2⟩
  |bad=>exact fun q=>q
 |err c av=>rw[z]at h;exact h.elim
 |bad=>rw[z]at h;exact h
theorem Mw{σ:L2.St}{D:Ends}{k:ao->ai->c6}{μ:Env}{st:ai}(rs:RS (wo X) ρ H μ σ)(sr:SR X.K ρ st H)(h:HN (wo X) ρ H D EX ((m μ st).sb μ k)){Q:VK}(c:∀u a0 ρ1 H1 x,aD ρ H ρ1 H1->SR X.K ρ1 a0 H1->Rl X.K ρ1 H1 u x->HN (wo X) ρ1 H1 D EX (k u a0)->Q x H1):Sn X m σ H Q fun cls ea H'=>EX cls ea σ H':=by
 refine⟨μ,ρ,st,rs,sr,?_⟩;cases z:m μ st with
 |ok u a0=>rw[z]at h;exact fun ρ1 H1 x e1 cb r1=>c u a0 ρ1 H1 x e1 cb r1 (HN.mono h e1)
 |err c' a0=>rw[z]at h;obtain⟨C,q1,q2⟩:=h;exact⟨C,q1,fun ρ2 H2 ea e2 s2=>q2 ρ2 H2 σ ea e2 s2 (rs.mono e2)⟩
 |bad=>rw[z]at h;exact h
theorem HP(he:Hl X e (Sn X m)):Hm X (.Return (some e) pos) (OB X (aP m)):=by refine Hm.imp (Hn he) ?_;rintro D EX σ H ⟨μ,ρ,st,rs,sr,h⟩;exact Mw rs sr h fun u a0 ρ1 H1 x e1 cb r1 h1=>h1 ρ1 H1 x (aD.refl _ _) cb r1
theorem HQ{s1:Stmt}{a:MB}(h:Hm X s1 (OB X a)):DD X [s1] (OB X a):=DF h
abbrev MH:=Str->MB
def yE:MH:=fun _ _ _=>.bad
def yF:c6->c6
 |.rt v st=>.rt v st
 |_=>.bad
def aaA(sub:Str->Str->Option Bool)(x:Str)(ja:MB)(rest:MH):MH:=fun c μ st=>match sub c x with
 |some true=>yF (ja μ st)
 |some false=>rest c μ st
 |none=>.bad
def Gp(sub:Str->Str->Option Bool)(x:Str)(i:Nat)(ja:MB)(rest:MH):MH:=fun c μ st=>match sub c x with
 |some true=>yF (ja (μ.set i (some (.exc c))) st)
 |some false=>rest c μ st
 |none=>.bad
def qd(kn:Str->Bool)(body:MB)(h:MH):MB:=fun μ st=>match body μ st with
 |.er c μ' av=>if kn c=true then h c μ' av else .bad
 |.nx μ' av=>.nx μ' av
 |.rt v av=>.rt v av
 |.bk μ' av=>.bk μ' av
 |.ct μ' av=>.ct μ' av
 |.bad=>.bad
def Mx(X:Cx)(h:MH):Ho:=fun D EX cls ea σ H=>∃c C μ ρ st,X.mg c=some (.ref C)/\cls=.ref C/\RS (wo X) ρ H μ σ/\SR X.K ρ st H/\HN (wo X) ρ H D EX (h c μ st)
theorem PH.imp{t t':Ho}(h:PH X hs t)(k:∀D EX cls ea σ H,t' D EX cls ea σ H->t D EX cls ea σ H):PH X hs t':=fun ag s σ H D EX ea cls J q=>h ag s σ H D EX ea cls J (k D EX cls ea σ H q)
theorem My:PH X [] (Mx X yE):=PH.imp LR fun D EX cls ea σ H q=>by obtain⟨c,C,μ,ρ,st,_,_,_,_,h⟩:=q;exact h
def Ql(K:_R)(mg:_P)(sub:Str->Str->Option Bool):Prop:=∀c x b C D,sub c x=some b->mg c=some (.ref C)->mg x=some (.ref D)->W.kitCls K (.ref C) (.ref D)=some b
theorem wt.pn{K:_R}{mg:_P}{pn:_Q}(hp:∀q∈pn,q∈LY){u:ao}{v:V}(h:wt ⟨K,mg,pn⟩ ρ H u v):wt ⟨K,mg,LY⟩ ρ H u v:=by
 cases u with
 |exc c=>obtain⟨a,oe,C,h1,h2,h3⟩:=h;exact⟨a,oe,C,h1,hp _ h2,h3⟩
 |_=>exact h
theorem RS.pn{K:_R}{mg:_P}{pn:_Q}(hp:∀q∈pn,q∈LY){μ:Env}{σ:L2.St}(h:RS ⟨K,mg,pn⟩ ρ H μ σ):RS ⟨K,mg,LY⟩ ρ H μ σ:=
 ⟨h.len,fun i u e=>let⟨v,h1,h2⟩:=h.at_ i u e;⟨v,h1,h2.pn hp⟩⟩
theorem Qm{n:Str}{rest:List ExceptHandler}{sub:Str->Str->Option Bool}{s:MB}{r:MH}(hS:Ql X.K X.mg sub)(hN:X.N.Nodup)(hi:X.N[i]?=some n)(hl:X.env.scope.names.lookup n=some .local)(hg:Gl X x)(hm:X.mg x=some (.ref C))(hB:W.subIn X.K (.ref C) (.type "BaseException")=some true)(hs:∀ea oe,i' (L2.yp X ea oe) (b₀::ja) (tS (L2.yp X ea oe) E0 s))(hr:PH X rest (Mx X r))(hd:(x==("__debug__":Str))=false:=by decide):
  PH X (.ExceptHandler (some (.Name x np)) (some n) (b₀::ja) pos::rest) (Mx X (Gp sub x i s r)):=by
 refine PH.imp (PX hN hi hl hg hm hB hs hr hd) ?_;rintro D EX cls ea σ H ⟨c,C',μ,ρ,st,h1,rfl,rs,sr,h⟩;unfold Gp at h;split at h
 .rename_i e;refine⟨true,hS c x true C' C e h1 hm,?_⟩;rw[Vu rfl];intro oe Hh;have x!:RS (wo (L2.yp X ea oe)) ρ H (μ.set i (some (.exc c))) (σ.set i (some (.ref ea))):=
   (RS.pn (fun q hq=>VQ _ hq) rs).P' i ⟨ea,oe,C',rfl,VO,h1,Hh⟩
  refine⟨_,ρ,st,x!,sr,?_⟩;revert h;cases s (μ.set i (some (.exc c))) st with
  |rt v av=>exact fun q=>q
  |_=>exact fun q=>q.elim
 .rename_i e;refine⟨false,hS c x false C' C e h1 hm,?_⟩;rw[VA VI];exact⟨c,C',μ,ρ,st,h1,rfl,rs,sr,h⟩
 .exact h.elim
def Known(mg:_P)(kn:Str->Bool):Prop:=∀c,kn c=true->∃C,mg c=some (.ref C)
theorem D?{kn:Str->Bool}{b:MB}{h:MH}(hk:Known X.mg kn){D:Ends}{σ:L2.St}(q:OB X (qd kn b h) D EX σ H):OB X b D (fun cls ea σ' H'=>Mx X h D EX cls ea σ' H') σ H:=by
 obtain⟨μ,ρ,st,rs,sr,q⟩:=q;refine⟨μ,ρ,st,rs,sr,?_⟩;unfold qd at q;cases z:b μ st with
 |er c μ' av=>
  rw[z]at q;dsimp only at q;split at q
  .rename_i hc;obtain⟨C,hC⟩:=hk c hc;exact⟨C,hC,fun ρ' H' σ' ea e s r=>⟨c,C,μ',ρ',av,hC,rfl,r,s,HN.mono q e⟩⟩
  .exact q.elim
 |_=>rw[z]at q;exact q
def qe(m:MB):MB:=fun μ st=>match m μ st with
 |.er _ _ _=>.bad
 |.nx μ' av=>.nx μ' av
 |.rt v av=>.rt v av
 |.bk μ' av=>.bk μ' av
 |.ct μ' av=>.ct μ' av
 |.bad=>.bad
theorem Mz{kn:Str->Bool}{body:List Stmt}{b:MB}{h:MH}(hk:Known X.mg kn)(dx:DefX X)(hb:DD X body (OB X b))(hh:PH X (h₀::hs) (Mx X h)):PS X (.Try body (h₀::hs) [] [] pos) (tS X E (qe (qd kn b h))):=by
 refine PS.imp (LS dx hb hh) ?_;rintro D σ H ⟨μ,ρ,st,rs,sr,q⟩;refine D? (EX:=fun _ _ _ _=>False) hk ⟨μ,ρ,st,rs,sr,?_⟩;unfold qe at q;revert q;cases qd kn b h μ st with
 |er c μ' av=>exact fun q=>q.elim
 |_=>exact fun q=>q
def yG(sub:Str->Str->Option Bool)(i:Nat)(x:Str):ME:=fun μ st=>match μ[i]? with
 |some (some (.exc c))=>(match sub c x with
  |some true=>.ok (.bl true) st
  |_=>.bad)
 |_=>.bad
inductive ClsAt(X:Cx)(x:Str):_X->V->Prop
 |own {C:_Z} (hm:X.mg x=some (.ref C)):ClsAt X x (.ref C) (.ref C)
 |blt {n:String} (hm:X.mg x=none) (hv:bootBuiltins x=some (.type n)) (hn:x ≠ "__name__"):ClsAt X x (.type n) (.ty n)
def Qn(K:_R)(mg:_P)(sub:Str->Str->Option Bool)(x:Str)(cv:_X):Prop:=∀c C,sub c x=some true->mg c=some (.ref C)->W.kitOne K (.ref C) cv=some true
theorem MC{sub:Str->Str->Option Bool}{n:Str}{cv:_X}{v:V}(hc:ClsAt X x cv v)(hS:Qn X.K X.mg sub x cv)(hg:Gl X "isinstance")(hm:X.mg "isinstance" = none)(OC:Gl X x)(hN:X.N[i]?=some n)(hv:Gh X.env.scope n)(hd:(n==("__debug__":Str))=false)(j6:(n==("__classdict__":Str))=false)(OD:(x==("__debug__":Str))=false)(hs:starEach [.Name n q1,.Name x q2] X.env=(false,eval (.Name n q1) X.env)::starEach [.Name x q2] X.env:=by rfl)(eV:starEach [.Name x q2] X.env=(false,eval (.Name x q2) X.env)::starEach [] X.env:=by rfl)(ip:(backTo pos (starEach [.Name x q2] X.env)).any (·.1)=false:=by rfl):PE X (.Call (.Name "isinstance" p) [.Name n q1,.Name x q2] [] pos) (tE X E (yG sub i x)):=by
 have hx:PE X (.Name x q2) (tC v):=by
  cases hc with
  |own h=>exact ur OC h rfl OD
  |blt h1 h2 h3=>exact zW OC h1 h2 rfl h3 OD
 refine PE.imp (lV uQ hg hm XZ (fM (uq (i:=i) hN hv hd j6) (fM hx kP eV) hs) (by decide) (by decide) hs ip) ?_;rintro σ H Q ⟨μ,ρ,st,rs,sr,h⟩;unfold yG at h;split at h
 .rename_i c e;split at h
  .rename_i es;obtain⟨w,e',a,oe,C,rfl,hp,hC,ho⟩:=rs.at_ i _ e;have hk:=hS c C es hC;rw[<-ho]at hk;cases hc with
   |own h'=>exact⟨_,e',a,oe,_,.inl ⟨rfl,hk⟩,hp,eR sr h⟩
   |blt h1 h2 h3=>exact⟨_,e',a,oe,0,.inr ⟨_,rfl,hk⟩,hp,eR sr h⟩
  .exact h.elim
 .exact h.elim
end
inductive f_(X:Cx)(scope:Scope):List (Str×_Z)->List Nat->Prop
 |nil:f_ X scope [] []
 |cons {y:Str} {c:_Z} {j:Nat} {cl:List (Str×_Z)} {a_:List Nat} (sub:X.env.cells.lookup y=some c) (hX:X.N[j]?=some y) (hk:X.env.kindOf y=some .cell\/X.env.kindOf y=some .free)
   (hr:(relabel scope X.env).names.lookup y=some .cell\/(relabel scope X.env).names.lookup y=some .free) (r:f_ X scope cl a_):f_ X scope ((y,c)::cl) (j::a_)
theorem f_.sub{X:Cx}{scope:Scope}{cl:List (Str×_Z)}{a_:List Nat}(A:f_ X scope cl a_):∀x c,cl.lookup x=some c->X.env.cells.lookup x=some c:=by
 induction A with
 |nil=>intro x c h;cases h
 | @cons y c0 _ _ _ sub _ _ _ _ ih=>
  intro x c h;rw[Y5]at h;by_cases e:x=y
  .rw[Wr.mpr e]at h;rw[e];exact sub.trans h
  .rw[V9.mpr e]at h;exact ih x c h
theorem f_.at_{cl:List (Str×_Z)}(A:f_ X scope cl a_):∀(i j:Nat)(x:Str),a_[i]?=some j->(cl.map (·.1))[i]?=some x ->
  X.N[j]?=some x/\(X.env.kindOf x=some .cell\/X.env.kindOf x=some .free)/\((relabel scope X.env).names.lookup x=some .cell\/(relabel scope X.env).names.lookup x=some .free):=by
 induction A with
 |nil=>intro i j x h;cases h
 |cons _ hX hk hr _ ih=>
  intro i j x h h2;cases i with
  |zero=>cases h;cases h2;exact⟨hX,hk,hr⟩
  |succ i=>exact ih i j x h h2
theorem iE:∀{cl:List (Str×_Z)}{x:Str},x∈cl.map (·.1)->∃c,cl.lookup x=some c
 |[],x,h=>by simp at h
 |(y,c)::cl,x,h=>by
  by_cases e:x=y
  .exact⟨c,by simp[e]⟩
  .have e':(x==y)=false:=by simpa using e
   rw[VB,VU]at h;rcases h with h|h
   .exact absurd h e
   .obtain⟨d,hd⟩:=iE h;exact⟨d,by simp only[Y5,e'];exact hd⟩
theorem Qo{k:Nat}{cl:List (Str×_Z)}(o6:closureFor scope X.env=pure cl)(A:f_ X scope cl a_)(has:((relabel scope X.env).names.all fun p => !(p.2 == .cell || p.2 == .free) || (cl.map (·.1)).contains p.1)=true)(fu:(scope.names.all fun p => !(p.2 == .cell))=true)(kind:scope.kind=.function)(names:(scope.names.all fun p => !(p.2 == .local) || scope.names.lookup p.1==some .local)=true)(len:N.length=k+a_.length)(hN:N.drop k=cl.map (·.1)):rQ X N scope cl k a_ where
 o6:=o6
 sub:=A.sub
 has:=fun x h=>by
  have m:x∈cl.map (·.1):=by rcases h with h|h<;>(have m:=Wx h;have z:=Wh.mp has _ m;simpa using z)
  exact iE m
 fu:=fun x hx h=>by have z:=Wh.mp fu x hx;simp[h]at z
 kind:=kind
 names:=fun x hx h=>by have z:=Wh.mp names x hx;simpa[h]using z
 len:=len
 at_:=fun i j x h1 h2=>A.at_ i j x h1 (by rw[<-hN,Wy];exact h2)
def FnAt(P:_1)(w:World)(K:_R)(mg:_P)(base:Heap)(x:Str)(k:Nat)(f:FN):Prop:=
 ∃fa fd ps,ku P w K mg base (iL P w) k fa fd ps (J! ⟨K,mg,[]⟩ f)/\mg x=some (.ref fa)/\W.keepIn K (.ref fa)=true/\Binds K fd ps []
section
variable{p:Pos}{ms:MA}{f:FN}{k:Nat}
theorem Kd(G:FnAt X.prog X.w X.K X.mg X.base x k f)(hr:d0 j X.A)(hk:k<=j)(hg:Gl X x)(hx:Passes (iL X.prog X.w) X E)(ha:PA X (e::es) (tL X E ms))(ju:(x==("__debug__":Str))=false:=by decide)(he:starEach (e::es) X.env=(false,eval e X.env)::starEach es X.env:=by rfl)(ip:(backTo pos (starEach es X.env)).any (·.1)=false:=by rfl):PE X (.Call (.Name x p) (e::es) [] pos) (tE X E (ah f ms)):=by obtain⟨fa,fd,ps,F,hm,kp,b⟩:=G;exact Hy F (hr.mono hk) hg hm kp b hx ha ju he ip
theorem MD(G:FnAt X.prog X.w X.K X.mg X.base x k f)(hr:d0 j X.A)(hk:k<=j)(hg:Gl X x)(ya:∀y,X.fn y=true)(ha:∀W,PA (X.pP W) (e::es) (tL X E0 ms))(ju:(x==("__debug__":Str))=false:=by decide)(he:starEach (e::es) X.env=(false,eval e X.env)::starEach es X.env:=by rfl)(ip:(backTo pos (starEach es X.env)).any (·.1)=false:=by rfl):Hl X (.Call (.Name x p) (e::es) [] pos) (Sn X (ah f (wC ms))):=by obtain⟨fa,fd,ps,F,hm,kp,b⟩:=G;exact D! F (hr.mono hk) hg hm kp b ya ha ju he ip
end
section
variable{K:_R}{mg:_P}
theorem FnAt.mk{st:Stmt}{k:Nat}{body:MB}(F:Ad K x x st f fd)(hm:mg x=some (.ref f))(S:dF N ps (aC st))(hb:∀(kV doc pm:_X)(an:Option _Z)(dh ct:_X)(us:_T),us.length=ps.length->bindArgs (W.fnOf x x (eM st) (bZ st) (aC st) .none kV doc pm an dh ct) ⟨us,[]⟩=pure (ps.zip us))
  (h:∀ (dh:_X) (A:_0) (outer:List PySem.Env) (s:_Y) (H:Hp) (E:XK),d0 k (A.deeper (envOfC x (aC st) s.heap.objs.size f dh)) ->
   i' (fN (iL P w) P w K mg base N x (aC st) f dh A outer s H E) (bZ st) (tS (fN (iL P w) P w K mg base N x (aC st) f dh A outer s H E) E body)):FnAt P w K mg base x (k+1) (gC ps.length N.length body):=
 ⟨f,fd,ps,DR F S h,hm,F.kp,F.binds hb⟩
theorem wD{cd:_X}{outer:List PySem.Env}:PassesOwn (model P w) (A.deeper (envOfC qual scope s₀.heap.objs.size f cd)) (envOfC qual scope s₀.heap.objs.size f cd) (fN (iL P w) P w K mg base N qual scope f cd A outer s₀ H₀ E).xe:=
 PassesOwn.leaving
theorem yH{cd:_X}{outer:List PySem.Env}:Raises (fN (iL P w) P w K mg base N qual scope f cd A outer s₀ H₀ E) E:=
 fun ag σ H s h' e cls vs I hx hE=>Bx I hx hE
theorem Glob.int{i:Int}{t:Tok}(h:mg x=some (.int i t)):Glob K mg x (.int i):=⟨_,.int i,h,⟨t,rfl⟩,fun _ _=>Rl.mkInt i⟩
theorem Glob.ints{a:_Z}{o:Obj}{aF:Array _X}(h:mg x=some (.ref a))(l:K.lookup a=some o)(hc:o.cls=.type "tuple")(hd:o.data=.seq aF n)(hz:aF.size<=sizeLine)(hv:bf (ns.map V.int) aF.toList):Glob K mg x (.mt (ns.map .int)):=
 ⟨_,.ref a,h,rfl,fun ρ H=>Rl.Uo (.inr ⟨o,aF,n,l,hc,hd,hz,hv⟩) (aY.ints ns)⟩
end
theorem kG:bootBuiltins "ValueError" = some (.type "ValueError"):=by decide +kernel
abbrev bmV:_T:=[.type "ValueError",.type "Exception",.type "BaseException",.type "object"]
def Ea(K:_R)(mg:_P)(x:Str):Prop:=∃C,mg x=some (.ref C)/\W.excIn K C bmV "ValueError.__new__" = true/\W.subIn K (.ref C) (.type "BaseException")=some true
theorem BR{K:_R}{D:_Z}{t:_X}{cd:ClassData}{b:Bool}(h1:W.clsIn K D=some cd)(h2:W.typeIn K (.ref D)=some (.type "type"))(h3:W.subIn K t (.ref D)=some b):W.kitCls K t (.ref D)=some b:=by show(if((W.clsIn K D).isSome&&W.typeIn K (.ref D)==some (.type "type"))=true then W.subIn K t (.ref D)else none)=some b;rw[h1,h2,h3];rfl
inductive eZ(K:_R)(mg:_P):List (Str×Str×Bool)->Prop
 |nil:eZ K mg []
 |own {c x:Str} {b:Bool} {C D:_Z} {r:List (Str×Str×Bool)} (h1:mg c=some (.ref C)) (h2:mg x=some (.ref D)) (h3:W.kitCls K (.ref C) (.ref D)=some b) (hr:eZ K mg r):eZ K mg ((c,x,b)::r)
 |blt {c x:Str} {n:String} {C:_Z} {r:List (Str×Str×Bool)} (h1:mg c=some (.ref C)) (h2:mg x=none) (OE:bootBuiltins x=some (.type n)) (h3:W.kitOne K (.ref C) (.type n)=some true) (hr:eZ K mg r):eZ K mg ((c,x,true)::r)
def bP(tab:List (Str×Str×Bool))(c x:Str):Option Bool:=match tab with
 |[]=>none
 |(c',x',b)::r=>if c'=c/\x'=x then some b else bP r c x
section
variable{K:_R}{mg:_P}
theorem eZ.Qp{tab:List (Str×Str×Bool)}(S:eZ K mg tab):Ql K mg (bP tab):=by
 induction S with
 |nil=>intro c x b C D h;cases h
 | @own c' x' _ _ _ _ h1 h2 h3 _ ih=>
  intro c x b C D h e1 e2;rw[bP]at h;by_cases z:c'=c/\x'=x
  .rw[Vu z]at h;cases h;rw[z.1,e1]at h1;cases h1;rw[z.2,e2]at h2;cases h2;exact h3
  .rw[VA z]at h;exact ih c x b C D h e1 e2
 | @blt c' x' _ _ _ h1 h2 _ _ _ ih=>
  intro c x b C D h e1 e2;rw[bP]at h;by_cases z:c'=c/\x'=x
  .rw[z.2,e2]at h2;cases h2
  .rw[VA z]at h;exact ih c x b C D h e1 e2
theorem eZ.Uv{tab:List (Str×Str×Bool)}(S:eZ K mg tab):∀(x:Str)(cv:_X),(∃D,cv=.ref D/\mg x=some (.ref D))\/(∃n,cv=.type n/\bootBuiltins x=some (.type n)/\mg x=none)->Qn K mg (bP tab) x cv:=by
 induction S with
 |nil=>intro x cv _ c C h;cases h
 | @own c' x' _ _ _ _ h1 h2 h3 _ ih=>
  intro x cv hx c C h e1;rw[bP]at h;by_cases z:c'=c/\x'=x
  .rw[Vu z]at h;cases h;rw[z.1,e1]at h1;cases h1;rw[z.2]at h2;rcases hx with⟨D,rfl,e2⟩|⟨n,rfl,_,e2⟩
   .rw[h2]at e2;cases e2;unfold W.kitOne;split
    .rfl
    .exact h3
   .rw[h2]at e2;cases e2
  .rw[VA z]at h;exact ih x cv hx c C h e1
 | @blt c' x' _ _ _ h1 h2 OE h3 _ ih=>
  intro x cv hx c C h e1;rw[bP]at h;by_cases z:c'=c/\x'=x
  .rw[Vu z]at h;cases h;rw[z.1,e1]at h1;cases h1;rw[z.2]at h2 OE;rcases hx with⟨D,rfl,e2⟩|⟨n,rfl,e2,_⟩
   .rw[h2]at e2;cases e2
   .rw[OE]at e2;cases e2;exact h3
  .rw[VA z]at h;exact ih x cv hx c C h e1
def MF(l:_W)(c:Str):Bool:=l.contains c
end
section
variable{p:Pos}{n:Str}{ms:MA}{rest:List ExceptHandler}{tab:List (Str×Str×Bool)}{s:MB}{r:MH}
theorem BS(hX:Raises X E)(hc:X.calm=true)(h:Ea X.K X.mg x)(hg:Gl X x)(ha:PA X (e₀::es) (tL X E ms))(he:starEach (e₀::es) X.env=(false,eval e₀ X.env)::starEach es X.env:=by rfl)(ip:(backTo bV (starEach es X.env)).any (·.1)=false:=by rfl)(hd:(x==("__debug__":Str))=false:=by decide):
  PS X (.Raise (some (.Call (.Name x np) (e₀::es) [] bV)) none pos) (tS X E (kW x ms)):=by
 obtain⟨C,hm,hq,_⟩:=h;exact DQ hX hc hm hq F.excBase_ValueError hg ha he ip hd
theorem MG(hS:eZ X.K X.mg tab)(hN:X.N.Nodup)(h:Ea X.K X.mg x)(hg:Gl X x)(hs:∀ea oe,i' (L2.yp X ea oe) (b₀::ja) (tS (L2.yp X ea oe) E0 s))(hr:PH X rest (Mx X r))(hi:X.N[i]?=some n:=by rfl)(hl:X.env.scope.names.lookup n=some .local:=by rfl)(hd:(x==("__debug__":Str))=false:=by decide):
  PH X (.ExceptHandler (some (.Name x np)) (some n) (b₀::ja) pos::rest) (Mx X (Gp (bP tab) x i s r)):=by
 obtain⟨C,hm,_,hB⟩:=h;exact Qm hS.Qp hN hi hl hg hm hB hs hr hd
theorem HR(i:Nat){T:String}(hS:eZ X.K X.mg tab)(hmx:X.mg x=none)(hb:bootBuiltins x=some (.type T))(hg:Gl X "isinstance")(hm:X.mg "isinstance" = none)(OC:Gl X x)(hN:X.N[i]?=some n:=by rfl)(hv:Gh X.env.scope n:=by first|exact Or.inl rfl|exact Or.inr (Or.inl rfl))(hn:x ≠ "__name__":=by decide)(hd:(n==("__debug__":Str))=false:=by decide)(j6:(n==("__classdict__":Str))=false:=by decide)(OD:(x==("__debug__":Str))=false:=by decide)(hs:starEach [.Name n q1,.Name x q2] X.env=(false,eval (.Name n q1) X.env)::starEach [.Name x q2] X.env:=by rfl)(eV:starEach [.Name x q2] X.env=(false,eval (.Name x q2) X.env)::starEach [] X.env:=by rfl)(ip:(backTo pos (starEach [.Name x q2] X.env)).any (·.1)=false:=by rfl):PE X (.Call (.Name "isinstance" p) [.Name n q1,.Name x q2] [] pos) (tE X E (yG (bP tab) i x)):=
 MC (.blt hmx hb hn) (hS.Uv x _ (.inr ⟨T,rfl,hb,hmx⟩)) hg hm OC hN hv hd j6 OD hs eV ip
end
section
variable[DecidableEq κ]
def uV(aI:List (κ×ao))(k:κ):Option ao:=(aI.find? fun kv=>decide (kv.1=k)).map (·.2)
def uW(aI:List (κ×ao))(k:κ)(v:ao):List (κ×ao):=
 if(aI.any fun kv=>decide (kv.1=k))=true then aI.map (fun kv=>if kv.1=k then(kv.1,v)else kv)else aI++[(k,v)]
variable{K:_R}
theorem gD.nil:gD K ρ H ([]:List (κ×ao)) []:=⟨rfl,aY.nil⟩
theorem gD.cons{k:κ}{u:ao}{v:V}{aI:List (κ×ao)}{kD:List (κ×V)}(r:Rl K ρ H u v)(p:gD K ρ H aI kD):gD K ρ H ((k,u)::aI) ((k,v)::kD):=
 ⟨by simp only[VB,p.1],aY.cons r p.2⟩
theorem gD.cQ{k:κ}{u:ao}{aI:List (κ×ao)}{l:List (κ×V)}(p:gD K ρ H ((k,u)::aI) l):∃v kD,l=(k,v)::kD/\Rl K ρ H u v/\gD K ρ H aI kD:=by
 obtain⟨h1,h2⟩:=p;cases l with
 |nil=>simp at h1
 |cons x l=>
  obtain⟨k',v⟩:=x;simp only[VB,List.cons.injEq]at h1 h2;obtain⟨rfl,h1⟩:=h1;obtain⟨v',r,e,q1,q2⟩:=h2.cQ;simp only[List.cons.injEq]at e;obtain⟨rfl,rfl⟩:=e;exact⟨v,l,rfl,q1,h1,q2⟩
theorem gD.fF{l:List (κ×V)}(p:gD K ρ H ([]:List (κ×ao)) l):l=[]:=by
 have:=p.1;cases l with
 |nil=>rfl
 |cons=>simp at this
theorem gD.mono{aI:List (κ×ao)}{l:List (κ×V)}(p:gD K ρ H aI l)(e:aD ρ H ρ' H'):gD K ρ' H' aI l:=⟨p.1,aY.mono e _ _ p.2⟩
theorem gD.length{aI:List (κ×ao)}{l:List (κ×V)}(p:gD K ρ H aI l):aI.length=l.length:=by have:=Xg List.length p.1;simpa using this
theorem gD.val(k:κ):∀{aI:List (κ×ao)}{l:List (κ×V)},gD K ρ H aI l->(uV aI k=none/\iX l k=none)\/∃u v,uV aI k=some u/\iX l k=some v/\Rl K ρ H u v
 |[],l,p=>by rw[p.fF];exact .inl ⟨rfl,rfl⟩
 |(k',u)::aI,l,p=>by
  obtain⟨v,l',rfl,r,p'⟩:=p.cQ;by_cases e:k'=k
  .exact .inr ⟨u,v,by simp[uV,e],by simp[iX,e],r⟩
  .rcases gD.val k p' with⟨h1,h2⟩|⟨u',v',h1,h2,h3⟩
   .exact .inl ⟨by simpa[uV,e]using h1,by simpa[iX,e]using h2⟩
   .exact .inr ⟨u',v',by simpa[uV,e]using h1,by simpa[iX,e]using h2,h3⟩
theorem gD.any(k:κ):∀{aI:List (κ×ao)}{l:List (κ×V)},gD K ρ H aI l->(aI.any fun kv=>decide (kv.1=k))=l.any fun kv=>decide (kv.1=k)
 |[],l,p=>by rw[p.fF];rfl
 |(k',u)::aI,l,p=>by obtain⟨v,l',rfl,r,p'⟩:=p.cQ;simp only[Xf,gD.any k p']
theorem gD.uK(k:κ){u:ao}{v:V}(r:Rl K ρ H u v):∀{aI:List (κ×ao)}{l:List (κ×V)},gD K ρ H aI l->gD K ρ H (aI.map fun kv=>if kv.1=k then(kv.1,u)else kv) (l.map fun kv=>if kv.1=k then(kv.1,v)else kv)
 |[],l,p=>by rw[p.fF];exact gD.nil
 |(k',u')::aI,l,p=>by
  obtain⟨v',l',rfl,r',p'⟩:=p.cQ;simp only[VB];by_cases e:k'=k
  .rw[Vu e,Vu e];exact gD.cons r (gD.uK k r p')
  .rw[VA e,VA e];exact gD.cons r' (gD.uK k r p')
theorem gD.snoc{k:κ}{u:ao}{v:V}(r:Rl K ρ H u v):∀{aI:List (κ×ao)}{l:List (κ×V)},gD K ρ H aI l->gD K ρ H (aI++[(k,u)]) (l++[(k,v)])
 |[],l,p=>by rw[p.fF];exact gD.cons r gD.nil
 |(k',u')::aI,l,p=>by obtain⟨v',l',rfl,r',p'⟩:=p.cQ;exact gD.cons r' (gD.snoc r p')
theorem gD.put(k:κ){u:ao}{v:V}(r:Rl K ρ H u v){aI:List (κ×ao)}{l:List (κ×V)}(p:gD K ρ H aI l):gD K ρ H (uW aI k u) (putK l k v):=by
 unfold uW putK;rw[p.any k];split
 .exact p.uK k r
 .exact p.snoc r
end
def dO:ao->Option da
 |.int i=>some (.inl i)
 |.str x=>some (.inr x)
 |_=>none
def keysOf:List ao->Option (List da)
 |[]=>some []
 |u::us=>match dO u,keysOf us with
  |some k,some ks=>some (k::ks)
  |_,_=>none
def jL:ao->Option (List da)
 |.tup us=>keysOf us
 |_=>none
section
variable{K:_R}
theorem uX{u:ao}{v:V}{k:da}(r:Rl K ρ H u v)(h:dO u=some k):v=kV k:=by
 cases u with
 |int i=>cases h;exact r.b!
 |str x=>cases h;exact r.jv
 |_=>cases h
theorem wF:∀{us:List ao}{vs:List V}{ks:List da},aY K ρ H us vs->keysOf us=some ks->vs=ks.map kV
 |[],vs,ks,r,h=>by cases h;exact r.fF
 |u::us,vs,ks,r,h=>by
  obtain⟨v,r',rfl,h2,h3⟩:=r.cQ;unfold keysOf at h;split at h
  .rename_i k ks' e1 e2;cases h;rw[uX h2 e1,wF h3 e2];rfl
  .cases h
theorem qf{u:ao}{v:V}{ks:List da}(r:Rl K ρ H u v)(h:jL u=some ks):∃b,v=.ref b/\H b=some (.tup (ks.map kV)):=by
 cases u with
 |tup us=>
  obtain⟨b,vs,rfl,hb,rb⟩:=r.LX;rw[wF rb h]at hb;exact⟨b,rfl,hb⟩
 |_=>cases h
end
def mm(st:ai)(d k:ao):Option (Option ao):=match d with
 |.loc n=>match st[n]? with
  |some (.dK aI)=>(dO k).map fun q=>uV aI q
  |some (.dT aI)=>(jL k).map fun q=>uV aI q
  |_=>none
 |_=>none
def kZ(st:ai)(d k v:ao):Option ai:=match d with
 |.loc n=>match st[n]? with
  |some (.dK aI)=>if aI.length<sizeLine then(dO k).map fun q=>st.set n (.dK (uW aI q v))else none
  |some (.dT aI)=>if aI.length<sizeLine then(jL k).map fun q=>st.set n (.dT (uW aI q v))else none
  |_=>none
 |_=>none
theorem s_{K:_R}{st:ai}{d k:ao}{x y:V}{o:Option ao}(sr:SR K ρ st H)(rd:Rl K ρ H d x)(rk:Rl K ρ H k y)(h:mm st d k=some o):
  ∃a o',x=.ref a/\oZ H a y o'/\R7 H a/\((o=none/\o'=none)\/∃u v,o=some u/\o'=some v/\Rl K ρ H u v):=by
 cases d with
 |loc n=>
  obtain⟨a,rfl,ha⟩:=rd.eO;unfold mm at h;dsimp only at h;split at h
  .rename_i aI e;obtain⟨l,hl,p⟩:=sr.cell n _ a e ha;cases z:dO k with
   |none=>rw[z]at h;cases h
   |some q=>
    rw[z]at h;cases h;have:=uX rk z;subst this;exact⟨a,iX l q,rfl,oZ.k hl,.inl ⟨l,.inl hl⟩,p.val q⟩
  .rename_i aI e;obtain⟨l,hl,p⟩:=sr.cell n _ a e ha;cases z:jL k with
   |none=>rw[z]at h;cases h
   |some q=>
    rw[z]at h;cases h;obtain⟨b,rfl,hb⟩:=qf rk z;exact⟨a,iX l q,rfl,oZ.t hl hb,.inr ⟨l,.inl hl⟩,p.val q⟩
  .cases h
 |_=>cases h
theorem yI{K:_R}{st av:ai}{d k v:ao}{x y z:V}(sr:SR K ρ st H)(rd:Rl K ρ H d x)(rk:Rl K ρ H k y)(rv:Rl K ρ H v z)(h:kZ st d k v=some av):
  ∃a H',x=.ref a/\uL H a y z H'/\aD ρ H ρ H'/\SR K ρ av H':=by
 cases d with
 |loc n=>
  obtain⟨a,rfl,ha⟩:=rd.eO;unfold kZ at h;dsimp only at h;split at h
  .rename_i aI e;obtain⟨l,hl,p⟩:=sr.cell n _ a e ha;split at h
   .rename_i hz;cases zk:dO k with
    |none=>rw[zk]at h;cases h
    |some q=>
     rw[zk]at h;cases h;have:=uX rk zk;subst this;have a0:aD ρ H ρ (upd H a (.dK (putK l q z))):=aD.put hl (fun _ z=>by cases z) (fun _ _ z=>by cases z);exact⟨a,_,rfl,uL.k hl (by rw[<-p.length];exact hz),a0,sr.set e rfl rfl ha hl (fun _ z=>by cases z) (fun _ _ z=>by cases z) ⟨_,bu,(p.put q rv).mono a0⟩⟩
   .cases h
  .rename_i aI e;obtain⟨l,hl,p⟩:=sr.cell n _ a e ha;split at h
   .rename_i hz;cases zk:jL k with
    |none=>rw[zk]at h;cases h
    |some q=>
     rw[zk]at h;cases h;obtain⟨b,rfl,hb⟩:=qf rk zk;have a0:aD ρ H ρ (upd H a (.dT (putK l q z))):=aD.put hl (fun _ z=>by cases z) (fun _ _ z=>by cases z);exact⟨a,_,rfl,uL.t hl hb (by rw[<-p.length];exact hz),a0,sr.set e rfl rfl ha hl (fun _ z=>by cases z) (fun _ _ z=>by cases z) ⟨_,bu,(p.put q rv).mono a0⟩⟩
   .cases h
  .cases h
 |_=>cases h
def jM:ME:=fun _ st=>.ok (.loc st.length) (st++[.dT []])
def gQ:F2:=fun d k st=>match mm st d k with
 |some (some v)=>.ok v st
 |_=>.bad
def aaF(neg:Bool):F2:=fun k d st=>match mm st d k with
 |some o=>.ok (.bl (if neg then !o.isSome else o.isSome)) st
 |none=>.bad
def uZ(st:ai):ao->Bool
 |.loc n=>match st[n]? with
  |some (.dK _)=>true
  |some (.dT _)=>true
  |_=>false
 |_=>false
def i4(d k x:ME):ME:=fun μ st=>(d μ st).bind fun dv a0=>if uZ a0 dv=true then(k μ a0).bind fun kv cE=>(x μ cE).bind fun xv jE=>match mm jE dv kv with
 |some o=>.ok (o.getD xv) jE
 |none=>.bad else .bad
def k4(d k v:ME):MB:=fun μ st=>(v μ st).sb μ fun vv a0=>(d μ a0).sb μ fun dv cE=>(k μ cE).sb μ fun kv jE=>match kZ jE dv kv vv with
 |some l0=>.nx μ l0
 |none=>.bad
section
variable{i f:Expr}{md mk mv mx:ME}
theorem wG{K:_R}{st:ai}(sr:SR K ρ st H){p:_Z}(hp:H p=none){ob:HO}{c:aR}(k:fG K (ρ++[p]) (upd H p ob) c p):
  aD ρ H (ρ++[p]) (upd H p ob)/\SR K (ρ++[p]) (st++[c]) (upd H p ob)/\Rl K (ρ++[p]) (upd H p ob) (.loc st.length) (.ref p):=by
 refine⟨aD.snoc p (dH hp),sr.alloc hp k,Rl.DJ ?_⟩;rw[<-sr.len,Vv (Vo _),Wj];rfl
theorem Eb:PE X (.Dict [] [] pos) (tE X E jM):=by refine PE.imp Dp ?_;rintro σ H Q ⟨μ,ρ,st,rs,sr,h⟩ p hp;obtain⟨k1,k2,k3⟩:=wG (c:=.dT []) sr hp ⟨[],bu,gD.nil⟩;exact h _ _ _ k1 k2 k3
theorem HS(hu:X.A.units+64<cLine)(ho:PE X o (tE X E md))(hi:PE X i (tE X E mk))(hs:Lz i:=by exact fun _ _=>rfl):PE X (.Subscript o i pos) (tE X E (ak gQ md mk)):=by
 refine PE.imp (G! (by lia) ho hi hs) ?_;rintro σ H Q ⟨μ,ρ,st,rs,sr,h⟩;refine go μ ρ st rs sr h fun d a0 ρ1 H1 x e1 cb r1 h1=>?_;refine go μ ρ1 a0 (rs.mono e1) cb h1 fun k cE ρ2 H2 y e2 lZ r2 h2=>?_;unfold gQ at h2;split at h2
 .rename_i u hl;obtain⟨a,o',rfl,hd,_,hv⟩:=s_ lZ (Rl.mono e2 _ _ r1) r2 hl;rcases hv with⟨z,_⟩|⟨u',v,z,rfl,rv⟩
  .cases z
  .cases z;exact⟨a,v,rfl,hd,h2 ρ2 H2 v (aD.refl _ _) lZ rv⟩
 .exact h2.elim
theorem HU{K:_R}{st:ai}{d:ao}{x:V}(sr:SR K ρ st H)(r:Rl K ρ H d x)(h:uZ st d=true):∃a,x=.ref a/\R7 H a:=by
 cases d with
 |loc n=>
  obtain⟨a,rfl,ha⟩:=r.eO;obtain⟨c,hc,kc⟩:=sr.there ha;simp only[uZ,hc]at h;cases c with
  |dK aI=>obtain⟨l,hl,_⟩:=kc;exact⟨a,rfl,.inl ⟨l,.inl hl⟩⟩
  |dT aI=>obtain⟨l,hl,_⟩:=kc;exact⟨a,rfl,.inr ⟨l,.inl hl⟩⟩
  |_=>cases h
 |_=>cases h
theorem Ec(hu:X.A.units+64<cLine)(ho:PE X o (tE X E md))(he:PE X e (tE X E mk))(hf:PE X f (tE X E mx))(m:M2 X o "get" apos e f bV:=by exact⟨rfl,rfl,rfl,rfl⟩):PE X (.Call (.Attribute o "get" apos) [e,f] [] bV) (tE X E (i4 md mk mx)):=by
 refine PE.imp (Dq (by lia) ho he hf m) ?_;rintro σ H Q ⟨μ,ρ,st,rs,sr,h⟩;refine go μ ρ st rs sr h fun d a0 ρ1 H1 x e1 cb r1 h1=>?_;split at h1
 .rename_i hd;obtain⟨a,rfl,ia⟩:=HU cb r1 hd;refine⟨a,rfl,ia,?_⟩;refine go μ ρ1 a0 (rs.mono e1) cb h1 fun k cE ρ2 H2 y e2 lZ r2 h2=>?_;refine go μ ρ2 cE ((rs.mono e1).mono e2) lZ h2 fun xv jE ρ3 H3 z e3 yu r3 h3=>?_;split at h3
  .rename_i ov hl;obtain⟨a',o',ea,S6,_,hv⟩:=s_ yu (Rl.mono (e2.trans e3) _ _ r1) (Rl.mono e3 _ _ r2) hl;cases ea;refine⟨o',S6,?_⟩;rcases hv with⟨rfl,rfl⟩|⟨u,v,rfl,rfl,rv⟩
   .exact h3 ρ3 H3 z (aD.refl _ _) yu r3
   .exact h3 ρ3 H3 v (aD.refl _ _) yu rv
  .exact h3.elim
 .exact h1.elim
theorem HV(hu:X.A.units+64<cLine)(ho:PE X o (tE X E md))(hi:PE X i (tE X E mk))(hv:PE X value (tE X E mv))(hs:swapsWith value (some (.Subscript o i pos')) pos.line X.env=pure false:=by rfl):
  PS X (.Assign [.Subscript o i pos'] value pos) (tS X E (k4 md mk mv)):=by
 refine PS.imp (G? (by lia) ho hi hv hs) ?_;rintro D σ H ⟨μ,ρ,st,rs,sr,h⟩;refine DO μ ρ st rs sr h fun v a0 ρ1 H1 z e1 cb r1 h1=>?_;refine DO μ ρ1 a0 (rs.mono e1) cb h1 fun d cE ρ2 H2 x e2 lZ r2 h2=>?_;refine DO μ ρ2 cE ((rs.mono e1).mono e2) lZ h2 fun k jE ρ3 H3 y e3 yu r3 h3=>?_;split at h3
 .rename_i l0 CT;obtain⟨a,H4,rfl,hd,s4,nD⟩:=yI yu (Rl.mono e3 _ _ r2) r3 (Rl.mono (e2.trans e3) _ _ r1) CT;exact⟨a,H4,rfl,hd,h3 ρ3 H4 σ s4 nD ((((rs.mono e1).mono e2).mono e3).mono s4)⟩
 .exact h3.elim
end
section
variable{ms:MA}
theorem MJ{a b:Expr}{ma mb:ME}(ha:PE X a (tE X E ma))(hb:PE X b (tE X E mb))(hs:uA b:=by exact fun _ _=>rfl):PE X (.Subscript a b pos) (tE X E (ak cw ma mb)):=Qf Us ha hb hs
end
def mq(us:List ao)(lo hi:Option Int):List ao:=(us.drop (HT.e? us.length 0 lo)).take (HT.e? us.length us.length hi-HT.e? us.length 0 lo)
theorem aY.cut{K:_R}{us:List ao}{vs:List V}(r:aY K ρ H us vs)(lo hi:Option Int):aY K ρ H (mq us lo hi) (uw vs lo hi):=by unfold mq uw;rw[r.length];exact aY.take _ (aY.drop _ r)
abbrev MO:=Env->ai->cD (Option Int)
abbrev RO:_V->Hp->Option Int->Option Int->Prop:=fun _ _ a b=>b=a
abbrev So(X:Cx)(E:XK)(m:MO):TO:=tG (wo X) E RO m
def dP:MO:=fun _ st=>.ok none st
def dy(m:ME):MO:=fun μ st=>(m μ st).bind fun v av=>match v with
 |.int i=>.ok (some i) av
 |_=>.bad
def Ed(lo hi:Option Int):ao->ai->cD ao
 |.tup us,st=>if HT.e? us.length 0 lo=0/\HT.e? us.length us.length hi=us.length then .bad else .ok (.tup (mq us lo hi)) st
 |.loc n,st=>match aq st n with
  |some us=>.ok (.loc st.length) (st++[.lst (mq us lo hi)])
  |none=>.bad
 |_,_=>.bad
def mw(a:ME)(lo hi:MO):ME:=fun μ st=>(a μ st).bind fun x a0=>(lo μ a0).bind fun l cE=>(hi μ cE).bind fun h jE=>Ed l h x jE
section
variable{m:ME}
theorem PO.imp{e:Option Expr}{t t':TO}(h:PO X e t)(k:∀σ H Q,t' σ H Q->t σ H Q):PO X e t':=fun ag s σ H Q I q=>h ag s σ H Q I (k σ H Q q)
theorem HW:PO X none (So X E dP):=PO.imp G0 fun σ H Q⟨μ,ρ,st,rs,sr,h⟩=>h ρ H none (aD.refl _ _) sr rfl
theorem HX(h:PE X e (tE X E m)):PO X (some e) (So X E (dy m)):=by
 refine PO.imp (G1 h) ?_;rintro σ H Q ⟨μ,ρ,st,rs,sr,h⟩;refine go μ ρ st rs sr h fun u a0 ρ1 H1 x e1 cb r1 h1=>?_;cases u with
 |int i=>exact⟨i,r1.b!,h1 ρ1 H1 (some i) (aD.refl _ _) cb rfl⟩
 |_=>exact h1.elim
theorem Qq{lo hi:Option Expr}{ml mh:MO}(he:PE X e (tE X E m))(hl:PO X lo (So X E ml))(hh:PO X hi (So X E mh)):PE X (.Subscript e (.Slice lo hi none p2) pos) (tE X E (mw m ml mh)):=by
 refine PE.imp (Dh (JV.or G7 Ln) he hl hh) ?_;rintro σ H Q ⟨μ,ρ,st,rs,sr,h⟩;refine go μ ρ st rs sr h fun u a0 ρ1 H1 x e1 cb r1 h1=>?_;refine go (R1:=RO) μ ρ1 a0 (rs.mono e1) cb h1 fun l cE ρ2 H2 l' e2 lZ r2 h2=>?_;cases r2;refine go (R1:=RO) μ ρ2 cE ((rs.mono e1).mono e2) lZ h2 fun k jE ρ3 H3 k' e3 yu r3 h3=>?_;cases r3;have ru:=Rl.mono e3 _ _ (Rl.mono e2 _ _ r1);cases u with
 |tup us=>
  obtain⟨a,vs,rfl,ha,ra⟩:=ru.gu;unfold Ed at h3;dsimp only at h3;split at h3
  .exact h3.elim
  .rename_i hz;refine .inr ⟨a,vs,rfl,ha,by rw[<-ra.length];exact hz,fun p hp=>?_⟩;have s:=dH (o:=.tup (uw vs l k)) hp;exact h3 ρ3 _ _ (aD.same s) (yu.grow s) (Rl.p9 bu (aY.mono (aD.same s) _ _ (ra.cut l k)))
 |loc n=>
  obtain⟨a,rfl,ha⟩:=ru.eO;cases z:aq jE n with
  |none=>simp only[Ed,z]at h3;exact h3.elim
  |some us=>
   simp only[Ed,z]at h3;obtain⟨vs,hs,rv⟩:=bp yu z ha;refine .inl ⟨a,vs,rfl,hs,fun p hp=>?_⟩;obtain⟨k1,k2,k3⟩:=iw yu (rv.cut l k) hp;exact h3 _ _ _ k1 k2 k3
 |_=>exact h3.elim
end
def aaG:FM
 |.loc n,[],st=>match st[n]? with
  |some (.lst us)=>match us[us.length-1]? with
   |some u=>.ok u (st.set n (.lst us.dropLast))
   |none=>.bad
  |_=>.bad
 |_,_,_=>.bad
def Sq:FM
 |.loc n,[.loc m],st=>match st[n]?,st[m]? with
  |some (.lst us),some (.lst ws)=>if us.length+ws.length<=sizeLine then .ok .dc (st.set n (.lst (us++ws)))else .bad
  |_,_=>.bad
 |_,_,_=>.bad
section
variable{mo:ME}{f:FM}
end
def MK:F2:=o7 fun i j st=>.ok (.int (i-j)) st
def HY(k:Nat)(f:F2)(e:ME):MB:=fun μ st=>(ae k μ st).sb μ fun x a0=>(e μ a0).sb μ fun w cE=>(f x w cE).sb μ fun r jE=>.nx (μ.set k (some r)) jE
section
variable{i v:Expr}{mo mi mv:ME}{f:F2}
theorem HZ:dq X (inplaceOp .Sub) (rM (wo X) E MK):=by refine dq.imp GP ?_;rintro x y H Q ⟨ρ,st,u,w,sr,r1,r2,h⟩;obtain⟨i,j,rfl,rfl,h⟩:=gi h;exact⟨i,j,r1.b!,r2.b!,de sr h⟩
theorem ML{op:Operator}{k:Nat}(hf:dq X (inplaceOp op) (rM (wo X) E f))(hN:X.N.Nodup)(hv:PE X v (tE X E mv))(hi:X.N[k]?=some x:=by rfl)(hx:Loc X.env.scope x:=by first|exact Or.inl rfl|exact Or.inr rfl)(hn:X.fn x=true\/X.env.scope.names.lookup x=some .local:=by first|exact .inl rfl|exact .inr rfl|assumption):PS X (.AugAssign (.Name x GV) op v pos) (tS X E (HY k f mv)):=by
 refine PS.imp (K6 hN hi hx hv (fun ag s σ H x y v u Q I rx ry q=>hf ag s σ H x y v u Q I rx ry q) hn) ?_;rintro D σ H ⟨μ,ρ,st,rs,sr,h⟩;unfold HY ae at h;split at h
 .rename_i g e;obtain⟨w,e',r⟩:=rs.at_ k g e;split at h
  .exact h.elim
  .rename_i n;have rg:=r.un n;refine⟨w,e',?_⟩;refine DO μ ρ st rs sr h fun t a0 ρ1 H1 y e1 cb r1 h1=>?_;refine⟨ρ1,a0,g,t,cb,Rl.mono e1 _ _ rg,r1,?_⟩;cases zf:f g t a0 with
   |ok c cE=>
    rw[zf]at h1;intro ρ2 H2 d e2 lZ r2;exact(wS.mono h1 e2) ρ2 H2 _ (aD.refl _ _) lZ (((rs.mono e1).mono e2).set k r2)
   |err c cE=>rw[zf]at h1;exact h1
   |bad=>rw[zf]at h1;exact h1
 .exact h.elim
end
def jc(hi:Int)(n:Nat):List ao:=(List.range n).map fun(i:Nat)=>ao.int (hi-(i:Int))
theorem Ee{K:_R}(lo:Int)(n:Nat):Mr K ρ H (jc lo n,fun _=>True) (Sf lo n):=by
 intro ρ' av H' e sr g i;refine⟨fun u hu=>?_,fun hi=>?_⟩
 .have hi:i<n:=by have:=d9 hu;simpa[jc]using this
  refine⟨hi,fun x Sl y=>?_⟩;obtain⟨rfl,rfl⟩:=y;have e:u=ao.int (lo-(i:Int)):=by simp only[jc,VF]at hu;rw[Xv hi]at hu;exact(VP hu).symm
  subst e;exact⟨aD.refl _ _,sr,Rl.mkInt _⟩
 .show n<=i;simpa[jc]using hi
def Ef(vs:List ao)(av:ai):cD Itm:=match vs with
 |[.int i,.int j,.int k]=>if k = -1/\-(2 ^ 62)<=i/\i<2 ^ 62/\-(2 ^ 62)<=j/\j<2 ^ 62 then .ok (jc i (i-j).toNat,fun _=>True) av else .bad
 |_=>.bad
def nF(m:MA):MI:=fun μ st=>(m μ st).bind Ef
section
variable{p:Pos}
theorem H9{a b c:Expr}{m:MA}(hg:Gl X "range")(hm:X.mg "range" = none)(ha:PA X [a,b,c] (tL X E m))(hs:starEach [a,b,c] X.env=[(false,eval a X.env),(false,eval b X.env),(false,eval c X.env)]:=by rfl)(eV:starEach [b,c] X.env=[(false,eval b X.env),(false,eval c X.env)]:=by rfl):
  PI X tg (.Call (.Name "range" p) [a,b,c] [] pos) (tI X E (nF m)):=by
 refine PI.imp (Ht hg hm ha hs eV) ?_;rintro σ H R ⟨μ,ρ,st,rs,sr,h⟩;refine go (R1:=aY X.K) μ ρ st rs sr h fun us a0 ρ1 H1 xs e1 cb r1 h1=>?_;unfold Ef at h1;split at h1
 .rename_i i j k;obtain⟨v,r',rfl,rv,rr⟩:=r1.cQ;obtain⟨w,z,rfl,yi,rz⟩:=rr.Ow;split at h1
  .rename_i hz;obtain⟨rfl,hz⟩:=hz;exact⟨i,j,by rw[rv.b!,yi.b!,rz.b!],hz,h1 ρ1 H1 _ (aD.refl _ _) cb (Ee i _)⟩
  .exact h1.elim
 .exact h1.elim
end
def u3:FN
 |[.int i,.int j],st=>.ok (.int (if j>i then j else i)) st
 |_,_=>.bad
def BU:FN
 |[.bl b],st=>.ok (.int (if b then 1 else 0)) st
 |_,_=>.bad
theorem BV(hh:X.A.handled=none):cm X (.builtin "max") (cM (wo X) E u3):=by
 refine cm.imp (BB hh) ?_;rintro xs H Q ⟨ρ,st,us,sr,r,h⟩;unfold u3 at h;split at h
 .rename_i i j;obtain⟨v,w,rfl,r1,r2⟩:=r.Ow;exact⟨i,j,by rw[r1.b!,r2.b!],de sr h⟩
 .exact h.elim
theorem BW:cm X (.type "int") (cM (wo X) E BU):=by
 refine cm.imp BC ?_;rintro xs H Q ⟨ρ,st,us,sr,r,h⟩;unfold BU at h;split at h
 .rename_i b;obtain⟨v,rfl,r1⟩:=r.yr;exact⟨b,by rw[r1.p8],de sr h⟩
 .exact h.elim
section
variable{mo:ME}{ms:MA}
theorem BX(ho:PE X o (tE X E mo))(ha:PA X (e::es) (tL X E ms))(iN:attributeBase o "append" X.env (eval o X.env)=eval o X.env:=by rfl)
  (uJ:((backTo bV (starEach (e::es) X.env)).all (fun x => !x.1)&&(backToKw bV (keywordEach [] X.env)).all (fun x=>x.1.isSome)
   && decide ((e::es).length+([]:List Keyword).length+(if([]:List Keyword).isEmpty then 0 else 1)<30))=true:=by rfl)
  (iO:(apos.endLine==bV.line)=true:=by rfl) (hs:starEach (e::es) X.env=(false,eval e X.env)::starEach es X.env:=by rfl) (iW:(backTo bV (starEach es X.env)).any (·.1)=false:=by rfl):
  PE X (.Call (.Attribute o "append" apos) (e::es) [] bV) (tE X E (iP dS mo ms)):=yD F.slot_list_append F.type_list_append yC ho ha iN uJ iO hs iW
end
theorem Qr{k:Nat}{cl cl':List (Str×_Z)}{caps':List Nat}(o6:closureFor scope X.env=pure cl')(A:f_ X scope cl a_)(B:f_ X scope cl' caps')(has:((relabel scope X.env).names.all fun p => !(p.2 == .cell || p.2 == .free) || (cl'.map (·.1)).contains p.1)=true)(fu:(scope.names.all fun p => !(p.2 == .cell))=true)(kind:scope.kind=.function)(names:(scope.names.all fun p => !(p.2 == .local) || scope.names.lookup p.1==some .local)=true)(len:N.length=k+a_.length)(hN:N.drop k=cl.map (·.1)):rQ X N scope cl' k a_ where
 o6:=o6
 sub:=B.sub
 has:=fun x h=>by
  have m:x∈cl'.map (·.1):=by rcases h with h|h<;>(have m:=Wx h;have z:=Wh.mp has _ m;simpa using z)
  exact iE m
 fu:=fun x hx h=>by have z:=Wh.mp fu x hx;simp[h]at z
 kind:=kind
 names:=fun x hx h=>by have z:=Wh.mp names x hx;simpa[h]using z
 len:=len
 at_:=fun i j x h1 h2=>A.at_ i j x h1 (by rw[<-hN,Wy];exact h2)
theorem len0{C:_T->Prop}(h:C [])(us:_T)(hl:us.length=0):C us:=by rw[Wi hl];exact h
theorem Eg{C:_T->Prop}(h:∀a(r:_T),r.length=n->C (a::r))(us:_T)(hl:us.length=n+1):C us:=by
 cases us with
 |nil=>cases hl
 |cons a r=>exact h a r (YU hl)
theorem MM{C:_T->Prop}(h:∀a,C [a]):∀us:_T,us.length=1->C us:=Eg fun a=>len0 (C:=fun r=>C (a::r)) (h a)
theorem MP{C:_T->Prop}(h:∀a b,C [a,b]):∀us:_T,us.length=2->C us:=Eg fun a=>MM (C:=fun r=>C (a::r)) (h a)
theorem H_{C:_T->Prop}(h:∀a b c,C [a,b,c]):∀us:_T,us.length=3->C us:=Eg fun a=>MP (C:=fun r=>C (a::r)) (h a)
theorem Qs{C:_T->Prop}(h:∀a b c d,C [a,b,c,d]):∀us:_T,us.length=4->C us:=Eg fun a=>H_ (C:=fun r=>C (a::r)) (h a)
theorem Uw{C:_T->Prop}(h:∀a b c d e,C [a,b,c,d,e]):∀us:_T,us.length=5->C us:=Eg fun a=>Qs (C:=fun r=>C (a::r)) (h a)
end MN
variable {us ws:List MN.ao}
variable {u v:MN.ao}
variable {s' st s1 av s2:MN.ai}
variable {body:MN.MB}
variable {m m2:MN.ME}
variable {mg:Str->Option Value}
variable {ms:MN.MA}
variable {as:MN.AS}
variable {x4 x0 x1:Option MN.ao}
namespace L2
open Spec PyProof.Rows W Builtin Builtin.ObjectAttr Builtin.Getset_descriptor Calls
def u5(K:_R)(C:_Z):Bool:=findIn K (.ref C) "__getattribute__" == some (some (.builtin "BaseException.__getattribute__"))&&(findIn K (.ref C) "__getattr__" == some none)&&(findIn K (.ref C) "__class__" == some (some (.builtin "object.__class__"))) &&
 (mroIn K C (.type "object")==some true)&&(mroIn K C (.type "BaseException")==some true)&&(specialIn K (.builtin "object.__class__") "__get__" == some (some (.builtin "getset_descriptor.__get__")))&&(takesIn K (.builtin "object.__class__")==some true)&&(kitCls K (.ref C) (.ref C)==some true)
structure jN(K:_R)(C:_Z):Prop where
 ga:findIn K (.ref C) "__getattribute__" = some (some (.builtin "BaseException.__getattribute__"))
 gh:findIn K (.ref C) "__getattr__" = some none
 gc:findIn K (.ref C) "__class__" = some (some (.builtin "object.__class__"))
 mo:mroIn K C (.type "object")=some true
 mb:mroIn K C (.type "BaseException")=some true
 sg:specialIn K (.builtin "object.__class__") "__get__" = some (some (.builtin "getset_descriptor.__get__"))
 tk:takesIn K (.builtin "object.__class__")=some true
 kc:kitCls K (.ref C) (.ref C)=some true
theorem BY{K:_R}(h:u5 K C=true):jN K C:=by unfold u5 at h;simp only[Wv]at h;obtain⟨⟨⟨⟨⟨⟨⟨a,b⟩,c⟩,d⟩,e⟩,f⟩,g⟩,i⟩:=h;exact⟨Wr.mp a,Wr.mp b,Wr.mp c,Wr.mp d,Wr.mp e,Wr.mp f,Wr.mp g,Wr.mp i⟩
section
variable{E:_O}{s:_Y}{K:_R}{x:_Z}{ox:Obj}{R:Result->_Y->Prop}
theorem Ay{M:Model}(hx:h.get? x=some ox)(hc:ox.cls=.ref C):Looks M h (typeOf (.ref x)) (.ref C):=hc▸(Looks.ld hx).andThen .now
theorem yJ{tp:_X}(X:K.In s.heap)(hx:s.heap.get? x=some ox)(hc:ox.cls=.ref C)(hm:mroIn K C (.type "object")=some true)(h:R (.ok (.ret (.ref C))) s):codeAny (model prog w) A (.call (.builtin "getset_descriptor.__get__") ⟨[.builtin "object.__class__",.ref x,tp],[]⟩) R s:=by
 obtain⟨hh,g,dr,t,os⟩:=s;have L0:=Ay (M:=model prog w) hx hc;have L1:=looks_mroIn (M:=model prog w) X hm;refine YS KF.slot_gs.plain KF.entry_gs (KF.slot_gs.check _ _ _ _ _ _ _ _ KF.type_class (KF.args_gs _ _ _) ?_);unfold Builtin.«getset_descriptor.__get__» descrGet;rw[dga_obj];refine Vl (Vq ?_);unfold descrGetter descrCheckInstance descrNameAndClass isInstance;simp only[KF.owner_class]
 repeat lk
 refine⟨Code.quiet_builtin _ (by decide +kernel),W' KF.entry_class ?_⟩;unfold Builtin.«object.__class__» shownTypeOf
 repeat lk
 exact h
theorem wH{M:Model}(X:K.In h)(q:jN K C):Looks M h (find (.ref x) (.ref C) "__class__") (.bind (.builtin "getset_descriptor.__get__") (.builtin "object.__class__")):=by have L1:=looks_findIn (M:=M) X q.gc;have L2:Looks M h (getOf (some (.builtin "object.__class__"))) (some (.builtin "getset_descriptor.__get__")):=looks_specialIn X q.sg;have L3:=looks_takesIn (M:=M) X q.tk;refine L1.andThen (L2.andThen ?_);exact(show Looks M h (dataDescriptor? (some (.builtin "object.__class__")) (some (.builtin "getset_descriptor.__get__"))) (some (.builtin "getset_descriptor.__get__",.builtin "object.__class__"))from L3.andThen .now).andThen (Looks.tag .now)
theorem wI{tk:Tok}(X:K.In s.heap)(hx:s.heap.get? x=some ox)(hc:ox.cls=.ref C)(q:jN K C)(h:R (.ok (.ret (.ref C))) s):
  codeAny (model prog w) A (.call (.builtin "BaseException.__getattribute__") ⟨[.ref x,.str "__class__" tk],[]⟩) R s:=by
 obtain⟨hh,g,dr,t,os⟩:=s;have L0:=Ay (M:=model prog w) hx hc;have L1:=looks_mroIn (M:=model prog w) X q.mb;have L2:=wH (M:=model prog w) (x:=x) X q;refine YS Zn.ga.plain F.entry_bexc_ga ?_;have hk:builtinKind "BaseException.__getattribute__" = some .slot:=by decide +kernel
 have MQ:splitId "BaseException.__getattribute__" = some ("BaseException","__getattribute__"):=by decide +kernel
 have ha:=F.args_bexc_ga (.ref x) (.str "__class__" tk);simp only[checkBuiltinCall,hk,MQ];refine Vl ?_;unfold isInstance;refine Vl (L0.at (L1.at ?_));simp only[W?,V3,WN];unfold argsOk at ha;generalize Manifest.signature? "BaseException.__getattribute__" = sg at ha⊢;cases sg
 all_goals (try (dsimp only at ha⊢;rw[ha]))
 all_goals refine Vq ?_
 all_goals unfold Builtin.«object.__getattribute__»
 all_goals (refine Vl (Vq ?_))
 all_goals (refine Vl (Vq ?_))
 all_goals (refine Vl (L0.at (Vl (L2.at ?_))))
 all_goals (unfold bindTo)
 all_goals (dsimp only)
 all_goals (refine Vl (W4 ?_))
 all_goals (refine X3 (yJ X hx hc q.mo ?_))
 all_goals (exact Vq h)
theorem BZ{tk:Tok}(X:K.In s.heap)(hx:s.heap.get? x=some ox)(hc:ox.cls=.ref C)(q:jN K C)(h:Q (.ref C) s):wpAny (model prog w) A (getAttrBy (.ref x) (.str "__class__" tk) false) Q E s:=by
 obtain⟨hh,g,dr,t,os⟩:=s;have L0:=Ay (M:=model prog w) hx hc;have L1:=looks_findIn (M:=model prog w) X q.ga;have L2:=looks_findIn (M:=model prog w) X q.gh;unfold getAttrBy;refine W4 (Vl (L0.at (Vl (L1.at ?_))));have hx2:(Value.builtin "BaseException.__getattribute__" == Value.builtin "object.__getattribute__")=false:=by decide +kernel
 have Ux:(onTheHeap (Value.ref C)&&Value.builtin "BaseException.__getattribute__" == Value.builtin "object.__getattribute__")=false:=by rw[hx2];rfl
 dsimp only;rw[VA (by rw[Ux];decide)];unfold getAttrByItsOwn;refine Vl ?_;have L3:Looks (model prog w) hh (hookBefore (.ref C)) none:=looks_hook X (by rw[Vu (by rfl)];exact q.gh);refine L3.at (Vl (XJ (W4 ?_)));unfold callGetattribute;rw[VA (by simp)];unfold boundAndCalled;rw[Zn.ga.bind (.ref x)];refine Vl (Vq ?_);refine X3 (wI X hx hc q ?_);exact handed_on rfl h
theorem wJ{Q:_U->_Y->Prop}(X:K.In s.heap)(hx:s.heap.get? x=some ox)(hc:ox.cls=.ref C)(q:jN K C)(h:Q (some (.ref C)) {s with toks:=s.toks+1}):wpAny (model prog w) A (getAttr? (.ref x) "__class__") Q E s:=by unfold getAttr? getAttrBy?;refine Vl (wpAny_mkText (Vl (XJ (BZ X hx hc q ?_))));exact Vq h
end
theorem Eh{K:_R}{x:_Z}{ox:Obj}(hc:ox.cls=.ref C)(q:jN K C):KitX K (.ref x) (.ref C) (fun h=>h.get? x=some ox) where
 ty:=fun _ _ _ hx=>Ay hx hc
 it:=fun M h X _=>(kit_cls (M:=M) X q.kc).2.1
 ne:=fun h tp dd aF n sl X e=>Bool.eq_false_iff.mpr fun z=>by
  have z:=Wr.mp z;cases z;have kc:=q.kc;unfold kitCls at kc;dsimp only at kc;split at kc
  .rename_i z;rw[Wv]at z;have z0:=z.1;unfold clsIn at z0;split at z0
   .rename_i c' d' cd' JQ ho;rw[X _ _ ho]at e;cases e
   .cases z0
  .cases kc
 ca:=fun X hx k=>wJ X hx hc q k
end L2
namespace MN
open Spec L2
open PyProof.Rows hiding St
inductive rS(K:_R)(mg:_P):_W->Prop
 |nil:rS K mg []
 |cons {x:Str} {C:_Z} {r:_W} (hm:mg x=some (.ref C)) (hq:u5 K C=true) (hr:rS K mg r):rS K mg (x::r)
theorem rS.at_{K:_R}{c:Str}:∀{qs:_W},rS K mg qs->qs.contains c=true->∃C,mg c=some (.ref C)/\jN K C
 |_,.nil,h=>by simp at h
 |_,.cons (x:=x) hm hq hr,h=>by
  by_cases e:c=x
  .subst e;exact⟨_,hm,BY hq⟩
  .exact hr.at_ (by simpa[e]using h)
section
variable{p:Pos}{n:Str}{tab:List (Str×Str×Bool)}{qs xs:_W}{cx:Nat}
end
section
variable{K:_R}{c:_Z}{o:Obj}
theorem Ei(hc:Fz H c o){a:_Z}{vs:List V}(h:jB K H a vs):jB K (hide H c) a vs:=by
 rcases h with(h|⟨o',h⟩)|h
 .exact .inl (.inl (by rw[cj (fun z=>by rw[z,hc]at h;cases h)];exact h))
 .exact .inl (.inr ⟨o',by rw[cj (fun z=>by rw[z,hc]at h;cases h)];exact h⟩)
 .exact .inr h
mutual
theorem Rl.hide(hc:Fz H c o):∀(u:ao)(v:V),Rl K ρ H u v->Rl K ρ (hide H c) u v
 |.dc,_,h=>h
 |.bl _,_,h=>h
 |.int _,_,h=>h
 |.str _,_,h=>h
 |.tup us,v,h=>by unfold Rl at h⊢;obtain⟨a,vs,h1,h2,h3⟩:=h;exact⟨a,vs,h1,by rw[cj (fun z=>by rw[z,hc]at h2;cases h2)];exact h2,aY.hide hc us vs h3⟩
 |.mt us,v,h=>by unfold Rl at h⊢;obtain⟨a,vs,h1,h2,h3⟩:=h;exact⟨a,vs,h1,Ei hc h2,aY.hide hc us vs h3⟩
 |.loc n,v,h=>by unfold Rl at h⊢;exact h
 |.exc c,v,h=>h
 |.fn _ _,_,h=>h
theorem aY.hide(hc:Fz H c o):∀(us:List ao)(vs:List V),aY K ρ H us vs->aY K ρ (hide H c) us vs
 |[],_,h=>h
 |u::us,vs,h=>by unfold aY at h⊢;obtain⟨v,r,h1,h2,h3⟩:=h;exact⟨v,r,h1,Rl.hide hc u v h2,aY.hide hc us r h3⟩
end
theorem fG.hide(hc:Fz H c o)(hd:∃x,o.data=.cell x){k:aR}{a:_Z}(h:fG K ρ H k a):fG K ρ (hide H c) k a:=by
 have ne:∀{b:_Z}{x:HO},H b=some x->(∀o,x≠.gB o (.own 0))->L2.hide H c b=some x:=fun{b x}q z=>by rw[cj (fun e=>by rw[e,hc]at q;exact z _ (VP q).symm)];exact q
 cases k with
 |lst us=>obtain⟨vs,h,r⟩:=h;exact⟨vs,ne h (fun _ z=>by cases z),aY.hide hc _ _ r⟩
 |J9 us=>obtain⟨x,vs,h,r⟩:=h;exact⟨x,vs,ne h (fun _ z=>by cases z),aY.hide hc _ _ r⟩
 |mod us=>obtain⟨vs,h,r⟩:=h;exact⟨vs,h,aY.hide hc _ _ r⟩
 |dK us=>obtain⟨vs,h,r1,r2⟩:=h;exact⟨vs,ne h (fun _ z=>by cases z),r1,aY.hide hc _ _ r2⟩
 |dT us=>obtain⟨vs,h,r1,r2⟩:=h;exact⟨vs,ne h (fun _ z=>by cases z),r1,aY.hide hc _ _ r2⟩
 |ins cn fs=>obtain⟨C,dx,gs,h,hn,r1,r2⟩:=h;exact⟨C,dx,gs,ne h (fun _ z=>by cases z),hn,r1,aY.hide hc _ _ r2⟩
 |tab x l cl q=>
  refine⟨h.1,?_⟩;rcases h.2 with h|⟨c',oc,vs,t,h,h2,h3,h4⟩
  .exact .inl (ne h (fun _ z=>by cases z))
  .refine .inr ⟨c',oc,vs,t,ne h (fun _ z=>by cases z),?_,h3,h4⟩;have n2:c'≠c:=fun z=>by have h2:H c'=_:=h2;rw[z,hc]at h2;cases h2;obtain⟨x,hx⟩:=hd;rw[hx]at h3;cases h3
   show L2.hide H c c'=_;rw[cj n2];exact h2
theorem SR.hide{st:ai}(hc:Fz H c o)(hd:∃x,o.data=.cell x)(s:SR K ρ st H):SR K ρ st (hide H c):=
 ⟨s.len,s.nd,fun n k a h1 h2=>(s.cell n k a h1 h2).hide hc hd⟩
theorem aD.Uy(hn:H c=none)(e:aD ρ (upd H c (.gB o (.own 0))) ρ' H'):aD ρ H ρ' (hide H' c):=by
 have ne:∀{b:_Z}{x:HO},H b=some x->b≠c:=fun{b x}q z=>by rw[z,hn]at q;cases q
 refine⟨e.pre,fun b xs h=>?_,fun b x u h=>?_⟩
 .rw[cj (ne h)];exact e.tup b xs (by rw[aH (ne h)];exact h)
 .rw[cj (ne h)];exact e.gB b x u (by rw[aH (ne h)];exact h)
theorem aD.back(hc:Fz H c o)(e:aD ρ (hide H c) ρ' H'):aD ρ H ρ' (back H H' c):=by
 refine⟨e.pre,fun b xs h=>?_,fun b x u h=>?_⟩
 .have n:b≠c:=fun z=>by rw[z,hc]at h;cases h
  rw[gU n];exact e.tup b xs (by rw[cj n];exact h)
 .by_cases n:b=c
  .rw[n,nC,<-n];exact h
  .rw[gU n];exact e.gB b x u (by rw[cj n];exact h)
theorem s?(h:H' c=none):kS H' (back H H' c):=fun b x q=>by rw[gU (fun z=>by rw[z,h]at q;cases q)];exact q
theorem SR.MR{L:d5}{H':Hp}{T c:_Z}(s:SR K ρ st H)(hj:st[j]?=some (.tab x pos.line pos.col L.qual))(hT:ρ[j]?=some T)(N:DG L H H' T c f c' pos):SR K ρ st H'/\aD ρ H ρ H':=by
 have k:=s.cell j _ T hj hT;have tT:∃ps,H T=some (.rG ps):=by rcases k.2 with h|⟨_,_,_,_,h,_⟩<;>exact⟨_,h⟩
 obtain⟨ps,tT⟩:=tT;have av:aD ρ H ρ H':=by refine⟨YD ρ,fun b xs h=>N.old b _ (fun z=>?_) h,fun b x u h=>N.old b _ (fun z=>?_) h⟩<;>(rw[z,tT]at h;cases h)
 refine⟨⟨s.len,s.nd,fun n d a h1 h2=>?_⟩,av⟩;by_cases z:n=j
 .subst z;rw[hj]at h1;rw[hT]at h2;cases h1;cases h2;exact⟨k.1,N.tab⟩
 .have kb:=s.cell n d a h1 h2;cases zm:jb (some d) with
  |true=>exact kb.mono av (.inl zm)
  |false=>
   have hb:a≠T:=fun y=>z (s.nd n j T (by rw[<-y];exact h2) hT (by rw[h1];exact zm) (by rw[hj];rfl));obtain⟨o,ho,_⟩:=kb.there zm;exact kb.mono av (.inr (by rw[ho];exact N.old a _ hb ho))
end
theorem Qt:Passes (iL P w) X E0:=by rintro ag σ H s e s' I ⟨_,_,_,_,_,z⟩;exact z.elim
def yK(P:_1)(w:World)(K:_R)(mg:_P)(base:Heap)(L:d5)(k:Nat)(mb:ME):Prop:=
 L.Ok/\∀(f c c':_Z)(A:_0)(outer:List PySem.Env)(s:_Y)(H:Hp),d0 k (A.deeper (W.envX L.qual L.scope s.heap.objs.size f (.ref c') [(L.x,c)])) ->
  PE (sP P w K mg base L f c c' A outer s H) L.body (tE (sP P w K mg base L f c c' A outer s H) E0 mb)
open Classical in
def iF(i:Nat)(L:d5)(mb:ME)(ms:MA):ME:=fun μ st=>match μ[i]? with
 |some (some (.fn L' u))=>if L'=L then(ms μ st).bind fun us a0=>if us.length=L.ps.length then wC mb (us.map some++[some u]) a0 else .bad else .bad
 |_=>.bad
section
variable{p:Pos}{L:d5}{k:Nat}{mb:ME}
theorem RS.lam{W:Wo}{vs:List V}{v:V}(r:aY W.K ρ H us vs)(h:Rl W.K ρ H u v):RS W ρ H (us.map some++[some u]) (vs.map some++[some v]):=by
 have hl:=r.length;refine⟨by simp[hl],fun i w e=>?_⟩;rcases V2 i us.length with q|q
 .rw[VL (by rw[Vm];exact q),VF]at e;have e':us[i]?=some w:=by
   cases z:us[i]? with
   |none=>rw[z]at e;cases e
   |some w=>rw[z]at e;exact Xg _ (VP (VP e))
  obtain⟨v,h1,h2⟩:=r.get e';refine⟨v,?_,wt.of h2⟩;rw[VL (by rw[Vm,<-hl];exact q),VF,h1];rfl
 .rw[Vv (by rw[Vm];exact q),Vm]at e;cases z:i-us.length with
  |zero=>
   rw[z]at e;cases e;refine⟨v,?_,wt.of h⟩;rw[Vv (by rw[Vm,<-hl];exact q),Vm,<-hl,z];rfl
  |succ n=>rw[z]at e;cases e
theorem wK(S:yK X.prog X.w X.K X.mg X.base L k mb)(i:Nat)(hr:d0 (k+1) X.A)(ha:PA X (e::es) (tL X E ms))(hN:X.N[i]?=some x:=by rfl)(hk:X.env.scope.names.lookup x=some .local:=by rfl)(ju:(x==("__debug__":Str))=false:=by decide)(he:starEach (e::es) X.env=(false,eval e X.env)::starEach es X.env:=by rfl)(ip:(backTo pos (starEach es X.env)).any (·.1)=false:=by rfl):
  PE X (.Call (.Name x p) (e::es) [] pos) (tE X E (iF i L mb ms)):=by
 refine PE.imp (DH S.1 hr hN hk ha ju he ip) ?_;rintro σ H Q ⟨μ,ρ,st,rs,sr,h⟩;unfold iF at h;have key:∀u,μ[i]?=some (some (.fn L u))->wR (wo X) E (Rl X.K) ρ H Q ((ms μ st).bind fun us a0=>if us.length=L.ps.length then wC mb (us.map some++[some u]) a0 else .bad) ->
   ∃f c c' v,σ[i]?=some (some (.ref f))/\BD L H f c c' v/\tL X E ms σ H fun vs H1=>BD L H1 f c c' v/\J7 X L f c c' v vs H1 Q:=by
  intro u hμ h;obtain⟨vf,hσ,f,c,c',cv,e0,C,r⟩:=rs.at_ i _ hμ;subst e0;refine⟨f,c,c',cv,hσ,C,go (R1:=aY X.K) μ ρ st rs sr h fun us a0 ρ1 H1 xs e1 cb r1 h1=>?_⟩;have C1:=C.mono (fun b o u q=>e1.gB b o u q);refine⟨C1,?_⟩;by_cases hl:us.length=L.ps.length
  .rw[Vu hl]at h1;obtain⟨oc,uc,hc,j6,_⟩:=C1.ce;refine⟨by rw[<-r1.length];exact hl,fun s=>⟨_,S.2 f c c' X.A X.stack s H1 (hr.deeper _),us.map some++[some u],ρ1,a0,RS.lam (aY.hide hc _ _ r1) (Rl.hide hc _ _ (Rl.mono e1 _ _ r)),cb.hide hc ⟨_,j6⟩,?_⟩⟩;unfold wC at h1;revert h1;cases hb:mb (us.map some++[some u]) a0 with
   |ok y cE=>
    intro h1 ρ2 H2 vy e2 lZ ry hn;exact h1 ρ2 (back H1 H2 c) vy (aD.back hc e2) (lZ.grow (s? hn)) (Rl.mono (aD.same (s? hn)) _ _ ry)
   |err c cE=>exact fun h=>h.elim
   |bad=>exact fun h=>h.elim
  .rw[VA hl]at h1;exact h1.elim
 split at h
 .rename_i L' u hμ;split at h
  .rename_i e;subst e;exact key u hμ h
  .exact h.elim
 .exact h.elim
end
def MS(np n:Nat)(L:d5)(body:MB):ao->FN:=fun u us st=>if us.length+1=np then(match body (some (.fn L u)::us.map some++List.replicate (n-np) none) st with
 |.nx _ av=>.ok .dc av
 |.rt v av=>.ok v av
 |.er c _ av=>.err c av
 |_=>.bad)else .bad
def spF(W:Wo)(L:d5)(F:ao->FN):Sp:=fun vs H Q E=>∃f c c' cv u us xs ρ st,vs=.ref f::xs/\BD L H f c c' cv/\Rl W.K ρ H u cv/\aY W.K ρ H us xs/\SR W.K ρ st H/\wR W E (Rl W.K) ρ H Q (F u us st)
theorem RS.MU{W:Wo}{vs:List V}{L:d5}{c:_Z}{cv:V}(C:BD L H f c c' cv)(ru:Rl W.K ρ H u cv)(r:aY W.K ρ H us vs):
  RS W ρ H (some (.fn L u)::us.map some++List.replicate (N.length-(us.length+1)) none) (L2.start N (.ref f::vs)):=by
 have hl:=r.length;refine⟨by simp[L2.start,hl],fun i w e=>?_⟩;cases i with
 |zero=>
  cases e;exact⟨.ref f,rfl,f,c,c',cv,rfl,C,ru⟩
 |succ i=>
  rw[Wa,YG]at e;rcases V2 i us.length with q|q
  .rw[VL (by rw[Vm];exact q),VF]at e;have e':us[i]?=some w:=by
    cases z:us[i]? with
    |none=>rw[z]at e;cases e
    |some w=>rw[z]at e;exact Xg _ (VP (VP e))
   obtain⟨v,h1,h2⟩:=r.get e';refine⟨v,?_,wt.of h2⟩;unfold L2.start;rw[VB,Wa,YG,VL (by rw[Vm,<-hl];exact q),VF,h1];rfl
  .rw[Vv (by rw[Vm];exact q)]at e;rw[Ww]at e;split at e
   .cases e
   .cases e
section
variable{K:_R}
def tj(P:_1)(w:World)(K:_R)(mg:_P)(base:Heap)(x:Str)(k:Nat)(L:d5)(f:ao->FN):Prop:=
 ∃fa fd ps,ku P w K mg base (iL P w) k fa fd ps (spF ⟨K,mg,[]⟩ L f)/\mg x=some (.ref fa)/\W.keepIn K (.ref fa)=true/\Binds K fd ps []
theorem MV{st:Stmt}{k:Nat}{L:d5}(F:Ad K x qual st f fd)(S:dF N ps (aC st))
  (h:∀ (dh:_X) (A:_0) (outer:List PySem.Env) (s:_Y) (H:Hp) (E:XK),d0 k (A.deeper (envOfC qual (aC st) s.heap.objs.size f dh)) ->
   i' (fN (iL P w) P w K mg base N qual (aC st) f dh A outer s H E) (bZ st) (tS (fN (iL P w) P w K mg base N qual (aC st) f dh A outer s H E) E body)):
  ku P w K mg base (iL P w) (k+1) f fd ps (spF ⟨K,mg,[]⟩ L (MS ps.length N.length L body)):=by
 refine F.okX S (fun vs H Q E q=>?_) (fun dh A outer s H vs Q E hr q=>⟨_,h dh A outer s H E hr,?_⟩)
 .obtain⟨f,c,c',cv,u,us,xs,ρ,st,rfl,C,ru,r,sr,q⟩:=q;by_cases hl:us.length+1=ps.length
  .rw[Vt,<-r.length];exact hl
  .unfold MS at q;rw[VA hl]at q;exact q.elim
 .obtain⟨f,c,c',cv,u,us,xs,ρ,av,rfl,C,ru,r,sr,q⟩:=q;unfold MS at q;by_cases hl:us.length+1=ps.length
  .rw[Vu hl,<-hl]at q;refine⟨_,ρ,av,RS.MU C ru r,sr,?_⟩;revert q;cases body (some (.fn L u)::us.map some++List.replicate (N.length-(us.length+1)) none) av with
   |nx μ cE=>exact fun q ρ' H' σ' e s _=>q ρ' H' .dc e s Rl.sS
   |rt v cE=>exact fun q=>q
   |er c μ cE=>exact fun q=>q
   |bk μ cE=>exact fun q=>q.elim
   |ct μ cE=>exact fun q=>q.elim
   |bad=>exact fun q=>q.elim
  .rw[VA hl]at q;exact q.elim
theorem tj.mk{st:Stmt}{k:Nat}{L:d5}(F:Ad K x x st f fd)(hm:mg x=some (.ref f))(S:dF N ps (aC st))(hb:∀(kV doc pm:_X)(an:Option _Z)(dh ct:_X)(us:_T),us.length=ps.length->bindArgs (W.fnOf x x (eM st) (bZ st) (aC st) .none kV doc pm an dh ct) ⟨us,[]⟩=pure (ps.zip us))
  (h:∀ (dh:_X) (A:_0) (outer:List PySem.Env) (s:_Y) (H:Hp) (E:XK),d0 k (A.deeper (envOfC x (aC st) s.heap.objs.size f dh)) ->
   i' (fN (iL P w) P w K mg base N x (aC st) f dh A outer s H E) (bZ st) (tS (fN (iL P w) P w K mg base N x (aC st) f dh A outer s H E) E body)):tj P w K mg base x (k+1) L (MS ps.length N.length L body):=
 ⟨f,fd,ps,MV F S h,hm,F.kp,F.binds hb⟩
structure MW(K:_R)(mg:_P)(base:Heap)(x:Str)(cd T:_Z):Prop where
 tab:W.tabIn K x=some (cd,T)
 hd:W.CodeHd base cd T
 blt:base.BuiltinsAt mg T
 gT:mainGlobals≠T
theorem FnAt.mkT{st:Stmt}{k:Nat}{T:_Z}(B:MW K mg base x cd T)(F:Ad K x x st f fd)(hn:W.nsIn K mainGlobals x=some (some (.ref f)))(hm:mg x=some (.ref f))(S:dF N ps (aC st))(hb:∀(kV doc pm:_X)(an:Option _Z)(dh ct:_X)(us:_T),us.length=ps.length->bindArgs (W.fnOf x x (eM st) (bZ st) (aC st) .none kV doc pm an dh ct) ⟨us,[]⟩=pure (ps.zip us))
  (h:∀ (A:_0) (outer:List PySem.Env) (s:_Y) (H:Hp) (E:XK),d0 k (A.deeper (envOfC x (aC st) s.heap.objs.size f (.ref cd))) ->
   i' (fN (iL P w) P w K mg base N x (aC st) f (.ref cd) A outer s H E) (bZ st) (tS (fN (iL P w) P w K mg base N x (aC st) f (.ref cd) A outer s H E) E body)):FnAt P w K mg base x (k+1) (gC ps.length N.length body):=by
 refine⟨f,fd,ps,?_,hm,F.kp,F.binds hb⟩;obtain⟨oc,od,kV,doc,pm,an,dh,ct,z_,e,lk,j6⟩:=F.ex;have ec:dh=.ref cd:=by
  have t:=B.tab;unfold W.tabIn at t;rw[hn]at t;simp only[lk]at t;rw[e]at t;simp only[W.fnOf]at t;split at t
  .rename_i c hc;split at t
   .split at t
    .cases t;rfl
    .cases t
   .cases t
  .cases t
 subst ec;have h':∀(dh:_X)(A:_0)(outer:List PySem.Env)(s:_Y)(H:Hp)(E:XK),dh=.ref cd->d0 k (A.deeper (envOfC x (aC st) s.heap.objs.size f dh)) ->
   i' (fN (iL P w) P w K mg base N x (aC st) f dh A outer s H E) (bZ st) (tS (fN (iL P w) P w K mg base N x (aC st) f dh A outer s H E) E body):=fun dh A outer s H E e=>by subst e;exact h A outer s H E
 subst e;refine JU lk j6 S (fun vs H Q E q=>?_) fun A outer s H vs Q E hr q=>⟨_,h A outer s H E hr,?_⟩
 .obtain⟨us,ρ,st,r,sr,q⟩:=q;by_cases hl:us.length=ps.length
  .rw[<-r.length];exact hl
  .unfold gC at q;rw[VA hl]at q;exact q.elim
 .obtain⟨us,ρ,av,r,sr,q⟩:=q;unfold gC at q;by_cases hl:us.length=ps.length
  .rw[Vu hl,<-hl]at q;refine⟨_,ρ,av,RS.start r,sr,?_⟩;revert q;cases body (us.map some++List.replicate (N.length-us.length) none) av with
   |nx μ cE=>exact fun q ρ' H' σ' e s _=>q ρ' H' .dc e s Rl.sS
   |rt v cE=>exact fun q=>q
   |er c μ cE=>exact fun q=>q
   |bk μ cE=>exact fun q=>q.elim
   |ct μ cE=>exact fun q=>q.elim
   |bad=>exact fun q=>q.elim
  .rw[VA hl]at q;exact q.elim
end
def H!:cD ao->cD ao
 |.ok v st=>.ok v st
 |_=>.bad
def g?(st:ai)(x:Str)(l c:Nat)(q:Str):Prop:=∃j:Nat,st[j]?=some (.tab x l c q)
structure eQ where
 S:d5
 own:Str
 line:Nat
 col:Nat
open Classical in
def nG(L:eQ)(i:Nat)(F:ao->FN)(ms:MA):ME:=fun μ st=>match μ[i]? with
 |some (some u)=>if Qa u=false/\g? st L.own L.line L.col L.S.qual then(ms μ st).bind fun us a0=>H! (F u us a0)else .bad
 |_=>.bad
section
variable{p lp:Pos}{L:eQ}{k:Nat}{f:ao->FN}{c T:_Z}
theorem Ej(G:tj X.prog X.w X.K X.mg X.base x k L.S f)(B:MW X.K X.mg X.base L.own cd T)(hr:d0 j X.A)(hkj:k<=j)(hg:Gl X x)(i:Nat)(ya:X.fn y=true)(ha:PA X es (tL X E ms))(Qu:X.env.code=.ref cd:=by rfl)(hcl:closureFor L.S.scope X.env=pure [(L.S.x,c)]:=by rfl)(hq:L.S.qual=X.env.qual ++ "<lambda>":=by rfl)(Po:defaultsOf L.S.params X.env=([],[]):=by rfl)(Ai:lp.line=L.line:=by rfl)(Ac:lp.col=L.col:=by rfl)(hN:X.N[i]?=some y:=by rfl)(hy:X.env.scope.names.lookup y=some .cell:=by rfl)(hc:X.env.cells.lookup y=some c:=by rfl)(ju:(x==("__debug__":Str))=false:=by decide)(he:starEach (.Lambda L.S.params L.S.body L.S.scope lp::es) X.env=(false,eval (.Lambda L.S.params L.S.body L.S.scope lp) X.env)::starEach es X.env:=by rfl)(ip:(backTo pos (starEach es X.env)).any (·.1)=false:=by rfl):
  PE X (.Call (.Name x p) (.Lambda L.S.params L.S.body L.S.scope lp::es) [] pos) (tE X E (nG L i f ms)):=by
 obtain⟨fa,fd,ps,F,hm,kp,b⟩:=G;have A:J5 X L.S lp cd T c:=⟨Qu,B.hd,hcl,hq,Po,B.blt,B.gT⟩
 refine PE.imp (DI F (hr.mono hkj) hg hm kp b hN hy hc ya (fM (LV A) ha he) ju he ip) ?_;rintro σ H Q ⟨μ,ρ,st,rs,sr,h⟩;unfold nG at h;split at h
 .rename_i u hu;split at h
  .rename_i hh;obtain⟨hx,jt,hj⟩:=hh;rw[<-Ai,<-Ac]at hj;obtain⟨T',P!,kT⟩:=sr.addr hj;have eT:T'=T:=by obtain⟨cd',h1⟩:=kT.1;have:=h1.symm.trans B.tab;cases this;rfl
   subst eT;refine⟨kT.2,fun fa' c' H1 N=>?_⟩;obtain⟨cb,e1⟩:=sr.MR hj P! N;refine go (R1:=aY X.K) μ ρ st (rs.mono e1) cb (wR.mono h e1) fun us cE ρ2 H2 xs e2 lZ r2 h2=>?_;obtain⟨v,hv,rv⟩:=rs.at_ i u hu;have rv1:Rl X.K ρ H u v:=rv.un (by rw[hx];exact VI);refine⟨v,hv,fun oc uv j6 hru hn=>?_⟩;have s3:kS H2 (upd H2 c (.gB oc (.own 0))):=dH hn;have e3:aD ρ2 H2 ρ2 (upd H2 c (.gB oc (.own 0))):=aD.same s3;have Qv:=e2.trans e3;refine⟨fa',c,c',v,u,us,xs,ρ2,cE,rfl,⟨?_,?_,oc,uv,bu,j6,hru⟩,Rl.mono (e1.trans Qv) _ _ rv1,aY.mono e3 _ _ r2,lZ.grow s3,?_⟩
   .obtain⟨pm,yq,hf⟩:=N.fn;exact⟨pm,yq,Qv.gB _ _ _ hf⟩
   .obtain⟨o2,vs,t,h4,h5⟩:=N.cd;exact⟨o2,vs,t,Qv.gB _ _ _ h4,h5⟩
   .revert h2;cases f u us cE with
    |ok y l0=>
     intro h2 ρ4 H4 vy e4 nD ry;have hc4:Fz H4 c oc:=e4.gB _ _ _ bu;exact h2 ρ4 (hide H4 c) vy (aD.Uy hn e4) (nD.hide hc4 ⟨_,j6⟩) (Rl.hide hc4 _ _ ry)
    |err c l0=>exact fun h=>h.elim
    |bad=>exact fun h=>h.elim
  .exact h.elim
 .exact h.elim
end
abbrev Az(mg:_P)(base:Heap)(ts:List (_Z×_Z)):Prop:=∀q∈ts,W.CodeHd base q.1 q.2/\base.BuiltinsAt mg q.2/\mainGlobals≠q.2
def kE(a:_Z)(o:Option HO)(ts:List (_Z×_Z)):Hp:=fun b=>if b∈ts.map (·.2)then some (.rG #[])else if b=a then o else none
theorem B0{K:_R}{mb:_P}{k:Nat}{a:_Z}{s₁:_Y}{ts:List (_Z×_Z)}(KX:K.In s₁.heap)(Gm:s₁.heap.Ns mainGlobals mg)(hb:s₁.heap.Ns builtinsNs mb)(hbb:∀x:Str,x ≠ "__name__" -> mb x=bootBuiltins x)(Uz:s₁.heap.NoLimit)(hg:s₁.gens = #[])(hbm:∃bm ob,mg "__builtins__" = some (.ref bm)/\bm≠builtinsNs/\s₁.heap.get? bm=some ob/\ob.cls=.type "module" /\ ob.dict=some builtinsNs/\ob.data=.plain)(hT:W.TabsAt ts s₁.heap)(hK0:W.noTabs K=true)(ha:s₁.heap.get? a=some {cls:=.type "list",data:=.seq vs.toArray})(hi:IntsAre vs ns)(hl:ns.length<=sizeLine)(hr:d0 k callerA)(F:∀base:Heap,K.In base->base.Ns mainGlobals mg->Az mg base ts->ku P w K mg base (iL P w) k fa fd [x] sp)(Qw:∀(s:_Y)(u:_X),BindsTo s fd ⟨[u],[]⟩ [(x,u)])(Om:∀H:Hp,(∀b xs,H b≠some (.lst xs))->nr K H a (ns.map V.int)->(∀q∈ts,H q.2=some (.rG #[]))->a ∉ ts.map (·.2)->sp [.ref a] H (fun v _=>v=.bl true) fun _ _ _=>False):
  codeAny (model P w) callerA (.call (.ref fa) ⟨[.ref a],[]⟩) (fun r s'=>r=.ok (.ret (.bool true))/\OldK s₁.heap s'.heap/\s'.os=s₁.os/\AllBare s'.gens) s₁:=by
 have rv:=sJ hi;have UA:=hi.length;have tabs:∀b,b∈ts.map (·.2)->s₁.heap.get? b=some (W.tabObj #[]):=fun b hb=>by obtain⟨q,hq,rfl⟩:=VH.mp hb;exact(hT q hq).2
 have aT:a ∉ ts.map (·.2):=fun z=>by have:=tabs a z;rw[ha]at this;cases this
 have core:∀o:Option HO,(∀x,o=some x->∃ob xs,x=.gB ob (.lst xs))->nr K (kE a o ts) a (ns.map V.int)->il P w (kE a o ts) s₁.heap->(o≠none->K.lookup a=none) ->
   codeAny (model P w) callerA (.call (.ref fa) ⟨[.ref a],[]⟩) (fun r s'=>r=.ok (.ret (.bool true))/\OldK s₁.heap s'.heap/\s'.os=s₁.os/\AllBare s'.gens) s₁:=by
  intro o hO hS bN hK;have UB:∀b,b∈ts.map (·.2)->kE a o ts b=some (.rG #[]):=fun b hb=>Vu hb;have H_a:kE a o ts a=o:=by unfold kE;rw[VA aT,Vu rfl]
  have OF:∀b,kE a o ts b=none\/(b=a/\kE a o ts b=o)\/(b∈ts.map (·.2)/\kE a o ts b=some (.rG #[])):=fun b=>by
   by_cases h1:b∈ts.map (·.2)
   .exact .inr (.inr ⟨h1,UB b h1⟩)
   .by_cases h2:b=a
    .subst h2;exact .inr (.inl ⟨rfl,H_a⟩)
    .exact .inl (by unfold kE;rw[VA h1,VA h2])
  obtain⟨H,eH⟩:∃H,H=kE a o ts:=⟨_,rfl⟩
  rw[<-eH]at hS bN UB H_a OF;have pE:∀{b:_Z}{ob:Obj},s₁.heap.get? b=some ob->H b=none->(rH s₁.heap H).get? b=some ob:=fun e n=>CW e n;have Ol:∀{b:_Z}{ob:Obj},s₁.heap.get? b=some ob->ob.cls≠.type "list" -> ob.cls≠.none->H b=none:=fun{b ob}e d d2=>by
   rcases OF b with h|⟨h,_⟩|⟨h,_⟩
   .exact h
   .subst h;rw[ha]at e;cases e;exact absurd rfl d
   .rw[tabs b h]at e;cases e;exact absurd rfl d2
  have noD:∀{b:_Z}{ob:Obj}{es:Array DictEntry}{ep:Nat},s₁.heap.get? b=some ob->ob.data=.dict es ep->H b=none:=fun{b ob es ep}e d=>by
   rcases OF b with h|⟨h,_⟩|⟨h,_⟩
   .exact h
   .subst h;rw[ha]at e;cases e;have d':Data.seq vs.toArray _=Data.dict es ep:=d;cases d'
   .rw[tabs b h]at e;cases e;cases d
  have Sr:∀{b:_Z}{m:_P},s₁.heap.Ns b m->(rH s₁.heap H).Ns b m:=fun{b m}⟨ob,es,ep,e,d,r⟩=>⟨ob,es,ep,pE e (noD e d),d,r⟩
  have hKb:K.In (rH s₁.heap H):=fun b ob e=>pE (KX b ob e) (by
   rcases OF b with h|⟨h,h2⟩|⟨h,_⟩
   .exact h
   .subst h;cases q:o with
    |none=>rw[h2,q]
    |some u=>rw[hK (by rw[q];simp)]at e;cases e
   .have h1:=KX b ob e;rw[tabs b h]at h1;cases h1;have h2:=Wh.mp hK0 _ (W.mem_of_lookupK e);exact absurd (show false=true from h2) VI)
  have hM:Mod K mg (rH s₁.heap H):=⟨hKb,Sr Gm,⟨mb,Sr hb,hbb⟩,let⟨mc,h1,h2⟩:=Uz;⟨mc,Sr h1,h2⟩⟩
  have e0:rL P w K mg (rH s₁.heap H) callerA [] s₁ H:=⟨rfl,hM,fun b o e=>Gy e,YY (Be _ _),trivial,fun b hb=>absurd (show b∈([]:_V)from hb) (by simp),bN,.of_eq hg⟩
  have hBT:Az mg (rH s₁.heap H) ts:=by
   intro q hq;obtain⟨h1,h2⟩:=hT q hq;refine⟨?_,?_,?_⟩
   .obtain⟨oc,ws,file,tf,flags,tg,inF,text,tt,e1,r1,r⟩:=h1;exact⟨oc,ws,file,tf,flags,tg,inF,text,tt,pE e1 (Ol e1 (by rw[r1];decide) (by rw[r1];intro z;cases z)),r1,r⟩
   .obtain⟨bm,ob,b1,b2,b3,b4,b5,b6⟩:=hbm;refine⟨bm,ob,b1,b2,fun z=>?_,fun z=>?_,pE b3 (Ol b3 (by rw[b4];decide) (by rw[b4];intro z;cases z)),b4,b5,b6⟩
    .obtain⟨o',es,ep,e,hd,_⟩:=Gm;rw[z,e]at b3;cases b3;rw[hd]at b6;cases b6
    .rw[z,h2]at b3;cases b3;cases b4
   .intro z;obtain⟨o',es,ep,e,hd,_⟩:=Gm;rw[z,h2]at e;cases e;cases hd
  refine XC ((F _ hKb (Sr Gm) hBT).run callerA [] s₁ H ⟨[.ref a],[]⟩ [.ref a] [.ref a] _ _ hr e0 (Qw s₁ (.ref a)) (.cons rfl .nil) (Om H (fun b xs z=>?_) hS (fun q hq=>UB _ (List.mem_map_of_mem hq)) aT)) fun r s' h=>?_
  .rcases OF b with h|⟨_,h2⟩|⟨_,h2⟩
   .rw[h]at z;cases z
   .rw[h2]at z;obtain⟨_,_,e⟩:=hO _ z;cases e
   .rw[h2]at z;cases z
  cases r with
  |error e=>obtain⟨_,_,_,_,_,z⟩:=h;exact z.elim
  |ok fl=>
   cases fl with
   |next=>exact False.elim h
   |brk=>exact False.elim h
   |cont=>exact False.elim h
   |ret u=>
    obtain⟨v,H',os,bare,un,Qx,r',q⟩:=h;have q':v=.bl true:=q;subst q';obtain rfl:u=Value.bool true:=r';have there:∀b ob,s₁.heap.get? b=some ob->(s'.heap.get? b=some ob)\/(isCodeTable s₁.heap b/\ob=W.tabObj #[]/\∃ps,s'.heap.get? b=some (W.tabObj ps)):=fun b ob e=>by
     rcases OF b with h|⟨h,h2⟩|⟨h,h2⟩
     .exact .inl (un.keep b ob e h (by intro z;exact absurd (show b∈([]:_V)from z) (by simp)) (by simp))
     .cases q:o with
      |none=>rw[q]at h2;exact .inl (un.keep b ob e h2 (by intro z;exact absurd (show b∈([]:_V)from z) (by simp)) (by simp))
      |some u=>
       obtain⟨o2,xs,eu⟩:=hO u q;rw[q,eu]at h2;have z2:=un.iT b o2 _ h2;obtain⟨e1,_⟩:=bN b _ h2;obtain⟨e2,_⟩:=Qx b _ z2;rw[e]at e1;cases e1;exact .inl e2
     .obtain⟨m,hm⟩:=un.jD b _ h2;obtain⟨q,hq,rfl⟩:=VH.mp h;have e1:=tabs _ h;rw[e]at e1;exact .inr ⟨((hT q hq).1.tab (hT q hq).2).isCodeTable,VP e1,_,Qx _ _ hm⟩
    refine⟨rfl,⟨fun b ob e=>?_,fun b ob e=>?_⟩,os,bare⟩
    .rcases there b ob e with h|⟨ht,rfl,ps,hP⟩
     .exact .inl h
     .exact .inr (.inl ⟨ht,rfl,#[],ps,rfl,by rw[Array.empty_append];exact hP⟩)
    .rcases there b ob e with h|⟨ht,rfl,ps,hP⟩
     .exact⟨_,h⟩
     .exact⟨_,hP⟩
 have Qy:∀(o:Option HO)b,b∈ts.map (·.2)->∀u,kE a o ts b=some u->ck P w (kE a o ts) s₁.heap b u:=fun o b hb u z=>by rw[show kE a o ts b=some (.rG #[])from Vu hb]at z;cases z;exact tabs b hb
 cases hk:K.lookup a with
 |some o=>
  have e:=KX a o hk;rw[ha]at e;cases e;refine core none (fun _ z=>by cases z) (.inr ⟨_,vs.toArray,_,hk,rfl,rfl,rfl,by rw[VC,UA];exact hl,by simpa using rv⟩) (fun b u z=>?_) fun z=>absurd rfl z;by_cases hb:b∈ts.map (·.2)
  .exact Qy _ b hb u z
  .unfold kE at z;rw[VA hb]at z;split at z<;>cases z
 |none=>
  refine core (some (.gB {cls:=.type "list",data:=.seq vs.toArray} (.lst (ns.map V.int)))) (fun x z=>by cases z;exact⟨_,_,rfl⟩) (.inl (.inr ⟨{cls:=.type "list",data:=.seq vs.toArray},?_⟩)) (fun b u z=>?_) fun _=>hk
  .unfold kE;rw[VA aT,Vu rfl]
  .by_cases hb:b∈ts.map (·.2)
   .exact Qy _ b hb u z
   .have z0:=z;unfold kE at z;rw[VA hb]at z;split at z
    .rename_i hba;cases z;subst hba;exact⟨ha,by rw[Vm];exact hl,vs,_,rv,ha⟩
    .cases z
inductive o8(q:_1)(K:_R):List aR->List (_Z×_Z)->Prop
 |nil:o8 q K [] []
 |cons {x qn:Str} {l c:Nat} {cs:List aR} {cd T:_Z} {ts:List (_Z×_Z)} {d:DefRec} (hd:(recsOf q).find? (fun e=>e.name==x)=some d) (ht:W.tabIn K x=some (cd,T)) (r:o8 q K cs ts):o8 q K (.tab x l c qn::cs) ((cd,T)::ts)
theorem o8.at_{q:_1}{K:_R}{UC:ExcName->_U}{mb:_P}(T:Top q loose UC mg mb h)(X:K.In h):∀{cs:List aR}{ts:List (_Z×_Z)},o8 q K cs ts->W.TabsAt ts h
 |_,_,.nil=>fun _ z=>nomatch z
 |_,_,.cons hd ht r=>List.forall_mem_cons.mpr ⟨W.tab_of T X hd ht,r.at_ T X⟩
theorem o8.len{q:_1}{K:_R}:∀{cs:List aR}{ts:List (_Z×_Z)},o8 q K cs ts->ts.length=cs.length
 |_,_,.nil=>rfl
 |_,_,.cons _ _ r=>by rw[Vt,Vt,r.len]
theorem o8.cell{q:_1}{K:_R}:∀{cs:List aR}{ts:List (_Z×_Z)},o8 q K cs ts->(∀p∈ts,H p.2=some (.rG #[]))->∀(n:Nat)(c:aR)(a:_Z),cs[n]?=some c->(ts.map (·.2))[n]?=some a->fG K ρ H c a
 |_,_,.nil,_,n,c,a,h,_=>by simp at h
 |_,_,.cons (cd:=cd) hd ht r,k,0,c,a,h1,h2=>by cases h1;cases h2;exact⟨⟨cd,ht⟩,.inl (k _ (.head _))⟩
 |_,_,.cons hd ht r,k,n+1,c,a,h1,h2=>r.cell (fun p hp=>k p (.tail _ hp)) n c a h1 h2
theorem H?{q:_1}{K:_R}{a:_Z}{c:aR}{cs:List aR}{ts:List (_Z×_Z)}(L:o8 q K cs ts)(nd:(ts.map (·.2)).Nodup)(na:a ∉ ts.map (·.2))(hH:∀p∈ts,H p.2=some (.rG #[]))(k:fG K (a::ts.map (·.2)) H c a):SR K (a::ts.map (·.2)) (c::cs) H:=by
 refine⟨by rw[Vt,Vt,Vm,L.len],fun n m b h1 h2 _ _=>?_,fun n d b h1 h2=>?_⟩
 .have N:(a::ts.map (·.2)).Nodup:=WB.mpr ⟨na,nd⟩;have l1:=d9 h1;have l2:=d9 h2;rw[Vp l1]at h1;rw[Vp l2]at h2;have e:=VP (h1.trans h2.symm);rcases YX n m with z|z|z
  .exact absurd e (WJ.mp N n m l1 l2 z)
  .exact z
  .exact absurd e.symm (WJ.mp N m n l2 l1 z)
 .cases n with
  |zero=>cases h1;cases h2;exact k
  |succ n=>exact L.cell hH n d b h1 h2
theorem B5{l:W.OpenLaw}{q:_1}{XP:(_P)->Heap->Prop}{YP:World->Heap->Prop}{d:DefRec}{K:Params->_R}{k:Nat}{cs:List aR}{f:FN}(hn:l.most=some 63)(Po:d.params.defaults=[])(hr:d0 k callerA)(hf:∀(c:aR)(ns:_S),ns.length<=63->aq (c::cs) 0=some (ns.map ao.int)->∃av,f [.loc 0] (c::cs)=.ok (.bl true) av)(hY:∀(w:World)(h:Heap),YP w h->(K w.params).In h)
  (F:∀ (w:World) (mg:_P) (fa:_Z) (h:Heap),(K w.params).In h->h.Ns mainGlobals mg->mg d.name=some (.ref fa) ->
   ∃(fd:FuncData)(ts:List (_Z×_Z)),o8 q (K w.params) cs ts/\(ts.map (·.2)).Nodup/\W.noTabs (K w.params)=true/\(∀(s:_Y)(u:_X),BindsTo s fd ⟨[u],[]⟩ [(x,u)]) /\
    ∀base:Heap,(K w.params).In base->base.Ns mainGlobals mg->Az mg base ts->ku l.prog w (K w.params) mg base (iL l.prog w) k fa fd [x] (J! ⟨K w.params,mg,[]⟩ f)):
  W.WalkO q loose XP YP l.row.toRowW d [] (fun f vs=>PySem.call f vs):=by
 refine Att.v? hn Po fun w s₀ s₁ mg mb fa o pm cd doc a vs ns G Y ho hd j6 Pp Lx hints hlen hg=>?_;have KX:=hY w _ Y;obtain⟨fd,ts,L,nd,nt,hb,hF⟩:=F w mg fa _ KX G.T.g Pp;refine B0 KX G.T.g G.T.b G.T.builtins G.T.nolimit hg G.T.bmain (L.at_ G.T KX) nt Lx hints (Vx hlen (by decide)) hr hF hb fun H hO hS hH na=>?_;have fin:∀c:aR,fG (K w.params) (a::ts.map (·.2)) H c a->aq (c::cs) 0=some (ns.map ao.int)->J! ⟨K w.params,mg,[]⟩ f [.ref a] H (fun v _=>v=.bl true) fun _ _ _=>False:=by intro c k hi;obtain⟨av,e⟩:=hf c ns hlen hi;refine⟨[.loc 0],a::ts.map (·.2),c::cs,aY.one (Rl.DJ rfl),H? L nd na hH k,?_⟩;rw[e];intro ρ' H' v _ _ r;exact r.p8
 rcases hS with(h|⟨o,h⟩)|h
 .exact absurd h (hO a _)
 .exact fin (.J9 (ns.map .int)) ⟨o,_,h,aY.ints ns⟩ rfl
 .exact fin (.mod (ns.map .int)) ⟨_,h,aY.ints ns⟩ rfl
end MN
variable {cell:Int}
namespace L2
open Spec PyProof.Rows
def Qz:V->List V->Hp->VK->Prop:=fun x vs H Q=>∃i,x=.int i/\vs=[]/\Q (.int ((Builtin.Int.intBits i:Nat):Int)) H
theorem Ia:Ab X "int.bit_length" Qz:=by intro ag s σ H x vs v us Q I rx rv h;obtain⟨i,rfl,rfl,q⟩:=h;obtain⟨t,rfl⟩:=rx;have hus:=rv.zero;subst hus;exact call_gives F.slot_int_bit_length (YB s i t) F.entry_int_bit_length (F.args_int_bit_length_1 _) (AutoIntG2.int_bit_length_int_0 i t) ⟨.int ((Builtin.Int.intBits i:Nat):Int),H,I.tok _,⟨_,rfl⟩,q⟩
end L2
namespace MN
open Spec L2
open PyProof.Rows hiding St
def Ek:F2:=o7 fun i j st=>if 0<=j then .ok (.int (i / 2 ^ j.toNat)) st else .bad
def Ib:F2:=o7 fun i j st=>.ok (.int (Builtin.bitAnd i j)) st
def QA:ao->ai->cD ao
 |.int i,st=>.ok (.int ((Builtin.Int.intBits i:Nat):Int)) st
 |_,_=>.bad
def wL(m:ME):ME:=fun μ st=>(m μ st).bind QA
section
variable{mo:ME}
theorem Ic:dq X (binaryOp .RShift) (rM (wo X) E Ek):=by
 refine dq.imp Lc ?_;rintro x y H Q ⟨ρ,st,u,w,sr,r1,r2,h⟩;obtain⟨i,j,rfl,rfl,h0⟩:=gi h;by_cases hj:0<=j
 .rw[Vu hj]at h0;exact⟨i,j,r1.b!,r2.b!,hj,de sr h0⟩
 .rw[VA hj]at h0;exact h0.elim
theorem Ie:dq X (binaryOp .BitAnd) (rM (wo X) E Ib):=by refine dq.imp Ld ?_;rintro x y H Q ⟨ρ,st,u,w,sr,r1,r2,h⟩;obtain⟨i,j,rfl,rfl,q⟩:=gi h;exact⟨i,j,r1.b!,r2.b!,de sr q⟩
theorem Ig(ho:PE X o (tE X E mo))(iN:attributeBase o "bit_length" X.env (eval o X.env)=eval o X.env:=by rfl)(iO:(apos.endLine==bV.line)=true:=by rfl):
  PE X (.Call (.Attribute o "bit_length" apos) [] [] bV) (tE X E (wL mo)):=by
 refine PE.imp (Lr F.plainAttrs_int F.slot_int_bit_length F.type_int_bit_length Ia ho iN iO) ?_;rintro σ H Q ⟨μ,ρ,st,rs,sr,h⟩;refine go μ ρ st rs sr h fun u a0 ρ1 H1 x e1 cb r1 h1=>?_;cases u with
 |int i=>rw[r1.b!];exact⟨rfl,i,rfl,rfl,de cb h1⟩
 |_=>exact h1.elim
end
def Ke:List Stmt->Option Expr
 |[]=>none
 |[.Return (some (.Call _ (e::_) _ _)) _]=>some e
 |_::r=>Ke r
def QB(e:Option Expr)(qual:Str)(ps:_W)(x:Str):d5:=match e with
 |some (.Lambda params body scope _)=>⟨qual,params,body,scope,ps,x⟩
 |_=>⟨qual,{posonlyargs:=[],args:=[],vararg:=none,kwonlyargs:=[],kw_defaults:=[],kwarg:=none,defaults:=[]},.Constant .none 0 ⟨0,0,0,0⟩,{kind:=.function,names:=[],isGenerator:=false,isCoroutine:=false},ps,x⟩
theorem d5.okB{L:d5}(h1:L.scope.kind=.function)(h2:L.scope.isCoroutine=false)(h3:L.scope.isGenerator=false)(h4:(L.scope.names.all fun p => !(p.2 == .cell))=true)(h5:(L.ps.all fun p=>L.scope.names.lookup p==some .local)=true)(h6:L.scope.names.lookup L.x=some .free)(h7:(L.scope.names.all fun p => !(p.2 == .free) || p.1==L.x)=true)(h8:(L.ps++[L.x]).Nodup)(h9:∀(pm cd ct:_X)(cl:List (Str×_Z))(us:_T),us.length=L.ps.length->bindArgs (W.kla_fn "<lambda>" L.qual L.params L.body L.scope cl pm cd ct) ⟨us,[]⟩=pure (L.ps.zip us)):L.Ok where
 kind:=h1
 co:=h2
 gen:=h3
 fu:=fun y hy h=>by have z:=Wh.mp h4 y hy;simp[h]at z
 par:=fun p hp=>by have z:=Wh.mp h5 p hp;simpa using z
 fr:=h6
 free:=fun y h=>by have z:=Wh.mp h7 _ (Wx h);simpa using z
 nd:=h8
 bind:=h9
theorem MX{K:_R}{T:_Z}{o2:_X}{d2:Option _Z}{sl s2:Array (_U)}{vs:Array _X}(a:W.nsIn K mainGlobals x=some (some (.ref f)))(l:K.lookup f=some ⟨oc,od,.func fd,sl⟩)(hc:fd.code=.ref cd)(lc:K.lookup cd=some ⟨o2,d2,.fields vs,s2⟩)(hv:(vs[11]?:_U)=some (.ref T)):W.tabIn K x=some (cd,T):=by unfold W.tabIn;simp only[a,l,hc,lc,hv]
end MN
namespace PM
open Spec L2 MN
open PyProof.Rows hiding St
def fQ:ao:=.mt ([2,3,5,7,11,13,17,19,23,29,31].map ao.int)
def fR:FN:=gC 1 1 (aP (l_ (x_ "int" (ae 0)) (L7 (x_ "bool" (ae 0)))))
def b?:FN:=gC 1 1 (aB (fw (bO (ak (Mn false) (ae 0) (mC PM.fQ))) (aP (mC (.bl true))) aX) (aB (fw (gE (bO (ak ltV (ae 0) (mC (.int 2)))) (bO (ak Gn (ae 0) (mC (.int 997))))) (aP (mC (.bl false))) aX) (aP (ah BL (aa (bz 1 [0] (bJ (mC PM.fQ)) (au 0) aV (ak jJ (ak dJ (ae 1) (ae 0)) (mC (.int 0)))) aj)))))
def bL:FN:=gC 2 2 (aP (Ox (bO (ak fZ (ae 0) (mC (.int 0)))) (ae 1) (ak dJ (ae 1) (ae 0))))
def j9:FN:=gC 1 1 (aP (l_ (ah PM.fR (aa (ae 0) aj)) (Sh (ak fZ (ae 0) (mC (.int 0))) (ah PM.b? (aa (ae 0) aj)))))
def bq:FN:=gC 1 1 (fw (cN (bO (ah PM.j9 (aa (ae 0) aj)))) (kW "NoRing" (aa (mC (.str "a ring is 0 or a prime from 2 to 997")) aj)) aX)
def fH:FN:=gC 1 1 (aP (l_ (x_ "int" (ae 0)) (L7 (x_ "bool" (ae 0)))))
end PM
namespace MN
open Spec L2
open PyProof.Rows hiding St
theorem cV{g:ai->Prop}{a:AS}{body:MB}(P:Nat->Env->ai->Prop):∀(us:List ao)(k:Nat)(μ:Env)(st:ai),
  (∀(i:Nat)(u:ao)(μ:Env)(st:ai),us[i]?=some u->P (k+i) μ st->g st/\∃μ1,a u μ=some μ1/\∃μ' av,(body μ1 st=.nx μ' av\/body μ1 st=.ct μ' av)/\P (k+i+1) μ' av) ->
  (∀μ st,P (k+us.length) μ st->g st)->P k μ st->∃μ' av,forL g a body us μ st=.nx μ' av/\P (k+us.length) μ' av
 |[],k,μ,st,_,he,h=>by refine⟨μ,st,?_,h⟩;unfold forL;rw[Vu (he μ st h)]
 |u::us,k,μ,st,hs,he,h=>by
  obtain⟨hg,μ1,ha,μ',av,hb,hP⟩:=hs 0 u μ st rfl h;have ih:=cV (a:=a) (body:=body) P us (k+1) μ' av (fun i v μ2 cE hv hp=>by
   have:=hs (i+1) v μ2 cE hv (by rw[show k+(i+1)=k+1+i by lia];exact hp);rw[show k+(i+1)+1=k+1+i+1 by lia]at this;exact this) (fun μ2 cE hp=>he μ2 cE (by rw[Vt,show k+(us.length+1)=k+1+us.length by lia];exact hp)) hP
  obtain⟨μ2,cE,e2,p2⟩:=ih;refine⟨μ2,cE,?_,by rw[Vt,show k+(us.length+1)=k+1+us.length by lia];exact p2⟩;unfold forL;rw[Vu hg,ha];rcases hb with hb|hb<;>(dsimp only;rw[hb];exact e2)
theorem cz{g:ai->Prop}{a:AS}{c:MT}{e:ME}{st:ai}(hg:g st)(I:Env->Prop)(p:ao->Bool)(f:ao->ao):∀(us:List ao)(τ:Env)(ys:List ao),I τ ->
  (∀u∈us,∀τ,I τ->∃τ1,a u τ=some τ1/\I τ1/\c τ1 st=.ok (p u) st/\(p u=true->e τ1 st=.ok (f u) st))->dN g a c e us τ st ys=.ok (ys++(us.filter p).map f) st
 |[],τ,ys,_,_=>by unfold dN;rw[Vu hg];simp
 |u::us,τ,ys,hI,hs=>by
  obtain⟨τ1,h1,h2,h3,h4⟩:=hs u VO τ hI;have hs':=fun v hv=>hs v (VQ u hv);unfold dN;rw[Vu hg,h1];dsimp only;rw[h3];cases z:p u with
  |true=>
   dsimp only;rw[h4 z];dsimp only;rw[cz hg I p f us τ1 _ h2 hs',_M z];simp
  |false=>
   dsimp only;rw[cz hg I p f us τ1 _ h2 hs',_N (by rw[z];simp)]
theorem bH(st:ai)(us:List ao):aq (st++[.lst us]) st.length=some us:=by unfold aq;rw[Vv (Vo _),Wj];rfl
theorem aJ(h:aq st n=some us)(more:ai):aq (st++more) n=some us:=by
 have hn:n<st.length:=by
  rcases V2 n st.length with q|q
  .exact q
  .unfold aq at h;rw[VW q]at h;cases h
 unfold aq at h⊢;rw[VL hn];exact h
def cD.iq(r:cD α)(k:α->ai->cD β):cD β:=match r with
 |.ok a st=>k a st
 |.err c st=>.err c st
 |.bad=>.bad
def cD.Kf(r:cD α)(μ:Env)(k:α->ai->c6):c6:=match r with
 |.ok a st=>k a st
 |.err c st=>.er c μ st
 |.bad=>.bad
def c6.df(r:c6)(k:MB):c6:=match r with
 |.nx μ st=>k μ st
 |.rt v st=>.rt v st
 |.bk μ st=>.bk μ st
 |.ct μ st=>.ct μ st
 |.er c μ st=>.er c μ st
 |.bad=>.bad
def c6.fin(r:c6):cD ao:=match r with
 |.nx _ av=>.ok .dc av
 |.rt v av=>.ok v av
 |.er c _ av=>.err c av
 |_=>.bad
section
variable{μ:Env}
theorem ar{a:α}{k:α->ai->cD β}:(cD.ok a st).iq k=k a st:=rfl
theorem aE{a:α}{k:α->ai->c6}:(cD.ok a st).Kf μ k=k a st:=rfl
theorem az{k:MB}:(c6.nx μ st).df k=k μ st:=rfl
theorem qh{k:MB}:(c6.rt v st).df k=.rt v st:=rfl
theorem MY:(c6.nx μ st).fin=.ok .dc st:=rfl
theorem e_:(c6.rt v st).fin=.ok v st:=rfl
theorem jO{r:cD α}{k:α->ai->cD β}:r.bind k=r.iq k:=by cases r<;>rfl
variable{a b c:ME}{f g:F2}{t u:MT}{s1 s2:MB}
theorem cG{r:cD α}{k k':α->ai->cD β}(h:∀a st,k a st=k' a st):r.bind k=r.iq k':=by cases r<;>first|exact h _ _|rfl
theorem qi{r:cD α}{k k':α->ai->c6}(h:∀a st,k a st=k' a st):r.sb μ k=r.Kf μ k':=by cases r<;>first|exact h _ _|rfl
def wM(f:F2)(x:ao):ao->ai->cD ao:=fun y st=>f x y st
def QC(f:F2)(b:ME)(μ:Env):ao->ai->cD ao:=fun x st=>(b μ st).iq (wM f x)
theorem du:ak f a b μ st=(a μ st).iq (QC f b μ):=cG fun _ _=>cG fun _ _=>rfl
theorem ff{x:ao}:QC f b μ x st=(b μ st).iq (wM f x):=rfl
theorem dg{x y:ao}:wM f x y st=f x y st:=rfl
theorem jz:mC v μ st=.ok v st:=rfl
def asB:ao->ai->cD Bool
 |.bl b,st=>.ok b st
 |_,_=>.bad
theorem e!{b:Bool}:asB (.bl b) st=.ok b st:=rfl
theorem d6:bO a μ st=(a μ st).iq asB:=cG fun x _=>by cases x<;>rfl
def MZ(b:ME)(μ:Env):ao->ai->cD ao
 |.bl true,st=>b μ st
 |.bl false,st=>.ok (.bl false) st
 |_,_=>.bad
theorem nI:l_ a b μ st=(a μ st).iq (MZ b μ):=cG fun x _=>by
 cases x<;>try rfl
 rename_i k;cases k<;>rfl
theorem mB:MZ b μ (.bl true) st=b μ st:=rfl
theorem Ih:MZ b μ (.bl false) st=.ok (.bl false) st:=rfl
def UD(b:ME)(μ:Env):ao->ai->cD ao
 |.bl true,st=>.ok (.bl true) st
 |.bl false,st=>b μ st
 |_,_=>.bad
theorem Kg:Sh a b μ st=(a μ st).iq (UD b μ):=cG fun x _=>by
 cases x<;>try rfl
 rename_i k;cases k<;>rfl
theorem M3:UD b μ (.bl true) st=.ok (.bl true) st:=rfl
theorem M4:UD b μ (.bl false) st=b μ st:=rfl
def aaB(u:MT)(μ:Env):Bool->ai->cD Bool
 |true,st=>u μ st
 |false,st=>.ok false st
def M5(u:MT)(μ:Env):Bool->ai->cD Bool
 |true,st=>.ok true st
 |false,st=>u μ st
theorem nJ:gE t u μ st=(t μ st).iq (M5 u μ):=cG fun x _=>by cases x<;>rfl
theorem Ii:M5 u μ true st=.ok true st:=rfl
theorem mD:M5 u μ false st=u μ st:=rfl
def Kh:Bool->ai->cD Bool:=fun k st=>.ok (!k) st
theorem u6:cN t μ st=(t μ st).iq Kh:=cG fun _ _=>rfl
theorem El{k:Bool}:Kh k st=.ok (!k) st:=rfl
def M6(a b:ME)(μ:Env):Bool->ai->cD ao
 |true,st=>a μ st
 |false,st=>b μ st
theorem AA:Ox t a b μ st=(t μ st).iq (M6 a b μ):=cG fun x _=>by cases x<;>rfl
theorem AB:M6 a b μ true st=a μ st:=rfl
theorem AD:M6 a b μ false st=b μ st:=rfl
def Ij(g:F2)(c:ME)(μ:Env)(y:ao):ao->ai->cD ao
 |.bl true,st=>(c μ st).iq (wM g y)
 |.bl false,st=>.ok (.bl false) st
 |_,_=>.bad
def M7(f g:F2)(c:ME)(μ:Env)(x:ao):ao->ai->cD ao:=fun y st=>(f x y st).iq (Ij g c μ y)
def kCh(f g:F2)(b c:ME)(μ:Env):ao->ai->cD ao:=fun x st=>(b μ st).iq (M7 f g c μ x)
theorem wN:uT f g a b c μ st=(a μ st).iq (kCh f g b c μ):=cG fun _ _=>cG fun _ _=>cG fun z _=>by
 cases z<;>try rfl
 rename_i k;cases k
 .rfl
 .exact cG fun _ _=>rfl
theorem QD{x:ao}:kCh f g b c μ x st=(b μ st).iq (M7 f g c μ x):=rfl
theorem Ki{x y:ao}:M7 f g c μ x y st=(f x y st).iq (Ij g c μ y):=rfl
theorem Ik{y:ao}:Ij g c μ y (.bl true) st=(c μ st).iq (wM g y):=rfl
theorem Il{y:ao}:Ij g c μ y (.bl false) st=.ok (.bl false) st:=rfl
theorem cH:aj μ st=.ok [] st:=rfl
def yL(x:ao):List ao->ai->cD (List ao):=fun xs st=>.ok (x::xs) st
def Kj(ms:MA)(μ:Env):ao->ai->cD (List ao):=fun x st=>(ms μ st).iq (yL x)
theorem aZ:aa a ms μ st=(a μ st).iq (Kj ms μ):=cG fun _ _=>cG fun _ _=>rfl
theorem bC{x:ao}:Kj ms μ x st=(ms μ st).iq (yL x):=rfl
theorem a7{x:ao}{xs:List ao}:yL x xs st=.ok (x::xs) st:=rfl
def QE:List ao->ai->cD ao:=fun xs st=>if xs.length<=sizeLine then .ok (.tup xs) st else .bad
theorem i5:cq ms μ st=(ms μ st).iq QE:=cG fun _ _=>rfl
theorem oI{xs:List ao}:QE xs st=if xs.length<=sizeLine then .ok (.tup xs) st else .bad:=rfl
def QF:List ao->ai->cD ao:=fun xs st=>if xs.length<=sizeLine then .ok (.loc st.length) (st++[.lst xs])else .bad
theorem yM:bW ms μ st=(ms μ st).iq QF:=cG fun _ _=>rfl
theorem Em{xs:List ao}:QF xs st=if xs.length<=sizeLine then .ok (.loc st.length) (st++[.lst xs])else .bad:=rfl
theorem dU{h:FN}:ah h ms μ st=(ms μ st).iq h:=cG fun _ _=>rfl
def aaH:ao->ai->cD ao
 |.int i,st=>.ok (.int (-i)) st
 |_,_=>.bad
def M8(T:String)(v:ao)(st:ai):cD ao:=match Qi T st v with
 |some b=>.ok (.bl b) st
 |none=>.bad
theorem QG{T:String}:x_ T a μ st=(a μ st).iq (M8 T):=cG fun _ _=>rfl
theorem ay:aB s1 s2 μ st=(s1 μ st).df s2:=by unfold aB;cases s1 μ st<;>rfl
theorem iy:aX μ st=.nx μ st:=rfl
def QH(μ:Env):ao->ai->c6:=fun _ st=>.nx μ st
theorem gj:cO a μ st=(a μ st).Kf μ (QH μ):=qi fun _ _=>rfl
def QI:ao->ai->c6:=fun v st=>.rt v st
theorem ba:aP a μ st=(a μ st).Kf μ QI:=qi fun _ _=>rfl
theorem gR:QI v st=.rt v st:=rfl
def UE(s1 s2:MB)(μ:Env):Bool->ai->c6
 |true,st=>s1 μ st
 |false,st=>s2 μ st
theorem ef:fw t s1 s2 μ st=(t μ st).Kf μ (UE s1 s2 μ):=qi fun x _=>by cases x<;>rfl
theorem jP:UE s1 s2 μ true st=s1 μ st:=rfl
theorem f?:UE s1 s2 μ false st=s2 μ st:=rfl
def QJ(i:Nat)(μ:Env):ao->ai->c6:=fun v st=>.nx (μ.set i (some v)) st
theorem hJ:aG i a μ st=(a μ st).Kf μ (QJ i μ):=qi fun _ _=>rfl
theorem wO:QJ i μ v st=.nx (μ.set i (some v)) st:=rfl
def kFor(as:AS)(s1:MB)(μ:Env):Itm->ai->c6:=fun p st=>forL p.2 as s1 p.1 μ st
theorem fA{it:MI}:dM it as s1 μ st=(it μ st).Kf μ (kFor as s1 μ):=qi fun _ _=>rfl
theorem hU{q:ai->Prop}:kFor as s1 μ (us,q) st=forL q as s1 us μ st:=rfl
def Im:List ao->ai->cD ao:=fun ys st=>.ok (.loc st.length) (st++[.lst ys])
theorem jd{ys:List ao}:Im ys st=.ok (.loc st.length) (st++[.lst ys]):=rfl
def En(k:Nat)(a_:List Nat)(as:AS)(t:MT)(a:ME)(μ:Env):Itm->ai->cD ao:=fun p st=>if p.1.length<=sizeLine then(dN p.2 as t a p.1 (jy k a_ μ) st []).iq Im else .bad
theorem fm{k:Nat}{it:MI}:bz k a_ it as t a μ st=(it μ st).iq (En k a_ as t a μ):=cG fun p a0=>by
 unfold En;split
 .exact cG fun _ _=>rfl
 .rfl
theorem gG{k:Nat}{q:ai->Prop}:En k a_ as t a μ (us,q) st=if us.length<=sizeLine then(dN q as t a us (jy k a_ μ) st []).iq Im else .bad:=rfl
theorem bw{np:Nat}(h:us.length=np):gC np n s1 us st=(s1 (us.map some++List.replicate (n-np) none) st).fin:=by unfold gC;rw[Vu h];cases s1 (us.map some++List.replicate (n-np) none) st<;>rfl
theorem nK(h:μ[i]?=some (some v))(hx:Qa v=false):ae i μ st=.ok v st:=by unfold ae;rw[h];simp[hx]
theorem gS{x:Option ao}{μ:Env}:ae (i+1) (x::μ) st=ae i μ st:=rfl
theorem eg{μ:Env}{j:Int}:ae 0 (some (.int j)::μ) st=.ok (.int j) st:=rfl
theorem Eo{μ:Env}:ae 0 (some (.loc j)::μ) st=.ok (.loc j) st:=rfl
def tm(v:ao)(st:ai):cD Itm:=match qc st v with
 |some p=>.ok p st
 |none=>.bad
theorem b_:bJ a μ st=(a μ st).iq tm:=by unfold bJ;rw[jO];rfl
theorem j_:tm (.tup us) st=.ok (us,fun _=>True) st:=rfl
theorem bI(h:aq st n=some us):tm (.loc n) st=.ok (us,fun av=>aq av n=some us) st:=by simp only[tm,qc,h];rfl
def M9(vs:List ao)(av:ai):cD Itm:=match vs with
 |[.int j]=>if -(2 ^ 62)<=j/\j<2 ^ 62 then .ok (cF 0 j.toNat,fun _=>True) av else .bad
 |_=>.bad
theorem u7:cA ms μ st=(ms μ st).iq M9:=by unfold cA;rw[jO];rfl
theorem u9{j:Int}(h1:-(2 ^ 62)<=j)(h2:j<2 ^ 62):M9 [.int j] st=.ok (cF 0 j.toNat,fun _=>True) st:=by unfold M9;dsimp only;rw[Vu ⟨h1,h2⟩]
def M_(b1 b2:Bool)(vs:List ao)(av:ai):cD Itm:=match vs with
 |[u,w]=>match iD av u,iD av w with
  |some (c1,us,g1),some (c2,ws,g2)=>if c1=b1/\c2=b2 then .ok (mf us ws,fun cE=>g1 cE/\g2 cE) av else .bad
  |_,_=>.bad
 |_=>.bad
theorem M!{b1:Bool}:sV b1 b2 ms μ st=(ms μ st).iq (M_ b1 b2):=by unfold sV;rw[jO];rfl
theorem Io:M_ false false [.tup us,.tup ws] st=.ok (mf us ws,fun _=>True/\True) st:=rfl
theorem pF(h1:aq st n=some us):gW [.loc n] st=.ok (.tup us) st:=by unfold gW;dsimp only;rw[h1]
theorem k_{i j:Int}:a8 (.int i) (.int j) st=.ok (.int (i+j)) st:=rfl
theorem yN{i j:Int}:jH (.int i) (.int j) st=.ok (.int (i-j)) st:=rfl
theorem u_{i j:Int}(h:MulOk i j):cu (.int i) (.int j) st=.ok (.int (i*j)) st:=by unfold cu;dsimp only;rw[Vu h]
theorem je{i j:Int}(h1:-(2 ^ 64)<i)(h2:i<2 ^ 64):cu (.int i) (.int j) st=.ok (.int (i*j)) st:=u_ (.inr (.inl ⟨h1,h2⟩))
theorem mul_r{i j:Int}(h1:-(2 ^ 64)<j)(h2:j<2 ^ 64):cu (.int i) (.int j) st=.ok (.int (i*j)) st:=u_ (.inr (.inr ⟨h1,h2⟩))
theorem div_ii{i j:Int}(h:Dz j):gv (.int i) (.int j) st=.ok (.int (i.fdiv j)) st:=Vu h
theorem fT{i j:Int}(h:¬ j=0):dJ (.int i) (.int j) st=.ok (.int (i.fmod j)) st:=VA h
theorem M?{i j:Int}(h:C8 i j):DS (.int i) (.int j) st=.ok (.int (i ^ j.toNat)) st:=Vu h
theorem tq{i j:Int}:ltV (.int i) (.int j) st=.ok (.bl (decide (i<j))) st:=rfl
theorem Kk{i j:Int}:Qh (.int i) (.int j) st=.ok (.bl (decide (i<=j))) st:=rfl
theorem Kl{i j:Int}:Gn (.int i) (.int j) st=.ok (.bl (decide (j<i))) st:=rfl
theorem kH{i j:Int}:fZ (.int i) (.int j) st=.ok (.bl (i==j)) st:=rfl
theorem Ep{i j:Int}:jJ (.int i) (.int j) st=.ok (.bl (!(i==j))) st:=rfl
theorem uB{i:Int}{v:ao}(h:L2.rN us i=some v):cw (.tup us) (.int i) st=.ok v st:=by unfold cw;dsimp only;rw[h]
theorem nL{i:Int}{v:ao}(h1:aq st n=some us)(h:L2.rN us i=some v):cw (.loc n) (.int i) st=.ok v st:=by unfold cw;dsimp only;rw[h1];dsimp only;rw[h]
theorem mE(h1:aq st n=some us):fe [.loc n] st=.ok (.int us.length) st:=by unfold fe;dsimp only;rw[h1]
theorem Ip:fe [.tup us] st=.ok (.int us.length) st:=rfl
theorem Iq{m:Nat}(h1:aq st n=some us)(h2:aq st m=some []):kX 16 st (.loc n) (.loc m)=some us.isEmpty:=by unfold kX;simp only[vw,h1,h2];show jx _ us []=_;cases us<;>rfl
theorem eq_nil{m:Nat}(h1:aq st n=some us)(h2:aq st m=some []):fZ (.loc n) (.loc m) st=.ok (.bl us.isEmpty) st:=by unfold fZ;rw[Iq h1 h2]
end
end MN
namespace MN
open Spec L2
open PyProof.Rows hiding St kindOf
section
variable{μ:Env}{a b c o:ME}{f:F2}{g:FM}{w:ao}{m:Nat}
def Na(x:ao)(l:Option Int):Option Int->ai->cD ao:=fun h st=>Ed l h x st
def Nb(hi:MO)(μ:Env)(x:ao):Option Int->ai->cD ao:=fun l st=>(hi μ st).iq (Na x l)
def kSl(lo hi:MO)(μ:Env):ao->ai->cD ao:=fun x st=>(lo μ st).iq (Nb hi μ x)
theorem QK{lo hi:MO}:mw a lo hi μ st=(a μ st).iq (kSl lo hi μ):=cG fun x a0=>cG fun l cE=>cG fun h jE=>rfl
theorem UG{lo hi:MO}:kSl lo hi μ v st=(lo μ st).iq (Nb hi μ v):=rfl
theorem QL{hi:MO}{l:Option Int}:Nb hi μ v l st=(hi μ st).iq (Na v l):=rfl
theorem QM{l h:Option Int}:Na v l h st=Ed l h v st:=rfl
theorem Er:dP μ st=.ok none st:=rfl
def kO:ao->ai->cD (Option Int)
 |.int i,st=>.ok (some i) st
 |_,_=>.bad
theorem Es:dy a μ st=(a μ st).iq kO:=cG fun x _=>by cases x<;>rfl
theorem UH{j:Int}:kO (.int j) st=.ok (some j) st:=rfl
theorem Et{l h:Option Int}(e:aq st n=some us):Ed l h (.loc n) st=.ok (.loc st.length) (st++[.lst (mq us l h)]):=by simp only[Ed,e]
def Nc(g:FM)(x:ao):List ao->ai->cD ao:=fun xs st=>g x xs st
def Ir(g:FM)(ms:MA)(μ:Env):ao->ai->cD ao:=fun x st=>if wB st x=true then(ms μ st).iq (Nc g x)else .bad
theorem qm:iP g o ms μ st=(o μ st).iq (Ir g ms μ):=cG fun x a0=>by
 unfold Ir;split
 .exact cG fun _ _=>rfl
 .rfl
theorem wQ(h:st[n]?=some (.lst us)):Ir g ms μ (.loc n) st=(ms μ st).iq (Nc g (.loc n)):=by unfold Ir;rw[Vu (by unfold wB;dsimp only;rw[h])]
theorem Eu{xs:List ao}:Nc g v xs st=g v xs st:=rfl
theorem nM(h:st[n]?=some (.lst us))(hl:us.length<sizeLine):dS (.loc n) [v] st=.ok .dc (st.set n (.lst (us++[v]))):=by simp only[dS,h];rw[Vu hl]
theorem Iu:nF ms μ st=(ms μ st).iq Ef:=by unfold nF;rw[jO]
theorem Nd{j k:Int}(h1:-(2 ^ 62)<=j)(h2:j<2 ^ 62)(h3:-(2 ^ 62)<=k)(h4:k<2 ^ 62):Ef [.int j,.int k,.int (-1)] st=.ok (jc j (j-k).toNat,fun _=>True) st:=by unfold Ef;dsimp only;rw[Vu ⟨rfl,h1,h2,h3,h4⟩]
theorem Nf{j k:Int}:u3 [.int j,.int k] st=.ok (.int (if k>j then k else j)) st:=rfl
theorem mF(e:aq st n=some us):fO [.loc n] st=.ok (.loc st.length) (st++[.lst us]):=by simp only[fO,e]
theorem Ng{k:Int}(h1:st[n]?=some (.lst us))(h2:-(2 ^ 63)<=k)(h3:k<2 ^ 63)(h4:us.length*k.toNat<=sizeLine):cu (.loc n) (.int k) st=.ok (.loc st.length) (st++[.lst (g_ k.toNat us)]):=by simp only[cu,h1];rw[Vu ⟨h2,h3,h4⟩]
theorem QN(h:st[n]?=some (.lst us)):aq st n=some us:=by unfold aq;rw[h]
theorem dW(st:ai)(us:List ao):(st++[aR.lst us])[st.length]?=some (.lst us):=by rw[Vv (Vo _),Wj];rfl
theorem is_list(h:st[n]?=some (.lst us)):M8 "list" (.loc n) st=.ok (.bl true) st:=by unfold M8 Qi kindOf;dsimp only;rw[h];rfl
theorem wU(st:ai)(k k':aR):(st++[k]).set st.length k'=st++[k']:=by rw[Xu _ _ (Vo _),Wj];rfl
theorem pG(st:ai)(k k':aR)(g:ai):(st++k::g).set st.length k'=st++k'::g:=by rw[Xu _ _ (Vo _),Wj];rfl
theorem Nh(st:ai)(k:aR)(g:ai):(st++k::g)[st.length]?=some k:=by rw[Vv (Vo _),Wj];rfl
end
mutual
def tw:Nat->ao->Bool
 |_,.dc=>true
 |_,.bl _=>true
 |_,.int _=>true
 |_,.str _=>true
 |0,.tup _=>false
 |n+1,.tup us=>hZ n us
 |_,_=>false
def hZ:Nat->List ao->Bool
 |_,[]=>true
 |n,u::us=>tw n u&&hZ n us
end
mutual
theorem Ew(st:ai):∀(n:Nat)(v:ao),tw n v=true->kX (n+1) st v v=some true
 |_,.dc,_=>rfl
 |_,.bl b,_=>by show some (b==b)=_;rw[WG]
 |_,.int i,_=>by show some (i==i)=_;rw[WG]
 |_,.str x,_=>by show some (x==x)=_;rw[WG]
 |0,.tup _,h=>by cases h
 |n+1,.tup us,h=>by show jx (kX (n+1) st) us us=some true;exact j! st n us h
 |n,.loc _,h=>by cases n<;>cases h
 |n,.exc _,h=>by cases n<;>cases h
 |n,.fn _ _,h=>by cases n<;>cases h
 |n,.mt _,h=>by cases n<;>cases h
theorem j!(st:ai):∀(n:Nat)(us:List ao),hZ n us=true->jx (kX (n+1) st) us us=some true
 |_,[],_=>rfl
 |n,u::us,h=>by
  have h':tw n u=true/\hZ n us=true:=by simpa[hZ]using h
  show(match kX (n+1) st u u,jx (kX (n+1) st) us us with|some a,some b=>some (a&&b)|_,_=>none)=_;rw[Ew st n u h'.1,j! st n us h'.2];rfl
end
theorem j?{n:Nat}:∀{us:List ao},(∀u∈us,tw n u=true)->hZ n us=true
 |[],_=>rfl
 |u::us,h=>by unfold hZ;rw[h u VO,j? fun w hw=>h w (VQ u hw)];rfl
theorem oJ(n:Nat)(ns:_S):hZ n (ns.map ao.int)=true:=j? fun u hu=>by obtain⟨i,_,rfl⟩:=VH.mp hu;cases n<;>rfl
section
variable{m:Nat}
end
end MN
namespace SO
open W PyProof.Rows
structure Ord(L:Nat->Nat->Bool)(n:Nat):Prop where
 tr:∀i j k,i<n->j<n->k<n->L i j=true->L j k=true->L i k=true
 Ex:∀i j,i<n->j<n->i≠j->L i j=false->L j i=true
 aaI:∀i j,i<n->j<n->L i j=true->L j i=false
section
variable{p:Array Nat}
end
section
variable{L:Nat->Nat->Bool}(O:Ord L n)
include O
end
def k!(h:Heap)(d:_Z)(es:Array DictEntry)(ep:Nat):Prop:=∃o,h.get? d=some o/\o.cls=.type "dict" /\ o.data=.dict es ep
section
variable{E:_O}{s:_Y}{d it:_Z}{es:Array DictEntry}
theorem k!.ty(x:k! s.heap d es ep):s.TypeIs (.ref d) "dict":=by obtain⟨o,ho,hc,_⟩:=x;exact⟨o,ho,hc⟩
theorem k!.lt(x:k! h d es ep):d<h.objs.size:=by obtain⟨o,ho,_⟩:=x;exact Vz ho
theorem k!.to(x:k! h d es ep)(hk:∀o,h.get? d=some o->h'.get? d=some o):k! h' d es ep:=by obtain⟨o,ho,r⟩:=x;exact⟨o,hk o ho,r⟩
theorem Ey(hd:(d==sysModules)=false)(x:k! s.heap d es ep)(hQ:Q (.ref s.heap.objs.size) {s with heap:=s.heap.push {cls:=.type "dict_keyiterator",data:=.fields #[.ref d,.int 0 0,.int es.size 0,.int ep 0]} }):wpAny (model prog w) A (pyIter (.ref d)) Q E s:=by obtain⟨o,go,gc,gd⟩:=id x;have T:=x.ty;refine wpAny_pyIter_slot T ZM (WQ ZM T F.entry_dict_iter ?_ (F.args_dict_iter_1 _));unfold Builtin.«dict.__iter__»;refine Vl ?_;unfold Builtin.Dict.dictSlotNone;refine Vl (_E T ?_);show wpAny _ _ (pure (Value.ref d)) _ _ s;refine Vq ?_;show wpAny _ _ (Builtin.Dict.showsAll d >>= _) _ _ s;unfold Builtin.Dict.showsAll;rw[VA (by rw[hd];exact VI)];refine Vl (Vq ?_);refine Vl (Zp go gd ?_);refine Vl (ZJ go gd ?_);refine Vl (Wn (Vq ⟨_,rfl,"dict_keyiterator",_,⟨_,VJ _ rfl,rfl⟩,WK.lookup,?_⟩));simpa[rawInt]using hQ
theorem Ez{Q:_U->_Y->Prop}(hit:s.heap.IsKeyIter it d i es.size ep)(x:k! s.heap d es ep)(hi:i<es.size)(hQ:∀h',h'.IsKeyIter it d (i+1) es.size ep->Heap.SameBut it s.heap h'->Q (some es[i].key) {s with heap:=h'}):wpAny (model prog w) A (pyNext (.ref it)) Q E s:=by
 obtain⟨o,ho,hc,hf⟩:=id hit;obtain⟨od,go,gc,gd⟩:=id x;have T:=hit.typeIs;unfold pyNext;refine Vl (XJ (WR (name:=Str.ofString "__next__") T WK (WQ WK T YJ ?_ (YC _))));refine Vl (Vq ?_);refine Vl ?_;refine Vl ?_
 first|refine Vl (Xm T (Vq ?_))|refine Vl (XI T (Vq ?_))
 refine Vl (wpAny_fieldsOf ho hf ?_);have no:Builtin.Dict_items.ownsTuple "dict_keyiterator" = false:=by decide
 simp only[no,V3,WN];show wpAny _ _ (if(Value.ref d==Value.none)=true then _ else _) _ _ s;rw[VA (show ¬ ((Value.ref d==Value.none)=true)from VI)];refine Vl (Vq ?_);refine Vl (Zp go gd ?_);rw[VA (by simp)];refine Vl (Vq ?_);refine Vl (ZJ go gd ?_);rw[VA (by simp)];refine Vq ?_;simp only[show ¬ ((i:Int)<0)from by lia,WN,WE,_r hi];refine Vl ?_
 first|refine Vl (Xm T (Vq ?_))|refine Vl (XI T (Vq ?_))
 refine Vl (_F T ?_);show wpAny _ _ (setField (.ref it) 1 (rawInt ((i:Int)+1)) >>= _) _ _ s;refine Vl (YQ ho hf (by simp) ?_);have go2:(s.heap.update it (Obj.mapFields (·.setIfInBounds 1 (rawInt ((i:Int)+1))))).IsKeyIter it d (i+1) es.size ep:=
  ⟨_,X2 _ ho (_J (Yh hf _)),(Obj.cls_mapFields ..).trans hc,by rw[Yh hf];simp[rawInt]⟩
 refine Vl (W4 ?_);refine Vl (_F (s:={s with heap:=s.heap.update it (Obj.mapFields (·.setIfInBounds 1 (rawInt ((i:Int)+1))))}) go2.typeIs ?_);show wpAny _ _ (pure es[i].key) _ _ _;exact Vq (Vq ⟨_,rfl,Vq (hQ _ go2 (Yd ..))⟩)
theorem Iv{Q:_U->_Y->Prop}(hh:A.handled=none)(hit:s.heap.IsKeyIter it d i es.size ep)(x:k! s.heap d es ep)(hi:es.size<=i)(hQ:∀h',Heap.ExtBut it s.heap h'->Q none {s with heap:=h'}):wpAny (model prog w) A (pyNext (.ref it)) Q E s:=by
 obtain⟨o,ho,hc,hf⟩:=id hit;obtain⟨od,go,gc,gd⟩:=id x;have T:=hit.typeIs;unfold pyNext;refine Vl (XJ (WR (name:=Str.ofString "__next__") T WK (WQ WK T YJ ?_ (YC _))));refine Vl (Vq ?_);refine Vl ?_;refine Vl ?_
 first|refine Vl (Xm T (Vq ?_))|refine Vl (XI T (Vq ?_))
 refine Vl (wpAny_fieldsOf ho hf ?_);have no:Builtin.Dict_items.ownsTuple "dict_keyiterator" = false:=by decide
 simp only[no,V3,WN];show wpAny _ _ (if(Value.ref d==Value.none)=true then _ else _) _ _ s;rw[VA (show ¬ ((Value.ref d==Value.none)=true)from VI)];refine Vl (Vq ?_);refine Vl (Zp go gd ?_);rw[VA (by simp)];refine Vl (Vq ?_);refine Vl (ZJ go gd ?_);rw[VA (by simp)];refine Vq ?_;simp only[show ¬ ((i:Int)<0)from by lia,WN,WE,Array.getElem?_eq_none hi];refine Vl ?_
 first|refine Vl (Xm T (Vq ?_))|refine Vl (XI T (Vq ?_))
 show wpAny _ _ (setField (.ref it) 0 .none >>= _) _ _ s;refine Vl (YQ ho hf (by simp) ?_);show wpAny _ _ (newExc (.type "StopIteration") [] >>= _) _ _ _;refine Vl ?_;simp only[newExc,newTuple];refine Vl (Wn ?_ (by size_fits));refine Vl (m:=firstArgMember _ _) (wpAny_of_eq (a:=Value.none) (by first|rfl|(simp only[firstArgMember];rfl)) ?_);refine Wn ?_ (by size_fits);simp only[raiseNew];refine Vl (wpAny_handled ?_);rw[show A.in1.handled=none from hh];refine Vl (Vq (wpAny_throw ?_));refine Vl (Zt (T:="StopIteration") (b:=true) ⟨_,VJ _ rfl,rfl⟩ isSubtype_stop ?_);exact Vq (hQ _ (((Yd ..).extBut.push _).push _))
def EA(es:Array DictEntry)(i:Nat)(v:_X):Prop:=∃h:i<es.size,v=es[i].key
theorem B6(hh:A.handled=none)(I:_Z)(Iw:d≠I):Walks prog w A I [I,d] [I] es.size (EA es) (fun i h=>h.IsKeyIter I d i es.size ep/\k! h d es ep) where
 sub:=fun b hb=>by rw[V0]at hb;rw[hb];exact VO
 frame:=fun _ _ _ st hk=>⟨st.1.at fun o e=>hk I VO o e,st.2.to fun o e=>hk d (VQ _ VO) o e⟩
 item:=fun i s Q E hi st hQ=>Ez st.1 st.2 hi fun h' k1 k2=>
  hQ _ h' s.toks ⟨hi,rfl⟩ ⟨k1,st.2.to fun o e=>k2.extBut d o Iw e⟩ fun b o hb e=>k2.extBut b o (fun z=>hb (by rw[z];exact _L _)) e
 done:=fun s Q E st hQ=>Iv hh st.1 st.2 (Vo _) fun h' k=>hQ h' s.toks fun b o hb e=>k b o (fun z=>hb (by rw[z];exact _L _)) e
 self:=fun _ _ _ _ st hQ=>wpAny_pyIter_keyiter st.1 hQ
theorem Iy(lo:(d==sysModules)=false):KdlSrc prog w "dict" d d es.size (EA es) (fun h=>k! h d es ep) where
 type:=fun _ x=>x.ty
 there:=fun _ x=>⟨x.lt,x.lt⟩
 keep:=fun _ _ x hk=>x.to fun o e=>hk d (.inl rfl) o e
 notList:=by decide
 notTuple:=by decide
 hint:=fun _ _ _ _ x q=>kdl_hint_dict x.ty q
 iter:=fun _ _ hh x=>⟨_,_,(fun _ _ q=>Ey lo x q),B6 hh _ (VS x.lt),⟨⟨_,VJ _ rfl,rfl,rfl⟩,x.to fun o e=>Vn _ e⟩⟩
end
section
variable{E:_O}{s:_Y}{d it:_Z}{es:Array DictEntry}
theorem Iz{acc:Array _X}(h:ItemsOf (EA es) acc es.size):acc.toList=es.toList.map (·.key):=by
 apply List.ext_getElem
 .rw[Vy,Vm,Vy];exact h.1
 .intro i h1 h2;have hi:i<acc.size:=by rw[Vy]at h1;exact h1
  obtain⟨hz,e⟩:=h.2 i acc[i] (_r hi);rw[Yc,_h,Yc,e]
theorem wV{Q:_T->_Y->Prop}(hh:A.handled=none)(lo:(d==sysModules)=false)(x:k! s.heap d es ep)(hn:es.size<=sizeLine)(h:∀h' tk,s.heap.objs.size<h'.objs.size->(∀b o,s.heap.get? b=some o->h'.get? b=some o)->Q (es.toList.map (·.key)) {s with heap:=h',toks:=tk}):wpAny (model prog w) A (collect (.ref d)) Q E s:=by
 unfold collect;refine Vl (wpAny_runValue (XC (R:=fun r s'=>r=.ok (.ret (.ref s.heap.objs.size))/\wpAny (model prog w) A (do
  let u <- load s.heap.objs.size
  match u.data with
  |.seq xs _=>pure xs.toList
  |_=>unsupported "internal:collect") Q E s') ?_ fun r s' q=>?_))
 .refine W' entry_proto_collect' ?_;show wpAny _ _ (do again (.builtin "list.__iadd__" ⟨[<-newList [],.ref d],[]⟩)) _ _ s;refine Vl (Z? (Vq ⟨Code.quiet_builtin _ (by decide +kernel),W' entry_list_iadd' ?_⟩) (V? _));have ne:=Xe x.lt;refine kdl_extend (R:=fun r s'=>r=.ok (.ret (.ref s.heap.objs.size))/\wpAny (model prog w) A (do
   let u <- load s.heap.objs.size
   match u.data with
   |.seq xs _=>pure xs.toList
   |_=>unsupported "internal:collect") Q E s') (s:={s with heap:=s.heap.push (seqObj "list" #[] 0)}) (Iy (es:=es) (ep:=ep) lo) hh (x.to fun o e=>Vn _ e) s.heap.objs.size ne ne (.ref s.heap.objs.size) 0 (VJ _ rfl) (fun h' tk acc c hk hS LF=>⟨rfl,?_⟩) hn
  refine Vl (wpAny_load hS ?_);show wpAny _ _ (pure acc.toList) Q E _;rw[Iz LF];exact Vq (h h' tk (Vz hS) fun b o e=>hk b o (VS (Vz e)) (Vn _ e))
 .obtain⟨rfl,q⟩:=q;exact q
end
def lexLt:_S->_S->Bool
 |_,[]=>false
 |[],_::_=>true
 |x::xs,y::ys=>if x=y then lexLt xs ys else decide (x<y)
theorem j':∀xs:_S,lexLt xs xs=false
 |[]=>rfl
 |x::xs=>by show(if x=x then lexLt xs xs else _)=false;rw[Vu rfl];exact j' xs
theorem qo:∀{xs ys zs:_S},lexLt xs ys=true->lexLt ys zs=true->lexLt xs zs=true:=by
 intro xs
 induction xs with
 |nil=>
  intro ys zs h1 h2;cases zs with
  |nil=>cases ys<;>cases h2
  |cons z zs=>rfl
 |cons x xs ih=>
  intro ys zs h1 h2;cases ys with
  |nil=>cases h1
  |cons y ys=>
   cases zs with
   |nil=>cases h2
   |cons z zs=>
    replace h1:(if x=y then lexLt xs ys else decide (x<y))=true:=h1;replace h2:(if y=z then lexLt ys zs else decide (y<z))=true:=h2;show(if x=z then lexLt xs zs else decide (x<z))=true;by_cases e1:x=y
    .rw[Vu e1]at h1;subst e1;by_cases e2:x=z
     .rw[Vu e2]at h2⊢;exact ih h1 h2
     .rw[VA e2]at h2⊢;exact h2
    .rw[VA e1]at h1;have h1':=Wz h1;by_cases e2:y=z
     .subst e2;rw[VA e1];exact h1
     .rw[VA e2]at h2;have OE:=Wz h2;rw[VA (by lia)];exact VV (by lia)
theorem iQ:∀{xs ys:_S},xs≠ys->lexLt xs ys=false->lexLt ys xs=true:=by
 intro xs
 induction xs with
 |nil=>
  intro ys h1 h2;cases ys with
  |nil=>exact absurd rfl h1
  |cons y ys=>cases h2
 |cons x xs ih=>
  intro ys h1 h2;cases ys with
  |nil=>rfl
  |cons y ys=>
   replace h2:(if x=y then lexLt xs ys else decide (x<y))=false:=h2;show(if y=x then lexLt ys xs else decide (y<x))=true;by_cases e:x=y
   .subst e;rw[Vu rfl]at h2⊢;exact ih (fun z=>h1 (by rw[z])) h2
   .rw[VA e]at h2;rw[VA (fun z=>e z.symm)];have:=W_ h2;exact VV (by lia)
theorem k?{xs ys:_S}(h:lexLt xs ys=true):lexLt ys xs=false:=by
 cases z:lexLt ys xs with
 |false=>rfl
 |true=>
  have:=qo h z;rw[j']at this;cases this
section
variable{E:_O}{s:_Y}
theorem Ni{fin:Bool}{Q:Bool->_Y->Prop}:∀{us vs:_T}{xs ys:_S}(i:Nat),IntsAre us xs->IntsAre vs ys->fin=decide (xs.length<ys.length)->Q (lexLt xs ys) s ->
  KatLex prog w A true fin Q (us.zip vs) i s:=by
 intro us vs xs ys i h1
 induction h1 generalizing vs ys i with
 |nil=>
  intro h2 hf h;refine kat_nil ?_;cases h2 with
  |nil=>rw[hf];exact h
  |cons n t r=>rw[hf];exact h
 |cons n t r ih=>
  intro h2 hf h;cases h2 with
  |nil=>
   refine kat_nil ?_;rw[hf];exact h
  | @cons m u yw ys' r2=>
   refine kat_cons (Zv ?_);rename_i As xs';replace h:Q (if n=m then lexLt xs' ys' else decide (n<m)) s:=h;by_cases e:n=m
   .subst e;rw[WG];refine kat_yes (ih (i+1) r2 ?_ ?_)
    .rw[hf];simp only[Vt,Nat.add_lt_add_iff_right]
    .rw[Vu rfl]at h;exact h
   .rw[V9.mpr e];rw[VA e]at h;refine kat_no ?_;by_cases hi:i=0
    .subst hi;exact oneLt_int h
    .rw[show(true&&i==0)=false by rw[YM];exact V9.mpr hi];exact kat_one _ _ (lt_int h)
def jf(h:Heap)(v:_X)(xs:_S):Prop:=xs≠[]/\∃a o aF n,v=.ref a/\h.get? a=some o/\o.cls=.type "tuple" /\ o.data=.seq aF n/\IntsAre aF.toList xs
theorem jf.to{v:_X}{xs:_S}(t:jf h v xs)(hk:∀b o,h.get? b=some o->o.cls=.type "tuple" -> h'.get? b=some o):jf h' v xs:=by obtain⟨ne,a,o,aF,n,e,ho,hc,r⟩:=t;exact⟨ne,a,o,aF,n,e,hk a o ho hc,hc,r⟩
theorem QO{Q:Bool->_Y->Prop}{x y:_X}{xs ys:_S}(h1:jf s.heap x xs)(h2:jf s.heap y ys)(h:Q (lexLt xs ys) s):wpAny (model prog w) A (keyLt' (tuples' true) x y) Q E s:=by obtain⟨_,a,o,aF,n,rfl,ho,hc,hd,hi⟩:=h1;obtain⟨_,b,o2,d?,n2,rfl,z!,vU,hd2,IA⟩:=h2;refine kat_lt ho hd z! hd2 (Ni 0 hi IA ?_ h);rw[<-hi.length,<-IA.length,Vy,Vy]
inductive cI(h:Heap):_T->List (_S)->Prop
 |nil:cI h [] []
 |cons {v:_X} {x:_S} {vs:_T} {xs:List (_S)}:jf h v x->cI h vs xs->cI h (v::vs) (x::xs)
theorem cI.to(t:cI h vs xs)(hk:∀b o,h.get? b=some o->o.cls=.type "tuple" -> h'.get? b=some o):cI h' vs xs:=by
 induction t with
 |nil=>exact .nil
 |cons a _ ih=>exact .cons (a.to hk) ih
theorem cI.length(t:cI h vs xs):vs.length=xs.length:=by
 induction t with
 |nil=>rfl
 |cons _ _ ih=>rw[Vt,Vt,ih]
theorem cI.at_(t:cI h vs xs):∀i,i<vs.length->jf h (vs.getD i .none) (xs.getD i []):=by
 induction t with
 |nil=>intro i hi;cases hi
 |cons a _ ih=>
  intro i hi;cases i with
  |zero=>exact a
  |succ i=>exact ih i (Ym hi)
theorem cI.append{UI:_T}{xs2:List (_S)}(t:cI h vs xs)(t2:cI h UI xs2):cI h (vs++UI) (xs++xs2):=by
 induction t with
 |nil=>exact t2
 |cons a _ ih=>exact .cons a ih
theorem cI.rev(t:cI h vs xs):cI h vs.reverse xs.reverse:=by
 induction t with
 |nil=>exact .nil
 |cons a _ ih=>
  rw[Xx,Xx];exact ih.append (.cons a .nil)
theorem cI.kat(t:cI h vs xs):∃fs,KatTups h vs fs/\fs.length=vs.length/\∀v∈fs,∃n u,v=.int n u:=by
 induction t with
 |nil=>exact⟨[],.nil,rfl,fun v m=>by cases m⟩
 |cons a _ ih=>
  obtain⟨fs,k,l,al⟩:=ih;obtain⟨ne,a,o,aF,n,rfl,ho,hc,hd,hi⟩:=a;obtain⟨aF⟩:=aF;cases hi with
  |nil=>exact absurd rfl ne
  |cons m u r=>
   refine⟨_,KatTups.cons ho hc hd rfl k,by rw[Vt,Vt,l],fun v mv=>?_⟩;rcases VU.mp mv with rfl|mv
   .exact⟨_,_,rfl⟩
   .exact al v mv
theorem IB{Q:SortKind->_Y->Prop}(t:cI s.heap vs xs)(h0:0<vs.length)(h:Q (tuples' true) s):wpAny (model prog w) A (keyKind' vs.toArray) Q E s:=by obtain⟨fs,k,l,al⟩:=t.kat;refine kat_kind (T:=.type "int") k (by rw[l];exact h0) (fun v m=>?_) (by decide) h;obtain⟨n,u,rfl⟩:=al v m;exact Looks.of_pure rfl
end
end SO
namespace TS
section
variable(le:α->α->Prop)
def Gq(l:List α):Prop:=l.Pairwise le
structure B7(Ex out A B:List α):Prop where
 pm:(out++(A++B)).Perm Ex
 so:Gq le out
 sa:Gq le A
 sb:Gq le B
 oa:∀x∈out,∀y∈A,le x y
 ob:∀x∈out,∀y∈B,le x y
variable{le}{Ex out A B:List α}
theorem B7.swap(h:B7 le Ex out A B):B7 le Ex out B A:=
 ⟨(Y7 _ List.perm_append_comm).trans h.pm,h.so,h.sb,h.sa,h.ob,h.oa⟩
theorem B7.a{A1 A2:List α}(h:B7 le Ex out (A1++A2) B)(l:∀x∈A1,∀y∈B,le x y):B7 le Ex (out++A1) A2 B:=by
 have sa:=Xc.mp h.sa;refine⟨?_,Xc.mpr ⟨h.so,sa.1,fun x hx y hy=>h.oa x hx y (WU _ hy)⟩,sa.2.1,h.sb,fun x hx y hy=>?_,fun x hx y hy=>?_⟩
 .have:=h.pm;rwa [Vs,<-Vs out A1]at this
 .rcases Wb.mp hx with hx|hx
  .exact h.oa x hx y (V! _ hy)
  .exact sa.2.2 x hx y hy
 .rcases Wb.mp hx with hx|hx
  .exact h.ob x hx y hy
  .exact l x hx y hy
theorem B7.b{B1 B2:List α}(h:B7 le Ex out A (B1++B2))(l:∀x∈B1,∀y∈A,le x y):B7 le Ex (out++B1) A B2:=(h.swap.a l).swap
theorem B7.fin(h:B7 le Ex out A B)(l:∀x∈A,∀y∈B,le x y):(out++A++B).Perm Ex/\Gq le (out++A++B):=by
 refine⟨by rw[Vs];exact h.pm,?_⟩;rw[Vs];refine Xc.mpr ⟨h.so,Xc.mpr ⟨h.sa,h.sb,l⟩,fun x hx y hy=>?_⟩;rcases Wb.mp hy with hy|hy
 .exact h.oa x hx y hy
 .exact h.ob x hx y hy
end
section
variable(r:α->Nat)
def K(xs:Array α)(i:Nat):Nat:=(xs[i]?).elim 0 r
def Up(xs:Array α)(lo hi:Nat):Prop:=∀i j,lo<=i->i<j->j<hi->K r xs i<=K r xs j
def Dn(xs:Array α)(lo hi:Nat):Prop:=∀i j,lo<=i->i<j->j<hi->K r xs j<=K r xs i
abbrev Ss:α->α->Prop:=fun x y=>r x<=r y
abbrev rge:α->α->Prop:=fun x y=>r y<=r x
def cJ(xs:Array α)(i j:Nat):List α:=(xs.toList.drop i).take (j-i)
variable{r}{xs ys:Array α}
theorem gb{x:α}(h:xs[i]?=some x):K r xs i=r x:=by unfold K;rw[h];rfl
theorem jQ(hj:j<=xs.size):(cJ xs i j).length=j-i:=by unfold cJ;rw[V',Wl,Vy];lia
theorem gw{k:Nat}:(cJ xs i j)[k]?=if k<j-i then xs[i+k]? else none:=by unfold cJ;rw[List.getElem?_take,Wy,W2]
theorem bF{x:α}(h:x∈cJ xs i j):∃k,i<=k/\k<j/\xs[k]?=some x:=by
 obtain⟨k,hk⟩:=Za h;rw[gw]at hk;split at hk
 .exact⟨i+k,by lia,by lia,hk⟩
 .cases hk
theorem cR{k:Nat}(h1:i<=j)(h2:j<=k)(hk:k<=xs.size):cJ xs i k=cJ xs i j++cJ xs j k:=by
 apply Yw;intro n;rw[List.getElem?_append,jQ (by lia),gw,gw,gw];by_cases c:n<j-i
 .rw[Vu c,Vu (by lia),Vu c]
 .rw[VA c];by_cases d:n<k-i
  .rw[Vu d,Vu (by lia)];congr 1;lia
  .rw[VA d,VA (by lia)]
theorem mG{x:α}(h:xs[i]?=some x):cJ xs i (i+1)=[x]:=by
 apply Yw;intro n;rw[gw];cases n with
 |zero=>rw[Vu (by lia)];exact h
 |succ n=>rw[VA (by lia)];rfl
theorem wW(h:j<=i):cJ xs i j=[]:=by unfold cJ;rw[show j-i=0 by lia];rfl
theorem fg:cJ xs 0 xs.size=xs.toList:=by unfold cJ;rw[Yp,YV,<-Vy,List.take_length]
theorem aN:(xs.extract i j).toList=cJ xs i j:=by rw[Array.toList_extract];unfold cJ;rw[List.extract_eq_take_drop]
theorem Up.iG{hi:Nat}(h:Up r xs lo hi):Gq (Ss r) (cJ xs lo hi):=by
 unfold Gq;rw[WJ];intro i j h1 h2 QP;have e1:=Vp h1;have e2:=Vp h2;rw[gw]at e1 e2;split at e1
 .split at e2
  .have:=h (lo+i) (lo+j) (by lia) (by lia) (by lia);rw[gb e1,gb e2]at this;exact this
  .cases e2
 .cases e1
theorem Nj{hi:Nat}(h:Gq (Ss r) (cJ xs lo hi))(hz:hi<=xs.size):Up r xs lo hi:=by
 intro i j h1 h2 h3;have q1:i-lo<(cJ xs lo hi).length:=by rw[jQ hz];lia
 have q2:j-lo<(cJ xs lo hi).length:=by rw[jQ hz];lia
 have:=(WJ.mp h) (i-lo) (j-lo) q1 q2 (by lia);have e1:=Vp q1;have e2:=Vp q2;rw[gw,Vu (by lia),show lo+(i-lo)=i by lia]at e1;rw[gw,Vu (by lia),show lo+(j-lo)=j by lia]at e2;rw[gb e1,gb e2];exact this
theorem Up.le{hi:Nat}(h:Up r xs lo hi)(h1:lo<=i)(h2:i<=j)(h3:j<hi):K r xs i<=K r xs j:=by
 rcases V2 i j with q|q
 .exact h i j h1 q h3
 .rw[show i=j by lia];exact Vo _
theorem Up.sub{hi lo' wg:Nat}(h:Up r xs lo hi)(h1:lo<=lo')(h2:wg<=hi):Up r xs lo' wg:=fun i j a b c=>h i j (by lia) b (by lia)
theorem Up.rev{hi:Nat}(h:Up r xs lo hi):Gq (rge r) (cJ xs lo hi).reverse:=X8.mpr h.iG
theorem wX:∀(m:List α)(k sa:Nat)(xs:Array α),sa+k+m.length<=xs.size ->
  ((m.zipIdx k).foldl (fun a(q:α×Nat)=>a.setIfInBounds (sa+q.2) q.1) xs).toList=xs.toList.take (sa+k)++m++xs.toList.drop (sa+k+m.length)
 |[],k,sa,xs,_=>by show xs.toList=_;rw[VZ];exact(List.take_append_drop _ _).symm
 |x::m,k,sa,xs,h=>by
  rw[ZS,_C,wX m (k+1) sa _ (by rw[Array.size_setIfInBounds];simp only[Vt]at h;lia)];simp only[Vt]at h⊢;rw[_j,<-Zy,List.take_set,List.drop_set_of_lt (by lia)];have hl:sa+k<xs.toList.length:=by rw[Vy];lia
  rw[List.take_succ_eq_append_getElem hl];have e:(xs.toList.take (sa+k)).length=sa+k:=by rw[V'];lia
  rw[Xu _ _ (by lia),e,Wj];simp only[WT,Vs,Y0,Wa,VM];rw[show sa+k+1+m.length=sa+k+(m.length+1) by lia]
theorem EB{m:List α}{sa:Nat}{xs:Array α}(h:sa+m.length<=xs.size):
  ((m.zipIdx).foldl (fun a(q:α×Nat)=>a.setIfInBounds (sa+q.2) q.1) xs).toList=xs.toList.take sa++m++xs.toList.drop (sa+m.length):=wX m 0 sa xs h
theorem B8:xs.toList.take i=cJ xs 0 i:=by unfold cJ;rw[Yp,YV]
theorem B9:xs.toList.drop i=cJ xs i xs.size:=by unfold cJ;rw[Wf];rw[Wl,Vy];exact Vo _
end
end TS
variable {a:Addr}
namespace TS
open PyProof.Rows
def AE:Bool->Keyed->Array Keyed->Nat->Nat->Nat->StateT SortSt Sem (Option Nat):=sortPriv% PySem.Builtin.gallop
def wY:Array Keyed->Array Keyed->StateT SortSt Sem (Array Keyed):=sortPriv% PySem.Builtin.mergeLo
def wZ:Array Keyed->Array Keyed->StateT SortSt Sem (Array Keyed):=sortPriv% PySem.Builtin.mergeHi
section
variable{E:_O}{s:_Y}{κ:SortKind}{S:Keyed->Prop}{r:Keyed->Nat}{st:SortSt}
def B_(prog:_1)(w:World)(A:_0)(s:_Y)(κ:SortKind)(S:Keyed->Prop)(r:Keyed->Nat):Prop:=
 ∀(x y:Keyed)(Q:Bool->_Y->Prop),S x->S y->Q (decide (r x<r y)) s->wpAny (model prog w) A (keyLt' κ x.1 y.1) Q (fun _ _=>False) s
theorem QQ(C:B_ prog w A s κ S r){x y:Keyed}{Q:Option Bool->SortSt->Prop}(hk:kindOf st=κ)(hx:S x)(hy:S y)(h:Q (some (decide (r x<r y))) st):
  wpS (model prog w) A E s (lt' x y) Q st:=by
 rw[lt'_eq];refine VD (Yu ?_);rw[hk];refine VD (Zs (XJ (Ws (C x y (fun c s'=>c=decide (r x<r y)/\s'=s) hx hy ⟨rfl,rfl⟩) (fun c s' q=>⟨q.2,?_⟩) fun _ _ q=>q.elim)));rw[q.1];exact VG h
theorem eh{xs:Array Keyed}{x:Keyed}{Q:Keyed->SortSt->Prop}(e:xs[i]?=some x)(h:Q x st):wpS (model prog w) A E s (elem' xs i) Q st:=by rw[elem'_eq,e];exact VG h
theorem QR(C:B_ prog w A s κ S r){x y:Keyed}{Q:Option Bool->SortSt->Prop}(hk:kindOf st=κ)(e1:(arrOf st)[i]?=some x)(e2:(arrOf st)[j]?=some y)(hx:S x)(hy:S y)(h:Q (some (decide (r x<r y))) st):
  wpS (model prog w) A E s (ltAt' i j) Q st:=by
 rw[ltAt'_eq];exact VD (Yu (VD (eh e1 (VD (eh e2 (QQ C hk hx hy h))))))
def rE(left:Bool)(k n:Nat):Bool:=if left then decide (n<k)else !(decide (k<n))
theorem EC{k m:Nat}(h:n<=m)(hb:rE left k m=true):rE left k n=true:=by
 unfold rE at *;cases left
 .simp at hb⊢;lia
 .simp at hb⊢;lia
theorem Nk{k m:Nat}(h:n<=m)(hb:rE left k n=false):rE left k m=false:=by
 cases z:rE left k m with
 |false=>rfl
 |true=>rw[EC h z]at hb;cases hb
theorem at_of{xs:Array Keyed}(h:i<xs.size):∃x,xs[i]?=some x/\x∈xs/\K r xs i=r x:=⟨xs[i],Ye xs i h,Array.getElem_mem h,gb (Ye xs i h)⟩
theorem UJ(C:B_ prog w A s κ S r){key:Keyed}{xs:Array Keyed}{Q:Option Bool->SortSt->Prop}(hk:kindOf st=κ)(hS:∀x∈xs,S x)(hy:S key)(hi:i<xs.size)(h:Q (some (rE left (r key) (K r xs i))) st):
  wpS (model prog w) A E s (elem' xs i >>= fun y=>if left=true then lt' y key else lt' key y >>= fun c=>pure (c.map (!·))) Q st:=by
 obtain⟨x,e,m,ek⟩:=at_of (r:=r) hi;rw[ek]at h;refine VD (eh e ?_);cases left with
 |true=>exact QQ C hk (hS x m) hy h
 |false=>exact VD (QQ C hk hy (hS x m) (VG h))
theorem kd(C:B_ prog w A s κ S r){key:Keyed}{xs:Array Keyed}{base hint:Nat}{Q:Option Nat->SortSt->Prop}(hk:kindOf st=κ)(hS:∀x∈xs,S x)(hy:S key)(hz:base+n<=xs.size)(hh:hint<n)(up:Up r xs base (base+n))(h:∀k,k<=n->(∀i,i<k->rE left (r key) (K r xs (base+i))=true)->(∀i,k<=i->i<n->rE left (r key) (K r xs (base+i))=false)->Q (some k) st):
  wpS (model prog w) A E s (AE left key xs base n hint) Q st:=by
 obtain⟨b,eb⟩:∃b:Nat->Bool,∀i,b i=rE left (r key) (K r xs (base+i)):=⟨_,fun _=>rfl⟩
 have Su:∀i j,i<=j->j<n->b j=true->b i=true:=fun i j a c d=>by rw[eb]at d⊢;exact EC (up.le (by lia) (by lia) (by lia)) d
 have Sv:∀i j,i<=j->j<n->b i=false->b j=false:=fun i j a c d=>by rw[eb]at d⊢;exact Nk (up.le (by lia) (by lia) (by lia)) d
 have ask:∀{i:Nat}{Q:Option Bool->SortSt->Prop},i<n->Q (some (b i)) st->wpS (model prog w) A E s (elem' xs (base+i) >>= fun y=>if left=true then lt' y key else lt' key y >>= fun c=>pure (c.map (!·))) Q st:=by intro i Q hi q;rw[eb]at q;exact UJ C hk hS hy (by lia) q
 simp only[<-eb]at h;unfold AE;refine VD (ask hh ?_);dsimp only;cases c:b hint with
 |true=>
  rw[Vu rfl];refine VD (W! (Wq (I:=fun x z av=>av=st/\∃l o,z=(none,l,o)/\x+1<=o/\l<o/\hint+l<n/\b (hint+l)=true) (Q:=fun z av=>av=st/\∃l o,z=(none,l,o)/\l<o/\hint+l<n/\b (hint+l)=true/\(o<n-hint->b (hint+o)=false)) ?_ ?_ ⟨rfl,0,1,rfl,by lia,by lia,by lia,c⟩) ?_)
  .rintro x z av _ hx ⟨e,l,o,rfl,h1,h2,h3,h4⟩;rw[e];dsimp only;by_cases q:o ≥ n-hint
   .rw[Vu q];exact VG ⟨rfl,l,o,rfl,h2,h3,h4,fun z=>absurd z (by lia)⟩
   .rw[VA q];refine VD (ask (by lia) ?_);dsimp only;cases d:b (hint+o) with
    |true=>exact VG ⟨rfl,o,2*o+1,rfl,by lia,by lia,by lia,d⟩
    |false=>exact VG ⟨rfl,l,o,rfl,h2,h3,h4,fun _=>d⟩
  .rintro z av ⟨e,l,o,rfl,h1,h2,h3,h4⟩;exact⟨e,l,o,rfl,h2,h3,h4,fun z=>absurd z (by lia)⟩
  .rintro z av ⟨e,l,o,rfl,h2,h3,h4,h5⟩;rw[e];dsimp only;obtain⟨lo,Oo⟩:∃lo,lo=hint+l+1:=⟨_,rfl⟩
   obtain⟨hi,QS⟩:∃hi,hi=hint+min o (n-hint):=⟨_,rfl⟩
   rw[<-Oo,<-QS];have g1:lo<=hi:=by lia
   have g2:hi<=n:=by lia
   have g3:∀i,i<lo->b i=true:=fun i q=>Su i (hint+l) (by lia) h3 h4;have g4:∀i,hi<=i->i<n->b i=false:=fun i q q2=>Sv (hint+o) i (by lia) q2 (h5 (by lia));clear Oo QS;refine VD (W! (Wq (I:=fun x z av=>av=st/\∃lo hi,z=(none,lo,hi)/\lo<=hi/\hi<=n/\hi-lo+x<=n/\(∀i,i<lo->b i=true)/\∀i,hi<=i->i<n->b i=false) (Q:=fun z av=>av=st/\∃k,z=(none,k,k)/\k<=n/\(∀i,i<k->b i=true)/\∀i,k<=i->i<n->b i=false) ?_ ?_ ⟨rfl,lo,hi,rfl,g1,g2,by lia,g3,g4⟩) ?_)
   .rintro x z av _ hx ⟨e,lo,hi,rfl,h1,h2,h3,h4,h5⟩;rw[e];dsimp only;by_cases q:lo ≥ hi
    .rw[Vu q];have:lo=hi:=by lia
     subst this;exact VG ⟨rfl,lo,rfl,h2,h4,h5⟩
    .rw[VA q];refine VD (ask (by lia) ?_);dsimp only;cases d:b (lo+(hi-lo) / 2) with
     |true=>exact VG ⟨rfl,_,hi,rfl,by lia,h2,by lia,fun i q=>Su i _ (by lia) (by lia) d,h5⟩
     |false=>exact VG ⟨rfl,lo,_,rfl,by lia,by lia,by lia,h4,fun i q q2=>Sv _ i q q2 d⟩
   .rintro z av ⟨e,lo,hi,rfl,h1,h2,h3,h4,h5⟩;have:lo=hi:=by lia
    subst this;exact⟨e,lo,rfl,h2,h4,h5⟩
   .rintro z av ⟨e,k,rfl,h1,h2,h3⟩;rw[e];exact VG (h k h1 h2 h3)
 |false=>
  rw[VA VI];refine VD (W! (Wq (I:=fun x z av=>av=st/\∃l o,z=(none,l,o)/\x+1<=o/\l<o/\l<=hint/\b (hint-l)=false) (Q:=fun z av=>av=st/\∃l o,z=(none,l,o)/\l<o/\l<=hint/\b (hint-l)=false/\(o<hint+1->b (hint-o)=true)) ?_ ?_ ⟨rfl,0,1,rfl,by lia,by lia,by lia,c⟩) ?_)
  .rintro x z av _ hx ⟨e,l,o,rfl,h1,h2,h3,h4⟩;rw[e];dsimp only;by_cases q:o ≥ hint+1
   .rw[Vu q];exact VG ⟨rfl,l,o,rfl,h2,h3,h4,fun z=>absurd z (by lia)⟩
   .rw[VA q];refine VD (ask (by lia) ?_);dsimp only;cases d:b (hint-o) with
    |true=>exact VG ⟨rfl,l,o,rfl,h2,h3,h4,fun _=>d⟩
    |false=>exact VG ⟨rfl,o,2*o+1,rfl,by lia,by lia,by lia,d⟩
  .rintro z av ⟨e,l,o,rfl,h1,h2,h3,h4⟩;exact⟨e,l,o,rfl,h2,h3,h4,fun z=>absurd z (by lia)⟩
  .rintro z av ⟨e,l,o,rfl,h2,h3,h4,h5⟩;rw[e];dsimp only;obtain⟨lo,Oo⟩:∃lo,lo=hint+1-min o (hint+1):=⟨_,rfl⟩
   obtain⟨hi,QS⟩:∃hi,hi=hint-l:=⟨_,rfl⟩
   rw[<-Oo,<-QS];have g1:lo<=hi:=by lia
   have g2:hi<=n:=by lia
   have g3:∀i,i<lo->b i=true:=fun i q=>Su i (hint-o) (by lia) (by lia) (h5 (by lia));have g4:∀i,hi<=i->i<n->b i=false:=fun i q q2=>Sv (hint-l) i (by lia) q2 h4;clear Oo QS;refine VD (W! (Wq (I:=fun x z av=>av=st/\∃lo hi,z=(none,lo,hi)/\lo<=hi/\hi<=n/\hi-lo+x<=n/\(∀i,i<lo->b i=true)/\∀i,hi<=i->i<n->b i=false) (Q:=fun z av=>av=st/\∃k,z=(none,k,k)/\k<=n/\(∀i,i<k->b i=true)/\∀i,k<=i->i<n->b i=false) ?_ ?_ ⟨rfl,lo,hi,rfl,g1,g2,by lia,g3,g4⟩) ?_)
   .rintro x z av _ hx ⟨e,lo,hi,rfl,h1,h2,h3,h4,h5⟩;rw[e];dsimp only;by_cases q:lo ≥ hi
    .rw[Vu q];have:lo=hi:=by lia
     subst this;exact VG ⟨rfl,lo,rfl,h2,h4,h5⟩
    .rw[VA q];refine VD (ask (by lia) ?_);dsimp only;cases d:b (lo+(hi-lo) / 2) with
     |true=>exact VG ⟨rfl,_,hi,rfl,by lia,h2,by lia,fun i q=>Su i _ (by lia) (by lia) d,h5⟩
     |false=>exact VG ⟨rfl,lo,_,rfl,by lia,by lia,by lia,h4,fun i q q2=>Sv _ i q q2 d⟩
   .rintro z av ⟨e,lo,hi,rfl,h1,h2,h3,h4,h5⟩;have:lo=hi:=by lia
    subst this;exact⟨e,lo,rfl,h2,h4,h5⟩
   .rintro z av ⟨e,k,rfl,h1,h2,h3⟩;rw[e];exact VG (h k h1 h2 h3)
end
section
variable{E:_O}{s:_Y}{κ:SortKind}{S:Keyed->Prop}{r:Keyed->Nat}{st:SortSt}
abbrev Gs(st:SortSt)(g:Nat):SortSt:=SortSt.mk' (kindOf st) (arrOf st) (pendingOf st) g (failedOf st)
theorem cK{c:Prop}[Decidable c]{m1 m2:StateT SortSt Sem α}{Q:α->SortSt->Prop}{M:Model}(h1:c->wpS M A E s m1 Q st)(h2:¬c->wpS M A E s m2 Q st):wpS M A E s (if c then m1 else m2) Q st:=by
 by_cases q:c
 .rw[Vu q];exact h1 q
 .rw[VA q];exact h2 q
theorem cB{x y:Nat}{m1 m2:StateT SortSt Sem α}{Q:α->SortSt->Prop}{M:Model}(h1:x=y->wpS M A E s m1 Q st)(h2:x≠y->wpS M A E s m2 Q st):wpS M A E s (if(x==y)=true then m1 else m2) Q st:=
 cK (fun q=>h1 (Wr.mp q)) fun q=>h2 fun z=>q (Wr.mpr z)
def Good(r:Keyed->Nat)(a b m:Array Keyed):Prop:=m.toList.Perm (a.toList++b.toList)/\Gq (Ss r) m.toList
structure Mm(r:Keyed->Nat)(a b out:Array Keyed)(ia ib:Nat):Prop where
 la:ia<=a.size
 lb:ib<=b.size
 me:B7 (Ss r) (a.toList++b.toList) out.toList (cJ a ia a.size) (cJ b ib b.size)
section
variable{a b out:Array Keyed}{ia ib:Nat}(ua:Up r a 0 a.size)(ub:Up r b 0 b.size)
include ua ub
theorem Mm.QT(h:Mm r a b out ia ib)(k:Nat)(hk:ia+k<=a.size)(l:ib<b.size->∀i,i<k->K r a (ia+i)<=K r b ib):Mm r a b (out++a.extract ia (ia+k)) (ia+k) ib:=by refine⟨hk,h.lb,?_⟩;have m:=h.me;rw[cR (i:=ia) (j:=ia+k) (by lia) hk (Vo _)]at m;rw[V6,aN];refine m.a fun x hx y hy=>?_;obtain⟨i,i1,i2,i3⟩:=bF hx;obtain⟨j,j1,j2,j3⟩:=bF hy;show r x<=r y;rw[<-gb (r:=r) i3,<-gb (r:=r) j3];have:=l (by lia) (i-ia) (by lia);rw[show ia+(i-ia)=i by lia]at this;exact Vx this (ub.le (V? _) j1 j2)
theorem Mm.QU(h:Mm r a b out ia ib)(k:Nat)(hk:ib+k<=b.size)(l:ia<a.size->∀i,i<k->K r b (ib+i)<=K r a ia):Mm r a b (out++b.extract ib (ib+k)) ia (ib+k):=by refine⟨h.la,hk,?_⟩;have m:=h.me;rw[cR (i:=ib) (j:=ib+k) (by lia) hk (Vo _)]at m;rw[V6,aN];refine m.b fun x hx y hy=>?_;obtain⟨i,i1,i2,i3⟩:=bF hx;obtain⟨j,j1,j2,j3⟩:=bF hy;show r x<=r y;rw[<-gb (r:=r) i3,<-gb (r:=r) j3];have:=l (by lia) (i-ib) (by lia);rw[show ib+(i-ib)=i by lia]at this;exact Vx this (ua.le (V? _) j1 j2)
theorem Mm.a1(h:Mm r a b out ia ib){x:Keyed}(e:a[ia]?=some x)(l:ib<b.size->r x<=K r b ib):Mm r a b (out.push x) (ia+1) ib:=by
 have hz:ia<a.size:=(_l.mp e).1;have q:=h.QT ua ub 1 hz fun z i hi=>by rw[show ia+i=ia by lia,gb e];exact l z
 have:(out++a.extract ia (ia+1))=out.push x:=by apply XH.mp;rw[V6,aN,mG e,Xy]
 rwa [this]at q
theorem Mm.b1(h:Mm r a b out ia ib){x:Keyed}(e:b[ib]?=some x)(l:ia<a.size->r x<=K r a ia):Mm r a b (out.push x) ia (ib+1):=by
 have hz:ib<b.size:=(_l.mp e).1;have q:=h.QU ua ub 1 hz fun z i hi=>by rw[show ib+i=ib by lia,gb e];exact l z
 have:(out++b.extract ib (ib+1))=out.push x:=by apply XH.mp;rw[V6,aN,mG e,Xy]
 rwa [this]at q
omit ua ub in
theorem Mm.done(h:Mm r a b out ia ib)(l:ia=a.size\/ib=b.size):Good r a b (out++a.extract ia++b.extract ib):=by unfold Good;rw[V6,V6,aN,aN];refine h.me.fin fun x hx y hy=>?_;obtain⟨i,i1,i2,i3⟩:=bF hx;obtain⟨j,j1,j2,j3⟩:=bF hy;lia
omit ua in
theorem Mm.last(h:Mm r a b out ia ib)(l:ia+1=a.size)(hl:K r b (b.size-1)<=K r a (a.size-1)):Good r a b (out++b.extract ib++a.extract ia):=by unfold Good;rw[V6,V6,aN,aN];refine h.me.swap.fin fun x hx y hy=>?_;obtain⟨i,i1,i2,i3⟩:=bF hx;obtain⟨j,j1,j2,j3⟩:=bF hy;show r x<=r y;rw[<-gb (r:=r) i3,<-gb (r:=r) j3,show j=a.size-1 by lia];exact Vx (ub.le (V? _) (by lia) (by lia)) hl
end
theorem ED(C:B_ prog w A s κ S r){a b:Array Keyed}{Q:Array Keyed->SortSt->Prop}(hk:kindOf st=κ)(Nl:∀x∈a,S x)(Nm:∀x∈b,S x)(ua:Up r a 0 a.size)(ub:Up r b 0 b.size)(ha:1<=a.size)(hb:1<=b.size)(h0:K r b 0<=K r a 0)(hl:K r b (b.size-1)<=K r a (a.size-1))(h:∀m g,Good r a b m->Q m (Gs st g)):
  wpS (model prog w) A E s (wY a b) Q st:=by
 unfold wY;refine VD (Zs (WV ⟨rfl,?_⟩));obtain⟨y0,e0,m0,k0⟩:=at_of (r:=r) (xs:=b) (i:=0) (by lia);refine VD (eh e0 ?_);dsimp only;have M0:Mm r a b #[] 0 0:=⟨V? _,V? _,by
  rw[fg,fg];exact⟨Xl _,List.Pairwise.nil,by rw[<-fg];exact ua.iG,by rw[<-fg];exact ub.iG,(by intro _ m;cases m),(by intro _ m;cases m)⟩⟩
 have M1:Mm r a b #[y0] 0 1:=M0.b1 ua ub e0 fun _=>by rw[<-k0];exact h0
 refine cB (fun q=>VG (h _ (gallopOf st) (M1.done (.inr q)))) fun q1=>?_;refine cB (fun q=>VG (h _ (gallopOf st) (M1.last ub q hl))) fun q2=>?_;refine VD (Yu ?_);refine VD (W! (Wq (I:=fun x z av=>(∃g,av=Gs st g)/\∃out ia ib mg,z=(none,out,ia,ib,mg)/\Mm r a b out ia ib/\ia+1<a.size/\ib<b.size/\x<ia+ib)
  (Q:=fun z av=>(∃g,av=Gs st g)/\∃m y,z=(some m,y)/\Good r a b m) ?_ ?_ ⟨⟨gallopOf st,rfl⟩,_,0,1,_,rfl,M1,by lia,by lia,by lia⟩) ?_)
 .rintro x z av _ hx ⟨⟨g,e⟩,out,ia,ib,mg,rfl,m,l1,l2,l3⟩;dsimp only;refine VD (W! (Wq (I:=fun x' z av=>(∃g,av=Gs st g)/\∃out o9 pH c1 c2,z=(none,out,o9,pH,c1,c2)/\Mm r a b out o9 pH/\o9+1<a.size/\pH<b.size/\ia+ib+x'<=o9+pH)
   (Q:=fun z av=>(∃g,av=Gs st g)/\((∃m y,z=(some m,y)/\Good r a b m)\/∃out o9 pH c1 c2,z=(none,out,o9,pH,c1,c2)/\Mm r a b out o9 pH/\o9+1<a.size/\pH<b.size/\ia+ib+1<=o9+pH)) ?_ ?_ ⟨⟨g,e⟩,out,ia,ib,0,0,rfl,m,l1,l2,by lia⟩) ?_)
  .rintro x' z cE _ OG ⟨⟨g,e⟩,out,o9,pH,c1,c2,rfl,m,l1,l2,l3⟩;dsimp only;obtain⟨y,ey,my,ky⟩:=at_of (r:=r) l2;obtain⟨z,ez,mz,kz⟩:=at_of (r:=r) (xs:=a) (i:=o9) (by lia);have UK:kindOf cE=κ:=by rw[e];exact hk
   refine VD (eh ey (VD (eh ez (VD (QQ C UK (Nm y my) (Nl z mz) ?_)))));dsimp only;refine cK (fun q=>?_) fun q=>?_
   .have m2:=m.b1 ua ub ey fun _=>by rw[kz];have:=Wz q;lia
    refine VD (eh ey ?_);refine cB (fun q=>VG ⟨⟨g,e⟩,.inl ⟨_,_,rfl,m2.done (.inr q)⟩⟩) fun q3=>?_;exact cK (fun q=>VG ⟨⟨g,e⟩,.inr ⟨_,_,_,_,_,rfl,m2,l1,by lia,by lia⟩⟩) fun q=>VG ⟨⟨g,e⟩,_,_,_,_,_,rfl,m2,l1,by lia,by lia⟩
   .have m2:=m.a1 ua ub ez fun _=>by rw[ky];have:=W_ (by simpa using q:decide (r y<r z)=false);lia
    refine VD (eh ez ?_);refine cB (fun q=>VG ⟨⟨g,e⟩,.inl ⟨_,_,rfl,m2.last ub q hl⟩⟩) fun q3=>?_;exact cK (fun q=>VG ⟨⟨g,e⟩,.inr ⟨_,_,_,_,_,rfl,m2,by lia,l2,by lia⟩⟩) fun q=>VG ⟨⟨g,e⟩,_,_,_,_,_,rfl,m2,by lia,l2,by lia⟩
  .rintro z cE ⟨e,out,o9,pH,c1,c2,rfl,m,l1,l2,l3⟩;exact⟨e,.inr ⟨out,o9,pH,c1,c2,rfl,m,l1,l2,by lia⟩⟩
  .rintro z cE ⟨e,⟨m,y,rfl,gd⟩|⟨out,Nn,ib1,c1,c2,rfl,m,l1,l2,l4⟩⟩
   .exact VG ⟨e,_,_,rfl,gd⟩
   .dsimp only;refine VD (Zs (WV ⟨rfl,?_⟩));refine VD (W! (Wq (I:=fun x' z av=>(∃g,av=Gs st g)/\∃out o9 pH mg c1 c2,z=(none,out,o9,pH,mg,c1,c2)/\Mm r a b out o9 pH/\o9+1<a.size/\pH<b.size/\ia+ib+1<=o9+pH)
     (Q:=fun z av=>(∃g,av=Gs st g)/\((∃m y,z=(some m,y)/\Good r a b m)\/∃out o9 pH mg c1 c2,z=(none,out,o9,pH,mg,c1,c2)/\Mm r a b out o9 pH/\o9+1<a.size/\pH<b.size/\ia+ib+1<=o9+pH)) ?_ ?_ ⟨e,out,Nn,ib1,_,c1,c2,rfl,m,l1,l2,by lia⟩) ?_)
    .rintro x' z jE _ OG ⟨⟨g,e⟩,out,ia,ib,mg,c1,c2,rfl,m,l1,l2,l3⟩;dsimp only;obtain⟨y,ey,my,ky⟩:=at_of (r:=r) l2;have Np:∀(mg:Nat){Q:PUnit->SortSt->Prop},Q ⟨⟩ (Gs st mg)->wpS (model prog w) A E s (modify fun s:SortSt=>Gs s mg) Q jE:=by intro mg Q q;refine Xw ?_;rw[e];exact q
     refine cK (fun qg=>?_) fun qg=>?_
     all_goals
      refine VD (Np _ ?_);refine VD (eh ey (VD (kd C hk Nl (Nm y my) (by lia) (by lia) (ua.sub (by lia) (by lia)) fun k k1 k2 k3=>?_)));dsimp only;have mk:=m.QT ua ub k (by lia) fun _ i hi=>by have:=k2 i hi;unfold rE at this;simp only[V3,WN,Xo,W3]at this;lia
      have nx:ia+k<a.size->r y<=K r a (ia+k):=fun z=>by have:=k3 k (Vo _) (by lia);unfold rE at this;simp only[V3,WN,YN,WA]at this;lia
      refine cK (fun qk=>cB (fun q=>VG ⟨⟨_,rfl⟩,.inl ⟨_,_,rfl,mk.last ub q hl⟩⟩) fun q1=>cB (fun q=>VG ⟨⟨_,rfl⟩,.inl ⟨_,_,rfl,mk.done (.inl q)⟩⟩) fun q2=>?_) fun qk=>?_;obtain⟨Nq,eo⟩:∃z,z=out++a.extract ia (ia+k):=⟨_,rfl⟩
      obtain⟨Nn,ei⟩:∃z,z=ia+k:=⟨_,rfl⟩
      rw[<-eo,<-ei];rw[<-eo,<-ei]at mk;rw[<-ei]at nx;have l4:Nn+1<a.size:=by lia
      rotate_left
      have k0:k=0:=by lia
      subst k0;obtain⟨Nq,eo⟩:∃z,z=out:=⟨_,rfl⟩
      obtain⟨Nn,ei⟩:∃z,z=ia:=⟨_,rfl⟩
      replace mk:Mm r a b out ia ib:=m;rw[YZ,<-ei]at nx;rw[<-eo,<-ei]at mk⊢;have l4:Nn+1<a.size:=by lia
      all_goals
       have m2:=mk.b1 ua ub ey nx;refine VD (eh ey ?_);refine cB (fun q=>VG ⟨⟨_,rfl⟩,.inl ⟨_,_,rfl,m2.done (.inr q)⟩⟩) fun q3=>?_;obtain⟨x1,ex,mx,kx⟩:=at_of (r:=r) (xs:=a) (i:=Nn) (by lia);refine VD (eh ex (VD (kd C hk Nm (Nl x1 mx) (by lia) (by lia) (ub.sub (by lia) (by lia)) fun j j1 j2 j3=>?_)));dsimp only;have mj:=m2.QU ua ub j (by lia) fun _ i hi=>by have:=j2 i hi;unfold rE at this;simp only[Xr,WA]at this;lia
       have nj:ib+1+j<b.size->r x1<=K r b (ib+1+j):=fun z=>by have:=j3 j (Vo _) (by lia);unfold rE at this;simp only[Xr,W3]at this;lia
       refine cK (fun qj=>cB (fun q=>VG ⟨⟨_,rfl⟩,.inl ⟨_,_,rfl,mj.done (.inr q)⟩⟩) fun q4=>?_) fun qj=>?_;obtain⟨UL,ej⟩:∃z,z=ib+1+j:=⟨_,rfl⟩
       rw[<-ej]at mj nj⊢;have l5:UL<b.size:=by lia
       rotate_left
       have j0:j=0:=by lia
       subst j0;replace mj:=m2;obtain⟨UL,ej⟩:∃z,z=ib+1:=⟨_,rfl⟩
       rw[YZ,<-ej]at nj;rw[<-ej]at mj⊢;have l5:UL<b.size:=by lia
       all_goals
        have m3:=mj.a1 ua ub ex nj;refine VD (eh ex ?_);refine cB (fun q=>VG ⟨⟨_,rfl⟩,.inl ⟨_,_,rfl,m3.last ub q hl⟩⟩) fun q5=>?_;exact cK (fun q=>VG ⟨⟨_,rfl⟩,.inr ⟨_,_,_,_,_,_,rfl,m3,by lia,by lia,by lia⟩⟩) fun q=>VG ⟨⟨_,rfl⟩,_,_,_,_,_,_,rfl,m3,by lia,by lia,by lia⟩
    .rintro z jE ⟨e,out,o9,pH,mg,c1,c2,rfl,m,l1,l2,l3⟩;exact⟨e,.inr ⟨out,o9,pH,mg,c1,c2,rfl,m,l1,l2,l3⟩⟩
    .rintro z jE ⟨⟨g,e⟩,⟨m,y,rfl,gd⟩|⟨out,Nn,ib1,mg,c1,c2,rfl,m,l1,l2,l4⟩⟩
     .exact VG ⟨⟨g,e⟩,_,_,rfl,gd⟩
     .dsimp only;refine VD (Xw (VG ⟨⟨mg+1,?_⟩,_,_,_,_,rfl,m,l1,l2,by lia⟩));rw[e]
 .rintro z av ⟨e,out,ia,ib,mg,rfl,m,l1,l2,l3⟩;lia
 .rintro z av ⟨⟨g,e⟩,m,y,rfl,gd⟩;rw[e];exact VG (h m g gd)
end
section
variable{E:_O}{s:_Y}{κ:SortKind}{S:Keyed->Prop}{r:Keyed->Nat}{st:SortSt}
structure Mh(r:Keyed->Nat)(a b out:Array Keyed)(na nb:Nat):Prop where
 la:na<=a.size
 lb:nb<=b.size
 me:B7 (rge r) (a.toList++b.toList) out.toList (cJ a 0 na).reverse (cJ b 0 nb).reverse
section
variable{a b out:Array Keyed}{na nb:Nat}(ua:Up r a 0 a.size)(ub:Up r b 0 b.size)
include ua ub
theorem Mh.QT(h:Mh r a b out na nb){k:Nat}(hk:k<=na)(l:0<nb->∀i,k<=i->i<na->K r b (nb-1)<=K r a i):Mh r a b (out++(a.extract k na).reverse) k nb:=by have la:=h.la;have lb:=h.lb;refine⟨by lia,h.lb,?_⟩;have m:=h.me;rw[cR (i:=0) (j:=k) (by lia) hk h.la,Xj]at m;rw[V6,W7,aN];refine m.a fun x hx y hy=>?_;obtain⟨i,i1,i2,i3⟩:=bF (W5.mp hx);obtain⟨j,j1,j2,j3⟩:=bF (W5.mp hy);show r y<=r x;rw[<-gb (r:=r) i3,<-gb (r:=r) j3];exact Vx (ub.le (V? _) (by lia) (by lia)) (l (by lia) i i1 i2)
theorem Mh.QU(h:Mh r a b out na nb){k:Nat}(hk:k<=nb)(l:0<na->∀i,k<=i->i<nb->K r a (na-1)<=K r b i):Mh r a b (out++(b.extract k nb).reverse) na k:=by have la:=h.la;have lb:=h.lb;refine⟨h.la,by lia,?_⟩;have m:=h.me;rw[cR (i:=0) (j:=k) (by lia) hk h.lb,Xj]at m;rw[V6,W7,aN];refine m.b fun x hx y hy=>?_;obtain⟨i,i1,i2,i3⟩:=bF (W5.mp hx);obtain⟨j,j1,j2,j3⟩:=bF (W5.mp hy);show r y<=r x;rw[<-gb (r:=r) i3,<-gb (r:=r) j3];exact Vx (ua.le (V? _) (by lia) (by lia)) (l (by lia) i i1 i2)
theorem Mh.a1(h:Mh r a b out na nb)(hn:0<na){x:Keyed}(e:a[na-1]?=some x)(l:0<nb->K r b (nb-1)<=r x):Mh r a b (out.push x) (na-1) nb:=by
 have q:=h.QT ua ub (k:=na-1) (by lia) fun z i i1 i2=>by rw[show i=na-1 by lia,gb e];exact l z
 have:(out++(a.extract (na-1) na).reverse)=out.push x:=by apply XH.mp;have e2:=mG e;rw[show na-1+1=na by lia]at e2;rw[V6,W7,aN,e2,Xy,List.reverse_singleton]
 rwa [this]at q
theorem Mh.b1(h:Mh r a b out na nb)(hn:0<nb){x:Keyed}(e:b[nb-1]?=some x)(l:0<na->K r a (na-1)<=r x):Mh r a b (out.push x) na (nb-1):=by
 have q:=h.QU ua ub (k:=nb-1) (by lia) fun z i i1 i2=>by rw[show i=nb-1 by lia,gb e];exact l z
 have:(out++(b.extract (nb-1) nb).reverse)=out.push x:=by apply XH.mp;have e2:=mG e;rw[show nb-1+1=nb by lia]at e2;rw[V6,W7,aN,e2,Xy,List.reverse_singleton]
 rwa [this]at q
omit ua ub in
theorem Mh.done(h:Mh r a b out na nb)(l:na=0\/nb=0):Good r a b (a.extract 0 na++b.extract 0 nb++out.reverse):=by
 unfold Good;rw[V6,V6,W7,aN,aN];have f:=h.me.fin fun x hx y hy=>by obtain⟨i,i1,i2,i3⟩:=bF (W5.mp hx);obtain⟨j,j1,j2,j3⟩:=bF (W5.mp hy);lia
 have e:cJ a 0 na++cJ b 0 nb++out.toList.reverse=(out.toList++(cJ a 0 na).reverse++(cJ b 0 nb).reverse).reverse:=by
  rw[Xj,Xj,Yb,Yb,<-Vs];rcases l with z|z
  .rw[z,wW (Vo _),VZ,VM]
  .rw[z,wW (Vo _),VZ,VM]
 rw[e];exact⟨(Xb _).trans f.1,X8.mpr f.2⟩
omit ub in
theorem Mh.first(h:Mh r a b out na nb)(l:nb=1)(h0:K r b 0<=K r a 0):Good r a b (b.extract 0 nb++a.extract 0 na++out.reverse):=by
 have la:=h.la;unfold Good;rw[V6,V6,W7,aN,aN];have f:=h.me.fin fun x hx y hy=>by obtain⟨i,i1,i2,i3⟩:=bF (W5.mp hx);obtain⟨j,j1,j2,j3⟩:=bF (W5.mp hy);show r y<=r x;rw[<-gb (r:=r) i3,<-gb (r:=r) j3,show j=0 by lia];exact Vx h0 (ua.le (Vo _) (V? _) (by lia))
 have e:cJ b 0 nb++cJ a 0 na++out.toList.reverse=(out.toList++(cJ a 0 na).reverse++(cJ b 0 nb).reverse).reverse:=by rw[Xj,Xj,Yb,Yb,<-Vs]
 rw[e];exact⟨(Xb _).trans f.1,X8.mpr f.2⟩
end
theorem EE(C:B_ prog w A s κ S r){a b:Array Keyed}{Q:Array Keyed->SortSt->Prop}(hk:kindOf st=κ)(Nl:∀x∈a,S x)(Nm:∀x∈b,S x)(ua:Up r a 0 a.size)(ub:Up r b 0 b.size)(ha:1<=a.size)(hb:1<=b.size)(h0:K r b 0<=K r a 0)(hl:K r b (b.size-1)<=K r a (a.size-1))(h:∀m g,Good r a b m->Q m (Gs st g)):
  wpS (model prog w) A E s (wZ a b) Q st:=by
 unfold wZ;refine VD (Zs (WV ⟨rfl,?_⟩));obtain⟨y0,e0,m0,k0⟩:=at_of (r:=r) (xs:=a) (i:=a.size-1) (by lia);refine VD (eh e0 ?_);dsimp only;have M0:Mh r a b #[] a.size b.size:=⟨Vo _,Vo _,by
  rw[fg,fg];exact⟨(Xb _).append (Xb _),List.Pairwise.nil,by rw[<-fg];exact ua.rev,by rw[<-fg];exact ub.rev,(by intro _ m;cases m),(by intro _ m;cases m)⟩⟩
 have M1:Mh r a b #[y0] (a.size-1) b.size:=M0.a1 ua ub (by lia) e0 fun _=>by rw[<-k0];exact hl
 refine cB (fun q=>VG (h _ (gallopOf st) (M1.done (.inl q)))) fun q1=>?_;refine cB (fun q=>VG (h _ (gallopOf st) (M1.first ua q h0))) fun q2=>?_;refine VD (Yu ?_);refine VD (W! (Wq (I:=fun x z av=>(∃g,av=Gs st g)/\∃na nb out mg,z=(none,na,nb,out,mg)/\Mh r a b out na nb/\0<na/\1<nb/\x+na+nb<a.size+b.size)
  (Q:=fun z av=>(∃g,av=Gs st g)/\∃m y,z=(some m,y)/\Good r a b m) ?_ ?_ ⟨⟨gallopOf st,rfl⟩,_,_,_,_,rfl,M1,by lia,by lia,by lia⟩) ?_)
 .rintro x z av _ hx ⟨⟨g,e⟩,na,nb,out,mg,rfl,m,l1,l2,l3⟩;dsimp only;refine VD (W! (Wq (I:=fun x' z av=>(∃g,av=Gs st g)/\∃o_ o! out c1 c2,z=(none,o_,o!,out,c1,c2)/\Mh r a b out o_ o!/\0<o_/\1<o!/\o_+o!+x'<=na+nb)
   (Q:=fun z av=>(∃g,av=Gs st g)/\((∃m y,z=(some m,y)/\Good r a b m)\/∃o_ o! out c1 c2,z=(none,o_,o!,out,c1,c2)/\Mh r a b out o_ o!/\0<o_/\1<o!/\o_+o!+1<=na+nb)) ?_ ?_ ⟨⟨g,e⟩,na,nb,out,0,0,rfl,m,l1,l2,by lia⟩) ?_)
  .rintro x' z cE _ OG ⟨⟨g,e⟩,o_,o!,out,c1,c2,rfl,m,l1,l2,l3⟩;dsimp only;have ma:=m.la;have mb:=m.lb;obtain⟨y,ey,my,ky⟩:=at_of (r:=r) (xs:=b) (i:=o!-1) (by lia);obtain⟨z,ez,mz,kz⟩:=at_of (r:=r) (xs:=a) (i:=o_-1) (by lia);have UK:kindOf cE=κ:=by rw[e];exact hk
   refine VD (eh ey (VD (eh ez (VD (QQ C UK (Nm y my) (Nl z mz) ?_)))));dsimp only;refine cK (fun q=>?_) fun q=>?_
   .have m2:=m.a1 ua ub l1 ez fun _=>by rw[ky];have:=Wz q;lia
    refine VD (eh ez ?_);refine cB (fun q=>VG ⟨⟨g,e⟩,.inl ⟨_,_,rfl,m2.done (.inl q)⟩⟩) fun q3=>?_;exact cK (fun q=>VG ⟨⟨g,e⟩,.inr ⟨_,_,_,_,_,rfl,m2,by lia,l2,by lia⟩⟩) fun q=>VG ⟨⟨g,e⟩,_,_,_,_,_,rfl,m2,by lia,l2,by lia⟩
   .have m2:=m.b1 ua ub (by lia) ey fun _=>by rw[kz];have:=W_ (by simpa using q:decide (r y<r z)=false);lia
    refine VD (eh ey ?_);refine cB (fun q=>VG ⟨⟨g,e⟩,.inl ⟨_,_,rfl,m2.first ua q h0⟩⟩) fun q3=>?_;exact cK (fun q=>VG ⟨⟨g,e⟩,.inr ⟨_,_,_,_,_,rfl,m2,l1,by lia,by lia⟩⟩) fun q=>VG ⟨⟨g,e⟩,_,_,_,_,_,rfl,m2,l1,by lia,by lia⟩
  .rintro z cE ⟨e,o_,o!,out,c1,c2,rfl,m,l1,l2,l3⟩;exact⟨e,.inr ⟨o_,o!,out,c1,c2,rfl,m,l1,l2,by lia⟩⟩
  .rintro z cE ⟨e,⟨m,y,rfl,gd⟩|⟨na1,nb1,out,c1,c2,rfl,m,l1,l2,l4⟩⟩
   .exact VG ⟨e,_,_,rfl,gd⟩
   .dsimp only;refine VD (Zs (WV ⟨rfl,?_⟩));refine VD (W! (Wq (I:=fun x' z av=>(∃g,av=Gs st g)/\∃o_ o! out mg c1 c2,z=(none,o_,o!,out,mg,c1,c2)/\Mh r a b out o_ o!/\0<o_/\1<o!/\o_+o!+1<=na+nb)
     (Q:=fun z av=>(∃g,av=Gs st g)/\((∃m y,z=(some m,y)/\Good r a b m)\/∃o_ o! out mg c1 c2,z=(none,o_,o!,out,mg,c1,c2)/\Mh r a b out o_ o!/\0<o_/\1<o!/\o_+o!+1<=na+nb)) ?_ ?_ ⟨e,na1,nb1,out,_,c1,c2,rfl,m,l1,l2,by lia⟩) ?_)
    .rintro x' z jE _ OG ⟨⟨g,e⟩,na,nb,out,mg,c1,c2,rfl,m,l1,l2,l3⟩;dsimp only;have ma:=m.la;have mb:=m.lb;obtain⟨y,ey,my,ky⟩:=at_of (r:=r) (xs:=b) (i:=nb-1) (by lia);have Np:∀(mg:Nat){Q:PUnit->SortSt->Prop},Q ⟨⟩ (Gs st mg)->wpS (model prog w) A E s (modify fun s:SortSt=>Gs s mg) Q jE:=by intro mg Q q;refine Xw ?_;rw[e];exact q
     refine cK (fun qg=>?_) fun qg=>?_
     all_goals
      refine VD (Np _ ?_);refine VD (eh ey (VD (kd C hk Nl (Nm y my) (by lia) (by lia) (ua.sub (by lia) (by lia)) fun k k1 k2 k3=>?_)));dsimp only;simp only[V1]at k2 k3;have mk:=m.QT ua ub k1 fun _ i i1 i2=>by have:=k3 i i1 i2;unfold rE at this;simp only[V3,WN,YN,WA]at this;lia
      have nx:0<k->K r a (k-1)<=r y:=fun z=>by have:=k2 (k-1) (by lia);unfold rE at this;simp only[V3,WN,Xo,W3]at this;lia
      refine cK (fun qk=>cB (fun q=>VG ⟨⟨_,rfl⟩,.inl ⟨_,_,rfl,mk.done (.inl q)⟩⟩) fun q2=>?_) fun qk=>?_;obtain⟨Nq,eo⟩:∃z,z=out++(a.extract k na).reverse:=⟨_,rfl⟩
      rw[<-eo]at mk⊢
      rotate_left
      have k0:k=na:=by lia
      subst k0;obtain⟨Nq,eo⟩:∃z,z=out:=⟨_,rfl⟩
      replace mk:=m;rw[<-eo]at mk⊢
      all_goals
       have kp:0<k:=by lia
       have m2:=mk.b1 ua ub (by lia) ey nx;refine VD (eh ey ?_);refine cB (fun q=>VG ⟨⟨_,rfl⟩,.inl ⟨_,_,rfl,m2.first ua q h0⟩⟩) fun q3=>?_;obtain⟨x1,ex,mx,kx⟩:=at_of (r:=r) (xs:=a) (i:=k-1) (by lia);refine VD (eh ex (VD (kd C hk Nm (Nl x1 mx) (by lia) (by lia) (ub.sub (by lia) (by lia)) fun j j1 j2 j3=>?_)));dsimp only;simp only[V1]at j2 j3;have mj:=m2.QU ua ub j1 fun _ i i1 i2=>by have:=j3 i i1 i2;unfold rE at this;simp only[Xr,W3]at this;lia
       have nj:0<j->K r b (j-1)<=r x1:=fun z=>by have:=j2 (j-1) (by lia);unfold rE at this;simp only[Xr,WA]at this;lia
       refine cK (fun qj=>cB (fun q=>VG ⟨⟨_,rfl⟩,.inl ⟨_,_,rfl,mj.first ua q h0⟩⟩) fun q4=>cB (fun q=>VG ⟨⟨_,rfl⟩,.inl ⟨_,_,rfl,mj.done (.inr q)⟩⟩) fun q5=>?_) fun qj=>?_
       rotate_left
       have j0:j=nb-1:=by lia
       subst j0;replace mj:=m2
       all_goals
        have m3:=mj.a1 ua ub kp ex nj;refine VD (eh ex ?_);refine cB (fun q=>VG ⟨⟨_,rfl⟩,.inl ⟨_,_,rfl,m3.done (.inl q)⟩⟩) fun q5=>?_;exact cK (fun q=>VG ⟨⟨_,rfl⟩,.inr ⟨_,_,_,_,_,_,rfl,m3,by lia,by lia,by lia⟩⟩) fun q=>VG ⟨⟨_,rfl⟩,_,_,_,_,_,_,rfl,m3,by lia,by lia,by lia⟩
    .rintro z jE ⟨e,o_,o!,out,mg,c1,c2,rfl,m,l1,l2,l3⟩;exact⟨e,.inr ⟨o_,o!,out,mg,c1,c2,rfl,m,l1,l2,l3⟩⟩
    .rintro z jE ⟨⟨g,e⟩,⟨m,y,rfl,gd⟩|⟨na1,nb1,out,mg,c1,c2,rfl,m,l1,l2,l4⟩⟩
     .exact VG ⟨⟨g,e⟩,_,_,rfl,gd⟩
     .dsimp only;refine VD (Xw (VG ⟨⟨mg+1,?_⟩,_,_,_,_,rfl,m,l1,l2,by lia⟩));rw[e]
 .rintro z av ⟨e,na,nb,out,mg,rfl,m,l1,l2,l3⟩;lia
 .rintro z av ⟨⟨g,e⟩,m,y,rfl,gd⟩;rw[e];exact VG (h m g gd)
end
theorem uK{X Y:Array α}{L M M' R:List α}(h1:X.toList=L++M++R)(h2:Y.toList=L++M'++R)(hl:M'.length=M.length):
  Y.size=X.size/\(∀j,j<L.length\/L.length+M.length<=j->Y[j]?=X[j]?)/\cJ Y L.length (L.length+M.length)=M':=by
 refine⟨?_,fun j hj=>?_,?_⟩
 .rw[<-Vy,<-Vy,h1,h2];simp only[Vr,hl]
 .rw[<-W2,<-W2,h1,h2];rcases hj with hj|hj
  .rw[Vs,Vs,VL hj,VL hj]
  .rw[Vv (by rw[Vr];lia),Vv (by rw[Vr];lia),Vr,Vr,hl]
 .unfold cJ;rw[h2,Vs,List.drop_left,ZH,<-hl,List.take_left]
section
variable{E:_O}{s:_Y}{κ:SortKind}{S:Keyed->Prop}{r:Keyed->Nat}{st:SortSt}
theorem IC{σ:Type}{M:Model}{st av:σ}{Q:PUnit->σ->Prop}(h:Q ⟨⟩ av):wpS M A E s (set av:StateT σ Sem PUnit) Q st:=by unfold wpS;rw[StateT.run_set];exact Vq ⟨rfl,h⟩
theorem EF(C:B_ prog w A s κ S r){X:Array Keyed}{mg sa na nb:Nat}{L1 L2:List (Nat×Nat×Nat)}{Q:Bool->SortSt->Prop}(hS:∀x∈X,S x)(hp:pend.toList=L1++(sa,na,p)::(sa+na,nb,q)::L2)(hi:i=L1.length)(h1:0<na)(h2:0<nb)(hz:sa+na+nb<=X.size)(u1:Up r X sa (sa+na))(u2:Up r X (sa+na) (sa+na+nb))(h:∀Y pd g,Y.toList.Perm X.toList->(∀j,j<sa\/sa+na+nb<=j->Y[j]?=X[j]?)->Up r Y sa (sa+na+nb)->pd.toList=L1++(sa,na+nb,p)::L2->Q true (SortSt.mk' κ Y pd g none)):
  wpS (model prog w) A E s (mergeAt' i) Q (SortSt.mk' κ X pend mg none):=by
 have p1:pend[i]?=some (sa,na,p):=by rw[<-W2,hp,hi,Vv (Vo _),Wj];rfl
 have p2:pend[i+1]?=some (sa+na,nb,q):=by rw[<-W2,hp,hi,Vv (by lia),show L1.length+1-L1.length=1 by lia];rfl
 obtain⟨pd,epd⟩:∃pd,pd=(pend.setIfInBounds i (sa,na+nb,p)).eraseIdxIfInBounds (i+1):=⟨_,rfl⟩
 have UM:pd.toList=L1++(sa,na+nb,p)::L2:=by rw[epd,Array.toList_eraseIdxIfInBounds,_j,hp,hi,Xu _ _ (Vo _),Wj,WT,List.eraseIdx_append_of_length_le (by lia),show L1.length+1-L1.length=1 by lia];rfl
 unfold mergeAt';refine VD (Yu ?_);dsimp only;rw[p1,p2];dsimp only;refine VD (IC ?_);rw[<-epd];obtain⟨y,ey,my,ky⟩:=at_of (r:=r) (xs:=X) (i:=sa+na) (by lia);refine VD (eh ey ?_);refine VD (kd C rfl hS (hS y my) (by lia) h1 u1 fun k k1 k2 k3=>?_);dsimp only;have lo:∀i,sa<=i->i<sa+k->K r X i<=K r X (sa+na):=fun i i1 i2=>by have:=k2 (i-sa) (by lia);rw[show sa+(i-sa)=i by lia]at this;unfold rE at this;simp only[V3,WN,Xo,W3]at this;lia
 refine cB (fun z=>VG (h X pd mg (Xl _) (fun _ _=>rfl) (fun i j a1 a2 a3=>?_) UM)) fun z=>?_
 .rcases V2 j (sa+na)with c|c
  .exact u1 i j a1 a2 c
  .rcases V2 i (sa+na)with d|d
   .exact Vx (lo i a1 (by lia)) (u2.le (Vo _) c a3)
   .exact u2 i j d a2 a3
 obtain⟨x,ex,mx,kx⟩:=at_of (r:=r) (xs:=X) (i:=sa+na-1) (by lia);have em:sa+k+(na-k)-1=sa+na-1:=by lia
 rw[em];refine VD (eh ex ?_);refine VD (kd C rfl hS (hS x mx) (by lia) (by lia) u2 fun m m1 m2 m3=>?_);dsimp only;have up:∀i,sa+na+m<=i->i<sa+na+nb->K r X (sa+na-1)<=K r X i:=fun i i1 i2=>by have:=m3 (i-(sa+na)) (by lia) (by lia);rw[show sa+na+(i-(sa+na))=i by lia]at this;unfold rE at this;simp only[Xr,W3]at this;lia
 refine cB (fun z=>VG (h X pd mg (Xl _) (fun _ _=>rfl) (fun i j a1 a2 a3=>?_) UM)) fun z2=>?_
 .rcases V2 j (sa+na)with c|c
  .exact u1 i j a1 a2 c
  .rcases V2 i (sa+na)with d|d
   .exact Vx (u1.le a1 (by lia) (by lia)) (up j (by lia) a3)
   .exact u2 i j d a2 a3
 obtain⟨a,ea⟩:∃a,a=X.extract (sa+k) (sa+na):=⟨_,rfl⟩
 obtain⟨b,eb⟩:∃b,b=X.extract (sa+na) (sa+na+m):=⟨_,rfl⟩
 rw[<-ea,<-eb];have za:a.size=na-k:=by rw[ea,Array.size_extract];lia
 have zb:b.size=m:=by rw[eb,Array.size_extract];lia
 have Ka:∀i,i<a.size->K r a i=K r X (sa+k+i):=fun i hi=>by unfold K;rw[ea,Z8 (by lia),Ye X _ (by lia)]
 have Kb:∀i,i<b.size->K r b i=K r X (sa+na+i):=fun i hi=>by unfold K;rw[eb,Z8 (by lia),Ye X _ (by lia)]
 have ua:Up r a 0 a.size:=fun i j _ a2 a3=>by rw[Ka i (by lia),Ka j a3];exact u1 _ _ (by lia) (by lia) (by lia)
 have ub:Up r b 0 b.size:=fun i j _ a2 a3=>by rw[Kb i (by lia),Kb j a3];exact u2 _ _ (by lia) (by lia) (by lia)
 have sa_:∀x∈a,S x:=fun x hx=>by rw[ea,<-VX,aN]at hx;obtain⟨j,_,_,j3⟩:=bF hx;exact hS x (Array.mem_of_getElem? j3)
 have sb_:∀x∈b,S x:=fun x hx=>by rw[eb,<-VX,aN]at hx;obtain⟨j,_,_,j3⟩:=bF hx;exact hS x (Array.mem_of_getElem? j3)
 have h0:K r b 0<=K r a 0:=by rw[Ka 0 (by lia),Kb 0 (by lia)];have:=k3 k (Vo _) (by lia);unfold rE at this;simp only[V3,WN,YN,WA]at this;rw[YZ,YZ];lia
 have hl:K r b (b.size-1)<=K r a (a.size-1):=by rw[Ka _ (by lia),Kb _ (by lia)];have:=m2 (b.size-1) (by lia);unfold rE at this;simp only[Xr,WA]at this;rw[show sa+k+(a.size-1)=sa+na-1 by lia];lia
 have fin:∀(B!:Array Keyed)(g:Nat),Good r a b B!->Q true (SortSt.mk' κ (B!.toList.zipIdx.foldl (fun a(q:Keyed×Nat)=>a.setIfInBounds (sa+k+q.2) q.1) X) pd g none):=by
  intro B! g gd;obtain⟨g1,g2⟩:=gd;have ll:B!.toList.length=na-k+m:=by have:=g1.length_eq;rw[Vr,Vy (xs:=a),Vy (xs:=b)]at this;lia
  obtain⟨Y,eY⟩:∃Y,Y=B!.toList.zipIdx.foldl (fun a(q:Keyed×Nat)=>a.setIfInBounds (sa+k+q.2) q.1) X:=⟨_,rfl⟩
  rw[<-eY];have yl:=EB (m:=B!.toList) (sa:=sa+k) (xs:=X) (by lia);rw[<-eY,B8,B9,ll,show sa+k+(na-k+m)=sa+na+m by lia]at yl;rw[cR (i:=0) (j:=sa) (k:=sa+k) (by lia) (by lia) (by lia),cR (i:=sa+na+m) (j:=sa+na+nb) (k:=X.size) (by lia) (by lia) (by lia)]at yl;have xl:X.toList=cJ X 0 sa++cJ X sa (sa+na+nb)++cJ X (sa+na+nb) X.size:=by rw[<-cR (by lia) (by lia) (by lia),<-cR (by lia) (by lia) (by lia),fg]
  have xm:cJ X sa (sa+na+nb)=cJ X sa (sa+k)++(a.toList++b.toList)++cJ X (sa+na+m) (sa+na+nb):=by rw[ea,eb,aN,aN,<-cR (by lia) (by lia) (by lia),<-cR (by lia) (by lia) (by lia),<-cR (by lia) (by lia) (by lia)]
  have yl':Y.toList=cJ X 0 sa++(cJ X sa (sa+k)++B!.toList++cJ X (sa+na+m) (sa+na+nb))++cJ X (sa+na+nb) X.size:=by rw[yl];simp only[Vs]
  have pm:(cJ X sa (sa+k)++B!.toList++cJ X (sa+na+m) (sa+na+nb)).Perm (cJ X sa (sa+na+nb)):=by rw[xm];exact(Y7 _ g1).append_right _
  obtain⟨r1,r2,r3⟩:=uK xl yl' pm.length_eq;rw[jQ (by lia),jQ (by lia),YV,show sa+(sa+na+nb-sa)=sa+na+nb by lia]at r2 r3;refine h Y pd g ?_ r2 (Nj ?_ (by lia)) UM
  .rw[xl,yl'];exact(Y7 _ pm).append_right _
  .rw[r3];unfold Gq;have mem:∀x∈B!.toList,∃j,sa+k<=j/\j<sa+na+m/\X[j]?=some x:=fun x hx=>by have:=g1.mem_iff.mp hx;rw[ea,eb,aN,aN,<-cR (by lia) (by lia) (by lia)]at this;exact bF this
   rw[Vs];refine Xc.mpr ⟨(u1.sub (Vo _) (by lia)).iG,Xc.mpr ⟨g2,(u2.sub (by lia) (Vo _)).iG,fun x hx y hy=>?_⟩,fun x hx y hy=>?_⟩
   .obtain⟨i,i1,i2,i3⟩:=mem x hx;obtain⟨j,j1,j2,j3⟩:=bF hy;show r x<=r y;rw[<-gb (r:=r) i3,<-gb (r:=r) j3];rcases V2 i (sa+na)with d|d
    .exact Vx (u1.le (by lia) (by lia) (by lia)) (up j j1 j2)
    .exact u2.le d (by lia) j2
   .obtain⟨i,i1,i2,i3⟩:=bF hx;have:∃j,sa+k<=j/\j<sa+na+nb/\X[j]?=some y:=by
     rcases Wb.mp hy with hy|hy
     .obtain⟨j,j1,j2,j3⟩:=mem y hy;exact⟨j,j1,by lia,j3⟩
     .obtain⟨j,j1,j2,j3⟩:=bF hy;exact⟨j,by lia,by lia,j3⟩
    obtain⟨j,j1,j2,j3⟩:=this;show r x<=r y;rw[<-gb (r:=r) i3,<-gb (r:=r) j3];rcases V2 j (sa+na)with d|d
    .exact u1.le i1 (by lia) d
    .exact Vx (lo i i1 i2) (u2.le (Vo _) d j2)
 refine cK (fun _=>?_) fun _=>?_
 .exact VD (ED C rfl sa_ sb_ ua ub (by lia) (by lia) h0 hl fun B! g gd=>VD (Xw (VD (Yu (VG (fin B! g gd))))))
 .exact VD (EE C rfl sa_ sb_ ua ub (by lia) (by lia) h0 hl fun B! g gd=>VD (Xw (VD (Yu (VG (fin B! g gd))))))
end
def Di(r:Keyed->Nat)(xs:Array Keyed):Prop:=(xs.toList.map r).Nodup
section
variable{r:Keyed->Nat}{X Y:Array Keyed}
theorem Di.to(h:Di r X)(p:Y.toList.Perm X.toList):Di r Y:=(p.map r).nodup_iff.mpr h
theorem Di.ne(h:Di r X)(hi:i<X.size)(hj:j<X.size)(e:i≠j):K r X i≠K r X j:=by
 rw[gb (Ye X i hi),gb (Ye X j hj)];intro z;have li:i<(X.toList.map r).length:=by rw[Vm,Vy];exact hi
 have lj:j<(X.toList.map r).length:=by rw[Vm,Vy];exact hj
 refine e ((List.getElem_inj (h₀:=li) (h₁:=lj) h).mp ?_);rw[_h,_h,Yc,Yc];exact z
theorem Km{k:Nat}(hj:j<=X.size):K r (mirror X i j ((j-i) / 2)) k=if i<=k/\k<j then K r X (i+j-1-k)else K r X k:=by unfold K;rw[getElem?_mirror_all hj];split<;>rfl
theorem Kn{src k:Nat}(hs:src<X.size)(hd:d<=src):K r (bubble X src d) k=if k=src-d then K r X src else if src-d<k/\k<=src then K r X (k-1)else K r X k:=by
 unfold K;rw[getElem?_bubble hs d hd];split
 .rfl
 .split<;>rfl
theorem Up.more{lo n:Nat}(h1:1<=n)(h:Up r X lo (lo+n))(l:K r X (lo+n-1)<=K r X (lo+n)):Up r X lo (lo+(n+1)):=fun i j a b c=>by
 rcases V2 j (lo+n)with q|q
 .exact h i j a b q
 .rw[show j=lo+n by lia];exact Vx (h.le a (show i<=lo+n-1 by lia) (by lia)) l
theorem Dn.more{lo n:Nat}(h1:1<=n)(h:Dn r X lo (lo+n))(l:K r X (lo+n)<=K r X (lo+n-1)):Dn r X lo (lo+(n+1)):=fun i j a b c=>by
 rcases V2 j (lo+n)with q|q
 .exact h i j a b q
 .rw[show j=lo+n by lia];rcases V2 i (lo+n-1)with z|z
  .exact Vx l (h i (lo+n-1) a z (by lia))
  .rw[show i=lo+n-1 by lia];exact l
theorem Up.one:Up r X lo (lo+1):=fun i j a b c=>by lia
end
section
variable{E:_O}{s:_Y}{κ:SortKind}{S:Keyed->Prop}{r:Keyed->Nat}{mg:Nat}{X:Array Keyed}
theorem B?(C:B_ prog w A s κ S r){Q:Option Bool->SortSt->Prop}(hS:∀x∈X,S x)(hi:i<X.size)(hj:j<X.size)(h:Q (some (decide (K r X i<K r X j))) (SortSt.mk' κ X pend mg none)):
  wpS (model prog w) A E s (ltAt' i j) Q (SortSt.mk' κ X pend mg none):=by
 obtain⟨x,ex,mx,kx⟩:=at_of (r:=r) hi;obtain⟨y,ey,my,ky⟩:=at_of (r:=r) hj;rw[kx,ky]at h;exact QR C rfl ex ey (hS x mx) (hS y my) h
theorem Nr(C:B_ prog w A s κ S r){jR:Nat}{Q:Option Nat->SortSt->Prop}(h1:1<=jR)(hz:lo+jR<=X.size)(hS:∀x∈X,S x)(hd:Di r X)(h:∀n Y,1<=n->n<=jR->Y.toList.Perm X.toList->(∀j,j<lo->Y[j]?=X[j]?)->Up r Y lo (lo+n)->Q (some n) (SortSt.mk' κ Y pend mg none)):
  wpS (model prog w) A E s (countRun' lo jR) Q (SortSt.mk' κ X pend mg none):=by
 unfold countRun';refine VD (W! (Wq (I:=fun x z av=>av=SortSt.mk' κ X pend mg none/\z=(none,x)/\Up r X lo (lo+x))
  (Q:=fun z av=>av=SortSt.mk' κ X pend mg none/\∃n,z=(none,n)/\1<=n/\n<=jR/\Up r X lo (lo+n)/\(n<jR->K r X (lo+n)<K r X (lo+n-1))) ?_ ?_ ⟨rfl,rfl,Up.one⟩) ?_)
 .rintro x z av x1 hx ⟨e,rfl,u⟩;rw[e];refine VD (B? C hS (by lia) (by lia) ?_);dsimp only;refine cK (fun q=>VG ⟨rfl,x,rfl,x1,by lia,u,fun _=>Wz q⟩) fun q=>VG ⟨rfl,rfl,u.more x1 ?_⟩;have:=W_ (by simpa using q:decide (K r X (lo+x)<K r X (lo+x-1))=false);lia
 .rintro z av ⟨e,rfl,u⟩;rw[show max 1 jR=jR by lia]at u⊢;exact⟨e,jR,rfl,h1,Vo _,u,fun q=>absurd q (Wc _)⟩
 .rintro z av ⟨e,n,rfl,n1,n2,u,f⟩;rw[e];dsimp only;refine cB (fun q=>VG (h n X n1 n2 (Xl _) (fun _ _=>rfl) u)) fun q=>?_;have f':=f (by lia);refine cK (fun g=>?_) fun g=>?_
  .refine VD (B? C hS (by lia) (by lia) ?_);dsimp only;have ne:=hd.ne (i:=lo) (j:=lo+n-1) (by lia) (by lia) (by lia);have le:=u.le (Vo _) (show lo<=lo+n-1 by lia) (by lia);rw[Vu (VV (by lia))];exact VG (h n X n1 n2 (Xl _) (fun _ _=>rfl) u)
  .have:n=1:=by lia
   subst this;refine VD (Zs (WV ⟨rfl,?_⟩));refine VD (W! (Wq (I:=fun x z av=>av=SortSt.mk' κ X pend mg none/\z=(none,x,0)/\Dn r X lo (lo+x))
    (Q:=fun z av=>av=SortSt.mk' κ X pend mg none/\∃n,z=(none,n,0)/\2<=n/\n<=jR/\Dn r X lo (lo+n)) ?_ ?_ ⟨rfl,rfl,?_⟩) ?_)
   .rintro x z av x1 hx ⟨e,rfl,u⟩;rw[e];dsimp only;refine VD (B? C hS (by lia) (by lia) ?_);dsimp only;refine cK (fun q=>?_) fun q=>?_
    .rw[VA (Wc _)];have:=Wz q;exact VG ⟨rfl,rfl,u.more (by lia) (by lia)⟩
    .refine VD (B? C hS (by lia) (by lia) ?_);dsimp only;have ne:=hd.ne (i:=lo+x) (j:=lo+x-1) (by lia) (by lia) (by lia);have:=W_ (by simpa using q:decide (K r X (lo+x)<K r X (lo+x-1))=false);rw[Vu (VV (by lia))];exact VG ⟨rfl,x,rfl,by lia,by lia,u⟩
   .rintro z av ⟨e,rfl,u⟩;rw[show max (1+1) jR=jR by lia]at u⊢;exact⟨e,jR,rfl,by lia,Vo _,u⟩
   .intro i j a b c;rw[show i=lo+1-1 by lia,show j=lo+1 by lia];lia
   .rintro z av ⟨e,n,rfl,n1,n2,dn⟩;rw[e];dsimp only;rw[VA (Wc _)];obtain⟨Y,eY⟩:∃Y,Y=mirror X lo (lo+n) ((lo+n-lo) / 2):=⟨_,rfl⟩
    have zY:Y.size=X.size:=by rw[eY];exact mirror_size _ _ _ _
    have pY:Y.toList.Perm X.toList:=by rw[eY];exact _k.mp (mirror_perm _ _ _ _)
    have sY:∀x∈Y,S x:=fun x hx=>hS x (VX.mp (pY.mem_iff.mp (VX.mpr hx)));have bY:∀j,j<lo->Y[j]?=X[j]?:=fun j hj=>by rw[eY,getElem?_mirror_all (by lia),VA (by lia)]
    have uY:Up r Y lo (lo+n):=fun i j a b c=>by rw[eY,Km (by lia),Km (by lia),Vu (by lia),Vu (by lia)];exact dn _ _ (by lia) (by lia) (by lia)
    refine VD (Xw ?_);show wpS _ _ _ _ _ _ (SortSt.mk' κ (mirror X lo (lo+n) ((lo+n-lo) / 2)) pend mg none);rw[<-eY];refine VD (W! (Wq (I:=fun x z av=>av=SortSt.mk' κ Y pend mg none/\z=(none,x)/\Up r Y lo (lo+x))
     (Q:=fun z av=>av=SortSt.mk' κ Y pend mg none/\∃n,z=(none,n)/\1<=n/\n<=jR/\Up r Y lo (lo+n)) ?_ ?_ ⟨rfl,rfl,uY⟩) ?_)
    .rintro x z av x1 hx ⟨e,rfl,u⟩;rw[e];refine VD (B? C sY (by lia) (by lia) ?_);dsimp only;refine cK (fun q=>VG ⟨rfl,x,rfl,by lia,by lia,u⟩) fun q=>VG ⟨rfl,rfl,u.more (by lia) ?_⟩;have:=W_ (by simpa using q:decide (K r Y (lo+x)<K r Y (lo+x-1))=false);lia
    .rintro z av ⟨e,rfl,u⟩;rw[show max n jR=jR by lia]at u⊢;exact⟨e,jR,rfl,h1,Vo _,u⟩
    .rintro z av ⟨e,n,rfl,n1,n2,u⟩;rw[e];exact VG (h n Y n1 n2 pY bY u)
theorem UN(C:B_ prog w A s κ S r){ok:Nat}{Q:Bool->SortSt->Prop}(h1:1<=ok)(hz:lo+n<=X.size)(hS:∀x∈X,S x)(u:Up r X lo (lo+ok))(h:∀Y,Y.toList.Perm X.toList->(∀j,j<lo->Y[j]?=X[j]?)->Up r Y lo (lo+n)->Q true (SortSt.mk' κ Y pend mg none)):
  wpS (model prog w) A E s (binarySort' lo n ok) Q (SortSt.mk' κ X pend mg none):=by
 unfold binarySort';refine VD (W! (Wq (I:=fun k z av=>z=(none,())/\∃Y,av=SortSt.mk' κ Y pend mg none/\Y.toList.Perm X.toList/\(∀j,j<lo->Y[j]?=X[j]?)/\Up r Y lo (lo+k))
  (Q:=fun z av=>z=(none,())/\∃Y,av=SortSt.mk' κ Y pend mg none/\Y.toList.Perm X.toList/\(∀j,j<lo->Y[j]?=X[j]?)/\Up r Y lo (lo+n)) ?_ ?_ ⟨rfl,X,rfl,Xl _,fun _ _=>rfl,by rw[show max ok 1=ok by lia];exact u⟩) ?_)
 .rintro k z av k1 hk ⟨rfl,Y,e,pY,bY,uY⟩;rw[e];have zY:Y.size=X.size:=by rw[<-Vy,pY.length_eq,Vy]
  have sY:∀x∈Y,S x:=fun x hx=>hS x (VX.mp (pY.mem_iff.mp (VX.mpr hx)));refine VD (W! (Wq (I:=fun x z av=>av=SortSt.mk' κ Y pend mg none/\∃l m,z=(none,l,m)/\l<=m/\m<=k/\m-l+x<=k/\(∀i,i<l->K r Y (lo+i)<=K r Y (lo+k))/\∀i,m<=i->i<k->K r Y (lo+k)<=K r Y (lo+i))
   (Q:=fun z av=>av=SortSt.mk' κ Y pend mg none/\∃l,z=(none,l,l)/\l<=k/\(∀i,i<l->K r Y (lo+i)<=K r Y (lo+k))/\∀i,l<=i->i<k->K r Y (lo+k)<=K r Y (lo+i)) ?_ ?_ ⟨rfl,0,k,rfl,V? _,Vo _,by lia,fun i q=>absurd q (_K _),fun i q1 q2=>absurd q1 (by lia)⟩) ?_)
  .rintro x z av _ hx ⟨e,l,m,rfl,g1,g2,g3,g4,g5⟩;rw[e];dsimp only;refine cK (fun q=>?_) fun q=>?_
   .have:l=m:=by lia
    subst this;exact VG ⟨rfl,l,rfl,g2,g4,g5⟩
   .refine VD (B? C sY (by lia) (by lia) ?_);dsimp only;refine cK (fun q=>?_) fun q=>?_
    .have:=Wz q;exact VG ⟨rfl,l,(l+m) / 2,rfl,by lia,by lia,by lia,g4,fun i i1 i2=>Vx (X6 this) (uY.le (by lia) (by lia) (by lia))⟩
    .have:=W_ (by simpa using q:decide (K r Y (lo+k)<K r Y (lo+(l+m) / 2))=false);exact VG ⟨rfl,(l+m) / 2+1,m,rfl,by lia,by lia,by lia,fun i i1=>Vx (uY.le (by lia) (show lo+i<=lo+(l+m) / 2 by lia) (by lia)) (by lia),g5⟩
  .rintro z av ⟨e,l,m,rfl,g1,g2,g3,g4,g5⟩;have:l=m:=by lia
   subst this;exact⟨e,l,rfl,g2,g4,g5⟩
  .rintro z av ⟨e,l,rfl,g2,g4,g5⟩;rw[e];dsimp only;refine VD (Xw (VG ⟨rfl,bubble Y (lo+k) (lo+k-(lo+l)),rfl,?_,fun j hj=>?_,?_⟩))
   .exact(_k.mp (bubble_perm _ _ _)).trans pY
   .rw[getElem?_bubble (by lia) _ (by lia),VA (by lia),VA (by lia)];exact bY j hj
   .intro i j a b c;rw[Kn (by lia) (by lia),Kn (by lia) (by lia),show lo+k-(lo+k-(lo+l))=lo+l by lia];by_cases c1:i=lo+l
    .rw[Vu c1,VA (by lia),Vu (by lia)];have:=g5 (j-1-lo) (by lia) (by lia);rwa [show lo+(j-1-lo)=j-1 by lia]at this
    .rw[VA c1];by_cases c2:j=lo+l
     .rw[Vu c2,VA (by lia)];have:=g4 (i-lo) (by lia);rwa [show lo+(i-lo)=i by lia]at this
     .rw[VA c2];by_cases c3:lo+l<i
      .rw[Vu (by lia),Vu (by lia)];exact uY.le (by lia) (by lia) (by lia)
      .rw[VA (by lia)];by_cases c4:lo+l<j
       .rw[Vu (by lia)];exact uY.le a (by lia) (by lia)
       .rw[VA (by lia)];exact uY.le a (by lia) (by lia)
 .rintro z av ⟨rfl,Y,e,pY,bY,uY⟩;exact⟨rfl,Y,e,pY,bY,uY.sub (Vo _) (by lia)⟩
 .rintro z av ⟨rfl,Y,e,pY,bY,uY⟩;rw[e];exact VG (h Y pY bY uY)
end
section
variable{r:Keyed->Nat}{X Y:Array Keyed}
def Runs(r:Keyed->Nat)(X:Array Keyed):List (Nat×Nat×Nat)->Nat->Nat->Prop
 |[],lo,hi=>lo=hi
 |q::t,lo,hi=>q.1=lo/\0<q.2.1/\Up r X lo (lo+q.2.1)/\Runs r X t (lo+q.2.1) hi
theorem iR:∀{L1 L2:List (Nat×Nat×Nat)}{lo hi:Nat},Runs r X (L1++L2) lo hi↔∃m,Runs r X L1 lo m/\Runs r X L2 m hi
 |[],L2,lo,hi=>⟨fun h=>⟨lo,rfl,h⟩,fun⟨m,e,h⟩=>by cases e;exact h⟩
 |q::L1,L2,lo,hi=>by
  constructor
  .rintro⟨a,b,c,d⟩;obtain⟨m,h1,h2⟩:=iR.mp d;exact⟨m,⟨a,b,c,h1⟩,h2⟩
  .rintro⟨m,⟨a,b,c,d⟩,h2⟩;exact⟨a,b,c,iR.mpr ⟨m,d,h2⟩⟩
theorem Runs.len:∀{L:List (Nat×Nat×Nat)}{lo hi:Nat},Runs r X L lo hi->lo+L.length<=hi
 |[],lo,hi,h=>by cases h;exact Vo _
 |q::L,lo,hi,⟨a,b,c,d⟩=>by have:=d.len;rw[Vt];lia
theorem Runs.to:∀{L:List (Nat×Nat×Nat)}{lo hi:Nat},Runs r X L lo hi->(∀j,lo<=j->j<hi->Y[j]?=X[j]?)->Runs r Y L lo hi
 |[],lo,hi,h,_=>h
 |q::L,lo,hi,⟨a,b,c,d⟩,e=>by have l:=d.len;refine⟨a,b,fun i j h1 h2 h3=>?_,d.to fun j h1 h2=>e j (by lia) h2⟩;unfold K;rw[e i h1 (by lia),e j (by lia) (by lia)];exact c i j h1 h2 h3
theorem Up.to{hi:Nat}(h:Up r X lo hi)(e:∀j,lo<=j->Y[j]?=X[j]?):Up r Y lo hi:=fun i j a b c=>by unfold K;rw[e i a,e j (by lia)];exact h i j a b c
theorem Runs.pw:∀{L L':List (Nat×Nat×Nat)}{lo hi:Nat},Runs r X L lo hi->L'.map (fun q=>(q.1,q.2.1))=L.map (fun q=>(q.1,q.2.1))->Runs r X L' lo hi
 |[],[],lo,hi,h,_=>h
 |[],_::_,_,_,_,e=>by cases e
 |_::_,[],_,_,_,e=>by cases e
 |q::L,q'::L',lo,hi,⟨a,b,c,d⟩,e=>by injection e with e1 e2;injection e1 with e3 e4;exact⟨e3.trans a,by rw[e4];exact b,by rw[e4];exact c,by rw[e4];exact d.pw e2⟩
theorem yO{L:Array (Nat×Nat×Nat)}{v:Nat}:(L.modify i fun q=>(q.1,q.2.1,v)).toList.map (fun q=>(q.1,q.2.1))=L.toList.map (fun q=>(q.1,q.2.1)):=by
 apply Yw;intro j;rw[VF,VF,W2,W2,Array.getElem?_modify];split
 .rw[Option.map_map];rfl
 .rfl
theorem Nt{l:List α}(h:i+1<l.length):∃L1 a b L2,l=L1++a::b::L2/\i=L1.length:=by refine⟨l.take i,l[i],l[i+1],l.drop (i+2),?_,by rw[V'];lia⟩;have e1:l.drop i=l[i]::l.drop (i+1):=WX (by lia);have e2:l.drop (i+1)=l[i+1]::l.drop (i+2):=WX h;rw[<-e2,<-e1,List.take_append_drop]
end
section
variable{E:_O}{s:_Y}{κ:SortKind}{S:Keyed->Prop}{r:Keyed->Nat}{mg:Nat}{X:Array Keyed}
theorem AF(C:B_ prog w A s κ S r){hi:Nat}{Q:Bool->SortSt->Prop}(hS:∀x∈X,S x)(R:Runs r X pend.toList 0 hi)(hz:hi<=X.size)(IA:i+1<pend.size)(h:∀Y pd g,Y.toList.Perm X.toList->(∀j,hi<=j->Y[j]?=X[j]?)->pd.size+1=pend.size->Runs r Y pd.toList 0 hi->Q true (SortSt.mk' κ Y pd g none)):
  wpS (model prog w) A E s (mergeAt' i) Q (SortSt.mk' κ X pend mg none):=by
 obtain⟨L1,⟨sa,na,p⟩,⟨sb,nb,q⟩,L2,e,ei⟩:=Nt (l:=pend.toList) (i:=i) (by rw[Vy];exact IA);rw[e]at R;obtain⟨m,R1,a1,a2,a3,b1,b2,b3,R2⟩:=iR.mp R;dsimp only at a1 a2 a3 b1 b2 b3 R2;subst a1;subst b1;have l1:=R1.len;have l2:=R2.len;refine EF C hS e ei a2 b2 (by lia) a3 b3 fun Y pd g y1 y2 y3 y4=>h Y pd g y1 (fun j hj=>y2 j (.inr (by lia))) ?_ ?_
 .rw[<-Vy,<-Vy,e,y4];simp only[Vr,Vt];lia
 .rw[y4];exact iR.mpr ⟨sa,R1.to fun j h1 h2=>y2 j (.inl h2),rfl,by show 0<na+nb;lia,by show Up r Y sa (sa+(na+nb));rw[<-Zy];exact y3,by
   show Runs r Y L2 (sa+(na+nb)) hi;rw[<-Zy];exact R2.to fun j h1 h2=>y2 j (.inr h1)⟩
theorem QV(C:B_ prog w A s κ S r){Q:Unit->SortSt->Prop}(hS:∀x∈X,S x)(hd:Di r X)(h2:2<=X.size)(h:∀Y pd g,Y.toList.Perm X.toList->Up r Y 0 X.size->Q () (SortSt.mk' κ Y pd g none)):
  wpS (model prog w) A E s sortRuns' Q (SortSt.mk' κ X #[] mg none):=by
 unfold sortRuns';refine VD (Yu ?_);dsimp only;refine VD (W! (Wq (I:=fun x z av=>∃lo Y pd g,z=(none,lo)/\av=SortSt.mk' κ Y pd g none/\Y.toList.Perm X.toList/\Runs r Y pd.toList 0 lo/\x<=lo/\lo<=X.size)
  (Q:=fun z av=>∃Y pd g,z=(none,X.size)/\av=SortSt.mk' κ Y pd g none/\Y.toList.Perm X.toList/\Runs r Y pd.toList 0 X.size) ?_ ?_ ⟨0,X,#[],mg,rfl,rfl,Xl _,rfl,Vo _,V? _⟩) ?_)
 .rintro x z av _ hx ⟨lo,Y,pd,g,rfl,e,pY,R,l1,l2⟩;rw[e];dsimp only;have zY:Y.size=X.size:=by rw[<-Vy,pY.length_eq,Vy]
  have sY:∀x∈Y,S x:=fun x hx=>hS x (VX.mp (pY.mem_iff.mp (VX.mpr hx)));refine cK (fun q=>?_) fun q=>?_
  .have:lo=X.size:=by lia
   subst this;exact VG ⟨Y,pd,g,rfl,rfl,pY,R⟩
  refine VD (Nr C (by lia) (by lia) sY (hd.to pY) fun n Y1 n1 n2 p1 b1 u1=>?_);dsimp only;have Sw:∀x∈Y1,S x:=fun x hx=>sY x (VX.mp (p1.mem_iff.mp (VX.mpr hx)));have zY1:Y1.size=X.size:=by rw[<-Vy,p1.length_eq,Vy,zY]
  have R1:Runs r Y1 pd.toList 0 lo:=R.to fun j _ h=>b1 j h;replace p1:=p1.trans pY;refine cK (fun c=>VD (Zs (WV ⟨rfl,VD (UN C n1 (by lia) Sw u1 fun Y2 p2 b2 u2=>?_)⟩))) fun c=>?_;have sY2:∀x∈Y2,S x:=fun x hx=>Sw x (VX.mp (p2.mem_iff.mp (VX.mpr hx)));replace p2:=p2.trans p1;have R2:Runs r Y2 pd.toList 0 lo:=R1.to fun j _ h=>b2 j h;simp only[W?,V3,WN];have m0:0<min (X.size-lo) (minRun' X.size X.size 0)/\lo+min (X.size-lo) (minRun' X.size X.size 0)<=X.size:=by replace c:n<minRun' X.size X.size 0:=c;lia
  rotate_left
  obtain⟨Y2,e2⟩:∃Y2,Y2=Y1:=⟨_,rfl⟩
  rw[<-e2]at R1 u1 p1 Sw zY1⊢;have R2:=R1;have u2:=u1;have p2:=p1;have sY2:=Sw;have m0:0<n/\lo+n<=X.size:=by lia
  all_goals
   refine VD (Yu ?_);dsimp only;cases hb:pd.back? with
   |none=>
    refine VD (Xw (VG ⟨_,Y2,_,_,rfl,rfl,p2,?_,?_,m0.2⟩))
    .show Runs r Y2 (Array.push _ _).toList 0 _;rw[Xy];exact iR.mpr ⟨lo,R2,rfl,m0.1,u2,rfl⟩
    .exact Vx (_z l1) (Z_ m0.1 lo)
   |some q=>
    obtain⟨s1,n1,v⟩:=q;dsimp only;refine VD (W! (Wq (I:=fun _ z av=>z=(none,())/\∃Y pd g,av=SortSt.mk' κ Y pd g none/\Y.toList.Perm X.toList/\(∀j,lo<=j->Y[j]?=Y2[j]?)/\Runs r Y pd.toList 0 lo)
     (Q:=fun z av=>z=(none,())/\∃Y pd g,av=SortSt.mk' κ Y pd g none/\Y.toList.Perm X.toList/\(∀j,lo<=j->Y[j]?=Y2[j]?)/\Runs r Y pd.toList 0 lo) ?_ ?_ ⟨rfl,Y2,pd,g,rfl,p2,fun _ _=>rfl,R2⟩) ?_)
    .rintro x z av _ _ ⟨rfl,Y,pd,g,e,pY,bY,R⟩;rw[e];have zY:Y.size=X.size:=by rw[<-Vy,pY.length_eq,Vy]
     refine VD (Yu ?_);dsimp only;by_cases c2:pd.size>1
     .rw[Vu c2];obtain⟨q,eq⟩:∃q,pd[pd.size-2]?=some q:=⟨_,Ye pd _ (by lia)⟩
      rw[eq];obtain⟨a1,a2,a3⟩:=q;dsimp only;refine cK (fun _=>VG ⟨rfl,Y,pd,g,rfl,pY,bY,R⟩) fun _=>?_;refine VD (AF C (fun x hx=>hS x (VX.mp (pY.mem_iff.mp (VX.mpr hx)))) R (by lia) (by lia) fun Y3 UO g3 y1 y2 y3 y4=>?_);exact VG ⟨rfl,Y3,UO,g3,rfl,y1.trans pY,fun j hj=>(y2 j hj).trans (bY j hj),y4⟩
     .rw[VA c2];exact VG ⟨rfl,Y,pd,g,rfl,pY,bY,R⟩
    .exact fun _ _ h=>h
    .rintro z av ⟨rfl,Y,pd,g,e,pY,bY,R⟩;rw[e];dsimp only;refine VD (Xw (VD (Xw (VG ⟨_,Y,_,_,rfl,rfl,pY,?_,?_,m0.2⟩))))
     .show Runs r Y (Array.push _ _).toList 0 _;rw[Xy];exact iR.mpr ⟨lo,R.pw yO,rfl,m0.1,u2.to bY,rfl⟩
     .exact Vx (_z l1) (Z_ m0.1 lo)
 .rintro z av ⟨lo,Y,pd,g,rfl,e,pY,R,l1,l2⟩;have:lo=X.size:=by lia
  subst this;exact⟨Y,pd,g,rfl,e,pY,R⟩
 .rintro z av ⟨Y,pd,g,rfl,e,pY,R⟩;rw[e];dsimp only;refine VD (W! (Wq (I:=fun x z av=>z=(none,())/\∃Y pd g,av=SortSt.mk' κ Y pd g none/\Y.toList.Perm X.toList/\Runs r Y pd.toList 0 X.size/\(pd.size<=1\/pd.size+x<=X.size))
   (Q:=fun z av=>z=(none,())/\∃Y pd g,av=SortSt.mk' κ Y pd g none/\Y.toList.Perm X.toList/\Runs r Y pd.toList 0 X.size/\pd.size<=1) ?_ ?_ ⟨rfl,Y,pd,g,rfl,pY,R,.inr (by have:=R.len;rw[Vy]at this;lia)⟩) ?_)
  .rintro x z av _ hx ⟨rfl,Y,pd,g,e,pY,R,l⟩;rw[e];have zY:Y.size=X.size:=by rw[<-Vy,pY.length_eq,Vy]
   refine VD (Yu ?_);dsimp only;refine cK (fun c=>VG ⟨rfl,Y,pd,g,rfl,pY,R,c⟩) fun c=>?_;refine VD (AF C (fun x hx=>hS x (VX.mp (pY.mem_iff.mp (VX.mpr hx)))) R (by lia) ?_ fun Y3 UO g3 y1 y2 y3 y4=>?_)
   .have lem:∀{c:Prop}[Decidable c]{a b n:Nat},a+1<n->b+1<n->(if c then a else b)+1<n:=by intro c _ a b n h1 h2;split<;>assumption
    exact lem (by lia) (by lia)
   .exact VG ⟨rfl,Y3,UO,g3,rfl,y1.trans pY,y4,by lia⟩
  .rintro z av ⟨rfl,Y,pd,g,e,pY,R,l⟩;exact⟨rfl,Y,pd,g,e,pY,R,by lia⟩
  .rintro z av ⟨rfl,Y,pd,g,e,pY,R,l⟩;rw[e];refine VG (h Y pd g pY ?_);obtain⟨q,eq⟩:∃q,pd.toList=[q]:=by
    match z:pd.toList with
    |[]=>
     rw[z]at R;replace R:0=X.size:=R;lia
    |[q]=>exact⟨q,rfl⟩
    |_::_::_=>rw[<-Vy,z]at l;simp at l
   rw[eq]at R;obtain⟨_,_,u,e2⟩:=R;replace e2:0+q.2.1=X.size:=e2;rw[e2]at u;exact u
end
end TS
namespace SO
open W PyProof.Rows
def fh(xs:List (_S)):Prop:=xs.Pairwise fun a b=>lexLt b a=true
theorem AG{α β:Type}:∀{vs:List α}{xs:List β},vs.length=xs.length->vs.reverse.zip xs.reverse=(vs.zip xs).reverse
 |[],[],_=>rfl
 |v::vs,x::xs,h=>by have h':vs.length=xs.length:=YU h;rw[Xx,Xx,Yy,Xx,List.zip_append (by rw[Zk,Zk,h']),AG h'];rfl
def nOf:_X->Int
 |.int n _=>n
 |_=>0
def dO(h:Heap):_X->_S
 |.ref a=>match h.get? a with
  |some o=>match o.data with
   |.seq aF _=>aF.toList.map nOf
   |_=>[]
  |none=>[]
 |_=>[]
theorem Nu{us:_T}(h:IntsAre us ns):us.map nOf=ns:=by
 induction h with
 |nil=>rfl
 |cons n t _ ih=>rw[VB,ih];rfl
theorem qp{v:_X}{k:_S}(t:jf h v k):dO h v=k:=by obtain⟨_,a,o,aF,n,rfl,ho,_,hd,hi⟩:=t;unfold dO;dsimp only;rw[ho];dsimp only;rw[hd];exact Nu hi
theorem ID{vs:_T}{xs:List (_S)}(t:cI h vs xs):vs.map (dO h)=xs:=by
 induction t with
 |nil=>rfl
 |cons a _ ih=>rw[VB,ih,qp a]
def rk(xs:List (_S))(k:_S):Nat:=xs.countP fun z=>lexLt z k
theorem tD{α:Type}{p q:α->Bool}:∀{l:List α}{x:α},x∈l->(∀z,p z=true->q z=true)->q x=true->p x=false->l.countP p<l.countP q
 |y::l,x,m,h,hq,hp=>by
  have le:l.countP p<=l.countP q:=List.countP_mono_left fun z _=>h z;rcases VU.mp m with e|m
  .subst e;rw[YH (by rw[hp];exact VI),XR hq];lia
  .have ih:=tD m h hq hp;by_cases c:p y=true
   .rw[XR c,XR (h y c)];lia
   .rw[YH c];by_cases d:q y=true
    .rw[XR d];lia
    .rw[YH d];exact ih
theorem AH{xs:List (_S)}{a b:_S}(ha:a∈xs)(h:lexLt a b=true):rk xs a<rk xs b:=
 tD ha (fun z hz=>qo hz h) h (j' a)
theorem Ko{xs:List (_S)}{a b:_S}(ha:a∈xs)(hb:b∈xs):decide (rk xs a<rk xs b)=lexLt a b:=by
 cases z:lexLt a b with
 |true=>exact VV (AH ha z)
 |false=>
  refine VR ?_;by_cases e:a=b
  .rw[e];exact Wc _
  .have:=AH hb (iQ e z);lia
theorem EG{xs:List (_S)}(nd:xs.Nodup):(xs.map (rk xs)).Nodup:=by
 refine Xh.mpr (Yz (fun{a b}ha hb ne=>?_) nd);intro e;cases z:lexLt a b with
 |true=>have:=AH ha z;lia
 |false=>have:=AH hb (iQ ne z);lia
section
variable{E:_O}{s:_Y}
theorem EI{P:PySem.Fin->_Y->Prop}(ho:s.heap.get? a=some (seqObj "list" vs.toArray n))(t:cI s.heap vs xs)(nd:xs.Nodup)(hz:vs.length<=sizeLine)(h:∀zs:List (_X×List Int),zs.Perm (vs.zip xs)->fh (zs.map (·.2))->P (.done (.ret .none)) {s with heap:=sortedHeap s.heap a vs (zs.map (·.1)).toArray}):
  wpAny (model prog w) A (Builtin.«list.sort» ⟨[.ref a],[(Str.ofString "reverse",.bool true)]⟩) P E s:=by
 rw[list_sort_rev];have ha:a<s.heap.objs.size:=Vz ho;have small:vs.toArray.size<=sizeLine:=by rw[VC];exact hz
 obtain⟨h1,e1⟩:∃h1,h1=s.heap.update a (Obj.mapSeq fun _=>(#[]:Array _X)):=⟨_,rfl⟩
 obtain⟨c1,ho1⟩:∃c,h1.get? a=some (seqObj "list" #[] c):=⟨_,by rw[e1];exact _G ho fun _ => #[]⟩
 obtain⟨h6,e6⟩:∃h6,h6=(h1.push (seqObj "tuple" vs.toArray 0)).push (seqObj "list" #[] 0):=⟨_,rfl⟩
 have Sx:h6.get? a=some (seqObj "list" #[] c1):=by rw[e6];exact Vn _ (Vn _ ho1)
 have t6:cI h6 vs xs:=t.to fun b o hb hc=>by
  rw[e6,e1];refine Vn _ (Vn _ ?_);have ne:a≠b:=fun z=>by rw[<-z,ho]at hb;cases hb;exact absurd (Z4 hc) (by decide)
  exact(Wm _ _ ne).trans hb
 refine Vl (listItems_at ho rfl (Vl (listUpdate_at ho rfl ?_ small (V? _))));rw[<-e1];refine Vl (seqEpoch_at ho1 rfl (Vl (wpAny_newTuple ?_ (by show vs.length<=_;exact hz))));refine Vl (Z? ?_ (V? _));refine W4 ?_;show wpAny (model prog w) A _ P E {s with heap:=(h1.push (seqObj "tuple" vs.toArray 0)).push (seqObj "list" #[] 0)};rw[<-e6];have ends:∀zs:List (_X×List Int),zs.Perm (vs.zip xs)->fh (zs.map (·.2))->P (.done (.ret .none)) {s with heap:=h6.update a (Obj.mapSeq fun _=>(zs.map (·.1)).toArray)}:=by intro zs z1 z2;have:=h zs z1 z2;unfold sortedHeap at this;rw[<-e1,<-e6]at this;exact this
 dsimp only;rw[Vu rfl];refine Vl (WV ?_);by_cases h2:vs.toArray.size<2
 .rw[Vu h2,Vu h2];refine Vl (Vq ?_);rw[StateT.run_pure];refine Vl (Vq ?_);dsimp only;have h2z:(vs.zip xs).length<2:=by rw[_B,<-t.length,ZP];rw[VC]at h2;exact h2
  have out:(((vs.toArray.zip vs.toArray).reverse.map (·.2)).reverse)=((vs.zip xs).map (·.1)).toArray:=by rw[Array.map_reverse,Array.reverse_reverse];apply XH.mp;rw[Array.toList_map,Array.toList_zip];show List.map _ (vs.zip vs)=List.map _ (vs.zip xs);rw[List.map_snd_zip (Vo _),List.map_fst_zip (YY t.length)]
  refine Vl (seqEpoch_at Sx rfl (Vl (listUpdate_at Sx rfl ?_ (V? _) ?_)))
  .show wpAny _ _ _ _ _ {s with heap:=h6.update a (Obj.mapSeq fun _=>(((vs.toArray.zip vs.toArray).reverse.map (·.2)).reverse))};rw[out];simp only[bne_self_eq_false,V3,WN];refine Vq (ends _ (Xl _) ?_);unfold fh
   match(vs.zip xs),h2z with
   |[],_=>exact .nil
   |[_],_=>exact YE _ _
  .show(((vs.toArray.zip vs.toArray).reverse.map (·.2)).reverse).size<=_;rw[out,VC,Vm];lia
 .rw[VA h2,VA h2];have l2:2<=vs.length:=by rw[VC]at h2;lia
  obtain⟨rs,er⟩:∃rs,rs=vs.reverse:=⟨_,rfl⟩
  obtain⟨ks,ek⟩:∃ks,ks=xs.reverse:=⟨_,rfl⟩
  have UP:cI h6 rs ks:=by rw[er,ek];exact t6.rev
  have lr:rs.length=vs.length:=by rw[er,Zk]
  have lk:rs.length=ks.length:=UP.length;have ndk:ks.Nodup:=by rw[ek];exact(Xb xs).nodup_iff.mpr nd
  refine Vl (IB t6 (by lia) ?_);have pr:(vs.toArray.zip vs.toArray).reverse=rs.toArray.zip rs.toArray:=by have:=kat_pairs true (ks:=vs) (vs:=vs) rfl;rw[Vu rfl]at this;rw[this,er];rfl
  rw[pr];obtain⟨X,eX⟩:∃X,X=rs.toArray.zip rs.toArray:=⟨_,rfl⟩
  rw[<-eX];have xl:X.toList=rs.map fun v=>(v,v):=by rw[eX,Array.toList_zip];show rs.zip rs=_;rw[List.zip_eq_zipWith,List.zipWith_self]
  have kk:rs.map (dO h6)=ks:=ID UP;have sX:∀x∈X,∃k,jf h6 x.1 k/\k∈ks:=fun x hx=>by rw[<-VX,xl]at hx;obtain⟨v,hv,rfl⟩:=VH.mp hx;obtain⟨i,hi⟩:=Za hv;have li:i<rs.length:=(V_.mp hi).1;have:=UP.at_ i li;rw[V8,hi,V8,Vp (by lia)]at this;exact⟨_,this,Wt _⟩
  have C:TS.B_ prog w A {s with heap:=h6} (tuples' true) (fun x=>∃k,jf h6 x.1 k/\k∈ks) fun x=>rk ks (dO h6 x.1):=by rintro x y Q ⟨k,tk,mk⟩ ⟨l,tl,ml⟩ q;replace q:Q (decide (rk ks (dO h6 x.1)<rk ks (dO h6 y.1))) {s with heap:=h6}:=q;rw[qp tk,qp tl,Ko mk ml]at q;exact QO tk tl q
  have dX:TS.Di (fun x=>rk ks (dO h6 x.1)) X:=by
   unfold TS.Di;rw[xl,VN];have:rs.map ((fun x:Keyed=>rk ks (dO h6 x.1)) ∘ fun v=>(v,v))=ks.map (rk ks):=by rw[<-kk,VN];rfl
   rw[this];exact EG ndk
  have zX:X.size=rs.length:=by rw[<-Vy,xl,Vm]
  rw[Vu (rfl:true=true)];refine Vl (Ws (TS.QV (Q:=fun _ av=>∃Y pd g,av=SortSt.mk' (tuples' true) Y pd g none/\Y.toList.Perm X.toList/\TS.Up (fun x=>rk ks (dO h6 x.1)) Y 0 X.size) C sX dX (by lia) fun Y pd g y1 y2=>⟨Y,pd,g,rfl,y1,y2⟩) ?_ fun _ _ e=>e);rintro⟨⟨⟩,av⟩ s' ⟨rfl,Y,pd,g,rfl,y1,y2⟩;dsimp only at y1 y2⊢;have zY:Y.size=X.size:=by rw[<-Vy,y1.length_eq,Vy]
  obtain⟨zs,ez⟩:∃zs:List (_X×List Int),zs=(Y.toList.map fun x=>(x.2,dO h6 x.1)).reverse:=⟨_,rfl⟩
  have zp:zs.Perm (vs.zip xs):=by
   rw[ez];refine(Xb _).trans ((y1.map _).trans ?_);rw[xl,VN];have:rs.map ((fun x:Keyed=>(x.2,dO h6 x.1)) ∘ fun v=>(v,v))=rs.zip ks:=by rw[<-kk,List.zip_map_right,List.zip_eq_zipWith,List.zipWith_self,VN];rfl
   rw[this,er,ek,AG t.length];exact Xb _
  have zf:fh (zs.map (·.2)):=by unfold fh;rw[ez,List.map_reverse,X8,VN,Xh];have u:=y2.iG;rw[<-zY,TS.fg]at u;have d:=Xh.mp (dX.to y1);refine Yz (fun{a b}ha hb q=>?_) (List.Pairwise.and u d);obtain⟨k,tk,mk⟩:=sX a (VX.mp (y1.mem_iff.mp ha));obtain⟨l,tl,ml⟩:=sX b (VX.mp (y1.mem_iff.mp hb));have q1:rk ks (dO h6 a.1)<=rk ks (dO h6 b.1):=q.1;have q2:rk ks (dO h6 a.1)≠rk ks (dO h6 b.1):=q.2;show lexLt (dO h6 a.1) (dO h6 b.1)=true;rw[qp tk,qp tl]at q1 q2⊢;rw[<-Ko mk ml];exact VV (by lia)
  have out:(Y.map (·.2)).reverse=(zs.map (·.1)).toArray:=by apply XH.mp;rw[W7,Array.toList_map,ez,List.map_reverse,VN];rfl
  have lz:zs.length<=sizeLine:=by have:=zp.length_eq;rw[_B,<-t.length,ZP]at this;lia
  refine Vl (seqEpoch_at Sx rfl (Vl (listUpdate_at Sx rfl ?_ (V? _) ?_)))
  .rw[Vu rfl,out];simp only[bne_self_eq_false,V3,WN];exact Vq (ends zs zp zf)
  .rw[Vu rfl,out,VC,Vm];exact Nat.le_succ_of_le lz
theorem yP{d:_Z}{es:Array DictEntry}(hh:A.handled=none)(lo:(d==sysModules)=false)(x:k! s.heap d es ep)(t:cI s.heap (es.toList.map (·.key)) xs)(nd:xs.Nodup)(hz:es.size<=sizeLine)
  (h:∀ (h':Heap) (tk:Nat) (l:_Z) (c:Nat) (zs:List (_X × List Int)),(∀ b o,s.heap.get? b=some o->h'.get? b=some o)->s.heap.objs.size<=l->zs.Perm ((es.toList.map (·.key)).zip xs)->fh (zs.map (·.2)) ->
   h'.get? l=some (seqObj "list" (zs.map (·.1)).toArray c)->Q (.ref l) {s with heap:=h',toks:=tk}):
  wpAny (model prog w) A (call (.builtin "sorted") [.ref d] [(Str.ofString "reverse",.bool true)]) Q E s:=by
 refine call_function_entry_kw kind_sorted plain_sorted entry_sorted (args_sorted_rev _ _) ?_;unfold Builtin.«sorted»;refine Vl (m:=checkCount "sorted" 1 1 _) (Vq ?_);have hn:es.size<=sizeLine:=hz;obtain⟨vs,ev⟩:∃vs,vs=es.toList.map (·.key):=⟨_,rfl⟩
 have lv:vs.length=es.size:=by rw[ev,Vm,Vy]
 refine Vl (wV hh lo x hn fun h1 tk k0 k1=>?_);rw[<-ev]at t h⊢;refine Vl (Z? ?_ (by show vs.length<=_;lia));have gl:(h1.push (seqObj "list" vs.toArray 0)).get? h1.objs.size=some (seqObj "list" vs.toArray 0):=VJ _ rfl;show wpAny _ _ _ _ _ {s with heap:=h1.push (seqObj "list" vs.toArray 0),toks:=tk};refine Vl (W4 (wpAny_call_entry_kw slot_list_sort ⟨_,gl,rfl⟩ entry_list_sort (EI gl (t.to fun b o e _=>Vn _ (k1 b o e)) nd (by lia) fun zs z1 z2=>⟨_,rfl,?_⟩) (args_list_sort_rev _ _)));obtain⟨c,gc⟩:∃c,(sortedHeap (h1.push (seqObj "list" vs.toArray 0)) h1.objs.size vs (zs.map (·.1)).toArray).get? h1.objs.size=some (seqObj "list" (zs.map (·.1)).toArray c):=
  ⟨_,by unfold sortedHeap;exact _G (Vn _ (Vn _ (_G gl fun _ => #[]))) fun _=>(zs.map (·.1)).toArray⟩
 refine Vq ⟨_,rfl,h _ tk h1.objs.size c zs (fun b o e=>?_) ?_ z1 z2 gc⟩
 .have e1:=k1 b o e;have ne:h1.objs.size≠b:=Xe (Vz e1);unfold sortedHeap;refine(Wm _ _ ne).trans (Vn _ (Vn _ ((Wm _ _ ne).trans (Vn _ e1))))
 .exact X6 k0
end
end SO
namespace L2
open Spec PyProof.Rows
def yQ(X:Cx)(f:_X)(ks:_W)(r:List V->List V->Hp->VK->Prop):Prop:=
 ∀(ag:_Q)(s:_Y)(σ:St)(H:Hp)(xs zs:List V)(us ws:_T)(Q:VK),aM X ag σ H s->bf xs us->bf zs ws->r xs zs H Q ->
  wpAny (model X.prog X.w) X.A (call f us (ks.zip ws)) (EP X ag σ Q) X.xe s
def tCK(r:List V->List V->Hp->VK->Prop)(t tk:TA):TE:=fun σ H Q=>t σ H fun vs H1=>tk σ H1 fun zs H2=>r vs zs H2 Q
section
variable{id:String}{ks:_W}{r:List V->List V->Hp->VK->Prop}{p:Pos}{Dd:List Keyword}{t tk:TA}
theorem tF(hc:yQ X (.builtin id) ks r)(hg:Gl X x)(hm:X.mg x=none)(hv:bootBuiltins x=some (.builtin id))(ha:PA X (e::es) t)(hkw:PK X Dd tk)(Nv:(backToKw pos (keywordEach Dd X.env)).filterMap (·.1)=ks:=by rfl)(hn:x ≠ "__name__":=by decide)(ju:(x==("__debug__":Str))=false:=by decide)(he:backTo pos (starEach (e::es) X.env)=(false,eval e X.env)::backTo pos (starEach es X.env):=by rfl)(ip:(backTo pos (starEach (e::es) X.env)).any (·.1)=false:=by rfl)(Lw:(backToKw pos (keywordEach Dd X.env)).all (·.1.isSome)=true:=by rfl)(Pg:(backToKw pos (keywordEach Dd X.env)).any (·.1.isNone)=false:=by rfl):PE X (.Call (.Name x p) (e::es) Dd pos) (tCK r t tk):=by intro ag s σ H Q I h;refine WY (kN I hg hm hv ?_ hn ju);refine callWith_kw (df (ha pos ag s σ H _ I h) fun us s1 q1=>?_) he ip Lw Pg;obtain⟨vs,H1,I1,r1,q1⟩:=q1;refine df (hkw pos ag s1 σ H1 _ I1 q1) fun ws s2 q2=>?_;obtain⟨zs,H2,I2,r2,q2⟩:=q2;rw[Nv];exact hc ag s2 σ H2 vs zs us ws Q I2 r1 r2 q2
end
def iK(k:_S):List da:=k.map Sum.inl
theorem UQ(k:_S):(iK k).map kV=k.map V.int:=by unfold iK;rw[VN];rfl
theorem EJ{a b:_S}(h:iK a=iK b):a=b:=by
 induction a generalizing b with
 |nil=>cases b with
  |nil=>rfl
  |cons=>cases h
 |cons x a ih=>cases b with
  |nil=>cases h
  |cons y b=>
   injection h with h1 h2;injection h1 with h1;rw[h1,ih h2]
def Nw(H:Hp)(v:V)(k:_S):Prop:=∃a,v=.ref a/\H a=some (.tup (k.map V.int))
def EL:List V->List V->Hp->VK->Prop:=fun xs zs H Q=>∃(d:_Z)(aI:List (List da×V))(ks:List (_S)),xs=[.ref d]/\zs=[.bl true]/\H d=some (.dT aI)/\aI.map (·.1)=ks.map iK/\ks.length<=sizeLine/\(∀k∈ks,k≠[]) /\
 ∀(l:_Z)(vs:List V)(outs:List (_S)),H l=none->outs.Perm ks->SO.fh outs->Paired (Nw H) vs outs->Q (.ref l) (upd H l (.lst vs))
theorem mH{xs:_S}{us:_T}(h:bf (xs.map V.int) us):IntsAre us xs:=by
 induction xs generalizing us with
 |nil=>cases h;exact .nil
 |cons x xs ih=>
  cases h with
  |cons a b=>
   obtain⟨t,rfl⟩:=a;exact .cons x t (ih b)
theorem w_(hc:X.calm=true):yQ X (.builtin "sorted") ["reverse"] EL:=by
 intro ag s σ H xs zs us ws Q I rx rz h;obtain⟨d,aI,ks,rfl,rfl,hd,hk,h64,Iw,q⟩:=h;obtain⟨u,rfl,r1⟩:=vals1 rx;obtain⟨z,rfl,r2⟩:=vals1 rz;cases r1;cases r2;obtain⟨_,lo,xs,pr,o,es,ep,h1,h2,h3,h4,h5⟩:=(show ck X.prog X.w H s.heap d (.dT aI)from I.bN d _ hd)
 -- Og aaC values and O7 aaJ hold
 have key:∀{aI:List (List da×V)}{xs:List (List da×_Z×_X)}{ks:List (_S)},KT H aI xs->aI.map (·.1)=ks.map iK->(∀k∈ks,k≠[]) ->
   SO.cI s.heap (xs.map fun x=>Value.ref x.2.1) ks/\xs.map (·.1)=ks.map iK/\∀z∈(xs.map fun x=>Value.ref x.2.1).zip ks,∃a,z.1=.ref a/\H a=some (.tup (z.2.map V.int)):=by
  intro aI xs ks pr
  induction pr generalizing ks with
  |nil=>
   intro e _;cases ks with
   |nil=>exact⟨.nil,rfl,fun z m=>by cases m⟩
   |cons=>cases e
  | @cons p x ps ys a _ ih=>
   intro e ne;cases ks with
   |nil=>cases e
   |cons k ks=>
    injection e with e1 e2;replace e1:p.1=iK k:=e1;obtain⟨i1,i2,i3⟩:=ih e2 fun k m=>ne k (VQ _ m);have ht:H x.2.1=some (.tup (k.map V.int)):=by rw[<-UQ,<-e1];exact a.2.1
    obtain⟨_,aF,rv,o,g1,g2,n,g3⟩:=(show ck X.prog X.w H s.heap x.2.1 (.tup (k.map V.int))from I.bN _ _ ht)
    refine⟨.cons ⟨ne k VO,x.2.1,o,aF.toArray,n,rfl,g1,g2,g3,mH rv⟩ i1,?_,fun z m=>?_⟩
    .rw[VB,VB,i2,<-a.1,e1]
    .rcases VU.mp m with m|m
     .rw[m];exact⟨_,rfl,ht⟩
     .exact i3 z m
 obtain⟨t,ek,hz⟩:=key pr hk Iw;have nd:ks.Nodup:=by rw[ek]at h5;exact List.Pairwise.of_map iK (fun a b z e=>z (by rw[e])) h5
 have ev:es.toList.map (·.key)=xs.map fun x=>Value.ref x.2.1:=by rw[h4,VN];rfl
 have lv:es.size=ks.length:=by have:=Xg List.length h4;rw[Vy,Vm]at this;have l2:=t.length;rw[Vm]at l2;lia
 have x:SO.k! s.heap d es ep:=⟨o,h1,h2.1,h3⟩
 refine SO.yP (I.ok.hd hc) lo x (by rw[ev];exact t) nd (by lia) fun h' tk l c zs kp hl z1 z2 g=>?_;rw[ev]at z1;have all:∀z∈zs,∃a,z.1=.ref a/\H a=some (.tup (z.2.map V.int)):=fun z m=>hz z (z1.mem_iff.mp m);have mk:∀{zs:List (_X×List Int)},(∀z∈zs,∃a,z.1=.ref a/\H a=some (.tup (z.2.map V.int)))->∃vs,bf vs (zs.map (·.1))/\Paired (Nw H) vs (zs.map (·.2)):=by
  intro zs
  induction zs with
  |nil=>intro _;exact⟨[],.nil,.nil⟩
  |cons z zs ih=>
   intro al;obtain⟨vs,v1,v2⟩:=ih fun y m=>al y (VQ _ m);obtain⟨a,e1,e2⟩:=al z VO;exact⟨.ref a::vs,.cons e1 v1,.cons ⟨a,rfl,e2⟩ v2⟩
 obtain⟨vs,v1,v2⟩:=mk all;have op:(zs.map (·.2)).Perm ks:=by have:=z1.map (·.2);rwa [List.map_snd_zip (YY t.length.symm)]at this
 have lz:vs.length<=sizeLine:=by have e1:=v1.length;have e2:=op.length_eq;rw[Vm]at e1 e2;lia
 exact⟨.ref l,_,I.laid (t':=tk) kp hl (show ck X.prog X.w _ h' _ (.lst vs) from⟨lz,_,c,v1,g⟩),rfl,q l vs _ (I.bN.fresh hl) op z2 v2⟩
end L2
namespace SO
open W PyProof.Rows
section
variable{E:_O}{s:_Y}
theorem IE{b:_Z}{oa ob:Obj}{us vs:Array _X}{m:Nat}{xs ys:_S}{P:PySem.Fin->_Y->Prop}(ha:s.heap.get? a=some oa)(hca:oa.cls=.type "tuple")(hda:oa.data=.seq us n)(hb:s.heap.get? b=some ob)(hcb:ob.cls=.type "tuple")(ju:ob.data=.seq vs m)(ia:IntsAre us.toList xs)(ib:IntsAre vs.toList ys)(h:P (.done (.ret (.bool (!(lexLt xs ys))))) s):
  wpAny (model prog w) A (Builtin.«tuple.__ge__» ⟨[.ref a,.ref b],[]⟩) P E s:=by
 show wpAny _ _ (isInstance (.ref b) (.type "tuple") >>= _) _ _ s;refine Vl (Zt (T:="tuple") ⟨ob,hb,hcb⟩ isSubtype_tuple_tuple ?_);simp only[W?,V3,WN];refine Vl (Zg ha hda (Vl (Zg hb ju ?_)));refine Vl ?_;refine wpAny_forIn_list _ (fun rest r s'=>r.1=none/\s'=s/\∃x' y' As yw,rest=List.zip As yw/\IntsAre As x'/\IntsAre yw y'/\lexLt x' y'=lexLt xs ys/\As.length+vs.size=yw.length+us.size) _ ?_ ?_ _ _
  ⟨rfl,rfl,xs,ys,us.toList,vs.toList,rfl,ia,ib,rfl,by rw[Vy,Vy,ZR]⟩
 .rintro⟨u,v⟩ rest r s' ⟨hr,rfl,x',y',As,yw,hz,hx,hy,hl,hs⟩;cases hx with
  |nil=>cases hz
  | @cons i t Uu x1 Ux=>
   cases hy with
   |nil=>cases hz
   | @cons j t2 vs1 y1 hy1=>
    rw[Yy]at hz;injection hz with hz1 hz2;cases hz1;refine Vl (Zv ?_);replace hl:(if i=j then lexLt x1 y1 else decide (i<j))=lexLt xs ys:=hl;by_cases e:i=j
    .rw[Vu e]at hl;rw[Wr.mpr e];simp only[W?,V3,WN];refine Vq ⟨rfl,rfl,x1,y1,Uu,vs1,hz2,Ux,hy1,hl,?_⟩;rw[Vt,Vt]at hs;lia
    .rw[VA e]at hl;rw[V9.mpr e];simp only[Bool.not_false,Xr];refine Vl (WV ?_);have hb:Value.bool (decide (i ≥ j))=.bool (!(lexLt xs ys)):=by
      rw[<-hl];congr 1;by_cases q:i<j
      .rw[VV q,VR (by lia)];rfl
      .rw[VR q,VV (by lia)];rfl
     refine Vl (show wpAny _ _ (richCompare .GtE (.int i t) (.int j t2)) _ _ _ from ge_int ?_);rw[hb];exact Vl (Vq (Vq (Vq h)))
 .rintro⟨r1,r2⟩ s' ⟨hr,rfl,x',y',As,yw,hz,hx,hy,hl,hs⟩;simp only at hr;subst hr;refine Vq ?_;have hb:decide (us.size ≥ vs.size) = !(lexLt xs ys):=by
   rw[<-hl];cases hx with
   |nil=>
    cases hy with
    |nil=>rw[VV (by simp at hs;lia)];rfl
    |cons _ _ _=>rw[VR (by rw[Vt,VY]at hs;lia)];rfl
   |cons _ _ _=>
    cases hy with
    |nil=>rw[VV (by rw[Vt,VY]at hs;lia)];rfl
    |cons _ _ _=>cases hz
  show P (.done (.ret (.bool (decide (us.size ≥ vs.size))))) s';rw[hb];exact h
theorem Nx{b:_Z}{xs ys:_S}(hu:A.units<cLine)(h1:jf s.heap (.ref a) xs)(h2:jf s.heap (.ref b) ys)(h:Q (.bool (!(lexLt xs ys))) s):
  wpAny (model prog w) A (compareOp .GtE (.ref a) (.ref b)) Q E s:=by
 obtain⟨_,a',o,aF,n,ea,ho,hc,hd,hi⟩:=h1;obtain⟨_,b',o2,d?,n2,eb,z!,vU,hd2,IA⟩:=h2;cases ea;cases eb;refine cmp_ofGtE (wpAny_richCompare_same_room (op:=.GtE) (T:="tuple") ⟨o,ho,hc⟩ ⟨o2,z!,vU⟩ ZZ ?_ hu);refine WQ ZZ ⟨o,ho,hc⟩ F.entry_tuple_ge (IE ho hc hd z! vU hd2 hi IA ?_) (F.args_tuple_ge_2 _ _);exact⟨_,rfl,(fun e=>nomatch e),h⟩
end
def gf(M:Int):_S->Int
 |[]=>M
 |x::r=>gf (if x>M then x else M) r
theorem rV(a v:_X):argsOk "max" ⟨[a],[(Str.ofString "default",v)]⟩:=by unfold argsOk;kernel_rfl
theorem IF{us:_T}(h:IntsAre us ns):∀{i:Nat}{v:_X},us[i]?=some v->∃n t,ns[i]?=some n/\v=.int n t:=by
 induction h with
 |nil=>intro i v e;cases e
 |cons n t _ ih=>
  intro i v e;cases i with
  |zero=>cases e;exact⟨n,t,rfl,rfl⟩
  |succ i=>exact ih e
section
variable{E:_O}{I l S:_Z}{us:_T}{d:_X}{R:Result->_Y->Prop}
theorem Ny(hh:A.in1.handled=none)(hI:l≠I)(Nz:S≠I)(Sy:S≠l)(ia:IntsAre us ns):∀(k j:Nat)(s:_Y)(M:Int)(t:Tok)(c:Nat),ns.length-j=k->j<=ns.length->(s.heap.IsListIter I l j/\s.heap.IsList l us.toArray) ->
  s.heap.get? S=some (seqObj "list" #[.int M t,.int M t] c) ->
  (∀t' h' tk,(∀b o,b≠S->b≠I->s.heap.get? b=some o->h'.get? b=some o)->R (.ok (.ret (.int (gf M (ns.drop j)) t'))) {s with heap:=h',toks:=tk}) ->
  codeAny (model prog w) A (.builtin "max.loop" ⟨[.ref I,.none,.ref S],[(Str.ofString "default",d)]⟩) R s:=by
 have W:=Walks.list (prog:=prog) (w:=w) (A:=A.in1) hh I l hI us.toArray;have hsz:us.toArray.size=ns.length:=by rw[VC,ia.length]
 have w!:(toString "max" ++ toString ".loop":String) = "max.loop":=by decide
 intro k
 induction k with
 |zero=>
  intro j s M t c hk hj st hS hR;have e:j=us.toArray.size:=by lia
  refine W' Yk ?_;rw[XA WS _];show wpAny _ A.in1 (seqItems? (.ref S) >>= _) _ _ s;refine Vl (WM hS rfl ?_);show wpAny _ A.in1 (tryCatch (pyNext (.ref I)) _ >>= _) _ _ s;refine Vl (XT (W.done s _ _ (e▸st) fun h' tk hm=>?_));have Kp:=hm S _ (by simp[Nz]) hS;show wpAny _ A.in1 (updateSeq S (fun _ => #[]) >>= _) _ _ _;refine Vl (ZI Kp rfl (Vl (X9 (Vq ?_))));have:=hR t ((h'.update S (Obj.mapSeq fun _ => #[]))) tk fun b o h1 h2 e=>(Wm _ _ (Xi h1)).trans (hm b o (by simp[h2]) e);rw[List.drop_eq_nil_of_le (by lia)]at this;exact this
 |succ k ih=>
  intro j s M t c hk hj st hS hR;have uO:j<us.toArray.size:=by lia
  refine W' Yk ?_;rw[XA WS _];show wpAny _ A.in1 (seqItems? (.ref S) >>= _) _ _ s;refine Vl (WM hS rfl ?_);show wpAny _ A.in1 (tryCatch (pyNext (.ref I)) _ >>= _) _ _ s;refine Vl (XT (W.item j s _ _ uO st fun v h' tk hP av hm=>?_));have Kp:=hm S _ (by simp[Nz]) hS;obtain⟨n,t2,en,rfl⟩:=IF ia (by rw[<-Y6];exact hP);have hj':j<ns.length:=by lia
  have ed:ns.drop j=n::ns.drop (j+1):=by rw[Vp hj']at en;cases en;exact WX hj'
  show wpAny _ A.in1 (tryCatch (holding [.int n t2,.int n t2] (richCompare .Gt (.int n t2) (.int M t) >>= _)) _ >>= _) _ _ _;refine Vl (XT (W4 (Vl (show wpAny _ _ (compareOp .Gt (.int n t2) (.int M t)) _ _ _ from gt_int ?_))));refine Vl (W4 (W8 (Vl (X9 (Vq ?_)))));by_cases c1:n>M
  .rw[VV c1];simp only[Xr];refine Vl (ZI Kp rfl (Vl (X9 ?_)));rw[w!];refine Vq ⟨X7 WS _,ih (j+1) _ n t2 _ (by lia) (by lia) (W.frame _ _ _ av fun b hb o e=>?_) (X2 _ Kp rfl) fun t' h2 UR PU=>?_⟩
   .exact(Wm _ _ (fun z:S=b=>by rw[<-z]at hb;simp[Nz,Sy]at hb)).trans e
   .have:=hR t' h2 UR fun b o h1 h3 e=>PU b o h1 h3 ((Wm _ _ (Xi h1)).trans (hm b o (by simp[h3]) e));rw[ed]at this;replace this:R (.ok (.ret (.int (gf (if n>M then n else M) (ns.drop (j+1))) t'))) _:=this;rw[Vu c1]at this;exact this
  .rw[VR c1];simp only[V3,WN];refine Vl (X9 ?_);rw[w!];refine Vq ⟨X7 WS _,ih (j+1) _ M t c (by lia) (by lia) av Kp fun t' h2 UR PU=>?_⟩;have:=hR t' h2 UR fun b o h1 h3 e=>PU b o h1 h3 (hm b o (by simp[h3]) e);rw[ed]at this;replace this:R (.ok (.ret (.int (gf (if n>M then n else M) (ns.drop (j+1))) t'))) _:=this;rw[VA c1]at this;exact this
def maxD(dv:Int):_S->Int
 |[]=>dv
 |n::r=>gf n r
theorem u!{s:_Y}{id:String}{b:Builtin}{args:_T}{kw:List (Str×_X)}(hk:builtinKind id=none)(hp:plainId id=true)(hb:entryFor table id=some b)(ha:argsOk id ⟨args,kw⟩)
  (hc:wpAny (model prog w) A.in1 (b ⟨args,kw⟩) (fun fin s'=>match fin with
   |.done f=>(match(Except.ok f:Result) with|.ok (.ret v)=>Q v s'|.ok _=>False|.error e=>E e s')
   |.again c'=>c'.quiet=true/\codeAny (model prog w) A c' (fun r s'=>match r with|.ok (.ret v)=>Q v s'|.ok _=>False|.error e=>E e s') s') E s):wpAny (model prog w) A (call (.builtin id) args kw) Q E s:=by
 refine X3 (YS hp hb ?_);simp only[checkBuiltinCall,hk];cases US:Manifest.signature? id with
 |none=>exact Vq hc
 |some sig=>
  have Qj:Bind.checkArgs id sig ⟨args,kw⟩=pure ():=by simpa only [argsOk,US]using ha
  simp only[Qj];exact Vq hc
theorem EM{s:_Y}{dv:Int}{dt:Tok}(hh:A.handled=none)(hl:s.heap.IsList l us.toArray)(ia:IntsAre us ns)(h:∀h' tk t,(∀b o,s.heap.get? b=some o->h'.get? b=some o)->Q (.int (maxD dv ns) t) {s with heap:=h',toks:=tk}):wpAny (model prog w) A (call (.builtin "max") [.ref l] [(Str.ofString "default",.int dv dt)]) Q E s:=by
 have w!:(toString "max" ++ toString ".loop":String) = "max.loop":=by decide
 refine u! F.kind_max F.plain_max F.entry_max (rV _ _) ?_;show wpAny _ A.in1 (Builtin.Builtins.bindParams "max" ["key","default"] 0 ⟨[],[(Str.ofString "default",.int dv dt)]⟩ >>= _) _ _ s;refine Vl (wpAny_of_eq (show Builtin.Builtins.bindParams "max" ["key","default"] 0 ⟨[],[(Str.ofString "default",.int dv dt)]⟩=pure [none,some (.int dv dt)]from rfl) ?_);refine Vl (Vq ?_);refine Vl (XU hl ?_);refine Vl (Wn ?_);rw[w!];refine Vq ⟨X7 WS _,?_⟩;obtain⟨I,eI⟩:∃I,I=s.heap.objs.size:=⟨_,rfl⟩
 obtain⟨h1,e1⟩:∃h1,h1=s.heap.push {cls:=.type "list_iterator",data:=.fields #[.ref l,.int 0 0]}:=⟨_,rfl⟩
 obtain⟨S,eS⟩:∃S,S=h1.objs.size:=⟨_,rfl⟩
 obtain⟨h2,e2⟩:∃h2,h2=h1.push (seqObj "list" #[] 0):=⟨_,rfl⟩
 have uO:l<s.heap.objs.size:=by obtain⟨_,e,_⟩:=id hl;exact Vz e
 have UT:S=I+1:=by rw[eS,e1,eI,XX]
 have hI:l≠I:=by rw[eI];exact VS uO
 have Nz:S≠I:=by rw[UT];exact Nat.succ_ne_self I
 have Sy:S≠l:=by rw[UT,eI];exact Xe (_p uO)
 have k2:∀b o,s.heap.get? b=some o->h2.get? b=some o:=fun b o e=>by rw[e2,e1];exact Vn _ (Vn _ e)
 have st:h2.IsListIter I l 0/\h2.IsList l us.toArray:=by
  constructor
  .refine⟨{cls:=.type "list_iterator",data:=.fields #[.ref l,.int 0 0]},?_,rfl,rfl⟩;rw[e2,e1,eI];exact Vn _ (VJ _ rfl)
  .obtain⟨o,ho,r⟩:=hl;exact⟨o,k2 l o ho,r⟩
 have hS:h2.get? S=some (seqObj "list" #[] 0):=by rw[e2,eS];exact VJ _ rfl
 show codeAny (model prog w) A (.builtin "max.loop" ⟨[.ref s.heap.objs.size,.none,.ref (s.heap.push {cls:=.type "list_iterator",data:=.fields #[.ref l,.int 0 0]}).objs.size],[(Str.ofString "default",.int dv dt)]⟩) _ {s with heap:=(s.heap.push {cls:=.type "list_iterator",data:=.fields #[.ref l,.int 0 0]}).push (seqObj "list" #[] 0)};rw[<-e1,<-e2,<-eS,<-eI];have W:=Walks.list (prog:=prog) (w:=w) (A:=A.in1) hh I l hI us.toArray;have hsz:us.toArray.size=ns.length:=by rw[VC,ia.length]
 have fresh:∀b o,s.heap.get? b=some o->b≠S/\b≠I:=fun b o e=>by have q:=Vz e;exact⟨by rw[UT,eI];exact VS (_p q),by rw[eI];exact VS q⟩
 refine W' Yk ?_;rw[XA WS _];show wpAny _ A.in1 (seqItems? (.ref S) >>= _) _ _ _;refine Vl (WM (s:={s with heap:=h2}) hS rfl ?_);show wpAny _ A.in1 (tryCatch (pyNext (.ref I)) _ >>= _) _ _ _;cases ia with
 |nil=>
  refine Vl (XT (W.done {s with heap:=h2} _ _ st fun h' tk hm=>?_));refine Vl (WV (Vq ?_));exact h h' tk dt fun b o e=>hm b o (by simp[(fresh b o e).2]) (k2 b o e)
 | @cons n t As Ue r=>
  refine Vl (XT (W.item 0 {s with heap:=h2} _ _ (by rw[hsz];exact Nat.succ_pos _) st fun v h' tk hP av hm=>?_));have Kp:=hm S _ (by simp[Nz]) hS;have hv:v=.int n t:=by rw[Y6]at hP;cases hP;rfl
  subst hv;show wpAny _ A.in1 (updateSeq S (fun _ => #[.int n t,.int n t]) >>= _) _ _ _;refine Vl (ZI Kp rfl ?_);rw[w!];refine Vq ⟨X7 WS _,Ny (us:=.int n t::As) (ns:=n::Ue) hh hI Nz Sy (.cons n t r) _ 1 _ n t _ rfl (by simp) (W.frame _ _ _ av fun b hb o e=>?_) (X2 _ Kp rfl) fun t' h3 tk3 hm3=>?_⟩
  .exact(Wm _ _ (fun z:S=b=>by rw[<-z]at hb;simp[Nz,Sy]at hb)).trans e
  .refine h h3 tk3 t' fun b o e=>?_;have f:=fresh b o e;exact hm3 b o f.1 f.2 ((Wm _ _ (Xi f.1)).trans (hm b o (by simp[f.2]) (k2 b o e)))
end
end SO
namespace MN
open Spec L2
open PyProof.Rows hiding St kindOf
def w?:List da->Option (_S)
 |[]=>some []
 |.inl i::r=>(w? r).map (i :: ·)
 |.inr _::_=>none
def oK:List (List da)->Option (List (_S))
 |[]=>some []
 |k::r=>match w? k,oK r with
  |some a,some b=>some (a::b)
  |_,_=>none
theorem IG:∀{k:List da}{a:_S},w? k=some a->k=iK a:=by
 intro k
 induction k with
 |nil=>intro a h;cases h;rfl
 |cons x r ih=>
  intro a h;cases x with
  |inl i=>
   replace h:(w? r).map (i :: ·)=some a:=h;cases z:w? r with
   |none=>rw[z]at h;cases h
   |some b=>
    rw[z]at h;cases h;rw[ih z];rfl
  |inr x=>cases h
theorem EN:∀{l:List (List da)}{ks:List (_S)},oK l=some ks->l=ks.map iK:=by
 intro l
 induction l with
 |nil=>intro ks h;cases h;rfl
 |cons k r ih=>
  intro ks h;unfold oK at h;cases z1:w? k with
  |none=>rw[z1]at h;cases h
  |some a=>
   cases z2:oK r with
   |none=>rw[z1,z2]at h;cases h
   |some b=>
    rw[z1,z2]at h;cases h;rw[IG z1,ih z2];rfl
theorem IH(a:_S):w? (iK a)=some a:=by
 induction a with
 |nil=>rfl
 |cons x a ih=>show(w? (iK a)).map (x :: ·)=_;rw[ih];rfl
theorem EO(ks:List (_S)):oK (ks.map iK)=some ks:=by
 induction ks with
 |nil=>rfl
 |cons k ks ih=>rw[VB];unfold oK;rw[IH,ih]
def OH(a b:_S):Bool:=!(SO.lexLt a b)
def iG(ks:List (_S)):List (_S):=ks.mergeSort OH
theorem eB(ks:List (_S)):(iG ks).Perm ks:=List.mergeSort_perm ks OH
theorem iS(nd:ks.Nodup):SO.fh (iG ks):=by
 have h1:(iG ks).Pairwise fun a b=>OH a b=true:=by
  refine List.pairwise_mergeSort (fun a b c h1 h2=>?_) (fun a b=>?_) ks
  .unfold OH at h1 h2⊢;rw[Xo]at h1 h2⊢;by_cases e1:a=b
   .rw[e1];exact h2
   .by_cases e2:b=c
    .rw[<-e2];exact h1
    .exact SO.k? (SO.qo (SO.iQ e2 h2) (SO.iQ e1 h1))
  .unfold OH;cases z:SO.lexLt a b with
   |false=>rfl
   |true=>rw[SO.k? z];rfl
 have h2:(iG ks).Nodup:=(eB ks).nodup_iff.mpr nd;refine List.Pairwise.imp (fun{a b}h=>?_) (h1.and h2);have z:SO.lexLt a b=false:=by have:=h.1;unfold OH at this;rwa [Xo]at this
 exact SO.iQ h.2 z
theorem eG(h:SO.fh ks):ks.Nodup:=List.Pairwise.imp (fun{a b}h e=>by rw[e,SO.j']at h;cases h) h
theorem qq{a b:List (_S)}(p:a.Perm b)(fa:SO.fh a)(fb:SO.fh b):a=b:=
 List.Perm.eq_of_pairwise (fun x y _ _ h1 h2=>by rw[SO.k? h1]at h2;cases h2) fa fb p
def ax(k:_S):ao:=.tup (k.map .int)
def ER(d:ao)(st:ai):cD ao:=match d with
 |.loc n=>match st[n]? with
  |some (.dT aI)=>match oK (aI.map (·.1)) with
   |some ks=>if ks.length<=sizeLine/\ks.all (fun k => !k.isEmpty)=true then .ok (.loc st.length) (st++[.lst ((iG ks).map ax)])else .bad
   |none=>.bad
  |_=>.bad
 |_=>.bad
def i7(m:ME):ME:=fun μ st=>(m μ st).bind ER
theorem AI{aI:List (List da×ao)}(h1:st[n]?=some (.dT aI))(h2:aI.map (·.1)=ks.map iK)(h3:ks.length<=sizeLine)(h4:∀k∈ks,k≠[]):
  ER (.loc n) st=.ok (.loc st.length) (st++[.lst ((iG ks).map ax)]):=by
 unfold ER;dsimp only;rw[h1];dsimp only;rw[h2,EO];dsimp only;rw[Vu ⟨h3,Wh.mpr fun k m=>by
  cases k with
  |nil=>exact absurd rfl (h4 _ m)
  |cons=>rfl⟩]
theorem ES{K:_R}{vs:List V}(p:Paired (Nw H) vs ks):aY K ρ H (ks.map ax) vs:=by
 induction p with
 |nil=>exact aY.nil
 |cons a _ ih=>
  obtain⟨b,rfl,hb⟩:=a;exact aY.cons (Rl.p9 hb (aY.ints _)) ih
section
variable{p cp:Pos}{md:ME}
theorem xa(hc:X.calm=true)(hg:Gl X x)(hm:X.mg x=none)(hv:bootBuiltins x=some (.builtin "sorted"))(ha:PE X e (tE X E md))(hn:x ≠ "__name__":=by decide)(ju:(x==("__debug__":Str))=false:=by decide)(he:starEach [e] X.env=(false,eval e X.env)::starEach [] X.env:=by rfl):PE X (.Call (.Name x p) [e] [⟨some "reverse",.Constant (.bool true) j cp,kp⟩] pos) (tE X E (i7 md)):=by
 refine PE.imp (tF (w_ hc) hg hm hv (fM ha kP he) (z9 JS De) (by rfl) hn ju (by rw[he];rfl) (by rw[he];rfl) (by rfl) (by rfl)) ?_;rintro σ H Q ⟨μ,ρ,st,rs,sr,h⟩;refine go μ ρ st rs sr h fun d a0 ρ1 H1 v e1 cb r1 h1=>?_;show EL [v] [.bl true] H1 Q;cases d with
 |loc n=>
  obtain⟨a,rfl,ha⟩:=r1.eO;unfold ER at h1;dsimp only at h1;cases hn:a0[n]? with
  |none=>rw[hn]at h1;exact h1.elim
  |some c=>
   rw[hn]at h1;cases c with
   |dT aI=>
    obtain⟨kD,hd,pr⟩:=cb.cell n _ a hn ha;dsimp only at h1;cases hk:oK (aI.map (·.1)) with
    |none=>rw[hk]at h1;exact h1.elim
    |some ks=>
     rw[hk]at h1;dsimp only at h1;by_cases hz:ks.length<=sizeLine/\ks.all (fun k => !k.isEmpty)=true
     .rw[Vu hz]at h1;refine⟨a,kD,ks,rfl,rfl,hd,by rw[<-pr.1];exact EN hk,hz.1,fun k m z=>?_,fun l vs outs hl op fo pv=>?_⟩
      .have:=Wh.mp hz.2 k m;rw[z]at this;cases this
      .have nd:ks.Nodup:=op.nodup_iff.mp (eG fo);have eo:outs=iG ks:=qq (op.trans (eB ks).symm) fo (iS nd);rw[eo]at pv;obtain⟨k1,k2,k3⟩:=iw cb (ES pv) hl;exact h1 _ _ _ k1 k2 k3
     .rw[VA hz]at h1;exact h1.elim
   |_=>exact h1.elim
 |_=>exact h1.elim
end
def iz:List ao->Option (_S)
 |[]=>some []
 |.int i::r=>(iz r).map (i :: ·)
 |_::_=>none
theorem nN:∀{us:List ao}{a:_S},iz us=some a->us=a.map ao.int:=by
 intro us
 induction us with
 |nil=>intro a h;cases h;rfl
 |cons u r ih=>
  intro a h;cases u with
  |int i=>
   replace h:(iz r).map (i :: ·)=some a:=h;cases z:iz r with
   |none=>rw[z]at h;cases h
   |some b=>rw[z]at h;cases h;rw[ih z];rfl
  |_=>cases h
theorem mI(a:_S):iz (a.map ao.int)=some a:=by
 induction a with
 |nil=>rfl
 |cons x a ih=>show(iz (a.map ao.int)).map (x :: ·)=_;rw[ih];rfl
def QW(us ws:List ao)(st:ai):cD ao:=match iz us,iz ws with
 |some a,some b=>if a≠[]/\b≠[]then .ok (.bl (!(SO.lexLt a b))) st else .bad
 |_,_=>.bad
def ET:F2
 |.int i,.int j,st=>.ok (.bl (decide (j<=i))) st
 |.tup us,.tup ws,st=>QW us ws st
 |_,_,_=>.bad
theorem NC{a b:_S}(ha:a≠[])(hb:b≠[]):ET (.tup (a.map ao.int)) (.tup (b.map ao.int)) st=.ok (.bl (!(SO.lexLt a b))) st:=by show QW _ _ _=_;unfold QW;rw[mI,mI];exact Vu ⟨ha,hb⟩
theorem aY.u?{K:_R}:∀{a:_S}{vs:List V},aY K ρ H (a.map ao.int) vs->vs=a.map V.int:=by
 intro a
 induction a with
 |nil=>intro vs h;exact h.fF
 |cons x a ih=>
  intro vs h;obtain⟨v,r,rfl,q1,q2⟩:=aY.cQ h;rw[Rl.b! q1,ih q2];rfl
theorem ND(hu:X.A.units<cLine):dq X (compareOp .GtE) (fun x y H Q=>∃a b xs ys,x=.ref a/\y=.ref b/\xs≠[]/\ys≠[]/\jB X.K H a (xs.map V.int)/\jB X.K H b (ys.map V.int)/\Q (.bl (!(SO.lexLt xs ys))) H):=by intro ag s σ H x y v u Q I rx ry h;obtain⟨a,b,xs,ys,rfl,rfl,n1,n2,ha,hb,q⟩:=h;cases rx;cases ry;obtain⟨aF,r1,p1,_⟩:=I.tuple ha;obtain⟨d?,r2,p2,_⟩:=I.tuple hb;obtain⟨o,ho,hc,n,hd⟩:=id p1;obtain⟨o2,z!,vU,m,hd2⟩:=id p2;exact SO.Nx hu ⟨n1,a,o,aF.toArray,n,rfl,ho,hc,hd,mH r1⟩ ⟨n2,b,o2,d?.toArray,m,rfl,z!,vU,hd2,mH r2⟩ ⟨.bl _,H,I,rfl,q⟩
theorem NF(hu:X.A.units+64<cLine):dq X (compareOp .GtE) (rM (wo X) E ET):=by
 refine dq.imp (dq.or Pa (ND (by lia))) ?_;rintro x y H Q ⟨ρ,st,u,w,sr,r1,r2,h⟩;cases u with
 |int i=>
  cases w with
  |int j=>exact .inl ⟨i,j,r1.b!,r2.b!,eR sr h⟩
  |_=>exact h.elim
 |tup us=>
  cases w with
  |tup ws=>
   replace h:wR (wo X) E (Rl (wo X).K) ρ H Q (QW us ws st):=h;unfold QW at h;cases z1:iz us with
   |none=>rw[z1]at h;exact h.elim
   |some a=>
    cases z2:iz ws with
    |none=>rw[z1,z2]at h;exact h.elim
    |some b=>
     rw[z1,z2]at h;dsimp only at h;by_cases hz:a≠[]/\b≠[]
     .rw[Vu hz]at h;rw[nN z1]at r1;rw[nN z2]at r2;obtain⟨p,vs,rfl,hp,rp⟩:=r1.gu;obtain⟨p2,UI,rfl,R4,rp2⟩:=r2.gu;rw[aY.u? rp]at hp;rw[aY.u? rp2]at R4;exact .inr ⟨p,p2,a,b,rfl,rfl,hz.1,hz.2,hp,R4,eR sr h⟩
     .rw[VA hz]at h;exact h.elim
  |_=>exact h.elim
 |_=>exact h.elim
section
theorem yR(hc:X.calm=true):yQ X (.builtin "max") ["default"] (fun xs zs H Q=>∃(a:_Z)(ns:_S)(dv:Int),xs=[.ref a]/\zs=[.int dv]/\nr X.K H a (ns.map V.int)/\Q (.int (SO.maxD dv ns)) H):=by intro ag s σ H xs zs us ws Q I rx rz h;obtain⟨a,ns,dv,rfl,rfl,ha,q⟩:=h;obtain⟨u,rfl,r1⟩:=vals1 rx;obtain⟨z,rfl,r2⟩:=vals1 rz;cases r1;obtain⟨t,rfl⟩:=r2;obtain⟨aF,r,p,_⟩:=I.list ha;exact SO.EM (I.ok.hd hc) p.isList (mH r) fun h' tk t' k=>⟨.int _,H,I.kept k,⟨t',rfl⟩,q⟩
def EU(v d:ao)(st:ai):cD ao:=match v,d with
 |.loc n,.int dv=>match aq st n with
  |some us=>match iz us with
   |some ns=>.ok (.int (SO.maxD dv ns)) st
   |none=>.bad
  |none=>.bad
 |_,_=>.bad
def xb(m md:ME):ME:=fun μ st=>(m μ st).bind fun v a0=>(md μ a0).bind fun d cE=>EU v d cE
theorem II{dv:Int}(h:aq st n=some (ns.map ao.int)):EU (.loc n) (.int dv) st=.ok (.int (SO.maxD dv ns)) st:=by unfold EU;dsimp only;rw[h];dsimp only;rw[mI]
variable{p:Pos}{ed:Expr}{md:ME}
theorem IJ(hc:X.calm=true)(hg:Gl X x)(hm:X.mg x=none)(hv:bootBuiltins x=some (.builtin "max"))(ha:PE X e (tE X E m))(hd:PE X ed (tE X E md))(hn:x ≠ "__name__":=by decide)(ju:(x==("__debug__":Str))=false:=by decide)(he:starEach [e] X.env=(false,eval e X.env)::starEach [] X.env:=by rfl):PE X (.Call (.Name x p) [e] [⟨some "default",ed,kp⟩] pos) (tE X E (xb m md)):=by
 refine PE.imp (tF (yR hc) hg hm hv (fM ha kP he) (z9 hd De) (by rfl) hn ju (by rw[he];rfl) (by rw[he];rfl) (by rfl) (by rfl)) ?_;rintro σ H Q ⟨μ,ρ,st,rs,sr,h⟩;refine go μ ρ st rs sr h fun u a0 ρ1 H1 v e1 cb r1 h1=>?_;refine go μ ρ1 a0 (rs.mono e1) cb h1 fun d cE ρ2 H2 z e2 lZ r2 h2=>?_;have r1':=Rl.mono e2 _ _ r1;cases u with
 |loc n=>
  cases d with
  |int dv=>
   unfold EU at h2;dsimp only at h2;cases hn:aq cE n with
   |none=>rw[hn]at h2;exact h2.elim
   |some us=>
    rw[hn]at h2;dsimp only at h2;cases hk:iz us with
    |none=>rw[hk]at h2;exact h2.elim
    |some ns=>
     rw[hk]at h2;obtain⟨a,rfl,ha⟩:=r1'.eO;obtain⟨vs,h3,rv⟩:=bp lZ hn ha;rw[nN hk]at rv;rw[aY.u? rv]at h3;exact⟨a,ns,dv,rfl,by rw[r2.b!],h3,de lZ h2⟩
  |_=>exact h2.elim
 |_=>exact h2.elim
end
end MN
namespace PM
open Spec L2 MN
open PyProof.Rows hiding St
def cW:FN:=gC 2 2 (aP (xb (bz 2 [1] (bJ (ae 0)) (bX [(au 0),(au 1)]) aV (ak cw (ae 0) (ae 2))) (jI (mC (.int 1)))))
def cS:FN:=gC 3 3 (aP (ak a8 (ak a8 (mw (ae 0) dP (dy (ae 1))) (cq (aa (ae 2) aj))) (mw (ae 0) (dy (ak a8 (ae 1) (mC (.int 1)))) dP)))
noncomputable def bh:FN:=gC 2 4 (aB (aG 2 (mC (.int 0))) (aB (fw (bO (ak ltV (ae 1) (ah fe (aa (ae 0) aj)))) (aG 2 (ak cw (ae 0) (ae 1))) aX) (aB (aG 3 (ak dJ (ak cu (ak a8 (ak dJ (ae 2) (mC (.int 2147483629))) (ak cu (mC (.int 7919)) (ak a8 (ae 1) (mC (.int 1))))) (mC (.int 48271))) (mC (.int 2147483647)))) (aB (aG 3 (ak dJ (ak cu (ak dJ (ak cu (ae 3) (ae 3)) (mC (.int 2147483629))) (mC (.int 69621))) (mC (.int 2147483647)))) (aP (ak a8 (ak cu (ak a8 (ak cu (ak gv (ae 2) (mC (.int 2147483629))) (mC (.int 2147483647))) (ae 3)) (mC (.int 2147483629))) (ak dJ (ak cu (ae 3) (ae 3)) (mC (.int 2147483629)))))))))
def dI:FN:=gC 2 3 (aB (aG 2 (ak dJ (ak cu (ak a8 (ak a8 (ak dJ (ae 0) (mC (.int 1000000007))) (ak cu (mC (.int 7919)) (ae 1))) (mC (.int 11))) (mC (.int 48271))) (mC (.int 2147483647)))) (aP (ak dJ (ak cu (ae 2) (ak a8 (ak dJ (ak gv (ae 2) (mC (.int 7))) (mC (.int 65536))) (mC (.int 3)))) (mC (.int 2147483647)))))
noncomputable def bK:FN:=gC 2 2 (aB (fw (bO (ak fZ (ae 1) (mC (.int 0)))) (aP (ak jH (ak dJ (ae 0) (mC (.int 7))) (mC (.int 3)))) aX) (aB (fw (bO (ak fZ (ae 1) (mC (.int 1)))) (aP (ak jH (ak dJ (ae 0) (mC (.int 199))) (mC (.int 99)))) aX) (aP (ak jH (ak dJ (ak cu (ak cu (ae 0) (ae 0)) (mC (.int 69621))) (ak a8 (ak cu (mC (.int 2)) (ak DS (mC (.int 10)) (mC (.int 20)))) (mC (.int 1)))) (ak DS (mC (.int 10)) (mC (.int 20)))))))
def c7:FN:=gC 1 4 (aB (aG 1 jM) (aB (dM (bJ (ae 0)) (bX [(au 2),(au 3)]) (k4 (ae 1) (ae 2) (ak a8 (i4 (ae 1) (ae 2) (mC (.int 0))) (ae 3)))) (aP (bz 1 [1] (bJ (i7 (ae 1))) (au 0) (bO (ak jJ (ak gQ (ae 1) (ae 0)) (mC (.int 0)))) (cq (aa (ae 0) (aa (ak gQ (ae 1) (ae 0)) aj)))))))
def aQ:FN:=gC 2 5 (aB (aG 2 (jI (mC (.int 1)))) (aB (dM (bJ (ae 0)) (bX [(au 3),(au 4)]) (aG 2 (ah u3 (aa (ae 2) (aa (ak cw (ae 3) (ae 1)) aj))))) (aP (ae 2))))
def ke:FN:=gC 3 3 (aP (bz 2 [2,1] (bJ (ae 0)) (bX [(au 0),(au 1)]) (bO (ak fZ (ak cw (ae 0) (ae 3)) (ae 2))) (cq (aa (ah PM.cS (aa (ae 0) (aa (ae 3) (aa (mC (.int 0)) aj)))) (aa (ae 1) aj)))))
def dY:FN:=gC 5 8 (aB (aG 5 (bW aj)) (aB (dM (cA (aa (ae 2) aj)) (au 6) (aB (aG 7 (ah gW (aa (bz 1 [0,6,3] (cA (aa (ae 1) aj)) (au 0) aV (ak dJ (ah PM.dI (aa (ae 1) (aa (ak a8 (ak cu (mC (.int 5)) (ae 2)) (ae 0)) aj))) (ak a8 (ae 3) (mC (.int 1))))) aj))) (cO (iP dS (ae 5) (aa (cq (aa (ae 7) (aa (ah PM.bK (aa (ah PM.dI (aa (ae 0) (aa (ak a8 (ak cu (mC (.int 5)) (ae 6)) (mC (.int 4))) aj))) (aa (ae 4) aj))) aj))) aj))))) (aP (ah PM.c7 (aa (ae 5) aj)))))
def cC:FN:=gC 2 5 (aB (fw (cN (bO (x_ "list" (ae 0)))) (aP (mC (.bl false))) aX) (aB (aG 2 (mC .dc)) (aB (dM (bJ (ae 0)) (au 3) (aB (fw (gE (cN (bO (x_ "tuple" (ae 3)))) (gE (bO (ak jJ (ah fe (aa (ae 3) aj)) (mC (.int 2)))) (gE (cN (bO (x_ "tuple" (ak cw (ae 3) (mC (.int 0)))))) (bO (ak jJ (ah fe (aa (ak cw (ae 3) (mC (.int 0))) aj)) (ae 1)))))) (aP (mC (.bl false))) aX) (aB (dM (bJ (ak cw (ae 3) (mC (.int 0)))) (au 4) (fw (gE (cN (bO (ah PM.fH (aa (ae 4) aj)))) (bO (ak ltV (ae 4) (mC (.int 0))))) (aP (mC (.bl false))) aX)) (aB (fw (gE (cN (bO (ah PM.fH (aa (ak cw (ae 3) (mC (.int 1))) aj)))) (gE (bO (ak fZ (ak cw (ae 3) (mC (.int 1))) (mC (.int 0)))) (Al (bO (ak (Sj true) (ae 2) (mC .dc))) (bO (ak ET (ak cw (ae 3) (mC (.int 0))) (ae 2)))))) (aP (mC (.bl false))) aX) (aG 2 (ak cw (ae 3) (mC (.int 0)))))))) (aP (mC (.bl true))))))
def h_:FN:=gC 2 6 (aB (aG 2 (ah PM.aQ (aa (ae 0) (aa (ae 1) aj)))) (aB (aG 3 (bW aj)) (aB (dM (bJ (ae 0)) (bX [(au 4),(au 5)]) (fw (bO (ak fZ (ak cw (ae 4) (ae 1)) (ae 2))) (cO (iP dS (ae 3) (aa (cq (aa (ak a8 (ak a8 (mw (ae 4) dP (dy (ae 1))) (cq (aa (mC (.int 0)) aj))) (mw (ae 4) (dy (ak a8 (ae 1) (mC (.int 1)))) dP)) (aa (ae 5) aj))) aj))) aX)) (aP (ae 3)))))
def gk:FN:=gC 2 2 (aP (ah PM.ke (aa (ae 0) (aa (ae 1) (aa (ah PM.cW (aa (ae 0) (aa (ae 1) aj))) aj)))))
def jS:FN:=gC 3 3 (k4 (ae 0) (ae 1) (ak a8 (i4 (ae 0) (ae 1) (mC (.int 0))) (ae 2)))
def bM:FN:=gC 3 3 (aP (l_ (ah PM.fR (aa (ae 0) aj)) (uT Qh Qh (ae 1) (ae 0) (ae 2))))
def cY:FN:=gC 2 3 (aB (aG 2 (bz 2 [0] (bJ (ae 1)) (bX [(au 0),(au 1)]) aV (cq (aa (ae 0) (aa (ah PM.bL (aa (ae 2) (aa (ae 1) aj))) aj))))) (aP (bz 1 [] (bJ (ae 2)) (au 0) (bO (ak jJ (ak cw (ae 0) (mC (.int 1))) (mC (.int 0)))) (ae 0))))
def c_:FN:=gC 1 1 (fw (cN (bO (ah PM.bM (aa (ae 0) (aa (mC (.int 1)) (aa (mC (.int 4)) aj)))))) (kW "NoUnknowns" (aa (mC (.str "a count of unknowns is a whole number from 1 to 4")) aj)) aX)
def cZ:FN:=gC 2 2 (aP (ah PM.cY (aa (ae 0) (aa (bz 1 [1] (bJ (i7 (ae 1))) (au 0) aV (cq (aa (ae 0) (aa (ak gQ (ae 1) (ae 0)) aj)))) aj))))
end PM
namespace DL
section
variable{E:_O}{s:_Y}
theorem IK:typeLookup (.type "list") "keys" = pure none:=by
 rw[typeLookup_type,builtinLookup_eq_fast]
 kernel_rfl
theorem Ca{o:Obj}{xs:Array _X}{k:Nat}{Q:_U->_Y->Prop}(hx:s.heap.get? a=some o)(hc:o.cls=.type "list")(xc:o.data=.seq xs k)(hd:o.dict=none)(hA:A.handled=none)(h:∀h' tk,(∀b u,s.heap.get? b=some u->h'.get? b=some u)->Q none {s with heap:=h',toks:=tk}):wpAny (model prog w) A (getAttr? (.ref a) "keys") Q E s:=by
 obtain⟨c,dct,dat,sl⟩:=o;simp only at hc xc hd;subst hc xc hd;obtain⟨hp,g,d,tk,os⟩:=s;have hT:∀SA,(⟨hp,g,d,SA,os⟩:_Y).TypeIs (.ref a) "list":=fun _=>⟨_,hx,rfl⟩
 have q1:=sub_AttributeError;have q3:=Yt.lookup;have q4:=Yt.bind (.ref a);have q5:=am_list_getattr_none;unfold getAttr? getAttrBy? getAttrBy
 repeat (any_goals (first|assumption|exact hT _|((with_reducible show wpAny _ _ (call (Value.builtin "list.__getattribute__") _ _) _ _ _);refine X4 Yt (hT _) am_entry_list_getattribute (F.args_list_getattribute_2 _ _) (meets_getattribute_miss_list a xs k sl "keys" _ IK (by decide) (by size_fits)) ⟨hx,hA,fun h' SA e OG=>?_⟩)|wp_step))
 obtain⟨t',u',he⟩:=OG.there;show wpAny _ _ (getattributeRaised _ _ _ _ _ _ _) _ _ _;unfold getattributeRaised
 repeat (any_goals (first|assumption|wp_step))
 exact h _ _ OG.keeps
def nO{K:Type}[DecidableEq K](knd:KeyKind prog w K)(h:Heap)(u:_X)(q:List K×_Z×_X):Prop:=
 ∃a o aF n,u=.ref a/\h.get? a=some o/\o.cls=.type "tuple" /\ o.data=.seq aF n/\aF.toList=[.ref q.2.1,q.2.2]/\(tupleKind knd).is h q.1 q.2.1
def Keeps(h h':Heap):Prop:=∀b u,h.get? b=some u->h'.get? b=some u
variable{K:Type}[DecidableEq K]{knd:KeyKind prog w K}
theorem EV{k:List K}(x:(tupleKind knd).is h k a)(hk:Keeps h h'):(tupleKind knd).is h' k a:=by obtain⟨o,aF,n,h1,r⟩:=x;exact⟨o,aF,n,hk _ _ h1,r⟩
theorem nO.mono{u:_X}{q:List K×_Z×_X}(x:nO knd h u q)(hk:Keeps h h'):nO knd h' u q:=by obtain⟨a,o,aF,n,e,h1,h2,h3,h4,h5⟩:=x;exact⟨a,o,aF,n,e,hk _ _ h1,h2,h3,h4,EV h5 hk⟩
def putAll(qs:List (List K×_Z×_X)):List (List K×_Z×_X)->List (List K×_Z×_X):=fun xs=>qs.foldl (fun xs q=>storedH xs q.1 q.2.1 q.2.2) xs
theorem nP{d it:_Z}{xs:List (List K×_Z×_X)}(x:h.DictOfH (tupleKind knd) d xs)(hk:∀b u,b≠it->h.get? b=some u->h'.get? b=some u)(hd:d≠it)(hi:∀u,h.get? it=some u->u.cls≠.type "tuple"):h'.DictOfH (tupleKind knd) d xs:=by obtain⟨o,es,ep,ho,a1,a2,a3,a4,a5⟩:=x;refine⟨o,es,ep,hk _ _ hd ho,a1,a2,a3,fun y hy=>?_,a5⟩;obtain⟨o,aF,n,h1,h2,r⟩:=a4 y hy;exact⟨o,aF,n,hk _ _ (fun z=>hi o (by rw[<-z];exact h1) h2) h1,h2,r⟩
theorem yS(xs:List (List K×_Z×_X))(q:List K×_Z×_X):(storedH xs q.1 q.2.1 q.2.2).length<=xs.length+1:=by
 unfold storedH;split
 .rw[Vm];lia
 .rw[Vr];exact Vo _
theorem qr:entryFor table "dict.update.loop" = some Builtin.«dict.update.loop»:=entryFor_of_tree (by kernel_rfl)
theorem i8:plainId "dict.update.loop" = true:=by decide +kernel
theorem QX{B:Heap}{l d it:_Z}{R:Result->_Y->Prop}(hh:A.in1.handled=none)(hu:A.in1.units<cLine)(hl:B.IsList l items)(hd:B.get? d=none)(hi:B.get? it=none)(UU:d≠it):∀(qs:List (List K×_Z×_X))(j:Nat)(xs:List (List K×_Z×_X))(s:_Y),j+qs.length=items.size->(∀i q,qs[i]?=some q->∃u,items[j+i]?=some u/\nO knd B u q)->Keeps B s.heap->s.heap.IsListIter it l j->s.heap.DictOfH (tupleKind knd) d xs->xs.length+qs.length<=sizeLine ->
  (∀h' tk,Keeps B h'->h'.DictOfH (tupleKind knd) d (putAll qs xs)->R (.ok (.ret .none)) {s with heap:=h',toks:=tk}) ->
  codeAny (model prog w) A (.builtin "dict.update.loop" ⟨[.ref d,.ref it,rawInt (j:Int),.none],[]⟩) R s:=by
 have keep:∀{h h':Heap}{x:_Z},Keeps B h->B.get? x=none->Heap.SameBut x h h'->Keeps B h':=fun hk hx hs b u e=>(hs.2 b (fun z=>by rw[z,hx]at e;cases e)).trans (hk b u e);intro qs
 induction qs with
 |nil=>
  intro j xs s hj hq hk hit UW hz hR;refine W' qr ?_;rw[XA i8 _];show wpAny _ A.in1 (pyNext (.ref it) >>= _) _ _ s;obtain⟨ol,UX,UY⟩:=id hl;refine Vl (_D hh hit ⟨ol,hk _ _ UX,UY⟩ (Array.getElem?_eq_none (by simp at hj;lia)) fun h' hx=>?_);refine Vl (Vq (Vq (hR h' s.toks (fun b u e=>hx b u (fun z=>by rw[z,hi]at e;cases e) (hk b u e)) ?_)));obtain⟨oi,i1,i2,_⟩:=hit;exact nP UW hx UU fun u e z=>by rw[i1]at e;cases e;rw[i2]at z;exact absurd (Z4 z) (by decide)
 |cons q qs ih=>
  intro j xs s hj hq hk hit UW hz hR;obtain⟨u,hu0,hp⟩:=hq 0 q rfl;refine W' qr ?_;rw[XA i8 _];show wpAny _ A.in1 (pyNext (.ref it) >>= _) _ _ s;obtain⟨ol,UX,UY⟩:=id hl;refine Vl (_t hit ⟨ol,hk _ _ UX,UY⟩ hu0 fun h1 UZ d_=>?_);have k1:Keeps B h1:=keep hk hi d_;obtain⟨a,o,aF,n,rfl,g1,g2,g3,g4,g5⟩:=hp.mono k1;have d1:h1.DictOfH (tupleKind knd) d xs:=nP UW (fun b u hb e=>(d_.2 b hb).trans e) UU fun u e z=>by obtain⟨oi,i1,i2,_⟩:=hit;rw[i1]at e;cases e;rw[i2]at z;exact absurd (Z4 z) (by decide)
  dsimp only;refine Vl (W4 (Vl (XT ?_)));unfold Builtin.Dict.pairItems;refine Vl (Zo (T:="tuple") ⟨o,g1,g2⟩ ?_);rw[Vu (by decide)];refine Vl (WM g1 g3 ?_);refine Vq ?_;show wpAny _ _ (match aF.toList with|[k,v]=>_|l=>_) _ _ _;rw[g4];dsimp only;refine W4 (wpAny_dictSet_heap (hsz:=by simp at hz;lia) hu g5 d1 fun h2 d2 eV=>?_);have k2:Keeps B h2:=keep k1 hd eV;refine Vq ⟨X7 i8 _,?_⟩;have U0:h2.IsListIter it l (j+1):=by obtain⟨oi,i1,r⟩:=UZ;exact⟨oi,(eV.2 it (Xi UU)).trans i1,r⟩
  have:=ih (j+1) _ {s with heap:=h2,toks:=s.toks+(tupleKind knd).draws q.1} (by simp at hj;lia) (fun i q' e=>by
   have:=hq (i+1) q' e;rwa [show j+(i+1)=j+1+i by lia]at this) k2 U0 d2 (by have:=yS xs q;simp at hz;lia) fun h' tk a b=>hR h' tk a b
  exact this
theorem QY{l:_Z}{o:Obj}{qs:List (List K×_Z×_X)}(hh:A.handled=none)(hu:A.units+2<cLine)(ho:s.heap.get? l=some o)(hc:o.cls=.type "list")(xc:o.data=.seq items n)(U1:o.dict=none)(hq:∀(i:Nat)q,qs[i]?=some q->∃u,items[i]?=some u/\nO knd s.heap u q)(hlen:qs.length=items.size)(hz:qs.length<=sizeLine)(h:∀h' tk,Keeps s.heap h'->h'.DictOfH (tupleKind knd) s.heap.objs.size (putAll qs [])->Q (.ref s.heap.objs.size) {s with heap:=h',toks:=tk}):wpAny (model prog w) A (call (.type "dict") [.ref l]) Q E s:=by
 refine callType_codes (Q₁:=fun obj s₁=>obj=.ref s.heap.objs.size/\s₁ = {s with heap:=s.heap.push {cls:=.type "dict",data:=.dict #[]} }) F.kt_called_dict (F.kt_typeCall_dict_1 _) F.entry_dict_init (kt_code_dict_new _ ⟨rfl,rfl⟩) ?_;rintro obj s₁ ⟨rfl,rfl⟩;obtain⟨h0,e0⟩:∃h0,h0=s.heap.push {cls:=.type "dict",data:=.dict #[]}:=⟨_,rfl⟩
 have new:h0.DictOfH (tupleKind knd) s.heap.objs.size []:=by rw[e0];exact Heap.DictOfH.new s.heap
 have k0:Keeps s.heap h0:=fun b u e=>by rw[e0];exact Vn _ e
 have T:({s with heap:=h0}:_Y).TypeIs (.ref s.heap.objs.size) "dict":=Heap.DictOfH.typeIs (s:={s with heap:=h0}) new;rw[<-e0];refine⟨T,F.args_dict_init_2 _ _,?_⟩;unfold Builtin.«dict.__init__»;refine Vl ?_;unfold Builtin.Dict.selfAndRest;refine Vl (_E T ?_);show wpAny _ _ (pure (s.heap.objs.size,[Value.ref l])) _ _ _;refine Vq ?_;show wpAny _ _ (Builtin.Dict.updateFrom "dict.__init__" s.heap.objs.size (.ref l) [] .none) _ _ _;unfold Builtin.Dict.updateFrom;refine Vl (Zo (T:="list") ⟨o,k0 _ _ ho,hc⟩ ?_);rw[Vu (by decide)];refine Vl (Ca (s:={s with heap:=h0}) (k0 _ _ ho) hc xc U1 hh fun h1 tk k1=>?_);rw[Vu (show(none:_U).isNone=true from rfl)];refine Vl (WV ?_);have hl:s.heap.IsList l items:=⟨o,ho,hc,n,xc⟩
 have U2:Keeps s.heap h1:=fun b u e=>k1 b u (k0 b u e);refine Vl (XU (s:={s with heap:=h1,toks:=tk}) (items:=items) ⟨o,U2 _ _ ho,hc,n,xc⟩ ?_);have fresh:s.heap.get? h1.objs.size=none:=by
  cases z:s.heap.get? h1.objs.size with
  |none=>rfl
  |some u=>exact absurd (Vz (U2 _ _ z)) (Wc _)
 have lt:s.heap.objs.size<h1.objs.size:=by obtain⟨q,_,_,hq,_⟩:=new;exact Vz (k1 _ _ hq)
 refine Vq ⟨X7 i8 _,?_⟩;obtain⟨h2,e2⟩:∃h2,h2=h1.push {cls:=.type "list_iterator",data:=.fields #[.ref l,.int 0 0]}:=⟨_,rfl⟩
 have k2:∀b u,h1.get? b=some u->h2.get? b=some u:=fun b u e=>by rw[e2];exact Vn _ e
 have n0:∀u,h0.get? h1.objs.size=some u->u.cls≠.type "tuple":=fun u e=>absurd (Vz (k1 _ _ e)) (Wc _);have:=QX (knd:=knd) (A:=A.in1) (B:=s.heap) (l:=l) (d:=s.heap.objs.size) (it:=h1.objs.size) (items:=items) (R:=wants (fun r s₂=>r=.none/\Q (.ref s.heap.objs.size) s₂) E) hh hu hl (Heap.get?_none_of_le (Vo _)) fresh (VS lt)
  qs 0 [] {s with heap:=h2,toks:=tk} (by lia) (fun i q e=>by rw[V1];exact hq i q e) (fun b u e=>k2 b u (U2 b u e)) ⟨_,by rw[e2];exact VJ _ rfl,rfl,rfl⟩ (nP new (fun b u _ e=>k2 b u (k1 b u e)) (VS lt) n0) (by simpa using hz) (fun h' SA a b=>⟨rfl,h h' SA a b⟩)
 rw[e2]at this;exact this
end
end DL
namespace L2
open Spec PyProof.Rows
def U3(H:Hp)(v:V)(q:List da×V):Prop:=∃b c,v=.ref b/\H b=some (.tup [.ref c,q.2])/\H c=some (.tup (q.1.map kV))
def putL(lg aI:List (List da×V)):List (List da×V):=lg.foldl (fun a q=>putK a q.1 q.2) aI
def NG(K:_R):List V->Hp->VK->Prop:=fun xs H Q=>∃a vs lg,xs=[.ref a]/\nr K H a vs/\Paired (U3 H) vs lg/\∀p,H p=none->Q (.ref p) (upd H p (.dT (putL lg [])))
theorem NH{lg:List (List da×V)}{qs:List (List da×_Z×_X)}(h:KT H lg qs):∀{aI:List (List da×V)}{xs:List (List da×_Z×_X)},KT H aI xs->KT H (putL lg aI) (DL.putAll qs xs):=by
 induction h with
 |nil=>exact fun r=>r
 | @cons p q ps qs a _ ih=>
  intro aI xs r;have:=r.put p.1 a.2.1 a.2.2;rw[a.1]at this;exact ih (show KT H (putK aI p.1 p.2) (storedH xs q.1 q.2.1 q.2.2)from by rw[a.1];exact this)
theorem xf:∀(lg aI:List (List da×V)),(putL lg aI).length<=aI.length+lg.length
 |[],aI=>Vo _
 |p::ps,aI=>by have h1:=xf ps (putK aI p.1 p.2);have h2:=jG aI p.1 p.2;show(putL ps (putK aI p.1 p.2)).length<=_;rw[Vt];lia
theorem yT(hh:X.A.handled=none)(hu:X.A.units+64<cLine):cm X (.type "dict") (NG X.K):=by
 intro ag s σ H xs us Q I rx h;obtain⟨a,vs,lg,rfl,hs,pr,q⟩:=h;obtain⟨u,rfl,r1⟩:=vals1 rx;cases r1;obtain⟨aF,rv,⟨o,n,ho,hc,U1,xc⟩,hz⟩:=I.list hs;have key:∀{vs:List V}{lg:List (List da×V)}{aF:_T},Paired (U3 H) vs lg->bf vs aF->∃qs:List (List da×_Z×_X),qs.length=aF.length/\KT H lg qs/\∀(i:Nat)q,qs[i]?=some q->∃u,aF[i]?=some u/\DL.nO (dk X.prog X.w) s.heap u q:=by
  intro vs lg aF p
  induction p generalizing aF with
  |nil=>
   intro v;cases v;exact⟨[],rfl,.nil,fun i q e=>by cases e⟩
  | @cons x y xs ys b _ ih=>
   intro v;cases v with
   |cons v1 v2=>
    obtain⟨qs,l,k,al⟩:=ih v2;obtain⟨b,c,rfl,hb,OW⟩:=b;cases v1;obtain⟨_,it2,Ou,o2,g1,g2,n2,g3⟩:=(show ck X.prog X.w H s.heap b (.tup [.ref c,y.2])from I.bN b _ hb)
    obtain⟨w1,w2,rfl,z1,z2⟩:=vals2 Ou;cases z1;refine⟨(y.1,c,w2)::qs,by rw[Vt,Vt,l],.cons ⟨rfl,OW,z2⟩ k,fun i q e=>?_⟩;cases i with
    |zero=>
     cases e;exact⟨_,rfl,b,o2,_,n2,rfl,g1,g2,g3,rfl,pX I.bN OW⟩
    |succ i=>exact al i q e
 obtain⟨qs,ql,kt,al⟩:=key pr rv;have lv:vs.length=aF.length:=rv.length;have lp:lg.length=qs.length:=Zd kt;refine DL.QY (knd:=dk X.prog X.w) (qs:=qs) hh (by lia) ho hc xc U1 (fun i q e=>?_) (by rw[ql,VC]) (by lia) fun h' tk kp dd=>?_
 .obtain⟨u,e1,e2⟩:=al i q e;exact⟨u,by rw[Y6];exact e1,e2⟩
 .have hp:H s.heap.objs.size=none:=I.bN.fresh (Vo _);obtain⟨ob,es,ep,b1,b2,b3,b4,_,b5⟩:=dd;have hl:=xf lg [];refine⟨.ref s.heap.objs.size,_,I.laid (t':=tk) kp (Vo _) (show ck X.prog X.w _ h' _ (.dT (putL lg [])) from⟨by simp at hl;lia,V9.mpr (Xi (VS I.big)),_,(NH kt .nil).keeps fun c ys ec=>?_,ob,es,ep,b1,b2,b3,b4,b5⟩),rfl,q _ hp⟩;rw[aH (fun z=>by rw[z,hp]at ec;cases ec)];exact ec
end L2
namespace MN
open Spec L2
open PyProof.Rows hiding St
def Cb:List ao->Option (List (List da×ao))
 |[]=>some []
 |.tup [k,v]::r=>match jL k,Cb r with
  |some q,some l=>some ((q,v)::l)
  |_,_=>none
 |_=>none
def putAll(l:List (List da×ao))(a:List (List da×ao)):List (List da×ao):=l.foldl (fun a q=>uW a q.1 q.2) a
def xg:FN
 |[.loc n],st=>match aq st n with
  |some us=>match Cb us with
   |some l=>.ok (.loc st.length) (st++[.dT (putAll l [])])
   |none=>.bad
  |none=>.bad
 |_,_=>.bad
section
variable{K:_R}
theorem AJ:∀{us:List ao}{vs:List V}{l:List (List da×ao)},aY K ρ H us vs->Cb us=some l->∃lg,Paired (U3 H) vs lg/\gD K ρ H l lg
 |[],vs,l,r,h=>by cases h;rw[r.fF];exact⟨[],.nil,gD.nil⟩
 |u::us,vs,l,r,h=>by
  obtain⟨v,yw,rfl,r1,r2⟩:=r.cQ;unfold Cb at h;split at h
  .rename_i e;cases e
  .rename_i k x As e;cases e;split at h
   .rename_i q l' e1 e2;cases h;obtain⟨lg,p1,p2⟩:=AJ r2 e2;obtain⟨b,zs,rfl,hb,rb⟩:=r1.LX;obtain⟨z1,z2,rfl,rk,rx⟩:=rb.Ow;obtain⟨c,rfl,hc⟩:=qf rk e1;exact⟨(q,z2)::lg,.cons ⟨b,c,rfl,hb,hc⟩ p1,gD.cons rx p2⟩
   .cases h
  .cases h
theorem AK:∀{l:List (List da×ao)}{lg:List (List da×V)}{a:List (List da×ao)}{b:List (List da×V)},gD K ρ H l lg->gD K ρ H a b->gD K ρ H (putAll l a) (putL lg b)
 |[],lg,a,b,p,r=>by rw[p.fF];exact r
 |(k,u)::l,lg,a,b,p,r=>by obtain⟨v,l',rfl,r',p'⟩:=p.cQ;show gD K ρ H (putAll l (uW a k u)) (putL l' (putK b k v));exact AK p' (r.put k r')
end
theorem Cc(hh:X.A.handled=none)(hu:X.A.units+64<cLine):cm X (.type "dict") (cM (wo X) E xg):=by
 refine cm.imp (yT hh hu) ?_;rintro xs H Q ⟨ρ,st,us,sr,r,h⟩;unfold xg at h;split at h
 .rename_i n;obtain⟨v,rfl,r1⟩:=r.yr;obtain⟨a,rfl,ha⟩:=r1.eO;split at h
  .rename_i ws e;split at h
   .rename_i l hl;obtain⟨vs,hs,rv⟩:=bp sr e ha;obtain⟨lg,p1,p2⟩:=AJ rv hl;refine⟨a,vs,lg,rfl,hs,p1,fun p hp=>?_⟩;have s:=dH (o:=.dT (putL lg [])) hp;obtain⟨k1,k2,k3⟩:=wG sr hp (c:=.dT (putAll l [])) ⟨_,bu,(AK p2 gD.nil).mono (aD.snoc p s)⟩;exact h _ _ _ k1 k2 k3
   .exact h.elim
  .exact h.elim
 .exact h.elim
end MN
namespace DL
open PyProof.Rows
theorem Cd:fillsNumberSlot (.type "tuple") "mul" = pure false:=
 PySem.fillsNumberSlot_seq (id:="tuple.__mul__") (r:=some (.builtin "tuple.__rmul__")) ZL.lookup (by decide +kernel) ZC.lookup (by decide +kernel)
theorem IL:seqRepeat? (.type "tuple")=pure (some (.builtin "tuple.__mul__")):=by unfold seqRepeat?;rw[_x (name:="__mul__") (id:="tuple.__mul__") ZL.lookup (by decide +kernel),_x (name:="__rmul__") (id:="tuple.__rmul__") ZC.lookup (by decide +kernel)];rfl
theorem EW(k:Int)(t:Tok)(a:_Z)(items:Array _X)(n:Nat)(dd:Option _Z)(sl:Array (_U)):
  Meets (Builtin.«int.__rmul__» ⟨[.int k t,.ref a],[]⟩) (fun _ R s=>s.heap.get? a=some {cls:=.type "tuple",dict:=dd,data:=.seq items n,slots:=sl}/\R (.ok (.ret Value.notImplemented)) s):=
 .of_wp fun prog w A R s h=>by
  obtain⟨hp,g,d,tk,os⟩:=s;obtain⟨hl,h⟩:=h
  wp_walk
  exact⟨_,rfl,h⟩
section
variable{E:_O}{s:_Y}
theorem U4{k:Int}{t:Tok}{Q:Int->_Y->Prop}(q:Q k s):wpAny (model prog w) A (asIndex (.int k t)) Q E s:=by unfold asIndex;refine Vl (m:=asInt? (.int k t)) (Vq ?_);exact Vq q
theorem IM{k:Int}{t:Tok}{o:Obj}{P:PySem.Fin->_Y->Prop}(ho:s.heap.get? a=some o)(hc:o.cls=.type "tuple")(hd:o.data=.seq items n)(h1:1<=k)(h2:k<2 ^ 63)(Iw:items.isEmpty=false)(hz:items.size*k.toNat<=sizeLine){new:Array _X}(Dl:(List.replicate k.toNat items).foldl (· ++ ·) #[]=new)(Gm:new.size<=sizeLine)(q1:k=1->P (.done (.ret (.ref a))) s)(h:k≠1->P (.done (.ret (.ref s.heap.objs.size))) {s with heap:=s.heap.push {cls:=.type "tuple",data:=.seq new 0} }):
  wpAny (model prog w) A (Builtin.«tuple.__mul__» ⟨[.ref a,.int k t],[]⟩) P E s:=by
 unfold Builtin.«tuple.__mul__»;refine Vl (m:=asIndex (.int k t)) (U4 ?_);dsimp only;rw[VA (by simp only[Zm,WA];lia)];refine Vl (Zg ho hd ?_);rw[Iw];have e:((items.size:Int)*k)=((items.size*k.toNat:Nat):Int):=by rw[Int.natCast_mul,Int.toNat_of_nonneg (by lia)]
 by_cases c:k=1
 .rw[Vu (by rw[c];rfl)];refine Vl ?_;unfold Builtin.Tuple.tupleIsExact;refine Vl (Zo (T:="tuple") ⟨o,ho,hc⟩ (Vq ?_));rw[Vu (by decide)];exact Vl (WV (Vq (q1 c)))
 .rw[VA (by simp only[XS,Wr];exact c),VA (by simp only[Bool.or_false,WA];lia),e];rw[VA (by rw[VT]at hz;lia),VA (by unfold Builtin.Tuple.tupleTooMany;simp only[WA];lia)];unfold Builtin.Tuple.tupleExact;rw[Dl];exact Vl (Wn (Vq (h c)) Gm)
end
end DL
namespace L2
open Spec PyProof.Rows
def QZ(K:_R):R2:=fun x y H Q=>∃a k xs,x=.ref a/\y=.int k/\jB K H a xs/\xs≠[]/\1<=k/\k<2 ^ 63/\xs.length*k.toNat<=sizeLine /\
 (k=1->Q (.ref a) H)/\(k≠1->∀p,H p=none->Q (.ref p) (upd H p (.tup (List.replicate k.toNat xs).flatten)))
theorem IP:dq X (binaryOp .Mult) (QZ X.K):=by
 intro ag s σ H x y v u Q I rx ry h;obtain⟨a,k,xs,rfl,rfl,ha,hx,h1,h2,hz,q1,q2⟩:=h;cases rx;obtain⟨t,rfl⟩:=ry;obtain⟨aF,r1,p1,_⟩:=I.tuple ha;obtain⟨⟨cls,dd,data,sl⟩,ho,hc,n,hd⟩:=id p1;simp only at hc hd;subst hc hd;have hl:=r1.length;have Dl:List.foldl (fun x1 x2=>x1++x2) #[] (List.replicate k.toNat aF.toArray)=(List.replicate k.toNat aF).flatten.toArray:=by have:=foldl_rep aF k.toNat [];rw[VM]at this;exact this
 refine Z9 (T:="tuple") (U:="int") (by decide) ⟨_,ho,rfl⟩ (fun s'=>YB s' k t) DL.Cd F.fills_int_mul YL DL.IL F.slot_int_index.lookup
  (X4 YL (YB s k t) F.entry_int_rmul (F.args_int_rmul_2 _ _) (DL.EW k t a aF.toArray n dd sl) ⟨ho,rfl,⟨_,ho,rfl⟩,?_⟩)
 refine WQ F.slot_tuple_mul ⟨_,ho,rfl⟩ F.entry_tuple_mul ?_ (F.args_tuple_mul_2 _ _);refine DL.IM ho rfl rfl h1 h2 ?_ (by rw[VC,<-hl];exact hz) Dl (by rw[VC,len_rep,<-hl,Yl];exact hz) (fun c=>⟨_,rfl,?_⟩) (fun c=>⟨_,rfl,?_⟩)
 .cases aF with
  |nil=>exact absurd (r1.pA.mp rfl) hx
  |cons=>rfl
 .exact⟨.ref a,H,I,rfl,q1 c⟩
 .exact⟨.ref s.heap.objs.size,_,I.laid (t':=s.toks) (o:=.tup (List.replicate k.toNat xs).flatten) (fun b ob q=>Vn _ q) (Vo _) ⟨by rw[len_rep,Yl];exact hz,_,r1.rep k.toNat,IsTup.new _ _⟩,rfl,q2 c _ (I.bN.fresh (Vo _))⟩
end L2
namespace MN
open Spec L2
open PyProof.Rows hiding St
def yU:F2
 |.tup us,.int k,st=>if us≠[]/\1<=k/\k<2 ^ 63/\us.length*k.toNat<=sizeLine then .ok (.tup (g_ k.toNat us)) st else .bad
 |_,_,_=>.bad
theorem EY(us:List ao):g_ 1 us=us:=by unfold g_;rw[List.replicate_one,List.flatten_singleton]
theorem IQ:dq X (binaryOp .Mult) (rM (wo X) E yU):=by
 refine dq.imp IP ?_;rintro x y H Q ⟨ρ,st,u,w,sr,r1,r2,h⟩;cases u<;>cases w<;>try exact h.elim
 case tup.int us k=>
  unfold yU at h;dsimp only at h;split at h
  .rename_i hz;obtain⟨a,vs,rfl,ha,ra⟩:=r1.gu;refine⟨a,k,vs,rfl,r2.b!,ha,fun z=>?_,hz.2.1,hz.2.2.1,by rw[<-ra.length];exact hz.2.2.2,fun c=>?_,fun c p hp=>?_⟩
   .subst z;exact hz.1 (Wi ra.length)
   .subst c;rw[show Int.toNat 1=1 from rfl,EY]at h;exact h ρ H _ (aD.refl _ _) sr r1
   .have s:=dH (o:=.tup (List.replicate k.toNat vs).flatten) hp;exact h ρ _ _ (aD.same s) (sr.grow s) (Rl.p9 bu (aY.mono (aD.same s) _ _ (ra.Mg k.toNat)))
  .exact h.elim
end MN
namespace PM
open Spec L2 MN
open PyProof.Rows hiding St
def constant:FN:=gC 3 3 (aB (cO (ah PM.bq (aa (ae 0) aj))) (aB (cO (ah PM.c_ (aa (ae 1) aj))) (aP (ah PM.cY (aa (ae 0) (aa (bW (aa (cq (aa (ak yU (cq (aa (mC (.int 0)) aj)) (ae 1)) (aa (ae 2) aj))) aj)) aj))))))
def c5:FN:=gC 4 7 (aB (aG 4 (ah xg (aa (ae 1) aj))) (aB (dM (bJ (ae 2)) (bX [(au 5),(au 6)]) (cO (ah PM.jS (aa (ae 4) (aa (ae 5) (aa (ak cu (ae 3) (ae 6)) aj)))))) (aP (ah PM.cZ (aa (ae 0) (aa (ae 4) aj))))))
def plus:FN:=gC 3 3 (aB (cO (ah PM.bq (aa (ae 0) aj))) (aP (ah PM.c5 (aa (ae 0) (aa (ae 1) (aa (ae 2) (aa (mC (.int 1)) aj)))))))
def minus:FN:=gC 3 3 (aB (cO (ah PM.bq (aa (ae 0) aj))) (aP (ah PM.c5 (aa (ae 0) (aa (ae 1) (aa (ae 2) (aa (jI (mC (.int 1))) aj)))))))
def repeated(L:d5)(mb:ME):ao->FN:=MS 3 5 L (aB (aG 3 (ae 1)) (aB (dM (nF (aa (ak jH (wL (ae 2)) (mC (.int 2))) (aa (jI (mC (.int 1))) (aa (jI (mC (.int 1))) aj)))) (au 4) (aB (aG 3 (iF 0 L mb (aa (ae 3) (aa (ae 3) aj)))) (fw (bO (ak fZ (ak Ib (ak Ek (ae 2) (ae 4)) (mC (.int 1))) (mC (.int 1)))) (aG 3 (iF 0 L mb (aa (ae 3) (aa (ae 1) aj)))) aX))) (aP (ae 3))))
end PM
namespace L2
open Spec PyProof.Rows
end L2
namespace MN
open Spec L2
open PyProof.Rows hiding St
end MN
namespace PM
open Spec L2 MN
open PyProof.Rows hiding St
def joined:FN:=gC 2 2 (aP (ah gW (aa (bz 2 [] (sV false false (aa (ae 0) (aa (ae 1) aj))) (bX [(au 0),(au 1)]) aV (ak a8 (ae 0) (ae 1))) aj)))
def product:FN:=gC 3 8 (aB (aG 3 jM) (aB (dM (bJ (ae 1)) (bX [(au 4),(au 5)]) (dM (bJ (ae 2)) (bX [(au 6),(au 7)]) (cO (ah PM.jS (aa (ae 3) (aa (ah PM.joined (aa (ae 4) (aa (ae 6) aj))) (aa (ak cu (ae 5) (ae 7)) aj))))))) (aP (ah PM.cZ (aa (ae 0) (aa (ae 3) aj))))))
def times:FN:=gC 3 3 (aB (cO (ah PM.bq (aa (ae 0) aj))) (aP (ah PM.product (aa (ae 0) (aa (ae 1) (aa (ae 2) aj))))))
def dm:ME:=(ah PM.product (aa (ae 2) (aa (ae 0) (aa (ae 1) aj))))
def raised(M:eQ):FN:=gC 3 3 (aB (cO (ah PM.bq (aa (ae 0) aj))) (aB (fw (gE (cN (bO (ah PM.fR (aa (ae 2) aj)))) (bO (ak ltV (ae 2) (mC (.int 1))))) (kW "NoCount" (aa (mC (.str "a sum is raised by a whole number from 1 on")) aj)) aX) (aP (nG M 0 (PM.repeated M.S PM.dm) (aa (ah fO (aa (ae 1) aj)) (aa (ae 2) aj))))))
end PM
namespace SO
open W PyProof.Rows
section
variable{E:_O}{s:_Y}
end
end SO
namespace MN
open Spec L2
open PyProof.Rows hiding St
end MN
namespace L2
open Spec PyProof.Rows
section
variable{L:d5}{s:_Y}{c:_Z}{k:Nat}{v x:V}{u:_X}{Q:VK}{E:_O}
end
section
variable{L:d5}{c:_Z}{k:Nat}{p:Pos}{ek:Expr}{t:TE}
end
end L2
namespace MN
open Spec L2
open PyProof.Rows hiding St
open Classical in
section
variable{L:d5}{k:Nat}{mb:ME}{c:_Z}{Q:VK}
end
section
variable{p lp:Pos}{mb:ME}{L:eQ}{k:Nat}{c T:_Z}
end
end MN
namespace HT
open Spec PyProof.Rows
section
variable{E:_O}{s:_Y}
end
end HT
namespace L2
open Spec PyProof.Rows
section
variable{es:Expr}
end
end L2
namespace MN
open Spec L2
open PyProof.Rows hiding St
end MN
namespace SO
open W PyProof.Rows
section
variable{E:_O}{s:_Y}{t:_Z}{us:_T}
end
end SO
namespace L2
open Spec PyProof.Rows
end L2
namespace MN
open Spec L2
open PyProof.Rows hiding St
section
variable{K:_R}
end
end MN
namespace PM
open Spec L2 MN
open PyProof.Rows hiding St
end PM
namespace L2
open Spec PyProof.Rows
structure h!(k:Nat)(A:_0):Prop where
 dp:A.depth+3*k+5<recursionLimit
 un:A.units+16*k+200<cLine
theorem h!.room{k:Nat}(r:h! k A):d0 k {A with handled:=none}:=⟨rfl,r.dp,r.un⟩
theorem h!.mono{k:Nat}(r:h! k A)(h:j<=k):h! j A:=⟨by have:=r.dp;lia,by have:=r.un;lia⟩
theorem h!.units{k:Nat}(r:h! k A):A.units+64<cLine:=by have:=r.un;lia
theorem h!.mark{k:Nat}(r:d0 k A)(v:_U):h! k (A.mark v):=⟨r.dp,r.un⟩
structure Q0(ea:_Z)(oe:Obj)(outer:List Env)(H:Hp)(s:_Y):Prop where
 get:s.heap.get? ea=some oe
 no:H ea=none
 out:ea ∉ gN outer
 dat:∀v,oe.data≠.cell v
def OI(CX:Bl)(P:_1)(w:World)(K:_R)(mg:_P)(base:Heap)(N:_W)(qual:Str)(scope:Scope)(f:_Z)(cd:_X)(A:_0)(outer:List Env)(s:_Y)(H:Hp)(E:XK)(ea:_Z)(oe:Obj):Cx:=
 {fN CX P w K mg base N qual scope f cd A outer s H E with calm:=false,pn:=[(ea,oe)]}
theorem NI{K:_R}{k:Nat}{params:Arguments}{body:List Stmt}{dV kV pm ct:_X}(lk:K.lookup f=some ⟨oc,od,.func (W.fnOf name qual params body scope dV kV doc pm an dh ct),z_⟩)(j6:W.codeIn K dh qual=true)(S:dF N ps scope){outer:List Env}{s:_Y}{args:Args}{us:_T}{vs:List V}{Q:VK}(hr:h! (k+1) A)(e0:rL P w K mg base A outer s H)(hb:BindsTo s (W.fnOf name qual params body scope dV kV doc pm an dh ct) args (ps.zip us))(r:bf vs us)(hl:vs.length=ps.length)(hx:Q0 ea oe outer H s)(v!:∃t,i' (OI CX P w K mg base N qual scope f dh A outer s H E ea oe) body t/\t {nx:=fun _ H'=>Q .dc H',rt:=Q} (start N vs) H):
  codeAny (model P w) A (.call (.ref f) args) (CR CX outer P w H s Q E) s:=by
 have KX:K.In s.heap:=e0.mod.Gz.keeps fun b o e=>(e0.bs b o e).1;have lim:s.heap.NoLimit:=e0.mod.nolimit.keeps fun b o e=>(e0.bs b o e).1;have Df:∀y∈ps.zip us,scope.names.lookup y.1=some .local\/(scope.names.lookup y.1=some .cell/\((cellsFrom (s.heap.objs.size+1) scope.names []).lookup y.1).isSome=true):=fun⟨n,v⟩hy=>by
  rcases S.par n (XY hy).1 with q|q
  .exact .inl q
  .exact .inr ⟨q,Yi _ _ _ (.inl q)⟩
 refine _H (A:=A) (show _ from hr.room.depth) (KX _ _ lk) rfl S.co S.gen rfl (_e KX j6) (hb _ _ _ _ ?_);refine Z2 S.kind Df fun env he s1 x=>?_;subst he;refine⟨lim.keeps x.toInCall.keep,codeAny_func ?_⟩;obtain⟨t,ht,hq⟩:=v!;have e1:rL P w K mg base {A with handled:=none} outer s H:=⟨e0.frames,e0.mod,e0.bs,e0.Bf,e0.iM,e0.x?,e0.bN,e0.bare⟩
 have I0:aM (fN CX P w K mg base N qual scope f dh {A with handled:=none} outer s H E) [] (start N vs) H s1:=sI S rfl e1 hl r x;have I:aM (OI CX P w K mg base N qual scope f dh A outer s H E ea oe) [] (start N vs) H s1:=by
  refine⟨⟨I0.ok.mod,I0.ok.kind,I0.ok.glob,I0.ok.blt,I0.ok.above,I0.ok.inj,I0.ok.has,I0.ok.CS,fun h=>(by cases h),I0.ok.frames,I0.ok.Gi,I0.ok.RP,I0.ok.bs,I0.ok.Bf,I0.ok.vZ,I0.ok.Bg,I0.ok.iM,I0.ok.x?⟩,I0.os,I0.bare,I0.base,I0.loc,I0.cell,I0.free,I0.gO,fun p hp=>?_,I0.bN,I0.len⟩;have hp':p=(ea,oe):=by simpa[OI]using hp
  subst hp';refine⟨x.toInCall.keep _ _ hx.get,hx.no,?_,hx.out,hx.dat⟩;exact VS (Vz hx.get)
 refine Ws (ht [] s1 (start N vs) H _ I hq) (fun fl s' hs=>?_) fun e s' hs=>hs;have fin:∀{σ':St}{H':Hp}{v:V}{u:_X},aM (OI CX P w K mg base N qual scope f dh A outer s H E ea oe) [] σ' H' s'->bo v u->Q v H'->CE outer P w H s Q u s':=
  fun{σ' H' v u}J rv q=>⟨v,H',J.os,J.bare,J.base,J.bN,rv,q⟩
 cases fl with
 |ret u=>
  obtain⟨v,σ',H',J,rv,q⟩:=hs;exact fin J rv q
 |next=>
  obtain⟨σ',H',J,q⟩:=hs;exact fin (v:=V.dc) (u:=Value.none) J rfl q
 |brk=>
  obtain⟨_,_,_,q⟩:=hs;exact False.elim q
 |cont=>
  obtain⟨_,_,_,q⟩:=hs;exact False.elim q
end L2
namespace MN
open Spec L2
open PyProof.Rows hiding St
def tH(P:_1)(w:World)(K:_R)(mg:_P)(base:Heap)(x:Str)(k:Nat)(F:Str->ai->cD ao):Prop:=
 ∃(fa:_Z)(fd:FuncData)(ps:_W),mg x=some (.ref fa)/\W.keepIn K (.ref fa)=true/\Binds K fd ps []/\ps.length=1 /\
  ∀(A:_0)(outer:List PySem.Env)(s:_Y)(H:Hp)(ea:_Z)(oe:Obj)(C:_Z)(c:Str)(Q:VK)(args:Args),h! k A->rL P w K mg base A outer s H->BindsTo s fd args (ps.zip [.ref ea])->Q0 ea oe outer H s->mg c=some (.ref C)->oe.cls=.ref C ->
   (∃ρ st,SR K ρ st H/\wR ⟨K,mg,[]⟩ E0 (Rl K) ρ H Q (F c st))->codeAny (model P w) A (.call (.ref fa) args) (CR (iL P w) outer P w H s Q E0) s
def U5(n:Nat)(body:MB):Str->ai->cD ao:=fun c st=>(body (some (.exc c)::List.replicate n none) st).fin
section
variable{K:_R}
theorem tH.mk{p:Str}{st:Stmt}{k:Nat}(F:Ad K x x st f fd)(hm:mg x=some (.ref f))(S:dF (p::N) [p] (aC st))(hb:∀(kV doc pm:_X)(an:Option _Z)(dh ct:_X)(us:_T),us.length=1->bindArgs (W.fnOf x x (eM st) (bZ st) (aC st) .none kV doc pm an dh ct) ⟨us,[]⟩=pure ([p].zip us))
  (h:∀ (dh:_X) (A:_0) (outer:List PySem.Env) (s:_Y) (H:Hp) (ea:_Z) (oe:Obj),h! k (A.deeper (envOfC x (aC st) s.heap.objs.size f dh)) ->
   i' (OI (iL P w) P w K mg base (p::N) x (aC st) f dh A outer s H E0 ea oe) (bZ st) (tS (OI (iL P w) P w K mg base (p::N) x (aC st) f dh A outer s H E0 ea oe) E0 body)):
  tH P w K mg base x (k+1) (U5 N.length body):=by
 refine⟨f,fd,[p],hm,F.kp,F.binds hb,rfl,fun A outer s H ea oe C c Q args hr e0 hbt hx hc C0 q=>?_⟩;obtain⟨ρ,av,sr,q⟩:=q;obtain⟨oc,od,kV,doc,pm,an,dh,ct,z_,rfl,lk,j6⟩:=F.ex;have hr2:h! k (A.deeper (envOfC x (aC st) s.heap.objs.size f dh)):=by have:=(hr.room).deeper (envOfC x (aC st) s.heap.objs.size f dh);exact⟨this.dp,this.un⟩
 refine NI (vs:=[V.ref ea]) (E:=E0) lk j6 S hr e0 hbt (.cons rfl .nil) rfl hx ⟨_,h dh A outer s H ea oe hr2,some (.exc c)::List.replicate N.length none,ρ,av,?_,sr,?_⟩
 .refine⟨by simp[L2.start],fun i u e=>?_⟩;cases i with
  |zero=>
   cases e;exact⟨.ref ea,rfl,ea,oe,C,rfl,V0.mpr rfl,hc,C0⟩
  |succ i=>
   rw[YG,Ww]at e;split at e<;>cases e
 .unfold U5 at q;revert q;cases body (some (.exc c)::List.replicate N.length none) av with
  |nx μ cE=>exact fun q ρ' H' σ' e s _=>q ρ' H' .dc e s Rl.sS
  |rt v cE=>exact fun q=>q
  |er c μ cE=>exact fun q=>q
  |bk μ cE=>exact fun q=>q.elim
  |ct μ cE=>exact fun q=>q.elim
  |bad=>exact fun q=>q.elim
end
def iH(i:Nat)(F:Str->ai->cD ao):ME:=fun μ st=>match μ[i]? with
 |some (some (.exc c))=>H! (F c st)
 |_=>.bad
section
variable{p:Pos}{n:Str}{k:Nat}{F:Str->ai->cD ao}
theorem EZ(i:Nat)(G:tH X.prog X.w X.K X.mg X.base x k F)(hr:h! k X.A)(hg:Gl X x)(hN:X.N[i]?=some n:=by rfl)(hv:Gh X.env.scope n:=by first|exact Or.inl rfl|exact Or.inr (Or.inl rfl))(hd:(n==("__debug__":Str))=false:=by decide)(j6:(n==("__classdict__":Str))=false:=by decide)(ju:(x==("__debug__":Str))=false:=by decide)(he:starEach [.Name n q1] X.env=(false,eval (.Name n q1) X.env)::starEach [] X.env:=by rfl)(ip:(backTo pos (starEach [] X.env)).any (·.1)=false:=by rfl):
  PE X (.Call (.Name x p) [.Name n q1] [] pos) (tE X E (iH i F)):=by
 obtain⟨fa,fd,ps,hm,hk,hb,tJ,run⟩:=G;intro ag s σ H Q I h;obtain⟨μ,ρ,st,rs,sr,h⟩:=h;unfold iH at h;split at h
 .rename_i c hμ;obtain⟨v,hσ,ea,oe,C,rfl,Kc,hmc,C0⟩:=rs.at_ i _ hμ;have pin:=I.pin (ea,oe) (WU _ Kc);refine WY (iU I hg hm ?_ ju);refine X! (h₀:=X.base) I.ok.mod.Gz hk (df ((fM (uq hN hv hd j6) kP he) pos ag s σ H (fun vs H1=>vs=[.ref ea]/\H1=H) I ⟨_,hσ,rfl,rfl⟩) fun us s1⟨vs,H1,I1,r,e1,e2⟩=>⟨I1.nq,?_⟩) he ip;subst e1 e2;obtain⟨u,rfl,ru⟩:=vals1 r;cases ru;have E1:=I1.pin (ea,oe) (WU _ Kc);have LW:=hb s1 [.ref ea] I1.nq (by rw[VZ,tJ];rfl);rw[VZ]at LW;refine X3 (XC (run X.A X.stack s1 H1 ea oe C c Q ⟨[.ref ea],[]⟩ hr I1.Dc LW ⟨E1.1,E1.2.1,fun hb=>(VU.mp (I1.kM ea hb)).elim E1.2.2.1 E1.2.2.2.1,E1.2.2.2.2⟩ hmc C0 ⟨ρ,st,sr,?_⟩) fun r s' hq=>?_)
  .revert h;cases F c st with
   |ok y cE=>exact fun h=>h
   |err c cE=>exact fun h=>h.elim
   |bad=>exact fun h=>h.elim
  .cases r with
   |error e=>obtain⟨_,_,_,_,_,z⟩:=hq;exact z.elim
   |ok fl=>
    cases fl with
    |ret u=>exact I1.after hq
    |next=>exact False.elim hq
    |brk=>exact False.elim hq
    |cont=>exact False.elim hq
 .exact h.elim
end
end MN
namespace L2
open Spec PyProof.Rows
theorem tK{x:V}:∀{xs:List V}{us:_T},bf xs us->xs.all gn=true->us.countP (Bn x)=xs.countP fun y=>uD y x
 |_,_,.nil,_=>rfl
 |y::xs,u::us,.cons r t,f=>by rw[Xt,Wv]at f;rw[List.countP_cons,List.countP_cons,uE r f.1,tK t f.2]
def NJ:V->List V->Hp->VK->Prop:=fun x vs H Q=>∃l xs y,x=.ref l/\vs=[y]/\H l=some (.lst xs)/\gn y=true/\xs.all gn=true/\Q (.int ((xs.countP fun z=>uD z y:Nat):Int)) H
theorem E2:Ab X "list.count" NJ:=by intro ag s σ H x vs v us Q I rx rv h;obtain⟨l,xs,y,rfl,rfl,hH,fy,fs,q⟩:=h;cases rx;obtain⟨u,rfl,ru⟩:=rv.one;obtain⟨z,aF,n,r,hl,e⟩:=I.Bp hH;refine X4 ZE ⟨_,e,rfl⟩ F.entry_list_count (F.args_list_count_2 _ _) (SeqAt.list_countAt l aF.toArray n none #[] u (Bn y)) ⟨e,fun w hw=>jF ru fy r fs w (by simpa using hw),?_⟩;refine⟨.int _,H,I.tok _,⟨_,rfl⟩,?_⟩;rw[show aF.toArray.toList=aF from rfl,tK r fs];exact q
def NK:V->List V->Hp->VK->Prop:=fun x vs H Q=>∃l xs y j,x=.ref l/\vs=[y]/\H l=some (.lst xs)/\gn y=true/\xs.all gn=true/\(∃z,xs[j]?=some z/\uD z y=true)/\(∀m z,m<j->xs[m]?=some z->uD z y=false)/\Q (.int ((j:Nat):Int)) H
theorem E3:Ab X "list.index" NK:=by
 intro ag s σ H x vs v us Q I rx rv h;obtain⟨l,xs,y,j,rfl,rfl,hH,fy,fs,⟨z,hz,ez⟩,Pg,q⟩:=h;cases rx;obtain⟨u,rfl,ru⟩:=rv.one;obtain⟨hsz,aF,n,r,hl,e⟩:=I.Bp hH;have at_:∀(m:Nat)(hm:m<aF.toArray.size),∃z,xs[m]?=some z/\Bn y aF.toArray[m]=uD z y:=by
  intro m hm;have hm':m<aF.length:=by simpa using hm
  obtain⟨z,hz⟩:∃z,xs[m]?=some z:=⟨_,Vp (by lia)⟩
  obtain⟨w,hw,yi⟩:=r.get hz;have e1:aF.toArray[m]=w:=by have:=Vp hm';rw[this]at hw;simpa using hw
  refine⟨z,hz,?_⟩;rw[e1,uE yi (Wh.mp fs z (XD hz))]
 have hj:j<aF.toArray.size:=by have:=(V_.mp hz).1;simp;lia
 have U6:(j:Int)<2 ^ 63-1:=by have:=(V_.mp hz).1;rw[VT]at hsz;lia
 refine X4 ZD ⟨_,e,rfl⟩ F.entry_list_index (F.args_list_index_2 _ _) (SeqAt.list_indexAt l aF.toArray n none #[] u (Bn y) j hj U6 ?_ ?_) ⟨e,fun w hw=>jF ru fy r fs w (by simpa using hw),?_⟩
 .obtain⟨z',h1,h2⟩:=at_ j hj;rw[h2];rw[hz]at h1;cases h1;exact ez
 .intro m hm hmj;obtain⟨z',h1,h2⟩:=at_ m hm;rw[h2];exact Pg m z' hmj h1
 .exact⟨.int _,H,I.tok _,⟨_,rfl⟩,q⟩
end L2
namespace MN
open Spec L2
open PyProof.Rows hiding St
def jT:FM
 |.loc n,[u],st=>match st[n]? with
  |some (.lst us)=>if flat u=true/\us.all flat=true then .ok (.int ((us.countP fun y=>Ao y u:Nat):Int)) st else .bad
  |_=>.bad
 |_,_,_=>.bad
def lh:FM
 |.loc n,[u],st=>match st[n]? with
  |some (.lst us)=>if flat u=true/\us.all flat=true then(match us.findIdx? (fun y=>Ao y u) with|some j=>.ok (.int ((j:Nat):Int)) st|none=>.bad)else .bad
  |_=>.bad
 |_,_,_=>.bad
section
theorem qt{K:_R}{ρ:_V}{H:Hp}{u:ao}{x:V}(f:flat u=true)(r:Rl K ρ H u x):∀{us:List ao}{vs:List V},us.all flat=true->aY K ρ H us vs->vs.all gn=true/\(vs.map fun y=>uD y x)=us.map fun y=>Ao y u
 |[],vs,_,h=>by rw[h.fF];exact⟨rfl,rfl⟩
 |w::us,vs,hf,h=>by obtain⟨v,r',rfl,h2,h3⟩:=h.cQ;rw[Xt,Wv]at hf;obtain⟨a,b,c⟩:=g! hf.1 f h2 r;obtain⟨d,e⟩:=qt f r hf.2 h3;exact⟨by rw[Xt,a,d];rfl,by rw[VB,VB,c,e]⟩
theorem oM(f:α->Bool)(l:List α):l.countP f=(l.map f).countP id:=by rw[List.countP_map];rfl
theorem Ce:Ab X "list.count" (Sm (wo X) E jT):=by
 refine Ab.imp E2 ?_;rintro x xs H Q ⟨ρ,st,u,us,sr,r1,r2,h⟩;unfold jT at h;split at h
 .rename_i n v;obtain⟨a,rfl,ha⟩:=r1.eO;obtain⟨y,rfl,ry⟩:=r2.yr;split at h
  .rename_i ws hw;split at h
   .rename_i hz;obtain⟨vs,hH,rv⟩:=sr.cell n _ a hw ha;obtain⟨q1,q2⟩:=qt hz.1 ry hz.2 rv;refine⟨a,vs,y,rfl,rfl,hH,(g! hz.1 hz.1 ry ry).1,q1,?_⟩;rw[oM (fun z=>uD z y),q2,<-oM];exact h ρ _ _ (aD.refl _ _) sr (Rl.mkInt _)
   .exact h.elim
  .exact h.elim
 .exact h.elim
theorem Cf:Ab X "list.index" (Sm (wo X) E lh):=by
 refine Ab.imp E3 ?_;rintro x xs H Q ⟨ρ,st,u,us,sr,r1,r2,h⟩;unfold lh at h;split at h
 .rename_i n v;obtain⟨a,rfl,ha⟩:=r1.eO;obtain⟨y,rfl,ry⟩:=r2.yr;split at h
  .rename_i ws hw;split at h
   .rename_i hz;obtain⟨vs,hH,rv⟩:=sr.cell n _ a hw ha;obtain⟨q1,q2⟩:=qt hz.1 ry hz.2 rv;split at h
    .rename_i j hj;have at_:∀(m:Nat)(z:V),vs[m]?=some z->∃w,ws[m]?=some w/\uD z y=Ao w v:=by
      intro m z OJ;have e:(vs.map fun y'=>uD y' y)[m]?=(ws.map fun y'=>Ao y' v)[m]?:=by rw[q2]
      rw[VF,VF,OJ]at e;cases Kq:ws[m]? with
      |none=>rw[Kq]at e;cases e
      |some w=>rw[Kq]at e;exact⟨w,rfl,VP e⟩
     obtain⟨hjl,hjt,hjn⟩:=List.findIdx?_eq_some_iff_getElem.mp hj;have hl:=rv.length;refine⟨a,vs,y,j,rfl,rfl,hH,(g! hz.1 hz.1 ry ry).1,q1,?_,?_,h ρ _ _ (aD.refl _ _) sr (Rl.mkInt _)⟩
     .obtain⟨z,OJ⟩:∃z,vs[j]?=some z:=⟨_,Vp (by lia)⟩
      obtain⟨w,Kq,e⟩:=at_ j z OJ;refine⟨z,OJ,?_⟩;rw[Vp hjl]at Kq;cases Kq;rw[e];exact hjt
     .intro m z hm OJ;obtain⟨w,Kq,e⟩:=at_ m z OJ;rw[Vp (by lia)]at Kq;cases Kq;rw[e];simpa using hjn m hm
    .exact h.elim
   .exact h.elim
  .exact h.elim
 .exact h.elim
variable{mo:ME}
theorem E4(ho:PE X o (tE X E mo))(ha:PA X (e::es) (tL X E ms))(iN:attributeBase o "count" X.env (eval o X.env)=eval o X.env:=by rfl)
  (uJ:((backTo bV (starEach (e::es) X.env)).all (fun x => !x.1)&&(backToKw bV (keywordEach [] X.env)).all (fun x=>x.1.isSome)
   && decide ((e::es).length+([]:List Keyword).length+(if([]:List Keyword).isEmpty then 0 else 1)<30))=true:=by rfl)
  (iO:(apos.endLine==bV.line)=true:=by rfl) (hs:starEach (e::es) X.env=(false,eval e X.env)::starEach es X.env:=by rfl) (iW:(backTo bV (starEach es X.env)).any (·.1)=false:=by rfl):
  PE X (.Call (.Attribute o "count" apos) (e::es) [] bV) (tE X E (iP jT mo ms)):=yD ZE F.type_list_count Ce ho ha iN uJ iO hs iW
theorem E5(ho:PE X o (tE X E mo))(ha:PA X (e::es) (tL X E ms))(iN:attributeBase o "index" X.env (eval o X.env)=eval o X.env:=by rfl)
  (uJ:((backTo bV (starEach (e::es) X.env)).all (fun x => !x.1)&&(backToKw bV (keywordEach [] X.env)).all (fun x=>x.1.isSome)
   && decide ((e::es).length+([]:List Keyword).length+(if([]:List Keyword).isEmpty then 0 else 1)<30))=true:=by rfl)
  (iO:(apos.endLine==bV.line)=true:=by rfl) (hs:starEach (e::es) X.env=(false,eval e X.env)::starEach es X.env:=by rfl) (iW:(backTo bV (starEach es X.env)).any (·.1)=false:=by rfl):
  PE X (.Call (.Attribute o "index" apos) (e::es) [] bV) (tE X E (iP lh mo ms)):=yD ZD F.type_list_index Cf ho ha iN uJ iO hs iW
end
end MN
namespace SO
open W PyProof.Rows
section
variable{K:Type}[DecidableEq K]{knd:HeapKind prog w K}{E:_O}{s:_Y}
end
section
variable{E:_O}{s:_Y}{d:_Z}{es:Array DictEntry}
end
section
variable{E:_O}{I d S:_Z}{es:Array DictEntry}{zs:List (_X×List Int)}{R:Result->_Y->Prop}
end
section
variable{E:_O}{s:_Y}{l:_Z}{us:_T}
end
end SO
namespace L2
open Spec PyProof.Rows
section
variable{s:_Y}{b:_Z}{aI:List (List da×V)}{k:List da}{E:_O}
end
section
variable{ty:TE}
end
end L2
namespace MN
open Spec L2
open PyProof.Rows hiding St kindOf
section
variable[DecidableEq κ]
end
section
variable{md mk:ME}
end
end MN
namespace L2
open Spec PyProof.Rows W
theorem rW:cm X (.builtin "isinstance") (fun xs H Q=>∃(ea:_Z)(oe:Obj)(C D:_Z)(b:Bool),xs=[.ref ea,.ref D]/\(ea,oe)∈X.pn/\oe.cls=.ref C/\jN X.K C/\kitOne X.K (.ref C) (.ref D)=some b/\Q (.bl b) H):=by intro ag s σ H xs us Q I r h;obtain⟨ea,oe,C,D,b,rfl,hp,hc,hq,hk,q⟩:=h;have he:=(I.pin (ea,oe) (WU _ hp)).1;obtain⟨u,u2,rfl,ru,LL⟩:=vals2 r;cases ru;cases LL;exact kia_one (Eh hc hq) I.nq he hk (by intro z;cases z) fun tk=>⟨.bl b,H,I.tok tk,rfl,q⟩
end L2
namespace MN
open Spec L2
open PyProof.Rows hiding St
def dQ(sub:Str->Str->Option Bool)(qs:_W)(i:Nat)(x:Str):ME:=fun μ st=>match μ[i]? with
 |some (some (.exc c))=>if qs.contains c then(match sub c x with
  |some b=>.ok (.bl b) st
  |none=>.bad)else .bad
 |_=>.bad
section
variable{p:Pos}{n:Str}{tab:List (Str×Str×Bool)}{qs:_W}
theorem IS(i:Nat)(hS:eZ X.K X.mg tab)(hQ:rS X.K X.mg qs)(h:Ea X.K X.mg x)(hg:Gl X "isinstance")(hm:X.mg "isinstance" = none)(OC:Gl X x)(hN:X.N[i]?=some n:=by rfl)(hv:Gh X.env.scope n:=by first|exact Or.inl rfl|exact Or.inr (Or.inl rfl))(hd:(n==("__debug__":Str))=false:=by decide)(j6:(n==("__classdict__":Str))=false:=by decide)(OD:(x==("__debug__":Str))=false:=by decide)(hs:starEach [.Name n q1,.Name x q2] X.env=(false,eval (.Name n q1) X.env)::starEach [.Name x q2] X.env:=by rfl)(eV:starEach [.Name x q2] X.env=(false,eval (.Name x q2) X.env)::starEach [] X.env:=by rfl)(ip:(backTo pos (starEach [.Name x q2] X.env)).any (·.1)=false:=by rfl):PE X (.Call (.Name "isinstance" p) [.Name n q1,.Name x q2] [] pos) (tE X E (dQ (bP tab) qs i x)):=by
 obtain⟨D,hD,_,_⟩:=h;refine PE.imp (lV rW hg hm XZ (fM (uq (i:=i) hN hv hd j6) (fM (ur (v:=.ref D) OC hD rfl OD) kP eV) hs) (by decide) (by decide) hs ip) ?_;rintro σ H Q ⟨μ,ρ,st,rs,sr,h⟩;unfold dQ at h;split at h
 .rename_i c e;split at h
  .rename_i hqs;split at h
   .rename_i b eb;obtain⟨w,e',a,oe,C,rfl,hp,hC,ho⟩:=rs.at_ i _ e;obtain⟨C',hC',hq⟩:=hQ.at_ hqs;have hC:X.mg c=some (.ref C):=hC;rw[hC]at hC';cases hC';refine⟨_,e',a,oe,C,D,b,rfl,hp,ho,hq,?_,eR sr h⟩;have k:=hS.Qp c x b C D eb hC hD;unfold W.kitOne;split
    .rename_i z;have z:=Wr.mp z;cases z;rw[hq.kc]at k;exact k
    .exact k
   .exact h.elim
  .exact h.elim
 .exact h.elim
end
section
variable{K:_R}
end
end MN
namespace PM
open Spec L2 MN
open PyProof.Rows hiding St
def a!:FN:=gC 2 7 (aB (aG 2 (bW aj)) (aB (dM (bJ (ae 0)) (bX [(au 3),(au 4)]) (dM (bJ (ae 1)) (bX [(au 5),(au 6)]) (cO (iP dS (ae 2) (aa (cq (aa (ah gW (aa (bz 1 [3,5] (cA (aa (ah fe (aa (ae 3) aj)) aj)) (au 0) aV (ak a8 (ak cw (ae 1) (ae 0)) (ak cw (ae 2) (ae 0)))) aj)) (aa (ak cu (ae 4) (ae 6)) aj))) aj))))) (aP (ah PM.c7 (aa (ae 2) aj)))))
def c!:FN:=gC 2 2 (aP (ah PM.c7 (aa (ak a8 (ae 0) (ae 1)) aj)))
def mJ:FN:=gC 5 8 (aB (aG 5 (bW aj)) (aB (dM (cA (aa (ae 2) aj)) (au 6) (aB (aG 7 (ah gW (aa (bz 1 [0,6,3] (cA (aa (ae 1) aj)) (au 0) aV (ak dJ (ah PM.dI (aa (ae 1) (aa (ak a8 (ak cu (mC (.int 5)) (ae 2)) (ae 0)) aj))) (ak a8 (ae 3) (mC (.int 1))))) aj))) (cO (iP dS (ae 5) (aa (cq (aa (ae 7) (aa (ah PM.bK (aa (ah PM.dI (aa (ae 0) (aa (ak a8 (ak cu (mC (.int 5)) (ae 6)) (mC (.int 4))) aj))) (aa (ae 4) aj))) aj))) aj))))) (aP (ah PM.c7 (aa (ae 5) aj)))))
def gZ:FN:=gC 1 3 (aB (aG 1 (bz 1 [] (bJ (ae 0)) (au 0) aV (ah fO (aa (ae 0) aj)))) (aB (dM (cA (aa (ah fe (aa (ae 0) aj)) aj)) (au 2) (aB (fw (bO (ak jJ (bz 1 [] (bJ (mw (ae 0) (dy (ae 2)) dP)) (au 0) aV (ah fO (aa (ae 0) aj))) (mw (ae 1) (dy (ae 2)) dP))) (aP (mC (.bl false))) aX) (cO (iP dS (ak cw (ae 0) (ae 2)) (aa (mC (.int 0)) aj))))) (aP (mC (.bl true)))))
def nQ:FN:=gC 3 3 (aP (bz 2 [2,1] (bJ (ae 0)) (bX [(au 0),(au 1)]) aV (cq (aa (ah PM.cS (aa (ae 0) (aa (ae 3) (aa (ak a8 (ak cw (ae 0) (ae 3)) (ae 2)) aj)))) (aa (ae 1) aj)))))
def fC:FN:=gC 2 4 (aB (aG 2 (bW (aa (cq (aa (ah gW (aa (ak cu (bW (aa (mC (.int 0)) aj)) (ah fe (aa (ak cw (ak cw (ae 0) (mC (.int 0))) (mC (.int 0))) aj))) aj)) (aa (mC (.int 1)) aj))) aj))) (aB (dM (cA (aa (ae 1) aj)) (au 3) (aG 2 (ah PM.a! (aa (ae 2) (aa (ae 0) aj))))) (aP (ae 2))))
def i9:FN:=gC 2 7 (aB (aG 2 (ak a8 (mC (.int 3)) (ak cu (mC (.int 6)) (ah BU (aa (l_ (ak fZ (ae 1) (mC (.int 1))) (ak fZ (ak dJ (ak gv (ah PM.bh (aa (ae 0) (aa (mC (.int 0)) aj))) (mC (.int 144))) (mC (.int 2))) (mC (.int 1)))) aj))))) (aB (aG 3 (ak dJ (ah PM.bh (aa (ae 0) (aa (mC (.int 1)) aj))) (mC (.int 3)))) (aB (aG 4 (ah PM.dY (aa (ah PM.bh (aa (ae 0) (aa (mC (.int 2)) aj))) (aa (ae 1) (aa (ak dJ (ak gv (ah PM.bh (aa (ae 0) (aa (mC (.int 0)) aj))) (mC (.int 4))) (mC (.int 6))) (aa (ae 2) (aa (ae 3) aj))))))) (aB (aG 5 (ak dJ (ak gv (ah PM.bh (aa (ae 0) (aa (mC (.int 1)) aj))) (mC (.int 3))) (mC (.int 2)))) (aB (aG 6 (ah PM.dY (aa (ah PM.bh (aa (ae 0) (aa (mC (.int 3)) aj))) (aa (ae 1) (aa (ak dJ (ak gv (ah PM.bh (aa (ae 0) (aa (mC (.int 0)) aj))) (mC (.int 24))) (mC (.int 6))) (aa (ak jH (ae 2) (ae 5)) (aa (ae 3) aj))))))) (aB (fw (bO (ak fZ (ak dJ (ak gv (ah PM.bh (aa (ae 0) (aa (mC (.int 1)) aj))) (mC (.int 6))) (mC (.int 4))) (mC (.int 1)))) (aG 4 (ah PM.c! (aa (ae 4) (aa (ah PM.a! (aa (ae 6) (aa (bW (aa (cq (aa (ah gW (aa (ak cu (bW (aa (mC (.int 1)) aj)) (ae 1)) aj)) (aa (mC (.int 1)) aj))) aj)) aj))) aj)))) aX) (aB (fw (bO (ak fZ (ak dJ (ak gv (ah PM.bh (aa (ae 0) (aa (mC (.int 1)) aj))) (mC (.int 192))) (mC (.int 4))) (mC (.int 1)))) (aG 4 (ah PM.c! (aa (ae 4) (aa (bW (aa (cq (aa (ah gW (aa (ak cu (bW (aa (mC (.int 0)) aj)) (ae 1)) aj)) (aa (ak a8 (mC (.int 1)) (ak dJ (ah PM.bh (aa (ae 0) (aa (mC (.int 5)) aj))) (mC (.int 9)))) aj))) aj)) aj)))) aX) (aB (fw (bO (ak ltV (ak dJ (ak gv (ah PM.bh (aa (ae 0) (aa (mC (.int 1)) aj))) (mC (.int 192))) (mC (.int 4))) (mC (.int 2)))) (aG 6 (ah PM.c! (aa (ae 6) (aa (bW (aa (cq (aa (ah gW (aa (ak cu (bW (aa (mC (.int 0)) aj)) (ae 1)) aj)) (aa (ak a8 (mC (.int 2)) (ak dJ (ak gv (ah PM.bh (aa (ae 0) (aa (mC (.int 5)) aj))) (mC (.int 9))) (mC (.int 9)))) aj))) aj)) aj)))) aX) (aB (fw (bO (ak fZ (ak dJ (ak gv (ah PM.bh (aa (ae 0) (aa (mC (.int 1)) aj))) (mC (.int 24))) (mC (.int 8))) (mC (.int 1)))) (aG 6 (bW aj)) aX) (aP (cq (aa (ae 4) (aa (ae 6) aj)))))))))))))
def cP(M:eQ):FN:=gC 3 10 (aB (fw (bO (ak fZ (ah fe (aa (ae 1) aj)) (mC (.int 0)))) (kW "ByNought" (aa (mC (.str "no rest is left by nought")) aj)) aX) (aB (aG 3 (ah PM.gk (aa (ae 1) (aa (ae 2) aj)))) (aB (aG 4 (ak a8 (ak jH (ah PM.cW (aa (ae 0) (aa (ae 2) aj))) (ah PM.cW (aa (ae 1) (aa (ae 2) aj)))) (mC (.int 1)))) (aB (aG 5 (Ox (bO (ak Gn (ae 4) (mC (.int 0)))) (ah (PM.raised M) (aa (mC (.int 0)) (aa (ae 3) (aa (ae 4) aj)))) (ah PM.constant (aa (mC (.int 0)) (aa (ah fe (aa (ak cw (ak cw (ae 1) (mC (.int 0))) (mC (.int 0))) aj)) (aa (mC (.int 1)) aj)))))) (aB (aG 6 (bW aj)) (aB (aG 7 (ah fO (aa (ae 0) aj))) (aB (nE (bO (ak ET (ah PM.cW (aa (ae 7) (aa (ae 2) aj))) (ah PM.cW (aa (ae 1) (aa (ae 2) aj))))) (aB (aG 8 (ah PM.nQ (aa (ah PM.gk (aa (ae 7) (aa (ae 2) aj))) (aa (ae 2) (aa (ak jH (ah PM.cW (aa (ae 7) (aa (ae 2) aj))) (ah PM.cW (aa (ae 1) (aa (ae 2) aj)))) aj))))) (aB (aG 6 (ah PM.plus (aa (mC (.int 0)) (aa (ah PM.times (aa (mC (.int 0)) (aa (ae 3) (aa (ae 6) aj)))) (aa (ae 8) aj))))) (aB (aG 7 (ah PM.minus (aa (mC (.int 0)) (aa (ah PM.times (aa (mC (.int 0)) (aa (ae 3) (aa (ae 7) aj)))) (aa (ah PM.times (aa (mC (.int 0)) (aa (ae 8) (aa (ae 1) aj)))) aj))))) (HY 4 MK (mC (.int 1))))))) (aB (fw (bO (ak Gn (ae 4) (mC (.int 0)))) (aB (aG 9 (ah (PM.raised M) (aa (mC (.int 0)) (aa (ae 3) (aa (ae 4) aj))))) (aB (aG 6 (ah PM.times (aa (mC (.int 0)) (aa (ae 9) (aa (ae 6) aj))))) (aG 7 (ah PM.times (aa (mC (.int 0)) (aa (ae 9) (aa (ae 7) aj))))))) aX) (aP (cq (aa (ae 5) (aa (ae 6) (aa (ae 7) aj)))))))))))))
end PM
namespace MN
open Spec L2
open PyProof.Rows hiding St
section
variable{K:_R}
def dG(K:_R)(x:Str)(st:Stmt):Prop:=∃(f:_Z)(fd:FuncData),Ad K x x st f fd/\W.nsIn K mainGlobals x=some (some (.ref f))
theorem dG.mk{st:Stmt}{kV pm ct:_X}(a:W.nsIn K mainGlobals x=some (some (.ref f)))(l:K.lookup f=some ⟨oc,od,.func (W.fnOf x x (eM st) (bZ st) (aC st) .none kV doc pm an dh ct),z_⟩)(c:W.codeIn K dh x=true)(k:W.keepIn K (.ref f)=true):dG K x st:=⟨f,_,yj l c k,a⟩
inductive yV(K:_R):_W->Prop
 |nil:yV K []
 |cons {x:Str} {r:_W} (a:W.nsIn K mainGlobals x=some none) (t:yV K r):yV K (x::r)
@[reducible] def IT(mg:_P):_W->Prop
 |[]=>True
 |x::r=>mg x=none/\IT mg r
theorem yV.get(X:K.In h)(G:h.Ns mainGlobals mg):∀{l:_W},yV K l->IT mg l
 |_,.nil=>trivial
 |_,.cons a t=>⟨_c X G a,t.get X G⟩
inductive yW(K:_R):_W->Prop
 |nil:yW K []
 |cons {x:Str} {r:_W} {C:_Z} (a:W.nsIn K mainGlobals x=some (some (.ref C))) (e:W.excIn K C bmV "ValueError.__new__" = true) (s:W.subIn K (.ref C) (.type "BaseException")=some true) (t:yW K r):yW K (x::r)
@[reducible] def IU(K:_R)(mg:_P):_W->Prop
 |[]=>True
 |x::r=>Ea K mg x/\IU K mg r
theorem yW.get(X:K.In h)(G:h.Ns mainGlobals mg):∀{l:_W},yW K l->IU K mg l
 |_,.nil=>trivial
 |_,.cons a e s t=>⟨⟨_,W9 X G a,e,s⟩,t.get X G⟩
inductive qu(K:_R):List (Str×Str×Bool)->Prop
 |nil:qu K []
 |cons {c x:Str} {b:Bool} {C D:_Z} {cd:ClassData} {r:List (Str×Str×Bool)} (h1:W.nsIn K mainGlobals c=some (some (.ref C))) (h2:W.nsIn K mainGlobals x=some (some (.ref D))) (h3:W.clsIn K D=some cd) (h4:W.typeIn K (.ref D)=some (.type "type")) (h5:W.subIn K (.ref C) (.ref D)=some b) (t:qu K r):qu K ((c,x,b)::r)
inductive qw(K:_R):_W->Prop
 |nil:qw K []
 |cons {c:Str} {C:_Z} {r:_W} (h1:W.nsIn K mainGlobals c=some (some (.ref C))) (h3:W.kitOne K (.ref C) (.type "ValueError")=some true) (t:qw K r):qw K (c::r)
def Q1(l:_W):List (Str×Str×Bool):=l.map fun c=>(c,"ValueError",true)
theorem qw.get(X:K.In h)(G:h.Ns mainGlobals mg)(n:W.nsIn K mainGlobals "ValueError" = some none):∀{l:_W},qw K l->eZ K mg (Q1 l)
 |_,.nil=>.nil
 |_,.cons h1 h3 t=>.blt (W9 X G h1) (_c X G n) kG h3 (t.get X G n)
theorem qu.get(X:K.In h)(G:h.Ns mainGlobals mg){l':List (Str×Str×Bool)}(S:eZ K mg l'):∀{l:List (Str×Str×Bool)},qu K l->eZ K mg (l++l')
 |_,.nil=>S
 |_,.cons h1 h2 h3 h4 h5 t=>.own (W9 X G h1) (W9 X G h2) (BR h3 h4 h5) (t.get X G S)
inductive yX(K:_R):_W->Prop
 |nil:yX K []
 |cons {x:Str} {r:_W} {C:_Z} (a:W.nsIn K mainGlobals x=some (some (.ref C))) (q:L2.u5 K C=true) (t:yX K r):yX K (x::r)
theorem yX.get(X:K.In h)(G:h.Ns mainGlobals mg):∀{l:_W},yX K l->rS K mg l
 |_,.nil=>.nil
 |_,.cons a q t=>.cons (W9 X G a) q (t.get X G)
theorem rS.known{l:_W}(Q:rS K mg l):Known mg (MF l):=fun c hc=>let⟨C,h,_⟩:=Q.at_ hc;⟨C,h⟩
end
section
variable{a b:Expr}{ma mb:ME}
theorem NL(ha:PE X a (tE X E ma))(hb:PE X b (tE X E mb)):PE X (.BinOp a .Add b pos) (tE X E (ak a8 ma mb)):=iZ HA ha hb
theorem NM(ha:PE X a (tE X E ma))(hb:PE X b (tE X E mb)):PE X (.BinOp a .Sub b pos) (tE X E (ak jH ma mb)):=iZ HB ha hb
theorem NN(ha:PE X a (tE X E ma))(hb:PE X b (tE X E mb)):PE X (.BinOp a .Mult b pos) (tE X E (ak cu ma mb)):=iZ HC ha hb
theorem NO(ha:PE X a (tE X E ma))(hb:PE X b (tE X E mb)):PE X (.BinOp a .FloorDiv b pos) (tE X E (ak gv ma mb)):=iZ DV ha hb
theorem NP(ha:PE X a (tE X E ma))(hb:PE X b (tE X E mb)):PE X (.BinOp a .Mod b pos) (tE X E (ak dJ ma mb)):=iZ HD ha hb
theorem NQ(ha:PE X a (tE X E ma))(hb:PE X b (tE X E mb)):PE X (.BinOp a .Pow b pos) (tE X E (ak DS ma mb)):=iZ HE ha hb
theorem Q2(ha:PE X a (tE X E ma))(hb:PE X b (tE X E mb)):PT X (.Compare a [.Lt] [b] pos) (tT X E (bO (ak ltV ma mb))):=kU Mi ha hb
theorem Q3(ha:PE X a (tE X E ma))(hb:PE X b (tE X E mb)):PT X (.Compare a [.Gt] [b] pos) (tT X E (bO (ak Gn ma mb))):=kU Mj ha hb
theorem Q4(hu:X.A.units+64<cLine)(ha:PE X a (tE X E ma))(hb:PE X b (tE X E mb)):PT X (.Compare a [.Eq] [b] pos) (tT X E (bO (ak fZ ma mb))):=kU (DZ hu) ha hb
theorem Q5(hu:X.A.units+64<cLine)(ha:PE X a (tE X E ma))(hb:PE X b (tE X E mb)):PT X (.Compare a [.NotEq] [b] pos) (tT X E (bO (ak jJ ma mb))):=kU (D0 hu) ha hb
theorem Q6(hu:X.A.units+64<cLine)(ha:PE X a (tE X E ma))(hb:PE X b (tE X E mb)):PE X (.Compare a [.Eq] [b] pos) (tE X E (ak fZ ma mb)):=DK (DZ hu) ha hb
theorem Q7(hu:X.A.units+64<cLine)(ha:PE X a (tE X E ma))(hb:PE X b (tE X E mb)):PE X (.Compare a [.NotEq] [b] pos) (tE X E (ak jJ ma mb)):=DK (D0 hu) ha hb
end
end MN
namespace MN
open Spec L2
open PyProof.Rows hiding St kindOf
theorem dE{P:_W}{sc:Scope}(a:sc.kind=.function:=by rfl)(b:sc.isCoroutine=false:=by rfl)(c:sc.isGenerator=false:=by rfl)(d:N.Nodup:=by decide +kernel)(e:N.take P.length=P:=by rfl)(f:∀x∈P,sc.names.lookup x=some .local\/sc.names.lookup x=some .cell:=by decide +kernel)(g:∀y∈sc.names,y.2≠.free:=by decide +kernel):dF N P sc:=⟨a,b,c,d,e,f,g⟩
theorem jU{k:Nat}{cl:List (Str×_Z)}(o6:closureFor scope X.env=pure cl:=by rfl)(A:f_ X scope cl a_:=by repeat first|exact .nil|refine .cons (by rfl) (by rfl) (by first|exact Or.inl rfl|exact Or.inr rfl) (by first|exact Or.inl rfl|exact Or.inr rfl) ?_)(has:((relabel scope X.env).names.all fun p => !(p.2 == .cell || p.2 == .free) || (cl.map (·.1)).contains p.1)=true:=by rfl)(fu:(scope.names.all fun p => !(p.2 == .cell))=true:=by rfl)(kind:scope.kind=.function:=by rfl)(names:(scope.names.all fun p => !(p.2 == .local) || scope.names.lookup p.1==some .local)=true:=by rfl)(len:N.length=k+a_.length:=by rfl)(hN:N.drop k=cl.map (·.1):=by rfl):rQ X N scope cl k a_:=Qo o6 A has fu kind names len hN
theorem AL{k:Nat}{cl cl':List (Str×_Z)}{caps':List Nat}(o6:closureFor scope X.env=pure cl':=by rfl)(A:f_ X scope cl a_:=by repeat first|exact .nil|refine .cons (by rfl) (by rfl) (by first|exact Or.inl rfl|exact Or.inr rfl) (by first|exact Or.inl rfl|exact Or.inr rfl) ?_)(B:f_ X scope cl' caps':=by repeat first|exact .nil|refine .cons (by rfl) (by rfl) (by first|exact Or.inl rfl|exact Or.inr rfl) (by first|exact Or.inl rfl|exact Or.inr rfl) ?_)(has:((relabel scope X.env).names.all fun p => !(p.2 == .cell || p.2 == .free) || (cl'.map (·.1)).contains p.1)=true:=by rfl)(fu:(scope.names.all fun p => !(p.2 == .cell))=true:=by rfl)(kind:scope.kind=.function:=by rfl)(names:(scope.names.all fun p => !(p.2 == .local) || scope.names.lookup p.1==some .local)=true:=by rfl)(len:N.length=k+a_.length:=by rfl)(hN:N.drop k=cl.map (·.1):=by rfl):rQ X N scope cl' k a_:=Qr o6 A B has fu kind names len hN
section
variable{K:_R}
def MgK(K:_R)(mg:_P):Prop:=∀x f,W.nsIn K mainGlobals x=some (some (.ref f))->mg x=some (.ref f)
theorem ir{x:Str}:∀{l:_W},IT mg l->x∈l->mg x=none
 |y::l,h,hx=>by
  rcases VU.mp hx with e|e
  .rw[e];exact h.1
  .exact ir h.2 e
theorem NR{x:Str}:∀{l:_W},IU K mg l->x∈l->Ea K mg x
 |y::l,h,hx=>by
  rcases VU.mp hx with e|e
  .rw[e];exact h.1
  .exact NR h.2 e
theorem iqq{x:Str}{l:_W}(h:IT mg l)(d:x∈l:=by decide +kernel):mg x=none:=ir h d
theorem nqq{x:Str}{l:_W}(h:IU K mg l)(d:x∈l:=by decide +kernel):Ea K mg x:=NR h d
theorem FnAt.jg{st:Stmt}{k:Nat}(F:dG K x st)(hm:MgK K mg)(S:dF N ps (aC st))
  (h:∀ (f:_Z) (dh:_X) (A:_0) (outer:List PySem.Env) (s:_Y) (H:Hp) (E:XK),N.Nodup->d0 k (A.deeper (envOfC x (aC st) s.heap.objs.size f dh)) ->
   i' (fN (iL P w) P w K mg base N x (aC st) f dh A outer s H E) (bZ st) (tS (fN (iL P w) P w K mg base N x (aC st) f dh A outer s H E) E body))
  (hb:∀ (kV doc pm:_X) (an:Option _Z) (dh ct:_X) (us:_T),us.length=ps.length->bindArgs (W.fnOf x x (eM st) (bZ st) (aC st) .none kV doc pm an dh ct) ⟨us,[]⟩=pure (ps.zip us):=by
   first|exact fun _ _ _ _ _ _=>MM fun _=>rfl|exact fun _ _ _ _ _ _=>MP fun _ _=>rfl|exact fun _ _ _ _ _ _=>H_ fun _ _ _=>rfl|exact fun _ _ _ _ _ _=>len0 rfl):FnAt P w K mg base x (k+1) (gC ps.length N.length body):=by
 obtain⟨f,fd,F,a⟩:=F;exact FnAt.mk F (hm _ _ a) S hb fun dh A outer s H E=>h f dh A outer s H E S.nd
end
end MN
namespace qz
open Spec L2 MN
open PyProof.Rows hiding St
noncomputable def Q8:List (Str×Str×Bool):=[(("NoRing":Str),("ByNought":Str),false),(("NoRing":Str),("NotWhole":Str),false),(("NoRing":Str),("NoMeet":Str),false),(("NoRing":Str),("NoParts":Str),false),(("NoRing":Str),("NoCount":Str),false),(("NoRing":Str),("NoInverse":Str),false),(("NoRing":Str),("NoLead":Str),false),(("NoRing":Str),("NoOrder":Str),false),(("NoRing":Str),("NoPrime":Str),false),(("NoRing":Str),("NoRing":Str),true),(("NoRing":Str),("NoSums":Str),false),(("NoRing":Str),("NoTerm":Str),false),(("NoRing":Str),("NotPlain":Str),false),(("NoRing":Str),("NotWritten":Str),false),(("NoRing":Str),("NoUnknowns":Str),false),(("NoRing":Str),("AlgebraError":Str),true),(("NoUnknowns":Str),("ByNought":Str),false),(("NoUnknowns":Str),("NotWhole":Str),false),(("NoUnknowns":Str),("NoMeet":Str),false),(("NoUnknowns":Str),("NoParts":Str),false),(("NoUnknowns":Str),("NoCount":Str),false),(("NoUnknowns":Str),("NoInverse":Str),false),(("NoUnknowns":Str),("NoLead":Str),false),(("NoUnknowns":Str),("NoOrder":Str),false),(("NoUnknowns":Str),("NoPrime":Str),false),(("NoUnknowns":Str),("NoRing":Str),false),(("NoUnknowns":Str),("NoSums":Str),false),(("NoUnknowns":Str),("NoTerm":Str),false),(("NoUnknowns":Str),("NotPlain":Str),false),(("NoUnknowns":Str),("NotWritten":Str),false),(("NoUnknowns":Str),("NoUnknowns":Str),true),(("NoUnknowns":Str),("AlgebraError":Str),true),(("NoCount":Str),("ByNought":Str),false),(("NoCount":Str),("NotWhole":Str),false),(("NoCount":Str),("NoMeet":Str),false),(("NoCount":Str),("NoParts":Str),false),(("NoCount":Str),("NoCount":Str),true),(("NoCount":Str),("NoInverse":Str),false),(("NoCount":Str),("NoLead":Str),false),(("NoCount":Str),("NoOrder":Str),false),(("NoCount":Str),("NoPrime":Str),false),(("NoCount":Str),("NoRing":Str),false),(("NoCount":Str),("NoSums":Str),false),(("NoCount":Str),("NoTerm":Str),false),(("NoCount":Str),("NotPlain":Str),false),(("NoCount":Str),("NotWritten":Str),false),(("NoCount":Str),("NoUnknowns":Str),false),(("NoCount":Str),("AlgebraError":Str),true),(("ByNought":Str),("ByNought":Str),true),(("ByNought":Str),("NotWhole":Str),false),(("ByNought":Str),("NoMeet":Str),false),(("ByNought":Str),("NoParts":Str),false),(("ByNought":Str),("NoCount":Str),false),(("ByNought":Str),("NoInverse":Str),false),(("ByNought":Str),("NoLead":Str),false),(("ByNought":Str),("NoOrder":Str),false),(("ByNought":Str),("NoPrime":Str),false),(("ByNought":Str),("NoRing":Str),false),(("ByNought":Str),("NoSums":Str),false),(("ByNought":Str),("NoTerm":Str),false),(("ByNought":Str),("NotPlain":Str),false),(("ByNought":Str),("NotWritten":Str),false),(("ByNought":Str),("NoUnknowns":Str),false),(("ByNought":Str),("AlgebraError":Str),true)]
def tab:List (Str×Str×Bool):=Q8++Q1 ["NoRing","NoUnknowns","NoCount","ByNought"]
def kn:_W:=["NoRing","NoUnknowns","NoCount","ByNought"]
noncomputable def bS:Str->ai->cD ao:=U5 1 (aB (aG 1 (bW (aa (dQ (bP tab) kn 0 "ByNought") (aa (dQ (bP tab) kn 0 "NotWhole") (aa (dQ (bP tab) kn 0 "NoMeet") aj))))) (aB (aG 1 (ak a8 (ae 1) (bW (aa (dQ (bP tab) kn 0 "NoParts") (aa (dQ (bP tab) kn 0 "NoCount") (aa (dQ (bP tab) kn 0 "NoInverse") aj)))))) (aB (aG 1 (ak a8 (ae 1) (bW (aa (dQ (bP tab) kn 0 "NoLead") (aa (dQ (bP tab) kn 0 "NoOrder") (aa (dQ (bP tab) kn 0 "NoPrime") aj)))))) (aB (aG 1 (ak a8 (ae 1) (bW (aa (dQ (bP tab) kn 0 "NoRing") (aa (dQ (bP tab) kn 0 "NoSums") (aa (dQ (bP tab) kn 0 "NoTerm") aj)))))) (aB (aG 1 (ak a8 (ae 1) (bW (aa (dQ (bP tab) kn 0 "NotPlain") (aa (dQ (bP tab) kn 0 "NotWritten") (aa (dQ (bP tab) kn 0 "NoUnknowns") aj)))))) (aB (fw (gE (cN (bO (dQ (bP tab) kn 0 "AlgebraError"))) (gE (cN (bO (yG (bP tab) 0 "ValueError"))) (bO (ak jJ (iP jT (ae 1) (aa (mC (.bl true)) aj)) (mC (.int 1)))))) (aP (jI (mC (.int 1)))) aX) (aP (iP lh (ae 1) (aa (mC (.bl true)) aj)))))))))
def cT(M:eQ):FN:=gC 3 4 (qe (qd (MF kn) (aP (ah (PM.cP M) (wC (aa (ae 0) (aa (ae 1) (aa (ae 2) aj)))))) (Gp (bP tab) "AlgebraError" 3 (aP (iH 3 bS)) yE)))
def tM(M:eQ):MB:=(aP (l_ (ak fZ (bz 1 [] (bJ (ah (PM.cP M) (aa (ak cw (ae 5) (mC (.int 0))) (aa (ak cw (ae 5) (mC (.int 1))) (aa (ae 4) aj))))) (au 0) aV (ah fO (aa (ae 0) aj))) (ae 9)) (ak fZ (ae 5) (bW (aa (ae 2) (aa (ae 3) aj))))))
def tN(M:eQ):MB:=(aB (fw (cN (bO (ah PM.gZ (aa (ah fO (aa (ae 6) aj)) aj)))) (aP (mC (.bl false))) aX) (tM M))
def tO(M:eQ):MB:=(aB (aG 9 (bz 1 [] (bJ (ae 6)) (au 0) aV (ah fO (aa (ae 0) aj)))) (tN M))
def tP(M:eQ):MB:=(aB (fw (bO (ak jJ (ah PM.a! (aa (ak cw (ae 6) (mC (.int 0))) (aa (ae 2) aj))) (ah PM.c! (aa (ah PM.a! (aa (ak cw (ae 6) (mC (.int 1))) (aa (ae 3) aj))) (aa (ak cw (ae 6) (mC (.int 2))) aj))))) (aP (mC (.bl false))) aX) (tO M))
def qA(M:eQ):MB:=(aB (fw (gE (bO (ak jJ (ak cw (ae 6) (mC (.int 0))) (ah PM.fC (aa (ah PM.h_ (aa (ae 3) (aa (ae 4) aj))) (aa (ae 8) aj))))) (bO (ak ET (ah PM.aQ (aa (ak cw (ae 6) (mC (.int 2))) (aa (ae 4) aj))) (ah PM.aQ (aa (ae 3) (aa (ae 4) aj)))))) (aP (mC (.bl false))) aX) (tP M))
def xh(M:eQ):MB:=(aB (aG 8 (ah u3 (aa (mC (.int 0)) (aa (ak a8 (ak jH (ah PM.aQ (aa (ae 2) (aa (ae 4) aj))) (ah PM.aQ (aa (ae 3) (aa (ae 4) aj)))) (mC (.int 1))) aj)))) (qA M))
def xi(M:eQ):MB:=(aB (dM (bJ (ae 6)) (au 7) (fw (cN (bO (ah PM.cC (aa (ae 7) (aa (ae 1) aj))))) (aP (mC (.bl false))) aX)) (xh M))
def xj(M:eQ):MB:=(aB (fw (gE (cN (bO (x_ "tuple" (ae 6)))) (gE (bO (ak jJ (ah fe (aa (ae 6) aj)) (mC (.int 3)))) (bO (ak jJ (ae 5) (bW (aa (ae 2) (aa (ae 3) aj))))))) (aP (mC (.bl false))) aX) (xi M))
def jV(M:eQ):MB:=(aB (fw (bO (ak fZ (ae 3) (bW aj))) (aP (l_ (ak fZ (ae 6) (mC (.int 0))) (ak fZ (ah (cT M) (aa (bW aj) (aa (bW aj) (aa (ae 4) aj)))) (mC (.int 0))))) aX) (xj M))
def ie(M:eQ):MB:=(aB (aG 6 (ah (cT M) (aa (ak cw (ae 5) (mC (.int 0))) (aa (ak cw (ae 5) (mC (.int 1))) (aa (ae 4) aj))))) (jV M))
def qC(M:eQ):MB:=(aB (aG 5 (bW (aa (ah fO (aa (ae 2) aj)) (aa (ah fO (aa (ae 3) aj)) aj)))) (ie M))
def xk(M:eQ):MB:=(aB (aG 4 (ak dJ (ah PM.bh (aa (ae 0) (aa (mC (.int 4)) aj))) (ae 1))) (qC M))
def mK(M:eQ):MB:=(aB (HJ (bX [(au 2),(au 3)]) (ah PM.i9 (aa (ae 0) (aa (ae 1) aj)))) (xk M))
def xn(M:eQ):FN:=gC 1 10 (aB (aG 1 (ak a8 (mC (.int 1)) (ak dJ (ah PM.bh (aa (ae 0) (aa (mC (.int 0)) aj))) (mC (.int 4))))) (mK M))
end qz
namespace PG
open Spec L2 MN
open PyProof.Rows hiding St kindOf
theorem fU(i:Int)(st:ai):PM.fR [.int i] st=.ok (.bl true) st:=rfl
def FP:_S:=[2,3,5,7,11,13,17,19,23,29,31]
def IV(n:Int):Bool:=FP.contains n || (decide (2<=n)&&decide (n<=997)&&FP.all fun p => !(n.fmod p==0))
theorem any_ints(n:Int)(ns:_S):(ns.map ao.int).any (fun y=>Ao y (.int n))=ns.contains n:=by
 induction ns with
 |nil=>rfl
 |cons m ns ih=>
  simp only[VB,Xf,List.contains_cons];rw[ih];congr 1;show(m==n)=(n==m);rw[Bool.eq_iff_iff,Wr,Wr];exact⟨Eq.symm,Eq.symm⟩
theorem IW(n:Int)(ns:_S)(st:ai):Mn false (.int n) (.mt (ns.map ao.int)) st=.ok (.bl (ns.contains n)) st:=by
 have h1:(ns.map ao.int).all flat=true:=by rw[List.all_map];exact Wh.mpr fun _ _=>rfl
 unfold Mn J?;dsimp only;rw[Vu ⟨rfl,h1⟩,any_ints];rfl
theorem IX(ns:_S)(f:Int->Bool):l? ((ns.map ao.int).map fun v=>match v with|.int i=>.bl (f i)|_=>.dc)=some (ns.map f):=by
 induction ns with
 |nil=>rfl
 |cons m ns ih=>
  simp only[VB,l?]at ih⊢;rw[ih];rfl
theorem kF(n:Int)(st:ai):∃g,PM.b? [.int n] st=.ok (.bl (IV n)) (st++g):=by
 have J2:Mn false (.int n) PM.fQ st=.ok (.bl (FP.contains n)) st:=IW n FP st;cases h1:FP.contains n with
 |true=>
  refine⟨[],?_⟩;rw[h1]at J2;simp only[PM.b?,bw,ar,aE,qh,e_,du,ff,dg,gR,jP,jz,e!,d6,ay,ba,ef,eg,VB,Wg,V5,Nat.reduceSub,Vt,VY,Nat.reduceAdd,J2,VZ,IV,h1,ZY]
 |false=>
  rw[h1]at J2;by_cases h2:n<2
  .refine⟨[],?_⟩;have e2:decide (n<2)=true:=VV h2;have e3:decide (2<=n)=false:=VR (by lia);simp only[PM.b?,bw,ar,aE,az,qh,e_,du,ff,dg,Ii,gR,jP,f?,jz,e!,d6,nJ,ay,iy,ba,ef,tq,eg,VB,Wg,V5,Nat.reduceSub,Vt,VY,Nat.reduceAdd,J2,e2,VZ,IV,h1,e3,XS,YA]
  .have e2:decide (n<2)=false:=VR h2;have e3:decide (2<=n)=true:=VV (by lia);by_cases h3:997<n
   .refine⟨[],?_⟩;have e4:decide (997<n)=true:=VV h3;have e5:decide (n<=997)=false:=VR (by lia);simp only[PM.b?,bw,ar,aE,az,qh,e_,du,ff,dg,mD,gR,jP,f?,jz,e!,d6,nJ,ay,iy,ba,ef,tq,Kl,eg,VB,Wg,V5,Nat.reduceSub,Vt,VY,Nat.reduceAdd,J2,e2,e4,VZ,IV,h1,e3,e5,XS,YA,YM]
   .have e4:decide (997<n)=false:=VR h3;have e5:decide (n<=997)=true:=VV (by lia)
    let f:ao->ao:=fun v=>match v with|.int i=>.bl (!(n.fmod i==0))|_=>.dc
    have hc:dN (fun _=>True) (au 0) aV (ak jJ (ak dJ (ae 1) (ae 0)) (mC (ao.int 0))) (FP.map ao.int) (jy 1 [0] [some (ao.int n)]) st []=.ok ([]++((FP.map ao.int).filter fun _=>true).map f) st:=by
     refine cz trivial (fun τ=>∃x,τ=[x,some (.int n)]) (fun _=>true) f (FP.map ao.int) _ [] ⟨none,rfl⟩ ?_;rintro u hu τ ⟨x,rfl⟩;obtain⟨i,hi,rfl⟩:=VH.mp hu;have U7:¬ i=0:=by intro z;subst z;revert hi;decide
     refine⟨_,rfl,⟨_,rfl⟩,rfl,fun _=>?_⟩;simp only[ar,du,ff,dg,jz,Ep,eg,gS,WT,fT U7,f]
    have hb:l? (((FP.map ao.int).filter fun _=>true).map f)=some (FP.map fun i => !(n.fmod i==0)):=by rw[WL.mpr (fun _ _=>rfl)];exact IX FP fun i => !(n.fmod i==0)
    refine⟨[.lst (((FP.map ao.int).filter fun _=>true).map f)],?_⟩;have ha:BL [.loc st.length] (st++[.lst (((FP.map ao.int).filter fun _=>true).map f)])=.ok (.bl (IV n)) (st++[.lst (((FP.map ao.int).filter fun _=>true).map f)]):=by unfold BL;dsimp only;rw[bH];dsimp only;rw[hb];simp only[IV,h1,e3,e5,XS,YM,List.all_map];rfl
    have hw:tm PM.fQ st=.ok (FP.map ao.int,fun _=>True) st:=rfl;have hz:(FP.map ao.int).length=11:=rfl;rw[VM]at hc;simp only[PM.b?,bw,ar,aE,az,e_,du,ff,dg,mD,bC,a7,gR,f?,jd,gG,jz,e!,d6,nJ,cH,aZ,dU,ay,iy,ba,ef,fm,b_,tq,Kl,eg,VB,Wg,Wa,VM,V5,Nat.reduceSub,Vt,VY,Nat.reduceAdd,VT,Nat.reduceLeDiff,↓reduceIte,J2,e2,e4,hw,hc,ha,hz]
end PG
namespace M03
end M03
namespace PG
open Spec L2 MN
open PyProof.Rows hiding St kindOf
def dR(n:Int):Bool:=n==0 || IV n
theorem xo(n:Int)(st:ai):∃g,PM.j9 [.int n] st=.ok (.bl (dR n)) (st++g):=by
 cases h:n==0 with
 |true=>exact⟨[],by simp only[PM.j9,bw,ar,aE,e_,du,ff,dg,mB,M3,bC,a7,gR,jz,nI,Kg,cH,aZ,dU,ba,kH,eg,VB,Wg,V5,Nat.reduceSub,Vt,VY,Nat.reduceAdd,fU,h,dR,ZY,VZ]⟩
 |false=>
  obtain⟨g,e⟩:=kF n st;exact⟨g,by simp only[PM.j9,bw,ar,aE,e_,du,ff,dg,mB,M4,bC,a7,gR,jz,nI,Kg,cH,aZ,dU,ba,kH,eg,VB,Wg,Wa,VM,V5,Nat.reduceSub,Vt,VY,Nat.reduceAdd,fU,h,dR,XS,e]⟩
theorem gm{n:Int}(h:dR n=true)(st:ai):∃g,PM.bq [.int n] st=.ok .dc (st++g):=by obtain⟨g,e⟩:=xo n st;rw[h]at e;exact⟨g,by simp only[PM.bq,bw,ar,aE,MY,El,bC,a7,f?,e!,d6,u6,cH,aZ,dU,iy,ef,eg,VB,Wg,Wa,VM,V5,Nat.reduceSub,Vt,VY,Nat.reduceAdd,W?,e]⟩
theorem Cg{p:Int}(h:IV p=true):2<=p/\p<=997:=by
 unfold IV at h;rw[Zm]at h;rcases h with h|h
 .have:p∈FP:=by simpa using h
  simp only[FP,VU,X?,X_]at this;omega
 .simp only[Wv,WA]at h;omega
theorem E6{p:Int}(hp:0<p)(i:Int):i.fmod p=i % p:=Zr i (by lia)
theorem IY{k:Int}(h0:0<=k)(h1:k<(ns.length:Int)):∃c:Int,L2.rN (ns.map ao.int) k=some (.int c):=by
 have hk:k.toNat<ns.length:=by lia
 refine⟨ns[k.toNat],?_⟩;have e:=L2.iu (xs:=ns.map ao.int) (j:=k.toNat) (v:=.int ns[k.toNat]) (by rw[VF,Vp hk];rfl);rw[show((k.toNat:Nat):Int)=k by lia]at e;exact e
theorem f9{m:Int}(hm:0<m)(i:Int):0<=i.fmod m/\i.fmod m<m:=by rw[E6 hm];exact⟨Int.emod_nonneg _ (by lia),Int.emod_lt_of_pos _ hm⟩
theorem vc{j:Int}(h:0<j)(h1:j<2 ^ 64):Dz j:=by refine Dz.of (k:=64) (by lia) ?_ (by decide);show j.natAbs<2 ^ 64;lia
def dvP(n:Int)(u:ao):Bool:=match u with
 |.int b=>decide (b<n)&&(n.fmod b==0)
 |_=>false
def GW(n:Int):List ao:=(cF 2 30).filter (dvP n)
def yY(lo:Int)(n:Nat):_S:=(List.range n).map fun(i:Nat)=>lo+(i:Int)
theorem gy(lo:Int)(n:Nat):cF lo n=(yY lo n).map ao.int:=by unfold cF yY;rw[VN];rfl
theorem E7(ns:_S):(ns.map ao.int).length=ns.length:=Vm ..
theorem at_getD{i:Int}(h0:0<=i)(h1:i<(ns.length:Int)):L2.rN (ns.map ao.int) i=some (.int (ns.getD i.toNat 0)):=by
 have hk:i.toNat<ns.length:=by lia
 have e:=L2.iu (xs:=ns.map ao.int) (j:=i.toNat) (v:=.int ns[i.toNat]) (by rw[VF,Vp hk];rfl);rw[show((i.toNat:Nat):Int)=i by lia]at e;rw[e,V8,Vp hk];rfl
theorem E8{k:Int}(h:aq st n=some (ns.map ao.int))(k0:0<=k)(k1:k<=1000):∃o,PM.bh [.loc n,.int k] st=.ok (.int o) st:=by
 have len:((List.map ao.int ns).length:Int)=(ns.length:Int):=by rw[Vm]
 have dz:Dz 2147483629:=vc (by decide) (by decide);have fin:∀c:Int,((decide (k<((List.map ao.int ns).length:Int))=false/\c=0)\/(decide (k<((List.map ao.int ns).length:Int))=true/\L2.rN (ns.map ao.int) k=some (.int c)))->∃o,PM.bh [.loc n,.int k] st=.ok (.int o) st:=by
  intro c hc;have q1:=f9 (m:=2147483647) (by decide) ((c.fmod 2147483629+7919*(k+1))*48271);generalize hx:((c.fmod 2147483629+7919*(k+1))*48271).fmod 2147483647=x at q1;have q2:=f9 (m:=2147483629) (by decide) (x*x);have q3:=f9 (m:=2147483647) (by decide) ((x*x).fmod 2147483629*69621);generalize hy:((x*x).fmod 2147483629*69621).fmod 2147483647=y at q3;refine⟨(c.fdiv 2147483629*2147483647+y)*2147483629+(y*y).fmod 2147483629,?_⟩;have m1:∀s,cu (.int x) (.int x) s=.ok (.int (x*x)) s:=fun s=>je (by lia) (by lia);have m2:∀s,cu (.int y) (.int y) s=.ok (.int (y*y)) s:=fun s=>je (by lia) (by lia);rcases hc with⟨h1,rfl⟩|⟨h1,h2⟩
  .simp only[PM.bh,bw,ar,aE,az,e_,du,ff,dg,bC,a7,gR,f?,wO,jz,e!,d6,cH,aZ,dU,ay,iy,ba,ef,hJ,k_,tq,eg,Eo,gS,VB,Wg,Wa,VM,Wk,V5,WT,XQ,Nat.reduceSub,Vt,VY,Nat.reduceAdd,mE h,h1,fT (j:=2147483629) (by decide),je (i:=7919) (by decide) (by decide),mul_r (j:=48271) (by decide) (by decide),fT (j:=2147483647) (by decide),hx,m1,mul_r (j:=69621) (by decide) (by decide),hy,m2,div_ii dz,mul_r (j:=2147483647) (by decide) (by decide),mul_r (j:=2147483629) (by decide) (by decide)]
  .simp only[PM.bh,bw,ar,aE,az,e_,du,ff,dg,bC,a7,gR,jP,wO,jz,e!,d6,cH,aZ,dU,ay,ba,ef,hJ,k_,tq,eg,Eo,gS,VB,Wg,Wa,VM,Wk,V5,WT,XQ,Nat.reduceSub,Vt,VY,Nat.reduceAdd,mE h,h1,nL h h2,fT (j:=2147483629) (by decide),je (i:=7919) (by decide) (by decide),mul_r (j:=48271) (by decide) (by decide),fT (j:=2147483647) (by decide),hx,m1,mul_r (j:=69621) (by decide) (by decide),hy,m2,div_ii dz,mul_r (j:=2147483647) (by decide) (by decide),mul_r (j:=2147483629) (by decide) (by decide)]
 by_cases hk:k<(ns.length:Int)
 .obtain⟨c,hc⟩:=IY k0 hk;exact fin c (.inr ⟨VV (by rw[len];exact hk),hc⟩)
 .exact fin 0 (.inl ⟨VR (by rw[len];exact hk),rfl⟩)
theorem yZ(c kind:Int)(c0:0<=c)(c1:c<2147483647):∃v,(∀st,PM.bK [.int c,.int kind] st=.ok (.int v) st)/\-(10 ^ 20)<=v/\v<=10 ^ 20:=by
 have cp:C8 10 20:=by decide
 have tn:(10:Int) ^ Int.toNat 20=100000000000000000000:=by decide
 have m1:∀s,cu (.int c) (.int c) s=.ok (.int (c*c)) s:=fun s=>je (by lia) (by lia);by_cases h0:kind=0
 .have e0:(kind==0)=true:=by rw[h0];rfl
  have q:=f9 (m:=7) (by decide) c;refine⟨c.fmod 7-3,fun st=>?_,by lia,by lia⟩;simp only[PM.bK,bw,ar,aE,qh,e_,du,ff,dg,gR,jP,jz,e!,d6,ay,ba,ef,yN,kH,eg,gS,VB,Wg,Wa,VM,V5,Nat.reduceSub,Vt,VY,Nat.reduceAdd,e0,fT (j:=7) (by decide)]
 .have e0:(kind==0)=false:=by simpa using h0
  by_cases h1:kind=1
  .have e1:(kind==1)=true:=by rw[h1];rfl
   have q:=f9 (m:=199) (by decide) c;refine⟨c.fmod 199-99,fun st=>?_,by lia,by lia⟩;simp only[PM.bK,bw,ar,aE,az,qh,e_,du,ff,dg,gR,jP,f?,jz,e!,d6,ay,iy,ba,ef,yN,kH,eg,gS,VB,Wg,Wa,VM,V5,Nat.reduceSub,Vt,VY,Nat.reduceAdd,e0,e1,fT (j:=199) (by decide)]
  .have e1:(kind==1)=false:=by simpa using h1
   have q:=f9 (m:=2*100000000000000000000+1) (by decide) (c*c*69621);refine⟨(c*c*69621).fmod (2*100000000000000000000+1)-100000000000000000000,fun st=>?_,by lia,by lia⟩;simp only[PM.bK,bw,ar,aE,az,e_,du,ff,dg,gR,f?,jz,e!,d6,ay,iy,ba,ef,k_,yN,kH,eg,gS,VB,Wg,Wa,VM,V5,Nat.reduceSub,Vt,VY,Nat.reduceAdd,e0,e1,m1,mul_r (j:=69621) (by decide) (by decide),M? cp,tn,je (i:=2) (by decide) (by decide),fT (j:=2*100000000000000000000+1) (by decide)]
abbrev aA:=List Int×Int
def tV(t:aA):ao:=.tup [ax t.1,.int t.2]
def eD(t:aA):List da×ao:=(iK t.1,.int t.2)
def bg(A:List aA)(k:_S):Int:=((A.find? fun p=>decide (p.1=k)).map (·.2)).getD 0
def gH(A:List aA)(k:_S)(v:Int):List aA:=if A.any (fun p=>decide (p.1=k))then A.map (fun p=>if p.1=k then(p.1,v)else p)else A++[(k,v)]
theorem E9(a k:_S):decide (iK a=iK k)=decide (a=k):=by
 by_cases h:a=k
 .rw[h,VV rfl,VV rfl]
 .rw[VR h,VR fun e=>h (EJ e)]
theorem AM(k:_S):∀A:List aA,uV (A.map eD) (iK k)=(A.find? fun p=>decide (p.1=k)).map fun p=>ao.int p.2
 |[]=>rfl
 |p::A=>by
  unfold uV;rw[VB,Xa,Xa];show Option.map _ (match decide (iK p.1=iK k) with|true=>some (eD p)|false=>_)=_;rw[E9];cases decide (p.1=k) with
  |true=>rfl
  |false=>exact AM k A
theorem E_(k:_S):∀A:List aA,((A.map eD).any fun kv=>decide (kv.1=iK k))=A.any fun p=>decide (p.1=k)
 |[]=>rfl
 |p::A=>by rw[VB,Xf,Xf,E_ k A];show(decide (iK p.1=iK k) || _)=_;rw[E9]
theorem AN(A:List aA)(k:_S)(v:Int):uW (A.map eD) (iK k) (.int v)=(gH A k v).map eD:=by
 unfold uW gH;rw[E_];by_cases h:(A.any fun p=>decide (p.1=k))=true
 .rw[Vu h,Vu h,VN,VN];refine V7 fun p _=>?_;show(if iK p.1=iK k then(iK p.1,ao.int v)else eD p)=eD (if p.1=k then(p.1,v)else p);by_cases e:p.1=k
  .rw[Vu e,Vu (by rw[e])];rfl
  .rw[VA e,VA fun z=>e (EJ z)]
 .rw[VA h,VA h,WI];rfl
theorem nR(k:_S):jL (ax k)=some (iK k):=by
 have h:∀k:_S,keysOf (k.map ao.int)=some (iK k):=by
  intro k
  induction k with
  |nil=>rfl
  |cons x k ih=>
   rw[VB];unfold keysOf;show(match dO (ao.int x),keysOf (k.map ao.int) with|some a,some b=>some (a::b)|_,_=>none)=_;rw[ih];rfl
 show keysOf (k.map ao.int)=_;exact h k
theorem vd{A:List aA}(h:st[d]?=some (.dT (A.map eD)))(k:_S):mm st (.loc d) (ax k)=some ((A.find? fun p=>decide (p.1=k)).map fun p=>ao.int p.2):=by unfold mm;dsimp only;rw[h];dsimp only;rw[nR,Option.map_some,AM]
theorem tQ{A:List aA}(h:st[d]?=some (.dT (A.map eD)))(hl:A.length<sizeLine)(k:_S)(v:Int):kZ st (.loc d) (ax k) (.int v)=some (st.set d (.dT ((gH A k v).map eD))):=by unfold kZ;dsimp only;rw[h];dsimp only;rw[Vu (by rw[Vm];exact hl),nR,Option.map_some,AN]
theorem tR(A:List aA)(k:_S):((A.find? fun p=>decide (p.1=k)).map fun p=>ao.int p.2).getD (.int 0)=.int (bg A k):=by
 unfold bg;cases A.find? fun p=>decide (p.1=k) with
 |none=>rfl
 |some p=>rfl
theorem Ci{A:List aA}{k:_S}{v:Int}:(gH A k v).map (·.1)=if A.any (fun p=>decide (p.1=k))then A.map (·.1)else A.map (·.1)++[k]:=by
 unfold gH;by_cases h:(A.any fun p=>decide (p.1=k))=true
 .rw[Vu h,Vu h,VN];refine V7 fun p _=>?_;show(if p.1=k then(p.1,v)else p).1=p.1;split<;>rfl
 .rw[VA h,VA h,WI];rfl
theorem ve{A:List aA}{k:_S}:(A.any fun p=>decide (p.1=k))=true↔k∈A.map (·.1):=by
 rw[List.any_eq_true,VH];constructor
 .rintro⟨p,hp,e⟩;exact⟨p,hp,Wz e⟩
 .rintro⟨p,hp,e⟩;exact⟨p,hp,VV e⟩
theorem qD{A:List aA}(h:(A.map (·.1)).Nodup)(k:_S)(v:Int):((gH A k v).map (·.1)).Nodup:=by
 rw[Ci];by_cases c:(A.any fun p=>decide (p.1=k))=true
 .rw[Vu c];exact h
 .rw[VA c];refine Zz.mpr ⟨h,YE _ _,?_⟩;intro a ha b hb e;rw[V0.mp hb]at e;exact c (ve.mpr (e▸ha))
theorem xp{A:List aA}{k:_S}{v:Int}:(gH A k v).length<=A.length+1:=by
 unfold gH;split
 .rw[Vm];lia
 .rw[Vr];exact Vo _
theorem qE{A:List aA}{k:_S}{v:Int}{t:aA}(h:t∈gH A k v):t∈A\/t=(k,v):=by
 unfold gH at h;split at h
 .obtain⟨p,hp,e⟩:=VH.mp h;by_cases c:p.1=k
  .rw[Vu c]at e;right;rw[<-e,c]
  .rw[VA c]at e;left;rw[<-e];exact hp
 .rcases Wb.mp h with h|h
  .exact .inl h
  .exact .inr (V0.mp h)
theorem xq{A:List aA}{k:_S}(h:k∈A.map (·.1)):(k,bg A k)∈A:=by
 unfold bg;cases z:A.find? fun p=>decide (p.1=k) with
 |none=>
  rw[Zq]at z;obtain⟨p,hp,e⟩:=VH.mp h;exact absurd (VV e) (z p hp)
 |some p=>
  have e:=List.find?_some z;have m:=_q z;have e':p.1=k:=Wz e;show(k,p.2)∈A;rw[<-e'];exact m
theorem y8{A:List aA}{k:_S}{b:Int}(b0:0<=b)(h:∀t∈A,-b<=t.2/\t.2<=b):-b<=bg A k/\bg A k<=b:=by
 unfold bg;cases z:A.find? fun p=>decide (p.1=k) with
 |none=>show -b<=0/\(0:Int)<=b;lia
 |some p=>exact h p (_q z)
abbrev Cj:MB:=k4 (ae 1) (ae 2) (ak a8 (i4 (ae 1) (ae 2) (mC (.int 0))) (ae 3))
theorem E!{s:ai}{A:List aA}{k:_S}{v:Int}(h:s[d]?=some (.dT (A.map eD)))(hl:A.length<sizeLine):
  Cj [some (.loc p),some (.loc d),some (ax k),some (.int v)] s=.nx [some (.loc p),some (.loc d),some (ax k),some (.int v)] (s.set d (.dT ((gH A k (bg A k+v)).map eD))):=by
 have hd:uZ s (.loc d)=true:=by unfold uZ;dsimp only;rw[h]
 have e1:i4 (ae 1) (ae 2) (mC (.int 0)) [some (.loc p),some (.loc d),some (ax k),some (.int v)] s=.ok (.int (bg A k)) s:=by show(if uZ s (.loc d)=true then(match mm s (.loc d) (ax k) with|some o=>cD.ok (o.getD (.int 0)) s|none=>.bad)else .bad)=_;rw[Vu hd,vd h k];show cD.ok (Option.getD _ (ao.int 0)) s=_;rw[tR]
 have e2:ak a8 (i4 (ae 1) (ae 2) (mC (.int 0))) (ae 3) [some (.loc p),some (.loc d),some (ax k),some (.int v)] s=.ok (.int (bg A k+v)) s:=by unfold ak;rw[e1];rfl
 unfold Cj k4;rw[e2];show(match kZ s (.loc d) (ax k) (.int (bg A k+v)) with|some l0=>c6.nx _ l0|none=>.bad)=_;rw[tQ h hl]
theorem set_dict(st:ai)(a b:List (List da×ao)):(st++[aR.dT a]).set st.length (.dT b)=st++[.dT b]:=wU st _ _
theorem pI(st:ai)(a:List (List da×ao)):(st++[aR.dT a])[st.length]?=some (.dT a):=by rw[Vv (Vo _),Wj];rfl
def told(A:List aA):List aA:=((iG (A.map (·.1))).filter fun k=>bg A k !=0).map fun k=>(k,bg A k)
def E?:ao->_S
 |.tup us=>(iz us).getD []
 |_=>[]
theorem qF(k:_S):E? (ax k)=k:=by show(iz (k.map ao.int)).getD []=k;rw[mI];rfl
theorem AO{s:ai}{A:List aA}{k:_S}(h:s[d]?=some (.dT (A.map eD)))(hk:k∈A.map (·.1)):gQ (.loc d) (ax k) s=.ok (.int (bg A k)) s:=by
 unfold gQ;rw[vd h k];unfold bg;cases z:A.find? fun p=>decide (p.1=k) with
 |none=>
  rw[Zq]at z;obtain⟨p,hp,e⟩:=VH.mp hk;exact absurd (VV e) (z p hp)
 |some p=>rfl
abbrev Q9:MT:=bO (ak jJ (ak gQ (ae 1) (ae 0)) (mC (.int 0)))
abbrev Q_:ME:=cq (aa (ae 0) (aa (ak gQ (ae 1) (ae 0)) aj))
theorem Fb{g:ai->Prop}{s:ai}{A:List aA}(hg:g s)(h:s[d]?=some (.dT (A.map eD))):dN g (au 0) Q9 Q_ ((iG (A.map (·.1))).map ax) [none,some (.loc d)] s []=.ok ((told A).map tV) s:=by
 have:=cz (a:=au 0) (c:=Q9) (e:=Q_) hg (fun τ=>∃x,τ=[x,some (.loc d)]) (fun v=>bg A (E? v) !=0) (fun v=>.tup [v,.int (bg A (E? v))]) ((iG (A.map (·.1))).map ax) [none,some (.loc d)] [] ⟨_,rfl⟩ ?_
 .rw[this,VM];congr 1;unfold told;rw[Yo,VN,VN];have e:((fun v=>bg A (E? v) !=0) ∘ ax)=fun k=>bg A k !=0:=by funext k;show(bg A (E? (ax k)) !=0)=_;rw[qF]
  rw[e];refine V7 fun k _=>?_;show ao.tup [ax k,.int (bg A (E? (ax k)))]=_;rw[qF];rfl
 .rintro u hu τ ⟨x,rfl⟩;obtain⟨k,hk,rfl⟩:=VH.mp hu;have J8:=(eB _).mem_iff.mp hk;have e0:ae 0 [some (ax k),some (.loc d)] s=.ok (ax k) s:=rfl;have e1:ak gQ (ae 1) (ae 0) [some (ax k),some (.loc d)] s=.ok (.int (bg A k)) s:=by show gQ (.loc d) (ax k) s=_;exact AO h J8
  refine⟨[some (ax k),some (.loc d)],rfl,⟨_,rfl⟩,?_,fun _=>?_⟩
  .rw[qF];show bO (ak jJ (ak gQ (ae 1) (ae 0)) (mC (.int 0))) [some (ax k),some (.loc d)] s=_;rw[d6,du,e1];simp only[ar,ff,dg,jz,e!,Ep];rfl
  .rw[qF];simp only[i5,aZ,e0,e1,ar,bC,a7,cH,oI];exact Vu (by rw[VT];show 2<=16777216;decide)
theorem xr{μ:MN.Env}:i7 m μ st=(m μ st).iq ER:=jO
def Ck(ns:_S)(lo hi:Option Int):_S:=(ns.drop (HT.e? ns.length 0 lo)).take (HT.e? ns.length ns.length hi-HT.e? ns.length 0 lo)
theorem tU(ns:_S)(lo hi:Option Int):mq (ns.map ao.int) lo hi=(Ck ns lo hi).map ao.int:=by unfold mq Ck;rw[E7,List.map_take,List.map_drop]
theorem Cm{k:Nat}(h:k<=ns.length):Ck ns none (some (k:Int))=ns.take k:=by unfold Ck;rw[HT.lW,HT.j7,Yp,show min k ns.length-0=k by lia]
theorem Cn{k:Nat}(h:k<=ns.length):Ck ns (some (k:Int)) none=ns.drop k:=by unfold Ck;rw[HT.lW,HT.j7,show min k ns.length=k by lia,Wf (by rw[Wl];lia)]
theorem Co{g:ai->Prop}{a:AS}{e:ME}{y:ao}{τ τ1:MN.Env}{a0:ai}{ys:List ao}(hg:g st)(h1:a u τ=some τ1)(h2:e τ1 st=.ok y a0):dN g a aV e (u::us) τ st ys=dN g a aV e us τ1 a0 (ys++[y]):=by rw[dN];rw[Vu hg,h1];dsimp only[aV];rw[h2]
theorem Cp{g:ai->Prop}{a:AS}{c:MT}{e:ME}{τ:MN.Env}{ys:List ao}(hg:g st):dN g a c e [] τ st ys=.ok ys st:=by rw[dN,Vu hg]
def y9(a k:Int):Int:=((a.fmod 1000000007+7919*k+11)*48271).fmod 2147483647
def xt(a k:Int):Int:=(y9 a k*(((y9 a k).fdiv 7).fmod 65536+3)).fmod 2147483647
theorem IZ(a k:Int):0<=xt a k/\xt a k<2147483647:=f9 (by decide) _
theorem Fc(a k:Int)(st:ai):PM.dI [.int a,.int k] st=.ok (.int (xt a k)) st:=by have d7:Dz 7:=vc (by decide) (by decide);have q1:0<=y9 a k/\y9 a k<2147483647:=f9 (by decide) _;have hx:((a.fmod 1000000007+7919*k+11)*48271).fmod 2147483647=y9 a k:=rfl;have m1:∀(j:Int)s,cu (.int (y9 a k)) (.int j) s=.ok (.int (y9 a k*j)) s:=fun j s=>je (by lia) (by lia);simp only[PM.dI,bw,ar,aE,az,e_,du,ff,dg,gR,wO,jz,ay,ba,hJ,k_,eg,gS,VB,Wg,Wa,VM,Wk,V5,WT,XQ,Nat.reduceSub,Vt,VY,Nat.reduceAdd,fT (j:=1000000007) (by decide),je (i:=7919) (by decide) (by decide),mul_r (j:=48271) (by decide) (by decide),fT (j:=2147483647) (by decide),hx,div_ii d7,fT (j:=65536) (by decide),m1];rfl
def gI(cell k power:Int)(af:Nat):_S:=(yY 0 af).map fun j=>(xt cell (5*k+j)).fmod (power+1)
theorem Fd(cell k power:Int)(af:Nat):(gI cell k power af).length=af:=by unfold gI yY;rw[Vm,Vm,WD]
theorem I_{k:Int}(hp:0<=power):∀e∈gI cell k power af,0<=e:=by intro e he;obtain⟨j,_,rfl⟩:=VH.mp he;exact(f9 (by lia) _).1
abbrev OK:ME:=ak dJ (ah PM.dI (aa (ae 1) (aa (ak a8 (ak cu (mC (.int 5)) (ae 2)) (ae 0)) aj))) (ak a8 (ae 3) (mC (.int 1)))
theorem Cq{k:Int}(hp:0<=power)(s:ai):dN (fun _=>True) (au 0) aV OK (cF 0 af) [none,some (.int cell),some (.int k),some (.int power)] s []=.ok ((gI cell k power af).map ao.int) s:=by
 have:=cz (a:=au 0) (c:=aV) (e:=OK) (g:=fun _=>True) (st:=s) trivial (fun τ=>∃x,τ=[x,some (.int cell),some (.int k),some (.int power)]) (fun _=>true)
  (fun v=>match v with|.int j=>.int ((xt cell (5*k+j)).fmod (power+1))|_=>v) (cF 0 af) [none,some (.int cell),some (.int k),some (.int power)] [] ⟨_,rfl⟩ ?_
 .rw[this,VM,gy,WL.mpr fun _ _=>rfl,VN];unfold gI;rw[VN];rfl
 .rintro u hu τ ⟨x,rfl⟩;rw[gy]at hu;obtain⟨j,hj,rfl⟩:=VH.mp hu;refine⟨_,rfl,⟨_,rfl⟩,rfl,fun _=>?_⟩;simp only[OK,ar,du,ff,dg,bC,a7,jz,cH,aZ,dU,k_,eg,gS,WT,je (i:=5) (by decide) (by decide),Fc,fT (j:=power+1) (by lia)]
structure cy(af:Nat)(D:List aA):Prop where
 xu:SO.fh (D.map (·.1))
 len:∀t∈D,t.1.length=af
 nn:∀t∈D,∀e∈t.1,0<=e
 nz:∀t∈D,t.2≠0
abbrev Q!:MB:=aB (aG 7 (ah gW (aa (bz 1 [0,6,3] (cA (aa (ae 1) aj)) (au 0) aV OK) aj))) (cO (iP dS (ae 5) (aa (cq (aa (ae 7) (aa (ah PM.bK (aa (ah PM.dI (aa (ae 0) (aa (ak a8 (ak cu (mC (.int 5)) (ae 6)) (mC (.int 4))) aj))) (aa (ae 4) aj))) aj))) aj)))
theorem I!{k v:Int}{g:ai}{P:List aA}{x7:Option ao}(hm:af<=4)(hp:0<=power)(hP:P.length<=63)(hv:∀s,PM.bK [.int (xt cell (5*k+4)),.int kind] s=.ok (.int v) s):
  Q! [some (.int cell),some (.int af),some (.int terms),some (.int power),some (.int kind),some (.loc st.length),some (.int k),x7] (st ++ .lst (P.map tV)::g) =
   .nx [some (.int cell),some (.int af),some (.int terms),some (.int power),some (.int kind),some (.loc st.length),some (.int k),some (ax (gI cell k power af))] (st ++ .lst ((P++[(gI cell k power af,v)]).map tV)::(g++[.lst ((gI cell k power af).map ao.int)])):=by
 obtain⟨M,hM⟩:∃M:Int,M=(af:Int):=⟨_,rfl⟩
 obtain⟨s,hs⟩:∃s,st++aR.lst (P.map tV)::g=s:=⟨_,rfl⟩
 rw[hs,<-hM];have SD:=u9 (st:=s) (j:=M) (by lia) (by lia);rw[show M.toNat=af by lia]at SD;have rl:(cF 0 af).length=af:=by rw[gy];unfold yY;rw[Vm,Vm,WD]
 have wA:jy 1 [0,6,3] [some (ao.int cell),some (.int M),some (.int terms),some (.int power),some (.int kind),some (.loc st.length),some (.int k),x7]=[none,some (.int cell),some (.int k),some (.int power)]:=rfl;have sz:af<=sizeLine:=by rw[VT];lia
 have comp:bz 1 [0,6,3] (cA (aa (ae 1) aj)) (au 0) aV OK [some (.int cell),some (.int M),some (.int terms),some (.int power),some (.int kind),some (.loc st.length),some (.int k),x7] s=.ok (.loc s.length) (s++[.lst ((gI cell k power af).map ao.int)]):=by
  have a1:cA (aa (ae 1) aj) [some (ao.int cell),some (.int M),some (.int terms),some (.int power),some (.int kind),some (.loc st.length),some (.int k),x7] s=.ok (cF 0 af,fun _=>True) s:=by simp only[ar,bC,a7,cH,aZ,u7,eg,gS,SD]
  rw[fm,a1,ar,gG,Vu (by rw[rl];exact sz),wA,Cq hp,ar,jd]
 obtain⟨s2,eV⟩:∃s2,s++[aR.lst ((gI cell k power af).map ao.int)]=s2:=⟨_,rfl⟩
 have tup:gW [.loc s.length] s2=.ok (ax (gI cell k power af)) s2:=by rw[<-eV];exact pF (bH s _)
 have U8:aG 7 (ah gW (aa (bz 1 [0,6,3] (cA (aa (ae 1) aj)) (au 0) aV OK) aj)) [some (.int cell),some (.int M),some (.int terms),some (.int power),some (.int kind),some (.loc st.length),some (.int k),x7] s =
   .nx [some (.int cell),some (.int M),some (.int terms),some (.int power),some (.int kind),some (.loc st.length),some (.int k),some (ax (gI cell k power af))] s2:=by
  rw[hJ,dU,aZ,comp,ar,bC,cH,ar,a7,ar,eV,tup];rfl
 have cellAt:s2[st.length]?=some (.lst (P.map tV)):=by rw[<-eV,<-hs,Vs];exact Nh st _ _
 have ap:=nM (v:=tV (gI cell k power af,v)) cellAt (by rw[Vm,VT];lia);have arg:aa (cq (aa (ae 7) (aa (ah PM.bK (aa (ah PM.dI (aa (ae 0) (aa (ak a8 (ak cu (mC (.int 5)) (ae 6)) (mC (.int 4))) aj))) (aa (ae 4) aj))) aj))) aj
   [some (.int cell),some (.int M),some (.int terms),some (.int power),some (.int kind),some (.loc st.length),some (.int k),some (ax (gI cell k power af))] s2=.ok [tV (gI cell k power af,v)] s2:=by
  have v7:ae 7 [some (ao.int cell),some (.int M),some (.int terms),some (.int power),some (.int kind),some (.loc st.length),some (.int k),some (ax (gI cell k power af))] s2=.ok (ax (gI cell k power af)) s2:=rfl;simp only[aZ,i5,v7,ar,du,ff,dg,bC,a7,oI,jz,cH,aZ,i5,dU,k_,eg,gS,Vt,VY,Nat.reduceAdd,VT,Nat.reduceLeDiff,↓reduceIte,je (i:=5) (by decide) (by decide),Fc,hv];rfl
 have v5:ae 5 [some (ao.int cell),some (.int M),some (.int terms),some (.int power),some (.int kind),some (.loc st.length),some (.int k),some (ax (gI cell k power af))] s2=.ok (.loc st.length) s2:=rfl;have es:s2.set st.length (.lst (P.map tV++[tV (gI cell k power af,v)]))=st ++ .lst ((P++[(gI cell k power af,v)]).map tV)::(g++[.lst ((gI cell k power af).map ao.int)]):=by rw[<-eV,<-hs,Vs];show(st++aR.lst (P.map tV)::(g++[.lst ((gI cell k power af).map ao.int)])).set _ _=_;rw[pG,WI];rfl
 unfold Q!;rw[<-es,ay,U8,az,gj,qm,v5,ar,wQ cellAt,arg,ar,Eu,ap];rfl
def eJ(a:Nat)(t:aA):Int:=t.1.getD a 0
def aW(D:List aA)(a:Nat):Int:=SO.maxD (-1) (D.map (eJ a))
def oN:ao->aA
 |.tup [k,.int n]=>(E? k,n)
 |_=>([],0)
theorem jh(t:aA):oN (tV t)=t:=by show(E? (ax t.1),t.2)=t;rw[qF]
theorem y_{k:_S}{a:Nat}(h:a<k.length)(s:ai):cw (ax k) (.int (a:Int)) s=.ok (.int (k.getD a 0)) s:=by have:=at_getD (ns:=k) (i:=(a:Int)) (by lia) (by lia);rw[WE]at this;exact uB this
theorem Fe{g:ai->Prop}{s:ai}{D:List aA}{a:Nat}(hg:g s)(S:cy af D)(ha:a<af):
  dN g (bX [au 0,au 1]) aV (ak cw (ae 0) (ae 2)) (D.map tV) [none,none,some (.int (a:Int))] s []=.ok ((D.map (eJ a)).map ao.int) s:=by
 have:=cz (a:=bX [au 0,au 1]) (c:=aV) (e:=ak cw (ae 0) (ae 2)) hg (fun τ=>∃x y,τ=[x,y,some (.int (a:Int))]) (fun _=>true) (fun v=>.int (eJ a (oN v))) (D.map tV) [none,none,some (.int (a:Int))] [] ⟨_,_,rfl⟩ ?_
 .rw[this,VM,WL.mpr fun _ _=>rfl,VN,VN];congr 1;refine V7 fun t _=>?_;show ao.int (eJ a (oN (tV t)))=_;rw[jh];rfl
 .rintro u hu τ ⟨x,y,rfl⟩;obtain⟨t,ht,rfl⟩:=VH.mp hu;refine⟨[some (ax t.1),some (.int t.2),some (.int (a:Int))],rfl,⟨_,_,rfl⟩,rfl,fun _=>?_⟩;show cw (ax t.1) (.int (a:Int)) s=_;rw[jh];exact y_ (by rw[S.len t ht];exact ha) s
theorem oO{a:Nat}{D:List aA}(h:aq st p=some (D.map tV))(hl:D.length<=1000000)(S:cy af D)(ha:a<af):
  PM.cW [.loc p,.int (a:Int)] st=.ok (.int (aW D a)) (st++[.lst ((D.map (eJ a)).map ao.int)]):=by
 have wA:jy 2 [1] [some (ao.loc p),some (.int (a:Int))]=[none,none,some (.int (a:Int))]:=rfl;have comp:bz 2 [1] (bJ (ae 0)) (bX [au 0,au 1]) aV (ak cw (ae 0) (ae 2)) [some (.loc p),some (.int (a:Int))] st=.ok (.loc st.length) (st++[.lst ((D.map (eJ a)).map ao.int)]):=by have v0:ae 0 [some (ao.loc p),some (.int (a:Int))] st=.ok (.loc p) st:=rfl;rw[fm,b_,v0,ar,bI h,ar,gG,Vu (by rw[Vm,VT];lia),wA,Fe h S ha,ar,jd]
 have mx:=II (dv:=-1) (bH st ((D.map (eJ a)).map ao.int));have body:xb (bz 2 [1] (bJ (ae 0)) (bX [au 0,au 1]) aV (ak cw (ae 0) (ae 2))) (jI (mC (.int 1))) [some (.loc p),some (.int (a:Int))] st=.ok (.int (aW D a)) (st++[.lst ((D.map (eJ a)).map ao.int)]):=by unfold xb;rw[comp];show EU (.loc st.length) (.int (-1)) (st++[.lst ((D.map (eJ a)).map ao.int)])=_;exact mx
 unfold PM.cW;rw[bw (np:=2) (us:=[ao.loc p,.int (a:Int)]) rfl];show(aP (xb (bz 2 [1] (bJ (ae 0)) (bX [au 0,au 1]) aV (ak cw (ae 0) (ae 2))) (jI (mC (.int 1)))) [some (.loc p),some (.int (a:Int))] st).fin=_;rw[ba,body];rfl
theorem tW(x:Int):∀(l:_S)(M:Int),SO.gf M (l++[x])=if x>SO.gf M l then x else SO.gf M l
 |[],M=>rfl
 |y::l,M=>tW x l _
theorem NT{D:List aA}{a:Nat}(S:cy af D)(ha:a<af):SO.gf (-1) (D.map (eJ a))=aW D a:=by
 unfold aW;cases D with
 |nil=>rfl
 |cons t D=>
  show SO.gf (if eJ a t > -1 then eJ a t else -1) (D.map (eJ a))=SO.gf (eJ a t) (D.map (eJ a));have hl:a<t.1.length:=by rw[S.len t VO];exact ha
  have:0<=eJ a t:=by unfold eJ;rw[V8,Vp hl];exact S.nn t VO _ (Wt hl)
  rw[Vu (by lia)]
abbrev U9:MB:=aG 2 (ah u3 (aa (ae 2) (aa (ak cw (ae 3) (ae 1)) aj)))
theorem fi{a:Nat}{D:List aA}(h:aq st p=some (D.map tV))(S:cy af D)(ha:a<af):PM.aQ [.loc p,.int (a:Int)] st=.ok (.int (aW D a)) st:=by
 obtain⟨μ',av,e,rfl,x3,x4,rfl⟩:=cV (g:=fun av=>aq av p=some (D.map tV)) (a:=bX [au 3,au 4]) (body:=U9)
  (fun i μ s'=>s'=st/\∃x3 x4,μ=[some (.loc p),some (.int (a:Int)),some (.int (SO.gf (-1) ((D.map (eJ a)).take i))),x3,x4])
  (D.map tV) 0 [some (.loc p),some (.int (a:Int)),some (.int (-1)),none,none] st
  (by
   rintro i u μ s' hu ⟨rfl,x3,x4,rfl⟩;rw[V1];refine⟨h,?_⟩;rw[VF]at hu;have hi:i<D.length:=by
    rcases V2 i D.length with q|q
    .exact q
    .rw[VW q]at hu;cases hu
   rw[Vp hi]at hu;obtain⟨t,ht⟩:∃t,t=D[i]:=⟨_,rfl⟩
   have mt:t∈D:=by rw[ht];exact Wt hi
   rw[<-ht]at hu;cases hu;refine⟨[some (.loc p),some (.int (a:Int)),some (.int (SO.gf (-1) ((D.map (eJ a)).take i))),some (ax t.1),some (.int t.2)],rfl,_,s',.inl (?_:_=c6.nx [some (.loc p),some (.int (a:Int)),some (.int (SO.gf (-1) ((D.map (eJ a)).take (i+1)))),some (ax t.1),some (.int t.2)] s'),rfl,_,_,rfl⟩;have e1:ak cw (ae 3) (ae 1) [some (ao.loc p),some (.int (a:Int)),some (.int (SO.gf (-1) ((D.map (eJ a)).take i))),some (ax t.1),some (.int t.2)] s'=.ok (.int (eJ a t)) s':=by show cw (ax t.1) (.int (a:Int)) s'=_;exact y_ (by rw[S.len t mt];exact ha) s'
   have e2:ae 2 [some (ao.loc p),some (.int (a:Int)),some (.int (SO.gf (-1) ((D.map (eJ a)).take i))),some (ax t.1),some (.int t.2)] s'=.ok (.int (SO.gf (-1) ((D.map (eJ a)).take i))) s':=rfl;have tk:(D.map (eJ a)).take (i+1)=(D.map (eJ a)).take i++[eJ a t]:=by rw[Xk,VF,Vp hi,<-ht];rfl
   show aG 2 (ah u3 (aa (ae 2) (aa (ak cw (ae 3) (ae 1)) aj))) _ s'=_;rw[tk,tW,hJ,dU,aZ,e2,ar,bC,aZ,e1,ar,bC,cH,ar,a7,ar,a7,ar];rfl)
  (fun μ s hp=>by obtain⟨rfl,_⟩:=hp;exact h)
  ⟨rfl,none,none,rfl⟩
 rw[V1,Vm,Wf (by rw[Vm];exact Vo _),NT S ha]at e;unfold PM.aQ;rw[bw (np:=2) (us:=[ao.loc p,.int (a:Int)]) rfl];have first:aG 2 (jI (mC (.int 1))) [some (.loc p),some (.int (a:Int)),none,none,none] av=.nx [some (.loc p),some (.int (a:Int)),some (.int (-1)),none,none] av:=rfl
 have loop:dM (bJ (ae 0)) (bX [au 3,au 4]) U9 [some (.loc p),some (.int (a:Int)),some (.int (-1)),none,none] av=.nx [some (.loc p),some (.int (a:Int)),some (.int (aW D a)),x3,x4] av:=by have v0:ae 0 [some (ao.loc p),some (.int (a:Int)),some (.int (-1)),none,none] av=.ok (.loc p) av:=rfl;rw[fA,b_,v0,ar,bI h,aE,hU];exact e
 show(aB (aG 2 (jI (mC (.int 1)))) (aB (dM (bJ (ae 0)) (bX [au 3,au 4]) U9) (aP (ae 2))) [some (.loc p),some (.int (a:Int)),none,none,none] av).fin=_;rw[ay,first,az,ay,loop,az];rfl
def fV(k:_S)(a:Nat):_S:=k.take a++[0]++k.drop (a+1)
def aK(D:List aA)(a:Nat):List aA:=(D.filter fun t=>eJ a t==aW D a).map fun t=>(fV t.1 a,t.2)
theorem Q?{k:_S}{a:Nat}(h:a<k.length)(s:ai):Ed none (some (a:Int)) (ax k) s=.ok (ax (k.take a)) s:=by have hl:(k.map ao.int).length=k.length:=Vm ..;show(if HT.e? (k.map ao.int).length 0 none=0/\HT.e? (k.map ao.int).length (k.map ao.int).length (some (a:Int))=(k.map ao.int).length then cD.bad else .ok (ao.tup (mq (k.map ao.int) none (some (a:Int)))) s)=_;rw[HT.j7,hl,VA (by lia),tU,Cm (by lia)];rfl
theorem Ra{k:_S}{a:Nat}(h:a<k.length)(s:ai):Ed (some ((a:Int)+1)) none (ax k) s=.ok (ax (k.drop (a+1))) s:=by
 have hl:(k.map ao.int).length=k.length:=Vm ..;have e:(a:Int)+1=((a+1:Nat):Int):=by lia
 rw[e];show(if HT.e? (k.map ao.int).length 0 (some ((a+1:Nat):Int))=0/\HT.e? (k.map ao.int).length (k.map ao.int).length none=(k.map ao.int).length then cD.bad else .ok (ao.tup (mq (k.map ao.int) (some ((a+1:Nat):Int)) none)) s)=_;rw[HT.j7,hl,VA (by lia),tU,Cn (by lia)];rfl
theorem Ff{a b:_S}{s:ai}(h:a.length+b.length<=1000000):a8 (ax a) (ax b) s=.ok (ax (a++b)) s:=by show(if(a.map ao.int).length+(b.map ao.int).length<=sizeLine then cD.ok (ao.tup (a.map ao.int++b.map ao.int)) s else .bad)=_;rw[Vu (by rw[Vm,Vm,VT];lia),<-WI];rfl
theorem Rb{m0 ma mz:ME}{μ:MN.Env}{s:ai}{k:_S}{a:Nat}{v:Int}(h0:m0 μ s=.ok (ax k) s)(h1:ma μ s=.ok (.int (a:Int)) s)(h2:cq (aa mz aj) μ s=.ok (ax [v]) s)(ha:a<k.length)(hk:k.length<=10):
  ak a8 (ak a8 (mw m0 dP (dy ma)) (cq (aa mz aj))) (mw m0 (dy (ak a8 ma (mC (.int 1)))) dP) μ s=.ok (ax (k.take a++[v]++k.drop (a+1))) s:=by
 have e1:mw m0 dP (dy ma) μ s=.ok (ax (k.take a)) s:=by unfold mw dy;rw[h0];show((ma μ s).bind _).bind _=_;rw[h1];exact Q? ha s
 have e2:mw m0 (dy (ak a8 ma (mC (.int 1)))) dP μ s=.ok (ax (k.drop (a+1))) s:=by
  have q:ak a8 ma (mC (.int 1)) μ s=.ok (.int ((a:Int)+1)) s:=by unfold ak;rw[h1];rfl
  unfold mw dy;rw[h0];show((ak a8 ma (mC (.int 1)) μ s).bind _).bind _=_;rw[q];exact Ra ha s
 have e3:ak a8 (mw m0 dP (dy ma)) (cq (aa mz aj)) μ s=.ok (ax (k.take a++[v])) s:=by unfold ak;rw[e1];show(cq (aa mz aj) μ s).bind _=_;rw[h2];exact Ff (by rw[V'];simp;lia)
 show(ak a8 (mw m0 dP (dy ma)) (cq (aa mz aj)) μ s).bind _=_;rw[e3];show(mw m0 (dy (ak a8 ma (mC (.int 1)))) dP μ s).bind _=_;rw[e2];exact Ff (by rw[Vr,V',Wl];simp;lia)
theorem Rc{mz:ME}{μ:MN.Env}{s:ai}{v:Int}(h:mz μ s=.ok (.int v) s):cq (aa mz aj) μ s=.ok (ax [v]) s:=by rw[i5,aZ,h,ar,bC,cH,ar,a7,ar,oI];exact Vu (by rw[VT];show 1<=16777216;decide)
theorem kI{k:_S}{a:Nat}{v:Int}(ha:a<k.length)(hk:k.length<=10)(s:ai):PM.cS [ax k,.int (a:Int),.int v] s=.ok (ax (k.take a++[v]++k.drop (a+1))) s:=by unfold PM.cS;rw[bw (np:=3) (us:=[ax k,.int (a:Int),.int v]) rfl];show(aP (ak a8 (ak a8 (mw (ae 0) dP (dy (ae 1))) (cq (aa (ae 2) aj))) (mw (ae 0) (dy (ak a8 (ae 1) (mC (.int 1)))) dP)) [some (ax k),some (.int (a:Int)),some (.int v)] s).fin=_;rw[ba,Rb (k:=k) (a:=a) rfl rfl (Rc rfl) ha hk];rfl
abbrev SE:MT:=bO (ak fZ (ak cw (ae 0) (ae 3)) (ae 2))
abbrev SF:ME:=cq (aa (ah PM.cS (aa (ae 0) (aa (ae 3) (aa (mC (.int 0)) aj)))) (aa (ae 1) aj))
theorem I?{g:ai->Prop}{s:ai}{D:List aA}{a:Nat}(hg:g s)(S:cy af D)(ha:a<af)(hm:af<=4):
  dN g (bX [au 0,au 1]) SE SF (D.map tV) [none,none,some (.int (aW D a)),some (.int (a:Int))] s []=.ok ((aK D a).map tV) s:=by
 have:=cz (a:=bX [au 0,au 1]) (c:=SE) (e:=SF) hg (fun τ=>∃x y,τ=[x,y,some (.int (aW D a)),some (.int (a:Int))]) (fun v=>eJ a (oN v)==aW D a) (fun v=>tV (fV (oN v).1 a,(oN v).2)) (D.map tV) [none,none,some (.int (aW D a)),some (.int (a:Int))] [] ⟨_,_,rfl⟩ ?_
 .rw[this,VM];congr 1;unfold aK;rw[Yo,VN,VN];have e:((fun v=>eJ a (oN v)==aW D a) ∘ tV)=fun t=>eJ a t==aW D a:=by funext t;show(eJ a (oN (tV t))==aW D a)=_;rw[jh]
  rw[e];refine V7 fun t _=>?_;show tV (fV (oN (tV t)).1 a,(oN (tV t)).2)=_;rw[jh];rfl
 .rintro u hu τ ⟨x,y,rfl⟩;obtain⟨t,ht,rfl⟩:=VH.mp hu;have hl:=S.len t ht;refine⟨[some (ax t.1),some (.int t.2),some (.int (aW D a)),some (.int (a:Int))],rfl,⟨_,_,rfl⟩,?_,fun _=>?_⟩
  .rw[jh];have e1:ak cw (ae 0) (ae 3) [some (ax t.1),some (.int t.2),some (.int (aW D a)),some (.int (a:Int))] s=.ok (.int (eJ a t)) s:=by show cw (ax t.1) (.int (a:Int)) s=_;exact y_ (by lia) s
   show bO (ak fZ (ak cw (ae 0) (ae 3)) (ae 2)) _ s=_;rw[d6,du,e1];simp only[ar,ff,dg,e!,kH,eg,gS]
  .rw[jh];have e1:ah PM.cS (aa (ae 0) (aa (ae 3) (aa (mC (.int 0)) aj))) [some (ax t.1),some (.int t.2),some (.int (aW D a)),some (.int (a:Int))] s=.ok (ax (fV t.1 a)) s:=by show PM.cS [ax t.1,.int (a:Int),.int 0] s=_;exact kI (by lia) (by lia) s
   have e2:ae 1 [some (ax t.1),some (.int t.2),some (.int (aW D a)),some (.int (a:Int))] s=.ok (.int t.2) s:=rfl;show cq (aa (ah PM.cS (aa (ae 0) (aa (ae 3) (aa (mC (.int 0)) aj)))) (aa (ae 1) aj)) _ s=_;rw[i5,aZ,e1,ar,bC,aZ,e2,ar,bC,cH,ar,a7,ar,a7,ar,oI];exact Vu (by rw[VT];show 2<=16777216;decide)
theorem y!{a:Nat}{D:List aA}(h:aq st p=some (D.map tV))(hl:D.length<=1000000)(S:cy af D)(ha:a<af)(hm:af<=4):
  PM.gk [.loc p,.int (a:Int)] st=.ok (.loc (st.length+1)) (st++[.lst ((D.map (eJ a)).map ao.int),.lst ((aK D a).map tV)]):=by
 have pi:=oO h hl S ha;obtain⟨s,hs⟩:∃s,s=st++[aR.lst ((D.map (eJ a)).map ao.int)]:=⟨_,rfl⟩
 rw[<-hs]at pi;have h':aq s p=some (D.map tV):=by rw[hs];exact aJ h _
 have ls:s.length=st.length+1:=by rw[hs,Vr];rfl
 have cJ:PM.ke [.loc p,.int (a:Int),.int (aW D a)] s=.ok (.loc s.length) (s++[.lst ((aK D a).map tV)]):=by
  have wA:jy 2 [2,1] [some (ao.loc p),some (.int (a:Int)),some (.int (aW D a))]=[none,none,some (.int (aW D a)),some (.int (a:Int))]:=rfl;have v0:ae 0 [some (ao.loc p),some (.int (a:Int)),some (.int (aW D a))] s=.ok (.loc p) s:=rfl;have comp:bz 2 [2,1] (bJ (ae 0)) (bX [au 0,au 1]) SE SF [some (.loc p),some (.int (a:Int)),some (.int (aW D a))] s=.ok (.loc s.length) (s++[.lst ((aK D a).map tV)]):=by rw[fm,b_,v0,ar,bI h',ar,gG,Vu (by rw[Vm,VT];lia),wA,I? h' S ha hm,ar,jd]
  unfold PM.ke;rw[bw (np:=3) (us:=[ao.loc p,.int (a:Int),.int (aW D a)]) rfl];show(aP (bz 2 [2,1] (bJ (ae 0)) (bX [au 0,au 1]) SE SF) [some (.loc p),some (.int (a:Int)),some (.int (aW D a))] s).fin=_;rw[ba,comp];rfl
 have es:st++[aR.lst ((D.map (eJ a)).map ao.int),.lst ((aK D a).map tV)]=s++[.lst ((aK D a).map tV)]:=by rw[hs,Vs];rfl
 have inner:ah PM.cW (aa (ae 0) (aa (ae 1) aj)) [some (.loc p),some (.int (a:Int))] st=.ok (.int (aW D a)) s:=by show PM.cW [.loc p,.int (a:Int)] st=_;exact pi
 have v0:ae 0 [some (ao.loc p),some (.int (a:Int))] st=.ok (.loc p) st:=rfl;have v1:ae 1 [some (ao.loc p),some (.int (a:Int))] st=.ok (.int (a:Int)) st:=rfl;unfold PM.gk;rw[bw (np:=2) (us:=[ao.loc p,.int (a:Int)]) rfl];show(aP (ah PM.ke (aa (ae 0) (aa (ae 1) (aa (ah PM.cW (aa (ae 0) (aa (ae 1) aj))) aj)))) [some (.loc p),some (.int (a:Int))] st).fin=_;rw[ba,dU,aZ,v0,ar,bC,aZ,v1,ar,bC,aZ,inner,ar,bC,cH,ar,a7,ar,a7,ar,a7,ar,cJ,es,<-ls];rfl
def Gr(D L:List aA)(a:Nat):List aA:=(L.filter fun t=>eJ a t==aW D a).map fun t=>(fV t.1 a,t.2)
theorem Fg(D L:List aA)(a:Nat)(t:aA):Gr D (L++[t]) a=Gr D L a++(if eJ a t==aW D a then[(fV t.1 a,t.2)] else[]):=by
 unfold Gr;rw[List.filter_append,WI];congr 1;by_cases h:(eJ a t==aW D a)=true
 .rw[Vu h,_M (p:=fun t=>eJ a t==aW D a) h];rfl
 .rw[VA h,_N (p:=fun t=>eJ a t==aW D a) h];rfl
abbrev SG:ME:=ak a8 (ak a8 (mw (ae 4) dP (dy (ae 1))) (cq (aa (mC (.int 0)) aj))) (mw (ae 4) (dy (ak a8 (ae 1) (mC (.int 1)))) dP)
abbrev SH:MB:=fw (bO (ak fZ (ak cw (ae 4) (ae 1)) (ae 2))) (cO (iP dS (ae 3) (aa (cq (aa SG (aa (ae 5) aj))) aj))) aX
theorem Ja{a:Nat}{D L:List aA}{t:aA}{s:ai}(hq:s[q]?=some (.lst ((Gr D L a).map tV)))(hL:L.length<=1000000)(hl:t.1.length=af)(ha:a<af)(hm:af<=4):
  SH [some (.loc p),some (.int (a:Int)),some (.int (aW D a)),some (.loc q),some (ax t.1),some (.int t.2)] s=.nx [some (.loc p),some (.int (a:Int)),some (.int (aW D a)),some (.loc q),some (ax t.1),some (.int t.2)] (s.set q (.lst ((Gr D (L++[t]) a).map tV))):=by
 obtain⟨μ,hμ⟩:∃μ:MN.Env,μ=[some (.loc p),some (.int (a:Int)),some (.int (aW D a)),some (.loc q),some (ax t.1),some (.int t.2)]:=⟨_,rfl⟩
 have e1:ak cw (ae 4) (ae 1) μ s=.ok (.int (eJ a t)) s:=by rw[hμ];show cw (ax t.1) (.int (a:Int)) s=_;exact y_ (by lia) s
 have v2:ae 2 μ s=.ok (.int (aW D a)) s:=by rw[hμ];rfl
 have v3:ae 3 μ s=.ok (.loc q) s:=by rw[hμ];rfl
 have v5:ae 5 μ s=.ok (.int t.2) s:=by rw[hμ];rfl
 have v4:ae 4 μ s=.ok (ax t.1) s:=by rw[hμ];rfl
 have v1:ae 1 μ s=.ok (.int (a:Int)) s:=by rw[hμ];rfl
 have Gu:bO (ak fZ (ak cw (ae 4) (ae 1)) (ae 2)) μ s=.ok (eJ a t==aW D a) s:=by rw[d6,du,e1,ar,ff,v2,ar,dg,kH,ar,e!]
 have c0:=Rb (ma:=ae 1) v4 v1 (Rc (mz:=mC (.int 0)) rfl) (by lia) (by lia);have hlen:(Gr D L a).length<=1000000:=by unfold Gr;rw[Vm];exact Vx (List.length_filter_le _ _) hL
 rw[<-hμ];show fw _ _ _ μ s=_;rw[ef,Gu,aE,Fg];cases c:eJ a t==aW D a with
 |true=>
  have ap:=nM (v:=tV (fV t.1 a,t.2)) hq (by rw[Vm,VT];lia);have arg:aa (cq (aa SG (aa (ae 5) aj))) aj μ s=.ok [tV (fV t.1 a,t.2)] s:=by
   have tp:cq (aa SG (aa (ae 5) aj)) μ s=.ok (tV (fV t.1 a,t.2)) s:=by unfold SG;rw[i5,aZ,c0,ar,bC,aZ,v5,ar,bC,cH,ar,a7,ar,a7,ar,oI];exact Vu (by rw[VT];show 2<=16777216;decide)
   rw[aZ,tp,ar,bC,cH,ar,a7]
  rw[jP,gj,qm,v3,ar,wQ hq,arg,ar,Eu,ap,Vu rfl,WI];rfl
 |false=>
  rw[f?,VA (by decide),VZ];have:s.set q (.lst ((Gr D L a).map tV))=s:=by
   apply Yw;intro j;rw[List.getElem?_set];by_cases e:q=j
   .rw[Vu e];subst e;split
    .exact hq.symm
    .rename_i z;rw[VW (by lia)]
   .rw[VA e]
  rw[this];rfl
theorem xw{a:Nat}{D:List aA}(h:aq st p=some (D.map tV))(hl:D.length<=1000000)(S:cy af D)(ha:a<af)(hm:af<=4):
  PM.h_ [.loc p,.int (a:Int)] st=.ok (.loc st.length) (st++[.lst ((aK D a).map tV)]):=by
 have pw:=fi h S ha;have hg:∀us,aq (st++[aR.lst us]) p=some (D.map tV):=fun us=>aJ h _;obtain⟨μ',av,e,rfl,x4,x5,rfl⟩:=cV (g:=fun av=>aq av p=some (D.map tV)) (a:=bX [au 4,au 5]) (body:=SH)
  (fun i μ s'=>s'=st++[.lst ((Gr D (D.take i) a).map tV)]/\∃x4 x5,μ=[some (.loc p),some (.int (a:Int)),some (.int (aW D a)),some (.loc st.length),x4,x5])
  (D.map tV) 0 [some (.loc p),some (.int (a:Int)),some (.int (aW D a)),some (.loc st.length),none,none] (st++[.lst []])
  (by
   rintro i u μ s' hu ⟨rfl,x4,x5,rfl⟩;rw[V1];refine⟨hg _,?_⟩;rw[VF]at hu;have hi:i<D.length:=by
    rcases V2 i D.length with q|q
    .exact q
    .rw[VW q]at hu;cases hu
   rw[Vp hi]at hu;obtain⟨t,ht⟩:∃t,t=D[i]:=⟨_,rfl⟩
   have mt:t∈D:=by rw[ht];exact Wt hi
   rw[<-ht]at hu;cases hu;have tk:D.take (i+1)=D.take i++[t]:=by rw[Xk,Vp hi,<-ht];rfl
   refine⟨_,rfl,_,_,.inl (Ja (D:=D) (L:=D.take i) (t:=t) (dW st _) (by rw[V'];lia) (S.len t mt) ha hm),?_,_,_,rfl⟩;rw[wU,tk])
  (fun μ s hp=>by obtain⟨rfl,_⟩:=hp;exact hg _)
  ⟨rfl,none,none,rfl⟩
 rw[V1,Vm,Wf (Vo _)]at e;have e':Gr D D a=aK D a:=rfl;rw[e']at e;have first:aG 2 (ah PM.aQ (aa (ae 0) (aa (ae 1) aj))) [some (.loc p),some (.int (a:Int)),none,none,none,none] st=.nx [some (.loc p),some (.int (a:Int)),some (.int (aW D a)),none,none,none] st:=by
  have q:ah PM.aQ (aa (ae 0) (aa (ae 1) aj)) [some (.loc p),some (.int (a:Int)),none,none,none,none] st=.ok (.int (aW D a)) st:=by show PM.aQ [.loc p,.int (a:Int)] st=_;exact pw
  rw[hJ,q];rfl
 have second:aG 3 (bW aj) [some (.loc p),some (.int (a:Int)),some (.int (aW D a)),none,none,none] st=.nx [some (.loc p),some (.int (a:Int)),some (.int (aW D a)),some (.loc st.length),none,none] (st++[.lst []]):=by simp only[ar,aE,Em,wO,cH,yM,hJ,WT,XQ,VY,VT,Nat.reduceLeDiff,↓reduceIte]
 have loop:dM (bJ (ae 0)) (bX [au 4,au 5]) SH [some (.loc p),some (.int (a:Int)),some (.int (aW D a)),some (.loc st.length),none,none] (st++[.lst []])=.nx [some (.loc p),some (.int (a:Int)),some (.int (aW D a)),some (.loc st.length),x4,x5] (st++[.lst ((aK D a).map tV)]):=by have v0:ae 0 [some (ao.loc p),some (.int (a:Int)),some (.int (aW D a)),some (.loc st.length),none,none] (st++[.lst []])=.ok (.loc p) (st++[.lst []]):=rfl;rw[fA,b_,v0,ar,bI (hg []),aE,hU];exact e
 unfold PM.h_;rw[bw (np:=2) (us:=[ao.loc p,.int (a:Int)]) rfl];show(aB (aG 2 (ah PM.aQ (aa (ae 0) (aa (ae 1) aj)))) (aB (aG 3 (bW aj)) (aB (dM (bJ (ae 0)) (bX [au 4,au 5]) SH) (aP (ae 3)))) [some (.loc p),some (.int (a:Int)),none,none,none,none] st).fin=_;rw[ay,first,az,ay,second,az,ay,loop,az];rfl
theorem Fh{k:_S}{a:Nat}(h:a<k.length):(fV k a).length=k.length:=by unfold fV;rw[Vr,Vr,V',Wl];simp;lia
theorem xx:∀{x y:_S}{a:Nat},a<x.length->x.length=y.length->x.getD a 0=y.getD a 0->SO.lexLt (fV x a) (fV y a)=SO.lexLt x y
 |[],_,_,h,_,_=>absurd h (_K _)
 |_::_,[],_,_,h,_=>by cases h
 |x::xs,y::ys,0,_,_,e=>by have e':x=y:=e;show(if(0:Int)=0 then SO.lexLt (([]:_S)++xs) (([]:_S)++ys)else _)=(if x=y then SO.lexLt xs ys else _);rw[Vu rfl,Vu e'];rfl
 |x::xs,y::ys,a+1,h,hl,e=>by have ih:=xx (x:=xs) (y:=ys) (a:=a) (Ym h) (YU hl) e;show(if x=y then SO.lexLt (fV xs a) (fV ys a)else decide (x<y))=(if x=y then SO.lexLt xs ys else decide (x<y));rw[ih]
theorem fI{D:List aA}{a:Nat}(S:cy af D)(ha:a<af):cy af (aK D a):=by
 have mem:∀t∈aK D a,∃q∈D,t=(fV q.1 a,q.2)/\eJ a q=aW D a:=by intro t ht;obtain⟨q,hq,rfl⟩:=VH.mp ht;obtain⟨m,z⟩:=WC.mp hq;exact⟨q,m,rfl,by simpa using z⟩
 refine⟨?_,fun t ht=>?_,fun t ht e he=>?_,fun t ht=>?_⟩
 .unfold aK;rw[VN];unfold SO.fh;rw[Xh];have f:D.Pairwise fun x y=>SO.lexLt y.1 x.1=true:=by have:=S.xu;unfold SO.fh at this;rwa [Xh]at this
  refine Yz (fun{x y}hx hy h=>?_) (Zb _ f);obtain⟨mx,zx⟩:=WC.mp hx;obtain⟨my,zy⟩:=WC.mp hy;have ex:eJ a x=aW D a:=by simpa using zx
  have ey:eJ a y=aW D a:=by simpa using zy
  show SO.lexLt (fV y.1 a) (fV x.1 a)=true;rw[xx (by rw[S.len y my];exact ha) (by rw[S.len y my,S.len x mx]) (show eJ a y=eJ a x by rw[ex,ey])];exact h
 .obtain⟨q,hq,rfl,_⟩:=mem t ht;show(fV q.1 a).length=af;rw[Fh (by rw[S.len q hq];exact ha),S.len q hq]
 .obtain⟨q,hq,rfl,_⟩:=mem t ht;replace he:e∈fV q.1 a:=he;unfold fV at he;rcases Wb.mp he with he|he
  .rcases Wb.mp he with he|he
   .exact S.nn q hq e (List.mem_of_mem_take he)
   .rw[V0.mp he];exact XG _
  .exact S.nn q hq e (List.mem_of_mem_drop he)
 .obtain⟨q,hq,rfl,_⟩:=mem t ht;exact S.nz q hq
abbrev SI:MB:=fw (gE (cN (bO (ah PM.fH (aa (ae 4) aj)))) (bO (ak ltV (ae 4) (mC (.int 0))))) (aP (mC (.bl false))) aX
theorem Fi{M:Int}{k:_S}{x2:Option ao}(hk:∀e∈k,0<=e):
  ∃y,forL (fun _=>True) (au 4) SI (k.map ao.int) [some (.loc p),some (.int M),x2,some v,x4] st=.nx [some (.loc p),some (.int M),x2,some v,y] st:=by
 obtain⟨μ',av,e,rfl,y,rfl⟩:=cV (g:=fun _=>True) (a:=au 4) (body:=SI) (fun _ μ s'=>s'=st/\∃y,μ=[some (.loc p),some (.int M),x2,some v,y]) (k.map ao.int) 0 [some (.loc p),some (.int M),x2,some v,x4] st
  (by
   rintro i u μ s' hu ⟨rfl,y,rfl⟩;refine⟨trivial,?_⟩;obtain⟨e,he,rfl⟩:=VH.mp (XD hu);refine⟨[some (.loc p),some (.int M),x2,some v,some (.int e)],rfl,_,s',.inl (?_:_=c6.nx [some (.loc p),some (.int M),x2,some v,some (.int e)] s'),rfl,_,rfl⟩;have c:gE (cN (bO (ah PM.fH (aa (ae 4) aj)))) (bO (ak ltV (ae 4) (mC (.int 0)))) [some (.loc p),some (.int M),x2,some v,some (.int e)] s'=.ok (decide (e<0)) s':=rfl;rw[VR (by have:=hk e he;lia)]at c;show fw _ _ _ _ s'=_;rw[ef,c,aE,f?];rfl)
  (fun _ _ _=>trivial) ⟨rfl,_,rfl⟩
 exact⟨y,e⟩
abbrev NU:MT:=gE (cN (bO (x_ "tuple" (ae 3)))) (gE (bO (ak jJ (ah fe (aa (ae 3) aj)) (mC (.int 2)))) (gE (cN (bO (x_ "tuple" (ak cw (ae 3) (mC (.int 0)))))) (bO (ak jJ (ah fe (aa (ak cw (ae 3) (mC (.int 0))) aj)) (ae 1)))))
abbrev Jb:MT:=gE (cN (bO (ah PM.fH (aa (ak cw (ae 3) (mC (.int 1))) aj)))) (gE (bO (ak fZ (ak cw (ae 3) (mC (.int 1))) (mC (.int 0)))) (Al (bO (ak (Sj true) (ae 2) (mC .dc))) (bO (ak ET (ak cw (ae 3) (mC (.int 0))) (ae 2)))))
abbrev SJ:MB:=aB (fw NU (aP (mC (.bl false))) aX) (aB (dM (bJ (ak cw (ae 3) (mC (.int 0)))) (au 4) SI) (aB (fw Jb (aP (mC (.bl false))) aX) (aG 2 (ak cw (ae 3) (mC (.int 0))))))
def Last(v:ao)(k:_S):Prop:=v=.dc\/∃l,v=ax l/\l≠[]/\SO.lexLt k l=true
theorem Jc{t:aA}(hl:t.1.length=af)(hm:1<=af)(hk:∀e∈t.1,0<=e)(hz:t.2≠0)(hv:Last v t.1):
  ∃y,SJ [some (.loc p),some (.int (af:Int)),some v,some (tV t),x4] st=.nx [some (.loc p),some (.int (af:Int)),some (ax t.1),some (tV t),y] st:=by
 obtain⟨y,ei⟩:=Fi (p:=p) (M:=(af:Int)) (x2:=some v) (x4:=x4) (v:=tV t) (st:=st) hk;refine⟨y,?_⟩;have c1:NU [some (.loc p),some (.int (af:Int)),some v,some (tV t),x4] st=.ok (!(((t.1.map ao.int).length:Int)==(af:Int))) st:=rfl;rw[Vm,hl,WG]at c1;have s1:fw NU (aP (mC (.bl false))) aX [some (.loc p),some (.int (af:Int)),some v,some (tV t),x4] st=.nx [some (.loc p),some (.int (af:Int)),some v,some (tV t),x4] st:=by rw[ef,c1,aE,W?,f?];rfl
 have i0:∀(y:Option ao),ak cw (ae 3) (mC (.int 0)) [some (.loc p),some (.int (af:Int)),some v,some (tV t),y] st=.ok (ax t.1) st:=fun _=>rfl;have s2:dM (bJ (ak cw (ae 3) (mC (.int 0)))) (au 4) SI [some (.loc p),some (.int (af:Int)),some v,some (tV t),x4] st=.nx [some (.loc p),some (.int (af:Int)),some v,some (tV t),y] st:=by rw[fA,b_,i0,ar];show(tm (.tup (t.1.map ao.int)) st).Kf _ _=_;rw[j_,aE,hU];exact ei
 have nz:(t.2==0)=false:=V9.mpr hz;have ne:t.1≠[]:=fun z=>by rw[z]at hl;simp at hl;lia
 have w1:cN (bO (ah PM.fH (aa (ak cw (ae 3) (mC (.int 1))) aj))) [some (.loc p),some (.int (af:Int)),some v,some (tV t),y] st=.ok false st:=rfl;have w2:bO (ak fZ (ak cw (ae 3) (mC (.int 1))) (mC (.int 0))) [some (.loc p),some (.int (af:Int)),some v,some (tV t),y] st=.ok (t.2==0) st:=rfl;rw[nz]at w2;have w3:Al (bO (ak (Sj true) (ae 2) (mC .dc))) (bO (ak ET (ak cw (ae 3) (mC (.int 0))) (ae 2))) [some (.loc p),some (.int (af:Int)),some v,some (tV t),y] st=.ok false st:=by
  rcases hv with rfl|⟨l,rfl,nl,lt⟩
  .rfl
  .have ge:ET (ax t.1) (ax l) st=.ok (.bl (!(SO.lexLt t.1 l))) st:=NC ne nl;rw[lt]at ge;show bO (ak ET (ak cw (ae 3) (mC (.int 0))) (ae 2)) _ st=_;have v2:ae 2 [some (.loc p),some (.int (af:Int)),some (ax l),some (tV t),y] st=.ok (ax l) st:=rfl;have i0':ak cw (ae 3) (mC (.int 0)) [some (.loc p),some (.int (af:Int)),some (ax l),some (tV t),y] st=.ok (ax t.1) st:=rfl;rw[d6,du,i0',ar,ff,v2,ar,dg,ge,ar];rfl
 have c3:Jb [some (.loc p),some (.int (af:Int)),some v,some (tV t),y] st=.ok false st:=by unfold Jb;rw[nJ,w1,ar,mD,nJ,w2,ar,mD];exact w3
 have s3:fw Jb (aP (mC (.bl false))) aX [some (.loc p),some (.int (af:Int)),some v,some (tV t),y] st=.nx [some (.loc p),some (.int (af:Int)),some v,some (tV t),y] st:=by rw[ef,c3,aE,f?];rfl
 unfold SJ;rw[ay,s1,az,ay,s2,az,ay,s3,az,hJ,i0,aE];rfl
theorem Cr{D:List aA}(hc:st[p]?=some (.lst (D.map tV)))(S:cy af D)(hm:1<=af):PM.cC [.loc p,.int (af:Int)] st=.ok (.bl true) st:=by
 have h:=QN hc;have fa:∀i j(hi:i<D.length)(hj:j<D.length),i<j->SO.lexLt (D[j]).1 (D[i]).1=true:=by intro i j hi hj QP;have:=S.xu;unfold SO.fh at this;rw[Xh,WJ]at this;exact this i j hi hj QP
 obtain⟨μ',av,e,rfl,v,x3,x4,rfl,_⟩:=cV (g:=fun av=>aq av p=some (D.map tV)) (a:=au 3) (body:=SJ)
  (fun i μ s'=>s'=st/\∃v x3 x4,μ=[some (.loc p),some (.int (af:Int)),some v,x3,x4]/\∀(hi:i<D.length),Last v (D[i]).1)
  (D.map tV) 0 [some (.loc p),some (.int (af:Int)),some .dc,none,none] st
  (by
   rintro i u μ s' hu ⟨rfl,v,x3,x4,rfl,hv⟩;rw[V1]at hv⊢;refine⟨h,?_⟩;rw[VF]at hu;have hi:i<D.length:=by
    rcases V2 i D.length with q|q
    .exact q
    .rw[VW q]at hu;cases hu
   rw[Vp hi]at hu;have mt:D[i]∈D:=Wt hi;cases hu;obtain⟨y,es⟩:=Jc (p:=p) (x4:=x4) (st:=s') (S.len _ mt) hm (S.nn _ mt) (S.nz _ mt) (hv hi);refine⟨_,rfl,_,s',.inl es,rfl,_,_,_,rfl,fun hj=>.inr ⟨(D[i]).1,rfl,fun z=>?_,fa i (i+1) hi hj (Y9 _)⟩⟩;have:=S.len _ mt;rw[z]at this;simp at this;lia)
  (fun μ s hp=>by obtain⟨rfl,_⟩:=hp;exact h)
  ⟨rfl,_,none,none,rfl,fun _=>.inl rfl⟩
 have first:fw (cN (bO (x_ "list" (ae 0)))) (aP (mC (.bl false))) aX [some (.loc p),some (.int (af:Int)),none,none,none] av=.nx [some (.loc p),some (.int (af:Int)),none,none,none] av:=by simp only[ar,aE,El,f?,e!,d6,u6,QG,iy,ef,Eo,W?,is_list hc]
 have second:aG 2 (mC .dc) [some (.loc p),some (.int (af:Int)),none,none,none] av=.nx [some (.loc p),some (.int (af:Int)),some .dc,none,none] av:=rfl;have v0:ae 0 [some (ao.loc p),some (.int (af:Int)),some .dc,none,none] av=.ok (.loc p) av:=rfl;unfold PM.cC;rw[bw (np:=2) (us:=[ao.loc p,.int (af:Int)]) rfl];show(aB (fw (cN (bO (x_ "list" (ae 0)))) (aP (mC (.bl false))) aX) (aB (aG 2 (mC .dc)) (aB (dM (bJ (ae 0)) (au 3) SJ) (aP (mC (.bl true))))) [some (.loc p),some (.int (af:Int)),none,none,none] av).fin=_;rw[ay,first,az,ay,second,az,ay,fA,b_,v0,ar,bI h,aE,hU,e,az];rfl
section
variable{μ:MN.Env}{s:ai}{a b:ME}{f:F2}{x y:ao}{r:cD ao}{t u:MT}{c:Bool}{B:MB}
theorem aS(h1:a μ s=.ok x s1)(h2:b μ s1=.ok y s2):ak f a b μ s=f x y s2:=by show(a μ s).bind _=_;rw[h1];show(b μ s1).bind _=_;rw[h2]
theorem cU(h:a μ s=.ok (.bl c) s1):bO a μ s=.ok c s1:=by rw[d6,h];rfl
theorem tX(h1:t μ s=.ok false s1)(h2:u μ s1=.ok false s2):gE t u μ s=.ok false s2:=by rw[nJ,h1,ar,mD,h2]
theorem qG(h:t μ s=.ok true s1):cN t μ s=.ok false s1:=by rw[u6,h];rfl
theorem gz(h:t μ s=.ok false s1):fw t B aX μ s=.nx μ s1:=by rw[ef,h,aE,f?];rfl
theorem y?(h1:a μ s=.ok (.bl true) s1)(h2:b μ s1=r):l_ a b μ s=r:=by rw[nI,h1,ar,mB,h2]
end
theorem NV(t:aA):tw 14 (tV t)=true:=by show(hZ 12 (t.1.map ao.int)&&(true&&true))=true;rw[oJ];rfl
theorem NW(D:List aA):hZ 14 (D.map tV)=true:=j? fun u hu=>by obtain⟨t,_,rfl⟩:=VH.mp hu;exact NV t
theorem jW{s:ai}{c:aR}(h:s[n]?=some c)(more:ai):(s++more)[n]?=some c:=by
 have:n<s.length:=by
  rcases V2 n s.length with q|q
  .exact q
  .rw[VW q]at h;cases h
 rw[VL this];exact h
theorem ji{s:ai}{c:aR}(h:s[n]?=some c):n<s.length:=by
 rcases V2 n s.length with q|q
 .exact q
 .rw[VW q]at h;cases h
theorem NX{s:ai}{m:Nat}{c k:aR}(h:s[n]?=some c)(ne:m≠n):(s.set m k)[n]?=some c:=by rw[W6 ne];exact h
theorem tY{s:ai}{A:List aA}{k:_S}{v:Int}(h:s[d]?=some (.dT (A.map eD)))(hl:A.length<sizeLine):
  PM.jS [.loc d,ax k,.int v] s=.ok .dc (s.set d (.dT ((gH A k (bg A k+v)).map eD))):=by
 have hd:uZ s (.loc d)=true:=by unfold uZ;dsimp only;rw[h]
 have e1:i4 (ae 0) (ae 1) (mC (.int 0)) [some (.loc d),some (ax k),some (.int v)] s=.ok (.int (bg A k)) s:=by show(if uZ s (.loc d)=true then(match mm s (.loc d) (ax k) with|some o=>cD.ok (o.getD (.int 0)) s|none=>.bad)else .bad)=_;rw[Vu hd,vd h k];show cD.ok (Option.getD _ (ao.int 0)) s=_;rw[tR]
 have e2:ak a8 (i4 (ae 0) (ae 1) (mC (.int 0))) (ae 2) [some (.loc d),some (ax k),some (.int v)] s=.ok (.int (bg A k+v)) s:=by unfold ak;rw[e1];rfl
 unfold PM.jS;rw[bw (np:=3) (us:=[ao.loc d,ax k,.int v]) rfl];show(k4 (ae 0) (ae 1) (ak a8 (i4 (ae 0) (ae 1) (mC (.int 0))) (ae 2)) [some (.loc d),some (ax k),some (.int v)] s).fin=_;unfold k4;rw[e2];show c6.fin (match kZ s (.loc d) (ax k) (.int (bg A k+v)) with|some l0=>c6.nx _ l0|none=>.bad)=_;rw[tQ h hl];rfl
def bE(r n:Int):Int:=if r=0 then n else n.fmod r
def lu(A:List aA):List aA:=(iG (A.map (·.1))).map fun k=>(k,bg A k)
def fJ(r:Int)(A:List aA):List aA:=((lu A).map fun t=>(t.1,bE r t.2)).filter fun t=>t.2 !=0
theorem Jd(r n:Int)(st:ai):PM.bL [.int r,.int n] st=.ok (.int (bE r n)) st:=by
 unfold bE;by_cases h:r=0
 .have e:(r==0)=true:=by rw[h];rfl
  rw[Vu h];simp only[PM.bL,bw,ar,aE,e_,du,ff,dg,AB,gR,jz,e!,d6,AA,ba,kH,eg,gS,VB,Wg,Wa,VM,V5,Nat.reduceSub,Vt,VY,Nat.reduceAdd,e]
 .have e:(r==0)=false:=by simpa using h
  rw[VA h];simp only[PM.bL,bw,ar,aE,e_,du,ff,dg,AD,gR,jz,e!,d6,AA,ba,kH,eg,gS,VB,Wg,Wa,VM,V5,Nat.reduceSub,Vt,VY,Nat.reduceAdd,e,fT h]
theorem qH{L:List aA}(h:aq st p=some (L.map tV))(hl:L.length<=1000000):
  ∃c,PM.cY [.int r,.loc p] st=.ok (.loc (st.length+1)) (st++[c,.lst (((L.map fun t=>(t.1,bE r t.2)).filter fun t=>t.2 !=0).map tV)]):=by
 obtain⟨L',U_⟩:∃L':List aA,L'=L.map fun t=>(t.1,bE r t.2):=⟨_,rfl⟩
 have cp:=cz (a:=bX [au 0,au 1]) (c:=aV) (e:=cq (aa (ae 0) (aa (ah PM.bL (aa (ae 2) (aa (ae 1) aj))) aj))) (g:=fun av=>aq av p=some (L.map tV)) (st:=st) h (fun τ=>∃x y,τ=[x,y,some (.int r)]) (fun _=>true) (fun v=>tV ((oN v).1,bE r (oN v).2)) (L.map tV) [none,none,some (.int r)] [] ⟨_,_,rfl⟩ (by
  rintro u hu τ ⟨x,y,rfl⟩;obtain⟨t,ht,rfl⟩:=VH.mp hu;refine⟨[some (ax t.1),some (.int t.2),some (.int r)],rfl,⟨_,_,rfl⟩,rfl,fun _=>?_⟩;have e0:ae 0 [some (ax t.1),some (.int t.2),some (.int r)] st=.ok (ax t.1) st:=rfl;have e1:ah PM.bL (aa (ae 2) (aa (ae 1) aj)) [some (ax t.1),some (.int t.2),some (.int r)] st=.ok (.int (bE r t.2)) st:=by show PM.bL [.int r,.int t.2] st=_;exact Jd _ _ _
  rw[jh,i5,aZ,e0,ar,bC,aZ,e1,ar,bC,cH,ar,a7,ar,a7,ar,oI];exact Vu (by rw[VT];show 2<=16777216;decide))
 have e:(List.filter (fun _=>true) (L.map tV)).map (fun v=>tV ((oN v).1,bE r (oN v).2))=L'.map tV:=by rw[WL.mpr fun _ _=>rfl,VN,U_,VN];refine V7 fun t _=>?_;show tV ((oN (tV t)).1,bE r (oN (tV t)).2)=_;rw[jh];rfl
 rw[e,VM]at cp;obtain⟨s,hs⟩:∃s,s=st++[aR.lst (L'.map tV)]:=⟨_,rfl⟩
 have ls:s.length=st.length+1:=by rw[hs,Vr];rfl
 have h2:aq s st.length=some (L'.map tV):=by rw[hs];exact bH st _
 have lL:L'.length=L.length:=by rw[U_,Vm]
 have cp2:=cz (a:=au 0) (c:=bO (ak jJ (ak cw (ae 0) (mC (.int 1))) (mC (.int 0)))) (e:=ae 0) (g:=fun av=>aq av st.length=some (L'.map tV)) (st:=s) h2 (fun τ=>∃x,τ=[x]) (fun v=>(oN v).2 !=0) (fun v=>v) (L'.map tV) [none] [] ⟨_,rfl⟩ (by
  rintro u hu τ ⟨x,rfl⟩;obtain⟨t,ht,rfl⟩:=VH.mp hu;refine⟨[some (tV t)],rfl,⟨_,rfl⟩,?_,fun _=>rfl⟩;rw[jh];refine cU ?_;rw[aS (x:=.int t.2) (s1:=s) rfl (y:=.int 0) (s2:=s) rfl,Ep];rfl)
 have e2:(List.filter (fun v=>(oN v).2 !=0) (L'.map tV)).map (fun v=>v)=(L'.filter fun t=>t.2 !=0).map tV:=by
  rw[List.map_id',Yo];have:((fun v=>(oN v).2 !=0) ∘ tV)=fun t=>t.2 !=0:=by funext t;show((oN (tV t)).2 !=0)=_;rw[jh]
  rw[this]
 rw[e2,VM]at cp2;refine⟨.lst (L'.map tV),?_⟩;have v1:ae 1 [some (ao.int r),some (.loc p),none] st=.ok (.loc p) st:=rfl;have wA:jy 2 [0] [some (ao.int r),some (.loc p),none]=[none,none,some (.int r)]:=rfl;have comp:bz 2 [0] (bJ (ae 1)) (bX [au 0,au 1]) aV (cq (aa (ae 0) (aa (ah PM.bL (aa (ae 2) (aa (ae 1) aj))) aj))) [some (.int r),some (.loc p),none] st=.ok (.loc st.length) s:=by rw[fm,b_,v1,ar,bI h,ar,gG,Vu (by rw[Vm,VT];lia),wA,cp,ar,jd,hs]
 have v2:ae 2 [some (ao.int r),some (.loc p),some (.loc st.length)] s=.ok (.loc st.length) s:=rfl;have U!:jy 1 [] [some (ao.int r),some (.loc p),some (.loc st.length)]=[none]:=rfl;have Rf:bz 1 [] (bJ (ae 2)) (au 0) (bO (ak jJ (ak cw (ae 0) (mC (.int 1))) (mC (.int 0)))) (ae 0) [some (.int r),some (.loc p),some (.loc st.length)] s=.ok (.loc s.length) (s++[.lst ((L'.filter fun t=>t.2 !=0).map tV)]):=by rw[fm,b_,v2,ar,bI h2,ar,gG,Vu (by rw[Vm,VT];lia),U!,cp2,ar,jd]
 have first:aG 2 (bz 2 [0] (bJ (ae 1)) (bX [au 0,au 1]) aV (cq (aa (ae 0) (aa (ah PM.bL (aa (ae 2) (aa (ae 1) aj))) aj)))) [some (.int r),some (.loc p),none] st=.nx [some (.int r),some (.loc p),some (.loc st.length)] s:=by rw[hJ,comp,aE];rfl
 have es:st++[aR.lst (L'.map tV),.lst ((L'.filter fun t=>t.2 !=0).map tV)]=s++[.lst ((L'.filter fun t=>t.2 !=0).map tV)]:=by rw[hs,Vs];rfl
 unfold PM.cY;rw[bw (np:=2) (us:=[ao.int r,.loc p]) rfl,<-U_,es,<-ls];show(aB (aG 2 (bz 2 [0] (bJ (ae 1)) (bX [au 0,au 1]) aV (cq (aa (ae 0) (aa (ah PM.bL (aa (ae 2) (aa (ae 1) aj))) aj))))) (aP (bz 1 [] (bJ (ae 2)) (au 0) (bO (ak jJ (ak cw (ae 0) (mC (.int 1))) (mC (.int 0)))) (ae 0))) [some (.int r),some (.loc p),none] st).fin=_;rw[ay,first,az,ba,Rf,aE];rfl
def cf(P:List aA):List aA:=P.foldl (fun A t=>gH A t.1 (bg A t.1+t.2)) []
theorem tZ(P:List aA)(t:aA):cf (P++[t])=gH (cf P) t.1 (bg (cf P) t.1+t.2):=by unfold cf;rw[Z5];rfl
theorem fold_all(K:List (_S)):∀(P A:List aA),(A.map (·.1)).Nodup->(∀t∈A,t.1∈K)->(∀t∈P,t.1∈K) ->
  ((P.foldl (fun A t=>gH A t.1 (bg A t.1+t.2)) A).map (·.1)).Nodup/\(P.foldl (fun A t=>gH A t.1 (bg A t.1+t.2)) A).length<=A.length+P.length/\∀t∈P.foldl (fun A t=>gH A t.1 (bg A t.1+t.2)) A,t.1∈K
 |[],A,h1,h2,_=>⟨h1,by simp,h2⟩
 |t::P,A,h1,h2,h3=>by
  have ih:=fold_all K P (gH A t.1 (bg A t.1+t.2)) (qD h1 _ _) (fun q hq=>by
   rcases qE hq with hq|rfl
   .exact h2 q hq
   .exact h3 t VO) (fun q hq=>h3 q (VQ _ hq))
  refine⟨ih.1,Vx ih.2.1 ?_,ih.2.2⟩;have:=xp (A:=A) (k:=t.1) (v:=bg A t.1+t.2);rw[Vt];lia
theorem dZ(P:List aA):((cf P).map (·.1)).Nodup/\(cf P).length<=P.length/\∀t∈cf P,t.1∈P.map (·.1):=by have:=fold_all (P.map (·.1)) P [] Y? (fun t ht=>by cases ht) (fun t ht=>VH.mpr ⟨t,ht,rfl⟩);refine⟨this.1,?_,this.2.2⟩;have:=this.2.1;simp at this;exact this
abbrev SK:ME:=cq (aa (ae 0) (aa (ak gQ (ae 1) (ae 0)) aj))
theorem t4{s:ai}{A:List aA}(h:s[d]?=some (.dT (A.map eD)))(nd:(A.map (·.1)).Nodup)(hl:A.length<1000000)(ne:∀t∈A,t.1≠[]):
  ∃c1 c2 c3,PM.cZ [.int r,.loc d] s=.ok (.loc (s.length+3)) (s++[c1,c2,c3,.lst ((fJ r A).map tV)]):=by
 have Fj:(A.map eD).map (·.1)=(A.map (·.1)).map iK:=by rw[VN,VN];rfl
 have U?:=AI (ks:=A.map (·.1)) h Fj (by rw[Vm,VT];lia) (fun k hk=>by
  obtain⟨t,ht,rfl⟩:=VH.mp hk;exact ne t ht)
 obtain⟨s2,eV⟩:∃s2,s2=s++[aR.lst ((iG (A.map (·.1))).map ax)]:=⟨_,rfl⟩
 have hd2:s2[d]?=some (.dT (A.map eD)):=by rw[eV];exact jW h _
 have hit:aq s2 s.length=some ((iG (A.map (·.1))).map ax):=by rw[eV];exact bH s _
 have lk:(iG (A.map (·.1))).length=A.length:=by rw[(eB _).length_eq,Vm]
 have cp:=cz (a:=au 0) (c:=aV) (e:=SK) (g:=fun av=>aq av s.length=some ((iG (A.map (·.1))).map ax)) (st:=s2) hit (fun τ=>∃x,τ=[x,some (.loc d)]) (fun _=>true) (fun v=>.tup [v,.int (bg A (E? v))]) ((iG (A.map (·.1))).map ax) [none,some (.loc d)] [] ⟨_,rfl⟩ (by
  rintro u hu τ ⟨x,rfl⟩;obtain⟨k,hk,rfl⟩:=VH.mp hu;have J8:=(eB _).mem_iff.mp hk;have e0:ae 0 [some (ax k),some (.loc d)] s2=.ok (ax k) s2:=rfl;have e1:ak gQ (ae 1) (ae 0) [some (ax k),some (.loc d)] s2=.ok (.int (bg A k)) s2:=by show gQ (.loc d) (ax k) s2=_;exact AO hd2 J8
  refine⟨[some (ax k),some (.loc d)],rfl,⟨_,rfl⟩,rfl,fun _=>?_⟩;rw[qF];unfold SK;rw[i5,aZ,e0,ar,bC,aZ,e1,ar,bC,cH,ar,a7,ar,a7,ar,oI];exact Vu (by rw[VT];show 2<=16777216;decide))
 have e:(List.filter (fun _=>true) ((iG (A.map (·.1))).map ax)).map (fun v=>ao.tup [v,.int (bg A (E? v))])=(lu A).map tV:=by rw[WL.mpr fun _ _=>rfl,VN];unfold lu;rw[VN];refine V7 fun k _=>?_;show ao.tup [ax k,.int (bg A (E? (ax k)))]=_;rw[qF];rfl
 rw[e,VM]at cp;obtain⟨s3,AQ⟩:∃s3,s3=s2++[aR.lst ((lu A).map tV)]:=⟨_,rfl⟩
 have v1:ae 1 [some (ao.int r),some (.loc d)] s=.ok (.loc d) s:=rfl;have wA:jy 1 [1] [some (ao.int r),some (.loc d)]=[none,some (.loc d)]:=rfl;have comp:bz 1 [1] (bJ (i7 (ae 1))) (au 0) aV SK [some (.int r),some (.loc d)] s=.ok (.loc s2.length) s3:=by rw[fm,b_,xr,v1,ar,U?,<-eV,ar,bI hit,ar,gG,Vu (by rw[Vm,lk,VT];lia),wA,cp,ar,jd,AQ]
 obtain⟨c3,se⟩:=qH (r:=r) (L:=lu A) (p:=s2.length) (st:=s3) (by rw[AQ];exact bH s2 _) (by unfold lu;rw[Vm,lk];lia);refine⟨.lst ((iG (A.map (·.1))).map ax),.lst ((lu A).map tV),c3,?_⟩;have l3:s3.length=s.length+2:=by rw[AQ,eV,Vr,Vr];rfl
 have es:s++[aR.lst ((iG (A.map (·.1))).map ax),.lst ((lu A).map tV),c3,.lst ((fJ r A).map tV)]=s3++[c3,.lst ((fJ r A).map tV)]:=by rw[AQ,eV,Vs,Vs];rfl
 have v0:ae 0 [some (ao.int r),some (.loc d)] s=.ok (.int r) s:=rfl;unfold PM.cZ;rw[bw (np:=2) (us:=[ao.int r,.loc d]) rfl,es];show(aP (ah PM.cY (aa (ae 0) (aa (bz 1 [1] (bJ (i7 (ae 1))) (au 0) aV SK) aj))) [some (.int r),some (.loc d)] s).fin=_;rw[ba,dU,aZ,v0,ar,bC,aZ,comp,ar,bC,cH,ar,a7,ar,a7,ar,se,l3];rfl
def OL(r:Int)(A:List aA)(ks:List (_S)):List aA:=(ks.map fun k=>(k,bE r (bg A k))).filter fun t=>t.2 !=0
theorem qI(r:Int)(A:List aA):OL r A (iG (A.map (·.1)))=fJ r A:=by unfold OL fJ lu;rw[VN];rfl
theorem Je(r:Int)(A:List aA)(ks:List (_S)):(OL r A ks).length<=ks.length:=by unfold OL;refine Vx (List.length_filter_le _ _) ?_;rw[Vm];exact Vo _
theorem within_int(e lo hi:Int)(st:ai):PM.bM [.int e,.int lo,.int hi] st=.ok (.bl (decide (lo<=e)&&decide (e<=hi))) st:=by
 by_cases h:lo<=e
 .have z:decide (lo<=e)=true:=VV h;rw[z,YM];simp only[PM.bM,bw,ar,aE,e_,dg,mB,QD,Ki,Ik,bC,a7,gR,nI,wN,cH,aZ,dU,ba,Kk,eg,gS,VB,Wg,Wa,VM,V5,Nat.reduceSub,Vt,VY,Nat.reduceAdd,fU,z]
 .have z:decide (lo<=e)=false:=VR h;rw[z,YA];simp only[PM.bM,bw,ar,aE,e_,mB,QD,Ki,Il,bC,a7,gR,nI,wN,cH,aZ,dU,ba,Kk,eg,gS,VB,Wg,Wa,VM,V5,Nat.reduceSub,Vt,VY,Nat.reduceAdd,fU,z]
structure Good(af:Nat)(t:aA):Prop where
 len:t.1.length=af
 rg:∀e∈t.1,0<=e/\e<=99
theorem mL(h1:1<=af)(h4:af<=4)(st:ai):PM.c_ [.int (af:Int)] st=.ok .dc st:=by
 have q:ah PM.bM (aa (ae 0) (aa (mC (.int 1)) (aa (mC (.int 4)) aj))) [some (.int (af:Int))] st=.ok (.bl true) st:=by show PM.bM [.int (af:Int),.int 1,.int 4] st=_;rw[within_int,VV (by lia),VV (by lia)];rfl
 unfold PM.c_;rw[bw (np:=1) (us:=[ao.int (af:Int)]) rfl];show(fw (cN (bO (ah PM.bM (aa (ae 0) (aa (mC (.int 1)) (aa (mC (.int 4)) aj)))))) _ aX [some (.int (af:Int))] st).fin=_;rw[gz (qG (cU q))];rfl
section
variable{μ:MN.Env}{s:ai}{o j:Int}{t:MT}{B:MB}
theorem iI(h:m μ s=.ok (.int o) s1)(hj:¬ j=0):ak dJ m (mC (.int j)) μ s=.ok (.int (o.fmod j)) s1:=by rw[aS h (y:=.int j) (s2:=s1) rfl];exact fT hj
theorem lC(h:m μ s=.ok (.int o) s1)(hj:Dz j):ak gv m (mC (.int j)) μ s=.ok (.int (o.fdiv j)) s1:=by rw[aS h (y:=.int j) (s2:=s1) rfl];exact div_ii hj
theorem oP(h:m μ s=.ok (.int o) s1):ak fZ m (mC (.int j)) μ s=.ok (.bl (o==j)) s1:=by rw[aS h (y:=.int j) (s2:=s1) rfl];exact kH
theorem bj(h:m μ s=.ok v s1):aG i m μ s=.nx (μ.set i (some v)) s1:=by rw[hJ,h,aE];rfl
theorem jX{C:MB}(h:t μ s=.ok true s1):fw t B C μ s=B μ s1:=by rw[ef,h,aE,jP]
theorem d8(h:m μ s=.ok v s1):aa m aj μ s=.ok [v] s1:=by rw[aZ,h,ar,bC,cH,ar,a7]
theorem bT{w:ao}(h:m μ s=.ok v s1)(h2:m2 μ s1=.ok w s2):aa m (aa m2 aj) μ s=.ok [v,w] s2:=by rw[aZ,h,ar,bC,d8 h2,ar,a7]
theorem dC{m2:MA}(h:m μ s=.ok v s1)(h2:m2 μ s1=.ok ws s2):aa m m2 μ s=.ok (v::ws) s2:=by rw[aZ,h,ar,bC,h2,ar,a7]
theorem aw{f:FN}{a:MA}{vs:List ao}(h:a μ s=.ok vs s1):ah f a μ s=f vs s1:=by rw[dU,h,ar]
theorem qJ{a:MA}{vs:List ao}(h:a μ s=.ok vs s1)(hl:vs.length<=1000):cq a μ s=.ok (.tup vs) s1:=by rw[i5,h,ar,oI];exact Vu (by rw[VT];lia)
theorem fW{a:MA}{vs:List ao}(h:a μ s=.ok vs s1)(hl:vs.length<=1000):bW a μ s=.ok (.loc s1.length) (s1++[.lst vs]):=by rw[yM,h,ar,Em];exact Vu (by rw[VT];lia)
theorem zd{a:MA}(h:a μ s=.ok [.int j] s1)(h1:-(2 ^ 62)<=j)(h2:j<2 ^ 62):cA a μ s=.ok (cF 0 j.toNat,fun _=>True) s1:=by rw[u7,h,ar,u9 h1 h2]
end
def gF(A:List aA)(t:aA):List aA:=gH A t.1 (bg A t.1+t.2)
theorem vg(P:List aA):cf P=P.foldl gF []:=rfl
theorem Fl(A B:List aA):cf (A++B)=B.foldl gF (cf A):=by rw[vg,vg,Z5]
theorem kf{A:List aA}{k:_S}(h:k ∉ A.map (·.1)):bg A k=0:=by
 unfold bg;have:(A.find? fun p=>decide (p.1=k))=none:=by rw[Zq];intro p hp z;exact h (VH.mpr ⟨p,hp,Wz z⟩)
 rw[this];rfl
theorem qK{A:List aA}{k:_S}(v:Int)(h:k ∉ A.map (·.1)):gH A k v=A++[(k,v)]:=by unfold gH;rw[VA fun z=>h (ve.mp z)]
theorem Fm{A P:List aA}{t:aA}(h:((A++t::P).map (·.1)).Nodup):t.1 ∉ A.map (·.1)/\((A++[t]++P).map (·.1)).Nodup:=by refine⟨?_,by rw[Vs];exact h⟩;rw[WI,VB,Zz]at h;exact fun m=>h.2.2 _ m _ VO rfl
theorem t_:∀(P A:List aA),((A++P).map (·.1)).Nodup->P.foldl gF A=A++P
 |[],A,_=>by rw[VZ];rfl
 |t::P,A,h=>by have n:=Fm h;show P.foldl gF (gF A t)=_;unfold gF;rw[kf n.1,qK _ n.1,Xs];have:=t_ P (A++[t]) n.2;rw[Vs]at this;exact this
theorem t!{D:List aA}(h:(D.map (·.1)).Nodup):cf D=D:=t_ D [] h
theorem xy:∀(P A:List aA),((A++P).map (·.1)).Nodup->MN.putAll (P.map eD) (A.map eD)=(A++P).map eD
 |[],A,_=>by rw[VZ];rfl
 |t::P,A,h=>by have n:=Fm h;show MN.putAll (P.map eD) (uW (A.map eD) (iK t.1) (.int t.2))=_;rw[AN,qK _ n.1];have:=xy P (A++[t]) n.2;rw[Vs]at this;exact this
theorem Fn:∀D:List aA,Cb (D.map tV)=some (D.map eD)
 |[]=>rfl
 |t::D=>by
  show(match jL (ax t.1),Cb (D.map tV) with
   |some q,some l=>some ((q,ao.int t.2)::l)
   |_,_=>none)=_
  rw[nR,Fn D];rfl
theorem NY{D:List aA}(h:aq st p=some (D.map tV))(nd:(D.map (·.1)).Nodup):xg [.loc p] st=.ok (.loc st.length) (st++[.dT (D.map eD)]):=by unfold xg;dsimp only;rw[h];dsimp only;rw[Fn];dsimp only;have:=xy D [] nd;rw[Wg,VM]at this;rw[this]
def Rg(r:Int)(L:List aA):List aA:=(L.map fun t=>(t.1,bE r t.2)).filter fun t=>t.2 !=0
theorem AR{D:List aA}(nd:(D.map (·.1)).Nodup){t:aA}(ht:t∈D):bg D t.1=t.2:=by
 have m:=xq (A:=D) (k:=t.1) (VH.mpr ⟨t,ht,rfl⟩);have:(t.1,bg D t.1)=t:=by
  have inj:∀a∈D,∀b∈D,a.1=b.1->a=b:=by
   intro a ha b hb e;have p:=Xh.mp nd;exact Classical.byContradiction fun ne=>by
    rcases Y'.mp ha with⟨i,hi,rfl⟩
    rcases Y'.mp hb with⟨j,hj,rfl⟩
    have q:=WJ.mp p;rcases YX i j with c|c|c
    .exact q i j hi hj c e
    .subst c;exact ne rfl
    .exact q j i hj hi c e.symm
  exact inj _ m _ ht rfl
 exact Xg (·.2) this
theorem Cs{D:List aA}(f:SO.fh (D.map (·.1))):fJ r D=Rg r D:=by
 have nd:=eG f;have e:iG (D.map (·.1))=D.map (·.1):=qq (eB _) (iS nd) f;have:lu D=D:=by
  unfold lu;rw[e,VN];have:D.map ((fun k=>(k,bg D k)) ∘ fun t=>t.1)=D.map id:=V7 fun t ht=>by show(t.1,bg D t.1)=t;rw[AR nd ht]
  rw[this,Yv]
 unfold fJ Rg;rw[this]
theorem qL(r:Int){A:List aA}(nd:(A.map (·.1)).Nodup):SO.fh ((fJ r A).map (·.1)):=by
 rw[<-qI];unfold OL;rw[Yo,VN];have:(((iG (A.map (·.1))).filter ((fun t=>t.2 !=0) ∘ fun k=>(k,bE r (bg A k)))).map ((fun t=>t.1) ∘ fun k=>(k,bE r (bg A k))))=(iG (A.map (·.1))).filter ((fun t:aA=>t.2 !=0) ∘ fun k=>(k,bE r (bg A k))):=by have:((fun t:aA=>t.1) ∘ fun k:_S=>(k,bE r (bg A k)))=id:=rfl;rw[this,Yv]
 rw[this];exact List.Pairwise.sublist List.filter_sublist (iS nd)
theorem qM{B:Int}(b0:0<=B):∀(P A:List aA)(m:Nat),(∀t∈P,-B<=t.2/\t.2<=B)->(∀t∈A,-(m*B)<=t.2/\t.2<=m*B)->∀t∈P.foldl gF A,-((m+P.length:Nat)*B)<=t.2/\t.2<=(m+P.length:Nat)*B
 |[],A,m,_,h=>h
 |p::P,A,m,hp,h=>by
  have e:((m+1:Nat):Int)*B=m*B+B:=by rw[Int.natCast_add,Zf];simp
  have mb:0<=(m:Int)*B:=Int.mul_nonneg (XE _) b0;have q:=hp p VO;have ih:=qM b0 P (gF A p) (m+1) (fun t ht=>hp t (VQ _ ht)) (fun t ht=>by
   rw[e];rcases qE ht with ht|rfl
   .have:=h t ht;lia
   .have:=y8 (k:=p.1) mb h;dsimp only;lia)
  intro t ht;have:=ih t ht;rw[Vt,show m+(P.length+1)=m+1+P.length by lia];exact this
theorem qN{B:Int}(b0:0<=B){P:List aA}(hp:∀t∈P,-B<=t.2/\t.2<=B):∀t∈cf P,-(P.length*B)<=t.2/\t.2<=P.length*B:=by have:=qM b0 P [] 0 hp (fun t ht=>by cases ht);rw[V1]at this;exact this
theorem zg{n C:Int}(hr:0<=r)(hC:r<=C)(h:-C<=n/\n<=C):-C<=bE r n/\bE r n<=C:=by
 unfold bE;split
 .exact h
 .have:=f9 (m:=r) (by lia) n;lia
theorem mM{A:List aA}{t:aA}(h:t∈fJ r A):∃q∈A,t.1=q.1/\t.2=bE r q.2:=by unfold fJ at h;obtain⟨u,hu,rfl⟩:=VH.mp (WC.mp h).1;unfold lu at hu;obtain⟨k,hk,rfl⟩:=VH.mp hu;exact⟨_,xq ((eB _).mem_iff.mp hk),rfl,rfl⟩
theorem Fo(r:Int)(A:List aA):(fJ r A).length<=A.length:=by rw[<-qI];refine Vx (Je _ _ _) ?_;rw[(eB _).length_eq,Vm];exact Vo _
structure Kr(af:Nat)(D:List aA)(C:Int):Prop where
 U':SO.fh (D.map (·.1))
 len:∀t∈D,t.1.length=af
 big:∀t∈D,-C<=t.2/\t.2<=C
theorem Kr.nd{D:List aA}{C:Int}(h:Kr af D C):(D.map (·.1)).Nodup:=eG h.U'
theorem AU{B:Int}{P:List aA}(b0:0<=B)(hr:0<=r)(hl:∀t∈P,t.1.length=af)(hb:∀t∈P,-B<=t.2/\t.2<=B):Kr af (fJ r (cf P)) (P.length*B+r):=by
 have ga:=dZ P;refine⟨qL r ga.1,fun t ht=>?_,fun t ht=>?_⟩
 .obtain⟨q,hq,e1,_⟩:=mM ht;obtain⟨w,hw,e⟩:=VH.mp (ga.2.2 q hq);rw[e1,<-e];exact hl w hw
 .obtain⟨q,hq,_,e2⟩:=mM ht;have:=qN b0 hb q hq;have pb:0<=(P.length:Int)*B:=Int.mul_nonneg (XE _) b0;rw[e2];exact zg hr (by lia) (by lia)
def pJ(f:Int)(L:List aA):List aA:=L.map fun t=>(t.1,f*t.2)
theorem Fp(f:Int)(L:List aA)(t:aA):pJ f (L++[t])=pJ f L++[(t.1,f*t.2)]:=by unfold pJ;rw[WI];rfl
theorem AV(f:Int)(L:List aA):(pJ f L).length=L.length:=Vm _
abbrev Va:MB:=cO (ah PM.jS (aa (ae 4) (aa (ae 5) (aa (ak cu (ae 3) (ae 6)) aj))))
theorem Jf{p f:Int}{D P:List aA}(f1:-(2 ^ 64)<f)(f2:f<2 ^ 64)(h:aq st q=some (P.map tV))(hl:D.length+P.length<1000000):
  ∃y5 y6,forL (fun av=>aq av q=some (P.map tV)) (bX [au 5,au 6]) Va (P.map tV) [x0,x1,some (.loc q),some (.int f),some (.loc st.length),none,none] (st++[.dT (D.map eD)])=.nx [x0,x1,some (.loc q),some (.int f),some (.loc st.length),y5,y6] (st++[.dT (((pJ f P).foldl gF D).map eD)]):=by
 have hg:∀(A:List aA),aq (st++[.dT (A.map eD)]) q=some (P.map tV):=fun A=>aJ h _;have ln:∀(L A:List aA),(L.foldl gF A).length<=A.length+L.length:=by
  intro L
  induction L with
  |nil=>intro A;exact Vo _
  |cons t L ih=>
   intro A;have:=ih (gF A t);have h2:(gF A t).length<=A.length+1:=xp;rw[Vt];show(L.foldl gF (gF A t)).length<=_;lia
 obtain⟨μ',av,e,rfl,y4,y5,rfl⟩:=cV (g:=fun av=>aq av q=some (P.map tV)) (a:=bX [au 5,au 6]) (body:=Va)
  (fun i μ s'=>s'=st++[.dT (((pJ f (P.take i)).foldl gF D).map eD)]/\∃y5 y6,μ=[x0,x1,some (.loc q),some (.int f),some (.loc st.length),y5,y6])
  (P.map tV) 0 [x0,x1,some (.loc q),some (.int f),some (.loc st.length),none,none] (st++[.dT (D.map eD)])
  (by
   rintro i u μ s' hu ⟨rfl,y5,y6,rfl⟩;rw[V1];refine⟨hg _,?_⟩;rw[VF]at hu;have hi:i<P.length:=by
    rcases V2 i P.length with z|z
    .exact z
    .rw[VW z]at hu;cases hu
   rw[Vp hi]at hu;obtain⟨t,ht⟩:∃t,t=P[i]:=⟨_,rfl⟩
   rw[<-ht]at hu;cases hu;have tk:P.take (i+1)=P.take i++[t]:=by rw[Xk,Vp hi,<-ht];rfl
   have lA:=ln (pJ f (P.take i)) D;rw[AV,V']at lA;have ad:=tY (k:=t.1) (v:=f*t.2) (pI st (((pJ f (P.take i)).foldl gF D).map eD)) (by rw[VT];lia);have sn:(pJ f (P.take (i+1))).foldl gF D=gH ((pJ f (P.take i)).foldl gF D) t.1 (bg ((pJ f (P.take i)).foldl gF D) t.1+f*t.2):=by rw[tk,Fp,Z5];rfl
   rw[set_dict,<-sn]at ad;refine⟨[x0,x1,some (.loc q),some (.int f),some (.loc st.length),some (ax t.1),some (.int t.2)],rfl,[x0,x1,some (.loc q),some (.int f),some (.loc st.length),some (ax t.1),some (.int t.2)],_,.inl ?_,rfl,_,_,rfl⟩;have m:ak cu (ae 3) (ae 6) [x0,x1,some (.loc q),some (.int f),some (.loc st.length),some (ax t.1),some (.int t.2)] (st++[.dT (((pJ f (P.take i)).foldl gF D).map eD)])=.ok (.int (f*t.2)) (st++[.dT (((pJ f (P.take i)).foldl gF D).map eD)]):=je f1 f2;show cO _ _ _=_;rw[gj,aw (dC (v:=.loc st.length) (s1:=st++[.dT (((pJ f (P.take i)).foldl gF D).map eD)]) rfl (bT (v:=ax t.1) (s1:=st++[.dT (((pJ f (P.take i)).foldl gF D).map eD)]) rfl m)),ad,aE];rfl)
  (fun μ s hp=>by obtain⟨rfl,_⟩:=hp;exact hg _)
  ⟨rfl,none,none,rfl⟩
 rw[V1,Vm,Wf (Vo _)]at e;exact⟨y4,y5,e⟩
theorem AW{af:Nat}:∀(P A:List aA),(∀t∈A,t.1.length=af)->(∀t∈P,t.1.length=af)->∀t∈P.foldl gF A,t.1.length=af
 |[],A,h,_=>h
 |p::P,A,h,hp=>AW P (gF A p) (fun t ht=>by
   rcases qE ht with ht|rfl
   .exact h t ht
   .exact hp p VO) fun t ht=>hp t (VQ _ ht)
theorem lE(h1:1<=af){k:_S}(h:k.length=af):k≠[]:=fun z=>by rw[z]at h;simp at h;lia
theorem nS{f:Int}{D P:List aA}{C:Int}(f1:-(2 ^ 64)<f)(f2:f<2 ^ 64)(hp:aq st p=some (D.map tV))(hq:aq st q=some (P.map tV))(h1:1<=af)(S:Kr af D C)(hP:∀t∈P,t.1.length=af)(hl:D.length+P.length<1000000):
  ∃g k,PM.c5 [.int r,.loc p,.loc q,.int f] st=.ok (.loc k) (st++g)/\st.length<=k/\(st++g)[k]?=some (.lst ((fJ r (cf (D++pJ f P))).map tV)):=by
 obtain⟨A,hA⟩:∃A,A=(pJ f P).foldl gF D:=⟨_,rfl⟩
 have eA:cf (D++pJ f P)=A:=by rw[Fl,t! S.nd,hA]
 have ga:=dZ (D++pJ f P);rw[eA]at ga;have lA:A.length<1000000:=by have:=ga.2.1;rw[Vr,AV]at this;lia
 have nA:∀t∈A,t.1.length=af:=by
  rw[hA];exact AW _ _ S.len fun t ht=>by obtain⟨u,hu,rfl⟩:=VH.mp ht;exact hP u hu
 obtain⟨s1,d_⟩:∃s1,s1=st++[aR.dT (A.map eD)]:=⟨_,rfl⟩
 obtain⟨c1,c2,c3,et⟩:=t4 (s:=s1) (d:=st.length) (A:=A) (r:=r) (by rw[d_];exact pI st _) ga.1 lA (fun t ht=>lE h1 (nA t ht));rw[eA];refine⟨aR.dT (A.map eD)::[c1,c2,c3,.lst ((fJ r A).map tV)],st.length+4,?_,by lia,?_⟩
 .obtain⟨y5,y6,e⟩:=Jf (p:=0) (x0:=some (.int r)) (x1:=some (.loc p)) (D:=D) f1 f2 hq hl;rw[<-hA,<-d_]at e;have x4:aG 4 (ah xg (aa (ae 1) aj)) [some (.int r),some (.loc p),some (.loc q),some (.int f),none,none,none] st=.nx [some (.int r),some (.loc p),some (.loc q),some (.int f),some (.loc st.length),none,none] (st++[.dT (D.map eD)]):=by refine bj (v:=.loc st.length) ?_;rw[aw (d8 (v:=.loc p) (s1:=st) rfl),NY hp S.nd]
  have v2:ae 2 [some (ao.int r),some (.loc p),some (.loc q),some (.int f),some (.loc st.length),none,none] (st++[.dT (D.map eD)])=.ok (.loc q) (st++[.dT (D.map eD)]):=rfl;have l1:s1.length=st.length+1:=by rw[d_,Vr];rfl
  rw[l1]at et;unfold PM.c5;rw[bw (np:=4) (us:=[ao.int r,.loc p,.loc q,.int f]) rfl];show(aB (aG 4 (ah xg (aa (ae 1) aj))) (aB (dM (bJ (ae 2)) (bX [au 5,au 6]) Va) (aP (ah PM.cZ (aa (ae 0) (aa (ae 4) aj))))) [some (.int r),some (.loc p),some (.loc q),some (.int f),none,none,none] st).fin=_;rw[ay,x4,az,ay,fA,b_,v2,ar,bI (aJ hq _),aE,hU,e,az,ba,aw (bT (v:=.int r) (s1:=s1) rfl (w:=.loc st.length) (s2:=s1) rfl),et,aE,d_,Vs];rfl
 .rw[Vv (by lia),show st.length+4-st.length=4 by lia];rfl
def chg(g:Int->Int)(L:List aA):List aA:=L.map fun t=>(t.1,g t.2)
theorem Jg(g:Int->Int)(L:List aA):(chg g L).length=L.length:=Vm _
theorem Jh(P:List aA):pJ 1 P=P:=by
 unfold pJ;have:(fun t:aA=>(t.1,1*t.2))=id:=by funext t;show(t.1,1*t.2)=t;rw[Z6]
 rw[this,Yv]
theorem Ji(P:List aA):pJ (-1) P=chg (fun n => -n) P:=by unfold pJ chg;refine V7 fun t _=>?_;rw[Int.neg_mul,Z6]
section
variable{D P:List aA}{C:Int}
theorem Ks{f:Int}{w:ME}{F:FN}(hF:F=gC 3 3 (aB (cO (ah PM.bq (aa (ae 0) aj))) (aP (ah PM.c5 (aa (ae 0) (aa (ae 1) (aa (ae 2) (aa w aj))))))))(hw:∀μ s,w μ s=.ok (.int f) s)(f1:-(2 ^ 64)<f)(f2:f<2 ^ 64)(hr:dR r=true)(hp:aq st p=some (D.map tV))(hq:aq st q=some (P.map tV))(h1:1<=af)(S:Kr af D C)(hP:∀t∈P,t.1.length=af)(hl:D.length+P.length<1000000):
  ∃g k,F [.int r,.loc p,.loc q] st=.ok (.loc k) (st++g)/\st.length<=k/\(st++g)[k]?=some (.lst ((fJ r (cf (D++pJ f P))).map tV)):=by
 obtain⟨g1,e1⟩:=gm hr st;obtain⟨g2,k,e2,lk,hk⟩:=nS (r:=r) f1 f2 (aJ hp g1) (aJ hq g1) h1 S hP hl;refine⟨g1++g2,k,?_,by rw[Vr]at lk;lia,by rw[<-Vs];exact hk⟩;have x1:cO (ah PM.bq (aa (ae 0) aj)) [some (.int r),some (.loc p),some (.loc q)] st=.nx [some (.int r),some (.loc p),some (.loc q)] (st++g1):=by rw[gj,aw (d8 (v:=.int r) (s1:=st) rfl),e1,aE];rfl
 rw[hF,bw (np:=3) (us:=[ao.int r,.loc p,.loc q]) rfl];show(aB (cO (ah PM.bq (aa (ae 0) aj))) (aP (ah PM.c5 (aa (ae 0) (aa (ae 1) (aa (ae 2) (aa w aj)))))) [some (.int r),some (.loc p),some (.loc q)] st).fin=_;rw[ay,x1,az,ba,aw (dC (v:=.int r) (s1:=st++g1) rfl (dC (v:=.loc p) (s1:=st++g1) rfl (bT (v:=.loc q) (s1:=st++g1) rfl (hw _ _)))),e2,aE,Vs];rfl
theorem Jj(hr:dR r=true)(hp:aq st p=some (D.map tV))(hq:aq st q=some (P.map tV))(h1:1<=af)(S:Kr af D C)(hP:∀t∈P,t.1.length=af)(hl:D.length+P.length<1000000):
  ∃g k,PM.plus [.int r,.loc p,.loc q] st=.ok (.loc k) (st++g)/\st.length<=k/\(st++g)[k]?=some (.lst ((fJ r (cf (D++P))).map tV)):=by
 have:=Ks (F:=PM.plus) (f:=1) rfl (fun _ _=>rfl) (by decide) (by decide) hr hp hq h1 S hP hl;rwa [Jh]at this
theorem Fq(hr:dR r=true)(hp:aq st p=some (D.map tV))(hq:aq st q=some (P.map tV))(h1:1<=af)(S:Kr af D C)(hP:∀t∈P,t.1.length=af)(hl:D.length+P.length<1000000):
  ∃g k,PM.minus [.int r,.loc p,.loc q] st=.ok (.loc k) (st++g)/\st.length<=k/\(st++g)[k]?=some (.lst ((fJ r (cf (D++chg (fun n => -n) P))).map tV)):=by
 have:=Ks (F:=PM.minus) (f:=-1) rfl (fun _ _=>rfl) (by decide) (by decide) hr hp hq h1 S hP hl;rwa [Ji]at this
def vh(af:Nat):_S:=List.replicate af 0
theorem Fs(af:Nat):g_ af [ao.int 0]=(vh af).map ao.int:=by
 unfold g_ vh
 induction af with
 |zero=>rfl
 |succ k ih=>
  rw[Wk,Wk,Xd,VB,ih];rfl
theorem xA{n:Int}(hr:dR r=true)(h1:1<=af)(hm:af<=4):
  ∃g k,PM.constant [.int r,.int (af:Int),.int n] st=.ok (.loc k) (st++g)/\st.length<=k/\(st++g)[k]?=some (.lst ((Rg r [(vh af,n)]).map tV)):=by
 obtain⟨g1,e1⟩:=gm hr st;obtain⟨s1,d_⟩:∃s1,s1=st++g1:=⟨_,rfl⟩
 rw[<-d_]at e1;obtain⟨μ,hμ⟩:∃μ:MN.Env,μ=[some (.int r),some (.int (af:Int)),some (.int n)]:=⟨_,rfl⟩
 have x1:cO (ah PM.bq (aa (ae 0) aj)) μ st=.nx μ s1:=by rw[hμ,gj,aw (d8 (v:=.int r) (s1:=st) rfl),e1,aE];rfl
 have x2:cO (ah PM.c_ (aa (ae 1) aj)) μ s1=.nx μ s1:=by rw[hμ,gj,aw (d8 (v:=.int (af:Int)) (s1:=s1) rfl),mL h1 hm s1,aE];rfl
 have tu:ak yU (cq (aa (mC (.int 0)) aj)) (ae 1) μ s1=.ok (ax (vh af)) s1:=by rw[hμ,aS (qJ (d8 (v:=.int 0) (s1:=s1) rfl) (by show 1<=1000;decide)) (y:=.int (af:Int)) (s2:=s1) rfl];unfold yU;dsimp only;rw[Vu ⟨by simp,by lia,by lia,by rw[VT];show 1*(af:Int).toNat<=_;lia⟩,WE,Fs];rfl
 have ls:bW (aa (cq (aa (ak yU (cq (aa (mC (.int 0)) aj)) (ae 1)) (aa (ae 2) aj))) aj) μ s1=.ok (.loc s1.length) (s1++[.lst ([(vh af,n)].map tV)]):=
  fW (d8 (qJ (bT tu (w:=.int n) (s2:=s1) (by rw[hμ];rfl)) (by show 2<=1000;decide))) (by show 1<=1000;decide)
 obtain⟨c,se⟩:=qH (r:=r) (L:=[(vh af,n)]) (p:=s1.length) (st:=s1++[.lst ([(vh af,n)].map tV)]) (bH s1 _) (by show 1<=1000000;decide);refine⟨g1++[.lst ([(vh af,n)].map tV)]++[c,.lst ((Rg r [(vh af,n)]).map tV)],s1.length+2,?_,by rw[d_,Vr];lia,?_⟩
 .unfold PM.constant;rw[bw (np:=3) (us:=[ao.int r,.int (af:Int),.int n]) rfl];show(aB (cO (ah PM.bq (aa (ae 0) aj))) (aB (cO (ah PM.c_ (aa (ae 1) aj))) (aP (ah PM.cY (aa (ae 0) (aa (bW (aa (cq (aa (ak yU (cq (aa (mC (.int 0)) aj)) (ae 1)) (aa (ae 2) aj))) aj)) aj))))) [some (.int r),some (.int (af:Int)),some (.int n)] st).fin=_;rw[<-hμ,ay,x1,az,ay,x2,az,ba,aw (bT (v:=.int r) (s1:=s1) (by rw[hμ];rfl) ls),se,aE];rw[Vr,d_];simp only[Vs];rfl
 .rw[<-Vs,<-Vs,<-d_];rw[Vv (by rw[Vr];show s1.length+1<=_;lia),Vr];rw[show s1.length+2-(s1.length+[aR.lst ([(vh af,n)].map tV)].length)=1 by show s1.length+2-(s1.length+1)=1;lia];rfl
end
def ones(af:Nat):_S:=List.replicate af 1
section
variable{s:ai}
end
section
variable{μ:MN.Env}{s:ai}{a:ME}{k:Int}{x:ao}
theorem Kt(h:a μ s=.ok x s)(h1:m μ s=.ok (.int k) s):mw a (dy m) dP μ s=Ed (some k) none x s:=by rw[QK,h,ar,UG,Es,h1,ar,UH,ar,QL,Er,ar,QM]
end
theorem Ft{k:Nat}(h:k<=us.length):mq us (some (k:Int)) none=us.drop k:=by unfold mq;rw[HT.lW,HT.j7,Nat.min_eq_left h,Wf (by rw[Wl];lia)]
section
variable{n C:Int}{D P:List aA}
end
section
variable{n C:Int}{D P:List aA}
end
section
variable{n C:Int}{D P:List aA}
end
theorem NZ(us:List ao)(k:Nat):mq us (some (k:Int)) none=us.drop k:=by
 rcases Nat.le_total k us.length with h|h
 .exact Ft h
 .unfold mq;rw[HT.lW,HT.j7,Nat.min_eq_right h,Wj,_g,List.drop_eq_nil_of_le h]
theorem N0{k:Nat}{i:Int}(h:gP k i):-((2:Int) ^ k)<=i/\i<=(2:Int) ^ k:=by
 have h':i.natAbs<2 ^ k:=h;have:((2 ^ k:Nat):Int)=(2:Int) ^ k:=by simp
 lia
theorem Rh{hi:Int}(h:(jc hi n)[i]?=some u):i<n/\u=.int (hi-(i:Int)):=by unfold jc at h;have wg:=d9 h;rw[Vm,WD]at wg;rw[VF,Xv wg]at h;exact⟨wg,(VP h).symm⟩
theorem N4(hi:Int)(n:Nat):(jc hi n).length=n:=by unfold jc;rw[Vm,WD]
theorem Jk(m:Nat):Builtin.bitAnd (m:Int) 1=((m % 2:Nat):Int):=by
 unfold Builtin.bitAnd;have h1:decide ((0:Int)<=(m:Int))=true:=by simp
 have h2:decide ((0:Int)<=1)=true:=by decide
 rw[h1,h2];show(((m:Int).toNat &&& (1:Int).toNat:Nat):Int)=_;rw[WE];show((m &&& 1:Nat):Int)=_;rw[Nat.and_one_is_mod]
theorem xB{L:d5}{mb:ME}{w y:ao}{μ:MN.Env}{s:ai}(tJ:L.ps.length=2)(hμ:μ[0]?=some (some (.fn L u)))(ha:ms μ s=.ok [v,w] s1)(hb:mb [some v,some w,some u] s1=.ok y s2):iF 0 L mb ms μ s=.ok y s2:=by unfold iF;rw[hμ];dsimp only;rw[Vu rfl,ha];show(if([v,w]:List ao).length=L.ps.length then _ else _)=_;rw[tJ,Vu (by rfl)];show wC mb [some v,some w,some u] s1=_;unfold wC;rw[hb]
theorem N5{np:Nat}{L:d5}{b:MB}(h:us.length+1=np):MS np n L b u us st=(b (some (.fn L u)::us.map some++List.replicate (n-np) none) st).fin:=by unfold MS;rw[Vu h];cases b (some (.fn L u)::us.map some++List.replicate (n-np) none) st<;>rfl
section
variable{L:d5}{mb:ME}{x:ao}
abbrev Vb:MT:=bO (ak fZ (ak Ib (ak Ek (ae 2) (ae 4)) (mC (.int 1))) (mC (.int 1)))
abbrev rpB(L:d5)(mb:ME):MB:=aB (aG 3 (iF 0 L mb (aa (ae 3) (aa (ae 3) aj)))) (fw Vb (aG 3 (iF 0 L mb (aa (ae 3) (aa (ae 1) aj)))) aX)
theorem AX{m:Nat}{x3:Option ao}{s:ai}:Vb [x0,x1,some (ao.int (m:Int)),x3,some (ao.int (p:Int))] s=.ok (m / 2 ^ p % 2==1) s:=by
 have e1:ak Ek (ae 2) (ae 4) [x0,x1,some (ao.int (m:Int)),x3,some (ao.int (p:Int))] s=.ok (ao.int ((m / 2 ^ p:Nat):Int)) s:=by
  rw[aS (x:=.int (m:Int)) (y:=.int (p:Int)) (s1:=s) (s2:=s) rfl rfl];show(if(0:Int)<=(p:Int)then cD.ok (ao.int ((m:Int) / 2 ^ (p:Int).toNat)) s else .bad)=_;rw[Vu (by lia),WE];have:((m / 2 ^ p:Nat):Int)=(m:Int) / 2 ^ p:=by simp
  rw[this]
 have e2:ak Ib (ak Ek (ae 2) (ae 4)) (mC (.int 1)) [x0,x1,some (ao.int (m:Int)),x3,some (ao.int (p:Int))] s=.ok (ao.int ((m / 2 ^ p % 2:Nat):Int)) s:=by rw[aS e1 (y:=.int 1) (s2:=s) rfl];show cD.ok (ao.int (Builtin.bitAnd ((m / 2 ^ p:Nat):Int) 1)) s=_;rw[Jk]
 unfold Vb;rw[cU (oP e2)];have:(((m / 2 ^ p % 2:Nat):Int)==1)=(m / 2 ^ p % 2==1):=by
  cases h:(m / 2 ^ p % 2==1) with
  |true=>rw[Wr]at h;rw[h];rfl
  |false=>
   have h':=V9.mp h;exact V9.mpr (by lia)
 rw[this]
structure Ri(mb:ME)(u:ao)(n:Nat)(Rep:Nat->ao->ai->Prop):Prop where
 pure:∀i v st,Rep i v st->Qa v=false
 mono:∀i v st g,Rep i v st->Rep i v (st++g)
 mul:∀i j v w st,1<=i->1<=j->i+j<=n->Rep i v st->Rep j w st->∃y g,mb [some v,some w,some u] st=.ok y (st++g)/\Rep (i+j) y (st++g)
theorem Ct(n p:Nat):n / 2 ^ p=2*(n / 2 ^ (p+1))+n / 2 ^ p % 2:=by
 have:n / 2 ^ (p+1)=n / 2 ^ p / 2:=by rw[X5,Nat.div_div_eq_div_mul]
 lia
theorem N6{Rep:Nat->ao->ai->Prop}(tJ:L.ps.length=2)(hn:1<=n)(hb:n<2 ^ 60)(R:Ri mb u n Rep)(h1:Rep 1 x st):
  ∃y g,PM.repeated L mb u [x,.int (n:Int)] st=.ok y (st++g)/\Rep n y (st++g):=by
 have aaK:n.log2<60:=(Yx (by lia)).mpr hb;have Vc:n / 2 ^ n.log2=1:=by have a:=_A (n:=n) (by lia);have b:n<2 ^ (n.log2+1):=Y_;rw[X5]at b;have hp:0<2 ^ n.log2:=Nat.pow_pos (by decide);have c:1<=n / 2 ^ n.log2:=(Z0 hp).mpr (by lia);have d:n / 2 ^ n.log2<2:=(Nat.div_lt_iff_lt_mul hp).mpr (by lia);lia
 obtain⟨μ',av,e,v,x4,g,hg,rfl,rv⟩:=cV (g:=fun _=>True) (a:=au 4) (body:=rpB L mb)
  (fun i μ s'=>∃v x4 g,s'=st++g/\μ=[some (.fn L u),some x,some (ao.int (n:Int)),some v,x4]/\Rep (n / 2 ^ (n.log2-i)) v s')
  (jc ((n.log2:Int)-1) n.log2) 0 [some (.fn L u),some x,some (ao.int (n:Int)),some x,none] st
  (by
   rintro i w μ s' hu ⟨v,x4,g,hs,rfl,rv⟩;obtain⟨hi,rfl⟩:=Rh hu;rw[V1]at rv⊢;refine⟨trivial,?_⟩;obtain⟨p,hp⟩:∃p,p=n.log2-(i+1):=⟨_,rfl⟩
   have hpi:n.log2-i=p+1:=by lia
   rw[hpi]at rv;have ep:((n.log2:Int)-1-(i:Int))=(p:Int):=by lia
   rw[ep,<-hp];obtain⟨k,hk⟩:∃k,k=n / 2 ^ (p+1):=⟨_,rfl⟩
   have CT:=Ct n p;rw[<-hk]at CT rv;have k1:1<=k:=by rw[hk];have hp:0<2 ^ (p+1):=Nat.pow_pos (by decide);refine(Z0 hp).mpr ?_;have a:=_A (n:=n) (by lia);have b:2 ^ (p+1)<=2 ^ n.log2:=WW (by decide) (by lia);lia
   have kn:n / 2 ^ p<=n:=Nat.div_le_self _ _;have bt:n / 2 ^ p % 2<2:=Nat.mod_lt _ (by decide);obtain⟨y,g1,ey,ry⟩:=R.mul k k v v s' k1 k1 (by lia) rv rv;have pv:=R.pure _ _ _ rv;have vv:∀s,aa (ae 3) (aa (ae 3) aj) [some (.fn L u),some x,some (ao.int (n:Int)),some v,some (ao.int (p:Int))] s=.ok [v,v] s:=fun s=>bT (nK rfl pv) (nK rfl pv);have s1:aG 3 (iF 0 L mb (aa (ae 3) (aa (ae 3) aj))) [some (.fn L u),some x,some (ao.int (n:Int)),some v,some (ao.int (p:Int))] s'=.nx [some (.fn L u),some x,some (ao.int (n:Int)),some y,some (ao.int (p:Int))] (s'++g1):=by rw[bj (xB tJ rfl (vv s') ey)];rfl
   have py:=R.pure _ _ _ ry;refine⟨[some (.fn L u),some x,some (ao.int (n:Int)),some v,some (ao.int (p:Int))],rfl,?_⟩;cases Jl:(n / 2 ^ p % 2==1) with
   |false=>
    have h0:=V9.mp Jl;have t:=AX (m:=n) (p:=p) (x0:=some (.fn L u)) (x1:=some x) (x3:=some y) (s:=s'++g1);rw[Jl]at t;refine⟨_,_,.inl (?_:_=c6.nx [some (.fn L u),some x,some (ao.int (n:Int)),some y,some (ao.int (p:Int))] (s'++g1)),y,some (ao.int (p:Int)),g++g1,by rw[hs,Vs],rfl,?_⟩
    .show aB _ _ _ _=_;rw[ay,s1,az,gz t]
    .rw[show n / 2 ^ p=k+k by lia];exact ry
   |true=>
    have h0:=Wr.mp Jl;have t:=AX (m:=n) (p:=p) (x0:=some (.fn L u)) (x1:=some x) (x3:=some y) (s:=s'++g1);rw[Jl]at t;have rx:Rep 1 x (s'++g1):=by rw[hs];exact R.mono _ _ _ _ (R.mono _ _ _ _ h1)
    have px:=R.pure _ _ _ rx;obtain⟨z,g2,ez,rz⟩:=R.mul (k+k) 1 y x (s'++g1) (by lia) (by lia) (by lia) ry rx;have yx:aa (ae 3) (aa (ae 1) aj) [some (.fn L u),some x,some (ao.int (n:Int)),some y,some (ao.int (p:Int))] (s'++g1)=.ok [y,x] (s'++g1):=bT (nK rfl py) (nK rfl px);have s2:aG 3 (iF 0 L mb (aa (ae 3) (aa (ae 1) aj))) [some (.fn L u),some x,some (ao.int (n:Int)),some y,some (ao.int (p:Int))] (s'++g1)=.nx [some (.fn L u),some x,some (ao.int (n:Int)),some z,some (ao.int (p:Int))] (s'++g1++g2):=by rw[bj (xB tJ rfl yx ez)];rfl
    refine⟨_,_,.inl (?_:_=c6.nx [some (.fn L u),some x,some (ao.int (n:Int)),some z,some (ao.int (p:Int))] (s'++g1++g2)),z,some (ao.int (p:Int)),g++g1++g2,by rw[hs,Vs,Vs,Vs],rfl,?_⟩
    .show aB _ _ _ _=_;rw[ay,s1,az,jX t,s2]
    .rw[show n / 2 ^ p=k+k+1 by lia];exact rz)
  (fun μ s hp=>trivial)
  ⟨x,none,[],(VZ st).symm,rfl,by rw[YV,Vc];exact h1⟩
 rw[V1,N4,Wj,Nat.pow_zero,Nat.div_one]at rv;subst hg;refine⟨v,g,?_,rv⟩;have px:=R.pure _ _ _ h1;have pv:=R.pure _ _ _ rv;unfold PM.repeated;rw[N5 (np:=3) (us:=[x,ao.int (n:Int)]) rfl];show(aB (aG 3 (ae 1)) (aB (dM (nF (aa (ak jH (wL (ae 2)) (mC (.int 2))) (aa (jI (mC (.int 1))) (aa (jI (mC (.int 1))) aj)))) (au 4) (rpB L mb)) (aP (ae 3))) [some (.fn L u),some x,some (ao.int (n:Int)),none,none] st).fin=_;have f1:aG 3 (ae 1) [some (.fn L u),some x,some (ao.int (n:Int)),none,none] st=.nx [some (.fn L u),some x,some (ao.int (n:Int)),some x,none] st:=by rw[bj (v:=x) (nK rfl px)];rfl
 have bits:Builtin.Int.intBits (n:Int)=n.log2+1:=by unfold Builtin.Int.intBits;rw[VA (by simp;lia)];rfl
 have a1:ak jH (wL (ae 2)) (mC (.int 2)) [some (.fn L u),some x,some (ao.int (n:Int)),some x,none] st=.ok (ao.int ((n.log2:Int)-1)) st:=by rw[aS (x:=.int ((n.log2+1:Nat):Int)) (y:=.int 2) (s1:=st) (s2:=st) (by show cD.ok (ao.int ((Builtin.Int.intBits (n:Int):Nat):Int)) st=_;rw[bits]) rfl];show cD.ok (ao.int (((n.log2+1:Nat):Int)-2)) st=_;rw[show((n.log2+1:Nat):Int)-2=(n.log2:Int)-1 by lia]
 have a2:∀μ:MN.Env,jI (mC (.int 1)) μ st=.ok (ao.int (-1)) st:=fun _=>rfl;have dn:nF (aa (ak jH (wL (ae 2)) (mC (.int 2))) (aa (jI (mC (.int 1))) (aa (jI (mC (.int 1))) aj))) [some (.fn L u),some x,some (ao.int (n:Int)),some x,none] st=.ok (jc ((n.log2:Int)-1) n.log2,fun _=>True) st:=by rw[Iu,dC a1 (bT (a2 _) (a2 _)),ar,Nd (by lia) (by lia) (by decide) (by decide),show((n.log2:Int)-1 - -1).toNat=n.log2 by lia]
 rw[ay,f1,az,ay,fA,dn,aE,hU,e,az,ba,nK rfl pv,aE];rfl
end
theorem ig(n:Int):bE 0 n=n:=Vu rfl
theorem ij(h:0<r)(n:Int):bE r n=n % r:=by unfold bE;rw[VA (by lia),Zr n (by lia)]
theorem mO(hr:dR r=true):r=0\/(2<=r/\r<=997):=by
 unfold dR at hr;rcases Zm _ _ |>.mp hr with h|h
 .exact .inl (by simpa using h)
 .have:=Cg h;exact .inr (by lia)
theorem Fu(hr:dR r=true)(a b:Int):bE r (bE r a*bE r b)=bE r (a*b):=by
 rcases mO hr with rfl|h
 .rw[ig,ig,ig,ig]
 .rw[ij (by lia),ij (by lia),ij (by lia),ij (by lia),<-Int.mul_emod]
theorem Jm(hr:dR r=true)(a:Int):bE r (bE r a)=bE r a:=by
 rcases mO hr with rfl|h
 .rw[ig,ig]
 .rw[ij (by lia),ij (by lia),Int.emod_emod]
theorem Fv(hr:dR r=true)(a b:Int):bE r (a*bE r b)=bE r (a*b):=by rw[<-Fu hr,Jm hr,Fu hr]
theorem Fw(hr:dR r=true)(a b:Int):bE r (bE r a+bE r b)=bE r (a+b):=by
 rcases mO hr with rfl|h
 .rw[ig,ig,ig,ig]
 .rw[ij (by lia),ij (by lia),ij (by lia),ij (by lia),<-Int.add_emod]
theorem Jn(hr:dR r=true):bE r 0=0:=by
 rcases mO hr with rfl|h
 .rw[ig]
 .rw[ij (by lia)];exact Int.zero_emod _
theorem pK{k:Nat}(hk:1<=k):gP k 1:=by show(1:Int).natAbs<2 ^ k;have:2 ^ 1<=2 ^ k:=WW (by decide) hk;have h1:(1:Int).natAbs=1:=rfl;lia
theorem g8{a b:Nat}{i j:Int}(h:gP a i)(k:gP b j)(ha:a<=1000000)(hb:b<=1000000):MulOk i j:=.inl ⟨Sz.of h ha,Sz.of k hb⟩
section
variable{x:Int}{M:eQ}
end
theorem qO{q:Str}{l c:Nat}(h:g? st x l c q)(g:ai):g? (st++g) x l c q:=let⟨j,h⟩:=h;⟨j,jW h g⟩
theorem mP:∀es pt:_S,mf (es.map ao.int) (pt.map ao.int)=(es.zip pt).map fun p=>ao.tup [.int p.1,.int p.2]
 |[],_=>by cases ‹List Int›<;>rfl
 |_::_,[]=>rfl
 |e::es,x::pt=>by show ao.tup [.int e,.int x]::mf (es.map ao.int) (pt.map ao.int)=_;rw[mP es pt];rfl
section
variable{M:eQ}{es pt:_S}
end
theorem Fx{lo:Int}(h:(cF lo n)[i]?=some u):i<n/\u=.int (lo+(i:Int)):=by unfold cF at h;have wg:=d9 h;rw[Vm,WD]at wg;rw[VF,Xv wg]at h;exact⟨wg,(VP h).symm⟩
theorem Fy(lo:Int)(n:Nat):(cF lo n).length=n:=by unfold cF;rw[Vm,WD]
section
variable{pt:_S}{t:aA}
end
section
variable{a:Nat}{D:List aA}{k:_S}
end
section
variable{a:Nat}{D:List aA}{t:aA}
end
def aL(a b:_S):_S:=List.zipWith (· + ·) a b
def aO(A B:List aA):List aA:=A.flatMap fun s=>B.map fun t=>(aL s.1 t.1,s.2*t.2)
def d!(r:Int)(P:List aA):List aA:=fJ r (cf P)
def bx(f:_S->Int):List aA->Int
 |[]=>0
 |t::L=>f t.1*t.2+bx f L
theorem iA:∀a b c:_S,aL (aL a b) c=aL a (aL b c)
 |[],b,c=>by simp[aL]
 |x::a,[],c=>by simp[aL]
 |x::a,y::b,[]=>by simp[aL]
 |x::a,y::b,z::c=>by have:=iA a b c;unfold aL at this⊢;simp only[List.zipWith_cons_cons,this,Int.add_assoc]
theorem g9{a b:_S}(ha:a.length=af)(hb:b.length=af):(aL a b).length=af:=by unfold aL;rw[List.length_zipWith,ha,hb,ZP]
theorem t?(s:aA)(A B:List aA):aO (s::A) B=(B.map fun t=>(aL s.1 t.1,s.2*t.2))++aO A B:=rfl
theorem cX(A B:List aA):(aO A B).length=A.length*B.length:=by
 induction A with
 |nil=>rw[VY,Nat.zero_mul];rfl
 |cons s A ih=>rw[t?,Vr,Vm,ih,Vt,YT,ZR]
theorem cL{A B:List aA}{t:aA}(h:t∈aO A B):∃a∈A,∃b∈B,t=(aL a.1 b.1,a.2*b.2):=by obtain⟨a,ha,h⟩:=List.mem_flatMap.mp h;obtain⟨b,hb,rfl⟩:=VH.mp h;exact⟨a,ha,b,hb,rfl⟩
section
variable{f g:_S->Int}
theorem kg(A B:List aA):bx f (A++B)=bx f A+bx f B:=by
 induction A with
 |nil=>rw[VM];show _=0+_;rw[Xs]
 |cons t A ih=>rw[Wa];show f t.1*t.2+bx f (A++B)=f t.1*t.2+bx f A+bx f B;rw[ih,Int.add_assoc]
theorem FA(L:List aA):bx (fun _=>0) L=0:=by
 induction L with
 |nil=>rfl
 |cons t L ih=>show 0*t.2+_=0;rw[ih,ZV];rfl
theorem AY(L:List aA):bx (fun k=>f k+g k) L=bx f L+bx g L:=by
 induction L with
 |nil=>rfl
 |cons t L ih=>show(f t.1+g t.1)*t.2+_=f t.1*t.2+bx f L+(g t.1*t.2+bx g L);rw[ih,Zf];lia
theorem Jo(c:Int)(L:List aA):bx (fun k=>f k*c) L=bx f L*c:=by
 induction L with
 |nil=>show 0=0*c;rw[ZV]
 |cons t L ih=>show f t.1*c*t.2+_=(f t.1*t.2+bx f L)*c;rw[ih,Zf,ZA,Int.mul_comm c,<-ZA]
theorem Jp(s:aA)(B:List aA):bx f (B.map fun t=>(aL s.1 t.1,s.2*t.2))=bx (fun b=>f (aL s.1 b)) B*s.2:=by
 induction B with
 |nil=>show 0=0*s.2;rw[ZV]
 |cons t B ih=>show f (aL s.1 t.1)*(s.2*t.2)+bx f (B.map _)=(f (aL s.1 t.1)*t.2+bx _ B)*s.2;rw[ih,Zf,Int.mul_comm s.2 t.2,ZA]
theorem bb(A B:List aA):bx f (aO A B)=bx (fun a=>bx (fun b=>f (aL a b)) B) A:=by
 induction A with
 |nil=>rfl
 |cons s A ih=>rw[t?,kg,Jp,ih];rfl
theorem mQ{h:_S->_S->Int}(A B:List aA):bx (fun a=>bx (fun b=>h a b) B) A=bx (fun b=>bx (fun a=>h a b) A) B:=by
 induction A with
 |nil=>show 0=bx (fun _=>0) B;rw[FA]
 |cons s A ih=>
  show bx (fun b=>h s.1 b) B*s.2+_=bx (fun b=>h s.1 b*s.2+bx (fun a=>h a b) A) B;rw[AY,Jo,ih]
theorem FC{A B:List aA}(p:A.Perm B):bx f A=bx f B:=by
 induction p with
 |nil=>rfl
 |cons x _ ih=>show f x.1*x.2+_=f x.1*x.2+_;rw[ih]
 |swap x y L=>show f y.1*y.2+(f x.1*x.2+_)=f x.1*x.2+(f y.1*y.2+_);lia
 |trans _ _ i j=>rw[i,j]
theorem qP{k:_S}{v:Int}:∀A:List aA,k ∉ A.map (·.1)->A.map (fun p=>if p.1=k then(p.1,v)else p)=A
 |[],_=>rfl
 |p::A,h=>by rw[VB]at h;rw[VB,VA fun z=>h (VU.mpr (.inl z.symm)),qP A fun z=>h (VU.mpr (.inr z))]
theorem mS{A:List aA}{p:aA}{k:_S}(h:p.1=k):bg (p::A) k=p.2:=by unfold bg;rw[List.find?_cons_of_pos (by simpa using h)];rfl
theorem mT{A:List aA}{p:aA}{k:_S}(h:¬ p.1=k):bg (p::A) k=bg A k:=by unfold bg;rw[List.find?_cons_of_neg (by simpa using h)]
theorem qQ{k:_S}{v:Int}:∀A:List aA,(A.map (·.1)).Nodup->k∈A.map (·.1)->bx f (A.map fun p=>if p.1=k then(p.1,v)else p)=bx f A+f k*(v-bg A k)
 |[],_,h=>by cases h
 |p::A,nd,h=>by
  rw[VB]at nd h;obtain⟨n1,n2⟩:=WB.mp nd;rw[VB];by_cases e:p.1=k
  .rw[Vu e,mS e,qP A (by rw[<-e];exact n1)];show f p.1*v+bx f A=f p.1*p.2+bx f A+f k*(v-p.2);rw[e,Int.mul_sub];lia
  .rw[VA e,mT e];have h':k∈A.map (·.1):=(VU.mp h).resolve_left fun z=>e z.symm;have:=qQ (v:=v) A n2 h';show f p.1*p.2+_=f p.1*p.2+bx f A+_;rw[this];lia
theorem Jq{A:List aA}{k:_S}{v:Int}(nd:(A.map (·.1)).Nodup):bx f (gH A k v)=bx f A+f k*(v-bg A k):=by
 by_cases h:k∈A.map (·.1)
 .unfold gH;rw[Vu (ve.mpr h),qQ A nd h]
 .rw[qK v h,kg,kf h,Int.sub_zero];show bx f A+(f k*v+0)=_;rw[Int.add_zero]
theorem xC:∀(P A:List aA),(A.map (·.1)).Nodup->bx f (P.foldl gF A)=bx f A+bx f P
 |[],A,_=>by show bx f A=bx f A+0;rw[Int.add_zero]
 |t::P,A,nd=>by rw[_C,xC P (gF A t) (qD nd _ _)];show bx f (gH A t.1 (bg A t.1+t.2))+bx f P=bx f A+(f t.1*t.2+bx f P);rw[Jq nd,show bg A t.1+t.2-bg A t.1=t.2 by lia];lia
theorem qR(P:List aA):bx f (cf P)=bx f P:=by rw[vg,xC P [] Y?];show 0+_=_;rw[Xs]
theorem FD{A:List aA}(nd:(A.map (·.1)).Nodup):bx f (lu A)=bx f A:=by
 refine FC ?_;have e:A=(A.map (·.1)).map fun k=>(k,bg A k):=by
  rw[VN]
  conv=>lhs;rw[<-Yv A]
  exact V7 fun t ht=>by show t=(t.1,bg A t.1);rw[AR nd ht]
 unfold lu
 conv=>rhs;rw[e]
 exact(eB _).map _
end
theorem AZ(hr:dR r=true){f:_S->Int}:∀L:List aA,bE r (bx f ((L.map fun t=>(t.1,bE r t.2)).filter fun t=>t.2 !=0))=bE r (bx f L)
 |[]=>rfl
 |t::L=>by
  have ih:=AZ hr (f:=f) L;have e1:bE r (bx f (t::L))=bE r (f t.1*bE r t.2+bx f ((L.map fun t=>(t.1,bE r t.2)).filter fun t=>t.2 !=0)):=by show bE r (f t.1*t.2+bx f L)=_;rw[<-Fw hr,<-ih,<-Fv hr (f t.1) t.2,Fw hr]
  rw[e1,VB,Ya];dsimp only;by_cases z:bE r t.2=0
  .rw[VA (by simp[z]),z,Int.mul_zero,Xs]
  .rw[Vu (by simpa using z)];rfl
def Eqv(r:Int)(P Q:List aA):Prop:=∀f,bE r (bx f P)=bE r (bx f Q)
theorem Eqv.symm{P Q:List aA}(h:Eqv r P Q):Eqv r Q P:=fun f=>(h f).symm
theorem Eqv.trans{P Q R:List aA}(h:Eqv r P Q)(k:Eqv r Q R):Eqv r P R:=fun f=>(h f).trans (k f)
theorem zh(hr:dR r=true)(P:List aA):Eqv r (d! r P) P:=fun f=>by show bE r (bx f (((lu (cf P)).map fun t=>(t.1,bE r t.2)).filter fun t=>t.2 !=0))=_;rw[AZ hr,FD (dZ P).1,qR]
theorem Rj{A A':List aA}(B:List aA)(h:Eqv r A A'):Eqv r (aO A B) (aO A' B):=fun f=>by rw[bb,bb];exact h _
theorem Rk(A:List aA){B B':List aA}(h:Eqv r B B'):Eqv r (aO A B) (aO A B'):=fun f=>by rw[bb,bb,mQ,mQ A B'];exact h _
theorem nU(A B C:List aA):Eqv r (aO (aO A B) C) (aO A (aO B C)):=fun f=>by
 have e:(fun a b=>bx (fun c=>f (aL (aL a b) c)) C)=fun a b=>bx (fun c=>f (aL a (aL b c))) C:=by funext a b;congr 1;funext c;rw[iA]
 rw[bb,bb,bb];have e2:(fun a=>bx (fun bc=>f (aL a bc)) (aO B C))=fun a=>bx (fun b=>bx (fun c=>f (aL a (aL b c))) C) B:=by funext a;rw[bb]
 rw[e2];show bE r (bx (fun a=>bx ((fun a b=>bx (fun c=>f (aL (aL a b) c)) C) a) B) A)=_;rw[e]
theorem nV{k:_S}:∀A:List aA,(A.map (·.1)).Nodup->bx (fun x=>if x=k then 1 else 0) A=bg A k
 |[],_=>rfl
 |p::A,nd=>by
  rw[VB]at nd;obtain⟨n1,n2⟩:=WB.mp nd;show(if p.1=k then(1:Int)else 0)*p.2+bx _ A=_;rw[nV A n2];by_cases e:p.1=k
  .rw[Vu e,mS e,kf (by rw[<-e];exact n1)];lia
  .rw[VA e,mT e];lia
theorem vi(A:List aA):fJ r A=((iG (A.map (·.1))).filter fun k=>bE r (bg A k) !=0).map fun k=>(k,bE r (bg A k)):=by rw[<-qI];unfold OL;rw[Yo];rfl
theorem Ku(hr:dR r=true){P Q:List aA}(h:Eqv r P Q):d! r P=d! r Q:=by
 have gp:=(dZ P).1;have gq:=(dZ Q).1;have F:(fun k=>bE r (bg (cf P) k))=fun k=>bE r (bg (cf Q) k):=by
  funext k;have:=h fun x=>if x=k then 1 else 0
  rw[<-qR P,<-qR Q,nV _ gp,nV _ gq]at this;exact this
 unfold d!;rw[vi,vi];have fk:∀k,bE r (bg (cf P) k)=bE r (bg (cf Q) k):=fun k=>congrFun F k;have fp:SO.fh ((iG ((cf P).map (·.1))).filter fun k=>bE r (bg (cf P) k) !=0):=Zb _ (iS gp);have fq:SO.fh ((iG ((cf Q).map (·.1))).filter fun k=>bE r (bg (cf Q) k) !=0):=Zb _ (iS gq);have mem:∀(A:List aA)(k:_S),(k∈(iG (A.map (·.1))).filter fun k=>bE r (bg A k) !=0)↔bE r (bg A k)≠0:=by
  intro A k;rw[WC,(eB _).mem_iff];refine⟨fun q=>by simpa using q.2,fun q=>⟨?_,by simpa using q⟩⟩;by_cases e:k∈A.map (·.1)
  .exact e
  .rw[kf e,Jn hr]at q;exact absurd rfl q
 have pm:((iG ((cf P).map (·.1))).filter fun k=>bE r (bg (cf P) k) !=0).Perm ((iG ((cf Q).map (·.1))).filter fun k=>bE r (bg (cf Q) k) !=0):=
  (List.perm_ext_iff_of_nodup (eG fp) (eG fq)).mpr fun k=>by rw[mem,mem,fk]
 rw[qq pm fp fq];exact V7 fun k _=>by rw[fk]
def jA(r:Int)(X:List aA):Nat->List aA
 |0=>X
 |k+1=>d! r (aO (jA r X k) X)
theorem FE(hr:dR r=true)(X:List aA)(a:Nat):∀b,d! r (aO (jA r X a) (jA r X b))=jA r X (a+b+1)
 |0=>rfl
 |b+1=>by show d! r (aO (jA r X a) (d! r (aO (jA r X b) X)))=d! r (aO (jA r X (a+b+1)) X);rw[<-FE hr X a b];refine Ku hr ?_;refine(Rk _ (zh hr _)).trans ?_;refine(nU _ _ _).symm.trans ?_;exact Rj _ (zh hr _).symm
theorem Jr(a b:_S):(a.zip b).map (fun p=>p.1+p.2)=aL a b:=by
 unfold aL
 induction a generalizing b with
 |nil=>rfl
 |cons x a ih=>cases b with
  |nil=>rfl
  |cons y b=>rw[Yy,VB,ih b,List.zipWith_cons_cons]
def nn:ao->Int
 |.tup [.int i,.int j]=>i+j
 |_=>0
theorem Cu{a b:_S}(h:a.length<=10)(s:ai):PM.joined [ax a,ax b] s=.ok (ax (aL a b)) (s++[.lst ((aL a b).map ao.int)]):=by
 have cp:=cz (a:=bX [au 0,au 1]) (c:=aV) (e:=ak a8 (ae 0) (ae 1)) (g:=fun _=>True/\True) (st:=s) ⟨trivial,trivial⟩ (fun τ=>∃x y,τ=[x,y]) (fun _=>true) (fun v=>.int (nn v)) (mf (a.map ao.int) (b.map ao.int)) [none,none] [] ⟨_,_,rfl⟩ (by
  rintro u hu τ ⟨x,y,rfl⟩;rw[mP]at hu;obtain⟨p,hp,rfl⟩:=VH.mp hu;exact⟨[some (.int p.1),some (.int p.2)],rfl,⟨_,_,rfl⟩,rfl,fun _=>rfl⟩)
 have e:((mf (a.map ao.int) (b.map ao.int)).filter fun _=>true).map (fun v=>ao.int (nn v))=(aL a b).map ao.int:=by rw[WL.mpr fun _ _=>rfl,mP,VN,<-Jr,VN];rfl
 rw[e,VM]at cp;have zl:(mf (a.map ao.int) (b.map ao.int)).length<=sizeLine:=by rw[mP,Vm,_B,VT];lia
 have comp:bz 2 [] (sV false false (aa (ae 0) (aa (ae 1) aj))) (bX [(au 0),(au 1)]) aV (ak a8 (ae 0) (ae 1)) [some (ax a),some (ax b)] s=.ok (.loc s.length) (s++[.lst ((aL a b).map ao.int)]):=by rw[fm,M!,bT (v:=ax a) (w:=ax b) (s1:=s) (s2:=s) rfl rfl,ar];show(M_ false false [.tup (a.map ao.int),.tup (b.map ao.int)] s).iq _=_;rw[Io,ar,gG,Vu zl];show(dN _ _ _ _ _ [none,none] s []).iq Im=_;rw[cp,ar,jd]
 unfold PM.joined;rw[bw (np:=2) (us:=[ax a,ax b]) rfl];show(aP (ah gW (aa (bz 2 [] (sV false false (aa (ae 0) (aa (ae 1) aj))) (bX [(au 0),(au 1)]) aV (ak a8 (ae 0) (ae 1))) aj)) [some (ax a),some (ax b)] s).fin=_;rw[ba,aw (d8 comp),pF (bH s _)];rfl
theorem pG(st g:ai)(c c':aR):(st++c::g).set st.length c'=st++c'::g:=by rw[Xu _ _ (Vo _),Wj];rfl
theorem lF(st g:ai)(c:aR):(st++c::g)[st.length]?=some c:=by rw[Vv (Vo _),Wj];rfl
def mU(s:aA)(B:List aA):List aA:=B.map fun t=>(aL s.1 t.1,s.2*t.2)
theorem ud(A B:List aA)(s:aA):aO (A++[s]) B=aO A B++mU s B:=by unfold aO mU;rw[List.flatMap_append];simp
abbrev Vd:MB:=cO (ah PM.jS (aa (ae 3) (aa (ah PM.joined (aa (ae 4) (aa (ae 6) aj))) (aa (ak cu (ae 5) (ae 7)) aj))))
theorem FF{s:aA}{B L0:List aA}{g0:ai}{z6 z7:Option ao}(hq:aq st q=some (B.map tV))(hs:s.1.length<=10)(hB:∀t∈B,MulOk s.2 t.2)(hl:L0.length+B.length<1000000):
  ∃y6 y7 g,forL (fun av=>aq av q=some (B.map tV)) (bX [au 6,au 7]) Vd (B.map tV) [x0,x1,some (.loc q),some (.loc st.length),some (ax s.1),some (.int s.2),z6,z7] (st ++ .dT ((cf L0).map eD)::g0)=.nx [x0,x1,some (.loc q),some (.loc st.length),some (ax s.1),some (.int s.2),y6,y7] (st ++ .dT ((cf (L0++mU s B)).map eD)::g):=by
 have hg:∀g:ai,aq (st++g) q=some (B.map tV):=fun g=>aJ hq _;obtain⟨μ',av,e,g,rfl,y6,y7,rfl⟩:=cV (g:=fun av=>aq av q=some (B.map tV)) (a:=bX [au 6,au 7]) (body:=Vd)
  (fun i μ s'=>∃g,s'=st ++ .dT ((cf (L0++mU s (B.take i))).map eD)::g/\∃y6 y7,μ=[x0,x1,some (.loc q),some (.loc st.length),some (ax s.1),some (.int s.2),y6,y7])
  (B.map tV) 0 [x0,x1,some (.loc q),some (.loc st.length),some (ax s.1),some (.int s.2),z6,z7] (st ++ .dT ((cf L0).map eD)::g0)
  (by
   rintro i u μ s' hu ⟨g,rfl,y6,y7,rfl⟩;rw[V1];refine⟨hg _,?_⟩;rw[VF]at hu;have hi:i<B.length:=by
    rcases V2 i B.length with z|z
    .exact z
    .rw[VW z]at hu;cases hu
   rw[Vp hi]at hu;obtain⟨t,ht⟩:∃t,t=B[i]:=⟨_,rfl⟩
   rw[<-ht]at hu;cases hu;have tB:t∈B:=by rw[ht];exact Wt hi
   have tk:B.take (i+1)=B.take i++[t]:=by rw[Xk,Vp hi,<-ht];rfl
   obtain⟨L,hL⟩:∃L,L=L0++mU s (B.take i):=⟨_,rfl⟩
   have lL:L.length<1000000:=by rw[hL,Vr];unfold mU;rw[Vm,V'];lia
   have sn:L0++mU s (B.take (i+1))=L++[(aL s.1 t.1,s.2*t.2)]:=by rw[hL,tk];unfold mU;rw[WI,Vs];rfl
   rw[<-hL,sn];have lA:=(dZ L).2.1;obtain⟨s1,d_⟩:∃s1,s1=st++aR.dT ((cf L).map eD)::g:=⟨_,rfl⟩
   obtain⟨g1,Ve⟩:∃g1,g1=g++[aR.lst ((aL s.1 t.1).map ao.int)]:=⟨_,rfl⟩
   have eV:s1++[aR.lst ((aL s.1 t.1).map ao.int)]=st++aR.dT ((cf L).map eD)::g1:=by rw[d_,Ve,Vs];rfl
   have ad:=tY (k:=aL s.1 t.1) (v:=s.2*t.2) (lF st g1 (.dT ((cf L).map eD))) (by rw[VT];lia);have sn2:=tZ L (aL s.1 t.1,s.2*t.2);dsimp only at sn2;rw[pG,<-sn2]at ad;refine⟨[x0,x1,some (.loc q),some (.loc st.length),some (ax s.1),some (.int s.2),some (ax t.1),some (.int t.2)],rfl,[x0,x1,some (.loc q),some (.loc st.length),some (ax s.1),some (.int s.2),some (ax t.1),some (.int t.2)],_,.inl ?_,g1,rfl,_,_,rfl⟩;rw[<-d_];have j:ah PM.joined (aa (ae 4) (aa (ae 6) aj)) [x0,x1,some (.loc q),some (.loc st.length),some (ax s.1),some (.int s.2),some (ax t.1),some (.int t.2)] s1=.ok (ax (aL s.1 t.1)) (s1++[aR.lst ((aL s.1 t.1).map ao.int)]):=by rw[aw (bT (v:=ax s.1) (w:=ax t.1) (s1:=s1) (s2:=s1) rfl rfl),Cu hs]
   have m:∀s2,ak cu (ae 5) (ae 7) [x0,x1,some (.loc q),some (.loc st.length),some (ax s.1),some (.int s.2),some (ax t.1),some (.int t.2)] s2=.ok (.int (s.2*t.2)) s2:=fun s2=>by rw[aS (x:=.int s.2) (y:=.int t.2) (s1:=s2) (s2:=s2) rfl rfl,u_ (hB t tB)]
   show cO _ _ _=_;rw[gj,aw (dC (v:=.loc st.length) (s1:=s1) rfl (bT j (m _))),eV,ad,aE];rfl)
  (fun μ s hp=>by obtain⟨g,rfl,_⟩:=hp;exact hg _)
  ⟨g0,by rw[_g];show _=st++aR.dT ((cf (L0++[])).map eD)::g0;rw[VZ],z6,z7,rfl⟩
 rw[V1,Vm,Wf (Vo _)]at e;exact⟨y6,y7,g,e⟩
abbrev Vf:MB:=dM (bJ (ae 2)) (bX [au 6,au 7]) Vd
theorem FG{A B:List aA}(hp:aq st p=some (A.map tV))(hq:aq st q=some (B.map tV))(hA:∀t∈A,t.1.length<=10)(hm:∀s∈A,∀t∈B,MulOk s.2 t.2)(hl:A.length*B.length<1000000):
  ∃y4 y5 y6 y7 g,forL (fun av=>aq av p=some (A.map tV)) (bX [au 4,au 5]) Vf (A.map tV) [x0,some (.loc p),some (.loc q),some (.loc st.length),none,none,none,none] (st++[.dT []])=.nx [x0,some (.loc p),some (.loc q),some (.loc st.length),y4,y5,y6,y7] (st ++ .dT ((cf (aO A B)).map eD)::g):=by
 have hg:∀g:ai,aq (st++g) p=some (A.map tV):=fun g=>aJ hp _;obtain⟨μ',av,e,g,rfl,y4,y5,y6,y7,rfl⟩:=cV (g:=fun av=>aq av p=some (A.map tV)) (a:=bX [au 4,au 5]) (body:=Vf)
  (fun i μ s'=>∃g,s'=st ++ .dT ((cf (aO (A.take i) B)).map eD)::g/\∃y4 y5 y6 y7,μ=[x0,some (.loc p),some (.loc q),some (.loc st.length),y4,y5,y6,y7])
  (A.map tV) 0 [x0,some (.loc p),some (.loc q),some (.loc st.length),none,none,none,none] (st++[.dT []])
  (by
   rintro i u μ s' hu ⟨g,rfl,y4,y5,y6,y7,rfl⟩;rw[V1];refine⟨hg _,?_⟩;rw[VF]at hu;have hi:i<A.length:=by
    rcases V2 i A.length with z|z
    .exact z
    .rw[VW z]at hu;cases hu
   rw[Vp hi]at hu;obtain⟨t,ht⟩:∃t,t=A[i]:=⟨_,rfl⟩
   rw[<-ht]at hu;cases hu;have tA:t∈A:=by rw[ht];exact Wt hi
   have tk:A.take (i+1)=A.take i++[t]:=by rw[Xk,Vp hi,<-ht];rfl
   have lL:(aO (A.take i) B).length+B.length<1000000:=by rw[cX,V',<-YT];refine Wd (XW _ ?_) hl;lia
   obtain⟨z6,z7,g1,en⟩:=FF (q:=q) (s:=t) (B:=B) (L0:=aO (A.take i) B) (st:=st) (g0:=g) (x0:=x0) (x1:=some (.loc p)) (z6:=y6) (z7:=y7) hq (hA t tA) (hm t tA) lL;rw[<-ud,<-tk]at en;refine⟨[x0,some (.loc p),some (.loc q),some (.loc st.length),some (ax t.1),some (.int t.2),y6,y7],rfl,[x0,some (.loc p),some (.loc q),some (.loc st.length),some (ax t.1),some (.int t.2),z6,z7],_,.inl ?_,g1,rfl,_,_,_,_,rfl⟩;have v2:∀s,ae 2 [x0,some (.loc p),some (.loc q),some (.loc st.length),some (ax t.1),some (.int t.2),y6,y7] s=.ok (.loc q) s:=fun _=>rfl;show dM _ _ _ _ _=_;rw[fA,b_,v2,ar,bI (aJ hq _),aE,hU,en])
  (fun μ s hp=>by obtain⟨g,rfl,_⟩:=hp;exact hg _)
  ⟨[],rfl,none,none,none,none,rfl⟩
 rw[V1,Vm,Wf (Vo _)]at e;exact⟨y4,y5,y6,y7,g,e⟩
theorem qS{A B:List aA}(hp:aq st p=some (A.map tV))(hq:aq st q=some (B.map tV))(h1:1<=af)(h4:af<=4)(hA:∀t∈A,t.1.length=af)(hB:∀t∈B,t.1.length=af)(hm:∀s∈A,∀t∈B,MulOk s.2 t.2)(hl:A.length*B.length<1000000):
  ∃g k,PM.product [.int r,.loc p,.loc q] st=.ok (.loc k) (st++g)/\st.length<=k/\(st++g)[k]?=some (.lst ((d! r (aO A B)).map tV)):=by
 obtain⟨y4,y5,y6,y7,g,e⟩:=FG (x0:=some (.int r)) hp hq (fun t ht=>by rw[hA t ht];lia) hm hl;have ga:=dZ (aO A B);have lk:∀t∈cf (aO A B),t.1≠[]:=fun t ht=>by obtain⟨u,hu,eu⟩:=VH.mp (ga.2.2 t ht);obtain⟨a,ha,b,hb,rfl⟩:=cL hu;rw[<-eu];exact lE h1 (g9 (hA a ha) (hB b hb))
 obtain⟨s1,d_⟩:∃s1,s1=st++aR.dT ((cf (aO A B)).map eD)::g:=⟨_,rfl⟩
 rw[<-d_]at e;obtain⟨c1,c2,c3,et⟩:=t4 (s:=s1) (d:=st.length) (A:=cf (aO A B)) (r:=r) (by rw[d_];exact lF _ _ _) ga.1 (by have:=ga.2.1;rw[cX]at this;lia) lk;have l1:s1.length=st.length+(g.length+1):=by rw[d_,Vr];rfl
 refine⟨(aR.dT ((cf (aO A B)).map eD)::g)++[c1,c2,c3,.lst ((d! r (aO A B)).map tV)],s1.length+3,?_,by lia,?_⟩
 .have v1:∀s,ae 1 [some (ao.int r),some (.loc p),some (.loc q),some (.loc st.length),none,none,none,none] s=.ok (.loc p) s:=fun _=>rfl;have x3:aG 3 jM [some (ao.int r),some (.loc p),some (.loc q),none,none,none,none,none] st=.nx [some (ao.int r),some (.loc p),some (.loc q),some (.loc st.length),none,none,none,none] (st++[.dT []]):=bj (v:=.loc st.length) rfl;unfold PM.product;rw[bw (np:=3) (us:=[ao.int r,.loc p,.loc q]) rfl];show(aB (aG 3 jM) (aB (dM (bJ (ae 1)) (bX [au 4,au 5]) Vf) (aP (ah PM.cZ (aa (ae 0) (aa (ae 3) aj))))) [some (.int r),some (.loc p),some (.loc q),none,none,none,none,none] st).fin=_;rw[ay,x3,az,ay,fA,b_,v1,ar,bI (aJ hp _),aE,hU,e,az,ba,aw (bT (v:=.int r) (s1:=s1) rfl (w:=.loc st.length) (s2:=s1) rfl),et,aE];show c6.fin (c6.rt (ao.loc (s1.length+3)) _)=_;rw[d_,Vs];rfl
 .rw[<-Vs,<-d_,Vv (by lia),show s1.length+3-s1.length=3 by lia];rfl
theorem A0{μ:MN.Env}{s:ai}{o:ME}{a:MA}(ho:o μ s=.ok (.loc n) s)(h0:s[n]?=some (.lst us))(ha:a μ s=.ok [v] s1)(h:s1[n]?=some (.lst us))(hl:us.length<1000000):cO (iP dS o a) μ s=.nx μ (s1.set n (.lst (us++[v]))):=by rw[gj,qm,ho,ar,wQ h0,ha,ar,Eu,nM h (by rw[VT];lia),aE];rfl
def natOf:ao->Nat
 |.int i=>i.toNat
 |_=>0
theorem A3:∀(a b:_S),a.length=b.length->(List.range a.length).map (fun i=>a.getD i 0+b.getD i 0)=aL a b
 |[],[],_=>rfl
 |x::a,y::b,h=>by have ih:=A3 a b (by simpa using h);rw[Vt,Yn,VB,VN];show _=(x+y)::aL a b;rw[<-ih];rfl
section
variable{b:Nat}{P X:List aA}
theorem gJ(P:List aA):(d! r P).length<=P.length:=Vx (Fo _ _) (dZ P).2.1
theorem nW(hr:dR r=true)(hl:P.length<1000000)(hk:∀t∈P,t.1.length=af)(hb:∀t∈P,gP b t.2)(b1:10<=b):∀t∈d! r P,t.1.length=af/\gP (b+21) t.2:=by
 have r0:0<=r/\r<=997:=by have:=mO hr;lia
 obtain⟨B,hB⟩:∃B:Nat,B=2 ^ b:=⟨_,rfl⟩
 have S:=AU (r:=r) (B:=(B:Int)) (P:=P) (XE _) r0.1 hk (fun t ht=>by
  have:t.2.natAbs<2 ^ b:=hb t ht;lia)
 intro t ht;refine⟨S.len t ht,?_⟩;have q:=S.big t ht;show t.2.natAbs<2 ^ (b+21);have b2:1024<=B:=by rw[hB];exact WW (n:=2) (by decide) b1
 rw[Ze,<-hB];have m:(P.length:Int)*(B:Int)<=1000000*(B:Int):=Zc (by lia) (XE _);rw[show(2:Nat) ^ 21=2097152 from rfl];lia
structure Rm(af:Nat)(X:List aA)(K:Nat):Prop where
 len:∀t∈X,t.1.length=af
 big:∀t∈X,gP 160 t.2
 R6:∀j,j<=K->X.length ^ (j+1)<1000000
 small:K<=40
theorem kJ(hr:dR r=true){K:Nat}(h:Rm af X K):∀k,k<=K->(jA r X k).length<=X.length ^ (k+1)/\∀t∈jA r X k,t.1.length=af/\gP (200*(k+1)) t.2
 |0,_=>⟨by rw[V1,Nat.pow_one];exact Vo _,fun t ht=>⟨h.len t ht,(h.big t ht).mono (by decide)⟩⟩
 |k+1,hk=>by
  obtain⟨l1,i1⟩:=kJ hr h k (by lia);have l2:(aO (jA r X k) X).length<=X.length ^ (k+1+1):=by rw[cX,X5];exact XW _ l1
  have l3:=h.R6 (k+1) hk;have q:=nW (r:=r) (af:=af) (b:=200*(k+1)+160) (P:=aO (jA r X k) X) hr (by lia) (fun t ht=>by
   obtain⟨a,ha,c,hc,rfl⟩:=cL ht;exact g9 (i1 a ha).1 (h.len c hc)) (fun t ht=>by
   obtain⟨a,ha,c,hc,rfl⟩:=cL ht;exact(i1 a ha).2.mul (h.big c hc)) (by lia)
  refine⟨Vx (gJ _) l2,fun t ht=>?_⟩;have:=q t ht;exact⟨this.1,this.2.mono (by lia)⟩
theorem N7(hr:dR r=true){K:Nat}(h:Rm af X K)(QP:i+j+1<=K):(∀s∈jA r X i,∀t∈jA r X j,MulOk s.2 t.2)/\(jA r X i).length*(jA r X j).length<1000000:=by obtain⟨l1,i1⟩:=kJ hr h i (by lia);obtain⟨l2,i2⟩:=kJ hr h j (by lia);have:=h.small;refine⟨fun s hs t ht=>g8 (i1 s hs).2 (i2 t ht).2 (by lia) (by lia),?_⟩;refine Wd (V4 l1 l2) ?_;rw[<-Ze,show i+1+(j+1)=i+j+1+1 by lia];exact h.R6 _ QP
def Rn(r:Int)(X:List aA)(L0 i:Nat)(v:ao)(st:ai):Prop:=∃k,v=.loc k/\L0<=k/\st[k]?=some (.lst ((jA r X (i-1)).map tV))
theorem aU{s:ai}(h:s[n]?=some (.lst us)):aq s n=some us:=by unfold aq;rw[h]
theorem Js(hr:dR r=true)(h1:1<=af)(h4:af<=4)(L0:Nat)(h:Rm af X (n-1)):Ri PM.dm (.int r) n (Rn r X L0) where
 pure:=fun i v st h=>by obtain⟨k,rfl,_⟩:=h;rfl
 mono:=fun i v st g h=>by obtain⟨k,rfl,hk,e⟩:=h;exact⟨k,rfl,hk,jW e g⟩
 mul:=fun i j v w st hi hj QP hv hw=>by
  obtain⟨p,rfl,hp,ep⟩:=hv;obtain⟨q,rfl,hq,eq⟩:=hw;have pm:=N7 hr h (i:=i-1) (j:=j-1) (by lia);have b1:=kJ hr h (i-1) (by lia);have b2:=kJ hr h (j-1) (by lia);obtain⟨g,k,e,hk,ek⟩:=qS (r:=r) (aU ep) (aU eq) h1 h4 (fun t ht=>(b1.2 t ht).1) (fun t ht=>(b2.2 t ht).1) pm.1 pm.2;rw[FE hr,show i-1+(j-1)+1=i+j-1 by lia]at ek;refine⟨.loc k,g,?_,k,rfl,?_,ek⟩
  .unfold PM.dm;rw[aw (dC (v:=.int r) (s1:=st) rfl (bT (v:=.loc p) (w:=.loc q) (s1:=st) (s2:=st) rfl rfl)),e]
  .have:=ji ep;lia
theorem ue{M:eQ}(tJ:M.S.ps.length=2)(hr:dR r=true)(hq:aq st q=some (X.map tV))(h1:1<=af)(h4:af<=4)(hn:1<=n)(h:Rm af X (n-1))(ht:g? st M.own M.line M.col M.S.qual):
  ∃g k,PM.raised M [.int r,.loc q,.int (n:Int)] st=.ok (.loc k) (st++g)/\st.length<=k/\(st++g)[k]?=some (.lst ((jA r X (n-1)).map tV)):=by
 have aaL:=h.small;obtain⟨g1,e1⟩:=gm hr st;obtain⟨s1,d_⟩:∃s1,s1=st++g1:=⟨_,rfl⟩
 rw[<-d_]at e1;have hq1:aq s1 q=some (X.map tV):=by rw[d_];exact aJ hq _
 have ht1:g? s1 M.own M.line M.col M.S.qual:=by rw[d_];exact qO ht _
 obtain⟨s2,eV⟩:∃s2,s2=s1++[aR.lst (X.map tV)]:=⟨_,rfl⟩
 obtain⟨μ,hμ⟩:∃μ:MN.Env,μ=[some (.int r),some (.loc q),some (.int (n:Int))]:=⟨_,rfl⟩
 have c0:ah PM.bq (aa (ae 0) aj) μ st=.ok .dc s1:=by rw[aw (d8 (v:=.int r) (s1:=st) (by rw[hμ];rfl)),e1]
 have t1:gE (cN (bO (ah PM.fR (aa (ae 2) aj)))) (bO (ak ltV (ae 2) (mC (.int 1)))) μ s1=.ok false s1:=by
  have wh:bO (ah PM.fR (aa (ae 2) aj)) μ s1=.ok true s1:=by refine cU ?_;rw[aw (d8 (v:=.int (n:Int)) (s1:=s1) (by rw[hμ];rfl)),fU]
  refine tX (qG wh) (cU ?_)
  .rw[aS (x:=.int (n:Int)) (y:=.int 1) (s1:=s1) (s2:=s1) (by rw[hμ];rfl) rfl,tq];exact Xg (fun b=>cD.ok (ao.bl b) s1) (VR (by lia))
 have c2:ah fO (aa (ae 1) aj) μ s1=.ok (.loc s1.length) s2:=by rw[aw (d8 (v:=.loc q) (s1:=s1) (by rw[hμ];rfl)),mF hq1,eV]
 obtain⟨y,g,e,k,rfl,hk,ek⟩:=N6 (L:=M.S) (mb:=PM.dm) (u:=.int r) (x:=.loc s1.length) (n:=n) (Rep:=Rn r X s1.length) tJ hn (by lia) (Js hr h1 h4 _ h) (st:=s2) ⟨_,rfl,Vo _,by rw[eV];exact lF s1 [] _⟩;have l1:s1.length=st.length+g1.length:=by rw[d_,Vr]
 refine⟨g1++([aR.lst (X.map tV)]++g),k,?_,by lia,?_⟩
 .have a:aa (ah fO (aa (ae 1) aj)) (aa (ae 2) aj) μ s1=.ok [.loc s1.length,.int (n:Int)] s2:=bT c2 (by rw[hμ];rfl);have cl:nG M 0 (PM.repeated M.S PM.dm) (aa (ah fO (aa (ae 1) aj)) (aa (ae 2) aj)) μ s1=.ok (.loc k) (s2++g):=by unfold nG;rw[hμ];dsimp only[List.getElem?_cons_zero];rw[Vu ⟨rfl,ht1⟩,<-hμ,a];show H! (PM.repeated M.S PM.dm (.int r) [.loc s1.length,.int (n:Int)] s2)=_;rw[e];rfl
  unfold PM.raised;rw[bw (np:=3) (us:=[ao.int r,.loc q,.int (n:Int)]) rfl];show(aB (cO (ah PM.bq (aa (ae 0) aj))) (aB (fw (gE (cN (bO (ah PM.fR (aa (ae 2) aj)))) (bO (ak ltV (ae 2) (mC (.int 1))))) _ aX) (aP (nG M 0 (PM.repeated M.S PM.dm) (aa (ah fO (aa (ae 1) aj)) (aa (ae 2) aj))))) [some (ao.int r),some (.loc q),some (.int (n:Int))] st).fin=_;rw[<-hμ,ay,gj,c0,aE];show c6.fin (c6.df (c6.nx μ s1) _)=_;rw[az,ay,gz t1,az,ba,cl,aE,eV,d_,Vs,Vs];rfl
 .rw[eV,d_,Vs,Vs]at ek;exact ek
theorem FH{A B:List aA}(hr:dR r=true)(hp:aq st p=some (A.map tV))(hq:aq st q=some (B.map tV))(h1:1<=af)(h4:af<=4)(hA:∀t∈A,t.1.length=af)(hB:∀t∈B,t.1.length=af)(hm:∀s∈A,∀t∈B,MulOk s.2 t.2)(hl:A.length*B.length<1000000):
  ∃g k,PM.times [.int r,.loc p,.loc q] st=.ok (.loc k) (st++g)/\st.length<=k/\(st++g)[k]?=some (.lst ((d! r (aO A B)).map tV)):=by
 obtain⟨g1,e1⟩:=gm hr st;obtain⟨s1,d_⟩:∃s1,s1=st++g1:=⟨_,rfl⟩
 rw[<-d_]at e1;obtain⟨g2,k,e2,hk,ek⟩:=qS (r:=r) (st:=s1) (by rw[d_];exact aJ hp _) (by rw[d_];exact aJ hq _) h1 h4 hA hB hm hl;have l1:s1.length=st.length+g1.length:=by rw[d_,Vr]
 obtain⟨μ,hμ⟩:∃μ:MN.Env,μ=[some (.int r),some (.loc p),some (.loc q)]:=⟨_,rfl⟩
 have c0:ah PM.bq (aa (ae 0) aj) μ st=.ok .dc s1:=by rw[aw (d8 (v:=.int r) (s1:=st) (by rw[hμ];rfl)),e1]
 refine⟨g1++g2,k,?_,by lia,by rw[<-Vs,<-d_];exact ek⟩;unfold PM.times;rw[bw (np:=3) (us:=[ao.int r,.loc p,.loc q]) rfl];show(aB (cO (ah PM.bq (aa (ae 0) aj))) (aP (ah PM.product (aa (ae 0) (aa (ae 1) (aa (ae 2) aj))))) [some (ao.int r),some (.loc p),some (.loc q)] st).fin=_;rw[<-hμ,ay,gj,c0,aE];show c6.fin (c6.df (c6.nx μ s1) _)=_;rw[az,ba,aw (dC (v:=.int r) (s1:=s1) (by rw[hμ];rfl) (bT (v:=.loc p) (w:=.loc q) (s1:=s1) (s2:=s1) (by rw[hμ];rfl) (by rw[hμ];rfl))),e2,aE,d_,Vs];rfl
end
end PG
variable {R B D row:List PG.aA}
variable {Ds:List (List PG.aA)}
namespace PG
def gx(e:_S)(i:Nat):Int:=e.getD i 0
theorem gX:∀{a b:_S}(i:Nat),a.length=b.length->gx (aL a b) i=gx a i+gx b i
 |[],[],i,_=>by simp[aL,gx]
 |x::a,y::b,0,h=>rfl
 |x::a,y::b,i+1,h=>gX (a:=a) (b:=b) i (by simpa using h)
 |[],y::b,_,h=>by simp at h
 |x::a,[],_,h=>by simp at h
theorem join_comm(a b:_S):aL a b=aL b a:=by unfold aL;rw[List.zipWith_comm];congr 1;funext x y;exact Int.add_comm y x
end PG
namespace PG
open Spec L2 MN
open PyProof.Rows hiding St kindOf
theorem Jt(n:Int):bE 0 n=n:=by unfold bE;rw[Vu rfl]
theorem ik(f:_S->Int)(P:List aA):bx f (d! 0 P)=bx f P:=by have:=zh (r:=0) rfl P f;rwa [Jt,Jt]at this
theorem FI{P Q:List aA}(h:∀f,bx f P=bx f Q):d! 0 P=d! 0 Q:=Ku rfl fun f=>by rw[h f]
theorem FJ(P:List aA):SO.fh ((d! 0 P).map (·.1)):=qL 0 (dZ P).1
theorem vj{P:List aA}{t:aA}(h:t∈d! 0 P):t.1∈P.map (·.1)/\t.2≠0:=by obtain⟨q,hq,e1,e2⟩:=mM h;refine⟨by rw[e1];exact VH.mpr (VH.mp ((dZ P).2.2 q hq)),?_⟩;unfold d! fJ at h;simpa using(WC.mp h).2
theorem FK{P:List aA}(h:∀t∈P,t.1.length=af/\∀e∈t.1,0<=e):cy af (d! 0 P):=by
 have key:∀t∈d! 0 P,t.1.length=af/\∀e∈t.1,0<=e:=fun t ht=>by obtain⟨q,hq,e⟩:=VH.mp (vj ht).1;rw[<-e];exact h q hq
 exact⟨FJ P,fun t ht=>(key t ht).1,fun t ht=>(key t ht).2,fun t ht=>(vj ht).2⟩
theorem Ju(S:cy af D):d! 0 D=D:=by
 unfold d!;rw[t! (eG S.xu),Cs S.xu];unfold Rg;have e:D.map (fun t=>(t.1,bE 0 t.2))=D:=by
  conv=>rhs;rw[<-Yv D]
  exact V7 fun t _=>by rw[Jt];rfl
 rw[e];exact WL.mpr fun t ht=>by simpa using S.nz t ht
theorem vk(f:_S->Int):∀L:List aA,bx f (chg (fun n => -n) L) = -bx f L
 |[]=>rfl
 |t::L=>by show f t.1 * -t.2+bx f (chg (fun n => -n) L) = -(f t.1*t.2+bx f L);rw[vk f L,Int.mul_neg];lia
theorem FL{e:_S}(h:i<e.length):gx e i∈e:=by unfold gx;rw[V8,Vp h];exact Wt h
theorem N8{e:_S}{x:Int}(h:x∈e):∃i,gx e i=x:=by obtain⟨i,hi,e1⟩:=Y'.mp h;refine⟨i,?_⟩;unfold gx;rw[V8,Vp hi];exact e1
theorem gP.neg{k:Nat}{x:Int}(h:gP k x):gP k (-x):=by have h:x.natAbs<2 ^ k:=h;show(-x).natAbs<2 ^ k;lia
section
variable{l:aA}{Q r:List aA}{t:aA}
end
theorem Cv{P:List aA}(h:aq st p=some (P.map tV))(hl:P.length<16000000):
  ∃x2 x3,forL (fun av=>aq av p=some (P.map tV)) (bX [au 2,au 3]) Cj (P.map tV) [some (.loc p),some (.loc st.length),none,none] (st++[.dT []])=.nx [some (.loc p),some (.loc st.length),x2,x3] (st++[.dT ((cf P).map eD)]):=by
 have hg:∀(A:List aA),aq (st++[.dT (A.map eD)]) p=some (P.map tV):=fun A=>aJ h _;obtain⟨μ',av,e,rfl,x2,x3,rfl⟩:=cV (g:=fun av=>aq av p=some (P.map tV)) (a:=bX [au 2,au 3]) (body:=Cj)
  (fun i μ s'=>s'=st++[.dT ((cf (P.take i)).map eD)]/\∃x2 x3,μ=[some (.loc p),some (.loc st.length),x2,x3])
  (P.map tV) 0 [some (.loc p),some (.loc st.length),none,none] (st++[.dT []])
  (by
   rintro i u μ s' hu ⟨rfl,x2,x3,rfl⟩;rw[V1];refine⟨hg _,?_⟩;rw[VF]at hu;have hi:i<P.length:=by
    rcases V2 i P.length with q|q
    .exact q
    .rw[VW q]at hu;cases hu
   rw[Vp hi]at hu;obtain⟨t,ht⟩:∃t,t=P[i]:=⟨_,rfl⟩
   rw[<-ht]at hu;cases hu;have tk:P.take (i+1)=P.take i++[t]:=by rw[Xk,Vp hi,<-ht];rfl
   have lA:=(dZ (P.take i)).2.1;rw[V']at lA;have ad:=E! (p:=p) (k:=t.1) (v:=t.2) (pI st ((cf (P.take i)).map eD)) (by rw[VT];lia);rw[set_dict,<-tZ,<-tk]at ad;exact⟨_,rfl,_,_,.inl ad,rfl,_,_,rfl⟩)
  (fun μ s hp=>by obtain⟨rfl,_⟩:=hp;exact hg _)
  ⟨rfl,none,none,rfl⟩
 rw[V1,Vm,Wf (Vo _)]at e;exact⟨x2,x3,e⟩
theorem Jv(P:List aA):told (cf P)=d! 0 P:=by
 unfold told d!;rw[vi];have e:(fun k=>bE 0 (bg (cf P) k))=fun k=>bg (cf P) k:=funext fun k=>Jt _;show _=((iG ((cf P).map (·.1))).filter fun k=>(fun k=>bE 0 (bg (cf P) k)) k !=0).map fun k=>(k,(fun k=>bE 0 (bg (cf P) k)) k)
 rw[e]
theorem lG{P:List aA}(h:aq st p=some (P.map tV))(Iw:∀t∈P,t.1≠[])(hl:P.length<16000000):
  ∃c1 c2,PM.c7 [.loc p] st=.ok (.loc (st.length+2)) (st++[c1,c2,.lst ((d! 0 P).map tV)]):=by
 obtain⟨x2,x3,e⟩:=Cv h hl;obtain⟨A,hA⟩:∃A,A=cf P:=⟨_,rfl⟩
 have G:=dZ P;rw[<-Jv];rw[<-hA]at e G⊢;obtain⟨s,hs⟩:∃s,s=st++[aR.dT (A.map eD)]:=⟨_,rfl⟩
 have hd:s[st.length]?=some (.dT (A.map eD)):=by rw[hs];exact pI st _
 have Fj:(A.map eD).map (·.1)=(A.map (·.1)).map iK:=by rw[VN,VN];rfl
 have lA:=G.2.1;have U?:=AI (ks:=A.map (·.1)) hd Fj (by rw[Vm,VT];lia) (fun k hk=>by
  obtain⟨t,ht,rfl⟩:=VH.mp hk;obtain⟨q,hq,e⟩:=VH.mp (G.2.2 t ht);rw[<-e];exact Iw q hq)
 obtain⟨s2,eV⟩:∃s2,s2=s++[aR.lst ((iG (A.map (·.1))).map ax)]:=⟨_,rfl⟩
 have ls:s.length=st.length+1:=by rw[hs,Vr];rfl
 have hd2:s2[st.length]?=some (.dT (A.map eD)):=by rw[eV,VL (by lia)];exact hd
 have hit:aq s2 s.length=some ((iG (A.map (·.1))).map ax):=by rw[eV];exact bH s _
 have hc:=Fb (g:=fun av=>aq av s.length=some ((iG (A.map (·.1))).map ax)) hit hd2;have hlen:((iG (A.map (·.1))).map ax).length<=sizeLine:=by rw[Vm,(eB _).length_eq,Vm,VT];lia
 refine⟨.dT (A.map eD),.lst ((iG (A.map (·.1))).map ax),?_⟩;have wA:jy 1 [1] [some (ao.loc p),some (ao.loc st.length),x2,x3]=[none,some (.loc st.length)]:=rfl;have comp:bz 1 [1] (bJ (i7 (ae 1))) (au 0) Q9 Q_ [some (.loc p),some (.loc st.length),x2,x3] s=.ok (.loc s2.length) (s2++[.lst ((told A).map tV)]):=by have v1:ae 1 [some (.loc p),some (.loc st.length),x2,x3] s=.ok (.loc st.length) s:=rfl;rw[fm,b_,xr,v1,ar,U?,<-eV,ar,bI hit,ar,gG,Vu hlen,wA,hc,ar,jd]
 have fl:dM (bJ (ae 0)) (bX [au 2,au 3]) Cj [some (.loc p),some (.loc st.length),none,none] (st++[.dT []])=.nx [some (.loc p),some (.loc st.length),x2,x3] s:=by have v0:ae 0 [some (.loc p),some (.loc st.length),none,none] (st++[.dT []])=.ok (.loc p) (st++[.dT []]):=rfl;rw[fA,b_,v0,ar,bI (aJ h _),aE,hU,hs];exact e
 have l2:s2.length=st.length+2:=by rw[eV,Vr,ls];rfl
 have es:s2++[aR.lst ((told A).map tV)]=st++[.dT (A.map eD),.lst ((iG (A.map (·.1))).map ax),.lst ((told A).map tV)]:=by rw[eV,hs,Vs,Vs];rfl
 rw[<-es,<-l2];have start:aG 1 jM [some (.loc p),none,none,none] st=.nx [some (.loc p),some (.loc st.length),none,none] (st++[.dT []]):=rfl;have ret:aP (bz 1 [1] (bJ (i7 (ae 1))) (au 0) Q9 Q_) [some (.loc p),some (.loc st.length),x2,x3] s=.rt (.loc s2.length) (s2++[.lst ((told A).map tV)]):=by rw[ba,comp];rfl
 unfold PM.c7;rw[bw (np:=1) (us:=[ao.loc p]) rfl];show(aB (aG 1 jM) (aB (dM (bJ (ae 0)) (bX [au 2,au 3]) Cj) (aP (bz 1 [1] (bJ (i7 (ae 1))) (au 0) Q9 Q_))) [some (.loc p),none,none,none] st).fin=_;rw[ay,start,az,ay,fl,az,ret];rfl
def fD(st av:ai)(k:Nat)(D:List aA):Prop:=(∃g,av=st++g)/\st.length<=k/\av[k]?=some (.lst (D.map tV))
theorem fD.it{k:Nat}(h:fD st av k D):aq av k=some (D.map tV):=aU h.2.2
theorem fD.old{k:Nat}{c:aR}(h:fD st av k D)(e:st[n]?=some c):av[n]?=some c:=by obtain⟨⟨g,rfl⟩,_⟩:=h;exact jW e g
theorem fD.zi{k:Nat}(h:fD st av k D)(e:aq st n=some us):aq av n=some us:=by obtain⟨⟨g,rfl⟩,_⟩:=h;exact aJ e g
theorem jY{P:List aA}(hp:st[p]?=some (.lst (P.map tV)))(hq:st[q]?=some (.lst (R.map tV)))(Iw:∀t∈P++R,t.1≠[])(hl:P.length+R.length<16000000):
  ∃k av,PM.c! [.loc p,.loc q] st=.ok (.loc k) av/\fD st av k (d! 0 (P++R)):=by
 obtain⟨s1,d_⟩:∃s1,s1=st++[aR.lst ((P++R).map tV)]:=⟨_,rfl⟩
 have i1:aq s1 st.length=some ((P++R).map tV):=by rw[d_];exact bH st _
 obtain⟨c1,c2,e⟩:=lG i1 Iw (by rw[Vr];exact hl);have l1:s1.length=st.length+1:=by rw[d_,Vr];rfl
 refine⟨s1.length+2,s1++[c1,c2,.lst ((d! 0 (P++R)).map tV)],?_,⟨⟨[aR.lst ((P++R).map tV),c1,c2,.lst ((d! 0 (P++R)).map tV)],by rw[d_,Vs];rfl⟩,by lia,?_⟩⟩
 .unfold PM.c!;rw[bw (np:=2) (us:=[ao.loc p,.loc q]) rfl];show(aP (ah PM.c7 (aa (ak a8 (ae 0) (ae 1)) aj)) [some (.loc p),some (.loc q)] st).fin=_;have ad:ak a8 (ae 0) (ae 1) [some (.loc p),some (.loc q)] st=.ok (.loc st.length) s1:=by rw[aS (x:=.loc p) (y:=.loc q) (s1:=st) (s2:=st) rfl rfl];show(match st[p]?,st[q]? with|some (.lst us),some (.lst ws)=>if us.length+ws.length<=sizeLine then cD.ok (ao.loc st.length) (st++[aR.lst (us++ws)])else .bad|_,_=>.bad)=_;rw[hp,hq];dsimp only;rw[Vu (by rw[Vm,Vm,VT];lia),d_,WI]
  rw[ba,aw (d8 ad),e,aE];rfl
 .rw[Vv (by lia),show s1.length+2-s1.length=2 by lia];rfl
abbrev Vg:ME:=ak a8 (ak cw (ae 1) (ae 0)) (ak cw (ae 2) (ae 0))
abbrev Ro:ME:=bz 1 [3,5] (cA (aa (ah fe (aa (ae 3) aj)) aj)) (au 0) aV Vg
theorem Jw{μ:MN.Env}{a b:_S}{s:ai}(hc:jy 1 [3,5] μ=[none,some (ax a),some (ax b)])(v3:ae 3 μ s=.ok (ax a) s)(hl:a.length=b.length)(h:a.length<=10):Ro μ s=.ok (.loc s.length) (s++[.lst ((aL a b).map ao.int)]):=by
 have cp:=cz (a:=au 0) (c:=aV) (e:=Vg) (g:=fun _=>True) (st:=s) trivial (fun τ=>∃x,τ=[x,some (ax a),some (ax b)]) (fun _=>true) (fun v=>.int (a.getD (natOf v) 0+b.getD (natOf v) 0)) (cF 0 a.length) [none,some (ax a),some (ax b)] [] ⟨_,rfl⟩ (by
  rintro v hv τ ⟨x,rfl⟩;obtain⟨i,U7⟩:=Za hv;obtain⟨hi,rfl⟩:=Fx U7;refine⟨[some (.int (0+(i:Int))),some (ax a),some (ax b)],rfl,⟨_,rfl⟩,rfl,fun _=>?_⟩;rw[Xs];have e1:ak cw (ae 1) (ae 0) [some (.int (i:Int)),some (ax a),some (ax b)] s=.ok (.int (a.getD i 0)) s:=by rw[aS (x:=ax a) (y:=.int (i:Int)) (s1:=s) (s2:=s) rfl rfl,y_ hi]
  have e2:ak cw (ae 2) (ae 0) [some (.int (i:Int)),some (ax a),some (ax b)] s=.ok (.int (b.getD i 0)) s:=by rw[aS (x:=ax b) (y:=.int (i:Int)) (s1:=s) (s2:=s) rfl rfl,y_ (by lia)]
  unfold Vg;rw[aS e1 e2,k_];rfl)
 have e:((cF 0 a.length).filter fun _=>true).map (fun v=>ao.int (a.getD (natOf v) 0+b.getD (natOf v) 0))=(aL a b).map ao.int:=by rw[WL.mpr fun _ _=>rfl,<-A3 a b hl];unfold cF;rw[VN,VN];refine V7 fun i _=>?_;show ao.int (a.getD (natOf (.int (0+(i:Int)))) 0+b.getD (natOf (.int (0+(i:Int)))) 0)=_;rw[Xs];rfl
 rw[e,VM]at cp;have len:ah fe (aa (ae 3) aj) μ s=.ok (.int (a.length:Int)) s:=by rw[aw (d8 v3)];show fe [.tup (a.map ao.int)] s=_;rw[Ip,Vm]
 unfold Ro;rw[fm,zd (d8 len) (by lia) (by lia),ar,WE,gG,Vu (by rw[Fy,VT];lia),hc,cp,ar,jd]
abbrev Vh:MB:=cO (iP dS (ae 2) (aa (cq (aa (ah gW (aa Ro aj)) (aa (ak cu (ae 4) (ae 6)) aj))) aj))
theorem FO{u:aA}{L0:List aA}{g0:ai}{z5 z6:Option ao}(hq:aq st q=some (B.map tV))(hs:u.1.length<=10)(hB:∀t∈B,u.1.length=t.1.length/\MulOk u.2 t.2)(hl:L0.length+B.length<1000000):
  ∃y5 y6 g,forL (fun av=>aq av q=some (B.map tV)) (bX [au 5,au 6]) Vh (B.map tV) [x0,some (.loc q),some (.loc st.length),some (ax u.1),some (.int u.2),z5,z6] (st ++ .lst (L0.map tV)::g0)=.nx [x0,some (.loc q),some (.loc st.length),some (ax u.1),some (.int u.2),y5,y6] (st ++ .lst ((L0++mU u B).map tV)::g):=by
 have hg:∀g:ai,aq (st++g) q=some (B.map tV):=fun g=>aJ hq _;obtain⟨μ',av,e,g,rfl,y5,y6,rfl⟩:=cV (g:=fun av=>aq av q=some (B.map tV)) (a:=bX [au 5,au 6]) (body:=Vh)
  (fun i μ s'=>∃g,s'=st ++ .lst ((L0++mU u (B.take i)).map tV)::g/\∃y5 y6,μ=[x0,some (.loc q),some (.loc st.length),some (ax u.1),some (.int u.2),y5,y6])
  (B.map tV) 0 [x0,some (.loc q),some (.loc st.length),some (ax u.1),some (.int u.2),z5,z6] (st ++ .lst (L0.map tV)::g0)
  (by
   rintro i v μ s' hu ⟨g,rfl,y5,y6,rfl⟩;rw[V1];refine⟨hg _,?_⟩;rw[VF]at hu;have hi:i<B.length:=by
    rcases V2 i B.length with z|z
    .exact z
    .rw[VW z]at hu;cases hu
   rw[Vp hi]at hu;obtain⟨t,ht⟩:∃t,t=B[i]:=⟨_,rfl⟩
   rw[<-ht]at hu;cases hu;have tB:t∈B:=by rw[ht];exact Wt hi
   have tk:B.take (i+1)=B.take i++[t]:=by rw[Xk,Vp hi,<-ht];rfl
   obtain⟨L,hL⟩:∃L,L=L0++mU u (B.take i):=⟨_,rfl⟩
   have lL:L.length<1000000:=by rw[hL,Vr];unfold mU;rw[Vm,V'];lia
   have sn:L0++mU u (B.take (i+1))=L++[(aL u.1 t.1,u.2*t.2)]:=by rw[hL,tk];unfold mU;rw[WI,Vs];rfl
   rw[<-hL,sn];obtain⟨s1,d_⟩:∃s1,s1=st++aR.lst (L.map tV)::g:=⟨_,rfl⟩
   obtain⟨g1,Ve⟩:∃g1,g1=g++[aR.lst ((aL u.1 t.1).map ao.int)]:=⟨_,rfl⟩
   have eV:s1++[aR.lst ((aL u.1 t.1).map ao.int)]=st++aR.lst (L.map tV)::g1:=by rw[d_,Ve,Vs];rfl
   refine⟨[x0,some (.loc q),some (.loc st.length),some (ax u.1),some (.int u.2),some (ax t.1),some (.int t.2)],rfl,[x0,some (.loc q),some (.loc st.length),some (ax u.1),some (.int u.2),some (ax t.1),some (.int t.2)],st++aR.lst ((L++[(aL u.1 t.1,u.2*t.2)]).map tV)::g1,.inl ?_,g1,rfl,_,_,rfl⟩;rw[<-d_];have f1:ah gW (aa Ro aj) [x0,some (.loc q),some (.loc st.length),some (ax u.1),some (.int u.2),some (ax t.1),some (.int t.2)] s1=.ok (ax (aL u.1 t.1)) (s1++[aR.lst ((aL u.1 t.1).map ao.int)]):=by rw[aw (d8 (Jw (a:=u.1) (b:=t.1) rfl rfl (hB t tB).1 hs)),pF (bH s1 _)];rfl
   rw[eV]at f1;have m:∀s2,ak cu (ae 4) (ae 6) [x0,some (.loc q),some (.loc st.length),some (ax u.1),some (.int u.2),some (ax t.1),some (.int t.2)] s2=.ok (.int (u.2*t.2)) s2:=fun s2=>by rw[aS (x:=.int u.2) (y:=.int t.2) (s1:=s2) (s2:=s2) rfl rfl,u_ (hB t tB).2]
   have f2:=A0 (μ:=[x0,some (.loc q),some (.loc st.length),some (ax u.1),some (.int u.2),some (ax t.1),some (.int t.2)]) (s:=s1) (s1:=st++aR.lst (L.map tV)::g1) (o:=ae 2) (a:=aa (cq (aa (ah gW (aa Ro aj)) (aa (ak cu (ae 4) (ae 6)) aj))) aj) (n:=st.length) (us:=L.map tV) (v:=tV (aL u.1 t.1,u.2*t.2)) rfl (by rw[d_];exact lF _ _ _) (d8 (qJ (bT f1 (m _)) (by show 2<=1000;decide))) (lF _ _ _) (by rw[Vm];exact lL);rw[pG]at f2;show cO _ _ _=_;rw[f2,WI];rfl)
  (fun μ s hp=>by obtain⟨g,rfl,_⟩:=hp;exact hg _)
  ⟨g0,by rw[_g];show _=st++aR.lst ((L0++[]).map tV)::g0;rw[VZ],z5,z6,rfl⟩
 rw[V1,Vm,Wf (Vo _)]at e;exact⟨y5,y6,g,e⟩
abbrev Vi:MB:=dM (bJ (ae 1)) (bX [au 5,au 6]) Vh
theorem FQ{A:List aA}(hp:aq st p=some (A.map tV))(hq:aq st q=some (B.map tV))(h4:af<=4)(hA:∀t∈A,t.1.length=af)(hB:∀t∈B,t.1.length=af)(hm:∀s∈A,∀t∈B,MulOk s.2 t.2)(hl:A.length*B.length<1000000):
  ∃y3 y4 y5 y6 g,forL (fun av=>aq av p=some (A.map tV)) (bX [au 3,au 4]) Vi (A.map tV) [some (.loc p),some (.loc q),some (.loc st.length),none,none,none,none] (st++[.lst []])=.nx [some (.loc p),some (.loc q),some (.loc st.length),y3,y4,y5,y6] (st ++ .lst ((aO A B).map tV)::g):=by
 have hg:∀g:ai,aq (st++g) p=some (A.map tV):=fun g=>aJ hp _;obtain⟨μ',av,e,g,rfl,y3,y4,y5,y6,rfl⟩:=cV (g:=fun av=>aq av p=some (A.map tV)) (a:=bX [au 3,au 4]) (body:=Vi)
  (fun i μ s'=>∃g,s'=st ++ .lst ((aO (A.take i) B).map tV)::g/\∃y3 y4 y5 y6,μ=[some (.loc p),some (.loc q),some (.loc st.length),y3,y4,y5,y6])
  (A.map tV) 0 [some (.loc p),some (.loc q),some (.loc st.length),none,none,none,none] (st++[.lst []])
  (by
   rintro i v μ s' hu ⟨g,rfl,y3,y4,y5,y6,rfl⟩;rw[V1];refine⟨hg _,?_⟩;rw[VF]at hu;have hi:i<A.length:=by
    rcases V2 i A.length with z|z
    .exact z
    .rw[VW z]at hu;cases hu
   rw[Vp hi]at hu;obtain⟨t,ht⟩:∃t,t=A[i]:=⟨_,rfl⟩
   rw[<-ht]at hu;cases hu;have tA:t∈A:=by rw[ht];exact Wt hi
   have tk:A.take (i+1)=A.take i++[t]:=by rw[Xk,Vp hi,<-ht];rfl
   have lL:(aO (A.take i) B).length+B.length<1000000:=by rw[cX,V',<-YT];refine Wd (XW _ ?_) hl;lia
   obtain⟨z5,z6,g1,en⟩:=FO (q:=q) (u:=t) (B:=B) (L0:=aO (A.take i) B) (st:=st) (g0:=g) (x0:=some (.loc p)) (z5:=y5) (z6:=y6) hq (by rw[hA t tA];lia) (fun b hb=>⟨by rw[hA t tA,hB b hb],hm t tA b hb⟩) lL;rw[<-ud,<-tk]at en;refine⟨[some (.loc p),some (.loc q),some (.loc st.length),some (ax t.1),some (.int t.2),y5,y6],rfl,[some (.loc p),some (.loc q),some (.loc st.length),some (ax t.1),some (.int t.2),z5,z6],_,.inl ?_,g1,rfl,_,_,_,_,rfl⟩;have v2:∀s,ae 1 [some (.loc p),some (.loc q),some (.loc st.length),some (ax t.1),some (.int t.2),y5,y6] s=.ok (.loc q) s:=fun _=>rfl;show dM _ _ _ _ _=_;rw[fA,b_,v2,ar,bI (aJ hq _),aE,hU,en])
  (fun μ s hp=>by obtain⟨g,rfl,_⟩:=hp;exact hg _)
  ⟨[],rfl,none,none,none,none,rfl⟩
 rw[V1,Vm,Wf (Vo _)]at e;exact⟨y3,y4,y5,y6,g,e⟩
theorem gY{A:List aA}(hp:aq st p=some (A.map tV))(hq:aq st q=some (B.map tV))(h1:1<=af)(h4:af<=4)(hA:∀t∈A,t.1.length=af)(hB:∀t∈B,t.1.length=af)(hm:∀s∈A,∀t∈B,MulOk s.2 t.2)(hl:A.length*B.length<1000000):
  ∃k av,PM.a! [.loc p,.loc q] st=.ok (.loc k) av/\fD st av k (d! 0 (aO A B)):=by
 obtain⟨y3,y4,y5,y6,g,e⟩:=FQ hp hq h4 hA hB hm hl;obtain⟨s1,d_⟩:∃s1,s1=st++aR.lst ((aO A B).map tV)::g:=⟨_,rfl⟩
 rw[<-d_]at e;have it:aq s1 st.length=some ((aO A B).map tV):=by rw[d_];unfold aq;rw[lF]
 obtain⟨c1,c2,et⟩:=lG it (fun t ht=>by
  obtain⟨a,ha,b,hb,rfl⟩:=cL ht;exact lE h1 (g9 (hA a ha) (hB b hb))) (by rw[cX];lia)
 have l1:s1.length=st.length+(g.length+1):=by rw[d_,Vr];rfl
 refine⟨s1.length+2,s1++[c1,c2,.lst ((d! 0 (aO A B)).map tV)],?_,⟨(aR.lst ((aO A B).map tV)::g)++[c1,c2,.lst ((d! 0 (aO A B)).map tV)],by rw[d_,Vs]⟩,by lia,?_⟩
 .have v1:∀s,ae 0 [some (.loc p),some (.loc q),some (.loc st.length),none,none,none,none] s=.ok (.loc p) s:=fun _=>rfl;have x2:aG 2 (bW aj) [some (.loc p),some (.loc q),none,none,none,none,none] st=.nx [some (.loc p),some (.loc q),some (.loc st.length),none,none,none,none] (st++[.lst []]):=bj (v:=.loc st.length) (fW (vs:=[]) rfl (by decide));unfold PM.a!;rw[bw (np:=2) (us:=[ao.loc p,.loc q]) rfl];show(aB (aG 2 (bW aj)) (aB (dM (bJ (ae 0)) (bX [au 3,au 4]) Vi) (aP (ah PM.c7 (aa (ae 2) aj)))) [some (.loc p),some (.loc q),none,none,none,none,none] st).fin=_;rw[ay,x2,az,ay,fA,b_,v1,ar,bI (aJ hp _),aE,hU,e,az,ba,aw (d8 (v:=.loc st.length) (s1:=s1) rfl),et,aE];rfl
 .rw[Vv (by lia),show s1.length+2-s1.length=2 by lia];rfl
theorem Jx{k:Int}(hp:0<=power):∀e∈gI cell k power af,e<=power:=by intro e he;unfold gI at he;obtain⟨j,_,rfl⟩:=VH.mp he;have:=f9 (m:=power+1) (by lia) (xt cell (5*k+j));lia
structure Drw(af:Nat)(power:Int)(n:Nat)(D:List aA):Prop where
 s:cy af D
 hi:∀t∈D,∀e∈t.1,e<=power
 l:D.length<=n
 b:∀t∈D,-(n*10 ^ 20)<=t.2/\t.2<=n*10 ^ 20
theorem FR{B:Int}(b0:0<=B){P:List aA}(hp:∀t∈P,-B<=t.2/\t.2<=B):∀t∈d! 0 P,-(P.length*B)<=t.2/\t.2<=P.length*B:=fun t ht=>by obtain⟨q,hq,e1,e2⟩:=mM ht;rw[e2,Jt];exact qN b0 hp q hq
theorem vm(hm1:1<=af)(hm:af<=4)(t0:0<=terms)(t1:terms<=60)(p0:0<=power)(st:ai):
  ∃k av D,PM.mJ [.int cell,.int af,.int terms,.int power,.int kind] st=.ok (.loc k) av/\fD st av k D/\Drw af power terms.toNat D:=by
 have SD:=u9 (st:=st++[.lst []]) (j:=terms) (by lia) (by lia);obtain⟨μ',av,e,P,g,x6,x7,rfl,rfl,hP,hk⟩:=cV (g:=fun _=>True) (a:=au 6) (body:=Q!)
  (fun i μ s'=>∃(P:List aA)(g:ai)(x6 x7:Option ao),s'=st ++ .lst (P.map tV)::g/\μ=[some (.int cell),some (.int af),some (.int terms),some (.int power),some (.int kind),some (.loc st.length),x6,x7]/\P.length=i/\∀t∈P,(t.1.length=af/\∀e∈t.1,0<=e)/\(∀e∈t.1,e<=power)/\-(10 ^ 20)<=t.2/\t.2<=10 ^ 20)
  (cF 0 terms.toNat) 0 [some (.int cell),some (.int af),some (.int terms),some (.int power),some (.int kind),some (.loc st.length),none,none] (st++[.lst []])
  (by
   rintro i u μ s' hu ⟨P,g,x6,x7,rfl,rfl,hP,hk⟩;rw[V1]at hP⊢;refine⟨trivial,?_⟩;rw[gy]at hu;obtain⟨k,hkm,rfl⟩:=VH.mp (XD hu);have hi:i<terms.toNat:=by have:=d9 hu;rw[Vm]at this;unfold yY at this;rw[Vm,WD]at this;exact this
   have mr:=IZ cell (5*k+4);obtain⟨v,hv,v1,v2⟩:=yZ (xt cell (5*k+4)) kind mr.1 mr.2;refine⟨_,rfl,_,_,.inl (I! hm p0 (by lia) hv),P++[(gI cell k power af,v)],_,_,_,rfl,rfl,by rw[Vr,hP];rfl,fun t ht=>?_⟩;rcases Wb.mp ht with ht|ht
   .exact hk t ht
   .rw[V0.mp ht];exact⟨⟨Fd _ _ _ _,I_ p0⟩,Jx p0,v1,v2⟩)
  (fun _ _ _=>trivial) ⟨[],[],none,none,rfl,rfl,rfl,fun t m=>(by cases m)⟩
 rw[V1]at hP;have hP':P.length=terms.toNat:=by rw[hP,gy];unfold yY;rw[Vm,Vm,WD]
 obtain⟨s,hs⟩:∃s,s=st++aR.lst (P.map tV)::g:=⟨_,rfl⟩
 have hc:aq s st.length=some (P.map tV):=by rw[hs];unfold aq;rw[lF]
 obtain⟨c1,c2,et⟩:=lG hc (fun t ht=>lE hm1 (hk t ht).1.1) (by lia);have l1:s.length=st.length+(g.length+1):=by rw[hs,Vr];rfl
 refine⟨s.length+2,s++[c1,c2,.lst ((d! 0 P).map tV)],d! 0 P,?_,⟨⟨aR.lst (P.map tV)::g++[c1,c2,.lst ((d! 0 P).map tV)],by rw[hs,Vs]⟩,by lia,?_⟩,⟨FK fun t ht=>(hk t ht).1,fun t ht=>?_,by have:=gJ (r:=0) P;lia,fun t ht=>?_⟩⟩
 .have first:aG 5 (bW aj) [some (.int cell),some (.int af),some (.int terms),some (.int power),some (.int kind),none,none,none] st=.nx [some (.int cell),some (.int af),some (.int terms),some (.int power),some (.int kind),some (.loc st.length),none,none] (st++[.lst []]):=by simp only[ar,aE,Em,wO,cH,yM,hJ,WT,XQ,VY,VT,Nat.reduceLeDiff,↓reduceIte]
  have loop:dM (cA (aa (ae 2) aj)) (au 6) Q! [some (.int cell),some (.int af),some (.int terms),some (.int power),some (.int kind),some (.loc st.length),none,none] (st++[.lst []])=.nx [some (.int cell),some (.int af),some (.int terms),some (.int power),some (.int kind),some (.loc st.length),x6,x7] s:=by
   have a1:cA (aa (ae 2) aj) [some (ao.int cell),some (.int af),some (.int terms),some (.int power),some (.int kind),some (.loc st.length),none,none] (st++[.lst []])=.ok (cF 0 terms.toNat,fun _=>True) (st++[.lst []]):=by simp only[ar,bC,a7,cH,aZ,u7,eg,gS,SD]
   rw[fA,a1,aE,hU,hs];exact e
  unfold PM.mJ;rw[bw (np:=5) (us:=[ao.int cell,.int af,.int terms,.int power,.int kind]) rfl];show(aB (aG 5 (bW aj)) (aB (dM (cA (aa (ae 2) aj)) (au 6) Q!) (aP (ah PM.c7 (aa (ae 5) aj)))) [some (.int cell),some (.int af),some (.int terms),some (.int power),some (.int kind),none,none,none] st).fin=_;rw[ay,first,az,ay,loop,az,ba,aw (d8 (v:=.loc st.length) (s1:=s) rfl),et];rfl
 .rw[Vv (by lia),show s.length+2-s.length=2 by lia];rfl
 .obtain⟨q,hq,e⟩:=VH.mp (vj ht).1;rw[<-e];exact(hk q hq).2.1
 .have:=FR (B:=10 ^ 20) (by decide) (fun t ht=>(hk t ht).2.2) t ht;rw[hP']at this;exact this
def iJ(k:_S)(a:Nat)(v:Int):_S:=k.take a++[v]++k.drop (a+1)
def qT(D:List aA)(a:Nat)(p:Int):List aA:=D.map fun t=>(iJ t.1 a (eJ a t+p),t.2)
def lH(D:List aA)(a:Nat):List aA:=D.filter fun t=>eJ a t==aW D a
def qU(D:List aA)(a:Nat):List aA:=D.filter fun t => !(eJ a t==aW D a)
def eU(R B:List aA)(a:Nat):List aA:=qT (aK R a) a (aW R a-aW B a)
def jj(R B:List aA)(a:Nat):List aA:=d! 0 (d! 0 (aO (aK B a) R)++chg (fun n => -n) (d! 0 (aO (eU R B a) B)))
def oQ(R B:List aA)(a:Nat):List aA:=aO (aK B a) (qU R a)++chg (fun n => -n) (aO (eU R B a) (qU B a))
section
variable{f g:_S->Int}
theorem vn(h:_S->_S):∀D:List aA,bx f (D.map fun t=>(h t.1,t.2))=bx (fun k=>f (h k)) D
 |[]=>rfl
 |t::D=>by show f (h t.1)*t.2+bx f (D.map _)=f (h t.1)*t.2+_;rw[vn h D]
theorem fK:∀{D:List aA},(∀t∈D,f t.1=g t.1)->bx f D=bx g D
 |[],_=>rfl
 |t::D,e=>by show f t.1*t.2+bx f D=g t.1*t.2+bx g D;rw[e t (VO ..),fK fun u hu=>e u (VQ _ hu)]
theorem uf(p:aA->Bool):∀D:List aA,bx f D=bx f (D.filter p)+bx f (D.filter fun t => !(p t))
 |[]=>rfl
 |t::D=>by
  have i:=uf p D;rw[Ya,Ya];cases p t with
  |true=>
   show f t.1*t.2+bx f D=(f t.1*t.2+bx f (D.filter p))+bx f (D.filter _);lia
  |false=>
   show f t.1*t.2+bx f D=bx f (D.filter p)+(f t.1*t.2+bx f (D.filter _));lia
end
theorem vo{k:_S}{a:Nat}{v:Int}(h:a<k.length):(iJ k a v).length=k.length:=by unfold iJ;rw[Vr,Vr,V',Wl,WZ];lia
theorem iB:∀{k:_S}{a:Nat}{v:Int}(i:Nat),a<k.length->gx (iJ k a v) i=if i=a then v else gx k i
 |x::k,0,v,0,_=>rfl
 |x::k,0,v,i+1,_=>rfl
 |x::k,a+1,v,0,_=>rfl
 |x::k,a+1,v,i+1,h=>by
  show gx (iJ k a v) i=_;rw[iB i (Ym h)];show _=if i+1=a+1 then v else gx k i
  by_cases z:i=a
  .rw[Vu z,Vu (by lia)]
  .rw[VA z,VA (by lia)]
theorem zj:∀{a b:_S},a.length=b.length->(∀i,gx a i=gx b i)->a=b
 |[],[],_,_=>rfl
 |x::a,y::b,l,h=>by rw[show x=y from h 0,zj (YU l) fun i=>h (i+1)]
theorem FT(a:Nat)(t:aA):eJ a t=gx t.1 a:=rfl
theorem Jy{u b:_S}{a:Nat}{P d:Int}(l:u.length=b.length)(ha:a<u.length)(hu:gx u a=P)(hb:gx b a=d):aL (iJ (fV u a) a (gx (fV u a) a+(P-d))) b=aL (fV b a) u:=by
 have e0:∀k:_S,fV k a=iJ k a 0:=fun _=>rfl;rw[e0,e0];have l1:(iJ u a 0).length=u.length:=vo ha;have l2:(iJ (iJ u a 0) a (gx (iJ u a 0) a+(P-d))).length=u.length:=by rw[vo (by lia),l1]
 have l3:(iJ b a 0).length=b.length:=vo (by lia);refine zj (by rw[g9 (af:=u.length) l2 l.symm,g9 (af:=u.length) (by lia) rfl]) fun i=>?_;rw[gX i (by lia),gX i (by lia),iB i (by lia),iB a (by lia),iB i (by lia),iB i (by lia)];by_cases z:i=a
 .subst z;simp only[Xr];lia
 .simp only[VA z];lia
theorem Cw(f:_S->Int)(D:List aA)(a:Nat):bx f D=bx f (lH D a)+bx f (qU D a):=uf _ D
theorem xD(f:_S->Int)(D:List aA)(a:Nat):bx f (aK D a)=bx (fun k=>f (fV k a)) (lH D a):=vn (fun k=>fV k a) _
theorem FU(f:_S->Int)(R B:List aA)(a:Nat):bx f (eU R B a)=bx (fun k=>f (iJ (fV k a) a (gx (fV k a) a+(aW R a-aW B a)))) (lH R a):=by unfold eU qT;exact(vn (fun k=>iJ k a (gx k a+(aW R a-aW B a))) (aK R a)).trans (xD _ R a)
section
variable{a:Nat}
theorem zo{t:aA}(h:t∈lH D a):t∈D/\gx t.1 a=aW D a:=by obtain⟨h1,h2⟩:=WC.mp h;exact⟨h1,eq_of_beq h2⟩
theorem Vj(hR:∀t∈R,t.1.length=af)(hB:∀t∈B,t.1.length=af)(ha:a<af)(f:_S->Int):bx f (aO (eU R B a) (lH B a))=bx f (aO (aK B a) (lH R a)):=by rw[bb,bb,FU,xD,mQ];refine fK fun b hb=>fK fun u hu=>?_;obtain⟨b1,b2⟩:=zo hb;obtain⟨u1,u2⟩:=zo hu;exact Xg f (Jy (by rw[hR u u1,hB b b1]) (by rw[hR u u1];exact ha) u2 b2)
theorem ug(f:_S->Int)(A D:List aA)(a:Nat):bx f (aO A D)=bx f (aO A (lH D a))+bx f (aO A (qU D a)):=by rw[bb,bb,bb,<-AY];exact fK fun t _=>Cw _ D a
theorem uh(f:_S->Int):bx f (jj R B a)=bx f (aO (aK B a) R)-bx f (aO (eU R B a) B):=by unfold jj;rw[ik,kg,vk,ik,ik];lia
theorem Cy(hR:∀t∈R,t.1.length=af)(hB:∀t∈B,t.1.length=af)(ha:a<af):jj R B a=d! 0 (oQ R B a):=by
 have e:jj R B a=d! 0 (jj R B a):=FI (P:=d! 0 (aO (aK B a) R)++chg (fun n => -n) (d! 0 (aO (eU R B a) B))) fun f=>by unfold jj;rw[ik]
 rw[e];refine FI fun f=>?_;rw[uh,ug f _ R a,ug f _ B a,Vj hR hB ha];unfold oQ;rw[kg,vk];lia
end
def FV(A:List aA)(f:_S->Int):_S->Int:=fun x=>bx (fun a=>f (aL a x)) A
theorem gA(f:_S->Int)(A B:List aA):bx f (aO A B)=bx (FV A f) B:=by rw[bb,mQ];rfl
def Gv(af:Nat)(X:List aA):Nat->List aA
 |0=>[(vh af,1)]
 |k+1=>aO (Gv af X k) X
theorem zu(f:_S->Int)(af:Nat)(X:List aA)(k:Nat):FV (Gv af X (k+1)) f=FV (Gv af X k) (FV X f):=by funext x;show bx _ (aO (Gv af X k) X)=bx (fun p=>bx (fun m=>f (aL m (aL p x))) X) _;rw[bb];refine fK fun p _=>fK fun m _=>?_;show f (aL (aL p.1 m.1) x)=_;rw[join_comm p.1,iA]
def Kept(af:Nat)(X row B Q R:List aA)(k:Nat):Prop:=∀f,bx f (aO (Gv af X k) row)=bx f (aO Q B)+bx f R
theorem Cz{a k:Nat}{Q:List aA}(h:Kept af (aK B a) row B Q R k):Kept af (aK B a) row B (d! 0 (d! 0 (aO (aK B a) Q)++eU R B a)) (jj R B a) (k+1):=fun f=>by
 rw[gA,zu,<-gA,h,uh,<-gA,<-gA];have e1:bx f (aO (aK B a) (aO Q B))=bx f (aO (aO (aK B a) Q) B):=by have:=nU (r:=0) (aK B a) Q B f;rw[Jt,Jt]at this;exact this.symm
 have e2:bx f (aO (d! 0 (d! 0 (aO (aK B a) Q)++eU R B a)) B)=bx f (aO (aO (aK B a) Q) B)+bx f (aO (eU R B a) B):=by rw[bb,ik,kg,ik,<-bb,<-bb]
 rw[e1,e2];lia
def Ky(af:Nat)(L:List aA):Prop:=∀t∈L,t.1.length=af/\∀i,0<=gx t.1 i
theorem Rp{e:_S}(h:∀x∈e,0<=x)(i:Nat):0<=gx e i:=by
 by_cases z:i<e.length
 .exact h _ (FL z)
 .have:gx e i=0:=by show e.getD i 0=0;rw[V8,VW (by lia)];rfl
  lia
theorem bU(S:cy af D):Ky af D:=fun t ht=>⟨S.len t ht,Rp (S.nn t ht)⟩
theorem lI{P:List aA}(h:Ky af P):cy af (d! 0 P):=FK fun t ht=>⟨(h t ht).1,fun e he=>by obtain⟨i,rfl⟩:=N8 he;exact(h t ht).2 i⟩
theorem gK{A:List aA}(hA:Ky af A)(hB:Ky af B):Ky af (aO A B):=fun t ht=>by obtain⟨a,ha,b,hb,rfl⟩:=cL ht;refine⟨g9 (hA a ha).1 (hB b hb).1,fun i=>?_⟩;show 0<=gx (aL a.1 b.1) i;rw[gX i (by rw[(hA a ha).1,(hB b hb).1])];have:=(hA a ha).2 i;have:=(hB b hb).2 i;lia
theorem qV{A:List aA}(hA:Ky af A)(hB:Ky af B):Ky af (A++B):=fun t ht=>by
 rcases Wb.mp ht with h|h
 .exact hA t h
 .exact hB t h
theorem vp{g:Int->Int}{A:List aA}{t:aA}(h:t∈chg g A):∃u∈A,t=(u.1,g u.2):=by obtain⟨u,hu,rfl⟩:=VH.mp h;exact⟨u,hu,rfl⟩
theorem N9{A:List aA}(g:Int->Int)(hA:Ky af A):Ky af (chg g A):=fun t ht=>by obtain⟨u,hu,rfl⟩:=vp ht;exact hA u hu
theorem vq{P:List aA}{t:aA}(h:t∈d! 0 P):∃u∈P,u.1=t.1:=VH.mp (vj h).1
theorem FW{P:List aA}(h:Ky af P):Ky af (d! 0 P):=bU (lI h)
theorem mV:∀(l:_S)(M:Int),M<=SO.gf M l/\(∀x∈l,x<=SO.gf M l)/\(SO.gf M l=M\/SO.gf M l∈l)
 |[],M=>⟨XG _,(fun x h=>nomatch h),.inl rfl⟩
 |y::l,M=>by
  show M<=SO.gf (if y>M then y else M) l/\(∀x∈y::l,x<=SO.gf (if y>M then y else M) l)/\(SO.gf (if y>M then y else M) l=M\/SO.gf (if y>M then y else M) l∈y::l);by_cases z:y>M
  .rw[Vu z];obtain⟨i1,i2,i3⟩:=mV l y;refine⟨by lia,fun x hx=>?_,.inr ?_⟩
   .rcases VU.mp hx with rfl|h
    .exact i1
    .exact i2 x h
   .rcases i3 with h|h
    .rw[h];exact VO ..
    .exact VQ _ h
  .rw[VA z];obtain⟨i1,i2,i3⟩:=mV l M;refine⟨i1,fun x hx=>?_,?_⟩
   .rcases VU.mp hx with rfl|h
    .lia
    .exact i2 x h
   .rcases i3 with h|h
    .exact .inl h
    .exact .inr (VQ _ h)
section
variable{a:Nat}
theorem vt(h:D≠[]):∃t∈D,gx t.1 a=aW D a:=by
 cases D with
 |nil=>exact absurd rfl h
 |cons u D=>
  show ∃t∈u::D,gx t.1 a=SO.gf (eJ a u) (D.map (eJ a));rcases(mV (D.map (eJ a)) (eJ a u)).2.2 with e|e
  .exact⟨u,VO ..,e.symm⟩
  .obtain⟨t,ht,e⟩:=VH.mp e;exact⟨t,VQ _ ht,e⟩
theorem FX{t:aA}(h:t∈D):gx t.1 a<=aW D a:=by
 cases D with
 |nil=>cases h
 |cons u D=>
  have m:=mV (D.map (eJ a)) (eJ a u);show eJ a t<=SO.gf (eJ a u) (D.map (eJ a));rcases VU.mp h with rfl|h
  .exact m.1
  .exact m.2.1 _ (VH.mpr ⟨t,h,rfl⟩)
theorem FY{P:Int}(h:∀t∈D,gx t.1 a<P)(p0:0<=P):aW D a<P:=by
 by_cases z:D=[]
 .subst z;show(-1:Int)<P;lia
 .obtain⟨t,ht,e⟩:=vt (a:=a) z;rw[<-e];exact h t ht
theorem zz(S:cy af D)(h:D≠[]):0<=aW D a:=by obtain⟨t,ht,e⟩:=vt (a:=a) h;rw[<-e];exact(bU S t ht).2 a
theorem qW{t:aA}(h:t∈qU D a):t∈D/\gx t.1 a<aW D a:=by
 obtain⟨h1,h2⟩:=WC.mp h;have h2:¬ eJ a t=aW D a:=by simpa using h2
 have:=FX (a:=a) h1;have e:=FT a t;exact⟨h1,by lia⟩
theorem A4(p:aA->Bool):∀D:List aA,(D.filter p).length+(D.filter fun t => !(p t)).length=D.length
 |[]=>rfl
 |t::D=>by
  have i:=A4 p D;rw[Ya,Ya];cases p t with
  |true=>show(D.filter p).length+1+(D.filter _).length=D.length+1;lia
  |false=>show(D.filter p).length+((D.filter _).length+1)=D.length+1;lia
theorem mW(D:List aA)(a:Nat):(lH D a).length+(qU D a).length=D.length:=A4 _ D
theorem jZ(D:List aA)(a:Nat):(aK D a).length=(lH D a).length:=Vm _
theorem xE(R B:List aA)(a:Nat):(eU R B a).length=(lH R a).length:=by unfold eU qT;rw[Vm,jZ]
theorem mX{t:aA}(S:cy af D)(ha:a<af)(h:t∈aK D a):gx t.1 a=0/\∃u∈D,t.2=u.2:=by obtain⟨u,hu,rfl⟩:=VH.mp h;have hu:=(WC.mp hu).1;refine⟨?_,u,hu,rfl⟩;show gx (iJ u.1 a 0) a=0;rw[iB a (by rw[S.len u hu];exact ha),Vu rfl]
theorem qX{t:aA}(S:cy af R)(ha:a<af)(hp:aW B a<=aW R a)(h:t∈eU R B a):t.1.length=af/\(∀i,0<=gx t.1 i)/\gx t.1 a=aW R a-aW B a/\∃u∈R,t.2=u.2:=by
 obtain⟨v,hv,rfl⟩:=VH.mp h;obtain⟨k1,u,hu,k2⟩:=mX S ha hv;have km:=bU (fI S ha) v hv;have e:=FT a v;refine⟨by show(iJ _ _ _).length=_;rw[vo (by lia),km.1],fun i=>?_,?_,u,hu,k2⟩
 .show 0<=gx (iJ _ _ _) i;rw[iB i (by lia)];have:=km.2 i;split<;>lia
 .show gx (iJ _ _ _) a=_;rw[iB a (by lia),Vu rfl];lia
theorem A5(S:cy 1 D):(lH D 0).length<=1:=by
 have nd:((lH D 0).map (·.1)).Nodup:=(eG S.xu).sublist (List.filter_sublist.map _);have al:∀t∈lH D 0,t.1=[aW D 0]:=fun t ht=>by
  obtain⟨h1,h2⟩:=zo ht;exact zj (by rw[S.len t h1];rfl) fun i=>by
   cases i with
   |zero=>exact h2
   |succ i=>
    have:=S.len t h1;show t.1.getD (i+1) 0=_;rw[V8,VW (by lia)];rfl
 generalize lH D 0=L at nd al⊢
 match L,nd,al with
 |[],_,_=>exact V? _
 |[_],_,_=>exact Vo _
 |t::u::L,nd,al=>
  rw[VB,VB,al t (VO ..),al u (VQ _ (VO ..))]at nd;exact absurd (VO ..) (WB.mp nd).1
end
def rB(af k:Nat):Nat:=if af=1 then 12+6*k else 12*6 ^ k
def qB(af k:Nat):Nat:=if af=1 then k else 2*k*6 ^ k
structure j4(af a:Nat)(B:List aA)(K:Nat):Prop where
 s:cy af B
 ne:B≠[]
 ha:a<af
 h4:af<=4
 l:B.length<=6
 b:∀t∈B,gP 160 t.2
 k:K<=11/\(af≠1->K<=5)
structure rF(af a:Nat)(row B:List aA)(k:Nat)(Q R:List aA):Prop where
 kept:Kept af (aK B a) row B Q R k
 sR:cy af R
 sQ:cy af Q
 lR:R.length<=rB af k
 lQ:Q.length<=qB af k
 bR:∀t∈R,gP (160+220*k) t.2
 bQ:∀t∈Q,gP (160+220*k) t.2
def A6(Q R B:List aA)(a:Nat):List aA:=d! 0 (d! 0 (aO (aK B a) Q)++eU R B a)
theorem p6{k:Nat}(h:k<=n):6 ^ k<=6 ^ n:=WW (by decide) h
theorem Kv{a K k:Nat}(C:j4 af a B K)(h:k<K):rB af k<=15552/\qB af k<=15552:=by
 have:=C.k;unfold rB qB;by_cases z:af=1
 .rw[Vu z,Vu z];lia
 .rw[VA z,VA z];have q:=p6 (k:=k) (n:=4) (by have:=C.k.2 z;lia);have e:(6:Nat) ^ 4=1296:=rfl;have m:2*k*6 ^ k<=8*1296:=V4 (by have:=C.k.2 z;lia) (by lia);lia
section
variable{a K k:Nat}{Q:List aA}
theorem j4.A7(C:j4 af a B K)(z:af=1):(aK B a).length<=1:=by
 subst z;have ha:=C.ha;obtain rfl:a=0:=by lia
 rw[jZ];exact A5 C.s
theorem j4.qY(C:j4 af a B K):(aK B a).length<=6:=by have:=mW B a;have:=C.l;rw[jZ];lia
theorem j4.my(C:j4 af a B K):Ky af (aK B a):=bU (fI C.s C.ha)
theorem j4.mb(C:j4 af a B K):∀t∈aK B a,gP 160 t.2:=fun t ht=>by obtain⟨_,u,hu,e⟩:=mX C.s C.ha ht;rw[e];exact C.b u hu
theorem rF.sk(S:rF af a row B k Q R)(C:j4 af a B K)(hp:aW B a<=aW R a):Ky af (eU R B a):=fun t ht=>by have:=qX S.sR C.ha hp ht;exact⟨this.1,this.2.1⟩
theorem rF.sb(S:rF af a row B k Q R)(C:j4 af a B K)(hp:aW B a<=aW R a):∀t∈eU R B a,gP (160+220*k) t.2:=fun t ht=>by obtain⟨_,_,_,u,hu,e⟩:=qX S.sR C.ha hp ht;rw[e];exact S.bR u hu
theorem rF.sl(S:rF af a row B k Q R)(C:j4 af a B K):(eU R B a).length<=R.length/\(af=1->(eU R B a).length<=1):=by
 have:=mW R a;rw[xE];refine⟨by lia,fun z=>?_⟩;subst z;have ha:=C.ha;obtain rfl:a=0:=by lia
 exact A5 S.sR
theorem vx(S:cy af D):Ky af (qU D a):=fun t ht=>bU S t (qW ht).1
theorem FZ(S:rF af a row B k Q R)(C:j4 af a B K)(hp:aW B a<=aW R a):Ky af (oQ R B a):=qV (gK C.my (vx S.sR)) (N9 _ (gK (S.sk C hp) (vx C.s)))
theorem F0(S:rF af a row B k Q R)(C:j4 af a B K)(hp:aW B a<=aW R a):∀t∈oQ R B a,gx t.1 a<aW R a:=fun t ht=>by
 rcases Wb.mp ht with h|h
 .obtain⟨m,hm,u,hu,rfl⟩:=cL h;show gx (aL m.1 u.1) a<_;rw[gX a (by rw[(C.my m hm).1,(vx S.sR u hu).1])];have:=(mX C.s C.ha hm).1;have:=(qW hu).2;lia
 .obtain⟨v,hv,rfl⟩:=vp h;obtain⟨m,hm,u,hu,rfl⟩:=cL hv;show gx (aL m.1 u.1) a<_;have q:=qX S.sR C.ha hp hm;rw[gX a (by rw[q.1,(vx C.s u hu).1])];have:=q.2.2.1;have:=(qW hu).2;lia
theorem CA(S:rF af a row B k Q R)(C:j4 af a B K):(oQ R B a).length<=rB af (k+1):=by
 unfold oQ;rw[Vr,Jg,cX,cX];have t1:=mW R a;have t2:=mW B a;have l1:=S.lR;have l2:=C.l;have s1:=S.sl C;unfold rB at l1⊢;by_cases z:af=1
 .rw[Vu z]at l1⊢;have m1:=V4 (C.A7 z) (Vo (qU R a).length);have m2:=V4 (s1.2 z) (Vo (qU B a).length);lia
 .rw[VA z]at l1⊢;have m1:=V4 C.qY (Vo (qU R a).length);have m2:=V4 (YY (xE R B a)) (show(qU B a).length<=6 by lia);rw[X5];lia
theorem CB(S:rF af a row B k Q R)(C:j4 af a B K)(hp:aW B a<=aW R a):∀t∈oQ R B a,gP (160+(160+220*k)) t.2:=fun t ht=>by
 rcases Wb.mp ht with h|h
 .obtain⟨m,hm,u,hu,rfl⟩:=cL h;exact(C.mb m hm).mul (S.bR u (qW hu).1)
 .obtain⟨v,hv,rfl⟩:=vp h;obtain⟨m,hm,u,hu,rfl⟩:=cL hv;have:=(S.sb C hp m hm).mul (C.b u (qW hu).1);exact gP.neg (k:=160+(160+220*k)) (x:=m.2*u.2) (gP.mono this (by lia))
theorem A8(C:j4 af a B K)(h:k<=K):rB af k<=93312/\qB af k<=77760:=by
 have:=C.k;unfold rB qB;by_cases z:af=1
 .rw[Vu z,Vu z];lia
 .rw[VA z,VA z];have q:=p6 (k:=k) (n:=5) (by have:=C.k.2 z;lia);have e:(6:Nat) ^ 5=7776:=rfl;have m:2*k*6 ^ k<=10*7776:=V4 (by have:=C.k.2 z;lia) (by lia);lia
theorem rF.step(S:rF af a row B k Q R)(C:j4 af a B K)(hk:k<K)(hp:aW B a<=aW R a):rF af a row B (k+1) (A6 Q R B a) (jj R B a)/\aW (jj R B a) a<aW R a:=by
 have e:=Cy (R:=R) (B:=B) (a:=a) S.sR.len C.s.len C.ha;have ky:=FZ S C hp;have hr0:(0:Int)<=aW R a:=ZW (zz C.s C.ne) hp;have hr:dR 0=true:=rfl;have bl:=A8 C (k:=k+1) hk;have lr:=CA S C;have nb:=nW (r:=0) (af:=af) (P:=oQ R B a) hr (by lia) (fun t ht=>(ky t ht).1) (CB S C hp) (by lia);have kq:Ky af (d! 0 (aO (aK B a) Q)):=FW (gK C.my (bU S.sQ));have qZ:=qV kq (S.sk C hp);have lq:(d! 0 (aO (aK B a) Q)++eU R B a).length<=qB af (k+1):=by
  have n1:=gJ (r:=0) (aO (aK B a) Q);rw[cX]at n1;have s1:=S.sl C;have l1:=S.lR;have l2:=S.lQ;rw[Vr];unfold qB at l2⊢;unfold rB at l1;by_cases z:af=1
  .rw[Vu z]at l2⊢;have:=V4 (C.A7 z) (Vo Q.length);have:=s1.2 z;lia
  .rw[VA z]at l1 l2⊢;have m:=V4 C.qY l2;have e:2*(k+1)*6 ^ (k+1)=6*(2*k*6 ^ k)+12*6 ^ k:=by rw[X5,Nat.mul_add,Nat.add_mul,YW 6,Yl (6 ^ k) 6];lia
   lia
 have pl:(aO (aK B a) Q).length<=6*15552:=by rw[cX];exact V4 C.qY (Vx S.lQ (Kv C hk).2)
 have qb:=nW (r:=0) (af:=af) (b:=160+(160+220*k)) (P:=aO (aK B a) Q) hr (by lia) (fun t ht=>(gK C.my (bU S.sQ) t ht).1) (fun t ht=>by
  obtain⟨m,hm,u,hu,rfl⟩:=cL ht;exact(C.mb m hm).mul (S.bQ u hu)) (by lia)
 refine⟨⟨Cz S.kept,?_,lI qZ,?_,Vx (gJ _) lq,?_,?_⟩,?_⟩
 .rw[e];exact lI ky
 .rw[e];exact Vx (gJ _) lr
 .rw[e];exact fun t ht=>(nb t ht).2.mono (by lia)
 .have:=nW (r:=0) (af:=af) (b:=160+(160+220*k)+21) (P:=d! 0 (aO (aK B a) Q)++eU R B a) hr (by lia) (fun t ht=>(qZ t ht).1) (fun t ht=>by
   rcases Wb.mp ht with h|h
   .exact(qb t h).2
   .exact(S.sb C hp t h).mono (by lia)) (by lia)
  exact fun t ht=>(this t ht).2.mono (by lia)
 .rw[e];refine FY (fun t ht=>?_) hr0;obtain⟨u,hu,e⟩:=vq ht;rw[<-e];exact F0 S C hp u hu
end
def Ap(s s':ai):Prop:=∃g,s'=s++g
theorem Ap.trans{s:ai}(h:Ap s s1)(k:Ap s1 s2):Ap s s2:=by obtain⟨g,rfl⟩:=h;obtain⟨g',rfl⟩:=k;exact⟨g++g',Vs ..⟩
theorem Ap.at{s:ai}{c:aR}(h:Ap s s')(e:s[n]?=some c):s'[n]?=some c:=by obtain⟨g,rfl⟩:=h;exact jW e g
theorem Ap.len{s:ai}(h:Ap s s'):s.length<=s'.length:=by obtain⟨g,rfl⟩:=h;rw[Vr];lia
theorem fD.mk'{s:ai}{F:cD ao}(h:∃g k,F=.ok (.loc k) (s++g)/\s.length<=k/\(s++g)[k]?=some (.lst (D.map tV))):∃k s',F=.ok (.loc k) s'/\fD s s' k D:=by obtain⟨g,k,e,l,a⟩:=h;exact⟨k,_,e,⟨g,rfl⟩,l,a⟩
theorem fD.ap{s:ai}{k:Nat}(h:fD s s' k D):Ap s s':=h.1
section
variable{s:ai}{a:Nat}{A:List aA}
theorem nX(h:s[p]?=some (.lst (D.map tV)))(hl:D.length<=1000000)(S:cy af D)(ha:a<af):∃s',PM.cW [.loc p,.int (a:Int)] s=.ok (.int (aW D a)) s'/\Ap s s':=⟨_,oO (aU h) hl S ha,_,rfl⟩
theorem F1(h:s[p]?=some (.lst (D.map tV)))(hl:D.length<=1000000)(S:cy af D)(ha:a<af)(h4:af<=4):∃k s',PM.gk [.loc p,.int (a:Int)] s=.ok (.loc k) s'/\fD s s' k (aK D a):=by refine⟨_,_,y! (aU h) hl S ha h4,⟨_,rfl⟩,by lia,?_⟩;rw[Vv (by lia),show s.length+1-s.length=1 by lia];rfl
theorem q9(hp:s[p]?=some (.lst (A.map tV)))(hq:s[q]?=some (.lst (B.map tV)))(h1:1<=af)(h4:af<=4)(hA:Ky af A)(hB:Ky af B){b c:Nat}(bA:∀t∈A,gP b t.2)(bB:∀t∈B,gP c t.2)(b1:b<=1000000)(c1:c<=1000000)(hl:A.length*B.length<1000000):∃k s',PM.times [.int 0,.loc p,.loc q] s=.ok (.loc k) s'/\fD s s' k (d! 0 (aO A B)):=
 fD.mk' (FH (r:=0) rfl (aU hp) (aU hq) h1 h4 (fun t ht=>(hA t ht).1) (fun t ht=>(hB t ht).1) (fun x hx y hy=>g8 (bA x hx) (bB y hy) b1 c1) hl)
theorem A9{P:List aA}{b:Nat}(h:Ky af P)(hb:∀t∈P,gP b t.2):Kr af (d! 0 P) (P.length*2 ^ b+0):=AU (B:=2 ^ b) (Int.le_of_lt (Int.pow_pos (by decide))) (XG 0) (fun t ht=>(h t ht).1) fun t ht=>N0 (hb t ht)
abbrev Vk:ME:=cq (aa (ah PM.cS (aa (ae 0) (aa (ae 3) (aa (ak a8 (ak cw (ae 0) (ae 3)) (ae 2)) aj)))) (aa (ae 1) aj))
theorem CC{v:Int}(h:s[p]?=some (.lst (D.map tV)))(hl:D.length<=1000000)(hD:∀t∈D,t.1.length=af)(ha:a<af)(h4:af<=4):∃k s',PM.nQ [.loc p,.int (a:Int),.int v] s=.ok (.loc k) s'/\fD s s' k (qT D a v):=by
 have cl:dN (fun av=>aq av p=some (D.map tV)) (bX [au 0,au 1]) aV Vk (D.map tV) [none,none,some (.int v),some (.int (a:Int))] s []=.ok ((qT D a v).map tV) s:=by
  have:=cz (a:=bX [au 0,au 1]) (c:=aV) (e:=Vk) (g:=fun av=>aq av p=some (D.map tV)) (aU h) (fun τ=>∃x y,τ=[x,y,some (.int v),some (.int (a:Int))]) (fun _=>true) (fun w=>tV (iJ (oN w).1 a (eJ a (oN w)+v),(oN w).2)) (D.map tV) [none,none,some (.int v),some (.int (a:Int))] [] ⟨_,_,rfl⟩ ?_
  .rw[this,VM];congr 1;unfold qT;rw[WL.mpr fun _ _=>rfl,VN,VN];refine V7 fun t _=>?_;show tV (iJ (oN (tV t)).1 a (eJ a (oN (tV t))+v),(oN (tV t)).2)=_;rw[jh];rfl
  .rintro u hu τ ⟨x,y,rfl⟩;obtain⟨t,ht,rfl⟩:=VH.mp hu;have hl:=hD t ht;refine⟨[some (ax t.1),some (.int t.2),some (.int v),some (.int (a:Int))],rfl,⟨_,_,rfl⟩,rfl,fun _=>?_⟩;rw[jh];have e0:ak cw (ae 0) (ae 3) [some (ax t.1),some (.int t.2),some (.int v),some (.int (a:Int))] s=.ok (.int (eJ a t)) s:=by show cw (ax t.1) (.int (a:Int)) s=_;exact y_ (by lia) s
   have e1:ah PM.cS (aa (ae 0) (aa (ae 3) (aa (ak a8 (ak cw (ae 0) (ae 3)) (ae 2)) aj))) [some (ax t.1),some (.int t.2),some (.int v),some (.int (a:Int))] s=.ok (ax (iJ t.1 a (eJ a t+v))) s:=by rw[aw (dC (v:=ax t.1) (s1:=s) rfl (bT (v:=.int (a:Int)) (s1:=s) rfl (w:=.int (eJ a t+v)) (s2:=s) (by rw[aS e0 (y:=.int v) (s2:=s) rfl];rfl)))];exact kI (by lia) (by lia) s
   exact qJ (bT e1 (w:=.int t.2) (s2:=s) rfl) (by show 2<=1000;decide)
 refine⟨s.length,s++[.lst ((qT D a v).map tV)],?_,⟨_,rfl⟩,Vo _,by rw[Vv (Vo _),Wj];rfl⟩;unfold PM.nQ;rw[bw (np:=3) (us:=[ao.loc p,.int (a:Int),.int v]) rfl];show(aP (bz 2 [2,1] (bJ (ae 0)) (bX [au 0,au 1]) aV Vk) [some (.loc p),some (.int (a:Int)),some (.int v)] s).fin=_;have wA:jy 2 [2,1] [some (ao.loc p),some (.int (a:Int)),some (.int v)]=[none,none,some (.int v),some (.int (a:Int))]:=rfl;have v0:ae 0 [some (ao.loc p),some (.int (a:Int)),some (.int v)] s=.ok (.loc p) s:=rfl;rw[ba,fm,b_,v0,ar,bI (aU h),ar,gG,Vu (by rw[Vm,VT];lia),wA,cl,ar,jd];rfl
end
abbrev CV(i:Nat):ME:=ah PM.cW (aa (ae i) (aa (ae 2) aj))
abbrev rT:MT:=bO (ak ET (CV 7) (CV 1))
abbrev rB8:ME:=ah PM.nQ (aa (ah PM.gk (aa (ae 7) (aa (ae 2) aj))) (aa (ae 2) (aa (ak jH (CV 7) (CV 1)) aj)))
abbrev Gw(i j:Nat):ME:=ah PM.times (aa (mC (.int 0)) (aa (ae i) (aa (ae j) aj)))
abbrev rBd:MB:=aB (aG 8 rB8) (aB (aG 6 (ah PM.plus (aa (mC (.int 0)) (aa (Gw 3 6) (aa (ae 8) aj))))) (aB (aG 7 (ah PM.minus (aa (mC (.int 0)) (aa (Gw 3 7) (aa (Gw 8 1) aj))))) (HY 4 MK (mC (.int 1)))))
section
variable{a K k m f0 kq kr:Nat}{Q:List aA}{s:ai}{l:Int}{x5 x8 x9:Option ao}
theorem F3(C:j4 af a B K)(S:rF af a row B k Q R)(hk:k<=K)(hq:s[q]?=some (.lst (B.map tV)))(h7:s[kr]?=some (.lst (R.map tV))){x3 x6:Option ao}:
  ∃s1,rT [x0,some (.loc q),some (.int (a:Int)),x3,x4,x5,x6,some (.loc kr),x8,x9] s=.ok (decide (aW B a<=aW R a)) s1/\Ap s s1:=by
 have lB:=C.l;have lR:=Vx S.lR (A8 C hk).1;obtain⟨s1,e1,a1⟩:=nX h7 (by lia) S.sR C.ha;obtain⟨s2,e2,a2⟩:=nX (a1.at hq) (by lia) C.s C.ha;refine⟨s2,cU ?_,a1.trans a2⟩;rw[aS (show CV 7 _ s=.ok (.int (aW R a)) s1 from(aw (bT (v:=.loc kr) (s1:=s) rfl (w:=.int (a:Int)) (s2:=s) rfl)).trans e1) (show CV 1 _ s1=.ok (.int (aW B a)) s2 from(aw (bT (v:=.loc q) (s1:=s1) rfl (w:=.int (a:Int)) (s2:=s1) rfl)).trans e2)];rfl
theorem N_(C:j4 af a B K)(S:rF af a row B k Q R)(hk:k<K)(hp:aW B a<=aW R a)(hq:s[q]?=some (.lst (B.map tV)))(hm:s[m]?=some (.lst ((aK B a).map tV)))(h6:s[kq]?=some (.lst (Q.map tV)))(h7:s[kr]?=some (.lst (R.map tV))):
    ∃s' qZ vz k8,rBd [x0,some (.loc q),some (.int (a:Int)),some (.loc m),some (.int l),x5,some (.loc kq),some (.loc kr),x8,x9] s=.nx [x0,some (.loc q),some (.int (a:Int)),some (.loc m),some (.int (l-1)),x5,some (.loc qZ),some (.loc vz),some (.loc k8),x9] s'/\Ap s s'/\s'[qZ]?=some (.lst ((A6 Q R B a).map tV))/\s'[vz]?=some (.lst ((jj R B a).map tV))/\s.length<=qZ/\qZ<vz:=by
  have lB:=C.l;have h4:=C.h4;have ha:=C.ha;have bd:=Kv C hk;have lR:=Vx S.lR bd.1;have lQ:=Vx S.lQ bd.2;have kk:=C.k.1;have m6:=C.qY;have sl:=(S.sl C).1;have sk:=S.sk C hp;have sb:=S.sb C hp;have F4:∀{x y:Nat},x<=6->y<=15552->x*y<=93312:=fun h1 h2=>V4 h1 h2;have Kw:∀{x y:Nat},y<=6->x<=15552->x*y<=93312:=fun h1 h2=>by rw[Yl];exact F4 h1 h2
  obtain⟨k1,s1,e1,n1⟩:=F1 h7 (by lia) S.sR ha h4;obtain⟨s2,e2,a2⟩:=nX (n1.old h7) (by lia) S.sR ha;obtain⟨s3,e3,a3⟩:=nX (a2.at (n1.old hq)) (by lia) C.s ha;have CD:=n1.ap.trans (a2.trans a3);have mR:=mW R a;obtain⟨k8,s4,e4,n4⟩:=CC (v:=aW R a-aW B a) ((a2.trans a3).at n1.2.2) (by rw[jZ];lia) (fI S.sR ha).len ha h4;have n4:fD s3 s4 k8 (eU R B a):=n4;have SM:=CD.trans n4.ap;obtain⟨k5,s5,e5,n5⟩:=q9 (SM.at hm) (SM.at h6) (by lia) h4 C.my (bU S.sQ) C.mb S.bQ (by decide) (by lia) (Wd (F4 m6 lQ) (by decide));have kQ:=gK C.my (bU S.sQ);have sQ:=A9 kQ (b:=160+(160+220*k)) fun t ht=>by obtain⟨u,hu,w,hw,rfl⟩:=cL ht;exact(C.mb u hu).mul (S.bQ w hw)
  have nl1:=gJ (r:=0) (aO (aK B a) Q);rw[cX]at nl1;have:=F4 m6 lQ;obtain⟨k6,s6,e6,n6⟩:=fD.mk' (Jj (r:=0) rfl n5.it (n5.zi n4.it) (by lia) sQ (fun t ht=>(sk t ht).1) (by lia));have n6:fD s5 s6 k6 (A6 Q R B a):=n6;have OM:=SM.trans (n5.ap.trans n6.ap);obtain⟨k7,s7,e7,n7⟩:=q9 (OM.at hm) (OM.at h7) (by lia) h4 C.my (bU S.sR) C.mb S.bR (by decide) (by lia) (Wd (F4 m6 lR) (by decide));have a47:=n5.ap.trans (n6.ap.trans n7.ap);obtain⟨k9,s8,e8,n8⟩:=q9 (a47.at n4.2.2) ((OM.trans n7.ap).at hq) (by lia) h4 sk (bU C.s) sb C.b (by lia) (by decide) (Wd (Kw lB (by lia)) (by decide));have kR:=gK C.my (bU S.sR);have sR:=A9 kR (b:=160+(160+220*k)) fun t ht=>by obtain⟨u,hu,w,hw,rfl⟩:=cL ht;exact(C.mb u hu).mul (S.bR w hw)
  have nl2:=gJ (r:=0) (aO (aK B a) R);have nl3:=gJ (r:=0) (aO (eU R B a) B);rw[cX]at nl2 nl3;have:=F4 m6 lR;have:=Kw lB (Vx sl lR);obtain⟨k10,s9,e9,n9⟩:=fD.mk' (Fq (r:=0) rfl (n8.zi n7.it) n8.it (by lia) sR (fun t ht=>(FW (gK sk (bU C.s)) t ht).1) (by lia));have n9:fD s8 s9 k10 (jj R B a):=n9;have a69:=n7.ap.trans (n8.ap.trans n9.ap);refine⟨s9,k6,k10,k8,?_,OM.trans a69,a69.at n6.2.2,n9.2.2,Vx (SM.trans n5.ap).len n6.2.1,?_⟩
  · have c8:rB8 [x0,some (.loc q),some (.int (a:Int)),some (.loc m),some (.int l),x5,some (.loc kq),some (.loc kr),x8,x9] s=.ok (.loc k8) s4:=by
      refine(aw (dC (show ah PM.gk _ _ s=.ok (.loc k1) s1 by rw[aw (bT (v:=.loc kr) (s1:=s) rfl (w:=.int (a:Int)) (s2:=s) rfl)];exact e1) (bT (v:=.int (a:Int)) (s1:=s1) rfl (w:=.int (aW R a-aW B a)) (s2:=s3) (by
        rw[aS (show CV 7 _ s1=.ok (.int (aW R a)) s2 from(aw (bT (v:=.loc kr) (s1:=s1) rfl (w:=.int (a:Int)) (s2:=s1) rfl)).trans e2) (show CV 1 _ s2=.ok (.int (aW B a)) s3 from(aw (bT (v:=.loc q) (s1:=s2) rfl (w:=.int (a:Int)) (s2:=s2) rfl)).trans e3)];rfl)))).trans e4
    show aB (aG 8 rB8) _ _ s=_;rw[ay,bj c8,az];show(aB (aG 6 _) _ [x0,some (.loc q),some (.int (a:Int)),some (.loc m),some (.int l),x5,some (.loc kq),some (.loc kr),some (.loc k8),x9] s4)=_;rw[ay,bj (show ah PM.plus _ _ s4=.ok (.loc k6) s6 by
      rw[aw (dC (v:=.int 0) (s1:=s4) rfl (bT (show Gw 3 6 _ s4=.ok (.loc k5) s5 from(aw (dC (v:=.int 0) (s1:=s4) rfl (bT (v:=.loc m) (s1:=s4) rfl (w:=.loc kq) (s2:=s4) rfl))).trans e5) (w:=.loc k8) (s2:=s5) rfl))];exact e6),az]
    show(aB (aG 7 _) _ [x0,some (.loc q),some (.int (a:Int)),some (.loc m),some (.int l),x5,some (.loc k6),some (.loc kr),some (.loc k8),x9] s6)=_;rw[ay,bj (show ah PM.minus _ _ s6=.ok (.loc k10) s9 by
      rw[aw (dC (v:=.int 0) (s1:=s6) rfl (bT (show Gw 3 7 _ s6=.ok (.loc k7) s7 from(aw (dC (v:=.int 0) (s1:=s6) rfl (bT (v:=.loc m) (s1:=s6) rfl (w:=.loc kr) (s2:=s6) rfl))).trans e7) (show Gw 8 1 _ s7=.ok (.loc k9) s8 from(aw (dC (v:=.int 0) (s1:=s7) rfl (bT (v:=.loc k8) (s1:=s7) rfl (w:=.loc q) (s2:=s7) rfl))).trans e8)))];exact e9),az]
    rfl
  · have:=ji n6.2.2;have:=(n7.ap.trans n8.ap).len;have:=n9.2.1;lia
end
inductive Rv(af a:Nat)(row B:List aA)(K:Nat):Nat->List aA->List aA->Nat->List aA->List aA->Prop where
 |stop {k:Nat} {Q R:List aA} (S:rF af a row B k Q R) (hk:k<=K) (h:¬ aW B a<=aW R a):Rv af a row B K k Q R k Q R
 |more {k k':Nat} {Q R Q' R':List aA} (S:rF af a row B k Q R) (hk:k<K) (h:aW B a<=aW R a) (V:Rv af a row B K (k+1) (A6 Q R B a) (jj R B a) k' Q' R'):Rv af a row B K k Q R k' Q' R'
section
variable{a K:Nat}
theorem Rq(C:j4 af a B K):∀(n k:Nat)(Q R:List aA),K-k=n->k<=K->rF af a row B k Q R->aW R a-aW B a+1<=((K-k:Nat):Int)->∃k' Q' R',Rv af a row B K k Q R k' Q' R':=by
 intro n
 induction n with
 |zero=>
  intro k Q R h1 h2 S h3;exact⟨k,Q,R,.stop S h2 (by lia)⟩
 |succ n ih=>
  intro k Q R h1 h2 S h3;by_cases z:aW B a<=aW R a
  .obtain⟨S',lt⟩:=S.step C (by lia) z;obtain⟨k',Q',R',V⟩:=ih (k+1) _ _ (by lia) (by lia) S' (by lia);exact⟨k',Q',R',.more S (by lia) z V⟩
  .exact⟨k,Q,R,.stop S h2 z⟩
theorem Rv.last{k k':Nat}{Q Q' R':List aA}(V:Rv af a row B K k Q R k' Q' R'):rF af a row B k' Q' R'/\k'<=K/\aW R' a<aW B a/\k<=k':=by
 induction V with
 |stop S hk h=>exact⟨S,hk,by lia,Vo _⟩
 |more S hk h V ih=>exact⟨ih.1,ih.2.1,ih.2.2.1,by have:=ih.2.2.2;lia⟩
theorem F5(C:j4 af a B K){k k':Nat}{Q Q' R':List aA}(V:Rv af a row B K k Q R k' Q' R'):∀{s:ai}{q m kq kr:Nat}{l:Int}{x0 x5 x8:Option ao},s[q]?=some (.lst (B.map tV))->s[m]?=some (.lst ((aK B a).map tV))->s[kq]?=some (.lst (Q.map tV))->s[kr]?=some (.lst (R.map tV))->∀L,L<=kq->kq<kr ->
  ∃n s' qZ vz x8',fP rT rBd n [x0,some (.loc q),some (.int (a:Int)),some (.loc m),some (.int l),x5,some (.loc kq),some (.loc kr),x8,none] s=some (.nx [x0,some (.loc q),some (.int (a:Int)),some (.loc m),some (.int (l-((k'-k:Nat):Int))),x5,some (.loc qZ),some (.loc vz),x8',none] s')/\Ap s s'/\s'[qZ]?=some (.lst (Q'.map tV))/\s'[vz]?=some (.lst (R'.map tV))/\L<=qZ/\qZ<vz:=by
 induction V with
 |stop S hk h=>
  intro s q m kq kr l x0 x5 x8 hq hm h6 h7 L l1 l2;obtain⟨s1,e1,a1⟩:=F3 (x0:=x0) (x5:=x5) (x8:=x8) (x9:=none) (x3:=some (.loc m)) (x4:=some (.int l)) (x6:=some (.loc kq)) C S hk hq h7;refine⟨1,s1,kq,kr,x8,?_,a1,a1.at h6,a1.at h7,l1,l2⟩;unfold fP;rw[e1,VR h,Wj];show some (c6.nx _ s1)=_;rw[show l-((0:Nat):Int)=l by lia]
 | @more k k' Q R Q' R' S hk h V ih=>
  intro s q m kq kr l x0 x5 x8 hq hm h6 h7 L l1 l2;obtain⟨s1,e1,a1⟩:=F3 (x0:=x0) (x5:=x5) (x8:=x8) (x9:=none) (x3:=some (.loc m)) (x4:=some (.int l)) (x6:=some (.loc kq)) C S (X6 hk) hq h7;obtain⟨s2,kq2,kr2,k8,e2,a2,h62,h72,g1,g2⟩:=N_ (x0:=x0) (x5:=x5) (x8:=x8) (x9:=none) (l:=l) C S hk h (a1.at hq) (a1.at hm) (a1.at h6) (a1.at h7);have ON:=a1.trans a2;have:=ji h6;have:=a1.len;obtain⟨n,s',qZ,vz,x8',e3,a3,r1,r2,r3,r4⟩:=ih (x0:=x0) (x5:=x5) (x8:=some (.loc k8)) (l:=l-1) (ON.at hq) (ON.at hm) h62 h72 L (by lia) g2;refine⟨n+1,s',qZ,vz,x8',?_,ON.trans a3,r1,r2,r3,r4⟩;unfold fP;rw[e1,VV h];dsimp only;rw[e2];dsimp only;rw[e3];have:=V.last.2.2.2;rw[show l-1-((k'-(k+1):Nat):Int)=l-((k'-k:Nat):Int) by lia]
end
theorem xF:∀k:_S,aL (vh k.length) k=k
 |[]=>rfl
 |x::k=>by show(0+x)::aL (vh k.length) k=_;rw[xF k,Xs]
theorem vA(h:∀t∈D,t.1.length=af):aO [(vh af,1)] D=D:=by
 show D.map (fun t=>(aL (vh af) t.1,1*t.2))++[]=D;rw[VZ]
 conv=>rhs;rw[<-Yv D]
 refine V7 fun t ht=>?_;rw[<-h t ht,xF,Z6];rfl
def j5(af:Nat)(X:List aA):Nat->List aA
 |0=>[(vh af,1)]
 |n+1=>jA 0 X n
theorem zA{af:Nat}{X:List aA}(h:∀t∈X,t.1.length=af):∀(n:Nat)(f:_S->Int),bx f (j5 af X n)=bx f (Gv af X n)
 |0,f=>rfl
 |1,f=>by show bx f X=bx f (aO [(vh af,1)] X);rw[vA h]
 |n+2,f=>by show bx f (d! 0 (aO (jA 0 X n) X))=bx f (aO (Gv af X (n+1)) X);rw[ik,bb,bb];exact zA h (n+1) _
theorem N!(f:_S->Int)(A X:List aA):FV (d! 0 (aO A X)) f=FV A (FV X f):=by funext x;show bx _ (d! 0 (aO A X))=bx (fun p=>bx (fun m=>f (aL m (aL p x))) X) _;rw[ik,bb];refine fK fun p _=>fK fun m _=>?_;show f (aL (aL p.1 m.1) x)=_;rw[join_comm p.1,iA]
theorem A_(af:Nat)(X:List aA)(k:Nat):∀(n:Nat)(f:_S->Int),FV (Gv af X (k+n+1)) f=FV (Gv af X k) (FV (jA 0 X n) f)
 |0,f=>zu f af X k
 |n+1,f=>by rw[show k+(n+1)+1=k+n+1+1 by lia,zu,A_ af X k n];exact Xg (FV (Gv af X k)) (N! f (jA 0 X n) X).symm
theorem F6{k:Nat}{X Q:List aA}(h:Kept af X row B Q R k):Kept af X row B (d! 0 (aO (jA 0 X n) Q)) (d! 0 (aO (jA 0 X n) R)) (k+n+1):=fun f=>by
 rw[gA,A_,<-gA,h,<-gA,<-gA,ik];have e1:bx f (aO (jA 0 X n) (aO Q B))=bx f (aO (aO (jA 0 X n) Q) B):=by have:=nU (r:=0) (jA 0 X n) Q B f;rw[Jt,Jt]at this;exact this.symm
 have e2:bx f (aO (d! 0 (aO (jA 0 X n) Q)) B)=bx f (aO (aO (jA 0 X n) Q) B):=by rw[bb,ik,<-bb]
 rw[e1,e2]
section
variable{a K:Nat}
theorem j4.pw6(C:j4 af a B K)(h:n<=K):(aK B a).length ^ n<=7776:=by
 by_cases z:af=1
 .exact Vx (X1 (C.A7 z) n) (by rw[Nat.one_pow];decide)
 .exact Vx (X1 C.qY n) (p6 (n:=5) (by have:=C.k.2 z;lia))
theorem j4.OO(C:j4 af a B K)(h:n+1<=K):Rm af (aK B a) n:=⟨fun t ht=>(C.my t ht).1,C.mb,fun j hj=>by have:=C.pw6 (n:=j+1) (by lia);lia,by have:=C.k.1;lia⟩
theorem j4.mis(C:j4 af a B K){k:Nat}(h:k+n+1<=K):(jA 0 (aK B a) n).length*rB af k<=93312/\(jA 0 (aK B a) n).length*qB af k<=77760:=by
 have l:=(kJ (r:=0) rfl (C.OO (n:=n) (by lia)) n (Vo n)).1;unfold rB qB;by_cases z:af=1
 .rw[Vu z,Vu z];have l':(jA 0 (aK B a) n).length<=1:=Vx l (Vx (X1 (C.A7 z) _) (by rw[Nat.one_pow];decide));have kk:=C.k.1;exact⟨Vx (V4 l' (Vo _)) (by lia),Vx (V4 l' (Vo _)) (by lia)⟩
 .rw[VA z,VA z];have l':=Vx l (X1 C.qY (n+1));have kk:=C.k.2 z;have q:6 ^ (n+1)*6 ^ k<=7776:=by rw[<-Ze];exact p6 (n:=5) (by lia)
  refine⟨Vx (V4 l' (Vo _)) ?_,Vx (V4 l' (Vo _)) ?_⟩
  .rw[YW];lia
  .rw[YW];exact Vx (V4 (show 2*k<=10 by lia) q) (by decide)
theorem q_{X:List aA}(S:cy af X):∀n,cy af (jA 0 X n)
 |0=>S
 |n+1=>lI (gK (bU (q_ S n)) (bU S))
theorem A!{X:List aA}(S:cy af X)(h:∀t∈X,gx t.1 a=0):∀n,∀t∈jA 0 X n,gx t.1 a=0
 |0=>h
 |n+1=>fun t ht=>by obtain⟨u,hu,e⟩:=vq ht;obtain⟨v,hv,w,hw,rfl⟩:=cL hu;rw[<-e];show gx (aL v.1 w.1) a=0;rw[gX a (by rw[(q_ S n).len v hv,S.len w hw]),A! S h n v hv,h w hw];rfl
structure zB(af a:Nat)(row B:List aA)(K:Nat)(Q R:List aA):Prop where
 kept:∀f,bx f (aO (j5 af (aK B a) K) row)=bx f (aO Q B)+bx f R
 sQ:cy af Q
 sR:cy af R
 lQ:Q.length<=77760
 lR:R.length<=93312
 bQ:∀t∈Q,gP 6000 t.2
 pR:aW R a<aW B a
theorem Jz(C:j4 af a B K):cy af (j5 af (aK B a) K)/\(j5 af (aK B a) K).length<=7776/\∀t∈j5 af (aK B a) K,gP 2200 t.2:=by
 cases K with
 |zero=>
  refine⟨?_,by show 1<=7776;decide,fun t ht=>?_⟩
  .refine⟨YE ..,fun t ht=>?_,fun t ht e he=>?_,fun t ht=>?_⟩
   .rw[V0.mp ht];exact We
   .rw[V0.mp ht]at he;rw[List.eq_of_mem_replicate he];exact XG 0
   .rw[V0.mp ht];exact Int.one_ne_zero
  .rw[V0.mp ht];exact pK (by decide)
 |succ n=>
  have q:=kJ (r:=0) rfl (C.OO (n:=n) (Vo _)) n (Vo n);refine⟨q_ (fI C.s C.ha) n,Vx q.1 (C.pw6 (Vo _)),fun t ht=>(q.2 t ht).2.mono (by have:=C.k.1;lia)⟩
theorem zC(C:j4 af a B K){Q:List aA}(S:rF af a row B K Q R)(h:aW R a<aW B a):zB af a row B K Q R:=by have kk:=C.k.1;refine⟨fun f=>?_,S.sQ,S.sR,Vx S.lQ (A8 C (Vo _)).2,Vx S.lR (A8 C (Vo _)).1,fun t ht=>(S.bQ t ht).mono (by lia),h⟩;rw[<-S.kept f,bb,bb];exact zA (fun t ht=>(C.my t ht).1) K _
theorem zD(C:j4 af a B K){k:Nat}(e:k+n+1=K){Q:List aA}(S:rF af a row B k Q R)(h:aW R a<aW B a):zB af a row B K (d! 0 (aO (jA 0 (aK B a) n) Q)) (d! 0 (aO (jA 0 (aK B a) n) R)):=by
 have kk:=C.k.1;have pm:=q_ (fI C.s C.ha) n;have pb:=kJ (r:=0) rfl (C.OO (n:=n) (by lia)) n (Vo n);have ms:=C.mis (n:=n) (k:=k) (by lia);have l1:=Vx (V4 (Vo _) S.lQ) ms.2;have l2:=Vx (V4 (Vo _) S.lR) ms.1;have kQ:=gK (bU pm) (bU S.sQ);refine⟨fun f=>?_,lI kQ,lI (gK (bU pm) (bU S.sR)),?_,?_,?_,?_⟩
 .rw[<-F6 S.kept f,e,bb,bb];exact zA (fun t ht=>(C.my t ht).1) K _
 .exact Vx (gJ _) (by rw[cX];exact l1)
 .exact Vx (gJ _) (by rw[cX];exact l2)
 .have:=nW (r:=0) (af:=af) (b:=200*(n+1)+(160+220*k)) (P:=aO (jA 0 (aK B a) n) Q) rfl (by rw[cX];lia) (fun t ht=>(kQ t ht).1) (fun t ht=>by
   obtain⟨u,hu,w,hw,rfl⟩:=cL ht;exact((pb.2 u hu).2).mul (S.bQ w hw)) (by lia)
  exact fun t ht=>(this t ht).2.mono (by lia)
 .refine FY (fun t ht=>?_) (zz C.s C.ne);obtain⟨u,hu,e⟩:=vq ht;obtain⟨v,hv,w,hw,rfl⟩:=cL hu;rw[<-e];show gx (aL v.1 w.1) a<_;rw[gX a (by rw[pm.len v hv,S.sR.len w hw]),A! (fI C.s C.ha) (fun t ht=>(mX C.s C.ha ht).1) n v hv];have:=FX (a:=a) hw;lia
end
theorem Ap.tab{s:ai}{q:Str}{l c:Nat}(h:Ap s s')(t:g? s x l c q):g? s' x l c q:=by obtain⟨g,rfl⟩:=h;exact qO t g
theorem oR{M:eQ}{s:ai}{b a:Nat}(hb:aq s b=some []):PM.cP M [.loc p,.loc b,.int (a:Int)] s=.err "ByNought" s:=by
 unfold PM.cP;rw[bw (np:=3) (us:=[ao.loc p,.loc b,.int (a:Int)]) rfl];show(aB (fw (bO (ak fZ (ah fe (aa (ae 1) aj)) (mC (.int 0)))) (kW "ByNought" (aa (mC (.str "no rest is left by nought")) aj)) aX) _ [some (.loc p),some (.loc b),some (.int (a:Int)),none,none,none,none,none,none,none] s).fin=_;have t:bO (ak fZ (ah fe (aa (ae 1) aj)) (mC (.int 0))) [some (.loc p),some (.loc b),some (.int (a:Int)),none,none,none,none,none,none,none] s=.ok true s:=by refine cU ?_;rw[oP (show ah fe (aa (ae 1) aj) [some (.loc p),some (.loc b),some (.int (a:Int)),none,none,none,none,none,none,none] s=.ok (.int 0) s by rw[aw (d8 (v:=.loc b) (s1:=s) rfl),mE hb];rfl)];rfl
 rw[ay,jX t];rfl
abbrev aaa(M:eQ):MB:=aB (fw (bO (ak Gn (ae 4) (mC (.int 0)))) (aB (aG 9 (ah (PM.raised M) (aa (mC (.int 0)) (aa (ae 3) (aa (ae 4) aj))))) (aB (aG 6 (Gw 9 6)) (aG 7 (Gw 9 7)))) aX) (aP (cq (aa (ae 5) (aa (ae 6) (aa (ae 7) aj)))))
section
variable{a K:Nat}{s:ai}{M:eQ}
theorem vB{μ:MN.Env}{l:Int}{s:ai}(h:ae 4 μ s=.ok (.int l) s):bO (ak Gn (ae 4) (mC (.int 0))) μ s=.ok (decide (0<l)) s:=by refine cU ?_;rw[aS h (y:=.int 0) (s2:=s) rfl];rfl
theorem A?(C:j4 af a B K)(hK:K=(aW row a-aW B a+1).toNat)(sr:cy af row)(lr:row.length<=12)(tJ:M.S.ps.length=2)(ht:g? s M.own M.line M.col M.S.qual)(hp:s[p]?=some (.lst (row.map tV)))(hq:s[q]?=some (.lst (B.map tV))):
  ∃s' m f kq kr,Ap s s'/\s'[m]?=some (.lst ((aK B a).map tV))/\s'[f]?=some (.lst ((j5 af (aK B a) K).map tV))/\s'[kq]?=some (.lst (([]:List aA).map tV))/\s'[kr]?=some (.lst (row.map tV))/\s.length<=f/\f<kq/\kq<kr /\
   PM.cP M [.loc p,.loc q,.int (a:Int)] s=(aB (nE rT rBd) (aaa M) [some (.loc p),some (.loc q),some (.int (a:Int)),some (.loc m),some (.int (aW row a-aW B a+1)),some (.loc f),some (.loc kq),some (.loc kr),none,none] s').fin:=by
 have lB:=C.l;have h4:=C.h4;have ha:=C.ha;obtain⟨m,s1,e1,n1⟩:=F1 hq (by lia) C.s ha h4;obtain⟨s2,e2,a2⟩:=nX (n1.old hp) (by lia) sr ha;obtain⟨s3,e3,a3⟩:=nX (a2.at (n1.old hq)) (by lia) C.s ha;have Kx:=a2.trans a3;have CD:=n1.ap.trans Kx;have fac:∃f s4,Ox (bO (ak Gn (ae 4) (mC (.int 0)))) (ah (PM.raised M) (aa (mC (.int 0)) (aa (ae 3) (aa (ae 4) aj)))) (ah PM.constant (aa (mC (.int 0)) (aa (ah fe (aa (ak cw (ak cw (ae 1) (mC (.int 0))) (mC (.int 0))) aj)) (aa (mC (.int 1)) aj)))) [some (.loc p),some (.loc q),some (.int (a:Int)),some (.loc m),some (.int (aW row a-aW B a+1)),none,none,none,none,none] s3=.ok (.loc f) s4/\fD s3 s4 f (j5 af (aK B a) K):=by
  have Gu:=vB (l:=aW row a-aW B a+1) (s:=s3) (μ:=[some (.loc p),some (.loc q),some (.int (a:Int)),some (.loc m),some (.int (aW row a-aW B a+1)),none,none,none,none,none]) rfl;cases K with
  |zero=>
   obtain⟨t,B',rfl⟩:∃t B',B=t::B':=by
    cases B with
    |nil=>exact absurd rfl C.ne
    |cons t B'=>exact⟨t,B',rfl⟩
   obtain⟨f,s4,e4,n4⟩:=fD.mk' (xA (st:=s3) (r:=0) (n:=1) rfl (by lia) h4);refine⟨f,s4,?_,n4⟩;rw[AA,Gu,VR (by lia),ar,AD];have hq3:=aU (CD.at hq);have x1:ak cw (ae 1) (mC (.int 0)) [some (.loc p),some (.loc q),some (.int (a:Int)),some (.loc m),some (.int (aW row a-aW (t::B') a+1)),none,none,none,none,none] s3=.ok (tV t) s3:=by rw[aS (x:=.loc q) (s1:=s3) rfl (y:=.int 0) (s2:=s3) rfl];exact nL hq3 (iu (j:=0) rfl)
   have x2:ah fe (aa (ak cw (ak cw (ae 1) (mC (.int 0))) (mC (.int 0))) aj) [some (.loc p),some (.loc q),some (.int (a:Int)),some (.loc m),some (.int (aW row a-aW (t::B') a+1)),none,none,none,none,none] s3=.ok (.int (af:Int)) s3:=by rw[aw (d8 (v:=ax t.1) (s1:=s3) (by rw[aS x1 (y:=.int 0) (s2:=s3) rfl];rfl))];show cD.ok (ao.int (((t.1.map ao.int).length:Nat):Int)) s3=_;rw[Vm,C.s.len t VO]
   rw[aw (dC (v:=.int 0) (s1:=s3) rfl (bT x2 (w:=.int 1) (s2:=s3) rfl))];exact e4
  |succ n=>
   obtain⟨f,s4,e4,n4⟩:=fD.mk' (ue (r:=0) (n:=n+1) tJ rfl (aU (Kx.at n1.2.2)) (by lia) h4 (by lia) (C.OO (n:=n) (Vo _)) (CD.tab ht));refine⟨f,s4,?_,n4⟩;rw[AA,Gu,VV (by lia),ar,AB,aw (dC (v:=.int 0) (s1:=s3) rfl (bT (v:=.loc m) (s1:=s3) rfl (w:=.int (aW row a-aW B a+1)) (s2:=s3) rfl))];rw[show aW row a-aW B a+1=((n+1:Nat):Int) by lia];exact e4
 obtain⟨f,s4,e4,n4⟩:=fac;obtain⟨s5,SN⟩:∃s5,s5=s4++[aR.lst []]:=⟨_,rfl⟩
 have a45:Ap s4 s5:=⟨_,SN⟩
 obtain⟨s6,hs6⟩:∃s6,s6=s5++[aR.lst (row.map tV)]:=⟨_,rfl⟩
 have a56:Ap s5 s6:=⟨_,hs6⟩
 have a46:=a45.trans a56;have OM:=CD.trans (n4.ap.trans a46);have l5:s5.length=s4.length+1:=by rw[SN,Vr];rfl
 refine⟨s6,m,f,s4.length,s5.length,OM,(Kx.trans (n4.ap.trans a46)).at n1.2.2,a46.at n4.2.2,a56.at (by rw[SN];exact dW s4 _),by rw[hs6];exact dW s5 _,Vx CD.len n4.2.1,ji n4.2.2,by lia,?_⟩;unfold PM.cP;rw[bw (np:=3) (us:=[ao.loc p,.loc q,.int (a:Int)]) rfl];show(aB (fw (bO (ak fZ (ah fe (aa (ae 1) aj)) (mC (.int 0)))) _ aX) _ [some (.loc p),some (.loc q),some (.int (a:Int)),none,none,none,none,none,none,none] s).fin=_;have t0:bO (ak fZ (ah fe (aa (ae 1) aj)) (mC (.int 0))) [some (.loc p),some (.loc q),some (.int (a:Int)),none,none,none,none,none,none,none] s=.ok false s:=by
  refine cU ?_;rw[oP (show ah fe (aa (ae 1) aj) [some (.loc p),some (.loc q),some (.int (a:Int)),none,none,none,none,none,none,none] s=.ok (.int (B.length:Int)) s by rw[aw (d8 (v:=.loc q) (s1:=s) rfl),mE (aU hq),Vm])];have:((B.length:Int)==0)=false:=by rw[V9];intro z;exact C.ne (Wi (by lia))
  rw[this]
 rw[ay,gz t0,az,ay,bj (show ah PM.gk _ _ s=.ok (.loc m) s1 by rw[aw (bT (v:=.loc q) (s1:=s) rfl (w:=.int (a:Int)) (s2:=s) rfl)];exact e1),az];have c4:ak a8 (ak jH (CV 0) (CV 1)) (mC (.int 1)) [some (.loc p),some (.loc q),some (.int (a:Int)),some (.loc m),none,none,none,none,none,none] s1=.ok (.int (aW row a-aW B a+1)) s3:=by
  rw[aS (x:=.int (aW row a-aW B a)) (s1:=s3) (by
   rw[aS (show CV 0 _ s1=.ok (.int (aW row a)) s2 from(aw (bT (v:=.loc p) (s1:=s1) rfl (w:=.int (a:Int)) (s2:=s1) rfl)).trans e2) (show CV 1 _ s2=.ok (.int (aW B a)) s3 from(aw (bT (v:=.loc q) (s1:=s2) rfl (w:=.int (a:Int)) (s2:=s2) rfl)).trans e3)];rfl) (y:=.int 1) (s2:=s3) rfl]
  rfl
 show(aB (aG 4 _) _ [some (.loc p),some (.loc q),some (.int (a:Int)),some (.loc m),none,none,none,none,none,none] s1).fin=_;rw[ay,bj c4,az];show(aB (aG 5 _) _ [some (.loc p),some (.loc q),some (.int (a:Int)),some (.loc m),some (.int (aW row a-aW B a+1)),none,none,none,none,none] s3).fin=_;rw[ay,bj e4,az];show(aB (aG 6 (bW aj)) _ [some (.loc p),some (.loc q),some (.int (a:Int)),some (.loc m),some (.int (aW row a-aW B a+1)),some (.loc f),none,none,none,none] s4).fin=_;rw[ay,bj (fW (vs:=[]) (s1:=s4) rfl (by decide)),az,<-SN];show(aB (aG 7 _) _ [some (.loc p),some (.loc q),some (.int (a:Int)),some (.loc m),some (.int (aW row a-aW B a+1)),some (.loc f),some (.loc s4.length),none,none,none] s5).fin=_;rw[ay,bj (show ah fO _ _ s5=.ok (.loc s5.length) s6 by rw[aw (d8 (v:=.loc p) (s1:=s5) rfl),mF (aU ((CD.trans (n4.ap.trans a45)).at hp)),hs6]),az];rfl
end
abbrev Kz(D:List aA):aR:=.lst (D.map tV)
def cg(s:ai)(ls:List Nat)(Ds:List (List aA)):Prop:=ls.length=Ds.length/\∀(i l:Nat)(D:List aA),ls[i]?=some l->Ds[i]?=some D->s[l]?=some (Kz D)
theorem cg.old{s:ai}(h:cg s ls Ds)(g:ai):cg (s++g) ls Ds:=⟨h.1,fun i l R h1 h2=>jW (h.2 i l R h1 h2) g⟩
theorem cg.ap{s:ai}(h:cg s ls Ds)(a:Ap s s'):cg s' ls Ds:=⟨h.1,fun i l R h1 h2=>a.at (h.2 i l R h1 h2)⟩
theorem cg.tail{s:ai}{l:Nat}(h:cg s (l::ls) (D::Ds)):cg s ls Ds:=⟨by have:=h.1;simpa using this,fun i l' R' h1 h2=>h.2 (i+1) l' R' h1 h2⟩
theorem cg.drop{s:ai}(h:cg s ls Ds)(k:Nat):cg s (ls.drop k) (Ds.drop k):=⟨by rw[Wl,Wl,h.1],fun i l D h1 h2=>h.2 (k+i) l D (by rw[<-Wy];exact h1) (by rw[<-Wy];exact h2)⟩
theorem ui{G:ai->Prop}:∀(ls:List Nat)(Ds:List (List aA))(st:ai)(τ:MN.Env)(ys:List ao),cg st ls Ds->(∀g,G (st++g))->τ.length=1 ->
  dN G (au 0) aV (ah fO (aa (ae 0) aj)) (ls.map ao.loc) τ st ys=.ok (ys++(List.range ls.length).map fun i=>ao.loc (st.length+i)) (st++Ds.map Kz)
 |[],Ds,st,τ,ys,h,hn,_=>by have:Ds=[]:=Wi h.1.symm;subst this;rw[Wg,Cp (by have:=hn [];rwa [VZ]at this)];simp
 |l::ls,[],st,τ,ys,h,hn,_=>by have:=h.1;simp at this
 |l::ls,R::Rs,st,[x],ys,h,hn,_=>by
  have hl:=h.2 0 l R rfl rfl;have e:ah fO (aa (ae 0) aj) [some (.loc l)] st=.ok (.loc st.length) (st++[Kz R]):=by rw[aw (d8 (v:=.loc l) (s1:=st) rfl),mF (aU hl)]
  rw[VB,Co (τ1:=[some (.loc l)]) (by have:=hn [];rwa [VZ]at this) rfl e,ui ls Rs (st++[Kz R]) [some (.loc l)] _ (h.tail.old _) (fun g=>by rw[Vs];exact hn _) rfl];congr 1
  .rw[Vt,Yn,VB,VN,Vs];congr 1;rw[Y0];congr 1;refine V7 fun i _=>?_;show ao.loc ((st++[Kz R]).length+i)=ao.loc (st.length+(i+1));rw[Vr,WZ,show st.length+1+i=st.length+(i+1) by lia]
  .rw[VB,Vs,Y0]
theorem pL{μ:MN.Env}{m:ME}{it:MI}{s:ai}{G:ai->Prop}(hi:it μ s=.ok (ls.map ao.loc,G) s1)(hG:∀g,G (s1++g))(h:cg s1 ls Ds)(hl:ls.length<=1000):
  ∃k s' Ba,bz 1 [] it (au 0) aV (ah fO (aa (ae 0) aj)) μ s=.ok (.loc k) s'/\Ap s1 s'/\s'[k]?=some (.lst (Ba.map ao.loc))/\cg s' Ba Ds/\s1.length<=k/\∀x∈Ba,s1.length<=x/\x<k:=by
 obtain⟨s2,eV⟩:∃s2,s2=s1++Ds.map Kz:=⟨_,rfl⟩
 have l2:s2.length=s1.length+ls.length:=by rw[eV,Vr,Vm,h.1]
 refine⟨s2.length,s2++[.lst (((List.range ls.length).map fun i=>s1.length+i).map ao.loc)],(List.range ls.length).map fun i=>s1.length+i,?_,⟨Ds.map Kz++[.lst (((List.range ls.length).map fun i=>s1.length+i).map ao.loc)],by rw[eV,Vs]⟩,dW s2 _,⟨by rw[Vm,WD];exact h.1,fun i l D h1 h2=>?_⟩,by lia,fun x hx=>?_⟩
 .have cp:=ui ls Ds s1 [none] [] h hG rfl;have wA:jy 1 [] μ=[none]:=rfl;rw[fm,hi,ar,gG,Vu (by rw[Vm,VT];lia),wA,cp,ar,jd,VM,<-eV,VN];rfl
 .rw[VF]at h1;cases z:(List.range ls.length)[i]? with
  |none=>rw[z]at h1;cases h1
  |some j=>
   rw[z]at h1;have hi:i<ls.length:=by have:=d9 z;rwa [WD]at this
   rw[Xv hi]at z;cases z;cases h1;show(s2++_)[s1.length+i]?=_;rw[VL (by lia),eV,Vv (by lia),ZH,VF,h2];rfl
 .obtain⟨i,hi,rfl⟩:=VH.mp hx;have:=List.mem_range.mp hi;lia
theorem CF(t:aA):tw 13 (tV t)=true:=by show(hZ 11 (t.1.map ao.int)&&(true&&true))=true;rw[oJ];rfl
theorem xG{s:ai}:∀{ls Ba:List Nat}{Ds:List (List aA)},cg s ls Ds->cg s Ba Ds->jx (kX 15 s) (ls.map ao.loc) (Ba.map ao.loc)=some true
 |[],Ba,Ds,h,h'=>by obtain rfl:Ba=[]:=Wi (by rw[h'.1,<-h.1];rfl);rfl
 |l::ls,[],Ds,h,h'=>by have:=h.1;have:=h'.1;rw[Vt]at *;rw[VY]at *;lia
 |l::ls,l'::Ba,[],h,h'=>by have:=h.1;rw[Vt,VY]at this;lia
 |l::ls,l'::Ba,D::Ds,h,h'=>by
  have i:=xG h.tail h'.tail;have e:kX 15 s (.loc l) (.loc l')=some true:=by
   unfold kX;simp only[vw,aU (h.2 0 l D rfl rfl),aU (h'.2 0 l' D rfl rfl)];exact j! s 13 _ (j? fun u hu=>by
    obtain⟨t,_,rfl⟩:=VH.mp hu;exact CF t)
  show(match kX 15 s (.loc l) (.loc l'),jx (kX 15 s) (ls.map ao.loc) (Ba.map ao.loc) with|some a,some b=>some (a&&b)|_,_=>none)=_;rw[e,i];rfl
theorem vC{s:ai}{a b:Nat}{Ba:List Nat}(ha:s[a]?=some (.lst (ls.map ao.loc)))(hb:s[b]?=some (.lst (Ba.map ao.loc)))(h:cg s ls Ds)(h':cg s Ba Ds):kX 16 s (.loc a) (.loc b)=some true:=by unfold kX;simp only[vw,aU ha,aU hb];exact xG h h'
abbrev apB:MB:=aB (fw (bO (ak jJ (bz 1 [] (bJ (mw (ae 0) (dy (ae 2)) dP)) (au 0) aV (ah fO (aa (ae 0) aj))) (mw (ae 1) (dy (ae 2)) dP))) (aP (mC (.bl false))) aX) (cO (iP dS (ak cw (ae 0) (ae 2)) (aa (mC (.int 0)) aj)))
theorem uj(ls:List Nat)(k:Nat):mq (ls.map ao.loc) (some (k:Int)) none=(ls.drop k).map ao.loc:=by rw[NZ,List.map_drop]
theorem JA{s:ai}{kl k:Nat}{ks:List Nat}{l:Nat}(hn:s[n]?=some (.lst (ls.map ao.loc)))(hk:s[kl]?=some (.lst (ks.map ao.loc)))(hd:cg s (ls.drop k) (Ds.drop k))(Nv:cg s ks Ds)(hl:ls[k]?=some l)(hD:Ds[k]?=some D)(hlen:ls.length<=1000)(hDl:D.length<1000000):
  ∃s',apB [some (.loc n),some (.loc kl),some (.int (k:Int))] s=.nx [some (.loc n),some (.loc kl),some (.int (k:Int))] s'/\s.length<=s'.length/\∀(x:Nat)c,s[x]?=some c->x≠l->s'[x]?=some c:=by
 obtain⟨μ,hμ⟩:∃μ:MN.Env,μ=[some (.loc n),some (.loc kl),some (.int (k:Int))]:=⟨_,rfl⟩
 rw[<-hμ];have v0:∀s,ae 0 μ s=.ok (.loc n) s:=fun s=>by rw[hμ];rfl
 have v1:∀s,ae 1 μ s=.ok (.loc kl) s:=fun s=>by rw[hμ];rfl
 have v2:∀s,ae 2 μ s=.ok (.int (k:Int)) s:=fun s=>by rw[hμ];rfl
 obtain⟨s1,d_⟩:∃s1,s1=s++[aR.lst ((ls.drop k).map ao.loc)]:=⟨_,rfl⟩
 have a1:Ap s s1:=⟨_,d_⟩
 have n1:s1[s.length]?=some (.lst ((ls.drop k).map ao.loc)):=by rw[d_];exact dW s _
 have i1:bJ (mw (ae 0) (dy (ae 2)) dP) μ s=.ok ((ls.drop k).map ao.loc,fun av=>aq av s.length=some ((ls.drop k).map ao.loc)) s1:=by rw[b_,Kt (v0 s) (v2 s),Et (aU hn),uj,<-d_,ar,bI (aU n1)]
 obtain⟨c,s2,cs,e2,a2,hc,sc,_,_⟩:=pL (m:=ae 0) (Ds:=Ds.drop k) i1 (fun g=>aJ (aU n1) g) (hd.ap a1) (by rw[Wl];lia);have ON:=a1.trans a2;obtain⟨s3,AQ⟩:∃s3,s3=s2++[aR.lst ((ks.drop k).map ao.loc)]:=⟨_,rfl⟩
 have a3:Ap s2 s3:=⟨_,AQ⟩
 have CD:=ON.trans a3;have e3:mw (ae 1) (dy (ae 2)) dP μ s2=.ok (.loc s2.length) s3:=by rw[Kt (v1 s2) (v2 s2),Et (aU (ON.at hk)),uj,AQ]
 have Gu:bO (ak jJ (bz 1 [] (bJ (mw (ae 0) (dy (ae 2)) dP)) (au 0) aV (ah fO (aa (ae 0) aj))) (mw (ae 1) (dy (ae 2)) dP)) μ s=.ok false s3:=by refine cU ?_;rw[aS e2 e3];unfold jJ;rw[vC (a3.at hc) (by rw[AQ];exact dW s2 _) (sc.ap a3) ((Nv.drop k).ap CD)];rfl
 have hl3:s3[l]?=some (Kz D):=CD.at (hd.2 0 l D (by rw[Wy];exact hl) (by rw[Wy];exact hD));have ix:ak cw (ae 0) (ae 2) μ s3=.ok (.loc l) s3:=by rw[aS (v0 s3) (v2 s3)];exact nL (aU (CD.at hn)) (L2.iu (by rw[VF,hl];rfl))
 refine⟨s3.set l (.lst (D.map tV++[.int 0])),?_,by rw[XO];exact CD.len,fun x c h ne=>NX (CD.at h) (Xi ne)⟩;show aB _ _ μ s=_;rw[ay,gz Gu,az,A0 ix hl3 (d8 (v:=.int 0) (s1:=s3) rfl) hl3 (by rw[Vm];exact hDl)]
theorem vD{s:ai}(hn:s[n]?=some (.lst (ls.map ao.loc)))(h:cg s ls Ds)(nd:ls.Nodup)(hnl:n ∉ ls)(hlen:ls.length<=1000)(hDl:∀D∈Ds,D.length<1000000):
  ∃s',PM.gZ [.loc n] s=.ok (.bl true) s'/\s.length<=s'.length/\∀(x:Nat)c,s[x]?=some c->x ∉ ls->s'[x]?=some c:=by
 have v0:ae 0 [some (.loc n),none,none] s=.ok (.loc n) s:=rfl;obtain⟨kl,s1,ks,e1,a1,hk,sk,l1,l2⟩:=pL (m:=ae 0) (μ:=[some (.loc n),none,none]) (it:=bJ (ae 0)) (s:=s) (s1:=s) (Ds:=Ds) (by rw[b_,v0,ar,bI (aU hn)]) (fun g=>aJ (aU hn) g) h hlen;have old:∀x∈ls,x<s.length:=fun x hx=>by
  obtain⟨i,hi⟩:=Y4.mp hx;have:=d9 hi;have li:i<Ds.length:=by rw[<-h.1];exact this
  exact ji (h.2 i x _ hi (Vp li))
 have klx:kl ∉ ls:=fun z=>by have:=old kl z;lia
 have ksx:∀x∈ks,x ∉ ls:=fun x hx z=>by have:=old x z;have:=l2 x hx;lia
 obtain⟨μ',s',e,y2,rfl,I1,I2,I3,I4⟩:=cV (g:=fun _=>True) (a:=au 2) (body:=apB)
  (fun k μ t=>∃y2,μ=[some (.loc n),some (.loc kl),y2]/\cg t (ls.drop k) (Ds.drop k)/\cg t ks Ds/\s1.length<=t.length/\∀(x:Nat)c,s1[x]?=some c->x ∉ ls->t[x]?=some c)
  (cF 0 ls.length) 0 [some (.loc n),some (.loc kl),none] s1
  (by
   rintro i u μ t hu ⟨y2,rfl,hd,Nv,tl,ht⟩;refine⟨trivial,?_⟩;rw[V1]at hd⊢;obtain⟨hi,rfl⟩:=Fx hu;have wg:i<Ds.length:=by rw[<-h.1];exact hi
   have g1:=Vp hi;have g2:=Vp wg;obtain⟨t',e',tl',kp⟩:=JA (ht n _ (a1.at hn) hnl) (ht kl _ hk klx) hd Nv g1 g2 hlen (hDl _ (Wt wg));have Rr:ls[i]∈ls:=Wt hi;refine⟨[some (.loc n),some (.loc kl),some (.int (i:Int))],by rw[Xs];rfl,_,t',.inl e',_,rfl,⟨by rw[Wl,Wl,h.1],fun j x D h1 h2=>?_⟩,⟨Nv.1,fun j x D h1 h2=>kp x _ (Nv.2 j x D h1 h2) fun z=>ksx x (Y4.mpr ⟨j,h1⟩) (by rw[z];exact Rr)⟩,by lia,fun x c h1 h2=>kp x c (ht x c h1 h2) fun z=>h2 (by rw[z];exact Rr)⟩;have h1':(ls.drop i)[j+1]?=some x:=by rw[Wy]at h1⊢;rw[show i+(j+1)=i+1+j by lia];exact h1
   have OE:(Ds.drop i)[j+1]?=some D:=by rw[Wy]at h2⊢;rw[show i+(j+1)=i+1+j by lia];exact h2
   refine kp x _ (hd.2 (j+1) x D h1' OE) fun z=>?_;rw[Wy]at h1;have lj:=d9 h1;rw[Vp lj]at h1;have q:ls[i+1+j]=ls[i]:=(VP h1).trans z;exact WJ.mp nd i (i+1+j) hi lj (by lia) q.symm)
  (fun μ s hp=>trivial)
  ⟨none,rfl,by rw[Yp,Yp];exact h.ap a1,sk,Vo _,fun x c h _=>h⟩
 refine⟨s',?_,Vx a1.len I3,fun x c h1 h2=>I4 x c (a1.at h1) h2⟩;unfold PM.gZ;rw[bw (np:=1) (us:=[ao.loc n]) rfl];show(aB (aG 1 _) _ [some (.loc n),none,none] s).fin=_;rw[ay,bj e1,az];show(aB (dM (cA (aa (ah fe (aa (ae 0) aj)) aj)) (au 2) apB) _ [some (.loc n),some (.loc kl),none] s1).fin=_;rw[ay,fA,zd (j:=(ls.length:Int)) (s1:=s1) (d8 (by rw[aw (d8 (v:=.loc n) (s1:=s1) rfl),mE (aU (a1.at hn)),Vm])) (by lia) (by lia),aE,hU,show((ls.length:Int)).toNat=ls.length by lia,e,az];rfl
theorem q!{μ:MN.Env}{s:ai}{mc mn mv:ME}{c:Int}{P:Int->Prop}(hc:∀s,mc μ s=.ok (.int c) s)(hn:∀g,mn μ (s++g)=.ok (.int (af:Int)) (s++g))(hv:∀g,∃v,mv μ (s++g)=.ok (.int v) (s++g)/\P v)(h4:af<=4):
  ∃k s' v,bW (aa (cq (aa (ah gW (aa (ak cu (bW (aa mc aj)) mn) aj)) (aa mv aj))) aj) μ s=.ok (.loc k) s'/\fD s s' k [(List.replicate af c,v)]/\P v:=by
 obtain⟨s1,d_⟩:∃s1,s1=s++[aR.lst [ao.int c]]:=⟨_,rfl⟩
 obtain⟨s2,eV⟩:∃s2,s2=s1++[aR.lst (g_ af [ao.int c])]:=⟨_,rfl⟩
 have a1:s1[s.length]?=some (.lst [ao.int c]):=by rw[d_];exact dW s _
 have a2:s2[s1.length]?=some (.lst (g_ af [ao.int c])):=by rw[eV];exact dW s1 _
 have e1:bW (aa mc aj) μ s=.ok (.loc s.length) s1:=by rw[fW (d8 (hc s)) (by show 1<=1000;decide),d_]
 have e2:ak cu (bW (aa mc aj)) mn μ s=.ok (.loc s1.length) s2:=by rw[aS e1 (show mn μ s1=.ok (.int (af:Int)) s1 by rw[d_];exact hn _),Ng a1 (by lia) (by lia) (by rw[VT];show 1*_<=_;lia),eV,show((af:Int)).toNat=af by lia]
 have er:g_ af [ao.int c]=(List.replicate af c).map ao.int:=by unfold g_;rw[List.flatten_replicate_singleton,List.map_replicate]
 have e3:ah gW (aa (ak cu (bW (aa mc aj)) mn) aj) μ s=.ok (ax (List.replicate af c)) s2:=by rw[aw (d8 e2),pF (aU a2),er];rfl
 have Rt:s2=s++([aR.lst [ao.int c]]++[aR.lst (g_ af [ao.int c])]):=by rw[eV,d_,Vs]
 obtain⟨v,hv2,pv⟩:∃v,mv μ s2=.ok (.int v) s2/\P v:=by rw[Rt];exact hv _
 have e4:=qJ (bT e3 hv2) (by show 2<=1000;decide);refine⟨s2.length,s2++[.lst [tV (List.replicate af c,v)]],v,?_,⟨⟨[aR.lst [ao.int c]]++[aR.lst (g_ af [ao.int c])]++[.lst [tV (List.replicate af c,v)]],by rw[Rt];simp only[Vs]⟩,by rw[Rt,Vr];lia,dW s2 _⟩,pv⟩;rw[fW (d8 e4) (by show 1<=1000;decide)];rfl
theorem N?{X:List aA}(S:cy af X):∀i,d! 0 (aO (j5 af X i) X)=j5 af X (i+1)
 |0=>by show d! 0 (aO [(vh af,1)] X)=X;rw[vA S.len,Ju S]
 |i+1=>rfl
abbrev lrB:MB:=aG 2 (ah PM.a! (aa (ae 2) (aa (ae 0) aj)))
theorem rX{a K:Nat}{s:ai}(C:j4 af a B K)(hp:s[p]?=some (.lst ((aK B a).map tV))):
  ∃k s',PM.fC [.loc p,.int (K:Int)] s=.ok (.loc k) s'/\fD s s' k (j5 af (aK B a) K):=by
 have h4:=C.h4;have ha:=C.ha;have S:=fI C.s C.ha;have kk:=C.k.1;obtain⟨t,X',hX⟩:∃t X',aK B a=t::X':=by
  cases z:aK B a with
  |nil=>
   obtain⟨u,hu,e⟩:=vt (a:=a) C.ne;have:u∈lH B a:=WC.mpr ⟨hu,by show(eJ a u==aW B a)=true;rw[show eJ a u=aW B a from e];exact WG _⟩;have l:=jZ B a;rw[z]at l;have:=List.length_pos_of_mem this;rw[<-l]at this;exact absurd this (by decide)
  |cons t X'=>exact⟨t,X',rfl⟩
 have x1:∀g,ak cw (ae 0) (mC (.int 0)) [some (.loc p),some (.int (K:Int)),none,none] (s++g)=.ok (tV t) (s++g):=fun g=>by rw[aS (x:=.loc p) (s1:=s++g) rfl (y:=.int 0) (s2:=s++g) rfl];exact nL (aU (jW hp g)) (iu (j:=0) (by rw[hX];rfl))
 have x2:∀g,ah fe (aa (ak cw (ak cw (ae 0) (mC (.int 0))) (mC (.int 0))) aj) [some (.loc p),some (.int (K:Int)),none,none] (s++g)=.ok (.int (af:Int)) (s++g):=fun g=>by rw[aw (d8 (v:=ax t.1) (s1:=s++g) (by rw[aS (x1 g) (y:=.int 0) (s2:=s++g) rfl];rfl))];show cD.ok (ao.int (((t.1.map ao.int).length:Nat):Int)) (s++g)=_;rw[Vm,S.len t (by rw[hX];exact VO)]
 obtain⟨k0,s0,v,e0,n0,rfl⟩:=q! (s:=s) (mc:=mC (.int 0)) (mv:=mC (.int 1)) (c:=0) (P:=fun v=>v=1) (fun _=>rfl) x2 (fun _=>⟨1,rfl,rfl⟩) h4;have fb:∀i,i<K->(j5 af (aK B a) i).length*(aK B a).length<1000000/\(∀t∈j5 af (aK B a) i,t.1.length=af/\gP 2200 t.2):=by
  intro i hi;cases i with
  |zero=>
   refine⟨by show 1*_<_;have:=C.qY;lia,fun t ht=>?_⟩;rw[V0.mp ht];exact⟨We,pK (by decide)⟩
  |succ j=>
   have q:=kJ (r:=0) rfl (C.OO (n:=j) (by lia)) j (Vo j);refine⟨?_,fun t ht=>⟨(q.2 t ht).1,(q.2 t ht).2.mono (by lia)⟩⟩;refine Wd (XW _ q.1) ?_;rw[<-X5];exact Wd (C.pw6 (n:=j+1+1) (by lia)) (by decide)
 obtain⟨μ',s',e,y,d,rfl,a1,hd,ld⟩:=cV (g:=fun _=>True) (a:=au 3) (body:=lrB)
  (fun i μ t=>∃y d,μ=[some (.loc p),some (.int (K:Int)),some (.loc d),y]/\Ap s t/\t[d]?=some (.lst ((j5 af (aK B a) i).map tV))/\s.length<=d)
  (cF 0 K) 0 [some (.loc p),some (.int (K:Int)),some (.loc k0),none] s0
  (by
   rintro i u μ t hu ⟨y,d,rfl,at_,hd,ld⟩;refine⟨trivial,?_⟩;rw[V1]at hd⊢;obtain⟨hi,rfl⟩:=Fx hu;obtain⟨f1,f2⟩:=fb i hi;obtain⟨k,t',e,N⟩:=gY (aU hd) (aU (at_.at hp)) (by lia) h4 (fun t ht=>(f2 t ht).1) S.len (fun x hx y hy=>g8 (f2 x hx).2 (C.mb y hy) (by decide) (by decide)) f1;rw[N? S]at N;refine⟨[some (.loc p),some (.int (K:Int)),some (.loc d),some (.int (0+(i:Int)))],rfl,[some (.loc p),some (.int (K:Int)),some (.loc k),some (.int (0+(i:Int)))],t',.inl ?_,_,k,rfl,at_.trans N.ap,N.2.2,Vx at_.len N.2.1⟩;show aG 2 _ _ _=_;rw[bj (show ah PM.a! _ _ t=.ok (.loc k) t' by rw[aw (bT (v:=.loc d) (s1:=t) rfl (w:=.loc p) (s2:=t) rfl)];exact e)];rfl)
  (fun μ s hp=>trivial)
  ⟨none,k0,rfl,n0.ap,n0.2.2,n0.2.1⟩
 rw[V1,Fy]at hd;refine⟨d,s',?_,a1,ld,hd⟩;unfold PM.fC;rw[bw (np:=2) (us:=[ao.loc p,.int (K:Int)]) rfl];show(aB (aG 2 _) _ [some (.loc p),some (.int (K:Int)),none,none] s).fin=_;rw[ay,bj e0,az];show(aB (dM (cA (aa (ae 1) aj)) (au 3) lrB) _ [some (.loc p),some (.int (K:Int)),some (.loc k0),none] s0).fin=_;rw[ay,fA,zd (j:=(K:Int)) (s1:=s0) (d8 (v:=.int (K:Int)) (s1:=s0) rfl) (by lia) (by lia),aE,hU,show((K:Int)).toNat=K by lia,e,az];rfl
theorem JB{a K:Nat}(C:j4 af a B K)(hK:K=(aW row a-aW B a+1).toNat)(sr:cy af row)(lr:row.length<=12)(br:∀t∈row,gP 160 t.2):
  ∃Q R,zB af a row B K Q R/\∀{M:eQ}{s:ai}{p q:Nat},M.S.ps.length=2->g? s M.own M.line M.col M.S.qual->s[p]?=some (.lst (row.map tV))->s[q]?=some (.lst (B.map tV)) ->
   ∃f kq kr s',PM.cP M [.loc p,.loc q,.int (a:Int)] s=.ok (.tup [.loc f,.loc kq,.loc kr]) s'/\Ap s s'/\cg s' [f,kq,kr] [j5 af (aK B a) K,Q,R]/\s.length<=f/\f<kq/\kq<kr:=by
 have kk:=C.k.1;have h4:=C.h4;have ha:=C.ha;have S0:rF af a row B 0 [] row:=by
  refine⟨fun f=>?_,sr,⟨List.Pairwise.nil,(fun t h=>nomatch h),(fun t h=>nomatch h),(fun t h=>nomatch h)⟩,?_,V? _,br,(fun t h=>nomatch h)⟩
  .show bx f (aO [(vh af,1)] row)=0+bx f row;rw[vA sr.len];lia
  .unfold rB;split<;>lia
 obtain⟨k,Q,R,V⟩:=Rq C K 0 [] row rfl (V? _) S0 (by lia);obtain⟨S,kK,hp,_⟩:=V.last;have three:∀{s:ai}{f kq kr:Nat}{F Q R:List aA},s[f]?=some (.lst (F.map tV))->s[kq]?=some (.lst (Q.map tV))->s[kr]?=some (.lst (R.map tV))->cg s [f,kq,kr] [F,Q,R]:=fun{s f kq kr F Q R}h1 h2 h3=>⟨rfl,fun i l D e1 e2=>by
  match i,e1,e2 with
  |0,e1,e2=>cases e1;cases e2;exact h1
  |1,e1,e2=>cases e1;cases e2;exact h2
  |2,e1,e2=>cases e1;cases e2;exact h3
  |i+3,e1,_=>cases e1⟩
 by_cases z:k=K
 .subst z;refine⟨Q,R,zC C S hp,fun{M s p q}tJ ht h1 h2=>?_⟩;obtain⟨s1,m,f,kq,kr,a1,hm,hf,h6,h7,l1,l2,l3,er⟩:=A? C hK sr lr tJ ht h1 h2;obtain⟨n,s2,qZ,vz,x8,ew,a2,g6,g7,g1,g2⟩:=F5 C V (x0:=some (.loc p)) (x5:=some (.loc f)) (x8:=none) (l:=aW row a-aW B a+1) (a1.at h2) hm h6 h7 kq (Vo _) l3;refine⟨f,qZ,vz,s2,?_,a1.trans a2,three (a2.at hf) g6 g7,l1,by lia,g2⟩;rw[er,ay,sW ew,az];show(aB (fw _ _ aX) _ _ s2).fin=_;rw[ay,gz (by rw[vB (l:=aW row a-aW B a+1-((k-0:Nat):Int)) rfl,VR (by lia)]),az];rfl
 .obtain⟨n,hn⟩:∃n,k+n+1=K:=⟨K-k-1,by lia⟩
  refine⟨_,_,zD C hn S hp,fun{M s p q}tJ ht h1 h2=>?_⟩;obtain⟨s1,m,f,kq,kr,a1,hm,hf,h6,h7,l1,l2,l3,er⟩:=A? C hK sr lr tJ ht h1 h2;obtain⟨n',s2,qZ,vz,x8,ew,a2,g6,g7,g1,g2⟩:=F5 C V (x0:=some (.loc p)) (x5:=some (.loc f)) (x8:=none) (l:=aW row a-aW B a+1) (a1.at h2) hm h6 h7 kq (Vo _) l3;have P:=C.OO (n:=n) (by lia);have pb:=kJ (r:=0) rfl P n (Vo n);have ps:=q_ (fI C.s C.ha) n;have ms:=C.mis (n:=n) (k:=k) (by lia);obtain⟨k9,s3,e3,n3⟩:=fD.mk' (ue (r:=0) (n:=n+1) tJ rfl (aU (a2.at hm)) (by lia) h4 (by lia) P ((a1.trans a2).tab ht));have n3:fD s2 s3 k9 (jA 0 (aK B a) n):=n3;obtain⟨k6,s4,e4,n4⟩:=q9 n3.2.2 (n3.old g6) (by lia) h4 (bU ps) (bU S.sQ) (fun t ht=>(pb.2 t ht).2) S.bQ (by lia) (by lia) (Wd (Vx (V4 (Vo _) S.lQ) ms.2) (by decide));obtain⟨k7,s5,e5,n5⟩:=q9 (n4.old n3.2.2) (n4.old (n3.old g7)) (by lia) h4 (bU ps) (bU S.sR) (fun t ht=>(pb.2 t ht).2) S.bR (by lia) (by lia) (Wd (Vx (V4 (Vo _) S.lR) ms.1) (by decide));have Ru:=n4.ap.trans n5.ap;have a25:=n3.ap.trans Ru;have lf:=ji (a2.at hf);have l4:=n3.ap.len;have l6:=n4.2.1;have l7:=ji n4.2.2;have l8:=n5.2.1;refine⟨f,k6,k7,s5,?_,a1.trans (a2.trans a25),three (a25.at (a2.at hf)) (n5.old n4.2.2) n5.2.2,l1,by lia,by lia⟩;rw[er,ay,sW ew,az];show(aB (fw _ _ aX) _ _ s2).fin=_;have t1:bO (ak Gn (ae 4) (mC (.int 0))) [some (.loc p),some (.loc q),some (.int (a:Int)),some (.loc m),some (.int (aW row a-aW B a+1-((k-0:Nat):Int))),some (.loc f),some (.loc qZ),some (.loc vz),x8,none] s2=.ok true s2:=by rw[vB (l:=aW row a-aW B a+1-((k-0:Nat):Int)) rfl,VV (by lia)]
  rw[ay,jX t1];have c9:ah (PM.raised M) (aa (mC (.int 0)) (aa (ae 3) (aa (ae 4) aj))) [some (.loc p),some (.loc q),some (.int (a:Int)),some (.loc m),some (.int (aW row a-aW B a+1-((k-0:Nat):Int))),some (.loc f),some (.loc qZ),some (.loc vz),x8,none] s2=.ok (.loc k9) s3:=by rw[aw (dC (v:=.int 0) (s1:=s2) rfl (bT (v:=.loc m) (s1:=s2) rfl (w:=.int (aW row a-aW B a+1-((k-0:Nat):Int))) (s2:=s2) rfl))];rw[show aW row a-aW B a+1-((k-0:Nat):Int)=((n+1:Nat):Int) by lia];exact e3
  rw[ay,bj c9,az];show((aB (aG 6 _) _ [some (.loc p),some (.loc q),some (.int (a:Int)),some (.loc m),some (.int (aW row a-aW B a+1-((k-0:Nat):Int))),some (.loc f),some (.loc qZ),some (.loc vz),x8,some (.loc k9)] s3).df _).fin=_;rw[ay,bj (show Gw 9 6 _ s3=.ok (.loc k6) s4 from(aw (dC (v:=.int 0) (s1:=s3) rfl (bT (v:=.loc k9) (s1:=s3) rfl (w:=.loc qZ) (s2:=s3) rfl))).trans e4),az];show((aG 7 _ [some (.loc p),some (.loc q),some (.int (a:Int)),some (.loc m),some (.int (aW row a-aW B a+1-((k-0:Nat):Int))),some (.loc f),some (.loc k6),some (.loc vz),x8,some (.loc k9)] s4).df _).fin=_;rw[bj (show Gw 9 7 _ s4=.ok (.loc k7) s5 from(aw (dC (v:=.int 0) (s1:=s4) rfl (bT (v:=.loc k9) (s1:=s4) rfl (w:=.loc vz) (s2:=s4) rfl))).trans e5),az];rfl
end PG
namespace qz
open Spec L2 MN PG
open PyProof.Rows hiding St kindOf
theorem isq{μ:MN.Env}{s:ai}{c:Str}{b:Bool}(h:μ[0]?=some (some (.exc c)))(hk:kn.contains c=true)(hs:bP tab c x=some b):dQ (bP tab) kn 0 x μ s=.ok (.bl b) s:=by unfold dQ;rw[h];dsimp only;rw[Vu hk,hs]
theorem F7{μ:MN.Env}{s:ai}{m1 m3:ME}{w:ao}(h1:m1 μ s=.ok u s)(h2:m2 μ s=.ok v s)(h3:m3 μ s=.ok w s):aa m1 (aa m2 (aa m3 aj)) μ s=.ok [u,v,w] s:=dC h1 (bT h2 h3)
theorem kh{e:Option ao}{s:ai}{vs:List ao}{a:MA}(h:s[n]?=some (.lst us))(ha:a [e,some (.loc n)] s=.ok vs s)(hl:us.length<=100)(hv:vs.length<=100):
  ∃m s',aG 1 (ak a8 (ae 1) (bW a)) [e,some (.loc n)] s=.nx [e,some (.loc m)] s'/\(∃g,s'=s++g)/\s'[m]?=some (.lst (us++vs)):=by
 obtain⟨s1,d_⟩:∃s1,s1=s++[aR.lst vs]:=⟨_,rfl⟩
 have h1:s1[n]?=some (.lst us):=by rw[d_];exact jW h _
 have h2:s1[s.length]?=some (.lst vs):=by rw[d_];exact dW s _
 refine⟨s1.length,s1++[.lst (us++vs)],?_,⟨[.lst vs,.lst (us++vs)],by rw[d_,Vs];rfl⟩,dW s1 _⟩;have ad:ak a8 (ae 1) (bW a) [e,some (.loc n)] s=.ok (.loc s1.length) (s1++[.lst (us++vs)]):=by rw[aS (x:=.loc n) (s1:=s) rfl (fW ha (by lia)),<-d_];show(match s1[n]?,s1[s.length]? with|some (.lst us),some (.lst ws)=>if us.length+ws.length<=sizeLine then cD.ok (ao.loc s1.length) (s1++[aR.lst (us++ws)])else .bad|_,_=>.bad)=_;rw[h1,h2];dsimp only;rw[Vu (by rw[VT];lia)]
 rw[bj ad];rfl
theorem CG{c:Str}{b0 b1 b3 b4 b5 b6 b7 b8 b9 b10 b11 b12 b13 b14:Bool}(hk:kn.contains c=true)(h0:bP tab c "ByNought" = some b0)(h1:bP tab c "NotWhole" = some b1)(h2:bP tab c "NoMeet" = some b2)(h3:bP tab c "NoParts" = some b3)(h4:bP tab c "NoCount" = some b4)(h5:bP tab c "NoInverse" = some b5)(h6:bP tab c "NoLead" = some b6)(h7:bP tab c "NoOrder" = some b7)(h8:bP tab c "NoPrime" = some b8)(h9:bP tab c "NoRing" = some b9)(Rw:bP tab c "NoSums" = some b10)(Ov:bP tab c "NoTerm" = some b11)(Rx:bP tab c "NotPlain" = some b12)(Ry:bP tab c "NotWritten" = some b13)(Rz:bP tab c "NoUnknowns" = some b14)(hA:bP tab c "AlgebraError" = some true)(hV:bP tab c "ValueError" = some true)(hc:([b0,b1,b2,b3,b4,b5,b6,b7,b8,b9,b10,b11,b12,b13,b14].map ao.bl).countP (fun y=>Ao y (.bl true))=1)(hj:([b0,b1,b2,b3,b4,b5,b6,b7,b8,b9,b10,b11,b12,b13,b14].map ao.bl).findIdx? (fun y=>Ao y (.bl true))=some j)(st:ai):
  ∃g,bS c st=.ok (.int (j:Int)) (st++g):=by
 have q:∀{x:Str}{b:Bool}{y:Option ao}{s:ai},bP tab c x=some b->dQ (bP tab) kn 0 x [some (.exc c),y] s=.ok (.bl b) s:=fun{x b y s}h=>isq rfl hk h;obtain⟨s1,d_⟩:∃s1,s1=st++[aR.lst [ao.bl b0,.bl b1,.bl b2]]:=⟨_,rfl⟩
 have f1:aG 1 (bW (aa (dQ (bP tab) kn 0 "ByNought") (aa (dQ (bP tab) kn 0 "NotWhole") (aa (dQ (bP tab) kn 0 "NoMeet") aj)))) [some (.exc c),none] st=.nx [some (.exc c),some (.loc st.length)] s1:=by rw[bj (fW (F7 (q h0) (q h1) (q h2)) (by show 3<=1000;decide)),d_];rfl
 have a1:s1[st.length]?=some (.lst [ao.bl b0,.bl b1,.bl b2]):=by rw[d_];exact dW st _
 obtain⟨m2,s2,f2,⟨g2,e2⟩,a2⟩:=kh (e:=some (.exc c)) a1 (F7 (q h3) (q h4) (q h5)) (by show 3<=100;decide) (by show 3<=100;decide);obtain⟨m3,s3,f3,⟨g3,e3⟩,a3⟩:=kh (e:=some (.exc c)) a2 (F7 (q h6) (q h7) (q h8)) (by show 6<=100;decide) (by show 3<=100;decide);obtain⟨m4,s4,f4,⟨g4,e4⟩,a4⟩:=kh (e:=some (.exc c)) a3 (F7 (q h9) (q Rw) (q Ov)) (by show 9<=100;decide) (by show 3<=100;decide);obtain⟨m5,s5,f5,⟨g5,e5⟩,a5⟩:=kh (e:=some (.exc c)) a4 (F7 (q Rx) (q Ry) (q Rz)) (by show 12<=100;decide) (by show 3<=100;decide);replace a5:s5[m5]?=some (.lst ([b0,b1,b2,b3,b4,b5,b6,b7,b8,b9,b10,b11,b12,b13,b14].map ao.bl)):=a5;obtain⟨bs,LW⟩:∃bs,bs=[b0,b1,b2,b3,b4,b5,b6,b7,b8,b9,b10,b11,b12,b13,b14]:=⟨_,rfl⟩
 rw[<-LW]at a5 hc hj;have fl:(bs.map ao.bl).all flat=true:=Wh.mpr fun x hx=>by obtain⟨b,_,rfl⟩:=VH.mp hx;rfl
 refine⟨[aR.lst [ao.bl b0,.bl b1,.bl b2]]++g2++g3++g4++g5,?_⟩;have es:st++([aR.lst [ao.bl b0,.bl b1,.bl b2]]++g2++g3++g4++g5)=s5:=by rw[e5,e4,e3,e2,d_];simp only[Vs]
 rw[es];have v1:∀s,ae 1 [some (.exc c),some (.loc m5)] s=.ok (.loc m5) s:=fun _=>rfl;have cnt:iP jT (ae 1) (aa (mC (.bl true)) aj) [some (.exc c),some (.loc m5)] s5=.ok (.int 1) s5:=by rw[qm,v1,ar,wQ a5];show jT (.loc m5) [.bl true] s5=_;unfold jT;dsimp only;rw[a5];dsimp only;rw[Vu ⟨rfl,fl⟩,hc];rfl
 have idx:iP lh (ae 1) (aa (mC (.bl true)) aj) [some (.exc c),some (.loc m5)] s5=.ok (.int (j:Int)) s5:=by rw[qm,v1,ar,wQ a5];show lh (.loc m5) [.bl true] s5=_;unfold lh;dsimp only;rw[a5];dsimp only;rw[Vu ⟨rfl,fl⟩,hj]
 have tA:cN (bO (dQ (bP tab) kn 0 "AlgebraError")) [some (.exc c),some (.loc m5)] s5=.ok false s5:=qG (cU (q hA));have aab:yG (bP tab) 0 "ValueError" [some (.exc c),some (.loc m5)] s5=.ok (.bl true) s5:=by show(match bP tab c "ValueError" with|some true=>cD.ok (ao.bl true) s5|_=>.bad)=_;rw[hV]
 have tV':cN (bO (yG (bP tab) 0 "ValueError")) [some (.exc c),some (.loc m5)] s5=.ok false s5:=qG (cU aab);have tC:bO (ak jJ (iP jT (ae 1) (aa (mC (.bl true)) aj)) (mC (.int 1))) [some (.exc c),some (.loc m5)] s5=.ok false s5:=by refine cU ?_;rw[aS cnt (y:=.int 1) (s2:=s5) rfl];rfl
 have f6:=gz (B:=aP (jI (mC (.int 1)))) (tX tA (tX tV' tC));show(aB _ _ [some (.exc c),none] st).fin=_;rw[ay,f1,az,ay,f2,az,ay,f3,az,ay,f4,az,ay,f5,az,ay,f6,az,ba,idx,aE];rfl
theorem vE(st:ai):∃g,bS "ByNought" st=.ok (.int 0) (st++g):=
 CG (c:="ByNought") (b0:=true) (b1:=false) (b2:=false) (b3:=false) (b4:=false) (b5:=false) (b6:=false) (b7:=false) (b8:=false) (b9:=false) (b10:=false) (b11:=false) (b12:=false) (b13:=false) (b14:=false) (j:=0) (by decide +kernel) (by decide +kernel) (by decide +kernel) (by decide +kernel) (by decide +kernel) (by decide +kernel) (by decide +kernel) (by decide +kernel) (by decide +kernel) (by decide +kernel) (by decide +kernel) (by decide +kernel) (by decide +kernel) (by decide +kernel) (by decide +kernel) (by decide +kernel) (by decide +kernel) (by decide +kernel) rfl rfl st
theorem xH{M:eQ}{b a:Nat}{s:ai}(h:PM.cP M [.loc p,.loc b,.int (a:Int)] s=.err "ByNought" s):∃g,cT M [.loc p,.loc b,.int (a:Int)] s=.ok (.int 0) (s++g):=by
 obtain⟨g,hg⟩:=vE s;refine⟨g,?_⟩;unfold cT;rw[bw (np:=3) (us:=[ao.loc p,.loc b,.int (a:Int)]) rfl];show(qe (qd (MF kn) (aP (ah (PM.cP M) (wC (aa (ae 0) (aa (ae 1) (aa (ae 2) aj)))))) (Gp (bP tab) "AlgebraError" 3 (aP (iH 3 bS)) yE)) [some (.loc p),some (.loc b),some (.int (a:Int)),none] s).fin=_;have arg:wC (aa (ae 0) (aa (ae 1) (aa (ae 2) aj))) [some (ao.loc p),some (.loc b),some (.int (a:Int)),none] s=.ok [.loc p,.loc b,.int (a:Int)] s:=rfl;have bd:aP (ah (PM.cP M) (wC (aa (ae 0) (aa (ae 1) (aa (ae 2) aj))))) [some (.loc p),some (.loc b),some (.int (a:Int)),none] s=.er "ByNought" [some (.loc p),some (.loc b),some (.int (a:Int)),none] s:=by rw[ba,aw arg,h];rfl
 have hd:Gp (bP tab) "AlgebraError" 3 (aP (iH 3 bS)) yE "ByNought" [some (.loc p),some (.loc b),some (.int (a:Int)),none] s=.rt (.int 0) (s++g):=by
  unfold Gp;rw[show bP tab "ByNought" "AlgebraError" = some true by decide +kernel];show yF (aP (iH 3 bS) [some (.loc p),some (.loc b),some (.int (a:Int)),some (.exc "ByNought")] s)=_;have:iH 3 bS [some (.loc p),some (.loc b),some (.int (a:Int)),some (.exc "ByNought")] s=.ok (.int 0) (s++g):=by show H! (bS "ByNought" s)=_;rw[hg];rfl
  rw[ba,this];rfl
 have tr:qd (MF kn) (aP (ah (PM.cP M) (wC (aa (ae 0) (aa (ae 1) (aa (ae 2) aj)))))) (Gp (bP tab) "AlgebraError" 3 (aP (iH 3 bS)) yE) [some (.loc p),some (.loc b),some (.int (a:Int)),none] s=.rt (.int 0) (s++g):=by unfold qd;rw[bd];dsimp only;rw[Vu (show MF kn "ByNought" = true by decide +kernel),hd]
 unfold qe;rw[tr];rfl
theorem F8{M:eQ}{b a:Nat}{s:ai}(h:PM.cP M [.loc p,.loc b,.int (a:Int)] s=.ok v s'):cT M [.loc p,.loc b,.int (a:Int)] s=.ok v s':=by
 unfold cT;rw[bw (np:=3) (us:=[ao.loc p,.loc b,.int (a:Int)]) rfl];show(qe (qd (MF kn) (aP (ah (PM.cP M) (wC (aa (ae 0) (aa (ae 1) (aa (ae 2) aj)))))) (Gp (bP tab) "AlgebraError" 3 (aP (iH 3 bS)) yE)) [some (.loc p),some (.loc b),some (.int (a:Int)),none] s).fin=_;have arg:wC (aa (ae 0) (aa (ae 1) (aa (ae 2) aj))) [some (ao.loc p),some (.loc b),some (.int (a:Int)),none] s=.ok [.loc p,.loc b,.int (a:Int)] s:=rfl;have bd:aP (ah (PM.cP M) (wC (aa (ae 0) (aa (ae 1) (aa (ae 2) aj))))) [some (.loc p),some (.loc b),some (.int (a:Int)),none] s=.rt v s':=by rw[ba,aw arg,h];rfl
 have tr:qd (MF kn) (aP (ah (PM.cP M) (wC (aa (ae 0) (aa (ae 1) (aa (ae 2) aj)))))) (Gp (bP tab) "AlgebraError" 3 (aP (iH 3 bS)) yE) [some (.loc p),some (.loc b),some (.int (a:Int)),none] s=.rt v s':=by unfold qd;rw[bd]
 unfold qe;rw[tr];rfl
structure vF(af:Nat)(E:Int)(n b:Nat)(D:List aA):Prop where
 s:cy af D
 hi:∀t∈D,∀i,gx t.1 i<=E
 l:D.length<=n
 b:∀t∈D,gP b t.2
theorem vF.mono{b n' b':Nat}{E E':Int}(h:vF af E n b D)(h1:E<=E')(h2:n<=n')(h3:b<=b'):vF af E' n' b' D:=⟨h.s,fun t ht i=>ZW (h.hi t ht i) h1,Vx h.l h2,fun t ht=>(h.b t ht).mono h3⟩
theorem zE{b:Nat}{E:Int}{P:List aA}(ky:Ky af P)(hi:∀t∈P,∀i,gx t.1 i<=E)(l:P.length<=n)(hn:n<1000000)(hb:∀t∈P,gP b t.2)(b1:10<=b):vF af E n (b+21) (d! 0 P):=by refine⟨lI ky,fun t ht i=>?_,Vx (gJ _) l,fun t ht=>(nW (r:=0) rfl (by lia) (fun t ht=>(ky t ht).1) hb b1 t ht).2⟩;obtain⟨u,hu,e⟩:=vq ht;rw[<-e];exact hi u hu i
theorem zF{c:Int}(c0:0<=c)(i:Nat):0<=gx (List.replicate af c) i/\gx (List.replicate af c) i<=c:=by
 by_cases z:i<af
 .have:gx (List.replicate af c) i=c:=by show(List.replicate af c).getD i 0=c;rw[V8,Ww,Vu z];rfl
  lia
 .have:gx (List.replicate af c) i=0:=by show(List.replicate af c).getD i 0=0;rw[V8,Ww,VA z];rfl
  lia
theorem F9{c v:Int}(c0:0<=c):Ky af [(List.replicate af c,v)]:=fun t ht=>by rw[V0.mp ht];exact⟨We,fun i=>(zF c0 i).1⟩
theorem jk{s:ai}{k:Int}(hi:aq s 0=some (ns.map ao.int))(k0:0<=k)(k1:k<=1000):∃o,∀r:MN.Env,ah PM.bh (aa (ae 0) (aa (mC (.int k)) aj)) (some (.loc 0)::r) s=.ok (.int o) s:=by obtain⟨o,e⟩:=E8 hi k0 k1;exact⟨o,fun r=>by rw[aw (bT (v:=.loc 0) (s1:=s) rfl (w:=.int k) (s2:=s) rfl)];exact e⟩
theorem Ap.JC{s:ai}:Ap s s:=⟨[],(VZ s).symm⟩
theorem Ap.it{s:ai}(h:Ap s s')(e:aq s n=some us):aq s' n=some us:=by obtain⟨g,rfl⟩:=h;exact aJ e g
theorem Gu{s:ai}(hi:aq s 0=some (ns.map ao.int))(d m j:Int)(hd:0<d/\d<1000)(hm:0<m):∃c,∀r:MN.Env,bO (ak fZ (ak dJ (ak gv (ah PM.bh (aa (ae 0) (aa (mC (.int 1)) aj))) (mC (.int d))) (mC (.int m))) (mC (.int j))) (some (.loc 0)::r) s=.ok c s:=by obtain⟨o,e⟩:=jk (k:=1) hi (by decide) (by decide);exact⟨_,fun r=>cU (oP (iI (lC (e r) (vc (by lia) (by lia))) (by lia)))⟩
theorem drawn(m1:1<=af)(m4:af<=4)(t0:0<=terms)(t1:terms<=5)(p0:0<=power)(s:ai):∃k s' D,PM.dY [.int cell,.int af,.int terms,.int power,.int kind] s=.ok (.loc k) s'/\fD s s' k D/\vF af power 5 80 D:=by
 obtain⟨k,s',D,e,N,d⟩:=vm (cell:=cell) (kind:=kind) m1 m4 t0 (by lia) p0 s;refine⟨k,s',D,e,N,d.s,fun t ht i=>?_,Vx d.l (by lia),fun t ht=>?_⟩
 .by_cases z:i<t.1.length
  .exact d.hi t ht _ (FL z)
  .have:gx t.1 i=0:=by show t.1.getD i 0=0;rw[V8,VW (by lia)];rfl
   lia
 .have:=d.b t ht;show t.2.natAbs<2 ^ 80;have l:(terms.toNat:Int)*10 ^ 20<=5*10 ^ 20:=Zc (by lia) (by decide);have e2:(2:Nat) ^ 80=1208925819614629174706176:=rfl;have e3:(10:Int) ^ 20=100000000000000000000:=rfl;rw[e3]at l this;lia
theorem KA{b r:Nat}{E c:Int}{μ:MN.Env}{mc mn mv:ME}{s:ai}(m1:1<=af)(m4:af<=4)(hr:s[r]?=some (.lst (D.map tV)))(d:vF af E n b D)(hm:m μ s=.ok (.loc r) s)(hc:∀s,mc μ s=.ok (.int c) s)(hn:∀s,mn μ s=.ok (.int (af:Int)) s)(hv:∀g,∃v,mv μ (s++g)=.ok (.int v) (s++g)/\gP 10 v)(c0:0<=c)(ce:c<=E)(n1:n<=100)(b1:10<=b):
  ∃k s' D',ah PM.c! (aa m (aa (bW (aa (cq (aa (ah gW (aa (ak cu (bW (aa mc aj)) mn) aj)) (aa mv aj))) aj)) aj)) μ s=.ok (.loc k) s'/\fD s s' k D'/\vF af E (n+1) (b+21) D':=by
 obtain⟨k1,s1,v,e1,N1,bv⟩:=q! (s:=s) (mc:=mc) (mn:=mn) (mv:=mv) (P:=gP 10) hc (fun g=>hn _) hv m4;have ky:=qV (bU d.s) (F9 (v:=v) (af:=af) c0);obtain⟨k,s2,e2,N2⟩:=jY (N1.old hr) N1.2.2 (fun t ht=>lE m1 (ky t ht).1) (by show D.length+1<_;have:=d.l;lia);refine⟨k,s2,_,by rw[aw (bT hm e1)];exact e2,⟨N1.ap.trans N2.ap,Vx N1.ap.len N2.2.1,N2.2.2⟩,zE ky (fun t ht i=>?_) (by rw[Vr];have:=d.l;show D.length+1<=_;lia) (by lia) (fun t ht=>?_) b1⟩
 .rcases Wb.mp ht with h|h
  .exact d.hi t h i
  .rw[V0.mp h];exact ZW (zF c0 i).2 ce
 .rcases Wb.mp ht with h|h
  .exact d.b t h
  .rw[V0.mp h];exact bv.mono b1
abbrev cl(k:Int):ME:=ah PM.bh (aa (ae 0) (aa (mC (.int k)) aj))
abbrev md(k d m:Int):ME:=ak dJ (ak gv (cl k) (mC (.int d))) (mC (.int m))
abbrev on(c:Int)(v:ME):ME:=bW (aa (cq (aa (ah gW (aa (ak cu (bW (aa (mC (.int c)) aj)) (ae 1)) aj)) (aa v aj))) aj)
abbrev RA:MB:=fw (bO (ak fZ (md 1 6 4) (mC (.int 1)))) (aG 4 (ah PM.c! (aa (ae 4) (aa (ah PM.a! (aa (ae 6) (aa (on 1 (mC (.int 1))) aj))) aj)))) aX
abbrev RC:MB:=fw (bO (ak fZ (md 1 192 4) (mC (.int 1)))) (aG 4 (ah PM.c! (aa (ae 4) (aa (on 0 (ak a8 (mC (.int 1)) (ak dJ (cl 5) (mC (.int 9))))) aj)))) aX
abbrev RD:MB:=fw (bO (ak ltV (md 1 192 4) (mC (.int 2)))) (aG 6 (ah PM.c! (aa (ae 6) (aa (on 0 (ak a8 (mC (.int 2)) (md 5 9 9))) aj)))) aX
abbrev RE:MB:=fw (bO (ak fZ (md 1 24 8) (mC (.int 1)))) (aG 6 (bW aj)) aX
section
variable{r b:Nat}{E low:Int}{s:ai}
abbrev vW(af:Nat)(E kind:Int)(r:Nat)(low:Int)(b:Nat):MN.Env:=[some (.loc 0),some (.int (af:Int)),some (.int E),some (.int kind),some (.loc r),some (.int low),some (.loc b)]
theorem KC{v:Int}(h0:0<=v)(h1:v<=20):gP 10 v:=by show v.natAbs<1024;lia
theorem JD(hi:aq s 0=some (ns.map ao.int))(m1:1<=af)(m4:af<=4)(e0:0<=E)(hr:s[r]?=some (.lst (D.map tV)))(hb:s[b]?=some (.lst (B.map tV)))(d:vF af E 5 80 D)(dB:vF af E 5 80 B):
    ∃r' s' D',RA (vW af E kind r low b) s=.nx (vW af E kind r' low b) s'/\Ap s s'/\s'[r']?=some (.lst (D'.map tV))/\vF af (E+1) 10 123 D':=by
  obtain⟨c,hc⟩:=Gu hi 6 4 1 (by decide) (by decide);cases c with
  |false=>exact⟨r,s,D,gz (hc _),Ap.JC,hr,d.mono (by lia) (by decide) (by decide)⟩
  |true=>
    obtain⟨k1,s1,v,e1,N1,rfl⟩:=q! (μ:=vW af E kind r low b) (s:=s) (mc:=mC (.int 1)) (mn:=ae 1) (mv:=mC (.int 1)) (c:=1) (P:=fun v=>v=1) (af:=af) (fun _=>rfl) (fun _=>rfl) (fun _=>⟨1,rfl,rfl⟩) m4;have ko:=F9 (v:=1) (af:=af) (c:=1) (by decide);obtain⟨k2,s2,e2,N2⟩:=gY (N1.zi (aU hb)) N1.it m1 m4 dB.s.len (fun t ht=>(ko t ht).1) (fun x hx y hy=>g8 (dB.b x hx) (show gP 1 y.2 by rw[V0.mp hy];exact pK (by decide)) (by decide) (by decide)) (by rw[WZ];have:=dB.l;lia);have d2:vF af (E+1) 5 102 (d! 0 (aO B [(List.replicate af 1,1)])):=by
      refine zE (b:=81) (gK (bU dB.s) ko) (fun t ht i=>?_) (by rw[cX,WZ];have:=dB.l;lia) (by decide) (fun t ht=>?_) (by decide)
      · obtain⟨x,hx,y,hy,rfl⟩:=cL ht;rw[V0.mp hy];show gx (aL x.1 (List.replicate af 1)) i<=_;rw[gX i (by rw[dB.s.len x hx,We])];have:=dB.hi x hx i;have:=(zF (af:=af) (c:=1) (by decide) i).2;lia
      · obtain⟨x,hx,y,hy,rfl⟩:=cL ht;rw[V0.mp hy];exact(dB.b x hx).mul (pK (k:=1) (by decide))
    have kk:=qV (bU d.s) (bU d2.s);have a2:=N1.ap.trans N2.ap;obtain⟨k3,s3,e3,N3⟩:=jY (a2.at hr) N2.2.2 (fun t ht=>lE m1 (kk t ht).1) (by have:=d.l;have:=d2.l;lia);refine⟨k3,s3,_,?_,a2.trans N3.ap,N3.2.2,zE (b:=102) kk (fun t ht i=>?_) (by rw[Vr];have:=d.l;have:=d2.l;lia) (by decide) (fun t ht=>?_) (by decide)⟩
    · show fw _ (aG 4 _) aX _ s=_;rw[jX (hc _),bj (show ah PM.c! _ _ s=.ok (.loc k3) s3 by
        rw[aw (bT (v:=.loc r) (s1:=s) rfl (show ah PM.a! _ _ s=.ok (.loc k2) s2 by rw[aw (bT (v:=.loc b) (s1:=s) rfl e1)];exact e2))];exact e3)]
      rfl
    · rcases Wb.mp ht with h|h
      · have:=d.hi t h i;lia
      · exact d2.hi t h i
    · rcases Wb.mp ht with h|h
      · exact(d.b t h).mono (by decide)
      · exact d2.b t h
theorem JE(hi:aq s 0=some (ns.map ao.int))(m1:1<=af)(m4:af<=4)(e0:0<=E)(hr:s[r]?=some (.lst (D.map tV)))(d:vF af (E+1) 10 123 D):
  ∃r' s' D',RC (vW af E kind r low b) s=.nx (vW af E kind r' low b) s'/\Ap s s'/\s'[r']?=some (.lst (D'.map tV))/\vF af (E+1) 12 160 D':=by
 obtain⟨c,hc⟩:=Gu hi 192 4 1 (by decide) (by decide);cases c with
 |false=>exact⟨r,s,D,gz (hc _),Ap.JC,hr,d.mono (XG _) (by decide) (by decide)⟩
 |true=>
  have hv:∀g,∃v,ak a8 (mC (.int 1)) (ak dJ (cl 5) (mC (.int 9))) (vW af E kind r low b) (s++g)=.ok (.int v) (s++g)/\gP 10 v:=fun g=>by obtain⟨o,eo⟩:=jk (k:=5) (aJ hi g) (by decide) (by decide);have q:=f9 (m:=9) (by decide) o;exact⟨1+o.fmod 9,by rw[aS (x:=.int 1) (s1:=s++g) rfl (iI (j:=9) (eo _) (by decide))];rfl,KC (by lia) (by lia)⟩
  obtain⟨k,s',D',e,N,d'⟩:=KA (μ:=vW af E kind r low b) (m:=ae 4) (mc:=mC (.int 0)) (mn:=ae 1) (c:=0) m1 m4 hr d rfl (fun _=>rfl) (fun _=>rfl) hv (by decide) (by lia) (by decide) (by decide);refine⟨k,s',D',?_,N.ap,N.2.2,d'.mono (XG _) (by decide) (by decide)⟩;show fw _ (aG 4 _) aX _ s=_;rw[jX (hc _),bj e];rfl
theorem JF(hi:aq s 0=some (ns.map ao.int))(m1:1<=af)(m4:af<=4)(e0:0<=E)(hb:s[b]?=some (.lst (B.map tV)))(d:vF af E 5 80 B):
  ∃b' s' B',RD (vW af E kind r low b) s=.nx (vW af E kind r low b') s'/\Ap s s'/\s'[b']?=some (.lst (B'.map tV))/\vF af E 6 160 B':=by
 obtain⟨o1,e1⟩:=jk (k:=1) hi (by decide) (by decide);have hc:bO (ak ltV (md 1 192 4) (mC (.int 2))) (vW af E kind r low b) s=.ok (decide ((o1.fdiv 192).fmod 4<2)) s:=by refine cU ?_;rw[aS (iI (j:=4) (lC (j:=192) (e1 _) (vc (by decide) (by decide))) (by decide)) (y:=.int 2) (s2:=s) rfl];rfl
 cases z:decide ((o1.fdiv 192).fmod 4<2) with
 |false=>rw[z]at hc;exact⟨b,s,B,gz hc,Ap.JC,hb,d.mono (XG _) (by decide) (by decide)⟩
 |true=>
  rw[z]at hc;have hv:∀g,∃v,ak a8 (mC (.int 2)) (md 5 9 9) (vW af E kind r low b) (s++g)=.ok (.int v) (s++g)/\gP 10 v:=fun g=>by obtain⟨o,eo⟩:=jk (k:=5) (aJ hi g) (by decide) (by decide);have q:=f9 (m:=9) (by decide) (o.fdiv 9);exact⟨2+(o.fdiv 9).fmod 9,by rw[aS (x:=.int 2) (s1:=s++g) rfl (iI (j:=9) (lC (j:=9) (eo _) (vc (by decide) (by decide))) (by decide))];rfl,KC (by lia) (by lia)⟩
  obtain⟨k,s',D',e,N,d'⟩:=KA (μ:=vW af E kind r low b) (m:=ae 6) (mc:=mC (.int 0)) (mn:=ae 1) (c:=0) m1 m4 hb d rfl (fun _=>rfl) (fun _=>rfl) hv (by decide) e0 (by decide) (by decide);refine⟨k,s',D',?_,N.ap,N.2.2,d'.mono (XG _) (by decide) (by decide)⟩;show fw _ (aG 6 _) aX _ s=_;rw[jX hc,bj e];rfl
theorem JG(hi:aq s 0=some (ns.map ao.int))(hb:s[b]?=some (.lst (B.map tV)))(d:vF af E 6 160 B):
  ∃b' s' B',RE (vW af E kind r low b) s=.nx (vW af E kind r low b') s'/\Ap s s'/\s'[b']?=some (.lst (B'.map tV))/\vF af E 6 160 B':=by
 obtain⟨c,hc⟩:=Gu hi 24 8 1 (by decide) (by decide);cases c with
 |false=>exact⟨b,s,B,gz (hc _),Ap.JC,hb,d⟩
 |true=>
  refine⟨s.length,s++[.lst []],[],?_,⟨_,rfl⟩,dW s _,⟨List.Pairwise.nil,(fun t h=>nomatch h),(fun t h=>nomatch h),(fun t h=>nomatch h)⟩,(fun t h=>nomatch h),V? _,(fun t h=>nomatch h)⟩;show fw _ (aG 6 _) aX _ s=_;rw[jX (hc _),bj (fW (vs:=[]) (s1:=s) rfl (by decide))];rfl
theorem zG(hi:aq s 0=some (ns.map ao.int))(m1:1<=af)(m4:af<=4):
    ∃E r b s' D B,PM.i9 [.loc 0,.int (af:Int)] s=.ok (.tup [.loc r,.loc b]) s'/\Ap s s'/\s'[r]?=some (.lst (D.map tV))/\s'[b]?=some (.lst (B.map tV))/\vF af (E+1) 12 160 D/\vF af E 6 160 B/\(E=3\/af=1/\E=9):=by
  obtain⟨o0,u0⟩:=jk (k:=0) hi (by decide) (by decide);obtain⟨o1,u1⟩:=jk (k:=1) hi (by decide) (by decide);obtain⟨o2,u2⟩:=jk (k:=2) hi (by decide) (by decide);obtain⟨E,hE,eE⟩:∃E,(E=3\/af=1/\E=9)/\ak a8 (mC (.int 3)) (ak cu (mC (.int 6)) (ah BU (aa (l_ (ak fZ (ae 1) (mC (.int 1))) (ak fZ (md 0 144 2) (mC (.int 1)))) aj))) [some (.loc 0),some (.int (af:Int)),none,none,none,none,none] s=.ok (.int E) s:=by
    have f1:ak fZ (ae 1) (mC (.int 1)) [some (.loc 0),some (.int (af:Int)),none,none,none,none,none] s=.ok (.bl ((af:Int)==1)) s:=oP (o:=(af:Int)) rfl;have f2:ak fZ (md 0 144 2) (mC (.int 1)) [some (.loc 0),some (.int (af:Int)),none,none,none,none,none] s=.ok (.bl ((o0.fdiv 144).fmod 2==1)) s:=oP (iI (j:=2) (lC (j:=144) (u0 _) (vc (by decide) (by decide))) (by decide));have fin:∀c:Bool,l_ (ak fZ (ae 1) (mC (.int 1))) (ak fZ (md 0 144 2) (mC (.int 1))) [some (.loc 0),some (.int (af:Int)),none,none,none,none,none] s=.ok (.bl c) s->ak a8 (mC (.int 3)) (ak cu (mC (.int 6)) (ah BU (aa (l_ (ak fZ (ae 1) (mC (.int 1))) (ak fZ (md 0 144 2) (mC (.int 1)))) aj))) [some (.loc 0),some (.int (af:Int)),none,none,none,none,none] s=.ok (.int (3+6*(if c then 1 else 0))) s:=fun c h=>by
      rw[aS (x:=.int 3) (s1:=s) rfl (y:=.int (6*(if c then 1 else 0))) (s2:=s) (by
        rw[aS (x:=.int 6) (s1:=s) rfl (y:=.int (if c then 1 else 0)) (s2:=s) (by rw[aw (d8 h)];rfl)];exact je (by decide) (by decide))]
      rfl
    cases z:((af:Int)==1) with
    |false=>
      rw[z]at f1;exact⟨_,.inl rfl,fin false (by rw[nI,f1,ar,Ih])⟩
    |true=>
      rw[z]at f1;have f3:=y? f1 f2;have m:af=1:=by have:=eq_of_beq z;lia
      cases z2:((o0.fdiv 144).fmod 2==1) with
      |false=>rw[z2]at f3;exact⟨_,.inl rfl,fin false f3⟩
      |true=>rw[z2]at f3;exact⟨_,.inr ⟨m,rfl⟩,fin true f3⟩
  have e0:3<=E:=by lia
  obtain⟨kind,hk⟩:∃kind,kind=o1.fmod 3:=⟨_,rfl⟩
  have q1:=f9 (m:=6) (by decide) (o0.fdiv 4);obtain⟨r,s1,D,ea,NA,dA⟩:=drawn (cell:=o2) (terms:=(o0.fdiv 4).fmod 6) (power:=E) (kind:=kind) m1 m4 (by lia) (by lia) (by lia) s;have OP:=NA.zi hi;obtain⟨p0,w0⟩:=jk (k:=0) OP (by decide) (by decide);obtain⟨p1,w1⟩:=jk (k:=1) OP (by decide) (by decide);obtain⟨p3,w3⟩:=jk (k:=3) OP (by decide) (by decide);have q2:=f9 (m:=2) (by decide) (p1.fdiv 3);have q3:=f9 (m:=6) (by decide) (p0.fdiv 24);obtain⟨low,aac⟩:∃low,low=(p1.fdiv 3).fmod 2:=⟨_,rfl⟩
  obtain⟨b,s2,B,eb,NB,dB⟩:=drawn (cell:=p3) (terms:=(p0.fdiv 24).fmod 6) (power:=E-low) (kind:=kind) m1 m4 (by lia) (by lia) (by lia) s1;have IA:=NB.zi OP;obtain⟨r1,s3,D1,g1,a1,h1,d1⟩:=JD (E:=E) (kind:=kind) (low:=low) IA m1 m4 (by lia) (NB.old NA.2.2) NB.2.2 dA (dB.mono (by lia) (Vo _) (Vo _));have hi3:=Ap.it a1 IA;obtain⟨r2,s4,D2,g2,a2,h2,d2⟩:=JE (E:=E) (kind:=kind) (low:=low) (b:=b) hi3 m1 m4 (by lia) h1 d1;have hi4:=Ap.it a2 hi3;obtain⟨b3,s5,B3,g3,a3,h3,d3⟩:=JF (E:=E) (kind:=kind) (low:=low) (r:=r2) hi4 m1 m4 (by lia) ((a1.trans a2).at NB.2.2) (dB.mono (by lia) (Vo _) (Vo _));have hi5:=Ap.it a3 hi4;obtain⟨b4,s6,B4,g4,a4,h4,d4⟩:=JG (E:=E) (kind:=kind) (low:=low) (r:=r2) hi5 h3 d3;refine⟨E,r2,b4,s6,D2,B4,?_,NA.ap.trans (NB.ap.trans (a1.trans (a2.trans (a3.trans a4)))),(a3.trans a4).at h2,h4,d2,d4,hE⟩;unfold PM.i9;rw[bw (np:=2) (us:=[ao.loc 0,.int (af:Int)]) rfl];show(aB (aG 2 _) _ [some (.loc 0),some (.int (af:Int)),none,none,none,none,none] s).fin=_;rw[ay,bj eE,az];show(aB (aG 3 _) _ [some (.loc 0),some (.int (af:Int)),some (.int E),none,none,none,none] s).fin=_;rw[ay,bj (iI (j:=3) (u1 _) (by decide)),az,<-hk];show(aB (aG 4 _) _ [some (.loc 0),some (.int (af:Int)),some (.int E),some (.int kind),none,none,none] s).fin=_;rw[ay,bj (show ah PM.dY _ _ s=.ok (.loc r) s1 by
    rw[aw (dC (u2 _) (dC (v:=.int (af:Int)) (s1:=s) rfl (dC (iI (j:=6) (lC (j:=4) (u0 _) (vc (by decide) (by decide))) (by decide)) (bT (v:=.int E) (s1:=s) rfl (w:=.int kind) (s2:=s) rfl))))];exact ea),az]
  show(aB (aG 5 _) _ [some (.loc 0),some (.int (af:Int)),some (.int E),some (.int kind),some (.loc r),none,none] s1).fin=_;rw[ay,bj (iI (j:=2) (lC (j:=3) (w1 _) (vc (by decide) (by decide))) (by decide)),az,<-aac];show(aB (aG 6 _) _ [some (.loc 0),some (.int (af:Int)),some (.int E),some (.int kind),some (.loc r),some (.int low),none] s1).fin=_;rw[ay,bj (show ah PM.dY _ _ s1=.ok (.loc b) s2 by
    rw[aw (dC (w3 _) (dC (v:=.int (af:Int)) (s1:=s1) rfl (dC (iI (j:=6) (lC (j:=24) (w0 _) (vc (by decide) (by decide))) (by decide)) (bT (v:=.int (E-low)) (s1:=s1) rfl (w:=.int kind) (s2:=s1) rfl))))];exact eb),az]
  show(aB RA _ (vW af E kind r low b) s2).fin=_;rw[ay,g1,az];show(aB RC _ (vW af E kind r1 low b) s3).fin=_;rw[ay,g2,az];show(aB RD _ (vW af E kind r2 low b) s4).fin=_;rw[ay,g3,az];show(aB RE _ (vW af E kind r2 low b3) s5).fin=_;rw[ay,g4,az];rfl
end
theorem xI{s:ai}{a b:Nat}(ha:s[a]?=some (.lst (D.map tV)))(hb:s[b]?=some (.lst (D.map tV))):kX 16 s (.loc a) (.loc b)=some true:=by unfold kX;simp only[vw,aU ha,aU hb];exact j! s 14 _ (NW D)
theorem Bb{s:ai}{a b:Nat}(h1:s[a]?=some (.lst (D.map tV)))(h2:s[b]?=some (.lst (B.map tV))):cg s [a,b] [D,B]:=⟨rfl,fun i l X e1 e2=>by
 match i,e1,e2 with
 |0,e1,e2=>cases e1;cases e2;exact h1
 |1,e1,e2=>cases e1;cases e2;exact h2
 |i+2,e1,_=>cases e1⟩
structure St(M:eQ)(s:ai)(h a b p q:Nat)(D B:List aA):Prop where
 t:g? s M.own M.line M.col M.S.qual
 hh:s[h]?=some (.lst ([a,b].map ao.loc))
 ha:s[a]?=some (.lst (D.map tV))
 hb:s[b]?=some (.lst (B.map tV))
 hp:s[p]?=some (.lst (D.map tV))
 hq:s[q]?=some (.lst (B.map tV))
section
variable{M:eQ}{s:ai}{h a b at_:Nat}{μ:MN.Env}
theorem St.ap(H:St M s h a b p q D B)(A:Ap s s'):St M s' h a b p q D B:=⟨A.tab H.t,A.at H.hh,A.at H.ha,A.at H.hb,A.at H.hp,A.at H.hq⟩
theorem St.eq(H:St M s h a b p q D B){m5 m3:ME}(v5:m5 μ s=.ok (.loc h) s)(v2:∀s,m2 μ s=.ok (.loc p) s)(v3:∀s,m3 μ s=.ok (.loc q) s):∃s',Ap s s'/\ak fZ m5 (bW (aa m2 (aa m3 aj))) μ s=.ok (.bl true) s'/\ak jJ m5 (bW (aa m2 (aa m3 aj))) μ s=.ok (.bl false) s':=by
 have l:=fW (bT (v2 s) (v3 s)) (by show 2<=1000;decide);obtain⟨s1,d_⟩:∃s1,s1=s++[aR.lst [ao.loc p,.loc q]]:=⟨_,rfl⟩
 rw[<-d_]at l;have A:Ap s s1:=⟨_,d_⟩
 have H1:=H.ap A;have e:=vC H1.hh (show s1[s.length]?=some (.lst ([p,q].map ao.loc)) by rw[d_];exact dW s _) (Bb H1.ha H1.hb) (Bb H1.hp H1.hq);refine⟨s1,A,?_,?_⟩
 .rw[aS v5 l];unfold fZ;rw[e]
 .rw[aS v5 l];unfold jJ;rw[e];rfl
theorem St.args(H:St M s h a b p q D B){m5 m4:ME}(v5:∀s,m5 μ s=.ok (.loc h) s)(v4:∀s,m4 μ s=.ok (.int (at_:Int)) s):aa (ak cw m5 (mC (.int 0))) (aa (ak cw m5 (mC (.int 1))) (aa m4 aj)) μ s=.ok [.loc a,.loc b,.int (at_:Int)] s:=by
 have e0:ak cw m5 (mC (.int 0)) μ s=.ok (.loc a) s:=by rw[aS (v5 s) (y:=.int 0) (s2:=s) rfl];exact nL (aU H.hh) (iu (j:=0) rfl)
 have e1:ak cw m5 (mC (.int 1)) μ s=.ok (.loc b) s:=by rw[aS (v5 s) (y:=.int 1) (s2:=s) rfl];exact nL (aU H.hh) (iu (j:=1) rfl)
 exact dC e0 (bT e1 (v4 s))
end
abbrev pM(af p q at_ h:Nat)(v:ao)(x7 x8 x9:Option ao):MN.Env:=[some (.loc 0),some (.int (af:Int)),some (.loc p),some (.loc q),some (.int (at_:Int)),some (.loc h),some v,x7,x8,x9]
section
variable{M:eQ}{s:ai}{h a b at_:Nat}
theorem zH(H:St M s h a b p q D []):∃s',ie M [some (.loc 0),some (.int (af:Int)),some (.loc p),some (.loc q),some (.int (at_:Int)),some (.loc h),none,none,none,none] s=.rt (.bl true) s':=by
 obtain⟨g1,e1⟩:=xH (M:=M) (p:=a) (a:=at_) (oR (M:=M) (p:=a) (a:=at_) (aU H.hb));obtain⟨s1,d_⟩:∃s1,s1=s++g1:=⟨_,rfl⟩
 rw[<-d_]at e1;have H1:=H.ap (⟨_,d_⟩:Ap s s1);obtain⟨s2,eV⟩:∃s2,s2=s1++[aR.lst []]:=⟨_,rfl⟩
 have H2:=H1.ap (⟨_,eV⟩:Ap s1 s2);obtain⟨s3,AQ⟩:∃s3,s3=s2++[aR.lst []]:=⟨_,rfl⟩
 obtain⟨s4,Gx⟩:∃s4,s4=s3++[aR.lst []]:=⟨_,rfl⟩
 obtain⟨g5,e5⟩:=xH (M:=M) (p:=s2.length) (b:=s3.length) (a:=at_) (s:=s4) (oR (M:=M) (by rw[Gx];exact bH s3 _));refine⟨s4++g5,?_⟩;unfold ie;rw[ay,bj (show ah (cT M) _ _ s=.ok (.int 0) s1 by rw[aw (H.args (at_:=at_) (m5:=ae 5) (m4:=ae 4) (fun _=>rfl) (fun _=>rfl))];exact e1),az];show jV M (pM af p q at_ h (.int 0) none none none) s1=_;unfold jV;have t:bO (ak fZ (ae 3) (bW aj)) (pM af p q at_ h (.int 0) none none none) s1=.ok true s2:=by refine cU ?_;rw[aS (x:=.loc q) (s1:=s1) rfl (fW (vs:=[]) (s1:=s1) rfl (by decide)),<-eV,eq_nil (aU H2.hq) (by rw[eV];exact bH s1 _)];rfl
 have r1:ak fZ (ae 6) (mC (.int 0)) (pM af p q at_ h (.int 0) none none none) s2=.ok (.bl true) s2:=by rw[oP (o:=0) (s1:=s2) rfl];rfl
 have r2:ak fZ (ah (cT M) (aa (bW aj) (aa (bW aj) (aa (ae 4) aj)))) (mC (.int 0)) (pM af p q at_ h (.int 0) none none none) s2=.ok (.bl true) (s4++g5):=by
  have l1:bW aj (pM af p q at_ h (.int 0) none none none) s2=.ok (.loc s2.length) s3:=by rw[AQ];exact fW (vs:=[]) (s1:=s2) rfl (by decide)
  have l2:bW aj (pM af p q at_ h (.int 0) none none none) s3=.ok (.loc s3.length) s4:=by rw[Gx];exact fW (vs:=[]) (s1:=s3) rfl (by decide)
  rw[oP (show ah (cT M) _ _ s2=.ok (.int 0) (s4++g5) by rw[aw (dC l1 (bT l2 (w:=.int (at_:Int)) (s2:=s4) rfl))];exact e5)];rfl
 rw[ay,jX t,ba,y? r1 r2,aE];rfl
theorem JH{K:Nat}(C:j4 af at_ B K)(hK:K=(aW D at_-aW B at_+1).toNat)(tJ:M.S.ps.length=2)(sD:cy af D)(lD:D.length<=12)(bD:∀t∈D,gP 160 t.2)(H:St M s h a b p q D B):
    ∃s',ie M [some (.loc 0),some (.int (af:Int)),some (.loc p),some (.loc q),some (.int (at_:Int)),some (.loc h),none,none,none,none] s=.rt (.bl true) s':=by
  have h4:=C.h4;have ha:=C.ha;have lB:=C.l;have m1:1<=af:=by lia
  obtain⟨Q,R,O,run⟩:=JB C hK sD lD bD;obtain⟨fS,fL,fB⟩:=Jz C;obtain⟨F,hF⟩:∃F,F=j5 af (aK B at_) K:=⟨_,rfl⟩
  obtain⟨f,kq,kr,s1,e1,a1,sm,o1,o2,o3⟩:=run tJ H.t H.ha H.hb;have H1:=H.ap a1;have hf:=sm.2 0 f _ rfl rfl;have hkq:=sm.2 1 kq _ rfl rfl;have SQ:=sm.2 2 kr _ rfl rfl;obtain⟨v,hv⟩:∃v,v=ao.tup [.loc f,.loc kq,.loc kr]:=⟨_,rfl⟩
  -- t5
  obtain⟨s2,eV⟩:∃s2,s2=s1++[aR.lst []]:=⟨_,rfl⟩
  have a2:Ap s1 s2:=⟨_,eV⟩
  have H2:=H1.ap a2;have t5:bO (ak fZ (ae 3) (bW aj)) (pM af p q at_ h v none none none) s1=.ok false s2:=by
    refine cU ?_;rw[aS (x:=.loc q) (s1:=s1) rfl (fW (vs:=[]) (s1:=s1) rfl (by decide)),<-eV,eq_nil (aU H2.hq) (by rw[eV];exact bH s1 _)];cases z:B with
    |nil=>exact absurd z C.ne
    |cons t B'=>rfl
  -- t6
  obtain⟨s3,a3,_,e3⟩:=H2.eq (μ:=pM af p q at_ h v none none none) (m5:=ae 5) (m2:=ae 2) (m3:=ae 3) rfl (fun _=>rfl) (fun _=>rfl);have H3:=H2.ap a3;have i6:bO (x_ "tuple" (ae 6)) (pM af p q at_ h v none none none) s2=.ok true s2:=by refine cU ?_;rw[hv];rfl
  have l6:bO (ak jJ (ah fe (aa (ae 6) aj)) (mC (.int 3))) (pM af p q at_ h v none none none) s2=.ok false s2:=by refine cU ?_;rw[hv];rfl
  have t6:=gz (B:=aP (mC (.bl false))) (tX (qG i6) (tX l6 (cU e3)))
  -- t7
  have Kx:=a2.trans a3;obtain⟨μ',s3',e7,es7,y7,rfl⟩:=cV (g:=fun _=>True) (a:=au 7) (body:=fw (cN (bO (ah PM.cC (aa (ae 7) (aa (ae 1) aj))))) (aP (mC (.bl false))) aX)
    (fun _ μ t=>t=s3/\∃y7,μ=pM af p q at_ h v y7 none none) ([f,kq,kr].map ao.loc) 0 (pM af p q at_ h v none none none) s3
    (by
      rintro i u μ t hu ⟨rfl,y7,rfl⟩;refine⟨trivial,?_⟩;have one:∀{x:Nat}{X:List aA},t[x]?=some (.lst (X.map tV))->cy af X->∃μ1,au 7 (ao.loc x) (pM af p q at_ h v y7 none none)=some μ1/\∃μ' av,(fw (cN (bO (ah PM.cC (aa (ae 7) (aa (ae 1) aj))))) (aP (mC (.bl false))) aX μ1 t=.nx μ' av\/fw (cN (bO (ah PM.cC (aa (ae 7) (aa (ae 1) aj))))) (aP (mC (.bl false))) aX μ1 t=.ct μ' av)/\av=t/\∃y7,μ'=pM af p q at_ h v y7 none none:=fun{x X}hx sx=>by refine⟨pM af p q at_ h v (some (.loc x)) none none,rfl,pM af p q at_ h v (some (.loc x)) none none,t,.inl ?_,rfl,_,rfl⟩;exact gz (qG (cU (by rw[aw (bT (v:=.loc x) (s1:=t) rfl (w:=.int (af:Int)) (s2:=t) rfl)];exact Cr hx sx m1)))
      match i,hu with
      |0,hu=>cases hu;exact one (Kx.at hf) fS
      |1,hu=>cases hu;exact one (Kx.at hkq) O.sQ
      |2,hu=>cases hu;exact one (Kx.at SQ) O.sR
      |i+3,hu=>cases hu)
    (fun μ s hp=>trivial) ⟨rfl,none,rfl⟩
  rw[es7]at e7;have f7:dM (bJ (ae 6)) (au 7) (fw (cN (bO (ah PM.cC (aa (ae 7) (aa (ae 1) aj))))) (aP (mC (.bl false))) aX) (pM af p q at_ h v none none none) s3=.nx (pM af p q at_ h v y7 none none) s3:=by
    have v6:ae 6 (pM af p q at_ h v none none none) s3=.ok (.tup ([f,kq,kr].map ao.loc)) s3:=by rw[hv];rfl
    rw[fA,b_,v6,ar,j_,aE,hU];exact e7
  -- t8
  have pD:=fi (aU H3.hp) sD ha;have pB:=fi (aU H3.hq) C.s ha;have f8:ah u3 (aa (mC (.int 0)) (aa (ak a8 (ak jH (ah PM.aQ (aa (ae 2) (aa (ae 4) aj))) (ah PM.aQ (aa (ae 3) (aa (ae 4) aj)))) (mC (.int 1))) aj)) (pM af p q at_ h v y7 none none) s3=.ok (.int (K:Int)) s3:=by
    rw[aw (bT (v:=.int 0) (s1:=s3) rfl (w:=.int (aW D at_-aW B at_+1)) (s2:=s3) (by
      rw[aS (x:=.int (aW D at_-aW B at_)) (s1:=s3) (by
        rw[aS (show ah PM.aQ _ _ s3=.ok (.int (aW D at_)) s3 by rw[aw (bT (v:=.loc p) (s1:=s3) rfl (w:=.int (at_:Int)) (s2:=s3) rfl)];exact pD) (show ah PM.aQ _ _ s3=.ok (.int (aW B at_)) s3 by rw[aw (bT (v:=.loc q) (s1:=s3) rfl (w:=.int (at_:Int)) (s2:=s3) rfl)];exact pB)];rfl) (y:=.int 1) (s2:=s3) rfl]
      rfl)),Nf]
    congr 2;split<;>lia
  -- t9
  obtain⟨μ9,xJ⟩:∃μ:MN.Env,μ=pM af p q at_ h v y7 (some (.int (K:Int))) none:=⟨_,rfl⟩
  have ix:∀{j:Int}{i x:Nat}{t:ai},j=(i:Int)->([f,kq,kr].map ao.loc)[i]?=some (.loc x)->ak cw (ae 6) (mC (.int j)) μ9 t=.ok (.loc x) t:=fun{j i x t}ej hj=>by rw[aS (x:=.tup ([f,kq,kr].map ao.loc)) (s1:=t) (by rw[xJ,hv];rfl) (y:=.int j) (s2:=t) rfl,ej];exact MN.uB (L2.iu hj)
  have ix0:∀t,ak cw (ae 6) (mC (.int 0)) μ9 t=.ok (.loc f) t:=fun t=>ix (i:=0) rfl rfl;have ix1:∀t,ak cw (ae 6) (mC (.int 1)) μ9 t=.ok (.loc kq) t:=fun t=>ix (i:=1) rfl rfl;have ix2:∀t,ak cw (ae 6) (mC (.int 2)) μ9 t=.ok (.loc kr) t:=fun t=>ix (i:=2) rfl rfl;have v2:∀t,ae 2 μ9 t=.ok (.loc p) t:=fun t=>by rw[xJ];rfl
  have v3:∀t,ae 3 μ9 t=.ok (.loc q) t:=fun t=>by rw[xJ];rfl
  have v4:∀t,ae 4 μ9 t=.ok (.int (at_:Int)) t:=fun t=>by rw[xJ];rfl
  have v8:∀t,ae 8 μ9 t=.ok (.int (K:Int)) t:=fun t=>by rw[xJ];rfl
  have emn:=xw (aU H3.hq) (by lia) C.s ha h4;obtain⟨s4,Gx⟩:∃s4,s4=s3++[aR.lst ((aK B at_).map tV)]:=⟨_,rfl⟩
  have a4:Ap s3 s4:=⟨_,Gx⟩
  rw[<-Gx]at emn;obtain⟨kR,s5,e5,n5⟩:=rX (p:=s3.length) (s:=s4) C (by rw[Gx];exact dW s3 _);have Ru:=a4.trans n5.ap;have RF:=Kx.trans Ru;have t9a:bO (ak jJ (ak cw (ae 6) (mC (.int 0))) (ah PM.fC (aa (ah PM.h_ (aa (ae 3) (aa (ae 4) aj))) (aa (ae 8) aj)))) μ9 s3=.ok false s5:=by
    refine cU ?_;rw[aS (ix0 s3) (show ah PM.fC _ μ9 s3=.ok (.loc kR) s5 by
      rw[aw (bT (show ah PM.h_ _ μ9 s3=.ok (.loc s3.length) s4 by rw[aw (bT (v3 s3) (v4 s3))];exact emn) (v8 s4))];exact e5)]
    unfold jJ;rw[xI (RF.at hf) n5.2.2];rfl
  have H5:=H3.ap Ru;have pR5:=fi (aU (RF.at SQ)) O.sR ha;have pB5:=fi (aU H5.hq) C.s ha;have t9b:bO (ak ET (ah PM.aQ (aa (ak cw (ae 6) (mC (.int 2))) (aa (ae 4) aj))) (ah PM.aQ (aa (ae 3) (aa (ae 4) aj)))) μ9 s5=.ok false s5:=by refine cU ?_;rw[aS (show ah PM.aQ _ μ9 s5=.ok (.int (aW R at_)) s5 by rw[aw (bT (ix2 s5) (v4 s5))];exact pR5) (show ah PM.aQ _ μ9 s5=.ok (.int (aW B at_)) s5 by rw[aw (bT (v3 s5) (v4 s5))];exact pB5)];show cD.ok (ao.bl (decide (aW B at_<=aW R at_))) s5=_;rw[VR (by have:=O.pR;lia)]
  have t9:=gz (B:=aP (mC (.bl false))) (tX t9a t9b)
  -- t10
  obtain⟨kA,s6,e6,n6⟩:=gY (aU (RF.at hf)) (aU H5.hp) m1 h4 fS.len sD.len (fun x hx y hy=>g8 (fB x hx) (bD y hy) (by decide) (by decide)) (Wd (V4 fL lD) (by decide));obtain⟨kB,s7,e7',n7⟩:=gY (n6.zi (aU (RF.at hkq))) (n6.zi (aU H5.hq)) m1 h4 O.sQ.len C.s.len (fun x hx y hy=>g8 (O.bQ x hx) (C.b y hy) (by decide) (by decide)) (Wd (V4 O.lQ lB) (by decide));have a17:=RF.trans (n6.ap.trans n7.ap);have kQB:=FW (gK (bU O.sQ) (bU C.s));have lQB:(d! 0 (aO Q B)).length<=466560:=Vx (gJ _) (by rw[cX];exact V4 O.lQ lB);obtain⟨kC,s8,e8,n8⟩:=jY n7.2.2 (a17.at SQ) (fun t ht=>lE m1 (qV kQB (bU O.sR) t ht).1) (by have:=O.lR;lia);have aad:d! 0 (aO (j5 af (aK B at_) K) D)=d! 0 (d! 0 (aO Q B)++R):=FI fun g=>by rw[O.kept,kg,ik]
  have t10:bO (ak jJ (ah PM.a! (aa (ak cw (ae 6) (mC (.int 0))) (aa (ae 2) aj))) (ah PM.c! (aa (ah PM.a! (aa (ak cw (ae 6) (mC (.int 1))) (aa (ae 3) aj))) (aa (ak cw (ae 6) (mC (.int 2))) aj)))) μ9 s5=.ok false s8:=by
    refine cU ?_;rw[aS (show ah PM.a! _ μ9 s5=.ok (.loc kA) s6 by rw[aw (bT (ix0 s5) (v2 s5))];exact e6) (show ah PM.c! _ μ9 s6=.ok (.loc kC) s8 by
      rw[aw (bT (show ah PM.a! _ μ9 s6=.ok (.loc kB) s7 by rw[aw (bT (ix1 s6) (v3 s6))];exact e7') (ix2 s7))];exact e8)]
    unfold jJ;rw[xI ((n7.ap.trans n8.ap).at n6.2.2) (by rw[aad];exact n8.2.2)];rfl
  -- t11
  have a18:=a17.trans n8.ap;have sm8:=sm.ap a18;have v6:ae 6 μ9 s8=.ok (.tup ([f,kq,kr].map ao.loc)) s8:=by rw[xJ,hv];rfl
  obtain⟨kk,s9,ks,e9,a9,hk9,sk9,_,lk9⟩:=pL (m:=ae 6) (μ:=μ9) (it:=bJ (ae 6)) (s:=s8) (s1:=s8) (G:=fun _=>True) (by rw[b_,v6,ar,j_]) (fun _=>trivial) sm8 (by show 3<=1000;decide)
  -- t12
  obtain⟨nY,q?⟩:∃μ:MN.Env,μ=pM af p q at_ h v y7 (some (.int (K:Int))) (some (.loc kk)):=⟨_,rfl⟩
  have w2:∀t,ae 2 nY t=.ok (.loc p) t:=fun t=>by rw[q?];rfl
  have w3:∀t,ae 3 nY t=.ok (.loc q) t:=fun t=>by rw[q?];rfl
  have w4:∀t,ae 4 nY t=.ok (.int (at_:Int)) t:=fun t=>by rw[q?];rfl
  have w5:∀t,ae 5 nY t=.ok (.loc h) t:=fun t=>by rw[q?];rfl
  have w6:∀t,ae 6 nY t=.ok (.tup ([f,kq,kr].map ao.loc)) t:=fun t=>by rw[q?,hv];rfl
  have w9:∀t,ae 9 nY t=.ok (.loc kk) t:=fun t=>by rw[q?];rfl
  obtain⟨RG,N'⟩:∃RG,RG=s9++[aR.lst ([f,kq,kr].map ao.loc)]:=⟨_,rfl⟩
  have SS:Ap s9 RG:=⟨_,N'⟩
  have l1:=ji hf;have l2:=ji hkq;have l3:=ji SQ;have l8:=a18.len;have l9:=a9.len;have JI:∀{x:Nat},x∈[f,kq,kr]->s.length<=x/\x<s1.length:=fun{x}hx=>by simp only[VU,X?,X_]at hx;rcases hx with rfl|rfl|rfl<;>lia
  obtain⟨KD,e11,aaM,kp⟩:=vD (s:=RG) (n:=s9.length) (ls:=[f,kq,kr]) (by rw[N'];exact dW s9 _) ((sm8.ap a9).ap SS) (by
    refine WB.mpr ⟨fun z=>?_,WB.mpr ⟨fun z=>?_,WB.mpr ⟨(fun z=>nomatch z),Y?⟩⟩⟩
    · simp only[VU,X?,X_]at z;lia
    · simp only[VU,X?,X_]at z;lia) (fun z=>by have:=JI z;lia) (by show 3<=1000;decide) (fun X hX=>by
    simp only[VU,X?,X_]at hX;have:=O.lQ;have:=O.lR;rcases hX with rfl|rfl|rfl<;>lia)
  have t12:cN (bO (ah PM.gZ (aa (ah fO (aa (ae 6) aj)) aj))) nY s9=.ok false KD:=by refine qG (cU ?_);rw[aw (d8 (show ah fO _ nY s9=.ok (.loc s9.length) RG by rw[aw (d8 (w6 s9)),N'];rfl)),e11]
  have H8:=H3.ap (Ru.trans (n6.ap.trans (n7.ap.trans n8.ap)));have aae:=a9.trans SS;have out:∀{x:Nat}{c:aR},s[x]?=some c->KD[x]?=some c:=fun{x c}hx=>kp x c ((a1.trans (a18.trans aae)).at hx) fun z=>by have:=JI z;have:=ji hx;lia
  have RH:St M KD h a b p q D B:=⟨by obtain⟨j,hj⟩:=H.t;exact⟨j,out hj⟩,out H.hh,out H.ha,out H.hb,out H.hp,out H.hq⟩
  have aaf:KD[kk]?=some (.lst (ks.map ao.loc)):=kp kk _ (SS.at hk9) fun z=>by have:=JI z;have:=ji hk9;lia
  have aag:cg KD ks [j5 af (aK B at_) K,Q,R]:=⟨sk9.1,fun i x X h1 h2=>kp x _ (SS.at (sk9.2 i x X h1 h2)) fun z=>by
    have:=JI z;have:=lk9 x (Y4.mpr ⟨i,h1⟩);lia⟩
  -- t13
  obtain⟨f',qZ,vz,s12,Rt,SU,aah,_,_,_⟩:=run tJ RH.t RH.ha RH.hb;have v10:ah (PM.cP M) (aa (ak cw (ae 5) (mC (.int 0))) (aa (ak cw (ae 5) (mC (.int 1))) (aa (ae 4) aj))) nY KD=.ok (.tup ([f',qZ,vz].map ao.loc)) s12:=by rw[aw (RH.args (at_:=at_) (m5:=ae 5) (m4:=ae 4) w5 w4)];exact Rt
  obtain⟨kc,s13,ks',Qv,aai,aaj,aak,_,_⟩:=pL (m:=ae 6) (μ:=nY) (s:=KD) (G:=fun _=>True) (it:=bJ (ah (PM.cP M) (aa (ak cw (ae 5) (mC (.int 0))) (aa (ak cw (ae 5) (mC (.int 1))) (aa (ae 4) aj))))) (by rw[b_,v10,ar,j_]) (fun _=>trivial) aah (by show 3<=1000;decide);have F_:=SU.trans aai;have r1:ak fZ (bz 1 [] (bJ (ah (PM.cP M) (aa (ak cw (ae 5) (mC (.int 0))) (aa (ak cw (ae 5) (mC (.int 1))) (aa (ae 4) aj))))) (au 0) aV (ah fO (aa (ae 0) aj))) (ae 9) nY KD=.ok (.bl true) s13:=by rw[aS Qv (w9 s13)];unfold fZ;rw[vC aaj (F_.at aaf) aak (aag.ap F_)]
  obtain⟨s14,SV,r2,_⟩:=(RH.ap F_).eq (μ:=nY) (m5:=ae 5) (m2:=ae 2) (m3:=ae 3) (w5 _) w2 w3;refine⟨s14,?_⟩;unfold ie;rw[ay,bj (show ah (cT M) _ _ s=.ok v s1 by rw[aw (H.args (at_:=at_) (m5:=ae 5) (m4:=ae 4) (fun _=>rfl) (fun _=>rfl)),hv];exact F8 e1),az];show jV M (pM af p q at_ h v none none none) s1=_;unfold jV;rw[ay,gz t5,az];unfold xj;rw[ay,t6,az];unfold xi;rw[ay,f7,az];unfold xh;rw[ay,bj f8,az];show qA M (pM af p q at_ h v y7 (some (.int (K:Int))) none) s3=_;rw[<-xJ];unfold qA;rw[ay,t9,az];unfold tP;rw[ay,gz t10,az];unfold tO;rw[ay,bj e9,az,show μ9.set 9 (some (ao.loc kk))=nY by rw[xJ,q?];rfl];unfold tN;rw[ay,gz t12,az];unfold tM;rw[ba,y? r1 r2,aE];rfl
end
theorem Oa{a:Nat}{E:Int}(e0:-1<=E)(h:∀t∈D,∀i,gx t.1 i<=E):aW D a<=E:=by
 by_cases z:D=[]
 .subst z;exact e0
 .obtain⟨t,ht,e⟩:=vt (a:=a) z;rw[<-e];exact h t ht a
theorem F!(M:eQ)(tJ:M.S.ps.length=2):∀(c:aR)(ns:_S),ns.length<=63->aq [c,.tab M.own M.line M.col M.S.qual] 0=some (ns.map ao.int)->∃av,xn M [.loc 0] [c,.tab M.own M.line M.col M.S.qual]=.ok (.bl true) av:=by
 intro c ns hl hi;have ht0:g? [c,.tab M.own M.line M.col M.S.qual] M.own M.line M.col M.S.qual:=⟨1,rfl⟩
 obtain⟨s,hs⟩:∃s,[c,aR.tab M.own M.line M.col M.S.qual]=s:=⟨_,rfl⟩
 rw[hs]at hi ht0⊢;clear hs;obtain⟨o0,u0⟩:=jk (k:=0) hi (by decide) (by decide);have q0:=f9 (m:=4) (by decide) o0;obtain⟨af,hm⟩:∃af:Nat,(af:Int)=1+o0.fmod 4:=⟨(1+o0.fmod 4).toNat,by lia⟩
 have m1:1<=af:=by lia
 have m4:af<=4:=by lia
 obtain⟨E,p,q,s1,D,B,e1,a1,hp,hq,dD,dB,hE⟩:=zG (af:=af) hi m1 m4;have OP:=Ap.it a1 hi;obtain⟨o4,u4⟩:=jk (k:=4) OP (by decide) (by decide);have q4:=f9 (m:=(af:Int)) (by lia) o4;obtain⟨at_,ha⟩:∃at_:Nat,(at_:Int)=o4.fmod (af:Int):=⟨(o4.fmod (af:Int)).toNat,by lia⟩
 obtain⟨s2,eV⟩:∃s2,s2=s1++[aR.lst (D.map tV)]:=⟨_,rfl⟩
 obtain⟨s3,AQ⟩:∃s3,s3=s2++[aR.lst (B.map tV)]:=⟨_,rfl⟩
 obtain⟨s4,Gx⟩:∃s4,s4=s3++[aR.lst ([s1.length,s2.length].map ao.loc)]:=⟨_,rfl⟩
 have SU:Ap s1 s2:=⟨_,eV⟩
 have a23:Ap s2 s3:=⟨_,AQ⟩
 have a34:Ap s3 s4:=⟨_,Gx⟩
 have SV:=SU.trans (a23.trans a34);have H:St M s4 s3.length s1.length s2.length p q D B:=⟨(a1.trans SV).tab ht0,by rw[Gx];exact dW s3 _,(a23.trans a34).at (by rw[eV];exact dW s1 _),a34.at (by rw[AQ];exact dW s2 _),SV.at hp,SV.at hq⟩
 have fin:∃s',ie M [some (.loc 0),some (.int (af:Int)),some (.loc p),some (.loc q),some (.int (at_:Int)),some (.loc s3.length),none,none,none,none] s4=.rt (.bl true) s':=by
  by_cases z:B=[]
  .subst z;exact zH H
  .have b0:=zz (a:=at_) dB.s z;have d1:=Oa (a:=at_) (E:=E+1) (by lia) dD.hi;exact JH (K:=(aW D at_-aW B at_+1).toNat) ⟨dB.s,z,by lia,m4,dB.l,dB.b,by lia,fun _=>by lia⟩ rfl tJ dD.s dD.l dD.b H
 obtain⟨av,ee⟩:=fin;refine⟨av,?_⟩;unfold xn;rw[bw (np:=1) (us:=[ao.loc 0]) rfl];show(aB (aG 1 _) (mK M) [some (.loc 0),none,none,none,none,none,none,none,none,none] s).fin=_;rw[ay,bj (show ak a8 _ _ _ s=.ok (.int (af:Int)) s by rw[aS (x:=.int 1) (s1:=s) rfl (iI (j:=4) (u0 _) (by decide)),hm];rfl),az];show(mK M [some (.loc 0),some (.int (af:Int)),none,none,none,none,none,none,none,none] s).fin=_;unfold mK;have f1:HJ (bX [au 2,au 3]) (ah PM.i9 (aa (ae 0) (aa (ae 1) aj))) [some (.loc 0),some (.int (af:Int)),none,none,none,none,none,none,none,none] s=.nx [some (.loc 0),some (.int (af:Int)),some (.loc p),some (.loc q),none,none,none,none,none,none] s1:=by unfold HJ;rw[show ah PM.i9 (aa (ae 0) (aa (ae 1) aj)) [some (.loc 0),some (.int (af:Int)),none,none,none,none,none,none,none,none] s=.ok (.tup [.loc p,.loc q]) s1 by rw[aw (bT (v:=.loc 0) (s1:=s) rfl (w:=.int (af:Int)) (s2:=s) rfl)];exact e1];rfl
 rw[ay,f1,az];unfold xk;have f2:ak dJ (ah PM.bh (aa (ae 0) (aa (mC (.int 4)) aj))) (ae 1) [some (.loc 0),some (.int (af:Int)),some (.loc p),some (.loc q),none,none,none,none,none,none] s1=.ok (.int (at_:Int)) s1:=by rw[aS (u4 _) (y:=.int (af:Int)) (s2:=s1) rfl,ha];show(if(af:Int)=0 then cD.bad else .ok (ao.int (o4.fmod (af:Int))) s1)=_;rw[VA (by lia)]
 rw[ay,bj f2,az];show(qC M [some (.loc 0),some (.int (af:Int)),some (.loc p),some (.loc q),some (.int (at_:Int)),none,none,none,none,none] s1).fin=_;unfold qC;have l1:ah fO (aa (ae 2) aj) [some (.loc 0),some (.int (af:Int)),some (.loc p),some (.loc q),some (.int (at_:Int)),none,none,none,none,none] s1=.ok (.loc s1.length) s2:=by rw[aw (d8 (v:=.loc p) (s1:=s1) rfl),mF (aU hp),eV]
 have l2:ah fO (aa (ae 3) aj) [some (.loc 0),some (.int (af:Int)),some (.loc p),some (.loc q),some (.int (at_:Int)),none,none,none,none,none] s2=.ok (.loc s2.length) s3:=by rw[aw (d8 (v:=.loc q) (s1:=s2) rfl),mF (aU (SU.at hq)),AQ]
 rw[ay,bj (fW (bT l1 l2) (by show 2<=1000;decide)),az];show(ie M [some (.loc 0),some (.int (af:Int)),some (.loc p),some (.loc q),some (.int (at_:Int)),some (.loc s3.length),none,none,none,none] (s3++[aR.lst ([s1.length,s2.length].map ao.loc)])).fin=_;rw[<-Gx,ee];rfl
end qz
namespace qz
open Spec L2 MN
open PyProof.Rows hiding St
def top(i:Nat):Stmt:=PySem.Challenge.pw_polyring_k26_told_rests.main.body.getD i (.Pass ⟨0,0,0,0⟩)
structure Txt(P:_1)(w:World)(K:_R)(mg:_P)(base:Heap):Prop where
 gl:MgK K mg
 b:IT mg ["ValueError","all","bool","dict","int","isinstance","len","list","max","range","sorted","tuple","zip"]
 c:IU K mg ["AlgebraError","NoRing","NoPrime","NoInverse","NotWhole","NoUnknowns","NoTerm","NoCount","NoLead","NoOrder","NotWritten","ByNought","NoMeet","NoParts","NotPlain","NoSums"]
 xK:Glob K mg "MOST_RING" (.int 997)
 rf:Glob K mg "FIRST_PRIMES" PM.fQ
 o?:Glob K mg "MOST_UNKNOWNS" (.int 4)
 sub:eZ K mg tab
 qx:rS K mg qz.kn
theorem JJ(hN:X.N.Nodup)(he:PE X e (tE X E m))(hi:X.N[i]?=some x:=by rfl)(hx:Loc X.env.scope x:=by first|exact Or.inl rfl|exact Or.inr rfl)(hs:swapsWith e (some (.Name x pos')) pos.line X.env=pure false:=by rfl)(hf:X.fn x=true\/X.env.scope.names.lookup x=some .local:=by first|exact .inl rfl|exact .inr rfl|assumption):PS X (.Assign [.Name x pos'] e pos) (tS X E (aG i m)):=Mf i hN he hi hx hs hf
section
variable{P:_1}{w:World}{K:_R}{mg:_P}{base:Heap}(T:Txt P w K mg base)
theorem kL:dF ["_law_error","_law_found"] ["_law_error"] (aC (top 61)):=dE
theorem oS:dF ["multiply","thing","count","answer","place"] ["multiply","thing","count"] (aC (top 25)):=dE
def aal:Option Expr:=Ke (bZ (top 40))
def M:eQ:=⟨QB aal "raised.<locals>.<lambda>" ["one","other"] "ring","raised",103,20⟩
theorem aam:M.S.Ok:=d5.okB rfl rfl rfl rfl rfl rfl rfl (by decide +kernel) (fun _ _ _ _=>MP fun _ _=>rfl)
theorem uk:dF ["ring","row","count"] ["ring","row","count"] (aC (top 40)):=dE
theorem zI:dF ["_law_script","_law_many","_law_row","_law_by","_law_at","_law_handed","_law_found","_law_one","_law_more","_law_kept"] ["_law_script"] (aC (top 65)):=dE
set_option hygiene false
local macro_rules|`(tactic|trivial)=>`(tactic|repeat' first|((with_reducible show PA _ (_::_) _);refine pC ?_ ?_)|with_reducible exact DN|((with_reducible show PE _ (.Name ..) _);first|exact uR _|exact uS (by rfl) T.xK|exact uS (by rfl) T.rf|exact uS (by rfl) T.o?)|((with_reducible show PE _ (.Constant ..) _);first|exact LZ|exact Qb|exact L4|exact L5)|((with_reducible show PE _ _ (tG _ _ _ (ah BL _)));refine p_ (BM hr.hd) (by rfl) (iqq T.b) PyProof.Rows.boot_all ?_)|((with_reducible show PE _ _ (tG _ _ _ (ah gW _)));refine j8 BJ (by rfl) (iqq T.b) ZG ?_)|((with_reducible show PE _ _ (tG _ _ _ (ah fe _)));refine p_ BI (by rfl) (iqq T.b) boot_len ?_)|((with_reducible show PE _ _ (tG _ _ _ (ah u3 _)));refine p_ (BV hr.hd) (by rfl) (iqq T.b) PyProof.Rows.Boot.«max» ?_)|((with_reducible show PE _ _ (tG _ _ _ (ah fO _)));refine j8 BK (by rfl) (iqq T.b) ZO ?_)|((with_reducible show PE _ _ (tG _ _ _ (ah BU _)));refine j8 BW (by rfl) (iqq T.b) PyProof.Rows.Boot.«int» ?_)|((with_reducible show PE _ _ (tG _ _ _ (ah xg _)));refine j8 (Cc hr.hd hr.units) (by rfl) (iqq T.b) PyProof.Rows.boot_dict ?_)|((with_reducible show PE _ _ (tG _ _ _ (ah _ _)));refine Kd (by assumption) hr (by decide) (by rfl) (by first|exact DB|exact Qk) ?_)|((with_reducible show PE _ _ (tG _ _ _ (ak cw _ _)));refine MJ ?_ ?_)|((with_reducible show PE _ _ (tG _ _ _ (ak gQ _ _)));refine HS hr.units ?_ ?_)|((with_reducible show PE _ _ (tG _ _ _ (l_ _ _)));refine L9 ?_ ?_)|((with_reducible show PE _ _ (tG _ _ _ (Sh _ _)));refine Qc ?_ ?_)|((with_reducible show PE _ _ (tG _ _ _ (Ox _ _ _)));refine Qe ?_ ?_ ?_)|((with_reducible show PE _ _ (tG _ _ _ (cq _)));refine Mb ?_)|((with_reducible show PE _ _ (tG _ _ _ (bW _)));refine Mc ?_)|((with_reducible show PE _ _ (tG _ _ _ (mw _ _ _)));refine Qq ?_ ?_ ?_)|((with_reducible show PE _ _ (tG _ _ _ (jM)));refine Eb)|((with_reducible show PE _ (.BinOp ..) _);first|refine NP ?_ ?_|refine NO ?_ ?_|refine NL ?_ ?_|refine NM ?_ ?_|refine NN ?_ ?_|refine NQ ?_ ?_|refine iZ Ic ?_ ?_|refine iZ Ie ?_ ?_|refine iZ IQ ?_ ?_)|((with_reducible show PE _ (.Compare ..) _);first|refine Q6 hr.units ?_ ?_|refine Q7 hr.units ?_ ?_)|((with_reducible show PE _ (.UnaryOp ..) _);first|refine Mk ?_|refine L_ ?_)|((with_reducible show PE _ (.Call (.Attribute ..) ..) _);first|refine BX ?_ ?_|refine E4 ?_ ?_|refine E5 ?_ ?_|refine Ig ?_|refine Ec hr.units ?_ ?_ ?_)|((with_reducible show PE _ _ (tG _ _ _ (x_ _ _)));first|refine uU D5 (by rfl) (iqq T.b) (by rfl) (iqq T.b) PyProof.Rows.boot_int ?_|refine uU BN (by rfl) (iqq T.b) (by rfl) (iqq T.b) PyProof.Rows.boot_bool ?_|refine uU yA (by rfl) (iqq T.b) (by rfl) (iqq T.b) ZG ?_|refine uU BO (by rfl) (iqq T.b) (by rfl) (iqq T.b) ZO ?_)|((with_reducible show PE _ _ (tG _ _ _ (dQ _ _ _ _)));refine IS _ T.sub T.qx (nqq T.c) (by rfl) (iqq T.b) (by rfl))|((with_reducible show PE _ _ (tG _ _ _ (yG _ _ _)));exact HR _ T.sub (iqq T.b) kG (by rfl) (iqq T.b) (by rfl))|((with_reducible show i' _ [_] _);refine DP ?_)|((with_reducible show i' _ (_::_) _);refine Am ?_ ?_)|with_reducible exact Md|((with_reducible show PS _ (.Assign [.Name ..] ..) _);refine JJ (by assumption) ?_)|((with_reducible show PS _ (.Assign [.Tuple ..] ..) _);refine Mq ?_ ?_)|((with_reducible show PS _ (.Assign [.Subscript ..] ..) _);refine HV hr.units ?_ ?_ ?_)|((with_reducible show PS _ (.Return ..) _);refine Me ?_)|((with_reducible show PS _ (.If ..) _);refine Qg ?_ ?_ ?_)|((with_reducible show PS _ (.Expr ..) _);refine Hz ?_)|((with_reducible show PS _ (.While ..) _);refine D9 wD ?_ ?_)|((with_reducible show PS _ (.For ..) _);refine Mv wD rfl ?_ ?_ ?_)|((with_reducible show PS _ (.Raise ..) _);refine BS yH rfl (nqq T.c) (by rfl) ?_)|((with_reducible show PI _ _ _ (tG _ _ _ (bJ _)));refine Mt ?_)|((with_reducible show PI _ _ (.Call ..) _);first|refine BQ (by rfl) (iqq T.b) ?_|refine H9 (by rfl) (iqq T.b) ?_|refine Mu _ _ (by rfl) (iqq T.b) ?_)|((with_reducible show PG _ (.Name ..) _);exact HH _ (by assumption))|((with_reducible show PG _ (.Tuple ..) _);refine Mp rfl ?_)|((with_reducible show zZ _ (_::_) _);refine D6 ?_ ?_)|with_reducible exact HI|((with_reducible show CU _ [] _);exact HK)|((with_reducible show CU _ [_] _);refine HL ?_)|((with_reducible show PT _ (.Compare ..) _);first|refine Q4 hr.units ?_ ?_|refine Q5 hr.units ?_ ?_|refine Q2 ?_ ?_|refine Q3 ?_ ?_|refine kU (NF hr.units) ?_ ?_|refine kU Mo ?_ ?_|refine kU BH ?_ ?_)|((with_reducible show PT _ (.UnaryOp ..) _);refine Ma ?_)|((with_reducible show PT _ (.BoolOp ..) _);refine Ur ?_)|((with_reducible show PT _ _ (tG _ _ _ (bO _)));refine L6 ?_)|refine HX ?_|exact HW|refine Qd ?_ ?_|refine L! ?_|refine L? ?_ ?_|refine Hx ?_|refine L8 ?_|((with_reducible show i' _ _ _);first|refine DP ?_|refine Am ?_ ?_))
include T
theorem xM(F:dG K "is_whole" (top 20)):FnAt P w K mg base "is_whole" 1 PM.fR:=
 FnAt.jg F T.gl (dE (N:=["thing"]) (P:=["thing"])) (fun _ _ _ _ s _ _ nd hr=>by
 trivial)
variable(lJ:FnAt P w K mg base "is_whole" 1 PM.fR)
theorem lK(F:dG K "is_prime_within" (top 21)):FnAt P w K mg base "is_prime_within" 1 PM.b?:=
 FnAt.jg F T.gl (dE (N:=["number"]) (P:=["number"])) (fun _ _ _ _ s _ _ nd hr=>by
 have:(["prime","number"]:_W).Nodup:=by decide +kernel
 trivial
 .refine fj (N:=["prime","number"]) (k:=1) rfl rfl (jU (cl:=[("number",s.heap.objs.size+1)])) ?_ (fun _ _ _ _=>?_) (fun _ _ _ _=>?_) (fun _ _ _ _=>?_)<;>trivial)
variable(mY:FnAt P w K mg base "is_prime_within" 1 PM.b?)
theorem pf(F:dG K "rest_in_ring" (top 24)):FnAt P w K mg base "rest_in_ring" 1 PM.bL:=
 FnAt.jg F T.gl (dE (N:=["ring","number"]) (P:=["ring","number"])) (fun _ _ _ _ s _ _ nd hr=>by
 trivial)
variable(rh:FnAt P w K mg base "rest_in_ring" 1 PM.bL)
theorem CH(F:dG K "add_to" (top 30)):FnAt P w K mg base "add_to" 1 PM.jS:=
 FnAt.jg F T.gl (dE (N:=["totals","exponents","number"]) (P:=["totals","exponents","number"])) (fun _ _ _ _ s _ _ nd hr=>by
 trivial)
variable(xN:FnAt P w K mg base "add_to" 1 PM.jS)
theorem CI(F:dG K "joined" (top 39)):FnAt P w K mg base "joined" 1 PM.joined:=
 FnAt.jg F T.gl (dE (N:=["exponents","others"]) (P:=["exponents","others"])) (fun _ _ _ _ s _ _ nd hr=>by
 have:(["one","other"]:_W).Nodup:=by decide +kernel
 trivial
 .refine fj (N:=["one","other"]) (k:=2) rfl rfl (jU (cl:=[])) ?_ (fun _ _ _ _=>?_) (fun _ _ _ _=>?_) (fun _ _ _ _=>?_)<;>trivial)
variable(F?:FnAt P w K mg base "joined" 1 PM.joined)
theorem xO(F:dG K "power_in" (top 42)):FnAt P w K mg base "power_in" 1 PM.cW:=
 FnAt.jg F T.gl (dE (N:=["row","unknown"]) (P:=["row","unknown"])) (fun _ _ _ _ s _ _ nd hr=>by
 have:(["exponents","number","unknown"]:_W).Nodup:=by decide +kernel
 trivial
 .refine IJ (by rfl) (by rfl) T.b.2.2.2.2.2.2.2.2.1 PyProof.Rows.Boot.«max» ?_ ?_
  .refine fj (N:=["exponents","number","unknown"]) (k:=2) rfl rfl (jU (cl:=[("unknown",s.heap.objs.size+1)])) ?_ (fun _ _ _ _=>?_) (fun _ _ _ _=>?_) (fun _ _ _ _=>?_)<;>trivial
  .trivial)
variable(ri:FnAt P w K mg base "power_in" 1 PM.cW)
theorem rY(F:dG K "with_power" (top 45)):FnAt P w K mg base "with_power" 1 PM.cS:=
 FnAt.jg F T.gl (dE (N:=["exponents","unknown","power"]) (P:=["exponents","unknown","power"])) (fun _ _ _ _ s _ _ nd hr=>by
 trivial)
variable(mZ:FnAt P w K mg base "with_power" 1 PM.cS)
theorem vG(F:dG K "_law_cell" (top 49)):FnAt P w K mg base "_law_cell" 1 PM.bh:=
 FnAt.jg F T.gl (dE (N:=["_law_script","_law_k","_law_cell_here","_law_mark"]) (P:=["_law_script","_law_k"])) (fun _ _ _ _ s _ _ nd hr=>by
 trivial)
variable(oT:FnAt P w K mg base "_law_cell" 1 PM.bh)
theorem rZ(F:dG K "_law_whole" (top 50)):FnAt P w K mg base "_law_whole" 1 PM.fH:=
 FnAt.jg F T.gl (dE (N:=["_law_found"]) (P:=["_law_found"])) (fun _ _ _ _ s _ _ nd hr=>by
 trivial)
variable(vH:FnAt P w K mg base "_law_whole" 1 PM.fH)
theorem r6(F:dG K "_law_mixed" (top 51)):FnAt P w K mg base "_law_mixed" 1 PM.dI:=
 FnAt.jg F T.gl (dE (N:=["_law_cell_here","_law_k","_law_mark"]) (P:=["_law_cell_here","_law_k"])) (fun _ _ _ _ s _ _ nd hr=>by
 trivial)
variable(vI:FnAt P w K mg base "_law_mixed" 1 PM.dI)
theorem rj(F:dG K "_law_number" (top 52)):FnAt P w K mg base "_law_number" 1 PM.bK:=
 FnAt.jg F T.gl (dE (N:=["_law_cell_here","_law_kind"]) (P:=["_law_cell_here","_law_kind"])) (fun _ _ _ _ s _ _ nd hr=>by
 trivial)
variable(r9:FnAt P w K mg base "_law_number" 1 PM.bK)
theorem xP(F:dG K "_law_sum" (top 53)):FnAt P w K mg base "_law_sum" 1 PM.c7:=
 FnAt.jg F T.gl (dE (N:=["_law_pairs","_law_found","_law_exponents","_law_number_here"]) (P:=["_law_pairs"])) (fun _ _ _ _ s _ _ nd hr=>by
 have:(["_law_exponents","_law_found"]:_W).Nodup:=by decide +kernel
 trivial
 .refine fj (N:=["_law_exponents","_law_found"]) (k:=1) rfl rfl (jU (cl:=[("_law_found",s.heap.objs.size+1)])) ?_ (fun _ _ _ _=>?_) (fun _ _ _ _=>?_) (fun _ _ _ _=>?_)
  .trivial
   .refine xa (by rfl) (by rfl) T.b.2.2.2.2.2.2.2.2.2.2.1 PyProof.Rows.Boot.«sorted» ?_<;>trivial
  .trivial
  .trivial
  .trivial)
variable(lM:FnAt P w K mg base "_law_sum" 1 PM.c7)
theorem r_(F:dG K "_law_power" (top 58)):FnAt P w K mg base "_law_power" 1 PM.aQ:=
 FnAt.jg F T.gl (dE (N:=["_law_row","_law_at","_law_found","_law_exponents","_law_number_here"]) (P:=["_law_row","_law_at"])) (fun _ _ _ _ s _ _ nd hr=>by
 trivial)
variable(m7:FnAt P w K mg base "_law_power" 1 PM.aQ)
theorem r!(F:dG K "_law_kinds" (top 61)):tH P w K mg base "_law_kinds" 1 bS:=let⟨_,_,F,a⟩:=F
 tH.mk F (T.gl _ _ a) kL (fun _ _ _ _ _ _=>MM fun _=>rfl) fun dh A outer s H ea oe hr=>by
 have:=kL.nd;trivial
variable(m8:tH P w K mg base "_law_kinds" 1 bS)
theorem r?(F:dG K "_law_apart" (top 63)):FnAt P w K mg base "_law_apart" 1 PM.gZ:=
 FnAt.jg F T.gl (dE (N:=["_law_lists","_law_kept","_law_k"]) (P:=["_law_lists"])) (fun _ _ _ _ s _ _ nd hr=>by
 have:(["_law_one"]:_W).Nodup:=by decide +kernel
 trivial
 .refine MN.kY 1 (N:=["_law_one"]) (k:=1) nd rfl rfl (jU (cl:=[])) ?_ (fun _ _ _ _=>?_) (fun _ _ _ _=>?_) (fun _ _ _ _=>?_)<;>trivial
 .refine fj (N:=["_law_one"]) (k:=1) rfl rfl (jU (cl:=[])) ?_ (fun _ _ _ _=>?_) (fun _ _ _ _=>?_) (fun _ _ _ _=>?_)<;>trivial)
variable(vJ:FnAt P w K mg base "_law_apart" 1 PM.gZ)
include lJ mY in
theorem zJ(F:dG K "is_ring" (top 22)):FnAt P w K mg base "is_ring" 2 PM.j9:=
 FnAt.jg F T.gl (dE (N:=["thing"]) (P:=["thing"])) (fun _ _ _ _ s _ _ nd hr=>by
 trivial)
variable(CJ:FnAt P w K mg base "is_ring" 2 PM.j9)
include lJ in
theorem lN(F:dG K "is_whole_within" (top 28)):FnAt P w K mg base "is_whole_within" 2 PM.bM:=
 FnAt.jg F T.gl (dE (N:=["thing","lowest","highest"]) (P:=["thing","lowest","highest"])) (fun _ _ _ _ s _ _ nd hr=>by
 trivial
 .refine DM DT DW DW ?_ ?_ ?_<;>trivial)
variable(m9:FnAt P w K mg base "is_whole_within" 2 PM.bM)
include rh in
theorem nZ(F:dG K "settled_terms" (top 31)):FnAt P w K mg base "settled_terms" 2 PM.cY:=
 FnAt.jg F T.gl (dE (N:=["ring","pairs","terms"]) (P:=["ring","pairs"])) (fun _ _ _ _ s _ _ nd hr=>by
 have:(["exponents","number","ring"]:_W).Nodup:=by decide +kernel
 have:(["term"]:_W).Nodup:=by decide +kernel
 trivial
 .refine MN.kY 2 (N:=["exponents","number","ring"]) (k:=2) nd rfl rfl (jU (cl:=[("ring",s.heap.objs.size+1)])) ?_ (fun _ _ _ _=>?_) (fun _ _ _ _=>?_) (fun _ _ _ _=>?_)<;>trivial
 .refine fj (N:=["term"]) (k:=1) rfl rfl (jU (cl:=[])) ?_ (fun _ _ _ _=>?_) (fun _ _ _ _=>?_) (fun _ _ _ _=>?_)<;>trivial)
variable(jl:FnAt P w K mg base "settled_terms" 2 PM.cY)
include mZ in
theorem zK(F:dG K "part_in" (top 44)):FnAt P w K mg base "part_in" 2 PM.ke:=
 FnAt.jg F T.gl (dE (N:=["row","unknown","power"]) (P:=["row","unknown","power"])) (fun _ _ _ _ s _ _ nd hr=>by
 have:(["exponents","number","power","unknown"]:_W).Nodup:=by decide +kernel
 trivial
 .refine fj (N:=["exponents","number","power","unknown"]) (k:=2) rfl rfl (AL (cl:=[("power",s.heap.objs.size+2),("unknown",s.heap.objs.size+1)]) (cl':=[("unknown",s.heap.objs.size+1),("power",s.heap.objs.size+2)]) (caps':=[1,2])) ?_ (fun _ _ _ _=>?_) (fun _ _ _ _=>?_) (fun _ _ _ _=>?_)<;>trivial)
variable(CK:FnAt P w K mg base "part_in" 2 PM.ke)
include mZ in
theorem CL(F:dG K "lifted" (top 47)):FnAt P w K mg base "lifted" 2 PM.nQ:=
 FnAt.jg F T.gl (dE (N:=["row","unknown","power"]) (P:=["row","unknown","power"])) (fun _ _ _ _ s _ _ nd hr=>by
 have:(["exponents","number","power","unknown"]:_W).Nodup:=by decide +kernel
 trivial
 .refine fj (N:=["exponents","number","power","unknown"]) (k:=2) rfl rfl (AL (cl:=[("power",s.heap.objs.size+2),("unknown",s.heap.objs.size+1)]) (cl':=[("unknown",s.heap.objs.size+1),("power",s.heap.objs.size+2)]) (caps':=[1,2])) ?_ (fun _ _ _ _=>?_) (fun _ _ _ _=>?_) (fun _ _ _ _=>?_)<;>trivial)
variable(F':FnAt P w K mg base "lifted" 2 PM.nQ)
include lM in
theorem sd(F:dG K "_law_times" (top 54)):FnAt P w K mg base "_law_times" 2 PM.a!:=
 FnAt.jg F T.gl (dE (N:=["_law_ones","_law_others","_law_pairs","_law_one","_law_number_here","_law_other","_law_more"]) (P:=["_law_ones","_law_others"])) (fun _ _ _ _ s _ _ nd hr=>by
 have:(["_law_k","_law_one","_law_other"]:_W).Nodup:=by decide +kernel
 trivial
 .refine fj (N:=["_law_k","_law_one","_law_other"]) (k:=1) rfl rfl (AL (cl:=[("_law_one",s.heap.objs.size+1),("_law_other",s.heap.objs.size+2)]) (cl':=[("_law_other",s.heap.objs.size+2),("_law_one",s.heap.objs.size+1)]) (caps':=[5,3])) ?_ (fun _ _ _ _=>?_) (fun _ _ _ _=>?_) (fun _ _ _ _=>?_)<;>trivial)
variable(i_:FnAt P w K mg base "_law_times" 2 PM.a!)
include lM in
theorem vK(F:dG K "_law_plus" (top 55)):FnAt P w K mg base "_law_plus" 2 PM.c!:=
 FnAt.jg F T.gl (dE (N:=["_law_ones","_law_others"]) (P:=["_law_ones","_law_others"])) (fun _ _ _ _ s _ _ nd hr=>by
 trivial)
variable(oU:FnAt P w K mg base "_law_plus" 2 PM.c!)
include vI r9 lM in
theorem sf(F:dG K "_law_drawn" (top 56)):FnAt P w K mg base "_law_drawn" 2 PM.dY:=
 FnAt.jg F T.gl (dE (N:=["_law_cell_here","_law_many","_law_terms","_law_power_here","_law_kind","_law_pairs","_law_k","_law_exponents"]) (P:=["_law_cell_here","_law_many","_law_terms","_law_power_here","_law_kind"])) (fun _ _ _ _ s _ _ nd hr=>by
 have:(["_law_j","_law_cell_here","_law_k","_law_power_here"]:_W).Nodup:=by decide +kernel
 trivial
 .refine fj (N:=["_law_j","_law_cell_here","_law_k","_law_power_here"]) (k:=1) rfl rfl (AL (cl:=[("_law_cell_here",s.heap.objs.size+1),("_law_k",s.heap.objs.size+3),("_law_power_here",s.heap.objs.size+2)]) (cl':=[("_law_power_here",s.heap.objs.size+2),("_law_k",s.heap.objs.size+3),("_law_cell_here",s.heap.objs.size+1)]) (caps':=[3,6,0])) ?_ (fun _ _ _ _=>?_) (fun _ _ _ _=>?_) (fun _ _ _ _=>?_)<;>trivial) (fun _ _ _ _ _ _=>Uw fun _ _ _ _ _=>rfl)
variable(vL:FnAt P w K mg base "_law_drawn" 2 PM.dY)
include vH in
theorem rm(F:dG K "_law_is_sum" (top 57)):FnAt P w K mg base "_law_is_sum" 2 PM.cC:=
 FnAt.jg F T.gl (dE (N:=["_law_found","_law_many","_law_last","_law_term","_law_exponent"]) (P:=["_law_found","_law_many"])) (fun _ _ _ _ s _ _ nd hr=>by
 trivial)
variable(sh:FnAt P w K mg base "_law_is_sum" 2 PM.cC)
include m7 in
theorem vM(F:dG K "_law_main" (top 59)):FnAt P w K mg base "_law_main" 2 PM.h_:=
 FnAt.jg F T.gl (dE (N:=["_law_row","_law_at","_law_top","_law_found","_law_exponents","_law_number_here"]) (P:=["_law_row","_law_at"])) (fun _ _ _ _ s _ _ nd hr=>by
 trivial)
variable(xQ:FnAt P w K mg base "_law_main" 2 PM.h_)
include CJ in
theorem si(F:dG K "check_ring" (top 23)):FnAt P w K mg base "check_ring" 3 PM.bq:=
 FnAt.jg F T.gl (dE (N:=["ring"]) (P:=["ring"])) (fun _ _ _ _ s _ _ nd hr=>by
 trivial)
variable(fX:FnAt P w K mg base "check_ring" 3 PM.bq)
include m9 in
theorem m_(F:dG K "check_unknowns" (top 29)):FnAt P w K mg base "check_unknowns" 3 PM.c_:=
 FnAt.jg F T.gl (dE (N:=["many"]) (P:=["many"])) (fun _ _ _ _ s _ _ nd hr=>by
 trivial)
variable(n_:FnAt P w K mg base "check_unknowns" 3 PM.c_)
include jl in
theorem n!(F:dG K "sum_of_totals" (top 32)):FnAt P w K mg base "sum_of_totals" 3 PM.cZ:=
 FnAt.jg F T.gl (dE (N:=["ring","totals"]) (P:=["ring","totals"])) (fun _ _ _ _ s _ _ nd hr=>by
 have:(["exponents","totals"]:_W).Nodup:=by decide +kernel
 trivial
 .refine fj (N:=["exponents","totals"]) (k:=1) rfl rfl (jU (cl:=[("totals",s.heap.objs.size+1)])) ?_ (fun _ _ _ _=>?_) (fun _ _ _ _=>?_) (fun _ _ _ _=>?_)
  .trivial
   .refine xa (by rfl) (by rfl) T.b.2.2.2.2.2.2.2.2.2.2.1 PyProof.Rows.Boot.«sorted» ?_<;>trivial
  .trivial
  .trivial
  .trivial)
variable(jm:FnAt P w K mg base "sum_of_totals" 3 PM.cZ)
include ri CK in
theorem zL(F:dG K "main_in" (top 43)):FnAt P w K mg base "main_in" 3 PM.gk:=
 FnAt.jg F T.gl (dE (N:=["row","unknown"]) (P:=["row","unknown"])) (fun _ _ _ _ s _ _ nd hr=>by
 trivial)
variable(CM:FnAt P w K mg base "main_in" 3 PM.gk)
include i_ in
theorem rn(F:dG K "_law_raised" (top 60)):FnAt P w K mg base "_law_raised" 3 PM.fC:=
 FnAt.jg F T.gl (dE (N:=["_law_row","_law_count","_law_found","_law_k"]) (P:=["_law_row","_law_count"])) (fun _ _ _ _ s _ _ nd hr=>by
 trivial)
variable(sj:FnAt P w K mg base "_law_raised" 3 PM.fC)
include oT i_ oU vL in
theorem xR(F:dG K "_law_two" (top 64)):FnAt P w K mg base "_law_two" 3 PM.i9:=
 FnAt.jg F T.gl (dE (N:=["_law_script","_law_many","_law_power_here","_law_kind","_law_row","_law_lower","_law_by"]) (P:=["_law_script","_law_many"])) (fun _ _ _ _ s _ _ nd hr=>by
 trivial)
variable(zM:FnAt P w K mg base "_law_two" 3 PM.i9)
include jl fX n_ in
theorem xS(F:dG K "constant" (top 33)):FnAt P w K mg base "constant" 4 PM.constant:=
 FnAt.jg F T.gl (dE (N:=["ring","many","number"]) (P:=["ring","many","number"])) (fun _ _ _ _ s _ _ nd hr=>by
 trivial)
variable(zN:FnAt P w K mg base "constant" 4 PM.constant)
include xN jm in
theorem n?(F:dG K "with_multiple" (top 36)):FnAt P w K mg base "with_multiple" 4 PM.c5:=
 FnAt.jg F T.gl (dE (N:=["ring","ones","others","factor","totals","exponents","number"]) (P:=["ring","ones","others","factor"])) (fun _ _ _ _ s _ _ nd hr=>by
 trivial) (fun _ _ _ _ _ _=>Qs fun _ _ _ _=>rfl)
variable(jn:FnAt P w K mg base "with_multiple" 4 PM.c5)
include xN F? jm in
theorem zO(F:dG K "product" (top 38)):FnAt P w K mg base "product" 4 PM.product:=
 FnAt.jg F T.gl (dE (N:=["ring","ones","others","totals","exponents","number","by_exponents","by_number"]) (P:=["ring","ones","others"])) (fun _ _ _ _ s _ _ nd hr=>by
 trivial)
variable(ki:FnAt P w K mg base "product" 4 PM.product)
include fX jn in
theorem JK(F:dG K "plus" (top 34)):FnAt P w K mg base "plus" 5 PM.plus:=
 FnAt.jg F T.gl (dE (N:=["ring","ones","others"]) (P:=["ring","ones","others"])) (fun _ _ _ _ s _ _ nd hr=>by
 trivial)
variable(Ob:FnAt P w K mg base "plus" 5 PM.plus)
include fX jn in
theorem Ga(F:dG K "minus" (top 35)):FnAt P w K mg base "minus" 5 PM.minus:=
 FnAt.jg F T.gl (dE (N:=["ring","ones","others"]) (P:=["ring","ones","others"])) (fun _ _ _ _ s _ _ nd hr=>by
 trivial)
variable(JL:FnAt P w K mg base "minus" 5 PM.minus)
include fX ki in
theorem Gb(F:dG K "times" (top 37)):FnAt P w K mg base "times" 5 PM.times:=
 FnAt.jg F T.gl (dE (N:=["ring","ones","others"]) (P:=["ring","ones","others"])) (fun _ _ _ _ s _ _ nd hr=>by
 trivial)
variable(JM:FnAt P w K mg base "times" 5 PM.times)
theorem xT{L:d5}{mb:ME}(F:dG K "repeated" (top 25))(S:yK P w K mg base L 4 mb):tj P w K mg base "repeated" 6 L (PM.repeated L mb):=let⟨_,_,F,a⟩:=F
 tj.mk F (T.gl _ _ a) oS (fun _ _ _ _ _ _=>H_ fun _ _ _=>rfl) fun dh A outer s H E hr=>by
 have:=oS.nd;trivial
 .refine wK S 0 hr ?_<;>trivial
 .refine wK S 0 hr ?_<;>trivial
variable(ro:tj P w K mg base "repeated" 6 M.S (PM.repeated M.S PM.dm))
include ki in
theorem JN:yK P w K mg base M.S 4 PM.dm:=
 ⟨aam,fun f c c' A outer s H hr=>by
 refine Kd ki hr (by decide) (by rfl) Qt ?_;refine pC (uR 2) ?_;refine pC (uR 0) ?_;exact(pC (uR 1) DN)⟩
include lJ fX ki ro in
theorem CN{Oc tT:_Z}(B:MW K mg base "raised" Oc tT)(F:Ad K "raised" "raised" (top 40) f fd)(hn:W.nsIn K mainGlobals "raised" = some (some (.ref f))):FnAt P w K mg base "raised" 7 (PM.raised M):=
 FnAt.mkT B F hn (T.gl _ _ hn) uk (fun _ _ _ _ _ _=>H_ fun _ _ _=>rfl) fun A outer s H E hr=>by
 have:=uk.nd;trivial
 .refine Ej (L:=M) ro B hr (by decide) (by rfl) 0 rfl ?_<;>trivial
variable(Gd:FnAt P w K mg base "raised" 7 (PM.raised M))
include ri F' CM zN Ob JL JM Gd in
theorem zP(F:dG K "rest_in" (top 46)):FnAt P w K mg base "rest_in" 8 (PM.cP M):=
 FnAt.jg F T.gl (dE (N:=["row","by","unknown","main","left","factor","quotient_row","rest","step","missing"]) (P:=["row","by","unknown"])) (fun _ _ _ _ s _ _ nd hr=>by
 trivial
 .refine ML HZ nd ?_<;>trivial)
variable(og:FnAt P w K mg base "rest_in" 8 (PM.cP M))
include m8 og in
theorem vN(F:dG K "_law_told" (top 62)):FnAt P w K mg base "_law_told" 9 (cT M):=
 FnAt.jg F T.gl (dE (N:=["_law_row","_law_by","_law_at","_law_error"]) (P:=["_law_row","_law_by","_law_at"])) (fun _ _ _ _ s _ _ nd hr=>by
 trivial
 .refine Mz T.qx.known ⟨fun _=>rfl,rfl,rfl⟩ ?_ ?_
  .refine HQ ?_
   .refine HP ?_
    .refine MD og hr (by decide) (by rfl) (fun _=>rfl) (fun _=>?_)<;>trivial
  .refine MG (i:=3) T.sub nd T.c.1 (by rfl) (fun _ _=>?_) ?_
   .trivial
    .exact(EZ 3 m8 ((h!.mark hr _).mono (by decide)) (by rfl))
   .exact My)
variable(xU:FnAt P w K mg base "_law_told" 9 (cT M))
include oT m7 vJ i_ oU sh xQ sj zM og xU in
theorem Od(F:Ad K "law" "law" (top 65) f fd):ku P w K mg base (iL P w) 10 f fd ["_law_script"] (J! ⟨K,mg,[]⟩ (xn M)):=
 DR F zI fun dh A outer s H E hr=>by
 have:=zI.nd;have:(["_law_one"]:_W).Nodup:=by decide +kernel
 trivial
 .refine MN.kY 9 (N:=["_law_one"]) (k:=1) zI.nd rfl rfl (jU (cl:=[])) ?_ (fun _ _ _ _=>?_) (fun _ _ _ _=>?_) (fun _ _ _ _=>?_)<;>trivial
 .refine fj (N:=["_law_one"]) (k:=1) rfl rfl (jU (cl:=[])) ?_ (fun _ _ _ _=>?_) (fun _ _ _ _=>?_) (fun _ _ _ _=>?_)<;>trivial
end
theorem all_mk{l:W.OpenLaw}{K:_R}(X:K.In h)(G:h.Ns mainGlobals mg)(hfa:mg "law" = some (.ref fa)){f38:_Z}{aan aao:Option _Z}{aap:Array (_U)}{aaq aar aas aat aau:_X}{Oc:_Z}{f41:_Z}{aav RI:Option _Z}{aaw:Array (_U)}{aax RJ RK RL Oe RM:_X}{vO:Tok}{jo:_Z}{ph:Option _Z}{pj:Nat}{pk:Array (_U)}{oh oj om oo oq ou ow oy oz oA m?:Tok}{oB:Tok}{q:_1}{d:DefRec}{tT:_Z}{toc:_X}{tod:Option _Z}{tsl:Array (_U)}{tvs:Array _X}(h0:dG K "is_whole" (top 20))(h1:dG K "is_prime_within" (top 21))(h2:dG K "rest_in_ring" (top 24))(h3:dG K "add_to" (top 30))(h4:dG K "joined" (top 39))(h5:dG K "power_in" (top 42))(h6:dG K "with_power" (top 45))(h7:dG K "_law_cell" (top 49))(h8:dG K "_law_whole" (top 50))(h9:dG K "_law_mixed" (top 51))(Rw:dG K "_law_number" (top 52))(Ov:dG K "_law_sum" (top 53))(Rx:dG K "_law_power" (top 58))(Ry:dG K "_law_kinds" (top 61))(Rz:dG K "_law_apart" (top 63))(h15:dG K "is_ring" (top 22))(h16:dG K "is_whole_within" (top 28))(h17:dG K "settled_terms" (top 31))(h18:dG K "part_in" (top 44))(h19:dG K "lifted" (top 47))(h20:dG K "_law_times" (top 54))(h21:dG K "_law_plus" (top 55))(h22:dG K "_law_drawn" (top 56))(h23:dG K "_law_is_sum" (top 57))(h24:dG K "_law_main" (top 59))(h25:dG K "check_ring" (top 23))(h26:dG K "check_unknowns" (top 29))(h27:dG K "sum_of_totals" (top 32))(h28:dG K "main_in" (top 43))(h29:dG K "_law_raised" (top 60))(h30:dG K "_law_two" (top 64))(h31:dG K "constant" (top 33))(h32:dG K "with_multiple" (top 36))(h33:dG K "product" (top 38))(h34:dG K "plus" (top 34))(h35:dG K "minus" (top 35))(h36:dG K "times" (top 37))(h37:dG K "repeated" (top 25))(SW:W.nsIn K mainGlobals "raised" = some (some (.ref f38)))(SX:K.lookup f38=some ⟨aaq,aan,.func (W.fnOf "raised" "raised" (eM (top 40)) (bZ (top 40)) (aC (top 40)) .none aar aas aat aao (.ref Oc) aau),aap⟩)(c38:W.codeIn K (.ref Oc) "raised" = true)(k38:W.keepIn K (.ref f38)=true)(h39:dG K "rest_in" (top 46))(h40:dG K "_law_told" (top 62))(a41:W.nsIn K mainGlobals "law" = some (some (.ref f41)))(l41:K.lookup f41=some ⟨aax,aav,.func (W.fnOf "law" "law" (eM (top 65)) (bZ (top 65)) (aC (top 65)) .none RJ RK RL RI Oe RM),aaw⟩)(c41:W.codeIn K Oe "law" = true)(k41:W.keepIn K (.ref f41)=true)(zb:yV K ["ValueError","all","bool","dict","int","isinstance","len","list","max","range","sorted","tuple","zip"])(zc:yW K ["AlgebraError","NoRing","NoPrime","NoInverse","NotWhole","NoUnknowns","NoTerm","NoCount","NoLead","NoOrder","NotWritten","ByNought","NoMeet","NoParts","NotPlain","NoSums"])(i!:W.nsIn K mainGlobals "MOST_RING" = some (some (.int 997 vO)))(gL:W.nsIn K mainGlobals "FIRST_PRIMES" = some (some (.ref jo)))(gM:K.lookup jo=some ⟨.type "tuple",ph,.seq #[.int 2 oh,.int 3 oj,.int 5 om,.int 7 oo,.int 11 oq,.int 13 ou,.int 17 ow,.int 19 oy,.int 23 oz,.int 29 oA,.int 31 m?] pj,pk⟩)(gg:W.nsIn K mainGlobals "MOST_UNKNOWNS" = some (some (.int 4 oB)))(zp:qu K Q8)(zv:qw K ["NoRing","NoUnknowns","NoCount","ByNought"])(zw:W.nsIn K mainGlobals "ValueError" = some none)(zq:yX K kn)(zr:(recsOf q).find? (fun e=>e.name==("raised":Str))=some d)(zk:K.lookup Oc=some ⟨toc,tod,.fields tvs,tsl⟩)(zx:tvs[11]?=some (.ref tT))(zn:W.noTabs K=true):
  ∃(fd:FuncData)(ts:List (_Z×_Z)),o8 q K [.tab M.own M.line M.col M.S.qual] ts/\(ts.map (·.2)).Nodup/\W.noTabs K=true/\(∀(s:_Y)(v:_X),BindsTo s fd ⟨[v],[]⟩ [("_law_script",v)])/\∀base:Heap,K.In base->base.Ns mainGlobals mg->Az mg base ts->ku l.prog w K mg base (iL l.prog w) 10 fa fd ["_law_script"] (J! ⟨K,mg,[]⟩ (xn M)):=by
 have e:=hfa.symm.trans (W9 X G a41);cases e;have zt:W.tabIn K "raised" = some (Oc,tT):=MX SW SX rfl zk zx;refine⟨W.fnOf "law" "law" (eM (top 65)) (bZ (top 65)) (aC (top 65)) .none RJ RK RL RI Oe RM,[(Oc,tT)],.cons zr zt .nil,by simp,zn,fun s v=>.of_eq rfl,fun base _ _ hB=>?_⟩;have T:Txt l.prog w K mg base:=⟨fun _ _ h=>W9 X G h,zb.get X G,zc.get X G,Glob.int (W9 X G i!),Glob.ints (ns:=[2,3,5,7,11,13,17,19,23,29,31]) (W9 X G gL) gM rfl rfl (by simp[VT]) (.cons ⟨_,rfl⟩ (.cons ⟨_,rfl⟩ (.cons ⟨_,rfl⟩ (.cons ⟨_,rfl⟩ (.cons ⟨_,rfl⟩ (.cons ⟨_,rfl⟩ (.cons ⟨_,rfl⟩ (.cons ⟨_,rfl⟩ (.cons ⟨_,rfl⟩ (.cons ⟨_,rfl⟩ (.cons ⟨_,rfl⟩ (.nil)))))))))))),Glob.int (W9 X G gg),zp.get X G (zv.get X G zw),zq.get X G⟩
 have lO:=xM T  h0;have ng:=lK T  h1;have rq:=pf T  h2;have xV:=CH T  h3;have Ge:=CI T  h4;have rA:=xO T  h5;have nh:=rY T  h6;have oV:=vG T  h7;have vP:=rZ T  h8;have vQ:=r6 T  h9;have sq:=rj T  Rw;have lP:=xP T  Ov;have ni:=r_ T  Rx;have vR:=r! T  Ry;have vS:=r? T  Rz;have CO:=zJ T lO ng h15;have nk:=lN T lO h16;have jq:=nZ T rq h17;have CP:=zK T nh h18;have Gf:=CL T nh h19;have i?:=sd T lP h20;have oW:=vK T lP h21;have vT:=sf T vQ sq lP h22;have su:=rm T vP h23;have xW:=vM T ni h24;have fY:=si T CO h25;have oC:=m_ T nk h26;have jr:=n! T jq h27;have CQ:=zL T rA CP h28;have sv:=rn T i? h29;have zQ:=xR T oV i? oW vT h30;have zR:=xS T jq fY oC h31;have js:=n? T xV jr h32;have oD:=zO T xV Ge jr h33;have Of:=JK T fY js h34;have JO:=Ga T fY js h35;have JP:=Gb T fY oD h36;have zS:=xT T  h37 (JN T oD);have Gg:=CN T lO fY oD zS ⟨zt,(hB _ (.head _)).1,(hB _ (.head _)).2.1,(hB _ (.head _)).2.2⟩ (yj (st:=top 40) SX c38 k38) SW;have um:=zP T rA Gf CQ zR Of JO JP Gg h39;have xX:=vN T vR um h40;exact Od T oV ni vS i? oW su xW sv zQ um xX (yj (st:=top 65) l41 c41 k41)
end qz
namespace PySem.W.Fast
def tw12827771453156589855:=()
def tw5565208242286973325:=()
def tw1548224905781326580:=()
def tw16893709825837931552:=()
def tw3248389421513079977:=()
def tw6639955684725055845:=()
def tw218513599951619032:=()
def tw1517353922993724002:=()
def tw17471047806578009608:=()
def tw16989488976538525693:=()
def tw8988051695259715839:=()
def tw13029562175653834162:=()
def tw15025497465653183216:=()
def tw11210826870985924912:=()
def tw2528161249376394650:=()
def tw6031755869747177915:=()
def tw5680428736574594506:=()
def tw12711357667885174992:=()
def tw4942439061720115717:=()
def tw5598426875602172478:=()
def tw10787630197320072051:=()
def tw3575377005055849067:=()
def tw3032564381961287310:=()
def tw9975511369174844492:=()
def tw1001711368132185764:=()
def tw2392458931990035276:=()
def tw9639719333298727899:=()
def tw13695217569680563608:=()
def tw14210485186015484915:=()
def tw7185664726059342276:=()
def tw12378624803150923415:=()
def tw9467207167429669043:=()
def tw5747405419175935315:=()
def tw18397766759513814883:=()
def tw7126445130176692676:=()
def tw11208080776152455404:=()
def tw11712314037800450592:=()
def tw13483154766231277262:=()
def tw15706042052602880405:=()
def tw15113498583867298578:=()
def tw7255763850415036912:=()
def tw13620214466000997716:=()
def tw10602192880606911460:=()
def tw11312076610194574512:=()
def tw6126541942143724499:=()
def tw6558527475551172712:=()
def tw15435961252462555977:=()
def tw11461940652113883017:=()
def tw15088898906118441376:=()
def tw5964335266406874711:=()
def tw5317844243302971072:=()
def tw12270492803249874734:=()
def tw16191090273962119469:=()
def tw6975854875210393138:=()
def tw4859861367295466357:=()
def tw5955138946724305106:=()
def tw3524048092166836118:=()
def tw5077565924336660114:=()
def tw17505486792938848596:=()
def tw12786210574302521155:=()
def tw11388492730213464237:=()
def tw13832978034894643165:=()
def tw4180952686101062195:=()
def tw16988098933330531489:=()
def tw1791783243994919895:=()
def tw8073301818610256732:=()
def tw822592380017325614:=()
def tw8440406012785923716:=()
def tw10181554352448761565:=()
def tw2546283332028204381:=()
def tw18265009741724690040:=()
def tw9011699763929294622:=()
def tw4826466036591097417:=()
def tw12421036178102444651:=()
def tw11665230573400669123:=()
def tw8539841650661714877:=()
def tw1954910456334913982:=()
def tw14727142467759806115:=()
def tw16370691143241550979:=()
def tw14311767733546012533:=()
def tw13811550398882838:=()
def tw15061284423297817085:=()
def tw9389309423505932484:=()
def tw15462413035725537487:=()
def tw9892926654988899907:=()
def tw1330645135357348149:=()
def tw418296009710556174:=()
def tw6827073376154349618:=()
def tw292862961907970743:=()
def tw3859257085854831780:=()
def tw12161395820491420575:=()
def tw8428399252795777092:=()
end PySem.W.Fast
open PySem.W PyProof.Rows
set_option maxHeartbeats 0 in
theorem PySem.Challenge.cw_polyring_k26_told_rests_holds : PySem.Challenge.rw_polyring_k26_told_rests.Holds := by
 w_on;o_law;k_head;(case hw=>w_witness2)
 k_fill
 refine MN.B5 (f:=(qz.xn qz.M)) (cs:=[.tab qz.M.own qz.M.line qz.M.col qz.M.S.qual]) (l:=PySem.Challenge.rw_polyring_k26_told_rests) (k:=10) (x:="_law_script") rfl rfl ⟨rfl,by decide,by decide⟩ (qz.F! qz.M rfl) (fun w h Y=>PySem.W.km_in_of Y) ?F
 case F=>
  intro w mg fa h KX G Pp;refine' qz.all_mk KX G Pp ?h0 ?h1 ?h2 ?h3 ?h4 ?h5 ?h6 ?h7 ?h8 ?h9 ?Rw ?Ov ?Rx ?Ry ?Rz ?h15 ?h16 ?h17 ?h18 ?h19 ?h20 ?h21 ?h22 ?h23 ?h24 ?h25 ?h26 ?h27 ?h28 ?h29 ?h30 ?h31 ?h32 ?h33 ?h34 ?h35 ?h36 ?h37 ?SW ?SX ?c38 ?k38 ?h39 ?h40 ?a41 ?l41 ?c41 ?k41 ?zb ?zc ?i! ?gL ?gM ?gg ?zp ?zv ?zw ?zq ?zr ?zk ?zx ?zn
  (case h0|h1|h2|h3|h4|h5|h6|h7|h8|h9|Rw|Ov|Rx|Ry|Rz|h15|h16|h17|h18|h19|h20|h21|h22|h23|h24|h25|h26|h27|h28|h29|h30|h31|h32|h33|h34|h35|h36|h37|h39|h40=>refine' MN.dG.mk ?a ?l ?c ?k;(case a=>k_is);(case l=>k_is);(case c=>k_is);(case k=>k_is);skip)
  (case SW=>k_is)
  (case SX=>k_is)
  (case c38=>k_is)
  (case k38=>k_is)
  (case a41=>k_is)
  (case l41=>k_is)
  (case c41=>k_is)
  (case k41=>k_is)
  case zb=>
   repeat (refine' MN.yV.cons ?a ?_;(case a=>k_is);skip)
   exact .nil
  case zc=>
   repeat (refine' MN.yW.cons ?a ?e ?s ?_;(case a=>k_is);(case e=>k_exc);(case s=>k_is);skip)
   exact .nil
  (case i!=>k_is)
  (case gL=>k_is)
  (case gM=>k_is)
  (case gg=>k_is)
  case zp=>
   repeat (refine' MN.qu.cons ?a ?b ?c ?d ?e ?_;(case a=>k_is);(case b=>k_is);(case c=>k_is);(case d=>k_is);(case e=>first|k_is|kit_is);skip)
   exact .nil
  case zv=>
   repeat (refine' MN.qw.cons ?a ?e ?_;(case a=>k_is);(case e=>first|k_is|kit_is);skip)
   exact .nil
  (case zw=>k_is)
  case zq=>
   repeat (refine' MN.yX.cons ?a ?e ?_;(case a=>k_is);(case e=>first|k_is|kit_is|rfl|decide +kernel);skip)
   exact .nil
  (case zr=>rfl)
  (case zk=>k_is)
  (case zx=>rfl)
  (case zn=>first|k_is|kernel_rfl)
