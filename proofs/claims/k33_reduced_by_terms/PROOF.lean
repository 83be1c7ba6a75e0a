import PyProof.Rows.All
import Wide.All
import OpenK.AllK
import PySem.Challenge.RW_polyring_k33_reduced_by_terms
set_option Elab.async false
set_option linter.all false
set_option maxRecDepth 100000
set_option maxHeartbeats 4000000
set_option compiler.extract_closed false
set_option genSizeOf false
-- Pp: Uk SJ module here,as HD last of SK rows
open PySem
noncomputable section
abbrev _K:=Value->Shared->Prop
abbrev _L:=Str->Option Value
abbrev _M:=List (Addr×Obj)
abbrev _N:=W.Frag
abbrev _O:=List Int
abbrev _P:=List Value
abbrev _Q:=Option Value
abbrev _R:=List Addr
abbrev _S:=List Str
abbrev _T:=Value
abbrev _U:=Shared
abbrev _V:=Addr
abbrev _W:=Around
abbrev _X:=Program
def Vh:=@wpAny_bind
def Vi.{u,v}:=@List.length_map.{u,v}
def Vj:=@Heap.get?_push_of_some
def Vk.{u}:=@List.mem_cons_of_mem.{u}
def Vl.{u,v}:=@List.map_cons.{u,v}
def Vm.{u}:=@List.mem_cons_self.{u}
def Vn.{u}:=@List.length_cons.{u}
def Vo.{u}:=@if_pos.{u}
def Vp:=@Nat.le_refl
def Vq.{u}:=@List.getElem?_eq_getElem.{u}
def Vr:=@wpAny_pure
def Vs:=@Bool.false_ne_true
def Vt.{u}:=@List.length_append.{u}
def Vu:=@Heap.lt_size
def Vv.{u}:=@if_neg.{u}
def Vx.{u}:=@List.size_toArray.{u}
def Vy.{u}:=@List.getElem?_append_right.{u}
def Vz.{u}:=@List.getElem?_set_self.{u}
def VA:=@Heap.get?_push_size
def VB.{u,v}:=@List.getElem?_map.{u,v}
def VC:=@Nat.lt_of_lt_of_le
def VD:=@decide_eq_false
def VE.{u,v,w}:=@List.map_map.{u,v,w}
def VF:=@decide_eq_true
def VG.{u,v}:=@List.mem_map.{u,v}
def VH.{u}:=@List.mem_cons.{u}
def VI.{u}:=@List.mem_singleton.{u}
def VJ.{u}:=@List.length_nil.{u}
def VL.{u}:=@List.append_nil.{u}
def VM.{u}:=@List.append_assoc.{u}
def VN:=@Nat.ne_of_lt
def VO.{u}:=@Option.some.inj.{u}
def VP.{u}:=@Array.length_toList.{u}
def VQ:=@sizeLine_eq
def VR:=@Int.toNat_natCast
def VS.{u,v}:=@List.map_congr_left.{u,v}
def VT.{u,v}:=@List.map_append.{u,v}
def VU.{u}:=@List.length_set.{u}
def VV.{u}:=@beq_eq_false_iff_ne.{u}
def VW.{u}:=@List.getD_eq_getElem?_getD.{u}
def VX.{u}:=@List.mem_append.{u}
def VY:=@Nat.lt_irrefl
def VZ:=@Nat.le_trans
def V0:=@Heap.get?_update_other
def V1.{u}:=@List.nil_append.{u}
def V2.{u}:=@List.length_reverse.{u}
def V3.{u,v}:=@List.map_nil.{u,v}
def V4.{u}:=@List.filter_cons_of_neg.{u}
def V5.{u}:=@List.mem_append_right.{u}
def V6.{u}:=@List.getElem?_eq_some_iff.{u}
def V7.{u}:=@List.getElem?_append_left.{u}
def V8.{u,v}:=@List.pairwise_map.{u,v}
def V9.{u}:=@List.filter_cons_of_pos.{u}
def V_.{u}:=@List.replicate_zero.{u}
def V!:=@decide_eq_true_iff
def V?:=@Nat.lt_succ_self
def V'.{u}:=@List.getElem?_eq_none.{u}
def Wa:=@Nat.pow_le_pow_right
def Wb:=@Nat.zero_add
def Wc.{u}:=@List.length_replicate.{u}
def Wd:=@W.kia_one
def We.{u,v}:=@congrArg.{u,v}
def Wf.{u}:=@List.mem_of_getElem?.{u}
def Wg:=@of_decide_eq_true
def Wh:=@Nat.zero_le
def Wi.{u}:=@List.mem_filter.{u}
def Wj.{u}:=@List.getElem_mem.{u}
def Wk:=@Nat.sub_self
def Wl:=@F.slot_dict_keyiterator_next
def Wm:=@Bool.false_eq_true
def Wn:=@wpAny_seqItems
def Wq:=@Nat.testBit_two_pow_mul_add
def Wr.{u}:=@List.length_filter_le.{u}
def Ws:=@wpAny_call_entry
def Wt:=@wpAny_callSpecial?_slot
def Wu.{u}:=@beq_iff_eq.{u}
def Wv:=@F.plain_max_loop
def Ww:=@Nat.succ.inj
def Wx.{u}:=@beq_self_eq_true.{u}
def Wy.{u,v}:=@List.getElem_map.{u,v}
def Wz:=@Heap.size_push
def WA.{u}:=@List.replicate_succ.{u}
def WB.{u}:=@List.pairwise_iff_getElem.{u}
def WC.{u}:=@List.drop_eq_getElem_cons.{u}
def WD:=@wpAny_holding
def WE.{u}:=@List.all_eq_true.{u}
def WG:=@mem_of_lookup
def WH:=@PyProof.Rows.callWith_type1
def WI.{u}:=@List.getElem?_set_ne.{u}
def WJ:=@wpAny_mono
def WK:=@List.range'_succ
def WL:=@Bool.and_eq_true
def WM:=@Calls.callWith_builtin
def WN:=@wpAny_field
def WO:=@Nat.two_pow_pos
def WQ.{u}:=@List.cons_append.{u}
def WR:=@Int.emod_emod_of_dvd
def WS:=@wpAny_truthy_bool
def WT:=@wpAny_newObj_type
def WU.{u}:=@List.find?_cons.{u}
def WV.{u}:=@Ne.symm.{u}
def WW.{u}:=@List.reverse_cons.{u}
def WX:=@Nat.ne_of_gt
def WY:=@Nat.lt_or_ge
def WZ:=@Nat.add_zero
def W2.{u}:=@List.any_cons.{u}
def W3.{u}:=@List.Pairwise.imp_of_mem.{u}
def W4:=@Int.natCast_nonneg
def W5:=@Nat.testBit_and
def W6:=@W.mg_of
def W7.{u}:=@List.pairwise_singleton.{u}
def W8.{u}:=@List.mem_reverse.{u}
def W9:=@wpAny_typeNameOfWhole_keyiter
def W_:=@List.length_range
def W!:=@wpAny_setField_rec
def W?.{u,v}:=@List.mem_map_of_mem.{u,v}
def Xa.{u}:=@List.eq_nil_of_length_eq_zero.{u}
def Xc:=@wpAny_passesOwn
def Xe.{u}:=@List.take_of_length_le.{u}
def Xf.{u}:=@List.set_cons_zero.{u}
def Xg:=@Nat.mul_zero
def Xh:=@Int.mul_emod
def Xi:=@Heap.get?_update_self
def Xj.{u}:=@List.sum_cons.{u}
def Xk.{u}:=@List.getElem?_toArray.{u}
def Xl.{u}:=@List.flatten_cons.{u}
def Xm:=@F.slot_tuple_iterator_next
def Xo:=@Bool.not_true
def Xp:=@Around.under_plainId
def Xu:=@List.length_range'
def Xv:=@Int.emod_lt_of_pos
def Xw:=@F.plainAttrs_dict
def Xx.{u,v}:=@List.flatMap_cons.{u,v}
def Xy.{u}:=@List.not_mem_nil.{u}
def XA:=@wpAny_typeNameOf_keyiter
def XC:=@Nat.lt_succ_of_lt
def XD:=@Nat.lt_of_succ_lt_succ
def XE:=@Nat.add_comm
def XF:=@Int.emod_eq_of_lt
def XG:=@Bool.and_false
def XH:=@wpAny_Call_Name_kw
def XI:=@wpAny_letGo
def XJ:=@decide_eq_decide
def XM.{u}:=@List.set_cons_succ.{u}
def XN.{u,v}:=@List.map_eq_nil_iff.{u,v}
def XO:=@Int.mul_le_mul_of_nonneg_right
def XQ.{u}:=@List.getElem?_replicate.{u}
def XR.{u}:=@List.getElem?_cons_succ.{u}
def XS:=@wpAny_tryCatch
def XT:=@wpAny_pyIter_list
def XU:=@Nat.eq_of_testBit_eq
def XW.{u,v}:=@List.of_mem_zip.{u,v}
def XX.{u}:=@if_false.{u}
def XY.{u}:=@List.nodup_append.{u}
def XZ:=@Int.emod_nonneg
def X0:=@Bool.eq_iff_iff
def X1:=@W.hideAll_get
def X2:=@wpAny_rule
def X3:=@wpAny_eqBool_int
def X4:=@Int.lt_or_le
def X5:=@Int.dvd_refl
def X6:=@plainId_quiet
def X7:=@Paired.length
def X8.{u}:=@List.mem_nil_iff.{u}
def X9:=@Int.fmod_eq_emod_of_nonneg
def X_:=@Calls.evalArgs_plain
def X!.{u}:=@List.cons.inj.{u}
def X?:=@codeAny_builtin
def X':=@Nat.mul_add
def Ya:=@Nat.lt_trichotomy
def Yb:=@Heap.SameBut.update
def Yc:=@F.args_tuple_add_2
def Yd.{u}:=@List.nodup_cons.{u}
def Ye.{u,v}:=@List.flatMap_nil.{u,v}
def Yf:=@Bool.true_and
def Yg:=@Bool.false_or
def Yh:=@Bool.and_true
def Yi.{u}:=@List.getElem_of_mem.{u}
def Yj:=@wpAny_tupleItemsOf
def Yk:=@wpAny_pyIter_tuple
def Yl:=@F.slot_dict_items
def Ym:=@F.entry_tuple_add
def Yn:=@Obj.data_mapFields
def Yo.{u,v}:=@List.Pairwise.of_map.{u,v}
def Yp:=@Calls.spliced_cons
def Yq:=@F.slot_tuple_add
def Yr:=@F.entry_max_loop
def Ys:=@PyProof.Rows.boot_list
def Yt:=@Nat.sub_zero
def Yu:=@Nat.min_self
def Yv:=@wpAny_dictEntries
def Yw:=@Nat.not_lt_zero
def Yx.{u,v}:=@List.filterMap_cons.{u,v}
def Yy:=@F.slot_dict_get
def Yz.{u}:=@Option.isNone_iff_eq_none.{u}
def YA.{u}:=@List.getLastD_eq_getLast?.{u}
def YB:=@F.slot_list_getattribute
def YC:=@wpAny_isInstance
def YD:=@or_false
def YE:=@Nat.pow_lt_pow_right
def YF:=@Nat.pow_add
def YG:=@Nat.mul_le_mul_right
def YH:=@Nat.log2_lt
def YI:=@List.mem_range
def YJ.{u}:=@List.all_cons.{u}
def YK:=@Bool.false_and
def YL:=@call_meetsIn
def YM:=@call_meets
def YN:=@evalArgs_none
def YO:=@W.plainGet_of
def YQ:=@F.args_dict_keyiterator_next_1
def YR.{u}:=@List.ext_getElem.{u}
def YS:=@Int.toNat_of_nonneg
def YT:=@wpAny_execs_nil
def YU:=@SeqAt.EqAt.same
def YV:=@F.entry_dict_keyiterator_next
def YW:=@F.slot_zip_next
def YX:=@W.callWith_K
def YY:=@Nat.sub_add_cancel
def YZ:=@Nat.lt_of_le_of_lt
def Y0:=@wpAny_updateSeq_pair
def Y1:=@wpAny_setField
def Y2:=@Nat.le_of_lt
def Y3.{u,v}:=@List.lookup_cons.{u,v}
def Y4.{u}:=@List.length_singleton.{u}
def Y5:=@Bool.not_eq_true'
def Y6:=@Bool.eq_false_iff
def Y7:=@Nat.mod_eq_of_lt
def Y8:=@Nat.le_of_not_lt
def Y9:=@Nat.le_add_right
def Y_.{u}:=@List.take_succ.{u}
def Y!.{u}:=@List.mem_append_left.{u}
def Y?.{u}:=@List.map_id.{u}
def Y'.{u}:=@Array.getElem_toList.{u}
def Za:=@wpAny_standAt
def Zb:=@wpAny_onRaise
def Zc:=@wpAny_attempt
def Zd:=@Nat.one_mul
def Ze.{u,v}:=@List.length_zip.{u,v}
def Zf:=@Int.mul_one
def Zg:=@Int.mul_le_mul_of_nonneg_left
def Zh:=@tupleKind_room_in1
def Zi:=@PyProof.Rows.get?_update_seq
def Zj:=@SeqAt.EqAt.str_int
def Zk:=@SeqAt.EqAt.int_str
def Zl:=@SeqAt.EqAt.int_int
def Zm:=@Nat.testBit_two_pow_sub_succ
def Zn:=@Nat.mul_add_mod
def Zo:=@Nat.and_le_left
def Zp.{u}:=@List.filter_eq_self.{u}
def Zq:=@codeAny_mono
def Zr:=@Nat.testBit_or
def Zs.{u}:=@List.find?_eq_none.{u}
def Zt:=@Int.fdiv_eq_ediv_of_nonneg
def Zu:=@Calls.spliced_nil
def Zv:=@Bool.not_false
def Zw:=@noFill_tuple_add
def Zx:=@PyProof.noPylong_of_log2
def Zy.{u}:=@List.reverse_perm.{u}
def Zz.{u}:=@List.filter_congr.{u}
def ZA:=@F.type_dict_items
def ZC:=@F.args_dict_get_3
def ZD:=@PyProof.Rows.boot_tuple
def ZE:=@Int.eq_ofNat_of_zero_le
def ZF:=@F.slot_dict_itemiterator_iter
def ZG:=@wpAny_updateSeq
def ZH:=@wpAny_dictEpoch
def ZI:=@W.cellsFrom_some
def ZJ:=@F.slot_dict_iter
def ZK:=@F.entry_dict_get
def ZL:=@PyProof.Rows.boot_dict
def ZM:=@Nat.succ_pos
def ZN:=@Nat.pow_succ
def ZO:=@Nat.mul_succ
def ZP:=@Nat.lt_trans
def ZQ:=@Nat.le_of_eq
def ZR.{u,v}:=@List.zip_cons_cons.{u,v}
def ZS:=@List.range_succ_eq_map
def ZT.{u}:=@List.prefix_refl.{u}
def ZU.{u,v}:=@List.mem_filterMap.{u,v}
def ZV.{u}:=@List.length_take.{u}
def ZW.{u}:=@List.getElem_inj.{u}
def ZX.{u}:=@List.drop_length.{u}
def ZY:=@F.args_tuple_iterator_next_1
def ZZ:=@Bool.true_or
def Z0:=@wpAny_richCompare_same_room
def Z1:=@F.slot_tuple_lt
def Z2:=@F.slot_tuple_le
def Z3:=@F.slot_dict_pop
def Z4:=@F.slot_dict_len
def Z5:=@F.entry_tuple_iterator_next
def Z6:=@typeIs_int
def Z7:=@Nat.or_zero
def Z8:=@Nat.mul_one
def Z9:=@List.range_eq_range'
def Z_.{u,v,w}:=@List.length_zipWith.{u,v,w}
def Z!:=@Calls.Name_function_global
def Z?:=@Nat.mul_le_mul_left
def Z':=@List.getElem?_range
def _a:=@wpAny_comprehension_free
def _b:=@seq_tuple_add
def _c:=@W.of_hideAll
def _d:=@W.kitx_tuple
def _e.{u}:=@List.perm_ext_iff_of_nodup.{u}
def _g.{u,v}:=@List.map_reverse.{u,v}
def _h:=@List.getElem_range
def _i:=@Int.natAbs_natCast
def _j:=@Int.natAbs_eq_zero
def _k:=@wpAny_Call_method0_late
def _l:=@list_append
def _m:=@W.kitx_list
def _n:=@W.kitx_dict
def _o:=@Nat.or_lt_two_pow
def _p:=@Int.mul_emod_left
def _q.{u}:=@Array.getElem?_eq_getElem.{u}
def _r:=@wpAny_pyNext_range_end
def _s:=@wpAny_pyNext_list_item
def _t:=@wpAny_pyIter_rangeiter
def _u:=@seqIndex_neg
def _v.{u,v,w}:=@getElem?_pos.{u,v,w}
def _w:=@concat_meets
def _x:=@SeqAt.ne_of_list_tuple
def _y:=@IsL.update
def _z:=@Nat.zero_testBit
def _A:=@Nat.lt_log2_self
def _B:=@wpAny_pyNext_list_end
def _C:=@wpAny_notOrdered_dict
def _D:=@wpAny_isOneOf_keyiter
def _E:=@isSubtype_tuple_tuple
def _F:=@Obj.isFreed_of_fields
def _G:=@List.range_zero
def _H:=@List.range_succ
def _I.{u}:=@List.mem_singleton_self.{u}
def _J:=@Bool.or_eq_true
namespace L2
open PySem.Spec PyProof.Rows
abbrev bD:=Sum Int Str
def nr:bD->_T->Bool
 |.inl k,v=>Value.isInt k v
 |.inr x,v=>Value.isStrOf x v
def Pq(w:World):bD->Int
 |.inl k=>hashInt k
 |.inr x=>hashStr w x
theorem cq:∀{k:bD}{v:_T},nr k v=true->(∃i t,k=Sum.inl i/\v=Value.int i t)\/(∃x t,k=Sum.inr x/\v=Value.str x t)
 |.inl i,v,h=>by obtain⟨t,e⟩:=Value.isInt_shape (k:=i) (v:=v) h;exact .inl ⟨i,t,rfl,e⟩
 |.inr x,v,h=>by obtain⟨t,e⟩:=Value.isStrOf_shape (x:=x) (v:=v) h;exact .inr ⟨x,t,rfl,e⟩
theorem Af(i:Int)(t:Tok):nr (.inl i) (.int i t)=true:=by simp[nr,Value.isInt]
theorem Ag(x:Str)(t:Tok):nr (.inr x) (.str x t)=true:=by simp[nr,Value.isStrOf]
theorem IA(a b:Int):decide ((Sum.inl a:bD)=Sum.inl b)=(a==b):=by
 by_cases e:a=b
 .subst e;simp
 .have h:¬ (Sum.inl a:bD)=Sum.inl b:=fun q=>e (Sum.inl.inj q);rw[VD h];exact(VV.mpr e).symm
theorem IB(a b:Str):decide ((Sum.inr a:bD)=Sum.inr b)=decide (a=b):=by
 by_cases e:a=b
 .subst e;simp
 .have h:¬ (Sum.inr a:bD)=Sum.inr b:=fun q=>e (Sum.inr.inj q);rw[VD h,VD e]
theorem IC(a:Int)(b:Str):decide ((Sum.inl a:bD)=Sum.inr b)=false:=VD (fun q=>nomatch q)
theorem ID(a:Str)(b:Int):decide ((Sum.inr a:bD)=Sum.inl b)=false:=VD (fun q=>nomatch q)
def bG(prog:_X)(w:World):PySem.KeyKind prog w bD where
 is:=nr
 hash:=Pq w
 inj:=fun v a b ha hb=>by
  rcases cq ha with⟨i,t,rfl,rfl⟩|⟨x,t,rfl,rfl⟩
  .rcases cq hb with⟨j,u,rfl,e⟩|⟨y,u,rfl,e⟩
   .injection e with e1 _;rw[e1]
   .exact nomatch e
  .rcases cq hb with⟨j,u,rfl,e⟩|⟨y,u,rfl,e⟩
   .exact nomatch e
   .injection e with e1 _;rw[e1]
 byValue:=fun k v h=>by rcases cq h with⟨i,t,rfl,rfl⟩|⟨x,t,rfl,rfl⟩<;>rfl
 pyHash:=fun hv h=>by
  rcases cq hv with⟨i,t,rfl,rfl⟩|⟨x,t,rfl,rfl⟩
  .exact wpAny_pyHash_int h
  .exact wpAny_pyHash_str h
 eqBool:=fun hu hv h=>by
  rcases cq hu with⟨i,t,rfl,rfl⟩|⟨x,t,rfl,rfl⟩
  .rcases cq hv with⟨j,u,rfl,rfl⟩|⟨y,u,rfl,rfl⟩
   .rw[IA]at h;exact X3 h
   .rw[IC]at h;exact Zk i t y u _ _ _ _ h
  .rcases cq hv with⟨j,u,rfl,rfl⟩|⟨y,u,rfl,rfl⟩
   .rw[ID]at h;exact Zj x t j u _ _ _ _ h
   .rw[IB]at h;exact wpAny_eqBool_str h
 «strs»:=fun k x t v h=>by
  rcases cq h with⟨i,u,rfl,e⟩|⟨y,u,rfl,e⟩
  .exact nomatch e
  .injection e with e1 _;subst e1;cases v<;>rfl
theorem vd(prog:_X)(w:World)(i:Int)(t:Tok):(bG prog w).is (.inl i) (.int i t)=true:=Af i t
theorem ve(prog:_X)(w:World)(x:Str)(t:Tok):(bG prog w).is (.inr x) (.str x t)=true:=Ag x t
inductive V where
 |bR|bl (b:Bool)|int (i:Int)|str (x:Str)|OD (b:Array UInt8)|nU (b:UInt64)|ref (a:_V)|ty (n:String)
 deriving DecidableEq
def bb:V->_T->Prop
 |.bR,u=>u=Value.none
 |.bl b,u=>u=Value.bool b
 |.int i,u=>∃t,u=Value.int i t
 |.str x,u=>∃t,u=Value.str x t
 |.OD b,u=>∃t,u=Value.bytes b t
 |.nU b,u=>∃t,u=Value.float b t
 |.ref a,u=>u=Value.ref a
 |.ty n,u=>u=Value.type n
abbrev aV:List V->_P->Prop:=Paired bb
theorem aV.length{xs:List V}{us:_P}(r:aV xs us):xs.length=us.length:=X7 r
theorem aV.get:∀{xs:List V}{us:_P}{i:Nat}{x:V},aV xs us->xs[i]?=some x->∃u,us[i]?=some u/\bb x u
 |_,_,_,_,.nil,e=>by simp at e
 |_,_,0,_,.cons r _,e=>by simp at e;subst e;exact⟨_,rfl,r⟩
 |_,_,i+1,x,.cons _ t,e=>by obtain⟨u,h1,h2⟩:=aV.get (i:=i) (x:=x) t (by simpa using e);exact⟨u,by simpa using h1,h2⟩
theorem aV.set{x:V}{u:_T}(r:bb x u):∀{xs:List V}{us:_P}(i:Nat),aV xs us->aV (xs.set i x) (us.set i u)
 |_,_,_,.nil=>.nil
 |_,_,0,.cons _ t=>.cons r t
 |_,_,i+1,.cons q t=>.cons q (aV.set r i t)
theorem aV.append:∀{xs ys:List V}{us ws:_P},aV xs us->aV ys ws->aV (xs++ys) (us++ws)
 |_,_,_,_,.nil,s=>s
 |_,_,_,_,.cons r t,s=>.cons r (aV.append t s)
theorem aV.take:∀{xs:List V}{us:_P}(n:Nat),aV xs us->aV (xs.take n) (us.take n)
 |_,_,0,_=>.nil
 |_,_,_+1,.nil=>.nil
 |_,_,n+1,.cons r t=>.cons r (aV.take n t)
theorem aV.drop:∀{xs:List V}{us:_P}(n:Nat),aV xs us->aV (xs.drop n) (us.drop n)
 |_,_,0,r=>r
 |_,_,_+1,.nil=>.nil
 |_,_,n+1,.cons _ t=>aV.drop n t
def ic:Option V->_Q->Prop
 |some v,some u=>bb v u
 |none,none=>True
 |_,_=>False
def KV{κ:Type}:List (κ×V)->List (κ×_T)->Prop:=Paired fun(p:κ×V)(q:κ×_T)=>p.1=q.1/\bb p.2 q.2
def kV:bD->V
 |.inl i=>.int i
 |.inr x=>.str x
inductive HO where
  |lst (xs:List V)
  |tup (xs:List V)
  |dK (ay:List (bD×V))|dT (ay:List (List bD×V))
  |set (S:Int->Bool) (n:Nat)
  |ins (C dx:_V) (fs:List (Str×V))
  |own (x:_V)
  |xd (fs:List (Str×V))
  |met (f x:_V)
  |OE (lo hi:Int)
  |gE (o:Obj) (u:HO)
  |EL (ps:Array _T)
  |ext (φ:Heap->Prop)
abbrev Hp:=_V->Option HO
def upd(H:Hp)(a:_V)(o:HO):Hp:=fun b=>if b=a then some o else H b
theorem a!{H:Hp}{a:_V}{o:HO}:upd H a o a=some o:=by unfold upd;rw[Vo rfl]
theorem aM{H:Hp}{a b:_V}{o:HO}(h:b≠a):upd H a o b=H b:=by unfold upd;rw[Vv h]
theorem L7{H:Hp}{a b:_V}{o u:HO}(h:H a=some o)(h':H b=some u)(d:o≠u):a≠b:=by intro e;subst e;rw[h]at h';exact d (VO h')
theorem aN{H:Hp}{a b:_V}{o:HO}(h:H a=some o)(h':H b=none):a≠b:=by intro e;subst e;rw[h]at h';cases h'
section
variable(P:_X)(w:World)
def bE(H:Hp)(h:Heap)(a:_V):HO->Prop
 |.lst xs=>xs.length<=sizeLine/\∃(aD:_P)(n:Nat),aV xs aD/\h.get? a=some {cls:=.type "list",data:=.seq aD.toArray n}
 |.tup xs=>xs.length<=sizeLine/\∃aD:_P,aV xs aD/\IsTup h a aD.toArray
 |.dK ay=>ay.length<=sizeLine/\(a==sysModules)=false/\∃vs,KV ay vs/\h.DictOf (bG P w) a vs
 |.dT ay=>ay.length<=sizeLine/\(a==sysModules)=false/\∃xs:List (List bD×_V×_T),
   Paired (fun(p:List bD×V)(q:List bD×_V×_T)=>p.1=q.1/\H q.2.1=some (.tup (p.1.map kV))/\bb p.2 q.2.2) ay xs /\
   ∃o es ep,h.get? a=some o/\o.ExactDict/\o.data=.dict es ep/\es.toList=xs.map (entryOfKey (tupleKind (bG P w)))/\(xs.map (·.1)).Nodup
 |.set S n=>h.SetOf (intKind P w) a S n
 |.ins C dx fs=>H dx=some (.own a)/\fs.length<=1000/\dx≠a/\h.get? a=some (W.instObj C dx) /\
   ∃mA,h.Ns1 dx mA/\(∀f,ic (fs.lookup f) (mA f))/\PySem.Within mA (fs.map (·.1))
 |.own _=>∃o,h.get? a=some o
 |.xd fs=>∃mA,h.Ns1 a mA/\∀f,ic (fs.lookup f) (mA f)
 |.OE lo hi=>∃t u v,h.get? a=some {cls:=.type "range",data:=.fields #[.int lo t,.int hi u,.int 1 v]}
 |.gE o u=>h.get? a=some o/\bE H h a u
 |.EL ps=>h.get? a=some {cls:=.none,data:=.fields ps}
 |.met f x=>h.get? a=some (W.methodObj (.ref f) (.ref x))
 |.ext φ=>φ h/\(∃o,h.get? a=some o)/\∀h1 h2:Heap,φ h1->(∀o,h1.get? a=some o->h2.get? a=some o)->φ h2
def g6(H:Hp)(h:Heap):Prop:=∀a o,H a=some o->bE P w H h a o
end
section
variable{P:_X}{w:World}{H H':Hp}{h h':Heap}{a:_V}{o:HO}
theorem bE.lt(x:bE P w H h a o):a<h.objs.size:=by
 cases o with
 |lst xs=>obtain⟨_,_,_,_,e⟩:=x;exact Vu e
 |tup xs=>obtain⟨_,_,_,p⟩:=x;exact p.lt
 |dK ay=>obtain⟨_,_,_,_,o,_,_,e,_⟩:=x;exact Vu e
 |dT ay=>obtain⟨_,_,_,_,o,_,_,e,_⟩:=x;exact Vu e
 |set S n=>obtain⟨o,_,_,_,e,_⟩:=x;exact Vu e
 |ins C dx fs=>obtain⟨_,_,_,e,_⟩:=x;exact Vu e
 |own y=>obtain⟨_,e⟩:=x;exact Vu e
 |xd fs=>obtain⟨_,⟨_,_,_,e,_⟩,_⟩:=x;exact Vu e
 |OE lo hi=>obtain⟨_,_,_,e⟩:=x;exact Vu e
 |gE ob u=>obtain⟨e,_⟩:=x;exact Vu e
 |EL ps=>exact Vu (show h.get? a=some _ from x)
 |met f y=>exact Vu (show h.get? a=some _ from x)
 |ext φ=>obtain⟨_,⟨_,e⟩,_⟩:=x;exact Vu e
theorem Paired.IE{α β:Type}{F G:α->β->Prop}:∀{l₁:List α}{l₂:List β},Paired F l₁ l₂->(∀a b,F a b->G a b)->Paired G l₁ l₂
 |_,_,.nil,_=>.nil
 |_,_,.cons r t,f=>.cons (f _ _ r) (Paired.IE t f)
theorem bE.nW(x:bE P w H h a o)(k:∀b u,(b=a\/H b=some (.own a))->h.get? b=some u->h'.get? b=some u)(ho:∀b,H b=some (.own a)->H' b=some (.own a))(ht:∀b xs,H b=some (.tup xs)->H' b=some (.tup xs)):bE P w H' h' a o:=by
 induction o with
 |lst xs=>obtain⟨z,aD,n,r,e⟩:=x;exact⟨z,aD,n,r,k _ _ (.inl rfl) e⟩
 |tup xs=>obtain⟨z,aD,r,ob,e,c⟩:=x;exact⟨z,aD,r,ob,k _ _ (.inl rfl) e,c⟩
 |dK ay=>obtain⟨z,y,vs,r,ob,es,ep,e,c⟩:=x;exact⟨z,y,vs,r,ob,es,ep,k _ _ (.inl rfl) e,c⟩
 |dT ay=>
  obtain⟨z,y,xs,r,ob,es,ep,e,c⟩:=x;exact⟨z,y,xs,Paired.IE r fun p q z=>⟨z.1,ht _ _ z.2.1,z.2.2⟩,ob,es,ep,k _ _ (.inl rfl) e,c⟩
 |set S n=>obtain⟨ob,es,ep,t,e,c⟩:=x;exact⟨ob,es,ep,t,k _ _ (.inl rfl) e,c⟩
 |ins C dx fs=>
  obtain⟨d,z,ne,e,mA,⟨od,es,ep,e2,c⟩,r⟩:=x;exact⟨ho _ d,z,ne,k _ _ (.inl rfl) e,mA,⟨od,es,ep,k _ _ (.inr d) e2,c⟩,r⟩
 |own y=>obtain⟨ob,e⟩:=x;exact⟨ob,k _ _ (.inl rfl) e⟩
 |xd fs=>obtain⟨mA,⟨od,es,ep,e,c⟩,r⟩:=x;exact⟨mA,⟨od,es,ep,k _ _ (.inl rfl) e,c⟩,r⟩
 |OE lo hi=>obtain⟨t,u,v,e⟩:=x;exact⟨t,u,v,k _ _ (.inl rfl) e⟩
 |gE ob u ih=>obtain⟨e,q⟩:=x;exact⟨k _ _ (.inl rfl) e,ih q⟩
 |EL ps=>
  have e:h.get? a=some {cls:=.none,data:=.fields ps}:=x;show h'.get? a=some {cls:=.none,data:=.fields ps};exact k a _ (.inl rfl) e
 |met f y=>
  have e:h.get? a=some (W.methodObj (.ref f) (.ref y)):=x;show h'.get? a=some (W.methodObj (.ref f) (.ref y));exact k a _ (.inl rfl) e
 |ext φ=>obtain⟨p,⟨o,e⟩,st⟩:=x;exact⟨st _ _ p fun o q=>k _ _ (.inl rfl) q,⟨o,k _ _ (.inl rfl) e⟩,st⟩
theorem g6.lt(x:g6 P w H h)(e:H a=some o):a<h.objs.size:=(x a o e).lt
theorem g6.fresh(x:g6 P w H h)(e:h.objs.size<=a):H a=none:=by
 cases q:H a with
 |none=>rfl
 |some u=>exact absurd (VC (x.lt q) e) (VY _)
theorem g6.kept(x:g6 P w H h)(k:∀b u,h.get? b=some u->h'.get? b=some u):g6 P w H h':=fun a o e=>
 (x a o e).nW (fun b u _ q=>k b u q) (fun _ q=>q) fun _ _ q=>q
theorem g6.laid(x:g6 P w H h)(k:∀b u,h.get? b=some u->h'.get? b=some u)(hp:h.objs.size<=a)(new:bE P w (upd H a o) h' a o):g6 P w (upd H a o) h':=fun b u e=>by
 have hn:=x.fresh hp;by_cases hb:b=a
 .subst hb;rw[a!]at e;cases e;exact new
 .rw[aM hb]at e;exact(x b u e).nW (fun c v _ q=>k c v q) (fun c q=>by rw[aM (aN q hn)];exact q) fun c xs q=>by rw[aM (aN q hn)];exact q
end
def Rd(H:Hp)(a:_V)(u:HO):Prop:=H a=some u\/∃o,H a=some (.gE o u)
theorem Rd.ok{P:_X}{w:World}{H:Hp}{h:Heap}{a:_V}{u:HO}(r:Rd H a u)(x:g6 P w H h):bE P w H h a u:=by
 rcases r with r|⟨o,r⟩
 .exact x a u r
 .obtain⟨_,q⟩:=x a _ r;exact q
def L8:Option HO->Prop
 |some (.lst _)=>True
 |some (.dK _)=>True
 |some (.dT _)=>True
 |some (.set _ _)=>True
 |some (.ins _ _ _)=>True
 |some (.ext _)=>True
 |_=>False
section
variable{P:_X}{w:World}{H:Hp}{h h':Heap}{x e:_V}{o':HO}
theorem g6.write(ok:g6 P w H h)(mu:L8 (H x))(he:e=x\/H e=some (.own x))(k:∀b u,b≠e->h.get? b=some u->h'.get? b=some u)(LB:∃u,h'.get? e=some u)(new:bE P w (upd H x o') h' x o'):g6 P w (upd H x o') h':=fun b u q=>by
 have L9:∀c y,H c=some (.own y)->c≠x:=fun c y r z=>by subst z;rw[r]at mu;exact mu
 have Pr:∀c xs,H c=some (.tup xs)->c≠x:=fun c xs r z=>by subst z;rw[r]at mu;exact mu
 by_cases hb:b=x
 .subst hb;rw[a!]at q;cases q;exact new
 .rw[aM hb]at q;by_cases BW:b=e
  .have q':H b=some (.own x):=by
    rcases he with z|z
    .exact absurd (BW.trans z) hb
    .rw[BW];exact z
   rw[q]at q';cases q';obtain⟨v,hv⟩:=LB;exact⟨v,by rw[BW];exact hv⟩
  .refine(ok b u q).nW (fun c v hc r=>k c v ?_ r) (fun c r=>by rw[aM (L9 c b r)];exact r) fun c xs r=>by rw[aM (Pr c xs r)];exact r
   rcases hc with rfl|hc
   .exact BW
   .rintro rfl;rcases he with z|z
    .exact L9 c b hc z
    .rw[hc]at z;cases z;exact hb rfl
end
structure Un(fs ex:_R)(H H':Hp)(h h':Heap):Prop where
 keep:∀b o,h.get? b=some o->H b=none->b ∉ fs->b ∉ ex->h'.get? b=some o
 slot:∀b o,h.get? b=some o->H b=none->b∈fs->b ∉ ex->∃sl,h'.get? b=some {o with slots:=sl}
 free:∀b o,h.get? b=some o->H b=none->b ∉ ex->H' b=none
 there:∀b o,h.get? b=some o->b ∉ ex->∃o',h'.get? b=some o'
 mh:∀b xs,H b=some (.tup xs)->H' b=some (.tup xs)
 kR:∀b o u,H b=some (.gE o u)->H' b=some (.gE o u)
 nX:∀b ps,H b=some (.EL ps)->∃more,H' b=some (.EL (ps++more))
section
variable{fs Ul ex ex':_R}{H H1 H2:Hp}{h h1 h2 h':Heap}{a x e:_V}{o:HO}
theorem Un.any(u:Un fs ex H H1 h h1){b:_V}{ob:Obj}(q:h.get? b=some ob)(n:H b=none)(hx:b ∉ ex):∃sl,h1.get? b=some {ob with slots:=sl}:=by
 by_cases hb:b∈fs
 .exact u.slot b ob q n hb hx
 .exact⟨ob.slots,u.keep b ob q n hb hx⟩
theorem Un.kept(k:∀b u,h.get? b=some u->h'.get? b=some u):Un fs ex H H h h':=
 ⟨fun b ob q _ _ _=>k b ob q,fun b ob q _ _ _=>⟨ob.slots,k b ob q⟩,fun _ _ _ n _=>n,fun b ob q _=>⟨ob,k b ob q⟩,fun _ _ q=>q,fun _ _ _ q=>q,fun _ ps q=>⟨#[],by rw[q];simp⟩⟩
theorem Un.refl:Un fs ex H H h h:=Un.kept fun _ _ q=>q
theorem Un.laid(k:∀b u,h.get? b=some u->h'.get? b=some u)(hp:h.objs.size<=a)(hn:H a=none):Un fs ex H (upd H a o) h h' where
 keep:=fun b u q _ _ _=>k b u q
 slot:=fun b u q _ _ _=>⟨u.slots,k b u q⟩
 free:=fun b u q n _=>by rw[aM (VN (VC (Vu q) hp))];exact n
 there:=fun b u q _=>⟨u,k b u q⟩
 mh:=fun b xs q=>by rw[aM (aN q hn)];exact q
 kR:=fun b u xs q=>by rw[aM (aN q hn)];exact q
 nX:=fun b ps q=>⟨#[],by rw[aM (aN q hn),q];simp⟩
theorem Un.write(mu:L8 (H x))(he:e=x\/H e=some (.own x))(k:∀b u,b≠e->h.get? b=some u->h'.get? b=some u)(LB:∃u,h'.get? e=some u):Un fs ex H (upd H x o) h h':=by
 have hx:∀b,H b=none->b≠x:=fun b n z=>by subst z;rw[n]at mu;exact mu
 have hb:∀b,H b=none->b≠e:=fun b n z=>by
  subst z;rcases he with r|r
  .exact hx b n r
  .rw[n]at r;cases r
 have hm:∀b u,H b=some u->¬ L8 (some u)->b≠x:=fun b u q nm z=>by subst z;rw[q]at mu;exact nm mu
 refine⟨fun b u q n _ _=>k b u (hb b n) q,fun b u q n _ _=>⟨u.slots,k b u (hb b n) q⟩,fun b u q n _=>by rw[aM (hx b n)];exact n,fun b u q _=>?_,
  fun b xs q=>by rw[aM (hm b _ q fun z=>z)];exact q,fun b u xs q=>by rw[aM (hm b _ q fun z=>z)];exact q,fun b ps q=>⟨#[],by rw[aM (hm b _ q fun z=>z),q];simp⟩⟩
 by_cases BW:b=e
 .subst BW;exact LB
 .exact⟨u,k b u BW q⟩
end
def se(h:Heap)(H:Hp):_R:=(List.range h.objs.size).filter fun a=>(H a).isSome
def tO(h:Heap)(H:Hp):Heap:=W.hideAll h (se h H)
theorem Ah(h:Heap)(H:Hp):(tO h H).objs.size=h.objs.size:=W.hideAll_size _ _
theorem BX{h:Heap}{H:Hp}{b:_V}{o:Obj}(e:h.get? b=some o)(n:H b=none):(tO h H).get? b=some o:=
 X1 _ e fun hm=>by have q:(H b).isSome=true:=(Wi.mp hm).2;rw[n]at q;simp at q
theorem E1{h:Heap}{H:Hp}{b:_V}{o:Obj}(e:(tO h H).get? b=some o):h.get? b=some o/\H b=none:=by
 have e':h.get? b=some o:=_c (se h H) e;refine⟨e',?_⟩;cases q:H b with
 |none=>rfl
 |some x=>
  have hm:b∈se h H:=Wi.mpr ⟨YI.mpr (Vu e'),by simp[q]⟩;have z:(tO h H).get? b=none:=W.hideAll_none (se h H) hm;rw[z]at e;cases e
structure Mod(K:_N)(mg:_L)(base:Heap):Prop where
 IF:K.In base
 glob:base.Ns mainGlobals mg
 blt:∃mb,base.Ns builtinsNs mb/\∀x:Str,x ≠ "__name__" -> mb x=bootBuiltins x
 nolimit:base.NoLimit
structure Cx where
 prog:_X
 w:World
 K:_N
 mg:Str->_Q
 base:Heap
 A:_W
 N:_S
 s₀:_U
 H₀:Hp
 env:Env
 outer:List Env
 stack:List Env
 ex:_R
 fn:Str->Bool
 calm:Bool
 pn:_M
 xe:_T->_U->Prop
def gG(l:List Env):_R:=l.filterMap (·.frame)
abbrev Cx.fs(X:Cx):_R:=gG X.outer
def OF(sc:Scope)(x:Str):Prop:=sc.names.lookup x=some .local\/sc.names.lookup x=some .cell\/sc.names.lookup x=some .free
def Loc(sc:Scope)(x:Str):Prop:=sc.names.lookup x=some .local\/sc.names.lookup x=some .cell
def Look(env:Env)(h:Heap)(m:_L)(x:Str)(u:_T):Prop:=
 (env.kindOf x=some .local/\m x=some u)\/((env.kindOf x=some .cell\/env.kindOf x=some .free)/\∃c,env.cells.lookup x=some c/\h.IsCell c (some u))
structure Cx.Ok(X:Cx):Prop where
 mod:Mod X.K X.mg X.base
 kind:X.env.scope.kind=.function
 glob:X.env.globals=mainGlobals
 blt:X.env.builtins=builtinsNs
 above:X.s₀.heap.objs.size<=X.env.locals
 inj:∀x y c,X.env.cells.lookup x=some c->X.env.cells.lookup y=some c->x=y
 has:∀x,(X.env.kindOf x=some .cell\/X.env.kindOf x=some .free)->∃c,X.env.cells.lookup x=some c
 Pt:∀x c,X.fn x=true->X.env.cells.lookup x=some c->X.s₀.heap.objs.size<=c
 hd:X.calm=true->X.A.handled=none
 frames:X.A.frames=some X.stack
 SM:X.stack=X.outer\/(X.stack=X.env::X.outer/\X.env.frame=some X.env.locals)
 exf:∀b∈X.ex,b≠X.env.locals/\∀x c,X.env.cells.lookup x=some c->c≠b
 bs:∀b o,X.base.get? b=some o->X.s₀.heap.get? b=some o/\X.H₀ b=none
 LC:X.base.objs.size<=X.s₀.heap.objs.size
 E2:∀b o,X.base.get? b=some o->b ∉ X.ex
 L_:∀b∈X.ex,b ∉ X.fs
 qZ:X.s₀.heap.FunFrames X.base X.outer
 IG:∀b∈X.fs,X.H₀ b=none
structure aI(X:Cx)(ag:_M)(σ:List (Option V))(H:Hp)(s:_U):Prop where
 ok:X.Ok
 os:s.os=X.s₀.os
 bare:AllBare s.gens
 base:Un X.fs X.ex X.H₀ H X.s₀.heap s.heap
 loc:∃m,s.heap.Ns X.env.locals m/\∀(i:Nat)(x:Str)(v:V),X.N[i]?=some x->σ[i]?=some (some v)->OF X.env.scope x->∃u,bb v u/\Look X.env s.heap m x u
 cell:∀x c,X.env.cells.lookup x=some c->∃v,s.heap.IsCell c v
 free:H X.env.locals=none
 nu:∀x c,X.env.cells.lookup x=some c->H c=none
 pin:∀p∈X.pn++ag,s.heap.get? p.1=some p.2/\H p.1=none/\p.1≠X.env.locals/\p.1 ∉ X.fs/\∀v,p.2.data≠.cell v
 bH:g6 X.prog X.w H s.heap
 len:σ.length=X.N.length
section
variable{X:Cx}{ag:_M}{σ:List (Option V)}{H H':Hp}{s:_U}{h':Heap}
theorem Cx.Ok.Pu(ok:X.Ok){b:_V}{o:Obj}(e:X.base.get? b=some o):b ∉ X.fs:=fun hb=>by have:=(ok.qZ.mem hb).1;rw[e]at this;cases this
theorem aI.bs(I:aI X ag σ H s):∀b o,X.base.get? b=some o->s.heap.get? b=some o/\H b=none:=fun b o e=>
 ⟨I.base.keep b o (I.ok.bs b o e).1 (I.ok.bs b o e).2 (I.ok.Pu e) (I.ok.E2 b o e),I.base.free b o (I.ok.bs b o e).1 (I.ok.bs b o e).2 (I.ok.E2 b o e)⟩
theorem aI.bk(I:aI X ag σ H s):∀b o,X.base.get? b=some o->s.heap.get? b=some o:=fun b o e=>(I.bs b o e).1
theorem aI.mod(I:aI X ag σ H s):Mod X.K X.mg X.base:=I.ok.mod
theorem aI.nY(I:aI X ag σ H s):X.K.In s.heap:=I.ok.mod.IF.keeps I.bk
theorem aI.lt(I:aI X ag σ H s):X.env.locals<s.heap.objs.size:=let⟨_,hn,_⟩:=I.loc;hn.lt
theorem aI.sz(I:aI X ag σ H s):X.s₀.heap.objs.size<=s.heap.objs.size:=VZ I.ok.above (Y2 I.lt)
theorem aI.Pw(I:aI X ag σ H s){a:_V}(h:s.heap.objs.size<=a):a ∉ X.fs:=fun hb=>by obtain⟨_,o,ho,_⟩:=I.ok.qZ.mem hb;exact absurd (VC (Vu ho) (VZ I.sz h)) (VY _)
theorem aI.IH(I:aI X ag σ H s):∀x c,X.env.cells.lookup x=some c->c≠X.env.locals:=fun x c e z=>by obtain⟨v,o,ho,hd⟩:=I.cell x c e;obtain⟨m,⟨o',es,ep,tP,L!,_⟩,_⟩:=I.loc;rw[z,tP]at ho;cases ho;rw[L!]at hd;cases hd
theorem aI.qZ(I:aI X ag σ H s):s.heap.FunFrames X.base X.outer:=by
 have all:∀(l:List Env),(∀b∈gG l,b∈X.fs)->X.s₀.heap.FunFrames X.base l->s.heap.FunFrames X.base l:=by
  intro l
  induction l with
  |nil=>intro _ _;trivial
  |cons env r ih=>
   intro hs hl;obtain⟨hk,⟨L,o,hf,hn,ho,hd⟩,hr⟩:=hl;have hL:L∈X.fs:=hs L (by unfold gG;rw[Yx,hf];exact Vm);obtain⟨sl,e⟩:=I.base.slot L o ho (I.ok.IG L hL) hL fun z=>I.ok.L_ L z hL;exact⟨hk,⟨L,_,hf,hn,e,hd⟩,ih (fun b hb=>hs b (by unfold gG;rw[Yx,hf];exact Vk _ hb)) hr⟩
 exact all X.outer (fun _ hb=>hb) I.ok.qZ
theorem aI.stack(I:aI X ag σ H s):s.heap.FunFrames X.base X.stack:=by
 rcases I.ok.SM with e|⟨e,hf⟩
 .rw[e];exact I.qZ
 .rw[e];obtain⟨m,hn,_⟩:=I.loc;refine .cons (by rw[I.ok.kind];decide) hf hn ?_ I.qZ;exact Heap.get?_none_of_le (VZ I.ok.LC I.ok.above)
theorem aI.tQ(I:aI X ag σ H s):∀b∈gG X.stack,b∈X.env.locals::X.fs:=fun b hb=>by
 rcases I.ok.SM with e|⟨e,hf⟩
 .rw[e]at hb;exact Vk _ hb
 .rw[e]at hb;unfold gG at hb;rw[Yx,hf]at hb;exact hb
theorem aI.tR(I:aI X ag σ H s):∀b∈gG X.stack,H b=none:=fun b hb=>by
 rcases VH.mp (I.tQ b hb)with e|hb
 .rw[e];exact I.free
 .obtain⟨_,o,ho,_⟩:=I.ok.qZ.mem hb;exact I.base.free b o ho (I.ok.IG b hb) fun z=>I.ok.L_ b z hb
theorem aI.step{g':Array GenState}{t':Nat}{d':Drawn}{ch:_R}(I:aI X ag σ H s)(EM:∀b∈ch,(b∈X.ex\/X.s₀.heap.objs.size<=b)/\b≠X.env.locals/\(∀x c,X.env.cells.lookup x=some c->c≠b)/\∀p∈X.pn++ag,p.1≠b)(keep:∀b o,b≠X.env.locals->b ∉ X.fs->b ∉ ch->s.heap.get? b=some o->H b=none->h'.get? b=some o)(slot:∀b o,b≠X.env.locals->b∈X.fs->b ∉ ch->s.heap.get? b=some o->H b=none->∃sl,h'.get? b=some {o with slots:=sl})(free:∀b o,b ∉ ch->s.heap.get? b=some o->H b=none->H' b=none)(there:∀b o,b ∉ ch->s.heap.get? b=some o->∃o',h'.get? b=some o')(mh:∀b xs,H b=some (.tup xs)->H' b=some (.tup xs))(kR:∀b o u,H b=some (.gE o u)->H' b=some (.gE o u))(nX:∀b ps,H b=some (.EL ps)->∃more,H' b=some (.EL (ps++more)))(ns:∀m,s.heap.Ns X.env.locals m->h'.Ns X.env.locals m)(bH:g6 X.prog X.w H' h')(hg:AllBare g'):
  aI X ag σ H' {s with heap:=h',gens:=g',drawn:=d',toks:=t'}:=by
 have SN:∀b o,X.s₀.heap.get? b=some o->b≠X.env.locals:=fun b o e=>VN (VC (Vu e) I.ok.above);have OG:∀b o,X.s₀.heap.get? b=some o->b ∉ X.ex->b ∉ ch:=fun b o e hx hb=>by
  rcases(EM b hb).1 with z|z
  .exact hx z
  .exact absurd (VC (Vu e) z) (VY _)
 have cellK:∀x c,X.env.cells.lookup x=some c->∀v,s.heap.IsCell c v->h'.IsCell c v:=fun x c e v⟨o,ho,hd⟩=>by
  have L?:c ∉ ch:=fun z=>(EM c z).2.2.1 x c e rfl;by_cases hc:c∈X.fs
  .obtain⟨sl,q⟩:=slot c o (I.IH x c e) hc L? ho (I.nu x c e);exact⟨_,q,hd⟩
  .exact⟨o,keep c o (I.IH x c e) hc L? ho (I.nu x c e),hd⟩
 refine⟨I.ok,I.os,hg,⟨fun b o e n hb hx=>?_,fun b o e n hb hx=>?_,fun b o e n hx=>?_,fun b o e hx=>?_,fun b xs e=>mh b xs (I.base.mh b xs e),fun b o xs e=>kR b o xs (I.base.kR b o xs e),fun b ps e=>?_⟩,?_,fun x c e=>?_,?_,fun x c e=>?_,fun p hp=>?_,bH,I.len⟩
 .exact keep b o (SN b o e) hb (OG b o e hx) (I.base.keep b o e n hb hx) (I.base.free b o e n hx)
 .obtain⟨sl,e1⟩:=I.base.slot b o e n hb hx;obtain⟨L',e2⟩:=slot b _ (SN b o e) hb (OG b o e hx) e1 (I.base.free b o e n hx);exact⟨L',e2⟩
 .obtain⟨o',e1⟩:=I.base.there b o e hx;exact free b o' (OG b o e hx) e1 (I.base.free b o e n hx)
 .obtain⟨o',e1⟩:=I.base.there b o e hx;exact there b o' (OG b o e hx) e1
 .obtain⟨m1,e1⟩:=I.base.nX b ps e;obtain⟨m2,e2⟩:=nX b _ e1;exact⟨m1++m2,by rw[e2,Array.append_assoc]⟩
 .obtain⟨m,hn,hl⟩:=I.loc;refine⟨m,ns m hn,fun i x v e1 e2 e3=>?_⟩;obtain⟨u,r,l⟩:=hl i x v e1 e2 e3;refine⟨u,r,?_⟩;rcases l with l|⟨k,c,e,z⟩
  .exact .inl l
  .exact .inr ⟨k,c,e,cellK x c e _ z⟩
 .obtain⟨v,z⟩:=I.cell x c e;exact⟨v,cellK x c e v z⟩
 .obtain⟨m,⟨o,_,_,ho,_⟩,_⟩:=I.loc;exact free _ o (fun z=>(EM _ z).2.1 rfl) ho I.free
 .obtain⟨v,o,ho,hd⟩:=I.cell x c e;exact free c o (fun z=>(EM c z).2.2.1 x c e rfl) ho (I.nu x c e)
 .obtain⟨e,n,ne,nf,d⟩:=I.pin p hp;have L?:p.1 ∉ ch:=fun z=>(EM p.1 z).2.2.2 p hp rfl;exact⟨keep p.1 p.2 ne nf L? e n,free p.1 p.2 L? e n,ne,nf,d⟩
theorem aI.un{t':Nat}(I:aI X ag σ H s)(u:Un X.fs [] H H' s.heap h')(bH:g6 X.prog X.w H' h'):aI X ag σ H' {s with heap:=h',toks:=t'}:=by
 obtain⟨m,⟨o,es,ep,ho,r⟩,_⟩:=id I.loc;obtain⟨sl,hL⟩:=u.any ho I.free (by simp);exact I.step (g':=s.gens) (d':=s.drawn) (ch:=[]) (fun _ z=>nomatch z) (fun b o _ hb _ e n=>u.keep b o e n hb (by simp)) (fun b o _ hb _ e n=>u.slot b o e n hb (by simp)) (fun b o _ e n=>u.free b o e n (by simp)) (fun b o _ e=>u.there b o e (by simp)) u.mh u.kR u.nX (fun m' hm=>by
  obtain⟨o',EN,OH,tP,r'⟩:=hm;rw[ho]at tP;cases tP;exact⟨_,EN,OH,hL,r'⟩) bH I.bare
theorem aI.call{g':Array GenState}{t':Nat}{d':Drawn}{ch:_R}(I:aI X ag σ H s)(u:Un (gG X.stack) ch H H' s.heap h')(bH:g6 X.prog X.w H' h')(hg:AllBare g')(EM:∀b∈ch,(b∈X.ex\/X.s₀.heap.objs.size<=b)/\b≠X.env.locals/\(∀x c,X.env.cells.lookup x=some c->c≠b)/\∀p∈X.pn++ag,p.1≠b):
  aI X ag σ H' {s with heap:=h',gens:=g',drawn:=d',toks:=t'}:=by
 obtain⟨m,⟨o,es,ep,ho,r⟩,_⟩:=id I.loc;obtain⟨sl,hL⟩:=u.any ho I.free fun z=>(EM _ z).2.1 rfl;exact I.step (ch:=ch) EM (fun b o hL hb hc e n=>u.keep b o e n (fun z=>(VH.mp (I.tQ b z)).elim hL hb) hc) (fun b o _ _ hc e n=>u.any e n hc) (fun b o hc e n=>u.free b o e n hc) (fun b o hc e=>u.there b o e hc) u.mh u.kR u.nX (fun m' hm=>by
  obtain⟨o',EN,OH,tP,r'⟩:=hm;rw[ho]at tP;cases tP;exact⟨_,EN,OH,hL,r'⟩) bH hg
theorem aI.turned{t':Nat}{it:_V}(I:aI X ag σ H s)(k:∀b o,b≠it->s.heap.get? b=some o->h'.get? b=some o)(hn:H it=none)(hL:it≠X.env.locals)(h1:it∈X.ex\/X.s₀.heap.objs.size<=it)(h2:∀x c,X.env.cells.lookup x=some c->c≠it)(h3:∀p∈X.pn++ag,p.1≠it):aI X ag σ H {s with heap:=h',toks:=t'}:=by
 have SQ:∀b u,H b=some u->b≠it:=fun b u e z=>by rw[z,hn]at e;cases e
 refine I.step (g':=s.gens) (d':=s.drawn) (ch:=[it]) (fun b hb=>?_) (fun b o _ _ hc e _=>k b o (fun z=>hc (by simp[z])) e) (fun b o _ _ hc e _=>⟨o.slots,k b o (fun z=>hc (by simp[z])) e⟩) (fun _ _ _ _ n=>n)
  (fun b o hc e=>⟨o,k b o (fun z=>hc (by simp[z])) e⟩) (fun _ _ e=>e) (fun _ _ _ e=>e) (fun b ps e=>⟨#[],by rw[e];simp⟩) (fun m hm=>?_) (fun b u e=>?_) I.bare
 .have e:b=it:=by simpa using hb
  subst e;exact⟨h1,hL,h2,h3⟩
 .obtain⟨o,es,ep,ho,r⟩:=hm;exact⟨o,es,ep,k _ o (WV hL) ho,r⟩
 .refine(I.bH b u e).nW (fun c v hc q=>k c v ?_ q) (fun _ q=>q) fun _ _ q=>q;rcases hc with z|z
  .rw[z];exact SQ b u e
  .exact SQ c _ z
theorem aI.tok(I:aI X ag σ H s)(t:Nat):aI X ag σ H {s with toks:=t}:=I.un (h':=s.heap) (t':=t) Un.refl I.bH
theorem aI.kept{t':Nat}(I:aI X ag σ H s)(k:∀b u,s.heap.get? b=some u->h'.get? b=some u):aI X ag σ H {s with heap:=h',toks:=t'}:=I.un (Un.kept k) (I.bH.kept k)
theorem aI.laid{a:_V}{o:HO}{t':Nat}(I:aI X ag σ H s)(k:∀b u,s.heap.get? b=some u->h'.get? b=some u)(hp:s.heap.objs.size<=a)(new:bE X.prog X.w (upd H a o) h' a o):
  aI X ag σ (upd H a o) {s with heap:=h',toks:=t'}:=I.un (Un.laid k hp (I.bH.fresh hp)) (I.bH.laid k hp new)
theorem aI.write{x e:_V}{o:HO}{t':Nat}(I:aI X ag σ H s)(mu:L8 (H x))(he:e=x\/H e=some (.own x))(k:∀b u,b≠e->s.heap.get? b=some u->h'.get? b=some u)(LB:∃u,h'.get? e=some u)(new:bE X.prog X.w (upd H x o) h' x o):aI X ag σ (upd H x o) {s with heap:=h',toks:=t'}:=I.un (Un.write mu he k LB) (I.bH.write mu he k LB new)
theorem aI.oP{HE:_M}(I:aI X ag σ H s)(h:∀p∈HE,s.heap.get? p.1=some p.2/\H p.1=none/\p.1≠X.env.locals/\p.1 ∉ X.fs/\∀v,p.2.data≠.cell v):aI X HE σ H s:=
 ⟨I.ok,I.os,I.bare,I.base,I.loc,I.cell,I.free,I.nu,fun p hp=>(VX.mp hp).elim (fun z=>I.pin p (Y! _ z)) (h p),I.bH,I.len⟩
theorem vf{N:_S}(hN:N.Nodup){i j:Nat}{x:Str}(a:N[i]?=some x)(b:N[j]?=some x):i=j:=by obtain⟨h1,e1⟩:=V6.mp a;obtain⟨h2,e2⟩:=V6.mp b;exact(ZW hN).mp (e1.trans e2.symm)
theorem sf{M:Model}{A:_W}{E:_K}{i:Nat}{x:Str}{v:V}{u:_T}{Q:Unit->_U->Prop}(I:aI X ag σ H s)(hN:X.N.Nodup)(hi:X.N[i]?=some x)(hx:Loc X.env.scope x)(r:bb v u)(h:∀s',aI X ag (σ.set i (some v)) H s'->(∃a,Heap.SameBut a s.heap s'.heap/\(a=X.env.locals\/X.env.cells.lookup x=some a))->Q () s')(hf:X.fn x=true\/X.env.scope.names.lookup x=some .local:=by first|exact .inl rfl|exact .inr rfl|assumption):wpAny M A (storeName X.env x u) Q E s:=by
 obtain⟨m,hn,hl⟩:=id I.loc;have Px:(X.env.scope.kind == .class || (X.env.scope.kind == .module&&X.env.locals !=X.env.globals))=false:=by rw[I.ok.kind];rfl
 have Ma:i<σ.length:=by rw[I.len];exact(V6.mp hi).1
 have IH:=I.IH;have tracked:∀{a:_V}{h':Heap},(∃o,s.heap.get? a=some o/\H a=none)->Heap.SameBut a s.heap h'->g6 X.prog X.w H h':=fun{a h'}ha hs b ob e=>by
  obtain⟨_,_,yM⟩:=ha;refine(I.bH b ob e).nW (fun c w' hc q=>(hs.2 c ?_).trans q) (fun _ q=>q) fun _ _ q=>q;rintro rfl;rcases hc with rfl|hc
  .rw[yM]at e;cases e
  .rw[yM]at hc;cases hc
 rcases hx with hk|hk
 .refine wpAny_storeName_local hk hn (fun h' Mb hs=>?_) Px;obtain⟨oL,_,_,Um,_⟩:=id hn;refine h _ ⟨I.ok,I.os,I.bare,⟨fun b o e n hb hx=>?_,fun b o e n hb hx=>?_,I.base.free,fun b o e hx=>?_,I.base.mh,I.base.kR,I.base.nX⟩,⟨_,Mb,fun j y v' e1 e2 e3=>?_⟩,fun y c e=>?_,I.free,I.nu,fun p hp=>?_,tracked ⟨oL,Um,I.free⟩ hs,by simpa using I.len⟩ ⟨_,hs,.inl rfl⟩
  .exact(hs.2 b (VN (VC (Vu e) I.ok.above))).trans (I.base.keep b o e n hb hx)
  .obtain⟨sl,e1⟩:=I.base.slot b o e n hb hx;exact⟨sl,(hs.2 b (VN (VC (Vu e) I.ok.above))).trans e1⟩
  .obtain⟨o',e1⟩:=I.base.there b o e hx;exact⟨o',(hs.2 b (VN (VC (Vu e) I.ok.above))).trans e1⟩
  .by_cases hj:j=i
   .subst hj;rw[hi]at e1;cases e1;rw[Vz Ma]at e2;cases e2;exact⟨u,r,.inl ⟨hk,by simp⟩⟩
   .rw[WI (WV hj)]at e2;obtain⟨u',r',q⟩:=hl j y v' e1 e2 e3;refine⟨u',r',?_⟩;rcases q with⟨k,e⟩|⟨k,c,e,z⟩
    .refine .inl ⟨k,?_⟩;have:y≠x:=fun e=>hj (vf hN e1 (e▸hi));simp[this,e]
    .exact .inr ⟨k,c,e,z.sameBut hs (IH y c e)⟩
  .obtain⟨w',z⟩:=I.cell y c e;exact⟨w',z.sameBut hs (IH y c e)⟩
  .obtain⟨e,n,ne,nf,d⟩:=I.pin p hp;exact⟨(hs.2 p.1 ne).trans e,n,ne,nf,d⟩
 .have Py:X.fn x=true:=by
   rcases hf with z|z
   .exact z
   .rw[z]at hk;cases hk
  obtain⟨c,hc⟩:=I.ok.has x (.inl hk);obtain⟨w',z⟩:=I.cell x c hc;refine wpAny_storeName_cell I.ok.kind hk hc z (fun h' bQ hs=>?_);obtain⟨oc,SS,Pz⟩:=id z;refine h {s with heap:=h'} ⟨I.ok,I.os,I.bare,⟨fun b o e n hb hx=>?_,fun b o e n hb hx=>?_,I.base.free,fun b o e hx=>?_,I.base.mh,I.base.kR,I.base.nX⟩,⟨m,hn.sameBut hs (WV (IH x c hc)),fun j y v' e1 e2 e3=>?_⟩,fun y c' e=>?_,I.free,I.nu,fun p hp=>?_,tracked ⟨oc,SS,I.nu x c hc⟩ hs,by simpa using I.len⟩ ⟨c,hs,.inr hc⟩
  .exact(hs.2 b (VN (VC (Vu e) (I.ok.Pt x c Py hc)))).trans (I.base.keep b o e n hb hx)
  .obtain⟨sl,e1⟩:=I.base.slot b o e n hb hx;exact⟨sl,(hs.2 b (VN (VC (Vu e) (I.ok.Pt x c Py hc)))).trans e1⟩
  .obtain⟨o',e1⟩:=I.base.there b o e hx;exact⟨o',(hs.2 b (VN (VC (Vu e) (I.ok.Pt x c Py hc)))).trans e1⟩
  .by_cases hj:j=i
   .subst hj;rw[hi]at e1;cases e1;rw[Vz Ma]at e2;cases e2;exact⟨u,r,.inr ⟨.inl hk,c,hc,bQ⟩⟩
   .rw[WI (WV hj)]at e2;obtain⟨u',r',q⟩:=hl j y v' e1 e2 e3;refine⟨u',r',?_⟩;rcases q with q|⟨k,c',e,z'⟩
    .exact .inl q
    .refine .inr ⟨k,c',e,z'.sameBut hs ?_⟩;rintro rfl;exact hj (vf hN e1 (I.ok.inj _ _ _ e hc▸hi))
  .by_cases SU:c'=c
   .subst SU;exact⟨_,bQ⟩
   .obtain⟨w2,z2⟩:=I.cell y c' e;exact⟨w2,z2.sameBut hs SU⟩
  .obtain⟨e,n,ne,nf,d⟩:=I.pin p hp;refine⟨(hs.2 p.1 ?_).trans e,n,ne,nf,d⟩;intro q;rw[q,SS]at e;have q':oc=p.2:=VO e;exact d w' (by rw[<-q'];exact Pz)
theorem vg{M:Model}{A:_W}{E:_K}{i:Nat}{x:Str}{v:V}{u:_T}{Q:Unit->_U->Prop}(I:aI X ag σ H s)(hN:X.N.Nodup)(hi:X.N[i]?=some x)(hx:Loc X.env.scope x)(r:bb v u)(h:∀s',aI X ag (σ.set i (some v)) H s'->Q () s')(hf:X.fn x=true\/X.env.scope.names.lookup x=some .local:=by first|exact .inl rfl|exact .inr rfl|assumption):wpAny M A (storeName X.env x u) Q E s:=
 sf I hN hi hx r (fun s' I' _=>h s' I') hf
theorem aI.vh{s':_U}{ch:_R}(I:aI X ag σ H s)(ho:s'.os=s.os)(u:Un (gG X.stack) ch H H' s.heap s'.heap)(bH:g6 X.prog X.w H' s'.heap)(hg:AllBare s'.gens)(EM:∀b∈ch,(b∈X.ex\/X.s₀.heap.objs.size<=b)/\b≠X.env.locals/\(∀x c,X.env.cells.lookup x=some c->c≠b)/\∀p∈X.pn++ag,p.1≠b):aI X ag σ H' s':=by obtain⟨h',g',d',t',o'⟩:=s';have e:o'=s.os:=ho;subst e;exact I.call (g':=g') (t':=t') (d':=d') u bH hg EM
end
abbrev XK:=_T->Option _V->Hp->Prop
abbrev St:=List (Option V)
abbrev VK:=V->Hp->Prop
abbrev TE:=St->Hp->VK->Prop
abbrev TT:=St->Hp->(Bool->Hp->Prop)->Prop
abbrev TA:=St->Hp->(List V->Hp->Prop)->Prop
structure Ends where
 nx:St->Hp->Prop
 rt:VK
 bk:St->Hp->Prop:=fun _ _=>False
 ct:St->Hp->Prop:=fun _ _=>False
abbrev TS:=Ends->St->Hp->Prop
def EP(X:Cx)(ag:_M)(σ:St)(Q:VK)(u:_T)(s':_U):Prop:=∃v H',aI X ag σ H' s'/\bb v u/\Q v H'
def TP(X:Cx)(ag:_M)(σ:St)(Q:Bool->Hp->Prop)(b:Bool)(s':_U):Prop:=∃H',aI X ag σ H' s'/\Q b H'
def AP(X:Cx)(ag:_M)(σ:St)(Q:List V->Hp->Prop)(us:_P)(s':_U):Prop:=∃vs H',aI X ag σ H' s'/\aV vs us/\Q vs H'
def SP(X:Cx)(ag:_M)(D:Ends)(f:Flow)(s':_U):Prop:=
 match f with
 |.next=>∃σ' H',aI X ag σ' H' s'/\D.nx σ' H'
 |.brk=>∃σ' H',aI X ag σ' H' s'/\D.bk σ' H'
 |.cont=>∃σ' H',aI X ag σ' H' s'/\D.ct σ' H'
 |.ret u=>∃v σ' H',aI X ag σ' H' s'/\bb v u/\D.rt v H'
def PE(X:Cx)(e:Expr)(t:TE):Prop:=
 ∀(ag:_M)(s:_U)(σ:St)(H:Hp)(Q:VK),aI X ag σ H s->t σ H Q->wpAny (model X.prog X.w) X.A (eval e X.env) (EP X ag σ Q) X.xe s
def PT(X:Cx)(e:Expr)(t:TT):Prop:=
 ∀(ag:_M)(s:_U)(σ:St)(H:Hp)(Q:Bool->Hp->Prop),aI X ag σ H s->t σ H Q->wpAny (model X.prog X.w) X.A (isTrue e X.env (eval e X.env)) (TP X ag σ Q) X.xe s
def PW(X:Cx)(e:Expr)(t:TT):Prop:=
 ∀(whole:Sem _T)(ag:_M)(s:_U)(σ:St)(H:Hp)(Q:Bool->Hp->Prop),aI X ag σ H s->t σ H Q->wpAny (model X.prog X.w) X.A (isTrue e X.env whole) (TP X ag σ Q) X.xe s
theorem PW.pt{X:Cx}{e:Expr}{t:TT}(h:PW X e t):PT X e t:=h _
def PA(X:Cx)(es:List Expr)(t:TA):Prop:=
 ∀(pos:Pos)(ag:_M)(s:_U)(σ:St)(H:Hp)(Q:List V->Hp->Prop),aI X ag σ H s->t σ H Q->wpAny (model X.prog X.w) X.A (spliced (backTo pos (starEach es X.env))) (AP X ag σ Q) X.xe s
def PS(X:Cx)(st:Stmt)(t:TS):Prop:=
 ∀(ag:_M)(s:_U)(σ:St)(H:Hp)(D:Ends),aI X ag σ H s->t D σ H->wpAny (model X.prog X.w) X.A (exec st X.env) (SP X ag D) X.xe s
def j!(X:Cx)(st:List Stmt)(t:TS):Prop:=
 ∀(ag:_M)(s:_U)(σ:St)(H:Hp)(D:Ends),aI X ag σ H s->t D σ H->wpAny (model X.prog X.w) X.A (execs st X.env) (SP X ag D) X.xe s
theorem cJ{α:Type}{t:Sem α}{Q Q':α->_U->Prop}{M:Model}{A:_W}{E:_K}{s:_U}(h:wpAny M A t Q E s)(hQ:∀a s,Q a s->Q' a s):wpAny M A t Q' E s:=WJ h hQ fun _ _ x=>x
section
variable{X:Cx}
def PB(i:Nat):TE:=fun σ H Q=>∃v,σ[i]?=some (some v)/\Q v H
def tC(v:V):TE:=fun _ H Q=>Q v H
theorem II{i:Nat}{x:Str}{pos:Pos}(hN:X.N[i]?=some x)(hv:OF X.env.scope x)(hd:(x==("__debug__":Str))=false:=by decide)(BY:(x==("__classdict__":Str))=false:=by decide):PE X (.Name x pos) (PB i):=by
 intro ag s σ H Q I h;obtain⟨v,e,h⟩:=h;obtain⟨m,hn,hl⟩:=I.loc;obtain⟨u,r,l⟩:=hl i x v hN e hv;have fin:EP X ag σ Q u s:=⟨v,H,I,r,h⟩
 rcases l with⟨hk,hm⟩|⟨hk,c,hc,HF⟩
 .exact wpAny_Name (wpAny_loadName_local I.ok.kind hk hn hm fin) hd
 .rcases hk with hk|hk
  .exact wpAny_Name (wpAny_loadName_cell I.ok.kind hk hc HF fin) hd
  .exact wpAny_Name (wpAny_loadName_free I.ok.kind hk hc HF fin BY) hd
theorem IJ{i j pos}:PE X (.Constant (.int i) j pos) (tC (.int i)):=fun _ _ _ H _ I h=>wpAny_Constant_int ⟨.int i,H,I.tok _,⟨_,rfl⟩,h⟩
theorem HG{b j pos}:PE X (.Constant (.bool b) j pos) (tC (.bl b)):=fun _ _ _ H _ I h=>Constant_bool ⟨.bl b,H,I,rfl,h⟩
theorem IK{j pos}:PE X (.Constant .none j pos) (tC .bR):=fun _ _ _ H _ I h=>Constant_none ⟨.bR,H,I,rfl,h⟩
theorem IL{x j pos}:PE X (.Constant (.str x) j pos) (tC (.str x)):=fun _ _ _ H _ I h=>Calls.Constant_str ⟨.str x,H,I.tok _,⟨_,rfl⟩,h⟩
def Gl(X:Cx)(x:Str):Prop:=X.env.kindOf x=some .globalImplicit
theorem oQ{E:_K}{ag:_M}{s:_U}{σ:St}{H:Hp}{x:Str}{u:_T}{pos:Pos}{Q:_K}(I:aI X ag σ H s)(hg:Gl X x)(hm:X.mg x=some u)(h:Q u s)(hd:(x==("__debug__":Str))=false:=by decide):wpAny (model X.prog X.w) X.A (eval (.Name x pos) X.env) Q E s:=
 Z! I.ok.kind hg (Calls.loadGlobal_global (by rw[I.ok.glob];exact I.mod.glob.keeps I.bk) hm h) hd
theorem i!{E:_K}{ag:_M}{s:_U}{σ:St}{H:Hp}{x:Str}{u:_T}{pos:Pos}{Q:_K}(I:aI X ag σ H s)(hg:Gl X x)(hm:X.mg x=none)(hv:bootBuiltins x=some u)(h:Q u s)(hn:x ≠ "__name__":=by decide)(hd:(x==("__debug__":Str))=false:=by decide):wpAny (model X.prog X.w) X.A (eval (.Name x pos) X.env) Q E s:=by obtain⟨mb,h1,h2⟩:=I.mod.blt;exact Z! I.ok.kind hg (Calls.loadGlobal_builtin (by rw[I.ok.glob];exact I.mod.glob.keeps I.bk) hm (by rw[I.ok.blt];exact h1.keeps I.bk) ((h2 x hn).trans hv) h) hd
theorem E3{x:Str}{v:V}{u:_T}{pos:Pos}(hg:Gl X x)(hm:X.mg x=some u)(r:bb v u)(hd:(x==("__debug__":Str))=false:=by decide):PE X (.Name x pos) (tC v):=
 fun _ _ _ H _ I h=>oQ I hg hm ⟨v,H,I,r,h⟩ hd
theorem E4{x:Str}{v:V}{u:_T}{pos:Pos}(hg:Gl X x)(hm:X.mg x=none)(hv:bootBuiltins x=some u)(r:bb v u)(hn:x ≠ "__name__":=by decide)(hd:(x==("__debug__":Str))=false:=by decide):PE X (.Name x pos) (tC v):=
 fun _ _ _ H _ I h=>i! I hg hm hv ⟨v,H,I,r,h⟩ hn hd
variable{a b:Expr}{ta tb:TE}{pos:Pos}
def PC(X:Cx)(op:CmpOp)(a b:Expr)(t:TE):Prop:=
 ∀(ag:_M)(s:_U)(σ:St)(H:Hp)(Q:VK),aI X ag σ H s->t σ H Q ->
  wpAny (model X.prog X.w) X.A (eval a X.env) (fun v s₁=>wpAny (model X.prog X.w) X.A (eval b X.env) (fun u s₂=>wpAny (model X.prog X.w) X.A (compareOp op v u) (EP X ag σ Q) X.xe s₂) X.xe s₁) X.xe s
def tB(t:TE):TT:=fun σ H Q=>t σ H fun x H1=>∃c,x=.bl c/\Q c H1
theorem IM{e:Expr}{t:TE}(h:PE X e t)(he:∀whole,isTrue e X.env whole=(do let v <- whole;standAt e.pos;holding [v] (truthy v)):=by intro _;rfl):PT X e (tB t):=by intro ag s σ H Q I hw;refine isTrue_plain (cJ (h ag s σ H _ I hw) fun v s1⟨x,H1,I1,r1,q1⟩=>?_) (he _);obtain⟨d,rfl,q⟩:=q1;cases r1;exact WS ⟨H1,I1,q⟩
variable{tA E5:TT}{rest:List Expr}
def PD(t u:TT):TT:=fun σ H Q=>t σ H fun c H1=>if c=true then u σ H1 Q else Q false H1
def Uo(t u:TT):TT:=fun σ H Q=>t σ H fun c H1=>if c=true then Q true H1 else u σ H1 Q
def PF(t:TT):TT:=fun σ H Q=>t σ H fun c H1=>Q (!c) H1
theorem E6(ha:PT X a tA):PW X (.BoolOp .And [a] pos) tA:=by
 intro wh ag s σ H Q I h;refine isTrue_and (cJ (ha ag s σ H Q I h) fun c s1 e=>?_);cases c with
 |true=>exact isTrue_and_nil e
 |false=>exact e
theorem IP(ha:PT X a tA):PW X (.BoolOp .Or [a] pos) tA:=by
 intro wh ag s σ H Q I h;refine isTrue_or (cJ (ha ag s σ H Q I h) fun c s1 e=>?_);cases c with
 |false=>exact isTrue_or_nil e
 |true=>exact e
theorem IQ(ha:PT X a tA)(hb:PW X (.BoolOp .And (b::rest) pos) E5):PW X (.BoolOp .And (a::b::rest) pos) (PD tA E5):=by
 intro wh ag s σ H Q I h;refine isTrue_and (cJ (ha ag s σ H _ I h) fun c s1⟨H1,I1,q1⟩=>?_);cases c with
 |true=>exact hb wh ag s1 σ H1 Q I1 q1
 |false=>exact⟨H1,I1,q1⟩
theorem Mc(ha:PT X a tA)(hb:PW X (.BoolOp .Or (b::rest) pos) E5):PW X (.BoolOp .Or (a::b::rest) pos) (Uo tA E5):=by
 intro wh ag s σ H Q I h;refine isTrue_or (cJ (ha ag s σ H _ I h) fun c s1⟨H1,I1,q1⟩=>?_);cases c with
 |true=>exact⟨H1,I1,q1⟩
 |false=>exact hb wh ag s1 σ H1 Q I1 q1
theorem IS(ha:PT X a tA):PT X (.UnaryOp .Not a pos) (PF tA):=by intro ag s σ H Q I h;exact isTrue_not (ha ag s σ H (fun c H1=>Q (!c) H1) I h)
def Md(ta tb:TE):TE:=fun σ H Q=>ta σ H fun x H1=>∃c,x=.bl c/\if c=true then tb σ H1 Q else Q (.bl false) H1
def PH(ta tb:TE):TE:=fun σ H Q=>ta σ H fun x H1=>∃c,x=.bl c/\if c=true then Q (.bl true) H1 else tb σ H1 Q
def Me(ta:TE):TE:=fun σ H Q=>ta σ H fun x H1=>∃c,x=.bl c/\Q (.bl (!c)) H1
theorem IT{op}{t:TE}(h:PE X a t):PE X (.BoolOp op [a] pos) t:=fun ag s σ H Q I hw=>BoolOp_one (h ag s σ H Q I hw)
theorem IU(ha:PE X a ta)(hb:PE X (.BoolOp .And (b::rest) pos) tb):PE X (.BoolOp .And (a::b::rest) pos) (Md ta tb):=by
 intro ag s σ H Q I h;refine BoolOp_and (cJ (ha ag s σ H _ I h) fun v s1⟨x,H1,I1,r1,q1⟩=>?_);obtain⟨c,rfl,q1⟩:=q1;cases r1;refine WS ?_;cases c with
 |true=>exact hb ag s1 σ H1 Q I1 q1
 |false=>exact⟨.bl false,H1,I1,rfl,q1⟩
theorem Mf(ha:PE X a ta)(hb:PE X (.BoolOp .Or (b::rest) pos) tb):PE X (.BoolOp .Or (a::b::rest) pos) (PH ta tb):=by
 intro ag s σ H Q I h;refine BoolOp_or (cJ (ha ag s σ H _ I h) fun v s1⟨x,H1,I1,r1,q1⟩=>?_);obtain⟨c,rfl,q1⟩:=q1;cases r1;refine WS ?_;cases c with
 |false=>exact hb ag s1 σ H1 Q I1 q1
 |true=>exact⟨.bl true,H1,I1,rfl,q1⟩
theorem IV(ha:PE X a ta):PE X (.UnaryOp .Not a pos) (Me ta):=by intro ag s σ H Q I h;refine UnaryOp_ (cJ (ha ag s σ H _ I h) fun v s1⟨x,H1,I1,r1,q1⟩=>?_);obtain⟨c,rfl,q1⟩:=q1;cases r1;exact not_of (WS ⟨.bl (!c),H1,I1,rfl,q1⟩)
def Uq(t:TT)(ta tb:TE):TE:=fun σ H Q=>t σ H fun c H1=>if c=true then ta σ H1 Q else tb σ H1 Q
theorem BZ{c:Expr}(hc:PT X c tA)(ha:PE X a ta)(hb:PE X b tb):PE X (.IfExp c a b pos) (Uq tA ta tb):=by
 intro ag s σ H Q I h;refine wpAny_IfExp (cJ (hc ag s σ H _ I h) fun d s1⟨H1,I1,q1⟩=>?_);cases d with
 |true=>exact ha ag s1 σ H1 Q I1 q1
 |false=>exact hb ag s1 σ H1 Q I1 q1
end
def iY(K:_N)(H:Hp)(a:_V)(xs:List V):Prop:=
 Rd H a (.lst xs) \/
  ∃(o:Obj)(aD:Array _T)(n:Nat),K.lookup a=some o/\o.cls=.type "list" /\ o.dict=none/\o.data=.seq aD n/\aD.size<=sizeLine/\aV xs aD.toList
def jz(K:_N)(H:Hp)(a:_V)(xs:List V):Prop:=
 Rd H a (.tup xs) \/
  ∃(o:Obj)(aD:Array _T)(n:Nat),K.lookup a=some o/\o.cls=.type "tuple" /\ o.data=.seq aD n/\aD.size<=sizeLine/\aV xs aD.toList
def PJ:_T->Option V
 |.none=>some .bR
 |.bool b=>some (.bl b)
 |.int i _=>some (.int i)
 |.str x _=>some (.str x)
 |.bytes b _=>some (.OD b)
 |.float b _=>some (.nU b)
 |.ref a=>some (.ref a)
 |.type n=>some (.ty n)
 |_=>none
theorem bb.abs{x:V}{u:_T}(r:bb x u):PJ u=some x:=by
 cases x with
 |bR=>cases r;rfl
 |bl _=>cases r;rfl
 |int _=>obtain⟨t,rfl⟩:=r;rfl
 |str _=>obtain⟨t,rfl⟩:=r;rfl
 |OD _=>obtain⟨t,rfl⟩:=r;rfl
 |nU _=>obtain⟨t,rfl⟩:=r;rfl
 |ref _=>cases r;rfl
 |ty _=>cases r;rfl
theorem bb.inj{x y:V}{u:_T}(r:bb x u)(q:bb y u):x=y:=VO (r.abs.symm.trans q.abs)
theorem aV.inj{xs ys:List V}{us:_P}(p:aV xs us)(q:aV ys us):xs=ys:=by
 induction p generalizing ys with
 |nil=>cases q;rfl
 |cons r t ih=>
  cases q with
  |cons r' t'=>rw[r.inj r',ih t']
section
variable{X:Cx}{ag:_M}{σ:St}{H:Hp}{s:_U}{a:_V}{xs ys:List V}
theorem iY.of{K:_N}(h:H a=some (.lst xs)):iY K H a xs:=.inl (.inl h)
theorem jz.of{K:_N}(h:H a=some (.tup xs)):jz K H a xs:=.inl (.inl h)
theorem aI.list(I:aI X ag σ H s)(h:iY X.K H a xs):∃aD:_P,aV xs aD/\PlainL s.heap a aD.toArray/\xs.length<=sizeLine:=by
 rcases h with h|⟨o,aD,n,hk,hc,hd,hs,hz,r⟩
 .obtain⟨z,aD,n,r,e⟩:=h.ok I.bH;exact⟨aD,r,⟨_,n,e,rfl,rfl,rfl⟩,z⟩
 .refine⟨aD.toList,r,⟨o,n,I.nY a o hk,hc,hd,by simpa using hs⟩,?_⟩;have e:=r.length;simp only[VP]at e;lia
theorem aI.tuple(I:aI X ag σ H s)(h:jz X.K H a xs):∃aD:_P,aV xs aD/\IsTup s.heap a aD.toArray/\xs.length<=sizeLine:=by
 rcases h with h|⟨o,aD,n,hk,hc,hs,hz,r⟩
 .obtain⟨z,aD,r,p⟩:=h.ok I.bH;exact⟨aD,r,p,z⟩
 .refine⟨aD.toList,r,⟨o,I.nY a o hk,hc,n,by simpa using hs⟩,?_⟩;have e:=r.length;simp only[VP]at e;lia
theorem aI.kS(I:aI X ag σ H s)(h:iY X.K H a xs)(h':iY X.K H a ys):xs=ys:=by
 obtain⟨aD,r,⟨o,n,e,_,_,d⟩,_⟩:=I.list h;obtain⟨its',r',⟨o',n',e',_,_,d'⟩,_⟩:=I.list h';rw[e]at e';cases e';rw[d]at d';injection d' with d1 _;have:aD=its':=by simpa using We Array.toList d1
 subst this;exact r.inj r'
theorem aI.mn(I:aI X ag σ H s)(h:jz X.K H a xs)(h':jz X.K H a ys):xs=ys:=by
 obtain⟨aD,r,⟨o,e,_,n,d⟩,_⟩:=I.tuple h;obtain⟨its',r',⟨o',e',_,n',d'⟩,_⟩:=I.tuple h';rw[e]at e';cases e';rw[d]at d';injection d' with d1 _;have:aD=its':=by simpa using We Array.toList d1
 subst this;exact r.inj r'
end
section
variable{X:Cx}{st:Stmt}{rest:List Stmt}{t u:TS}{e:Expr}{te:TE}{pos:Pos}
def Mg:TS:=fun D σ H=>D.nx σ H
def PL(t u:TS):TS:=fun D σ H=>t {D with nx:=u D} σ H
theorem E7:j! X [] Mg:=fun _ _ σ H _ I h=>YT ⟨σ,H,I,h⟩
theorem B0(h1:PS X st t)(h2:j! X rest u):j! X (st::rest) (PL t u):=by
 intro ag s σ H D I h;refine wpAny_execs_cons (cJ (h1 ag s σ H {D with nx:=u D} I h) fun f s1 q=>?_);cases f with
 |next=>
  obtain⟨σ',H',I',q⟩:=q;exact h2 ag s1 σ' H' D I' q
 |ret v=>exact q
 |brk=>exact q
 |cont=>exact q
theorem E8(h1:PS X st t):j! X [st] t:=by
 intro ag s σ H D I h;refine wpAny_execs_cons (cJ (h1 ag s σ H D I h) fun f s1 q=>?_);cases f with
 |next=>exact YT q
 |ret v=>exact q
 |brk=>exact q
 |cont=>exact q
theorem aI.quiet{ag:_M}{σ:St}{H:Hp}{s:_U}(I:aI X ag σ H s):interactive X.env=false:=by simp[interactive,I.ok.kind]
def Mh(te:TE):TS:=fun D σ H=>te σ H fun _ H1=>D.nx σ H1
theorem E9(he:PE X e te)(hs:swapsWith e none pos.line X.env=pure false:=by rfl):PS X (.Expr e pos) (Mh te):=by intro ag s σ H D I h;exact wpAny_Expr_any (cJ (he ag s σ H _ I h) fun v s1⟨x,H1,I1,r1,q1⟩=>⟨σ,H1,I1,q1⟩) I.quiet hs
def PN(te:TE):TS:=fun D σ H=>te σ H D.rt
theorem IW(he:PE X e te):PS X (.Return (some e) pos) (PN te):=by intro ag s σ H D I h;exact wpAny_Return_some (cJ (he ag s σ H _ I h) fun v s1⟨x,H1,I1,r1,q1⟩=>⟨x,σ,H1,I1,r1,q1⟩)
def Mi:TS:=fun D _ H=>D.rt .bR H
theorem E_:PS X (.Return none pos) Mi:=fun _ _ σ H _ I h=>wpAny_Return_none ⟨.bR,σ,H,I,rfl,h⟩
def PO(c:TT)(t u:TS):TS:=fun D σ H=>c σ H fun b H1=>if b=true then t D σ H1 else u D σ H1
theorem Mj{c:Expr}{a b:List Stmt}{tc:TT}(hc:PT X c tc)(ha:j! X a t)(hb:j! X b u):PS X (.If c a b pos) (PO tc t u):=by
 intro ag s σ H D I h;refine wpAny_If (cJ (hc ag s σ H _ I h) fun d s1⟨H1,I1,q1⟩=>?_);cases d with
 |true=>exact ha ag s1 σ H1 D I1 q1
 |false=>exact hb ag s1 σ H1 D I1 q1
end
abbrev TG:=V->St->Hp->(St->Hp->Prop)->Prop
abbrev E!:=List V->St->Hp->(St->Hp->Prop)->Prop
def PG(X:Cx)(target:Expr)(t:TG):Prop:=
 ∀(ag:_M)(s:_U)(σ:St)(H:Hp)(v:V)(u:_T)(Q:St->Hp->Prop),aI X ag σ H s->bb v u->t v σ H Q ->
  wpAny (model X.prog X.w) X.A (assign target X.env u) (fun _ s'=>∃σ' H',aI X ag σ' H' s'/\Q σ' H') X.xe s
def wX(X:Cx)(ts:List Expr)(t:E!):Prop:=
 ∀(ag:_M)(s:_U)(σ:St)(H:Hp)(vs:List V)(us:_P)(Q:St->Hp->Prop),aI X ag σ H s->aV vs us->t vs σ H Q ->
  wpAny (model X.prog X.w) X.A (assignInOrder ((assignEach ts X.env).map (·.2)) us) (fun _ s'=>∃σ' H',aI X ag σ' H' s'/\Q σ' H') X.xe s
abbrev IX:=V->V->V->Hp->(Hp->Prop)->Prop
def Ml(X:Cx)(t:IX):Prop:=
 ∀(ag:_M)(s:_U)(σ:St)(H:Hp)(o i v:V)(ov iv u:_T)(Q:Hp->Prop),aI X ag σ H s->bb o ov->bb i iv->bb v u->t o i v H Q ->
  wpAny (model X.prog X.w) X.A (setItem ov iv u) (fun _ s'=>∃H',aI X ag σ H' s'/\Q H') X.xe s
section
variable{X:Cx}{pos:Pos}
def vi(i:Nat):TG:=fun v σ H Q=>Q (σ.set i (some v)) H
theorem E?{i:Nat}{x:Str}(hN:X.N.Nodup)(hi:X.N[i]?=some x)(hx:Loc X.env.scope x)(hf:X.fn x=true\/X.env.scope.names.lookup x=some .local:=by first|exact .inl rfl|exact .inr rfl|assumption):PG X (.Name x pos) (vi i):=by intro ag s σ H v u Q I r h;exact wpAny_assign_Name (vg I hN hi hx r (fun s' I'=>⟨_,H,I',h⟩) hf)
def PQ:E!:=fun vs σ H Q=>vs=[]/\Q σ H
def Mm(t:TG)(u:E!):E!:=fun vs σ H Q=>∃v r,vs=v::r/\t v σ H fun σ' H'=>u r σ' H' Q
theorem Fb:wX X [] PQ:=by intro ag s σ H vs us Q I r h;obtain⟨e,h⟩:=h;subst e;cases r;exact assignInOrder_nil ⟨σ,H,I,h⟩
theorem B1{e:Expr}{es:List Expr}{t:TG}{u:E!}(h1:PG X e t)(h2:wX X es u)(hs:(assignEach (e::es) X.env).map (·.2)=assign e X.env::(assignEach es X.env).map (·.2):=by rfl):wX X (e::es) (Mm t u):=by
 intro ag s σ H vs us Q I r h;obtain⟨v,vr,e1,h⟩:=h;subst e1;cases r with
 |cons r rr=>
  rw[hs];refine assignInOrder_cons (cJ (h1 ag s σ H _ _ _ I r h) fun _ s1⟨σ1,H1,I1,q1⟩=>?_);exact h2 ag s1 σ1 H1 _ _ Q I1 rr q1
def PR(K:_N)(n:Nat)(t:E!):TG:=fun v σ H Q=>∃a xs,v=.ref a/\jz K H a xs/\xs.length=n/\t xs σ H Q
theorem IY{es:List Expr}{k:Nat}{t:E!}{n:Nat}(hc:X.calm=true)(h:wX X es t)(hn:(assignEach es X.env).length=n:=by rfl)(wY:(assignEach es X.env).findIdx? (·.1)=none:=by rfl):PG X (.Tuple es k pos) (PR X.K n t):=by intro ag s σ H v u Q I r hw;obtain⟨a,xs,e1,hq,hl,hw⟩:=hw;subst e1;cases r;obtain⟨aD,rv,ht,hz⟩:=I.tuple hq;refine assign_Tuple_tuple (I.ok.hd hc) ht (by simp[hn,<-hl,rv.length]) wY fun h' hx=>?_;have I1:aI X ag σ H {s with heap:=h'}:=I.kept (t':=s.toks) fun b o e=>hx b o (VN (Vu e)) e;exact h ag _ σ H xs _ Q I1 (by simpa using rv) hw
def PU(to ti:TE)(t:IX):TG:=fun v σ H Q=>to σ H fun o H1=>ti σ H1 fun i H2=>t o i v H2 fun H3=>Q σ H3
theorem IZ{o i:Expr}{to ti:TE}{t:IX}(ho:PE X o to)(hi:PE X i ti)(hs:Ml X t)
  (ha:∀ v,assign (.Subscript o i pos) X.env v=(do
   let ov <- holding [v] (eval o X.env)
   let iv <- holding [v,ov] (eval i X.env)
   standAt pos
   holding [v,ov,iv] (setItem ov iv v)
   release [v,ov,iv] []):=by intro _;rfl):PG X (.Subscript o i pos) (PU to ti t):=by
 intro ag s σ H v u Q I r h;rw[ha];refine Vh (WD (cJ (ho ag s σ H _ I h) fun ov s1⟨x,H1,I1,r1,q1⟩=>?_));refine Vh (WD (cJ (hi ag s1 σ H1 _ I1 q1) fun iv s2⟨y,H2,I2,r2,q2⟩=>?_));refine Vh (Za (Vh (WD (cJ (hs ag s2 σ H2 x y v ov iv u _ I2 r1 r2 r q2) fun _ s3⟨H3,I3,q3⟩=>?_))));exact wpAny_release ⟨σ,H3,I3,q3⟩
def Fc(te:TE)(g:TG):TS:=fun D σ H=>te σ H fun x H1=>g x σ H1 D.nx
theorem I9{tg e:Expr}{te:TE}{g:TG}(he:PE X e te)(hg:PG X tg g)(hs:swapsWithSole [tg] e pos.line X.env=pure false:=by rfl)(hw:swappedStores [tg] e X.env=pure none:=by rfl)(h1:(assignEach [tg] X.env).map (·.2)=[assign tg X.env]:=by rfl):PS X (.Assign [tg] e pos) (Fc te g):=by intro ag s σ H D I h;refine wpAny_Assign_stores (cJ (he ag s σ H _ I h) fun v s1⟨x,H1,I1,r1,q1⟩=>?_) hs hw;rw[h1];exact cJ (hg ag s1 σ H1 x v _ I1 r1 q1) fun _ s2 q=>q
theorem I_{i:Nat}{x:Str}{e:Expr}{te:TE}{pos':Pos}(hN:X.N.Nodup)(hi:X.N[i]?=some x)(hx:Loc X.env.scope x)(he:PE X e te)(hs:swapsWith e (some (.Name x pos')) pos.line X.env=pure false:=by rfl)(hf:X.fn x=true\/X.env.scope.names.lookup x=some .local:=by first|exact .inl rfl|exact .inr rfl|assumption):
  PS X (.Assign [.Name x pos'] e pos) (Fc te (vi i)):=by
 intro ag s σ H D I h;refine wpAny_Assign_Name (cJ (he ag s σ H _ I h) fun v s1⟨y,H1,I1,r1,q1⟩=>?_) hs;exact vg I1 hN hi hx r1 (fun s2 I2=>⟨_,H1,I2,q1⟩) hf
end
section
variable{X:Cx}{pos:Pos}
def I!(c:TT)(tb:TS):TS:=fun D σ H=>∃W:Nat->St->Hp->Prop,(∃m,W m σ H)/\∀m σ H,W m σ H ->
 c σ H fun b H1=>if b=true then ∃N:St->Hp->Prop,(∀σ' H',N σ' H'->∃m',m'<m/\W m' σ' H')/\tb {D with nx:=N,ct:=N,bk:=D.nx} σ H1 else D.nx σ H1
theorem B2{c:Expr}{body:List Stmt}{tc:TT}{tb:TS}(hp:PassesOwn (model X.prog X.w) X.A X.env X.xe)(hc:PT X c tc)(hb:j! X body tb):PS X (.While c body [] pos) (I! tc tb):=by
 intro ag s σ H D I h;obtain⟨W,⟨m0,w0⟩,turn⟩:=h;refine wpAny_While (codeAny_whileLoop (fun n s'=>∃σ' H',aI X ag σ' H' s'/\W n σ' H') ?_ m0 ⟨σ,H,I,w0⟩);rintro n s1 ⟨σ1,H1,I1,w1⟩;refine Xc hp (cJ (hc ag s1 σ1 H1 _ I1 (turn n σ1 H1 w1)) fun b s2⟨H2,I2,q2⟩=>?_);cases b with
 |true=>
  obtain⟨N,hN,q2⟩:=q2;rw[Vo rfl];refine Xc hp (cJ (hb ag s2 σ1 H2 _ I2 q2) fun f s3 q3=>?_);cases f with
  |next=>
   obtain⟨σ3,H3,I3,n3⟩:=q3;obtain⟨m',hm,w3⟩:=hN σ3 H3 n3;exact⟨m',hm,σ3,H3,I3,w3⟩
  |cont=>
   obtain⟨σ3,H3,I3,n3⟩:=q3;obtain⟨m',hm,w3⟩:=hN σ3 H3 n3;exact⟨m',hm,σ3,H3,I3,w3⟩
  |brk=>exact q3
  |ret v=>exact q3
 |false=>
  rw[Vv Vs];exact YT ⟨σ1,H2,I2,q2⟩
end
structure It where
 go:Nat->Hp->Prop
 Mn:Nat->Hp->V->Hp->Prop
 stop:Nat->Hp->Prop
def nZ(X:Cx)(ag:_M)(H:Hp)(b:_V):Prop:=
 H b=none/\b≠X.env.locals/\b ∉ X.fs/\(b∈X.ex\/X.s₀.heap.objs.size<=b)/\(∀x c,X.env.cells.lookup x=some c->c≠b)/\∀p∈X.pn++ag,p.1≠b
theorem aI.wZ{X:Cx}{ag:_M}{σ:St}{H H':Hp}{s:_U}{b:_V}(I:aI X ag σ H s)(hb:s.heap.objs.size<=b)(hn:H' b=none):nZ X ag H' b:=by
 refine⟨hn,WX (VC I.lt hb),I.Pw hb,.inr (VZ I.sz hb),fun x c e z=>?_,fun p hp z=>?_⟩
 .obtain⟨v,q⟩:=I.cell x c e;exact absurd (VC q.lt (by rw[z];exact hb)) (VY _)
 .exact absurd (VC (Vu (I.pin p hp).1) (by rw[z];exact hb)) (VY _)
structure Turn(P:_X)(w:World)(K:_N)(tg:Expr)(J:It)(fp:_R)(it:_V)(tn:Nat->Heap->Prop):Prop where
 mem:it∈fp
 obj:∀i h,tn i h->∀b∈fp,∃o,h.get? b=some o/\∀v,o.data≠.cell v
 keep:∀i h h',tn i h->(∀b∈fp,∀o,h.get? b=some o->h'.get? b=some o)->tn i h'
 item:∀(X:Cx),X.prog=P->X.w=w->X.K=K->X.calm=true->∀(i:Nat)(ag:_M)(s:_U)(σ:St)(H:Hp)(E:_K),aI X ag σ H s->(∀b∈fp,nZ X ag H b)->tn i s.heap->J.go i H ->
  wpAny (model P w) X.A (pyNext (.ref it)) (fun r s1=>∃u,r=some u /\
   wpAny (model P w) X.A (letOwnedTupleGo tg (.ref it) u) (fun _ s2=>∃x H',aI X ag σ H' s2/\bb x u/\J.Mn i H x H'/\tn (i+1) s2.heap/\∀b∈fp,H' b=none) E s1) E s
 done:∀(X:Cx),X.prog=P->X.w=w->X.K=K->X.calm=true->∀(i:Nat)(ag:_M)(s:_U)(σ:St)(H:Hp)(E:_K),aI X ag σ H s->(∀b∈fp,nZ X ag H b)->tn i s.heap->J.stop i H ->
  wpAny (model P w) X.A (pyNext (.ref it)) (fun r s1=>r=none/\aI X ag σ H s1) E s
 self:∀(A:_W)(i:Nat)(s:_U)(Q:_K)(E:_K),tn i s.heap->Q (.ref it) s->wpAny (model P w) A (pyIter (.ref it)) Q E s
abbrev TI:=St->Hp->(It->Hp->Prop)->Prop
def OI(X:Cx)(ag:_M)(σ:St)(tg:Expr)(R:It->Hp->Prop)(OJ:_T)(s2:_U):Prop:=
 ∃(it:_V)(fp:_R)(tn:Nat->Heap->Prop)(J:It)(H':Hp),OJ=.ref it/\aI X ag σ H' s2/\Turn X.prog X.w X.K tg J fp it tn/\tn 0 s2.heap/\(∀b∈fp,nZ X ag H' b)/\R J H'
def PI(X:Cx)(tg iter:Expr)(wi:TI):Prop:=
 ∀(ag:_M)(s:_U)(σ:St)(H:Hp)(R:It->Hp->Prop),aI X ag σ H s->wi σ H R ->
  wpAny (model X.prog X.w) X.A (eval iter X.env) (fun v s1=>wpAny (model X.prog X.w) X.A (pyIter v) (OI X ag σ tg R) X.xe s1) X.xe s
theorem yN{M:Model}{A:_W}{E:_K}{s:_U}{tg:Expr}{it:_V}{u:_T}{o:Obj}{n:String}{vs:Array _T}{Q:Unit->_U->Prop}(ho:s.heap.get? it=some o)(hc:o.cls=.type n)(hd:o.data=.fields vs)(hn:["enumerate","zip","dict_itemiterator","dict_reverseitemiterator","odict_iterator","itertools.zip_longest","itertools.pairwise"].contains n=false)(hQ:Q () s):wpAny M A (letOwnedTupleGo tg (.ref it) u) Q E s:=by
  unfold letOwnedTupleGo;cases tg<;>first
    |exact Vr hQ
    |(cases u<;>first
        |exact Vr hQ
        | (refine Vh (wpAny_load ho ?_)
           rw[hc,hd];show wpAny M A (if(["enumerate","zip","dict_itemiterator","dict_reverseitemiterator","odict_iterator","itertools.zip_longest","itertools.pairwise"].contains n&&vs[0]?==some (rawInt _))=true then _ else _) Q E s;rw[Vv (by intro h;rw[hn,YK]at h;cases h)];exact Vr hQ))
def PV(K:_N)(a:_V):It:=
 ⟨fun i H=>∃xs x,iY K H a xs/\xs[i]?=some x,fun i H x H'=>H'=H/\∀xs,iY K H a xs->xs[i]?=some x,fun i H=>∃xs,iY K H a xs/\xs.length<=i⟩
def PX(K:_N)(a:_V):It:=
 ⟨fun i H=>∃xs x,jz K H a xs/\xs[i]?=some x,fun i H x H'=>H'=H/\∀xs,jz K H a xs->xs[i]?=some x,fun i H=>∃xs,jz K H a xs/\xs.length<=i⟩
def OK(lo:Int)(n:Nat):It:=⟨fun i _=>i<n,fun i H x H'=>H'=H/\x=.int (lo+i),fun i _=>n<=i⟩
theorem Ai{P:_X}{w:World}{K:_N}{tg:Expr}(a it:_V):Turn P w K tg (PV K a) [it] it (fun i h=>h.IsListIter it a i) where
 mem:=by simp
 obj:=fun i h st b hb=>by
  have e:b=it:=by simpa using hb
  subst e;obtain⟨o,e,c,d⟩:=st;exact⟨o,e,fun v z=>by rw[d]at z;cases z⟩
 keep:=fun i h h' st k=>st.at fun o e=>k it (by simp) o e
 item:=by intro X hP hw hK hc i ag s σ H E I hf st hg;subst hP hw hK;obtain⟨xs,x,hq,hx⟩:=hg;obtain⟨aD,rv,p,hz⟩:=I.list hq;obtain⟨u,hu,ru⟩:=rv.get hx;obtain⟨f0,f1,f2,f3,f4,f5⟩:=hf it (by simp);refine _s st p.isList (x:=u) (by simpa using hu) fun h' az sb=>?_;have I1:aI X ag σ H {s with heap:=h'}:=I.turned (t':=s.toks) (fun b o hb e=>(sb.2 b hb).trans e) f0 f1 f3 f4 f5;obtain⟨o,e,c,d⟩:=id az;exact⟨u,rfl,yN (s:={s with heap:=h'}) e c d (by decide) ⟨x,H,I1,ru,⟨rfl,fun ys hy=>by rw[I.kS hy hq];exact hx⟩,az,fun b hb=>(hf b hb).1⟩⟩
 done:=by intro X hP hw hK hc i ag s σ H E I hf st hg;subst hP hw hK;obtain⟨xs,hq,hx⟩:=hg;obtain⟨aD,rv,p,hz⟩:=I.list hq;obtain⟨f0,f1,f2,f3,f4,f5⟩:=hf it (by simp);have hl:=rv.length;exact _B (I.ok.hd hc) st p.isList (by simp;lia) fun h' eb=>⟨rfl,I.turned (t':=s.toks) (fun b o hb e=>eb b o hb e) f0 f1 f3 f4 f5⟩
 self:=fun _ _ _ _ _ st h=>wpAny_pyIter_listiter st h
theorem w9{P:_X}{w:World}{K:_N}{tg:Expr}(a it:_V):Turn P w K tg (PX K a) [it] it (fun i h=>h.IsTupleIter it a i) where
 mem:=by simp
 obj:=fun i h st b hb=>by
  have e:b=it:=by simpa using hb
  subst e;obtain⟨o,e,c,d⟩:=st;exact⟨o,e,fun v z=>by rw[d]at z;cases z⟩
 keep:=fun i h h' st k=>st.at fun o e=>k it (by simp) o e
 item:=by intro X hP hw hK hc i ag s σ H E I hf st hg;subst hP hw hK;obtain⟨xs,x,hq,hx⟩:=hg;obtain⟨aD,rv,p,hz⟩:=I.tuple hq;obtain⟨u,hu,ru⟩:=rv.get hx;obtain⟨f0,f1,f2,f3,f4,f5⟩:=hf it (by simp);refine wpAny_pyNext_tuple_item st (show s.heap.IsTuple a aD.toArray from p) (x:=u) (by simpa using hu) fun h' az sb=>?_;have I1:aI X ag σ H {s with heap:=h'}:=I.turned (t':=s.toks) (fun b o hb e=>(sb.2 b hb).trans e) f0 f1 f3 f4 f5;obtain⟨o,e,c,d⟩:=id az;exact⟨u,rfl,yN (s:={s with heap:=h'}) e c d (by decide) ⟨x,H,I1,ru,⟨rfl,fun ys hy=>by rw[I.mn hy hq];exact hx⟩,az,fun b hb=>(hf b hb).1⟩⟩
 done:=by intro X hP hw hK hc i ag s σ H E I hf st hg;subst hP hw hK;obtain⟨xs,hq,hx⟩:=hg;obtain⟨aD,rv,p,hz⟩:=I.tuple hq;obtain⟨f0,f1,f2,f3,f4,f5⟩:=hf it (by simp);have hl:=rv.length;exact wpAny_pyNext_tuple_end (I.ok.hd hc) st (show s.heap.IsTuple a aD.toArray from p) (by simp;lia) fun h' eb=>⟨rfl,I.turned (t':=s.toks) (fun b o hb e=>eb b o hb e) f0 f1 f3 f4 f5⟩
 self:=fun _ _ _ _ _ st h=>wpAny_pyIter_tupleiter st h
theorem w_{P:_X}{w:World}{K:_N}{tg:Expr}(it:_V)(lo:Int)(n:Nat):Turn P w K tg (OK lo n) [it] it (fun i h=>IsRangeIter h it (lo+(i:Nat)*1) ((n:Int)-(i:Nat)) 1) where
 mem:=by simp
 obj:=fun i h st b hb=>by
  have e:b=it:=by simpa using hb
  subst e;exact⟨_,st,fun v z=>by
   have z':Data.fields _=Data.cell v:=z;cases z'⟩
 keep:=fun i h h' st k=>k it (by simp) _ st
 item:=by intro X hP hw hK hc i ag s σ H E I hf st hg;subst hP hw hK;obtain⟨f0,f1,f2,f3,f4,f5⟩:=hf it (by simp);have W:=Walks.range (prog:=X.prog) (w:=X.w) (I.ok.hd hc) it lo 1 n;refine W.item i s _ _ hg st fun v h' tk hv az kk=>?_;obtain⟨t,rfl⟩:=hv;have I1:aI X ag σ H {s with heap:=h',toks:=tk}:=I.turned (fun b o hb e=>kk b o (by simpa using hb) e) f0 f1 f3 f4 f5;refine⟨_,rfl,yN (s:={s with heap:=h',toks:=tk}) (n:="range_iterator") az rfl rfl (by decide) ⟨.int (lo+i),H,I1,⟨t,?_⟩,⟨rfl,rfl⟩,az,fun b hb=>(hf b hb).1⟩⟩;rw[Zf]
 done:=by intro X hP hw hK hc i ag s σ H E I hf st hg;subst hP hw hK;obtain⟨f0,f1,f2,f3,f4,f5⟩:=hf it (by simp);exact _r (I.ok.hd hc) st (by have:n<=i:=hg;lia) fun h' eb=>⟨rfl,I.turned (t':=s.toks) (fun b o hb e=>eb b o hb e) f0 f1 f3 f4 f5⟩
 self:=fun _ _ _ _ _ st h=>_t st h
section
variable{X:Cx}{tg:Expr}
theorem B3{ag:_M}{σ:St}{H:Hp}{s:_U}{R:It->Hp->Prop}{E:_K}{lo hi:Int}{t u v:Tok}{tk:Nat}(I:aI X ag σ H s)(h1:-(2 ^ 62)<=lo)(h2:lo<2 ^ 62)(h3:-(2 ^ 62)<=hi)(h4:hi<2 ^ 62)(q:R (OK lo (hi-lo).toNat) H):wpAny (model X.prog X.w) X.A (pyIter (.ref s.heap.objs.size)) (OI X ag σ tg R) E {s with heap:=s.heap.push {cls:=.type "range",data:=.fields #[.int lo t,.int hi u,.int 1 v]},toks:=tk}:=by
 refine wpAny_pyIter_range (IsRange.new ..) (small_one h1 h2 h3 h4) ?_;have I1:aI X ag σ H {s with heap:=s.heap.push {cls:=.type "range",data:=.fields #[.int lo t,.int hi u,.int 1 v]},toks:=tk}:=I.kept fun b o e=>Vj _ e;refine⟨(s.heap.push {cls:=.type "range",data:=.fields #[.int lo t,.int hi u,.int 1 v]}).objs.size,[(s.heap.push {cls:=.type "range",data:=.fields #[.int lo t,.int hi u,.int 1 v]}).objs.size],_,_,H,rfl,
  I1.kept (t':=tk) fun b o e=>Vj _ e,w_ _ lo (hi-lo).toNat,?_,fun b hb=>?_,q⟩
 .have e1:lo+((0:Nat):Int)*1=lo:=by simp
  have e2:(((hi-lo).toNat:Nat):Int)-((0:Nat):Int)=Builtin.Range.rangeSize lo hi 1:=by rw[rangeSize_one];split<;>lia
  show IsRangeIter _ _ (lo+((0:Nat):Int)*1) ((((hi-lo).toNat:Nat):Int)-((0:Nat):Int)) 1;rw[e1,e2];exact VA _ rfl
 .have e:b=(s.heap.push {cls:=.type "range",data:=.fields #[.int lo t,.int hi u,.int 1 v]}).objs.size:=by simpa using hb
  subst e;exact I1.wZ (Vp _) (I1.bH.fresh (Vp _))
def Mp(ta:TA):TI:=fun σ H R=>ta σ H fun vs H1=>∃j:Int,vs=[.int j]/\-(2 ^ 62)<=j/\j<2 ^ 62/\R (OK 0 j.toNat) H1
theorem Aj{a:Expr}{ta:TA}{p pos:Pos}(hg:Gl X "range")(hm:X.mg "range" = none)(ha:PA X [a] ta)(hs:starEach [a] X.env=[(false,eval a X.env)]:=by rfl):PI X tg (.Call (.Name "range" p) [a] [] pos) (Mp ta):=by
 intro ag s σ H R I h;refine Call_ (i! I hg hm boot_range (WH (cJ (ha pos ag s σ H _ I h) fun us s1⟨vs,H1,I1,r1,q1⟩=>?_) hs rfl));obtain⟨j,e,q1,q2,q⟩:=q1;subst e;cases r1 with
 |cons r rr=>
  cases rr;obtain⟨t,rfl⟩:=r;exact call_range_1 (B3 I1 (by lia) (by lia) q1 q2 (by simpa using q))
def PY(wi:TI)(g:TG)(tb:TS):TS:=fun D σ H=>wi σ H fun J H1=>∃W:Nat->Nat->St->Hp->Prop,(∃m,W 0 m σ H1)/\∀i m σ H,W i m σ H ->
 (J.stop i H/\D.nx σ H)\/(J.go i H/\∃N:St->Hp->Prop,(∀σ' H',N σ' H'->∃m',m'<m/\W (i+1) m' σ' H')/\∀x H',J.Mn i H x H'->g x σ H' fun σ2 H2=>tb {D with nx:=N,ct:=N,bk:=D.nx} σ2 H2)
def o!(fp:_R)(h:Heap):_M:=fp.filterMap fun b=>(h.get? b).map fun o=>(b,o)
theorem ie{fp:_R}{h:Heap}{b:_V}{o:Obj}(hb:b∈fp)(e:h.get? b=some o):(b,o)∈o! fp h:=ZU.mpr ⟨b,hb,by rw[e];rfl⟩
theorem Ak{fp:_R}{h:Heap}{p:_V×Obj}(hp:p∈o! fp h):p.1∈fp/\h.get? p.1=some p.2:=by
 obtain⟨b,hb,e⟩:=ZU.mp hp;cases q:h.get? b with
 |none=>rw[q]at e;cases e
 |some o=>
  rw[q]at e;have e':(b,o)=p:=VO e;subst e';exact⟨hb,q⟩
theorem aI.pinned{ag:_M}{σ:St}{H:Hp}{s:_U}{fp:_R}(I:aI X ag σ H s)(hf:∀b∈fp,nZ X ag H b)(ho:∀b∈fp,∃o,s.heap.get? b=some o/\∀v,o.data≠.cell v):aI X (ag++o! fp s.heap) σ H s:=
 I.oP fun p hp=>(VX.mp hp).elim (fun z=>I.pin p (V5 _ z)) fun z=>by obtain⟨hb,e⟩:=Ak z;obtain⟨f0,f1,f2,_⟩:=hf p.1 hb;obtain⟨o,e',d⟩:=ho p.1 hb;rw[e]at e';cases e';exact⟨e,f0,f1,f2,d⟩
theorem aI.o?{ag pl:_M}{σ:St}{H:Hp}{s:_U}(I:aI X (ag++pl) σ H s):aI X ag σ H s:=I.oP fun p hp=>I.pin p (V5 _ (Y! _ hp))
theorem I?{iter:Expr}{body:List Stmt}{wi:TI}{g:TG}{tb:TS}{pos:Pos}(hp:PassesOwn (model X.prog X.w) X.A X.env X.xe)(hc:X.calm=true)(hi:PI X tg iter wi)(hg:PG X tg g)(hb:j! X body tb)(hs:∀x,foldedSetIterable iter X.env x=pure x:=by intro _;rfl):PS X (.For tg iter body [] pos) (PY wi g tb):=by
 intro ag s σ H D I h;refine wpAny_For (cJ (hi ag s σ H _ I h) fun v s1 h1=>cJ h1 fun OJ s2 h2=>?_) hs;obtain⟨it,fp,tn,J,H2,e,I2,T,st2,f2,W,⟨m0,w0⟩,turn⟩:=h2;subst e
 -- PZ stays true of HD Ja objects through HD loop
 have w!:∀{H':Hp},(∀b∈fp,H' b=none)->∀b∈fp,nZ X ag H' b:=fun hn b hb=>⟨hn b hb,(f2 b hb).2⟩
 refine codeAny_forLoop_any (fun n s'=>∃i σ' H',aI X ag σ' H' s'/\tn i s'.heap/\(∀b∈fp,H' b=none)/\W i n σ' H') ?_ m0 ⟨0,σ,H2,I2,st2,fun b hb=>(f2 b hb).1,w0⟩;rintro n s3 ⟨i,σ3,H3,I3,l_,Mq,w3⟩;rcases turn i n σ3 H3 w3 with⟨stop,qn⟩|⟨go,N,hN,step⟩
 .refine Xc hp (cJ (T.done X rfl rfl rfl hc i ag s3 σ3 H3 X.xe I3 (w! Mq) l_ stop) fun r s4⟨hr,I4⟩=>?_);subst hr;exact YT ⟨σ3,H3,I4,qn⟩
 .refine Xc hp (cJ (T.item X rfl rfl rfl hc i ag s3 σ3 H3 X.xe I3 (w! Mq) l_ go) fun r s4⟨u,hr,h4⟩=>?_);subst hr;refine Xc hp (cJ h4 fun _ s5⟨x,H5,I5,r5,y5,Jc,P0⟩=>?_);have P_:=I5.pinned (w! P0) (T.obj _ _ Jc);refine Xc hp (cJ (hg _ s5 σ3 H5 x u _ P_ r5 (step x H5 y5)) fun _ s6⟨σ6,H6,I6,q6⟩=>?_);refine Xc hp (cJ (hb _ s6 σ6 H6 _ I6 q6) fun f s7 q7=>?_);have again:∀{σ7:St}{H7:Hp},aI X (ag++o! fp s5.heap) σ7 H7 s7->N σ7 H7->∃m,m<n/\∃i σ' H',aI X ag σ' H' s7/\tn i s7.heap/\(∀b∈fp,H' b=none)/\W i m σ' H':=fun{σ7 H7}I7 n7=>by obtain⟨m',hm,w7⟩:=hN σ7 H7 n7;refine⟨m',hm,i+1,σ7,H7,I7.o?,T.keep _ _ _ Jc fun b hb o e=>(I7.pin (b,o) (V5 _ (V5 _ (ie hb e)))).1,fun b hb=>?_,w7⟩;obtain⟨o,e,d⟩:=T.obj _ _ Jc b hb;exact(I7.pin (b,o) (V5 _ (V5 _ (ie hb e)))).2.1
  cases f with
  |next=>obtain⟨σ7,H7,I7,n7⟩:=q7;exact again I7 n7
  |cont=>obtain⟨σ7,H7,I7,n7⟩:=q7;exact again I7 n7
  |brk=>obtain⟨σ7,H7,I7,q7⟩:=q7;exact⟨σ7,H7,I7.o?,q7⟩
  |ret v=>obtain⟨x7,σ7,H7,I7,r7,q7⟩:=q7;exact⟨x7,σ7,H7,I7.o?,r7,q7⟩
end
abbrev R2:=V->V->Hp->VK->Prop
def c5(X:Cx)(f:_T->_T->Sem _T)(r:R2):Prop:=
 ∀(ag:_M)(s:_U)(σ:St)(H:Hp)(x y:V)(v u:_T)(Q:VK),aI X ag σ H s->bb x v->bb y u->r x y H Q ->
  wpAny (model X.prog X.w) X.A (f v u) (EP X ag σ Q) X.xe s
def P!(X:Cx)(f:_T->Sem _T)(r:V->Hp->VK->Prop):Prop:=
 ∀(ag:_M)(s:_U)(σ:St)(H:Hp)(x:V)(v:_T)(Q:VK),aI X ag σ H s->bb x v->r x H Q ->
  wpAny (model X.prog X.w) X.A (f v) (EP X ag σ Q) X.xe s
def bc(X:Cx)(f:_T)(r:List V->Hp->VK->Prop):Prop:=
 ∀(ag:_M)(s:_U)(σ:St)(H:Hp)(xs:List V)(us:_P)(Q:VK),aI X ag σ H s->aV xs us->r xs H Q ->
  wpAny (model X.prog X.w) X.A (call f us) (EP X ag σ Q) X.xe s
def LD(r:R2)(ta tb:TE):TE:=fun σ H Q=>ta σ H fun x H1=>tb σ H1 fun y H2=>r x y H2 Q
def Ur(r:V->Hp->VK->Prop)(ta:TE):TE:=fun σ H Q=>ta σ H fun x H1=>r x H1 Q
def rI(C:Int->Int->Prop)(g:Int->Int->V):R2:=fun x y H Q=>∃i j,x=.int i/\y=.int j/\C i j/\Q (g i j) H
def EO(g:Int->Int->V):R2:=fun x y H Q=>∃i j,x=.int i/\y=.int j/\Q (g i j) H
def rU(g:Int->V):V->Hp->VK->Prop:=fun x H Q=>∃i,x=.int i/\Q (g i) H
section
variable{X:Cx}{a b c:Expr}{ta tb tc:TE}{pos:Pos}
theorem Jd(ha:PE X a ta)(hb:PE X b tb){ag:_M}{s:_U}{σ:St}{H:Hp}{R:V->V->Hp->Prop}(I:aI X ag σ H s)(h:ta σ H fun x H1=>tb σ H1 fun y H2=>R x y H2){Q:_K}{f:_T->_T->Sem _T}(hf:∀v u s2 x y H2,aI X ag σ H2 s2->bb x v->bb y u->R x y H2->wpAny (model X.prog X.w) X.A (f v u) Q X.xe s2):
  wpAny (model X.prog X.w) X.A (eval a X.env) (fun v s₁=>wpAny (model X.prog X.w) X.A (eval b X.env) (fun u s₂=>wpAny (model X.prog X.w) X.A (f v u) Q X.xe s₂) X.xe s₁) X.xe s:=by
 refine cJ (ha ag s σ H _ I h) fun v s1⟨x,H1,I1,r1,q1⟩=>?_;refine cJ (hb ag s1 σ H1 _ I1 q1) fun u s2⟨y,H2,I2,r2,q2⟩=>?_;exact hf v u s2 x y H2 I2 r1 r2 q2
theorem Mr{op:Operator}{r:R2}(ho:c5 X (binaryOp op) r)(ha:PE X a ta)(hb:PE X b tb):PE X (.BinOp a op b pos) (LD r ta tb):=by intro ag s σ H Q I h;exact wpAny_BinOp (Jd ha hb I h fun v u s2 x y H2 I2 rx ry q=>ho ag s2 σ H2 x y v u Q I2 rx ry q)
theorem Ms{op:UnaryOp}{r:V->Hp->VK->Prop}(ho:P! X (unaryOp op) r)(ha:PE X a ta):PE X (.UnaryOp op a pos) (Ur r ta):=by intro ag s σ H Q I h;exact UnaryOp_ (cJ (ha ag s σ H _ I h) fun v s1⟨x,H1,I1,r1,q1⟩=>ho ag s1 σ H1 x v Q I1 r1 q1)
theorem LF{f:_T->_T->Sem _T}{C:Int->Int->Prop}{g:Int->Int->Int}(rule:∀(i j:Int)(t u:Tok)(s:_U)(Q:_K)(E:_K),C i j->Q (.int (g i j) s.toks) {s with toks:=s.toks+1}->wpAny (model X.prog X.w) X.A (f (.int i t) (.int j u)) Q E s):
  c5 X f (rI C fun i j=>.int (g i j)):=by
 intro ag s σ H x y v u Q I rx ry h;obtain⟨i,j,rfl,rfl,hc,q⟩:=h;obtain⟨t,rfl⟩:=rx;obtain⟨t',rfl⟩:=ry;exact rule i j t t' s _ _ hc ⟨.int (g i j),H,I.tok _,⟨_,rfl⟩,q⟩
theorem Fd{f:_T->_T->Sem _T}{g:Int->Int->Int}(rule:∀(i j:Int)(t u:Tok)(s:_U)(Q:_K)(E:_K),Q (.int (g i j) s.toks) {s with toks:=s.toks+1}->wpAny (model X.prog X.w) X.A (f (.int i t) (.int j u)) Q E s):
  c5 X f (EO fun i j=>.int (g i j)):=by
 intro ag s σ H x y v u Q I rx ry h;obtain⟨i,j,rfl,rfl,q⟩:=h;obtain⟨t,rfl⟩:=rx;obtain⟨t',rfl⟩:=ry;exact rule i j t t' s _ _ ⟨.int (g i j),H,I.tok _,⟨_,rfl⟩,q⟩
theorem Fe{f:_T->_T->Sem _T}{g:Int->Int->Bool}(rule:∀(i j:Int)(t u:Tok)(s:_U)(Q:_K)(E:_K),Q (.bool (g i j)) s->wpAny (model X.prog X.w) X.A (f (.int i t) (.int j u)) Q E s):
  c5 X f (EO fun i j=>.bl (g i j)):=by
 intro ag s σ H x y v u Q I rx ry h;obtain⟨i,j,rfl,rfl,q⟩:=h;obtain⟨t,rfl⟩:=rx;obtain⟨t',rfl⟩:=ry;exact rule i j t t' s _ _ ⟨.bl (g i j),H,I,rfl,q⟩
def P?(i j:Int):Prop:=0<=j/\j<=1000000/\i.natAbs<2 ^ 64
def B4(i j:Int):Prop:=(-(2 ^ 64)<i/\i<2 ^ 64)\/(-(2 ^ 64)<j/\j<2 ^ 64)
theorem B4.ok{i j:Int}(h:B4 i j):IntMulOk i j:=by
 rcases h with⟨h1,h2⟩|⟨h1,h2⟩
 .exact .of_left (intBits_le_64 h1 h2)
 .exact .of_right (intBits_le_64 h1 h2)
theorem w?(k:Nat):(0:Int)<=2 ^ k:=by rw[two_pow_cast];exact W4 _
theorem Je:c5 X (binaryOp .Add) (EO fun i j=>.int (i+j)):=Fd fun _ _ _ _ _ _ _ q=>add_int q
theorem Jf:c5 X (binaryOp .Sub) (EO fun i j=>.int (i-j)):=Fd fun _ _ _ _ _ _ _ q=>sub_int q
theorem Jg:c5 X (binaryOp .Mult) (rI B4 fun i j=>.int (i*j)):=LF fun _ _ _ _ _ _ _ hc q=>mul_int q hc.ok
theorem Ff:c5 X (binaryOp .Mod) (rI (fun _ j=>j≠0) fun i j=>.int (i.fmod j)):=LF fun _ _ _ _ _ _ _ hc q=>mod_int' hc q
theorem Jh:c5 X (binaryOp .RShift) (rI (fun _ j=>0<=j) fun i j=>.int (i / 2 ^ j.toNat)):=LF fun i j _ _ _ _ _ hc q=>
 rshift_int hc (by rw[Zt i (w? _)];exact q)
theorem Ji:c5 X (binaryOp .BitAnd) (EO fun i j=>.int (Builtin.bitAnd i j)):=Fd fun _ _ _ _ _ _ _ q=>and_int q
theorem Mt:c5 X (binaryOp .BitOr) (EO fun i j=>.int (Builtin.bitOr i j)):=Fd fun _ _ _ _ _ _ _ q=>or_int q
theorem Us{f:_T->Sem _T}{g:Int->Int}(rule:∀(i:Int)(t:Tok)(s:_U)(Q:_K)(E:_K),Q (.int (g i) s.toks) {s with toks:=s.toks+1}->wpAny (model X.prog X.w) X.A (f (.int i t)) Q E s):
  P! X f (rU fun i=>.int (g i)):=by
 intro ag s σ H x v Q I rx h;obtain⟨i,rfl,q⟩:=h;obtain⟨t,rfl⟩:=rx;exact rule i t s _ _ ⟨.int (g i),H,I.tok _,⟨_,rfl⟩,q⟩
theorem Jj:P! X (unaryOp .USub) (rU fun i=>.int (-i)):=Us fun _ _ _ _ _ q=>neg_int q
end
section
variable{X:Cx}{a b c:Expr}{ta tb tc:TE}{pos:Pos}
theorem Jk{ag:_M}{σ:St}{H:Hp}{s:_U}{Q:VK}{k k':Bool}(I:aI X ag σ H s)(q:Q (.bl k) H)(e:k=k'):EP X ag σ Q (.bool k') s:=by subst e;exact⟨.bl k,H,I,rfl,q⟩
theorem Mu:c5 X (compareOp .Lt) (EO fun i j=>.bl (decide (i<j))):=Fe fun _ _ _ _ _ _ _ q=>lt_int q
theorem Mv:c5 X (compareOp .LtE) (EO fun i j=>.bl (decide (i<=j))):=Fe fun _ _ _ _ _ _ _ q=>le_int q
theorem Mw:c5 X (compareOp .Gt) (EO fun i j=>.bl (decide (j<i))):=Fe fun _ _ _ _ _ _ _ q=>gt_int q
theorem Mx:c5 X (compareOp .GtE) (EO fun i j=>.bl (decide (j<=i))):=Fe fun _ _ _ _ _ _ _ q=>ge_int q
theorem Jl:c5 X (compareOp .Is) (fun x y H Q=>y=.bR/\Q (.bl (decide (x=.bR))) H):=by
 intro ag s σ H x y v u Q I rx ry h;obtain⟨rfl,q⟩:=h;cases ry;refine is_none_gen (Jk I q ?_);cases x<;>first
  |(cases rx;rfl)
  |(obtain⟨t,rfl⟩:=rx;rfl)
theorem c5.or{f:_T->_T->Sem _T}{r r':R2}(h:c5 X f r)(h':c5 X f r'):c5 X f (fun x y H Q=>r x y H Q\/r' x y H Q):=by
 intro ag s σ H x y v u Q I rx ry q;rcases q with q|q
 .exact h ag s σ H x y v u Q I rx ry q
 .exact h' ag s σ H x y v u Q I rx ry q
theorem B5(b:Expr){op:CmpOp}(h:op≠.In:=by decide)(h2:op≠.NotIn:=by decide):behindInMarks op b=false:=by
 have e1:(op==CmpOp.In)=false:=by cases op<;>first|rfl|exact absurd rfl h
 have e2:(op==CmpOp.NotIn)=false:=by cases op<;>first|rfl|exact absurd rfl h2
 cases b<;>simp[behindInMarks,e1,e2]
theorem Fg{op:CmpOp}{r:R2}(ho:c5 X (compareOp op) r)(ha:PE X a ta)(hb:PE X b tb)(hm:behindInMarks op b=false):PE X (.Compare a [op] [b] pos) (LD r ta tb):=by intro ag s σ H Q I h;exact wpAny_Compare1 (Jd ha hb I h fun v u s2 x y H2 I2 rx ry q=>ho ag s2 σ H2 x y v u Q I2 rx ry q) hm
def My(t:TE):TT:=fun σ H Q=>t σ H fun x H'=>∃k,x=.bl k/\Q k H'
theorem Fh{op:CmpOp}{r:R2}(ho:c5 X (compareOp op) r)(ha:PE X a ta)(hb:PE X b tb)(hm:behindInMarks op b=false):PT X (.Compare a [op] [b] pos) (My (LD r ta tb)):=by
 intro ag s σ H Q I h;refine wpAny_isTrue_Compare1 (cJ (ha ag s σ H _ I h) fun v s1⟨x,H1,I1,r1,q1⟩=>cJ (hb ag s1 σ H1 _ I1 q1) fun u s2⟨y,H2,I2,r2,q2⟩=>
  cJ (ho ag s2 σ H2 x y v u _ I2 r1 r2 q2) fun c s3⟨z,H3,I3,r3,k,e,q3⟩=>?_) hm
 subst e;cases r3;exact WS ⟨H3,I3,q3⟩
theorem mB:(sizeLine:Nat)<2 ^ 63:=by rw[VQ];decide
theorem xa:c5 X (binaryOp .Add) (fun x y H Q=>∃i j,x=.str i/\y=.str j/\i.length+j.length<=sizeLine/\Q (.str (i++j)) H):=by intro ag s σ H x y v u Q I rx ry h;obtain⟨i,j,rfl,rfl,hz,q⟩:=h;obtain⟨t,rfl⟩:=rx;obtain⟨t',rfl⟩:=ry;exact add_str (fun t' tk=>⟨.str (i++j),H,I.tok _,⟨_,rfl⟩,q⟩) hz
theorem vals1{x:V}{us:_P}(r:aV [x] us):∃u,us=[u]/\bb x u:=by
 cases r with
 |cons r1 r2=>cases r2;exact⟨_,rfl,r1⟩
theorem vals2{x y:V}{us:_P}(r:aV [x,y] us):∃u w',us=[u,w']/\bb x u/\bb y w':=by
 cases r with
 |cons r1 r2=>
  cases r2 with
  |cons r3 r4=>cases r4;exact⟨_,_,rfl,r1,r3⟩
theorem B6:bc X (.builtin "abs") (fun xs H Q=>∃i,xs=[.int i]/\Q (.int (if i<0 then -i else i)) H):=by intro ag s σ H xs us Q I r h;obtain⟨i,rfl,q⟩:=h;obtain⟨u,rfl,t,rfl⟩:=vals1 r;exact call_abs_int fun u tk=>⟨.int (if i<0 then -i else i),H,I.tok _,⟨_,rfl⟩,q⟩
end
structure xc(h:Heap)(x dx C:_V)(mA:_L):Prop where
 obj:h.get? x=some (W.instObj C dx)
 ns:h.Ns1 dx mA
 ne:dx≠x
theorem Al{h:Heap}{dx:_V}{mA:_L}(n:h.Ns1 dx mA):∃od,h.get? dx=some od/\∀name,W.lookIn name od=some (mA name):=by
 obtain⟨o,es,ep,ho,hd,hk,_,hm⟩:=n;refine⟨o,ho,fun name=>?_⟩;have e:=hm name;unfold nsFind findBy at e;rw[<-Array.find?_toList]at e;unfold W.lookIn;rw[hd];dsimp only;split
 .rename_i y q;rw[q]at e;exact We some e
 .rename_i q;rw[q]at e;have a:es.toList.any (·.refKey)=false:=by rw[List.any_eq_false];intro y hy;obtain⟨z,t,Jm⟩:=hk y (Array.mem_toList_iff.mp hy);simp[DictEntry.refKey,Jm]
  have a':¬ es.toList.any (·.refKey)=true:=by rw[a];exact Vs
  rw[Vv a'];exact We some e
theorem xc.look{h:Heap}{x dx C:_V}{mA:_L}(I:xc h x dx C mA):∃od,W.InstAt h x (W.instObj C dx) C (some od)/\∀name,W.lookIn name od=some (mA name):=
 let⟨od,ho,hl⟩:=Al I.ns
 ⟨od,⟨I.obj,rfl,rfl,ho⟩,hl⟩
section
variable{prog:_X}{w:World}{A:_W}{E:_K}{s:_U}{K:_N}{x dx C f:_V}{mA:_L}{name:Str}{v:_T}
theorem get_map{expr:Bool}{Q:_K}(X:K.In s.heap)(I:xc s.heap x dx C mA)(hg:W.plainGet K C name=true)(hh:W.hasDictIn K C=true)(ha:W.findIn K (.ref C) name=some none)(hv:mA name=some v)(OL:W.handedIn v=true)(h:Q v {s with toks:=s.toks+1}):
  wpAny (model prog w) A (getAttr (.ref x) name expr) Q E s:=by
 obtain⟨od,J,hl⟩:=I.look;exact W.get_value X J (YO hg).1 (W.findObj_own hh ha rfl (by rw[hl,hv])) OL h
theorem B7{pl:Sem Bool}{Q:_T×List _T->_U->Prop}(X:K.In s.heap)(I:xc s.heap x dx C mA)(hg:W.plainGet K C name=true)(hf:W.findIn K (.ref C) name=some (some (.ref f)))(ht:W.isFn K (.ref f)=true)(hv:mA name=none)(h:Q (.ref f,[.ref x]) s):
  wpAny (model prog w) A (getMethod (.ref x) name pl) Q E s:=by
 obtain⟨od,J,hl⟩:=I.look;exact W.method_fn X J (YO hg).1 (YO hg).2 hf (Wu.mp ht) (by show(W.lookIn name od).map (·.isSome)=some false;rw[hl,hv];rfl) h
theorem Fi{ns:_S}{Q:Unit->_U->Prop}(X:K.In s.heap)(I:xc s.heap x dx C mA)(hs:W.findIn K (.ref C) "__setattr__" = some (some (.builtin "object.__setattr__")))(hp:W.plainOver K C=true)(ht:W.takerIn K C name=some none)(hh:W.hasDictIn K C=true)(hw:PySem.Within mA ns)(hsz:ns.length<=sizeLine)(h:∀h',xc h' x dx C (fun y=>if y=name then some v else mA y)->Heap.SameBut dx s.heap h'->Q () {s with heap:=h',toks:=s.toks+2}):
  wpAny (model prog w) A (setAttr (.ref x) name v) Q E s:=by
 obtain⟨od,J,hl⟩:=I.look;refine W.set_plain X J hs (W.osa_open (s:={s with toks:=s.toks+1}) (r:=none) X J hp ht fun b=>?_);obtain⟨cd,hc,L!⟩:=W.any_some hh;have hx:s.heap.get? x=some ⟨.ref C,some dx,.plain,#[]⟩:=I.obj;refine Vh (Vr (Vh (Vh (wpAny_loadPart hx (Vh (W.Looks.here (s:={s with toks:=s.toks+1}) (W.looks_clsIn X hc) ?_))))));rw[L!];refine Vr (a:=some dx) (Vh (Vr (Vh ?_)));refine wpAny_nsSet1 (s:={s with toks:=s.toks+1}) I.ns fun h' OM cL=>?_;obtain⟨oD,esD,epD,Ut,Uu,Uv⟩:=OM.count (PySem.Within.cons name v hw);refine Vh (wpAny_lookBehind Ut (by rw[Uu];exact pastItsLine_dict (VZ Uv (by rw[Vn];lia))) ?_);exact Vr (h _ ⟨(cL.2 _ (WV I.ne)).trans I.obj,OM,I.ne⟩ cL)
theorem B8{R:Result->_U->Prop}{vs:_P}{kw:List (Str×_T)}(X:K.In s.heap)(hm:W.makesIn K C=true)(hi:W.findIn K (.ref C) "__init__" = some (some (.ref f)))(hf:W.typeIn K (.ref f)=some (.type "function"))
  (h:codeAny (model prog w) (A.under (.builtin "type.__call__" ⟨.ref C::vs,kw⟩)) (.call (.ref f) ⟨.ref (s.heap.objs.size+1)::vs,kw⟩) (W.InitBack (s.heap.objs.size+1) R)
   {s with heap:=(s.heap.push W.emptyDict).push (W.instObj C s.heap.objs.size)}):
  codeAny (model prog w) A (.call (.ref C) ⟨vs,kw⟩) R s:=by
 obtain⟨hh,g,d,t,os⟩:=s;exact W.make_core (W.makes_of X hm) (W.looks_findIn X hi) (fun self=>W.bind_fn X self hf) (.inl rfl) h
end
def ig(f:Str)(v:V):List (Str×V)->List (Str×V)
 |[]=>[(f,v)]
 |(g,x)::r=>if g=f then(g,v)::r else(g,x)::ig f v r
theorem ny(f g:Str)(v:V):∀fs:List (Str×V),(ig f v fs).lookup g=if g=f then some v else fs.lookup g
 |[]=>by
  show List.lookup g [(f,v)]=_;by_cases h:g=f
  .have hb:(g==f)=true:=Wu.mpr h;simp only[List.lookup,hb,Vo h]
  .have hb:(g==f)=false:=VV.mpr h;simp only[List.lookup,hb,Vv h]
 |(k,x)::r=>by
  have ih:=ny f g v r;rw[show ig f v ((k,x)::r)=(if k=f then(k,v)::r else(k,x)::ig f v r)from rfl];by_cases hk:k=f
  .rw[Vo hk];by_cases h:g=k
   .have hb:(g==k)=true:=Wu.mpr h;simp only[List.lookup,hb,Vo (h.trans hk)]
   .have hb:(g==k)=false:=VV.mpr h;simp only[List.lookup,hb,Vv (fun e:g=f=>h (e.trans hk.symm))]
  .rw[Vv hk];by_cases h:g=k
   .have hb:(g==k)=true:=Wu.mpr h;simp only[List.lookup,hb,Vv (fun e:g=f=>hk (h.symm.trans e))]
   .have hb:(g==k)=false:=VV.mpr h;simp only[List.lookup,hb];exact ih
theorem mE(f:Str)(v:V):∀fs:List (Str×V),f∈(ig f v fs).map (·.1)/\∀g,g∈fs.map (·.1)->g∈(ig f v fs).map (·.1)
 |[]=>⟨by simp[ig],fun g h=>by simp at h⟩
 |(k,x)::r=>by
  obtain⟨i1,i2⟩:=mE f v r;rw[show ig f v ((k,x)::r)=(if k=f then(k,v)::r else(k,x)::ig f v r)from rfl];by_cases hk:k=f
  .rw[Vo hk];subst hk;exact⟨by simp,fun g h=>by simpa using h⟩
  .rw[Vv hk];refine⟨?_,fun g h=>?_⟩
   .rw[Vl];exact Vk _ i1
   .rw[Vl]at h⊢;rcases VH.mp h with e|e
    .exact VH.mpr (.inl e)
    .exact Vk _ (i2 g e)
theorem nA(f:Str)(v:V):∀fs:List (Str×V),(ig f v fs).length<=fs.length+1
 |[]=>by simp[ig]
 |(k,x)::r=>by
  have ih:=nA f v r;rw[show ig f v ((k,x)::r)=(if k=f then(k,v)::r else(k,x)::ig f v r)from rfl];by_cases hk:k=f
  .rw[Vo hk,Vn,Vn];lia
  .rw[Vv hk,Vn,Vn];lia
theorem ic.some_of{v:V}{o:_Q}(r:ic (some v) o):∃u,o=some u/\bb v u:=by
 cases o with
 |none=>exact(show False from r).elim
 |some u=>exact⟨u,rfl,r⟩
theorem ic.none_of{o:_Q}(r:ic none o):o=none:=by
 cases o with
 |none=>rfl
 |some u=>exact(show False from r).elim
theorem Am{v:V}{u:_T}(r:bb v u):W.handedIn u=true:=by
 cases v with
 |bR=>cases(show u=Value.none from r);rfl
 |bl b=>cases(show u=Value.bool b from r);rfl
 |int i=>obtain⟨t,e⟩:=(show ∃t,u=Value.int i t from r);cases e;rfl
 |str x=>obtain⟨t,e⟩:=(show ∃t,u=Value.str x t from r);cases e;rfl
 |OD b=>obtain⟨t,e⟩:=(show ∃t,u=Value.bytes b t from r);cases e;rfl
 |nU b=>obtain⟨t,e⟩:=(show ∃t,u=Value.float b t from r);cases e;rfl
 |ref a=>cases(show u=Value.ref a from r);rfl
 |ty n=>cases(show u=Value.type n from r);rfl
section
variable{P:_X}{w:World}{H H':Hp}{h h':Heap}{a C dx:_V}{fs Ul:List (Str×V)}
theorem oR(bH:g6 P w H h)(e:H a=some (.ins C dx fs)):∃mA,xc h a dx C mA/\(∀f,ic (fs.lookup f) (mA f))/\PySem.Within mA (fs.map (·.1))/\fs.length<=1000/\H dx=some (.own a):=by
 obtain⟨d,z,ne,ob,mA,n,r,q⟩:=(show bE P w H h a (.ins C dx fs)from bH a _ e)
 exact⟨mA,⟨ob,n,ne⟩,r,q,z,d⟩
end
structure yO(K:_N)(C:_V):Prop where
 pg:W.plainGet K C Str.empty=true
 hd:W.hasDictIn K C=true
 po:W.plainOver K C=true
 sa:W.findIn K (.ref C) "__setattr__" = some (some (.builtin "object.__setattr__"))
theorem yO.get{K:_N}{C:_V}(c:yO K C)(f:Str):W.plainGet K C f=true:=c.pg
def ik(K:_N)(C:_V)(f:Str):Prop:=W.findIn K (.ref C) f=some none
theorem ik.Mz{K:_N}{C:_V}{f:Str}(n:ik K C f):W.takerIn K C f=some none:=by unfold W.takerIn;rw[show W.findIn K (.ref C) f=some none from n];rfl
structure Meth(K:_N)(C:_V)(m:Str)(f:_V):Prop where
 at_:W.findIn K (.ref C) m=some (some (.ref f))
 fn:W.isFn K (.ref f)=true
 kp:W.keepIn K (.ref f)=true
section
variable{X:Cx}{ag:_M}{σ:St}{H:Hp}{s:_U}{a C dx:_V}{fs:List (Str×V)}{f:Str}{v:V}{A:_W}{E:_K}
theorem xf{b:Bool}{Q:_K}(I:aI X ag σ H s)(e:H a=some (.ins C dx fs))(c:yO X.K C)(n:ik X.K C f)(l:fs.lookup f=some v)(h:∀u s',aI X ag σ H s'->bb v u->Q u s'):wpAny (model X.prog X.w) A (getAttr (.ref a) f b) Q E s:=by obtain⟨mA,O,r,_,_,_⟩:=oR I.bH e;obtain⟨u,hu,ru⟩:=ic.some_of (v:=v) (o:=mA f) (by rw[<-l];exact r f);exact get_map I.nY O (c.get f) c.hd n hu (Am ru) (h u _ (I.tok _) ru)
theorem xg{m:Str}{g:_V}{pl:Sem Bool}{Q:_T×List _T->_U->Prop}(I:aI X ag σ H s)(e:H a=some (.ins C dx fs))(c:yO X.K C)(k:Meth X.K C m g)(l:fs.lookup m=none)(h:Q (.ref g,[.ref a]) s):wpAny (model X.prog X.w) A (getMethod (.ref a) m pl) Q E s:=by obtain⟨mA,O,r,_,_,_⟩:=oR I.bH e;have hn:mA m=none:=ic.none_of (by rw[<-l];exact r m);exact B7 I.nY O (c.get m) k.at_ k.fn hn h
theorem xh{y:V}{u:_T}{Q:Unit->_U->Prop}(I:aI X ag σ H s)(e:H a=some (.ins C dx fs))(c:yO X.K C)(n:ik X.K C f)(hl:fs.length<1000)(ry:bb y u)(h:∀s',aI X ag σ (upd H a (.ins C dx (ig f y fs))) s'->Q () s'):wpAny (model X.prog X.w) A (setAttr (.ref a) f u) Q E s:=by
 obtain⟨mA,O,r,wi,_,ho⟩:=oR I.bH e;have hz:(fs.map (·.1)).length<=sizeLine:=by rw[Vi,VQ];lia
 refine Fi I.nY O c.sa c.po n.Mz c.hd wi hz fun h' O' sb=>h _ ?_;have hd:∃o,h'.get? dx=some o:=let⟨o,_,_,e',_⟩:=O'.ns;⟨o,e'⟩
 refine I.write (x:=a) (e:=dx) (by rw[e];exact True.intro) (.inr ho) (fun b q hb z=>(sb.2 b hb).trans z) hd ?_;refine⟨by rw[aM O.ne];exact ho,?_,O.ne,O'.obj,_,O'.ns,fun g=>?_,fun g hg=>?_⟩
 .have:=nA f y fs;lia
 .show ic ((ig f y fs).lookup g) (if g=f then some u else mA g);rw[ny];by_cases q:g=f
  .rw[Vo q,Vo q];exact ry
  .rw[Vv q,Vv q];exact r g
 .by_cases q:g=f
  .rw[q];exact(mE f y fs).1
  .refine(mE f y fs).2 g (wi g fun z=>hg ?_);show(if g=f then some u else mA g)=none;rw[Vv q];exact z
theorem aI.made(I:aI X ag σ H s):aI X ag σ (upd (upd H s.heap.objs.size (.own (s.heap.objs.size+1))) (s.heap.objs.size+1) (.ins C s.heap.objs.size []))
  {s with heap:=(s.heap.push W.emptyDict).push (W.instObj C s.heap.objs.size)}:=by
 have e1:(s.heap.push W.emptyDict).get? s.heap.objs.size=some W.emptyDict:=VA s.heap rfl;have e2:((s.heap.push W.emptyDict).push (W.instObj C s.heap.objs.size)).get? (s.heap.objs.size+1)=some (W.instObj C s.heap.objs.size):=by have:=VA (s.heap.push W.emptyDict) (o:=W.instObj C s.heap.objs.size) rfl;rwa [Wz]at this
 have e3:(s.heap.push W.emptyDict).Ns s.heap.objs.size (fun _=>none):=⟨W.emptyDict,#[],_,e1,rfl,(fun e he=>absurd he (by simp)),fun _=>rfl⟩
 have I1:=I.laid (a:=s.heap.objs.size) (o:=.own (s.heap.objs.size+1)) (h':=s.heap.push W.emptyDict) (t':=s.toks) (fun b u q=>Vj _ q) (Vp _) ⟨_,e1⟩;refine I1.laid (a:=s.heap.objs.size+1) (o:=.ins C s.heap.objs.size []) (t':=s.toks) (fun b u q=>Vj _ q) (ZQ (Wz _ _)) ?_;have ne:s.heap.objs.size≠s.heap.objs.size+1:=VN (V? _);refine⟨by rw[aM ne,a!],Wh _,ne,e2,fun _=>none,(Heap.Ns1.of_empty e3).at fun o q=>Vj _ q,fun _=>True.intro,fun y hy=>absurd rfl hy⟩
theorem Fj{prog:_X}{w:World}{env:Env}{e:Expr}{f:Str}{pos:Pos}{s:_U}{Q:_K}(hb:attributeBase e f env (eval e env)=eval e env)(h:wpAny (model prog w) A (eval e env) (fun o s₁=>wpAny (model prog w) A (getAttr o f true) Q E s₁) E s):wpAny (model prog w) A (eval (.Attribute e f pos) env) Q E s:=
 Attribute_any_ h (by rw[arm_eval_Attribute,hb])
end
def P'(K:_N)(ta:TE)(f:Str):TE:=fun σ H Q=>ta σ H fun x H1=>∃a C dx fs v,x=.ref a/\H1 a=some (.ins C dx fs)/\yO K C/\ik K C f/\fs.lookup f=some v/\Q v H1
def Qa(K:_N)(ta tv:TE)(f:Str):TS:=fun D σ H=>tv σ H fun y H1=>ta σ H1 fun x H2=>∃a C dx fs,x=.ref a/\H2 a=some (.ins C dx fs)/\yO K C/\ik K C f/\fs.length<1000 /\
 D.nx σ (upd H2 a (.ins C dx (ig f y fs)))
section
variable{X:Cx}{o e value:Expr}{f:Str}{pos pos' q8:Pos}{ta tv:TE}
theorem Jn(he:PE X e ta)(hb:attributeBase e f X.env (eval e X.env)=eval e X.env):PE X (.Attribute e f pos) (P' X.K ta f):=by intro ag s σ H Q I h;refine Fj hb (cJ (he ag s σ H _ I h) fun u s1⟨x,H1,I1,rx,a,C,dx,fs,v,ex,ea,c,n,l,q⟩=>?_);subst ex;obtain rfl:u=Value.ref a:=rx;exact xf I1 ea c n l fun u' s2 I2 ru=>⟨v,H1,I2,ru,q⟩
theorem Jo(ha:PE X o ta)(hv:PE X value tv)(hs:swapsWith value (some (.Attribute o f pos')) pos.line X.env=pure false):PS X (.Assign [.Attribute o f pos'] value pos) (Qa X.K ta tv f):=by intro ag s σ H D I h;refine plainObj_wpAny_Assign_Attribute (cJ (hv ag s σ H _ I h) fun u s1⟨y,H1,I1,ry,q⟩=>cJ (ha ag s1 σ H1 _ I1 q) fun ov s2⟨x,H2,I2,rx,a,C,dx,fs,ex,ea,c,n,l,q2⟩=>?_) hs;subst ex;obtain rfl:ov=Value.ref a:=rx;exact xh I2 ea c n l ry fun s3 I3=>⟨σ,_,I3,q2⟩
end
section
variable{X:Cx}{ag:_M}{σ:St}{H:Hp}{s:_U}{A:_W}{E:_K}{Q:_K}{c:_T}{b:Bool}
inductive n_(K:_N)(H:Hp):V->_T->Prop where
 |bR:n_ K H .bR (.type "NoneType")
 |bl (x:Bool):n_ K H (.bl x) (.type "bool")
 |int (i:Int):n_ K H (.int i) (.type "int")
 |str (x:Str):n_ K H (.str x) (.type "str")
 |nU (x:UInt64):n_ K H (.nU x) (.type "float")
 |lst {a:_V} {xs:List V} (e:H a=some (.lst xs)):n_ K H (.ref a) (.type "list")
 |gE {a:_V} {o:Obj} {xs:List V} (e:H a=some (.gE o (.lst xs))):n_ K H (.ref a) (.type "list")
 |tup {a:_V} {xs:List V} (e:H a=some (.tup xs)):n_ K H (.ref a) (.type "tuple")
 |dK {a:_V} {ay:List (bD×V)} (e:H a=some (.dK ay)):n_ K H (.ref a) (.type "dict")
 |dT {a:_V} {ay:List (List bD×V)} (e:H a=some (.dT ay)):n_ K H (.ref a) (.type "dict")
 |ins {a C dx:_V} {fs:List (Str×V)} (e:H a=some (.ins C dx fs)) (cl:yO K C) (ha:W.findIn K (.ref C) "__class__" = some (some (.builtin "object.__class__")))
   (hn:W.specialIn K (.builtin "object.__class__") "__get__" = some (some (.builtin "getset_descriptor.__get__"))) (SV:W.takesIn K (.builtin "object.__class__")=some true)
   (hm:W.mroIn K C (.type "object")=some true):n_ K H (.ref a) (.ref C)
theorem dM{x:V}{u t:_T}(I:aI X ag σ H s)(rx:bb x u)(ty:n_ X.K H x t)(e:W.kitOne X.K t c=some b)(h:∀tk,Q (.bool b) {s with toks:=tk}):
  wpAny (model X.prog X.w) A (call (.builtin "isinstance") [u,c]) Q E s:=by
 cases ty with
 |bR=>cases(show u=Value.none from rx);exact Wd W.kitx_none I.nY True.intro e (fun z=>nomatch z) h
 |bl y=>cases(show u=Value.bool y from rx);exact Wd W.kitx_bool I.nY True.intro e (fun z=>nomatch z) h
 |int i=>obtain⟨t,q⟩:=(show ∃t,u=Value.int i t from rx);cases q;exact Wd W.kitx_int I.nY True.intro e (fun z=>nomatch z) h
 |str y=>obtain⟨t,q⟩:=(show ∃t,u=Value.str y t from rx);cases q;exact Wd W.kitx_str I.nY True.intro e (fun z=>nomatch z) h
 |nU y=>obtain⟨t,q⟩:=(show ∃t,u=Value.float y t from rx);cases q;exact Wd W.kitx_float I.nY True.intro e (fun z=>nomatch z) h
 | @lst a xs ea=>
  cases(show u=Value.ref a from rx);obtain⟨_,_,n,_,h1⟩:=(show bE X.prog X.w H s.heap a (.lst xs)from I.bH a _ ea)
  exact Wd _m I.nY ⟨_,h1,rfl⟩ e (fun z=>nomatch z) h
 | @gE a ob xs ea=>
  cases(show u=Value.ref a from rx);obtain⟨_,_,_,n,_,h1⟩:=(show bE X.prog X.w H s.heap a (.gE ob (.lst xs))from I.bH a _ ea)
  exact Wd _m I.nY ⟨_,h1,rfl⟩ e (fun z=>nomatch z) h
 | @tup a xs ea=>
  cases(show u=Value.ref a from rx);obtain⟨_,_,_,p⟩:=(show bE X.prog X.w H s.heap a (.tup xs)from I.bH a _ ea)
  obtain⟨o,h1,h2,_⟩:=p;exact Wd _d I.nY ⟨o,h1,h2⟩ e (fun z=>nomatch z) h
 | @dK a ay ea=>
  cases(show u=Value.ref a from rx);obtain⟨_,_,vs,_,p⟩:=(show bE X.prog X.w H s.heap a (.dK ay)from I.bH a _ ea)
  obtain⟨o,es,ep,h1,h2,_⟩:=p;exact Wd _n I.nY ⟨o,h1,h2.1⟩ e (fun z=>nomatch z) h
 | @dT a ay ea=>
  cases(show u=Value.ref a from rx);obtain⟨_,_,xs,_,o,es,ep,h1,h2,_⟩:=(show bE X.prog X.w H s.heap a (.dT ay)from I.bH a _ ea)
  exact Wd _n I.nY ⟨o,h1,h2.1⟩ e (fun z=>nomatch z) h
 | @ins a C dx fs ea cl ha hn SV hm=>
  cases(show u=Value.ref a from rx);obtain⟨mA,O,_⟩:=oR I.bH ea;obtain⟨od,J,_⟩:=O.look;exact Wd (W.kitx_own (cl.get _) cl.hd ha hn SV hm) I.nY J e (fun z=>nomatch z) h
end
structure dn(k:Nat)(A:_W):Prop where
 hd:A.handled=none
 dp:A.depth+3*k+5<recursionLimit
 un:A.units+16*k+200<cLine
theorem dn.mono{j k:Nat}{A:_W}(r:dn k A)(h:j<=k):dn j A:=⟨r.hd,by have:=r.dp;lia,by have:=r.un;lia⟩
theorem dn.deeper{k:Nat}{A:_W}(r:dn (k+1) A)(env:Env):dn k (A.deeper env):=
 ⟨r.hd,by have:=r.dp;show A.depth+1+3*k+5<_;lia,by have:=r.un;show A.units+3+16*k+200<_;lia⟩
theorem xi{A:_W}{C:_V}{us:_P}{kw:List (Str×_T)}:(A.under (.builtin "type.__call__" ⟨.ref C::us,kw⟩)).depth=A.depth+1:=by
 first|rfl|simp[Around.under,Code.weight,Code.isCreation,Code.isGuard,Code.isCaller,Code.frames,Code.isFrame,guardIds]
theorem xj{A:_W}{C:_V}{us:_P}{kw:List (Str×_T)}:(A.under (.builtin "type.__call__" ⟨.ref C::us,kw⟩)).units=A.units+1:=by
 first|rfl|simp[Around.under,Code.cUnits,Code.frames,Code.isFrame]
theorem dn.make{k:Nat}{A:_W}(r:dn (k+1) A)(C:_V)(us:_P)(kw:List (Str×_T)):dn k (A.under (.builtin "type.__call__" ⟨.ref C::us,kw⟩)):=
 ⟨r.hd,by have:=r.dp;rw[xi];lia,by have:=r.un;rw[xj];lia⟩
theorem dn.depth{k:Nat}{A:_W}(r:dn k A):A.depth<recursionLimit:=by have:=r.dp;lia
theorem dn.units{k:Nat}{A:_W}(r:dn k A):A.units+64<cLine:=by have:=r.un;lia
def MC:TA:=fun _ H Q=>Q [] H
def HH(ta:TE)(tr:TA):TA:=fun σ H Q=>ta σ H fun x H1=>tr σ H1 fun xs H2=>Q (x::xs) H2
section
variable{X:Cx}{e:Expr}{es:List Expr}{te:TE}{t:TA}{pos:Pos}
theorem tU:PA X [] MC:=fun _ _ _ _ H Q I h=>Zu ⟨[],H,I,.nil,h⟩
theorem kT(ha:PE X e te)(hr:PA X es t)(hs:starEach (e::es) X.env=(false,eval e X.env)::starEach es X.env:=by rfl):PA X (e::es) (HH te t):=by intro pos ag s σ H Q I h;rw[hs];show wpAny _ _ (spliced ((false,eval e X.env)::backTo pos (starEach es X.env))) _ _ s;refine Yp (cJ (ha ag s σ H _ I h) fun u s1⟨x,H1,I1,r1,q1⟩=>?_);exact cJ (hr pos ag s1 σ H1 _ I1 q1) fun us s2⟨xs,H2,I2,r2,q2⟩=>⟨x::xs,H2,I2,.cons r1 r2,q2⟩
def Qb(t:TA):TE:=fun σ H Q=>t σ H fun xs H1=>xs.length<=sizeLine/\∀p,H1 p=none->Q (.ref p) (upd H1 p (.tup xs))
def Qc(t:TA):TE:=fun σ H Q=>t σ H fun xs H1=>xs.length<=sizeLine/\∀p,H1 p=none->Q (.ref p) (upd H1 p (.lst xs))
theorem Jp{x1}(h:PA X es t):PE X (.Tuple es x1 pos) (Qb t):=by intro ag s σ H Q I hq;refine wpAny_Tuple_spliced (cJ (h pos ag s σ H _ I hq) fun us s1⟨xs,H1,I1,r,z,q⟩=>⟨by rw[<-r.length];exact z,?_⟩);have hf:H1 s1.heap.objs.size=none:=I1.bH.fresh (Vp _);refine⟨.ref s1.heap.objs.size,upd H1 s1.heap.objs.size (.tup xs),I1.laid (t':=s1.toks) (fun b u e=>Vj _ e) (Vp _) ?_,rfl,q _ hf⟩;exact⟨z,us,r,⟨_,VA _ rfl,rfl,_,rfl⟩⟩
theorem Jq(h:PA X es t):PE X (.List es pos) (Qc t):=by intro ag s σ H Q I hq;refine wpAny_List_spliced (cJ (h pos ag s σ H _ I hq) fun us s1⟨xs,H1,I1,r,z,q⟩=>⟨by rw[<-r.length];exact z,?_⟩);have hf:H1 s1.heap.objs.size=none:=I1.bH.fresh (Vp _);refine⟨.ref s1.heap.objs.size,upd H1 s1.heap.objs.size (.lst xs),I1.laid (t':=s1.toks) (fun b u e=>Vj _ e) (Vp _) ?_,rfl,q _ hf⟩;exact⟨z,us,0,r,VA _ rfl⟩
end
abbrev Sp:=List V->Hp->VK->XK->Prop
abbrev wN:=List Env->Hp->_U->XK->_T->_U->Prop
structure xk(P:_X)(w:World)(K:_N)(mg:_L)(base:Heap)(A:_W)(outer:List Env)(s:_U)(H:Hp):Prop where
 frames:A.frames=some outer
 mod:Mod K mg base
 bs:∀b o,base.get? b=some o->s.heap.get? b=some o/\H b=none
 LC:base.objs.size<=s.heap.objs.size
 qZ:s.heap.FunFrames base outer
 IG:∀b∈gG outer,H b=none
 bH:g6 P w H s.heap
 bare:AllBare s.gens
def CE(outer:List Env)(P:_X)(w:World)(H:Hp)(s:_U)(Q:VK)(u:_T)(s':_U):Prop:=
 ∃v H',s'.os=s.os/\AllBare s'.gens/\Un (gG outer) [] H H' s.heap s'.heap/\g6 P w H' s'.heap/\bb v u/\Q v H'
def CR(CX:wN)(outer:List Env)(P:_X)(w:World)(H:Hp)(s:_U)(Q:VK)(E:XK)(r:Result)(s':_U):Prop:=
 match r with
 |.ok (.ret u)=>CE outer P w H s Q u s'
 |.ok _=>False
 |.error e=>CX outer H s E e s'
structure fX(P:_X)(w:World)(K:_N)(mg:_L)(base:Heap)(CX:wN)(k:Nat)(f:_V)(fd:FuncData)(ps:_S)(sp:Sp):Prop where
 len:∀vs H Q E,sp vs H Q E->vs.length=ps.length
 run:∀(A:_W)(outer:List Env)(s:_U)(H:Hp)(args:Args)(us:_P)(vs:List V)(Q:VK)(E:XK),dn k A->xk P w K mg base A outer s H->BindsTo s fd args (ps.zip us)->aV vs us->sp vs H Q E ->
  codeAny (model P w) A (.call (.ref f) args) (CR CX outer P w H s Q E) s
theorem fX.imp{P:_X}{w:World}{K:_N}{mg:_L}{base:Heap}{CX:wN}{k:Nat}{f:_V}{fd:FuncData}{ps:_S}{sp SW:Sp}(F:fX P w K mg base CX k f fd ps sp)(h:∀vs H Q E,SW vs H Q E->sp vs H Q E):fX P w K mg base CX k f fd ps SW:=
 ⟨fun vs H Q E q=>F.len vs H Q E (h _ _ _ _ q),fun A outer s H args us vs Q E hr he hb hv hs=>F.run A outer s H args us vs Q E hr he hb hv (h _ _ _ _ hs)⟩
theorem xk.make{P:_X}{w:World}{K:_N}{mg:_L}{base:Heap}{A:_W}{outer:List Env}{s:_U}{H:Hp}(e:xk P w K mg base A outer s H)(C:_V)(us:_P)(kw:List (Str×_T)):
  xk P w K mg base (A.under (.builtin "type.__call__" ⟨.ref C::us,kw⟩)) outer s H:=⟨by first|exact e.frames|(simpa[Around.under,Code.envs,Code.isFrame,pushEnvs]using e.frames),e.mod,e.bs,e.LC,e.qZ,e.IG,e.bH,e.bare⟩
section
variable{X:Cx}{ag:_M}{σ:St}{H:Hp}{s s':_U}
theorem aI.MD(I:aI X ag σ H s):xk X.prog X.w X.K X.mg X.base X.A X.stack s H:=
 ⟨I.ok.frames,I.ok.mod,I.bs,VZ I.ok.LC I.sz,I.stack,I.tR,I.bH,I.bare⟩
theorem aI.after{Q:VK}{u:_T}(I:aI X ag σ H s)(h:CE X.stack X.prog X.w H s Q u s'):EP X ag σ Q u s':=by obtain⟨v,H',os,bare,un,bH,r,q⟩:=h;obtain⟨hh,g,d,t,Uw⟩:=s';obtain rfl:Uw=s.os:=os;exact⟨v,H',I.call (h':=hh) (g':=g) (d':=d) (t':=t) (ch:=[]) un bH bare (fun b z=>absurd z (by simp)),r,q⟩
end
def MF(sp:Sp)(sg:List V)(E:XK)(t:TA):TE:=fun σ H Q=>t σ H fun vs H1=>sp (vs++sg) H1 Q E
def B9(C:_V)(m:Str)(sp:Sp)(sg:List V)(E:XK)(ta:TE)(t:TA):TE:=fun σ H Q=>ta σ H fun x H1=>∃a dx fs,x=.ref a/\H1 a=some (.ins C dx fs)/\fs.lookup m=none /\
 t σ H1 fun vs H2=>sp (x::(vs++sg)) H2 Q E
def MG(C:_V)(sp:Sp)(sg:List V)(E:XK)(t:TA):TE:=fun σ H Q=>t σ H fun vs H1=>∀x dx,H1 x=none->H1 dx=none->dx≠x ->
 sp (.ref x::(vs++sg)) (upd (upd H1 dx (.own x)) x (.ins C dx [])) (fun v H2=>v=.bR/\Q (.ref x) H2) E
def Binds(K:_N)(fd:FuncData)(ps:_S)(ds:_P):Prop:=
 ∀(s:_U)(us:_P),K.In s.heap->(us++ds).length=ps.length->BindsTo s fd ⟨us,[]⟩ (ps.zip (us++ds))
theorem Binds.all{K:_N}{fd:FuncData}{ps:_S}(h:∀us:_P,us.length=ps.length->bindArgs fd ⟨us,[]⟩=pure (ps.zip us)):Binds K fd ps []:=fun s us _ hl=>by rw[VL]at hl⊢;exact .of_eq (h us hl)
def Passes(CX:wN)(X:Cx)(E:XK):Prop:=∀(ag:_M)(σ:St)(H:Hp)(s:_U)(e:_T)(s':_U),aI X ag σ H s->CX X.stack H s E e s'->X.xe e s'
section
variable{X:Cx}{CX:wN}{k:Nat}{f C:_V}{fd:FuncData}{ps:_S}{sp:Sp}{sg:List V}{ds:_P}{E:XK}{x m:Str}{p pos apos:Pos}{e o:Expr}{es:List Expr}{ta:TE}{t:TA}
theorem B_{ag:_M}{σ:St}{H:Hp}{s:_U}{Q:VK}{us:_P}{vs:List V}(F:fX X.prog X.w X.K X.mg X.base CX k f fd ps sp)(hr:dn k X.A)(hb:Binds X.K fd ps ds)(hd:aV sg ds)(hx:Passes CX X E)(I:aI X ag σ H s)(r:aV vs us)(h:sp (vs++sg) H Q E):wpAny (model X.prog X.w) X.A (call (.ref f) us) (EP X ag σ Q) X.xe s:=by
 have r2:aV (vs++sg) (us++ds):=r.append hd;have hl:(us++ds).length=ps.length:=by rw[<-r2.length];exact F.len _ _ _ _ h
 refine wpAny_call (Zq (F.run X.A X.stack s H ⟨us,[]⟩ (us++ds) (vs++sg) Q E hr I.MD (hb s us I.nY hl) r2 h) fun r s' hq=>?_);cases r with
 |error e=>exact hx ag σ H s e s' I hq
 |ok fl=>
  cases fl with
  |ret u=>exact I.after hq
  |next=>exact False.elim hq
  |brk=>exact False.elim hq
  |cont=>exact False.elim hq
theorem Fl(F:fX X.prog X.w X.K X.mg X.base CX k f fd ps sp)(hr:dn k X.A)(hg:Gl X x)(hm:X.mg x=some (.ref f))(hk:W.keepIn X.K (.ref f)=true)(hb:Binds X.K fd ps ds)(hd:aV sg ds)(hx:Passes CX X E)(ha:PA X (e::es) t)(kU:(x==("__debug__":Str))=false:=by decide)(he:starEach (e::es) X.env=(false,eval e X.env)::starEach es X.env:=by rfl)(i?:(backTo pos (starEach es X.env)).any (·.1)=false:=by rfl):
  PE X (.Call (.Name x p) (e::es) [] pos) (MF sp sg E t):=by
 intro ag s σ H Q I h;refine XH (oQ I hg hm ?_ kU);refine YX (h₀:=X.base) I.ok.mod.IF hk (cJ (ha pos ag s σ H _ I h) fun us s1⟨vs,H1,I1,r,q⟩=>⟨I1.nY,?_⟩) he i?;exact B_ F hr hb hd hx I1 r q
theorem Fm{pl:Sem Bool}(he:PE X o ta)(c:yO X.K C)(hm:Meth X.K C m f)(F:fX X.prog X.w X.K X.mg X.base CX k f fd ps sp)(hr:dn k X.A)(hb:Binds X.K fd ps ds)(hd:aV sg ds)(hx:Passes CX X E)(ha:PA X (e::es) t)(wY:starEach (e::es) X.env=(false,eval e X.env)::starEach es X.env:=by rfl)(i?:(backTo pos (starEach es X.env)).any (·.1)=false:=by rfl)
  (ht:eval (.Call (.Attribute o m apos) (e::es) [] pos) X.env=(do
   let ov <- eval o X.env
   standAt apos.atName
   let(f,first) <- holding [ov] (getMethod ov m pl)
   callWith pos f first (backTo pos (starEach (e::es) X.env)) (backToKw pos (keywordEach [] X.env))):=by rfl):
  PE X (.Call (.Attribute o m apos) (e::es) [] pos) (B9 C m sp sg E ta t):=by
 intro ag s σ H Q I h;refine W.methodCall_KW (pl:=pl) (cJ (he ag s σ H _ I h) fun u s1⟨x,H1,I1,rx,a,dx,fs,ex,ea,l,q⟩=>?_) ht;subst ex;obtain rfl:u=Value.ref a:=rx;refine xg I1 ea c hm l ?_;refine YX (first:=[.ref a]) (h₀:=X.base) I.ok.mod.IF hm.kp (cJ (ha pos ag s1 σ H1 _ I1 q) fun us s2⟨vs,H2,I2,r,q2⟩=>⟨I2.nY,?_⟩) wY i?;exact B_ (us:=.ref a::us) (vs:=.ref a::vs) F hr hb hd hx I2 (.cons rfl r) q2
structure Mk(K:_N)(C f:_V):Prop where
 makes:W.makesIn K C=true
 init:W.findIn K (.ref C) "__init__" = some (some (.ref f))
 fn:W.isFn K (.ref f)=true
 kp:W.keepIn K (.ref C)=true
theorem B!{ag:_M}{σ:St}{H:Hp}{s:_U}{Q:VK}{us:_P}{vs:List V}(M:Mk X.K C f)(F:fX X.prog X.w X.K X.mg X.base CX k f fd ps sp)(hr:dn (k+1) X.A)(hb:Binds X.K fd ps ds)(hd:aV sg ds)(hx:Passes CX X E)(I:aI X ag σ H s)(r:aV vs us)(h:∀x dx,H x=none->H dx=none->dx≠x->sp (.ref x::(vs++sg)) (upd (upd H dx (.own x)) x (.ins C dx [])) (fun v H2=>v=.bR/\Q (.ref x) H2) E):
  wpAny (model X.prog X.w) X.A (call (.ref C) us) (EP X ag σ Q) X.xe s:=by
 have hq:=h (s.heap.objs.size+1) s.heap.objs.size (I.bH.fresh (Nat.le_succ _)) (I.bH.fresh (Vp _)) (VN (V? _));have I2:=aI.made (C:=C) I;have r2:aV (V.ref (s.heap.objs.size+1)::(vs++sg)) (Value.ref (s.heap.objs.size+1)::(us++ds)):=.cons rfl (r.append hd);have hl:(Value.ref (s.heap.objs.size+1)::us++ds).length=ps.length:=by have e:=r2.length;rw[F.len _ _ _ _ hq]at e;exact e.symm
 refine wpAny_call (B8 (f:=f) I.nY M.makes M.init (Wu.mp M.fn) (Zq (F.run _ X.stack _ _ ⟨Value.ref (s.heap.objs.size+1)::us,[]⟩ (Value.ref (s.heap.objs.size+1)::(us++ds)) _ _ E (hr.make C us [])
  (I2.MD.make C us []) (hb _ (Value.ref (s.heap.objs.size+1)::us) I2.nY hl) r2 hq) fun r s' MJ=>?_))
 cases r with
 |error e=>exact hx ag σ _ _ e s' I2 MJ
 |ok fl=>
  cases fl with
  |ret u=>
   obtain⟨v,H',I3,rv,ev,q3⟩:=I2.after MJ;subst ev;exact⟨rv,⟨V.ref (s.heap.objs.size+1),H',I3,rfl,q3⟩⟩
  |next=>exact False.elim MJ
  |brk=>exact False.elim MJ
  |cont=>exact False.elim MJ
theorem Fn(M:Mk X.K C f)(F:fX X.prog X.w X.K X.mg X.base CX k f fd ps sp)(hr:dn (k+1) X.A)(hg:Gl X x)(hm:X.mg x=some (.ref C))(hb:Binds X.K fd ps ds)(hd:aV sg ds)(hx:Passes CX X E)(ha:PA X (e::es) t)(kU:(x==("__debug__":Str))=false:=by decide)(he:starEach (e::es) X.env=(false,eval e X.env)::starEach es X.env:=by rfl)(i?:(backTo pos (starEach es X.env)).any (·.1)=false:=by rfl):
  PE X (.Call (.Name x p) (e::es) [] pos) (MG C sp sg E t):=by
 intro ag s σ H Q I h;refine XH (oQ I hg hm ?_ kU);refine YX (h₀:=X.base) I.ok.mod.IF M.kp (cJ (ha pos ag s σ H _ I h) fun us s1⟨vs,H1,I1,r,q⟩=>⟨I1.nY,?_⟩) he i?;exact B! M F hr hb hd hx I1 r q
end
def PK(X:Cx)(B?:List Keyword)(t:TA):Prop:=
 ∀(pos:Pos)(ag:_M)(s:_U)(σ:St)(H:Hp)(Q:List V->Hp->Prop),aI X ag σ H s->t σ H Q->wpAny (model X.prog X.w) X.A (evalAll ((backToKw pos (keywordEach B? X.env)).map (·.2))) (AP X ag σ Q) X.xe s
section
variable{X:Cx}{CX:wN}{k:Nat}{f C:_V}{fd:FuncData}{ps ks:_S}{sp:Sp}{E:XK}{x m:Str}{p pos apos Qd:Pos}{e o:Expr}{es:List Expr}{B?:List Keyword}{te ta:TE}{t tk:TA}{nm:Option Str}
theorem B':PK X [] MC:=fun _ _ _ _ H Q I h=>wpAny_evalAll_nil ⟨[],H,I,.nil,h⟩
theorem yP(ha:PE X e te)(hr:PK X B? t):PK X (⟨nm,e,Qd⟩::B?) (HH te t):=by intro pos ag s σ H Q I h;show wpAny _ _ (evalAll ((do let v <- eval e X.env;standAt pos;pure v)::(backToKw pos (keywordEach B? X.env)).map (·.2))) _ _ s;refine wpAny_evalAll_cons (Vh (cJ (ha ag s σ H _ I h) fun u s1⟨x,H1,I1,r1,q1⟩=>Vh (Za (Vr ?_))));exact cJ (hr pos ag s1 σ H1 _ I1 q1) fun us s2⟨xs,H2,I2,r2,q2⟩=>⟨x::xs,H2,I2,.cons r1 r2,q2⟩
variable{g:_P->_P->_P}{gV:List V->List V->List V}
end
structure cN(N P:_S)(sc:Scope):Prop where
 kind:sc.kind=.function
 co:sc.isCoroutine=false
 gen:sc.isGenerator=false
 nd:N.Nodup
 pre:N.take P.length=P
 par:∀x∈P,sc.names.lookup x=some .local\/sc.names.lookup x=some .cell
 Jr:∀y∈sc.names,y.2≠.free
theorem si{kindOf:Str->Option NameKind}{x:Str}:∀{binds:List (Str×_T)}{m:_L},(∀v,(x,v) ∉ binds)->bindL kindOf binds m x=m x
 |[],_,_=>rfl
 |(n,v)::r,m,h=>by
  unfold bindL;rw[si fun w hw=>h w (Vk _ hw)];split
  .have:x≠n:=by rintro rfl;exact h v Vm
   simp[this]
  .rfl
theorem sj{kindOf:Str->Option NameKind}{x:Str}:∀{binds:List (Str×_T)}{m:_L},(∀v,(x,v) ∉ binds)->bindC kindOf binds m x=m x
 |[],_,_=>rfl
 |(n,v)::r,m,h=>by
  unfold bindC;rw[sj fun w hw=>h w (Vk _ hw)];split
  .rfl
  .have:x≠n:=by rintro rfl;exact h v Vm
   simp[this]
theorem sk{kindOf:Str->Option NameKind}{x:Str}{v:_T}:∀{P:_S}{vs:_P}{i:Nat}{m:_L},P.Nodup->P[i]?=some x->vs[i]?=some v->kindOf x=some .local ->
  bindL kindOf (P.zip vs) m x=some v
 |[],_,_,_,_,h,_,_=>by simp at h
 |_::_,[],_,_,_,_,h,_=>by simp at h
 |p::P,w::vs,0,m,nd,h1,h2,hk=>by simp at h1 h2;subst h1;subst h2;show bindL kindOf ((p,w)::P.zip vs) m p=_;unfold bindL;rw[si fun v hv=>(Yd.mp nd).1 (XW hv).1,Vo hk];simp
 |p::P,w::vs,i+1,m,nd,h1,h2,hk=>by show bindL kindOf ((p,w)::P.zip vs) m x=_;unfold bindL;exact sk (i:=i) (Yd.mp nd).2 (by simpa using h1) (by simpa using h2) hk
theorem su{kindOf:Str->Option NameKind}{x:Str}{v:_T}:∀{P:_S}{vs:_P}{i:Nat}{m:_L},P.Nodup->P[i]?=some x->vs[i]?=some v->kindOf x≠some .local ->
  bindC kindOf (P.zip vs) m x=some v
 |[],_,_,_,_,h,_,_=>by simp at h
 |_::_,[],_,_,_,_,h,_=>by simp at h
 |p::P,w::vs,0,m,nd,h1,h2,hk=>by simp at h1 h2;subst h1;subst h2;show bindC kindOf ((p,w)::P.zip vs) m p=_;unfold bindC;rw[sj fun v hv=>(Yd.mp nd).1 (XW hv).1,Vv hk];simp
 |p::P,w::vs,i+1,m,nd,h1,h2,hk=>by show bindC kindOf ((p,w)::P.zip vs) m x=_;unfold bindC;exact su (i:=i) (Yd.mp nd).2 (by simpa using h1) (by simpa using h2) hk
def start(N:_S)(vs:List V):St:=vs.map some++List.replicate (N.length-vs.length) none
def fY(CX:wN)(P:_X)(w:World)(K:_N)(mg:_L)(base:Heap)(N:_S)(qual:Str)(scope:Scope)(f:_V)(cd:_T)(A:_W)(outer:List Env)(s:_U)(H:Hp)(E:XK):Cx where
 prog:=P
 w:=w
 K:=K
 mg:=mg
 base:=base
 A:=A.deeper (envOfC qual scope s.heap.objs.size f cd)
 N:=N
 s₀:=s
 H₀:=H
 env:=envOfC qual scope s.heap.objs.size f cd
 outer:=outer
 stack:=envOfC qual scope s.heap.objs.size f cd::outer
 ex:=[]
 calm:=true
 fn:=fun _=>true
 pn:=[]
 xe:=fun e s'=>wpAny (model P w) (A.deeper (envOfC qual scope s.heap.objs.size f cd)) (leaving (envOfC qual scope s.heap.objs.size f cd) e) (fun _ ON=>CX outer H s E e ON) (fun e' ON=>CX outer H s E e' ON) s'
theorem vj{sc:Scope}{n:Nat}{x:Str}(h:sc.names.lookup x=some .cell):∃c,(cellsFrom n sc.names []).lookup x=some c:=by have q:=ZI sc.names n [] (.inl h);exact Option.isSome_iff_exists.mp q
theorem An{CX:wN}{P:_X}{w:World}{K:_N}{mg:_L}{base:Heap}{N ps:_S}{qual:Str}{scope:Scope}{f:_V}{cd:_T}{A:_W}{outer:List Env}{s s1:_U}{H:Hp}{E:XK}{us:_P}{vs:List V}(S:cN N ps scope)(hd:A.handled=none)(e0:xk P w K mg base A outer s H)(hl:vs.length=ps.length)(r:aV vs us)(x:InCallC s s.heap.objs.size (bindL (envOfC qual scope s.heap.objs.size f cd).kindOf (ps.zip us) fun _=>none) (cellsFrom (s.heap.objs.size+1) scope.names []) (bindC (envOfC qual scope s.heap.objs.size f cd).kindOf (ps.zip us) fun _=>none) s1):
  aI (fY CX P w K mg base N qual scope f cd A outer s H E) [] (start N vs) H s1:=by
 have i?:ps.length<=N.length:=by have:=We List.length S.pre;rw[ZV]at this;lia
 obtain⟨h1,tk,rfl,hk⟩:=x.done;have MK:∀b:_V,b ∉ (fY CX P w K mg base N qual scope f cd A outer s H E).ex:=fun b z=>absurd (show b∈([]:_R)from z) (by simp);refine⟨⟨e0.mod,S.kind,rfl,rfl,Vp _,fun y z c h1 h2=>?_,fun y hy=>?_,fun y c _ h=>?_,fun _=>hd,Around.frames_deeper e0.frames,.inr ⟨rfl,rfl⟩,fun b z=>absurd z (MK b),e0.bs,e0.LC,fun b _ _=>MK b,fun b z=>absurd z (MK b),e0.qZ,e0.IG⟩,
  rfl,e0.bare,Un.kept hk,⟨_,x.toInCall.ns,fun i y v h1 h2 h3=>?_⟩,fun y c h=>⟨_,x.cell y c h⟩,e0.bH.fresh (Vp _),fun y c h=>?_,fun p hp=>absurd (show p∈([]:_M)from hp) (by simp),e0.bH.kept hk,?_⟩
 .exact name_of_addr x.apart (WG h1) (WG h2)
 .have hy:scope.names.lookup y=some .cell\/scope.names.lookup y=some .free:=hy;rcases hy with hy|hy
  .exact vj hy
  .exact absurd rfl (S.Jr _ (WG hy))
 .exact Y2 (x.above y c (WG h))
 .have hi:i<vs.length:=by
   unfold start at h2;by_cases hi:i<vs.length
   .exact hi
   .rw[Vy (by simpa using hi)]at h2;rw[XQ]at h2;split at h2<;>cases h2
  have ha:vs[i]?=some v:=by
   unfold start at h2;rw[V7 (by simpa using hi),VB]at h2;cases e:vs[i]? with
   |none=>rw[e]at h2;cases h2
   |some a=>rw[e]at h2;cases h2;rfl
  obtain⟨u,hu,rv⟩:=r.get ha;have hp:ps[i]?=some y:=by rw[<-S.pre,List.getElem?_take_of_lt (by lia)];exact h1
  have SX:ps.Nodup:=by rw[<-S.pre];exact S.nd.sublist (List.take_sublist _ _)
  refine⟨u,rv,?_⟩;rcases S.par y (Wf hp)with k|k
  .exact .inl ⟨k,sk SX hp hu k⟩
  .obtain⟨c,e⟩:=vj (n:=s.heap.objs.size+1) k;refine .inr ⟨.inl k,c,e,?_⟩;have q:=x.cell y c e;rw[su SX hp hu (by show scope.names.lookup y≠_;rw[k];decide)]at q;exact q
 .exact e0.bH.fresh (Y2 (x.above y c (WG h)))
 .unfold start;show _=N.length;rw[Vt,Vi,Wc];lia
theorem ML{CX:wN}{P:_X}{w:World}{K:_N}{mg:_L}{base:Heap}{k:Nat}{f:_V}{name qual:Str}{params:Arguments}{body:List Stmt}{scope:Scope}{dV kV doc pm dC ct oc:_T}{an od:Option _V}{BP:Array (_Q)}{N ps:_S}{sp:Sp}(lk:K.lookup f=some ⟨oc,od,.func (W.fnOf name qual params body scope dV kV doc pm an dC ct),BP⟩)(BY:W.codeIn K dC qual=true)(S:cN N ps scope)(len:∀vs H Q E,sp vs H Q E->vs.length=ps.length)
  (Ca:∀ (A:_W) (outer:List Env) (s:_U) (H:Hp) (vs:List V) (Q:VK) (E:XK),dn k (A.deeper (envOfC qual scope s.heap.objs.size f dC))->sp vs H Q E ->
   ∃t,j! (fY CX P w K mg base N qual scope f dC A outer s H E) body t/\t {nx:=fun _ H'=>Q .bR H',rt:=Q} (start N vs) H):
  fX P w K mg base CX (k+1) f (W.fnOf name qual params body scope dV kV doc pm an dC ct) ps sp:=by
 refine⟨len,fun A outer s H args us vs Q E hr e0 hb r HI=>?_⟩;have hl:=len _ _ _ _ HI;have KX:K.In s.heap:=e0.mod.IF.keeps fun b o e=>(e0.bs b o e).1;have lim:s.heap.NoLimit:=e0.mod.nolimit.keeps fun b o e=>(e0.bs b o e).1;have MM:∀y∈ps.zip us,scope.names.lookup y.1=some .local\/(scope.names.lookup y.1=some .cell/\((cellsFrom (s.heap.objs.size+1) scope.names []).lookup y.1).isSome=true):=fun⟨n,v⟩hy=>by
  rcases S.par n (XW hy).1 with q|q
  .exact .inl q
  .exact .inr ⟨q,ZI _ _ _ (.inl q)⟩
 refine codeAny_call_function hr.depth (KX _ _ lk) rfl S.co S.gen rfl (W.codeRec_of KX BY) (hb _ _ _ _ ?_);refine wpAny_newFunctionEnv_cells S.kind MM fun env he s1 x=>?_;subst he;refine⟨lim.keeps x.toInCall.keep,codeAny_func ?_⟩;obtain⟨t,ht,hq⟩:=Ca A outer s H vs Q E (hr.deeper _) HI;have I:aI (fY CX P w K mg base N qual scope f dC A outer s H E) [] (start N vs) H s1:=An S hr.hd e0 hl r x;refine WJ (ht [] s1 (start N vs) H _ I hq) (fun fl s' hs=>?_) fun e s' hs=>hs;have fin:∀{σ':St}{H':Hp}{v:V}{u:_T},aI (fY CX P w K mg base N qual scope f dC A outer s H E) [] σ' H' s'->bb v u->Q v H'->CE outer P w H s Q u s':=
  fun{σ' H' v u}J rv q=>⟨v,H',J.os,J.bare,J.base,J.bH,rv,q⟩
 cases fl with
 |ret u=>
  obtain⟨v,σ',H',J,rv,q⟩:=hs;exact fin J rv q
 |next=>
  obtain⟨σ',H',J,q⟩:=hs;exact fin (v:=V.bR) (u:=Value.none) J rfl q
 |brk=>
  obtain⟨_,_,_,q⟩:=hs;exact False.elim q
 |cont=>
  obtain⟨_,_,_,q⟩:=hs;exact False.elim q
section
variable{X:Cx}{x:Str}{p pos:Pos}{e:Expr}{es:List Expr}{t:TA}{id T:String}{r:List V->Hp->VK->Prop}
def SY(r:List V->Hp->VK->Prop)(t:TA):TE:=fun σ H Q=>t σ H fun vs H1=>r vs H1 Q
theorem vk(hc:bc X (.builtin id) r)(hg:Gl X x)(hm:X.mg x=none)(hv:bootBuiltins x=some (.builtin id))(ha:PA X (e::es) t)(hn:x ≠ "__name__":=by decide)(kU:(x==("__debug__":Str))=false:=by decide)(he:starEach (e::es) X.env=(false,eval e X.env)::starEach es X.env:=by rfl)(i?:(backTo pos (starEach es X.env)).any (·.1)=false:=by rfl):PE X (.Call (.Name x p) (e::es) [] pos) (SY r t):=by intro ag s σ H Q I h;refine XH (i! I hg hm hv ?_ hn kU);exact PyProof.Rows.callWith_builtin1 (cJ (ha pos ag s σ H _ I h) fun us s1⟨vs,H1,I1,r1,q1⟩=>hc ag s1 σ H1 vs us Q I1 r1 q1) he i?
theorem Ao(hc:bc X (.type T) r)(hg:Gl X x)(hm:X.mg x=none)(hv:bootBuiltins x=some (.type T))(ha:PA X (e::es) t)(hn:x ≠ "__name__":=by decide)(kU:(x==("__debug__":Str))=false:=by decide)(he:starEach (e::es) X.env=(false,eval e X.env)::starEach es X.env:=by rfl)(i?:(backTo pos (starEach es X.env)).any (·.1)=false:=by rfl):PE X (.Call (.Name x p) (e::es) [] pos) (SY r t):=by intro ag s σ H Q I h;refine XH (i! I hg hm hv ?_ hn kU);exact WH (cJ (ha pos ag s σ H _ I h) fun us s1⟨vs,H1,I1,r1,q1⟩=>hc ag s1 σ H1 vs us Q I1 r1 q1) he i?
end
end L2
namespace HT
open PyProof.Rows
section
variable{prog:_X}{w:World}{A:_W}{E:_K}{s:_U}
theorem Fo{t b:_V}{vs ws:_P}{Q:_K}(ht:IsTup s.heap t vs.toArray)(hb:IsTup s.heap b ws.toArray)(hv:vs≠[])(h1:ws=[]->Q (.ref t) s)(h2:ws≠[]->Q (.ref s.heap.objs.size) {s with heap:=s.heap.push {cls:=.type "tuple",data:=.seq (vs++ws).toArray} })(hsz:vs.length+ws.length<=sizeLine):wpAny (model prog w) A (binaryOp .Add (.ref t) (.ref b)) Q E s:=by
 obtain⟨⟨cls,dd,data,sl⟩,ho,hc,n,hd⟩:=id ht;obtain⟨⟨Qe,OO,data2,MP⟩,n!,tW,n2,hd2⟩:=id hb;simp only at hc hd tW hd2;subst hc hd tW hd2;have e:vs.toArray++ws.toArray=(vs++ws).toArray:=by simp
 by_cases hw:ws=[]
 .exact _w ⟨_,ho,rfl⟩ ⟨_,n!,rfl⟩ Zw _b Yq Ym (Yc _ _)
   (tuple_addW1 t b vs.toArray ws.toArray n n2 dd OO sl MP (by simpa using hv) (by simp[hw])) ⟨ho,n!,h1 hw⟩
 .refine _w ⟨_,ho,rfl⟩ ⟨_,n!,rfl⟩ Zw _b Yq Ym (Yc _ _)
   (tuple_addW2 t b vs.toArray ws.toArray n n2 dd OO sl MP (by simpa using hv) (by simpa using hw) (by rw[Vx,Vx];exact hsz)) ⟨ho,n!,?_⟩
  rw[e];exact h2 hw
def HJ(n d:Nat):Option Int->Nat
 |none=>d
 |some v=>if v<0 then(v+(n:Int)).toNat else min v.toNat n
end
end HT
namespace L2
open PySem.Spec PyProof.Rows
theorem intsAre_of{ns:_O}:∀{us:_P},aV (ns.map V.int) us->IntsAre us ns:=by
 induction ns with
 |nil=>intro us r;rw[V3]at r;cases r;exact .nil
 |cons n ns ih=>
  intro us r;rw[Vl]at r;cases r with
  |cons r1 r2=>
   obtain⟨t,e⟩:=r1;subst e;exact .cons n t (ih r2)
section
variable{X:Cx}{e:Expr}{te:TE}{lo hi:Option Expr}{tl th:TO}{pos p2:Pos}
def SlR(X:Cx)(r:V->Option Int->Option Int->Hp->VK->Prop):Prop:=
 ∀(ag:_M)(s:_U)(σ:St)(H:Hp)(x:V)(v vl vu:_T)(lo hi:Option Int)(sl:_V)(Q:VK),aI X ag σ H s->bb x v->s.heap.IsSliceOf sl vl vu .none->IsPart vl lo->IsPart vu hi->r x lo hi H Q ->
  ∃T id,typeLookup (.type T) "__getitem__" = pure (some (.builtin id))/\s.TypeIs v T/\wpAny (model X.prog X.w) X.A (getItem v (.ref sl)) (EP X ag σ Q) X.xe s
def Qf(xs:List V)(lo hi:Option Int):List V:=(xs.drop (HT.HJ xs.length 0 lo)).take (HT.HJ xs.length xs.length hi-HT.HJ xs.length 0 lo)
def MQ(K:_N):R2:=fun x y H Q=>∃a b xs ys,x=.ref a/\y=.ref b/\jz K H a xs/\jz K H b ys/\xs≠[]/\xs.length+ys.length<=sizeLine /\
 (ys=[]->Q (.ref a) H)/\(ys≠[]->∀p,H p=none->Q (.ref p) (upd H p (.tup (xs++ys))))
theorem aV.tX{xs:List V}{us:_P}(r:aV xs us):us=[]↔xs=[]:=by
 cases r with
 |nil=>simp
 |cons _ _=>simp
theorem Fp:c5 X (binaryOp .Add) (MQ X.K):=by intro ag s σ H x y v u Q I rx ry h;obtain⟨a,b,xs,ys,rfl,rfl,ha,hb,hx,hz,q1,q2⟩:=h;cases rx;cases ry;obtain⟨aD,r1,p1,_⟩:=I.tuple ha;obtain⟨cy,r2,p2,_⟩:=I.tuple hb;refine HT.Fo p1 p2 (fun z=>hx (r1.tX.mp z)) (fun z=>⟨.ref a,H,I,rfl,q1 (r2.tX.mp z)⟩) (fun z=>?_) (by rw[<-r1.length,<-r2.length];exact hz);refine⟨.ref s.heap.objs.size,_,I.laid (t':=s.toks) (o:=.tup (xs++ys)) (fun b ob q=>Vj _ q) (Vp _) ?_,rfl,q2 (fun w=>z (r2.tX.mpr w)) _ (I.bH.fresh (Vp _))⟩;exact⟨by rw[Vt];exact hz,_,r1.append r2,IsTup.new _ _⟩
end
def Cb(n:Nat)(i:Int):Option Nat:=if 0<=i then(if i<n then some i.toNat else none)else if -(n:Int)<=i then some (i+n).toNat else none
def qU{α:Type}(xs:List α)(i:Int):Option α:=(Cb xs.length i).bind fun j=>xs[j]?
theorem yQ{n:Nat}{i:Int}{j:Nat}(h:Cb n i=some j):seqIndex? i n=some j/\j<n/\-(n:Int)<=i/\i<n:=by
 unfold Cb at h;by_cases h0:0<=i
 .rw[Vo h0]at h;by_cases h1:i<n
  .rw[Vo h1]at h;have e:i.toNat=j:=VO h;exact⟨by rw[seqIndex_of h0 h1,e],by lia,by lia,h1⟩
  .rw[Vv h1]at h;cases h
 .rw[Vv h0]at h;by_cases h1:-(n:Int)<=i
  .rw[Vo h1]at h;have e:(i+n).toNat=j:=VO h;exact⟨by rw[_u (by lia) h1,e],by lia,h1,by lia⟩
  .rw[Vv h1]at h;cases h
theorem tY{α:Type}{xs:List α}{i:Int}{v:α}(h:qU xs i=some v):∃j,seqIndex? i xs.length=some j/\xs[j]?=some v/\j<xs.length/\-(xs.length:Int)<=i/\i<xs.length:=by
 unfold qU at h;cases e:Cb xs.length i with
 |none=>rw[e]at h;cases h
 |some j=>
  rw[e]at h;obtain⟨h1,h2,h3,h4⟩:=yQ e;exact⟨j,h1,h,h2,h3,h4⟩
theorem dH{α:Type}{xs:List α}{j:Nat}{v:α}(h:xs[j]?=some v):qU xs (j:Int)=some v:=by
 have hj:j<xs.length:=(V6.mp h).1;have e:Cb xs.length (j:Int)=some j:=by unfold Cb;rw[Vo (by lia),Vo (by lia)];simp
 unfold qU;rw[e];exact h
def tZ(b:Expr):Prop:=∀o i,subscripted b false o i=operate [o,i] (getItem o i)
def wO(X:Cx)(r:R2):Prop:=
 ∀(value slice:Expr)(ag:_M)(s:_U)(σ:St)(H:Hp)(x y:V)(v u:_T)(Q:VK),aI X ag σ H s->bb x v->bb y u->r x y H Q ->
  subscripted slice false v u=operate [v,u] (getItem v u)->wpAny (model X.prog X.w) X.A (subscriptTail value slice v u) (EP X ag σ Q) X.xe s
def S1(X:Cx)(id:String)(r:V->List V->Hp->VK->Prop):Prop:=
 ∀(ag:_M)(s:_U)(σ:St)(H:Hp)(x:V)(xs:List V)(v:_T)(us:_P)(Q:VK),aI X ag σ H s->bb x v->aV xs us->r x xs H Q ->
  wpAny (model X.prog X.w) X.A (call (.builtin id) (v::us)) (EP X ag σ Q) X.xe s
section
variable{X:Cx}{a b:Expr}{ta tb:TE}{pos:Pos}
theorem wO.or{r r':R2}(h:wO X r)(h':wO X r'):wO X (fun x y H Q=>r x y H Q\/r' x y H Q):=by
 intro value slice ag s σ H x y v u Q I rx ry q hs;rcases q with q|q
 .exact h value slice ag s σ H x y v u Q I rx ry q hs
 .exact h' value slice ag s σ H x y v u Q I rx ry q hs
theorem MR{r:R2}(hr:wO X r)(ha:PE X a ta)(hb:PE X b tb)(hs:tZ b):PE X (.Subscript a b pos) (LD r ta tb):=by intro ag s σ H Q I h;exact Subscript_ (Jd ha hb I h fun v u s2 x y H2 I2 rx ry q=>hr a b ag s2 σ H2 x y v u Q I2 rx ry q (hs _ _))
def Qg(K:_N):R2:=fun x y H Q=>∃p xs i v,x=.ref p/\y=.int i/\iY K H p xs/\qU xs i=some v/\Q v H
def Qh(K:_N):R2:=fun x y H Q=>∃p xs i v,x=.ref p/\y=.int i/\jz K H p xs/\qU xs i=some v/\Q v H
def Qi:R2:=fun x y H Q=>∃z i c,x=.str z/\y=.int i/\z.length<=sizeLine/\qU z.cps.toList i=some c/\Q (.str ⟨#[c]⟩) H
theorem Fq:wO X (Qg X.K):=by
 intro value slice ag s σ H x y v u Q I rx ry h hs;obtain⟨p,xs,i,z,rfl,rfl,hq,he,q⟩:=h;cases rx;obtain⟨t,rfl⟩:=ry;obtain⟨aD,r,pl,hz⟩:=I.list hq;obtain⟨j,h1,h2,h3,h4,h5⟩:=tY he;obtain⟨w,ew,t5⟩:=r.get h2;have hl:=r.length;have hn:=mB;have fin:EP X ag σ Q w s:=⟨z,H,I,t5,q⟩
 by_cases h0:0<=i
 .have hj:i.toNat=j:=by rw[seqIndex_of h0 h5]at h1;exact VO h1
  exact item_listR pl.isList h0 (by lia) (by rw[hj];simpa using ew) fin hs
 .have hj:(i+(aD.toArray.size:Int)).toNat=j:=by rw[_u (by lia) h4]at h1;rw[Vx,<-hl];exact VO h1
  exact subscriptTail_builtinR (x:=w) pl.isList.typeIs slot_list_getitem.lookup
   (wpAny_getItem_list_neg (Q:=fun r s'=>r=w/\EP X ag σ Q r s') pl.isList (by lia) (by rw[Vx]<;>lia) (by lia) (by rw[hj];simpa using ew) ⟨rfl,fin⟩) hs
theorem mF:wO X (Qh X.K):=by
 intro value slice ag s σ H x y v u Q I rx ry h hs;obtain⟨p,xs,i,z,rfl,rfl,hq,he,q⟩:=h;cases rx;obtain⟨t,rfl⟩:=ry;obtain⟨aD,r,pl,hz⟩:=I.tuple hq;obtain⟨j,h1,h2,h3,h4,h5⟩:=tY he;obtain⟨w,ew,t5⟩:=r.get h2;have hl:=r.length;have hn:=mB;have fin:EP X ag σ Q w s:=⟨z,H,I,t5,q⟩
 exact subscriptTail_builtinR (x:=w) pl.typeIs slot_tuple_getitem.lookup
  (getItem_tuple (j:=j) (Q:=fun r s'=>r=w/\EP X ag σ Q r s') pl (by lia) (by lia) (by rw[Vx,<-hl];exact h1) (by simpa using ew) ⟨rfl,fin⟩) hs
theorem Js:wO X Qi:=by
 intro value slice ag s σ H x y v u Q I rx ry h hs;obtain⟨z,i,c,rfl,rfl,hz,he,q⟩:=h;obtain⟨t,rfl⟩:=rx;obtain⟨t',rfl⟩:=ry;obtain⟨j,h1,h2,h3,h4,h5⟩:=tY he;have hl:z.cps.toList.length=z.length:=by simp[Str.length]
 rw[hl]at h1 h4 h5;have hn:=mB;exact tail_any (typeIs_str s z t) slot_str_getitem.lookup (getItem_str (c:=c) (by
  have e1:decide (i < -(2 ^ 63:Int))=false:=VD (by lia);have e2:decide (i ≥ 2 ^ 63)=false:=VD (by lia);rw[e1,e2,Bool.or_false]) (by rw[h1];simpa using h2) ⟨.str ⟨#[c]⟩,H,I.tok _,⟨_,rfl⟩,q⟩) hs
theorem xl(aD:_P)(n j:Nat)(u:_T):Obj.mapSeq (·.setIfInBounds j u) {cls:=.type "list",data:=.seq aD.toArray n} = {cls:=.type "list",data:=.seq (aD.set j u).toArray n}:=by simp[Obj.mapSeq]
theorem aI.lst{ag:_M}{σ:St}{H:Hp}{s:_U}{p:_V}{xs:List V}(I:aI X ag σ H s)(h:H p=some (.lst xs)):
  ∃(aD:_P)(n:Nat),aV xs aD/\s.heap.get? p=some {cls:=.type "list",data:=.seq aD.toArray n}/\xs.length<=sizeLine:=by
 obtain⟨z,aD,n,r,e⟩:=I.bH p _ h;exact⟨aD,n,r,e,z⟩
theorem aI.Jt{ag:_M}{σ:St}{H:Hp}{s:_U}{p:_V}{xs ys:List V}{aD its':_P}{n n':Nat}{f:Obj->Obj}(I:aI X ag σ H s)(h:H p=some (.lst xs))(ho:s.heap.get? p=some {cls:=.type "list",data:=.seq aD.toArray n})(hf:f {cls:=.type "list",data:=.seq aD.toArray n} = {cls:=.type "list",data:=.seq its'.toArray n'})(r:aV ys its')(hz:ys.length<=sizeLine)(t:Nat):
  aI X ag σ (upd H p (.lst ys)) {s with heap:=s.heap.update p f,toks:=t}:=by
 have e:(s.heap.update p f).get? p=some {cls:=.type "list",data:=.seq its'.toArray n'}:=by rw[Xi f ho (by rw[hf]<;>rfl),hf]
 refine I.write (x:=p) (e:=p) (by rw[h];trivial) (.inl rfl) (fun b u hb q=>(V0 _ _ (WV hb)).trans q) ⟨_,e⟩ ?_;exact⟨hz,its',n',r,e⟩
def HK:V->V->V->Hp->(Hp->Prop)->Prop:=fun o i v H Q=>∃p xs k j,o=.ref p/\i=.int k/\H p=some (.lst xs)/\Cb xs.length k=some j/\Q (upd H p (.lst (xs.set j v)))
theorem set_list:Ml X HK:=by
 intro ag s σ H o i v ov iv u Q I ro ri rv h;obtain⟨p,xs,k,j,rfl,rfl,hp,hj,q⟩:=h;cases ro;obtain⟨t,rfl⟩:=ri;obtain⟨aD,n,r,ho,hz⟩:=I.lst hp;obtain⟨h1,h2,h3,h4⟩:=yQ hj;have hl:=r.length;have hn:=mB;have I':aI X ag σ (upd H p (.lst (xs.set j v))) {s with heap:=s.heap.update p (Obj.mapSeq (·.setIfInBounds j u))}:=
  I.Jt hp ho (xl aD n j u) (r.set rv j) (by rw[VU];exact hz) s.toks
 by_cases h0:0<=k
 .have hk:k.toNat=j:=by rw[seqIndex_of h0 h4]at h1;exact VO h1
  exact W.ki_setAt ho h0 (by lia) (by rw[Vx,<-hl];exact h4) (by rw[hk];exact⟨_,I',q⟩)
 .have hk:(k+(aD.toArray.size:Int)).toNat=j:=by rw[_u (by lia) h3]at h1;rw[Vx,<-hl];exact VO h1
  exact W.ki_setBack ho (by lia) (by rw[Vx,<-hl];exact h3) (by lia) (by rw[hk];exact⟨_,I',q⟩)
def Ux(K:_N):V->Option Int->Option Int->Hp->VK->Prop:=fun x lo hi H Q=>∃a xs,x=.ref a/\iY K H a xs/\∀p,H p=none->Q (.ref p) (upd H p (.lst (Qf xs lo hi)))
def i':V->Bool
 |.bR=>true
 |.bl _=>true
 |.int _=>true
 |.str _=>true
 |_=>false
def ER:V->V->Bool
 |.bR,.bR=>true
 |.bl a,.bl b=>a==b
 |.bl a,.int b=>(if a then 1 else 0)==b
 |.int a,.bl b=>a==(if b then 1 else 0)
 |.int a,.int b=>a==b
 |.str a,.str b=>a==b
 |_,_=>false
theorem Ju{A:_W}{s:_U}{y x:V}{u v:_T}(ry:bb y u)(rx:bb x v)(fy:i' y=true)(fx:i' x=true):SeqAt.EqAt A s u v (ER y x):=by
 cases y with
 |bR=>
  cases ry;cases x with
  |bR=>cases rx;exact YU _
  |bl b=>cases rx;exact SeqAt.EqAt.none_bool b
  |int b=>obtain⟨t,rfl⟩:=rx;exact SeqAt.EqAt.none_int b t
  |str b=>obtain⟨t,rfl⟩:=rx;exact SeqAt.EqAt.none_str b t
  |_=>exact absurd (show false=true from fx) Vs
 |bl a=>
  cases ry;cases x with
  |bR=>cases rx;exact SeqAt.EqAt.bool_none a
  |bl b=>cases rx;exact SeqAt.EqAt.bool_bool a b
  |int b=>obtain⟨t,rfl⟩:=rx;exact SeqAt.EqAt.bool_int a b t
  |str b=>obtain⟨t,rfl⟩:=rx;exact SeqAt.EqAt.bool_str a b t
  |_=>exact absurd (show false=true from fx) Vs
 |int a=>
  obtain⟨t',rfl⟩:=ry;cases x with
  |bR=>cases rx;exact SeqAt.EqAt.int_none a t'
  |bl b=>cases rx;exact SeqAt.EqAt.int_bool a t' b
  |int b=>obtain⟨t,rfl⟩:=rx;exact Zl a t' b t
  |str b=>obtain⟨t,rfl⟩:=rx;exact Zk a t' b t
  |_=>exact absurd (show false=true from fx) Vs
 |str a=>
  obtain⟨t',rfl⟩:=ry;cases x with
  |bR=>cases rx;exact SeqAt.EqAt.str_none a t'
  |bl b=>cases rx;exact SeqAt.EqAt.str_bool a t' b
  |int b=>obtain⟨t,rfl⟩:=rx;exact Zj a t' b t
  |str b=>obtain⟨t,rfl⟩:=rx;exact SeqAt.EqAt.str_str a t' b t
  |_=>exact absurd (show false=true from fx) Vs
 |_=>exact absurd (show false=true from fy) Vs
def Cc(x:V)(u:_T):Bool:=match u with
 |.none=>ER .bR x
 |.bool b=>ER (.bl b) x
 |.int i _=>ER (.int i) x
 |.str z _=>ER (.str z) x
 |_=>false
theorem Cd{x y:V}{u:_T}(r:bb y u)(f:i' y=true):Cc x u=ER y x:=by
 cases y with
 |bR=>cases r;rfl
 |bl b=>cases r;rfl
 |int i=>obtain⟨t,rfl⟩:=r;rfl
 |str z=>obtain⟨t,rfl⟩:=r;rfl
 |_=>exact absurd (show false=true from f) Vs
theorem t7{x:V}:∀{xs:List V}{us:_P},aV xs us->xs.all i'=true->us.any (Cc x)=xs.any fun y=>ER y x
 |_,_,.nil,_=>rfl
 |y::xs,u::us,.cons r t,f=>by rw[YJ,WL]at f;rw[W2,W2,Cd r f.1,t7 t f.2]
theorem pb{A:_W}{s:_U}{x:V}{v:_T}(rx:bb x v)(fx:i' x=true):∀{xs:List V}{us:_P},aV xs us->xs.all i'=true->∀u∈us,SeqAt.EqAt A s u v (Cc x u)
 |_,_,.nil,_=>fun u hu=>by cases hu
 |y::xs,u::us,.cons r t,f=>fun u' hu=>by
  rw[YJ,WL]at f;rcases VH.mp hu with rfl|hu
  .rw[Cd r f.1];exact Ju r rx f.1 fx
  .exact pb rx fx t f.2 u' hu
def OP(x:V)(xs:List V):Bool:=xs.any fun y=>ER y x
def S4(K:_N)(neg:Bool):R2:=fun x y H Q=>∃p xs,y=.ref p/\(iY K H p xs\/jz K H p xs)/\i' x=true/\xs.all i'=true/\Q (.bl (if neg then !OP x xs else OP x xs)) H
theorem Ap:c5 X (compareOp .In) (S4 X.K false):=by
 intro ag s σ H x y v u Q I rx ry h;obtain⟨p,xs,rfl,hq,fx,fs,q⟩:=h;cases ry;rcases hq with hq|hq
 .obtain⟨aD,r,pl,hz⟩:=I.list hq;refine SeqAt.in_listAt (Cc x) pl.isList (fun w hw=>pb rx fx r fs w (by simpa using hw)) ⟨.bl _,H,I,rfl,?_⟩;rw[show aD.toArray.any (Cc x)=aD.any (Cc x) by simp,t7 r fs];exact q
 .obtain⟨aD,r,pl,hz⟩:=I.tuple hq;refine SeqAt.in_tupleAt (Cc x) pl (fun w hw=>pb rx fx r fs w (by simpa using hw)) ⟨.bl _,H,I,rfl,?_⟩;rw[show aD.toArray.any (Cc x)=aD.any (Cc x) by simp,t7 r fs];exact q
theorem t_:bc X (.builtin "len") (fun xs H Q=>∃p ys,xs=[.ref p]/\(iY X.K H p ys\/jz X.K H p ys)/\Q (.int ys.length) H):=by
 intro ag s σ H xs us Q I r h;obtain⟨p,ys,rfl,hq,q⟩:=h;obtain⟨u,rfl,rx⟩:=vals1 r;cases rx;have hn:=mB;rcases hq with hq|hq
 .obtain⟨aD,r',pl,hz⟩:=I.list hq;have hlen:=r'.length;exact Calls.call_len_list pl.isList (by simp only[Vx]<;>lia) ⟨.int ys.length,H,I.tok _,⟨s.toks+1,by rw[Vx,hlen]⟩,q⟩
 .obtain⟨aD,r',pl,hz⟩:=I.tuple hq;have hlen:=r'.length;exact len_tuple pl (by simp only[Vx]<;>lia) ⟨.int ys.length,H,I.tok _,⟨s.toks+1,by rw[Vx,hlen]⟩,q⟩
theorem t!:bc X (.builtin "len") (fun xs H Q=>∃z,xs=[.str z]/\z.length<=sizeLine/\Q (.int z.length) H):=by intro ag s σ H xs us Q I r h;obtain⟨z,rfl,hz,q⟩:=h;obtain⟨u,rfl,t,rfl⟩:=vals1 r;have hn:=mB;exact len_str (by lia) ⟨.int z.length,H,I.tok _,⟨_,rfl⟩,q⟩
theorem bc.or{f:_T}{r r':List V->Hp->VK->Prop}(h:bc X f r)(h':bc X f r'):bc X f (fun xs H Q=>r xs H Q\/r' xs H Q):=by
 intro ag s σ H xs us Q I rs q;rcases q with q|q
 .exact h ag s σ H xs us Q I rs q
 .exact h' ag s σ H xs us Q I rs q
theorem t?:bc X (.type "list") (fun xs H Q=>∃p ys,xs=[.ref p]/\(iY X.K H p ys\/jz X.K H p ys)/\∀l,H l=none->Q (.ref l) (upd H l (.lst ys))):=by
 intro ag s σ H xs us Q I r h;obtain⟨p,ys,rfl,hq,q⟩:=h;obtain⟨u,rfl,rx⟩:=vals1 r;cases rx;have fin:∀(aD:_P),aV ys aD->ys.length<=sizeLine->∀(h':Heap)(c':Nat),(∀b o',s.heap.get? b=some o'->h'.get? b=some o') ->
   h'.get? s.heap.objs.size=some {cls:=.type "list",dict:=none,data:=.seq aD.toArray c',slots:=#[]}->EP X ag σ Q (.ref s.heap.objs.size) {s with heap:=h'}:=fun aD r' hz h' c' kp e=>
  ⟨.ref s.heap.objs.size,_,I.laid (t':=s.toks) kp (Vp _) (show bE X.prog X.w _ h' _ (.lst ys) from⟨hz,aD,c',r',e⟩),rfl,q _ (I.bH.fresh (Vp _))⟩
 rcases hq with hq|hq
 .obtain⟨aD,r',pl,hz⟩:=I.list hq;have hlen:=r'.length;obtain⟨o,ho,hc,n,hd⟩:=pl.isList;exact call_list_seq p (.inl rfl) ho hc hd (fun h' c' kp e=>fin aD r' hz h' c' kp e) (by simp only[Vx]<;>lia)
 .obtain⟨aD,r',pl,hz⟩:=I.tuple hq;have hlen:=r'.length;obtain⟨o,ho,hc,n,hd⟩:=pl;exact call_list_seq p (.inr rfl) ho hc hd (fun h' c' kp e=>fin aD r' hz h' c' kp e) (by simp only[Vx]<;>lia)
theorem q_:bc X (.type "tuple") (fun xs H Q=>∃p ys,xs=[.ref p]/\((iY X.K H p ys/\∀l,H l=none->Q (.ref l) (upd H l (.tup ys)))\/(jz X.K H p ys/\Q (.ref p) H))):=by
 intro ag s σ H xs us Q I r h;obtain⟨p,ys,rfl,h⟩:=h;obtain⟨u,rfl,rx⟩:=vals1 r;cases rx;rcases h with⟨hq,q⟩|⟨hq,q⟩
 .obtain⟨aD,r',pl,hz⟩:=I.list hq;have hlen:=r'.length;refine call_tuple_list pl.isList (fun h' kp=>?_) (by simp only[Vx]<;>lia);have I1:aI X ag σ H {s with heap:=h'}:=I.kept (t':=s.toks) kp;have I2:aI X ag σ (upd H h'.objs.size (.tup ys)) {s with heap:=h'.push {cls:=.type "tuple",data:=.seq aD.toArray} }:=
   I1.laid (t':=s.toks) (fun b o e=>Vj _ e) (Vp _) (show bE X.prog X.w _ _ _ (.tup ys) from⟨hz,aD,r',IsTup.new _ _⟩)
  exact⟨.ref h'.objs.size,_,I2,rfl,q _ (I1.bH.fresh (Vp _))⟩
 .obtain⟨aD,r',pl,hz⟩:=I.tuple hq;exact call_tuple_same pl ⟨.ref p,H,I,rfl,q⟩
def OQ(K:_N)(T:String)(x:V)(H:Hp):Prop:=match x with
 |.str _=>T = "str"
 |.int _=>T = "int"
 |.ref p=>(T = "list" /\ ∃xs,iY K H p xs)\/(T = "tuple" /\ ∃o,K.lookup p=some o/\o.cls=.type "tuple" /\ o.dict=none) \/
   (T = "dict" /\ ((∃ay,H p=some (.dK ay))\/∃ay,H p=some (.dT ay)))\/(T = "set" /\ ∃S n,H p=some (.set S n))
 |_=>False
theorem Ce{ag:_M}{σ:St}{H:Hp}{s:_U}{T:String}{x:V}{v:_T}(I:aI X ag σ H s)(r:bb x v)(ty:OQ X.K T x H):
  s.TypeIs v T/\∀a,v=.ref a->∃ob,s.heap.get? a=some ob/\ob.dict=none:=by
 cases x with
 |str z=>
  obtain⟨t,rfl⟩:=r;cases(show T = "str" from ty);exact⟨typeIs_str s z t,fun _ e=>nomatch e⟩
 |int i=>
  obtain⟨t,rfl⟩:=r;cases(show T = "int" from ty);exact⟨Z6 s i t,fun _ e=>nomatch e⟩
 |ref p=>
  cases r;rcases ty with⟨rfl,xs,hq⟩|⟨rfl,o,hk,hc,hd⟩|⟨rfl,hk⟩|⟨rfl,S,n,hk⟩
  .obtain⟨aD,_,pl,_⟩:=I.list hq;refine⟨pl.isList.typeIs,fun a e=>?_⟩;cases e;obtain⟨o,n,e,c,hd,_⟩:=pl;exact⟨o,e,hd⟩
  .refine⟨⟨o,I.nY p o hk,hc⟩,fun a e=>?_⟩;cases e;exact⟨o,I.nY _ o hk,hd⟩
  .have z:∃o,s.heap.get? p=some o/\o.ExactDict:=by
    rcases hk with⟨ay,hk⟩|⟨ay,hk⟩
    .obtain⟨_,_,_,_,o,_,_,e,ex,_⟩:=I.bH p _ hk;exact⟨o,e,ex⟩
    .obtain⟨_,_,_,_,o,_,_,e,ex,_⟩:=I.bH p _ hk;exact⟨o,e,ex⟩
   obtain⟨o,e,ex⟩:=z;refine⟨⟨o,e,ex.1⟩,fun a e2=>?_⟩;cases e2;exact⟨o,e,ex.2.1⟩
  .obtain⟨o,_,_,_,e,ex,_⟩:=I.bH p _ hk;refine⟨⟨o,e,ex.1⟩,fun a e2=>?_⟩;cases e2;exact⟨o,e,ex.2.1⟩
 |_=>exact False.elim ty
def Qj(K:_N)(T:String)(r:V->List V->Hp->VK->Prop)(to:TE):TE:=fun σ H Q=>to σ H fun x H1=>OQ K T x H1/\r x [] H1 Q
def Uy(K:_N)(T:String)(r:V->List V->Hp->VK->Prop)(to:TE)(t:TA):TE:=fun σ H Q=>to σ H fun x H1=>OQ K T x H1/\t σ H1 fun xs H2=>r x xs H2 Q
variable{o e:Expr}{es:List Expr}{to:TE}{t:TA}{name:Str}{apos br:Pos}{T id:String}{r:V->List V->Hp->VK->Prop}
theorem Jv(pa:PlainAttrs T)(slot:Slot T name id)(MS:typeOf (.builtin id)=pure (.type "method_descriptor"))(hm:S1 X id r)(ho:PE X o to)(fZ:attributeBase o name X.env (eval o X.env)=eval o X.env:=by rfl)(f_:(apos.endLine==br.line)=true:=by rfl):PE X (.Call (.Attribute o name apos) [] [] br) (Qj X.K T r to):=by intro ag s σ H Q I h;refine _k fZ f_ (cJ (ho ag s σ H _ I h) fun v s1⟨x,H1,I1,r1,ty,q1⟩=>?_);obtain⟨h1,h2⟩:=Ce I1 r1 ty;exact⟨T,id,pa,slot,MS,h1,h2,WM rfl (YN (hm ag s1 σ H1 x [] v [] Q I1 r1 .nil q1))⟩
theorem MU(pa:PlainAttrs T)(slot:Slot T name id)(MS:typeOf (.builtin id)=pure (.type "method_descriptor"))(hm:S1 X id r)(ho:PE X o to)(ha:PA X (e::es) t)(fZ:attributeBase o name X.env (eval o X.env)=eval o X.env:=by rfl)
  (xm:((backTo br (starEach (e::es) X.env)).all (fun x => !x.1)&&(backToKw br (keywordEach [] X.env)).all (fun x=>x.1.isSome)
   && decide ((e::es).length+([]:List Keyword).length+(if([]:List Keyword).isEmpty then 0 else 1)<30))=true:=by rfl)
  (f_:(apos.endLine==br.line)=true:=by rfl) (hs:starEach (e::es) X.env=(false,eval e X.env)::starEach es X.env:=by rfl) (ku:(backTo br (starEach es X.env)).any (·.1)=false:=by rfl):
  PE X (.Call (.Attribute o name apos) (e::es) [] br) (Uy X.K T r to t):=by
 intro ag s σ H Q I h;refine wpAny_Call_method_late fZ xm f_ rfl (cJ (ho ag s σ H _ I h) fun v s1⟨x,H1,I1,r1,ty,q1⟩=>?_);obtain⟨h1,h2⟩:=Ce I1 r1 ty;refine⟨T,id,pa,slot,MS,h1,h2,?_⟩;have hA:=ha br ag s1 σ H1 _ I1 q1;rw[hs]at hA⊢;refine WM (by show(false || (backTo br (starEach es X.env)).any (·.1))=false;rw[ku]<;>rfl) (X_ ?_);exact cJ hA fun us s2⟨vs,H2,I2,r2,q2⟩=>hm ag s2 σ H2 x vs v us Q I2 r1 r2 q2
end
def Cf(X:Cx)(id:String)(r:V->List V->Hp->VK->Prop):Prop:=
 ∀(ag:_M)(s:_U)(σ:St)(H:Hp)(x:V)(xs:List V)(v:_T)(us:_P)(Q:VK),aI X ag σ H s->bb x v->aV xs us->r x xs H Q ->
  wpAny (model X.prog X.w) X.A (call (.builtin id) (v::us)) (EP X ag σ Q) X.xe s
theorem aV.one{x:V}{us:_P}(p:aV [x] us):∃u,us=[u]/\bb x u:=by
 cases p with
 |cons r t=>cases t;exact⟨_,rfl,r⟩
theorem aV.zero:∀{us:_P},aV [] us->us=[]
 |_,.nil=>rfl
theorem aV.rep{xs:List V}{us:_P}(h:aV xs us):∀k:Nat,aV (List.replicate k xs).flatten (List.replicate k us).flatten
 |0=>.nil
 |k+1=>by rw[WA,WA,Xl,Xl];exact aV.append h (aV.rep h k)
theorem foldl_rep(aD:_P):∀(k:Nat)(acc:_P),
  List.foldl (fun x1 x2=>x1++x2) acc.toArray (List.replicate k aD.toArray)=(acc++(List.replicate k aD).flatten).toArray
 |0,acc=>by simp
 |k+1,acc=>by
  have e:acc.toArray++aD.toArray=(acc++aD).toArray:=by simp
  have e2:(acc++aD)++(List.replicate k aD).flatten=acc++(List.replicate (k+1) aD).flatten:=by rw[WA,Xl,VM]
  rw[<-e2,<-foldl_rep aD k (acc++aD),<-e,WA,List.foldl_cons]
section
variable{X:Cx}{ag:_M}{σ:St}{H:Hp}{s:_U}{l b:_V}{xs ys zs:List V}
theorem aI.MV{aD its':_P}{n:Nat}{f:Array _T->Array _T}{t':Nat}(I:aI X ag σ H s)(hH:H l=some (.lst xs))(e:s.heap.get? l=some {cls:=.type "list",data:=.seq aD.toArray n})(hf:f aD.toArray=its'.toArray)(hv:aV ys its')(hz:ys.length<=sizeLine):
  aI X ag σ (upd H l (.lst ys)) {s with heap:=s.heap.update l (Obj.mapSeq f),toks:=t'}:=by
 have q:=_y e f;rw[hf]at q;refine I.write (x:=l) (e:=l) (by rw[hH];exact trivial) (.inl rfl) (fun b' u hb hu=>(V0 s.heap (Obj.mapSeq f) (WV hb)).trans hu) ⟨_,q⟩ ?_;exact⟨hz,its',_,hv,q⟩
theorem aI.MW{aD:_P}{t':Nat}(I:aI X ag σ H s)(hv:aV ys aD)(hz:ys.length<=sizeLine):
  aI X ag σ (upd H s.heap.objs.size (.lst ys)) {s with heap:=s.heap.push {cls:=.type "list",data:=.seq aD.toArray},toks:=t'}:=
 I.laid (fun _ _ q=>Vj _ q) (Vp _) ⟨hz,aD,0,hv,VA _ rfl⟩
theorem aI.fresh(I:aI X ag σ H s):H s.heap.objs.size=none:=I.bH.fresh (Vp _)
theorem aI.Aq(I:aI X ag σ H s)(hH:H l=some (.lst xs)):xs.length<=sizeLine/\∃(aD:_P)(n:Nat),aV xs aD/\xs.length=aD.length/\s.heap.get? l=some {cls:=.type "list",data:=.seq aD.toArray n}:=by obtain⟨z,aD,n,r,e⟩:=I.bH l _ hH;exact⟨z,aD,n,r,r.length,e⟩
theorem vm{n:Nat}(h:n<=sizeLine):Builtin.List.listTooLong n=false:=by unfold Builtin.List.listTooLong;exact VD (by lia)
end
section
variable{X:Cx}
def Fs:V->List V->Hp->VK->Prop:=fun x vs H Q=>∃l xs y,x=.ref l/\vs=[y]/\H l=some (.lst xs)/\xs.length<sizeLine/\Q .bR (upd H l (.lst (xs++[y])))
theorem Ar:Cf X "list.append" Fs:=by intro ag s σ H x vs v us Q I rx rv h;obtain⟨l,xs,y,rfl,rfl,hH,hz,q⟩:=h;cases rx;obtain⟨u,rfl,ru⟩:=rv.one;obtain⟨z,aD,n,r,hl,e⟩:=I.Aq hH;refine YM F.slot_list_append ⟨_,e,rfl⟩ F.entry_list_append (F.args_list_append_2 _ _) (_l l aD.toArray n u (by rw[Vx];lia)) ⟨e,?_⟩;refine⟨.bR,_,I.MV (its':=aD++[u]) hH e (by simp) (r.append (.cons ru .nil)) ?_,rfl,q⟩;rw[Vt,Y4];lia
def Ft:V->List V->Hp->VK->Prop:=fun x vs H Q=>∃l b xs zs,x=.ref l/\vs=[.ref b]/\H l=some (.lst xs)/\H b=some (.lst zs)/\xs.length+zs.length<=sizeLine/\Q .bR (upd H l (.lst (xs++zs)))
theorem As:Cf X "list.extend" Ft:=by
 intro ag s σ H x vs v us Q I rx rv h;obtain⟨l,b,xs,zs,rfl,rfl,hH,hB,hz,q⟩:=h;cases rx;obtain⟨u,rfl,ru⟩:=rv.one;cases ru;obtain⟨z,aD,n,r,hl,e⟩:=I.Aq hH;obtain⟨z2,cy,n2,r2,Cg,e2⟩:=I.Aq hB;have hsz:aD.toArray.size+cy.toArray.size<=sizeLine:=by rw[Vx,Vx];lia
 have Ci:¬ (!aD.toArray.isEmpty&&Builtin.List.listTooLong (aD.toArray.size+cy.toArray.size))=true:=by rw[vm hsz,XG];exact Vs
 refine YM F.slot_list_extend ⟨_,e,rfl⟩ F.entry_list_extend (F.args_list_extend_2 _ _)
  (AutoSeq1.list_extend_list_list_0 l aD.toArray n b cy.toArray n2 Ci (by rw[Vx];lia) (by lia)) ⟨e,e2,?_⟩
 refine⟨.bR,_,I.MV (its':=aD++cy) hH e (by simp) (r.append r2) ?_,rfl,q⟩;rw[Vt];lia
def Qk:R2:=fun x y H Q=>∃l b xs zs,x=.ref l/\y=.ref b/\H l=some (.lst xs)/\H b=some (.lst zs)/\xs.length+zs.length<=sizeLine/\∀p,H p=none->Q (.ref p) (upd H p (.lst (xs++zs)))
theorem Jw:c5 X (binaryOp .Add) Qk:=by
 intro ag s σ H x y v u Q I rx ry h;obtain⟨l,b,xs,zs,rfl,rfl,hH,hB,hz,q⟩:=h;cases rx;cases ry;obtain⟨z,aD,n,r,hl,e⟩:=I.Aq hH;obtain⟨z2,cy,n2,r2,Cg,e2⟩:=I.Aq hB;refine PySem.P.add_list e e2 ?_ (by rw[Vx,Vx];lia);have ea:aD.toArray++cy.toArray=(aD++cy).toArray:=by simp
 rw[ea];exact⟨.ref _,_,I.MW (t':=s.toks) (r.append r2) (by rw[Vt];lia),rfl,q _ I.fresh⟩
def Ql:R2:=fun x y H Q=>∃l k xs,x=.ref l/\y=.int k/\H l=some (.lst xs)/\-(2 ^ 63)<=k/\k<2 ^ 63/\xs.length*k.toNat<=sizeLine /\
 ∀p,H p=none->Q (.ref p) (upd H p (.lst (List.replicate k.toNat xs).flatten))
theorem len_rep{α:Type}(xs:List α)(k:Nat):(List.replicate k xs).flatten.length=k*xs.length:=by
 induction k with
 |zero=>simp
 |succ k ih=>rw[WA,Xl,Vt,ih,Nat.succ_mul,XE]
theorem Jx:c5 X (binaryOp .Mult) Ql:=by
 intro ag s σ H x y v u Q I rx ry h;obtain⟨l,k,xs,rfl,rfl,hH,h1,h2,hz,q⟩:=h;cases rx;obtain⟨t,rfl⟩:=ry;obtain⟨z,aD,n,r,hl,e⟩:=I.Aq hH;have hlen:aD.toArray.size*k.toNat<=sizeLine:=by rw[Vx,<-hl];exact hz
 have Jy:¬ aD.toArray.size*k.toNat>(2 ^ 63-1) / 8:=by
  have:(sizeLine:Nat)<=(2 ^ 63-1) / 8:=by decide
  lia
 have MX:¬ (!Builtin.List.listFitsIndex k)=true:=by rw[fitsIndex_both h1 h2];exact Vs
 have Ci:¬ Builtin.List.listTooLong (aD.toArray.size*k.toNat)=true:=by rw[vm hlen];exact Vs
 have Qm:List.foldl (fun x1 x2=>x1++x2) #[] (List.replicate (if aD.toArray.isEmpty=true then 0 else k.toNat) aD.toArray)=(List.replicate k.toNat aD).flatten.toArray:=by
  have f0:∀m:Nat,List.foldl (fun x1 x2=>x1++x2) #[] (List.replicate m aD.toArray)=(List.replicate m aD).flatten.toArray:=fun m=>by have:=foldl_rep aD m [];rw[V1]at this;exact this
  rw[f0];cases aD with
  |nil=>simp
  |cons a r'=>rw[Vv (by simp)]
 refine wpAny_binaryOp_repeat_ref (T:="list") (U:="int") (by decide) ⟨_,e,rfl⟩ (fun s'=>Z6 s' k t) noFill_list_mul F.fills_int_mul F.slot_int_rmul repeat_list F.slot_int_index.lookup
  (YM F.slot_int_rmul (Z6 s k t) F.entry_int_rmul (F.args_int_rmul_2 _ _) (int___rmul___int_list k t l aD.toArray n)
   ⟨e,rfl,⟨_,e,rfl⟩,YM F.slot_list_mul ⟨_,e,rfl⟩ F.entry_list_mul (F.args_list_mul_2 _ _) (AutoListH.list___mul___list_int_3 l aD.toArray n k t MX Jy Ci) ⟨e,?_⟩⟩)
 rw[Qm];exact⟨.ref _,_,I.MW (t':=s.toks) (r.rep k.toNat) (by rw[len_rep,Nat.mul_comm];exact hz),rfl,q _ I.fresh⟩
end
end L2
namespace S5
open PySem.W PySem.Calls PyProof.Rows
theorem n?{P:Params}{h:Heap}:∀(ns:_O)(vs:_P),WellAll P h vs (ns.map WData.int)->IntsAre vs ns:=by
 intro ns
 induction ns with
 |nil=>
  intro vs w;rw[V3]at w;cases w;exact .nil
 |cons n ns ih=>
  intro vs w;rw[Vl]at w;cases w with
  |cons a b=>
   cases a;exact .cons _ _ (ih _ b)
theorem Au{l:OpenLaw}{n:Nat}(hn:l.most=some n){P:Params}{h:Heap}{args:List WData}{vals:_P}(Fu:l.row.toRowW.claim.pre args=true)(Qn:WellAll P h vals args):
  ∃a vs ns,vals=[Value.ref a]/\args=[WData.list (ns.map WData.int)]/\h.get? a=some {cls:=.type "list",data:=.seq vs.toArray}/\IntsAre vs ns/\ns.length<=n:=by
 have BQ:WShape.hasAll [] args [.list .int]=true:=(pre_splitW Fu).1;have hc:l.pre.holds [] {args:=args} = true:=(pre_splitW Fu).2;obtain⟨d,r,rfl,h1,h2⟩:=hasAllW_cons BQ;obtain rfl:=hasAllW_nil h2;obtain⟨xs,rfl,h3⟩:=hasW_list h1;obtain⟨ns,rfl⟩:=items_int h3;have hlen:ns.length<=n:=by
  unfold OpenLaw.pre at hc;have h4:(WTm.not (.lt (.lit (.int (n:Int))) (.len (.arg 0)))).holds [] {args:=[.list (ns.map .int)]} = true:=by have h4:=(holds_andW hc).1;rw[hn]at h4;exact h4
  have h5:=condW_of h4 (w_not (w_lt w_lit (w_len_list (w_arg rfl))));rw[Vi]at h5;refine Y8 fun q=>?_;have q':(n:Int)<((ns.length:Nat):Int):=by lia
  first
   |(rw[VF q']at h5;exact absurd h5 (by decide))
   |(simp at h5;lia)
 cases Qn with
 |cons w1 w2=>
  cases w2;cases w1 with
  |list ho Jz=>exact⟨_,_,ns,rfl,rfl,ho,n? ns _ Jz,hlen⟩
theorem Av(l:OpenLaw)(args:List WData):l.row.toRowW.claim.post args (.bool true) args=true:=
 postW_of (r:=l.row.toRowW) (X:=(true==true))
  (show WShape.has [] (.bool true) .bool=true by first|rfl|decide|simp[WShape.has,WShape.arms,WShape.armsAll])
  (show(WTm.eq .res (.lit (.bool true))).value [] {args:=args,res:=some (.bool true),after:=args} = some (.bool (true==true))from w_eq_bool (w_res rfl) w_lit) rfl
theorem vn{l:OpenLaw}{n:Nat}{q:_X}{loose:_S}{XP:(_L)->Heap->Prop}{YP:World->Heap->Prop}{d:DefRec}(hn:l.most=some n)(MY:d.params.defaults=[])
  (call:∀ (w:World) (s₀ s₁:_U) (mg mb:_L) (fa:_V) (o:Obj) (pm cd doc:_T) (a:_V) (vs:_P) (ns:_O),
   Ground q loose [] XP w s₀ mg mb s₁.heap->YP w s₁.heap ->
   s₁.heap.get? fa=some o->o.data=.func (docDef d.name d.params d.body d.scope pm cd doc)->s₁.heap.CodeRec cd d.name->mg d.name=some (.ref fa) ->
   s₁.heap.get? a=some {cls:=.type "list",data:=.seq vs.toArray}->IntsAre vs ns->ns.length<=n->s₁.gens = #[] ->
   codeAny (model l.prog w) callerA (.call (.ref fa) ⟨[.ref a],[]⟩) (fun r s'=>r=.ok (.ret (.bool true))/\OldK s₁.heap s'.heap/\s'.os=s₁.os/\AllBare s'.gens) s₁):
  WalkO q loose XP YP l.row.toRowW d [] (fun f vs=>PySem.call f vs):=by
 intro w s₀ s₁ mg mb G Y fa o pm cd doc dV kV ho hd BY hD MZ hg args vals as Fu Uz hrd Qn hlo;obtain rfl:dV=.none:=Dflts.none hD MY;obtain rfl:kV=.none:=Dflts.noKw hD;obtain⟨a,vs,ns,rfl,rfl,JA,hints,hlen⟩:=Au hn Fu Qn;refine enter_call (Zq (call w s₀ s₁ mg mb fa o pm cd doc a vs ns G Y ho (fd_plain hd) BY MZ JA hints hlen hg) fun r s' hq=>?_);obtain⟨rfl,h2,h3,h4⟩:=hq;exact⟨.inl ⟨.bool true,.bool true,[],rfl,fun _=>rfl,.bool true,Av l _,fun _=>⟨List.Pairwise.nil,fun _ hm=>(nomatch hm)⟩⟩,h2,h3,h4⟩
end S5
namespace L2
open PySem.Spec PyProof.Rows
theorem sv:∀{vs:_P}{ns:_O},IntsAre vs ns->aV (ns.map V.int) vs
 |_,_,.nil=>.nil
 |_,_,.cons n t h=>.cons ⟨t,rfl⟩ (sv h)
def Fv(H:Hp):Prop:=∀b,H b=none\/∃o xs,H b=some (.gE o (.lst xs))
theorem Cj{P:_X}{w:World}{K:_N}{mg mb:_L}{CX:wN}{k:Nat}{fa a:_V}{fd:FuncData}{x:Str}{sp:Sp}{s₁:_U}{vs:_P}{ns:_O}(KX:K.In s₁.heap)(vp:s₁.heap.Ns mainGlobals mg)(hb:s₁.heap.Ns builtinsNs mb)(UA:∀x:Str,x ≠ "__name__" -> mb x=bootBuiltins x)(Qo:s₁.heap.NoLimit)(hg:s₁.gens = #[])(ha:s₁.heap.get? a=some {cls:=.type "list",data:=.seq vs.toArray})(hi:IntsAre vs ns)(hl:ns.length<=sizeLine)(hr:dn k callerA)(F:∀base:Heap,K.In base->base.Ns mainGlobals mg->fX P w K mg base CX k fa fd [x] sp)(M0:∀(s:_U)(u:_T),BindsTo s fd ⟨[u],[]⟩ [(x,u)])(HI:∀H:Hp,Fv H->iY K H a (ns.map V.int)->sp [.ref a] H (fun v _=>v=.bl true) fun _ _ _=>False)(Qp:∀H e s',CX [] H s₁ (fun _ _ _=>False) e s'->False):
  codeAny (model P w) callerA (.call (.ref fa) ⟨[.ref a],[]⟩) (fun r s'=>r=.ok (.ret (.bool true))/\OldK s₁.heap s'.heap/\s'.os=s₁.os/\AllBare s'.gens) s₁:=by
 have rv:=sv hi;have Qq:=hi.length
 -- from an abstract heap in S6 nothing but HD JB may be tracked
 have core:∀H:Hp,Fv H->iY K H a (ns.map V.int)->g6 P w H s₁.heap->(∀b,H b≠none->b=a)->(H a≠none->K.lookup a=none) ->
   codeAny (model P w) callerA (.call (.ref fa) ⟨[.ref a],[]⟩) (fun r s'=>r=.ok (.ret (.bool true))/\OldK s₁.heap s'.heap/\s'.os=s₁.os/\AllBare s'.gens) s₁:=by
  intro H hO hS bH hA hK;have yR:∀{b:_V}{o:Obj},s₁.heap.get? b=some o->H b=none->(tO s₁.heap H).get? b=some o:=fun e n=>BX e n;have MK:∀{b:_V}{o:Obj}{es:Array DictEntry}{ep:Nat},s₁.heap.get? b=some o->o.data=.dict es ep->H b=none:=fun{b o es ep}e d=>by
   cases q:H b with
   |none=>rfl
   |some u=>
    have e':b=a:=hA b (by rw[q];simp);subst e';rw[ha]at e;cases e;have d':Data.seq vs.toArray _=Data.dict es ep:=d;cases d'
  have OR:∀{b:_V}{m:_L},s₁.heap.Ns b m->(tO s₁.heap H).Ns b m:=fun{b m}⟨o,es,ep,e,d,r⟩=>⟨o,es,ep,yR e (MK e d),d,r⟩
  have S8:K.In (tO s₁.heap H):=fun b o e=>yR (KX b o e) (by
   cases q:H b with
   |none=>rfl
   |some u=>
    have e':b=a:=hA b (by rw[q];simp);subst e';rw[hK (by rw[q];simp)]at e;cases e)
  have hM:Mod K mg (tO s₁.heap H):=⟨S8,OR vp,⟨mb,OR hb,UA⟩,let⟨mc,h1,h2⟩:=Qo;⟨mc,OR h1,h2⟩⟩
  have e0:xk P w K mg (tO s₁.heap H) callerA [] s₁ H:=⟨rfl,hM,fun b o e=>E1 e,ZQ (Ah _ _),trivial,fun b hb=>absurd (show b∈([]:_R)from hb) (by simp),bH,.of_eq hg⟩
  refine Zq ((F _ S8 (OR vp)).run callerA [] s₁ H ⟨[.ref a],[]⟩ [.ref a] [.ref a] _ _ hr e0 (M0 s₁ (.ref a)) (.cons rfl .nil) (HI H hO hS)) fun r s' h=>?_;cases r with
  |error e=>exact(Qp H e s' h).elim
  |ok fl=>
   cases fl with
   |next=>exact False.elim h
   |brk=>exact False.elim h
   |cont=>exact False.elim h
   |ret u=>
    obtain⟨v,H',os,bare,un,Qr,r',q⟩:=h;have q':v=.bl true:=q;subst q';obtain rfl:u=Value.bool true:=r';refine⟨rfl,OldK.of_keep fun b o e=>?_,os,bare⟩;cases q:H b with
    |none=>exact un.keep b o e q (by intro z;exact absurd (show b∈([]:_R)from z) (by simp)) (by simp)
    |some u=>
     rcases hO b with z|⟨ob,xs,z⟩
     .rw[q]at z;cases z
     .have z2:=un.kR b ob _ z;obtain⟨e1,_⟩:=bH b _ z;obtain⟨e2,_⟩:=Qr b _ z2;rw[e]at e1;cases e1;exact e2
 cases hk:K.lookup a with
 |some o=>
  -- HD JB is one of HD M3 own objects
  have e:=KX a o hk;rw[ha]at e;cases e;refine core (fun _=>none) (fun _=>.inl rfl) (.inr ⟨_,vs.toArray,_,hk,rfl,rfl,rfl,by rw[Vx,Qq];exact hl,by simpa using rv⟩) (fun b u z=>by have z':(none:Option HO)=some u:=z;cases z') (fun b z=>absurd rfl z) fun z=>absurd rfl z
 |none=>
  refine core (fun b=>if b=a then some (.gE {cls:=.type "list",data:=.seq vs.toArray} (.lst (ns.map V.int)))else none) (fun b=>?_) (.inl (.inr ⟨{cls:=.type "list",data:=.seq vs.toArray},Vo rfl⟩)) (fun b u z=>?_) (fun b z=>?_) fun _=>hk
  .by_cases hb:b=a
   .exact .inr ⟨_,_,Vo hb⟩
   .exact .inl (Vv hb)
  .by_cases hb:b=a
   .have z':=(Vo hb).symm.trans z;cases z';subst hb;exact⟨ha,by rw[Vi];exact hl,vs,_,rv,ha⟩
   .have z':=(Vv hb).symm.trans z;cases z'
  .by_cases hb:b=a
   .exact hb
   .exact absurd (Vv hb) z
theorem Fw{l:W.OpenLaw}{n k:Nat}{q:_X}{loose:_S}{XP:(_L)->Heap->Prop}{YP:World->Heap->Prop}{d:DefRec}{K:Params->_N}{CX:World->wN}{sp:World->Sp}{x:Str}(hn:l.most=some n)(OM:n<=sizeLine)(MY:d.params.defaults=[])(hr:dn k callerA)(hY:∀(w:World)(h:Heap),YP w h->(K w.params).In h)
  (F:∀ (w:World) (mg:_L) (fa:_V) (h:Heap),(K w.params).In h->h.Ns mainGlobals mg->mg d.name=some (.ref fa) ->
   ∃fd:FuncData,(∀(s:_U)(u:_T),BindsTo s fd ⟨[u],[]⟩ [(x,u)]) /\
    ∀base:Heap,(K w.params).In base->base.Ns mainGlobals mg->fX l.prog w (K w.params) mg base (CX w) k fa fd [x] (sp w))
  (HI:∀(w:World)(H:Hp)(a:_V)(ns:_O),ns.length<=n->Fv H->iY (K w.params) H a (ns.map V.int)->sp w [.ref a] H (fun v _=>v=.bl true) fun _ _ _=>False)
  (Qp:∀(w:World)(H:Hp)(s:_U)(e:_T)(s':_U),CX w [] H s (fun _ _ _=>False) e s'->False):
  W.WalkO q loose XP YP l.row.toRowW d [] (fun f vs=>PySem.call f vs):=by
 refine S5.vn hn MY fun w s₀ s₁ mg mb fa o pm cd doc a vs ns G Y ho hd BY MZ JA hints hlen hg=>?_;have KX:=hY w _ Y;obtain⟨fd,hb,hF⟩:=F w mg fa _ KX G.T.g MZ;exact Cj KX G.T.g G.T.b G.T.builtins G.T.nolimit hg JA hints (VZ hlen OM) hr hF hb (fun H hO hS=>HI w H a ns hlen hO hS) fun H e s'=>Qp w H s₁ e s'
def dI(s:Stmt):Arguments:=match s with
 |.FunctionDef _ a _ _ _ _ _ _ _ _=>a
 |_ => {posonlyargs:=[],args:=[],vararg:=none,kwonlyargs:=[],kw_defaults:=[],kwarg:=none,defaults:=[]}
def cA(s:Stmt):List Stmt:=match s with
 |.FunctionDef _ _ b _ _ _ _ _ _ _=>b
 |_=>[]
def aH(s:Stmt):Scope:=match s with
 |.FunctionDef _ _ _ _ _ _ sc _ _ _=>sc
 |_ => {kind:=.function,names:=[],isGenerator:=false,isCoroutine:=false}
abbrev E0:XK:=fun _ _ _=>False
structure ES(K:_N)(x qual:Str)(st:Stmt)(f:_V)(fd:FuncData):Prop where
 ex:∃(oc:_T)(od:Option _V)(kV doc pm:_T)(an:Option _V)(dC ct:_T)(BP:Array (_Q)),
  fd=W.fnOf x qual (dI st) (cA st) (aH st) .none kV doc pm an dC ct/\K.lookup f=some ⟨oc,od,.func fd,BP⟩/\W.codeIn K dC qual=true
 kp:W.keepIn K (.ref f)=true
section
variable{P:_X}{w:World}{K:_N}{mg:_L}{base:Heap}
theorem ES.binds{x qual:Str}{st:Stmt}{f:_V}{fd:FuncData}{ps:_S}(F:ES K x qual st f fd)(h:∀(kV doc pm:_T)(an:Option _V)(dC ct:_T)(us:_P),us.length=ps.length->bindArgs (W.fnOf x qual (dI st) (cA st) (aH st) .none kV doc pm an dC ct) ⟨us,[]⟩=pure (ps.zip us)):Binds K fd ps []:=by obtain⟨oc,od,kV,doc,pm,an,dC,ct,BP,rfl,lk,BY⟩:=F.ex;exact .all (h kV doc pm an dC ct)
theorem xn{x qual:Str}{st:Stmt}{f:_V}{oc:_T}{od an:Option _V}{BP:Array (_Q)}{kV doc pm dC ct:_T}(l:K.lookup f=some ⟨oc,od,.func (W.fnOf x qual (dI st) (cA st) (aH st) .none kV doc pm an dC ct),BP⟩)(c:W.codeIn K dC qual=true)(k:W.keepIn K (.ref f)=true):ES K x qual st f (W.fnOf x qual (dI st) (cA st) (aH st) .none kV doc pm an dC ct):=⟨⟨oc,od,kV,doc,pm,an,dC,ct,BP,rfl,l,c⟩,k⟩
end
def kx(H H':Hp):Prop:=∀b o,H b=some o->H' b=some o
theorem kx.refl(H:Hp):kx H H:=fun _ _ h=>h
section
variable{κ:Type}[DecidableEq κ]
def gN(ay:List (κ×V))(k:κ):Option V:=(ay.find? fun kv=>decide (kv.1=k)).map (·.2)
def putK(ay:List (κ×V))(k:κ)(v:V):List (κ×V):=
 if(ay.any fun kv=>decide (kv.1=k))=true then ay.map (fun kv=>if kv.1=k then(kv.1,v)else kv)else ay++[(k,v)]
def nB(ay:List (κ×V))(k:κ):List (κ×V):=ay.filter fun kv=>decide (kv.1≠k)
theorem pe{p:κ×V}{r:List (κ×V)}{k:κ}(e:p.1=k):gN (p::r) k=some p.2:=by simp[gN,WU,e]
theorem pf{p:κ×V}{r:List (κ×V)}{k:κ}(e:¬ p.1=k):gN (p::r) k=gN r k:=by simp[gN,WU,e]
theorem vq(k:κ):∀ay:List (κ×V),(ay.any fun kv=>decide (kv.1=k))=(gN ay k).isSome
 |[]=>rfl
 |p::r=>by
  rw[W2];by_cases e:p.1=k
  .simp only[pe e,VF e,ZZ,Option.isSome_some]
  .rw[pf e,VD e,Yg];exact vq k r
theorem ja(ay:List (κ×V))(k:κ)(v:V):(putK ay k v).length<=ay.length+1:=by
 unfold putK;split
 .rw[Vi];lia
 .rw[Vt,Vn,VJ];lia
theorem ic.Aw{o:Option V}{u:_Q}(r:ic o u):o.isSome=u.isSome:=by
 cases o with
 |none=>cases u with
  |none=>rfl
  |some _=>exact(show False from r).elim
 |some _=>cases u with
  |none=>exact(show False from r).elim
  |some _=>rfl
theorem ic.getD{o:Option V}{u:_Q}{d:V}{d':_T}(r:ic o u)(rd:bb d d'):bb (o.getD d) (u.getD d'):=by
 cases o with
 |none=>cases u with
  |none=>exact rd
  |some _=>exact(show False from r).elim
 |some _=>cases u with
  |none=>exact(show False from r).elim
  |some _=>exact r
theorem KV.val{ay:List (κ×V)}{vs:List (κ×_T)}(r:KV ay vs)(k:κ):ic (gN ay k) (valueAt vs k):=by
 unfold KV at r
 induction r with
 |nil=>exact True.intro
 | @cons p q ps qs h t ih=>
  obtain⟨h1,h2⟩:=h;by_cases e:p.1=k
  .have e':q.1=k:=h1.symm.trans e;have b:valueAt (q::qs) k=some q.2:=by simp[valueAt,WU,e']
   rw[pe e,b];exact h2
  .have e':¬ q.1=k:=fun z=>e (h1.trans z);have b:valueAt (q::qs) k=valueAt qs k:=by simp[valueAt,WU,e']
   rw[pf e,b];exact ih
theorem KV.any{ay:List (κ×V)}{vs:List (κ×_T)}(r:KV ay vs)(k:κ):(ay.any fun kv=>decide (kv.1=k))=vs.any fun kv=>decide (kv.1=k):=by
 unfold KV at r
 induction r with
 |nil=>rfl
 |cons h t ih=>rw[W2,W2,ih,h.1]
theorem KV.xo{ay:List (κ×V)}{vs:List (κ×_T)}(r:KV ay vs)(k:κ){y:V}{u:_T}(ry:bb y u):
  KV (ay.map fun kv=>if kv.1=k then(kv.1,y)else kv) (vs.map fun kv=>if kv.1=k then(kv.1,u)else kv):=by
 unfold KV at r⊢
 induction r with
 |nil=>exact .nil
 | @cons p q ps qs h t ih=>
  rw[Vl,Vl];refine .cons ?_ ih;obtain⟨h1,h2⟩:=h;by_cases e:p.1=k
  .rw[Vo e,Vo (h1.symm.trans e)];exact⟨h1,ry⟩
  .rw[Vv e,Vv (fun z=>e (h1.trans z))];exact⟨h1,h2⟩
theorem KV.put{ay:List (κ×V)}{vs:List (κ×_T)}(r:KV ay vs)(k:κ){y:V}{u:_T}(ry:bb y u):KV (putK ay k y) (stored vs k u):=by
 unfold putK stored;rw[r.any k];by_cases e:(vs.any fun kv=>decide (kv.1=k))=true
 .rw[Vo e,Vo e];exact r.xo k ry
 .rw[Vv e,Vv e];exact Paired.snoc r ⟨rfl,ry⟩
theorem KV.drop{ay:List (κ×V)}{vs:List (κ×_T)}(r:KV ay vs)(k:κ):KV (nB ay k) (without vs k):=by
 unfold KV at r⊢;unfold nB without
 induction r with
 |nil=>exact .nil
 | @cons p q ps qs h t ih=>
  obtain⟨h1,h2⟩:=h;rw[List.filter_cons,List.filter_cons];by_cases e:p.1=k
  .have a:¬ decide (p.1≠k)=true:=by simp[e]
   have b:¬ decide (q.1≠k)=true:=by simp[h1.symm.trans e]
   rw[Vv a,Vv b];exact ih
  .have e':¬ q.1=k:=fun z=>e (h1.trans z);have a:decide (p.1≠k)=true:=by simp[e]
   have b:decide (q.1≠k)=true:=by simp[e']
   rw[Vo a,Vo b];exact .cons ⟨h1,h2⟩ ih
theorem KV.length{ay:List (κ×V)}{vs:List (κ×_T)}(r:KV ay vs):ay.length=vs.length:=X7 r
theorem Ck(ay:List (κ×V))(k:κ):(nB ay k).length<=ay.length:=Wr _ _
end
theorem sA{P:_X}{w:World}{k:bD}{u:_T}(r:bb (kV k) u):(bG P w).is k u=true:=by
 cases k with
 |inl i=>obtain⟨t,e⟩:=(show ∃t,u=Value.int i t from r);subst e;exact vd P w i t
 |inr x=>obtain⟨t,e⟩:=(show ∃t,u=Value.str x t from r);subst e;exact ve P w x t
theorem sC{P:_X}{w:World}:∀{ks:List bD}{us:_P},aV (ks.map kV) us->ItemsAre (bG P w) ks us
 |[],_,r=>by rw[V3]at r;cases r;exact .nil
 |k::ks,_,r=>by
  rw[Vl]at r;cases r with
  |cons h t=>exact .cons (sA h) (sC t)
abbrev KT(H:Hp):List (List bD×V)->List (List bD×_V×_T)->Prop:=Paired fun p q=>p.1=q.1/\H q.2.1=some (.tup (p.1.map kV))/\bb p.2 q.2.2
theorem KT.val{H:Hp}{ay:List (List bD×V)}{xs:List (List bD×_V×_T)}(r:KT H ay xs)(k:List bD):ic (gN ay k) ((atKey xs k).map (·.2)):=by
 induction r with
 |nil=>exact True.intro
 | @cons p q ps qs h t ih=>
  obtain⟨h1,_,h2⟩:=h;by_cases e:p.1=k
  .have e':q.1=k:=h1.symm.trans e;have b:atKey (q::qs) k=some q.2:=by simp[atKey,WU,e']
   rw[pe e,b];exact h2
  .have e':¬ q.1=k:=fun z=>e (h1.trans z);have b:atKey (q::qs) k=atKey qs k:=by simp[atKey,WU,e']
   rw[pf e,b];exact ih
theorem KT.xo{H:Hp}{ay:List (List bD×V)}{xs:List (List bD×_V×_T)}(r:KT H ay xs)(k:List bD){y:V}{u:_T}(ry:bb y u):
  KT H (ay.map fun kv=>if kv.1=k then(kv.1,y)else kv) (xs.map (putAt k u)):=by
 induction r with
 |nil=>exact .nil
 | @cons p q ps qs h t ih=>
  rw[Vl,Vl];refine .cons ?_ ih;obtain⟨h1,h2,h3⟩:=h;unfold putAt;by_cases e:p.1=k
  .rw[Vo e,Vo (h1.symm.trans e)];exact⟨h1,h2,ry⟩
  .rw[Vv e,Vv (fun z=>e (h1.trans z))];exact⟨h1,h2,h3⟩
theorem KT.put{H:Hp}{ay:List (List bD×V)}{xs:List (List bD×_V×_T)}(r:KT H ay xs)(k:List bD){b:_V}{y:V}{u:_T}(hb:H b=some (.tup (k.map kV)))(ry:bb y u):
  KT H (putK ay k y) (storedH xs k b u):=by
 have e:(ay.any fun kv=>decide (kv.1=k))=(atKey xs k).isSome:=by rw[vq,(r.val k).Aw,Option.isSome_map]
 unfold putK storedH;rw[e];by_cases q:(atKey xs k).isSome=true
 .rw[Vo q,Vo q];exact r.xo k ry
 .rw[Vv q,Vv q];exact Paired.snoc r ⟨rfl,hb,ry⟩
theorem KT.keeps{H H':Hp}{ay:List (List bD×V)}{xs:List (List bD×_V×_T)}(r:KT H ay xs)(ht:∀b ys,H b=some (.tup ys)->H' b=some (.tup ys)):KT H' ay xs:=
 Paired.IE r fun _ _ z=>⟨z.1,ht _ _ z.2.1,z.2.2⟩
section
variable{P:_X}{w:World}{H:Hp}{h:Heap}{a:_V}
theorem HL{u:HO}(ok:g6 P w H h)(e:Rd H a u):bE P w H h a u:=e.ok ok
theorem nC{ay:List (bD×V)}(ok:g6 P w H h)(e:Rd H a (.dK ay)):ay.length<=sizeLine/\(a==sysModules)=false/\∃vs,KV ay vs/\h.DictOf (bG P w) a vs:=
 show bE P w H h a (.dK ay)from HL ok e
theorem Cm{ay:List (bD×V)}(ok:g6 P w H h)(e:H a=some (.dK ay)):ay.length<=sizeLine/\(a==sysModules)=false/\∃vs,KV ay vs/\h.DictOf (bG P w) a vs:=nC ok (.inl e)
theorem uc{ks:List bD}(ok:g6 P w H h)(e:H a=some (.tup (ks.map kV))):(tupleKind (bG P w)).is h ks a:=by
 obtain⟨_,aD,r,o,h1,h2,n,h3⟩:=(show bE P w H h a (.tup (ks.map kV))from ok a _ e)
 exact⟨o,aD.toArray,n,h1,h2,h3,by simpa using sC r⟩
theorem vt{ay:List (List bD×V)}(ok:g6 P w H h)(e:Rd H a (.dT ay)):ay.length<=sizeLine/\(a==sysModules)=false /\
  ∃xs,KT H ay xs/\h.DictOfH (tupleKind (bG P w)) a xs:=by
 obtain⟨z,y,xs,r,o,es,ep,h1,h2,h3,h4,h5⟩:=(show bE P w H h a (.dT ay)from HL ok e)
 refine⟨z,y,xs,r,o,es,ep,h1,h2,h3,h4,fun x hx=>?_,h5⟩;have all:∀{l:List (List bD×V)}{m:List (List bD×_V×_T)},KT H l m->∀x∈m,(tupleKind (bG P w)).is h x.1 x.2.1:=by
  intro l m q
  induction q with
  |nil=>intro x hx;exact nomatch hx
  | @cons p q ps qs hq t ih=>
   intro x hx;rcases VH.mp hx with e|hx
   .subst e;exact uc ok (by rw[<-hq.1];exact hq.2.1)
   .exact ih x hx
 exact all r x hx
theorem M4{ay:List (List bD×V)}(ok:g6 P w H h)(e:H a=some (.dT ay)):ay.length<=sizeLine/\(a==sysModules)=false /\
  ∃xs,KT H ay xs/\h.DictOfH (tupleKind (bG P w)) a xs:=vt ok (.inl e)
end
def og(H:Hp)(a:_V)(y:V)(r:Option V):Prop:=
 (∃ay k,Rd H a (.dK ay)/\y=kV k/\r=gN ay k)\/∃ay k b,Rd H a (.dT ay)/\y=.ref b/\H b=some (.tup (k.map kV))/\r=gN ay k
def ud(H:Hp)(a:_V)(y v:V)(H':Hp):Prop:=
 (∃ay k,H a=some (.dK ay)/\y=kV k/\ay.length<sizeLine/\H'=upd H a (.dK (putK ay k v))) \/
 ∃ay k b,H a=some (.dT ay)/\y=.ref b/\H b=some (.tup (k.map kV))/\ay.length<sizeLine/\H'=upd H a (.dT (putK ay k v))
theorem og.k{H:Hp}{a:_V}{ay:List (bD×V)}{k:bD}(e:H a=some (.dK ay)):og H a (kV k) (gN ay k):=.inl ⟨ay,k,.inl e,rfl,rfl⟩
theorem og.t{H:Hp}{a b:_V}{ay:List (List bD×V)}{k:List bD}(e:H a=some (.dT ay))(eb:H b=some (.tup (k.map kV))):og H a (.ref b) (gN ay k):=.inr ⟨ay,k,b,.inl e,rfl,eb,rfl⟩
theorem ud.k{H:Hp}{a:_V}{ay:List (bD×V)}{k:bD}{v:V}(e:H a=some (.dK ay))(hl:ay.length<sizeLine):ud H a (kV k) v (upd H a (.dK (putK ay k v))):=.inl ⟨ay,k,e,rfl,hl,rfl⟩
theorem ud.t{H:Hp}{a b:_V}{ay:List (List bD×V)}{k:List bD}{v:V}(e:H a=some (.dT ay))(eb:H b=some (.tup (k.map kV)))(hl:ay.length<sizeLine):
  ud H a (.ref b) v (upd H a (.dT (putK ay k v))):=.inr ⟨ay,k,b,e,rfl,eb,hl,rfl⟩
section
variable{X:Cx}{ag:_M}{σ:St}{H:Hp}{s:_U}{a:_V}{y v:V}{u r:_T}{o:Option V}{A:_W}{E:_K}
theorem aI.big(I:aI X ag σ H s):sysModules<s.heap.objs.size:=by have h:mainGlobals<s.heap.objs.size:=(I.mod.glob.keeps I.bk).lt;exact ZP (by decide) h
theorem Ax{Q:_K}(hu:A.units+1<cLine)(I:aI X ag σ H s)(g:og H a y (some v))(ry:bb y u)(h:∀w' s',aI X ag σ H s'->bb v w'->Q w' s'):
  wpAny (model X.prog X.w) A (getItem (.ref a) u) Q E s:=by
 rcases g with⟨ay,k,e,ey,l⟩|⟨ay,k,b,e,ey,eb,l⟩
 .subst ey;obtain⟨z,hd,vs,rel,dd⟩:=nC I.bH e;obtain⟨w',hw,t5⟩:=ic.some_of (v:=v) (o:=valueAt vs k) (by rw[l];exact rel.val k);exact wpAny_getItem_of (sA ry) dd.mapOf hw (h w' _ (I.tok _) t5)
 .subst ey;cases(show u=Value.ref b from ry);obtain⟨z,hd,xs,rel,dd⟩:=vt I.bH e;obtain⟨w',hw,t5⟩:=ic.some_of (v:=v) (o:=(atKey xs k).map (·.2)) (by rw[l];exact rel.val k);obtain⟨p,hp,OS⟩:=Option.map_eq_some_iff.mp hw;refine wpAny_getItem_heap (Zh hu) (uc I.bH eb) dd hp ?_;rw[OS];exact h w' _ (I.tok _) t5
theorem oS{h':Heap}{t':Nat}{ob:HO}(I:aI X ag σ H s)(mu:L8 (H a))(hs:Heap.SameBut a s.heap h')(he:∃q,h'.get? a=some q)(new:bE X.prog X.w (upd H a ob) h' a ob):
  aI X ag σ (upd H a ob) {s with heap:=h',toks:=t'}:=
 I.write (x:=a) (e:=a) mu (.inl rfl) (fun b q hb z=>(hs.2 b hb).trans z) he new
theorem xq{P:_X}{w:World}{H':Hp}{h':Heap}{ay:List (bD×V)}{vs:List (bD×_T)}(z:ay.length<=sizeLine)(hd:(a==sysModules)=false)(rel:KV ay vs)(dd:h'.DictOf (bG P w) a vs):
  bE P w H' h' a (.dK ay):=⟨z,hd,vs,rel,dd⟩
theorem Ay{H':Hp}{Q:Unit->_U->Prop}(hu:A.units+1<cLine)(I:aI X ag σ H s)(g:ud H a y v H')(ry:bb y u)(rv:bb v r)(h:∀s',aI X ag σ H' s'->Q () s'):
  wpAny (model X.prog X.w) A (setItem (.ref a) u r) Q E s:=by
 rcases g with⟨ay,k,e,ey,l,eH⟩|⟨ay,k,b,e,ey,eb,l,eH⟩
 .subst ey eH;obtain⟨z,hd,vs,rel,dd⟩:=Cm I.bH e;have hz:vs.length<=sizeLine:=by rw[<-rel.length];exact z
  have hl:(putK ay k v).length<=sizeLine:=by have:=ja ay k v;lia
  refine wpAny_setItem_pairs (hsz:=hz) (sA ry) dd fun h' Fx hs=>h _ ?_;have he:∃q,h'.get? a=some q:=let⟨q,_,_,hq,_⟩:=Fx;⟨q,hq⟩
  exact oS I (by rw[e];exact True.intro) hs he (xq hl hd (rel.put k rv) Fx)
 .subst ey eH;cases(show u=Value.ref b from ry);obtain⟨z,hd,xs,rel,dd⟩:=M4 I.bH e;have hz:xs.length<=sizeLine:=by rw[<-X7 rel];exact z
  have hl:(putK ay k v).length<=sizeLine:=by have:=ja ay k v;lia
  refine wpAny_setItem_heap (hsz:=hz) (Zh hu) (uc I.bH eb) dd fun h' Fx hs=>h _ ?_;obtain⟨q,es,ep,hq,h2,h3,h4,_,h5⟩:=Fx;refine oS I (by rw[e];exact True.intro) hs ⟨q,hq⟩ ⟨hl,hd,_,(rel.put k eb rv).keeps fun c ys ec=>?_,q,es,ep,hq,h2,h3,h4,h5⟩;rw[aM (L7 ec e (fun z=>nomatch z))];exact ec
end
section
variable{X:Cx}{ag:_M}{σ:St}{H:Hp}{s:_U}{a:_V}{ay:List (bD×V)}{k:bD}{u:_T}{A:_W}{E:_K}
theorem M5{v:V}{more:_P}{Q:_K}(I:aI X ag σ H s)(e:H a=some (.dK ay))(ry:bb (kV k) u)(l:gN ay k=some v)(hm:more=[]\/∃x,more=[x])(h:∀w' s',aI X ag σ (upd H a (.dK (nB ay k))) s'->bb v w'->Q w' s'):wpAny (model X.prog X.w) A (call (.builtin "dict.pop") (.ref a::u::more)) Q E s:=by
 obtain⟨z,hd,vs,rel,dd⟩:=Cm I.bH e;obtain⟨w',hw,t5⟩:=ic.some_of (v:=v) (o:=valueAt vs k) (by rw[<-l];exact rel.val k);have hp:(keyPart u).isSome=true:=by
  cases k with
  |inl i=>obtain⟨t,q⟩:=(show ∃t,u=Value.int i t from ry);subst q;rfl
  |inr x=>obtain⟨t,q⟩:=(show ∃t,u=Value.str x t from ry);subst q;rfl
 have ha:argsOk "dict.pop" ⟨.ref a::u::more,[]⟩:=by
  rcases hm with q|⟨x,q⟩
  .subst q;exact PySem.F.args_dict_pop_2 _ _
  .subst q;exact PySem.F.args_dict_pop_3 _ _ _
 refine YL Z3 dd.typeIs PySem.F.entry_dict_pop ha (meets_dict_pop_there (bG X.prog X.w) a (sA ry) more hm hp)
  ⟨vs,w',dd,by rw[<-rel.length];exact z,hw,fun h' Fx hs=>h w' _ ?_ t5⟩
 have he:∃q,h'.get? a=some q:=let⟨q,_,_,hq,_⟩:=Fx;⟨q,hq⟩
 exact oS I (by rw[e];exact True.intro) hs he (xq (VZ (Ck ay k) z) hd (rel.drop k) Fx)
end
def JC(i:Expr):Prop:=∀ov iv,subscripted i false ov iv=operate [ov,iv] (getItem ov iv)
theorem Fy{prog:_X}{w:World}{A:_W}{E:_K}{s:_U}{env:Env}{value slice:Expr}{pos:Pos}{T id:String}{Q:_K}(hl:typeLookup (.type T) "__getitem__" = pure (some (.builtin id)))(hs:JC slice)(h:wpAny (model prog w) A (eval value env) (fun o s₁=>wpAny (model prog w) A (eval slice env) (fun i s₂=>s₂.TypeIs o T/\wpAny (model prog w) A (getItem o i) Q E s₂) E s₁) E s):
  wpAny (model prog w) A (eval (.Subscript value slice pos) env) Q E s:=by
 refine Subscript_ (WJ h (fun o s₁ h₁=>WJ h₁ (fun i s₂ h₂=>?_) fun _ _ x=>x) fun _ _ x=>x);obtain⟨hT,h₂⟩:=h₂;unfold subscriptTail;refine Vh ?_;rw[getitemInPython_of_ne hT.not_modules];refine Vh (wpAny_specialOf hT hl ?_);have fin:wpAny (model prog w) A (subscripted slice false o i) (fun r s₃=>wpAny (model prog w) A (letTemporaryGo value o r >>= fun _=>pure r) Q E s₃) E s₂:=by rw[hs o i];exact wpAny_operating (WJ h₂ (fun r s₃ h₃=>Vh (wpAny_letTemporaryGo (Vr h₃))) fun _ _ x=>x)
 first
  |exact Vr (Vh fin)
  |exact Vh (Vr (Vh fin))
  |exact Vh fin
theorem vx{X:Cx}{ag:_M}{σ:St}{H:Hp}{s:_U}{a:_V}{y:V}{o:Option V}(I:aI X ag σ H s)(g:og H a y o):s.TypeIs (.ref a) "dict":=by
 rcases g with⟨ay,k,e,_,_⟩|⟨ay,k,b,e,_,_,_⟩
 .obtain⟨_,_,vs,_,dd⟩:=nC I.bH e;exact dd.typeIs
 .obtain⟨_,_,xs,_,dd⟩:=vt I.bH e;exact dd.typeIs
def M6(td ty:TE):TE:=fun σ H Q=>td σ H fun x H1=>ty σ H1 fun y H2=>∃a v,x=.ref a/\og H2 a y (some v)/\Q v H2
def M7(td ty tv:TE):TS:=fun D σ H=>tv σ H fun v H1=>td σ H1 fun x H2=>ty σ H2 fun y H3=>∃a H4,x=.ref a/\ud H3 a y v H4/\D.nx σ H4
section
variable{X:Cx}{o i e value:Expr}{pos pos' q8:Pos}{td ty tv:TE}
theorem FA(hu:X.A.units+1<cLine)(ho:PE X o td)(hi:PE X i ty)(hs:JC i):PE X (.Subscript o i pos) (M6 td ty):=by intro ag s σ H Q I h;refine Fy PySem.F.slot_dict_getitem.lookup hs (cJ (ho ag s σ H _ I h) fun u s1⟨x,H1,I1,rx,q1⟩=>cJ (hi ag s1 σ H1 _ I1 q1) fun iv s2⟨y,H2,I2,ry,a,v,ex,g,q2⟩=>?_);subst ex;obtain rfl:u=Value.ref a:=rx;exact⟨vx I2 g,Ax hu I2 g ry fun w' s3 I3 t5=>⟨v,H2,I3,t5,q2⟩⟩
theorem FC(hu:X.A.units+1<cLine)(ho:PE X o td)(hi:PE X i ty)(hv:PE X value tv)(hs:swapsWith value (some (.Subscript o i pos')) pos.line X.env=pure false):
  PS X (.Assign [.Subscript o i pos'] value pos) (M7 td ty tv):=by
 intro ag s σ H D I h;refine wpAny_Assign_Subscript (cJ (hv ag s σ H _ I h) fun r s1⟨v,H1,I1,rv,q1⟩=>cJ (ho ag s1 σ H1 _ I1 q1) fun u s2⟨x,H2,I2,rx,q2⟩=>cJ (hi ag s2 σ H2 _ I2 q2) fun iv s3⟨y,H3,I3,ry,a,H4,ex,g,q3⟩=>?_) hs;subst ex;obtain rfl:u=Value.ref a:=rx;exact Ay hu I3 g ry rv fun s4 I4=>⟨σ,H4,I4,q3⟩
end
theorem Cn{P:_X}{w:World}{H:Hp}(h:Heap)(hb:sysModules<h.objs.size):bE P w H (h.push {cls:=.type "dict",data:=.dict #[]}) h.objs.size (.dK []):=
 ⟨Wh _,VV.mpr (WV (VN hb)),[],.nil,Heap.DictOf.new h⟩
theorem Co{P:_X}{w:World}{H:Hp}(h:Heap)(hb:sysModules<h.objs.size):bE P w H (h.push {cls:=.type "dict",data:=.dict #[]}) h.objs.size (.dT []):=
 ⟨Wh _,VV.mpr (WV (VN hb)),[],.nil,_,#[],0,VA _ rfl,⟨rfl,rfl,rfl⟩,rfl,rfl,List.nodup_nil⟩
def JD:TE:=fun _ H Q=>∀p,H p=none->Q (.ref p) (upd H p (.dK []))
def JE:TE:=fun _ H Q=>∀p,H p=none->Q (.ref p) (upd H p (.dT []))
section
variable{X:Cx}{pos:Pos}
theorem Cp:PE X (.Dict [] [] pos) JD:=fun ag s σ H Q I h=>
 wpAny_Dict_empty ⟨.ref s.heap.objs.size,_,I.laid (a:=s.heap.objs.size) (o:=.dK []) (t':=s.toks) (fun _ _ q=>Vj _ q) (Vp _) (Cn s.heap I.big),rfl,h _ (I.bH.fresh (Vp _))⟩
theorem Cq:PE X (.Dict [] [] pos) JE:=fun ag s σ H Q I h=>
 wpAny_Dict_empty ⟨.ref s.heap.objs.size,_,I.laid (a:=s.heap.objs.size) (o:=.dT []) (t':=s.toks) (fun _ _ q=>Vj _ q) (Vp _) (Co s.heap I.big),rfl,h _ (I.bH.fresh (Vp _))⟩
end
structure M1(X:Cx)(o:Expr)(m:Str)(apos:Pos)(e:Expr)(br:Pos):Prop where
 base:attributeBase o m X.env (eval o X.env)=eval o X.env
 Qs:((backTo br (starEach [e] X.env)).all (fun x => !x.1)&&(backToKw br (keywordEach [] X.env)).all (fun x=>x.1.isSome)
  && decide (([e]:List Expr).length+([]:List Keyword).length+(if([]:List Keyword).isEmpty then 0 else 1)<30))=true
 line:(apos.endLine==br.line)=true
 trees:backTo br (starEach [e] X.env)=[(false,eval e X.env)]
structure M2(X:Cx)(o:Expr)(m:Str)(apos:Pos)(e f:Expr)(br:Pos):Prop where
 base:attributeBase o m X.env (eval o X.env)=eval o X.env
 Qs:((backTo br (starEach [e,f] X.env)).all (fun x => !x.1)&&(backToKw br (keywordEach [] X.env)).all (fun x=>x.1.isSome)
  && decide (([e,f]:List Expr).length+([]:List Keyword).length+(if([]:List Keyword).isEmpty then 0 else 1)<30))=true
 line:(apos.endLine==br.line)=true
 trees:backTo br (starEach [e,f] X.env)=[(false,eval e X.env),(false,eval f X.env)]
def M8(H:Hp)(a:_V):Prop:=(∃ay,Rd H a (.dK ay))\/∃ay,Rd H a (.dT ay)
theorem xr{X:Cx}{ag:_M}{σ:St}{H:Hp}{s:_U}{a:_V}(I:aI X ag σ H s)(d:M8 H a):
  s.TypeIs (.ref a) "dict" /\ (∀b,Value.ref a=.ref b->∃ob,s.heap.get? b=some ob/\ob.dict=none)/\(a==sysModules)=false:=by
 rcases d with⟨ay,e⟩|⟨ay,e⟩
 .obtain⟨_,hd,vs,_,dd⟩:=nC I.bH e;refine⟨dd.typeIs,fun b q=>?_,hd⟩;cases q;obtain⟨ob,_,_,h1,h2,_⟩:=dd;exact⟨ob,h1,h2.2.1⟩
 .obtain⟨_,hd,xs,_,dd⟩:=vt I.bH e;refine⟨dd.typeIs,fun b q=>?_,hd⟩;cases q;obtain⟨ob,_,_,h1,h2,_⟩:=dd;exact⟨ob,h1,h2.2.1⟩
section
variable{X:Cx}{ag:_M}{σ:St}{H:Hp}{s:_U}{a:_V}{y d:V}{u r:_T}{o:Option V}{A:_W}{E:_K}
theorem JF{Q:_K}(hu:A.units+1<cLine)(I:aI X ag σ H s)(g:og H a y o)(ry:bb y u)(rd:bb d r)(h:∀w' s',aI X ag σ H s'->bb (o.getD d) w'->Q w' s'):
  wpAny (model X.prog X.w) A (call (.builtin "dict.get") [.ref a,u,r]) Q E s:=by
 rcases g with⟨ay,k,e,ey,l⟩|⟨ay,k,b,e,ey,eb,l⟩
 .subst ey;obtain⟨z,hd,vs,rel,dd⟩:=nC I.bH e;refine YL Yy dd.typeIs ZK (ZC _ _ _) (meets_dict_get_default (bG X.prog X.w) a (sA ry) hd r) ⟨_,dd.mapOf,h _ _ (I.tok _) ?_⟩;rw[l];exact(rel.val k).getD rd
 .subst ey;cases(show u=Value.ref b from ry);obtain⟨z,hd,xs,rel,dd⟩:=vt I.bH e;refine YL Yy dd.typeIs ZK (ZC _ _ _) (meetsH_dict_get_default (tupleKind (bG X.prog X.w)) a b hd r) ⟨Zh hu,k,xs,uc I.bH eb,dd,h _ _ (I.tok _) ?_⟩;rw[l];exact(rel.val k).getD rd
end
def JG(td ty tx:TE):TE:=fun σ H Q=>td σ H fun x H1=>∃a,x=.ref a/\M8 H1 a/\ty σ H1 fun y H2=>tx σ H2 fun z H3=>∃o,og H3 a y o/\Q (o.getD z) H3
def JH(td ty:TE):TE:=fun σ H Q=>td σ H fun x H1=>∃a,x=.ref a/\M8 H1 a/\ty σ H1 fun y H2=>∃ay k v,H2 a=some (.dK ay)/\y=kV k/\gN ay k=some v/\Q v (upd H2 a (.dK (nB ay k)))
section
variable{X:Cx}{o e f:Expr}{apos br:Pos}{td ty tx:TE}
theorem Cr(hu:X.A.units+1<cLine)(ho:PE X o td)(he:PE X e ty)(hf:PE X f tx)(m:M2 X o "get" apos e f br):PE X (.Call (.Attribute o "get" apos) [e,f] [] br) (JG td ty tx):=by
 intro ag s σ H Q I h;refine wpAny_Call_method m.base m.Qs m.line Xw Yy PySem.F.type_dict_get (cJ (ho ag s σ H _ I h) fun u s1⟨x,H1,I1,rx,a,ex,d,q1⟩=>?_);subst ex;obtain rfl:u=Value.ref a:=rx;obtain⟨t1,t2,_⟩:=xr I1 d;refine⟨t1,t2,?_⟩;rw[m.trees];refine WM rfl (X_ (Yp (cJ (he ag s1 σ H1 _ I1 q1) fun iv s2⟨y,H2,I2,ry,q2⟩=>
  Yp (cJ (hf ag s2 σ H2 _ I2 q2) fun fv s3⟨z,H3,I3,rz,ov,g,q3⟩=>Zu ?_))))
 exact JF hu I3 g ry rz fun w' s4 I4 t5=>⟨_,H3,I4,t5,q3⟩
theorem Cs(ho:PE X o td)(he:PE X e ty)(m:M1 X o "pop" apos e br):PE X (.Call (.Attribute o "pop" apos) [e] [] br) (JH td ty):=by intro ag s σ H Q I h;refine wpAny_Call_method m.base m.Qs m.line Xw Z3 PySem.F.type_dict_pop (cJ (ho ag s σ H _ I h) fun u s1⟨x,H1,I1,rx,a,ex,d,q1⟩=>?_);subst ex;obtain rfl:u=Value.ref a:=rx;obtain⟨t1,t2,_⟩:=xr I1 d;refine⟨t1,t2,?_⟩;rw[m.trees];refine WM rfl (X_ (Yp (cJ (he ag s1 σ H1 _ I1 q1) fun iv s2⟨y,H2,I2,ry,ay,k,v,ea,ey,l,q2⟩=>Zu ?_)));subst ey;exact M5 I2 ea ry l (.inl rfl) fun w' s3 I3 t5=>⟨v,_,I3,t5,q2⟩
end
section
variable{X:Cx}{ag:_M}{σ:St}{H:Hp}{s:_U}{a:_V}{ay:List (bD×V)}{A:_W}{E:_K}
theorem Ct{Q:_K}(I:aI X ag σ H s)(e:Rd H a (.dK ay))(h:∀p s',H p=none->aI X ag σ (upd H p (.dK ay)) s'->Q (.ref p) s'):wpAny (model X.prog X.w) A (call (.type "dict") [.ref a]) Q E s:=by obtain⟨z,hd,vs,rel,dd⟩:=nC I.bH e;refine kt_call_dict hd dd (by rw[<-rel.length];exact z) fun h' Fx hs=>?_;refine h _ _ (I.bH.fresh (Vp _)) (I.laid (a:=s.heap.objs.size) (o:=.dK ay) (t':=s.toks) (fun b q hq=>?_) (Vp _) (xq z (VV.mpr (WV (VN I.big))) rel Fx));exact(hs.2 b (VN (Vu hq))).trans (Vj _ hq)
end
theorem kx.upd{H H':Hp}{p:_V}{o:HO}(e:kx H H')(h:H' p=none):kx H (upd H' p o):=fun b u q=>by rw[aM (aN (e b u q) h)];exact e b u q
def oh(k:Nat)(i:Int):Prop:=i.natAbs<2 ^ k
theorem oh.bits{k:Nat}{i:Int}(h:oh k i):Builtin.Int.intBits i<=k:=by
 unfold Builtin.Int.intBits;by_cases hz:(i==0)=true
 .rw[Vo hz];exact Wh _
 .rw[Vv hz];have h0:i.natAbs≠0:=by intro e;apply hz;have:i=0:=_j.mp e;simp[this]
  have:=(YH h0).mpr h;lia
theorem oh.le{k:Nat}{i j:Int}(h:oh k j)(e:i.natAbs<=j.natAbs):oh k i:=YZ e h
theorem oh.small{k:Nat}{i:Int}(hk:10<=k)(h0:-1000<i)(h1:i<1000):oh k i:=by show i.natAbs<2 ^ k;have:2 ^ 10<=2 ^ k:=Wa (by decide) hk;lia
def yS(i j:Int):Prop:=∃a b,oh a i/\oh b j/\a<=2 ^ 20/\b<=2 ^ 20
theorem yS.ok{i j:Int}(h:yS i j):IntMulOk i j:=by obtain⟨a,b,h1,h2,h3,h4⟩:=h;exact IntMulOk.of_bits (VZ h1.bits h3) (VZ h2.bits h4)
def yT(i j:Int):Prop:=j≠0/\oh 9000 j
theorem yT.ok{i j:Int}(h:yT i j):Builtin.divisionGoesByPylong i j=false:=
 Zx ((YH (by intro e;exact h.1 (_j.mp e))).mpr h.2)
section
variable{X:Cx}
theorem FD:c5 X (binaryOp .Mult) (rI yS fun i j=>.int (i*j)):=LF fun _ _ _ _ _ _ _ hc q=>PyProof.Rows.mul_int q hc.ok
theorem Cu:c5 X (binaryOp .FloorDiv) (rI yT fun i j=>.int (i.fdiv j)):=LF fun _ _ _ _ _ _ _ hc q=>floordiv_int hc.1 q (.inl hc.ok)
end
def yU(X:Cx)(ifs:List Expr)(t:TT):Prop:=
 ∀(ag:_M)(s:_U)(σ:St)(H:Hp)(Q:Bool->Hp->Prop),aI X ag σ H s->t σ H Q ->
  wpAny (model X.prog X.w) X.A (forIn ifs true fun c r=>if r=true then do let ok <- isTrue c X.env (eval c X.env);pure (ForInStep.yield ok)else pure (ForInStep.yield r)) (TP X ag σ Q) X.xe s
def M9:TT:=fun _ H Q=>Q true H
theorem FE{X:Cx}:yU X [] M9:=fun _ _ _ H _ I h=>wpAny_tests_nil ⟨H,I,h⟩
theorem FF{X:Cx}{c:Expr}{t:TT}(h:PT X c t):yU X [c] t:=fun ag s σ H Q I hw=>wpAny_tests_one (h ag s σ H Q I hw)
theorem g6.M_{P:_X}{w:World}{H:Hp}{h:Heap}{a:_V}{o:HO}(x:g6 P w H h)(hn:H a=none)(new:bE P w (upd H a o) h a o):g6 P w (upd H a o) h:=fun b u e=>by
 by_cases hb:b=a
 .subst hb;rw[a!]at e;cases e;exact new
 .rw[aM hb]at e;exact(x b u e).nW (fun c v _ q=>q) (fun c q=>by rw[aM (aN q hn)];exact q) fun c xs q=>by rw[aM (aN q hn)];exact q
def qV(X:Cx)(N:_S)(scope:Scope)(cl:List (Str×_V))(C:_V)(fp:_R)(s:_U)(H:Hp):Cx:=
 {X with N:=N,s₀:=s,H₀:=H,env:=compEnvC scope cl C X.env,outer:=X.stack,stack:=X.stack,ex:=fp,fn:=fun _=>false,pn:=[],xe:=fun _ _=>False}
def oj(k:Nat)(a9:List Nat)(σ:St):St:=List.replicate k none++a9.map fun j=>(σ[j]?).getD none
structure ph(X:Cx)(N:_S)(scope:Scope)(cl:List (Str×_V))(k:Nat)(a9:List Nat):Prop where
 om:closureFor scope X.env=pure cl
 sub:∀x c,cl.lookup x=some c->X.env.cells.lookup x=some c
 has:∀x,((relabel scope X.env).names.lookup x=some .cell\/(relabel scope X.env).names.lookup x=some .free)->∃c,cl.lookup x=some c
 f?:∀x∈scope.names,x.2≠.cell
 kind:scope.kind=.function
 names:∀x∈scope.names,x.2=.local->scope.names.lookup x.1=some .local
 len:N.length=k+a9.length
 at_:∀i j x,a9[i]?=some j->N[k+i]?=some x->X.N[j]?=some x/\(X.env.kindOf x=some .cell\/X.env.kindOf x=some .free)/\((relabel scope X.env).names.lookup x=some .cell\/(relabel scope X.env).names.lookup x=some .free)
def sD(J:It)(k:Nat)(a9:List Nat)(g:TG)(tt:TT)(te:TE)(σ:St)(H1:Hp)(Q:VK):Prop:=
 ∃W:Nat->Nat->List V->St->Hp->Prop,(∃m,W 0 m [] (oj k a9 σ) H1)/\∀i m ys τ H,W i m ys τ H ->
  (J.stop i H/\ys.length<=sizeLine/\∀p,H p=none->Q (.ref p) (upd H p (.lst ys))) \/
  (J.go i H/\ys.length<sizeLine/\∀x H',J.Mn i H x H'->g x τ H' fun τ2 H2=>tt τ2 H2 fun b H3=>if b=true then te τ2 H3 fun y H4=>∃m',m'<m/\W (i+1) m' (ys++[y]) τ2 H4 else ∃m',m'<m/\W (i+1) m' ys τ2 H3)
@[irreducible] def pj(k:Nat)(a9:List Nat)(wi:TI)(g:TG)(tt:TT)(te:TE):TE:=fun σ H Q=>wi σ H fun J H1=>sD J k a9 g tt te σ H1 Q
theorem Cv{k:Nat}{a9:List Nat}{wi:TI}{g:TG}{tt:TT}{te:TE}{σ:St}{H:Hp}{Q:VK}(h:wi σ H fun J H1=>sD J k a9 g tt te σ H1 Q):pj k a9 wi g tt te σ H Q:=by unfold pj;exact h
theorem sE{k:Nat}{a9:List Nat}{wi:TI}{g:TG}{tt:TT}{te:TE}{σ:St}{H:Hp}{Q:VK}(h:pj k a9 wi g tt te σ H Q):wi σ H fun J H1=>sD J k a9 g tt te σ H1 Q:=by unfold pj at h;exact h
section
variable{X:Cx}{ag:_M}{σ:St}{H:Hp}{s:_U}
theorem FG{k:Nat}{a9:List Nat}{σ:St}{i:Nat}{v:V}(h:(oj k a9 σ)[i]?=some (some v)):∃j,k<=i/\a9[i-k]?=some j/\σ[j]?=some (some v):=by
 unfold oj at h;by_cases hi:i<k
 .rw[V7 (by simpa using hi),XQ]at h;split at h<;>cases h
 .rw[Vy (by simpa using Y8 hi),Wc,VB]at h;cases e:a9[i-k]? with
  |none=>rw[e]at h;cases h
  |some j=>
   rw[e]at h;refine⟨j,Y8 hi,rfl,?_⟩;have h':(σ[j]?).getD none=some v:=by simpa using h
   cases q:σ[j]? with
   |none=>rw[q]at h';cases h'
   |some o=>rw[q]at h';exact We some h'
theorem aI.block{N:_S}{scope:Scope}{cl:List (Str×_V)}{k:Nat}{a9:List Nat}{fp:_R}{C:_V}{h':Heap}{t':Nat}{m':_L}(I:aI X ag σ H s)(B:ph X N scope cl k a9)(hf:∀b∈fp,nZ X ag H b)(hC:s.heap.objs.size<=C)(M!:∀b∈fp,∃o,s.heap.get? b=some o)(kp:∀b o,s.heap.get? b=some o->h'.get? b=some o)(ns:h'.Ns C m'):aI (qV X N scope cl C fp s H) [] (oj k a9 σ) H {s with heap:=h',toks:=t'}:=by
 have below:∀{b:_V}{o:Obj},s.heap.get? b=some o->b≠C:=fun e=>VN (VC (Vu e) hC);have M?:∀x c,cl.lookup x=some c->∃v,s.heap.IsCell c v:=fun x c e=>I.cell x c (B.sub x c e);refine⟨⟨I.ok.mod,?_,I.ok.glob,I.ok.blt,hC,fun x y c h1 h2=>I.ok.inj x y c (B.sub x c h1) (B.sub y c h2),fun x hx=>B.has x hx,fun x c h1 _=>?_,I.ok.hd,I.ok.frames,.inl rfl,fun b hb=>⟨?_,fun x c e=>?_⟩,I.bs,VZ I.ok.LC I.sz,fun b o e hb=>?_,fun b hb=>?_,I.stack,I.tR⟩,
  rfl,I.bare,Un.kept kp,⟨m',ns,fun i x v h1 h2 h3=>?_⟩,fun x c e=>?_,?_,fun x c e=>I.nu x c (B.sub x c e),fun p hp=>absurd (show p∈([]:_M)from hp) (by simp),I.bH.kept kp,?_⟩
 .exact B.kind
 .exact absurd h1 (by simp[qV])
 .obtain⟨o,e⟩:=M! b hb;exact below e
 .exact(hf b hb).2.2.2.2.1 x c (B.sub x c e)
 .obtain⟨_,_,_,h4,_⟩:=hf b hb;rcases h4 with z|z
  .exact I.ok.E2 b o e z
  .exact absurd (VC (Vu (I.ok.bs b o e).1) z) (VY _)
 .intro z;rcases VH.mp (I.tQ b z)with e|e
  .exact(hf b hb).2.1 e
  .exact(hf b hb).2.2.1 e
 .obtain⟨j,hk,hj,hσ⟩:=FG h2;have hN:N[k+(i-k)]?=some x:=by rw[Nat.add_sub_cancel' hk];exact h1
  obtain⟨a1,a2,a3⟩:=B.at_ (i-k) j x hj hN;obtain⟨m,hn,hl⟩:=I.loc;have UB:OF X.env.scope x:=by
   rcases a2 with z|z
   .exact .inr (.inl z)
   .exact .inr (.inr z)
  obtain⟨u,r,l⟩:=hl j x v a1 hσ UB;refine⟨u,r,.inr ⟨a3,?_⟩⟩;rcases l with⟨z,_⟩|⟨_,c,e,cc⟩
  .rcases a2 with y|y<;>(rw[z]at y;cases y)
  .obtain⟨c',e'⟩:=B.has x a3;have:X.env.cells.lookup x=some c':=B.sub x c' e';rw[e]at this;cases this;obtain⟨o,ho,hd⟩:=cc;exact⟨c,e',o,kp c o ho,hd⟩
 .obtain⟨v,o,ho,hd⟩:=M? x c e;exact⟨v,o,kp c o ho,hd⟩
 .exact I.bH.fresh hC
 .show(oj k a9 σ).length=N.length;unfold oj;rw[Vt,Wc,Vi,B.len]
def vy(X:Cx)(ag:_M)(σ:St)(s:_U)(Q:VK)(acc:_T)(C:_V)(s':_U):Prop:=
 ∃D H',acc=.ref D/\s.heap.objs.size<=C/\aI X ag σ H' s'/\H' C=none/\(∃m,s'.heap.Ns C m)/\Q (.ref D) H'
def OT(X:Cx)(N:_S)(scope:Scope)(cl:List (Str×_V))(C:_V)(fp:_R)(s:_U)(H:Hp)(xe:_V->_T->_U->Prop):Cx:={qV X N scope cl C fp s H with xe:=xe C}
theorem aI.xe{X:Cx}{ag:_M}{σ:St}{H:Hp}{s:_U}(I:aI X ag σ H s)(x:_K):aI {X with xe:=x} ag σ H s:=by obtain⟨⟨o1,o2,o3,o4,o5,o6,o7,o8,o9,UC,LG,UD,UE,UG,UH,UI,UJ,UK⟩,i2,i3,i4,i5,i6,i7,i8,i9,UL,UM⟩:=I;exact⟨⟨o1,o2,o3,o4,o5,o6,o7,o8,o9,UC,LG,UD,UE,UG,UH,UI,UJ,UK⟩,i2,i3,i4,i5,i6,i7,i8,i9,UL,UM⟩
def JI(X:Cx)(fp:_R)(C:_V)(s:_U)(H:Hp):Prop:=∃ag σ,aI X ag σ H s/\(∀b∈fp,nZ X ag H b)/\s.heap.objs.size<=C
theorem JJ{α:Type}{M:Model}{A:_W}{m:Sem α}{Q Q':α->_U->Prop}{E E':_K}{s:_U}(he:∀x s',E x s'->E' x s')(h:wpAny M A m Q E s)(k:∀a s',Q a s'->Q' a s'):wpAny M A m Q' E' s:=WJ h k he
theorem q!{prog:_X}{w:World}{A:_W}{s:_U}{elt target iter:Expr}{ifs:List Expr}{scope:Scope}{pos:Pos}{it acc:_T}{env:Env}{R:Result->_U->Prop}(I:Nat->_U->Prop)
  (turn:∀ n s,I n s->wpAny (model prog w) A (pyNext it) (fun r s₁=>match r with
   |none=>R (.ok .next) s₁
   |some v=>wpAny (model prog w) A (letOwnedTupleGo target it v) (fun _ HM=>wpAny (model prog w) A (assign target env v) (fun _ s₂=>
     wpAny (model prog w) A (forIn ifs true fun c r=>if r=true then do let ok <- isTrue c env (eval c env);pure (ForInStep.yield ok)else pure (ForInStep.yield r)) (fun ok s₃=>
      if ok=true then wpAny (model prog w) A (eval elt env) (fun x s₄=>
       wpAny (model prog w) A (call (.builtin "list.append") [acc,x]) (fun _ s₅=>∃m,m<n/\I m s₅) (notedBy (model prog w) A env fun x s'=>R (.error x) s') s₄) (notedBy (model prog w) A env fun x s'=>R (.error x) s') s₃
      else ∃m,m<n/\I m s₃) (notedBy (model prog w) A env fun x s'=>R (.error x) s') s₂) (notedBy (model prog w) A env fun x s'=>R (.error x) s') HM) (notedBy (model prog w) A env fun x s'=>R (.error x) s') s₁) (notedBy (model prog w) A env fun x s'=>R (.error x) s') s)
  (n:Nat) (h:I n s):codeAny (model prog w) A (.compLoop (.ListComp elt [⟨target,iter,ifs,0⟩] scope pos) 0 it acc env) R s:=by
 refine codeAny_loop rfl I (fun n s hI=>?_) n h;show wpAny _ A ((compTurn (.ListComp elt [⟨target,iter,ifs,0⟩] scope pos) 0 it acc env).onRaise (fun x=>do noteFrame x env;theTreesLotGoes x)) _ _ s;refine wpAny_noted ?_;rw[compTurn_list];refine Vh (Za (Vh (WJ (turn n s hI) (fun r s₁ h₁=>?_) fun _ _ h'=>h')));cases r with
 |none=>exact Vr h₁
 |some v=>
  refine Vh (WJ h₁ (fun _ HM M'=>?_) fun _ _ h'=>h');refine Vh (WJ M' (fun _ s₂ h₂=>Vh (WJ h₂ (fun ok s₃ h₃=>?_) fun _ _ h'=>h')) fun _ _ h'=>h');cases ok with
  |false=>exact Vr ⟨rfl,h₃⟩
  |true=>exact Vh (Vh (WJ h₃ (fun x s₄ h₄=>Vh (WJ h₄ (fun _ s₅ h₅=>Vr (Vr ⟨rfl,h₅⟩)) fun _ _ h'=>h')) fun _ _ h'=>h'))
theorem xt{tg elt iter:Expr}{ifs:List Expr}{scope:Scope}{pos:Pos}{N:_S}{cl:List (Str×_V)}{k:Nat}{a9:List Nat}{g:TG}{tt:TT}{te:TE}{it:_V}{fp:_R}{tn:Nat->Heap->Prop}{J:It}{Q:VK}{RR:_T->Env->Result->_U->Prop}{E:_K}{xe:_V->_T->_U->Prop}(hc:X.calm=true)(B:ph X N scope cl k a9)(hg:∀C fp s H,PG (OT X N scope cl C fp s H xe) tg g)(hi:∀C fp s H,yU (OT X N scope cl C fp s H xe) ifs tt)(he:∀C fp s H,JI X fp C s H->PE (OT X N scope cl C fp s H xe) elt te)(I:aI X ag σ H s)(T:Turn X.prog X.w X.K tg J fp it tn)(st:tn 0 s.heap)(hf:∀b∈fp,nZ X ag H b)(h:sD J k a9 g tt te σ H Q)(Qt:∀acc C s',vy X ag σ s Q acc C s'->RR acc (compEnvC scope cl C X.env) (.ok .next) s')(mon:∀acc C x s',xe C x s'->notedBy (model X.prog X.w) X.A (compEnvC scope cl C X.env) (fun x s'=>RR acc (compEnvC scope cl C X.env) (.error x) s') x s'):
  wpAny (model X.prog X.w) X.A (newList []) (fun acc s₃=>wpAny (model X.prog X.w) X.A (newFunctionEnv scope X.env.globals cl [] X.env.qual none .none (some X.env)) (fun Cw s₄=>
   codeAny (model X.prog X.w) X.A (.compStart (.ListComp elt [⟨tg,iter,ifs,0⟩] scope pos) 0 (.ref it) acc {Cw with scope:=relabel scope X.env}) (RR acc {Cw with scope:=relabel scope X.env}) s₄) E s₃) E s:=by
 obtain⟨W,⟨m0,w0⟩,turn⟩:=h;refine WT (wpAny_newFunctionEnv B.f? (by intro y hy;simp at hy) (fun h₁ xu ue=>?_) B.kind);dsimp only at xu ue⊢;generalize Qu:s.heap.push {cls:=.type "list",dict:=none,data:=.seq ([]:_P).toArray} = H2 at xu ue⊢;have hC:H2.objs.size=s.heap.objs.size+1:=by rw[<-Qu,Wz]
 have Na:s.heap.objs.size<=H2.objs.size:=by rw[hC];exact Nat.le_succ _
 have OU:s.heap.objs.size≠H2.objs.size:=by rw[hC];exact VN (V? _)
 have old:∀b o,s.heap.get? b=some o->h₁.get? b=some o:=fun b o e=>ue.extBut b o (VN (VC (Vu e) Na)) (Vj _ (Qu▸Vj _ e));have Qv:h₁.get? s.heap.objs.size=some {cls:=.type "list",data:=.seq ([]:_P).toArray 0}:=ue.extBut _ _ OU (Vj _ (Qu▸VA _ rfl));have Qw:=T.obj 0 _ st;have M!:∀b∈fp,∃o,s.heap.get? b=some o:=fun b hb=>let⟨o,e,_⟩:=Qw b hb;⟨o,e⟩
 have S9:∀b∈fp,b≠s.heap.objs.size:=fun b hb z=>by obtain⟨o,e⟩:=M! b hb;exact absurd (Vu e) (by rw[z];exact VY _)
 have UN:H s.heap.objs.size=none:=I.bH.fresh (Vp _);have HN:tn 0 h₁:=T.keep 0 _ _ st fun b _ o e=>old b o e;have Nb:∀x c,cl.lookup x=some c->c≠s.heap.objs.size:=fun x c e z=>by obtain⟨v,o,ho,_⟩:=I.cell x c (B.sub x c e);exact absurd (Vu ho) (by rw[z];exact VY _)
 have UO:∀b∈gG X.stack,b≠s.heap.objs.size:=fun b hb z=>by obtain⟨_,o,ho,_⟩:=I.stack.mem hb;exact absurd (Vu ho) (by rw[z];exact VY _)
 have loop:∀s₃:_U,s₃ = {s with heap:=h₁,toks:=s.toks+([]:List (Str×_T)).length} ->
   codeAny (model X.prog X.w) X.A (.compLoop (.ListComp elt [⟨tg,iter,ifs,0⟩] scope pos) 0 (.ref it) (.ref s.heap.objs.size) (compEnvC scope cl H2.objs.size X.env)) (RR (.ref s.heap.objs.size) (compEnvC scope cl H2.objs.size X.env)) s₃:=by
  rintro s₃ rfl;generalize wQ:OT X N scope cl H2.objs.size fp s H xe=XB;have eP:XB.prog=X.prog:=by rw[<-wQ];rfl
  have eW:XB.w=X.w:=by rw[<-wQ];rfl
  have eK:XB.K=X.K:=by rw[<-wQ];rfl
  have eA:XB.A=X.A:=by rw[<-wQ];rfl
  have eE:XB.env=compEnvC scope cl H2.objs.size X.env:=by rw[<-wQ];rfl
  have eL:XB.env.locals=H2.objs.size:=by rw[eE];rfl
  have eF:XB.fs=gG X.stack:=by rw[<-wQ];rfl
  have eX:XB.ex=fp:=by rw[<-wQ];rfl
  have eN:XB.pn=[]:=by rw[<-wQ];rfl
  have e0:XB.s₀=s:=by rw[<-wQ];rfl
  have eC:XB.calm=true:=by rw[<-wQ];exact hc
  have S_:XB.env.cells=cl:=by rw[eE];rfl
  have Qx:XB.xe=xe H2.objs.size:=by rw[<-wQ];rfl
  have mon:=mon (.ref s.heap.objs.size) H2.objs.size;have oo:PG XB tg g:=by rw[<-wQ];exact hg _ _ _ _
  have JK:yU XB ifs tt:=by rw[<-wQ];exact hi _ _ _ _
  have UP:PE XB elt te:=by rw[<-wQ];exact he _ _ _ _ ⟨ag,σ,I,hf,Na⟩
  have I0:aI XB [] (oj k a9 σ) H {s with heap:=h₁,toks:=s.toks+([]:List (Str×_T)).length}:=by rw[<-wQ];exact(I.block B hf Na M! old xu).xe _
  -- HD HP pinned
  have Qy:∀{τ:St}{H':Hp}{s':_U}{aD:_P}{nn:Nat},aI XB [] τ H' s'->s'.heap.get? s.heap.objs.size=some {cls:=.type "list",data:=.seq aD.toArray nn}->H' s.heap.objs.size=none ->
    aI XB [(s.heap.objs.size,{cls:=.type "list",data:=.seq aD.toArray nn})] τ H' s':=fun{τ H' s' aD nn}J hd hn=>J.oP fun p hp=>by
   obtain rfl:p=_:=VI.mp hp;refine⟨hd,hn,by rw[eL];exact OU,by rw[eF];exact fun z=>UO _ z rfl,fun v z=>?_⟩;have z':Data.seq aD.toArray nn=Data.cell v:=z;cases z'
  have w!:∀{H':Hp}{o:Obj},(∀b∈fp,H' b=none)->∀b∈fp,nZ XB [(s.heap.objs.size,o)] H' b:=fun{H' o}hn b hb=>by
   obtain⟨_,f1,f2,f3,f4,f5⟩:=hf b hb;refine⟨hn b hb,?_,?_,.inl (by rw[eX];exact hb),fun x c e=>f4 x c (B.sub x c (by rw[<-S_];exact e)),fun p hp=>?_⟩
   .rw[eL];obtain⟨o,e⟩:=M! b hb;exact VN (VC (Vu e) Na)
   .rw[eF];intro z;rcases VH.mp (I.tQ b z)with e|e
    .exact f1 e
    .exact f2 e
   .rw[eN]at hp;obtain rfl:p=_:=VI.mp (by simpa using hp);exact WV (S9 b hb)
  refine q! (fun n s'=>∃i ys aD nn τ H',aI XB [] τ H' s'/\s'.heap.get? s.heap.objs.size=some {cls:=.type "list",data:=.seq aD.toArray nn}/\H' s.heap.objs.size=none/\aV ys aD/\tn i s'.heap/\(∀b∈fp,H' b=none)/\W i n ys τ H') ?_ m0
   ⟨0,[],[],0,oj k a9 σ,H,I0,Qv,UN,.nil,HN,fun b hb=>(hf b hb).1,w0⟩
  rintro n s3 ⟨i,ys,aD,nn,τ,H3,I3,UQ,UR,OV,l_,Mq,w3⟩;have S!:=Qy I3 UQ UR;rcases turn i n ys τ H3 w3 with⟨stop,hz,qn⟩|⟨go,hz,step⟩
  .have D1:=T.done XB eP eW eK eC i _ s3 τ H3 (notedBy (model X.prog X.w) X.A (compEnvC scope cl H2.objs.size X.env) fun x s'=>RR (.ref s.heap.objs.size) (compEnvC scope cl H2.objs.size X.env) (.error x) s') S! (w! Mq) l_ stop;rw[eA]at D1;refine cJ D1 fun r s4⟨hr,I4⟩=>?_;subst hr;refine Qt _ _ s4 ?_;obtain⟨pd,Nc,_⟩:=I4.pin (s.heap.objs.size,{cls:=.type "list",data:=.seq aD.toArray nn}) (by rw[eN];exact V5 _ (VI.mpr rfl));have FH:Un (gG X.stack) fp H H3 s.heap s4.heap:=by have:=I4.base;rw[<-wQ]at this;exact this
   have new:bE X.prog X.w (upd H3 s.heap.objs.size (.lst ys)) s4.heap s.heap.objs.size (.lst ys):=⟨hz,aD,nn,OV,pd⟩
   have Qz:g6 X.prog X.w H3 s4.heap:=by have:=I4.bH;rw[eP,eW]at this;exact this
   have bH:g6 X.prog X.w (upd H3 s.heap.objs.size (.lst ys)) s4.heap:=Qz.M_ Nc new;have US:s4.os=s.os:=by have:=I4.os;rw[e0]at this;exact this
   have un:Un (gG X.stack) fp H (upd H3 s.heap.objs.size (.lst ys)) s.heap s4.heap:=
    ⟨FH.keep,FH.slot,fun b o e n hx=>by rw[aM (VN (Vu e))];exact FH.free b o e n hx,FH.there,
     fun b xs e=>by rw[aM (aN (FH.mh b xs e) Nc)];exact FH.mh b xs e,fun b o u e=>by rw[aM (aN (FH.kR b o u e) Nc)];exact FH.kR b o u e,
     fun b ps e=>by
      obtain⟨more,q⟩:=FH.nX b ps e;exact⟨more,by rw[aM (aN q Nc)];exact q⟩⟩
   have I5:aI X ag σ (upd H3 s.heap.objs.size (.lst ys)) s4:=I.vh US un bH I4.bare fun b hb=>⟨(hf b hb).2.2.2.1,(hf b hb).2.1,(hf b hb).2.2.2.2.1,(hf b hb).2.2.2.2.2⟩
   have UT:H3 H2.objs.size=none:=by have:=I4.free;rw[eL]at this;exact this
   refine⟨s.heap.objs.size,_,rfl,Na,I5,by rw[aM (WV OU)];exact UT,?_,qn _ Nc⟩;obtain⟨m4,S?,_⟩:=I4.loc;rw[eL]at S?;exact⟨m4,S?⟩
  .have D1:=T.item XB eP eW eK eC i _ s3 τ H3 (notedBy (model X.prog X.w) X.A (compEnvC scope cl H2.objs.size X.env) fun x s'=>RR (.ref s.heap.objs.size) (compEnvC scope cl H2.objs.size X.env) (.error x) s') S! (w! Mq) l_ go;rw[eA]at D1;refine cJ D1 fun r s4⟨u,hr,h4⟩=>?_;subst hr;refine cJ h4 fun _ s5⟨x,H5,I5,r5,y5,Jc,P0⟩=>?_;have P_:=I5.pinned (w! P0) (T.obj _ _ Jc);have G:=oo _ s5 τ H5 x u _ P_ r5 (step x H5 y5);rw[eP,eW,eA,eE,Qx]at G;refine JJ mon G fun _ s6⟨τ6,H6,I6,q6⟩=>?_;have G2:=JK _ s6 τ6 H6 _ I6 q6;rw[eP,eW,eA,eE,Qx]at G2;refine JJ mon G2 fun ok s7⟨H7,I7,q7⟩=>?_
   -- PZ HD ag give back
   have back:∀{τ8:St}{H8:Hp}{s8:_U},aI XB ([(s.heap.objs.size,({cls:=.type "list",data:=.seq aD.toArray nn}:Obj))]++o! fp s5.heap) τ8 H8 s8 ->
     aI XB [] τ8 H8 s8/\s8.heap.get? s.heap.objs.size=some {cls:=.type "list",data:=.seq aD.toArray nn}/\H8 s.heap.objs.size=none/\tn (i+1) s8.heap/\∀b∈fp,H8 b=none:=fun{τ8 H8 s8}J=>by
    obtain⟨p1,p2,_⟩:=J.pin (s.heap.objs.size,{cls:=.type "list",data:=.seq aD.toArray nn}) (V5 _ (Y! _ (VI.mpr rfl)));refine⟨J.oP fun p hp=>absurd (show p∈([]:_M)from hp) (by simp),p1,p2,T.keep _ _ _ Jc fun b hb o e=>(J.pin (b,o) (V5 _ (V5 _ (ie hb e)))).1,fun b hb=>?_⟩;obtain⟨o,e,d⟩:=T.obj _ _ Jc b hb;exact(J.pin (b,o) (V5 _ (V5 _ (ie hb e)))).2.1
   cases ok with
   |false=>
    rw[Vv Vs]at q7⊢;obtain⟨m',hm,w7⟩:=q7;obtain⟨J,a1,a2,a3,a4⟩:=back I7;exact⟨m',hm,i+1,ys,aD,nn,τ6,H7,J,a1,a2,OV,a3,a4,w7⟩
   |true=>
    rw[Vo rfl]at q7⊢;have G3:=UP _ s7 τ6 H7 _ I7 q7;rw[eP,eW,eA,eE,Qx]at G3;refine JJ mon G3 fun v s8⟨y,H8,I8,r8,m',hm,w8⟩=>?_;obtain⟨J,a1,a2,a3,a4⟩:=back I8;have hlen:=OV.length;refine YM F.slot_list_append ⟨_,a1,rfl⟩ F.entry_list_append (F.args_list_append_2 _ _) (_l s.heap.objs.size aD.toArray nn v (by rw[Vx];lia)) ⟨a1,?_⟩;have q:=_y a1 (fun z=>z.push v);have other:∀b o,b≠s.heap.objs.size->s8.heap.get? b=some o->(s8.heap.update s.heap.objs.size (Obj.mapSeq fun z=>z.push v)).get? b=some o:=fun b o hb e=>(V0 s8.heap (Obj.mapSeq fun z=>z.push v) (WV hb)).trans e;have J':aI XB [] τ6 H8 {s8 with heap:=s8.heap.update s.heap.objs.size (Obj.mapSeq fun z=>z.push v)}:=
     J.turned (t':=s8.toks) (it:=s.heap.objs.size) other a2 (by rw[eL];exact OU) (.inr (by rw[e0];exact Vp _)) (fun x c e=>Nb x c (by rw[<-S_];exact e)) fun p hp=>absurd (show p∈([]:_M) by rw[eN]at hp;exact hp) (by simp)
    obtain⟨n2,q2⟩:∃n2,(s8.heap.update s.heap.objs.size (Obj.mapSeq fun z=>z.push v)).get? s.heap.objs.size=some {cls:=.type "list",data:=.seq (aD++[v]).toArray n2}:=by
     have e1:aD.toArray.push v=(aD++[v]).toArray:=by simp
     rw[<-e1];exact⟨_,q⟩
    exact⟨m',hm,i+1,ys++[y],aD++[v],n2,τ6,H8,J',q2,a2,OV.append (.cons r8 .nil),T.keep _ _ _ a3 fun b hb o e=>other b o (S9 b hb) e,a4,w8⟩
 exact codeAny_compStart_list (loop _ rfl) (T.self X.A 0 _ _ _ HN (loop _ rfl))
theorem sF{tg elt iter:Expr}{ifs:List Expr}{scope:Scope}{pos:Pos}{N:_S}{cl:List (Str×_V)}{k:Nat}{a9:List Nat}{g:TG}{tt:TT}{te:TE}{it:_V}{fp:_R}{tn:Nat->Heap->Prop}{J:It}{Q:VK}{RR:_T->_V->Result->_U->Prop}{E:_K}(hc:X.calm=true)(B:ph X N scope cl k a9)(hg:∀C fp s H,PG (qV X N scope cl C fp s H) tg g)(hi:∀C fp s H,yU (qV X N scope cl C fp s H) ifs tt)(he:∀C fp s H,PE (qV X N scope cl C fp s H) elt te)(I:aI X ag σ H s)(T:Turn X.prog X.w X.K tg J fp it tn)(st:tn 0 s.heap)(hf:∀b∈fp,nZ X ag H b)(h:sD J k a9 g tt te σ H Q)(Qt:∀acc C s',vy X ag σ s Q acc C s'->RR acc C (.ok .next) s'):
  wpAny (model X.prog X.w) X.A (newList []) (fun acc s₃=>wpAny (model X.prog X.w) X.A (newFunctionEnv scope X.env.globals cl [] X.env.qual none .none (some X.env)) (fun Cw s₄=>
   codeAny (model X.prog X.w) X.A (.compStart (.ListComp elt [⟨tg,iter,ifs,0⟩] scope pos) 0 (.ref it) acc {Cw with scope:=relabel scope X.env}) (RR acc Cw.locals) s₄) E s₃) E s:=by
 have z:=xt (xe:=fun _ _ _=>False) (RR:=fun acc en=>RR acc en.locals) (E:=E) (iter:=iter) (pos:=pos) hc B hg hi (fun C fp s H _=>he C fp s H) I T st hf h Qt fun _ _ _ _ q=>q.elim;exact z
end
section
variable{X:Cx}{tg elt iter:Expr}{ifs:List Expr}{scope:Scope}{pos Cy:Pos}{N:_S}{cl:List (Str×_V)}{k:Nat}{a9:List Nat}{wi:TI}{g:TG}{tt:TT}{te:TE}
theorem aI.sG{ag:_M}{σ σ':St}{H H':Hp}{s s':_U}{C:_V}{h':Heap}(I:aI X ag σ H s)(hC:s.heap.objs.size<=C)(I':aI X ag σ' H' s')(hn:H' C=none)(sb:Heap.SameBut C s'.heap h'):
  aI X ag σ' H' {s' with heap:=h'}:=by
 refine I'.turned (t':=s'.toks) (it:=C) (fun b o hb e=>(sb.2 b hb).trans e) hn (WX (VC I.lt hC)) (.inr (VZ I.sz hC)) (fun x c e=>?_) fun p hp=>?_
 .obtain⟨v,o,ho,_⟩:=I.cell x c e;exact VN (VC (Vu ho) hC)
 .exact VN (VC (Vu (I.pin p hp).1) hC)
theorem FI(hc:X.calm=true)(B:ph X N scope cl k a9)(hi:PI X tg iter wi)(hg:∀C fp s H,PG (qV X N scope cl C fp s H) tg g)(JL:∀C fp s H,yU (qV X N scope cl C fp s H) ifs tt)(he:∀C fp s H,PE (qV X N scope cl C fp s H) elt te)(hs:∀x,foldedSetIterable iter X.env x=pure x:=by intro _;rfl):PE X (.ListComp elt [⟨tg,iter,ifs,0⟩] scope pos) (pj k a9 wi g tt te):=by intro ag s σ H Q I h;rw[eval_ListComp];refine _a (use:=none) rfl hs B.om B.kind B.names (cJ (hi ag s σ H _ I (sE h)) fun xv s₁ h₁=>cJ h₁ fun OJ s₂ h₂=>?_);obtain⟨it,fp,tn,J,H2,e,I2,T,st2,f2,hW⟩:=h₂;subst e;refine sF (RR:=fun acc C=>compPost (model X.prog X.w) X.A X.xe none (EP X ag σ Q) acc C) hc B hg JL he I2 T st2 f2 hW ?_;rintro acc C s' ⟨D,H',rfl,hC,I',hn,⟨m,ns⟩,q⟩;exact⟨m,ns,fun h' sb=>⟨.ref D,H',I2.sG hC I' hn sb,rfl,q⟩⟩
theorem xw{i:Nat}{y:Str}{py:Pos}(hN:X.N.Nodup)(hy:X.N[i]?=some y)(hx:Loc X.env.scope y)(hc:X.calm=true)(B:ph X N scope cl k a9)(hi:PI X tg iter wi)(hg:∀C fp s H,PG (qV X N scope cl C fp s H) tg g)(JL:∀C fp s H,yU (qV X N scope cl C fp s H) ifs tt)(he:∀C fp s H,PE (qV X N scope cl C fp s H) elt te)(QA:swapsWith (.ListComp elt [⟨tg,iter,ifs,0⟩] scope pos) (some (.Name y py)) Cy.line X.env=pure true:=by rfl)(hs:∀x,foldedSetIterable iter X.env x=pure x:=by intro _;rfl)(hf:X.fn y=true\/X.env.scope.names.lookup y=some .local:=by first|exact .inl rfl|exact .inr rfl|assumption):
  PS X (.Assign [.Name y py] (.ListComp elt [⟨tg,iter,ifs,0⟩] scope pos) Cy) (Fc (pj k a9 wi g tt te) (vi i)):=by
 intro ag s σ H D I h;rw[exec_Assign_Name_used _ _ _ _ QA];refine Vh (Za (Vh ?_));show wpAny _ X.A (do let _ <- comprehension (.ListComp elt [⟨tg,iter,ifs,0⟩] scope pos) scope X.env _ (newList []) false (eval iter X.env) (some (assign (.Name y py) X.env))) _ _ s;refine Vh (WJ (_a (use:=some (assign (.Name y py) X.env)) (Q:=fun _ s'=>SP X ag D .next s') rfl hs B.om B.kind B.names (cJ (hi ag s σ H _ I (sE h)) fun xv s₁ h₁=>cJ h₁ fun OJ s₂ h₂=>?_)) (fun _ s' hq=>Vr (Vr hq)) fun _ _ e=>e);obtain⟨it,fp,tn,J,H2,e,I2,T,st2,f2,hW⟩:=h₂;subst e;refine sF (Q:=fun v H'=>vi i v σ H' D.nx) (RR:=fun acc C=>compPost (model X.prog X.w) X.A X.xe (some (assign (.Name y py) X.env)) (fun _ s'=>SP X ag D .next s') acc C) hc B hg JL he I2 T st2 f2 hW ?_;rintro acc C s' ⟨D',H',rfl,hC,I',hn,⟨m,ns⟩,q⟩;show wpAny _ _ (assign (.Name y py) X.env (.ref D')) _ _ s';refine wpAny_assign_Name (sf I' hN hy hx (v:=.ref D') rfl (fun ON UU⟨a,sb,ha⟩=>?_) hf);have UW:C≠a:=by
  rcases ha with e|e
  .rw[e];exact WX (VC I2.lt hC)
  .obtain⟨v,o,ho,_⟩:=I2.cell y a e;exact WX (VC (Vu ho) hC)
 exact⟨m,ns.sameBut sb UW,fun h' UX=>⟨_,H',I2.sG hC UU hn UX,q⟩⟩
end
section
variable{K:_N}{g:TG}{tt:TT}{te:TE}{Q:VK}
theorem FJ{J:It}{k:Nat}{a9:List Nat}{σ:St}{H:Hp}(n:Nat)(hn:n<=sizeLine)(Pv:Nat->List V->St->Hp->Prop)(h0:Pv 0 [] (oj k a9 σ) H)(UY:∀i ys τ H,i<n->Pv i ys τ H->J.go i H)(wY:∀ys τ H,Pv n ys τ H->J.stop n H)(hl:∀i ys τ H,Pv i ys τ H->ys.length<=i)(hs:∀i ys τ H x H',i<n->Pv i ys τ H->J.Mn i H x H'->∀K1:List V->St->Hp->Prop,(∀ys τ H,Pv (i+1) ys τ H->K1 ys τ H)->g x τ H' fun τ2 H2=>tt τ2 H2 fun b H3=>if b=true then te τ2 H3 fun y H4=>K1 (ys++[y]) τ2 H4 else K1 ys τ2 H3)(hd:∀ys τ H p,Pv n ys τ H->H p=none->Q (.ref p) (upd H p (.lst ys))):sD J k a9 g tt te σ H Q:=by
 refine⟨fun i m ys τ H=>m=n-i/\i<=n/\Pv i ys τ H,⟨n,by simp,Wh _,h0⟩,?_⟩;rintro i m ys τ H ⟨rfl,hi,p⟩;have hy:=hl i ys τ H p;by_cases kQ:i<n
 .refine .inr ⟨UY i ys τ H kQ p,by lia,fun x H' y=>?_⟩;exact hs i ys τ H x H' kQ p y (fun ys τ H=>∃m',m'<n-i/\m'=n-(i+1)/\i+1<=n/\Pv (i+1) ys τ H) fun ys τ H q=>⟨n-(i+1),by lia,rfl,kQ,q⟩
 .have e:i=n:=by lia
  subst e;exact .inl ⟨wY ys τ H p,by lia,fun q hq=>hd ys τ H q p hq⟩
end
def cI(b:Bool)(h:Heap)(i l:_V)(k:Nat):Prop:=match b with|true=>h.IsListIter i l k|false=>h.IsTupleIter i l k
def gO(b:Bool)(h:Heap)(l:_V)(xs:Array _T):Prop:=match b with|true=>h.IsList l xs|false=>h.IsTuple l xs
theorem cI.keep{b:Bool}{h h':Heap}{i l:_V}{k:Nat}(x:cI b h i l k)(e:∀o,h.get? i=some o->h'.get? i=some o):cI b h' i l k:=by
 cases b with
 |true=>exact Heap.IsListIter.at x e
 |false=>exact Heap.IsTupleIter.at x e
theorem gO.keep{b:Bool}{h h':Heap}{l:_V}{xs:Array _T}(x:gO b h l xs)(e:∀o,h.get? l=some o->h'.get? l=some o):gO b h' l xs:=by
 cases b with
 |true=>exact Heap.IsList.at x e
 |false=>obtain⟨o,ho,r⟩:=(show h.IsTuple l xs from x);exact⟨o,e _ ho,r⟩
theorem cI.there{b:Bool}{h:Heap}{i l:_V}{k:Nat}(x:cI b h i l k):∃o n vs,h.get? i=some o/\o.cls=.type n/\o.data=.fields vs:=by
 cases b with
 |true=>obtain⟨o,h1,h2,h3⟩:=(show h.IsListIter i l k from x);exact⟨o,_,_,h1,h2,h3⟩
 |false=>obtain⟨o,h1,h2,h3⟩:=(show h.IsTupleIter i l k from x);exact⟨o,_,_,h1,h2,h3⟩
section
variable{prog:_X}{w:World}{A:_W}{E:_K}{s:_U}
theorem pw{it t:_V}{i:Nat}{items:Array _T}{x:_T}{Q:_K}(hit:s.heap.IsTupleIter it t i)(ht:s.heap.IsTuple t items)(hx:items[i]?=some x)(hQ:∀h',h'.IsTupleIter it t (i+1)->Heap.SameBut it s.heap h'->Q x {s with heap:=h'}):wpAny (model prog w) A (Builtin.SmallTypes.nextOf (.ref it)) Q E s:=by obtain⟨oi,HQ,ci,di⟩:=id hit;obtain⟨ot,QB,_,nt,dt⟩:=ht;unfold Builtin.SmallTypes.nextOf;refine Vh (Wt (name:=Str.ofString "__next__") hit.typeIs Xm (Ws Xm hit.typeIs Z5 ?_ (ZY _)));show wpAny _ _ (field (.ref it) 0 >>= _) _ _ s;refine Vh (WN HQ di (x:=.ref t) rfl ?_);show wpAny _ _ (if(Value.ref t==Value.none)=true then _ else _) _ _ s;rw[Vv (show ¬ ((Value.ref t==Value.none)=true)from Vs)];show wpAny _ _ (field (.ref it) 1 >>= _) _ _ s;refine Vh (WN HQ di (x:=.int i 0) rfl ?_);show wpAny _ _ (seqItems? (.ref t) >>= _) _ _ s;refine Vh (Wn QB dt ?_);simp only[VR,hx];refine Vh (Y1 HQ di (by simp) (Vr ⟨x,rfl,Vr (hQ _ ?_ (Yb ..))⟩));exact⟨_,Xi _ HQ (_F (Yn di _)),(Obj.cls_mapFields ..).trans ci,by rw[Yn di];simp[rawInt]⟩
theorem q?{it t:_V}{i:Nat}{items:Array _T}{Q:_K}(hh:A.handled=none)(hit:s.heap.IsTupleIter it t i)(ht:s.heap.IsTuple t items)(hx:items[i]?=none)(hE:∀h' e,Heap.ExtBut it s.heap h'->(∃o,h'.get? e=some o/\o.cls=.type "StopIteration")->E (.ref e) {s with heap:=h'}):wpAny (model prog w) A (Builtin.SmallTypes.nextOf (.ref it)) Q E s:=by
 obtain⟨oi,HQ,ci,di⟩:=id hit;obtain⟨ot,QB,_,nt,dt⟩:=ht;unfold Builtin.SmallTypes.nextOf;refine Vh (Wt (name:=Str.ofString "__next__") hit.typeIs Xm (Ws Xm hit.typeIs Z5 ?_ (ZY _)));show wpAny _ _ (field (.ref it) 0 >>= _) _ _ s;refine Vh (WN HQ di (x:=.ref t) rfl ?_);show wpAny _ _ (if(Value.ref t==Value.none)=true then _ else _) _ _ s;rw[Vv (show ¬ ((Value.ref t==Value.none)=true)from Vs)];show wpAny _ _ (field (.ref it) 1 >>= _) _ _ s;refine Vh (WN HQ di (x:=.int i 0) rfl ?_);show wpAny _ _ (seqItems? (.ref t) >>= _) _ _ s;refine Vh (Wn QB dt ?_);simp only[VR,hx];refine Vh (X2 (Vh (Y1 HQ di (by simp) ?_)));show wpAny _ _ (newExc (.type "StopIteration") [] >>= _) _ _ _;refine Vh ?_;simp only[newExc,newTuple];refine Vh (WT ?_ (by size_fits));refine Vh (m:=firstArgMember _ _) (wpAny_of_eq (a:=Value.none) (by first|rfl|(simp only[firstArgMember];rfl)) ?_);refine WT ?_ (by size_fits);simp only[raiseNew];refine Vh (wpAny_handled ?_)
 first|rw[show A.in1.handled=none from hh]|rw[hh]
 refine Vh (Vr (wpAny_throw ?_));exact hE _ _ (((Yb ..).extBut.push _).push _) ⟨_,VA _ rfl,rfl⟩
theorem il{b:Bool}{it t:_V}{i:Nat}{items:Array _T}{x:_T}{Q:_K}(hit:cI b s.heap it t i)(ht:gO b s.heap t items)(hx:items[i]?=some x)(hQ:∀h',cI b h' it t (i+1)->Heap.SameBut it s.heap h'->Q x {s with heap:=h'}):wpAny (model prog w) A (Builtin.SmallTypes.nextOf (.ref it)) Q E s:=by
 cases b with
 |true=>exact wpAny_nextOf_list_item hit ht hx hQ
 |false=>exact pw hit ht hx hQ
theorem nD{b:Bool}{it t:_V}{i:Nat}{items:Array _T}{Q:_K}(hh:A.handled=none)(hit:cI b s.heap it t i)(ht:gO b s.heap t items)(hx:items[i]?=none)(hE:∀h' e,Heap.ExtBut it s.heap h'->(∃o,h'.get? e=some o/\o.cls=.type "StopIteration")->E (.ref e) {s with heap:=h'}):wpAny (model prog w) A (Builtin.SmallTypes.nextOf (.ref it)) Q E s:=by
 cases b with
 |true=>exact wpAny_nextOf_list_end hh hit ht hx hE
 |false=>exact q? hh hit ht hx hE
end
abbrev px(b:Bool)(l:_V):Obj:={cls:=.type (match b with|true => "list_iterator"|false => "tuple_iterator"),data:=.fields #[.ref l,.int 0 0]}
section
variable{prog:_X}{w:World}{A:_W}{E:_K}{s:_U}
theorem cI.new(b:Bool){h:Heap}{i l:_V}(e:h.get? i=some (px b l)):cI b h i l 0:=by
 cases b with
 |true=>exact⟨_,e,rfl,rfl⟩
 |false=>exact⟨_,e,rfl,rfl⟩
theorem pz{b:Bool}{l:_V}{xs:Array _T}{Q:_K}(h:gO b s.heap l xs)(hQ:Q (.ref s.heap.objs.size) {s with heap:=s.heap.push (px b l)}):wpAny (model prog w) A (pyIter (.ref l)) Q E s:=by
 cases b with
 |true=>exact XT h hQ
 |false=>exact Yk h hQ
theorem FK{b1 b2:Bool}{z TI TO i1 i2 l1 l2:_V}{k1 k2:Nat}{xs ys:Array _T}{x y a b:_T}{Q:_K}(D:ZipApart z TI TO i1 i2 l1 l2)(hz:IsZip s.heap z TI TO .none)(uf:IsPair s.heap TI (.ref i1) (.ref i2))(u!:IsPair s.heap TO a b)(h1:cI b1 s.heap i1 l1 k1)(h2:cI b2 s.heap i2 l2 k2)(ET:gO b1 s.heap l1 xs)(Cg:gO b2 s.heap l2 ys)(hx:xs[k1]?=some x)(hy:ys[k2]?=some y)
  (hQ:∀ h',IsZip h' z TI TO (rawInt s.heap.objs.size)->IsPair h' TO x y->cI b1 h' i1 l1 (k1+1)->cI b2 h' i2 l2 (k2+1)->IsPair h' s.heap.objs.size x y ->
   (∀c o,c≠z->c≠TO->c≠i1->c≠i2->s.heap.get? c=some o->h'.get? c=some o)->Q (.ref s.heap.objs.size) {s with heap:=h'}):
  wpAny (model prog w) A (Builtin.«zip.__next__» ⟨[.ref z],[]⟩) (fun fin s'=>∃v,fin=.done (.ret v)/\Q v s') E s:=by
 show wpAny _ _ (field (.ref z) 2 >>= _) _ _ _;refine Vh (WN hz rfl (x:=.bool false) rfl ?_);show wpAny _ _ (field (.ref z) 3 >>= _) _ _ _;refine Vh (WN hz rfl (x:=.ref TI) rfl (Vh (Wn uf rfl ?_)));show wpAny _ _ (Builtin.SmallTypes.ownedTupleIsFree (.ref z) >>= _) _ _ _;refine Vh ?_;unfold Builtin.SmallTypes.ownedTupleIsFree;refine Vh (WN hz rfl (x:=.none) rfl (Vr ?_));simp only[if_true];refine Vh (X2 (Vh (WN hz rfl (x:=.ref TO) rfl (Vh (W! hz (by simp) fun g₁ nE s₁=>?_)))));replace nE:IsZip g₁ z TI TO .ellipsis:=nE;refine Vh ?_;simp only[List.zipIdx_cons,List.zipIdx_nil,List.forIn_cons,List.forIn_nil];refine Vh (Vh (Zb ?_));show wpAny _ _ (Builtin.SmallTypes.nextOf (.ref i1) >>= _) _ _ _;refine Vh (il (b:=b1) (h1.keep fun o e=>s₁.extBut _ o D.i1z e) (ET.keep fun o e=>s₁.extBut _ o D.l1z e) hx fun g₂ q₁ s₂=>Vr ?_);have t₂:IsPair g₂ TO a b:=s₂.extBut _ _ D.TOi1 (s₁.extBut _ _ D.TOz u!);refine Vh (Wn t₂ rfl (Vh (Y0 t₂ fun g₃ t₃ s₃=>?_)));replace t₃:IsPair g₃ TO x b:=t₃;refine Vh (XI (Vr (Vh (Vh (Zb ?_)))));show wpAny _ _ (Builtin.SmallTypes.nextOf (.ref i2) >>= _) _ _ _;refine Vh (il (b:=b2) (h2.keep fun o e=>s₃.extBut _ o D.TOi2.symm (s₂.extBut _ o D.i12.symm (s₁.extBut _ o D.i2z e))) (Cg.keep fun o e=>s₃.extBut _ o D.l2TO (s₂.extBut _ o D.l2i1 (s₁.extBut _ o D.l2z e))) hy fun g₄ q₂ s₄=>Vr ?_);have t₄:IsPair g₄ TO x b:=s₄.extBut _ _ D.TOi2 t₃;refine Vh (Wn t₄ rfl (Vh (Y0 t₄ fun g₅ t₅ s₅=>?_)));replace t₅:IsPair g₅ TO x y:=t₅;refine Vh (XI (Vr (Vr (Vh (Wn t₅ rfl (Vh (wpAny_newTuple ?_)))))));have sz:g₅.objs.size=s.heap.objs.size:=by rw[s₅.1,s₄.1,s₃.1,s₂.1,s₁.1]
 have z₅:IsZip g₅ z TI TO .ellipsis:=s₅.extBut _ _ D.TOz.symm (s₄.extBut _ _ D.i2z.symm (s₃.extBut _ _ D.TOz.symm (s₂.extBut _ _ D.i1z.symm nE)));have kp:∀c o,c≠z->c≠TO->c≠i1->c≠i2->s.heap.get? c=some o->g₅.get? c=some o:=fun c o n1 n2 n3 n4 e=>s₅.extBut _ _ n2 (s₄.extBut _ _ n4 (s₃.extBut _ _ n2 (s₂.extBut _ _ n3 (s₁.extBut _ _ n1 e))));have p₁:cI b1 g₅ i1 l1 (k1+1):=q₁.keep fun o e=>s₅.extBut _ o D.TOi1.symm (s₄.extBut _ o D.i12 (s₃.extBut _ o D.TOi1.symm e));have p₂:cI b2 g₅ i2 l2 (k2+1):=q₂.keep fun o e=>s₅.extBut _ o D.TOi2.symm e;have Ta:z<g₅.objs.size:=Vu z₅;show wpAny _ _ (Builtin.SmallTypes.ownedTupleHandOut (.ref z) (.ref g₅.objs.size) >>= _) _ _ _;refine Vh ?_;unfold Builtin.SmallTypes.ownedTupleHandOut;have z₆:IsZip (g₅.push {cls:=.type "tuple",data:=.seq #[x,y]}) z TI TO .ellipsis:=Vj _ z₅;refine Vh (W! z₆ (by simp) fun g₇ z₇ s₇=>?_);replace z₇:IsZip g₇ z TI TO (rawInt g₅.objs.size):=z₇;refine W! z₇ (by simp) fun g₈ z₈ s₈=>?_;replace z₈:IsZip g₈ z TI TO (rawInt g₅.objs.size):=z₈;have up:∀c o,c≠z->g₅.get? c=some o->g₈.get? c=some o:=fun c o n e=>s₈.extBut _ _ n (s₇.extBut _ _ n (Vj _ e));have t₈:IsPair g₈ g₅.objs.size x y:=s₈.extBut _ _ (WX Ta) (s₇.extBut _ _ (WX Ta) (VA _ rfl));rw[sz]at z₈ t₈;refine Vr ⟨_,rfl,?_⟩;show Q (.ref g₅.objs.size) _;rw[sz];exact hQ g₈ z₈ (up _ _ D.TOz t₅) (p₁.keep fun o e=>up _ o D.i1z e) (p₂.keep fun o e=>up _ o D.i2z e) t₈ fun c o n1 n2 n3 n4 e=>up c o n1 (kp c o n1 n2 n3 n4 e)
theorem JM{b1 b2:Bool}{z TI TO i1 i2 l1 l2:_V}{k1 k2:Nat}{xs ys:Array _T}{a b:_T}{Q:Fin->_U->Prop}(hh:A.handled=none)(D:ZipApart z TI TO i1 i2 l1 l2)(hz:IsZip s.heap z TI TO .none)(uf:IsPair s.heap TI (.ref i1) (.ref i2))(u!:IsPair s.heap TO a b)(h1:cI b1 s.heap i1 l1 k1)(h2:cI b2 s.heap i2 l2 k2)(ET:gO b1 s.heap l1 xs)(Cg:gO b2 s.heap l2 ys)(he:xs[k1]?=none\/ys[k2]?=none)(hE:∀h' e,(∀c o,c≠z->c≠TO->c≠i1->c≠i2->s.heap.get? c=some o->h'.get? c=some o)->(∃o,h'.get? e=some o/\o.cls=.type "StopIteration")->E (.ref e) {s with heap:=h'}):
  wpAny (model prog w) A (Builtin.«zip.__next__» ⟨[.ref z],[]⟩) Q E s:=by
 show wpAny _ _ (field (.ref z) 2 >>= _) _ _ _;refine Vh (WN hz rfl (x:=.bool false) rfl ?_);show wpAny _ _ (field (.ref z) 3 >>= _) _ _ _;refine Vh (WN hz rfl (x:=.ref TI) rfl (Vh (Wn uf rfl ?_)));show wpAny _ _ (Builtin.SmallTypes.ownedTupleIsFree (.ref z) >>= _) _ _ _;refine Vh ?_;unfold Builtin.SmallTypes.ownedTupleIsFree;refine Vh (WN hz rfl (x:=.none) rfl (Vr ?_));simp only[if_true];refine Vh (X2 (Vh (WN hz rfl (x:=.ref TO) rfl (Vh (W! hz (by simp) fun g₁ nE s₁=>?_)))));replace nE:IsZip g₁ z TI TO .ellipsis:=nE;refine Vh ?_;simp only[List.zipIdx_cons,List.zipIdx_nil,List.forIn_cons,List.forIn_nil];refine Vh (Vh (Zb ?_));show wpAny _ _ (Builtin.SmallTypes.nextOf (.ref i1) >>= _) _ _ _;cases hx:xs[k1]? with
 |none=>
  refine Vh (nD (b:=b1) hh (h1.keep fun o e=>s₁.extBut _ o D.i1z e) (ET.keep fun o e=>s₁.extBut _ o D.l1z e) hx fun g₂ e s₂⟨oe,JN,ce⟩=>?_);have z₂:IsZip g₂ z TI TO .ellipsis:=s₂ _ _ D.i1z.symm nE;have QC:e≠z:=fun q=>by subst q;rw[z₂]at JN;cases JN;simp at ce
  exact W! z₂ (by simp) fun g₃ _ s₃=>hE g₃ e (fun c o n1 _ n3 _ q=>s₃.extBut _ _ n1 (s₂ _ _ n3 (s₁.extBut _ _ n1 q))) ⟨oe,s₃.extBut _ _ QC JN,ce⟩
 |some x=>
  have hy:ys[k2]?=none:=by
   rcases he with q|q
   .rw[hx]at q;cases q
   .exact q
  refine Vh (il (b:=b1) (h1.keep fun o e=>s₁.extBut _ o D.i1z e) (ET.keep fun o e=>s₁.extBut _ o D.l1z e) hx fun g₂ q₁ s₂=>Vr ?_);have t₂:IsPair g₂ TO a b:=s₂.extBut _ _ D.TOi1 (s₁.extBut _ _ D.TOz u!);refine Vh (Wn t₂ rfl (Vh (Y0 t₂ fun g₃ t₃ s₃=>?_)));refine Vh (XI (Vr (Vh (Vh (Zb ?_)))));show wpAny _ _ (Builtin.SmallTypes.nextOf (.ref i2) >>= _) _ _ _;refine Vh (nD (b:=b2) hh (h2.keep fun o e=>s₃.extBut _ o D.TOi2.symm (s₂.extBut _ o D.i12.symm (s₁.extBut _ o D.i2z e))) (Cg.keep fun o e=>s₃.extBut _ o D.l2TO (s₂.extBut _ o D.l2i1 (s₁.extBut _ o D.l2z e))) hy fun g₄ e s₄⟨oe,JN,ce⟩=>?_);have z₄:IsZip g₄ z TI TO .ellipsis:=s₄ _ _ D.i2z.symm (s₃.extBut _ _ D.TOz.symm (s₂.extBut _ _ D.i1z.symm nE));have QC:e≠z:=fun q=>by subst q;rw[z₄]at JN;cases JN;simp at ce
  exact W! z₄ (by simp) fun g₅ _ s₅=>hE g₅ e (fun c o n1 n2 n3 n4 q=>s₅.extBut _ _ n1 (s₄ _ _ n4 (s₃.extBut _ _ n2 (s₂.extBut _ _ n3 (s₁.extBut _ _ n1 q))))) ⟨oe,s₅.extBut _ _ QC JN,ce⟩
theorem Az{b1 b2:Bool}{z TI TO i1 i2 l1 l2:_V}{k1 k2:Nat}{xs ys:Array _T}{x y a b:_T}{Q:_Q->_U->Prop}(D:ZipApart z TI TO i1 i2 l1 l2)(hz:IsZip s.heap z TI TO .none)(uf:IsPair s.heap TI (.ref i1) (.ref i2))(u!:IsPair s.heap TO a b)(h1:cI b1 s.heap i1 l1 k1)(h2:cI b2 s.heap i2 l2 k2)(ET:gO b1 s.heap l1 xs)(Cg:gO b2 s.heap l2 ys)(hx:xs[k1]?=some x)(hy:ys[k2]?=some y)
  (hQ:∀ h',IsZip h' z TI TO (rawInt s.heap.objs.size)->IsPair h' TO x y->cI b1 h' i1 l1 (k1+1)->cI b2 h' i2 l2 (k2+1)->IsPair h' s.heap.objs.size x y ->
   (∀c o,c≠z->c≠TO->c≠i1->c≠i2->s.heap.get? c=some o->h'.get? c=some o)->Q (some (.ref s.heap.objs.size)) {s with heap:=h'}):wpAny (model prog w) A (pyNext (.ref z)) Q E s:=by
 have tz:s.TypeIs (.ref z) "zip":=⟨_,hz,rfl⟩
 unfold pyNext;exact Vh (Zc (Wt (name:=Str.ofString "__next__") tz YW
  (Ws YW tz F.entry_zip_next (FK (b1:=b1) (b2:=b2) D hz uf u! h1 h2 ET Cg hx hy fun h' a1 a2 a3 a4 a5 a6=>Vr (hQ h' a1 a2 a3 a4 a5 a6)) (F.args_zip_next_1 _))))
theorem Cz{b1 b2:Bool}{z TI TO i1 i2 l1 l2:_V}{k1 k2:Nat}{xs ys:Array _T}{a b:_T}{Q:_Q->_U->Prop}(hh:A.handled=none)(D:ZipApart z TI TO i1 i2 l1 l2)(hz:IsZip s.heap z TI TO .none)(uf:IsPair s.heap TI (.ref i1) (.ref i2))(u!:IsPair s.heap TO a b)(h1:cI b1 s.heap i1 l1 k1)(h2:cI b2 s.heap i2 l2 k2)(ET:gO b1 s.heap l1 xs)(Cg:gO b2 s.heap l2 ys)(he:xs[k1]?=none\/ys[k2]?=none)(hQ:∀h',(∀c o,c≠z->c≠TO->c≠i1->c≠i2->s.heap.get? c=some o->h'.get? c=some o)->Q none {s with heap:=h'}):wpAny (model prog w) A (pyNext (.ref z)) Q E s:=by
 have tz:s.TypeIs (.ref z) "zip":=⟨_,hz,rfl⟩
 unfold pyNext;refine Vh (Zc (Wt (name:=Str.ofString "__next__") tz YW
  (Ws YW tz F.entry_zip_next (JM (b1:=b1) (b2:=b2) hh D hz uf u! h1 h2 ET Cg he fun h' e hk he=>?_) (F.args_zip_next_1 _))))
 obtain⟨o,ho,hc⟩:=he;exact Vh (YC (T:="StopIteration") (b:=true) ⟨o,ho,hc⟩ isSubtype_stop (Vr (hQ _ hk)))
abbrev OW(b1:Bool)(h:Heap)(l1:_V):Heap:=h.push (px b1 l1)
abbrev OX(b1 b2:Bool)(h:Heap)(l1 l2:_V):Heap:=(OW b1 h l1).push (px b2 l2)
abbrev OY(b1 b2:Bool)(h:Heap)(l1 l2:_V):Heap:=(OX b1 b2 h l1 l2).push {cls:=.type "tuple",data:=.seq #[.ref h.objs.size,.ref (OW b1 h l1).objs.size]}
abbrev OZ(b1 b2:Bool)(h:Heap)(l1 l2:_V):Heap:=(OY b1 b2 h l1 l2).push {cls:=.type "tuple",data:=.seq #[.none,.none]}
abbrev LH(b1 b2:Bool)(h:Heap)(l1 l2:_V):Heap:=(OZ b1 b2 h l1 l2).push {cls:=.type "zip",data:=.fields #[.none,.bool false,.bool false,.ref (OX b1 b2 h l1 l2).objs.size,.ref (OY b1 b2 h l1 l2).objs.size]}
theorem CA(b1 b2:Bool)(l1 l2:_V)(xs ys:Array _T):
  Meets (Builtin.«zip.__new__» ⟨[.type "zip",.ref l1,.ref l2],[]⟩) (fun _ R s=>gO b1 s.heap l1 xs/\gO b2 s.heap l2 ys/\R (.ok (.ret (.ref (OZ b1 b2 s.heap l1 l2).objs.size))) {s with heap:=LH b1 b2 s.heap l1 l2}):=
 .of_wp fun prog w A R s h=>by
  obtain⟨hp,g,d,tk,os⟩:=s;obtain⟨q1,q2,h⟩:=h;have UZ:=sub_zip;have w1:gO b1 (Shared.heap ⟨hp,g,d,tk,os⟩) l1 xs:=q1;have w2:gO b2 (Shared.heap ⟨hp.push (px b1 l1),g,d,tk,os⟩) l2 ys:=q2.keep fun o e=>Vj _ e
  wp_walk using pz w1,pz w2
  exact⟨_,rfl,h⟩
theorem CB{b1 b2:Bool}{l1 l2:_V}{xs ys:Array _T}{Q:_K}(ET:gO b1 s.heap l1 xs)(Cg:gO b2 s.heap l2 ys)
  (h:∀ h',IsZip h' (s.heap.objs.size+4) (s.heap.objs.size+2) (s.heap.objs.size+3) .none->IsPair h' (s.heap.objs.size+2) (.ref s.heap.objs.size) (.ref (s.heap.objs.size+1))->IsPair h' (s.heap.objs.size+3) .none .none ->
   cI b1 h' s.heap.objs.size l1 0->cI b2 h' (s.heap.objs.size+1) l2 0->(∀c o,s.heap.get? c=some o->h'.get? c=some o)->Q (.ref (s.heap.objs.size+4)) {s with heap:=h'}):
  wpAny (model prog w) A (call (.type "zip") [.ref l1,.ref l2]) Q E s:=by
 refine callType_new F.called_zip (by decide) (F.typeCall_zip_2 _ _) (F.newCall_zip_2 _ _) (fun obj=>F.args_object_init_3 obj _ _) F.entry_zip_new (CA b1 b2 l1 l2 xs ys) ⟨ET,Cg,?_⟩;have z1:(OW b1 s.heap l1).objs.size=s.heap.objs.size+1:=Wz ..;have z2:(OX b1 b2 s.heap l1 l2).objs.size=s.heap.objs.size+2:=by rw[Wz,z1]
 have z3:(OY b1 b2 s.heap l1 l2).objs.size=s.heap.objs.size+3:=by rw[Wz,z2]
 have z4:(OZ b1 b2 s.heap l1 l2).objs.size=s.heap.objs.size+4:=by rw[Wz,z3]
 have g5:(LH b1 b2 s.heap l1 l2).get? (OZ b1 b2 s.heap l1 l2).objs.size=some _:=VA _ rfl;have g4:(LH b1 b2 s.heap l1 l2).get? (OY b1 b2 s.heap l1 l2).objs.size=some _:=Vj _ (VA _ rfl);have g3:(LH b1 b2 s.heap l1 l2).get? (OX b1 b2 s.heap l1 l2).objs.size=some _:=Vj _ (Vj _ (VA _ rfl));have g2:(LH b1 b2 s.heap l1 l2).get? (OW b1 s.heap l1).objs.size=some (px b2 l2):=Vj _ (Vj _ (Vj _ (VA _ rfl)));have g1:(LH b1 b2 s.heap l1 l2).get? s.heap.objs.size=some (px b1 l1):=Vj _ (Vj _ (Vj _ (Vj _ (VA _ rfl))));show _/\_;rw[z2,z3,z4]at g5;rw[z1,z2]at g3;rw[z3]at g4;rw[z1]at g2;rw[z4];exact⟨⟨_,g5,rfl⟩,h _ g5 g3 g4 (.new b1 g1) (.new b2 g2) fun c o x=>Vj _ (Vj _ (Vj _ (Vj _ (Vj _ x))))⟩
end
def xx(b:Bool)(K:_N)(H:Hp)(a:_V)(xs:List V):Prop:=match b with|true=>iY K H a xs|false=>jz K H a xs
theorem aI.LJ{X:Cx}{ag:_M}{σ:St}{H:Hp}{s:_U}{b:Bool}{a:_V}{xs:List V}(I:aI X ag σ H s)(h:xx b X.K H a xs):∃aD:_P,aV xs aD/\gO b s.heap a aD.toArray/\xs.length<=sizeLine:=by
 cases b with
 |true=>obtain⟨aD,r,p,z⟩:=I.list h;exact⟨aD,r,p.isList,z⟩
 |false=>obtain⟨aD,r,p,z⟩:=I.tuple h;exact⟨aD,r,p,z⟩
theorem aI.yV{X:Cx}{ag:_M}{σ:St}{H:Hp}{s:_U}{b:Bool}{a:_V}{xs ys:List V}(I:aI X ag σ H s)(h:xx b X.K H a xs)(h':xx b X.K H a ys):xs=ys:=by
 cases b with
 |true=>exact I.kS h h'
 |false=>exact I.mn h h'
theorem aI.HR{X:Cx}{ag:_M}{σ:St}{H:Hp}{s:_U}{b:Bool}{l c:_V}{zs:List V}(I:aI X ag σ H s)(hs:xx b X.K H l zs)(f:nZ X ag H c):l≠c:=by
 intro q;have mo:∀o,X.K.lookup l=some o->False:=fun o hk=>by
  have e:=I.mod.IF l o hk;rcases f.2.2.2.1 with z|z
  .exact I.ok.E2 l o e (by rw[q];exact z)
  .exact absurd (VC (Vu (I.ok.bs l o e).1) (by rw[q];exact z)) (VY _)
 have tr:∀o,H l=some o->False:=fun o e=>by rw[q,f.1]at e;cases e
 cases b with
 |true=>
  rcases(show iY X.K H l zs from hs) with(r|⟨o,r⟩)|⟨o,aD,n,hk,_⟩
  .exact tr _ r
  .exact tr _ r
  .exact mo o hk
 |false=>
  rcases(show jz X.K H l zs from hs) with(r|⟨o,r⟩)|⟨o,aD,n,hk,_⟩
  .exact tr _ r
  .exact tr _ r
  .exact mo o hk
def Tb(K:_N)(b1 b2:Bool)(a b:_V):It:=
 ⟨fun i H=>∃xs ys x y,xx b1 K H a xs/\xx b2 K H b ys/\xs[i]?=some x/\ys[i]?=some y,
  fun i H v H'=>∃p x y,v=.ref p/\H p=none/\H'=upd H p (.tup [x,y])/\(∀xs,xx b1 K H a xs->xs[i]?=some x)/\∀ys,xx b2 K H b ys->ys[i]?=some y,
  fun i H=>∃xs ys,xx b1 K H a xs/\xx b2 K H b ys/\(xs.length<=i\/ys.length<=i)⟩
theorem CC{P:_X}{w:World}{K:_N}{elts:List Expr}{kt:Nat}{tp:Pos}{b1 b2:Bool}{z TI TO i1 i2:_V}(a b:_V)(ne:z≠TI/\z≠TO/\z≠i1/\z≠i2/\TI≠TO/\TI≠i1/\TI≠i2/\TO≠i1/\TO≠i2/\i1≠i2):
  Turn P w K (.Tuple elts kt tp) (Tb K b1 b2 a b) [z,TI,TO,i1,i2] z (fun i h=>IsZip h z TI TO .none/\IsPair h TI (.ref i1) (.ref i2)/\(∃u v,IsPair h TO u v)/\cI b1 h i1 a i/\cI b2 h i2 b i) where
 mem:=by simp
 obj:=fun i h⟨hz,uf,⟨u,v,u!⟩,h1,h2⟩c hc=>by
  have bQ:c=z\/c=TI\/c=TO\/c=i1\/c=i2:=by simpa using hc
  rcases bQ with rfl|rfl|rfl|rfl|rfl
  .exact⟨_,hz,fun v q=>by have q':Data.fields _=Data.cell v:=q;cases q'⟩
  .exact⟨_,uf,fun v q=>by have q':Data.seq _ _=Data.cell v:=q;cases q'⟩
  .exact⟨_,u!,fun v q=>by have q':Data.seq _ _=Data.cell v:=q;cases q'⟩
  .obtain⟨o,n,vs,e,_,d⟩:=h1.there;exact⟨o,e,fun v q=>by rw[d]at q;cases q⟩
  .obtain⟨o,n,vs,e,_,d⟩:=h2.there;exact⟨o,e,fun v q=>by rw[d]at q;cases q⟩
 keep:=fun i h h'⟨hz,uf,⟨u,v,u!⟩,h1,h2⟩k=>⟨k z (by simp) _ hz,k TI (by simp) _ uf,⟨u,v,k TO (by simp) _ u!⟩,h1.keep fun o e=>k i1 (by simp) o e,h2.keep fun o e=>k i2 (by simp) o e⟩
 item:=by
  intro X hP hw hK hc i ag s σ H E I hf st hg;subst hP hw hK;obtain⟨hz,uf,⟨u,v,u!⟩,h1,h2⟩:=st;obtain⟨xs,ys,x,y,sx,sy,ex,ey⟩:=hg;obtain⟨aD,rv,p,_⟩:=I.LJ sx;obtain⟨cy,LK,p2,_⟩:=I.LJ sy;obtain⟨ux,Nd,rx⟩:=rv.get ex;obtain⟨uy,U0,ry⟩:=LK.get ey;obtain⟨n1,n2,n3,n4,n5,n6,n7,n8,n9,QD⟩:=ne;have fz:=hf z (by simp);have fc:∀{b:Bool}{l:_V}{zs:List V},xx b X.K H l zs->∀c∈[z,TI,TO,i1,i2],l≠c:=fun{b l zs}hs c bQ=>I.HR hs (hf c bQ);have D:ZipApart z TI TO i1 i2 a b:=⟨n1.symm,n2.symm,n3.symm,n4.symm,n5,n6,n7,n8,n9,QD,fc sx z (by simp),fc sx TO (by simp),fc sx i1 (by simp),fc sx i2 (by simp),fc sy z (by simp),fc sy TO (by simp),fc sy i1 (by simp),fc sy i2 (by simp)⟩
  refine Az (b1:=b1) (b2:=b2) D hz uf u! h1 h2 p p2 (x:=ux) (y:=uy) (by simpa using Nd) (by simpa using U0) fun h' a1 a2 a3 a4 a5 a6=>⟨_,rfl,?_⟩
  have hT:H s.heap.objs.size=none:=I.bH.fresh (Vp _);have JO:∀c∈[z,TO,i1,i2],H c=none:=fun c bQ=>(hf c (by simp at bQ⊢;rcases bQ with q|q|q|q<;>simp[q])).1;have kp:∀c o,c ∉ [z,TO,i1,i2]->s.heap.get? c=some o->h'.get? c=some o:=fun c o bQ e=>a6 c o (fun q=>bQ (by simp[q])) (fun q=>bQ (by simp[q])) (fun q=>bQ (by simp[q])) (fun q=>bQ (by simp[q])) e;have se:∀c o,H c=some o->c ∉ [z,TO,i1,i2]:=fun c o e bQ=>by rw[JO c bQ]at e;cases e
  have bH:g6 X.prog X.w (upd H s.heap.objs.size (.tup [x,y])) h':=fun c o e=>by
   by_cases HS:c=s.heap.objs.size
   .subst HS;rw[a!]at e;cases e;exact⟨by show 2<=sizeLine;decide,[ux,uy],.cons rx (.cons ry .nil),_,a5,rfl,_,rfl⟩
   .rw[aM HS]at e;refine(I.bH c o e).nW (fun d v hd q=>kp d v ?_ q) (fun d q=>by rw[aM (aN q hT)];exact q) fun d zs q=>by rw[aM (aN q hT)];exact q
    rcases hd with q'|q'
    .rw[q'];exact se c o e
    .exact se d _ q'
  have un:Un (gG X.stack) [z,TO,i1,i2] H (upd H s.heap.objs.size (.tup [x,y])) s.heap h':=
   ⟨fun c o e n _ bQ=>kp c o bQ e,fun c o e n _ bQ=>⟨o.slots,kp c o bQ e⟩,fun c o e n bQ=>by rw[aM (VN (Vu e))];exact n,fun c o e bQ=>⟨o,kp c o bQ e⟩,
    fun c zs e=>by rw[aM (aN e hT)];exact e,fun c o u e=>by rw[aM (aN e hT)];exact e,fun c ps e=>⟨#[],by rw[aM (aN e hT),e];simp⟩⟩
  have I1:aI X ag σ (upd H s.heap.objs.size (.tup [x,y])) {s with heap:=h'}:=I.vh rfl un bH I.bare fun c bQ=>by obtain⟨f0,f1,f2,f3,f4,f5⟩:=hf c (by simp at bQ⊢;rcases bQ with q|q|q|q<;>simp[q]);exact⟨f3,f1,f4,f5⟩
  have QE:∀c∈[z,TI,TO,i1,i2],c≠s.heap.objs.size:=fun c bQ q=>by
   have kQ:c<s.heap.objs.size:=by
    have CD:c=z\/c=TI\/c=TO\/c=i1\/c=i2:=by simpa using bQ
    rcases CD with r|r|r|r|r
    .rw[r];exact Vu hz
    .rw[r];exact Vu uf
    .rw[r];exact Vu u!
    .obtain⟨o,_,_,e,_⟩:=h1.there;rw[r];exact Vu e
    .obtain⟨o,_,_,e,_⟩:=h2.there;rw[r];exact Vu e
   exact absurd kQ (by rw[q];exact VY _)
  have HU:∀c∈[z,TI,TO,i1,i2],(upd H s.heap.objs.size (.tup [x,y])) c=none:=fun c bQ=>by rw[aM (QE c bQ)];exact(hf c bQ).1
  refine wpAny_letOwnedTupleGo_zip a1 fun CF QF sb=>?_;obtain⟨f0,f1,f2,f3,f4,f5⟩:=fz;have I2:aI X ag σ (upd H s.heap.objs.size (.tup [x,y])) {s with heap:=CF}:=I1.turned (s:={s with heap:=h'}) (t':=s.toks) (it:=z) (fun c o bQ e=>(sb.2 c bQ).trans e) (HU z (by simp)) f1 f3 f4 f5;refine⟨.ref s.heap.objs.size,_,I2,rfl,⟨_,x,y,rfl,hT,rfl,fun zs hs=>by rw[I.yV hs sx];exact ex,fun zs hs=>by rw[I.yV hs sy];exact ey⟩,⟨QF,?_,⟨_,_,sb.extBut _ _ n2.symm a2⟩,a3.keep fun o e=>sb.extBut _ o n3.symm e,a4.keep fun o e=>sb.extBut _ o n4.symm e⟩,HU⟩;exact sb.extBut _ _ n1.symm (a6 _ _ n1.symm n5 n6 n7 uf)
 done:=by
  intro X hP hw hK hc i ag s σ H E I hf st hg;subst hP hw hK;obtain⟨hz,uf,⟨u,v,u!⟩,h1,h2⟩:=st;obtain⟨xs,ys,sx,sy,hl⟩:=hg;obtain⟨aD,rv,p,_⟩:=I.LJ sx;obtain⟨cy,LK,p2,_⟩:=I.LJ sy;have l1:=rv.length;have l2:=LK.length;obtain⟨n1,n2,n3,n4,n5,n6,n7,n8,n9,QD⟩:=ne;have fc:∀{b:Bool}{l:_V}{zs:List V},xx b X.K H l zs->∀c∈[z,TI,TO,i1,i2],l≠c:=fun{b l zs}hs c bQ=>I.HR hs (hf c bQ);have D:ZipApart z TI TO i1 i2 a b:=⟨n1.symm,n2.symm,n3.symm,n4.symm,n5,n6,n7,n8,n9,QD,fc sx z (by simp),fc sx TO (by simp),fc sx i1 (by simp),fc sx i2 (by simp),fc sy z (by simp),fc sy TO (by simp),fc sy i1 (by simp),fc sy i2 (by simp)⟩
  refine Cz (b1:=b1) (b2:=b2) (I.ok.hd hc) D hz uf u! h1 h2 p p2 (by rcases hl with q|q;exact .inl (by simp;lia);exact .inr (by simp;lia)) fun h' a6=>⟨rfl,?_⟩
  have JO:∀c∈[z,TO,i1,i2],H c=none:=fun c bQ=>(hf c (by simp at bQ⊢;rcases bQ with q|q|q|q<;>simp[q])).1;have kp:∀c o,c ∉ [z,TO,i1,i2]->s.heap.get? c=some o->h'.get? c=some o:=fun c o bQ e=>a6 c o (fun q=>bQ (by simp[q])) (fun q=>bQ (by simp[q])) (fun q=>bQ (by simp[q])) (fun q=>bQ (by simp[q])) e;have se:∀c o,H c=some o->c ∉ [z,TO,i1,i2]:=fun c o e bQ=>by rw[JO c bQ]at e;cases e
  have bH:g6 X.prog X.w H h':=fun c o e=>by
   refine(I.bH c o e).nW (fun d v hd q=>kp d v ?_ q) (fun d q=>q) fun d zs q=>q;rcases hd with q'|q'
   .rw[q'];exact se c o e
   .exact se d _ q'
  have un:Un (gG X.stack) [z,TO,i1,i2] H H s.heap h':=
   ⟨fun c o e n _ bQ=>kp c o bQ e,fun c o e n _ bQ=>⟨o.slots,kp c o bQ e⟩,fun c o e n bQ=>n,fun c o e bQ=>⟨o,kp c o bQ e⟩,fun c zs e=>e,fun c o u e=>e,fun c ps e=>⟨#[],by rw[e];simp⟩⟩
  exact I.vh rfl un bH I.bare fun c bQ=>by obtain⟨f0,f1,f2,f3,f4,f5⟩:=hf c (by simp at bQ⊢;rcases bQ with q|q|q|q<;>simp[q]);exact⟨f3,f1,f4,f5⟩
 self:=fun _ _ _ _ _ st h=>wpAny_pyIter_zip st.1 h
section
variable{X:Cx}{elts:List Expr}{kt:Nat}{tp p pos:Pos}
def QG(K:_N)(b1 b2:Bool)(ta:TA):TI:=fun σ H R=>ta σ H fun vs H1=>∃a b,vs=[.ref a,.ref b]/\(∃xs,xx b1 K H1 a xs)/\(∃ys,xx b2 K H1 b ys)/\R (Tb K b1 b2 a b) H1
theorem JP(b1 b2:Bool){ea eb:Expr}{ta:TA}(hg:Gl X "zip")(hm:X.mg "zip" = none)(ha:PA X [ea,eb] ta)(hs:starEach [ea,eb] X.env=[(false,eval ea X.env),(false,eval eb X.env)]:=by rfl)(cL:starEach [eb] X.env=[(false,eval eb X.env)]:=by rfl):
  PI X (.Tuple elts kt tp) (.Call (.Name "zip" p) [ea,eb] [] pos) (QG X.K b1 b2 ta):=by
 intro ag s σ H R I h;refine Call_ (i! I hg hm boot_zip (WH (cJ (ha pos ag s σ H _ I h) fun us s1⟨vs,H1,I1,r1,q1⟩=>?_) (by rw[hs,cL]) (by rw[cL];rfl)));obtain⟨a,b,e,⟨xs,sx⟩,⟨ys,sy⟩,q⟩:=q1;subst e;obtain⟨u,u2,rfl,ru,U1⟩:=vals2 r1;cases ru;cases U1;obtain⟨aD,rv,p1,_⟩:=I1.LJ sx;obtain⟨cy,LK,p2,_⟩:=I1.LJ sy;refine CB (b1:=b1) (b2:=b2) p1 p2 fun h' hz uf u! g1 g2 kp=>wpAny_pyIter_zip hz ?_;have I2:aI X ag σ H1 {s1 with heap:=h'}:=I1.kept (t':=s1.toks) kp;refine⟨_,[s1.heap.objs.size+4,s1.heap.objs.size+2,s1.heap.objs.size+3,s1.heap.objs.size,s1.heap.objs.size+1],_,_,H1,rfl,I2,CC (b1:=b1) (b2:=b2) a b ?_,⟨hz,uf,⟨_,_,u!⟩,g1,g2⟩,fun c hc=>?_,q⟩
 .refine⟨?_,?_,?_,?_,?_,?_,?_,?_,?_,?_⟩<;>(intro z;have z':(_:Nat)=_:=z;lia)
 .have hle:s1.heap.objs.size<=c:=by
   have bQ:c=s1.heap.objs.size+4\/c=s1.heap.objs.size+2\/c=s1.heap.objs.size+3\/c=s1.heap.objs.size\/c=s1.heap.objs.size+1:=by simpa using hc
   rcases bQ with r|r|r|r|r<;>(rw[r];first|exact Vp _|exact Y9 _ _)
  exact I1.wZ hle (I1.bH.fresh hle)
end
theorem bE.there{P:_X}{w:World}{H:Hp}{h:Heap}{a:_V}{o:HO}(x:bE P w H h a o):∃ob,h.get? a=some ob:=by
 cases o with
 |lst xs=>obtain⟨_,_,_,_,e⟩:=x;exact⟨_,e⟩
 |tup xs=>obtain⟨_,_,_,ob,e,_⟩:=x;exact⟨_,e⟩
 |dK ay=>obtain⟨_,_,_,_,o,_,_,e,_⟩:=x;exact⟨_,e⟩
 |dT ay=>obtain⟨_,_,_,_,o,_,_,e,_⟩:=x;exact⟨_,e⟩
 |set S n=>obtain⟨o,_,_,_,e,_⟩:=x;exact⟨_,e⟩
 |ins C dx fs=>obtain⟨_,_,_,e,_⟩:=x;exact⟨_,e⟩
 |own y=>obtain⟨_,e⟩:=x;exact⟨_,e⟩
 |xd fs=>obtain⟨_,⟨_,_,_,e,_⟩,_⟩:=x;exact⟨_,e⟩
 |OE lo hi=>obtain⟨_,_,_,e⟩:=x;exact⟨_,e⟩
 |gE ob u=>obtain⟨e,_⟩:=x;exact⟨_,e⟩
 |EL ps=>exact⟨_,(show h.get? a=some _ from x)⟩
 |met f y=>exact⟨_,(show h.get? a=some _ from x)⟩
 |ext φ=>obtain⟨_,e,_⟩:=x;exact e
structure U2(P:_X)(w:World)(l:List Env)(H H':Hp)(s s':_U)(ea:_V)(cls:_T):Prop where
 os:s'.os=s.os
 bare:AllBare s'.gens
 un:Un (gG l) [] H H' s.heap s'.heap
 bH:g6 P w H' s'.heap
 fl:∃(B:Heap)(t:_V),Heap.FlyingW B l ea cls (.ref t) s'.heap/\(∀b,H' b≠none->∃o,B.get? b=some o)/\(∀b o,s.heap.get? b=some o->b ∉ gG l->∃o',B.get? b=some o')
def jA(P:_X)(w:World):wN:=fun outer H s E e s'=>∃ea cls H',e=.ref ea/\U2 P w outer H H' s s' ea cls/\E cls none H'
section
variable{P:_X}{w:World}{K:_N}{mg:_L}{base:Heap}{N:_S}{qual:Str}{scope:Scope}{f:_V}{cd:_T}{A:_W}{outer:List Env}{s₀:_U}{H₀:Hp}{E:XK}
theorem vz{env:Env}{L:_V}(hf:env.frame=some L)(l:List Env):gG (env::l)=L::gG l:=by unfold gG;rw[Yx,hf]
theorem AA{ag:_M}{σ:St}{H:Hp}{s:_U}{h':Heap}{e:_V}{cls:_T}{vs:_P}(I:aI (fY (jA P w) P w K mg base N qual scope f cd A outer s₀ H₀ E) ag σ H s)(hx:Heap.MadeExcOf s.heap h' e cls vs)(hE:E cls none H):(fY (jA P w) P w K mg base N qual scope f cd A outer s₀ H₀ E).xe (.ref e) {s with heap:=h'}:=by
 have wY:=I.stack;have yM:=I.tR;have QH:(A.deeper (envOfC qual scope s₀.heap.objs.size f cd)).frames=some (envOfC qual scope s₀.heap.objs.size f cd::outer):=I.ok.frames;have Nf:gG (envOfC qual scope s₀.heap.objs.size f cd::outer)=s₀.heap.objs.size::gG outer:=vz rfl outer;have HV:∀env∈(envOfC qual scope s₀.heap.objs.size f cd::outer),∀b,env.frame=some b->b∈gG (envOfC qual scope s₀.heap.objs.size f cd::outer):=fun env he b hb=>ZU.mpr ⟨env,he,hb⟩;have JQ:∀b o,s₀.heap.get? b=some o->b ∉ gG outer->b ∉ gG (envOfC qual scope s₀.heap.objs.size f cd::outer):=fun b o q hb hm=>by
  rw[Nf]at hm;rcases VH.mp hm with z|z
  .exact absurd (Vu q) (by rw[z];exact VY _)
  .exact hb z
 refine wpAny_leaves_madeW (base:=W.hideAll s.heap (gG (envOfC qual scope s₀.heap.objs.size f cd::outer))) (h:=s.heap) QH rfl (fun b o q=>_c _ q) (W.funFrames_hide wY HV) hx fun CF t fl _ _ up=>?_;have stays:∀b o,s.heap.get? b=some o->b ∉ gG (envOfC qual scope s₀.heap.objs.size f cd::outer)->CF.get? b=some o:=fun b o q hb=>fl.1 b o (X1 _ q hb);have se:∀b u,H b=some u->b ∉ gG (envOfC qual scope s₀.heap.objs.size f cd::outer):=fun b u q hb=>by rw[yM b hb]at q;cases q
 have slot:∀b o,s₀.heap.get? b=some o->H₀ b=none->b∈gG outer->∃sl,CF.get? b=some {o with slots:=sl}:=fun b o q n hb=>by obtain⟨sl,e1⟩:=I.base.slot b o q n hb (by intro z;cases z);obtain⟨_,o',tP,QI⟩:=wY.mem (show b∈gG (envOfC qual scope s₀.heap.objs.size f cd::outer) by rw[Nf];exact Vk _ hb);rw[e1]at tP;cases tP;obtain⟨L',e2⟩:=up b _ (hx.keeps _ _ e1) QI;exact⟨L',e2⟩
 have nil:∀b:_V,b ∉ (fY (jA P w) P w K mg base N qual scope f cd A outer s₀ H₀ E).ex:=fun b z=>by cases z
 refine⟨e,cls,H,rfl,⟨I.os,I.bare,⟨fun b o q n hb _=>stays b o (I.base.keep b o q n hb (nil b)) (JQ b o q hb),fun b o q n hb _=>slot b o q n hb,fun b o q n _=>I.base.free b o q n (nil b),fun b o q _=>?_,I.base.mh,I.base.kR,I.base.nX⟩,fun b u q=>?_,W.hideAll s.heap (gG (envOfC qual scope s₀.heap.objs.size f cd::outer)),t,fl,fun b hb=>?_,fun b o q hb=>?_⟩,hE⟩
 .by_cases hb:b∈gG outer
  .obtain⟨sl,e1⟩:=slot b o q (I.ok.IG b hb) hb;exact⟨_,e1⟩
  .obtain⟨o',e1⟩:=I.base.there b o q (nil b);exact⟨o',stays b o' e1 (JQ b o q hb)⟩
 .refine(I.bH b u q).nW (fun c v hc z=>stays c v z ?_) (fun _ z=>z) fun _ _ z=>z;rcases hc with z'|z'
  .rw[z'];exact se b u q
  .exact se c _ z'
 .cases q:H b with
  |none=>exact absurd q hb
  |some u=>
   obtain⟨o,e1⟩:=(I.bH b u q).there;exact⟨o,X1 _ e1 (se b u q)⟩
 .obtain⟨o',e1⟩:=I.base.there b o q (nil b);exact⟨o',X1 _ e1 (JQ b o q hb)⟩
theorem pA:Passes (jA P w) (fY (jA P w) P w K mg base N qual scope f cd A outer s₀ H₀ E) E:=by
 rintro ag σ H s e s' I ⟨ea,cls,H',rfl,Z,hE⟩;obtain⟨B,t,fl,ct,cs⟩:=Z.fl;have QH:(A.deeper (envOfC qual scope s₀.heap.objs.size f cd)).frames=some (envOfC qual scope s₀.heap.objs.size f cd::outer):=I.ok.frames;have Nf:gG (envOfC qual scope s₀.heap.objs.size f cd::outer)=s₀.heap.objs.size::gG outer:=vz rfl outer;have JQ:∀b o,s₀.heap.get? b=some o->b ∉ gG outer->b ∉ gG (envOfC qual scope s₀.heap.objs.size f cd::outer):=fun b o q hb hm=>by
  rw[Nf]at hm;rcases VH.mp hm with z|z
  .exact absurd (Vu q) (by rw[z];exact VY _)
  .exact hb z
 have sub:∀b,b∈gG outer->b∈gG (envOfC qual scope s₀.heap.objs.size f cd::outer):=fun b hb=>by rw[Nf];exact Vk _ hb
 have nil:∀b:_V,b ∉ (fY (jA P w) P w K mg base N qual scope f cd A outer s₀ H₀ E).ex:=fun b z=>by cases z
 refine wpAny_leaves_onW QH rfl fl fun CF QJ up=>?_;have Tc:∀b o,s'.heap.get? b=some o->(∃o',B.get? b=some o')->CF.get? b=some o:=fun b o q⟨o',z⟩=>by have q':=fl.1 b o' z;rw[q]at q';cases q';exact QJ.1 b o z
 have slot:∀b o,s₀.heap.get? b=some o->H₀ b=none->b∈gG outer->∃sl,CF.get? b=some {o with slots:=sl}:=fun b o q n hb=>by obtain⟨sl,e1⟩:=I.base.slot b o q n hb (nil b);obtain⟨MP,e2⟩:=Z.un.slot b _ e1 (I.base.free b o q n (nil b)) (sub b hb) (by intro z;cases z);obtain⟨_,o',tP,QI⟩:=fl.2.2.1.mem (sub b hb);rw[e2]at tP;cases tP;obtain⟨L',e3⟩:=up b _ e2 QI;exact⟨L',e3⟩
 refine⟨ea,cls,H',rfl,⟨Z.os.trans I.os,Z.bare,⟨fun b o q n hb _=>?_,fun b o q n hb _=>slot b o q n hb,fun b o q n _=>?_,fun b o q _=>?_,fun b xs q=>Z.un.mh b xs (I.base.mh b xs q),fun b o u q=>Z.un.kR b o u (I.base.kR b o u q),fun b ps q=>?_⟩,fun b u q=>?_,B,t,QJ,ct,fun b o q hb=>?_⟩,hE⟩
 .have e1:=I.base.keep b o q n hb (nil b);have n1:=I.base.free b o q n (nil b);have nf:=JQ b o q hb;exact Tc b o (Z.un.keep b o e1 n1 nf (by intro z;cases z)) (cs b o e1 nf)
 .obtain⟨o',e1⟩:=I.base.there b o q (nil b);exact Z.un.free b o' e1 (I.base.free b o q n (nil b)) (by intro z;cases z)
 .by_cases hb:b∈gG outer
  .obtain⟨sl,e1⟩:=slot b o q (I.ok.IG b hb) hb;exact⟨_,e1⟩
  .obtain⟨o',e1⟩:=I.base.there b o q (nil b);obtain⟨o2,e2⟩:=cs b o' e1 (JQ b o q hb);exact⟨o2,QJ.1 b o2 e2⟩
 .obtain⟨m1,e1⟩:=I.base.nX b ps q;obtain⟨m2,e2⟩:=Z.un.nX b _ e1;exact⟨m1++m2,by rw[e2,Array.append_assoc]⟩
 .refine(Z.bH b u q).nW (fun c v hc z=>Tc c v z (ct c ?_)) (fun _ z=>z) fun _ _ z=>z;rcases hc with z'|z'
  .rw[z',q];simp
  .rw[z'];simp
 .obtain⟨o',e1⟩:=I.base.there b o q (nil b);exact cs b o' e1 (JQ b o q hb)
theorem ES.U3{x:Str}{st:Stmt}{fd:FuncData}{ps:_S}{k:Nat}{sp:Sp}(F:ES K x qual st f fd)(S:cN N ps (aH st))(len:∀vs H Q E,sp vs H Q E->vs.length=ps.length)
  (Ca:∀ (dC:_T) (A:_W) (outer:List Env) (s:_U) (H:Hp) (vs:List V) (Q:VK) (E:XK),dn k (A.deeper (envOfC qual (aH st) s.heap.objs.size f dC))->sp vs H Q E ->
   ∃t,j! (fY (jA P w) P w K mg base N qual (aH st) f dC A outer s H E) (cA st) t/\t {nx:=fun _ H'=>Q .bR H',rt:=Q} (start N vs) H):fX P w K mg base (jA P w) (k+1) f fd ps sp:=by
 obtain⟨oc,od,kV,doc,pm,an,dC,ct,BP,rfl,lk,BY⟩:=F.ex;exact ML lk BY S len fun A outer s H vs Q E hr HI=>Ca dC A outer s H vs Q E hr HI
end
theorem AB{K:_N}{h:Heap}{mg:_L}{x:Str}{C:_V}{Td:_P}{newId:String}(X:K.In h)(hb:mg x=some (.ref C))(q:W.excIn K C Td newId=true):OwnCls x C Td newId mg h:=by
 refine⟨hb,?_⟩;unfold W.excIn at q;split at q
 .rename_i dd cd sl ho;split at q
  .rename_i C' bm k0 k1 k2 k3 n k5 hm hs;simp only[WL,Wu,Y5]at q;obtain⟨⟨⟨⟨⟨rfl,rfl⟩,Ng⟩,ht⟩,bH⟩,O0⟩:=q;obtain⟨nm,bs,mro,ns,qn,hd,sn,sub,ab,col,del⟩:=cd;dsimp only at hm Ng bH O0;subst hm Ng;have U4:sl = #[k0,k1,k2,k3,some (.builtin n),k5]:=by obtain⟨l⟩:=sl;simp only at hs;rw[hs]
   subst U4;exact⟨bm,ns,nm,qn,bs,hd,sn,sub,ab,col,dd,k0,k1,k2,k3,k5,_,X _ _ ho,.of_isNs (W.isNs_of_in X bH),W.nsMap_none_of_in X bH O0,W.tail_of_in X ht⟩
  .cases q
 .cases q
def JR(E:XK)(C:_V)(t:TA):TS:=fun _ σ H=>t σ H fun vs H1=>vs.length<=sizeLine/\E (.ref C) none H1
def Raises(X:Cx)(E:XK):Prop:=∀(ag:_M)(σ:St)(H:Hp)(s:_U)(h':Heap)(e:_V)(cls:_T)(vs:_P),aI X ag σ H s->Heap.MadeExcOf s.heap h' e cls vs->E cls none H->X.xe (.ref e) {s with heap:=h'}
theorem CG{X:Cx}{E:XK}{x:Str}{C:_V}{B newId xy:String}{bm:_P}{np br pos:Pos}{e₀:Expr}{rest:List Expr}{t:TA}(hX:Raises X E)(hc:X.calm=true)(hm:X.mg x=some (.ref C))(hq:W.excIn X.K C bm newId=true)(FB:ExcBaseFacts B newId xy bm)(hg:Gl X x)(ha:PA X (e₀::rest) t)(he:starEach (e₀::rest) X.env=(false,eval e₀ X.env)::starEach rest X.env:=by rfl)(i?:(backTo br (starEach rest X.env)).any (·.1)=false:=by rfl)(hd:(x==("__debug__":Str))=false:=by decide):
  PS X (.Raise (some (.Call (.Name x np) (e₀::rest) [] br)) none pos) (JR E C t):=by
 intro ag s σ H D I h;obtain⟨tl,NS,nm,q,bs,hdct,sn,sub,ab,col,dd,k0,k1,k2,k3,k5,mN,hC,hN,O0,T⟩:=(AB I.mod.IF hm hq).obj;refine wpAny_Raise_call_subT (C:=C) (nm:=nm) (q:=q) (N:=NS) (bs:=bs) (bm:=tl) (hdct:=hdct) (sn:=sn) (sub:=sub) (ab:=ab) (col:=col) (dd:=dd) (k0:=k0) (k1:=k1) (k2:=k2) (k3:=k3) (k5:=k5)
  FB (mN:=mN) (T.hasType FB.hasBase) (I.ok.hd hc) (by rw[he];show(false || (backTo br (starEach rest X.env)).any (·.1))=false;rw[i?];rfl) O0 (oQ I hg hm ⟨rfl,?_⟩ hd)
 have hA:=ha br ag s σ H _ I h;rw[he]at hA⊢;exact X_ (cJ hA fun us s2⟨vs,H2,I2,r2,z,q2⟩=>⟨rfl,by rw[<-r2.length];exact z,I2.bk _ _ hC,hN.keeps I2.bk,T.keeps I2.bk,fun h' e Nh=>hX ag σ H2 s2 h' e _ _ I2 Nh q2⟩)
structure QK(X:Cx)(ag:_M)(σ:St)(H:Hp)(s:_U)(ea:_V)(cls:_T):Prop where
 inv:aI X ag σ H s
 fl:∃(B:Heap)(t:_V),Heap.FlyingW B X.stack ea cls (.ref t) s.heap/\(∀b,H b≠none->∃o,B.get? b=some o)/\(∀b o,X.s₀.heap.get? b=some o->b ∉ gG X.stack->b ∉ X.ex->∃o',B.get? b=some o')/\(∀p∈X.pn++ag,∃o',B.get? p.1=some o')/\(∀x c,X.env.cells.lookup x=some c->∃o,B.get? c=some o)
abbrev EK:=_T->_V->St->Hp->Prop
abbrev EH:=_T->_V->Hp->Prop
abbrev U5:=St->Hp->VK->EH->Prop
abbrev U6:=Ends->EK->St->Hp->Prop
def XP(X:Cx)(ag:_M)(EX:EK)(e:_T)(s':_U):Prop:=∃ea cls σ' H',e=.ref ea/\QK X ag σ' H' s' ea cls/\EX cls ea σ' H'
abbrev atS(σ:St)(EX:EH):EK:=fun cls ea σ' H'=>σ'=σ/\EX cls ea H'
def U7(X:Cx)(e:Expr)(t:U5):Prop:=
 ∀(ag:_M)(s:_U)(σ:St)(H:Hp)(Q:VK)(EX:EH),aI X ag σ H s->t σ H Q EX->wpAny (model X.prog X.w) X.A (eval e X.env) (EP X ag σ Q) (XP X ag (atS σ EX)) s
def QL(X:Cx)(st:List Stmt)(t:U6):Prop:=
 ∀(ag:_M)(s:_U)(σ:St)(H:Hp)(D:Ends)(EX:EK),aI X ag σ H s->t D EX σ H->wpAny (model X.prog X.w) X.A (execs st X.env) (SP X ag D) (XP X ag EX) s
def O1(lo:Int)(n:Nat):It:=⟨fun i _=>i<n,fun i H x H'=>H'=H/\x=.int (lo-i),fun i _=>n<=i⟩
theorem AD{P:_X}{w:World}{K:_N}{tg:Expr}(it:_V)(lo:Int)(n:Nat):Turn P w K tg (O1 lo n) [it] it (fun i h=>IsRangeIter h it (lo+(i:Nat)*(-1)) ((n:Int)-(i:Nat)) (-1)) where
 mem:=by simp
 obj:=fun i h st b hb=>by
  have e:b=it:=by simpa using hb
  subst e;exact⟨_,st,fun v z=>by
   have z':Data.fields _=Data.cell v:=z;cases z'⟩
 keep:=fun i h h' st k=>k it (by simp) _ st
 item:=by intro X hP hw hK hc i ag s σ H E I hf st hg;subst hP hw hK;obtain⟨f0,f1,f2,f3,f4,f5⟩:=hf it (by simp);have W:=Walks.range (prog:=X.prog) (w:=X.w) (I.ok.hd hc) it lo (-1) n;refine W.item i s _ _ hg st fun v h' tk hv az kk=>?_;obtain⟨t,rfl⟩:=hv;have I1:aI X ag σ H {s with heap:=h',toks:=tk}:=I.turned (fun b o hb e=>kk b o (by simpa using hb) e) f0 f1 f3 f4 f5;refine⟨_,rfl,yN (s:={s with heap:=h',toks:=tk}) (n:="range_iterator") az rfl rfl (by decide) ⟨.int (lo-i),H,I1,⟨t,?_⟩,⟨rfl,rfl⟩,az,fun b hb=>(hf b hb).1⟩⟩;rw[show lo+(i:Int)*(-1)=lo-(i:Int) by lia]
 done:=by intro X hP hw hK hc i ag s σ H E I hf st hg;subst hP hw hK;obtain⟨f0,f1,f2,f3,f4,f5⟩:=hf it (by simp);exact _r (I.ok.hd hc) st (by have:n<=i:=hg;lia) fun h' eb=>⟨rfl,I.turned (t':=s.toks) (fun b o hb e=>eb b o hb e) f0 f1 f3 f4 f5⟩
 self:=fun _ _ _ _ _ st h=>_t st h
section
variable{X:Cx}{tg:Expr}
theorem FL{ag:_M}{σ:St}{H:Hp}{s:_U}{R:It->Hp->Prop}{E:_K}{lo hi:Int}{t u v:Tok}{tk:Nat}(I:aI X ag σ H s)(h1:-(2 ^ 62)<=lo)(h2:lo<2 ^ 62)(h3:-(2 ^ 62)<=hi)(h4:hi<2 ^ 62)(q:R (O1 lo (lo-hi).toNat) H):wpAny (model X.prog X.w) X.A (pyIter (.ref s.heap.objs.size)) (OI X ag σ tg R) E {s with heap:=s.heap.push {cls:=.type "range",data:=.fields #[.int lo t,.int hi u,.int (-1) v]},toks:=tk}:=by
 refine wpAny_pyIter_range (IsRange.new ..) (W.small_down h1 h2 h3 h4) ?_;have I1:aI X ag σ H {s with heap:=s.heap.push {cls:=.type "range",data:=.fields #[.int lo t,.int hi u,.int (-1) v]},toks:=tk}:=I.kept fun b o e=>Vj _ e;refine⟨(s.heap.push {cls:=.type "range",data:=.fields #[.int lo t,.int hi u,.int (-1) v]}).objs.size,[(s.heap.push {cls:=.type "range",data:=.fields #[.int lo t,.int hi u,.int (-1) v]}).objs.size],_,_,H,rfl,
  I1.kept (t':=tk) fun b o e=>Vj _ e,AD _ lo (lo-hi).toNat,?_,fun b hb=>?_,q⟩
 .have e1:lo+((0:Nat):Int)*(-1)=lo:=by simp
  have e2:(((lo-hi).toNat:Nat):Int)-((0:Nat):Int)=Builtin.Range.rangeSize lo hi (-1):=by rw[W.rangeSize_downNat];lia
  show IsRangeIter _ _ (lo+((0:Nat):Int)*(-1)) ((((lo-hi).toNat:Nat):Int)-((0:Nat):Int)) (-1);rw[e1,e2];exact VA _ rfl
 .have e:b=(s.heap.push {cls:=.type "range",data:=.fields #[.int lo t,.int hi u,.int (-1) v]}).objs.size:=by simpa using hb
  subst e;exact I1.wZ (Vp _) (I1.bH.fresh (Vp _))
def Ni(ta:TA):TI:=fun σ H R=>ta σ H fun vs H1=>∃i j:Int,vs=[.int i,.int j,.int (-1)]/\(-(2 ^ 62)<=i/\i<2 ^ 62/\-(2 ^ 62)<=j/\j<2 ^ 62)/\R (O1 i (i-j).toNat) H1
theorem FO{a b c:Expr}{ta:TA}{p pos:Pos}(hg:Gl X "range")(hm:X.mg "range" = none)(ha:PA X [a,b,c] ta)(hs:starEach [a,b,c] X.env=[(false,eval a X.env),(false,eval b X.env),(false,eval c X.env)]:=by rfl)(cL:starEach [b,c] X.env=[(false,eval b X.env),(false,eval c X.env)]:=by rfl):
  PI X tg (.Call (.Name "range" p) [a,b,c] [] pos) (Ni ta):=by
 intro ag s σ H R I h;refine Call_ (i! I hg hm boot_range (WH (cJ (ha pos ag s σ H _ I h) fun us s1⟨vs,H1,I1,r1,q1⟩=>?_) (by rw[hs,cL]) (by rw[cL];rfl)));obtain⟨i,j,e,⟨q1,q2,q3,q4⟩,q⟩:=q1;subst e;cases r1 with
 |cons r rr=>
  cases rr with
  |cons r' rr=>
   cases rr with
   |cons U8 rr=>
    cases rr;obtain⟨t,rfl⟩:=r;obtain⟨t',rfl⟩:=r';obtain⟨t'',rfl⟩:=U8;refine call_range_3 (by decide) (FL I1 q1 q2 q3 q4 q) (.inl (Zx (by decide +kernel)))
end
def Te(K:_N)(a:_V):It:=
 ⟨fun i H=>∃xs x,iY K H a xs/\xs[i]?=some x,
  fun i H v H'=>∃p x,v=.ref p/\H p=none/\H'=upd H p (.tup [.int i,x])/\∀xs,iY K H a xs->xs[i]?=some x,
  fun i H=>∃xs,iY K H a xs/\xs.length<=i⟩
theorem AE{P:_X}{w:World}{K:_N}{elts:List Expr}{kt:Nat}{tp:Pos}{e it:_V}(a:_V)(ne:e≠it):
  Turn P w K (.Tuple elts kt tp) (Te K a) [e,it] e (fun i h=>(∃old,IsEnum h e it (i:Int) old)/\h.IsListIter it a i) where
 mem:=by simp
 obj:=fun i h⟨⟨old,he⟩,hi⟩c hc=>by
  have bQ:c=e\/c=it:=by simpa using hc
  rcases bQ with rfl|rfl
  .exact⟨_,he,fun v q=>by have q':Data.fields _=Data.cell v:=q;cases q'⟩
  .obtain⟨o,e',c,d⟩:=hi;exact⟨o,e',fun v z=>by rw[d]at z;cases z⟩
 keep:=fun i h h'⟨⟨old,he⟩,hi⟩k=>⟨⟨old,k e (by simp) _ he⟩,hi.at fun o e'=>k it (by simp) o e'⟩
 item:=by
  intro X hP hw hK hc i ag s σ H E I hf st hg;subst hP hw hK;obtain⟨⟨old,he⟩,hi⟩:=st;obtain⟨xs,x,sx,ex⟩:=hg;obtain⟨aD,rv,p,_⟩:=I.list sx;obtain⟨ux,Nd,rx⟩:=rv.get ex;have fz:=hf e (by simp);refine wpAny_pyNext_enum_item he hi p.isList (x:=ux) (by simpa using Nd) ne fun h' a1 a2 a3 a4 a5=>⟨_,rfl,?_⟩
  have hT:H s.heap.objs.size=none:=I.bH.fresh (Vp _);have JO:∀c∈[e,it],H c=none:=fun c bQ=>(hf c bQ).1;have kp:∀c o,c ∉ [e,it]->s.heap.get? c=some o->h'.get? c=some o:=fun c o bQ q=>a5 c o (fun z=>bQ (by simp[z])) (fun z=>bQ (by simp[z])) q;have se:∀c o,H c=some o->c ∉ [e,it]:=fun c o q bQ=>by rw[JO c bQ]at q;cases q
  have bH:g6 X.prog X.w (upd H s.heap.objs.size (.tup [.int i,x])) h':=fun c o q=>by
   by_cases HS:c=s.heap.objs.size
   .subst HS;rw[a!]at q;cases q;exact⟨by show 2<=sizeLine;decide,[.int i s.toks,ux],.cons ⟨_,rfl⟩ (.cons rx .nil),_,a3,rfl,_,rfl⟩
   .rw[aM HS]at q;refine(I.bH c o q).nW (fun d v hd z=>kp d v ?_ z) (fun d z=>by rw[aM (aN z hT)];exact z) fun d zs z=>by rw[aM (aN z hT)];exact z
    rcases hd with q'|q'
    .rw[q'];exact se c o q
    .exact se d _ q'
  have un:Un (gG X.stack) [e,it] H (upd H s.heap.objs.size (.tup [.int i,x])) s.heap h':=
   ⟨fun c o q n _ bQ=>kp c o bQ q,fun c o q n _ bQ=>⟨o.slots,kp c o bQ q⟩,fun c o q n bQ=>by rw[aM (VN (Vu q))];exact n,fun c o q bQ=>⟨o,kp c o bQ q⟩,
    fun c zs q=>by rw[aM (aN q hT)];exact q,fun c o u q=>by rw[aM (aN q hT)];exact q,fun c ps q=>⟨#[],by rw[aM (aN q hT),q];simp⟩⟩
  have I1:aI X ag σ (upd H s.heap.objs.size (.tup [.int i,x])) {s with heap:=h',toks:=s.toks+1}:=I.vh rfl un bH I.bare fun c bQ=>by obtain⟨f0,f1,f2,f3,f4,f5⟩:=hf c bQ;exact⟨f3,f1,f4,f5⟩
  have QE:∀c∈[e,it],c≠s.heap.objs.size:=fun c bQ q=>by
   have kQ:c<s.heap.objs.size:=by
    have CD:c=e\/c=it:=by simpa using bQ
    rcases CD with r|r
    .rw[r];exact Vu he
    .obtain⟨o,e',_⟩:=hi;rw[r];exact Vu e'
   exact absurd kQ (by rw[q];exact VY _)
  have HU:∀c∈[e,it],(upd H s.heap.objs.size (.tup [.int i,x])) c=none:=fun c bQ=>by rw[aM (QE c bQ)];exact(hf c bQ).1
  refine wpAny_letOwnedTupleGo_enum a1 fun CF JS sb=>?_;obtain⟨f0,f1,f2,f3,f4,f5⟩:=fz;have I2:aI X ag σ (upd H s.heap.objs.size (.tup [.int i,x])) {s with heap:=CF,toks:=s.toks+1}:=I1.turned (s:={s with heap:=h',toks:=s.toks+1}) (t':=s.toks+1) (it:=e) (fun c o bQ q=>(sb.2 c bQ).trans q) (HU e (by simp)) f1 f3 f4 f5;refine⟨.ref s.heap.objs.size,_,I2,rfl,⟨_,x,rfl,hT,rfl,fun zs hs=>by rw[I.kS hs sx];exact ex⟩,⟨⟨_,JS⟩,a2.at fun o q=>sb.extBut _ o ne.symm q⟩,HU⟩
 done:=by intro X hP hw hK hc i ag s σ H E I hf st hg;subst hP hw hK;obtain⟨⟨old,he⟩,hi⟩:=st;obtain⟨xs,sx,hl⟩:=hg;obtain⟨aD,rv,p,_⟩:=I.list sx;have l1:=rv.length;obtain⟨f0,f1,f2,f3,f4,f5⟩:=hf it (by simp);exact wpAny_pyNext_enum_end (I.ok.hd hc) he hi p.isList (by simp;lia) fun h' eb=>⟨rfl,I.turned (t':=s.toks) (fun b o hb q=>eb b o hb q) f0 f1 f3 f4 f5⟩
 self:=fun _ _ _ _ _ st h=>by obtain⟨⟨old,he⟩,hi⟩:=st;exact wpAny_pyIter_enum he h
section
variable{X:Cx}{elts:List Expr}{kt:Nat}{tp p pos:Pos}
def Nj(K:_N)(ta:TA):TI:=fun σ H R=>ta σ H fun vs H1=>∃a xs,vs=[.ref a]/\iY K H1 a xs/\R (Te K a) H1
theorem FQ{a:Expr}{ta:TA}(hg:Gl X "enumerate")(hm:X.mg "enumerate" = none)(hv:bootBuiltins "enumerate" = some (.type "enumerate"))(ha:PA X [a] ta)(hs:starEach [a] X.env=[(false,eval a X.env)]:=by rfl):
  PI X (.Tuple elts kt tp) (.Call (.Name "enumerate" p) [a] [] pos) (Nj X.K ta):=by
 intro ag s σ H R I h;refine Call_ (i! I hg hm hv (WH (cJ (ha pos ag s σ H _ I h) fun us s1⟨vs,H1,I1,r1,q1⟩=>?_) hs rfl));obtain⟨b,xs,e,hq,q⟩:=q1;subst e;obtain⟨u,rfl,ru⟩:=aV.one r1;cases ru;obtain⟨aD,rv,pl,hz⟩:=I1.list hq;refine call_enumerate_list pl.isList fun h' he hi hsz kp=>?_;have I2:aI X ag σ H1 {s1 with heap:=h'}:=I1.kept (t':=s1.toks) kp;have ne:s1.heap.objs.size+1≠s1.heap.objs.size:=by lia
 have T:=AE (P:=X.prog) (w:=X.w) (K:=X.K) (elts:=elts) (kt:=kt) (tp:=tp) (e:=s1.heap.objs.size+1) (it:=s1.heap.objs.size) b ne;refine T.self X.A 0 {s1 with heap:=h'} _ _ ⟨⟨_,he⟩,hi⟩ ?_;refine⟨s1.heap.objs.size+1,[s1.heap.objs.size+1,s1.heap.objs.size],_,_,H1,rfl,I2,T,⟨⟨_,he⟩,hi⟩,fun c hc=>?_,q⟩;have hle:s1.heap.objs.size<=c:=by
  have bQ:c=s1.heap.objs.size+1\/c=s1.heap.objs.size:=by simpa using hc
  rcases bQ with r|r<;>(rw[r];first|exact Vp _|exact Y9 _ _)
 exact I1.wZ hle (I1.bH.fresh hle)
end
section
variable{X:Cx}
theorem AF(hh:X.A.handled=none):bc X (.builtin "sum") (fun xs H Q=>∃(a:_V)(ns:_O),xs=[.ref a]/\iY X.K H a (ns.map V.int)/\Q (.int ns.sum) H):=by
 rintro ag s σ H xs ws Q I r ⟨a,ns,rfl,hs,q⟩;obtain⟨u,rfl,ru⟩:=aV.one r;cases ru;obtain⟨aD,r1,p1,_⟩:=I.list hs;have hi:=intsAre_of r1;obtain⟨xs,hx⟩:=hi.allInts.items;have U9:s.heap.IsList a (intItems xs):=hx▸p1.isList;refine sum_intListG hh U9 fun h' tk t' hk=>?_;have e1:ns=xs.toList.map (·.1):=by rw[<-nums_intItems,<-hx];exact(show numsOf aD.toArray.toList=ns from hi.numsOf).symm
 have e2:preSum (numAt xs) xs.size=ns.sum:=by rw[preSum_eq,Xe (by simp),e1]
 rw[e2];exact⟨.int ns.sum,H,I.kept hk,⟨_,rfl⟩,q⟩
end
structure oq where
 qual:Str
 params:Arguments
 body:Expr
 scope:Scope
 ps:_S
 x:Str
abbrev Fz(H:Hp)(a:_V)(o:Obj):Prop:=H a=some (.gE o (.own 0))
structure O2(L:oq)(H:Hp)(f c c':_V)(v:V):Prop where
 fn:∃pm QM,Fz H f (W.kla_obj "<lambda>" L.qual L.params L.body L.scope [(L.x,c)] pm c' QM)
 cd:∃oc vs t,Fz H c' oc/\oc.data=.fields vs/\vs[1]?=some (.str L.qual t)
 ce:∃oc u,Fz H c oc/\oc.data=.cell (some u)/\bb v u
def back(H H':Hp)(c:_V):Hp:=fun b=>if b=c then H b else H' b
def Tab(H:Hp)(T:_V)(line col:Nat)(qual:Str):Prop:=H T=some (.EL #[]) \/
 ∃c' oc vs t,H T=some (.EL #[rawInt line,rawInt col,.ref c'])/\Fz H c' oc/\oc.data=.fields vs/\vs[1]?=some (.str qual t)
theorem O2.mono{L:oq}{H H':Hp}{f c c':_V}{v:V}(C:O2 L H f c c' v)(k:∀b o u,H b=some (.gE o u)->H' b=some (.gE o u)):O2 L H' f c c' v:=by obtain⟨⟨pm,QM,h1⟩,⟨oc,vs,t,h2,h3⟩,⟨o2,u,h4,h5⟩⟩:=C;exact⟨⟨pm,QM,k _ _ _ h1⟩,⟨oc,vs,t,k _ _ _ h2,h3⟩,⟨o2,u,k _ _ _ h4,h5⟩⟩
end L2
namespace MN
open PySem.Spec L2
open PyProof.Rows hiding St
inductive ak where
 |bR|bl (b:Bool)|int (i:Int)|str (x:Str)|tup (vs:List ak)|loc (n:Nat)|exc (c:Str)|fn (L:oq) (u:ak)|mt (vs:List ak)
inductive aP where
 |lst (vs:List ak)|JT (vs:List ak)|mod (vs:List ak)|dK (ay:List (bD×ak))|dT (ay:List (List bD×ak))|tab (x:Str) (line col:Nat) (qual:Str)|ins (c:Str) (fs:List (Str×ak))|fd (ay:List (bD×ak))
abbrev ae:=List aP
abbrev Env:=List (Option ak)
inductive bI(α:Type) where
 |ok (a:α) (st:ae)|err (c:Str) (st:ae)|bad
inductive de where
 |nx (μ:Env) (st:ae)|rt (v:ak) (st:ae)|bk (μ:Env) (st:ae)|ct (μ:Env) (st:ae)|er (c:Str) (μ:Env) (st:ae)|bad
@[reducible] def bI.bind{α β:Type}(r:bI α)(k:α->ae->bI β):bI β:=match r with
 |.ok a st=>k a st
 |.err c st=>.err c st
 |.bad=>.bad
structure Wo where
 K:_N
 mg:Str->_Q
 pn:_M
abbrev wo(X:Cx):Wo:=⟨X.K,X.mg,X.pn⟩
mutual
def Rl(K:_N)(ρ:_R)(H:Hp):ak->V->Prop
 |.bR,v=>v=.bR
 |.bl b,v=>v=.bl b
 |.int i,v=>v=.int i
 |.str x,v=>v=.str x
 |.tup us,v=>∃a vs,v=.ref a/\H a=some (.tup vs)/\aT K ρ H us vs
 |.mt us,v=>∃a vs,v=.ref a/\jz K H a vs/\aT K ρ H us vs
 |.loc n,v=>∃a,v=.ref a/\ρ[n]?=some a
 |.exc _,_=>False
 |.fn _ _,_=>False
def aT(K:_N)(ρ:_R)(H:Hp):List ak->List V->Prop
 |[],vs=>vs=[]
 |u::us,vs=>∃v r,vs=v::r/\Rl K ρ H u v/\aT K ρ H us r
end
structure aG(ρ:_R)(H:Hp)(ρ':_R)(H':Hp):Prop where
 pre:ρ <+: ρ'
 tup:∀b xs,H b=some (.tup xs)->H' b=some (.tup xs)
 gE:∀b o u,H b=some (.gE o u)->H' b=some (.gE o u)
theorem aG.refl(ρ:_R)(H:Hp):aG ρ H ρ H:=⟨ZT ρ,fun _ _ h=>h,fun _ _ _ h=>h⟩
theorem aG.trans{ρ ρ1 ρ2:_R}{H H1 H2:Hp}(a:aG ρ H ρ1 H1)(b:aG ρ1 H1 ρ2 H2):aG ρ H ρ2 H2:=
 ⟨a.pre.trans b.pre,fun _ _ h=>b.tup _ _ (a.tup _ _ h),fun _ _ _ h=>b.gE _ _ _ (a.gE _ _ _ h)⟩
theorem aG.same{ρ:_R}{H H':Hp}(e:kx H H'):aG ρ H ρ H':=⟨ZT ρ,fun _ _ h=>e _ _ h,fun _ _ _ h=>e _ _ h⟩
theorem aG.snoc{ρ:_R}{H H':Hp}(p:_V)(e:kx H H'):aG ρ H (ρ++[p]) H':=⟨List.prefix_append ρ [p],fun _ _ h=>e _ _ h,fun _ _ _ h=>e _ _ h⟩
theorem aG.at_{ρ ρ':_R}{H H':Hp}(e:aG ρ H ρ' H'){n:Nat}{a:_V}(h:ρ[n]?=some a):ρ'[n]?=some a:=by
 obtain⟨t,rfl⟩:=e.pre;have hl:n<ρ.length:=by
  rcases WY n ρ.length with q|q
  .exact q
  .rw[V' q]at h;cases h
 rw[V7 hl,h]
theorem aG.QN{K:_N}{ρ ρ':_R}{H H':Hp}(e:aG ρ H ρ' H'){a:_V}{xs:List V}(h:jz K H a xs):jz K H' a xs:=by
 rcases h with(h|⟨o,h⟩)|h
 .exact .inl (.inl (e.tup _ _ h))
 .exact .inl (.inr ⟨o,e.gE _ _ _ h⟩)
 .exact .inr h
mutual
theorem Rl.mono{K:_N}{ρ ρ':_R}{H H':Hp}(e:aG ρ H ρ' H'):∀(u:ak)(v:V),Rl K ρ H u v->Rl K ρ' H' u v
 |.bR,_,h=>h
 |.bl _,_,h=>h
 |.int _,_,h=>h
 |.str _,_,h=>h
 |.tup us,v,h=>by unfold Rl at h⊢;obtain⟨a,vs,h1,h2,h3⟩:=h;exact⟨a,vs,h1,e.tup _ _ h2,aT.mono e us vs h3⟩
 |.mt us,v,h=>by unfold Rl at h⊢;obtain⟨a,vs,h1,h2,h3⟩:=h;exact⟨a,vs,h1,e.QN h2,aT.mono e us vs h3⟩
 |.loc n,v,h=>by unfold Rl at h⊢;obtain⟨a,h1,h2⟩:=h;exact⟨a,h1,e.at_ h2⟩
 |.exc c,v,h=>h
 |.fn _ _,_,h=>h
theorem aT.mono{K:_N}{ρ ρ':_R}{H H':Hp}(e:aG ρ H ρ' H'):∀(us:List ak)(vs:List V),aT K ρ H us vs->aT K ρ' H' us vs
 |[],_,h=>h
 |u::us,vs,h=>by unfold aT at h⊢;obtain⟨v,r,h1,h2,h3⟩:=h;exact⟨v,r,h1,Rl.mono e u v h2,aT.mono e us r h3⟩
end
section
variable{K:_N}{ρ ρ':_R}{H H':Hp}
theorem aT.nil:aT K ρ H [] []:=by unfold aT;rfl
theorem aT.cons{u:ak}{us:List ak}{v:V}{vs:List V}(h:Rl K ρ H u v)(hs:aT K ρ H us vs):aT K ρ H (u::us) (v::vs):=by unfold aT;exact⟨v,vs,rfl,h,hs⟩
theorem aT.bC{u:ak}{us:List ak}{vs:List V}(h:aT K ρ H (u::us) vs):∃v r,vs=v::r/\Rl K ρ H u v/\aT K ρ H us r:=by unfold aT at h;exact h
theorem aT.dE{vs:List V}(h:aT K ρ H [] vs):vs=[]:=by unfold aT at h;exact h
theorem aT.length:∀{us:List ak}{vs:List V},aT K ρ H us vs->us.length=vs.length
 |[],vs,h=>by rw[h.dE];rfl
 |u::us,vs,h=>by obtain⟨v,r,rfl,_,h3⟩:=h.bC;rw[Vn,Vn,h3.length]
theorem aT.get:∀{us:List ak}{vs:List V}{i:Nat}{u:ak},aT K ρ H us vs->us[i]?=some u->∃v,vs[i]?=some v/\Rl K ρ H u v
 |[],_,_,_,_,e=>by cases e
 |w::us,vs,0,u,h,e=>by obtain⟨v,r,rfl,h2,_⟩:=h.bC;cases e;exact⟨v,rfl,h2⟩
 |w::us,vs,i+1,u,h,e=>by obtain⟨v,r,rfl,_,h3⟩:=h.bC;exact aT.get (i:=i) h3 e
theorem aT.append:∀{us ws:List ak}{vs xs:List V},aT K ρ H us vs->aT K ρ H ws xs->aT K ρ H (us++ws) (vs++xs)
 |[],_,vs,_,h,k=>by rw[h.dE];exact k
 |u::us,ws,vs,xs,h,k=>by obtain⟨v,r,rfl,h2,h3⟩:=h.bC;exact aT.cons h2 (h3.append k)
theorem aT.set{u:ak}{v:V}(hu:Rl K ρ H u v):∀(n:Nat){us:List ak}{vs:List V},aT K ρ H us vs->aT K ρ H (us.set n u) (vs.set n v)
 |_,[],vs,h=>by rw[h.dE];exact aT.nil
 |0,w::us,vs,h=>by obtain⟨x,r,rfl,h2,h3⟩:=h.bC;exact aT.cons hu h3
 |n+1,w::us,vs,h=>by obtain⟨x,r,rfl,h2,h3⟩:=h.bC;exact aT.cons h2 (aT.set hu n h3)
theorem aT.one{u:ak}{v:V}(h:Rl K ρ H u v):aT K ρ H [u] [v]:=aT.cons h aT.nil
theorem aT.qW{u:ak}{vs:List V}(h:aT K ρ H [u] vs):∃v,vs=[v]/\Rl K ρ H u v:=by obtain⟨v,r,rfl,h2,h3⟩:=h.bC;rw[h3.dE];exact⟨v,rfl,h2⟩
theorem aT.QO{u w:ak}{vs:List V}(h:aT K ρ H [u,w] vs):∃v x,vs=[v,x]/\Rl K ρ H u v/\Rl K ρ H w x:=by obtain⟨v,r,rfl,h2,h3⟩:=h.bC;obtain⟨x,rfl,h4⟩:=h3.qW;exact⟨v,x,rfl,h2,h4⟩
theorem aT.ints:∀(ns:_O),aT K ρ H (ns.map ak.int) (ns.map V.int)
 |[]=>aT.nil
 |n::ns=>aT.cons (by unfold Rl;rfl) (aT.ints ns)
theorem Rl.bK{i:Int}{v:V}(h:Rl K ρ H (.int i) v):v=.int i:=by unfold Rl at h;exact h
theorem Rl.rf{b:Bool}{v:V}(h:Rl K ρ H (.bl b) v):v=.bl b:=by unfold Rl at h;exact h
theorem Rl.iT{x:Str}{v:V}(h:Rl K ρ H (.str x) v):v=.str x:=by unfold Rl at h;exact h
theorem Rl.ir{v:V}(h:Rl K ρ H .bR v):v=.bR:=by unfold Rl at h;exact h
theorem Rl.AG{us:List ak}{v:V}(h:Rl K ρ H (.tup us) v):∃a vs,v=.ref a/\H a=some (.tup vs)/\aT K ρ H us vs:=by unfold Rl at h;exact h
theorem Rl.fe{us:List ak}{v:V}(h:Rl K ρ H (.tup us) v):∃a vs,v=.ref a/\jz K H a vs/\aT K ρ H us vs:=let⟨a,vs,h1,h2,h3⟩:=h.AG;⟨a,vs,h1,jz.of h2,h3⟩
theorem Rl.Tf{us:List ak}{v:V}(h:Rl K ρ H (.mt us) v):∃a vs,v=.ref a/\jz K H a vs/\aT K ρ H us vs:=by unfold Rl at h;exact h
theorem Rl.Nk{us:List ak}{a:_V}{vs:List V}(h:jz K H a vs)(r:aT K ρ H us vs):Rl K ρ H (.mt us) (.ref a):=by unfold Rl;exact⟨a,vs,rfl,h,r⟩
theorem Rl.cD{n:Nat}{v:V}(h:Rl K ρ H (.loc n) v):∃a,v=.ref a/\ρ[n]?=some a:=by unfold Rl at h;exact h
theorem Rl.mkInt(i:Int):Rl K ρ H (.int i) (.int i):=by unfold Rl;rfl
theorem Rl.CH(b:Bool):Rl K ρ H (.bl b) (.bl b):=by unfold Rl;rfl
theorem Rl.mkStr(x:Str):Rl K ρ H (.str x) (.str x):=by unfold Rl;rfl
theorem Rl.vA:Rl K ρ H .bR .bR:=by unfold Rl;rfl
theorem Rl.j?{us:List ak}{a:_V}{vs:List V}(h:H a=some (.tup vs))(r:aT K ρ H us vs):Rl K ρ H (.tup us) (.ref a):=by unfold Rl;exact⟨a,vs,rfl,h,r⟩
theorem Rl.sH{n:Nat}{a:_V}(h:ρ[n]?=some a):Rl K ρ H (.loc n) (.ref a):=by unfold Rl;exact⟨a,rfl,h⟩
end
def dG{κ:Type}(K:_N)(ρ:_R)(H:Hp)(ay:List (κ×ak))(bV:List (κ×V)):Prop:=ay.map (·.1)=bV.map (·.1)/\aT K ρ H (ay.map (·.2)) (bV.map (·.2))
def jb:Option aP->Bool
 |some (.mod _)=>true
 |_=>false
def QP(K:_N)(a:_V)(vs:List V):Prop:=∃(o:Obj)(aD:Array _T)(n:Nat),K.lookup a=some o/\o.cls=.type "list" /\ o.dict=none/\o.data=.seq aD n/\aD.size<=sizeLine/\aV vs aD.toList
def gb(K:_N)(ρ:_R)(H:Hp):aP->_V->Prop
 |.lst us,a=>∃vs,H a=some (.lst vs)/\aT K ρ H us vs
 |.JT us,a=>∃o vs,H a=some (.gE o (.lst vs))/\aT K ρ H us vs
 |.mod us,a=>∃vs,QP K a vs/\aT K ρ H us vs
 |.dK ay,a=>∃bV,H a=some (.dK bV)/\dG K ρ H ay bV
 |.dT ay,a=>∃bV,H a=some (.dT bV)/\dG K ρ H ay bV
 |.fd ay,a=>∃o bV,H a=some (.gE o (.dK bV))/\dG K ρ H ay bV
 |.tab x l c q,a=>(∃cd,W.tabIn K x=some (cd,a))/\Tab H a l c q
 |.ins c fs,a=>∃C dx gs,H a=some (.ins C dx gs)/\W.nsIn K mainGlobals c=some (some (.ref C))/\dG K ρ H fs gs
structure SR(K:_N)(ρ:_R)(st:ae)(H:Hp):Prop where
 len:ρ.length=st.length
 nd:∀(n m:Nat)a,ρ[n]?=some a->ρ[m]?=some a->jb st[n]?=false->jb st[m]?=false->n=m
 cell:∀(n:Nat)c a,st[n]?=some c->ρ[n]?=some a->gb K ρ H c a
theorem gI{α:Type}{l:List α}{n:Nat}{x:α}(h:l[n]?=some x):n<l.length:=by
 rcases WY n l.length with q|q
 .exact q
 .rw[V' q]at h;cases h
section
variable{K:_N}{ρ ρ':_R}{H H':Hp}{st:ae}
theorem gb.there{c:aP}{a:_V}(h:gb K ρ H c a)(hn:jb (some c)=false):∃o,H a=some o/\∀xs,o≠.tup xs:=by
 cases c with
 |lst us=>obtain⟨vs,h,_⟩:=h;exact⟨_,h,fun xs e=>by cases e⟩
 |JT us=>obtain⟨o,vs,h,_⟩:=h;exact⟨_,h,fun xs e=>by cases e⟩
 |fd us=>obtain⟨o,vs,h,_⟩:=h;exact⟨_,h,fun xs e=>by cases e⟩
 |mod us=>cases hn
 |dK ay=>obtain⟨vs,h,_⟩:=h;exact⟨_,h,fun xs e=>by cases e⟩
 |dT ay=>obtain⟨vs,h,_⟩:=h;exact⟨_,h,fun xs e=>by cases e⟩
 |tab x l c q=>rcases h.2 with h|⟨_,_,_,_,h,_⟩<;>exact⟨_,h,fun xs e=>by cases e⟩
 |ins c fs=>obtain⟨_,_,_,h,_⟩:=h;exact⟨_,h,fun xs e=>by cases e⟩
theorem gb.mono{c:aP}{a:_V}(h:gb K ρ H c a)(e:aG ρ H ρ' H')(ha:jb (some c)=true\/H' a=H a):gb K ρ' H' c a:=by
 cases c with
 |mod us=>obtain⟨vs,h,r⟩:=h;exact⟨vs,h,aT.mono e _ _ r⟩
 |lst us=>rcases ha with ha|ha<;>first|cases ha;done|(obtain⟨vs,h,r⟩:=h;exact⟨vs,ha.trans h,aT.mono e _ _ r⟩)
 |JT us=>rcases ha with ha|ha<;>first|cases ha;done|(obtain⟨o,vs,h,r⟩:=h;exact⟨o,vs,ha.trans h,aT.mono e _ _ r⟩)
 |dK ay=>rcases ha with ha|ha<;>first|cases ha;done|(obtain⟨vs,h,r⟩:=h;exact⟨vs,ha.trans h,r.1,aT.mono e _ _ r.2⟩)
 |dT ay=>rcases ha with ha|ha<;>first|cases ha;done|(obtain⟨vs,h,r⟩:=h;exact⟨vs,ha.trans h,r.1,aT.mono e _ _ r.2⟩)
 |fd ay=>rcases ha with ha|ha<;>first|cases ha;done|(obtain⟨o,vs,h,r⟩:=h;exact⟨o,vs,ha.trans h,r.1,aT.mono e _ _ r.2⟩)
 |ins c fs=>rcases ha with ha|ha<;>first|cases ha;done|(obtain⟨C,dx,gs,h,hn,r⟩:=h;exact⟨C,dx,gs,ha.trans h,hn,r.1,aT.mono e _ _ r.2⟩)
 |tab x l c q=>
  refine⟨h.1,?_⟩;rcases ha with ha|ha
  .cases ha
  .rcases h.2 with h|⟨c',oc,vs,t,h,h2,h3⟩
   .exact .inl (ha.trans h)
   .exact .inr ⟨c',oc,vs,t,ha.trans h,e.gE _ _ _ h2,h3⟩
theorem gb.grow{c:aP}{a:_V}(h:gb K ρ H c a)(e:aG ρ H ρ' H')(s:kx H H'):gb K ρ' H' c a:=by
 cases z:jb (some c) with
 |true=>exact h.mono e (.inl z)
 |false=>
  obtain⟨o,ho,_⟩:=h.there z;exact h.mono e (.inr (by rw[ho];exact s _ _ ho))
theorem SR.there(s:SR K ρ st H){n:Nat}{a:_V}(h:ρ[n]?=some a):∃c,st[n]?=some c/\gb K ρ H c a:=by
 have hn:=gI h;have Mb:n<st.length:=by rw[<-s.len];exact hn
 exact⟨st[n],Vq Mb,s.cell n _ a (Vq Mb) h⟩
theorem SR.grow(s:SR K ρ st H)(e:kx H H'):SR K ρ st H':=
 ⟨s.len,s.nd,fun n c a h1 h2=>(s.cell n c a h1 h2).grow (aG.same e) e⟩
theorem SR.HW(s:SR K ρ st H){p:_V}(hp:H p=none){n:Nat}(h:ρ[n]?=some p)(hm:jb st[n]?=false):False:=by obtain⟨c,hc,k⟩:=s.there h;rw[hc]at hm;obtain⟨o,ho,_⟩:=k.there hm;rw[hp]at ho;cases ho
theorem bW{p:_V}{o:HO}(hp:H p=none):kx H (upd H p o):=kx.upd (kx.refl H) hp
theorem SR.alloc(s:SR K ρ st H){p:_V}{o:HO}{c:aP}(hp:H p=none)(k:gb K (ρ++[p]) (upd H p o) c p):SR K (ρ++[p]) (st++[c]) (upd H p o):=by
 have e:kx H (upd H p o):=bW hp;have at_:∀(n:Nat)(a:_V),(ρ++[p])[n]?=some a->(n<st.length/\ρ[n]?=some a/\(st++[c])[n]?=st[n]?)\/(n=st.length/\a=p/\(st++[c])[n]?=some c):=by
  intro n a h;rcases Ya n st.length with q|q|q
  .rw[V7 (by rw[s.len];exact q)]at h;exact .inl ⟨q,h,V7 q⟩
  .subst q;rw[Vy (by rw[s.len];exact Vp _),s.len,Wk]at h;cases h;refine .inr ⟨rfl,rfl,?_⟩;rw[Vy (Vp _),Wk];rfl
  .rw[V' (by rw[Vt,Y4,s.len];lia)]at h;cases h
 refine⟨by rw[Vt,Vt,s.len];rfl,fun n m a h1 h2 m1 m2=>?_,fun n c' a h1 h2=>?_⟩
 .rcases at_ n a h1 with⟨q1,q2,q3⟩|⟨q1,q2,q3⟩<;>rcases at_ m a h2 with⟨r1,r2,r3⟩|⟨r1,r2,r3⟩
  .rw[q3]at m1;rw[r3]at m2;exact s.nd n m a q2 r2 m1 m2
  .subst r2;rw[q3]at m1;exact(s.HW hp q2 m1).elim
  .subst q2;rw[r3]at m2;exact(s.HW hp r2 m2).elim
  .rw[q1,r1]
 .rcases at_ n a h2 with⟨q1,q2,q3⟩|⟨q1,q2,q3⟩
  .rw[q3]at h1;exact(s.cell n c' a h1 q2).grow (aG.snoc p e) e
  .rw[q3]at h1;cases h1;subst q2;exact k
theorem aG.put{a:_V}{o o':HO}(h:H a=some o)(h1:∀xs,o≠.tup xs)(h2:∀x u,o≠.gE x u):aG ρ H ρ (upd H a o'):=by
 refine⟨ZT ρ,fun b xs e=>?_,fun b x u e=>?_⟩
 .rw[aM (fun z=>?_)]
  .exact e
  .subst z;rw[h]at e;exact h1 _ (VO e)
 .rw[aM (fun z=>?_)]
  .exact e
  .subst z;rw[h]at e;exact h2 _ _ (VO e)
theorem SR.set(s:SR K ρ st H){n:Nat}{a:_V}{o o':HO}{c c':aP}(h:st[n]?=some c)(hc:jb (some c)=false)(bQ:jb (some c')=false)(ha:ρ[n]?=some a)(ho:H a=some o)(h1:∀xs,o≠.tup xs)(h2:∀x u,o≠.gE x u)(k:gb K ρ (upd H a o') c' a):SR K ρ (st.set n c') (upd H a o'):=by
 have hn:n<st.length:=gI h;have at_:∀(m:Nat),jb (st.set n c')[m]?=jb st[m]?:=fun m=>by
  by_cases z:m=n
  .subst z;rw[Vz hn,h,hc,bQ]
  .rw[WI (fun y=>z y.symm)]
 refine⟨by rw[VU];exact s.len,fun i m b q1 q2 m1 m2=>s.nd i m b q1 q2 (by rw[<-at_];exact m1) (by rw[<-at_];exact m2),fun m d b q1 q2=>?_⟩;by_cases z:m=n
 .subst z;rw[ha]at q2;cases q2;rw[Vz hn]at q1;cases q1;exact k
 .rw[WI (fun y=>z y.symm)]at q1;have kb:=s.cell m d b q1 q2;cases zm:jb (some d) with
  |true=>exact kb.mono (aG.put ho h1 h2) (.inl zm)
  |false=>
   have hb:b≠a:=fun y=>z (s.nd m n a (by rw[<-y];exact q2) ha (by rw[q1];exact zm) (by rw[h];exact hc));exact kb.mono (aG.put ho h1 h2) (.inr (aM hb))
end
def CI(W:Wo)(ρ:_R)(H:Hp)(u:ak)(v:V):Prop:=match u with
 |.exc c=>∃a oe C,v=.ref a/\(a,oe)∈W.pn/\W.mg c=some (.ref C)/\oe.cls=.ref C
 |.fn L u=>∃f c c' cv,v=.ref f/\O2 L H f c c' cv/\Rl W.K ρ H u cv
 |u=>Rl W.K ρ H u v
theorem CI.mono{W:Wo}{ρ ρ':_R}{H H':Hp}{u:ak}{v:V}(h:CI W ρ H u v)(e:aG ρ H ρ' H'):CI W ρ' H' u v:=by
 cases u with
 |exc c=>exact h
 |fn L u=>obtain⟨f,c,c',cv,h1,C,r⟩:=h;exact⟨f,c,c',cv,h1,C.mono (fun b o u q=>e.gE b o u q),Rl.mono e _ _ r⟩
 |_=>exact Rl.mono e _ _ h
theorem CI.of{W:Wo}{ρ:_R}{H:Hp}{u:ak}{v:V}(h:Rl W.K ρ H u v):CI W ρ H u v:=by
 cases u with
 |exc c=>unfold Rl at h;exact h.elim
 |fn L u=>unfold Rl at h;exact h.elim
 |_=>exact h
structure RS(W:Wo)(ρ:_R)(H:Hp)(μ:Env)(σ:St):Prop where
 len:μ.length=σ.length
 at_:∀(i:Nat)u,μ[i]?=some (some u)->∃v,σ[i]?=some (some v)/\CI W ρ H u v
section
variable{W:Wo}{ρ ρ':_R}{H H':Hp}{μ:Env}{σ:St}
theorem RS.mono(r:RS W ρ H μ σ)(e:aG ρ H ρ' H'):RS W ρ' H' μ σ:=⟨r.len,fun i u h=>let⟨v,h1,h2⟩:=r.at_ i u h;⟨v,h1,h2.mono e⟩⟩
theorem RS.QQ(r:RS W ρ H μ σ)(i:Nat){u:ak}{v:V}(h:CI W ρ H u v):RS W ρ H (μ.set i (some u)) (σ.set i (some v)):=by
 refine⟨by rw[VU,VU];exact r.len,fun j w e=>?_⟩;by_cases z:j=i
 .subst z;have hj:=gI e;rw[VU]at hj;rw[Vz hj]at e;cases e;exact⟨v,Vz (by rw[<-r.len];exact hj),h⟩
 .rw[WI (fun y=>z y.symm)]at e⊢;exact r.at_ j w e
theorem RS.set(r:RS W ρ H μ σ)(i:Nat){u:ak}{v:V}(h:Rl W.K ρ H u v):RS W ρ H (μ.set i (some u)) (σ.set i (some v)):=r.QQ i (CI.of h)
end
abbrev ME:=Env->ae->bI ak
abbrev MT:=Env->ae->bI Bool
abbrev MA:=Env->ae->bI (List ak)
abbrev MB:=Env->ae->de
def wR{α β:Type}(W:Wo)(E:XK)(R:_R->Hp->α->β->Prop)(ρ:_R)(H:Hp)(Q:β->Hp->Prop):bI α->Prop
 |.ok u az=>∀ρ' H' v,aG ρ H ρ' H'->SR W.K ρ' az H'->R ρ' H' u v->Q v H'
 |.err c az=>∃C,W.mg c=some (.ref C)/\∀ρ' H',aG ρ H ρ' H'->SR W.K ρ' az H'->E (.ref C) none H'
 |.bad=>False
theorem wR.mono{α β:Type}{W:Wo}{E:XK}{R:_R->Hp->α->β->Prop}{ρ ρ':_R}{H H':Hp}{Q:β->Hp->Prop}{r:bI α}(h:wR W E R ρ H Q r)(e:aG ρ H ρ' H'):wR W E R ρ' H' Q r:=by
 cases r with
 |ok u st=>exact fun ρ2 H2 v e2 s r=>h ρ2 H2 v (e.trans e2) s r
 |err c st=>obtain⟨C,h1,h2⟩:=h;exact⟨C,h1,fun ρ2 H2 e2 s=>h2 ρ2 H2 (e.trans e2) s⟩
 |bad=>exact h
theorem wR.pn{α β:Type}{K:_N}{mg:_L}{pn U_:_M}{E:XK}{R:_R->Hp->α->β->Prop}{ρ:_R}{H:Hp}{Q:β->Hp->Prop}{r:bI α}(h:wR ⟨K,mg,pn⟩ E R ρ H Q r):wR ⟨K,mg,U_⟩ E R ρ H Q r:=by cases r<;>exact h
def tG{α β:Type}(W:Wo)(E:XK)(R:_R->Hp->α->β->Prop)(m:Env->ae->bI α):St->Hp->(β->Hp->Prop)->Prop:=
 fun σ H Q=>∃μ ρ st,RS W ρ H μ σ/\SR W.K ρ st H/\wR W E R ρ H Q (m μ st)
abbrev RB:_R->Hp->Bool->Bool->Prop:=fun _ _ b c=>c=b
abbrev tE(X:Cx)(E:XK)(m:ME):TE:=tG (wo X) E (Rl X.K) m
abbrev tT(X:Cx)(E:XK)(m:MT):TT:=tG (wo X) E RB m
abbrev tL(X:Cx)(E:XK)(m:MA):TA:=tG (wo X) E (aT X.K) m
theorem go{α β γ δ:Type}{W:Wo}{E:XK}{R1:_R->Hp->α->β->Prop}{R2:_R->Hp->γ->δ->Prop}{m:Env->ae->bI α}{k:α->ae->bI γ}{σ:St}{H:Hp}{Q:δ->Hp->Prop}{Q':β->Hp->Prop}(μ:Env)(ρ:_R)(st:ae)(rs:RS W ρ H μ σ)(sr:SR W.K ρ st H)(h:wR W E R2 ρ H Q ((m μ st).bind k))(c:∀u aL ρ1 H1 x,aG ρ H ρ1 H1->SR W.K ρ1 aL H1->R1 ρ1 H1 u x->wR W E R2 ρ1 H1 Q (k u aL)->Q' x H1):tG W E R1 m σ H Q':=by
 refine⟨μ,ρ,st,rs,sr,?_⟩;cases e:m μ st with
 |ok u aL=>
  rw[e]at h;intro ρ1 H1 x e1 bJ r1;exact c u aL ρ1 H1 x e1 bJ r1 (wR.mono h e1)
 |err c aL=>rw[e]at h;exact h
 |bad=>rw[e]at h;exact h
section
variable{X:Cx}
theorem PE.imp{e:Expr}{t t':TE}(h:PE X e t)(k:∀σ H Q,t' σ H Q->t σ H Q):PE X e t':=fun ag s σ H Q I q=>h ag s σ H Q I (k σ H Q q)
theorem PT.imp{e:Expr}{t t':TT}(h:PT X e t)(k:∀σ H Q,t' σ H Q->t σ H Q):PT X e t':=fun ag s σ H Q I q=>h ag s σ H Q I (k σ H Q q)
theorem PW.imp{e:Expr}{t t':TT}(h:PW X e t)(k:∀σ H Q,t' σ H Q->t σ H Q):PW X e t':=fun w ag s σ H Q I q=>h w ag s σ H Q I (k σ H Q q)
theorem PA.imp{e:List Expr}{t t':TA}(h:PA X e t)(k:∀σ H Q,t' σ H Q->t σ H Q):PA X e t':=fun p ag s σ H Q I q=>h p ag s σ H Q I (k σ H Q q)
theorem PS.imp{e:Stmt}{t t':TS}(h:PS X e t)(k:∀D σ H,t' D σ H->t D σ H):PS X e t':=fun ag s σ H D I q=>h ag s σ H D I (k D σ H q)
theorem j!.imp{e:List Stmt}{t t':TS}(h:j! X e t)(k:∀D σ H,t' D σ H->t D σ H):j! X e t':=fun ag s σ H D I q=>h ag s σ H D I (k D σ H q)
theorem PG.imp{e:Expr}{t t':TG}(h:PG X e t)(k:∀v σ H Q,t' v σ H Q->t v σ H Q):PG X e t':=fun ag s σ H v u Q I r q=>h ag s σ H v u Q I r (k v σ H Q q)
theorem c5.imp{f:_T->_T->Sem _T}{t t':R2}(h:c5 X f t)(k:∀x y H Q,t' x y H Q->t x y H Q):c5 X f t':=fun ag s σ H x y v u Q I rx ry q=>h ag s σ H x y v u Q I rx ry (k x y H Q q)
theorem bc.imp{f:_T}{t t':List V->Hp->VK->Prop}(h:bc X f t)(k:∀xs H Q,t' xs H Q->t xs H Q):bc X f t':=fun ag s σ H xs us Q I r q=>h ag s σ H xs us Q I r (k xs H Q q)
theorem wO.imp{t t':R2}(h:wO X t)(k:∀x y H Q,t' x y H Q->t x y H Q):wO X t':=fun va sl ag s σ H x y v u Q I rx ry q e=>h va sl ag s σ H x y v u Q I rx ry (k x y H Q q) e
end
def FT:ak->Bool
 |.exc _=>true
 |.fn _ _=>true
 |_=>false
def kz(i:Nat):ME:=fun μ st=>match μ[i]? with
 |some (some v)=>if FT v=true then .bad else .ok v st
 |_=>.bad
theorem CI.un{W:Wo}{ρ:_R}{H:Hp}{u:ak}{v:V}(h:CI W ρ H u v)(n:¬ FT u=true):Rl W.K ρ H u v:=by
 cases u with
 |exc c=>exact absurd rfl n
 |fn L u=>exact absurd rfl n
 |_=>exact h
def mC(v:ak):ME:=fun _ st=>.ok v st
section
variable{X:Cx}{E:XK}{pos:Pos}
theorem JU(i:Nat){x:Str}(hN:X.N[i]?=some x:=by rfl)(hv:OF X.env.scope x:=by first|exact Or.inl rfl|exact Or.inr (Or.inl rfl)|exact Or.inr (Or.inr rfl))(hd:(x==("__debug__":Str))=false:=by decide)(BY:(x==("__classdict__":Str))=false:=by decide):PE X (.Name x pos) (tE X E (kz i)):=by
 refine PE.imp (II hN hv hd BY) ?_;rintro σ H Q ⟨μ,ρ,st,rs,sr,h⟩;unfold kz at h;split at h
 .rename_i v e;obtain⟨w,e',r⟩:=rs.at_ i v e;split at h
  .exact h.elim
  .rename_i n;exact⟨w,e',h ρ H w (aG.refl _ _) sr (r.un n)⟩
 .exact h.elim
theorem vB{e:Expr}{v:V}{c:ak}(h:PE X e (tC v))(r:∀ρ H,Rl X.K ρ H c v):PE X e (tE X E (mC c)):=by refine PE.imp h ?_;rintro σ H Q ⟨μ,ρ,st,rs,sr,h⟩;exact h ρ H v (aG.refl _ _) sr (r ρ H)
theorem JV{i j}:PE X (.Constant (.int i) j pos) (tE X E (mC (.int i))):=vB IJ fun _ _=>Rl.mkInt i
theorem Nl{b j}:PE X (.Constant (.bool b) j pos) (tE X E (mC (.bl b))):=vB HG fun _ _=>Rl.CH b
theorem JW{j}:PE X (.Constant .none j pos) (tE X E (mC .bR)):=vB IK fun _ _=>Rl.vA
theorem JX{x j}:PE X (.Constant (.str x) j pos) (tE X E (mC (.str x))):=vB IL fun _ _=>Rl.mkStr x
structure Glob(K:_N)(mg:_L)(x:Str)(c:ak):Prop where
 at_:∃(u:_T)(v:V),mg x=some u/\bb v u/\∀ρ H,Rl K ρ H c v
theorem oT{x:Str}{c:ak}(hg:Gl X x)(h:Glob X.K X.mg x c)(hd:(x==("__debug__":Str))=false:=by decide):PE X (.Name x pos) (tE X E (mC c)):=by obtain⟨u,v,h1,h2,h3⟩:=h.at_;exact vB (E3 hg h1 h2 hd) h3
end
abbrev F2:=ak->ak->ae->bI ak
def rM(W:Wo)(E:XK)(f:F2):R2:=fun x y H Q=>∃ρ st u w,SR W.K ρ st H/\Rl W.K ρ H u x/\Rl W.K ρ H w y/\wR W E (Rl W.K) ρ H Q (f u w st)
def ah(f:F2)(a b:ME):ME:=fun μ st=>(a μ st).bind fun x aL=>(b μ aL).bind fun y st2=>f x y st2
section
variable{X:Cx}{E:XK}{pos:Pos}{a b c:Expr}{ma mb mc:ME}{f g:F2}
theorem kW{σ:St}{H:Hp}{Q:VK}(h:tE X E (ah f ma mb) σ H Q):LD (rM (wo X) E f) (tE X E ma) (tE X E mb) σ H Q:=by obtain⟨μ,ρ,st,rs,sr,h⟩:=h;refine go μ ρ st rs sr h fun u aL ρ1 H1 x e1 bJ r1 h1=>?_;refine go μ ρ1 aL (rs.mono e1) bJ h1 fun w st2 ρ2 H2 y e2 jQ r2 h2=>?_;exact⟨ρ2,st2,u,w,jQ,Rl.mono e2 _ _ r1,r2,h2⟩
theorem iu{op:Operator}(ho:c5 X (binaryOp op) (rM (wo X) E f))(ha:PE X a (tE X E ma))(hb:PE X b (tE X E mb)):PE X (.BinOp a op b pos) (tE X E (ah f ma mb)):=
 PE.imp (Mr ho ha hb) fun _ _ _ h=>kW h
theorem jc{op:CmpOp}(ho:c5 X (compareOp op) (rM (wo X) E f))(ha:PE X a (tE X E ma))(hb:PE X b (tE X E mb))(hm:behindInMarks op b=false:=by first|exact B5 _|(with_unfolding_all rfl)):PE X (.Compare a [op] [b] pos) (tE X E (ah f ma mb)):=
 PE.imp (Fg ho ha hb hm) fun _ _ _ h=>kW h
def bN(m:ME):MT:=fun μ st=>(m μ st).bind fun v az=>match v with
 |.bl b=>.ok b az
 |_=>.bad
theorem vC{m:ME}{σ:St}{H:Hp}{Q:Bool->Hp->Prop}(h:tT X E (bN m) σ H Q):tE X E m σ H fun x H'=>∃k,x=.bl k/\Q k H':=by
 obtain⟨μ,ρ,st,rs,sr,h⟩:=h;refine go μ ρ st rs sr h fun u aL ρ1 H1 x e1 bJ r1 h1=>?_;cases u with
 |bl b=>exact⟨b,r1.rf,h1 ρ1 H1 b (aG.refl _ _) bJ rfl⟩
 |_=>exact h1.elim
theorem jd{op:CmpOp}(ho:c5 X (compareOp op) (rM (wo X) E f))(ha:PE X a (tE X E ma))(hb:PE X b (tE X E mb))(hm:behindInMarks op b=false:=by first|exact B5 _|(with_unfolding_all rfl)):PT X (.Compare a [op] [b] pos) (tT X E (bN (ah f ma mb))):=
 PT.imp (Fh ho ha hb hm) fun σ H Q h=>by show LD (rM (wo X) E f) (tE X E ma) (tE X E mb) σ H _;exact kW (vC h)
theorem JY{m:ME}(h:PE X a (tE X E m))(he:∀whole,isTrue a X.env whole=(do let v <- whole;standAt a.pos;holding [v] (truthy v)):=by intro _;rfl):PT X a (tT X E (bN m)):=
 PT.imp (IM h he) fun σ H Q h=>vC h
def QR(f g:F2)(a b c:ME):ME:=fun μ st=>(a μ st).bind fun x aL=>(b μ aL).bind fun y st2=>(f x y st2).bind fun z l_=>match z with
 |.bl true=>(c μ l_).bind fun w l!=>g y w l!
 |.bl false=>.ok (.bl false) l_
 |_=>.bad
def vD(a b:ME):ME:=fun μ st=>(a μ st).bind fun x aL=>match x with
 |.bl true=>b μ aL
 |.bl false=>.ok (.bl false) aL
 |_=>.bad
def O3(a b:ME):ME:=fun μ st=>(a μ st).bind fun x aL=>match x with
 |.bl true=>.ok (.bl true) aL
 |.bl false=>b μ aL
 |_=>.bad
def JZ(a:ME):ME:=fun μ st=>(a μ st).bind fun x aL=>match x with
 |.bl b=>.ok (.bl (!b)) aL
 |_=>.bad
def vE(a b:MT):MT:=fun μ st=>(a μ st).bind fun x aL=>match x with
 |true=>b μ aL
 |false=>.ok false aL
def eu(a b:MT):MT:=fun μ st=>(a μ st).bind fun x aL=>match x with
 |true=>.ok true aL
 |false=>b μ aL
def cF(a:MT):MT:=fun μ st=>(a μ st).bind fun x aL=>.ok (!x) aL
def FU(t:MT)(a b:ME):ME:=fun μ st=>(t μ st).bind fun x aL=>match x with
 |true=>a μ aL
 |false=>b μ aL
variable{rest:List Expr}{tA E5:MT}
theorem J0{op}{m:ME}(h:PE X a (tE X E m)):PE X (.BoolOp op [a] pos) (tE X E m):=IT h
theorem J1(ha:PE X a (tE X E ma))(hb:PE X (.BoolOp .And (b::rest) pos) (tE X E mb)):PE X (.BoolOp .And (a::b::rest) pos) (tE X E (vD ma mb)):=by
 refine PE.imp (IU ha hb) ?_;rintro σ H Q ⟨μ,ρ,st,rs,sr,h⟩;refine go μ ρ st rs sr h fun u aL ρ1 H1 x e1 bJ r1 h1=>?_;cases u with
 |bl k=>
  refine⟨k,r1.rf,?_⟩;cases k with
  |true=>rw[Vo rfl];exact⟨μ,ρ1,aL,rs.mono e1,bJ,h1⟩
  |false=>rw[Vv Vs];exact h1 ρ1 H1 _ (aG.refl _ _) bJ (Rl.CH false)
 |_=>exact h1.elim
theorem Nm(ha:PE X a (tE X E ma))(hb:PE X (.BoolOp .Or (b::rest) pos) (tE X E mb)):PE X (.BoolOp .Or (a::b::rest) pos) (tE X E (O3 ma mb)):=by
 refine PE.imp (Mf ha hb) ?_;rintro σ H Q ⟨μ,ρ,st,rs,sr,h⟩;refine go μ ρ st rs sr h fun u aL ρ1 H1 x e1 bJ r1 h1=>?_;cases u with
 |bl k=>
  refine⟨k,r1.rf,?_⟩;cases k with
  |true=>rw[Vo rfl];exact h1 ρ1 H1 _ (aG.refl _ _) bJ (Rl.CH true)
  |false=>rw[Vv Vs];exact⟨μ,ρ1,aL,rs.mono e1,bJ,h1⟩
 |_=>exact h1.elim
theorem J2(ha:PE X a (tE X E ma)):PE X (.UnaryOp .Not a pos) (tE X E (JZ ma)):=by
 refine PE.imp (IV ha) ?_;rintro σ H Q ⟨μ,ρ,st,rs,sr,h⟩;refine go μ ρ st rs sr h fun u aL ρ1 H1 x e1 bJ r1 h1=>?_;cases u with
 |bl k=>exact⟨k,r1.rf,h1 ρ1 H1 _ (aG.refl _ _) bJ (Rl.CH _)⟩
 |_=>exact h1.elim
theorem FV(ha:PT X a (tT X E tA)):PW X (.BoolOp .And [a] pos) (tT X E tA):=E6 ha
theorem J3(ha:PT X a (tT X E tA)):PW X (.BoolOp .Or [a] pos) (tT X E tA):=IP ha
theorem J4(ha:PT X a (tT X E tA))(hb:PW X (.BoolOp .And (b::rest) pos) (tT X E E5)):PW X (.BoolOp .And (a::b::rest) pos) (tT X E (vE tA E5)):=by
 refine PW.imp (IQ ha hb) ?_;rintro σ H Q ⟨μ,ρ,st,rs,sr,h⟩;refine go (R1:=RB) μ ρ st rs sr h fun u aL ρ1 H1 x e1 bJ r1 h1=>?_;cases r1;cases u with
 |true=>rw[Vo rfl];exact⟨μ,ρ1,aL,rs.mono e1,bJ,h1⟩
 |false=>rw[Vv Vs];exact h1 ρ1 H1 _ (aG.refl _ _) bJ rfl
theorem Nn(ha:PT X a (tT X E tA))(hb:PW X (.BoolOp .Or (b::rest) pos) (tT X E E5)):PW X (.BoolOp .Or (a::b::rest) pos) (tT X E (eu tA E5)):=by
 refine PW.imp (Mc ha hb) ?_;rintro σ H Q ⟨μ,ρ,st,rs,sr,h⟩;refine go (R1:=RB) μ ρ st rs sr h fun u aL ρ1 H1 x e1 bJ r1 h1=>?_;cases r1;cases u with
 |true=>rw[Vo rfl];exact h1 ρ1 H1 _ (aG.refl _ _) bJ rfl
 |false=>rw[Vv Vs];exact⟨μ,ρ1,aL,rs.mono e1,bJ,h1⟩
theorem QS{e:Expr}{t:MT}(h:PW X e (tT X E t)):PT X e (tT X E t):=h.pt
theorem J5(ha:PT X a (tT X E tA)):PT X (.UnaryOp .Not a pos) (tT X E (cF tA)):=by refine PT.imp (IS ha) ?_;rintro σ H Q ⟨μ,ρ,st,rs,sr,h⟩;refine go (R1:=RB) μ ρ st rs sr h fun u aL ρ1 H1 x e1 bJ r1 h1=>?_;cases r1;exact h1 ρ1 H1 _ (aG.refl _ _) bJ rfl
theorem Np(hc:PT X c (tT X E tA))(ha:PE X a (tE X E ma))(hb:PE X b (tE X E mb)):PE X (.IfExp c a b pos) (tE X E (FU tA ma mb)):=by
 refine PE.imp (BZ hc ha hb) ?_;rintro σ H Q ⟨μ,ρ,st,rs,sr,h⟩;refine go (R1:=RB) μ ρ st rs sr h fun u aL ρ1 H1 x e1 bJ r1 h1=>?_;cases r1;cases u with
 |true=>rw[Vo rfl];exact⟨μ,ρ1,aL,rs.mono e1,bJ,h1⟩
 |false=>rw[Vv Vs];exact⟨μ,ρ1,aL,rs.mono e1,bJ,h1⟩
end
def ao:MA:=fun _ st=>.ok [] st
def aa(a:ME)(r:MA):MA:=fun μ st=>(a μ st).bind fun x aL=>(r μ aL).bind fun xs st2=>.ok (x::xs) st2
abbrev aK: ME := kz 0
abbrev bf: ME := kz 1
abbrev aZ: ME := kz 2
abbrev bt: ME := kz 3
abbrev c6: ME := kz 4
abbrev cY: ME := kz 5
abbrev fP: ME := kz 6
abbrev kX: ME := kz 7
abbrev BR: ME := kz 8
abbrev bT: ME := mC (.int 0)
abbrev b!: ME := mC (.int 1)
abbrev iP: ME := mC (.int 2)
abbrev nF: ME := mC (.int 3)
abbrev EU: ME := mC (.int 4)
abbrev LL: ME := mC (.int 8)
abbrev c7: ME := mC (.int 2147483629)
abbrev qs(x : Str): ME := mC (.str x)
abbrev qI(i : Int): Option ak := some (.int i)
abbrev qN(n : Nat): Option ak := some (.int n)
abbrev qS(x : Str): Option ak := some (.str x)
abbrev qL(n : Nat): Option ak := some (.loc n)
abbrev qn: Option ak := none
def eB(a:MA):ME:=fun μ st=>(a μ st).bind fun xs aL=>if xs.length<=sizeLine then .ok (.tup xs) aL else .bad
def c9(a:MA):ME:=fun μ st=>(a μ st).bind fun xs aL=>if xs.length<=sizeLine then .ok (.loc aL.length) (aL++[.lst xs])else .bad
abbrev FN:=List ak->ae->bI ak
def aq(f:FN)(a:MA):ME:=fun μ st=>(a μ st).bind fun xs aL=>f xs aL
def CJ(W:Wo)(f:FN):Sp:=fun vs H Q E=>∃us ρ st,aT W.K ρ H us vs/\SR W.K ρ st H/\wR W E (Rl W.K) ρ H Q (f us st)
def cM(W:Wo)(E:XK)(f:FN):List V->Hp->VK->Prop:=fun xs H Q=>∃ρ st us,SR W.K ρ st H/\aT W.K ρ H us xs/\wR W E (Rl W.K) ρ H Q (f us st)
section
variable{X:Cx}{E:XK}{pos p:Pos}{e:Expr}{es:List Expr}{m:ME}{ms:MA}{f:FN}{x:Str}
theorem J6:PA X [] (tL X E ao):=PA.imp tU fun σ H Q⟨μ,ρ,st,rs,sr,h⟩=>h ρ H [] (aG.refl _ _) sr aT.nil
theorem FW(ha:PE X e (tE X E m))(hr:PA X es (tL X E ms))(hs:starEach (e::es) X.env=(false,eval e X.env)::starEach es X.env:=by rfl):PA X (e::es) (tL X E (aa m ms)):=by refine PA.imp (kT ha hr hs) ?_;rintro σ H Q ⟨μ,ρ,st,rs,sr,h⟩;refine go μ ρ st rs sr h fun u aL ρ1 H1 x e1 bJ r1 h1=>?_;refine go (R1:=aT X.K) μ ρ1 aL (rs.mono e1) bJ h1 fun w st2 ρ2 H2 y e2 jQ r2 h2=>?_;exact h2 ρ2 H2 _ (aG.refl _ _) jQ (aT.cons (Rl.mono e2 _ _ r1) r2)
theorem J7{k}(h:PA X es (tL X E ms)):PE X (.Tuple es k pos) (tE X E (eB ms)):=by
 refine PE.imp (Jp h) ?_;rintro σ H Q ⟨μ,ρ,st,rs,sr,h⟩;refine go (R1:=aT X.K) μ ρ st rs sr h fun us aL ρ1 H1 xs e1 bJ r1 h1=>?_;by_cases hz:us.length<=sizeLine
 .rw[Vo hz]at h1;refine⟨by rw[<-r1.length];exact hz,fun p hp=>?_⟩;have s:=bW (o:=.tup xs) hp;exact h1 ρ1 _ _ (aG.same s) (bJ.grow s) (Rl.j? a! (aT.mono (aG.same s) _ _ r1))
 .rw[Vv hz]at h1;exact h1.elim
theorem gJ{K:_N}{ρ:_R}{st:ae}{H:Hp}{us:List ak}{xs:List V}(sr:SR K ρ st H)(r:aT K ρ H us xs){p:_V}(hp:H p=none):
  aG ρ H (ρ++[p]) (upd H p (.lst xs))/\SR K (ρ++[p]) (st++[.lst us]) (upd H p (.lst xs))/\Rl K (ρ++[p]) (upd H p (.lst xs)) (.loc st.length) (.ref p):=by
 have s:=bW (o:=.lst xs) hp;refine⟨aG.snoc p s,sr.alloc hp ⟨xs,a!,aT.mono (aG.snoc p s) _ _ r⟩,Rl.sH ?_⟩;rw[<-sr.len,Vy (Vp _),Wk];rfl
theorem J8(h:PA X es (tL X E ms)):PE X (.List es pos) (tE X E (c9 ms)):=by
 refine PE.imp (Jq h) ?_;rintro σ H Q ⟨μ,ρ,st,rs,sr,h⟩;refine go (R1:=aT X.K) μ ρ st rs sr h fun us aL ρ1 H1 xs e1 bJ r1 h1=>?_;by_cases hz:us.length<=sizeLine
 .rw[Vo hz]at h1;refine⟨by rw[<-r1.length];exact hz,fun p hp=>?_⟩;obtain⟨a,b,c⟩:=gJ bJ r1 hp;exact h1 _ _ _ a b c
 .rw[Vv hz]at h1;exact h1.elim
theorem FX{k:Nat}{fa:_V}{fd:FuncData}{ps:_S}{CX:wN}(F:fX X.prog X.w X.K X.mg X.base CX k fa fd ps (CJ ⟨X.K,X.mg,[]⟩ f))(hr:dn k X.A)(hg:Gl X x)(hm:X.mg x=some (.ref fa))(hk:W.keepIn X.K (.ref fa)=true)(hb:Binds X.K fd ps [])(hx:Passes CX X E)(ha:PA X (e::es) (tL X E ms))(kU:(x==("__debug__":Str))=false:=by decide)(he:starEach (e::es) X.env=(false,eval e X.env)::starEach es X.env:=by rfl)(i?:(backTo pos (starEach es X.env)).any (·.1)=false:=by rfl):
  PE X (.Call (.Name x p) (e::es) [] pos) (tE X E (aq f ms)):=by
 refine PE.imp (Fl F hr hg hm hk hb .nil hx ha kU he i?) ?_;rintro σ H Q ⟨μ,ρ,st,rs,sr,h⟩;refine go (R1:=aT X.K) μ ρ st rs sr h fun us aL ρ1 H1 xs e1 bJ r1 h1=>?_;rw[VL];exact⟨us,ρ1,aL,r1,bJ,wR.pn h1⟩
theorem gf{id:String}(hc:bc X (.builtin id) (cM (wo X) E f))(hg:Gl X x)(hm:X.mg x=none)(hv:bootBuiltins x=some (.builtin id))(ha:PA X (e::es) (tL X E ms))(hn:x ≠ "__name__":=by decide)(kU:(x==("__debug__":Str))=false:=by decide)(he:starEach (e::es) X.env=(false,eval e X.env)::starEach es X.env:=by rfl)(i?:(backTo pos (starEach es X.env)).any (·.1)=false:=by rfl):PE X (.Call (.Name x p) (e::es) [] pos) (tE X E (aq f ms)):=by refine PE.imp (vk hc hg hm hv ha hn kU he i?) ?_;rintro σ H Q ⟨μ,ρ,st,rs,sr,h⟩;exact go (R1:=aT X.K) μ ρ st rs sr h fun us aL ρ1 H1 xs e1 bJ r1 h1=>⟨ρ1,aL,us,bJ,r1,h1⟩
theorem g7{T:String}(hc:bc X (.type T) (cM (wo X) E f))(hg:Gl X x)(hm:X.mg x=none)(hv:bootBuiltins x=some (.type T))(ha:PA X (e::es) (tL X E ms))(hn:x ≠ "__name__":=by decide)(kU:(x==("__debug__":Str))=false:=by decide)(he:starEach (e::es) X.env=(false,eval e X.env)::starEach es X.env:=by rfl)(i?:(backTo pos (starEach es X.env)).any (·.1)=false:=by rfl):PE X (.Call (.Name x p) (e::es) [] pos) (tE X E (aq f ms)):=by refine PE.imp (Ao hc hg hm hv ha hn kU he i?) ?_;rintro σ H Q ⟨μ,ρ,st,rs,sr,h⟩;exact go (R1:=aT X.K) μ ρ st rs sr h fun us aL ρ1 H1 xs e1 bJ r1 h1=>⟨ρ1,aL,us,bJ,r1,h1⟩
end
section
variable{X:Cx}{E:XK}{pos:Pos}{a b:Expr}{ma mb:ME}{f:F2}
theorem Nq(hr:wO X (rM (wo X) E f))(ha:PE X a (tE X E ma))(hb:PE X b (tE X E mb))(hs:tZ b:=by exact fun _ _=>rfl):PE X (.Subscript a b pos) (tE X E (ah f ma mb)):=
 PE.imp (MR hr ha hb hs) fun _ _ _ h=>kW h
end
def wS(W:Wo)(E:XK)(ρ:_R)(H:Hp)(D:Ends):de->Prop
 |.nx μ st=>∀ρ' H' σ',aG ρ H ρ' H'->SR W.K ρ' st H'->RS W ρ' H' μ σ'->D.nx σ' H'
 |.rt v st=>∀ρ' H' x,aG ρ H ρ' H'->SR W.K ρ' st H'->Rl W.K ρ' H' v x->D.rt x H'
 |.bk μ st=>∀ρ' H' σ',aG ρ H ρ' H'->SR W.K ρ' st H'->RS W ρ' H' μ σ'->D.bk σ' H'
 |.ct μ st=>∀ρ' H' σ',aG ρ H ρ' H'->SR W.K ρ' st H'->RS W ρ' H' μ σ'->D.ct σ' H'
 |.er c _ st=>∃C,W.mg c=some (.ref C)/\∀ρ' H',aG ρ H ρ' H'->SR W.K ρ' st H'->E (.ref C) none H'
 |.bad=>False
theorem wS.mono{W:Wo}{E:XK}{ρ ρ':_R}{H H':Hp}{D:Ends}{r:de}(h:wS W E ρ H D r)(e:aG ρ H ρ' H'):wS W E ρ' H' D r:=by
 cases r with
 |nx μ st=>exact fun ρ2 H2 σ2 e2 s r=>h ρ2 H2 σ2 (e.trans e2) s r
 |rt v st=>exact fun ρ2 H2 x e2 s r=>h ρ2 H2 x (e.trans e2) s r
 |bk μ st=>exact fun ρ2 H2 σ2 e2 s r=>h ρ2 H2 σ2 (e.trans e2) s r
 |ct μ st=>exact fun ρ2 H2 σ2 e2 s r=>h ρ2 H2 σ2 (e.trans e2) s r
 |er c μ st=>obtain⟨C,h1,h2⟩:=h;exact⟨C,h1,fun ρ2 H2 e2 s=>h2 ρ2 H2 (e.trans e2) s⟩
 |bad=>exact h
def tS(X:Cx)(E:XK)(m:MB):TS:=fun D σ H=>∃μ ρ st,RS (wo X) ρ H μ σ/\SR X.K ρ st H/\wS (wo X) E ρ H D (m μ st)
@[reducible] def bI.sb{α:Type}(r:bI α)(μ:Env)(k:α->ae->de):de:=match r with
 |.ok a st=>k a st
 |.err c st=>.er c μ st
 |.bad=>.bad
theorem yW{α β:Type}{W:Wo}{E:XK}{R1:_R->Hp->α->β->Prop}{m:Env->ae->bI α}{k:α->ae->de}{σ:St}{H:Hp}{D:Ends}{Q':β->Hp->Prop}(μ:Env)(ρ:_R)(st:ae)(rs:RS W ρ H μ σ)(sr:SR W.K ρ st H)(h:wS W E ρ H D ((m μ st).sb μ k))(c:∀u aL ρ1 H1 x,aG ρ H ρ1 H1->SR W.K ρ1 aL H1->R1 ρ1 H1 u x->wS W E ρ1 H1 D (k u aL)->Q' x H1):tG W E R1 m σ H Q':=by
 refine⟨μ,ρ,st,rs,sr,?_⟩;cases e:m μ st with
 |ok u aL=>
  rw[e]at h;intro ρ1 H1 x e1 bJ r1;exact c u aL ρ1 H1 x e1 bJ r1 (wS.mono h e1)
 |err c aL=>rw[e]at h;exact h
 |bad=>rw[e]at h;exact h
def bg:MB:=fun μ st=>.nx μ st
def aw(a b:MB):MB:=fun μ st=>match a μ st with
 |.nx μ' az=>b μ' az
 |r=>r
def bA(m:ME):MB:=fun μ st=>(m μ st).sb μ fun _ az=>.nx μ az
def aO(m:ME):MB:=fun μ st=>(m μ st).sb μ fun v az=>.rt v az
def dY(t:MT)(a b:MB):MB:=fun μ st=>(t μ st).sb μ fun k az=>match k with
 |true=>a μ az
 |false=>b μ az
def aE(i:Nat)(m:ME):MB:=fun μ st=>(m μ st).sb μ fun v az=>.nx (μ.set i (some v)) az
def gP(c:Str)(m:MA):MB:=fun μ st=>(m μ st).sb μ fun vs az=>if vs.length<=sizeLine then .er c μ az else .bad
section
variable{X:Cx}{E:XK}{pos:Pos}{s1:Stmt}{rest:List Stmt}{e:Expr}{m:ME}{a b:MB}
theorem J9:j! X [] (tS X E bg):=j!.imp E7 fun D σ H⟨μ,ρ,st,rs,sr,h⟩=>h ρ H σ (aG.refl _ _) sr rs
theorem yX(h1:PS X s1 (tS X E a))(h2:j! X rest (tS X E b)):j! X (s1::rest) (tS X E (aw a b)):=by
 refine j!.imp (B0 h1 h2) ?_;rintro D σ H ⟨μ,ρ,st,rs,sr,h⟩;refine⟨μ,ρ,st,rs,sr,?_⟩;unfold aw at h;cases e:a μ st with
 |nx μ' az=>
  rw[e]at h;intro ρ1 H1 σ1 e1 bJ LM;exact⟨μ',ρ1,az,LM,bJ,wS.mono h e1⟩
 |rt v az=>rw[e]at h;exact h
 |bk μ' az=>rw[e]at h;exact h
 |ct μ' az=>rw[e]at h;exact h
 |er c μ' az=>rw[e]at h;exact h
 |bad=>rw[e]at h;exact h
theorem CK(h1:PS X s1 (tS X E a)):j! X [s1] (tS X E a):=E8 h1
theorem FY(he:PE X e (tE X E m))(hs:swapsWith e none pos.line X.env=pure false:=by rfl):PS X (.Expr e pos) (tS X E (bA m)):=by refine PS.imp (E9 he hs) ?_;rintro D σ H ⟨μ,ρ,st,rs,sr,h⟩;exact yW μ ρ st rs sr h fun u aL ρ1 H1 x e1 bJ r1 h1=>h1 ρ1 H1 σ (aG.refl _ _) bJ (rs.mono e1)
theorem J_(he:PE X e (tE X E m)):PS X (.Return (some e) pos) (tS X E (aO m)):=by refine PS.imp (IW he) ?_;rintro D σ H ⟨μ,ρ,st,rs,sr,h⟩;exact yW μ ρ st rs sr h fun u aL ρ1 H1 x e1 bJ r1 h1=>h1 ρ1 H1 x (aG.refl _ _) bJ r1
theorem Nr{c:Expr}{sa sb:List Stmt}{t:MT}(hc:PT X c (tT X E t))(ha:j! X sa (tS X E a))(hb:j! X sb (tS X E b)):PS X (.If c sa sb pos) (tS X E (dY t a b)):=by
 refine PS.imp (Mj hc ha hb) ?_;rintro D σ H ⟨μ,ρ,st,rs,sr,h⟩;refine yW (R1:=RB) μ ρ st rs sr h fun u aL ρ1 H1 x e1 bJ r1 h1=>?_;cases r1;cases u with
 |true=>rw[Vo rfl];exact⟨μ,ρ1,aL,rs.mono e1,bJ,h1⟩
 |false=>rw[Vv Vs];exact⟨μ,ρ1,aL,rs.mono e1,bJ,h1⟩
theorem vF{i:Nat}{D:Ends}{σ:St}{H:Hp}(h:tS X E (aE i m) D σ H):Fc (tE X E m) (vi i) D σ H:=by obtain⟨μ,ρ,st,rs,sr,h⟩:=h;exact yW μ ρ st rs sr h fun u aL ρ1 H1 x e1 bJ r1 h1=>h1 ρ1 H1 _ (aG.refl _ _) bJ ((rs.mono e1).set i r1)
theorem J!(i:Nat){x:Str}{pos':Pos}(hN:X.N.Nodup)(he:PE X e (tE X E m))(hi:X.N[i]?=some x:=by rfl)(hx:Loc X.env.scope x:=by first|exact Or.inl rfl|exact Or.inr rfl)(hs:swapsWith e (some (.Name x pos')) pos.line X.env=pure false:=by rfl)(hf:X.fn x=true\/X.env.scope.names.lookup x=some .local:=by first|exact .inl rfl|exact .inr rfl|assumption):PS X (.Assign [.Name x pos'] e pos) (tS X E (aE i m)):=
 PS.imp (I_ hN hi hx he hs hf) fun _ _ _ h=>vF h
theorem CL{x:Str}{C:_V}{B newId xy:String}{bm:_P}{np br:Pos}{e₀:Expr}{es:List Expr}{ms:MA}(hX:Raises X E)(hc:X.calm=true)(hm:X.mg x=some (.ref C))(hq:W.excIn X.K C bm newId=true)(FB:ExcBaseFacts B newId xy bm)(hg:Gl X x)(ha:PA X (e₀::es) (tL X E ms))(he:starEach (e₀::es) X.env=(false,eval e₀ X.env)::starEach es X.env:=by rfl)(i?:(backTo br (starEach es X.env)).any (·.1)=false:=by rfl)(hd:(x==("__debug__":Str))=false:=by decide):
  PS X (.Raise (some (.Call (.Name x np) (e₀::es) [] br)) none pos) (tS X E (gP x ms)):=by
 refine PS.imp (CG (E:=E) hX hc hm hq FB hg ha he i? hd) ?_;rintro D σ H ⟨μ,ρ,st,rs,sr,h⟩;refine yW (R1:=aT X.K) μ ρ st rs sr h fun us aL ρ1 H1 xs e1 bJ r1 h1=>?_;by_cases hz:us.length<=sizeLine
 .rw[Vo hz]at h1;obtain⟨C',q1,q2⟩:=h1;have e:C'=C:=by have:=q1.symm.trans hm;injection this with this;injection this
  subst e;exact⟨by rw[<-r1.length];exact hz,q2 ρ1 H1 (aG.refl _ _) bJ⟩
 .rw[Vv hz]at h1;exact h1.elim
end
def eg(np n:Nat)(body:MB):FN:=fun us st=>if us.length=np then(match body (us.map some++List.replicate (n-np) none) st with
 |.nx _ az=>.ok .bR az
 |.rt v az=>.ok v az
 |.er c _ az=>.err c az
 |_=>.bad)else .bad
theorem RS.start{W:Wo}{ρ:_R}{H:Hp}{N:_S}{us:List ak}{vs:List V}(r:aT W.K ρ H us vs):RS W ρ H (us.map some++List.replicate (N.length-us.length) none) (L2.start N vs):=by
 have hl:=r.length;refine⟨by simp[L2.start,hl],fun i u e=>?_⟩;rcases WY i us.length with q|q
 .rw[V7 (by rw[Vi];exact q),VB]at e;have e':us[i]?=some u:=by
   cases z:us[i]? with
   |none=>rw[z]at e;cases e
   |some w=>rw[z]at e;exact We _ (VO (VO e))
  obtain⟨v,h1,h2⟩:=r.get e';refine⟨v,?_,CI.of h2⟩;unfold L2.start;rw[V7 (by rw[Vi,<-hl];exact q),VB,h1];rfl
 .rw[Vy (by rw[Vi];exact q)]at e;rw[XQ]at e;split at e
  .cases e
  .cases e
section
variable{P:_X}{w:World}{K:_N}{mg:_L}{base:Heap}
theorem ug{x qual:Str}{st:Stmt}{f:_V}{fd:FuncData}{N ps:_S}{k:Nat}{body:MB}(F:ES K x qual st f fd)(S:cN N ps (aH st))
  (h:∀ (dC:_T) (A:_W) (outer:List PySem.Env) (s:_U) (H:Hp) (E:XK),dn k (A.deeper (envOfC qual (aH st) s.heap.objs.size f dC)) ->
   j! (fY (jA P w) P w K mg base N qual (aH st) f dC A outer s H E) (cA st) (tS (fY (jA P w) P w K mg base N qual (aH st) f dC A outer s H E) E body)):
  fX P w K mg base (jA P w) (k+1) f fd ps (CJ ⟨K,mg,[]⟩ (eg ps.length N.length body)):=by
 refine F.U3 S (fun vs H Q E q=>?_) (fun dC A outer s H vs Q E hr q=>⟨_,h dC A outer s H E hr,?_⟩)
 .obtain⟨us,ρ,st,r,sr,q⟩:=q;by_cases hl:us.length=ps.length
  .rw[<-r.length];exact hl
  .unfold eg at q;rw[Vv hl]at q;exact q.elim
 .obtain⟨us,ρ,az,r,sr,q⟩:=q;unfold eg at q;by_cases hl:us.length=ps.length
  .rw[Vo hl,<-hl]at q;refine⟨_,ρ,az,RS.start r,sr,?_⟩;revert q;cases body (us.map some++List.replicate (N.length-us.length) none) az with
   |nx μ st2=>exact fun q ρ' H' σ' e s _=>q ρ' H' .bR e s Rl.vA
   |rt v st2=>exact fun q=>q
   |er c μ st2=>exact fun q=>q
   |bk μ st2=>exact fun q=>q.elim
   |ct μ st2=>exact fun q=>q.elim
   |bad=>exact fun q=>q.elim
  .rw[Vv hl]at q;exact q.elim
end
def Sz(i:Int):Prop:=i.natAbs.log2<1000000
instance (i:Int):Decidable (Sz i):=inferInstanceAs (Decidable (_<_))
theorem Sz.big{i:Int}(h:Sz i):oh 1000001 i:=by show _<_;have h1:i.natAbs<2 ^ (i.natAbs.log2+1):=_A;exact VC h1 (Wa (by decide) (by have:i.natAbs.log2<1000000:=h;lia))
theorem Sz.of{k:Nat}{i:Int}(h:oh k i)(hk:k<=1000000):Sz i:=by
 show i.natAbs.log2<1000000;have h':i.natAbs<2 ^ k:=h;by_cases z:i.natAbs=0
 .rw[z];decide
 .exact VC ((YH z).mpr h') hk
theorem Sz.mul{i j:Int}(h:Sz i)(k:Sz j):yS i j:=⟨_,_,h.big,k.big,by decide,by decide⟩
def Dz(i:Int):Prop:=i≠0/\i.natAbs.log2<8000
instance (i:Int):Decidable (Dz i):=inferInstanceAs (Decidable (_/\_))
theorem Dz.ok{i j:Int}(h:Dz j):yT i j:=by refine⟨h.1,?_⟩;show _<_;have h1:j.natAbs<2 ^ (j.natAbs.log2+1):=_A;exact VC h1 (Wa (by decide) (by have:=h.2;lia))
theorem Dz.of{k:Nat}{i:Int}(h0:i≠0)(h:oh k i)(hk:k<=8000):Dz i:=by refine⟨h0,?_⟩;have h':i.natAbs<2 ^ k:=h;exact VC ((YH (by lia)).mpr h') hk
def MulOk(i j:Int):Prop:=(Sz i/\Sz j)\/B4 i j
instance (i j:Int):Decidable (B4 i j):=inferInstanceAs (Decidable (_\/_))
instance (i j:Int):Decidable (MulOk i j):=inferInstanceAs (Decidable (_\/_))
instance (i j:Int):Decidable (P? i j):=inferInstanceAs (Decidable (_/\_/\_))
def CM(k:Nat)(us:List ak):List ak:=(List.replicate k us).flatten
def cb:F2
 |.int i,.int j,st=>.ok (.int (i+j)) st
 |.str a,.str b,st=>if a.length+b.length<=sizeLine then .ok (.str (a++b)) st else .bad
 |.tup us,.tup ws,st=>if us.length+ws.length<=sizeLine then .ok (.tup (us++ws)) st else .bad
 |.loc n,.loc m,st=>match st[n]?,st[m]? with
  |some (.lst us),some (.lst ws)=>if us.length+ws.length<=sizeLine then .ok (.loc st.length) (st++[.lst (us++ws)])else .bad
  |_,_=>.bad
 |_,_,_=>.bad
def ou(g:Int->Int->ae->bI ak):F2
 |.int i,.int j,st=>g i j st
 |_,_,_=>.bad
theorem FZ(g:Int->Int->ae->bI ak)(u w:ak)(st:ae):(∃i j,u=.int i/\w=.int j)\/ou g u w st=.bad:=by
 cases u with
 |int i=>
  cases w with
  |int j=>exact .inl ⟨i,j,rfl,rfl⟩
  |_=>exact .inr rfl
 |_=>exact .inr rfl
theorem e_{g:Int->Int->ae->bI ak}{W:Wo}{E:XK}{ρ:_R}{st:ae}{H:Hp}{Q:VK}{u w:ak}(h:wR W E (Rl W.K) ρ H Q (ou g u w st)):∃i j,u=.int i/\w=.int j/\wR W E (Rl W.K) ρ H Q (g i j st):=by
 rcases FZ g u w st with⟨i,j,rfl,rfl⟩|z
 .exact⟨i,j,rfl,rfl,h⟩
 .rw[z]at h;exact h.elim
def dr:F2:=ou fun i j st=>.ok (.int (i-j)) st
def cf:F2
 |.int i,.int j,st=>if MulOk i j then .ok (.int (i*j)) st else .bad
 |.loc n,.int k,st=>match st[n]? with
  |some (.lst us)=>if -(2 ^ 63)<=k/\k<2 ^ 63/\us.length*k.toNat<=sizeLine then .ok (.loc st.length) (st++[.lst (CM k.toNat us)])else .bad
  |_=>.bad
 |_,_,_=>.bad
def je:F2:=ou fun i j st=>if Dz j then .ok (.int (i.fdiv j)) st else .bad
def cK:F2:=ou fun i j st=>if j=0 then .bad else .ok (.int (i.fmod j)) st
def ltV:F2:=ou fun i j st=>.ok (.bl (decide (i<j))) st
def qX:F2:=ou fun i j st=>.ok (.bl (decide (j<i))) st
def O4:F2:=ou fun i j st=>.ok (.bl (decide (j<=i))) st
section
variable{X:Cx}{E:XK}
theorem bP{W:Wo}{ρ:_R}{st:ae}{H:Hp}{Q:VK}{i:Int}(sr:SR W.K ρ st H)(h:wR W E (Rl W.K) ρ H Q (.ok (.int i) st)):Q (.int i) H:=h ρ H _ (aG.refl _ _) sr (Rl.mkInt i)
theorem d0{W:Wo}{ρ:_R}{st:ae}{H:Hp}{Q:VK}{i:Bool}(sr:SR W.K ρ st H)(h:wR W E (Rl W.K) ρ H Q (.ok (.bl i) st)):Q (.bl i) H:=h ρ H _ (aG.refl _ _) sr (Rl.CH i)
theorem aT.Nt{K:_N}{ρ:_R}{H:Hp}{us:List ak}{xs:List V}(r:aT K ρ H us xs):∀k:Nat,aT K ρ H (CM k us) (List.replicate k xs).flatten
 |0=>aT.nil
 |k+1=>by unfold CM;rw[WA,WA,Xl,Xl];exact r.append (aT.Nt r k)
theorem CN:c5 X (binaryOp .Add) (fun x y H Q=>∃a b ys,x=.ref a/\y=.ref b/\jz X.K H a []/\jz X.K H b ys/\Q (.ref b) H):=by
 intro ag s σ H x y v u Q I rx ry h;obtain⟨a,b,ys,rfl,rfl,ha,hb,q⟩:=h;cases rx;cases ry;obtain⟨aD,r1,p1,_⟩:=I.tuple ha;obtain⟨cy,r2,p2,_⟩:=I.tuple hb;cases r1;obtain⟨⟨cls,dd,data,sl⟩,ho,hc,n,hd⟩:=id p1;obtain⟨⟨Qe,OO,data2,MP⟩,n!,tW,n2,hd2⟩:=id p2;simp only at hc hd tW hd2;subst hc hd tW hd2;exact _w ⟨_,ho,rfl⟩ ⟨_,n!,rfl⟩ Zw _b Yq Ym (Yc _ _)
  (tuple_addW0 a b #[] cy.toArray n n2 dd OO sl MP (by simp)) ⟨ho,n!,⟨.ref b,H,I,rfl,q⟩⟩
theorem F0:c5 X (binaryOp .Add) (rM (wo X) E cb):=by
 refine c5.imp (c5.or Je (c5.or xa (c5.or Jw (c5.or Fp CN)))) ?_;rintro x y H Q ⟨ρ,st,u,w,sr,r1,r2,h⟩;cases u<;>cases w<;>try exact h.elim
 case int.int i j=>exact .inl ⟨i,j,r1.bK,r2.bK,bP sr h⟩
 case str.str a b=>
  unfold cb at h;dsimp only at h;split at h
  .rename_i hz;exact .inr (.inl ⟨a,b,r1.iT,r2.iT,hz,h ρ H _ (aG.refl _ _) sr (Rl.mkStr _)⟩)
  .exact h.elim
 case tup.tup us ws=>
  unfold cb at h;dsimp only at h;split at h
  .rename_i hz;obtain⟨a,xs,rfl,ha,ra⟩:=r1.fe;obtain⟨b,ys,rfl,hb,rb⟩:=r2.fe;by_cases hx:xs=[]
   .subst hx;have hu:us=[]:=Xa ra.length;subst hu;exact .inr (.inr (.inr (.inr ⟨a,b,ys,rfl,rfl,ha,hb,h ρ H _ (aG.refl _ _) sr r2⟩)))
   .refine .inr (.inr (.inr (.inl ⟨a,b,xs,ys,rfl,rfl,ha,hb,hx,by rw[<-ra.length,<-rb.length];exact hz,fun hy=>?_,fun hy p hp=>?_⟩)))
    .subst hy;have hw:ws=[]:=Xa rb.length;subst hw;rw[VL]at h;exact h ρ H _ (aG.refl _ _) sr r1
    .have s:=bW (o:=.tup (xs++ys)) hp;exact h ρ _ _ (aG.same s) (sr.grow s) (Rl.j? a! (aT.mono (aG.same s) _ _ (ra.append rb)))
  .exact h.elim
 case loc.loc n m=>
  unfold cb at h;dsimp only at h;split at h
  .rename_i us ws e1 e2;split at h
   .rename_i hz;obtain⟨a,rfl,ha⟩:=r1.cD;obtain⟨b,rfl,hb⟩:=r2.cD;obtain⟨xs,h1,q1⟩:=sr.cell n _ a e1 ha;obtain⟨ys,h2,q2⟩:=sr.cell m _ b e2 hb;refine .inr (.inr (.inl ⟨a,b,xs,ys,rfl,rfl,h1,h2,by rw[<-q1.length,<-q2.length];exact hz,fun p hp=>?_⟩));obtain⟨k1,k2,k3⟩:=gJ sr (q1.append q2) hp;exact h _ _ _ k1 k2 k3
   .exact h.elim
  .exact h.elim
theorem F3:c5 X (binaryOp .Sub) (rM (wo X) E dr):=by refine c5.imp Jf ?_;rintro x y H Q ⟨ρ,st,u,w,sr,r1,r2,h⟩;obtain⟨i,j,rfl,rfl,q⟩:=e_ h;exact⟨i,j,r1.bK,r2.bK,bP sr q⟩
theorem F5:c5 X (binaryOp .Mult) (rM (wo X) E cf):=by
 refine c5.imp (c5.or FD (c5.or Jg Jx)) ?_;rintro x y H Q ⟨ρ,st,u,w,sr,r1,r2,h⟩;cases u<;>cases w<;>try exact h.elim
 case int.int i j=>
  unfold cf at h;dsimp only at h;split at h
  .rename_i hz;rcases hz with hz|hz
   .exact .inl ⟨i,j,r1.bK,r2.bK,hz.1.mul hz.2,bP sr h⟩
   .exact .inr (.inl ⟨i,j,r1.bK,r2.bK,hz,bP sr h⟩)
  .exact h.elim
 case loc.int n k=>
  unfold cf at h;dsimp only at h;split at h
  .rename_i us e1;split at h
   .rename_i hz;obtain⟨a,rfl,ha⟩:=r1.cD;obtain⟨xs,h1,q1⟩:=sr.cell n _ a e1 ha;refine .inr (.inr ⟨a,k,xs,rfl,r2.bK,h1,hz.1,hz.2.1,by rw[<-q1.length];exact hz.2.2,fun p hp=>?_⟩);obtain⟨k1,k2,k3⟩:=gJ sr (q1.Nt k.toNat) hp;exact h _ _ _ k1 k2 k3
   .exact h.elim
  .exact h.elim
theorem CO:c5 X (binaryOp .FloorDiv) (rM (wo X) E je):=by
 refine c5.imp Cu ?_;rintro x y H Q ⟨ρ,st,u,w,sr,r1,r2,h⟩;obtain⟨i,j,rfl,rfl,h0⟩:=e_ h;clear h;have h:=h0;clear h0
 .split at h
  .rename_i hz;exact⟨i,j,r1.bK,r2.bK,hz.ok,bP sr h⟩
  .exact h.elim
theorem F6:c5 X (binaryOp .Mod) (rM (wo X) E cK):=by
 refine c5.imp Ff ?_;rintro x y H Q ⟨ρ,st,u,w,sr,r1,r2,h⟩;obtain⟨i,j,rfl,rfl,h0⟩:=e_ h;clear h;have h:=h0;clear h0
 .split at h
  .exact h.elim
  .rename_i hz;exact⟨i,j,r1.bK,r2.bK,hz,bP sr h⟩
theorem CP:c5 X (compareOp .Lt) (rM (wo X) E ltV):=by refine c5.imp Mu ?_;rintro x y H Q ⟨ρ,st,u,w,sr,r1,r2,h⟩;obtain⟨i,j,rfl,rfl,q⟩:=e_ h;exact⟨i,j,r1.bK,r2.bK,d0 sr q⟩
theorem CQ:c5 X (compareOp .Gt) (rM (wo X) E qX):=by refine c5.imp Mw ?_;rintro x y H Q ⟨ρ,st,u,w,sr,r1,r2,h⟩;obtain⟨i,j,rfl,rfl,q⟩:=e_ h;exact⟨i,j,r1.bK,r2.bK,d0 sr q⟩
theorem CS:c5 X (compareOp .GtE) (rM (wo X) E O4):=by refine c5.imp Mx ?_;rintro x y H Q ⟨ρ,st,u,w,sr,r1,r2,h⟩;obtain⟨i,j,rfl,rfl,q⟩:=e_ h;exact⟨i,j,r1.bK,r2.bK,d0 sr q⟩
def mG(m:ME):ME:=fun μ st=>(m μ st).bind fun v az=>match v with
 |.int i=>.ok (.int (-i)) az
 |_=>.bad
theorem J?{a:Expr}{m:ME}{pos:Pos}(h:PE X a (tE X E m)):PE X (.UnaryOp .USub a pos) (tE X E (mG m)):=by
 refine PE.imp (Ms Jj h) ?_;rintro σ H Q ⟨μ,ρ,st,rs,sr,h⟩;refine go μ ρ st rs sr h fun u aL ρ1 H1 x e1 bJ r1 h1=>?_;cases u with
 |int i=>exact⟨i,r1.bK,bP bJ h1⟩
 |_=>exact h1.elim
end
def flat:ak->Bool
 |.bR=>true
 |.bl _=>true
 |.int _=>true
 |.str _=>true
 |_=>false
def Ka:ak->ak->Bool
 |.bR,.bR=>true
 |.bl a,.bl b=>a==b
 |.bl a,.int b=>(if a then 1 else 0)==b
 |.int a,.bl b=>a==(if b then 1 else 0)
 |.int a,.int b=>a==b
 |.str a,.str b=>a==b
 |_,_=>false
def ai(st:ae)(n:Nat):Option (List ak):=match st[n]? with
 |some (.lst us)=>some us
 |some (.JT us)=>some us
 |some (.mod us)=>some us
 |_=>none
inductive Vw where
 |lst (us:List ak)|tup (us:List ak)|nU
def vw(st:ae):ak->Option Vw
 |.tup us=>some (.tup us)
 |.loc n=>(ai st n).map .lst
 |.bR=>some .nU
 |.bl _=>some .nU
 |.int _=>some .nU
 |.str _=>some .nU
 |_=>none
def iU(f:ak->ak->Option Bool):List ak->List ak->Option Bool
 |[],[]=>some true
 |x::xs,y::ys=>match f x y,iU f xs ys with
  |some a,some b=>some (a&&b)
  |_,_=>none
 |[],_::_=>some false
 |_::_,[]=>some false
def iQ:Nat->ae->ak->ak->Option Bool
 |0,_,_,_=>none
 |n+1,st,u,w=>match vw st u,vw st w with
  |some (.tup us),some (.tup ws)=>iU (iQ n st) us ws
  |some (.lst us),some (.lst ws)=>iU (iQ n st) us ws
  |some .nU,some .nU=>some (Ka u w)
  |some _,some _=>some false
  |_,_=>none
theorem pB{f:ak->ak->Option Bool}:∀{us ws:List ak}{b:Bool},iU f us ws=some b->us.length≠ws.length->b=false
 |[],[],_,_,h=>absurd rfl h
 |[],_::_,b,e,_=>by injection e with e;exact e.symm
 |_::_,[],b,e,_=>by injection e with e;exact e.symm
 |x::xs,y::ys,b,e,h=>by
  unfold iU at e;split at e
  .rename_i a c h1 h2;injection e with e;rw[<-e,pB h2 (fun z=>h (by simp[z])),XG]
  .cases e
theorem yY{f:ak->ak->Option Bool}:∀{us ws:List ak}{b:Bool},iU f us ws=some b->∀(j:Nat)(u w:ak),us[j]?=some u->ws[j]?=some w->∃c,f u w=some c
 |[],_,_,_,j,u,w,h1,_=>by cases h1
 |_::_,[],_,_,j,u,w,_,h2=>by cases h2
 |x::xs,y::ys,b,e,j,u,w,h1,h2=>by
  unfold iU at e;split at e
  .rename_i a c q1 q2;cases j with
   |zero=>cases h1;cases h2;exact⟨a,q1⟩
   |succ j=>exact yY q2 j u w h1 h2
  .cases e
def O5(f:ak->ak->Option Bool)(us ws:List ak)(j:Nat):Bool:=match us[j]?,ws[j]? with
 |some u,some w=>(f u w).getD true
 |_,_=>true
theorem pC{f:ak->ak->Option Bool}:∀{us ws:List ak}{b:Bool},iU f us ws=some b->us.length=ws.length->(List.range us.length).all (O5 f us ws)=b
 |[],[],b,e,_=>by injection e
 |[],_::_,_,_,h=>by simp at h
 |_::_,[],_,_,h=>by simp at h
 |x::xs,y::ys,b,e,h=>by
  have h':xs.length=ys.length:=by simpa using h
  unfold iU at e;split at e
  .rename_i a c q1 q2;injection e with e;rw[Vn,ZS,YJ,List.all_map,<-e,<-pC q2 h'];congr 1;show(f x y).getD true=a;rw[q1];rfl
  .cases e
section
variable{X:Cx}{ag:_M}{σ:St}{H:Hp}{s:_U}{ρ:_R}{st:ae}
theorem a_(sr:SR X.K ρ st H){n:Nat}{us:List ak}{a:_V}(h:ai st n=some us)(ha:ρ[n]?=some a):∃vs,iY X.K H a vs/\aT X.K ρ H us vs:=by
 unfold ai at h;split at h
 .rename_i ws e;cases h;obtain⟨vs,h1,h2⟩:=sr.cell n _ a e ha;exact⟨vs,iY.of h1,h2⟩
 .rename_i ws e;cases h;obtain⟨o,vs,h1,h2⟩:=sr.cell n _ a e ha;exact⟨vs,.inl (.inr ⟨o,h1⟩),h2⟩
 .rename_i ws e;cases h;obtain⟨vs,h1,h2⟩:=sr.cell n _ a e ha;exact⟨vs,.inr h1,h2⟩
 .cases h
theorem yZ(I:aI X ag σ H s)(sr:SR X.K ρ st H):∀(n:Nat)(u w:ak)(x:V)(b:Bool),Rl X.K ρ H u x->Rl X.K ρ H w x->iQ n st u w=some b->b=true
 |0,_,_,_,_,_,_,e=>by cases e
 |n+1,u,w,x,b,r1,r2,e=>by
  have lst:∀(us ws:List ak)(vs:List V)(b:Bool),aT X.K ρ H us vs->aT X.K ρ H ws vs->iU (iQ n st) us ws=some b->b=true:=by
   intro us
   induction us with
   |nil=>
    intro ws vs b h1 h2 e;have:=h1.dE;subst this;have hw:ws=[]:=Xa h2.length;subst hw;injection e with e;exact e.symm
   |cons u us ih=>
    intro ws vs b h1 h2 e;obtain⟨v,r,rfl,q1,q2⟩:=h1.bC;cases ws with
    |nil=>have:=h2.dE;cases this
    |cons w ws=>
     obtain⟨v',r',e',q3,q4⟩:=h2.bC;cases e';unfold iU at e;split at e
     .rename_i a c z1 z2;injection e with e;rw[<-e,yZ I sr n u w v a q1 q3 z1,ih ws r c q2 q4 z2];rfl
     .cases e
  unfold iQ at e;cases u<;>cases w<;>dsimp only[vw]at e<;>try (cases e;done)
  all_goals first
   |(have z1:=Rl.bK r1;subst z1;have z2:=Rl.bK r2;cases z2;injection e with e;rw[<-e];exact Wx _)
   |(have z1:=Rl.rf r1;subst z1;have z2:=Rl.rf r2;cases z2;injection e with e;rw[<-e];exact Wx _)
   |(have z1:=Rl.iT r1;subst z1;have z2:=Rl.iT r2;cases z2;injection e with e;rw[<-e];exact Wx _)
   |(have z1:=Rl.ir r1;subst z1;injection e with e;exact e.symm)
   |skip
  case tup.tup us ws=>
   obtain⟨a,vs,rfl,ha,ra⟩:=r1.fe;obtain⟨a',pD,ea,hb,rb⟩:=r2.fe;cases ea;have:=I.mn ha hb;subst this;exact lst us ws vs b ra rb e
  case loc.loc i j=>
   obtain⟨a,rfl,ha⟩:=r1.cD;obtain⟨a',ea,hb⟩:=r2.cD;cases ea;cases z:ai st i with
   |none=>rw[z]at e;cases e
   |some us=>
    cases z2:ai st j with
    |none=>rw[z,z2]at e;cases e
    |some ws=>
     rw[z,z2]at e;obtain⟨vs,s1,rv⟩:=a_ sr z ha;obtain⟨pD,s2,U!⟩:=a_ sr z2 hb;have:=I.kS s1 s2;subst this;exact lst us ws vs b rv U! e
  all_goals (exfalso;first
   |(have z1:=Rl.bK r1;subst z1;first|(have z2:=Rl.rf r2;cases z2;done)|(have z2:=Rl.iT r2;cases z2;done)|(have z2:=Rl.ir r2;cases z2;done)|(obtain⟨_,_,z2,_⟩:=r2.fe;cases z2;done)|(obtain⟨_,z2,_⟩:=r2.cD;cases z2;done))
   |(have z1:=Rl.rf r1;subst z1;first|(have z2:=Rl.bK r2;cases z2;done)|(have z2:=Rl.iT r2;cases z2;done)|(have z2:=Rl.ir r2;cases z2;done)|(obtain⟨_,_,z2,_⟩:=r2.fe;cases z2;done)|(obtain⟨_,z2,_⟩:=r2.cD;cases z2;done))
   |(have z1:=Rl.iT r1;subst z1;first|(have z2:=Rl.bK r2;cases z2;done)|(have z2:=Rl.rf r2;cases z2;done)|(have z2:=Rl.ir r2;cases z2;done)|(obtain⟨_,_,z2,_⟩:=r2.fe;cases z2;done)|(obtain⟨_,z2,_⟩:=r2.cD;cases z2;done))
   |(have z1:=Rl.ir r1;subst z1;first|(have z2:=Rl.bK r2;cases z2;done)|(have z2:=Rl.rf r2;cases z2;done)|(have z2:=Rl.iT r2;cases z2;done)|(obtain⟨_,_,z2,_⟩:=r2.fe;cases z2;done)|(obtain⟨_,z2,_⟩:=r2.cD;cases z2;done))
   |(obtain⟨_,_,z1,_⟩:=r1.fe;subst z1;first|(have z2:=Rl.bK r2;cases z2;done)|(have z2:=Rl.rf r2;cases z2;done)|(have z2:=Rl.iT r2;cases z2;done)|(have z2:=Rl.ir r2;cases z2;done))
   |(obtain⟨_,z1,_⟩:=r1.cD;subst z1;first|(have z2:=Rl.bK r2;cases z2;done)|(have z2:=Rl.rf r2;cases z2;done)|(have z2:=Rl.iT r2;cases z2;done)|(have z2:=Rl.ir r2;cases z2;done))
   |skip)
  case tup.loc us j=>
   obtain⟨a,vs,rfl,ha,ra⟩:=r1.fe;obtain⟨a',ea,hb⟩:=r2.cD;cases ea;cases z:ai st j with
   |none=>rw[z]at e;cases e
   |some sI=>
    obtain⟨ws,hw,_⟩:=a_ sr z hb;obtain⟨_,_,p1,_⟩:=I.tuple ha;obtain⟨_,_,p2,_⟩:=I.list hw;exact _x p2.isList p1 rfl
  case loc.tup i us=>
   obtain⟨a,rfl,ha⟩:=r1.cD;obtain⟨a',vs,ea,hb,rb⟩:=r2.fe;cases ea;cases z:ai st i with
   |none=>rw[z]at e;cases e
   |some sI=>
    obtain⟨ws,hw,_⟩:=a_ sr z ha;obtain⟨_,_,p1,_⟩:=I.tuple hb;obtain⟨_,_,p2,_⟩:=I.list hw;exact _x p2.isList p1 rfl
  all_goals (cases z:ai st _<;>rw[z]at e<;>cases e)
def CT(X:Cx)(ρ:_R)(H:Hp)(s:_U):Vw->ak->_T->Prop
 |.tup us,_,v=>∃a aD vs,v=.ref a/\s.heap.IsTuple a (List.toArray aD)/\aV vs aD/\aT X.K ρ H us vs
 |.lst us,_,v=>∃a aD vs,v=.ref a/\s.heap.IsList a (List.toArray aD)/\aV vs aD/\aT X.K ρ H us vs
 |.nU,u,v=>(u=.bR/\v=.none)\/(∃b,u=.bl b/\v=.bool b)\/(∃i t,u=.int i/\v=.int i t)\/(∃z t,u=.str z/\v=.str z t)
theorem seen(I:aI X ag σ H s)(sr:SR X.K ρ st H){u:ak}{x:V}{v:_T}{k:Vw}(r:Rl X.K ρ H u x)(q:bb x v)(h:vw st u=some k):CT X ρ H s k u v:=by
 cases u with
 |bR=>cases h;have:=r.ir;subst this;exact .inl ⟨rfl,q⟩
 |bl b=>cases h;have:=r.rf;subst this;exact .inr (.inl ⟨b,rfl,q⟩)
 |int i=>cases h;have:=r.bK;subst this;obtain⟨t,q⟩:=q;exact .inr (.inr (.inl ⟨i,t,rfl,q⟩))
 |str z=>cases h;have:=r.iT;subst this;obtain⟨t,q⟩:=q;exact .inr (.inr (.inr ⟨z,t,rfl,q⟩))
 |tup us=>
  cases h;obtain⟨a,vs,rfl,ha,ra⟩:=r.fe;obtain⟨aD,r1,p1,_⟩:=I.tuple ha;exact⟨a,aD,vs,q,p1,r1,ra⟩
 |loc n=>
  obtain⟨a,rfl,ha⟩:=r.cD;cases z:ai st n with
  |none=>simp only[vw,z]at h;cases h
  |some us=>
   simp only[vw,z]at h;cases h;obtain⟨vs,hs,rv⟩:=a_ sr z ha;obtain⟨aD,r1,p1,_⟩:=I.list hs;exact⟨a,aD,vs,q,p1.isList,r1,rv⟩
 |exc c=>cases h
 |fn k c=>cases h
 |mt us=>cases h
theorem CU{A:_W}{f:ak->ak->Option Bool}{us ws:List ak}{xs ys:List V}{aD cy:_P}{b:Bool}(e:iU f us ws=some b)(ra:aT X.K ρ H us xs)(rb:aT X.K ρ H ws ys)(va:aV xs aD)(vb:aV ys cy)(ih:∀u w x y vu vw c,Rl X.K ρ H u x->bb x vu->Rl X.K ρ H w y->bb y vw->f u w=some c->SeqAt.EqAt A s vu vw c):
  ∀j(h1:j<aD.toArray.size)(h2:j<cy.toArray.size),SeqAt.EqAt A s aD.toArray[j] cy.toArray[j] (O5 f us ws j):=by
 intro j h1 h2;have l1:=va.length;have l2:=vb.length;have l3:=ra.length;have l4:=rb.length;simp only[Vx]at h1 h2;have e1:us[j]?=some us[j]:=Vq (by lia);have e2:ws[j]?=some ws[j]:=Vq (by lia);obtain⟨x,hx,rx⟩:=ra.get e1;obtain⟨y,hy,ry⟩:=rb.get e2;obtain⟨u,hu,ru⟩:=va.get hx;obtain⟨v,hv,rv⟩:=vb.get hy;have q1:aD.toArray[j]=u:=by obtain⟨_,e⟩:=V6.mp hu;simpa using e
 have q2:cy.toArray[j]=v:=by obtain⟨_,e⟩:=V6.mp hv;simpa using e
 obtain⟨c,hc⟩:=yY e j _ _ e1 e2;rw[q1,q2];unfold O5;rw[e1,e2];dsimp only;rw[hc];exact ih _ _ _ _ _ _ c rx ru ry rv hc
theorem in1_units(A:_W):A.in1.units=A.units+1:=by rfl
theorem Kb{A:_W}(I:aI X ag σ H s)(sr:SR X.K ρ st H)(n:Nat)(ih:∀u w x y vu vw c,Rl X.K ρ H u x->bb x vu->Rl X.K ρ H w y->bb y vw->iQ n st u w=some c->SeqAt.EqAt A.in1 s vu vw c)(hu:A.units<cLine){u w:ak}{x y:V}{v1 v2:_T}{b:Bool}(r1:Rl X.K ρ H u x)(q1:bb x v1)(r2:Rl X.K ρ H w y)(q2:bb y v2)(e:iQ (n+1) st u w=some b):SeqAt.RcAt A s v1 v2 b/\SeqAt.RcNeAt A s v1 v2 (!b):=by
 unfold iQ at e;cases z1:vw st u with
 |none=>rw[z1]at e;cases e
 |some k1=>
  cases z2:vw st w with
  |none=>rw[z1,z2]at e;cases k1<;>cases e
  |some k2=>
   rw[z1,z2]at e;have s1:=seen I sr r1 q1 z1;have s2:=seen I sr r2 q2 z2;cases k1 with
   |tup us=>
    obtain⟨a,aD,xs,rfl,p1,va,ra⟩:=s1;cases k2 with
    |tup ws=>
     obtain⟨a2,cy,ys,rfl,p2,vb,rb⟩:=s2;have el:=CU e ra rb va vb ih;have l1:=va.length;have l2:=vb.length;have l3:=ra.length;have l4:=rb.length;have hb:((List.range (min aD.toArray.size cy.toArray.size)).all (O5 (iQ n st) us ws)&&aD.toArray.size==cy.toArray.size)=b:=by
      by_cases hl:us.length=ws.length
      .rw[show min aD.toArray.size cy.toArray.size=us.length by simp only[Vx];lia,pC e hl,show(aD.toArray.size==cy.toArray.size)=true by simp only[Vx,Wu];lia,Yh]
      .rw[show(aD.toArray.size==cy.toArray.size)=false by simp only[Vx,VV];lia,XG];exact(pB e hl).symm
     have g1:=SeqAt.RcAt.tuples p1 p2 hu el;have g2:=SeqAt.RcNeAt.tuples p1 p2 hu el;rw[hb]at g1 g2;exact⟨g1,g2⟩
    |lst ws=>
     obtain⟨a2,cy,ys,rfl,p2,vb,rb⟩:=s2;cases e;exact⟨SeqAt.RcAt.tuple_list p1 p2 hu,SeqAt.RcNeAt.tuple_list p1 p2 hu⟩
    |nU=>
     cases e;rcases s2 with⟨_,rfl⟩|⟨k,_,rfl⟩|⟨k,t,_,rfl⟩|⟨k,t,_,rfl⟩
     .exact⟨SeqAt.RcAt.tuple_none p1 hu,SeqAt.RcNeAt.tuple_none p1 hu⟩
     .exact⟨SeqAt.RcAt.tuple_bool _ p1 hu,SeqAt.RcNeAt.tuple_bool _ p1 hu⟩
     .exact⟨SeqAt.RcAt.tuple_int _ _ p1 hu,SeqAt.RcNeAt.tuple_int _ _ p1 hu⟩
     .exact⟨SeqAt.RcAt.tuple_str _ _ p1 hu,SeqAt.RcNeAt.tuple_str _ _ p1 hu⟩
   |lst us=>
    obtain⟨a,aD,xs,rfl,p1,va,ra⟩:=s1;cases k2 with
    |tup ws=>
     obtain⟨a2,cy,ys,rfl,p2,vb,rb⟩:=s2;cases e;exact⟨SeqAt.RcAt.list_tuple p1 p2 hu,SeqAt.RcNeAt.list_tuple p1 p2 hu⟩
    |lst ws=>
     obtain⟨a2,cy,ys,rfl,p2,vb,rb⟩:=s2;have l1:=va.length;have l2:=vb.length;have l3:=ra.length;have l4:=rb.length;by_cases hl:us.length=ws.length
     .have hs:aD.toArray.size=cy.toArray.size:=by simp only[Vx];lia
      have el:=CU e ra rb va vb ih;have g1:=SeqAt.RcAt.lists p1 p2 hs hu el;have g2:=SeqAt.RcNeAt.lists p1 p2 hs hu el;rw[show aD.toArray.size=us.length by simp only[Vx];lia,pC e hl]at g1 g2;exact⟨g1,g2⟩
     .have hs:(aD.toArray.size !=cy.toArray.size)=true:=by simp only[Vx,bne_iff_ne];lia
      rw[pB e hl];exact⟨SeqAt.RcAt.lists_lengths p1 p2 hs hu,SeqAt.RcNeAt.lists_lengths p1 p2 hs hu⟩
    |nU=>
     cases e;rcases s2 with⟨_,rfl⟩|⟨k,_,rfl⟩|⟨k,t,_,rfl⟩|⟨k,t,_,rfl⟩
     .exact⟨SeqAt.RcAt.list_none p1 hu,SeqAt.RcNeAt.list_none p1 hu⟩
     .exact⟨SeqAt.RcAt.list_bool _ p1 hu,SeqAt.RcNeAt.list_bool _ p1 hu⟩
     .exact⟨SeqAt.RcAt.list_int _ _ p1 hu,SeqAt.RcNeAt.list_int _ _ p1 hu⟩
     .exact⟨SeqAt.RcAt.list_str _ _ p1 hu,SeqAt.RcNeAt.list_str _ _ p1 hu⟩
   |nU=>
    cases k2 with
    |tup ws=>
     obtain⟨a2,cy,ys,rfl,p2,vb,rb⟩:=s2;cases e;rcases s1 with⟨_,rfl⟩|⟨k,_,rfl⟩|⟨k,t,_,rfl⟩|⟨k,t,_,rfl⟩
     .exact⟨SeqAt.RcAt.none_tuple p2 hu,SeqAt.RcNeAt.none_tuple p2 hu⟩
     .exact⟨SeqAt.RcAt.bool_tuple _ p2 hu,SeqAt.RcNeAt.bool_tuple _ p2 hu⟩
     .exact⟨SeqAt.RcAt.int_tuple _ _ p2 hu,SeqAt.RcNeAt.int_tuple _ _ p2 hu⟩
     .exact⟨SeqAt.RcAt.str_tuple _ _ p2 hu,SeqAt.RcNeAt.str_tuple _ _ p2 hu⟩
    |lst ws=>
     obtain⟨a2,cy,ys,rfl,p2,vb,rb⟩:=s2;cases e;rcases s1 with⟨_,rfl⟩|⟨k,_,rfl⟩|⟨k,t,_,rfl⟩|⟨k,t,_,rfl⟩
     .exact⟨SeqAt.RcAt.none_list p2 hu,SeqAt.RcNeAt.none_list p2 hu⟩
     .exact⟨SeqAt.RcAt.bool_list _ p2 hu,SeqAt.RcNeAt.bool_list _ p2 hu⟩
     .exact⟨SeqAt.RcAt.int_list _ _ p2 hu,SeqAt.RcNeAt.int_list _ _ p2 hu⟩
     .exact⟨SeqAt.RcAt.str_list _ _ p2 hu,SeqAt.RcNeAt.str_list _ _ p2 hu⟩
    |nU=>
     injection e with e;subst e;rcases s1 with⟨rfl,rfl⟩|⟨i,rfl,rfl⟩|⟨i,t,rfl,rfl⟩|⟨i,t,rfl,rfl⟩<;>rcases s2 with⟨rfl,rfl⟩|⟨j,rfl,rfl⟩|⟨j,t',rfl,rfl⟩|⟨j,t',rfl,rfl⟩
     .exact⟨SeqAt.RcAt.none_none,SeqAt.RcNeAt.none_none⟩
     .exact⟨SeqAt.RcAt.none_bool _,SeqAt.RcNeAt.none_bool _⟩
     .exact⟨SeqAt.RcAt.none_int _ _,SeqAt.RcNeAt.none_int _ _⟩
     .exact⟨SeqAt.RcAt.none_str _ _,SeqAt.RcNeAt.none_str _ _⟩
     .exact⟨SeqAt.RcAt.bool_none _,SeqAt.RcNeAt.bool_none _⟩
     .exact⟨SeqAt.RcAt.bool_bool _ _,SeqAt.RcNeAt.bool_bool _ _⟩
     .exact⟨SeqAt.RcAt.bool_int _ _ _,SeqAt.RcNeAt.bool_int _ _ _⟩
     .exact⟨SeqAt.RcAt.bool_str _ _ _,SeqAt.RcNeAt.bool_str _ _ _⟩
     .exact⟨SeqAt.RcAt.int_none _ _,SeqAt.RcNeAt.int_none _ _⟩
     .exact⟨SeqAt.RcAt.int_bool _ _ _,SeqAt.RcNeAt.int_bool _ _ _⟩
     .exact⟨SeqAt.RcAt.int_int _ _ _ _,SeqAt.RcNeAt.int_int _ _ _ _⟩
     .exact⟨SeqAt.RcAt.int_str _ _ _ _,SeqAt.RcNeAt.int_str _ _ _ _⟩
     .exact⟨SeqAt.RcAt.str_none _ _,SeqAt.RcNeAt.str_none _ _⟩
     .exact⟨SeqAt.RcAt.str_bool _ _ _,SeqAt.RcNeAt.str_bool _ _ _⟩
     .exact⟨SeqAt.RcAt.str_int _ _ _ _,SeqAt.RcNeAt.str_int _ _ _ _⟩
     .exact⟨SeqAt.RcAt.str_str _ _ _ _,SeqAt.RcNeAt.str_str _ _ _ _⟩
theorem F7{A:_W}{u w:ak}{v1 v2:_T}(s1:CT X ρ H s .nU u v1)(s2:CT X ρ H s .nU w v2):SeqAt.EqAt A s v1 v2 (Ka u w):=by
 rcases s1 with⟨rfl,rfl⟩|⟨i,rfl,rfl⟩|⟨i,t,rfl,rfl⟩|⟨i,t,rfl,rfl⟩<;>rcases s2 with⟨rfl,rfl⟩|⟨j,rfl,rfl⟩|⟨j,t',rfl,rfl⟩|⟨j,t',rfl,rfl⟩
 .exact YU _
 .exact SeqAt.EqAt.none_bool _
 .exact SeqAt.EqAt.none_int _ _
 .exact SeqAt.EqAt.none_str _ _
 .exact SeqAt.EqAt.bool_none _
 .exact SeqAt.EqAt.bool_bool _ _
 .exact SeqAt.EqAt.bool_int _ _ _
 .exact SeqAt.EqAt.bool_str _ _ _
 .exact SeqAt.EqAt.int_none _ _
 .exact SeqAt.EqAt.int_bool _ _ _
 .exact Zl _ _ _ _
 .exact Zk _ _ _ _
 .exact SeqAt.EqAt.str_none _ _
 .exact SeqAt.EqAt.str_bool _ _ _
 .exact Zj _ _ _ _
 .exact SeqAt.EqAt.str_str _ _ _ _
theorem xB(I:aI X ag σ H s)(sr:SR X.K ρ st H):∀(n:Nat)(A:_W),A.units+n<cLine->∀(u w:ak)(x y:V)(v1 v2:_T)(b:Bool),Rl X.K ρ H u x->bb x v1->Rl X.K ρ H w y->bb y v2->iQ n st u w=some b->SeqAt.EqAt A s v1 v2 b
 |0,_,_,_,_,_,_,_,_,_,_,_,_,_,e=>by cases e
 |n+1,A,hu,u,w,x,y,v1,v2,b,r1,q1,r2,q2,e=>by
  have rc:=(Kb I sr n (fun u w x y vu vw c a1 a2 a3 a4 a5=>xB I sr n A.in1 (by rw[in1_units];lia) u w x y vu vw c a1 a2 a3 a4 a5) (by lia) r1 q1 r2 q2 e).1;have refs:∀a a2,v1=.ref a->v2=.ref a2->SeqAt.EqAt A s v1 v2 b:=by
   intro a a2 e1 e2;subst e1 e2;by_cases hn:a=a2
   .subst hn;have hx:x=y:=q1.inj q2;subst hx;rw[yZ I sr (n+1) u w x b r1 r2 e];exact YU _
   .exact SeqAt.EqAt.of_refs hn rc
  cases z1:vw st u with
  |none=>unfold iQ at e;rw[z1]at e;cases e
  |some k1=>
   cases z2:vw st w with
   |none=>unfold iQ at e;rw[z1,z2]at e;cases k1<;>cases e
   |some k2=>
    have s1:=seen I sr r1 q1 z1;have s2:=seen I sr r2 q2 z2;unfold iQ at e;rw[z1,z2]at e;cases k1 with
    |tup us=>
     obtain⟨a,aD,xs,rfl,p1,va,ra⟩:=s1;cases k2 with
     |tup ws=>obtain⟨a2,cy,ys,rfl,p2,vb,rb⟩:=s2;exact refs a a2 rfl rfl
     |lst ws=>obtain⟨a2,cy,ys,rfl,p2,vb,rb⟩:=s2;exact refs a a2 rfl rfl
     |nU=>
      cases e;rcases s2 with⟨_,rfl⟩|⟨k,_,rfl⟩|⟨k,t,_,rfl⟩|⟨k,t,_,rfl⟩
      .exact SeqAt.EqAt.tuple_none p1 (by lia)
      .exact SeqAt.EqAt.tuple_bool _ p1 (by lia)
      .exact SeqAt.EqAt.tuple_int _ _ p1 (by lia)
      .exact SeqAt.EqAt.tuple_str _ _ p1 (by lia)
    |lst us=>
     obtain⟨a,aD,xs,rfl,p1,va,ra⟩:=s1;cases k2 with
     |tup ws=>obtain⟨a2,cy,ys,rfl,p2,vb,rb⟩:=s2;exact refs a a2 rfl rfl
     |lst ws=>obtain⟨a2,cy,ys,rfl,p2,vb,rb⟩:=s2;exact refs a a2 rfl rfl
     |nU=>
      cases e;rcases s2 with⟨_,rfl⟩|⟨k,_,rfl⟩|⟨k,t,_,rfl⟩|⟨k,t,_,rfl⟩
      .exact SeqAt.EqAt.list_none p1 (by lia)
      .exact SeqAt.EqAt.list_bool _ p1 (by lia)
      .exact SeqAt.EqAt.list_int _ _ p1 (by lia)
      .exact SeqAt.EqAt.list_str _ _ p1 (by lia)
    |nU=>
     cases k2 with
     |tup ws=>
      obtain⟨a2,cy,ys,rfl,p2,vb,rb⟩:=s2;cases e;rcases s1 with⟨_,rfl⟩|⟨k,_,rfl⟩|⟨k,t,_,rfl⟩|⟨k,t,_,rfl⟩
      .exact SeqAt.EqAt.none_tuple p2 (by lia)
      .exact SeqAt.EqAt.bool_tuple _ p2 (by lia)
      .exact SeqAt.EqAt.int_tuple _ _ p2 (by lia)
      .exact SeqAt.EqAt.str_tuple _ _ p2 (by lia)
     |lst ws=>
      obtain⟨a2,cy,ys,rfl,p2,vb,rb⟩:=s2;cases e;rcases s1 with⟨_,rfl⟩|⟨k,_,rfl⟩|⟨k,t,_,rfl⟩|⟨k,t,_,rfl⟩
      .exact SeqAt.EqAt.none_list p2 (by lia)
      .exact SeqAt.EqAt.bool_list _ p2 (by lia)
      .exact SeqAt.EqAt.int_list _ _ p2 (by lia)
      .exact SeqAt.EqAt.str_list _ _ p2 (by lia)
     |nU=>
      injection e with e;subst e;exact F7 s1 s2
def kY:F2:=fun u w st=>match iQ 16 st u w with
 |some b=>.ok (.bl b) st
 |none=>.bad
def iZ:F2:=fun u w st=>match iQ 16 st u w with
 |some b=>.ok (.bl (!b)) st
 |none=>.bad
theorem CV{E:XK}(hu:X.A.units+64<cLine):c5 X (compareOp .Eq) (rM (wo X) E kY):=by
 intro ag s σ H x y v u Q I rx ry h;obtain⟨ρ,st,u1,w1,sr,r1,r2,h⟩:=h;unfold kY at h;split at h
 .rename_i b e;exact(Kb I sr 15 (xB I sr 15 X.A.in1 (by rw[in1_units];lia)) (by lia) r1 rx r2 ry e).1 X.prog X.w X.xe (EP X ag σ Q) ⟨.bl b,H,I,rfl,d0 sr h⟩
 .exact h.elim
theorem CW{E:XK}(hu:X.A.units+64<cLine):c5 X (compareOp .NotEq) (rM (wo X) E iZ):=by
 intro ag s σ H x y v u Q I rx ry h;obtain⟨ρ,st,u1,w1,sr,r1,r2,h⟩:=h;unfold iZ at h;split at h
 .rename_i b e;exact(Kb I sr 15 (xB I sr 15 X.A.in1 (by rw[in1_units];lia)) (by lia) r1 rx r2 ry e).2 X.prog X.w X.xe (EP X ag σ Q) ⟨.bl (!b),H,I,rfl,d0 sr h⟩
 .exact h.elim
def HX(st:ae):ak->Option (List ak)
 |.tup us=>some us
 |.mt us=>some us
 |.loc n=>ai st n
 |_=>none
def F8(neg:Bool):F2:=fun u w st=>match HX st w with
 |some us=>if flat u=true/\us.all flat=true then .ok (.bl (if neg then !us.any (fun y=>Ka y u)else us.any (fun y=>Ka y u))) st else .bad
 |none=>.bad
theorem kZ{K:_N}{u w:ak}{x y:V}(f1:flat u=true)(f2:flat w=true)(r1:Rl K ρ H u x)(r2:Rl K ρ H w y):i' x=true/\i' y=true/\ER x y=Ka u w:=by
 cases u<;>(try cases f1)<;>cases w<;>(try cases f2)<;>
  (first|(have z1:=Rl.bK r1;subst z1)|(have z1:=Rl.rf r1;subst z1)|(have z1:=Rl.iT r1;subst z1)|(have z1:=Rl.ir r1;subst z1))<;>
  (first|(have z2:=Rl.bK r2;subst z2)|(have z2:=Rl.rf r2;subst z2)|(have z2:=Rl.iT r2;subst z2)|(have z2:=Rl.ir r2;subst z2))<;>exact⟨rfl,rfl,rfl⟩
theorem k6{K:_N}{u:ak}{x:V}(f:flat u=true)(r:Rl K ρ H u x):∀{us:List ak}{vs:List V},us.all flat=true->aT K ρ H us vs->vs.all i'=true/\OP x vs=us.any fun y=>Ka y u
 |[],vs,_,h=>by rw[h.dE];exact⟨rfl,rfl⟩
 |w::us,vs,hf,h=>by obtain⟨v,r',rfl,h2,h3⟩:=h.bC;rw[YJ,WL]at hf;obtain⟨a,b,c⟩:=kZ hf.1 f h2 r;obtain⟨d,e⟩:=k6 f r hf.2 h3;refine⟨by rw[YJ,a,d];rfl,?_⟩;show(ER v x || OP x r')=_;rw[c,e];rfl
theorem F9{E:XK}{neg:Bool}{x y:V}{H:Hp}{Q:VK}(h:rM (wo X) E (F8 neg) x y H Q):S4 X.K neg x y H Q:=by
 obtain⟨ρ,st,u,w,sr,r1,r2,h⟩:=h;unfold F8 at h;split at h
 .rename_i us e;split at h
  .rename_i hz;cases w with
   |tup ws=>
    cases e;obtain⟨a,vs,rfl,ha,ra⟩:=r2.fe;obtain⟨q1,q2⟩:=k6 hz.1 r1 hz.2 ra;refine⟨a,vs,rfl,.inr ha,(kZ hz.1 hz.1 r1 r1).1,q1,?_⟩;rw[q2];exact d0 sr h
   |mt ws=>
    cases e;obtain⟨a,vs,rfl,ha,ra⟩:=r2.Tf;obtain⟨q1,q2⟩:=k6 hz.1 r1 hz.2 ra;refine⟨a,vs,rfl,.inr ha,(kZ hz.1 hz.1 r1 r1).1,q1,?_⟩;rw[q2];exact d0 sr h
   |loc n=>
    obtain⟨a,rfl,ha⟩:=r2.cD;obtain⟨vs,hs,ra⟩:=a_ sr e ha;obtain⟨q1,q2⟩:=k6 hz.1 r1 hz.2 ra;refine⟨a,vs,rfl,.inl hs,(kZ hz.1 hz.1 r1 r1).1,q1,?_⟩;rw[q2];exact d0 sr h
   |_=>cases e
  .exact h.elim
 .exact h.elim
theorem CY{E:XK}:c5 X (compareOp .In) (rM (wo X) E (F8 false)):=c5.imp Ap fun _ _ _ _ h=>F9 h
def O6(neg:Bool):F2
 |.bR,.bR,st=>.ok (.bl (!neg)) st
 |.bl a,.bl b,st=>.ok (.bl (if neg then a !=b else a==b)) st
 |.int _,.bR,st=>.ok (.bl neg) st
 |.bl _,.bR,st=>.ok (.bl neg) st
 |.str _,.bR,st=>.ok (.bl neg) st
 |.tup _,.bR,st=>.ok (.bl neg) st
 |.loc _,.bR,st=>.ok (.bl neg) st
 |_,_,_=>.bad
theorem CZ:c5 X (compareOp .Is) (fun x y H Q=>∃a b,x=.bl a/\y=.bl b/\Q (.bl (a==b)) H):=by rintro ag s σ H x y v u Q I rx ry ⟨a,b,rfl,rfl,q⟩;cases rx;cases ry;exact is_bool ⟨.bl _,H,I,rfl,q⟩
theorem C0{E:XK}:c5 X (compareOp .Is) (rM (wo X) E (O6 false)):=by
 refine c5.imp (c5.or Jl CZ) ?_;rintro x y H Q ⟨ρ,st,u,w,sr,r1,r2,h⟩;cases u<;>cases w<;>try exact h.elim
 case bl.bl a b=>exact .inr ⟨a,b,r1.rf,r2.rf,d0 sr h⟩
 case bR.bR=>exact .inl ⟨r2.ir,by rw[r1.ir];exact d0 sr h⟩
 case int.bR i=>exact .inl ⟨r2.ir,by rw[r1.bK];exact d0 sr h⟩
 case bl.bR i=>exact .inl ⟨r2.ir,by rw[r1.rf];exact d0 sr h⟩
 case str.bR i=>exact .inl ⟨r2.ir,by rw[r1.iT];exact d0 sr h⟩
 case tup.bR i=>obtain⟨a,vs,rfl,_⟩:=r1.fe;exact .inl ⟨r2.ir,d0 sr h⟩
 case loc.bR i=>obtain⟨a,rfl,_⟩:=r1.cD;exact .inl ⟨r2.ir,d0 sr h⟩
end
section
variable{X:Cx}{E:XK}{pos:Pos}
def aY:F2
 |.tup us,.int i,st=>match qU us i with
  |some v=>.ok v st
  |none=>.bad
 |.loc n,.int i,st=>match ai st n with
  |some us=>match qU us i with
   |some v=>.ok v st
   |none=>.bad
  |none=>.bad
 |.str z,.int i,st=>if z.length<=sizeLine then(match qU z.cps.toList i with
   |some c=>.ok (.str ⟨#[c]⟩) st
   |none=>.bad)else .bad
 |_,_,_=>.bad
theorem aT.qU{K:_N}{ρ:_R}{H:Hp}{us:List ak}{vs:List V}{i:Int}{u:ak}(r:aT K ρ H us vs)(h:qU us i=some u):∃v,L2.qU vs i=some v/\Rl K ρ H u v:=by
 unfold L2.qU at h⊢;rw[<-r.length];cases z:Cb us.length i with
 |none=>rw[z]at h;cases h
 |some j=>
  rw[z]at h;obtain⟨v,h1,h2⟩:=r.get (show us[j]?=some u from h);exact⟨v,h1,h2⟩
theorem QT:wO X (rM (wo X) E aY):=by
 refine wO.imp (wO.or Fq (wO.or mF Js)) ?_;rintro x y H Q ⟨ρ,st,u,w,sr,r1,r2,h⟩;cases u<;>cases w<;>try exact h.elim
 case tup.int us i=>
  unfold aY at h;dsimp only at h;split at h
  .rename_i v e;obtain⟨a,vs,rfl,ha,ra⟩:=r1.fe;obtain⟨z,h1,h2⟩:=ra.qU e;exact .inr (.inl ⟨a,vs,i,z,rfl,r2.bK,ha,h1,h ρ H z (aG.refl _ _) sr h2⟩)
  .exact h.elim
 case loc.int n i=>
  unfold aY at h;dsimp only at h;split at h
  .rename_i us e;split at h
   .rename_i v e';obtain⟨a,rfl,ha⟩:=r1.cD;obtain⟨vs,hs,rv⟩:=a_ sr e ha;obtain⟨z,h1,h2⟩:=rv.qU e';exact .inl ⟨a,vs,i,z,rfl,r2.bK,hs,h1,h ρ H z (aG.refl _ _) sr h2⟩
   .exact h.elim
  .exact h.elim
 case str.int z i=>
  unfold aY at h;dsimp only at h;split at h
  .rename_i hz;split at h
   .rename_i c e;exact .inr (.inr ⟨z,i,c,r1.iT,r2.bK,hz,e,h ρ H _ (aG.refl _ _) sr (Rl.mkStr _)⟩)
   .exact h.elim
  .exact h.elim
def c_:FN
 |[.tup us],st=>.ok (.int us.length) st
 |[.loc n],st=>match ai st n with
  |some us=>.ok (.int us.length) st
  |none=>.bad
 |[.str z],st=>if z.length<=sizeLine then .ok (.int z.length) st else .bad
 |_,_=>.bad
theorem AH:bc X (.builtin "len") (cM (wo X) E c_):=by
 refine bc.imp (bc.or t_ t!) ?_;rintro xs H Q ⟨ρ,st,us,sr,r,h⟩
 match us,r,h with
 |[],_,h=>exact h.elim
 |[.tup ws],r,h=>
  obtain⟨v,rfl,r1⟩:=r.qW;obtain⟨a,vs,rfl,ha,ra⟩:=r1.fe;refine .inl ⟨a,vs,rfl,.inr ha,?_⟩;rw[<-ra.length];exact bP sr h
 |[.loc n],r,h=>
  obtain⟨v,rfl,r1⟩:=r.qW;obtain⟨a,rfl,ha⟩:=r1.cD;unfold c_ at h;dsimp only at h;split at h
  .rename_i ws e;obtain⟨vs,hs,rv⟩:=a_ sr e ha;refine .inl ⟨a,vs,rfl,.inl hs,?_⟩;rw[<-rv.length];exact bP sr h
  .exact h.elim
 |[.str z],r,h=>
  obtain⟨v,rfl,r1⟩:=r.qW;unfold c_ at h;dsimp only at h;split at h
  .rename_i hz;exact .inr ⟨z,by rw[r1.iT],hz,bP sr h⟩
  .exact h.elim
 |[.bR],_,h=>exact h.elim
 |[.bl _],_,h=>exact h.elim
 |[.int _],_,h=>exact h.elim
 |[.exc _],_,h=>exact h.elim
 |[.fn _ _],_,h=>exact h.elim
 |[.mt _],_,h=>exact h.elim
 |x::y::r,_,h=>cases x<;>exact h.elim
def xC:FN
 |[.int i],st=>.ok (.int (if i<0 then -i else i)) st
 |_,_=>.bad
theorem AI:bc X (.builtin "abs") (cM (wo X) E xC):=by
 refine bc.imp B6 ?_;rintro xs H Q ⟨ρ,st,us,sr,r,h⟩;unfold xC at h;split at h
 .rename_i i;obtain⟨v,rfl,r1⟩:=r.qW;exact⟨i,by rw[r1.bK],bP sr h⟩
 .exact h.elim
def mH:FN
 |[.tup us],st=>.ok (.tup us) st
 |[.loc n],st=>match ai st n with
  |some us=>.ok (.tup us) st
  |none=>.bad
 |_,_=>.bad
theorem AJ:bc X (.type "tuple") (cM (wo X) E mH):=by
 refine bc.imp q_ ?_;rintro xs H Q ⟨ρ,st,us,sr,r,h⟩;unfold mH at h;split at h
 .rename_i ws;obtain⟨v,rfl,r1⟩:=r.qW;obtain⟨a,vs,rfl,ha,ra⟩:=r1.fe;exact⟨a,vs,rfl,.inr ⟨ha,h ρ H _ (aG.refl _ _) sr r1⟩⟩
 .rename_i n;obtain⟨v,rfl,r1⟩:=r.qW;obtain⟨a,rfl,ha⟩:=r1.cD;split at h
  .rename_i ws e;obtain⟨vs,hs,rv⟩:=a_ sr e ha;refine⟨a,vs,rfl,.inl ⟨hs,fun l hl=>?_⟩⟩;have s:=bW (o:=.tup vs) hl;exact h ρ _ _ (aG.same s) (sr.grow s) (Rl.j? a! (aT.mono (aG.same s) _ _ rv))
  .exact h.elim
 .exact h.elim
def pE:FN
 |[.tup us],st=>.ok (.loc st.length) (st++[.lst us])
 |[.loc n],st=>match ai st n with
  |some us=>.ok (.loc st.length) (st++[.lst us])
  |none=>.bad
 |_,_=>.bad
theorem AK:bc X (.type "list") (cM (wo X) E pE):=by
 refine bc.imp t? ?_;rintro xs H Q ⟨ρ,st,us,sr,r,h⟩;unfold pE at h;split at h
 .rename_i ws;obtain⟨v,rfl,r1⟩:=r.qW;obtain⟨a,vs,rfl,ha,ra⟩:=r1.fe;refine⟨a,vs,rfl,.inr ha,fun l hl=>?_⟩;obtain⟨k1,k2,k3⟩:=gJ sr ra hl;exact h _ _ _ k1 k2 k3
 .rename_i n;obtain⟨v,rfl,r1⟩:=r.qW;obtain⟨a,rfl,ha⟩:=r1.cD;split at h
  .rename_i ws e;obtain⟨vs,hs,rv⟩:=a_ sr e ha;refine⟨a,vs,rfl,.inl hs,fun l hl=>?_⟩;obtain⟨k1,k2,k3⟩:=gJ sr rv hl;exact h _ _ _ k1 k2 k3
  .exact h.elim
 .exact h.elim
def k7:List ak->Option (List Bool)
 |[]=>some []
 |.bl b::r=>(k7 r).map (b :: ·)
 |_=>none
theorem sJ{K:_N}{ρ:_R}{H:Hp}:∀{us:List ak}{bs:List Bool}{vs:List V}{aD:_P},k7 us=some bs->aT K ρ H us vs->aV vs aD->LSm.BoolsAre aD bs
 |[],bs,vs,aD,h,r,v=>by cases h;have:=r.dE;subst this;cases v;exact .nil
 |u::us,bs,vs,aD,h,r,v=>by
  cases u with
  |bl b=>
   simp only[k7]at h;cases z:k7 us with
   |none=>rw[z]at h;cases h
   |some LN=>
    rw[z]at h;cases h;obtain⟨x,r',rfl,h2,h3⟩:=r.bC;have:=h2.rf;subst this;cases v with
    |cons q1 q2=>
     cases q1;exact .cons b (sJ z h3 q2)
  |_=>cases h
theorem pF(hh:X.A.handled=none):bc X (.builtin "all") (fun xs H Q=>∃a ρ us vs bs,xs=[.ref a]/\iY X.K H a vs/\aT X.K ρ H us vs/\k7 us=some bs/\Q (.bl (bs.all id)) H):=by
 rintro ag s σ H xs ws Q I r ⟨a,ρ,us,vs,bs,rfl,hs,rv,hb,q⟩;obtain⟨u,rfl,ru⟩:=vals1 r;cases ru;obtain⟨aD,r1,p1,_⟩:=I.list hs;have B:=sJ hb rv r1;have hl:=p1.isList;have kQ:a<s.heap.objs.size:=by obtain⟨_,e,_⟩:=hl;exact Vu e
 refine call_all_walk (XT hl ?_);refine⟨s.heap.objs.size,[s.heap.objs.size,a],[s.heap.objs.size],aD.toArray.size,_,_,fun i=>(bs[i]?).getD true,rfl,Walks.list (A:=X.A.in1) hh _ a (VN kQ) aD.toArray,
  ⟨⟨_,VA _ rfl,rfl,rfl⟩,hl.push _⟩,fun i v s' Q' E' hP hQ=>?_,fun h' tk hk=>?_⟩
 .obtain⟨b,e,rfl⟩:=B.get i v (by simpa using hP);simp only[e,Option.getD_some]at hQ;exact WS hQ
 .have e:((List.range aD.toArray.size).all fun i=>(bs[i]?).getD true)=bs.all id:=by rw[Vx,B.length];exact LSm.range_all bs
  rw[e];exact⟨.bl _,H,I.kept (LSm.kept_iter hk),rfl,q⟩
def AL:FN
 |[.loc n],st=>match ai st n with
  |some us=>match k7 us with
   |some bs=>.ok (.bl (bs.all id)) st
   |none=>.bad
  |none=>.bad
 |_,_=>.bad
theorem AM(hh:X.A.handled=none):bc X (.builtin "all") (cM (wo X) E AL):=by
 refine bc.imp (pF hh) ?_;rintro xs H Q ⟨ρ,st,us,sr,r,h⟩;unfold AL at h;split at h
 .rename_i n;obtain⟨v,rfl,r1⟩:=r.qW;obtain⟨a,rfl,ha⟩:=r1.cD;split at h
  .rename_i ws e;split at h
   .rename_i bs hb;obtain⟨vs,hs,rv⟩:=a_ sr e ha;exact⟨a,ρ,ws,vs,bs,rfl,hs,rv,hb,d0 sr h⟩
   .exact h.elim
  .exact h.elim
 .exact h.elim
def kindOf(st:ae):ak->Option String
 |.bR=>some "NoneType"
 |.bl _=>some "bool"
 |.int _=>some "int"
 |.str _=>some "str"
 |.tup _=>some "tuple"
 |.loc n=>match st[n]? with
  |some (.lst _)=>some "list"
  |some (.JT _)=>some "list"
  |some (.mod _)=>none
  |some (.dK _)=>some "dict"
  |some (.dT _)=>some "dict"
  |_=>none
 |_=>none
def Nu(T:String)(st:ae)(v:ak):Option Bool:=(kindOf st v).map fun k=>k==T || (k == "bool" && T == "int")
def u?(T:String)(m:ME):ME:=fun μ st=>(m μ st).bind fun v az=>match Nu T az v with
 |some b=>.ok (.bl b) az
 |none=>.bad
def AN(K:_N)(T:String):Prop:=∀k∈["NoneType","bool","int","str","tuple","list","dict"],W.kitOne K (.type k) (.type T)=some (k==T || (k == "bool" && T == "int"))
theorem xD{st:ae}{v:ak}{k:String}(h:kindOf st v=some k):k∈["NoneType","bool","int","str","tuple","list","dict"]:=by
 unfold kindOf at h;split at h
 all_goals first
  |(cases h;decide)
  |(split at h<;>first|(cases h;decide)|cases h)
  |cases h
theorem C1{ag:_M}{σ:St}{H:Hp}{s:_U}{A:_W}{E:_K}{Q:_K}{c:_T}{b:Bool}{ρ:_R}{st:ae}{u:ak}{x:V}{v:_T}{k:String}(I:aI X ag σ H s)(sr:SR X.K ρ st H)(r:Rl X.K ρ H u x)(q:bb x v)(hk:kindOf st u=some k)(e:W.kitOne X.K (.type k) c=some b)(h:∀tk,Q (.bool b) {s with toks:=tk}):
  wpAny (model X.prog X.w) A (call (.builtin "isinstance") [v,c]) Q E s:=by
 cases u with
 |bR=>cases hk;have:=r.ir;subst this;exact dM I q .bR e h
 |bl y=>cases hk;have:=r.rf;subst this;exact dM I q (.bl y) e h
 |int i=>cases hk;have:=r.bK;subst this;exact dM I q (.int i) e h
 |str y=>cases hk;have:=r.iT;subst this;exact dM I q (.str y) e h
 |tup us=>
  cases hk;obtain⟨a,vs,rfl,ha,ra⟩:=r.fe;cases q;obtain⟨aD,r1,⟨o,h1,h2,_⟩,_⟩:=I.tuple ha;exact Wd _d I.nY ⟨o,h1,h2⟩ e (fun z=>nomatch z) h
 |loc n=>
  obtain⟨a,rfl,ha⟩:=r.cD;obtain⟨cl,hc,kc⟩:=sr.there ha;simp only[kindOf,hc]at hk;cases cl with
  |lst us=>cases hk;obtain⟨vs,h1,_⟩:=kc;exact dM I q (.lst h1) e h
  |JT us=>cases hk;obtain⟨o,vs,h1,_⟩:=kc;exact dM I q (.gE h1) e h
  |mod us=>cases hk
  |dK us=>cases hk;obtain⟨vs,h1,_⟩:=kc;exact dM I q (.dK h1) e h
  |dT us=>cases hk;obtain⟨vs,h1,_⟩:=kc;exact dM I q (.dT h1) e h
  |tab _ _ _ _=>cases hk
  |ins _ _=>cases hk
  |fd _=>cases hk
 |exc c=>cases hk
 |fn k c=>cases hk
 |mt us=>cases hk
theorem pG{T:String}{x:Str}{e:Expr}{m:ME}{p q:Pos}(hK:AN X.K T)(hg:Gl X "isinstance")(hm:X.mg "isinstance" = none)(U?:Gl X x)(U':X.mg x=none)(Va:bootBuiltins x=some (.type T))(he:PE X e (tE X E m))(hn:x ≠ "__name__":=by decide)(hd:(x==("__debug__":Str))=false:=by decide)(hs:starEach [e,.Name x q] X.env=(false,eval e X.env)::starEach [.Name x q] X.env:=by rfl)(cL:starEach [.Name x q] X.env=(false,eval (.Name x q) X.env)::starEach [] X.env:=by rfl)(i?:(backTo pos (starEach [.Name x q] X.env)).any (·.1)=false:=by rfl):PE X (.Call (.Name "isinstance" p) [e,.Name x q] [] pos) (tE X E (u? T m)):=by
 have hc:bc X (.builtin "isinstance") (fun xs H Q=>∃y ρ st u k b,xs=[y,.ty T]/\SR X.K ρ st H/\Rl X.K ρ H u y/\kindOf st u=some k/\W.kitOne X.K (.type k) (.type T)=some b/\Q (.bl b) H):=by rintro ag s σ H xs us Q I r ⟨y,ρ,st,u,k,b,rfl,sr,r1,h1,h2,h3⟩;obtain⟨v1,v2,rfl,q1,q2⟩:=vals2 r;cases q2;exact C1 I sr r1 q1 h1 h2 fun tk=>⟨.bl b,H,I.tok tk,rfl,h3⟩
 refine PE.imp (vk hc hg hm PyProof.Rows.boot_isinstance (kT he (kT (E4 (v:=.ty T) U? U' Va rfl hn hd) tU cL) hs) (by decide) (by decide) hs i?) ?_;rintro σ H Q ⟨μ,ρ,st,rs,sr,h⟩;refine go μ ρ st rs sr h fun u aL ρ1 H1 x e1 bJ r1 h1=>?_;cases z:kindOf aL u with
 |none=>simp only[Nu,z]at h1;exact h1.elim
 |some k=>
  simp only[Nu,z]at h1;exact⟨x,ρ1,aL,u,k,_,rfl,bJ,r1,z,hK k (xD z),d0 bJ h1⟩
end
theorem C2{K:_N}:AN K "int":=by intro k hk;simp only[VH,X8,YD]at hk;rcases hk with rfl|rfl|rfl|rfl|rfl|rfl|rfl<;>first|rfl|kernel_rfl
theorem AO{K:_N}:AN K "bool":=by intro k hk;simp only[VH,X8,YD]at hk;rcases hk with rfl|rfl|rfl|rfl|rfl|rfl|rfl<;>first|rfl|kernel_rfl
theorem xE{K:_N}:AN K "tuple":=by intro k hk;simp only[VH,X8,YD]at hk;rcases hk with rfl|rfl|rfl|rfl|rfl|rfl|rfl<;>first|rfl|kernel_rfl
theorem AQ{K:_N}:AN K "list":=by intro k hk;simp only[VH,X8,YD]at hk;rcases hk with rfl|rfl|rfl|rfl|rfl|rfl|rfl<;>first|rfl|kernel_rfl
theorem C3{K:_N}:AN K "str":=by intro k hk;simp only[VH,X8,YD]at hk;rcases hk with rfl|rfl|rfl|rfl|rfl|rfl|rfl<;>first|rfl|kernel_rfl
abbrev AS:=ak->Env->Option Env
def au(i:Nat):AS:=fun v μ=>some (μ.set i (some v))
def sL:List AS->List ak->Env->Option Env
 |[],[],μ=>some μ
 |a::as,v::vs,μ=>(a v μ).bind fun μ'=>sL as vs μ'
 |_,_,_=>none
def cW(l:List AS):AS:=fun v μ=>match v with
 |.tup vs=>sL l vs μ
 |_=>none
def tA(W:Wo)(a:AS):TG:=fun v σ H Q=>∃μ ρ u μ',RS W ρ H μ σ/\Rl W.K ρ H u v/\a u μ=some μ'/\∀σ',RS W ρ H μ' σ'->Q σ' H
def O7(W:Wo)(l:List AS):E!:=fun vs σ H Q=>∃μ ρ us μ',RS W ρ H μ σ/\aT W.K ρ H us vs/\sL l us μ=some μ'/\∀σ',RS W ρ H μ' σ'->Q σ' H
section
variable{X:Cx}{pos:Pos}
theorem wX.imp{e:List Expr}{t t':E!}(h:wX X e t)(k:∀v σ H Q,t' v σ H Q->t v σ H Q):wX X e t':=fun ag s σ H v u Q I r q=>h ag s σ H v u Q I r (k v σ H Q q)
theorem F_(i:Nat){x:Str}(hN:X.N.Nodup)(hi:X.N[i]?=some x:=by rfl)(hx:Loc X.env.scope x:=by first|exact Or.inl rfl|exact Or.inr rfl)(hf:X.fn x=true\/X.env.scope.names.lookup x=some .local:=by first|exact .inl rfl|exact .inr rfl|assumption):PG X (.Name x pos) (tA (wo X) (au i)):=by refine PG.imp (E? hN hi hx hf) ?_;rintro v σ H Q ⟨μ,ρ,u,μ',rs,r,e,q⟩;cases e;exact q _ (rs.set i r)
theorem F!:wX X [] (O7 (wo X) []):=by
 refine wX.imp Fb ?_;rintro vs σ H Q ⟨μ,ρ,us,μ',rs,r,e,q⟩;cases us with
 |nil=>cases e;exact⟨r.dE,q σ rs⟩
 |cons=>cases e
theorem C4{e:Expr}{es:List Expr}{a:AS}{as:List AS}(h1:PG X e (tA (wo X) a))(h2:wX X es (O7 (wo X) as))(hs:(assignEach (e::es) X.env).map (·.2)=assign e X.env::(assignEach es X.env).map (·.2):=by rfl):wX X (e::es) (O7 (wo X) (a::as)):=by
 refine wX.imp (B1 h1 h2 hs) ?_;rintro vs σ H Q ⟨μ,ρ,us,μ',rs,r,e,q⟩;cases us with
 |nil=>cases e
 |cons u us=>
  obtain⟨v,r',rfl,ru,rr⟩:=r.bC;unfold sL at e;cases z:a u μ with
  |none=>rw[z]at e;cases e
  |some μ1=>
   rw[z]at e;exact⟨v,r',rfl,μ,ρ,u,μ1,rs,ru,z,fun σ1 LM=>⟨μ1,ρ,us,μ',LM,rr,e,q⟩⟩
theorem Kc{es:List Expr}{k:Nat}{l:List AS}(hc:X.calm=true)(h:wX X es (O7 (wo X) l))(hn:(assignEach es X.env).length=l.length:=by rfl)(wY:(assignEach es X.env).findIdx? (·.1)=none:=by rfl):PG X (.Tuple es k pos) (tA (wo X) (cW l)):=by
 refine PG.imp (IY hc h hn wY) ?_;rintro v σ H Q ⟨μ,ρ,u,μ',rs,r,e,q⟩;cases u with
 |tup us=>
  obtain⟨a,vs,rfl,ha,ra⟩:=r.fe;have len:∀(l:List AS)(us:List ak)(μ:Env),sL l us μ=some μ'->us.length=l.length:=by
   intro l
   induction l with
   |nil=>intro us μ e;cases us with|nil=>rfl|cons=>cases e
   |cons a l ih=>
    intro us μ e;cases us with
    |nil=>cases e
    |cons u us=>
     unfold sL at e;cases z:a u μ with
     |none=>rw[z]at e;cases e
     |some μ1=>rw[z]at e;rw[Vn,Vn,ih us μ1 e]
  exact⟨a,vs,rfl,ha,by rw[<-ra.length];exact len _ _ _ e,μ,ρ,us,μ',rs,ra,e,q⟩
 |_=>cases e
def Vb(a:AS)(m:ME):MB:=fun μ st=>(m μ st).sb μ fun v az=>match a v μ with
 |some μ'=>.nx μ' az
 |none=>.bad
end
abbrev Itm:=List ak×(ae->Prop)
abbrev MI:=Env->ae->bI Itm
def HY(K:_N)(ρ0:_R)(H0:Hp)(p:Itm)(J:It):Prop:=
 ∀ρ st H,aG ρ0 H0 ρ H->SR K ρ st H->p.2 st->∀i:Nat,
  (∀u,p.1[i]?=some u->J.go i H/\∀x H',J.Mn i H x H'->aG ρ H ρ H'/\SR K ρ st H'/\Rl K ρ H' u x)/\(p.1.length<=i->J.stop i H)
abbrev tI(X:Cx)(E:XK)(m:MI):TI:=tG (wo X) E (HY X.K) m
section
variable{X:Cx}{E:XK}{tg:Expr}{pos p:Pos}
theorem PI.imp{it:Expr}{t t':TI}(h:PI X tg it t)(k:∀σ H Q,t' σ H Q->t σ H Q):PI X tg it t':=fun ag s σ H R I q=>h ag s σ H R I (k σ H R q)
theorem Ke{l:Expr}{tl:TE}(hl:PE X l tl):PI X tg l (fun σ H R=>tl σ H fun x H1=>∃a,x=.ref a/\(((∃xs,iY X.K H1 a xs)/\R (PV X.K a) H1)\/((∃xs,jz X.K H1 a xs)/\R (PX X.K a) H1))):=by
 intro ag s σ H R I h;refine cJ (hl ag s σ H _ I h) fun v s1⟨x,H1,I1,r1,q1⟩=>?_;obtain⟨a,e,q⟩:=q1;subst e;cases r1;rcases q with⟨⟨xs,hq⟩,q⟩|⟨⟨xs,hq⟩,q⟩
 .obtain⟨aD,rv,p,hz⟩:=I1.list hq;refine XT p.isList ?_;refine⟨s1.heap.objs.size,[s1.heap.objs.size],_,_,H1,rfl,I1.kept (t':=s1.toks) fun b o e=>Vj _ e,Ai a _,⟨_,VA _ rfl,rfl,rfl⟩,fun b hb=>?_,q⟩;have e:b=s1.heap.objs.size:=by simpa using hb
  subst e;exact I1.wZ (Vp _) (I1.bH.fresh (Vp _))
 .obtain⟨aD,rv,p,hz⟩:=I1.tuple hq;refine Yk (show s1.heap.IsTuple a aD.toArray from p) ?_;refine⟨s1.heap.objs.size,[s1.heap.objs.size],_,_,H1,rfl,I1.kept (t':=s1.toks) fun b o e=>Vj _ e,w9 a _,⟨_,VA _ rfl,rfl,rfl⟩,fun b hb=>?_,q⟩;have e:b=s1.heap.objs.size:=by simpa using hb
  subst e;exact I1.wZ (Vp _) (I1.bH.fresh (Vp _))
def pH(st:ae):ak->Option Itm
 |.tup us=>some (us,fun _=>True)
 |.mt us=>some (us,fun _=>True)
 |.loc n=>(ai st n).map fun us=>(us,fun az=>ai az n=some us)
 |_=>none
def cg(m:ME):MI:=fun μ st=>(m μ st).bind fun v az=>match pH az v with
 |some p=>.ok p az
 |none=>.bad
theorem C5{K:_N}{ρ:_R}{H:Hp}{n:Nat}{us:List ak}{a:_V}(ha:ρ[n]?=some a)(QU:∀{ρ':_R}{az:ae}{H':Hp},SR K ρ' az H'->ai az n=some us->ρ'[n]?=some a->∃vs,iY K H' a vs/\aT K ρ' H' us vs):
  HY K ρ H (us,fun az=>ai az n=some us) (PV K a):=by
 intro ρ' az H' e sr g i;obtain⟨vs,hs,rv⟩:=QU sr g (e.at_ ha);refine⟨fun u hu=>?_,fun hi=>⟨vs,hs,by rw[<-rv.length];exact hi⟩⟩;obtain⟨v,hv,ru⟩:=rv.get hu;refine⟨⟨vs,v,hs,hv⟩,fun x LO y=>?_⟩;obtain⟨rfl,y⟩:=y;have e:=(y vs hs).symm.trans hv;cases e;exact⟨aG.refl _ _,sr,ru⟩
theorem y0{K:_N}{ρ:_R}{H:Hp}{us:List ak}{a:_V}{vs:List V}(ha:jz K H a vs)(ra:aT K ρ H us vs):HY K ρ H (us,fun _=>True) (PX K a):=by intro ρ' az H' e sr g i;have Kf:jz K H' a vs:=e.QN ha;have rv:=aT.mono e _ _ ra;refine⟨fun u hu=>?_,fun hi=>⟨vs,Kf,by rw[<-rv.length];exact hi⟩⟩;obtain⟨v,hv,ru⟩:=rv.get hu;refine⟨⟨vs,v,Kf,hv⟩,fun x LO y=>?_⟩;obtain⟨rfl,y⟩:=y;have e:=(y vs Kf).symm.trans hv;cases e;exact⟨aG.refl _ _,sr,ru⟩
theorem Kg{l:Expr}{m:ME}(hl:PE X l (tE X E m)):PI X tg l (tI X E (cg m)):=by
 refine PI.imp (Ke hl) ?_;rintro σ H R ⟨μ,ρ,st,rs,sr,h⟩;refine go μ ρ st rs sr h fun u aL ρ1 H1 x e1 bJ r1 h1=>?_;cases u with
 |tup us=>
  obtain⟨a,vs,rfl,ha,ra⟩:=r1.fe;exact⟨a,rfl,.inr ⟨⟨vs,ha⟩,h1 ρ1 H1 _ (aG.refl _ _) bJ (y0 ha ra)⟩⟩
 |mt us=>
  obtain⟨a,vs,rfl,ha,ra⟩:=r1.Tf;exact⟨a,rfl,.inr ⟨⟨vs,ha⟩,h1 ρ1 H1 _ (aG.refl _ _) bJ (y0 ha ra)⟩⟩
 |loc n=>
  obtain⟨a,rfl,ha⟩:=r1.cD;cases z:ai aL n with
  |none=>simp only[pH,z]at h1;exact h1.elim
  |some us=>
   simp only[pH,z]at h1;obtain⟨vs,hs,rv⟩:=a_ bJ z ha;exact⟨a,rfl,.inl ⟨⟨vs,hs⟩,h1 ρ1 H1 _ (aG.refl _ _) bJ (C5 ha fun s g h=>a_ s g h)⟩⟩
 |_=>exact h1.elim
def d5(lo:Int)(n:Nat):List ak:=(List.range n).map fun(i:Nat)=>ak.int (lo+(i:Int))
theorem AR{K:_N}{ρ:_R}{H:Hp}(lo:Int)(n:Nat):HY K ρ H (d5 lo n,fun _=>True) (OK lo n):=by
 intro ρ' az H' e sr g i;refine⟨fun u hu=>?_,fun hi=>?_⟩
 .have hi:i<n:=by have:=gI hu;simpa[d5]using this
  refine⟨hi,fun x LO y=>?_⟩;obtain⟨rfl,rfl⟩:=y;have e:u=ak.int (lo+(i:Int)):=by simp only[d5,VB]at hu;rw[Z' hi]at hu;exact(VO hu).symm
  subst e;exact⟨aG.refl _ _,sr,Rl.mkInt _⟩
 .show n<=i;simpa[d5]using hi
def bY(m:MA):MI:=fun μ st=>(m μ st).bind fun vs az=>match vs with
 |[.int j]=>if -(2 ^ 62)<=j/\j<2 ^ 62 then .ok (d5 0 j.toNat,fun _=>True) az else .bad
 |_=>.bad
theorem AU{a:Expr}{m:MA}(hg:Gl X "range")(hm:X.mg "range" = none)(ha:PA X [a] (tL X E m))(hs:starEach [a] X.env=[(false,eval a X.env)]:=by rfl):PI X tg (.Call (.Name "range" p) [a] [] pos) (tI X E (bY m)):=by
 refine PI.imp (Aj hg hm ha hs) ?_;rintro σ H R ⟨μ,ρ,st,rs,sr,h⟩;refine go (R1:=aT X.K) μ ρ st rs sr h fun us aL ρ1 H1 xs e1 bJ r1 h1=>?_;split at h1
 .rename_i j;obtain⟨v,rfl,rv⟩:=r1.qW;split at h1
  .rename_i hz;exact⟨j,by rw[rv.bK],hz.1,hz.2,h1 ρ1 H1 _ (aG.refl _ _) bJ (AR 0 j.toNat)⟩
  .exact h1.elim
 .exact h1.elim
def gg(st:ae):ak->Option (Bool×Itm)
 |.tup us=>some (false,us,fun _=>True)
 |.loc n=>(ai st n).map fun us=>(true,us,fun az=>ai az n=some us)
 |_=>none
def jR:List ak->List ak->List ak
 |x::xs,y::ys=>.tup [x,y]::jR xs ys
 |_,_=>[]
theorem y9:∀(us ws:List ak)(i:Nat),(∀z,(jR us ws)[i]?=some z->∃u w,us[i]?=some u/\ws[i]?=some w/\z=.tup [u,w])/\((jR us ws).length<=i->us.length<=i\/ws.length<=i)
 |[],_,i=>⟨fun z h=>(by cases h),fun _=>.inl (Wh _)⟩
 |_::_,[],i=>⟨fun z h=>(by cases h),fun _=>.inr (Wh _)⟩
 |u::us,w::ws,0=>⟨fun z h=>(by cases h;exact⟨u,w,rfl,rfl,rfl⟩),fun h=>(by simp[jR]at h)⟩
 |u::us,w::ws,i+1=>by
  obtain⟨a,b⟩:=y9 us ws i;refine⟨fun z h=>a z h,fun h=>?_⟩;have h':(jR us ws).length<=i:=by simpa[jR]using h
  rcases b h' with q|q
  .exact .inl (by rw[Vn];lia)
  .exact .inr (by rw[Vn];lia)
def nG(b1 b2:Bool)(m:MA):MI:=fun μ st=>(m μ st).bind fun vs az=>match vs with
 |[u,w]=>match gg az u,gg az w with
  |some (c1,us,g1),some (c2,ws,g2)=>if c1=b1/\c2=b2 then .ok (jR us ws,fun st2=>g1 st2/\g2 st2) az else .bad
  |_,_=>.bad
 |_=>.bad
theorem y_{K:_N}{ρ:_R}{st:ae}{H:Hp}{u:ak}{x:V}{c:Bool}{us:List ak}{g:ae->Prop}(sr:SR K ρ st H)(r:Rl K ρ H u x)(h:gg st u=some (c,us,g))(QU:∀{ρ':_R}{az:ae}{H':Hp}{n a},SR K ρ' az H'->ai az n=some us->ρ'[n]?=some a->∃vs,iY K H' a vs/\aT K ρ' H' us vs):
  ∃a,x=.ref a/\∀ρ' az H',aG ρ H ρ' H'->SR K ρ' az H'->g az->∃vs,xx c K H' a vs/\aT K ρ' H' us vs:=by
 cases u with
 |tup ws=>
  cases h;obtain⟨a,vs,rfl,ha,ra⟩:=r.fe;exact⟨a,rfl,fun ρ' az H' e _ _=>⟨vs,e.QN ha,aT.mono e _ _ ra⟩⟩
 |loc n=>
  obtain⟨a,rfl,ha⟩:=r.cD;cases z:ai st n with
  |none=>simp only[gg,z]at h;cases h
  |some ws=>
   simp only[gg,z]at h;cases h;exact⟨a,rfl,fun ρ' az H' e s g=>QU s g (e.at_ ha)⟩
 |_=>cases h
theorem C6{st:ae}{u:ak}{c:Bool}{us:List ak}{g:ae->Prop}(h:gg st u=some (c,us,g)):g st:=by
 cases u with
 |tup ws=>cases h;exact True.intro
 |loc n=>
  cases z:ai st n with
  |none=>simp only[gg,z]at h;cases h
  |some ws=>simp only[gg,z]at h;cases h;exact z
 |_=>cases h
theorem Kh(b1 b2:Bool){elts:List Expr}{kt:Nat}{tp:Pos}{ea eb:Expr}{m:MA}(hg:Gl X "zip")(hm:X.mg "zip" = none)(ha:PA X [ea,eb] (tL X E m))(hs:starEach [ea,eb] X.env=[(false,eval ea X.env),(false,eval eb X.env)]:=by rfl)(cL:starEach [eb] X.env=[(false,eval eb X.env)]:=by rfl):
  PI X (.Tuple elts kt tp) (.Call (.Name "zip" p) [ea,eb] [] pos) (tI X E (nG b1 b2 m)):=by
 refine PI.imp (JP b1 b2 hg hm ha hs cL) ?_;rintro σ H R ⟨μ,ρ,st,rs,sr,h⟩;refine go (R1:=aT X.K) μ ρ st rs sr h fun us aL ρ1 H1 xs e1 bJ r1 h1=>?_;split at h1
 .rename_i u w;obtain⟨x,y,rfl,rx,ry⟩:=r1.QO;split at h1
  .rename_i c1 Nv g1 c2 Vc g2 z1 z2;split at h1
   .rename_i hc;obtain⟨rfl,rfl⟩:=hc;obtain⟨a,rfl,ka⟩:=y_ bJ rx z1 fun s g h=>a_ s g h;obtain⟨b,rfl,kb⟩:=y_ bJ ry z2 fun s g h=>a_ s g h;obtain⟨v1,q1,_⟩:=ka ρ1 aL H1 (aG.refl _ _) bJ (C6 z1);obtain⟨v2,q2,_⟩:=kb ρ1 aL H1 (aG.refl _ _) bJ (C6 z2);refine⟨a,b,rfl,⟨v1,q1⟩,⟨v2,q2⟩,h1 ρ1 H1 _ (aG.refl _ _) bJ ?_⟩;intro ρ' az H' e s g i;obtain⟨w1,s1,t1⟩:=ka ρ' az H' e s g.1;obtain⟨w2,s2,t2⟩:=kb ρ' az H' e s g.2;obtain⟨k1,k2⟩:=y9 Nv Vc i;refine⟨fun z hz=>?_,fun hi=>⟨w1,w2,s1,s2,?_⟩⟩
    .obtain⟨u',w',Vd,Ve,rfl⟩:=k1 z hz;obtain⟨p1,p2,p3⟩:=t1.get Vd;obtain⟨o1,o2,o3⟩:=t2.get Ve;refine⟨⟨w1,w2,p1,o1,s1,s2,p2,o2⟩,fun x' LO y'=>?_⟩;obtain⟨pp,x1,y1,rfl,hp,rfl,f1,f2⟩:=y';have c1:=(f1 w1 s1).symm.trans p2;have c2:=(f2 w2 s2).symm.trans o2;cases c1;cases c2;exact⟨aG.same (bW hp),s.grow (bW hp),Rl.j? a! (aT.mono (aG.same (bW hp)) _ _ (aT.cons p3 (aT.one o3)))⟩
    .rw[<-t1.length,<-t2.length];exact k2 hi
   .exact h1.elim
  .exact h1.elim
 .exact h1.elim
end
open Classical in
def forL(g:ae->Prop)(a:AS)(body:MB):List ak->MB
 |[],μ,st=>if g st then .nx μ st else .bad
 |u::us,μ,st=>if g st then(match a u μ with
  |some μ1=>match body μ1 st with
   |.nx μ' az=>forL g a body us μ' az
   |.ct μ' az=>forL g a body us μ' az
   |.bk μ' az=>.nx μ' az
   |.rt v az=>.rt v az
   |.er c μ' az=>.er c μ' az
   |.bad=>.bad
  |none=>.bad)else .bad
def cw(it:MI)(a:AS)(body:MB):MB:=fun μ st=>(it μ st).sb μ fun p az=>forL p.2 a body p.1 μ az
section
variable{X:Cx}{E:XK}{tg:Expr}{pos p:Pos}
theorem Ki{iter:Expr}{sb:List Stmt}{it:MI}{a:AS}{body:MB}(hp:PassesOwn (model X.prog X.w) X.A X.env X.xe)(hc:X.calm=true)(hi:PI X tg iter (tI X E it))(hg:PG X tg (tA (wo X) a))(hb:j! X sb (tS X E body))(hs:∀x,foldedSetIterable iter X.env x=pure x:=by intro _;rfl):PS X (.For tg iter sb [] pos) (tS X E (cw it a body)):=by
 refine PS.imp (I? hp hc hi hg hb hs) ?_;rintro D σ H ⟨μ,ρ,st,rs,sr,h⟩;refine yW (R1:=HY X.K) μ ρ st rs sr h fun pr aL ρ1 H1 J e1 bJ rJ h1=>?_;obtain⟨us,g⟩:=pr;refine⟨fun i m σ' H'=>m=us.length-i/\i<=us.length/\∃μ' ρ' az,aG ρ1 H1 ρ' H'/\RS (wo X) ρ' H' μ' σ'/\SR X.K ρ' az H'/\wS (wo X) E ρ' H' D (forL g a body (us.drop i) μ' az),
  ⟨us.length,by simp,Wh _,μ,ρ1,aL,aG.refl _ _,rs.mono e1,bJ,h1⟩,?_⟩
 rintro i m σ' H' ⟨rfl,hi,μ',ρ',az,e',BS,y!,h'⟩;by_cases kQ:i<us.length
 .rw[WC kQ]at h';unfold forL at h';by_cases oo:g az
  .rw[Vo oo]at h';obtain⟨k1,k2⟩:=rJ ρ' az H' e' y! oo i;obtain⟨go',yl⟩:=k1 _ (Vq kQ);refine .inr ⟨go',fun σ2 H2=>i+1<=us.length/\∃μ2 ρ2 st2,aG ρ1 H1 ρ2 H2/\RS (wo X) ρ2 H2 μ2 σ2/\SR X.K ρ2 st2 H2/\wS (wo X) E ρ2 H2 D (forL g a body (us.drop (i+1)) μ2 st2),fun σ2 H2 n=>⟨us.length-(i+1),by lia,rfl,n.1,n.2⟩,fun x H2 y=>?_⟩;obtain⟨e2,jQ,r2⟩:=yl x H2 y;cases z:a us[i] μ' with
   |none=>rw[z]at h';exact h'.elim
   |some μ1=>
    rw[z]at h';dsimp only at h';refine⟨μ',ρ',us[i],μ1,BS.mono e2,r2,z,fun σ3 LP=>⟨μ1,ρ',az,LP,jQ,?_⟩⟩;cases zb:body μ1 az with
    |nx μ4 l!=>
     rw[zb]at h';intro ρ4 H4 σ4 e4 pI xF;exact⟨by lia,μ4,ρ4,l!,(e'.trans e2).trans e4,xF,pI,wS.mono h' (e2.trans e4)⟩
    |ct μ4 l!=>
     rw[zb]at h';intro ρ4 H4 σ4 e4 pI xF;exact⟨by lia,μ4,ρ4,l!,(e'.trans e2).trans e4,xF,pI,wS.mono h' (e2.trans e4)⟩
    |bk μ4 l!=>rw[zb]at h';exact fun ρ4 H4 σ4 e4 pI xF=>h' ρ4 H4 σ4 (e2.trans e4) pI xF
    |rt v l!=>rw[zb]at h';exact fun ρ4 H4 σ4 e4 pI xF=>h' ρ4 H4 σ4 (e2.trans e4) pI xF
    |er c μ4 l!=>rw[zb]at h';obtain⟨C,q1,q2⟩:=h';exact⟨C,q1,fun ρ4 H4 e4 pI=>q2 ρ4 H4 (e2.trans e4) pI⟩
    |bad=>rw[zb]at h';exact h'
  .rw[Vv oo]at h';exact h'.elim
 .have JK:i=us.length:=by lia
  subst JK;rw[ZX]at h';unfold forL at h';by_cases oo:g az
  .rw[Vo oo]at h';exact .inl ⟨(rJ ρ' az H' e' y! oo us.length).2 (Vp _),h' ρ' H' σ' (aG.refl _ _) y! BS⟩
  .rw[Vv oo]at h';exact h'.elim
end
def dJ(t:MT)(body:MB):Nat->Env->ae->Option de
 |0,_,_=>none
 |n+1,μ,st=>match t μ st with
  |.ok true aL=>match body μ aL with
   |.nx μ' az=>dJ t body n μ' az
   |.ct μ' az=>dJ t body n μ' az
   |.bk μ' az=>some (.nx μ' az)
   |.rt v az=>some (.rt v az)
   |.er c μ' az=>some (.er c μ' az)
   |.bad=>some .bad
  |.ok false aL=>some (.nx μ aL)
  |.err c aL=>some (.er c μ aL)
  |.bad=>some .bad
open Classical in
def fD(t:MT)(body:MB):MB:=fun μ st=>if h:∃n r,dJ t body n μ st=some r then h.choose_spec.choose else .bad
theorem jf{t:MT}{body:MB}:∀{n m:Nat}{μ:Env}{st:ae}{r r':de},dJ t body n μ st=some r->dJ t body m μ st=some r'->r=r'
 |0,_,_,_,_,_,h,_=>by cases h
 |_+1,0,_,_,_,_,_,h=>by cases h
 |n+1,m+1,μ,st,r,r',h,h'=>by
  unfold dJ at h h';split at h
  .rename_i aL e;rw[e]at h';dsimp only at h';split at h
   all_goals (rename_i eb;rw[eb]at h';dsimp only at h')
   .exact jf h h'
   .exact jf h h'
   all_goals (cases h;cases h';rfl)
  all_goals (rename_i e;rw[e]at h';dsimp only at h';cases h;cases h';rfl)
theorem sM{t:MT}{body:MB}{n:Nat}{μ:Env}{st:ae}{r:de}(h:dJ t body n μ st=some r):fD t body μ st=r:=by
 have hx:∃n r,dJ t body n μ st=some r:=⟨n,r,h⟩
 unfold fD;rw[dif_pos hx];exact jf hx.choose_spec.choose_spec h
section
variable{X:Cx}{E:XK}{pos:Pos}
theorem C7{c:Expr}{sb:List Stmt}{t:MT}{body:MB}(hp:PassesOwn (model X.prog X.w) X.A X.env X.xe)(hc:PT X c (tT X E t))(hb:j! X sb (tS X E body)):PS X (.While c sb [] pos) (tS X E (fD t body)):=by
 refine PS.imp (B2 hp hc hb) ?_;rintro D σ H ⟨μ,ρ,st,rs,sr,h⟩;unfold fD at h;split at h
 .rename_i hx;have hr:=hx.choose_spec.choose_spec;refine⟨fun m σ' H'=>∃μ' ρ' az r,aG ρ H ρ' H'/\RS (wo X) ρ' H' μ' σ'/\SR X.K ρ' az H'/\dJ t body m μ' az=some r/\wS (wo X) E ρ' H' D r,⟨_,μ,ρ,st,_,aG.refl _ _,rs,sr,hr,h⟩,?_⟩;rintro m σ' H' ⟨μ',ρ',az,r,e',BS,y!,hw,hq⟩;cases m with
  |zero=>cases hw
  |succ m=>
   unfold dJ at hw;refine⟨μ',ρ',az,BS,y!,?_⟩;cases z:t μ' az with
   |ok k aL=>
    rw[z]at hw;intro ρ1 H1 k' e1 bJ ek;cases ek;cases k with
    |true=>
     dsimp only at hw;rw[Vo rfl];refine⟨fun σ2 H2=>∃μ2 ρ2 st2 r2,aG ρ H ρ2 H2/\RS (wo X) ρ2 H2 μ2 σ2/\SR X.K ρ2 st2 H2/\dJ t body m μ2 st2=some r2/\wS (wo X) E ρ2 H2 D r2,fun σ2 H2 n=>⟨m,V? m,n⟩,μ',ρ1,aL,BS.mono e1,bJ,?_⟩;cases zb:body μ' aL with
     |nx μ4 l!=>
      rw[zb]at hw;intro ρ4 H4 σ4 e4 pI xF;exact⟨μ4,ρ4,l!,r,(e'.trans e1).trans e4,xF,pI,hw,wS.mono hq (e1.trans e4)⟩
     |ct μ4 l!=>
      rw[zb]at hw;intro ρ4 H4 σ4 e4 pI xF;exact⟨μ4,ρ4,l!,r,(e'.trans e1).trans e4,xF,pI,hw,wS.mono hq (e1.trans e4)⟩
     |bk μ4 l!=>rw[zb]at hw;cases hw;exact fun ρ4 H4 σ4 e4 pI xF=>hq ρ4 H4 σ4 (e1.trans e4) pI xF
     |rt v l!=>rw[zb]at hw;cases hw;exact fun ρ4 H4 σ4 e4 pI xF=>hq ρ4 H4 σ4 (e1.trans e4) pI xF
     |er c μ4 l!=>rw[zb]at hw;cases hw;obtain⟨C,q1,q2⟩:=hq;exact⟨C,q1,fun ρ4 H4 e4 pI=>q2 ρ4 H4 (e1.trans e4) pI⟩
     |bad=>rw[zb]at hw;cases hw;exact hq
    |false=>
     cases hw;rw[Vv Vs];exact hq ρ1 H1 σ' e1 bJ (BS.mono e1)
   |err c aL=>rw[z]at hw;cases hw;exact hq
   |bad=>rw[z]at hw;cases hw;exact hq
 .exact h.elim
end
def gH(k:Nat)(a9:List Nat)(μ:Env):Env:=List.replicate k none++a9.map fun j=>(μ[j]?).getD none
theorem RS.Vf{W:Wo}{ρ:_R}{H:Hp}{μ:Env}{σ:L2.St}(r:RS W ρ H μ σ)(k:Nat)(a9:List Nat):RS W ρ H (gH k a9 μ) (oj k a9 σ):=by
 refine⟨by simp[gH,oj],fun i u e=>?_⟩;unfold gH at e;rcases WY i k with q|q
 .rw[V7 (by rw[Wc];exact q),XQ,Vo q]at e;cases e
 .rw[Vy (by rw[Wc];exact q),Wc,VB]at e;cases z:a9[i-k]? with
  |none=>rw[z]at e;cases e
  |some j=>
   rw[z]at e;have e':(μ[j]?).getD none=some u:=VO e;have e2:μ[j]?=some (some u):=by
    cases y:μ[j]? with
    |none=>rw[y]at e';cases e'
    |some w=>rw[y]at e';exact We _ e'
   obtain⟨v,h1,h2⟩:=r.at_ j u e2;refine⟨v,?_,h2⟩;unfold oj;rw[Vy (by rw[Wc];exact q),Wc,VB,z];show some ((σ[j]?).getD none)=_;rw[h1];rfl
open Classical in
def aW(g:ae->Prop)(a:AS)(c:MT)(e:ME):List ak->Env->ae->List ak->bI (List ak)
 |[],_,st,ys=>if g st then .ok ys st else .bad
 |u::us,τ,st,ys=>if g st then(match a u τ with
  |some τ1=>match c τ1 st with
   |.ok true aL=>match e τ1 aL with
    |.ok y st2=>aW g a c e us τ1 st2 (ys++[y])
    |.err _ _=>.bad
    |.bad=>.bad
   |.ok false aL=>aW g a c e us τ1 aL ys
   |.err _ _=>.bad
   |.bad=>.bad
  |none=>.bad)else .bad
def bw(k:Nat)(a9:List Nat)(it:MI)(a:AS)(c:MT)(e:ME):ME:=fun μ st=>(it μ st).bind fun p aL=>
 if p.1.length<=sizeLine then(aW p.2 a c e p.1 (gH k a9 μ) aL []).bind fun ys st2=>.ok (.loc st2.length) (st2++[.lst ys])else .bad
def aJ:MT:=fun _ st=>.ok true st
abbrev W0(X:Cx):Wo:=⟨X.K,X.mg,[]⟩
section
variable{X:Cx}{E:XK}{tg elt iter:Expr}{ifs:List Expr}{scope:Scope}{pos Cy:Pos}{N:_S}{cl:List (Str×_V)}{k:Nat}{a9:List Nat}{it:MI}{a:AS}{c:MT}{e:ME}
theorem sN(Nw:X.pn=[]){σ:L2.St}{H:Hp}{Q:VK}(h:tE X E (bw k a9 it a c e) σ H Q):pj k a9 (tI X E it) (tA (W0 X) a) (tG (W0 X) E0 RB c) (tG (W0 X) E0 (Rl X.K) e) σ H Q:=by
 obtain⟨μ,ρ,st,rs,sr,h⟩:=h;refine Cv (go (R1:=HY X.K) μ ρ st rs sr h fun pr aL ρ1 H1 J e1 bJ rJ h1=>?_);obtain⟨us,g⟩:=pr;have ew:wo X=W0 X:=by show Wo.mk _ _ _=_;rw[Nw]
 have LM:=rs.mono e1;rw[ew]at LM h1;dsimp only at h1;split at h1
 .rename_i hz;refine FJ us.length hz (fun i ys τ H'=>∃μτ ρ' az yv,aG ρ1 H1 ρ' H'/\RS (W0 X) ρ' H' μτ τ/\SR X.K ρ' az H'/\aT X.K ρ' H' yv ys/\yv.length<=i/\wR (W0 X) E (Rl X.K) ρ' H' Q ((aW g a c e (us.drop i) μτ az yv).bind fun(zs:List ak)(st2:ae)=>bI.ok (ak.loc st2.length) (st2++[aP.lst zs])))
   ⟨gH k a9 μ,ρ1,aL,[],aG.refl _ _,LM.Vf k a9,bJ,aT.nil,Vp _,h1⟩ ?_ ?_ ?_ ?_ ?_
  .rintro i ys τ H' hi ⟨μτ,ρ',az,yv,e',BS,y!,ry,hl,hq⟩;rw[WC hi]at hq;unfold aW at hq;by_cases oo:g az
   .exact((rJ ρ' az H' e' y! oo i).1 _ (Vq hi)).1
   .rw[Vv oo]at hq;exact hq.elim
  .rintro ys τ H' ⟨μτ,ρ',az,yv,e',BS,y!,ry,hl,hq⟩;rw[ZX]at hq;unfold aW at hq;by_cases oo:g az
   .exact(rJ ρ' az H' e' y! oo us.length).2 (Vp _)
   .rw[Vv oo]at hq;exact hq.elim
  .rintro i ys τ H' ⟨μτ,ρ',az,yv,e',BS,y!,ry,hl,hq⟩;rw[<-ry.length];exact hl
  .rintro i ys τ H' x H2 hi ⟨μτ,ρ',az,yv,e',BS,y!,ry,hl,hq⟩ y K1 hK;rw[WC hi]at hq;unfold aW at hq;by_cases oo:g az
   .rw[Vo oo]at hq;obtain⟨e2,jQ,r2⟩:=((rJ ρ' az H' e' y! oo i).1 _ (Vq hi)).2 x H2 y;cases z:a us[i] μτ with
    |none=>rw[z]at hq;exact hq.elim
    |some τ1=>
     rw[z]at hq;dsimp only at hq;refine⟨μτ,ρ',us[i],τ1,BS.mono e2,r2,z,fun σ3 LP=>⟨τ1,ρ',az,LP,jQ,?_⟩⟩;cases zc:c τ1 az with
     |ok b l_=>
      rw[zc]at hq;intro ρ3 H3 b' e3 EV eb;cases eb;cases b with
      |true=>
       dsimp only at hq;rw[Vo rfl];refine⟨τ1,ρ3,l_,LP.mono e3,EV,?_⟩;cases ze:e τ1 l_ with
       |ok v l!=>
        rw[ze]at hq;intro ρ4 H4 y4 e4 pI r4;exact hK _ _ _ ⟨τ1,ρ4,l!,yv++[v],((e'.trans e2).trans e3).trans e4,(LP.mono e3).mono e4,pI,(aT.mono ((e2.trans e3).trans e4) _ _ ry).append (aT.one r4),by rw[Vt,Y4];lia,wR.mono hq ((e2.trans e3).trans e4)⟩
       |err c' l!=>rw[ze]at hq;exact hq.elim
       |bad=>rw[ze]at hq;exact hq.elim
      |false=>
       dsimp only at hq;rw[Vv Vs];exact hK _ _ _ ⟨τ1,ρ3,l_,yv,(e'.trans e2).trans e3,LP.mono e3,EV,aT.mono (e2.trans e3) _ _ ry,by lia,wR.mono hq (e2.trans e3)⟩
     |err c' l_=>rw[zc]at hq;exact hq.elim
     |bad=>rw[zc]at hq;exact hq.elim
   .rw[Vv oo]at hq;exact hq.elim
  .rintro ys τ H' p ⟨μτ,ρ',az,yv,e',BS,y!,ry,hl,hq⟩ hp;rw[ZX]at hq;unfold aW at hq;by_cases oo:g az
   .rw[Vo oo]at hq;obtain⟨k1,k2,k3⟩:=gJ y! ry hp;exact hq _ _ _ k1 k2 k3
   .rw[Vv oo]at hq;exact hq.elim
 .exact h1.elim
theorem dD(hc:X.calm=true)(Nw:X.pn=[])(B:ph X N scope cl k a9)(hi:PI X tg iter (tI X E it))(hg:∀C fp s H,PG (qV X N scope cl C fp s H) tg (tA (W0 X) a))(JL:∀C fp s H,yU (qV X N scope cl C fp s H) ifs (tG (W0 X) E0 RB c))(he:∀C fp s H,PE (qV X N scope cl C fp s H) elt (tG (W0 X) E0 (Rl X.K) e))(hs:∀x,foldedSetIterable iter X.env x=pure x:=by intro _;rfl):PE X (.ListComp elt [⟨tg,iter,ifs,0⟩] scope pos) (tE X E (bw k a9 it a c e)):=
 PE.imp (FI hc B hi hg JL he hs) fun _ _ _ h=>sN Nw h
theorem kA(i:Nat){y:Str}{py:Pos}(hN:X.N.Nodup)(hc:X.calm=true)(Nw:X.pn=[])(B:ph X N scope cl k a9)(hi:PI X tg iter (tI X E it))(hg:∀C fp s H,PG (qV X N scope cl C fp s H) tg (tA (W0 X) a))(JL:∀C fp s H,yU (qV X N scope cl C fp s H) ifs (tG (W0 X) E0 RB c))(he:∀C fp s H,PE (qV X N scope cl C fp s H) elt (tG (W0 X) E0 (Rl X.K) e))(hy:X.N[i]?=some y:=by rfl)(hx:Loc X.env.scope y:=by first|exact Or.inl rfl|exact Or.inr rfl)(QA:swapsWith (.ListComp elt [⟨tg,iter,ifs,0⟩] scope pos) (some (.Name y py)) Cy.line X.env=pure true:=by rfl)(hs:∀x,foldedSetIterable iter X.env x=pure x:=by intro _;rfl)(hf:X.fn y=true\/X.env.scope.names.lookup y=some .local:=by first|exact .inl rfl|exact .inr rfl|assumption):
  PS X (.Assign [.Name y py] (.ListComp elt [⟨tg,iter,ifs,0⟩] scope pos) Cy) (tS X E (aE i (bw k a9 it a c e))):=
 PS.imp (L2.xw hN hy hx hc B hi hg JL he QA hs hf) fun _ _ _ h=>sN Nw (vF h)
theorem F?{C fp s H}:yU (qV X N scope cl C fp s H) [] (tG (W0 X) E0 RB aJ):=by intro ag s' σ H' Q I q;refine FE ag s' σ H' Q I ?_;obtain⟨μ,ρ,st,rs,sr,h⟩:=q;exact h ρ H' true (aG.refl _ _) sr rfl
theorem F'{cc:Expr}{C fp s H}(h:PT (qV X N scope cl C fp s H) cc (tG (W0 X) E0 RB c)):yU (qV X N scope cl C fp s H) [cc] (tG (W0 X) E0 RB c):=FF h
theorem C8{P:_X}{w:World}{C fp s H}:Passes (jA P w) (qV X N scope cl C fp s H) E0:=by rintro ag σ H' s' e s2 I ⟨ea,cls,H2,_,_,q⟩;exact q.elim
end
abbrev FM:=ak->List ak->ae->bI ak
def QV(W:Wo)(E:XK)(f:FM):V->List V->Hp->VK->Prop:=fun x xs H Q=>∃ρ st u us,SR W.K ρ st H/\Rl W.K ρ H u x/\aT W.K ρ H us xs/\wR W E (Rl W.K) ρ H Q (f u us st)
def vG(st:ae):ak->Bool
 |.loc n=>match st[n]? with
  |some (.lst _)=>true
  |_=>false
 |_=>false
def fQ(f:FM)(o:ME)(a:MA):ME:=fun μ st=>(o μ st).bind fun x aL=>if vG aL x=true then(a μ aL).bind fun xs st2=>f x xs st2 else .bad
def bU:FM
 |.loc n,[v],st=>match st[n]? with
  |some (.lst us)=>if us.length<sizeLine then .ok .bR (st.set n (.lst (us++[v])))else .bad
  |_=>.bad
 |_,_,_=>.bad
section
variable{X:Cx}{E:XK}{o e:Expr}{es:List Expr}{mo:ME}{ms:MA}{apos br:Pos}{f:FM}
theorem Cf.imp{id:String}{r r':V->List V->Hp->VK->Prop}(h:Cf X id r)(k:∀x xs H Q,r' x xs H Q->r x xs H Q):Cf X id r':=fun ag s σ H x xs v us Q I rx rs q=>h ag s σ H x xs v us Q I rx rs (k x xs H Q q)
theorem uh{K:_N}{ρ:_R}{st:ae}{H:Hp}{n:Nat}{us sI:List ak}{a:_V}{vs pD:List V}(sr:SR K ρ st H)(h:st[n]?=some (.lst us))(ha:ρ[n]?=some a)(hH:H a=some (.lst vs))(r:aT K ρ H sI pD):
  aG ρ H ρ (upd H a (.lst pD))/\SR K ρ (st.set n (.lst sI)) (upd H a (.lst pD)):=by
 have e:aG ρ H ρ (upd H a (.lst pD)):=aG.put hH (fun _ z=>by cases z) (fun _ _ z=>by cases z);exact⟨e,sr.set h rfl rfl ha hH (fun _ z=>by cases z) (fun _ _ z=>by cases z) ⟨pD,a!,aT.mono e _ _ r⟩⟩
theorem xG:Cf X "list.append" (QV (wo X) E bU):=by
 refine Cf.imp Ar ?_;rintro x xs H Q ⟨ρ,st,u,us,sr,r1,r2,h⟩;unfold bU at h;split at h
 .rename_i n v;obtain⟨a,rfl,ha⟩:=r1.cD;obtain⟨y,rfl,ry⟩:=r2.qW;split at h
  .rename_i ws hw;split at h
   .rename_i hz;obtain⟨vs,hH,rv⟩:=sr.cell n _ a hw ha;refine⟨a,vs,y,rfl,rfl,hH,by rw[<-rv.length];exact hz,?_⟩;obtain⟨k1,k2⟩:=uh sr hw ha hH (rv.append (aT.one ry));exact h ρ _ _ k1 k2 Rl.vA
   .exact h.elim
  .exact h.elim
 .exact h.elim
theorem C9{K:_N}{ρ:_R}{st:ae}{H:Hp}{u:ak}{x:V}(sr:SR K ρ st H)(r:Rl K ρ H u x)(h:vG st u=true):OQ K "list" x H:=by
 cases u with
 |loc n=>
  obtain⟨a,rfl,ha⟩:=r.cD;obtain⟨c,hc,kc⟩:=sr.there ha;simp only[vG,hc]at h;cases c with
  |lst us=>obtain⟨vs,h1,_⟩:=kc;exact .inl ⟨rfl,vs,iY.of h1⟩
  |_=>cases h
 |_=>cases h
theorem C_{name:Str}{id:String}(slot:Slot "list" name id)(MS:typeOf (.builtin id)=pure (.type "method_descriptor"))(hm:Cf X id (QV (wo X) E f))(ho:PE X o (tE X E mo))(ha:PA X (e::es) (tL X E ms))(fZ:attributeBase o name X.env (eval o X.env)=eval o X.env:=by rfl)
  (xm:((backTo br (starEach (e::es) X.env)).all (fun x => !x.1)&&(backToKw br (keywordEach [] X.env)).all (fun x=>x.1.isSome)
   && decide ((e::es).length+([]:List Keyword).length+(if([]:List Keyword).isEmpty then 0 else 1)<30))=true:=by rfl)
  (f_:(apos.endLine==br.line)=true:=by rfl) (hs:starEach (e::es) X.env=(false,eval e X.env)::starEach es X.env:=by rfl) (ku:(backTo br (starEach es X.env)).any (·.1)=false:=by rfl):
  PE X (.Call (.Attribute o name apos) (e::es) [] br) (tE X E (fQ f mo ms)):=by
 refine PE.imp (MU PySem.F.plainAttrs_list slot MS hm ho ha fZ xm f_ hs ku) ?_;rintro σ H Q ⟨μ,ρ,st,rs,sr,h⟩;refine go μ ρ st rs sr h fun u aL ρ1 H1 x e1 bJ r1 h1=>?_;split at h1
 .rename_i hz;refine⟨C9 bJ r1 hz,?_⟩;refine go (R1:=aT X.K) μ ρ1 aL (rs.mono e1) bJ h1 fun us st2 ρ2 H2 xs e2 jQ r2 h2=>?_;exact⟨ρ2,st2,u,us,jQ,Rl.mono e2 _ _ r1,r2,h2⟩
 .exact h1.elim
end
inductive eJ(X:Cx)(scope:Scope):List (Str×_V)->List Nat->Prop
 |nil:eJ X scope [] []
 |cons {y:Str} {c:_V} {j:Nat} {cl:List (Str×_V)} {a9:List Nat} (sub:X.env.cells.lookup y=some c) (hX:X.N[j]?=some y) (hk:X.env.kindOf y=some .cell\/X.env.kindOf y=some .free)
   (hr:(relabel scope X.env).names.lookup y=some .cell\/(relabel scope X.env).names.lookup y=some .free) (r:eJ X scope cl a9):eJ X scope ((y,c)::cl) (j::a9)
theorem eJ.sub{X:Cx}{scope:Scope}{cl:List (Str×_V)}{a9:List Nat}(A:eJ X scope cl a9):∀x c,cl.lookup x=some c->X.env.cells.lookup x=some c:=by
 induction A with
 |nil=>intro x c h;cases h
 | @cons y c0 _ _ _ sub _ _ _ _ ih=>
  intro x c h;rw[Y3]at h;by_cases e:x=y
  .rw[Wu.mpr e]at h;rw[e];exact sub.trans h
  .rw[VV.mpr e]at h;exact ih x c h
theorem eJ.at_{X:Cx}{scope:Scope}{cl:List (Str×_V)}{a9:List Nat}(A:eJ X scope cl a9):∀(i j:Nat)(x:Str),a9[i]?=some j->(cl.map (·.1))[i]?=some x ->
  X.N[j]?=some x/\(X.env.kindOf x=some .cell\/X.env.kindOf x=some .free)/\((relabel scope X.env).names.lookup x=some .cell\/(relabel scope X.env).names.lookup x=some .free):=by
 induction A with
 |nil=>intro i j x h;cases h
 |cons _ hX hk hr _ ih=>
  intro i j x h h2;cases i with
  |zero=>cases h;cases h2;exact⟨hX,hk,hr⟩
  |succ i=>exact ih i j x h h2
theorem gQ:∀{cl:List (Str×_V)}{x:Str},x∈cl.map (·.1)->∃c,cl.lookup x=some c
 |[],x,h=>by simp at h
 |(y,c)::cl,x,h=>by
  by_cases e:x=y
  .exact⟨c,by simp[e]⟩
  .have e':(x==y)=false:=by simpa using e
   rw[Vl,VH]at h;rcases h with h|h
   .exact absurd h e
   .obtain⟨d,hd⟩:=gQ h;exact⟨d,by simp only[Y3,e'];exact hd⟩
theorem Nx{X:Cx}{N:_S}{scope:Scope}{k:Nat}{cl:List (Str×_V)}{a9:List Nat}(om:closureFor scope X.env=pure cl)(A:eJ X scope cl a9)(has:((relabel scope X.env).names.all fun p => !(p.2 == .cell || p.2 == .free) || (cl.map (·.1)).contains p.1)=true)(f?:(scope.names.all fun p => !(p.2 == .cell))=true)(kind:scope.kind=.function)(names:(scope.names.all fun p => !(p.2 == .local) || scope.names.lookup p.1==some .local)=true)(len:N.length=k+a9.length)(hN:N.drop k=cl.map (·.1)):ph X N scope cl k a9 where
 om:=om
 sub:=A.sub
 has:=fun x h=>by
  have m:x∈cl.map (·.1):=by rcases h with h|h<;>(have m:=WG h;have z:=WE.mp has _ m;simpa using z)
  exact gQ m
 f?:=fun x hx h=>by have z:=WE.mp f? x hx;simp[h]at z
 kind:=kind
 names:=fun x hx h=>by have z:=WE.mp names x hx;simpa[h]using z
 len:=len
 at_:=fun i j x h1 h2=>A.at_ i j x h1 (by rw[<-hN,List.getElem?_drop];exact h2)
def FnAt(P:_X)(w:World)(K:_N)(mg:_L)(base:Heap)(x:Str)(k:Nat)(f:FN):Prop:=
 ∃fa fd ps,fX P w K mg base (jA P w) k fa fd ps (CJ ⟨K,mg,[]⟩ f)/\mg x=some (.ref fa)/\W.keepIn K (.ref fa)=true/\Binds K fd ps []
section
variable{X:Cx}{E:XK}{pos p:Pos}{e:Expr}{es:List Expr}{ms:MA}{f:FN}{x:Str}{k j:Nat}
theorem Ny(G:FnAt X.prog X.w X.K X.mg X.base x k f)(hr:dn j X.A)(hk:k<=j)(hg:Gl X x)(hx:Passes (jA X.prog X.w) X E)(ha:PA X (e::es) (tL X E ms))(kU:(x==("__debug__":Str))=false:=by decide)(he:starEach (e::es) X.env=(false,eval e X.env)::starEach es X.env:=by rfl)(i?:(backTo pos (starEach es X.env)).any (·.1)=false:=by rfl):PE X (.Call (.Name x p) (e::es) [] pos) (tE X E (aq f ms)):=by obtain⟨fa,fd,ps,F,hm,kp,b⟩:=G;exact FX F (hr.mono hk) hg hm kp b hx ha kU he i?
end
section
variable{P:_X}{w:World}{K:_N}{mg:_L}{base:Heap}
theorem FnAt.mk{x:Str}{st:Stmt}{f:_V}{fd:FuncData}{N ps:_S}{k:Nat}{body:MB}(F:ES K x x st f fd)(hm:mg x=some (.ref f))(S:cN N ps (aH st))(hb:∀(kV doc pm:_T)(an:Option _V)(dC ct:_T)(us:_P),us.length=ps.length->bindArgs (W.fnOf x x (dI st) (cA st) (aH st) .none kV doc pm an dC ct) ⟨us,[]⟩=pure (ps.zip us))
  (h:∀ (dC:_T) (A:_W) (outer:List PySem.Env) (s:_U) (H:Hp) (E:XK),dn k (A.deeper (envOfC x (aH st) s.heap.objs.size f dC)) ->
   j! (fY (jA P w) P w K mg base N x (aH st) f dC A outer s H E) (cA st) (tS (fY (jA P w) P w K mg base N x (aH st) f dC A outer s H E) E body)):FnAt P w K mg base x (k+1) (eg ps.length N.length body):=
 ⟨f,fd,ps,ug F S h,hm,F.kp,F.binds hb⟩
theorem vH{N:_S}{qual:Str}{scope:Scope}{f:_V}{cd:_T}{A:_W}{outer:List PySem.Env}{s₀:_U}{H₀:Hp}{E:XK}:PassesOwn (model P w) (A.deeper (envOfC qual scope s₀.heap.objs.size f cd)) (envOfC qual scope s₀.heap.objs.size f cd) (fY (jA P w) P w K mg base N qual scope f cd A outer s₀ H₀ E).xe:=
 PassesOwn.leaving
theorem xH{N:_S}{qual:Str}{scope:Scope}{f:_V}{cd:_T}{A:_W}{outer:List PySem.Env}{s₀:_U}{H₀:Hp}{E:XK}:Raises (fY (jA P w) P w K mg base N qual scope f cd A outer s₀ H₀ E) E:=
 fun ag σ H s h' e cls vs I hx hE=>AA I hx hE
theorem Glob.int{x:Str}{i:Int}{t:Tok}(h:mg x=some (.int i t)):Glob K mg x (.int i):=⟨_,.int i,h,⟨t,rfl⟩,fun _ _=>Rl.mkInt i⟩
theorem Glob.str{x z:Str}{t:Tok}(h:mg x=some (.str z t)):Glob K mg x (.str z):=⟨_,.str z,h,⟨t,rfl⟩,fun _ _=>Rl.mkStr z⟩
theorem Glob.ints{x:Str}{a:_V}{o:Obj}{aD:Array _T}{n:Nat}{ns:_O}(h:mg x=some (.ref a))(l:K.lookup a=some o)(hc:o.cls=.type "tuple")(hd:o.data=.seq aD n)(hz:aD.size<=sizeLine)(hv:aV (ns.map V.int) aD.toList):Glob K mg x (.mt (ns.map .int)):=
 ⟨_,.ref a,h,rfl,fun ρ H=>Rl.Nk (.inr ⟨o,aD,n,l,hc,hd,hz,hv⟩) (aT.ints ns)⟩
def y?(K:_N):Sp:=fun vs H Q _=>∃(a:_V)(ns:_O),vs=[.ref a]/\Fv H/\iY K H a (ns.map V.int)/\ns.length<=63/\∀H',Q (.bl true) H'
theorem Kj{H:Hp}{a:_V}{c:aP}(k:gb K [a] H c a):SR K [a] [c] H:=by
 refine⟨rfl,fun n m b h1 h2 _ _=>?_,fun n c' b h1 h2=>?_⟩
 .have p1:=gI h1;have p2:=gI h2;simp at p1 p2;lia
 .have p1:=gI h1;simp at p1;subst p1;cases h1;cases h2;exact k
theorem Kk{f:FN}(hf:∀(c:aP)(ns:_O),ns.length<=63->ai [c] 0=some (ns.map ak.int)->∃az,f [.loc 0] [c]=.ok (.bl true) az){vs:List V}{H:Hp}{Q:VK}{E:XK}(h:y? K vs H Q E):CJ ⟨K,mg,[]⟩ f vs H Q E:=by
 obtain⟨a,ns,rfl,hO,hS,hl,q⟩:=h;have fin:∀c:aP,gb K [a] H c a->ai [c] 0=some (ns.map ak.int)->CJ ⟨K,mg,[]⟩ f [.ref a] H Q E:=by intro c k hi;obtain⟨az,e⟩:=hf c ns hl hi;refine⟨[.loc 0],[a],[c],aT.one (Rl.sH rfl),Kj k,?_⟩;rw[e];intro ρ' H' v _ _ r;rw[r.rf];exact q H'
 rcases hS with(h|⟨o,h⟩)|h
 .rcases hO a with z|⟨o,xs,z⟩<;>(rw[z]at h;cases h)
 .exact fin (.JT (ns.map .int)) ⟨o,_,h,aT.ints ns⟩ rfl
 .exact fin (.mod (ns.map .int)) ⟨_,h,aT.ints ns⟩ rfl
theorem C!{l:W.OpenLaw}{q:_X}{loose:_S}{XP:(_L)->Heap->Prop}{YP:World->Heap->Prop}{d:DefRec}{K:Params->_N}{x:Str}{k:Nat}(hn:l.most=some 63)(MY:d.params.defaults=[])(hr:dn k callerA)(hY:∀(w:World)(h:Heap),YP w h->(K w.params).In h)
  (F:∀ (w:World) (mg:_L) (fa:_V) (h:Heap),(K w.params).In h->h.Ns mainGlobals mg->mg d.name=some (.ref fa) ->
   ∃fd:FuncData,(∀(s:_U)(u:_T),BindsTo s fd ⟨[u],[]⟩ [(x,u)])/\∀base:Heap,(K w.params).In base->base.Ns mainGlobals mg->fX l.prog w (K w.params) mg base (jA l.prog w) k fa fd [x] (y? (K w.params))):
  W.WalkO q loose XP YP l.row.toRowW d [] (fun f vs=>PySem.call f vs):=
 L2.Fw (n:=63) (k:=k) (x:=x) (CX:=fun w=>jA l.prog w) (sp:=fun w=>y? (K w.params)) hn (by decide) MY hr hY F (fun _ _ a ns hl hO hS=>⟨a,ns,rfl,hO,hS,hl,fun _=>rfl⟩) fun _ _ _ _ _⟨_,_,_,_,_,z⟩=>z
end
abbrev Tg:_P:=[.type "ValueError",.type "Exception",.type "BaseException",.type "object"]
def Kl(K:_N)(mg:_L)(x:Str):Prop:=∃C,mg x=some (.ref C)/\W.excIn K C Tg "ValueError.__new__" = true/\W.subIn K (.ref C) (.type "BaseException")=some true
section
variable{X:Cx}{E:XK}{pos np br p q1 q2:Pos}{x n:Str}{e₀:Expr}{es:List Expr}{ms:MA}{i:Nat}{b₀:Stmt}{Th:List Stmt}{rest:List ExceptHandler}{tab:List (Str×Str×Bool)}{s:MB}{r:MH}
theorem AV(hX:Raises X E)(hc:X.calm=true)(h:Kl X.K X.mg x)(hg:Gl X x)(ha:PA X (e₀::es) (tL X E ms))(he:starEach (e₀::es) X.env=(false,eval e₀ X.env)::starEach es X.env:=by rfl)(i?:(backTo br (starEach es X.env)).any (·.1)=false:=by rfl)(hd:(x==("__debug__":Str))=false:=by decide):
  PS X (.Raise (some (.Call (.Name x np) (e₀::es) [] br)) none pos) (tS X E (gP x ms)):=by
 obtain⟨C,hm,hq,_⟩:=h;exact CL hX hc hm hq PySem.F.excBase_ValueError hg ha he i? hd
end
section
variable{κ:Type}[DecidableEq κ]
def jS(ay:List (κ×ak))(k:κ):Option ak:=(ay.find? fun kv=>decide (kv.1=k)).map (·.2)
def mI(ay:List (κ×ak))(k:κ)(v:ak):List (κ×ak):=
 if(ay.any fun kv=>decide (kv.1=k))=true then ay.map (fun kv=>if kv.1=k then(kv.1,v)else kv)else ay++[(k,v)]
variable{K:_N}{ρ ρ':_R}{H H':Hp}
theorem dG.nil:dG K ρ H ([]:List (κ×ak)) []:=⟨rfl,aT.nil⟩
theorem dG.cons{k:κ}{u:ak}{v:V}{ay:List (κ×ak)}{bV:List (κ×V)}(r:Rl K ρ H u v)(p:dG K ρ H ay bV):dG K ρ H ((k,u)::ay) ((k,v)::bV):=
 ⟨by simp only[Vl,p.1],aT.cons r p.2⟩
theorem dG.bC{k:κ}{u:ak}{ay:List (κ×ak)}{l:List (κ×V)}(p:dG K ρ H ((k,u)::ay) l):∃v bV,l=(k,v)::bV/\Rl K ρ H u v/\dG K ρ H ay bV:=by
 obtain⟨h1,h2⟩:=p;cases l with
 |nil=>simp at h1
 |cons x l=>
  obtain⟨k',v⟩:=x;simp only[Vl,List.cons.injEq]at h1 h2;obtain⟨rfl,h1⟩:=h1;obtain⟨v',r,e,q1,q2⟩:=h2.bC;simp only[List.cons.injEq]at e;obtain⟨rfl,rfl⟩:=e;exact⟨v,l,rfl,q1,h1,q2⟩
theorem dG.dE{l:List (κ×V)}(p:dG K ρ H ([]:List (κ×ak)) l):l=[]:=by
 have:=p.1;cases l with
 |nil=>rfl
 |cons=>simp at this
theorem dG.mono{ay:List (κ×ak)}{l:List (κ×V)}(p:dG K ρ H ay l)(e:aG ρ H ρ' H'):dG K ρ' H' ay l:=⟨p.1,aT.mono e _ _ p.2⟩
theorem dG.length{ay:List (κ×ak)}{l:List (κ×V)}(p:dG K ρ H ay l):ay.length=l.length:=by have:=We List.length p.1;simpa using this
theorem dG.val(k:κ):∀{ay:List (κ×ak)}{l:List (κ×V)},dG K ρ H ay l->(jS ay k=none/\gN l k=none)\/∃u v,jS ay k=some u/\gN l k=some v/\Rl K ρ H u v
 |[],l,p=>by rw[p.dE];exact .inl ⟨rfl,rfl⟩
 |(k',u)::ay,l,p=>by
  obtain⟨v,l',rfl,r,p'⟩:=p.bC;by_cases e:k'=k
  .exact .inr ⟨u,v,by simp[jS,e],by simp[gN,e],r⟩
  .rcases dG.val k p' with⟨h1,h2⟩|⟨u',v',h1,h2,h3⟩
   .exact .inl ⟨by simpa[jS,e]using h1,by simpa[gN,e]using h2⟩
   .exact .inr ⟨u',v',by simpa[jS,e]using h1,by simpa[gN,e]using h2,h3⟩
theorem dG.any(k:κ):∀{ay:List (κ×ak)}{l:List (κ×V)},dG K ρ H ay l->(ay.any fun kv=>decide (kv.1=k))=l.any fun kv=>decide (kv.1=k)
 |[],l,p=>by rw[p.dE];rfl
 |(k',u)::ay,l,p=>by obtain⟨v,l',rfl,r,p'⟩:=p.bC;simp only[W2,dG.any k p']
theorem dG.xo(k:κ){u:ak}{v:V}(r:Rl K ρ H u v):∀{ay:List (κ×ak)}{l:List (κ×V)},dG K ρ H ay l->dG K ρ H (ay.map fun kv=>if kv.1=k then(kv.1,u)else kv) (l.map fun kv=>if kv.1=k then(kv.1,v)else kv)
 |[],l,p=>by rw[p.dE];exact dG.nil
 |(k',u')::ay,l,p=>by
  obtain⟨v',l',rfl,r',p'⟩:=p.bC;simp only[Vl];by_cases e:k'=k
  .rw[Vo e,Vo e];exact dG.cons r (dG.xo k r p')
  .rw[Vv e,Vv e];exact dG.cons r' (dG.xo k r p')
theorem dG.snoc{k:κ}{u:ak}{v:V}(r:Rl K ρ H u v):∀{ay:List (κ×ak)}{l:List (κ×V)},dG K ρ H ay l->dG K ρ H (ay++[(k,u)]) (l++[(k,v)])
 |[],l,p=>by rw[p.dE];exact dG.cons r dG.nil
 |(k',u')::ay,l,p=>by obtain⟨v',l',rfl,r',p'⟩:=p.bC;exact dG.cons r' (dG.snoc r p')
theorem dG.put(k:κ){u:ak}{v:V}(r:Rl K ρ H u v){ay:List (κ×ak)}{l:List (κ×V)}(p:dG K ρ H ay l):dG K ρ H (mI ay k u) (putK l k v):=by
 unfold mI putK;rw[p.any k];split
 .exact p.xo k r
 .exact p.snoc r
end
def gK:ak->Option bD
 |.int i=>some (.inl i)
 |.str x=>some (.inr x)
 |_=>none
def keysOf:List ak->Option (List bD)
 |[]=>some []
 |u::us=>match gK u,keysOf us with
  |some k,some ks=>some (k::ks)
  |_,_=>none
def mJ:ak->Option (List bD)
 |.tup us=>keysOf us
 |_=>none
section
variable{K:_N}{ρ:_R}{H:Hp}
theorem oU{u:ak}{v:V}{k:bD}(r:Rl K ρ H u v)(h:gK u=some k):v=kV k:=by
 cases u with
 |int i=>cases h;exact r.bK
 |str x=>cases h;exact r.iT
 |_=>cases h
theorem vI:∀{us:List ak}{vs:List V}{ks:List bD},aT K ρ H us vs->keysOf us=some ks->vs=ks.map kV
 |[],vs,ks,r,h=>by cases h;exact r.dE
 |u::us,vs,ks,r,h=>by
  obtain⟨v,r',rfl,h2,h3⟩:=r.bC;unfold keysOf at h;split at h
  .rename_i k ks' e1 e2;cases h;rw[oU h2 e1,vI h3 e2];rfl
  .cases h
theorem vJ{u:ak}{v:V}{ks:List bD}(r:Rl K ρ H u v)(h:mJ u=some ks):∃b,v=.ref b/\H b=some (.tup (ks.map kV)):=by
 cases u with
 |tup us=>
  obtain⟨b,vs,rfl,hb,rb⟩:=r.AG;rw[vI rb h]at hb;exact⟨b,rfl,hb⟩
 |_=>cases h
end
def j'(st:ae)(d k:ak):Option (Option ak):=match d with
 |.loc n=>match st[n]? with
  |some (.dK ay)=>(gK k).map fun q=>jS ay q
  |some (.dT ay)=>(mJ k).map fun q=>jS ay q
  |_=>none
 |_=>none
def gR(st:ae)(d k v:ak):Option ae:=match d with
 |.loc n=>match st[n]? with
  |some (.dK ay)=>if ay.length<sizeLine then(gK k).map fun q=>st.set n (.dK (mI ay q v))else none
  |some (.dT ay)=>if ay.length<sizeLine then(mJ k).map fun q=>st.set n (.dT (mI ay q v))else none
  |_=>none
 |_=>none
theorem sO{K:_N}{ρ:_R}{st:ae}{H:Hp}{d k:ak}{x y:V}{o:Option ak}(sr:SR K ρ st H)(rd:Rl K ρ H d x)(rk:Rl K ρ H k y)(h:j' st d k=some o):
  ∃a o',x=.ref a/\og H a y o'/\M8 H a/\((o=none/\o'=none)\/∃u v,o=some u/\o'=some v/\Rl K ρ H u v):=by
 cases d with
 |loc n=>
  obtain⟨a,rfl,ha⟩:=rd.cD;unfold j' at h;dsimp only at h;split at h
  .rename_i ay e;obtain⟨l,hl,p⟩:=sr.cell n _ a e ha;cases z:gK k with
   |none=>rw[z]at h;cases h
   |some q=>
    rw[z]at h;cases h;have:=oU rk z;subst this;exact⟨a,gN l q,rfl,og.k hl,.inl ⟨l,.inl hl⟩,p.val q⟩
  .rename_i ay e;obtain⟨l,hl,p⟩:=sr.cell n _ a e ha;cases z:mJ k with
   |none=>rw[z]at h;cases h
   |some q=>
    rw[z]at h;cases h;obtain⟨b,rfl,hb⟩:=vJ rk z;exact⟨a,gN l q,rfl,og.t hl hb,.inr ⟨l,.inl hl⟩,p.val q⟩
  .cases h
 |_=>cases h
theorem xI{K:_N}{ρ:_R}{st az:ae}{H:Hp}{d k v:ak}{x y z:V}(sr:SR K ρ st H)(rd:Rl K ρ H d x)(rk:Rl K ρ H k y)(rv:Rl K ρ H v z)(h:gR st d k v=some az):
  ∃a H',x=.ref a/\ud H a y z H'/\aG ρ H ρ H'/\SR K ρ az H':=by
 cases d with
 |loc n=>
  obtain⟨a,rfl,ha⟩:=rd.cD;unfold gR at h;dsimp only at h;split at h
  .rename_i ay e;obtain⟨l,hl,p⟩:=sr.cell n _ a e ha;split at h
   .rename_i hz;cases zk:gK k with
    |none=>rw[zk]at h;cases h
    |some q=>
     rw[zk]at h;cases h;have:=oU rk zk;subst this;have aL:aG ρ H ρ (upd H a (.dK (putK l q z))):=aG.put hl (fun _ z=>by cases z) (fun _ _ z=>by cases z);exact⟨a,_,rfl,ud.k hl (by rw[<-p.length];exact hz),aL,sr.set e rfl rfl ha hl (fun _ z=>by cases z) (fun _ _ z=>by cases z) ⟨_,a!,(p.put q rv).mono aL⟩⟩
   .cases h
  .rename_i ay e;obtain⟨l,hl,p⟩:=sr.cell n _ a e ha;split at h
   .rename_i hz;cases zk:mJ k with
    |none=>rw[zk]at h;cases h
    |some q=>
     rw[zk]at h;cases h;obtain⟨b,rfl,hb⟩:=vJ rk zk;have aL:aG ρ H ρ (upd H a (.dT (putK l q z))):=aG.put hl (fun _ z=>by cases z) (fun _ _ z=>by cases z);exact⟨a,_,rfl,ud.t hl hb (by rw[<-p.length];exact hz),aL,sr.set e rfl rfl ha hl (fun _ z=>by cases z) (fun _ _ z=>by cases z) ⟨_,a!,(p.put q rv).mono aL⟩⟩
   .cases h
  .cases h
 |_=>cases h
def gh:ME:=fun _ st=>.ok (.loc st.length) (st++[.dK []])
def pJ:ME:=fun _ st=>.ok (.loc st.length) (st++[.dT []])
def gi:F2:=fun d k st=>match j' st d k with
 |some (some v)=>.ok v st
 |_=>.bad
def Vg(neg:Bool):F2:=fun k d st=>match j' st d k with
 |some o=>.ok (.bl (if neg then !o.isSome else o.isSome)) st
 |none=>.bad
def pK(st:ae):ak->Bool
 |.loc n=>match st[n]? with
  |some (.dK _)=>true
  |some (.dT _)=>true
  |_=>false
 |_=>false
def mK(d k x:ME):ME:=fun μ st=>(d μ st).bind fun dv aL=>if pK aL dv=true then(k μ aL).bind fun kv st2=>(x μ st2).bind fun xv l_=>match j' l_ dv kv with
 |some o=>.ok (o.getD xv) l_
 |none=>.bad else .bad
def fE(d k v:ME):MB:=fun μ st=>(v μ st).sb μ fun vv aL=>(d μ aL).sb μ fun dv st2=>(k μ st2).sb μ fun kv l_=>match gR l_ dv kv vv with
 |some l!=>.nx μ l!
 |none=>.bad
section
variable{X:Cx}{E:XK}{pos pos' apos br:Pos}{o i e f value:Expr}{md mk mv mx:ME}
theorem k8{K:_N}{ρ:_R}{st:ae}{H:Hp}(sr:SR K ρ st H){p:_V}(hp:H p=none){ob:HO}{c:aP}(k:gb K (ρ++[p]) (upd H p ob) c p):
  aG ρ H (ρ++[p]) (upd H p ob)/\SR K (ρ++[p]) (st++[c]) (upd H p ob)/\Rl K (ρ++[p]) (upd H p ob) (.loc st.length) (.ref p):=by
 refine⟨aG.snoc p (bW hp),sr.alloc hp k,Rl.sH ?_⟩;rw[<-sr.len,Vy (Vp _),Wk];rfl
theorem C?:PE X (.Dict [] [] pos) (tE X E gh):=by refine PE.imp Cp ?_;rintro σ H Q ⟨μ,ρ,st,rs,sr,h⟩ p hp;obtain⟨k1,k2,k3⟩:=k8 (c:=.dK []) sr hp ⟨[],a!,dG.nil⟩;exact h _ _ _ k1 k2 k3
theorem Dc:PE X (.Dict [] [] pos) (tE X E pJ):=by refine PE.imp Cq ?_;rintro σ H Q ⟨μ,ρ,st,rs,sr,h⟩ p hp;obtain⟨k1,k2,k3⟩:=k8 (c:=.dT []) sr hp ⟨[],a!,dG.nil⟩;exact h _ _ _ k1 k2 k3
theorem Ga(hu:X.A.units+64<cLine)(ho:PE X o (tE X E md))(hi:PE X i (tE X E mk))(hs:JC i:=by exact fun _ _=>rfl):PE X (.Subscript o i pos) (tE X E (ah gi md mk)):=by
 refine PE.imp (FA (by lia) ho hi hs) ?_;rintro σ H Q ⟨μ,ρ,st,rs,sr,h⟩;refine go μ ρ st rs sr h fun d aL ρ1 H1 x e1 bJ r1 h1=>?_;refine go μ ρ1 aL (rs.mono e1) bJ h1 fun k st2 ρ2 H2 y e2 jQ r2 h2=>?_;unfold gi at h2;split at h2
 .rename_i u hl;obtain⟨a,o',rfl,hd,_,hv⟩:=sO jQ (Rl.mono e2 _ _ r1) r2 hl;rcases hv with⟨z,_⟩|⟨u',v,z,rfl,rv⟩
  .cases z
  .cases z;exact⟨a,v,rfl,hd,h2 ρ2 H2 v (aG.refl _ _) jQ rv⟩
 .exact h2.elim
theorem za{K:_N}{ρ:_R}{st:ae}{H:Hp}{d:ak}{x:V}(sr:SR K ρ st H)(r:Rl K ρ H d x)(h:pK st d=true):∃a,x=.ref a/\M8 H a:=by
 cases d with
 |loc n=>
  obtain⟨a,rfl,ha⟩:=r.cD;obtain⟨c,hc,kc⟩:=sr.there ha;simp only[pK,hc]at h;cases c with
  |dK ay=>obtain⟨l,hl,_⟩:=kc;exact⟨a,rfl,.inl ⟨l,.inl hl⟩⟩
  |dT ay=>obtain⟨l,hl,_⟩:=kc;exact⟨a,rfl,.inr ⟨l,.inl hl⟩⟩
  |_=>cases h
 |_=>cases h
theorem Dd(hu:X.A.units+64<cLine)(ho:PE X o (tE X E md))(he:PE X e (tE X E mk))(hf:PE X f (tE X E mx))(m:M2 X o "get" apos e f br:=by exact⟨rfl,rfl,rfl,rfl⟩):PE X (.Call (.Attribute o "get" apos) [e,f] [] br) (tE X E (mK md mk mx)):=by
 refine PE.imp (Cr (by lia) ho he hf m) ?_;rintro σ H Q ⟨μ,ρ,st,rs,sr,h⟩;refine go μ ρ st rs sr h fun d aL ρ1 H1 x e1 bJ r1 h1=>?_;split at h1
 .rename_i hd;obtain⟨a,rfl,ia⟩:=za bJ r1 hd;refine⟨a,rfl,ia,?_⟩;refine go μ ρ1 aL (rs.mono e1) bJ h1 fun k st2 ρ2 H2 y e2 jQ r2 h2=>?_;refine go μ ρ2 st2 ((rs.mono e1).mono e2) jQ h2 fun xv l_ ρ3 H3 z e3 EV r3 h3=>?_;split at h3
  .rename_i ov hl;obtain⟨a',o',ea,L!,_,hv⟩:=sO EV (Rl.mono (e2.trans e3) _ _ r1) (Rl.mono e3 _ _ r2) hl;cases ea;refine⟨o',L!,?_⟩;rcases hv with⟨rfl,rfl⟩|⟨u,v,rfl,rfl,rv⟩
   .exact h3 ρ3 H3 z (aG.refl _ _) EV r3
   .exact h3 ρ3 H3 v (aG.refl _ _) EV rv
  .exact h3.elim
 .exact h1.elim
theorem Gb(hu:X.A.units+64<cLine)(ho:PE X o (tE X E md))(hi:PE X i (tE X E mk))(hv:PE X value (tE X E mv))(hs:swapsWith value (some (.Subscript o i pos')) pos.line X.env=pure false:=by rfl):
  PS X (.Assign [.Subscript o i pos'] value pos) (tS X E (fE md mk mv)):=by
 refine PS.imp (FC (by lia) ho hi hv hs) ?_;rintro D σ H ⟨μ,ρ,st,rs,sr,h⟩;refine yW μ ρ st rs sr h fun v aL ρ1 H1 z e1 bJ r1 h1=>?_;refine yW μ ρ1 aL (rs.mono e1) bJ h1 fun d st2 ρ2 H2 x e2 jQ r2 h2=>?_;refine yW μ ρ2 st2 ((rs.mono e1).mono e2) jQ h2 fun k l_ ρ3 H3 y e3 EV r3 h3=>?_;split at h3
 .rename_i l! wY;obtain⟨a,H4,rfl,hd,s4,pI⟩:=xI EV (Rl.mono e3 _ _ r2) r3 (Rl.mono (e2.trans e3) _ _ r1) wY;exact⟨a,H4,rfl,hd,h3 ρ3 H4 σ s4 pI ((((rs.mono e1).mono e2).mono e3).mono s4)⟩
 .exact h3.elim
end
section
variable{X:Cx}{E:XK}{es:List Expr}{ms:MA}{pos:Pos}
theorem Km{a b:Expr}{ma mb:ME}(ha:PE X a (tE X E ma))(hb:PE X b (tE X E mb))(hs:tZ b:=by exact fun _ _=>rfl):PE X (.Subscript a b pos) (tE X E (ah aY ma mb)):=Nq QT ha hb hs
end
def Nz(us:List ak)(lo hi:Option Int):List ak:=(us.drop (HT.HJ us.length 0 lo)).take (HT.HJ us.length us.length hi-HT.HJ us.length 0 lo)
abbrev MO:=Env->ae->bI (Option Int)
def Ti(m:ME):MO:=fun μ st=>(m μ st).bind fun v az=>match v with
 |.int i=>.ok (some i) az
 |_=>.bad
def slV(lo hi:Option Int):ak->ae->bI ak
 |.tup us,st=>if HT.HJ us.length 0 lo=0/\HT.HJ us.length us.length hi=us.length then .bad else .ok (.tup (Nz us lo hi)) st
 |.loc n,st=>match ai st n with
  |some us=>.ok (.loc st.length) (st++[.lst (Nz us lo hi)])
  |none=>.bad
 |_,_=>.bad
def aaa:FM
 |.loc n,[],st=>match st[n]? with
  |some (.lst us)=>match us[us.length-1]? with
   |some u=>.ok u (st.set n (.lst us.dropLast))
   |none=>.bad
  |_=>.bad
 |_,_,_=>.bad
def iw:FM
 |.loc n,[.loc m],st=>match st[n]?,st[m]? with
  |some (.lst us),some (.lst ws)=>if us.length+ws.length<=sizeLine then .ok .bR (st.set n (.lst (us++ws)))else .bad
  |_,_=>.bad
 |_,_,_=>.bad
section
variable{X:Cx}{E:XK}{o:Expr}{mo:ME}{apos br:Pos}{f:FM}
theorem xJ:Cf X "list.extend" (QV (wo X) E iw):=by
 refine Cf.imp As ?_;rintro x xs H Q ⟨ρ,st,u,us,sr,r1,r2,h⟩;unfold iw at h;split at h
 .rename_i n m;obtain⟨a,rfl,ha⟩:=r1.cD;obtain⟨y,rfl,ry⟩:=r2.qW;obtain⟨b,rfl,hb⟩:=ry.cD;split at h
  .rename_i us ws hw hw2;split at h
   .rename_i hz;obtain⟨vs,hH,rv⟩:=sr.cell n _ a hw ha;obtain⟨zs,hZ,rz⟩:=sr.cell m _ b hw2 hb;refine⟨a,b,vs,zs,rfl,rfl,hH,hZ,by rw[<-rv.length,<-rz.length];exact hz,?_⟩;obtain⟨k1,k2⟩:=uh sr hw ha hH (rv.append rz);exact h ρ _ _ k1 k2 Rl.vA
   .exact h.elim
  .exact h.elim
 .exact h.elim
end
def Gd(o i v:ak)(st:ae):Option ae:=match o,i with
 |.loc n,.int k=>match st[n]? with
  |some (.lst us)=>(L2.Cb us.length k).map fun j=>st.set n (.lst (us.set j v))
  |_=>none
 |_,_=>none
def nxO(μ:Env):Option ae->de
 |some st=>.nx μ st
 |none=>.bad
def HZ(o i v:ME):MB:=fun μ st=>(v μ st).sb μ fun x aL=>(o μ aL).sb μ fun y st2=>(i μ st2).sb μ fun z l_=>nxO μ (Gd y z x l_)
section
variable{X:Cx}{E:XK}{o i v:Expr}{mo mi mv:ME}{pos q8:Pos}{f:F2}
theorem AW{ρ:_R}{st az:ae}{H:Hp}{u z w:ak}{x y q:V}{Q:Hp->Prop}(sr:SR X.K ρ st H)(ru:Rl X.K ρ H u x)(rz:Rl X.K ρ H z y)(t5:Rl X.K ρ H w q)(h:Gd u z w st=some az)(k:∀H',aG ρ H ρ H'->SR X.K ρ az H'->Q H'):HK x y q H Q:=by
 unfold Gd at h;split at h
 .rename_i n j;split at h
  .rename_i us hu;obtain⟨a,rfl,ha⟩:=ru.cD;obtain⟨vs,hH,rv⟩:=sr.cell n _ a hu ha;cases hj:L2.Cb us.length j with
   |none=>rw[hj]at h;cases h
   |some jj=>
    rw[hj]at h;cases h;refine⟨a,vs,j,jj,rfl,rz.bK,hH,by rw[<-rv.length];exact hj,?_⟩;obtain⟨k1,k2⟩:=uh sr hu ha hH (aT.set t5 jj rv);exact k _ k1 k2
  .cases h
 .cases h
theorem Ge(ho:PE X o (tE X E mo))(hi:PE X i (tE X E mi))(hv:PE X v (tE X E mv))
  (ha:∀ u,assign (.Subscript o i q8) X.env u=(do
   let ov <- holding [u] (eval o X.env)
   let iv <- holding [u,ov] (eval i X.env)
   standAt q8
   holding [u,ov,iv] (setItem ov iv u)
   release [u,ov,iv] []):=by intro _;rfl)
  (hs:swapsWithSole [.Subscript o i q8] v pos.line X.env=pure false:=by rfl) (hw:swappedStores [.Subscript o i q8] v X.env=pure none:=by rfl) (h1:(assignEach [.Subscript o i q8] X.env).map (·.2)=[assign (.Subscript o i q8) X.env]:=by rfl):
  PS X (.Assign [.Subscript o i q8] v pos) (tS X E (HZ mo mi mv)):=by
 refine PS.imp (I9 hv (IZ ho hi set_list ha) hs hw h1) ?_;rintro D σ H ⟨μ,ρ,st,rs,sr,h⟩;refine yW μ ρ st rs sr h fun u aL ρ1 H1 x e1 bJ r1 h1=>?_;refine yW μ ρ1 aL (rs.mono e1) bJ h1 fun w st2 ρ2 H2 y e2 jQ r2 h2=>?_;refine yW μ ρ2 st2 ((rs.mono e1).mono e2) jQ h2 fun z l_ ρ3 H3 q e3 EV r3 h3=>?_;cases hz:Gd w z u l_ with
 |none=>rw[hz]at h3;exact h3.elim
 |some l!=>
  rw[hz]at h3;exact AW EV (Rl.mono e3 _ _ r2) r3 (Rl.mono e3 _ _ (Rl.mono e2 _ _ r1)) hz fun H' k1 k2=>h3 ρ3 H' σ k1 k2 ((((rs.mono e1).mono e2).mono e3).mono k1)
end
def nH(hi:Int)(n:Nat):List ak:=(List.range n).map fun(i:Nat)=>ak.int (hi-(i:Int))
theorem De{K:_N}{ρ:_R}{H:Hp}(lo:Int)(n:Nat):HY K ρ H (nH lo n,fun _=>True) (O1 lo n):=by
 intro ρ' az H' e sr g i;refine⟨fun u hu=>?_,fun hi=>?_⟩
 .have hi:i<n:=by have:=gI hu;simpa[nH]using this
  refine⟨hi,fun x LO y=>?_⟩;obtain⟨rfl,rfl⟩:=y;have e:u=ak.int (lo-(i:Int)):=by simp only[nH,VB]at hu;rw[Z' hi]at hu;exact(VO hu).symm
  subst e;exact⟨aG.refl _ _,sr,Rl.mkInt _⟩
 .show n<=i;simpa[nH]using hi
def Df(vs:List ak)(az:ae):bI Itm:=match vs with
 |[.int i,.int j,.int k]=>if k = -1/\-(2 ^ 62)<=i/\i<2 ^ 62/\-(2 ^ 62)<=j/\j<2 ^ 62 then .ok (nH i (i-j).toNat,fun _=>True) az else .bad
 |_=>.bad
def pL(m:MA):MI:=fun μ st=>(m μ st).bind Df
def aab(vs:List ak)(az:ae):bI Itm:=match vs with
 |[.loc n]=>match ai az n with
  |some us=>.ok (us.reverse,fun st2=>ai st2 n=some us) az
  |none=>.bad
 |_=>.bad
def k9:Nat->List ak->List ak
 |_,[]=>[]
 |i,u::us=>.tup [.int i,u]::k9 (i+1) us
theorem vK:∀(us:List ak)(k i:Nat)(z:ak),(k9 k us)[i]?=some z->∃u,us[i]?=some u/\z=.tup [.int ((k+i:Nat):Int),u]
 |[],_,_,_,h=>by cases h
 |u::us,k,0,z,h=>by cases h;exact⟨u,rfl,rfl⟩
 |u::us,k,i+1,z,h=>by obtain⟨w,h1,h2⟩:=vK us (k+1) i z h;exact⟨w,h1,by rw[h2,show k+1+i=k+(i+1) by lia]⟩
theorem sP:∀(us:List ak)(k:Nat),(k9 k us).length=us.length
 |[],_=>rfl
 |_::us,k=>by simp only[k9,Vn,sP us]
def Dg(vs:List ak)(az:ae):bI Itm:=match vs with
 |[.loc n]=>match ai az n with
  |some us=>.ok (k9 0 us,fun st2=>ai st2 n=some us) az
  |none=>.bad
 |_=>.bad
def pM(m:MA):MI:=fun μ st=>(m μ st).bind Dg
section
variable{X:Cx}{E:XK}{tg:Expr}{pos p:Pos}
theorem Gf{a b c:Expr}{m:MA}(hg:Gl X "range")(hm:X.mg "range" = none)(ha:PA X [a,b,c] (tL X E m))(hs:starEach [a,b,c] X.env=[(false,eval a X.env),(false,eval b X.env),(false,eval c X.env)]:=by rfl)(cL:starEach [b,c] X.env=[(false,eval b X.env),(false,eval c X.env)]:=by rfl):
  PI X tg (.Call (.Name "range" p) [a,b,c] [] pos) (tI X E (pL m)):=by
 refine PI.imp (FO hg hm ha hs cL) ?_;rintro σ H R ⟨μ,ρ,st,rs,sr,h⟩;refine go (R1:=aT X.K) μ ρ st rs sr h fun us aL ρ1 H1 xs e1 bJ r1 h1=>?_;unfold Df at h1;split at h1
 .rename_i i j k;obtain⟨v,r',rfl,rv,rr⟩:=r1.bC;obtain⟨w,z,rfl,t5,rz⟩:=rr.QO;split at h1
  .rename_i hz;obtain⟨rfl,hz⟩:=hz;exact⟨i,j,by rw[rv.bK,t5.bK,rz.bK],hz,h1 ρ1 H1 _ (aG.refl _ _) bJ (De i _)⟩
  .exact h1.elim
 .exact h1.elim
theorem Gg{elts:List Expr}{kt:Nat}{tp:Pos}{a:Expr}{m:MA}(hg:Gl X "enumerate")(hm:X.mg "enumerate" = none)(ha:PA X [a] (tL X E m))(hs:starEach [a] X.env=[(false,eval a X.env)]:=by rfl):PI X (.Tuple elts kt tp) (.Call (.Name "enumerate" p) [a] [] pos) (tI X E (pM m)):=by
 refine PI.imp (FQ hg hm PyProof.Rows.Boot.«enumerate» ha hs) ?_;rintro σ H R ⟨μ,ρ,st,rs,sr,h⟩;refine go (R1:=aT X.K) μ ρ st rs sr h fun us aL ρ1 H1 xs e1 bJ r1 h1=>?_;unfold Dg at h1;split at h1
 .rename_i n;obtain⟨v,rfl,rv⟩:=r1.qW;obtain⟨b,rfl,hb⟩:=rv.cD;split at h1
  .rename_i ws hw;obtain⟨vs,O8,rvs⟩:=a_ bJ hw hb;refine⟨b,vs,rfl,O8,h1 ρ1 H1 _ (aG.refl _ _) bJ ?_⟩;intro ρ' az H' e s g i;obtain⟨w1,s1,t1⟩:=a_ s g (e.at_ hb);refine⟨fun z hz=>?_,fun hi=>⟨w1,s1,?_⟩⟩
   .obtain⟨u,hu,rfl⟩:=vK ws 0 i z hz;obtain⟨y,hy,ry⟩:=t1.get hu;refine⟨⟨w1,y,s1,hy⟩,fun x' LO y'=>?_⟩;obtain⟨pp,x1,rfl,hp,rfl,f1⟩:=y';have c1:=(f1 w1 s1).symm.trans hy;cases c1;rw[Wb];exact⟨aG.same (bW hp),s.grow (bW hp),Rl.j? a! (aT.mono (aG.same (bW hp)) _ _ (aT.cons (Rl.mkInt _) (aT.one ry)))⟩
   .have JK:(k9 0 ws).length<=i:=hi;rw[sP]at JK;rw[<-t1.length];exact JK
  .exact h1.elim
 .exact h1.elim
end
def intsOf:List ak->Option (_O)
 |[]=>some []
 |.int i::us=>(intsOf us).map (i :: ·)
 |_::_=>none
def sumF:FN
 |[.loc n],st=>match ai st n with
  |some us=>match intsOf us with
   |some ns=>.ok (.int ns.sum) st
   |none=>.bad
  |none=>.bad
 |_,_=>.bad
theorem pN:∀{us:List ak}{ns:_O},intsOf us=some ns->us=ns.map ak.int
 |[],ns,h=>by cases h;rfl
 |.int i::us,ns,h=>by
  unfold intsOf at h;cases z:intsOf us with
  |none=>rw[z]at h;cases h
  |some ms=>rw[z]at h;cases h;rw[Vl,<-pN z]
theorem sQ(ns:_O):intsOf (ns.map ak.int)=some ns:=by
 induction ns with
 |nil=>rfl
 |cons n ns ih=>simp only[Vl,intsOf,ih];rfl
section
variable{X:Cx}{E:XK}
theorem aT.H_{K:_N}{ρ:_R}{H:Hp}:∀{ns:_O}{vs:List V},aT K ρ H (ns.map ak.int) vs->vs=ns.map V.int
 |[],vs,r=>r.dE
 |n::ns,vs,r=>by obtain⟨v,r',rfl,h1,h2⟩:=r.bC;rw[h1.bK,aT.H_ h2];rfl
theorem AX(hh:X.A.handled=none):bc X (.builtin "sum") (cM (wo X) E sumF):=by
 refine bc.imp (AF hh) ?_;rintro xs H Q ⟨ρ,st,us,sr,r,h⟩;unfold sumF at h;split at h
 .rename_i n;obtain⟨v,rfl,r1⟩:=r.qW;obtain⟨a,rfl,ha⟩:=r1.cD;split at h
  .rename_i ws hw;split at h
   .rename_i ns hn;obtain⟨vs,hs,rv⟩:=a_ sr hw ha;rw[pN hn]at rv;rw[rv.H_]at hs;exact⟨a,ns,rfl,hs,bP sr h⟩
   .exact h.elim
  .exact h.elim
 .exact h.elim
end
section
variable{X:Cx}{E:XK}{o e:Expr}{es:List Expr}{mo:ME}{ms:MA}{apos br:Pos}
theorem AY(ho:PE X o (tE X E mo))(ha:PA X (e::es) (tL X E ms))(fZ:attributeBase o "append" X.env (eval o X.env)=eval o X.env:=by rfl)
  (xm:((backTo br (starEach (e::es) X.env)).all (fun x => !x.1)&&(backToKw br (keywordEach [] X.env)).all (fun x=>x.1.isSome)
   && decide ((e::es).length+([]:List Keyword).length+(if([]:List Keyword).isEmpty then 0 else 1)<30))=true:=by rfl)
  (f_:(apos.endLine==br.line)=true:=by rfl) (hs:starEach (e::es) X.env=(false,eval e X.env)::starEach es X.env:=by rfl) (ku:(backTo br (starEach es X.env)).any (·.1)=false:=by rfl):
  PE X (.Call (.Attribute o "append" apos) (e::es) [] br) (tE X E (fQ bU mo ms)):=C_ PySem.F.slot_list_append PySem.F.type_list_append xG ho ha fZ xm f_ hs ku
theorem AZ(ho:PE X o (tE X E mo))(ha:PA X (e::es) (tL X E ms))(fZ:attributeBase o "extend" X.env (eval o X.env)=eval o X.env:=by rfl)
  (xm:((backTo br (starEach (e::es) X.env)).all (fun x => !x.1)&&(backToKw br (keywordEach [] X.env)).all (fun x=>x.1.isSome)
   && decide ((e::es).length+([]:List Keyword).length+(if([]:List Keyword).isEmpty then 0 else 1)<30))=true:=by rfl)
  (f_:(apos.endLine==br.line)=true:=by rfl) (hs:starEach (e::es) X.env=(false,eval e X.env)::starEach es X.env:=by rfl) (ku:(backTo br (starEach es X.env)).any (·.1)=false:=by rfl):
  PE X (.Call (.Attribute o "extend" apos) (e::es) [] br) (tE X E (fQ iw mo ms)):=C_ PySem.F.slot_list_extend PySem.F.type_list_extend xJ ho ha fZ xm f_ hs ku
end
theorem NA{X:Cx}{N:_S}{scope:Scope}{k:Nat}{cl cl':List (Str×_V)}{a9 caps':List Nat}(om:closureFor scope X.env=pure cl')(A:eJ X scope cl a9)(B:eJ X scope cl' caps')(has:((relabel scope X.env).names.all fun p => !(p.2 == .cell || p.2 == .free) || (cl'.map (·.1)).contains p.1)=true)(f?:(scope.names.all fun p => !(p.2 == .cell))=true)(kind:scope.kind=.function)(names:(scope.names.all fun p => !(p.2 == .local) || scope.names.lookup p.1==some .local)=true)(len:N.length=k+a9.length)(hN:N.drop k=cl.map (·.1)):ph X N scope cl' k a9 where
 om:=om
 sub:=B.sub
 has:=fun x h=>by
  have m:x∈cl'.map (·.1):=by rcases h with h|h<;>(have m:=WG h;have z:=WE.mp has _ m;simpa using z)
  exact gQ m
 f?:=fun x hx h=>by have z:=WE.mp f? x hx;simp[h]at z
 kind:=kind
 names:=fun x hx h=>by have z:=WE.mp names x hx;simpa[h]using z
 len:=len
 at_:=fun i j x h1 h2=>A.at_ i j x h1 (by rw[<-hN,List.getElem?_drop];exact h2)
theorem len0{C:_P->Prop}(h:C [])(us:_P)(hl:us.length=0):C us:=by rw[Xa hl];exact h
theorem Dh{C:_P->Prop}{n:Nat}(h:∀a(r:_P),r.length=n->C (a::r))(us:_P)(hl:us.length=n+1):C us:=by
 cases us with
 |nil=>cases hl
 |cons a r=>exact h a r (Ww hl)
theorem NB{C:_P->Prop}(h:∀a,C [a]):∀us:_P,us.length=1->C us:=Dh fun a=>len0 (C:=fun r=>C (a::r)) (h a)
theorem A0{C:_P->Prop}(h:∀a b,C [a,b]):∀us:_P,us.length=2->C us:=Dh fun a=>NB (C:=fun r=>C (a::r)) (h a)
theorem Kn{C:_P->Prop}(h:∀a b c,C [a,b,c]):∀us:_P,us.length=3->C us:=Dh fun a=>A0 (C:=fun r=>C (a::r)) (h a)
theorem xK{C:_P->Prop}(h:∀a b c d,C [a,b,c,d]):∀us:_P,us.length=4->C us:=Dh fun a=>Kn (C:=fun r=>C (a::r)) (h a)
theorem Ko{C:_P->Prop}(h:∀a b c d e,C [a,b,c,d,e]):∀us:_P,us.length=5->C us:=Dh fun a=>xK (C:=fun r=>C (a::r)) (h a)
end MN
namespace MN
open PySem.Spec L2
open PyProof.Rows hiding St
structure Gh where
 S:oq
 own:Str
 line:Nat
 col:Nat
end MN
namespace L2
open PySem.Spec PyProof.Rows
section
variable{X:Cx}
def NC:V->List V->Hp->VK->Prop:=fun x vs H Q=>∃i,x=.int i/\vs=[]/\Q (.int ((Builtin.Int.intBits i:Nat):Int)) H
theorem Gi:Cf X "int.bit_length" NC:=by intro ag s σ H x vs v us Q I rx rv h;obtain⟨i,rfl,rfl,q⟩:=h;obtain⟨t,rfl⟩:=rx;have hus:=rv.zero;subst hus;exact call_gives F.slot_int_bit_length (Z6 s i t) F.entry_int_bit_length (F.args_int_bit_length_1 _) (AutoIntG2.int_bit_length_int_0 i t) ⟨.int ((Builtin.Int.intBits i:Nat):Int),H,I.tok _,⟨_,rfl⟩,q⟩
end
end L2
namespace MN
open PySem.Spec L2
open PyProof.Rows hiding St
def Gj:F2:=ou fun i j st=>if 0<=j then .ok (.int (i / 2 ^ j.toNat)) st else .bad
def vL:F2:=ou fun i j st=>.ok (.int (Builtin.bitAnd i j)) st
def ND:ak->ae->bI ak
 |.int i,st=>.ok (.int ((Builtin.Int.intBits i:Nat):Int)) st
 |_,_=>.bad
def zd(m:ME):ME:=fun μ st=>(m μ st).bind ND
section
variable{X:Cx}{E:XK}{o:Expr}{mo:ME}{apos br:Pos}
theorem Gk:c5 X (binaryOp .RShift) (rM (wo X) E Gj):=by
 refine c5.imp Jh ?_;rintro x y H Q ⟨ρ,st,u,w,sr,r1,r2,h⟩;obtain⟨i,j,rfl,rfl,h0⟩:=e_ h;by_cases hj:0<=j
 .rw[Vo hj]at h0;exact⟨i,j,r1.bK,r2.bK,hj,bP sr h0⟩
 .rw[Vv hj]at h0;exact h0.elim
theorem Gm:c5 X (binaryOp .BitAnd) (rM (wo X) E vL):=by refine c5.imp Ji ?_;rintro x y H Q ⟨ρ,st,u,w,sr,r1,r2,h⟩;obtain⟨i,j,rfl,rfl,q⟩:=e_ h;exact⟨i,j,r1.bK,r2.bK,bP sr q⟩
theorem Gn(ho:PE X o (tE X E mo))(fZ:attributeBase o "bit_length" X.env (eval o X.env)=eval o X.env:=by rfl)(f_:(apos.endLine==br.line)=true:=by rfl):
  PE X (.Call (.Attribute o "bit_length" apos) [] [] br) (tE X E (zd mo)):=by
 refine PE.imp (Jv PySem.F.plainAttrs_int PySem.F.slot_int_bit_length PySem.F.type_int_bit_length Gi ho fZ f_) ?_;rintro σ H Q ⟨μ,ρ,st,rs,sr,h⟩;refine go μ ρ st rs sr h fun u aL ρ1 H1 x e1 bJ r1 h1=>?_;cases u with
 |int i=>rw[r1.bK];exact⟨rfl,i,rfl,rfl,bP bJ h1⟩
 |_=>exact h1.elim
end
end MN
namespace PM
open PySem.Spec L2 MN
open PyProof.Rows hiding St
def d6:ak:=.mt ([2,3,5,7,11,13,17,19,23,29,31].map ak.int)
def k_:FN:=eg 1 1 (aO (vD (u? "int" aK) (JZ (u? "bool" aK))))
def bO:FN:=eg 1 1 (aw (dY (bN (ah (F8 false) aK (mC PM.d6))) (aO (mC (.bl true))) bg) (aw (dY (eu (bN (ah ltV aK iP)) (bN (ah qX aK (mC (.int 997))))) (aO (mC (.bl false))) bg) (aO (aq AL (aa (bw 1 [0] (cg (mC PM.d6)) (au 0) aJ (ah iZ (ah cK bf aK) bT)) ao)))))
def dw:FN:=eg 1 1 (aO (FU (bN (ah ltV aK bT)) (mG b!) b!))
def gS:FN:=eg 1 1 (aw (dY (bN (ah iZ (aq xC (aa aK ao)) b!)) (gP "NoInverse" (aa (qs "only 1 and -1 have an inverse among the whole numbers") ao)) bg) (aO aK))
def ix:FN:=eg 1 1 (aO (vD (aq PM.k_ (aa aK ao)) (O3 (ah kY aK bT) (aq PM.bO (aa aK ao)))))
def shared:FN:=eg 2 6 (aw (aE 2 (eB (aa (aq xC (aa aK ao)) (aa (aq PM.dw (aa aK ao)) (aa bT ao))))) (aw (aE 3 (eB (aa (aq xC (aa bf ao)) (aa bT (aa (aq PM.dw (aa bf ao)) ao))))) (aw (fD (bN (ah iZ (ah aY bt bT) bT)) (aw (aE 4 (ah je (ah aY aZ bT) (ah aY bt bT))) (aw (aE 5 (aq mH (aa (bw 2 [4] (nG false false (aa aZ (aa bt ao))) (cW [(au 0),(au 1)]) aJ (ah dr aK (ah cf aZ bf))) ao))) (aw (aE 2 bt) (aE 3 cY))))) (aO aZ))))
def gj:FN:=eg 1 1 (dY (cF (bN (aq PM.ix (aa aK ao)))) (gP "NoRing" (aa (qs "a ring is 0 or a prime from 2 to 997") ao)) bg)
def inverse:FN:=eg 2 2 (aw (bA (aq PM.gj (aa aK ao))) (aw (dY (bN (ah kY aK bT)) (aO (aq PM.gS (aa bf ao))) bg) (aw (dY (bN (ah kY (ah cK bf aK) bT)) (gP "NoInverse" (aa (qs "a multiple of the prime has no inverse") ao)) bg) (aO (ah cK (ah aY (aq PM.shared (aa (ah cK bf aK) (aa aK ao))) b!) aK)))))
def dN:FN:=eg 1 1 (aO (vD (u? "int" aK) (JZ (u? "bool" aK))))
def dO:FN:=eg 1 1 (dY (eu (cF (bN (aq PM.ix (aa aK ao)))) (bN (ah kY aK bT))) (gP "NoPrime" (aa (qs "a prime is one from 2 to 997") ao)) bg)
end PM
namespace MN
open PySem.Spec L2
open PyProof.Rows hiding St
theorem pO{g:ae->Prop}{a:AS}{body:MB}(P:Nat->Env->ae->Prop):∀(us:List ak)(k:Nat)(μ:Env)(st:ae),
  (∀(i:Nat)(u:ak)(μ:Env)(st:ae),us[i]?=some u->P (k+i) μ st->g st/\∃μ1,a u μ=some μ1/\∃μ' az,(body μ1 st=.nx μ' az\/body μ1 st=.ct μ' az)/\P (k+i+1) μ' az) ->
  (∀μ st,P (k+us.length) μ st->g st)->P k μ st->∃μ' az,forL g a body us μ st=.nx μ' az/\P (k+us.length) μ' az
 |[],k,μ,st,_,he,h=>by refine⟨μ,st,?_,h⟩;unfold forL;rw[Vo (he μ st h)]
 |u::us,k,μ,st,hs,he,h=>by
  obtain⟨hg,μ1,ha,μ',az,hb,hP⟩:=hs 0 u μ st rfl h;have ih:=pO (a:=a) (body:=body) P us (k+1) μ' az (fun i v μ2 st2 hv hp=>by
   have:=hs (i+1) v μ2 st2 hv (by rw[show k+(i+1)=k+1+i by lia];exact hp);rw[show k+(i+1)+1=k+1+i+1 by lia]at this;exact this) (fun μ2 st2 hp=>he μ2 st2 (by rw[Vn,show k+(us.length+1)=k+1+us.length by lia];exact hp)) hP
  obtain⟨μ2,st2,e2,p2⟩:=ih;refine⟨μ2,st2,?_,by rw[Vn,show k+(us.length+1)=k+1+us.length by lia];exact p2⟩;unfold forL;rw[Vo hg,ha];rcases hb with hb|hb<;>(dsimp only;rw[hb];exact e2)
theorem iy{g:ae->Prop}{a:AS}{c:MT}{e:ME}{st:ae}(hg:g st)(I:Env->Prop)(p:ak->Bool)(f:ak->ak):∀(us:List ak)(τ:Env)(ys:List ak),I τ ->
  (∀u∈us,∀τ,I τ->∃τ1,a u τ=some τ1/\I τ1/\c τ1 st=.ok (p u) st/\(p u=true->e τ1 st=.ok (f u) st))->aW g a c e us τ st ys=.ok (ys++(us.filter p).map f) st
 |[],τ,ys,_,_=>by unfold aW;rw[Vo hg];simp
 |u::us,τ,ys,hI,hs=>by
  obtain⟨τ1,h1,h2,h3,h4⟩:=hs u Vm τ hI;have O8:=fun v hv=>hs v (Vk u hv);unfold aW;rw[Vo hg,h1];dsimp only;rw[h3];cases z:p u with
  |true=>
   dsimp only;rw[h4 z];dsimp only;rw[iy hg I p f us τ1 _ h2 O8,V9 z];simp
  |false=>
   dsimp only;rw[iy hg I p f us τ1 _ h2 O8,V4 (by rw[z];simp)]
theorem bx(st:ae)(us:List ak):ai (st++[.lst us]) st.length=some us:=by unfold ai;rw[Vy (Vp _),Wk];rfl
theorem nI{st:ae}{n:Nat}{us:List ak}(h:ai st n=some us)(more:ae):ai (st++more) n=some us:=by
 have hn:n<st.length:=by
  rcases WY n st.length with q|q
  .exact q
  .unfold ai at h;rw[V' q]at h;cases h
 unfold ai at h⊢;rw[V7 hn];exact h
theorem pP{t:MT}{body:MB}(P:Env->ae->Prop)(M:Env->ae->Nat)(Q:Env->ae->Prop)(hs:∀μ st,P μ st->(∃aL,t μ st=.ok false aL/\Q μ aL)\/∃aL μ' az,t μ st=.ok true aL/\(body μ aL=.nx μ' az\/body μ aL=.ct μ' az)/\P μ' az/\M μ' az<M μ st):
  ∀(n:Nat)(μ:Env)(st:ae),M μ st<n->P μ st->∃μ' az,dJ t body n μ st=some (.nx μ' az)/\Q μ' az
 |0,μ,st,h,_=>absurd h (Yw _)
 |n+1,μ,st,h,hp=>by
  unfold dJ;rcases hs μ st hp with⟨aL,e,q⟩|⟨aL,μ',az,e,hb,p',lt⟩
  .rw[e];exact⟨μ,aL,rfl,q⟩
  .rw[e];dsimp only;obtain⟨μ2,st2,e2,q2⟩:=pP P M Q hs n μ' az (by lia) p';rcases hb with hb|hb<;>(rw[hb];exact⟨μ2,st2,e2,q2⟩)
theorem pQ{t:MT}{body:MB}(P:Env->ae->Prop)(M:Env->ae->Nat)(Q:Env->ae->Prop)(hs:∀μ st,P μ st->(∃aL,t μ st=.ok false aL/\Q μ aL)\/∃aL μ' az,t μ st=.ok true aL/\(body μ aL=.nx μ' az\/body μ aL=.ct μ' az)/\P μ' az/\M μ' az<M μ st)(μ:Env)(st:ae)(hp:P μ st):∃μ' az,fD t body μ st=.nx μ' az/\Q μ' az:=by obtain⟨μ',az,e,q⟩:=pP P M Q hs (M μ st+1) μ st (V? _) hp;exact⟨μ',az,sM e,q⟩
def bI.iz{α β:Type}(r:bI α)(k:α->ae->bI β):bI β:=match r with
 |.ok a st=>k a st
 |.err c st=>.err c st
 |.bad=>.bad
def bI.H!{α:Type}(r:bI α)(μ:Env)(k:α->ae->de):de:=match r with
 |.ok a st=>k a st
 |.err c st=>.er c μ st
 |.bad=>.bad
def de.cJ(r:de)(k:MB):de:=match r with
 |.nx μ st=>k μ st
 |.rt v st=>.rt v st
 |.bk μ st=>.bk μ st
 |.ct μ st=>.ct μ st
 |.er c μ st=>.er c μ st
 |.bad=>.bad
def de.fin(r:de):bI ak:=match r with
 |.nx _ az=>.ok .bR az
 |.rt v az=>.ok v az
 |.er c _ az=>.err c az
 |_=>.bad
section
variable{α β:Type}{μ:Env}{st:ae}
theorem av{a:α}{k:α->ae->bI β}:(bI.ok a st).iz k=k a st:=rfl
theorem bh{a:α}{k:α->ae->de}:(bI.ok a st).H! μ k=k a st:=rfl
theorem aB{k:MB}:(de.nx μ st).cJ k=k μ st:=rfl
theorem xM{v:ak}{k:MB}:(de.rt v st).cJ k=.rt v st:=rfl
theorem Di:(de.nx μ st).fin=.ok .bR st:=rfl
theorem gU{v:ak}:(de.rt v st).fin=.ok v st:=rfl
theorem jg{r:bI α}{k:α->ae->bI β}:r.bind k=r.iz k:=by cases r<;>rfl
variable{a b c:ME}{f g:F2}{t u:MT}{s1 s2:MB}{ms:MA}{i:Nat}{v:ak}
theorem cP{r:bI α}{k k':α->ae->bI β}(h:∀a st,k a st=k' a st):r.bind k=r.iz k':=by cases r<;>first|exact h _ _|rfl
theorem pR{r:bI α}{k k':α->ae->de}(h:∀a st,k a st=k' a st):r.sb μ k=r.H! μ k':=by cases r<;>first|exact h _ _|rfl
def Dj(f:F2)(x:ak):ak->ae->bI ak:=fun y st=>f x y st
def NF(f:F2)(b:ME)(μ:Env):ak->ae->bI ak:=fun x st=>(b μ st).iz (Dj f x)
theorem dy:ah f a b μ st=(a μ st).iz (NF f b μ):=cP fun _ _=>cP fun _ _=>rfl
theorem fg{x:ak}:NF f b μ x st=(b μ st).iz (Dj f x):=rfl
theorem dz{x y:ak}:Dj f x y st=f x y st:=rfl
theorem kB:mC v μ st=.ok v st:=rfl
def Tj:ak->ae->bI Bool
 |.bl b,st=>.ok b st
 |_,_=>.bad
theorem gm{b:Bool}:Tj (.bl b) st=.ok b st:=rfl
theorem fF:bN a μ st=(a μ st).iz Tj:=cP fun x _=>by cases x<;>rfl
def NG(b:ME)(μ:Env):ak->ae->bI ak
 |.bl true,st=>b μ st
 |.bl false,st=>.ok (.bl false) st
 |_,_=>.bad
theorem xN:vD a b μ st=(a μ st).iz (NG b μ):=cP fun x _=>by
 cases x<;>try rfl
 rename_i k;cases k<;>rfl
theorem ui:NG b μ (.bl true) st=b μ st:=rfl
def QW(b:ME)(μ:Env):ak->ae->bI ak
 |.bl true,st=>.ok (.bl true) st
 |.bl false,st=>b μ st
 |_,_=>.bad
theorem H?:O3 a b μ st=(a μ st).iz (QW b μ):=cP fun x _=>by
 cases x<;>try rfl
 rename_i k;cases k<;>rfl
theorem Kp:QW b μ (.bl true) st=.ok (.bl true) st:=rfl
theorem Kq:QW b μ (.bl false) st=b μ st:=rfl
def Ia(u:MT)(μ:Env):Bool->ae->bI Bool
 |true,st=>u μ st
 |false,st=>.ok false st
theorem zf:vE t u μ st=(t μ st).iz (Ia u μ):=cP fun x _=>by cases x<;>rfl
theorem Dk:Ia u μ true st=u μ st:=rfl
def Kr(u:MT)(μ:Env):Bool->ae->bI Bool
 |true,st=>.ok true st
 |false,st=>u μ st
theorem pS:eu t u μ st=(t μ st).iz (Kr u μ):=cP fun x _=>by cases x<;>rfl
theorem Gp:Kr u μ true st=.ok true st:=rfl
theorem oV:Kr u μ false st=u μ st:=rfl
def Ib:Bool->ae->bI Bool:=fun k st=>.ok (!k) st
theorem uj:cF t μ st=(t μ st).iz Ib:=cP fun _ _=>rfl
theorem Dl{k:Bool}:Ib k st=.ok (!k) st:=rfl
def Ks(a b:ME)(μ:Env):Bool->ae->bI ak
 |true,st=>a μ st
 |false,st=>b μ st
theorem sR:FU t a b μ st=(t μ st).iz (Ks a b μ):=cP fun x _=>by cases x<;>rfl
theorem uk:Ks a b μ true st=a μ st:=rfl
theorem zg:Ks a b μ false st=b μ st:=rfl
theorem gn:ao μ st=.ok [] st:=rfl
def xO(x:ak):List ak->ae->bI (List ak):=fun xs st=>.ok (x::xs) st
def Ic(ms:MA)(μ:Env):ak->ae->bI (List ak):=fun x st=>(ms μ st).iz (xO x)
theorem df:aa a ms μ st=(a μ st).iz (Ic ms μ):=cP fun _ _=>cP fun _ _=>rfl
theorem d7{x:ak}:Ic ms μ x st=(ms μ st).iz (xO x):=rfl
theorem dh{x:ak}{xs:List ak}:xO x xs st=.ok (x::xs) st:=rfl
def NH:List ak->ae->bI ak:=fun xs st=>if xs.length<=sizeLine then .ok (.tup xs) st else .bad
theorem xP:eB ms μ st=(ms μ st).iz NH:=cP fun _ _=>rfl
theorem Dm{xs:List ak}:NH xs st=if xs.length<=sizeLine then .ok (.tup xs) st else .bad:=rfl
def NI:List ak->ae->bI ak:=fun xs st=>if xs.length<=sizeLine then .ok (.loc st.length) (st++[.lst xs])else .bad
theorem Kt:c9 ms μ st=(ms μ st).iz NI:=cP fun _ _=>rfl
theorem NJ{xs:List ak}:NI xs st=if xs.length<=sizeLine then .ok (.loc st.length) (st++[.lst xs])else .bad:=rfl
theorem fR{h:FN}:aq h ms μ st=(ms μ st).iz h:=cP fun _ _=>rfl
def NK:ak->ae->bI ak
 |.int i,st=>.ok (.int (-i)) st
 |_,_=>.bad
theorem Dn{i:Int}:NK (.int i) st=.ok (.int (-i)) st:=rfl
theorem Ku:mG a μ st=(a μ st).iz NK:=cP fun x _=>by cases x<;>rfl
def Gq(T:String)(v:ak)(st:ae):bI ak:=match Nu T st v with
 |some b=>.ok (.bl b) st
 |none=>.bad
theorem vM{T:String}:u? T a μ st=(a μ st).iz (Gq T):=cP fun _ _=>rfl
theorem aA:aw s1 s2 μ st=(s1 μ st).cJ s2:=by unfold aw;cases s1 μ st<;>rfl
theorem jB:bg μ st=.nx μ st:=rfl
def Ie(μ:Env):ak->ae->de:=fun _ st=>.nx μ st
theorem oW:bA a μ st=(a μ st).H! μ (Ie μ):=pR fun _ _=>rfl
theorem Dp:Ie μ v st=.nx μ st:=rfl
def NL:ak->ae->de:=fun v st=>.rt v st
theorem gp:aO a μ st=(a μ st).H! μ NL:=pR fun _ _=>rfl
theorem jh:NL v st=.rt v st:=rfl
def QX(s1 s2:MB)(μ:Env):Bool->ae->de
 |true,st=>s1 μ st
 |false,st=>s2 μ st
theorem gW:dY t s1 s2 μ st=(t μ st).H! μ (QX s1 s2 μ):=pR fun x _=>by cases x<;>rfl
theorem pT:QX s1 s2 μ true st=s1 μ st:=rfl
theorem ji:QX s1 s2 μ false st=s2 μ st:=rfl
def NM(i:Nat)(μ:Env):ak->ae->de:=fun v st=>.nx (μ.set i (some v)) st
theorem xQ:aE i a μ st=(a μ st).H! μ (NM i μ):=pR fun _ _=>rfl
theorem Ig:NM i μ v st=.nx (μ.set i (some v)) st:=rfl
def QY(x:Str)(μ:Env):List ak->ae->de:=fun vs st=>if vs.length<=sizeLine then .er x μ st else .bad
def kFor(as:AS)(s1:MB)(μ:Env):Itm->ae->de:=fun p st=>forL p.2 as s1 p.1 μ st
theorem dA{it:MI}{as:AS}:cw it as s1 μ st=(it μ st).H! μ (kFor as s1 μ):=pR fun _ _=>rfl
theorem fh{as:AS}{us:List ak}{q:ae->Prop}:kFor as s1 μ (us,q) st=forL q as s1 us μ st:=rfl
def rh:List ak->ae->bI ak:=fun ys st=>.ok (.loc st.length) (st++[.lst ys])
theorem Ih{ys:List ak}:rh ys st=.ok (.loc st.length) (st++[.lst ys]):=rfl
def Dq(k:Nat)(a9:List Nat)(as:AS)(t:MT)(a:ME)(μ:Env):Itm->ae->bI ak:=fun p st=>if p.1.length<=sizeLine then(aW p.2 as t a p.1 (gH k a9 μ) st []).iz rh else .bad
theorem cO{k:Nat}{a9:List Nat}{it:MI}{as:AS}:bw k a9 it as t a μ st=(it μ st).iz (Dq k a9 as t a μ):=cP fun p aL=>by
 unfold Dq;split
 .exact cP fun _ _=>rfl
 .rfl
theorem eM{k:Nat}{a9:List Nat}{as:AS}{us:List ak}{q:ae->Prop}:Dq k a9 as t a μ (us,q) st=if us.length<=sizeLine then(aW q as t a us (gH k a9 μ) st []).iz rh else .bad:=rfl
theorem bB{np n:Nat}{us:List ak}(h:us.length=np):eg np n s1 us st=(s1 (us.map some++List.replicate (n-np) none) st).fin:=by unfold eg;rw[Vo h];cases s1 (us.map some++List.replicate (n-np) none) st<;>rfl
theorem kC(h:μ[i]?=some (some v))(hx:FT v=false):kz i μ st=.ok v st:=by unfold kz;rw[h];simp[hx]
theorem k!{x:Option ak}{μ:Env}:kz (i+1) (x::μ) st=kz i μ st:=rfl
theorem fL{μ:Env}{j:Int}:aK (some (.int j)::μ) st=.ok (.int j) st:=rfl
theorem zh{μ:Env}{j:List ak}:aK (some (.tup j)::μ) st=.ok (.tup j) st:=rfl
def zi(v:ak)(st:ae):bI Itm:=match pH st v with
 |some p=>.ok p st
 |none=>.bad
theorem cj:cg a μ st=(a μ st).iz zi:=by unfold cg;rw[jg];rfl
theorem bM{n:Nat}{us:List ak}(h:ai st n=some us):zi (.loc n) st=.ok (us,fun az=>ai az n=some us) st:=by simp only[zi,pH,h];rfl
def Kv(vs:List ak)(az:ae):bI Itm:=match vs with
 |[.int j]=>if -(2 ^ 62)<=j/\j<2 ^ 62 then .ok (d5 0 j.toNat,fun _=>True) az else .bad
 |_=>.bad
theorem Gr:bY ms μ st=(ms μ st).iz Kv:=by unfold bY;rw[jg];rfl
theorem Gs{j:Int}(h1:-(2 ^ 62)<=j)(h2:j<2 ^ 62):Kv [.int j] st=.ok (d5 0 j.toNat,fun _=>True) st:=by unfold Kv;dsimp only;rw[Vo ⟨h1,h2⟩]
def Gu(b1 b2:Bool)(vs:List ak)(az:ae):bI Itm:=match vs with
 |[u,w]=>match gg az u,gg az w with
  |some (c1,us,g1),some (c2,ws,g2)=>if c1=b1/\c2=b2 then .ok (jR us ws,fun st2=>g1 st2/\g2 st2) az else .bad
  |_,_=>.bad
 |_=>.bad
theorem Dr{b1 b2:Bool}:nG b1 b2 ms μ st=(ms μ st).iz (Gu b1 b2):=by unfold nG;rw[jg];rfl
theorem Gv{us ws:List ak}:Gu false false [.tup us,.tup ws] st=.ok (jR us ws,fun _=>True/\True) st:=rfl
theorem oX{n:Nat}{us:List ak}(h1:ai st n=some us):mH [.loc n] st=.ok (.tup us) st:=by unfold mH;dsimp only;rw[h1]
theorem xR{i j:Int}:dr (.int i) (.int j) st=.ok (.int (i-j)) st:=rfl
theorem xS{i j:Int}(h:MulOk i j):cf (.int i) (.int j) st=.ok (.int (i*j)) st:=by unfold cf;dsimp only;rw[Vo h]
theorem xT{i j:Int}(h:Sz i/\Sz j):cf (.int i) (.int j) st=.ok (.int (i*j)) st:=xS (.inl h)
theorem zj{i j:Int}(h1:-(2 ^ 64)<i)(h2:i<2 ^ 64):cf (.int i) (.int j) st=.ok (.int (i*j)) st:=xS (.inr (.inl ⟨h1,h2⟩))
theorem mul_r{i j:Int}(h1:-(2 ^ 64)<j)(h2:j<2 ^ 64):cf (.int i) (.int j) st=.ok (.int (i*j)) st:=xS (.inr (.inr ⟨h1,h2⟩))
theorem div_ii{i j:Int}(h:Dz j):je (.int i) (.int j) st=.ok (.int (i.fdiv j)) st:=Vo h
theorem iA{i j:Int}(h:¬ j=0):cK (.int i) (.int j) st=.ok (.int (i.fmod j)) st:=Vv h
theorem vN{i j:Int}:ltV (.int i) (.int j) st=.ok (.bl (decide (i<j))) st:=rfl
theorem Ii{i j:Int}:qX (.int i) (.int j) st=.ok (.bl (decide (j<i))) st:=rfl
theorem vO{i j:Int}:kY (.int i) (.int j) st=.ok (.bl (i==j)) st:=rfl
theorem pU{i j:Int}:iZ (.int i) (.int j) st=.ok (.bl (!(i==j))) st:=rfl
theorem NN{i j:Str}:kY (.str i) (.str j) st=.ok (.bl (i==j)) st:=rfl
theorem mF{us:List ak}{i:Int}{v:ak}(h:L2.qU us i=some v):aY (.tup us) (.int i) st=.ok v st:=by unfold aY;dsimp only;rw[h]
theorem gX{n:Nat}{us:List ak}{i:Int}{v:ak}(h1:ai st n=some us)(h:L2.qU us i=some v):aY (.loc n) (.int i) st=.ok v st:=by unfold aY;dsimp only;rw[h1];dsimp only;rw[h]
theorem iB{n:Nat}{us:List ak}(h1:ai st n=some us):c_ [.loc n] st=.ok (.int us.length) st:=by unfold c_;dsimp only;rw[h1]
theorem NO{i:Int}:xC [.int i] st=.ok (.int (if i<0 then -i else i)) st:=rfl
theorem Gw{n m:Nat}{us:List ak}(h1:ai st n=some us)(h2:ai st m=some []):iQ 16 st (.loc n) (.loc m)=some us.isEmpty:=by unfold iQ;simp only[vw,h1,h2];show iU _ us []=_;cases us<;>rfl
theorem ne_nil{n m:Nat}{us:List ak}(h1:ai st n=some us)(h2:ai st m=some []):iZ (.loc n) (.loc m) st=.ok (.bl (!us.isEmpty)) st:=by unfold iZ;rw[Gw h1 h2]
end
end MN
namespace MN
open PySem.Spec L2
open PyProof.Rows hiding St kindOf
section
variable{μ:Env}{st:ae}{a b c o:ME}{ms:MA}{f:F2}{g:FM}{v w:ak}{i n m:Nat}{us ws:List ak}
def Kw(g:FM)(x:ak):List ak->ae->bI ak:=fun xs st=>g x xs st
def Gx(g:FM)(ms:MA)(μ:Env):ak->ae->bI ak:=fun x st=>if vG st x=true then(ms μ st).iz (Kw g x)else .bad
theorem xU:fQ g o ms μ st=(o μ st).iz (Gx g ms μ):=cP fun x aL=>by
 unfold Gx;split
 .exact cP fun _ _=>rfl
 .rfl
theorem Ds(h:st[n]?=some (.lst us)):Gx g ms μ (.loc n) st=(ms μ st).iz (Kw g (.loc n)):=by unfold Gx;rw[Vo (by unfold vG;dsimp only;rw[h])]
theorem Dt{xs:List ak}:Kw g v xs st=g v xs st:=rfl
theorem sS(h:st[n]?=some (.lst us))(hl:us.length<sizeLine):bU (.loc n) [v] st=.ok .bR (st.set n (.lst (us++[v]))):=by simp only[bU,h];rw[Vo hl]
theorem Gy:pL ms μ st=(ms μ st).iz Df:=by unfold pL;rw[jg]
theorem Gz:pM ms μ st=(ms μ st).iz Dg:=by unfold pM;rw[jg]
theorem Kx{j k:Int}(h1:-(2 ^ 62)<=j)(h2:j<2 ^ 62)(h3:-(2 ^ 62)<=k)(h4:k<2 ^ 62):Df [.int j,.int k,.int (-1)] st=.ok (nH j (j-k).toNat,fun _=>True) st:=by unfold Df;dsimp only;rw[Vo ⟨rfl,h1,h2,h3,h4⟩]
theorem Ky(e:ai st n=some us):Dg [.loc n] st=.ok (k9 0 us,fun st2=>ai st2 n=some us) st:=by simp only[Dg,e]
theorem Kz(e1:ai st n=some us)(e2:ai st m=some ws):Gu true true [.loc n,.loc m] st=.ok (jR us ws,fun st2=>ai st2 n=some us/\ai st2 m=some ws) st:=by unfold Gu;dsimp only;unfold gg;dsimp only;rw[e1,e2];rfl
theorem zl(h:st[n]?=some (.lst us)):ai st n=some us:=by unfold ai;rw[h]
theorem Du(st:ae)(us:List ak):(st++[aP.lst us])[st.length]?=some (.lst us):=by rw[Vy (Vp _),Wk];rfl
theorem is_list(h:st[n]?=some (.lst us)):Gq "list" (.loc n) st=.ok (.bl true) st:=by unfold Gq Nu kindOf;dsimp only;rw[h];rfl
theorem pW:Gq "tuple" (.tup us) st=.ok (.bl true) st:=rfl
theorem Dv(st:ae)(k k':aP):(st++[k]).set st.length k'=st++[k']:=by rw[List.set_append_right _ _ (Vp _),Wk];rfl
end
mutual
def vP:Nat->ak->Bool
 |_,.bR=>true
 |_,.bl _=>true
 |_,.int _=>true
 |_,.str _=>true
 |0,.tup _=>false
 |n+1,.tup us=>eO n us
 |_,_=>false
def eO:Nat->List ak->Bool
 |_,[]=>true
 |n,u::us=>vP n u&&eO n us
end
mutual
theorem Dw(st:ae):∀(n:Nat)(v:ak),vP n v=true->iQ (n+1) st v v=some true
 |_,.bR,_=>rfl
 |_,.bl b,_=>by show some (b==b)=_;rw[Wx]
 |_,.int i,_=>by show some (i==i)=_;rw[Wx]
 |_,.str x,_=>by show some (x==x)=_;rw[Wx]
 |0,.tup _,h=>by cases h
 |n+1,.tup us,h=>by show iU (iQ (n+1) st) us us=some true;exact jC st n us h
 |n,.loc _,h=>by cases n<;>cases h
 |n,.exc _,h=>by cases n<;>cases h
 |n,.fn _ _,h=>by cases n<;>cases h
 |n,.mt _,h=>by cases n<;>cases h
theorem jC(st:ae):∀(n:Nat)(us:List ak),eO n us=true->iU (iQ (n+1) st) us us=some true
 |_,[],_=>rfl
 |n,u::us,h=>by
  have h':vP n u=true/\eO n us=true:=by simpa[eO]using h
  show(match iQ (n+1) st u u,iU (iQ (n+1) st) us us with|some a,some b=>some (a&&b)|_,_=>none)=_;rw[Dw st n u h'.1,jC st n us h'.2];rfl
end
theorem mL{n:Nat}:∀{us:List ak},(∀u∈us,vP n u=true)->eO n us=true
 |[],_=>rfl
 |u::us,h=>by unfold eO;rw[h u Vm,mL fun w hw=>h w (Vk u hw)];rfl
theorem nJ(n:Nat)(ns:_O):eO n (ns.map ak.int)=true:=mL fun u hu=>by obtain⟨i,_,rfl⟩:=VG.mp hu;cases n<;>rfl
end MN
namespace SO
open PySem.W PyProof.Rows
abbrev g(p:Array Nat)(i:Nat):Nat:=p.getD i 0
theorem um(p:Array Nat)(i:Nat):g p i=(p[i]?).getD 0:=Array.getD_eq_getD_getElem?
def Ok(L:Nat->Nat->Bool)(n:Nat){α:Type}(P:α->Prop):KasT α->Prop
 |.ret a=>P a
 |.ask i j k=>i<n/\j<n/\Ok L n P (k (L i j))
theorem Ok.bind{L:Nat->Nat->Bool}{n:Nat}{α β:Type}{P:α->Prop}{Q:β->Prop}{f:α->KasT β}(hf:∀a,P a->Ok L n Q (f a)):∀{t:KasT α},Ok L n P t->Ok L n Q (t.bind f)
 |.ret a,h=>hf a h
 |.ask _ _ _,h=>⟨h.1,h.2.1,Ok.bind hf h.2.2⟩
theorem Ok.imp{L:Nat->Nat->Bool}{n:Nat}{α:Type}{P Q:α->Prop}(hf:∀a,P a->Q a):∀{t:KasT α},Ok L n P t->Ok L n Q t
 |.ret a,h=>hf a h
 |.ask _ _ _,h=>⟨h.1,h.2.1,Ok.imp hf h.2.2⟩
theorem Ok.wp{L:Nat->Nat->Bool}{n:Nat}{α:Type}{P:α->Prop}{cmp:Nat->Nat->(Bool->_U->Prop)->_U->Prop}{R:_U->Prop}{Q:α->_U->Prop}(ha:∀i j s(C:Bool->_U->Prop),i<n->j<n->R s->(∀s',R s'->C (L i j) s')->cmp i j C s)(hq:∀a s,P a->R s->Q a s):∀{t:KasT α}{s:_U},Ok L n P t->R s->t.kasWp cmp Q s
 |.ret a,s,h,r=>hq a s h r
 |.ask i j k,s,h,r=>ha i j s _ h.1 h.2.1 r fun s' r'=>Ok.wp ha hq h.2.2 r'
structure Ord(L:Nat->Nat->Bool)(n:Nat):Prop where
 tr:∀i j k,i<n->j<n->k<n->L i j=true->L j k=true->L i k=true
 QZ:∀i j,i<n->j<n->i≠j->L i j=false->L j i=true
 Q0:∀i j,i<n->j<n->L i j=true->L j i=false
def Pm(n:Nat)(p:Array Nat):Prop:=p.Perm (List.toArray (List.range n))
section
variable{n:Nat}{p:Array Nat}
theorem Pm.list(h:Pm n p):p.toList.Perm (List.range n):=Array.perm_iff_toList_perm.mp h
theorem Pm.size(h:Pm n p):p.size=n:=by have:=h.list.length_eq;rw[W_]at this;exact this
theorem Pm.get(h:Pm n p){i:Nat}(hi:i<n):p[i]?=some (g p i):=by
 have hz:i<p.size:=by rw[h.size];exact hi
 rw[um,_v p i hz];rfl
theorem Pm.lt(h:Pm n p){i:Nat}(hi:i<n):g p i<n:=by
 have hz:i<p.size:=by rw[h.size];exact hi
 have e:g p i=p.toList[i]'hz:=by rw[um,_v p i hz];rfl
 have m:g p i∈p.toList:=by rw[e];exact Wj _
 exact YI.mp (h.list.mem_iff.mp m)
theorem Pm.inj(h:Pm n p){i j:Nat}(hi:i<n)(hj:j<n)(e:g p i=g p j):i=j:=by
 have hz:i<p.size:=by rw[h.size];exact hi
 have LQ:j<p.size:=by rw[h.size];exact hj
 have nd:p.toList.Nodup:=h.list.nodup_iff.mpr List.nodup_range;have e1:g p i=p.toList[i]'hz:=by rw[um,_v p i hz];rfl
 have e2:g p j=p.toList[j]'LQ:=by rw[um,_v p j LQ];rfl
 rw[e1,e2]at e;exact(ZW nd).mp e
theorem Pm.start(n:Nat):Pm n (List.toArray (List.range n)):=Array.Perm.refl _
theorem Pm.rev(h:Pm n p)(i j:Nat):Pm n (kas_rev p i j):=(mirror_perm p i j _).trans h
theorem Pm.bub(h:Pm n p)(i j:Nat):Pm n (bubble p i j):=(bubble_perm p i j).trans h
theorem Ij(h:Pm n p){m i:Nat}(hm:m<=n)(hi:i<m):g (kas_rev p 0 m) i=g p (m-1-i):=by rw[um,um];unfold kas_rev;rw[getElem?_mirror_all (by rw[h.size];exact hm),Vo ⟨Wh _,hi⟩,Wb]
theorem Ik(h:Pm n p){k l i:Nat}(hk:k<n)(hl:l<=k):g (bubble p k (k-l)) i=if i=l then g p k else if l<i/\i<=k then g p (i-1)else g p i:=by
 have e:k-(k-l)=l:=by lia
 rw[um,getElem?_bubble (by rw[h.size];exact hk) (k-l) (by lia),e];split
 .rw[um]
 .split<;>rw[um]
end
section
variable{L:Nat->Nat->Bool}{n:Nat}(O:Ord L n)
include O
def rj(L:Nat->Nat->Bool)(p:Array Nat)(m:Nat):Prop:=∀i,i+1<m->L (g p i) (g p (i+1))=true
def KA(L:Nat->Nat->Bool)(p:Array Nat)(m:Nat):Prop:=∀i,i+1<m->L (g p (i+1)) (g p i)=true
theorem other{p:Array Nat}(h:Pm n p){i j:Nat}(hi:i<n)(hj:j<n)(hn:i≠j)(e:L (g p i) (g p j)=false):L (g p j) (g p i)=true:=
 O.QZ _ _ (h.lt hi) (h.lt hj) (fun z=>hn (h.inj hi hj z)) e
theorem rj.Tn{p:Array Nat}(h:Pm n p){m:Nat}(hm:m<=n)(a:rj L p m){i:Nat}:∀d:Nat,i+d+1<m->L (g p i) (g p (i+d+1))=true
 |0,hd=>a i hd
 |d+1,hd=>O.tr _ _ _ (h.lt (by lia)) (h.lt (by lia)) (h.lt (by lia)) (rj.Tn h hm a d (by lia)) (a (i+d+1) hd)
theorem rj.lt{p:Array Nat}(h:Pm n p){m:Nat}(hm:m<=n)(a:rj L p m){i j:Nat}(To:i<j)(hj:j<m):L (g p i) (g p j)=true:=by have:=rj.Tn O h hm a (i:=i) (j-i-1) (by lia);rwa [show i+(j-i-1)+1=j by lia]at this
theorem xV{p:Array Nat}(h:Pm n p):∀(f k:Nat),1<=k->k+f<=n->rj L p k->Ok L n (fun m=>k<=m/\m<=k+f/\rj L p m/\(m<k+f->L (g p m) (g p (m-1))=true)) (kas_asc p f k)
 |0,k,_,_,a=>⟨Vp _,Vp _,a,fun z=>absurd z (VY _)⟩
 |f+1,k,h1,hk,a=>by
  refine⟨h.lt (by lia),h.lt (by lia),?_⟩;show Ok L n _ (if L (g p k) (g p (k-1))=true then .ret k else kas_asc p f (k+1));by_cases c:L (g p k) (g p (k-1))=true
  .rw[Vo c];exact⟨Vp _,by lia,a,fun _=>c⟩
  .rw[Vv c];have c':L (g p k) (g p (k-1))=false:=by simpa using c
   have z:=other O h (by lia) (by lia) (by lia) c';refine Ok.imp (fun m hm=>?_) (xV h f (k+1) (by lia) (by lia) (fun i hi=>?_))
   .exact⟨by lia,by lia,hm.2.2.1,fun q=>hm.2.2.2 (by lia)⟩
   .by_cases e:i+1<k
    .exact a i e
    .have:i=k-1:=by lia
     subst this;rw[show k-1+1=k by lia];exact z
theorem zo{p:Array Nat}(h:Pm n p):∀(f k:Nat),1<=k->k+f<=n->KA L p k->Ok L n (fun r=>r.1=p/\r.2.2=0/\k<=r.2.1/\r.2.1<=k+f/\KA L p r.2.1) (kas_desc f p k 0)
 |0,k,_,_,a=>⟨rfl,rfl,Vp _,Vp _,a⟩
 |f+1,k,h1,hk,a=>by
  refine⟨h.lt (by lia),h.lt (by lia),?_⟩;show Ok L n _ (if L (g p k) (g p (k-1))=true then(if 0>0 then kas_desc f (kas_rev p (k-(0+1)) k) (k+1) 0 else kas_desc f p (k+1) 0)else .ask (g p (k-1)) (g p k) fun d=>if d=true then .ret (p,k,0)else kas_desc f p (k+1) (0+1));by_cases c:L (g p k) (g p (k-1))=true
  .rw[Vo c,Vv (VY _)];refine Ok.imp (fun r hr=>⟨hr.1,hr.2.1,by lia,by lia,hr.2.2.2.2⟩) (zo h f (k+1) (by lia) (by lia) (fun i hi=>?_));by_cases e:i+1<k
   .exact a i e
   .have:i=k-1:=by lia
    subst this;rw[show k-1+1=k by lia];exact c
  .rw[Vv c];have c':L (g p k) (g p (k-1))=false:=by simpa using c
   have z:=other O h (by lia) (by lia) (by lia) c';refine⟨h.lt (by lia),h.lt (by lia),?_⟩;show Ok L n _ (if L (g p (k-1)) (g p k)=true then .ret (p,k,0)else kas_desc f p (k+1) (0+1));rw[Vo z];exact⟨rfl,rfl,Vp _,Y9 _ _,a⟩
def Part(L:Nat->Nat->Bool)(n:Nat)(r:Nat×Array Nat):Prop:=1<=r.1/\r.1<=n/\Pm n r.2/\rj L r.2 r.1
theorem GA{p:Array Nat}(h:Pm n p){m:Nat}(h1:1<=m)(hm:m<=n)(a:KA L p m):Ok L n (Part L n) (kas_tail3 m n p):=by
 have b:rj L (kas_rev p 0 m) m:=by intro i hi;rw[Ij h hm (by lia),Ij h hm hi];have:=a (m-1-(i+1)) (by lia);rwa [show m-1-(i+1)+1=m-1-i by lia]at this
 refine Ok.bind (fun k hk=>?_) (xV O (h.rev 0 m) (n-m) m h1 (by lia) b);exact⟨by lia,by lia,h.rev 0 m,hk.2.2.1⟩
theorem Dx{p:Array Nat}(h:Pm n p)(hn:1<=n):Ok L n (Part L n) (kas_count n p):=by
 refine Ok.bind (fun k hk=>?_) (xV O h (n-1) 1 (Vp _) (by lia) (fun i hi=>absurd hi (by lia)));obtain⟨k1,k2,ka,kl⟩:=hk;have KC:Part L n (k,p):=⟨k1,by show k<=n;lia,h,ka⟩
 by_cases e:(k==n)=true
 .rw[Vo e];exact KC
 .rw[Vv e];have e':k≠n:=fun z=>e (by simpa using z);by_cases e1:k>1
  .rw[Vo e1];refine⟨h.lt (by lia),h.lt (by lia),?_⟩;show Ok L n _ (if L (g p 0) (g p (k-1))=true then .ret (k,p)else _);rw[Vo (rj.lt O h (by lia) ka (by lia) (by lia))];exact KC
  .rw[Vv e1];have:k=1:=by lia
   subst this;have z:=kl (by lia);refine Ok.bind (fun r hr=>?_) (zo O h (n-(1+1)) (1+1) (by lia) (by lia) (fun i hi=>?_))
   .obtain⟨r1,r2,r3⟩:=r;obtain⟨q1,q2,q3,q4,q5⟩:=hr;dsimp only at q1 q2 q3 q4 q5;subst q1 q2;show Ok L n _ (if 0>0 then _ else kas_tail3 r2 n r1);rw[Vv (VY _)];exact GA O h (by lia) (by lia) q5
   .have:i=0:=by lia
    subst this;exact z
theorem pX{p:Array Nat}(h:Pm n p){k:Nat}(hk:k<n)(a:rj L p k):∀(f l r:Nat),l<=r->r<=k->r-l<=f->(∀i,i<l->L (g p i) (g p k)=true)->(∀i,r<=i->i<k->L (g p k) (g p i)=true) ->
  Ok L n (fun m=>m<=k/\(∀i,i<m->L (g p i) (g p k)=true)/\∀i,m<=i->i<k->L (g p k) (g p i)=true) (kas_place p k f l r)
 |0,l,r,h1,h2,h3,lo,hi=>⟨by lia,lo,fun i q=>hi i (by lia)⟩
 |f+1,l,r,h1,h2,h3,lo,hi=>by
  show Ok L n _ (if l ≥ r then .ret l else .ask (g p k) (g p ((l+r) / 2)) fun c=>if c=true then kas_place p k f l ((l+r) / 2)else kas_place p k f ((l+r) / 2+1) r);by_cases e:l ≥ r
  .rw[Vo e];exact⟨by lia,lo,fun i q=>hi i (by lia)⟩
  .rw[Vv e];obtain⟨m,hm⟩:∃m,m=(l+r) / 2:=⟨_,rfl⟩
   rw[<-hm];have m1:l<=m:=by lia
   have m2:m<r:=by lia
   refine⟨h.lt hk,h.lt (by lia),?_⟩;show Ok L n _ (if L (g p k) (g p m)=true then kas_place p k f l m else kas_place p k f (m+1) r);by_cases c:L (g p k) (g p m)=true
   .rw[Vo c];refine pX h hk a f l m m1 (by lia) (by lia) lo fun i q1 q2=>?_;by_cases q:i=m
    .rw[q];exact c
    .exact O.tr _ _ _ (h.lt hk) (h.lt (by lia)) (h.lt (by lia)) c (rj.lt O h (by lia) a (by lia) q2)
   .rw[Vv c];have c':L (g p k) (g p m)=false:=by simpa using c
    have z:=other O h hk (by lia) (by lia) c';refine pX h hk a f (m+1) r (by lia) h2 (by lia) (fun i q=>?_) hi;by_cases q1:i=m
    .rw[q1];exact z
    .exact O.tr _ _ _ (h.lt (by lia)) (h.lt (by lia)) (h.lt hk) (rj.lt O h (by lia) a (show i<m by lia) (by lia)) z
theorem Dy:∀(f:Nat)(p:Array Nat)(k:Nat),Pm n p->k+f=n->rj L p k->Ok L n (fun q=>Pm n q/\rj L q n) (kas_bin f p k)
 |0,p,k,h,hk,a=>⟨h,by rw[<-hk];exact a⟩
 |f+1,p,k,h,hk,a=>by
  refine Ok.bind (fun l hl=>?_) (pX O h (k:=k) (by lia) a k 0 k (Wh _) (Vp _) (by lia) (fun i q=>absurd q (Yw _)) (fun i q1 q2=>absurd q1 (by lia)));obtain⟨l1,lo,hi⟩:=hl;refine Dy f _ (k+1) (h.bub _ _) (by lia) fun i JK=>?_;rw[Ik h (by lia) l1,Ik h (by lia) l1];by_cases c1:i=l
  .rw[Vo c1,Vv (by lia),Vo (by lia)];exact hi _ (by lia) (by lia)
  .rw[Vv c1];by_cases c2:i+1=l
   .rw[Vo c2,Vv (by lia)];exact lo i (by lia)
   .rw[Vv c2];by_cases c3:l<i
    .rw[Vo ⟨c3,by lia⟩,Vo ⟨by lia,by lia⟩];have:=a (i-1) (by lia);rwa [show i-1+1=i+1-1 by lia]at this
    .rw[Vv (by lia),Vv (by lia)];exact a i (by lia)
theorem GB(hn:1<=n):Ok L n (fun q=>Pm n q/\rj L q n) (kas_sort n):=by
 refine Ok.bind (fun r hr=>?_) (Dx O (Pm.start n) hn);obtain⟨k,p⟩:=r;obtain⟨h1,h2,h3,h4⟩:=hr;dsimp only at h1 h2 h3 h4;show Ok L n _ (if k<n then kas_bin (n-max k 1) p (max k 1)else .ret p);have e:max k 1=k:=by lia
 rw[e];by_cases c:k<n
 .rw[Vo c];exact Dy O (n-k) p k h3 (by lia) h4
 .rw[Vv c];have:k=n:=by lia
  subst this;exact⟨h3,h4⟩
end
def k?(h:Heap)(d:_V)(es:Array DictEntry)(ep:Nat):Prop:=∃o,h.get? d=some o/\o.cls=.type "dict" /\ o.data=.dict es ep
section
variable{prog:_X}{w:World}{A:_W}{E:_K}{s:_U}{d it:_V}{es:Array DictEntry}{ep i:Nat}
theorem k?.ty(x:k? s.heap d es ep):s.TypeIs (.ref d) "dict":=by obtain⟨o,ho,hc,_⟩:=x;exact⟨o,ho,hc⟩
theorem k?.lt{h:Heap}(x:k? h d es ep):d<h.objs.size:=by obtain⟨o,ho,_⟩:=x;exact Vu ho
theorem k?.to{h h':Heap}(x:k? h d es ep)(hk:∀o,h.get? d=some o->h'.get? d=some o):k? h' d es ep:=by obtain⟨o,ho,r⟩:=x;exact⟨o,hk o ho,r⟩
theorem DA{Q:_K}(hd:(d==sysModules)=false)(x:k? s.heap d es ep)(hQ:Q (.ref s.heap.objs.size) {s with heap:=s.heap.push {cls:=.type "dict_keyiterator",data:=.fields #[.ref d,.int 0 0,.int es.size 0,.int ep 0]} }):wpAny (model prog w) A (pyIter (.ref d)) Q E s:=by obtain⟨o,go,gc,gd⟩:=id x;have T:=x.ty;refine wpAny_pyIter_slot T ZJ (Ws ZJ T PySem.F.entry_dict_iter ?_ (PySem.F.args_dict_iter_1 _));unfold Builtin.«dict.__iter__»;refine Vh ?_;unfold Builtin.Dict.dictSlotNone;refine Vh (_C T ?_);show wpAny _ _ (pure (Value.ref d)) _ _ s;refine Vr ?_;show wpAny _ _ (Builtin.Dict.showsAll d >>= _) _ _ s;unfold Builtin.Dict.showsAll;rw[Vv (by rw[hd];exact Vs)];refine Vh (Vr ?_);refine Vh (Yv go gd ?_);refine Vh (ZH go gd ?_);refine Vh (WT (Vr ⟨_,rfl,"dict_keyiterator",_,⟨_,VA _ rfl,rfl⟩,Wl.lookup,?_⟩));simpa[rawInt]using hQ
theorem DB{Q:_Q->_U->Prop}(hit:s.heap.IsKeyIter it d i es.size ep)(x:k? s.heap d es ep)(hi:i<es.size)(hQ:∀h',h'.IsKeyIter it d (i+1) es.size ep->Heap.SameBut it s.heap h'->Q (some es[i].key) {s with heap:=h'}):wpAny (model prog w) A (pyNext (.ref it)) Q E s:=by
 obtain⟨o,ho,hc,hf⟩:=id hit;obtain⟨od,go,gc,gd⟩:=id x;have T:=hit.typeIs;unfold pyNext;refine Vh (Zc (Wt (name:=Str.ofString "__next__") T Wl (Ws Wl T YV ?_ (YQ _))));refine Vh (Vr ?_);refine Vh ?_;refine Vh ?_
 first|refine Vh (W9 T (Vr ?_))|refine Vh (XA T (Vr ?_))
 refine Vh (wpAny_fieldsOf ho hf ?_);have no:Builtin.Dict_items.ownsTuple "dict_keyiterator" = false:=by decide
 simp only[no,Wm,XX];show wpAny _ _ (if(Value.ref d==Value.none)=true then _ else _) _ _ s;rw[Vv (show ¬ ((Value.ref d==Value.none)=true)from Vs)];refine Vh (Vr ?_);refine Vh (Yv go gd ?_);rw[Vv (by simp)];refine Vh (Vr ?_);refine Vh (ZH go gd ?_);rw[Vv (by simp)];refine Vr ?_;simp only[show ¬ ((i:Int)<0)from by lia,XX,VR,_q hi];refine Vh ?_
 first|refine Vh (W9 T (Vr ?_))|refine Vh (XA T (Vr ?_))
 refine Vh (_D T ?_);show wpAny _ _ (setField (.ref it) 1 (rawInt ((i:Int)+1)) >>= _) _ _ s;refine Vh (Y1 ho hf (by simp) ?_);have go2:(s.heap.update it (Obj.mapFields (·.setIfInBounds 1 (rawInt ((i:Int)+1))))).IsKeyIter it d (i+1) es.size ep:=
  ⟨_,Xi _ ho (_F (Yn hf _)),(Obj.cls_mapFields ..).trans hc,by rw[Yn hf];simp[rawInt]⟩
 refine Vh (WD ?_);refine Vh (_D (s:={s with heap:=s.heap.update it (Obj.mapFields (·.setIfInBounds 1 (rawInt ((i:Int)+1))))}) go2.typeIs ?_);show wpAny _ _ (pure es[i].key) _ _ _;exact Vr (Vr ⟨_,rfl,Vr (hQ _ go2 (Yb ..))⟩)
theorem GC{Q:_Q->_U->Prop}(hh:A.handled=none)(hit:s.heap.IsKeyIter it d i es.size ep)(x:k? s.heap d es ep)(hi:es.size<=i)(hQ:∀h',Heap.ExtBut it s.heap h'->Q none {s with heap:=h'}):wpAny (model prog w) A (pyNext (.ref it)) Q E s:=by
 obtain⟨o,ho,hc,hf⟩:=id hit;obtain⟨od,go,gc,gd⟩:=id x;have T:=hit.typeIs;unfold pyNext;refine Vh (Zc (Wt (name:=Str.ofString "__next__") T Wl (Ws Wl T YV ?_ (YQ _))));refine Vh (Vr ?_);refine Vh ?_;refine Vh ?_
 first|refine Vh (W9 T (Vr ?_))|refine Vh (XA T (Vr ?_))
 refine Vh (wpAny_fieldsOf ho hf ?_);have no:Builtin.Dict_items.ownsTuple "dict_keyiterator" = false:=by decide
 simp only[no,Wm,XX];show wpAny _ _ (if(Value.ref d==Value.none)=true then _ else _) _ _ s;rw[Vv (show ¬ ((Value.ref d==Value.none)=true)from Vs)];refine Vh (Vr ?_);refine Vh (Yv go gd ?_);rw[Vv (by simp)];refine Vh (Vr ?_);refine Vh (ZH go gd ?_);rw[Vv (by simp)];refine Vr ?_;simp only[show ¬ ((i:Int)<0)from by lia,XX,VR,Array.getElem?_eq_none hi];refine Vh ?_
 first|refine Vh (W9 T (Vr ?_))|refine Vh (XA T (Vr ?_))
 show wpAny _ _ (setField (.ref it) 0 .none >>= _) _ _ s;refine Vh (Y1 ho hf (by simp) ?_);show wpAny _ _ (newExc (.type "StopIteration") [] >>= _) _ _ _;refine Vh ?_;simp only[newExc,newTuple];refine Vh (WT ?_ (by size_fits));refine Vh (m:=firstArgMember _ _) (wpAny_of_eq (a:=Value.none) (by first|rfl|(simp only[firstArgMember];rfl)) ?_);refine WT ?_ (by size_fits);simp only[raiseNew];refine Vh (wpAny_handled ?_);rw[show A.in1.handled=none from hh];refine Vh (Vr (wpAny_throw ?_));refine Vh (YC (T:="StopIteration") (b:=true) ⟨_,VA _ rfl,rfl⟩ isSubtype_stop ?_);exact Vr (hQ _ (((Yb ..).extBut.push _).push _))
def DC(es:Array DictEntry)(i:Nat)(v:_T):Prop:=∃h:i<es.size,v=es[i].key
theorem A2(hh:A.handled=none)(I:_V)(GD:d≠I):Walks prog w A I [I,d] [I] es.size (DC es) (fun i h=>h.IsKeyIter I d i es.size ep/\k? h d es ep) where
 sub:=fun b hb=>by rw[VI]at hb;rw[hb];exact Vm
 frame:=fun _ _ _ st hk=>⟨st.1.at fun o e=>hk I Vm o e,st.2.to fun o e=>hk d (Vk _ Vm) o e⟩
 item:=fun i s Q E hi st hQ=>DB st.1 st.2 hi fun h' k1 k2=>
  hQ _ h' s.toks ⟨hi,rfl⟩ ⟨k1,st.2.to fun o e=>k2.extBut d o GD e⟩ fun b o hb e=>k2.extBut b o (fun z=>hb (by rw[z];exact _I _)) e
 done:=fun s Q E st hQ=>GC hh st.1 st.2 (Vp _) fun h' k=>hQ h' s.toks fun b o hb e=>k b o (fun z=>hb (by rw[z];exact _I _)) e
 self:=fun _ _ _ _ st hQ=>wpAny_pyIter_keyiter st.1 hQ
theorem GF(lo:(d==sysModules)=false):KdlSrc prog w "dict" d d es.size (DC es) (fun h=>k? h d es ep) where
 type:=fun _ x=>x.ty
 there:=fun _ x=>⟨x.lt,x.lt⟩
 keep:=fun _ _ x hk=>x.to fun o e=>hk d (.inl rfl) o e
 notList:=by decide
 notTuple:=by decide
 hint:=fun _ _ _ _ x q=>kdl_hint_dict x.ty q
 iter:=fun _ _ hh x=>⟨_,_,(fun _ _ q=>DA lo x q),A2 hh _ (VN x.lt),⟨⟨_,VA _ rfl,rfl,rfl⟩,x.to fun o e=>Vj _ e⟩⟩
end
section
variable{prog:_X}{w:World}{A:_W}{E:_K}{s:_U}{d it:_V}{es:Array DictEntry}{ep i:Nat}
theorem GG{acc:Array _T}(h:ItemsOf (DC es) acc es.size):acc.toList=es.toList.map (·.key):=by
 apply YR
 .rw[VP,Vi,VP];exact h.1
 .intro i h1 h2;have hi:i<acc.size:=by rw[VP]at h1;exact h1
  obtain⟨hz,e⟩:=h.2 i acc[i] (_q hi);rw[Y',Wy,Y',e]
end
def lexLt:_O->_O->Bool
 |_,[]=>false
 |[],_::_=>true
 |x::xs,y::ys=>if x=y then lexLt xs ys else decide (x<y)
theorem jD:∀xs:_O,lexLt xs xs=false
 |[]=>rfl
 |x::xs=>by show(if x=x then lexLt xs xs else _)=false;rw[Vo rfl];exact jD xs
theorem pY:∀{xs ys zs:_O},lexLt xs ys=true->lexLt ys zs=true->lexLt xs zs=true:=by
 intro xs
 induction xs with
 |nil=>
  intro ys zs h1 h2;cases zs with
  |nil=>cases ys<;>cases h2
  |cons z zs=>rfl
 |cons x xs ih=>
  intro ys zs h1 h2;cases ys with
  |nil=>cases h1
  |cons y ys=>
   cases zs with
   |nil=>cases h2
   |cons z zs=>
    replace h1:(if x=y then lexLt xs ys else decide (x<y))=true:=h1;replace h2:(if y=z then lexLt ys zs else decide (y<z))=true:=h2;show(if x=z then lexLt xs zs else decide (x<z))=true;by_cases e1:x=y
    .rw[Vo e1]at h1;subst e1;by_cases e2:x=z
     .rw[Vo e2]at h2⊢;exact ih h1 h2
     .rw[Vv e2]at h2⊢;exact h2
    .rw[Vv e1]at h1;have h1':=Wg h1;by_cases e2:y=z
     .subst e2;rw[Vv e1];exact h1
     .rw[Vv e2]at h2;have h2':=Wg h2;rw[Vv (by lia)];exact VF (by lia)
theorem jE:∀{xs ys:_O},xs≠ys->lexLt xs ys=false->lexLt ys xs=true:=by
 intro xs
 induction xs with
 |nil=>
  intro ys h1 h2;cases ys with
  |nil=>exact absurd rfl h1
  |cons y ys=>cases h2
 |cons x xs ih=>
  intro ys h1 h2;cases ys with
  |nil=>rfl
  |cons y ys=>
   replace h2:(if x=y then lexLt xs ys else decide (x<y))=false:=h2;show(if y=x then lexLt ys xs else decide (y<x))=true;by_cases e:x=y
   .subst e;rw[Vo rfl]at h2⊢;exact ih (fun z=>h1 (by rw[z])) h2
   .rw[Vv e]at h2;rw[Vv (fun z=>e z.symm)];have:=of_decide_eq_false h2;exact VF (by lia)
theorem iC{xs ys:_O}(h:lexLt xs ys=true):lexLt ys xs=false:=by
 cases z:lexLt ys xs with
 |false=>rfl
 |true=>
  have:=pY h z;rw[jD]at this;cases this
section
variable{prog:_X}{w:World}{A:_W}{E:_K}{s:_U}
theorem KD{fin:Bool}{Q:Bool->_U->Prop}:∀{us vs:_P}{xs ys:_O}(i:Nat),IntsAre us xs->IntsAre vs ys->fin=decide (xs.length<ys.length)->Q (lexLt xs ys) s ->
  KatLex prog w A true fin Q (us.zip vs) i s:=by
 intro us vs xs ys i h1
 induction h1 generalizing vs ys i with
 |nil=>
  intro h2 hf h;refine kat_nil ?_;cases h2 with
  |nil=>rw[hf];exact h
  |cons n t r=>rw[hf];exact h
 |cons n t r ih=>
  intro h2 hf h;cases h2 with
  |nil=>
   refine kat_nil ?_;rw[hf];exact h
  | @cons m u pD ys' r2=>
   refine kat_cons (X3 ?_);rename_i sI xs';replace h:Q (if n=m then lexLt xs' ys' else decide (n<m)) s:=h;by_cases e:n=m
   .subst e;rw[Wx];refine kat_yes (ih (i+1) r2 ?_ ?_)
    .rw[hf];simp only[Vn,Nat.add_lt_add_iff_right]
    .rw[Vo rfl]at h;exact h
   .rw[VV.mpr e];rw[Vv e]at h;refine kat_no ?_;by_cases hi:i=0
    .subst hi;exact oneLt_int h
    .rw[show(true&&i==0)=false by rw[Yf];exact VV.mpr hi];exact kat_one _ _ (lt_int h)
def fM(h:Heap)(v:_T)(xs:_O):Prop:=xs≠[]/\∃a o aD n,v=.ref a/\h.get? a=some o/\o.cls=.type "tuple" /\ o.data=.seq aD n/\IntsAre aD.toList xs
theorem fM.to{h h':Heap}{v:_T}{xs:_O}(t:fM h v xs)(hk:∀b o,h.get? b=some o->o.cls=.type "tuple" -> h'.get? b=some o):fM h' v xs:=by obtain⟨ne,a,o,aD,n,e,ho,hc,r⟩:=t;exact⟨ne,a,o,aD,n,e,hk a o ho hc,hc,r⟩
theorem NP{Q:Bool->_U->Prop}{x y:_T}{xs ys:_O}(h1:fM s.heap x xs)(h2:fM s.heap y ys)(h:Q (lexLt xs ys) s):wpAny (model prog w) A (keyLt' (tuples' true) x y) Q E s:=by obtain⟨_,a,o,aD,n,rfl,ho,hc,hd,hi⟩:=h1;obtain⟨_,b,o2,cy,n2,rfl,n!,tW,hd2,BU⟩:=h2;refine kat_lt ho hd n! hd2 (KD 0 hi BU ?_ h);rw[<-hi.length,<-BU.length,VP,VP]
end
end SO
namespace TS
section
variable{α:Type}(r:α->Nat)
def KC(xs:Array α)(i j:Nat):List α:=(xs.toList.drop i).take (j-i)
variable{r}{xs ys:Array α}
end
end TS
namespace SO
open PySem.W PyProof.Rows
def cB(xs:List (_O)):Prop:=xs.Pairwise fun a b=>lexLt b a=true
section
variable{vs:_P}{xs:List (_O)}
theorem zr{α β:Type}:∀{vs:List α}{xs:List β},vs.length=xs.length->vs.reverse.zip xs.reverse=(vs.zip xs).reverse
 |[],[],_=>rfl
 |v::vs,x::xs,h=>by have h':vs.length=xs.length:=Ww h;rw[WW,WW,ZR,WW,List.zip_append (by rw[V2,V2,h']),zr h'];rfl
def Q1:_T->Int
 |.int n _=>n
 |_=>0
def gK(h:Heap):_T->_O
 |.ref a=>match h.get? a with
  |some o=>match o.data with
   |.seq aD _=>aD.toList.map Q1
   |_=>[]
  |none=>[]
 |_=>[]
theorem xW{us:_P}{ns:_O}(h:IntsAre us ns):us.map Q1=ns:=by
 induction h with
 |nil=>rfl
 |cons n t _ ih=>rw[Vl,ih];rfl
theorem DD{h:Heap}{v:_T}{k:_O}(t:fM h v k):gK h v=k:=by obtain⟨_,a,o,aD,n,rfl,ho,_,hd,hi⟩:=t;unfold gK;dsimp only;rw[ho];dsimp only;rw[hd];exact xW hi
end
end SO
namespace L2
open PySem.Spec PyProof.Rows
def xX(X:Cx)(f:_T)(ks:_S)(r:List V->List V->Hp->VK->Prop):Prop:=
 ∀(ag:_M)(s:_U)(σ:St)(H:Hp)(xs zs:List V)(us ws:_P)(Q:VK),aI X ag σ H s->aV xs us->aV zs ws->r xs zs H Q ->
  wpAny (model X.prog X.w) X.A (call f us (ks.zip ws)) (EP X ag σ Q) X.xe s
def tCK(r:List V->List V->Hp->VK->Prop)(t tk:TA):TE:=fun σ H Q=>t σ H fun vs H1=>tk σ H1 fun zs H2=>r vs zs H2 Q
section
variable{X:Cx}{id:String}{ks:_S}{r:List V->List V->Hp->VK->Prop}{x:Str}{p pos:Pos}{e:Expr}{es:List Expr}{B?:List Keyword}{t tk:TA}
theorem sT(hc:xX X (.builtin id) ks r)(hg:Gl X x)(hm:X.mg x=none)(hv:bootBuiltins x=some (.builtin id))(ha:PA X (e::es) t)(hkw:PK X B? tk)(NQ:(backToKw pos (keywordEach B? X.env)).filterMap (·.1)=ks:=by rfl)(hn:x ≠ "__name__":=by decide)(kU:(x==("__debug__":Str))=false:=by decide)(he:backTo pos (starEach (e::es) X.env)=(false,eval e X.env)::backTo pos (starEach es X.env):=by rfl)(i?:(backTo pos (starEach (e::es) X.env)).any (·.1)=false:=by rfl)(Jz:(backToKw pos (keywordEach B? X.env)).all (·.1.isSome)=true:=by rfl)(hno:(backToKw pos (keywordEach B? X.env)).any (·.1.isNone)=false:=by rfl):PE X (.Call (.Name x p) (e::es) B? pos) (tCK r t tk):=by intro ag s σ H Q I h;refine XH (i! I hg hm hv ?_ hn kU);refine callWith_kw (cJ (ha pos ag s σ H _ I h) fun us s1 q1=>?_) he i? Jz hno;obtain⟨vs,H1,I1,r1,q1⟩:=q1;refine cJ (hkw pos ag s1 σ H1 _ I1 q1) fun ws s2 q2=>?_;obtain⟨zs,H2,I2,r2,q2⟩:=q2;rw[NQ];exact hc ag s2 σ H2 vs zs us ws Q I2 r1 r2 q2
end
def iK(k:_O):List bD:=k.map Sum.inl
theorem DE{a b:_O}(h:iK a=iK b):a=b:=by
 induction a generalizing b with
 |nil=>cases b with
  |nil=>rfl
  |cons=>cases h
 |cons x a ih=>cases b with
  |nil=>cases h
  |cons y b=>
   injection h with h1 h2;injection h1 with h1;rw[h1,ih h2]
theorem lg{xs:_O}{us:_P}(h:aV (xs.map V.int) us):IntsAre us xs:=by
 induction xs generalizing us with
 |nil=>cases h;exact .nil
 |cons x xs ih=>
  cases h with
  |cons a b=>
   obtain⟨t,rfl⟩:=a;exact .cons x t (ih b)
end L2
namespace SO
open PySem.W PyProof.Rows
def xY(M:Int):_O->Int
 |[]=>M
 |x::r=>xY (if x>M then x else M) r
theorem rm(a v:_T):argsOk "max" ⟨[a],[(Str.ofString "default",v)]⟩:=by unfold argsOk;kernel_rfl
theorem zt{us:_P}{ns:_O}(h:IntsAre us ns):∀{i:Nat}{v:_T},us[i]?=some v->∃n t,ns[i]?=some n/\v=.int n t:=by
 induction h with
 |nil=>intro i v e;cases e
 |cons n t _ ih=>
  intro i v e;cases i with
  |zero=>cases e;exact⟨n,t,rfl,rfl⟩
  |succ i=>exact ih e
section
variable{prog:_X}{w:World}{A:_W}{E:_K}{I l S:_V}{us:_P}{ns:_O}{d:_T}{R:Result->_U->Prop}
theorem KG(hh:A.in1.handled=none)(hI:l≠I)(KH:S≠I)(O9:S≠l)(ia:IntsAre us ns):∀(k j:Nat)(s:_U)(M:Int)(t:Tok)(c:Nat),ns.length-j=k->j<=ns.length->(s.heap.IsListIter I l j/\s.heap.IsList l us.toArray) ->
  s.heap.get? S=some (seqObj "list" #[.int M t,.int M t] c) ->
  (∀t' h' tk,(∀b o,b≠S->b≠I->s.heap.get? b=some o->h'.get? b=some o)->R (.ok (.ret (.int (xY M (ns.drop j)) t'))) {s with heap:=h',toks:=tk}) ->
  codeAny (model prog w) A (.builtin "max.loop" ⟨[.ref I,.none,.ref S],[(Str.ofString "default",d)]⟩) R s:=by
 have W:=Walks.list (prog:=prog) (w:=w) (A:=A.in1) hh I l hI us.toArray;have hsz:us.toArray.size=ns.length:=by rw[Vx,ia.length]
 have vQ:(toString "max" ++ toString ".loop":String) = "max.loop":=by decide
 intro k
 induction k with
 |zero=>
  intro j s M t c hk hj st hS hR;have e:j=us.toArray.size:=by lia
  refine X? Yr ?_;rw[Xp Wv _];show wpAny _ A.in1 (seqItems? (.ref S) >>= _) _ _ s;refine Vh (Wn hS rfl ?_);show wpAny _ A.in1 (tryCatch (pyNext (.ref I)) _ >>= _) _ _ s;refine Vh (XS (W.done s _ _ (e▸st) fun h' tk hm=>?_));have Il:=hm S _ (by simp[KH]) hS;show wpAny _ A.in1 (updateSeq S (fun _ => #[]) >>= _) _ _ _;refine Vh (ZG Il rfl (Vh (XI (Vr ?_))));have:=hR t ((h'.update S (Obj.mapSeq fun _ => #[]))) tk fun b o h1 h2 e=>(V0 _ _ (WV h1)).trans (hm b o (by simp[h2]) e);rw[List.drop_eq_nil_of_le (by lia)]at this;exact this
 |succ k ih=>
  intro j s M t c hk hj st hS hR;have kQ:j<us.toArray.size:=by lia
  refine X? Yr ?_;rw[Xp Wv _];show wpAny _ A.in1 (seqItems? (.ref S) >>= _) _ _ s;refine Vh (Wn hS rfl ?_);show wpAny _ A.in1 (tryCatch (pyNext (.ref I)) _ >>= _) _ _ s;refine Vh (XS (W.item j s _ _ kQ st fun v h' tk hP az hm=>?_));have Il:=hm S _ (by simp[KH]) hS;obtain⟨n,t2,en,rfl⟩:=zt ia (by rw[<-Xk];exact hP);have Tp:j<ns.length:=by lia
  have ed:ns.drop j=n::ns.drop (j+1):=by rw[Vq Tp]at en;cases en;exact WC Tp
  show wpAny _ A.in1 (tryCatch (holding [.int n t2,.int n t2] (richCompare .Gt (.int n t2) (.int M t) >>= _)) _ >>= _) _ _ _;refine Vh (XS (WD (Vh (show wpAny _ _ (compareOp .Gt (.int n t2) (.int M t)) _ _ _ from gt_int ?_))));refine Vh (WD (WS (Vh (XI (Vr ?_)))));by_cases c1:n>M
  .rw[VF c1];simp only[if_true];refine Vh (ZG Il rfl (Vh (XI ?_)));rw[vQ];refine Vr ⟨X6 Wv _,ih (j+1) _ n t2 _ (by lia) (by lia) (W.frame _ _ _ az fun b hb o e=>?_) (Xi _ Il rfl) fun t' h2 Q2 Nh=>?_⟩
   .exact(V0 _ _ (fun z:S=b=>by rw[<-z]at hb;simp[KH,O9]at hb)).trans e
   .have:=hR t' h2 Q2 fun b o h1 h3 e=>Nh b o h1 h3 ((V0 _ _ (WV h1)).trans (hm b o (by simp[h3]) e));rw[ed]at this;replace this:R (.ok (.ret (.int (xY (if n>M then n else M) (ns.drop (j+1))) t'))) _:=this;rw[Vo c1]at this;exact this
  .rw[VD c1];simp only[Wm,XX];refine Vh (XI ?_);rw[vQ];refine Vr ⟨X6 Wv _,ih (j+1) _ M t c (by lia) (by lia) az Il fun t' h2 Q2 Nh=>?_⟩;have:=hR t' h2 Q2 fun b o h1 h3 e=>Nh b o h1 h3 (hm b o (by simp[h3]) e);rw[ed]at this;replace this:R (.ok (.ret (.int (xY (if n>M then n else M) (ns.drop (j+1))) t'))) _:=this;rw[Vv c1]at this;exact this
def maxD(dv:Int):_O->Int
 |[]=>dv
 |n::r=>xY n r
theorem uo{s:_U}{id:String}{b:Builtin}{args:_P}{kw:List (Str×_T)}{Q:_K}(hk:builtinKind id=none)(hp:plainId id=true)(hb:entryFor table id=some b)(ha:argsOk id ⟨args,kw⟩)
  (hc:wpAny (model prog w) A.in1 (b ⟨args,kw⟩) (fun fin s'=>match fin with
   |.done f=>(match(Except.ok f:Result) with|.ok (.ret v)=>Q v s'|.ok _=>False|.error e=>E e s')
   |.again c'=>c'.quiet=true/\codeAny (model prog w) A c' (fun r s'=>match r with|.ok (.ret v)=>Q v s'|.ok _=>False|.error e=>E e s') s') E s):wpAny (model prog w) A (call (.builtin id) args kw) Q E s:=by
 refine wpAny_call (codeAny_call_builtin hp hb ?_);simp only[checkBuiltinCall,hk];cases Q3:Manifest.signature? id with
 |none=>exact Vr hc
 |some sig=>
  have Kf:Bind.checkArgs id sig ⟨args,kw⟩=pure ():=by simpa only [argsOk,Q3]using ha
  simp only[Kf];exact Vr hc
theorem DF{s:_U}{dv:Int}{dt:Tok}{Q:_K}(hh:A.handled=none)(hl:s.heap.IsList l us.toArray)(ia:IntsAre us ns)(h:∀h' tk t,(∀b o,s.heap.get? b=some o->h'.get? b=some o)->Q (.int (maxD dv ns) t) {s with heap:=h',toks:=tk}):wpAny (model prog w) A (call (.builtin "max") [.ref l] [(Str.ofString "default",.int dv dt)]) Q E s:=by
 have vQ:(toString "max" ++ toString ".loop":String) = "max.loop":=by decide
 refine uo PySem.F.kind_max PySem.F.plain_max PySem.F.entry_max (rm _ _) ?_;show wpAny _ A.in1 (Builtin.Builtins.bindParams "max" ["key","default"] 0 ⟨[],[(Str.ofString "default",.int dv dt)]⟩ >>= _) _ _ s;refine Vh (wpAny_of_eq (show Builtin.Builtins.bindParams "max" ["key","default"] 0 ⟨[],[(Str.ofString "default",.int dv dt)]⟩=pure [none,some (.int dv dt)]from rfl) ?_);refine Vh (Vr ?_);refine Vh (XT hl ?_);refine Vh (WT ?_);rw[vQ];refine Vr ⟨X6 Wv _,?_⟩;obtain⟨I,eI⟩:∃I,I=s.heap.objs.size:=⟨_,rfl⟩
 obtain⟨h1,e1⟩:∃h1,h1=s.heap.push {cls:=.type "list_iterator",data:=.fields #[.ref l,.int 0 0]}:=⟨_,rfl⟩
 obtain⟨S,eS⟩:∃S,S=h1.objs.size:=⟨_,rfl⟩
 obtain⟨h2,e2⟩:∃h2,h2=h1.push (seqObj "list" #[] 0):=⟨_,rfl⟩
 have kQ:l<s.heap.objs.size:=by obtain⟨_,e,_⟩:=id hl;exact Vu e
 have Q4:S=I+1:=by rw[eS,e1,eI,Wz]
 have hI:l≠I:=by rw[eI];exact VN kQ
 have KH:S≠I:=by rw[Q4];exact Nat.succ_ne_self I
 have O9:S≠l:=by rw[Q4,eI];exact WX (XC kQ)
 have k2:∀b o,s.heap.get? b=some o->h2.get? b=some o:=fun b o e=>by rw[e2,e1];exact Vj _ (Vj _ e)
 have st:h2.IsListIter I l 0/\h2.IsList l us.toArray:=by
  constructor
  .refine⟨{cls:=.type "list_iterator",data:=.fields #[.ref l,.int 0 0]},?_,rfl,rfl⟩;rw[e2,e1,eI];exact Vj _ (VA _ rfl)
  .obtain⟨o,ho,r⟩:=hl;exact⟨o,k2 l o ho,r⟩
 have hS:h2.get? S=some (seqObj "list" #[] 0):=by rw[e2,eS];exact VA _ rfl
 show codeAny (model prog w) A (.builtin "max.loop" ⟨[.ref s.heap.objs.size,.none,.ref (s.heap.push {cls:=.type "list_iterator",data:=.fields #[.ref l,.int 0 0]}).objs.size],[(Str.ofString "default",.int dv dt)]⟩) _ {s with heap:=(s.heap.push {cls:=.type "list_iterator",data:=.fields #[.ref l,.int 0 0]}).push (seqObj "list" #[] 0)};rw[<-e1,<-e2,<-eS,<-eI];have W:=Walks.list (prog:=prog) (w:=w) (A:=A.in1) hh I l hI us.toArray;have hsz:us.toArray.size=ns.length:=by rw[Vx,ia.length]
 have fresh:∀b o,s.heap.get? b=some o->b≠S/\b≠I:=fun b o e=>by have q:=Vu e;exact⟨by rw[Q4,eI];exact VN (XC q),by rw[eI];exact VN q⟩
 refine X? Yr ?_;rw[Xp Wv _];show wpAny _ A.in1 (seqItems? (.ref S) >>= _) _ _ _;refine Vh (Wn (s:={s with heap:=h2}) hS rfl ?_);show wpAny _ A.in1 (tryCatch (pyNext (.ref I)) _ >>= _) _ _ _;cases ia with
 |nil=>
  refine Vh (XS (W.done {s with heap:=h2} _ _ st fun h' tk hm=>?_));refine Vh (X2 (Vr ?_));exact h h' tk dt fun b o e=>hm b o (by simp[(fresh b o e).2]) (k2 b o e)
 | @cons n t sI ns' r=>
  refine Vh (XS (W.item 0 {s with heap:=h2} _ _ (by rw[hsz];exact ZM _) st fun v h' tk hP az hm=>?_));have Il:=hm S _ (by simp[KH]) hS;have hv:v=.int n t:=by rw[Xk]at hP;cases hP;rfl
  subst hv;show wpAny _ A.in1 (updateSeq S (fun _ => #[.int n t,.int n t]) >>= _) _ _ _;refine Vh (ZG Il rfl ?_);rw[vQ];refine Vr ⟨X6 Wv _,KG (us:=.int n t::sI) (ns:=n::ns') hh hI KH O9 (.cons n t r) _ 1 _ n t _ rfl (by simp) (W.frame _ _ _ az fun b hb o e=>?_) (Xi _ Il rfl) fun t' h3 tk3 hm3=>?_⟩
  .exact(V0 _ _ (fun z:S=b=>by rw[<-z]at hb;simp[KH,O9]at hb)).trans e
  .refine h h3 tk3 t' fun b o e=>?_;have f:=fresh b o e;exact hm3 b o f.1 f.2 ((V0 _ _ (WV f.1)).trans (hm b o (by simp[f.2]) (k2 b o e)))
end
end SO
namespace MN
open PySem.Spec L2
open PyProof.Rows hiding St kindOf
def NR:List bD->Option (_O)
 |[]=>some []
 |.inl i::r=>(NR r).map (i :: ·)
 |.inr _::_=>none
def Im:List (List bD)->Option (List (_O))
 |[]=>some []
 |k::r=>match NR k,Im r with
  |some a,some b=>some (a::b)
  |_,_=>none
def LU(a b:_O):Bool:=!(SO.lexLt a b)
def l?(ks:List (_O)):List (_O):=ks.mergeSort LU
theorem dB(ks:List (_O)):(l? ks).Perm ks:=List.mergeSort_perm ks LU
theorem fU{ks:List (_O)}(nd:ks.Nodup):SO.cB (l? ks):=by
 have h1:(l? ks).Pairwise fun a b=>LU a b=true:=by
  refine List.pairwise_mergeSort (fun a b c h1 h2=>?_) (fun a b=>?_) ks
  .unfold LU at h1 h2⊢;rw[Y5]at h1 h2⊢;by_cases e1:a=b
   .rw[e1];exact h2
   .by_cases e2:b=c
    .rw[<-e2];exact h1
    .exact SO.iC (SO.pY (SO.jE e2 h2) (SO.jE e1 h1))
  .unfold LU;cases z:SO.lexLt a b with
   |false=>rfl
   |true=>rw[SO.iC z];rfl
 have h2:(l? ks).Nodup:=(dB ks).nodup_iff.mpr nd;refine List.Pairwise.imp (fun{a b}h=>?_) (h1.and h2);have z:SO.lexLt a b=false:=by have:=h.1;unfold LU at this;rwa [Y5]at this
 exact SO.jE h.2 z
theorem fq{ks:List (_O)}(h:SO.cB ks):ks.Nodup:=List.Pairwise.imp (fun{a b}h e=>by rw[e,SO.jD]at h;cases h) h
theorem ll{a b:List (_O)}(p:a.Perm b)(fa:SO.cB a)(fb:SO.cB b):a=b:=
 List.Perm.eq_of_pairwise (fun x y _ _ h1 h2=>by rw[SO.iC h1]at h2;cases h2) fa fb p
def cX(k:_O):ak:=.tup (k.map .int)
def aac(d:ak)(st:ae):bI ak:=match d with
 |.loc n=>match st[n]? with
  |some (.dT ay)=>match Im (ay.map (·.1)) with
   |some ks=>if ks.length<=sizeLine/\ks.all (fun k => !k.isEmpty)=true then .ok (.loc st.length) (st++[.lst ((l? ks).map cX)])else .bad
   |none=>.bad
  |_=>.bad
 |_=>.bad
def dP:List ak->Option (_O)
 |[]=>some []
 |.int i::r=>(dP r).map (i :: ·)
 |_::_=>none
theorem eQ:∀{us:List ak}{a:_O},dP us=some a->us=a.map ak.int:=by
 intro us
 induction us with
 |nil=>intro a h;cases h;rfl
 |cons u r ih=>
  intro a h;cases u with
  |int i=>
   replace h:(dP r).map (i :: ·)=some a:=h;cases z:dP r with
   |none=>rw[z]at h;cases h
   |some b=>rw[z]at h;cases h;rw[ih z];rfl
  |_=>cases h
theorem gq(a:_O):dP (a.map ak.int)=some a:=by
 induction a with
 |nil=>rfl
 |cons x a ih=>show(dP (a.map ak.int)).map (x :: ·)=_;rw[ih];rfl
section
variable{X:Cx}{E:XK}
theorem aT.iD{K:_N}{ρ:_R}{H:Hp}:∀{a:_O}{vs:List V},aT K ρ H (a.map ak.int) vs->vs=a.map V.int:=by
 intro a
 induction a with
 |nil=>intro vs h;exact h.dE
 |cons x a ih=>
  intro vs h;obtain⟨v,r,rfl,q1,q2⟩:=aT.bC h;rw[Rl.bK q1,ih q2];rfl
end
section
variable{X:Cx}{E:XK}
theorem xZ(hc:X.calm=true):xX X (.builtin "max") ["default"] (fun xs zs H Q=>∃(a:_V)(ns:_O)(dv:Int),xs=[.ref a]/\zs=[.int dv]/\iY X.K H a (ns.map V.int)/\Q (.int (SO.maxD dv ns)) H):=by intro ag s σ H xs zs us ws Q I rx rz h;obtain⟨a,ns,dv,rfl,rfl,ha,q⟩:=h;obtain⟨u,rfl,r1⟩:=vals1 rx;obtain⟨z,rfl,r2⟩:=vals1 rz;cases r1;obtain⟨t,rfl⟩:=r2;obtain⟨aD,r,p,_⟩:=I.list ha;exact SO.DF (I.ok.hd hc) p.isList (lg r) fun h' tk t' k=>⟨.int _,H,I.kept k,⟨t',rfl⟩,q⟩
def DG(v d:ak)(st:ae):bI ak:=match v,d with
 |.loc n,.int dv=>match ai st n with
  |some us=>match dP us with
   |some ns=>.ok (.int (SO.maxD dv ns)) st
   |none=>.bad
  |none=>.bad
 |_,_=>.bad
def zu(m md:ME):ME:=fun μ st=>(m μ st).bind fun v aL=>(md μ aL).bind fun d st2=>DG v d st2
theorem GH{n:Nat}{st:ae}{ns:_O}{dv:Int}(h:ai st n=some (ns.map ak.int)):DG (.loc n) (.int dv) st=.ok (.int (SO.maxD dv ns)) st:=by unfold DG;dsimp only;rw[h];dsimp only;rw[gq]
variable{x:Str}{p pos kp:Pos}{e ed:Expr}{m md:ME}
theorem GI(hc:X.calm=true)(hg:Gl X x)(hm:X.mg x=none)(hv:bootBuiltins x=some (.builtin "max"))(ha:PE X e (tE X E m))(hd:PE X ed (tE X E md))(hn:x ≠ "__name__":=by decide)(kU:(x==("__debug__":Str))=false:=by decide)(he:starEach [e] X.env=(false,eval e X.env)::starEach [] X.env:=by rfl):PE X (.Call (.Name x p) [e] [⟨some "default",ed,kp⟩] pos) (tE X E (zu m md)):=by
 refine PE.imp (sT (xZ hc) hg hm hv (kT ha tU he) (yP hd B') (by rfl) hn kU (by rw[he];rfl) (by rw[he];rfl) (by rfl) (by rfl)) ?_;rintro σ H Q ⟨μ,ρ,st,rs,sr,h⟩;refine go μ ρ st rs sr h fun u aL ρ1 H1 v e1 bJ r1 h1=>?_;refine go μ ρ1 aL (rs.mono e1) bJ h1 fun d st2 ρ2 H2 z e2 jQ r2 h2=>?_;have Q5:=Rl.mono e2 _ _ r1;cases u with
 |loc n=>
  cases d with
  |int dv=>
   unfold DG at h2;dsimp only at h2;cases hn:ai st2 n with
   |none=>rw[hn]at h2;exact h2.elim
   |some us=>
    rw[hn]at h2;dsimp only at h2;cases hk:dP us with
    |none=>rw[hk]at h2;exact h2.elim
    |some ns=>
     rw[hk]at h2;obtain⟨a,rfl,ha⟩:=Q5.cD;obtain⟨vs,h3,rv⟩:=a_ jQ hn ha;rw[eQ hk]at rv;rw[aT.iD rv]at h3;exact⟨a,ns,dv,rfl,by rw[r2.bK],h3,bP jQ h2⟩
  |_=>exact h2.elim
 |_=>exact h2.elim
end
end MN
namespace DL
section
variable{prog:_X}{w:World}{A:_W}{E:_K}{s:_U}
theorem GJ:typeLookup (.type "list") "keys" = pure none:=by
 rw[typeLookup_type,builtinLookup_eq_fast]
 kernel_rfl
theorem A3{a:_V}{o:Obj}{xs:Array _T}{k:Nat}{Q:_Q->_U->Prop}(hx:s.heap.get? a=some o)(hc:o.cls=.type "list")(rq:o.data=.seq xs k)(hd:o.dict=none)(hA:A.handled=none)(h:∀h' tk,(∀b u,s.heap.get? b=some u->h'.get? b=some u)->Q none {s with heap:=h',toks:=tk}):wpAny (model prog w) A (getAttr? (.ref a) "keys") Q E s:=by
 obtain⟨c,dct,dat,sl⟩:=o;simp only at hc rq hd;subst hc rq hd;obtain⟨hp,g,d,tk,os⟩:=s;have hT:∀O_,(⟨hp,g,d,O_,os⟩:_U).TypeIs (.ref a) "list":=fun _=>⟨_,hx,rfl⟩
 have q1:=sub_AttributeError;have q3:=YB.lookup;have q4:=YB.bind (.ref a);have q5:=am_list_getattr_none;unfold getAttr? getAttrBy? getAttrBy
 repeat (any_goals (first|assumption|exact hT _|((with_reducible show wpAny _ _ (call (Value.builtin "list.__getattribute__") _ _) _ _ _);refine YM YB (hT _) am_entry_list_getattribute (F.args_list_getattribute_2 _ _) (meets_getattribute_miss_list a xs k sl "keys" _ GJ (by decide) (by size_fits)) ⟨hx,hA,fun h' O_ e Tq=>?_⟩)|wp_step))
 obtain⟨t',u',he⟩:=Tq.there;show wpAny _ _ (getattributeRaised _ _ _ _ _ _ _) _ _ _;unfold getattributeRaised
 repeat (any_goals (first|assumption|wp_step))
 exact h _ _ Tq.keeps
def Keeps(h h':Heap):Prop:=∀b u,h.get? b=some u->h'.get? b=some u
variable{K:Type}[DecidableEq K]{knd:KeyKind prog w K}
theorem pZ:entryFor table "dict.update.loop" = some Builtin.«dict.update.loop»:=entryFor_of_tree (by kernel_rfl)
theorem iG:plainId "dict.update.loop" = true:=by decide +kernel
end
end DL
namespace SO
open PySem.W PyProof.Rows
section
variable{prog:_X}{w:World}{A:_W}{E:_K}{s:_U}{t:_V}{us:_P}{ns:_O}
theorem sU(ns:_O):∀k,preSum (fun i=>ns.getD i 0) k=(ns.take k).sum
 |0=>by rw[List.take_zero];rfl
 |k+1=>by
  show preSum (fun i=>ns.getD i 0) k+ns.getD k 0=_;rw[sU ns k,Y_,List.sum_append_int,VW];cases ns[k]? with
  |none=>simp
  |some x=>simp
theorem GL{Q:_K}(hh:A.handled=none)(ht:s.heap.IsTuple t us.toArray)(ia:IntsAre us ns)(h:∀h' tk t',(∀b o,s.heap.get? b=some o->h'.get? b=some o)->Q (.int ns.sum t') {s with heap:=h',toks:=tk}):
  wpAny (model prog w) A (call (.builtin "sum") [.ref t]) Q E s:=by
 have kQ:t<s.heap.objs.size:=by obtain⟨_,e,_⟩:=id ht;exact Vu e
 refine call_sum_walkG (Yk ht ?_);refine⟨_,_,_,_,_,_,fun i=>ns.getD i 0,rfl,Walks.tuple (A:=A.in1) hh _ t (VN kQ) us.toArray,⟨⟨_,VA _ rfl,rfl,rfl⟩,ht.push _⟩,fun b hb=>?_,fun i v hP=>?_,fun h' tk t' hk=>?_⟩
 .show b<(s.heap.push _).objs.size;rw[Wz];rcases VH.mp hb with rfl|hb
  .exact V? _
  .rcases VH.mp hb with rfl|hb
   .exact XC kQ
   .cases hb
 .obtain⟨n,t2,en,e⟩:=zt ia (by rw[<-Xk];exact hP);refine⟨t2,?_⟩;show v=Value.int (ns.getD i 0) t2;rw[VW,en];exact e
 .have e:preSum (fun i=>ns.getD i 0) us.toArray.size=ns.sum:=by rw[sU,Vx,ia.length,Xe (Vp _)]
  rw[e];refine h h' tk t' fun b o e=>hk b o (fun hm=>?_) (Vj _ e);rcases VH.mp hm with e1|hm
  .exact absurd (Vu e) (by rw[e1];exact VY _)
  .cases hm
end
end SO
namespace L2
open PySem.Spec PyProof.Rows
theorem A4{X:Cx}(hh:X.A.handled=none):bc X (.builtin "sum") (fun xs H Q=>∃(a:_V)(ns:_O),xs=[.ref a]/\jz X.K H a (ns.map V.int)/\Q (.int ns.sum) H):=by rintro ag s σ H xs ws Q I r ⟨a,ns,rfl,hs,q⟩;obtain⟨u,rfl,ru⟩:=aV.one r;cases ru;obtain⟨aD,r1,p1,_⟩:=I.tuple hs;exact SO.GL hh (by obtain⟨o,h1,h2,n,h3⟩:=p1;exact⟨o,h1,h2,n,h3⟩) (intsAre_of r1) fun h' tk t' hk=>⟨.int ns.sum,H,I.kept hk,⟨_,rfl⟩,q⟩
end L2
namespace MN
open PySem.Spec L2
open PyProof.Rows hiding St
def DH:FN
 |[.tup us],st=>match dP us with
  |some ns=>.ok (.int ns.sum) st
  |none=>.bad
 |_,_=>.bad
theorem KI{ns:_O}{st:ae}:DH [.tup (ns.map ak.int)] st=.ok (.int ns.sum) st:=by show(match dP (ns.map ak.int) with|some ns=>bI.ok (ak.int ns.sum) st|none=>.bad)=_;rw[gq]
section
variable{X:Cx}{E:XK}
theorem A5(hh:X.A.handled=none):bc X (.builtin "sum") (cM (wo X) E DH):=by
 refine bc.imp (A4 hh) ?_;rintro xs H Q ⟨ρ,st,us,sr,r,h⟩;unfold DH at h;split at h
 .rename_i ws;split at h
  .rename_i ns hn;obtain⟨v,rfl,r1⟩:=r.qW;rw[eQ hn]at r1;obtain⟨p,vs,rfl,hp,rp⟩:=r1.fe;rw[aT.iD rp]at hp;exact⟨p,ns,rfl,hp,bP sr h⟩
  .exact h.elim
 .exact h.elim
end
section
variable{X:Cx}{E:XK}
theorem Glob.strs{K:_N}{mg:_L}{x:Str}{a:_V}{o:Obj}{aD:Array _T}{n:Nat}{ns:_S}(h:mg x=some (.ref a))(l:K.lookup a=some o)(hc:o.cls=.type "tuple")(hd:o.data=.seq aD n)(hz:aD.size<=sizeLine)(hv:aV (ns.map V.str) aD.toList):Glob K mg x (.mt (ns.map .str)):=
 ⟨_,.ref a,h,rfl,fun ρ H=>Rl.Nk (.inr ⟨o,aD,n,l,hc,hd,hz,hv⟩) (by
  clear h l hc hd hz hv
  induction ns with
  |nil=>exact aT.nil
  |cons s ns ih=>exact aT.cons (Rl.mkStr s) ih)⟩
end
end MN
namespace PM
open PySem.Spec L2 MN
open PyProof.Rows hiding St
def DI:ak:=.mt ((["lex","deg"]:_S).map ak.str)
def jk:FN:=eg 1 1 (aO (vD (u? "str" aK) (ah (F8 false) aK (mC PM.DI))))
def dQ:FN:=eg 1 1 (dY (cF (bN (aq PM.jk (aa aK ao)))) (gP "NoOrder" (aa (qs "an order is lex or deg") ao)) bg)
end PM
namespace SO
open PySem.W PyProof.Rows
section
variable{prog:_X}{w:World}{A:_W}{E:_K}{s:_U}{d:_V}{es:Array DictEntry}{ep:Nat}
theorem GN(hd:(d==sysModules)=false):MeetsIn prog w (Builtin.«dict.__len__» ⟨[.ref d],[]⟩) (fun _ R s=>∃es ep,k? s.heap d es ep/\R (.ok (.ret (.int es.size s.toks))) {s with toks:=s.toks+1}):=
 .of_wp fun A R s⟨es,ep,⟨o,ho,hc,rq⟩,h⟩=>by show wpAny _ _ (dictSize d >>= _) _ _ s;unfold dictSize;refine Vh (Vh (Yv ho rq (Vr ?_)));show wpAny _ _ (Builtin.Dict.pendingCount d >>= _) _ _ s;refine Vh (wpAny_pendingCount_other hd ?_);refine wpAny_ret_mkInt ?_;rw[WZ];exact h
theorem GO{Q:_K}(hd:(d==sysModules)=false)(x:k? s.heap d es ep)(MX:(es.size:Int)<2 ^ 63)(h:Q (.int es.size (s.toks+1)) {s with toks:=s.toks+1+1}):wpAny (model prog w) A (call (.builtin "len") [.ref d]) Q E s:=by
 refine Calls.call_function_entry kind_len plain_len entry_len (args_len1 _) ?_;unfold Builtin.«len»;refine Vh (m:=oneArg "len" _) (Vr ?_);refine Vh (m:=callSpecial? (.ref d) (Str.ofString "__len__")) (Wt (name:=Str.ofString "__len__") x.ty Z4
  (YL Z4 x.ty PySem.F.entry_dict_len (PySem.F.args_dict_len_1 _) (GN hd) ⟨es,ep,x,?_⟩))
 show wpAny _ _ _ _ _ {s with toks:=s.toks+1};refine Vh (WD (Vr ?_));refine Vh (XI ?_);show wpAny _ _ (if((es.size:Nat):Int)<0 then _ else _) _ _ _;rw[Vv (by lia)];show wpAny _ _ (if((es.size:Nat):Int) ≥ 2 ^ 63 then _ else _) _ _ _;rw[Vv (by lia)];exact Vh (wpAny_mkInt (Vr ⟨_,rfl,h⟩))
end
section
variable{prog:_X}{w:World}{A:_W}{E:_K}{s:_U}{l:_V}{us:_P}{ns:_O}
theorem x_(h:IntsAre us ns):∃xs:Array (Int×Tok),us.toArray=intItems xs/\xs.size=ns.length/\∀i,numAt xs i=ns.getD i 0:=by
 have:∃l:List (Int×Tok),us=l.map (fun p=>Value.int p.1 p.2)/\l.map (·.1)=ns:=by
  induction h with
  |nil=>exact⟨[],rfl,rfl⟩
  |cons n t _ ih=>
   obtain⟨l,e1,e2⟩:=ih;exact⟨(n,t)::l,by rw[e1];rfl,by rw[<-e2];rfl⟩
 obtain⟨l,rfl,rfl⟩:=this;refine⟨l.toArray,by simp[intItems],by simp,fun i=>?_⟩;unfold numAt;rw[Xk,VW,VB]
end
end SO
namespace MN
open PySem.Spec L2
open PyProof.Rows hiding St kindOf
section
variable{κ:Type}[DecidableEq κ]
def p4(ay:List (κ×ak))(k:κ):List (κ×ak):=ay.filter fun kv=>decide (kv.1≠k)
theorem dG.drop{K:_N}{ρ:_R}{H:Hp}(k:κ):∀{ay:List (κ×ak)}{l:List (κ×V)},dG K ρ H ay l->dG K ρ H (p4 ay k) (nB l k)
 |[],l,p=>by rw[p.dE];exact dG.nil
 |(k',u)::ay,l,p=>by
  obtain⟨v,l',rfl,r,p'⟩:=p.bC;have ih:=dG.drop k p';unfold p4 nB at ih⊢;by_cases e:k'=k
  .rw[V4 (by simp[e]),V4 (by simp[e])];exact ih
  .rw[V9 (by simp[e]),V9 (by simp[e])];exact dG.cons r ih
end
end MN
namespace MN
open PySem.Spec L2
open PyProof.Rows hiding St
section
variable{X:Cx}{E:XK}{pos p q1 q2:Pos}{n x:Str}{tab:List (Str×Str×Bool)}{qs:_S}
def NT:MB:=fun _ _=>.bad
end
end MN
namespace MN
open PySem.Spec L2
open PyProof.Rows hiding St kindOf
def A6(f:Str)(v:ak):List (Str×ak)->List (Str×ak)
 |[]=>[(f,v)]
 |(g,x)::r=>if g=f then(g,v)::r else(g,x)::A6 f v r
def Q6(K:_N)(cs:_S)(f:Str):Prop:=∀c∈cs,∀C,W.nsIn K mainGlobals c=some (some (.ref C))->yO K C/\ik K C f
def GP(cs:_S)(f:Str)(d:ak)(st:ae):bI ak:=match d with
 |.loc n=>match st[n]? with
  |some (.ins c fs)=>if c∈cs then match fs.lookup f with
   |some v=>.ok v st
   |none=>.bad else .bad
  |_=>.bad
 |_=>.bad
def bp(cs:_S)(f:Str)(m:ME):ME:=fun μ st=>(m μ st).bind (GP cs f)
def GQ(cs:_S)(f:Str)(v d:ak)(st:ae):Option ae:=match d with
 |.loc n=>match st[n]? with
  |some (.ins c fs)=>if c∈cs/\fs.length<1000 then some (st.set n (.ins c (A6 f v fs)))else none
  |_=>none
 |_=>none
def gu(cs:_S)(f:Str)(mo mv:ME):MB:=fun μ st=>(mv μ st).sb μ fun v aL=>(mo μ aL).sb μ fun d st2=>match GQ cs f v d st2 with
 |some l_=>.nx μ l_
 |none=>.bad
def GR(c:Str)(F:FN)(us:List ak)(st:ae):bI ak:=(F (.loc st.length::us) (st++[.ins c []])).bind fun v aL=>match v with
 |.bR=>.ok (.loc st.length) aL
 |_=>.bad
def vR(c:Str)(F:FN)(a:MA):ME:=fun μ st=>(a μ st).bind (GR c F)
def vS(c m:Str)(st:ae)(d:ak):Bool:=match d with
 |.loc n=>match st[n]? with
  |some (.ins c' fs)=>decide (c'=c)&&(fs.lookup m).isNone
  |_=>false
 |_=>false
def dj(c m:Str)(F:FN)(o:ME)(a:MA):ME:=fun μ st=>(o μ st).bind fun d aL=>if vS c m aL d=true then(a μ aL).bind fun us st2=>F (d::us) st2 else .bad
section
variable{K:_N}{ρ:_R}{H:Hp}
theorem p5{f:Str}:∀{fs:List (Str×ak)}{gs:List (Str×V)},dG K ρ H fs gs->(∀v,fs.lookup f=some v->∃x,gs.lookup f=some x/\Rl K ρ H v x)/\(fs.lookup f=none->gs.lookup f=none)
 |[],gs,h=>by obtain rfl:gs=[]:=XN.mp h.1.symm;exact⟨(fun v e=>nomatch e),fun _=>rfl⟩
 |(k,v)::fs,gs,h=>by
  cases gs with
  |nil=>exact absurd h.1 (by intro z;cases z)
  |cons g gs=>
   obtain⟨e1,e2⟩:=X! h.1;obtain⟨x,r,q1,q2,q3⟩:=aT.bC h.2;obtain⟨q4,q5⟩:=X! q1;have e1:k=g.1:=e1;have i:=p5 (f:=f) (fs:=fs) (gs:=gs) ⟨e2,by rw[q5];exact q3⟩;obtain⟨gk,gx⟩:=g;have e1:k=gk:=e1;subst e1;have q4:gx=x:=q4;subst q4;rw[Y3,Y3];cases z:f==k with
   |true=>exact⟨fun w e=>⟨gx,rfl,by cases e;exact q2⟩,fun e=>by cases e⟩
   |false=>exact i
theorem zw{f:Str}{v:ak}{x:V}(hv:Rl K ρ H v x):∀{fs:List (Str×ak)}{gs:List (Str×V)},dG K ρ H fs gs->dG K ρ H (A6 f v fs) (ig f x gs)
 |[],gs,h=>by obtain rfl:gs=[]:=XN.mp h.1.symm;exact⟨rfl,aT.one hv⟩
 |(k,w)::fs,gs,h=>by
  cases gs with
  |nil=>exact absurd h.1 (by intro z;cases z)
  |cons g gs=>
   obtain⟨e1,e2⟩:=X! h.1;obtain⟨y,r,q1,q2,q3⟩:=aT.bC h.2;obtain⟨q4,q5⟩:=X! q1;obtain⟨gk,gx⟩:=g;have e1:k=gk:=e1;subst e1;have q4:gx=y:=q4;subst q4;have i:=zw (f:=f) hv (fs:=fs) (gs:=gs) ⟨e2,by rw[q5];exact q3⟩;unfold A6 ig;by_cases z:k=f
   .rw[Vo z,Vo z];exact⟨h.1,aT.cons hv (by rw[q5];exact q3)⟩
   .rw[Vv z,Vv z];exact⟨We (k :: ·) i.1,aT.cons q2 i.2⟩
theorem DJ{κ:Type}{ρ':_R}{H':Hp}{fs:List (κ×ak)}{gs:List (κ×V)}(e:aG ρ H ρ' H')(h:dG K ρ H fs gs):dG K ρ' H' fs gs:=⟨h.1,aT.mono e _ _ h.2⟩
end
section
variable{X:Cx}{E:XK}{o e value:Expr}{f x:Str}{pos pos' p:Pos}{m mo mv:ME}{cs:_S}{c:Str}{F:FN}{k j:Nat}{es:List Expr}{ms:MA}
theorem DK(hF:Q6 X.K cs f)(ho:PE X o (tE X E m))(hb:attributeBase o f X.env (eval o X.env)=eval o X.env:=by rfl):PE X (.Attribute o f pos) (tE X E (bp cs f m)):=by
 refine PE.imp (Jn ho hb) ?_;rintro σ H Q ⟨μ,ρ,st,rs,sr,h⟩;refine go μ ρ st rs sr h fun d aL ρ1 H1 x e1 bJ r1 h1=>?_;cases d with
 |loc n=>
  obtain⟨a,rfl,ha⟩:=r1.cD;unfold GP at h1;dsimp only at h1;cases hn:aL[n]? with
  |none=>rw[hn]at h1;exact h1.elim
  |some cl=>
   rw[hn]at h1;cases cl with
   |ins c fs=>
    obtain⟨C,dx,gs,hH,vp,pr⟩:=bJ.cell n _ a hn ha;dsimp only at h1;by_cases hc:c∈cs
    .rw[Vo hc]at h1;cases hl:fs.lookup f with
     |none=>rw[hl]at h1;exact h1.elim
     |some v=>
      rw[hl]at h1;obtain⟨y,hy,ry⟩:=(p5 pr).1 v hl;obtain⟨k1,k2⟩:=hF c hc C vp;exact⟨a,C,dx,gs,y,rfl,hH,k1,k2,hy,h1 _ _ _ (aG.refl _ _) bJ ry⟩
    .rw[Vv hc]at h1;exact h1.elim
   |_=>exact h1.elim
 |_=>exact h1.elim
theorem DM(hF:Q6 X.K cs f)(ho:PE X o (tE X E mo))(hv:PE X value (tE X E mv))(hs:swapsWith value (some (.Attribute o f pos')) pos.line X.env=pure false:=by rfl):PS X (.Assign [.Attribute o f pos'] value pos) (tS X E (gu cs f mo mv)):=by
 refine PS.imp (Jo ho hv hs) ?_;rintro D σ H ⟨μ,ρ,st,rs,sr,h⟩;refine yW μ ρ st rs sr h fun v aL ρ1 H1 y e1 bJ r1 h1=>?_;refine yW μ ρ1 aL (rs.mono e1) bJ h1 fun d st2 ρ2 H2 x e2 jQ r2 h2=>?_;cases d with
 |loc n=>
  obtain⟨a,rfl,ha⟩:=r2.cD;unfold GQ at h2;dsimp only at h2;cases hn:st2[n]? with
  |none=>rw[hn]at h2;exact h2.elim
  |some cl=>
   rw[hn]at h2;cases cl with
   |ins c fs=>
    obtain⟨C,dx,gs,hH,vp,pr⟩:=jQ.cell n _ a hn ha;dsimp only at h2;by_cases hc:c∈cs/\fs.length<1000
    .rw[Vo hc]at h2;obtain⟨k1,k2⟩:=hF c hc.1 C vp;have hl:gs.length<1000:=by have:=We List.length pr.1;rw[Vi,Vi]at this;lia
     have az:aG ρ2 H2 ρ2 (upd H2 a (.ins C dx (ig f y gs))):=aG.put hH (fun xs e=>by cases e) (fun o u e=>by cases e);refine⟨a,C,dx,gs,rfl,hH,k1,k2,hl,h2 ρ2 _ σ az (jQ.set hn rfl rfl ha hH (fun xs e=>by cases e) (fun o u e=>by cases e) ⟨C,dx,_,a!,vp,DJ az (zw (Rl.mono e2 _ _ r1) pr)⟩) (((rs.mono e1).mono e2).mono az)⟩
    .rw[Vv hc]at h2;exact h2.elim
   |_=>exact h2.elim
 |_=>exact h2.elim
theorem SR.made{K:_N}{ρ:_R}{st:ae}{H:Hp}{C y dx:_V}(sr:SR K ρ st H)(vp:W.nsIn K mainGlobals c=some (some (.ref C)))(hx:H y=none)(hd:H dx=none)(ne:dx≠y):
  aG ρ H (ρ++[y]) (upd (upd H dx (.own y)) y (.ins C dx []))/\SR K (ρ++[y]) (st++[.ins c []]) (upd (upd H dx (.own y)) y (.ins C dx [])):=by
 have s1:kx H (upd H dx (.own y)):=bW hd;have h2:upd H dx (.own y) y=none:=by rw[aM (WV ne)];exact hx
 have s2:kx (upd H dx (.own y)) (upd (upd H dx (.own y)) y (.ins C dx [])):=bW h2;exact⟨aG.snoc y fun b o q=>s2 _ _ (s1 _ _ q),(sr.grow s1).alloc h2 ⟨C,dx,[],a!,vp,rfl,aT.nil⟩⟩
theorem zx{ρ:_R}{y:_V}{n:Nat}(h:ρ.length=n):(ρ++[y])[n]?=some y:=by rw[Vy (by lia),h,Wk];rfl
theorem KJ{C fa:_V}{fd:FuncData}{ps:_S}{CX:wN}(M:Mk X.K C fa)(G:fX X.prog X.w X.K X.mg X.base CX k fa fd ps (CJ ⟨X.K,X.mg,[]⟩ F))(hr:dn (k+1) X.A)(hg:Gl X x)(hm:X.mg x=some (.ref C))(vp:W.nsIn X.K mainGlobals x=some (some (.ref C)))(hb:Binds X.K fd ps [])(hx:Passes CX X E)(ha:PA X (e::es) (tL X E ms))(kU:(x==("__debug__":Str))=false:=by decide)(he:starEach (e::es) X.env=(false,eval e X.env)::starEach es X.env:=by rfl)(i?:(backTo pos (starEach es X.env)).any (·.1)=false:=by rfl):
  PE X (.Call (.Name x p) (e::es) [] pos) (tE X E (vR x F ms)):=by
 refine PE.imp (Fn M G hr hg hm hb .nil hx ha kU he i?) ?_;rintro σ H Q ⟨μ,ρ,st,rs,sr,h⟩;refine go (R1:=aT X.K) μ ρ st rs sr h fun us aL ρ1 H1 xs e1 bJ r1 h1=>?_;intro y dx n1 n2 ne;rw[VL];obtain⟨q1,q2⟩:=SR.made bJ vp n1 n2 ne;refine⟨.loc aL.length::us,ρ1++[y],aL++[.ins x []],aT.cons (Rl.sH (zx bJ.len)) (aT.mono q1 _ _ r1),q2,?_⟩;have h1:=wR.mono h1 q1;unfold GR at h1;cases z:F (.loc aL.length::us) (aL++[.ins x []]) with
 |ok v st2=>
  rw[z]at h1;intro ρ2 H2 w e2 jQ r2;cases v with
  |bR=>exact⟨r2.ir,h1 ρ2 H2 _ e2 jQ (Rl.sH (e2.at_ (zx bJ.len)))⟩
  |_=>exact h1.elim
 |err c st2=>
  rw[z]at h1;exact h1
 |bad=>rw[z]at h1;exact h1
theorem GS{C fa:_V}{fd:FuncData}{ps:_S}{CX:wN}{apos:Pos}{mt:Str}{pl:Sem Bool}(cl:yO X.K C)(hM:Meth X.K C mt fa)(G:fX X.prog X.w X.K X.mg X.base CX k fa fd ps (CJ ⟨X.K,X.mg,[]⟩ F))(hr:dn k X.A)(vp:W.nsIn X.K mainGlobals c=some (some (.ref C)))(hb:Binds X.K fd ps [])(hx:Passes CX X E)(ho:PE X o (tE X E mo))(ha:PA X (e::es) (tL X E ms))(wY:starEach (e::es) X.env=(false,eval e X.env)::starEach es X.env:=by rfl)(i?:(backTo pos (starEach es X.env)).any (·.1)=false:=by rfl)(T:PE X (.Call (.Attribute o mt apos) (e::es) [] pos) (B9 C mt (CJ ⟨X.K,X.mg,[]⟩ F) [] E (tE X E mo) (tL X E ms))):
  PE X (.Call (.Attribute o mt apos) (e::es) [] pos) (tE X E (dj c mt F mo ms)):=by
 refine PE.imp T ?_;rintro σ H Q ⟨μ,ρ,st,rs,sr,h⟩;refine go μ ρ st rs sr h fun d aL ρ1 H1 x e1 bJ r1 h1=>?_;cases hd:vS c mt aL d with
 |false=>rw[hd]at h1;exact h1.elim
 |true=>
  rw[hd,Vo rfl]at h1;cases d with
  |loc n=>
   obtain⟨a,rfl,ha⟩:=r1.cD;unfold vS at hd;dsimp only at hd;cases hn:aL[n]? with
   |none=>rw[hn]at hd;cases hd
   |some cl'=>
    rw[hn]at hd;cases cl' with
    |ins c' fs=>
     obtain⟨C',dx,gs,hH,Q7,pr⟩:=bJ.cell n _ a hn ha;rw[WL]at hd;obtain rfl:c'=c:=Wg hd.1;obtain rfl:C'=C:=by have:=Q7.symm.trans vp;injection this with this;injection this with this;injection this
     refine⟨a,dx,gs,rfl,hH,(p5 pr).2 (Yz.mp hd.2),?_⟩;refine go (R1:=aT X.K) μ ρ1 aL (rs.mono e1) bJ h1 fun us st2 ρ2 H2 xs e2 jQ r2 h2=>?_;rw[VL];exact⟨.loc n::us,ρ2,st2,aT.cons (Rl.mono e2 _ _ (Rl.sH ha)) r2,jQ,wR.pn h2⟩
    |_=>cases hd
  |_=>cases hd
end
end MN
namespace MN
open PySem.Spec L2
open PyProof.Rows hiding St
section
variable{K:_N}{h:Heap}{mg:_L}
def dq(K:_N)(x:Str)(st:Stmt):Prop:=∃(f:_V)(fd:FuncData),ES K x x st f fd/\W.nsIn K mainGlobals x=some (some (.ref f))
theorem dq.mk{x:Str}{st:Stmt}{f:_V}{oc:_T}{od an:Option _V}{BP:Array (_Q)}{kV doc pm dC ct:_T}(a:W.nsIn K mainGlobals x=some (some (.ref f)))(l:K.lookup f=some ⟨oc,od,.func (W.fnOf x x (dI st) (cA st) (aH st) .none kV doc pm an dC ct),BP⟩)(c:W.codeIn K dC x=true)(k:W.keepIn K (.ref f)=true):dq K x st:=⟨f,_,xn l c k,a⟩
inductive x!(K:_N):_S->Prop
 |nil:x! K []
 |cons {x:Str} {r:_S} (a:W.nsIn K mainGlobals x=some none) (t:x! K r):x! K (x::r)
@[reducible] def GU(mg:_L):_S->Prop
 |[]=>True
 |x::r=>mg x=none/\GU mg r
theorem x!.get(X:K.In h)(G:h.Ns mainGlobals mg):∀{l:_S},x! K l->GU mg l
 |_,.nil=>trivial
 |_,.cons a t=>⟨W.mg_none_of X G a,t.get X G⟩
inductive x?(K:_N):_S->Prop
 |nil:x? K []
 |cons {x:Str} {r:_S} {C:_V} (a:W.nsIn K mainGlobals x=some (some (.ref C))) (e:W.excIn K C Tg "ValueError.__new__" = true) (s:W.subIn K (.ref C) (.type "BaseException")=some true) (t:x? K r):x? K (x::r)
@[reducible] def GV(K:_N)(mg:_L):_S->Prop
 |[]=>True
 |x::r=>Kl K mg x/\GV K mg r
theorem x?.get(X:K.In h)(G:h.Ns mainGlobals mg):∀{l:_S},x? K l->GV K mg l
 |_,.nil=>trivial
 |_,.cons a e s t=>⟨⟨_,W6 X G a,e,s⟩,t.get X G⟩
inductive ke(K:_N):List (Str×Str×Bool)->Prop
 |nil:ke K []
 |cons {c x:Str} {b:Bool} {C D:_V} {cd:ClassData} {r:List (Str×Str×Bool)} (h1:W.nsIn K mainGlobals c=some (some (.ref C))) (h2:W.nsIn K mainGlobals x=some (some (.ref D))) (h3:W.clsIn K D=some cd) (h4:W.typeIn K (.ref D)=some (.type "type")) (h5:W.subIn K (.ref C) (.ref D)=some b) (t:ke K r):ke K ((c,x,b)::r)
def Q8(l:_S):List (Str×Str×Bool):=l.map fun c=>(c,"ValueError",true)
end
section
variable{X:Cx}{E:XK}{pos:Pos}{a b:Expr}{ma mb:ME}
theorem KL(ha:PE X a (tE X E ma))(hb:PE X b (tE X E mb)):PE X (.BinOp a .Add b pos) (tE X E (ah cb ma mb)):=iu F0 ha hb
theorem KN(ha:PE X a (tE X E ma))(hb:PE X b (tE X E mb)):PE X (.BinOp a .Sub b pos) (tE X E (ah dr ma mb)):=iu F3 ha hb
theorem KO(ha:PE X a (tE X E ma))(hb:PE X b (tE X E mb)):PE X (.BinOp a .Mult b pos) (tE X E (ah cf ma mb)):=iu F5 ha hb
theorem KP(ha:PE X a (tE X E ma))(hb:PE X b (tE X E mb)):PE X (.BinOp a .FloorDiv b pos) (tE X E (ah je ma mb)):=iu CO ha hb
theorem KQ(ha:PE X a (tE X E ma))(hb:PE X b (tE X E mb)):PE X (.BinOp a .Mod b pos) (tE X E (ah cK ma mb)):=iu F6 ha hb
theorem NU(ha:PE X a (tE X E ma))(hb:PE X b (tE X E mb)):PT X (.Compare a [.Lt] [b] pos) (tT X E (bN (ah ltV ma mb))):=jd CP ha hb
theorem NV(ha:PE X a (tE X E ma))(hb:PE X b (tE X E mb)):PT X (.Compare a [.Gt] [b] pos) (tT X E (bN (ah qX ma mb))):=jd CQ ha hb
theorem NW(hu:X.A.units+64<cLine)(ha:PE X a (tE X E ma))(hb:PE X b (tE X E mb)):PT X (.Compare a [.Eq] [b] pos) (tT X E (bN (ah kY ma mb))):=jd (CV hu) ha hb
theorem NX(hu:X.A.units+64<cLine)(ha:PE X a (tE X E ma))(hb:PE X b (tE X E mb)):PT X (.Compare a [.NotEq] [b] pos) (tT X E (bN (ah iZ ma mb))):=jd (CW hu) ha hb
theorem NY(hu:X.A.units+64<cLine)(ha:PE X a (tE X E ma))(hb:PE X b (tE X E mb)):PE X (.Compare a [.Eq] [b] pos) (tE X E (ah kY ma mb)):=jc (CV hu) ha hb
theorem NZ(hu:X.A.units+64<cLine)(ha:PE X a (tE X E ma))(hb:PE X b (tE X E mb)):PE X (.Compare a [.NotEq] [b] pos) (tE X E (ah iZ ma mb)):=jc (CW hu) ha hb
end
end MN
namespace MN
open PySem.Spec L2
open PyProof.Rows hiding St kindOf
def MethAt(P:_X)(w:World)(K:_N)(mg:_L)(base:Heap)(c m:Str)(k:Nat)(F:FN):Prop:=
 ∃C fa fd ps,L2.yO K C/\Meth K C m fa/\fX P w K mg base (jA P w) k fa fd ps (CJ ⟨K,mg,[]⟩ F)/\W.nsIn K mainGlobals c=some (some (.ref C))/\Binds K fd ps []
def lu(P:_X)(w:World)(K:_N)(mg:_L)(base:Heap)(c:Str)(k:Nat)(F:FN):Prop:=
 ∃C fa fd ps,Mk K C fa/\fX P w K mg base (jA P w) k fa fd ps (CJ ⟨K,mg,[]⟩ F)/\mg c=some (.ref C)/\W.nsIn K mainGlobals c=some (some (.ref C))/\Binds K fd ps []
section
variable{X:Cx}{E:XK}{pos p apos:Pos}{o e:Expr}{es:List Expr}{ms:MA}{mo:ME}{F:FN}{x c mt:Str}{k j:Nat}
theorem GW(G:lu X.prog X.w X.K X.mg X.base x k F)(hr:dn j X.A)(hk:k+1<=j)(hg:Gl X x)(hx:Passes (jA X.prog X.w) X E)(ha:PA X (e::es) (tL X E ms))(kU:(x==("__debug__":Str))=false:=by decide)(he:starEach (e::es) X.env=(false,eval e X.env)::starEach es X.env:=by rfl)(i?:(backTo pos (starEach es X.env)).any (·.1)=false:=by rfl):PE X (.Call (.Name x p) (e::es) [] pos) (tE X E (vR x F ms)):=by obtain⟨C,fa,fd,ps,M,G,hm,vp,b⟩:=G;exact KJ M G (hr.mono hk) hg hm vp b hx ha kU he i?
theorem DN(G:MethAt X.prog X.w X.K X.mg X.base c mt k F)(hr:dn j X.A)(hk:k<=j)(hx:Passes (jA X.prog X.w) X E)(ho:PE X o (tE X E mo))(ha:PA X (e::es) (tL X E ms))
  (T:∀ {C fa:_V} {fd:FuncData} {ps:_S} {sp:Sp} {ta:TE} {t:TA},PE X o ta->PA X (e::es) t->L2.yO X.K C->Meth X.K C mt fa->fX X.prog X.w X.K X.mg X.base (jA X.prog X.w) k fa fd ps sp->dn k X.A->Binds X.K fd ps []->Passes (jA X.prog X.w) X E ->
   PE X (.Call (.Attribute o mt apos) (e::es) [] pos) (B9 C mt sp [] E ta t):=by exact fun h1 h2 cl hM F r b x=>Fm h1 cl hM F r b .nil x h2)
  (wY:starEach (e::es) X.env=(false,eval e X.env)::starEach es X.env:=by rfl) (i?:(backTo pos (starEach es X.env)).any (·.1)=false:=by rfl):PE X (.Call (.Attribute o mt apos) (e::es) [] pos) (tE X E (dj c mt F mo ms)):=by
 obtain⟨C,fa,fd,ps,cl,hM,G,vp,b⟩:=G;exact GS (pl:=pure true) cl hM G (hr.mono hk) vp b hx ho ha wY i? (T ho ha cl hM G (hr.mono hk) b hx)
end
def DO(K:_N)(mg:_L)(c:Str)(fs:_S):Prop:=∀C,W.nsIn K mainGlobals c=some (some (.ref C))->mg c=some (.ref C)/\L2.yO K C/\W.makesIn K C=true/\W.keepIn K (.ref C)=true/\∀f∈fs,ik K C f
theorem DO.O!{K:_N}{mg:_L}{c f:Str}{fs:_S}(h:DO K mg c fs)(hf:f∈fs):Q6 K [c] f:=by intro c' hc C hC;rw[VI]at hc;subst hc;obtain⟨_,h2,_,_,h5⟩:=h C hC;exact⟨h2,h5 f hf⟩
@[reducible] def KR(K:_N)(mg:_L):List (Str×List Str)->Prop
 |[]=>True
 |(c,fs)::r=>DO K mg c fs/\KR K mg r
inductive ya(K:_N)(C:_V):_S->Prop
 |nil:ya K C []
 |cons {f:Str} {r:_S} (a:W.findIn K (.ref C) f=some none) (t:ya K C r):ya K C (f::r)
theorem ya.get{K:_N}{C:_V}:∀{l:_S},ya K C l->∀f∈l,ik K C f
 |_,.nil=>fun f h=>by cases h
 |_,.cons a t=>fun f h=>by
  rcases VH.mp h with e|h
  .subst e;exact a
  .exact t.get f h
inductive yb(K:_N):List (Str×List Str)->Prop
 |nil:yb K []
 |cons {c:Str} {fs:_S} {r:List (Str×List Str)} {C:_V} (a:W.nsIn K mainGlobals c=some (some (.ref C))) (p:W.plainGet K C Str.empty=true) (d:W.hasDictIn K C=true) (o:W.plainOver K C=true)
   (s:W.findIn K (.ref C) "__setattr__" = some (some (.builtin "object.__setattr__"))) (m:W.makesIn K C=true) (k:W.keepIn K (.ref C)=true) (f:ya K C fs) (t:yb K r):yb K ((c,fs)::r)
theorem yb.get{K:_N}{h:Heap}{mg:_L}(X:K.In h)(G:h.Ns mainGlobals mg):∀{l:List (Str×List Str)},yb K l->KR K mg l
 |_,.nil=>trivial
 |_,.cons a p d o s m k f t=>⟨fun C hC=>by
   have e:=hC.symm.trans a;cases e;exact⟨W6 X G a,⟨p,d,o,s⟩,m,k,f.get⟩,t.get X G⟩
def vT(K:_N)(c m q:Str)(st:Stmt):Prop:=∃(C f:_V)(fd:FuncData),W.nsIn K mainGlobals c=some (some (.ref C))/\W.findIn K (.ref C) m=some (some (.ref f))/\W.isFn K (.ref f)=true/\ES K m q st f fd
theorem vT.mk{K:_N}{c m q:Str}{st:Stmt}{C f:_V}{oc:_T}{od an:Option _V}{BP:Array (_Q)}{kV doc pm dC ct:_T}(n:W.nsIn K mainGlobals c=some (some (.ref C)))(a:W.findIn K (.ref C) m=some (some (.ref f)))(i:W.isFn K (.ref f)=true)(l:K.lookup f=some ⟨oc,od,.func (W.fnOf m q (dI st) (cA st) (aH st) .none kV doc pm an dC ct),BP⟩)(d:W.codeIn K dC q=true)(k:W.keepIn K (.ref f)=true):vT K c m q st:=⟨C,f,_,n,a,i,xn l d k⟩
section
variable{P:_X}{w:World}{K:_N}{mg:_L}{base:Heap}{c m q:Str}{st:Stmt}{N ps fs:_S}{k:Nat}{body:MB}
theorem MethAt.mk(M:vT K c m q st)(cl:DO K mg c fs)(S:cN N ps (aH st))(hb:∀(kV doc pm:_T)(an:Option _V)(dC ct:_T)(us:_P),us.length=ps.length->bindArgs (W.fnOf m q (dI st) (cA st) (aH st) .none kV doc pm an dC ct) ⟨us,[]⟩=pure (ps.zip us))
  (h:∀ (f:_V) (dC:_T) (A:_W) (outer:List PySem.Env) (s:_U) (H:Hp) (E:XK),dn k (A.deeper (envOfC q (aH st) s.heap.objs.size f dC)) ->
   j! (fY (jA P w) P w K mg base N q (aH st) f dC A outer s H E) (cA st) (tS (fY (jA P w) P w K mg base N q (aH st) f dC A outer s H E) E body)):MethAt P w K mg base c m (k+1) (eg ps.length N.length body):=by
 obtain⟨C,f,fd,n,a,i,F⟩:=M;exact⟨C,f,fd,ps,(cl C n).2.1,⟨a,i,F.kp⟩,ug F S (h f),n,F.binds hb⟩
theorem lu.mk(M:vT K c "__init__" q st)(cl:DO K mg c fs)(S:cN N ps (aH st))(hb:∀(kV doc pm:_T)(an:Option _V)(dC ct:_T)(us:_P),us.length=ps.length->bindArgs (W.fnOf "__init__" q (dI st) (cA st) (aH st) .none kV doc pm an dC ct) ⟨us,[]⟩=pure (ps.zip us))
  (h:∀ (f:_V) (dC:_T) (A:_W) (outer:List PySem.Env) (s:_U) (H:Hp) (E:XK),dn k (A.deeper (envOfC q (aH st) s.heap.objs.size f dC)) ->
   j! (fY (jA P w) P w K mg base N q (aH st) f dC A outer s H E) (cA st) (tS (fY (jA P w) P w K mg base N q (aH st) f dC A outer s H E) E body)):lu P w K mg base c (k+1) (eg ps.length N.length body):=by
 obtain⟨C,f,fd,n,a,i,F⟩:=M;obtain⟨g1,_,g3,g4,_⟩:=cl C n;exact⟨C,f,fd,ps,⟨g3,a,i,g4⟩,ug F S (h f),g1,n,F.binds hb⟩
end
end MN
namespace SO
open PySem.W PyProof.Rows
def g8(f:Nat->Int):Nat->Int
 |0=>f 0
 |j+1=>if f (j+1)>g8 f j then f (j+1)else g8 f j
theorem jl(f:Nat->Int):∀j,f (argBest (fun i j=>decide (f i>f j)) j)=g8 f j
 |0=>rfl
 |j+1=>by
  have ih:=jl f j;show f (if decide (f (j+1)>f (argBest (fun i j=>decide (f i>f j)) j))=true then j+1 else argBest (fun i j=>decide (f i>f j)) j)=if f (j+1)>g8 f j then f (j+1)else g8 f j
  rw[ih];by_cases c:f (j+1)>g8 f j
  .rw[Vo (VF c),Vo c]
  .rw[Vv (by rw[VD c];exact Vs),Vv c,ih]
theorem p6{f g:Nat->Int}:∀{j:Nat},(∀i,i<=j->f i=g i)->g8 f j=g8 g j
 |0,h=>h 0 (Vp _)
 |j+1,h=>by unfold g8;rw[p6 (j:=j) fun i hi=>h i (by lia),h (j+1) (Vp _)]
section
variable{prog:_X}{w:World}{A:_W}{E:_K}{s:_U}{l:_V}{us:_P}{ns:_O}
theorem A7{Q:_K}(hh:A.handled=none)(hl:s.heap.IsTuple l us.toArray)(ia:IntsAre us ns)(GD:ns≠[])(h:∀t h' tk,(∀b o,s.heap.get? b=some o->h'.get? b=some o)->Q (.int (g8 (fun i=>ns.getD i 0) (ns.length-1)) t) {s with heap:=h',toks:=tk}):
  wpAny (model prog w) A (call (.builtin "max") [.ref l]) Q E s:=by
 obtain⟨xs,ex,sx,nx⟩:=x_ ia;rw[ex]at hl;have kQ:l<s.heap.objs.size:=by obtain⟨_,e,_⟩:=id hl;exact Vu e
 have KS:0<xs.size:=by
  rw[sx];cases ns with
  |nil=>exact absurd rfl GD
  |cons=>exact ZM _
 refine call_max_walk (Yk hl ?_);refine⟨_,[_,l],[_],_,_,_,_,rfl,Walks.tuple (A:=A.in1) hh _ l (VN kQ) (intItems xs),
  ⟨⟨_,VA _ rfl,rfl,rfl⟩,hl.push _⟩,fun c hc=>?_,by simpa[intItems]using KS,CmpOf.ints_gt (numAt xs) (fun _ _=>intItems_at),fun v h' tk hP hk=>?_⟩
 .show c<(s.heap.push _).objs.size;rw[Wz];rcases VH.mp hc with rfl|hc
  .exact V? _
  .rcases VH.mp hc with rfl|hc
   .exact XC kQ
   .cases hc
 .have hold:∀c o,s.heap.get? c=some o->h'.get? c=some o:=fun c o e=>by
   refine hk c o (fun hm=>?_) (Vj _ e);rcases VH.mp hm with e1|hm
   .have:=Vu e;rw[e1]at this;exact VY _ this
   .cases hm
  obtain⟨t,rfl⟩:=intItems_at hP;have ev:numAt xs (argBest (fun i j=>decide (numAt xs i>numAt xs j)) ((intItems xs).size-1))=g8 (fun i=>ns.getD i 0) (ns.length-1):=by rw[jl (numAt xs),show(intItems xs).size-1=ns.length-1 by rw[<-sx];simp[intItems]];exact p6 fun i _=>nx i
  rw[ev];exact h t h' tk hold
theorem DP{Q:_K}{d:_V}{ay:List (L2.bD×_T)}{ep:Nat}(hh:A.handled=none)(lo:(d==sysModules)=false)(zA:s.heap.DictAt (L2.bG prog w) d ay ep)(hk:ay.map (·.1)=ns.map Sum.inl)(GD:ns≠[])(h:∀t h' tk,(∀b o,s.heap.get? b=some o->h'.get? b=some o)->Q (.int (g8 (fun i=>ns.getD i 0) (ns.length-1)) t) {s with heap:=h',toks:=tk}):
  wpAny (model prog w) A (call (.builtin "max") [.ref d]) Q E s:=by
 have kQ:d<s.heap.objs.size:=zA.lt_size;have hlen:ay.length=ns.length:=by have:=We List.length hk;simpa using this
 have KS:0<ay.length:=by
  rw[hlen];cases ns with
  |nil=>exact absurd rfl GD
  |cons=>exact ZM _
 have key:∀i v,(∃k x,ay[i]?=some (k,x)/\(L2.bG prog w).is k v=true)->∃t,v=.int (ns.getD i 0) t:=by
  rintro i v ⟨k,x,e,hv⟩;have e1:(ay.map (·.1))[i]?=some k:=by rw[VB,e];rfl
  rw[hk,VB]at e1;cases z:ns[i]? with
  |none=>rw[z]at e1;cases e1
  |some n=>
   rw[z]at e1;cases e1;rw[VW,z];cases v with
   |int m t=>
    have:m=n:=by have OL:L2.nr (.inl n) (.int m t)=true:=hv;unfold L2.nr at OL;exact Wu.mp OL
    exact⟨t,by rw[this];rfl⟩
   |_=>exact absurd hv (by intro z;cases z)
 refine call_max_walk (wpAny_pyIter_dict lo zA ?_);refine⟨_,[_,d],[_],_,_,_,_,rfl,Walks.dictKeys (A:=A.in1) (knd:=L2.bG prog w) hh _ d (VN kQ) ay ep,
  ⟨⟨_,VA _ rfl,rfl,rfl⟩,zA.push _⟩,fun c hc=>?_,KS,CmpOf.ints_gt (fun i=>ns.getD i 0) key,fun v h' tk hP Tr=>?_⟩
 .show c<(s.heap.push _).objs.size;rw[Wz];rcases VH.mp hc with rfl|hc
  .exact V? _
  .rcases VH.mp hc with rfl|hc
   .exact XC kQ
   .cases hc
 .have hold:∀c o,s.heap.get? c=some o->h'.get? c=some o:=fun c o e=>by
   refine Tr c o (fun hm=>?_) (Vj _ e);rcases VH.mp hm with e1|hm
   .have:=Vu e;rw[e1]at this;exact VY _ this
   .cases hm
  obtain⟨t,rfl⟩:=key _ _ hP;have ev:=jl (fun i=>ns.getD i 0) (ay.length-1);dsimp only at ev⊢;rw[ev,hlen];exact h t h' tk hold
end
end SO
namespace L2
open PySem.Spec PyProof.Rows
section
variable{X:Cx}
theorem vU(hh:X.A.handled=none):bc X (.builtin "max") (fun xs H Q=>∃a ns,xs=[.ref a]/\jz X.K H a (ns.map V.int)/\ns≠[]/\Q (.int (SO.g8 (fun i=>ns.getD i 0) (ns.length-1))) H):=by rintro ag s σ H xs ws Q I r ⟨a,ns,rfl,ha,GD,q⟩;obtain⟨u,rfl,ru⟩:=vals1 r;cases ru;obtain⟨aD,r1,p1,_⟩:=I.tuple ha;exact SO.A7 hh (by obtain⟨o,h1,h2,n,h3⟩:=p1;exact⟨o,h1,h2,n,h3⟩) (intsAre_of r1) GD fun t h' tk hk=>⟨.int _,H,I.kept hk,⟨_,rfl⟩,q⟩
theorem uq(hh:X.A.handled=none):bc X (.builtin "max") (fun xs H Q=>∃(d:_V)(ay:List (bD×V))(ns:_O),xs=[.ref d]/\Rd H d (.dK ay)/\ay.map (·.1)=ns.map Sum.inl/\ns≠[]/\Q (.int (SO.g8 (fun i=>ns.getD i 0) (ns.length-1))) H):=by
 rintro ag s σ H xs ws Q I r ⟨d,ay,ns,rfl,hd,hk,GD,q⟩;obtain⟨u,rfl,ru⟩:=vals1 r;cases ru;obtain⟨z,lo,vs,rel,dd⟩:=nC I.bH hd;obtain⟨ep,zA⟩:=dd.dictAt;have e:vs.map (·.1)=ay.map (·.1):=by
  have:∀{a:List (bD×V)}{b:List (bD×_T)},KV a b->b.map (·.1)=a.map (·.1):=by
   intro a b r
   induction r with
   |nil=>rfl
   |cons h _ ih=>rw[Vl,Vl,ih,h.1]
  exact this rel
 exact SO.DP hh lo zA (e.trans hk) GD fun t h' tk hk=>⟨.int _,H,I.kept hk,⟨_,rfl⟩,q⟩
theorem A8:bc X (.builtin "len") (fun xs H Q=>∃a ay,xs=[V.ref a]/\Rd H a (.dK ay)/\Q (.int ay.length) H):=by
 intro ag s σ H xs us Q I r h;obtain⟨a,ay,rfl,ha,q⟩:=h;obtain⟨u,rfl,ru⟩:=vals1 r;cases ru;obtain⟨z,lo,vs,rel,o,es,ep,h1,h2,h3,h4⟩:=nC I.bH ha;have hp:=h4.2.1;have el:es.size=ay.length:=by have e1:=hp.length;rw[<-rel.length]at e1;simpa using e1
 refine SO.GO lo ⟨o,h1,h2.1,h3⟩ (by rw[VQ]at z;lia) ⟨.int ay.length,H,I.tok _,⟨_,by rw[el]⟩,q⟩
theorem GX:c5 X (binaryOp .LShift) (rI (fun i j=>0<=j/\j<=100000/\i.natAbs<2 ^ 100000) fun i j=>.int (i*2 ^ j.toNat)):=LF fun i j _ _ _ _ _ hc q=>lshift_int hc.1 (by
  have h1:=intBits_le_iff.mpr hc.2.2;have h2:=hc.2.1;have h3:(2:Int) ^ 27=134217728:=by decide
  rw[h3];lia) q
end
end L2
namespace DL
section
variable{prog:_X}{w:World}{A:_W}{E:_K}{s:_U}
variable{K:Type}[DecidableEq K]{knd:KeyKind prog w K}
def ke(knd:KeyKind prog w K)(h:Heap)(u:_T)(q:K×_T):Prop:=
 ∃a o aD n key,u=.ref a/\h.get? a=some o/\o.cls=.type "tuple" /\ o.data=.seq aD n/\aD.toList=[key,q.2]/\knd.is q.1 key=true
theorem ke.mono{h h':Heap}{u:_T}{q:K×_T}(x:ke knd h u q)(hk:Keeps h h'):ke knd h' u q:=by obtain⟨a,o,aD,n,key,e,h1,h2,h3,h4,h5⟩:=x;exact⟨a,o,aD,n,key,e,hk _ _ h1,h2,h3,h4,h5⟩
def ur(qs:List (K×_T)):List (K×_T)->List (K×_T):=fun xs=>qs.foldl (fun xs q=>stored xs q.1 q.2) xs
theorem vV(xs:List (K×_T))(q:K×_T):(stored xs q.1 q.2).length<=xs.length+1:=by
 unfold stored;split
 .rw[Vi];lia
 .rw[Vt];exact Vp _
theorem N0{B:Heap}{l d it:_V}{items:Array _T}{R:Result->_U->Prop}(hh:A.in1.handled=none)(hl:B.IsList l items)(hd:B.get? d=none)(hi:B.get? it=none)(Q9:d≠it):∀(qs:List (K×_T))(j:Nat)(xs:List (K×_T))(s:_U),j+qs.length=items.size ->
  (∀(i:Nat)q,qs[i]?=some q->∃u,items[j+i]?=some u/\ke knd B u q)->Keeps B s.heap->s.heap.IsListIter it l j->s.heap.DictOf knd d xs->xs.length+qs.length<=sizeLine ->
  (∀h' tk,Keeps B h'->h'.DictOf knd d (ur qs xs)->R (.ok (.ret .none)) {s with heap:=h',toks:=tk}) ->
  codeAny (model prog w) A (.builtin "dict.update.loop" ⟨[.ref d,.ref it,rawInt (j:Int),.none],[]⟩) R s:=by
 have keep:∀{h h':Heap}{x:_V},Keeps B h->B.get? x=none->Heap.SameBut x h h'->Keeps B h':=fun hk hx hs b u e=>(hs.2 b (fun z=>by rw[z,hx]at e;cases e)).trans (hk b u e);intro qs
 induction qs with
 |nil=>
  intro j xs s hj hq hk hit Q_ hz hR;refine X? pZ ?_;rw[Xp iG _];show wpAny _ A.in1 (pyNext (.ref it) >>= _) _ _ s;obtain⟨ol,Q!,GY⟩:=id hl;refine Vh (_B hh hit ⟨ol,hk _ _ Q!,GY⟩ (Array.getElem?_eq_none (by simp at hj;lia)) fun h' hx=>?_);exact Vh (Vr (Vr (hR h' s.toks (fun b u e=>hx b u (fun z=>by rw[z,hi]at e;cases e) (hk b u e)) (Q_.extBut hx Q9))))
 |cons q qs ih=>
  intro j xs s hj hq hk hit Q_ hz hR;obtain⟨u,hu0,hp⟩:=hq 0 q rfl;refine X? pZ ?_;rw[Xp iG _];show wpAny _ A.in1 (pyNext (.ref it) >>= _) _ _ s;obtain⟨ol,Q!,GY⟩:=id hl;refine Vh (_s hit ⟨ol,hk _ _ Q!,GY⟩ hu0 fun h1 Q? ck=>?_);have k1:Keeps B h1:=keep hk hi ck;obtain⟨a,o,aD,n,key,rfl,g1,g2,g3,g4,g5⟩:=hp.mono k1;have d1:h1.DictOf knd d xs:=Q_.extBut ck.extBut Q9;dsimp only;refine Vh (WD (Vh (XS ?_)));unfold Builtin.Dict.pairItems;refine Vh (wpAny_typeOf (T:="tuple") ⟨o,g1,g2⟩ ?_);rw[Vo (by decide)];refine Vh (Wn g1 g3 ?_);refine Vr ?_;show wpAny _ _ (match aD.toList with|[k,v]=>_|l=>_) _ _ _;rw[g4];dsimp only;refine WD (wpAny_dictSet_pairs (hsz:=by simp at hz;lia) g5 d1 fun h2 d2 cL=>?_);have k2:Keeps B h2:=keep k1 hd cL;refine Vr ⟨X6 iG _,?_⟩;have Ra:h2.IsListIter it l (j+1):=by obtain⟨oi,i1,r⟩:=Q?;exact⟨oi,(cL.2 it (WV Q9)).trans i1,r⟩
  have:=ih (j+1) _ {s with heap:=h2,toks:=s.toks+1} (by simp at hj;lia) (fun i q' e=>by
   have:=hq (i+1) q' e;rwa [show j+(i+1)=j+1+i by lia]at this) k2 Ra d2 (by have:=vV xs q;simp at hz;lia) fun h' tk a b=>hR h' tk a b
  exact this
theorem N1{l:_V}{o:Obj}{items:Array _T}{n:Nat}{qs:List (K×_T)}{Q:_K}(hh:A.handled=none)(ho:s.heap.get? l=some o)(hc:o.cls=.type "list")(rq:o.data=.seq items n)(Rb:o.dict=none)(hq:∀(i:Nat)q,qs[i]?=some q->∃u,items[i]?=some u/\ke knd s.heap u q)(hlen:qs.length=items.size)(hz:qs.length<=sizeLine)(h:∀h' tk,Keeps s.heap h'->h'.DictOf knd s.heap.objs.size (ur qs [])->Q (.ref s.heap.objs.size) {s with heap:=h',toks:=tk}):wpAny (model prog w) A (call (.type "dict") [.ref l]) Q E s:=by
 refine callType_codes (Q₁:=fun obj s₁=>obj=.ref s.heap.objs.size/\s₁ = {s with heap:=s.heap.push {cls:=.type "dict",data:=.dict #[]} }) F.kt_called_dict (F.kt_typeCall_dict_1 _) F.entry_dict_init (kt_code_dict_new _ ⟨rfl,rfl⟩) ?_;rintro obj s₁ ⟨rfl,rfl⟩;obtain⟨h0,e0⟩:∃h0,h0=s.heap.push {cls:=.type "dict",data:=.dict #[]}:=⟨_,rfl⟩
 have new:h0.DictOf knd s.heap.objs.size []:=by rw[e0];exact Heap.DictOf.new s.heap
 have k0:Keeps s.heap h0:=fun b u e=>by rw[e0];exact Vj _ e
 have T:({s with heap:=h0}:_U).TypeIs (.ref s.heap.objs.size) "dict":=Heap.DictOf.typeIs (s:={s with heap:=h0}) new;rw[<-e0];refine⟨T,F.args_dict_init_2 _ _,?_⟩;unfold Builtin.«dict.__init__»;refine Vh ?_;unfold Builtin.Dict.selfAndRest;refine Vh (_C T ?_);show wpAny _ _ (pure (s.heap.objs.size,[Value.ref l])) _ _ _;refine Vr ?_;show wpAny _ _ (Builtin.Dict.updateFrom "dict.__init__" s.heap.objs.size (.ref l) [] .none) _ _ _;unfold Builtin.Dict.updateFrom;refine Vh (wpAny_typeOf (T:="list") ⟨o,k0 _ _ ho,hc⟩ ?_);rw[Vo (by decide)];refine Vh (A3 (s:={s with heap:=h0}) (k0 _ _ ho) hc rq Rb hh fun h1 tk k1=>?_);rw[Vo (show(none:_Q).isNone=true from rfl)];refine Vh (X2 ?_);have hl:s.heap.IsList l items:=⟨o,ho,hc,n,rq⟩
 have Rc:Keeps s.heap h1:=fun b u e=>k1 b u (k0 b u e);refine Vh (XT (s:={s with heap:=h1,toks:=tk}) (items:=items) ⟨o,Rc _ _ ho,hc,n,rq⟩ ?_);have fresh:s.heap.get? h1.objs.size=none:=by
  cases z:s.heap.get? h1.objs.size with
  |none=>rfl
  |some u=>exact absurd (Vu (Rc _ _ z)) (VY _)
 have lt:s.heap.objs.size<h1.objs.size:=by obtain⟨q,_,_,hq,_⟩:=new;exact Vu (k1 _ _ hq)
 refine Vr ⟨X6 iG _,?_⟩;obtain⟨h2,e2⟩:∃h2,h2=h1.push {cls:=.type "list_iterator",data:=.fields #[.ref l,.int 0 0]}:=⟨_,rfl⟩
 have k2:∀b u,h1.get? b=some u->h2.get? b=some u:=fun b u e=>by rw[e2];exact Vj _ e
 have:=N0 (knd:=knd) (A:=A.in1) (B:=s.heap) (l:=l) (d:=s.heap.objs.size) (it:=h1.objs.size) (items:=items) (R:=wants (fun r s₂=>r=.none/\Q (.ref s.heap.objs.size) s₂) E) hh hl (Heap.get?_none_of_le (Vp _)) fresh (VN lt)
  qs 0 [] {s with heap:=h2,toks:=tk} (by lia) (fun i q e=>by rw[Wb];exact hq i q e) (fun b u e=>k2 b u (Rc b u e)) ⟨_,by rw[e2];exact VA _ rfl,rfl,rfl⟩ (new.extBut (b:=h1.objs.size) (fun b u _ e=>k2 b u (k1 b u e)) (VN lt)) (by simpa using hz) (fun h' O_ a b=>⟨rfl,h h' O_ a b⟩)
 rw[e2]at this;exact this
end
end DL
namespace L2
open PySem.Spec PyProof.Rows
section
variable{X:Cx}{ag:_M}{σ:St}{H:Hp}{s:_U}{a:_V}{ay:List (bD×V)}
theorem A9(I:aI X ag σ H s)(e:H a=some (.dK ay)):∃o,s.heap.get? a=some o/\aI X ag σ (upd H a (.gE o (.dK ay))) s:=by obtain⟨z,hd,vs,rel,dd⟩:=Cm I.bH e;obtain⟨o,es,ep,ho,r⟩:=id dd;exact⟨o,ho,oS (h':=s.heap) (t':=s.toks) (ob:=.gE o (.dK ay)) I (by rw[e];exact True.intro) ⟨rfl,fun _ _=>rfl⟩ ⟨o,ho⟩ ⟨ho,z,hd,vs,rel,dd⟩⟩
theorem KU{κ:Type}:∀{ay:List (κ×V)}{vs:List (κ×_T)},KV ay vs->∀{i:Nat}{k:κ}{x:V},ay[i]?=some (k,x)->∃u,vs[i]?=some (k,u)/\bb x u:=by
 intro ay vs r
 induction r with
 |nil=>intro i k x e;cases e
 | @cons p q ps qs h _ ih=>
  intro i k x e;cases i with
  |zero=>
   cases e;obtain⟨q1,q2⟩:=q;obtain⟨h1,h2⟩:=h;have h1:k=q1:=h1;exact⟨q2,by rw[h1];rfl,h2⟩
  |succ i=>exact ih e
theorem KW{P:_X}{w:World}{k:bD}{u:_T}(h:(bG P w).is k u=true):bb (kV k) u:=by
 rcases cq (k:=k) (v:=u) h with⟨i,t,rfl,rfl⟩|⟨x,t,rfl,rfl⟩
 .exact⟨t,rfl⟩
 .exact⟨t,rfl⟩
end
def N2(d:_V)(o:Obj):It:=
 ⟨fun i H=>∃ay k x,H d=some (.gE o (.dK ay))/\ay[i]?=some (k,x),
  fun i H v H'=>∃p k x,v=.ref p/\H p=none/\H'=upd H p (.tup [kV k,x])/\∀ay,H d=some (.gE o (.dK ay))->ay[i]?=some (k,x),
  fun i H=>∃ay,H d=some (.gE o (.dK ay))/\ay.length<=i⟩
theorem DQ{P:_X}{w:World}{H:Hp}{h:Heap}{d:_V}{o:Obj}{es:Array DictEntry}{ep:Nat}{ay:List (bD×V)}(ho:o.data=.dict es ep)(ok:g6 P w H h)(hd:H d=some (.gE o (.dK ay))):∃vs,KV ay vs/\h.DictAt (bG P w) d vs ep/\vs.length=es.size:=by
 obtain⟨Rf,z,hdm,vs,rel,dd⟩:=(show bE P w H h d (.gE o (.dK ay))from ok d _ hd)
 obtain⟨OH,zA⟩:=dd.dictAt;obtain⟨o',EN,tP,bQ,vW,Tr,hp',Mb⟩:=id zA;obtain rfl:o=o':=by rw[Rf]at tP;exact VO tP
 rw[ho]at vW;injection vW with e1 e2;subst e1 e2;refine⟨vs,rel,zA,?_⟩;have:=hp'.length;simpa using this.symm
theorem A_{prog:_X}{w:World}{A:_W}{E:_K}{s:_U}{it d:_V}{i n ep:Nat}{ok ov:_T}{Q:_K}(he:IsItemIter s.heap it d i n ep ok ov)(h:Q (.ref it) s):wpAny (model prog w) A (pyIter (.ref it)) Q E s:=by
 have hT:s.TypeIs (.ref it) "dict_itemiterator":=⟨_,he,rfl⟩
 refine wpAny_pyIter_slot hT ZF (Ws ZF hT W.kcp_entry ?_ (F.args_dict_itemiterator_iter_1 _));show wpAny _ _ (ret (.ref it)) _ _ s;exact Vr ⟨_,rfl,"dict_itemiterator",_,hT,F.slot_dict_itemiterator_next.lookup,h⟩
theorem yc{P:_X}{w:World}{K:_N}{elts:List Expr}{kt:Nat}{tp:Pos}{d it:_V}{o:Obj}{es:Array DictEntry}{ep:Nat}(ho:o.data=.dict es ep):
  Turn P w K (.Tuple elts kt tp) (N2 d o) [it] it (fun i h=>∃ok ov,IsItemIter h it d i es.size ep ok ov) where
 mem:=by simp
 obj:=fun i h⟨ok,ov,he⟩c hc=>by
  have bQ:c=it:=by simpa using hc
  subst bQ;exact⟨_,he,fun v q=>by have q':Data.fields _=Data.cell v:=q;cases q'⟩
 keep:=fun i h h'⟨ok,ov,he⟩k=>⟨ok,ov,k it (by simp) _ he⟩
 item:=by
  intro X hP hw hK hc i ag s σ H E I hf st hg;subst hP hw hK;obtain⟨ok,ov,he⟩:=st;obtain⟨ay,k,x,hd,ex⟩:=hg;obtain⟨vs,rel,zA,hl⟩:=DQ ho I.bH hd;obtain⟨ux,Nd,rx⟩:=KU rel ex;have fz:=hf it (by simp);refine wpAny_pyNext_items_item (by rw[hl];exact he) zA Nd fun key h' Jm a1 a3 a4 a5=>⟨_,rfl,?_⟩
  have hT:H s.heap.objs.size=none:=I.bH.fresh (Vp _);have JO:∀c∈[it],H c=none:=fun c bQ=>(hf c bQ).1;have kp:∀c u,c ∉ [it]->s.heap.get? c=some u->h'.get? c=some u:=fun c u bQ q=>a5 c u (fun z=>bQ (by simp[z])) q;have se:∀c u,H c=some u->c ∉ [it]:=fun c u q bQ=>by rw[JO c bQ]at q;cases q
  have bH:g6 X.prog X.w (upd H s.heap.objs.size (.tup [kV k,x])) h':=fun c u q=>by
   by_cases HS:c=s.heap.objs.size
   .subst HS;rw[a!]at q;cases q;exact⟨by show 2<=sizeLine;decide,[key,ux],.cons (KW Jm) (.cons rx .nil),_,a3,rfl,_,rfl⟩
   .rw[aM HS]at q;refine(I.bH c u q).nW (fun d v hd z=>kp d v ?_ z) (fun d z=>by rw[aM (aN z hT)];exact z) fun d zs z=>by rw[aM (aN z hT)];exact z
    rcases hd with q'|q'
    .rw[q'];exact se c u q
    .exact se d _ q'
  have un:Un (gG X.stack) [it] H (upd H s.heap.objs.size (.tup [kV k,x])) s.heap h':=
   ⟨fun c o q n _ bQ=>kp c o bQ q,fun c o q n _ bQ=>⟨o.slots,kp c o bQ q⟩,fun c o q n bQ=>by rw[aM (VN (Vu q))];exact n,fun c o q bQ=>⟨o,kp c o bQ q⟩,
    fun c zs q=>by rw[aM (aN q hT)];exact q,fun c o u q=>by rw[aM (aN q hT)];exact q,fun c ps q=>⟨#[],by rw[aM (aN q hT),q];simp⟩⟩
  have I1:aI X ag σ (upd H s.heap.objs.size (.tup [kV k,x])) {s with heap:=h'}:=I.vh (s':={s with heap:=h'}) rfl un bH I.bare fun c bQ=>by obtain⟨f0,f1,f2,f3,f4,f5⟩:=hf c bQ;exact⟨f3,f1,f4,f5⟩
  have kQ:it<s.heap.objs.size:=Vu he;have HU:∀c∈[it],(upd H s.heap.objs.size (.tup [kV k,x])) c=none:=fun c bQ=>by
   have CD:c=it:=by simpa using bQ
   subst CD;rw[aM (VN kQ)];exact(hf c bQ).1
  refine wpAny_letOwnedTupleGo_items a1 fun CF JS sb=>?_;obtain⟨f0,f1,f2,f3,f4,f5⟩:=fz;have I2:aI X ag σ (upd H s.heap.objs.size (.tup [kV k,x])) {s with heap:=CF}:=I1.turned (s:={s with heap:=h'}) (t':=s.toks) (it:=it) (fun c o bQ q=>(sb.2 c bQ).trans q) (HU it (by simp)) f1 f3 f4 f5;exact⟨.ref s.heap.objs.size,_,I2,rfl,⟨_,k,x,rfl,hT,rfl,fun zs hs=>by rw[hd]at hs;cases hs;exact ex⟩,⟨_,_,by rw[<-hl];exact JS⟩,HU⟩
 done:=by intro X hP hw hK hc i ag s σ H E I hf st hg;subst hP hw hK;obtain⟨ok,ov,he⟩:=st;obtain⟨ay,hd,hl0⟩:=hg;obtain⟨vs,rel,zA,hl⟩:=DQ ho I.bH hd;obtain⟨f0,f1,f2,f3,f4,f5⟩:=hf it (by simp);exact wpAny_pyNext_items_end (I.ok.hd hc) (by rw[hl];exact he) zA (V' (by rw[<-rel.length];exact hl0)) fun h' eb=>⟨rfl,I.turned (t':=s.toks) (fun b o hb q=>eb b o hb q) f0 f1 f3 f4 f5⟩
 self:=fun _ _ _ _ _ st h=>by obtain⟨ok,ov,he⟩:=st;exact A_ he h
section
variable{X:Cx}{elts:List Expr}{kt:Nat}{tp apos br:Pos}{o:Expr}{td:TE}
def GZ(td:TE):TI:=fun σ H R=>td σ H fun x H1=>∃a ay,x=.ref a/\((H1 a=some (.dK ay)/\∀ob,R (N2 a ob) (upd H1 a (.gE ob (.dK ay))))\/∃ob,H1 a=some (.gE ob (.dK ay))/\R (N2 a ob) H1)
theorem DR(ho:PE X o td)(fZ:attributeBase o "items" X.env (eval o X.env)=eval o X.env:=by rfl)(f_:(apos.endLine==br.line)=true:=by rfl):
  PI X (.Tuple elts kt tp) (.Call (.Attribute o "items" apos) [] [] br) (GZ td):=by
 intro ag s σ H R I h;refine _k fZ f_ (cJ (ho ag s σ H _ I h) fun v s1⟨x,H1,I1,r1,a,ay,ex,q1⟩=>?_);subst ex;obtain rfl:v=Value.ref a:=r1;have fin:∀(ob:Obj)(H2:Hp),H2 a=some (.gE ob (.dK ay))->aI X ag σ H2 s1->R (N2 a ob) H2->s1.TypeIs (.ref a) "dict" /\ (∀b,Value.ref a=.ref b->∃ob,s1.heap.get? b=some ob/\ob.dict=none) /\
   wpAny (model X.prog X.w) X.A (call (.builtin "dict.items") [.ref a]) (fun v s1=>wpAny (model X.prog X.w) X.A (pyIter v) (OI X ag σ (.Tuple elts kt tp) R) X.xe s1) X.xe s1:=by
  intro ob H2 e2 I2 q;obtain⟨t1,t2,lo⟩:=xr I2 (.inl ⟨ay,.inr ⟨ob,e2⟩⟩);refine⟨t1,t2,?_⟩;obtain⟨Rf,z,hdm,vs,rel,dd⟩:=(show bE X.prog X.w H2 s1.heap a (.gE ob (.dK ay))from I2.bH a _ e2)
  obtain⟨o',es,ep,tP,bQ,vW,r'⟩:=id dd;obtain rfl:ob=o':=by rw[Rf]at tP;exact VO tP
  obtain⟨pD,aad,zA,hl⟩:=DQ vW I2.bH e2;refine YL Yl t1 PySem.F.entry_dict_items (PySem.F.args_dict_items_1 _) (meets_dict_items (bG X.prog X.w) a lo) ⟨⟨vs,dd⟩,?_⟩;have I3:aI X ag σ H2 {s1 with heap:=s1.heap.push {cls:=.type "dict_items",data:=.fields #[.ref a]} }:=I2.kept (t':=s1.toks) fun b o e=>Vj _ e;refine wpAny_pyIter_items ⟨_,VA _ rfl,rfl,rfl⟩ (zA.push _) ?_;obtain⟨h3,e3⟩:∃h3,h3=s1.heap.push {cls:=.type "dict_items",data:=.fields #[.ref a]}:=⟨_,rfl⟩
  rw[<-e3]at I3⊢;have I4:aI X ag σ H2 {s1 with heap:=h3.push {cls:=.type "dict_itemiterator",data:=.fields #[.none,.bool false,.ref a,.int 0 0,.int pD.length 0,.int ep 0,.none,.none]} }:=I3.kept (s:={s1 with heap:=h3}) (t':=s1.toks) fun b o e=>Vj _ e;refine⟨h3.objs.size,[h3.objs.size],_,_,H2,rfl,I4,yc vW,⟨.none,.none,?_⟩,fun c hc=>?_,q⟩
  .rw[<-hl];exact VA _ rfl
  .have e:c=h3.objs.size:=by simpa using hc
   subst e;exact I3.wZ (s:={s1 with heap:=h3}) (Vp _) (I3.bH.fresh (Vp _))
 rcases q1 with⟨e,q⟩|⟨ob,e,q⟩
 .obtain⟨ob,hob,I2⟩:=A9 I1 e;obtain⟨t1,t2,t3⟩:=fin ob _ a! I2 (q ob);exact⟨"dict","dict.items",Xw,Yl,ZA,t1,t2,WM rfl (YN t3)⟩
 .obtain⟨t1,t2,t3⟩:=fin ob H1 e I1 q;exact⟨"dict","dict.items",Xw,Yl,ZA,t1,t2,WM rfl (YN t3)⟩
end
def Rg(H:Hp)(v:V)(q:bD×V):Prop:=∃b,v=.ref b/\H b=some (.tup [kV q.1,q.2])
def nK(jF ay:List (bD×V)):List (bD×V):=jF.foldl (fun a q=>putK a q.1 q.2) ay
def KY(K:_N):List V->Hp->VK->Prop:=fun xs H Q=>∃a vs jF,xs=[.ref a]/\iY K H a vs/\Paired (Rg H) vs jF/\∀p,H p=none->Q (.ref p) (upd H p (.dK (nK jF [])))
theorem KZ{jF:List (bD×V)}{qs:List (bD×_T)}(h:KV jF qs):∀{ay:List (bD×V)}{xs:List (bD×_T)},KV ay xs->KV (nK jF ay) (DL.ur qs xs):=by
 induction h with
 |nil=>exact fun r=>r
 | @cons p q ps qs a _ ih=>
  intro ay xs r;have:=r.put p.1 a.2;exact ih (show KV (putK ay p.1 p.2) (stored xs q.1 q.2)from by rw[<-a.1];exact this)
theorem sV:∀(jF ay:List (bD×V)),(nK jF ay).length<=ay.length+jF.length
 |[],ay=>Vp _
 |p::ps,ay=>by have h1:=sV ps (putK ay p.1 p.2);have h2:=ja ay p.1 p.2;show(nK ps (putK ay p.1 p.2)).length<=_;rw[Vn];lia
theorem yd{X:Cx}(hh:X.A.handled=none):bc X (.type "dict") (KY X.K):=by
 intro ag s σ H xs us Q I rx h;obtain⟨a,vs,jF,rfl,hs,pr,q⟩:=h;obtain⟨u,rfl,r1⟩:=vals1 rx;cases r1;obtain⟨aD,rv,⟨o,n,ho,hc,Rb,rq⟩,hz⟩:=I.list hs;have key:∀{vs:List V}{jF:List (bD×V)}{aD:_P},Paired (Rg H) vs jF->aV vs aD->∃qs:List (bD×_T),qs.length=aD.length/\KV jF qs/\∀(i:Nat)q,qs[i]?=some q->∃u,aD[i]?=some u/\DL.ke (bG X.prog X.w) s.heap u q:=by
  intro vs jF aD p
  induction p generalizing aD with
  |nil=>
   intro v;cases v;exact⟨[],rfl,.nil,fun i q e=>by cases e⟩
  | @cons x y xs ys b _ ih=>
   intro v;cases v with
   |cons v1 v2=>
    obtain⟨qs,l,k,al⟩:=ih v2;obtain⟨b,rfl,hb⟩:=b;cases v1;obtain⟨_,it2,LK,o2,g1,g2,n2,g3⟩:=(show bE X.prog X.w H s.heap b (.tup [kV y.1,y.2])from I.bH b _ hb)
    obtain⟨w1,w2,rfl,z1,z2⟩:=vals2 LK;refine⟨(y.1,w2)::qs,by rw[Vn,Vn,l],.cons ⟨rfl,z2⟩ k,fun i q e=>?_⟩;cases i with
    |zero=>
     cases e;exact⟨_,rfl,b,o2,_,n2,w1,rfl,g1,g2,g3,rfl,sA z1⟩
    |succ i=>exact al i q e
 obtain⟨qs,ql,kt,al⟩:=key pr rv;have lv:vs.length=aD.length:=rv.length;have lp:jF.length=qs.length:=KV.length kt;refine DL.N1 (knd:=bG X.prog X.w) (qs:=qs) hh ho hc rq Rb (fun i q e=>?_) (by rw[ql,Vx]) (by lia) fun h' tk kp dd=>?_
 .obtain⟨u,e1,e2⟩:=al i q e;exact⟨u,by rw[Xk];exact e1,e2⟩
 .have hp:H s.heap.objs.size=none:=I.bH.fresh (Vp _);have hl:=sV jF [];exact⟨.ref s.heap.objs.size,_,I.laid (t':=tk) kp (Vp _) (show bE X.prog X.w _ h' _ (.dK (nK jF [])) from⟨by simp at hl;lia,VV.mpr (WV (VN I.big)),_,KZ kt .nil,dd⟩),rfl,q _ hp⟩
end L2
namespace MN
open PySem.Spec L2
open PyProof.Rows hiding St kindOf
def gY:bD->ak
 |.inl i=>.int i
 |.inr x=>.str x
def ly:List ak->Option (List (bD×ak))
 |[]=>some []
 |.tup [.int k,v]::r=>(ly r).map ((.inl k,v):: ·)
 |_=>none
def e!(l a:List (bD×ak)):List (bD×ak):=l.foldl (fun a q=>mI a q.1 q.2) a
def ye:FN
 |[.loc n],st=>match ai st n with
  |some us=>match ly us with
   |some l=>.ok (.loc st.length) (st++[.dK (e! l [])])
   |none=>.bad
  |none=>.bad
 |_,_=>.bad
section
variable{K:_N}{ρ:_R}{H:Hp}
theorem vX:∀{us:List ak}{vs:List V}{l:List (bD×ak)},aT K ρ H us vs->ly us=some l->∃jF,Paired (Rg H) vs jF/\dG K ρ H l jF
 |[],vs,l,r,h=>by cases h;rw[r.dE];exact⟨[],.nil,dG.nil⟩
 |u::us,vs,l,r,h=>by
  obtain⟨v,pD,rfl,r1,r2⟩:=r.bC;unfold ly at h;split at h
  .rename_i e;cases e
  .rename_i k x sI e;cases e;cases z:ly us with
   |none=>rw[z]at h;cases h
   |some l'=>
    rw[z]at h;cases h;obtain⟨jF,p1,p2⟩:=vX r2 z;obtain⟨b,zs,rfl,hb,rb⟩:=r1.AG;obtain⟨z1,z2,rfl,rk,rx⟩:=rb.QO;rw[rk.bK]at hb;exact⟨(.inl k,z2)::jF,.cons ⟨b,rfl,hb⟩ p1,dG.cons rx p2⟩
  .cases h
theorem vY:∀{l:List (bD×ak)}{jF:List (bD×V)}{a:List (bD×ak)}{b:List (bD×V)},dG K ρ H l jF->dG K ρ H a b->dG K ρ H (e! l a) (nK jF b)
 |[],jF,a,b,p,r=>by rw[p.dE];exact r
 |(k,u)::l,jF,a,b,p,r=>by obtain⟨v,l',rfl,r',p'⟩:=p.bC;show dG K ρ H (e! l (mI a k u)) (nK l' (putK b k v));exact vY p' (r.put k r')
end
theorem yf{X:Cx}{E:XK}(hh:X.A.handled=none)(hu:X.A.units+64<cLine):bc X (.type "dict") (cM (wo X) E ye):=by
 refine bc.imp (yd hh) ?_;rintro xs H Q ⟨ρ,st,us,sr,r,h⟩;unfold ye at h;split at h
 .rename_i n;obtain⟨v,rfl,r1⟩:=r.qW;obtain⟨a,rfl,ha⟩:=r1.cD;split at h
  .rename_i ws e;split at h
   .rename_i l hl;obtain⟨vs,hs,rv⟩:=a_ sr e ha;obtain⟨jF,p1,p2⟩:=vX rv hl;refine⟨a,vs,jF,rfl,hs,p1,fun p hp=>?_⟩;have s:=bW (o:=.dK (nK jF [])) hp;obtain⟨k1,k2,k3⟩:=k8 sr hp (c:=.dK (e! l [])) ⟨_,a!,(vY p2 dG.nil).mono (aG.snoc p s)⟩;exact h _ _ _ k1 k2 k3
   .exact h.elim
  .exact h.elim
 .exact h.elim
def lB:F2:=ou fun i j st=>if 0<=j/\j<=100000/\i.natAbs<2 ^ 100000 then .ok (.int (i*2 ^ j.toNat)) st else .bad
def Io:F2:=ou fun i j st=>.ok (.int (Builtin.bitOr i j)) st
def uu:FN:=fun us st=>match us with
 |[.loc n]=>sumF [.loc n] st
 |_=>DH us st
def rA:FN
 |[.tup us],st=>match dP us with
  |some (n::ns)=>.ok (.int (SO.g8 (fun i=>(n::ns).getD i 0) ns.length)) st
  |_=>.bad
 |_,_=>.bad
section
variable{X:Cx}{E:XK}
theorem G0:c5 X (binaryOp .LShift) (rM (wo X) E lB):=by
 refine c5.imp GX ?_;rintro x y H Q ⟨ρ,st,u,w,sr,r1,r2,h⟩;obtain⟨i,j,rfl,rfl,h0⟩:=e_ h;by_cases hj:0<=j/\j<=100000/\i.natAbs<2 ^ 100000
 .rw[Vo hj]at h0;exact⟨i,j,r1.bK,r2.bK,hj,bP sr h0⟩
 .rw[Vv hj]at h0;exact h0.elim
theorem K0:c5 X (binaryOp .BitOr) (rM (wo X) E Io):=by refine c5.imp Mt ?_;rintro x y H Q ⟨ρ,st,u,w,sr,r1,r2,h⟩;obtain⟨i,j,rfl,rfl,q⟩:=e_ h;exact⟨i,j,r1.bK,r2.bK,bP sr q⟩
theorem A!(hh:X.A.handled=none):bc X (.builtin "sum") (cM (wo X) E uu):=by
 intro ag s σ H xs ws Q I r h;obtain⟨ρ,st,us,sr,r',h'⟩:=h;unfold uu at h';split at h'
 .exact AX hh ag s σ H xs ws Q I r ⟨ρ,st,_,sr,r',h'⟩
 .exact A5 hh ag s σ H xs ws Q I r ⟨ρ,st,_,sr,r',h'⟩
theorem yg(hh:X.A.handled=none):bc X (.builtin "max") (cM (wo X) E rA):=by
 refine bc.imp (vU hh) ?_;rintro xs H Q ⟨ρ,st,us,sr,r,h⟩;unfold rA at h;split at h
 .rename_i ws;obtain⟨v,rfl,r1⟩:=r.qW;split at h
  .rename_i n ns hk;rw[eQ hk]at r1;obtain⟨a,vs,rfl,ha,ra⟩:=r1.fe;rw[aT.iD ra]at ha;exact⟨a,n::ns,rfl,ha,by simp,bP sr h⟩
  .exact h.elim
 .exact h.elim
end
end MN
namespace MN
open PySem.Spec L2
open PyProof.Rows hiding St kindOf
def ei(st:ae)(n:Nat):Option (List (bD×ak)):=match st[n]? with
 |some (.dK ay)=>some ay
 |some (.fd ay)=>some ay
 |_=>none
theorem uv{K:_N}{ρ:_R}{st:ae}{H:Hp}{n:Nat}{a:_V}{ay:List (bD×ak)}(sr:SR K ρ st H)(h:ei st n=some ay)(ha:ρ[n]?=some a):∃bV,Rd H a (.dK bV)/\dG K ρ H ay bV:=by
 unfold ei at h;split at h
 .rename_i z;cases h;obtain⟨bV,h1,h2⟩:=sr.cell n _ a z ha;exact⟨bV,.inl h1,h2⟩
 .rename_i z;cases h;obtain⟨o,bV,h1,h2⟩:=sr.cell n _ a z ha;exact⟨bV,.inr ⟨o,h1⟩,h2⟩
 .cases h
def lC:FN
 |[.loc n],st=>match ei st n with
  |some ay=>.ok (.int ay.length) st
  |none=>.bad
 |_,_=>.bad
def p7:List bD->Option (_O)
 |[]=>some []
 |.inl i::r=>(p7 r).map (i :: ·)
 |.inr _::_=>none
theorem A?:∀{l:List bD}{a:_O},p7 l=some a->l=a.map Sum.inl:=by
 intro l
 induction l with
 |nil=>intro a h;cases h;rfl
 |cons x r ih=>
  intro a h;cases x with
  |inl i=>
   replace h:(p7 r).map (i :: ·)=some a:=h;cases z:p7 r with
   |none=>rw[z]at h;cases h
   |some b=>rw[z]at h;cases h;rw[ih z];rfl
  |inr x=>cases h
def iV:FN
 |[.loc n],st=>match ei st n with
  |some ay=>match p7 (ay.map (·.1)) with
   |some (i::ns)=>.ok (.int (SO.g8 (fun j=>(i::ns).getD j 0) ns.length)) st
   |_=>.bad
  |none=>.bad
 |_,_=>.bad
def Ip(ay:List (bD×ak)):List ak:=ay.map fun p=>.tup [gY p.1,p.2]
def rB(n:Nat)(ay:List (bD×ak)):Itm:=(Ip ay,fun st2=>st2[n]?=some (.fd ay))
def d8(m:ME):MI:=fun μ st=>(m μ st).bind fun v az=>match v with
 |.loc n=>match az[n]? with
  |some (.dK ay)=>.ok (rB n ay) (az.set n (.fd ay))
  |some (.fd ay)=>.ok (rB n ay) az
  |_=>.bad
 |_=>.bad
def Rh(v:ak)(st:ae):bI ak:=match v with
 |.loc n=>match ai st n with
  |some []=>.ok (.loc st.length) (st++[.lst []])
  |_=>.bad
 |_=>.bad
def K2(m:ME):ME:=fun μ st=>(m μ st).bind Rh
section
variable{X:Cx}{E:XK}
theorem yh:bc X (.builtin "len") (cM (wo X) E lC):=by
 refine bc.imp A8 ?_;rintro xs H Q ⟨ρ,st,us,sr,r,h⟩;unfold lC at h;split at h
 .rename_i n;obtain⟨v,rfl,r1⟩:=r.qW;obtain⟨a,rfl,ha⟩:=r1.cD;split at h
  .rename_i ay e;obtain⟨bV,h1,h2⟩:=uv sr e ha;refine⟨a,bV,rfl,h1,?_⟩;have l:ay.length=bV.length:=by have:=We List.length h2.1;simpa using this
   rw[<-l];exact bP sr h
  .exact h.elim
 .exact h.elim
theorem yi(hh:X.A.handled=none):bc X (.builtin "max") (cM (wo X) E iV):=by
 refine bc.imp (uq hh) ?_;rintro xs H Q ⟨ρ,st,us,sr,r,h⟩;unfold iV at h;split at h
 .rename_i n;obtain⟨v,rfl,r1⟩:=r.qW;obtain⟨a,rfl,ha⟩:=r1.cD;split at h
  .rename_i ay e;split at h
   .rename_i i ns z;obtain⟨bV,h1,h2⟩:=uv sr e ha;exact⟨a,bV,i::ns,rfl,h1,by rw[<-h2.1];exact A? z,by simp,bP sr h⟩
   .exact h.elim
  .exact h.elim
 .exact h.elim
theorem G1{K:_N}{ρ:_R}{H:Hp}{ay:List (bD×ak)}{bV:List (bD×V)}(p:dG K ρ H ay bV){i:Nat}{k:bD}{u:ak}(h:ay[i]?=some (k,u)):∃x,bV[i]?=some (k,x)/\Rl K ρ H u x:=by
 have h1:(ay.map (·.2))[i]?=some u:=by rw[VB,h];rfl
 obtain⟨x,e1,r⟩:=p.2.get h1;have h2:(ay.map (·.1))[i]?=some k:=by rw[VB,h];rfl
 rw[p.1]at h2;rw[VB]at e1 h2;cases z:bV[i]? with
 |none=>rw[z]at h2;cases h2
 |some q=>
  rw[z]at e1 h2;cases e1;cases h2;exact⟨_,rfl,r⟩
theorem K3{K:_N}{ρ:_R}{H:Hp}(k:bD):Rl K ρ H (gY k) (kV k):=by
 cases k with
 |inl i=>exact Rl.mkInt i
 |inr x=>exact Rl.mkStr x
theorem sW{K:_N}{ρ:_R}{H:Hp}{n:Nat}{a:_V}{ob:Obj}{ay:List (bD×ak)}{bV:List (bD×V)}(ha:ρ[n]?=some a)(hd:H a=some (.gE ob (.dK bV))):HY K ρ H (rB n ay) (N2 a ob):=by
 intro ρ' az H' e sr g i;obtain⟨o2,l2,c1,c2⟩:=sr.cell n _ a g (e.at_ ha);have c3:=e.gE _ _ _ hd;rw[c3]at c1;injection c1 with c1;injection c1 with d1 d2;injection d2 with d2;subst d1 d2;refine⟨fun u hu=>?_,fun hi=>⟨bV,c3,?_⟩⟩
 .have hu:((ay.map fun p=>ak.tup [gY p.1,p.2]):List ak)[i]?=some u:=hu;rw[VB]at hu;cases z:ay[i]? with
  |none=>rw[z]at hu;cases hu
  |some q=>
   obtain⟨k,u'⟩:=q;rw[z]at hu;cases hu;obtain⟨x,e1,r⟩:=G1 c2 z;refine⟨⟨bV,k,x,c3,e1⟩,fun v LO y=>?_⟩;obtain⟨p,k',x',rfl,hp,rfl,y⟩:=y;have e2:=(y bV c3).symm.trans e1;injection e2 with e2;injection e2 with e2 e3;subst e2 e3;have s:=bW (o:=.tup [kV k',x']) hp;exact⟨aG.same s,sr.grow s,Rl.j? a! (aT.cons (K3 k') (aT.one (Rl.mono (aG.same s) _ _ r)))⟩
 .have l:ay.length=bV.length:=by have:=We List.length c2.1;simpa using this
  rw[<-l];simpa[rB,Ip]using hi
theorem p8{elts:List Expr}{kt:Nat}{tp apos br:Pos}{o:Expr}{m:ME}(hh:X.A.handled=none)(ho:PE X o (tE X E m))(fZ:attributeBase o "items" X.env (eval o X.env)=eval o X.env:=by rfl)(f_:(apos.endLine==br.line)=true:=by rfl):
  PI X (.Tuple elts kt tp) (.Call (.Attribute o "items" apos) [] [] br) (tI X E (d8 m)):=by
 refine PI.imp (DR ho fZ f_) ?_;rintro σ H R ⟨μ,ρ,st,rs,sr,h⟩;refine go μ ρ st rs sr h fun u aL ρ1 H1 x e1 bJ r1 h1=>?_;cases u with
 |loc n=>
  obtain⟨a,rfl,ha⟩:=r1.cD;dsimp only at h1;cases z:aL[n]? with
  |none=>rw[z]at h1;exact h1.elim
  |some c=>
   rw[z]at h1;cases c with
   |dK ay=>
    obtain⟨bV,hd,pr⟩:=bJ.cell n _ a z ha;refine⟨a,bV,rfl,.inl ⟨hd,fun ob=>?_⟩⟩;have sp:aG ρ1 H1 ρ1 (upd H1 a (.gE ob (.dK bV))):=aG.put hd (fun _ q=>by cases q) (fun _ _ q=>by cases q);have jQ:SR X.K ρ1 (aL.set n (.fd ay)) (upd H1 a (.gE ob (.dK bV))):=bJ.set z rfl rfl ha hd (fun _ q=>by cases q) (fun _ _ q=>by cases q) ⟨ob,bV,a!,pr.mono sp⟩;exact h1 ρ1 _ _ sp jQ (sW ha a!)
   |fd ay=>
    obtain⟨ob,bV,hd,pr⟩:=bJ.cell n _ a z ha;exact⟨a,bV,rfl,.inr ⟨ob,hd,h1 ρ1 H1 _ (aG.refl _ _) bJ (sW ha hd)⟩⟩
   |_=>exact h1.elim
 |_=>exact h1.elim
end
end MN
namespace PM
open PySem.Spec L2 MN
open PyProof.Rows hiding St
def cQ:FN:=eg 4 4 (aw (gu ["Packing"] "by_degree" aK (ah kY bf (qs "deg"))) (aw (gu ["Packing"] "many" aK aZ) (aw (gu ["Packing"] "width" aK (ah cb (zd bt) (mC (.int 40)))) (gu ["Packing"] "guards" aK (aq uu (aa (bw 1 [0] (bY (aa aZ ao)) (au 0) aJ (ah lB b! (ah dr (ah cb (ah cf (bp ["Packing"] "width" bf) aK) (bp ["Packing"] "width" bf)) b!))) ao))))))
def cz:FN:=eg 2 4 (aw (aE 2 (FU (bN (bp ["Packing"] "by_degree" aK)) (aq uu (aa bf ao)) bT)) (aw (cw (cg bf) (au 3) (aE 2 (ah Io (ah lB aZ (bp ["Packing"] "width" aK)) bt))) (aO aZ)))
def aX:FN:=eg 2 3 (aw (aE 2 (ah dr (ah lB b! (bp ["Packing"] "width" aK)) b!)) (aO (aq mH (aa (bw 1 [2,1,0] (pL (aa (ah dr (bp ["Packing"] "many" aK) b!) (aa (mG b!) (aa (mG b!) ao)))) (au 0) aJ (ah vL (ah Gj aZ (ah cf (bp ["Packing"] "width" bt) aK)) bf)) ao))))
def bZ:FN:=eg 1 2 (cw (cg aK) (au 1) (dY (bN (ah kY (aq c_ (aa bf ao)) bT)) (gP "ByNought" (aa (qs "nothing is reduced by nought") ao)) bg))
def bo:FN:=eg 3 3 (aO (aq ye (aa (bw 2 [2,0] (d8 bf) (cW [(au 0),(au 1)]) aJ (eB (aa aK (aa (ah cK (ah cf bf aZ) bt) ao)))) ao)))
def Ba:FN:=eg 5 9 (fD (bN (ah qX (aq lC (aa aZ ao)) bT)) NT)
def lD:FN:=eg 5 9 (cw (cg aZ) (cW [(au 5),(au 6)]) NT)
def ba:FN:=eg 2 4 (aw (aE 2 bT) (aw (dY (bN (ah iZ aK (c9 ao))) (aE 2 (ah aY aK (ah cK bf (aq c_ (aa aK ao))))) bg) (aw (aE 3 (ah cK (ah cb (ah cf aZ (mC (.int 48271))) (ah cf (ah cb bf b!) (mC (.int 7919)))) (mC (.int 2147483647)))) (aw (aE 3 (ah cK (ah cf (ah cK (ah cf bt bt) c7) (mC (.int 48271))) (mC (.int 2147483647)))) (aO (ah cb (ah cf bt c7) (ah cK (ah cf bt bt) c7)))))))
def fA:FN:=eg 2 4 (aw (aE 2 (c9 ao)) (aw (cw (bY (aa (ah aY bf iP) ao)) (au 3) (aw (bA (fQ bU aZ (aa (ah cK aK (ah cb (ah aY bf nF) b!)) ao))) (aE 0 (ah je aK (ah cb (ah aY bf nF) b!))))) (aO (eB (aa (aq mH (aa aZ ao)) (aa (ah cb b! (ah cK aK (ah dr (ah aY bf bT) b!))) ao))))))
def mM:FN:=eg 3 3 (aO (dj "Packing" "key_of" PM.cz aK (aa (bw 1 [] (nG false false (aa (dj "Packing" "exponents_of" PM.aX aK (aa bf ao)) (aa (dj "Packing" "exponents_of" PM.aX aK (aa aZ ao)) ao))) (au 0) aJ (aq rA (aa aK ao))) ao)))
def bF:FN:=eg 2 2 (aO (aq ye (aa (bw 2 [0] (cg bf) (cW [(au 0),(au 1)]) aJ (eB (aa (dj "Packing" "key_of" PM.cz aZ (aa aK ao)) (aa bf ao)))) ao)))
def fB:FN:=eg 2 2 (aO (K2 (bw 2 [0] (d8 bf) (cW [(au 0),(au 1)]) aJ (eB (aa (dj "Packing" "exponents_of" PM.aX aZ (aa aK ao)) (aa bf ao))))))
def g9:FN:=eg 1 9 (aw (aE 1 (c9 (aa (mC (.int 7)) (aa nF (aa iP (aa (mC (.int 5)) (aa (mC (.int 13)) (aa (mC (.int 97)) (aa (mC (.int 11)) (aa (mC (.int 17)) (aa (mC (.int 19)) (aa (mC (.int 23)) (aa (mC (.int 29)) (aa (mC (.int 31)) (aa (mC (.int 37)) (aa (mC (.int 41)) (aa (mC (.int 43)) (aa (mC (.int 47)) (aa (mC (.int 53)) (aa (mC (.int 59)) (aa (mC (.int 61)) (aa (mC (.int 67)) (aa (mC (.int 71)) (aa (mC (.int 73)) (aa (mC (.int 79)) (aa (mC (.int 83)) (aa (mC (.int 89)) ao))))))))))))))))))))))))))) (aw (aE 2 (aq PM.ba (aa aK (aa b! ao)))) (aw (aE 3 (ah cK (ah je aZ iP) LL)) (aw (aE 4 (ah aY (c9 (aa (qs "lex") (aa (qs "deg") ao))) (ah cK aZ iP))) (aw (aE 5 (ah aY (c9 (aa iP (aa b! (aa iP (aa nF (aa iP (aa b! (aa nF (aa b! ao))))))))) bt)) (aw (aE 6 (ah aY (c9 (aa iP (aa EU (aa iP (aa b! (aa b! (aa LL (aa b! (aa nF ao))))))))) bt)) (aw (aE 7 (ah aY (c9 (aa nF (aa EU (aa iP (aa iP (aa EU (aa LL (aa iP (aa nF ao))))))))) bt)) (aw (aE 8 (ah aY bf (ah cK (aq PM.ba (aa aK (aa bT ao))) (mC (.int 25))))) (aO (eB (aa BR (aa c6 (aa cY (aa fP (aa kX (aa (ah aY (c9 (aa iP (aa nF (aa nF (aa nF (aa iP (aa iP (aa nF (aa EU ao))))))))) bt) ao))))))))))))))))
def dR:FN:=eg 2 5 (aw (aE 2 (c9 ao)) (aw (cw (cg bf) (au 3) (bA (fQ iw aZ (aa bt ao)))) (aw (aE 4 (FU (bN (ah qX (aq c_ (aa aZ ao)) bT)) (aq c_ (aa (ah aY (ah aY aZ bT) bT) ao)) b!)) (aO (vR "Packing" PM.cQ (aa aK (aa c6 (aa (zu (bw 2 [] (cg aZ) (cW [(au 0),(au 1)]) aJ (aq rA (aa aK ao))) bT) ao))))))))
def lE:FN:=eg 4 7 (aw (aE 4 (c9 ao)) (aw (cw (nG true true (aa aZ (aa bt ao))) (cW [(au 5),(au 6)]) (bA (fQ bU c6 (aa (dj "Packing" "sum_of_terms" PM.fB bf (aa (aq PM.bo (aa aK (aa fP (aa (bp ["Monic"] "back" cY) ao)))) ao)) ao)))) (aO c6)))
def g_:FN:=eg 5 8 (aw (aE 5 (dj "Packing" "least_of" PM.mM bf (aa (bp ["Monic"] "top" (ah aY aZ bt)) (aa (bp ["Monic"] "top" (ah aY aZ c6)) ao)))) (aw (aE 6 gh) (aw (bA (aq PM.lD (aa aK (aa fP (aa (bp ["Monic"] "tail" (ah aY aZ bt)) (aa (ah dr cY (bp ["Monic"] "top" (ah aY aZ bt))) (aa b! ao))))))) (aw (bA (aq PM.lD (aa aK (aa fP (aa (bp ["Monic"] "tail" (ah aY aZ c6)) (aa (ah dr cY (bp ["Monic"] "top" (ah aY aZ c6))) (aa (mG b!) ao))))))) (aw (aE 7 (bw 1 [] (cg aZ) (au 0) aJ gh)) (aw (bA (aq PM.Ba (aa aK (aa (bp ["Packing"] "guards" bf) (aa fP (aa aZ (aa kX ao))))))) (aO (FU (bN (ah kY (aq lC (aa fP ao)) bT)) kX (mC .bR)))))))))
def cR:FN:=eg 3 3 (aw (gu ["Monic"] "top" aK (aq iV (aa aZ ao))) (aw (gu ["Monic"] "back" aK (aq PM.inverse (aa bf (aa (ah gi aZ (bp ["Monic"] "top" aK)) ao)))) (gu ["Monic"] "tail" aK (bw 2 [1,0] (d8 aZ) (cW [(au 0),(au 1)]) (bN (ah iZ aK (bp ["Monic"] "top" bt))) (eB (aa aK (aa (ah cK (ah cf bf (bp ["Monic"] "back" bt)) aZ) ao)))))))
end PM
namespace MN
open PySem.Spec L2
open PyProof.Rows hiding St kindOf
def Bb(d k:ak)(st:ae):bI ak:=match d with
 |.loc n=>match st[n]? with
  |some (.dK ay)=>match gK k with
   |some ks=>match jS ay ks with
    |some v=>.ok v (st.set n (.dK (p4 ay ks)))
    |none=>.bad
   |none=>.bad
  |_=>.bad
 |_=>.bad
def fG(d k:ME):ME:=fun μ st=>(d μ st).bind fun dv aL=>if pK aL dv=true then(k μ aL).bind fun kv st2=>Bb dv kv st2 else .bad
section
variable{X:Cx}{E:XK}{o e:Expr}{apos br:Pos}{md mk:ME}
theorem DS(ho:PE X o (tE X E md))(he:PE X e (tE X E mk))(m:M1 X o "pop" apos e br:=by exact⟨rfl,rfl,rfl,rfl⟩):PE X (.Call (.Attribute o "pop" apos) [e] [] br) (tE X E (fG md mk)):=by
 refine PE.imp (Cs ho he m) ?_;rintro σ H Q ⟨μ,ρ,st,rs,sr,h⟩;refine go μ ρ st rs sr h fun d aL ρ1 H1 x e1 bJ r1 h1=>?_;split at h1
 .rename_i hd;obtain⟨a,rfl,ia⟩:=za bJ r1 hd;refine⟨a,rfl,ia,?_⟩;refine go μ ρ1 aL (rs.mono e1) bJ h1 fun k st2 ρ2 H2 y e2 jQ r2 h2=>?_;have Q5:=Rl.mono e2 _ _ r1;unfold Bb at h2;split at h2
  .rename_i n;obtain⟨a',ea,ha⟩:=Q5.cD;cases ea;split at h2
   .rename_i ay hn;obtain⟨l,hl,p⟩:=jQ.cell n _ a hn ha;split at h2
    .rename_i ks hk;have hy:=oU r2 hk;subst hy;split at h2
     .rename_i v hv;rcases p.val ks with⟨z,_⟩|⟨u',v',z,zv,rv⟩
      .rw[hv]at z;cases z
      .rw[hv]at z;cases z;have K4:aG ρ2 H2 ρ2 (upd H2 a (.dK (nB l ks))):=aG.put hl (fun _ z=>by cases z) (fun _ _ z=>by cases z);refine⟨l,ks,v',hl,rfl,zv,h2 ρ2 _ v' K4 ?_ (Rl.mono K4 _ _ rv)⟩;exact jQ.set hn rfl rfl ha hl (fun _ z=>by cases z) (fun _ _ z=>by cases z) ⟨_,a!,(p.drop ks).mono K4⟩
     .exact h2.elim
    .exact h2.elim
   .exact h2.elim
  .exact h2.elim
 .exact h1.elim
def DT:MB:=fun _ st=>.rt .bR st
theorem G5{pos:Pos}:PS X (.Return none pos) (tS X E DT):=by refine PS.imp E_ ?_;rintro D σ H ⟨μ,ρ,st,rs,sr,h⟩;exact h ρ H .bR (aG.refl _ _) sr Rl.vA
end
end MN
namespace SO
open PySem.W PyProof.Rows
def ow(b:Bool)(xs ys:_O):Bool:=if b=true then !(lexLt ys xs)else lexLt xs ys
theorem sX{b:Bool}{i j:Int}{xs ys:_O}:ow b (i::xs) (j::ys)=if i=j then ow b xs ys else decide (i<j):=by
 have z1:lexLt (i::xs) (j::ys)=if i=j then lexLt xs ys else decide (i<j):=rfl
 have z2:lexLt (j::ys) (i::xs)=if j=i then lexLt ys xs else decide (j<i):=rfl
 by_cases e:i=j
 .subst e;rw[Vo rfl]at z1 z2⊢;unfold ow;rw[z1,z2]
 .rw[Vv e]at z1⊢;rw[Vv fun z=>e z.symm]at z2;unfold ow;rw[z1,z2];cases b with
  |false=>rfl
  |true=>
   rw[Vo rfl];by_cases q:i<j
   .rw[VF q,VD (by lia)];rfl
   .rw[VD q,VF (by lia)];rfl
section
variable{prog:_X}{w:World}{A:_W}{E:_K}{s:_U}
theorem G6{a c:_V}{oa ob:Obj}{us vs:Array _T}{n m:Nat}{xs ys:_O}{P:PySem.Fin->_U->Prop}(ha:s.heap.get? a=some oa)(hca:oa.cls=.type "tuple")(Ri:oa.data=.seq us n)(hb:s.heap.get? c=some ob)(Rj:ob.cls=.type "tuple")(kU:ob.data=.seq vs m)(ia:IntsAre us.toList xs)(ib:IntsAre vs.toList ys)(h:P (.done (.ret (.bool (ow false xs ys)))) s):
  wpAny (model prog w) A (Builtin.«tuple.__lt__» ⟨[.ref a,.ref c],[]⟩) P E s:=by
 show wpAny _ _ (isInstance (.ref c) (.type "tuple") >>= _) _ _ s;refine Vh (YC (T:="tuple") ⟨ob,hb,Rj⟩ _E ?_);simp only[Xo,Wm,XX];refine Vh (Yj ha Ri (Vh (Yj hb kU ?_)));refine Vh ?_;refine wpAny_forIn_list _ (fun rest r s'=>r.1=none/\s'=s/\∃x' y' sI pD,rest=List.zip sI pD/\IntsAre sI x'/\IntsAre pD y'/\ow false x' y'=ow false xs ys/\sI.length+vs.size=pD.length+us.size) _ ?_ ?_ _ _
  ⟨rfl,rfl,xs,ys,us.toList,vs.toList,rfl,ia,ib,rfl,by rw[VP,VP,XE]⟩
 .rintro⟨u,v⟩ rest r s' ⟨hr,rfl,x',y',sI,pD,hz,hx,hy,hl,hs⟩;cases hx with
  |nil=>cases hz
  | @cons i t Nv x1 Rk=>
   cases hy with
   |nil=>cases hz
   | @cons j t2 Rm y1 Rn=>
    rw[ZR]at hz;injection hz with Ro LQ;cases Ro;refine Vh (X3 ?_);rw[sX]at hl;by_cases e:i=j
    .rw[Vo e]at hl;rw[Wu.mpr e];simp only[Xo,Wm,XX];refine Vr ⟨rfl,rfl,x1,y1,Nv,Rm,LQ,Rk,Rn,hl,?_⟩;rw[Vn,Vn]at hs;lia
    .rw[Vv e]at hl;rw[VV.mpr e];simp only[Zv,if_true];refine Vh (X2 ?_);refine Vh (show wpAny _ _ (richCompare .Lt (.int i t) (.int j t2)) _ _ _ from lt_int ?_);rw[show decide (i<j)=decide (i<j)from XJ.mpr (by lia),hl];exact Vh (Vr (Vr (Vr h)))
 .rintro⟨r1,r2⟩ s' ⟨hr,rfl,x',y',sI,pD,hz,hx,hy,hl,hs⟩;simp only at hr;subst hr;refine Vr ?_;rw[<-hl]at h;have hb:decide (us.size<vs.size)=ow false x' y':=by
   cases hx with
   |nil=>
    cases hy with
    |nil=>rw[VD (by simp at hs;lia)];rfl
    |cons _ _ _=>rw[VF (by rw[Vn,VJ]at hs;lia)];rfl
   |cons _ _ _=>
    cases hy with
    |nil=>rw[VD (by rw[Vn,VJ]at hs;lia)];rfl
    |cons _ _ _=>cases hz
  show P (.done (.ret (.bool (decide (us.size<vs.size))))) s';rw[hb];exact h
theorem G7{a c:_V}{oa ob:Obj}{us vs:Array _T}{n m:Nat}{xs ys:_O}{P:PySem.Fin->_U->Prop}(ha:s.heap.get? a=some oa)(hca:oa.cls=.type "tuple")(Ri:oa.data=.seq us n)(hb:s.heap.get? c=some ob)(Rj:ob.cls=.type "tuple")(kU:ob.data=.seq vs m)(ia:IntsAre us.toList xs)(ib:IntsAre vs.toList ys)(h:P (.done (.ret (.bool (ow true xs ys)))) s):
  wpAny (model prog w) A (Builtin.«tuple.__le__» ⟨[.ref a,.ref c],[]⟩) P E s:=by
 show wpAny _ _ (isInstance (.ref c) (.type "tuple") >>= _) _ _ s;refine Vh (YC (T:="tuple") ⟨ob,hb,Rj⟩ _E ?_);simp only[Xo,Wm,XX];refine Vh (Yj ha Ri (Vh (Yj hb kU ?_)));refine Vh ?_;refine wpAny_forIn_list _ (fun rest r s'=>r.1=none/\s'=s/\∃x' y' sI pD,rest=List.zip sI pD/\IntsAre sI x'/\IntsAre pD y'/\ow true x' y'=ow true xs ys/\sI.length+vs.size=pD.length+us.size) _ ?_ ?_ _ _
  ⟨rfl,rfl,xs,ys,us.toList,vs.toList,rfl,ia,ib,rfl,by rw[VP,VP,XE]⟩
 .rintro⟨u,v⟩ rest r s' ⟨hr,rfl,x',y',sI,pD,hz,hx,hy,hl,hs⟩;cases hx with
  |nil=>cases hz
  | @cons i t Nv x1 Rk=>
   cases hy with
   |nil=>cases hz
   | @cons j t2 Rm y1 Rn=>
    rw[ZR]at hz;injection hz with Ro LQ;cases Ro;refine Vh (X3 ?_);rw[sX]at hl;by_cases e:i=j
    .rw[Vo e]at hl;rw[Wu.mpr e];simp only[Xo,Wm,XX];refine Vr ⟨rfl,rfl,x1,y1,Nv,Rm,LQ,Rk,Rn,hl,?_⟩;rw[Vn,Vn]at hs;lia
    .rw[Vv e]at hl;rw[VV.mpr e];simp only[Zv,if_true];refine Vh (X2 ?_);refine Vh (show wpAny _ _ (richCompare .LtE (.int i t) (.int j t2)) _ _ _ from le_int ?_);rw[show decide (i<=j)=decide (i<j)from XJ.mpr (by lia),hl];exact Vh (Vr (Vr (Vr h)))
 .rintro⟨r1,r2⟩ s' ⟨hr,rfl,x',y',sI,pD,hz,hx,hy,hl,hs⟩;simp only at hr;subst hr;refine Vr ?_;rw[<-hl]at h;have hb:decide (us.size<=vs.size)=ow true x' y':=by
   cases hx with
   |nil=>
    cases hy with
    |nil=>rw[VF (by simp at hs;lia)];rfl
    |cons _ _ _=>rw[VF (by rw[Vn,VJ]at hs;lia)];rfl
   |cons _ _ _=>
    cases hy with
    |nil=>rw[VD (by rw[Vn,VJ]at hs;lia)];rfl
    |cons _ _ _=>cases hz
  show P (.done (.ret (.bool (decide (us.size<=vs.size))))) s';rw[hb];exact h
theorem K5{a b:_V}{xs ys:_O}{Q:_K}(hu:A.units<cLine)(h1:fM s.heap (.ref a) xs)(h2:fM s.heap (.ref b) ys)(h:Q (.bool (lexLt xs ys)) s):
  wpAny (model prog w) A (compareOp .Lt (.ref a) (.ref b)) Q E s:=by
 obtain⟨_,a',o,aD,n,ea,ho,hc,hd,hi⟩:=h1;obtain⟨_,b',o2,cy,n2,eb,n!,tW,hd2,BU⟩:=h2;cases ea;cases eb;refine cmp_ofLt (Z0 (op:=.Lt) (T:="tuple") ⟨o,ho,hc⟩ ⟨o2,n!,tW⟩ Z1 ?_ hu);refine Ws Z1 ⟨o,ho,hc⟩ PySem.F.entry_tuple_lt (G6 ho hc hd n! tW hd2 hi BU ?_) (PySem.F.args_tuple_lt_2 _ _);exact⟨_,rfl,(fun e=>nomatch e),h⟩
theorem K6{a b:_V}{xs ys:_O}{Q:_K}(hu:A.units<cLine)(h1:fM s.heap (.ref a) xs)(h2:fM s.heap (.ref b) ys)(h:Q (.bool (!(lexLt ys xs))) s):
  wpAny (model prog w) A (compareOp .LtE (.ref a) (.ref b)) Q E s:=by
 obtain⟨_,a',o,aD,n,ea,ho,hc,hd,hi⟩:=h1;obtain⟨_,b',o2,cy,n2,eb,n!,tW,hd2,BU⟩:=h2;cases ea;cases eb;refine cmp_ofLtE (Z0 (op:=.LtE) (T:="tuple") ⟨o,ho,hc⟩ ⟨o2,n!,tW⟩ Z2 ?_ hu);refine Ws Z2 ⟨o,ho,hc⟩ PySem.F.entry_tuple_le (G7 ho hc hd n! tW hd2 hi BU ?_) (PySem.F.args_tuple_le_2 _ _);exact⟨_,rfl,(fun e=>nomatch e),h⟩
theorem ints_get{us:_P}{ns:_O}(h:IntsAre us ns):∀(j:Nat)(h1:j<us.length)(h2:j<ns.length),∃t,us[j]=.int ns[j] t:=by
 induction h with
 |nil=>intro j h1;cases h1
 |cons n t _ ih=>
  intro j h1 h2;cases j with
  |zero=>exact⟨t,rfl⟩
  |succ j=>exact ih j (XD h1) (XD h2)
theorem K7{x y:_T}{xs ys:_O}(hu:A.units<cLine)(h1:fM s.heap x xs)(h2:fM s.heap y ys)(hl:xs.length=ys.length):SeqAt.EqAt A s x y (decide (xs=ys)):=by
 obtain⟨_,a,o,aD,n,rfl,ho,hc,hd,hi⟩:=h1;obtain⟨_,b,o2,cy,n2,rfl,n!,tW,hd2,BU⟩:=h2;have l1:=hi.length;have l2:=BU.length;rw[VP]at l1 l2;by_cases e:a=b
 .subst e;rw[ho]at n!;cases n!;rw[hd]at hd2;cases hd2;have:xs=ys:=by rw[<-xW hi,<-xW BU]
  rw[VF this];exact YU _
 .refine SeqAt.EqAt.of_refs e ?_;have z:=SeqAt.RcAt.tuples (A:=A) (s:=s) (l:=a) (b:=b) (items:=aD) (items2:=cy) (e:=fun j=>xs.getD j 0==ys.getD j 0) ⟨o,ho,hc,n,hd⟩ ⟨o2,n!,tW,n2,hd2⟩ hu (fun j h1 h2=>by
   obtain⟨t,e1⟩:=ints_get hi j (by rw[VP];exact h1) (by lia);obtain⟨u,e2⟩:=ints_get BU j (by rw[VP];exact h2) (by lia);rw[Y']at e1 e2;rw[e1,e2,VW,Vq (by lia),VW,Vq (by lia)];exact Zl _ _ _ _)
  have b2:((List.range (min aD.size cy.size)).all (fun j=>xs.getD j 0==ys.getD j 0)&&aD.size==cy.size)=decide (xs=ys):=by
   rw[show(aD.size==cy.size)=true by rw[Wu];lia,Yh];rw[X0,WE,V!];constructor
   .intro q;refine YR hl fun j h1 h2=>?_;have:=Wu.mp (q j (YI.mpr (by lia)));rw[VW,Vq h1,VW,Vq h2]at this;exact this
   .intro q j _;rw[q];exact Wx _
  rw[b2]at z;exact z
def jm(m:Nat)(h:Heap)(v:_T)(k:_O):Prop:=∃e c x t a o n,k=e++[c]/\e.length=m/\v=.ref a/\h.get? a=some o/\o.cls=.type "tuple" /\ o.data=.seq #[x,.int c t] n/\fM h x e
theorem mO:∀{e f:_O}{c d:Int},e.length=f.length->lexLt (e++[c]) (f++[d])=if e=f then decide (c<d)else lexLt e f
 |[],[],c,d,_=>by
  show(if c=d then false else decide (c<d))=if([]:_O)=[]then _ else _
  rw[Vo rfl];by_cases z:c=d
  .rw[Vo z,VD (by lia)]
  .rw[Vv z]
 |i::e,j::f,c,d,h=>by
  have ih:=mO (e:=e) (f:=f) (c:=c) (d:=d) (Ww h);show(if i=j then lexLt (e++[c]) (f++[d])else decide (i<j))=if i::e=j::f then _ else if i=j then lexLt e f else decide (i<j)
  by_cases z:i=j
  .subst z;rw[Vo rfl,Vo rfl,ih];by_cases y:e=f
   .rw[Vo y,Vo (by rw[y])]
   .rw[Vv y,Vv (fun q=>y (X! q).2)]
  .rw[Vv z,Vv z,Vv (fun q=>z (X! q).1)]
theorem G8{m:Nat}{Q:Bool->_U->Prop}{x y:_T}{xs ys:_O}(hu:A.units<cLine)(h1:jm m s.heap x xs)(h2:jm m s.heap y ys)(h:Q (lexLt xs ys) s):wpAny (model prog w) A (keyLt' (tuples' false) x y) Q E s:=by
 obtain⟨e,c,x1,t,a,o,n,rfl,l1,rfl,ho,hc,hd,hx⟩:=h1;obtain⟨f,d,y1,t2,a2,o2,n2,rfl,l2,rfl,n!,tW,hd2,hy⟩:=h2;rw[mO (by lia)]at h;refine kat_lt ho hd n! hd2 ?_;show KatLex prog w A false _ Q [(x1,y1),(.int c t,.int d t2)] 0 s;refine kat_cons (K7 hu hx hy (by lia) prog w _ _ ?_);by_cases z:e=f
 .rw[Vo z]at h;rw[VF z];refine kat_yes (kat_cons (X3 ?_));by_cases y:c=d
  .rw[Wu.mpr y];refine kat_yes (kat_nil ?_);rw[VD (by lia)]at h;exact h
  .rw[VV.mpr y];exact kat_no (kat_one _ _ (lt_int h))
 .rw[Vv z]at h;rw[VD z];obtain⟨b1,rfl⟩:∃b,x1=.ref b:=by obtain⟨_,b,_,_,_,e,_⟩:=hx;exact⟨b,e⟩
  obtain⟨b2,rfl⟩:∃b,y1=.ref b:=by obtain⟨_,b,_,_,_,e,_⟩:=hy;exact⟨b,e⟩
  exact kat_no (kat_one _ _ (K5 hu hx hy h))
end
def K8(h:Heap):_T->_O
 |.ref a=>match h.get? a with
  |some o=>match o.data with
   |.seq aD _=>gK h (aD.getD 0 .none)++[Q1 (aD.getD 1 .none)]
   |_=>[]
  |none=>[]
 |_=>[]
theorem G9{m:Nat}{h:Heap}{v:_T}{k:_O}(t:jm m h v k):K8 h v=k:=by obtain⟨e,c,x,tk,a,o,n,rfl,_,rfl,ho,_,hd,hx⟩:=t;unfold K8;dsimp only;rw[ho];dsimp only;rw[hd];show gK h x++[c]=_;rw[DD hx]
theorem jm.to{m:Nat}{h h':Heap}{v:_T}{xs:_O}(t:jm m h v xs)(hk:∀b o,h.get? b=some o->o.cls=.type "tuple" -> h'.get? b=some o):jm m h' v xs:=by obtain⟨e,c,x,tk,a,o,n,e1,e2,e3,ho,hc,hd,hx⟩:=t;exact⟨e,c,x,tk,a,o,n,e1,e2,e3,hk a o ho hc,hc,hd,hx.to hk⟩
section
variable{vs:_P}{xs:List (_O)}
theorem sY{α:Type}{l:List α}{i:Nat}(d:α)(h:i<l.length):l.getD i d=l[i]:=by rw[VW,Vq h];rfl
def G_(xs:List (_O))(i j:Nat):Bool:=lexLt (xs.getD i []) (xs.getD j [])
theorem DU(nd:xs.Nodup):Ord (G_ xs) xs.length where
 tr:=fun _ _ _ _ _ _ h1 h2=>pY h1 h2
 QZ:=fun i j hi hj ne h=>jE (fun e=>ne (by
  rw[sY _ hi,sY _ hj]at e;exact(ZW nd).mp e)) h
 Q0:=fun _ _ _ _ h=>iC h
theorem Bc:∀{vs:_P}{xs:List (_O)},vs.length=xs.length->(List.range vs.length).map (fun i=>(vs.getD i Value.none,xs.getD i []))=vs.zip xs:=by
 intro vs xs hl;apply YR
 .rw[Vi,W_,Ze,<-hl,Yu]
 .intro i h1 h2;rw[Vi,W_]at h1;rw[Wy,_h,List.getElem_zip,sY _ h1,sY _ (hl▸h1)]
theorem K9{p:Array Nat}(hl:vs.length=xs.length)(h:Pm xs.length p)(a:rj (G_ xs) p xs.length)(nd:xs.Nodup):
  ∃zs:List (_T×List Int),zs.Perm (vs.zip xs)/\cB (zs.map (·.2))/\(p.toList.map fun i=>vs.getD i Value.none).reverse=zs.map (·.1):=by
 refine⟨(p.toList.map fun i=>(vs.getD i Value.none,xs.getD i [])).reverse,?_,?_,?_⟩
 .refine(Zy _).trans ?_;rw[<-Bc hl];refine List.Perm.map _ ?_;rw[hl];exact h.list
 .unfold cB;rw[_g,List.pairwise_reverse,VE];rw[WB];intro i j hi hj To;rw[Vi,VP,h.size]at hi hj;rw[Wy,Wy];have:=rj.lt (DU nd) h (Vp _) a To hj;have e1:g p i=p.toList[i]'(by rw[VP,h.size];exact hi):=by have:=h.get hi;rw[<-Array.getElem?_toList,Vq (by rw[VP,h.size];exact hi)]at this;exact(VO this).symm
  have e2:g p j=p.toList[j]'(by rw[VP,h.size];exact hj):=by have:=h.get hj;rw[<-Array.getElem?_toList,Vq (by rw[VP,h.size];exact hj)]at this;exact(VO this).symm
  rw[<-e1,<-e2];exact this
 .rw[_g,VE];rfl
end
def Kd(p:Bool)(m:Nat)(h:Heap)(v:_T)(k:_O):Prop:=if p=true then jm m h v k else fM h v k
def lF(p:Bool)(h:Heap)(v:_T):_O:=if p=true then K8 h v else gK h v
theorem lG{p:Bool}{m:Nat}{h:Heap}{v:_T}{k:_O}(t:Kd p m h v k):lF p h v=k:=by
 unfold Kd at t;unfold lF;cases p with
 |true=>rw[Vo rfl]at t⊢;exact G9 t
 |false=>rw[Vv Vs]at t⊢;exact DD t
theorem Kd.to{p:Bool}{m:Nat}{h h':Heap}{v:_T}{k:_O}(t:Kd p m h v k)(hk:∀b o,h.get? b=some o->o.cls=.type "tuple" -> h'.get? b=some o):Kd p m h' v k:=by
 unfold Kd at t⊢;cases p with
 |true=>exact jm.to t hk
 |false=>exact fM.to t hk
section
variable{prog:_X}{w:World}{A:_W}{E:_K}{s:_U}{vs:_P}{p:Bool}{m:Nat}
theorem N3{Q:Bool->_U->Prop}{x y:_T}{xs ys:_O}(hu:A.units<cLine)(h1:Kd p m s.heap x xs)(h2:Kd p m s.heap y ys)(h:Q (lexLt xs ys) s):wpAny (model prog w) A (keyLt' (tuples' !p) x y) Q E s:=by
 unfold Kd at h1 h2;cases p with
 |true=>exact G8 hu h1 h2 h
 |false=>exact NP h1 h2 h
theorem DV{h:Heap}:∀{vs:_P},(∀v∈vs,∃k,Kd p m h v k)->∃fs,KatTups h vs fs/\fs.length=vs.length/\∀f∈fs,if p=true then(∃a o,f=.ref a/\h.get? a=some o/\o.cls=.type "tuple")else ∃n u,f=.int n u
 |[],_=>⟨[],.nil,rfl,fun v m=>by cases m⟩
 |v::vs,al=>by
  obtain⟨fs,k,l,af⟩:=DV fun v mv=>al v (Vk _ mv);obtain⟨ky,t⟩:=al v Vm;unfold Kd at t;cases p with
  |true=>
   obtain⟨e,c,x,tk,a,o,n,_,_,rfl,ho,hc,hd,hx⟩:=t;refine⟨_,KatTups.cons ho hc hd rfl k,by rw[Vn,Vn,l],fun v mv=>?_⟩;rcases VH.mp mv with rfl|mv
   .obtain⟨_,b,o2,aD,n2,rfl,n!,tW,_⟩:=hx;exact⟨b,o2,rfl,n!,tW⟩
   .exact af v mv
  |false=>
   obtain⟨ne,a,o,aD,n,rfl,ho,hc,hd,hi⟩:=t;obtain⟨aD⟩:=aD;cases hi with
   |nil=>exact absurd rfl ne
   |cons m u r=>
    refine⟨_,KatTups.cons ho hc hd rfl k,by rw[Vn,Vn,l],fun v mv=>?_⟩;rcases VH.mp mv with rfl|mv
    .exact⟨_,_,rfl⟩
    .exact af v mv
theorem G!{Q:SortKind->_U->Prop}(t:∀v∈vs,∃k,Kd p m s.heap v k)(h0:0<vs.length)(h:Q (tuples' !p) s):wpAny (model prog w) A (keyKind' vs.toArray) Q E s:=by
 obtain⟨fs,k,l,al⟩:=DV t;cases p with
 |true=>
  refine kat_kind (T:=.type "tuple") k (by rw[l];exact h0) (fun v m=>?_) (by decide) h;obtain⟨a,o,rfl,ho,hc⟩:=al v m;rw[<-hc];exact(Looks.ld ho).andThen .now
 |false=>
  refine kat_kind (T:=.type "int") k (by rw[l];exact h0) (fun v m=>?_) (by decide) h;obtain⟨n,u,rfl⟩:=al v m;exact Looks.of_pure rfl
theorem Bd{a:_V}{n:Nat}{P:PySem.Fin->_U->Prop}(hu:A.units<cLine)(ho:s.heap.get? a=some (seqObj "list" vs.toArray n))(t:∀v∈vs,∃k,Kd p m s.heap v k)(nd:(vs.map (lF p s.heap)).Nodup)(N4:vs.length<64)(h:∀zs:_P,zs.Perm vs->cB (zs.map (lF p s.heap))->P (.done (.ret .none)) {s with heap:=sortedHeap s.heap a vs zs.toArray}):
  wpAny (model prog w) A (Builtin.«list.sort» ⟨[.ref a],[(Str.ofString "reverse",.bool true)]⟩) P E s:=by
 have hz:vs.length<=sizeLine:=by rw[VQ];lia
 rw[list_sort_rev];have small:vs.toArray.size<=sizeLine:=by rw[Vx];exact hz
 obtain⟨h1,e1⟩:∃h1,h1=s.heap.update a (Obj.mapSeq fun _=>(#[]:Array _T)):=⟨_,rfl⟩
 obtain⟨c1,Tt⟩:∃c,h1.get? a=some (seqObj "list" #[] c):=⟨_,by rw[e1];exact Zi ho fun _ => #[]⟩
 obtain⟨h6,e6⟩:∃h6,h6=(h1.push (seqObj "tuple" vs.toArray 0)).push (seqObj "list" #[] 0):=⟨_,rfl⟩
 have O?:h6.get? a=some (seqObj "list" #[] c1):=by rw[e6];exact Vj _ (Vj _ Tt)
 have kp:∀b o,s.heap.get? b=some o->o.cls=.type "tuple" -> h6.get? b=some o:=fun b o hb hc=>by
  rw[e6,e1];refine Vj _ (Vj _ ?_);have ne:a≠b:=fun z=>by rw[<-z,ho]at hb;cases hb;exact absurd (Value.type.inj hc) (by decide)
  exact(V0 _ _ ne).trans hb
 obtain⟨kf,Tu⟩:∃kf,kf=lF p s.heap:=⟨_,rfl⟩
 have t6:∀v∈vs,Kd p m h6 v (kf v):=fun v mv=>by obtain⟨k,tk⟩:=t v mv;rw[Tu,lG tk];exact tk.to kp
 rw[<-Tu]at nd h;refine Vh (listItems_at ho rfl (Vh (listUpdate_at ho rfl ?_ small (Wh _))));rw[<-e1];refine Vh (seqEpoch_at Tt rfl (Vh (wpAny_newTuple ?_ (by show vs.length<=_;exact hz))));refine Vh (wpAny_newList ?_ (Wh _));refine WD ?_;show wpAny (model prog w) A _ P E {s with heap:=(h1.push (seqObj "tuple" vs.toArray 0)).push (seqObj "list" #[] 0)};rw[<-e6];have ends:∀zs:_P,zs.Perm vs->cB (zs.map kf)->P (.done (.ret .none)) {s with heap:=h6.update a (Obj.mapSeq fun _=>zs.toArray)}:=by intro zs z1 z2;have:=h zs z1 z2;unfold sortedHeap at this;rw[<-e1,<-e6]at this;exact this
 dsimp only;rw[Vo rfl];refine Vh (X2 ?_);by_cases h2:vs.toArray.size<2
 .rw[Vo h2,Vo h2];refine Vh (Vr ?_);rw[StateT.run_pure];refine Vh (Vr ?_);dsimp only;rw[Vx]at h2;have out:(((vs.toArray.zip vs.toArray).reverse.map (·.2)).reverse)=vs.toArray:=by rw[Array.map_reverse,Array.reverse_reverse];apply Array.toList_inj.mp;rw[Array.toList_map,Array.toList_zip];show List.map _ (vs.zip vs)=vs;rw[List.map_snd_zip (Vp _)]
  refine Vh (seqEpoch_at O? rfl (Vh (listUpdate_at O? rfl ?_ (Wh _) ?_)))
  .show wpAny _ _ _ _ _ {s with heap:=h6.update a (Obj.mapSeq fun _=>(((vs.toArray.zip vs.toArray).reverse.map (·.2)).reverse))};rw[out];simp only[bne_self_eq_false,Wm,XX];refine Vr (ends _ (List.Perm.refl _) ?_);unfold cB
   match vs,h2 with
   |[],_=>exact .nil
   |[_],_=>exact W7 _ _
  .show(((vs.toArray.zip vs.toArray).reverse.map (·.2)).reverse).size<=_;rw[out,Vx];lia
 .rw[Vv h2,Vv h2];have l2:2<=vs.length:=by rw[Vx]at h2;lia
  obtain⟨rs,er⟩:∃rs,rs=vs.reverse:=⟨_,rfl⟩
  have mr:∀v,v∈rs↔v∈vs:=fun v=>by rw[er];exact W8
  have lr:rs.length=vs.length:=by rw[er,V2]
  obtain⟨ks,ek⟩:∃ks,ks=rs.map kf:=⟨_,rfl⟩
  have Tv:ks.Nodup:=by rw[ek,er,_g];exact(Zy _).nodup_iff.mpr nd
  refine Vh (G! (p:=p) (m:=m) (s:={s with heap:=h6}) (fun v mv=>⟨_,t6 v mv⟩) (by lia) ?_);have pr:(vs.toArray.zip vs.toArray).reverse=rs.toArray.zip rs.toArray:=by have:=kat_pairs true (ks:=vs) (vs:=vs) rfl;rw[Vo rfl]at this;rw[this,er];rfl
  rw[pr];have lk:rs.length=ks.length:=by rw[ek,Vi]
  have at_:∀i,i<rs.length->Kd p m h6 (rs.getD i .none) (ks.getD i []):=fun i hi=>by
   rw[sY _ hi,sY _ (by lia)];have:ks[i]'(by lia)=kf rs[i]:=by have:=We (fun l:List (_O)=>l[i]?) ek;simp only[VB,Vq hi,Vq (show i<ks.length by lia)]at this;exact VO this
   rw[this];exact t6 _ ((mr _).mp (Wj _))
  refine Vh (WJ (kat_run (Q:=fun az s'=>∃p:Array Nat,arrOf az=p.map (kas_item (rs.toArray.zip rs.toArray))/\failedOf az=none/\Pm ks.length p/\rj (G_ ks) p ks.length/\s' = {s with heap:=h6})
   (G:=fun p s'=>Pm ks.length p/\rj (G_ ks) p ks.length/\s' = {s with heap:=h6}) rfl (by lia) (by lia) (fun p az s' _ a2 a3 a4=>⟨p,a2,a3,a4⟩) ?_) ?_ fun _ _ e=>e)
  .rw[lk];refine Ok.wp (R:=fun s'=>s' = {s with heap:=h6}) (fun i j s' C hi hj hs hC=>?_) (fun p s' hp hs=>⟨hp.1,hp.2,hs⟩) (GB (DU Tv) (by lia)) rfl;subst hs;exact N3 hu (at_ i (by lia)) (at_ j (by lia)) (hC _ rfl)
  .rintro⟨⟨⟩,az⟩ s' ⟨pp,har,hf,hp,Kf,rfl⟩;dsimp only;obtain⟨zs,z1,z2,z3⟩:=K9 lk hp Kf Tv;have out:((arrOf az).map (·.2)).reverse=(zs.map (·.1)).toArray:=by rw[kat_snds rfl har];apply Array.toList_inj.mp;rw[Array.toList_reverse];exact z3
   have lz:zs.length<64:=by have:=z1.length_eq;rw[Ze,<-lk,Yu]at this;lia
   have ez:(zs.map (·.1)).map kf=zs.map (·.2):=by rw[VE];refine VS fun z mz=>?_;have Tw:=z1.mem_iff.mp mz;rw[ek,List.zip_map_right,VG]at Tw;obtain⟨y,my,rfl⟩:=Tw;rw[List.zip_eq_zipWith,List.zipWith_self]at my;obtain⟨u,_,rfl⟩:=VG.mp my;rfl
   have zp:(zs.map (·.1)).Perm vs:=by refine(z1.map _).trans ?_;rw[List.map_fst_zip (ZQ lk),er];exact Zy _
   refine Vh (seqEpoch_at O? rfl (Vh (listUpdate_at O? rfl ?_ (Wh _) ?_)))
   .rw[Vo rfl,out,hf];simp only[bne_self_eq_false,Wm,XX];exact Vr (ends _ zp (by rw[ez];exact z2))
   .rw[Vo rfl,out,Vx,Vi,VQ];lia
theorem uw{l:_V}{Q:_K}(hu:A.units+64<cLine)(hl:s.heap.IsList l vs.toArray)(t:∀v∈vs,∃k,Kd p m s.heap v k)(nd:(vs.map (lF p s.heap)).Nodup)(N4:vs.length<64)(h:∀(h':Heap)(l':_V)(c:Nat)(zs:_P),(∀b o,s.heap.get? b=some o->h'.get? b=some o)->s.heap.objs.size<=l'->zs.Perm vs->cB (zs.map (lF p s.heap))->h'.get? l'=some (seqObj "list" zs.toArray c)->Q (.ref l') {s with heap:=h'}):
  wpAny (model prog w) A (call (.builtin "sorted") [.ref l] [(Str.ofString "reverse",.bool true)]) Q E s:=by
 have hz:vs.length<=sizeLine:=by rw[VQ];lia
 refine call_function_entry_kw kind_sorted plain_sorted entry_sorted (args_sorted_rev _ _) ?_;unfold Builtin.«sorted»;refine Vh (m:=checkCount "sorted" 1 1 _) (Vr ?_);refine Vh (collect_list (vs:=vs) hl ?_ hz);obtain⟨h1,e1⟩:∃h1,h1=(s.heap.push (seqObj "list" #[] 0)).update s.heap.objs.size (Obj.mapSeq (· ++ vs.toArray)):=⟨_,rfl⟩
 have k1:∀b o,s.heap.get? b=some o->h1.get? b=some o:=fun b o e=>by rw[e1];exact(V0 _ _ (WX (Vu e))).trans (Vj _ e)
 have z1:s.heap.objs.size<=h1.objs.size:=by
  obtain⟨_,g⟩:∃o,h1.get? s.heap.objs.size=some o:=⟨_,by rw[e1];exact Zi (VA _ rfl) fun x=>x++vs.toArray⟩
  exact Y2 (Vu g)
 rw[<-e1];refine Vh (wpAny_newList ?_ (by show vs.length<=_;exact hz));have gl:(h1.push (seqObj "list" vs.toArray 0)).get? h1.objs.size=some (seqObj "list" vs.toArray 0):=VA _ rfl;have k2:∀b o,s.heap.get? b=some o->(h1.push (seqObj "list" vs.toArray 0)).get? b=some o:=fun b o e=>Vj _ (k1 b o e);have kk:∀v∈vs,lF p (h1.push (seqObj "list" vs.toArray 0)) v=lF p s.heap v:=fun v mv=>by obtain⟨k,tk⟩:=t v mv;rw[lG tk,lG (tk.to fun b o e _=>k2 b o e)]
 show wpAny _ _ _ _ _ {s with heap:=h1.push (seqObj "list" vs.toArray 0)};refine Vh (WD (wpAny_call_entry_kw slot_list_sort ⟨_,gl,rfl⟩ entry_list_sort (Bd (p:=p) (m:=m) (s:={s with heap:=h1.push (seqObj "list" vs.toArray 0)}) (show A.units+1+1<cLine by lia) gl (fun v mv=>(t v mv).imp fun k tk=>tk.to fun b o e _=>k2 b o e) (by show(vs.map (lF p (h1.push (seqObj "list" vs.toArray 0)))).Nodup;rw[VS kk];exact nd) N4 fun zs y1 y2=>⟨_,rfl,?_⟩) (args_list_sort_rev _ _)));obtain⟨c,gc⟩:∃c,(sortedHeap (h1.push (seqObj "list" vs.toArray 0)) h1.objs.size vs zs.toArray).get? h1.objs.size=some (seqObj "list" zs.toArray c):=
  ⟨_,by unfold sortedHeap;exact Zi (Vj _ (Vj _ (Zi gl fun _ => #[]))) fun _=>zs.toArray⟩
 have y3:cB (zs.map (lF p s.heap)):=by rw[<-VS fun v mv=>kk v (y1.mem_iff.mp mv)];exact y2
 refine Vr ⟨_,rfl,h _ h1.objs.size c zs (fun b o e=>?_) ‹_› y1 y3 gc⟩;have e1:=k1 b o e;have ne:h1.objs.size≠b:=WX (Vu e1);unfold sortedHeap;exact(V0 _ _ ne).trans (Vj _ (Vj _ ((V0 _ _ ne).trans (Vj _ e1))))
end
end SO
namespace L2
open PySem.Spec PyProof.Rows
def Be(p:Bool)(H:Hp)(v:V)(k:_O):Prop:=if p=true then ∃a b e c,k=e++[c]/\v=.ref a/\H a=some (.tup [.ref b,.int c])/\H b=some (.tup (e.map V.int))else ∃a,v=.ref a/\H a=some (.tup (k.map V.int))
def Tx(p:Bool)(m:Nat)(ks:List (_O)):Prop:=∀k∈ks,k.length=m/\(if p=true then 2 else 1)<=m
section
variable{X:Cx}{p:Bool}
theorem DW{ag:_M}{σ:St}{H:Hp}{s:_U}(I:aI X ag σ H s){b:_V}{e:_O}(h:H b=some (.tup (e.map V.int)))(ne:e≠[]):SO.fM s.heap (.ref b) e:=by
 obtain⟨_,aD,rv,o,g1,g2,n,g3⟩:=(show bE X.prog X.w H s.heap b (.tup (e.map V.int))from I.bH _ _ h)
 exact⟨ne,b,o,aD.toArray,n,rfl,g1,g2,g3,lg rv⟩
theorem N5{m:Nat}{ag:_M}{σ:St}{H:Hp}{s:_U}(I:aI X ag σ H s){v:V}{u:_T}{k:_O}(h:Be p H v k)(hr:bb v u)(hl:k.length=m)(hm:(if p=true then 2 else 1)<=m):SO.Kd p (m-1) s.heap u k:=by
 unfold Be at h;unfold SO.Kd;cases p with
 |true=>
  obtain⟨a,b,e,c,rfl,rfl,ha,hb⟩:=h;cases hr;rw[Vo rfl]at hm;rw[Vt]at hl;have le:e.length+1=m:=hl;obtain⟨_,aD,rv,o,g1,g2,n,g3⟩:=(show bE X.prog X.w H s.heap a (.tup [.ref b,.int c])from I.bH _ _ ha)
  cases rv with
  |cons r1 rv=>
   cases rv with
   |cons r2 rv=>
    cases rv;cases r1;obtain⟨t,rfl⟩:=r2;exact⟨e,c,.ref b,t,a,o,n,rfl,by lia,rfl,g1,g2,g3,DW I hb (fun z=>by rw[z,VJ]at le;lia)⟩
 |false=>
  obtain⟨a,rfl,ha⟩:=h;cases hr;rw[Vv Vs]at hm;exact DW I ha (fun z=>by rw[z,VJ]at hl;lia)
theorem vZ(hu:X.A.units+64<cLine):xX X (.builtin "sorted") ["reverse"] (fun xs zs H Q=>∃(m:Nat)(a:_V)(vs:List V)(ks:List (_O)),xs=[.ref a]/\zs=[.bl true]/\iY X.K H a vs/\Paired (Be p H) vs ks/\ks.Nodup/\ks.length<64/\Tx p m ks /\
  ∀(l:_V)(ws:List V)(outs:List (_O)),H l=none->outs.Perm ks->SO.cB outs->Paired (Be p H) ws outs->Q (.ref l) (upd H l (.lst ws))):=by
 intro ag s σ H xs zs us ws Q I rx rz h;obtain⟨m,a,vs,ks,rfl,rfl,ha,pk,nd,N4,hc,q⟩:=h;obtain⟨u,rfl,r1⟩:=vals1 rx;obtain⟨z,rfl,r2⟩:=vals1 rz;cases r1;cases r2;obtain⟨aD,r,p1,hz⟩:=I.list ha;have lz:=r.length;have lp:=X7 pk;have key:∀{vs:List V}{ks:List (_O)}{aD:_P},Paired (Be p H) vs ks->aV vs aD->Tx p m ks->aD.map (SO.lF p s.heap)=ks/\∀u∈aD,∃v k,bb v u/\Be p H v k/\SO.Kd p (m-1) s.heap u k:=by
  intro vs ks aD pk
  induction pk generalizing aD with
  |nil=>intro r _;cases r;exact⟨rfl,fun u m=>by cases m⟩
  | @cons v k vs ks a _ ih=>
   intro r hc;cases r with
   | @cons _ u _ aD ru rr=>
    obtain⟨i1,i2⟩:=ih rr fun k mk=>hc k (Vk _ mk);have kd:=N5 I a ru (hc k Vm).1 (hc k Vm).2;refine⟨by rw[Vl,i1,SO.lG kd],fun w mw=>?_⟩;rcases VH.mp mw with rfl|mw
    .exact⟨v,k,ru,a,kd⟩
    .exact i2 w mw
 obtain⟨ek,al⟩:=key pk r hc;refine SO.uw (p:=p) (m:=m-1) hu p1.isList (fun v mv=>by obtain⟨_,k,_,_,kd⟩:=al v mv;exact⟨k,kd⟩) (by rw[ek];exact nd) (by lia) fun h' l c zs kp hl z1 z2 g=>?_;have mk:∀{zs:_P},(∀u∈zs,u∈aD)->∃ws,aV ws zs/\Paired (Be p H) ws (zs.map (SO.lF p s.heap)):=by
  intro zs
  induction zs with
  |nil=>intro _;exact⟨[],.nil,.nil⟩
  |cons z zs ih=>
   intro hm;obtain⟨ws,v1,v2⟩:=ih fun y my=>hm y (Vk _ my);obtain⟨v,k,e1,e2,e3⟩:=al z (hm z Vm);refine⟨v::ws,.cons e1 v1,?_⟩;rw[Vl,SO.lG e3];exact .cons e2 v2
 obtain⟨ws,v1,v2⟩:=mk fun u mu=>z1.mem_iff.mp mu;have op:(zs.map (SO.lF p s.heap)).Perm ks:=by rw[<-ek];exact z1.map _
 have l3:ws.length<=sizeLine:=by have e1:=v1.length;have e2:=z1.length_eq;lia
 exact⟨.ref l,_,I.laid (t':=s.toks) kp hl (show bE X.prog X.w _ h' _ (.lst ws) from⟨l3,_,c,v1,g⟩),rfl,q l ws _ (I.bH.fresh hl) op z2 v2⟩
end
end L2
namespace MN
open PySem.Spec L2
open PyProof.Rows hiding St kindOf
def zB(p:Bool)(k:_O):ak:=if p=true then .tup [cX k.dropLast,.int (k.getLastD 0)]else cX k
def N6(p:Bool)(v:ak):Option (_O):=if p=true then(match v with
 |.tup [.tup us,.int c]=>(dP us).map (· ++ [c])
 |_=>none) else(match v with
 |.tup us=>dP us
 |_=>none)
def v3(p:Bool):List ak->Option (List (_O))
 |[]=>some []
 |v::r=>match N6 p v,v3 p r with
  |some a,some b=>some (a::b)
  |_,_=>none
def G?(p:Bool)(v:ak)(st:ae):bI ak:=match v with
 |.loc n=>match ai st n with
  |some us=>match v3 p us with
   |some ks=>if ks.Nodup/\ks.length<64/\(∀k∈ks,k.length=(ks.headD []).length/\(if p=true then 2 else 1)<=(ks.headD []).length)then .ok (.loc st.length) (st++[.lst ((l? ks).map (zB p))])else .bad
   |none=>.bad
  |_=>.bad
 |_=>.bad
def iH(p:Bool)(m:ME):ME:=fun μ st=>(m μ st).bind (G? p)
theorem K_{p:Bool}{k:_O}(h:k≠[]):N6 p (zB p k)=some k:=by
 cases p with
 |true=>
  show(dP (k.dropLast.map ak.int)).map (· ++ [k.getLastD 0])=_;rw[gq];show some (k.dropLast++[k.getLastD 0])=_;rw[YA,List.getLast?_eq_some_getLast h];show some (k.dropLast++[k.getLast h])=_;rw[List.dropLast_concat_getLast]
 |false=>exact gq k
theorem zC{p:Bool}:∀{ks:List (_O)},(∀k∈ks,k≠[])->v3 p (ks.map (zB p))=some ks
 |[],_=>rfl
 |k::ks,h=>by rw[Vl];unfold v3;rw[K_ (h k Vm),zC fun k m=>h k (Vk _ m)]
theorem zD{p:Bool}{n m:Nat}{st:ae}{ks:List (_O)}(h1:ai st n=some (ks.map (zB p)))(h2:ks.Nodup)(N4:ks.length<64)(h3:∀k∈ks,k.length=m)(hm:(if p=true then 2 else 1)<=m):
  G? p (.loc n) st=.ok (.loc st.length) (st++[.lst ((l? ks).map (zB p))]):=by
 have ne:∀k∈ks,k≠[]:=fun k mk z=>by have:=h3 k mk;rw[z,VJ]at this;cases p<;>simp at hm<;>lia
 unfold G?;dsimp only;rw[h1];dsimp only;rw[zC ne];dsimp only;rw[Vo ⟨h2,N4,fun k mk=>by
  have hd:(ks.headD []).length=m:=by
   cases ks with
   |nil=>cases mk
   |cons a _=>exact h3 a Vm
  rw[hd];exact⟨h3 k mk,hm⟩⟩]
section
variable{X:Cx}{E:XK}
theorem K!{p:Bool}{ρ:_R}{H:Hp}{u:ak}{v:V}{k:_O}(h:N6 p u=some k)(r:Rl (wo X).K ρ H u v):Be p H v k:=by
 unfold N6 at h;unfold Be;cases p with
 |true=>
  rw[Vo rfl]at h⊢;split at h
  .rename_i us c;cases z:dP us with
   |none=>rw[z]at h;cases h
   |some e=>
    rw[z]at h;cases h;obtain⟨a,vs,rfl,ha,rv⟩:=r.AG;obtain⟨v1,r1,rfl,q1,rv⟩:=rv.bC;obtain⟨v2,r2,rfl,q2,rv⟩:=rv.bC;rw[rv.dE]at ha;rw[q2.bK]at ha;rw[eQ z]at q1;obtain⟨b,ws,rfl,hb,Rp⟩:=q1.AG;rw[aT.iD Rp]at hb;exact⟨a,b,e,c,rfl,rfl,ha,hb⟩
  .cases h
 |false=>
  rw[Vv Vs]at h⊢;split at h
  .rename_i us;rw[eQ h]at r;obtain⟨b,ws,rfl,hb,Rp⟩:=r.AG;rw[aT.iD Rp]at hb;exact⟨b,rfl,hb⟩
  .cases h
theorem zE{p:Bool}{ρ:_R}{H:Hp}:∀{us:List ak}{vs:List V}{ks:List (_O)},v3 p us=some ks->aT (wo X).K ρ H us vs->Paired (Be p H) vs ks
 |[],vs,ks,h,r=>by cases h;rw[r.dE];exact .nil
 |u::us,vs,ks,h,r=>by
  obtain⟨v,ws,rfl,q1,q2⟩:=r.bC;unfold v3 at h;cases z1:N6 p u with
  |none=>rw[z1]at h;cases h
  |some a=>
   cases z2:v3 p us with
   |none=>rw[z1,z2]at h;cases h
   |some b=>
    rw[z1,z2]at h;cases h;exact .cons (K! z1 q1) (zE z2 q2)
theorem K?{p:Bool}{ρ:_R}{H:Hp}{v:V}{k:_O}(h:Be p H v k):Rl (wo X).K ρ H (zB p k) v:=by
 unfold Be at h;unfold zB;cases p with
 |true=>
  rw[Vo rfl]at h⊢;obtain⟨a,b,e,c,rfl,rfl,ha,hb⟩:=h;rw[List.dropLast_concat,YA,List.getLast?_concat];exact Rl.j? ha (aT.cons (Rl.j? hb (aT.ints _)) (aT.cons (Rl.mkInt c) aT.nil))
 |false=>
  rw[Vv Vs]at h⊢;obtain⟨a,rfl,ha⟩:=h;exact Rl.j? ha (aT.ints _)
theorem Ha{p:Bool}{ρ:_R}{H:Hp}{vs:List V}{ks:List (_O)}(h:Paired (Be p H) vs ks):aT (wo X).K ρ H (ks.map (zB p)) vs:=by
 induction h with
 |nil=>exact aT.nil
 |cons a _ ih=>exact aT.cons (K? a) ih
theorem v7{b:Bool}{x:Str}{p pos cp kp:Pos}{e:Expr}{md:ME}{j:Nat}(hu:X.A.units+64<cLine)(hg:Gl X x)(hm:X.mg x=none)(hv:bootBuiltins x=some (.builtin "sorted"))(ha:PE X e (tE X E md))(hn:x ≠ "__name__":=by decide)(kU:(x==("__debug__":Str))=false:=by decide)(he:starEach [e] X.env=(false,eval e X.env)::starEach [] X.env:=by rfl):PE X (.Call (.Name x p) [e] [⟨some "reverse",.Constant (.bool true) j cp,kp⟩] pos) (tE X E (iH b md)):=by
 refine PE.imp (sT (vZ (p:=b) hu) hg hm hv (kT ha tU he) (yP HG B') (by rfl) hn kU (by rw[he];rfl) (by rw[he];rfl) (by rfl) (by rfl)) ?_;rintro σ H Q ⟨μ,ρ,st,rs,sr,h⟩;refine go μ ρ st rs sr h fun d aL ρ1 H1 v e1 bJ r1 h1=>?_;show ∃(m:Nat)(a:_V)(vs:List V)(ks:List (_O)),[v]=[V.ref a]/\[V.bl true]=[V.bl true]/\_;cases d with
 |loc n=>
  obtain⟨a,rfl,ha⟩:=r1.cD;unfold G? at h1;dsimp only at h1;cases z:ai aL n with
  |none=>rw[z]at h1;exact h1.elim
  |some us=>
   rw[z]at h1;dsimp only at h1;cases z2:v3 b us with
   |none=>rw[z2]at h1;exact h1.elim
   |some ks=>
    rw[z2]at h1;dsimp only at h1;by_cases hz:ks.Nodup/\ks.length<64/\(∀k∈ks,k.length=(ks.headD []).length/\(if b=true then 2 else 1)<=(ks.headD []).length)
    .rw[Vo hz]at h1;obtain⟨vs,h3,rv⟩:=a_ bJ z ha;refine⟨_,a,vs,ks,rfl,rfl,h3,zE z2 rv,hz.1,hz.2.1,hz.2.2,fun l ws outs hl op fo pv=>?_⟩;have eo:outs=l? ks:=ll (op.trans (dB ks).symm) fo (fU hz.1);rw[eo]at pv;obtain⟨k1,k2,k3⟩:=gJ bJ (Ha pv) hl;exact h1 _ _ _ k1 k2 k3
    .rw[Vv hz]at h1;exact h1.elim
 |_=>exact h1.elim
def N7(us ws:List ak)(st:ae):bI ak:=match dP us,dP ws with
 |some a,some b=>if a≠[]/\b≠[]then .ok (.bl (!(SO.lexLt b a))) st else .bad
 |_,_=>.bad
def LV:F2
 |.int i,.int j,st=>.ok (.bl (decide (i<=j))) st
 |.tup us,.tup ws,st=>N7 us ws st
 |_,_,_=>.bad
theorem K'{a b:_O}{st:ae}(ha:a≠[])(hb:b≠[]):LV (.tup (a.map ak.int)) (.tup (b.map ak.int)) st=.ok (.bl (!(SO.lexLt b a))) st:=by show N7 _ _ _=_;unfold N7;rw[gq,gq];exact Vo ⟨ha,hb⟩
theorem La(hu:X.A.units<cLine):c5 X (compareOp .LtE) (fun x y H Q=>∃a b xs ys,x=.ref a/\y=.ref b/\xs≠[]/\ys≠[]/\jz X.K H a (xs.map V.int)/\jz X.K H b (ys.map V.int)/\Q (.bl (!(SO.lexLt ys xs))) H):=by intro ag s σ H x y v u Q I rx ry h;obtain⟨a,b,xs,ys,rfl,rfl,n1,n2,ha,hb,q⟩:=h;cases rx;cases ry;obtain⟨aD,r1,p1,_⟩:=I.tuple ha;obtain⟨cy,r2,p2,_⟩:=I.tuple hb;obtain⟨o,ho,hc,n,hd⟩:=id p1;obtain⟨o2,n!,tW,m,hd2⟩:=id p2;exact SO.K6 hu ⟨n1,a,o,aD.toArray,n,rfl,ho,hc,hd,lg r1⟩ ⟨n2,b,o2,cy.toArray,m,rfl,n!,tW,hd2,lg r2⟩ ⟨.bl _,H,I,rfl,q⟩
theorem DX(hu:X.A.units+64<cLine):c5 X (compareOp .LtE) (rM (wo X) E LV):=by
 refine c5.imp (c5.or Mv (La (by lia))) ?_;rintro x y H Q ⟨ρ,st,u,w,sr,r1,r2,h⟩;cases u with
 |int i=>
  cases w with
  |int j=>exact .inl ⟨i,j,r1.bK,r2.bK,d0 sr h⟩
  |_=>exact h.elim
 |tup us=>
  cases w with
  |tup ws=>
   replace h:wR (wo X) E (Rl (wo X).K) ρ H Q (N7 us ws st):=h;unfold N7 at h;cases z1:dP us with
   |none=>rw[z1]at h;exact h.elim
   |some a=>
    cases z2:dP ws with
    |none=>rw[z1,z2]at h;exact h.elim
    |some b=>
     rw[z1,z2]at h;dsimp only at h;by_cases hz:a≠[]/\b≠[]
     .rw[Vo hz]at h;rw[eQ z1]at r1;rw[eQ z2]at r2;obtain⟨p,vs,rfl,hp,rp⟩:=r1.fe;obtain⟨p2,vs2,rfl,OS,rp2⟩:=r2.fe;rw[aT.iD rp]at hp;rw[aT.iD rp2]at OS;exact .inr ⟨p,p2,a,b,rfl,rfl,hz.1,hz.2,hp,OS,d0 sr h⟩
     .rw[Vv hz]at h;exact h.elim
  |_=>exact h.elim
 |_=>exact h.elim
end
end MN
namespace L2
open PySem.Spec PyProof.Rows
section
variable{X:Cx}
theorem yj:bc X (.type "dict") (fun xs H Q=>∃a ay,xs=[.ref a]/\Rd H a (.dK ay)/\∀p,H p=none->Q (.ref p) (upd H p (.dK ay))):=by intro ag s σ H xs us Q I r h;obtain⟨a,ay,rfl,ha,q⟩:=h;obtain⟨u,rfl,r1⟩:=vals1 r;cases r1;exact Ct I ha fun p s' hp I'=>⟨.ref p,_,I',rfl,q p hp⟩
theorem yk(hh:X.A.handled=none):bc X (.type "list") (fun xs H Q=>∃d ay,xs=[.ref d]/\H d=some (.dT ay)/\∀l vs,H l=none->Paired (fun v k=>∃a,v=.ref a/\H a=some (.tup (k.map kV))) vs (ay.map (·.1))->Q (.ref l) (upd H l (.lst vs))):=by
 intro ag s σ H xs us Q I r h;obtain⟨d,ay,rfl,hd,q⟩:=h;obtain⟨u,rfl,r1⟩:=vals1 r;cases r1;obtain⟨hz,lo,xs,pr,o,es,ep,h1,h2,h3,h4,h5⟩:=(show bE X.prog X.w H s.heap d (.dT ay)from I.bH d _ hd)
 have key:∀{ay:List (List bD×V)}{xs:List (List bD×_V×_T)},KT H ay xs->∃vs,aV vs (xs.map fun x=>Value.ref x.2.1)/\Paired (fun v k=>∃a,v=.ref a/\H a=some (.tup (k.map kV))) vs (ay.map (·.1)):=by
  intro ay xs pr
  induction pr with
  |nil=>exact⟨[],.nil,.nil⟩
  | @cons p x ps ys a _ ih=>
   obtain⟨vs,i1,i2⟩:=ih;exact⟨.ref x.2.1::vs,.cons rfl i1,.cons ⟨x.2.1,rfl,a.2.1⟩ i2⟩
 obtain⟨vs,v1,v2⟩:=key pr;have ev:es.toList.map (·.key)=xs.map fun x=>Value.ref x.2.1:=by rw[h4,VE];rfl
 have lv:es.size=ay.length:=by have:=We List.length h4;rw[VP,Vi]at this;have:=X7 pr;lia
 refine W.kdl_call (SO.GF (es:=es) (ep:=ep) lo) hh ⟨o,h1,h2.1,h3⟩ (by lia) fun h' tk acc c kp g al=>?_;have ea:acc.toList=xs.map fun x=>Value.ref x.2.1:=by rw[SO.GG al,ev]
 have l3:vs.length<=sizeLine:=by have:=X7 v2;rw[Vi]at this;lia
 refine⟨.ref s.heap.objs.size,_,I.laid (t':=tk) kp (Vp _) (show bE X.prog X.w _ h' _ (.lst vs) from⟨l3,acc.toList,c,by rw[ea];exact v1,by rw[Array.toArray_toList];exact g⟩),rfl,q _ vs (I.bH.fresh (Vp _)) v2⟩
end
end L2
namespace MN
open PySem.Spec L2
open PyProof.Rows hiding St kindOf
def Bf:FN
 |[.loc n],st=>match ei st n with
  |some ay=>.ok (.loc st.length) (st++[.dK ay])
  |none=>.bad
 |_,_=>.bad
def uz:FN
 |[.loc n],st=>match st[n]? with
  |some (.dT ay)=>.ok (.loc st.length) (st++[.lst (ay.map fun p=>.tup (p.1.map gY))])
  |_=>.bad
 |_,_=>.bad
theorem uA{K:_N}{ρ:_R}{H:Hp}:∀(k:List bD),aT K ρ H (k.map gY) (k.map kV)
 |[]=>aT.nil
 |.inl i::k=>aT.cons (Rl.mkInt i) (uA k)
 |.inr x::k=>aT.cons (Rl.mkStr x) (uA k)
section
variable{X:Cx}{E:XK}
theorem ym:bc X (.type "dict") (cM (wo X) E Bf):=by
 refine bc.imp yj ?_;rintro xs H Q ⟨ρ,st,us,sr,r,h⟩;unfold Bf at h;split at h
 .rename_i n;obtain⟨v,rfl,r1⟩:=r.qW;obtain⟨a,rfl,ha⟩:=r1.cD;split at h
  .rename_i ay e;obtain⟨bV,h1,h2⟩:=uv sr e ha;refine⟨a,bV,rfl,h1,fun p hp=>?_⟩;have s:=bW (o:=.dK bV) hp;obtain⟨k1,k2,k3⟩:=k8 sr hp (c:=.dK ay) ⟨_,a!,h2.mono (aG.snoc p s)⟩;exact h _ _ _ k1 k2 k3
  .exact h.elim
 .exact h.elim
theorem yn(hh:X.A.handled=none):bc X (.type "list") (cM (wo X) E uz):=by
 refine bc.imp (yk hh) ?_;rintro xs H Q ⟨ρ,st,us,sr,r,h⟩;unfold uz at h;split at h
 .rename_i n;obtain⟨v,rfl,r1⟩:=r.qW;obtain⟨a,rfl,ha⟩:=r1.cD;split at h
  .rename_i ay e;obtain⟨bV,h1,h2⟩:=sr.cell n _ a e ha;refine⟨a,bV,rfl,h1,fun p vs hp hv=>?_⟩;have rl:aT (wo X).K ρ H (ay.map fun p=>ak.tup (p.1.map gY)) vs:=by
    have e2:(ay.map fun p=>ak.tup (p.1.map gY))=(bV.map (·.1)).map fun k=>ak.tup (k.map gY):=by rw[<-h2.1,VE];rfl
    rw[e2];clear e2;generalize bV.map (·.1)=ks at hv
    induction hv with
    |nil=>exact aT.nil
    |cons a _ ih=>
     obtain⟨b,rfl,hb⟩:=a;exact aT.cons (Rl.j? hb (uA _)) ih
   obtain⟨k1,k2,k3⟩:=gJ sr rl hp;exact h _ _ _ k1 k2 k3
  .exact h.elim
 .exact h.elim
end
end MN
namespace PM
open PySem.Spec L2 MN
open PyProof.Rows hiding St
def bu:FN:=eg 3 6 (aw (aE 3 (ah Io bf aK)) (aw (cw (pM (aa aZ ao)) (cW [(au 4),(au 5)]) (dY (bN (ah kY (ah vL (ah dr bt (bp ["Monic"] "top" cY)) aK) aK)) (aO c6) bg)) (aO (mC .bR))))
def b_:FN:=eg 5 9 (cw (cg aZ) (cW [(au 5),(au 6)]) (aw (aE 7 (ah cb cY bt)) (aw (aE 8 (ah cK (ah cb (mK bf kX bT) (ah cf c6 fP)) aK)) (dY (bN (ah iZ BR bT)) (HZ bf kX BR) (dY (bN (ah (F8 false) kX bf)) (bA (fG bf kX)) bg)))))
def eR:FN:=eg 2 6 (aw (aE 2 pJ) (aw (cw (cg bf) (au 3) (fE aZ (ah aY bt bT) (ah cb (mK aZ (ah aY bt bT) bT) (ah aY bt b!)))) (aw (aE 4 (c9 ao)) (aw (cw (cg (iH false (aq uz (aa aZ ao)))) (au 5) (dY (bN (ah iZ (ah cK (ah gi aZ cY) aK) bT)) (bA (fQ bU c6 (aa (eB (aa cY (aa (ah cK (ah gi aZ cY) aK) ao))) ao))) bg)) (aO c6)))))
def cU:FN:=eg 2 6 (aw (aE 2 (c9 ao)) (aw (cw (cg aK) (au 3) (cw (cg bf) (au 4) (aw (aE 5 (aq mH (aa (bw 1 [3,4] (bY (aa (aq c_ (aa (ah aY bt bT) ao)) ao)) (au 0) aJ (ah cb (ah aY (ah aY bf bT) aK) (ah aY (ah aY aZ bT) aK))) ao))) (bA (fQ bU aZ (aa (eB (aa cY (aa (ah cf (ah aY bt b!) (ah aY c6 b!)) ao))) ao)))))) (aO aZ)))
def dS:FN:=eg 2 3 (aw (cw (bY (aa (aq c_ (aa aK ao)) ao)) (au 2) (dY (bN (ah qX (ah aY aK aZ) (ah aY bf aZ))) (aO (mC (.bl false))) bg)) (aO (mC (.bl true))))
def aS:FN:=eg 2 2 (aO (iH true (bw 2 [0] (d8 bf) (cW [(au 0),(au 1)]) aJ (eB (aa (dj "Packing" "exponents_of" PM.aX aZ (aa aK ao)) (aa bf ao))))))
def c8:FN:=eg 5 9 (fD (bN (ah qX (aq lC (aa aZ ao)) bT)) (aw (aE 5 (aq iV (aa aZ ao))) (aw (aE 6 (aq PM.bu (aa bf (aa cY (aa bt ao))))) (aw (dY (bN (ah (O6 false) fP (mC .bR))) DT bg) (aw (aE 7 (ah dr cY (bp ["Monic"] "top" (ah aY bt fP)))) (aw (aE 8 (fG aZ cY)) (aw (fE (ah aY c6 fP) kX BR) (bA (aq PM.b_ (aa aK (aa aZ (aa (bp ["Monic"] "tail" (ah aY bt fP)) (aa kX (aa (mG BR) ao))))))))))))))
def g!:FN:=eg 4 6 (aw (aE 4 (aq pE (aa bt ao))) (aw (cw (bY (aa (aq c_ (aa aZ ao)) ao)) (au 5) (aE 4 (ah cb c6 (aq PM.cU (aa (ah aY bf cY) (aa (ah aY aZ cY) ao)))))) (aO (aq PM.eR (aa aK (aa c6 ao))))))
def bL:FN:=eg 2 3 (aw (dY (eu (cF (bN (u? "tuple" aK))) (bN (ah iZ (aq c_ (aa aK ao)) bf))) (aO (mC (.bl false))) bg) (aw (cw (cg aK) (au 2) (dY (eu (cF (bN (aq PM.dN (aa aZ ao)))) (bN (ah ltV aZ bT))) (aO (mC (.bl false))) bg)) (aO (mC (.bl true)))))
def d9:FN:=eg 3 4 (aw (aE 3 (ah cK (aq PM.ba (aa aK (aa bf ao))) (ah cb (ah aY aZ EU) b!))) (aO (aq PM.eR (aa (ah aY aZ bT) (aa (bw 1 [1,0,2] (bY (aa bt ao)) (au 0) aJ (aq PM.fA (aa (aq PM.ba (aa aZ (aa (ah cb (ah cb bf b!) aK) ao))) (aa bt ao)))) ao)))))
def jn:FN:=eg 2 4 (aw (aE 2 (c9 ao)) (aw (cw (cg aK) (au 3) (dY (bN (ah kY (bw 1 [3] (cg bf) (au 0) (bN (aq PM.dS (aa (ah aY (ah aY aK bT) bT) (aa (ah aY bf bT) ao)))) aK) (c9 ao))) (bA (fQ bU aZ (aa bt ao))) bg)) (aO aZ)))
def bX:FN:=eg 4 7 (aw (aE 4 (c9 ao)) (aw (cw (nG true true (aa aZ (aa bt ao))) (cW [(au 5),(au 6)]) (bA (fQ bU c6 (aa (dj "Packing" "sum_of_terms" PM.aS bf (aa (aq PM.bo (aa aK (aa fP (aa (bp ["Monic"] "back" cY) ao)))) ao)) ao)))) (aO c6)))
def c!:FN:=eg 5 8 (aw (aE 5 (aq Bf (aa aZ ao))) (aw (aE 6 gh) (aw (fD (bN (ah qX (aq lC (aa cY ao)) bT)) (aw (bA (aq PM.c8 (aa aK (aa bf (aa cY (aa bt (aa c6 ao))))))) (dY (bN (ah qX (aq lC (aa cY ao)) bT)) (aw (aE 7 (aq iV (aa cY ao))) (fE fP kX (fG cY kX))) bg))) (aO fP))))
def cG:FN:=eg 3 5 (aw (dY (cF (bN (u? "list" aK))) (aO (mC (.bl false))) bg) (aw (cw (bY (aa (aq c_ (aa aK ao)) ao)) (au 3) (aw (aE 4 (ah aY aK bt)) (aw (dY (eu (cF (bN (u? "tuple" c6))) (eu (bN (ah iZ (aq c_ (aa c6 ao)) iP)) (cF (bN (aq PM.bL (aa (ah aY c6 bT) (aa aZ ao))))))) (aO (mC (.bl false))) bg) (aw (dY (eu (cF (bN (aq PM.dN (aa (ah aY c6 b!) ao)))) (eu (bN (ah ltV (ah aY c6 b!) b!)) (bN (ah O4 (ah aY c6 b!) bf)))) (aO (mC (.bl false))) bg) (dY (vE (bN (ah qX bt bT)) (bN (ah LV (ah aY (ah aY aK (ah dr bt b!)) bT) (ah aY c6 bT)))) (aO (mC (.bl false))) bg))))) (aO (mC (.bl true)))))
def d_:FN:=eg 4 5 (aw (dY (eu (cF (bN (u? "list" aK))) (bN (ah iZ (aq c_ (aa aK ao)) bt))) (aO (mC (.bl false))) bg) (aw (cw (cg aK) (au 4) (dY (cF (bN (aq PM.cG (aa c6 (aa bf (aa aZ ao)))))) (aO (mC (.bl false))) bg)) (aO (mC (.bl true)))))
def gy:FN:=eg 4 8 (aw (aE 4 (aq PM.dR (aa bf (aa (ah cb (c9 (aa aZ ao)) bt) ao)))) (aw (aE 5 (bw 1 [4,0] (cg bt) (au 0) aJ (vR "Monic" PM.cR (aa aZ (aa (dj "Packing" "terms_of" PM.bF bf (aa aK ao)) ao))))) (aw (aE 6 (bw 1 [] (cg bt) (au 0) aJ gh)) (aw (aE 7 (aq PM.c! (aa aK (aa (bp ["Packing"] "guards" c6) (aa (dj "Packing" "terms_of" PM.bF c6 (aa aZ ao)) (aa cY (aa fP ao))))))) (aO (eB (aa (aq PM.bX (aa aK (aa c6 (aa cY (aa fP ao))))) (aa (dj "Packing" "sum_of_terms" PM.aS c6 (aa kX ao)) ao))))))))
def reduced:FN:=eg 4 4 (aw (bA (aq PM.dO (aa aK ao))) (aw (bA (aq PM.dQ (aa bf ao))) (aw (bA (aq PM.bZ (aa bt ao))) (aO (aq PM.gy (aa aK (aa bf (aa aZ (aa bt ao)))))))))
def p9:MB:=(aO (vD (ah kY (ah aY fP b!) (aq PM.jn (aa bt (aa c6 ao)))) (ah kY (aq PM.g! (aa aZ (aa (ah aY fP bT) (aa c6 (aa (ah aY fP b!) ao))))) bt)))
def p_:MB:=(aw (dY (eu (cF (bN (aq PM.d_ (aa (ah aY fP bT) (aa aZ (aa (ah aY bf iP) (aa (aq c_ (aa c6 ao)) ao))))))) (cF (bN (aq PM.cG (aa (ah aY fP b!) (aa aZ (aa (ah aY bf iP) ao))))))) (aO (mC (.bl false))) bg) PM.p9)
def p!:MB:=(aw (dY (eu (bN (ah iZ (ah aY cY bT) bt)) (eu (bN (ah iZ (ah aY cY b!) c6)) (eu (cF (bN (u? "tuple" fP))) (bN (ah iZ (aq c_ (aa fP ao)) iP))))) (aO (mC (.bl false))) bg) PM.p_)
def p?:MB:=(aw (aE 6 (aq PM.reduced (aa aZ (aa (ah aY bf b!) (aa (ah aY cY bT) (aa (ah aY cY b!) ao)))))) PM.p!)
def qa:MB:=(aw (aE 5 (c9 (aa (aq pE (aa bt ao)) (aa (bw 1 [] (cg c6) (au 0) aJ (aq pE (aa aK ao))) ao)))) PM.p?)
def qb:MB:=(aw (aE 4 (bw 1 [0,1] (bY (aa (ah cK (aq PM.ba (aa aK (aa (mC (.int 11)) ao))) EU) ao)) (au 0) aJ (c9 (aa (aq PM.fA (aa (aq PM.ba (aa bf (aa (ah cb (mC (.int 12)) aK) ao))) (aa aZ ao))) ao)))) PM.qa)
def qc:MB:=(aw (aE 3 (aq PM.d9 (aa aK (aa iP (aa bf ao))))) PM.qb)
def kD:MB:=(aw (aE 2 (ah aY bf bT)) PM.qc)
def uB:FN:=eg 1 7 (aw (aE 1 (aq PM.g9 (aa aK ao))) PM.kD)
end PM
namespace PG
open PySem.Spec L2 MN
open PyProof.Rows hiding St kindOf
theorem lH(i:Int)(st:ae):PM.k_ [.int i] st=.ok (.bl true) st:=rfl
def FP:_O:=[2,3,5,7,11,13,17,19,23,29,31]
def qe(n:Int):Bool:=FP.contains n || (decide (2<=n)&&decide (n<=997)&&FP.all fun p => !(n.fmod p==0))
theorem any_ints(n:Int)(ns:_O):(ns.map ak.int).any (fun y=>Ka y (.int n))=ns.contains n:=by
 induction ns with
 |nil=>rfl
 |cons m ns ih=>
  simp only[Vl,W2,List.contains_cons];rw[ih];congr 1;show(m==n)=(n==m);rw[X0,Wu,Wu];exact⟨Eq.symm,Eq.symm⟩
theorem Hb(n:Int)(ns:_O)(st:ae):F8 false (.int n) (.mt (ns.map ak.int)) st=.ok (.bl (ns.contains n)) st:=by
 have h1:(ns.map ak.int).all flat=true:=by rw[List.all_map];exact WE.mpr fun _ _=>rfl
 unfold F8 HX;dsimp only;rw[Vo ⟨rfl,h1⟩,any_ints];rfl
theorem Hc(ns:_O)(f:Int->Bool):k7 ((ns.map ak.int).map fun v=>match v with|.int i=>.bl (f i)|_=>.bR)=some (ns.map f):=by
 induction ns with
 |nil=>rfl
 |cons m ns ih=>
  simp only[Vl,k7]at ih⊢;rw[ih];rfl
theorem jT(n:Int)(st:ae):∃g,PM.bO [.int n] st=.ok (.bl (qe n)) (st++g):=by
 have HV:F8 false (.int n) PM.d6 st=.ok (.bl (FP.contains n)) st:=Hb n FP st;cases h1:FP.contains n with
 |true=>
  refine⟨[],?_⟩;rw[h1]at HV;simp only[PM.bO,bB,av,bh,xM,gU,dy,fg,dz,jh,pT,kB,gm,fF,aA,gp,gW,fL,Vl,V3,V_,Nat.reduceSub,Vn,VJ,Nat.reduceAdd,HV,VL,qe,h1,ZZ]
 |false=>
  rw[h1]at HV;by_cases h2:n<2
  .refine⟨[],?_⟩;have e2:decide (n<2)=true:=VF h2;have e3:decide (2<=n)=false:=VD (by lia);simp only[PM.bO,bB,av,bh,aB,xM,gU,dy,fg,dz,Gp,jh,pT,ji,kB,gm,fF,pS,aA,jB,gp,gW,vN,fL,Vl,V3,V_,Nat.reduceSub,Vn,VJ,Nat.reduceAdd,HV,e2,VL,qe,h1,e3,Yg,YK]
  .have e2:decide (n<2)=false:=VD h2;have e3:decide (2<=n)=true:=VF (by lia);by_cases h3:997<n
   .refine⟨[],?_⟩;have e4:decide (997<n)=true:=VF h3;have e5:decide (n<=997)=false:=VD (by lia);simp only[PM.bO,bB,av,bh,aB,xM,gU,dy,fg,dz,oV,jh,pT,ji,kB,gm,fF,pS,aA,jB,gp,gW,vN,Ii,fL,Vl,V3,V_,Nat.reduceSub,Vn,VJ,Nat.reduceAdd,HV,e2,e4,VL,qe,h1,e3,e5,Yg,YK,Yf]
   .have e4:decide (997<n)=false:=VD h3;have e5:decide (n<=997)=true:=VF (by lia)
    let f:ak->ak:=fun v=>match v with|.int i=>.bl (!(n.fmod i==0))|_=>.bR
    have hc:aW (fun _=>True) (au 0) aJ (ah iZ (ah cK bf aK) (mC (ak.int 0))) (FP.map ak.int) (gH 1 [0] [some (ak.int n)]) st []=.ok ([]++((FP.map ak.int).filter fun _=>true).map f) st:=by
     refine iy trivial (fun τ=>∃x,τ=[x,some (.int n)]) (fun _=>true) f (FP.map ak.int) _ [] ⟨none,rfl⟩ ?_;rintro u hu τ ⟨x,rfl⟩;obtain⟨i,hi,rfl⟩:=VG.mp hu;have hi0:¬ i=0:=by intro z;subst z;revert hi;decide
     refine⟨_,rfl,⟨_,rfl⟩,rfl,fun _=>?_⟩;simp only[av,dy,fg,dz,kB,pU,fL,k!,Xf,iA hi0,f]
    have hb:k7 (((FP.map ak.int).filter fun _=>true).map f)=some (FP.map fun i => !(n.fmod i==0)):=by rw[Zp.mpr (fun _ _=>rfl)];exact Hc FP fun i => !(n.fmod i==0)
    refine⟨[.lst (((FP.map ak.int).filter fun _=>true).map f)],?_⟩;have ha:AL [.loc st.length] (st++[.lst (((FP.map ak.int).filter fun _=>true).map f)])=.ok (.bl (qe n)) (st++[.lst (((FP.map ak.int).filter fun _=>true).map f)]):=by unfold AL;dsimp only;rw[bx];dsimp only;rw[hb];simp only[qe,h1,e3,e5,Yg,Yf,List.all_map];rfl
    have hw:zi PM.d6 st=.ok (FP.map ak.int,fun _=>True) st:=rfl;have hz:(FP.map ak.int).length=11:=rfl;rw[V1]at hc;simp only[PM.bO,bB,av,bh,aB,gU,dy,fg,dz,oV,d7,dh,jh,ji,Ih,eM,kB,gm,fF,pS,gn,df,fR,aA,jB,gp,gW,cO,cj,vN,Ii,fL,Vl,V3,WQ,V1,V_,Nat.reduceSub,Vn,VJ,Nat.reduceAdd,VQ,Nat.reduceLeDiff,↓reduceIte,HV,e2,e4,hw,hc,ha,hz]
end PG
namespace Bg
def Hd(u0 u1 g0 g1 M:Int):Prop:=∃e x0 x1:Int,(e=1\/e = -1)/\0<=x0/\0<=x1/\u0=e*x0/\u1 = -(e*x1)/\x1*g0+x0*g1=M/\x0<=M+1/\x1<=M+1
theorem qf{x g:Int}(hx:0<=x)(hg:1<=g):x<=x*g:=by have:=Zg hg hx;simpa using this
theorem Hd.step{u0 u1 g0 g1 M q:Int}(h:Hd u0 u1 g0 g1 M)(hq:0<=q)(h1:1<=g1)(h2:0<=g0-q*g1):Hd u1 (u0-q*u1) g1 (g0-q*g1) M:=by
 obtain⟨e,x0,x1,he,p0,p1,r0,r1,hM,b0,b1⟩:=h;have p2:0<=x0+q*x1:=by have:=Int.mul_nonneg hq p1;lia
 have eq:(x0+q*x1)*g1+x1*(g0-q*g1)=M:=by rw[<-hM];grind
 refine⟨-e,x1,x0+q*x1,?_,p1,p2,?_,?_,eq,b1,?_⟩
 .rcases he with rfl|rfl<;>simp
 .rw[r1];grind
 .rw[r0,r1];grind
 .have k1:=qf p2 h1;have k2:=Int.mul_nonneg p1 h2;lia
theorem Hd.bound{u0 u1 g0 g1 M:Int}(h:Hd u0 u1 g0 g1 M):u0.natAbs<=(M+1).natAbs/\u1.natAbs<=(M+1).natAbs:=by obtain⟨e,x0,x1,he,p0,p1,r0,r1,hM,b0,b1⟩:=h;rcases he with rfl|rfl<;>(subst r0 r1;constructor<;>lia)
theorem Hd.N8{u0 u1 g0 g1 M q:Int}(h:Hd u0 u1 g0 g1 M)(hq:0<=q)(h1:1<=g1)(h2:0<=g0-q*g1):q<=g0:=by have:=qf hq h1;lia
structure aI(a b:Int)(g0 u0 v0 g1 u1 v1:Int):Prop where
 n0:0<=g0
 n1:0<=g1
 c0:u0*a+v0*b=g0
 c1:u1*a+v1*b=g1
 cu:Hd u0 u1 g0 g1 (b.natAbs:Int)
 cv:Hd v0 v1 g0 g1 (a.natAbs:Int)
 m0:g0<=(a.natAbs:Int)+(b.natAbs:Int)
 m1:g1<=(a.natAbs:Int)+(b.natAbs:Int)
 da:∃p q:Int,a=p*g0+q*g1
 db:∃p q:Int,b=p*g0+q*g1
def sgn(n:Int):Int:=if n<0 then -1 else 1
def qg(n:Int):Int:=if n<0 then -n else n
theorem jG(n:Int):qg n=(n.natAbs:Int):=by unfold qg;split<;>lia
theorem sgn_mul(n:Int):sgn n*n=qg n:=by unfold sgn qg;split<;>lia
theorem zF(n:Int):n=sgn n*qg n:=by unfold sgn qg;split<;>lia
theorem DY(n:Int):sgn n=1\/sgn n = -1:=by unfold sgn;split<;>simp
theorem aI.start(a b:Int):aI a b (qg a) (sgn a) 0 (qg b) 0 (sgn b):=by
 refine⟨by rw[jG];lia,by rw[jG];lia,by rw[sgn_mul];lia,by rw[sgn_mul];lia,?_,?_,by rw[jG];lia,by rw[jG];lia,⟨sgn a,0,?_⟩,⟨0,sgn b,?_⟩⟩
 .refine⟨sgn a,1,0,DY a,by decide,by decide,by simp,by simp,by rw[jG b];lia,by lia,by lia⟩
 .refine⟨-(sgn b),0,1,?_,by decide,by decide,by simp,by simp,by rw[jG a];lia,by lia,by lia⟩;rcases DY b with h|h<;>simp[h]
 .have:=zF a;lia
 .have:=zF b;lia
theorem aI.turn{a b g0 u0 v0 g1 u1 v1:Int}(h:aI a b g0 u0 v0 g1 u1 v1)(h1:g1≠0):aI a b g1 u1 v1 (g0-g0.fdiv g1*g1) (u0-g0.fdiv g1*u1) (v0-g0.fdiv g1*v1)/\(g0-g0.fdiv g1*g1).toNat<g1.toNat/\0<=g0.fdiv g1/\g0.fdiv g1<=g0:=by
 have p1:1<=g1:=by have:=h.n1;lia
 have ef:g0.fdiv g1=g0 / g1:=Zt g0 (by lia);have em:g0-g0.fdiv g1*g1=g0 % g1:=by have:=Int.emod_add_mul_ediv g0 g1;rw[ef,Int.mul_comm];lia
 have q0:0<=g0.fdiv g1:=by rw[ef];exact Int.ediv_nonneg h.n0 (by lia)
 have r0:0<=g0-g0.fdiv g1*g1:=by rw[em];exact XZ _ h1
 have r1:g0-g0.fdiv g1*g1<g1:=by rw[em];exact Xv _ (by lia)
 generalize hq:g0.fdiv g1=q at *;have m1:=h.m1;obtain⟨p,r,ea⟩:=h.da;obtain⟨p',r',eb⟩:=h.db;refine⟨⟨h.n1,r0,h.c1,?_,h.cu.step q0 p1 r0,h.cv.step q0 p1 r0,h.m1,by lia,⟨p*q+r,p,?_⟩,⟨p'*q+r',p',?_⟩⟩,by lia,q0,h.cu.N8 q0 p1 r0⟩
 .have e0:=h.c0;have e1:=h.c1
  grind
 .grind
 .grind
end Bg
namespace PG
open PySem.Spec L2 MN
open PyProof.Rows hiding St kindOf
def nN(n:Int):Bool:=n==0 || qe n
theorem nO(n:Int)(st:ae):∃g,PM.ix [.int n] st=.ok (.bl (nN n)) (st++g):=by
 cases h:n==0 with
 |true=>exact⟨[],by simp only[PM.ix,bB,av,bh,gU,dy,fg,dz,ui,Kp,d7,dh,jh,kB,xN,H?,gn,df,fR,gp,vO,fL,Vl,V3,V_,Nat.reduceSub,Vn,VJ,Nat.reduceAdd,lH,h,nN,ZZ,VL]⟩
 |false=>
  obtain⟨g,e⟩:=jT n st;exact⟨g,by simp only[PM.ix,bB,av,bh,gU,dy,fg,dz,ui,Kq,d7,dh,jh,kB,xN,H?,gn,df,fR,gp,vO,fL,Vl,V3,WQ,V1,V_,Nat.reduceSub,Vn,VJ,Nat.reduceAdd,lH,h,nN,Yg,e]⟩
theorem rC{n:Int}(h:nN n=true)(st:ae):∃g,PM.gj [.int n] st=.ok .bR (st++g):=by obtain⟨g,e⟩:=nO n st;rw[h]at e;exact⟨g,by simp only[PM.gj,bB,av,bh,Di,Dl,d7,dh,ji,gm,fF,uj,gn,df,fR,jB,gW,fL,Vl,V3,WQ,V1,V_,Nat.reduceSub,Vn,VJ,Nat.reduceAdd,Xo,e]⟩
theorem rD(n:Int)(st:ae):PM.dw [.int n] st=.ok (.int (Bg.sgn n)) st:=by
 unfold Bg.sgn;by_cases h:n<0
 .have e:decide (n<0)=true:=VF h;simp only[PM.dw,bB,av,bh,gU,dy,fg,dz,uk,jh,kB,gm,fF,sR,Dn,Ku,gp,vN,fL,Vl,V3,WQ,V1,V_,Nat.reduceSub,Vn,VJ,Nat.reduceAdd,e,Vo h]
 .have e:decide (n<0)=false:=VD h;simp only[PM.dw,bB,av,bh,gU,dy,fg,dz,zg,jh,kB,gm,fF,sR,gp,vN,fL,Vl,V3,WQ,V1,V_,Nat.reduceSub,Vn,VJ,Nat.reduceAdd,e,Vv h]
def wU(g u v:Int):ak:=.tup [.int g,.int u,.int v]
theorem bounds{a b g0 u0 v0 g1 u1 v1:Int}(h:Bg.aI a b g0 u0 v0 g1 u1 v1)(ha:oh 400 a)(hb:oh 400 b):oh 402 g0/\oh 402 u0/\oh 402 v0/\oh 402 g1/\oh 402 u1/\oh 402 v1:=by
 have e:(2:Nat) ^ 402=4*2 ^ 400:=by decide +kernel
 have pos:0<(2:Nat) ^ 400:=by decide +kernel
 have a':a.natAbs<2 ^ 400:=ha;have b':b.natAbs<2 ^ 400:=hb;obtain⟨k1,k2⟩:=h.cu.bound;obtain⟨k3,k4⟩:=h.cv.bound;have m0:=h.m0;have m1:=h.m1;have n0:=h.n0;have n1:=h.n1;refine⟨?_,?_,?_,?_,?_,?_⟩<;>(show _<2 ^ 402;rw[e];lia)
def msr(μ:MN.Env):Nat:=match(μ[3]?:Option (Option ak)) with
 |some (some (ak.tup (ak.int g::_)))=>g.toNat
 |_=>0
def Iq(q:Int)(v:ak):ak:=match v with
 |.tup [.int x,.int y]=>.int (x-q*y)
 |_=>.bR
theorem uC{q x y:Int}:Iq q (.tup [.int x,.int y])=.int (x-q*y):=rfl
theorem N9{q g0 u0 v0 g1 u1 v1:Int}(hq:Sz q)(h1:Sz g1)(h2:Sz u1)(h3:Sz v1)(st:ae)(g:ae->Prop)(hg:g st)(x:Option ak)(y:Option ak):
  aW g (cW [au 0,au 1]) aJ (ah dr aK (ah cf aZ bf)) (jR [.int g0,.int u0,.int v0] [.int g1,.int u1,.int v1]) [x, y, qI q] st []=.ok [.int (g0-q*g1),.int (u0-q*u1),.int (v0-q*v1)] st:=by
 have:=iy (a:=cW [au 0,au 1]) (c:=aJ) (e:=ah dr aK (ah cf aZ bf)) hg (fun τ=>∃x y,τ=[x, y, qI q]) (fun _=>true) (Iq q) (jR [.int g0,.int u0,.int v0] [.int g1,.int u1,.int v1]) [x, y, qI q] [] ⟨x,y,rfl⟩ ?_
 .exact this
 .rintro u hu τ ⟨x,y,rfl⟩;simp only[jR,VH,Xy,YD]at hu;rcases hu with rfl|rfl|rfl
  .exact⟨_,rfl,⟨_,_,rfl⟩,rfl,fun _=>by simp only[av,dy,fg,dz,xR,fL,k!,Xf,XM,xT ⟨hq,h1⟩,uC]⟩
  .exact⟨_,rfl,⟨_,_,rfl⟩,rfl,fun _=>by simp only[av,dy,fg,dz,xR,fL,k!,Xf,XM,xT ⟨hq,h2⟩,uC]⟩
  .exact⟨_,rfl,⟨_,_,rfl⟩,rfl,fun _=>by simp only[av,dy,fg,dz,xR,fL,k!,Xf,XM,xT ⟨hq,h3⟩,uC]⟩
theorem N_{x:ak}{r:List ak}:L2.qU (x::r) 0=some x:=by unfold L2.qU Cb;simp
theorem Bh{a b:Int}(ha:oh 400 a)(hb:oh 400 b)(st:ae):∃gs g u v u1 v1,PM.shared [.int a,.int b] st=.ok (wU g u v) (st++gs)/\Bg.aI a b g u v 0 u1 v1:=by
 obtain⟨μ',az,e,gs,rfl,g0,u0,v0,g1,u1,v1,o,f,rfl,J,z⟩:=pQ (t:=bN (ah iZ (ah aY bt bT) bT))
  (body:=aw (aE 4 (ah je (ah aY aZ bT) (ah aY bt bT))) (aw (aE 5 (aq mH (aa (bw 2 [4] (nG false false (aa aZ (aa bt ao))) (cW [(au 0),(au 1)]) aJ (ah dr aK (ah cf aZ bf))) ao))) (aw (aE 2 bt) (aE 3 cY))))
  (fun μ s=>∃gs,s=st++gs/\∃g0 u0 v0 g1 u1 v1 o f,μ=[qI a, qI b, some (wU g0 u0 v0), some (wU g1 u1 v1), o, f]/\Bg.aI a b g0 u0 v0 g1 u1 v1)
  (fun μ _=>msr μ)
  (fun μ s=>∃gs,s=st++gs/\∃g0 u0 v0 g1 u1 v1 o f,μ=[qI a, qI b, some (wU g0 u0 v0), some (wU g1 u1 v1), o, f]/\Bg.aI a b g0 u0 v0 g1 u1 v1/\g1=0)
  (by
   rintro μ s ⟨gs,rfl,g0,u0,v0,g1,u1,v1,o,f,rfl,J⟩;cases hz:g1==0 with
   |true=>
    have z:g1=0:=by simpa using hz
    refine .inl ⟨st++gs,?_,gs,rfl,g0,u0,v0,g1,u1,v1,o,f,rfl,J,z⟩;simp only[wU,av,dy,fg,dz,kB,gm,fF,pU,zh,k!,Xo,mF N_,hz]
   |false=>
    have z:¬ g1=0:=by simpa using hz
    obtain⟨b1,b2,b3,b4,b5,b6⟩:=bounds J ha hb;obtain⟨J',lt,q0,q1⟩:=J.turn z;have n0:=J.n0;have hD:Dz g1:=Dz.of z b4 (by decide);have sq:Sz (g0.fdiv g1):=Sz.of (b1.le (by lia)) (by decide);have s4:Sz g1:=Sz.of b4 (by decide);have s5:Sz u1:=Sz.of b5 (by decide);have s6:Sz v1:=Sz.of b6 (by decide);refine .inr ⟨st++gs,[qI a, qI b, some (wU g1 u1 v1), some (wU (g0-g0.fdiv g1*g1) (u0-g0.fdiv g1*u1) (v0-g0.fdiv g1*v1)), qI (g0.fdiv g1), some (wU (g0-g0.fdiv g1*g1) (u0-g0.fdiv g1*u1) (v0-g0.fdiv g1*v1))],st++gs++[.lst [.int (g0-g0.fdiv g1*g1),.int (u0-g0.fdiv g1*u1),.int (v0-g0.fdiv g1*v1)]],?_,.inl ?_,⟨gs++[.lst [.int (g0-g0.fdiv g1*g1),.int (u0-g0.fdiv g1*u1),.int (v0-g0.fdiv g1*v1)]],by rw[VM],g1,u1,v1,_,_,_,_,_,rfl,J'⟩,?_⟩
    .simp only[wU,av,dy,fg,dz,kB,gm,fF,pU,zh,k!,Zv,mF N_,hz]
    .have hzl:(jR [ak.int g0,ak.int u0,ak.int v0] [ak.int g1,ak.int u1,ak.int v1]).length=3:=rfl;have Jy:gH 2 [4] [some (ak.int a), some (ak.int b), some (.tup [.int g0,.int u0,.int v0]), some (.tup [.int g1,.int u1,.int v1]), qI (g0.fdiv g1), f]=[qn, qn, qI (g0.fdiv g1)]:=rfl;simp only[wU,av,bh,aB,dy,fg,dz,d7,dh,Ig,Ih,eM,kB,gn,df,fR,aA,xQ,cO,Dr,Gv,zh,k!,Xf,XM,VQ,Nat.reduceLeDiff,↓reduceIte,mF N_,div_ii hD,Jy,N9 sq s4 s5 s6 _ (fun _=>True/\True) ⟨trivial,trivial⟩,hzl,oX (bx _ _)]
    .show(g0-g0.fdiv g1*g1).toNat<g1.toNat;exact lt)
  [qI a, qI b, some (wU (Bg.qg a) (Bg.sgn a) 0), some (wU (Bg.qg b) 0 (Bg.sgn b)), qn, qn] st
  ⟨[],by rw[VL],_,_,_,_,_,_,_,_,rfl,Bg.aI.start a b⟩
 subst z;refine⟨gs,g0,u0,v0,u1,v1,?_,J⟩;have Rq:∀n:Int,(if n<0 then -n else n)=Bg.qg n:=fun n=>rfl;simp only[wU]at e;simp only[PM.shared,wU,bB,av,bh,aB,gU,d7,dh,Dm,jh,Ig,kB,gn,df,xP,fR,aA,gp,xQ,NO,fL,zh,k!,Vl,V3,WQ,V1,WA,V_,Xf,XM,Nat.reduceSub,Vn,VJ,Nat.reduceAdd,VQ,Nat.reduceLeDiff,↓reduceIte,rD,Rq,e]
theorem Bi:∀k:Fin 998,qe (k.val:Int)=true->2<=k.val/\∀d:Fin 32,2<=d.val->d.val<k.val->k.val % d.val≠0:=by decide +kernel
theorem jH{p:Int}(h:qe p=true):2<=p/\p<=997:=by
 unfold qe at h;rw[_J]at h;rcases h with h|h
 .have:p∈FP:=by simpa using h
  simp only[FP,VH,Xy,YD]at this;omega
 .simp only[WL,decide_eq_true_eq]at h;omega
theorem Bj{p:Int}(h:qe p=true){d:Int}(h2:2<=d)(hd:d<p):¬ p % d=0:=by
 obtain⟨r1,r2⟩:=jH h;have key:=(Bi ⟨p.toNat,by lia⟩ (by show qe ((p.toNat:Nat):Int)=true;rw[YS (by lia)];exact h)).2;have small:∀e:Int,2<=e->e<=31->e<p->¬ p % e=0:=by
  intro e e2 e3 e4 z;have:=key ⟨e.toNat,by lia⟩ (by show 2<=e.toNat;lia) (by show e.toNat<p.toNat;lia);apply this;show p.toNat % e.toNat=0;have:((p.toNat % e.toNat:Nat):Int)=0:=by rw[Int.natCast_emod,YS (by lia),YS (by lia)];exact z
  lia
 intro z;by_cases hs:d<=31
 .exact small d h2 hs hd z
 .obtain⟨m,hm⟩:=Int.dvd_of_emod_eq_zero z;have m2:2<=m:=by
   rcases X4 m 2 with q|q
   .have:d*m<=d*1:=Zg (by lia) (by lia);lia
   .exact q
  have m3:m<=31:=by
   rcases X4 31 m with q|q
   .have:32*32<=d*m:=Int.mul_le_mul (by lia) (by lia) (by lia) (by lia);lia
   .exact q
  have m4:m<p:=by have:2*m<=d*m:=XO h2 (by lia);lia
  exact small m m2 m3 m4 (by rw[hm];exact _p _ _)
theorem lI{p:Int}(hp:0<p)(i:Int):i.fmod p=i % p:=X9 i (by lia)
theorem sZ{i:Int}(h0:0<=i)(h1:i<1000):oh 400 i:=oh.small (by decide) (by lia) h1
theorem DZ{p:Int}(h:qe p=true):nN p=true:=by unfold nN;rw[h,Bool.or_true]
theorem Rr{x y:ak}{r:List ak}:L2.qU (x::y::r) 1=some y:=L2.dH (xs:=x::y::r) (j:=1) rfl
theorem uD{p n:Int}(h:qe p=true)(hn:¬ n % p=0)(st:ae):∃g t,PM.inverse [.int p,.int n] st=.ok (.int t) (st++g)/\0<t/\t<p/\(t*n) % p=1:=by
 obtain⟨r1,r2⟩:=jH h;obtain⟨g1,e⟩:=rC (DZ h) st;have hp:¬ p=0:=by lia
 have e0:(p==0)=false:=by simpa using hp
 have e1:(n.fmod p==0)=false:=by rw[lI (by lia)];simpa using hn
 have a0:=XZ n hp;have a1:=Xv n (show 0<p by lia);obtain⟨g2,g,u,v,u1,v1,es,J⟩:=Bh (a:=n % p) (b:=p) (sZ a0 (by lia)) (sZ (by lia) (by lia)) (st++g1);have hg:g=1:=by
  obtain⟨x,_,ex⟩:=J.da;obtain⟨y,_,ey⟩:=J.db;rw[Int.mul_zero,Int.add_zero]at ex ey;have n0:=J.n0;rcases X4 g 2 with q|q
  .rcases X4 g 1 with q'|q'
   .have:g=0:=by lia
    rw[this,Int.mul_zero]at ey;lia
   .lia
  .have gl:g<=n % p:=by
    have xp:1<=x:=by
     rcases X4 x 1 with z|z
     .have:x*g<=0*g:=XO (by lia) (by lia);lia
     .exact z
    have:1*g<=x*g:=XO xp (by lia);lia
   exact absurd (by rw[ey];exact _p _ _) (Bj h q (by lia))
 subst hg;have t0:=XZ u hp;have t1:=Xv u (show 0<p by lia);have tn:(u % p*n) % p=1:=by
  have c:=J.c0;have k1:(u*(n % p)) % p=1:=by
   have:u*(n % p)=1+p*(-v):=by rw[Int.mul_neg,Int.mul_comm p v];lia
   rw[this,Int.add_mul_emod_self_left];exact XF (by lia) (by lia)
  rw[Xh,WR u (X5 p)];rw[Xh,WR n (X5 p)]at k1;exact k1
 refine⟨g1++g2,u % p,?_,?_,t1,tn⟩
 .simp only[wU]at es;rw[<-lI (show 0<p by lia)]at es;simp only[PM.inverse,bB,av,bh,aB,gU,dy,fg,dz,d7,dh,Dp,jh,ji,kB,gm,fF,gn,df,fR,aA,jB,oW,gp,gW,vO,fL,k!,Vl,V3,WQ,V1,V_,Nat.reduceSub,Vn,VJ,Nat.reduceAdd,e,e0,iA hp,e1,es,mF Rr,VM];rw[lI (by lia)]
 .rcases X4 0 (u % p)with q|q
  .exact q
  .have:u % p=0:=by lia
   rw[this,Int.zero_mul]at tn;simp at tn
theorem He{ns:_O}{k:Int}(h0:0<=k)(h1:k<(ns.length:Int)):∃c:Int,L2.qU (ns.map ak.int) k=some (.int c):=by
 have hk:k.toNat<ns.length:=by lia
 refine⟨ns[k.toNat],?_⟩;have e:=L2.dH (xs:=ns.map ak.int) (j:=k.toNat) (v:=.int ns[k.toNat]) (by rw[VB,Vq hk];rfl);rw[show((k.toNat:Nat):Int)=k by lia]at e;exact e
theorem g?{m:Int}(hm:0<m)(i:Int):0<=i.fmod m/\i.fmod m<m:=by rw[lI hm];exact⟨XZ _ (by lia),Xv _ hm⟩
theorem kg(i:Int)(st:ae):PM.dN [.int i] st=.ok (.bl true) st:=rfl
theorem N!{j:Int}(h:0<j)(h1:j<2 ^ 64):Dz j:=by refine Dz.of (k:=64) (by lia) ?_ (by decide);show j.natAbs<2 ^ 64;lia
def dvP(n:Int)(u:ak):Bool:=match u with
 |.int b=>decide (b<n)&&(n.fmod b==0)
 |_=>false
def sg(n:Int):List ak:=(d5 2 30).filter (dvP n)
theorem Lb{p:Int}(hp:qe p=true):¬ p=0:=by have:=jH hp;lia
theorem qh{p:Int}(hp:qe p=true)(st:ae):∃g,PM.dO [.int p] st=.ok .bR (st++g):=by
 obtain⟨g,e⟩:=nO p st;have hr:nN p=true:=by unfold nN;rw[hp,Bool.or_true]
 rw[hr]at e;have hz:(p==0)=false:=by simpa using Lb hp
 exact⟨g,by simp only[PM.dO,bB,av,bh,Di,dy,fg,dz,oV,Dl,d7,dh,ji,kB,gm,fF,pS,uj,gn,df,fR,jB,gW,vO,fL,Vl,V3,WQ,V1,V_,Nat.reduceSub,Vn,VJ,Nat.reduceAdd,Xo,e,hz]⟩
abbrev dc:=List Int×Int
def tV(t:dc):ak:=.tup [cX t.1,.int t.2]
def eD(t:dc):List bD×ak:=(iK t.1,.int t.2)
def cH(A:List dc)(k:_O):Int:=((A.find? fun p=>decide (p.1=k)).map (·.2)).getD 0
def hJ(A:List dc)(k:_O)(v:Int):List dc:=if A.any (fun p=>decide (p.1=k))then A.map (fun p=>if p.1=k then(p.1,v)else p)else A++[(k,v)]
theorem D0(a k:_O):decide (iK a=iK k)=decide (a=k):=by
 by_cases h:a=k
 .rw[h,VF rfl,VF rfl]
 .rw[VD h,VD fun e=>h (DE e)]
theorem zG(k:_O):∀A:List dc,jS (A.map eD) (iK k)=(A.find? fun p=>decide (p.1=k)).map fun p=>ak.int p.2
 |[]=>rfl
 |p::A=>by
  unfold jS;rw[Vl,WU,WU];show Option.map _ (match decide (iK p.1=iK k) with|true=>some (eD p)|false=>_)=_;rw[D0];cases decide (p.1=k) with
  |true=>rfl
  |false=>exact zG k A
theorem D2(k:_O):∀A:List dc,((A.map eD).any fun kv=>decide (kv.1=iK k))=A.any fun p=>decide (p.1=k)
 |[]=>rfl
 |p::A=>by rw[Vl,W2,W2,D2 k A];show(decide (iK p.1=iK k) || _)=_;rw[D0]
theorem Hf(A:List dc)(k:_O)(v:Int):mI (A.map eD) (iK k) (.int v)=(hJ A k v).map eD:=by
 unfold mI hJ;rw[D2];by_cases h:(A.any fun p=>decide (p.1=k))=true
 .rw[Vo h,Vo h,VE,VE];refine VS fun p _=>?_;show(if iK p.1=iK k then(iK p.1,ak.int v)else eD p)=eD (if p.1=k then(p.1,v)else p);by_cases e:p.1=k
  .rw[Vo e,Vo (by rw[e])];rfl
  .rw[Vv e,Vv fun z=>e (DE z)]
 .rw[Vv h,Vv h,VT];rfl
theorem s_(k:_O):mJ (cX k)=some (iK k):=by
 have h:∀k:_O,keysOf (k.map ak.int)=some (iK k):=by
  intro k
  induction k with
  |nil=>rfl
  |cons x k ih=>
   rw[Vl];unfold keysOf;show(match gK (ak.int x),keysOf (k.map ak.int) with|some a,some b=>some (a::b)|_,_=>none)=_;rw[ih];rfl
 show keysOf (k.map ak.int)=_;exact h k
theorem zH{st:ae}{d:Nat}{A:List dc}(h:st[d]?=some (.dT (A.map eD)))(k:_O):j' st (.loc d) (cX k)=some ((A.find? fun p=>decide (p.1=k)).map fun p=>ak.int p.2):=by unfold j';dsimp only;rw[h];dsimp only;rw[s_,Option.map_some,zG]
theorem Bk{st:ae}{d:Nat}{A:List dc}(h:st[d]?=some (.dT (A.map eD)))(hl:A.length<sizeLine)(k:_O)(v:Int):gR st (.loc d) (cX k) (.int v)=some (st.set d (.dT ((hJ A k v).map eD))):=by unfold gR;dsimp only;rw[h];dsimp only;rw[Vo (by rw[Vi];exact hl),s_,Option.map_some,Hf]
theorem Bl(A:List dc)(k:_O):((A.find? fun p=>decide (p.1=k)).map fun p=>ak.int p.2).getD (.int 0)=.int (cH A k):=by
 unfold cH;cases A.find? fun p=>decide (p.1=k) with
 |none=>rfl
 |some p=>rfl
theorem Bm{A:List dc}{k:_O}{v:Int}:(hJ A k v).map (·.1)=if A.any (fun p=>decide (p.1=k))then A.map (·.1)else A.map (·.1)++[k]:=by
 unfold hJ;by_cases h:(A.any fun p=>decide (p.1=k))=true
 .rw[Vo h,Vo h,VE];refine VS fun p _=>?_;show(if p.1=k then(p.1,v)else p).1=p.1;split<;>rfl
 .rw[Vv h,Vv h,VT];rfl
theorem zI{A:List dc}{k:_O}:(A.any fun p=>decide (p.1=k))=true↔k∈A.map (·.1):=by
 rw[List.any_eq_true,VG];constructor
 .rintro⟨p,hp,e⟩;exact⟨p,hp,Wg e⟩
 .rintro⟨p,hp,e⟩;exact⟨p,hp,VF e⟩
theorem yo{A:List dc}(h:(A.map (·.1)).Nodup)(k:_O)(v:Int):((hJ A k v).map (·.1)).Nodup:=by
 rw[Bm];by_cases c:(A.any fun p=>decide (p.1=k))=true
 .rw[Vo c];exact h
 .rw[Vv c];refine XY.mpr ⟨h,W7 _ _,?_⟩;intro a ha b hb e;rw[VI.mp hb]at e;exact c (zI.mpr (e▸ha))
theorem D3{A:List dc}{k:_O}{v:Int}:(hJ A k v).length<=A.length+1:=by
 unfold hJ;split
 .rw[Vi];lia
 .rw[Vt];exact Vp _
theorem D4{A:List dc}{k:_O}{v:Int}{t:dc}(h:t∈hJ A k v):t∈A\/t=(k,v):=by
 unfold hJ at h;split at h
 .obtain⟨p,hp,e⟩:=VG.mp h;by_cases c:p.1=k
  .rw[Vo c]at e;right;rw[<-e,c]
  .rw[Vv c]at e;left;rw[<-e];exact hp
 .rcases VX.mp h with h|h
  .exact .inl h
  .exact .inr (VI.mp h)
theorem v8{A:List dc}{k:_O}(h:k∈A.map (·.1)):(k,cH A k)∈A:=by
 unfold cH;cases z:A.find? fun p=>decide (p.1=k) with
 |none=>
  rw[Zs]at z;obtain⟨p,hp,e⟩:=VG.mp h;exact absurd (VF e) (z p hp)
 |some p=>
  have e:=List.find?_some z;have m:=List.mem_of_find?_eq_some z;have e':p.1=k:=Wg e;show(k,p.2)∈A;rw[<-e'];exact m
theorem set_dict(st:ae)(a b:List (List bD×ak)):(st++[aP.dT a]).set st.length (.dT b)=st++[.dT b]:=Dv st _ _
theorem Hg(st:ae)(a:List (List bD×ak)):(st++[aP.dT a])[st.length]?=some (.dT a):=by rw[Vy (Vp _),Wk];rfl
theorem Hh{s:ae}{d:Nat}{A:List dc}{k:_O}(h:s[d]?=some (.dT (A.map eD)))(hk:k∈A.map (·.1)):gi (.loc d) (cX k) s=.ok (.int (cH A k)) s:=by
 unfold gi;rw[zH h k];unfold cH;cases z:A.find? fun p=>decide (p.1=k) with
 |none=>
  rw[Zs]at z;obtain⟨p,hp,e⟩:=VG.mp hk;exact absurd (VF e) (z p hp)
 |some p=>rfl
theorem cE{g:ae->Prop}{a:AS}{e:ME}{u y:ak}{us:List ak}{τ τ1:MN.Env}{st aL:ae}{ys:List ak}(hg:g st)(h1:a u τ=some τ1)(h2:e τ1 st=.ok y aL):aW g a aJ e (u::us) τ st ys=aW g a aJ e us τ1 aL (ys++[y]):=by rw[aW];rw[Vo hg,h1];dsimp only[aJ];rw[h2]
theorem b8{g:ae->Prop}{a:AS}{c:MT}{e:ME}{τ:MN.Env}{st:ae}{ys:List ak}(hg:g st):aW g a c e [] τ st ys=.ok ys st:=by rw[aW,Vo hg]
section
variable{μ:MN.Env}{s s1 s2:ae}{a b:ME}{f:F2}{x y:ak}{r:bI ak}{t u:MT}{c:Bool}{B:MB}
theorem ax(h1:a μ s=.ok x s1)(h2:b μ s1=.ok y s2):ah f a b μ s=f x y s2:=by show(a μ s).bind _=_;rw[h1];show(b μ s1).bind _=_;rw[h2]
theorem bq(h:a μ s=.ok (.bl c) s1):bN a μ s=.ok c s1:=by rw[fF,h];rfl
theorem jo(h1:t μ s=.ok false s1)(h2:u μ s1=.ok false s2):eu t u μ s=.ok false s2:=by rw[pS,h1,av,oV,h2]
theorem iR(h:t μ s=.ok true s1):cF t μ s=.ok false s1:=by rw[uj,h];rfl
theorem ej(h:t μ s=.ok false s1):dY t B bg μ s=.nx μ s1:=by rw[gW,h,bh,ji];rfl
end
theorem fH{s:ae}{n:Nat}{c:aP}(h:s[n]?=some c)(more:ae):(s++more)[n]?=some c:=by
 have:n<s.length:=by
  rcases WY n s.length with q|q
  .exact q
  .rw[V' q]at h;cases h
 rw[V7 this];exact h
theorem bz{s:ae}{n:Nat}{c:aP}(h:s[n]?=some c):n<s.length:=by
 rcases WY n s.length with q|q
 .exact q
 .rw[V' q]at h;cases h
theorem aQ{s:ae}{n m:Nat}{c k:aP}(h:s[n]?=some c)(ne:m≠n):(s.set m k)[n]?=some c:=by rw[WI ne];exact h
def fI(r n:Int):Int:=if r=0 then n else n.fmod r
def v9(A:List dc):List dc:=(l? (A.map (·.1))).map fun k=>(k,cH A k)
def fC(r:Int)(A:List dc):List dc:=((v9 A).map fun t=>(t.1,fI r t.2)).filter fun t=>t.2 !=0
def jU(P:List dc):List dc:=P.foldl (fun A t=>hJ A t.1 (cH A t.1+t.2)) []
theorem Bn(P:List dc)(t:dc):jU (P++[t])=hJ (jU P) t.1 (cH (jU P) t.1+t.2):=by unfold jU;rw[List.foldl_append];rfl
theorem fold_all(K:List (_O)):∀(P A:List dc),(A.map (·.1)).Nodup->(∀t∈A,t.1∈K)->(∀t∈P,t.1∈K) ->
  ((P.foldl (fun A t=>hJ A t.1 (cH A t.1+t.2)) A).map (·.1)).Nodup/\(P.foldl (fun A t=>hJ A t.1 (cH A t.1+t.2)) A).length<=A.length+P.length/\∀t∈P.foldl (fun A t=>hJ A t.1 (cH A t.1+t.2)) A,t.1∈K
 |[],A,h1,h2,_=>⟨h1,by simp,h2⟩
 |t::P,A,h1,h2,h3=>by
  have ih:=fold_all K P (hJ A t.1 (cH A t.1+t.2)) (yo h1 _ _) (fun q hq=>by
   rcases D4 hq with hq|rfl
   .exact h2 q hq
   .exact h3 t Vm) (fun q hq=>h3 q (Vk _ hq))
  refine⟨ih.1,VZ ih.2.1 ?_,ih.2.2⟩;have:=D3 (A:=A) (k:=t.1) (v:=cH A t.1+t.2);rw[Vn];lia
theorem qi(P:List dc):((jU P).map (·.1)).Nodup/\(jU P).length<=P.length/\∀t∈jU P,t.1∈P.map (·.1):=by have:=fold_all (P.map (·.1)) P [] List.nodup_nil (fun t ht=>by cases ht) (fun t ht=>VG.mpr ⟨t,ht,rfl⟩);refine⟨this.1,?_,this.2.2⟩;have:=this.2.1;simp at this;exact this
abbrev LX:MB:=fE aZ (ah aY bt bT) (ah cb (mK aZ (ah aY bt bT) bT) (ah aY bt b!))
theorem D5{s:ae}{d:Nat}{A:List dc}{t:dc}{x0 x1 x4 x5:Option ak}(h:s[d]?=some (.dT (A.map eD)))(hl:A.length<sizeLine):
  LX [x0, x1, qL d, some (tV t), x4, x5] s=.nx [x0, x1, qL d, some (tV t), x4, x5] (s.set d (.dT ((hJ A t.1 (cH A t.1+t.2)).map eD))):=by
 have hd:pK s (.loc d)=true:=by unfold pK;dsimp only;rw[h]
 have e1:mK aZ (ah aY bt bT) bT [x0, x1, qL d, some (tV t), x4, x5] s=.ok (.int (cH A t.1)) s:=by show(if pK s (.loc d)=true then(match j' s (.loc d) (cX t.1) with|some o=>bI.ok (o.getD (.int 0)) s|none=>.bad)else .bad)=_;rw[Vo hd,zH h t.1];show bI.ok (Option.getD _ (ak.int 0)) s=_;rw[Bl]
 have i1:ah aY bt b! [x0, x1, qL d, some (tV t), x4, x5] s=.ok (.int t.2) s:=rfl;have e2:ah cb (mK aZ (ah aY bt bT) bT) (ah aY bt b!) [x0, x1, qL d, some (tV t), x4, x5] s=.ok (.int (cH A t.1+t.2)) s:=by rw[ax e1 i1];rfl
 unfold LX fE;rw[e2];show(match gR s (.loc d) (cX t.1) (.int (cH A t.1+t.2)) with|some l!=>de.nx _ l! | none=>.bad)=_;rw[Bk h hl]
def Bo(r:Int)(A:List dc)(ks:List (_O)):List dc:=(ks.map fun k=>(k,fI r (cH A k))).filter fun t=>t.2 !=0
theorem D6(r:Int)(A:List dc)(ks:List (_O))(k:_O):Bo r A (ks++[k])=Bo r A ks++(if fI r (cH A k) !=0 then[(k,fI r (cH A k))] else[]):=by
 unfold Bo;rw[VT,List.filter_append];congr 1;show List.filter _ [(k,fI r (cH A k))]=_;by_cases h:(fI r (cH A k) !=0)=true
 .rw[Vo h,V9 (p:=fun t:dc=>t.2 !=0) h];rfl
 .rw[Vv h,V4 (p:=fun t:dc=>t.2 !=0) h];rfl
theorem qj(r:Int)(A:List dc):Bo r A (l? (A.map (·.1)))=fC r A:=by unfold Bo fC v9;rw[VE];rfl
theorem zJ(r:Int)(A:List dc)(ks:List (_O)):(Bo r A ks).length<=ks.length:=by unfold Bo;refine VZ (Wr _ _) ?_;rw[Vi];exact Vp _
theorem D7{p:Nat}{P:List dc}{st:ae}{x0:Option ak}(h:ai st p=some (P.map tV))(hl:P.length<1000000):
  ∃y3,forL (fun az=>ai az p=some (P.map tV)) (au 3) LX (P.map tV) [x0, qL p, qL st.length, qn, qn, qn] (st++[.dT []])=.nx [x0, qL p, qL st.length, y3, qn, qn] (st++[.dT ((jU P).map eD)]):=by
 have hg:∀(A:List dc),ai (st++[.dT (A.map eD)]) p=some (P.map tV):=fun A=>nI h _;obtain⟨μ',az,e,rfl,y3,rfl⟩:=pO (g:=fun az=>ai az p=some (P.map tV)) (a:=au 3) (body:=LX)
  (fun i μ s'=>s'=st++[.dT ((jU (P.take i)).map eD)]/\∃y3,μ=[x0, qL p, qL st.length, y3, qn, qn])
  (P.map tV) 0 [x0, qL p, qL st.length, qn, qn, qn] (st++[.dT []])
  (by
   rintro i u μ s' hu ⟨rfl,y3,rfl⟩;rw[Wb];refine⟨hg _,?_⟩;rw[VB]at hu;have hi:i<P.length:=by
    rcases WY i P.length with q|q
    .exact q
    .rw[V' q]at hu;cases hu
   rw[Vq hi]at hu;obtain⟨t,ht⟩:∃t,t=P[i]:=⟨_,rfl⟩
   rw[<-ht]at hu;cases hu;have tk:P.take (i+1)=P.take i++[t]:=by rw[Y_,Vq hi,<-ht];rfl
   have lA:=(qi (P.take i)).2.1;rw[ZV]at lA;have ad:=D5 (x0:=x0) (x1:=some (.loc p)) (x4:=none) (x5:=none) (t:=t) (Hg st ((jU (P.take i)).map eD)) (by rw[VQ];lia);rw[set_dict,<-Bn,<-tk]at ad;exact⟨_,rfl,_,_,.inl ad,rfl,_,rfl⟩)
  (fun μ s hp=>by obtain⟨rfl,_⟩:=hp;exact hg _)
  ⟨rfl,none,rfl⟩
 rw[Wb,Vi,Xe (Vp _)]at e;exact⟨y3,e⟩
section
variable{μ:MN.Env}{s s1 s2:ae}{m:ME}{o j:Int}{t:MT}{B:MB}
theorem jq(h:m μ s=.ok (.int o) s1)(hj:¬ j=0):ah cK m (mC (.int j)) μ s=.ok (.int (o.fmod j)) s1:=by rw[ax h (y:=.int j) (s2:=s1) rfl];exact iA hj
theorem Lc(h:m μ s=.ok (.int o) s1)(hj:Dz j):ah je m (mC (.int j)) μ s=.ok (.int (o.fdiv j)) s1:=by rw[ax h (y:=.int j) (s2:=s1) rfl];exact div_ii hj
theorem N?(h:m μ s=.ok (.int o) s1):ah kY m (mC (.int j)) μ s=.ok (.bl (o==j)) s1:=by rw[ax h (y:=.int j) (s2:=s1) rfl];exact vO
theorem aR{i:Nat}{v:ak}(h:m μ s=.ok v s1):aE i m μ s=.nx (μ.set i (some v)) s1:=by rw[xQ,h,bh];rfl
theorem mP{C:MB}(h:t μ s=.ok true s1):dY t B C μ s=B μ s1:=by rw[gW,h,bh,pT]
theorem bS{v:ak}(h:m μ s=.ok v s1):aa m ao μ s=.ok [v] s1:=by rw[df,h,av,d7,gn,av,dh]
theorem dZ{m2:ME}{v w:ak}(h:m μ s=.ok v s1)(h2:m2 μ s1=.ok w s2):aa m (aa m2 ao) μ s=.ok [v,w] s2:=by rw[df,h,av,d7,bS h2,av,dh]
theorem cZ{m2:MA}{v:ak}{ws:List ak}(h:m μ s=.ok v s1)(h2:m2 μ s1=.ok ws s2):aa m m2 μ s=.ok (v::ws) s2:=by rw[df,h,av,d7,h2,av,dh]
theorem aC{f:FN}{a:MA}{vs:List ak}(h:a μ s=.ok vs s1):aq f a μ s=f vs s1:=by rw[fR,h,av]
theorem kE{a:MA}{vs:List ak}(h:a μ s=.ok vs s1)(hl:vs.length<=1000):eB a μ s=.ok (.tup vs) s1:=by rw[xP,h,av,Dm];exact Vo (by rw[VQ];lia)
theorem eT{a:MA}{vs:List ak}(h:a μ s=.ok vs s1)(hl:vs.length<=1000):c9 a μ s=.ok (.loc s1.length) (s1++[.lst vs]):=by rw[Kt,h,av,NJ];exact Vo (by rw[VQ];lia)
theorem jr{a:MA}(h:a μ s=.ok [.int j] s1)(h1:-(2 ^ 62)<=j)(h2:j<2 ^ 62):bY a μ s=.ok (d5 0 j.toNat,fun _=>True) s1:=by rw[Gr,h,av,Gs h1 h2]
end
theorem uE{μ:MN.Env}{s:ae}{o:ME}{a:MA}{n:Nat}{us:List ak}{v:ak}(ho:o μ s=.ok (.loc n) s){s1:ae}(h0:s[n]?=some (.lst us))(ha:a μ s=.ok [v] s1)(h:s1[n]?=some (.lst us))(hl:us.length<=1000):bA (fQ bU o a) μ s=.nx μ (s1.set n (.lst (us++[v]))):=by rw[oW,xU,ho,av,Ds h0,ha,av,Dt,sS h (by rw[VQ];lia),bh];rfl
def gF(A:List dc)(t:dc):List dc:=hJ A t.1 (cH A t.1+t.2)
theorem Bp{A:List dc}{k:_O}(h:k ∉ A.map (·.1)):cH A k=0:=by
 unfold cH;have:(A.find? fun p=>decide (p.1=k))=none:=by rw[Zs];intro p hp z;exact h (VG.mpr ⟨p,hp,Wg z⟩)
 rw[this];rfl
theorem D_{A:List dc}{k:_O}(v:Int)(h:k ∉ A.map (·.1)):hJ A k v=A++[(k,v)]:=by unfold hJ;rw[Vv fun z=>h (zI.mp z)]
theorem Ld{A P:List dc}{t:dc}(h:((A++t::P).map (·.1)).Nodup):t.1 ∉ A.map (·.1)/\((A++[t]++P).map (·.1)).Nodup:=by refine⟨?_,by rw[VM];exact h⟩;rw[VT,Vl,XY]at h;exact fun m=>h.2.2 _ m _ Vm rfl
theorem s?:∀(P A:List dc),((A++P).map (·.1)).Nodup->P.foldl gF A=A++P
 |[],A,_=>by rw[VL];rfl
 |t::P,A,h=>by have n:=Ld h;show P.foldl gF (gF A t)=_;unfold gF;rw[Bp n.1,D_ _ n.1,Int.zero_add];have:=s? P (A++[t]) n.2;rw[VM]at this;exact this
theorem Bq{D:List dc}(h:(D.map (·.1)).Nodup):jU D=D:=s? D [] h
def Rt(r:Int)(L:List dc):List dc:=(L.map fun t=>(t.1,fI r t.2)).filter fun t=>t.2 !=0
theorem uF{D:List dc}(nd:(D.map (·.1)).Nodup){t:dc}(ht:t∈D):cH D t.1=t.2:=by
 have m:=v8 (A:=D) (k:=t.1) (VG.mpr ⟨t,ht,rfl⟩);have:(t.1,cH D t.1)=t:=by
  have inj:∀a∈D,∀b∈D,a.1=b.1->a=b:=by
   intro a ha b hb e;have p:=V8.mp nd;exact Classical.byContradiction fun ne=>by
    rcases List.mem_iff_getElem.mp ha with⟨i,hi,rfl⟩
    rcases List.mem_iff_getElem.mp hb with⟨j,hj,rfl⟩
    have q:=WB.mp p;rcases Ya i j with c|c|c
    .exact q i j hi hj c e
    .subst c;exact ne rfl
    .exact q j i hj hi c e.symm
  exact inj _ m _ ht rfl
 exact We (·.2) this
theorem Br{r:Int}{D:List dc}(f:SO.cB (D.map (·.1))):fC r D=Rt r D:=by
 have nd:=fq f;have e:l? (D.map (·.1))=D.map (·.1):=ll (dB _) (fU nd) f;have:v9 D=D:=by
  unfold v9;rw[e,VE];have:D.map ((fun k=>(k,cH D k)) ∘ fun t=>t.1)=D.map id:=VS fun t ht=>by show(t.1,cH D t.1)=t;rw[uF nd ht]
  rw[this,Y?]
 unfold fC Rt;rw[this]
theorem yp(r:Int){A:List dc}(nd:(A.map (·.1)).Nodup):SO.cB ((fC r A).map (·.1)):=by
 rw[<-qj];unfold Bo;rw[List.filter_map,VE];have:(((l? (A.map (·.1))).filter ((fun t=>t.2 !=0) ∘ fun k=>(k,fI r (cH A k)))).map ((fun t=>t.1) ∘ fun k=>(k,fI r (cH A k))))=(l? (A.map (·.1))).filter ((fun t:dc=>t.2 !=0) ∘ fun k=>(k,fI r (cH A k))):=by have:((fun t:dc=>t.1) ∘ fun k:_O=>(k,fI r (cH A k)))=id:=rfl;rw[this,Y?]
 rw[this];exact List.Pairwise.sublist List.filter_sublist (fU nd)
theorem D!{r:Int}{A:List dc}{t:dc}(h:t∈fC r A):∃q∈A,t.1=q.1/\t.2=fI r q.2:=by unfold fC at h;obtain⟨u,hu,rfl⟩:=VG.mp (Wi.mp h).1;unfold v9 at hu;obtain⟨k,hk,rfl⟩:=VG.mp hu;exact⟨_,v8 ((dB _).mem_iff.mp hk),rfl,rfl⟩
theorem D?(r:Int)(A:List dc):(fC r A).length<=A.length:=by rw[<-qj];refine VZ (zJ _ _ _) ?_;rw[(dB _).length_eq,Vi];exact Vp _
def ones(aj:Nat):_O:=List.replicate aj 1
section
variable{r:Int}{aj b:Nat}{P X:List dc}
theorem aU{s:ae}{n:Nat}{us:List ak}(h:s[n]?=some (.lst us)):ai s n=some us:=by unfold ai;rw[h]
end
def b?(d:Bool):Str:=if d then "deg" else "lex"
theorem Hi:(("deg":Str) == "deg")=true:=by decide +kernel
theorem Hj:(("lex":Str) == "deg")=false:=by decide +kernel
theorem v_(d:Bool)(st:ae):PM.jk [.str (b? d)] st=.ok (.bl true) st:=by cases d<;>rfl
theorem qo(d:Bool)(st:ae):PM.dQ [.str (b? d)] st=.ok .bR st:=by unfold PM.dQ;rw[bB (np:=1) (us:=[ak.str (b? d)]) rfl];show(dY (cF (bN (aq PM.jk (aa aK ao)))) _ bg [some (.str (b? d))] st).fin=_;rw[ej (iR (bq (by rw[aC (bS (v:=.str (b? d)) (s1:=st) rfl),v_])))];rfl
def Xt(s s':ae):Prop:=s.length<=s'.length/\∀(n:Nat)(c:aP),s[n]?=some c->s'[n]?=some c
theorem Xt.refl{s:ae}:Xt s s:=⟨Vp _,fun _ _ h=>h⟩
theorem Xt.trans{s s1 s2:ae}(h:Xt s s1)(k:Xt s1 s2):Xt s s2:=⟨VZ h.1 k.1,fun n c e=>k.2 n c (h.2 n c e)⟩
theorem Xt.app{s:ae}(g:ae):Xt s (s++g):=⟨by rw[Vt];lia,fun _ _ e=>fH e _⟩
theorem Xt.set{s s1:ae}{n:Nat}{c:aP}(h:Xt s s1)(hn:s.length<=n):Xt s (s1.set n c):=⟨by rw[VU];exact h.1,fun m d e=>aQ (h.2 m d e) (fun z=>by have:=bz e;lia)⟩
section
variable{μ:MN.Env}{s s1 s2:ae}{m o:ME}{a:MA}{c f:Str}{fs:List (Str×ak)}{v:ak}{n:Nat}{us:List ak}
theorem eU(h:m μ s=.ok (.loc n) s1)(hn:s1[n]?=some (.ins c fs))(hl:fs.lookup f=some v):bp [c] f m μ s=.ok v s1:=by unfold bp;rw[h];show GP [c] f (.loc n) s1=_;unfold GP;dsimp only;rw[hn];dsimp only;rw[Vo (VI.mpr rfl),hl]
theorem jI{F:FN}(h:o μ s=.ok (.loc n) s1)(hn:s1[n]?=some (.ins c fs))(hl:fs.lookup f=none)(ha:a μ s1=.ok us s2):dj c f F o a μ s=F (.loc n::us) s2:=by unfold dj;rw[h];show(if vS c f s1 (.loc n)=true then _ else _)=_;rw[Vo (by unfold vS;dsimp only;rw[hn];dsimp only;rw[hl,VF rfl];rfl),ha]
theorem iI{mv:ME}(hv:mv μ s=.ok v s1)(h:m μ s1=.ok (.loc n) s2)(hn:s2[n]?=some (.ins c fs))(hl:fs.length<1000):gu [c] f m mv μ s=.nx μ (s2.set n (.ins c (A6 f v fs))):=by unfold gu;rw[hv];show(m μ s1).sb μ _=_;rw[h];show(match GQ [c] f v (.loc n) s2 with|some l_=>de.nx μ l_|none=>.bad)=_;unfold GQ;dsimp only;rw[hn];dsimp only;rw[Vo ⟨VI.mpr rfl,hl⟩]
theorem Ea{F:FN}(ha:a μ s=.ok us s1)(hF:F (.loc s1.length::us) (s1++[.ins c []])=.ok .bR s2):vR c F a μ s=.ok (.loc s1.length) s2:=by unfold vR;rw[ha];show GR c F us s1=_;unfold GR;rw[hF]
theorem jJ(h:m μ s=.ok v s1):bA m μ s=.nx μ s1:=by rw[oW,h,bh,Dp]
theorem eV(h:m μ s=.ok v s1):aO m μ s=.rt v s1:=by rw[gp,h,bh,jh]
end
theorem Eb(x y:Nat):Builtin.bitOr (x:Int) (y:Int)=((x ||| y:Nat):Int):=by
 unfold Builtin.bitOr Builtin.bitAnd;have hx:¬ (0:Int)<=Builtin.bitNot (x:Int):=by unfold Builtin.bitNot;lia
 have hy:¬ (0:Int)<=Builtin.bitNot (y:Int):=by unfold Builtin.bitNot;lia
 rw[VD hx,VD hy];dsimp only;have e:∀z:Int,Builtin.bitNot (Builtin.bitNot z)=z:=fun z=>by unfold Builtin.bitNot;lia
 rw[e,e,e,VR,VR]
theorem zK(x y:Nat):Builtin.bitAnd (x:Int) (y:Int)=((x &&& y:Nat):Int):=by unfold Builtin.bitAnd;rw[VF (W4 x),VF (W4 y)];dsimp only;rw[VR,VR]
theorem uG{k w e:Nat}{st:ae}(hw:w<=1000)(hk:k<2 ^ e)(he:e<=100000):lB (.int (k:Int)) (.int (w:Int)) st=.ok (.int ((k*2 ^ w:Nat):Int)) st:=by
 show(if 0<=(w:Int)/\(w:Int)<=100000/\(k:Int).natAbs<2 ^ 100000 then bI.ok (ak.int ((k:Int)*2 ^ (w:Int).toNat)) st else .bad)=_;have h1:(2:Nat) ^ e<=2 ^ 100000:=Wa (by decide) he;rw[Vo ⟨by lia,by lia,by rw[_i];exact VC hk h1⟩,VR]
 push_cast
 rfl
def Oa(b:Bool)(aj w g:Nat):List (Str×ak):=[("by_degree",.bl b),("many",.int (aj:Int)),("width",.int (w:Int)),("guards",.int (g:Int))]
def Pk(s:ae)(n:Nat)(b:Bool)(aj w g:Nat):Prop:=s[n]?=some (.ins "Packing" (Oa b aj w g))
theorem Le{b:Bool}{aj w g:Nat}:(Oa b aj w g).lookup ("width":Str)=some (.int (w:Int)):=by rfl
theorem Ru{b:Bool}{aj w g:Nat}:(Oa b aj w g).lookup ("by_degree":Str)=some (.bl b):=by rfl
theorem Rv{b:Bool}{aj w g:Nat}:(Oa b aj w g).lookup ("many":Str)=some (.int (aj:Int)):=by rfl
theorem Rw{b:Bool}{aj w g:Nat}:(Oa b aj w g).lookup ("guards":Str)=some (.int (g:Int)):=by rfl
def nV(es:List Nat):List ak:=es.map fun(e:Nat)=>ak.int (e:Int)
def Tz(s:ae)(v:ak)(es:List Nat):Prop:=v=.tup (nV es)\/∃q,v=.loc q/\ai s q=some (nV es)
theorem sum_nat(es:List Nat):(es.map fun(e:Nat)=>(e:Int)).sum=((es.sum:Nat):Int):=by
 induction es with
 |nil=>rfl
 |cons e es ih=>rw[Vl,Xj,Xj,ih];push_cast;rfl
theorem e?(es:List Nat):nV es=(es.map fun(e:Nat)=>(e:Int)).map ak.int:=by unfold nV;rw[VE];rfl
theorem sQ(ns:_O):intsOf (ns.map ak.int)=some ns:=by
 induction ns with
 |nil=>rfl
 |cons n ns ih=>show(intsOf (ns.map ak.int)).map (n :: ·)=_;rw[ih];rfl
theorem zL{s:ae}{v:ak}{es:List Nat}(h:Tz s v es):uu [v] s=.ok (.int ((es.sum:Nat):Int)) s:=by
 rcases h with rfl|⟨q,rfl,h⟩
 .have z:uu [ak.tup (nV es)] s=DH [ak.tup (nV es)] s:=rfl;rw[z,e?,KI,sum_nat]
 .show sumF [.loc q] s=_;unfold sumF;dsimp only;rw[h];dsimp only;rw[e?,sQ];dsimp only;rw[sum_nat]
theorem Lf{es:List Nat}(h:∀e∈es,e<2 ^ 64)(hl:es.length<=8):es.sum<2 ^ 67:=by
 have:es.sum<=es.length*(2 ^ 64-1):=by
  clear hl
  induction es with
  |nil=>decide
  |cons e es ih=>
   have h1:=h e Vm;have h2:=ih fun x m=>h x (Vk _ m);rw[Xj,Vn,Nat.add_mul];lia
 have h3:es.length*(2 ^ 64-1)<=8*(2 ^ 64-1):=YG _ hl;lia
abbrev Lg:MB:=aE 2 (ah Io (ah lB aZ (bp ["Packing"] "width" aK)) bt)
end PG
namespace GK
def dig(w:Nat):List Nat->Nat
 |[]=>0
 |d::ds=>2 ^ w*dig w ds+d
theorem mQ{w a b c e:Nat}(hb:b<2 ^ w)(he:e<2 ^ w):(2 ^ w*a+b) &&& (2 ^ w*c+e)=2 ^ w*(a &&& c)+(b &&& e):=by
 have BW:b &&& e<2 ^ w:=YZ Zo hb;apply XU;intro j;rw[W5,Wq _ hb,Wq _ he,Wq _ BW];split
 .rw[W5]
 .rw[W5]
theorem tf{w a b c e:Nat}(hb:b<2 ^ w)(he:e<2 ^ w):2 ^ w*a+b=2 ^ w*c+e↔a=c/\b=e:=by
 constructor
 .intro h;have m1:(2 ^ w*a+b) % 2 ^ w=b:=by rw[Zn,Y7 hb]
  have m2:(2 ^ w*c+e) % 2 ^ w=e:=by rw[Zn,Y7 he]
  have be:b=e:=by rw[<-m1,<-m2,h]
  subst be;have:2 ^ w*a=2 ^ w*c:=by lia
  exact⟨Nat.eq_of_mul_eq_mul_left (WO w) this,rfl⟩
 .rintro⟨rfl,rfl⟩;rfl
theorem Hk{v d:Nat}(hd:d<2 ^ (v+1)):d &&& 2 ^ v=2 ^ v↔2 ^ v<=d:=by
 constructor
 .intro h;rw[<-h];exact Zo
 .intro h;have e:2 ^ v*1+(d-2 ^ v)=d:=by lia
  have l:d-2 ^ v<2 ^ v:=by rw[ZN]at hd;lia
  have z:=mQ (w:=v) (a:=1) (b:=d-2 ^ v) (c:=1) (e:=0) l (WO v);rw[Nat.and_zero,Nat.and_self,e,WZ,Z8]at z;exact z
theorem guards{v:Nat}:∀(ds:List Nat),(∀d∈ds,d<2 ^ (v+1))->(dig (v+1) ds &&& dig (v+1) (List.replicate ds.length (2 ^ v))=dig (v+1) (List.replicate ds.length (2 ^ v))↔∀d∈ds,2 ^ v<=d)
 |[],_=>⟨fun _ _ hd=>(by cases hd),fun _=>by simp[dig]⟩
 |d::ds,h=>by
  have hd:=h d Vm;have ih:=guards ds fun x hx=>h x (Vk _ hx);have hp:2 ^ v<2 ^ (v+1):=YE (by decide) (V? v);have hpa:d &&& 2 ^ v<2 ^ (v+1):=YZ Zo hd;show(2 ^ (v+1)*dig (v+1) ds+d) &&& (2 ^ (v+1)*dig (v+1) (List.replicate ds.length (2 ^ v))+2 ^ v)=2 ^ (v+1)*dig (v+1) (List.replicate ds.length (2 ^ v))+2 ^ v↔_;rw[mQ hd hp,tf hpa hp,ih,Hk hd];constructor
  .rintro⟨a,b⟩ x hx;rcases VH.mp hx with rfl|hx
   .exact b
   .exact a x hx
  .intro a;exact⟨fun x hx=>a x (Vk _ hx),a d Vm⟩
theorem lJ{w a b c e:Nat}(hb:b<2 ^ w)(he:e<2 ^ w):(2 ^ w*a+b) ||| (2 ^ w*c+e)=2 ^ w*(a ||| c)+(b ||| e):=by
 have BW:b ||| e<2 ^ w:=_o hb he;apply XU;intro j;rw[Zr,Wq _ hb,Wq _ he,Wq _ BW];split
 .rw[Zr]
 .rw[Zr]
theorem Lh{v d:Nat}(hd:d<2 ^ v):d ||| 2 ^ v=d+2 ^ v:=by have z:=lJ (w:=v) (a:=0) (b:=d) (c:=1) (e:=0) hd (WO v);rw[Xg,Wb,Z7,Nat.zero_or,WZ,Z8]at z;lia
theorem guarded{v:Nat}:∀(ds:List Nat),(∀d∈ds,d<2 ^ v)->dig (v+1) ds ||| dig (v+1) (List.replicate ds.length (2 ^ v))=dig (v+1) (ds.map (· + 2 ^ v))
 |[],_=>by simp[dig]
 |d::ds,h=>by have hd:=h d Vm;have ih:=guarded ds fun x hx=>h x (Vk _ hx);have hp:2 ^ v<2 ^ (v+1):=YE (by decide) (V? v);show(2 ^ (v+1)*dig (v+1) ds+d) ||| (2 ^ (v+1)*dig (v+1) (List.replicate ds.length (2 ^ v))+2 ^ v)=2 ^ (v+1)*dig (v+1) (ds.map (· + 2 ^ v))+(d+2 ^ v);rw[lJ (ZP hd hp) hp,ih,Lh hd]
theorem taken{v:Nat}:∀(ds fs:List Nat),ds.length=fs.length->(∀f∈fs,f<2 ^ v)->dig (v+1) (ds.map (· + 2 ^ v))=dig (v+1) fs+dig (v+1) ((ds.zip fs).map fun z=>z.1+2 ^ v-z.2)
 |[],[],_,_=>by simp[dig]
 |d::ds,f::fs,hl,h=>by have hf:=h f Vm;have ih:=taken ds fs (Ww hl) fun x hx=>h x (Vk _ hx);show 2 ^ (v+1)*dig (v+1) (ds.map (· + 2 ^ v))+(d+2 ^ v)=2 ^ (v+1)*dig (v+1) fs+f+(2 ^ (v+1)*dig (v+1) ((ds.zip fs).map fun z=>z.1+2 ^ v-z.2)+(d+2 ^ v-f));rw[ih,X'];lia
theorem divides{v:Nat}{ds fs:List Nat}(hl:ds.length=fs.length)(hd:∀d∈ds,d<2 ^ v)(hf:∀f∈fs,f<2 ^ v):
  (dig (v+1) ((ds.zip fs).map fun z=>z.1+2 ^ v-z.2) &&& dig (v+1) (List.replicate ds.length (2 ^ v))=dig (v+1) (List.replicate ds.length (2 ^ v))↔∀z∈ds.zip fs,z.2<=z.1):=by
 have ln:((ds.zip fs).map fun z=>z.1+2 ^ v-z.2).length=ds.length:=by rw[Vi,Ze];lia
 have lt:∀z∈ds.zip fs,z.1<2 ^ v/\z.2<2 ^ v:=fun z hz=>⟨hd _ (XW hz).1,hf _ (XW hz).2⟩
 have g:=guards (v:=v) ((ds.zip fs).map fun z=>z.1+2 ^ v-z.2) fun x hx=>by obtain⟨z,hz,rfl⟩:=VG.mp hx;have:=lt z hz;rw[ZN];lia
 rw[ln]at g;rw[g];constructor
 .intro a z hz;have:=a _ (VG.mpr ⟨z,hz,rfl⟩);have l:=lt z hz;lia
 .intro a x hx;obtain⟨z,hz,rfl⟩:=VG.mp hx;have:=a z hz;lia
theorem zM{w:Nat}:∀(ds:List Nat)(i:Nat)(h:i<ds.length),(∀d∈ds,d<2 ^ w)->dig w ds / 2 ^ (w*i) % 2 ^ w=ds[i]
 |d::ds,0,_,hd=>by have h0:=hd d Vm;show(2 ^ w*dig w ds+d) / 2 ^ (w*0) % 2 ^ w=d;rw[Xg,Nat.pow_zero,Nat.div_one,Zn,Y7 h0]
 |d::ds,i+1,h,hd=>by
  have h0:=hd d Vm;have ih:=zM ds i (XD h) fun x hx=>hd x (Vk _ hx);show(2 ^ w*dig w ds+d) / 2 ^ (w*(i+1)) % 2 ^ w=ds[i]'(XD h);have e:2 ^ (w*(i+1))=2 ^ w*2 ^ (w*i):=by rw[<-YF,ZO,XE]
  have q:(2 ^ w*dig w ds+d) / 2 ^ w=dig w ds:=by rw[Nat.mul_add_div (WO w),Nat.div_eq_of_lt h0,WZ]
  rw[e,<-Nat.div_div_eq_div_mul,q];exact ih
theorem zN{w:Nat}:∀(ds fs:List Nat),ds.length=fs.length->(∀d∈ds,d<2 ^ w)->(∀d∈fs,d<2 ^ w)->dig w ds=dig w fs->ds=fs
 |[],[],_,_,_,_=>rfl
 |d::ds,f::fs,hl,hd,hf,h=>by obtain⟨a,b⟩:=(tf (hd d Vm) (hf f Vm)).mp h;rw[b,zN ds fs (Ww hl) (fun x hx=>hd x (Vk _ hx)) (fun x hx=>hf x (Vk _ hx)) a]
theorem qp{w:Nat}:∀(es:List Nat)(ds:List Nat),(∀e∈es,e<2 ^ w)->es.foldl (fun k e=>(k*2 ^ w) ||| e) (dig w ds)=dig w (es.reverse++ds)
 |[],_,_=>rfl
 |e::es,ds,h=>by
  have he:=h e Vm;have s:(dig w ds*2 ^ w) ||| e=dig w (e::ds):=by have z:=lJ (w:=w) (a:=dig w ds) (b:=0) (c:=0) (e:=e) (WO w) he;rw[Xg,Wb,Z7,Nat.zero_or,WZ]at z;rw[Nat.mul_comm];exact z
  rw[List.foldl_cons,s,qp es (e::ds) fun x hx=>h x (Vk _ hx),WW,VM];rfl
end GK
namespace PG
open PySem.Spec L2 MN
open PyProof.Rows hiding St kindOf
def bj(b:Bool)(w:Nat)(es:List Nat):Nat:=es.foldl (fun k e=>(k*2 ^ w) ||| e) (if b=true then es.sum else 0)
theorem Li{s:ae}{n:Nat}{b:Bool}{aj w g k e j:Nat}{x1:Option ak}(P:Pk s n b aj w g)(hw:w<=64)(he:e<2 ^ 64)(hk:k<2 ^ (67+64*j))(hj:j<=100):
  Lg [qL n, x1, qN k, qN e] s=.nx [qL n, x1, qI ((k*2 ^ w ||| e:Nat):Int), qN e] s/\k*2 ^ w ||| e<2 ^ (67+64*(j+1)):=by
 refine⟨?_,?_⟩
 .have a:ah lB aZ (bp ["Packing"] "width" aK) [qL n, x1, qN k, qN e] s=.ok (.int ((k*2 ^ w:Nat):Int)) s:=by rw[ax (x:=.int (k:Int)) (s1:=s) rfl (eU (n:=n) (s1:=s) rfl P Le),uG (by lia) hk (by lia)]
  have o:ah Io (ah lB aZ (bp ["Packing"] "width" aK)) bt [qL n, x1, qN k, qN e] s=.ok (.int ((k*2 ^ w ||| e:Nat):Int)) s:=by rw[ax a (y:=.int (e:Int)) (s2:=s) rfl];show bI.ok (ak.int (Builtin.bitOr ((k*2 ^ w:Nat):Int) (e:Int))) s=_;rw[Eb]
  show aE 2 _ _ s=_;rw[aR o];rfl
 .have hp:67+64*(j+1)=(67+64*j)+64:=by lia
  refine _o ?_ (VC he (Wa (by decide) (by lia)));rw[hp,YF];have h2:2 ^ w<=2 ^ 64:=Wa (by decide) hw
  calc k*2 ^ w<=k*2 ^ 64:=Z? _ h2
   _<2 ^ (67+64*j)*2 ^ 64:=Nat.mul_lt_mul_of_pos_right hk (by decide)
theorem tj{s:ae}{n:Nat}{b:Bool}{aj w g:Nat}{x1:Option ak}{gd:ae->Prop}(hg:gd s)(P:Pk s n b aj w g)(hw:w<=64):∀(es:List Nat)(j k:Nat)(y:Option ak),(∀e∈es,e<2 ^ 64)->k<2 ^ (67+64*j)->j+es.length<=100 ->
  ∃y':Option ak,forL gd (au 3) Lg (nV es) [qL n, x1, qN k, y] s=.nx [qL n, x1, qI ((es.foldl (fun k e=>(k*2 ^ w) ||| e) k:Nat):Int), y'] s
 |[],j,k,y,_,hk,_=>⟨y,by show forL gd _ _ [] _ s=_;unfold forL;rw[Vo hg];rfl⟩
 |e::es,j,k,y,he,hk,hj=>by
  rw[Vn]at hj;obtain⟨f1,l1⟩:=Li (x1:=x1) P hw (he e Vm) hk (by lia);obtain⟨y2,f2⟩:=tj (x1:=x1) hg P hw es (j+1) (k*2 ^ w ||| e) (some (.int (e:Int))) (fun x m=>he x (Vk _ m)) l1 (by lia);refine⟨y2,?_⟩;show forL gd _ _ (.int (e:Int)::nV es) _ s=_;unfold forL;rw[Vo hg];show(match Lg [qL n, x1, qN k, qN e] s with
   |.nx μ' az=>forL gd (au 3) Lg (nV es) μ' az|.ct μ' az=>forL gd (au 3) Lg (nV es) μ' az|.bk μ' az=>.nx μ' az|.rt v az=>.rt v az|.er c μ' az=>.er c μ' az|.bad=>.bad)=_
  rw[f1];exact f2
theorem yq{s:ae}{n:Nat}{b:Bool}{aj w g:Nat}{v:ak}{es:List Nat}(P:Pk s n b aj w g)(hw:w<=64)(h:Tz s v es)(he:∀e∈es,e<2 ^ 64)(hl:es.length<=8):
  PM.cz [.loc n,v] s=.ok (.int ((bj b w es:Nat):Int)) s:=by
 have hx:FT v=false:=by rcases h with rfl|⟨q,rfl,_⟩<;>rfl
 have v1:∀{y z:Option ak}{s:ae},bf [qL n, some v, y, z] s=.ok v s:=fun{y z s} => kC rfl hx;obtain⟨k0,Ob⟩:∃k0:Nat,k0=if b=true then es.sum else 0:=⟨_,rfl⟩
 have f0:FU (bN (bp ["Packing"] "by_degree" aK)) (aq uu (aa bf ao)) bT [qL n, some v, qn, qn] s=.ok (.int (k0:Int)) s/\k0<2 ^ 67:=by
  have t:bN (bp ["Packing"] "by_degree" aK) [qL n, some v, qn, qn] s=.ok b s:=bq (eU (n:=n) (s1:=s) rfl P Ru);cases b with
  |true=>
   rw[Vo rfl]at Ob;rw[Ob];exact⟨by rw[sR,t,av,uk,aC (bS v1),zL h],Lf he hl⟩
  |false=>
   rw[Vv Vs]at Ob;rw[Ob];exact⟨by rw[sR,t,av,zg];rfl,by decide⟩
 obtain⟨f0,l0⟩:=f0;obtain⟨gd,hi,hg⟩:∃gd:ae->Prop,cg bf [qL n, some v, qN k0, qn] s=.ok (nV es,gd) s/\gd s:=by
  rcases h with rfl|⟨q,rfl,h⟩
  .exact⟨fun _=>True,by rw[cj,v1,av];rfl,trivial⟩
  .exact⟨fun az=>ai az q=some (nV es),by rw[cj,v1,av,bM h],h⟩
 obtain⟨y,f1⟩:=tj (x1:=some v) hg P hw es 0 k0 none he (by simpa using l0) (by lia);unfold bj;rw[<-Ob];unfold PM.cz;rw[bB (np:=2) (us:=[ak.loc n,v]) rfl];show(aw (aE 2 _) (aw (cw (cg bf) (au 3) Lg) (aO aZ)) [qL n, some v, qn, qn] s).fin=_;rw[aA,aR f0,aB];show(aw (cw (cg bf) (au 3) Lg) (aO aZ) [qL n, some v, qN k0, qn] s).fin=_;rw[aA,dA,hi,bh,fh,f1,aB];rfl
theorem v!(b:Bool){w:Nat}{es:List Nat}(he:∀e∈es,e<2 ^ w):bj b w es=GK.dig w (es.reverse++if b=true then[es.sum] else[]):=by
 unfold bj;cases b with
 |true=>
  rw[Vo rfl,Vo rfl];have z:=GK.qp es [es.sum] he;have e:GK.dig w [es.sum]=es.sum:=by show 2 ^ w*0+es.sum=es.sum;lia
  rw[e]at z;exact z
 |false=>
  rw[Vv Vs,Vv Vs];exact GK.qp es [] he
abbrev Rx:ME:=ah vL (ah Gj aZ (ah cf (bp ["Packing"] "width" bt) aK)) bf
theorem Lj{s:ae}{n:Nat}{b:Bool}{aj w g k f p:Nat}(P:Pk s n b aj w g)(hw:w<=64)(hf:f<2 ^ 64):
  Rx [qN p, qN f, qN k, qL n] s=.ok (.int ((k / 2 ^ (w*p) &&& f:Nat):Int)) s:=by
 have m:ah cf (bp ["Packing"] "width" bt) aK [qN p, qN f, qN k, qL n] s=.ok (.int ((w*p:Nat):Int)) s:=by
  rw[ax (eU (n:=n) (s1:=s) rfl P Le) (y:=.int (p:Int)) (s2:=s) rfl,zj (by lia) (by lia)]
  push_cast;rfl
 have r:ah Gj aZ (ah cf (bp ["Packing"] "width" bt) aK) [qN p, qN f, qN k, qL n] s=.ok (.int ((k / 2 ^ (w*p):Nat):Int)) s:=by
  rw[ax (x:=.int (k:Int)) (s1:=s) rfl m];show(if 0<=((w*p:Nat):Int)then bI.ok (ak.int ((k:Int) / 2 ^ ((w*p:Nat):Int).toNat)) s else .bad)=_;rw[Vo (W4 _),VR]
  push_cast;rfl
 show ah vL _ _ _ s=_;rw[ax r (y:=.int (f:Int)) (s2:=s) rfl];show bI.ok (ak.int (Builtin.bitAnd ((k / 2 ^ (w*p):Nat):Int) (f:Int))) s=_;rw[zK]
theorem v?{s:ae}{n:Nat}{b:Bool}{aj w g k f:Nat}(P:Pk s n b aj w g)(hw:w<=64)(hf:f<2 ^ 64):∀(ps:List Nat)(x:Option ak)(ys:List ak),
  aW (fun _=>True) (au 0) aJ Rx (nV ps) [x, qN f, qN k, qL n] s ys=.ok (ys++nV (ps.map fun p=>k / 2 ^ (w*p) &&& f)) s
 |[],x,ys=>by show aW _ _ _ _ [] _ s ys=_;rw[b8 trivial];simp[nV]
 |p::ps,x,ys=>by have h1:=Lj (p:=p) (k:=k) P hw hf;have h3:=v? (k:=k) P hw hf ps (some (.int (p:Int))) (ys++[.int ((k / 2 ^ (w*p) &&& f:Nat):Int)]);show aW _ _ _ _ (.int (p:Int)::nV ps) _ s ys=_;rw[cE (g:=fun _=>True) trivial (show au 0 (.int (p:Int)) [x, qN f, qN k, qL n]=some [qN p, qN f, qN k, qL n]from rfl) h1,h3,VM];rfl
theorem Bs:∀(n:Nat),nH ((n:Int)-1) n=nV ((List.range n).map fun i=>n-1-i)
 |0=>rfl
 |n+1=>by
  unfold nH nV;rw[VE];refine VS fun i hi=>?_;have:=YI.mp hi;show ak.int _=ak.int _;congr 1
  push_cast
  lia
theorem Bt{w:Nat}{es X:List Nat}(he:∀e∈es,e<2 ^ w)(hX:∀e∈X,e<2 ^ w):(((List.range es.length).map fun i=>es.length-1-i).map fun p=>GK.dig w (es.reverse++X) / 2 ^ (w*p) &&& (2 ^ w-1))=es:=by
 apply YR
 .rw[Vi,Vi,W_]
 .intro i h1 h2;rw[Wy,Wy,_h,Nat.and_two_pow_sub_one_eq_mod];have hl:es.length-1-i<(es.reverse++X).length:=by rw[Vt,V2];lia
  rw[GK.zM (es.reverse++X) (es.length-1-i) hl (fun d hd=>by
   rcases VX.mp hd with z|z
   .exact he d (W8.mp z)
   .exact hX d z)]
  rw[List.getElem_append_left (by rw[V2];lia),List.getElem_reverse];congr 1;lia
theorem mR{s:ae}{n:Nat}{b:Bool}{aj w g k:Nat}{es:List Nat}(P:Pk s n b aj w g)(hw:w<64)(hm:aj<=8)(hl:es.length=aj)(he:∀e∈es,e<2 ^ w)(hs:es.sum<2 ^ w)(hk:k=bj b w es):
  PM.aX [.loc n,.int (k:Int)] s=.ok (.tup (nV es)) (s++[.lst (nV es)]):=by
 obtain⟨f,hf⟩:∃f:Nat,f=2 ^ w-1:=⟨_,rfl⟩
 have lf:f<2 ^ 64:=by have:2 ^ w<=2 ^ 64:=Wa (by decide) (by lia);have:0<2 ^ w:=Nat.pow_pos (by decide);lia
 have e1:=Bs aj;have h1:=v? (k:=k) P (by lia) lf ((List.range aj).map fun i=>aj-1-i) none [];have eb:(((List.range aj).map fun i=>aj-1-i).map fun p=>k / 2 ^ (w*p) &&& f)=es:=by
  rw[hk,v! b he,hf,<-hl];refine Bt he fun d hd=>?_;cases b with
  |true=>rw[Vo rfl]at hd;rw[VI.mp hd];exact hs
  |false=>rw[Vv Vs]at hd;cases hd
 rw[eb]at h1;have f0:ah dr (ah lB b! (bp ["Packing"] "width" aK)) b! [qL n, qN k, qn] s=.ok (.int (f:Int)) s:=by
  have a:ah lB b! (bp ["Packing"] "width" aK) [qL n, qN k, qn] s=.ok (.int ((1*2 ^ w:Nat):Int)) s:=by rw[ax (x:=.int ((1:Nat):Int)) (s1:=s) rfl (eU (n:=n) (s1:=s) rfl P Le),uG (e:=1) (by lia) (by decide) (by decide)]
  rw[ax a (y:=.int 1) (s2:=s) rfl];show bI.ok (ak.int (((1*2 ^ w:Nat):Int)-1)) s=_;have:0<2 ^ w:=Nat.pow_pos (by decide);have z:((1*2 ^ w:Nat):Int)-1=(f:Int):=by rw[hf];lia
  rw[z]
 obtain⟨μ,hμ⟩:∃μ:MN.Env,μ=[qL n, qN k, qN f]:=⟨_,rfl⟩
 have ar:aa (ah dr (bp ["Packing"] "many" aK) b!) (aa (mG b!) (aa (mG b!) ao)) μ s=.ok [.int ((aj:Int)-1),.int (-1),.int (-1)] s:=by refine cZ (s1:=s) ?_ rfl;rw[ax (eU (n:=n) (s1:=s) (by rw[hμ];rfl) P Rv) (y:=.int 1) (s2:=s) rfl];rfl
 have cp:bw 1 [2,1,0] (pL (aa (ah dr (bp ["Packing"] "many" aK) b!) (aa (mG b!) (aa (mG b!) ao)))) (au 0) aJ Rx μ s=.ok (.loc s.length) (s++[.lst (nV es)]):=by
  rw[cO,Gy,ar,av,Kx (by lia) (by lia) (by decide) (by decide),av,eM];have e2:((aj:Int)-1 - -1).toNat=aj:=by lia
  rw[e2,e1,Vo (by unfold nV;rw[Vi,Vi,W_,VQ];lia)];have cm:gH 1 [2,1,0] μ=[qn, qN f, qN k, qL n]:=by rw[hμ];rfl
  rw[cm,h1,av];rfl
 unfold PM.aX;rw[bB (np:=2) (us:=[ak.loc n,.int (k:Int)]) rfl];show(aw (aE 2 _) (aO (aq mH (aa _ ao))) [qL n, qN k, qn] s).fin=_;rw[aA,aR f0,aB];show(aO _ [qL n, qN k, qN f] s).fin=_;rw[<-hμ,eV (v:=.tup (nV es)) (s1:=s++[.lst (nV es)]) (by rw[aC (bS cp)];exact oX (bx s _))];rfl
theorem zO{N G r a:Nat}(hG:G<2 ^ N)(hr:r<2 ^ N):(2 ^ N*a+r) &&& G=r &&& G:=by have z:=GK.mQ (w:=N) (a:=a) (b:=r) (c:=0) (e:=G) hr hG;rw[Xg,Wb,Nat.and_zero,Xg,Wb]at z;exact z
theorem not_and{N G r:Nat}(hG:G<2 ^ N)(hr:r<2 ^ N):(2 ^ N-(r+1)) &&& G=0↔r &&& G=G:=by
 constructor
 .intro h;apply XU;intro i;have hi:=We (fun z=>Nat.testBit z i) h;rw[W5,Zm hr,_z]at hi;rw[W5];by_cases hN:i<N
  .rw[VF hN,Yf]at hi;cases hg:G.testBit i with
   |false=>rw[XG]
   |true=>
    rw[hg,Yh]at hi;rw[Yh];simpa using hi
  .have g0:G.testBit i=false:=Nat.testBit_lt_two_pow (VC hG (Wa (by decide) (by lia)));rw[g0,XG]
 .intro h;apply XU;intro i;have hi:=We (fun z=>Nat.testBit z i) h;rw[W5]at hi;rw[W5,Zm hr,_z];cases hg:G.testBit i with
  |false=>rw[XG]
  |true=>
   rw[hg,Yh]at hi;rw[hi];simp
theorem Bu{N G r:Nat}{c x:Int}(hG:G<2 ^ N)(hr:r<2 ^ N)(hx:x=((2 ^ N:Nat):Int)*c+(r:Int)):Builtin.bitAnd x (G:Int)=(G:Int)↔r &&& G=G:=by
 have p:(0:Int)<((2 ^ N:Nat):Int):=by exact_mod_cast WO N
 by_cases h0:0<=c
 .obtain⟨a,rfl⟩:=ZE h0;have e:x=((2 ^ N*a+r:Nat):Int):=by rw[hx];push_cast;rfl
  rw[e,zK,zO hG hr];exact⟨fun h=>by exact_mod_cast h,fun h=>by rw[h]⟩
 .obtain⟨a,ha⟩:=ZE (show 0<=-c-1 by lia);have hc:c = -(a:Int)-1:=by lia
  have mul:((2 ^ N:Nat):Int)*c = -(((2 ^ N*a:Nat):Int))-((2 ^ N:Nat):Int):=by rw[hc,Int.mul_sub,Int.mul_neg,Zf];push_cast;rfl
  have neg:¬ 0<=x:=by have:(0:Int)<=((2 ^ N*a:Nat):Int):=W4 _;rw[hx,mul];lia
  have nt:(Builtin.bitNot x).toNat=2 ^ N*a+(2 ^ N-(r+1)):=by unfold Builtin.bitNot;rw[hx,mul];lia
  unfold Builtin.bitAnd;rw[VD neg,VF (W4 G)];dsimp only;rw[nt,VR,Nat.and_comm,zO hG (by lia)];rw[<-not_and hG hr];constructor
  .intro h;lia
  .intro h;rw[h];lia
end PG
namespace PG
open PySem.Spec L2 MN
open PyProof.Rows hiding St kindOf
open GK (dig)
theorem kF{w:Nat}:∀(ds X:List Nat),dig w (ds++X)=2 ^ (w*ds.length)*dig w X+dig w ds
 |[],X=>by show dig w X=2 ^ (w*0)*dig w X+0;rw[Xg,Nat.pow_zero,Zd,WZ]
 |d::ds,X=>by
  show 2 ^ w*dig w (ds++X)+d=2 ^ (w*(ds.length+1))*dig w X+(2 ^ w*dig w ds+d);have e:2 ^ (w*(ds.length+1))=2 ^ w*2 ^ (w*ds.length):=by rw[<-YF,ZO,XE]
  rw[kF ds X,X',e,Nat.mul_assoc,Nat.add_assoc]
theorem oY{w:Nat}:∀(ds:List Nat),(∀d∈ds,d<2 ^ w)->dig w ds<2 ^ (w*ds.length)
 |[],_=>by show 0<2 ^ (w*0);exact WO _
 |d::ds,h=>by
  have hd:=h d Vm;have ih:=oY ds fun x hx=>h x (Vk _ hx);have e:2 ^ (w*(ds.length+1))=2 ^ w*2 ^ (w*ds.length):=by rw[<-YF,ZO,XE]
  show 2 ^ w*dig w ds+d<2 ^ (w*(ds.length+1));rw[e];have z:2 ^ w*(dig w ds+1)<=2 ^ w*2 ^ (w*ds.length):=Z? _ ih;rw[X',Z8]at z;lia
theorem Lk{N a r G:Nat}(hr:r<2 ^ N)(hG:G<2 ^ N):(2 ^ N*a+r) ||| G=2 ^ N*a+(r ||| G):=by have z:=GK.lJ (w:=N) (a:=a) (b:=r) (c:=0) (e:=G) hr hG;rw[Xg,Wb,Z7]at z;exact z
theorem Ec{v:Nat}{ds fs X Y:List Nat}(hl:ds.length=fs.length)(hd:∀d∈ds,d<2 ^ v)(hf:∀f∈fs,f<2 ^ v){G:Nat}(eG:G=dig (v+1) (List.replicate ds.length (2 ^ v))):
  Builtin.bitAnd (((dig (v+1) (ds++X) ||| G:Nat):Int)-((dig (v+1) (fs++Y):Nat):Int)) (G:Int)=(G:Int)↔∀z∈ds.zip fs,z.2<=z.1:=by
 have hp:2 ^ v<2 ^ (v+1):=YE (by decide) (V? v);have hG:G<2 ^ ((v+1)*ds.length):=by
  have z:=oY (w:=v+1) (List.replicate ds.length (2 ^ v)) fun d h=>by rw[List.eq_of_mem_replicate h];exact hp
  rw[Wc]at z;rw[eG];exact z
 have hk:=oY (w:=v+1) ds fun d h=>ZP (hd d h) hp;obtain⟨R,hR⟩:∃R,R=(ds.zip fs).map fun z=>z.1+2 ^ v-z.2:=⟨_,rfl⟩
 have lR:R.length=ds.length:=by rw[hR,Vi,Ze];lia
 have hRl:dig (v+1) R<2 ^ ((v+1)*ds.length):=by
  have z:=oY (w:=v+1) R fun d h=>by rw[hR]at h;obtain⟨z,hz,rfl⟩:=VG.mp h;have:=hd _ (XW hz).1;rw[ZN];lia
  rw[lR]at z;exact z
 have g1:dig (v+1) (ds++X) ||| G=2 ^ ((v+1)*ds.length)*dig (v+1) X+dig (v+1) (ds.map (· + 2 ^ v)):=by rw[kF,Lk hk hG,eG,GK.guarded ds hd]
 have g2:=GK.taken ds fs hl hf;rw[<-hR]at g2;have x:(((dig (v+1) (ds++X) ||| G:Nat):Int)-((dig (v+1) (fs++Y):Nat):Int))=((2 ^ ((v+1)*ds.length):Nat):Int)*((dig (v+1) X:Int)-(dig (v+1) Y:Int))+((dig (v+1) R:Nat):Int):=by
  rw[g1,kF,<-hl,g2,Int.mul_sub]
  push_cast
  lia
 rw[Bu hG hRl x,eG,hR];exact GK.divides hl hd hf
end PG
namespace PG
open PySem.Spec L2 MN
open PyProof.Rows hiding St kindOf
theorem Hl{h:Nat}(hh:h<2 ^ 20):Builtin.Int.intBits (h:Int)<=20:=by
 unfold Builtin.Int.intBits;by_cases z:h=0
 .rw[z];decide
 .have e:((h:Int)==0)=false:=by rw[VV];lia
  rw[e];show(h:Int).natAbs.log2+1<=20;rw[_i];have:=(YH z).mpr hh;lia
theorem gz(m:Nat):d5 0 m=(List.range' 0 m).map fun(i:Nat)=>ak.int (i:Int):=by unfold d5;rw[Z9];refine VS fun i _=>?_;rw[Int.zero_add]
def Xb(f:Nat)(s s':ae):Prop:=s.length<=s'.length/\∀(n:Nat)(c:aP),n≠f->s[n]?=some c->s'[n]?=some c
abbrev i_:=Nat×List Nat×Int
def tN(r:i_):ak:=.tup [.tup (nV r.2.1),.int r.2.2]
def yr(s:ae)(R:Nat)(rows:List i_):Prop:=ai s R=some (rows.map fun r=>ak.loc r.1)/\∀r∈rows,s[r.1]?=some (.lst [tN r])
def GoodR(p:Int)(aj:Nat)(rows:List i_):Prop:=∀r∈rows,r.2.1.length=aj/\(∀e∈r.2.1,e<2 ^ 20)/\1<=r.2.2/\r.2.2<p
theorem fV{s:ae}{n:Nat}{us:List ak}(h:ai s n=some us):∃c,s[n]?=some c/\∀s':ae,s'[n]?=some c->ai s' n=some us:=by
 unfold ai at h;cases z:s[n]? with
 |none=>rw[z]at h;cases h
 |some c=>
  rw[z]at h;exact⟨c,rfl,fun s' e=>by unfold ai;rw[e];exact h⟩
theorem Xt.items{s s':ae}(x:Xt s s'){n:Nat}{us:List ak}(h:ai s n=some us):ai s' n=some us:=by obtain⟨c,h1,h2⟩:=fV h;exact h2 s' (x.2 _ _ h1)
theorem Xt.rows{s s':ae}(x:Xt s s'){R:Nat}{rows:List i_}(h:yr s R rows):yr s' R rows:=⟨x.items h.1,fun r m=>x.2 _ _ (h.2 r m)⟩
theorem qq{s:ae}{n:Nat}{us:List ak}(h:ai s n=some us):n<s.length:=by obtain⟨c,h1,_⟩:=fV h;exact bz h1
theorem qr(f:Nat->Int):∀j,∃i,i<=j/\SO.g8 f j=f i
 |0=>⟨0,Vp _,rfl⟩
 |j+1=>by
  unfold SO.g8;by_cases h:f (j+1)>SO.g8 f j
  .rw[Vo h];exact⟨j+1,Vp _,rfl⟩
  .rw[Vv h];obtain⟨i,h1,h2⟩:=qr f j;exact⟨i,by lia,h2⟩
theorem Hm{es:List Nat}{st:ae}(h:es≠[])(hb:∀e∈es,e<2 ^ 20):∃m:Nat,rA [.tup (nV es)] st=.ok (.int (m:Int)) st/\m<2 ^ 20:=by
 cases es with
 |nil=>exact absurd rfl h
 |cons e es=>
  obtain⟨i,h1,h2⟩:=qr (fun i=>(((e::es).map fun(e:Nat)=>(e:Int))).getD i 0) es.length;have li:i<(e::es).length:=by rw[Vn];lia
  refine⟨(e::es)[i],?_,hb _ (Wj _)⟩;show(match dP (nV (e::es)) with|some (n::ns)=>bI.ok (ak.int (SO.g8 (fun i=>(n::ns).getD i 0) ns.length)) st|_=>.bad)=_;rw[e?,gq,Vl];dsimp only;rw[Vi];rw[Vl]at h2;rw[h2,<-Vl,VW,VB,Vq li];rfl
theorem qt:∀(ms:List Nat)(m:Nat),∃k:Nat,SO.xY (m:Int) (ms.map fun(e:Nat)=>(e:Int))=(k:Int)/\(k=m\/k∈ms)
 |[],m=>⟨m,rfl,.inl rfl⟩
 |x::ms,m=>by
  rw[Vl];show ∃k:Nat,SO.xY (if(x:Int)>(m:Int) then(x:Int) else(m:Int)) _=_/\_;by_cases h:(x:Int)>(m:Int)
  .rw[Vo h];obtain⟨k,h1,h2⟩:=qt ms x;exact⟨k,h1,.inr (by rcases h2 with rfl|h2;exact Vm;exact Vk _ h2)⟩
  .rw[Vv h];obtain⟨k,h1,h2⟩:=qt ms m;exact⟨k,h1,by rcases h2 with rfl|h2;exact .inl rfl;exact .inr (Vk _ h2)⟩
theorem maxD_mem{ms:List Nat}(h:∀e∈ms,e<2 ^ 20):∃k:Nat,SO.maxD 0 (ms.map fun(e:Nat)=>(e:Int))=(k:Int)/\k<2 ^ 20:=by
 cases ms with
 |nil=>exact⟨0,rfl,by decide⟩
 |cons m ms=>
  obtain⟨k,h1,h2⟩:=qt ms m;refine⟨k,h1,?_⟩;rcases h2 with rfl|h2
  .exact h _ Vm
  .exact h _ (Vk _ h2)
theorem gA(s:ae)(c:aP):(s++[c])[s.length]?=some c:=by rw[Vy (Vp _),Wk];rfl
def yt(k:Nat)(t:Int)(l:Nat):List (Str×ak):=[("top",.int (k:Int)),("back",.int t),("tail",.loc l)]
def Mon(s:ae)(m:Nat):Prop:=∃(k:Nat)(t:Int)(l:Nat),s[m]?=some (.ins "Monic" (yt k t l))/\s[l]?=some (.lst [])
def yu(G top k:Nat):Bool:=Builtin.bitAnd (((top ||| G:Nat):Int)-(k:Int)) (G:Int)==(G:Int)
abbrev Ed:MB:=dY (bN (ah kY (ah vL (ah dr bt (bp ["Monic"] "top" cY)) aK) aK)) (aO c6) bg
theorem Hn{s:ae}{G top k m i l:Nat}{t:Int}{x1 x2:Option ak}(hm:s[m]?=some (.ins "Monic" (yt k t l))):Ed [qN G, x1, x2, qI ((top ||| G:Nat):Int), qN i, qL m] s=if yu G top k=true then .rt (.int (i:Int)) s else .nx [qN G, x1, x2, qI ((top ||| G:Nat):Int), qN i, qL m] s:=by
 obtain⟨μ,hμ⟩:∃μ:MN.Env,μ=[qN G, x1, x2, qI ((top ||| G:Nat):Int), qN i, qL m]:=⟨_,rfl⟩
 have f:bp ["Monic"] "top" cY μ s=.ok (.int (k:Int)) s:=eU (n:=m) (s1:=s) (by rw[hμ];rfl) hm rfl;have a:ah dr bt (bp ["Monic"] "top" cY) μ s=.ok (.int (((top ||| G:Nat):Int)-(k:Int))) s:=by rw[ax (x:=.int ((top ||| G:Nat):Int)) (s1:=s) (by rw[hμ];rfl) f];rfl
 have b:ah vL (ah dr bt (bp ["Monic"] "top" cY)) aK μ s=.ok (.int (Builtin.bitAnd (((top ||| G:Nat):Int)-(k:Int)) (G:Int))) s:=by rw[ax a (y:=.int (G:Int)) (s2:=s) (by rw[hμ];rfl)];rfl
 have c:bN (ah kY (ah vL (ah dr bt (bp ["Monic"] "top" cY)) aK) aK) μ s=.ok (yu G top k) s:=by refine bq ?_;rw[ax b (y:=.int (G:Int)) (s2:=s) (by rw[hμ];rfl)];rfl
 rw[<-hμ];cases hh:yu G top k with
 |true=>
  rw[hh]at c;unfold Ed;rw[mP c,Vo rfl,hμ];rfl
 |false=>
  rw[hh]at c;unfold Ed;rw[ej c,Vv Vs]
def kG(G top:Nat):Nat->List Nat->Option Nat
 |_,[]=>none
 |i,k::ks=>if yu G top k=true then some i else kG G top (i+1) ks
theorem zP{s:ae}{G top:Nat}{x1 x2:Option ak}{gd:ae->Prop}(hg:gd s):∀(ms:List (Nat×Nat))(i:Nat)(y4 y5:Option ak),(∀p∈ms,∃(t:Int)(l:Nat),s[p.1]?=some (.ins "Monic" (yt p.2 t l))) ->
  ∃y4' Oc,forL gd (cW [(au 4),(au 5)]) Ed (k9 i (ms.map fun p=>ak.loc p.1)) [qN G, x1, x2, qI ((top ||| G:Nat):Int), y4, y5] s=(match kG G top i (ms.map (·.2)) with
   |some j=>.rt (.int (j:Int)) s
   |none=>.nx [qN G, x1, x2, qI ((top ||| G:Nat):Int), y4', Oc] s)
 |[],i,y4,y5,_=>⟨y4,y5,by
  show forL gd _ _ [] _ s=_;unfold forL;rw[Vo hg];rfl⟩
 |p::ms,i,y4,y5,h=>by
  obtain⟨t,l,hm⟩:=h p Vm;have st:=Hn (G:=G) (top:=top) (i:=i) (x1:=x1) (x2:=x2) hm;obtain⟨z4,z5,ih⟩:=zP (G:=G) (top:=top) (x1:=x1) (x2:=x2) hg ms (i+1) (some (.int (i:Int))) (some (.loc p.1)) fun q hq=>h q (Vk _ hq);refine⟨z4,z5,?_⟩;have an:cW [(au 4),(au 5)] (.tup [.int (i:Int),.loc p.1]) [qN G, x1, x2, qI ((top ||| G:Nat):Int), y4, y5]=some [qN G, x1, x2, qI ((top ||| G:Nat):Int), qN i, qL p.1]:=rfl;show forL gd _ _ (.tup [.int (i:Int),.loc p.1]::k9 (i+1) (ms.map fun p=>ak.loc p.1)) _ s=_;rw[Vl]
  conv=>lhs;unfold forL
  rw[Vo hg,an];dsimp only;rw[st];unfold kG;cases hh:yu G top p.2 with
  |true=>rw[Vo rfl,Vo rfl]
  |false=>
   rw[Vv Vs,Vv Vs];exact ih
theorem Bv{s:ae}{G top M:Nat}{ms:List (Nat×Nat)}(hM:ai s M=some (ms.map fun p=>ak.loc p.1))(h:∀p∈ms,∃(t:Int)(l:Nat),s[p.1]?=some (.ins "Monic" (yt p.2 t l))):
  PM.bu [.int (G:Int),.int (top:Int),.loc M] s=.ok (match kG G top 0 (ms.map (·.2)) with|some j=>.int (j:Int)|none=>.bR) s:=by
 have f3:aE 3 (ah Io bf aK) [qN G, qN top, qL M, qn, qn, qn] s=.nx [qN G, qN top, qL M, qI ((top ||| G:Nat):Int), qn, qn] s:=by
  have o:ah Io bf aK [qN G, qN top, qL M, qn, qn, qn] s=.ok (.int ((top ||| G:Nat):Int)) s:=by rw[ax (x:=.int (top:Int)) (s1:=s) rfl (y:=.int (G:Int)) (s2:=s) rfl];show bI.ok (ak.int (Builtin.bitOr (top:Int) (G:Int))) s=_;rw[Eb]
  rw[aR o];rfl
 obtain⟨y4,y5,lp⟩:=zP (G:=G) (top:=top) (x1:=some (.int (top:Int))) (x2:=some (.loc M)) (gd:=fun st2=>ai st2 M=some (ms.map fun p=>ak.loc p.1)) hM ms 0 none none h;have run:PM.bu=eg 3 6 (aw (aE 3 (ah Io bf aK)) (aw (cw (pM (aa aZ ao)) (cW [(au 4),(au 5)]) Ed) (aO (mC .bR)))):=rfl;rw[run,bB (np:=3) (us:=[.int (G:Int),.int (top:Int),.loc M]) rfl];show(aw (aE 3 _) _ [qN G, qN top, qL M, qn, qn, qn] s).fin=_;rw[aA,f3,aB,aA,dA,Gz,bS (v:=.loc M) (s1:=s) rfl,av,Ky hM,bh,fh,lp];cases kG G top 0 (ms.map (·.2))<;>rfl
theorem wa{s:ae}{n w:Nat}{fs:List (Str×ak)}(hn:s[n]?=some (.ins "Packing" fs))(hl:fs.lookup ("width":Str)=some (.int (w:Int)))(w1:1<=w)(hw:w<=64):∀(j m:Nat)(x:Option ak)(ys:List Nat),j+m<=8 ->
  aW (fun _=>True) (au 0) aJ (ah lB b! (ah dr (ah cb (ah cf (bp ["Packing"] "width" bf) aK) (bp ["Packing"] "width" bf)) b!)) ((List.range' j m).map fun(i:Nat)=>ak.int (i:Int)) [x,some (.loc n)] s (nV ys)=.ok (nV (ys++(List.range' j m).map fun i=>1*2 ^ (w*i+w-1))) s
 |j,0,x,ys,_=>by show aW _ _ _ _ [] _ s _=.ok (nV (ys++[])) s;rw[b8 trivial,VL]
 |j,m+1,x,ys,hj=>by
  have h1:=wa hn hl w1 hw (j+1) m (some (.int (j:Int))) (ys++[1*2 ^ (w*j+w-1)]) (by lia);rw[WK,Vl,Vl];obtain⟨μ,hμ⟩:∃μ:MN.Env,μ=[some (.int (j:Int)),some (.loc n)]:=⟨_,rfl⟩
  have fw:bp ["Packing"] "width" bf μ s=.ok (.int (w:Int)) s:=eU (n:=n) (s1:=s) (by rw[hμ];rfl) hn hl;have e1:ah cf (bp ["Packing"] "width" bf) aK μ s=.ok (.int ((w:Int)*(j:Int))) s:=by rw[ax fw (y:=.int (j:Int)) (s2:=s) (by rw[hμ];rfl),zj (by lia) (by lia)]
  have e2:ah dr (ah cb (ah cf (bp ["Packing"] "width" bf) aK) (bp ["Packing"] "width" bf)) b! μ s=.ok (.int ((w*j+w-1:Nat):Int)) s:=by
   rw[ax (x:=.int ((w:Int)*(j:Int)+(w:Int))) (s1:=s) (by rw[ax e1 fw];rfl) (y:=.int 1) (s2:=s) rfl];show bI.ok (ak.int ((w:Int)*(j:Int)+(w:Int)-1)) s=_;have:((w*j+w-1:Nat):Int)=(w:Int)*(j:Int)+(w:Int)-1:=by rw[Int.natCast_sub (by have:0<=w*j:=Wh _;lia)];push_cast;rfl
   rw[this]
  have wb:w*j+w-1<=1000:=by have:w*j<=64*8:=Nat.mul_le_mul hw (by lia);lia
  have e3:ah lB b! (ah dr (ah cb (ah cf (bp ["Packing"] "width" bf) aK) (bp ["Packing"] "width" bf)) b!) μ s=.ok (.int ((1*2 ^ (w*j+w-1):Nat):Int)) s:=by rw[ax (x:=.int ((1:Nat):Int)) (s1:=s) rfl e2,uG (e:=1) wb (by decide) (by decide)]
  rw[cE (g:=fun _=>True) trivial (show au 0 (.int (j:Int)) [x,some (.loc n)]=some μ by rw[hμ];rfl) e3,hμ];have:nV ys++[.int ((1*2 ^ (w*j+w-1):Nat):Int)]=nV (ys++[1*2 ^ (w*j+w-1)]):=by unfold nV;rw[VT];rfl
  rw[this,h1,VM];rfl
theorem qu(v:Nat):∀(m:Nat),((List.range m).map fun i=>1*2 ^ ((v+1)*i+(v+1)-1)).sum=GK.dig (v+1) (List.replicate m (2 ^ v))
 |0=>rfl
 |m+1=>by
  have e:∀(l:List Nat),(l.map fun i=>1*2 ^ ((v+1)*(i+1)+(v+1)-1)).sum=2 ^ (v+1)*(l.map fun i=>1*2 ^ ((v+1)*i+(v+1)-1)).sum:=by
   intro l
   induction l with
   |nil=>rfl
   |cons a l ih=>
    have z:2 ^ ((v+1)*(a+1)+(v+1)-1)=2 ^ (v+1)*2 ^ ((v+1)*a+(v+1)-1):=by rw[<-YF];congr 1;rw[X'];lia
    rw[Vl,Vl,Xj,Xj,ih,Zd,Zd,z,X']
  rw[ZS,Vl,VE,Xj];show 1*2 ^ ((v+1)*0+(v+1)-1)+((List.range m).map fun i=>1*2 ^ ((v+1)*(i+1)+(v+1)-1)).sum=2 ^ (v+1)*GK.dig (v+1) (List.replicate m (2 ^ v))+2 ^ v;rw[e,qu v m,Xg,Wb,Nat.add_sub_cancel,Zd,XE]
theorem Ee{s:ae}{n aj h:Nat}{d:Bool}(hn:s[n]?=some (.ins "Packing" []))(hm:aj<=8)(hh:h<2 ^ 20):
  ∃(v:Nat)(s':ae),PM.cQ [.loc n,.str (b? d),.int (aj:Int),.int (h:Int)] s=.ok .bR s'/\39<=v/\v<63/\Pk s' n d aj (v+1) (GK.dig (v+1) (List.replicate aj (2 ^ v)))/\Xb n s s':=by
 obtain⟨μ,hμ⟩:∃μ:MN.Env,μ=[qL n, qS (b? d), qN aj, qN h]:=⟨_,rfl⟩
 have v0:∀s,aK μ s=.ok (.loc n) s:=fun s=>by rw[hμ];rfl
 have ln:=bz hn;obtain⟨w,hw⟩:∃w:Nat,w=Builtin.Int.intBits (h:Int)+40:=⟨_,rfl⟩
 have lw:=Hl hh;obtain⟨s1,ck⟩:∃s1,s1=s.set n (.ins "Packing" [("by_degree",.bl d)]):=⟨_,rfl⟩
 obtain⟨s2,cL⟩:∃s2,s2=s1.set n (.ins "Packing" [("by_degree",.bl d),("many",.int (aj:Int))]):=⟨_,rfl⟩
 obtain⟨s3,lK⟩:∃s3,s3=s2.set n (.ins "Packing" [("by_degree",.bl d),("many",.int (aj:Int)),("width",.int (w:Int))]):=⟨_,rfl⟩
 have n1:s1[n]?=some (.ins "Packing" [("by_degree",.bl d)]):=by rw[ck];exact Vz ln
 have n2:s2[n]?=some (.ins "Packing" [("by_degree",.bl d),("many",.int (aj:Int))]):=by rw[cL];exact Vz (bz n1)
 have n3:s3[n]?=some (.ins "Packing" [("by_degree",.bl d),("many",.int (aj:Int)),("width",.int (w:Int))]):=by rw[lK];exact Vz (bz n2)
 have f1:gu ["Packing"] "by_degree" aK (ah kY bf (qs "deg")) μ s=.nx μ s1:=by
  have e:ah kY bf (qs "deg") μ s=.ok (.bl d) s:=by
   rw[ax (x:=.str (b? d)) (y:=.str "deg") (s1:=s) (s2:=s) (by rw[hμ];rfl) rfl,NN];cases d with
   |true=>rw[show(b? true == "deg")=true from Hi]
   |false=>rw[show(b? false == "deg")=false from Hj]
  rw[iI e (v0 s) hn (by decide),ck];rfl
 have f2:gu ["Packing"] "many" aK aZ μ s1=.nx μ s2:=by rw[iI (v:=.int (aj:Int)) (s1:=s1) (by rw[hμ];rfl) (v0 s1) n1 (by show 1<1000;decide),cL];rfl
 have f3:gu ["Packing"] "width" aK (ah cb (zd bt) (mC (.int 40))) μ s2=.nx μ s3:=by
  have e:ah cb (zd bt) (mC (.int 40)) μ s2=.ok (.int (w:Int)) s2:=by rw[ax (x:=.int ((Builtin.Int.intBits (h:Int):Nat):Int)) (s1:=s2) (by rw[hμ];rfl) (y:=.int 40) (s2:=s2) rfl,hw];rfl
  rw[iI e (v0 s2) n2 (by show 2<1000;decide),lK];rfl
 have hg:=wa (s:=s3) (w:=w) n3 (by rfl) (by lia) (by lia) 0 aj none [] (by lia);obtain⟨gs,TB⟩:∃gs:List Nat,gs=[]++(List.range' 0 aj).map fun i=>1*2 ^ (w*i+w-1):=⟨_,rfl⟩
 rw[<-TB]at hg;obtain⟨s4,rE⟩:∃s4,s4=s3++[aP.lst (nV gs)]:=⟨_,rfl⟩
 have n4:s4[n]?=some (.ins "Packing" [("by_degree",.bl d),("many",.int (aj:Int)),("width",.int (w:Int))]):=by rw[rE];exact fH n3 _
 have cp:aq uu (aa (bw 1 [0] (bY (aa aZ ao)) (au 0) aJ (ah lB b! (ah dr (ah cb (ah cf (bp ["Packing"] "width" bf) aK) (bp ["Packing"] "width" bf)) b!))) ao) μ s3=.ok (.int ((gs.sum:Nat):Int)) s4:=by
  have c:bw 1 [0] (bY (aa aZ ao)) (au 0) aJ (ah lB b! (ah dr (ah cb (ah cf (bp ["Packing"] "width" bf) aK) (bp ["Packing"] "width" bf)) b!)) μ s3=.ok (.loc s3.length) s4:=by
   rw[cO,jr (j:=(aj:Int)) (s1:=s3) (by rw[hμ];rfl) (by lia) (by lia),av,eM,VR,gz,Vo (by rw[Vi,Xu,VQ];lia)];have cm:gH 1 [0] μ=[none,some (.loc n)]:=by rw[hμ];rfl
   have oo:=hg;rw[show nV []=([]:List ak)from rfl]at oo;rw[cm,oo,av,rE];rfl
  rw[aC (bS c),zL (.inr ⟨_,rfl,by rw[rE];exact bx s3 _⟩)]
 have f4:=iI (f:="guards") cp (v0 s4) n4 (by show 3<1000;decide);have gv:gs.sum=GK.dig (w-1+1) (List.replicate aj (2 ^ (w-1))):=by rw[<-qu (w-1) aj,TB,V1,<-Z9,YY (by lia)]
 refine⟨w-1,s4.set n (.ins "Packing" (A6 "guards" (.int ((gs.sum:Nat):Int)) [("by_degree",.bl d),("many",.int (aj:Int)),("width",.int (w:Int))])),?_,by lia,by lia,?_,?_,?_⟩
 .unfold PM.cQ;rw[bB (np:=4) (us:=[ak.loc n,.str (b? d),.int (aj:Int),.int (h:Int)]) rfl];show(aw _ (aw _ (aw _ _)) [qL n, qS (b? d), qN aj, qN h] s).fin=_;rw[<-hμ,aA,f1,aB,aA,f2,aB,aA,f3,aB,f4];rfl
 .unfold Pk;rw[<-gv,YY (by lia)];exact Vz (bz n4)
 .rw[VU,rE,Vt,lK,VU,cL,VU,ck,VU];lia
 .intro m c ne e;have ne':n≠m:=fun z=>ne z.symm;refine aQ ?_ ne';rw[rE];refine fH ?_ _;rw[lK,cL,ck];exact aQ (aQ (aQ e ne') ne') ne'
abbrev Tm:=List Nat×Int
def tM(t:Tm):ak:=.tup [.tup (nV t.1),.int t.2]
def zQ(s:ae)(R:Nat)(rows:List (Nat×List Tm)):Prop:=ai s R=some (rows.map fun r=>ak.loc r.1)/\∀r∈rows,s[r.1]?=some (.lst (r.2.map tM))
theorem Xt.Od{s s':ae}(x:Xt s s'){R:Nat}{rows:List (Nat×List Tm)}(h:zQ s R rows):zQ s' R rows:=⟨x.items h.1,fun r m=>x.2 _ _ (h.2 r m)⟩
theorem wc{R F:Nat}{us:List ak}{x0 x4:Option ak}:∀(rows:List (Nat×List Tm))(s1:ae)(ts:List ak)(y:Option ak),ai s1 R=some us->R≠F->(∀r∈rows,s1[r.1]?=some (.lst (r.2.map tM))/\r.1≠F)->s1[F]?=some (.lst ts)->ts.length+(rows.flatMap (·.2)).length<=1000 ->
  ∃y',forL (fun az=>ai az R=some us) (au 3) (bA (fQ iw aZ (aa bt ao))) (rows.map fun r=>ak.loc r.1) [x0, qL R, qL F, y, x4] s1=.nx [x0, qL R, qL F, y', x4] (s1.set F (.lst (ts++(rows.flatMap (·.2)).map tM)))
 |[],s1,ts,y,hi,_,_,hF,_=>⟨y,by
  show forL _ _ _ [] _ s1=_;unfold forL;rw[Vo hi,Ye,V3,VL];have:s1.set F (.lst ts)=s1:=by
   refine List.ext_getElem? fun i=>?_;by_cases z:i=F
   .rw[z,Vz (bz hF),hF]
   .rw[WI (fun y=>z y.symm)]
  rw[this]⟩
 |r::rows,s1,ts,y,hi,nR,hr,hF,hl=>by
  rw[Xx,Vt]at hl;obtain⟨h1,h2⟩:=hr r Vm;obtain⟨s2,cL⟩:∃s2,s2=s1.set F (.lst (ts++r.2.map tM)):=⟨_,rfl⟩
  obtain⟨c,hc,bQ⟩:=fV hi;have BU:ai s2 R=some us:=bQ s2 (by rw[cL];exact aQ hc (fun z=>nR z.symm));obtain⟨y',f⟩:=wc (x0:=x0) (x4:=x4) rows s2 (ts++r.2.map tM) (some (.loc r.1)) BU nR (fun q m=>⟨by rw[cL];exact aQ (hr q (Vk _ m)).1 (fun z=>(hr q (Vk _ m)).2 z.symm),(hr q (Vk _ m)).2⟩) (by rw[cL];exact Vz (bz hF)) (by rw[Vt];rw[Vi];lia);refine⟨y',?_⟩;have b:bA (fQ iw aZ (aa bt ao)) [x0, qL R, qL F, qL r.1, x4] s1=.nx [x0, qL R, qL F, qL r.1, x4] s2:=by refine jJ (v:=.bR) ?_;rw[xU,show aZ [x0, qL R, qL F, qL r.1, x4] s1=.ok (.loc F) s1 from rfl,av,Ds hF,bS (v:=.loc r.1) (s1:=s1) rfl,av,Dt];show(match s1[F]?,s1[r.1]? with|some (.lst us),some (.lst ws)=>if us.length+ws.length<=sizeLine then bI.ok ak.bR (s1.set F (.lst (us++ws)))else .bad|_,_=>.bad)=_;rw[hF,h1];dsimp only;rw[Vo (by rw[Vi,VQ];lia),cL]
  rw[Vl,Xx,VT];unfold forL;rw[Vo hi];show(match bA (fQ iw aZ (aa bt ao)) [x0, qL R, qL F, qL r.1, x4] s1 with
   |.nx μ' az=>forL _ _ _ _ μ' az|.ct μ' az=>forL _ _ _ _ μ' az|.bk μ' az=>.nx μ' az|.rt v az=>.rt v az|.er c μ' az=>.er c μ' az|.bad=>.bad)=_
  rw[b];dsimp only;rw[f,cL,List.set_set,VM]
theorem wd{s:ae}{gd:ae->Prop}(hg:gd s):∀(rows:List Tm)(x y:Option ak)(ys:List Nat),(∀r∈rows,r.1≠[]/\∀e∈r.1,e<2 ^ 20)->(∀e∈ys,e<2 ^ 20) ->
  ∃ms:List Nat,aW gd (cW [au 0,au 1]) aJ (aq rA (aa aK ao)) (rows.map tM) [x,y] s (nV ys)=.ok (nV ms) s/\∀e∈ms,e<2 ^ 20
 |[],x,y,ys,_,hy=>⟨ys,by show aW _ _ _ _ [] _ s _=_;rw[b8 hg],hy⟩
 |r::rows,x,y,ys,hr,hy=>by
  obtain⟨m,h1,h2⟩:=Hm (st:=s) (hr r Vm).1 (hr r Vm).2;obtain⟨ms,h3,h4⟩:=wd hg rows (some (.tup (nV r.1))) (some (.int r.2)) (ys++[m]) (fun q m=>hr q (Vk _ m)) (fun e me=>by
   rcases VX.mp me with me|me
   .exact hy e me
   .rw[VI.mp me];exact h2)
  refine⟨ms,?_,h4⟩;rw[Vl,cE hg (show cW [au 0,au 1] (tM r) [x,y]=some [some (.tup (nV r.1)),some (.int r.2)]from rfl) (show aq rA (aa aK ao) [some (.tup (nV r.1)),some (.int r.2)] s=.ok (.int (m:Int)) s by rw[aC (bS (v:=.tup (nV r.1)) (s1:=s) rfl),h1])];have:nV ys++[.int (m:Int)]=nV (ys++[m]):=by unfold nV;rw[VT];rfl
  rw[this];exact h3
theorem oy{s:ae}{R aj:Nat}{rows:List (Nat×List Tm)}{d:Bool}(h:zQ s R rows)(G:∀t∈rows.flatMap (·.2),t.1.length=aj/\∀e∈t.1,e<2 ^ 20)(m1:1<=aj)(hm:aj<=8)(hl:(rows.flatMap (·.2)).length<=1000):
  ∃(n cC v:Nat)(s':ae),PM.dR [.str (b? d),.loc R] s=.ok (.loc n) s'/\Xt s s'/\Pk s' n d cC (v+1) (GK.dig (v+1) (List.replicate cC (2 ^ v)))/\s.length<=n/\39<=v/\v<63/\cC<=8/\(cC=aj\/cC=1/\rows.flatMap (·.2)=[]):=by
 obtain⟨F,hF⟩:∃F,F=s.length:=⟨_,rfl⟩
 obtain⟨Ts,TC⟩:∃Ts,Ts=rows.flatMap (·.2):=⟨_,rfl⟩
 obtain⟨s1,ck⟩:∃s1,s1=s++[aP.lst []]:=⟨_,rfl⟩
 have x1:Xt s s1:=by rw[ck];exact Xt.app _
 have nR:R≠F:=by have:=qq h.1;lia
 have aF:s1[F]?=some (.lst []):=by rw[ck,hF];exact Du s _
 have h1:=x1.Od h;obtain⟨y,f2⟩:=wc (x0:=some (.str (b? d))) (x4:=none) rows s1 [] none h1.1 nR (fun r m=>⟨h1.2 r m,by have:=bz (h.2 r m);lia⟩) aF (by rw[VJ];lia);rw[<-TC]at f2 G hl;obtain⟨s2,cL⟩:∃s2,s2=s1.set F (.lst ([]++Ts.map tM)):=⟨_,rfl⟩
 rw[<-cL]at f2;have aF2:s2[F]?=some (.lst (Ts.map tM)):=by rw[cL];exact Vz (bz aF)
 have x2:Xt s s2:=by rw[cL];exact x1.set (by lia)
 have iF:=aU aF2;obtain⟨cC,f3,l3,e3⟩:∃cC:Nat,FU (bN (ah qX (aq c_ (aa aZ ao)) bT)) (aq c_ (aa (ah aY (ah aY aZ bT) bT) ao)) b! [qS (b? d), qL R, qL F, y, qn] s2=.ok (.int (cC:Int)) s2/\cC<=8/\(cC=aj\/cC=1/\Ts=[]):=by
  have t:bN (ah qX (aq c_ (aa aZ ao)) bT) [qS (b? d), qL R, qL F, y, qn] s2=.ok (decide ((0:Int)<((Ts.map tM).length:Int))) s2:=by refine bq ?_;rw[ax (x:=.int ((Ts.map tM).length:Int)) (s1:=s2) (by rw[aC (bS (v:=.loc F) (s1:=s2) rfl),iB iF]) (y:=.int 0) (s2:=s2) rfl];rfl
  cases Ts with
  |nil=>exact⟨1,by rw[sR,t];rfl,by decide,.inr ⟨rfl,rfl⟩⟩
  |cons r rows=>
   have gr:=G r Vm;refine⟨aj,?_,hm,.inl rfl⟩;rw[sR,t,VF (by rw[Vl,Vn];lia),av,uk];have e0:ah aY (ah aY aZ bT) bT [qS (b? d), qL R, qL F, y, qn] s2=.ok (.tup (nV r.1)) s2:=by rw[ax (x:=tM r) (s1:=s2) (by rw[ax (x:=.loc F) (s1:=s2) rfl (y:=.int 0) (s2:=s2) rfl];exact gX iF (dH (j:=0) rfl)) (y:=.int 0) (s2:=s2) rfl];rfl
   rw[aC (bS e0)];show bI.ok (ak.int ((nV r.1).length:Int)) s2=_;unfold nV;rw[Vi,gr.1]
 obtain⟨μ,hμ⟩:∃μ:MN.Env,μ=[qS (b? d), qL R, qL F, y, qN cC]:=⟨_,rfl⟩
 obtain⟨ms,c1,c2⟩:=wd (s:=s2) (gd:=fun az=>ai az F=some (Ts.map tM)) iF Ts none none [] (fun r m=>⟨fun z=>by have:=(G r m).1;rw[z]at this;simp at this;lia,(G r m).2⟩) (fun e m=>by cases m);obtain⟨s3,lK⟩:∃s3,s3=s2++[aP.lst (nV ms)]:=⟨_,rfl⟩
 obtain⟨hh,k1,k2⟩:=maxD_mem c2;have mx:zu (bw 2 [] (cg aZ) (cW [(au 0),(au 1)]) aJ (aq rA (aa aK ao))) bT μ s2=.ok (.int (hh:Int)) s3:=by
  have c:bw 2 [] (cg aZ) (cW [(au 0),(au 1)]) aJ (aq rA (aa aK ao)) μ s2=.ok (.loc s2.length) s3:=by rw[cO,cj,show aZ μ s2=.ok (.loc F) s2 by rw[hμ];rfl,av,bM iF,av,eM,Vo (by rw[Vi,VQ];lia)];have cm:gH 2 [] μ=[none,none]:=rfl;rw[show nV []=([]:List ak)from rfl]at c1;rw[cm,c1,av,lK];rfl
  unfold zu;rw[c];show DG (.loc s2.length) (.int 0) s3=_;rw[GH (ns:=ms.map fun(e:Nat)=>(e:Int)) (by rw[<-e?,lK];exact bx s2 _),k1]
 have x3:Xt s s3:=by rw[lK];exact x2.trans (Xt.app _)
 obtain⟨v,s4,i1,i2,i3,i4,i5⟩:=Ee (s:=s3++[.ins "Packing" []]) (n:=s3.length) (aj:=cC) (h:=hh) (d:=d) (by rw[Vy (Vp _),Wk];rfl) l3 k2;refine⟨s3.length,cC,v,s4,?_,?_,i4,x3.1,i2,i3,l3,by rw[<-TC];exact e3⟩
 .unfold PM.dR;rw[bB (np:=2) (us:=[ak.str (b? d),.loc R]) rfl];show(aw (aE 2 (c9 ao)) (aw (cw _ _ _) (aw (aE 4 _) (aO _))) [qS (b? d), qL R, qn, qn, qn] s).fin=_;rw[aA,aR (eT (vs:=[]) (s1:=s) rfl (by decide)),aB,<-ck,<-hF];show(aw (cw _ _ _) (aw (aE 4 _) (aO _)) [qS (b? d), qL R, qL F, qn, qn] s1).fin=_;rw[aA,dA,cj,show bf [qS (b? d), qL R, qL F, qn, qn] s1=.ok (.loc R) s1 from rfl,av,bM h1.1,bh,fh,f2,aB,aA,aR f3,aB];show(aO _ [qS (b? d), qL R, qL F, y, qN cC] s2).fin=_;rw[<-hμ,eV (v:=.loc s3.length) (s1:=s4) (Ea (us:=[.str (b? d),.int (cC:Int),.int (hh:Int)]) (s1:=s3) (cZ (v:=.str (b? d)) (s1:=s2) (by rw[hμ];exact kC rfl rfl) (cZ (v:=.int (cC:Int)) (s1:=s2) (by rw[hμ];rfl) (bS mx))) i1)];rfl
 .have lx:(s3++[aP.ins "Packing" []]).length=s3.length+1:=by rw[Vt];rfl
  refine⟨by have:=x3.1;have:=i5.1;lia,fun n c e=>i5.2 n c (fun z=>?_) (fH (x3.2 n c e) _)⟩;have:=bz e;have:=x3.1;lia
end PG
namespace PG
open PySem.Spec L2 MN
open PyProof.Rows hiding St kindOf
open GK (dig)
def jK(aj:Nat)(es:List Nat):Prop:=es.length=aj/\∀e∈es,e<2 ^ 20
theorem jK.lt{aj v:Nat}{es:List Nat}(h:jK aj es)(hv:20<=v):∀e∈es,e<2 ^ v:=fun e m=>VC (h.2 e m) (Wa (by decide) hv)
theorem jK.sum{aj v:Nat}{es:List Nat}(h:jK aj es)(hm:aj<=8)(hv:23<=v):es.sum<2 ^ v:=by
 have:∀es:List Nat,(∀e∈es,e<2 ^ 20)->es.sum<=es.length*2 ^ 20:=by
  intro es h
  induction es with
  |nil=>exact Wh _
  |cons e es ih=>
   have h1:=h e Vm;have h2:=ih fun x m=>h x (Vk _ m);rw[Xj,Vn,Nat.add_mul];lia
 have h1:=this es h.2;rw[h.1]at h1;have h2:aj*2 ^ 20<=8*2 ^ 20:=YG _ hm;have h3:2 ^ 23<=2 ^ v:=Wa (by decide) hv;by_cases z:aj*2 ^ 20<2 ^ 23
 .lia
 ·-- HD sum is less aae aj*2^20 where there is a place
  cases es with
  |nil=>simp;exact WO v
  |cons e es=>
   have g:=this es fun x m=>h.2 x (Vk _ m);have g1:=h.2 e Vm;have l:=h.1;rw[Vn]at l;rw[Xj];have:es.length*2 ^ 20<=7*2 ^ 20:=YG _ (by lia);lia
def rG(b:Bool)(es:List Nat):List Nat:=es.reverse++if b=true then[es.sum] else[]
theorem zR{b:Bool}{aj v:Nat}{es:List Nat}(h:jK aj es)(hm:aj<=8)(hv:23<=v):∀d∈rG b es,d<2 ^ v:=fun d md=>by
 unfold rG at md;rcases VX.mp md with z|z
 .exact h.lt (by lia) d (W8.mp z)
 .cases b with
  |true=>rw[Vo rfl]at z;rw[VI.mp z];exact h.sum hm hv
  |false=>rw[Vv Vs]at z;cases z
theorem gB{b:Bool}{aj v:Nat}{es:List Nat}(h:jK aj es)(hv:20<=v):bj b v es=dig v (rG b es):=v! b (h.lt hv)
theorem jL{b:Bool}{aj v:Nat}{es fs:List Nat}(h:jK aj es)(k:jK aj fs)(hm:aj<=8)(hv:23<=v)(e:bj b v es=bj b v fs):es=fs:=by rw[gB h (by lia),gB k (by lia)]at e;have z:=GK.zN (rG b es) (rG b fs) (by unfold rG;cases b<;>simp[h.1,k.1]) (zR h hm hv) (zR k hm hv) e;unfold rG at z;have:=List.append_inj_left z (by rw[V2,V2,h.1,k.1]);exact List.reverse_inj.mp this
theorem zS{w:Nat}:∀(ds fs:List Nat),ds.length=fs.length->dig w (List.zipWith (· + ·) ds fs)=dig w ds+dig w fs
 |[],[],_=>rfl
 |d::ds,f::fs,h=>by show 2 ^ w*dig w (List.zipWith (· + ·) ds fs)+(d+f)=(2 ^ w*dig w ds+d)+(2 ^ w*dig w fs+f);rw[zS ds fs (Ww h),X'];lia
def dvd(f e:List Nat):Bool:=(e.zip f).all fun z=>decide (z.2<=z.1)
def fS(e f:List Nat):List Nat:=List.zipWith (· - ·) e f
def d!(e f:List Nat):List Nat:=List.zipWith (· + ·) e f
theorem iJ:∀{e f:List Nat},e.length=f.length->dvd f e=true->d! (fS e f) f=e
 |[],[],_,_=>rfl
 |x::e,y::f,h,d=>by have d':(decide (y<=x)&&dvd f e)=true:=d;rw[WL,V!]at d';show(x-y+y)::d! (fS e f) f=x::e;rw[iJ (Ww h) d'.2,YY d'.1]
theorem we{e f:List Nat}:(d! e f).length=min e.length f.length:=Z_
theorem qv{e f:List Nat}:(fS e f).length=min e.length f.length:=Z_
theorem wg:∀{e f:List Nat},e.length=f.length->(d! e f).sum=e.sum+f.sum
 |[],[],_=>rfl
 |x::e,y::f,h=>by show(x+y)+(d! e f).sum=(x+e.sum)+(y+f.sum);rw[wg (Ww h)];lia
theorem wj:∀{e f:List Nat},e.length=f.length->(d! e f).reverse=d! e.reverse f.reverse
 |[],[],_=>rfl
 |x::e,y::f,h=>by show((x+y)::d! e f).reverse=List.zipWith (· + ·) (x::e).reverse (y::f).reverse;rw[WW,WW,WW,wj (Ww h),List.zipWith_append (by rw[V2,V2,Ww h])];rfl
theorem jM{aj:Nat}{e f:List Nat}(h:jK aj e)(k:jK aj f):jK aj (fS e f):=by refine⟨by rw[qv,h.1,k.1,Yu],fun d md=>?_⟩;obtain⟨i,hi,rfl⟩:=Yi md;unfold fS at hi⊢;rw[List.getElem_zipWith];have:=h.2 _ (Wj (l:=e) (n:=i) (by rw[Z_]at hi;lia));lia
theorem Ho{b:Bool}{aj v:Nat}{e f:List Nat}(h:jK aj e)(k:jK aj f)(hv:20<=v)(d:dvd f e=true):(bj b v e:Int)-(bj b v f:Int)=(bj b v (fS e f):Int):=by
 have l:e.length=f.length:=by rw[h.1,k.1]
 have g:=jM h k;have l2:(fS e f).length=f.length:=by rw[g.1,k.1]
 have z:bj b v e=bj b v (fS e f)+bj b v f:=by
  rw[gB h hv,gB k hv,gB g hv];rw[<-zS _ _ (by unfold rG;cases b<;>simp[l2])];congr 1;have q:=iJ l d
  conv=>lhs;rw[<-q]
  unfold rG;rw[wj l2,wg l2];cases b with
  |true=>
   rw[Vo rfl,Vo rfl,Vo rfl,List.zipWith_append (by rw[V2,V2,l2])];rfl
  |false=>
   rw[Vv Vs,Vv Vs,Vv Vs,VL,VL,VL];rfl
 lia
theorem Hq{b:Bool}{aj v:Nat}{e f:List Nat}(h:jK aj e)(k:jK aj f)(hv:20<=v):yu (dig (v+1) (List.replicate aj (2 ^ v))) (bj b (v+1) e) (bj b (v+1) f)=dvd f e:=by
 have l:e.length=f.length:=by rw[h.1,k.1]
 have z:=Ec (v:=v) (ds:=e.reverse) (fs:=f.reverse) (X:=if b=true then[e.sum] else[]) (Y:=if b=true then[f.sum] else[]) (by rw[V2,V2,l]) (fun d md=>h.lt hv d (W8.mp md)) (fun d md=>k.lt hv d (W8.mp md)) (G:=dig (v+1) (List.replicate aj (2 ^ v))) (by rw[V2,h.1]);have k1:=gB (b:=b) h (v:=v+1) (by lia);have k2:=gB (b:=b) k (v:=v+1) (by lia);unfold rG at k1 k2;rw[<-k1,<-k2]at z;unfold yu;rw[X0,Wu,z];unfold dvd;rw[WE,SO.zr l];constructor
 .exact fun q x mx=>VF (q x (W8.mpr mx))
 .exact fun q x mx=>Wg (q x (W8.mp mx))
def eY(e:List Nat):Nat->List (List Nat)->Option Nat
 |_,[]=>none
 |i,f::fs=>if dvd f e=true then some i else eY e (i+1) fs
theorem tm{b:Bool}{aj v:Nat}{e:List Nat}(h:jK aj e)(hv:20<=v):∀(fs:List (List Nat))(i:Nat),(∀f∈fs,jK aj f)->kG (dig (v+1) (List.replicate aj (2 ^ v))) (bj b (v+1) e) i (fs.map (bj b (v+1)))=eY e i fs
 |[],i,_=>rfl
 |f::fs,i,hf=>by rw[Vl];unfold kG eY;rw[Hq h (hf f Vm) hv,tm h hv fs (i+1) fun g m=>hf g (Vk _ m)]
theorem fW{e:List Nat}:∀(fs:List (List Nat))(i:Nat){j:Nat},eY e i fs=some j->i<=j/\∃f,fs[j-i]?=some f/\dvd f e=true
 |[],i,j,h=>by cases h
 |f::fs,i,j,h=>by
  unfold eY at h;by_cases d:dvd f e=true
  .rw[Vo d]at h;cases h;exact⟨Vp _,f,by rw[Wk];rfl,d⟩
  .rw[Vv d]at h;obtain⟨h1,g,h2,h3⟩:=fW fs (i+1) h;refine⟨by lia,g,?_,h3⟩;rw[show j-i=j-(i+1)+1 by lia,XR];exact h2
theorem tq{e:List Nat}:∀(fs:List (List Nat))(i:Nat),eY e i fs=none↔∀f∈fs,dvd f e=false
 |[],i=>⟨fun _ f m=>(by cases m),fun _=>rfl⟩
 |f::fs,i=>by
  unfold eY;by_cases d:dvd f e=true
  .rw[Vo d];exact⟨fun z=>(by cases z),fun z=>by rw[z f Vm]at d;cases d⟩
  .rw[Vv d,tq fs (i+1)];constructor
   .intro z g mg;rcases VH.mp mg with rfl|mg
    .exact Y6.mpr d
    .exact z g mg
   .exact fun z g mg=>z g (Vk _ mg)
end PG
namespace PG
open PySem.Spec L2 MN
open PyProof.Rows hiding St kindOf
def Oe:aP->Prop
 |.dK _=>False
 |.fd _=>False
 |_=>True
def ED(s:ae)(z:Nat):Prop:=s[z]?=some (.dK [])\/s[z]?=some (.fd [])
structure Xs(f:Nat)(s s':ae):Prop where
 len:s.length<=s'.length
 at_:∀(n:Nat)(c:aP),n≠f->Oe c->s[n]?=some c->s'[n]?=some c
 ed:∀z,z≠f->ED s z->ED s' z
structure Xd(s s':ae):Prop where
 len:s.length<=s'.length
 at_:∀(n:Nat)(c:aP),Oe c->s[n]?=some c->s'[n]?=some c
 ed:∀z,ED s z->ED s' z
theorem Xt.d{s s':ae}(x:Xt s s'):Xd s s':=⟨x.1,fun n c _ e=>x.2 n c e,fun z h=>h.elim (fun h=>.inl (x.2 _ _ h)) fun h=>.inr (x.2 _ _ h)⟩
theorem Xd.refl{s:ae}:Xd s s:=⟨Vp _,fun _ _ _ e=>e,fun _ h=>h⟩
theorem Xd.trans{s s1 s2:ae}(a:Xd s s1)(b:Xd s1 s2):Xd s s2:=⟨VZ a.len b.len,fun n c h e=>b.at_ n c h (a.at_ n c h e),fun z h=>b.ed z (a.ed z h)⟩
theorem Xd.s{f:Nat}{s s':ae}(x:Xd s s'):Xs f s s':=⟨x.len,fun n c _ h e=>x.at_ n c h e,fun z _ h=>x.ed z h⟩
theorem Xs.trans{f:Nat}{s s1 s2:ae}(a:Xs f s s1)(b:Xs f s1 s2):Xs f s s2:=⟨VZ a.len b.len,fun n c k h e=>b.at_ n c k h (a.at_ n c k h e),fun z k h=>b.ed z k (a.ed z k h)⟩
theorem Xs.refl{f:Nat}{s:ae}:Xs f s s:=Xd.refl.s
theorem Xs.set{f:Nat}{s s1:ae}{c:aP}(a:Xs f s s1):Xs f s (s1.set f c):=⟨by rw[VU];exact a.len,fun n d k h e=>aQ (a.at_ n d k h e) (fun z=>k z.symm),fun z k h=>(a.ed z k h).elim (fun h=>.inl (aQ h (fun y=>k y.symm))) fun h=>.inr (aQ h (fun y=>k y.symm))⟩
theorem ED.lt{s:ae}{z:Nat}(h:ED s z):z<s.length:=h.elim (fun h=>bz h) fun h=>bz h
theorem lL{s:ae}{n:Nat}{us:List ak}(h:ai s n=some us):∃c,s[n]?=some c/\Oe c/\∀s':ae,s'[n]?=some c->ai s' n=some us:=by obtain⟨c,h1,h2⟩:=fV h;refine⟨c,h1,?_,h2⟩;unfold ai at h;rw[h1]at h;cases c<;>first|exact trivial|cases h
theorem Xs.items{f:Nat}{s s':ae}(x:Xs f s s'){n:Nat}{us:List ak}(hn:n≠f)(h:ai s n=some us):ai s' n=some us:=by obtain⟨c,h1,h2,h3⟩:=lL h;exact h3 s' (x.at_ _ _ hn h2 h1)
theorem Xd.items{s s':ae}(x:Xd s s'){n:Nat}{us:List ak}(h:ai s n=some us):ai s' n=some us:=by obtain⟨c,h1,h2,h3⟩:=lL h;exact h3 s' (x.at_ _ _ h2 h1)
theorem Pk.to{s s':ae}{n:Nat}{b:Bool}{aj w g:Nat}(h:Pk s n b aj w g)(x:Xd s s'):Pk s' n b aj w g:=x.at_ _ _ trivial h
def lV(l:List Nat):List ak:=l.map ak.loc
abbrev Pa:ME:=vR "Monic" PM.cR (aa aZ (aa (dj "Packing" "terms_of" PM.bF bf (aa aK ao)) ao))
def dU(b:Bool)(w:Nat)(t:Tm):bD×ak:=(.inl (bj b w t.1:Int),.int t.2)
def rH(b:Bool)(w:Nat)(t:Tm):ak:=.tup [.int (bj b w t.1:Int),.int t.2]
theorem uH{b:Bool}{w:Nat}:∀(ts:List Tm),ly (ts.map (rH b w))=some (ts.map (dU b w))
 |[]=>rfl
 |t::ts=>by show(ly (ts.map (rH b w))).map ((Sum.inl (bj b w t.1:Int),ak.int t.2):: ·)=_;rw[uH ts];rfl
theorem uI{κ:Type}[DecidableEq κ]{l:List (κ×ak)}{k:κ}{v:ak}(h:k ∉ l.map (·.1)):mI l k v=l++[(k,v)]:=by unfold mI;rw[Vv];intro z;obtain⟨x,hx,e⟩:=List.any_eq_true.mp z;exact h (VG.mpr ⟨x,hx,Wg e⟩)
theorem mS:∀(l a:List (bD×ak)),((a++l).map (·.1)).Nodup->e! l a=a++l
 |[],a,_=>by rw[VL];rfl
 |(k,v)::l,a,h=>by
  show e! l (mI a k v)=_;have z:k ∉ a.map (·.1):=fun m=>by rw[VT,XY]at h;exact h.2.2 k m k Vm rfl
  rw[uI z,mS l (a++[(k,v)]) (by rw[VM];exact h),VM];rfl
abbrev Pb:ME:=eB (aa (dj "Packing" "key_of" PM.cz aZ (aa aK ao)) (aa bf ao))
theorem zT{s:ae}{n:Nat}{b:Bool}{aj w g:Nat}{gd:ae->Prop}(hg:gd s)(P:Pk s n b aj w g)(hw:w<=64):∀(ts:List Tm)(x y:Option ak)(ys:List ak),(∀t∈ts,(∀e∈t.1,e<2 ^ 64)/\t.1.length<=8) ->
  aW gd (cW [au 0,au 1]) aJ Pb (ts.map tM) [x, y, qL n] s ys=.ok (ys++ts.map (rH b w)) s
 |[],x,y,ys,_=>by show aW _ _ _ _ [] _ s ys=_;rw[b8 hg,V3,VL]
 |t::ts,x,y,ys,h=>by
  have hk:=yq (v:=.tup (nV t.1)) P hw (.inl rfl) (h t Vm).1 (h t Vm).2;have el:Pb [some (.tup (nV t.1)), qI t.2, qL n] s=.ok (rH b w t) s:=by refine kE (dZ (s1:=s) ?_ (s2:=s) rfl) (by show 2<=1000;decide);rw[jI (n:=n) (s1:=s) (us:=[.tup (nV t.1)]) (s2:=s) rfl P (by rfl) rfl,hk]
  rw[Vl,cE hg (show cW [au 0,au 1] (tM t) [x, y, qL n]=some [some (.tup (nV t.1)), qI t.2, qL n]from rfl) el,zT hg P hw ts _ _ _ fun u m=>h u (Vk _ m),VM];rfl
theorem lN{s:ae}{n q:Nat}{b:Bool}{aj w g:Nat}{ts:List Tm}(P:Pk s n b aj w g)(hw:w<=64)(hq:s[q]?=some (.lst (ts.map tM)))(h:∀t∈ts,(∀e∈t.1,e<2 ^ 64)/\t.1.length<=8)(nd:(ts.map fun t=>bj b w t.1).Nodup)(hl:ts.length<=1000):
  PM.bF [.loc n,.loc q] s=.ok (.loc (s.length+1)) (s++[.lst (ts.map (rH b w)),.dK (ts.map (dU b w))]):=by
 have iq:=aU hq;have cp:bw 2 [0] (cg bf) (cW [(au 0),(au 1)]) aJ Pb [some (.loc n),some (.loc q)] s=.ok (.loc s.length) (s++[.lst (ts.map (rH b w))]):=by rw[cO,cj,show bf [some (.loc n),some (.loc q)] s=.ok (.loc q) s from rfl,av,bM iq,av,eM,Vo (by rw[Vi,VQ];lia)];rw[show gH 2 [0] [some (ak.loc n),some (.loc q)]=[qn, qn, qL n]from rfl,zT (gd:=fun az=>ai az q=some (ts.map tM)) iq P hw ts none none [] h,av];rfl
 have pa:e! (ts.map (dU b w)) []=ts.map (dU b w):=by
  refine mS _ [] ?_;rw[V1,VE];have e:ts.map ((fun p:bD×ak=>p.1) ∘ dU b w)=(ts.map fun t=>bj b w t.1).map fun(k:Nat)=>(Sum.inl (k:Int):bD):=by rw[VE];rfl
  rw[e];refine List.Pairwise.map _ (fun a c ne z=>ne ?_) nd;injection z with z;lia
 unfold PM.bF;rw[bB (np:=2) (us:=[ak.loc n,.loc q]) rfl];show(aO (aq ye (aa (bw 2 [0] (cg bf) (cW [(au 0),(au 1)]) aJ Pb) ao)) [some (.loc n),some (.loc q)] s).fin=_;rw[eV (v:=.loc (s.length+1)) (s1:=s++[.lst (ts.map (rH b w)),.dK (ts.map (dU b w))]) (by
  rw[aC (bS cp)];show(match ai (s++[aP.lst (ts.map (rH b w))]) s.length with|some us=>(match ly us with|some l=>bI.ok (ak.loc (s++[aP.lst (ts.map (rH b w))]).length) (s++[aP.lst (ts.map (rH b w))]++[aP.dK (e! l [])])|none=>bI.bad)|none=>bI.bad)=_;rw[bx];dsimp only;rw[uH];dsimp only;rw[pa,Vt,VM];rfl)]
 rfl
theorem uJ{s:ae}{m d k:Nat}{p c:Int}(hp:qe p=true)(c1:1<=c)(c2:c<p)(hm:s[m]?=some (.ins "Monic" []))(hd:s[d]?=some (.dK [(.inl (k:Int),.int c)])):
  ∃(s':ae)(t:Int)(l:Nat),PM.cR [.loc m,.int p,.loc d] s=.ok .bR s'/\(s'[m]?=some (.ins "Monic" (yt k t l))/\s'[l]?=some (.lst []))/\(0<t/\t<p/\t*c % p=1)/\s.length<=s'.length/\∀(n:Nat)(x:aP),n≠m->n≠d->s[n]?=some x->s'[n]?=some x:=by
 obtain⟨μ,hμ⟩:∃μ:MN.Env,μ=[qL m, qI p, qL d]:=⟨_,rfl⟩
 have v0:∀s,aK μ s=.ok (.loc m) s:=fun s=>by rw[hμ];rfl
 have v2:∀s,aZ μ s=.ok (.loc d) s:=fun s=>by rw[hμ];rfl
 have Ry:m≠d:=fun z=>by rw[z,hd]at hm;cases hm
 obtain⟨s1,ck⟩:∃s1,s1=s.set m (.ins "Monic" [("top",.int (k:Int))]):=⟨_,rfl⟩
 have m1:s1[m]?=some (.ins "Monic" [("top",.int (k:Int))]):=by rw[ck];exact Vz (bz hm)
 have d1:s1[d]?=some (.dK [(.inl (k:Int),.int c)]):=by rw[ck];exact aQ hd Ry
 have f1:gu ["Monic"] "top" aK (aq iV (aa aZ ao)) μ s=.nx μ s1:=by
  have e:aq iV (aa aZ ao) μ s=.ok (.int (k:Int)) s:=by rw[aC (bS (v2 s))];unfold iV;dsimp only;rw[show ei s d=some [(.inl (k:Int),.int c)] by unfold ei;rw[hd]];rfl
  rw[iI e (v0 s) hm (by decide),ck];rfl
 have nz:¬ c % p=0:=by rw[XF (by lia) c2];lia
 obtain⟨g,t,e2,INV⟩:=uD hp nz s1;obtain⟨s2,cL⟩:∃s2,s2=s1++g:=⟨_,rfl⟩
 have m2:s2[m]?=some (.ins "Monic" [("top",.int (k:Int))]):=by rw[cL];exact fH m1 _
 obtain⟨s3,lK⟩:∃s3,s3=s2.set m (.ins "Monic" [("top",.int (k:Int)),("back",.int t)]):=⟨_,rfl⟩
 have m3:s3[m]?=some (.ins "Monic" [("top",.int (k:Int)),("back",.int t)]):=by rw[lK];exact Vz (bz m2)
 have d3:s3[d]?=some (.dK [(.inl (k:Int),.int c)]):=by rw[lK,cL];exact aQ (fH d1 _) Ry
 have f2:gu ["Monic"] "back" aK (aq PM.inverse (aa bf (aa (ah gi aZ (bp ["Monic"] "top" aK)) ao))) μ s1=.nx μ s3:=by
  have e0:ah gi aZ (bp ["Monic"] "top" aK) μ s1=.ok (.int c) s1:=by
   rw[ax (v2 s1) (eU (v:=.int (k:Int)) (v0 s1) m1 (by rfl))];unfold gi;have:j' s1 (.loc d) (.int (k:Int))=some (some (.int c)):=by unfold j';dsimp only;rw[d1];show some (jS [((Sum.inl (k:Int):bD),ak.int c)] (Sum.inl (k:Int)))=_;unfold jS;simp
   rw[this]
  have e:aq PM.inverse (aa bf (aa (ah gi aZ (bp ["Monic"] "top" aK)) ao)) μ s1=.ok (.int t) s2:=by rw[aC (dZ (v:=.int p) (s1:=s1) (by rw[hμ];rfl) e0),e2,cL]
  rw[iI e (v0 s2) m2 (by show 1<1000;decide),lK];rfl
 obtain⟨s4,rE⟩:∃s4,s4=s3.set d (.fd [(.inl (k:Int),.int c)]):=⟨_,rfl⟩
 have d4:s4[d]?=some (.fd [(.inl (k:Int),.int c)]):=by rw[rE];exact Vz (bz d3)
 have m4:s4[m]?=some (.ins "Monic" [("top",.int (k:Int)),("back",.int t)]):=by rw[rE];exact aQ m3 (fun z=>Ry z.symm)
 obtain⟨s5,qw⟩:∃s5,s5=s4++[aP.lst []]:=⟨_,rfl⟩
 have m5:s5[m]?=some (.ins "Monic" [("top",.int (k:Int)),("back",.int t)]):=by rw[qw];exact fH m4 _
 have cp:bw 2 [1,0] (d8 aZ) (cW [(au 0),(au 1)]) (bN (ah iZ aK (bp ["Monic"] "top" bt))) (eB (aa aK (aa (ah cK (ah cf bf (bp ["Monic"] "back" bt)) aZ) ao))) μ s3=.ok (.loc s4.length) s5:=by
  have it:d8 aZ μ s3=.ok (rB d [(.inl (k:Int),.int c)]) s4:=by unfold d8;rw[v2];show(match s3[d]? with|some (.dK ay)=>bI.ok (rB d ay) (s3.set d (.fd ay))|some (.fd ay)=>.ok (rB d ay) s3|_=>.bad)=_;rw[d3,rE]
  rw[cO,it,av];show(if(1:Nat)<=sizeLine then(aW (fun st2=>st2[d]?=some (.fd [(.inl (k:Int),.int c)])) (cW [(au 0),(au 1)]) (bN (ah iZ aK (bp ["Monic"] "top" bt))) _ [.tup [.int (k:Int),.int c]] (gH 2 [1,0] μ) s4 []).iz rh else .bad)=_;rw[Vo (by rw[VQ];lia)];have cm:gH 2 [1,0] μ=[qn, qn, qI p, qL m]:=by rw[hμ];rfl
  have t0:bN (ah iZ aK (bp ["Monic"] "top" bt)) [qN k, qI c, qI p, qL m] s4=.ok false s4:=by refine bq ?_;rw[ax (x:=.int (k:Int)) (s1:=s4) rfl (eU (v:=.int (k:Int)) (n:=m) (s1:=s4) rfl m4 (by rfl)),pU];simp
  rw[cm];unfold aW;rw[Vo d4];show(match bN (ah iZ aK (bp ["Monic"] "top" bt)) [qN k, qI c, qI p, qL m] s4 with
   |.ok true aL=>_|.ok false aL=>aW _ _ _ _ [] [qN k, qI c, qI p, qL m] aL []|.err _ _=>.bad|.bad=>.bad).iz rh=_
  rw[t0];show(aW _ _ _ _ [] _ s4 []).iz rh=_;rw[b8 d4,av,qw];rfl
 have f3:=iI (f:="tail") cp (v0 s5) m5 (by show 2<1000;decide);refine⟨_,t,s4.length,?_,⟨Vz (bz m5),?_⟩,INV,?_,fun n x h1 h2 e=>?_⟩
 .unfold PM.cR;rw[bB (np:=3) (us:=[ak.loc m,.int p,.loc d]) rfl];show(aw _ (aw _ _) [qL m, qI p, qL d] s).fin=_;rw[<-hμ,aA,f1,aB,aA,f2,aB,f3];rfl
 .refine aQ (by rw[qw];exact Du s4 _) (fun z=>?_);have:=bz m4;lia
 .rw[VU,qw,Vt,rE,VU,lK,VU,cL,Vt,ck,VU];lia
 .have n1:m≠n:=fun z=>h1 z.symm;have n2:d≠n:=fun z=>h2 z.symm;refine aQ ?_ n1;rw[qw];refine fH ?_ _;rw[rE,lK,cL,ck];exact aQ (aQ (fH (aQ e n1) _) n1) n2
structure Xn(s s':ae):Prop where
 len:s.length<=s'.length
 at_:∀(n:Nat)(c:aP),Oe c->s[n]?=some c->s'[n]?=some c
theorem Xt.n{s s':ae}(x:Xt s s'):Xn s s':=⟨x.1,fun n c _ e=>x.2 n c e⟩
theorem Xn.refl{s:ae}:Xn s s:=Xt.refl.n
theorem Xn.trans{s s1 s2:ae}(a:Xn s s1)(b:Xn s1 s2):Xn s s2:=⟨VZ a.len b.len,fun n c h e=>b.at_ n c h (a.at_ n c h e)⟩
theorem Xn.items{s s':ae}(x:Xn s s'){n:Nat}{us:List ak}(h:ai s n=some us):ai s' n=some us:=by obtain⟨c,h1,h2,h3⟩:=lL h;exact h3 s' (x.at_ _ _ h2 h1)
theorem Xn.set{s:ae}{n:Nat}{l:List (bD×ak)}{c:aP}(h:s[n]?=some (.dK l)):Xn s (s.set n c):=⟨by rw[VU];exact Vp _,fun m d hd e=>aQ e (fun z=>by rw[<-z,h]at e;cases e;exact hd)⟩
structure Mo where
 m:Nat
 t:Tm
 bk:Int
 l:Nat
def uK(s:ae)(b:Bool)(w:Nat)(p:Int)(x:Mo):Prop:=s[x.m]?=some (.ins "Monic" (yt (bj b w x.t.1) x.bk x.l))/\s[x.l]?=some (.lst [])/\0<x.bk/\x.bk<p/\x.bk*x.t.2 % p=1
theorem uK.to{s s':ae}{b:Bool}{w:Nat}{p:Int}{x:Mo}(h:uK s b w p x)(k:Xn s s'):uK s' b w p x:=⟨k.at_ _ _ trivial h.1,k.at_ _ _ trivial h.2.1,h.2.2⟩
def EW(l:List Mo):List ak:=l.map fun x=>ak.loc x.m
theorem Ef{s:ae}{n:Nat}{b:Bool}{aj cC w g:Nat}{p:Int}{r:i_}(hp:qe p=true)(P:Pk s n b cC w g)(hw:w<=64)(hq:s[r.1]?=some (.lst [tN r]))(gr:r.2.1.length=aj/\(∀e∈r.2.1,e<2 ^ 20)/\1<=r.2.2/\r.2.2<p)(hm:aj<=8):
  ∃(x:Mo)(s':ae),Pa [qL r.1, qL n, qI p] s=.ok (.loc x.m) s'/\Xt s s'/\uK s' b w p x/\x.t=r.2:=by
 have e1:=lN (ts:=[r.2]) P hw hq (fun t mt=>by
  rw[VI.mp mt];exact⟨fun e m=>by have:=gr.2.1 e m;lia,by lia⟩) (W7 _ _) (by show 1<=1000;decide)
 obtain⟨s1,ck⟩:∃s1,s1=s++[aP.lst ([r.2].map (rH b w)),.dK ([r.2].map (dU b w))]:=⟨_,rfl⟩
 rw[<-ck]at e1;have x1:Xt s s1:=by rw[ck];exact Xt.app _
 have hd:s1[s.length+1]?=some (.dK [(.inl (bj b w r.2.1:Int),.int r.2.2)]):=by rw[ck,Vy (by lia),show s.length+1-s.length=1 by lia];rfl
 obtain⟨s2,cL⟩:∃s2,s2=s1++[aP.ins "Monic" []]:=⟨_,rfl⟩
 obtain⟨s3,t,l,e3,m3,i3,l3,k3⟩:=uJ (s:=s2) (m:=s1.length) (d:=s.length+1) (k:=bj b w r.2.1) (c:=r.2.2) hp gr.2.2.1 gr.2.2.2 (by rw[cL];exact gA _ _) (by rw[cL];exact fH hd _);refine⟨⟨s1.length,r.2,t,l⟩,s3,?_,⟨by have:=x1.1;rw[cL,Vt]at l3;lia,fun i c e=>k3 i c ?_ ?_ (by rw[cL];exact fH (x1.2 i c e) _)⟩,⟨m3.1,m3.2,i3⟩,rfl⟩
 .refine Ea (us:=[.int p,.loc (s.length+1)]) (s1:=s1) (dZ (v:=.int p) (s1:=s) rfl ?_) (by rw[<-cL];exact e3);rw[jI (n:=n) (s1:=s) (us:=[.loc r.1]) (s2:=s) rfl P (by rfl) rfl,e1]
 .have:=bz e;have:=x1.1;lia
 .have:=bz e;lia
theorem wk{R n:Nat}{us:List ak}{b:Bool}{aj cC w g:Nat}{p:Int}(hp:qe p=true)(hw:w<=64)(hm:aj<=8):∀(rows:List i_)(s:ae)(ms:List Mo)(x:Option ak),ai s R=some us->Pk s n b cC w g->(∀r∈rows,s[r.1]?=some (.lst [tN r]))->GoodR p aj rows->(∀m∈ms,uK s b w p m) ->
  ∃(Of:List Mo)(s':ae),aW (fun az=>ai az R=some us) (au 0) aJ Pa (rows.map fun r=>ak.loc r.1) [x, qL n, qI p] s (EW ms)=.ok (EW (ms++Of)) s'/\Of.map (·.t)=rows.map (·.2)/\Xt s s'/\∀m∈ms++Of,uK s' b w p m
 |[],s,ms,x,hR,_,_,_,hM=>⟨[],s,by show aW _ _ _ _ [] _ s _=_;rw[b8 (g:=fun az=>ai az R=some us) hR,VL],rfl,Xt.refl,by rw[VL];exact hM⟩
 |r::rows,s,ms,x,hR,P,hr,G,hM=>by
  obtain⟨m,s1,e1,x1,m1,t1⟩:=Ef hp P hw (hr r Vm) (G r Vm) hm;obtain⟨Of,s2,e2,l2,x2,m2⟩:=wk hp hw hm rows s1 (ms++[m]) (some (.loc r.1)) (x1.items hR) (P.to x1.d) (fun q h=>x1.2 _ _ (hr q (Vk _ h))) (fun q h=>G q (Vk _ h)) (fun q h=>by
   rcases VX.mp h with h|h
   .exact(hM q h).to x1.n
   .rw[VI.mp h];exact m1)
  rw[VM]at e2 m2;refine⟨m::Of,s2,?_,by rw[Vl,Vl,l2,t1],x1.trans x2,m2⟩;rw[Vl,cE (g:=fun az=>ai az R=some us) hR (show au 0 (.loc r.1) [x, qL n, qI p]=some [qL r.1, qL n, qI p]from rfl) e1];have:EW ms++[.loc m.m]=EW (ms++[m]):=by unfold EW;rw[VT];rfl
  rw[this];exact e2
theorem tu{t:MT}{body:MB}(P:MN.Env->ae->Prop)(M:MN.Env->ae->Nat)(Q:de->Prop)(hs:∀μ st,P μ st->(∃aL,t μ st=.ok false aL/\Q (.nx μ aL))\/(∃aL v az,t μ st=.ok true aL/\body μ aL=.rt v az/\Q (.rt v az))\/∃aL μ' az,t μ st=.ok true aL/\body μ aL=.nx μ' az/\P μ' az/\M μ' az<M μ st):
  ∀(n:Nat)(μ:MN.Env)(st:ae),M μ st<n->P μ st->∃r,dJ t body n μ st=some r/\Q r
 |0,μ,st,h,_=>absurd h (Yw _)
 |n+1,μ,st,h,hp=>by
  unfold dJ;rcases hs μ st hp with⟨aL,e,q⟩|⟨aL,v,az,e,hb,q⟩|⟨aL,μ',az,e,hb,p',lt⟩
  .rw[e];exact⟨_,rfl,q⟩
  .rw[e];dsimp only;rw[hb];exact⟨_,rfl,q⟩
  .rw[e];dsimp only;obtain⟨r,e2,q2⟩:=tu P M Q hs n μ' az (by lia) p';rw[hb];exact⟨r,e2,q2⟩
theorem Bw{t:MT}{body:MB}(P:MN.Env->ae->Prop)(M:MN.Env->ae->Nat)(Q:de->Prop)(hs:∀μ st,P μ st->(∃aL,t μ st=.ok false aL/\Q (.nx μ aL))\/(∃aL v az,t μ st=.ok true aL/\body μ aL=.rt v az/\Q (.rt v az))\/∃aL μ' az,t μ st=.ok true aL/\body μ aL=.nx μ' az/\P μ' az/\M μ' az<M μ st)(μ:MN.Env)(st:ae)(hp:P μ st):∃r,fD t body μ st=r/\Q r:=by obtain⟨r,e,q⟩:=tu P M Q hs (M μ st+1) μ st (V? _) hp;exact⟨r,sM e,q⟩
structure LI(row:List Tm)(fs:List (List Nat))(T R:List Tm)(q:Nat->List Tm):Prop where
 Pc:∀t∈row,t∈T\/t∈R\/∃i,t∈q i
 wW:∀t∈T,t∈row
 inR:∀t∈R,t∈row/\eY t.1 0 fs=none
 LY:∀i,∀t∈q i,t∈row/\eY t.1 0 fs=some i
 TF:T.Nodup
 Rz:R.Nodup
 Og:∀i,(q i).Nodup
 Ir:∀t∈T,t ∉ R/\∀i,t ∉ q i
def wm(q:Nat->List Tm)(i:Nat)(t:Tm):Nat->List Tm:=fun j=>if j=i then q i++[t]else q j
def jt(T:List Tm)(t:Tm):List Tm:=T.filter fun u=>decide (u.1≠t.1)
section
variable{row:List Tm}{fs:List (List Nat)}{T R:List Tm}{q:Nat->List Tm}{t:Tm}
theorem zU(U:∀u∈row,∀v∈row,u.1=v.1->u=v)(hT:∀t∈T,t∈row)(m:t∈T){u:Tm}:u∈jt T t↔u∈T/\u≠t:=by
 unfold jt;rw[Wi,V!];constructor
 .exact fun h=>⟨h.1,fun z=>h.2 (by rw[z])⟩
 .exact fun h=>⟨h.1,fun z=>h.2 (U u (hT u h.1) t (hT t m) z)⟩
theorem oZ(m:t∈T):(jt T t).length<T.length:=by refine List.length_filter_lt_length_iff_exists.mpr ⟨t,m,?_⟩;rw[V!];exact fun z=>z rfl
theorem LI.toQ(h:LI row fs T R q)(U:∀u∈row,∀v∈row,u.1=v.1->u=v)(m:t∈T){i:Nat}(hi:eY t.1 0 fs=some i):LI row fs (jt T t) R (wm q i t):=by
 have mo:=fun{u:Tm} => zU (u:=u) U h.wW m;have pq:∀{j:Nat}{u:Tm},u∈wm q i t j↔u∈q j\/(j=i/\u=t):=fun{j u} => by
  unfold wm;by_cases z:j=i
  .rw[Vo z,VX,VI,z];exact⟨fun y=>y.imp id fun y=>⟨rfl,y⟩,fun y=>y.imp id fun y=>y.2⟩
  .rw[Vv z];exact⟨.inl,fun y=>y.elim id fun y=>absurd y.1 z⟩
 refine⟨fun u mu=>?_,fun u mu=>h.wW u (mo.mp mu).1,h.inR,fun j u mu=>?_,h.TF.filter _,h.Rz,fun j=>?_,fun u mu=>?_⟩
 .rcases h.Pc u mu with z|z|⟨j,z⟩
  .by_cases y:u=t
   .exact .inr (.inr ⟨i,pq.mpr (.inr ⟨rfl,y⟩)⟩)
   .exact .inl (mo.mpr ⟨z,y⟩)
  .exact .inr (.inl z)
  .exact .inr (.inr ⟨j,pq.mpr (.inl z)⟩)
 .rcases pq.mp mu with z|⟨rfl,rfl⟩
  .exact h.LY j u z
  .exact⟨h.wW _ m,hi⟩
 .unfold wm;by_cases z:j=i
  .rw[Vo z];refine XY.mpr ⟨h.Og i,W7 _ _,fun a ma c mc e=>?_⟩;rw[VI.mp mc]at e;rw[e]at ma;exact(h.Ir t m).2 i ma
  .rw[Vv z];exact h.Og j
 .obtain⟨u1,u2⟩:=mo.mp mu;refine⟨(h.Ir u u1).1,fun j z=>?_⟩;rcases pq.mp z with z|⟨_,z⟩
  .exact(h.Ir u u1).2 j z
  .exact u2 z
theorem LI.toR(h:LI row fs T R q)(U:∀u∈row,∀v∈row,u.1=v.1->u=v)(m:t∈T)(hi:eY t.1 0 fs=none):LI row fs (jt T t) (R++[t]) q:=by
 have mo:=fun{u:Tm} => zU (u:=u) U h.wW m;refine⟨fun u mu=>?_,fun u mu=>h.wW u (mo.mp mu).1,fun u mu=>?_,h.LY,h.TF.filter _,?_,h.Og,fun u mu=>?_⟩
 .rcases h.Pc u mu with z|z|z
  .by_cases y:u=t
   .exact .inr (.inl (VX.mpr (.inr (VI.mpr y))))
   .exact .inl (mo.mpr ⟨z,y⟩)
  .exact .inr (.inl (VX.mpr (.inl z)))
  .exact .inr (.inr z)
 .rcases VX.mp mu with z|z
  .exact h.inR u z
  .rw[VI.mp z];exact⟨h.wW _ m,hi⟩
 .refine XY.mpr ⟨h.Rz,W7 _ _,fun a ma c mc e=>?_⟩;rw[VI.mp mc]at e;rw[e]at ma;exact(h.Ir t m).1 ma
 .obtain⟨u1,u2⟩:=mo.mp mu;refine⟨fun z=>?_,(h.Ir u u1).2⟩;rcases VX.mp z with z|z
  .exact(h.Ir u u1).1 z
  .exact u2 (VI.mp z)
theorem LI.start(nd:row.Nodup):LI row fs row [] fun _=>[]:=⟨fun t m=>.inl m,fun t m=>m,fun t m=>absurd m Xy,fun i t m=>absurd m Xy,nd,List.Pairwise.nil,fun _=>List.Pairwise.nil,fun t m=>⟨Xy,fun i=>Xy⟩⟩
theorem LI.rest(h:LI row fs [] R q)(nd:row.Nodup):R.Perm (row.filter fun t=>(eY t.1 0 fs).isNone):=by
 refine(_e h.Rz (nd.filter _)).mpr fun t=>?_;rw[Wi];constructor
 .exact fun m=>⟨(h.inR t m).1,by rw[(h.inR t m).2];rfl⟩
 .rintro⟨m,z⟩;rcases h.Pc t m with y|y|⟨i,y⟩
  .cases y
  .exact y
  .rw[(h.LY i t y).2]at z;cases z
theorem LI.quot(h:LI row fs [] R q)(nd:row.Nodup)(i:Nat):(q i).Perm (row.filter fun t=>decide (eY t.1 0 fs=some i)):=by
 refine(_e (h.Og i) (nd.filter _)).mpr fun t=>?_;rw[Wi,V!];constructor
 .exact fun m=>h.LY i t m
 .rintro⟨m,z⟩;rcases h.Pc t m with y|y|⟨j,y⟩
  .cases y
  .rw[(h.inR t y).2]at z;cases z
  .have e:=(h.LY j t y).2;rw[z]at e;cases e;exact y
end
def Ll(b:Bool)(w:Nat)(f:List Nat)(t:Tm):bD×ak:=(.inl (bj b w (fS t.1 f):Int),.int t.2)
theorem Eg{s:ae}{l:Nat}{a b c d:ak}(h:ai s l=some []):PM.b_ [a,b,.loc l,c,d] s=.ok .bR s:=by unfold PM.b_;rw[bB (np:=5) (us:=[a,b,.loc l,c,d]) rfl];show(cw (cg aZ) _ _ [some a, some b, qL l, some c, some d, qn, qn, qn, qn] s).fin=_;rw[dA,cj,show aZ [some a, some b, qL l, some c, some d, qn, qn, qn, qn] s=.ok (.loc l) s from rfl,av,bM h,bh,fh];unfold forL;rw[Vo h];rfl
section
variable{b:Bool}{w:Nat}
theorem Eh(T:List Tm):p7 ((T.map (dU b w)).map (·.1))=some (T.map fun t=>(bj b w t.1:Int)):=by
 induction T with
 |nil=>rfl
 |cons t T ih=>show(p7 ((T.map (dU b w)).map (·.1))).map ((bj b w t.1:Int):: ·)=_;rw[ih];rfl
theorem Hr{s:ae}{L:Nat}{T:List Tm}(h:s[L]?=some (.dK (T.map (dU b w))))(ne:T≠[]):∃t∈T,iV [.loc L] s=.ok (.int (bj b w t.1:Int)) s:=by
 cases T with
 |nil=>exact absurd rfl ne
 |cons t T=>
  obtain⟨i,h1,h2⟩:=qr (fun j=>((t::T).map fun t=>(bj b w t.1:Int)).getD j 0) T.length;have li:i<(t::T).length:=by rw[Vn];lia
  refine⟨(t::T)[i],Wj _,?_⟩;unfold iV;dsimp only;rw[show ei s L=some ((t::T).map (dU b w)) by unfold ei;rw[h]];dsimp only;rw[Eh,Vl];dsimp only;rw[Vi,<-Vl (f:=fun t:Tm=>(bj b w t.1:Int)),h2,VW,VB,Vq li];rfl
theorem yw{t:Tm}:∀{T:List Tm},t∈T->(∀u∈T,bj b w u.1=bj b w t.1->u=t)->jS (T.map (dU b w)) (.inl (bj b w t.1:Int))=some (.int t.2)
 |u::T,m,h=>by
  unfold jS;rw[Vl];by_cases z:bj b w u.1=bj b w t.1
  .rw[List.find?_cons_of_pos (by show decide ((dU b w u).1=_)=true;unfold dU;rw[z];exact VF rfl),h u Vm z];rfl
  .rw[List.find?_cons_of_neg (by
    show ¬ decide ((dU b w u).1=_)=true;rw[V!];intro y;injection y with y;lia)]
   refine yw ?_ fun x mx=>h x (Vk _ mx);rcases VH.mp m with rfl|m
   .exact absurd rfl z
   .exact m
theorem zV{T:List Tm}{t:Tm}(h:∀u∈T,bj b w u.1=bj b w t.1->u.1=t.1):p4 (T.map (dU b w)) (.inl (bj b w t.1:Int))=(jt T t).map (dU b w):=by
 unfold p4 jt;rw[List.filter_map];congr 1;refine Zz fun u mu=>?_;show decide ((dU b w u).1≠_)=_;rw[XJ];constructor
 .intro z y;refine z ?_;unfold dU;rw[y]
 .intro z y;injection y with y;exact z (h u mu (by lia))
end
structure Iu(s:ae)(M Q:Nat)(mo:List Mo)(zs:List Nat)(b:Bool)(w:Nat)(p:Int):Prop where
 mon:ai s M=some (EW mo)
 at_:∀x∈mo,uK s b w p x
 Iv:ai s Q=some (lV zs)
 len:zs.length=mo.length
theorem Iu.to{s s':ae}{M Q:Nat}{mo:List Mo}{zs:List Nat}{b:Bool}{w:Nat}{p:Int}(h:Iu s M Q mo zs b w p)(x:Xn s s'):Iu s' M Q mo zs b w p:=⟨x.items h.mon,fun y m=>(h.at_ y m).to x,x.items h.Iv,h.len⟩
structure LS(s:ae)(L:Nat)(zs:List Nat)(fs:List (List Nat))(b:Bool)(w:Nat)(T:List Tm)(q:Nat->List Tm):Prop where
 left:s[L]?=some (.dK (T.map (dU b w)))
 Iv:∀(i z:Nat),zs[i]?=some z->∃f,fs[i]?=some f/\s[z]?=some (.dK ((q i).map (Ll b w f)))
 cnt:∀i,T.length+(q i).length<=1000
def Xz(L:Nat)(zs:List Nat)(s s':ae):Prop:=∀(n:Nat)(c:aP),n≠L->n ∉ zs->s[n]?=some c->s'[n]?=some c
abbrev Hs:MB:=(aw (aE 5 (aq iV (aa aZ ao))) (aw (aE 6 (aq PM.bu (aa bf (aa cY (aa bt ao))))) (aw (dY (bN (ah (O6 false) fP (mC .bR))) DT bg) (aw (aE 7 (ah dr cY (bp ["Monic"] "top" (ah aY bt fP)))) (aw (aE 8 (fG aZ cY)) (aw (fE (ah aY c6 fP) kX BR) (bA (aq PM.b_ (aa aK (aa aZ (aa (bp ["Monic"] "tail" (ah aY bt fP)) (aa kX (aa (mG BR) ao)))))))))))))
abbrev TH:MT:=bN (ah qX (aq lC (aa aZ ao)) bT)
section
variable{b:Bool}{v aj:Nat}{p:Int}{L M Q:Nat}{mo:List Mo}{zs:List Nat}{row:List Tm}
theorem uL{s:ae}{L:Nat}{T:List Tm}{w:Nat}{μ:MN.Env}{m:ME}(h:s[L]?=some (.dK (T.map (dU b w))))(hm:m μ s=.ok (.loc L) s):bN (ah qX (aq lC (aa m ao)) bT) μ s=.ok (decide (T≠[])) s:=by
 have e:aq lC (aa m ao) μ s=.ok (.int (T.length:Int)) s:=by rw[aC (bS hm)];unfold lC;dsimp only;rw[show ei s L=some (T.map (dU b w)) by unfold ei;rw[h]];show bI.ok (ak.int ((T.map (dU b w)).length:Int)) s=_;rw[Vi]
 refine bq ?_;rw[ax e (y:=.int 0) (s2:=s) rfl];show bI.ok (ak.bl (decide ((0:Int)<(T.length:Int)))) s=_;congr 2;rw[XJ];cases T<;>simp
theorem Ht{s:ae}{T R:List Tm}{q:Nat->List Tm}{y5 y6 y7 y8:Option ak}(hv:39<=v)(hm:aj<=8)(fr:∀t∈row,jK aj t.1)(ff:∀x∈mo,jK aj x.t.1)(U:∀u∈row,∀x∈row,u.1=x.1->u=x)(nz:zs.Nodup)(nL:L ∉ zs)(St:Iu s M Q mo zs b (v+1) p)(S:LS s L zs (mo.map (·.t.1)) b (v+1) T q)(I:LI row (mo.map (·.t.1)) T R q)(ne:T≠[]){G:Nat}(eG:G=GK.dig (v+1) (List.replicate aj (2 ^ v))):
  ∃t∈T,iV [.loc L] s=.ok (.int (bj b (v+1) t.1:Int)) s/\((eY t.1 0 (mo.map (·.t.1))=none/\Hs [qI p, qN G, qL L, qL M, qL Q, y5, y6, y7, y8] s=.rt .bR s) \/
   ∃(q':Nat->List Tm)(s':ae)(z5 z6 z7 z8:Option ak),Hs [qI p, qN G, qL L, qL M, qL Q, y5, y6, y7, y8] s=.nx [qI p, qN G, qL L, qL M, qL Q, z5, z6, z7, z8] s'/\LS s' L zs (mo.map (·.t.1)) b (v+1) (jt T t) q'/\LI row (mo.map (·.t.1)) (jt T t) R q'/\Xn s s'/\Xz L zs s s'):=by
 obtain⟨fs,qY⟩:∃fs,fs=mo.map (·.t.1):=⟨_,rfl⟩
 rw[<-qY]at S I⊢;obtain⟨t,mt,em⟩:=Hr S.left ne;refine⟨t,mt,em,?_⟩;have ft:=fr t (I.wW t mt);obtain⟨k,hk⟩:∃k:Nat,k=bj b (v+1) t.1:=⟨_,rfl⟩
 rw[<-hk]at em;have pl:PM.bu [.int (G:Int),.int (k:Int),.loc M] s=.ok (match eY t.1 0 fs with|some j=>.int (j:Int)|none=>.bR) s:=by
  have z:=Bv (s:=s) (G:=G) (top:=k) (M:=M) (ms:=mo.map fun x=>(x.m,bj b (v+1) x.t.1)) (by rw[St.mon,VE];rfl) (fun y my=>by
   obtain⟨x,mx,rfl⟩:=VG.mp my;exact⟨_,_,(St.at_ x mx).1⟩)
  have e:(mo.map fun x=>(x.m,bj b (v+1) x.t.1)).map (·.2)=fs.map (bj b (v+1)):=by rw[qY,VE,VE];rfl
  rw[e,hk,eG,tm ft (by lia) fs 0 (fun f mf=>by
   rw[qY]at mf;obtain⟨x,mx,rfl⟩:=VG.mp mf;exact ff x mx)]at z
  rw[hk,eG];exact z
 have f5:aE 5 (aq iV (aa aZ ao)) [qI p, qN G, qL L, qL M, qL Q, y5, y6, y7, y8] s=.nx [qI p, qN G, qL L, qL M, qL Q, qN k, y6, y7, y8] s:=by rw[aR (v:=.int (k:Int)) (s1:=s) (by rw[aC (bS (v:=.loc L) (s1:=s) rfl),em])];rfl
 cases hf:eY t.1 0 fs with
 |none=>
  refine .inl ⟨rfl,?_⟩;rw[hf]at pl;have f6:aE 6 (aq PM.bu (aa bf (aa cY (aa bt ao)))) [qI p, qN G, qL L, qL M, qL Q, qN k, y6, y7, y8] s=.nx [qI p, qN G, qL L, qL M, qL Q, qN k, some .bR, y7, y8] s:=by rw[aR (v:=.bR) (s1:=s) (by rw[aC (vs:=[.int (G:Int),.int (k:Int),.loc M]) (s1:=s) rfl,pl])];rfl
  show aw _ (aw _ (aw _ _)) _ s=_;rw[aA,f5,aB,aA,f6,aB,aA,mP (s1:=s) (bq (c:=true) rfl)];rfl
 |some j=>
  rw[hf]at pl;obtain⟨_,f,hj,dv⟩:=fW fs 0 hf;rw[Yt]at hj;have RA:j<mo.length:=by have:=(V6.mp hj).1;rw[qY,Vi]at this;exact this
  obtain⟨x,hx⟩:∃x,x=mo[j]:=⟨_,rfl⟩
  have mx:x∈mo:=by rw[hx];exact Wj _
  have ef:x.t.1=f:=by rw[qY,VB,Vq RA,<-hx]at hj;exact VO hj
  have fx:=ff x mx;rw[ef]at fx;obtain⟨x1,x2,_⟩:=St.at_ x mx;rw[ef]at x1;have ljz:j<zs.length:=by rw[St.len];exact RA
  obtain⟨z,hz⟩:∃z,z=zs[j]:=⟨_,rfl⟩
  have RC:zs[j]?=some z:=by rw[Vq ljz,hz]
  have mz:z∈zs:=by rw[hz];exact Wj _
  obtain⟨f',e1,qz⟩:=S.Iv j z RC;rw[hj]at e1;cases e1;obtain⟨k2,RD⟩:∃k2:Nat,k2=bj b (v+1) (fS t.1 f):=⟨_,rfl⟩
  have sb:(k:Int)-(bj b (v+1) f:Int)=(k2:Int):=by rw[hk,RD];exact Ho ft fx (by lia) dv
  have Lz:L≠z:=fun y=>nL (by rw[y];exact mz);have inj:∀u∈T,bj b (v+1) u.1=bj b (v+1) t.1->u.1=t.1:=fun u mu y=>jL (fr u (I.wW u mu)) ft hm (by lia) y;obtain⟨s1,ck⟩:∃s1,s1=s.set L (.dK ((jt T t).map (dU b (v+1)))):=⟨_,rfl⟩
  have L1:s1[L]?=some (.dK ((jt T t).map (dU b (v+1)))):=by rw[ck];exact Vz (bz S.left)
  have n1:Xn s s1:=by rw[ck];exact Xn.set S.left
  have z1:s1[z]?=some (.dK ((q j).map (Ll b (v+1) f))):=by rw[ck];exact aQ qz Lz
  obtain⟨s2,cL⟩:∃s2,s2=s1.set z (.dK ((q j++[t]).map (Ll b (v+1) f))):=⟨_,rfl⟩
  have n2:Xn s1 s2:=by rw[cL];exact Xn.set z1
  have TJ:=St.to n1;have TK:=TJ.to n2;obtain⟨μ,hμ⟩:∃μ:MN.Env->MN.Env,μ=fun r=>some (.int p)::some (.int (G:Int))::some (.loc L)::some (.loc M)::some (.loc Q)::some (.int (k:Int))::some (.int (j:Int))::r:=⟨_,rfl⟩
  have f6:aE 6 (aq PM.bu (aa bf (aa cY (aa bt ao)))) [qI p, qN G, qL L, qL M, qL Q, qN k, y6, y7, y8] s=.nx (μ [y7,y8]) s:=by rw[aR (v:=.int (j:Int)) (s1:=s) (by rw[aC (vs:=[.int (G:Int),.int (k:Int),.loc M]) (s1:=s) rfl,pl]),hμ];rfl
  have TL:∀(s':ae)(r:MN.Env),Iu s' M Q mo zs b (v+1) p->ah aY bt fP (μ r) s'=.ok (.loc x.m) s':=fun s' r h=>by rw[ax (x:=.loc M) (s1:=s') (by rw[hμ];rfl) (y:=.int (j:Int)) (s2:=s') (by rw[hμ];rfl)];exact gX h.mon (dH (by unfold EW;rw[VB,Vq RA,<-hx];rfl))
  have f7:aE 7 (ah dr cY (bp ["Monic"] "top" (ah aY bt fP))) (μ [y7,y8]) s=.nx (μ [some (.int (k2:Int)),y8]) s:=by
   have e:ah dr cY (bp ["Monic"] "top" (ah aY bt fP)) (μ [y7,y8]) s=.ok (.int (k2:Int)) s:=by rw[ax (x:=.int (k:Int)) (s1:=s) (by rw[hμ];rfl) (eU (v:=.int (bj b (v+1) f:Int)) (TL s _ St) x1 (by rfl)),<-sb];rfl
   rw[aR e,hμ];rfl
  have f8:aE 8 (fG aZ cY) (μ [some (.int (k2:Int)),y8]) s=.nx (μ [some (.int (k2:Int)),some (.int t.2)]) s1:=by
   have e:fG aZ cY (μ [some (.int (k2:Int)),y8]) s=.ok (.int t.2) s1:=by
    have e0:fG aZ cY (μ [some (.int (k2:Int)),y8]) s=if pK s (.loc L)=true then Bb (.loc L) (.int (k:Int)) s else .bad:=by rw[hμ];rfl
    rw[e0,Vo (by unfold pK;dsimp only;rw[S.left])];unfold Bb;dsimp only;rw[S.left];dsimp only;show(match jS (T.map (dU b (v+1))) (Sum.inl (k:Int)) with|some v=>bI.ok v _|none=>bI.bad)=_;rw[hk,yw mt fun u mu y=>U u (I.wW u mu) t (I.wW t mt) (inj u mu y)];dsimp only;show bI.ok (ak.int t.2) (s.set L (.dK (p4 (T.map (dU b (v+1))) (Sum.inl (bj b (v+1) t.1:Int)))))=_;rw[zV inj,ck]
   rw[aR e,hμ];rfl
  have f9:fE (ah aY c6 fP) kX BR (μ [some (.int (k2:Int)),some (.int t.2)]) s1=.nx (μ [some (.int (k2:Int)),some (.int t.2)]) s2:=by
   have ixz:ah aY c6 fP (μ [some (.int (k2:Int)),some (.int t.2)]) s1=.ok (.loc z) s1:=by rw[ax (x:=.loc Q) (s1:=s1) (by rw[hμ];rfl) (y:=.int (j:Int)) (s2:=s1) (by rw[hμ];rfl)];exact gX TJ.Iv (dH (by unfold lV;rw[VB,RC];rfl))
   unfold fE;rw[show BR (μ [some (.int (k2:Int)),some (.int t.2)]) s1=.ok (.int t.2) s1 by rw[hμ];rfl];show(ah aY c6 fP (μ [some (.int (k2:Int)),some (.int t.2)]) s1).sb _ _=_;rw[ixz];show(kX (μ [some (.int (k2:Int)),some (.int t.2)]) s1).sb _ _=_;rw[show kX (μ [some (.int (k2:Int)),some (.int t.2)]) s1=.ok (.int (k2:Int)) s1 by rw[hμ];rfl];show(match gR s1 (.loc z) (.int (k2:Int)) (.int t.2) with|some l!=>de.nx _ l! | none=>.bad)=_;unfold gR;dsimp only;rw[z1];dsimp only;rw[Vo (by rw[Vi,VQ];have:=S.cnt j;lia)];show de.nx _ (s1.set z (.dK (mI ((q j).map (Ll b (v+1) f)) (Sum.inl (k2:Int)) (.int t.2))))=_;rw[uI (fun y=>?_),cL,VT,RD]
   .rfl
   .rw[VE]at y;obtain⟨u,mu,e⟩:=VG.mp y;have e2:bj b (v+1) (fS u.1 f)=bj b (v+1) (fS t.1 f):=by injection e with e;rw[RD]at e;exact Int.ofNat.inj e
    obtain⟨ru,du⟩:=I.LY j u mu;obtain⟨_,f2,g1,g2⟩:=fW fs 0 du;rw[Yt,hj]at g1;cases g1;have fu:=fr u ru;have e3:=jL (jM fu fx) (jM ft fx) hm (by lia) e2;have e4:u.1=t.1:=by rw[<-iJ (by rw[fu.1,fx.1]) g2,<-iJ (e:=t.1) (by rw[ft.1,fx.1]) dv,e3]
    have e5:=U u ru t (I.wW t mt) e4;rw[e5]at mu;exact(I.Ir t mt).2 j mu
  have f10:bA (aq PM.b_ (aa aK (aa aZ (aa (bp ["Monic"] "tail" (ah aY bt fP)) (aa kX (aa (mG BR) ao)))))) (μ [some (.int (k2:Int)),some (.int t.2)]) s2=.nx (μ [some (.int (k2:Int)),some (.int t.2)]) s2:=by refine jJ (v:=.bR) ?_;obtain⟨x3,x4,_⟩:=TK.at_ x mx;rw[aC (vs:=[.int p,.loc L,.loc x.l,.int (k2:Int),.int (-t.2)]) (s1:=s2) (cZ (s1:=s2) (by rw[hμ];rfl) (cZ (v:=.loc L) (s1:=s2) (by rw[hμ];rfl) (cZ (s1:=s2) (eU (TL s2 _ TK) x3 (by rfl)) (dZ (s1:=s2) (by rw[hμ];rfl) (s2:=s2) (by rw[hμ];rfl)))))];exact Eg (aU x4)
  refine .inr ⟨wm q j t,s2,some (.int (k:Int)),some (.int (j:Int)),some (.int (k2:Int)),some (.int t.2),?_,⟨?_,fun i y hy=>?_,fun i=>?_⟩,I.toQ U mt hf,n1.trans n2,fun n c h1 h2 e=>?_⟩
  .show aw _ (aw _ (aw _ _)) _ s=_;rw[aA,f5,aB,aA,f6,aB,aA,ej (s1:=s) (bq (c:=false) (by rw[hμ];rfl)),aB,aA,f7,aB,aA,f8,aB,aA,f9,aB,f10,hμ]
  .rw[cL];exact aQ L1 (fun y=>Lz y.symm)
  .obtain⟨g,g1,g2⟩:=S.Iv i y hy;by_cases ij:i=j
   .subst ij;rw[RC]at hy;cases hy;rw[hj]at g1;cases g1;refine⟨f,hj,?_⟩;rw[cL,Vz (bz z1)];unfold wm;rw[Vo rfl]
   .refine⟨g,g1,?_⟩;have zy:z≠y:=fun e=>ij (by
     rw[<-e]at hy;have li:=(V6.mp hy).1;rw[Vq li]at hy;have e9:zs[i]=zs[j]:=by rw[VO hy,hz]
     rcases Ya i j with y|y|y
     .exact absurd e9 (WB.mp nz i j _ _ y)
     .exact y
     .exact absurd e9.symm (WB.mp nz j i _ _ y))
    have Ly:L≠y:=fun e=>nL (by rw[e];exact Wf hy);unfold wm;rw[Vv ij,cL];refine aQ ?_ zy;rw[ck];exact aQ g2 Ly
  .have l1:=oZ mt;have l2:=S.cnt i;unfold wm;by_cases ij:i=j
   .rw[Vo ij,Vt];rw[ij]at l2;show(jt T t).length+((q j).length+1)<=1000;lia
   .rw[Vv ij];lia
  .rw[cL];refine aQ ?_ (fun y=>h2 (by rw[<-y];exact mz));rw[ck];exact aQ e (fun y=>h1 y.symm)
end
def kh(L:Nat)(s:ae):Nat:=match s[L]? with
 |some (.dK l)=>l.length
 |_=>0
theorem hU{L:Nat}{s:ae}{l:List (bD×ak)}(h:s[L]?=some (.dK l)):kh L s=l.length:=by unfold kh;rw[h]
abbrev TM:MB:=aw (bA (aq PM.c8 (aa aK (aa bf (aa cY (aa bt (aa c6 ao))))))) (dY (bN (ah qX (aq lC (aa cY ao)) bT)) (aw (aE 7 (aq iV (aa cY ao))) (fE fP kX (fG cY kX))) bg)
section
variable{b:Bool}{v aj:Nat}{p:Int}{L M Q:Nat}{mo:List Mo}{zs:List Nat}{row:List Tm}{G:Nat}
theorem Ei{s:ae}{T R:List Tm}{q:Nat->List Tm}(hv:39<=v)(hm:aj<=8)(fr:∀t∈row,jK aj t.1)(ff:∀x∈mo,jK aj x.t.1)(U:∀u∈row,∀x∈row,u.1=x.1->u=x)(nz:zs.Nodup)(nL:L ∉ zs)(St:Iu s M Q mo zs b (v+1) p)(S:LS s L zs (mo.map (·.t.1)) b (v+1) T q)(I:LI row (mo.map (·.t.1)) T R q)(eG:G=GK.dig (v+1) (List.replicate aj (2 ^ v))):
  ∃(s':ae)(T':List Tm)(q':Nat->List Tm),PM.c8 [.int p,.int (G:Int),.loc L,.loc M,.loc Q] s=.ok .bR s'/\LS s' L zs (mo.map (·.t.1)) b (v+1) T' q'/\LI row (mo.map (·.t.1)) T' R q'/\Xn s s'/\Xz L zs s s'/\T'.length<=T.length /\
   (T'=[]\/∃t∈T',iV [.loc L] s'=.ok (.int (bj b (v+1) t.1:Int)) s'/\eY t.1 0 (mo.map (·.t.1))=none):=by
 obtain⟨r,e,s',T',q',h1,h2,h3,h4,h5,h6,h7⟩:=Bw (t:=TH) (body:=Hs)
  (fun μ st=>∃(T':List Tm)(q':Nat->List Tm)(y5 y6 y7 y8:Option ak),μ=[qI p, qN G, qL L, qL M, qL Q, y5, y6, y7, y8]/\LS st L zs (mo.map (·.t.1)) b (v+1) T' q'/\LI row (mo.map (·.t.1)) T' R q'/\Xn s st/\Xz L zs s st/\T'.length<=T.length)
  (fun _ st=>kh L st)
  (fun r=>∃ (s':ae) (T':List Tm) (q':Nat->List Tm),r.fin=.ok .bR s'/\LS s' L zs (mo.map (·.t.1)) b (v+1) T' q'/\LI row (mo.map (·.t.1)) T' R q'/\Xn s s'/\Xz L zs s s'/\T'.length<=T.length /\
   (T'=[]\/∃t∈T',iV [.loc L] s'=.ok (.int (bj b (v+1) t.1:Int)) s'/\eY t.1 0 (mo.map (·.t.1))=none))
  (by
   rintro μ st ⟨T',q',y5,y6,y7,y8,rfl,S',I',x',z',l'⟩;have rK:=uL (μ:=[some (.int p),some (.int (G:Int)),some (.loc L),some (.loc M),some (.loc Q),y5,y6,y7,y8]) (m:=aZ) S'.left rfl;by_cases ne:T'=[]
   .rw[VD (by rw[ne];simp)]at rK;exact .inl ⟨st,rK,st,T',q',rfl,S',I',x',z',l',.inl ne⟩
   .rw[VF ne]at rK;obtain⟨t,mt,em,⟨hn,hr⟩|⟨q2,s2,z5,z6,z7,z8,hb,S2,I2,x2,w2⟩⟩:=Ht (y5:=y5) (y6:=y6) (y7:=y7) (y8:=y8) hv hm fr ff U nz nL (St.to x') S' I' ne eG
    .exact .inr (.inl ⟨st,.bR,st,rK,hr,st,T',q',rfl,S',I',x',z',l',.inr ⟨t,mt,em,hn⟩⟩)
    .refine .inr (.inr ⟨st,_,s2,rK,hb,⟨jt T' t,q2,z5,z6,z7,z8,rfl,S2,I2,x'.trans x2,fun n c a1 a2 e=>w2 n c a1 a2 (z' n c a1 a2 e),?_⟩,?_⟩)
     .have:=oZ mt;lia
     .show kh L s2<kh L st;rw[hU S2.left,hU S'.left,Vi,Vi];exact oZ mt)
  [qI p, qN G, qL L, qL M, qL Q, qn, qn, qn, qn] s ⟨T,q,none,none,none,none,rfl,S,I,Xn.refl,fun _ _ _ _ e=>e,Vp _⟩
 refine⟨s',T',q',?_,h2,h3,h4,h5,h6,h7⟩;unfold PM.c8;rw[bB (np:=5) (us:=[ak.int p,.int (G:Int),.loc L,.loc M,.loc Q]) rfl];show(fD TH Hs [qI p, qN G, qL L, qL M, qL Q, qn, qn, qn, qn] s).fin=_;rw[e];exact h1
theorem Ej{s:ae}{D:Nat}(hv:39<=v)(hm:aj<=8)(fr:∀t∈row,jK aj t.1)(ff:∀x∈mo,jK aj x.t.1)(nd:(row.map (·.1)).Nodup)(nz:zs.Nodup)(hl:row.length<=1000)(St:Iu s M Q mo zs b (v+1) p)(hD:s[D]?=some (.dK (row.map (dU b (v+1)))))(hz:∀z∈zs,s[z]?=some (.dK []))(eG:G=GK.dig (v+1) (List.replicate aj (2 ^ v))):
  ∃(s':ae)(Rs:Nat)(R:List Tm)(q:Nat->List Tm),PM.c! [.int p,.int (G:Int),.loc D,.loc M,.loc Q] s=.ok (.loc Rs) s'/\s'[Rs]?=some (.dK (R.map (dU b (v+1))))/\LI row (mo.map (·.t.1)) [] R q/\Xn s s'/\Rs ∉ zs /\
   ∀(i z:Nat),zs[i]?=some z->∃f,(mo.map (·.t.1))[i]?=some f/\s'[z]?=some (.dK ((q i).map (Ll b (v+1) f))):=by
 have U:∀u∈row,∀x∈row,u.1=x.1->u=x:=by
  clear hD fr hl
  induction row with
  |nil=>intro u mu;cases mu
  |cons a row ih=>
   rw[Vl,Yd]at nd;intro u mu x mx e;rcases VH.mp mu with z|z<;>rcases VH.mp mx with y|y
   .rw[z,y]
   .rw[z]at e;exact absurd (by rw[e];exact W? y) nd.1
   .rw[y]at e;exact absurd (by rw[<-e];exact W? z) nd.1
   .exact ih nd.2 u z x y e
 have Pd:row.Nodup:=Yo (·.1) (fun a c z e=>z (by rw[e])) nd;obtain⟨L,hL⟩:∃L,L=s.length:=⟨_,rfl⟩
 obtain⟨s1,ck⟩:∃s1,s1=s++[aP.dK (row.map (dU b (v+1)))]:=⟨_,rfl⟩
 obtain⟨Rs,hR⟩:∃Rs,Rs=s1.length:=⟨_,rfl⟩
 obtain⟨s2,cL⟩:∃s2,s2=s1++[aP.dK []]:=⟨_,rfl⟩
 have x1:Xt s s1:=by rw[ck];exact Xt.app _
 have x2:Xt s1 s2:=by rw[cL];exact Xt.app _
 have vc:=x1.trans x2;have L2':s2[L]?=some (.dK (row.map (dU b (v+1)))):=x2.2 _ _ (by rw[ck,hL];exact gA _ _);have R2:s2[Rs]?=some (.dK []):=by rw[cL,hR];exact gA _ _
 have lR:Rs=s.length+1:=by rw[hR,ck,Vt];rfl
 have lz:∀z∈zs,z<s.length:=fun z mz=>bz (hz z mz);have nL:L ∉ zs:=fun z=>by have:=lz _ z;lia
 have nR:Rs ∉ zs:=fun z=>by have:=lz _ z;lia
 have LR:L≠Rs:=by lia
 have S0:LS s2 L zs (mo.map (·.t.1)) b (v+1) row fun _=>[]:=⟨L2',fun i z h=>by
  have li:=(V6.mp h).1;rw[St.len]at li;exact⟨mo[i].t.1,by rw[VB,Vq li];rfl,vc.2 _ _ (hz z (Wf h))⟩,fun i=>by show row.length+0<=1000;lia⟩
 obtain⟨μ',s',e,R,q,y7,rfl,h1,h2,h3,h4⟩:=pQ (t:=bN (ah qX (aq lC (aa cY ao)) bT)) (body:=TM)
  (fun μ st=>∃(T R:List Tm)(q:Nat->List Tm)(y7:Option ak),μ=[qI p, qN G, qL D, qL M, qL Q, qL L, qL Rs, y7]/\LS st L zs (mo.map (·.t.1)) b (v+1) T q/\st[Rs]?=some (.dK (R.map (dU b (v+1))))/\LI row (mo.map (·.t.1)) T R q/\Xn s2 st/\T.length+R.length<=1000)
  (fun _ st=>kh L st)
  (fun μ st=>∃(R:List Tm)(q:Nat->List Tm)(y7:Option ak),μ=[qI p, qN G, qL D, qL M, qL Q, qL L, qL Rs, y7]/\LS st L zs (mo.map (·.t.1)) b (v+1) [] q/\st[Rs]?=some (.dK (R.map (dU b (v+1))))/\LI row (mo.map (·.t.1)) [] R q/\Xn s2 st)
  (by
   rintro μ st ⟨T,R,q,y7,rfl,S,TN,I,x,cn⟩;have rK:=uL (μ:=[some (.int p),some (.int (G:Int)),some (.loc D),some (.loc M),some (.loc Q),some (.loc L),some (.loc Rs),y7]) (m:=cY) S.left rfl;by_cases ne:T=[]
   .rw[VD (by rw[ne];simp)]at rK;rw[ne]at S I;exact .inl ⟨st,rK,R,q,y7,rfl,S,TN,I,x⟩
   .rw[VF ne]at rK;refine .inr ?_;obtain⟨s3,T',q',e3,S3,I3,x3,z3,l3,h3⟩:=Ei (p:=p) (G:=G) hv hm fr ff U nz nL ((St.to vc.n).to x) S I eG;have R3:s3[Rs]?=some (.dK (R.map (dU b (v+1)))):=z3 _ _ (fun y=>LR y.symm) nR TN;have f1:bA (aq PM.c8 (aa aK (aa bf (aa cY (aa bt (aa c6 ao)))))) [qI p, qN G, qL D, qL M, qL Q, qL L, qL Rs, y7] st=.nx [qI p, qN G, qL D, qL M, qL Q, qL L, qL Rs, y7] s3:=
     jJ (v:=.bR) (by rw[aC (vs:=[.int p,.int (G:Int),.loc L,.loc M,.loc Q]) (s1:=st) rfl,e3])
    have Hu:=uL (μ:=[some (.int p),some (.int (G:Int)),some (.loc D),some (.loc M),some (.loc Q),some (.loc L),some (.loc Rs),y7]) (m:=cY) S3.left rfl;have nT:0<T.length:=List.length_pos_iff.mpr ne;rcases h3 with h3|⟨t,mt,em,hn⟩
    .rw[VD (by rw[h3];simp)]at Hu;refine⟨st,_,s3,rK,.inl ?_,⟨T',R,q',y7,rfl,S3,R3,I3,x.trans x3,by lia⟩,?_⟩
     .show aw _ _ _ st=_;rw[aA,f1,aB,ej Hu]
     .show kh L s3<kh L st;rw[hU S3.left,hU S.left,Vi,Vi,h3];exact nT
    .have neT:T'≠[]:=fun y=>by rw[y]at mt;cases mt
     rw[VF neT]at Hu;have ft:=fr t (I3.wW t mt);have inj:∀u∈T',bj b (v+1) u.1=bj b (v+1) t.1->u.1=t.1:=fun u mu y=>jL (fr u (I3.wW u mu)) ft hm (by lia) y;obtain⟨k,hk⟩:∃k:Nat,k=bj b (v+1) t.1:=⟨_,rfl⟩
     rw[<-hk]at em;obtain⟨s4,rE⟩:∃s4,s4=s3.set L (.dK ((jt T' t).map (dU b (v+1)))):=⟨_,rfl⟩
     have R4:s4[Rs]?=some (.dK (R.map (dU b (v+1)))):=by rw[rE];exact aQ R3 LR
     obtain⟨s5,qw⟩:∃s5,s5=s4.set Rs (.dK ((R++[t]).map (dU b (v+1)))):=⟨_,rfl⟩
     have x4:Xn s3 s4:=by rw[rE];exact Xn.set S3.left
     have x5:Xn s4 s5:=by rw[qw];exact Xn.set R4
     obtain⟨μ,hμ⟩:∃μ:Option ak->MN.Env,μ=fun y=>[qI p, qN G, qL D, qL M, qL Q, qL L, qL Rs, y]:=⟨_,rfl⟩
     have f7:aE 7 (aq iV (aa cY ao)) (μ y7) s3=.nx (μ (some (.int (k:Int)))) s3:=by rw[aR (v:=.int (k:Int)) (s1:=s3) (by rw[aC (bS (v:=.loc L) (s1:=s3) (by rw[hμ];rfl)),em]),hμ];rfl
     have f8:fE fP kX (fG cY kX) (μ (some (.int (k:Int)))) s3=.nx (μ (some (.int (k:Int)))) s5:=by
      have ep:fG cY kX (μ (some (.int (k:Int)))) s3=.ok (.int t.2) s4:=by
       have e0:fG cY kX (μ (some (.int (k:Int)))) s3=if pK s3 (.loc L)=true then Bb (.loc L) (.int (k:Int)) s3 else .bad:=by rw[hμ];rfl
       rw[e0,Vo (by unfold pK;dsimp only;rw[S3.left])];unfold Bb;dsimp only;rw[S3.left];dsimp only;show(match jS (T'.map (dU b (v+1))) (Sum.inl (k:Int)) with|some v=>bI.ok v _|none=>bI.bad)=_;rw[hk,yw mt fun u mu y=>U u (I3.wW u mu) t (I3.wW t mt) (inj u mu y)];dsimp only;show bI.ok (ak.int t.2) (s3.set L (.dK (p4 (T'.map (dU b (v+1))) (Sum.inl (bj b (v+1) t.1:Int)))))=_;rw[zV inj,rE]
      unfold fE;rw[ep];show(fP (μ (some (.int (k:Int)))) s4).sb _ _=_;rw[show fP (μ (some (.int (k:Int)))) s4=.ok (.loc Rs) s4 by rw[hμ];rfl];show(kX (μ (some (.int (k:Int)))) s4).sb _ _=_;rw[show kX (μ (some (.int (k:Int)))) s4=.ok (.int (k:Int)) s4 by rw[hμ];rfl];show(match gR s4 (.loc Rs) (.int (k:Int)) (.int t.2) with|some l!=>de.nx _ l! | none=>.bad)=_;unfold gR;dsimp only;rw[R4];dsimp only;rw[Vo (by rw[Vi,VQ];lia)];show de.nx _ (s4.set Rs (.dK (mI (R.map (dU b (v+1))) (Sum.inl (k:Int)) (.int t.2))))=_;rw[uI (fun y=>?_),qw,VT,hk]
      .rfl
      .rw[VE]at y;obtain⟨u,mu,e⟩:=VG.mp y;have e2:bj b (v+1) u.1=bj b (v+1) t.1:=by injection e with e;rw[hk]at e;exact Int.ofNat.inj e
       have ru:=(I3.inR u mu).1;have e5:=U u ru t (I3.wW t mt) (jL (fr u ru) ft hm (by lia) e2);rw[e5]at mu;exact(I3.Ir t mt).1 mu
     have ol:=oZ mt;refine⟨st,μ (some (.int (k:Int))),s5,rK,.inl ?_,⟨jt T' t,R++[t],q',some (.int (k:Int)),by rw[hμ],⟨?_,fun i y hy=>?_,fun i=>?_⟩,?_,I3.toR U mt hn,x.trans (x3.trans (x4.trans x5)),?_⟩,?_⟩
     .show aw _ _ _ st=_;rw[aA,f1,aB,mP Hu,aA];have:([qI p, qN G, qL D, qL M, qL Q, qL L, qL Rs, y7]:MN.Env)=μ y7:=by rw[hμ]
      rw[this,f7,aB,f8]
     .rw[qw];refine aQ ?_ (fun y=>LR y.symm);rw[rE];exact Vz (bz S3.left)
     .obtain⟨f,g1,g2⟩:=S3.Iv i y hy;have my:=Wf hy;refine⟨f,g1,?_⟩;rw[qw];refine aQ ?_ (fun e=>nR (by rw[e];exact my));rw[rE];exact aQ g2 (fun e=>nL (by rw[e];exact my))
     .have:=S3.cnt i;lia
     .rw[qw];exact Vz (bz R4)
     .rw[Vt];show(jt T' t).length+(R.length+1)<=1000;lia
     .show kh L s5<kh L st;have L5:s5[L]?=some (.dK ((jt T' t).map (dU b (v+1)))):=by rw[qw];refine aQ ?_ (fun y=>LR y.symm);rw[rE];exact Vz (bz S3.left)
      rw[hU L5,hU S.left,Vi,Vi];lia)
  [qI p, qN G, qL D, qL M, qL Q, qL L, qL Rs, qn] s2 ⟨row,[],fun _=>[],none,rfl,S0,R2,LI.start Pd,Xn.refl,by rw[VJ];lia⟩
 refine⟨s',Rs,R,q,?_,h2,h3,vc.n.trans h4,nR,h1.Iv⟩;have f5:aE 5 (aq Bf (aa aZ ao)) [qI p, qN G, qL D, qL M, qL Q, qn, qn, qn] s=.nx [qI p, qN G, qL D, qL M, qL Q, qL L, qn, qn] s1:=by
  rw[aR (v:=.loc L) (s1:=s1) (by
   rw[aC (bS (v:=.loc D) (s1:=s) rfl)];unfold Bf;dsimp only;rw[show ei s D=some (row.map (dU b (v+1))) by unfold ei;rw[hD],ck,hL])]
  rfl
 have f6:aE 6 gh [qI p, qN G, qL D, qL M, qL Q, qL L, qn, qn] s1=.nx [qI p, qN G, qL D, qL M, qL Q, qL L, qL Rs, qn] s2:=by rw[aR (v:=.loc Rs) (s1:=s2) (by rw[cL,hR];rfl)];rfl
 unfold PM.c!;rw[bB (np:=5) (us:=[ak.int p,.int (G:Int),.loc D,.loc M,.loc Q]) rfl];show(aw (aE 5 _) (aw (aE 6 gh) (aw (fD _ TM) (aO fP))) [qI p, qN G, qL D, qL M, qL Q, qn, qn, qn] s).fin=_;rw[aA,f5,aB,aA,f6,aB,aA,e,aB];rfl
end
abbrev sqB:MB:=bA (fQ bU c6 (aa (dj "Packing" "sum_of_terms" PM.fB bf (aa (aq PM.bo (aa aK (aa fP (aa (bp ["Monic"] "back" cY) ao)))) ao)) ao))
def pV(x:Nat×Nat):ak:=.tup [.loc x.1,.loc x.2]
def rL(S:Nat)(s:ae)(m:Nat):Prop:=∃(k:Nat)(t:Int)(l:Nat),s[m]?=some (.ins "Monic" (yt k t l))/\s[l]?=some (.lst [])/\l≠S
theorem Mon.below{S:Nat}{s s':ae}{m:Nat}(h:Mon s m)(x:Xd s s')(hS:s.length<=S):rL S s' m:=by obtain⟨k,t,l,h1,h2⟩:=h;exact⟨k,t,l,x.at_ _ _ trivial h1,x.at_ _ _ trivial h2,by have:=bz h2;lia⟩
def Nls(s:ae)(S:Nat)(us:List Nat):Prop:=s[S]?=some (.lst (lV us))/\∀u∈us,S<u/\s[u]?=some (.lst [])
def EY(s:ae)(N S:Nat)(k:Nat):Prop:=∃us:List Nat,s[S]?=some (.lst (lV us))/\us.length=k/\N<=S/\∀u∈us,N<=u/\s[u]?=some (.lst [])
structure Xr(s s':ae):Prop where
 n:Xn s s'
 dk:∀z l,ei s z=some l->ei s' z=some l
theorem lO{s:ae}{z:Nat}{l:List (bD×ak)}(h:ei s z=some l):s[z]?=some (.dK l)\/s[z]?=some (.fd l):=by
 unfold ei at h;split at h
 .rename_i e;cases h;exact .inl e
 .rename_i e;cases h;exact .inr e
 .cases h
theorem jN{s:ae}{z:Nat}{l:List (bD×ak)}(h:s[z]?=some (.dK l)):ei s z=some l:=by unfold ei;rw[h]
theorem o_{s:ae}{z:Nat}{l:List (bD×ak)}(h:s[z]?=some (.fd l)):ei s z=some l:=by unfold ei;rw[h]
theorem Xt.r{s s':ae}(x:Xt s s'):Xr s s':=⟨x.n,fun z l h=>(lO h).elim (fun h=>jN (x.2 _ _ h)) fun h=>o_ (x.2 _ _ h)⟩
theorem Xr.trans{s s1 s2:ae}(a:Xr s s1)(b:Xr s1 s2):Xr s s2:=⟨a.n.trans b.n,fun z l h=>b.dk z l (a.dk z l h)⟩
theorem Xr.refl{s:ae}:Xr s s:=Xt.refl.r
theorem wq{s:ae}{d:Nat}{ay:List (bD×ak)}{m:ME}{μ:MN.Env}(hm:m μ s=.ok (.loc d) s)(h:ei s d=some ay):∃s0,d8 m μ s=.ok (rB d ay) s0/\s0[d]?=some (.fd ay)/\Xr s s0:=by
 unfold d8;rw[hm];show ∃s0,(match s[d]? with|some (.dK ay)=>bI.ok (rB d ay) (s.set d (.fd ay))|some (.fd ay)=>.ok (rB d ay) s|_=>.bad)=_/\_;rcases lO h with e|e
 .rw[e];refine⟨_,rfl,Vz (bz e),Xn.set e,fun z l hz=>?_⟩;by_cases y:d=z
  .rw[<-y]at hz⊢;rw[h]at hz;cases hz;exact o_ (Vz (bz e))
  .rcases lO hz with q|q
   .exact jN (aQ q y)
   .exact o_ (aQ q y)
 .rw[e];exact⟨_,rfl,e,Xr.refl⟩
theorem Ek{b:Bool}{w:Nat}(ts:List Tm):Ip (ts.map (dU b w))=ts.map (rH b w):=by unfold Ip;rw[VE];rfl
abbrev Oh:ME:=eB (aa aK (aa (ah cK (ah cf bf aZ) bt) ao))
def kH(p bk:Int)(t:Tm):Tm:=(t.1,t.2*bk % p)
theorem zW{b:Bool}{w:Nat}{s:ae}{p bk:Int}{gd:ae->Prop}(hg:gd s)(hp:0<p)(h1:-(2 ^ 64)<bk)(h2:bk<2 ^ 64):∀(ts:List Tm)(x y:Option ak)(ys:List ak),
  aW gd (cW [au 0,au 1]) aJ Oh (ts.map (rH b w)) [x, y, qI bk, qI p] s ys=.ok (ys++(ts.map (kH p bk)).map (rH b w)) s
 |[],x,y,ys=>by show aW _ _ _ _ [] _ s ys=_;rw[b8 hg,V3,V3,VL]
 |t::ts,x,y,ys=>by
  have el:Oh [qI (bj b w t.1:Int), qI t.2, qI bk, qI p] s=.ok (rH b w (kH p bk t)) s:=by
   have e1:ah cf bf aZ [qI (bj b w t.1:Int), qI t.2, qI bk, qI p] s=.ok (.int (t.2*bk)) s:=by rw[ax (x:=.int t.2) (s1:=s) rfl (y:=.int bk) (s2:=s) rfl,mul_r h1 h2]
   have e2:ah cK (ah cf bf aZ) bt [qI (bj b w t.1:Int), qI t.2, qI bk, qI p] s=.ok (.int (t.2*bk % p)) s:=by rw[ax e1 (y:=.int p) (s2:=s) rfl,iA (by lia),X9 _ (by lia)]
   exact kE (dZ (v:=.int (bj b w t.1:Int)) (s1:=s) rfl e2) (by show 2<=1000;decide)
  rw[Vl,cE hg (show cW [au 0,au 1] (rH b w t) [x, y, qI bk, qI p]=some [qI (bj b w t.1:Int), qI t.2, qI bk, qI p]from rfl) el,zW hg hp h1 h2 ts _ _ _,VM];rfl
theorem Lm{b:Bool}{w:Nat}{ts:List Tm}(nd:(ts.map fun t=>bj b w t.1).Nodup):e! (ts.map (dU b w)) []=ts.map (dU b w):=by
 refine mS _ [] ?_;rw[V1,VE];have e:ts.map ((fun p:bD×ak=>p.1) ∘ dU b w)=(ts.map fun t=>bj b w t.1).map fun(k:Nat)=>(Sum.inl (k:Int):bD):=by rw[VE];rfl
 rw[e];refine List.Pairwise.map _ (fun a c ne z=>ne ?_) nd;injection z with z;lia
theorem uM{b:Bool}{w:Nat}{s:ae}{d:Nat}{p bk:Int}{ts:List Tm}(hp:0<p)(h1:-(2 ^ 64)<bk)(h2:bk<2 ^ 64)(hd:ei s d=some (ts.map (dU b w)))(nd:(ts.map fun t=>bj b w t.1).Nodup)(hl:ts.length<=1000):
  ∃(u:Nat)(s':ae),PM.bo [.int p,.loc d,.int bk] s=.ok (.loc u) s'/\s'[u]?=some (.dK ((ts.map (kH p bk)).map (dU b w)))/\Xr s s':=by
 obtain⟨s0,e0,g0,x0⟩:=wq (m:=bf) (μ:=[some (.int p),some (.loc d),some (.int bk)]) (s:=s) rfl hd;obtain⟨s1,ck⟩:∃s1,s1=s0++[aP.lst ((ts.map (kH p bk)).map (rH b w))]:=⟨_,rfl⟩
 have cp:bw 2 [2,0] (d8 bf) (cW [(au 0),(au 1)]) aJ Oh [qI p, qL d, qI bk] s=.ok (.loc s0.length) s1:=by rw[cO,e0,av];show(if(Ip (ts.map (dU b w))).length<=sizeLine then(aW (fun st2=>st2[d]?=some (.fd (ts.map (dU b w)))) (cW [au 0,au 1]) aJ Oh (Ip (ts.map (dU b w))) [qn, qn, qI bk, qI p] s0 []).iz rh else .bad)=_;rw[Ek,Vo (by rw[Vi,VQ];lia),zW (gd:=fun st2=>st2[d]?=some (.fd (ts.map (dU b w)))) g0 hp h1 h2 ts none none [],av,ck];rfl
 refine⟨s1.length,s1++[.dK ((ts.map (kH p bk)).map (dU b w))],?_,gA _ _,x0.trans ((show Xt s0 s1 by rw[ck];exact Xt.app _).trans (Xt.app _)).r⟩;unfold PM.bo;rw[bB (np:=3) (us:=[ak.int p,.loc d,.int bk]) rfl];show(aO (aq ye (aa (bw 2 [2,0] (d8 bf) (cW [(au 0),(au 1)]) aJ Oh) ao)) [qI p, qL d, qI bk] s).fin=_;rw[eV (v:=.loc s1.length) (s1:=s1++[.dK ((ts.map (kH p bk)).map (dU b w))]) (by
  rw[aC (bS cp)];show(match ai s1 s0.length with|some us=>(match ly us with|some l=>bI.ok (ak.loc s1.length) (s1++[aP.dK (e! l [])])|none=>bI.bad)|none=>bI.bad)=_;rw[show ai s1 s0.length=some ((ts.map (kH p bk)).map (rH b w)) by rw[ck];exact bx s0 _];dsimp only;rw[uH];dsimp only;rw[Lm (by rw[VE];exact nd)])]
 rfl
def iE(es:List Nat):_O:=es.map fun(e:Nat)=>(e:Int)
def BV(t:Tm):_O:=iE t.1++[t.2]
theorem Ln(t:Tm):zB true (BV t)=tM t:=by unfold zB BV tM;rw[Vo rfl,List.dropLast_concat,YA,List.getLast?_concat];show ak.tup [cX (iE t.1),.int t.2]=_;unfold cX;rw[e?];rfl
abbrev Oi:ME:=eB (aa (dj "Packing" "exponents_of" PM.aX aZ (aa aK ao)) (aa bf ao))
theorem zX{n d:Nat}{b:Bool}{aj v g:Nat}{ay:List (bD×ak)}(hv:v<63)(v1:22<=v)(hm:aj<=8):∀(ts:List Tm)(s:ae)(x y:Option ak)(ys:List ak),s[d]?=some (.fd ay)->Pk s n b aj (v+1) g->(∀t∈ts,jK aj t.1) ->
  ∃s',aW (fun st2=>st2[d]?=some (.fd ay)) (cW [au 0,au 1]) aJ Oi (ts.map (rH b (v+1))) [x, y, qL n] s ys=.ok (ys++ts.map tM) s'/\Xt s s'
 |[],s,x,y,ys,hd,_,_=>⟨s,by show aW _ _ _ _ [] _ s ys=_;rw[b8 (g:=fun st2=>st2[d]?=some (.fd ay)) hd,V3,VL],Xt.refl⟩
 |t::ts,s,x,y,ys,hd,P,h=>by
  have ft:=h t Vm;have ex:=mR (es:=t.1) P (by lia) hm ft.1 (ft.lt (by lia)) (ft.sum hm (by lia)) rfl;obtain⟨s1,ck⟩:∃s1,s1=s++[aP.lst (nV t.1)]:=⟨_,rfl⟩
  rw[<-ck]at ex;have x1:Xt s s1:=by rw[ck];exact Xt.app _
  obtain⟨s',e',x'⟩:=zX hv v1 hm ts s1 (some (.int (bj b (v+1) t.1:Int))) (some (.int t.2)) (ys++[tM t]) (x1.2 _ _ hd) (x1.2 _ _ P) fun u m=>h u (Vk _ m);refine⟨s',?_,x1.trans x'⟩;have el:Oi [qI (bj b (v+1) t.1:Int), qI t.2, qL n] s=.ok (tM t) s1:=by refine kE (dZ (s1:=s1) ?_ (s2:=s1) rfl) (by show 2<=1000;decide);rw[jI (n:=n) (s1:=s) (us:=[.int (bj b (v+1) t.1:Int)]) (s2:=s) rfl P (by rfl) rfl,ex]
  rw[Vl,cE (g:=fun st2=>st2[d]?=some (.fd ay)) hd (show cW [au 0,au 1] (rH b (v+1) t) [x, y, qL n]=some [qI (bj b (v+1) t.1:Int), qI t.2, qL n]from rfl) el,e',VM];rfl
theorem El{rs:List Tm}{aj:Nat}(hl:∀t∈rs,t.1.length=aj)(f:SO.cB (rs.map fun t=>iE t.1)):SO.cB (rs.map BV):=by unfold SO.cB at f⊢;rw[V8]at f⊢;refine W3 (fun{a c}ma mc h=>?_) f;unfold BV;rw[SO.mO (by unfold iE;rw[Vi,Vi,hl a ma,hl c mc]),Vv (fun z=>by rw[z,SO.jD]at h;cases h)];exact h
theorem wt{n d:Nat}{b:Bool}{aj v g:Nat}{s:ae}{ts rs:List Tm}(hv:v<63)(v1:22<=v)(hm:aj<=8)(m1:1<=aj)(P:Pk s n b aj (v+1) g)(hd:ei s d=some (ts.map (dU b (v+1))))(h:∀t∈ts,jK aj t.1)(hl:ts.length<64)(hp:rs.Perm ts)(hf:SO.cB (rs.map fun t=>iE t.1)):
  ∃(u:Nat)(s':ae),PM.aS [.loc n,.loc d] s=.ok (.loc u) s'/\s'[u]?=some (.lst (rs.map tM))/\Xr s s'/\s.length<=u:=by
 obtain⟨s0,e0,g0,x0⟩:=wq (m:=bf) (μ:=[some (.loc n),some (.loc d)]) (s:=s) rfl hd;obtain⟨s1,e1,x1⟩:=zX hv v1 hm ts s0 none none [] g0 (x0.n.at_ _ _ trivial P) h;obtain⟨s2,cL⟩:∃s2,s2=s1++[aP.lst (ts.map tM)]:=⟨_,rfl⟩
 have cp:bw 2 [0] (d8 bf) (cW [(au 0),(au 1)]) aJ Oi [some (.loc n),some (.loc d)] s=.ok (.loc s1.length) s2:=by rw[cO,e0,av];show(if(Ip (ts.map (dU b (v+1)))).length<=sizeLine then(aW (fun st2=>st2[d]?=some (.fd (ts.map (dU b (v+1))))) (cW [au 0,au 1]) aJ Oi (Ip (ts.map (dU b (v+1)))) [qn, qn, qL n] s0 []).iz rh else .bad)=_;rw[Ek,Vo (by rw[Vi,VQ];lia),e1,av,cL];rfl
 have GY:∀t∈rs,t.1.length=aj:=fun t mt=>(h t (hp.mem_iff.mp mt)).1;have fi:=El GY hf;have pk:(rs.map BV).Perm (ts.map BV):=hp.map _;have nd:(ts.map BV).Nodup:=pk.nodup_iff.mp (fq fi);have es:l? (ts.map BV)=rs.map BV:=ll ((dB _).trans pk.symm) (fU nd) fi;have el:∀l:List Tm,(l.map BV).map (zB true)=l.map tM:=fun l=>by rw[VE];exact VS fun t _=>Ln t
 have so:=zD (p:=true) (n:=s1.length) (m:=aj+1) (st:=s2) (ks:=ts.map BV) (by rw[el,cL];exact bx s1 _) nd (by rw[Vi];exact hl) (fun k mk=>by
  obtain⟨t,mt,rfl⟩:=VG.mp mk;unfold BV iE;rw[Vt,Vi,(h t mt).1];rfl) (by rw[Vo rfl];lia)
 rw[es,el]at so;have TQ:Xr s0 s2:=(x1.trans (by rw[cL];exact Xt.app _)).r;refine⟨s2.length,s2++[.lst (rs.map tM)],?_,gA _ _,x0.trans (TQ.trans (Xt.app _).r),(x0.trans TQ).n.len⟩;unfold PM.aS;rw[bB (np:=2) (us:=[ak.loc n,.loc d]) rfl];show(aO (iH true (bw 2 [0] (d8 bf) (cW [(au 0),(au 1)]) aJ Oi)) [some (.loc n),some (.loc d)] s).fin=_;rw[eV (v:=.loc s2.length) (s1:=s2++[.lst (rs.map tM)]) (by
  unfold iH;rw[cp];exact so)]
 rfl
abbrev yx:ME:=ah cK (ah gi aZ cY) aK
abbrev Em:MB:=dY (bN (ah iZ yx bT)) (bA (fQ bU c6 (aa (eB (aa cY (aa yx ao))) ao))) bg
theorem Bx{s:ae}{d q:Nat}{A:List dc}{r:Int}{ks:List (_O)}{k:_O}{x1 x3:Option ak}(h:s[d]?=some (.dT (A.map eD)))(hq:s[q]?=some (.lst ((Bo r A ks).map tV)))(hl:ks.length<=1000000)(hk:k∈A.map (·.1))(hr:¬ r=0):
  Em [qI r, x1, qL d, x3, qL q, some (cX k)] s=.nx [qI r, x1, qL d, x3, qL q, some (cX k)] (s.set q (.lst ((Bo r A (ks++[k])).map tV))):=by
 obtain⟨μ,hμ⟩:∃μ:MN.Env,μ=[qI r, x1, qL d, x3, qL q, some (cX k)]:=⟨_,rfl⟩
 have v4:c6 μ s=.ok (.loc q) s:=by rw[hμ];rfl
 have v5:cY μ s=.ok (cX k) s:=by rw[hμ];rfl
 have v0:aK μ s=.ok (.int r) s:=by rw[hμ];rfl
 have dg:ah gi aZ cY μ s=.ok (.int (cH A k)) s:=by rw[hμ];show gi (.loc d) (cX k) s=_;exact Hh h hk
 have sl:yx μ s=.ok (.int (fI r (cH A k))) s:=by unfold yx;rw[ax dg v0,iA hr];unfold fI;rw[Vv hr]
 have rK:bN (ah iZ yx bT) μ s=.ok (fI r (cH A k) !=0) s:=by refine bq ?_;rw[ax sl (y:=.int 0) (s2:=s) rfl,pU];rfl
 rw[<-hμ,D6];show dY _ _ _ μ s=_;rw[gW,rK,bh];cases c:fI r (cH A k) !=0 with
 |true=>
  have ap:=sS (v:=tV (k,fI r (cH A k))) hq (by rw[Vi,VQ];have:=zJ r A ks;lia);have arg:aa (eB (aa cY (aa yx ao))) ao μ s=.ok [tV (k,fI r (cH A k))] s:=by
   have tp:eB (aa cY (aa yx ao)) μ s=.ok (tV (k,fI r (cH A k))) s:=by rw[xP,df,v5,av,d7,df,sl,av,d7,gn,av,dh,av,dh,av,Dm];exact Vo (by rw[VQ];show 2<=16777216;decide)
   rw[df,tp,av,d7,gn,av,dh]
  rw[pT,oW,xU,v4,av,Ds hq,arg,av,Dt,ap,Vo rfl,VT];rfl
 |false=>
  rw[ji,Vv (by decide),VL];have:s.set q (.lst ((Bo r A ks).map tV))=s:=by
   apply List.ext_getElem?;intro j;rw[List.getElem?_set];by_cases e:q=j
   .rw[Vo e];subst e;split
    .exact hq.symm
    .rw[V' (by lia)]
   .rw[Vv e]
  rw[this];rfl
theorem By{st:ae}{A:List dc}{r:Int}{x1 x3:Option ak}{c4:aP}(hl:A.length<1000000)(hr:¬ r=0):
  ∃y5,forL (fun az=>ai az (st.length+3)=some ((l? (A.map (·.1))).map cX)) (au 5) Em ((l? (A.map (·.1))).map cX) [qI r, x1, qL st.length, x3, qL (st.length+1), qn] (st++[.dT (A.map eD),.lst [],c4,.lst ((l? (A.map (·.1))).map cX)]) =
   .nx [qI r, x1, qL st.length, x3, qL (st.length+1), y5] (st++[.dT (A.map eD),.lst ((fC r A).map tV),c4,.lst ((l? (A.map (·.1))).map cX)]):=by
 obtain⟨ks,NQ⟩:∃ks,ks=l? (A.map (·.1)):=⟨_,rfl⟩
 have lk:ks.length=A.length:=by rw[NQ,(dB _).length_eq,Vi]
 rw[<-qj,<-NQ];have N_:∀(us:List ak),(st++[aP.dT (A.map eD),.lst us,c4,.lst (ks.map cX)])[st.length]?=some (.dT (A.map eD)):=fun us=>by rw[Vy (Vp _),Wk];rfl
 have Rr:∀(us:List ak),(st++[aP.dT (A.map eD),.lst us,c4,.lst (ks.map cX)])[st.length+1]?=some (.lst us):=fun us=>by rw[Vy (by lia),show st.length+1-st.length=1 by lia];rfl
 have at2:∀(us:List ak),(st++[aP.dT (A.map eD),.lst us,c4,.lst (ks.map cX)])[st.length+3]?=some (.lst (ks.map cX)):=fun us=>by rw[Vy (by lia),show st.length+3-st.length=3 by lia];rfl
 have aL:∀(us ws:List ak),(st++[aP.dT (A.map eD),.lst us,c4,.lst (ks.map cX)]).set (st.length+1) (.lst ws)=st++[aP.dT (A.map eD),.lst ws,c4,.lst (ks.map cX)]:=fun us ws=>by rw[List.set_append_right _ _ (by lia),show st.length+1-st.length=1 by lia];rfl
 obtain⟨μ',az,e,rfl,y5,rfl⟩:=pO (g:=fun az=>ai az (st.length+3)=some (ks.map cX)) (a:=au 5) (body:=Em)
  (fun i μ s'=>s'=st++[.dT (A.map eD),.lst ((Bo r A (ks.take i)).map tV),c4,.lst (ks.map cX)]/\∃y5,μ=[qI r, x1, qL st.length, x3, qL (st.length+1), y5])
  (ks.map cX) 0 [qI r, x1, qL st.length, x3, qL (st.length+1), qn] (st++[.dT (A.map eD),.lst [],c4,.lst (ks.map cX)])
  (by
   rintro i u μ s' hu ⟨rfl,y5,rfl⟩;rw[Wb];refine⟨zl (at2 _),?_⟩;rw[VB]at hu;have hi:i<ks.length:=by
    rcases WY i ks.length with q|q
    .exact q
    .rw[V' q]at hu;cases hu
   rw[Vq hi]at hu;obtain⟨k,hk⟩:∃k,k=ks[i]:=⟨_,rfl⟩
   have mk:k∈A.map (·.1):=by refine(dB _).mem_iff.mp ?_;rw[<-NQ,hk];exact Wj hi
   rw[<-hk]at hu;cases hu;have tk:ks.take (i+1)=ks.take i++[k]:=by rw[Y_,Vq hi,<-hk];rfl
   have es:=Bx (x1:=x1) (x3:=x3) (N_ _) (Rr ((Bo r A (ks.take i)).map tV)) (by rw[ZV];lia) mk hr;rw[aL,<-tk]at es;exact⟨_,rfl,_,_,.inl es,rfl,_,rfl⟩)
  (fun μ s hp=>by obtain⟨rfl,_⟩:=hp;exact zl (at2 _))
  ⟨rfl,none,rfl⟩
 rw[Wb,Vi,Xe (Vp _)]at e;exact⟨y5,e⟩
theorem Oj(A:List dc):((A.map eD).map fun p=>ak.tup (p.1.map gY))=(A.map (·.1)).map (zB false):=by rw[VE,VE];refine VS fun t _=>?_;show ak.tup ((iK t.1).map gY)=cX t.1;unfold iK cX;rw[VE];rfl
theorem ki{p aj:Nat}{P:List dc}{r:Int}{st:ae}(hr:¬ r=0)(h:ai st p=some (P.map tV))(hl:P.length<64)(ne:∀t∈P,t.1.length=aj)(m1:1<=aj):
  ∃c1 c3 c4,PM.eR [.int r,.loc p] st=.ok (.loc (st.length+1)) (st++[c1,.lst ((fC r (jU P)).map tV),c3,c4]):=by
 obtain⟨A,hA⟩:∃A,A=jU P:=⟨_,rfl⟩
 have ga:=qi P;rw[<-hA]at ga;obtain⟨y3,e1⟩:=D7 (x0:=some (.int r)) h (by lia);obtain⟨c4,TR⟩:∃c4:aP,c4=.lst ((A.map (·.1)).map (zB false)):=⟨_,rfl⟩
 obtain⟨y5,e2⟩:=By (st:=st) (A:=A) (r:=r) (x1:=some (.loc p)) (x3:=y3) (c4:=c4) (by lia) hr;rw[<-hA]at e1⊢;refine⟨.dT (A.map eD),c4,.lst ((l? (A.map (·.1))).map cX),?_⟩;have s1:aE 2 pJ [qI r, qL p, qn, qn, qn, qn] st=.nx [qI r, qL p, qL st.length, qn, qn, qn] (st++[.dT []]):=rfl;have v1:bf [some (ak.int r), qL p, qL st.length, qn, qn, qn] (st++[.dT []])=.ok (.loc p) (st++[.dT []]):=rfl;have s2:cw (cg bf) (au 3) LX [qI r, qL p, qL st.length, qn, qn, qn] (st++[.dT []])=.nx [qI r, qL p, qL st.length, y3, qn, qn] (st++[.dT (A.map eD)]):=by rw[dA,cj,v1,av,bM (nI h _),bh,fh];exact e1
 have ld:(st++[aP.dT (A.map eD)]).length=st.length+1:=by rw[Vt];rfl
 have s3:aE 4 (c9 ao) [qI r, qL p, qL st.length, y3, qn, qn] (st++[.dT (A.map eD)])=.nx [qI r, qL p, qL st.length, y3, qL (st.length+1), qn] (st++[.dT (A.map eD),.lst []]):=by rw[aR (eT (vs:=[]) (s1:=st++[aP.dT (A.map eD)]) rfl (by decide)),ld,VM];rfl
 have hd:(st++[aP.dT (A.map eD),.lst []])[st.length]?=some (.dT (A.map eD)):=by rw[Vy (Vp _),Wk];rfl
 have l2:(st++[aP.dT (A.map eD),.lst []]).length=st.length+2:=by rw[Vt];rfl
 have l3:(st++[aP.dT (A.map eD),.lst [],c4]).length=st.length+3:=by rw[Vt];rfl
 have hls:aq uz (aa aZ ao) [qI r, qL p, qL st.length, y3, qL (st.length+1), qn] (st++[.dT (A.map eD),.lst []])=.ok (.loc (st.length+2)) (st++[.dT (A.map eD),.lst [],c4]):=by rw[aC (bS (v:=.loc st.length) (s1:=st++[.dT (A.map eD),.lst []]) rfl)];unfold uz;dsimp only;rw[hd];dsimp only;rw[Oj,<-TR,l2,VM];rfl
 have mk:∀k∈A.map (·.1),k.length=aj:=fun k hk=>by obtain⟨t,ht,rfl⟩:=VG.mp hk;obtain⟨q,hq,e⟩:=VG.mp (ga.2.2 t ht);rw[<-e];exact ne q hq
 have TU:=zD (p:=false) (n:=st.length+2) (m:=aj) (st:=st++[.dT (A.map eD),.lst [],c4]) (ks:=A.map (·.1)) (by
  refine zl ?_;rw[Vy (by lia),show st.length+2-st.length=2 by lia,TR];rfl) ga.1 (by rw[Vi];lia) mk (by rw[Vv Vs];exact m1)
 have ef:(l? (A.map (·.1))).map (zB false)=(l? (A.map (·.1))).map cX:=VS fun k _=>rfl;rw[l3,VM,ef]at TU;have hit:ai (st++[aP.dT (A.map eD),.lst [],c4,.lst ((l? (A.map (·.1))).map cX)]) (st.length+3)=some ((l? (A.map (·.1))).map cX):=by refine zl ?_;rw[Vy (by lia),show st.length+3-st.length=3 by lia];rfl
 have s4:cw (cg (iH false (aq uz (aa aZ ao)))) (au 5) Em [qI r, qL p, qL st.length, y3, qL (st.length+1), qn] (st++[.dT (A.map eD),.lst []])=.nx [qI r, qL p, qL st.length, y3, qL (st.length+1), y5] (st++[.dT (A.map eD),.lst ((fC r A).map tV),c4,.lst ((l? (A.map (·.1))).map cX)]):=by
  have so:iH false (aq uz (aa aZ ao)) [qI r, qL p, qL st.length, y3, qL (st.length+1), qn] (st++[.dT (A.map eD),.lst []])=.ok (.loc (st.length+3)) (st++[aP.dT (A.map eD),.lst [],c4,.lst ((l? (A.map (·.1))).map cX)]):=by unfold iH;rw[hls];exact TU
  rw[dA,cj,so,av,bM hit,bh,fh];exact e2
 unfold PM.eR;rw[bB (np:=2) (us:=[ak.int r,.loc p]) rfl];show(aw (aE 2 pJ) (aw (cw (cg bf) (au 3) LX) (aw (aE 4 (c9 ao)) (aw (cw (cg (iH false (aq uz (aa aZ ao)))) (au 5) Em) (aO c6)))) [qI r, qL p, qn, qn, qn, qn] st).fin=_;rw[aA,s1,aB,aA,s2,aB,aA,s3,aB,aA,s4,aB];rfl
end PG
namespace Hv
open PySem.Spec L2 MN
open PyProof.Rows hiding St
def RE:List (Str×Str×Bool):=[(("NoInverse":Str),("AlgebraError":Str),true),(("NoInverse":Str),("NoPrime":Str),false),(("NoInverse":Str),("NoOrder":Str),false),(("NoInverse":Str),("ByNought":Str),false),(("ByNought":Str),("AlgebraError":Str),true),(("ByNought":Str),("NoPrime":Str),false),(("ByNought":Str),("NoOrder":Str),false),(("ByNought":Str),("ByNought":Str),true),(("NoOrder":Str),("AlgebraError":Str),true),(("NoOrder":Str),("NoPrime":Str),false),(("NoOrder":Str),("NoOrder":Str),true),(("NoOrder":Str),("ByNought":Str),false),(("NoRing":Str),("AlgebraError":Str),true),(("NoRing":Str),("NoPrime":Str),false),(("NoRing":Str),("NoOrder":Str),false),(("NoRing":Str),("ByNought":Str),false),(("NoPrime":Str),("AlgebraError":Str),true),(("NoPrime":Str),("NoPrime":Str),true),(("NoPrime":Str),("NoOrder":Str),false),(("NoPrime":Str),("ByNought":Str),false)]
def tab:List (Str×Str×Bool):=RE++Q8 ["NoInverse","ByNought","NoOrder","NoRing","NoPrime"]
end Hv
namespace PG
open PySem.Spec L2 MN
open PyProof.Rows hiding St kindOf
def enV(x:(Nat×Nat)×Nat):ak:=.tup [.int (x.1.1:Int),.int (x.1.2:Int),.loc x.2]
def Fnd(s:ae)(N F:Nat)(jF:List (Nat×Nat))(k:Nat):Prop:=∃ls:List Nat,ls.length=jF.length/\s[F]?=some (.lst ((jF.zip ls).map enV))/\∀l∈ls,EY s N l k
theorem EY.to{s s':ae}{N S k:Nat}(h:EY s N S k)(x:Xd s s'):EY s' N S k:=by obtain⟨us,h1,h2,h3,h4⟩:=h;exact⟨us,x.at_ _ _ trivial h1,h2,h3,fun u m=>⟨(h4 u m).1,x.at_ _ _ trivial (h4 u m).2⟩⟩
theorem EY.set{s:ae}{N S k F:Nat}{c:aP}(h:EY s N S k)(hF:F<N):EY (s.set F c) N S k:=by obtain⟨us,h1,h2,h3,h4⟩:=h;exact⟨us,aQ h1 (by lia),h2,h3,fun u m=>⟨(h4 u m).1,aQ (h4 u m).2 (by have:=(h4 u m).1;lia)⟩⟩
theorem EY.up{s:ae}{N N' S k:Nat}(h:EY s N' S k)(hN:N<=N'):EY s N S k:=by obtain⟨us,h1,h2,h3,h4⟩:=h;exact⟨us,h1,h2,by lia,fun u m=>⟨by have:=(h4 u m).1;lia,(h4 u m).2⟩⟩
structure LZ(s:ae)(n M R N F:Nat)(b:Bool)(aj w g:Nat)(ms:List Nat)(us:List ak):Prop where
 pk:Pk s n b aj w g
 mon:ai s M=some (lV ms)
 row:ai s R=some us
 mo:∀m∈ms,rL F s m
 lt:F<N
 ln:N<=s.length
 ne:n≠F
 nM:M≠F
 nR:R≠F
theorem rL.mon{S:Nat}{s:ae}{m:Nat}(h:rL S s m):Mon s m:=let⟨k,t,l,h1,h2,_⟩:=h;⟨k,t,l,h1,h2⟩
theorem rL.xd{S:Nat}{s s':ae}{m:Nat}(h:rL S s m)(x:Xd s s'):rL S s' m:=let⟨k,t,l,h1,h2,h3⟩:=h;⟨k,t,l,x.at_ _ _ trivial h1,x.at_ _ _ trivial h2,h3⟩
theorem rL.set{S:Nat}{s:ae}{m:Nat}{us:List ak}{c:aP}(h:rL S s m)(hS:s[S]?=some (.lst us)):rL S (s.set S c) m:=let⟨k,t,l,h1,h2,h3⟩:=h;⟨k,t,l,aQ h1 (fun z=>by rw[<-z,hS]at h1;cases h1),aQ h2 (fun z=>h3 z.symm),h3⟩
theorem LZ.xd{s s':ae}{n M R N F:Nat}{b:Bool}{aj w g:Nat}{ms:List Nat}{us:List ak}(D:LZ s n M R N F b aj w g ms us)(x:Xd s s'):LZ s' n M R N F b aj w g ms us:=
 ⟨D.pk.to x,x.items D.mon,x.items D.row,fun m h=>(D.mo m h).xd x,D.lt,VZ D.ln x.len,D.ne,D.nM,D.nR⟩
theorem LZ.set{s:ae}{n M R N F:Nat}{b:Bool}{aj w g:Nat}{ms:List Nat}{us vs:List ak}{c:aP}(D:LZ s n M R N F b aj w g ms us)(hF:s[F]?=some (.lst vs)):LZ (s.set F c) n M R N F b aj w g ms us:=
 ⟨aQ D.pk (fun z=>D.ne z.symm),by obtain⟨c,h1,h2⟩:=fV D.mon;exact h2 _ (aQ h1 (fun z=>D.nM z.symm)),by obtain⟨c,h1,h2⟩:=fV D.row;exact h2 _ (aQ h1 (fun z=>D.nR z.symm)),fun m h=>(D.mo m h).set hF,D.lt,by rw[VU];exact D.ln,D.ne,D.nM,D.nR⟩
abbrev diB:MB:=aw (aE 8 (aq PM.g_ (aa aK (aa bt (aa c6 (aa fP (aa kX ao))))))) (aw (dY (bN (ah (O6 false) BR (mC .bR))) (aO (mC .bR)) bg) (bA (fQ bU cY (aa (eB (aa fP (aa kX (aa (aq PM.lE (aa aK (aa bt (aa c6 (aa BR ao))))) ao)))) ao))))
theorem tw{R:Nat}{us:List ak}{s:ae}{x:Option ak}(hR:ai s R=some us):∀(rows:List i_)(y:Option ak),(∀r∈rows,s[r.1]?=some (.lst [tN r])) ->
  ∃y',forL (fun az=>ai az R=some us) (au 1) (dY (bN (ah kY (aq c_ (aa bf ao)) bT)) (gP "ByNought" (aa (qs "nothing is reduced by nought") ao)) bg) (rows.map fun r=>ak.loc r.1) [x,y] s=.nx [x,y'] s
 |[],y,_=>⟨y,by show forL _ _ _ [] _ s=_;unfold forL;rw[Vo hR]⟩
 |r::rows,y,h=>by
  obtain⟨y',e⟩:=tw hR rows (some (.loc r.1)) fun q m=>h q (Vk _ m);refine⟨y',?_⟩;rw[Vl];unfold forL;rw[Vo hR];have b1:dY (bN (ah kY (aq c_ (aa bf ao)) bT)) (gP "ByNought" (aa (qs "nothing is reduced by nought") ao)) bg [x,some (.loc r.1)] s=.nx [x,some (.loc r.1)] s:=by refine ej (bq ?_);rw[N? (o:=1) (s1:=s) (by rw[aC (bS (v:=.loc r.1) (s1:=s) rfl),iB (aU (h r Vm))];rfl)];rfl
  show(match dY _ _ _ [x,some (.loc r.1)] s with
   |.nx μ' az=>forL _ _ _ _ μ' az|.ct μ' az=>forL _ _ _ _ μ' az|.bk μ' az=>.nx μ' az|.rt v az=>.rt v az|.er c μ' az=>.er c μ' az|.bad=>.bad)=_
  rw[b1];exact e
theorem Hw{s:ae}{R:Nat}{rows:List i_}(h:yr s R rows):PM.bZ [.loc R] s=.ok .bR s:=by obtain⟨y,e⟩:=tw (x:=some (.loc R)) h.1 rows none h.2;unfold PM.bZ;rw[bB (np:=1) (us:=[ak.loc R]) rfl];show(cw _ _ _ [some (.loc R),none] s).fin=_;rw[dA,cj,show aK [some (.loc R),none] s=.ok (.loc R) s from rfl,av,bM h.1,bh,fh,e];rfl
end PG
namespace Hv
open PySem.Spec L2 MN PG
open PyProof.Rows hiding St kindOf
theorem nP{n:Nat}{ns:_O}{k:Int}{st:ae}(h:ai st n=some (ns.map ak.int))(k0:0<=k)(k1:k<=1000)(hl:ns.length<=1000):
  ∃o,PM.ba [.loc n,.int k] st=.ok (.int o) (st++[.lst []])/\0<=o:=by
 obtain⟨s1,ck⟩:∃s1,s1=st++[aP.lst []]:=⟨_,rfl⟩
 have h1:ai s1 n=some (ns.map ak.int):=by rw[ck];exact(Xt.app _).items h
 have hn:ai s1 st.length=some []:=by rw[ck];exact bx st _
 have rK:∀x y:Option ak,bN (ah iZ aK (c9 ao)) [qL n, qI k, x, y] st=.ok (!(ns.map ak.int).isEmpty) s1:=fun x y=>by refine bq ?_;rw[ax (x:=.loc n) (s1:=st) rfl (eT (vs:=[]) (s1:=st) rfl (by decide)),<-ck,ne_nil h1 hn]
 obtain⟨c,f2⟩:∃c:Int,dY (bN (ah iZ aK (c9 ao))) (aE 2 (ah aY aK (ah cK bf (aq c_ (aa aK ao))))) bg [qL n, qI k, qI 0, qn] st=.nx [qL n, qI k, qI c, qn] s1:=by
  cases ns with
  |nil=>exact⟨0,by rw[ej (rK _ _)]⟩
  |cons a ns=>
   have q:=g? (m:=(((a::ns).length:Nat):Int)) (by rw[Vn];lia) k;obtain⟨c,hc⟩:=He (ns:=a::ns) q.1 q.2;refine⟨c,?_⟩;rw[mP (rK _ _)];have m:ah cK bf (aq c_ (aa aK ao)) [qL n, qI k, qI 0, qn] s1=.ok (.int (k.fmod (((a::ns).length:Nat):Int))) s1:=by rw[ax (x:=.int k) (s1:=s1) rfl (y:=.int (((a::ns).map ak.int).length:Int)) (s2:=s1) (by rw[aC (bS (v:=.loc n) (s1:=s1) rfl),iB h1]),Vi];exact iA (by rw[Vn];lia)
   rw[aR (v:=.int c) (s1:=s1) (by rw[ax (x:=.loc n) (s1:=s1) rfl m];exact gX h1 hc)];rfl
 have q1:=g? (m:=2147483647) (by decide) (c*48271+(k+1)*7919);generalize hx:(c*48271+(k+1)*7919).fmod 2147483647=x at q1;have q2:=g? (m:=2147483629) (by decide) (x*x);have q3:=g? (m:=2147483647) (by decide) ((x*x).fmod 2147483629*48271);generalize hy:((x*x).fmod 2147483629*48271).fmod 2147483647=y at q3;have q4:=g? (m:=2147483629) (by decide) (y*y);refine⟨y*2147483629+(y*y).fmod 2147483629,?_,by lia⟩;have e1:ah cK (ah cb (ah cf aZ (mC (.int 48271))) (ah cf (ah cb bf b!) (mC (.int 7919)))) (mC (.int 2147483647)) [qL n, qI k, qI c, qn] s1=.ok (.int x) s1:=by
  rw[jq (o:=c*48271+(k+1)*7919) (s1:=s1) (by
   rw[ax (x:=.int (c*48271)) (s1:=s1) (by rw[ax (x:=.int c) (s1:=s1) rfl (y:=.int 48271) (s2:=s1) rfl,mul_r (by decide) (by decide)]) (y:=.int ((k+1)*7919)) (s2:=s1) (by rw[ax (x:=.int (k+1)) (s1:=s1) rfl (y:=.int 7919) (s2:=s1) rfl,mul_r (by decide) (by decide)])];rfl) (by decide),hx]
 have e2:ah cK (ah cf (ah cK (ah cf bt bt) c7) (mC (.int 48271))) (mC (.int 2147483647)) [qL n, qI k, qI c, qI x] s1=.ok (.int y) s1:=by have a:ah cK (ah cf bt bt) c7 [qL n, qI k, qI c, qI x] s1=.ok (.int ((x*x).fmod 2147483629)) s1:=jq (by rw[ax (x:=.int x) (s1:=s1) rfl (y:=.int x) (s2:=s1) rfl,zj (by lia) (by lia)]) (by decide);rw[jq (o:=(x*x).fmod 2147483629*48271) (s1:=s1) (by rw[ax a (y:=.int 48271) (s2:=s1) rfl,mul_r (by decide) (by decide)]) (by decide),hy]
 have e3:ah cb (ah cf bt c7) (ah cK (ah cf bt bt) c7) [qL n, qI k, qI c, qI y] s1=.ok (.int (y*2147483629+(y*y).fmod 2147483629)) s1:=by rw[ax (x:=.int (y*2147483629)) (s1:=s1) (by rw[ax (x:=.int y) (s1:=s1) rfl (y:=.int 2147483629) (s2:=s1) rfl,mul_r (by decide) (by decide)]) (jq (o:=y*y) (s1:=s1) (by rw[ax (x:=.int y) (s1:=s1) rfl (y:=.int y) (s2:=s1) rfl,zj (by lia) (by lia)]) (by decide))];rfl
 unfold PM.ba;rw[bB (np:=2) (us:=[ak.loc n,.int k]) rfl,<-ck];show(aw (aE 2 bT) (aw _ (aw (aE 3 _) (aw (aE 3 _) (aO _)))) [qL n, qI k, qn, qn] st).fin=_;rw[aA,aR (v:=.int 0) (s1:=st) rfl,aB];show(aw _ (aw (aE 3 _) (aw (aE 3 _) (aO _))) [qL n, qI k, qI 0, qn] st).fin=_;rw[aA,f2,aB,aA,aR e1,aB];show(aw (aE 3 _) (aO _) [qL n, qI k, qI c, qI x] s1).fin=_;rw[aA,aR e2,aB];show(aO _ [qL n, qI k, qI c, qI y] s1).fin=_;rw[eV e3];rfl
theorem Iw{α:Type}{μ:MN.Env}{s s1 s2:ae}{l mi:ME}{q:Nat}{as:List α}{f:α->ak}{i:Int}(h1:l μ s=.ok (.loc q) s1)(h2:mi μ s1=.ok (.int i) s2)(hq:ai s2 q=some (as.map f))(i0:0<=i)(i1:i<(as.length:Int)):
  ∃a∈as,ah aY l mi μ s=.ok (f a) s2:=by
 obtain⟨j,hj⟩:∃j:Nat,(j:Int)=i:=⟨i.toNat,by lia⟩
 have lj:j<as.length:=by lia
 refine⟨as[j],Wj lj,?_⟩;rw[ax h1 h2,<-hj];exact gX hq (dH (by rw[VB,Vq lj];rfl))
theorem qx{α:Type}{μ:MN.Env}{s:ae}{a:MA}{mi:ME}{as:List α}{f:α->ak}{i:Int}(h1:a μ s=.ok (as.map f) s)(h2:∀s,mi μ s=.ok (.int i) s)(hl:as.length<=1000)(i0:0<=i)(i1:i<(as.length:Int)):
  ∃x∈as,ah aY (c9 a) mi μ s=.ok (f x) (s++[.lst (as.map f)]):=
 Iw (eT h1 (by rw[Vi];exact hl)) (h2 _) (bx s _) i0 i1
def iN(n:Nat):ak:=.int (n:Int)
def lP:_O:=[7,3,2,5,13,97,11,17,19,23,29,31,37,41,43,47,53,59,61,67,71,73,79,83,89]
theorem Bz:∀p∈lP,qe p=true/\2<=p/\p<=97:=by decide +kernel
def jO(p:Int)(d:Bool)(aj top t c:Nat):ak:=.tup [.int p,.str (b? d),iN aj,iN top,iN t,iN c]
theorem tD{ns:_O}{s:ae}{S:Nat}(h:ai s S=some (ns.map ak.int))(hl:ns.length<=1000):
  ∃(p:Int)(d:Bool)(aj top t c:Nat)(s':ae),PM.g9 [.loc S] s=.ok (jO p d aj top t c) s'/\Xt s s'/\qe p=true/\2<=p/\p<=97/\1<=aj/\aj<=3/\top<=8/\t<=8:=by
 obtain⟨s1,ck⟩:∃s1,s1=s++[aP.lst (lP.map ak.int)]:=⟨_,rfl⟩
 have x1:Xt s s1:=by rw[ck];exact Xt.app _
 have hP:ai s1 s.length=some (lP.map ak.int):=by rw[ck];exact bx s _
 obtain⟨cell,c1,c0⟩:=nP (k:=1) (x1.items h) (by decide) (by decide) hl;obtain⟨s2,cL⟩:∃s2,s2=s1++[aP.lst []]:=⟨_,rfl⟩
 rw[<-cL]at c1;have x2:Xt s1 s2:=by rw[cL];exact Xt.app _
 have qk:=g? (m:=8) (by decide) (cell.fdiv 2);have qd:=g? (m:=2) (by decide) cell;obtain⟨kind,hk⟩:∃kind,kind=(cell.fdiv 2).fmod 8:=⟨_,rfl⟩
 rw[<-hk]at qk;obtain⟨μ,hμ⟩:∃μ:MN.Env->MN.Env,μ=fun r=>some (.loc S)::some (.loc s.length)::some (.int cell)::r:=⟨_,rfl⟩
 have f3:ah cK (ah je aZ iP) LL (μ [none,none,none,none,none,none]) s2=.ok (.int kind) s2:=by rw[jq (Lc (o:=cell) (s1:=s2) (by rw[hμ];rfl) (N! (by decide) (by decide))) (by decide),hk]
 obtain⟨d,_,f4⟩:=qx (μ:=μ [qI kind, qn, qn, qn, qn, qn]) (s:=s2) (a:=aa (qs "lex") (aa (qs "deg") ao)) (mi:=ah cK aZ iP) (as:=[false,true]) (f:=fun d=>.str (b? d)) (i:=cell.fmod 2) rfl (fun s=>jq (by rw[hμ];rfl) (by decide)) (by decide) qd.1 qd.2;obtain⟨s3,lK⟩:∃s3,s3=s2++[aP.lst ([false,true].map fun d=>ak.str (b? d))]:=⟨_,rfl⟩
 rw[<-lK]at f4;obtain⟨aj,im,f5⟩:=qx (μ:=μ [qI kind, qS (b? d), qn, qn, qn, qn]) (s:=s3) (a:=aa iP (aa b! (aa iP (aa nF (aa iP (aa b! (aa nF (aa b! ao)))))))) (mi:=bt) (as:=[2,1,2,3,2,1,3,1]) (f:=iN) (i:=kind) rfl (fun s=>by rw[hμ];rfl) (by decide) qk.1 qk.2;obtain⟨s4,rE⟩:∃s4,s4=s3++[aP.lst ([2,1,2,3,2,1,3,1].map iN)]:=⟨_,rfl⟩
 rw[<-rE]at f5;obtain⟨top,it,f6⟩:=qx (μ:=μ [qI kind, qS (b? d), some (iN aj), qn, qn, qn]) (s:=s4) (a:=aa iP (aa EU (aa iP (aa b! (aa b! (aa LL (aa b! (aa nF ao)))))))) (mi:=bt) (as:=[2,4,2,1,1,8,1,3]) (f:=iN) (i:=kind) rfl (fun s=>by rw[hμ];rfl) (by decide) qk.1 qk.2;obtain⟨s5,qw⟩:∃s5,s5=s4++[aP.lst ([2,4,2,1,1,8,1,3].map iN)]:=⟨_,rfl⟩
 rw[<-qw]at f6;obtain⟨t,i7,f7⟩:=qx (μ:=μ [qI kind, qS (b? d), some (iN aj), some (iN top), qn, qn]) (s:=s5) (a:=aa nF (aa EU (aa iP (aa iP (aa EU (aa LL (aa iP (aa nF ao)))))))) (mi:=bt) (as:=[3,4,2,2,4,8,2,3]) (f:=iN) (i:=kind) rfl (fun s=>by rw[hμ];rfl) (by decide) qk.1 qk.2;obtain⟨s6,L0⟩:∃s6,s6=s5++[aP.lst ([3,4,2,2,4,8,2,3].map iN)]:=⟨_,rfl⟩
 rw[<-L0]at f7;have x6:Xt s1 s6:=x2.trans ((show Xt s2 s3 by rw[lK];exact Xt.app _).trans ((show Xt s3 s4 by rw[rE];exact Xt.app _).trans ((show Xt s4 s5 by rw[qw];exact Xt.app _).trans (show Xt s5 s6 by rw[L0];exact Xt.app _))));obtain⟨o0,c3,c4⟩:=nP (k:=0) ((x1.trans x6).items h) (by decide) (by decide) hl;obtain⟨s7,L3⟩:∃s7,s7=s6++[aP.lst []]:=⟨_,rfl⟩
 rw[<-L3]at c3;have x7:Xt s1 s7:=x6.trans (by rw[L3];exact Xt.app _);have q0:=g? (m:=25) (by decide) o0;obtain⟨p,ip,f8⟩:=Iw (μ:=μ [qI kind, qS (b? d), some (iN aj), some (iN top), some (iN t), qn]) (s:=s6) (s1:=s6) (s2:=s7) (l:=bf) (mi:=ah cK (aq PM.ba (aa aK (aa bT ao))) (mC (.int 25))) (q:=s.length) (as:=lP) (f:=ak.int) (i:=o0.fmod 25) (by rw[hμ];rfl) (jq (by rw[aC (vs:=[.loc S,.int 0]) (s1:=s6) (by rw[hμ];rfl),c3]) (by decide)) (x7.items hP) q0.1 q0.2;obtain⟨c,_,f9⟩:=qx (μ:=μ [qI kind, qS (b? d), some (iN aj), some (iN top), some (iN t), qI p]) (s:=s7) (a:=aa iP (aa nF (aa nF (aa nF (aa iP (aa iP (aa nF (aa EU ao)))))))) (mi:=bt) (as:=[2,3,3,3,2,2,3,4]) (f:=iN) (i:=kind) rfl (fun s=>by rw[hμ];rfl) (by decide) qk.1 qk.2;obtain⟨s8,EZ⟩:∃s8,s8=s7++[aP.lst ([2,3,3,3,2,2,3,4].map iN)]:=⟨_,rfl⟩
 rw[<-EZ]at f9;obtain⟨p1,p2,p3⟩:=Bz p ip;refine⟨p,d,aj,top,t,c,s8,?_,x1.trans (x7.trans (by rw[EZ];exact Xt.app _)),p1,p2,p3,(show ∀m∈[2,1,2,3,2,1,3,1],1<=m by decide) _ im,(show ∀m∈[2,1,2,3,2,1,3,1],m<=3 by decide) _ im,(show ∀m∈[2,4,2,1,1,8,1,3],m<=8 by decide) _ it,(show ∀m∈[3,4,2,2,4,8,2,3],m<=8 by decide) _ i7⟩;have sx:FT (ak.str (b? d))=false:=rfl;unfold PM.g9;rw[bB (np:=1) (us:=[ak.loc S]) rfl];show(aw (aE 1 _) (aw (aE 2 _) (aw (aE 3 _) (aw (aE 4 _) (aw (aE 5 _) (aw (aE 6 _) (aw (aE 7 _) (aw (aE 8 _) (aO _)))))))) [qL S, qn, qn, qn, qn, qn, qn, qn, qn] s).fin=_;rw[aA,aR (v:=.loc s.length) (s1:=s1) (by rw[eT (vs:=lP.map ak.int) (s1:=s) rfl (by decide),ck]),aB];rw[aA,aR (v:=.int cell) (s1:=s2) (by rw[aC (vs:=[.loc S,.int 1]) (s1:=s1) rfl,c1]),aB];rw[show List.set (List.set [some (ak.loc S),none,none,none,none,none,none,none,none] 1 (some (.loc s.length))) 2 (some (.int cell))=μ [none,none,none,none,none,none] by rw[hμ];rfl];rw[aA,aR f3,aB,show(μ [none,none,none,none,none,none]).set 3 (some (.int kind))=μ [qI kind, qn, qn, qn, qn, qn] by rw[hμ];rfl];rw[aA,aR f4,aB,show(μ [qI kind, qn, qn, qn, qn, qn]).set 4 (some (.str (b? d)))=μ [qI kind, qS (b? d), qn, qn, qn, qn] by rw[hμ];rfl];rw[aA,aR f5,aB,show(μ [qI kind, qS (b? d), qn, qn, qn, qn]).set 5 (some (iN aj))=μ [qI kind, qS (b? d), some (iN aj), qn, qn, qn] by rw[hμ];rfl];rw[aA,aR f6,aB,show(μ [qI kind, qS (b? d), some (iN aj), qn, qn, qn]).set 6 (some (iN top))=μ [qI kind, qS (b? d), some (iN aj), some (iN top), qn, qn] by rw[hμ];rfl];rw[aA,aR f7,aB,show(μ [qI kind, qS (b? d), some (iN aj), some (iN top), qn, qn]).set 7 (some (iN t))=μ [qI kind, qS (b? d), some (iN aj), some (iN top), some (iN t), qn] by rw[hμ];rfl];rw[aA,aR f8,aB,show(μ [qI kind, qS (b? d), some (iN aj), some (iN top), some (iN t), qn]).set 8 (some (.int p))=μ [qI kind, qS (b? d), some (iN aj), some (iN top), some (iN t), qI p] by rw[hμ];rfl];rw[eV (v:=jO p d aj top t c) (s1:=s8) (kE (cZ (v:=.int p) (s1:=s7) (by rw[hμ];rfl) (cZ (v:=.str (b? d)) (s1:=s7) (by rw[hμ];exact kC rfl sx) (cZ (v:=iN aj) (s1:=s7) (by rw[hμ];rfl) (cZ (v:=iN top) (s1:=s7) (by rw[hμ];rfl) (dZ (v:=iN t) (s1:=s7) (by rw[hμ];rfl) f9))))) (by show 6<=1000;decide))];rfl
abbrev Ol:MB:=aw (bA (fQ bU aZ (aa (ah cK aK (ah cb (ah aY bf nF) b!)) ao))) (aE 0 (ah je aK (ah cb (ah aY bf nF) b!)))
section
variable{p:Int}{d:Bool}{aj top t c:Nat}
theorem zY{E:Nat}(ht:top<=8):∀(m:Nat)(us:List ak)(x:Int)(es:List Nat)(s:ae)(y:Option ak),us.length=m->s[E]?=some (.lst (nV es))->(∀e∈es,e<=8)->es.length+m<=100 ->
  ∃(x':Int)(EN:List Nat)(s':ae)(y':Option ak),forL (fun _=>True) (au 3) Ol us [qI x, some (jO p d aj top t c), qL E, y] s=.nx [qI x', some (jO p d aj top t c), qL E, y'] s'/\s'[E]?=some (.lst (nV EN))/\EN.length=es.length+m/\(∀e∈EN,e<=8)/\Xb E s s'
 |0,[],x,es,s,y,_,hE,he,_=>⟨x,es,s,y,by unfold forL;rw[Vo trivial],hE,rfl,he,Vp _,fun _ _ _ e=>e⟩
 |0,u::us,_,_,_,_,h,_,_,_=>by cases h
 |m+1,[],_,_,_,_,h,_,_,_=>by cases h
 |m+1,u::us,x,es,s,y,hu,hE,he,hl=>by
  have q:=g? (m:=(top:Int)+1) (by lia) x;obtain⟨e,hev⟩:∃e:Nat,(e:Int)=x.fmod ((top:Int)+1):=⟨(x.fmod ((top:Int)+1)).toNat,by lia⟩
  obtain⟨s1,ck⟩:∃s1,s1=s.set E (.lst (nV (es++[e]))):=⟨_,rfl⟩
  have t1:∀s',ah cb (ah aY bf nF) b! [qI x, some (jO p d aj top t c), qL E, some u] s'=.ok (.int ((top:Int)+1)) s':=fun s'=>by rw[ax (x:=iN top) (s1:=s') (by rw[ax (x:=jO p d aj top t c) (s1:=s') rfl (y:=.int 3) (s2:=s') rfl];rfl) (y:=.int 1) (s2:=s') rfl];rfl
  have b1:bA (fQ bU aZ (aa (ah cK aK (ah cb (ah aY bf nF) b!)) ao)) [qI x, some (jO p d aj top t c), qL E, some u] s=.nx [qI x, some (jO p d aj top t c), qL E, some u] s1:=by rw[uE (n:=E) (us:=nV es) (v:=.int (e:Int)) (s1:=s) rfl hE (bS (by rw[ax (x:=.int x) (s1:=s) rfl (t1 s),iA (by lia),hev])) hE (by unfold nV;rw[Vi];lia),ck];unfold nV;rw[VT];rfl
  have b2:aE 0 (ah je aK (ah cb (ah aY bf nF) b!)) [qI x, some (jO p d aj top t c), qL E, some u] s1=.nx [qI (x.fdiv ((top:Int)+1)), some (jO p d aj top t c), qL E, some u] s1:=by
   rw[aR (v:=.int (x.fdiv ((top:Int)+1))) (s1:=s1) (by
    rw[ax (x:=.int x) (s1:=s1) rfl (t1 s1)];show(if Dz ((top:Int)+1)then bI.ok (ak.int (x.fdiv ((top:Int)+1))) s1 else .bad)=_;rw[Vo (N! (by lia) (by lia))])]
   rfl
  obtain⟨x',EN,s2,y',f2,h2,l2,k2,xb⟩:=zY ht m us (x.fdiv ((top:Int)+1)) (es++[e]) s1 (some u) (by simpa using hu) (by rw[ck];exact Vz (bz hE)) (fun z hz=>by
   rcases VX.mp hz with hz|hz
   .exact he z hz
   .rw[VI.mp hz];lia) (by rw[Vt];show es.length+1+m<=100;lia)
  refine⟨x',EN,s2,y',?_,h2,by rw[l2];simp only[Vt,Vn,VJ];lia,k2,⟨by have:=xb.1;rw[ck,VU]at this;exact this,fun i c' hi e'=>xb.2 i c' hi (by rw[ck];exact aQ e' (fun z=>hi z.symm))⟩⟩;unfold forL;rw[Vo trivial];show(match Ol [qI x, some (jO p d aj top t c), qL E, some u] s with
   |.nx μ' az=>forL _ _ _ _ μ' az|.ct μ' az=>forL _ _ _ _ μ' az|.bk μ' az=>.nx μ' az|.rt v az=>.rt v az|.er c μ' az=>.er c μ' az|.bad=>.bad)=_
  have b3:Ol [qI x, some (jO p d aj top t c), qL E, some u] s=.nx [qI (x.fdiv ((top:Int)+1)), some (jO p d aj top t c), qL E, some u] s1:=by show aw _ _ _ s=_;rw[aA,b1,aB,b2]
  rw[b3];exact f2
theorem uN{x:Int}{s:ae}(ht:top<=8)(hm:aj<=3)(p2:2<=p)(p3:p<=97):
  ∃(es:List Nat)(k:Int)(s':ae),PM.fA [.int x,jO p d aj top t c] s=.ok (.tup [.tup (nV es),.int k]) s'/\Xt s s'/\es.length=aj/\(∀e∈es,e<=8)/\1<=k/\k<p:=by
 obtain⟨s1,ck⟩:∃s1,s1=s++[aP.lst []]:=⟨_,rfl⟩
 obtain⟨x',es,s2,y,f,h2,l2,k2,xb⟩:=zY (p:=p) (d:=d) (aj:=aj) (t:=t) (c:=c) (E:=s.length) ht aj (d5 0 aj) x [] s1 none (by unfold d5;rw[Vi,W_]) (by rw[ck];exact gA _ _) (fun e m=>by cases m) (by rw[VJ];lia);have q:=g? (m:=p-1) (by lia) x';refine⟨es,1+x'.fmod (p-1),s2,?_,⟨by have:=xb.1;rw[ck,Vt]at this;lia,fun i c' e=>xb.2 i c' (by have:=bz e;lia) (by rw[ck];exact fH e _)⟩,by rw[l2,VJ];lia,k2,by lia,by lia⟩;unfold PM.fA;rw[bB (np:=2) (us:=[ak.int x,jO p d aj top t c]) rfl];show(aw (aE 2 (c9 ao)) (aw (cw _ (au 3) Ol) (aO _)) [qI x, some (jO p d aj top t c), qn, qn] s).fin=_;rw[aA,aR (eT (vs:=[]) (s1:=s) rfl (by decide)),aB,<-ck];show(aw (cw _ (au 3) Ol) (aO _) [qI x, some (jO p d aj top t c), qL s.length, qn] s1).fin=_;rw[aA,dA,jr (j:=(aj:Int)) (s1:=s1) (bS (v:=iN aj) (s1:=s1) (by rw[ax (x:=jO p d aj top t c) (s1:=s1) rfl (y:=.int 2) (s2:=s1) rfl];rfl)) (by lia) (by lia),bh,fh,VR,f,aB];rw[eV (v:=.tup [.tup (nV es),.int (1+x'.fmod (p-1))]) (s1:=s2) (kE (dZ (v:=.tup (nV es)) (s1:=s2) (by rw[aC (bS (v:=.loc s.length) (s1:=s2) rfl)];exact oX (aU h2)) (w:=.int (1+x'.fmod (p-1))) (s2:=s2) (by
  rw[ax (x:=.int 1) (s1:=s2) rfl (y:=.int (x'.fmod (p-1))) (s2:=s2) (by
   rw[ax (x:=.int x') (s1:=s2) rfl (y:=.int (p-1)) (s2:=s2) (by rw[ax (x:=.int p) (s1:=s2) (by rw[ax (x:=jO p d aj top t c) (s1:=s2) rfl (y:=.int 0) (s2:=s2) rfl];rfl) (y:=.int 1) (s2:=s2) rfl];rfl),iA (by lia)])]
  rfl)) (by show 2<=1000;decide))]
 rfl
end
inductive yy:List i_->List i_->Prop
 |nil:yy [] []
 |cons {a b:Nat} {e:List Nat×Int} {as bs:List i_} (h:yy as bs):yy ((a,e)::as) ((b,e)::bs)
theorem yy.len{as bs:List i_}(h:yy as bs):as.length=bs.length:=by
 induction h with
 |nil=>rfl
 |cons _ ih=>rw[Vn,Vn,ih]
theorem yy.good{p:Int}{aj:Nat}{as bs:List i_}(h:yy as bs)(G:GoodR p aj as):GoodR p aj bs:=by
 induction h with
 |nil=>exact fun _ m=>by cases m
 | @cons a b e as bs h ih=>
  intro r m;rcases VH.mp m with rfl|m
  .exact G (a,e) Vm
  .exact ih (fun q hq=>G q (Vk _ hq)) r m
theorem yy.snoc{a b:Nat}{e:List Nat×Int}{as bs:List i_}(h:yy as bs):yy (as++[(a,e)]) (bs++[(b,e)]):=by
 induction h with
 |nil=>exact .cons .nil
 |cons h ih=>exact .cons ih
theorem Hx(r:i_):eO 13 [tN r]=true:=by show(vP 13 (tN r)&&true)=true;show((eO 12 [.tup (nV r.2.1),.int r.2.2])&&true)=true;show((eO 11 (nV r.2.1)&&(true&&true))&&true)=true;rw[e?,nJ];rfl
theorem En{s:ae}{as bs:List i_}(h:yy as bs)(ha:∀r∈as,s[r.1]?=some (.lst [tN r]))(hb:∀r∈bs,s[r.1]?=some (.lst [tN r])):iU (iQ 15 s) (bs.map fun r=>ak.loc r.1) (as.map fun r=>ak.loc r.1)=some true:=by
 induction h with
 |nil=>rfl
 | @cons a b e as bs h ih=>
  rw[Vl,Vl];show(match iQ 15 s (.loc b) (.loc a),iU (iQ 15 s) (bs.map fun r=>ak.loc r.1) (as.map fun r=>ak.loc r.1) with|some a,some b=>some (a&&b)|_,_=>none)=_;rw[ih (fun r m=>ha r (Vk _ m)) fun r m=>hb r (Vk _ m)];have e1:iQ 15 s (.loc b) (.loc a)=some true:=by unfold iQ;simp only[vw,aU (ha _ Vm),aU (hb _ Vm)];exact jC s 13 _ (Hx (a,e))
  rw[e1];rfl
theorem uO{R:Nat}{us:List ak}:∀(rows:List i_)(s:ae)(as bs:List i_)(x:Option ak),ai s R=some us->(∀r∈rows,s[r.1]?=some (.lst [tN r]))->yy as bs->(∀r∈bs,s[r.1]?=some (.lst [tN r])) ->
    ∃(LN:List i_)(s':ae),aW (fun az=>ai az R=some us) (au 0) aJ (aq pE (aa aK ao)) (rows.map fun r=>ak.loc r.1) [x] s (bs.map fun r=>ak.loc r.1)=.ok (LN.map fun r=>ak.loc r.1) s'/\yy (as++rows) LN/\Xt s s'/\∀r∈LN,s'[r.1]?=some (.lst [tN r])
  |[],s,as,bs,x,hR,_,hS,hb=>⟨bs,s,by show aW _ _ _ _ [] _ s _=_;rw[b8 (g:=fun az=>ai az R=some us) hR],by rw[VL];exact hS,Xt.refl,hb⟩
  |r::rows,s,as,bs,x,hR,hr,hS,hb=>by
    obtain⟨a,e⟩:=r;have h0:=hr (a,e) Vm;obtain⟨s1,ck⟩:∃s1,s1=s++[aP.lst [tN (a,e)]]:=⟨_,rfl⟩
    have x1:Xt s s1:=by rw[ck];exact Xt.app _
    obtain⟨LN,s2,e2,S2,x2,b2⟩:=uO rows s1 (as++[(a,e)]) (bs++[(s.length,e)]) (some (.loc a)) (x1.items hR) (fun q m=>x1.2 _ _ (hr q (Vk _ m))) hS.snoc (fun q m=>by
      rcases VX.mp m with m|m
      · exact x1.2 _ _ (hb q m)
      · rw[VI.mp m,ck];exact gA _ _)
    refine⟨LN,s2,?_,by rw[VM]at S2;exact S2,x1.trans x2,b2⟩;rw[Vl,cE (g:=fun az=>ai az R=some us) hR (show au 0 (.loc a) [x]=some [some (.loc a)]from rfl) (show aq pE (aa aK ao) [some (.loc a)] s=.ok (.loc s.length) s1 by
      rw[aC (bS (v:=.loc a) (s1:=s) rfl)];unfold pE;dsimp only;rw[aU h0,ck])]
    have:(bs.map fun r=>ak.loc r.1)++[.loc s.length]=(bs++[(s.length,e)]).map fun r=>ak.loc r.1:=by rw[VT];rfl
    rw[this];exact e2
end Hv
namespace PG
open PySem.Spec L2 MN
open PyProof.Rows hiding St kindOf
structure Jb where
 x:Mo
 z:Nat
 ts:List Tm
 rs:List Tm
def Hy(b:Bool)(aj w:Nat)(p:Int)(s:ae)(j:Jb):Prop:=uK s b w p j.x/\ei s j.z=some (j.ts.map (dU b w))/\(∀t∈j.ts,jK aj t.1)/\(j.ts.map fun t=>bj b w t.1).Nodup/\j.rs.Perm (j.ts.map (kH p j.x.bk))/\SO.cB (j.rs.map fun t=>iE t.1)/\j.ts.length<64
structure Xq(S:Nat)(s s':ae):Prop where
 len:s.length<=s'.length
 at_:∀(n:Nat)(c:aP),n≠S->Oe c->s[n]?=some c->s'[n]?=some c
 dk:∀z l,ei s z=some l->ei s' z=some l
theorem Xr.q{S:Nat}{s s':ae}(x:Xr s s'):Xq S s s':=⟨x.n.len,fun n c _ h e=>x.n.at_ n c h e,x.dk⟩
theorem Xq.trans{S:Nat}{s s1 s2:ae}(a:Xq S s s1)(b:Xq S s1 s2):Xq S s s2:=⟨VZ a.len b.len,fun n c k h e=>b.at_ n c k h (a.at_ n c k h e),fun z l h=>b.dk z l (a.dk z l h)⟩
theorem Xq.set{S:Nat}{s:ae}{us:List ak}{c:aP}(h:s[S]?=some (.lst us)):Xq S s (s.set S c):=⟨by rw[VU];exact Vp _,fun n d k _ e=>aQ e (fun z=>k z.symm),fun z l hz=>by
 have ne:S≠z:=fun y=>by rw[<-y]at hz;rcases lO hz with q|q<;>(rw[h]at q;cases q)
 rcases lO hz with q|q
 .exact jN (aQ q ne)
 .exact o_ (aQ q ne)⟩
abbrev Eo:MB:=bA (fQ bU c6 (aa (dj "Packing" "sum_of_terms" PM.aS bf (aa (aq PM.bo (aa aK (aa fP (aa (bp ["Monic"] "back" cY) ao)))) ao)) ao))
def wV(l:List (Nat×List Tm)):List ak:=l.map fun x=>ak.loc x.1
def Told(s:ae)(S:Nat)(W:List (Nat×List Tm)):Prop:=s[S]?=some (.lst (wV W))/\∀x∈W,S<x.1/\s[x.1]?=some (.lst (x.2.map tM))
section
variable{b:Bool}{aj v g n M Q S:Nat}{p:Int}
theorem Ep{s:ae}{j:Jb}{W:List (Nat×List Tm)}(hp:0<p)(p2:p<2 ^ 20)(hv:v<63)(v1:22<=v)(hm:aj<=8)(m1:1<=aj)(P:Pk s n b aj (v+1) g)(J:Hy b aj (v+1) p s j)(hS:Told s S W)(hl:W.length<=1000):
  ∃(u:Nat)(s':ae),Eo [qI p, qL n, qL M, qL Q, qL S, qL j.x.m, qL j.z] s=.nx [qI p, qL n, qL M, qL Q, qL S, qL j.x.m, qL j.z] s'/\Xq S s s'/\Told s' S (W++[(u,j.rs)]):=by
 obtain⟨μ,hμ⟩:∃μ:MN.Env,μ=[qI p, qL n, qL M, qL Q, qL S, qL j.x.m, qL j.z]:=⟨_,rfl⟩
 obtain⟨⟨m2,m3,m4,m5,m6⟩,j2,j3,j4,j5,j6,j7⟩:=J;obtain⟨d,s1,e1,d1,x1⟩:=uM (bk:=j.x.bk) hp (by lia) (by lia) j2 j4 (by lia);obtain⟨u,s2,e2,u2,x2,l2⟩:=wt (ts:=j.ts.map (kH p j.x.bk)) (rs:=j.rs) hv v1 hm m1 (x1.n.at_ _ _ trivial P) (jN d1) (fun t mt=>by
  obtain⟨q,mq,rfl⟩:=VG.mp mt;exact j3 q mq) (by rw[Vi];exact j7) j5 j6
 have vc:=x1.trans x2;have ar:aa (dj "Packing" "sum_of_terms" PM.aS bf (aa (aq PM.bo (aa aK (aa fP (aa (bp ["Monic"] "back" cY) ao)))) ao)) ao μ s=.ok [.loc u] s2:=by
  refine bS ?_;rw[jI (n:=n) (s1:=s) (us:=[.loc d]) (s2:=s1) (by rw[hμ];rfl) P (by rfl) (bS (by
   rw[aC (vs:=[.int p,.loc j.z,.int j.x.bk]) (s1:=s) (cZ (s1:=s) (by rw[hμ];rfl) (dZ (s1:=s) (by rw[hμ];rfl) (eU (n:=j.x.m) (s1:=s) (by rw[hμ];rfl) m2 (by rfl)))),e1])),e2]
 have S2:=vc.n.at_ S (.lst (wV W)) trivial hS.1;refine⟨u,s2.set S (.lst (wV W++[.loc u])),?_,vc.q.trans (Xq.set S2),?_,fun y hy=>?_⟩
 .rw[<-hμ];exact uE (n:=S) (us:=wV W) (by rw[hμ];rfl) hS.1 ar S2 (by unfold wV;rw[Vi];lia)
 .rw[Vz (bz S2)];unfold wV;rw[VT];rfl
 .have lS:=bz hS.1;have:=x1.n.len;rcases VX.mp hy with hy|hy
  .obtain⟨h1,h2⟩:=hS.2 y hy;exact⟨h1,aQ (vc.n.at_ _ _ trivial h2) (by lia)⟩
  .rw[VI.mp hy];exact⟨by show S<u;lia,aQ u2 (by show S≠u;lia)⟩
theorem wu{A B:List ak}(hp:0<p)(p2:p<2 ^ 20)(hv:v<63)(v1:22<=v)(hm:aj<=8)(m1:1<=aj)(TV:M≠S)(TX:Q≠S):∀(js:List Jb)(s:ae)(W:List (Nat×List Tm))(y5 y6:Option ak),ai s M=some A->ai s Q=some B->Pk s n b aj (v+1) g->(∀j∈js,Hy b aj (v+1) p s j/\j.x.l≠S)->Told s S W->W.length+js.length<=1000 ->
  ∃(W':List (Nat×List Tm))(s':ae)(Oc RG:Option ak),forL (fun st2=>ai st2 M=some A/\ai st2 Q=some B) (cW [au 5,au 6]) Eo (js.map fun j=>ak.tup [.loc j.x.m,.loc j.z]) [qI p, qL n, qL M, qL Q, qL S, y5, y6] s=.nx [qI p, qL n, qL M, qL Q, qL S, Oc, RG] s'/\Xq S s s'/\Told s' S (W++W')/\W'.map (·.2)=js.map (·.rs)
 |[],s,W,y5,y6,hA,hB,_,_,hN,_=>⟨[],s,y5,y6,by show forL _ _ _ [] _ s=_;unfold forL;rw[Vo ⟨hA,hB⟩],Xr.refl.q,by rw[VL];exact hN,rfl⟩
 |j::js,s,W,y5,y6,hA,hB,P,hj,hN,hl=>by
  rw[Vn]at hl;obtain⟨h1,h2⟩:=hj j Vm;obtain⟨u,s1,e1,x1,n1⟩:=Ep (M:=M) (Q:=Q) hp p2 hv v1 hm m1 P h1 hN (by lia);have cS:∀{i:Nat}{c:aP},s[i]?=some c->(∀us,c≠.lst us)->i≠S:=fun{i c}e ne z=>by rw[z,hN.1]at e;exact ne _ (VO e).symm
  have it:∀{i:Nat}{us:List ak},i≠S->ai s i=some us->ai s1 i=some us:=fun{i us}ne h=>by obtain⟨c,g1,g2,g3⟩:=lL h;exact g3 s1 (x1.at_ _ _ ne g2 g1)
  obtain⟨W',s2,Oc,RG,e2,x2,n2,l2⟩:=wu hp p2 hv v1 hm m1 TV TX js s1 (W++[(u,j.rs)]) (some (.loc j.x.m)) (some (.loc j.z)) (it TV hA) (it TX hB) (x1.at_ _ _ (cS P fun _ z=>by cases z) trivial P) (fun k mk=>by
   obtain⟨⟨⟨a1,a2,a3⟩,a4,a5⟩,a6⟩:=hj k (Vk _ mk);exact⟨⟨⟨x1.at_ _ _ (cS a1 fun _ z=>by cases z) trivial a1,x1.at_ _ _ a6 trivial a2,a3⟩,x1.dk _ _ a4,a5⟩,a6⟩) n1 (by rw[Vt];show W.length+1+js.length<=1000;lia)
  rw[VM]at n2;refine⟨(u,j.rs)::W',s2,Oc,RG,?_,x1.trans x2,n2,by rw[Vl,Vl,l2]⟩;rw[Vl];unfold forL;rw[Vo ⟨hA,hB⟩];show(match Eo [qI p, qL n, qL M, qL Q, qL S, qL j.x.m, qL j.z] s with
   |.nx μ' az=>forL _ _ _ _ μ' az|.ct μ' az=>forL _ _ _ _ μ' az|.bk μ' az=>.nx μ' az|.rt v az=>.rt v az|.er c μ' az=>.er c μ' az|.bad=>.bad)=_
  rw[e1];exact e2
end
theorem zZ:∀(js:List Jb),jR (js.map fun j=>ak.loc j.x.m) (js.map fun j=>ak.loc j.z)=js.map fun j=>ak.tup [.loc j.x.m,.loc j.z]
 |[]=>rfl
 |j::js=>by show ak.tup [.loc j.x.m,.loc j.z]::jR (js.map fun j=>ak.loc j.x.m) (js.map fun j=>ak.loc j.z)=_;rw[zZ js];rfl
theorem z0{s:ae}{a b:Nat}{us vs:List ak}(ha:s[a]?=some (.lst us))(hb:s[b]?=some (.lst vs))(hl:us.length+vs.length<=1000):cb (.loc a) (.loc b) s=.ok (.loc s.length) (s++[.lst (us++vs)]):=by show(match s[a]?,s[b]? with|some (.lst us),some (.lst ws)=>if us.length+ws.length<=sizeLine then bI.ok (ak.loc s.length) (s++[aP.lst (us++ws)])else .bad|_,_=>.bad)=_;rw[ha,hb];dsimp only;rw[Vo (by rw[VQ];lia)]
section
variable{b:Bool}{aj v g n M Q:Nat}{p:Int}
theorem Er{s:ae}{js:List Jb}(hp:0<p)(p2:p<2 ^ 20)(hv:v<63)(v1:22<=v)(hm:aj<=8)(m1:1<=aj)(P:Pk s n b aj (v+1) g)(hM:ai s M=some (js.map fun j=>ak.loc j.x.m))(hQ:ai s Q=some (js.map fun j=>ak.loc j.z))(hj:∀j∈js,Hy b aj (v+1) p s j)(hl:js.length<=1000):
  ∃(S:Nat)(W:List (Nat×List Tm))(s':ae),PM.bX [.int p,.loc n,.loc M,.loc Q] s=.ok (.loc S) s'/\Xr s s'/\s.length<=S/\Told s' S W/\W.map (·.2)=js.map (·.rs):=by
 obtain⟨S,hS⟩:∃S,S=s.length:=⟨_,rfl⟩
 obtain⟨s1,ck⟩:∃s1,s1=s++[aP.lst []]:=⟨_,rfl⟩
 have x1:Xt s s1:=by rw[ck];exact Xt.app _
 have lM:=qq hM;have lQ:=qq hQ;obtain⟨W,s2,y5,y6,e2,x2,n2,l2⟩:=wu (S:=S) (A:=js.map fun j=>ak.loc j.x.m) (B:=js.map fun j=>ak.loc j.z) (n:=n) (M:=M) (Q:=Q) hp p2 hv v1 hm m1 (by lia) (by lia) js s1 [] none none (x1.items hM) (x1.items hQ) (x1.2 _ _ P) (fun j mj=>by
  obtain⟨a1,a2,a3⟩:=hj j mj;exact⟨⟨a1.to x1.n,x1.r.dk _ _ a2,a3⟩,by have:=bz a1.2.1;lia⟩) ⟨by rw[ck,hS];exact gA _ _,fun x m=>by cases m⟩ (by rw[VJ];lia)
 refine⟨S,W,s2,?_,⟨⟨VZ x1.1 x2.len,fun i c h e=>x2.at_ i c (by have:=bz e;lia) h (x1.2 i c e)⟩,fun z l h=>x2.dk z l (x1.r.dk z l h)⟩,by lia,n2,l2⟩;unfold PM.bX;rw[bB (np:=4) (us:=[ak.int p,.loc n,.loc M,.loc Q]) rfl];show(aw (aE 4 (c9 ao)) (aw (cw _ _ Eo) (aO c6)) [qI p, qL n, qL M, qL Q, qn, qn, qn] s).fin=_;rw[aA,aR (eT (vs:=[]) (s1:=s) rfl (by decide)),aB,<-ck,<-hS];show(aw (cw _ _ Eo) (aO c6) [qI p, qL n, qL M, qL Q, qL S, qn, qn] s1).fin=_;rw[aA,dA,Dr,dZ (v:=.loc M) (s1:=s1) rfl (w:=.loc Q) (s2:=s1) rfl,av,Kz (x1.items hM) (x1.items hQ),bh,fh,zZ,e2,aB];rfl
end
theorem z9{M:Nat}{us:List ak}:∀(vs:List ak)(s:ae)(zs:List Nat)(x:Option ak),ai s M=some us ->
  ∃s',aW (fun az=>ai az M=some us) (au 0) aJ gh vs [x] s (lV zs)=.ok (lV (zs++List.range' s.length vs.length)) s'/\Xt s s'/\∀z∈List.range' s.length vs.length,s'[z]?=some (.dK [])
 |[],s,zs,x,h=>⟨s,by rw[b8 (g:=fun az=>ai az M=some us) h];simp,Xt.refl,fun z m=>by simp at m⟩
 |v::vs,s,zs,x,h=>by
  obtain⟨s1,ck⟩:∃s1,s1=s++[aP.dK []]:=⟨_,rfl⟩
  have x1:Xt s s1:=by rw[ck];exact Xt.app _
  have l1:s1.length=s.length+1:=by rw[ck,Vt];rfl
  obtain⟨s2,e2,x2,z2⟩:=z9 vs s1 (zs++[s.length]) (some v) (x1.items h);rw[l1]at e2 z2;have er:List.range' s.length (v::vs).length=s.length::List.range' (s.length+1) vs.length:=by rw[Vn,WK]
  rw[er];refine⟨s2,?_,x1.trans x2,fun z m=>?_⟩
  .rw[cE (g:=fun az=>ai az M=some us) h (show au 0 v [x]=some [some v]from rfl) (show gh [some v] s=.ok (.loc s.length) s1 by rw[ck];rfl)];have:lV zs++[.loc s.length]=lV (zs++[s.length]):=by unfold lV;rw[VT];rfl
   rw[this,e2,VM];rfl
  .rcases VH.mp m with rfl|m
   .exact x2.2 _ _ (by rw[ck];exact gA _ _)
   .exact z2 z m
theorem uP:∀{a c f:List Nat},a.length=f.length->c.length=f.length->dvd f a=true->dvd f c=true->SO.lexLt (iE (fS a f)) (iE (fS c f))=SO.lexLt (iE a) (iE c)
 |[],[],[],_,_,_,_=>rfl
 |[],_::_,_,h1,h2,_,_=>by rw[<-h1]at h2;cases h2
 |_::_,[],_,h1,h2,_,_=>by rw[<-h2]at h1;cases h1
 |x::a,y::c,z::f,h1,h2,d1,d2=>by
  have TY:(decide (z<=x)&&dvd f a)=true:=d1;have TZ:(decide (z<=y)&&dvd f c)=true:=d2;rw[WL,V!]at TY TZ;have ih:=uP (Ww h1) (Ww h2) TY.2 TZ.2;show(if((x-z:Nat):Int)=((y-z:Nat):Int)then SO.lexLt (iE (fS a f)) (iE (fS c f))else decide (((x-z:Nat):Int)<((y-z:Nat):Int)))=if(x:Int)=(y:Int)then SO.lexLt (iE a) (iE c)else decide ((x:Int)<(y:Int))
  rw[ih];by_cases e:(x:Int)=(y:Int)
  .rw[Vo e,Vo (by lia)]
  .rw[Vv e,Vv (by lia)];rw[XJ];lia
def dm(row:List Tm)(fs:List (List Nat))(i:Nat):List Tm:=row.filter fun t=>decide (eY t.1 0 fs=some i)
def dF(row:List Tm)(fs:List (List Nat)):List Tm:=row.filter fun t=>(eY t.1 0 fs).isNone
def rN(f:List Nat)(t:Tm):Tm:=(fS t.1 f,t.2)
def oz(p:Int)(row:List Tm)(fs:List (List Nat)):Nat->List Mo->List (List Tm)
 |_,[]=>[]
 |i,x::mo=>((dm row fs i).map (rN x.t.1)).map (kH p x.bk)::oz p row fs (i+1) mo
theorem Om{b:Bool}{w:Nat}{f:List Nat}(l:List Tm):l.map (Ll b w f)=(l.map (rN f)).map (dU b w):=by rw[VE];rfl
section
variable{b:Bool}{aj v:Nat}{p:Int}{row:List Tm}{fs:List (List Nat)}{q:Nat->List Tm}{R:List Tm}
theorem hV{i:Nat}{f:List Nat}(hf:fs[i]?=some f){t:Tm}(m:t∈dm row fs i):t∈row/\dvd f t.1=true:=by unfold dm at m;rw[Wi,V!]at m;obtain⟨_,g,g1,g2⟩:=fW fs 0 m.2;rw[Yt,hf]at g1;cases g1;exact⟨m.1,g2⟩
theorem z_{s:ae}(hv:39<=v)(hm:aj<=8)(fr:∀t∈row,jK aj t.1)(hf:SO.cB (row.map fun t=>iE t.1))(nd:row.Nodup)(hl:row.length<64)(I:LI row fs [] R q):∀(mo:List Mo)(zs:List Nat)(i:Nat),zs.length=mo.length->(∀j x,mo[j]?=some x->fs[i+j]?=some x.t.1/\jK aj x.t.1)->(∀x∈mo,uK s b (v+1) p x) ->
  (∀j z,zs[j]?=some z->∃f,fs[i+j]?=some f/\ei s z=some ((q (i+j)).map (Ll b (v+1) f))) ->
  ∃js:List Jb,js.map (·.x)=mo/\js.map (·.z)=zs/\js.map (·.rs)=oz p row fs i mo/\∀j∈js,Hy b aj (v+1) p s j
 |[],[],i,_,_,_,_=>⟨[],rfl,rfl,rfl,fun j m=>by cases m⟩
 |x::mo,z::zs,i,hz,hx,ha,hq=>by
  obtain⟨js,j1,j2,j3,j4⟩:=z_ hv hm fr hf nd hl I mo zs (i+1) (Ww hz) (fun j y e=>by
   have:=hx (j+1) y (by rw[XR];exact e);rw[show i+1+j=i+(j+1) by lia];exact this) (fun y my=>ha y (Vk _ my)) (fun j y e=>by
   have:=hq (j+1) y (by rw[XR];exact e);rw[show i+1+j=i+(j+1) by lia];exact this)
  obtain⟨f1,ff⟩:=hx 0 x rfl;rw[WZ]at f1;obtain⟨f,g1,g2⟩:=hq 0 z rfl;rw[WZ]at g1 g2;rw[f1]at g1;cases g1;obtain⟨f,ef⟩:∃f,f=x.t.1:=⟨_,rfl⟩
  rw[<-ef]at f1 ff g2;have pq:=I.quot nd i;have mq:∀{t:Tm},t∈q i->t∈row/\dvd f t.1=true:=fun{t}mt=>hV f1 (pq.mem_iff.mp mt);have ft:∀t∈(q i).map (rN f),jK aj t.1:=fun t mt=>by obtain⟨u,mu,rfl⟩:=VG.mp mt;exact jM (fr u (mq mu).1) ff
  have U:∀u∈row,∀y∈row,u.1=y.1->u=y:=fun u mu y my e=>by
   have h2:(row.map (·.1)).Nodup:=by
    have h3:=fq hf;have e3:(row.map fun t=>iE t.1)=(row.map (·.1)).map iE:=by rw[VE];rfl
    rw[e3]at h3;exact Yo iE (fun a c z e=>z (by rw[e])) h3
   obtain⟨i1,l1,e1⟩:=Yi mu;obtain⟨i2,l2,e2⟩:=Yi my;have h4:=WB.mp h2;rcases Ya i1 i2 with z|z|z
   .exact absurd (by rw[Wy,Wy,e1,e2,e]) (h4 i1 i2 (by rw[Vi];exact l1) (by rw[Vi];exact l2) z)
   .subst z;rw[<-e1,<-e2]
   .exact absurd (by rw[Wy,Wy,e1,e2,e]) (h4 i2 i1 (by rw[Vi];exact l2) (by rw[Vi];exact l1) z)
  refine⟨⟨x,z,(q i).map (rN f),((dm row fs i).map (rN f)).map (kH p x.bk)⟩::js,by rw[Vl,j1],by rw[Vl,j2],by rw[Vl,j3,ef];rfl,fun j mj=>?_⟩;rcases VH.mp mj with rfl|mj
  .refine⟨ha x Vm,by rw[g2,Om];rfl,ft,?_,(pq.symm.map _).map _,?_,?_⟩
   .rw[VE];refine V8.mpr (W3 (fun{a c}m1 m2 ne e=>ne ?_) (I.Og i));have e3:=jL (jM (fr a (mq m1).1) ff) (jM (fr c (mq m2).1) ff) hm (by lia) e;refine U a (mq m1).1 c (mq m2).1 ?_;rw[<-iJ (by rw[(fr a (mq m1).1).1,ff.1]) (mq m1).2,<-iJ (e:=c.1) (by rw[(fr c (mq m2).1).1,ff.1]) (mq m2).2,e3]
   .unfold SO.cB at hf⊢;rw[VE,VE,V8];have h5:(dm row fs i).Pairwise fun a c=>SO.lexLt (iE c.1) (iE a.1)=true:=(V8.mp hf).filter _;refine W3 (fun{a c}m1 m2 h=>?_) h5;have a1:=hV f1 m1;have c1:=hV f1 m2;show SO.lexLt (iE (fS c.1 f)) (iE (fS a.1 f))=true;rw[uP (by rw[(fr c c1.1).1,ff.1]) (by rw[(fr a a1.1).1,ff.1]) c1.2 a1.2];exact h
   .show((q i).map (rN f)).length<64;have:=pq.length_eq;have l3:(dm row fs i).length<=row.length:=Wr _ _;unfold dm at l3;rw[Vi];lia
  .exact j4 j mj
end
def Iy(p:Int)(row:List Tm)(rows:List i_)(s s':ae)(S T:Nat):Prop:=
 ∃(W:List (Nat×List Tm))(mo:List Mo),Xn s s'/\Told s' S W/\s'[T]?=some (.lst ((dF row (mo.map (·.t.1))).map tM))/\mo.map (·.t)=rows.map (·.2)/\(∀x∈mo,0<x.bk/\x.bk<p/\x.bk*x.t.2 % p=1)/\W.map (·.2)=oz p row (mo.map (·.t.1)) 0 mo/\s.length<=S/\s.length<=T
theorem rO{s:ae}{R q0 aj:Nat}{rows:List i_}{row:List Tm}{p:Int}{d:Bool}(hp:qe p=true)(hR:s[R]?=some (.lst (rows.map fun r=>ak.loc r.1)))(hr:∀r∈rows,s[r.1]?=some (.lst [tN r]))(G:GoodR p aj rows)(hq:s[q0]?=some (.lst (row.map tM)))(fr:∀t∈row,jK aj t.1)(hf:SO.cB (row.map fun t=>iE t.1))(hl:row.length<=60)(GY:rows.length<=100)(m1:1<=aj)(hm:aj<=8):
  ∃(S T:Nat)(s':ae),PM.gy [.int p,.str (b? d),.loc q0,.loc R] s=.ok (.tup [.loc S,.loc T]) s'/\Iy p row rows s s' S T:=by
 obtain⟨pr1,pr2⟩:=jH hp;have RH:(row.map (·.1)).Nodup:=by
  have h3:=fq hf;have e3:(row.map fun t=>iE t.1)=(row.map (·.1)).map iE:=by rw[VE];rfl
  rw[e3]at h3;exact Yo iE (fun a c z e=>z (by rw[e])) h3
 have Pd:row.Nodup:=Yo (·.1) (fun a c z e=>z (by rw[e])) RH;obtain⟨s1,ck⟩:∃s1,s1=s++[aP.lst [.loc q0]]:=⟨_,rfl⟩
 obtain⟨s2,cL⟩:∃s2,s2=s1++[aP.lst ([.loc q0]++rows.map fun r=>ak.loc r.1)]:=⟨_,rfl⟩
 have x1:Xt s s1:=by rw[ck];exact Xt.app _
 have x2:Xt s s2:=x1.trans (by rw[cL];exact Xt.app _);obtain⟨rg,RI⟩:∃rg:List (Nat×List Tm),rg=(q0,row)::rows.map fun r=>(r.1,[r.2]):=⟨_,rfl⟩
 have fm:rg.flatMap (·.2)=row++rows.map (·.2):=by
  have z:∀l:List i_,(l.flatMap fun a=>[a.2])=l.map (·.2):=by
   intro l
   induction l with
   |nil=>rfl
   |cons r l ih=>rw[Xx,ih];rfl
  rw[RI,Xx,List.flatMap_map];congr 1;exact z rows
 have hg:zQ s2 s1.length rg:=by
  refine⟨?_,fun r mr=>?_⟩
  .rw[cL,RI,bx,Vl,VE];rfl
  .rw[RI]at mr;rcases VH.mp mr with rfl|mr
   .exact x2.2 _ _ hq
   .obtain⟨r',m',rfl⟩:=VG.mp mr;exact x2.2 _ _ (hr r' m')
 obtain⟨n,cC,v,s3,e3,x3,P3,ln,v1,v2,mm,em⟩:=oy (d:=d) hg (aj:=aj) (fun t mt=>by
  rw[fm]at mt;rcases VX.mp mt with mt|mt
  .exact fr t mt
  .obtain⟨r,mr,rfl⟩:=VG.mp mt;exact⟨(G r mr).1,(G r mr).2.1⟩) m1 hm (by rw[fm,Vt,Vi];lia)
 have T1:1<=cC:=by rcases em with e|e<;>lia
 have er:∀t∈row,cC=aj:=fun t mt=>by
  rcases em with e|⟨_,e⟩
  .exact e
  .rw[fm]at e;rw[(List.append_eq_nil_iff.mp e).1]at mt;cases mt
 have es:∀r∈rows,cC=aj:=fun r mr=>by
  rcases em with e|⟨_,e⟩
  .exact e
  .rw[fm]at e;rw[XN.mp (List.append_eq_nil_iff.mp e).2]at mr;cases mr
 have L4:∀t∈row,jK cC t.1:=fun t mt=>by rw[er t mt];exact fr t mt
 have G':GoodR p cC rows:=fun r mr=>by rw[es r mr];exact G r mr
 have R3:=aU (x3.2 _ _ (x2.2 _ _ hR));obtain⟨mo,s4,e4,t4,x4,a4⟩:=wk (us:=rows.map fun r=>ak.loc r.1) (w:=v+1) hp (by lia) mm rows s3 [] none R3 P3 (fun r mr=>x3.2 _ _ (x2.2 _ _ (hr r mr))) G' (fun m q=>by cases q);rw[V1]at e4 a4;obtain⟨s5,qw⟩:∃s5,s5=s4++[aP.lst (EW mo)]:=⟨_,rfl⟩
 have x5:Xt s4 s5:=by rw[qw];exact Xt.app _
 have R5:=x5.items (x4.items R3);obtain⟨s6,e6,x6,z6⟩:=z9 (us:=rows.map fun r=>ak.loc r.1) (rows.map fun r=>ak.loc r.1) s5 [] none R5;obtain⟨zs,Pe⟩:∃zs,zs=List.range' s5.length (rows.map fun r=>ak.loc r.1).length:=⟨_,rfl⟩
 rw[<-Pe,V1]at e6;rw[<-Pe]at z6;obtain⟨s7,L3⟩:∃s7,s7=s6++[aP.lst (lV zs)]:=⟨_,rfl⟩
 have x7:Xt s6 s7:=by rw[L3];exact Xt.app _
 have T2:=x6.trans x7;have T3:=x5.trans T2;have RJ:=x4.trans T3;have P7:=RJ.2 _ _ P3;have q7:s7[q0]?=some (.lst (row.map tM)):=RJ.2 _ _ (x3.2 _ _ (x2.2 _ _ hq));have kn:(row.map fun t=>bj d (v+1) t.1).Nodup:=by refine V8.mpr (W3 (fun{a c}ma mc ne e=>ne ?_) (V8.mp RH));exact jL (L4 a ma) (L4 c mc) mm (by lia) e
 have e8:=lN (ts:=row) P7 (by lia) q7 (fun t mt=>⟨fun e me=>by have:=(fr t mt).2 e me;lia,by rw[(L4 t mt).1];exact mm⟩) kn (by lia);obtain⟨s8,EZ⟩:∃s8,s8=s7++[aP.lst (row.map (rH d (v+1))),.dK (row.map (dU d (v+1)))]:=⟨_,rfl⟩
 rw[<-EZ]at e8;have x8:Xt s7 s8:=by rw[EZ];exact Xt.app _
 have x48:=T3.trans x8;have T4:mo.length=rows.length:=by have:=We List.length t4;rw[Vi,Vi]at this;exact this
 have ff:∀x∈mo,jK cC x.t.1:=fun x mx=>by
  have:x.t∈rows.map (·.2):=by rw[<-t4];exact W? mx
  obtain⟨r,mr,e⟩:=VG.mp this;rw[<-e];exact⟨(G' r mr).1,(G' r mr).2.1⟩
 have T5:zs.length=mo.length:=by rw[Pe,Xu,Vi,T4]
 have St:Iu s8 s4.length s6.length mo zs d (v+1) p:=⟨(T2.trans x8).items (aU (by rw[qw];exact gA _ _)),fun x mx=>(a4 x mx).to x48.n,x8.items (aU (by rw[L3];exact gA _ _)),T5⟩
 have nz:zs.Nodup:=by rw[Pe];exact List.nodup_range'
 have D8:s8[s7.length+1]?=some (.dK (row.map (dU d (v+1)))):=by rw[EZ,Vy (by lia),show s7.length+1-s7.length=1 by lia];rfl
 obtain⟨s9,Rs,Rl,q,e9,r9,I,x9,nR,q9⟩:=Ej (p:=p) (M:=s4.length) (Q:=s6.length) (zs:=zs) (D:=s7.length+1) v1 mm L4 ff RH nz (by lia) St D8 (fun z mz=>(x7.trans x8).2 _ _ (z6 z mz)) rfl;obtain⟨fs,qY⟩:∃fs,fs=mo.map (·.t.1):=⟨_,rfl⟩
 rw[<-qY]at I q9;have Pf:=St.to x9;obtain⟨js,j1,j2,j3,j4⟩:=z_ (s:=s9) (p:=p) (b:=d) v1 mm L4 hf Pd (by lia) I mo zs 0 T5 (fun j x e=>⟨by rw[Wb,qY,VB,e];rfl,ff x (Wf e)⟩) Pf.at_ (fun j z e=>by
  obtain⟨f,g1,g2⟩:=q9 j z e;rw[Wb];exact⟨f,g1,jN g2⟩)
 have P9:Pk s9 n d cC (v+1) (GK.dig (v+1) (List.replicate cC (2 ^ v))):=x9.at_ _ (.ins "Packing" _) trivial (x8.2 _ _ P7);have lj:js.length=mo.length:=by rw[<-j1,Vi]
 have hM9:ai s9 s4.length=some (js.map fun j=>ak.loc j.x.m):=by rw[Pf.mon,<-j1];unfold EW;rw[VE];rfl
 have hQ9:ai s9 s6.length=some (js.map fun j=>ak.loc j.z):=by rw[Pf.Iv,<-j2];unfold lV;rw[VE];rfl
 obtain⟨S,W,kj,RK,BA,lS,RL,w10⟩:=Er (p:=p) (n:=n) (M:=s4.length) (Q:=s6.length) (js:=js) (by lia) (by lia) v2 (by lia) mm T1 P9 hM9 hQ9 j4 (by lia);have pn:=I.rest Pd;obtain⟨T,L6,RM,T11,Es,lT⟩:=wt (n:=n) (d:=Rs) (b:=d) (ts:=Rl) (rs:=dF row fs) (s:=kj) v2 (by lia) mm T1 (BA.n.at_ _ _ trivial P9) (BA.dk _ _ (jN r9)) (fun t mt=>L4 t (I.inR t mt).1) (by have:=pn.length_eq;have:=Wr (fun t:Tm=>(eY t.1 0 fs).isNone) row;lia) pn.symm (by
  unfold SO.cB at hf⊢;exact V8.mpr ((V8.mp hf).filter _))
 have xA:Xn s s9:=(x2.trans (x3.trans (RJ.trans x8))).n.trans x9;refine⟨S,T,L6,?_,W,mo,xA.trans (BA.n.trans Es.n),⟨Es.n.at_ _ _ trivial RL.1,fun x mx=>⟨(RL.2 x mx).1,Es.n.at_ _ _ trivial (RL.2 x mx).2⟩⟩,by rw[<-qY];exact T11,t4,fun x mx=>(Pf.at_ x mx).2.2,by rw[w10,j3,qY],by have:=xA.len;lia,by have:=xA.len;have:=BA.n.len;lia⟩;obtain⟨o,ho⟩:∃o:ak,o=.str (b? d):=⟨_,rfl⟩
 have ox:FT o=false:=by rw[ho];rfl
 rw[<-ho]at e3⊢;obtain⟨μ,hμ⟩:∃μ:MN.Env->MN.Env,μ=fun r=>some (.int p)::some o::some (.loc q0)::some (.loc R)::r:=⟨_,rfl⟩
 have v0:∀r s,aK (μ r) s=.ok (.int p) s:=fun r s=>by rw[hμ];rfl
 have vo:∀r s,bf (μ r) s=.ok o s:=fun r s=>by rw[hμ];exact kC rfl ox
 have w2:∀r s,aZ (μ r) s=.ok (.loc q0) s:=fun r s=>by rw[hμ];rfl
 have w3:∀r s,bt (μ r) s=.ok (.loc R) s:=fun r s=>by rw[hμ];rfl
 have w4:∀r s,c6 (μ (some (.loc n)::r)) s=.ok (.loc n) s:=fun r s=>by rw[hμ];rfl
 have w5:∀m r s,cY (μ (some (.loc n)::some (.loc m)::r)) s=.ok (.loc m) s:=fun m r s=>by rw[hμ];rfl
 have w6:∀m m2 r s,fP (μ (some (.loc n)::some (.loc m)::some (.loc m2)::r)) s=.ok (.loc m2) s:=fun m m2 r s=>by rw[hμ];rfl
 have w7:∀m m2 m3 s,kX (μ [qL n, qL m, qL m2, qL m3]) s=.ok (.loc m3) s:=fun m m2 m3 s=>by rw[hμ];rfl
 have f4:aE 4 (aq PM.dR (aa bf (aa (ah cb (c9 (aa aZ ao)) bt) ao))) (μ [none,none,none,none]) s=.nx (μ [qL n, qn, qn, qn]) s3:=by
  have ad:ah cb (c9 (aa aZ ao)) bt (μ [none,none,none,none]) s=.ok (.loc s1.length) s2:=by rw[ax (x:=.loc s.length) (s1:=s1) (by rw[eT (bS (w2 _ s)) (by show 1<=1000;decide),ck]) (w3 _ s1),z0 (us:=[.loc q0]) (vs:=rows.map fun r=>ak.loc r.1) (by rw[ck];exact gA _ _) (x1.2 _ _ hR) (by rw[Vi];show 1+rows.length<=1000;lia),cL]
  rw[aR (v:=.loc n) (s1:=s3) (by rw[aC (dZ (vo _ s) ad),e3]),hμ];rfl
 have f5:aE 5 (bw 1 [4,0] (cg bt) (au 0) aJ Pa) (μ [qL n, qn, qn, qn]) s3=.nx (μ [qL n, qL s4.length, qn, qn]) s5:=by
  rw[aR (v:=.loc s4.length) (s1:=s5) (by
   rw[cO,cj,w3,av,bM R3,av,eM,Vo (by rw[Vi,VQ];lia),show gH 1 [4,0] (μ [qL n, qn, qn, qn])=[qn, qL n, qI p] by rw[hμ];rfl];rw[show EW []=([]:List ak)from rfl]at e4;rw[e4,av,qw];rfl),hμ]
  rfl
 have f6:aE 6 (bw 1 [] (cg bt) (au 0) aJ gh) (μ [qL n, qL s4.length, qn, qn]) s5=.nx (μ [qL n, qL s4.length, qL s6.length, qn]) s7:=by
  rw[aR (v:=.loc s6.length) (s1:=s7) (by
   rw[cO,cj,w3,av,bM R5,av,eM,Vo (by rw[Vi,VQ];lia),show gH 1 [] (μ [qL n, qL s4.length, qn, qn])=[none]from rfl];rw[show lV []=([]:List ak)from rfl]at e6;rw[e6,av,L3];rfl),hμ]
  rfl
 have f7:aE 7 (aq PM.c! (aa aK (aa (bp ["Packing"] "guards" c6) (aa (dj "Packing" "terms_of" PM.bF c6 (aa aZ ao)) (aa cY (aa fP ao)))))) (μ [qL n, qL s4.length, qL s6.length, qn]) s7=.nx (μ [qL n, qL s4.length, qL s6.length, qL Rs]) s9:=by
  rw[aR (v:=.loc Rs) (s1:=s9) (by
   rw[aC (cZ (v0 _ s7) (cZ (eU (w4 _ s7) P7 Rw) (cZ (by rw[jI (w4 _ s7) P7 (by rfl) (bS (w2 _ s7)),e8]) (dZ (w5 _ _ s8) (w6 _ _ _ s8)))))];exact e9),hμ]
  rfl
 unfold PM.gy;rw[bB (np:=4) (us:=[ak.int p,o,.loc q0,.loc R]) rfl];show(aw (aE 4 _) (aw (aE 5 (bw 1 [4,0] (cg bt) (au 0) aJ Pa)) (aw (aE 6 _) (aw (aE 7 _) (aO _)))) [qI p, some o, qL q0, qL R, qn, qn, qn, qn] s).fin=_;rw[show([qI p, some o, qL q0, qL R, qn, qn, qn, qn]:MN.Env)=μ [none,none,none,none] by rw[hμ]];rw[aA,f4,aB,aA,f5,aB,aA,f6,aB,aA,f7,aB];rw[eV (v:=.tup [.loc S,.loc T]) (s1:=L6) (kE (dZ (s1:=kj) (by rw[aC (cZ (v0 _ s9) (cZ (w4 _ s9) (dZ (w5 _ _ s9) (w6 _ _ _ s9)))),RK]) (by rw[jI (w4 _ kj) (BA.n.at_ _ _ trivial P9) (by rfl) (bS (w7 _ _ _ kj)),RM])) (by show 2<=1000;decide))];rfl
theorem yz{s:ae}{R q0 aj:Nat}{rows:List i_}{row:List Tm}{p:Int}{d:Bool}(hp:qe p=true)(hR:s[R]?=some (.lst (rows.map fun r=>ak.loc r.1)))(hr:∀r∈rows,s[r.1]?=some (.lst [tN r]))(G:GoodR p aj rows)(hq:s[q0]?=some (.lst (row.map tM)))(fr:∀t∈row,jK aj t.1)(hf:SO.cB (row.map fun t=>iE t.1))(hl:row.length<=60)(GY:rows.length<=100)(m1:1<=aj)(hm:aj<=8):
  ∃(S T:Nat)(s':ae),PM.reduced [.int p,.str (b? d),.loc q0,.loc R] s=.ok (.tup [.loc S,.loc T]) s'/\Iy p row rows s s' S T:=by
 obtain⟨g0,c0⟩:=qh hp s;obtain⟨s0,T6⟩:∃s0,s0=s++g0:=⟨_,rfl⟩
 have x0:Xt s s0:=by rw[T6];exact Xt.app _
 have T7:∀r∈rows,s0[r.1]?=some (.lst [tN r]):=fun r mr=>x0.2 _ _ (hr r mr);obtain⟨S,T,s',e,W,mo,a1,a2,a3,a4,a5,a6,a7,a8⟩:=rO (d:=d) hp (x0.2 _ _ hR) T7 G (x0.2 _ _ hq) fr hf hl GY m1 hm;refine⟨S,T,s',?_,W,mo,x0.n.trans a1,a2,a3,a4,a5,a6,by have:=x0.1;lia,by have:=x0.1;lia⟩;obtain⟨o,ho⟩:∃o:ak,o=.str (b? d):=⟨_,rfl⟩
 have ox:FT o=false:=by rw[ho];rfl
 rw[<-ho]at e⊢;have vo:∀s,bf [qI p, some o, qL q0, qL R] s=.ok o s:=fun s=>kC rfl ox;have f1:bA (aq PM.dO (aa aK ao)) [qI p, some o, qL q0, qL R] s=.nx [qI p, some o, qL q0, qL R] s0:=jJ (v:=.bR) (by rw[aC (bS (v:=.int p) (s1:=s) rfl),c0,T6]);have f2:bA (aq PM.dQ (aa bf ao)) [qI p, some o, qL q0, qL R] s0=.nx [qI p, some o, qL q0, qL R] s0:=jJ (v:=.bR) (by rw[aC (bS (vo s0)),ho,qo]);have f3:bA (aq PM.bZ (aa bt ao)) [qI p, some o, qL q0, qL R] s0=.nx [qI p, some o, qL q0, qL R] s0:=jJ (v:=.bR) (by rw[aC (bS (v:=.loc R) (s1:=s0) rfl),Hw ⟨aU (x0.2 _ _ hR),T7⟩]);unfold PM.reduced;rw[bB (np:=4) (us:=[ak.int p,o,.loc q0,.loc R]) rfl];show(aw (bA _) (aw (bA _) (aw (bA _) (aO _))) [qI p, some o, qL q0, qL R] s).fin=_;rw[aA,f1,aB,aA,f2,aB,aA,f3,aB];rw[eV (v:=.tup [.loc S,.loc T]) (s1:=s') (by rw[aC (cZ (v:=.int p) (s1:=s0) rfl (cZ (vo s0) (dZ (v:=.loc q0) (s1:=s0) rfl (w:=.loc R) (s2:=s0) rfl))),e])];rfl
def cT(t:Tm):dc:=(iE t.1,t.2)
theorem Oo(t:Tm):tM t=tV (cT t):=by unfold tM tV cT cX;rw[e?];rfl
theorem Pg(l:List Tm):l.map tM=(l.map cT).map tV:=by rw[VE];exact VS fun t _=>Oo t
theorem BB{r:Int}{A D:List dc}(p:A.Perm D)(nd:(A.map (·.1)).Nodup):fC r A=fC r D:=by
 have pk:(A.map (·.1)).Perm (D.map (·.1)):=p.map _;have T8:=pk.nodup_iff.mp nd;have e:l? (A.map (·.1))=l? (D.map (·.1)):=ll ((dB _).trans (pk.trans (dB _).symm)) (fU nd) (fU T8);have ea:v9 A=v9 D:=by unfold v9;rw[e];refine VS fun k hk=>?_;have mk:=(dB _).mem_iff.mp hk;obtain⟨t,mt,rfl⟩:=VG.mp mk;show(t.1,cH A t.1)=(t.1,cH D t.1);rw[uF T8 mt,uF nd (p.mem_iff.mpr mt)]
 unfold fC;rw[ea]
theorem BC{p:Int}{row:List Tm}{P:List Tm}{g:Tm->Int}(f:SO.cB (row.map fun t=>iE t.1))(hp:P.Perm row)(hc:∀t∈row,fI p (g t)=t.2/\t.2≠0):
  fC p (jU ((P.map fun t=>(t.1,g t)).map cT))=row.map cT:=by
 have e1:(P.map fun t=>(t.1,g t)).map cT=P.map fun t=>(iE t.1,g t):=by rw[VE];rfl
 have pm:(P.map fun t=>(iE t.1,g t)).Perm (row.map fun t=>(iE t.1,g t)):=hp.map _;have fk:SO.cB ((row.map fun t=>(iE t.1,g t)).map (·.1)):=by rw[VE];exact f
 have nd:((P.map fun t=>(iE t.1,g t)).map (·.1)).Nodup:=(pm.map _).nodup_iff.mpr (fq fk);rw[e1,Bq nd,BB pm nd,Br fk];unfold Rt;rw[VE];have e2:row.map ((fun t:dc=>(t.1,fI p t.2)) ∘ fun t:Tm=>(iE t.1,g t))=row.map cT:=VS fun t mt=>by show(iE t.1,fI p (g t))=(iE t.1,t.2);rw[(hc t mt).1]
 rw[e2];refine Zp.mpr fun t mt=>?_;obtain⟨u,mu,rfl⟩:=VG.mp mt;show(u.2 !=0)=true;rw[bne_iff_ne];exact(hc u mu).2
theorem filter_or{α:Type}{P Q R:α->Bool}:∀(l:List α),(∀t∈l,R t=(P t || Q t))->(∀t∈l,¬ (P t=true/\Q t=true))->(l.filter P++l.filter Q).Perm (l.filter R)
 |[],_,_=>.nil
 |a::l,h,d=>by
  have ih:=filter_or l (fun t m=>h t (Vk _ m)) fun t m=>d t (Vk _ m);have ha:=h a Vm;have da:=d a Vm;cases zp:P a with
  |true=>
   cases zq:Q a with
   |true=>exact absurd ⟨zp,zq⟩ da
   |false=>
    rw[zp,zq]at ha;rw[V9 zp,V4 (by rw[zq];decide),V9 ha];exact ih.cons a
  |false=>
   cases zq:Q a with
   |true=>
    rw[zp,zq]at ha;rw[V4 (by rw[zp];decide),V9 zq,V9 ha];exact List.perm_middle.trans (ih.cons a)
   |false=>
    rw[zp,zq]at ha;rw[V4 (by rw[zp];decide),V4 (by rw[zq];decide),V4 (by rw[ha];decide)];exact ih
def yA(fs:List (List Nat))(n:Nat)(t:Tm):Bool:=match eY t.1 0 fs with
 |none=>true
 |some i=>decide (i<n)
theorem kI(row:List Tm)(fs:List (List Nat)):∀n:Nat,(dF row fs++(List.range n).flatMap (dm row fs)).Perm (row.filter (yA fs n))
 |0=>by
  rw[_G,Ye,VL];unfold dF;rw[Zz (q:=yA fs 0) fun t _=>?_];unfold yA;cases eY t.1 0 fs with
  |none=>rfl
  |some i=>exact(VD (Yw i)).symm
 |n+1=>by
  rw[_H,List.flatMap_append,<-VM,Xx,Ye,VL];refine((kI row fs n).append_right _).trans (filter_or row (fun t _=>?_) fun t _ h=>?_)
  .unfold yA;cases eY t.1 0 fs with
   |none=>rfl
   |some i=>
    show decide (i<n+1)=(decide (i<n) || decide (some i=some n));rw[X0,_J,V!,V!,V!];constructor
    .intro z;by_cases y:i<n
     .exact .inl y
     .exact .inr (by rw[show i=n by lia])
    .rintro(z|z)
     .lia
     .injection z with z;lia
  .unfold yA at h;rw[Wg h.2]at h;have:=Wg h.1;lia
theorem BD{row:List Tm}{fs:List (List Nat)}:(dF row fs++(List.range fs.length).flatMap (dm row fs)).Perm row:=by
 refine(kI row fs fs.length).trans ?_;rw[Zp.mpr fun t _=>?_];unfold yA;cases z:eY t.1 0 fs with
 |none=>rfl
 |some i=>
  obtain⟨_,f,h,_⟩:=fW fs 0 z;rw[Yt]at h;exact VF (V6.mp h).1
theorem fT{g:ae->Prop}{A:AS}{body:MB}{u:ak}{us:List ak}{μ μ1 μ2:MN.Env}{st st2:ae}(hg:g st)(ha:A u μ=some μ1)(hb:body μ1 st=.nx μ2 st2):forL g A body (u::us) μ st=forL g A body us μ2 st2:=by
 conv=>lhs;unfold forL
 rw[Vo hg,ha];dsimp only;rw[hb]
def Iz(b:Tm)(t:Tm):Tm:=(d! t.1 b.1,t.2*b.2)
abbrev Oq:ME:=ah cb (ah aY (ah aY bf bT) aK) (ah aY (ah aY aZ bT) aK)
theorem z!{es:List Nat}{k:Nat}{st:ae}(h:k<es.length):aY (.tup (nV es)) (.int (k:Int)) st=.ok (.int (es[k]:Int)) st:=by unfold aY;dsimp only;rw[dH (xs:=nV es) (j:=k) (v:=.int (es[k]:Int)) (by unfold nV;rw[VB,Vq h];rfl)]
theorem z?{s:ae}{t b:Tm}(hl:t.1.length=b.1.length):∀(m j:Nat)(x:Option ak)(ys:List Nat),j+m=t.1.length->ys=(d! t.1 b.1).take j ->
  aW (fun _=>True) (au 0) aJ Oq ((List.range' j m).map fun(k:Nat)=>ak.int (k:Int)) [x,some (tM t),some (tM b)] s (nV ys)=.ok (nV (d! t.1 b.1)) s
 |0,j,x,ys,h,e=>by show aW _ _ _ _ [] _ s _=_;rw[b8 (g:=fun _=>True) trivial,e,Xe (by rw[we];lia)]
 |m+1,j,x,ys,h,e=>by
  have lj:j<t.1.length:=by lia
  have lb:j<b.1.length:=by lia
  have la:j<(d! t.1 b.1).length:=by rw[we];lia
  have ih:=z? (s:=s) hl m (j+1) (some (.int (j:Int))) (ys++[(d! t.1 b.1)[j]]) (by lia) (by rw[e,Y_,Vq la];rfl);rw[WK,Vl];have el:Oq [qN j, some (tM t), some (tM b)] s=.ok (.int ((d! t.1 b.1)[j]:Int)) s:=by
   have e1:ah aY (ah aY bf bT) aK [qN j, some (tM t), some (tM b)] s=.ok (.int (t.1[j]:Int)) s:=by rw[ax (x:=.tup (nV t.1)) (s1:=s) rfl (y:=.int (j:Int)) (s2:=s) rfl,z! lj]
   have e2:ah aY (ah aY aZ bT) aK [qN j, some (tM t), some (tM b)] s=.ok (.int (b.1[j]:Int)) s:=by rw[ax (x:=.tup (nV b.1)) (s1:=s) rfl (y:=.int (j:Int)) (s2:=s) rfl,z! lb]
   show ah cb _ _ _ s=_;rw[ax e1 e2];show bI.ok (ak.int ((t.1[j]:Int)+(b.1[j]:Int))) s=_;have:(d! t.1 b.1)[j]=t.1[j]+b.1[j]:=List.getElem_zipWith;rw[this]
   push_cast
   rfl
  rw[cE (g:=fun _=>True) trivial (show au 0 (.int (j:Int)) [x,some (tM t),some (tM b)]=some [qN j, some (tM t), some (tM b)]from rfl) el];have:nV ys++[.int ((d! t.1 b.1)[j]:Int)]=nV (ys++[(d! t.1 b.1)[j]]):=by unfold nV;rw[VT];rfl
  rw[this];exact ih
abbrev T9:MB:=aw (aE 5 (aq mH (aa (bw 1 [3,4] (bY (aa (aq c_ (aa (ah aY bt bT) ao)) ao)) (au 0) aJ Oq) ao))) (bA (fQ bU aZ (aa (eB (aa cY (aa (ah cf (ah aY bt b!) (ah aY c6 b!)) ao))) ao)))
abbrev Ph:MB:=cw (cg bf) (au 4) T9
theorem Hz{s:ae}{a r F:Nat}{t b:Tm}{ts:List Tm}{y4 y5:Option ak}(hl:t.1.length=b.1.length)(l8:t.1.length<=1000)(hb:-(2 ^ 64)<b.2/\b.2<2 ^ 64)(hr:s[r]?=some (.lst [tM b]))(hF:s[F]?=some (.lst (ts.map tM)))(kQ:ts.length<=1000)(rF:r≠F):
    ∃(s':ae)(z4 z5:Option ak),Ph [qL a, qL r, qL F, some (tM t), y4, y5] s=.nx [qL a, qL r, qL F, some (tM t), z4, z5] s'/\s'[F]?=some (.lst ((ts++[Iz b t]).map tM))/\s.length<=s'.length/\∀n c,n≠F->s[n]?=some c->s'[n]?=some c:=by
  obtain⟨s1,ck⟩:∃s1,s1=s++[aP.lst (nV (d! t.1 b.1))]:=⟨_,rfl⟩
  have x1:Xt s s1:=by rw[ck];exact Xt.app _
  have F1:=x1.2 _ _ hF;obtain⟨s2,cL⟩:∃s2,s2=s1.set F (.lst ((ts++[Iz b t]).map tM)):=⟨_,rfl⟩
  have F2:s2[F]?=some (.lst ((ts++[Iz b t]).map tM)):=by rw[cL];exact Vz (bz F1)
  have r2:s2[r]?=some (.lst [tM b]):=by rw[cL];exact aQ (x1.2 _ _ hr) (fun z=>rF z.symm)
  obtain⟨μ,hμ⟩:∃μ:Option ak->MN.Env,μ=fun y=>[qL a, qL r, qL F, some (tM t), some (tM b), y]:=⟨_,rfl⟩
  have ix3:∀y s,ah aY bt bT (μ y) s=.ok (.tup (nV t.1)) s:=fun y s=>by rw[hμ];rfl
  have rn:bY (aa (aq c_ (aa (ah aY bt bT) ao)) ao) (μ y5) s=.ok (d5 0 t.1.length,fun _=>True) s:=by
    have ln:aq c_ (aa (ah aY bt bT) ao) (μ y5) s=.ok (.int (t.1.length:Int)) s:=by rw[aC (bS (ix3 _ s))];show bI.ok (ak.int ((nV t.1).length:Int)) s=_;unfold nV;rw[Vi]
    rw[jr (j:=(t.1.length:Int)) (s1:=s) (bS ln) (by lia) (by lia),VR]
  have cp:bw 1 [3,4] (bY (aa (aq c_ (aa (ah aY bt bT) ao)) ao)) (au 0) aJ Oq (μ y5) s=.ok (.loc s.length) s1:=by have c:=z? (s:=s) (t:=t) (b:=b) hl t.1.length 0 none [] (by lia) (by rw[List.take_zero]);rw[cO,rn,av,eM,gz,Vo (by rw[Vi,Xu,VQ];lia),show gH 1 [3,4] (μ y5)=[none,some (tM t),some (tM b)] by rw[hμ];rfl];rw[show nV []=([]:List ak)from rfl]at c;rw[c,av,ck];rfl
  have f5:aE 5 (aq mH (aa (bw 1 [3,4] (bY (aa (aq c_ (aa (ah aY bt bT) ao)) ao)) (au 0) aJ Oq) ao)) (μ y5) s=.nx (μ (some (.tup (nV (d! t.1 b.1))))) s1:=by rw[aR (v:=.tup (nV (d! t.1 b.1))) (s1:=s1) (by rw[aC (bS cp)];exact oX (by rw[ck];exact bx s _)),hμ];rfl
  have f6:bA (fQ bU aZ (aa (eB (aa cY (aa (ah cf (ah aY bt b!) (ah aY c6 b!)) ao))) ao)) (μ (some (.tup (nV (d! t.1 b.1))))) s1=.nx (μ (some (.tup (nV (d! t.1 b.1))))) s2:=by
    have ml:ah cf (ah aY bt b!) (ah aY c6 b!) (μ (some (.tup (nV (d! t.1 b.1))))) s1=.ok (.int (t.2*b.2)) s1:=by rw[ax (x:=.int t.2) (s1:=s1) (by rw[hμ];rfl) (y:=.int b.2) (s2:=s1) (by rw[hμ];rfl),mul_r hb.1 hb.2]
    have ar:aa (eB (aa cY (aa (ah cf (ah aY bt b!) (ah aY c6 b!)) ao))) ao (μ (some (.tup (nV (d! t.1 b.1))))) s1=.ok [tM (Iz b t)] s1:=by refine bS (kE (vs:=[.tup (nV (d! t.1 b.1)),.int (t.2*b.2)]) (dZ (s1:=s1) ?_ ml) (by show 2<=1000;decide));rw[hμ];rfl
    have ap:=uE (n:=F) (o:=aZ) (μ:=μ (some (.tup (nV (d! t.1 b.1))))) (by rw[hμ];rfl) F1 ar F1 (by rw[Vi];exact kQ);rw[ap,cL,VT];rfl
  refine⟨s2,some (tM b),some (.tup (nV (d! t.1 b.1))),?_,F2,by rw[cL,VU];exact x1.1,fun n c h e=>by rw[cL];exact aQ (x1.2 _ _ e) (fun z=>h z.symm)⟩;show cw _ _ _ _ s=_;rw[dA,cj,show bf [qL a, qL r, qL F, some (tM t), y4, y5] s=.ok (.loc r) s from rfl,av,bM (aU hr),bh,fh];rw[fT (g:=fun az=>ai az r=some [tM b]) (aU hr) (show au 4 (tM b) [qL a, qL r, qL F, some (tM t), y4, y5]=some (μ y5) by rw[hμ];rfl) (show T9 (μ y5) s=.nx (μ (some (.tup (nV (d! t.1 b.1))))) s2 by
    show aw _ _ _ s=_;rw[aA,f5,aB,f6])]
  unfold forL;rw[Vo (aU r2),hμ]
theorem Aa{a r F:Nat}{b:Tm}{us:List ak}(hb:-(2 ^ 64)<b.2/\b.2<2 ^ 64)(aF:a≠F)(rF:r≠F)(lb:b.1.length<=1000):∀(ones:List Tm)(s:ae)(ts:List Tm)(y3 y4 y5:Option ak),s[a]?=some (.lst us)->s[r]?=some (.lst [tM b])->s[F]?=some (.lst (ts.map tM))->(∀t∈ones,t.1.length=b.1.length)->ts.length+ones.length<=1000 ->
  ∃(s':ae)(z3 z4 z5:Option ak),forL (fun az=>ai az a=some us) (au 3) Ph (ones.map tM) [qL a, qL r, qL F, y3, y4, y5] s=.nx [qL a, qL r, qL F, z3, z4, z5] s'/\s'[F]?=some (.lst ((ts++ones.map (Iz b)).map tM))/\s.length<=s'.length/\∀n c,n≠F->s[n]?=some c->s'[n]?=some c
 |[],s,ts,y3,y4,y5,ha,hr,hF,_,_=>⟨s,y3,y4,y5,by show forL _ _ _ [] _ s=_;unfold forL;rw[Vo (aU ha)],by rw[V3,VL];exact hF,Vp _,fun n c _ e=>e⟩
 |t::ones,s,ts,y3,y4,y5,ha,hr,hF,hl,hn=>by rw[Vn]at hn;have lt:=hl t Vm;obtain⟨s1,z4,z5,e1,F1,l1,k1⟩:=Hz (a:=a) (y4:=y4) (y5:=y5) lt (by lia) hb hr hF (by lia) rF;obtain⟨s2,w3,w4,w5,e2,F2,l2,k2⟩:=Aa hb aF rF lb ones s1 (ts++[Iz b t]) (some (tM t)) z4 z5 (k1 _ _ aF ha) (k1 _ _ rF hr) F1 (fun u m=>hl u (Vk _ m)) (by rw[Vt];show ts.length+1+ones.length<=1000;lia);refine⟨s2,w3,w4,w5,?_,by rw[VM]at F2;exact F2,by lia,fun n c h e=>k2 n c h (k1 n c h e)⟩;rw[Vl,fT (g:=fun az=>ai az a=some us) (aU ha) (show au 3 (tM t) [qL a, qL r, qL F, y3, y4, y5]=some [qL a, qL r, qL F, some (tM t), y4, y5]from rfl) e1];exact e2
theorem wx{s:ae}{a r:Nat}{b:Tm}{ones:List Tm}(hb:-(2 ^ 64)<b.2/\b.2<2 ^ 64)(ha:s[a]?=some (.lst (ones.map tM)))(hr:s[r]?=some (.lst [tM b]))(hl:∀t∈ones,t.1.length=b.1.length)(lb:b.1.length<=1000)(hn:ones.length<=1000):
  ∃s',PM.cU [.loc a,.loc r] s=.ok (.loc s.length) s'/\s'[s.length]?=some (.lst ((ones.map (Iz b)).map tM))/\Xt s s':=by
 obtain⟨F,hF⟩:∃F,F=s.length:=⟨_,rfl⟩
 obtain⟨s1,ck⟩:∃s1,s1=s++[aP.lst []]:=⟨_,rfl⟩
 have x1:Xt s s1:=by rw[ck];exact Xt.app _
 have la:=bz ha;have lr:=bz hr;obtain⟨s2,z3,z4,z5,e2,F2,l2,k2⟩:=Aa (us:=ones.map tM) hb (a:=a) (r:=r) (F:=F) (by lia) (by lia) lb ones s1 [] none none none (x1.2 _ _ ha) (x1.2 _ _ hr) (by rw[ck,hF];exact gA _ _) hl (by rw[VJ];lia);rw[<-hF];refine⟨s2,?_,F2,⟨by have:=x1.1;lia,fun n c e=>k2 n c (by have:=bz e;lia) (x1.2 n c e)⟩⟩;unfold PM.cU;rw[bB (np:=2) (us:=[ak.loc a,.loc r]) rfl];show(aw (aE 2 (c9 ao)) (aw (cw (cg aK) (au 3) Ph) (aO aZ)) [qL a, qL r, qn, qn, qn, qn] s).fin=_;rw[aA,aR (eT (vs:=[]) (s1:=s) rfl (by decide)),aB,<-ck,<-hF];show(aw (cw (cg aK) (au 3) Ph) (aO aZ) [qL a, qL r, qL F, qn, qn, qn] s1).fin=_;rw[aA,dA,cj,show aK [qL a, qL r, qL F, qn, qn, qn] s1=.ok (.loc a) s1 from rfl,av,bM (aU (x1.2 _ _ ha)),bh,fh,e2,aB];rfl
abbrev Et:MB:=dY (bN (ah qX (ah aY aK aZ) (ah aY bf aZ))) (aO (mC (.bl false))) bg
theorem Ab{s:ae}{f e:List Nat}(hl:e.length=f.length):∀(m j:Nat)(y:Option ak),j+m=f.length ->
  ∃y',forL (fun _=>True) (au 2) Et ((List.range' j m).map fun(k:Nat)=>ak.int (k:Int)) [some (.tup (nV f)), some (.tup (nV e)), y] s=if dvd (f.drop j) (e.drop j)=true then .nx [some (.tup (nV f)), some (.tup (nV e)), y'] s else .rt (.bl false) s
 |0,j,y,h=>⟨y,by
  rw[List.drop_of_length_le (l:=f) (by lia),List.drop_of_length_le (l:=e) (by lia),Vo (show dvd [] []=true from rfl)];show forL _ _ _ [] _ s=_;unfold forL;rw[Vo trivial]⟩
 |m+1,j,y,h=>by
  have lf:j<f.length:=by lia
  have le:j<e.length:=by lia
  obtain⟨y',ih⟩:=Ab hl m (j+1) (some (.int (j:Int))) (by lia);refine⟨y',?_⟩;have ed:dvd (f.drop j) (e.drop j)=(decide (f[j]<=e[j])&&dvd (f.drop (j+1)) (e.drop (j+1))):=by rw[WC lf,WC le];rfl
  rw[ed,WK,Vl];have t:bN (ah qX (ah aY aK aZ) (ah aY bf aZ)) [some (.tup (nV f)), some (.tup (nV e)), qN j] s=.ok (!decide (f[j]<=e[j])) s:=by
   refine bq ?_;rw[ax (x:=.int (f[j]:Int)) (s1:=s) (by rw[ax (x:=.tup (nV f)) (s1:=s) rfl (y:=.int (j:Int)) (s2:=s) rfl,z! lf]) (y:=.int (e[j]:Int)) (s2:=s) (by rw[ax (x:=.tup (nV e)) (s1:=s) rfl (y:=.int (j:Int)) (s2:=s) rfl,z! le])];show bI.ok (ak.bl (decide ((e[j]:Int)<(f[j]:Int)))) s=_;congr 2;by_cases z:f[j]<=e[j]
   .rw[VF z,VD (by lia)];rfl
   .rw[VD z,VF (by lia)];rfl
  by_cases z:f[j]<=e[j]
  .rw[VF z]at t⊢;rw[Yf,fT (g:=fun _=>True) trivial (show au 2 (.int (j:Int)) [some (.tup (nV f)), some (.tup (nV e)), y]=some [some (.tup (nV f)), some (.tup (nV e)), qN j]from rfl) (show Et [some (.tup (nV f)), some (.tup (nV e)), qN j] s=.nx [some (.tup (nV f)), some (.tup (nV e)), qN j] s from ej t)];exact ih
  .rw[VD z]at t⊢;rw[YK,Vv Vs]
   conv=>lhs;unfold forL
   rw[Vo trivial];show(match Et [some (.tup (nV f)), some (.tup (nV e)), qN j] s with
    |.nx μ' az=>forL _ _ _ _ μ' az|.ct μ' az=>forL _ _ _ _ μ' az|.bk μ' az=>.nx μ' az|.rt v az=>.rt v az|.er c μ' az=>.er c μ' az|.bad=>.bad)=_
   rw[show Et [some (.tup (nV f)), some (.tup (nV e)), qN j] s=.rt (.bl false) s by
    show dY _ _ _ _ s=_;rw[mP t];rfl]
theorem wy{s:ae}{f e:List Nat}(hl:e.length=f.length)(h8:f.length<=1000):PM.dS [.tup (nV f),.tup (nV e)] s=.ok (.bl (dvd f e)) s:=by
 obtain⟨y,lp⟩:=Ab (s:=s) hl f.length 0 none (by lia);rw[List.drop_zero,List.drop_zero]at lp;unfold PM.dS;rw[bB (np:=2) (us:=[ak.tup (nV f),.tup (nV e)]) rfl];show(aw (cw (bY (aa (aq c_ (aa aK ao)) ao)) (au 2) Et) (aO (mC (.bl true))) [some (.tup (nV f)), some (.tup (nV e)), qn] s).fin=_;have ln:aq c_ (aa aK ao) [some (.tup (nV f)), some (.tup (nV e)), qn] s=.ok (.int (f.length:Int)) s:=by rw[aC (bS (v:=.tup (nV f)) (s1:=s) rfl)];show bI.ok (ak.int ((nV f).length:Int)) s=_;unfold nV;rw[Vi]
 rw[aA,dA,jr (j:=(f.length:Int)) (s1:=s) (bS ln) (by lia) (by lia),bh,fh,VR,gz,lp];cases dvd f e<;>rfl
theorem BE{g:ae->Prop}{a:AS}{c:MT}{e:ME}{u y:ak}{us:List ak}{τ τ1:MN.Env}{st aL st2:ae}{ys:List ak}(hg:g st)(h1:a u τ=some τ1)(hc:c τ1 st=.ok true aL)(h2:e τ1 aL=.ok y st2):aW g a c e (u::us) τ st ys=aW g a c e us τ1 st2 (ys++[y]):=by
 conv=>lhs;unfold aW
 rw[Vo hg,h1];dsimp only;rw[hc];dsimp only;rw[h2]
theorem yB{g:ae->Prop}{a:AS}{c:MT}{e:ME}{u:ak}{us:List ak}{τ τ1:MN.Env}{st aL:ae}{ys:List ak}(hg:g st)(h1:a u τ=some τ1)(hc:c τ1 st=.ok false aL):aW g a c e (u::us) τ st ys=aW g a c e us τ1 aL ys:=by
 conv=>lhs;unfold aW
 rw[Vo hg,h1];dsimp only;rw[hc]
abbrev Eu:MT:=bN (aq PM.dS (aa (ah aY (ah aY aK bT) bT) (aa (ah aY bf bT) ao)))
theorem Ac{s:ae}{R:Nat}{us:List ak}{t:Tm}{aj:Nat}(hR:ai s R=some us)(ht:t.1.length=aj)(hm:aj<=1000):∀(rows:List i_)(x:Option ak)(ys:List ak),(∀r∈rows,s[r.1]?=some (.lst [tN r])/\r.2.1.length=aj) ->
  aW (fun az=>ai az R=some us) (au 0) Eu aK (rows.map fun r=>ak.loc r.1) [x,some (tM t)] s ys=.ok (ys++(rows.filter fun r=>dvd r.2.1 t.1).map fun r=>ak.loc r.1) s
 |[],x,ys,_=>by show aW _ _ _ _ [] _ s ys=_;rw[b8 (g:=fun az=>ai az R=some us) hR,List.filter_nil,V3,VL]
 |r::rows,x,ys,h=>by
  obtain⟨h1,h2⟩:=h r Vm;have ih:=fun zs=>Ac hR ht hm rows (some (.loc r.1)) zs fun q m=>h q (Vk _ m);have c:Eu [some (.loc r.1),some (tM t)] s=.ok (dvd r.2.1 t.1) s:=by
   refine bq ?_;have e0:ah aY (ah aY aK bT) bT [some (.loc r.1),some (tM t)] s=.ok (.tup (nV r.2.1)) s:=by rw[ax (x:=tN r) (s1:=s) (by rw[ax (x:=.loc r.1) (s1:=s) rfl (y:=.int 0) (s2:=s) rfl];exact gX (aU h1) (dH (j:=0) rfl)) (y:=.int 0) (s2:=s) rfl];rfl
   rw[aC (dZ e0 (w:=.tup (nV t.1)) (s2:=s) rfl),wy (by lia) (by lia)]
  rw[Vl];have an:au 0 (.loc r.1) [x,some (tM t)]=some [some (.loc r.1),some (tM t)]:=rfl;cases z:dvd r.2.1 t.1 with
  |true=>
   rw[z]at c;rw[BE (g:=fun az=>ai az R=some us) (y:=.loc r.1) (st2:=s) hR an c rfl,ih,V9 (p:=fun r:i_=>dvd r.2.1 t.1) z,VM];rfl
  |false=>
   rw[z]at c;rw[yB (g:=fun az=>ai az R=some us) hR an c,ih,V4 (p:=fun r:i_=>dvd r.2.1 t.1) (by rw[z];decide)]
abbrev Ot:MB:=dY (bN (ah kY (bw 1 [3] (cg bf) (au 0) Eu aK) (c9 ao))) (bA (fQ bU aZ (aa bt ao))) bg
theorem uQ{q R F aj:Nat}{rows:List i_}{us:List ak}(qF:q≠F)(RF:R≠F)(hm:aj<=1000)(hn:rows.length<=1000)(rF:∀r∈rows,r.1≠F/\r.2.1.length=aj):∀(row:List Tm)(s:ae)(ts:List Tm)(y:Option ak),s[q]?=some (.lst us)->s[R]?=some (.lst (rows.map fun r=>ak.loc r.1))->(∀r∈rows,s[r.1]?=some (.lst [tN r]))->s[F]?=some (.lst (ts.map tM))->(∀t∈row,t.1.length=aj)->ts.length+row.length<=1000 ->
  ∃(s':ae)(y':Option ak),forL (fun az=>ai az q=some us) (au 3) Ot (row.map tM) [qL q, qL R, qL F, y] s=.nx [qL q, qL R, qL F, y'] s'/\s'[F]?=some (.lst ((ts++row.filter fun t=>(rows.filter fun r=>dvd r.2.1 t.1).isEmpty).map tM))/\s.length<=s'.length/\∀n c,n≠F->s[n]?=some c->s'[n]?=some c
 |[],s,ts,y,hq,_,_,hF,_,_=>⟨s,y,by show forL _ _ _ [] _ s=_;unfold forL;rw[Vo (aU hq)],by rw[List.filter_nil,VL];exact hF,Vp _,fun n c _ e=>e⟩
 |t::row,s,ts,y,hq,hR,hr,hF,hl,hc=>by
  rw[Vn]at hc;have lc:=Ac (s:=s) (us:=rows.map fun r=>ak.loc r.1) (aU hR) (hl t Vm) hm rows none [] fun r m=>⟨hr r m,(rF r m).2⟩
  obtain⟨ds,RN⟩:∃ds,ds=rows.filter fun r=>dvd r.2.1 t.1:=⟨_,rfl⟩
  rw[<-RN,V1]at lc;obtain⟨s1,ck⟩:∃s1,s1=s++[aP.lst (ds.map fun r=>ak.loc r.1)]:=⟨_,rfl⟩
  obtain⟨s2,cL⟩:∃s2,s2=s1++[aP.lst []]:=⟨_,rfl⟩
  have x1:Xt s s1:=by rw[ck];exact Xt.app _
  have x2:Xt s1 s2:=by rw[cL];exact Xt.app _
  have vc:=x1.trans x2;obtain⟨μ,hμ⟩:∃μ:MN.Env,μ=[qL q, qL R, qL F, some (tM t)]:=⟨_,rfl⟩
  have cp:bw 1 [3] (cg bf) (au 0) Eu aK μ s=.ok (.loc s.length) s1:=by rw[cO,cj,show bf μ s=.ok (.loc R) s by rw[hμ];rfl,av,bM (aU hR),av,eM,Vo (by rw[Vi,VQ];lia),show gH 1 [3] μ=[none,some (tM t)] by rw[hμ];rfl,lc,av,ck];rfl
  have rK:bN (ah kY (bw 1 [3] (cg bf) (au 0) Eu aK) (c9 ao)) μ s=.ok ds.isEmpty s2:=by
   refine bq ?_;rw[ax cp (y:=.loc s1.length) (s2:=s2) (by rw[eT (vs:=[]) (s1:=s1) rfl (by decide),cL])];unfold kY;have e1:iQ 16 s2 (.loc s.length) (.loc s1.length)=some ds.isEmpty:=by
    unfold iQ;simp only[vw,aU (x2.2 _ _ (show s1[s.length]?=some (.lst (ds.map fun r=>ak.loc r.1)) by rw[ck];exact gA _ _)),aU (show s2[s1.length]?=some (.lst []) by rw[cL];exact gA _ _)];cases ds with
    |nil=>rfl
    |cons d ds=>rfl
   rw[e1]
  have F2:=vc.2 _ _ hF;by_cases z:ds.isEmpty=true
  .obtain⟨s3,lK⟩:∃s3,s3=s2.set F (.lst ((ts++[t]).map tM)):=⟨_,rfl⟩
   have b1:Ot μ s=.nx μ s3:=by rw[z]at rK;show dY _ _ _ μ s=_;rw[mP rK,uE (n:=F) (us:=ts.map tM) (v:=tM t) (s1:=s2) (by rw[hμ];rfl) F2 (bS (by rw[hμ];rfl)) F2 (by rw[Vi];lia),lK,VT];rfl
   have k3:∀n c,n≠F->s[n]?=some c->s3[n]?=some c:=fun n c h e=>by rw[lK];exact aQ (vc.2 _ _ e) (fun z=>h z.symm)
   obtain⟨s4,y4,e4,F4,l4,k4⟩:=uQ qF RF hm hn rF row s3 (ts++[t]) (some (tM t)) (k3 _ _ qF hq) (k3 _ _ RF hR) (fun r m=>k3 _ _ (rF r m).1 (hr r m)) (by rw[lK];exact Vz (bz F2)) (fun u m=>hl u (Vk _ m)) (by rw[Vt];show ts.length+1+row.length<=1000;lia);refine⟨s4,y4,?_,?_,by have:=vc.1;rw[lK,VU]at l4;lia,fun n c h e=>k4 n c h (k3 n c h e)⟩
   .rw[Vl,fT (g:=fun az=>ai az q=some us) (aU hq) (show au 3 (tM t) [qL q, qL R, qL F, y]=some μ by rw[hμ];rfl) b1,hμ];exact e4
   .rw[RN]at z;rw[V9 (p:=fun t:Tm=>(rows.filter fun r=>dvd r.2.1 t.1).isEmpty) z];rw[VM]at F4;exact F4
  .have b1:Ot μ s=.nx μ s2:=by rw[Y6.mpr z]at rK;exact ej rK
   obtain⟨s4,y4,e4,F4,l4,k4⟩:=uQ qF RF hm hn rF row s2 ts (some (tM t)) (vc.2 _ _ hq) (vc.2 _ _ hR) (fun r m=>vc.2 _ _ (hr r m)) F2 (fun u m=>hl u (Vk _ m)) (by lia);refine⟨s4,y4,?_,?_,by have:=vc.1;lia,fun n c h e=>k4 n c h (vc.2 n c e)⟩
   .rw[Vl,fT (g:=fun az=>ai az q=some us) (aU hq) (show au 3 (tM t) [qL q, qL R, qL F, y]=some μ by rw[hμ];rfl) b1,hμ];exact e4
   .rw[RN]at z;rw[V4 (p:=fun t:Tm=>(rows.filter fun r=>dvd r.2.1 t.1).isEmpty) z];exact F4
theorem HA{s:ae}{q R aj:Nat}{rows:List i_}{row:List Tm}(hm:aj<=1000)(hn:rows.length<=1000)(hl:∀r∈rows,r.2.1.length=aj)(hq:s[q]?=some (.lst (row.map tM)))(hR:s[R]?=some (.lst (rows.map fun r=>ak.loc r.1)))(hr:∀r∈rows,s[r.1]?=some (.lst [tN r]))(ht:∀t∈row,t.1.length=aj)(hc:row.length<=1000):
  ∃s',PM.jn [.loc q,.loc R] s=.ok (.loc s.length) s'/\s'[s.length]?=some (.lst ((dF row (rows.map (·.2.1))).map tM))/\Xt s s':=by
 obtain⟨F,hF⟩:∃F,F=s.length:=⟨_,rfl⟩
 obtain⟨s1,ck⟩:∃s1,s1=s++[aP.lst []]:=⟨_,rfl⟩
 have x1:Xt s s1:=by rw[ck];exact Xt.app _
 have lq:=bz hq;have lR:=bz hR;obtain⟨s2,y,e2,F2,l2,k2⟩:=uQ (us:=row.map tM) (q:=q) (R:=R) (F:=F) (aj:=aj) (rows:=rows) (by lia) (by lia) hm hn (fun r m=>⟨by have:=bz (hr r m);lia,hl r m⟩) row s1 [] none (x1.2 _ _ hq) (x1.2 _ _ hR) (fun r m=>x1.2 _ _ (hr r m)) (by rw[ck,hF];exact gA _ _) ht (by rw[VJ];lia);rw[<-hF];refine⟨s2,?_,?_,⟨by have:=x1.1;lia,fun n c e=>k2 n c (by have:=bz e;lia) (x1.2 n c e)⟩⟩
 .unfold PM.jn;rw[bB (np:=2) (us:=[ak.loc q,.loc R]) rfl];show(aw (aE 2 (c9 ao)) (aw (cw (cg aK) (au 3) Ot) (aO aZ)) [qL q, qL R, qn, qn] s).fin=_;rw[aA,aR (eT (vs:=[]) (s1:=s) rfl (by decide)),aB,<-ck,<-hF];show(aw (cw (cg aK) (au 3) Ot) (aO aZ) [qL q, qL R, qL F, qn] s1).fin=_;rw[aA,dA,cj,show aK [qL q, qL R, qL F, qn] s1=.ok (.loc q) s1 from rfl,av,bM (aU (x1.2 _ _ hq)),bh,fh,e2,aB];rfl
 .rw[V1]at F2;have e:(row.filter fun t=>(rows.filter fun r=>dvd r.2.1 t.1).isEmpty)=dF row (rows.map (·.2.1)):=by
   unfold dF;refine Zz fun t _=>?_;rw[X0,List.isEmpty_iff,List.filter_eq_nil_iff,Yz,tq];constructor
   .intro h f mf;obtain⟨r,mr,rfl⟩:=VG.mp mf;exact Y6.mpr (h r mr)
   .intro h r mr;rw[h r.2.1 (W? mr)];decide
  rw[e]at F2;exact F2
abbrev Lo:MB:=dY (eu (cF (bN (aq PM.dN (aa aZ ao)))) (bN (ah ltV aZ bT))) (aO (mC (.bl false))) bg
theorem wz{s:ae}{x0 x1:Option ak}:∀(es:List Nat)(y:Option ak),∃y',forL (fun _=>True) (au 2) Lo (nV es) [x0,x1,y] s=.nx [x0,x1,y'] s
  |[],y=>⟨y,by show forL _ _ _ [] _ s=_;unfold forL;rw[Vo trivial]⟩
  |e::es,y=>by
    obtain⟨y',ih⟩:=wz es (some (.int (e:Int)));refine⟨y',?_⟩;show forL _ _ _ (.int (e:Int)::nV es) _ s=_;rw[fT (g:=fun _=>True) trivial (show au 2 (.int (e:Int)) [x0,x1,y]=some [x0, x1, qN e]from rfl) (show Lo [x0, x1, qN e] s=.nx [x0, x1, qN e] s from ej (jo (s1:=s) (iR (bq (by rw[aC (bS (v:=.int (e:Int)) (s1:=s) rfl),kg]))) (bq (by
      rw[ax (x:=.int (e:Int)) (s1:=s) rfl (y:=.int 0) (s2:=s) rfl];show bI.ok (ak.bl (decide ((e:Int)<0))) s=_;rw[VD (by lia)]))))]
    exact ih
theorem wA{s:ae}{es:List Nat}{aj:Nat}(h:es.length=aj):PM.bL [.tup (nV es),.int (aj:Int)] s=.ok (.bl true) s:=by
 obtain⟨y,lp⟩:=wz (s:=s) (x0:=some (.tup (nV es))) (x1:=some (.int (aj:Int))) es none;have f1:dY (eu (cF (bN (u? "tuple" aK))) (bN (ah iZ (aq c_ (aa aK ao)) bf))) (aO (mC (.bl false))) bg [some (.tup (nV es)), qN aj, qn] s=.nx [some (.tup (nV es)), qN aj, qn] s:=by
  refine ej (jo (s1:=s) (iR (bq (by rw[vM,show aK [some (.tup (nV es)), qN aj, qn] s=.ok (.tup (nV es)) s from rfl,av,pW]))) (bq ?_));rw[ax (x:=.int (aj:Int)) (s1:=s) (by
   rw[aC (bS (v:=.tup (nV es)) (s1:=s) rfl)];show bI.ok (ak.int ((nV es).length:Int)) s=_;unfold nV;rw[Vi,h]) (y:=.int (aj:Int)) (s2:=s) rfl,pU,Wx]
  rfl
 unfold PM.bL;rw[bB (np:=2) (us:=[ak.tup (nV es),.int (aj:Int)]) rfl];show(aw (dY _ _ _) (aw (cw (cg aK) (au 2) Lo) (aO (mC (.bl true)))) [some (.tup (nV es)), qN aj, qn] s).fin=_;rw[aA,f1,aB,aA,dA,cj,show aK [some (.tup (nV es)), qN aj, qn] s=.ok (.tup (nV es)) s from rfl,av];show(((bI.ok (nV es,fun _=>True) s:bI Itm).H! _ _).cJ _).fin=_;rw[bh,fh,lp,aB];rfl
abbrev Lp:MB:=aw (aE 4 (ah aY aK bt)) (aw (dY (eu (cF (bN (u? "tuple" c6))) (eu (bN (ah iZ (aq c_ (aa c6 ao)) iP)) (cF (bN (aq PM.bL (aa (ah aY c6 bT) (aa aZ ao))))))) (aO (mC (.bl false))) bg) (aw (dY (eu (cF (bN (aq PM.dN (aa (ah aY c6 b!) ao)))) (eu (bN (ah ltV (ah aY c6 b!) b!)) (bN (ah O4 (ah aY c6 b!) bf)))) (aO (mC (.bl false))) bg) (dY (vE (bN (ah qX bt bT)) (bN (ah LV (ah aY (ah aY aK (ah dr bt b!)) bT) (ah aY c6 bT)))) (aO (mC (.bl false))) bg)))
structure qy(p:Int)(aj:Nat)(l:List Tm):Prop where
 len:∀t∈l,t.1.length=aj
 num:∀t∈l,1<=t.2/\t.2<p
 Ew:SO.cB (l.map fun t=>iE t.1)
theorem Lq{a c:List Nat}{st:ae}(ha:a≠[])(hc:c≠[]):LV (.tup (nV a)) (.tup (nV c)) st=.ok (.bl (!(SO.lexLt (iE c) (iE a)))) st:=by rw[e?,e?];exact K' (a:=iE a) (b:=iE c) (fun z=>ha (XN.mp z)) (fun z=>hc (XN.mp z))
theorem Ex{s:ae}{q aj:Nat}{p:Int}{l:List Tm}(m1:1<=aj)(hq:s[q]?=some (.lst (l.map tM)))(S:qy p aj l){k:Nat}(hk:k<l.length){y:Option ak}:
  Lp [qL q, qI p, qN aj, qN k, y] s=.nx [qL q, qI p, qN aj, qN k, some (tM l[k])] s:=by
 obtain⟨t,ht⟩:∃t,t=l[k]:=⟨_,rfl⟩
 have mt:t∈l:=by rw[ht];exact Wj _
 rw[<-ht];have iq:=aU hq;have at_:∀{j:Nat}{u:Tm},l[j]?=some u->aY (.loc q) (.int (j:Int)) s=.ok (tM u) s:=fun{j u}e=>gX iq (dH (by rw[VB,e];rfl));obtain⟨μ,hμ⟩:∃μ:MN.Env,μ=[qL q, qI p, qN aj, qN k, some (tM t)]:=⟨_,rfl⟩
 have f1:aE 4 (ah aY aK bt) [qL q, qI p, qN aj, qN k, y] s=.nx μ s:=by rw[aR (v:=tM t) (s1:=s) (by rw[ax (x:=.loc q) (s1:=s) rfl (y:=.int (k:Int)) (s2:=s) rfl];exact at_ (by rw[Vq hk,ht])),hμ];rfl
 have v4:c6 μ s=.ok (tM t) s:=by rw[hμ];rfl
 have i0:ah aY c6 bT μ s=.ok (.tup (nV t.1)) s:=by rw[ax v4 (y:=.int 0) (s2:=s) rfl];rfl
 have i1:ah aY c6 b! μ s=.ok (.int t.2) s:=by rw[ax v4 (y:=.int 1) (s2:=s) rfl];rfl
 have f2:dY (eu (cF (bN (u? "tuple" c6))) (eu (bN (ah iZ (aq c_ (aa c6 ao)) iP)) (cF (bN (aq PM.bL (aa (ah aY c6 bT) (aa aZ ao))))))) (aO (mC (.bl false))) bg μ s=.nx μ s:=by
  refine ej (jo (s1:=s) (iR (bq (by rw[vM,v4,av];exact pW))) (jo (s1:=s) (bq ?_) (iR (bq ?_))))
  .rw[ax (x:=.int 2) (s1:=s) (by rw[aC (bS v4)];rfl) (y:=.int 2) (s2:=s) rfl];rfl
  .rw[aC (dZ i0 (w:=.int (aj:Int)) (s2:=s) (by rw[hμ];rfl)),wA (S.len t mt)]
 have f3:dY (eu (cF (bN (aq PM.dN (aa (ah aY c6 b!) ao)))) (eu (bN (ah ltV (ah aY c6 b!) b!)) (bN (ah O4 (ah aY c6 b!) bf)))) (aO (mC (.bl false))) bg μ s=.nx μ s:=by
  have nm:=S.num t mt;refine ej (jo (s1:=s) (iR (bq (by rw[aC (bS i1),kg]))) (jo (s1:=s) (bq ?_) (bq ?_)))
  .rw[ax i1 (y:=.int 1) (s2:=s) rfl];show bI.ok (ak.bl (decide (t.2<1))) s=_;rw[VD (by lia)]
  .rw[ax i1 (y:=.int p) (s2:=s) (by rw[hμ];rfl)];show bI.ok (ak.bl (decide (p<=t.2))) s=_;rw[VD (by lia)]
 have f4:dY (vE (bN (ah qX bt bT)) (bN (ah LV (ah aY (ah aY aK (ah dr bt b!)) bT) (ah aY c6 bT)))) (aO (mC (.bl false))) bg μ s=.nx μ s:=by
  refine ej ?_;have t0:bN (ah qX bt bT) μ s=.ok (decide ((0:Int)<(k:Int))) s:=bq (by rw[ax (x:=.int (k:Int)) (s1:=s) (by rw[hμ];rfl) (y:=.int 0) (s2:=s) rfl];rfl);cases k with
  |zero=>rw[zf,t0,av];rfl
  |succ j=>
   rw[VF (by lia)]at t0;rw[zf,t0,av,Dk];have lj:j<l.length:=by lia
   have e1:ah dr bt b! μ s=.ok (.int (j:Int)) s:=by rw[ax (x:=.int ((j+1:Nat):Int)) (s1:=s) (by rw[hμ];rfl) (y:=.int 1) (s2:=s) rfl];show bI.ok (ak.int (((j+1:Nat):Int)-1)) s=_;rw[show((j+1:Nat):Int)-1=(j:Int) by lia]
   have e2:ah aY (ah aY aK (ah dr bt b!)) bT μ s=.ok (.tup (nV l[j].1)) s:=by rw[ax (x:=tM l[j]) (s1:=s) (by rw[ax (x:=.loc q) (s1:=s) (by rw[hμ];rfl) e1];exact at_ (Vq lj)) (y:=.int 0) (s2:=s) rfl];rfl
   refine bq ?_;have ne:∀u∈l,u.1≠[]:=fun u mu z=>by have:=S.len u mu;rw[z,VJ]at this;lia
   have fl:=WB.mp (V8.mp S.Ew) j (j+1) lj hk (V? j);rw[<-ht]at fl;rw[ax e2 i0,Lq (ne _ (Wj _)) (ne t mt),fl];rfl
 show aw _ _ _ s=_;rw[aA,f1,aB,aA,f2,aB,aA,f3,aB,f4,hμ]
theorem wB{s:ae}{q aj:Nat}{p:Int}{l:List Tm}(m1:1<=aj)(hq:s[q]?=some (.lst (l.map tM)))(S:qy p aj l):∀(m j:Nat)(y3 y4:Option ak),j+m=l.length ->
  ∃z3 z4,forL (fun _=>True) (au 3) Lp ((List.range' j m).map fun(k:Nat)=>ak.int (k:Int)) [qL q, qI p, qN aj, y3, y4] s=.nx [qL q, qI p, qN aj, z3, z4] s
 |0,j,y3,y4,_=>⟨y3,y4,by show forL _ _ _ [] _ s=_;unfold forL;rw[Vo trivial]⟩
 |m+1,j,y3,y4,h=>by obtain⟨z3,z4,ih⟩:=wB m1 hq S m (j+1) (some (.int (j:Int))) (some (tM (l[j]'(by lia)))) (by lia);refine⟨z3,z4,?_⟩;rw[WK,Vl,fT (g:=fun _=>True) trivial (show au 3 (.int (j:Int)) [qL q, qI p, qN aj, y3, y4]=some [qL q, qI p, qN aj, qN j, y4]from rfl) (Ex m1 hq S (by lia))];exact ih
theorem Ey{s:ae}{q aj:Nat}{p:Int}{l:List Tm}(m1:1<=aj)(hq:s[q]?=some (.lst (l.map tM)))(S:qy p aj l)(hl:l.length<=1000):PM.cG [.loc q,.int p,.int (aj:Int)] s=.ok (.bl true) s:=by
 obtain⟨z3,z4,lp⟩:=wB m1 hq S l.length 0 none none (by lia);have f1:dY (cF (bN (u? "list" aK))) (aO (mC (.bl false))) bg [qL q, qI p, qN aj, qn, qn] s=.nx [qL q, qI p, qN aj, qn, qn] s:=
  ej (iR (bq (by rw[vM,show aK [qL q, qI p, qN aj, qn, qn] s=.ok (.loc q) s from rfl,av,is_list hq])))
 unfold PM.cG;rw[bB (np:=3) (us:=[ak.loc q,.int p,.int (aj:Int)]) rfl];show(aw (dY _ _ _) (aw (cw (bY (aa (aq c_ (aa aK ao)) ao)) (au 3) Lp) (aO (mC (.bl true)))) [qL q, qI p, qN aj, qn, qn] s).fin=_;rw[aA,f1,aB,aA,dA,jr (j:=((l.map tM).length:Int)) (s1:=s) (bS (by rw[aC (bS (v:=.loc q) (s1:=s) rfl),iB (aU hq)])) (by lia) (by rw[Vi];lia),bh,fh,VR,gz,Vi,lp,aB];rfl
abbrev Lr:MB:=dY (cF (bN (aq PM.cG (aa c6 (aa bf (aa aZ ao)))))) (aO (mC (.bl false))) bg
theorem wC{s:ae}{S aj:Nat}{p:Int}{us:List ak}{x3:Option ak}(m1:1<=aj)(hS:ai s S=some us):∀(W:List (Nat×List Tm))(y:Option ak),(∀x∈W,s[x.1]?=some (.lst (x.2.map tM))/\qy p aj x.2/\x.2.length<=1000) ->
    ∃y',forL (fun az=>ai az S=some us) (au 4) Lr (wV W) [qL S, qI p, qN aj, x3, y] s=.nx [qL S, qI p, qN aj, x3, y'] s
  |[],y,_=>⟨y,by show forL _ _ _ [] _ s=_;unfold forL;rw[Vo hS]⟩
  |x::W,y,h=>by
    obtain⟨h1,h2,h3⟩:=h x Vm;obtain⟨y',ih⟩:=wC m1 hS W (some (.loc x.1)) fun z m=>h z (Vk _ m);refine⟨y',?_⟩;show forL _ _ _ (.loc x.1::wV W) _ s=_;rw[fT (g:=fun az=>ai az S=some us) hS (show au 4 (.loc x.1) [qL S, qI p, qN aj, x3, y]=some [qL S, qI p, qN aj, x3, qL x.1]from rfl) (show Lr [qL S, qI p, qN aj, x3, qL x.1] s=.nx [qL S, qI p, qN aj, x3, qL x.1] s from ej (iR (bq (by
      rw[aC (vs:=[.loc x.1,.int p,.int (aj:Int)]) (s1:=s) rfl,Ey m1 h1 h2 h3]))))]
    exact ih
theorem wD{s:ae}{S aj n:Nat}{p:Int}{W:List (Nat×List Tm)}(m1:1<=aj)(hS:s[S]?=some (.lst (wV W)))(h:∀x∈W,s[x.1]?=some (.lst (x.2.map tM))/\qy p aj x.2/\x.2.length<=1000)(hn:W.length=n):PM.d_ [.loc S,.int p,.int (aj:Int),.int (n:Int)] s=.ok (.bl true) s:=by
 obtain⟨y,lp⟩:=wC (x3:=some (.int (n:Int))) m1 (aU hS) W none h;have f1:dY (eu (cF (bN (u? "list" aK))) (bN (ah iZ (aq c_ (aa aK ao)) bt))) (aO (mC (.bl false))) bg [qL S, qI p, qN aj, qN n, qn] s=.nx [qL S, qI p, qN aj, qN n, qn] s:=by refine ej (jo (s1:=s) (iR (bq (by rw[vM,show aK [qL S, qI p, qN aj, qN n, qn] s=.ok (.loc S) s from rfl,av,is_list hS]))) (bq ?_));rw[ax (x:=.int (n:Int)) (s1:=s) (by rw[aC (bS (v:=.loc S) (s1:=s) rfl),iB (aU hS)];unfold wV;rw[Vi,hn]) (y:=.int (n:Int)) (s2:=s) rfl,pU,Wx];rfl
 unfold PM.d_;rw[bB (np:=4) (us:=[ak.loc S,.int p,.int (aj:Int),.int (n:Int)]) rfl];show(aw (dY _ _ _) (aw (cw (cg aK) (au 4) Lr) (aO (mC (.bl true)))) [qL S, qI p, qN aj, qN n, qn] s).fin=_;rw[aA,f1,aB,aA,dA,cj,show aK [qL S, qI p, qN aj, qN n, qn] s=.ok (.loc S) s from rfl,av,bM (aU hS),bh,fh,lp,aB];rfl
def gT(p:Int)(mo:List Mo)(t:Tm):Int:=match eY t.1 0 (mo.map (·.t.1)) with
 |none=>t.2
 |some i=>match mo[i]? with
  |some x=>(t.2*x.bk % p)*x.t.2
  |none=>0
def hT(p:Int)(mo:List Mo)(t:Tm):Tm:=(t.1,gT p mo t)
theorem qA{p:Int}{row:List Tm}{fs:List (List Nat)}:∀(mo:List Mo)(i k:Nat),(oz p row fs i mo)[k]?=(mo[k]?).map fun x=>((dm row fs (i+k)).map (rN x.t.1)).map (kH p x.bk)
 |[],i,k=>by simp[oz]
 |x::mo,i,0=>by rfl
 |x::mo,i,k+1=>by show(oz p row fs (i+1) mo)[k]?=_;rw[qA mo (i+1) k,XR,show i+1+k=i+(k+1) by lia]
theorem Ls{p:Int}{mo:List Mo}{t:Tm}(hp:0<p)(h1:1<=t.2)(h2:t.2<p)(hb:∀x∈mo,x.bk*x.t.2 % p=1):fI p (gT p mo t)=t.2:=by
 unfold fI gT;rw[Vv (by lia),X9 _ (by lia)];cases z:eY t.1 0 (mo.map (·.t.1)) with
 |none=>
  dsimp only;exact XF (by lia) h2
 |some i=>
  dsimp only;obtain⟨_,f,e,_⟩:=fW _ 0 z;rw[Yt,VB]at e;cases y:mo[i]? with
  |none=>rw[y]at e;cases e
  |some x=>
   dsimp only;rw[Xh (t.2*x.bk % p),WR _ (X5 p),<-Xh,Int.mul_assoc,Xh,hb x (Wf y),Zf,WR _ (X5 p)];exact XF (by lia) h2
section
variable{p:Int}{aj S R T:Nat}{row:List Tm}{rows:List i_}{mo:List Mo}{W:List (Nat×List Tm)}
structure Ez(p:Int)(aj S R:Nat)(row:List Tm)(rows:List i_)(mo:List Mo)(W:List (Nat×List Tm))(s:ae):Prop where
 sh:Told s S W
 RO:s[R]?=some (.lst (rows.map fun r=>ak.loc r.1))
 ro:∀r∈rows,s[r.1]?=some (.lst [tN r])
theorem Ez.to{s s':ae}(h:Ez p aj S R row rows mo W s)(x:Xt s s'):Ez p aj S R row rows mo W s':=⟨⟨x.2 _ _ h.sh.1,fun y m=>⟨(h.sh.2 y m).1,x.2 _ _ (h.sh.2 y m).2⟩⟩,x.2 _ _ h.RO,fun r m=>x.2 _ _ (h.ro r m)⟩
abbrev RP:MB:=aE 4 (ah cb c6 (aq PM.cU (aa (ah aY bf cY) (aa (ah aY aZ cY) ao))))
theorem Ad(hm:aj<=8)(fr:∀t∈row,t.1.length=aj)(hl:row.length<=60)(et:mo.map (·.t)=rows.map (·.2))(ew:W.map (·.2)=oz p row (mo.map (·.t.1)) 0 mo)(G:GoodR p aj rows)(p2:p<2 ^ 20){x3:Option ak}:∀(m j:Nat)(s:ae)(A:Nat)(y:Option ak),Ez p aj S R row rows mo W s->j+m=mo.length->s[A]?=some (.lst (((dF row (mo.map (·.t.1))++(List.range j).flatMap (dm row (mo.map (·.t.1)))).map (hT p mo)).map tM)) ->
  ∃(A':Nat)(s':ae)(y':Option ak),forL (fun _=>True) (au 5) RP ((List.range' j m).map fun(k:Nat)=>ak.int (k:Int)) [qI p, qL S, qL R, x3, qL A, y] s=.nx [qI p, qL S, qL R, x3, qL A', y'] s'/\s'[A']?=some (.lst (((dF row (mo.map (·.t.1))++(List.range mo.length).flatMap (dm row (mo.map (·.t.1)))).map (hT p mo)).map tM))/\Xt s s'
 |0,j,s,A,y,_,h,hA=>⟨A,s,y,by show forL _ _ _ [] _ s=_;unfold forL;rw[Vo trivial],by rw[WZ]at h;rw[<-h];exact hA,Xt.refl⟩
 |m+1,j,s,A,y,Z,h,hA=>by
  have lj:j<mo.length:=by lia
  obtain⟨fs,qY⟩:∃fs,fs=mo.map (·.t.1):=⟨_,rfl⟩
  obtain⟨x,hx⟩:∃x,x=mo[j]:=⟨_,rfl⟩
  have ex:mo[j]?=some x:=by rw[Vq lj,hx]
  have lr:rows.length=mo.length:=by have:=We List.length et;rw[Vi,Vi]at this;lia
  have ljr:j<rows.length:=by lia
  obtain⟨r,hr⟩:∃r,r=rows[j]:=⟨_,rfl⟩
  have er:rows[j]?=some r:=by rw[Vq ljr,hr]
  have T_:x.t=r.2:=by have:=We (fun l:List Tm=>l[j]?) et;simp only[VB,ex,er]at this;exact VO this
  have mr:r∈rows:=Wf er;have gw:(W.map (·.2))[j]?=some (((dm row fs j).map (rN x.t.1)).map (kH p x.bk)):=by rw[ew,qA,ex,Wb,qY];rfl
  rw[VB]at gw;cases eW:W[j]? with
  |none=>rw[eW]at gw;cases gw
  |some w=>
   rw[eW]at gw;have RQ:w.2=((dm row fs j).map (rN x.t.1)).map (kH p x.bk):=VO gw;have mw:w∈W:=Wf eW;have gr:=G r mr;have fj:fs[j]?=some x.t.1:=by rw[qY,VB,ex];rfl
   have lp:(dm row fs j).length<=100:=VZ (Wr _ _) (by lia);have lx:x.t.1.length=aj:=by rw[T_];exact gr.1
   obtain⟨s1,e1,P1,x1⟩:=wx (s:=s) (a:=w.1) (r:=r.1) (b:=r.2) (ones:=w.2) ⟨by lia,by lia⟩ (Z.sh.2 w mw).2 (Z.ro r mr) (fun t mt=>by
    rw[RQ]at mt;obtain⟨u,mu,rfl⟩:=VG.mp mt;obtain⟨v,mv,rfl⟩:=VG.mp mu;show(fS v.1 x.t.1).length=r.2.1.length;rw[qv,fr v (hV fj mv).1,lx,gr.1,Yu]) (by rw[gr.1];lia) (by rw[RQ,Vi,Vi];lia)
   have ep:w.2.map (Iz r.2)=(dm row fs j).map (hT p mo):=by rw[RQ,VE,VE];refine VS fun t mt=>?_;obtain⟨rt,dv⟩:=hV fj mt;show(d! (fS t.1 x.t.1) r.2.1,(t.2*x.bk % p)*r.2.2)=(t.1,gT p mo t);rw[<-T_,iJ (by rw[fr t rt,lx]) dv];unfold dm at mt;rw[Wi,V!,qY]at mt;unfold gT;rw[mt.2];dsimp only;rw[ex]
   rw[ep]at P1;have A1:=x1.2 _ _ hA;obtain⟨s2,cL⟩:∃s2,s2=s1++[aP.lst ((((dF row fs++(List.range j).flatMap (dm row fs)).map (hT p mo)).map tM)++((dm row fs j).map (hT p mo)).map tM)]:=⟨_,rfl⟩
   have x2:Xt s1 s2:=by rw[cL];exact Xt.app _
   have lq:(dF row fs++(List.range j).flatMap (dm row fs)).length<=100:=by have:=(kI row fs j).length_eq;have:=Wr (yA fs j) row;lia
   rw[<-qY]at hA A1;have ad:=z0 (s:=s1) A1 P1 (by rw[Vi,Vi,Vi,Vi];lia);rw[<-cL]at ad;obtain⟨A',s3,y',e3,h3,x3'⟩:=Ad hm fr hl et ew G p2 m (j+1) s2 s1.length (some (.int (j:Int))) (Z.to (x1.trans x2)) (by lia) (by
    rw[<-qY,cL,gA,_H,List.flatMap_append,Xx,Ye,VL,<-VM,VT (l₁:=dF row fs++_),VT (l₁:=List.map _ (dF row fs++_))])
   refine⟨A',s3,y',?_,h3,(x1.trans x2).trans x3'⟩;rw[WK,Vl];refine(fT (g:=fun _=>True) trivial (show au 5 (.int (j:Int)) [qI p, qL S, qL R, x3, qL A, y]=some [qI p, qL S, qL R, x3, qL A, qN j]from rfl) (μ2:=[some (.int p),some (.loc S),some (.loc R),x3,some (.loc s1.length),some (.int (j:Int))]) (st2:=s2) ?_).trans e3;have i1:ah aY bf cY [qI p, qL S, qL R, x3, qL A, qN j] s=.ok (.loc w.1) s:=by rw[ax (x:=.loc S) (s1:=s) rfl (y:=.int (j:Int)) (s2:=s) rfl];exact gX (aU Z.sh.1) (dH (by unfold wV;rw[VB,eW];rfl))
   have i2:ah aY aZ cY [qI p, qL S, qL R, x3, qL A, qN j] s=.ok (.loc r.1) s:=by rw[ax (x:=.loc R) (s1:=s) rfl (y:=.int (j:Int)) (s2:=s) rfl];exact gX (aU Z.RO) (dH (by rw[VB,er];rfl))
   show aE 4 _ _ s=_;rw[aR (v:=.loc s1.length) (s1:=s2) (by rw[ax (x:=.loc A) (s1:=s) rfl (by rw[aC (dZ i1 i2),e1]),ad])];rfl
theorem EA{s:ae}(hp:2<=p)(p2:p<2 ^ 20)(m1:1<=aj)(hm:aj<=8)(fr:∀t∈row,t.1.length=aj)(nm:∀t∈row,1<=t.2/\t.2<p)(hf:SO.cB (row.map fun t=>iE t.1))(hl:row.length<=60)(et:mo.map (·.t)=rows.map (·.2))(hb:∀x∈mo,x.bk*x.t.2 % p=1)(ew:W.map (·.2)=oz p row (mo.map (·.t.1)) 0 mo)(G:GoodR p aj rows)(GY:rows.length<=100)(Z:Ez p aj S R row rows mo W s)(hT':s[T]?=some (.lst ((dF row (mo.map (·.t.1))).map tM))):
  ∃(u:Nat)(s':ae),PM.g! [.int p,.loc S,.loc R,.loc T] s=.ok (.loc u) s'/\s'[u]?=some (.lst (row.map tM))/\Xt s s':=by
 obtain⟨fs,qY⟩:∃fs,fs=mo.map (·.t.1):=⟨_,rfl⟩
 obtain⟨s1,ck⟩:∃s1,s1=s++[aP.lst ((dF row fs).map tM)]:=⟨_,rfl⟩
 have x1:Xt s s1:=by rw[ck];exact Xt.app _
 have en:(dF row fs).map (hT p mo)=dF row fs:=by refine(VS fun t mt=>?_).trans (Y? _);unfold dF at mt;rw[Wi,Yz,qY]at mt;show(t.1,gT p mo t)=t;unfold gT;rw[mt.2]
 have lr:rows.length=mo.length:=by have:=We List.length et;rw[Vi,Vi]at this;lia
 obtain⟨A,s2,y,e2,h2,x2⟩:=Ad (p:=p) (S:=S) (R:=R) (x3:=some (.loc T)) hm fr hl et ew G p2 mo.length 0 s1 s.length none (Z.to x1) (by lia) (by
  rw[<-qY,_G,Ye,VL,en,ck];exact gA _ _)
 rw[<-qY]at h2;obtain⟨P,hP⟩:∃P,P=dF row fs++(List.range mo.length).flatMap (dm row fs):=⟨_,rfl⟩
 rw[<-hP]at h2;have pp:P.Perm row:=by have:=BD (row:=row) (fs:=fs);rw[show fs.length=mo.length by rw[qY,Vi]]at this;rw[hP];exact this
 have tb:=BC (p:=p) (g:=gT p mo) hf pp (fun t mt=>⟨Ls (by lia) (nm t mt).1 (nm t mt).2 hb,by have:=nm t mt;lia⟩);have eh:(P.map (hT p mo)).map tM=((P.map fun t=>(t.1,gT p mo t)).map cT).map tV:=Pg _;obtain⟨c1,c3,c4,e3⟩:=ki (p:=A) (aj:=aj) (P:=(P.map fun t=>(t.1,gT p mo t)).map cT) (r:=p) (st:=s2) (by lia) (by rw[<-eh];exact aU h2) (by rw[Vi,Vi,pp.length_eq];lia) (fun t mt=>by
  obtain⟨u,mu,rfl⟩:=VG.mp mt;obtain⟨v,mv,rfl⟩:=VG.mp mu;show(iE v.1).length=aj;unfold iE;rw[Vi];exact fr v (pp.mem_iff.mp mv)) m1
 rw[tb,<-Pg]at e3;refine⟨s2.length+1,s2++[c1,.lst (row.map tM),c3,c4],?_,?_,x1.trans (x2.trans (Xt.app _))⟩
 .unfold PM.g!;rw[bB (np:=4) (us:=[ak.int p,.loc S,.loc R,.loc T]) rfl];show(aw (aE 4 _) (aw (cw _ (au 5) RP) (aO _)) [qI p, qL S, qL R, qL T, qn, qn] s).fin=_;rw[aA,aR (v:=.loc s.length) (s1:=s1) (by
   rw[aC (bS (v:=.loc T) (s1:=s) rfl)];unfold pE;dsimp only;rw[aU hT',ck,qY]),aB]
  show(aw (cw _ (au 5) RP) (aO _) [qI p, qL S, qL R, qL T, qL s.length, qn] s1).fin=_;rw[aA,dA,jr (j:=((rows.map fun r=>ak.loc r.1).length:Int)) (s1:=s1) (bS (by rw[aC (bS (v:=.loc R) (s1:=s1) rfl),iB (aU (x1.2 _ _ Z.RO))])) (by lia) (by rw[Vi];lia),bh,fh,VR,gz,Vi,lr,e2,aB];rw[eV (v:=.loc (s2.length+1)) (by rw[aC (vs:=[.int p,.loc A]) (s1:=s2) rfl,e3])];rfl
 .rw[Vy (by lia),show s2.length+1-s2.length=1 by lia];rfl
end
end PG
namespace PG
open PySem.Spec L2 MN
open PyProof.Rows hiding St kindOf
open Hv (nP jO iN uN)
abbrev Lu:ME:=c9 (aa (aq PM.fA (aa (aq PM.ba (aa bf (aa (ah cb (mC (.int 12)) aK) ao))) (aa aZ ao))) ao)
abbrev T!:ME:=aq PM.fA (aa (aq PM.ba (aa aZ (aa (ah cb (ah cb bf b!) aK) ao))) (aa bt ao))
section
variable{p:Int}{d:Bool}{aj top t c:Nat}{ns:_O}{S:Nat}
theorem wF(ht:top<=8)(hm:aj<=3)(p2:2<=p)(p3:p<=97)(hl:ns.length<=1000):∀(m j:Nat)(s:ae)(rows:List i_)(x:Option ak),ai s S=some (ns.map ak.int)->j+m<=10->(∀r∈rows,s[r.1]?=some (.lst [tN r]))->GoodR p aj rows ->
  ∃(tF:List i_)(s':ae),aW (fun _=>True) (au 0) aJ Lu ((List.range' j m).map fun(k:Nat)=>ak.int (k:Int)) [x, qL S, some (jO p d aj top t c)] s (rows.map fun r=>ak.loc r.1)=.ok (tF.map fun r=>ak.loc r.1) s'/\tF.length=rows.length+m/\Xt s s'/\(∀r∈tF,s'[r.1]?=some (.lst [tN r]))/\GoodR p aj tF
 |0,j,s,rows,x,_,_,hr,G=>⟨rows,s,by show aW _ _ _ _ [] _ s _=_;rw[b8 (g:=fun _=>True) trivial],rfl,Xt.refl,hr,G⟩
 |m+1,j,s,rows,x,h,hj,hr,G=>by
  obtain⟨o,c1,c0⟩:=nP (k:=12+(j:Int)) h (by lia) (by lia) hl;obtain⟨es,k,s1,e1,x1,g1,g2,g3,g4⟩:=uN (d:=d) (t:=t) (c:=c) (x:=o) (s:=s++[.lst []]) ht hm p2 p3;obtain⟨r,Pj⟩:∃r:i_,r=(s1.length,es,k):=⟨_,rfl⟩
  obtain⟨s2,cL⟩:∃s2,s2=s1++[aP.lst [tN r]]:=⟨_,rfl⟩
  have x2:Xt s s2:=(Xt.app _).trans (x1.trans (by rw[cL];exact Xt.app _));have el:Lu [qN j, qL S, some (jO p d aj top t c)] s=.ok (.loc r.1) s2:=by
   show c9 _ _ s=_;rw[eT (vs:=[tN r]) (s1:=s1) (bS (by
    rw[aC (dZ (v:=.int o) (s1:=s++[.lst []]) (by
     rw[aC (vs:=[.loc S,.int (12+(j:Int))]) (s1:=s) rfl,c1]) (w:=jO p d aj top t c) (s2:=s++[.lst []]) rfl),e1,Pj]
    rfl)) (by show 1<=1000;decide),cL,Pj]
  obtain⟨tF,s3,e3,l3,x3,r3,G3⟩:=wF ht hm p2 p3 hl m (j+1) s2 (rows++[r]) (some (.int (j:Int))) (x2.items h) (by lia) (fun q hq=>by
   rcases VX.mp hq with hq|hq
   .exact x2.2 _ _ (hr q hq)
   .rw[VI.mp hq,cL,Pj];exact gA _ _) (fun q hq=>by
   rcases VX.mp hq with hq|hq
   .exact G q hq
   .rw[VI.mp hq,Pj];exact⟨g1,fun e m=>by have:=g2 e m;lia,g3,g4⟩)
  refine⟨tF,s3,?_,by rw[l3];simp only[Vt,Vn,VJ];lia,x2.trans x3,r3,G3⟩;rw[WK,Vl,cE (g:=fun _=>True) trivial (show au 0 (.int (j:Int)) [x, qL S, some (jO p d aj top t c)]=some [qN j, qL S, some (jO p d aj top t c)]from rfl) el];have:(rows.map fun r=>ak.loc r.1)++[.loc r.1]=(rows++[r]).map fun r=>ak.loc r.1:=by rw[VT];rfl
  rw[this];exact e3
theorem Ae(ht:top<=8)(hm:aj<=3)(p2:2<=p)(p3:p<=97)(hl:ns.length<=1000):∀(m j:Nat)(s:ae)(ts:List Tm)(x:Option ak),ai s S=some (ns.map ak.int)->j+m<=10->(∀u∈ts,u.1.length=aj/\∀e∈u.1,e<=8) ->
  ∃(Ou:List Tm)(s':ae),aW (fun _=>True) (au 0) aJ T! ((List.range' j m).map fun(k:Nat)=>ak.int (k:Int)) [x, qI 2, qL S, some (jO p d aj top t c)] s (ts.map tM)=.ok (Ou.map tM) s'/\Ou.length=ts.length+m/\Xt s s'/\∀u∈Ou,u.1.length=aj/\∀e∈u.1,e<=8
 |0,j,s,ts,x,_,_,h=>⟨ts,s,by show aW _ _ _ _ [] _ s _=_;rw[b8 (g:=fun _=>True) trivial],rfl,Xt.refl,h⟩
 |m+1,j,s,ts,x,hS,hj,h=>by
  obtain⟨o,c1,c0⟩:=nP (k:=2+1+(j:Int)) hS (by lia) (by lia) hl;obtain⟨es,k,s1,e1,x1,g1,g2,g3,g4⟩:=uN (d:=d) (t:=t) (c:=c) (x:=o) (s:=s++[.lst []]) ht hm p2 p3;have x2:Xt s s1:=(Xt.app _).trans x1;have el:T! [qN j, qI 2, qL S, some (jO p d aj top t c)] s=.ok (tM (es,k)) s1:=by
   show aq _ _ _ s=_;rw[aC (dZ (v:=.int o) (s1:=s++[.lst []]) (by
    rw[aC (vs:=[.loc S,.int (2+1+(j:Int))]) (s1:=s) rfl,c1]) (w:=jO p d aj top t c) (s2:=s++[.lst []]) rfl),e1]
   rfl
  obtain⟨Ou,s3,e3,l3,x3,r3⟩:=Ae ht hm p2 p3 hl m (j+1) s1 (ts++[(es,k)]) (some (.int (j:Int))) (x2.items hS) (by lia) (fun u hu=>by
   rcases VX.mp hu with hu|hu
   .exact h u hu
   .rw[VI.mp hu];exact⟨g1,g2⟩)
  refine⟨Ou,s3,?_,by rw[l3];simp only[Vt,Vn,VJ];lia,x2.trans x3,r3⟩;rw[WK,Vl,cE (g:=fun _=>True) trivial (show au 0 (.int (j:Int)) [x, qI 2, qL S, some (jO p d aj top t c)]=some [qN j, qI 2, qL S, some (jO p d aj top t c)]from rfl) el];have:ts.map tM++[tM (es,k)]=(ts++[(es,k)]).map tM:=by rw[VT];rfl
  rw[this];exact e3
theorem BF{s:ae}(ht:top<=8)(h8:t<=8)(m1:1<=aj)(hm:aj<=3)(p2:2<=p)(p3:p<=97)(hl:ns.length<=1000)(hS:ai s S=some (ns.map ak.int)):
  ∃(row:List Tm)(q:Nat)(s':ae),PM.d9 [.loc S,.int 2,jO p d aj top t c] s=.ok (.loc q) s'/\s'[q]?=some (.lst (row.map tM))/\Xn s s'/\qy p aj row/\(∀u∈row,jK aj u.1)/\row.length<=10:=by
 obtain⟨o,c1,c0⟩:=nP (k:=2) hS (by decide) (by decide) hl;obtain⟨s1,ck⟩:∃s1,s1=s++[aP.lst []]:=⟨_,rfl⟩
 rw[<-ck]at c1;have x1:Xt s s1:=by rw[ck];exact Xt.app _
 have qm:=g? (m:=(t:Int)+1) (by lia) o;obtain⟨n,hn⟩:∃n:Nat,(n:Int)=o.fmod ((t:Int)+1):=⟨(o.fmod ((t:Int)+1)).toNat,by lia⟩
 obtain⟨ts,s2,e2,l2,x2,h2⟩:=Ae (d:=d) (t:=t) (c:=c) ht hm p2 p3 hl n 0 s1 [] none (x1.items hS) (by lia) (fun u m=>by cases m);obtain⟨s3,lK⟩:∃s3,s3=s2++[aP.lst (ts.map tM)]:=⟨_,rfl⟩
 have x3:Xt s2 s3:=by rw[lK];exact Xt.app _
 have lt:ts.length=n:=by rw[l2,VJ];lia
 obtain⟨d1,d3,d4,e3⟩:=ki (p:=s2.length) (aj:=aj) (P:=ts.map cT) (r:=p) (st:=s3) (by lia) (by rw[<-Pg,lK];exact bx s2 _) (by rw[Vi];lia) (fun u mu=>by
  obtain⟨w,mw,rfl⟩:=VG.mp mu;show(iE w.1).length=aj;unfold iE;rw[Vi];exact(h2 w mw).1) m1
 obtain⟨D,hD⟩:∃D,D=fC p (jU (ts.map cT)):=⟨_,rfl⟩
 rw[<-hD]at e3;have ga:=qi (ts.map cT);have mD:∀x∈D,∃w∈ts,x.1=iE w.1/\1<=x.2/\x.2<p:=fun x mx=>by
  rw[hD]at mx;obtain⟨y,my,e1,e4⟩:=D! mx;obtain⟨z,mz,e5⟩:=VG.mp (ga.2.2 y my);obtain⟨w,mw,rfl⟩:=VG.mp mz;refine⟨w,mw,by rw[e1,<-e5];rfl,?_⟩;have nz:x.2≠0:=by unfold fC at mx;exact bne_iff_ne.mp (Wi.mp mx).2
  unfold fI at e4;rw[Vv (by lia)]at e4;have:=g? (m:=p) (by lia) y.2;lia
 obtain⟨row,Lv⟩:∃row:List Tm,row=D.map fun x=>(x.1.map Int.toNat,x.2):=⟨_,rfl⟩
 have back:∀w:List Nat,(iE w).map Int.toNat=w:=fun w=>by unfold iE;rw[VE];exact(VS fun e _=>VR e).trans (Y? w)
 have er:row.map cT=D:=by rw[Lv,VE];refine(VS fun x mx=>?_).trans (Y? D);obtain⟨w,_,e1,_⟩:=mD x mx;show(iE (x.1.map Int.toNat),x.2)=x;rw[e1,back,<-e1]
 have mr:∀u∈row,∃w∈ts,u.1=w.1/\1<=u.2/\u.2<p:=fun u mu=>by rw[Lv]at mu;obtain⟨x,mx,rfl⟩:=VG.mp mu;obtain⟨w,mw,e1,e4⟩:=mD x mx;exact⟨w,mw,by show x.1.map Int.toNat=w.1;rw[e1,back],e4⟩
 have fl:SO.cB (row.map fun t=>iE t.1):=by have:=yp p ga.1;rw[<-hD,<-er,VE]at this;exact this
 refine⟨row,s3.length+1,s3++[d1,.lst (row.map tM),d3,d4],?_,?_,((x1.trans x2).trans (x3.trans (Xt.app _))).n,⟨fun u mu=>?_,fun u mu=>?_,fl⟩,fun u mu=>?_,?_⟩
 .obtain⟨sh,BQ⟩:∃sh:ak,sh=jO p d aj top t c:=⟨_,rfl⟩
  have RT:FT sh=false:=by rw[BQ];rfl
  rw[<-BQ]at e2⊢;have v2:∀{y:Option ak}{s:ae},aZ [qL S, qI 2, some sh, y] s=.ok sh s:=fun{y s} => kC rfl RT;unfold PM.d9;rw[bB (np:=3) (us:=[ak.loc S,.int 2,sh]) rfl];show(aw (aE 3 _) (aO _) [qL S, qI 2, some sh, qn] s).fin=_;rw[aA,aR (v:=.int (n:Int)) (s1:=s1) (by
   rw[ax (x:=.int o) (s1:=s1) (by rw[aC (vs:=[.loc S,.int 2]) (s1:=s) rfl,c1]) (y:=.int ((t:Int)+1)) (s2:=s1) (by
    rw[ax (x:=.int (t:Int)) (s1:=s1) (by rw[ax v2 (y:=.int 4) (s2:=s1) rfl,BQ];rfl) (y:=.int 1) (s2:=s1) rfl];rfl),iA (by lia),hn]),aB]
  show(aO _ [qL S, qI 2, some sh, qN n] s1).fin=_;rw[eV (v:=.loc (s3.length+1)) (s1:=s3++[d1,.lst (row.map tM),d3,d4]) (by
   rw[aC (dZ (v:=.int p) (s1:=s1) (by rw[ax v2 (y:=.int 0) (s2:=s1) rfl,BQ];rfl) (w:=.loc s2.length) (s2:=s3) (by
    rw[cO,jr (j:=(n:Int)) (s1:=s1) rfl (by lia) (by lia),av,eM,VR,gz,Vo (by rw[Vi,Xu,VQ];lia),show gH 1 [1,0,2] [qL S, qI 2, some sh, qN n]=[qn, qI 2, qL S, some sh]from rfl];rw[V3]at e2;rw[e2,av,lK];rfl)),e3,Pg,er])]
  rfl
 .rw[Vy (by lia),show s3.length+1-s3.length=1 by lia];rfl
 .obtain⟨w,mw,e1,_⟩:=mr u mu;rw[e1];exact(h2 w mw).1
 .obtain⟨w,mw,e1,e4⟩:=mr u mu;exact e4
 .obtain⟨w,mw,e1,_⟩:=mr u mu;rw[e1];exact⟨(h2 w mw).1,fun e me=>by have:=(h2 w mw).2 e me;lia⟩
 .have l1:=D? p (jU (ts.map cT));rw[<-hD]at l1;have l4:=ga.2.1;rw[Vi]at l4;rw[Lv,Vi];lia
end
end PG
namespace MN
open PySem.Spec L2
open PyProof.Rows hiding St kindOf
theorem cV{N P:_S}{sc:Scope}(a:sc.kind=.function:=by rfl)(b:sc.isCoroutine=false:=by rfl)(c:sc.isGenerator=false:=by rfl)(d:N.Nodup:=by decide +kernel)(e:N.take P.length=P:=by rfl)(f:∀x∈P,sc.names.lookup x=some .local\/sc.names.lookup x=some .cell:=by decide +kernel)(g:∀y∈sc.names,y.2≠.free:=by decide +kernel):cN N P sc:=⟨a,b,c,d,e,f,g⟩
theorem lU{X:Cx}{N:_S}{scope:Scope}{k:Nat}{cl:List (Str×_V)}{a9:List Nat}(om:closureFor scope X.env=pure cl:=by rfl)(A:eJ X scope cl a9:=by repeat first|exact .nil|refine .cons (by rfl) (by rfl) (by first|exact Or.inl rfl|exact Or.inr rfl) (by first|exact Or.inl rfl|exact Or.inr rfl) ?_)(has:((relabel scope X.env).names.all fun p => !(p.2 == .cell || p.2 == .free) || (cl.map (·.1)).contains p.1)=true:=by rfl)(f?:(scope.names.all fun p => !(p.2 == .cell))=true:=by rfl)(kind:scope.kind=.function:=by rfl)(names:(scope.names.all fun p => !(p.2 == .local) || scope.names.lookup p.1==some .local)=true:=by rfl)(len:N.length=k+a9.length:=by rfl)(hN:N.drop k=cl.map (·.1):=by rfl):ph X N scope cl k a9:=Nx om A has f? kind names len hN
theorem qB{X:Cx}{N:_S}{scope:Scope}{k:Nat}{cl cl':List (Str×_V)}{a9 caps':List Nat}(om:closureFor scope X.env=pure cl':=by rfl)(A:eJ X scope cl a9:=by repeat first|exact .nil|refine .cons (by rfl) (by rfl) (by first|exact Or.inl rfl|exact Or.inr rfl) (by first|exact Or.inl rfl|exact Or.inr rfl) ?_)(B:eJ X scope cl' caps':=by repeat first|exact .nil|refine .cons (by rfl) (by rfl) (by first|exact Or.inl rfl|exact Or.inr rfl) (by first|exact Or.inl rfl|exact Or.inr rfl) ?_)(has:((relabel scope X.env).names.all fun p => !(p.2 == .cell || p.2 == .free) || (cl'.map (·.1)).contains p.1)=true:=by rfl)(f?:(scope.names.all fun p => !(p.2 == .cell))=true:=by rfl)(kind:scope.kind=.function:=by rfl)(names:(scope.names.all fun p => !(p.2 == .local) || scope.names.lookup p.1==some .local)=true:=by rfl)(len:N.length=k+a9.length:=by rfl)(hN:N.drop k=cl.map (·.1):=by rfl):ph X N scope cl' k a9:=NA om A B has f? kind names len hN
section
variable{P:_X}{w:World}{K:_N}{mg:_L}{base:Heap}
def T?(K:_N)(mg:_L):Prop:=∀x f,W.nsIn K mainGlobals x=some (some (.ref f))->mg x=some (.ref f)
theorem eZ{x:Str}:∀{l:_S},GU mg l->x∈l->mg x=none
 |y::l,h,hx=>by
  rcases VH.mp hx with e|e
  .rw[e];exact h.1
  .exact eZ h.2 e
theorem Ov{x:Str}:∀{l:_S},GV K mg l->x∈l->Kl K mg x
 |y::l,h,hx=>by
  rcases VH.mp hx with e|e
  .rw[e];exact h.1
  .exact Ov h.2 e
theorem FnAt.jP{x:Str}{st:Stmt}{N ps:_S}{k:Nat}{body:MB}(F:dq K x st)(hm:T? K mg)(S:cN N ps (aH st))
  (h:∀ (f:_V) (dC:_T) (A:_W) (outer:List PySem.Env) (s:_U) (H:Hp) (E:XK),N.Nodup->dn k (A.deeper (envOfC x (aH st) s.heap.objs.size f dC)) ->
   j! (fY (jA P w) P w K mg base N x (aH st) f dC A outer s H E) (cA st) (tS (fY (jA P w) P w K mg base N x (aH st) f dC A outer s H E) E body))
  (hb:∀ (kV doc pm:_T) (an:Option _V) (dC ct:_T) (us:_P),us.length=ps.length->bindArgs (W.fnOf x x (dI st) (cA st) (aH st) .none kV doc pm an dC ct) ⟨us,[]⟩=pure (ps.zip us):=by
   first|exact fun _ _ _ _ _ _=>NB fun _=>rfl|exact fun _ _ _ _ _ _=>A0 fun _ _=>rfl|exact fun _ _ _ _ _ _=>Kn fun _ _ _=>rfl|exact fun _ _ _ _ _ _=>len0 rfl):FnAt P w K mg base x (k+1) (eg ps.length N.length body):=by
 obtain⟨f,fd,F,a⟩:=F;exact FnAt.mk F (hm _ _ a) S hb fun dC A outer s H E=>h f dC A outer s H E S.nd
end
end MN
namespace PG
open PySem.Spec L2 MN
open PyProof.Rows hiding St kindOf
theorem HB{p:Int}{aj:Nat}{row:List Tm}{mo:List Mo}(hp:2<=p)(S:qy p aj row)(ff:∀x∈mo,x.t.1.length=aj)(hb:∀x∈mo,x.bk*x.t.2 % p=1){l:List Tm}(ml:l∈oz p row (mo.map (·.t.1)) 0 mo):qy p aj l/\l.length<=row.length:=by
 obtain⟨k,lk,e⟩:=Yi ml;have g:=qA (p:=p) (row:=row) (fs:=mo.map (·.t.1)) mo 0 k;rw[Vq lk,e,Wb]at g;cases z:mo[k]? with
 |none=>rw[z]at g;cases g
 |some x=>
  rw[z]at g;have el:l=((dm row (mo.map (·.t.1)) k).map (rN x.t.1)).map (kH p x.bk):=VO g;have mx:=Wf z;have fk:(mo.map (·.t.1))[k]?=some x.t.1:=by rw[VB,z];rfl
  have ps:=fun{t:Tm}(m:t∈dm row (mo.map (·.t.1)) k)=>hV fk m;refine⟨⟨fun t mt=>?_,fun t mt=>?_,?_⟩,?_⟩
  .rw[el]at mt;obtain⟨u,mu,rfl⟩:=VG.mp mt;obtain⟨v,mv,rfl⟩:=VG.mp mu;show(fS v.1 x.t.1).length=aj;rw[qv,S.len v (ps mv).1,ff x mx,Yu]
  .rw[el]at mt;obtain⟨u,mu,rfl⟩:=VG.mp mt;obtain⟨v,mv,rfl⟩:=VG.mp mu;show 1<=v.2*x.bk % p/\v.2*x.bk % p<p;have nv:=S.num v (ps mv).1;have h1:=XZ (v.2*x.bk) (show p≠0 by lia);have h2:=Xv (v.2*x.bk) (show 0<p by lia);refine⟨?_,h2⟩;by_cases y:v.2*x.bk % p=0
   .exfalso;have h3:v.2*x.bk % p*x.t.2 % p=v.2:=by rw[Xh (v.2*x.bk % p),WR _ (X5 p),<-Xh,Int.mul_assoc,Xh,hb x mx,Zf,WR _ (X5 p)];exact XF (by lia) nv.2
    rw[y,Int.zero_mul,Int.zero_emod]at h3;lia
   .lia
  .rw[el];unfold SO.cB;rw[VE,VE,V8];have h5:(dm row (mo.map (·.t.1)) k).Pairwise fun a c=>SO.lexLt (iE c.1) (iE a.1)=true:=(V8.mp S.Ew).filter _;refine W3 (fun{a c}m1 m2 h=>?_) h5;have a1:=ps m1;have c1:=ps m2;show SO.lexLt (iE (fS c.1 x.t.1)) (iE (fS a.1 x.t.1))=true;rw[uP (by rw[S.len c c1.1,ff x mx]) (by rw[S.len a a1.1,ff x mx]) c1.2 a1.2];exact h
  .rw[el,Vi,Vi];exact Wr _ _
theorem EB{p:Int}{aj:Nat}{row:List Tm}{fs:List (List Nat)}(S:qy p aj row):qy p aj (dF row fs)/\(dF row fs).length<=row.length:=
 ⟨⟨fun t m=>S.len t (Wi.mp m).1,fun t m=>S.num t (Wi.mp m).1,V8.mpr ((V8.mp S.Ew).filter _)⟩,Wr _ _⟩
theorem EC(n:Nat)(l:List Tm):eO (n+3) (l.map tM)=true:=mL fun u hu=>by obtain⟨t,_,rfl⟩:=VG.mp hu;show(eO (n+1) (nV t.1)&&(true&&true))=true;rw[e?,nJ];rfl
theorem uR{s:ae}{a b:Nat}{l:List Tm}(ha:s[a]?=some (.lst (l.map tM)))(hb:s[b]?=some (.lst (l.map tM))):iQ 16 s (.loc a) (.loc b)=some true:=by unfold iQ;simp only[vw,aU ha,aU hb];exact jC s 14 _ (EC 11 l)
end PG
namespace LW
open PySem.Spec L2 MN PG
open PyProof.Rows hiding St kindOf
open Hv (nP jO iN yy uO En tD)
theorem BG{as bs:List i_}(h:yy as bs):bs.map (·.2)=as.map (·.2):=by
 induction h with
 |nil=>rfl
 |cons h ih=>rw[Vl,Vl,ih]
theorem EF(c:aP)(ns:_O)(hl:ns.length<=63)(hi:ai [c] 0=some (ns.map ak.int)):∃az,PM.uB [.loc 0] [c]=.ok (.bl true) az:=by
 obtain⟨s,hs⟩:∃s:ae,s=[c]:=⟨_,rfl⟩
 rw[<-hs]at hi⊢;obtain⟨p,d,aj,top,t,cn,s1,e1,x1,hp,p2,p3,m1,m3,t8,t9⟩:=tD hi (by lia);have h1:=x1.items hi;obtain⟨row,q,s2,e2,q2,x2,SR,FR,aaf⟩:=BF (d:=d) (c:=cn) t8 t9 m1 m3 p2 p3 (by lia) h1;have h2:=x2.items h1;obtain⟨LG,Ua,_⟩:=nP (k:=11) h2 (by decide) (by decide) (by lia);obtain⟨s3,lK⟩:∃s3,s3=s2++[aP.lst []]:=⟨_,rfl⟩
 rw[<-lK]at Ua;have x3:Xt s2 s3:=by rw[lK];exact Xt.app _
 have q4m:=g? (m:=4) (by decide) LG;obtain⟨L,hL⟩:∃L:Nat,(L:Int)=LG.fmod 4:=⟨(LG.fmod 4).toNat,by lia⟩
 obtain⟨rows,s4,e4,l4,x4,r4,G4⟩:=wF (d:=d) (t:=t) (c:=cn) t8 m3 p2 p3 (by lia) L 0 s3 [] none (x3.items h2) (by lia) (fun r m=>by cases m) (fun r m=>by cases m);have lr:rows.length=L:=by rw[l4,VJ];lia
 obtain⟨R,hR⟩:∃R,R=s4.length:=⟨_,rfl⟩
 obtain⟨s5,qw⟩:∃s5,s5=s4++[aP.lst (rows.map fun r=>ak.loc r.1)]:=⟨_,rfl⟩
 have x5:Xt s4 s5:=by rw[qw];exact Xt.app _
 have R5:s5[R]?=some (.lst (rows.map fun r=>ak.loc r.1)):=by rw[qw,hR];exact gA _ _
 have q5:s5[q]?=some (.lst (row.map tM)):=(x3.trans (x4.trans x5)).2 _ _ q2;obtain⟨s6,L0⟩:∃s6,s6=s5++[aP.lst (row.map tM)]:=⟨_,rfl⟩
 have x6:Xt s5 s6:=by rw[L0];exact Xt.app _
 have Ub:=x5.trans x6;have R6:=x6.2 _ _ R5;obtain⟨hs,s7,e7,S7,x7,b7⟩:=uO (us:=rows.map fun r=>ak.loc r.1) rows s6 [] [] none (aU R6) (fun r m=>Ub.2 _ _ (r4 r m)) .nil (fun r m=>by cases m);rw[V1]at S7;obtain⟨D,hD⟩:∃D,D=s7.length:=⟨_,rfl⟩
 obtain⟨s8,EZ⟩:∃s8,s8=s7++[aP.lst (hs.map fun r=>ak.loc r.1)]:=⟨_,rfl⟩
 have x8:Xt s7 s8:=by rw[EZ];exact Xt.app _
 obtain⟨H,hH⟩:∃H,H=s8.length:=⟨_,rfl⟩
 obtain⟨s9,RU⟩:∃s9,s9=s8++[aP.lst [.loc s5.length,.loc D]]:=⟨_,rfl⟩
 have x9:Xt s8 s9:=by rw[RU];exact Xt.app _
 have Uc:=x8.trans x9;have Pl:=x7.trans Uc;have D9:s9[D]?=some (.lst (hs.map fun r=>ak.loc r.1)):=x9.2 _ _ (by rw[EZ,hD];exact gA _ _);have b9:∀r∈hs,s9[r.1]?=some (.lst [tN r]):=fun r m=>Uc.2 _ _ (b7 r m);have Ud:s9[s5.length]?=some (.lst (row.map tM)):=Pl.2 _ _ (by rw[L0];exact gA _ _);have H9:s9[H]?=some (.lst [.loc s5.length,.loc D]):=by rw[RU,hH];exact gA _ _
 have lh:hs.length=rows.length:=S7.len.symm;obtain⟨S,T,kj,RK,W,mo,BA,Ow,RV,mt,mb,mw,_,_⟩:=yz (d:=d) hp D9 b9 (S7.good G4) Ud FR SR.Ew (by lia) (by lia) m1 (by lia);have st:=BG S7;rw[st]at mt;have RW:kj[q]?=some (.lst (row.map tM)):=BA.at_ _ _ trivial ((x6.trans Pl).2 _ _ q5);have Pn:kj[R]?=some (.lst (rows.map fun r=>ak.loc r.1)):=BA.at_ _ _ trivial ((x6.trans Pl).2 _ _ R5);have Lw:∀r∈rows,kj[r.1]?=some (.lst [tN r]):=fun r m=>BA.at_ _ _ trivial ((Ub.trans Pl).2 _ _ (r4 r m));have Ue:kj[H]?=some (.lst [.loc s5.length,.loc D]):=BA.at_ _ _ trivial H9;have Ox:kj[s5.length]?=some (.lst (row.map tM)):=BA.at_ _ _ trivial Ud;have D10:kj[D]?=some (.lst (hs.map fun r=>ak.loc r.1)):=BA.at_ _ _ trivial D9;have b10:∀r∈hs,kj[r.1]?=some (.lst [tN r]):=fun r m=>BA.at_ _ _ trivial (b9 r m);have eqH:iQ 16 kj (.loc s5.length) (.loc q)=some true:=uR Ox RW;have RX:iQ 16 kj (.loc D) (.loc R)=some true:=by unfold iQ;simp only[vw,aU D10,aU Pn];exact En S7 Lw b10
 have ff:∀x∈mo,x.t.1.length=aj:=fun x mx=>by
  have:x.t∈rows.map (·.2):=by rw[<-mt];exact W? mx
  obtain⟨r,mr,e⟩:=VG.mp this;rw[<-e];exact(G4 r mr).1
 have hb:∀x∈mo,x.bk*x.t.2 % p=1:=fun x mx=>(mb x mx).2.2;have sums:∀x∈W,kj[x.1]?=some (.lst (x.2.map tM))/\qy p aj x.2/\x.2.length<=1000:=fun x mx=>by
  have:x.2∈oz p row (mo.map (·.t.1)) 0 mo:=by rw[<-mw];exact W? mx
  have z:=HB p2 SR ff hb this;exact⟨(Ow.2 x mx).2,z.1,by lia⟩
 have RY:=EB (fs:=mo.map (·.t.1)) SR;have T4:mo.length=rows.length:=by have:=We List.length mt;rw[Vi,Vi]at this;exact this
 have lW:W.length=rows.length:=by
  have:=We List.length mw;rw[Vi]at this;have lq:∀(m:List Mo)(i:Nat),(oz p row (mo.map (·.t.1)) i m).length=m.length:=by
   intro m
   induction m with
   |nil=>intro i;rfl
   |cons x m ih=>intro i;show(oz p row (mo.map (·.t.1)) (i+1) m).length+1=_;rw[ih,Vn]
  rw[lq]at this;lia
 have are:=wD (s:=kj) (S:=S) (p:=p) (aj:=aj) m1 Ow.1 sums lW;have iss:=Ey (s:=kj) (p:=p) m1 RV RY.1 (by lia);obtain⟨L6,RM,Ug,Es⟩:=HA (s:=kj) (aj:=aj) (by lia) (by lia) (fun r m=>(G4 r m).1) RW Pn Lw SR.len (by lia);have fse:rows.map (·.2.1)=mo.map (·.t.1):=by have:=We (List.map (·.1)) mt;rw[VE,VE]at this;exact this.symm
 rw[fse]at Ug;have eqT:iQ 16 L6 (.loc T) (.loc kj.length)=some true:=uR (Es.2 _ _ RV) Ug;obtain⟨u,Po,e12,u12,vc⟩:=EA (s:=L6) (S:=S) (R:=R) (T:=T) (rows:=rows) (mo:=mo) (W:=W) p2 (by lia) m1 (by lia) SR.len SR.num SR.Ew (by lia) mt hb mw G4 (by lia) ⟨⟨Es.2 _ _ Ow.1,fun x mx=>⟨(Ow.2 x mx).1,Es.2 _ _ (Ow.2 x mx).2⟩⟩,Es.2 _ _ Pn,fun r m=>Es.2 _ _ (Lw r m)⟩ (Es.2 _ _ RV);have Cc:iQ 16 Po (.loc u) (.loc q)=some true:=uR u12 ((Es.trans vc).2 _ _ RW);refine⟨Po,?_⟩;obtain⟨sh,BQ⟩:∃sh:ak,sh=jO p d aj top t cn:=⟨_,rfl⟩
 have RT:FT sh=false:=by rw[BQ];rfl
 obtain⟨μ,hμ⟩:∃μ:MN.Env->MN.Env,μ=fun r=>some (.loc 0)::some sh::r:=⟨_,rfl⟩
 have v0:∀{r:MN.Env}{s:ae},aK (μ r) s=.ok (.loc 0) s:=fun{r s} => by rw[hμ];rfl
 have v1:∀{r:MN.Env}{s:ae},bf (μ r) s=.ok sh s:=fun{r s} => by rw[hμ];exact kC rfl RT
 have s0:∀{r:MN.Env}{s:ae},ah aY bf bT (μ r) s=.ok (.int p) s:=fun{r s} => by rw[ax v1 (y:=.int 0) (s2:=s) rfl,BQ];rfl
 have sh1:∀{r:MN.Env}{s:ae},ah aY bf b! (μ r) s=.ok (.str (b? d)) s:=fun{r s} => by rw[ax v1 (y:=.int 1) (s2:=s) rfl,BQ];rfl
 have sh2:∀{r:MN.Env}{s:ae},ah aY bf iP (μ r) s=.ok (.int (aj:Int)) s:=fun{r s} => by rw[ax v1 (y:=.int 2) (s2:=s) rfl,BQ];rfl
 rw[<-BQ]at e1 e2 e4;unfold PM.uB;rw[bB (np:=1) (us:=[ak.loc 0]) rfl];show(aw (aE 1 _) PM.kD [qL 0, qn, qn, qn, qn, qn, qn] s).fin=_;rw[aA,aR (v:=sh) (s1:=s1) (by rw[aC (vs:=[.loc 0]) (s1:=s) rfl,e1]),aB];rw[show List.set [qL 0, qn, qn, qn, qn, qn, qn] 1 (some sh)=μ [none,none,none,none,none] by rw[hμ];rfl];unfold PM.kD;rw[aA,aR s0,aB,show(μ [none,none,none,none,none]).set 2 (some (.int p))=μ [qI p, qn, qn, qn, qn] by rw[hμ];rfl];unfold PM.qc;rw[aA,aR (v:=.loc q) (s1:=s2) (by rw[aC (cZ v0 (dZ (v:=.int 2) (s1:=s1) rfl v1)),e2]),aB,show(μ [qI p, qn, qn, qn, qn]).set 3 (some (.loc q))=μ [qI p, qL q, qn, qn, qn] by rw[hμ];rfl];unfold PM.qb;rw[aA,aR (v:=.loc R) (s1:=s5) (by
  rw[cO,jr (j:=LG.fmod 4) (s1:=s3) (bS (jq (by rw[aC (dZ v0 (w:=.int 11) (s2:=s2) rfl),Ua]) (by decide))) (by lia) (by lia),av,eM,<-hL,VR,gz,Vo (by rw[Vi,Xu,VQ];lia)];rw[show gH 1 [0,1] (μ [qI p, qL q, qn, qn, qn])=[qn, qL 0, some sh] by rw[hμ];rfl];show(aW (fun _=>True) (au 0) aJ Lu _ _ s3 ([].map fun(r:i_)=>ak.loc r.1)).iz rh=_;rw[e4,av,qw,hR];rfl),aB,show(μ [qI p, qL q, qn, qn, qn]).set 4 (some (.loc R))=μ [qI p, qL q, qL R, qn, qn] by rw[hμ];rfl]
 unfold PM.qa;rw[aA,aR (v:=.loc H) (s1:=s9) (by
  rw[eT (vs:=[.loc s5.length,.loc D]) (s1:=s8) (dZ (v:=.loc s5.length) (s1:=s6) (by
   rw[aC (bS (v:=.loc q) (s1:=s5) (by rw[hμ];rfl))];unfold pE;dsimp only;rw[aU q5,L0]) (w:=.loc D) (s2:=s8) (by
   rw[cO,cj,show c6 (μ [qI p, qL q, qL R, qn, qn]) s6=.ok (.loc R) s6 by rw[hμ];rfl,av,bM (aU R6),av,eM,Vo (by rw[Vi,VQ];lia)];rw[show gH 1 [] (μ [qI p, qL q, qL R, qn, qn])=[none]from rfl];show(aW _ (au 0) aJ _ _ _ s6 ([].map fun(r:i_)=>ak.loc r.1)).iz rh=_;rw[e7,av,EZ,hD];rfl)) (by show 2<=1000;decide),RU,hH]),aB,show(μ [qI p, qL q, qL R, qn, qn]).set 5 (some (.loc H))=μ [qI p, qL q, qL R, qL H, qn] by rw[hμ];rfl]
 have v2:∀{r:MN.Env}{s:ae},aZ (μ (some (.int p)::r)) s=.ok (.int p) s:=fun{r s} => by rw[hμ];rfl
 have i5:∀{y:Option ak}{s:ae}{j:Nat}{w:ak},s[H]?=some (.lst [.loc s5.length,.loc D])->[ak.loc s5.length,.loc D][j]?=some w->ah aY cY (mC (.int (j:Int))) (μ [qI p, qL q, qL R, qL H, y]) s=.ok w s:=fun{y s j w}h e=>by rw[ax (x:=.loc H) (s1:=s) (by rw[hμ];rfl) (y:=.int (j:Int)) (s2:=s) rfl];exact gX (aU h) (dH e)
 have i90:ah aY cY bT (μ [qI p, qL q, qL R, qL H, qn]) s9=.ok (.loc s5.length) s9:=i5 (j:=0) H9 rfl;have i91:ah aY cY b! (μ [qI p, qL q, qL R, qL H, qn]) s9=.ok (.loc D) s9:=i5 (j:=1) H9 rfl;unfold PM.p?;rw[aA,aR (v:=.tup [.loc S,.loc T]) (s1:=kj) (by rw[aC (cZ v2 (cZ sh1 (dZ i90 i91))),RK]),aB,show(μ [qI p, qL q, qL R, qL H, qn]).set 6 (some (.tup [.loc S,.loc T]))=μ [qI p, qL q, qL R, qL H, some (.tup [.loc S,.loc T])] by rw[hμ];rfl];obtain⟨ν,hν⟩:∃ν:MN.Env,ν=μ [qI p, qL q, qL R, qL H, some (.tup [.loc S,.loc T])]:=⟨_,rfl⟩
 have i50:ah aY cY bT ν kj=.ok (.loc s5.length) kj:=by rw[hν];exact i5 (j:=0) Ue rfl
 have i51:ah aY cY b! ν kj=.ok (.loc D) kj:=by rw[hν];exact i5 (j:=1) Ue rfl
 have w2:∀{s:ae},aZ ν s=.ok (.int p) s:=fun{s} => by rw[hν];exact v2
 have w3:∀{s:ae},bt ν s=.ok (.loc q) s:=fun{s} => by rw[hν,hμ];rfl
 have w4:∀{s:ae},c6 ν s=.ok (.loc R) s:=fun{s} => by rw[hν,hμ];rfl
 have w6:∀{s:ae},fP ν s=.ok (.tup [.loc S,.loc T]) s:=fun{s} => by rw[hν,hμ];rfl
 have Uh:∀{s:ae},ah aY fP bT ν s=.ok (.loc S) s:=fun{s} => by rw[ax w6 (y:=.int 0) (s2:=s) rfl];rfl
 have RZ:∀{s:ae},ah aY fP b! ν s=.ok (.loc T) s:=fun{s} => by rw[ax w6 (y:=.int 1) (s2:=s) rfl];rfl
 have sm:∀{s:ae},ah aY bf iP ν s=.ok (.int (aj:Int)) s:=fun{s} => by rw[hν];exact sh2
 rw[<-hν];have Ui:∀{s:ae}{a b:Nat},iQ 16 s (.loc a) (.loc b)=some true->iZ (.loc a) (.loc b) s=.ok (.bl false) s:=fun{s a b}h=>by unfold iZ;rw[h];rfl
 have Uj:∀{s:ae}{a b:Nat},iQ 16 s (.loc a) (.loc b)=some true->kY (.loc a) (.loc b) s=.ok (.bl true) s:=fun{s a b}h=>by unfold kY;rw[h]
 unfold PM.p!;rw[aA,ej (jo (s1:=kj) (bq (by rw[ax i50 w3,Ui eqH])) (jo (s1:=kj) (bq (by rw[ax i51 w4,Ui RX])) (jo (s1:=kj) (iR (bq (by rw[vM,w6,av,pW]))) (bq (by
  rw[ax (x:=.int 2) (s1:=kj) (by rw[aC (bS w6)];rfl) (y:=.int 2) (s2:=kj) rfl];rfl))))),aB]
 unfold PM.p_;rw[aA,ej (jo (s1:=kj) (iR (bq (by
  rw[aC (cZ Uh (cZ w2 (dZ sm (w:=.int (rows.length:Int)) (s2:=kj) (by rw[aC (bS w4),iB (aU Pn),Vi])))),are]))) (iR (bq (by rw[aC (cZ RZ (dZ w2 sm)),iss])))),aB]
 unfold PM.p9;rw[eV (v:=.bl true) (s1:=Po) (by
  rw[xN,ax RZ (y:=.loc kj.length) (s2:=L6) (by rw[aC (dZ w3 w4),RM]),Uj eqT,av,ui,ax (x:=.loc u) (s1:=Po) (by rw[aC (cZ w2 (cZ Uh (dZ w4 RZ))),e12]) w3,Uj Cc])]
 rfl
end LW
namespace LW
open PySem.Spec L2 MN
open PyProof.Rows hiding St
def top(i:Nat):Stmt:=PySem.Challenge.pw_polyring_k33_reduced_by_terms.main.body.getD i (.Pass ⟨0,0,0,0⟩)
def iW(i j:Nat):Stmt:=match top i with
 |.ClassDef _ _ _ b _ _ _ _ _ _ _=>b.getD j (.Pass ⟨0,0,0,0⟩)
 |s=>s
structure Txt(P:_X)(w:World)(K:_N)(mg:_L)(base:Heap):Prop where
 gl:T? K mg
 b:GU mg ["abs","all","bool","dict","enumerate","int","isinstance","len","list","max","range","sorted","str","sum","tuple","zip"]
 c:GV K mg ["NoRing","NoPrime","NoInverse","NoOrder","ByNought"]
 uS:Glob K mg "SPARE_BITS" (.int 40)
 wG:Glob K mg "MOST_RING" (.int 997)
 qC:Glob K mg "FIRST_PRIMES" PM.d6
 EG:Glob K mg "ORDERS" PM.DI
 cl:KR K mg [("Packing",["by_degree","many","width","guards"]),("Monic",["top","back","tail"])]
theorem HC{X:Cx}{E:XK}{e:Expr}{m:ME}{i:Nat}{x:Str}{pos pos':Pos}(hN:X.N.Nodup)(he:PE X e (tE X E m))(hi:X.N[i]?=some x:=by rfl)(hx:Loc X.env.scope x:=by first|exact Or.inl rfl|exact Or.inr rfl)(hs:swapsWith e (some (.Name x pos')) pos.line X.env=pure false:=by rfl)(hf:X.fn x=true\/X.env.scope.names.lookup x=some .local:=by first|exact .inl rfl|exact .inr rfl|assumption):PS X (.Assign [.Name x pos'] e pos) (tS X E (aE i m)):=J! i hN he hi hx hs hf
section
variable{P:_X}{w:World}{K:_N}{mg:_L}{base:Heap}(T:Txt P w K mg base)
theorem fN:cN ["self","order","many","highest"] ["self","order","many","highest"] (aH (iW 10 0)):=cV
theorem gL:cN ["self","exponents","key","exponent"] ["self","exponents"] (aH (iW 10 1)):=cV
theorem dW:cN ["self","key","field"] ["self","key"] (aH (iW 10 2)):=cV
theorem fO:cN ["self","row"] ["self","row"] (aH (iW 10 6)):=cV
theorem dX:cN ["self","terms"] ["self","terms"] (aH (iW 10 7)):=cV
theorem gM:cN ["self","prime","terms"] ["self","prime","terms"] (aH (iW 29 0)):=cV
theorem yC:cN ["_law_script","_law_shape_here","_law_prime","_law_row","_law_by","_law_handed","_law_found"] ["_law_script"] (aH (top 53)):=cV
seal L2.PE L2.PT L2.PA L2.PS L2.j! L2.PG L2.wX L2.PI L2.yU L2.U7 L2.QL
set_option hygiene false
local macro_rules|`(tactic|trivial)=>`(tactic|repeat' first|((with_reducible show PA _ (_::_) _);refine FW ?_ ?_)|with_reducible exact J6|((with_reducible show PE _ (.Name ..) _);first|exact JU _|exact oT (by rfl) T.uS|exact oT (by rfl) T.wG|exact oT (by rfl) T.qC|exact oT (by rfl) T.EG)|((with_reducible show PE _ (.Constant ..) _);first|exact JV|exact Nl|exact JW|exact JX)|((with_reducible show PE _ _ (tG _ _ _ (aq uu _)));refine gf (A! hr.hd) (by rfl) (eZ T.b (by decide +kernel)) PyProof.Rows.Boot.«sum» ?_)|((with_reducible show PE _ _ (tG _ _ _ (aq mH _)));refine g7 AJ (by rfl) (eZ T.b (by decide +kernel)) ZD ?_)|((with_reducible show PE _ _ (tG _ _ _ (aq AL _)));refine gf (AM hr.hd) (by rfl) (eZ T.b (by decide +kernel)) PyProof.Rows.boot_all ?_)|((with_reducible show PE _ _ (tG _ _ _ (aq xC _)));refine gf AI (by rfl) (eZ T.b (by decide +kernel)) PyProof.Rows.boot_abs ?_)|((with_reducible show PE _ _ (tG _ _ _ (aq c_ _)));refine gf AH (by rfl) (eZ T.b (by decide +kernel)) boot_len ?_)|((with_reducible show PE _ _ (tG _ _ _ (aq ye _)));refine g7 (yf hr.hd hr.units) (by rfl) (eZ T.b (by decide +kernel)) ZL ?_)|((with_reducible show PE _ _ (tG _ _ _ (aq uz _)));refine g7 (yn hr.hd) (by rfl) (eZ T.b (by decide +kernel)) Ys ?_)|((with_reducible show PE _ _ (tG _ _ _ (aq lC _)));refine gf yh (by rfl) (eZ T.b (by decide +kernel)) boot_len ?_)|((with_reducible show PE _ _ (tG _ _ _ (aq iV _)));refine gf (yi hr.hd) (by rfl) (eZ T.b (by decide +kernel)) PyProof.Rows.Boot.«max» ?_)|((with_reducible show PE _ _ (tG _ _ _ (aq pE _)));refine g7 AK (by rfl) (eZ T.b (by decide +kernel)) Ys ?_)|((with_reducible show PE _ _ (tG _ _ _ (aq rA _)));refine gf (yg hr.hd) (by rfl) (eZ T.b (by decide +kernel)) PyProof.Rows.Boot.«max» ?_)|((with_reducible show PE _ _ (tG _ _ _ (aq Bf _)));refine g7 ym (by rfl) (eZ T.b (by decide +kernel)) ZL ?_)|((with_reducible show PE _ _ (tG _ _ _ (aq _ _)));refine Ny (by assumption) hr (by decide) (by rfl) (by first|exact pA|exact C8) ?_)|((with_reducible show PE _ _ (tG _ _ _ (vR _ _ _)));refine GW (by assumption) hr (by decide) (by rfl) (by first|exact pA|exact C8) ?_)|((with_reducible show PE _ _ (tG _ _ _ (dj _ _ _ _ _)));refine DN (by assumption) hr (by decide) (by first|exact pA|exact C8) ?_ ?_)|((with_reducible show PE _ _ (tG _ _ _ (bp _ _ _)));first|refine DK (T.cl.1.O! (by decide +kernel)) ?_|refine DK (T.cl.2.1.O! (by decide +kernel)) ?_)|((with_reducible show PE _ _ (tG _ _ _ (ah aY _ _)));refine Km ?_ ?_)|((with_reducible show PE _ _ (tG _ _ _ (ah gi _ _)));refine Ga hr.units ?_ ?_)|((with_reducible show PE _ _ (tG _ _ _ (vD _ _)));refine J1 ?_ ?_)|((with_reducible show PE _ _ (tG _ _ _ (O3 _ _)));refine Nm ?_ ?_)|((with_reducible show PE _ _ (tG _ _ _ (FU _ _ _)));refine Np ?_ ?_ ?_)|((with_reducible show PE _ _ (tG _ _ _ (eB _)));refine J7 ?_)|((with_reducible show PE _ _ (tG _ _ _ (c9 _)));refine J8 ?_)|((with_reducible show PE _ _ (tG _ _ _ (gh)));refine C?)|((with_reducible show PE _ _ (tG _ _ _ (pJ)));refine Dc)|((with_reducible show PE _ (.BinOp ..) _);first|refine KQ ?_ ?_|refine KP ?_ ?_|refine KL ?_ ?_|refine KN ?_ ?_|refine KO ?_ ?_|refine iu Gk ?_ ?_|refine iu Gm ?_ ?_|refine iu G0 ?_ ?_|refine iu K0 ?_ ?_)|((with_reducible show PE _ (.Compare ..) _);first|refine NY hr.units ?_ ?_|refine NZ hr.units ?_ ?_|refine jc CP ?_ ?_|refine jc CQ ?_ ?_|refine jc CS ?_ ?_|refine jc (DX hr.units) ?_ ?_|refine jc CY ?_ ?_|refine jc C0 ?_ ?_)|((with_reducible show PE _ (.UnaryOp ..) _);first|refine J? ?_|refine J2 ?_)|((with_reducible show PE _ (.Call (.Attribute ..) ..) _);first|refine AY ?_ ?_|refine AZ ?_ ?_|refine Gn ?_|refine Dd hr.units ?_ ?_ ?_|refine DS ?_ ?_)|((with_reducible show PE _ _ (tG _ _ _ (u? _ _)));first|refine pG C2 (by rfl) (eZ T.b (by decide +kernel)) (by rfl) (eZ T.b (by decide +kernel)) PyProof.Rows.boot_int ?_|refine pG AO (by rfl) (eZ T.b (by decide +kernel)) (by rfl) (eZ T.b (by decide +kernel)) PyProof.Rows.boot_bool ?_|refine pG C3 (by rfl) (eZ T.b (by decide +kernel)) (by rfl) (eZ T.b (by decide +kernel)) PyProof.Rows.boot_str ?_|refine pG xE (by rfl) (eZ T.b (by decide +kernel)) (by rfl) (eZ T.b (by decide +kernel)) ZD ?_|refine pG AQ (by rfl) (eZ T.b (by decide +kernel)) (by rfl) (eZ T.b (by decide +kernel)) Ys ?_)|((with_reducible show j! _ [_] _);refine CK ?_)|((with_reducible show j! _ (_::_) _);refine yX ?_ ?_)|with_reducible exact J9|((with_reducible show PS _ (.Assign [.Name ..] ..) _);refine HC (by assumption) ?_)|((with_reducible show PS _ (.Assign [.Subscript ..] ..) _);first|refine Gb hr.units ?_ ?_ ?_|refine Ge ?_ ?_ ?_)|((with_reducible show PS _ (.Assign [.Attribute ..] ..) _);first|refine DM (T.cl.1.O! (by decide +kernel)) ?_ ?_|refine DM (T.cl.2.1.O! (by decide +kernel)) ?_ ?_)|((with_reducible show PS _ (.Return none _) _);refine G5)|((with_reducible show PS _ (.Return ..) _);refine J_ ?_)|((with_reducible show PS _ (.If ..) _);refine Nr ?_ ?_ ?_)|((with_reducible show PS _ (.Expr ..) _);refine FY ?_)|((with_reducible show PS _ (.While ..) _);refine C7 vH ?_ ?_)|((with_reducible show PS _ (.For ..) _);refine Ki vH rfl ?_ ?_ ?_)|((with_reducible show PS _ (.Raise ..) _);refine AV xH rfl (Ov T.c (by decide +kernel)) (by rfl) ?_)|((with_reducible show PI _ _ _ (tG _ _ _ (cg _)));refine Kg ?_)|((with_reducible show PI _ _ (.Call ..) _);first|refine AU (by rfl) (eZ T.b (by decide +kernel)) ?_|refine Gf (by rfl) (eZ T.b (by decide +kernel)) ?_|refine Kh _ _ (by rfl) (eZ T.b (by decide +kernel)) ?_|refine Gg (by rfl) (eZ T.b (by decide +kernel)) ?_)|((with_reducible show PG _ (.Name ..) _);exact F_ _ (by assumption))|((with_reducible show PG _ (.Tuple ..) _);refine Kc rfl ?_)|((with_reducible show wX _ (_::_) _);refine C4 ?_ ?_)|with_reducible exact F!|((with_reducible show yU _ [] _);exact F?)|((with_reducible show yU _ [_] _);refine F' ?_)|((with_reducible show PT _ (.Compare ..) _);first|refine NW hr.units ?_ ?_|refine NX hr.units ?_ ?_|refine NU ?_ ?_|refine NV ?_ ?_|refine jd CS ?_ ?_|refine jd (DX hr.units) ?_ ?_|refine jd CY ?_ ?_|refine jd C0 ?_ ?_)|((with_reducible show PT _ (.UnaryOp ..) _);refine J5 ?_)|((with_reducible show PT _ (.BoolOp ..) _);refine QS ?_)|((with_reducible show PT _ _ (tG _ _ _ (bN _)));refine JY ?_)|refine Nn ?_ ?_|refine J3 ?_|refine J4 ?_ ?_|refine FV ?_|refine J0 ?_|((with_reducible show j! _ _ _);first|refine CK ?_|refine yX ?_ ?_))
include T
theorem jV(M:vT K "Packing" "__init__" "Packing.__init__" (iW 10 0)):lu P w K mg base "Packing" 1 PM.cQ:=
 lu.mk M T.cl.1 fN (fun _ _ _ _ _ _=>xK fun _ _ _ _=>rfl) fun f dC A outer s H E hr=>by
 have:=fN.nd;have:(["place","self"]:_S).Nodup:=by decide +kernel
 trivial
 .refine dD (N:=["place","self"]) (k:=1) rfl rfl (lU (cl:=[("self",s.heap.objs.size+1)])) ?_ (fun _ _ _ _=>?_) (fun _ _ _ _=>?_) (fun _ _ _ _=>?_)<;>trivial
variable(kJ:lu P w K mg base "Packing" 1 PM.cQ)
theorem lX(M:vT K "Packing" "key_of" "Packing.key_of" (iW 10 1)):MethAt P w K mg base "Packing" "key_of" 1 PM.cz:=
 MethAt.mk M T.cl.1 gL (fun _ _ _ _ _ _=>A0 fun _ _=>rfl) fun f dC A outer s H E hr=>by
 have:=gL.nd;trivial
variable(mT:MethAt P w K mg base "Packing" "key_of" 1 PM.cz)
theorem h_(M:vT K "Packing" "exponents_of" "Packing.exponents_of" (iW 10 2)):MethAt P w K mg base "Packing" "exponents_of" 1 PM.aX:=
 MethAt.mk M T.cl.1 dW (fun _ _ _ _ _ _=>A0 fun _ _=>rfl) fun f dC A outer s H E hr=>by
 have:=dW.nd;have:(["place","field","key","self"]:_S).Nodup:=by decide +kernel
 trivial
 .refine dD (N:=["place","field","key","self"]) (k:=1) rfl rfl (qB (cl:=[("field",s.heap.objs.size+3),("key",s.heap.objs.size+2),("self",s.heap.objs.size+1)]) (cl':=[("self",s.heap.objs.size+1),("key",s.heap.objs.size+2),("field",s.heap.objs.size+3)]) (caps':=[0,1,2])) ?_ (fun _ _ _ _=>?_) (fun _ _ _ _=>?_) (fun _ _ _ _=>?_)<;>trivial
variable(iL:MethAt P w K mg base "Packing" "exponents_of" 1 PM.aX)
theorem wH(F:dq K "is_whole" (top 15)):FnAt P w K mg base "is_whole" 1 PM.k_:=
 FnAt.jP F T.gl (cV (N:=["thing"]) (P:=["thing"])) (fun _ _ _ _ s _ _ nd hr=>by
 trivial)
variable(yD:FnAt P w K mg base "is_whole" 1 PM.k_)
theorem kK(F:dq K "is_prime_within" (top 16)):FnAt P w K mg base "is_prime_within" 1 PM.bO:=
 FnAt.jP F T.gl (cV (N:=["number"]) (P:=["number"])) (fun _ _ _ _ s _ _ nd hr=>by
 have:(["prime","number"]:_S).Nodup:=by decide +kernel
 trivial
 .refine dD (N:=["prime","number"]) (k:=1) rfl rfl (lU (cl:=[("number",s.heap.objs.size+1)])) ?_ (fun _ _ _ _=>?_) (fun _ _ _ _=>?_) (fun _ _ _ _=>?_)<;>trivial)
variable(lY:FnAt P w K mg base "is_prime_within" 1 PM.bO)
theorem qD(F:dq K "signed_unit" (top 20)):FnAt P w K mg base "signed_unit" 1 PM.dw:=
 FnAt.jP F T.gl (cV (N:=["number"]) (P:=["number"])) (fun _ _ _ _ s _ _ nd hr=>by
 trivial)
variable(rP:FnAt P w K mg base "signed_unit" 1 PM.dw)
theorem mU(F:dq K "whole_inverse" (top 23)):FnAt P w K mg base "whole_inverse" 1 PM.gS:=
 FnAt.jP F T.gl (cV (N:=["number"]) (P:=["number"])) (fun _ _ _ _ s _ _ nd hr=>by
 trivial)
variable(oA:FnAt P w K mg base "whole_inverse" 1 PM.gS)
theorem wI(F:dq K "is_order" (top 26)):FnAt P w K mg base "is_order" 1 PM.jk:=
 FnAt.jP F T.gl (cV (N:=["thing"]) (P:=["thing"])) (fun _ _ _ _ s _ _ nd hr=>by
 trivial)
variable(yE:FnAt P w K mg base "is_order" 1 PM.jk)
theorem ju(F:dq K "check_none_nought" (top 31)):FnAt P w K mg base "check_none_nought" 1 PM.bZ:=
 FnAt.jP F T.gl (cV (N:=["rows","row"]) (P:=["rows"])) (fun _ _ _ _ s _ _ nd hr=>by
 trivial)
variable(jW:FnAt P w K mg base "check_none_nought" 1 PM.bZ)
theorem jv(F:dq K "multiple_of_terms" (top 34)):FnAt P w K mg base "multiple_of_terms" 1 PM.bo:=
 FnAt.jP F T.gl (cV (N:=["prime","terms","factor"]) (P:=["prime","terms","factor"])) (fun _ _ _ _ s _ _ nd hr=>by
 have:(["key","number","factor","prime"]:_S).Nodup:=by decide +kernel
 trivial
 .refine dD (N:=["key","number","factor","prime"]) (k:=2) rfl rfl (qB (cl:=[("factor",s.heap.objs.size+2),("prime",s.heap.objs.size+1)]) (cl':=[("prime",s.heap.objs.size+1),("factor",s.heap.objs.size+2)]) (caps':=[0,2])) ?_ (fun _ _ _ _=>?_) (fun _ _ _ _=>?_) (fun _ _ _ _=>?_)
  .refine p8 hr.hd ?_<;>trivial
  .trivial
  .trivial
  .trivial)
variable(jX:FnAt P w K mg base "multiple_of_terms" 1 PM.bo)
theorem jY(F:dq K "place_of_divisor" (top 37)):FnAt P w K mg base "place_of_divisor" 1 PM.bu:=
 FnAt.jP F T.gl (cV (N:=["guards","top","monics","guarded","place","monic"]) (P:=["guards","top","monics"])) (fun _ _ _ _ s _ _ nd hr=>by
 trivial)
variable(kL:FnAt P w K mg base "place_of_divisor" 1 PM.bu)
theorem oB(F:dq K "add_multiple" (top 38)):FnAt P w K mg base "add_multiple" 1 PM.b_:=
 FnAt.jP F T.gl (cV (N:=["prime","terms","pairs","shift","factor","key","number","place","total"]) (P:=["prime","terms","pairs","shift","factor"])) (fun _ _ _ _ s _ _ nd hr=>by
 trivial) (fun _ _ _ _ _ _=>Ko fun _ _ _ _ _=>rfl)
variable(qE:FnAt P w K mg base "add_multiple" 1 PM.b_)
theorem oC(F:dq K "_law_cell_at" (top 40)):FnAt P w K mg base "_law_cell_at" 1 PM.ba:=
 FnAt.jP F T.gl (cV (N:=["_law_script","_law_k","_law_cell","_law_mixed"]) (P:=["_law_script","_law_k"])) (fun _ _ _ _ s _ _ nd hr=>by
 trivial)
variable(gC:FnAt P w K mg base "_law_cell_at" 1 PM.ba)
theorem rQ(F:dq K "_law_whole" (top 41)):FnAt P w K mg base "_law_whole" 1 PM.dN:=
 FnAt.jP F T.gl (cV (N:=["_law_found"]) (P:=["_law_found"])) (fun _ _ _ _ s _ _ nd hr=>by
 trivial)
variable(lZ:FnAt P w K mg base "_law_whole" 1 PM.dN)
theorem qG(F:dq K "_law_sum_of" (top 42)):FnAt P w K mg base "_law_sum_of" 1 PM.eR:=
 FnAt.jP F T.gl (cV (N:=["_law_prime","_law_pairs","_law_found","_law_pair","_law_rows","_law_exponents"]) (P:=["_law_prime","_law_pairs"])) (fun _ _ _ _ s _ _ nd hr=>by
 trivial
 .refine v7 hr.units (by rfl) T.b.2.2.2.2.2.2.2.2.2.2.2.1 PyProof.Rows.Boot.«sorted» ?_<;>trivial)
variable(km:FnAt P w K mg base "_law_sum_of" 1 PM.eR)
theorem oE(F:dq K "_law_product" (top 43)):FnAt P w K mg base "_law_product" 1 PM.cU:=
 FnAt.jP F T.gl (cV (N:=["_law_ones","_law_others","_law_pairs","_law_one","_law_other","_law_exponents"]) (P:=["_law_ones","_law_others"])) (fun _ _ _ _ s _ _ nd hr=>by
 have:(["_law_k","_law_one","_law_other"]:_S).Nodup:=by decide +kernel
 trivial
 .refine dD (N:=["_law_k","_law_one","_law_other"]) (k:=1) rfl rfl (qB (cl:=[("_law_one",s.heap.objs.size+1),("_law_other",s.heap.objs.size+2)]) (cl':=[("_law_other",s.heap.objs.size+2),("_law_one",s.heap.objs.size+1)]) (caps':=[4,3])) ?_ (fun _ _ _ _=>?_) (fun _ _ _ _=>?_) (fun _ _ _ _=>?_)<;>trivial)
variable(qH:FnAt P w K mg base "_law_product" 1 PM.cU)
theorem uT(F:dq K "_law_term" (top 49)):FnAt P w K mg base "_law_term" 1 PM.fA:=
 FnAt.jP F T.gl (cV (N:=["_law_cell","_law_shape_here","_law_exponents","_law_unknown"]) (P:=["_law_cell","_law_shape_here"])) (fun _ _ _ _ s _ _ nd hr=>by
 trivial)
variable(nQ:FnAt P w K mg base "_law_term" 1 PM.fA)
theorem oF(F:dq K "_law_divides" (top 51)):FnAt P w K mg base "_law_divides" 1 PM.dS:=
 FnAt.jP F T.gl (cV (N:=["_law_one","_law_other","_law_k"]) (P:=["_law_one","_law_other"])) (fun _ _ _ _ s _ _ nd hr=>by
 trivial)
variable(qJ:FnAt P w K mg base "_law_divides" 1 PM.dS)
include mT in
theorem jZ(M:vT K "Packing" "terms_of" "Packing.terms_of" (iW 10 6)):MethAt P w K mg base "Packing" "terms_of" 2 PM.bF:=
 MethAt.mk M T.cl.1 fO (fun _ _ _ _ _ _=>A0 fun _ _=>rfl) fun f dC A outer s H E hr=>by
 have:=fO.nd;have:(["exponents","number","self"]:_S).Nodup:=by decide +kernel
 trivial
 .refine dD (N:=["exponents","number","self"]) (k:=2) rfl rfl (lU (cl:=[("self",s.heap.objs.size+1)])) ?_ (fun _ _ _ _=>?_) (fun _ _ _ _=>?_) (fun _ _ _ _=>?_)<;>trivial
variable(kM:MethAt P w K mg base "Packing" "terms_of" 2 PM.bF)
include iL in
theorem h!(M:vT K "Packing" "sum_of_terms" "Packing.sum_of_terms" (iW 10 7)):MethAt P w K mg base "Packing" "sum_of_terms" 2 PM.aS:=
 MethAt.mk M T.cl.1 dX (fun _ _ _ _ _ _=>A0 fun _ _=>rfl) fun f dC A outer s H E hr=>by
 have:=dX.nd;have:(["key","number","self"]:_S).Nodup:=by decide +kernel
 trivial
 .refine v7 hr.units (by rfl) T.b.2.2.2.2.2.2.2.2.2.2.2.1 PyProof.Rows.Boot.«sorted» ?_
  .refine dD (N:=["key","number","self"]) (k:=2) rfl rfl (lU (cl:=[("self",s.heap.objs.size+1)])) ?_ (fun _ _ _ _=>?_) (fun _ _ _ _=>?_) (fun _ _ _ _=>?_)
   .refine p8 hr.hd ?_<;>trivial
   .trivial
   .trivial
   .trivial
variable(d?:MethAt P w K mg base "Packing" "sum_of_terms" 2 PM.aS)
include yD lY in
theorem yF(F:dq K "is_ring" (top 17)):FnAt P w K mg base "is_ring" 2 PM.ix:=
 FnAt.jP F T.gl (cV (N:=["thing"]) (P:=["thing"])) (fun _ _ _ _ s _ _ nd hr=>by
 trivial)
variable(tH:FnAt P w K mg base "is_ring" 2 PM.ix)
include rP in
theorem BH(F:dq K "shared" (top 21)):FnAt P w K mg base "shared" 2 PM.shared:=
 FnAt.jP F T.gl (cV (N:=["one","other","upper","lower","often","following"]) (P:=["one","other"])) (fun _ _ _ _ s _ _ nd hr=>by
 have:(["high","low","often"]:_S).Nodup:=by decide +kernel
 trivial
 .refine dD (N:=["high","low","often"]) (k:=2) rfl rfl (lU (cl:=[("often",s.heap.objs.size+1)])) ?_ (fun _ _ _ _=>?_) (fun _ _ _ _=>?_) (fun _ _ _ _=>?_)<;>trivial)
variable(EI:FnAt P w K mg base "shared" 2 PM.shared)
include yE in
theorem qK(F:dq K "check_order" (top 27)):FnAt P w K mg base "check_order" 2 PM.dQ:=
 FnAt.jP F T.gl (cV (N:=["order"]) (P:=["order"])) (fun _ _ _ _ s _ _ nd hr=>by
 trivial)
variable(rR:FnAt P w K mg base "check_order" 2 PM.dQ)
include kL qE in
theorem uU(F:dq K "lower_top" (top 36)):FnAt P w K mg base "lower_top" 2 PM.c8:=
 FnAt.jP F T.gl (cV (N:=["prime","guards","left","monics","quotients","top","place","shift","number"]) (P:=["prime","guards","left","monics","quotients"])) (fun _ _ _ _ s _ _ nd hr=>by
 trivial) (fun _ _ _ _ _ _=>Ko fun _ _ _ _ _=>rfl)
variable(wJ:FnAt P w K mg base "lower_top" 2 PM.c8)
include km qH in
theorem rS(F:dq K "_law_total" (top 44)):FnAt P w K mg base "_law_total" 2 PM.g!:=
 FnAt.jP F T.gl (cV (N:=["_law_prime","_law_shares","_law_rows","_law_more","_law_pairs","_law_k"]) (P:=["_law_prime","_law_shares","_law_rows","_law_more"])) (fun _ _ _ _ s _ _ nd hr=>by
 trivial) (fun _ _ _ _ _ _=>xK fun _ _ _ _=>rfl)
variable(uV:FnAt P w K mg base "_law_total" 2 PM.g!)
include lZ in
theorem iX(F:dq K "_law_are_exponents" (top 45)):FnAt P w K mg base "_law_are_exponents" 2 PM.bL:=
 FnAt.jP F T.gl (cV (N:=["_law_found","_law_many","_law_exponent"]) (P:=["_law_found","_law_many"])) (fun _ _ _ _ s _ _ nd hr=>by
 trivial)
variable(jw:FnAt P w K mg base "_law_are_exponents" 2 PM.bL)
include gC in
theorem rT(F:dq K "_law_shape" (top 48)):FnAt P w K mg base "_law_shape" 2 PM.g9:=
 FnAt.jP F T.gl (cV (N:=["_law_script","_law_primes","_law_cell","_law_kind","_law_order","_law_many","_law_top","_law_terms","_law_prime"]) (P:=["_law_script"])) (fun _ _ _ _ s _ _ nd hr=>by
 trivial)
variable(uW:FnAt P w K mg base "_law_shape" 2 PM.g9)
include gC km nQ in
theorem rV(F:dq K "_law_drawn" (top 50)):FnAt P w K mg base "_law_drawn" 2 PM.d9:=
 FnAt.jP F T.gl (cV (N:=["_law_script","_law_at","_law_shape_here","_law_count"]) (P:=["_law_script","_law_at","_law_shape_here"])) (fun _ _ _ _ s _ _ nd hr=>by
 have:(["_law_k","_law_at","_law_script","_law_shape_here"]:_S).Nodup:=by decide +kernel
 trivial
 .refine dD (N:=["_law_k","_law_at","_law_script","_law_shape_here"]) (k:=1) rfl rfl (qB (cl:=[("_law_at",s.heap.objs.size+2),("_law_script",s.heap.objs.size+1),("_law_shape_here",s.heap.objs.size+3)]) (cl':=[("_law_shape_here",s.heap.objs.size+3),("_law_script",s.heap.objs.size+1),("_law_at",s.heap.objs.size+2)]) (caps':=[2,0,1])) ?_ (fun _ _ _ _=>?_) (fun _ _ _ _=>?_) (fun _ _ _ _=>?_)<;>trivial)
variable(uX:FnAt P w K mg base "_law_drawn" 2 PM.d9)
include qJ in
theorem uY(F:dq K "_law_left" (top 52)):FnAt P w K mg base "_law_left" 2 PM.jn:=
 FnAt.jP F T.gl (cV (N:=["_law_row","_law_by","_law_rest","_law_term_here"]) (P:=["_law_row","_law_by"])) (fun _ _ _ _ s _ _ nd hr=>by
 have:(["_law_one","_law_term_here"]:_S).Nodup:=by decide +kernel
 trivial
 .refine dD (N:=["_law_one","_law_term_here"]) (k:=1) rfl rfl (lU (cl:=[("_law_term_here",s.heap.objs.size+1)])) ?_ (fun _ _ _ _=>?_) (fun _ _ _ _=>?_) (fun _ _ _ _=>?_)<;>trivial)
variable(wK:FnAt P w K mg base "_law_left" 2 PM.jn)
include kJ in
theorem qM(F:dq K "packing_for" (top 11)):FnAt P w K mg base "packing_for" 3 PM.dR:=
 FnAt.jP F T.gl (cV (N:=["order","rows","terms","row","many"]) (P:=["order","rows"])) (fun _ _ _ _ s _ _ nd hr=>by
 have:(["exponents","number"]:_S).Nodup:=by decide +kernel
 trivial
 .refine GI (by rfl) (by rfl) T.b.2.2.2.2.2.2.2.2.2.1 PyProof.Rows.Boot.«max» ?_ ?_
  .refine dD (N:=["exponents","number"]) (k:=2) rfl rfl (lU (cl:=[])) ?_ (fun _ _ _ _=>?_) (fun _ _ _ _=>?_) (fun _ _ _ _=>?_)<;>trivial
  .trivial)
variable(rW:FnAt P w K mg base "packing_for" 3 PM.dR)
include tH in
theorem rX(F:dq K "check_ring" (top 18)):FnAt P w K mg base "check_ring" 3 PM.gj:=
 FnAt.jP F T.gl (cV (N:=["ring"]) (P:=["ring"])) (fun _ _ _ _ s _ _ nd hr=>by
 trivial)
variable(uZ:FnAt P w K mg base "check_ring" 3 PM.gj)
include tH in
theorem qO(F:dq K "check_prime" (top 19)):FnAt P w K mg base "check_prime" 3 PM.dO:=
 FnAt.jP F T.gl (cV (N:=["prime"]) (P:=["prime"])) (fun _ _ _ _ s _ _ nd hr=>by
 trivial)
variable(rY:FnAt P w K mg base "check_prime" 3 PM.dO)
include jX d? in
theorem jx(F:dq K "sums_of_quotients" (top 33)):FnAt P w K mg base "sums_of_quotients" 3 PM.bX:=
 FnAt.jP F T.gl (cV (N:=["prime","packing","monics","quotients","sums","monic","terms"]) (P:=["prime","packing","monics","quotients"])) (fun _ _ _ _ s _ _ nd hr=>by
 trivial) (fun _ _ _ _ _ _=>xK fun _ _ _ _=>rfl)
variable(j0:FnAt P w K mg base "sums_of_quotients" 3 PM.bX)
include wJ in
theorem mV(F:dq K "rest_of_terms" (top 35)):FnAt P w K mg base "rest_of_terms" 3 PM.c!:=
 FnAt.jP F T.gl (cV (N:=["prime","guards","terms","monics","quotients","left","rest","top"]) (P:=["prime","guards","terms","monics","quotients"])) (fun _ _ _ _ s _ _ nd hr=>by
 trivial) (fun _ _ _ _ _ _=>Ko fun _ _ _ _ _=>rfl)
variable(oG:FnAt P w K mg base "rest_of_terms" 3 PM.c!)
include lZ jw in
theorem qP(F:dq K "_law_is_sum" (top 46)):FnAt P w K mg base "_law_is_sum" 3 PM.cG:=
 FnAt.jP F T.gl (cV (N:=["_law_found","_law_prime","_law_many","_law_k","_law_term_here"]) (P:=["_law_found","_law_prime","_law_many"])) (fun _ _ _ _ s _ _ nd hr=>by
 trivial)
variable(ko:FnAt P w K mg base "_law_is_sum" 3 PM.cG)
include oA EI uZ in
theorem yG(F:dq K "inverse" (top 22)):FnAt P w K mg base "inverse" 4 PM.inverse:=
 FnAt.jP F T.gl (cV (N:=["ring","number"]) (P:=["ring","number"])) (fun _ _ _ _ s _ _ nd hr=>by
 trivial)
variable(BI:FnAt P w K mg base "inverse" 4 PM.inverse)
include ko in
theorem mW(F:dq K "_law_are_sums" (top 47)):FnAt P w K mg base "_law_are_sums" 4 PM.d_:=
 FnAt.jP F T.gl (cV (N:=["_law_found","_law_prime","_law_many","_law_count","_law_row"]) (P:=["_law_found","_law_prime","_law_many","_law_count"])) (fun _ _ _ _ s _ _ nd hr=>by
 trivial) (fun _ _ _ _ _ _=>xK fun _ _ _ _=>rfl)
variable(oH:FnAt P w K mg base "_law_are_sums" 4 PM.d_)
include BI in
theorem l5(M:vT K "Monic" "__init__" "Monic.__init__" (iW 29 0)):lu P w K mg base "Monic" 5 PM.cR:=
 lu.mk M T.cl.2.1 gM (fun _ _ _ _ _ _=>Kn fun _ _ _=>rfl) fun f dC A outer s H E hr=>by
 have:=gM.nd;have:(["key","number","prime","self"]:_S).Nodup:=by decide +kernel
 trivial
 .refine dD (N:=["key","number","prime","self"]) (k:=2) rfl rfl (qB (cl:=[("prime",s.heap.objs.size+2),("self",s.heap.objs.size+1)]) (cl':=[("self",s.heap.objs.size+1),("prime",s.heap.objs.size+2)]) (caps':=[0,1])) ?_ (fun _ _ _ _=>?_) (fun _ _ _ _=>?_) (fun _ _ _ _=>?_)
  .refine p8 hr.hd ?_<;>trivial
  .trivial
  .trivial
  .trivial
variable(mX:lu P w K mg base "Monic" 5 PM.cR)
include kM d? rW j0 oG mX in
theorem rZ(F:dq K "reduced_by" (top 32)):FnAt P w K mg base "reduced_by" 7 PM.gy:=
 FnAt.jP F T.gl (cV (N:=["prime","order","row","by","packing","monics","quotients","rest"]) (P:=["prime","order","row","by"])) (fun _ _ _ _ s _ _ nd hr=>by
 have:(["one","packing","prime"]:_S).Nodup:=by decide +kernel
 have:(["one"]:_S).Nodup:=by decide +kernel
 trivial
 .refine MN.kA 5 (N:=["one","packing","prime"]) (k:=1) nd rfl rfl (qB (cl:=[("packing",s.heap.objs.size+2),("prime",s.heap.objs.size+1)]) (cl':=[("prime",s.heap.objs.size+1),("packing",s.heap.objs.size+2)]) (caps':=[0,4])) ?_ (fun _ _ _ _=>?_) (fun _ _ _ _=>?_) (fun _ _ _ _=>?_)<;>trivial
 .refine MN.kA 6 (N:=["one"]) (k:=1) nd rfl rfl (lU (cl:=[])) ?_ (fun _ _ _ _=>?_) (fun _ _ _ _=>?_) (fun _ _ _ _=>?_)<;>trivial) (fun _ _ _ _ _ _=>xK fun _ _ _ _=>rfl)
variable(u3:FnAt P w K mg base "reduced_by" 7 PM.gy)
include jW rR rY u3 in
theorem yH(F:dq K "reduced" (top 30)):FnAt P w K mg base "reduced" 8 PM.reduced:=
 FnAt.jP F T.gl (cV (N:=["prime","order","row","by"]) (P:=["prime","order","row","by"])) (fun _ _ _ _ s _ _ nd hr=>by
 trivial) (fun _ _ _ _ _ _=>xK fun _ _ _ _=>rfl)
variable(BJ:FnAt P w K mg base "reduced" 8 PM.reduced)
include gC nQ uV uW uX wK ko oH BJ in
theorem Lx{f:_V}{fd:FuncData}(F:ES K "law" "law" (top 53) f fd):fX P w K mg base (jA P w) 9 f fd ["_law_script"] (CJ ⟨K,mg,[]⟩ PM.uB):=
 ug F yC fun dC A outer s H E hr=>by
 have:=yC.nd;have:(["_law_k","_law_script","_law_shape_here"]:_S).Nodup:=by decide +kernel
 have:(["_law_one"]:_S).Nodup:=by decide +kernel
 trivial
 .refine MN.kA 4 (N:=["_law_k","_law_script","_law_shape_here"]) (k:=1) yC.nd rfl rfl (qB (cl:=[("_law_script",s.heap.objs.size+1),("_law_shape_here",s.heap.objs.size+2)]) (cl':=[("_law_shape_here",s.heap.objs.size+2),("_law_script",s.heap.objs.size+1)]) (caps':=[1,0])) ?_ (fun _ _ _ _=>?_) (fun _ _ _ _=>?_) (fun _ _ _ _=>?_)<;>trivial
 .refine dD (N:=["_law_one"]) (k:=1) rfl rfl (lU (cl:=[])) ?_ (fun _ _ _ _=>?_) (fun _ _ _ _=>?_) (fun _ _ _ _=>?_)<;>trivial
end
theorem all_mk{l:W.OpenLaw}{w:World}{K:_N}{h:Heap}{mg:_L}{fa:_V}(X:K.In h)(G:h.Ns mainGlobals mg)(hfa:mg "law" = some (.ref fa)){R0:_V}{R7 Oy:Option _V}{R8:Array (_Q)}{R9 Oz OA OB LA OC:_T}{r6:Tok}{u4:Tok}{iS:_V}{oI:Option _V}{oJ:Nat}{oK:Array (_Q)}{mY mZ m7 m8 m9 m_ m? nc ng nh l6:Tok}{tJ:_V}{BK:Option _V}{BL:Nat}{BM:Array (_Q)}{yI yJ:Tok}(m0:vT K "Packing" "__init__" "Packing.__init__" (iW 10 0))(m1:vT K "Packing" "key_of" "Packing.key_of" (iW 10 1))(m2:vT K "Packing" "exponents_of" "Packing.exponents_of" (iW 10 2))(h3:dq K "is_whole" (top 15))(h4:dq K "is_prime_within" (top 16))(h5:dq K "signed_unit" (top 20))(h6:dq K "whole_inverse" (top 23))(h7:dq K "is_order" (top 26))(h8:dq K "check_none_nought" (top 31))(h9:dq K "multiple_of_terms" (top 34))(Ox:dq K "place_of_divisor" (top 37))(R_:dq K "add_multiple" (top 38))(R!:dq K "_law_cell_at" (top 40))(R?:dq K "_law_whole" (top 41))(R':dq K "_law_sum_of" (top 42))(Sa:dq K "_law_product" (top 43))(Sb:dq K "_law_term" (top 49))(Sd:dq K "_law_divides" (top 51))(Se:vT K "Packing" "terms_of" "Packing.terms_of" (iW 10 6))(Sf:vT K "Packing" "sum_of_terms" "Packing.sum_of_terms" (iW 10 7))(Sg:dq K "is_ring" (top 17))(Sh:dq K "shared" (top 21))(Si:dq K "check_order" (top 27))(Sj:dq K "lower_top" (top 36))(Sk:dq K "_law_total" (top 44))(Sl:dq K "_law_are_exponents" (top 45))(Sm:dq K "_law_shape" (top 48))(Sn:dq K "_law_drawn" (top 50))(So:dq K "_law_left" (top 52))(Sq:dq K "packing_for" (top 11))(Sr:dq K "check_ring" (top 18))(Ss:dq K "check_prime" (top 19))(Su:dq K "sums_of_quotients" (top 33))(Sv:dq K "rest_of_terms" (top 35))(Sw:dq K "_law_is_sum" (top 46))(Sx:dq K "inverse" (top 22))(Sy:dq K "_law_are_sums" (top 47))(SA:vT K "Monic" "__init__" "Monic.__init__" (iW 29 0))(SD:dq K "reduced_by" (top 32))(SE:dq K "reduced" (top 30))(SF:W.nsIn K mainGlobals "law" = some (some (.ref R0)))(SG:K.lookup R0=some ⟨R9,R7,.func (W.fnOf "law" "law" (dI (top 53)) (cA (top 53)) (aH (top 53)) .none Oz OA OB Oy LA OC),R8⟩)(SH:W.codeIn K LA "law" = true)(SI:W.keepIn K (.ref R0)=true)(zb:x! K ["abs","all","bool","dict","enumerate","int","isinstance","len","list","max","range","sorted","str","sum","tuple","zip"])(zc:x? K ["NoRing","NoPrime","NoInverse","NoOrder","ByNought"])(gZ:W.nsIn K mainGlobals "SPARE_BITS" = some (some (.int 40 r6)))(iM:W.nsIn K mainGlobals "MOST_RING" = some (some (.int 997 u4)))(fJ:W.nsIn K mainGlobals "FIRST_PRIMES" = some (some (.ref iS)))(fK:K.lookup iS=some ⟨.type "tuple",oI,.seq #[.int 2 mY,.int 3 mZ,.int 5 m7,.int 7 m8,.int 11 m9,.int 13 m_,.int 17 m?,.int 19 nc,.int 23 ng,.int 29 nh,.int 31 l6] oJ,oK⟩)(ni:W.nsIn K mainGlobals "ORDERS" = some (some (.ref tJ)))(nj:K.lookup tJ=some ⟨.type "tuple",BK,.seq #[.str "lex" yI,.str "deg" yJ] BL,BM⟩)(zz:yb K [("Packing",["by_degree","many","width","guards"]),("Monic",["top","back","tail"])]):
  ∃fd:FuncData,(∀(s:_U)(v:_T),BindsTo s fd ⟨[v],[]⟩ [("_law_script",v)])/\∀base:Heap,K.In base->base.Ns mainGlobals mg->fX l.prog w K mg base (jA l.prog w) 9 fa fd ["_law_script"] (y? K):=by
 have e:=hfa.symm.trans (W6 X G SF);cases e;refine⟨W.fnOf "law" "law" (dI (top 53)) (cA (top 53)) (aH (top 53)) .none Oz OA OB Oy LA OC,fun s v=>.of_eq rfl,fun base _ _=>?_⟩;have T:Txt l.prog w K mg base:=⟨fun _ _ h=>W6 X G h,zb.get X G,zc.get X G,Glob.int (W6 X G gZ),Glob.int (W6 X G iM),Glob.ints (ns:=[2,3,5,7,11,13,17,19,23,29,31]) (W6 X G fJ) fK rfl rfl (by simp[VQ]) (.cons ⟨_,rfl⟩ (.cons ⟨_,rfl⟩ (.cons ⟨_,rfl⟩ (.cons ⟨_,rfl⟩ (.cons ⟨_,rfl⟩ (.cons ⟨_,rfl⟩ (.cons ⟨_,rfl⟩ (.cons ⟨_,rfl⟩ (.cons ⟨_,rfl⟩ (.cons ⟨_,rfl⟩ (.cons ⟨_,rfl⟩ (.nil)))))))))))),Glob.strs (ns:=["lex","deg"]) (W6 X G ni) nj rfl rfl (by simp[VQ]) (.cons ⟨_,rfl⟩ (.cons ⟨_,rfl⟩ (.nil))),zz.get X G⟩
 have kN:=jV T  m0;have nk:=lX T  m1;have iO:=h_ T  m2;have yK:=wH T  h3;have l7:=kK T  h4;have r_:=qD T  h5;have oM:=mU T  h6;have yL:=wI T  h7;have j8:=ju T  h8;have j9:=jv T  h9;have kO:=jY T  Ox;have qQ:=oB T  R_;have gD:=oC T  R!;have l9:=rQ T  R?;have kq:=qG T  R';have qR:=oE T  Sa;have nS:=uT T  Sb;have qT:=oF T  Sd;have kP:=jZ T nk Se;have ee:=h! T iO Sf;have tK:=yF T yK l7 Sg;have EJ:=BH T r_ Sh;have r!:=qK T yL Si;have wL:=uU T kO qQ Sj;have u5:=rS T kq qR Sk;have jy:=iX T l9 Sl;have u6:=rT T gD Sm;have u7:=rV T gD kq nS Sn;have wM:=uY T qT So;have r?:=qM T kN Sq;have u9:=rX T tK Sr;have sd:=qO T tK Ss;have j_:=jx T j9 ee Su;have oN:=mV T wL Sv;have kr:=qP T l9 jy Sw;have BN:=yG T oM EJ u9 Sx;have oO:=mW T kr Sy;have nq:=l5 T BN SA;have u_:=rZ T kP ee r? j_ oN nq SD;have BO:=yH T j8 r! sd u_ SE;exact(Lx T gD nS u5 u6 u7 wM kr oO BO (xn (st:=top 53) SG SH SI)).imp fun _ _ _ _ h=>Kk EF h
end LW
namespace PySem.W.Fast
def tw15904420011652409377:=()
def tw2579297043498638304:=()
def tw10939689147711872940:=()
def tw16235767787178809903:=()
def tw15821174002311936321:=()
def tw2100577952152297041:=()
def tw12576453580825267086:=()
def tw10369443798697796708:=()
def tw2509206889600199727:=()
def tw7262060318696935322:=()
def tw11265973793974935003:=()
def tw17110800931793393153:=()
def tw16703038892801174685:=()
def tw6750184711457198273:=()
def tw11490311651626369123:=()
def tw9432725058510738972:=()
def tw12763557979073109959:=()
def tw2826466850819491392:=()
def tw11901084012512855861:=()
def tw7384411980025165215:=()
def tw10286579476089510839:=()
def tw12100567434398821425:=()
def tw6993035151978465465:=()
def tw6284338022410037830:=()
def tw6815785777689513645:=()
def tw17743766838061006602:=()
def tw10875045738656655021:=()
def tw17403031458981013066:=()
def tw3942877086083393136:=()
def tw7247679098119796650:=()
def tw6326860048213598185:=()
def tw2112325920238797122:=()
def tw13831591901635166120:=()
def tw2718380942475701572:=()
end PySem.W.Fast
open PySem.W PyProof.Rows
set_option maxRecDepth 100000 in
set_option maxHeartbeats 0 in
theorem PySem.Challenge.cw_polyring_k33_reduced_by_terms_holds : PySem.Challenge.rw_polyring_k33_reduced_by_terms.Holds := by
 w_on;o_law;k_head;(case hw=>w_witness2)
 k_fill
 refine MN.C! (l:=PySem.Challenge.rw_polyring_k33_reduced_by_terms) (k:=9) (x:="_law_script") rfl rfl ⟨rfl,by decide,by decide⟩ (fun w h Y=>PySem.W.kIn_of Y) ?F
 case F=>
  intro w mg fa h KX G MZ;refine' LW.all_mk KX G MZ ?m0 ?m1 ?m2 ?h3 ?h4 ?h5 ?h6 ?h7 ?h8 ?h9 ?Ox ?R_ ?R! ?R? ?R' ?Sa ?Sb ?Sd ?Se ?Sf ?Sg ?Sh ?Si ?Sj ?Sk ?Sl ?Sm ?Sn ?So ?Sq ?Sr ?Ss ?Su ?Sv ?Sw ?Sx ?Sy ?SA ?SD ?SE ?SF ?SG ?SH ?SI ?zb ?zc ?gZ ?iM ?fJ ?fK ?ni ?nj ?zz
  (case h3|h4|h5|h6|h7|h8|h9|Ox|R_|R! | R? | R'|Sa|Sb|Sd|Sg|Sh|Si|Sj|Sk|Sl|Sm|Sn|So|Sq|Sr|Ss|Su|Sv|Sw|Sx|Sy|SD|SE=>refine' MN.dq.mk ?a ?l ?c ?k;(case a=>k_is);(case l=>k_is);(case c=>k_is);(case k=>k_is);skip)
  (case m0|m1|m2|Se|Sf|SA=>refine' MN.vT.mk ?n ?a ?i ?l ?d ?k;(case n=>k_is);(case a=>k_is);(case i=>k_is);(case l=>k_is);(case d=>k_is);(case k=>k_is);skip)
  (case SF=>k_is)
  (case SG=>k_is)
  (case SH=>k_is)
  (case SI=>k_is)
  case zb=>
   repeat (refine' MN.x!.cons ?a ?_;(case a=>k_is);skip)
   exact .nil
  case zc=>
   repeat (refine' MN.x?.cons ?a ?e ?s ?_;(case a=>k_is);(case e=>k_exc);(case s=>k_is);skip)
   exact .nil
  (case gZ=>k_is)
  (case iM=>k_is)
  (case fJ=>k_is)
  (case fK=>k_is)
  (case ni=>k_is)
  (case nj=>k_is)
  case zz=>
   repeat (refine' MN.yb.cons ?yya ?yyp ?yyd ?yyo ?yys ?yym ?yyk ?yyf ?_;(case yya=>k_is);(case yyp=>k_is);(case yyd=>k_is);(case yyo=>k_is);(case yys=>k_is);(case yym=>k_is);(case yyk=>k_is);(case yyf=>(repeat (refine' MN.ya.cons ?yyb ?_;(case yyb=>k_is);skip));exact .nil);skip)
   exact .nil
