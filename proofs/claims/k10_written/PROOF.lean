import PyProof.Rows.All
import Wide.All
import OpenK.AllK
import PySem.Challenge.RW_polyring_k10_written
set_option Elab.async false
set_option linter.all false
set_option maxRecDepth 100000
set_option maxHeartbeats 4000000
set_option compiler.extract_closed false
set_option genSizeOf false
-- Pj: Ti R? module here,as zF last of R' rows
open PySem
noncomputable section
abbrev _r:=Value->Shared->Prop
abbrev _s:=Str->Option Value
abbrev _t:=List (Addr×Obj)
abbrev _u:=W.Frag
abbrev _v:=List Int
abbrev _w:=List Value
abbrev _x:=Option Value
abbrev _y:=List Addr
abbrev _z:=List Str
abbrev _A:=Value
abbrev _B:=Shared
abbrev _C:=Addr
abbrev _D:=Around
abbrev _E:=Program
def Vk:=@wpAny_bind
def Vl.{u}:=@List.length_cons.{u}
def Vm:=@Heap.get?_push_of_some
def Vn.{u,v}:=@List.length_map.{u,v}
def Vo.{u}:=@if_pos.{u}
def Vp.{u,v}:=@List.map_cons.{u,v}
def Vq:=@Nat.le_refl
def Vr.{u}:=@List.mem_cons_of_mem.{u}
def Vs.{u}:=@List.append_assoc.{u}
def Vt.{u}:=@List.mem_cons_self.{u}
def Vu.{u}:=@if_neg.{u}
def Vv:=@wpAny_pure
def Vx.{u}:=@List.length_append.{u}
def Vy:=@Heap.lt_size
def Vz.{u}:=@List.replicate_zero.{u}
def VA.{u}:=@List.nil_append.{u}
def VB.{u}:=@Array.length_toList.{u}
def VC:=@Bool.false_ne_true
def VD.{u}:=@List.size_toArray.{u}
def VE.{u}:=@List.getElem?_eq_getElem.{u}
def VF:=@decide_eq_true
def VG.{u}:=@List.mem_cons.{u}
def VH.{u}:=@List.length_nil.{u}
def VI:=@PyProof.Rows.wpS_bind
def VJ.{u}:=@List.getElem?_append_right.{u}
def VL:=@Nat.lt_of_lt_of_le
def VM:=@decide_eq_false
def VN:=@Heap.get?_push_size
def VO.{u,v}:=@List.map_nil.{u,v}
def VP.{u}:=@List.cons_append.{u}
def VQ:=@PyProof.Rows.wpS_pure
def VR:=@Nat.le_trans
def VS.{u}:=@List.append_nil.{u}
def VT:=@sizeLine_eq
def VU.{u,v}:=@List.getElem?_map.{u,v}
def VV.{u}:=@List.replicate_succ.{u}
def VW.{u}:=@List.getElem?_eq_some_iff.{u}
def VX.{u}:=@List.mem_append_right.{u}
def VY.{u,v}:=@List.mem_map.{u,v}
def VZ.{u}:=@Array.mem_toList_iff.{u}
def V0.{u}:=@List.mem_singleton.{u}
def V1.{u}:=@List.set_cons_zero.{u}
def V2:=@Nat.ne_of_lt
def V3.{u}:=@List.getElem?_append_left.{u}
def V4.{u}:=@Array.toList_append.{u}
def V5:=@Nat.lt_irrefl
def V6.{u,v,w}:=@List.map_map.{u,v,w}
def V7.{u}:=@List.getElem?_eq_none.{u}
def V8:=@wpAny_mono
def V9.{u}:=@List.set_cons_succ.{u}
def V_.{u}:=@List.getElem?_set_self.{u}
def V!:=@Nat.lt_or_ge
def V?.{u}:=@Option.some.inj.{u}
def V':=@Nat.zero_le
def Wa:=@List.length_range
def Wb:=@Nat.zero_add
def Wc:=@Bool.false_eq_true
def Wd.{u}:=@List.length_replicate.{u}
def We:=@of_decide_eq_true
def Wf:=@wpAny_newObj_type
def Wg:=@wpAny_field
def Wh:=@Heap.get?_update_other
def Wi.{u}:=@List.getElem?_set_ne.{u}
def Wj:=@decide_eq_true_eq
def Wk:=@wpAny_callSpecial?_slot
def Wl:=@F.slot_tuple_iterator_next
def Wm.{u}:=@List.length_take.{u}
def Wn:=@PyProof.Rows.wpS_forRange
def Wq:=@W.mg_of
def Ws:=@Nat.sub_self
def Wt.{u}:=@List.mem_append.{u}
def Wu.{u}:=@beq_self_eq_true.{u}
def Wv.{u}:=@List.all_eq_true.{u}
def Ww:=@W.kia_one
def Wx.{u,v}:=@List.map_congr_left.{u,v}
def Wy:=@Bool.and_eq_true
def Wz.{u,v}:=@List.map_append.{u,v}
def WA.{u}:=@List.drop_eq_getElem_cons.{u}
def WB:=@F.slot_dict_keyiterator_next
def WC:=@decide_eq_false_iff_not
def WD.{u}:=@Array.getElem?_toList.{u}
def WE.{u}:=@beq_false_of_ne.{u}
def WG:=@wpAny_call_entry
def WH:=@wpAny_holding
def WI.{u}:=@List.take_of_length_le.{u}
def WJ.{u}:=@List.set_append_right.{u}
def WK.{u}:=@beq_iff_eq.{u}
def WL.{u}:=@List.mem_reverse.{u}
def WM:=@wpAny_seqItems
def WN:=@mem_of_lookup
def WO.{u}:=@if_false.{u}
def WQ:=@PyProof.Rows.callWith_type1
def WR.{u}:=@Array.toList_reverse.{u}
def WS.{u}:=@List.flatten_cons.{u}
def WT.{u}:=@List.ext_getElem?.{u}
def WU:=@of_decide_eq_false
def WV.{u}:=@List.find?_cons.{u}
def WW:=@Obj.data_mapFields
def WX.{u,v}:=@List.filterMap_cons.{u,v}
def WY:=@Int.toNat_natCast
def WZ:=@PyProof.Rows.wpS_mono
def W2.{u}:=@List.getD_eq_getElem?_getD.{u}
def W3:=@PyProof.Rows.toString_length_le
def W4.{u}:=@List.length_singleton.{u}
def W5:=@wpAny_truthy_bool
def W6:=@Str.length_append
def W7.{u}:=@List.length_set.{u}
def W8.{u}:=@List.reverse_perm.{u}
def W9.{u}:=@List.pairwise_append.{u}
def W_.{u}:=@List.mem_append_left.{u}
def W!.{u}:=@List.any_cons.{u}
def W?:=@Heap.SameBut.update
def W'.{u,v}:=@congrArg.{u,v}
def Xa:=@Heap.size_push
def Xb.{u}:=@beq_eq_false_iff_ne.{u}
def Xc.{u}:=@List.reverse_append.{u}
def Xd.{u}:=@List.Perm.refl.{u}
def Xe:=@wpAny_typeNameOfWhole_keyiter
def Xf:=@Bool.not_eq_true'
def Xg:=@wpAny_setField_rec
def Xh:=@wpAny_rule
def Xi:=@wpAny_pyIter_tuple
def Xj.{u,v,w}:=@getElem?_pos.{u,v,w}
def Xk.{u}:=@List.eq_nil_of_length_eq_zero.{u}
def Xl:=@wpAny_passesOwn
def Xm.{u}:=@Ne.symm.{u}
def Xn:=@Nat.pow_le_pow_right
def Xo:=@Nat.mul_le_mul_right
def Xp:=@F.args_tuple_iterator_next_1
def Xq:=@Nat.ne_of_gt
def Xr:=@Heap.get?_update_self
def Xs:=@F.entry_tuple_iterator_next
def Xt:=@PyProof.Rows.wpS_modify
def Xu.{u}:=@Array.toList_push.{u}
def Xv:=@wpAny_setField
def Xw.{u}:=@List.mem_of_getElem?.{u}
def Xx.{u,v}:=@List.pairwise_map.{u,v}
def Xy.{u}:=@if_true.{u}
def Xz.{u}:=@List.mem_nil_iff.{u}
def XA.{u}:=@List.length_drop.{u}
def XC.{u}:=@List.getElem_mem.{u}
def XD.{u}:=@Array.toList_inj.{u}
def XE:=@wpAny_typeNameOf_keyiter
def XF.{u}:=@List.filter_eq_self.{u}
def XG:=@Bool.false_and
def XH:=@wpAny_execs_nil
def XI:=@wpAny_Call_Name_kw
def XJ:=@PyProof.Rows.slot_tuple_getitem
def XM.{u}:=@List.mem_filter.{u}
def XN:=@Nat.lt_succ_self
def XO.{u}:=@List.length_eq_zero_iff.{u}
def XQ.{u}:=@List.getElem?_replicate.{u}
def XR.{u}:=@List.countP_cons_of_pos.{u}
def XS:=@Bool.true_and
def XT.{u,v}:=@List.filterMap_cons_some.{u,v}
def XU.{u,v}:=@List.filterMap_cons_none.{u,v}
def XW.{u}:=@List.reverse_cons.{u}
def XX:=@Bool.eq_iff_iff
def XY:=@StrLaws.glued_eq_join
def XZ:=@W.hideAll_get
def X0:=@Obj.isFreed_of_fields
def X1:=@Nat.le_of_lt
def X2:=@wpAny_standAt
def X3:=@wpAny_attempt
def X4.{u}:=@List.pairwise_reverse.{u}
def X5.{u}:=@List.getElem?_toArray.{u}
def X6:=@List.mem_range
def X7:=@List.getElem_range
def X8.{u}:=@List.drop_length.{u}
def X9:=@Int.fmod_eq_emod_of_nonneg
def X_.{u}:=@List.reverse_reverse.{u}
def X!.{u}:=@Array.getElem_toList.{u}
def X?:=@codeAny_mono
def X':=@F.args_tuple_add_2
def Ya:=@Bool.not_true
def Yb:=@Bool.false_or
def Yc:=@F.entry_tuple_add
def Yd:=@Int.eq_ofNat_of_zero_le
def Ye:=@F.slot_tuple_add
def Yf.{u}:=@List.drop_zero.{u}
def Yg.{u}:=@Array.perm_iff_toList_perm.{u}
def Yh.{u}:=@Array.getElem?_eq_some_iff.{u}
def Yi.{u}:=@Array.append_assoc.{u}
def Yj:=@slot_list_getitem
def Yk:=@wpAny_getItem_list_slice
def Yl:=@F.slot_dict_get
def Ym.{u}:=@List.pairwise_iff_getElem.{u}
def Yn.{u}:=@List.mem_of_find?_eq_some.{u}
def Yo:=@PyProof.Rows.wpS_get
def Yp:=@or_false
def Yq:=@Nat.log2_lt
def Yr.{u,v}:=@List.mem_filterMap.{u,v}
def Ys.{u}:=@List.all_cons.{u}
def Yt:=@ne_true_of_eq_false
def Yu:=@Txt.slice_le
def Yv:=@F.args_dict_keyiterator_next_1
def Yw.{u}:=@List.take_length.{u}
def Yx.{u}:=@List.pairwise_singleton.{u}
def Yy:=@List.getElem?_range
def Yz.{u}:=@List.filter_cons_of_pos.{u}
def YA.{u}:=@List.filter_cons_of_neg.{u}
def YB.{u}:=@List.countP_cons_of_neg.{u}
def YC.{u}:=@List.any_eq_true.{u}
def YD:=@wpAny_loadPart'
def YE:=@post_val_or_str
def YF:=@F.entry_dict_keyiterator_next
def YG:=@F.slot_zip_next
def YH.{u,v,w}:=@List.filterMap_map.{u,v,w}
def YI:=@Bool.not_eq_false'
def YJ.{u}:=@List.nodup_cons.{u}
def YK:=@wpAny_updateSeq_pair
def YL:=@list_append
def YM:=@Nat.add_zero
def YN.{u}:=@List.Perm.append_left.{u}
def YO:=@Int.zero_add
def YQ:=@F.args_list_append_2
def YR:=@Calls.evalArgs_plain
def YS:=@IsL.update
def YT:=@Nat.succ_le_succ
def YU:=@Nat.not_lt_of_le
def YV:=@Nat.le_of_not_lt
def YW.{u}:=@List.mem_of_mem_take.{u}
def YX.{u}:=@List.mem_iff_getElem.{u}
def YY.{u,v}:=@List.all_map.{u,v}
def YZ:=@Int.mul_le_mul_of_nonneg_right
def Y0:=@F.entry_list_append
def Y4:=@wpAny_onRaise
def Y5:=@evalPart_some
def Y6:=@evalPart_none
def Y7.{u,v}:=@List.of_mem_zip.{u,v}
def Y8.{u,v}:=@List.length_zip.{u,v}
def Y9:=@typeIs_str
def Y_:=@tupleKind_room_in1
def Y!:=@call_meets
def Y?:=@SeqAt.EqAt.str_int
def Y':=@SeqAt.EqAt.int_str
def Za.{u}:=@List.length_reverse.{u}
def Zb:=@Heap.IsSliceOf.new
def Zc:=@F.slot_list_append
def Zd:=@Calls.spliced_cons
def Ze:=@Bool.or_eq_true
def Zf:=@wpAny_pyIter_list
def Zg:=@wpAny_dictEntries
def Zh:=@Obj.cls_mapFields
def Zi.{u}:=@List.getElem?_drop.{u}
def Zj.{u}:=@List.find?_eq_none.{u}
def Zk:=@Int.mul_nonneg
def Zl:=@Bool.and_false
def Zm:=@PyProof.Rows.wpS_lift
def Zn:=@wpAny_execs_cons
def Zo:=@noFill_tuple_add
def Zp:=@Nat.add_assoc
def Zq.{u}:=@List.take_add_one.{u}
def Zr:=@wpAny_throw
def Zs:=@wpAny_of_eq
def Zt:=@F.args_dict_get_3
def Zu:=@PyProof.Rows.boot_tuple
def Zv:=@wpAny_dictEpoch
def Zw:=@SeqAt.EqAt.same
def Zx:=@W.cellsFrom_some
def Zy:=@F.slot_dict_iter
def Zz:=@F.entry_dict_get
def ZA:=@PyProof.Rows.boot_list
def ZC:=@Nat.sub_zero
def ZD:=@Nat.le_of_eq
def ZE.{u}:=@List.zipIdx_cons.{u}
def ZF:=@List.range_succ_eq_map
def ZG.{u}:=@List.prefix_refl.{u}
def ZH.{u}:=@List.getElem_inj.{u}
def ZI:=@Bool.true_or
def ZJ:=@PyProof.Rows.Subscript_
def ZK:=@PyProof.Rows.boot_str
def ZL.{u}:=@List.map_id.{u}
def ZM:=@Calls.Name_function_global
def ZN.{u}:=@Array.getElem?_extract_of_lt.{u}
def ZO:=@Nat.add_le_add_left
def ZP:=@Int.toNat_of_nonneg
def ZQ.{u}:=@Eq.symm.{u}
def ZR:=@wpAny_newList
def ZS:=@wpAny_handled
def ZT:=@wpAny_comprehension_free
def ZU:=@seq_tuple_add
def ZV:=@W.of_hideAll
def ZW:=@W.mg_none_of
def ZX:=@W.kitx_tuple
def ZY:=@W.callWith_K
def ZZ:=@Paired.length
def Z0.{u}:=@List.take_succ.{u}
def Z3.{u,v}:=@List.getElem_map.{u,v}
def Z4:=@Int.natCast_nonneg
def Z5:=@Int.natAbs_eq_zero
def Z6.{u}:=@Array.toList_setIfInBounds.{u}
def Z7:=@W.kitx_list
def Z8:=@W.kitx_dict
def Z9:=@Nat.lt_trichotomy
def Z_:=@Nat.lt_succ_of_lt
def Z!:=@Nat.le_succ_of_le
def Z?.{u}:=@List.getElem?_eq_none_iff.{u}
def Z'.{u}:=@Array.getElem?_eq_getElem.{u}
def _a:=@seqIndex_neg
def _b:=@concat_meets
def _c:=@codeAny_compStart_list
def _d:=@SeqAt.ne_of_list_tuple
def _e:=@Nat.lt_log2_self
def _g:=@Nat.le_add_right
def _h.{u}:=@List.sum_cons.{u}
def _i.{u,v}:=@List.foldl_cons.{u,v}
def _j.{u}:=@List.eq_of_mem_replicate.{u}
def _k.{u}:=@List.Pairwise.imp_of_mem.{u}
def _l:=@Calls.callWith_builtin
def _m:=@Call_method1
def _n:=@wpAny_isOneOf_keyiter
def _o:=@PyProof.Rows.get?_update_seq
def _p:=@Nat.not_lt_zero
def _q.{u}:=@List.mem_singleton_self.{u}
namespace L2
open PySem.Spec PyProof.Rows
abbrev dE:=Sum Int Str
def qJ:dE->_A->Bool
 |.inl k,v=>Value.isInt k v
 |.inr x,v=>Value.isStrOf x v
def Pk(w:World):dE->Int
 |.inl k=>hashInt k
 |.inr x=>hashStr w x
theorem c6:∀{k:dE}{v:_A},qJ k v=true->(∃i t,k=Sum.inl i/\v=Value.int i t)\/(∃x t,k=Sum.inr x/\v=Value.str x t)
 |.inl i,v,h=>by obtain⟨t,e⟩:=Value.isInt_shape (k:=i) (v:=v) h;exact .inl ⟨i,t,rfl,e⟩
 |.inr x,v,h=>by obtain⟨t,e⟩:=Value.isStrOf_shape (x:=x) (v:=v) h;exact .inr ⟨x,t,rfl,e⟩
theorem zG(i:Int)(t:Tok):qJ (.inl i) (.int i t)=true:=by simp[qJ,Value.isInt]
theorem zH(x:Str)(t:Tok):qJ (.inr x) (.str x t)=true:=by simp[qJ,Value.isStrOf]
theorem Il(a b:Int):decide ((Sum.inl a:dE)=Sum.inl b)=(a==b):=by
 by_cases e:a=b
 .subst e;simp
 .have h:¬ (Sum.inl a:dE)=Sum.inl b:=fun q=>e (Sum.inl.inj q);rw[VM h];exact(Xb.mpr e).symm
theorem Im(a b:Str):decide ((Sum.inr a:dE)=Sum.inr b)=decide (a=b):=by
 by_cases e:a=b
 .subst e;simp
 .have h:¬ (Sum.inr a:dE)=Sum.inr b:=fun q=>e (Sum.inr.inj q);rw[VM h,VM e]
theorem Io(a:Int)(b:Str):decide ((Sum.inl a:dE)=Sum.inr b)=false:=VM (fun q=>nomatch q)
theorem Ip(a:Str)(b:Int):decide ((Sum.inr a:dE)=Sum.inl b)=false:=VM (fun q=>nomatch q)
def dF(prog:_E)(w:World):PySem.KeyKind prog w dE where
 is:=qJ
 hash:=Pk w
 inj:=fun v a b ha hb=>by
  rcases c6 ha with⟨i,t,rfl,rfl⟩|⟨x,t,rfl,rfl⟩
  .rcases c6 hb with⟨j,u,rfl,e⟩|⟨y,u,rfl,e⟩
   .injection e with e1 _;rw[e1]
   .exact nomatch e
  .rcases c6 hb with⟨j,u,rfl,e⟩|⟨y,u,rfl,e⟩
   .exact nomatch e
   .injection e with e1 _;rw[e1]
 byValue:=fun k v h=>by rcases c6 h with⟨i,t,rfl,rfl⟩|⟨x,t,rfl,rfl⟩<;>rfl
 pyHash:=fun hv h=>by
  rcases c6 hv with⟨i,t,rfl,rfl⟩|⟨x,t,rfl,rfl⟩
  .exact wpAny_pyHash_int h
  .exact wpAny_pyHash_str h
 eqBool:=fun hu hv h=>by
  rcases c6 hu with⟨i,t,rfl,rfl⟩|⟨x,t,rfl,rfl⟩
  .rcases c6 hv with⟨j,u,rfl,rfl⟩|⟨y,u,rfl,rfl⟩
   .rw[Il]at h;exact wpAny_eqBool_int h
   .rw[Io]at h;exact Y' i t y u _ _ _ _ h
  .rcases c6 hv with⟨j,u,rfl,rfl⟩|⟨y,u,rfl,rfl⟩
   .rw[Ip]at h;exact Y? x t j u _ _ _ _ h
   .rw[Im]at h;exact wpAny_eqBool_str h
 «strs»:=fun k x t v h=>by
  rcases c6 h with⟨i,u,rfl,e⟩|⟨y,u,rfl,e⟩
  .exact nomatch e
  .injection e with e1 _;subst e1;cases v<;>rfl
theorem um(prog:_E)(w:World)(i:Int)(t:Tok):(dF prog w).is (.inl i) (.int i t)=true:=zG i t
theorem uo(prog:_E)(w:World)(x:Str)(t:Tok):(dF prog w).is (.inr x) (.str x t)=true:=zH x t
inductive V where
 |fc|bl (b:Bool)|int (i:Int)|str (x:Str)|Pl (b:Array UInt8)|oj (b:UInt64)|ref (a:_C)|ty (n:String)
 deriving DecidableEq
def bD:V->_A->Prop
 |.fc,u=>u=Value.none
 |.bl b,u=>u=Value.bool b
 |.int i,u=>∃t,u=Value.int i t
 |.str x,u=>∃t,u=Value.str x t
 |.Pl b,u=>∃t,u=Value.bytes b t
 |.oj b,u=>∃t,u=Value.float b t
 |.ref a,u=>u=Value.ref a
 |.ty n,u=>u=Value.type n
abbrev bg:List V->_w->Prop:=Paired bD
theorem bg.length{xs:List V}{us:_w}(r:bg xs us):xs.length=us.length:=ZZ r
theorem bg.get:∀{xs:List V}{us:_w}{i:Nat}{x:V},bg xs us->xs[i]?=some x->∃u,us[i]?=some u/\bD x u
 |_,_,_,_,.nil,e=>by simp at e
 |_,_,0,_,.cons r _,e=>by simp at e;subst e;exact⟨_,rfl,r⟩
 |_,_,i+1,x,.cons _ t,e=>by obtain⟨u,h1,h2⟩:=bg.get (i:=i) (x:=x) t (by simpa using e);exact⟨u,by simpa using h1,h2⟩
theorem bg.set{x:V}{u:_A}(r:bD x u):∀{xs:List V}{us:_w}(i:Nat),bg xs us->bg (xs.set i x) (us.set i u)
 |_,_,_,.nil=>.nil
 |_,_,0,.cons _ t=>.cons r t
 |_,_,i+1,.cons q t=>.cons q (bg.set r i t)
theorem bg.append:∀{xs ys:List V}{us ws:_w},bg xs us->bg ys ws->bg (xs++ys) (us++ws)
 |_,_,_,_,.nil,s=>s
 |_,_,_,_,.cons r t,s=>.cons r (bg.append t s)
theorem bg.take:∀{xs:List V}{us:_w}(n:Nat),bg xs us->bg (xs.take n) (us.take n)
 |_,_,0,_=>.nil
 |_,_,_+1,.nil=>.nil
 |_,_,n+1,.cons r t=>.cons r (bg.take n t)
theorem bg.drop:∀{xs:List V}{us:_w}(n:Nat),bg xs us->bg (xs.drop n) (us.drop n)
 |_,_,0,r=>r
 |_,_,_+1,.nil=>.nil
 |_,_,n+1,.cons _ t=>bg.drop n t
def lO:Option V->_x->Prop
 |some v,some u=>bD v u
 |none,none=>True
 |_,_=>False
def KV{κ:Type}:List (κ×V)->List (κ×_A)->Prop:=Paired fun(p:κ×V)(q:κ×_A)=>p.1=q.1/\bD p.2 q.2
def kV:dE->V
 |.inl i=>.int i
 |.inr x=>.str x
inductive HO where
  |lst (xs:List V)
  |tup (xs:List V)
  |dK (aI:List (dE×V))|dT (aI:List (List dE×V))
  |set (S:Int->Bool) (n:Nat)
  |ins (C dx:_C) (fs:List (Str×V))
  |own (x:_C)
  |xd (fs:List (Str×V))
  |met (f x:_C)
  |Oy (lo hi:Int)
  |j6 (o:Obj) (u:HO)
  |Ey (ps:Array _A)
  |ext (φ:Heap->Prop)
abbrev Hp:=_C->Option HO
def upd(H:Hp)(a:_C)(o:HO):Hp:=fun b=>if b=a then some o else H b
theorem cL{H:Hp}{a:_C}{o:HO}:upd H a o a=some o:=by unfold upd;rw[Vo rfl]
theorem aZ{H:Hp}{a b:_C}{o:HO}(h:b≠a):upd H a o b=H b:=by unfold upd;rw[Vu h]
theorem L4{H:Hp}{a b:_C}{o u:HO}(h:H a=some o)(h':H b=some u)(d:o≠u):a≠b:=by intro e;subst e;rw[h]at h';exact d (V? h')
theorem aV{H:Hp}{a b:_C}{o:HO}(h:H a=some o)(h':H b=none):a≠b:=by intro e;subst e;rw[h]at h';cases h'
section
variable(P:_E)(w:World)
def cA(H:Hp)(h:Heap)(a:_C):HO->Prop
 |.lst xs=>xs.length<=sizeLine/\∃(aD:_w)(n:Nat),bg xs aD/\h.get? a=some {cls:=.type "list",data:=.seq aD.toArray n}
 |.tup xs=>xs.length<=sizeLine/\∃aD:_w,bg xs aD/\IsTup h a aD.toArray
 |.dK aI=>aI.length<=sizeLine/\(a==sysModules)=false/\∃vs,KV aI vs/\h.DictOf (dF P w) a vs
 |.dT aI=>aI.length<=sizeLine/\(a==sysModules)=false/\∃xs:List (List dE×_C×_A),
   Paired (fun(p:List dE×V)(q:List dE×_C×_A)=>p.1=q.1/\H q.2.1=some (.tup (p.1.map kV))/\bD p.2 q.2.2) aI xs /\
   ∃o es ep,h.get? a=some o/\o.ExactDict/\o.data=.dict es ep/\es.toList=xs.map (entryOfKey (tupleKind (dF P w)))/\(xs.map (·.1)).Nodup
 |.set S n=>h.SetOf (intKind P w) a S n
 |.ins C dx fs=>H dx=some (.own a)/\fs.length<=1000/\dx≠a/\h.get? a=some (W.instObj C dx) /\
   ∃mA,h.Ns1 dx mA/\(∀f,lO (fs.lookup f) (mA f))/\PySem.Within mA (fs.map (·.1))
 |.own _=>∃o,h.get? a=some o
 |.xd fs=>∃mA,h.Ns1 a mA/\∀f,lO (fs.lookup f) (mA f)
 |.Oy lo hi=>∃t u v,h.get? a=some {cls:=.type "range",data:=.fields #[.int lo t,.int hi u,.int 1 v]}
 |.j6 o u=>h.get? a=some o/\cA H h a u
 |.Ey ps=>h.get? a=some {cls:=.none,data:=.fields ps}
 |.met f x=>h.get? a=some (W.methodObj (.ref f) (.ref x))
 |.ext φ=>φ h/\(∃o,h.get? a=some o)/\∀h1 h2:Heap,φ h1->(∀o,h1.get? a=some o->h2.get? a=some o)->φ h2
def gZ(H:Hp)(h:Heap):Prop:=∀a o,H a=some o->cA P w H h a o
end
section
variable{P:_E}{w:World}{H H':Hp}{h h':Heap}{a:_C}{o:HO}
theorem cA.lt(x:cA P w H h a o):a<h.objs.size:=by
 cases o with
 |lst xs=>obtain⟨_,_,_,_,e⟩:=x;exact Vy e
 |tup xs=>obtain⟨_,_,_,p⟩:=x;exact p.lt
 |dK aI=>obtain⟨_,_,_,_,o,_,_,e,_⟩:=x;exact Vy e
 |dT aI=>obtain⟨_,_,_,_,o,_,_,e,_⟩:=x;exact Vy e
 |set S n=>obtain⟨o,_,_,_,e,_⟩:=x;exact Vy e
 |ins C dx fs=>obtain⟨_,_,_,e,_⟩:=x;exact Vy e
 |own y=>obtain⟨_,e⟩:=x;exact Vy e
 |xd fs=>obtain⟨_,⟨_,_,_,e,_⟩,_⟩:=x;exact Vy e
 |Oy lo hi=>obtain⟨_,_,_,e⟩:=x;exact Vy e
 |j6 ob u=>obtain⟨e,_⟩:=x;exact Vy e
 |Ey ps=>exact Vy (show h.get? a=some _ from x)
 |met f y=>exact Vy (show h.get? a=some _ from x)
 |ext φ=>obtain⟨_,⟨_,e⟩,_⟩:=x;exact Vy e
theorem Paired.Iq{α β:Type}{F G:α->β->Prop}:∀{l₁:List α}{l₂:List β},Paired F l₁ l₂->(∀a b,F a b->G a b)->Paired G l₁ l₂
 |_,_,.nil,_=>.nil
 |_,_,.cons r t,f=>.cons (f _ _ r) (Paired.Iq t f)
theorem cA.kG(x:cA P w H h a o)(k:∀b u,(b=a\/H b=some (.own a))->h.get? b=some u->h'.get? b=some u)(ho:∀b,H b=some (.own a)->H' b=some (.own a))(ht:∀b xs,H b=some (.tup xs)->H' b=some (.tup xs)):cA P w H' h' a o:=by
 induction o with
 |lst xs=>obtain⟨z,aD,n,r,e⟩:=x;exact⟨z,aD,n,r,k _ _ (.inl rfl) e⟩
 |tup xs=>obtain⟨z,aD,r,ob,e,c⟩:=x;exact⟨z,aD,r,ob,k _ _ (.inl rfl) e,c⟩
 |dK aI=>obtain⟨z,y,vs,r,ob,es,ep,e,c⟩:=x;exact⟨z,y,vs,r,ob,es,ep,k _ _ (.inl rfl) e,c⟩
 |dT aI=>
  obtain⟨z,y,xs,r,ob,es,ep,e,c⟩:=x;exact⟨z,y,xs,Paired.Iq r fun p q z=>⟨z.1,ht _ _ z.2.1,z.2.2⟩,ob,es,ep,k _ _ (.inl rfl) e,c⟩
 |set S n=>obtain⟨ob,es,ep,t,e,c⟩:=x;exact⟨ob,es,ep,t,k _ _ (.inl rfl) e,c⟩
 |ins C dx fs=>
  obtain⟨d,z,ne,e,mA,⟨od,es,ep,e2,c⟩,r⟩:=x;exact⟨ho _ d,z,ne,k _ _ (.inl rfl) e,mA,⟨od,es,ep,k _ _ (.inr d) e2,c⟩,r⟩
 |own y=>obtain⟨ob,e⟩:=x;exact⟨ob,k _ _ (.inl rfl) e⟩
 |xd fs=>obtain⟨mA,⟨od,es,ep,e,c⟩,r⟩:=x;exact⟨mA,⟨od,es,ep,k _ _ (.inl rfl) e,c⟩,r⟩
 |Oy lo hi=>obtain⟨t,u,v,e⟩:=x;exact⟨t,u,v,k _ _ (.inl rfl) e⟩
 |j6 ob u ih=>obtain⟨e,q⟩:=x;exact⟨k _ _ (.inl rfl) e,ih q⟩
 |Ey ps=>
  have e:h.get? a=some {cls:=.none,data:=.fields ps}:=x;show h'.get? a=some {cls:=.none,data:=.fields ps};exact k a _ (.inl rfl) e
 |met f y=>
  have e:h.get? a=some (W.methodObj (.ref f) (.ref y)):=x;show h'.get? a=some (W.methodObj (.ref f) (.ref y));exact k a _ (.inl rfl) e
 |ext φ=>obtain⟨p,⟨o,e⟩,st⟩:=x;exact⟨st _ _ p fun o q=>k _ _ (.inl rfl) q,⟨o,k _ _ (.inl rfl) e⟩,st⟩
theorem gZ.lt(x:gZ P w H h)(e:H a=some o):a<h.objs.size:=(x a o e).lt
theorem gZ.fresh(x:gZ P w H h)(e:h.objs.size<=a):H a=none:=by
 cases q:H a with
 |none=>rfl
 |some u=>exact absurd (VL (x.lt q) e) (V5 _)
theorem gZ.kept(x:gZ P w H h)(k:∀b u,h.get? b=some u->h'.get? b=some u):gZ P w H h':=fun a o e=>
 (x a o e).kG (fun b u _ q=>k b u q) (fun _ q=>q) fun _ _ q=>q
theorem gZ.laid(x:gZ P w H h)(k:∀b u,h.get? b=some u->h'.get? b=some u)(hp:h.objs.size<=a)(new:cA P w (upd H a o) h' a o):gZ P w (upd H a o) h':=fun b u e=>by
 have hn:=x.fresh hp;by_cases hb:b=a
 .subst hb;rw[cL]at e;cases e;exact new
 .rw[aZ hb]at e;exact(x b u e).kG (fun c v _ q=>k c v q) (fun c q=>by rw[aZ (aV q hn)];exact q) fun c xs q=>by rw[aZ (aV q hn)];exact q
end
def Rd(H:Hp)(a:_C)(u:HO):Prop:=H a=some u\/∃o,H a=some (.j6 o u)
theorem Rd.ok{P:_E}{w:World}{H:Hp}{h:Heap}{a:_C}{u:HO}(r:Rd H a u)(x:gZ P w H h):cA P w H h a u:=by
 rcases r with r|⟨o,r⟩
 .exact x a u r
 .obtain⟨_,q⟩:=x a _ r;exact q
def L5:Option HO->Prop
 |some (.lst _)=>True
 |some (.dK _)=>True
 |some (.dT _)=>True
 |some (.set _ _)=>True
 |some (.ins _ _ _)=>True
 |some (.ext _)=>True
 |_=>False
section
variable{P:_E}{w:World}{H:Hp}{h h':Heap}{x e:_C}{o':HO}
theorem gZ.write(ok:gZ P w H h)(mu:L5 (H x))(he:e=x\/H e=some (.own x))(k:∀b u,b≠e->h.get? b=some u->h'.get? b=some u)(LH:∃u,h'.get? e=some u)(new:cA P w (upd H x o') h' x o'):gZ P w (upd H x o') h':=fun b u q=>by
 have L6:∀c y,H c=some (.own y)->c≠x:=fun c y r z=>by subst z;rw[r]at mu;exact mu
 have Pn:∀c xs,H c=some (.tup xs)->c≠x:=fun c xs r z=>by subst z;rw[r]at mu;exact mu
 by_cases hb:b=x
 .subst hb;rw[cL]at q;cases q;exact new
 .rw[aZ hb]at q;by_cases Ir:b=e
  .have q':H b=some (.own x):=by
    rcases he with z|z
    .exact absurd (Ir.trans z) hb
    .rw[Ir];exact z
   rw[q]at q';cases q';obtain⟨v,hv⟩:=LH;exact⟨v,by rw[Ir];exact hv⟩
  .refine(ok b u q).kG (fun c v hc r=>k c v ?_ r) (fun c r=>by rw[aZ (L6 c b r)];exact r) fun c xs r=>by rw[aZ (Pn c xs r)];exact r
   rcases hc with rfl|hc
   .exact Ir
   .rintro rfl;rcases he with z|z
    .exact L6 c b hc z
    .rw[hc]at z;cases z;exact hb rfl
end
structure Un(fs ex:_y)(H H':Hp)(h h':Heap):Prop where
 keep:∀b o,h.get? b=some o->H b=none->b ∉ fs->b ∉ ex->h'.get? b=some o
 slot:∀b o,h.get? b=some o->H b=none->b∈fs->b ∉ ex->∃sl,h'.get? b=some {o with slots:=sl}
 free:∀b o,h.get? b=some o->H b=none->b ∉ ex->H' b=none
 there:∀b o,h.get? b=some o->b ∉ ex->∃o',h'.get? b=some o'
 g0:∀b xs,H b=some (.tup xs)->H' b=some (.tup xs)
 gO:∀b o u,H b=some (.j6 o u)->H' b=some (.j6 o u)
 iS:∀b ps,H b=some (.Ey ps)->∃more,H' b=some (.Ey (ps++more))
section
variable{fs Tj ex Vc:_y}{H H1 H2:Hp}{h h1 h2 h':Heap}{a x e:_C}{o:HO}
theorem Un.any(u:Un fs ex H H1 h h1){b:_C}{ob:Obj}(q:h.get? b=some ob)(n:H b=none)(hx:b ∉ ex):∃sl,h1.get? b=some {ob with slots:=sl}:=by
 by_cases hb:b∈fs
 .exact u.slot b ob q n hb hx
 .exact⟨ob.slots,u.keep b ob q n hb hx⟩
theorem Un.kept(k:∀b u,h.get? b=some u->h'.get? b=some u):Un fs ex H H h h':=
 ⟨fun b ob q _ _ _=>k b ob q,fun b ob q _ _ _=>⟨ob.slots,k b ob q⟩,fun _ _ _ n _=>n,fun b ob q _=>⟨ob,k b ob q⟩,fun _ _ q=>q,fun _ _ _ q=>q,fun _ ps q=>⟨#[],by rw[q];simp⟩⟩
theorem Un.refl:Un fs ex H H h h:=Un.kept fun _ _ q=>q
theorem Un.laid(k:∀b u,h.get? b=some u->h'.get? b=some u)(hp:h.objs.size<=a)(hn:H a=none):Un fs ex H (upd H a o) h h' where
 keep:=fun b u q _ _ _=>k b u q
 slot:=fun b u q _ _ _=>⟨u.slots,k b u q⟩
 free:=fun b u q n _=>by rw[aZ (V2 (VL (Vy q) hp))];exact n
 there:=fun b u q _=>⟨u,k b u q⟩
 g0:=fun b xs q=>by rw[aZ (aV q hn)];exact q
 gO:=fun b u xs q=>by rw[aZ (aV q hn)];exact q
 iS:=fun b ps q=>⟨#[],by rw[aZ (aV q hn),q];simp⟩
theorem Un.write(mu:L5 (H x))(he:e=x\/H e=some (.own x))(k:∀b u,b≠e->h.get? b=some u->h'.get? b=some u)(LH:∃u,h'.get? e=some u):Un fs ex H (upd H x o) h h':=by
 have hx:∀b,H b=none->b≠x:=fun b n z=>by subst z;rw[n]at mu;exact mu
 have hb:∀b,H b=none->b≠e:=fun b n z=>by
  subst z;rcases he with r|r
  .exact hx b n r
  .rw[n]at r;cases r
 have hm:∀b u,H b=some u->¬ L5 (some u)->b≠x:=fun b u q nm z=>by subst z;rw[q]at mu;exact nm mu
 refine⟨fun b u q n _ _=>k b u (hb b n) q,fun b u q n _ _=>⟨u.slots,k b u (hb b n) q⟩,fun b u q n _=>by rw[aZ (hx b n)];exact n,fun b u q _=>?_,
  fun b xs q=>by rw[aZ (hm b _ q fun z=>z)];exact q,fun b u xs q=>by rw[aZ (hm b _ q fun z=>z)];exact q,fun b ps q=>⟨#[],by rw[aZ (hm b _ q fun z=>z),q];simp⟩⟩
 by_cases Ir:b=e
 .subst Ir;exact LH
 .exact⟨u,k b u Ir q⟩
end
def uq(h:Heap)(H:Hp):_y:=(List.range h.objs.size).filter fun a=>(H a).isSome
def rQ(h:Heap)(H:Hp):Heap:=W.hideAll h (uq h H)
theorem zI(h:Heap)(H:Hp):(rQ h H).objs.size=h.objs.size:=W.hideAll_size _ _
theorem Bu{h:Heap}{H:Hp}{b:_C}{o:Obj}(e:h.get? b=some o)(n:H b=none):(rQ h H).get? b=some o:=
 XZ _ e fun hm=>by have q:(H b).isSome=true:=(XM.mp hm).2;rw[n]at q;simp at q
theorem ER{h:Heap}{H:Hp}{b:_C}{o:Obj}(e:(rQ h H).get? b=some o):h.get? b=some o/\H b=none:=by
 have e':h.get? b=some o:=ZV (uq h H) e;refine⟨e',?_⟩;cases q:H b with
 |none=>rfl
 |some x=>
  have hm:b∈uq h H:=XM.mpr ⟨X6.mpr (Vy e'),by simp[q]⟩;have z:(rQ h H).get? b=none:=W.hideAll_none (uq h H) hm;rw[z]at e;cases e
structure Mod(K:_u)(mg:_s)(base:Heap):Prop where
 LI:K.In base
 glob:base.Ns mainGlobals mg
 blt:∃mb,base.Ns builtinsNs mb/\∀x:Str,x ≠ "__name__" -> mb x=bootBuiltins x
 nolimit:base.NoLimit
structure Cx where
 prog:_E
 w:World
 K:_u
 mg:Str->_x
 base:Heap
 A:_D
 N:_z
 s₀:_B
 H₀:Hp
 env:Env
 outer:List Env
 stack:List Env
 ex:_y
 fn:Str->Bool
 calm:Bool
 pn:_t
 xe:_A->_B->Prop
def d9(l:List Env):_y:=l.filterMap (·.frame)
abbrev Cx.fs(X:Cx):_y:=d9 X.outer
def Oz(sc:Scope)(x:Str):Prop:=sc.names.lookup x=some .local\/sc.names.lookup x=some .cell\/sc.names.lookup x=some .free
def Loc(sc:Scope)(x:Str):Prop:=sc.names.lookup x=some .local\/sc.names.lookup x=some .cell
def Look(env:Env)(h:Heap)(m:_s)(x:Str)(u:_A):Prop:=
 (env.kindOf x=some .local/\m x=some u)\/((env.kindOf x=some .cell\/env.kindOf x=some .free)/\∃c,env.cells.lookup x=some c/\h.IsCell c (some u))
structure Cx.Ok(X:Cx):Prop where
 mod:Mod X.K X.mg X.base
 kind:X.env.scope.kind=.function
 glob:X.env.globals=mainGlobals
 blt:X.env.builtins=builtinsNs
 above:X.s₀.heap.objs.size<=X.env.locals
 inj:∀x y c,X.env.cells.lookup x=some c->X.env.cells.lookup y=some c->x=y
 has:∀x,(X.env.kindOf x=some .cell\/X.env.kindOf x=some .free)->∃c,X.env.cells.lookup x=some c
 Iu:∀x c,X.fn x=true->X.env.cells.lookup x=some c->X.s₀.heap.objs.size<=c
 hd:X.calm=true->X.A.handled=none
 frames:X.A.frames=some X.stack
 Bv:X.stack=X.outer\/(X.stack=X.env::X.outer/\X.env.frame=some X.env.locals)
 Po:∀b∈X.ex,b≠X.env.locals/\∀x c,X.env.cells.lookup x=some c->c≠b
 bs:∀b o,X.base.get? b=some o->X.s₀.heap.get? b=some o/\X.H₀ b=none
 Hv:X.base.objs.size<=X.s₀.heap.objs.size
 wy:∀b o,X.base.get? b=some o->b ∉ X.ex
 Bw:∀b∈X.ex,b ∉ X.fs
 j7:X.s₀.heap.FunFrames X.base X.outer
 Bx:∀b∈X.fs,X.H₀ b=none
structure aH(X:Cx)(af:_t)(σ:List (Option V))(H:Hp)(s:_B):Prop where
 ok:X.Ok
 os:s.os=X.s₀.os
 bare:AllBare s.gens
 base:Un X.fs X.ex X.H₀ H X.s₀.heap s.heap
 loc:∃m,s.heap.Ns X.env.locals m/\∀(i:Nat)(x:Str)(v:V),X.N[i]?=some x->σ[i]?=some (some v)->Oz X.env.scope x->∃u,bD v u/\Look X.env s.heap m x u
 cell:∀x c,X.env.cells.lookup x=some c->∃v,s.heap.IsCell c v
 free:H X.env.locals=none
 g_:∀x c,X.env.cells.lookup x=some c->H c=none
 pin:∀p∈X.pn++af,s.heap.get? p.1=some p.2/\H p.1=none/\p.1≠X.env.locals/\p.1 ∉ X.fs/\∀v,p.2.data≠.cell v
 b_:gZ X.prog X.w H s.heap
 len:σ.length=X.N.length
section
variable{X:Cx}{af:_t}{σ:List (Option V)}{H H':Hp}{s:_B}{h':Heap}
theorem Cx.Ok.Pp(ok:X.Ok){b:_C}{o:Obj}(e:X.base.get? b=some o):b ∉ X.fs:=fun hb=>by have:=(ok.j7.mem hb).1;rw[e]at this;cases this
theorem aH.bs(I:aH X af σ H s):∀b o,X.base.get? b=some o->s.heap.get? b=some o/\H b=none:=fun b o e=>
 ⟨I.base.keep b o (I.ok.bs b o e).1 (I.ok.bs b o e).2 (I.ok.Pp e) (I.ok.wy b o e),I.base.free b o (I.ok.bs b o e).1 (I.ok.bs b o e).2 (I.ok.wy b o e)⟩
theorem aH.bk(I:aH X af σ H s):∀b o,X.base.get? b=some o->s.heap.get? b=some o:=fun b o e=>(I.bs b o e).1
theorem aH.mod(I:aH X af σ H s):Mod X.K X.mg X.base:=I.ok.mod
theorem aH.ql(I:aH X af σ H s):X.K.In s.heap:=I.ok.mod.LI.keeps I.bk
theorem aH.lt(I:aH X af σ H s):X.env.locals<s.heap.objs.size:=let⟨_,hn,_⟩:=I.loc;hn.lt
theorem aH.sz(I:aH X af σ H s):X.s₀.heap.objs.size<=s.heap.objs.size:=VR I.ok.above (X1 I.lt)
theorem aH.Pq(I:aH X af σ H s){a:_C}(h:s.heap.objs.size<=a):a ∉ X.fs:=fun hb=>by obtain⟨_,o,ho,_⟩:=I.ok.j7.mem hb;exact absurd (VL (Vy ho) (VR I.sz h)) (V5 _)
theorem aH.Hw(I:aH X af σ H s):∀x c,X.env.cells.lookup x=some c->c≠X.env.locals:=fun x c e z=>by obtain⟨v,o,ho,hd⟩:=I.cell x c e;obtain⟨m,⟨o',es,ep,mY,Pr,_⟩,_⟩:=I.loc;rw[z,mY]at ho;cases ho;rw[Pr]at hd;cases hd
theorem aH.j7(I:aH X af σ H s):s.heap.FunFrames X.base X.outer:=by
 have all:∀(l:List Env),(∀b∈d9 l,b∈X.fs)->X.s₀.heap.FunFrames X.base l->s.heap.FunFrames X.base l:=by
  intro l
  induction l with
  |nil=>intro _ _;trivial
  |cons env r ih=>
   intro hs hl;obtain⟨hk,⟨L,o,hf,hn,ho,hd⟩,hr⟩:=hl;have hL:L∈X.fs:=hs L (by unfold d9;rw[WX,hf];exact Vt);obtain⟨sl,e⟩:=I.base.slot L o ho (I.ok.Bx L hL) hL fun z=>I.ok.Bw L z hL;exact⟨hk,⟨L,_,hf,hn,e,hd⟩,ih (fun b hb=>hs b (by unfold d9;rw[WX,hf];exact Vr _ hb)) hr⟩
 exact all X.outer (fun _ hb=>hb) I.ok.j7
theorem aH.stack(I:aH X af σ H s):s.heap.FunFrames X.base X.stack:=by
 rcases I.ok.Bv with e|⟨e,hf⟩
 .rw[e];exact I.j7
 .rw[e];obtain⟨m,hn,_⟩:=I.loc;refine .cons (by rw[I.ok.kind];decide) hf hn ?_ I.j7;exact Heap.get?_none_of_le (VR I.ok.Hv I.ok.above)
theorem aH.j8(I:aH X af σ H s):∀b∈d9 X.stack,b∈X.env.locals::X.fs:=fun b hb=>by
 rcases I.ok.Bv with e|⟨e,hf⟩
 .rw[e]at hb;exact Vr _ hb
 .rw[e]at hb;unfold d9 at hb;rw[WX,hf]at hb;exact hb
theorem aH.om(I:aH X af σ H s):∀b∈d9 X.stack,H b=none:=fun b hb=>by
 rcases VG.mp (I.j8 b hb)with e|hb
 .rw[e];exact I.free
 .obtain⟨_,o,ho,_⟩:=I.ok.j7.mem hb;exact I.base.free b o ho (I.ok.Bx b hb) fun z=>I.ok.Bw b z hb
theorem aH.step{g':Array GenState}{t':Nat}{d':Drawn}{ch:_y}(I:aH X af σ H s)(Bn:∀b∈ch,(b∈X.ex\/X.s₀.heap.objs.size<=b)/\b≠X.env.locals/\(∀x c,X.env.cells.lookup x=some c->c≠b)/\∀p∈X.pn++af,p.1≠b)(keep:∀b o,b≠X.env.locals->b ∉ X.fs->b ∉ ch->s.heap.get? b=some o->H b=none->h'.get? b=some o)(slot:∀b o,b≠X.env.locals->b∈X.fs->b ∉ ch->s.heap.get? b=some o->H b=none->∃sl,h'.get? b=some {o with slots:=sl})(free:∀b o,b ∉ ch->s.heap.get? b=some o->H b=none->H' b=none)(there:∀b o,b ∉ ch->s.heap.get? b=some o->∃o',h'.get? b=some o')(g0:∀b xs,H b=some (.tup xs)->H' b=some (.tup xs))(gO:∀b o u,H b=some (.j6 o u)->H' b=some (.j6 o u))(iS:∀b ps,H b=some (.Ey ps)->∃more,H' b=some (.Ey (ps++more)))(ns:∀m,s.heap.Ns X.env.locals m->h'.Ns X.env.locals m)(b_:gZ X.prog X.w H' h')(hg:AllBare g'):
  aH X af σ H' {s with heap:=h',gens:=g',drawn:=d',toks:=t'}:=by
 have Iv:∀b o,X.s₀.heap.get? b=some o->b≠X.env.locals:=fun b o e=>V2 (VL (Vy e) I.ok.above);have Hx:∀b o,X.s₀.heap.get? b=some o->b ∉ X.ex->b ∉ ch:=fun b o e hx hb=>by
  rcases(Bn b hb).1 with z|z
  .exact hx z
  .exact absurd (VL (Vy e) z) (V5 _)
 have cellK:∀x c,X.env.cells.lookup x=some c->∀v,s.heap.IsCell c v->h'.IsCell c v:=fun x c e v⟨o,ho,hd⟩=>by
  have L7:c ∉ ch:=fun z=>(Bn c z).2.2.1 x c e rfl;by_cases hc:c∈X.fs
  .obtain⟨sl,q⟩:=slot c o (I.Hw x c e) hc L7 ho (I.g_ x c e);exact⟨_,q,hd⟩
  .exact⟨o,keep c o (I.Hw x c e) hc L7 ho (I.g_ x c e),hd⟩
 refine⟨I.ok,I.os,hg,⟨fun b o e n hb hx=>?_,fun b o e n hb hx=>?_,fun b o e n hx=>?_,fun b o e hx=>?_,fun b xs e=>g0 b xs (I.base.g0 b xs e),fun b o xs e=>gO b o xs (I.base.gO b o xs e),fun b ps e=>?_⟩,?_,fun x c e=>?_,?_,fun x c e=>?_,fun p hp=>?_,b_,I.len⟩
 .exact keep b o (Iv b o e) hb (Hx b o e hx) (I.base.keep b o e n hb hx) (I.base.free b o e n hx)
 .obtain⟨sl,e1⟩:=I.base.slot b o e n hb hx;obtain⟨ES,e2⟩:=slot b _ (Iv b o e) hb (Hx b o e hx) e1 (I.base.free b o e n hx);exact⟨ES,e2⟩
 .obtain⟨o',e1⟩:=I.base.there b o e hx;exact free b o' (Hx b o e hx) e1 (I.base.free b o e n hx)
 .obtain⟨o',e1⟩:=I.base.there b o e hx;exact there b o' (Hx b o e hx) e1
 .obtain⟨m1,e1⟩:=I.base.iS b ps e;obtain⟨m2,e2⟩:=iS b _ e1;exact⟨m1++m2,by rw[e2,Yi]⟩
 .obtain⟨m,hn,hl⟩:=I.loc;refine⟨m,ns m hn,fun i x v e1 e2 e3=>?_⟩;obtain⟨u,r,l⟩:=hl i x v e1 e2 e3;refine⟨u,r,?_⟩;rcases l with l|⟨k,c,e,z⟩
  .exact .inl l
  .exact .inr ⟨k,c,e,cellK x c e _ z⟩
 .obtain⟨v,z⟩:=I.cell x c e;exact⟨v,cellK x c e v z⟩
 .obtain⟨m,⟨o,_,_,ho,_⟩,_⟩:=I.loc;exact free _ o (fun z=>(Bn _ z).2.1 rfl) ho I.free
 .obtain⟨v,o,ho,hd⟩:=I.cell x c e;exact free c o (fun z=>(Bn c z).2.2.1 x c e rfl) ho (I.g_ x c e)
 .obtain⟨e,n,ne,nf,d⟩:=I.pin p hp;have L7:p.1 ∉ ch:=fun z=>(Bn p.1 z).2.2.2 p hp rfl;exact⟨keep p.1 p.2 ne nf L7 e n,free p.1 p.2 L7 e n,ne,nf,d⟩
theorem aH.un{t':Nat}(I:aH X af σ H s)(u:Un X.fs [] H H' s.heap h')(b_:gZ X.prog X.w H' h'):aH X af σ H' {s with heap:=h',toks:=t'}:=by
 obtain⟨m,⟨o,es,ep,ho,r⟩,_⟩:=id I.loc;obtain⟨sl,hL⟩:=u.any ho I.free (by simp);exact I.step (g':=s.gens) (d':=s.drawn) (ch:=[]) (fun _ z=>nomatch z) (fun b o _ hb _ e n=>u.keep b o e n hb (by simp)) (fun b o _ hb _ e n=>u.slot b o e n hb (by simp)) (fun b o _ e n=>u.free b o e n (by simp)) (fun b o _ e=>u.there b o e (by simp)) u.g0 u.gO u.iS (fun m' hm=>by
  obtain⟨o',Pt,Pu,mY,r'⟩:=hm;rw[ho]at mY;cases mY;exact⟨_,Pt,Pu,hL,r'⟩) b_ I.bare
theorem aH.call{g':Array GenState}{t':Nat}{d':Drawn}{ch:_y}(I:aH X af σ H s)(u:Un (d9 X.stack) ch H H' s.heap h')(b_:gZ X.prog X.w H' h')(hg:AllBare g')(Bn:∀b∈ch,(b∈X.ex\/X.s₀.heap.objs.size<=b)/\b≠X.env.locals/\(∀x c,X.env.cells.lookup x=some c->c≠b)/\∀p∈X.pn++af,p.1≠b):
  aH X af σ H' {s with heap:=h',gens:=g',drawn:=d',toks:=t'}:=by
 obtain⟨m,⟨o,es,ep,ho,r⟩,_⟩:=id I.loc;obtain⟨sl,hL⟩:=u.any ho I.free fun z=>(Bn _ z).2.1 rfl;exact I.step (ch:=ch) Bn (fun b o hL hb hc e n=>u.keep b o e n (fun z=>(VG.mp (I.j8 b z)).elim hL hb) hc) (fun b o _ _ hc e n=>u.any e n hc) (fun b o hc e n=>u.free b o e n hc) (fun b o hc e=>u.there b o e hc) u.g0 u.gO u.iS (fun m' hm=>by
  obtain⟨o',Pt,Pu,mY,r'⟩:=hm;rw[ho]at mY;cases mY;exact⟨_,Pt,Pu,hL,r'⟩) b_ hg
theorem aH.turned{t':Nat}{it:_C}(I:aH X af σ H s)(k:∀b o,b≠it->s.heap.get? b=some o->h'.get? b=some o)(hn:H it=none)(hL:it≠X.env.locals)(h1:it∈X.ex\/X.s₀.heap.objs.size<=it)(h2:∀x c,X.env.cells.lookup x=some c->c≠it)(h3:∀p∈X.pn++af,p.1≠it):aH X af σ H {s with heap:=h',toks:=t'}:=by
 have Sa:∀b u,H b=some u->b≠it:=fun b u e z=>by rw[z,hn]at e;cases e
 refine I.step (g':=s.gens) (d':=s.drawn) (ch:=[it]) (fun b hb=>?_) (fun b o _ _ hc e _=>k b o (fun z=>hc (by simp[z])) e) (fun b o _ _ hc e _=>⟨o.slots,k b o (fun z=>hc (by simp[z])) e⟩) (fun _ _ _ _ n=>n)
  (fun b o hc e=>⟨o,k b o (fun z=>hc (by simp[z])) e⟩) (fun _ _ e=>e) (fun _ _ _ e=>e) (fun b ps e=>⟨#[],by rw[e];simp⟩) (fun m hm=>?_) (fun b u e=>?_) I.bare
 .have e:b=it:=by simpa using hb
  subst e;exact⟨h1,hL,h2,h3⟩
 .obtain⟨o,es,ep,ho,r⟩:=hm;exact⟨o,es,ep,k _ o (Xm hL) ho,r⟩
 .refine(I.b_ b u e).kG (fun c v hc q=>k c v ?_ q) (fun _ q=>q) fun _ _ q=>q;rcases hc with z|z
  .rw[z];exact Sa b u e
  .exact Sa c _ z
theorem aH.tok(I:aH X af σ H s)(t:Nat):aH X af σ H {s with toks:=t}:=I.un (h':=s.heap) (t':=t) Un.refl I.b_
theorem aH.kept{t':Nat}(I:aH X af σ H s)(k:∀b u,s.heap.get? b=some u->h'.get? b=some u):aH X af σ H {s with heap:=h',toks:=t'}:=I.un (Un.kept k) (I.b_.kept k)
theorem aH.laid{a:_C}{o:HO}{t':Nat}(I:aH X af σ H s)(k:∀b u,s.heap.get? b=some u->h'.get? b=some u)(hp:s.heap.objs.size<=a)(new:cA X.prog X.w (upd H a o) h' a o):
  aH X af σ (upd H a o) {s with heap:=h',toks:=t'}:=I.un (Un.laid k hp (I.b_.fresh hp)) (I.b_.laid k hp new)
theorem aH.write{x e:_C}{o:HO}{t':Nat}(I:aH X af σ H s)(mu:L5 (H x))(he:e=x\/H e=some (.own x))(k:∀b u,b≠e->s.heap.get? b=some u->h'.get? b=some u)(LH:∃u,h'.get? e=some u)(new:cA X.prog X.w (upd H x o) h' x o):aH X af σ (upd H x o) {s with heap:=h',toks:=t'}:=I.un (Un.write mu he k LH) (I.b_.write mu he k LH new)
theorem aH.jz{By:_t}(I:aH X af σ H s)(h:∀p∈By,s.heap.get? p.1=some p.2/\H p.1=none/\p.1≠X.env.locals/\p.1 ∉ X.fs/\∀v,p.2.data≠.cell v):aH X By σ H s:=
 ⟨I.ok,I.os,I.bare,I.base,I.loc,I.cell,I.free,I.g_,fun p hp=>(Wt.mp hp).elim (fun z=>I.pin p (W_ _ z)) (h p),I.b_,I.len⟩
theorem ur{N:_z}(hN:N.Nodup){i j:Nat}{x:Str}(a:N[i]?=some x)(b:N[j]?=some x):i=j:=by obtain⟨h1,e1⟩:=VW.mp a;obtain⟨h2,e2⟩:=VW.mp b;exact(ZH hN).mp (e1.trans e2.symm)
theorem qK{M:Model}{A:_D}{E:_r}{i:Nat}{x:Str}{v:V}{u:_A}{Q:Unit->_B->Prop}(I:aH X af σ H s)(hN:X.N.Nodup)(hi:X.N[i]?=some x)(hx:Loc X.env.scope x)(r:bD v u)(h:∀s',aH X af (σ.set i (some v)) H s'->(∃a,Heap.SameBut a s.heap s'.heap/\(a=X.env.locals\/X.env.cells.lookup x=some a))->Q () s')(hf:X.fn x=true\/X.env.scope.names.lookup x=some .local:=by first|exact .inl rfl|exact .inr rfl|assumption):wpAny M A (storeName X.env x u) Q E s:=by
 obtain⟨m,hn,hl⟩:=id I.loc;have Pw:(X.env.scope.kind == .class || (X.env.scope.kind == .module&&X.env.locals !=X.env.globals))=false:=by rw[I.ok.kind];rfl
 have L8:i<σ.length:=by rw[I.len];exact(VW.mp hi).1
 have Hw:=I.Hw;have tracked:∀{a:_C}{h':Heap},(∃o,s.heap.get? a=some o/\H a=none)->Heap.SameBut a s.heap h'->gZ X.prog X.w H h':=fun{a h'}ha hs b ob e=>by
  obtain⟨_,_,x?⟩:=ha;refine(I.b_ b ob e).kG (fun c w' hc q=>(hs.2 c ?_).trans q) (fun _ q=>q) fun _ _ q=>q;rintro rfl;rcases hc with rfl|hc
  .rw[x?]at e;cases e
  .rw[x?]at hc;cases hc
 rcases hx with hk|hk
 .refine wpAny_storeName_local hk hn (fun h' OA hs=>?_) Pw;obtain⟨oL,_,_,Tn,_⟩:=id hn;refine h _ ⟨I.ok,I.os,I.bare,⟨fun b o e n hb hx=>?_,fun b o e n hb hx=>?_,I.base.free,fun b o e hx=>?_,I.base.g0,I.base.gO,I.base.iS⟩,⟨_,OA,fun j y v' e1 e2 e3=>?_⟩,fun y c e=>?_,I.free,I.g_,fun p hp=>?_,tracked ⟨oL,Tn,I.free⟩ hs,by simpa using I.len⟩ ⟨_,hs,.inl rfl⟩
  .exact(hs.2 b (V2 (VL (Vy e) I.ok.above))).trans (I.base.keep b o e n hb hx)
  .obtain⟨sl,e1⟩:=I.base.slot b o e n hb hx;exact⟨sl,(hs.2 b (V2 (VL (Vy e) I.ok.above))).trans e1⟩
  .obtain⟨o',e1⟩:=I.base.there b o e hx;exact⟨o',(hs.2 b (V2 (VL (Vy e) I.ok.above))).trans e1⟩
  .by_cases hj:j=i
   .subst hj;rw[hi]at e1;cases e1;rw[V_ L8]at e2;cases e2;exact⟨u,r,.inl ⟨hk,by simp⟩⟩
   .rw[Wi (Xm hj)]at e2;obtain⟨u',r',q⟩:=hl j y v' e1 e2 e3;refine⟨u',r',?_⟩;rcases q with⟨k,e⟩|⟨k,c,e,z⟩
    .refine .inl ⟨k,?_⟩;have:y≠x:=fun e=>hj (ur hN e1 (e▸hi));simp[this,e]
    .exact .inr ⟨k,c,e,z.sameBut hs (Hw y c e)⟩
  .obtain⟨w',z⟩:=I.cell y c e;exact⟨w',z.sameBut hs (Hw y c e)⟩
  .obtain⟨e,n,ne,nf,d⟩:=I.pin p hp;exact⟨(hs.2 p.1 ne).trans e,n,ne,nf,d⟩
 .have Bz:X.fn x=true:=by
   rcases hf with z|z
   .exact z
   .rw[z]at hk;cases hk
  obtain⟨c,hc⟩:=I.ok.has x (.inl hk);obtain⟨w',z⟩:=I.cell x c hc;refine wpAny_storeName_cell I.ok.kind hk hc z (fun h' c9 hs=>?_);obtain⟨oc,Sb,Px⟩:=id z;refine h {s with heap:=h'} ⟨I.ok,I.os,I.bare,⟨fun b o e n hb hx=>?_,fun b o e n hb hx=>?_,I.base.free,fun b o e hx=>?_,I.base.g0,I.base.gO,I.base.iS⟩,⟨m,hn.sameBut hs (Xm (Hw x c hc)),fun j y v' e1 e2 e3=>?_⟩,fun y c' e=>?_,I.free,I.g_,fun p hp=>?_,tracked ⟨oc,Sb,I.g_ x c hc⟩ hs,by simpa using I.len⟩ ⟨c,hs,.inr hc⟩
  .exact(hs.2 b (V2 (VL (Vy e) (I.ok.Iu x c Bz hc)))).trans (I.base.keep b o e n hb hx)
  .obtain⟨sl,e1⟩:=I.base.slot b o e n hb hx;exact⟨sl,(hs.2 b (V2 (VL (Vy e) (I.ok.Iu x c Bz hc)))).trans e1⟩
  .obtain⟨o',e1⟩:=I.base.there b o e hx;exact⟨o',(hs.2 b (V2 (VL (Vy e) (I.ok.Iu x c Bz hc)))).trans e1⟩
  .by_cases hj:j=i
   .subst hj;rw[hi]at e1;cases e1;rw[V_ L8]at e2;cases e2;exact⟨u,r,.inr ⟨.inl hk,c,hc,c9⟩⟩
   .rw[Wi (Xm hj)]at e2;obtain⟨u',r',q⟩:=hl j y v' e1 e2 e3;refine⟨u',r',?_⟩;rcases q with q|⟨k,c',e,z'⟩
    .exact .inl q
    .refine .inr ⟨k,c',e,z'.sameBut hs ?_⟩;rintro rfl;exact hj (ur hN e1 (I.ok.inj _ _ _ e hc▸hi))
  .by_cases Sd:c'=c
   .subst Sd;exact⟨_,c9⟩
   .obtain⟨w2,z2⟩:=I.cell y c' e;exact⟨w2,z2.sameBut hs Sd⟩
  .obtain⟨e,n,ne,nf,d⟩:=I.pin p hp;refine⟨(hs.2 p.1 ?_).trans e,n,ne,nf,d⟩;intro q;rw[q,Sb]at e;have q':oc=p.2:=V? e;exact d w' (by rw[<-q'];exact Px)
theorem oE{M:Model}{A:_D}{E:_r}{i:Nat}{x:Str}{v:V}{u:_A}{Q:Unit->_B->Prop}(I:aH X af σ H s)(hN:X.N.Nodup)(hi:X.N[i]?=some x)(hx:Loc X.env.scope x)(r:bD v u)(h:∀s',aH X af (σ.set i (some v)) H s'->Q () s')(hf:X.fn x=true\/X.env.scope.names.lookup x=some .local:=by first|exact .inl rfl|exact .inr rfl|assumption):wpAny M A (storeName X.env x u) Q E s:=
 qK I hN hi hx r (fun s' I' _=>h s' I') hf
theorem aH.qL{s':_B}{ch:_y}(I:aH X af σ H s)(ho:s'.os=s.os)(u:Un (d9 X.stack) ch H H' s.heap s'.heap)(b_:gZ X.prog X.w H' s'.heap)(hg:AllBare s'.gens)(Bn:∀b∈ch,(b∈X.ex\/X.s₀.heap.objs.size<=b)/\b≠X.env.locals/\(∀x c,X.env.cells.lookup x=some c->c≠b)/\∀p∈X.pn++af,p.1≠b):aH X af σ H' s':=by obtain⟨h',g',d',t',o'⟩:=s';have e:o'=s.os:=ho;subst e;exact I.call (g':=g') (t':=t') (d':=d') u b_ hg Bn
end
abbrev XK:=_A->Option _C->Hp->Prop
abbrev St:=List (Option V)
abbrev VK:=V->Hp->Prop
abbrev TE:=St->Hp->VK->Prop
abbrev TT:=St->Hp->(Bool->Hp->Prop)->Prop
abbrev TA:=St->Hp->(List V->Hp->Prop)->Prop
structure Ends where
 nx:St->Hp->Prop
 rt:VK
 bk:St->Hp->Prop:=fun _ _=>False
 ct:St->Hp->Prop:=fun _ _=>False
abbrev TS:=Ends->St->Hp->Prop
def EP(X:Cx)(af:_t)(σ:St)(Q:VK)(u:_A)(s':_B):Prop:=∃v H',aH X af σ H' s'/\bD v u/\Q v H'
def TP(X:Cx)(af:_t)(σ:St)(Q:Bool->Hp->Prop)(b:Bool)(s':_B):Prop:=∃H',aH X af σ H' s'/\Q b H'
def AP(X:Cx)(af:_t)(σ:St)(Q:List V->Hp->Prop)(us:_w)(s':_B):Prop:=∃vs H',aH X af σ H' s'/\bg vs us/\Q vs H'
def SP(X:Cx)(af:_t)(D:Ends)(f:Flow)(s':_B):Prop:=
 match f with
 |.next=>∃σ' H',aH X af σ' H' s'/\D.nx σ' H'
 |.brk=>∃σ' H',aH X af σ' H' s'/\D.bk σ' H'
 |.cont=>∃σ' H',aH X af σ' H' s'/\D.ct σ' H'
 |.ret u=>∃v σ' H',aH X af σ' H' s'/\bD v u/\D.rt v H'
def PE(X:Cx)(e:Expr)(t:TE):Prop:=
 ∀(af:_t)(s:_B)(σ:St)(H:Hp)(Q:VK),aH X af σ H s->t σ H Q->wpAny (model X.prog X.w) X.A (eval e X.env) (EP X af σ Q) X.xe s
def PT(X:Cx)(e:Expr)(t:TT):Prop:=
 ∀(af:_t)(s:_B)(σ:St)(H:Hp)(Q:Bool->Hp->Prop),aH X af σ H s->t σ H Q->wpAny (model X.prog X.w) X.A (isTrue e X.env (eval e X.env)) (TP X af σ Q) X.xe s
def PW(X:Cx)(e:Expr)(t:TT):Prop:=
 ∀(whole:Sem _A)(af:_t)(s:_B)(σ:St)(H:Hp)(Q:Bool->Hp->Prop),aH X af σ H s->t σ H Q->wpAny (model X.prog X.w) X.A (isTrue e X.env whole) (TP X af σ Q) X.xe s
theorem PW.pt{X:Cx}{e:Expr}{t:TT}(h:PW X e t):PT X e t:=h _
def PA(X:Cx)(es:List Expr)(t:TA):Prop:=
 ∀(pos:Pos)(af:_t)(s:_B)(σ:St)(H:Hp)(Q:List V->Hp->Prop),aH X af σ H s->t σ H Q->wpAny (model X.prog X.w) X.A (spliced (backTo pos (starEach es X.env))) (AP X af σ Q) X.xe s
def PS(X:Cx)(st:Stmt)(t:TS):Prop:=
 ∀(af:_t)(s:_B)(σ:St)(H:Hp)(D:Ends),aH X af σ H s->t D σ H->wpAny (model X.prog X.w) X.A (exec st X.env) (SP X af D) X.xe s
def jJ(X:Cx)(st:List Stmt)(t:TS):Prop:=
 ∀(af:_t)(s:_B)(σ:St)(H:Hp)(D:Ends),aH X af σ H s->t D σ H->wpAny (model X.prog X.w) X.A (execs st X.env) (SP X af D) X.xe s
theorem cf{α:Type}{t:Sem α}{Q Q':α->_B->Prop}{M:Model}{A:_D}{E:_r}{s:_B}(h:wpAny M A t Q E s)(hQ:∀a s,Q a s->Q' a s):wpAny M A t Q' E s:=V8 h hQ fun _ _ x=>x
section
variable{X:Cx}
def Py(i:Nat):TE:=fun σ H Q=>∃v,σ[i]?=some (some v)/\Q v H
def tC(v:V):TE:=fun _ H Q=>Q v H
theorem Iw{i:Nat}{x:Str}{pos:Pos}(hN:X.N[i]?=some x)(hv:Oz X.env.scope x)(hd:(x==("__debug__":Str))=false:=by decide)(BA:(x==("__classdict__":Str))=false:=by decide):PE X (.Name x pos) (Py i):=by
 intro af s σ H Q I h;obtain⟨v,e,h⟩:=h;obtain⟨m,hn,hl⟩:=I.loc;obtain⟨u,r,l⟩:=hl i x v hN e hv;have fin:EP X af σ Q u s:=⟨v,H,I,r,h⟩
 rcases l with⟨hk,hm⟩|⟨hk,c,hc,Hy⟩
 .exact wpAny_Name (wpAny_loadName_local I.ok.kind hk hn hm fin) hd
 .rcases hk with hk|hk
  .exact wpAny_Name (wpAny_loadName_cell I.ok.kind hk hc Hy fin) hd
  .exact wpAny_Name (wpAny_loadName_free I.ok.kind hk hc Hy fin BA) hd
theorem Iy{i j pos}:PE X (.Constant (.int i) j pos) (tC (.int i)):=fun _ _ _ H _ I h=>wpAny_Constant_int ⟨.int i,H,I.tok _,⟨_,rfl⟩,h⟩
theorem Hz{b j pos}:PE X (.Constant (.bool b) j pos) (tC (.bl b)):=fun _ _ _ H _ I h=>Constant_bool ⟨.bl b,H,I,rfl,h⟩
theorem Iz{x j pos}:PE X (.Constant (.str x) j pos) (tC (.str x)):=fun _ _ _ H _ I h=>Calls.Constant_str ⟨.str x,H,I.tok _,⟨_,rfl⟩,h⟩
def Gl(X:Cx)(x:Str):Prop:=X.env.kindOf x=some .globalImplicit
theorem kH{E:_r}{af:_t}{s:_B}{σ:St}{H:Hp}{x:Str}{u:_A}{pos:Pos}{Q:_r}(I:aH X af σ H s)(hg:Gl X x)(hm:X.mg x=some u)(h:Q u s)(hd:(x==("__debug__":Str))=false:=by decide):wpAny (model X.prog X.w) X.A (eval (.Name x pos) X.env) Q E s:=
 ZM I.ok.kind hg (Calls.loadGlobal_global (by rw[I.ok.glob];exact I.mod.glob.keeps I.bk) hm h) hd
theorem iX{E:_r}{af:_t}{s:_B}{σ:St}{H:Hp}{x:Str}{u:_A}{pos:Pos}{Q:_r}(I:aH X af σ H s)(hg:Gl X x)(hm:X.mg x=none)(hv:bootBuiltins x=some u)(h:Q u s)(hn:x ≠ "__name__":=by decide)(hd:(x==("__debug__":Str))=false:=by decide):wpAny (model X.prog X.w) X.A (eval (.Name x pos) X.env) Q E s:=by obtain⟨mb,h1,h2⟩:=I.mod.blt;exact ZM I.ok.kind hg (Calls.loadGlobal_builtin (by rw[I.ok.glob];exact I.mod.glob.keeps I.bk) hm (by rw[I.ok.blt];exact h1.keeps I.bk) ((h2 x hn).trans hv) h) hd
theorem ET{x:Str}{v:V}{u:_A}{pos:Pos}(hg:Gl X x)(hm:X.mg x=some u)(r:bD v u)(hd:(x==("__debug__":Str))=false:=by decide):PE X (.Name x pos) (tC v):=
 fun _ _ _ H _ I h=>kH I hg hm ⟨v,H,I,r,h⟩ hd
theorem EU{x:Str}{v:V}{u:_A}{pos:Pos}(hg:Gl X x)(hm:X.mg x=none)(hv:bootBuiltins x=some u)(r:bD v u)(hn:x ≠ "__name__":=by decide)(hd:(x==("__debug__":Str))=false:=by decide):PE X (.Name x pos) (tC v):=
 fun _ _ _ H _ I h=>iX I hg hm hv ⟨v,H,I,r,h⟩ hn hd
variable{a b:Expr}{ta tb:TE}{pos:Pos}
def PC(X:Cx)(op:CmpOp)(a b:Expr)(t:TE):Prop:=
 ∀(af:_t)(s:_B)(σ:St)(H:Hp)(Q:VK),aH X af σ H s->t σ H Q ->
  wpAny (model X.prog X.w) X.A (eval a X.env) (fun v s₁=>wpAny (model X.prog X.w) X.A (eval b X.env) (fun u s₂=>wpAny (model X.prog X.w) X.A (compareOp op v u) (EP X af σ Q) X.xe s₂) X.xe s₁) X.xe s
def tB(t:TE):TT:=fun σ H Q=>t σ H fun x H1=>∃c,x=.bl c/\Q c H1
theorem IA{e:Expr}{t:TE}(h:PE X e t)(he:∀whole,isTrue e X.env whole=(do let v <- whole;standAt e.pos;holding [v] (truthy v)):=by intro _;rfl):PT X e (tB t):=by intro af s σ H Q I hw;refine isTrue_plain (cf (h af s σ H _ I hw) fun v s1⟨x,H1,I1,r1,q1⟩=>?_) (he _);obtain⟨d,rfl,q⟩:=q1;cases r1;exact W5 ⟨H1,I1,q⟩
variable{tA EV:TT}{rest:List Expr}
def Pz(t u:TT):TT:=fun σ H Q=>t σ H fun c H1=>if c=true then u σ H1 Q else Q false H1
def To(t u:TT):TT:=fun σ H Q=>t σ H fun c H1=>if c=true then Q true H1 else u σ H1 Q
def PB(t:TT):TT:=fun σ H Q=>t σ H fun c H1=>Q (!c) H1
theorem EW(ha:PT X a tA):PW X (.BoolOp .And [a] pos) tA:=by
 intro wh af s σ H Q I h;refine isTrue_and (cf (ha af s σ H Q I h) fun c s1 e=>?_);cases c with
 |true=>exact isTrue_and_nil e
 |false=>exact e
theorem IB(ha:PT X a tA):PW X (.BoolOp .Or [a] pos) tA:=by
 intro wh af s σ H Q I h;refine isTrue_or (cf (ha af s σ H Q I h) fun c s1 e=>?_);cases c with
 |false=>exact isTrue_or_nil e
 |true=>exact e
theorem IC(ha:PT X a tA)(hb:PW X (.BoolOp .And (b::rest) pos) EV):PW X (.BoolOp .And (a::b::rest) pos) (Pz tA EV):=by
 intro wh af s σ H Q I h;refine isTrue_and (cf (ha af s σ H _ I h) fun c s1⟨H1,I1,q1⟩=>?_);cases c with
 |true=>exact hb wh af s1 σ H1 Q I1 q1
 |false=>exact⟨H1,I1,q1⟩
theorem L9(ha:PT X a tA)(hb:PW X (.BoolOp .Or (b::rest) pos) EV):PW X (.BoolOp .Or (a::b::rest) pos) (To tA EV):=by
 intro wh af s σ H Q I h;refine isTrue_or (cf (ha af s σ H _ I h) fun c s1⟨H1,I1,q1⟩=>?_);cases c with
 |true=>exact⟨H1,I1,q1⟩
 |false=>exact hb wh af s1 σ H1 Q I1 q1
theorem ID(ha:PT X a tA):PT X (.UnaryOp .Not a pos) (PB tA):=by intro af s σ H Q I h;exact isTrue_not (ha af s σ H (fun c H1=>Q (!c) H1) I h)
def L_(ta tb:TE):TE:=fun σ H Q=>ta σ H fun x H1=>∃c,x=.bl c/\if c=true then tb σ H1 Q else Q (.bl false) H1
def PD(ta tb:TE):TE:=fun σ H Q=>ta σ H fun x H1=>∃c,x=.bl c/\if c=true then Q (.bl true) H1 else tb σ H1 Q
def L!(ta:TE):TE:=fun σ H Q=>ta σ H fun x H1=>∃c,x=.bl c/\Q (.bl (!c)) H1
theorem IE{op}{t:TE}(h:PE X a t):PE X (.BoolOp op [a] pos) t:=fun af s σ H Q I hw=>BoolOp_one (h af s σ H Q I hw)
theorem IF(ha:PE X a ta)(hb:PE X (.BoolOp .And (b::rest) pos) tb):PE X (.BoolOp .And (a::b::rest) pos) (L_ ta tb):=by
 intro af s σ H Q I h;refine BoolOp_and (cf (ha af s σ H _ I h) fun v s1⟨x,H1,I1,r1,q1⟩=>?_);obtain⟨c,rfl,q1⟩:=q1;cases r1;refine W5 ?_;cases c with
 |true=>exact hb af s1 σ H1 Q I1 q1
 |false=>exact⟨.bl false,H1,I1,rfl,q1⟩
theorem L?(ha:PE X a ta)(hb:PE X (.BoolOp .Or (b::rest) pos) tb):PE X (.BoolOp .Or (a::b::rest) pos) (PD ta tb):=by
 intro af s σ H Q I h;refine BoolOp_or (cf (ha af s σ H _ I h) fun v s1⟨x,H1,I1,r1,q1⟩=>?_);obtain⟨c,rfl,q1⟩:=q1;cases r1;refine W5 ?_;cases c with
 |false=>exact hb af s1 σ H1 Q I1 q1
 |true=>exact⟨.bl true,H1,I1,rfl,q1⟩
theorem IG(ha:PE X a ta):PE X (.UnaryOp .Not a pos) (L! ta):=by intro af s σ H Q I h;refine UnaryOp_ (cf (ha af s σ H _ I h) fun v s1⟨x,H1,I1,r1,q1⟩=>?_);obtain⟨c,rfl,q1⟩:=q1;cases r1;exact not_of (W5 ⟨.bl (!c),H1,I1,rfl,q1⟩)
def Tp(t:TT)(ta tb:TE):TE:=fun σ H Q=>t σ H fun c H1=>if c=true then ta σ H1 Q else tb σ H1 Q
theorem BB{c:Expr}(hc:PT X c tA)(ha:PE X a ta)(hb:PE X b tb):PE X (.IfExp c a b pos) (Tp tA ta tb):=by
 intro af s σ H Q I h;refine wpAny_IfExp (cf (hc af s σ H _ I h) fun d s1⟨H1,I1,q1⟩=>?_);cases d with
 |true=>exact ha af s1 σ H1 Q I1 q1
 |false=>exact hb af s1 σ H1 Q I1 q1
end
def j9(K:_u)(H:Hp)(a:_C)(xs:List V):Prop:=
 Rd H a (.lst xs) \/
  ∃(o:Obj)(aD:Array _A)(n:Nat),K.lookup a=some o/\o.cls=.type "list" /\ o.dict=none/\o.data=.seq aD n/\aD.size<=sizeLine/\bg xs aD.toList
def iW(K:_u)(H:Hp)(a:_C)(xs:List V):Prop:=
 Rd H a (.tup xs) \/
  ∃(o:Obj)(aD:Array _A)(n:Nat),K.lookup a=some o/\o.cls=.type "tuple" /\ o.data=.seq aD n/\aD.size<=sizeLine/\bg xs aD.toList
def PF:_A->Option V
 |.none=>some .fc
 |.bool b=>some (.bl b)
 |.int i _=>some (.int i)
 |.str x _=>some (.str x)
 |.bytes b _=>some (.Pl b)
 |.float b _=>some (.oj b)
 |.ref a=>some (.ref a)
 |.type n=>some (.ty n)
 |_=>none
theorem bD.abs{x:V}{u:_A}(r:bD x u):PF u=some x:=by
 cases x with
 |fc=>cases r;rfl
 |bl _=>cases r;rfl
 |int _=>obtain⟨t,rfl⟩:=r;rfl
 |str _=>obtain⟨t,rfl⟩:=r;rfl
 |Pl _=>obtain⟨t,rfl⟩:=r;rfl
 |oj _=>obtain⟨t,rfl⟩:=r;rfl
 |ref _=>cases r;rfl
 |ty _=>cases r;rfl
theorem bD.inj{x y:V}{u:_A}(r:bD x u)(q:bD y u):x=y:=V? (r.abs.symm.trans q.abs)
theorem bg.inj{xs ys:List V}{us:_w}(p:bg xs us)(q:bg ys us):xs=ys:=by
 induction p generalizing ys with
 |nil=>cases q;rfl
 |cons r t ih=>
  cases q with
  |cons r' t'=>rw[r.inj r',ih t']
section
variable{X:Cx}{af:_t}{σ:St}{H:Hp}{s:_B}{a:_C}{xs ys:List V}
theorem j9.of{K:_u}(h:H a=some (.lst xs)):j9 K H a xs:=.inl (.inl h)
theorem iW.of{K:_u}(h:H a=some (.tup xs)):iW K H a xs:=.inl (.inl h)
theorem aH.list(I:aH X af σ H s)(h:j9 X.K H a xs):∃aD:_w,bg xs aD/\PlainL s.heap a aD.toArray/\xs.length<=sizeLine:=by
 rcases h with h|⟨o,aD,n,hk,hc,hd,hs,hz,r⟩
 .obtain⟨z,aD,n,r,e⟩:=h.ok I.b_;exact⟨aD,r,⟨_,n,e,rfl,rfl,rfl⟩,z⟩
 .refine⟨aD.toList,r,⟨o,n,I.ql a o hk,hc,hd,by simpa using hs⟩,?_⟩;have e:=r.length;simp only[VB]at e;lia
theorem aH.tuple(I:aH X af σ H s)(h:iW X.K H a xs):∃aD:_w,bg xs aD/\IsTup s.heap a aD.toArray/\xs.length<=sizeLine:=by
 rcases h with h|⟨o,aD,n,hk,hc,hs,hz,r⟩
 .obtain⟨z,aD,r,p⟩:=h.ok I.b_;exact⟨aD,r,p,z⟩
 .refine⟨aD.toList,r,⟨o,I.ql a o hk,hc,n,by simpa using hs⟩,?_⟩;have e:=r.length;simp only[VB]at e;lia
theorem aH.oF(I:aH X af σ H s)(h:j9 X.K H a xs)(h':j9 X.K H a ys):xs=ys:=by
 obtain⟨aD,r,⟨o,n,e,_,_,d⟩,_⟩:=I.list h;obtain⟨its',r',⟨o',n',e',_,_,d'⟩,_⟩:=I.list h';rw[e]at e';cases e';rw[d]at d';injection d' with d1 _;have:aD=its':=by simpa using W' Array.toList d1
 subst this;exact r.inj r'
theorem aH.jA(I:aH X af σ H s)(h:iW X.K H a xs)(h':iW X.K H a ys):xs=ys:=by
 obtain⟨aD,r,⟨o,e,_,n,d⟩,_⟩:=I.tuple h;obtain⟨its',r',⟨o',e',_,n',d'⟩,_⟩:=I.tuple h';rw[e]at e';cases e';rw[d]at d';injection d' with d1 _;have:aD=its':=by simpa using W' Array.toList d1
 subst this;exact r.inj r'
end
abbrev Cx.oG(X:Cx)(E:_r):Cx:={X with xe:=E}
theorem Cx.Ok.oG{X:Cx}(ok:X.Ok)(E:_r):(X.oG E).Ok:=
 ⟨ok.mod,ok.kind,ok.glob,ok.blt,ok.above,ok.inj,ok.has,ok.Iu,ok.hd,ok.frames,ok.Bv,ok.Po,ok.bs,ok.Hv,ok.wy,ok.Bw,ok.j7,ok.Bx⟩
theorem Cx.Ok.rR{X:Cx}{E:_r}(ok:(X.oG E).Ok):X.Ok:=
 ⟨ok.mod,ok.kind,ok.glob,ok.blt,ok.above,ok.inj,ok.has,ok.Iu,ok.hd,ok.frames,ok.Bv,ok.Po,ok.bs,ok.Hv,ok.wy,ok.Bw,ok.j7,ok.Bx⟩
section
variable{X:Cx}{af:_t}{σ:St}{H:Hp}{s:_B}{E:_r}
theorem aH.oG(I:aH X af σ H s)(E:_r):aH (X.oG E) af σ H s:=⟨I.ok.oG E,I.os,I.bare,I.base,I.loc,I.cell,I.free,I.g_,I.pin,I.b_,I.len⟩
theorem aH.rR(I:aH (X.oG E) af σ H s):aH X af σ H s:=⟨I.ok.rR,I.os,I.bare,I.base,I.loc,I.cell,I.free,I.g_,I.pin,I.b_,I.len⟩
end
section
variable{X:Cx}{st:Stmt}{rest:List Stmt}{t u:TS}{e:Expr}{te:TE}{pos:Pos}
def Ma:TS:=fun D σ H=>D.nx σ H
def PJ(t u:TS):TS:=fun D σ H=>t {D with nx:=u D} σ H
theorem EY:jJ X [] Ma:=fun _ _ σ H _ I h=>XH ⟨σ,H,I,h⟩
theorem BC(h1:PS X st t)(h2:jJ X rest u):jJ X (st::rest) (PJ t u):=by
 intro af s σ H D I h;refine Zn (cf (h1 af s σ H {D with nx:=u D} I h) fun f s1 q=>?_);cases f with
 |next=>
  obtain⟨σ',H',I',q⟩:=q;exact h2 af s1 σ' H' D I' q
 |ret v=>exact q
 |brk=>exact q
 |cont=>exact q
theorem EZ(h1:PS X st t):jJ X [st] t:=by
 intro af s σ H D I h;refine Zn (cf (h1 af s σ H D I h) fun f s1 q=>?_);cases f with
 |next=>exact XH q
 |ret v=>exact q
 |brk=>exact q
 |cont=>exact q
theorem aH.quiet{af:_t}{σ:St}{H:Hp}{s:_B}(I:aH X af σ H s):interactive X.env=false:=by simp[interactive,I.ok.kind]
def Mb(te:TE):TS:=fun D σ H=>te σ H fun _ H1=>D.nx σ H1
theorem E1(he:PE X e te)(hs:swapsWith e none pos.line X.env=pure false:=by rfl):PS X (.Expr e pos) (Mb te):=by intro af s σ H D I h;exact wpAny_Expr_any (cf (he af s σ H _ I h) fun v s1⟨x,H1,I1,r1,q1⟩=>⟨σ,H1,I1,q1⟩) I.quiet hs
def PL(te:TE):TS:=fun D σ H=>te σ H D.rt
theorem IH(he:PE X e te):PS X (.Return (some e) pos) (PL te):=by intro af s σ H D I h;exact wpAny_Return_some (cf (he af s σ H _ I h) fun v s1⟨x,H1,I1,r1,q1⟩=>⟨x,σ,H1,I1,r1,q1⟩)
def PN(c:TT)(t u:TS):TS:=fun D σ H=>c σ H fun b H1=>if b=true then t D σ H1 else u D σ H1
theorem Mc{c:Expr}{a b:List Stmt}{tc:TT}(hc:PT X c tc)(ha:jJ X a t)(hb:jJ X b u):PS X (.If c a b pos) (PN tc t u):=by
 intro af s σ H D I h;refine wpAny_If (cf (hc af s σ H _ I h) fun d s1⟨H1,I1,q1⟩=>?_);cases d with
 |true=>exact ha af s1 σ H1 D I1 q1
 |false=>exact hb af s1 σ H1 D I1 q1
end
abbrev TG:=V->St->Hp->(St->Hp->Prop)->Prop
abbrev E2:=List V->St->Hp->(St->Hp->Prop)->Prop
def PG(X:Cx)(target:Expr)(t:TG):Prop:=
 ∀(af:_t)(s:_B)(σ:St)(H:Hp)(v:V)(u:_A)(Q:St->Hp->Prop),aH X af σ H s->bD v u->t v σ H Q ->
  wpAny (model X.prog X.w) X.A (assign target X.env u) (fun _ s'=>∃σ' H',aH X af σ' H' s'/\Q σ' H') X.xe s
def wz(X:Cx)(ts:List Expr)(t:E2):Prop:=
 ∀(af:_t)(s:_B)(σ:St)(H:Hp)(vs:List V)(us:_w)(Q:St->Hp->Prop),aH X af σ H s->bg vs us->t vs σ H Q ->
  wpAny (model X.prog X.w) X.A (assignInOrder ((assignEach ts X.env).map (·.2)) us) (fun _ s'=>∃σ' H',aH X af σ' H' s'/\Q σ' H') X.xe s
abbrev II:=V->V->V->Hp->(Hp->Prop)->Prop
def Md(X:Cx)(t:II):Prop:=
 ∀(af:_t)(s:_B)(σ:St)(H:Hp)(o i v:V)(ov iv u:_A)(Q:Hp->Prop),aH X af σ H s->bD o ov->bD i iv->bD v u->t o i v H Q ->
  wpAny (model X.prog X.w) X.A (setItem ov iv u) (fun _ s'=>∃H',aH X af σ H' s'/\Q H') X.xe s
section
variable{X:Cx}{pos:Pos}
def uu(i:Nat):TG:=fun v σ H Q=>Q (σ.set i (some v)) H
theorem E3{i:Nat}{x:Str}(hN:X.N.Nodup)(hi:X.N[i]?=some x)(hx:Loc X.env.scope x)(hf:X.fn x=true\/X.env.scope.names.lookup x=some .local:=by first|exact .inl rfl|exact .inr rfl|assumption):PG X (.Name x pos) (uu i):=by intro af s σ H v u Q I r h;exact wpAny_assign_Name (oE I hN hi hx r (fun s' I'=>⟨_,H,I',h⟩) hf)
def PQ:E2:=fun vs σ H Q=>vs=[]/\Q σ H
def Me(t:TG)(u:E2):E2:=fun vs σ H Q=>∃v r,vs=v::r/\t v σ H fun σ' H'=>u r σ' H' Q
theorem E4:wz X [] PQ:=by intro af s σ H vs us Q I r h;obtain⟨e,h⟩:=h;subst e;cases r;exact assignInOrder_nil ⟨σ,H,I,h⟩
theorem BD{e:Expr}{es:List Expr}{t:TG}{u:E2}(h1:PG X e t)(h2:wz X es u)(hs:(assignEach (e::es) X.env).map (·.2)=assign e X.env::(assignEach es X.env).map (·.2):=by rfl):wz X (e::es) (Me t u):=by
 intro af s σ H vs us Q I r h;obtain⟨v,vr,e1,h⟩:=h;subst e1;cases r with
 |cons r rr=>
  rw[hs];refine assignInOrder_cons (cf (h1 af s σ H _ _ _ I r h) fun _ s1⟨σ1,H1,I1,q1⟩=>?_);exact h2 af s1 σ1 H1 _ _ Q I1 rr q1
def PR(K:_u)(n:Nat)(t:E2):TG:=fun v σ H Q=>∃a xs,v=.ref a/\iW K H a xs/\xs.length=n/\t xs σ H Q
theorem IJ{es:List Expr}{k:Nat}{t:E2}{n:Nat}(hc:X.calm=true)(h:wz X es t)(hn:(assignEach es X.env).length=n:=by rfl)(Ez:(assignEach es X.env).findIdx? (·.1)=none:=by rfl):PG X (.Tuple es k pos) (PR X.K n t):=by intro af s σ H v u Q I r hw;obtain⟨a,xs,e1,hq,hl,hw⟩:=hw;subst e1;cases r;obtain⟨aD,rv,ht,hz⟩:=I.tuple hq;refine assign_Tuple_tuple (I.ok.hd hc) ht (by simp[hn,<-hl,rv.length]) Ez fun h' hx=>?_;have I1:aH X af σ H {s with heap:=h'}:=I.kept (t':=s.toks) fun b o e=>hx b o (V2 (Vy e)) e;exact h af _ σ H xs _ Q I1 (by simpa using rv) hw
def PU(to ti:TE)(t:II):TG:=fun v σ H Q=>to σ H fun o H1=>ti σ H1 fun i H2=>t o i v H2 fun H3=>Q σ H3
theorem IK{o i:Expr}{to ti:TE}{t:II}(ho:PE X o to)(hi:PE X i ti)(hs:Md X t)
  (ha:∀ v,assign (.Subscript o i pos) X.env v=(do
   let ov <- holding [v] (eval o X.env)
   let iv <- holding [v,ov] (eval i X.env)
   standAt pos
   holding [v,ov,iv] (setItem ov iv v)
   release [v,ov,iv] []):=by intro _;rfl):PG X (.Subscript o i pos) (PU to ti t):=by
 intro af s σ H v u Q I r h;rw[ha];refine Vk (WH (cf (ho af s σ H _ I h) fun ov s1⟨x,H1,I1,r1,q1⟩=>?_));refine Vk (WH (cf (hi af s1 σ H1 _ I1 q1) fun iv s2⟨y,H2,I2,r2,q2⟩=>?_));refine Vk (X2 (Vk (WH (cf (hs af s2 σ H2 x y v ov iv u _ I2 r1 r2 r q2) fun _ s3⟨H3,I3,q3⟩=>?_))));exact wpAny_release ⟨σ,H3,I3,q3⟩
def E5(te:TE)(g:TG):TS:=fun D σ H=>te σ H fun x H1=>g x σ H1 D.nx
theorem IL{tg e:Expr}{te:TE}{g:TG}(he:PE X e te)(hg:PG X tg g)(hs:swapsWithSole [tg] e pos.line X.env=pure false:=by rfl)(hw:swappedStores [tg] e X.env=pure none:=by rfl)(h1:(assignEach [tg] X.env).map (·.2)=[assign tg X.env]:=by rfl):PS X (.Assign [tg] e pos) (E5 te g):=by intro af s σ H D I h;refine wpAny_Assign_stores (cf (he af s σ H _ I h) fun v s1⟨x,H1,I1,r1,q1⟩=>?_) hs hw;rw[h1];exact cf (hg af s1 σ H1 x v _ I1 r1 q1) fun _ s2 q=>q
theorem IM{i:Nat}{x:Str}{e:Expr}{te:TE}{pos':Pos}(hN:X.N.Nodup)(hi:X.N[i]?=some x)(hx:Loc X.env.scope x)(he:PE X e te)(hs:swapsWith e (some (.Name x pos')) pos.line X.env=pure false:=by rfl)(hf:X.fn x=true\/X.env.scope.names.lookup x=some .local:=by first|exact .inl rfl|exact .inr rfl|assumption):
  PS X (.Assign [.Name x pos'] e pos) (E5 te (uu i)):=by
 intro af s σ H D I h;refine wpAny_Assign_Name (cf (he af s σ H _ I h) fun v s1⟨y,H1,I1,r1,q1⟩=>?_) hs;exact oE I1 hN hi hx r1 (fun s2 I2=>⟨_,H1,I2,q1⟩) hf
end
section
variable{X:Cx}{pos:Pos}
def IP(c:TT)(tb:TS):TS:=fun D σ H=>∃W:Nat->St->Hp->Prop,(∃m,W m σ H)/\∀m σ H,W m σ H ->
 c σ H fun b H1=>if b=true then ∃N:St->Hp->Prop,(∀σ' H',N σ' H'->∃m',m'<m/\W m' σ' H')/\tb {D with nx:=N,ct:=N,bk:=D.nx} σ H1 else D.nx σ H1
theorem BE{c:Expr}{body:List Stmt}{tc:TT}{tb:TS}(hp:PassesOwn (model X.prog X.w) X.A X.env X.xe)(hc:PT X c tc)(hb:jJ X body tb):PS X (.While c body [] pos) (IP tc tb):=by
 intro af s σ H D I h;obtain⟨W,⟨m0,w0⟩,turn⟩:=h;refine wpAny_While (codeAny_whileLoop (fun n s'=>∃σ' H',aH X af σ' H' s'/\W n σ' H') ?_ m0 ⟨σ,H,I,w0⟩);rintro n s1 ⟨σ1,H1,I1,w1⟩;refine Xl hp (cf (hc af s1 σ1 H1 _ I1 (turn n σ1 H1 w1)) fun b s2⟨H2,I2,q2⟩=>?_);cases b with
 |true=>
  obtain⟨N,hN,q2⟩:=q2;rw[Vo rfl];refine Xl hp (cf (hb af s2 σ1 H2 _ I2 q2) fun f s3 q3=>?_);cases f with
  |next=>
   obtain⟨σ3,H3,I3,n3⟩:=q3;obtain⟨m',hm,w3⟩:=hN σ3 H3 n3;exact⟨m',hm,σ3,H3,I3,w3⟩
  |cont=>
   obtain⟨σ3,H3,I3,n3⟩:=q3;obtain⟨m',hm,w3⟩:=hN σ3 H3 n3;exact⟨m',hm,σ3,H3,I3,w3⟩
  |brk=>exact q3
  |ret v=>exact q3
 |false=>
  rw[Vu VC];exact XH ⟨σ1,H2,I2,q2⟩
end
structure It where
 go:Nat->Hp->Prop
 Mf:Nat->Hp->V->Hp->Prop
 stop:Nat->Hp->Prop
def lQ(X:Cx)(af:_t)(H:Hp)(b:_C):Prop:=
 H b=none/\b≠X.env.locals/\b ∉ X.fs/\(b∈X.ex\/X.s₀.heap.objs.size<=b)/\(∀x c,X.env.cells.lookup x=some c->c≠b)/\∀p∈X.pn++af,p.1≠b
theorem aH.zJ{X:Cx}{af:_t}{σ:St}{H H':Hp}{s:_B}{b:_C}(I:aH X af σ H s)(hb:s.heap.objs.size<=b)(hn:H' b=none):lQ X af H' b:=by
 refine⟨hn,Xq (VL I.lt hb),I.Pq hb,.inr (VR I.sz hb),fun x c e z=>?_,fun p hp z=>?_⟩
 .obtain⟨v,q⟩:=I.cell x c e;exact absurd (VL q.lt (by rw[z];exact hb)) (V5 _)
 .exact absurd (VL (Vy (I.pin p hp).1) (by rw[z];exact hb)) (V5 _)
structure Turn(P:_E)(w:World)(K:_u)(tg:Expr)(J:It)(fp:_y)(it:_C)(tn:Nat->Heap->Prop):Prop where
 mem:it∈fp
 obj:∀i h,tn i h->∀b∈fp,∃o,h.get? b=some o/\∀v,o.data≠.cell v
 keep:∀i h h',tn i h->(∀b∈fp,∀o,h.get? b=some o->h'.get? b=some o)->tn i h'
 item:∀(X:Cx),X.prog=P->X.w=w->X.K=K->X.calm=true->∀(i:Nat)(af:_t)(s:_B)(σ:St)(H:Hp)(E:_r),aH X af σ H s->(∀b∈fp,lQ X af H b)->tn i s.heap->J.go i H ->
  wpAny (model P w) X.A (pyNext (.ref it)) (fun r s1=>∃u,r=some u /\
   wpAny (model P w) X.A (letOwnedTupleGo tg (.ref it) u) (fun _ s2=>∃x H',aH X af σ H' s2/\bD x u/\J.Mf i H x H'/\tn (i+1) s2.heap/\∀b∈fp,H' b=none) E s1) E s
 done:∀(X:Cx),X.prog=P->X.w=w->X.K=K->X.calm=true->∀(i:Nat)(af:_t)(s:_B)(σ:St)(H:Hp)(E:_r),aH X af σ H s->(∀b∈fp,lQ X af H b)->tn i s.heap->J.stop i H ->
  wpAny (model P w) X.A (pyNext (.ref it)) (fun r s1=>r=none/\aH X af σ H s1) E s
 self:∀(A:_D)(i:Nat)(s:_B)(Q:_r)(E:_r),tn i s.heap->Q (.ref it) s->wpAny (model P w) A (pyIter (.ref it)) Q E s
abbrev TI:=St->Hp->(It->Hp->Prop)->Prop
def Se(X:Cx)(af:_t)(σ:St)(tg:Expr)(R:It->Hp->Prop)(Mg:_A)(s2:_B):Prop:=
 ∃(it:_C)(fp:_y)(tn:Nat->Heap->Prop)(J:It)(H':Hp),Mg=.ref it/\aH X af σ H' s2/\Turn X.prog X.w X.K tg J fp it tn/\tn 0 s2.heap/\(∀b∈fp,lQ X af H' b)/\R J H'
def PI(X:Cx)(tg iter:Expr)(wi:TI):Prop:=
 ∀(af:_t)(s:_B)(σ:St)(H:Hp)(R:It->Hp->Prop),aH X af σ H s->wi σ H R ->
  wpAny (model X.prog X.w) X.A (eval iter X.env) (fun v s1=>wpAny (model X.prog X.w) X.A (pyIter v) (Se X af σ tg R) X.xe s1) X.xe s
theorem ya{M:Model}{A:_D}{E:_r}{s:_B}{tg:Expr}{it:_C}{u:_A}{o:Obj}{n:String}{vs:Array _A}{Q:Unit->_B->Prop}(ho:s.heap.get? it=some o)(hc:o.cls=.type n)(hd:o.data=.fields vs)(hn:["enumerate","zip","dict_itemiterator","dict_reverseitemiterator","odict_iterator","itertools.zip_longest","itertools.pairwise"].contains n=false)(hQ:Q () s):wpAny M A (letOwnedTupleGo tg (.ref it) u) Q E s:=by
  unfold letOwnedTupleGo;cases tg<;>first
    |exact Vv hQ
    |(cases u<;>first
        |exact Vv hQ
        | (refine Vk (wpAny_load ho ?_)
           rw[hc,hd];show wpAny M A (if(["enumerate","zip","dict_itemiterator","dict_reverseitemiterator","odict_iterator","itertools.zip_longest","itertools.pairwise"].contains n&&vs[0]?==some (rawInt _))=true then _ else _) Q E s;rw[Vu (by intro h;rw[hn,XG]at h;cases h)];exact Vv hQ))
def PV(K:_u)(a:_C):It:=
 ⟨fun i H=>∃xs x,j9 K H a xs/\xs[i]?=some x,fun i H x H'=>H'=H/\∀xs,j9 K H a xs->xs[i]?=some x,fun i H=>∃xs,j9 K H a xs/\xs.length<=i⟩
def PX(K:_u)(a:_C):It:=
 ⟨fun i H=>∃xs x,iW K H a xs/\xs[i]?=some x,fun i H x H'=>H'=H/\∀xs,iW K H a xs->xs[i]?=some x,fun i H=>∃xs,iW K H a xs/\xs.length<=i⟩
def Mi(lo:Int)(n:Nat):It:=⟨fun i _=>i<n,fun i H x H'=>H'=H/\x=.int (lo+i),fun i _=>n<=i⟩
theorem zK{P:_E}{w:World}{K:_u}{tg:Expr}(a it:_C):Turn P w K tg (PV K a) [it] it (fun i h=>h.IsListIter it a i) where
 mem:=by simp
 obj:=fun i h st b hb=>by
  have e:b=it:=by simpa using hb
  subst e;obtain⟨o,e,c,d⟩:=st;exact⟨o,e,fun v z=>by rw[d]at z;cases z⟩
 keep:=fun i h h' st k=>st.at fun o e=>k it (by simp) o e
 item:=by intro X hP hw hK hc i af s σ H E I hf st hg;subst hP hw hK;obtain⟨xs,x,hq,hx⟩:=hg;obtain⟨aD,rv,p,hz⟩:=I.list hq;obtain⟨u,hu,ru⟩:=rv.get hx;obtain⟨f0,f1,f2,f3,f4,f5⟩:=hf it (by simp);refine wpAny_pyNext_list_item st p.isList (x:=u) (by simpa using hu) fun h' ax sb=>?_;have I1:aH X af σ H {s with heap:=h'}:=I.turned (t':=s.toks) (fun b o hb e=>(sb.2 b hb).trans e) f0 f1 f3 f4 f5;obtain⟨o,e,c,d⟩:=id ax;exact⟨u,rfl,ya (s:={s with heap:=h'}) e c d (by decide) ⟨x,H,I1,ru,⟨rfl,fun ys hy=>by rw[I.oF hy hq];exact hx⟩,ax,fun b hb=>(hf b hb).1⟩⟩
 done:=by intro X hP hw hK hc i af s σ H E I hf st hg;subst hP hw hK;obtain⟨xs,hq,hx⟩:=hg;obtain⟨aD,rv,p,hz⟩:=I.list hq;obtain⟨f0,f1,f2,f3,f4,f5⟩:=hf it (by simp);have hl:=rv.length;exact wpAny_pyNext_list_end (I.ok.hd hc) st p.isList (by simp;lia) fun h' eb=>⟨rfl,I.turned (t':=s.toks) (fun b o hb e=>eb b o hb e) f0 f1 f3 f4 f5⟩
 self:=fun _ _ _ _ _ st h=>wpAny_pyIter_listiter st h
theorem wA{P:_E}{w:World}{K:_u}{tg:Expr}(a it:_C):Turn P w K tg (PX K a) [it] it (fun i h=>h.IsTupleIter it a i) where
 mem:=by simp
 obj:=fun i h st b hb=>by
  have e:b=it:=by simpa using hb
  subst e;obtain⟨o,e,c,d⟩:=st;exact⟨o,e,fun v z=>by rw[d]at z;cases z⟩
 keep:=fun i h h' st k=>st.at fun o e=>k it (by simp) o e
 item:=by intro X hP hw hK hc i af s σ H E I hf st hg;subst hP hw hK;obtain⟨xs,x,hq,hx⟩:=hg;obtain⟨aD,rv,p,hz⟩:=I.tuple hq;obtain⟨u,hu,ru⟩:=rv.get hx;obtain⟨f0,f1,f2,f3,f4,f5⟩:=hf it (by simp);refine wpAny_pyNext_tuple_item st (show s.heap.IsTuple a aD.toArray from p) (x:=u) (by simpa using hu) fun h' ax sb=>?_;have I1:aH X af σ H {s with heap:=h'}:=I.turned (t':=s.toks) (fun b o hb e=>(sb.2 b hb).trans e) f0 f1 f3 f4 f5;obtain⟨o,e,c,d⟩:=id ax;exact⟨u,rfl,ya (s:={s with heap:=h'}) e c d (by decide) ⟨x,H,I1,ru,⟨rfl,fun ys hy=>by rw[I.jA hy hq];exact hx⟩,ax,fun b hb=>(hf b hb).1⟩⟩
 done:=by intro X hP hw hK hc i af s σ H E I hf st hg;subst hP hw hK;obtain⟨xs,hq,hx⟩:=hg;obtain⟨aD,rv,p,hz⟩:=I.tuple hq;obtain⟨f0,f1,f2,f3,f4,f5⟩:=hf it (by simp);have hl:=rv.length;exact wpAny_pyNext_tuple_end (I.ok.hd hc) st (show s.heap.IsTuple a aD.toArray from p) (by simp;lia) fun h' eb=>⟨rfl,I.turned (t':=s.toks) (fun b o hb e=>eb b o hb e) f0 f1 f3 f4 f5⟩
 self:=fun _ _ _ _ _ st h=>wpAny_pyIter_tupleiter st h
theorem wB{P:_E}{w:World}{K:_u}{tg:Expr}(it:_C)(lo:Int)(n:Nat):Turn P w K tg (Mi lo n) [it] it (fun i h=>IsRangeIter h it (lo+(i:Nat)*1) ((n:Int)-(i:Nat)) 1) where
 mem:=by simp
 obj:=fun i h st b hb=>by
  have e:b=it:=by simpa using hb
  subst e;exact⟨_,st,fun v z=>by
   have z':Data.fields _=Data.cell v:=z;cases z'⟩
 keep:=fun i h h' st k=>k it (by simp) _ st
 item:=by intro X hP hw hK hc i af s σ H E I hf st hg;subst hP hw hK;obtain⟨f0,f1,f2,f3,f4,f5⟩:=hf it (by simp);have W:=Walks.range (prog:=X.prog) (w:=X.w) (I.ok.hd hc) it lo 1 n;refine W.item i s _ _ hg st fun v h' tk hv ax kk=>?_;obtain⟨t,rfl⟩:=hv;have I1:aH X af σ H {s with heap:=h',toks:=tk}:=I.turned (fun b o hb e=>kk b o (by simpa using hb) e) f0 f1 f3 f4 f5;refine⟨_,rfl,ya (s:={s with heap:=h',toks:=tk}) (n:="range_iterator") ax rfl rfl (by decide) ⟨.int (lo+i),H,I1,⟨t,?_⟩,⟨rfl,rfl⟩,ax,fun b hb=>(hf b hb).1⟩⟩;rw[Int.mul_one]
 done:=by intro X hP hw hK hc i af s σ H E I hf st hg;subst hP hw hK;obtain⟨f0,f1,f2,f3,f4,f5⟩:=hf it (by simp);exact wpAny_pyNext_range_end (I.ok.hd hc) st (by have:n<=i:=hg;lia) fun h' eb=>⟨rfl,I.turned (t':=s.toks) (fun b o hb e=>eb b o hb e) f0 f1 f3 f4 f5⟩
 self:=fun _ _ _ _ _ st h=>wpAny_pyIter_rangeiter st h
section
variable{X:Cx}{tg:Expr}
theorem uv{af:_t}{σ:St}{H:Hp}{s:_B}{R:It->Hp->Prop}{E:_r}{lo hi:Int}{t u v:Tok}{tk:Nat}(I:aH X af σ H s)(h1:-(2 ^ 62)<=lo)(h2:lo<2 ^ 62)(h3:-(2 ^ 62)<=hi)(h4:hi<2 ^ 62)(q:R (Mi lo (hi-lo).toNat) H):wpAny (model X.prog X.w) X.A (pyIter (.ref s.heap.objs.size)) (Se X af σ tg R) E {s with heap:=s.heap.push {cls:=.type "range",data:=.fields #[.int lo t,.int hi u,.int 1 v]},toks:=tk}:=by
 refine wpAny_pyIter_range (IsRange.new ..) (small_one h1 h2 h3 h4) ?_;have I1:aH X af σ H {s with heap:=s.heap.push {cls:=.type "range",data:=.fields #[.int lo t,.int hi u,.int 1 v]},toks:=tk}:=I.kept fun b o e=>Vm _ e;refine⟨(s.heap.push {cls:=.type "range",data:=.fields #[.int lo t,.int hi u,.int 1 v]}).objs.size,[(s.heap.push {cls:=.type "range",data:=.fields #[.int lo t,.int hi u,.int 1 v]}).objs.size],_,_,H,rfl,
  I1.kept (t':=tk) fun b o e=>Vm _ e,wB _ lo (hi-lo).toNat,?_,fun b hb=>?_,q⟩
 .have e1:lo+((0:Nat):Int)*1=lo:=by simp
  have e2:(((hi-lo).toNat:Nat):Int)-((0:Nat):Int)=Builtin.Range.rangeSize lo hi 1:=by rw[rangeSize_one];split<;>lia
  show IsRangeIter _ _ (lo+((0:Nat):Int)*1) ((((hi-lo).toNat:Nat):Int)-((0:Nat):Int)) 1;rw[e1,e2];exact VN _ rfl
 .have e:b=(s.heap.push {cls:=.type "range",data:=.fields #[.int lo t,.int hi u,.int 1 v]}).objs.size:=by simpa using hb
  subst e;exact I1.zJ (Vq _) (I1.b_.fresh (Vq _))
def Mj(ta:TA):TI:=fun σ H R=>ta σ H fun vs H1=>∃j:Int,vs=[.int j]/\-(2 ^ 62)<=j/\j<2 ^ 62/\R (Mi 0 j.toNat) H1
def Mk(ta:TA):TI:=fun σ H R=>ta σ H fun vs H1=>∃i j:Int,vs=[.int i,.int j]/\(-(2 ^ 62)<=i/\i<2 ^ 62/\-(2 ^ 62)<=j/\j<2 ^ 62)/\R (Mi i (j-i).toNat) H1
theorem zL{a:Expr}{ta:TA}{p pos:Pos}(hg:Gl X "range")(hm:X.mg "range" = none)(ha:PA X [a] ta)(hs:starEach [a] X.env=[(false,eval a X.env)]:=by rfl):PI X tg (.Call (.Name "range" p) [a] [] pos) (Mj ta):=by
 intro af s σ H R I h;refine Call_ (iX I hg hm boot_range (WQ (cf (ha pos af s σ H _ I h) fun us s1⟨vs,H1,I1,r1,q1⟩=>?_) hs rfl));obtain⟨j,e,q1,q2,q⟩:=q1;subst e;cases r1 with
 |cons r rr=>
  cases rr;obtain⟨t,rfl⟩:=r;exact call_range_1 (uv I1 (by lia) (by lia) q1 q2 (by simpa using q))
theorem zM{a b:Expr}{ta:TA}{p pos:Pos}(hg:Gl X "range")(hm:X.mg "range" = none)(ha:PA X [a,b] ta)(hs:starEach [a,b] X.env=[(false,eval a X.env),(false,eval b X.env)]:=by rfl)(gA:starEach [b] X.env=[(false,eval b X.env)]:=by rfl):
  PI X tg (.Call (.Name "range" p) [a,b] [] pos) (Mk ta):=by
 intro af s σ H R I h;refine Call_ (iX I hg hm boot_range (WQ (cf (ha pos af s σ H _ I h) fun us s1⟨vs,H1,I1,r1,q1⟩=>?_) (by rw[hs,gA]) (by rw[gA];rfl)));obtain⟨i,j,e,⟨q1,q2,q3,q4⟩,q⟩:=q1;subst e;cases r1 with
 |cons r rr=>
  cases rr with
  |cons r' rr=>
   cases rr;obtain⟨t,rfl⟩:=r;obtain⟨t',rfl⟩:=r';exact call_range_2 (uv I1 q1 q2 q3 q4 q)
def PY(wi:TI)(g:TG)(tb:TS):TS:=fun D σ H=>wi σ H fun J H1=>∃W:Nat->Nat->St->Hp->Prop,(∃m,W 0 m σ H1)/\∀i m σ H,W i m σ H ->
 (J.stop i H/\D.nx σ H)\/(J.go i H/\∃N:St->Hp->Prop,(∀σ' H',N σ' H'->∃m',m'<m/\W (i+1) m' σ' H')/\∀x H',J.Mf i H x H'->g x σ H' fun σ2 H2=>tb {D with nx:=N,ct:=N,bk:=D.nx} σ2 H2)
def lR(fp:_y)(h:Heap):_t:=fp.filterMap fun b=>(h.get? b).map fun o=>(b,o)
theorem fB{fp:_y}{h:Heap}{b:_C}{o:Obj}(hb:b∈fp)(e:h.get? b=some o):(b,o)∈lR fp h:=Yr.mpr ⟨b,hb,by rw[e];rfl⟩
theorem zN{fp:_y}{h:Heap}{p:_C×Obj}(hp:p∈lR fp h):p.1∈fp/\h.get? p.1=some p.2:=by
 obtain⟨b,hb,e⟩:=Yr.mp hp;cases q:h.get? b with
 |none=>rw[q]at e;cases e
 |some o=>
  rw[q]at e;have e':(b,o)=p:=V? e;subst e';exact⟨hb,q⟩
theorem aH.pinned{af:_t}{σ:St}{H:Hp}{s:_B}{fp:_y}(I:aH X af σ H s)(hf:∀b∈fp,lQ X af H b)(ho:∀b∈fp,∃o,s.heap.get? b=some o/\∀v,o.data≠.cell v):aH X (af++lR fp s.heap) σ H s:=
 I.jz fun p hp=>(Wt.mp hp).elim (fun z=>I.pin p (VX _ z)) fun z=>by obtain⟨hb,e⟩:=zN z;obtain⟨f0,f1,f2,_⟩:=hf p.1 hb;obtain⟨o,e',d⟩:=ho p.1 hb;rw[e]at e';cases e';exact⟨e,f0,f1,f2,d⟩
theorem aH.oH{af pl:_t}{σ:St}{H:Hp}{s:_B}(I:aH X (af++pl) σ H s):aH X af σ H s:=I.jz fun p hp=>I.pin p (VX _ (W_ _ hp))
theorem IQ{iter:Expr}{body:List Stmt}{wi:TI}{g:TG}{tb:TS}{pos:Pos}(hp:PassesOwn (model X.prog X.w) X.A X.env X.xe)(hc:X.calm=true)(hi:PI X tg iter wi)(hg:PG X tg g)(hb:jJ X body tb)(hs:∀x,foldedSetIterable iter X.env x=pure x:=by intro _;rfl):PS X (.For tg iter body [] pos) (PY wi g tb):=by
 intro af s σ H D I h;refine wpAny_For (cf (hi af s σ H _ I h) fun v s1 h1=>cf h1 fun Mg s2 h2=>?_) hs;obtain⟨it,fp,tn,J,H2,e,I2,T,st2,f2,W,⟨m0,w0⟩,turn⟩:=h2;subst e
 -- IS stays true of zF IT objects through zF loop
 have oI:∀{H':Hp},(∀b∈fp,H' b=none)->∀b∈fp,lQ X af H' b:=fun hn b hb=>⟨hn b hb,(f2 b hb).2⟩
 refine codeAny_forLoop_any (fun n s'=>∃i σ' H',aH X af σ' H' s'/\tn i s'.heap/\(∀b∈fp,H' b=none)/\W i n σ' H') ?_ m0 ⟨0,σ,H2,I2,st2,fun b hb=>(f2 b hb).1,w0⟩;rintro n s3 ⟨i,σ3,H3,I3,fP,HA,w3⟩;rcases turn i n σ3 H3 w3 with⟨stop,qn⟩|⟨go,N,hN,step⟩
 .refine Xl hp (cf (T.done X rfl rfl rfl hc i af s3 σ3 H3 X.xe I3 (oI HA) fP stop) fun r s4⟨hr,I4⟩=>?_);subst hr;exact XH ⟨σ3,H3,I4,qn⟩
 .refine Xl hp (cf (T.item X rfl rfl rfl hc i af s3 σ3 H3 X.xe I3 (oI HA) fP go) fun r s4⟨u,hr,h4⟩=>?_);subst hr;refine Xl hp (cf h4 fun _ s5⟨x,H5,I5,r5,y5,BF,Ml⟩=>?_);have Mn:=I5.pinned (oI Ml) (T.obj _ _ BF);refine Xl hp (cf (hg _ s5 σ3 H5 x u _ Mn r5 (step x H5 y5)) fun _ s6⟨σ6,H6,I6,q6⟩=>?_);refine Xl hp (cf (hb _ s6 σ6 H6 _ I6 q6) fun f s7 q7=>?_);have again:∀{σ7:St}{H7:Hp},aH X (af++lR fp s5.heap) σ7 H7 s7->N σ7 H7->∃m,m<n/\∃i σ' H',aH X af σ' H' s7/\tn i s7.heap/\(∀b∈fp,H' b=none)/\W i m σ' H':=fun{σ7 H7}I7 n7=>by obtain⟨m',hm,w7⟩:=hN σ7 H7 n7;refine⟨m',hm,i+1,σ7,H7,I7.oH,T.keep _ _ _ BF fun b hb o e=>(I7.pin (b,o) (VX _ (VX _ (fB hb e)))).1,fun b hb=>?_,w7⟩;obtain⟨o,e,d⟩:=T.obj _ _ BF b hb;exact(I7.pin (b,o) (VX _ (VX _ (fB hb e)))).2.1
  cases f with
  |next=>obtain⟨σ7,H7,I7,n7⟩:=q7;exact again I7 n7
  |cont=>obtain⟨σ7,H7,I7,n7⟩:=q7;exact again I7 n7
  |brk=>obtain⟨σ7,H7,I7,q7⟩:=q7;exact⟨σ7,H7,I7.oH,q7⟩
  |ret v=>obtain⟨x7,σ7,H7,I7,r7,q7⟩:=q7;exact⟨x7,σ7,H7,I7.oH,r7,q7⟩
end
abbrev R2:=V->V->Hp->VK->Prop
def dZ(X:Cx)(f:_A->_A->Sem _A)(r:R2):Prop:=
 ∀(af:_t)(s:_B)(σ:St)(H:Hp)(x y:V)(v u:_A)(Q:VK),aH X af σ H s->bD x v->bD y u->r x y H Q ->
  wpAny (model X.prog X.w) X.A (f v u) (EP X af σ Q) X.xe s
def PZ(X:Cx)(f:_A->Sem _A)(r:V->Hp->VK->Prop):Prop:=
 ∀(af:_t)(s:_B)(σ:St)(H:Hp)(x:V)(v:_A)(Q:VK),aH X af σ H s->bD x v->r x H Q ->
  wpAny (model X.prog X.w) X.A (f v) (EP X af σ Q) X.xe s
def b6(X:Cx)(f:_A)(r:List V->Hp->VK->Prop):Prop:=
 ∀(af:_t)(s:_B)(σ:St)(H:Hp)(xs:List V)(us:_w)(Q:VK),aH X af σ H s->bg xs us->r xs H Q ->
  wpAny (model X.prog X.w) X.A (call f us) (EP X af σ Q) X.xe s
def LJ(r:R2)(ta tb:TE):TE:=fun σ H Q=>ta σ H fun x H1=>tb σ H1 fun y H2=>r x y H2 Q
def Tq(r:V->Hp->VK->Prop)(ta:TE):TE:=fun σ H Q=>ta σ H fun x H1=>r x H1 Q
def rI(C:Int->Int->Prop)(g:Int->Int->V):R2:=fun x y H Q=>∃i j,x=.int i/\y=.int j/\C i j/\Q (g i j) H
def IU(g:Int->Int->V):R2:=fun x y H Q=>∃i j,x=.int i/\y=.int j/\Q (g i j) H
def rU(g:Int->V):V->Hp->VK->Prop:=fun x H Q=>∃i,x=.int i/\Q (g i) H
section
variable{X:Cx}{a b c:Expr}{ta tb tc:TE}{pos:Pos}
theorem IV(ha:PE X a ta)(hb:PE X b tb){af:_t}{s:_B}{σ:St}{H:Hp}{R:V->V->Hp->Prop}(I:aH X af σ H s)(h:ta σ H fun x H1=>tb σ H1 fun y H2=>R x y H2){Q:_r}{f:_A->_A->Sem _A}(hf:∀v u s2 x y H2,aH X af σ H2 s2->bD x v->bD y u->R x y H2->wpAny (model X.prog X.w) X.A (f v u) Q X.xe s2):
  wpAny (model X.prog X.w) X.A (eval a X.env) (fun v s₁=>wpAny (model X.prog X.w) X.A (eval b X.env) (fun u s₂=>wpAny (model X.prog X.w) X.A (f v u) Q X.xe s₂) X.xe s₁) X.xe s:=by
 refine cf (ha af s σ H _ I h) fun v s1⟨x,H1,I1,r1,q1⟩=>?_;refine cf (hb af s1 σ H1 _ I1 q1) fun u s2⟨y,H2,I2,r2,q2⟩=>?_;exact hf v u s2 x y H2 I2 r1 r2 q2
theorem Mo{op:Operator}{r:R2}(ho:dZ X (binaryOp op) r)(ha:PE X a ta)(hb:PE X b tb):PE X (.BinOp a op b pos) (LJ r ta tb):=by intro af s σ H Q I h;exact wpAny_BinOp (IV ha hb I h fun v u s2 x y H2 I2 rx ry q=>ho af s2 σ H2 x y v u Q I2 rx ry q)
theorem Mp{op:UnaryOp}{r:V->Hp->VK->Prop}(ho:PZ X (unaryOp op) r)(ha:PE X a ta):PE X (.UnaryOp op a pos) (Tq r ta):=by intro af s σ H Q I h;exact UnaryOp_ (cf (ha af s σ H _ I h) fun v s1⟨x,H1,I1,r1,q1⟩=>ho af s1 σ H1 x v Q I1 r1 q1)
theorem Mq{f:_A->_A->Sem _A}{C:Int->Int->Prop}{g:Int->Int->Int}(rule:∀(i j:Int)(t u:Tok)(s:_B)(Q:_r)(E:_r),C i j->Q (.int (g i j) s.toks) {s with toks:=s.toks+1}->wpAny (model X.prog X.w) X.A (f (.int i t) (.int j u)) Q E s):
  dZ X f (rI C fun i j=>.int (g i j)):=by
 intro af s σ H x y v u Q I rx ry h;obtain⟨i,j,rfl,rfl,hc,q⟩:=h;obtain⟨t,rfl⟩:=rx;obtain⟨t',rfl⟩:=ry;exact rule i j t t' s _ _ hc ⟨.int (g i j),H,I.tok _,⟨_,rfl⟩,q⟩
theorem Mr{f:_A->_A->Sem _A}{g:Int->Int->Int}(rule:∀(i j:Int)(t u:Tok)(s:_B)(Q:_r)(E:_r),Q (.int (g i j) s.toks) {s with toks:=s.toks+1}->wpAny (model X.prog X.w) X.A (f (.int i t) (.int j u)) Q E s):
  dZ X f (IU fun i j=>.int (g i j)):=by
 intro af s σ H x y v u Q I rx ry h;obtain⟨i,j,rfl,rfl,q⟩:=h;obtain⟨t,rfl⟩:=rx;obtain⟨t',rfl⟩:=ry;exact rule i j t t' s _ _ ⟨.int (g i j),H,I.tok _,⟨_,rfl⟩,q⟩
theorem IW{f:_A->_A->Sem _A}{g:Int->Int->Bool}(rule:∀(i j:Int)(t u:Tok)(s:_B)(Q:_r)(E:_r),Q (.bool (g i j)) s->wpAny (model X.prog X.w) X.A (f (.int i t) (.int j u)) Q E s):
  dZ X f (IU fun i j=>.bl (g i j)):=by
 intro af s σ H x y v u Q I rx ry h;obtain⟨i,j,rfl,rfl,q⟩:=h;obtain⟨t,rfl⟩:=rx;obtain⟨t',rfl⟩:=ry;exact rule i j t t' s _ _ ⟨.bl (g i j),H,I,rfl,q⟩
def zO(i j:Int):Prop:=0<=j/\j<=1000000/\i.natAbs<2 ^ 64
def BG(i j:Int):Prop:=(-(2 ^ 64)<i/\i<2 ^ 64)\/(-(2 ^ 64)<j/\j<2 ^ 64)
theorem BG.ok{i j:Int}(h:BG i j):IntMulOk i j:=by
 rcases h with⟨h1,h2⟩|⟨h1,h2⟩
 .exact .of_left (intBits_le_64 h1 h2)
 .exact .of_right (intBits_le_64 h1 h2)
theorem IX:dZ X (binaryOp .Add) (IU fun i j=>.int (i+j)):=Mr fun _ _ _ _ _ _ _ q=>add_int q
theorem IY:dZ X (binaryOp .Sub) (IU fun i j=>.int (i-j)):=Mr fun _ _ _ _ _ _ _ q=>sub_int q
theorem IZ:dZ X (binaryOp .Mult) (rI BG fun i j=>.int (i*j)):=Mq fun _ _ _ _ _ _ _ hc q=>mul_int q hc.ok
theorem E6:dZ X (binaryOp .Mod) (rI (fun _ j=>j≠0) fun i j=>.int (i.fmod j)):=Mq fun _ _ _ _ _ _ _ hc q=>mod_int' hc q
theorem I9:dZ X (binaryOp .Pow) (rI zO fun i j=>.int (i ^ j.toNat)):=Mq fun _ _ _ _ _ _ _ hc q=>pow_int_small hc.1 hc.2.1 hc.2.2 q
theorem Tr{f:_A->Sem _A}{g:Int->Int}(rule:∀(i:Int)(t:Tok)(s:_B)(Q:_r)(E:_r),Q (.int (g i) s.toks) {s with toks:=s.toks+1}->wpAny (model X.prog X.w) X.A (f (.int i t)) Q E s):
  PZ X f (rU fun i=>.int (g i)):=by
 intro af s σ H x v Q I rx h;obtain⟨i,rfl,q⟩:=h;obtain⟨t,rfl⟩:=rx;exact rule i t s _ _ ⟨.int (g i),H,I.tok _,⟨_,rfl⟩,q⟩
theorem I_:PZ X (unaryOp .USub) (rU fun i=>.int (-i)):=Tr fun _ _ _ _ _ q=>neg_int q
end
section
variable{X:Cx}{a b c:Expr}{ta tb tc:TE}{pos:Pos}
theorem I!{af:_t}{σ:St}{H:Hp}{s:_B}{Q:VK}{k k':Bool}(I:aH X af σ H s)(q:Q (.bl k) H)(e:k=k'):EP X af σ Q (.bool k') s:=by subst e;exact⟨.bl k,H,I,rfl,q⟩
theorem Ms:dZ X (compareOp .Lt) (IU fun i j=>.bl (decide (i<j))):=IW fun _ _ _ _ _ _ _ q=>lt_int q
theorem Mt:dZ X (compareOp .LtE) (IU fun i j=>.bl (decide (i<=j))):=IW fun _ _ _ _ _ _ _ q=>le_int q
theorem Mu:dZ X (compareOp .Gt) (IU fun i j=>.bl (decide (j<i))):=IW fun _ _ _ _ _ _ _ q=>gt_int q
theorem zP:dZ X (compareOp .In) (fun x y H Q=>∃i j,x=.str i/\y=.str j/\Q (.bl (!(Builtin.Str.occurrences j i 0 j.length 1).isEmpty)) H):=by intro af s σ H x y v u Q I rx ry h;obtain⟨i,j,rfl,rfl,q⟩:=h;obtain⟨t,rfl⟩:=rx;obtain⟨t',rfl⟩:=ry;exact in_str (I! I q rfl)
theorem dZ.or{f:_A->_A->Sem _A}{r r':R2}(h:dZ X f r)(h':dZ X f r'):dZ X f (fun x y H Q=>r x y H Q\/r' x y H Q):=by
 intro af s σ H x y v u Q I rx ry q;rcases q with q|q
 .exact h af s σ H x y v u Q I rx ry q
 .exact h' af s σ H x y v u Q I rx ry q
theorem BH(b:Expr){op:CmpOp}(h:op≠.In:=by decide)(h2:op≠.NotIn:=by decide):behindInMarks op b=false:=by
 have e1:(op==CmpOp.In)=false:=by cases op<;>first|rfl|exact absurd rfl h
 have e2:(op==CmpOp.NotIn)=false:=by cases op<;>first|rfl|exact absurd rfl h2
 cases b<;>simp[behindInMarks,e1,e2]
theorem E7{op:CmpOp}{r:R2}(ho:dZ X (compareOp op) r)(ha:PE X a ta)(hb:PE X b tb)(hm:behindInMarks op b=false):PE X (.Compare a [op] [b] pos) (LJ r ta tb):=by intro af s σ H Q I h;exact wpAny_Compare1 (IV ha hb I h fun v u s2 x y H2 I2 rx ry q=>ho af s2 σ H2 x y v u Q I2 rx ry q) hm
def Mv(t:TE):TT:=fun σ H Q=>t σ H fun x H'=>∃k,x=.bl k/\Q k H'
theorem E8{op:CmpOp}{r:R2}(ho:dZ X (compareOp op) r)(ha:PE X a ta)(hb:PE X b tb)(hm:behindInMarks op b=false):PT X (.Compare a [op] [b] pos) (Mv (LJ r ta tb)):=by
 intro af s σ H Q I h;refine wpAny_isTrue_Compare1 (cf (ha af s σ H _ I h) fun v s1⟨x,H1,I1,r1,q1⟩=>cf (hb af s1 σ H1 _ I1 q1) fun u s2⟨y,H2,I2,r2,q2⟩=>
  cf (ho af s2 σ H2 x y v u _ I2 r1 r2 q2) fun c s3⟨z,H3,I3,r3,k,e,q3⟩=>?_) hm
 subst e;cases r3;exact W5 ⟨H3,I3,q3⟩
def BI(r r':R2)(ta tb tc:TE):TE:=fun σ H Q=>ta σ H fun x H1=>tb σ H1 fun y H2=>r x y H2 fun z H3=>∃k,z=.bl k /\
 (if k=true then tc σ H3 fun w' H4=>r' y w' H4 Q else Q (.bl false) H3)
theorem BJ{op I?:CmpOp}{r r':R2}(ho:dZ X (compareOp op) r)(mY:dZ X (compareOp I?) r')(ha:PE X a ta)(hb:PE X b tb)(hc:PE X c tc)(hm:lastMarks [op,I?] [b,c]=false:=by with_unfolding_all rfl):PE X (.Compare a [op,I?] [b,c] pos) (BI r r' ta tb tc):=by
 intro af s σ H Q I h;refine Compare_chain (cf (ha af s σ H _ I h) fun v s1⟨x,H1,I1,r1,q1⟩=>chain_link (cf (hb af s1 σ H1 _ I1 q1) fun u s2⟨y,H2,I2,r2,q2⟩=>
  cf (ho af s2 σ H2 x y v u _ I2 r1 r2 q2) fun d s3⟨z,H3,I3,r3,k,e,q3⟩=>?_)) hm
 subst e;cases r3;refine W5 ?_;cases k with
 |false=>exact ite_ff ⟨.bl false,H3,I3,rfl,q3⟩
 |true=>exact ite_tt (chain_last (cf (hc af s3 σ H3 _ I3 q3) fun w' s4⟨z',H4,I4,r4,q4⟩=>mY af s4 σ H4 y z' u w' Q I4 r2 r4 q4))
theorem lS:(sizeLine:Nat)<2 ^ 63:=by rw[VT];decide
theorem wC:dZ X (binaryOp .Add) (fun x y H Q=>∃i j,x=.str i/\y=.str j/\i.length+j.length<=sizeLine/\Q (.str (i++j)) H):=by intro af s σ H x y v u Q I rx ry h;obtain⟨i,j,rfl,rfl,hz,q⟩:=h;obtain⟨t,rfl⟩:=rx;obtain⟨t',rfl⟩:=ry;exact add_str (fun t' tk=>⟨.str (i++j),H,I.tok _,⟨_,rfl⟩,q⟩) hz
theorem vals1{x:V}{us:_w}(r:bg [x] us):∃u,us=[u]/\bD x u:=by
 cases r with
 |cons r1 r2=>cases r2;exact⟨_,rfl,r1⟩
theorem vals2{x y:V}{us:_w}(r:bg [x,y] us):∃u w',us=[u,w']/\bD x u/\bD y w':=by
 cases r with
 |cons r1 r2=>
  cases r2 with
  |cons r3 r4=>cases r4;exact⟨_,_,rfl,r1,r3⟩
theorem BK:b6 X (.builtin "abs") (fun xs H Q=>∃i,xs=[.int i]/\Q (.int (if i<0 then -i else i)) H):=by intro af s σ H xs us Q I r h;obtain⟨i,rfl,q⟩:=h;obtain⟨u,rfl,t,rfl⟩:=vals1 r;exact call_abs_int fun u tk=>⟨.int (if i<0 then -i else i),H,I.tok _,⟨_,rfl⟩,q⟩
theorem rS:b6 X (.type "str") (fun xs H Q=>∃i,xs=[.int i]/\i.natAbs.log2<1920/\Q (.str (toString i)) H):=by intro af s σ H xs us Q I r h;obtain⟨i,rfl,hz,q⟩:=h;obtain⟨u,rfl,t,rfl⟩:=vals1 r;exact PySem.P.str_of_int hz ⟨.str _,H,I.tok _,⟨_,rfl⟩,q⟩
end
structure Ja(h:Heap)(x dx C:_C)(mA:_s):Prop where
 obj:h.get? x=some (W.instObj C dx)
 ns:h.Ns1 dx mA
 ne:dx≠x
theorem zQ{h:Heap}{dx:_C}{mA:_s}(n:h.Ns1 dx mA):∃od,h.get? dx=some od/\∀name,PySem.W.lookIn name od=some (mA name):=by
 obtain⟨o,es,ep,ho,hd,hk,_,hm⟩:=n;refine⟨o,ho,fun name=>?_⟩;have e:=hm name;unfold nsFind findBy at e;rw[<-Array.find?_toList]at e;unfold PySem.W.lookIn;rw[hd];dsimp only;split
 .rename_i y q;rw[q]at e;exact W' some e
 .rename_i q;rw[q]at e;have a:es.toList.any (·.refKey)=false:=by rw[List.any_eq_false];intro y hy;obtain⟨z,t,P0⟩:=hk y (VZ.mp hy);simp[DictEntry.refKey,P0]
  have a':¬ es.toList.any (·.refKey)=true:=by rw[a];exact VC
  rw[Vu a'];exact W' some e
theorem Ja.look{h:Heap}{x dx C:_C}{mA:_s}(I:Ja h x dx C mA):∃od,W.InstAt h x (W.instObj C dx) C (some od)/\∀name,W.lookIn name od=some (mA name):=
 let⟨od,ho,hl⟩:=zQ I.ns
 ⟨od,⟨I.obj,rfl,rfl,ho⟩,hl⟩
section
variable{prog:_E}{w:World}{A:_D}{E:_r}{s:_B}{K:_u}{x dx C f:_C}{mA:_s}{name:Str}{v:_A}
end
theorem lO.some_of{v:V}{o:_x}(r:lO (some v) o):∃u,o=some u/\bD v u:=by
 cases o with
 |none=>exact(show False from r).elim
 |some u=>exact⟨u,rfl,r⟩
section
variable{P:_E}{w:World}{H H':Hp}{h h':Heap}{a C dx:_C}{fs Tj:List (Str×V)}
theorem E9(b_:gZ P w H h)(e:H a=some (.ins C dx fs)):∃mA,Ja h a dx C mA/\(∀f,lO (fs.lookup f) (mA f))/\PySem.Within mA (fs.map (·.1))/\fs.length<=1000/\H dx=some (.own a):=by
 obtain⟨d,z,ne,ob,mA,n,r,q⟩:=(show cA P w H h a (.ins C dx fs)from b_ a _ e)
 exact⟨mA,⟨ob,n,ne⟩,r,q,z,d⟩
end
structure P_(K:_u)(C:_C):Prop where
 pg:W.plainGet K C Str.empty=true
 hd:W.hasDictIn K C=true
 po:W.plainOver K C=true
 sa:W.findIn K (.ref C) "__setattr__" = some (some (.builtin "object.__setattr__"))
theorem P_.get{K:_u}{C:_C}(c:P_ K C)(f:Str):W.plainGet K C f=true:=c.pg
section
variable{X:Cx}{af:_t}{σ:St}{H:Hp}{s:_B}{a C dx:_C}{fs:List (Str×V)}{f:Str}{v:V}{A:_D}{E:_r}
end
section
variable{X:Cx}{o e value:Expr}{f:Str}{pos pos' qm:Pos}{ta tv:TE}
end
section
variable{X:Cx}{af:_t}{σ:St}{H:Hp}{s:_B}{A:_D}{E:_r}{Q:_r}{c:_A}{b:Bool}
inductive nA(K:_u)(H:Hp):V->_A->Prop where
 |fc:nA K H .fc (.type "NoneType")
 |bl (x:Bool):nA K H (.bl x) (.type "bool")
 |int (i:Int):nA K H (.int i) (.type "int")
 |str (x:Str):nA K H (.str x) (.type "str")
 |oj (x:UInt64):nA K H (.oj x) (.type "float")
 |lst {a:_C} {xs:List V} (e:H a=some (.lst xs)):nA K H (.ref a) (.type "list")
 |j6 {a:_C} {o:Obj} {xs:List V} (e:H a=some (.j6 o (.lst xs))):nA K H (.ref a) (.type "list")
 |tup {a:_C} {xs:List V} (e:H a=some (.tup xs)):nA K H (.ref a) (.type "tuple")
 |dK {a:_C} {aI:List (dE×V)} (e:H a=some (.dK aI)):nA K H (.ref a) (.type "dict")
 |dT {a:_C} {aI:List (List dE×V)} (e:H a=some (.dT aI)):nA K H (.ref a) (.type "dict")
 |ins {a C dx:_C} {fs:List (Str×V)} (e:H a=some (.ins C dx fs)) (cl:P_ K C) (ha:W.findIn K (.ref C) "__class__" = some (some (.builtin "object.__class__")))
   (hn:W.specialIn K (.builtin "object.__class__") "__get__" = some (some (.builtin "getset_descriptor.__get__"))) (Sf:W.takesIn K (.builtin "object.__class__")=some true)
   (hm:W.mroIn K C (.type "object")=some true):nA K H (.ref a) (.ref C)
theorem e8{x:V}{u t:_A}(I:aH X af σ H s)(rx:bD x u)(ty:nA X.K H x t)(e:W.kitOne X.K t c=some b)(h:∀tk,Q (.bool b) {s with toks:=tk}):
  wpAny (model X.prog X.w) A (call (.builtin "isinstance") [u,c]) Q E s:=by
 cases ty with
 |fc=>cases(show u=Value.none from rx);exact Ww W.kitx_none I.ql True.intro e (fun z=>nomatch z) h
 |bl y=>cases(show u=Value.bool y from rx);exact Ww W.kitx_bool I.ql True.intro e (fun z=>nomatch z) h
 |int i=>obtain⟨t,q⟩:=(show ∃t,u=Value.int i t from rx);cases q;exact Ww W.kitx_int I.ql True.intro e (fun z=>nomatch z) h
 |str y=>obtain⟨t,q⟩:=(show ∃t,u=Value.str y t from rx);cases q;exact Ww W.kitx_str I.ql True.intro e (fun z=>nomatch z) h
 |oj y=>obtain⟨t,q⟩:=(show ∃t,u=Value.float y t from rx);cases q;exact Ww W.kitx_float I.ql True.intro e (fun z=>nomatch z) h
 | @lst a xs ea=>
  cases(show u=Value.ref a from rx);obtain⟨_,_,n,_,h1⟩:=(show cA X.prog X.w H s.heap a (.lst xs)from I.b_ a _ ea)
  exact Ww Z7 I.ql ⟨_,h1,rfl⟩ e (fun z=>nomatch z) h
 | @j6 a ob xs ea=>
  cases(show u=Value.ref a from rx);obtain⟨_,_,_,n,_,h1⟩:=(show cA X.prog X.w H s.heap a (.j6 ob (.lst xs))from I.b_ a _ ea)
  exact Ww Z7 I.ql ⟨_,h1,rfl⟩ e (fun z=>nomatch z) h
 | @tup a xs ea=>
  cases(show u=Value.ref a from rx);obtain⟨_,_,_,p⟩:=(show cA X.prog X.w H s.heap a (.tup xs)from I.b_ a _ ea)
  obtain⟨o,h1,h2,_⟩:=p;exact Ww ZX I.ql ⟨o,h1,h2⟩ e (fun z=>nomatch z) h
 | @dK a aI ea=>
  cases(show u=Value.ref a from rx);obtain⟨_,_,vs,_,p⟩:=(show cA X.prog X.w H s.heap a (.dK aI)from I.b_ a _ ea)
  obtain⟨o,es,ep,h1,h2,_⟩:=p;exact Ww Z8 I.ql ⟨o,h1,h2.1⟩ e (fun z=>nomatch z) h
 | @dT a aI ea=>
  cases(show u=Value.ref a from rx);obtain⟨_,_,xs,_,o,es,ep,h1,h2,_⟩:=(show cA X.prog X.w H s.heap a (.dT aI)from I.b_ a _ ea)
  exact Ww Z8 I.ql ⟨o,h1,h2.1⟩ e (fun z=>nomatch z) h
 | @ins a C dx fs ea cl ha hn Sf hm=>
  cases(show u=Value.ref a from rx);obtain⟨mA,O,_⟩:=E9 I.b_ ea;obtain⟨od,J,_⟩:=O.look;exact Ww (W.kitx_own (cl.get _) cl.hd ha hn Sf hm) I.ql J e (fun z=>nomatch z) h
end
structure fK(k:Nat)(A:_D):Prop where
 hd:A.handled=none
 dp:A.depth+3*k+5<recursionLimit
 un:A.units+16*k+200<cLine
theorem fK.mono{j k:Nat}{A:_D}(r:fK k A)(h:j<=k):fK j A:=⟨r.hd,by have:=r.dp;lia,by have:=r.un;lia⟩
theorem fK.deeper{k:Nat}{A:_D}(r:fK (k+1) A)(env:Env):fK k (A.deeper env):=
 ⟨r.hd,by have:=r.dp;show A.depth+1+3*k+5<_;lia,by have:=r.un;show A.units+3+16*k+200<_;lia⟩
theorem fK.depth{k:Nat}{A:_D}(r:fK k A):A.depth<recursionLimit:=by have:=r.dp;lia
theorem fK.units{k:Nat}{A:_D}(r:fK k A):A.units+64<cLine:=by have:=r.un;lia
def Mw:TA:=fun _ H Q=>Q [] H
def HB(ta:TE)(tr:TA):TA:=fun σ H Q=>ta σ H fun x H1=>tr σ H1 fun xs H2=>Q (x::xs) H2
section
variable{X:Cx}{e:Expr}{es:List Expr}{te:TE}{t:TA}{pos:Pos}
theorem wG:PA X [] Mw:=fun _ _ _ _ H Q I h=>Calls.spliced_nil ⟨[],H,I,.nil,h⟩
theorem oo(ha:PE X e te)(hr:PA X es t)(hs:starEach (e::es) X.env=(false,eval e X.env)::starEach es X.env:=by rfl):PA X (e::es) (HB te t):=by intro pos af s σ H Q I h;rw[hs];show wpAny _ _ (spliced ((false,eval e X.env)::backTo pos (starEach es X.env))) _ _ s;refine Zd (cf (ha af s σ H _ I h) fun u s1⟨x,H1,I1,r1,q1⟩=>?_);exact cf (hr pos af s1 σ H1 _ I1 q1) fun us s2⟨xs,H2,I2,r2,q2⟩=>⟨x::xs,H2,I2,.cons r1 r2,q2⟩
def P!(t:TA):TE:=fun σ H Q=>t σ H fun xs H1=>xs.length<=sizeLine/\∀p,H1 p=none->Q (.ref p) (upd H1 p (.tup xs))
def P?(t:TA):TE:=fun σ H Q=>t σ H fun xs H1=>xs.length<=sizeLine/\∀p,H1 p=none->Q (.ref p) (upd H1 p (.lst xs))
theorem Jb{x1}(h:PA X es t):PE X (.Tuple es x1 pos) (P! t):=by intro af s σ H Q I hq;refine wpAny_Tuple_spliced (cf (h pos af s σ H _ I hq) fun us s1⟨xs,H1,I1,r,z,q⟩=>⟨by rw[<-r.length];exact z,?_⟩);have hf:H1 s1.heap.objs.size=none:=I1.b_.fresh (Vq _);refine⟨.ref s1.heap.objs.size,upd H1 s1.heap.objs.size (.tup xs),I1.laid (t':=s1.toks) (fun b u e=>Vm _ e) (Vq _) ?_,rfl,q _ hf⟩;exact⟨z,us,r,⟨_,VN _ rfl,rfl,_,rfl⟩⟩
theorem Jc(h:PA X es t):PE X (.List es pos) (P? t):=by intro af s σ H Q I hq;refine wpAny_List_spliced (cf (h pos af s σ H _ I hq) fun us s1⟨xs,H1,I1,r,z,q⟩=>⟨by rw[<-r.length];exact z,?_⟩);have hf:H1 s1.heap.objs.size=none:=I1.b_.fresh (Vq _);refine⟨.ref s1.heap.objs.size,upd H1 s1.heap.objs.size (.lst xs),I1.laid (t':=s1.toks) (fun b u e=>Vm _ e) (Vq _) ?_,rfl,q _ hf⟩;exact⟨z,us,0,r,VN _ rfl⟩
end
abbrev Sp:=List V->Hp->VK->XK->Prop
abbrev yb:=List Env->Hp->_B->XK->_A->_B->Prop
structure E_(P:_E)(w:World)(K:_u)(mg:_s)(base:Heap)(A:_D)(outer:List Env)(s:_B)(H:Hp):Prop where
 frames:A.frames=some outer
 mod:Mod K mg base
 bs:∀b o,base.get? b=some o->s.heap.get? b=some o/\H b=none
 Hv:base.objs.size<=s.heap.objs.size
 j7:s.heap.FunFrames base outer
 Bx:∀b∈d9 outer,H b=none
 b_:gZ P w H s.heap
 bare:AllBare s.gens
def CE(outer:List Env)(P:_E)(w:World)(H:Hp)(s:_B)(Q:VK)(u:_A)(s':_B):Prop:=
 ∃v H',s'.os=s.os/\AllBare s'.gens/\Un (d9 outer) [] H H' s.heap s'.heap/\gZ P w H' s'.heap/\bD v u/\Q v H'
def CR(CX:yb)(outer:List Env)(P:_E)(w:World)(H:Hp)(s:_B)(Q:VK)(E:XK)(r:Result)(s':_B):Prop:=
 match r with
 |.ok (.ret u)=>CE outer P w H s Q u s'
 |.ok _=>False
 |.error e=>CX outer H s E e s'
structure iY(P:_E)(w:World)(K:_u)(mg:_s)(base:Heap)(CX:yb)(k:Nat)(f:_C)(fd:FuncData)(ps:_z)(sp:Sp):Prop where
 len:∀vs H Q E,sp vs H Q E->vs.length=ps.length
 run:∀(A:_D)(outer:List Env)(s:_B)(H:Hp)(args:Args)(us:_w)(vs:List V)(Q:VK)(E:XK),fK k A->E_ P w K mg base A outer s H->BindsTo s fd args (ps.zip us)->bg vs us->sp vs H Q E ->
  codeAny (model P w) A (.call (.ref f) args) (CR CX outer P w H s Q E) s
theorem iY.imp{P:_E}{w:World}{K:_u}{mg:_s}{base:Heap}{CX:yb}{k:Nat}{f:_C}{fd:FuncData}{ps:_z}{sp Sg:Sp}(F:iY P w K mg base CX k f fd ps sp)(h:∀vs H Q E,Sg vs H Q E->sp vs H Q E):iY P w K mg base CX k f fd ps Sg:=
 ⟨fun vs H Q E q=>F.len vs H Q E (h _ _ _ _ q),fun A outer s H args us vs Q E hr he hb hv hs=>F.run A outer s H args us vs Q E hr he hb hv (h _ _ _ _ hs)⟩
section
variable{X:Cx}{af:_t}{σ:St}{H:Hp}{s s':_B}
theorem aH.Mx(I:aH X af σ H s):E_ X.prog X.w X.K X.mg X.base X.A X.stack s H:=
 ⟨I.ok.frames,I.ok.mod,I.bs,VR I.ok.Hv I.sz,I.stack,I.om,I.b_,I.bare⟩
theorem aH.after{Q:VK}{u:_A}(I:aH X af σ H s)(h:CE X.stack X.prog X.w H s Q u s'):EP X af σ Q u s':=by obtain⟨v,H',os,bare,un,b_,r,q⟩:=h;obtain⟨hh,g,d,t,Ts⟩:=s';obtain rfl:Ts=s.os:=os;exact⟨v,H',I.call (h':=hh) (g':=g) (d':=d) (t':=t) (ch:=[]) un b_ bare (fun b z=>absurd z (by simp)),r,q⟩
end
def My(sp:Sp)(qo:List V)(E:XK)(t:TA):TE:=fun σ H Q=>t σ H fun vs H1=>sp (vs++qo) H1 Q E
def Binds(K:_u)(fd:FuncData)(ps:_z)(ds:_w):Prop:=
 ∀(s:_B)(us:_w),K.In s.heap->(us++ds).length=ps.length->BindsTo s fd ⟨us,[]⟩ (ps.zip (us++ds))
theorem Binds.all{K:_u}{fd:FuncData}{ps:_z}(h:∀us:_w,us.length=ps.length->bindArgs fd ⟨us,[]⟩=pure (ps.zip us)):Binds K fd ps []:=fun s us _ hl=>by rw[VS]at hl⊢;exact .of_eq (h us hl)
def Passes(CX:yb)(X:Cx)(E:XK):Prop:=∀(af:_t)(σ:St)(H:Hp)(s:_B)(e:_A)(s':_B),aH X af σ H s->CX X.stack H s E e s'->X.xe e s'
section
variable{X:Cx}{CX:yb}{k:Nat}{f C:_C}{fd:FuncData}{ps:_z}{sp:Sp}{qo:List V}{ds:_w}{E:XK}{x m:Str}{p pos apos:Pos}{e o:Expr}{es:List Expr}{ta:TE}{t:TA}
theorem Jd{af:_t}{σ:St}{H:Hp}{s:_B}{Q:VK}{us:_w}{vs:List V}(F:iY X.prog X.w X.K X.mg X.base CX k f fd ps sp)(hr:fK k X.A)(hb:Binds X.K fd ps ds)(hd:bg qo ds)(hx:Passes CX X E)(I:aH X af σ H s)(r:bg vs us)(h:sp (vs++qo) H Q E):wpAny (model X.prog X.w) X.A (call (.ref f) us) (EP X af σ Q) X.xe s:=by
 have r2:bg (vs++qo) (us++ds):=r.append hd;have hl:(us++ds).length=ps.length:=by rw[<-r2.length];exact F.len _ _ _ _ h
 refine wpAny_call (X? (F.run X.A X.stack s H ⟨us,[]⟩ (us++ds) (vs++qo) Q E hr I.Mx (hb s us I.ql hl) r2 h) fun r s' hq=>?_);cases r with
 |error e=>exact hx af σ H s e s' I hq
 |ok fl=>
  cases fl with
  |ret u=>exact I.after hq
  |next=>exact False.elim hq
  |brk=>exact False.elim hq
  |cont=>exact False.elim hq
theorem E!(F:iY X.prog X.w X.K X.mg X.base CX k f fd ps sp)(hr:fK k X.A)(hg:Gl X x)(hm:X.mg x=some (.ref f))(hk:W.keepIn X.K (.ref f)=true)(hb:Binds X.K fd ps ds)(hd:bg qo ds)(hx:Passes CX X E)(ha:PA X (e::es) t)(oJ:(x==("__debug__":Str))=false:=by decide)(he:starEach (e::es) X.env=(false,eval e X.env)::starEach es X.env:=by rfl)(kD:(backTo pos (starEach es X.env)).any (·.1)=false:=by rfl):
  PE X (.Call (.Name x p) (e::es) [] pos) (My sp qo E t):=by
 intro af s σ H Q I h;refine XI (kH I hg hm ?_ oJ);refine ZY (h₀:=X.base) I.ok.mod.LI hk (cf (ha pos af s σ H _ I h) fun us s1⟨vs,H1,I1,r,q⟩=>⟨I1.ql,?_⟩) he kD;exact Jd F hr hb hd hx I1 r q
end
def PK(X:Cx)(BL:List Keyword)(t:TA):Prop:=
 ∀(pos:Pos)(af:_t)(s:_B)(σ:St)(H:Hp)(Q:List V->Hp->Prop),aH X af σ H s->t σ H Q->wpAny (model X.prog X.w) X.A (evalAll ((backToKw pos (keywordEach BL X.env)).map (·.2))) (AP X af σ Q) X.xe s
section
variable{X:Cx}{CX:yb}{k:Nat}{f C:_C}{fd:FuncData}{ps ks:_z}{sp:Sp}{E:XK}{x m:Str}{p pos apos P':Pos}{e o:Expr}{es:List Expr}{BL:List Keyword}{te ta:TE}{t tk:TA}{nm:Option Str}
theorem Je:PK X [] Mw:=fun _ _ _ _ H Q I h=>wpAny_evalAll_nil ⟨[],H,I,.nil,h⟩
theorem E?(ha:PE X e te)(hr:PK X BL t):PK X (⟨nm,e,P'⟩::BL) (HB te t):=by intro pos af s σ H Q I h;show wpAny _ _ (evalAll ((do let v <- eval e X.env;standAt pos;pure v)::(backToKw pos (keywordEach BL X.env)).map (·.2))) _ _ s;refine wpAny_evalAll_cons (Vk (cf (ha af s σ H _ I h) fun u s1⟨x,H1,I1,r1,q1⟩=>Vk (X2 (Vv ?_))));exact cf (hr pos af s1 σ H1 _ I1 q1) fun us s2⟨xs,H2,I2,r2,q2⟩=>⟨x::xs,H2,I2,.cons r1 r2,q2⟩
variable{g:_w->_w->_w}{gV:List V->List V->List V}
end
structure gB(N P:_z)(sc:Scope):Prop where
 kind:sc.kind=.function
 co:sc.isCoroutine=false
 gen:sc.isGenerator=false
 nd:N.Nodup
 pre:N.take P.length=P
 par:∀x∈P,sc.names.lookup x=some .local\/sc.names.lookup x=some .cell
 Jf:∀y∈sc.names,y.2≠.free
theorem qM{kindOf:Str->Option NameKind}{x:Str}:∀{binds:List (Str×_A)}{m:_s},(∀v,(x,v) ∉ binds)->bindL kindOf binds m x=m x
 |[],_,_=>rfl
 |(n,v)::r,m,h=>by
  unfold bindL;rw[qM fun w hw=>h w (Vr _ hw)];split
  .have:x≠n:=by rintro rfl;exact h v Vt
   simp[this]
  .rfl
theorem qN{kindOf:Str->Option NameKind}{x:Str}:∀{binds:List (Str×_A)}{m:_s},(∀v,(x,v) ∉ binds)->bindC kindOf binds m x=m x
 |[],_,_=>rfl
 |(n,v)::r,m,h=>by
  unfold bindC;rw[qN fun w hw=>h w (Vr _ hw)];split
  .rfl
  .have:x≠n:=by rintro rfl;exact h v Vt
   simp[this]
theorem qO{kindOf:Str->Option NameKind}{x:Str}{v:_A}:∀{P:_z}{vs:_w}{i:Nat}{m:_s},P.Nodup->P[i]?=some x->vs[i]?=some v->kindOf x=some .local ->
  bindL kindOf (P.zip vs) m x=some v
 |[],_,_,_,_,h,_,_=>by simp at h
 |_::_,[],_,_,_,_,h,_=>by simp at h
 |p::P,w::vs,0,m,nd,h1,h2,hk=>by simp at h1 h2;subst h1;subst h2;show bindL kindOf ((p,w)::P.zip vs) m p=_;unfold bindL;rw[qM fun v hv=>(YJ.mp nd).1 (Y7 hv).1,Vo hk];simp
 |p::P,w::vs,i+1,m,nd,h1,h2,hk=>by show bindL kindOf ((p,w)::P.zip vs) m x=_;unfold bindL;exact qO (i:=i) (YJ.mp nd).2 (by simpa using h1) (by simpa using h2) hk
theorem qP{kindOf:Str->Option NameKind}{x:Str}{v:_A}:∀{P:_z}{vs:_w}{i:Nat}{m:_s},P.Nodup->P[i]?=some x->vs[i]?=some v->kindOf x≠some .local ->
  bindC kindOf (P.zip vs) m x=some v
 |[],_,_,_,_,h,_,_=>by simp at h
 |_::_,[],_,_,_,_,h,_=>by simp at h
 |p::P,w::vs,0,m,nd,h1,h2,hk=>by simp at h1 h2;subst h1;subst h2;show bindC kindOf ((p,w)::P.zip vs) m p=_;unfold bindC;rw[qN fun v hv=>(YJ.mp nd).1 (Y7 hv).1,Vu hk];simp
 |p::P,w::vs,i+1,m,nd,h1,h2,hk=>by show bindC kindOf ((p,w)::P.zip vs) m x=_;unfold bindC;exact qP (i:=i) (YJ.mp nd).2 (by simpa using h1) (by simpa using h2) hk
def start(N:_z)(vs:List V):St:=vs.map some++List.replicate (N.length-vs.length) none
def gb(CX:yb)(P:_E)(w:World)(K:_u)(mg:_s)(base:Heap)(N:_z)(qual:Str)(scope:Scope)(f:_C)(cd:_A)(A:_D)(outer:List Env)(s:_B)(H:Hp)(E:XK):Cx where
 prog:=P
 w:=w
 K:=K
 mg:=mg
 base:=base
 A:=A.deeper (envOfC qual scope s.heap.objs.size f cd)
 N:=N
 s₀:=s
 H₀:=H
 env:=envOfC qual scope s.heap.objs.size f cd
 outer:=outer
 stack:=envOfC qual scope s.heap.objs.size f cd::outer
 ex:=[]
 calm:=true
 fn:=fun _=>true
 pn:=[]
 xe:=fun e s'=>wpAny (model P w) (A.deeper (envOfC qual scope s.heap.objs.size f cd)) (leaving (envOfC qual scope s.heap.objs.size f cd) e) (fun _ Mz=>CX outer H s E e Mz) (fun e' Mz=>CX outer H s E e' Mz) s'
theorem uw{sc:Scope}{n:Nat}{x:Str}(h:sc.names.lookup x=some .cell):∃c,(cellsFrom n sc.names []).lookup x=some c:=by have q:=Zx sc.names n [] (.inl h);exact Option.isSome_iff_exists.mp q
theorem zR{CX:yb}{P:_E}{w:World}{K:_u}{mg:_s}{base:Heap}{N ps:_z}{qual:Str}{scope:Scope}{f:_C}{cd:_A}{A:_D}{outer:List Env}{s s1:_B}{H:Hp}{E:XK}{us:_w}{vs:List V}(S:gB N ps scope)(hd:A.handled=none)(e0:E_ P w K mg base A outer s H)(hl:vs.length=ps.length)(r:bg vs us)(x:InCallC s s.heap.objs.size (bindL (envOfC qual scope s.heap.objs.size f cd).kindOf (ps.zip us) fun _=>none) (cellsFrom (s.heap.objs.size+1) scope.names []) (bindC (envOfC qual scope s.heap.objs.size f cd).kindOf (ps.zip us) fun _=>none) s1):
  aH (gb CX P w K mg base N qual scope f cd A outer s H E) [] (start N vs) H s1:=by
 have kD:ps.length<=N.length:=by have:=W' List.length S.pre;rw[Wm]at this;lia
 obtain⟨h1,tk,rfl,hk⟩:=x.done;have MC:∀b:_C,b ∉ (gb CX P w K mg base N qual scope f cd A outer s H E).ex:=fun b z=>absurd (show b∈([]:_y)from z) (by simp);refine⟨⟨e0.mod,S.kind,rfl,rfl,Vq _,fun y z c h1 h2=>?_,fun y hy=>?_,fun y c _ h=>?_,fun _=>hd,Around.frames_deeper e0.frames,.inr ⟨rfl,rfl⟩,fun b z=>absurd z (MC b),e0.bs,e0.Hv,fun b _ _=>MC b,fun b z=>absurd z (MC b),e0.j7,e0.Bx⟩,
  rfl,e0.bare,Un.kept hk,⟨_,x.toInCall.ns,fun i y v h1 h2 h3=>?_⟩,fun y c h=>⟨_,x.cell y c h⟩,e0.b_.fresh (Vq _),fun y c h=>?_,fun p hp=>absurd (show p∈([]:_t)from hp) (by simp),e0.b_.kept hk,?_⟩
 .exact name_of_addr x.apart (WN h1) (WN h2)
 .have hy:scope.names.lookup y=some .cell\/scope.names.lookup y=some .free:=hy;rcases hy with hy|hy
  .exact uw hy
  .exact absurd rfl (S.Jf _ (WN hy))
 .exact X1 (x.above y c (WN h))
 .have hi:i<vs.length:=by
   unfold start at h2;by_cases hi:i<vs.length
   .exact hi
   .rw[VJ (by simpa using hi)]at h2;rw[XQ]at h2;split at h2<;>cases h2
  have ha:vs[i]?=some v:=by
   unfold start at h2;rw[V3 (by simpa using hi),VU]at h2;cases e:vs[i]? with
   |none=>rw[e]at h2;cases h2
   |some a=>rw[e]at h2;cases h2;rfl
  obtain⟨u,hu,rv⟩:=r.get ha;have hp:ps[i]?=some y:=by rw[<-S.pre,List.getElem?_take_of_lt (by lia)];exact h1
  have Sh:ps.Nodup:=by rw[<-S.pre];exact S.nd.sublist (List.take_sublist _ _)
  refine⟨u,rv,?_⟩;rcases S.par y (Xw hp)with k|k
  .exact .inl ⟨k,qO Sh hp hu k⟩
  .obtain⟨c,e⟩:=uw (n:=s.heap.objs.size+1) k;refine .inr ⟨.inl k,c,e,?_⟩;have q:=x.cell y c e;rw[qP Sh hp hu (by show scope.names.lookup y≠_;rw[k];decide)]at q;exact q
 .exact e0.b_.fresh (X1 (x.above y c (WN h)))
 .unfold start;show _=N.length;rw[Vx,Vn,Wd];lia
theorem MD{CX:yb}{P:_E}{w:World}{K:_u}{mg:_s}{base:Heap}{k:Nat}{f:_C}{name qual:Str}{params:Arguments}{body:List Stmt}{scope:Scope}{dV kV doc pm gn ct oc:_A}{an od:Option _C}{EA:Array (_x)}{N ps:_z}{sp:Sp}(lk:K.lookup f=some ⟨oc,od,.func (W.fnOf name qual params body scope dV kV doc pm an gn ct),EA⟩)(BA:W.codeIn K gn qual=true)(S:gB N ps scope)(len:∀vs H Q E,sp vs H Q E->vs.length=ps.length)
  (BM:∀ (A:_D) (outer:List Env) (s:_B) (H:Hp) (vs:List V) (Q:VK) (E:XK),fK k (A.deeper (envOfC qual scope s.heap.objs.size f gn))->sp vs H Q E ->
   ∃t,jJ (gb CX P w K mg base N qual scope f gn A outer s H E) body t/\t {nx:=fun _ H'=>Q .fc H',rt:=Q} (start N vs) H):
  iY P w K mg base CX (k+1) f (W.fnOf name qual params body scope dV kV doc pm an gn ct) ps sp:=by
 refine⟨len,fun A outer s H args us vs Q E hr e0 hb r HC=>?_⟩;have hl:=len _ _ _ _ HC;have KX:K.In s.heap:=e0.mod.LI.keeps fun b o e=>(e0.bs b o e).1;have lim:s.heap.NoLimit:=e0.mod.nolimit.keeps fun b o e=>(e0.bs b o e).1;have MF:∀y∈ps.zip us,scope.names.lookup y.1=some .local\/(scope.names.lookup y.1=some .cell/\((cellsFrom (s.heap.objs.size+1) scope.names []).lookup y.1).isSome=true):=fun⟨n,v⟩hy=>by
  rcases S.par n (Y7 hy).1 with q|q
  .exact .inl q
  .exact .inr ⟨q,Zx _ _ _ (.inl q)⟩
 refine codeAny_call_function hr.depth (KX _ _ lk) rfl S.co S.gen rfl (W.codeRec_of KX BA) (hb _ _ _ _ ?_);refine wpAny_newFunctionEnv_cells S.kind MF fun env he s1 x=>?_;subst he;refine⟨lim.keeps x.toInCall.keep,codeAny_func ?_⟩;obtain⟨t,ht,hq⟩:=BM A outer s H vs Q E (hr.deeper _) HC;have I:aH (gb CX P w K mg base N qual scope f gn A outer s H E) [] (start N vs) H s1:=zR S hr.hd e0 hl r x;refine V8 (ht [] s1 (start N vs) H _ I hq) (fun fl s' hs=>?_) fun e s' hs=>hs;have fin:∀{σ':St}{H':Hp}{v:V}{u:_A},aH (gb CX P w K mg base N qual scope f gn A outer s H E) [] σ' H' s'->bD v u->Q v H'->CE outer P w H s Q u s':=
  fun{σ' H' v u}J rv q=>⟨v,H',J.os,J.bare,J.base,J.b_,rv,q⟩
 cases fl with
 |ret u=>
  obtain⟨v,σ',H',J,rv,q⟩:=hs;exact fin J rv q
 |next=>
  obtain⟨σ',H',J,q⟩:=hs;exact fin (v:=V.fc) (u:=Value.none) J rfl q
 |brk=>
  obtain⟨_,_,_,q⟩:=hs;exact False.elim q
 |cont=>
  obtain⟨_,_,_,q⟩:=hs;exact False.elim q
section
variable{X:Cx}{x:Str}{p pos:Pos}{e:Expr}{es:List Expr}{t:TA}{id T:String}{r:List V->Hp->VK->Prop}
def Si(r:List V->Hp->VK->Prop)(t:TA):TE:=fun σ H Q=>t σ H fun vs H1=>r vs H1 Q
theorem uz(hc:b6 X (.builtin id) r)(hg:Gl X x)(hm:X.mg x=none)(hv:bootBuiltins x=some (.builtin id))(ha:PA X (e::es) t)(hn:x ≠ "__name__":=by decide)(oJ:(x==("__debug__":Str))=false:=by decide)(he:starEach (e::es) X.env=(false,eval e X.env)::starEach es X.env:=by rfl)(kD:(backTo pos (starEach es X.env)).any (·.1)=false:=by rfl):PE X (.Call (.Name x p) (e::es) [] pos) (Si r t):=by intro af s σ H Q I h;refine XI (iX I hg hm hv ?_ hn oJ);exact PyProof.Rows.callWith_builtin1 (cf (ha pos af s σ H _ I h) fun us s1⟨vs,H1,I1,r1,q1⟩=>hc af s1 σ H1 vs us Q I1 r1 q1) he kD
theorem zS(hc:b6 X (.type T) r)(hg:Gl X x)(hm:X.mg x=none)(hv:bootBuiltins x=some (.type T))(ha:PA X (e::es) t)(hn:x ≠ "__name__":=by decide)(oJ:(x==("__debug__":Str))=false:=by decide)(he:starEach (e::es) X.env=(false,eval e X.env)::starEach es X.env:=by rfl)(kD:(backTo pos (starEach es X.env)).any (·.1)=false:=by rfl):PE X (.Call (.Name x p) (e::es) [] pos) (Si r t):=by intro af s σ H Q I h;refine XI (iX I hg hm hv ?_ hn oJ);exact WQ (cf (ha pos af s σ H _ I h) fun us s1⟨vs,H1,I1,r1,q1⟩=>hc af s1 σ H1 vs us Q I1 r1 q1) he kD
end
end L2
namespace HT
open PyProof.Rows
section
open PySem.SeqAt
open PySem.AutoSeq1 (wpAny_loadPart')
open PySem.MeetsSeq PySem.MeetsSeq2 PySem.MeetsSeq3
end
section
variable{prog:_E}{w:World}{A:_D}{E:_r}{s:_B}
theorem Fb{t b:_C}{vs ws:_w}{Q:_r}(ht:IsTup s.heap t vs.toArray)(hb:IsTup s.heap b ws.toArray)(hv:vs≠[])(h1:ws=[]->Q (.ref t) s)(h2:ws≠[]->Q (.ref s.heap.objs.size) {s with heap:=s.heap.push {cls:=.type "tuple",data:=.seq (vs++ws).toArray} })(hsz:vs.length+ws.length<=sizeLine):wpAny (model prog w) A (binaryOp .Add (.ref t) (.ref b)) Q E s:=by
 obtain⟨⟨cls,dd,data,sl⟩,ho,hc,n,hd⟩:=id ht;obtain⟨⟨Qa,OB,data2,Jg⟩,BN,LK,n2,hd2⟩:=id hb;simp only at hc hd LK hd2;subst hc hd LK hd2;have e:vs.toArray++ws.toArray=(vs++ws).toArray:=by simp
 by_cases hw:ws=[]
 .exact _b ⟨_,ho,rfl⟩ ⟨_,BN,rfl⟩ Zo ZU Ye Yc (X' _ _)
   (tuple_addW1 t b vs.toArray ws.toArray n n2 dd OB sl Jg (by simpa using hv) (by simp[hw])) ⟨ho,BN,h1 hw⟩
 .refine _b ⟨_,ho,rfl⟩ ⟨_,BN,rfl⟩ Zo ZU Ye Yc (X' _ _)
   (tuple_addW2 t b vs.toArray ws.toArray n n2 dd OB sl Jg (by simpa using hv) (by simpa using hw) (by rw[VD,VD];exact hsz)) ⟨ho,BN,?_⟩
  rw[e];exact h2 hw
def fw(n d:Nat):Option Int->Nat
 |none=>d
 |some v=>if v<0 then(v+(n:Int)).toNat else min v.toNat n
theorem BO(n d:Nat):fw n d none=d:=rfl
theorem Fc(n d k:Nat):fw n d (some (k:Int))=min k n:=by show(if(k:Int)<0 then((k:Int)+(n:Int)).toNat else min (k:Int).toNat n)=min k n;rw[Vu (by lia),WY]
theorem Jh(n d:Nat)(hd:d<=n)(o:Option Int):fw n d o<=n:=by
 cases o with
 |none=>exact hd
 |some v=>
  show(if v<0 then(v+(n:Int)).toNat else min v.toNat n)<=n;by_cases hv:v<0
  .rw[Vo hv];lia
  .rw[Vu hv];exact Nat.min_le_right _ _
theorem yc(v:Int)(n d:Nat):(if v<0 then max (v+(n:Int)) 0 else min v (n:Int))=((fw n d (some v):Nat):Int):=by
 show(if v<0 then max (v+(n:Int)) 0 else min v (n:Int))=(((if v<0 then(v+(n:Int)).toNat else min v.toNat n):Nat):Int);by_cases hv:v<0
 .simp only[Vo hv];lia
 .simp only[Vu hv];lia
theorem wH(lo hi:Option Int)(n:Nat):Builtin.Slice.sliceAdjust lo hi 1 (n:Int)=(((fw n 0 lo:Nat):Int),((fw n n hi:Nat):Int)):=by
 have h1:¬ ((1:Int)<0):=by lia
 unfold Builtin.Slice.sliceAdjust;simp only[h1,WO];refine Prod.ext ?_ ?_
 .cases lo with
  |none=>rfl
  |some v=>exact yc v n 0
 .cases hi with
  |none=>rfl
  |some v=>exact yc v n n
theorem wI(i j:Nat):Builtin.Slice.slicePlaces (i:Int) (j:Int) 1=j-i:=by
 unfold Builtin.Slice.slicePlaces;have h1:(1:Int)>0:=by lia
 simp only[h1,Xy,Int.ediv_one];split<;>lia
theorem oK{v:_A}{o:Option Int}{Q:Option Int->_B->Prop}(p:IsPart v o)(h:Q o s):wpAny (model prog w) A (Builtin.Slice.slicePartIndex v) Q E s:=by
 cases p with
 |none=>exact slicePart_none h
 |int i t=>exact slicePart_int h
theorem lT{sl:_C}{vl vu:_A}{lo hi:Option Int}{n:Nat}{Q:Int×Int×Nat->_B->Prop}(hs:s.heap.IsSliceOf sl vl vu .none)(pl:IsPart vl lo)(pu:IsPart vu hi)(h:Q (((fw n 0 lo:Nat):Int),1,fw n n hi-fw n 0 lo) s):wpAny (model prog w) A (Builtin.Slice.sliceApplied (.ref sl) (pure (n:Int))) Q E s:=by obtain⟨os,MG,Sj,OC⟩:=id hs;unfold Builtin.Slice.sliceApplied Builtin.Slice.sliceFields;refine Vk (Vk (Wg MG OC (x:=vl) rfl (Vk (Wg MG OC (x:=vu) rfl (Vk (Wg MG OC (x:=.none) rfl (Vv ?_)))))));refine Vk (slicePart_none ?_);show wpAny _ _ (if((1:Int)==0)=true then _ else _) _ _ s;rw[Vu (by decide)];refine Vk (oK pl (Vk (oK pu (Vk (Vv ?_)))));show wpAny _ _ (match Builtin.Slice.sliceAdjust lo hi 1 (n:Int) with|(lo,hi)=>pure (lo,(1:Int),Builtin.Slice.slicePlaces lo hi 1)) _ _ s;rw[wH lo hi n];show wpAny _ _ (pure (((fw n 0 lo:Nat):Int),(1:Int),Builtin.Slice.slicePlaces ((fw n 0 lo:Nat):Int) ((fw n n hi:Nat):Int) 1)) _ _ s;rw[wI];exact Vv h
theorem BP(xs:Array _A)(i k:Nat):((List.range k).filterMap fun(m:Nat)=>xs[((i:Int)+(m:Int)*1).toNat]?).toArray=((xs.toList.drop i).take k).toArray:=by
 have e:(fun(m:Nat)=>xs[((i:Int)+(m:Int)*1).toNat]?)=fun m=>xs[i+m]?:=by
  funext m;have:((i:Int)+(m:Int)*1).toNat=i+m:=by lia
  rw[this]
 rw[e];have:=pick_run xs i k;rw[YH]at this;have e2:((fun x=>xs[x]?) ∘ fun x=>i+x)=fun m=>xs[i+m]?:=rfl;rw[e2]at this;rw[this]
theorem kI{t sl:_C}{items:Array _A}{vl vu:_A}{lo hi:Option Int}{Q:_r}(ht:IsTup s.heap t items)(hs:s.heap.IsSliceOf sl vl vu .none)(pl:IsPart vl lo)(pu:IsPart vu hi)(hw:¬ (fw items.size 0 lo=0/\fw items.size items.size hi=items.size))(h:Q (.ref s.heap.objs.size) {s with heap:=s.heap.push {cls:=.type "tuple",data:=.seq ((items.toList.drop (fw items.size 0 lo)).take (fw items.size items.size hi-fw items.size 0 lo)).toArray} })(hsz:items.size<=sizeLine):wpAny (model prog w) A (getItem (.ref t) (.ref sl)) Q E s:=by
 have yd:sizeOk (.seq ((items.toList.drop (fw items.size 0 lo)).take (fw items.size items.size hi-fw items.size 0 lo)).toArray):=by show((items.toList.drop (fw items.size 0 lo)).take (fw items.size items.size hi-fw items.size 0 lo)).toArray.size<=sizeLine;rw[VD,Wm,XA,VB];lia
 have hj:fw items.size items.size hi<=items.size:=Jh _ _ (Vq _) hi;obtain⟨os,MG,Sj,OC⟩:=id hs;have Tt:s.TypeIs (.ref sl) "slice":=⟨os,MG,Sj⟩
 unfold getItem
 try with_reducible refine WH ?_
 first|refine Vk (Vv ?_)|skip
 refine Vk (wpAny_sequenceKey ht.typeIs (by decide) ?_);refine Vk (Wk (name:=Str.ofString "__getitem__") ht.typeIs XJ
  (WG XJ ht.typeIs entry_tuple_getitem ?_ (args_tuple_getitem _ _)))
 show wpAny _ _ (Builtin.Tuple.tupleItemsOf (.ref t) >>= _) _ _ s;refine Vk (tupleItemsOf_ ht ?_);refine Vk (wpAny_typeOf Tt ?_);rw[Vo (by decide)];refine Vk (lT hs pl pu ?_);have Qb:¬ ((((fw items.size 0 lo:Nat):Int)==0&&(1:Int)==1&&(fw items.size items.size hi-fw items.size 0 lo)==items.size)=true):=by intro q;rw[Wy,Wy]at q;have q1:((fw items.size 0 lo:Nat):Int)=0:=eq_of_beq q.1.1;have q2:fw items.size items.size hi-fw items.size 0 lo=items.size:=eq_of_beq q.2;exact hw ⟨by lia,by lia⟩
 show wpAny _ _ (if(((fw items.size 0 lo:Nat):Int)==0&&(1:Int)==1&&(fw items.size items.size hi-fw items.size 0 lo)==items.size)=true then _ else _) _ _ s;rw[Vu Qb,BP]
 first
  |exact Vk (m:=Builtin.Tuple.tupleExact _) (Wf (Vv ⟨_,rfl,Vv h⟩) yd)
  |exact Vk (m:=Builtin.Tuple.tupleExact _) (Wf (Vk (Vv (Vv ⟨_,rfl,Vv h⟩))) yd)
  |exact Vk (Vk (m:=Builtin.Tuple.tupleExact _) (Wf (Vv (Vv ⟨_,rfl,Vv h⟩)) yd))
  |exact Vk (Vk (m:=Builtin.Tuple.tupleExact _) (Wf (Vv ⟨_,rfl,Vv h⟩) yd))
end
end HT
namespace L2
open PySem.Spec PyProof.Rows
abbrev TO:=St->Hp->(Option Int->Hp->Prop)->Prop
def PO(X:Cx)(e:Option Expr)(t:TO):Prop:=
 ∀(af:_t)(s:_B)(σ:St)(H:Hp)(Q:Option Int->Hp->Prop),aH X af σ H s->t σ H Q ->
  wpAny (model X.prog X.w) X.A (evalPart e X.env) (fun u s'=>∃o H',aH X af σ H' s'/\IsPart u o/\Q o H') X.xe s
def Fd:TO:=fun _ H Q=>Q none H
def MJ(t:TE):TO:=fun σ H Q=>t σ H fun x H1=>∃i,x=.int i/\Q (some i) H1
theorem intsAre_of{ns:_v}:∀{us:_w},bg (ns.map V.int) us->IntsAre us ns:=by
 induction ns with
 |nil=>intro us r;rw[VO]at r;cases r;exact .nil
 |cons n ns ih=>
  intro us r;rw[Vp]at r;cases r with
  |cons r1 r2=>
   obtain⟨t,e⟩:=r1;subst e;exact .cons n t (ih r2)
section
variable{X:Cx}{e:Expr}{te:TE}{lo hi:Option Expr}{tl th:TO}{pos p2:Pos}
theorem Fe:PO X none Fd:=by intro af s σ H Q I h;rw[Y6];exact Vv ⟨none,H,I,.none,h⟩
theorem Ff(h:PE X e te):PO X (some e) (MJ te):=by intro af s σ H Q I hw;rw[Y5];refine cf (h af s σ H _ I hw) fun u s1⟨x,H1,I1,r1,q1⟩=>?_;obtain⟨i,rfl,q⟩:=q1;obtain⟨t,rfl⟩:=r1;exact⟨some i,H1,I1,.int i t,q⟩
def Fg(X:Cx)(r:V->Option Int->Option Int->Hp->VK->Prop):Prop:=
 ∀(af:_t)(s:_B)(σ:St)(H:Hp)(x:V)(v vl vu:_A)(lo hi:Option Int)(sl:_C)(Q:VK),aH X af σ H s->bD x v->s.heap.IsSliceOf sl vl vu .none->IsPart vl lo->IsPart vu hi->r x lo hi H Q ->
  ∃T id,typeLookup (.type T) "__getitem__" = pure (some (.builtin id))/\s.TypeIs v T/\wpAny (model X.prog X.w) X.A (getItem v (.ref sl)) (EP X af σ Q) X.xe s
theorem Fg.or{r r':V->Option Int->Option Int->Hp->VK->Prop}(h:Fg X r)(h':Fg X r'):Fg X (fun x lo hi H Q=>r x lo hi H Q\/r' x lo hi H Q):=by
 intro af s σ H x v vl vu lo hi sl Q I rx hs pl pu q;rcases q with q|q
 .exact h af s σ H x v vl vu lo hi sl Q I rx hs pl pu q
 .exact h' af s σ H x v vl vu lo hi sl Q I rx hs pl pu q
def Tu(r:V->Option Int->Option Int->Hp->VK->Prop)(te:TE)(tl th:TO):TE:=fun σ H Q=>te σ H fun x H1=>tl σ H1 fun l H2=>th σ H2 fun u H3=>r x l u H3 Q
theorem uA{r:V->Option Int->Option Int->Hp->VK->Prop}(hr:Fg X r)(he:PE X e te)(hl:PO X lo tl)(hu:PO X hi th):PE X (.Subscript e (.Slice lo hi none p2) pos) (Tu r te tl th):=by intro af s σ H Q I h;refine ZJ (cf (he af s σ H _ I h) fun v s1⟨x,H1,I1,r1,q1⟩=>?_);refine wpAny_Slice (cf (hl af s1 σ H1 _ I1 q1) fun vl s2⟨l,H2,I2,pl,q2⟩=>cf (hu af s2 σ H2 _ I2 q2) fun vu s3⟨u,H3,I3,pu,q3⟩=>?_);rw[Y6];refine Vv ?_;have I4:aH X af σ H3 {s3 with heap:=s3.heap.push {cls:=.type "slice",data:=.fields #[vl,vu,.none]} }:=I3.kept (t':=s3.toks) fun b ob q=>Vm _ q;obtain⟨T,id,hT,ht,hg⟩:=hr af {s3 with heap:=s3.heap.push {cls:=.type "slice",data:=.fields #[vl,vu,.none]} } σ H3 x v vl vu l u s3.heap.objs.size Q I4 r1 (Zb ..) pl pu q3;show wpAny (model X.prog X.w) X.A (subscriptTail e (.Slice lo hi none p2) v (.ref s3.heap.objs.size)) (EP X af σ Q) X.xe {s3 with heap:=s3.heap.push {cls:=.type "slice",data:=.fields #[vl,vu,.none]} };exact tail_any (ops:=[.ref s3.heap.objs.size,v]) ht hT hg (by with_unfolding_all rfl)
def rT(xs:List V)(lo hi:Option Int):List V:=(xs.drop (HT.fw xs.length 0 lo)).take (HT.fw xs.length xs.length hi-HT.fw xs.length 0 lo)
theorem mZ(xs:List V)(lo hi:Option Int):(rT xs lo hi).length<=xs.length:=by unfold rT;rw[Wm,XA];lia
def Qc(K:_u):V->Option Int->Option Int->Hp->VK->Prop:=fun x lo hi H Q=>∃a xs,x=.ref a/\iW K H a xs /\
 ¬ (HT.fw xs.length 0 lo=0/\HT.fw xs.length xs.length hi=xs.length)/\∀p,H p=none->Q (.ref p) (upd H p (.tup (rT xs lo hi)))
theorem Ji:Fg X (Qc X.K):=by
 intro af s σ H x v vl vu lo hi sl Q I rx hs pl pu h;obtain⟨a,xs,rfl,hx,hw,q⟩:=h;cases rx;obtain⟨aD,r,ht,hz⟩:=I.tuple hx;have hlen:aD.toArray.size=xs.length:=by rw[VD];exact r.length.symm
 refine⟨"tuple",_,XJ.lookup,ht.typeIs,?_⟩;refine HT.kI ht hs pl pu (by rw[hlen];exact hw) ?_ (by rw[hlen];exact hz);rw[hlen];refine⟨.ref s.heap.objs.size,_,I.laid (t':=s.toks) (o:=.tup (rT xs lo hi)) (fun b ob q=>Vm _ q) (Vq _) ?_,rfl,q _ (I.b_.fresh (Vq _))⟩;exact⟨VR (mZ xs lo hi) hz,_,(r.drop (HT.fw xs.length 0 lo)).take (HT.fw xs.length xs.length hi-HT.fw xs.length 0 lo),IsTup.new _ _⟩
def MK(K:_u):R2:=fun x y H Q=>∃a b xs ys,x=.ref a/\y=.ref b/\iW K H a xs/\iW K H b ys/\xs≠[]/\xs.length+ys.length<=sizeLine /\
 (ys=[]->Q (.ref a) H)/\(ys≠[]->∀p,H p=none->Q (.ref p) (upd H p (.tup (xs++ys))))
theorem bg.rV{xs:List V}{us:_w}(r:bg xs us):us=[]↔xs=[]:=by
 cases r with
 |nil=>simp
 |cons _ _=>simp
theorem Fh:dZ X (binaryOp .Add) (MK X.K):=by intro af s σ H x y v u Q I rx ry h;obtain⟨a,b,xs,ys,rfl,rfl,ha,hb,hx,hz,q1,q2⟩:=h;cases rx;cases ry;obtain⟨aD,r1,p1,_⟩:=I.tuple ha;obtain⟨d!,r2,p2,_⟩:=I.tuple hb;refine HT.Fb p1 p2 (fun z=>hx (r1.rV.mp z)) (fun z=>⟨.ref a,H,I,rfl,q1 (r2.rV.mp z)⟩) (fun z=>?_) (by rw[<-r1.length,<-r2.length];exact hz);refine⟨.ref s.heap.objs.size,_,I.laid (t':=s.toks) (o:=.tup (xs++ys)) (fun b ob q=>Vm _ q) (Vq _) ?_,rfl,q2 (fun w=>z (r2.rV.mpr w)) _ (I.b_.fresh (Vq _))⟩;exact⟨by rw[Vx];exact hz,_,r1.append r2,IsTup.new _ _⟩
end
def zT(n:Nat)(i:Int):Option Nat:=if 0<=i then(if i<n then some i.toNat else none)else if -(n:Int)<=i then some (i+n).toNat else none
def m5{α:Type}(xs:List α)(i:Int):Option α:=(zT xs.length i).bind fun j=>xs[j]?
theorem ye{n:Nat}{i:Int}{j:Nat}(h:zT n i=some j):seqIndex? i n=some j/\j<n/\-(n:Int)<=i/\i<n:=by
 unfold zT at h;by_cases h0:0<=i
 .rw[Vo h0]at h;by_cases h1:i<n
  .rw[Vo h1]at h;have e:i.toNat=j:=V? h;exact⟨by rw[seqIndex_of h0 h1,e],by lia,by lia,h1⟩
  .rw[Vu h1]at h;cases h
 .rw[Vu h0]at h;by_cases h1:-(n:Int)<=i
  .rw[Vo h1]at h;have e:(i+n).toNat=j:=V? h;exact⟨by rw[_a (by lia) h1,e],by lia,h1,by lia⟩
  .rw[Vu h1]at h;cases h
theorem rW{α:Type}{xs:List α}{i:Int}{v:α}(h:m5 xs i=some v):∃j,seqIndex? i xs.length=some j/\xs[j]?=some v/\j<xs.length/\-(xs.length:Int)<=i/\i<xs.length:=by
 unfold m5 at h;cases e:zT xs.length i with
 |none=>rw[e]at h;cases h
 |some j=>
  rw[e]at h;obtain⟨h1,h2,h3,h4⟩:=ye e;exact⟨j,h1,h,h2,h3,h4⟩
theorem jB{α:Type}{xs:List α}{j:Nat}{v:α}(h:xs[j]?=some v):m5 xs (j:Int)=some v:=by
 have hj:j<xs.length:=(VW.mp h).1;have e:zT xs.length (j:Int)=some j:=by unfold zT;rw[Vo (by lia),Vo (by lia)];simp
 unfold m5;rw[e];exact h
def rX(b:Expr):Prop:=∀o i,subscripted b false o i=operate [o,i] (getItem o i)
def uh(X:Cx)(r:R2):Prop:=
 ∀(value slice:Expr)(af:_t)(s:_B)(σ:St)(H:Hp)(x y:V)(v u:_A)(Q:VK),aH X af σ H s->bD x v->bD y u->r x y H Q ->
  subscripted slice false v u=operate [v,u] (getItem v u)->wpAny (model X.prog X.w) X.A (subscriptTail value slice v u) (EP X af σ Q) X.xe s
def Tv(X:Cx)(id:String)(r:V->List V->Hp->VK->Prop):Prop:=
 ∀(af:_t)(s:_B)(σ:St)(H:Hp)(x:V)(xs:List V)(v:_A)(us:_w)(Q:VK),aH X af σ H s->bD x v->bg xs us->r x xs H Q ->
  wpAny (model X.prog X.w) X.A (call (.builtin id) (v::us)) (EP X af σ Q) X.xe s
section
variable{X:Cx}{a b:Expr}{ta tb:TE}{pos:Pos}
theorem uh.or{r r':R2}(h:uh X r)(h':uh X r'):uh X (fun x y H Q=>r x y H Q\/r' x y H Q):=by
 intro value slice af s σ H x y v u Q I rx ry q hs;rcases q with q|q
 .exact h value slice af s σ H x y v u Q I rx ry q hs
 .exact h' value slice af s σ H x y v u Q I rx ry q hs
theorem ML{r:R2}(hr:uh X r)(ha:PE X a ta)(hb:PE X b tb)(hs:rX b):PE X (.Subscript a b pos) (LJ r ta tb):=by intro af s σ H Q I h;exact ZJ (IV ha hb I h fun v u s2 x y H2 I2 rx ry q=>hr a b af s2 σ H2 x y v u Q I2 rx ry q (hs _ _))
def Qd(K:_u):R2:=fun x y H Q=>∃p xs i v,x=.ref p/\y=.int i/\j9 K H p xs/\m5 xs i=some v/\Q v H
def Qe(K:_u):R2:=fun x y H Q=>∃p xs i v,x=.ref p/\y=.int i/\iW K H p xs/\m5 xs i=some v/\Q v H
def Qf:R2:=fun x y H Q=>∃z i c,x=.str z/\y=.int i/\z.length<=sizeLine/\m5 z.cps.toList i=some c/\Q (.str ⟨#[c]⟩) H
theorem Fi:uh X (Qd X.K):=by
 intro value slice af s σ H x y v u Q I rx ry h hs;obtain⟨p,xs,i,z,rfl,rfl,hq,he,q⟩:=h;cases rx;obtain⟨t,rfl⟩:=ry;obtain⟨aD,r,pl,hz⟩:=I.list hq;obtain⟨j,h1,h2,h3,h4,h5⟩:=rW he;obtain⟨w,ew,wJ⟩:=r.get h2;have hl:=r.length;have hn:=lS;have fin:EP X af σ Q w s:=⟨z,H,I,wJ,q⟩
 by_cases h0:0<=i
 .have hj:i.toNat=j:=by rw[seqIndex_of h0 h5]at h1;exact V? h1
  exact item_listR pl.isList h0 (by lia) (by rw[hj];simpa using ew) fin hs
 .have hj:(i+(aD.toArray.size:Int)).toNat=j:=by rw[_a (by lia) h4]at h1;rw[VD,<-hl];exact V? h1
  exact subscriptTail_builtinR (x:=w) pl.isList.typeIs Yj.lookup
   (wpAny_getItem_list_neg (Q:=fun r s'=>r=w/\EP X af σ Q r s') pl.isList (by lia) (by rw[VD]<;>lia) (by lia) (by rw[hj];simpa using ew) ⟨rfl,fin⟩) hs
theorem rY:uh X (Qe X.K):=by
 intro value slice af s σ H x y v u Q I rx ry h hs;obtain⟨p,xs,i,z,rfl,rfl,hq,he,q⟩:=h;cases rx;obtain⟨t,rfl⟩:=ry;obtain⟨aD,r,pl,hz⟩:=I.tuple hq;obtain⟨j,h1,h2,h3,h4,h5⟩:=rW he;obtain⟨w,ew,wJ⟩:=r.get h2;have hl:=r.length;have hn:=lS;have fin:EP X af σ Q w s:=⟨z,H,I,wJ,q⟩
 exact subscriptTail_builtinR (x:=w) pl.typeIs slot_tuple_getitem.lookup
  (getItem_tuple (j:=j) (Q:=fun r s'=>r=w/\EP X af σ Q r s') pl (by lia) (by lia) (by rw[VD,<-hl];exact h1) (by simpa using ew) ⟨rfl,fin⟩) hs
theorem Jj:uh X Qf:=by
 intro value slice af s σ H x y v u Q I rx ry h hs;obtain⟨z,i,c,rfl,rfl,hz,he,q⟩:=h;obtain⟨t,rfl⟩:=rx;obtain⟨t',rfl⟩:=ry;obtain⟨j,h1,h2,h3,h4,h5⟩:=rW he;have hl:z.cps.toList.length=z.length:=by simp[Str.length]
 rw[hl]at h1 h4 h5;have hn:=lS;exact tail_any (Y9 s z t) slot_str_getitem.lookup (getItem_str (c:=c) (by
  have e1:decide (i < -(2 ^ 63:Int))=false:=VM (by lia);have e2:decide (i ≥ 2 ^ 63)=false:=VM (by lia);rw[e1,e2,Bool.or_false]) (by rw[h1];simpa using h2) ⟨.str ⟨#[c]⟩,H,I.tok _,⟨_,rfl⟩,q⟩) hs
theorem wK(aD:_w)(n j:Nat)(u:_A):Obj.mapSeq (·.setIfInBounds j u) {cls:=.type "list",data:=.seq aD.toArray n} = {cls:=.type "list",data:=.seq (aD.set j u).toArray n}:=by simp[Obj.mapSeq]
theorem aH.lst{af:_t}{σ:St}{H:Hp}{s:_B}{p:_C}{xs:List V}(I:aH X af σ H s)(h:H p=some (.lst xs)):
  ∃(aD:_w)(n:Nat),bg xs aD/\s.heap.get? p=some {cls:=.type "list",data:=.seq aD.toArray n}/\xs.length<=sizeLine:=by
 obtain⟨z,aD,n,r,e⟩:=I.b_ p _ h;exact⟨aD,n,r,e,z⟩
theorem aH.Jk{af:_t}{σ:St}{H:Hp}{s:_B}{p:_C}{xs ys:List V}{aD its':_w}{n n':Nat}{f:Obj->Obj}(I:aH X af σ H s)(h:H p=some (.lst xs))(ho:s.heap.get? p=some {cls:=.type "list",data:=.seq aD.toArray n})(hf:f {cls:=.type "list",data:=.seq aD.toArray n} = {cls:=.type "list",data:=.seq its'.toArray n'})(r:bg ys its')(hz:ys.length<=sizeLine)(t:Nat):
  aH X af σ (upd H p (.lst ys)) {s with heap:=s.heap.update p f,toks:=t}:=by
 have e:(s.heap.update p f).get? p=some {cls:=.type "list",data:=.seq its'.toArray n'}:=by rw[Xr f ho (by rw[hf]<;>rfl),hf]
 refine I.write (x:=p) (e:=p) (by rw[h];trivial) (.inl rfl) (fun b u hb q=>(Wh _ _ (Xm hb)).trans q) ⟨_,e⟩ ?_;exact⟨hz,its',n',r,e⟩
def HD:V->V->V->Hp->(Hp->Prop)->Prop:=fun o i v H Q=>∃p xs k j,o=.ref p/\i=.int k/\H p=some (.lst xs)/\zT xs.length k=some j/\Q (upd H p (.lst (xs.set j v)))
theorem set_list:Md X HD:=by
 intro af s σ H o i v ov iv u Q I ro ri rv h;obtain⟨p,xs,k,j,rfl,rfl,hp,hj,q⟩:=h;cases ro;obtain⟨t,rfl⟩:=ri;obtain⟨aD,n,r,ho,hz⟩:=I.lst hp;obtain⟨h1,h2,h3,h4⟩:=ye hj;have hl:=r.length;have hn:=lS;have I':aH X af σ (upd H p (.lst (xs.set j v))) {s with heap:=s.heap.update p (Obj.mapSeq (·.setIfInBounds j u))}:=
  I.Jk hp ho (wK aD n j u) (r.set rv j) (by rw[W7];exact hz) s.toks
 by_cases h0:0<=k
 .have hk:k.toNat=j:=by rw[seqIndex_of h0 h4]at h1;exact V? h1
  exact W.ki_setAt ho h0 (by lia) (by rw[VD,<-hl];exact h4) (by rw[hk];exact⟨_,I',q⟩)
 .have hk:(k+(aD.toArray.size:Int)).toNat=j:=by rw[_a (by lia) h3]at h1;rw[VD,<-hl];exact V? h1
  exact W.ki_setBack ho (by lia) (by rw[VD,<-hl];exact h3) (by lia) (by rw[hk];exact⟨_,I',q⟩)
theorem rZ(lo hi:Option Int)(n:Nat):(sliceBounds lo hi none n).1=((HT.fw n 0 lo:Nat):Int)/\(sliceBounds lo hi none n).2.1=((HT.fw n n hi:Nat):Int)/\(sliceBounds lo hi none n).2.2=1:=by
 refine⟨?_,?_,rfl⟩
 .cases lo with
  |none=>simp[sliceBounds,HT.fw]
  |some i=>
   simp only[sliceBounds,HT.fw,Option.getD_none,show(1:Int)>0 by decide,Xy];by_cases h:i<0
   .simp only[h,Xy]<;>lia
   .simp only[h,WO]<;>lia
 .cases hi with
  |none=>simp[sliceBounds,HT.fw]
  |some i=>
   simp only[sliceBounds,HT.fw,Option.getD_none,show(1:Int)>0 by decide,Xy];by_cases h:i<0
   .simp only[h,Xy]<;>lia
   .simp only[h,WO]<;>lia
theorem qp(aD:_w)(lo hi:Option Int):slicePick aD.toArray lo hi none=((aD.drop (HT.fw aD.length 0 lo)).take (HT.fw aD.length aD.length hi-HT.fw aD.length 0 lo)).toArray:=by obtain⟨h1,h2,h3⟩:=rZ lo hi aD.toArray.size;unfold slicePick;rw[h1,h2,h3];simp only[sliceRange_one,pick_run,VD]<;>rfl
def Qg(K:_u):V->Option Int->Option Int->Hp->VK->Prop:=fun x lo hi H Q=>∃a xs,x=.ref a/\j9 K H a xs/\∀p,H p=none->Q (.ref p) (upd H p (.lst (rT xs lo hi)))
theorem Fj:Fg X (Qg X.K):=by intro af s σ H x v vl vu lo hi sl Q I rx hs pl pu h;obtain⟨a,xs,rfl,hx,q⟩:=h;cases rx;obtain⟨aD,r,ht,hz⟩:=I.list hx;have hlen:=r.length;refine⟨"list",_,Yj.lookup,ht.isList.typeIs,?_⟩;refine Yk ht.isList hs pl pu .none (by simp) ?_ (by rw[VD]<;>lia);rw[qp,<-hlen];refine⟨.ref s.heap.objs.size,_,I.laid (t':=s.toks) (o:=.lst (rT xs lo hi)) (fun b ob q=>Vm _ q) (Vq _) ?_,rfl,q _ (I.b_.fresh (Vq _))⟩;exact⟨VR (mZ xs lo hi) hz,_,0,(r.drop (HT.fw xs.length 0 lo)).take (HT.fw xs.length xs.length hi-HT.fw xs.length 0 lo),VN _ rfl⟩
def iZ:V->Bool
 |.fc=>true
 |.bl _=>true
 |.int _=>true
 |.str _=>true
 |_=>false
def EB:V->V->Bool
 |.fc,.fc=>true
 |.bl a,.bl b=>a==b
 |.bl a,.int b=>(if a then 1 else 0)==b
 |.int a,.bl b=>a==(if b then 1 else 0)
 |.int a,.int b=>a==b
 |.str a,.str b=>a==b
 |_,_=>false
theorem Jl{A:_D}{s:_B}{y x:V}{u v:_A}(ry:bD y u)(rx:bD x v)(fy:iZ y=true)(fx:iZ x=true):SeqAt.EqAt A s u v (EB y x):=by
 cases y with
 |fc=>
  cases ry;cases x with
  |fc=>cases rx;exact Zw _
  |bl b=>cases rx;exact SeqAt.EqAt.none_bool b
  |int b=>obtain⟨t,rfl⟩:=rx;exact SeqAt.EqAt.none_int b t
  |str b=>obtain⟨t,rfl⟩:=rx;exact SeqAt.EqAt.none_str b t
  |_=>exact absurd (show false=true from fx) VC
 |bl a=>
  cases ry;cases x with
  |fc=>cases rx;exact SeqAt.EqAt.bool_none a
  |bl b=>cases rx;exact SeqAt.EqAt.bool_bool a b
  |int b=>obtain⟨t,rfl⟩:=rx;exact SeqAt.EqAt.bool_int a b t
  |str b=>obtain⟨t,rfl⟩:=rx;exact SeqAt.EqAt.bool_str a b t
  |_=>exact absurd (show false=true from fx) VC
 |int a=>
  obtain⟨t',rfl⟩:=ry;cases x with
  |fc=>cases rx;exact SeqAt.EqAt.int_none a t'
  |bl b=>cases rx;exact SeqAt.EqAt.int_bool a t' b
  |int b=>obtain⟨t,rfl⟩:=rx;exact SeqAt.EqAt.int_int a t' b t
  |str b=>obtain⟨t,rfl⟩:=rx;exact Y' a t' b t
  |_=>exact absurd (show false=true from fx) VC
 |str a=>
  obtain⟨t',rfl⟩:=ry;cases x with
  |fc=>cases rx;exact SeqAt.EqAt.str_none a t'
  |bl b=>cases rx;exact SeqAt.EqAt.str_bool a t' b
  |int b=>obtain⟨t,rfl⟩:=rx;exact Y? a t' b t
  |str b=>obtain⟨t,rfl⟩:=rx;exact SeqAt.EqAt.str_str a t' b t
  |_=>exact absurd (show false=true from fx) VC
 |_=>exact absurd (show false=true from fy) VC
def wL(x:V)(u:_A):Bool:=match u with
 |.none=>EB .fc x
 |.bool b=>EB (.bl b) x
 |.int i _=>EB (.int i) x
 |.str z _=>EB (.str z) x
 |_=>false
theorem BQ{x y:V}{u:_A}(r:bD y u)(f:iZ y=true):wL x u=EB y x:=by
 cases y with
 |fc=>cases r;rfl
 |bl b=>cases r;rfl
 |int i=>obtain⟨t,rfl⟩:=r;rfl
 |str z=>obtain⟨t,rfl⟩:=r;rfl
 |_=>exact absurd (show false=true from f) VC
theorem kJ{x:V}:∀{xs:List V}{us:_w},bg xs us->xs.all iZ=true->us.any (wL x)=xs.any fun y=>EB y x
 |_,_,.nil,_=>rfl
 |y::xs,u::us,.cons r t,f=>by rw[Ys,Wy]at f;rw[W!,W!,BQ r f.1,kJ t f.2]
theorem i_{A:_D}{s:_B}{x:V}{v:_A}(rx:bD x v)(fx:iZ x=true):∀{xs:List V}{us:_w},bg xs us->xs.all iZ=true->∀u∈us,SeqAt.EqAt A s u v (wL x u)
 |_,_,.nil,_=>fun u hu=>by cases hu
 |y::xs,u::us,.cons r t,f=>fun u' hu=>by
  rw[Ys,Wy]at f;rcases VG.mp hu with rfl|hu
  .rw[BQ r f.1];exact Jl r rx f.1 fx
  .exact i_ rx fx t f.2 u' hu
def OD(x:V)(xs:List V):Bool:=xs.any fun y=>EB y x
def Qh(K:_u)(neg:Bool):R2:=fun x y H Q=>∃p xs,y=.ref p/\(j9 K H p xs\/iW K H p xs)/\iZ x=true/\xs.all iZ=true/\Q (.bl (if neg then !OD x xs else OD x xs)) H
theorem zU:dZ X (compareOp .In) (Qh X.K false):=by
 intro af s σ H x y v u Q I rx ry h;obtain⟨p,xs,rfl,hq,fx,fs,q⟩:=h;cases ry;rcases hq with hq|hq
 .obtain⟨aD,r,pl,hz⟩:=I.list hq;refine SeqAt.in_listAt (wL x) pl.isList (fun w hw=>i_ rx fx r fs w (by simpa using hw)) ⟨.bl _,H,I,rfl,?_⟩;rw[show aD.toArray.any (wL x)=aD.any (wL x) by simp,kJ r fs];exact q
 .obtain⟨aD,r,pl,hz⟩:=I.tuple hq;refine SeqAt.in_tupleAt (wL x) pl (fun w hw=>i_ rx fx r fs w (by simpa using hw)) ⟨.bl _,H,I,rfl,?_⟩;rw[show aD.toArray.any (wL x)=aD.any (wL x) by simp,kJ r fs];exact q
theorem r9:dZ X (compareOp .NotIn) (Qh X.K true):=by
 intro af s σ H x y v u Q I rx ry h;obtain⟨p,xs,rfl,hq,fx,fs,q⟩:=h;cases ry;rcases hq with hq|hq
 .obtain⟨aD,r,pl,hz⟩:=I.list hq;refine SeqAt.notIn_listAt (wL x) pl.isList (fun w hw=>i_ rx fx r fs w (by simpa using hw)) ⟨.bl _,H,I,rfl,?_⟩;rw[show aD.toArray.any (wL x)=aD.any (wL x) by simp,kJ r fs];exact q
 .obtain⟨aD,r,pl,hz⟩:=I.tuple hq;refine SeqAt.notIn_tupleAt (wL x) pl (fun w hw=>i_ rx fx r fs w (by simpa using hw)) ⟨.bl _,H,I,rfl,?_⟩;rw[show aD.toArray.any (wL x)=aD.any (wL x) by simp,kJ r fs];exact q
theorem r_:b6 X (.builtin "len") (fun xs H Q=>∃p ys,xs=[.ref p]/\(j9 X.K H p ys\/iW X.K H p ys)/\Q (.int ys.length) H):=by
 intro af s σ H xs us Q I r h;obtain⟨p,ys,rfl,hq,q⟩:=h;obtain⟨u,rfl,rx⟩:=vals1 r;cases rx;have hn:=lS;rcases hq with hq|hq
 .obtain⟨aD,r',pl,hz⟩:=I.list hq;have hlen:=r'.length;exact Calls.call_len_list pl.isList (by simp only[VD]<;>lia) ⟨.int ys.length,H,I.tok _,⟨s.toks+1,by rw[VD,hlen]⟩,q⟩
 .obtain⟨aD,r',pl,hz⟩:=I.tuple hq;have hlen:=r'.length;exact len_tuple pl (by simp only[VD]<;>lia) ⟨.int ys.length,H,I.tok _,⟨s.toks+1,by rw[VD,hlen]⟩,q⟩
theorem r!:b6 X (.builtin "len") (fun xs H Q=>∃z,xs=[.str z]/\z.length<=sizeLine/\Q (.int z.length) H):=by intro af s σ H xs us Q I r h;obtain⟨z,rfl,hz,q⟩:=h;obtain⟨u,rfl,t,rfl⟩:=vals1 r;have hn:=lS;exact len_str (by lia) ⟨.int z.length,H,I.tok _,⟨_,rfl⟩,q⟩
theorem b6.or{f:_A}{r r':List V->Hp->VK->Prop}(h:b6 X f r)(h':b6 X f r'):b6 X f (fun xs H Q=>r xs H Q\/r' xs H Q):=by
 intro af s σ H xs us Q I rs q;rcases q with q|q
 .exact h af s σ H xs us Q I rs q
 .exact h' af s σ H xs us Q I rs q
theorem r?:b6 X (.type "list") (fun xs H Q=>∃p ys,xs=[.ref p]/\(j9 X.K H p ys\/iW X.K H p ys)/\∀l,H l=none->Q (.ref l) (upd H l (.lst ys))):=by
 intro af s σ H xs us Q I r h;obtain⟨p,ys,rfl,hq,q⟩:=h;obtain⟨u,rfl,rx⟩:=vals1 r;cases rx;have fin:∀(aD:_w),bg ys aD->ys.length<=sizeLine->∀(h':Heap)(c':Nat),(∀b o',s.heap.get? b=some o'->h'.get? b=some o') ->
   h'.get? s.heap.objs.size=some {cls:=.type "list",dict:=none,data:=.seq aD.toArray c',slots:=#[]}->EP X af σ Q (.ref s.heap.objs.size) {s with heap:=h'}:=fun aD r' hz h' c' kp e=>
  ⟨.ref s.heap.objs.size,_,I.laid (t':=s.toks) kp (Vq _) (show cA X.prog X.w _ h' _ (.lst ys) from⟨hz,aD,c',r',e⟩),rfl,q _ (I.b_.fresh (Vq _))⟩
 rcases hq with hq|hq
 .obtain⟨aD,r',pl,hz⟩:=I.list hq;have hlen:=r'.length;obtain⟨o,ho,hc,n,hd⟩:=pl.isList;exact call_list_seq p (.inl rfl) ho hc hd (fun h' c' kp e=>fin aD r' hz h' c' kp e) (by simp only[VD]<;>lia)
 .obtain⟨aD,r',pl,hz⟩:=I.tuple hq;have hlen:=r'.length;obtain⟨o,ho,hc,n,hd⟩:=pl;exact call_list_seq p (.inr rfl) ho hc hd (fun h' c' kp e=>fin aD r' hz h' c' kp e) (by simp only[VD]<;>lia)
theorem qq:b6 X (.type "tuple") (fun xs H Q=>∃p ys,xs=[.ref p]/\((j9 X.K H p ys/\∀l,H l=none->Q (.ref l) (upd H l (.tup ys)))\/(iW X.K H p ys/\Q (.ref p) H))):=by
 intro af s σ H xs us Q I r h;obtain⟨p,ys,rfl,h⟩:=h;obtain⟨u,rfl,rx⟩:=vals1 r;cases rx;rcases h with⟨hq,q⟩|⟨hq,q⟩
 .obtain⟨aD,r',pl,hz⟩:=I.list hq;have hlen:=r'.length;refine call_tuple_list pl.isList (fun h' kp=>?_) (by simp only[VD]<;>lia);have I1:aH X af σ H {s with heap:=h'}:=I.kept (t':=s.toks) kp;have I2:aH X af σ (upd H h'.objs.size (.tup ys)) {s with heap:=h'.push {cls:=.type "tuple",data:=.seq aD.toArray} }:=
   I1.laid (t':=s.toks) (fun b o e=>Vm _ e) (Vq _) (show cA X.prog X.w _ _ _ (.tup ys) from⟨hz,aD,r',IsTup.new _ _⟩)
  exact⟨.ref h'.objs.size,_,I2,rfl,q _ (I1.b_.fresh (Vq _))⟩
 .obtain⟨aD,r',pl,hz⟩:=I.tuple hq;exact call_tuple_same pl ⟨.ref p,H,I,rfl,q⟩
def Qi(K:_u)(T:String)(x:V)(H:Hp):Prop:=match x with
 |.str _=>T = "str"
 |.int _=>T = "int"
 |.ref p=>(T = "list" /\ ∃xs,j9 K H p xs)\/(T = "tuple" /\ ∃o,K.lookup p=some o/\o.cls=.type "tuple" /\ o.dict=none) \/
   (T = "dict" /\ ((∃aI,H p=some (.dK aI))\/∃aI,H p=some (.dT aI)))\/(T = "set" /\ ∃S n,H p=some (.set S n))
 |_=>False
theorem Jm{af:_t}{σ:St}{H:Hp}{s:_B}{T:String}{x:V}{v:_A}(I:aH X af σ H s)(r:bD x v)(ty:Qi X.K T x H):
  s.TypeIs v T/\∀a,v=.ref a->∃ob,s.heap.get? a=some ob/\ob.dict=none:=by
 cases x with
 |str z=>
  obtain⟨t,rfl⟩:=r;cases(show T = "str" from ty);exact⟨Y9 s z t,fun _ e=>nomatch e⟩
 |int i=>
  obtain⟨t,rfl⟩:=r;cases(show T = "int" from ty);exact⟨typeIs_int s i t,fun _ e=>nomatch e⟩
 |ref p=>
  cases r;rcases ty with⟨rfl,xs,hq⟩|⟨rfl,o,hk,hc,hd⟩|⟨rfl,hk⟩|⟨rfl,S,n,hk⟩
  .obtain⟨aD,_,pl,_⟩:=I.list hq;refine⟨pl.isList.typeIs,fun a e=>?_⟩;cases e;obtain⟨o,n,e,c,hd,_⟩:=pl;exact⟨o,e,hd⟩
  .refine⟨⟨o,I.ql p o hk,hc⟩,fun a e=>?_⟩;cases e;exact⟨o,I.ql _ o hk,hd⟩
  .have z:∃o,s.heap.get? p=some o/\o.ExactDict:=by
    rcases hk with⟨aI,hk⟩|⟨aI,hk⟩
    .obtain⟨_,_,_,_,o,_,_,e,ex,_⟩:=I.b_ p _ hk;exact⟨o,e,ex⟩
    .obtain⟨_,_,_,_,o,_,_,e,ex,_⟩:=I.b_ p _ hk;exact⟨o,e,ex⟩
   obtain⟨o,e,ex⟩:=z;refine⟨⟨o,e,ex.1⟩,fun a e2=>?_⟩;cases e2;exact⟨o,e,ex.2.1⟩
  .obtain⟨o,_,_,_,e,ex,_⟩:=I.b_ p _ hk;refine⟨⟨o,e,ex.1⟩,fun a e2=>?_⟩;cases e2;exact⟨o,e,ex.2.1⟩
 |_=>exact False.elim ty
def Tw(K:_u)(T:String)(r:V->List V->Hp->VK->Prop)(to:TE)(t:TA):TE:=fun σ H Q=>to σ H fun x H1=>Qi K T x H1/\t σ H1 fun xs H2=>r x xs H2 Q
variable{o e:Expr}{es:List Expr}{to:TE}{t:TA}{name:Str}{apos bT:Pos}{T id:String}{r:V->List V->Hp->VK->Prop}
theorem MM(pa:PlainAttrs T)(slot:Slot T name id)(Qj:typeOf (.builtin id)=pure (.type "method_descriptor"))(hm:Tv X id r)(ho:PE X o to)(ha:PA X (e::es) t)(uB:attributeBase o name X.env (eval o X.env)=eval o X.env:=by rfl)
  (BR:((backTo bT (starEach (e::es) X.env)).all (fun x => !x.1)&&(backToKw bT (keywordEach [] X.env)).all (fun x=>x.1.isSome)
   && decide ((e::es).length+([]:List Keyword).length+(if([]:List Keyword).isEmpty then 0 else 1)<30))=true:=by rfl)
  (uC:(apos.endLine==bT.line)=true:=by rfl) (hs:starEach (e::es) X.env=(false,eval e X.env)::starEach es X.env:=by rfl) (oM:(backTo bT (starEach es X.env)).any (·.1)=false:=by rfl):
  PE X (.Call (.Attribute o name apos) (e::es) [] bT) (Tw X.K T r to t):=by
 intro af s σ H Q I h;refine wpAny_Call_method_late uB BR uC rfl (cf (ho af s σ H _ I h) fun v s1⟨x,H1,I1,r1,ty,q1⟩=>?_);obtain⟨h1,h2⟩:=Jm I1 r1 ty;refine⟨T,id,pa,slot,Qj,h1,h2,?_⟩;have hA:=ha bT af s1 σ H1 _ I1 q1;rw[hs]at hA⊢;refine _l (by show(false || (backTo bT (starEach es X.env)).any (·.1))=false;rw[oM]<;>rfl) (YR ?_);exact cf hA fun us s2⟨vs,H2,I2,r2,q2⟩=>hm af s2 σ H2 x vs v us Q I2 r1 r2 q2
end
def Jn(X:Cx)(id:String)(r:V->List V->Hp->VK->Prop):Prop:=
 ∀(af:_t)(s:_B)(σ:St)(H:Hp)(x:V)(xs:List V)(v:_A)(us:_w)(Q:VK),aH X af σ H s->bD x v->bg xs us->r x xs H Q ->
  wpAny (model X.prog X.w) X.A (call (.builtin id) (v::us)) (EP X af σ Q) X.xe s
theorem bg.one{x:V}{us:_w}(p:bg [x] us):∃u,us=[u]/\bD x u:=by
 cases p with
 |cons r t=>cases t;exact⟨_,rfl,r⟩
theorem bg.rep{xs:List V}{us:_w}(h:bg xs us):∀k:Nat,bg (List.replicate k xs).flatten (List.replicate k us).flatten
 |0=>.nil
 |k+1=>by rw[VV,VV,WS,WS];exact bg.append h (bg.rep h k)
theorem foldl_rep(aD:_w):∀(k:Nat)(acc:_w),
  List.foldl (fun x1 x2=>x1++x2) acc.toArray (List.replicate k aD.toArray)=(acc++(List.replicate k aD).flatten).toArray
 |0,acc=>by simp
 |k+1,acc=>by
  have e:acc.toArray++aD.toArray=(acc++aD).toArray:=by simp
  have e2:(acc++aD)++(List.replicate k aD).flatten=acc++(List.replicate (k+1) aD).flatten:=by rw[VV,WS,Vs]
  rw[<-e2,<-foldl_rep aD k (acc++aD),<-e,VV,_i]
section
variable{X:Cx}{af:_t}{σ:St}{H:Hp}{s:_B}{l b:_C}{xs ys zs:List V}
theorem aH.Qk{aD its':_w}{n:Nat}{f:Array _A->Array _A}{t':Nat}(I:aH X af σ H s)(hH:H l=some (.lst xs))(e:s.heap.get? l=some {cls:=.type "list",data:=.seq aD.toArray n})(hf:f aD.toArray=its'.toArray)(hv:bg ys its')(hz:ys.length<=sizeLine):
  aH X af σ (upd H l (.lst ys)) {s with heap:=s.heap.update l (Obj.mapSeq f),toks:=t'}:=by
 have q:=YS e f;rw[hf]at q;refine I.write (x:=l) (e:=l) (by rw[hH];exact trivial) (.inl rfl) (fun b' u hb hu=>(Wh s.heap (Obj.mapSeq f) (Xm hb)).trans hu) ⟨_,q⟩ ?_;exact⟨hz,its',_,hv,q⟩
theorem aH.MP{aD:_w}{t':Nat}(I:aH X af σ H s)(hv:bg ys aD)(hz:ys.length<=sizeLine):
  aH X af σ (upd H s.heap.objs.size (.lst ys)) {s with heap:=s.heap.push {cls:=.type "list",data:=.seq aD.toArray},toks:=t'}:=
 I.laid (fun _ _ q=>Vm _ q) (Vq _) ⟨hz,aD,0,hv,VN _ rfl⟩
theorem aH.fresh(I:aH X af σ H s):H s.heap.objs.size=none:=I.b_.fresh (Vq _)
theorem aH.Fl(I:aH X af σ H s)(hH:H l=some (.lst xs)):xs.length<=sizeLine/\∃(aD:_w)(n:Nat),bg xs aD/\xs.length=aD.length/\s.heap.get? l=some {cls:=.type "list",data:=.seq aD.toArray n}:=by obtain⟨z,aD,n,r,e⟩:=I.b_ l _ hH;exact⟨z,aD,n,r,r.length,e⟩
theorem BS{n:Nat}(h:n<=sizeLine):Builtin.List.listTooLong n=false:=by unfold Builtin.List.listTooLong;exact VM (by lia)
end
section
variable{X:Cx}
def Fm:V->List V->Hp->VK->Prop:=fun x vs H Q=>∃l xs y,x=.ref l/\vs=[y]/\H l=some (.lst xs)/\xs.length<sizeLine/\Q .fc (upd H l (.lst (xs++[y])))
theorem zV:Jn X "list.append" Fm:=by intro af s σ H x vs v us Q I rx rv h;obtain⟨l,xs,y,rfl,rfl,hH,hz,q⟩:=h;cases rx;obtain⟨u,rfl,ru⟩:=rv.one;obtain⟨z,aD,n,r,hl,e⟩:=I.Fl hH;refine Y! Zc ⟨_,e,rfl⟩ Y0 (YQ _ _) (YL l aD.toArray n u (by rw[VD];lia)) ⟨e,?_⟩;refine⟨.fc,_,I.Qk (its':=aD++[u]) hH e (by simp) (r.append (.cons ru .nil)) ?_,rfl,q⟩;rw[Vx,W4];lia
def OE:V->List V->Hp->VK->Prop:=fun x vs H Q=>∃l b xs zs,x=.ref l/\vs=[.ref b]/\H l=some (.lst xs)/\H b=some (.lst zs)/\xs.length+zs.length<=sizeLine/\Q .fc (upd H l (.lst (xs++zs)))
def Ql:R2:=fun x y H Q=>∃l b xs zs,x=.ref l/\y=.ref b/\H l=some (.lst xs)/\H b=some (.lst zs)/\xs.length+zs.length<=sizeLine/\∀p,H p=none->Q (.ref p) (upd H p (.lst (xs++zs)))
theorem Jo:dZ X (binaryOp .Add) Ql:=by
 intro af s σ H x y v u Q I rx ry h;obtain⟨l,b,xs,zs,rfl,rfl,hH,hB,hz,q⟩:=h;cases rx;cases ry;obtain⟨z,aD,n,r,hl,e⟩:=I.Fl hH;obtain⟨z2,d!,n2,r2,EC,e2⟩:=I.Fl hB;refine PySem.P.add_list e e2 ?_ (by rw[VD,VD];lia);have ea:aD.toArray++d!.toArray=(aD++d!).toArray:=by simp
 rw[ea];exact⟨.ref _,_,I.MP (t':=s.toks) (r.append r2) (by rw[Vx];lia),rfl,q _ I.fresh⟩
def Qm:R2:=fun x y H Q=>∃l k xs,x=.ref l/\y=.int k/\H l=some (.lst xs)/\-(2 ^ 63)<=k/\k<2 ^ 63/\xs.length*k.toNat<=sizeLine /\
 ∀p,H p=none->Q (.ref p) (upd H p (.lst (List.replicate k.toNat xs).flatten))
theorem len_rep{α:Type}(xs:List α)(k:Nat):(List.replicate k xs).flatten.length=k*xs.length:=by
 induction k with
 |zero=>simp
 |succ k ih=>rw[VV,WS,Vx,ih,Nat.succ_mul,Nat.add_comm]
theorem Jp:dZ X (binaryOp .Mult) Qm:=by
 intro af s σ H x y v u Q I rx ry h;obtain⟨l,k,xs,rfl,rfl,hH,h1,h2,hz,q⟩:=h;cases rx;obtain⟨t,rfl⟩:=ry;obtain⟨z,aD,n,r,hl,e⟩:=I.Fl hH;have hlen:aD.toArray.size*k.toNat<=sizeLine:=by rw[VD,<-hl];exact hz
 have Jq:¬ aD.toArray.size*k.toNat>(2 ^ 63-1) / 8:=by
  have:(sizeLine:Nat)<=(2 ^ 63-1) / 8:=by decide
  lia
 have Qn:¬ (!Builtin.List.listFitsIndex k)=true:=by rw[fitsIndex_both h1 h2];exact VC
 have MQ:¬ Builtin.List.listTooLong (aD.toArray.size*k.toNat)=true:=by rw[BS hlen];exact VC
 have Qo:List.foldl (fun x1 x2=>x1++x2) #[] (List.replicate (if aD.toArray.isEmpty=true then 0 else k.toNat) aD.toArray)=(List.replicate k.toNat aD).flatten.toArray:=by
  have f0:∀m:Nat,List.foldl (fun x1 x2=>x1++x2) #[] (List.replicate m aD.toArray)=(List.replicate m aD).flatten.toArray:=fun m=>by have:=foldl_rep aD m [];rw[VA]at this;exact this
  rw[f0];cases aD with
  |nil=>simp
  |cons a r'=>rw[Vu (by simp)]
 refine wpAny_binaryOp_repeat_ref (T:="list") (U:="int") (by decide) ⟨_,e,rfl⟩ (fun s'=>typeIs_int s' k t) noFill_list_mul F.fills_int_mul F.slot_int_rmul repeat_list F.slot_int_index.lookup
  (Y! F.slot_int_rmul (typeIs_int s k t) F.entry_int_rmul (F.args_int_rmul_2 _ _) (int___rmul___int_list k t l aD.toArray n)
   ⟨e,rfl,⟨_,e,rfl⟩,Y! F.slot_list_mul ⟨_,e,rfl⟩ F.entry_list_mul (F.args_list_mul_2 _ _) (AutoListH.list___mul___list_int_3 l aD.toArray n k t Qn Jq MQ) ⟨e,?_⟩⟩)
 rw[Qo];exact⟨.ref _,_,I.MP (t':=s.toks) (r.rep k.toNat) (by rw[len_rep,Nat.mul_comm];exact hz),rfl,q _ I.fresh⟩
end
section
variable{prog:_E}{w:World}{A:_D}{E:_r}{s:_B}
set_option maxRecDepth 100000 in
end
section
variable{X:Cx}
end
end L2
namespace Sk
open PySem.W PySem.Calls PyProof.Rows
theorem nB{P:Params}{h:Heap}:∀(ns:_v)(vs:_w),WellAll P h vs (ns.map WData.int)->IntsAre vs ns:=by
 intro ns
 induction ns with
 |nil=>
  intro vs w;rw[VO]at w;cases w;exact .nil
 |cons n ns ih=>
  intro vs w;rw[Vp]at w;cases w with
  |cons a b=>
   cases a;exact .cons _ _ (ih _ b)
theorem zW{l:OpenLaw}{n:Nat}(hn:l.most=some n){P:Params}{h:Heap}{args:List WData}{vals:_w}(Fn:l.row.toRowW.claim.pre args=true)(Qp:WellAll P h vals args):
  ∃a vs ns,vals=[Value.ref a]/\args=[WData.list (ns.map WData.int)]/\h.get? a=some {cls:=.type "list",data:=.seq vs.toArray}/\IntsAre vs ns/\ns.length<=n:=by
 have Tx:WShape.hasAll [] args [.list .int]=true:=(pre_splitW Fn).1;have hc:l.pre.holds [] {args:=args} = true:=(pre_splitW Fn).2;obtain⟨d,r,rfl,h1,h2⟩:=hasAllW_cons Tx;obtain rfl:=hasAllW_nil h2;obtain⟨xs,rfl,h3⟩:=hasW_list h1;obtain⟨ns,rfl⟩:=items_int h3;have hlen:ns.length<=n:=by
  unfold OpenLaw.pre at hc;have h4:(WTm.not (.lt (.lit (.int (n:Int))) (.len (.arg 0)))).holds [] {args:=[.list (ns.map .int)]} = true:=by have h4:=(holds_andW hc).1;rw[hn]at h4;exact h4
  have h5:=condW_of h4 (w_not (w_lt w_lit (w_len_list (w_arg rfl))));rw[Vn]at h5;refine YV fun q=>?_;have q':(n:Int)<((ns.length:Nat):Int):=by lia
  first
   |(rw[VF q']at h5;exact absurd h5 (by decide))
   |(simp at h5;lia)
 cases Qp with
 |cons w1 w2=>
  cases w2;cases w1 with
  |list ho Jr=>exact⟨_,_,ns,rfl,rfl,ho,nB ns _ Jr,hlen⟩
theorem zZ(l:OpenLaw)(args:List WData):l.row.toRowW.claim.post args (.bool true) args=true:=
 postW_of (r:=l.row.toRowW) (X:=(true==true))
  (show WShape.has [] (.bool true) .bool=true by first|rfl|decide|simp[WShape.has,WShape.arms,WShape.armsAll])
  (show(WTm.eq .res (.lit (.bool true))).value [] {args:=args,res:=some (.bool true),after:=args} = some (.bool (true==true))from w_eq_bool (w_res rfl) w_lit) rfl
theorem uD{l:OpenLaw}{n:Nat}{q:_E}{loose:_z}{XP:(_s)->Heap->Prop}{YP:World->Heap->Prop}{d:DefRec}(hn:l.most=some n)(MR:d.params.defaults=[])
  (call:∀ (w:World) (s₀ s₁:_B) (mg mb:_s) (fa:_C) (o:Obj) (pm cd doc:_A) (a:_C) (vs:_w) (ns:_v),
   Ground q loose [] XP w s₀ mg mb s₁.heap->YP w s₁.heap ->
   s₁.heap.get? fa=some o->o.data=.func (docDef d.name d.params d.body d.scope pm cd doc)->s₁.heap.CodeRec cd d.name->mg d.name=some (.ref fa) ->
   s₁.heap.get? a=some {cls:=.type "list",data:=.seq vs.toArray}->IntsAre vs ns->ns.length<=n->s₁.gens = #[] ->
   codeAny (model l.prog w) callerA (.call (.ref fa) ⟨[.ref a],[]⟩) (fun r s'=>r=.ok (.ret (.bool true))/\OldK s₁.heap s'.heap/\s'.os=s₁.os/\AllBare s'.gens) s₁):
  WalkO q loose XP YP l.row.toRowW d [] (fun f vs=>PySem.call f vs):=by
 intro w s₀ s₁ mg mb G Y fa o pm cd doc dV kV ho hd BA hD MS hg args vals as Fn Tz Vd Qp LL;obtain rfl:dV=.none:=Dflts.none hD MR;obtain rfl:kV=.none:=Dflts.noKw hD;obtain⟨a,vs,ns,rfl,rfl,Js,hints,hlen⟩:=zW hn Fn Qp;refine enter_call (X? (call w s₀ s₁ mg mb fa o pm cd doc a vs ns G Y ho (fd_plain hd) BA MS Js hints hlen hg) fun r s' hq=>?_);obtain⟨rfl,h2,h3,h4⟩:=hq;exact⟨.inl ⟨.bool true,.bool true,[],rfl,fun _=>rfl,.bool true,zZ l _,fun _=>⟨List.Pairwise.nil,fun _ hm=>(nomatch hm)⟩⟩,h2,h3,h4⟩
section
variable{prog:_E}{w:World}{A:_D}{E:_r}{s:_B}{K:Frag}
end
end Sk
namespace L2
open PySem.Spec PyProof.Rows
theorem qQ:∀{vs:_w}{ns:_v},IntsAre vs ns->bg (ns.map V.int) vs
 |_,_,.nil=>.nil
 |_,_,.cons n t h=>.cons ⟨t,rfl⟩ (qQ h)
def Fo(H:Hp):Prop:=∀b,H b=none\/∃o xs,H b=some (.j6 o (.lst xs))
theorem BU{P:_E}{w:World}{K:_u}{mg mb:_s}{CX:yb}{k:Nat}{fa a:_C}{fd:FuncData}{x:Str}{sp:Sp}{s₁:_B}{vs:_w}{ns:_v}(KX:K.In s₁.heap)(Sl:s₁.heap.Ns mainGlobals mg)(hb:s₁.heap.Ns builtinsNs mb)(TB:∀x:Str,x ≠ "__name__" -> mb x=bootBuiltins x)(Qq:s₁.heap.NoLimit)(hg:s₁.gens = #[])(ha:s₁.heap.get? a=some {cls:=.type "list",data:=.seq vs.toArray})(hi:IntsAre vs ns)(hl:ns.length<=sizeLine)(hr:fK k callerA)(F:∀base:Heap,K.In base->base.Ns mainGlobals mg->iY P w K mg base CX k fa fd [x] sp)(MU:∀(s:_B)(u:_A),BindsTo s fd ⟨[u],[]⟩ [(x,u)])(HC:∀H:Hp,Fo H->j9 K H a (ns.map V.int)->sp [.ref a] H (fun v _=>v=.bl true) fun _ _ _=>False)(Qr:∀H e s',CX [] H s₁ (fun _ _ _=>False) e s'->False):
  codeAny (model P w) callerA (.call (.ref fa) ⟨[.ref a],[]⟩) (fun r s'=>r=.ok (.ret (.bool true))/\OldK s₁.heap s'.heap/\s'.os=s₁.os/\AllBare s'.gens) s₁:=by
 have rv:=qQ hi;have Qs:=hi.length
 -- from an abstract heap in Sm nothing but zF Jt may be tracked
 have core:∀H:Hp,Fo H->j9 K H a (ns.map V.int)->gZ P w H s₁.heap->(∀b,H b≠none->b=a)->(H a≠none->K.lookup a=none) ->
   codeAny (model P w) callerA (.call (.ref fa) ⟨[.ref a],[]⟩) (fun r s'=>r=.ok (.ret (.bool true))/\OldK s₁.heap s'.heap/\s'.os=s₁.os/\AllBare s'.gens) s₁:=by
  intro H hO hS b_ hA hK;have yf:∀{b:_C}{o:Obj},s₁.heap.get? b=some o->H b=none->(rQ s₁.heap H).get? b=some o:=fun e n=>Bu e n;have MC:∀{b:_C}{o:Obj}{es:Array DictEntry}{ep:Nat},s₁.heap.get? b=some o->o.data=.dict es ep->H b=none:=fun{b o es ep}e d=>by
   cases q:H b with
   |none=>rfl
   |some u=>
    have e':b=a:=hA b (by rw[q];simp);subst e';rw[ha]at e;cases e;have d':Data.seq vs.toArray _=Data.dict es ep:=d;cases d'
  have OF:∀{b:_C}{m:_s},s₁.heap.Ns b m->(rQ s₁.heap H).Ns b m:=fun{b m}⟨o,es,ep,e,d,r⟩=>⟨o,es,ep,yf e (MC e d),d,r⟩
  have Sn:K.In (rQ s₁.heap H):=fun b o e=>yf (KX b o e) (by
   cases q:H b with
   |none=>rfl
   |some u=>
    have e':b=a:=hA b (by rw[q];simp);subst e';rw[hK (by rw[q];simp)]at e;cases e)
  have hM:Mod K mg (rQ s₁.heap H):=⟨Sn,OF Sl,⟨mb,OF hb,TB⟩,let⟨mc,h1,h2⟩:=Qq;⟨mc,OF h1,h2⟩⟩
  have e0:E_ P w K mg (rQ s₁.heap H) callerA [] s₁ H:=⟨rfl,hM,fun b o e=>ER e,ZD (zI _ _),trivial,fun b hb=>absurd (show b∈([]:_y)from hb) (by simp),b_,.of_eq hg⟩
  refine X? ((F _ Sn (OF Sl)).run callerA [] s₁ H ⟨[.ref a],[]⟩ [.ref a] [.ref a] _ _ hr e0 (MU s₁ (.ref a)) (.cons rfl .nil) (HC H hO hS)) fun r s' h=>?_;cases r with
  |error e=>exact(Qr H e s' h).elim
  |ok fl=>
   cases fl with
   |next=>exact False.elim h
   |brk=>exact False.elim h
   |cont=>exact False.elim h
   |ret u=>
    obtain⟨v,H',os,bare,un,Qt,r',q⟩:=h;have q':v=.bl true:=q;subst q';obtain rfl:u=Value.bool true:=r';refine⟨rfl,OldK.of_keep fun b o e=>?_,os,bare⟩;cases q:H b with
    |none=>exact un.keep b o e q (by intro z;exact absurd (show b∈([]:_y)from z) (by simp)) (by simp)
    |some u=>
     rcases hO b with z|⟨ob,xs,z⟩
     .rw[q]at z;cases z
     .have z2:=un.gO b ob _ z;obtain⟨e1,_⟩:=b_ b _ z;obtain⟨e2,_⟩:=Qt b _ z2;rw[e]at e1;cases e1;exact e2
 cases hk:K.lookup a with
 |some o=>
  -- zF Jt is one of zF MV own objects
  have e:=KX a o hk;rw[ha]at e;cases e;refine core (fun _=>none) (fun _=>.inl rfl) (.inr ⟨_,vs.toArray,_,hk,rfl,rfl,rfl,by rw[VD,Qs];exact hl,by simpa using rv⟩) (fun b u z=>by have z':(none:Option HO)=some u:=z;cases z') (fun b z=>absurd rfl z) fun z=>absurd rfl z
 |none=>
  refine core (fun b=>if b=a then some (.j6 {cls:=.type "list",data:=.seq vs.toArray} (.lst (ns.map V.int)))else none) (fun b=>?_) (.inl (.inr ⟨{cls:=.type "list",data:=.seq vs.toArray},Vo rfl⟩)) (fun b u z=>?_) (fun b z=>?_) fun _=>hk
  .by_cases hb:b=a
   .exact .inr ⟨_,_,Vo hb⟩
   .exact .inl (Vu hb)
  .by_cases hb:b=a
   .have z':=(Vo hb).symm.trans z;cases z';subst hb;exact⟨ha,by rw[Vn];exact hl,vs,_,rv,ha⟩
   .have z':=(Vu hb).symm.trans z;cases z'
  .by_cases hb:b=a
   .exact hb
   .exact absurd (Vu hb) z
theorem Fp{l:W.OpenLaw}{n k:Nat}{q:_E}{loose:_z}{XP:(_s)->Heap->Prop}{YP:World->Heap->Prop}{d:DefRec}{K:Params->_u}{CX:World->yb}{sp:World->Sp}{x:Str}(hn:l.most=some n)(TC:n<=sizeLine)(MR:d.params.defaults=[])(hr:fK k callerA)(hY:∀(w:World)(h:Heap),YP w h->(K w.params).In h)
  (F:∀ (w:World) (mg:_s) (fa:_C) (h:Heap),(K w.params).In h->h.Ns mainGlobals mg->mg d.name=some (.ref fa) ->
   ∃fd:FuncData,(∀(s:_B)(u:_A),BindsTo s fd ⟨[u],[]⟩ [(x,u)]) /\
    ∀base:Heap,(K w.params).In base->base.Ns mainGlobals mg->iY l.prog w (K w.params) mg base (CX w) k fa fd [x] (sp w))
  (HC:∀(w:World)(H:Hp)(a:_C)(ns:_v),ns.length<=n->Fo H->j9 (K w.params) H a (ns.map V.int)->sp w [.ref a] H (fun v _=>v=.bl true) fun _ _ _=>False)
  (Qr:∀(w:World)(H:Hp)(s:_B)(e:_A)(s':_B),CX w [] H s (fun _ _ _=>False) e s'->False):
  W.WalkO q loose XP YP l.row.toRowW d [] (fun f vs=>PySem.call f vs):=by
 refine Sk.uD hn MR fun w s₀ s₁ mg mb fa o pm cd doc a vs ns G Y ho hd BA MS Js hints hlen hg=>?_;have KX:=hY w _ Y;obtain⟨fd,hb,hF⟩:=F w mg fa _ KX G.T.g MS;exact BU KX G.T.g G.T.b G.T.builtins G.T.nolimit hg Js hints (VR hlen TC) hr hF hb (fun H hO hS=>HC w H a ns hlen hO hS) fun H e s'=>Qr w H s₁ e s'
def gf(s:Stmt):Arguments:=match s with
 |.FunctionDef _ a _ _ _ _ _ _ _ _=>a
 |_ => {posonlyargs:=[],args:=[],vararg:=none,kwonlyargs:=[],kw_defaults:=[],kwarg:=none,defaults:=[]}
def d0(s:Stmt):List Stmt:=match s with
 |.FunctionDef _ _ b _ _ _ _ _ _ _=>b
 |_=>[]
def bu(s:Stmt):Scope:=match s with
 |.FunctionDef _ _ _ _ _ _ sc _ _ _=>sc
 |_ => {kind:=.function,names:=[],isGenerator:=false,isCoroutine:=false}
abbrev E0:XK:=fun _ _ _=>False
structure Fq(K:_u)(x qual:Str)(st:Stmt)(f:_C)(fd:FuncData):Prop where
 ex:∃(oc:_A)(od:Option _C)(kV doc pm:_A)(an:Option _C)(gn ct:_A)(EA:Array (_x)),
  fd=W.fnOf x qual (gf st) (d0 st) (bu st) .none kV doc pm an gn ct/\K.lookup f=some ⟨oc,od,.func fd,EA⟩/\W.codeIn K gn qual=true
 kp:W.keepIn K (.ref f)=true
section
variable{P:_E}{w:World}{K:_u}{mg:_s}{base:Heap}
theorem Fq.binds{x qual:Str}{st:Stmt}{f:_C}{fd:FuncData}{ps:_z}(F:Fq K x qual st f fd)(h:∀(kV doc pm:_A)(an:Option _C)(gn ct:_A)(us:_w),us.length=ps.length->bindArgs (W.fnOf x qual (gf st) (d0 st) (bu st) .none kV doc pm an gn ct) ⟨us,[]⟩=pure (ps.zip us)):Binds K fd ps []:=by obtain⟨oc,od,kV,doc,pm,an,gn,ct,EA,rfl,lk,BA⟩:=F.ex;exact .all (h kV doc pm an gn ct)
theorem BV{x qual:Str}{st:Stmt}{f:_C}{oc:_A}{od an:Option _C}{EA:Array (_x)}{kV doc pm gn ct:_A}(l:K.lookup f=some ⟨oc,od,.func (W.fnOf x qual (gf st) (d0 st) (bu st) .none kV doc pm an gn ct),EA⟩)(c:W.codeIn K gn qual=true)(k:W.keepIn K (.ref f)=true):Fq K x qual st f (W.fnOf x qual (gf st) (d0 st) (bu st) .none kV doc pm an gn ct):=⟨⟨oc,od,kV,doc,pm,an,gn,ct,EA,rfl,l,c⟩,k⟩
end
section
variable{X:Cx}
end
def lU(H H':Hp):Prop:=∀b o,H b=some o->H' b=some o
theorem lU.refl(H:Hp):lU H H:=fun _ _ h=>h
section
variable{κ:Type}[DecidableEq κ]
def iu(aI:List (κ×V))(k:κ):Option V:=(aI.find? fun kv=>decide (kv.1=k)).map (·.2)
def putK(aI:List (κ×V))(k:κ)(v:V):List (κ×V):=
 if(aI.any fun kv=>decide (kv.1=k))=true then aI.map (fun kv=>if kv.1=k then(kv.1,v)else kv)else aI++[(k,v)]
theorem oN{p:κ×V}{r:List (κ×V)}{k:κ}(e:p.1=k):iu (p::r) k=some p.2:=by simp[iu,WV,e]
theorem oO{p:κ×V}{r:List (κ×V)}{k:κ}(e:¬ p.1=k):iu (p::r) k=iu r k:=by simp[iu,WV,e]
theorem uE(k:κ):∀aI:List (κ×V),(aI.any fun kv=>decide (kv.1=k))=(iu aI k).isSome
 |[]=>rfl
 |p::r=>by
  rw[W!];by_cases e:p.1=k
  .simp only[oN e,VF e,ZI,Option.isSome_some]
  .rw[oO e,VM e,Yb];exact uE k r
theorem m6(aI:List (κ×V))(k:κ)(v:V):(putK aI k v).length<=aI.length+1:=by
 unfold putK;split
 .rw[Vn];lia
 .rw[Vx,Vl,VH];lia
theorem lO.z5{o:Option V}{u:_x}(r:lO o u):o.isSome=u.isSome:=by
 cases o with
 |none=>cases u with
  |none=>rfl
  |some _=>exact(show False from r).elim
 |some _=>cases u with
  |none=>exact(show False from r).elim
  |some _=>rfl
theorem lO.getD{o:Option V}{u:_x}{d:V}{d':_A}(r:lO o u)(rd:bD d d'):bD (o.getD d) (u.getD d'):=by
 cases o with
 |none=>cases u with
  |none=>exact rd
  |some _=>exact(show False from r).elim
 |some _=>cases u with
  |none=>exact(show False from r).elim
  |some _=>exact r
theorem KV.val{aI:List (κ×V)}{vs:List (κ×_A)}(r:KV aI vs)(k:κ):lO (iu aI k) (valueAt vs k):=by
 unfold KV at r
 induction r with
 |nil=>exact True.intro
 | @cons p q ps qs h t ih=>
  obtain⟨h1,h2⟩:=h;by_cases e:p.1=k
  .have e':q.1=k:=h1.symm.trans e;have b:valueAt (q::qs) k=some q.2:=by simp[valueAt,WV,e']
   rw[oN e,b];exact h2
  .have e':¬ q.1=k:=fun z=>e (h1.trans z);have b:valueAt (q::qs) k=valueAt qs k:=by simp[valueAt,WV,e']
   rw[oO e,b];exact ih
theorem KV.any{aI:List (κ×V)}{vs:List (κ×_A)}(r:KV aI vs)(k:κ):(aI.any fun kv=>decide (kv.1=k))=vs.any fun kv=>decide (kv.1=k):=by
 unfold KV at r
 induction r with
 |nil=>rfl
 |cons h t ih=>rw[W!,W!,ih,h.1]
theorem KV.si{aI:List (κ×V)}{vs:List (κ×_A)}(r:KV aI vs)(k:κ){y:V}{u:_A}(ry:bD y u):
  KV (aI.map fun kv=>if kv.1=k then(kv.1,y)else kv) (vs.map fun kv=>if kv.1=k then(kv.1,u)else kv):=by
 unfold KV at r⊢
 induction r with
 |nil=>exact .nil
 | @cons p q ps qs h t ih=>
  rw[Vp,Vp];refine .cons ?_ ih;obtain⟨h1,h2⟩:=h;by_cases e:p.1=k
  .rw[Vo e,Vo (h1.symm.trans e)];exact⟨h1,ry⟩
  .rw[Vu e,Vu (fun z=>e (h1.trans z))];exact⟨h1,h2⟩
theorem KV.put{aI:List (κ×V)}{vs:List (κ×_A)}(r:KV aI vs)(k:κ){y:V}{u:_A}(ry:bD y u):KV (putK aI k y) (stored vs k u):=by
 unfold putK stored;rw[r.any k];by_cases e:(vs.any fun kv=>decide (kv.1=k))=true
 .rw[Vo e,Vo e];exact r.si k ry
 .rw[Vu e,Vu e];exact Paired.snoc r ⟨rfl,ry⟩
theorem KV.length{aI:List (κ×V)}{vs:List (κ×_A)}(r:KV aI vs):aI.length=vs.length:=ZZ r
end
theorem yg{P:_E}{w:World}{k:dE}{u:_A}(r:bD (kV k) u):(dF P w).is k u=true:=by
 cases k with
 |inl i=>obtain⟨t,e⟩:=(show ∃t,u=Value.int i t from r);subst e;exact um P w i t
 |inr x=>obtain⟨t,e⟩:=(show ∃t,u=Value.str x t from r);subst e;exact uo P w x t
theorem qR{P:_E}{w:World}:∀{ks:List dE}{us:_w},bg (ks.map kV) us->ItemsAre (dF P w) ks us
 |[],_,r=>by rw[VO]at r;cases r;exact .nil
 |k::ks,_,r=>by
  rw[Vp]at r;cases r with
  |cons h t=>exact .cons (yg h) (qR t)
abbrev KT(H:Hp):List (List dE×V)->List (List dE×_C×_A)->Prop:=Paired fun p q=>p.1=q.1/\H q.2.1=some (.tup (p.1.map kV))/\bD p.2 q.2.2
theorem KT.val{H:Hp}{aI:List (List dE×V)}{xs:List (List dE×_C×_A)}(r:KT H aI xs)(k:List dE):lO (iu aI k) ((atKey xs k).map (·.2)):=by
 induction r with
 |nil=>exact True.intro
 | @cons p q ps qs h t ih=>
  obtain⟨h1,_,h2⟩:=h;by_cases e:p.1=k
  .have e':q.1=k:=h1.symm.trans e;have b:atKey (q::qs) k=some q.2:=by simp[atKey,WV,e']
   rw[oN e,b];exact h2
  .have e':¬ q.1=k:=fun z=>e (h1.trans z);have b:atKey (q::qs) k=atKey qs k:=by simp[atKey,WV,e']
   rw[oO e,b];exact ih
theorem KT.si{H:Hp}{aI:List (List dE×V)}{xs:List (List dE×_C×_A)}(r:KT H aI xs)(k:List dE){y:V}{u:_A}(ry:bD y u):
  KT H (aI.map fun kv=>if kv.1=k then(kv.1,y)else kv) (xs.map (putAt k u)):=by
 induction r with
 |nil=>exact .nil
 | @cons p q ps qs h t ih=>
  rw[Vp,Vp];refine .cons ?_ ih;obtain⟨h1,h2,h3⟩:=h;unfold putAt;by_cases e:p.1=k
  .rw[Vo e,Vo (h1.symm.trans e)];exact⟨h1,h2,ry⟩
  .rw[Vu e,Vu (fun z=>e (h1.trans z))];exact⟨h1,h2,h3⟩
theorem KT.put{H:Hp}{aI:List (List dE×V)}{xs:List (List dE×_C×_A)}(r:KT H aI xs)(k:List dE){b:_C}{y:V}{u:_A}(hb:H b=some (.tup (k.map kV)))(ry:bD y u):
  KT H (putK aI k y) (storedH xs k b u):=by
 have e:(aI.any fun kv=>decide (kv.1=k))=(atKey xs k).isSome:=by rw[uE,(r.val k).z5,Option.isSome_map]
 unfold putK storedH;rw[e];by_cases q:(atKey xs k).isSome=true
 .rw[Vo q,Vo q];exact r.si k ry
 .rw[Vu q,Vu q];exact Paired.snoc r ⟨rfl,hb,ry⟩
theorem KT.keeps{H H':Hp}{aI:List (List dE×V)}{xs:List (List dE×_C×_A)}(r:KT H aI xs)(ht:∀b ys,H b=some (.tup ys)->H' b=some (.tup ys)):KT H' aI xs:=
 Paired.Iq r fun _ _ z=>⟨z.1,ht _ _ z.2.1,z.2.2⟩
section
variable{P:_E}{w:World}{H:Hp}{h:Heap}{a:_C}
theorem HE{u:HO}(ok:gZ P w H h)(e:Rd H a u):cA P w H h a u:=e.ok ok
theorem uF{aI:List (dE×V)}(ok:gZ P w H h)(e:Rd H a (.dK aI)):aI.length<=sizeLine/\(a==sysModules)=false/\∃vs,KV aI vs/\h.DictOf (dF P w) a vs:=
 show cA P w H h a (.dK aI)from HE ok e
theorem MW{aI:List (dE×V)}(ok:gZ P w H h)(e:H a=some (.dK aI)):aI.length<=sizeLine/\(a==sysModules)=false/\∃vs,KV aI vs/\h.DictOf (dF P w) a vs:=uF ok (.inl e)
theorem sj{ks:List dE}(ok:gZ P w H h)(e:H a=some (.tup (ks.map kV))):(tupleKind (dF P w)).is h ks a:=by
 obtain⟨_,aD,r,o,h1,h2,n,h3⟩:=(show cA P w H h a (.tup (ks.map kV))from ok a _ e)
 exact⟨o,aD.toArray,n,h1,h2,h3,by simpa using qR r⟩
theorem uG{aI:List (List dE×V)}(ok:gZ P w H h)(e:Rd H a (.dT aI)):aI.length<=sizeLine/\(a==sysModules)=false /\
  ∃xs,KT H aI xs/\h.DictOfH (tupleKind (dF P w)) a xs:=by
 obtain⟨z,y,xs,r,o,es,ep,h1,h2,h3,h4,h5⟩:=(show cA P w H h a (.dT aI)from HE ok e)
 refine⟨z,y,xs,r,o,es,ep,h1,h2,h3,h4,fun x hx=>?_,h5⟩;have all:∀{l:List (List dE×V)}{m:List (List dE×_C×_A)},KT H l m->∀x∈m,(tupleKind (dF P w)).is h x.1 x.2.1:=by
  intro l m q
  induction q with
  |nil=>intro x hx;exact nomatch hx
  | @cons p q ps qs hq t ih=>
   intro x hx;rcases VG.mp hx with e|hx
   .subst e;exact sj ok (by rw[<-hq.1];exact hq.2.1)
   .exact ih x hx
 exact all r x hx
theorem MX{aI:List (List dE×V)}(ok:gZ P w H h)(e:H a=some (.dT aI)):aI.length<=sizeLine/\(a==sysModules)=false /\
  ∃xs,KT H aI xs/\h.DictOfH (tupleKind (dF P w)) a xs:=uG ok (.inl e)
end
def nC(H:Hp)(a:_C)(y:V)(r:Option V):Prop:=
 (∃aI k,Rd H a (.dK aI)/\y=kV k/\r=iu aI k)\/∃aI k b,Rd H a (.dT aI)/\y=.ref b/\H b=some (.tup (k.map kV))/\r=iu aI k
def sk(H:Hp)(a:_C)(y v:V)(H':Hp):Prop:=
 (∃aI k,H a=some (.dK aI)/\y=kV k/\aI.length<sizeLine/\H'=upd H a (.dK (putK aI k v))) \/
 ∃aI k b,H a=some (.dT aI)/\y=.ref b/\H b=some (.tup (k.map kV))/\aI.length<sizeLine/\H'=upd H a (.dT (putK aI k v))
theorem nC.k{H:Hp}{a:_C}{aI:List (dE×V)}{k:dE}(e:H a=some (.dK aI)):nC H a (kV k) (iu aI k):=.inl ⟨aI,k,.inl e,rfl,rfl⟩
theorem nC.t{H:Hp}{a b:_C}{aI:List (List dE×V)}{k:List dE}(e:H a=some (.dT aI))(eb:H b=some (.tup (k.map kV))):nC H a (.ref b) (iu aI k):=.inr ⟨aI,k,b,.inl e,rfl,eb,rfl⟩
theorem sk.k{H:Hp}{a:_C}{aI:List (dE×V)}{k:dE}{v:V}(e:H a=some (.dK aI))(hl:aI.length<sizeLine):sk H a (kV k) v (upd H a (.dK (putK aI k v))):=.inl ⟨aI,k,e,rfl,hl,rfl⟩
theorem sk.t{H:Hp}{a b:_C}{aI:List (List dE×V)}{k:List dE}{v:V}(e:H a=some (.dT aI))(eb:H b=some (.tup (k.map kV)))(hl:aI.length<sizeLine):
  sk H a (.ref b) v (upd H a (.dT (putK aI k v))):=.inr ⟨aI,k,b,e,rfl,eb,hl,rfl⟩
section
variable{X:Cx}{af:_t}{σ:St}{H:Hp}{s:_B}{a:_C}{y v:V}{u r:_A}{o:Option V}{A:_D}{E:_r}
theorem aH.big(I:aH X af σ H s):sysModules<s.heap.objs.size:=by have h:mainGlobals<s.heap.objs.size:=(I.mod.glob.keeps I.bk).lt;exact Nat.lt_trans (by decide) h
theorem z6{Q:_r}(hu:A.units+1<cLine)(I:aH X af σ H s)(g:nC H a y (some v))(ry:bD y u)(h:∀w' s',aH X af σ H s'->bD v w'->Q w' s'):
  wpAny (model X.prog X.w) A (getItem (.ref a) u) Q E s:=by
 rcases g with⟨aI,k,e,ey,l⟩|⟨aI,k,b,e,ey,eb,l⟩
 .subst ey;obtain⟨z,hd,vs,rel,dd⟩:=uF I.b_ e;obtain⟨w',hw,wJ⟩:=lO.some_of (v:=v) (o:=valueAt vs k) (by rw[l];exact rel.val k);exact wpAny_getItem_of (yg ry) dd.mapOf hw (h w' _ (I.tok _) wJ)
 .subst ey;cases(show u=Value.ref b from ry);obtain⟨z,hd,xs,rel,dd⟩:=uG I.b_ e;obtain⟨w',hw,wJ⟩:=lO.some_of (v:=v) (o:=(atKey xs k).map (·.2)) (by rw[l];exact rel.val k);obtain⟨p,hp,TF⟩:=Option.map_eq_some_iff.mp hw;refine wpAny_getItem_heap (Y_ hu) (sj I.b_ eb) dd hp ?_;rw[TF];exact h w' _ (I.tok _) wJ
theorem yh{h':Heap}{t':Nat}{ob:HO}(I:aH X af σ H s)(mu:L5 (H a))(hs:Heap.SameBut a s.heap h')(he:∃q,h'.get? a=some q)(new:cA X.prog X.w (upd H a ob) h' a ob):
  aH X af σ (upd H a ob) {s with heap:=h',toks:=t'}:=
 I.write (x:=a) (e:=a) mu (.inl rfl) (fun b q hb z=>(hs.2 b hb).trans z) he new
theorem Ju{P:_E}{w:World}{H':Hp}{h':Heap}{aI:List (dE×V)}{vs:List (dE×_A)}(z:aI.length<=sizeLine)(hd:(a==sysModules)=false)(rel:KV aI vs)(dd:h'.DictOf (dF P w) a vs):
  cA P w H' h' a (.dK aI):=⟨z,hd,vs,rel,dd⟩
theorem z7{H':Hp}{Q:Unit->_B->Prop}(hu:A.units+1<cLine)(I:aH X af σ H s)(g:sk H a y v H')(ry:bD y u)(rv:bD v r)(h:∀s',aH X af σ H' s'->Q () s'):
  wpAny (model X.prog X.w) A (setItem (.ref a) u r) Q E s:=by
 rcases g with⟨aI,k,e,ey,l,eH⟩|⟨aI,k,b,e,ey,eb,l,eH⟩
 .subst ey eH;obtain⟨z,hd,vs,rel,dd⟩:=MW I.b_ e;have hz:vs.length<=sizeLine:=by rw[<-rel.length];exact z
  have hl:(putK aI k v).length<=sizeLine:=by have:=m6 aI k v;lia
  refine wpAny_setItem_pairs (hsz:=hz) (yg ry) dd fun h' OG hs=>h _ ?_;have he:∃q,h'.get? a=some q:=let⟨q,_,_,hq,_⟩:=OG;⟨q,hq⟩
  exact yh I (by rw[e];exact True.intro) hs he (Ju hl hd (rel.put k rv) OG)
 .subst ey eH;cases(show u=Value.ref b from ry);obtain⟨z,hd,xs,rel,dd⟩:=MX I.b_ e;have hz:xs.length<=sizeLine:=by rw[<-ZZ rel];exact z
  have hl:(putK aI k v).length<=sizeLine:=by have:=m6 aI k v;lia
  refine wpAny_setItem_heap (hsz:=hz) (Y_ hu) (sj I.b_ eb) dd fun h' OG hs=>h _ ?_;obtain⟨q,es,ep,hq,h2,h3,h4,_,h5⟩:=OG;refine yh I (by rw[e];exact True.intro) hs ⟨q,hq⟩ ⟨hl,hd,_,(rel.put k eb rv).keeps fun c ys ec=>?_,q,es,ep,hq,h2,h3,h4,h5⟩;rw[aZ (L4 ec e (fun z=>nomatch z))];exact ec
end
section
variable{X:Cx}{af:_t}{σ:St}{H:Hp}{s:_B}{a:_C}{aI:List (dE×V)}{k:dE}{u:_A}{A:_D}{E:_r}
end
def Jv(i:Expr):Prop:=∀ov iv,subscripted i false ov iv=operate [ov,iv] (getItem ov iv)
theorem Fs{prog:_E}{w:World}{A:_D}{E:_r}{s:_B}{env:Env}{value slice:Expr}{pos:Pos}{T id:String}{Q:_r}(hl:typeLookup (.type T) "__getitem__" = pure (some (.builtin id)))(hs:Jv slice)(h:wpAny (model prog w) A (eval value env) (fun o s₁=>wpAny (model prog w) A (eval slice env) (fun i s₂=>s₂.TypeIs o T/\wpAny (model prog w) A (getItem o i) Q E s₂) E s₁) E s):
  wpAny (model prog w) A (eval (.Subscript value slice pos) env) Q E s:=by
 refine ZJ (V8 h (fun o s₁ h₁=>V8 h₁ (fun i s₂ h₂=>?_) fun _ _ x=>x) fun _ _ x=>x);obtain⟨hT,h₂⟩:=h₂;unfold subscriptTail;refine Vk ?_;rw[getitemInPython_of_ne hT.not_modules];refine Vk (wpAny_specialOf hT hl ?_);have fin:wpAny (model prog w) A (subscripted slice false o i) (fun r s₃=>wpAny (model prog w) A (letTemporaryGo value o r >>= fun _=>pure r) Q E s₃) E s₂:=by rw[hs o i];exact wpAny_operating (V8 h₂ (fun r s₃ h₃=>Vk (wpAny_letTemporaryGo (Vv h₃))) fun _ _ x=>x)
 first
  |exact Vv (Vk fin)
  |exact Vk (Vv (Vk fin))
  |exact Vk fin
theorem uH{X:Cx}{af:_t}{σ:St}{H:Hp}{s:_B}{a:_C}{y:V}{o:Option V}(I:aH X af σ H s)(g:nC H a y o):s.TypeIs (.ref a) "dict":=by
 rcases g with⟨aI,k,e,_,_⟩|⟨aI,k,b,e,_,_,_⟩
 .obtain⟨_,_,vs,_,dd⟩:=uF I.b_ e;exact dd.typeIs
 .obtain⟨_,_,xs,_,dd⟩:=uG I.b_ e;exact dd.typeIs
def MY(td ty:TE):TE:=fun σ H Q=>td σ H fun x H1=>ty σ H1 fun y H2=>∃a v,x=.ref a/\nC H2 a y (some v)/\Q v H2
def MZ(td ty tv:TE):TS:=fun D σ H=>tv σ H fun v H1=>td σ H1 fun x H2=>ty σ H2 fun y H3=>∃a H4,x=.ref a/\sk H3 a y v H4/\D.nx σ H4
section
variable{X:Cx}{o i e value:Expr}{pos pos' qm:Pos}{td ty tv:TE}
theorem Ft(hu:X.A.units+1<cLine)(ho:PE X o td)(hi:PE X i ty)(hs:Jv i):PE X (.Subscript o i pos) (MY td ty):=by intro af s σ H Q I h;refine Fs PySem.F.slot_dict_getitem.lookup hs (cf (ho af s σ H _ I h) fun u s1⟨x,H1,I1,rx,q1⟩=>cf (hi af s1 σ H1 _ I1 q1) fun iv s2⟨y,H2,I2,ry,a,v,ex,g,q2⟩=>?_);subst ex;obtain rfl:u=Value.ref a:=rx;exact⟨uH I2 g,z6 hu I2 g ry fun w' s3 I3 wJ=>⟨v,H2,I3,wJ,q2⟩⟩
theorem Fu(hu:X.A.units+1<cLine)(ho:PE X o td)(hi:PE X i ty)(hv:PE X value tv)(hs:swapsWith value (some (.Subscript o i pos')) pos.line X.env=pure false):
  PS X (.Assign [.Subscript o i pos'] value pos) (MZ td ty tv):=by
 intro af s σ H D I h;refine wpAny_Assign_Subscript (cf (hv af s σ H _ I h) fun r s1⟨v,H1,I1,rv,q1⟩=>cf (ho af s1 σ H1 _ I1 q1) fun u s2⟨x,H2,I2,rx,q2⟩=>cf (hi af s2 σ H2 _ I2 q2) fun iv s3⟨y,H3,I3,ry,a,H4,ex,g,q3⟩=>?_) hs;subst ex;obtain rfl:u=Value.ref a:=rx;exact z7 hu I3 g ry rv fun s4 I4=>⟨σ,H4,I4,q3⟩
end
theorem BW{P:_E}{w:World}{H:Hp}(h:Heap)(hb:sysModules<h.objs.size):cA P w H (h.push {cls:=.type "dict",data:=.dict #[]}) h.objs.size (.dT []):=
 ⟨V' _,Xb.mpr (Xm (V2 hb)),[],.nil,_,#[],0,VN _ rfl,⟨rfl,rfl,rfl⟩,rfl,rfl,List.nodup_nil⟩
def Jw:TE:=fun _ H Q=>∀p,H p=none->Q (.ref p) (upd H p (.dT []))
section
variable{X:Cx}{pos:Pos}
theorem BX:PE X (.Dict [] [] pos) Jw:=fun af s σ H Q I h=>
 wpAny_Dict_empty ⟨.ref s.heap.objs.size,_,I.laid (a:=s.heap.objs.size) (o:=.dT []) (t':=s.toks) (fun _ _ q=>Vm _ q) (Vq _) (BW s.heap I.big),rfl,h _ (I.b_.fresh (Vq _))⟩
end
structure M2(X:Cx)(o:Expr)(m:Str)(apos:Pos)(e f:Expr)(bT:Pos):Prop where
 base:attributeBase o m X.env (eval o X.env)=eval o X.env
 Fv:((backTo bT (starEach [e,f] X.env)).all (fun x => !x.1)&&(backToKw bT (keywordEach [] X.env)).all (fun x=>x.1.isSome)
  && decide (([e,f]:List Expr).length+([]:List Keyword).length+(if([]:List Keyword).isEmpty then 0 else 1)<30))=true
 line:(apos.endLine==bT.line)=true
 trees:backTo bT (starEach [e,f] X.env)=[(false,eval e X.env),(false,eval f X.env)]
def OH(H:Hp)(a:_C):Prop:=(∃aI,Rd H a (.dK aI))\/∃aI,Rd H a (.dT aI)
theorem Jx{X:Cx}{af:_t}{σ:St}{H:Hp}{s:_B}{a:_C}(I:aH X af σ H s)(d:OH H a):
  s.TypeIs (.ref a) "dict" /\ (∀b,Value.ref a=.ref b->∃ob,s.heap.get? b=some ob/\ob.dict=none)/\(a==sysModules)=false:=by
 rcases d with⟨aI,e⟩|⟨aI,e⟩
 .obtain⟨_,hd,vs,_,dd⟩:=uF I.b_ e;refine⟨dd.typeIs,fun b q=>?_,hd⟩;cases q;obtain⟨ob,_,_,h1,h2,_⟩:=dd;exact⟨ob,h1,h2.2.1⟩
 .obtain⟨_,hd,xs,_,dd⟩:=uG I.b_ e;refine⟨dd.typeIs,fun b q=>?_,hd⟩;cases q;obtain⟨ob,_,_,h1,h2,_⟩:=dd;exact⟨ob,h1,h2.2.1⟩
section
variable{X:Cx}{af:_t}{σ:St}{H:Hp}{s:_B}{a:_C}{y d:V}{u r:_A}{o:Option V}{A:_D}{E:_r}
theorem Jy{Q:_r}(hu:A.units+1<cLine)(I:aH X af σ H s)(g:nC H a y o)(ry:bD y u)(rd:bD d r)(h:∀w' s',aH X af σ H s'->bD (o.getD d) w'->Q w' s'):
  wpAny (model X.prog X.w) A (call (.builtin "dict.get") [.ref a,u,r]) Q E s:=by
 rcases g with⟨aI,k,e,ey,l⟩|⟨aI,k,b,e,ey,eb,l⟩
 .subst ey;obtain⟨z,hd,vs,rel,dd⟩:=uF I.b_ e;refine call_meetsIn Yl dd.typeIs Zz (Zt _ _ _) (meets_dict_get_default (dF X.prog X.w) a (yg ry) hd r) ⟨_,dd.mapOf,h _ _ (I.tok _) ?_⟩;rw[l];exact(rel.val k).getD rd
 .subst ey;cases(show u=Value.ref b from ry);obtain⟨z,hd,xs,rel,dd⟩:=uG I.b_ e;refine call_meetsIn Yl dd.typeIs Zz (Zt _ _ _) (meetsH_dict_get_default (tupleKind (dF X.prog X.w)) a b hd r) ⟨Y_ hu,k,xs,sj I.b_ eb,dd,h _ _ (I.tok _) ?_⟩;rw[l];exact(rel.val k).getD rd
end
def Jz(td ty tx:TE):TE:=fun σ H Q=>td σ H fun x H1=>∃a,x=.ref a/\OH H1 a/\ty σ H1 fun y H2=>tx σ H2 fun z H3=>∃o,nC H3 a y o/\Q (o.getD z) H3
section
variable{X:Cx}{o e f:Expr}{apos bT:Pos}{td ty tx:TE}
theorem BY(hu:X.A.units+1<cLine)(ho:PE X o td)(he:PE X e ty)(hf:PE X f tx)(m:M2 X o "get" apos e f bT):PE X (.Call (.Attribute o "get" apos) [e,f] [] bT) (Jz td ty tx):=by
 intro af s σ H Q I h;refine wpAny_Call_method m.base m.Fv m.line PySem.F.plainAttrs_dict Yl PySem.F.type_dict_get (cf (ho af s σ H _ I h) fun u s1⟨x,H1,I1,rx,a,ex,d,q1⟩=>?_);subst ex;obtain rfl:u=Value.ref a:=rx;obtain⟨t1,t2,_⟩:=Jx I1 d;refine⟨t1,t2,?_⟩;rw[m.trees];refine _l rfl (YR (Zd (cf (he af s1 σ H1 _ I1 q1) fun iv s2⟨y,H2,I2,ry,q2⟩=>
  Zd (cf (hf af s2 σ H2 _ I2 q2) fun fv s3⟨z,H3,I3,rz,ov,g,q3⟩=>Calls.spliced_nil ?_))))
 exact Jy hu I3 g ry rz fun w' s4 I4 wJ=>⟨_,H3,I4,wJ,q3⟩
end
section
variable{X:Cx}{af:_t}{σ:St}{H:Hp}{s:_B}{a:_C}{aI:List (dE×V)}{A:_D}{E:_r}
end
section
variable{X:Cx}{af:_t}{σ:St}{H:Hp}{s:_B}{a:_C}{y:V}{u:_A}{A:_D}{E:_r}
end
section
variable{κ:Type}[DecidableEq κ]
end
theorem lU.upd{H H':Hp}{p:_C}{o:HO}(e:lU H H')(h:H' p=none):lU H (upd H' p o):=fun b u q=>by rw[aZ (aV (e b u q) h)];exact e b u q
def kE(k:Nat)(i:Int):Prop:=i.natAbs<2 ^ k
theorem kE.bits{k:Nat}{i:Int}(h:kE k i):Builtin.Int.intBits i<=k:=by
 unfold Builtin.Int.intBits;by_cases hz:(i==0)=true
 .rw[Vo hz];exact V' _
 .rw[Vu hz];have h0:i.natAbs≠0:=by intro e;apply hz;have:i=0:=Z5.mp e;simp[this]
  have:=(Yq h0).mpr h;lia
theorem kE.mono{j k:Nat}{i:Int}(h:kE j i)(hk:j<=k):kE k i:=VL h (Xn (by decide) hk)
theorem kE.mul{j k:Nat}{x y:Int}(h1:kE j x)(h2:kE k y):kE (j+k) (x*y):=by show(x*y).natAbs<2 ^ (j+k);rw[Int.natAbs_mul,Nat.pow_add];exact Nat.mul_lt_mul'' h1 h2
theorem kE.of_lt{k:Nat}{i:Int}(h0:0<=i)(h:i<2 ^ k):kE k i:=by
 have e:((2 ^ k:Nat):Int)=(2:Int) ^ k:=by simp
 show i.natAbs<2 ^ k;lia
theorem kE.small{k:Nat}{i:Int}(hk:10<=k)(h0:-1000<i)(h1:i<1000):kE k i:=by show i.natAbs<2 ^ k;have:2 ^ 10<=2 ^ k:=Xn (by decide) hk;lia
def yi(i j:Int):Prop:=∃a b,kE a i/\kE b j/\a<=2 ^ 20/\b<=2 ^ 20
theorem yi.ok{i j:Int}(h:yi i j):IntMulOk i j:=by obtain⟨a,b,h1,h2,h3,h4⟩:=h;exact IntMulOk.of_bits (VR h1.bits h3) (VR h2.bits h4)
def yj(i j:Int):Prop:=j≠0/\kE 9000 j
theorem yj.ok{i j:Int}(h:yj i j):Builtin.divisionGoesByPylong i j=false:=
 PyProof.noPylong_of_log2 ((Yq (by intro e;exact h.1 (Z5.mp e))).mpr h.2)
section
variable{X:Cx}
theorem Fw:dZ X (binaryOp .Mult) (rI yi fun i j=>.int (i*j)):=Mq fun _ _ _ _ _ _ _ hc q=>PyProof.Rows.mul_int q hc.ok
theorem BZ:dZ X (binaryOp .FloorDiv) (rI yj fun i j=>.int (i.fdiv j)):=Mq fun _ _ _ _ _ _ _ hc q=>floordiv_int hc.1 q (.inl hc.ok)
end
theorem sq{prog:_E}{w:World}{A:_D}{s:_B}{elt target iter:Expr}{ifs:List Expr}{scope:Scope}{pos:Pos}{it acc:_A}{env:Env}{R:Result->_B->Prop}(I:Nat->_B->Prop)
  (turn:∀ n s,I n s->wpAny (model prog w) A (pyNext it) (fun r s₁=>match r with
   |none=>R (.ok .next) s₁
   |some v=>wpAny (model prog w) A (letOwnedTupleGo target it v) (fun _ uI=>wpAny (model prog w) A (assign target env v) (fun _ s₂=>
     wpAny (model prog w) A (forIn ifs true fun c r=>if r=true then do let ok <- isTrue c env (eval c env);pure (ForInStep.yield ok)else pure (ForInStep.yield r)) (fun ok s₃=>
      if ok=true then wpAny (model prog w) A (eval elt env) (fun x s₄=>
       wpAny (model prog w) A (call (.builtin "list.append") [acc,x]) (fun _ s₅=>∃m,m<n/\I m s₅) (fun _ _=>False) s₄) (fun _ _=>False) s₃
      else ∃m,m<n/\I m s₃) (fun _ _=>False) s₂) (fun _ _=>False) uI) (fun _ _=>False) s₁) (fun _ _=>False) s)
  (n:Nat) (h:I n s):codeAny (model prog w) A (.compLoop (.ListComp elt [⟨target,iter,ifs,0⟩] scope pos) 0 it acc env) R s:=by
 refine codeAny_loop rfl I (fun n s hI=>?_) n h;show wpAny _ A ((compTurn (.ListComp elt [⟨target,iter,ifs,0⟩] scope pos) 0 it acc env).onRaise (fun x=>do noteFrame x env;theTreesLotGoes x)) _ _ s;refine wpAny_noted ?_;rw[compTurn_list];refine Vk (X2 (Vk (V8 (turn n s hI) (fun r s₁ h₁=>?_) fun _ _ h'=>h'.elim)));cases r with
 |none=>exact Vv h₁
 |some v=>
  refine Vk (V8 h₁ (fun _ uI B0=>?_) fun _ _ h'=>h'.elim);refine Vk (V8 B0 (fun _ s₂ h₂=>Vk (V8 h₂ (fun ok s₃ h₃=>?_) fun _ _ h'=>h'.elim)) fun _ _ h'=>h'.elim);cases ok with
  |false=>exact Vv ⟨rfl,h₃⟩
  |true=>exact Vk (Vk (V8 h₃ (fun x s₄ h₄=>Vk (V8 h₄ (fun _ s₅ h₅=>Vv (Vv ⟨rfl,h₅⟩)) fun _ _ h'=>h'.elim)) fun _ _ h'=>h'.elim))
def ui(X:Cx)(ifs:List Expr)(t:TT):Prop:=
 ∀(af:_t)(s:_B)(σ:St)(H:Hp)(Q:Bool->Hp->Prop),aH X af σ H s->t σ H Q ->
  wpAny (model X.prog X.w) X.A (forIn ifs true fun c r=>if r=true then do let ok <- isTrue c X.env (eval c X.env);pure (ForInStep.yield ok)else pure (ForInStep.yield r)) (TP X af σ Q) X.xe s
def M3:TT:=fun _ H Q=>Q true H
theorem yk{X:Cx}:ui X [] M3:=fun _ _ _ H _ I h=>wpAny_tests_nil ⟨H,I,h⟩
theorem Fx{X:Cx}{c:Expr}{t:TT}(h:PT X c t):ui X [c] t:=fun af s σ H Q I hw=>wpAny_tests_one (h af s σ H Q I hw)
theorem gZ.HF{P:_E}{w:World}{H:Hp}{h:Heap}{a:_C}{o:HO}(x:gZ P w H h)(hn:H a=none)(new:cA P w (upd H a o) h a o):gZ P w (upd H a o) h:=fun b u e=>by
 by_cases hb:b=a
 .subst hb;rw[cL]at e;cases e;exact new
 .rw[aZ hb]at e;exact(x b u e).kG (fun c v _ q=>q) (fun c q=>by rw[aZ (aV q hn)];exact q) fun c xs q=>by rw[aZ (aV q hn)];exact q
def oP(X:Cx)(N:_z)(scope:Scope)(cl:List (Str×_C))(C:_C)(fp:_y)(s:_B)(H:Hp):Cx:=
 {X with N:=N,s₀:=s,H₀:=H,env:=compEnvC scope cl C X.env,outer:=X.stack,stack:=X.stack,ex:=fp,fn:=fun _=>false,pn:=[],xe:=fun _ _=>False}
def kK(k:Nat)(caps:List Nat)(σ:St):St:=List.replicate k none++caps.map fun j=>(σ[j]?).getD none
structure lV(X:Cx)(N:_z)(scope:Scope)(cl:List (Str×_C))(k:Nat)(caps:List Nat):Prop where
 lW:closureFor scope X.env=pure cl
 sub:∀x c,cl.lookup x=some c->X.env.cells.lookup x=some c
 has:∀x,((relabel scope X.env).names.lookup x=some .cell\/(relabel scope X.env).names.lookup x=some .free)->∃c,cl.lookup x=some c
 fS:∀x∈scope.names,x.2≠.cell
 kind:scope.kind=.function
 names:∀x∈scope.names,x.2=.local->scope.names.lookup x.1=some .local
 len:N.length=k+caps.length
 at_:∀i j x,caps[i]?=some j->N[k+i]?=some x->X.N[j]?=some x/\(X.env.kindOf x=some .cell\/X.env.kindOf x=some .free)/\((relabel scope X.env).names.lookup x=some .cell\/(relabel scope X.env).names.lookup x=some .free)
def qS(J:It)(k:Nat)(caps:List Nat)(g:TG)(tt:TT)(te:TE)(σ:St)(H1:Hp)(Q:VK):Prop:=
 ∃W:Nat->Nat->List V->St->Hp->Prop,(∃m,W 0 m [] (kK k caps σ) H1)/\∀i m ys τ H,W i m ys τ H ->
  (J.stop i H/\ys.length<=sizeLine/\∀p,H p=none->Q (.ref p) (upd H p (.lst ys))) \/
  (J.go i H/\ys.length<sizeLine/\∀x H',J.Mf i H x H'->g x τ H' fun τ2 H2=>tt τ2 H2 fun b H3=>if b=true then te τ2 H3 fun y H4=>∃m',m'<m/\W (i+1) m' (ys++[y]) τ2 H4 else ∃m',m'<m/\W (i+1) m' ys τ2 H3)
@[irreducible] def kL(k:Nat)(caps:List Nat)(wi:TI)(g:TG)(tt:TT)(te:TE):TE:=fun σ H Q=>wi σ H fun J H1=>qS J k caps g tt te σ H1 Q
theorem uJ{k:Nat}{caps:List Nat}{wi:TI}{g:TG}{tt:TT}{te:TE}{σ:St}{H:Hp}{Q:VK}(h:wi σ H fun J H1=>qS J k caps g tt te σ H1 Q):kL k caps wi g tt te σ H Q:=by unfold kL;exact h
theorem lX{k:Nat}{caps:List Nat}{wi:TI}{g:TG}{tt:TT}{te:TE}{σ:St}{H:Hp}{Q:VK}(h:kL k caps wi g tt te σ H Q):wi σ H fun J H1=>qS J k caps g tt te σ H1 Q:=by unfold kL at h;exact h
section
variable{X:Cx}{af:_t}{σ:St}{H:Hp}{s:_B}
theorem Fy{k:Nat}{caps:List Nat}{σ:St}{i:Nat}{v:V}(h:(kK k caps σ)[i]?=some (some v)):∃j,k<=i/\caps[i-k]?=some j/\σ[j]?=some (some v):=by
 unfold kK at h;by_cases hi:i<k
 .rw[V3 (by simpa using hi),XQ]at h;split at h<;>cases h
 .rw[VJ (by simpa using YV hi),Wd,VU]at h;cases e:caps[i-k]? with
  |none=>rw[e]at h;cases h
  |some j=>
   rw[e]at h;refine⟨j,YV hi,rfl,?_⟩;have h':(σ[j]?).getD none=some v:=by simpa using h
   cases q:σ[j]? with
   |none=>rw[q]at h';cases h'
   |some o=>rw[q]at h';exact W' some h'
theorem aH.block{N:_z}{scope:Scope}{cl:List (Str×_C)}{k:Nat}{caps:List Nat}{fp:_y}{C:_C}{h':Heap}{t':Nat}{m':_s}(I:aH X af σ H s)(B:lV X N scope cl k caps)(hf:∀b∈fp,lQ X af H b)(hC:s.heap.objs.size<=C)(B3:∀b∈fp,∃o,s.heap.get? b=some o)(kp:∀b o,s.heap.get? b=some o->h'.get? b=some o)(ns:h'.Ns C m'):aH (oP X N scope cl C fp s H) [] (kK k caps σ) H {s with heap:=h',toks:=t'}:=by
 have below:∀{b:_C}{o:Obj},s.heap.get? b=some o->b≠C:=fun e=>V2 (VL (Vy e) hC);have M4:∀x c,cl.lookup x=some c->∃v,s.heap.IsCell c v:=fun x c e=>I.cell x c (B.sub x c e);refine⟨⟨I.ok.mod,?_,I.ok.glob,I.ok.blt,hC,fun x y c h1 h2=>I.ok.inj x y c (B.sub x c h1) (B.sub y c h2),fun x hx=>B.has x hx,fun x c h1 _=>?_,I.ok.hd,I.ok.frames,.inl rfl,fun b hb=>⟨?_,fun x c e=>?_⟩,I.bs,VR I.ok.Hv I.sz,fun b o e hb=>?_,fun b hb=>?_,I.stack,I.om⟩,
  rfl,I.bare,Un.kept kp,⟨m',ns,fun i x v h1 h2 h3=>?_⟩,fun x c e=>?_,?_,fun x c e=>I.g_ x c (B.sub x c e),fun p hp=>absurd (show p∈([]:_t)from hp) (by simp),I.b_.kept kp,?_⟩
 .exact B.kind
 .exact absurd h1 (by simp[oP])
 .obtain⟨o,e⟩:=B3 b hb;exact below e
 .exact(hf b hb).2.2.2.2.1 x c (B.sub x c e)
 .obtain⟨_,_,_,h4,_⟩:=hf b hb;rcases h4 with z|z
  .exact I.ok.wy b o e z
  .exact absurd (VL (Vy (I.ok.bs b o e).1) z) (V5 _)
 .intro z;rcases VG.mp (I.j8 b z)with e|e
  .exact(hf b hb).2.1 e
  .exact(hf b hb).2.2.1 e
 .obtain⟨j,hk,hj,hσ⟩:=Fy h2;have hN:N[k+(i-k)]?=some x:=by rw[Nat.add_sub_cancel' hk];exact h1
  obtain⟨a1,a2,a3⟩:=B.at_ (i-k) j x hj hN;obtain⟨m,hn,hl⟩:=I.loc;have TH:Oz X.env.scope x:=by
   rcases a2 with z|z
   .exact .inr (.inl z)
   .exact .inr (.inr z)
  obtain⟨u,r,l⟩:=hl j x v a1 hσ TH;refine⟨u,r,.inr ⟨a3,?_⟩⟩;rcases l with⟨z,_⟩|⟨_,c,e,cc⟩
  .rcases a2 with y|y<;>(rw[z]at y;cases y)
  .obtain⟨c',e'⟩:=B.has x a3;have:X.env.cells.lookup x=some c':=B.sub x c' e';rw[e]at this;cases this;obtain⟨o,ho,hd⟩:=cc;exact⟨c,e',o,kp c o ho,hd⟩
 .obtain⟨v,o,ho,hd⟩:=M4 x c e;exact⟨v,o,kp c o ho,hd⟩
 .exact I.b_.fresh hC
 .show(kK k caps σ).length=N.length;unfold kK;rw[Vx,Wd,Vn,B.len]
def uK(X:Cx)(af:_t)(σ:St)(s:_B)(Q:VK)(acc:_A)(C:_C)(s':_B):Prop:=
 ∃D H',acc=.ref D/\s.heap.objs.size<=C/\aH X af σ H' s'/\H' C=none/\(∃m,s'.heap.Ns C m)/\Q (.ref D) H'
theorem qT{tg elt iter:Expr}{ifs:List Expr}{scope:Scope}{pos:Pos}{N:_z}{cl:List (Str×_C)}{k:Nat}{caps:List Nat}{g:TG}{tt:TT}{te:TE}{it:_C}{fp:_y}{tn:Nat->Heap->Prop}{J:It}{Q:VK}{RR:_A->_C->Result->_B->Prop}{E:_r}(hc:X.calm=true)(B:lV X N scope cl k caps)(hg:∀C fp s H,PG (oP X N scope cl C fp s H) tg g)(hi:∀C fp s H,ui (oP X N scope cl C fp s H) ifs tt)(he:∀C fp s H,PE (oP X N scope cl C fp s H) elt te)(I:aH X af σ H s)(T:Turn X.prog X.w X.K tg J fp it tn)(st:tn 0 s.heap)(hf:∀b∈fp,lQ X af H b)(h:qS J k caps g tt te σ H Q)(Qu:∀acc C s',uK X af σ s Q acc C s'->RR acc C (.ok .next) s'):
  wpAny (model X.prog X.w) X.A (newList []) (fun acc s₃=>wpAny (model X.prog X.w) X.A (newFunctionEnv scope X.env.globals cl [] X.env.qual none .none (some X.env)) (fun cenv s₄=>
   codeAny (model X.prog X.w) X.A (.compStart (.ListComp elt [⟨tg,iter,ifs,0⟩] scope pos) 0 (.ref it) acc {cenv with scope:=relabel scope X.env}) (RR acc cenv.locals) s₄) E s₃) E s:=by
 obtain⟨W,⟨m0,w0⟩,turn⟩:=h;refine Wf (wpAny_newFunctionEnv B.fS (by intro y hy;simp at hy) (fun h₁ j_ iw=>?_) B.kind);dsimp only at j_ iw⊢;generalize JA:s.heap.push {cls:=.type "list",dict:=none,data:=.seq ([]:_w).toArray} = H2 at j_ iw⊢;have hC:H2.objs.size=s.heap.objs.size+1:=by rw[<-JA,Xa]
 have ED:s.heap.objs.size<=H2.objs.size:=by rw[hC];exact Nat.le_succ _
 have FA:s.heap.objs.size≠H2.objs.size:=by rw[hC];exact V2 (XN _)
 have old:∀b o,s.heap.get? b=some o->h₁.get? b=some o:=fun b o e=>iw.extBut b o (V2 (VL (Vy e) ED)) (Vm _ (JA▸Vm _ e));have B4:h₁.get? s.heap.objs.size=some {cls:=.type "list",data:=.seq ([]:_w).toArray 0}:=iw.extBut _ _ FA (Vm _ (JA▸VN _ rfl));have JB:=T.obj 0 _ st;have B3:∀b∈fp,∃o,s.heap.get? b=some o:=fun b hb=>let⟨o,e,_⟩:=JB b hb;⟨o,e⟩
 have M5:∀b∈fp,b≠s.heap.objs.size:=fun b hb z=>by obtain⟨o,e⟩:=B3 b hb;exact absurd (Vy e) (by rw[z];exact V5 _)
 have Qv:H s.heap.objs.size=none:=I.b_.fresh (Vq _);have uL:tn 0 h₁:=T.keep 0 _ _ st fun b _ o e=>old b o e;have B5:∀x c,cl.lookup x=some c->c≠s.heap.objs.size:=fun x c e z=>by obtain⟨v,o,ho,_⟩:=I.cell x c (B.sub x c e);exact absurd (Vy ho) (by rw[z];exact V5 _)
 have M6:∀b∈d9 X.stack,b≠s.heap.objs.size:=fun b hb z=>by obtain⟨_,o,ho,_⟩:=I.stack.mem hb;exact absurd (Vy ho) (by rw[z];exact V5 _)
 have loop:∀s₃:_B,s₃ = {s with heap:=h₁,toks:=s.toks+([]:List (Str×_A)).length} ->
   codeAny (model X.prog X.w) X.A (.compLoop (.ListComp elt [⟨tg,iter,ifs,0⟩] scope pos) 0 (.ref it) (.ref s.heap.objs.size) (compEnvC scope cl H2.objs.size X.env)) (RR (.ref s.heap.objs.size) H2.objs.size) s₃:=by
  rintro s₃ rfl;generalize jK:oP X N scope cl H2.objs.size fp s H=XB;have eP:XB.prog=X.prog:=by rw[<-jK];rfl
  have eW:XB.w=X.w:=by rw[<-jK];rfl
  have eK:XB.K=X.K:=by rw[<-jK];rfl
  have eA:XB.A=X.A:=by rw[<-jK];rfl
  have eE:XB.env=compEnvC scope cl H2.objs.size X.env:=by rw[<-jK];rfl
  have eL:XB.env.locals=H2.objs.size:=by rw[eE];rfl
  have eF:XB.fs=d9 X.stack:=by rw[<-jK];rfl
  have eX:XB.ex=fp:=by rw[<-jK];rfl
  have eN:XB.pn=[]:=by rw[<-jK];rfl
  have e0:XB.s₀=s:=by rw[<-jK];rfl
  have eC:XB.calm=true:=by rw[<-jK];exact hc
  have M7:XB.env.cells=cl:=by rw[eE];rfl
  have JC:XB.xe=fun _ _=>False:=by rw[<-jK];rfl
  have gr:PG XB tg g:=by rw[<-jK];exact hg _ _ _ _
  have wM:ui XB ifs tt:=by rw[<-jK];exact hi _ _ _ _
  have Qw:PE XB elt te:=by rw[<-jK];exact he _ _ _ _
  have I0:aH XB [] (kK k caps σ) H {s with heap:=h₁,toks:=s.toks+([]:List (Str×_A)).length}:=by rw[<-jK];exact I.block B hf ED B3 old j_
  -- zF uM pinned
  have JD:∀{τ:St}{H':Hp}{s':_B}{aD:_w}{nn:Nat},aH XB [] τ H' s'->s'.heap.get? s.heap.objs.size=some {cls:=.type "list",data:=.seq aD.toArray nn}->H' s.heap.objs.size=none ->
    aH XB [(s.heap.objs.size,{cls:=.type "list",data:=.seq aD.toArray nn})] τ H' s':=fun{τ H' s' aD nn}J hd hn=>J.jz fun p hp=>by
   obtain rfl:p=_:=V0.mp hp;refine⟨hd,hn,by rw[eL];exact FA,by rw[eF];exact fun z=>M6 _ z rfl,fun v z=>?_⟩;have z':Data.seq aD.toArray nn=Data.cell v:=z;cases z'
  have oI:∀{H':Hp}{o:Obj},(∀b∈fp,H' b=none)->∀b∈fp,lQ XB [(s.heap.objs.size,o)] H' b:=fun{H' o}hn b hb=>by
   obtain⟨_,f1,f2,f3,f4,f5⟩:=hf b hb;refine⟨hn b hb,?_,?_,.inl (by rw[eX];exact hb),fun x c e=>f4 x c (B.sub x c (by rw[<-M7];exact e)),fun p hp=>?_⟩
   .rw[eL];obtain⟨o,e⟩:=B3 b hb;exact V2 (VL (Vy e) ED)
   .rw[eF];intro z;rcases VG.mp (I.j8 b z)with e|e
    .exact f1 e
    .exact f2 e
   .rw[eN]at hp;obtain rfl:p=_:=V0.mp (by simpa using hp);exact Xm (M5 b hb)
  refine sq (fun n s'=>∃i ys aD nn τ H',aH XB [] τ H' s'/\s'.heap.get? s.heap.objs.size=some {cls:=.type "list",data:=.seq aD.toArray nn}/\H' s.heap.objs.size=none/\bg ys aD/\tn i s'.heap/\(∀b∈fp,H' b=none)/\W i n ys τ H') ?_ m0
   ⟨0,[],[],0,kK k caps σ,H,I0,B4,Qv,.nil,uL,fun b hb=>(hf b hb).1,w0⟩
  rintro n s3 ⟨i,ys,aD,nn,τ,H3,I3,Qx,Qy,FC,fP,HA,w3⟩;have M8:=JD I3 Qx Qy;rcases turn i n ys τ H3 w3 with⟨stop,hz,qn⟩|⟨go,hz,step⟩
  .have D1:=T.done XB eP eW eK eC i _ s3 τ H3 (fun _ _=>False) M8 (oI HA) fP stop;rw[eA]at D1;refine cf D1 fun r s4⟨hr,I4⟩=>?_;subst hr;refine Qu _ _ s4 ?_;obtain⟨pd,B6,_⟩:=I4.pin (s.heap.objs.size,{cls:=.type "list",data:=.seq aD.toArray nn}) (by rw[eN];exact VX _ (V0.mpr rfl));have su:Un (d9 X.stack) fp H H3 s.heap s4.heap:=by have:=I4.base;rw[<-jK]at this;exact this
   have new:cA X.prog X.w (upd H3 s.heap.objs.size (.lst ys)) s4.heap s.heap.objs.size (.lst ys):=⟨hz,aD,nn,FC,pd⟩
   have JE:gZ X.prog X.w H3 s4.heap:=by have:=I4.b_;rw[eP,eW]at this;exact this
   have b_:gZ X.prog X.w (upd H3 s.heap.objs.size (.lst ys)) s4.heap:=JE.HF B6 new;have Qz:s4.os=s.os:=by have:=I4.os;rw[e0]at this;exact this
   have un:Un (d9 X.stack) fp H (upd H3 s.heap.objs.size (.lst ys)) s.heap s4.heap:=
    ⟨su.keep,su.slot,fun b o e n hx=>by rw[aZ (V2 (Vy e))];exact su.free b o e n hx,su.there,
     fun b xs e=>by rw[aZ (aV (su.g0 b xs e) B6)];exact su.g0 b xs e,fun b o u e=>by rw[aZ (aV (su.gO b o u e) B6)];exact su.gO b o u e,
     fun b ps e=>by
      obtain⟨more,q⟩:=su.iS b ps e;exact⟨more,by rw[aZ (aV q B6)];exact q⟩⟩
   have I5:aH X af σ (upd H3 s.heap.objs.size (.lst ys)) s4:=I.qL Qz un b_ I4.bare fun b hb=>⟨(hf b hb).2.2.2.1,(hf b hb).2.1,(hf b hb).2.2.2.2.1,(hf b hb).2.2.2.2.2⟩
   have QA:H3 H2.objs.size=none:=by have:=I4.free;rw[eL]at this;exact this
   refine⟨s.heap.objs.size,_,rfl,ED,I5,by rw[aZ (Xm FA)];exact QA,?_,qn _ B6⟩;obtain⟨m4,M9,_⟩:=I4.loc;rw[eL]at M9;exact⟨m4,M9⟩
  .have D1:=T.item XB eP eW eK eC i _ s3 τ H3 (fun _ _=>False) M8 (oI HA) fP go;rw[eA]at D1;refine cf D1 fun r s4⟨u,hr,h4⟩=>?_;subst hr;refine cf h4 fun _ s5⟨x,H5,I5,r5,y5,BF,Ml⟩=>?_;have Mn:=I5.pinned (oI Ml) (T.obj _ _ BF);have G:=gr _ s5 τ H5 x u _ Mn r5 (step x H5 y5);rw[eP,eW,eA,eE,JC]at G;refine cf G fun _ s6⟨τ6,H6,I6,q6⟩=>?_;have G2:=wM _ s6 τ6 H6 _ I6 q6;rw[eP,eW,eA,eE,JC]at G2;refine cf G2 fun ok s7⟨H7,I7,q7⟩=>?_
   -- IS zF af give back
   have back:∀{τ8:St}{H8:Hp}{s8:_B},aH XB ([(s.heap.objs.size,({cls:=.type "list",data:=.seq aD.toArray nn}:Obj))]++lR fp s5.heap) τ8 H8 s8 ->
     aH XB [] τ8 H8 s8/\s8.heap.get? s.heap.objs.size=some {cls:=.type "list",data:=.seq aD.toArray nn}/\H8 s.heap.objs.size=none/\tn (i+1) s8.heap/\∀b∈fp,H8 b=none:=fun{τ8 H8 s8}J=>by
    obtain⟨p1,p2,_⟩:=J.pin (s.heap.objs.size,{cls:=.type "list",data:=.seq aD.toArray nn}) (VX _ (W_ _ (V0.mpr rfl)));refine⟨J.jz fun p hp=>absurd (show p∈([]:_t)from hp) (by simp),p1,p2,T.keep _ _ _ BF fun b hb o e=>(J.pin (b,o) (VX _ (VX _ (fB hb e)))).1,fun b hb=>?_⟩;obtain⟨o,e,d⟩:=T.obj _ _ BF b hb;exact(J.pin (b,o) (VX _ (VX _ (fB hb e)))).2.1
   cases ok with
   |false=>
    rw[Vu VC]at q7⊢;obtain⟨m',hm,w7⟩:=q7;obtain⟨J,a1,a2,a3,a4⟩:=back I7;exact⟨m',hm,i+1,ys,aD,nn,τ6,H7,J,a1,a2,FC,a3,a4,w7⟩
   |true=>
    rw[Vo rfl]at q7⊢;have G3:=Qw _ s7 τ6 H7 _ I7 q7;rw[eP,eW,eA,eE,JC]at G3;refine cf G3 fun v s8⟨y,H8,I8,r8,m',hm,w8⟩=>?_;obtain⟨J,a1,a2,a3,a4⟩:=back I8;have hlen:=FC.length;refine Y! Zc ⟨_,a1,rfl⟩ Y0 (YQ _ _) (YL s.heap.objs.size aD.toArray nn v (by rw[VD];lia)) ⟨a1,?_⟩;have q:=YS a1 (fun z=>z.push v);have other:∀b o,b≠s.heap.objs.size->s8.heap.get? b=some o->(s8.heap.update s.heap.objs.size (Obj.mapSeq fun z=>z.push v)).get? b=some o:=fun b o hb e=>(Wh s8.heap (Obj.mapSeq fun z=>z.push v) (Xm hb)).trans e;have J':aH XB [] τ6 H8 {s8 with heap:=s8.heap.update s.heap.objs.size (Obj.mapSeq fun z=>z.push v)}:=
     J.turned (t':=s8.toks) (it:=s.heap.objs.size) other a2 (by rw[eL];exact FA) (.inr (by rw[e0];exact Vq _)) (fun x c e=>B5 x c (by rw[<-M7];exact e)) fun p hp=>absurd (show p∈([]:_t) by rw[eN]at hp;exact hp) (by simp)
    obtain⟨n2,q2⟩:∃n2,(s8.heap.update s.heap.objs.size (Obj.mapSeq fun z=>z.push v)).get? s.heap.objs.size=some {cls:=.type "list",data:=.seq (aD++[v]).toArray n2}:=by
     have e1:aD.toArray.push v=(aD++[v]).toArray:=by simp
     rw[<-e1];exact⟨_,q⟩
    exact⟨m',hm,i+1,ys++[y],aD++[v],n2,τ6,H8,J',q2,a2,FC.append (.cons r8 .nil),T.keep _ _ _ a3 fun b hb o e=>other b o (M5 b hb) e,a4,w8⟩
 exact _c (loop _ rfl) (T.self X.A 0 _ _ _ uL (loop _ rfl))
end
section
variable{X:Cx}{tg elt iter:Expr}{ifs:List Expr}{scope:Scope}{pos wN:Pos}{N:_z}{cl:List (Str×_C)}{k:Nat}{caps:List Nat}{wi:TI}{g:TG}{tt:TT}{te:TE}
theorem aH.lY{af:_t}{σ σ':St}{H H':Hp}{s s':_B}{C:_C}{h':Heap}(I:aH X af σ H s)(hC:s.heap.objs.size<=C)(I':aH X af σ' H' s')(hn:H' C=none)(sb:Heap.SameBut C s'.heap h'):
  aH X af σ' H' {s' with heap:=h'}:=by
 refine I'.turned (t':=s'.toks) (it:=C) (fun b o hb e=>(sb.2 b hb).trans e) hn (Xq (VL I.lt hC)) (.inr (VR I.sz hC)) (fun x c e=>?_) fun p hp=>?_
 .obtain⟨v,o,ho,_⟩:=I.cell x c e;exact V2 (VL (Vy ho) hC)
 .exact V2 (VL (Vy (I.pin p hp).1) hC)
theorem FD(hc:X.calm=true)(B:lV X N scope cl k caps)(hi:PI X tg iter wi)(hg:∀C fp s H,PG (oP X N scope cl C fp s H) tg g)(B7:∀C fp s H,ui (oP X N scope cl C fp s H) ifs tt)(he:∀C fp s H,PE (oP X N scope cl C fp s H) elt te)(hs:∀x,foldedSetIterable iter X.env x=pure x:=by intro _;rfl):PE X (.ListComp elt [⟨tg,iter,ifs,0⟩] scope pos) (kL k caps wi g tt te):=by intro af s σ H Q I h;rw[eval_ListComp];refine ZT (use:=none) rfl hs B.lW B.kind B.names (cf (hi af s σ H _ I (lX h)) fun xv s₁ h₁=>cf h₁ fun Mg s₂ h₂=>?_);obtain⟨it,fp,tn,J,H2,e,I2,T,st2,f2,hW⟩:=h₂;subst e;refine qT (RR:=fun acc C=>compPost (model X.prog X.w) X.A X.xe none (EP X af σ Q) acc C) hc B hg B7 he I2 T st2 f2 hW ?_;rintro acc C s' ⟨D,H',rfl,hC,I',hn,⟨m,ns⟩,q⟩;exact⟨m,ns,fun h' sb=>⟨.ref D,H',I2.lY hC I' hn sb,rfl,q⟩⟩
theorem wO{i:Nat}{y:Str}{py:Pos}(hN:X.N.Nodup)(hy:X.N[i]?=some y)(hx:Loc X.env.scope y)(hc:X.calm=true)(B:lV X N scope cl k caps)(hi:PI X tg iter wi)(hg:∀C fp s H,PG (oP X N scope cl C fp s H) tg g)(B7:∀C fp s H,ui (oP X N scope cl C fp s H) ifs tt)(he:∀C fp s H,PE (oP X N scope cl C fp s H) elt te)(QB:swapsWith (.ListComp elt [⟨tg,iter,ifs,0⟩] scope pos) (some (.Name y py)) wN.line X.env=pure true:=by rfl)(hs:∀x,foldedSetIterable iter X.env x=pure x:=by intro _;rfl)(hf:X.fn y=true\/X.env.scope.names.lookup y=some .local:=by first|exact .inl rfl|exact .inr rfl|assumption):
  PS X (.Assign [.Name y py] (.ListComp elt [⟨tg,iter,ifs,0⟩] scope pos) wN) (E5 (kL k caps wi g tt te) (uu i)):=by
 intro af s σ H D I h;rw[exec_Assign_Name_used _ _ _ _ QB];refine Vk (X2 (Vk ?_));show wpAny _ X.A (do let _ <- comprehension (.ListComp elt [⟨tg,iter,ifs,0⟩] scope pos) scope X.env _ (newList []) false (eval iter X.env) (some (assign (.Name y py) X.env))) _ _ s;refine Vk (V8 (ZT (use:=some (assign (.Name y py) X.env)) (Q:=fun _ s'=>SP X af D .next s') rfl hs B.lW B.kind B.names (cf (hi af s σ H _ I (lX h)) fun xv s₁ h₁=>cf h₁ fun Mg s₂ h₂=>?_)) (fun _ s' hq=>Vv (Vv hq)) fun _ _ e=>e);obtain⟨it,fp,tn,J,H2,e,I2,T,st2,f2,hW⟩:=h₂;subst e;refine qT (Q:=fun v H'=>uu i v σ H' D.nx) (RR:=fun acc C=>compPost (model X.prog X.w) X.A X.xe (some (assign (.Name y py) X.env)) (fun _ s'=>SP X af D .next s') acc C) hc B hg B7 he I2 T st2 f2 hW ?_;rintro acc C s' ⟨D',H',rfl,hC,I',hn,⟨m,ns⟩,q⟩;show wpAny _ _ (assign (.Name y py) X.env (.ref D')) _ _ s';refine wpAny_assign_Name (qK I' hN hy hx (v:=.ref D') rfl (fun Mz TJ⟨a,sb,ha⟩=>?_) hf);have TK:C≠a:=by
  rcases ha with e|e
  .rw[e];exact Xq (VL I2.lt hC)
  .obtain⟨v,o,ho,_⟩:=I2.cell y a e;exact Xq (VL (Vy ho) hC)
 exact⟨m,ns.sameBut sb TK,fun h' TL=>⟨_,H',I2.lY hC TJ hn TL,q⟩⟩
end
section
variable{K:_u}{g:TG}{tt:TT}{te:TE}{Q:VK}
theorem ym{J:It}{k:Nat}{caps:List Nat}{σ:St}{H:Hp}(n:Nat)(hn:n<=sizeLine)(Pv:Nat->List V->St->Hp->Prop)(h0:Pv 0 [] (kK k caps σ) H)(TM:∀i ys τ H,i<n->Pv i ys τ H->J.go i H)(Ez:∀ys τ H,Pv n ys τ H->J.stop n H)(hl:∀i ys τ H,Pv i ys τ H->ys.length<=i)(hs:∀i ys τ H x H',i<n->Pv i ys τ H->J.Mf i H x H'->∀K1:List V->St->Hp->Prop,(∀ys τ H,Pv (i+1) ys τ H->K1 ys τ H)->g x τ H' fun τ2 H2=>tt τ2 H2 fun b H3=>if b=true then te τ2 H3 fun y H4=>K1 (ys++[y]) τ2 H4 else K1 ys τ2 H3)(hd:∀ys τ H p,Pv n ys τ H->H p=none->Q (.ref p) (upd H p (.lst ys))):qS J k caps g tt te σ H Q:=by
 refine⟨fun i m ys τ H=>m=n-i/\i<=n/\Pv i ys τ H,⟨n,by simp,V' _,h0⟩,?_⟩;rintro i m ys τ H ⟨rfl,hi,p⟩;have hy:=hl i ys τ H p;by_cases uN:i<n
 .refine .inr ⟨TM i ys τ H uN p,by lia,fun x H' y=>?_⟩;exact hs i ys τ H x H' uN p y (fun ys τ H=>∃m',m'<n-i/\m'=n-(i+1)/\i+1<=n/\Pv (i+1) ys τ H) fun ys τ H q=>⟨n-(i+1),by lia,rfl,uN,q⟩
 .have e:i=n:=by lia
  subst e;exact .inl ⟨Ez ys τ H p,by lia,fun q hq=>hd ys τ H q p hq⟩
end
def de(b:Bool)(h:Heap)(i l:_C)(k:Nat):Prop:=match b with|true=>h.IsListIter i l k|false=>h.IsTupleIter i l k
def gP(b:Bool)(h:Heap)(l:_C)(xs:Array _A):Prop:=match b with|true=>h.IsList l xs|false=>h.IsTuple l xs
theorem de.keep{b:Bool}{h h':Heap}{i l:_C}{k:Nat}(x:de b h i l k)(e:∀o,h.get? i=some o->h'.get? i=some o):de b h' i l k:=by
 cases b with
 |true=>exact Heap.IsListIter.at x e
 |false=>exact Heap.IsTupleIter.at x e
theorem gP.keep{b:Bool}{h h':Heap}{l:_C}{xs:Array _A}(x:gP b h l xs)(e:∀o,h.get? l=some o->h'.get? l=some o):gP b h' l xs:=by
 cases b with
 |true=>exact Heap.IsList.at x e
 |false=>obtain⟨o,ho,r⟩:=(show h.IsTuple l xs from x);exact⟨o,e _ ho,r⟩
theorem de.there{b:Bool}{h:Heap}{i l:_C}{k:Nat}(x:de b h i l k):∃o n vs,h.get? i=some o/\o.cls=.type n/\o.data=.fields vs:=by
 cases b with
 |true=>obtain⟨o,h1,h2,h3⟩:=(show h.IsListIter i l k from x);exact⟨o,_,_,h1,h2,h3⟩
 |false=>obtain⟨o,h1,h2,h3⟩:=(show h.IsTupleIter i l k from x);exact⟨o,_,_,h1,h2,h3⟩
section
variable{prog:_E}{w:World}{A:_D}{E:_r}{s:_B}
theorem oQ{it t:_C}{i:Nat}{items:Array _A}{x:_A}{Q:_r}(hit:s.heap.IsTupleIter it t i)(ht:s.heap.IsTuple t items)(hx:items[i]?=some x)(hQ:∀h',h'.IsTupleIter it t (i+1)->Heap.SameBut it s.heap h'->Q x {s with heap:=h'}):wpAny (model prog w) A (Builtin.SmallTypes.nextOf (.ref it)) Q E s:=by obtain⟨oi,HG,ci,di⟩:=id hit;obtain⟨ot,QC,_,nt,dt⟩:=ht;unfold Builtin.SmallTypes.nextOf;refine Vk (Wk (name:=Str.ofString "__next__") hit.typeIs Wl (WG Wl hit.typeIs Xs ?_ (Xp _)));show wpAny _ _ (field (.ref it) 0 >>= _) _ _ s;refine Vk (Wg HG di (x:=.ref t) rfl ?_);show wpAny _ _ (if(Value.ref t==Value.none)=true then _ else _) _ _ s;rw[Vu (show ¬ ((Value.ref t==Value.none)=true)from VC)];show wpAny _ _ (field (.ref it) 1 >>= _) _ _ s;refine Vk (Wg HG di (x:=.int i 0) rfl ?_);show wpAny _ _ (seqItems? (.ref t) >>= _) _ _ s;refine Vk (WM QC dt ?_);simp only[WY,hx];refine Vk (Xv HG di (by simp) (Vv ⟨x,rfl,Vv (hQ _ ?_ (W? ..))⟩));exact⟨_,Xr _ HG (X0 (WW di _)),(Zh ..).trans ci,by rw[WW di];simp[rawInt]⟩
theorem qr{it t:_C}{i:Nat}{items:Array _A}{Q:_r}(hh:A.handled=none)(hit:s.heap.IsTupleIter it t i)(ht:s.heap.IsTuple t items)(hx:items[i]?=none)(hE:∀h' e,Heap.ExtBut it s.heap h'->(∃o,h'.get? e=some o/\o.cls=.type "StopIteration")->E (.ref e) {s with heap:=h'}):wpAny (model prog w) A (Builtin.SmallTypes.nextOf (.ref it)) Q E s:=by
 obtain⟨oi,HG,ci,di⟩:=id hit;obtain⟨ot,QC,_,nt,dt⟩:=ht;unfold Builtin.SmallTypes.nextOf;refine Vk (Wk (name:=Str.ofString "__next__") hit.typeIs Wl (WG Wl hit.typeIs Xs ?_ (Xp _)));show wpAny _ _ (field (.ref it) 0 >>= _) _ _ s;refine Vk (Wg HG di (x:=.ref t) rfl ?_);show wpAny _ _ (if(Value.ref t==Value.none)=true then _ else _) _ _ s;rw[Vu (show ¬ ((Value.ref t==Value.none)=true)from VC)];show wpAny _ _ (field (.ref it) 1 >>= _) _ _ s;refine Vk (Wg HG di (x:=.int i 0) rfl ?_);show wpAny _ _ (seqItems? (.ref t) >>= _) _ _ s;refine Vk (WM QC dt ?_);simp only[WY,hx];refine Vk (Xh (Vk (Xv HG di (by simp) ?_)));show wpAny _ _ (newExc (.type "StopIteration") [] >>= _) _ _ _;refine Vk ?_;simp only[newExc,newTuple];refine Vk (Wf ?_ (by size_fits));refine Vk (m:=firstArgMember _ _) (Zs (a:=Value.none) (by first|rfl|(simp only[firstArgMember];rfl)) ?_);refine Wf ?_ (by size_fits);simp only[raiseNew];refine Vk (ZS ?_)
 first|rw[show A.in1.handled=none from hh]|rw[hh]
 refine Vk (Vv (Zr ?_));exact hE _ _ (((W? ..).extBut.push _).push _) ⟨_,VN _ rfl,rfl⟩
theorem iy{b:Bool}{it t:_C}{i:Nat}{items:Array _A}{x:_A}{Q:_r}(hit:de b s.heap it t i)(ht:gP b s.heap t items)(hx:items[i]?=some x)(hQ:∀h',de b h' it t (i+1)->Heap.SameBut it s.heap h'->Q x {s with heap:=h'}):wpAny (model prog w) A (Builtin.SmallTypes.nextOf (.ref it)) Q E s:=by
 cases b with
 |true=>exact wpAny_nextOf_list_item hit ht hx hQ
 |false=>exact oQ hit ht hx hQ
theorem m7{b:Bool}{it t:_C}{i:Nat}{items:Array _A}{Q:_r}(hh:A.handled=none)(hit:de b s.heap it t i)(ht:gP b s.heap t items)(hx:items[i]?=none)(hE:∀h' e,Heap.ExtBut it s.heap h'->(∃o,h'.get? e=some o/\o.cls=.type "StopIteration")->E (.ref e) {s with heap:=h'}):wpAny (model prog w) A (Builtin.SmallTypes.nextOf (.ref it)) Q E s:=by
 cases b with
 |true=>exact wpAny_nextOf_list_end hh hit ht hx hE
 |false=>exact qr hh hit ht hx hE
end
abbrev oR(b:Bool)(l:_C):Obj:={cls:=.type (match b with|true => "list_iterator"|false => "tuple_iterator"),data:=.fields #[.ref l,.int 0 0]}
section
variable{prog:_E}{w:World}{A:_D}{E:_r}{s:_B}
theorem de.new(b:Bool){h:Heap}{i l:_C}(e:h.get? i=some (oR b l)):de b h i l 0:=by
 cases b with
 |true=>exact⟨_,e,rfl,rfl⟩
 |false=>exact⟨_,e,rfl,rfl⟩
theorem oS{b:Bool}{l:_C}{xs:Array _A}{Q:_r}(h:gP b s.heap l xs)(hQ:Q (.ref s.heap.objs.size) {s with heap:=s.heap.push (oR b l)}):wpAny (model prog w) A (pyIter (.ref l)) Q E s:=by
 cases b with
 |true=>exact Zf h hQ
 |false=>exact Xi h hQ
theorem FE{b1 b2:Bool}{z TI TO i1 i2 l1 l2:_C}{k1 k2:Nat}{xs ys:Array _A}{x y a b:_A}{Q:_r}(D:ZipApart z TI TO i1 i2 l1 l2)(hz:IsZip s.heap z TI TO .none)(sv:IsPair s.heap TI (.ref i1) (.ref i2))(uj:IsPair s.heap TO a b)(h1:de b1 s.heap i1 l1 k1)(h2:de b2 s.heap i2 l2 k2)(EF:gP b1 s.heap l1 xs)(EC:gP b2 s.heap l2 ys)(hx:xs[k1]?=some x)(hy:ys[k2]?=some y)
  (hQ:∀ h',IsZip h' z TI TO (rawInt s.heap.objs.size)->IsPair h' TO x y->de b1 h' i1 l1 (k1+1)->de b2 h' i2 l2 (k2+1)->IsPair h' s.heap.objs.size x y ->
   (∀c o,c≠z->c≠TO->c≠i1->c≠i2->s.heap.get? c=some o->h'.get? c=some o)->Q (.ref s.heap.objs.size) {s with heap:=h'}):
  wpAny (model prog w) A (Builtin.«zip.__next__» ⟨[.ref z],[]⟩) (fun fin s'=>∃v,fin=.done (.ret v)/\Q v s') E s:=by
 show wpAny _ _ (field (.ref z) 2 >>= _) _ _ _;refine Vk (Wg hz rfl (x:=.bool false) rfl ?_);show wpAny _ _ (field (.ref z) 3 >>= _) _ _ _;refine Vk (Wg hz rfl (x:=.ref TI) rfl (Vk (WM sv rfl ?_)));show wpAny _ _ (Builtin.SmallTypes.ownedTupleIsFree (.ref z) >>= _) _ _ _;refine Vk ?_;unfold Builtin.SmallTypes.ownedTupleIsFree;refine Vk (Wg hz rfl (x:=.none) rfl (Vv ?_));simp only[Xy];refine Vk (Xh (Vk (Wg hz rfl (x:=.ref TO) rfl (Vk (Xg hz (by simp) fun g₁ m8 s₁=>?_)))));replace m8:IsZip g₁ z TI TO .ellipsis:=m8;refine Vk ?_;simp only[ZE,List.zipIdx_nil,List.forIn_cons,List.forIn_nil];refine Vk (Vk (Y4 ?_));show wpAny _ _ (Builtin.SmallTypes.nextOf (.ref i1) >>= _) _ _ _;refine Vk (iy (b:=b1) (h1.keep fun o e=>s₁.extBut _ o D.i1z e) (EF.keep fun o e=>s₁.extBut _ o D.l1z e) hx fun g₂ q₁ s₂=>Vv ?_);have t₂:IsPair g₂ TO a b:=s₂.extBut _ _ D.TOi1 (s₁.extBut _ _ D.TOz uj);refine Vk (WM t₂ rfl (Vk (YK t₂ fun g₃ t₃ s₃=>?_)));replace t₃:IsPair g₃ TO x b:=t₃;refine Vk (wpAny_letGo (Vv (Vk (Vk (Y4 ?_)))));show wpAny _ _ (Builtin.SmallTypes.nextOf (.ref i2) >>= _) _ _ _;refine Vk (iy (b:=b2) (h2.keep fun o e=>s₃.extBut _ o D.TOi2.symm (s₂.extBut _ o D.i12.symm (s₁.extBut _ o D.i2z e))) (EC.keep fun o e=>s₃.extBut _ o D.l2TO (s₂.extBut _ o D.l2i1 (s₁.extBut _ o D.l2z e))) hy fun g₄ q₂ s₄=>Vv ?_);have t₄:IsPair g₄ TO x b:=s₄.extBut _ _ D.TOi2 t₃;refine Vk (WM t₄ rfl (Vk (YK t₄ fun g₅ t₅ s₅=>?_)));replace t₅:IsPair g₅ TO x y:=t₅;refine Vk (wpAny_letGo (Vv (Vv (Vk (WM t₅ rfl (Vk (wpAny_newTuple ?_)))))));have sz:g₅.objs.size=s.heap.objs.size:=by rw[s₅.1,s₄.1,s₃.1,s₂.1,s₁.1]
 have z₅:IsZip g₅ z TI TO .ellipsis:=s₅.extBut _ _ D.TOz.symm (s₄.extBut _ _ D.i2z.symm (s₃.extBut _ _ D.TOz.symm (s₂.extBut _ _ D.i1z.symm m8)));have kp:∀c o,c≠z->c≠TO->c≠i1->c≠i2->s.heap.get? c=some o->g₅.get? c=some o:=fun c o n1 n2 n3 n4 e=>s₅.extBut _ _ n2 (s₄.extBut _ _ n4 (s₃.extBut _ _ n2 (s₂.extBut _ _ n3 (s₁.extBut _ _ n1 e))));have p₁:de b1 g₅ i1 l1 (k1+1):=q₁.keep fun o e=>s₅.extBut _ o D.TOi1.symm (s₄.extBut _ o D.i12 (s₃.extBut _ o D.TOi1.symm e));have p₂:de b2 g₅ i2 l2 (k2+1):=q₂.keep fun o e=>s₅.extBut _ o D.TOi2.symm e;have So:z<g₅.objs.size:=Vy z₅;show wpAny _ _ (Builtin.SmallTypes.ownedTupleHandOut (.ref z) (.ref g₅.objs.size) >>= _) _ _ _;refine Vk ?_;unfold Builtin.SmallTypes.ownedTupleHandOut;have z₆:IsZip (g₅.push {cls:=.type "tuple",data:=.seq #[x,y]}) z TI TO .ellipsis:=Vm _ z₅;refine Vk (Xg z₆ (by simp) fun g₇ z₇ s₇=>?_);replace z₇:IsZip g₇ z TI TO (rawInt g₅.objs.size):=z₇;refine Xg z₇ (by simp) fun g₈ z₈ s₈=>?_;replace z₈:IsZip g₈ z TI TO (rawInt g₅.objs.size):=z₈;have up:∀c o,c≠z->g₅.get? c=some o->g₈.get? c=some o:=fun c o n e=>s₈.extBut _ _ n (s₇.extBut _ _ n (Vm _ e));have t₈:IsPair g₈ g₅.objs.size x y:=s₈.extBut _ _ (Xq So) (s₇.extBut _ _ (Xq So) (VN _ rfl));rw[sz]at z₈ t₈;refine Vv ⟨_,rfl,?_⟩;show Q (.ref g₅.objs.size) _;rw[sz];exact hQ g₈ z₈ (up _ _ D.TOz t₅) (p₁.keep fun o e=>up _ o D.i1z e) (p₂.keep fun o e=>up _ o D.i2z e) t₈ fun c o n1 n2 n3 n4 e=>up c o n1 (kp c o n1 n2 n3 n4 e)
theorem JF{b1 b2:Bool}{z TI TO i1 i2 l1 l2:_C}{k1 k2:Nat}{xs ys:Array _A}{a b:_A}{Q:Fin->_B->Prop}(hh:A.handled=none)(D:ZipApart z TI TO i1 i2 l1 l2)(hz:IsZip s.heap z TI TO .none)(sv:IsPair s.heap TI (.ref i1) (.ref i2))(uj:IsPair s.heap TO a b)(h1:de b1 s.heap i1 l1 k1)(h2:de b2 s.heap i2 l2 k2)(EF:gP b1 s.heap l1 xs)(EC:gP b2 s.heap l2 ys)(he:xs[k1]?=none\/ys[k2]?=none)(hE:∀h' e,(∀c o,c≠z->c≠TO->c≠i1->c≠i2->s.heap.get? c=some o->h'.get? c=some o)->(∃o,h'.get? e=some o/\o.cls=.type "StopIteration")->E (.ref e) {s with heap:=h'}):
  wpAny (model prog w) A (Builtin.«zip.__next__» ⟨[.ref z],[]⟩) Q E s:=by
 show wpAny _ _ (field (.ref z) 2 >>= _) _ _ _;refine Vk (Wg hz rfl (x:=.bool false) rfl ?_);show wpAny _ _ (field (.ref z) 3 >>= _) _ _ _;refine Vk (Wg hz rfl (x:=.ref TI) rfl (Vk (WM sv rfl ?_)));show wpAny _ _ (Builtin.SmallTypes.ownedTupleIsFree (.ref z) >>= _) _ _ _;refine Vk ?_;unfold Builtin.SmallTypes.ownedTupleIsFree;refine Vk (Wg hz rfl (x:=.none) rfl (Vv ?_));simp only[Xy];refine Vk (Xh (Vk (Wg hz rfl (x:=.ref TO) rfl (Vk (Xg hz (by simp) fun g₁ m8 s₁=>?_)))));replace m8:IsZip g₁ z TI TO .ellipsis:=m8;refine Vk ?_;simp only[ZE,List.zipIdx_nil,List.forIn_cons,List.forIn_nil];refine Vk (Vk (Y4 ?_));show wpAny _ _ (Builtin.SmallTypes.nextOf (.ref i1) >>= _) _ _ _;cases hx:xs[k1]? with
 |none=>
  refine Vk (m7 (b:=b1) hh (h1.keep fun o e=>s₁.extBut _ o D.i1z e) (EF.keep fun o e=>s₁.extBut _ o D.l1z e) hx fun g₂ e s₂⟨oe,HH,ce⟩=>?_);have z₂:IsZip g₂ z TI TO .ellipsis:=s₂ _ _ D.i1z.symm m8;have QD:e≠z:=fun q=>by subst q;rw[z₂]at HH;cases HH;simp at ce
  exact Xg z₂ (by simp) fun g₃ _ s₃=>hE g₃ e (fun c o n1 _ n3 _ q=>s₃.extBut _ _ n1 (s₂ _ _ n3 (s₁.extBut _ _ n1 q))) ⟨oe,s₃.extBut _ _ QD HH,ce⟩
 |some x=>
  have hy:ys[k2]?=none:=by
   rcases he with q|q
   .rw[hx]at q;cases q
   .exact q
  refine Vk (iy (b:=b1) (h1.keep fun o e=>s₁.extBut _ o D.i1z e) (EF.keep fun o e=>s₁.extBut _ o D.l1z e) hx fun g₂ q₁ s₂=>Vv ?_);have t₂:IsPair g₂ TO a b:=s₂.extBut _ _ D.TOi1 (s₁.extBut _ _ D.TOz uj);refine Vk (WM t₂ rfl (Vk (YK t₂ fun g₃ t₃ s₃=>?_)));refine Vk (wpAny_letGo (Vv (Vk (Vk (Y4 ?_)))));show wpAny _ _ (Builtin.SmallTypes.nextOf (.ref i2) >>= _) _ _ _;refine Vk (m7 (b:=b2) hh (h2.keep fun o e=>s₃.extBut _ o D.TOi2.symm (s₂.extBut _ o D.i12.symm (s₁.extBut _ o D.i2z e))) (EC.keep fun o e=>s₃.extBut _ o D.l2TO (s₂.extBut _ o D.l2i1 (s₁.extBut _ o D.l2z e))) hy fun g₄ e s₄⟨oe,HH,ce⟩=>?_);have z₄:IsZip g₄ z TI TO .ellipsis:=s₄ _ _ D.i2z.symm (s₃.extBut _ _ D.TOz.symm (s₂.extBut _ _ D.i1z.symm m8));have QD:e≠z:=fun q=>by subst q;rw[z₄]at HH;cases HH;simp at ce
  exact Xg z₄ (by simp) fun g₅ _ s₅=>hE g₅ e (fun c o n1 n2 n3 n4 q=>s₅.extBut _ _ n1 (s₄ _ _ n4 (s₃.extBut _ _ n2 (s₂.extBut _ _ n3 (s₁.extBut _ _ n1 q))))) ⟨oe,s₅.extBut _ _ QD HH,ce⟩
theorem z8{b1 b2:Bool}{z TI TO i1 i2 l1 l2:_C}{k1 k2:Nat}{xs ys:Array _A}{x y a b:_A}{Q:_x->_B->Prop}(D:ZipApart z TI TO i1 i2 l1 l2)(hz:IsZip s.heap z TI TO .none)(sv:IsPair s.heap TI (.ref i1) (.ref i2))(uj:IsPair s.heap TO a b)(h1:de b1 s.heap i1 l1 k1)(h2:de b2 s.heap i2 l2 k2)(EF:gP b1 s.heap l1 xs)(EC:gP b2 s.heap l2 ys)(hx:xs[k1]?=some x)(hy:ys[k2]?=some y)
  (hQ:∀ h',IsZip h' z TI TO (rawInt s.heap.objs.size)->IsPair h' TO x y->de b1 h' i1 l1 (k1+1)->de b2 h' i2 l2 (k2+1)->IsPair h' s.heap.objs.size x y ->
   (∀c o,c≠z->c≠TO->c≠i1->c≠i2->s.heap.get? c=some o->h'.get? c=some o)->Q (some (.ref s.heap.objs.size)) {s with heap:=h'}):wpAny (model prog w) A (pyNext (.ref z)) Q E s:=by
 have tz:s.TypeIs (.ref z) "zip":=⟨_,hz,rfl⟩
 unfold pyNext;exact Vk (X3 (Wk (name:=Str.ofString "__next__") tz YG
  (WG YG tz F.entry_zip_next (FE (b1:=b1) (b2:=b2) D hz sv uj h1 h2 EF EC hx hy fun h' a1 a2 a3 a4 a5 a6=>Vv (hQ h' a1 a2 a3 a4 a5 a6)) (F.args_zip_next_1 _))))
theorem B8{b1 b2:Bool}{z TI TO i1 i2 l1 l2:_C}{k1 k2:Nat}{xs ys:Array _A}{a b:_A}{Q:_x->_B->Prop}(hh:A.handled=none)(D:ZipApart z TI TO i1 i2 l1 l2)(hz:IsZip s.heap z TI TO .none)(sv:IsPair s.heap TI (.ref i1) (.ref i2))(uj:IsPair s.heap TO a b)(h1:de b1 s.heap i1 l1 k1)(h2:de b2 s.heap i2 l2 k2)(EF:gP b1 s.heap l1 xs)(EC:gP b2 s.heap l2 ys)(he:xs[k1]?=none\/ys[k2]?=none)(hQ:∀h',(∀c o,c≠z->c≠TO->c≠i1->c≠i2->s.heap.get? c=some o->h'.get? c=some o)->Q none {s with heap:=h'}):wpAny (model prog w) A (pyNext (.ref z)) Q E s:=by
 have tz:s.TypeIs (.ref z) "zip":=⟨_,hz,rfl⟩
 unfold pyNext;refine Vk (X3 (Wk (name:=Str.ofString "__next__") tz YG
  (WG YG tz F.entry_zip_next (JF (b1:=b1) (b2:=b2) hh D hz sv uj h1 h2 EF EC he fun h' e hk he=>?_) (F.args_zip_next_1 _))))
 obtain⟨o,ho,hc⟩:=he;exact Vk (wpAny_isInstance (T:="StopIteration") (b:=true) ⟨o,ho,hc⟩ isSubtype_stop (Vv (hQ _ hk)))
abbrev OI(b1:Bool)(h:Heap)(l1:_C):Heap:=h.push (oR b1 l1)
abbrev OJ(b1 b2:Bool)(h:Heap)(l1 l2:_C):Heap:=(OI b1 h l1).push (oR b2 l2)
abbrev OK(b1 b2:Bool)(h:Heap)(l1 l2:_C):Heap:=(OJ b1 b2 h l1 l2).push {cls:=.type "tuple",data:=.seq #[.ref h.objs.size,.ref (OI b1 h l1).objs.size]}
abbrev OL(b1 b2:Bool)(h:Heap)(l1 l2:_C):Heap:=(OK b1 b2 h l1 l2).push {cls:=.type "tuple",data:=.seq #[.none,.none]}
abbrev LM(b1 b2:Bool)(h:Heap)(l1 l2:_C):Heap:=(OL b1 b2 h l1 l2).push {cls:=.type "zip",data:=.fields #[.none,.bool false,.bool false,.ref (OJ b1 b2 h l1 l2).objs.size,.ref (OK b1 b2 h l1 l2).objs.size]}
theorem B9(b1 b2:Bool)(l1 l2:_C)(xs ys:Array _A):
  Meets (Builtin.«zip.__new__» ⟨[.type "zip",.ref l1,.ref l2],[]⟩) (fun _ R s=>gP b1 s.heap l1 xs/\gP b2 s.heap l2 ys/\R (.ok (.ret (.ref (OL b1 b2 s.heap l1 l2).objs.size))) {s with heap:=LM b1 b2 s.heap l1 l2}):=
 .of_wp fun prog w A R s h=>by
  obtain⟨hp,g,d,tk,os⟩:=s;obtain⟨q1,q2,h⟩:=h;have QE:=sub_zip;have w1:gP b1 (Shared.heap ⟨hp,g,d,tk,os⟩) l1 xs:=q1;have w2:gP b2 (Shared.heap ⟨hp.push (oR b1 l1),g,d,tk,os⟩) l2 ys:=q2.keep fun o e=>Vm _ e
  wp_walk using oS w1,oS w2
  exact⟨_,rfl,h⟩
theorem B_{b1 b2:Bool}{l1 l2:_C}{xs ys:Array _A}{Q:_r}(EF:gP b1 s.heap l1 xs)(EC:gP b2 s.heap l2 ys)
  (h:∀ h',IsZip h' (s.heap.objs.size+4) (s.heap.objs.size+2) (s.heap.objs.size+3) .none->IsPair h' (s.heap.objs.size+2) (.ref s.heap.objs.size) (.ref (s.heap.objs.size+1))->IsPair h' (s.heap.objs.size+3) .none .none ->
   de b1 h' s.heap.objs.size l1 0->de b2 h' (s.heap.objs.size+1) l2 0->(∀c o,s.heap.get? c=some o->h'.get? c=some o)->Q (.ref (s.heap.objs.size+4)) {s with heap:=h'}):
  wpAny (model prog w) A (call (.type "zip") [.ref l1,.ref l2]) Q E s:=by
 refine callType_new F.called_zip (by decide) (F.typeCall_zip_2 _ _) (F.newCall_zip_2 _ _) (fun obj=>F.args_object_init_3 obj _ _) F.entry_zip_new (B9 b1 b2 l1 l2 xs ys) ⟨EF,EC,?_⟩;have z1:(OI b1 s.heap l1).objs.size=s.heap.objs.size+1:=Xa ..;have z2:(OJ b1 b2 s.heap l1 l2).objs.size=s.heap.objs.size+2:=by rw[Xa,z1]
 have z3:(OK b1 b2 s.heap l1 l2).objs.size=s.heap.objs.size+3:=by rw[Xa,z2]
 have z4:(OL b1 b2 s.heap l1 l2).objs.size=s.heap.objs.size+4:=by rw[Xa,z3]
 have g5:(LM b1 b2 s.heap l1 l2).get? (OL b1 b2 s.heap l1 l2).objs.size=some _:=VN _ rfl;have g4:(LM b1 b2 s.heap l1 l2).get? (OK b1 b2 s.heap l1 l2).objs.size=some _:=Vm _ (VN _ rfl);have g3:(LM b1 b2 s.heap l1 l2).get? (OJ b1 b2 s.heap l1 l2).objs.size=some _:=Vm _ (Vm _ (VN _ rfl));have g2:(LM b1 b2 s.heap l1 l2).get? (OI b1 s.heap l1).objs.size=some (oR b2 l2):=Vm _ (Vm _ (Vm _ (VN _ rfl)));have g1:(LM b1 b2 s.heap l1 l2).get? s.heap.objs.size=some (oR b1 l1):=Vm _ (Vm _ (Vm _ (Vm _ (VN _ rfl))));show _/\_;rw[z2,z3,z4]at g5;rw[z1,z2]at g3;rw[z3]at g4;rw[z1]at g2;rw[z4];exact⟨⟨_,g5,rfl⟩,h _ g5 g3 g4 (.new b1 g1) (.new b2 g2) fun c o x=>Vm _ (Vm _ (Vm _ (Vm _ (Vm _ x))))⟩
end
def wQ(b:Bool)(K:_u)(H:Hp)(a:_C)(xs:List V):Prop:=match b with|true=>j9 K H a xs|false=>iW K H a xs
theorem aH.LN{X:Cx}{af:_t}{σ:St}{H:Hp}{s:_B}{b:Bool}{a:_C}{xs:List V}(I:aH X af σ H s)(h:wQ b X.K H a xs):∃aD:_w,bg xs aD/\gP b s.heap a aD.toArray/\xs.length<=sizeLine:=by
 cases b with
 |true=>obtain⟨aD,r,p,z⟩:=I.list h;exact⟨aD,r,p.isList,z⟩
 |false=>obtain⟨aD,r,p,z⟩:=I.tuple h;exact⟨aD,r,p,z⟩
theorem aH.yn{X:Cx}{af:_t}{σ:St}{H:Hp}{s:_B}{b:Bool}{a:_C}{xs ys:List V}(I:aH X af σ H s)(h:wQ b X.K H a xs)(h':wQ b X.K H a ys):xs=ys:=by
 cases b with
 |true=>exact I.oF h h'
 |false=>exact I.jA h h'
theorem aH.HI{X:Cx}{af:_t}{σ:St}{H:Hp}{s:_B}{b:Bool}{l c:_C}{zs:List V}(I:aH X af σ H s)(hs:wQ b X.K H l zs)(f:lQ X af H c):l≠c:=by
 intro q;have mo:∀o,X.K.lookup l=some o->False:=fun o hk=>by
  have e:=I.mod.LI l o hk;rcases f.2.2.2.1 with z|z
  .exact I.ok.wy l o e (by rw[q];exact z)
  .exact absurd (VL (Vy (I.ok.bs l o e).1) (by rw[q];exact z)) (V5 _)
 have tr:∀o,H l=some o->False:=fun o e=>by rw[q,f.1]at e;cases e
 cases b with
 |true=>
  rcases(show j9 X.K H l zs from hs) with(r|⟨o,r⟩)|⟨o,aD,n,hk,_⟩
  .exact tr _ r
  .exact tr _ r
  .exact mo o hk
 |false=>
  rcases(show iW X.K H l zs from hs) with(r|⟨o,r⟩)|⟨o,aD,n,hk,_⟩
  .exact tr _ r
  .exact tr _ r
  .exact mo o hk
def Sq(K:_u)(b1 b2:Bool)(a b:_C):It:=
 ⟨fun i H=>∃xs ys x y,wQ b1 K H a xs/\wQ b2 K H b ys/\xs[i]?=some x/\ys[i]?=some y,
  fun i H v H'=>∃p x y,v=.ref p/\H p=none/\H'=upd H p (.tup [x,y])/\(∀xs,wQ b1 K H a xs->xs[i]?=some x)/\∀ys,wQ b2 K H b ys->ys[i]?=some y,
  fun i H=>∃xs ys,wQ b1 K H a xs/\wQ b2 K H b ys/\(xs.length<=i\/ys.length<=i)⟩
theorem B!{P:_E}{w:World}{K:_u}{elts:List Expr}{kt:Nat}{tp:Pos}{b1 b2:Bool}{z TI TO i1 i2:_C}(a b:_C)(ne:z≠TI/\z≠TO/\z≠i1/\z≠i2/\TI≠TO/\TI≠i1/\TI≠i2/\TO≠i1/\TO≠i2/\i1≠i2):
  Turn P w K (.Tuple elts kt tp) (Sq K b1 b2 a b) [z,TI,TO,i1,i2] z (fun i h=>IsZip h z TI TO .none/\IsPair h TI (.ref i1) (.ref i2)/\(∃u v,IsPair h TO u v)/\de b1 h i1 a i/\de b2 h i2 b i) where
 mem:=by simp
 obj:=fun i h⟨hz,sv,⟨u,v,uj⟩,h1,h2⟩c hc=>by
  have c9:c=z\/c=TI\/c=TO\/c=i1\/c=i2:=by simpa using hc
  rcases c9 with rfl|rfl|rfl|rfl|rfl
  .exact⟨_,hz,fun v q=>by have q':Data.fields _=Data.cell v:=q;cases q'⟩
  .exact⟨_,sv,fun v q=>by have q':Data.seq _ _=Data.cell v:=q;cases q'⟩
  .exact⟨_,uj,fun v q=>by have q':Data.seq _ _=Data.cell v:=q;cases q'⟩
  .obtain⟨o,n,vs,e,_,d⟩:=h1.there;exact⟨o,e,fun v q=>by rw[d]at q;cases q⟩
  .obtain⟨o,n,vs,e,_,d⟩:=h2.there;exact⟨o,e,fun v q=>by rw[d]at q;cases q⟩
 keep:=fun i h h'⟨hz,sv,⟨u,v,uj⟩,h1,h2⟩k=>⟨k z (by simp) _ hz,k TI (by simp) _ sv,⟨u,v,k TO (by simp) _ uj⟩,h1.keep fun o e=>k i1 (by simp) o e,h2.keep fun o e=>k i2 (by simp) o e⟩
 item:=by
  intro X hP hw hK hc i af s σ H E I hf st hg;subst hP hw hK;obtain⟨hz,sv,⟨u,v,uj⟩,h1,h2⟩:=st;obtain⟨xs,ys,x,y,sx,sy,ex,ey⟩:=hg;obtain⟨aD,rv,p,_⟩:=I.LN sx;obtain⟨d!,OM,p2,_⟩:=I.LN sy;obtain⟨ux,ON,rx⟩:=rv.get ex;obtain⟨uy,TN,ry⟩:=OM.get ey;obtain⟨n1,n2,n3,n4,n5,n6,n7,n8,n9,QF⟩:=ne;have fz:=hf z (by simp);have fL:∀{b:Bool}{l:_C}{zs:List V},wQ b X.K H l zs->∀c∈[z,TI,TO,i1,i2],l≠c:=fun{b l zs}hs c c9=>I.HI hs (hf c c9);have D:ZipApart z TI TO i1 i2 a b:=⟨n1.symm,n2.symm,n3.symm,n4.symm,n5,n6,n7,n8,n9,QF,fL sx z (by simp),fL sx TO (by simp),fL sx i1 (by simp),fL sx i2 (by simp),fL sy z (by simp),fL sy TO (by simp),fL sy i1 (by simp),fL sy i2 (by simp)⟩
  refine z8 (b1:=b1) (b2:=b2) D hz sv uj h1 h2 p p2 (x:=ux) (y:=uy) (by simpa using ON) (by simpa using TN) fun h' a1 a2 a3 a4 a5 a6=>⟨_,rfl,?_⟩
  have hT:H s.heap.objs.size=none:=I.b_.fresh (Vq _);have M_:∀c∈[z,TO,i1,i2],H c=none:=fun c c9=>(hf c (by simp at c9⊢;rcases c9 with q|q|q|q<;>simp[q])).1;have kp:∀c o,c ∉ [z,TO,i1,i2]->s.heap.get? c=some o->h'.get? c=some o:=fun c o c9 e=>a6 c o (fun q=>c9 (by simp[q])) (fun q=>c9 (by simp[q])) (fun q=>c9 (by simp[q])) (fun q=>c9 (by simp[q])) e;have uq:∀c o,H c=some o->c ∉ [z,TO,i1,i2]:=fun c o e c9=>by rw[M_ c c9]at e;cases e
  have b_:gZ X.prog X.w (upd H s.heap.objs.size (.tup [x,y])) h':=fun c o e=>by
   by_cases M!:c=s.heap.objs.size
   .subst M!;rw[cL]at e;cases e;exact⟨by show 2<=sizeLine;decide,[ux,uy],.cons rx (.cons ry .nil),_,a5,rfl,_,rfl⟩
   .rw[aZ M!]at e;refine(I.b_ c o e).kG (fun d v hd q=>kp d v ?_ q) (fun d q=>by rw[aZ (aV q hT)];exact q) fun d zs q=>by rw[aZ (aV q hT)];exact q
    rcases hd with q'|q'
    .rw[q'];exact uq c o e
    .exact uq d _ q'
  have un:Un (d9 X.stack) [z,TO,i1,i2] H (upd H s.heap.objs.size (.tup [x,y])) s.heap h':=
   ⟨fun c o e n _ c9=>kp c o c9 e,fun c o e n _ c9=>⟨o.slots,kp c o c9 e⟩,fun c o e n c9=>by rw[aZ (V2 (Vy e))];exact n,fun c o e c9=>⟨o,kp c o c9 e⟩,
    fun c zs e=>by rw[aZ (aV e hT)];exact e,fun c o u e=>by rw[aZ (aV e hT)];exact e,fun c ps e=>⟨#[],by rw[aZ (aV e hT),e];simp⟩⟩
  have I1:aH X af σ (upd H s.heap.objs.size (.tup [x,y])) {s with heap:=h'}:=I.qL rfl un b_ I.bare fun c c9=>by obtain⟨f0,f1,f2,f3,f4,f5⟩:=hf c (by simp at c9⊢;rcases c9 with q|q|q|q<;>simp[q]);exact⟨f3,f1,f4,f5⟩
  have QG:∀c∈[z,TI,TO,i1,i2],c≠s.heap.objs.size:=fun c c9 q=>by
   have uN:c<s.heap.objs.size:=by
    have JG:c=z\/c=TI\/c=TO\/c=i1\/c=i2:=by simpa using c9
    rcases JG with r|r|r|r|r
    .rw[r];exact Vy hz
    .rw[r];exact Vy sv
    .rw[r];exact Vy uj
    .obtain⟨o,_,_,e,_⟩:=h1.there;rw[r];exact Vy e
    .obtain⟨o,_,_,e,_⟩:=h2.there;rw[r];exact Vy e
   exact absurd uN (by rw[q];exact V5 _)
  have EG:∀c∈[z,TI,TO,i1,i2],(upd H s.heap.objs.size (.tup [x,y])) c=none:=fun c c9=>by rw[aZ (QG c c9)];exact(hf c c9).1
  refine wpAny_letOwnedTupleGo_zip a1 fun Bo QH sb=>?_;obtain⟨f0,f1,f2,f3,f4,f5⟩:=fz;have I2:aH X af σ (upd H s.heap.objs.size (.tup [x,y])) {s with heap:=Bo}:=I1.turned (s:={s with heap:=h'}) (t':=s.toks) (it:=z) (fun c o c9 e=>(sb.2 c c9).trans e) (EG z (by simp)) f1 f3 f4 f5;refine⟨.ref s.heap.objs.size,_,I2,rfl,⟨_,x,y,rfl,hT,rfl,fun zs hs=>by rw[I.yn hs sx];exact ex,fun zs hs=>by rw[I.yn hs sy];exact ey⟩,⟨QH,?_,⟨_,_,sb.extBut _ _ n2.symm a2⟩,a3.keep fun o e=>sb.extBut _ o n3.symm e,a4.keep fun o e=>sb.extBut _ o n4.symm e⟩,EG⟩;exact sb.extBut _ _ n1.symm (a6 _ _ n1.symm n5 n6 n7 sv)
 done:=by
  intro X hP hw hK hc i af s σ H E I hf st hg;subst hP hw hK;obtain⟨hz,sv,⟨u,v,uj⟩,h1,h2⟩:=st;obtain⟨xs,ys,sx,sy,hl⟩:=hg;obtain⟨aD,rv,p,_⟩:=I.LN sx;obtain⟨d!,OM,p2,_⟩:=I.LN sy;have l1:=rv.length;have l2:=OM.length;obtain⟨n1,n2,n3,n4,n5,n6,n7,n8,n9,QF⟩:=ne;have fL:∀{b:Bool}{l:_C}{zs:List V},wQ b X.K H l zs->∀c∈[z,TI,TO,i1,i2],l≠c:=fun{b l zs}hs c c9=>I.HI hs (hf c c9);have D:ZipApart z TI TO i1 i2 a b:=⟨n1.symm,n2.symm,n3.symm,n4.symm,n5,n6,n7,n8,n9,QF,fL sx z (by simp),fL sx TO (by simp),fL sx i1 (by simp),fL sx i2 (by simp),fL sy z (by simp),fL sy TO (by simp),fL sy i1 (by simp),fL sy i2 (by simp)⟩
  refine B8 (b1:=b1) (b2:=b2) (I.ok.hd hc) D hz sv uj h1 h2 p p2 (by rcases hl with q|q;exact .inl (by simp;lia);exact .inr (by simp;lia)) fun h' a6=>⟨rfl,?_⟩
  have M_:∀c∈[z,TO,i1,i2],H c=none:=fun c c9=>(hf c (by simp at c9⊢;rcases c9 with q|q|q|q<;>simp[q])).1;have kp:∀c o,c ∉ [z,TO,i1,i2]->s.heap.get? c=some o->h'.get? c=some o:=fun c o c9 e=>a6 c o (fun q=>c9 (by simp[q])) (fun q=>c9 (by simp[q])) (fun q=>c9 (by simp[q])) (fun q=>c9 (by simp[q])) e;have uq:∀c o,H c=some o->c ∉ [z,TO,i1,i2]:=fun c o e c9=>by rw[M_ c c9]at e;cases e
  have b_:gZ X.prog X.w H h':=fun c o e=>by
   refine(I.b_ c o e).kG (fun d v hd q=>kp d v ?_ q) (fun d q=>q) fun d zs q=>q;rcases hd with q'|q'
   .rw[q'];exact uq c o e
   .exact uq d _ q'
  have un:Un (d9 X.stack) [z,TO,i1,i2] H H s.heap h':=
   ⟨fun c o e n _ c9=>kp c o c9 e,fun c o e n _ c9=>⟨o.slots,kp c o c9 e⟩,fun c o e n c9=>n,fun c o e c9=>⟨o,kp c o c9 e⟩,fun c zs e=>e,fun c o u e=>e,fun c ps e=>⟨#[],by rw[e];simp⟩⟩
  exact I.qL rfl un b_ I.bare fun c c9=>by obtain⟨f0,f1,f2,f3,f4,f5⟩:=hf c (by simp at c9⊢;rcases c9 with q|q|q|q<;>simp[q]);exact⟨f3,f1,f4,f5⟩
 self:=fun _ _ _ _ _ st h=>wpAny_pyIter_zip st.1 h
section
variable{X:Cx}{elts:List Expr}{kt:Nat}{tp p pos:Pos}
def QI(K:_u)(b1 b2:Bool)(ta:TA):TI:=fun σ H R=>ta σ H fun vs H1=>∃a b,vs=[.ref a,.ref b]/\(∃xs,wQ b1 K H1 a xs)/\(∃ys,wQ b2 K H1 b ys)/\R (Sq K b1 b2 a b) H1
theorem JH(b1 b2:Bool){ea eb:Expr}{ta:TA}(hg:Gl X "zip")(hm:X.mg "zip" = none)(ha:PA X [ea,eb] ta)(hs:starEach [ea,eb] X.env=[(false,eval ea X.env),(false,eval eb X.env)]:=by rfl)(gA:starEach [eb] X.env=[(false,eval eb X.env)]:=by rfl):
  PI X (.Tuple elts kt tp) (.Call (.Name "zip" p) [ea,eb] [] pos) (QI X.K b1 b2 ta):=by
 intro af s σ H R I h;refine Call_ (iX I hg hm boot_zip (WQ (cf (ha pos af s σ H _ I h) fun us s1⟨vs,H1,I1,r1,q1⟩=>?_) (by rw[hs,gA]) (by rw[gA];rfl)));obtain⟨a,b,e,⟨xs,sx⟩,⟨ys,sy⟩,q⟩:=q1;subst e;obtain⟨u,u2,rfl,ru,TQ⟩:=vals2 r1;cases ru;cases TQ;obtain⟨aD,rv,p1,_⟩:=I1.LN sx;obtain⟨d!,OM,p2,_⟩:=I1.LN sy;refine B_ (b1:=b1) (b2:=b2) p1 p2 fun h' hz sv uj g1 g2 kp=>wpAny_pyIter_zip hz ?_;have I2:aH X af σ H1 {s1 with heap:=h'}:=I1.kept (t':=s1.toks) kp;refine⟨_,[s1.heap.objs.size+4,s1.heap.objs.size+2,s1.heap.objs.size+3,s1.heap.objs.size,s1.heap.objs.size+1],_,_,H1,rfl,I2,B! (b1:=b1) (b2:=b2) a b ?_,⟨hz,sv,⟨_,_,uj⟩,g1,g2⟩,fun c hc=>?_,q⟩
 .refine⟨?_,?_,?_,?_,?_,?_,?_,?_,?_,?_⟩<;>(intro z;have z':(_:Nat)=_:=z;lia)
 .have hle:s1.heap.objs.size<=c:=by
   have c9:c=s1.heap.objs.size+4\/c=s1.heap.objs.size+2\/c=s1.heap.objs.size+3\/c=s1.heap.objs.size\/c=s1.heap.objs.size+1:=by simpa using hc
   rcases c9 with r|r|r|r|r<;>(rw[r];first|exact Vq _|exact _g _ _)
  exact I1.zJ hle (I1.b_.fresh hle)
end
theorem cA.there{P:_E}{w:World}{H:Hp}{h:Heap}{a:_C}{o:HO}(x:cA P w H h a o):∃ob,h.get? a=some ob:=by
 cases o with
 |lst xs=>obtain⟨_,_,_,_,e⟩:=x;exact⟨_,e⟩
 |tup xs=>obtain⟨_,_,_,ob,e,_⟩:=x;exact⟨_,e⟩
 |dK aI=>obtain⟨_,_,_,_,o,_,_,e,_⟩:=x;exact⟨_,e⟩
 |dT aI=>obtain⟨_,_,_,_,o,_,_,e,_⟩:=x;exact⟨_,e⟩
 |set S n=>obtain⟨o,_,_,_,e,_⟩:=x;exact⟨_,e⟩
 |ins C dx fs=>obtain⟨_,_,_,e,_⟩:=x;exact⟨_,e⟩
 |own y=>obtain⟨_,e⟩:=x;exact⟨_,e⟩
 |xd fs=>obtain⟨_,⟨_,_,_,e,_⟩,_⟩:=x;exact⟨_,e⟩
 |Oy lo hi=>obtain⟨_,_,_,e⟩:=x;exact⟨_,e⟩
 |j6 ob u=>obtain⟨e,_⟩:=x;exact⟨_,e⟩
 |Ey ps=>exact⟨_,(show h.get? a=some _ from x)⟩
 |met f y=>exact⟨_,(show h.get? a=some _ from x)⟩
 |ext φ=>obtain⟨_,e,_⟩:=x;exact e
structure Sr(P:_E)(w:World)(l:List Env)(H H':Hp)(s s':_B)(ea:_C)(cls:_A):Prop where
 os:s'.os=s.os
 bare:AllBare s'.gens
 un:Un (d9 l) [] H H' s.heap s'.heap
 b_:gZ P w H' s'.heap
 fl:∃(B:Heap)(t:_C),Heap.FlyingW B l ea cls (.ref t) s'.heap/\(∀b,H' b≠none->∃o,B.get? b=some o)/\(∀b o,s.heap.get? b=some o->b ∉ d9 l->∃o',B.get? b=some o')
def jO(P:_E)(w:World):yb:=fun outer H s E e s'=>∃ea cls H',e=.ref ea/\Sr P w outer H H' s s' ea cls/\E cls none H'
section
variable{P:_E}{w:World}{K:_u}{mg:_s}{base:Heap}{N:_z}{qual:Str}{scope:Scope}{f:_C}{cd:_A}{A:_D}{outer:List Env}{s₀:_B}{H₀:Hp}{E:XK}
theorem i!{env:Env}{L:_C}(hf:env.frame=some L)(l:List Env):d9 (env::l)=L::d9 l:=by unfold d9;rw[WX,hf]
theorem z9{af:_t}{σ:St}{H:Hp}{s:_B}{h':Heap}{e:_C}{cls:_A}{vs:_w}(I:aH (gb (jO P w) P w K mg base N qual scope f cd A outer s₀ H₀ E) af σ H s)(hx:Heap.MadeExcOf s.heap h' e cls vs)(hE:E cls none H):(gb (jO P w) P w K mg base N qual scope f cd A outer s₀ H₀ E).xe (.ref e) {s with heap:=h'}:=by
 have Ez:=I.stack;have x?:=I.om;have JI:(A.deeper (envOfC qual scope s₀.heap.objs.size f cd)).frames=some (envOfC qual scope s₀.heap.objs.size f cd::outer):=I.ok.frames;have HJ:d9 (envOfC qual scope s₀.heap.objs.size f cd::outer)=s₀.heap.objs.size::d9 outer:=i! rfl outer;have HK:∀env∈(envOfC qual scope s₀.heap.objs.size f cd::outer),∀b,env.frame=some b->b∈d9 (envOfC qual scope s₀.heap.objs.size f cd::outer):=fun env he b hb=>Yr.mpr ⟨env,he,hb⟩;have Bp:∀b o,s₀.heap.get? b=some o->b ∉ d9 outer->b ∉ d9 (envOfC qual scope s₀.heap.objs.size f cd::outer):=fun b o q hb hm=>by
  rw[HJ]at hm;rcases VG.mp hm with z|z
  .exact absurd (Vy q) (by rw[z];exact V5 _)
  .exact hb z
 refine wpAny_leaves_madeW (base:=W.hideAll s.heap (d9 (envOfC qual scope s₀.heap.objs.size f cd::outer))) (h:=s.heap) JI rfl (fun b o q=>ZV _ q) (W.funFrames_hide Ez HK) hx fun Bo t fl _ _ up=>?_;have stays:∀b o,s.heap.get? b=some o->b ∉ d9 (envOfC qual scope s₀.heap.objs.size f cd::outer)->Bo.get? b=some o:=fun b o q hb=>fl.1 b o (XZ _ q hb);have uq:∀b u,H b=some u->b ∉ d9 (envOfC qual scope s₀.heap.objs.size f cd::outer):=fun b u q hb=>by rw[x? b hb]at q;cases q
 have slot:∀b o,s₀.heap.get? b=some o->H₀ b=none->b∈d9 outer->∃sl,Bo.get? b=some {o with slots:=sl}:=fun b o q n hb=>by obtain⟨sl,e1⟩:=I.base.slot b o q n hb (by intro z;cases z);obtain⟨_,o',mY,yo⟩:=Ez.mem (show b∈d9 (envOfC qual scope s₀.heap.objs.size f cd::outer) by rw[HJ];exact Vr _ hb);rw[e1]at mY;cases mY;obtain⟨ES,e2⟩:=up b _ (hx.keeps _ _ e1) yo;exact⟨ES,e2⟩
 have nil:∀b:_C,b ∉ (gb (jO P w) P w K mg base N qual scope f cd A outer s₀ H₀ E).ex:=fun b z=>by cases z
 refine⟨e,cls,H,rfl,⟨I.os,I.bare,⟨fun b o q n hb _=>stays b o (I.base.keep b o q n hb (nil b)) (Bp b o q hb),fun b o q n hb _=>slot b o q n hb,fun b o q n _=>I.base.free b o q n (nil b),fun b o q _=>?_,I.base.g0,I.base.gO,I.base.iS⟩,fun b u q=>?_,W.hideAll s.heap (d9 (envOfC qual scope s₀.heap.objs.size f cd::outer)),t,fl,fun b hb=>?_,fun b o q hb=>?_⟩,hE⟩
 .by_cases hb:b∈d9 outer
  .obtain⟨sl,e1⟩:=slot b o q (I.ok.Bx b hb) hb;exact⟨_,e1⟩
  .obtain⟨o',e1⟩:=I.base.there b o q (nil b);exact⟨o',stays b o' e1 (Bp b o q hb)⟩
 .refine(I.b_ b u q).kG (fun c v hc z=>stays c v z ?_) (fun _ z=>z) fun _ _ z=>z;rcases hc with z'|z'
  .rw[z'];exact uq b u q
  .exact uq c _ z'
 .cases q:H b with
  |none=>exact absurd q hb
  |some u=>
   obtain⟨o,e1⟩:=(I.b_ b u q).there;exact⟨o,XZ _ e1 (uq b u q)⟩
 .obtain⟨o',e1⟩:=I.base.there b o q (nil b);exact⟨o',XZ _ e1 (Bp b o q hb)⟩
theorem B?:Passes (jO P w) (gb (jO P w) P w K mg base N qual scope f cd A outer s₀ H₀ E) E:=by
 rintro af σ H s e s' I ⟨ea,cls,H',rfl,Z,hE⟩;obtain⟨B,t,fl,ct,cs⟩:=Z.fl;have JI:(A.deeper (envOfC qual scope s₀.heap.objs.size f cd)).frames=some (envOfC qual scope s₀.heap.objs.size f cd::outer):=I.ok.frames;have HJ:d9 (envOfC qual scope s₀.heap.objs.size f cd::outer)=s₀.heap.objs.size::d9 outer:=i! rfl outer;have Bp:∀b o,s₀.heap.get? b=some o->b ∉ d9 outer->b ∉ d9 (envOfC qual scope s₀.heap.objs.size f cd::outer):=fun b o q hb hm=>by
  rw[HJ]at hm;rcases VG.mp hm with z|z
  .exact absurd (Vy q) (by rw[z];exact V5 _)
  .exact hb z
 have sub:∀b,b∈d9 outer->b∈d9 (envOfC qual scope s₀.heap.objs.size f cd::outer):=fun b hb=>by rw[HJ];exact Vr _ hb
 have nil:∀b:_C,b ∉ (gb (jO P w) P w K mg base N qual scope f cd A outer s₀ H₀ E).ex:=fun b z=>by cases z
 refine wpAny_leaves_onW JI rfl fl fun Bo JJ up=>?_;have wU:∀b o,s'.heap.get? b=some o->(∃o',B.get? b=some o')->Bo.get? b=some o:=fun b o q⟨o',z⟩=>by have q':=fl.1 b o' z;rw[q]at q';cases q';exact JJ.1 b o z
 have slot:∀b o,s₀.heap.get? b=some o->H₀ b=none->b∈d9 outer->∃sl,Bo.get? b=some {o with slots:=sl}:=fun b o q n hb=>by obtain⟨sl,e1⟩:=I.base.slot b o q n hb (nil b);obtain⟨Jg,e2⟩:=Z.un.slot b _ e1 (I.base.free b o q n (nil b)) (sub b hb) (by intro z;cases z);obtain⟨_,o',mY,yo⟩:=fl.2.2.1.mem (sub b hb);rw[e2]at mY;cases mY;obtain⟨ES,e3⟩:=up b _ e2 yo;exact⟨ES,e3⟩
 refine⟨ea,cls,H',rfl,⟨Z.os.trans I.os,Z.bare,⟨fun b o q n hb _=>?_,fun b o q n hb _=>slot b o q n hb,fun b o q n _=>?_,fun b o q _=>?_,fun b xs q=>Z.un.g0 b xs (I.base.g0 b xs q),fun b o u q=>Z.un.gO b o u (I.base.gO b o u q),fun b ps q=>?_⟩,fun b u q=>?_,B,t,JJ,ct,fun b o q hb=>?_⟩,hE⟩
 .have e1:=I.base.keep b o q n hb (nil b);have n1:=I.base.free b o q n (nil b);have nf:=Bp b o q hb;exact wU b o (Z.un.keep b o e1 n1 nf (by intro z;cases z)) (cs b o e1 nf)
 .obtain⟨o',e1⟩:=I.base.there b o q (nil b);exact Z.un.free b o' e1 (I.base.free b o q n (nil b)) (by intro z;cases z)
 .by_cases hb:b∈d9 outer
  .obtain⟨sl,e1⟩:=slot b o q (I.ok.Bx b hb) hb;exact⟨_,e1⟩
  .obtain⟨o',e1⟩:=I.base.there b o q (nil b);obtain⟨o2,e2⟩:=cs b o' e1 (Bp b o q hb);exact⟨o2,JJ.1 b o2 e2⟩
 .obtain⟨m1,e1⟩:=I.base.iS b ps q;obtain⟨m2,e2⟩:=Z.un.iS b _ e1;exact⟨m1++m2,by rw[e2,Yi]⟩
 .refine(Z.b_ b u q).kG (fun c v hc z=>wU c v z (ct c ?_)) (fun _ z=>z) fun _ _ z=>z;rcases hc with z'|z'
  .rw[z',q];simp
  .rw[z'];simp
 .obtain⟨o',e1⟩:=I.base.there b o q (nil b);exact cs b o' e1 (Bp b o q hb)
theorem Fq.TR{x:Str}{st:Stmt}{fd:FuncData}{ps:_z}{k:Nat}{sp:Sp}(F:Fq K x qual st f fd)(S:gB N ps (bu st))(len:∀vs H Q E,sp vs H Q E->vs.length=ps.length)
  (BM:∀ (gn:_A) (A:_D) (outer:List Env) (s:_B) (H:Hp) (vs:List V) (Q:VK) (E:XK),fK k (A.deeper (envOfC qual (bu st) s.heap.objs.size f gn))->sp vs H Q E ->
   ∃t,jJ (gb (jO P w) P w K mg base N qual (bu st) f gn A outer s H E) (d0 st) t/\t {nx:=fun _ H'=>Q .fc H',rt:=Q} (start N vs) H):iY P w K mg base (jO P w) (k+1) f fd ps sp:=by
 obtain⟨oc,od,kV,doc,pm,an,gn,ct,EA,rfl,lk,BA⟩:=F.ex;exact MD lk BA S len fun A outer s H vs Q E hr HC=>BM gn A outer s H vs Q E hr HC
end
theorem z_{K:_u}{h:Heap}{mg:_s}{x:Str}{C:_C}{Ss:_w}{newId:String}(X:K.In h)(hb:mg x=some (.ref C))(q:W.excIn K C Ss newId=true):OwnCls x C Ss newId mg h:=by
 refine⟨hb,?_⟩;unfold W.excIn at q;split at q
 .rename_i dd cd sl ho;split at q
  .rename_i C' bm k0 k1 k2 k3 n k5 hm hs;simp only[Wy,WK,Xf]at q;obtain⟨⟨⟨⟨⟨rfl,rfl⟩,M?⟩,ht⟩,b_⟩,OO⟩:=q;obtain⟨nm,bs,mro,ns,qn,hd,sn,sub,ab,col,del⟩:=cd;dsimp only at hm M? b_ OO;subst hm M?;have TU:sl = #[k0,k1,k2,k3,some (.builtin n),k5]:=by obtain⟨l⟩:=sl;simp only at hs;rw[hs]
   subst TU;exact⟨bm,ns,nm,qn,bs,hd,sn,sub,ab,col,dd,k0,k1,k2,k3,k5,_,X _ _ ho,.of_isNs (W.isNs_of_in X b_),W.nsMap_none_of_in X b_ OO,W.tail_of_in X ht⟩
  .cases q
 .cases q
def JK(E:XK)(C:_C)(t:TA):TS:=fun _ σ H=>t σ H fun vs H1=>vs.length<=sizeLine/\E (.ref C) none H1
def Raises(X:Cx)(E:XK):Prop:=∀(af:_t)(σ:St)(H:Hp)(s:_B)(h':Heap)(e:_C)(cls:_A)(vs:_w),aH X af σ H s->Heap.MadeExcOf s.heap h' e cls vs->E cls none H->X.xe (.ref e) {s with heap:=h'}
theorem Ca{X:Cx}{E:XK}{x:Str}{C:_C}{B newId wV:String}{bm:_w}{np bT pos:Pos}{e₀:Expr}{rest:List Expr}{t:TA}(hX:Raises X E)(hc:X.calm=true)(hm:X.mg x=some (.ref C))(hq:W.excIn X.K C bm newId=true)(FB:ExcBaseFacts B newId wV bm)(hg:Gl X x)(ha:PA X (e₀::rest) t)(he:starEach (e₀::rest) X.env=(false,eval e₀ X.env)::starEach rest X.env:=by rfl)(kD:(backTo bT (starEach rest X.env)).any (·.1)=false:=by rfl)(hd:(x==("__debug__":Str))=false:=by decide):
  PS X (.Raise (some (.Call (.Name x np) (e₀::rest) [] bT)) none pos) (JK E C t):=by
 intro af s σ H D I h;obtain⟨tl,NS,nm,q,bs,hdct,sn,sub,ab,col,dd,k0,k1,k2,k3,k5,mN,hC,hN,OO,T⟩:=(z_ I.mod.LI hm hq).obj;refine wpAny_Raise_call_subT (C:=C) (nm:=nm) (q:=q) (N:=NS) (bs:=bs) (bm:=tl) (hdct:=hdct) (sn:=sn) (sub:=sub) (ab:=ab) (col:=col) (dd:=dd) (k0:=k0) (k1:=k1) (k2:=k2) (k3:=k3) (k5:=k5)
  FB (mN:=mN) (T.hasType FB.hasBase) (I.ok.hd hc) (by rw[he];show(false || (backTo bT (starEach rest X.env)).any (·.1))=false;rw[kD];rfl) OO (kH I hg hm ⟨rfl,?_⟩ hd)
 have hA:=ha bT af s σ H _ I h;rw[he]at hA⊢;exact YR (cf hA fun us s2⟨vs,H2,I2,r2,z,q2⟩=>⟨rfl,by rw[<-r2.length];exact z,I2.bk _ _ hC,hN.keeps I2.bk,T.keeps I2.bk,fun h' e OP=>hX af σ H2 s2 h' e _ _ I2 OP q2⟩)
structure DefX(X:Cx):Prop where
 fn:∀y,X.fn y=true
 Bv:X.stack=X.env::X.outer
 fr:X.env.frame=some X.env.locals
structure uO(X:Cx)(af:_t)(σ:St)(H:Hp)(s:_B)(ea:_C)(cls:_A):Prop where
 inv:aH X af σ H s
 fl:∃(B:Heap)(t:_C),Heap.FlyingW B X.stack ea cls (.ref t) s.heap/\(∀b,H b≠none->∃o,B.get? b=some o)/\(∀b o,X.s₀.heap.get? b=some o->b ∉ d9 X.stack->b ∉ X.ex->∃o',B.get? b=some o')/\(∀p∈X.pn++af,∃o',B.get? p.1=some o')/\(∀x c,X.env.cells.lookup x=some c->∃o,B.get? c=some o)
section
variable{X:Cx}{af:_t}{σ:St}{H H':Hp}{s s':_B}{ea:_C}{cls:_A}
theorem aH.FF(I:aH X af σ H s){b:_C}(h1:b≠X.env.locals)(h2:b ∉ X.fs):b ∉ d9 X.stack:=fun z=>(VG.mp (I.j8 b z)).elim h1 h2
theorem aH.slots{B h':Heap}(I:aH X af σ H s)(sB:B.StaysIn s.heap)(c1:∀b,H b≠none->∃o,B.get? b=some o)(c2:∀b o,X.s₀.heap.get? b=some o->b ∉ d9 X.stack->b ∉ X.ex->∃o',B.get? b=some o')(c3:∀p∈X.pn++af,∃o',B.get? p.1=some o')(c4:∀x c,X.env.cells.lookup x=some c->∃o,B.get? c=some o)(k1:B.StaysIn h')(k2:s.heap.UpToSlots h'):aH X af σ H {s with heap:=h'}:=by
 have wU:∀b o,s.heap.get? b=some o->(∃o',B.get? b=some o')->h'.get? b=some o:=fun b o q⟨o',z⟩=>by have q':=sB b o' z;rw[q]at q';cases q';exact k1 b o z
 have Iv:∀b o,X.s₀.heap.get? b=some o->b≠X.env.locals:=fun b o e=>V2 (VL (Vy e) I.ok.above);have slot:∀b o,X.s₀.heap.get? b=some o->X.H₀ b=none->b∈X.fs->b ∉ X.ex->∃sl,h'.get? b=some {o with slots:=sl}:=fun b o q n hb hx=>by obtain⟨sl,e1⟩:=I.base.slot b o q n hb hx;obtain⟨_,o',mY,yo⟩:=I.j7.mem hb;rw[e1]at mY;cases mY;obtain⟨ES,e2⟩:=k2 b _ e1 yo;exact⟨ES,e2⟩
 refine⟨I.ok,I.os,I.bare,⟨fun b o q n hb hx=>?_,slot,I.base.free,fun b o q hx=>?_,I.base.g0,I.base.gO,I.base.iS⟩,?_,fun x c e=>?_,I.free,I.g_,fun p hp=>?_,fun b u q=>?_,I.len⟩
 .exact wU b o (I.base.keep b o q n hb hx) (c2 b o q (I.FF (Iv b o q) hb) hx)
 .by_cases hb:b∈X.fs
  .obtain⟨sl,e1⟩:=slot b o q (I.ok.Bx b hb) hb hx;exact⟨_,e1⟩
  .obtain⟨o',e1⟩:=I.base.there b o q hx;exact⟨o',wU b o' e1 (c2 b o q (I.FF (Iv b o q) hb) hx)⟩
 .obtain⟨m,hn,hl⟩:=I.loc;refine⟨m,k2.ns hn,fun i x v e1 e2 e3=>?_⟩;obtain⟨u,r,l⟩:=hl i x v e1 e2 e3;refine⟨u,r,?_⟩;rcases l with l|⟨k,c,e,o,ho,hd⟩
  .exact .inl l
  .exact .inr ⟨k,c,e,o,wU c o ho (c4 x c e),hd⟩
 .obtain⟨v,o,ho,hd⟩:=I.cell x c e;exact⟨v,o,wU c o ho (c4 x c e),hd⟩
 .obtain⟨e,n,ne,nf,d⟩:=I.pin p hp;exact⟨wU p.1 p.2 e (c3 p hp),n,ne,nf,d⟩
 .refine(I.b_ b u q).kG (fun c v hc z=>wU c v z (c1 c ?_)) (fun _ z=>z) fun _ _ z=>z;rcases hc with z'|z'
  .rw[z',q];simp
  .rw[z'];simp
theorem uO.slots(J:uO X af σ H s ea cls):∃(B:Heap)(t:_C),Heap.FlyingW B X.stack ea cls (.ref t) s.heap/\H ea=none/\∀h',Heap.FlyingW B X.stack ea cls (.ref t) h'->s.heap.UpToSlots h'->uO X af σ H {s with heap:=h'} ea cls:=by
 obtain⟨B,t,fl,c1,c2,c3,c4⟩:=J.fl;refine⟨B,t,fl,?_,fun h' f2 up=>⟨J.inv.slots fl.1 c1 c2 c3 c4 f2.1 up,B,t,f2,c1,c2,c3,c4⟩⟩;cases q:H ea with
 |none=>rfl
 |some u=>
  obtain⟨o,e⟩:=c1 ea (by rw[q];simp);rw[fl.2.1]at e;cases e
theorem aH.flew(I:aH X af σ H s)(Bz:∀y,X.fn y=true)(Z:Sr X.prog X.w X.stack H H' s s' ea cls):uO X af σ H' s' ea cls:=by
 obtain⟨B,t,fl,ct,cs⟩:=Z.fl;have cl:∀x c,X.env.cells.lookup x=some c->c ∉ d9 X.stack:=fun x c e=>I.FF (I.Hw x c e) fun hb=>by obtain⟨_,o,ho,_⟩:=I.ok.j7.mem hb;exact absurd (VL (Vy ho) (I.ok.Iu x c (Bz x) e)) (V5 _)
 refine⟨I.qL Z.os Z.un Z.b_ Z.bare fun b z=>absurd z (by simp),B,t,fl,ct,fun b o q hb hx=>?_,fun p hp=>?_,fun x c e=>?_⟩
 .obtain⟨o',e1⟩:=I.base.there b o q hx;exact cs b o' e1 hb
 .obtain⟨e,n,ne,nf,d⟩:=I.pin p hp;exact cs p.1 p.2 e (I.FF ne nf)
 .obtain⟨v,o,ho,_⟩:=I.cell x c e;exact cs c o ho (cl x c e)
end
abbrev EK:=_A->_C->St->Hp->Prop
abbrev EH:=_A->_C->Hp->Prop
abbrev Na:=St->Hp->VK->EH->Prop
abbrev JL:=Ends->EK->St->Hp->Prop
def XP(X:Cx)(af:_t)(EX:EK)(e:_A)(s':_B):Prop:=∃ea cls σ' H',e=.ref ea/\uO X af σ' H' s' ea cls/\EX cls ea σ' H'
abbrev atS(σ:St)(EX:EH):EK:=fun cls ea σ' H'=>σ'=σ/\EX cls ea H'
def EI(X:Cx)(e:Expr)(t:Na):Prop:=
 ∀(af:_t)(s:_B)(σ:St)(H:Hp)(Q:VK)(EX:EH),aH X af σ H s->t σ H Q EX->wpAny (model X.prog X.w) X.A (eval e X.env) (EP X af σ Q) (XP X af (atS σ EX)) s
def FG(X:Cx)(st:Stmt)(t:JL):Prop:=
 ∀(af:_t)(s:_B)(σ:St)(H:Hp)(D:Ends)(EX:EK),aH X af σ H s->t D EX σ H->wpAny (model X.prog X.w) X.A (exec st X.env) (SP X af D) (XP X af EX) s
def z!(X:Cx)(st:List Stmt)(t:JL):Prop:=
 ∀(af:_t)(s:_B)(σ:St)(H:Hp)(D:Ends)(EX:EK),aH X af σ H s->t D EX σ H->wpAny (model X.prog X.w) X.A (execs st X.env) (SP X af D) (XP X af EX) s
section
variable{X:Cx}
theorem XP.at{af:_t}{σ:St}{EX:EK}{e:_A}{s':_B}(h:XP X af (atS σ fun cls ea H'=>EX cls ea σ H') e s'):XP X af EX e s':=by obtain⟨ea,cls,σ',H',rfl,J,rfl,q⟩:=h;exact⟨ea,cls,_,H',rfl,J,q⟩
def JM(sp:Sp)(t:TA):Na:=fun σ H Q EX=>t σ H fun vs H1=>sp vs H1 Q fun cls _ H'=>∀ea,EX cls ea H'
theorem Cb{k:Nat}{f:_C}{fd:FuncData}{ps:_z}{sp:Sp}{x:Str}{p pos:Pos}{e:Expr}{es:List Expr}{t:TA}(F:iY X.prog X.w X.K X.mg X.base (jO X.prog X.w) k f fd ps sp)(hr:fK k X.A)(hg:Gl X x)(hm:X.mg x=some (.ref f))(hk:PySem.W.keepIn X.K (.ref f)=true)(hb:Binds X.K fd ps [])(Bz:∀y,X.fn y=true)(ha:∀W,PA (X.oG W) (e::es) t)(oJ:(x==("__debug__":Str))=false:=by decide)(he:starEach (e::es) X.env=(false,eval e X.env)::starEach es X.env:=by rfl)(kD:(backTo pos (starEach es X.env)).any (·.1)=false:=by rfl):
  EI X (.Call (.Name x p) (e::es) [] pos) (JM sp t):=by
 intro af s σ H Q EX I h;refine XI (kH I hg hm ?_ oJ);refine ZY (h₀:=X.base) I.ok.mod.LI hk (cf (ha (XP X af (atS σ EX)) pos af s σ H _ (I.oG _) h) fun us s1⟨vs,H1,I1,r,q⟩=>⟨I1.rR.ql,?_⟩) he kD;have I2:=I1.rR;have hl:(us++[]).length=ps.length:=by rw[VS,<-r.length];exact F.len _ _ _ _ q
 have Su:=hb s1 us I2.ql hl;rw[VS]at Su;refine wpAny_call (X? (F.run X.A X.stack s1 H1 ⟨us,[]⟩ us vs Q _ hr I2.Mx Su r q) fun r s' hq=>?_);cases r with
 |error e=>
  obtain⟨ea,cls,H',rfl,Z,hE⟩:=hq;exact⟨ea,cls,σ,H',rfl,I2.flew Bz Z,rfl,hE ea⟩
 |ok fl=>
  cases fl with
  |ret u=>exact I2.after hq
  |next=>exact False.elim hq
  |brk=>exact False.elim hq
  |cont=>exact False.elim hq
theorem Cc{st:Stmt}{t:JL}(h1:FG X st t):z! X [st] t:=by
 intro af s σ H D EX I h;refine Zn (cf (h1 af s σ H D EX I h) fun f s1 q=>?_);cases f with
 |next=>exact XH q
 |ret v=>exact q
 |brk=>exact q
 |cont=>exact q
abbrev FH:=Ends->EK->_A->_C->St->Hp->Prop
def PH(X:Cx)(hs:List ExceptHandler)(th:FH):Prop:=
 ∀(af:_t)(s:_B)(σ:St)(H:Hp)(D:Ends)(EX:EK)(ea:_C)(cls:_A),uO X af σ H s ea cls->th D EX cls ea σ H->wpAny (model X.prog X.w) X.A (handleBy (.ref ea) X.env hs) (SP X af D) (XP X af EX) s
def JN:FH:=fun _ _ _ _ _ _=>False
theorem JO:PH X [] JN:=fun _ _ _ _ _ _ _ _ _ h=>h.elim
theorem FI{body:List Stmt}{h₀:ExceptHandler}{hs:List ExceptHandler}{tb:JL}{th:FH}{pos:Pos}(dx:DefX X)(hb:z! X body tb)(hh:PH X (h₀::hs) th):FG X (.Try body (h₀::hs) [] [] pos) (fun D EX σ H=>tb D (fun cls ea σ' H'=>th D EX cls ea σ' H') σ H):=by
 intro af s σ H D EX I h;refine wpAny_Try_except (V8 (hb af s σ H D _ I h) (fun f s1 q=>?_) fun e s1 q=>?_)
 .cases f with
  |next=>exact XH q
  |ret v=>exact q
  |brk=>exact q
  |cont=>exact q
 .obtain⟨ea,cls,σ',H',rfl,J,hE⟩:=q;obtain⟨B,t,fl,hn,go⟩:=J.slots;have JI:X.A.frames=some (X.env::X.outer):=by rw[<-dx.Bv];exact J.inv.ok.frames
  refine wpAny_looks_onW JI dx.fr (by rw[<-dx.Bv];exact fl) fun h4 held TV=>?_;refine wpAny_landsW held fun h5 TY TZ=>?_;exact hh af _ σ' H' D EX ea cls (go h5 (by rw[dx.Bv];exact TY) (TV.trans TZ)) hE
theorem JP{body:List Stmt}{h₀:ExceptHandler}{hs:List ExceptHandler}{tb:JL}{th:FH}{pos:Pos}(dx:DefX X)(hb:z! X body tb)(hh:PH X (h₀::hs) th):
  PS X (.Try body (h₀::hs) [] [] pos) (fun D σ H=>tb D (fun cls ea σ' H'=>th D (fun _ _ _ _=>False) cls ea σ' H') σ H):=by
 intro af s σ H D I h;exact V8 (FI dx hb hh af s σ H D (fun _ _ _ _=>False) I h) (fun _ _ q=>q) fun _ _⟨_,_,_,_,_,_,z⟩=>z.elim
def z?(X:Cx)(ea:_C)(oe:Obj):Cx:={X with A:=X.A.mark (some (.ref ea)),calm:=false,pn:=(ea,oe)::X.pn,xe:=fun _ _=>False}
theorem uO.z?{af:_t}{σ:St}{H:Hp}{s:_B}{ea:_C}{cls:_A}(J:uO X af σ H s ea cls):∃oe,s.heap.get? ea=some oe/\oe.cls=cls/\aH (L2.z? X ea oe) af σ H s:=by
 obtain⟨B,t,fl,hn,_⟩:=J.slots;obtain⟨oe,vs,he,hc,hd,_⟩:=fl.first;have I:=J.inv;have Bp:∀b∈d9 X.stack,ea≠b:=fun b hb z=>by obtain⟨_,o,ho,yo⟩:=I.stack.mem hb;rw[<-z,he]at ho;cases ho;exact yo vs hd
 have Iv:ea≠X.env.locals:=fun z=>by obtain⟨m,⟨o,es,ep,ho,Sv,_⟩,_⟩:=I.loc;rw[<-z,he]at ho;cases ho;rw[hd]at Sv;cases Sv
 have M6:ea ∉ X.fs:=fun hb=>by obtain⟨_,o,ho,yo⟩:=I.j7.mem hb;rw[he]at ho;cases ho;exact yo vs hd
 refine⟨oe,he,hc,⟨⟨I.ok.mod,I.ok.kind,I.ok.glob,I.ok.blt,I.ok.above,I.ok.inj,I.ok.has,I.ok.Iu,fun z=>(by cases z),I.ok.frames,I.ok.Bv,I.ok.Po,I.ok.bs,I.ok.Hv,I.ok.wy,I.ok.Bw,I.ok.j7,I.ok.Bx⟩,I.os,I.bare,I.base,I.loc,I.cell,I.free,I.g_,fun p hp=>?_,I.b_,I.len⟩⟩;rcases VG.mp (show p∈(ea,oe)::(X.pn++af)from hp)with z|z
 .rw[z];exact⟨he,hn,Iv,M6,fun v q=>by rw[hd]at q;cases q⟩
 .exact I.pin p z
theorem aH.Aa{af:_t}{σ:St}{H:Hp}{s:_B}{ea:_C}{oe:Obj}(ok:X.Ok)(I:aH (L2.z? X ea oe) af σ H s):aH X af σ H s:=
 ⟨ok,I.os,I.bare,I.base,I.loc,I.cell,I.free,I.g_,fun p hp=>I.pin p (Vr _ hp),I.b_,I.len⟩
theorem SP.Aa{af:_t}{ea:_C}{oe:Obj}{D:Ends}{f:Flow}{s':_B}(ok:X.Ok)(h:SP (L2.z? X ea oe) af D f s'):SP X af D f s':=by
 cases f with
 |next=>obtain⟨σ',H',I,q⟩:=h;exact⟨σ',H',I.Aa ok,q⟩
 |brk=>obtain⟨σ',H',I,q⟩:=h;exact⟨σ',H',I.Aa ok,q⟩
 |cont=>obtain⟨σ',H',I,q⟩:=h;exact⟨σ',H',I.Aa ok,q⟩
 |ret u=>obtain⟨v,σ',H',I,r,q⟩:=h;exact⟨v,σ',H',I.Aa ok,r,q⟩
end
theorem Ab{M:Model}{A:_D}{E:_r}{s:_B}{K:_u}{ea C:_C}{oe:Obj}{b:Bool}{Q:Bool->_B->Prop}(KX:K.In s.heap)(he:s.heap.get? ea=some oe)(h1:W.kitCls K oe.cls (.ref C)=some b)(h2:W.subIn K (.ref C) (.type "BaseException")=some true)(q:Q b s):
  wpAny M A (excMatches (.ref ea) (.ref C)) Q E s:=by
 obtain⟨l1,l2,l3⟩:=W.kit_cls (M:=M) KX h1;have l4:=W.looks_subIn (M:=M) KX h2;obtain⟨hp,g,d,tk,os⟩:=s;have lt:W.Looks M hp (isInstance (.ref C) (.type "tuple")) false:=l1.andThen (.of_pure tc_notTuple);have lx:W.Looks M hp (isExcClass (.ref C)) true:=fun A' Q' E' s' k z=>by unfold isExcClass;refine Vk (l2 A' _ E' s' k ?_);rw[Vo rfl];exact l4 A' Q' E' s' k z
 have ly:W.Looks M hp (typeOf (.ref ea)) oe.cls:=fun A' Q' E' s' k z=>by unfold typeOf;exact Vk (wpAny_loadPart (k _ _ he) (Vv z))
 unfold excMatches;refine Vk (lt.here ?_);simp only[Wc,WO,pure_bind,List.forIn_cons,List.forIn_nil,bind_assoc];refine Vk (lx.here ?_);simp only[Ya,Wc,WO,pure_bind];refine Vk (ly.here ?_);refine Vk (l3.here ?_);cases b with
 |true=>exact Vv q
 |false=>exact Vv q
section
variable{X:Cx}
def JQ(K:_u)(C:_C)(ts:_C->Obj->TS)(tr:FH):FH:=fun D EX cls ea σ H=>∃b,W.kitCls K cls (.ref C)=some b/\if b=true then ∀oe,oe.cls=cls->ts ea oe D σ H else tr D EX cls ea σ H
theorem FJ{x:Str}{C:_C}{np pos:Pos}{b₀:Stmt}{jP:List Stmt}{rest:List ExceptHandler}{ts:_C->Obj->TS}{tr:FH}(hg:Gl X x)(hm:X.mg x=some (.ref C))(hB:W.subIn X.K (.ref C) (.type "BaseException")=some true)(hs:∀ea oe,jJ (L2.z? X ea oe) (b₀::jP) (ts ea oe))(hr:PH X rest tr)(hd:(x==("__debug__":Str))=false:=by decide):PH X (.ExceptHandler (some (.Name x np)) none (b₀::jP) pos::rest) (JQ X.K C ts tr):=by
 intro af s σ H D EX ea cls J h;obtain⟨b,hb,h⟩:=h;obtain⟨oe,he,hc,I⟩:=J.z?;refine wpAny_handleBy_cons (codeAny_handlers_test (kH I (show Gl (L2.z? X ea oe) x from hg) (show(L2.z? X ea oe).mg x=some (.ref C)from hm) ?_ hd)) (by intro z;cases z);refine Ab I.ql he (by rw[hc];exact hb) hB ?_;cases b with
 |false=>exact hr af s σ H D EX ea cls J (by simpa using h)
 |true=>
  obtain⟨B,t,fl,hn,go⟩:=J.slots;refine codeAny_handlers_suite (lands_againW fl fun h6 T1 T2=>?_);have J6:=go h6 T1 T2;obtain⟨Sw,Ve,T3,I6⟩:=J6.z?;have h':∀oe,oe.cls=cls->ts ea oe D σ H:=by simpa using h
  exact V8 (hs ea Sw af _ σ H D I6 (h' Sw T3)) (fun f s2 q=>q.Aa J.inv.ok) fun _ _ z=>z.elim
end
section
variable{X:Cx}{tg:Expr}
end
section
variable{X:Cx}{tg:Expr}
end
section
variable{X:Cx}{elts:List Expr}{kt:Nat}{tp p pos:Pos}
end
section
variable{X:Cx}
end
structure nE where
 qual:Str
 params:Arguments
 body:Expr
 scope:Scope
 ps:_z
 x:Str
abbrev Fz(H:Hp)(a:_C)(o:Obj):Prop:=H a=some (.j6 o (.own 0))
structure OQ(L:nE)(H:Hp)(f c c':_C)(v:V):Prop where
 fn:∃pm QJ,Fz H f (W.kla_obj "<lambda>" L.qual L.params L.body L.scope [(L.x,c)] pm c' QJ)
 cd:∃oc vs t,Fz H c' oc/\oc.data=.fields vs/\vs[1]?=some (.str L.qual t)
 ce:∃oc u,Fz H c oc/\oc.data=.cell (some u)/\bD v u
def back(H H':Hp)(c:_C):Hp:=fun b=>if b=c then H b else H' b
section
variable{P:_E}{w:World}{K:_u}{mg:_s}{base:Heap}{L:nE}{f c c':_C}{A:_D}{outer:List Env}{s s1:_B}{H:Hp}{us:_w}{vs:List V}{v:V}
end
def Tab(H:Hp)(T:_C)(line col:Nat)(qual:Str):Prop:=H T=some (.Ey #[]) \/
 ∃c' oc vs t,H T=some (.Ey #[rawInt line,rawInt col,.ref c'])/\Fz H c' oc/\oc.data=.fields vs/\vs[1]?=some (.str qual t)
section
variable{X:Cx}{L:nE}{pos:Pos}{cd T c:_C}
end
theorem OQ.mono{L:nE}{H H':Hp}{f c c':_C}{v:V}(C:OQ L H f c c' v)(k:∀b o u,H b=some (.j6 o u)->H' b=some (.j6 o u)):OQ L H' f c c' v:=by obtain⟨⟨pm,QJ,h1⟩,⟨oc,vs,t,h2,h3⟩,⟨o2,u,h4,h5⟩⟩:=C;exact⟨⟨pm,QJ,k _ _ _ h1⟩,⟨oc,vs,t,k _ _ _ h2,h3⟩,⟨o2,u,k _ _ _ h4,h5⟩⟩
section
variable{X:Cx}{L:nE}{i:Nat}{x:Str}{f c c':_C}{v:V}{k:Nat}{e:Expr}{es:List Expr}{t:TA}{p pos:Pos}
end
section
variable{P:_E}{w:World}{H H':Hp}{c:_C}{o:Obj}{fs:_y}{h h':Heap}
end
section
variable{X:Cx}{CX:yb}{k:Nat}{f:_C}{fd:FuncData}{ps:_z}{sp:Sp}{x y:Str}{i:Nat}{c:_C}{p pos:Pos}{e:Expr}{es:List Expr}{t:TA}
end
end L2
namespace MN
open PySem.Spec L2
open PyProof.Rows hiding St
inductive av where
 |fc|bl (b:Bool)|int (i:Int)|str (x:Str)|tup (vs:List av)|loc (n:Nat)|exc (c:Str)|fn (L:nE) (u:av)|mt (vs:List av)
inductive aG where
 |lst (vs:List av)|JR (vs:List av)|mod (vs:List av)|dK (aI:List (dE×av))|dT (aI:List (List dE×av))|tab (x:Str) (line col:Nat) (qual:Str)|ins (c:Str) (fs:List (Str×av))|fd (aI:List (dE×av))
abbrev aj:=List aG
abbrev Env:=List (Option av)
inductive cX(α:Type) where
 |ok (a:α) (st:aj)|err (c:Str) (st:aj)|bad
inductive cg where
 |nx (μ:Env) (st:aj)|rt (v:av) (st:aj)|bk (μ:Env) (st:aj)|ct (μ:Env) (st:aj)|er (c:Str) (μ:Env) (st:aj)|bad
@[reducible] def cX.bind{α β:Type}(r:cX α)(k:α->aj->cX β):cX β:=match r with
 |.ok a st=>k a st
 |.err c st=>.err c st
 |.bad=>.bad
structure Wo where
 K:_u
 mg:Str->_x
 pn:_t
abbrev wo(X:Cx):Wo:=⟨X.K,X.mg,X.pn⟩
mutual
def Rl(K:_u)(ρ:_y)(H:Hp):av->V->Prop
 |.fc,v=>v=.fc
 |.bl b,v=>v=.bl b
 |.int i,v=>v=.int i
 |.str x,v=>v=.str x
 |.tup us,v=>∃a vs,v=.ref a/\H a=some (.tup vs)/\a_ K ρ H us vs
 |.mt us,v=>∃a vs,v=.ref a/\iW K H a vs/\a_ K ρ H us vs
 |.loc n,v=>∃a,v=.ref a/\ρ[n]?=some a
 |.exc _,_=>False
 |.fn _ _,_=>False
def a_(K:_u)(ρ:_y)(H:Hp):List av->List V->Prop
 |[],vs=>vs=[]
 |u::us,vs=>∃v r,vs=v::r/\Rl K ρ H u v/\a_ K ρ H us r
end
structure aF(ρ:_y)(H:Hp)(ρ':_y)(H':Hp):Prop where
 pre:ρ <+: ρ'
 tup:∀b xs,H b=some (.tup xs)->H' b=some (.tup xs)
 j6:∀b o u,H b=some (.j6 o u)->H' b=some (.j6 o u)
theorem aF.refl(ρ:_y)(H:Hp):aF ρ H ρ H:=⟨ZG ρ,fun _ _ h=>h,fun _ _ _ h=>h⟩
theorem aF.trans{ρ ρ1 ρ2:_y}{H H1 H2:Hp}(a:aF ρ H ρ1 H1)(b:aF ρ1 H1 ρ2 H2):aF ρ H ρ2 H2:=
 ⟨a.pre.trans b.pre,fun _ _ h=>b.tup _ _ (a.tup _ _ h),fun _ _ _ h=>b.j6 _ _ _ (a.j6 _ _ _ h)⟩
theorem aF.same{ρ:_y}{H H':Hp}(e:lU H H'):aF ρ H ρ H':=⟨ZG ρ,fun _ _ h=>e _ _ h,fun _ _ _ h=>e _ _ h⟩
theorem aF.snoc{ρ:_y}{H H':Hp}(p:_C)(e:lU H H'):aF ρ H (ρ++[p]) H':=⟨List.prefix_append ρ [p],fun _ _ h=>e _ _ h,fun _ _ _ h=>e _ _ h⟩
theorem aF.at_{ρ ρ':_y}{H H':Hp}(e:aF ρ H ρ' H'){n:Nat}{a:_C}(h:ρ[n]?=some a):ρ'[n]?=some a:=by
 obtain⟨t,rfl⟩:=e.pre;have hl:n<ρ.length:=by
  rcases V! n ρ.length with q|q
  .exact q
  .rw[V7 q]at h;cases h
 rw[V3 hl,h]
theorem aF.OR{K:_u}{ρ ρ':_y}{H H':Hp}(e:aF ρ H ρ' H'){a:_C}{xs:List V}(h:iW K H a xs):iW K H' a xs:=by
 rcases h with(h|⟨o,h⟩)|h
 .exact .inl (.inl (e.tup _ _ h))
 .exact .inl (.inr ⟨o,e.j6 _ _ _ h⟩)
 .exact .inr h
mutual
theorem Rl.mono{K:_u}{ρ ρ':_y}{H H':Hp}(e:aF ρ H ρ' H'):∀(u:av)(v:V),Rl K ρ H u v->Rl K ρ' H' u v
 |.fc,_,h=>h
 |.bl _,_,h=>h
 |.int _,_,h=>h
 |.str _,_,h=>h
 |.tup us,v,h=>by unfold Rl at h⊢;obtain⟨a,vs,h1,h2,h3⟩:=h;exact⟨a,vs,h1,e.tup _ _ h2,a_.mono e us vs h3⟩
 |.mt us,v,h=>by unfold Rl at h⊢;obtain⟨a,vs,h1,h2,h3⟩:=h;exact⟨a,vs,h1,e.OR h2,a_.mono e us vs h3⟩
 |.loc n,v,h=>by unfold Rl at h⊢;obtain⟨a,h1,h2⟩:=h;exact⟨a,h1,e.at_ h2⟩
 |.exc c,v,h=>h
 |.fn _ _,_,h=>h
theorem a_.mono{K:_u}{ρ ρ':_y}{H H':Hp}(e:aF ρ H ρ' H'):∀(us:List av)(vs:List V),a_ K ρ H us vs->a_ K ρ' H' us vs
 |[],_,h=>h
 |u::us,vs,h=>by unfold a_ at h⊢;obtain⟨v,r,h1,h2,h3⟩:=h;exact⟨v,r,h1,Rl.mono e u v h2,a_.mono e us r h3⟩
end
section
variable{K:_u}{ρ ρ':_y}{H H':Hp}
theorem a_.nil:a_ K ρ H [] []:=by unfold a_;rfl
theorem a_.cons{u:av}{us:List av}{v:V}{vs:List V}(h:Rl K ρ H u v)(hs:a_ K ρ H us vs):a_ K ρ H (u::us) (v::vs):=by unfold a_;exact⟨v,vs,rfl,h,hs⟩
theorem a_.cP{u:av}{us:List av}{vs:List V}(h:a_ K ρ H (u::us) vs):∃v r,vs=v::r/\Rl K ρ H u v/\a_ K ρ H us r:=by unfold a_ at h;exact h
theorem a_.fe{vs:List V}(h:a_ K ρ H [] vs):vs=[]:=by unfold a_ at h;exact h
theorem a_.length:∀{us:List av}{vs:List V},a_ K ρ H us vs->us.length=vs.length
 |[],vs,h=>by rw[h.fe];rfl
 |u::us,vs,h=>by obtain⟨v,r,rfl,_,h3⟩:=h.cP;rw[Vl,Vl,h3.length]
theorem a_.get:∀{us:List av}{vs:List V}{i:Nat}{u:av},a_ K ρ H us vs->us[i]?=some u->∃v,vs[i]?=some v/\Rl K ρ H u v
 |[],_,_,_,_,e=>by cases e
 |w::us,vs,0,u,h,e=>by obtain⟨v,r,rfl,h2,_⟩:=h.cP;cases e;exact⟨v,rfl,h2⟩
 |w::us,vs,i+1,u,h,e=>by obtain⟨v,r,rfl,_,h3⟩:=h.cP;exact a_.get (i:=i) h3 e
theorem a_.append:∀{us ws:List av}{vs xs:List V},a_ K ρ H us vs->a_ K ρ H ws xs->a_ K ρ H (us++ws) (vs++xs)
 |[],_,vs,_,h,k=>by rw[h.fe];exact k
 |u::us,ws,vs,xs,h,k=>by obtain⟨v,r,rfl,h2,h3⟩:=h.cP;exact a_.cons h2 (h3.append k)
theorem a_.drop:∀(n:Nat){us:List av}{vs:List V},a_ K ρ H us vs->a_ K ρ H (us.drop n) (vs.drop n)
 |0,_,_,h=>h
 |_+1,[],vs,h=>by rw[h.fe];exact a_.nil
 |n+1,u::us,vs,h=>by obtain⟨v,r,rfl,h2,h3⟩:=h.cP;exact a_.drop n h3
theorem a_.take:∀(n:Nat){us:List av}{vs:List V},a_ K ρ H us vs->a_ K ρ H (us.take n) (vs.take n)
 |0,_,_,_=>a_.nil
 |_+1,[],vs,h=>by rw[h.fe];exact a_.nil
 |n+1,u::us,vs,h=>by obtain⟨v,r,rfl,h2,h3⟩:=h.cP;exact a_.cons h2 (a_.take n h3)
theorem a_.set{u:av}{v:V}(hu:Rl K ρ H u v):∀(n:Nat){us:List av}{vs:List V},a_ K ρ H us vs->a_ K ρ H (us.set n u) (vs.set n v)
 |_,[],vs,h=>by rw[h.fe];exact a_.nil
 |0,w::us,vs,h=>by obtain⟨x,r,rfl,h2,h3⟩:=h.cP;exact a_.cons hu h3
 |n+1,w::us,vs,h=>by obtain⟨x,r,rfl,h2,h3⟩:=h.cP;exact a_.cons h2 (a_.set hu n h3)
theorem a_.one{u:av}{v:V}(h:Rl K ρ H u v):a_ K ρ H [u] [v]:=a_.cons h a_.nil
theorem a_.wq{u:av}{vs:List V}(h:a_ K ρ H [u] vs):∃v,vs=[v]/\Rl K ρ H u v:=by obtain⟨v,r,rfl,h2,h3⟩:=h.cP;rw[h3.fe];exact⟨v,rfl,h2⟩
theorem a_.Sx{u w:av}{vs:List V}(h:a_ K ρ H [u,w] vs):∃v x,vs=[v,x]/\Rl K ρ H u v/\Rl K ρ H w x:=by obtain⟨v,r,rfl,h2,h3⟩:=h.cP;obtain⟨x,rfl,h4⟩:=h3.wq;exact⟨v,x,rfl,h2,h4⟩
theorem a_.ints:∀(ns:_v),a_ K ρ H (ns.map av.int) (ns.map V.int)
 |[]=>a_.nil
 |n::ns=>a_.cons (by unfold Rl;rfl) (a_.ints ns)
theorem Rl.cE{i:Int}{v:V}(h:Rl K ρ H (.int i) v):v=.int i:=by unfold Rl at h;exact h
theorem Rl.sA{b:Bool}{v:V}(h:Rl K ρ H (.bl b) v):v=.bl b:=by unfold Rl at h;exact h
theorem Rl.fg{x:Str}{v:V}(h:Rl K ρ H (.str x) v):v=.str x:=by unfold Rl at h;exact h
theorem Rl.oU{v:V}(h:Rl K ρ H .fc v):v=.fc:=by unfold Rl at h;exact h
theorem Rl.Nc{us:List av}{v:V}(h:Rl K ρ H (.tup us) v):∃a vs,v=.ref a/\H a=some (.tup vs)/\a_ K ρ H us vs:=by unfold Rl at h;exact h
theorem Rl.gg{us:List av}{v:V}(h:Rl K ρ H (.tup us) v):∃a vs,v=.ref a/\iW K H a vs/\a_ K ρ H us vs:=let⟨a,vs,h1,h2,h3⟩:=h.Nc;⟨a,vs,h1,iW.of h2,h3⟩
theorem Rl.QK{us:List av}{v:V}(h:Rl K ρ H (.mt us) v):∃a vs,v=.ref a/\iW K H a vs/\a_ K ρ H us vs:=by unfold Rl at h;exact h
theorem Rl.Nd{us:List av}{a:_C}{vs:List V}(h:iW K H a vs)(r:a_ K ρ H us vs):Rl K ρ H (.mt us) (.ref a):=by unfold Rl;exact⟨a,vs,rfl,h,r⟩
theorem Rl.d?{n:Nat}{v:V}(h:Rl K ρ H (.loc n) v):∃a,v=.ref a/\ρ[n]?=some a:=by unfold Rl at h;exact h
theorem Rl.mkInt(i:Int):Rl K ρ H (.int i) (.int i):=by unfold Rl;rfl
theorem Rl.Ac(b:Bool):Rl K ρ H (.bl b) (.bl b):=by unfold Rl;rfl
theorem Rl.mkStr(x:Str):Rl K ρ H (.str x) (.str x):=by unfold Rl;rfl
theorem Rl.HL:Rl K ρ H .fc .fc:=by unfold Rl;rfl
theorem Rl.oV{us:List av}{a:_C}{vs:List V}(h:H a=some (.tup vs))(r:a_ K ρ H us vs):Rl K ρ H (.tup us) (.ref a):=by unfold Rl;exact⟨a,vs,rfl,h,r⟩
theorem Rl.Cd{n:Nat}{a:_C}(h:ρ[n]?=some a):Rl K ρ H (.loc n) (.ref a):=by unfold Rl;exact⟨a,rfl,h⟩
end
def gC{κ:Type}(K:_u)(ρ:_y)(H:Hp)(aI:List (κ×av))(iz:List (κ×V)):Prop:=aI.map (·.1)=iz.map (·.1)/\a_ K ρ H (aI.map (·.2)) (iz.map (·.2))
def i?:Option aG->Bool
 |some (.mod _)=>true
 |_=>false
def QL(K:_u)(a:_C)(vs:List V):Prop:=∃(o:Obj)(aD:Array _A)(n:Nat),K.lookup a=some o/\o.cls=.type "list" /\ o.dict=none/\o.data=.seq aD n/\aD.size<=sizeLine/\bg vs aD.toList
def gu(K:_u)(ρ:_y)(H:Hp):aG->_C->Prop
 |.lst us,a=>∃vs,H a=some (.lst vs)/\a_ K ρ H us vs
 |.JR us,a=>∃o vs,H a=some (.j6 o (.lst vs))/\a_ K ρ H us vs
 |.mod us,a=>∃vs,QL K a vs/\a_ K ρ H us vs
 |.dK aI,a=>∃iz,H a=some (.dK iz)/\gC K ρ H aI iz
 |.dT aI,a=>∃iz,H a=some (.dT iz)/\gC K ρ H aI iz
 |.fd aI,a=>∃o iz,H a=some (.j6 o (.dK iz))/\gC K ρ H aI iz
 |.tab x l c q,a=>(∃cd,W.tabIn K x=some (cd,a))/\Tab H a l c q
 |.ins c fs,a=>∃C dx gs,H a=some (.ins C dx gs)/\W.nsIn K mainGlobals c=some (some (.ref C))/\gC K ρ H fs gs
structure SR(K:_u)(ρ:_y)(st:aj)(H:Hp):Prop where
 len:ρ.length=st.length
 nd:∀(n m:Nat)a,ρ[n]?=some a->ρ[m]?=some a->i? st[n]?=false->i? st[m]?=false->n=m
 cell:∀(n:Nat)c a,st[n]?=some c->ρ[n]?=some a->gu K ρ H c a
theorem fh{α:Type}{l:List α}{n:Nat}{x:α}(h:l[n]?=some x):n<l.length:=by
 rcases V! n l.length with q|q
 .exact q
 .rw[V7 q]at h;cases h
section
variable{K:_u}{ρ ρ':_y}{H H':Hp}{st:aj}
theorem gu.there{c:aG}{a:_C}(h:gu K ρ H c a)(hn:i? (some c)=false):∃o,H a=some o/\∀xs,o≠.tup xs:=by
 cases c with
 |lst us=>obtain⟨vs,h,_⟩:=h;exact⟨_,h,fun xs e=>by cases e⟩
 |JR us=>obtain⟨o,vs,h,_⟩:=h;exact⟨_,h,fun xs e=>by cases e⟩
 |fd us=>obtain⟨o,vs,h,_⟩:=h;exact⟨_,h,fun xs e=>by cases e⟩
 |mod us=>cases hn
 |dK aI=>obtain⟨vs,h,_⟩:=h;exact⟨_,h,fun xs e=>by cases e⟩
 |dT aI=>obtain⟨vs,h,_⟩:=h;exact⟨_,h,fun xs e=>by cases e⟩
 |tab x l c q=>rcases h.2 with h|⟨_,_,_,_,h,_⟩<;>exact⟨_,h,fun xs e=>by cases e⟩
 |ins c fs=>obtain⟨_,_,_,h,_⟩:=h;exact⟨_,h,fun xs e=>by cases e⟩
theorem gu.mono{c:aG}{a:_C}(h:gu K ρ H c a)(e:aF ρ H ρ' H')(ha:i? (some c)=true\/H' a=H a):gu K ρ' H' c a:=by
 cases c with
 |mod us=>obtain⟨vs,h,r⟩:=h;exact⟨vs,h,a_.mono e _ _ r⟩
 |lst us=>rcases ha with ha|ha<;>first|cases ha;done|(obtain⟨vs,h,r⟩:=h;exact⟨vs,ha.trans h,a_.mono e _ _ r⟩)
 |JR us=>rcases ha with ha|ha<;>first|cases ha;done|(obtain⟨o,vs,h,r⟩:=h;exact⟨o,vs,ha.trans h,a_.mono e _ _ r⟩)
 |dK aI=>rcases ha with ha|ha<;>first|cases ha;done|(obtain⟨vs,h,r⟩:=h;exact⟨vs,ha.trans h,r.1,a_.mono e _ _ r.2⟩)
 |dT aI=>rcases ha with ha|ha<;>first|cases ha;done|(obtain⟨vs,h,r⟩:=h;exact⟨vs,ha.trans h,r.1,a_.mono e _ _ r.2⟩)
 |fd aI=>rcases ha with ha|ha<;>first|cases ha;done|(obtain⟨o,vs,h,r⟩:=h;exact⟨o,vs,ha.trans h,r.1,a_.mono e _ _ r.2⟩)
 |ins c fs=>rcases ha with ha|ha<;>first|cases ha;done|(obtain⟨C,dx,gs,h,hn,r⟩:=h;exact⟨C,dx,gs,ha.trans h,hn,r.1,a_.mono e _ _ r.2⟩)
 |tab x l c q=>
  refine⟨h.1,?_⟩;rcases ha with ha|ha
  .cases ha
  .rcases h.2 with h|⟨c',oc,vs,t,h,h2,h3⟩
   .exact .inl (ha.trans h)
   .exact .inr ⟨c',oc,vs,t,ha.trans h,e.j6 _ _ _ h2,h3⟩
theorem gu.grow{c:aG}{a:_C}(h:gu K ρ H c a)(e:aF ρ H ρ' H')(s:lU H H'):gu K ρ' H' c a:=by
 cases z:i? (some c) with
 |true=>exact h.mono e (.inl z)
 |false=>
  obtain⟨o,ho,_⟩:=h.there z;exact h.mono e (.inr (by rw[ho];exact s _ _ ho))
theorem SR.there(s:SR K ρ st H){n:Nat}{a:_C}(h:ρ[n]?=some a):∃c,st[n]?=some c/\gu K ρ H c a:=by
 have hn:=fh h;have OA:n<st.length:=by rw[<-s.len];exact hn
 exact⟨st[n],VE OA,s.cell n _ a (VE OA) h⟩
theorem SR.grow(s:SR K ρ st H)(e:lU H H'):SR K ρ st H':=
 ⟨s.len,s.nd,fun n c a h1 h2=>(s.cell n c a h1 h2).grow (aF.same e) e⟩
theorem SR.HM(s:SR K ρ st H){p:_C}(hp:H p=none){n:Nat}(h:ρ[n]?=some p)(hm:i? st[n]?=false):False:=by obtain⟨c,hc,k⟩:=s.there h;rw[hc]at hm;obtain⟨o,ho,_⟩:=k.there hm;rw[hp]at ho;cases ho
theorem dk{p:_C}{o:HO}(hp:H p=none):lU H (upd H p o):=lU.upd (lU.refl H) hp
theorem SR.alloc(s:SR K ρ st H){p:_C}{o:HO}{c:aG}(hp:H p=none)(k:gu K (ρ++[p]) (upd H p o) c p):SR K (ρ++[p]) (st++[c]) (upd H p o):=by
 have e:lU H (upd H p o):=dk hp;have at_:∀(n:Nat)(a:_C),(ρ++[p])[n]?=some a->(n<st.length/\ρ[n]?=some a/\(st++[c])[n]?=st[n]?)\/(n=st.length/\a=p/\(st++[c])[n]?=some c):=by
  intro n a h;rcases Z9 n st.length with q|q|q
  .rw[V3 (by rw[s.len];exact q)]at h;exact .inl ⟨q,h,V3 q⟩
  .subst q;rw[VJ (by rw[s.len];exact Vq _),s.len,Ws]at h;cases h;refine .inr ⟨rfl,rfl,?_⟩;rw[VJ (Vq _),Ws];rfl
  .rw[V7 (by rw[Vx,W4,s.len];lia)]at h;cases h
 refine⟨by rw[Vx,Vx,s.len];rfl,fun n m a h1 h2 m1 m2=>?_,fun n c' a h1 h2=>?_⟩
 .rcases at_ n a h1 with⟨q1,q2,q3⟩|⟨q1,q2,q3⟩<;>rcases at_ m a h2 with⟨r1,r2,r3⟩|⟨r1,r2,r3⟩
  .rw[q3]at m1;rw[r3]at m2;exact s.nd n m a q2 r2 m1 m2
  .subst r2;rw[q3]at m1;exact(s.HM hp q2 m1).elim
  .subst q2;rw[r3]at m2;exact(s.HM hp r2 m2).elim
  .rw[q1,r1]
 .rcases at_ n a h2 with⟨q1,q2,q3⟩|⟨q1,q2,q3⟩
  .rw[q3]at h1;exact(s.cell n c' a h1 q2).grow (aF.snoc p e) e
  .rw[q3]at h1;cases h1;subst q2;exact k
theorem aF.put{a:_C}{o o':HO}(h:H a=some o)(h1:∀xs,o≠.tup xs)(h2:∀x u,o≠.j6 x u):aF ρ H ρ (upd H a o'):=by
 refine⟨ZG ρ,fun b xs e=>?_,fun b x u e=>?_⟩
 .rw[aZ (fun z=>?_)]
  .exact e
  .subst z;rw[h]at e;exact h1 _ (V? e)
 .rw[aZ (fun z=>?_)]
  .exact e
  .subst z;rw[h]at e;exact h2 _ _ (V? e)
theorem SR.set(s:SR K ρ st H){n:Nat}{a:_C}{o o':HO}{c c':aG}(h:st[n]?=some c)(hc:i? (some c)=false)(c9:i? (some c')=false)(ha:ρ[n]?=some a)(ho:H a=some o)(h1:∀xs,o≠.tup xs)(h2:∀x u,o≠.j6 x u)(k:gu K ρ (upd H a o') c' a):SR K ρ (st.set n c') (upd H a o'):=by
 have hn:n<st.length:=fh h;have at_:∀(m:Nat),i? (st.set n c')[m]?=i? st[m]?:=fun m=>by
  by_cases z:m=n
  .subst z;rw[V_ hn,h,hc,c9]
  .rw[Wi (fun y=>z y.symm)]
 refine⟨by rw[W7];exact s.len,fun i m b q1 q2 m1 m2=>s.nd i m b q1 q2 (by rw[<-at_];exact m1) (by rw[<-at_];exact m2),fun m d b q1 q2=>?_⟩;by_cases z:m=n
 .subst z;rw[ha]at q2;cases q2;rw[V_ hn]at q1;cases q1;exact k
 .rw[Wi (fun y=>z y.symm)]at q1;have kb:=s.cell m d b q1 q2;cases zm:i? (some d) with
  |true=>exact kb.mono (aF.put ho h1 h2) (.inl zm)
  |false=>
   have hb:b≠a:=fun y=>z (s.nd m n a (by rw[<-y];exact q2) ha (by rw[q1];exact zm) (by rw[h];exact hc));exact kb.mono (aF.put ho h1 h2) (.inr (aZ hb))
end
def yp(W:Wo)(ρ:_y)(H:Hp)(u:av)(v:V):Prop:=match u with
 |.exc c=>∃a oe C,v=.ref a/\(a,oe)∈W.pn/\W.mg c=some (.ref C)/\oe.cls=.ref C
 |.fn L u=>∃f c c' cv,v=.ref f/\OQ L H f c c' cv/\Rl W.K ρ H u cv
 |u=>Rl W.K ρ H u v
theorem yp.mono{W:Wo}{ρ ρ':_y}{H H':Hp}{u:av}{v:V}(h:yp W ρ H u v)(e:aF ρ H ρ' H'):yp W ρ' H' u v:=by
 cases u with
 |exc c=>exact h
 |fn L u=>obtain⟨f,c,c',cv,h1,C,r⟩:=h;exact⟨f,c,c',cv,h1,C.mono (fun b o u q=>e.j6 b o u q),Rl.mono e _ _ r⟩
 |_=>exact Rl.mono e _ _ h
theorem yp.of{W:Wo}{ρ:_y}{H:Hp}{u:av}{v:V}(h:Rl W.K ρ H u v):yp W ρ H u v:=by
 cases u with
 |exc c=>unfold Rl at h;exact h.elim
 |fn L u=>unfold Rl at h;exact h.elim
 |_=>exact h
structure RS(W:Wo)(ρ:_y)(H:Hp)(μ:Env)(σ:St):Prop where
 len:μ.length=σ.length
 at_:∀(i:Nat)u,μ[i]?=some (some u)->∃v,σ[i]?=some (some v)/\yp W ρ H u v
section
variable{W:Wo}{ρ ρ':_y}{H H':Hp}{μ:Env}{σ:St}
theorem RS.mono(r:RS W ρ H μ σ)(e:aF ρ H ρ' H'):RS W ρ' H' μ σ:=⟨r.len,fun i u h=>let⟨v,h1,h2⟩:=r.at_ i u h;⟨v,h1,h2.mono e⟩⟩
theorem RS.QM(r:RS W ρ H μ σ)(i:Nat){u:av}{v:V}(h:yp W ρ H u v):RS W ρ H (μ.set i (some u)) (σ.set i (some v)):=by
 refine⟨by rw[W7,W7];exact r.len,fun j w e=>?_⟩;by_cases z:j=i
 .subst z;have hj:=fh e;rw[W7]at hj;rw[V_ hj]at e;cases e;exact⟨v,V_ (by rw[<-r.len];exact hj),h⟩
 .rw[Wi (fun y=>z y.symm)]at e⊢;exact r.at_ j w e
theorem RS.set(r:RS W ρ H μ σ)(i:Nat){u:av}{v:V}(h:Rl W.K ρ H u v):RS W ρ H (μ.set i (some u)) (σ.set i (some v)):=r.QM i (yp.of h)
end
abbrev ME:=Env->aj->cX av
abbrev MT:=Env->aj->cX Bool
abbrev MA:=Env->aj->cX (List av)
abbrev MB:=Env->aj->cg
def wR{α β:Type}(W:Wo)(E:XK)(R:_y->Hp->α->β->Prop)(ρ:_y)(H:Hp)(Q:β->Hp->Prop):cX α->Prop
 |.ok u ax=>∀ρ' H' v,aF ρ H ρ' H'->SR W.K ρ' ax H'->R ρ' H' u v->Q v H'
 |.err c ax=>∃C,W.mg c=some (.ref C)/\∀ρ' H',aF ρ H ρ' H'->SR W.K ρ' ax H'->E (.ref C) none H'
 |.bad=>False
theorem wR.mono{α β:Type}{W:Wo}{E:XK}{R:_y->Hp->α->β->Prop}{ρ ρ':_y}{H H':Hp}{Q:β->Hp->Prop}{r:cX α}(h:wR W E R ρ H Q r)(e:aF ρ H ρ' H'):wR W E R ρ' H' Q r:=by
 cases r with
 |ok u st=>exact fun ρ2 H2 v e2 s r=>h ρ2 H2 v (e.trans e2) s r
 |err c st=>obtain⟨C,h1,h2⟩:=h;exact⟨C,h1,fun ρ2 H2 e2 s=>h2 ρ2 H2 (e.trans e2) s⟩
 |bad=>exact h
theorem wR.pn{α β:Type}{K:_u}{mg:_s}{pn JS:_t}{E:XK}{R:_y->Hp->α->β->Prop}{ρ:_y}{H:Hp}{Q:β->Hp->Prop}{r:cX α}(h:wR ⟨K,mg,pn⟩ E R ρ H Q r):wR ⟨K,mg,JS⟩ E R ρ H Q r:=by cases r<;>exact h
def tG{α β:Type}(W:Wo)(E:XK)(R:_y->Hp->α->β->Prop)(m:Env->aj->cX α):St->Hp->(β->Hp->Prop)->Prop:=
 fun σ H Q=>∃μ ρ st,RS W ρ H μ σ/\SR W.K ρ st H/\wR W E R ρ H Q (m μ st)
abbrev RB:_y->Hp->Bool->Bool->Prop:=fun _ _ b c=>c=b
abbrev tE(X:Cx)(E:XK)(m:ME):TE:=tG (wo X) E (Rl X.K) m
abbrev tT(X:Cx)(E:XK)(m:MT):TT:=tG (wo X) E RB m
abbrev tL(X:Cx)(E:XK)(m:MA):TA:=tG (wo X) E (a_ X.K) m
theorem go{α β γ δ:Type}{W:Wo}{E:XK}{R1:_y->Hp->α->β->Prop}{R2:_y->Hp->γ->δ->Prop}{m:Env->aj->cX α}{k:α->aj->cX γ}{σ:St}{H:Hp}{Q:δ->Hp->Prop}{Q':β->Hp->Prop}(μ:Env)(ρ:_y)(st:aj)(rs:RS W ρ H μ σ)(sr:SR W.K ρ st H)(h:wR W E R2 ρ H Q ((m μ st).bind k))(c:∀u st1 ρ1 H1 x,aF ρ H ρ1 H1->SR W.K ρ1 st1 H1->R1 ρ1 H1 u x->wR W E R2 ρ1 H1 Q (k u st1)->Q' x H1):tG W E R1 m σ H Q':=by
 refine⟨μ,ρ,st,rs,sr,?_⟩;cases e:m μ st with
 |ok u st1=>
  rw[e]at h;intro ρ1 H1 x e1 bP r1;exact c u st1 ρ1 H1 x e1 bP r1 (wR.mono h e1)
 |err c st1=>rw[e]at h;exact h
 |bad=>rw[e]at h;exact h
section
variable{X:Cx}
theorem PE.imp{e:Expr}{t t':TE}(h:PE X e t)(k:∀σ H Q,t' σ H Q->t σ H Q):PE X e t':=fun af s σ H Q I q=>h af s σ H Q I (k σ H Q q)
theorem PT.imp{e:Expr}{t t':TT}(h:PT X e t)(k:∀σ H Q,t' σ H Q->t σ H Q):PT X e t':=fun af s σ H Q I q=>h af s σ H Q I (k σ H Q q)
theorem PW.imp{e:Expr}{t t':TT}(h:PW X e t)(k:∀σ H Q,t' σ H Q->t σ H Q):PW X e t':=fun w af s σ H Q I q=>h w af s σ H Q I (k σ H Q q)
theorem PA.imp{e:List Expr}{t t':TA}(h:PA X e t)(k:∀σ H Q,t' σ H Q->t σ H Q):PA X e t':=fun p af s σ H Q I q=>h p af s σ H Q I (k σ H Q q)
theorem PS.imp{e:Stmt}{t t':TS}(h:PS X e t)(k:∀D σ H,t' D σ H->t D σ H):PS X e t':=fun af s σ H D I q=>h af s σ H D I (k D σ H q)
theorem jJ.imp{e:List Stmt}{t t':TS}(h:jJ X e t)(k:∀D σ H,t' D σ H->t D σ H):jJ X e t':=fun af s σ H D I q=>h af s σ H D I (k D σ H q)
theorem PG.imp{e:Expr}{t t':TG}(h:PG X e t)(k:∀v σ H Q,t' v σ H Q->t v σ H Q):PG X e t':=fun af s σ H v u Q I r q=>h af s σ H v u Q I r (k v σ H Q q)
theorem dZ.imp{f:_A->_A->Sem _A}{t t':R2}(h:dZ X f t)(k:∀x y H Q,t' x y H Q->t x y H Q):dZ X f t':=fun af s σ H x y v u Q I rx ry q=>h af s σ H x y v u Q I rx ry (k x y H Q q)
theorem b6.imp{f:_A}{t t':List V->Hp->VK->Prop}(h:b6 X f t)(k:∀xs H Q,t' xs H Q->t xs H Q):b6 X f t':=fun af s σ H xs us Q I r q=>h af s σ H xs us Q I r (k xs H Q q)
theorem uh.imp{t t':R2}(h:uh X t)(k:∀x y H Q,t' x y H Q->t x y H Q):uh X t':=fun va sl af s σ H x y v u Q I rx ry q e=>h va sl af s σ H x y v u Q I rx ry (k x y H Q q) e
end
def Sy:av->Bool
 |.exc _=>true
 |.fn _ _=>true
 |_=>false
def aa(i:Nat):ME:=fun μ st=>match μ[i]? with
 |some (some v)=>if Sy v=true then .bad else .ok v st
 |_=>.bad
theorem yp.un{W:Wo}{ρ:_y}{H:Hp}{u:av}{v:V}(h:yp W ρ H u v)(n:¬ Sy u=true):Rl W.K ρ H u v:=by
 cases u with
 |exc c=>exact absurd rfl n
 |fn L u=>exact absurd rfl n
 |_=>exact h
def mC(v:av):ME:=fun _ st=>.ok v st
section
variable{X:Cx}{E:XK}{pos:Pos}
theorem sC(i:Nat){x:Str}(hN:X.N[i]?=some x:=by rfl)(hv:Oz X.env.scope x:=by first|exact Or.inl rfl|exact Or.inr (Or.inl rfl)|exact Or.inr (Or.inr rfl))(hd:(x==("__debug__":Str))=false:=by decide)(BA:(x==("__classdict__":Str))=false:=by decide):PE X (.Name x pos) (tE X E (aa i)):=by
 refine PE.imp (Iw hN hv hd BA) ?_;rintro σ H Q ⟨μ,ρ,st,rs,sr,h⟩;unfold aa at h;split at h
 .rename_i v e;obtain⟨w,e',r⟩:=rs.at_ i v e;split at h
  .exact h.elim
  .rename_i n;exact⟨w,e',h ρ H w (aF.refl _ _) sr (r.un n)⟩
 .exact h.elim
theorem yq{e:Expr}{v:V}{c:av}(h:PE X e (tC v))(r:∀ρ H,Rl X.K ρ H c v):PE X e (tE X E (mC c)):=by refine PE.imp h ?_;rintro σ H Q ⟨μ,ρ,st,rs,sr,h⟩;exact h ρ H v (aF.refl _ _) sr (r ρ H)
theorem JT{i j}:PE X (.Constant (.int i) j pos) (tE X E (mC (.int i))):=yq Iy fun _ _=>Rl.mkInt i
theorem Nf{b j}:PE X (.Constant (.bool b) j pos) (tE X E (mC (.bl b))):=yq Hz fun _ _=>Rl.Ac b
theorem JU{x j}:PE X (.Constant (.str x) j pos) (tE X E (mC (.str x))):=yq Iz fun _ _=>Rl.mkStr x
structure Glob(K:_u)(mg:_s)(x:Str)(c:av):Prop where
 at_:∃(u:_A)(v:V),mg x=some u/\bD v u/\∀ρ H,Rl K ρ H c v
theorem gD{x:Str}{c:av}(hg:Gl X x)(h:Glob X.K X.mg x c)(hd:(x==("__debug__":Str))=false:=by decide):PE X (.Name x pos) (tE X E (mC c)):=by obtain⟨u,v,h1,h2,h3⟩:=h.at_;exact yq (ET hg h1 h2 hd) h3
end
abbrev F2:=av->av->aj->cX av
def rM(W:Wo)(E:XK)(f:F2):R2:=fun x y H Q=>∃ρ st u w,SR W.K ρ st H/\Rl W.K ρ H u x/\Rl W.K ρ H w y/\wR W E (Rl W.K) ρ H Q (f u w st)
def ah(f:F2)(a b:ME):ME:=fun μ st=>(a μ st).bind fun x st1=>(b μ st1).bind fun y st2=>f x y st2
section
variable{X:Cx}{E:XK}{pos:Pos}{a b c:Expr}{ma mb mc:ME}{f g:F2}
theorem kM{σ:St}{H:Hp}{Q:VK}(h:tE X E (ah f ma mb) σ H Q):LJ (rM (wo X) E f) (tE X E ma) (tE X E mb) σ H Q:=by obtain⟨μ,ρ,st,rs,sr,h⟩:=h;refine go μ ρ st rs sr h fun u st1 ρ1 H1 x e1 bP r1 h1=>?_;refine go μ ρ1 st1 (rs.mono e1) bP h1 fun w st2 ρ2 H2 y e2 ir r2 h2=>?_;exact⟨ρ2,st2,u,w,ir,Rl.mono e2 _ _ r1,r2,h2⟩
theorem lZ{op:Operator}(ho:dZ X (binaryOp op) (rM (wo X) E f))(ha:PE X a (tE X E ma))(hb:PE X b (tE X E mb)):PE X (.BinOp a op b pos) (tE X E (ah f ma mb)):=
 PE.imp (Mo ho ha hb) fun _ _ _ h=>kM h
theorem j!{op:CmpOp}(ho:dZ X (compareOp op) (rM (wo X) E f))(ha:PE X a (tE X E ma))(hb:PE X b (tE X E mb))(hm:behindInMarks op b=false:=by first|exact BH _|(with_unfolding_all rfl)):PE X (.Compare a [op] [b] pos) (tE X E (ah f ma mb)):=
 PE.imp (E7 ho ha hb hm) fun _ _ _ h=>kM h
def a!(m:ME):MT:=fun μ st=>(m μ st).bind fun v ax=>match v with
 |.bl b=>.ok b ax
 |_=>.bad
theorem uP{m:ME}{σ:St}{H:Hp}{Q:Bool->Hp->Prop}(h:tT X E (a! m) σ H Q):tE X E m σ H fun x H'=>∃k,x=.bl k/\Q k H':=by
 obtain⟨μ,ρ,st,rs,sr,h⟩:=h;refine go μ ρ st rs sr h fun u st1 ρ1 H1 x e1 bP r1 h1=>?_;cases u with
 |bl b=>exact⟨b,r1.sA,h1 ρ1 H1 b (aF.refl _ _) bP rfl⟩
 |_=>exact h1.elim
theorem l6{op:CmpOp}(ho:dZ X (compareOp op) (rM (wo X) E f))(ha:PE X a (tE X E ma))(hb:PE X b (tE X E mb))(hm:behindInMarks op b=false:=by first|exact BH _|(with_unfolding_all rfl)):PT X (.Compare a [op] [b] pos) (tT X E (a! (ah f ma mb))):=
 PT.imp (E8 ho ha hb hm) fun σ H Q h=>by show LJ (rM (wo X) E f) (tE X E ma) (tE X E mb) σ H _;exact kM (uP h)
theorem JV{m:ME}(h:PE X a (tE X E m))(he:∀whole,isTrue a X.env whole=(do let v <- whole;standAt a.pos;holding [v] (truthy v)):=by intro _;rfl):PT X a (tT X E (a! m)):=
 PT.imp (IA h he) fun σ H Q h=>uP h
def sE(f g:F2)(a b c:ME):ME:=fun μ st=>(a μ st).bind fun x st1=>(b μ st1).bind fun y st2=>(f x y st2).bind fun z fP=>match z with
 |.bl true=>(c μ fP).bind fun w j?=>g y w j?
 |.bl false=>.ok (.bl false) fP
 |_=>.bad
def Tells(f:F2):Prop:=∀u w st,f u w st=.bad\/∃b,f u w st=.ok (.bl b) st
theorem wW(hf:Tells f){σ:St}{H:Hp}{Q:VK}(h:tE X E (sE f g ma mb mc) σ H Q):BI (rM (wo X) E f) (rM (wo X) E g) (tE X E ma) (tE X E mb) (tE X E mc) σ H Q:=by
 obtain⟨μ,ρ,st,rs,sr,h⟩:=h;refine go μ ρ st rs sr h fun u st1 ρ1 H1 x e1 bP r1 h1=>?_;refine go μ ρ1 st1 (rs.mono e1) bP h1 fun w st2 ρ2 H2 y e2 ir r2 h2=>?_;refine⟨ρ2,st2,u,w,ir,Rl.mono e2 _ _ r1,r2,?_⟩;rcases hf u w st2 with e|⟨k,e⟩
 .rw[e]at h2;exact h2.elim
 .rw[e]at h2⊢;intro ρ3 H3 z e3 nF rz;rw[rz.sA];refine⟨k,rfl,?_⟩;cases k with
  |true=>
   rw[Vo rfl];refine go μ ρ3 st2 (((rs.mono e1).mono e2).mono e3) nF (wR.mono h2 e3) fun v j? ρ4 H4 x4 e4 l7 r4 h4=>?_;exact⟨ρ4,j?,w,v,l7,Rl.mono (e3.trans e4) _ _ r2,r4,h4⟩
  |false=>
   rw[Vu VC];exact h2 ρ3 H3 _ e3 nF (Rl.Ac false)
theorem Ce{op I?:CmpOp}(hf:Tells f)(ho:dZ X (compareOp op) (rM (wo X) E f))(mY:dZ X (compareOp I?) (rM (wo X) E g))(ha:PE X a (tE X E ma))(hb:PE X b (tE X E mb))(hc:PE X c (tE X E mc))(hm:lastMarks [op,I?] [b,c]=false:=by with_unfolding_all rfl):PE X (.Compare a [op,I?] [b,c] pos) (tE X E (sE f g ma mb mc)):=
 PE.imp (BJ ho mY ha hb hc hm) fun _ _ _ h=>wW hf h
def kN(a b:ME):ME:=fun μ st=>(a μ st).bind fun x st1=>match x with
 |.bl true=>b μ st1
 |.bl false=>.ok (.bl false) st1
 |_=>.bad
def OS(a b:ME):ME:=fun μ st=>(a μ st).bind fun x st1=>match x with
 |.bl true=>.ok (.bl true) st1
 |.bl false=>b μ st1
 |_=>.bad
def Ad(a:ME):ME:=fun μ st=>(a μ st).bind fun x st1=>match x with
 |.bl b=>.ok (.bl (!b)) st1
 |_=>.bad
def jQ(a b:MT):MT:=fun μ st=>(a μ st).bind fun x st1=>match x with
 |true=>b μ st1
 |false=>.ok false st1
def eh(a b:MT):MT:=fun μ st=>(a μ st).bind fun x st1=>match x with
 |true=>.ok true st1
 |false=>b μ st1
def cm(a:MT):MT:=fun μ st=>(a μ st).bind fun x st1=>.ok (!x) st1
def uQ(t:MT)(a b:ME):ME:=fun μ st=>(t μ st).bind fun x st1=>match x with
 |true=>a μ st1
 |false=>b μ st1
variable{rest:List Expr}{tA EV:MT}
theorem JW{op}{m:ME}(h:PE X a (tE X E m)):PE X (.BoolOp op [a] pos) (tE X E m):=IE h
theorem JX(ha:PE X a (tE X E ma))(hb:PE X (.BoolOp .And (b::rest) pos) (tE X E mb)):PE X (.BoolOp .And (a::b::rest) pos) (tE X E (kN ma mb)):=by
 refine PE.imp (IF ha hb) ?_;rintro σ H Q ⟨μ,ρ,st,rs,sr,h⟩;refine go μ ρ st rs sr h fun u st1 ρ1 H1 x e1 bP r1 h1=>?_;cases u with
 |bl k=>
  refine⟨k,r1.sA,?_⟩;cases k with
  |true=>rw[Vo rfl];exact⟨μ,ρ1,st1,rs.mono e1,bP,h1⟩
  |false=>rw[Vu VC];exact h1 ρ1 H1 _ (aF.refl _ _) bP (Rl.Ac false)
 |_=>exact h1.elim
theorem Ng(ha:PE X a (tE X E ma))(hb:PE X (.BoolOp .Or (b::rest) pos) (tE X E mb)):PE X (.BoolOp .Or (a::b::rest) pos) (tE X E (OS ma mb)):=by
 refine PE.imp (L? ha hb) ?_;rintro σ H Q ⟨μ,ρ,st,rs,sr,h⟩;refine go μ ρ st rs sr h fun u st1 ρ1 H1 x e1 bP r1 h1=>?_;cases u with
 |bl k=>
  refine⟨k,r1.sA,?_⟩;cases k with
  |true=>rw[Vo rfl];exact h1 ρ1 H1 _ (aF.refl _ _) bP (Rl.Ac true)
  |false=>rw[Vu VC];exact⟨μ,ρ1,st1,rs.mono e1,bP,h1⟩
 |_=>exact h1.elim
theorem JY(ha:PE X a (tE X E ma)):PE X (.UnaryOp .Not a pos) (tE X E (Ad ma)):=by
 refine PE.imp (IG ha) ?_;rintro σ H Q ⟨μ,ρ,st,rs,sr,h⟩;refine go μ ρ st rs sr h fun u st1 ρ1 H1 x e1 bP r1 h1=>?_;cases u with
 |bl k=>exact⟨k,r1.sA,h1 ρ1 H1 _ (aF.refl _ _) bP (Rl.Ac _)⟩
 |_=>exact h1.elim
theorem FK(ha:PT X a (tT X E tA)):PW X (.BoolOp .And [a] pos) (tT X E tA):=EW ha
theorem JZ(ha:PT X a (tT X E tA)):PW X (.BoolOp .Or [a] pos) (tT X E tA):=IB ha
theorem J0(ha:PT X a (tT X E tA))(hb:PW X (.BoolOp .And (b::rest) pos) (tT X E EV)):PW X (.BoolOp .And (a::b::rest) pos) (tT X E (jQ tA EV)):=by
 refine PW.imp (IC ha hb) ?_;rintro σ H Q ⟨μ,ρ,st,rs,sr,h⟩;refine go (R1:=RB) μ ρ st rs sr h fun u st1 ρ1 H1 x e1 bP r1 h1=>?_;cases r1;cases u with
 |true=>rw[Vo rfl];exact⟨μ,ρ1,st1,rs.mono e1,bP,h1⟩
 |false=>rw[Vu VC];exact h1 ρ1 H1 _ (aF.refl _ _) bP rfl
theorem Nh(ha:PT X a (tT X E tA))(hb:PW X (.BoolOp .Or (b::rest) pos) (tT X E EV)):PW X (.BoolOp .Or (a::b::rest) pos) (tT X E (eh tA EV)):=by
 refine PW.imp (L9 ha hb) ?_;rintro σ H Q ⟨μ,ρ,st,rs,sr,h⟩;refine go (R1:=RB) μ ρ st rs sr h fun u st1 ρ1 H1 x e1 bP r1 h1=>?_;cases r1;cases u with
 |true=>rw[Vo rfl];exact h1 ρ1 H1 _ (aF.refl _ _) bP rfl
 |false=>rw[Vu VC];exact⟨μ,ρ1,st1,rs.mono e1,bP,h1⟩
theorem QN{e:Expr}{t:MT}(h:PW X e (tT X E t)):PT X e (tT X E t):=h.pt
theorem J1(ha:PT X a (tT X E tA)):PT X (.UnaryOp .Not a pos) (tT X E (cm tA)):=by refine PT.imp (ID ha) ?_;rintro σ H Q ⟨μ,ρ,st,rs,sr,h⟩;refine go (R1:=RB) μ ρ st rs sr h fun u st1 ρ1 H1 x e1 bP r1 h1=>?_;cases r1;exact h1 ρ1 H1 _ (aF.refl _ _) bP rfl
theorem Ni(hc:PT X c (tT X E tA))(ha:PE X a (tE X E ma))(hb:PE X b (tE X E mb)):PE X (.IfExp c a b pos) (tE X E (uQ tA ma mb)):=by
 refine PE.imp (BB hc ha hb) ?_;rintro σ H Q ⟨μ,ρ,st,rs,sr,h⟩;refine go (R1:=RB) μ ρ st rs sr h fun u st1 ρ1 H1 x e1 bP r1 h1=>?_;cases r1;cases u with
 |true=>rw[Vo rfl];exact⟨μ,ρ1,st1,rs.mono e1,bP,h1⟩
 |false=>rw[Vu VC];exact⟨μ,ρ1,st1,rs.mono e1,bP,h1⟩
end
def ao:MA:=fun _ st=>.ok [] st
def ae(a:ME)(r:MA):MA:=fun μ st=>(a μ st).bind fun x st1=>(r μ st1).bind fun xs st2=>.ok (x::xs) st2
def fT(a:MA):ME:=fun μ st=>(a μ st).bind fun xs st1=>if xs.length<=sizeLine then .ok (.tup xs) st1 else .bad
def bK(a:MA):ME:=fun μ st=>(a μ st).bind fun xs st1=>if xs.length<=sizeLine then .ok (.loc st1.length) (st1++[.lst xs])else .bad
abbrev FN:=List av->aj->cX av
def ak(f:FN)(a:MA):ME:=fun μ st=>(a μ st).bind fun xs st1=>f xs st1
def J2(W:Wo)(f:FN):Sp:=fun vs H Q E=>∃us ρ st,a_ W.K ρ H us vs/\SR W.K ρ st H/\wR W E (Rl W.K) ρ H Q (f us st)
def cM(W:Wo)(E:XK)(f:FN):List V->Hp->VK->Prop:=fun xs H Q=>∃ρ st us,SR W.K ρ st H/\a_ W.K ρ H us xs/\wR W E (Rl W.K) ρ H Q (f us st)
section
variable{X:Cx}{E:XK}{pos p:Pos}{e:Expr}{es:List Expr}{m:ME}{ms:MA}{f:FN}{x:Str}
theorem Cf:PA X [] (tL X E ao):=PA.imp wG fun σ H Q⟨μ,ρ,st,rs,sr,h⟩=>h ρ H [] (aF.refl _ _) sr a_.nil
theorem oq(ha:PE X e (tE X E m))(hr:PA X es (tL X E ms))(hs:starEach (e::es) X.env=(false,eval e X.env)::starEach es X.env:=by rfl):PA X (e::es) (tL X E (ae m ms)):=by refine PA.imp (oo ha hr hs) ?_;rintro σ H Q ⟨μ,ρ,st,rs,sr,h⟩;refine go μ ρ st rs sr h fun u st1 ρ1 H1 x e1 bP r1 h1=>?_;refine go (R1:=a_ X.K) μ ρ1 st1 (rs.mono e1) bP h1 fun w st2 ρ2 H2 y e2 ir r2 h2=>?_;exact h2 ρ2 H2 _ (aF.refl _ _) ir (a_.cons (Rl.mono e2 _ _ r1) r2)
theorem J3{k}(h:PA X es (tL X E ms)):PE X (.Tuple es k pos) (tE X E (fT ms)):=by
 refine PE.imp (Jb h) ?_;rintro σ H Q ⟨μ,ρ,st,rs,sr,h⟩;refine go (R1:=a_ X.K) μ ρ st rs sr h fun us st1 ρ1 H1 xs e1 bP r1 h1=>?_;by_cases hz:us.length<=sizeLine
 .rw[Vo hz]at h1;refine⟨by rw[<-r1.length];exact hz,fun p hp=>?_⟩;have s:=dk (o:=.tup xs) hp;exact h1 ρ1 _ _ (aF.same s) (bP.grow s) (Rl.oV cL (a_.mono (aF.same s) _ _ r1))
 .rw[Vu hz]at h1;exact h1.elim
theorem eO{K:_u}{ρ:_y}{st:aj}{H:Hp}{us:List av}{xs:List V}(sr:SR K ρ st H)(r:a_ K ρ H us xs){p:_C}(hp:H p=none):
  aF ρ H (ρ++[p]) (upd H p (.lst xs))/\SR K (ρ++[p]) (st++[.lst us]) (upd H p (.lst xs))/\Rl K (ρ++[p]) (upd H p (.lst xs)) (.loc st.length) (.ref p):=by
 have s:=dk (o:=.lst xs) hp;refine⟨aF.snoc p s,sr.alloc hp ⟨xs,cL,a_.mono (aF.snoc p s) _ _ r⟩,Rl.Cd ?_⟩;rw[<-sr.len,VJ (Vq _),Ws];rfl
theorem J4(h:PA X es (tL X E ms)):PE X (.List es pos) (tE X E (bK ms)):=by
 refine PE.imp (Jc h) ?_;rintro σ H Q ⟨μ,ρ,st,rs,sr,h⟩;refine go (R1:=a_ X.K) μ ρ st rs sr h fun us st1 ρ1 H1 xs e1 bP r1 h1=>?_;by_cases hz:us.length<=sizeLine
 .rw[Vo hz]at h1;refine⟨by rw[<-r1.length];exact hz,fun p hp=>?_⟩;obtain⟨a,b,c⟩:=eO bP r1 hp;exact h1 _ _ _ a b c
 .rw[Vu hz]at h1;exact h1.elim
theorem FL{k:Nat}{fa:_C}{fd:FuncData}{ps:_z}{CX:yb}(F:iY X.prog X.w X.K X.mg X.base CX k fa fd ps (J2 ⟨X.K,X.mg,[]⟩ f))(hr:fK k X.A)(hg:Gl X x)(hm:X.mg x=some (.ref fa))(hk:W.keepIn X.K (.ref fa)=true)(hb:Binds X.K fd ps [])(hx:Passes CX X E)(ha:PA X (e::es) (tL X E ms))(oJ:(x==("__debug__":Str))=false:=by decide)(he:starEach (e::es) X.env=(false,eval e X.env)::starEach es X.env:=by rfl)(kD:(backTo pos (starEach es X.env)).any (·.1)=false:=by rfl):
  PE X (.Call (.Name x p) (e::es) [] pos) (tE X E (ak f ms)):=by
 refine PE.imp (E! F hr hg hm hk hb .nil hx ha oJ he kD) ?_;rintro σ H Q ⟨μ,ρ,st,rs,sr,h⟩;refine go (R1:=a_ X.K) μ ρ st rs sr h fun us st1 ρ1 H1 xs e1 bP r1 h1=>?_;rw[VS];exact⟨us,ρ1,st1,r1,bP,wR.pn h1⟩
theorem kO{id:String}(hc:b6 X (.builtin id) (cM (wo X) E f))(hg:Gl X x)(hm:X.mg x=none)(hv:bootBuiltins x=some (.builtin id))(ha:PA X (e::es) (tL X E ms))(hn:x ≠ "__name__":=by decide)(oJ:(x==("__debug__":Str))=false:=by decide)(he:starEach (e::es) X.env=(false,eval e X.env)::starEach es X.env:=by rfl)(kD:(backTo pos (starEach es X.env)).any (·.1)=false:=by rfl):PE X (.Call (.Name x p) (e::es) [] pos) (tE X E (ak f ms)):=by refine PE.imp (uz hc hg hm hv ha hn oJ he kD) ?_;rintro σ H Q ⟨μ,ρ,st,rs,sr,h⟩;exact go (R1:=a_ X.K) μ ρ st rs sr h fun us st1 ρ1 H1 xs e1 bP r1 h1=>⟨ρ1,st1,us,bP,r1,h1⟩
theorem jC{T:String}(hc:b6 X (.type T) (cM (wo X) E f))(hg:Gl X x)(hm:X.mg x=none)(hv:bootBuiltins x=some (.type T))(ha:PA X (e::es) (tL X E ms))(hn:x ≠ "__name__":=by decide)(oJ:(x==("__debug__":Str))=false:=by decide)(he:starEach (e::es) X.env=(false,eval e X.env)::starEach es X.env:=by rfl)(kD:(backTo pos (starEach es X.env)).any (·.1)=false:=by rfl):PE X (.Call (.Name x p) (e::es) [] pos) (tE X E (ak f ms)):=by refine PE.imp (zS hc hg hm hv ha hn oJ he kD) ?_;rintro σ H Q ⟨μ,ρ,st,rs,sr,h⟩;exact go (R1:=a_ X.K) μ ρ st rs sr h fun us st1 ρ1 H1 xs e1 bP r1 h1=>⟨ρ1,st1,us,bP,r1,h1⟩
end
section
variable{X:Cx}{E:XK}{pos:Pos}{a b:Expr}{ma mb:ME}{f:F2}
theorem HN(hr:uh X (rM (wo X) E f))(ha:PE X a (tE X E ma))(hb:PE X b (tE X E mb))(hs:rX b:=by exact fun _ _=>rfl):PE X (.Subscript a b pos) (tE X E (ah f ma mb)):=
 PE.imp (ML hr ha hb hs) fun _ _ _ h=>kM h
end
def wS(W:Wo)(E:XK)(ρ:_y)(H:Hp)(D:Ends):cg->Prop
 |.nx μ st=>∀ρ' H' σ',aF ρ H ρ' H'->SR W.K ρ' st H'->RS W ρ' H' μ σ'->D.nx σ' H'
 |.rt v st=>∀ρ' H' x,aF ρ H ρ' H'->SR W.K ρ' st H'->Rl W.K ρ' H' v x->D.rt x H'
 |.bk μ st=>∀ρ' H' σ',aF ρ H ρ' H'->SR W.K ρ' st H'->RS W ρ' H' μ σ'->D.bk σ' H'
 |.ct μ st=>∀ρ' H' σ',aF ρ H ρ' H'->SR W.K ρ' st H'->RS W ρ' H' μ σ'->D.ct σ' H'
 |.er c _ st=>∃C,W.mg c=some (.ref C)/\∀ρ' H',aF ρ H ρ' H'->SR W.K ρ' st H'->E (.ref C) none H'
 |.bad=>False
theorem wS.mono{W:Wo}{E:XK}{ρ ρ':_y}{H H':Hp}{D:Ends}{r:cg}(h:wS W E ρ H D r)(e:aF ρ H ρ' H'):wS W E ρ' H' D r:=by
 cases r with
 |nx μ st=>exact fun ρ2 H2 σ2 e2 s r=>h ρ2 H2 σ2 (e.trans e2) s r
 |rt v st=>exact fun ρ2 H2 x e2 s r=>h ρ2 H2 x (e.trans e2) s r
 |bk μ st=>exact fun ρ2 H2 σ2 e2 s r=>h ρ2 H2 σ2 (e.trans e2) s r
 |ct μ st=>exact fun ρ2 H2 σ2 e2 s r=>h ρ2 H2 σ2 (e.trans e2) s r
 |er c μ st=>obtain⟨C,h1,h2⟩:=h;exact⟨C,h1,fun ρ2 H2 e2 s=>h2 ρ2 H2 (e.trans e2) s⟩
 |bad=>exact h
def tS(X:Cx)(E:XK)(m:MB):TS:=fun D σ H=>∃μ ρ st,RS (wo X) ρ H μ σ/\SR X.K ρ st H/\wS (wo X) E ρ H D (m μ st)
@[reducible] def cX.sb{α:Type}(r:cX α)(μ:Env)(k:α->aj->cg):cg:=match r with
 |.ok a st=>k a st
 |.err c st=>.er c μ st
 |.bad=>.bad
theorem Bq{α β:Type}{W:Wo}{E:XK}{R1:_y->Hp->α->β->Prop}{m:Env->aj->cX α}{k:α->aj->cg}{σ:St}{H:Hp}{D:Ends}{Q':β->Hp->Prop}(μ:Env)(ρ:_y)(st:aj)(rs:RS W ρ H μ σ)(sr:SR W.K ρ st H)(h:wS W E ρ H D ((m μ st).sb μ k))(c:∀u st1 ρ1 H1 x,aF ρ H ρ1 H1->SR W.K ρ1 st1 H1->R1 ρ1 H1 u x->wS W E ρ1 H1 D (k u st1)->Q' x H1):tG W E R1 m σ H Q':=by
 refine⟨μ,ρ,st,rs,sr,?_⟩;cases e:m μ st with
 |ok u st1=>
  rw[e]at h;intro ρ1 H1 x e1 bP r1;exact c u st1 ρ1 H1 x e1 bP r1 (wS.mono h e1)
 |err c st1=>rw[e]at h;exact h
 |bad=>rw[e]at h;exact h
def aK:MB:=fun μ st=>.nx μ st
def aA(a b:MB):MB:=fun μ st=>match a μ st with
 |.nx μ' ax=>b μ' ax
 |r=>r
def cD(m:ME):MB:=fun μ st=>(m μ st).sb μ fun _ ax=>.nx μ ax
def a7(m:ME):MB:=fun μ st=>(m μ st).sb μ fun v ax=>.rt v ax
def dq(t:MT)(a b:MB):MB:=fun μ st=>(t μ st).sb μ fun k ax=>match k with
 |true=>a μ ax
 |false=>b μ ax
def aE(i:Nat)(m:ME):MB:=fun μ st=>(m μ st).sb μ fun v ax=>.nx (μ.set i (some v)) ax
def eB(c:Str)(m:MA):MB:=fun μ st=>(m μ st).sb μ fun vs ax=>if vs.length<=sizeLine then .er c μ ax else .bad
section
variable{X:Cx}{E:XK}{pos:Pos}{s1:Stmt}{rest:List Stmt}{e:Expr}{m:ME}{a b:MB}
theorem J5:jJ X [] (tS X E aK):=jJ.imp EY fun D σ H⟨μ,ρ,st,rs,sr,h⟩=>h ρ H σ (aF.refl _ _) sr rs
theorem yr(h1:PS X s1 (tS X E a))(h2:jJ X rest (tS X E b)):jJ X (s1::rest) (tS X E (aA a b)):=by
 refine jJ.imp (BC h1 h2) ?_;rintro D σ H ⟨μ,ρ,st,rs,sr,h⟩;refine⟨μ,ρ,st,rs,sr,?_⟩;unfold aA at h;cases e:a μ st with
 |nx μ' ax=>
  rw[e]at h;intro ρ1 H1 σ1 e1 bP FO;exact⟨μ',ρ1,ax,FO,bP,wS.mono h e1⟩
 |rt v ax=>rw[e]at h;exact h
 |bk μ' ax=>rw[e]at h;exact h
 |ct μ' ax=>rw[e]at h;exact h
 |er c μ' ax=>rw[e]at h;exact h
 |bad=>rw[e]at h;exact h
theorem Cg(h1:PS X s1 (tS X E a)):jJ X [s1] (tS X E a):=EZ h1
theorem FQ(he:PE X e (tE X E m))(hs:swapsWith e none pos.line X.env=pure false:=by rfl):PS X (.Expr e pos) (tS X E (cD m)):=by refine PS.imp (E1 he hs) ?_;rintro D σ H ⟨μ,ρ,st,rs,sr,h⟩;exact Bq μ ρ st rs sr h fun u st1 ρ1 H1 x e1 bP r1 h1=>h1 ρ1 H1 σ (aF.refl _ _) bP (rs.mono e1)
theorem J7(he:PE X e (tE X E m)):PS X (.Return (some e) pos) (tS X E (a7 m)):=by refine PS.imp (IH he) ?_;rintro D σ H ⟨μ,ρ,st,rs,sr,h⟩;exact Bq μ ρ st rs sr h fun u st1 ρ1 H1 x e1 bP r1 h1=>h1 ρ1 H1 x (aF.refl _ _) bP r1
theorem Nj{c:Expr}{sa sb:List Stmt}{t:MT}(hc:PT X c (tT X E t))(ha:jJ X sa (tS X E a))(hb:jJ X sb (tS X E b)):PS X (.If c sa sb pos) (tS X E (dq t a b)):=by
 refine PS.imp (Mc hc ha hb) ?_;rintro D σ H ⟨μ,ρ,st,rs,sr,h⟩;refine Bq (R1:=RB) μ ρ st rs sr h fun u st1 ρ1 H1 x e1 bP r1 h1=>?_;cases r1;cases u with
 |true=>rw[Vo rfl];exact⟨μ,ρ1,st1,rs.mono e1,bP,h1⟩
 |false=>rw[Vu VC];exact⟨μ,ρ1,st1,rs.mono e1,bP,h1⟩
theorem uR{i:Nat}{D:Ends}{σ:St}{H:Hp}(h:tS X E (aE i m) D σ H):E5 (tE X E m) (uu i) D σ H:=by obtain⟨μ,ρ,st,rs,sr,h⟩:=h;exact Bq μ ρ st rs sr h fun u st1 ρ1 H1 x e1 bP r1 h1=>h1 ρ1 H1 _ (aF.refl _ _) bP ((rs.mono e1).set i r1)
theorem J8(i:Nat){x:Str}{pos':Pos}(hN:X.N.Nodup)(he:PE X e (tE X E m))(hi:X.N[i]?=some x:=by rfl)(hx:Loc X.env.scope x:=by first|exact Or.inl rfl|exact Or.inr rfl)(hs:swapsWith e (some (.Name x pos')) pos.line X.env=pure false:=by rfl)(hf:X.fn x=true\/X.env.scope.names.lookup x=some .local:=by first|exact .inl rfl|exact .inr rfl|assumption):PS X (.Assign [.Name x pos'] e pos) (tS X E (aE i m)):=
 PS.imp (IM hN hi hx he hs hf) fun _ _ _ h=>uR h
theorem Ci{x:Str}{C:_C}{B newId wV:String}{bm:_w}{np bT:Pos}{e₀:Expr}{es:List Expr}{ms:MA}(hX:Raises X E)(hc:X.calm=true)(hm:X.mg x=some (.ref C))(hq:W.excIn X.K C bm newId=true)(FB:ExcBaseFacts B newId wV bm)(hg:Gl X x)(ha:PA X (e₀::es) (tL X E ms))(he:starEach (e₀::es) X.env=(false,eval e₀ X.env)::starEach es X.env:=by rfl)(kD:(backTo bT (starEach es X.env)).any (·.1)=false:=by rfl)(hd:(x==("__debug__":Str))=false:=by decide):
  PS X (.Raise (some (.Call (.Name x np) (e₀::es) [] bT)) none pos) (tS X E (eB x ms)):=by
 refine PS.imp (Ca (E:=E) hX hc hm hq FB hg ha he kD hd) ?_;rintro D σ H ⟨μ,ρ,st,rs,sr,h⟩;refine Bq (R1:=a_ X.K) μ ρ st rs sr h fun us st1 ρ1 H1 xs e1 bP r1 h1=>?_;by_cases hz:us.length<=sizeLine
 .rw[Vo hz]at h1;obtain⟨C',q1,q2⟩:=h1;have e:C'=C:=by have:=q1.symm.trans hm;injection this with this;injection this
  subst e;exact⟨by rw[<-r1.length];exact hz,q2 ρ1 H1 (aF.refl _ _) bP⟩
 .rw[Vu hz]at h1;exact h1.elim
end
def fQ(np n:Nat)(body:MB):FN:=fun us st=>if us.length=np then(match body (us.map some++List.replicate (n-np) none) st with
 |.nx _ ax=>.ok .fc ax
 |.rt v ax=>.ok v ax
 |.er c _ ax=>.err c ax
 |_=>.bad)else .bad
theorem RS.start{W:Wo}{ρ:_y}{H:Hp}{N:_z}{us:List av}{vs:List V}(r:a_ W.K ρ H us vs):RS W ρ H (us.map some++List.replicate (N.length-us.length) none) (L2.start N vs):=by
 have hl:=r.length;refine⟨by simp[L2.start,hl],fun i u e=>?_⟩;rcases V! i us.length with q|q
 .rw[V3 (by rw[Vn];exact q),VU]at e;have e':us[i]?=some u:=by
   cases z:us[i]? with
   |none=>rw[z]at e;cases e
   |some w=>rw[z]at e;exact W' _ (V? (V? e))
  obtain⟨v,h1,h2⟩:=r.get e';refine⟨v,?_,yp.of h2⟩;unfold L2.start;rw[V3 (by rw[Vn,<-hl];exact q),VU,h1];rfl
 .rw[VJ (by rw[Vn];exact q)]at e;rw[XQ]at e;split at e
  .cases e
  .cases e
section
variable{P:_E}{w:World}{K:_u}{mg:_s}{base:Heap}
theorem Cj{x qual:Str}{st:Stmt}{f:_C}{fd:FuncData}{N ps:_z}{k:Nat}{body:MB}(F:Fq K x qual st f fd)(S:gB N ps (bu st))
  (h:∀ (gn:_A) (A:_D) (outer:List PySem.Env) (s:_B) (H:Hp) (E:XK),fK k (A.deeper (envOfC qual (bu st) s.heap.objs.size f gn)) ->
   jJ (gb (jO P w) P w K mg base N qual (bu st) f gn A outer s H E) (d0 st) (tS (gb (jO P w) P w K mg base N qual (bu st) f gn A outer s H E) E body)):
  iY P w K mg base (jO P w) (k+1) f fd ps (J2 ⟨K,mg,[]⟩ (fQ ps.length N.length body)):=by
 refine F.TR S (fun vs H Q E q=>?_) (fun gn A outer s H vs Q E hr q=>⟨_,h gn A outer s H E hr,?_⟩)
 .obtain⟨us,ρ,st,r,sr,q⟩:=q;by_cases hl:us.length=ps.length
  .rw[<-r.length];exact hl
  .unfold fQ at q;rw[Vu hl]at q;exact q.elim
 .obtain⟨us,ρ,ax,r,sr,q⟩:=q;unfold fQ at q;by_cases hl:us.length=ps.length
  .rw[Vo hl,<-hl]at q;refine⟨_,ρ,ax,RS.start r,sr,?_⟩;revert q;cases body (us.map some++List.replicate (N.length-us.length) none) ax with
   |nx μ st2=>exact fun q ρ' H' σ' e s _=>q ρ' H' .fc e s Rl.HL
   |rt v st2=>exact fun q=>q
   |er c μ st2=>exact fun q=>q
   |bk μ st2=>exact fun q=>q.elim
   |ct μ st2=>exact fun q=>q.elim
   |bad=>exact fun q=>q.elim
  .rw[Vu hl]at q;exact q.elim
end
def Sz(i:Int):Prop:=i.natAbs.log2<1000000
instance (i:Int):Decidable (Sz i):=inferInstanceAs (Decidable (_<_))
theorem Sz.big{i:Int}(h:Sz i):kE 1000001 i:=by show _<_;have h1:i.natAbs<2 ^ (i.natAbs.log2+1):=_e;exact VL h1 (Xn (by decide) (by have:i.natAbs.log2<1000000:=h;lia))
theorem Sz.of{k:Nat}{i:Int}(h:kE k i)(hk:k<=1000000):Sz i:=by
 show i.natAbs.log2<1000000;have h':i.natAbs<2 ^ k:=h;by_cases z:i.natAbs=0
 .rw[z];decide
 .exact VL ((Yq z).mpr h') hk
theorem Sz.mul{i j:Int}(h:Sz i)(k:Sz j):yi i j:=⟨_,_,h.big,k.big,by decide,by decide⟩
def Dz(i:Int):Prop:=i≠0/\i.natAbs.log2<8000
instance (i:Int):Decidable (Dz i):=inferInstanceAs (Decidable (_/\_))
theorem Dz.ok{i j:Int}(h:Dz j):yj i j:=by refine⟨h.1,?_⟩;show _<_;have h1:j.natAbs<2 ^ (j.natAbs.log2+1):=_e;exact VL h1 (Xn (by decide) (by have:=h.2;lia))
theorem Dz.of{k:Nat}{i:Int}(h0:i≠0)(h:kE k i)(hk:k<=8000):Dz i:=by refine⟨h0,?_⟩;have h':i.natAbs<2 ^ k:=h;exact VL ((Yq (by lia)).mpr h') hk
def MulOk(i j:Int):Prop:=(Sz i/\Sz j)\/BG i j
instance (i j:Int):Decidable (BG i j):=inferInstanceAs (Decidable (_\/_))
instance (i j:Int):Decidable (MulOk i j):=inferInstanceAs (Decidable (_\/_))
instance (i j:Int):Decidable (zO i j):=inferInstanceAs (Decidable (_/\_/\_))
def uS(k:Nat)(us:List av):List av:=(List.replicate k us).flatten
def bo:F2
 |.int i,.int j,st=>.ok (.int (i+j)) st
 |.str a,.str b,st=>if a.length+b.length<=sizeLine then .ok (.str (a++b)) st else .bad
 |.tup us,.tup ws,st=>if us.length+ws.length<=sizeLine then .ok (.tup (us++ws)) st else .bad
 |.loc n,.loc m,st=>match st[n]?,st[m]? with
  |some (.lst us),some (.lst ws)=>if us.length+ws.length<=sizeLine then .ok (.loc st.length) (st++[.lst (us++ws)])else .bad
  |_,_=>.bad
 |_,_,_=>.bad
def sF(g:Int->Int->aj->cX av):F2
 |.int i,.int j,st=>g i j st
 |_,_,_=>.bad
theorem yt(g:Int->Int->aj->cX av)(u w:av)(st:aj):(∃i j,u=.int i/\w=.int j)\/sF g u w st=.bad:=by
 cases u with
 |int i=>
  cases w with
  |int j=>exact .inl ⟨i,j,rfl,rfl⟩
  |_=>exact .inr rfl
 |_=>exact .inr rfl
theorem iA{g:Int->Int->aj->cX av}{W:Wo}{E:XK}{ρ:_y}{st:aj}{H:Hp}{Q:VK}{u w:av}(h:wR W E (Rl W.K) ρ H Q (sF g u w st)):∃i j,u=.int i/\w=.int j/\wR W E (Rl W.K) ρ H Q (g i j st):=by
 rcases yt g u w st with⟨i,j,rfl,rfl⟩|z
 .exact⟨i,j,rfl,rfl,h⟩
 .rw[z]at h;exact h.elim
def Ae:F2:=sF fun i j st=>.ok (.int (i-j)) st
def cN:F2
 |.int i,.int j,st=>if MulOk i j then .ok (.int (i*j)) st else .bad
 |.loc n,.int k,st=>match st[n]? with
  |some (.lst us)=>if -(2 ^ 63)<=k/\k<2 ^ 63/\us.length*k.toNat<=sizeLine then .ok (.loc st.length) (st++[.lst (uS k.toNat us)])else .bad
  |_=>.bad
 |_,_,_=>.bad
def bX:F2:=sF fun i j st=>if Dz j then .ok (.int (i.fdiv j)) st else .bad
def bN:F2:=sF fun i j st=>if j=0 then .bad else .ok (.int (i.fmod j)) st
def uT:F2:=sF fun i j st=>if zO i j then .ok (.int (i ^ j.toNat)) st else .bad
def ltV:F2:=sF fun i j st=>.ok (.bl (decide (i<j))) st
def Nk:F2:=sF fun i j st=>.ok (.bl (decide (i<=j))) st
def Af:F2:=sF fun i j st=>.ok (.bl (decide (j<i))) st
theorem Ck:Tells Nk:=fun u w st=>(yt _ u w st).elim (fun⟨_,_,e1,e2⟩=>.inr (by rw[e1,e2];exact⟨_,rfl⟩)) .inl
section
variable{X:Cx}{E:XK}
theorem d4{W:Wo}{ρ:_y}{st:aj}{H:Hp}{Q:VK}{i:Int}(sr:SR W.K ρ st H)(h:wR W E (Rl W.K) ρ H Q (.ok (.int i) st)):Q (.int i) H:=h ρ H _ (aF.refl _ _) sr (Rl.mkInt i)
theorem iO{W:Wo}{ρ:_y}{st:aj}{H:Hp}{Q:VK}{i:Bool}(sr:SR W.K ρ st H)(h:wR W E (Rl W.K) ρ H Q (.ok (.bl i) st)):Q (.bl i) H:=h ρ H _ (aF.refl _ _) sr (Rl.Ac i)
theorem a_.Nl{K:_u}{ρ:_y}{H:Hp}{us:List av}{xs:List V}(r:a_ K ρ H us xs):∀k:Nat,a_ K ρ H (uS k us) (List.replicate k xs).flatten
 |0=>a_.nil
 |k+1=>by unfold uS;rw[VV,VV,WS,WS];exact r.append (a_.Nl r k)
theorem Cm:dZ X (binaryOp .Add) (fun x y H Q=>∃a b ys,x=.ref a/\y=.ref b/\iW X.K H a []/\iW X.K H b ys/\Q (.ref b) H):=by
 intro af s σ H x y v u Q I rx ry h;obtain⟨a,b,ys,rfl,rfl,ha,hb,q⟩:=h;cases rx;cases ry;obtain⟨aD,r1,p1,_⟩:=I.tuple ha;obtain⟨d!,r2,p2,_⟩:=I.tuple hb;cases r1;obtain⟨⟨cls,dd,data,sl⟩,ho,hc,n,hd⟩:=id p1;obtain⟨⟨Qa,OB,data2,Jg⟩,BN,LK,n2,hd2⟩:=id p2;simp only at hc hd LK hd2;subst hc hd LK hd2;exact _b ⟨_,ho,rfl⟩ ⟨_,BN,rfl⟩ Zo ZU Ye Yc (X' _ _)
  (tuple_addW0 a b #[] d!.toArray n n2 dd OB sl Jg (by simp)) ⟨ho,BN,⟨.ref b,H,I,rfl,q⟩⟩
theorem FR:dZ X (binaryOp .Add) (rM (wo X) E bo):=by
 refine dZ.imp (dZ.or IX (dZ.or wC (dZ.or Jo (dZ.or Fh Cm)))) ?_;rintro x y H Q ⟨ρ,st,u,w,sr,r1,r2,h⟩;cases u<;>cases w<;>try exact h.elim
 case int.int i j=>exact .inl ⟨i,j,r1.cE,r2.cE,d4 sr h⟩
 case str.str a b=>
  unfold bo at h;dsimp only at h;split at h
  .rename_i hz;exact .inr (.inl ⟨a,b,r1.fg,r2.fg,hz,h ρ H _ (aF.refl _ _) sr (Rl.mkStr _)⟩)
  .exact h.elim
 case tup.tup us ws=>
  unfold bo at h;dsimp only at h;split at h
  .rename_i hz;obtain⟨a,xs,rfl,ha,ra⟩:=r1.gg;obtain⟨b,ys,rfl,hb,rb⟩:=r2.gg;by_cases hx:xs=[]
   .subst hx;have hu:us=[]:=Xk ra.length;subst hu;exact .inr (.inr (.inr (.inr ⟨a,b,ys,rfl,rfl,ha,hb,h ρ H _ (aF.refl _ _) sr r2⟩)))
   .refine .inr (.inr (.inr (.inl ⟨a,b,xs,ys,rfl,rfl,ha,hb,hx,by rw[<-ra.length,<-rb.length];exact hz,fun hy=>?_,fun hy p hp=>?_⟩)))
    .subst hy;have hw:ws=[]:=Xk rb.length;subst hw;rw[VS]at h;exact h ρ H _ (aF.refl _ _) sr r1
    .have s:=dk (o:=.tup (xs++ys)) hp;exact h ρ _ _ (aF.same s) (sr.grow s) (Rl.oV cL (a_.mono (aF.same s) _ _ (ra.append rb)))
  .exact h.elim
 case loc.loc n m=>
  unfold bo at h;dsimp only at h;split at h
  .rename_i us ws e1 e2;split at h
   .rename_i hz;obtain⟨a,rfl,ha⟩:=r1.d?;obtain⟨b,rfl,hb⟩:=r2.d?;obtain⟨xs,h1,q1⟩:=sr.cell n _ a e1 ha;obtain⟨ys,h2,q2⟩:=sr.cell m _ b e2 hb;refine .inr (.inr (.inl ⟨a,b,xs,ys,rfl,rfl,h1,h2,by rw[<-q1.length,<-q2.length];exact hz,fun p hp=>?_⟩));obtain⟨k1,k2,k3⟩:=eO sr (q1.append q2) hp;exact h _ _ _ k1 k2 k3
   .exact h.elim
  .exact h.elim
theorem FT:dZ X (binaryOp .Sub) (rM (wo X) E Ae):=by refine dZ.imp IY ?_;rintro x y H Q ⟨ρ,st,u,w,sr,r1,r2,h⟩;obtain⟨i,j,rfl,rfl,q⟩:=iA h;exact⟨i,j,r1.cE,r2.cE,d4 sr q⟩
theorem FU:dZ X (binaryOp .Mult) (rM (wo X) E cN):=by
 refine dZ.imp (dZ.or Fw (dZ.or IZ Jp)) ?_;rintro x y H Q ⟨ρ,st,u,w,sr,r1,r2,h⟩;cases u<;>cases w<;>try exact h.elim
 case int.int i j=>
  unfold cN at h;dsimp only at h;split at h
  .rename_i hz;rcases hz with hz|hz
   .exact .inl ⟨i,j,r1.cE,r2.cE,hz.1.mul hz.2,d4 sr h⟩
   .exact .inr (.inl ⟨i,j,r1.cE,r2.cE,hz,d4 sr h⟩)
  .exact h.elim
 case loc.int n k=>
  unfold cN at h;dsimp only at h;split at h
  .rename_i us e1;split at h
   .rename_i hz;obtain⟨a,rfl,ha⟩:=r1.d?;obtain⟨xs,h1,q1⟩:=sr.cell n _ a e1 ha;refine .inr (.inr ⟨a,k,xs,rfl,r2.cE,h1,hz.1,hz.2.1,by rw[<-q1.length];exact hz.2.2,fun p hp=>?_⟩);obtain⟨k1,k2,k3⟩:=eO sr (q1.Nl k.toNat) hp;exact h _ _ _ k1 k2 k3
   .exact h.elim
  .exact h.elim
theorem Cn:dZ X (binaryOp .FloorDiv) (rM (wo X) E bX):=by
 refine dZ.imp BZ ?_;rintro x y H Q ⟨ρ,st,u,w,sr,r1,r2,h⟩;obtain⟨i,j,rfl,rfl,h0⟩:=iA h;clear h;have h:=h0;clear h0
 .split at h
  .rename_i hz;exact⟨i,j,r1.cE,r2.cE,hz.ok,d4 sr h⟩
  .exact h.elim
theorem FV:dZ X (binaryOp .Mod) (rM (wo X) E bN):=by
 refine dZ.imp E6 ?_;rintro x y H Q ⟨ρ,st,u,w,sr,r1,r2,h⟩;obtain⟨i,j,rfl,rfl,h0⟩:=iA h;clear h;have h:=h0;clear h0
 .split at h
  .exact h.elim
  .rename_i hz;exact⟨i,j,r1.cE,r2.cE,hz,d4 sr h⟩
theorem FW:dZ X (binaryOp .Pow) (rM (wo X) E uT):=by
 refine dZ.imp I9 ?_;rintro x y H Q ⟨ρ,st,u,w,sr,r1,r2,h⟩;obtain⟨i,j,rfl,rfl,h0⟩:=iA h;clear h;have h:=h0;clear h0
 .split at h
  .rename_i hz;exact⟨i,j,r1.cE,r2.cE,hz,d4 sr h⟩
  .exact h.elim
theorem Co:dZ X (compareOp .Lt) (rM (wo X) E ltV):=by refine dZ.imp Ms ?_;rintro x y H Q ⟨ρ,st,u,w,sr,r1,r2,h⟩;obtain⟨i,j,rfl,rfl,q⟩:=iA h;exact⟨i,j,r1.cE,r2.cE,iO sr q⟩
theorem Cp:dZ X (compareOp .LtE) (rM (wo X) E Nk):=by refine dZ.imp Mt ?_;rintro x y H Q ⟨ρ,st,u,w,sr,r1,r2,h⟩;obtain⟨i,j,rfl,rfl,q⟩:=iA h;exact⟨i,j,r1.cE,r2.cE,iO sr q⟩
theorem Cq:dZ X (compareOp .Gt) (rM (wo X) E Af):=by refine dZ.imp Mu ?_;rintro x y H Q ⟨ρ,st,u,w,sr,r1,r2,h⟩;obtain⟨i,j,rfl,rfl,q⟩:=iA h;exact⟨i,j,r1.cE,r2.cE,iO sr q⟩
def Cr(m:ME):ME:=fun μ st=>(m μ st).bind fun v ax=>match v with
 |.int i=>.ok (.int (-i)) ax
 |_=>.bad
theorem J9{a:Expr}{m:ME}{pos:Pos}(h:PE X a (tE X E m)):PE X (.UnaryOp .USub a pos) (tE X E (Cr m)):=by
 refine PE.imp (Mp I_ h) ?_;rintro σ H Q ⟨μ,ρ,st,rs,sr,h⟩;refine go μ ρ st rs sr h fun u st1 ρ1 H1 x e1 bP r1 h1=>?_;cases u with
 |int i=>exact⟨i,r1.cE,d4 bP h1⟩
 |_=>exact h1.elim
end
def flat:av->Bool
 |.fc=>true
 |.bl _=>true
 |.int _=>true
 |.str _=>true
 |_=>false
def HP:av->av->Bool
 |.fc,.fc=>true
 |.bl a,.bl b=>a==b
 |.bl a,.int b=>(if a then 1 else 0)==b
 |.int a,.bl b=>a==(if b then 1 else 0)
 |.int a,.int b=>a==b
 |.str a,.str b=>a==b
 |_,_=>false
def au(st:aj)(n:Nat):Option (List av):=match st[n]? with
 |some (.lst us)=>some us
 |some (.JR us)=>some us
 |some (.mod us)=>some us
 |_=>none
inductive Vw where
 |lst (us:List av)|tup (us:List av)|oj
def vw(st:aj):av->Option Vw
 |.tup us=>some (.tup us)
 |.loc n=>(au st n).map .lst
 |.fc=>some .oj
 |.bl _=>some .oj
 |.int _=>some .oj
 |.str _=>some .oj
 |_=>none
def jL(f:av->av->Option Bool):List av->List av->Option Bool
 |[],[]=>some true
 |x::xs,y::ys=>match f x y,jL f xs ys with
  |some a,some b=>some (a&&b)
  |_,_=>none
 |[],_::_=>some false
 |_::_,[]=>some false
def ow:Nat->aj->av->av->Option Bool
 |0,_,_,_=>none
 |n+1,st,u,w=>match vw st u,vw st w with
  |some (.tup us),some (.tup ws)=>jL (ow n st) us ws
  |some (.lst us),some (.lst ws)=>jL (ow n st) us ws
  |some .oj,some .oj=>some (HP u w)
  |some _,some _=>some false
  |_,_=>none
theorem oW{f:av->av->Option Bool}:∀{us ws:List av}{b:Bool},jL f us ws=some b->us.length≠ws.length->b=false
 |[],[],_,_,h=>absurd rfl h
 |[],_::_,b,e,_=>by injection e with e;exact e.symm
 |_::_,[],b,e,_=>by injection e with e;exact e.symm
 |x::xs,y::ys,b,e,h=>by
  unfold jL at e;split at e
  .rename_i a c h1 h2;injection e with e;rw[<-e,oW h2 (fun z=>h (by simp[z])),Zl]
  .cases e
theorem yu{f:av->av->Option Bool}:∀{us ws:List av}{b:Bool},jL f us ws=some b->∀(j:Nat)(u w:av),us[j]?=some u->ws[j]?=some w->∃c,f u w=some c
 |[],_,_,_,j,u,w,h1,_=>by cases h1
 |_::_,[],_,_,j,u,w,_,h2=>by cases h2
 |x::xs,y::ys,b,e,j,u,w,h1,h2=>by
  unfold jL at e;split at e
  .rename_i a c q1 q2;cases j with
   |zero=>cases h1;cases h2;exact⟨a,q1⟩
   |succ j=>exact yu q2 j u w h1 h2
  .cases e
def OT(f:av->av->Option Bool)(us ws:List av)(j:Nat):Bool:=match us[j]?,ws[j]? with
 |some u,some w=>(f u w).getD true
 |_,_=>true
theorem oX{f:av->av->Option Bool}:∀{us ws:List av}{b:Bool},jL f us ws=some b->us.length=ws.length->(List.range us.length).all (OT f us ws)=b
 |[],[],b,e,_=>by injection e
 |[],_::_,_,_,h=>by simp at h
 |_::_,[],_,_,h=>by simp at h
 |x::xs,y::ys,b,e,h=>by
  have h':xs.length=ys.length:=by simpa using h
  unfold jL at e;split at e
  .rename_i a c q1 q2;injection e with e;rw[Vl,ZF,Ys,YY,<-e,<-oX q2 h'];congr 1;show(f x y).getD true=a;rw[q1];rfl
  .cases e
section
variable{X:Cx}{af:_t}{σ:St}{H:Hp}{s:_B}{ρ:_y}{st:aj}
theorem bp(sr:SR X.K ρ st H){n:Nat}{us:List av}{a:_C}(h:au st n=some us)(ha:ρ[n]?=some a):∃vs,j9 X.K H a vs/\a_ X.K ρ H us vs:=by
 unfold au at h;split at h
 .rename_i ws e;cases h;obtain⟨vs,h1,h2⟩:=sr.cell n _ a e ha;exact⟨vs,j9.of h1,h2⟩
 .rename_i ws e;cases h;obtain⟨o,vs,h1,h2⟩:=sr.cell n _ a e ha;exact⟨vs,.inl (.inr ⟨o,h1⟩),h2⟩
 .rename_i ws e;cases h;obtain⟨vs,h1,h2⟩:=sr.cell n _ a e ha;exact⟨vs,.inr h1,h2⟩
 .cases h
theorem yw(I:aH X af σ H s)(sr:SR X.K ρ st H):∀(n:Nat)(u w:av)(x:V)(b:Bool),Rl X.K ρ H u x->Rl X.K ρ H w x->ow n st u w=some b->b=true
 |0,_,_,_,_,_,_,e=>by cases e
 |n+1,u,w,x,b,r1,r2,e=>by
  have lst:∀(us ws:List av)(vs:List V)(b:Bool),a_ X.K ρ H us vs->a_ X.K ρ H ws vs->jL (ow n st) us ws=some b->b=true:=by
   intro us
   induction us with
   |nil=>
    intro ws vs b h1 h2 e;have:=h1.fe;subst this;have hw:ws=[]:=Xk h2.length;subst hw;injection e with e;exact e.symm
   |cons u us ih=>
    intro ws vs b h1 h2 e;obtain⟨v,r,rfl,q1,q2⟩:=h1.cP;cases ws with
    |nil=>have:=h2.fe;cases this
    |cons w ws=>
     obtain⟨v',r',e',q3,q4⟩:=h2.cP;cases e';unfold jL at e;split at e
     .rename_i a c z1 z2;injection e with e;rw[<-e,yw I sr n u w v a q1 q3 z1,ih ws r c q2 q4 z2];rfl
     .cases e
  unfold ow at e;cases u<;>cases w<;>dsimp only[vw]at e<;>try (cases e;done)
  all_goals first
   |(have z1:=Rl.cE r1;subst z1;have z2:=Rl.cE r2;cases z2;injection e with e;rw[<-e];exact Wu _)
   |(have z1:=Rl.sA r1;subst z1;have z2:=Rl.sA r2;cases z2;injection e with e;rw[<-e];exact Wu _)
   |(have z1:=Rl.fg r1;subst z1;have z2:=Rl.fg r2;cases z2;injection e with e;rw[<-e];exact Wu _)
   |(have z1:=Rl.oU r1;subst z1;injection e with e;exact e.symm)
   |skip
  case tup.tup us ws=>
   obtain⟨a,vs,rfl,ha,ra⟩:=r1.gg;obtain⟨a',HQ,ea,hb,rb⟩:=r2.gg;cases ea;have:=I.jA ha hb;subst this;exact lst us ws vs b ra rb e
  case loc.loc i j=>
   obtain⟨a,rfl,ha⟩:=r1.d?;obtain⟨a',ea,hb⟩:=r2.d?;cases ea;cases z:au st i with
   |none=>rw[z]at e;cases e
   |some us=>
    cases z2:au st j with
    |none=>rw[z,z2]at e;cases e
    |some ws=>
     rw[z,z2]at e;obtain⟨vs,s1,rv⟩:=bp sr z ha;obtain⟨HQ,s2,T4⟩:=bp sr z2 hb;have:=I.oF s1 s2;subst this;exact lst us ws vs b rv T4 e
  all_goals (exfalso;first
   |(have z1:=Rl.cE r1;subst z1;first|(have z2:=Rl.sA r2;cases z2;done)|(have z2:=Rl.fg r2;cases z2;done)|(have z2:=Rl.oU r2;cases z2;done)|(obtain⟨_,_,z2,_⟩:=r2.gg;cases z2;done)|(obtain⟨_,z2,_⟩:=r2.d?;cases z2;done))
   |(have z1:=Rl.sA r1;subst z1;first|(have z2:=Rl.cE r2;cases z2;done)|(have z2:=Rl.fg r2;cases z2;done)|(have z2:=Rl.oU r2;cases z2;done)|(obtain⟨_,_,z2,_⟩:=r2.gg;cases z2;done)|(obtain⟨_,z2,_⟩:=r2.d?;cases z2;done))
   |(have z1:=Rl.fg r1;subst z1;first|(have z2:=Rl.cE r2;cases z2;done)|(have z2:=Rl.sA r2;cases z2;done)|(have z2:=Rl.oU r2;cases z2;done)|(obtain⟨_,_,z2,_⟩:=r2.gg;cases z2;done)|(obtain⟨_,z2,_⟩:=r2.d?;cases z2;done))
   |(have z1:=Rl.oU r1;subst z1;first|(have z2:=Rl.cE r2;cases z2;done)|(have z2:=Rl.sA r2;cases z2;done)|(have z2:=Rl.fg r2;cases z2;done)|(obtain⟨_,_,z2,_⟩:=r2.gg;cases z2;done)|(obtain⟨_,z2,_⟩:=r2.d?;cases z2;done))
   |(obtain⟨_,_,z1,_⟩:=r1.gg;subst z1;first|(have z2:=Rl.cE r2;cases z2;done)|(have z2:=Rl.sA r2;cases z2;done)|(have z2:=Rl.fg r2;cases z2;done)|(have z2:=Rl.oU r2;cases z2;done))
   |(obtain⟨_,z1,_⟩:=r1.d?;subst z1;first|(have z2:=Rl.cE r2;cases z2;done)|(have z2:=Rl.sA r2;cases z2;done)|(have z2:=Rl.fg r2;cases z2;done)|(have z2:=Rl.oU r2;cases z2;done))
   |skip)
  case tup.loc us j=>
   obtain⟨a,vs,rfl,ha,ra⟩:=r1.gg;obtain⟨a',ea,hb⟩:=r2.d?;cases ea;cases z:au st j with
   |none=>rw[z]at e;cases e
   |some Nm=>
    obtain⟨ws,hw,_⟩:=bp sr z hb;obtain⟨_,_,p1,_⟩:=I.tuple ha;obtain⟨_,_,p2,_⟩:=I.list hw;exact _d p2.isList p1 rfl
  case loc.tup i us=>
   obtain⟨a,rfl,ha⟩:=r1.d?;obtain⟨a',vs,ea,hb,rb⟩:=r2.gg;cases ea;cases z:au st i with
   |none=>rw[z]at e;cases e
   |some Nm=>
    obtain⟨ws,hw,_⟩:=bp sr z ha;obtain⟨_,_,p1,_⟩:=I.tuple hb;obtain⟨_,_,p2,_⟩:=I.list hw;exact _d p2.isList p1 rfl
  all_goals (cases z:au st _<;>rw[z]at e<;>cases e)
def Cs(X:Cx)(ρ:_y)(H:Hp)(s:_B):Vw->av->_A->Prop
 |.tup us,_,v=>∃a aD vs,v=.ref a/\s.heap.IsTuple a (List.toArray aD)/\bg vs aD/\a_ X.K ρ H us vs
 |.lst us,_,v=>∃a aD vs,v=.ref a/\s.heap.IsList a (List.toArray aD)/\bg vs aD/\a_ X.K ρ H us vs
 |.oj,u,v=>(u=.fc/\v=.none)\/(∃b,u=.bl b/\v=.bool b)\/(∃i t,u=.int i/\v=.int i t)\/(∃z t,u=.str z/\v=.str z t)
theorem seen(I:aH X af σ H s)(sr:SR X.K ρ st H){u:av}{x:V}{v:_A}{k:Vw}(r:Rl X.K ρ H u x)(q:bD x v)(h:vw st u=some k):Cs X ρ H s k u v:=by
 cases u with
 |fc=>cases h;have:=r.oU;subst this;exact .inl ⟨rfl,q⟩
 |bl b=>cases h;have:=r.sA;subst this;exact .inr (.inl ⟨b,rfl,q⟩)
 |int i=>cases h;have:=r.cE;subst this;obtain⟨t,q⟩:=q;exact .inr (.inr (.inl ⟨i,t,rfl,q⟩))
 |str z=>cases h;have:=r.fg;subst this;obtain⟨t,q⟩:=q;exact .inr (.inr (.inr ⟨z,t,rfl,q⟩))
 |tup us=>
  cases h;obtain⟨a,vs,rfl,ha,ra⟩:=r.gg;obtain⟨aD,r1,p1,_⟩:=I.tuple ha;exact⟨a,aD,vs,q,p1,r1,ra⟩
 |loc n=>
  obtain⟨a,rfl,ha⟩:=r.d?;cases z:au st n with
  |none=>simp only[vw,z]at h;cases h
  |some us=>
   simp only[vw,z]at h;cases h;obtain⟨vs,hs,rv⟩:=bp sr z ha;obtain⟨aD,r1,p1,_⟩:=I.list hs;exact⟨a,aD,vs,q,p1.isList,r1,rv⟩
 |exc c=>cases h
 |fn k c=>cases h
 |mt us=>cases h
theorem Ct{A:_D}{f:av->av->Option Bool}{us ws:List av}{xs ys:List V}{aD d!:_w}{b:Bool}(e:jL f us ws=some b)(ra:a_ X.K ρ H us xs)(rb:a_ X.K ρ H ws ys)(va:bg xs aD)(vb:bg ys d!)(ih:∀u w x y vu vw c,Rl X.K ρ H u x->bD x vu->Rl X.K ρ H w y->bD y vw->f u w=some c->SeqAt.EqAt A s vu vw c):
  ∀j(h1:j<aD.toArray.size)(h2:j<d!.toArray.size),SeqAt.EqAt A s aD.toArray[j] d!.toArray[j] (OT f us ws j):=by
 intro j h1 h2;have l1:=va.length;have l2:=vb.length;have l3:=ra.length;have l4:=rb.length;simp only[VD]at h1 h2;have e1:us[j]?=some us[j]:=VE (by lia);have e2:ws[j]?=some ws[j]:=VE (by lia);obtain⟨x,hx,rx⟩:=ra.get e1;obtain⟨y,hy,ry⟩:=rb.get e2;obtain⟨u,hu,ru⟩:=va.get hx;obtain⟨v,hv,rv⟩:=vb.get hy;have q1:aD.toArray[j]=u:=by obtain⟨_,e⟩:=VW.mp hu;simpa using e
 have q2:d!.toArray[j]=v:=by obtain⟨_,e⟩:=VW.mp hv;simpa using e
 obtain⟨c,hc⟩:=yu e j _ _ e1 e2;rw[q1,q2];unfold OT;rw[e1,e2];dsimp only;rw[hc];exact ih _ _ _ _ _ _ c rx ru ry rv hc
theorem in1_units(A:_D):A.in1.units=A.units+1:=by rfl
theorem J_{A:_D}(I:aH X af σ H s)(sr:SR X.K ρ st H)(n:Nat)(ih:∀u w x y vu vw c,Rl X.K ρ H u x->bD x vu->Rl X.K ρ H w y->bD y vw->ow n st u w=some c->SeqAt.EqAt A.in1 s vu vw c)(hu:A.units<cLine){u w:av}{x y:V}{v1 v2:_A}{b:Bool}(r1:Rl X.K ρ H u x)(q1:bD x v1)(r2:Rl X.K ρ H w y)(q2:bD y v2)(e:ow (n+1) st u w=some b):SeqAt.RcAt A s v1 v2 b/\SeqAt.RcNeAt A s v1 v2 (!b):=by
 unfold ow at e;cases z1:vw st u with
 |none=>rw[z1]at e;cases e
 |some k1=>
  cases z2:vw st w with
  |none=>rw[z1,z2]at e;cases k1<;>cases e
  |some k2=>
   rw[z1,z2]at e;have s1:=seen I sr r1 q1 z1;have s2:=seen I sr r2 q2 z2;cases k1 with
   |tup us=>
    obtain⟨a,aD,xs,rfl,p1,va,ra⟩:=s1;cases k2 with
    |tup ws=>
     obtain⟨a2,d!,ys,rfl,p2,vb,rb⟩:=s2;have el:=Ct e ra rb va vb ih;have l1:=va.length;have l2:=vb.length;have l3:=ra.length;have l4:=rb.length;have hb:((List.range (min aD.toArray.size d!.toArray.size)).all (OT (ow n st) us ws)&&aD.toArray.size==d!.toArray.size)=b:=by
      by_cases hl:us.length=ws.length
      .rw[show min aD.toArray.size d!.toArray.size=us.length by simp only[VD];lia,oX e hl,show(aD.toArray.size==d!.toArray.size)=true by simp only[VD,WK];lia,Bool.and_true]
      .rw[show(aD.toArray.size==d!.toArray.size)=false by simp only[VD,Xb];lia,Zl];exact(oW e hl).symm
     have g1:=SeqAt.RcAt.tuples p1 p2 hu el;have g2:=SeqAt.RcNeAt.tuples p1 p2 hu el;rw[hb]at g1 g2;exact⟨g1,g2⟩
    |lst ws=>
     obtain⟨a2,d!,ys,rfl,p2,vb,rb⟩:=s2;cases e;exact⟨SeqAt.RcAt.tuple_list p1 p2 hu,SeqAt.RcNeAt.tuple_list p1 p2 hu⟩
    |oj=>
     cases e;rcases s2 with⟨_,rfl⟩|⟨k,_,rfl⟩|⟨k,t,_,rfl⟩|⟨k,t,_,rfl⟩
     .exact⟨SeqAt.RcAt.tuple_none p1 hu,SeqAt.RcNeAt.tuple_none p1 hu⟩
     .exact⟨SeqAt.RcAt.tuple_bool _ p1 hu,SeqAt.RcNeAt.tuple_bool _ p1 hu⟩
     .exact⟨SeqAt.RcAt.tuple_int _ _ p1 hu,SeqAt.RcNeAt.tuple_int _ _ p1 hu⟩
     .exact⟨SeqAt.RcAt.tuple_str _ _ p1 hu,SeqAt.RcNeAt.tuple_str _ _ p1 hu⟩
   |lst us=>
    obtain⟨a,aD,xs,rfl,p1,va,ra⟩:=s1;cases k2 with
    |tup ws=>
     obtain⟨a2,d!,ys,rfl,p2,vb,rb⟩:=s2;cases e;exact⟨SeqAt.RcAt.list_tuple p1 p2 hu,SeqAt.RcNeAt.list_tuple p1 p2 hu⟩
    |lst ws=>
     obtain⟨a2,d!,ys,rfl,p2,vb,rb⟩:=s2;have l1:=va.length;have l2:=vb.length;have l3:=ra.length;have l4:=rb.length;by_cases hl:us.length=ws.length
     .have hs:aD.toArray.size=d!.toArray.size:=by simp only[VD];lia
      have el:=Ct e ra rb va vb ih;have g1:=SeqAt.RcAt.lists p1 p2 hs hu el;have g2:=SeqAt.RcNeAt.lists p1 p2 hs hu el;rw[show aD.toArray.size=us.length by simp only[VD];lia,oX e hl]at g1 g2;exact⟨g1,g2⟩
     .have hs:(aD.toArray.size !=d!.toArray.size)=true:=by simp only[VD,bne_iff_ne];lia
      rw[oW e hl];exact⟨SeqAt.RcAt.lists_lengths p1 p2 hs hu,SeqAt.RcNeAt.lists_lengths p1 p2 hs hu⟩
    |oj=>
     cases e;rcases s2 with⟨_,rfl⟩|⟨k,_,rfl⟩|⟨k,t,_,rfl⟩|⟨k,t,_,rfl⟩
     .exact⟨SeqAt.RcAt.list_none p1 hu,SeqAt.RcNeAt.list_none p1 hu⟩
     .exact⟨SeqAt.RcAt.list_bool _ p1 hu,SeqAt.RcNeAt.list_bool _ p1 hu⟩
     .exact⟨SeqAt.RcAt.list_int _ _ p1 hu,SeqAt.RcNeAt.list_int _ _ p1 hu⟩
     .exact⟨SeqAt.RcAt.list_str _ _ p1 hu,SeqAt.RcNeAt.list_str _ _ p1 hu⟩
   |oj=>
    cases k2 with
    |tup ws=>
     obtain⟨a2,d!,ys,rfl,p2,vb,rb⟩:=s2;cases e;rcases s1 with⟨_,rfl⟩|⟨k,_,rfl⟩|⟨k,t,_,rfl⟩|⟨k,t,_,rfl⟩
     .exact⟨SeqAt.RcAt.none_tuple p2 hu,SeqAt.RcNeAt.none_tuple p2 hu⟩
     .exact⟨SeqAt.RcAt.bool_tuple _ p2 hu,SeqAt.RcNeAt.bool_tuple _ p2 hu⟩
     .exact⟨SeqAt.RcAt.int_tuple _ _ p2 hu,SeqAt.RcNeAt.int_tuple _ _ p2 hu⟩
     .exact⟨SeqAt.RcAt.str_tuple _ _ p2 hu,SeqAt.RcNeAt.str_tuple _ _ p2 hu⟩
    |lst ws=>
     obtain⟨a2,d!,ys,rfl,p2,vb,rb⟩:=s2;cases e;rcases s1 with⟨_,rfl⟩|⟨k,_,rfl⟩|⟨k,t,_,rfl⟩|⟨k,t,_,rfl⟩
     .exact⟨SeqAt.RcAt.none_list p2 hu,SeqAt.RcNeAt.none_list p2 hu⟩
     .exact⟨SeqAt.RcAt.bool_list _ p2 hu,SeqAt.RcNeAt.bool_list _ p2 hu⟩
     .exact⟨SeqAt.RcAt.int_list _ _ p2 hu,SeqAt.RcNeAt.int_list _ _ p2 hu⟩
     .exact⟨SeqAt.RcAt.str_list _ _ p2 hu,SeqAt.RcNeAt.str_list _ _ p2 hu⟩
    |oj=>
     injection e with e;subst e;rcases s1 with⟨rfl,rfl⟩|⟨i,rfl,rfl⟩|⟨i,t,rfl,rfl⟩|⟨i,t,rfl,rfl⟩<;>rcases s2 with⟨rfl,rfl⟩|⟨j,rfl,rfl⟩|⟨j,t',rfl,rfl⟩|⟨j,t',rfl,rfl⟩
     .exact⟨SeqAt.RcAt.none_none,SeqAt.RcNeAt.none_none⟩
     .exact⟨SeqAt.RcAt.none_bool _,SeqAt.RcNeAt.none_bool _⟩
     .exact⟨SeqAt.RcAt.none_int _ _,SeqAt.RcNeAt.none_int _ _⟩
     .exact⟨SeqAt.RcAt.none_str _ _,SeqAt.RcNeAt.none_str _ _⟩
     .exact⟨SeqAt.RcAt.bool_none _,SeqAt.RcNeAt.bool_none _⟩
     .exact⟨SeqAt.RcAt.bool_bool _ _,SeqAt.RcNeAt.bool_bool _ _⟩
     .exact⟨SeqAt.RcAt.bool_int _ _ _,SeqAt.RcNeAt.bool_int _ _ _⟩
     .exact⟨SeqAt.RcAt.bool_str _ _ _,SeqAt.RcNeAt.bool_str _ _ _⟩
     .exact⟨SeqAt.RcAt.int_none _ _,SeqAt.RcNeAt.int_none _ _⟩
     .exact⟨SeqAt.RcAt.int_bool _ _ _,SeqAt.RcNeAt.int_bool _ _ _⟩
     .exact⟨SeqAt.RcAt.int_int _ _ _ _,SeqAt.RcNeAt.int_int _ _ _ _⟩
     .exact⟨SeqAt.RcAt.int_str _ _ _ _,SeqAt.RcNeAt.int_str _ _ _ _⟩
     .exact⟨SeqAt.RcAt.str_none _ _,SeqAt.RcNeAt.str_none _ _⟩
     .exact⟨SeqAt.RcAt.str_bool _ _ _,SeqAt.RcNeAt.str_bool _ _ _⟩
     .exact⟨SeqAt.RcAt.str_int _ _ _ _,SeqAt.RcNeAt.str_int _ _ _ _⟩
     .exact⟨SeqAt.RcAt.str_str _ _ _ _,SeqAt.RcNeAt.str_str _ _ _ _⟩
theorem FX{A:_D}{u w:av}{v1 v2:_A}(s1:Cs X ρ H s .oj u v1)(s2:Cs X ρ H s .oj w v2):SeqAt.EqAt A s v1 v2 (HP u w):=by
 rcases s1 with⟨rfl,rfl⟩|⟨i,rfl,rfl⟩|⟨i,t,rfl,rfl⟩|⟨i,t,rfl,rfl⟩<;>rcases s2 with⟨rfl,rfl⟩|⟨j,rfl,rfl⟩|⟨j,t',rfl,rfl⟩|⟨j,t',rfl,rfl⟩
 .exact Zw _
 .exact SeqAt.EqAt.none_bool _
 .exact SeqAt.EqAt.none_int _ _
 .exact SeqAt.EqAt.none_str _ _
 .exact SeqAt.EqAt.bool_none _
 .exact SeqAt.EqAt.bool_bool _ _
 .exact SeqAt.EqAt.bool_int _ _ _
 .exact SeqAt.EqAt.bool_str _ _ _
 .exact SeqAt.EqAt.int_none _ _
 .exact SeqAt.EqAt.int_bool _ _ _
 .exact SeqAt.EqAt.int_int _ _ _ _
 .exact Y' _ _ _ _
 .exact SeqAt.EqAt.str_none _ _
 .exact SeqAt.EqAt.str_bool _ _ _
 .exact Y? _ _ _ _
 .exact SeqAt.EqAt.str_str _ _ _ _
theorem wX(I:aH X af σ H s)(sr:SR X.K ρ st H):∀(n:Nat)(A:_D),A.units+n<cLine->∀(u w:av)(x y:V)(v1 v2:_A)(b:Bool),Rl X.K ρ H u x->bD x v1->Rl X.K ρ H w y->bD y v2->ow n st u w=some b->SeqAt.EqAt A s v1 v2 b
 |0,_,_,_,_,_,_,_,_,_,_,_,_,_,e=>by cases e
 |n+1,A,hu,u,w,x,y,v1,v2,b,r1,q1,r2,q2,e=>by
  have rc:=(J_ I sr n (fun u w x y vu vw c a1 a2 a3 a4 a5=>wX I sr n A.in1 (by rw[in1_units];lia) u w x y vu vw c a1 a2 a3 a4 a5) (by lia) r1 q1 r2 q2 e).1;have refs:∀a a2,v1=.ref a->v2=.ref a2->SeqAt.EqAt A s v1 v2 b:=by
   intro a a2 e1 e2;subst e1 e2;by_cases hn:a=a2
   .subst hn;have hx:x=y:=q1.inj q2;subst hx;rw[yw I sr (n+1) u w x b r1 r2 e];exact Zw _
   .exact SeqAt.EqAt.of_refs hn rc
  cases z1:vw st u with
  |none=>unfold ow at e;rw[z1]at e;cases e
  |some k1=>
   cases z2:vw st w with
   |none=>unfold ow at e;rw[z1,z2]at e;cases k1<;>cases e
   |some k2=>
    have s1:=seen I sr r1 q1 z1;have s2:=seen I sr r2 q2 z2;unfold ow at e;rw[z1,z2]at e;cases k1 with
    |tup us=>
     obtain⟨a,aD,xs,rfl,p1,va,ra⟩:=s1;cases k2 with
     |tup ws=>obtain⟨a2,d!,ys,rfl,p2,vb,rb⟩:=s2;exact refs a a2 rfl rfl
     |lst ws=>obtain⟨a2,d!,ys,rfl,p2,vb,rb⟩:=s2;exact refs a a2 rfl rfl
     |oj=>
      cases e;rcases s2 with⟨_,rfl⟩|⟨k,_,rfl⟩|⟨k,t,_,rfl⟩|⟨k,t,_,rfl⟩
      .exact SeqAt.EqAt.tuple_none p1 (by lia)
      .exact SeqAt.EqAt.tuple_bool _ p1 (by lia)
      .exact SeqAt.EqAt.tuple_int _ _ p1 (by lia)
      .exact SeqAt.EqAt.tuple_str _ _ p1 (by lia)
    |lst us=>
     obtain⟨a,aD,xs,rfl,p1,va,ra⟩:=s1;cases k2 with
     |tup ws=>obtain⟨a2,d!,ys,rfl,p2,vb,rb⟩:=s2;exact refs a a2 rfl rfl
     |lst ws=>obtain⟨a2,d!,ys,rfl,p2,vb,rb⟩:=s2;exact refs a a2 rfl rfl
     |oj=>
      cases e;rcases s2 with⟨_,rfl⟩|⟨k,_,rfl⟩|⟨k,t,_,rfl⟩|⟨k,t,_,rfl⟩
      .exact SeqAt.EqAt.list_none p1 (by lia)
      .exact SeqAt.EqAt.list_bool _ p1 (by lia)
      .exact SeqAt.EqAt.list_int _ _ p1 (by lia)
      .exact SeqAt.EqAt.list_str _ _ p1 (by lia)
    |oj=>
     cases k2 with
     |tup ws=>
      obtain⟨a2,d!,ys,rfl,p2,vb,rb⟩:=s2;cases e;rcases s1 with⟨_,rfl⟩|⟨k,_,rfl⟩|⟨k,t,_,rfl⟩|⟨k,t,_,rfl⟩
      .exact SeqAt.EqAt.none_tuple p2 (by lia)
      .exact SeqAt.EqAt.bool_tuple _ p2 (by lia)
      .exact SeqAt.EqAt.int_tuple _ _ p2 (by lia)
      .exact SeqAt.EqAt.str_tuple _ _ p2 (by lia)
     |lst ws=>
      obtain⟨a2,d!,ys,rfl,p2,vb,rb⟩:=s2;cases e;rcases s1 with⟨_,rfl⟩|⟨k,_,rfl⟩|⟨k,t,_,rfl⟩|⟨k,t,_,rfl⟩
      .exact SeqAt.EqAt.none_list p2 (by lia)
      .exact SeqAt.EqAt.bool_list _ p2 (by lia)
      .exact SeqAt.EqAt.int_list _ _ p2 (by lia)
      .exact SeqAt.EqAt.str_list _ _ p2 (by lia)
     |oj=>
      injection e with e;subst e;exact FX s1 s2
def dr:F2:=fun u w st=>match ow 16 st u w with
 |some b=>.ok (.bl b) st
 |none=>.bad
def fA:F2:=fun u w st=>match ow 16 st u w with
 |some b=>.ok (.bl (!b)) st
 |none=>.bad
theorem Cu{E:XK}(hu:X.A.units+64<cLine):dZ X (compareOp .Eq) (rM (wo X) E dr):=by
 intro af s σ H x y v u Q I rx ry h;obtain⟨ρ,st,u1,w1,sr,r1,r2,h⟩:=h;unfold dr at h;split at h
 .rename_i b e;exact(J_ I sr 15 (wX I sr 15 X.A.in1 (by rw[in1_units];lia)) (by lia) r1 rx r2 ry e).1 X.prog X.w X.xe (EP X af σ Q) ⟨.bl b,H,I,rfl,iO sr h⟩
 .exact h.elim
theorem Cv{E:XK}(hu:X.A.units+64<cLine):dZ X (compareOp .NotEq) (rM (wo X) E fA):=by
 intro af s σ H x y v u Q I rx ry h;obtain⟨ρ,st,u1,w1,sr,r1,r2,h⟩:=h;unfold fA at h;split at h
 .rename_i b e;exact(J_ I sr 15 (wX I sr 15 X.A.in1 (by rw[in1_units];lia)) (by lia) r1 rx r2 ry e).2 X.prog X.w X.xe (EP X af σ Q) ⟨.bl (!b),H,I,rfl,iO sr h⟩
 .exact h.elim
def Cw(st:aj):av->Option (List av)
 |.tup us=>some us
 |.mt us=>some us
 |.loc n=>au st n
 |_=>none
def Ag(neg:Bool):F2:=fun u w st=>match Cw st w with
 |some us=>if flat u=true/\us.all flat=true then .ok (.bl (if neg then !us.any (fun y=>HP y u)else us.any (fun y=>HP y u))) st else .bad
 |none=>.bad
theorem kP{K:_u}{u w:av}{x y:V}(f1:flat u=true)(f2:flat w=true)(r1:Rl K ρ H u x)(r2:Rl K ρ H w y):iZ x=true/\iZ y=true/\EB x y=HP u w:=by
 cases u<;>(try cases f1)<;>cases w<;>(try cases f2)<;>
  (first|(have z1:=Rl.cE r1;subst z1)|(have z1:=Rl.sA r1;subst z1)|(have z1:=Rl.fg r1;subst z1)|(have z1:=Rl.oU r1;subst z1))<;>
  (first|(have z2:=Rl.cE r2;subst z2)|(have z2:=Rl.sA r2;subst z2)|(have z2:=Rl.fg r2;subst z2)|(have z2:=Rl.oU r2;subst z2))<;>exact⟨rfl,rfl,rfl⟩
theorem kQ{K:_u}{u:av}{x:V}(f:flat u=true)(r:Rl K ρ H u x):∀{us:List av}{vs:List V},us.all flat=true->a_ K ρ H us vs->vs.all iZ=true/\OD x vs=us.any fun y=>HP y u
 |[],vs,_,h=>by rw[h.fe];exact⟨rfl,rfl⟩
 |w::us,vs,hf,h=>by obtain⟨v,r',rfl,h2,h3⟩:=h.cP;rw[Ys,Wy]at hf;obtain⟨a,b,c⟩:=kP hf.1 f h2 r;obtain⟨d,e⟩:=kQ f r hf.2 h3;refine⟨by rw[Ys,a,d];rfl,?_⟩;show(EB v x || OD x r')=_;rw[c,e];rfl
theorem yx{E:XK}{neg:Bool}{x y:V}{H:Hp}{Q:VK}(h:rM (wo X) E (Ag neg) x y H Q):Qh X.K neg x y H Q:=by
 obtain⟨ρ,st,u,w,sr,r1,r2,h⟩:=h;unfold Ag at h;split at h
 .rename_i us e;split at h
  .rename_i hz;cases w with
   |tup ws=>
    cases e;obtain⟨a,vs,rfl,ha,ra⟩:=r2.gg;obtain⟨q1,q2⟩:=kQ hz.1 r1 hz.2 ra;refine⟨a,vs,rfl,.inr ha,(kP hz.1 hz.1 r1 r1).1,q1,?_⟩;rw[q2];exact iO sr h
   |mt ws=>
    cases e;obtain⟨a,vs,rfl,ha,ra⟩:=r2.QK;obtain⟨q1,q2⟩:=kQ hz.1 r1 hz.2 ra;refine⟨a,vs,rfl,.inr ha,(kP hz.1 hz.1 r1 r1).1,q1,?_⟩;rw[q2];exact iO sr h
   |loc n=>
    obtain⟨a,rfl,ha⟩:=r2.d?;obtain⟨vs,hs,ra⟩:=bp sr e ha;obtain⟨q1,q2⟩:=kQ hz.1 r1 hz.2 ra;refine⟨a,vs,rfl,.inl hs,(kP hz.1 hz.1 r1 r1).1,q1,?_⟩;rw[q2];exact iO sr h
   |_=>cases e
  .exact h.elim
 .exact h.elim
theorem Cy{E:XK}:dZ X (compareOp .In) (rM (wo X) E (Ag false)):=dZ.imp zU fun _ _ _ _ h=>yx h
theorem qU{E:XK}:dZ X (compareOp .NotIn) (rM (wo X) E (Ag true)):=dZ.imp r9 fun _ _ _ _ h=>yx h
end
section
variable{X:Cx}{E:XK}{pos:Pos}
def b5:F2
 |.tup us,.int i,st=>match m5 us i with
  |some v=>.ok v st
  |none=>.bad
 |.loc n,.int i,st=>match au st n with
  |some us=>match m5 us i with
   |some v=>.ok v st
   |none=>.bad
  |none=>.bad
 |.str z,.int i,st=>if z.length<=sizeLine then(match m5 z.cps.toList i with
   |some c=>.ok (.str ⟨#[c]⟩) st
   |none=>.bad)else .bad
 |_,_,_=>.bad
theorem a_.m5{K:_u}{ρ:_y}{H:Hp}{us:List av}{vs:List V}{i:Int}{u:av}(r:a_ K ρ H us vs)(h:m5 us i=some u):∃v,L2.m5 vs i=some v/\Rl K ρ H u v:=by
 unfold L2.m5 at h⊢;rw[<-r.length];cases z:zT us.length i with
 |none=>rw[z]at h;cases h
 |some j=>
  rw[z]at h;obtain⟨v,h1,h2⟩:=r.get (show us[j]?=some u from h);exact⟨v,h1,h2⟩
theorem QO:uh X (rM (wo X) E b5):=by
 refine uh.imp (uh.or Fi (uh.or rY Jj)) ?_;rintro x y H Q ⟨ρ,st,u,w,sr,r1,r2,h⟩;cases u<;>cases w<;>try exact h.elim
 case tup.int us i=>
  unfold b5 at h;dsimp only at h;split at h
  .rename_i v e;obtain⟨a,vs,rfl,ha,ra⟩:=r1.gg;obtain⟨z,h1,h2⟩:=ra.m5 e;exact .inr (.inl ⟨a,vs,i,z,rfl,r2.cE,ha,h1,h ρ H z (aF.refl _ _) sr h2⟩)
  .exact h.elim
 case loc.int n i=>
  unfold b5 at h;dsimp only at h;split at h
  .rename_i us e;split at h
   .rename_i v e';obtain⟨a,rfl,ha⟩:=r1.d?;obtain⟨vs,hs,rv⟩:=bp sr e ha;obtain⟨z,h1,h2⟩:=rv.m5 e';exact .inl ⟨a,vs,i,z,rfl,r2.cE,hs,h1,h ρ H z (aF.refl _ _) sr h2⟩
   .exact h.elim
  .exact h.elim
 case str.int z i=>
  unfold b5 at h;dsimp only at h;split at h
  .rename_i hz;split at h
   .rename_i c e;exact .inr (.inr ⟨z,i,c,r1.fg,r2.cE,hz,e,h ρ H _ (aF.refl _ _) sr (Rl.mkStr _)⟩)
   .exact h.elim
  .exact h.elim
def b9:FN
 |[.tup us],st=>.ok (.int us.length) st
 |[.loc n],st=>match au st n with
  |some us=>.ok (.int us.length) st
  |none=>.bad
 |[.str z],st=>if z.length<=sizeLine then .ok (.int z.length) st else .bad
 |_,_=>.bad
theorem Ah:b6 X (.builtin "len") (cM (wo X) E b9):=by
 refine b6.imp (b6.or r_ r!) ?_;rintro xs H Q ⟨ρ,st,us,sr,r,h⟩
 match us,r,h with
 |[],_,h=>exact h.elim
 |[.tup ws],r,h=>
  obtain⟨v,rfl,r1⟩:=r.wq;obtain⟨a,vs,rfl,ha,ra⟩:=r1.gg;refine .inl ⟨a,vs,rfl,.inr ha,?_⟩;rw[<-ra.length];exact d4 sr h
 |[.loc n],r,h=>
  obtain⟨v,rfl,r1⟩:=r.wq;obtain⟨a,rfl,ha⟩:=r1.d?;unfold b9 at h;dsimp only at h;split at h
  .rename_i ws e;obtain⟨vs,hs,rv⟩:=bp sr e ha;refine .inl ⟨a,vs,rfl,.inl hs,?_⟩;rw[<-rv.length];exact d4 sr h
  .exact h.elim
 |[.str z],r,h=>
  obtain⟨v,rfl,r1⟩:=r.wq;unfold b9 at h;dsimp only at h;split at h
  .rename_i hz;exact .inr ⟨z,by rw[r1.fg],hz,d4 sr h⟩
  .exact h.elim
 |[.fc],_,h=>exact h.elim
 |[.bl _],_,h=>exact h.elim
 |[.int _],_,h=>exact h.elim
 |[.exc _],_,h=>exact h.elim
 |[.fn _ _],_,h=>exact h.elim
 |[.mt _],_,h=>exact h.elim
 |x::y::r,_,h=>cases x<;>exact h.elim
def gQ:FN
 |[.int i],st=>.ok (.int (if i<0 then -i else i)) st
 |_,_=>.bad
theorem Ai:b6 X (.builtin "abs") (cM (wo X) E gQ):=by
 refine b6.imp BK ?_;rintro xs H Q ⟨ρ,st,us,sr,r,h⟩;unfold gQ at h;split at h
 .rename_i i;obtain⟨v,rfl,r1⟩:=r.wq;exact⟨i,by rw[r1.cE],d4 sr h⟩
 .exact h.elim
def kR:FN
 |[.tup us],st=>.ok (.tup us) st
 |[.loc n],st=>match au st n with
  |some us=>.ok (.tup us) st
  |none=>.bad
 |_,_=>.bad
theorem Aj:b6 X (.type "tuple") (cM (wo X) E kR):=by
 refine b6.imp qq ?_;rintro xs H Q ⟨ρ,st,us,sr,r,h⟩;unfold kR at h;split at h
 .rename_i ws;obtain⟨v,rfl,r1⟩:=r.wq;obtain⟨a,vs,rfl,ha,ra⟩:=r1.gg;exact⟨a,vs,rfl,.inr ⟨ha,h ρ H _ (aF.refl _ _) sr r1⟩⟩
 .rename_i n;obtain⟨v,rfl,r1⟩:=r.wq;obtain⟨a,rfl,ha⟩:=r1.d?;split at h
  .rename_i ws e;obtain⟨vs,hs,rv⟩:=bp sr e ha;refine⟨a,vs,rfl,.inl ⟨hs,fun l hl=>?_⟩⟩;have s:=dk (o:=.tup vs) hl;exact h ρ _ _ (aF.same s) (sr.grow s) (Rl.oV cL (a_.mono (aF.same s) _ _ rv))
  .exact h.elim
 .exact h.elim
def uU:FN
 |[.tup us],st=>.ok (.loc st.length) (st++[.lst us])
 |[.loc n],st=>match au st n with
  |some us=>.ok (.loc st.length) (st++[.lst us])
  |none=>.bad
 |_,_=>.bad
theorem Ak:b6 X (.type "list") (cM (wo X) E uU):=by
 refine b6.imp r? ?_;rintro xs H Q ⟨ρ,st,us,sr,r,h⟩;unfold uU at h;split at h
 .rename_i ws;obtain⟨v,rfl,r1⟩:=r.wq;obtain⟨a,vs,rfl,ha,ra⟩:=r1.gg;refine⟨a,vs,rfl,.inr ha,fun l hl=>?_⟩;obtain⟨k1,k2,k3⟩:=eO sr ra hl;exact h _ _ _ k1 k2 k3
 .rename_i n;obtain⟨v,rfl,r1⟩:=r.wq;obtain⟨a,rfl,ha⟩:=r1.d?;split at h
  .rename_i ws e;obtain⟨vs,hs,rv⟩:=bp sr e ha;refine⟨a,vs,rfl,.inl hs,fun l hl=>?_⟩;obtain⟨k1,k2,k3⟩:=eO sr rv hl;exact h _ _ _ k1 k2 k3
  .exact h.elim
 .exact h.elim
def g!:List av->Option (List Bool)
 |[]=>some []
 |.bl b::r=>(g! r).map (b :: ·)
 |_=>none
theorem qV{K:_u}{ρ:_y}{H:Hp}:∀{us:List av}{bs:List Bool}{vs:List V}{aD:_w},g! us=some bs->a_ K ρ H us vs->bg vs aD->LSm.BoolsAre aD bs
 |[],bs,vs,aD,h,r,v=>by cases h;have:=r.fe;subst this;cases v;exact .nil
 |u::us,bs,vs,aD,h,r,v=>by
  cases u with
  |bl b=>
   simp only[g!]at h;cases z:g! us with
   |none=>rw[z]at h;cases h
   |some Vf=>
    rw[z]at h;cases h;obtain⟨x,r',rfl,h2,h3⟩:=r.cP;have:=h2.sA;subst this;cases v with
    |cons q1 q2=>
     cases q1;exact .cons b (qV z h3 q2)
  |_=>cases h
theorem oY(hh:X.A.handled=none):b6 X (.builtin "all") (fun xs H Q=>∃a ρ us vs bs,xs=[.ref a]/\j9 X.K H a vs/\a_ X.K ρ H us vs/\g! us=some bs/\Q (.bl (bs.all id)) H):=by
 rintro af s σ H xs ws Q I r ⟨a,ρ,us,vs,bs,rfl,hs,rv,hb,q⟩;obtain⟨u,rfl,ru⟩:=vals1 r;cases ru;obtain⟨aD,r1,p1,_⟩:=I.list hs;have B:=qV hb rv r1;have hl:=p1.isList;have uN:a<s.heap.objs.size:=by obtain⟨_,e,_⟩:=hl;exact Vy e
 refine call_all_walk (Zf hl ?_);refine⟨s.heap.objs.size,[s.heap.objs.size,a],[s.heap.objs.size],aD.toArray.size,_,_,fun i=>(bs[i]?).getD true,rfl,Walks.list (A:=X.A.in1) hh _ a (V2 uN) aD.toArray,
  ⟨⟨_,VN _ rfl,rfl,rfl⟩,hl.push _⟩,fun i v s' Q' E' hP hQ=>?_,fun h' tk hk=>?_⟩
 .obtain⟨b,e,rfl⟩:=B.get i v (by simpa using hP);simp only[e,Option.getD_some]at hQ;exact W5 hQ
 .have e:((List.range aD.toArray.size).all fun i=>(bs[i]?).getD true)=bs.all id:=by rw[VD,B.length];exact LSm.range_all bs
  rw[e];exact⟨.bl _,H,I.kept (LSm.kept_iter hk),rfl,q⟩
def l8:FN
 |[.loc n],st=>match au st n with
  |some us=>match g! us with
   |some bs=>.ok (.bl (bs.all id)) st
   |none=>.bad
  |none=>.bad
 |_,_=>.bad
theorem Al(hh:X.A.handled=none):b6 X (.builtin "all") (cM (wo X) E l8):=by
 refine b6.imp (oY hh) ?_;rintro xs H Q ⟨ρ,st,us,sr,r,h⟩;unfold l8 at h;split at h
 .rename_i n;obtain⟨v,rfl,r1⟩:=r.wq;obtain⟨a,rfl,ha⟩:=r1.d?;split at h
  .rename_i ws e;split at h
   .rename_i bs hb;obtain⟨vs,hs,rv⟩:=bp sr e ha;exact⟨a,ρ,ws,vs,bs,rfl,hs,rv,hb,iO sr h⟩
   .exact h.elim
  .exact h.elim
 .exact h.elim
def kindOf(st:aj):av->Option String
 |.fc=>some "NoneType"
 |.bl _=>some "bool"
 |.int _=>some "int"
 |.str _=>some "str"
 |.tup _=>some "tuple"
 |.loc n=>match st[n]? with
  |some (.lst _)=>some "list"
  |some (.JR _)=>some "list"
  |some (.mod _)=>none
  |some (.dK _)=>some "dict"
  |some (.dT _)=>some "dict"
  |_=>none
 |_=>none
def Nn(T:String)(st:aj)(v:av):Option Bool:=(kindOf st v).map fun k=>k==T || (k == "bool" && T == "int")
def m9(T:String)(m:ME):ME:=fun μ st=>(m μ st).bind fun v ax=>match Nn T ax v with
 |some b=>.ok (.bl b) ax
 |none=>.bad
def Am(K:_u)(T:String):Prop:=∀k∈["NoneType","bool","int","str","tuple","list","dict"],W.kitOne K (.type k) (.type T)=some (k==T || (k == "bool" && T == "int"))
theorem wY{st:aj}{v:av}{k:String}(h:kindOf st v=some k):k∈["NoneType","bool","int","str","tuple","list","dict"]:=by
 unfold kindOf at h;split at h
 all_goals first
  |(cases h;decide)
  |(split at h<;>first|(cases h;decide)|cases h)
  |cases h
theorem Cz{af:_t}{σ:St}{H:Hp}{s:_B}{A:_D}{E:_r}{Q:_r}{c:_A}{b:Bool}{ρ:_y}{st:aj}{u:av}{x:V}{v:_A}{k:String}(I:aH X af σ H s)(sr:SR X.K ρ st H)(r:Rl X.K ρ H u x)(q:bD x v)(hk:kindOf st u=some k)(e:W.kitOne X.K (.type k) c=some b)(h:∀tk,Q (.bool b) {s with toks:=tk}):
  wpAny (model X.prog X.w) A (call (.builtin "isinstance") [v,c]) Q E s:=by
 cases u with
 |fc=>cases hk;have:=r.oU;subst this;exact e8 I q .fc e h
 |bl y=>cases hk;have:=r.sA;subst this;exact e8 I q (.bl y) e h
 |int i=>cases hk;have:=r.cE;subst this;exact e8 I q (.int i) e h
 |str y=>cases hk;have:=r.fg;subst this;exact e8 I q (.str y) e h
 |tup us=>
  cases hk;obtain⟨a,vs,rfl,ha,ra⟩:=r.gg;cases q;obtain⟨aD,r1,⟨o,h1,h2,_⟩,_⟩:=I.tuple ha;exact Ww ZX I.ql ⟨o,h1,h2⟩ e (fun z=>nomatch z) h
 |loc n=>
  obtain⟨a,rfl,ha⟩:=r.d?;obtain⟨cl,hc,kc⟩:=sr.there ha;simp only[kindOf,hc]at hk;cases cl with
  |lst us=>cases hk;obtain⟨vs,h1,_⟩:=kc;exact e8 I q (.lst h1) e h
  |JR us=>cases hk;obtain⟨o,vs,h1,_⟩:=kc;exact e8 I q (.j6 h1) e h
  |mod us=>cases hk
  |dK us=>cases hk;obtain⟨vs,h1,_⟩:=kc;exact e8 I q (.dK h1) e h
  |dT us=>cases hk;obtain⟨vs,h1,_⟩:=kc;exact e8 I q (.dT h1) e h
  |tab _ _ _ _=>cases hk
  |ins _ _=>cases hk
  |fd _=>cases hk
 |exc c=>cases hk
 |fn k c=>cases hk
 |mt us=>cases hk
theorem oZ{T:String}{x:Str}{e:Expr}{m:ME}{p q:Pos}(hK:Am X.K T)(hg:Gl X "isinstance")(hm:X.mg "isinstance" = none)(T5:Gl X x)(T6:X.mg x=none)(T7:bootBuiltins x=some (.type T))(he:PE X e (tE X E m))(hn:x ≠ "__name__":=by decide)(hd:(x==("__debug__":Str))=false:=by decide)(hs:starEach [e,.Name x q] X.env=(false,eval e X.env)::starEach [.Name x q] X.env:=by rfl)(gA:starEach [.Name x q] X.env=(false,eval (.Name x q) X.env)::starEach [] X.env:=by rfl)(kD:(backTo pos (starEach [.Name x q] X.env)).any (·.1)=false:=by rfl):PE X (.Call (.Name "isinstance" p) [e,.Name x q] [] pos) (tE X E (m9 T m)):=by
 have hc:b6 X (.builtin "isinstance") (fun xs H Q=>∃y ρ st u k b,xs=[y,.ty T]/\SR X.K ρ st H/\Rl X.K ρ H u y/\kindOf st u=some k/\W.kitOne X.K (.type k) (.type T)=some b/\Q (.bl b) H):=by rintro af s σ H xs us Q I r ⟨y,ρ,st,u,k,b,rfl,sr,r1,h1,h2,h3⟩;obtain⟨v1,v2,rfl,q1,q2⟩:=vals2 r;cases q2;exact Cz I sr r1 q1 h1 h2 fun tk=>⟨.bl b,H,I.tok tk,rfl,h3⟩
 refine PE.imp (uz hc hg hm PyProof.Rows.boot_isinstance (oo he (oo (EU (v:=.ty T) T5 T6 T7 rfl hn hd) wG gA) hs) (by decide) (by decide) hs kD) ?_;rintro σ H Q ⟨μ,ρ,st,rs,sr,h⟩;refine go μ ρ st rs sr h fun u st1 ρ1 H1 x e1 bP r1 h1=>?_;cases z:kindOf st1 u with
 |none=>simp only[Nn,z]at h1;exact h1.elim
 |some k=>
  simp only[Nn,z]at h1;exact⟨x,ρ1,st1,u,k,_,rfl,bP,r1,z,hK k (wY z),iO bP h1⟩
end
theorem CA{K:_u}:Am K "int":=by intro k hk;simp only[VG,Xz,Yp]at hk;rcases hk with rfl|rfl|rfl|rfl|rfl|rfl|rfl<;>first|rfl|kernel_rfl
theorem An{K:_u}:Am K "bool":=by intro k hk;simp only[VG,Xz,Yp]at hk;rcases hk with rfl|rfl|rfl|rfl|rfl|rfl|rfl<;>first|rfl|kernel_rfl
theorem wZ{K:_u}:Am K "tuple":=by intro k hk;simp only[VG,Xz,Yp]at hk;rcases hk with rfl|rfl|rfl|rfl|rfl|rfl|rfl<;>first|rfl|kernel_rfl
theorem Ao{K:_u}:Am K "list":=by intro k hk;simp only[VG,Xz,Yp]at hk;rcases hk with rfl|rfl|rfl|rfl|rfl|rfl|rfl<;>first|rfl|kernel_rfl
theorem CB{K:_u}:Am K "str":=by intro k hk;simp only[VG,Xz,Yp]at hk;rcases hk with rfl|rfl|rfl|rfl|rfl|rfl|rfl<;>first|rfl|kernel_rfl
abbrev AS:=av->Env->Option Env
def ay(i:Nat):AS:=fun v μ=>some (μ.set i (some v))
def qX:List AS->List av->Env->Option Env
 |[],[],μ=>some μ
 |a::as,v::vs,μ=>(a v μ).bind fun μ'=>qX as vs μ'
 |_,_,_=>none
def fM(l:List AS):AS:=fun v μ=>match v with
 |.tup vs=>qX l vs μ
 |_=>none
def tA(W:Wo)(a:AS):TG:=fun v σ H Q=>∃μ ρ u μ',RS W ρ H μ σ/\Rl W.K ρ H u v/\a u μ=some μ'/\∀σ',RS W ρ H μ' σ'->Q σ' H
def OU(W:Wo)(l:List AS):E2:=fun vs σ H Q=>∃μ ρ us μ',RS W ρ H μ σ/\a_ W.K ρ H us vs/\qX l us μ=some μ'/\∀σ',RS W ρ H μ' σ'->Q σ' H
section
variable{X:Cx}{pos:Pos}
theorem wz.imp{e:List Expr}{t t':E2}(h:wz X e t)(k:∀v σ H Q,t' v σ H Q->t v σ H Q):wz X e t':=fun af s σ H v u Q I r q=>h af s σ H v u Q I r (k v σ H Q q)
theorem FY(i:Nat){x:Str}(hN:X.N.Nodup)(hi:X.N[i]?=some x:=by rfl)(hx:Loc X.env.scope x:=by first|exact Or.inl rfl|exact Or.inr rfl)(hf:X.fn x=true\/X.env.scope.names.lookup x=some .local:=by first|exact .inl rfl|exact .inr rfl|assumption):PG X (.Name x pos) (tA (wo X) (ay i)):=by refine PG.imp (E3 hN hi hx hf) ?_;rintro v σ H Q ⟨μ,ρ,u,μ',rs,r,e,q⟩;cases e;exact q _ (rs.set i r)
theorem FZ:wz X [] (OU (wo X) []):=by
 refine wz.imp E4 ?_;rintro vs σ H Q ⟨μ,ρ,us,μ',rs,r,e,q⟩;cases us with
 |nil=>cases e;exact⟨r.fe,q σ rs⟩
 |cons=>cases e
theorem CC{e:Expr}{es:List Expr}{a:AS}{as:List AS}(h1:PG X e (tA (wo X) a))(h2:wz X es (OU (wo X) as))(hs:(assignEach (e::es) X.env).map (·.2)=assign e X.env::(assignEach es X.env).map (·.2):=by rfl):wz X (e::es) (OU (wo X) (a::as)):=by
 refine wz.imp (BD h1 h2 hs) ?_;rintro vs σ H Q ⟨μ,ρ,us,μ',rs,r,e,q⟩;cases us with
 |nil=>cases e
 |cons u us=>
  obtain⟨v,r',rfl,ru,rr⟩:=r.cP;unfold qX at e;cases z:a u μ with
  |none=>rw[z]at e;cases e
  |some μ1=>
   rw[z]at e;exact⟨v,r',rfl,μ,ρ,u,μ1,rs,ru,z,fun σ1 FO=>⟨μ1,ρ,us,μ',FO,rr,e,q⟩⟩
theorem J!{es:List Expr}{k:Nat}{l:List AS}(hc:X.calm=true)(h:wz X es (OU (wo X) l))(hn:(assignEach es X.env).length=l.length:=by rfl)(Ez:(assignEach es X.env).findIdx? (·.1)=none:=by rfl):PG X (.Tuple es k pos) (tA (wo X) (fM l)):=by
 refine PG.imp (IJ hc h hn Ez) ?_;rintro v σ H Q ⟨μ,ρ,u,μ',rs,r,e,q⟩;cases u with
 |tup us=>
  obtain⟨a,vs,rfl,ha,ra⟩:=r.gg;have len:∀(l:List AS)(us:List av)(μ:Env),qX l us μ=some μ'->us.length=l.length:=by
   intro l
   induction l with
   |nil=>intro us μ e;cases us with|nil=>rfl|cons=>cases e
   |cons a l ih=>
    intro us μ e;cases us with
    |nil=>cases e
    |cons u us=>
     unfold qX at e;cases z:a u μ with
     |none=>rw[z]at e;cases e
     |some μ1=>rw[z]at e;rw[Vl,Vl,ih us μ1 e]
  exact⟨a,vs,rfl,ha,by rw[<-ra.length];exact len _ _ _ e,μ,ρ,us,μ',rs,ra,e,q⟩
 |_=>cases e
def T8(a:AS)(m:ME):MB:=fun μ st=>(m μ st).sb μ fun v ax=>match a v μ with
 |some μ'=>.nx μ' ax
 |none=>.bad
end
abbrev Itm:=List av×(aj->Prop)
abbrev MI:=Env->aj->cX Itm
def J?(K:_u)(ρ0:_y)(H0:Hp)(p:Itm)(J:It):Prop:=
 ∀ρ st H,aF ρ0 H0 ρ H->SR K ρ st H->p.2 st->∀i:Nat,
  (∀u,p.1[i]?=some u->J.go i H/\∀x H',J.Mf i H x H'->aF ρ H ρ H'/\SR K ρ st H'/\Rl K ρ H' u x)/\(p.1.length<=i->J.stop i H)
abbrev tI(X:Cx)(E:XK)(m:MI):TI:=tG (wo X) E (J? X.K) m
section
variable{X:Cx}{E:XK}{tg:Expr}{pos p:Pos}
theorem PI.imp{it:Expr}{t t':TI}(h:PI X tg it t)(k:∀σ H Q,t' σ H Q->t σ H Q):PI X tg it t':=fun af s σ H R I q=>h af s σ H R I (k σ H R q)
theorem Kc{l:Expr}{tl:TE}(hl:PE X l tl):PI X tg l (fun σ H R=>tl σ H fun x H1=>∃a,x=.ref a/\(((∃xs,j9 X.K H1 a xs)/\R (PV X.K a) H1)\/((∃xs,iW X.K H1 a xs)/\R (PX X.K a) H1))):=by
 intro af s σ H R I h;refine cf (hl af s σ H _ I h) fun v s1⟨x,H1,I1,r1,q1⟩=>?_;obtain⟨a,e,q⟩:=q1;subst e;cases r1;rcases q with⟨⟨xs,hq⟩,q⟩|⟨⟨xs,hq⟩,q⟩
 .obtain⟨aD,rv,p,hz⟩:=I1.list hq;refine Zf p.isList ?_;refine⟨s1.heap.objs.size,[s1.heap.objs.size],_,_,H1,rfl,I1.kept (t':=s1.toks) fun b o e=>Vm _ e,zK a _,⟨_,VN _ rfl,rfl,rfl⟩,fun b hb=>?_,q⟩;have e:b=s1.heap.objs.size:=by simpa using hb
  subst e;exact I1.zJ (Vq _) (I1.b_.fresh (Vq _))
 .obtain⟨aD,rv,p,hz⟩:=I1.tuple hq;refine Xi (show s1.heap.IsTuple a aD.toArray from p) ?_;refine⟨s1.heap.objs.size,[s1.heap.objs.size],_,_,H1,rfl,I1.kept (t':=s1.toks) fun b o e=>Vm _ e,wA a _,⟨_,VN _ rfl,rfl,rfl⟩,fun b hb=>?_,q⟩;have e:b=s1.heap.objs.size:=by simpa using hb
  subst e;exact I1.zJ (Vq _) (I1.b_.fresh (Vq _))
def o_(st:aj):av->Option Itm
 |.tup us=>some (us,fun _=>True)
 |.mt us=>some (us,fun _=>True)
 |.loc n=>(au st n).map fun us=>(us,fun ax=>au ax n=some us)
 |_=>none
def cQ(m:ME):MI:=fun μ st=>(m μ st).bind fun v ax=>match o_ ax v with
 |some p=>.ok p ax
 |none=>.bad
theorem CD{K:_u}{ρ:_y}{H:Hp}{n:Nat}{us:List av}{a:_C}(ha:ρ[n]?=some a)(QP:∀{ρ':_y}{ax:aj}{H':Hp},SR K ρ' ax H'->au ax n=some us->ρ'[n]?=some a->∃vs,j9 K H' a vs/\a_ K ρ' H' us vs):
  J? K ρ H (us,fun ax=>au ax n=some us) (PV K a):=by
 intro ρ' ax H' e sr g i;obtain⟨vs,hs,rv⟩:=QP sr g (e.at_ ha);refine⟨fun u hu=>?_,fun hi=>⟨vs,hs,by rw[<-rv.length];exact hi⟩⟩;obtain⟨v,hv,ru⟩:=rv.get hu;refine⟨⟨vs,v,hs,hv⟩,fun x OV y=>?_⟩;obtain⟨rfl,y⟩:=y;have e:=(y vs hs).symm.trans hv;cases e;exact⟨aF.refl _ _,sr,ru⟩
theorem yy{K:_u}{ρ:_y}{H:Hp}{us:List av}{a:_C}{vs:List V}(ha:iW K H a vs)(ra:a_ K ρ H us vs):J? K ρ H (us,fun _=>True) (PX K a):=by intro ρ' ax H' e sr g i;have LO:iW K H' a vs:=e.OR ha;have rv:=a_.mono e _ _ ra;refine⟨fun u hu=>?_,fun hi=>⟨vs,LO,by rw[<-rv.length];exact hi⟩⟩;obtain⟨v,hv,ru⟩:=rv.get hu;refine⟨⟨vs,v,LO,hv⟩,fun x OV y=>?_⟩;obtain⟨rfl,y⟩:=y;have e:=(y vs LO).symm.trans hv;cases e;exact⟨aF.refl _ _,sr,ru⟩
theorem Kd{l:Expr}{m:ME}(hl:PE X l (tE X E m)):PI X tg l (tI X E (cQ m)):=by
 refine PI.imp (Kc hl) ?_;rintro σ H R ⟨μ,ρ,st,rs,sr,h⟩;refine go μ ρ st rs sr h fun u st1 ρ1 H1 x e1 bP r1 h1=>?_;cases u with
 |tup us=>
  obtain⟨a,vs,rfl,ha,ra⟩:=r1.gg;exact⟨a,rfl,.inr ⟨⟨vs,ha⟩,h1 ρ1 H1 _ (aF.refl _ _) bP (yy ha ra)⟩⟩
 |mt us=>
  obtain⟨a,vs,rfl,ha,ra⟩:=r1.QK;exact⟨a,rfl,.inr ⟨⟨vs,ha⟩,h1 ρ1 H1 _ (aF.refl _ _) bP (yy ha ra)⟩⟩
 |loc n=>
  obtain⟨a,rfl,ha⟩:=r1.d?;cases z:au st1 n with
  |none=>simp only[o_,z]at h1;exact h1.elim
  |some us=>
   simp only[o_,z]at h1;obtain⟨vs,hs,rv⟩:=bp bP z ha;exact⟨a,rfl,.inl ⟨⟨vs,hs⟩,h1 ρ1 H1 _ (aF.refl _ _) bP (CD ha fun s g h=>bp s g h)⟩⟩
 |_=>exact h1.elim
def aW(lo:Int)(n:Nat):List av:=(List.range n).map fun(i:Nat)=>av.int (lo+(i:Int))
theorem qY{K:_u}{ρ:_y}{H:Hp}(lo:Int)(n:Nat):J? K ρ H (aW lo n,fun _=>True) (Mi lo n):=by
 intro ρ' ax H' e sr g i;refine⟨fun u hu=>?_,fun hi=>?_⟩
 .have hi:i<n:=by have:=fh hu;simpa[aW]using this
  refine⟨hi,fun x OV y=>?_⟩;obtain⟨rfl,rfl⟩:=y;have e:u=av.int (lo+(i:Int)):=by simp only[aW,VU]at hu;rw[Yy hi]at hu;exact(V? hu).symm
  subst e;exact⟨aF.refl _ _,sr,Rl.mkInt _⟩
 .show n<=i;simpa[aW]using hi
def bE(m:MA):MI:=fun μ st=>(m μ st).bind fun vs ax=>match vs with
 |[.int j]=>if -(2 ^ 62)<=j/\j<2 ^ 62 then .ok (aW 0 j.toNat,fun _=>True) ax else .bad
 |_=>.bad
def jD(m:MA):MI:=fun μ st=>(m μ st).bind fun vs ax=>match vs with
 |[.int i,.int j]=>if -(2 ^ 62)<=i/\i<2 ^ 62/\-(2 ^ 62)<=j/\j<2 ^ 62 then .ok (aW i (j-i).toNat,fun _=>True) ax else .bad
 |_=>.bad
theorem Ap{a:Expr}{m:MA}(hg:Gl X "range")(hm:X.mg "range" = none)(ha:PA X [a] (tL X E m))(hs:starEach [a] X.env=[(false,eval a X.env)]:=by rfl):PI X tg (.Call (.Name "range" p) [a] [] pos) (tI X E (bE m)):=by
 refine PI.imp (zL hg hm ha hs) ?_;rintro σ H R ⟨μ,ρ,st,rs,sr,h⟩;refine go (R1:=a_ X.K) μ ρ st rs sr h fun us st1 ρ1 H1 xs e1 bP r1 h1=>?_;split at h1
 .rename_i j;obtain⟨v,rfl,rv⟩:=r1.wq;split at h1
  .rename_i hz;exact⟨j,by rw[rv.cE],hz.1,hz.2,h1 ρ1 H1 _ (aF.refl _ _) bP (qY 0 j.toNat)⟩
  .exact h1.elim
 .exact h1.elim
theorem Aq{a b:Expr}{m:MA}(hg:Gl X "range")(hm:X.mg "range" = none)(ha:PA X [a,b] (tL X E m))(hs:starEach [a,b] X.env=[(false,eval a X.env),(false,eval b X.env)]:=by rfl)(gA:starEach [b] X.env=[(false,eval b X.env)]:=by rfl):
  PI X tg (.Call (.Name "range" p) [a,b] [] pos) (tI X E (jD m)):=by
 refine PI.imp (zM hg hm ha hs gA) ?_;rintro σ H R ⟨μ,ρ,st,rs,sr,h⟩;refine go (R1:=a_ X.K) μ ρ st rs sr h fun us st1 ρ1 H1 xs e1 bP r1 h1=>?_;split at h1
 .rename_i i j;obtain⟨v,w,rfl,rv,wJ⟩:=r1.Sx;split at h1
  .rename_i hz;exact⟨i,j,by rw[rv.cE,wJ.cE],hz,h1 ρ1 H1 _ (aF.refl _ _) bP (qY i _)⟩
  .exact h1.elim
 .exact h1.elim
def gv(st:aj):av->Option (Bool×Itm)
 |.tup us=>some (false,us,fun _=>True)
 |.loc n=>(au st n).map fun us=>(true,us,fun ax=>au ax n=some us)
 |_=>none
def o!:List av->List av->List av
 |x::xs,y::ys=>.tup [x,y]::o! xs ys
 |_,_=>[]
theorem yz:∀(us ws:List av)(i:Nat),(∀z,(o! us ws)[i]?=some z->∃u w,us[i]?=some u/\ws[i]?=some w/\z=.tup [u,w])/\((o! us ws).length<=i->us.length<=i\/ws.length<=i)
 |[],_,i=>⟨fun z h=>(by cases h),fun _=>.inl (V' _)⟩
 |_::_,[],i=>⟨fun z h=>(by cases h),fun _=>.inr (V' _)⟩
 |u::us,w::ws,0=>⟨fun z h=>(by cases h;exact⟨u,w,rfl,rfl,rfl⟩),fun h=>(by simp[o!]at h)⟩
 |u::us,w::ws,i+1=>by
  obtain⟨a,b⟩:=yz us ws i;refine⟨fun z h=>a z h,fun h=>?_⟩;have h':(o! us ws).length<=i:=by simpa[o!]using h
  rcases b h' with q|q
  .exact .inl (by rw[Vl];lia)
  .exact .inr (by rw[Vl];lia)
def o?(b1 b2:Bool)(m:MA):MI:=fun μ st=>(m μ st).bind fun vs ax=>match vs with
 |[u,w]=>match gv ax u,gv ax w with
  |some (c1,us,g1),some (c2,ws,g2)=>if c1=b1/\c2=b2 then .ok (o! us ws,fun st2=>g1 st2/\g2 st2) ax else .bad
  |_,_=>.bad
 |_=>.bad
theorem yA{K:_u}{ρ:_y}{st:aj}{H:Hp}{u:av}{x:V}{c:Bool}{us:List av}{g:aj->Prop}(sr:SR K ρ st H)(r:Rl K ρ H u x)(h:gv st u=some (c,us,g))(QP:∀{ρ':_y}{ax:aj}{H':Hp}{n a},SR K ρ' ax H'->au ax n=some us->ρ'[n]?=some a->∃vs,j9 K H' a vs/\a_ K ρ' H' us vs):
  ∃a,x=.ref a/\∀ρ' ax H',aF ρ H ρ' H'->SR K ρ' ax H'->g ax->∃vs,wQ c K H' a vs/\a_ K ρ' H' us vs:=by
 cases u with
 |tup ws=>
  cases h;obtain⟨a,vs,rfl,ha,ra⟩:=r.gg;exact⟨a,rfl,fun ρ' ax H' e _ _=>⟨vs,e.OR ha,a_.mono e _ _ ra⟩⟩
 |loc n=>
  obtain⟨a,rfl,ha⟩:=r.d?;cases z:au st n with
  |none=>simp only[gv,z]at h;cases h
  |some ws=>
   simp only[gv,z]at h;cases h;exact⟨a,rfl,fun ρ' ax H' e s g=>QP s g (e.at_ ha)⟩
 |_=>cases h
theorem CF{st:aj}{u:av}{c:Bool}{us:List av}{g:aj->Prop}(h:gv st u=some (c,us,g)):g st:=by
 cases u with
 |tup ws=>cases h;exact True.intro
 |loc n=>
  cases z:au st n with
  |none=>simp only[gv,z]at h;cases h
  |some ws=>simp only[gv,z]at h;cases h;exact z
 |_=>cases h
theorem Ke(b1 b2:Bool){elts:List Expr}{kt:Nat}{tp:Pos}{ea eb:Expr}{m:MA}(hg:Gl X "zip")(hm:X.mg "zip" = none)(ha:PA X [ea,eb] (tL X E m))(hs:starEach [ea,eb] X.env=[(false,eval ea X.env),(false,eval eb X.env)]:=by rfl)(gA:starEach [eb] X.env=[(false,eval eb X.env)]:=by rfl):
  PI X (.Tuple elts kt tp) (.Call (.Name "zip" p) [ea,eb] [] pos) (tI X E (o? b1 b2 m)):=by
 refine PI.imp (JH b1 b2 hg hm ha hs gA) ?_;rintro σ H R ⟨μ,ρ,st,rs,sr,h⟩;refine go (R1:=a_ X.K) μ ρ st rs sr h fun us st1 ρ1 H1 xs e1 bP r1 h1=>?_;split at h1
 .rename_i u w;obtain⟨x,y,rfl,rx,ry⟩:=r1.Sx;split at h1
  .rename_i c1 T9 g1 c2 T_ g2 z1 z2;split at h1
   .rename_i hc;obtain⟨rfl,rfl⟩:=hc;obtain⟨a,rfl,ka⟩:=yA bP rx z1 fun s g h=>bp s g h;obtain⟨b,rfl,kb⟩:=yA bP ry z2 fun s g h=>bp s g h;obtain⟨v1,q1,_⟩:=ka ρ1 st1 H1 (aF.refl _ _) bP (CF z1);obtain⟨v2,q2,_⟩:=kb ρ1 st1 H1 (aF.refl _ _) bP (CF z2);refine⟨a,b,rfl,⟨v1,q1⟩,⟨v2,q2⟩,h1 ρ1 H1 _ (aF.refl _ _) bP ?_⟩;intro ρ' ax H' e s g i;obtain⟨w1,s1,t1⟩:=ka ρ' ax H' e s g.1;obtain⟨w2,s2,t2⟩:=kb ρ' ax H' e s g.2;obtain⟨k1,k2⟩:=yz T9 T_ i;refine⟨fun z hz=>?_,fun hi=>⟨w1,w2,s1,s2,?_⟩⟩
    .obtain⟨u',w',T!,T?,rfl⟩:=k1 z hz;obtain⟨p1,p2,p3⟩:=t1.get T!;obtain⟨o1,o2,o3⟩:=t2.get T?;refine⟨⟨w1,w2,p1,o1,s1,s2,p2,o2⟩,fun x' OV y'=>?_⟩;obtain⟨pp,x1,y1,rfl,hp,rfl,f1,f2⟩:=y';have c1:=(f1 w1 s1).symm.trans p2;have c2:=(f2 w2 s2).symm.trans o2;cases c1;cases c2;exact⟨aF.same (dk hp),s.grow (dk hp),Rl.oV cL (a_.mono (aF.same (dk hp)) _ _ (a_.cons p3 (a_.one o3)))⟩
    .rw[<-t1.length,<-t2.length];exact k2 hi
   .exact h1.elim
  .exact h1.elim
 .exact h1.elim
end
open Classical in
def forL(g:aj->Prop)(a:AS)(body:MB):List av->MB
 |[],μ,st=>if g st then .nx μ st else .bad
 |u::us,μ,st=>if g st then(match a u μ with
  |some μ1=>match body μ1 st with
   |.nx μ' ax=>forL g a body us μ' ax
   |.ct μ' ax=>forL g a body us μ' ax
   |.bk μ' ax=>.nx μ' ax
   |.rt v ax=>.rt v ax
   |.er c μ' ax=>.er c μ' ax
   |.bad=>.bad
  |none=>.bad)else .bad
def dO(it:MI)(a:AS)(body:MB):MB:=fun μ st=>(it μ st).sb μ fun p ax=>forL p.2 a body p.1 μ ax
section
variable{X:Cx}{E:XK}{tg:Expr}{pos p:Pos}
theorem Kf{iter:Expr}{sb:List Stmt}{it:MI}{a:AS}{body:MB}(hp:PassesOwn (model X.prog X.w) X.A X.env X.xe)(hc:X.calm=true)(hi:PI X tg iter (tI X E it))(hg:PG X tg (tA (wo X) a))(hb:jJ X sb (tS X E body))(hs:∀x,foldedSetIterable iter X.env x=pure x:=by intro _;rfl):PS X (.For tg iter sb [] pos) (tS X E (dO it a body)):=by
 refine PS.imp (IQ hp hc hi hg hb hs) ?_;rintro D σ H ⟨μ,ρ,st,rs,sr,h⟩;refine Bq (R1:=J? X.K) μ ρ st rs sr h fun pr st1 ρ1 H1 J e1 bP rJ h1=>?_;obtain⟨us,g⟩:=pr;refine⟨fun i m σ' H'=>m=us.length-i/\i<=us.length/\∃μ' ρ' ax,aF ρ1 H1 ρ' H'/\RS (wo X) ρ' H' μ' σ'/\SR X.K ρ' ax H'/\wS (wo X) E ρ' H' D (forL g a body (us.drop i) μ' ax),
  ⟨us.length,by simp,V' _,μ,ρ1,st1,aF.refl _ _,rs.mono e1,bP,h1⟩,?_⟩
 rintro i m σ' H' ⟨rfl,hi,μ',ρ',ax,e',uk,pe,h'⟩;by_cases uN:i<us.length
 .rw[WA uN]at h';unfold forL at h';by_cases gr:g ax
  .rw[Vo gr]at h';obtain⟨k1,k2⟩:=rJ ρ' ax H' e' pe gr i;obtain⟨go',yl⟩:=k1 _ (VE uN);refine .inr ⟨go',fun σ2 H2=>i+1<=us.length/\∃μ2 ρ2 st2,aF ρ1 H1 ρ2 H2/\RS (wo X) ρ2 H2 μ2 σ2/\SR X.K ρ2 st2 H2/\wS (wo X) E ρ2 H2 D (forL g a body (us.drop (i+1)) μ2 st2),fun σ2 H2 n=>⟨us.length-(i+1),by lia,rfl,n.1,n.2⟩,fun x H2 y=>?_⟩;obtain⟨e2,ir,r2⟩:=yl x H2 y;cases z:a us[i] μ' with
   |none=>rw[z]at h';exact h'.elim
   |some μ1=>
    rw[z]at h';dsimp only at h';refine⟨μ',ρ',us[i],μ1,uk.mono e2,r2,z,fun σ3 CG=>⟨μ1,ρ',ax,CG,ir,?_⟩⟩;cases zb:body μ1 ax with
    |nx μ4 j?=>
     rw[zb]at h';intro ρ4 H4 σ4 e4 l7 w4;exact⟨by lia,μ4,ρ4,j?,(e'.trans e2).trans e4,w4,l7,wS.mono h' (e2.trans e4)⟩
    |ct μ4 j?=>
     rw[zb]at h';intro ρ4 H4 σ4 e4 l7 w4;exact⟨by lia,μ4,ρ4,j?,(e'.trans e2).trans e4,w4,l7,wS.mono h' (e2.trans e4)⟩
    |bk μ4 j?=>rw[zb]at h';exact fun ρ4 H4 σ4 e4 l7 w4=>h' ρ4 H4 σ4 (e2.trans e4) l7 w4
    |rt v j?=>rw[zb]at h';exact fun ρ4 H4 σ4 e4 l7 w4=>h' ρ4 H4 σ4 (e2.trans e4) l7 w4
    |er c μ4 j?=>rw[zb]at h';obtain⟨C,q1,q2⟩:=h';exact⟨C,q1,fun ρ4 H4 e4 l7=>q2 ρ4 H4 (e2.trans e4) l7⟩
    |bad=>rw[zb]at h';exact h'
  .rw[Vu gr]at h';exact h'.elim
 .have wM:i=us.length:=by lia
  subst wM;rw[X8]at h';unfold forL at h';by_cases gr:g ax
  .rw[Vo gr]at h';exact .inl ⟨(rJ ρ' ax H' e' pe gr us.length).2 (Vq _),h' ρ' H' σ' (aF.refl _ _) pe uk⟩
  .rw[Vu gr]at h';exact h'.elim
end
def fC(t:MT)(body:MB):Nat->Env->aj->Option cg
 |0,_,_=>none
 |n+1,μ,st=>match t μ st with
  |.ok true st1=>match body μ st1 with
   |.nx μ' ax=>fC t body n μ' ax
   |.ct μ' ax=>fC t body n μ' ax
   |.bk μ' ax=>some (.nx μ' ax)
   |.rt v ax=>some (.rt v ax)
   |.er c μ' ax=>some (.er c μ' ax)
   |.bad=>some .bad
  |.ok false st1=>some (.nx μ st1)
  |.err c st1=>some (.er c μ st1)
  |.bad=>some .bad
open Classical in
def l9(t:MT)(body:MB):MB:=fun μ st=>if h:∃n r,fC t body n μ st=some r then h.choose_spec.choose else .bad
theorem i'{t:MT}{body:MB}:∀{n m:Nat}{μ:Env}{st:aj}{r r':cg},fC t body n μ st=some r->fC t body m μ st=some r'->r=r'
 |0,_,_,_,_,_,h,_=>by cases h
 |_+1,0,_,_,_,_,_,h=>by cases h
 |n+1,m+1,μ,st,r,r',h,h'=>by
  unfold fC at h h';split at h
  .rename_i st1 e;rw[e]at h';dsimp only at h';split at h
   all_goals (rename_i eb;rw[eb]at h';dsimp only at h')
   .exact i' h h'
   .exact i' h h'
   all_goals (cases h;cases h';rfl)
  all_goals (rename_i e;rw[e]at h';dsimp only at h';cases h;cases h';rfl)
theorem Ar{t:MT}{body:MB}{n:Nat}{μ:Env}{st:aj}{r:cg}(h:fC t body n μ st=some r):l9 t body μ st=r:=by
 have hx:∃n r,fC t body n μ st=some r:=⟨n,r,h⟩
 unfold l9;rw[dif_pos hx];exact i' hx.choose_spec.choose_spec h
section
variable{X:Cx}{E:XK}{pos:Pos}
theorem CH{c:Expr}{sb:List Stmt}{t:MT}{body:MB}(hp:PassesOwn (model X.prog X.w) X.A X.env X.xe)(hc:PT X c (tT X E t))(hb:jJ X sb (tS X E body)):PS X (.While c sb [] pos) (tS X E (l9 t body)):=by
 refine PS.imp (BE hp hc hb) ?_;rintro D σ H ⟨μ,ρ,st,rs,sr,h⟩;unfold l9 at h;split at h
 .rename_i hx;have hr:=hx.choose_spec.choose_spec;refine⟨fun m σ' H'=>∃μ' ρ' ax r,aF ρ H ρ' H'/\RS (wo X) ρ' H' μ' σ'/\SR X.K ρ' ax H'/\fC t body m μ' ax=some r/\wS (wo X) E ρ' H' D r,⟨_,μ,ρ,st,_,aF.refl _ _,rs,sr,hr,h⟩,?_⟩;rintro m σ' H' ⟨μ',ρ',ax,r,e',uk,pe,hw,hq⟩;cases m with
  |zero=>cases hw
  |succ m=>
   unfold fC at hw;refine⟨μ',ρ',ax,uk,pe,?_⟩;cases z:t μ' ax with
   |ok k st1=>
    rw[z]at hw;intro ρ1 H1 k' e1 bP ek;cases ek;cases k with
    |true=>
     dsimp only at hw;rw[Vo rfl];refine⟨fun σ2 H2=>∃μ2 ρ2 st2 r2,aF ρ H ρ2 H2/\RS (wo X) ρ2 H2 μ2 σ2/\SR X.K ρ2 st2 H2/\fC t body m μ2 st2=some r2/\wS (wo X) E ρ2 H2 D r2,fun σ2 H2 n=>⟨m,XN m,n⟩,μ',ρ1,st1,uk.mono e1,bP,?_⟩;cases zb:body μ' st1 with
     |nx μ4 j?=>
      rw[zb]at hw;intro ρ4 H4 σ4 e4 l7 w4;exact⟨μ4,ρ4,j?,r,(e'.trans e1).trans e4,w4,l7,hw,wS.mono hq (e1.trans e4)⟩
     |ct μ4 j?=>
      rw[zb]at hw;intro ρ4 H4 σ4 e4 l7 w4;exact⟨μ4,ρ4,j?,r,(e'.trans e1).trans e4,w4,l7,hw,wS.mono hq (e1.trans e4)⟩
     |bk μ4 j?=>rw[zb]at hw;cases hw;exact fun ρ4 H4 σ4 e4 l7 w4=>hq ρ4 H4 σ4 (e1.trans e4) l7 w4
     |rt v j?=>rw[zb]at hw;cases hw;exact fun ρ4 H4 σ4 e4 l7 w4=>hq ρ4 H4 σ4 (e1.trans e4) l7 w4
     |er c μ4 j?=>rw[zb]at hw;cases hw;obtain⟨C,q1,q2⟩:=hq;exact⟨C,q1,fun ρ4 H4 e4 l7=>q2 ρ4 H4 (e1.trans e4) l7⟩
     |bad=>rw[zb]at hw;cases hw;exact hq
    |false=>
     cases hw;rw[Vu VC];exact hq ρ1 H1 σ' e1 bP (uk.mono e1)
   |err c st1=>rw[z]at hw;cases hw;exact hq
   |bad=>rw[z]at hw;cases hw;exact hq
 .exact h.elim
end
def iB(k:Nat)(caps:List Nat)(μ:Env):Env:=List.replicate k none++caps.map fun j=>(μ[j]?).getD none
theorem RS.Br{W:Wo}{ρ:_y}{H:Hp}{μ:Env}{σ:L2.St}(r:RS W ρ H μ σ)(k:Nat)(caps:List Nat):RS W ρ H (iB k caps μ) (kK k caps σ):=by
 refine⟨by simp[iB,kK],fun i u e=>?_⟩;unfold iB at e;rcases V! i k with q|q
 .rw[V3 (by rw[Wd];exact q),XQ,Vo q]at e;cases e
 .rw[VJ (by rw[Wd];exact q),Wd,VU]at e;cases z:caps[i-k]? with
  |none=>rw[z]at e;cases e
  |some j=>
   rw[z]at e;have e':(μ[j]?).getD none=some u:=V? e;have e2:μ[j]?=some (some u):=by
    cases y:μ[j]? with
    |none=>rw[y]at e';cases e'
    |some w=>rw[y]at e';exact W' _ e'
   obtain⟨v,h1,h2⟩:=r.at_ j u e2;refine⟨v,?_,h2⟩;unfold kK;rw[VJ (by rw[Wd];exact q),Wd,VU,z];show some ((σ[j]?).getD none)=_;rw[h1];rfl
open Classical in
def bQ(g:aj->Prop)(a:AS)(c:MT)(e:ME):List av->Env->aj->List av->cX (List av)
 |[],_,st,ys=>if g st then .ok ys st else .bad
 |u::us,τ,st,ys=>if g st then(match a u τ with
  |some τ1=>match c τ1 st with
   |.ok true st1=>match e τ1 st1 with
    |.ok y st2=>bQ g a c e us τ1 st2 (ys++[y])
    |.err _ _=>.bad
    |.bad=>.bad
   |.ok false st1=>bQ g a c e us τ1 st1 ys
   |.err _ _=>.bad
   |.bad=>.bad
  |none=>.bad)else .bad
def bV(k:Nat)(caps:List Nat)(it:MI)(a:AS)(c:MT)(e:ME):ME:=fun μ st=>(it μ st).bind fun p st1=>
 if p.1.length<=sizeLine then(bQ p.2 a c e p.1 (iB k caps μ) st1 []).bind fun ys st2=>.ok (.loc st2.length) (st2++[.lst ys])else .bad
def bf:MT:=fun _ st=>.ok true st
abbrev W0(X:Cx):Wo:=⟨X.K,X.mg,[]⟩
section
variable{X:Cx}{E:XK}{tg elt iter:Expr}{ifs:List Expr}{scope:Scope}{pos wN:Pos}{N:_z}{cl:List (Str×_C)}{k:Nat}{caps:List Nat}{it:MI}{a:AS}{c:MT}{e:ME}
theorem qZ(F0:X.pn=[]){σ:L2.St}{H:Hp}{Q:VK}(h:tE X E (bV k caps it a c e) σ H Q):kL k caps (tI X E it) (tA (W0 X) a) (tG (W0 X) E0 RB c) (tG (W0 X) E0 (Rl X.K) e) σ H Q:=by
 obtain⟨μ,ρ,st,rs,sr,h⟩:=h;refine uJ (go (R1:=J? X.K) μ ρ st rs sr h fun pr st1 ρ1 H1 J e1 bP rJ h1=>?_);obtain⟨us,g⟩:=pr;have ew:wo X=W0 X:=by show Wo.mk _ _ _=_;rw[F0]
 have FO:=rs.mono e1;rw[ew]at FO h1;dsimp only at h1;split at h1
 .rename_i hz;refine ym us.length hz (fun i ys τ H'=>∃μτ ρ' ax yv,aF ρ1 H1 ρ' H'/\RS (W0 X) ρ' H' μτ τ/\SR X.K ρ' ax H'/\a_ X.K ρ' H' yv ys/\yv.length<=i/\wR (W0 X) E (Rl X.K) ρ' H' Q ((bQ g a c e (us.drop i) μτ ax yv).bind fun(zs:List av)(st2:aj)=>cX.ok (av.loc st2.length) (st2++[aG.lst zs])))
   ⟨iB k caps μ,ρ1,st1,[],aF.refl _ _,FO.Br k caps,bP,a_.nil,Vq _,h1⟩ ?_ ?_ ?_ ?_ ?_
  .rintro i ys τ H' hi ⟨μτ,ρ',ax,yv,e',uk,pe,ry,hl,hq⟩;rw[WA hi]at hq;unfold bQ at hq;by_cases gr:g ax
   .exact((rJ ρ' ax H' e' pe gr i).1 _ (VE hi)).1
   .rw[Vu gr]at hq;exact hq.elim
  .rintro ys τ H' ⟨μτ,ρ',ax,yv,e',uk,pe,ry,hl,hq⟩;rw[X8]at hq;unfold bQ at hq;by_cases gr:g ax
   .exact(rJ ρ' ax H' e' pe gr us.length).2 (Vq _)
   .rw[Vu gr]at hq;exact hq.elim
  .rintro i ys τ H' ⟨μτ,ρ',ax,yv,e',uk,pe,ry,hl,hq⟩;rw[<-ry.length];exact hl
  .rintro i ys τ H' x H2 hi ⟨μτ,ρ',ax,yv,e',uk,pe,ry,hl,hq⟩ y K1 hK;rw[WA hi]at hq;unfold bQ at hq;by_cases gr:g ax
   .rw[Vo gr]at hq;obtain⟨e2,ir,r2⟩:=((rJ ρ' ax H' e' pe gr i).1 _ (VE hi)).2 x H2 y;cases z:a us[i] μτ with
    |none=>rw[z]at hq;exact hq.elim
    |some τ1=>
     rw[z]at hq;dsimp only at hq;refine⟨μτ,ρ',us[i],τ1,uk.mono e2,r2,z,fun σ3 CG=>⟨τ1,ρ',ax,CG,ir,?_⟩⟩;cases zc:c τ1 ax with
     |ok b fP=>
      rw[zc]at hq;intro ρ3 H3 b' e3 nF eb;cases eb;cases b with
      |true=>
       dsimp only at hq;rw[Vo rfl];refine⟨τ1,ρ3,fP,CG.mono e3,nF,?_⟩;cases ze:e τ1 fP with
       |ok v j?=>
        rw[ze]at hq;intro ρ4 H4 y4 e4 l7 r4;exact hK _ _ _ ⟨τ1,ρ4,j?,yv++[v],((e'.trans e2).trans e3).trans e4,(CG.mono e3).mono e4,l7,(a_.mono ((e2.trans e3).trans e4) _ _ ry).append (a_.one r4),by rw[Vx,W4];lia,wR.mono hq ((e2.trans e3).trans e4)⟩
       |err c' j?=>rw[ze]at hq;exact hq.elim
       |bad=>rw[ze]at hq;exact hq.elim
      |false=>
       dsimp only at hq;rw[Vu VC];exact hK _ _ _ ⟨τ1,ρ3,fP,yv,(e'.trans e2).trans e3,CG.mono e3,nF,a_.mono (e2.trans e3) _ _ ry,by lia,wR.mono hq (e2.trans e3)⟩
     |err c' fP=>rw[zc]at hq;exact hq.elim
     |bad=>rw[zc]at hq;exact hq.elim
   .rw[Vu gr]at hq;exact hq.elim
  .rintro ys τ H' p ⟨μτ,ρ',ax,yv,e',uk,pe,ry,hl,hq⟩ hp;rw[X8]at hq;unfold bQ at hq;by_cases gr:g ax
   .rw[Vo gr]at hq;obtain⟨k1,k2,k3⟩:=eO pe ry hp;exact hq _ _ _ k1 k2 k3
   .rw[Vu gr]at hq;exact hq.elim
 .exact h1.elim
theorem gi(hc:X.calm=true)(F0:X.pn=[])(B:lV X N scope cl k caps)(hi:PI X tg iter (tI X E it))(hg:∀C fp s H,PG (oP X N scope cl C fp s H) tg (tA (W0 X) a))(B7:∀C fp s H,ui (oP X N scope cl C fp s H) ifs (tG (W0 X) E0 RB c))(he:∀C fp s H,PE (oP X N scope cl C fp s H) elt (tG (W0 X) E0 (Rl X.K) e))(hs:∀x,foldedSetIterable iter X.env x=pure x:=by intro _;rfl):PE X (.ListComp elt [⟨tg,iter,ifs,0⟩] scope pos) (tE X E (bV k caps it a c e)):=
 PE.imp (FD hc B hi hg B7 he hs) fun _ _ _ h=>qZ F0 h
theorem iC(i:Nat){y:Str}{py:Pos}(hN:X.N.Nodup)(hc:X.calm=true)(F0:X.pn=[])(B:lV X N scope cl k caps)(hi:PI X tg iter (tI X E it))(hg:∀C fp s H,PG (oP X N scope cl C fp s H) tg (tA (W0 X) a))(B7:∀C fp s H,ui (oP X N scope cl C fp s H) ifs (tG (W0 X) E0 RB c))(he:∀C fp s H,PE (oP X N scope cl C fp s H) elt (tG (W0 X) E0 (Rl X.K) e))(hy:X.N[i]?=some y:=by rfl)(hx:Loc X.env.scope y:=by first|exact Or.inl rfl|exact Or.inr rfl)(QB:swapsWith (.ListComp elt [⟨tg,iter,ifs,0⟩] scope pos) (some (.Name y py)) wN.line X.env=pure true:=by rfl)(hs:∀x,foldedSetIterable iter X.env x=pure x:=by intro _;rfl)(hf:X.fn y=true\/X.env.scope.names.lookup y=some .local:=by first|exact .inl rfl|exact .inr rfl|assumption):
  PS X (.Assign [.Name y py] (.ListComp elt [⟨tg,iter,ifs,0⟩] scope pos) wN) (tS X E (aE i (bV k caps it a c e))):=
 PS.imp (L2.wO hN hy hx hc B hi hg B7 he QB hs hf) fun _ _ _ h=>qZ F0 (uR h)
theorem F1{C fp s H}:ui (oP X N scope cl C fp s H) [] (tG (W0 X) E0 RB bf):=by intro af s' σ H' Q I q;refine yk af s' σ H' Q I ?_;obtain⟨μ,ρ,st,rs,sr,h⟩:=q;exact h ρ H' true (aF.refl _ _) sr rfl
theorem F3{cc:Expr}{C fp s H}(h:PT (oP X N scope cl C fp s H) cc (tG (W0 X) E0 RB c)):ui (oP X N scope cl C fp s H) [cc] (tG (W0 X) E0 RB c):=Fx h
theorem Np{P:_E}{w:World}{C fp s H}:Passes (jO P w) (oP X N scope cl C fp s H) E0:=by rintro af σ H' s' e s2 I ⟨ea,cls,H2,_,_,q⟩;exact q.elim
end
abbrev FM:=av->List av->aj->cX av
def SA(W:Wo)(E:XK)(f:FM):V->List V->Hp->VK->Prop:=fun x xs H Q=>∃ρ st u us,SR W.K ρ st H/\Rl W.K ρ H u x/\a_ W.K ρ H us xs/\wR W E (Rl W.K) ρ H Q (f u us st)
def uV(st:aj):av->Bool
 |.loc n=>match st[n]? with
  |some (.lst _)=>true
  |_=>false
 |_=>false
def gR(f:FM)(o:ME)(a:MA):ME:=fun μ st=>(o μ st).bind fun x st1=>if uV st1 x=true then(a μ st1).bind fun xs st2=>f x xs st2 else .bad
def bZ:FM
 |.loc n,[v],st=>match st[n]? with
  |some (.lst us)=>if us.length<sizeLine then .ok .fc (st.set n (.lst (us++[v])))else .bad
  |_=>.bad
 |_,_,_=>.bad
section
variable{X:Cx}{E:XK}{o e:Expr}{es:List Expr}{mo:ME}{ms:MA}{apos bT:Pos}{f:FM}
theorem Jn.imp{id:String}{r r':V->List V->Hp->VK->Prop}(h:Jn X id r)(k:∀x xs H Q,r' x xs H Q->r x xs H Q):Jn X id r':=fun af s σ H x xs v us Q I rx rs q=>h af s σ H x xs v us Q I rx rs (k x xs H Q q)
theorem yB{K:_u}{ρ:_y}{st:aj}{H:Hp}{n:Nat}{us Nm:List av}{a:_C}{vs HQ:List V}(sr:SR K ρ st H)(h:st[n]?=some (.lst us))(ha:ρ[n]?=some a)(hH:H a=some (.lst vs))(r:a_ K ρ H Nm HQ):
  aF ρ H ρ (upd H a (.lst HQ))/\SR K ρ (st.set n (.lst Nm)) (upd H a (.lst HQ)):=by
 have e:aF ρ H ρ (upd H a (.lst HQ)):=aF.put hH (fun _ z=>by cases z) (fun _ _ z=>by cases z);exact⟨e,sr.set h rfl rfl ha hH (fun _ z=>by cases z) (fun _ _ z=>by cases z) ⟨HQ,cL,a_.mono e _ _ r⟩⟩
theorem w6:Jn X "list.append" (SA (wo X) E bZ):=by
 refine Jn.imp zV ?_;rintro x xs H Q ⟨ρ,st,u,us,sr,r1,r2,h⟩;unfold bZ at h;split at h
 .rename_i n v;obtain⟨a,rfl,ha⟩:=r1.d?;obtain⟨y,rfl,ry⟩:=r2.wq;split at h
  .rename_i ws hw;split at h
   .rename_i hz;obtain⟨vs,hH,rv⟩:=sr.cell n _ a hw ha;refine⟨a,vs,y,rfl,rfl,hH,by rw[<-rv.length];exact hz,?_⟩;obtain⟨k1,k2⟩:=yB sr hw ha hH (rv.append (a_.one ry));exact h ρ _ _ k1 k2 Rl.HL
   .exact h.elim
  .exact h.elim
 .exact h.elim
theorem CI{K:_u}{ρ:_y}{st:aj}{H:Hp}{u:av}{x:V}(sr:SR K ρ st H)(r:Rl K ρ H u x)(h:uV st u=true):Qi K "list" x H:=by
 cases u with
 |loc n=>
  obtain⟨a,rfl,ha⟩:=r.d?;obtain⟨c,hc,kc⟩:=sr.there ha;simp only[uV,hc]at h;cases c with
  |lst us=>obtain⟨vs,h1,_⟩:=kc;exact .inl ⟨rfl,vs,j9.of h1⟩
  |_=>cases h
 |_=>cases h
theorem Kg{name:Str}{id:String}(slot:Slot "list" name id)(Qj:typeOf (.builtin id)=pure (.type "method_descriptor"))(hm:Jn X id (SA (wo X) E f))(ho:PE X o (tE X E mo))(ha:PA X (e::es) (tL X E ms))(uB:attributeBase o name X.env (eval o X.env)=eval o X.env:=by rfl)
  (BR:((backTo bT (starEach (e::es) X.env)).all (fun x => !x.1)&&(backToKw bT (keywordEach [] X.env)).all (fun x=>x.1.isSome)
   && decide ((e::es).length+([]:List Keyword).length+(if([]:List Keyword).isEmpty then 0 else 1)<30))=true:=by rfl)
  (uC:(apos.endLine==bT.line)=true:=by rfl) (hs:starEach (e::es) X.env=(false,eval e X.env)::starEach es X.env:=by rfl) (oM:(backTo bT (starEach es X.env)).any (·.1)=false:=by rfl):
  PE X (.Call (.Attribute o name apos) (e::es) [] bT) (tE X E (gR f mo ms)):=by
 refine PE.imp (MM PySem.F.plainAttrs_list slot Qj hm ho ha uB BR uC hs oM) ?_;rintro σ H Q ⟨μ,ρ,st,rs,sr,h⟩;refine go μ ρ st rs sr h fun u st1 ρ1 H1 x e1 bP r1 h1=>?_;split at h1
 .rename_i hz;refine⟨CI bP r1 hz,?_⟩;refine go (R1:=a_ X.K) μ ρ1 st1 (rs.mono e1) bP h1 fun us st2 ρ2 H2 xs e2 ir r2 h2=>?_;exact⟨ρ2,st2,u,us,ir,Rl.mono e2 _ _ r1,r2,h2⟩
 .exact h1.elim
end
def LP{α β:Type}(W:Wo)(R:_y->Hp->α->β->Prop)(ρ:_y)(H:Hp)(Q:β->Hp->Prop)(EX:EH):cX α->Prop
 |.ok u ax=>∀ρ' H' v,aF ρ H ρ' H'->SR W.K ρ' ax H'->R ρ' H' u v->Q v H'
 |.err c ax=>∃C,W.mg c=some (.ref C)/\∀ρ' H' ea,aF ρ H ρ' H'->SR W.K ρ' ax H'->EX (.ref C) ea H'
 |.bad=>False
theorem LP.mono{α β:Type}{W:Wo}{R:_y->Hp->α->β->Prop}{ρ ρ':_y}{H H':Hp}{Q:β->Hp->Prop}{EX:EH}{r:cX α}(h:LP W R ρ H Q EX r)(e:aF ρ H ρ' H'):LP W R ρ' H' Q EX r:=by
 cases r with
 |ok u st=>exact fun ρ2 H2 v e2 s r=>h ρ2 H2 v (e.trans e2) s r
 |err c st=>obtain⟨C,h1,h2⟩:=h;exact⟨C,h1,fun ρ2 H2 ea e2 s=>h2 ρ2 H2 ea (e.trans e2) s⟩
 |bad=>exact h
def OW(X:Cx)(m:ME):Na:=fun σ H Q EX=>∃μ ρ st,RS (wo X) ρ H μ σ/\SR X.K ρ st H/\LP (wo X) (Rl X.K) ρ H Q EX (m μ st)
def F4(W:Wo)(ρ:_y)(H:Hp)(D:Ends)(EX:EK):cg->Prop
 |.nx μ st=>∀ρ' H' σ',aF ρ H ρ' H'->SR W.K ρ' st H'->RS W ρ' H' μ σ'->D.nx σ' H'
 |.rt v st=>∀ρ' H' x,aF ρ H ρ' H'->SR W.K ρ' st H'->Rl W.K ρ' H' v x->D.rt x H'
 |.bk μ st=>∀ρ' H' σ',aF ρ H ρ' H'->SR W.K ρ' st H'->RS W ρ' H' μ σ'->D.bk σ' H'
 |.ct μ st=>∀ρ' H' σ',aF ρ H ρ' H'->SR W.K ρ' st H'->RS W ρ' H' μ σ'->D.ct σ' H'
 |.er c μ st=>∃C,W.mg c=some (.ref C)/\∀ρ' H' σ' ea,aF ρ H ρ' H'->SR W.K ρ' st H'->RS W ρ' H' μ σ'->EX (.ref C) ea σ' H'
 |.bad=>False
theorem F4.mono{W:Wo}{ρ ρ':_y}{H H':Hp}{D:Ends}{EX:EK}{r:cg}(h:F4 W ρ H D EX r)(e:aF ρ H ρ' H'):F4 W ρ' H' D EX r:=by
 cases r with
 |nx μ st=>exact fun ρ2 H2 σ2 e2 s r=>h ρ2 H2 σ2 (e.trans e2) s r
 |rt v st=>exact fun ρ2 H2 x e2 s r=>h ρ2 H2 x (e.trans e2) s r
 |bk μ st=>exact fun ρ2 H2 σ2 e2 s r=>h ρ2 H2 σ2 (e.trans e2) s r
 |ct μ st=>exact fun ρ2 H2 σ2 e2 s r=>h ρ2 H2 σ2 (e.trans e2) s r
 |er c μ st=>obtain⟨C,h1,h2⟩:=h;exact⟨C,h1,fun ρ2 H2 σ2 ea e2 s r=>h2 ρ2 H2 σ2 ea (e.trans e2) s r⟩
 |bad=>exact h
def LQ(X:Cx)(m:MB):JL:=fun D EX σ H=>∃μ ρ st,RS (wo X) ρ H μ σ/\SR X.K ρ st H/\F4 (wo X) ρ H D EX (m μ st)
def EJ{α:Type}(m:Env->aj->cX α):Env->aj->cX α:=fun μ st=>match m μ st with
 |.ok v ax=>.ok v ax
 |.err _ _=>.bad
 |.bad=>.bad
section
variable{X:Cx}{pos p:Pos}{e:Expr}{es:List Expr}{m:ME}{ms:MA}{f:FN}{x:Str}
theorem EI.imp{t t':Na}(h:EI X e t)(k:∀σ H Q EX,t' σ H Q EX->t σ H Q EX):EI X e t':=fun af s σ H Q EX I q=>h af s σ H Q EX I (k σ H Q EX q)
theorem FG.imp{st:Stmt}{t t':JL}(h:FG X st t)(k:∀D EX σ H,t' D EX σ H->t D EX σ H):FG X st t':=fun af s σ H D EX I q=>h af s σ H D EX I (k D EX σ H q)
theorem CJ{k:Nat}{fa:_C}{fd:FuncData}{ps:_z}(F:iY X.prog X.w X.K X.mg X.base (jO X.prog X.w) k fa fd ps (J2 ⟨X.K,X.mg,[]⟩ f))(hr:fK k X.A)(hg:Gl X x)(hm:X.mg x=some (.ref fa))(hk:PySem.W.keepIn X.K (.ref fa)=true)(hb:Binds X.K fd ps [])(Bz:∀y,X.fn y=true)(ha:∀W,PA (X.oG W) (e::es) (tL X E0 ms))(oJ:(x==("__debug__":Str))=false:=by decide)(he:starEach (e::es) X.env=(false,eval e X.env)::starEach es X.env:=by rfl)(kD:(backTo pos (starEach es X.env)).any (·.1)=false:=by rfl):
  EI X (.Call (.Name x p) (e::es) [] pos) (OW X (ak f (EJ ms))):=by
 refine EI.imp (Cb F hr hg hm hk hb Bz ha oJ he kD) ?_;rintro σ H Q EX ⟨μ,ρ,st,rs,sr,h⟩;refine⟨μ,ρ,st,rs,sr,?_⟩;unfold ak EJ at h;cases z:ms μ st with
 |ok us st1=>
  rw[z]at h;intro ρ1 H1 vs e1 bP r1;refine⟨us,ρ1,st1,r1,bP,?_⟩;have h':LP (wo X) (Rl X.K) ρ1 H1 Q EX (f us st1):=LP.mono h e1;revert h';cases f us st1 with
  |ok u st2=>exact fun q=>q
  |err c st2=>exact fun⟨C,q1,q2⟩=>⟨C,q1,fun ρ2 H2 e2 s2 ea=>q2 ρ2 H2 ea e2 s2⟩
  |bad=>exact fun q=>q
 |err c ax=>rw[z]at h;exact h.elim
 |bad=>rw[z]at h;exact h
theorem Kh{σ:L2.St}{H:Hp}{D:Ends}{EX:EK}{k:av->aj->cg}{μ:Env}{ρ:_y}{st:aj}(rs:RS (wo X) ρ H μ σ)(sr:SR X.K ρ st H)(h:F4 (wo X) ρ H D EX ((m μ st).sb μ k)){Q:VK}(c:∀u st1 ρ1 H1 x,aF ρ H ρ1 H1->SR X.K ρ1 st1 H1->Rl X.K ρ1 H1 u x->F4 (wo X) ρ1 H1 D EX (k u st1)->Q x H1):OW X m σ H Q fun cls ea H'=>EX cls ea σ H':=by
 refine⟨μ,ρ,st,rs,sr,?_⟩;cases z:m μ st with
 |ok u st1=>rw[z]at h;exact fun ρ1 H1 x e1 bP r1=>c u st1 ρ1 H1 x e1 bP r1 (F4.mono h e1)
 |err c' st1=>rw[z]at h;obtain⟨C,q1,q2⟩:=h;exact⟨C,q1,fun ρ2 H2 ea e2 s2=>q2 ρ2 H2 σ ea e2 s2 (rs.mono e2)⟩
 |bad=>rw[z]at h;exact h
theorem F5{s1:Stmt}{a:MB}(h:FG X s1 (LQ X a)):z! X [s1] (LQ X a):=Cc h
abbrev MH:=Str->MB
def F6:MH:=fun _ _ _=>.bad
def CK:cg->cg
 |.rt v st=>.rt v st
 |_=>.bad
def m_(sub:Str->Str->Option Bool)(x:Str)(jP:MB)(rest:MH):MH:=fun c μ st=>match sub c x with
 |some true=>CK (jP μ st)
 |some false=>rest c μ st
 |none=>.bad
def sG(kn:Str->Bool)(body:MB)(h:MH):MB:=fun μ st=>match body μ st with
 |.er c μ' ax=>if kn c=true then h c μ' ax else .bad
 |.nx μ' ax=>.nx μ' ax
 |.rt v ax=>.rt v ax
 |.bk μ' ax=>.bk μ' ax
 |.ct μ' ax=>.ct μ' ax
 |.bad=>.bad
def Ki(X:Cx)(h:MH):FH:=fun D EX cls ea σ H=>∃c C μ ρ st,X.mg c=some (.ref C)/\cls=.ref C/\RS (wo X) ρ H μ σ/\SR X.K ρ st H/\F4 (wo X) ρ H D EX (h c μ st)
theorem PH.imp{hs:List ExceptHandler}{t t':FH}(h:PH X hs t)(k:∀D EX cls ea σ H,t' D EX cls ea σ H->t D EX cls ea σ H):PH X hs t':=fun af s σ H D EX ea cls J q=>h af s σ H D EX ea cls J (k D EX cls ea σ H q)
theorem Kj:PH X [] (Ki X F6):=PH.imp JO fun D EX cls ea σ H q=>by obtain⟨c,C,μ,ρ,st,_,_,_,_,h⟩:=q;exact h
def Nq(K:_u)(mg:_s)(sub:Str->Str->Option Bool):Prop:=∀c x b C D,sub c x=some b->mg c=some (.ref C)->mg x=some (.ref D)->W.kitCls K (.ref C) (.ref D)=some b
theorem yp.pn{K:_u}{mg:_s}{pn JS:_t}(hp:∀q∈pn,q∈JS){ρ:_y}{H:Hp}{u:av}{v:V}(h:yp ⟨K,mg,pn⟩ ρ H u v):yp ⟨K,mg,JS⟩ ρ H u v:=by
 cases u with
 |exc c=>obtain⟨a,oe,C,h1,h2,h3⟩:=h;exact⟨a,oe,C,h1,hp _ h2,h3⟩
 |_=>exact h
theorem RS.pn{K:_u}{mg:_s}{pn JS:_t}(hp:∀q∈pn,q∈JS){ρ:_y}{H:Hp}{μ:Env}{σ:L2.St}(h:RS ⟨K,mg,pn⟩ ρ H μ σ):RS ⟨K,mg,JS⟩ ρ H μ σ:=
 ⟨h.len,fun i u e=>let⟨v,h1,h2⟩:=h.at_ i u e;⟨v,h1,h2.pn hp⟩⟩
theorem F7{C:_C}{np:Pos}{b₀:Stmt}{jP:List Stmt}{rest:List ExceptHandler}{sub:Str->Str->Option Bool}{s:MB}{r:MH}(hS:Nq X.K X.mg sub)(hg:Gl X x)(hm:X.mg x=some (.ref C))(hB:W.subIn X.K (.ref C) (.type "BaseException")=some true)(hs:∀ea oe,jJ (L2.z? X ea oe) (b₀::jP) (tS (L2.z? X ea oe) E0 s))(hr:PH X rest (Ki X r))(hd:(x==("__debug__":Str))=false:=by decide):PH X (.ExceptHandler (some (.Name x np)) none (b₀::jP) pos::rest) (Ki X (m_ sub x s r)):=by
 refine PH.imp (FJ hg hm hB hs hr hd) ?_;rintro D EX cls ea σ H ⟨c,C',μ,ρ,st,h1,rfl,rs,sr,h⟩;unfold m_ at h;split at h
 .rename_i e;refine⟨true,hS c x true C' C e h1 hm,?_⟩;rw[Vo rfl];intro oe HH;refine⟨μ,ρ,st,RS.pn (fun q hq=>Vr _ hq) rs,sr,?_⟩;revert h;cases s μ st with
  |rt v ax=>exact fun q=>q
  |_=>exact fun q=>q.elim
 .rename_i e;refine⟨false,hS c x false C' C e h1 hm,?_⟩;rw[Vu VC];exact⟨c,C',μ,ρ,st,h1,rfl,rs,sr,h⟩
 .exact h.elim
def Known(mg:_s)(kn:Str->Bool):Prop:=∀c,kn c=true->∃C,mg c=some (.ref C)
theorem CL{kn:Str->Bool}{b:MB}{h:MH}(hk:Known X.mg kn){D:Ends}{EX:EK}{σ:L2.St}{H:Hp}(q:LQ X (sG kn b h) D EX σ H):LQ X b D (fun cls ea σ' H'=>Ki X h D EX cls ea σ' H') σ H:=by
 obtain⟨μ,ρ,st,rs,sr,q⟩:=q;refine⟨μ,ρ,st,rs,sr,?_⟩;unfold sG at q;cases z:b μ st with
 |er c μ' ax=>
  rw[z]at q;dsimp only at q;split at q
  .rename_i hc;obtain⟨C,hC⟩:=hk c hc;exact⟨C,hC,fun ρ' H' σ' ea e s r=>⟨c,C,μ',ρ',ax,hC,rfl,r,s,F4.mono q e⟩⟩
  .exact q.elim
 |_=>rw[z]at q;exact q
def pf(m:MB):MB:=fun μ st=>match m μ st with
 |.er _ _ _=>.bad
 |.nx μ' ax=>.nx μ' ax
 |.rt v ax=>.rt v ax
 |.bk μ' ax=>.bk μ' ax
 |.ct μ' ax=>.ct μ' ax
 |.bad=>.bad
theorem Kk{E:XK}{kn:Str->Bool}{body:List Stmt}{h₀:ExceptHandler}{hs:List ExceptHandler}{b:MB}{h:MH}(hk:Known X.mg kn)(dx:DefX X)(hb:z! X body (LQ X b))(hh:PH X (h₀::hs) (Ki X h)):PS X (.Try body (h₀::hs) [] [] pos) (tS X E (pf (sG kn b h))):=by
 refine PS.imp (JP dx hb hh) ?_;rintro D σ H ⟨μ,ρ,st,rs,sr,q⟩;refine CL (EX:=fun _ _ _ _=>False) hk ⟨μ,ρ,st,rs,sr,?_⟩;unfold pf at q;revert q;cases sG kn b h μ st with
 |er c μ' ax=>exact fun q=>q.elim
 |_=>exact fun q=>q
end
inductive fD(X:Cx)(scope:Scope):List (Str×_C)->List Nat->Prop
 |nil:fD X scope [] []
 |cons {y:Str} {c:_C} {j:Nat} {cl:List (Str×_C)} {caps:List Nat} (sub:X.env.cells.lookup y=some c) (hX:X.N[j]?=some y) (hk:X.env.kindOf y=some .cell\/X.env.kindOf y=some .free)
   (hr:(relabel scope X.env).names.lookup y=some .cell\/(relabel scope X.env).names.lookup y=some .free) (r:fD X scope cl caps):fD X scope ((y,c)::cl) (j::caps)
theorem fD.sub{X:Cx}{scope:Scope}{cl:List (Str×_C)}{caps:List Nat}(A:fD X scope cl caps):∀x c,cl.lookup x=some c->X.env.cells.lookup x=some c:=by
 induction A with
 |nil=>intro x c h;cases h
 | @cons y c0 _ _ _ sub _ _ _ _ ih=>
  intro x c h;rw[List.lookup_cons]at h;by_cases e:x=y
  .rw[WK.mpr e]at h;rw[e];exact sub.trans h
  .rw[Xb.mpr e]at h;exact ih x c h
theorem fD.at_{X:Cx}{scope:Scope}{cl:List (Str×_C)}{caps:List Nat}(A:fD X scope cl caps):∀(i j:Nat)(x:Str),caps[i]?=some j->(cl.map (·.1))[i]?=some x ->
  X.N[j]?=some x/\(X.env.kindOf x=some .cell\/X.env.kindOf x=some .free)/\((relabel scope X.env).names.lookup x=some .cell\/(relabel scope X.env).names.lookup x=some .free):=by
 induction A with
 |nil=>intro i j x h;cases h
 |cons _ hX hk hr _ ih=>
  intro i j x h h2;cases i with
  |zero=>cases h;cases h2;exact⟨hX,hk,hr⟩
  |succ i=>exact ih i j x h h2
theorem gS:∀{cl:List (Str×_C)}{x:Str},x∈cl.map (·.1)->∃c,cl.lookup x=some c
 |[],x,h=>by simp at h
 |(y,c)::cl,x,h=>by
  by_cases e:x=y
  .exact⟨c,by simp[e]⟩
  .have e':(x==y)=false:=by simpa using e
   rw[Vp,VG]at h;rcases h with h|h
   .exact absurd h e
   .obtain⟨d,hd⟩:=gS h;exact⟨d,by simp only[List.lookup_cons,e'];exact hd⟩
theorem Nr{X:Cx}{N:_z}{scope:Scope}{k:Nat}{cl:List (Str×_C)}{caps:List Nat}(lW:closureFor scope X.env=pure cl)(A:fD X scope cl caps)(has:((relabel scope X.env).names.all fun p => !(p.2 == .cell || p.2 == .free) || (cl.map (·.1)).contains p.1)=true)(fS:(scope.names.all fun p => !(p.2 == .cell))=true)(kind:scope.kind=.function)(names:(scope.names.all fun p => !(p.2 == .local) || scope.names.lookup p.1==some .local)=true)(len:N.length=k+caps.length)(hN:N.drop k=cl.map (·.1)):lV X N scope cl k caps where
 lW:=lW
 sub:=A.sub
 has:=fun x h=>by
  have m:x∈cl.map (·.1):=by rcases h with h|h<;>(have m:=WN h;have z:=Wv.mp has _ m;simpa using z)
  exact gS m
 fS:=fun x hx h=>by have z:=Wv.mp fS x hx;simp[h]at z
 kind:=kind
 names:=fun x hx h=>by have z:=Wv.mp names x hx;simpa[h]using z
 len:=len
 at_:=fun i j x h1 h2=>A.at_ i j x h1 (by rw[<-hN,Zi];exact h2)
def FnAt(P:_E)(w:World)(K:_u)(mg:_s)(base:Heap)(x:Str)(k:Nat)(f:FN):Prop:=
 ∃fa fd ps,iY P w K mg base (jO P w) k fa fd ps (J2 ⟨K,mg,[]⟩ f)/\mg x=some (.ref fa)/\W.keepIn K (.ref fa)=true/\Binds K fd ps []
section
variable{X:Cx}{E:XK}{pos p:Pos}{e:Expr}{es:List Expr}{ms:MA}{f:FN}{x:Str}{k j:Nat}
theorem HR(G:FnAt X.prog X.w X.K X.mg X.base x k f)(hr:fK j X.A)(hk:k<=j)(hg:Gl X x)(hx:Passes (jO X.prog X.w) X E)(ha:PA X (e::es) (tL X E ms))(oJ:(x==("__debug__":Str))=false:=by decide)(he:starEach (e::es) X.env=(false,eval e X.env)::starEach es X.env:=by rfl)(kD:(backTo pos (starEach es X.env)).any (·.1)=false:=by rfl):PE X (.Call (.Name x p) (e::es) [] pos) (tE X E (ak f ms)):=by obtain⟨fa,fd,ps,F,hm,kp,b⟩:=G;exact FL F (hr.mono hk) hg hm kp b hx ha oJ he kD
theorem Kl(G:FnAt X.prog X.w X.K X.mg X.base x k f)(hr:fK j X.A)(hk:k<=j)(hg:Gl X x)(Bz:∀y,X.fn y=true)(ha:∀W,PA (X.oG W) (e::es) (tL X E0 ms))(oJ:(x==("__debug__":Str))=false:=by decide)(he:starEach (e::es) X.env=(false,eval e X.env)::starEach es X.env:=by rfl)(kD:(backTo pos (starEach es X.env)).any (·.1)=false:=by rfl):EI X (.Call (.Name x p) (e::es) [] pos) (OW X (ak f (EJ ms))):=by obtain⟨fa,fd,ps,F,hm,kp,b⟩:=G;exact CJ F (hr.mono hk) hg hm kp b Bz ha oJ he kD
end
section
variable{P:_E}{w:World}{K:_u}{mg:_s}{base:Heap}
theorem FnAt.mk{x:Str}{st:Stmt}{f:_C}{fd:FuncData}{N ps:_z}{k:Nat}{body:MB}(F:Fq K x x st f fd)(hm:mg x=some (.ref f))(S:gB N ps (bu st))(hb:∀(kV doc pm:_A)(an:Option _C)(gn ct:_A)(us:_w),us.length=ps.length->bindArgs (W.fnOf x x (gf st) (d0 st) (bu st) .none kV doc pm an gn ct) ⟨us,[]⟩=pure (ps.zip us))
  (h:∀ (gn:_A) (A:_D) (outer:List PySem.Env) (s:_B) (H:Hp) (E:XK),fK k (A.deeper (envOfC x (bu st) s.heap.objs.size f gn)) ->
   jJ (gb (jO P w) P w K mg base N x (bu st) f gn A outer s H E) (d0 st) (tS (gb (jO P w) P w K mg base N x (bu st) f gn A outer s H E) E body)):FnAt P w K mg base x (k+1) (fQ ps.length N.length body):=
 ⟨f,fd,ps,Cj F S h,hm,F.kp,F.binds hb⟩
theorem uW{N:_z}{qual:Str}{scope:Scope}{f:_C}{cd:_A}{A:_D}{outer:List PySem.Env}{s₀:_B}{H₀:Hp}{E:XK}:PassesOwn (model P w) (A.deeper (envOfC qual scope s₀.heap.objs.size f cd)) (envOfC qual scope s₀.heap.objs.size f cd) (gb (jO P w) P w K mg base N qual scope f cd A outer s₀ H₀ E).xe:=
 PassesOwn.leaving
theorem w9{N:_z}{qual:Str}{scope:Scope}{f:_C}{cd:_A}{A:_D}{outer:List PySem.Env}{s₀:_B}{H₀:Hp}{E:XK}:Raises (gb (jO P w) P w K mg base N qual scope f cd A outer s₀ H₀ E) E:=
 fun af σ H s h' e cls vs I hx hE=>z9 I hx hE
theorem Glob.int{x:Str}{i:Int}{t:Tok}(h:mg x=some (.int i t)):Glob K mg x (.int i):=⟨_,.int i,h,⟨t,rfl⟩,fun _ _=>Rl.mkInt i⟩
theorem Glob.str{x z:Str}{t:Tok}(h:mg x=some (.str z t)):Glob K mg x (.str z):=⟨_,.str z,h,⟨t,rfl⟩,fun _ _=>Rl.mkStr z⟩
theorem Glob.ints{x:Str}{a:_C}{o:Obj}{aD:Array _A}{n:Nat}{ns:_v}(h:mg x=some (.ref a))(l:K.lookup a=some o)(hc:o.cls=.type "tuple")(hd:o.data=.seq aD n)(hz:aD.size<=sizeLine)(hv:bg (ns.map V.int) aD.toList):Glob K mg x (.mt (ns.map .int)):=
 ⟨_,.ref a,h,rfl,fun ρ H=>Rl.Nd (.inr ⟨o,aD,n,l,hc,hd,hz,hv⟩) (a_.ints ns)⟩
def yC(K:_u):Sp:=fun vs H Q _=>∃(a:_C)(ns:_v),vs=[.ref a]/\Fo H/\j9 K H a (ns.map V.int)/\ns.length<=63/\∀H',Q (.bl true) H'
theorem Km{H:Hp}{a:_C}{c:aG}(k:gu K [a] H c a):SR K [a] [c] H:=by
 refine⟨rfl,fun n m b h1 h2 _ _=>?_,fun n c' b h1 h2=>?_⟩
 .have p1:=fh h1;have p2:=fh h2;simp at p1 p2;lia
 .have p1:=fh h1;simp at p1;subst p1;cases h1;cases h2;exact k
theorem Kn{f:FN}(hf:∀(c:aG)(ns:_v),ns.length<=63->au [c] 0=some (ns.map av.int)->∃ax,f [.loc 0] [c]=.ok (.bl true) ax){vs:List V}{H:Hp}{Q:VK}{E:XK}(h:yC K vs H Q E):J2 ⟨K,mg,[]⟩ f vs H Q E:=by
 obtain⟨a,ns,rfl,hO,hS,hl,q⟩:=h;have fin:∀c:aG,gu K [a] H c a->au [c] 0=some (ns.map av.int)->J2 ⟨K,mg,[]⟩ f [.ref a] H Q E:=by intro c k hi;obtain⟨ax,e⟩:=hf c ns hl hi;refine⟨[.loc 0],[a],[c],a_.one (Rl.Cd rfl),Km k,?_⟩;rw[e];intro ρ' H' v _ _ r;rw[r.sA];exact q H'
 rcases hS with(h|⟨o,h⟩)|h
 .rcases hO a with z|⟨o,xs,z⟩<;>(rw[z]at h;cases h)
 .exact fin (.JR (ns.map .int)) ⟨o,_,h,a_.ints ns⟩ rfl
 .exact fin (.mod (ns.map .int)) ⟨_,h,a_.ints ns⟩ rfl
theorem CM{l:W.OpenLaw}{q:_E}{loose:_z}{XP:(_s)->Heap->Prop}{YP:World->Heap->Prop}{d:DefRec}{K:Params->_u}{x:Str}{k:Nat}(hn:l.most=some 63)(MR:d.params.defaults=[])(hr:fK k callerA)(hY:∀(w:World)(h:Heap),YP w h->(K w.params).In h)
  (F:∀ (w:World) (mg:_s) (fa:_C) (h:Heap),(K w.params).In h->h.Ns mainGlobals mg->mg d.name=some (.ref fa) ->
   ∃fd:FuncData,(∀(s:_B)(u:_A),BindsTo s fd ⟨[u],[]⟩ [(x,u)])/\∀base:Heap,(K w.params).In base->base.Ns mainGlobals mg->iY l.prog w (K w.params) mg base (jO l.prog w) k fa fd [x] (yC (K w.params))):
  W.WalkO q loose XP YP l.row.toRowW d [] (fun f vs=>PySem.call f vs):=
 L2.Fp (n:=63) (k:=k) (x:=x) (CX:=fun w=>jO l.prog w) (sp:=fun w=>yC (K w.params)) hn (by decide) MR hr hY F (fun _ _ a ns hl hO hS=>⟨a,ns,rfl,hO,hS,hl,fun _=>rfl⟩) fun _ _ _ _ _⟨_,_,_,_,_,z⟩=>z
end
theorem qt:bootBuiltins "ValueError" = some (.type "ValueError"):=by decide +kernel
abbrev SD:_w:=[.type "ValueError",.type "Exception",.type "BaseException",.type "object"]
def F8(K:_u)(mg:_s)(x:Str):Prop:=∃C,mg x=some (.ref C)/\W.excIn K C SD "ValueError.__new__" = true/\W.subIn K (.ref C) (.type "BaseException")=some true
theorem As{K:_u}{D:_C}{t:_A}{cd:ClassData}{b:Bool}(h1:W.clsIn K D=some cd)(h2:W.typeIn K (.ref D)=some (.type "type"))(h3:W.subIn K t (.ref D)=some b):W.kitCls K t (.ref D)=some b:=by show(if((W.clsIn K D).isSome&&W.typeIn K (.ref D)==some (.type "type"))=true then W.subIn K t (.ref D)else none)=some b;rw[h1,h2,h3];rfl
inductive fU(K:_u)(mg:_s):List (Str×Str×Bool)->Prop
 |nil:fU K mg []
 |own {c x:Str} {b:Bool} {C D:_C} {r:List (Str×Str×Bool)} (h1:mg c=some (.ref C)) (h2:mg x=some (.ref D)) (h3:W.kitCls K (.ref C) (.ref D)=some b) (hr:fU K mg r):fU K mg ((c,x,b)::r)
 |blt {c x:Str} {n:String} {C:_C} {r:List (Str×Str×Bool)} (h1:mg c=some (.ref C)) (h2:mg x=none) (T':bootBuiltins x=some (.type n)) (h3:W.kitOne K (.ref C) (.type n)=some true) (hr:fU K mg r):fU K mg ((c,x,true)::r)
def uX(tab:List (Str×Str×Bool))(c x:Str):Option Bool:=match tab with
 |[]=>none
 |(c',x',b)::r=>if c'=c/\x'=x then some b else uX r c x
section
variable{K:_u}{mg:_s}
theorem fU.QQ{tab:List (Str×Str×Bool)}(S:fU K mg tab):Nq K mg (uX tab):=by
 induction S with
 |nil=>intro c x b C D h;cases h
 | @own c' x' _ _ _ _ h1 h2 h3 _ ih=>
  intro c x b C D h e1 e2;rw[uX]at h;by_cases z:c'=c/\x'=x
  .rw[Vo z]at h;cases h;rw[z.1,e1]at h1;cases h1;rw[z.2,e2]at h2;cases h2;exact h3
  .rw[Vu z]at h;exact ih c x b C D h e1 e2
 | @blt c' x' _ _ _ h1 h2 _ _ _ ih=>
  intro c x b C D h e1 e2;rw[uX]at h;by_cases z:c'=c/\x'=x
  .rw[z.2,e2]at h2;cases h2
  .rw[Vu z]at h;exact ih c x b C D h e1 e2
def OX(l:_z)(c:Str):Bool:=l.contains c
end
section
variable{X:Cx}{E:XK}{pos np bT p q1 q2:Pos}{x n:Str}{e₀:Expr}{es:List Expr}{ms:MA}{i:Nat}{b₀:Stmt}{jP:List Stmt}{rest:List ExceptHandler}{tab:List (Str×Str×Bool)}{s:MB}{r:MH}
theorem Au(hX:Raises X E)(hc:X.calm=true)(h:F8 X.K X.mg x)(hg:Gl X x)(ha:PA X (e₀::es) (tL X E ms))(he:starEach (e₀::es) X.env=(false,eval e₀ X.env)::starEach es X.env:=by rfl)(kD:(backTo bT (starEach es X.env)).any (·.1)=false:=by rfl)(hd:(x==("__debug__":Str))=false:=by decide):
  PS X (.Raise (some (.Call (.Name x np) (e₀::es) [] bT)) none pos) (tS X E (eB x ms)):=by
 obtain⟨C,hm,hq,_⟩:=h;exact Ci hX hc hm hq PySem.F.excBase_ValueError hg ha he kD hd
theorem CN(hS:fU X.K X.mg tab)(h:F8 X.K X.mg x)(hg:Gl X x)(hs:∀ea oe,jJ (L2.z? X ea oe) (b₀::jP) (tS (L2.z? X ea oe) E0 s))(hr:PH X rest (Ki X r))(hd:(x==("__debug__":Str))=false:=by decide):
  PH X (.ExceptHandler (some (.Name x np)) none (b₀::jP) pos::rest) (Ki X (m_ (uX tab) x s r)):=by
 obtain⟨C,hm,_,hB⟩:=h;exact F7 hS.QQ hg hm hB hs hr hd
end
section
variable{κ:Type}[DecidableEq κ]
def sH(aI:List (κ×av))(k:κ):Option av:=(aI.find? fun kv=>decide (kv.1=k)).map (·.2)
def Av(aI:List (κ×av))(k:κ)(v:av):List (κ×av):=
 if(aI.any fun kv=>decide (kv.1=k))=true then aI.map (fun kv=>if kv.1=k then(kv.1,v)else kv)else aI++[(k,v)]
variable{K:_u}{ρ ρ':_y}{H H':Hp}
theorem gC.nil:gC K ρ H ([]:List (κ×av)) []:=⟨rfl,a_.nil⟩
theorem gC.cons{k:κ}{u:av}{v:V}{aI:List (κ×av)}{iz:List (κ×V)}(r:Rl K ρ H u v)(p:gC K ρ H aI iz):gC K ρ H ((k,u)::aI) ((k,v)::iz):=
 ⟨by simp only[Vp,p.1],a_.cons r p.2⟩
theorem gC.cP{k:κ}{u:av}{aI:List (κ×av)}{l:List (κ×V)}(p:gC K ρ H ((k,u)::aI) l):∃v iz,l=(k,v)::iz/\Rl K ρ H u v/\gC K ρ H aI iz:=by
 obtain⟨h1,h2⟩:=p;cases l with
 |nil=>simp at h1
 |cons x l=>
  obtain⟨k',v⟩:=x;simp only[Vp,List.cons.injEq]at h1 h2;obtain⟨rfl,h1⟩:=h1;obtain⟨v',r,e,q1,q2⟩:=h2.cP;simp only[List.cons.injEq]at e;obtain⟨rfl,rfl⟩:=e;exact⟨v,l,rfl,q1,h1,q2⟩
theorem gC.fe{l:List (κ×V)}(p:gC K ρ H ([]:List (κ×av)) l):l=[]:=by
 have:=p.1;cases l with
 |nil=>rfl
 |cons=>simp at this
theorem gC.mono{aI:List (κ×av)}{l:List (κ×V)}(p:gC K ρ H aI l)(e:aF ρ H ρ' H'):gC K ρ' H' aI l:=⟨p.1,a_.mono e _ _ p.2⟩
theorem gC.length{aI:List (κ×av)}{l:List (κ×V)}(p:gC K ρ H aI l):aI.length=l.length:=by have:=W' List.length p.1;simpa using this
theorem gC.val(k:κ):∀{aI:List (κ×av)}{l:List (κ×V)},gC K ρ H aI l->(sH aI k=none/\iu l k=none)\/∃u v,sH aI k=some u/\iu l k=some v/\Rl K ρ H u v
 |[],l,p=>by rw[p.fe];exact .inl ⟨rfl,rfl⟩
 |(k',u)::aI,l,p=>by
  obtain⟨v,l',rfl,r,p'⟩:=p.cP;by_cases e:k'=k
  .exact .inr ⟨u,v,by simp[sH,e],by simp[iu,e],r⟩
  .rcases gC.val k p' with⟨h1,h2⟩|⟨u',v',h1,h2,h3⟩
   .exact .inl ⟨by simpa[sH,e]using h1,by simpa[iu,e]using h2⟩
   .exact .inr ⟨u',v',by simpa[sH,e]using h1,by simpa[iu,e]using h2,h3⟩
theorem gC.any(k:κ):∀{aI:List (κ×av)}{l:List (κ×V)},gC K ρ H aI l->(aI.any fun kv=>decide (kv.1=k))=l.any fun kv=>decide (kv.1=k)
 |[],l,p=>by rw[p.fe];rfl
 |(k',u)::aI,l,p=>by obtain⟨v,l',rfl,r,p'⟩:=p.cP;simp only[W!,gC.any k p']
theorem gC.si(k:κ){u:av}{v:V}(r:Rl K ρ H u v):∀{aI:List (κ×av)}{l:List (κ×V)},gC K ρ H aI l->gC K ρ H (aI.map fun kv=>if kv.1=k then(kv.1,u)else kv) (l.map fun kv=>if kv.1=k then(kv.1,v)else kv)
 |[],l,p=>by rw[p.fe];exact gC.nil
 |(k',u')::aI,l,p=>by
  obtain⟨v',l',rfl,r',p'⟩:=p.cP;simp only[Vp];by_cases e:k'=k
  .rw[Vo e,Vo e];exact gC.cons r (gC.si k r p')
  .rw[Vu e,Vu e];exact gC.cons r' (gC.si k r p')
theorem gC.snoc{k:κ}{u:av}{v:V}(r:Rl K ρ H u v):∀{aI:List (κ×av)}{l:List (κ×V)},gC K ρ H aI l->gC K ρ H (aI++[(k,u)]) (l++[(k,v)])
 |[],l,p=>by rw[p.fe];exact gC.cons r gC.nil
 |(k',u')::aI,l,p=>by obtain⟨v',l',rfl,r',p'⟩:=p.cP;exact gC.cons r' (gC.snoc r p')
theorem gC.put(k:κ){u:av}{v:V}(r:Rl K ρ H u v){aI:List (κ×av)}{l:List (κ×V)}(p:gC K ρ H aI l):gC K ρ H (Av aI k u) (putK l k v):=by
 unfold Av putK;rw[p.any k];split
 .exact p.si k r
 .exact p.snoc r
end
def dB:av->Option dE
 |.int i=>some (.inl i)
 |.str x=>some (.inr x)
 |_=>none
def keysOf:List av->Option (List dE)
 |[]=>some []
 |u::us=>match dB u,keysOf us with
  |some k,some ks=>some (k::ks)
  |_,_=>none
def l_:av->Option (List dE)
 |.tup us=>keysOf us
 |_=>none
section
variable{K:_u}{ρ:_y}{H:Hp}
theorem sJ{u:av}{v:V}{k:dE}(r:Rl K ρ H u v)(h:dB u=some k):v=kV k:=by
 cases u with
 |int i=>cases h;exact r.cE
 |str x=>cases h;exact r.fg
 |_=>cases h
theorem uZ:∀{us:List av}{vs:List V}{ks:List dE},a_ K ρ H us vs->keysOf us=some ks->vs=ks.map kV
 |[],vs,ks,r,h=>by cases h;exact r.fe
 |u::us,vs,ks,r,h=>by
  obtain⟨v,r',rfl,h2,h3⟩:=r.cP;unfold keysOf at h;split at h
  .rename_i k Vg e1 e2;cases h;rw[sJ h2 e1,uZ h3 e2];rfl
  .cases h
theorem u0{u:av}{v:V}{ks:List dE}(r:Rl K ρ H u v)(h:l_ u=some ks):∃b,v=.ref b/\H b=some (.tup (ks.map kV)):=by
 cases u with
 |tup us=>
  obtain⟨b,vs,rfl,hb,rb⟩:=r.Nc;rw[uZ rb h]at hb;exact⟨b,rfl,hb⟩
 |_=>cases h
end
def kS(st:aj)(d k:av):Option (Option av):=match d with
 |.loc n=>match st[n]? with
  |some (.dK aI)=>(dB k).map fun q=>sH aI q
  |some (.dT aI)=>(l_ k).map fun q=>sH aI q
  |_=>none
 |_=>none
def j'(st:aj)(d k v:av):Option aj:=match d with
 |.loc n=>match st[n]? with
  |some (.dK aI)=>if aI.length<sizeLine then(dB k).map fun q=>st.set n (.dK (Av aI q v))else none
  |some (.dT aI)=>if aI.length<sizeLine then(l_ k).map fun q=>st.set n (.dT (Av aI q v))else none
  |_=>none
 |_=>none
theorem q8{K:_u}{ρ:_y}{st:aj}{H:Hp}{d k:av}{x y:V}{o:Option av}(sr:SR K ρ st H)(rd:Rl K ρ H d x)(rk:Rl K ρ H k y)(h:kS st d k=some o):
  ∃a o',x=.ref a/\nC H a y o'/\OH H a/\((o=none/\o'=none)\/∃u v,o=some u/\o'=some v/\Rl K ρ H u v):=by
 cases d with
 |loc n=>
  obtain⟨a,rfl,ha⟩:=rd.d?;unfold kS at h;dsimp only at h;split at h
  .rename_i aI e;obtain⟨l,hl,p⟩:=sr.cell n _ a e ha;cases z:dB k with
   |none=>rw[z]at h;cases h
   |some q=>
    rw[z]at h;cases h;have:=sJ rk z;subst this;exact⟨a,iu l q,rfl,nC.k hl,.inl ⟨l,.inl hl⟩,p.val q⟩
  .rename_i aI e;obtain⟨l,hl,p⟩:=sr.cell n _ a e ha;cases z:l_ k with
   |none=>rw[z]at h;cases h
   |some q=>
    rw[z]at h;cases h;obtain⟨b,rfl,hb⟩:=u0 rk z;exact⟨a,iu l q,rfl,nC.t hl hb,.inr ⟨l,.inl hl⟩,p.val q⟩
  .cases h
 |_=>cases h
theorem w_{K:_u}{ρ:_y}{st ax:aj}{H:Hp}{d k v:av}{x y z:V}(sr:SR K ρ st H)(rd:Rl K ρ H d x)(rk:Rl K ρ H k y)(rv:Rl K ρ H v z)(h:j' st d k v=some ax):
  ∃a H',x=.ref a/\sk H a y z H'/\aF ρ H ρ H'/\SR K ρ ax H':=by
 cases d with
 |loc n=>
  obtain⟨a,rfl,ha⟩:=rd.d?;unfold j' at h;dsimp only at h;split at h
  .rename_i aI e;obtain⟨l,hl,p⟩:=sr.cell n _ a e ha;split at h
   .rename_i hz;cases zk:dB k with
    |none=>rw[zk]at h;cases h
    |some q=>
     rw[zk]at h;cases h;have:=sJ rk zk;subst this;have st1:aF ρ H ρ (upd H a (.dK (putK l q z))):=aF.put hl (fun _ z=>by cases z) (fun _ _ z=>by cases z);exact⟨a,_,rfl,sk.k hl (by rw[<-p.length];exact hz),st1,sr.set e rfl rfl ha hl (fun _ z=>by cases z) (fun _ _ z=>by cases z) ⟨_,cL,(p.put q rv).mono st1⟩⟩
   .cases h
  .rename_i aI e;obtain⟨l,hl,p⟩:=sr.cell n _ a e ha;split at h
   .rename_i hz;cases zk:l_ k with
    |none=>rw[zk]at h;cases h
    |some q=>
     rw[zk]at h;cases h;obtain⟨b,rfl,hb⟩:=u0 rk zk;have st1:aF ρ H ρ (upd H a (.dT (putK l q z))):=aF.put hl (fun _ z=>by cases z) (fun _ _ z=>by cases z);exact⟨a,_,rfl,sk.t hl hb (by rw[<-p.length];exact hz),st1,sr.set e rfl rfl ha hl (fun _ z=>by cases z) (fun _ _ z=>by cases z) ⟨_,cL,(p.put q rv).mono st1⟩⟩
   .cases h
  .cases h
 |_=>cases h
def ja:ME:=fun _ st=>.ok (.loc st.length) (st++[.dT []])
def gE:F2:=fun d k st=>match kS st d k with
 |some (some v)=>.ok v st
 |_=>.bad
def Ua(neg:Bool):F2:=fun k d st=>match kS st d k with
 |some o=>.ok (.bl (if neg then !o.isSome else o.isSome)) st
 |none=>.bad
def sM(st:aj):av->Bool
 |.loc n=>match st[n]? with
  |some (.dK _)=>true
  |some (.dT _)=>true
  |_=>false
 |_=>false
def iD(d k x:ME):ME:=fun μ st=>(d μ st).bind fun dv st1=>if sM st1 dv=true then(k μ st1).bind fun kv st2=>(x μ st2).bind fun xv fP=>match kS fP dv kv with
 |some o=>.ok (o.getD xv) fP
 |none=>.bad else .bad
def kd(d k v:ME):MB:=fun μ st=>(v μ st).sb μ fun vv st1=>(d μ st1).sb μ fun dv st2=>(k μ st2).sb μ fun kv fP=>match j' fP dv kv vv with
 |some j?=>.nx μ j?
 |none=>.bad
section
variable{X:Cx}{E:XK}{pos pos' apos bT:Pos}{o i e f value:Expr}{md mk mv mx:ME}
theorem CO{K:_u}{ρ:_y}{st:aj}{H:Hp}(sr:SR K ρ st H){p:_C}(hp:H p=none){ob:HO}{c:aG}(k:gu K (ρ++[p]) (upd H p ob) c p):
  aF ρ H (ρ++[p]) (upd H p ob)/\SR K (ρ++[p]) (st++[c]) (upd H p ob)/\Rl K (ρ++[p]) (upd H p ob) (.loc st.length) (.ref p):=by
 refine⟨aF.snoc p (dk hp),sr.alloc hp k,Rl.Cd ?_⟩;rw[<-sr.len,VJ (Vq _),Ws];rfl
theorem CP:PE X (.Dict [] [] pos) (tE X E ja):=by refine PE.imp BX ?_;rintro σ H Q ⟨μ,ρ,st,rs,sr,h⟩ p hp;obtain⟨k1,k2,k3⟩:=CO (c:=.dT []) sr hp ⟨[],cL,gC.nil⟩;exact h _ _ _ k1 k2 k3
theorem F9(hu:X.A.units+64<cLine)(ho:PE X o (tE X E md))(hi:PE X i (tE X E mk))(hs:Jv i:=by exact fun _ _=>rfl):PE X (.Subscript o i pos) (tE X E (ah gE md mk)):=by
 refine PE.imp (Ft (by lia) ho hi hs) ?_;rintro σ H Q ⟨μ,ρ,st,rs,sr,h⟩;refine go μ ρ st rs sr h fun d st1 ρ1 H1 x e1 bP r1 h1=>?_;refine go μ ρ1 st1 (rs.mono e1) bP h1 fun k st2 ρ2 H2 y e2 ir r2 h2=>?_;unfold gE at h2;split at h2
 .rename_i u hl;obtain⟨a,o',rfl,hd,_,hv⟩:=q8 ir (Rl.mono e2 _ _ r1) r2 hl;rcases hv with⟨z,_⟩|⟨u',v,z,rfl,rv⟩
  .cases z
  .cases z;exact⟨a,v,rfl,hd,h2 ρ2 H2 v (aF.refl _ _) ir rv⟩
 .exact h2.elim
theorem F_{K:_u}{ρ:_y}{st:aj}{H:Hp}{d:av}{x:V}(sr:SR K ρ st H)(r:Rl K ρ H d x)(h:sM st d=true):∃a,x=.ref a/\OH H a:=by
 cases d with
 |loc n=>
  obtain⟨a,rfl,ha⟩:=r.d?;obtain⟨c,hc,kc⟩:=sr.there ha;simp only[sM,hc]at h;cases c with
  |dK aI=>obtain⟨l,hl,_⟩:=kc;exact⟨a,rfl,.inl ⟨l,.inl hl⟩⟩
  |dT aI=>obtain⟨l,hl,_⟩:=kc;exact⟨a,rfl,.inr ⟨l,.inl hl⟩⟩
  |_=>cases h
 |_=>cases h
theorem CQ(hu:X.A.units+64<cLine)(ho:PE X o (tE X E md))(he:PE X e (tE X E mk))(hf:PE X f (tE X E mx))(m:M2 X o "get" apos e f bT:=by exact⟨rfl,rfl,rfl,rfl⟩):PE X (.Call (.Attribute o "get" apos) [e,f] [] bT) (tE X E (iD md mk mx)):=by
 refine PE.imp (BY (by lia) ho he hf m) ?_;rintro σ H Q ⟨μ,ρ,st,rs,sr,h⟩;refine go μ ρ st rs sr h fun d st1 ρ1 H1 x e1 bP r1 h1=>?_;split at h1
 .rename_i hd;obtain⟨a,rfl,ia⟩:=F_ bP r1 hd;refine⟨a,rfl,ia,?_⟩;refine go μ ρ1 st1 (rs.mono e1) bP h1 fun k st2 ρ2 H2 y e2 ir r2 h2=>?_;refine go μ ρ2 st2 ((rs.mono e1).mono e2) ir h2 fun xv fP ρ3 H3 z e3 nF r3 h3=>?_;split at h3
  .rename_i ov hl;obtain⟨a',o',ea,Pr,_,hv⟩:=q8 nF (Rl.mono (e2.trans e3) _ _ r1) (Rl.mono e3 _ _ r2) hl;cases ea;refine⟨o',Pr,?_⟩;rcases hv with⟨rfl,rfl⟩|⟨u,v,rfl,rfl,rv⟩
   .exact h3 ρ3 H3 z (aF.refl _ _) nF r3
   .exact h3 ρ3 H3 v (aF.refl _ _) nF rv
  .exact h3.elim
 .exact h1.elim
theorem F!(hu:X.A.units+64<cLine)(ho:PE X o (tE X E md))(hi:PE X i (tE X E mk))(hv:PE X value (tE X E mv))(hs:swapsWith value (some (.Subscript o i pos')) pos.line X.env=pure false:=by rfl):
  PS X (.Assign [.Subscript o i pos'] value pos) (tS X E (kd md mk mv)):=by
 refine PS.imp (Fu (by lia) ho hi hv hs) ?_;rintro D σ H ⟨μ,ρ,st,rs,sr,h⟩;refine Bq μ ρ st rs sr h fun v st1 ρ1 H1 z e1 bP r1 h1=>?_;refine Bq μ ρ1 st1 (rs.mono e1) bP h1 fun d st2 ρ2 H2 x e2 ir r2 h2=>?_;refine Bq μ ρ2 st2 ((rs.mono e1).mono e2) ir h2 fun k fP ρ3 H3 y e3 nF r3 h3=>?_;split at h3
 .rename_i j? Ez;obtain⟨a,H4,rfl,hd,s4,l7⟩:=w_ nF (Rl.mono e3 _ _ r2) r3 (Rl.mono (e2.trans e3) _ _ r1) Ez;exact⟨a,H4,rfl,hd,h3 ρ3 H4 σ s4 l7 ((((rs.mono e1).mono e2).mono e3).mono s4)⟩
 .exact h3.elim
end
section
variable{X:Cx}{E:XK}{es:List Expr}{ms:MA}{pos:Pos}
theorem Ko{a b:Expr}{ma mb:ME}(ha:PE X a (tE X E ma))(hb:PE X b (tE X E mb))(hs:rX b:=by exact fun _ _=>rfl):PE X (.Subscript a b pos) (tE X E (ah b5 ma mb)):=HN QO ha hb hs
end
def w!(us:List av)(lo hi:Option Int):List av:=(us.drop (HT.fw us.length 0 lo)).take (HT.fw us.length us.length hi-HT.fw us.length 0 lo)
theorem a_.cut{K:_u}{ρ:_y}{H:Hp}{us:List av}{vs:List V}(r:a_ K ρ H us vs)(lo hi:Option Int):a_ K ρ H (w! us lo hi) (rT vs lo hi):=by unfold w! rT;rw[r.length];exact a_.take _ (a_.drop _ r)
abbrev MO:=Env->aj->cX (Option Int)
abbrev RO:_y->Hp->Option Int->Option Int->Prop:=fun _ _ a b=>b=a
abbrev LR(X:Cx)(E:XK)(m:MO):TO:=tG (wo X) E RO m
def du:MO:=fun _ st=>.ok none st
def dw(m:ME):MO:=fun μ st=>(m μ st).bind fun v ax=>match v with
 |.int i=>.ok (some i) ax
 |_=>.bad
def HS(lo hi:Option Int):av->aj->cX av
 |.tup us,st=>if HT.fw us.length 0 lo=0/\HT.fw us.length us.length hi=us.length then .bad else .ok (.tup (w! us lo hi)) st
 |.loc n,st=>match au st n with
  |some us=>.ok (.loc st.length) (st++[.lst (w! us lo hi)])
  |none=>.bad
 |_,_=>.bad
def Kp(a:ME)(lo hi:MO):ME:=fun μ st=>(a μ st).bind fun x st1=>(lo μ st1).bind fun l st2=>(hi μ st2).bind fun h fP=>HS l h x fP
section
variable{X:Cx}{E:XK}{pos p2:Pos}{e:Expr}{m:ME}
theorem PO.imp{e:Option Expr}{t t':TO}(h:PO X e t)(k:∀σ H Q,t' σ H Q->t σ H Q):PO X e t':=fun af s σ H Q I q=>h af s σ H Q I (k σ H Q q)
theorem F?:PO X none (LR X E du):=PO.imp Fe fun σ H Q⟨μ,ρ,st,rs,sr,h⟩=>h ρ H none (aF.refl _ _) sr rfl
theorem F'(h:PE X e (tE X E m)):PO X (some e) (LR X E (dw m)):=by
 refine PO.imp (Ff h) ?_;rintro σ H Q ⟨μ,ρ,st,rs,sr,h⟩;refine go μ ρ st rs sr h fun u st1 ρ1 H1 x e1 bP r1 h1=>?_;cases u with
 |int i=>exact⟨i,r1.cE,h1 ρ1 H1 (some i) (aF.refl _ _) bP rfl⟩
 |_=>exact h1.elim
theorem Nt{lo hi:Option Expr}{ml mh:MO}(he:PE X e (tE X E m))(hl:PO X lo (LR X E ml))(hh:PO X hi (LR X E mh)):PE X (.Subscript e (.Slice lo hi none p2) pos) (tE X E (Kp m ml mh)):=by
 refine PE.imp (uA (Fg.or Fj Ji) he hl hh) ?_;rintro σ H Q ⟨μ,ρ,st,rs,sr,h⟩;refine go μ ρ st rs sr h fun u st1 ρ1 H1 x e1 bP r1 h1=>?_;refine go (R1:=RO) μ ρ1 st1 (rs.mono e1) bP h1 fun l st2 ρ2 H2 l' e2 ir r2 h2=>?_;cases r2;refine go (R1:=RO) μ ρ2 st2 ((rs.mono e1).mono e2) ir h2 fun k fP ρ3 H3 k' e3 nF r3 h3=>?_;cases r3;have ru:=Rl.mono e3 _ _ (Rl.mono e2 _ _ r1);cases u with
 |tup us=>
  obtain⟨a,vs,rfl,ha,ra⟩:=ru.gg;unfold HS at h3;dsimp only at h3;split at h3
  .exact h3.elim
  .rename_i hz;refine .inr ⟨a,vs,rfl,ha,by rw[<-ra.length];exact hz,fun p hp=>?_⟩;have s:=dk (o:=.tup (rT vs l k)) hp;exact h3 ρ3 _ _ (aF.same s) (nF.grow s) (Rl.oV cL (a_.mono (aF.same s) _ _ (ra.cut l k)))
 |loc n=>
  obtain⟨a,rfl,ha⟩:=ru.d?;cases z:au fP n with
  |none=>simp only[HS,z]at h3;exact h3.elim
  |some us=>
   simp only[HS,z]at h3;obtain⟨vs,hs,rv⟩:=bp nF z ha;refine .inl ⟨a,vs,rfl,hs,fun p hp=>?_⟩;obtain⟨k1,k2,k3⟩:=eO nF (rv.cut l k) hp;exact h3 _ _ _ k1 k2 k3
 |_=>exact h3.elim
end
def Ub:FM
 |.loc n,[],st=>match st[n]? with
  |some (.lst us)=>match us[us.length-1]? with
   |some u=>.ok u (st.set n (.lst us.dropLast))
   |none=>.bad
  |_=>.bad
 |_,_,_=>.bad
def OY:FM
 |.loc n,[.loc m],st=>match st[n]?,st[m]? with
  |some (.lst us),some (.lst ws)=>if us.length+ws.length<=sizeLine then .ok .fc (st.set n (.lst (us++ws)))else .bad
  |_,_=>.bad
 |_,_,_=>.bad
section
variable{X:Cx}{E:XK}{o:Expr}{mo:ME}{apos bT:Pos}{f:FM}
end
def u3(o i v:av)(st:aj):Option aj:=match o,i with
 |.loc n,.int k=>match st[n]? with
  |some (.lst us)=>(L2.zT us.length k).map fun j=>st.set n (.lst (us.set j v))
  |_=>none
 |_,_=>none
def OZ(μ:Env):Option aj->cg
 |some st=>.nx μ st
 |none=>.bad
def yD(o i v:ME):MB:=fun μ st=>(v μ st).sb μ fun x st1=>(o μ st1).sb μ fun y st2=>(i μ st2).sb μ fun z fP=>OZ μ (u3 y z x fP)
section
variable{X:Cx}{E:XK}{o i v:Expr}{mo mi mv:ME}{pos qm:Pos}{f:F2}
theorem Aw{ρ:_y}{st ax:aj}{H:Hp}{u z w:av}{x y q:V}{Q:Hp->Prop}(sr:SR X.K ρ st H)(ru:Rl X.K ρ H u x)(rz:Rl X.K ρ H z y)(wJ:Rl X.K ρ H w q)(h:u3 u z w st=some ax)(k:∀H',aF ρ H ρ H'->SR X.K ρ ax H'->Q H'):HD x y q H Q:=by
 unfold u3 at h;split at h
 .rename_i n j;split at h
  .rename_i us hu;obtain⟨a,rfl,ha⟩:=ru.d?;obtain⟨vs,hH,rv⟩:=sr.cell n _ a hu ha;cases hj:L2.zT us.length j with
   |none=>rw[hj]at h;cases h
   |some jj=>
    rw[hj]at h;cases h;refine⟨a,vs,j,jj,rfl,rz.cE,hH,by rw[<-rv.length];exact hj,?_⟩;obtain⟨k1,k2⟩:=yB sr hu ha hH (a_.set wJ jj rv);exact k _ k1 k2
  .cases h
 .cases h
theorem Ga(ho:PE X o (tE X E mo))(hi:PE X i (tE X E mi))(hv:PE X v (tE X E mv))
  (ha:∀ u,assign (.Subscript o i qm) X.env u=(do
   let ov <- holding [u] (eval o X.env)
   let iv <- holding [u,ov] (eval i X.env)
   standAt qm
   holding [u,ov,iv] (setItem ov iv u)
   release [u,ov,iv] []):=by intro _;rfl)
  (hs:swapsWithSole [.Subscript o i qm] v pos.line X.env=pure false:=by rfl) (hw:swappedStores [.Subscript o i qm] v X.env=pure none:=by rfl) (h1:(assignEach [.Subscript o i qm] X.env).map (·.2)=[assign (.Subscript o i qm) X.env]:=by rfl):
  PS X (.Assign [.Subscript o i qm] v pos) (tS X E (yD mo mi mv)):=by
 refine PS.imp (IL hv (IK ho hi set_list ha) hs hw h1) ?_;rintro D σ H ⟨μ,ρ,st,rs,sr,h⟩;refine Bq μ ρ st rs sr h fun u st1 ρ1 H1 x e1 bP r1 h1=>?_;refine Bq μ ρ1 st1 (rs.mono e1) bP h1 fun w st2 ρ2 H2 y e2 ir r2 h2=>?_;refine Bq μ ρ2 st2 ((rs.mono e1).mono e2) ir h2 fun z fP ρ3 H3 q e3 nF r3 h3=>?_;cases hz:u3 w z u fP with
 |none=>rw[hz]at h3;exact h3.elim
 |some j?=>
  rw[hz]at h3;exact Aw nF (Rl.mono e3 _ _ r2) r3 (Rl.mono e3 _ _ (Rl.mono e2 _ _ r1)) hz fun H' k1 k2=>h3 ρ3 H' σ k1 k2 ((((rs.mono e1).mono e2).mono e3).mono k1)
end
def kT:Nat->List av->List av
 |_,[]=>[]
 |i,u::us=>.tup [.int i,u]::kT (i+1) us
theorem u4:∀(us:List av)(k i:Nat)(z:av),(kT k us)[i]?=some z->∃u,us[i]?=some u/\z=.tup [.int ((k+i:Nat):Int),u]
 |[],_,_,_,h=>by cases h
 |u::us,k,0,z,h=>by cases h;exact⟨u,rfl,rfl⟩
 |u::us,k,i+1,z,h=>by obtain⟨w,h1,h2⟩:=u4 us (k+1) i z h;exact⟨w,h1,by rw[h2,show k+1+i=k+(i+1) by lia]⟩
theorem l!:∀(us:List av)(k:Nat),(kT k us).length=us.length
 |[],_=>rfl
 |_::us,k=>by simp only[kT,Vl,l! us]
section
variable{X:Cx}{E:XK}{tg:Expr}{pos p:Pos}
end
def intsOf:List av->Option (_v)
 |[]=>some []
 |.int i::us=>(intsOf us).map (i :: ·)
 |_::_=>none
def sumF:FN
 |[.loc n],st=>match au st n with
  |some us=>match intsOf us with
   |some ns=>.ok (.int ns.sum) st
   |none=>.bad
  |none=>.bad
 |_,_=>.bad
section
variable{X:Cx}{E:XK}
end
section
variable{X:Cx}{E:XK}{o e:Expr}{es:List Expr}{mo:ME}{ms:MA}{apos bT:Pos}
theorem Ax(ho:PE X o (tE X E mo))(ha:PA X (e::es) (tL X E ms))(uB:attributeBase o "append" X.env (eval o X.env)=eval o X.env:=by rfl)
  (BR:((backTo bT (starEach (e::es) X.env)).all (fun x => !x.1)&&(backToKw bT (keywordEach [] X.env)).all (fun x=>x.1.isSome)
   && decide ((e::es).length+([]:List Keyword).length+(if([]:List Keyword).isEmpty then 0 else 1)<30))=true:=by rfl)
  (uC:(apos.endLine==bT.line)=true:=by rfl) (hs:starEach (e::es) X.env=(false,eval e X.env)::starEach es X.env:=by rfl) (oM:(backTo bT (starEach es X.env)).any (·.1)=false:=by rfl):
  PE X (.Call (.Attribute o "append" apos) (e::es) [] bT) (tE X E (gR bZ mo ms)):=Kg PySem.F.slot_list_append PySem.F.type_list_append w6 ho ha uB BR uC hs oM
end
theorem Nu{X:Cx}{N:_z}{scope:Scope}{k:Nat}{cl cl':List (Str×_C)}{caps caps':List Nat}(lW:closureFor scope X.env=pure cl')(A:fD X scope cl caps)(B:fD X scope cl' caps')(has:((relabel scope X.env).names.all fun p => !(p.2 == .cell || p.2 == .free) || (cl'.map (·.1)).contains p.1)=true)(fS:(scope.names.all fun p => !(p.2 == .cell))=true)(kind:scope.kind=.function)(names:(scope.names.all fun p => !(p.2 == .local) || scope.names.lookup p.1==some .local)=true)(len:N.length=k+caps.length)(hN:N.drop k=cl.map (·.1)):lV X N scope cl' k caps where
 lW:=lW
 sub:=B.sub
 has:=fun x h=>by
  have m:x∈cl'.map (·.1):=by rcases h with h|h<;>(have m:=WN h;have z:=Wv.mp has _ m;simpa using z)
  exact gS m
 fS:=fun x hx h=>by have z:=Wv.mp fS x hx;simp[h]at z
 kind:=kind
 names:=fun x hx h=>by have z:=Wv.mp names x hx;simpa[h]using z
 len:=len
 at_:=fun i j x h1 h2=>A.at_ i j x h1 (by rw[<-hN,Zi];exact h2)
theorem len0{C:_w->Prop}(h:C [])(us:_w)(hl:us.length=0):C us:=by rw[Xk hl];exact h
theorem Gb{C:_w->Prop}{n:Nat}(h:∀a(r:_w),r.length=n->C (a::r))(us:_w)(hl:us.length=n+1):C us:=by
 cases us with
 |nil=>cases hl
 |cons a r=>exact h a r (Nat.succ.inj hl)
theorem Nv{C:_w->Prop}(h:∀a,C [a]):∀us:_w,us.length=1->C us:=Gb fun a=>len0 (C:=fun r=>C (a::r)) (h a)
theorem Nw{C:_w->Prop}(h:∀a b,C [a,b]):∀us:_w,us.length=2->C us:=Gb fun a=>Nv (C:=fun r=>C (a::r)) (h a)
theorem Nx{C:_w->Prop}(h:∀a b c,C [a,b,c]):∀us:_w,us.length=3->C us:=Gb fun a=>Nw (C:=fun r=>C (a::r)) (h a)
theorem Ny{C:_w->Prop}(h:∀a b c d,C [a,b,c,d]):∀us:_w,us.length=4->C us:=Gb fun a=>Nx (C:=fun r=>C (a::r)) (h a)
end MN
namespace L2
open PySem.Spec PyProof.Rows PySem.W Builtin Builtin.ObjectAttr Builtin.Getset_descriptor PySem.Calls
def sN(K:_u)(C:_C):Bool:=findIn K (.ref C) "__getattribute__" == some (some (.builtin "BaseException.__getattribute__"))&&(findIn K (.ref C) "__getattr__" == some none)&&(findIn K (.ref C) "__class__" == some (some (.builtin "object.__class__"))) &&
 (mroIn K C (.type "object")==some true)&&(mroIn K C (.type "BaseException")==some true)&&(specialIn K (.builtin "object.__class__") "__get__" == some (some (.builtin "getset_descriptor.__get__")))&&(takesIn K (.builtin "object.__class__")==some true)&&(kitCls K (.ref C) (.ref C)==some true)
structure CS(K:_u)(C:_C):Prop where
 ga:findIn K (.ref C) "__getattribute__" = some (some (.builtin "BaseException.__getattribute__"))
 gh:findIn K (.ref C) "__getattr__" = some none
 gc:findIn K (.ref C) "__class__" = some (some (.builtin "object.__class__"))
 mo:mroIn K C (.type "object")=some true
 mb:mroIn K C (.type "BaseException")=some true
 sg:specialIn K (.builtin "object.__class__") "__get__" = some (some (.builtin "getset_descriptor.__get__"))
 tk:takesIn K (.builtin "object.__class__")=some true
 kc:kitCls K (.ref C) (.ref C)=some true
theorem Ay{K:_u}{C:_C}(h:sN K C=true):CS K C:=by unfold sN at h;simp only[Wy]at h;obtain⟨⟨⟨⟨⟨⟨⟨a,b⟩,c⟩,d⟩,e⟩,f⟩,g⟩,i⟩:=h;exact⟨WK.mp a,WK.mp b,WK.mp c,WK.mp d,WK.mp e,WK.mp f,WK.mp g,WK.mp i⟩
section
variable{prog:_E}{w:World}{A:_D}{E:_r}{s:_B}{K:_u}{x C:_C}{ox:Obj}{R:Result->_B->Prop}
end
section
variable{X:Cx}
end
end L2
namespace MN
open PySem.Spec L2
open PyProof.Rows hiding St
inductive sO(K:_u)(mg:_s):_z->Prop
 |nil:sO K mg []
 |cons {x:Str} {C:_C} {r:_z} (hm:mg x=some (.ref C)) (hq:sN K C=true) (hr:sO K mg r):sO K mg (x::r)
theorem sO.at_{K:_u}{mg:_s}{c:Str}:∀{qs:_z},sO K mg qs->qs.contains c=true->∃C,mg c=some (.ref C)/\CS K C
 |_,.nil,h=>by simp at h
 |_,.cons (x:=x) hm hq hr,h=>by
  by_cases e:c=x
  .subst e;exact⟨_,hm,Ay hq⟩
  .exact hr.at_ (by simpa[e]using h)
section
variable{X:Cx}{E:XK}{pos p q1 qm:Pos}{n:Str}{i:Nat}{tab:List (Str×Str×Bool)}{qs xs:_z}{es:List Expr}{cx:Nat}
end
section
variable{K:_u}{ρ ρ':_y}{H H':Hp}{c:_C}{o:Obj}
end
section
variable{X:Cx}{E:XK}{pos p:Pos}{e:Expr}{es:List Expr}{ms:MA}{x:Str}{L:nE}{k:Nat}{mb:ME}
end
section
variable{P:_E}{w:World}{K:_u}{mg:_s}{base:Heap}
end
structure Gd where
 S:nE
 own:Str
 line:Nat
 col:Nat
section
variable{X:Cx}{E:XK}{pos p lp:Pos}{e:Expr}{es:List Expr}{ms:MA}{x y:Str}{L:Gd}{k j:Nat}{f:av->FN}{c cd T:_C}
end
end MN
namespace L2
open PySem.Spec PyProof.Rows
section
variable{X:Cx}
end
end L2
namespace MN
open PySem.Spec L2
open PyProof.Rows hiding St
section
variable{X:Cx}{E:XK}{o:Expr}{mo:ME}{apos bT:Pos}
end
end MN
namespace PM
open PySem.Spec L2 MN
open PyProof.Rows hiding St
def fj:av:=.mt ([2,3,5,7,11,13,17,19,23,29,31].map av.int)
def fN:FN:=fQ 1 1 (a7 (kN (m9 "int" (aa 0)) (Ad (m9 "bool" (aa 0)))))
def b7:FN:=fQ 1 1 (aA (dq (a! (ah (Ag false) (aa 0) (mC PM.fj))) (a7 (mC (.bl true))) aK) (aA (dq (eh (a! (ah ltV (aa 0) (mC (.int 2)))) (a! (ah Af (aa 0) (mC (.int 997))))) (a7 (mC (.bl false))) aK) (a7 (ak l8 (ae (bV 1 [0] (cQ (mC PM.fj)) (ay 0) bf (ah fA (ah bN (aa 1) (aa 0)) (mC (.int 0)))) ao)))))
def bL:FN:=fQ 2 2 (a7 (uQ (a! (ah dr (aa 0) (mC (.int 0)))) (aa 1) (ah bN (aa 1) (aa 0))))
def aT:FN:=fQ 2 6 (aA (aE 2 (mC (.int 0))) (aA (dq (a! (ah ltV (aa 1) (ak b9 (ae (aa 0) ao)))) (aE 2 (ah b5 (aa 0) (aa 1))) aK) (aA (aE 3 (ah bN (ah bo (ah bo (ah bo (ah cN (aa 2) (mC (.int 48271))) (ah cN (ah cN (mC (.int 7919)) (aa 1)) (aa 1))) (ah cN (mC (.int 104729)) (aa 1))) (mC (.int 11))) (mC (.int 2147483647)))) (aA (aE 4 (mC (.int 0))) (aA (dO (bE (ae (mC (.int 6)) ao)) (ay 5) (aA (aE 3 (ah bN (ah bo (ah cN (ah bN (ah cN (aa 3) (aa 3)) (mC (.int 2147483629))) (mC (.int 69621))) (aa 5)) (mC (.int 2147483647)))) (aE 4 (ah bo (ah cN (aa 4) (mC (.int 2147483647))) (aa 3))))) (a7 (aa 4)))))))
def jE:FN:=fQ 1 1 (a7 (kN (ak PM.fN (ae (aa 0) ao)) (OS (ah dr (aa 0) (mC (.int 0))) (ak PM.b7 (ae (aa 0) ao)))))
def c_:FN:=fQ 1 1 (dq (cm (a! (ak PM.jE (ae (aa 0) ao)))) (eB "NoRing" (ae (mC (.str "a ring is 0 or a prime from 2 to 997")) ao)) aK)
def e9:FN:=fQ 1 1 (a7 (kN (m9 "int" (aa 0)) (Ad (m9 "bool" (aa 0)))))
def gp:FN:=fQ 1 2 (aA (dq (a! (ah dr (ah bN (aa 0) (mC (.int 2))) (mC (.int 0)))) (a7 (ah b5 (bK (ae (mC (.int 2)) (ae (mC (.int 3)) (ae (mC (.int 5)) (ae (mC (.int 7)) (ae (mC (.int 11)) (ae (mC (.int 13)) ao))))))) (ah bN (ah bX (aa 0) (mC (.int 2))) (mC (.int 6))))) aK) (aA (aE 1 (ah bo (mC (.int 2)) (ah bN (ah bX (aa 0) (mC (.int 2))) (mC (.int 996))))) (aA (l9 (a! (ah fA (bV 1 [1] (jD (ae (mC (.int 2)) (ae (mC (.int 32)) ao))) (ay 0) (jQ (a! (ah ltV (aa 0) (aa 1))) (a! (ah dr (ah bN (aa 1) (aa 0)) (mC (.int 0))))) (aa 0)) (bK ao))) (aE 1 (ah bo (aa 1) (mC (.int 1))))) (a7 (aa 1)))))
def gw:FN:=fQ 1 1 (aA (dq (a! (ah dr (ah bN (aa 0) (mC (.int 3))) (mC (.int 0)))) (a7 (mC (.int 0))) aK) (a7 (ak PM.gp (ae (ah bX (aa 0) (mC (.int 3))) ao))))
end PM
namespace MN
open PySem.Spec L2
open PyProof.Rows hiding St
theorem dy{g:aj->Prop}{a:AS}{body:MB}(P:Nat->Env->aj->Prop):∀(us:List av)(k:Nat)(μ:Env)(st:aj),
  (∀(i:Nat)(u:av)(μ:Env)(st:aj),us[i]?=some u->P (k+i) μ st->g st/\∃μ1,a u μ=some μ1/\∃μ' ax,(body μ1 st=.nx μ' ax\/body μ1 st=.ct μ' ax)/\P (k+i+1) μ' ax) ->
  (∀μ st,P (k+us.length) μ st->g st)->P k μ st->∃μ' ax,forL g a body us μ st=.nx μ' ax/\P (k+us.length) μ' ax
 |[],k,μ,st,_,he,h=>by refine⟨μ,st,?_,h⟩;unfold forL;rw[Vo (he μ st h)]
 |u::us,k,μ,st,hs,he,h=>by
  obtain⟨hg,μ1,ha,μ',ax,hb,hP⟩:=hs 0 u μ st rfl h;have ih:=dy (a:=a) (body:=body) P us (k+1) μ' ax (fun i v μ2 st2 hv hp=>by
   have:=hs (i+1) v μ2 st2 hv (by rw[show k+(i+1)=k+1+i by lia];exact hp);rw[show k+(i+1)+1=k+1+i+1 by lia]at this;exact this) (fun μ2 st2 hp=>he μ2 st2 (by rw[Vl,show k+(us.length+1)=k+1+us.length by lia];exact hp)) hP
  obtain⟨μ2,st2,e2,p2⟩:=ih;refine⟨μ2,st2,?_,by rw[Vl,show k+(us.length+1)=k+1+us.length by lia];exact p2⟩;unfold forL;rw[Vo hg,ha];rcases hb with hb|hb<;>(dsimp only;rw[hb];exact e2)
theorem dG{g:aj->Prop}{a:AS}{c:MT}{e:ME}{st:aj}(hg:g st)(I:Env->Prop)(p:av->Bool)(f:av->av):∀(us:List av)(τ:Env)(ys:List av),I τ ->
  (∀u∈us,∀τ,I τ->∃τ1,a u τ=some τ1/\I τ1/\c τ1 st=.ok (p u) st/\(p u=true->e τ1 st=.ok (f u) st))->bQ g a c e us τ st ys=.ok (ys++(us.filter p).map f) st
 |[],τ,ys,_,_=>by unfold bQ;rw[Vo hg];simp
 |u::us,τ,ys,hI,hs=>by
  obtain⟨τ1,h1,h2,h3,h4⟩:=hs u Vt τ hI;have Nz:=fun v hv=>hs v (Vr u hv);unfold bQ;rw[Vo hg,h1];dsimp only;rw[h3];cases z:p u with
  |true=>
   dsimp only;rw[h4 z];dsimp only;rw[dG hg I p f us τ1 _ h2 Nz,Yz z];simp
  |false=>
   dsimp only;rw[dG hg I p f us τ1 _ h2 Nz,YA (by rw[z];simp)]
theorem aL(st:aj)(us:List av):au (st++[.lst us]) st.length=some us:=by unfold au;rw[VJ (Vq _),Ws];rfl
theorem aC{st:aj}{n:Nat}{us:List av}(h:au st n=some us)(more:aj):au (st++more) n=some us:=by
 have hn:n<st.length:=by
  rcases V! n st.length with q|q
  .exact q
  .unfold au at h;rw[V7 q]at h;cases h
 unfold au at h⊢;rw[V3 hn];exact h
theorem ph{t:MT}{body:MB}(P:Env->aj->Prop)(M:Env->aj->Nat)(Q:Env->aj->Prop)(hs:∀μ st,P μ st->(∃st1,t μ st=.ok false st1/\Q μ st1)\/∃st1 μ' ax,t μ st=.ok true st1/\(body μ st1=.nx μ' ax\/body μ st1=.ct μ' ax)/\P μ' ax/\M μ' ax<M μ st):
  ∀(n:Nat)(μ:Env)(st:aj),M μ st<n->P μ st->∃μ' ax,fC t body n μ st=some (.nx μ' ax)/\Q μ' ax
 |0,μ,st,h,_=>absurd h (_p _)
 |n+1,μ,st,h,hp=>by
  unfold fC;rcases hs μ st hp with⟨st1,e,q⟩|⟨st1,μ',ax,e,hb,p',lt⟩
  .rw[e];exact⟨μ,st1,rfl,q⟩
  .rw[e];dsimp only;obtain⟨μ2,st2,e2,q2⟩:=ph P M Q hs n μ' ax (by lia) p';rcases hb with hb|hb<;>(rw[hb];exact⟨μ2,st2,e2,q2⟩)
theorem w?{t:MT}{body:MB}(P:Env->aj->Prop)(M:Env->aj->Nat)(Q:Env->aj->Prop)(hs:∀μ st,P μ st->(∃st1,t μ st=.ok false st1/\Q μ st1)\/∃st1 μ' ax,t μ st=.ok true st1/\(body μ st1=.nx μ' ax\/body μ st1=.ct μ' ax)/\P μ' ax/\M μ' ax<M μ st)(μ:Env)(st:aj)(hp:P μ st):∃μ' ax,l9 t body μ st=.nx μ' ax/\Q μ' ax:=by obtain⟨μ',ax,e,q⟩:=ph P M Q hs (M μ st+1) μ st (XN _) hp;exact⟨μ',ax,Ar e,q⟩
def cX.fR{α β:Type}(r:cX α)(k:α->aj->cX β):cX β:=match r with
 |.ok a st=>k a st
 |.err c st=>.err c st
 |.bad=>.bad
def cX.xa{α:Type}(r:cX α)(μ:Env)(k:α->aj->cg):cg:=match r with
 |.ok a st=>k a st
 |.err c st=>.er c μ st
 |.bad=>.bad
def cg.cf(r:cg)(k:MB):cg:=match r with
 |.nx μ st=>k μ st
 |.rt v st=>.rt v st
 |.bk μ st=>.bk μ st
 |.ct μ st=>.ct μ st
 |.er c μ st=>.er c μ st
 |.bad=>.bad
def cg.fin(r:cg):cX av:=match r with
 |.nx _ ax=>.ok .fc ax
 |.rt v ax=>.ok v ax
 |.er c _ ax=>.err c ax
 |_=>.bad
section
variable{α β:Type}{μ:Env}{st:aj}
theorem aq{a:α}{k:α->aj->cX β}:(cX.ok a st).fR k=k a st:=rfl
theorem Ge{c:Str}{k:α->aj->cX β}:(cX.err c st:cX α).fR k=.err c st:=rfl
theorem aB{a:α}{k:α->aj->cg}:(cX.ok a st).xa μ k=k a st:=rfl
theorem Gf{c:Str}{k:α->aj->cg}:(cX.err c st:cX α).xa μ k=.er c μ st:=rfl
theorem az{k:MB}:(cg.nx μ st).cf k=k μ st:=rfl
theorem fk{v:av}{k:MB}:(cg.rt v st).cf k=.rt v st:=rfl
theorem pj{c:Str}{k:MB}:(cg.er c μ st).cf k=.er c μ st:=rfl
theorem Kq:(cg.nx μ st).fin=.ok .fc st:=rfl
theorem bA{v:av}:(cg.rt v st).fin=.ok v st:=rfl
theorem pk{c:Str}:(cg.er c μ st).fin=.err c st:=rfl
theorem jb{r:cX α}{k:α->aj->cX β}:r.bind k=r.fR k:=by cases r<;>rfl
variable{a b c:ME}{f g:F2}{t u:MT}{s1 s2:MB}{ms:MA}{i:Nat}{v:av}
theorem cj{r:cX α}{k k':α->aj->cX β}(h:∀a st,k a st=k' a st):r.bind k=r.fR k':=by cases r<;>first|exact h _ _|rfl
theorem iE{r:cX α}{k k':α->aj->cg}(h:∀a st,k a st=k' a st):r.sb μ k=r.xa μ k':=by cases r<;>first|exact h _ _|rfl
def u5(f:F2)(x:av):av->aj->cX av:=fun y st=>f x y st
def NA(f:F2)(b:ME)(μ:Env):av->aj->cX av:=fun x st=>(b μ st).fR (u5 f x)
theorem aS:ah f a b μ st=(a μ st).fR (NA f b μ):=cj fun _ _=>cj fun _ _=>rfl
theorem bw{x:av}:NA f b μ x st=(b μ st).fR (u5 f x):=rfl
theorem aP{x y:av}:u5 f x y st=f x y st:=rfl
theorem cF:mC v μ st=.ok v st:=rfl
def SE:av->aj->cX Bool
 |.bl b,st=>.ok b st
 |_,_=>.bad
theorem ba{b:Bool}:SE (.bl b) st=.ok b st:=rfl
theorem a8:a! a μ st=(a μ st).fR SE:=cj fun x _=>by cases x<;>rfl
def Kr(b:ME)(μ:Env):av->aj->cX av
 |.bl true,st=>b μ st
 |.bl false,st=>.ok (.bl false) st
 |_,_=>.bad
theorem jc:kN a b μ st=(a μ st).fR (Kr b μ):=cj fun x _=>by
 cases x<;>try rfl
 rename_i k;cases k<;>rfl
theorem iF:Kr b μ (.bl true) st=b μ st:=rfl
theorem Gg:Kr b μ (.bl false) st=.ok (.bl false) st:=rfl
def QR(b:ME)(μ:Env):av->aj->cX av
 |.bl true,st=>.ok (.bl true) st
 |.bl false,st=>b μ st
 |_,_=>.bad
theorem HU:OS a b μ st=(a μ st).fR (QR b μ):=cj fun x _=>by
 cases x<;>try rfl
 rename_i k;cases k<;>rfl
theorem Ks:QR b μ (.bl true) st=.ok (.bl true) st:=rfl
theorem Kt:QR b μ (.bl false) st=b μ st:=rfl
def CT(u:MT)(μ:Env):Bool->aj->cX Bool
 |true,st=>u μ st
 |false,st=>.ok false st
theorem sP:jQ t u μ st=(t μ st).fR (CT u μ):=cj fun x _=>by cases x<;>rfl
theorem u6:CT u μ true st=u μ st:=rfl
theorem u7:CT u μ false st=.ok false st:=rfl
def Ku(u:MT)(μ:Env):Bool->aj->cX Bool
 |true,st=>.ok true st
 |false,st=>u μ st
theorem eG:eh t u μ st=(t μ st).fR (Ku u μ):=cj fun x _=>by cases x<;>rfl
theorem kU:Ku u μ true st=.ok true st:=rfl
theorem eQ:Ku u μ false st=u μ st:=rfl
def HV:Bool->aj->cX Bool:=fun k st=>.ok (!k) st
theorem gG:cm t μ st=(t μ st).fR HV:=cj fun _ _=>rfl
theorem sQ{k:Bool}:HV k st=.ok (!k) st:=rfl
def Kv(a b:ME)(μ:Env):Bool->aj->cX av
 |true,st=>a μ st
 |false,st=>b μ st
theorem gH:uQ t a b μ st=(t μ st).fR (Kv a b μ):=cj fun x _=>by cases x<;>rfl
theorem iG:Kv a b μ true st=a μ st:=rfl
theorem iH:Kv a b μ false st=b μ st:=rfl
def Gh(g:F2)(c:ME)(μ:Env)(y:av):av->aj->cX av
 |.bl true,st=>(c μ st).fR (u5 g y)
 |.bl false,st=>.ok (.bl false) st
 |_,_=>.bad
def Kw(f g:F2)(c:ME)(μ:Env)(x:av):av->aj->cX av:=fun y st=>(f x y st).fR (Gh g c μ y)
def SF(f g:F2)(b c:ME)(μ:Env):av->aj->cX av:=fun x st=>(b μ st).fR (Kw f g c μ x)
theorem u9:sE f g a b c μ st=(a μ st).fR (SF f g b c μ):=cj fun _ _=>cj fun _ _=>cj fun z _=>by
 cases z<;>try rfl
 rename_i k;cases k
 .rfl
 .exact cj fun _ _=>rfl
theorem NB{x:av}:SF f g b c μ x st=(b μ st).fR (Kw f g c μ x):=rfl
theorem HW{x y:av}:Kw f g c μ x y st=(f x y st).fR (Gh g c μ y):=rfl
theorem Gi{y:av}:Gh g c μ y (.bl true) st=(c μ st).fR (u5 g y):=rfl
theorem Gj{y:av}:Gh g c μ y (.bl false) st=.ok (.bl false) st:=rfl
theorem bB:ao μ st=.ok [] st:=rfl
def xb(x:av):List av->aj->cX (List av):=fun xs st=>.ok (x::xs) st
def HX(ms:MA)(μ:Env):av->aj->cX (List av):=fun x st=>(ms μ st).fR (xb x)
theorem aN:ae a ms μ st=(a μ st).fR (HX ms μ):=cj fun _ _=>cj fun _ _=>rfl
theorem bh{x:av}:HX ms μ x st=(ms μ st).fR (xb x):=rfl
theorem aO{x:av}{xs:List av}:xb x xs st=.ok (x::xs) st:=rfl
def NC:List av->aj->cX av:=fun xs st=>if xs.length<=sizeLine then .ok (.tup xs) st else .bad
theorem sR:fT ms μ st=(ms μ st).fR NC:=cj fun _ _=>rfl
theorem yE{xs:List av}:NC xs st=if xs.length<=sizeLine then .ok (.tup xs) st else .bad:=rfl
def ND:List av->aj->cX av:=fun xs st=>if xs.length<=sizeLine then .ok (.loc st.length) (st++[.lst xs])else .bad
theorem l?:bK ms μ st=(ms μ st).fR ND:=cj fun _ _=>rfl
theorem q9{xs:List av}:ND xs st=if xs.length<=sizeLine then .ok (.loc st.length) (st++[.lst xs])else .bad:=rfl
theorem bF{h:FN}:ak h ms μ st=(ms μ st).fR h:=cj fun _ _=>rfl
def NF:av->aj->cX av
 |.int i,st=>.ok (.int (-i)) st
 |_,_=>.bad
theorem CU{i:Int}:NF (.int i) st=.ok (.int (-i)) st:=rfl
theorem Kx:Cr a μ st=(a μ st).fR NF:=cj fun x _=>by cases x<;>rfl
def Ky(T:String)(v:av)(st:aj):cX av:=match Nn T st v with
 |some b=>.ok (.bl b) st
 |none=>.bad
theorem yF{T:String}:m9 T a μ st=(a μ st).fR (Ky T):=cj fun _ _=>rfl
theorem aw:aA s1 s2 μ st=(s1 μ st).cf s2:=by unfold aA;cases s1 μ st<;>rfl
theorem cR:aK μ st=.nx μ st:=rfl
def HY(μ:Env):av->aj->cg:=fun _ st=>.nx μ st
theorem fI:cD a μ st=(a μ st).xa μ (HY μ):=iE fun _ _=>rfl
theorem xf:HY μ v st=.nx μ st:=rfl
def NG:av->aj->cg:=fun v st=>.rt v st
theorem aQ:a7 a μ st=(a μ st).xa μ NG:=iE fun _ _=>rfl
theorem b?:NG v st=.rt v st:=rfl
def QS(s1 s2:MB)(μ:Env):Bool->aj->cg
 |true,st=>s1 μ st
 |false,st=>s2 μ st
theorem bx:dq t s1 s2 μ st=(t μ st).xa μ (QS s1 s2 μ):=iE fun x _=>by cases x<;>rfl
theorem c!:QS s1 s2 μ true st=s1 μ st:=rfl
theorem cS:QS s1 s2 μ false st=s2 μ st:=rfl
def NH(i:Nat)(μ:Env):av->aj->cg:=fun v st=>.nx (μ.set i (some v)) st
theorem da:aE i a μ st=(a μ st).xa μ (NH i μ):=iE fun _ _=>rfl
theorem f_:NH i μ v st=.nx (μ.set i (some v)) st:=rfl
def CV(x:Str)(μ:Env):List av->aj->cg:=fun vs st=>if vs.length<=sizeLine then .er x μ st else .bad
theorem kW{x:Str}:eB x ms μ st=(ms μ st).xa μ (CV x μ):=iE fun _ _=>rfl
theorem oy{x:Str}{vs:List av}:CV x μ vs st=if vs.length<=sizeLine then .er x μ st else .bad:=rfl
def kFor(as:AS)(s1:MB)(μ:Env):Itm->aj->cg:=fun p st=>forL p.2 as s1 p.1 μ st
theorem eT{it:MI}{as:AS}:dO it as s1 μ st=(it μ st).xa μ (kFor as s1 μ):=iE fun _ _=>rfl
theorem gx{as:AS}{us:List av}{q:aj->Prop}:kFor as s1 μ (us,q) st=forL q as s1 us μ st:=rfl
def u_:List av->aj->cX av:=fun ys st=>.ok (.loc st.length) (st++[.lst ys])
theorem g?{ys:List av}:u_ ys st=.ok (.loc st.length) (st++[.lst ys]):=rfl
def CW(k:Nat)(caps:List Nat)(as:AS)(t:MT)(a:ME)(μ:Env):Itm->aj->cX av:=fun p st=>if p.1.length<=sizeLine then(bQ p.2 as t a p.1 (iB k caps μ) st []).fR u_ else .bad
theorem d6{k:Nat}{caps:List Nat}{it:MI}{as:AS}:bV k caps it as t a μ st=(it μ st).fR (CW k caps as t a μ):=cj fun p st1=>by
 unfold CW;split
 .exact cj fun _ _=>rfl
 .rfl
theorem fE{k:Nat}{caps:List Nat}{as:AS}{us:List av}{q:aj->Prop}:CW k caps as t a μ (us,q) st=if us.length<=sizeLine then(bQ q as t a us (iB k caps μ) st []).fR u_ else .bad:=rfl
theorem bb{np n:Nat}{us:List av}(h:us.length=np):fQ np n s1 us st=(s1 (us.map some++List.replicate (n-np) none) st).fin:=by unfold fQ;rw[Vo h];cases s1 (us.map some++List.replicate (n-np) none) st<;>rfl
theorem cq{x:Option av}{μ:Env}:aa (i+1) (x::μ) st=aa i μ st:=rfl
theorem bR{μ:Env}{j:Int}:aa 0 (some (.int j)::μ) st=.ok (.int j) st:=rfl
theorem yG{μ:Env}{j:Bool}:aa 0 (some (.bl j)::μ) st=.ok (.bl j) st:=rfl
theorem eU{μ:Env}{j:Str}:aa 0 (some (.str j)::μ) st=.ok (.str j) st:=rfl
theorem jR{μ:Env}{j:Nat}:aa 0 (some (.loc j)::μ) st=.ok (.loc j) st:=rfl
def m?(v:av)(st:aj):cX Itm:=match o_ st v with
 |some p=>.ok p st
 |none=>.bad
theorem dj:cQ a μ st=(a μ st).fR m?:=by unfold cQ;rw[jb];rfl
theorem mf{us:List av}:m? (.tup us) st=.ok (us,fun _=>True) st:=rfl
theorem c5{n:Nat}{us:List av}(h:au st n=some us):m? (.loc n) st=.ok (us,fun ax=>au ax n=some us) st:=by simp only[m?,o_,h];rfl
def Gk(vs:List av)(ax:aj):cX Itm:=match vs with
 |[.int j]=>if -(2 ^ 62)<=j/\j<2 ^ 62 then .ok (aW 0 j.toNat,fun _=>True) ax else .bad
 |_=>.bad
def NI(vs:List av)(ax:aj):cX Itm:=match vs with
 |[.int i,.int j]=>if -(2 ^ 62)<=i/\i<2 ^ 62/\-(2 ^ 62)<=j/\j<2 ^ 62 then .ok (aW i (j-i).toNat,fun _=>True) ax else .bad
 |_=>.bad
theorem oz:bE ms μ st=(ms μ st).fR Gk:=by unfold bE;rw[jb];rfl
theorem Gm:jD ms μ st=(ms μ st).fR NI:=by unfold jD;rw[jb];rfl
theorem yH{j:Int}(h1:-(2 ^ 62)<=j)(h2:j<2 ^ 62):Gk [.int j] st=.ok (aW 0 j.toNat,fun _=>True) st:=by unfold Gk;dsimp only;rw[Vo ⟨h1,h2⟩]
def Kz(b1 b2:Bool)(vs:List av)(ax:aj):cX Itm:=match vs with
 |[u,w]=>match gv ax u,gv ax w with
  |some (c1,us,g1),some (c2,ws,g2)=>if c1=b1/\c2=b2 then .ok (o! us ws,fun st2=>g1 st2/\g2 st2) ax else .bad
  |_,_=>.bad
 |_=>.bad
theorem KA{b1 b2:Bool}:o? b1 b2 ms μ st=(ms μ st).fR (Kz b1 b2):=by unfold o?;rw[jb];rfl
theorem sS{n:Nat}{us:List av}(h1:au st n=some us):kR [.loc n] st=.ok (.tup us) st:=by unfold kR;dsimp only;rw[h1]
theorem pq{i j:Int}:bo (.int i) (.int j) st=.ok (.int (i+j)) st:=rfl
theorem xg{i j:Int}:Ae (.int i) (.int j) st=.ok (.int (i-j)) st:=rfl
theorem sT{i j:Int}(h:MulOk i j):cN (.int i) (.int j) st=.ok (.int (i*j)) st:=by unfold cN;dsimp only;rw[Vo h]
theorem px{i j:Int}(h1:-(2 ^ 64)<i)(h2:i<2 ^ 64):cN (.int i) (.int j) st=.ok (.int (i*j)) st:=sT (.inr (.inl ⟨h1,h2⟩))
theorem mul_r{i j:Int}(h1:-(2 ^ 64)<j)(h2:j<2 ^ 64):cN (.int i) (.int j) st=.ok (.int (i*j)) st:=sT (.inr (.inr ⟨h1,h2⟩))
theorem div_ii{i j:Int}(h:Dz j):bX (.int i) (.int j) st=.ok (.int (i.fdiv j)) st:=Vo h
theorem cG{i j:Int}(h:¬ j=0):bN (.int i) (.int j) st=.ok (.int (i.fmod j)) st:=Vu h
theorem CY{i j:Int}(h:zO i j):uT (.int i) (.int j) st=.ok (.int (i ^ j.toNat)) st:=Vo h
theorem hG{i j:Int}:ltV (.int i) (.int j) st=.ok (.bl (decide (i<j))) st:=rfl
theorem HZ{i j:Int}:Nk (.int i) (.int j) st=.ok (.bl (decide (i<=j))) st:=rfl
theorem q_{i j:Int}:Af (.int i) (.int j) st=.ok (.bl (decide (j<i))) st:=rfl
theorem d_{i j:Int}:dr (.int i) (.int j) st=.ok (.bl (i==j)) st:=rfl
theorem jS{i j:Int}:fA (.int i) (.int j) st=.ok (.bl (!(i==j))) st:=rfl
theorem jT{i j:Str}:dr (.str i) (.str j) st=.ok (.bl (i==j)) st:=rfl
theorem ng{i j:Str}:fA (.str i) (.str j) st=.ok (.bl (!(i==j))) st:=rfl
theorem rY{us:List av}{i:Int}{v:av}(h:L2.m5 us i=some v):b5 (.tup us) (.int i) st=.ok v st:=by unfold b5;dsimp only;rw[h]
theorem pz{n:Nat}{us:List av}{i:Int}{v:av}(h1:au st n=some us)(h:L2.m5 us i=some v):b5 (.loc n) (.int i) st=.ok v st:=by unfold b5;dsimp only;rw[h1];dsimp only;rw[h]
theorem gI{n:Nat}{us:List av}(h1:au st n=some us):b9 [.loc n] st=.ok (.int us.length) st:=by unfold b9;dsimp only;rw[h1]
theorem Gn{us:List av}:b9 [.tup us] st=.ok (.int us.length) st:=rfl
theorem yI{n m:Nat}{us:List av}(h1:au st n=some us)(h2:au st m=some []):ow 16 st (.loc n) (.loc m)=some us.isEmpty:=by unfold ow;simp only[vw,h1,h2];show jL _ us []=_;cases us<;>rfl
theorem eq_nil{n m:Nat}{us:List av}(h1:au st n=some us)(h2:au st m=some []):dr (.loc n) (.loc m) st=.ok (.bl us.isEmpty) st:=by unfold dr;rw[yI h1 h2]
theorem ne_nil{n m:Nat}{us:List av}(h1:au st n=some us)(h2:au st m=some []):fA (.loc n) (.loc m) st=.ok (.bl (!us.isEmpty)) st:=by unfold fA;rw[yI h1 h2]
def cg.NJ(r:cg):cg:=match r with
 |.er _ _ _=>.bad
 |.nx μ' ax=>.nx μ' ax
 |.rt v ax=>.rt v ax
 |.bk μ' ax=>.bk μ' ax
 |.ct μ' ax=>.ct μ' ax
 |.bad=>.bad
theorem u!:pf s1 μ st=(s1 μ st).NJ:=by unfold pf cg.NJ;cases s1 μ st<;>rfl
def cg.Gp(r:cg)(kn:Str->Bool)(h:MH):cg:=match r with
 |.er c μ' ax=>if kn c=true then h c μ' ax else .bad
 |.nx μ' ax=>.nx μ' ax
 |.rt v ax=>.rt v ax
 |.bk μ' ax=>.bk μ' ax
 |.ct μ' ax=>.ct μ' ax
 |.bad=>.bad
theorem CZ{kn:Str->Bool}{h:MH}:sG kn s1 h μ st=(s1 μ st).Gp kn h:=by unfold sG cg.Gp;cases s1 μ st<;>rfl
theorem Gq{kn:Str->Bool}{h:MH}:(cg.nx μ st).Gp kn h=.nx μ st:=rfl
theorem Gr{kn:Str->Bool}{h:MH}{c:Str}(hk:kn c=true):(cg.er c μ st).Gp kn h=h c μ st:=by show(if kn c=true then h c μ st else .bad)=_;rw[Vo hk]
theorem Gu{sub:Str->Str->Option Bool}{x c:Str}{r:MH}(h:sub c x=some true):m_ sub x s1 r c μ st=CK (s1 μ st):=by unfold m_;rw[h]
end
end MN
namespace MN
open PySem.Spec L2
open PyProof.Rows hiding St kindOf
section
variable{μ:Env}{st:aj}{a b c o:ME}{ms:MA}{f:F2}{g:FM}{v w:av}{i n m:Nat}{us ws:List av}
def KC(x:av)(l:Option Int):Option Int->aj->cX av:=fun h st=>HS l h x st
def KD(hi:MO)(μ:Env)(x:av):Option Int->aj->cX av:=fun l st=>(hi μ st).fR (KC x l)
def SG(lo hi:MO)(μ:Env):av->aj->cX av:=fun x st=>(lo μ st).fR (KD hi μ x)
theorem NK{lo hi:MO}:Kp a lo hi μ st=(a μ st).fR (SG lo hi μ):=cj fun x st1=>cj fun l st2=>cj fun h fP=>rfl
theorem QT{lo hi:MO}:SG lo hi μ v st=(lo μ st).fR (KD hi μ v):=rfl
theorem NL{hi:MO}{l:Option Int}:KD hi μ v l st=(hi μ st).fR (KC v l):=rfl
theorem NM{l h:Option Int}:KC v l h st=HS l h v st:=rfl
theorem C0:du μ st=.ok none st:=rfl
theorem KG{l h:Option Int}(e:au st n=some us):HS l h (.loc n) st=.ok (.loc st.length) (st++[.lst (w! us l h)]):=by simp only[HS,e]
def KH(g:FM)(x:av):List av->aj->cX av:=fun xs st=>g x xs st
def Gv(g:FM)(ms:MA)(μ:Env):av->aj->cX av:=fun x st=>if uV st x=true then(ms μ st).fR (KH g x)else .bad
theorem xh:gR g o ms μ st=(o μ st).fR (Gv g ms μ):=cj fun x st1=>by
 unfold Gv;split
 .exact cj fun _ _=>rfl
 .rfl
theorem C1(h:st[n]?=some (.lst us)):Gv g ms μ (.loc n) st=(ms μ st).fR (KH g (.loc n)):=by unfold Gv;rw[Vo (by unfold uV;dsimp only;rw[h])]
theorem C2{xs:List av}:KH g v xs st=g v xs st:=rfl
theorem mm(h:st[n]?=some (.lst us))(hl:us.length<sizeLine):bZ (.loc n) [v] st=.ok .fc (st.set n (.lst (us++[v]))):=by simp only[bZ,h];rw[Vo hl]
def KI(μ:Env)(x y:av):av->aj->cg:=fun z st=>OZ μ (u3 y z x st)
def KJ(b:ME)(μ:Env)(x:av):av->aj->cg:=fun y st=>(b μ st).xa μ (KI μ x y)
def SH(a b:ME)(μ:Env):av->aj->cg:=fun x st=>(a μ st).xa μ (KJ b μ x)
theorem sU:yD a b c μ st=(c μ st).xa μ (SH a b μ):=iE fun _ _=>iE fun _ _=>iE fun _ _=>rfl
theorem NN:SH a b μ v st=(a μ st).xa μ (KJ b μ v):=rfl
theorem H9:KJ b μ v w st=(b μ st).xa μ (KI μ v w):=rfl
theorem NO{x:av}:KI μ v w x st=OZ μ (u3 w x v st):=rfl
theorem Gw{k:Int}{j:Nat}(h:st[n]?=some (.lst us))(hj:L2.zT us.length k=some j):u3 (.loc n) (.int k) v st=some (st.set n (.lst (us.set j v))):=by simp only[u3,h,hj];rfl
theorem C3:OZ μ (some st)=.nx μ st:=rfl
theorem KL(e1:au st n=some us)(e2:au st m=some ws):Kz true true [.loc n,.loc m] st=.ok (o! us ws,fun st2=>au st2 n=some us/\au st2 m=some ws) st:=by unfold Kz;dsimp only;unfold gv;dsimp only;rw[e1,e2];rfl
theorem Gx(e:au st n=some us):uU [.loc n] st=.ok (.loc st.length) (st++[.lst us]):=by simp only[uU,e]
theorem xi(h1:st[n]?=some (.lst us))(h2:st[m]?=some (.lst ws))(hl:us.length+ws.length<=sizeLine):bo (.loc n) (.loc m) st=.ok (.loc st.length) (st++[.lst (us++ws)]):=by simp only[bo,h1,h2];rw[Vo hl]
theorem KN{k:Int}(h1:st[n]?=some (.lst us))(h2:-(2 ^ 63)<=k)(h3:k<2 ^ 63)(h4:us.length*k.toNat<=sizeLine):cN (.loc n) (.int k) st=.ok (.loc st.length) (st++[.lst (uS k.toNat us)]):=by simp only[cN,h1];rw[Vo ⟨h2,h3,h4⟩]
theorem df(h:st[n]?=some (.lst us)):au st n=some us:=by unfold au;rw[h]
theorem fm(st:aj)(us:List av):(st++[aG.lst us])[st.length]?=some (.lst us):=by rw[VJ (Vq _),Ws];rfl
theorem pA{k:aG}(h:st[n]?=some k)(g:aj):(st++g)[n]?=some k:=by rw[V3 (fh h)];exact h
theorem is_list(h:st[n]?=some (.lst us)):Ky "list" (.loc n) st=.ok (.bl true) st:=by unfold Ky Nn kindOf;dsimp only;rw[h];rfl
theorem u?(st:aj)(k k':aG):(st++[k]).set st.length k'=st++[k']:=by rw[WJ _ _ (Vq _),Ws];rfl
theorem sV(st:aj)(k k':aG)(g:aj):(st++k::g).set st.length k'=st++k'::g:=by rw[WJ _ _ (Vq _),Ws];rfl
theorem sW(st:aj)(k:aG)(g:aj):(st++k::g)[st.length]?=some k:=by rw[VJ (Vq _),Ws];rfl
end
mutual
def vc:Nat->av->Bool
 |_,.fc=>true
 |_,.bl _=>true
 |_,.int _=>true
 |_,.str _=>true
 |0,.tup _=>false
 |n+1,.tup us=>fV n us
 |_,_=>false
def fV:Nat->List av->Bool
 |_,[]=>true
 |n,u::us=>vc n u&&fV n us
end
mutual
theorem C4(st:aj):∀(n:Nat)(v:av),vc n v=true->ow (n+1) st v v=some true
 |_,.fc,_=>rfl
 |_,.bl b,_=>by show some (b==b)=_;rw[Wu]
 |_,.int i,_=>by show some (i==i)=_;rw[Wu]
 |_,.str x,_=>by show some (x==x)=_;rw[Wu]
 |0,.tup _,h=>by cases h
 |n+1,.tup us,h=>by show jL (ow (n+1) st) us us=some true;exact mn st n us h
 |n,.loc _,h=>by cases n<;>cases h
 |n,.exc _,h=>by cases n<;>cases h
 |n,.fn _ _,h=>by cases n<;>cases h
 |n,.mt _,h=>by cases n<;>cases h
theorem mn(st:aj):∀(n:Nat)(us:List av),fV n us=true->jL (ow (n+1) st) us us=some true
 |_,[],_=>rfl
 |n,u::us,h=>by
  have h':vc n u=true/\fV n us=true:=by simpa[fV]using h
  show(match ow (n+1) st u u,jL (ow (n+1) st) us us with|some a,some b=>some (a&&b)|_,_=>none)=_;rw[C4 st n u h'.1,mn st n us h'.2];rfl
end
theorem mq{n:Nat}:∀{us:List av},(∀u∈us,vc n u=true)->fV n us=true
 |[],_=>rfl
 |u::us,h=>by unfold fV;rw[h u Vt,mq fun w hw=>h w (Vr u hw)];rfl
theorem vd(n:Nat)(ns:_v):fV n (ns.map av.int)=true:=mq fun u hu=>by obtain⟨i,_,rfl⟩:=VY.mp hu;cases n<;>rfl
section
variable{st:aj}{n m:Nat}{us:List av}
theorem Az(h1:au st n=some us)(h2:au st m=some us)(hp:fV 14 us=true):ow 16 st (.loc n) (.loc m)=some true:=by unfold ow;simp only[vw,h1,h2];exact mn st 14 us hp
theorem C5(h1:au st n=some us)(h2:au st m=some us)(hp:fV 14 us=true):dr (.loc n) (.loc m) st=.ok (.bl true) st:=by unfold dr;rw[Az h1 h2 hp]
end
end MN
namespace SO
open PySem.W PyProof.Rows
abbrev g(p:Array Nat)(i:Nat):Nat:=p.getD i 0
theorem KO(p:Array Nat)(i:Nat):g p i=(p[i]?).getD 0:=Array.getD_eq_getD_getElem?
def Ok(L:Nat->Nat->Bool)(n:Nat){α:Type}(P:α->Prop):KasT α->Prop
 |.ret a=>P a
 |.ask i j k=>i<n/\j<n/\Ok L n P (k (L i j))
theorem Ok.bind{L:Nat->Nat->Bool}{n:Nat}{α β:Type}{P:α->Prop}{Q:β->Prop}{f:α->KasT β}(hf:∀a,P a->Ok L n Q (f a)):∀{t:KasT α},Ok L n P t->Ok L n Q (t.bind f)
 |.ret a,h=>hf a h
 |.ask _ _ _,h=>⟨h.1,h.2.1,Ok.bind hf h.2.2⟩
theorem Ok.imp{L:Nat->Nat->Bool}{n:Nat}{α:Type}{P Q:α->Prop}(hf:∀a,P a->Q a):∀{t:KasT α},Ok L n P t->Ok L n Q t
 |.ret a,h=>hf a h
 |.ask _ _ _,h=>⟨h.1,h.2.1,Ok.imp hf h.2.2⟩
structure Ord(L:Nat->Nat->Bool)(n:Nat):Prop where
 tr:∀i j k,i<n->j<n->k<n->L i j=true->L j k=true->L i k=true
 wt:∀i j,i<n->j<n->i≠j->L i j=false->L j i=true
 Uc:∀i j,i<n->j<n->L i j=true->L j i=false
def Pm(n:Nat)(p:Array Nat):Prop:=p.Perm (List.toArray (List.range n))
section
variable{n:Nat}{p:Array Nat}
theorem Pm.list(h:Pm n p):p.toList.Perm (List.range n):=Yg.mp h
theorem Pm.size(h:Pm n p):p.size=n:=by have:=h.list.length_eq;rw[Wa]at this;exact this
theorem Pm.lt(h:Pm n p){i:Nat}(hi:i<n):g p i<n:=by
 have hz:i<p.size:=by rw[h.size];exact hi
 have e:g p i=p.toList[i]'hz:=by rw[KO,Xj p i hz];rfl
 have m:g p i∈p.toList:=by rw[e];exact XC _
 exact X6.mp (h.list.mem_iff.mp m)
theorem Pm.inj(h:Pm n p){i j:Nat}(hi:i<n)(hj:j<n)(e:g p i=g p j):i=j:=by
 have hz:i<p.size:=by rw[h.size];exact hi
 have SI:j<p.size:=by rw[h.size];exact hj
 have nd:p.toList.Nodup:=h.list.nodup_iff.mpr List.nodup_range;have e1:g p i=p.toList[i]'hz:=by rw[KO,Xj p i hz];rfl
 have e2:g p j=p.toList[j]'SI:=by rw[KO,Xj p j SI];rfl
 rw[e1,e2]at e;exact(ZH nd).mp e
end
section
variable{L:Nat->Nat->Bool}{n:Nat}(O:Ord L n)
include O
def Gy(L:Nat->Nat->Bool)(p:Array Nat)(m:Nat):Prop:=∀i,i+1<m->L (g p i) (g p (i+1))=true
theorem other{p:Array Nat}(h:Pm n p){i j:Nat}(hi:i<n)(hj:j<n)(hn:i≠j)(e:L (g p i) (g p j)=false):L (g p j) (g p i)=true:=
 O.wt _ _ (h.lt hi) (h.lt hj) (fun z=>hn (h.inj hi hj z)) e
theorem Gy.QU{p:Array Nat}(h:Pm n p){m:Nat}(hm:m<=n)(a:Gy L p m){i:Nat}:∀d:Nat,i+d+1<m->L (g p i) (g p (i+d+1))=true
 |0,hd=>a i hd
 |d+1,hd=>O.tr _ _ _ (h.lt (by lia)) (h.lt (by lia)) (h.lt (by lia)) (Gy.QU h hm a d (by lia)) (a (i+d+1) hd)
theorem Gy.lt{p:Array Nat}(h:Pm n p){m:Nat}(hm:m<=n)(a:Gy L p m){i j:Nat}(Ud:i<j)(hj:j<m):L (g p i) (g p j)=true:=by have:=Gy.QU O h hm a (i:=i) (j-i-1) (by lia);rwa [show i+(j-i-1)+1=j by lia]at this
theorem kX{p:Array Nat}(h:Pm n p){k:Nat}(hk:k<n)(a:Gy L p k):∀(f l r:Nat),l<=r->r<=k->r-l<=f->(∀i,i<l->L (g p i) (g p k)=true)->(∀i,r<=i->i<k->L (g p k) (g p i)=true) ->
  Ok L n (fun m=>m<=k/\(∀i,i<m->L (g p i) (g p k)=true)/\∀i,m<=i->i<k->L (g p k) (g p i)=true) (kas_place p k f l r)
 |0,l,r,h1,h2,h3,lo,hi=>⟨by lia,lo,fun i q=>hi i (by lia)⟩
 |f+1,l,r,h1,h2,h3,lo,hi=>by
  show Ok L n _ (if l ≥ r then .ret l else .ask (g p k) (g p ((l+r) / 2)) fun c=>if c=true then kas_place p k f l ((l+r) / 2)else kas_place p k f ((l+r) / 2+1) r);by_cases e:l ≥ r
  .rw[Vo e];exact⟨by lia,lo,fun i q=>hi i (by lia)⟩
  .rw[Vu e];obtain⟨m,hm⟩:∃m,m=(l+r) / 2:=⟨_,rfl⟩
   rw[<-hm];have m1:l<=m:=by lia
   have m2:m<r:=by lia
   refine⟨h.lt hk,h.lt (by lia),?_⟩;show Ok L n _ (if L (g p k) (g p m)=true then kas_place p k f l m else kas_place p k f (m+1) r);by_cases c:L (g p k) (g p m)=true
   .rw[Vo c];refine kX h hk a f l m m1 (by lia) (by lia) lo fun i q1 q2=>?_;by_cases q:i=m
    .rw[q];exact c
    .exact O.tr _ _ _ (h.lt hk) (h.lt (by lia)) (h.lt (by lia)) c (Gy.lt O h (by lia) a (by lia) q2)
   .rw[Vu c];have c':L (g p k) (g p m)=false:=by simpa using c
    have z:=other O h hk (by lia) (by lia) c';refine kX h hk a f (m+1) r (by lia) h2 (by lia) (fun i q=>?_) hi;by_cases q1:i=m
    .rw[q1];exact z
    .exact O.tr _ _ _ (h.lt (by lia)) (h.lt (by lia)) (h.lt hk) (Gy.lt O h (by lia) a (show i<m by lia) (by lia)) z
end
def ke(h:Heap)(d:_C)(es:Array DictEntry)(ep:Nat):Prop:=∃o,h.get? d=some o/\o.cls=.type "dict" /\ o.data=.dict es ep
section
variable{prog:_E}{w:World}{A:_D}{E:_r}{s:_B}{d it:_C}{es:Array DictEntry}{ep i:Nat}
theorem ke.ty(x:ke s.heap d es ep):s.TypeIs (.ref d) "dict":=by obtain⟨o,ho,hc,_⟩:=x;exact⟨o,ho,hc⟩
theorem ke.lt{h:Heap}(x:ke h d es ep):d<h.objs.size:=by obtain⟨o,ho,_⟩:=x;exact Vy ho
theorem ke.to{h h':Heap}(x:ke h d es ep)(hk:∀o,h.get? d=some o->h'.get? d=some o):ke h' d es ep:=by obtain⟨o,ho,r⟩:=x;exact⟨o,hk o ho,r⟩
theorem C6{Q:_r}(hd:(d==sysModules)=false)(x:ke s.heap d es ep)(hQ:Q (.ref s.heap.objs.size) {s with heap:=s.heap.push {cls:=.type "dict_keyiterator",data:=.fields #[.ref d,.int 0 0,.int es.size 0,.int ep 0]} }):wpAny (model prog w) A (pyIter (.ref d)) Q E s:=by obtain⟨o,go,gc,gd⟩:=id x;have T:=x.ty;refine wpAny_pyIter_slot T Zy (WG Zy T PySem.F.entry_dict_iter ?_ (PySem.F.args_dict_iter_1 _));unfold Builtin.«dict.__iter__»;refine Vk ?_;unfold Builtin.Dict.dictSlotNone;refine Vk (wpAny_notOrdered_dict T ?_);show wpAny _ _ (pure (Value.ref d)) _ _ s;refine Vv ?_;show wpAny _ _ (Builtin.Dict.showsAll d >>= _) _ _ s;unfold Builtin.Dict.showsAll;rw[Vu (by rw[hd];exact VC)];refine Vk (Vv ?_);refine Vk (Zg go gd ?_);refine Vk (Zv go gd ?_);refine Vk (Wf (Vv ⟨_,rfl,"dict_keyiterator",_,⟨_,VN _ rfl,rfl⟩,WB.lookup,?_⟩));simpa[rawInt]using hQ
theorem C7{Q:_x->_B->Prop}(hit:s.heap.IsKeyIter it d i es.size ep)(x:ke s.heap d es ep)(hi:i<es.size)(hQ:∀h',h'.IsKeyIter it d (i+1) es.size ep->Heap.SameBut it s.heap h'->Q (some es[i].key) {s with heap:=h'}):wpAny (model prog w) A (pyNext (.ref it)) Q E s:=by
 obtain⟨o,ho,hc,hf⟩:=id hit;obtain⟨od,go,gc,gd⟩:=id x;have T:=hit.typeIs;unfold pyNext;refine Vk (X3 (Wk (name:=Str.ofString "__next__") T WB (WG WB T YF ?_ (Yv _))));refine Vk (Vv ?_);refine Vk ?_;refine Vk ?_
 first|refine Vk (Xe T (Vv ?_))|refine Vk (XE T (Vv ?_))
 refine Vk (wpAny_fieldsOf ho hf ?_);have no:Builtin.Dict_items.ownsTuple "dict_keyiterator" = false:=by decide
 simp only[no,Wc,WO];show wpAny _ _ (if(Value.ref d==Value.none)=true then _ else _) _ _ s;rw[Vu (show ¬ ((Value.ref d==Value.none)=true)from VC)];refine Vk (Vv ?_);refine Vk (Zg go gd ?_);rw[Vu (by simp)];refine Vk (Vv ?_);refine Vk (Zv go gd ?_);rw[Vu (by simp)];refine Vv ?_;simp only[show ¬ ((i:Int)<0)from by lia,WO,WY,Z' hi];refine Vk ?_
 first|refine Vk (Xe T (Vv ?_))|refine Vk (XE T (Vv ?_))
 refine Vk (_n T ?_);show wpAny _ _ (setField (.ref it) 1 (rawInt ((i:Int)+1)) >>= _) _ _ s;refine Vk (Xv ho hf (by simp) ?_);have go2:(s.heap.update it (Obj.mapFields (·.setIfInBounds 1 (rawInt ((i:Int)+1))))).IsKeyIter it d (i+1) es.size ep:=
  ⟨_,Xr _ ho (X0 (WW hf _)),(Zh ..).trans hc,by rw[WW hf];simp[rawInt]⟩
 refine Vk (WH ?_);refine Vk (_n (s:={s with heap:=s.heap.update it (Obj.mapFields (·.setIfInBounds 1 (rawInt ((i:Int)+1))))}) go2.typeIs ?_);show wpAny _ _ (pure es[i].key) _ _ _;exact Vv (Vv ⟨_,rfl,Vv (hQ _ go2 (W? ..))⟩)
theorem Gz{Q:_x->_B->Prop}(hh:A.handled=none)(hit:s.heap.IsKeyIter it d i es.size ep)(x:ke s.heap d es ep)(hi:es.size<=i)(hQ:∀h',Heap.ExtBut it s.heap h'->Q none {s with heap:=h'}):wpAny (model prog w) A (pyNext (.ref it)) Q E s:=by
 obtain⟨o,ho,hc,hf⟩:=id hit;obtain⟨od,go,gc,gd⟩:=id x;have T:=hit.typeIs;unfold pyNext;refine Vk (X3 (Wk (name:=Str.ofString "__next__") T WB (WG WB T YF ?_ (Yv _))));refine Vk (Vv ?_);refine Vk ?_;refine Vk ?_
 first|refine Vk (Xe T (Vv ?_))|refine Vk (XE T (Vv ?_))
 refine Vk (wpAny_fieldsOf ho hf ?_);have no:Builtin.Dict_items.ownsTuple "dict_keyiterator" = false:=by decide
 simp only[no,Wc,WO];show wpAny _ _ (if(Value.ref d==Value.none)=true then _ else _) _ _ s;rw[Vu (show ¬ ((Value.ref d==Value.none)=true)from VC)];refine Vk (Vv ?_);refine Vk (Zg go gd ?_);rw[Vu (by simp)];refine Vk (Vv ?_);refine Vk (Zv go gd ?_);rw[Vu (by simp)];refine Vv ?_;simp only[show ¬ ((i:Int)<0)from by lia,WO,WY,Array.getElem?_eq_none hi];refine Vk ?_
 first|refine Vk (Xe T (Vv ?_))|refine Vk (XE T (Vv ?_))
 show wpAny _ _ (setField (.ref it) 0 .none >>= _) _ _ s;refine Vk (Xv ho hf (by simp) ?_);show wpAny _ _ (newExc (.type "StopIteration") [] >>= _) _ _ _;refine Vk ?_;simp only[newExc,newTuple];refine Vk (Wf ?_ (by size_fits));refine Vk (m:=firstArgMember _ _) (Zs (a:=Value.none) (by first|rfl|(simp only[firstArgMember];rfl)) ?_);refine Wf ?_ (by size_fits);simp only[raiseNew];refine Vk (ZS ?_);rw[show A.in1.handled=none from hh];refine Vk (Vv (Zr ?_));refine Vk (wpAny_isInstance (T:="StopIteration") (b:=true) ⟨_,VN _ rfl,rfl⟩ isSubtype_stop ?_);exact Vv (hQ _ (((W? ..).extBut.push _).push _))
def C8(es:Array DictEntry)(i:Nat)(v:_A):Prop:=∃h:i<es.size,v=es[i].key
theorem AA(hh:A.handled=none)(I:_C)(KP:d≠I):Walks prog w A I [I,d] [I] es.size (C8 es) (fun i h=>h.IsKeyIter I d i es.size ep/\ke h d es ep) where
 sub:=fun b hb=>by rw[V0]at hb;rw[hb];exact Vt
 frame:=fun _ _ _ st hk=>⟨st.1.at fun o e=>hk I Vt o e,st.2.to fun o e=>hk d (Vr _ Vt) o e⟩
 item:=fun i s Q E hi st hQ=>C7 st.1 st.2 hi fun h' k1 k2=>
  hQ _ h' s.toks ⟨hi,rfl⟩ ⟨k1,st.2.to fun o e=>k2.extBut d o KP e⟩ fun b o hb e=>k2.extBut b o (fun z=>hb (by rw[z];exact _q _)) e
 done:=fun s Q E st hQ=>Gz hh st.1 st.2 (Vq _) fun h' k=>hQ h' s.toks fun b o hb e=>k b o (fun z=>hb (by rw[z];exact _q _)) e
 self:=fun _ _ _ _ st hQ=>wpAny_pyIter_keyiter st.1 hQ
theorem GA(lo:(d==sysModules)=false):KdlSrc prog w "dict" d d es.size (C8 es) (fun h=>ke h d es ep) where
 type:=fun _ x=>x.ty
 there:=fun _ x=>⟨x.lt,x.lt⟩
 keep:=fun _ _ x hk=>x.to fun o e=>hk d (.inl rfl) o e
 notList:=by decide
 notTuple:=by decide
 hint:=fun _ _ _ _ x q=>kdl_hint_dict x.ty q
 iter:=fun _ _ hh x=>⟨_,_,(fun _ _ q=>C6 lo x q),AA hh _ (V2 x.lt),⟨⟨_,VN _ rfl,rfl,rfl⟩,x.to fun o e=>Vm _ e⟩⟩
end
section
variable{prog:_E}{w:World}{A:_D}{E:_r}{s:_B}{d it:_C}{es:Array DictEntry}{ep i:Nat}
theorem GB{acc:Array _A}(h:ItemsOf (C8 es) acc es.size):acc.toList=es.toList.map (·.key):=by
 apply List.ext_getElem
 .rw[VB,Vn,VB];exact h.1
 .intro i h1 h2;have hi:i<acc.size:=by rw[VB]at h1;exact h1
  obtain⟨hz,e⟩:=h.2 i acc[i] (Z' hi);rw[X!,Z3,X!,e]
theorem vf{Q:_w->_B->Prop}(hh:A.handled=none)(lo:(d==sysModules)=false)(x:ke s.heap d es ep)(hn:es.size<=sizeLine)(h:∀h' tk,s.heap.objs.size<h'.objs.size->(∀b o,s.heap.get? b=some o->h'.get? b=some o)->Q (es.toList.map (·.key)) {s with heap:=h',toks:=tk}):wpAny (model prog w) A (collect (.ref d)) Q E s:=by
 unfold collect;refine Vk (wpAny_runValue (X? (R:=fun r s'=>r=.ok (.ret (.ref s.heap.objs.size))/\wpAny (model prog w) A (do
  let u <- load s.heap.objs.size
  match u.data with
  |.seq xs _=>pure xs.toList
  |_=>unsupported "internal:collect") Q E s') ?_ fun r s' q=>?_))
 .refine codeAny_builtin entry_proto_collect' ?_;show wpAny _ _ (do again (.builtin "list.__iadd__" ⟨[<-newList [],.ref d],[]⟩)) _ _ s;refine Vk (ZR (Vv ⟨Code.quiet_builtin _ (by decide +kernel),codeAny_builtin entry_list_iadd' ?_⟩) (V' _));have ne:=Xq x.lt;refine kdl_extend (R:=fun r s'=>r=.ok (.ret (.ref s.heap.objs.size))/\wpAny (model prog w) A (do
   let u <- load s.heap.objs.size
   match u.data with
   |.seq xs _=>pure xs.toList
   |_=>unsupported "internal:collect") Q E s') (s:={s with heap:=s.heap.push (seqObj "list" #[] 0)}) (GA (es:=es) (ep:=ep) lo) hh (x.to fun o e=>Vm _ e) s.heap.objs.size ne ne (.ref s.heap.objs.size) 0 (VN _ rfl) (fun h' tk acc c hk hS B4=>⟨rfl,?_⟩) hn
  refine Vk (wpAny_load hS ?_);show wpAny _ _ (pure acc.toList) Q E _;rw[GB B4];exact Vv (h h' tk (Vy hS) fun b o e=>hk b o (V2 (Vy e)) (Vm _ e))
 .obtain⟨rfl,q⟩:=q;exact q
end
def lexLt:_v->_v->Bool
 |_,[]=>false
 |[],_::_=>true
 |x::xs,y::ys=>if x=y then lexLt xs ys else decide (x<y)
theorem jF:∀xs:_v,lexLt xs xs=false
 |[]=>rfl
 |x::xs=>by show(if x=x then lexLt xs xs else _)=false;rw[Vo rfl];exact jF xs
theorem pB:∀{xs ys zs:_v},lexLt xs ys=true->lexLt ys zs=true->lexLt xs zs=true:=by
 intro xs
 induction xs with
 |nil=>
  intro ys zs h1 h2;cases zs with
  |nil=>cases ys<;>cases h2
  |cons z zs=>rfl
 |cons x xs ih=>
  intro ys zs h1 h2;cases ys with
  |nil=>cases h1
  |cons y ys=>
   cases zs with
   |nil=>cases h2
   |cons z zs=>
    replace h1:(if x=y then lexLt xs ys else decide (x<y))=true:=h1;replace h2:(if y=z then lexLt ys zs else decide (y<z))=true:=h2;show(if x=z then lexLt xs zs else decide (x<z))=true;by_cases e1:x=y
    .rw[Vo e1]at h1;subst e1;by_cases e2:x=z
     .rw[Vo e2]at h2⊢;exact ih h1 h2
     .rw[Vu e2]at h2⊢;exact h2
    .rw[Vu e1]at h1;have Vh:=We h1;by_cases e2:y=z
     .subst e2;rw[Vu e1];exact h1
     .rw[Vu e2]at h2;have T':=We h2;rw[Vu (by lia)];exact VF (by lia)
theorem hJ:∀{xs ys:_v},xs≠ys->lexLt xs ys=false->lexLt ys xs=true:=by
 intro xs
 induction xs with
 |nil=>
  intro ys h1 h2;cases ys with
  |nil=>exact absurd rfl h1
  |cons y ys=>cases h2
 |cons x xs ih=>
  intro ys h1 h2;cases ys with
  |nil=>rfl
  |cons y ys=>
   replace h2:(if x=y then lexLt xs ys else decide (x<y))=false:=h2;show(if y=x then lexLt ys xs else decide (y<x))=true;by_cases e:x=y
   .subst e;rw[Vo rfl]at h2⊢;exact ih (fun z=>h1 (by rw[z])) h2
   .rw[Vu e]at h2;rw[Vu (fun z=>e z.symm)];have:=WU h2;exact VF (by lia)
theorem kf{xs ys:_v}(h:lexLt xs ys=true):lexLt ys xs=false:=by
 cases z:lexLt ys xs with
 |false=>rfl
 |true=>
  have:=pB h z;rw[jF]at this;cases this
section
variable{prog:_E}{w:World}{A:_D}{E:_r}{s:_B}
theorem KQ{fin:Bool}{Q:Bool->_B->Prop}:∀{us vs:_w}{xs ys:_v}(i:Nat),IntsAre us xs->IntsAre vs ys->fin=decide (xs.length<ys.length)->Q (lexLt xs ys) s ->
  KatLex prog w A true fin Q (us.zip vs) i s:=by
 intro us vs xs ys i h1
 induction h1 generalizing vs ys i with
 |nil=>
  intro h2 hf h;refine kat_nil ?_;cases h2 with
  |nil=>rw[hf];exact h
  |cons n t r=>rw[hf];exact h
 |cons n t r ih=>
  intro h2 hf h;cases h2 with
  |nil=>
   refine kat_nil ?_;rw[hf];exact h
  | @cons m u HQ KR r2=>
   refine kat_cons (wpAny_eqBool_int ?_);rename_i Nm Ue;replace h:Q (if n=m then lexLt Ue KR else decide (n<m)) s:=h;by_cases e:n=m
   .subst e;rw[Wu];refine kat_yes (ih (i+1) r2 ?_ ?_)
    .rw[hf];simp only[Vl,Nat.add_lt_add_iff_right]
    .rw[Vo rfl]at h;exact h
   .rw[Xb.mpr e];rw[Vu e]at h;refine kat_no ?_;by_cases hi:i=0
    .subst hi;exact oneLt_int h
    .rw[show(true&&i==0)=false by rw[XS];exact Xb.mpr hi];exact kat_one _ _ (lt_int h)
def jU(h:Heap)(v:_A)(xs:_v):Prop:=xs≠[]/\∃a o aD n,v=.ref a/\h.get? a=some o/\o.cls=.type "tuple" /\ o.data=.seq aD n/\IntsAre aD.toList xs
theorem jU.to{h h':Heap}{v:_A}{xs:_v}(t:jU h v xs)(hk:∀b o,h.get? b=some o->o.cls=.type "tuple" -> h'.get? b=some o):jU h' v xs:=by obtain⟨ne,a,o,aD,n,e,ho,hc,r⟩:=t;exact⟨ne,a,o,aD,n,e,hk a o ho hc,hc,r⟩
theorem NP{Q:Bool->_B->Prop}{x y:_A}{xs ys:_v}(h1:jU s.heap x xs)(h2:jU s.heap y ys)(h:Q (lexLt xs ys) s):wpAny (model prog w) A (keyLt' (tuples' true) x y) Q E s:=by obtain⟨_,a,o,aD,n,rfl,ho,hc,hd,hi⟩:=h1;obtain⟨_,b,o2,d!,n2,rfl,BN,LK,hd2,O0⟩:=h2;refine kat_lt ho hd BN hd2 (KQ 0 hi O0 ?_ h);rw[<-hi.length,<-O0.length,VB,VB]
inductive cB(h:Heap):_w->List (_v)->Prop
 |nil:cB h [] []
 |cons {v:_A} {x:_v} {vs:_w} {xs:List (_v)}:jU h v x->cB h vs xs->cB h (v::vs) (x::xs)
theorem cB.to{h h':Heap}{vs:_w}{xs:List (_v)}(t:cB h vs xs)(hk:∀b o,h.get? b=some o->o.cls=.type "tuple" -> h'.get? b=some o):cB h' vs xs:=by
 induction t with
 |nil=>exact .nil
 |cons a _ ih=>exact .cons (a.to hk) ih
theorem cB.length{h:Heap}{vs:_w}{xs:List (_v)}(t:cB h vs xs):vs.length=xs.length:=by
 induction t with
 |nil=>rfl
 |cons _ _ ih=>rw[Vl,Vl,ih]
theorem cB.at_{h:Heap}{vs:_w}{xs:List (_v)}(t:cB h vs xs):∀i,i<vs.length->jU h (vs.getD i .none) (xs.getD i []):=by
 induction t with
 |nil=>intro i hi;cases hi
 |cons a _ ih=>
  intro i hi;cases i with
  |zero=>exact a
  |succ i=>exact ih i (Nat.lt_of_succ_lt_succ hi)
theorem cB.append{h:Heap}{vs SJ:_w}{xs SK:List (_v)}(t:cB h vs xs)(t2:cB h SJ SK):cB h (vs++SJ) (xs++SK):=by
 induction t with
 |nil=>exact t2
 |cons a _ ih=>exact .cons a ih
theorem cB.rev{h:Heap}{vs:_w}{xs:List (_v)}(t:cB h vs xs):cB h vs.reverse xs.reverse:=by
 induction t with
 |nil=>exact .nil
 |cons a _ ih=>
  rw[XW,XW];exact ih.append (.cons a .nil)
theorem cB.Ug{h:Heap}{vs:_w}{xs:List (_v)}(t:cB h vs xs):∃fs,KatTups h vs fs/\fs.length=vs.length/\∀v∈fs,∃n u,v=.int n u:=by
 induction t with
 |nil=>exact⟨[],.nil,rfl,fun v m=>by cases m⟩
 |cons a _ ih=>
  obtain⟨fs,k,l,al⟩:=ih;obtain⟨ne,a,o,aD,n,rfl,ho,hc,hd,hi⟩:=a;obtain⟨aD⟩:=aD;cases hi with
  |nil=>exact absurd rfl ne
  |cons m u r=>
   refine⟨_,KatTups.cons ho hc hd rfl k,by rw[Vl,Vl,l],fun v mv=>?_⟩;rcases VG.mp mv with rfl|mv
   .exact⟨_,_,rfl⟩
   .exact al v mv
theorem GC{vs:_w}{xs:List (_v)}{Q:SortKind->_B->Prop}(t:cB s.heap vs xs)(h0:0<vs.length)(h:Q (tuples' true) s):wpAny (model prog w) A (keyKind' vs.toArray) Q E s:=by obtain⟨fs,k,l,al⟩:=t.Ug;refine kat_kind (T:=.type "int") k (by rw[l];exact h0) (fun v m=>?_) (by decide) h;obtain⟨n,u,rfl⟩:=al v m;exact Looks.of_pure rfl
end
end SO
namespace TS
section
variable{α:Type}(le:α->α->Prop)
def EL(l:List α):Prop:=l.Pairwise le
structure AB(wt out A B:List α):Prop where
 pm:(out++(A++B)).Perm wt
 so:EL le out
 sa:EL le A
 sb:EL le B
 oa:∀x∈out,∀y∈A,le x y
 ob:∀x∈out,∀y∈B,le x y
variable{le}{wt out A B:List α}
theorem AB.swap(h:AB le wt out A B):AB le wt out B A:=
 ⟨(YN _ List.perm_append_comm).trans h.pm,h.so,h.sb,h.sa,h.ob,h.oa⟩
theorem AB.a{A1 A2:List α}(h:AB le wt out (A1++A2) B)(l:∀x∈A1,∀y∈B,le x y):AB le wt (out++A1) A2 B:=by
 have sa:=W9.mp h.sa;refine⟨?_,W9.mpr ⟨h.so,sa.1,fun x hx y hy=>h.oa x hx y (W_ _ hy)⟩,sa.2.1,h.sb,fun x hx y hy=>?_,fun x hx y hy=>?_⟩
 .have:=h.pm;rwa [Vs,<-Vs out A1]at this
 .rcases Wt.mp hx with hx|hx
  .exact h.oa x hx y (VX _ hy)
  .exact sa.2.2 x hx y hy
 .rcases Wt.mp hx with hx|hx
  .exact h.ob x hx y hy
  .exact l x hx y hy
theorem AB.b{B1 B2:List α}(h:AB le wt out A (B1++B2))(l:∀x∈B1,∀y∈A,le x y):AB le wt (out++B1) A B2:=(h.swap.a l).swap
theorem AB.fin(h:AB le wt out A B)(l:∀x∈A,∀y∈B,le x y):(out++A++B).Perm wt/\EL le (out++A++B):=by
 refine⟨by rw[Vs];exact h.pm,?_⟩;rw[Vs];refine W9.mpr ⟨h.so,W9.mpr ⟨h.sa,h.sb,l⟩,fun x hx y hy=>?_⟩;rcases Wt.mp hy with hy|hy
 .exact h.oa x hx y hy
 .exact h.ob x hx y hy
end
section
variable{α:Type}(r:α->Nat)
def K(xs:Array α)(i:Nat):Nat:=(xs[i]?).elim 0 r
def Up(xs:Array α)(lo hi:Nat):Prop:=∀i j,lo<=i->i<j->j<hi->K r xs i<=K r xs j
def Dn(xs:Array α)(lo hi:Nat):Prop:=∀i j,lo<=i->i<j->j<hi->K r xs j<=K r xs i
abbrev O1:α->α->Prop:=fun x y=>r x<=r y
abbrev SM:α->α->Prop:=fun x y=>r y<=r x
def cH(xs:Array α)(i j:Nat):List α:=(xs.toList.drop i).take (j-i)
variable{r}{xs ys:Array α}
theorem fF{i:Nat}{x:α}(h:xs[i]?=some x):K r xs i=r x:=by unfold K;rw[h];rfl
theorem jd{i j:Nat}(hj:j<=xs.size):(cH xs i j).length=j-i:=by unfold cH;rw[Wm,XA,VB];lia
theorem fO{i j k:Nat}:(cH xs i j)[k]?=if k<j-i then xs[i+k]? else none:=by unfold cH;rw[List.getElem?_take,Zi,WD]
theorem bG{i j:Nat}{x:α}(h:x∈cH xs i j):∃k,i<=k/\k<j/\xs[k]?=some x:=by
 obtain⟨k,hk⟩:=List.getElem?_of_mem h;rw[fO]at hk;split at hk
 .exact⟨i+k,by lia,by lia,hk⟩
 .cases hk
theorem cI{i j k:Nat}(h1:i<=j)(h2:j<=k)(hk:k<=xs.size):cH xs i k=cH xs i j++cH xs j k:=by
 apply WT;intro n;rw[List.getElem?_append,jd (by lia),fO,fO,fO];by_cases c:n<j-i
 .rw[Vo c,Vo (by lia),Vo c]
 .rw[Vu c];by_cases d:n<k-i
  .rw[Vo d,Vo (by lia)];congr 1;lia
  .rw[Vu d,Vu (by lia)]
theorem kY{i:Nat}{x:α}(h:xs[i]?=some x):cH xs i (i+1)=[x]:=by
 apply WT;intro n;rw[fO];cases n with
 |zero=>rw[Vo (by lia)];exact h
 |succ n=>rw[Vu (by lia)];rfl
theorem vg{i j:Nat}(h:j<=i):cH xs i j=[]:=by unfold cH;rw[show j-i=0 by lia];rfl
theorem eI:cH xs 0 xs.size=xs.toList:=by unfold cH;rw[Yf,ZC,<-VB,Yw]
theorem aJ{i j:Nat}:(xs.extract i j).toList=cH xs i j:=by rw[Array.toList_extract];unfold cH;rw[List.extract_eq_take_drop]
theorem Up.iP{lo hi:Nat}(h:Up r xs lo hi):EL (O1 r) (cH xs lo hi):=by
 unfold EL;rw[Ym];intro i j h1 h2 Ud;have e1:=VE h1;have e2:=VE h2;rw[fO]at e1 e2;split at e1
 .split at e2
  .have:=h (lo+i) (lo+j) (by lia) (by lia) (by lia);rw[fF e1,fF e2]at this;exact this
  .cases e2
 .cases e1
theorem KS{lo hi:Nat}(h:EL (O1 r) (cH xs lo hi))(hz:hi<=xs.size):Up r xs lo hi:=by
 intro i j h1 h2 h3;have q1:i-lo<(cH xs lo hi).length:=by rw[jd hz];lia
 have q2:j-lo<(cH xs lo hi).length:=by rw[jd hz];lia
 have:=(Ym.mp h) (i-lo) (j-lo) q1 q2 (by lia);have e1:=VE q1;have e2:=VE q2;rw[fO,Vo (by lia),show lo+(i-lo)=i by lia]at e1;rw[fO,Vo (by lia),show lo+(j-lo)=j by lia]at e2;rw[fF e1,fF e2];exact this
theorem Up.le{lo hi i j:Nat}(h:Up r xs lo hi)(h1:lo<=i)(h2:i<=j)(h3:j<hi):K r xs i<=K r xs j:=by
 rcases V! i j with q|q
 .exact h i j h1 q h3
 .rw[show i=j by lia];exact Vq _
theorem Up.sub{lo hi SN wM:Nat}(h:Up r xs lo hi)(h1:lo<=SN)(h2:wM<=hi):Up r xs SN wM:=fun i j a b c=>h i j (by lia) b (by lia)
theorem Up.rev{lo hi:Nat}(h:Up r xs lo hi):EL (SM r) (cH xs lo hi).reverse:=X4.mpr h.iP
theorem vh:∀(m:List α)(k sa:Nat)(xs:Array α),sa+k+m.length<=xs.size ->
  ((m.zipIdx k).foldl (fun a(q:α×Nat)=>a.setIfInBounds (sa+q.2) q.1) xs).toList=xs.toList.take (sa+k)++m++xs.toList.drop (sa+k+m.length)
 |[],k,sa,xs,_=>by show xs.toList=_;rw[VS];exact(List.take_append_drop _ _).symm
 |x::m,k,sa,xs,h=>by
  rw[ZE,_i,vh m (k+1) sa _ (by rw[Array.size_setIfInBounds];simp only[Vl]at h;lia)];simp only[Vl]at h⊢;rw[Z6,<-Zp,List.take_set,List.drop_set_of_lt (by lia)];have hl:sa+k<xs.toList.length:=by rw[VB];lia
  rw[List.take_succ_eq_append_getElem hl];have e:(xs.toList.take (sa+k)).length=sa+k:=by rw[Wm];lia
  rw[WJ _ _ (by lia),e,Ws];simp only[V1,Vs,List.singleton_append,VP,VA];rw[show sa+k+1+m.length=sa+k+(m.length+1) by lia]
theorem C9{m:List α}{sa:Nat}{xs:Array α}(h:sa+m.length<=xs.size):
  ((m.zipIdx).foldl (fun a(q:α×Nat)=>a.setIfInBounds (sa+q.2) q.1) xs).toList=xs.toList.take sa++m++xs.toList.drop (sa+m.length):=vh m 0 sa xs h
theorem AD{i:Nat}:xs.toList.take i=cH xs 0 i:=by unfold cH;rw[Yf,ZC]
theorem AE{i:Nat}:xs.toList.drop i=cH xs i xs.size:=by unfold cH;rw[WI];rw[XA,VB];exact Vq _
end
end TS
namespace TS
open PyProof.Rows
def yJ:Bool->Keyed->Array Keyed->Nat->Nat->Nat->StateT SortSt Sem (Option Nat):=sortPriv% PySem.Builtin.gallop
def vi:Array Keyed->Array Keyed->StateT SortSt Sem (Array Keyed):=sortPriv% PySem.Builtin.mergeLo
def vj:Array Keyed->Array Keyed->StateT SortSt Sem (Array Keyed):=sortPriv% PySem.Builtin.mergeHi
section
variable{prog:_E}{w:World}{A:_D}{E:_r}{s:_B}{κ:SortKind}{S:Keyed->Prop}{r:Keyed->Nat}{st:SortSt}
def AF(prog:_E)(w:World)(A:_D)(s:_B)(κ:SortKind)(S:Keyed->Prop)(r:Keyed->Nat):Prop:=
 ∀(x y:Keyed)(Q:Bool->_B->Prop),S x->S y->Q (decide (r x<r y)) s->wpAny (model prog w) A (keyLt' κ x.1 y.1) Q (fun _ _=>False) s
theorem NQ(C:AF prog w A s κ S r){x y:Keyed}{Q:Option Bool->SortSt->Prop}(hk:kindOf st=κ)(hx:S x)(hy:S y)(h:Q (some (decide (r x<r y))) st):
  wpS (model prog w) A E s (lt' x y) Q st:=by
 rw[lt'_eq];refine VI (Yo ?_);rw[hk];refine VI (Zm (X3 (V8 (C x y (fun c s'=>c=decide (r x<r y)/\s'=s) hx hy ⟨rfl,rfl⟩) (fun c s' q=>⟨q.2,?_⟩) fun _ _ q=>q.elim)));rw[q.1];exact VQ h
theorem dS{xs:Array Keyed}{i:Nat}{x:Keyed}{Q:Keyed->SortSt->Prop}(e:xs[i]?=some x)(h:Q x st):wpS (model prog w) A E s (elem' xs i) Q st:=by rw[elem'_eq,e];exact VQ h
theorem NR(C:AF prog w A s κ S r){i j:Nat}{x y:Keyed}{Q:Option Bool->SortSt->Prop}(hk:kindOf st=κ)(e1:(arrOf st)[i]?=some x)(e2:(arrOf st)[j]?=some y)(hx:S x)(hy:S y)(h:Q (some (decide (r x<r y))) st):
  wpS (model prog w) A E s (ltAt' i j) Q st:=by
 rw[ltAt'_eq];exact VI (Yo (VI (dS e1 (VI (dS e2 (NQ C hk hx hy h))))))
def qh(left:Bool)(k n:Nat):Bool:=if left then decide (n<k)else !(decide (k<n))
theorem C_{left:Bool}{k n m:Nat}(h:n<=m)(hb:qh left k m=true):qh left k n=true:=by
 unfold qh at *;cases left
 .simp at hb⊢;lia
 .simp at hb⊢;lia
theorem KU{left:Bool}{k n m:Nat}(h:n<=m)(hb:qh left k n=false):qh left k m=false:=by
 cases z:qh left k m with
 |false=>rfl
 |true=>rw[C_ h z]at hb;cases hb
theorem at_of{xs:Array Keyed}{i:Nat}(h:i<xs.size):∃x,xs[i]?=some x/\x∈xs/\K r xs i=r x:=⟨xs[i],Xj xs i h,Array.getElem_mem h,fF (Xj xs i h)⟩
theorem QV(C:AF prog w A s κ S r){left:Bool}{key:Keyed}{xs:Array Keyed}{i:Nat}{Q:Option Bool->SortSt->Prop}(hk:kindOf st=κ)(hS:∀x∈xs,S x)(hy:S key)(hi:i<xs.size)(h:Q (some (qh left (r key) (K r xs i))) st):
  wpS (model prog w) A E s (elem' xs i >>= fun y=>if left=true then lt' y key else lt' key y >>= fun c=>pure (c.map (!·))) Q st:=by
 obtain⟨x,e,m,ek⟩:=at_of (r:=r) hi;rw[ek]at h;refine VI (dS e ?_);cases left with
 |true=>exact NQ C hk (hS x m) hy h
 |false=>exact VI (NQ C hk hy (hS x m) (VQ h))
theorem jG(C:AF prog w A s κ S r){left:Bool}{key:Keyed}{xs:Array Keyed}{base n hint:Nat}{Q:Option Nat->SortSt->Prop}(hk:kindOf st=κ)(hS:∀x∈xs,S x)(hy:S key)(hz:base+n<=xs.size)(hh:hint<n)(up:Up r xs base (base+n))(h:∀k,k<=n->(∀i,i<k->qh left (r key) (K r xs (base+i))=true)->(∀i,k<=i->i<n->qh left (r key) (K r xs (base+i))=false)->Q (some k) st):
  wpS (model prog w) A E s (yJ left key xs base n hint) Q st:=by
 obtain⟨b,eb⟩:∃b:Nat->Bool,∀i,b i=qh left (r key) (K r xs (base+i)):=⟨_,fun _=>rfl⟩
 have O2:∀i j,i<=j->j<n->b j=true->b i=true:=fun i j a c d=>by rw[eb]at d⊢;exact C_ (up.le (by lia) (by lia) (by lia)) d
 have O3:∀i j,i<=j->j<n->b i=false->b j=false:=fun i j a c d=>by rw[eb]at d⊢;exact KU (up.le (by lia) (by lia) (by lia)) d
 have ask:∀{i:Nat}{Q:Option Bool->SortSt->Prop},i<n->Q (some (b i)) st->wpS (model prog w) A E s (elem' xs (base+i) >>= fun y=>if left=true then lt' y key else lt' key y >>= fun c=>pure (c.map (!·))) Q st:=by intro i Q hi q;rw[eb]at q;exact QV C hk hS hy (by lia) q
 simp only[<-eb]at h;unfold yJ;refine VI (ask hh ?_);dsimp only;cases c:b hint with
 |true=>
  rw[Vo rfl];refine VI (WZ (Wn (I:=fun x z ax=>ax=st/\∃l o,z=(none,l,o)/\x+1<=o/\l<o/\hint+l<n/\b (hint+l)=true) (Q:=fun z ax=>ax=st/\∃l o,z=(none,l,o)/\l<o/\hint+l<n/\b (hint+l)=true/\(o<n-hint->b (hint+o)=false)) ?_ ?_ ⟨rfl,0,1,rfl,by lia,by lia,by lia,c⟩) ?_)
  .rintro x z ax _ hx ⟨e,l,o,rfl,h1,h2,h3,h4⟩;rw[e];dsimp only;by_cases q:o ≥ n-hint
   .rw[Vo q];exact VQ ⟨rfl,l,o,rfl,h2,h3,h4,fun z=>absurd z (by lia)⟩
   .rw[Vu q];refine VI (ask (by lia) ?_);dsimp only;cases d:b (hint+o) with
    |true=>exact VQ ⟨rfl,o,2*o+1,rfl,by lia,by lia,by lia,d⟩
    |false=>exact VQ ⟨rfl,l,o,rfl,h2,h3,h4,fun _=>d⟩
  .rintro z ax ⟨e,l,o,rfl,h1,h2,h3,h4⟩;exact⟨e,l,o,rfl,h2,h3,h4,fun z=>absurd z (by lia)⟩
  .rintro z ax ⟨e,l,o,rfl,h2,h3,h4,h5⟩;rw[e];dsimp only;obtain⟨lo,LL⟩:∃lo,lo=hint+l+1:=⟨_,rfl⟩
   obtain⟨hi,NT⟩:∃hi,hi=hint+min o (n-hint):=⟨_,rfl⟩
   rw[<-LL,<-NT];have g1:lo<=hi:=by lia
   have g2:hi<=n:=by lia
   have g3:∀i,i<lo->b i=true:=fun i q=>O2 i (hint+l) (by lia) h3 h4;have g4:∀i,hi<=i->i<n->b i=false:=fun i q q2=>O3 (hint+o) i (by lia) q2 (h5 (by lia));clear LL NT;refine VI (WZ (Wn (I:=fun x z ax=>ax=st/\∃lo hi,z=(none,lo,hi)/\lo<=hi/\hi<=n/\hi-lo+x<=n/\(∀i,i<lo->b i=true)/\∀i,hi<=i->i<n->b i=false) (Q:=fun z ax=>ax=st/\∃k,z=(none,k,k)/\k<=n/\(∀i,i<k->b i=true)/\∀i,k<=i->i<n->b i=false) ?_ ?_ ⟨rfl,lo,hi,rfl,g1,g2,by lia,g3,g4⟩) ?_)
   .rintro x z ax _ hx ⟨e,lo,hi,rfl,h1,h2,h3,h4,h5⟩;rw[e];dsimp only;by_cases q:lo ≥ hi
    .rw[Vo q];have:lo=hi:=by lia
     subst this;exact VQ ⟨rfl,lo,rfl,h2,h4,h5⟩
    .rw[Vu q];refine VI (ask (by lia) ?_);dsimp only;cases d:b (lo+(hi-lo) / 2) with
     |true=>exact VQ ⟨rfl,_,hi,rfl,by lia,h2,by lia,fun i q=>O2 i _ (by lia) (by lia) d,h5⟩
     |false=>exact VQ ⟨rfl,lo,_,rfl,by lia,by lia,by lia,h4,fun i q q2=>O3 _ i q q2 d⟩
   .rintro z ax ⟨e,lo,hi,rfl,h1,h2,h3,h4,h5⟩;have:lo=hi:=by lia
    subst this;exact⟨e,lo,rfl,h2,h4,h5⟩
   .rintro z ax ⟨e,k,rfl,h1,h2,h3⟩;rw[e];exact VQ (h k h1 h2 h3)
 |false=>
  rw[Vu VC];refine VI (WZ (Wn (I:=fun x z ax=>ax=st/\∃l o,z=(none,l,o)/\x+1<=o/\l<o/\l<=hint/\b (hint-l)=false) (Q:=fun z ax=>ax=st/\∃l o,z=(none,l,o)/\l<o/\l<=hint/\b (hint-l)=false/\(o<hint+1->b (hint-o)=true)) ?_ ?_ ⟨rfl,0,1,rfl,by lia,by lia,by lia,c⟩) ?_)
  .rintro x z ax _ hx ⟨e,l,o,rfl,h1,h2,h3,h4⟩;rw[e];dsimp only;by_cases q:o ≥ hint+1
   .rw[Vo q];exact VQ ⟨rfl,l,o,rfl,h2,h3,h4,fun z=>absurd z (by lia)⟩
   .rw[Vu q];refine VI (ask (by lia) ?_);dsimp only;cases d:b (hint-o) with
    |true=>exact VQ ⟨rfl,l,o,rfl,h2,h3,h4,fun _=>d⟩
    |false=>exact VQ ⟨rfl,o,2*o+1,rfl,by lia,by lia,by lia,d⟩
  .rintro z ax ⟨e,l,o,rfl,h1,h2,h3,h4⟩;exact⟨e,l,o,rfl,h2,h3,h4,fun z=>absurd z (by lia)⟩
  .rintro z ax ⟨e,l,o,rfl,h2,h3,h4,h5⟩;rw[e];dsimp only;obtain⟨lo,LL⟩:∃lo,lo=hint+1-min o (hint+1):=⟨_,rfl⟩
   obtain⟨hi,NT⟩:∃hi,hi=hint-l:=⟨_,rfl⟩
   rw[<-LL,<-NT];have g1:lo<=hi:=by lia
   have g2:hi<=n:=by lia
   have g3:∀i,i<lo->b i=true:=fun i q=>O2 i (hint-o) (by lia) (by lia) (h5 (by lia));have g4:∀i,hi<=i->i<n->b i=false:=fun i q q2=>O3 (hint-l) i (by lia) q2 h4;clear LL NT;refine VI (WZ (Wn (I:=fun x z ax=>ax=st/\∃lo hi,z=(none,lo,hi)/\lo<=hi/\hi<=n/\hi-lo+x<=n/\(∀i,i<lo->b i=true)/\∀i,hi<=i->i<n->b i=false) (Q:=fun z ax=>ax=st/\∃k,z=(none,k,k)/\k<=n/\(∀i,i<k->b i=true)/\∀i,k<=i->i<n->b i=false) ?_ ?_ ⟨rfl,lo,hi,rfl,g1,g2,by lia,g3,g4⟩) ?_)
   .rintro x z ax _ hx ⟨e,lo,hi,rfl,h1,h2,h3,h4,h5⟩;rw[e];dsimp only;by_cases q:lo ≥ hi
    .rw[Vo q];have:lo=hi:=by lia
     subst this;exact VQ ⟨rfl,lo,rfl,h2,h4,h5⟩
    .rw[Vu q];refine VI (ask (by lia) ?_);dsimp only;cases d:b (lo+(hi-lo) / 2) with
     |true=>exact VQ ⟨rfl,_,hi,rfl,by lia,h2,by lia,fun i q=>O2 i _ (by lia) (by lia) d,h5⟩
     |false=>exact VQ ⟨rfl,lo,_,rfl,by lia,by lia,by lia,h4,fun i q q2=>O3 _ i q q2 d⟩
   .rintro z ax ⟨e,lo,hi,rfl,h1,h2,h3,h4,h5⟩;have:lo=hi:=by lia
    subst this;exact⟨e,lo,rfl,h2,h4,h5⟩
   .rintro z ax ⟨e,k,rfl,h1,h2,h3⟩;rw[e];exact VQ (h k h1 h2 h3)
end
section
variable{prog:_E}{w:World}{A:_D}{E:_r}{s:_B}{κ:SortKind}{S:Keyed->Prop}{r:Keyed->Nat}{st:SortSt}
abbrev Gs(st:SortSt)(g:Nat):SortSt:=SortSt.mk' (kindOf st) (arrOf st) (pendingOf st) g (failedOf st)
theorem cC{α:Type}{c:Prop}[Decidable c]{m1 m2:StateT SortSt Sem α}{Q:α->SortSt->Prop}{M:Model}(h1:c->wpS M A E s m1 Q st)(h2:¬c->wpS M A E s m2 Q st):wpS M A E s (if c then m1 else m2) Q st:=by
 by_cases q:c
 .rw[Vo q];exact h1 q
 .rw[Vu q];exact h2 q
theorem cy{α:Type}{x y:Nat}{m1 m2:StateT SortSt Sem α}{Q:α->SortSt->Prop}{M:Model}(h1:x=y->wpS M A E s m1 Q st)(h2:x≠y->wpS M A E s m2 Q st):wpS M A E s (if(x==y)=true then m1 else m2) Q st:=
 cC (fun q=>h1 (WK.mp q)) fun q=>h2 fun z=>q (WK.mpr z)
def Good(r:Keyed->Nat)(a b m:Array Keyed):Prop:=m.toList.Perm (a.toList++b.toList)/\EL (O1 r) m.toList
structure Mm(r:Keyed->Nat)(a b out:Array Keyed)(ia ib:Nat):Prop where
 la:ia<=a.size
 lb:ib<=b.size
 me:AB (O1 r) (a.toList++b.toList) out.toList (cH a ia a.size) (cH b ib b.size)
section
variable{a b out:Array Keyed}{ia ib:Nat}(ua:Up r a 0 a.size)(ub:Up r b 0 b.size)
include ua ub
theorem Mm.NU(h:Mm r a b out ia ib)(k:Nat)(hk:ia+k<=a.size)(l:ib<b.size->∀i,i<k->K r a (ia+i)<=K r b ib):Mm r a b (out++a.extract ia (ia+k)) (ia+k) ib:=by refine⟨hk,h.lb,?_⟩;have m:=h.me;rw[cI (i:=ia) (j:=ia+k) (by lia) hk (Vq _)]at m;rw[V4,aJ];refine m.a fun x hx y hy=>?_;obtain⟨i,i1,i2,i3⟩:=bG hx;obtain⟨j,j1,j2,j3⟩:=bG hy;show r x<=r y;rw[<-fF (r:=r) i3,<-fF (r:=r) j3];have:=l (by lia) (i-ia) (by lia);rw[show ia+(i-ia)=i by lia]at this;exact VR this (ub.le (V' _) j1 j2)
theorem Mm.H_(h:Mm r a b out ia ib)(k:Nat)(hk:ib+k<=b.size)(l:ia<a.size->∀i,i<k->K r b (ib+i)<=K r a ia):Mm r a b (out++b.extract ib (ib+k)) ia (ib+k):=by refine⟨h.la,hk,?_⟩;have m:=h.me;rw[cI (i:=ib) (j:=ib+k) (by lia) hk (Vq _)]at m;rw[V4,aJ];refine m.b fun x hx y hy=>?_;obtain⟨i,i1,i2,i3⟩:=bG hx;obtain⟨j,j1,j2,j3⟩:=bG hy;show r x<=r y;rw[<-fF (r:=r) i3,<-fF (r:=r) j3];have:=l (by lia) (i-ib) (by lia);rw[show ib+(i-ib)=i by lia]at this;exact VR this (ua.le (V' _) j1 j2)
theorem Mm.a1(h:Mm r a b out ia ib){x:Keyed}(e:a[ia]?=some x)(l:ib<b.size->r x<=K r b ib):Mm r a b (out.push x) (ia+1) ib:=by
 have hz:ia<a.size:=(Yh.mp e).1;have q:=h.NU ua ub 1 hz fun z i hi=>by rw[show ia+i=ia by lia,fF e];exact l z
 have:(out++a.extract ia (ia+1))=out.push x:=by apply XD.mp;rw[V4,aJ,kY e,Xu]
 rwa [this]at q
theorem Mm.b1(h:Mm r a b out ia ib){x:Keyed}(e:b[ib]?=some x)(l:ia<a.size->r x<=K r a ia):Mm r a b (out.push x) ia (ib+1):=by
 have hz:ib<b.size:=(Yh.mp e).1;have q:=h.H_ ua ub 1 hz fun z i hi=>by rw[show ib+i=ib by lia,fF e];exact l z
 have:(out++b.extract ib (ib+1))=out.push x:=by apply XD.mp;rw[V4,aJ,kY e,Xu]
 rwa [this]at q
omit ua ub in
theorem Mm.done(h:Mm r a b out ia ib)(l:ia=a.size\/ib=b.size):Good r a b (out++a.extract ia++b.extract ib):=by unfold Good;rw[V4,V4,aJ,aJ];refine h.me.fin fun x hx y hy=>?_;obtain⟨i,i1,i2,i3⟩:=bG hx;obtain⟨j,j1,j2,j3⟩:=bG hy;lia
omit ua in
theorem Mm.last(h:Mm r a b out ia ib)(l:ia+1=a.size)(hl:K r b (b.size-1)<=K r a (a.size-1)):Good r a b (out++b.extract ib++a.extract ia):=by unfold Good;rw[V4,V4,aJ,aJ];refine h.me.swap.fin fun x hx y hy=>?_;obtain⟨i,i1,i2,i3⟩:=bG hx;obtain⟨j,j1,j2,j3⟩:=bG hy;show r x<=r y;rw[<-fF (r:=r) i3,<-fF (r:=r) j3,show j=a.size-1 by lia];exact VR (ub.le (V' _) (by lia) (by lia)) hl
end
theorem C!(C:AF prog w A s κ S r){a b:Array Keyed}{Q:Array Keyed->SortSt->Prop}(hk:kindOf st=κ)(KW:∀x∈a,S x)(KY:∀x∈b,S x)(ua:Up r a 0 a.size)(ub:Up r b 0 b.size)(ha:1<=a.size)(hb:1<=b.size)(h0:K r b 0<=K r a 0)(hl:K r b (b.size-1)<=K r a (a.size-1))(h:∀m g,Good r a b m->Q m (Gs st g)):
  wpS (model prog w) A E s (vi a b) Q st:=by
 unfold vi;refine VI (Zm (Xh ⟨rfl,?_⟩));obtain⟨y0,e0,m0,k0⟩:=at_of (r:=r) (xs:=b) (i:=0) (by lia);refine VI (dS e0 ?_);dsimp only;have M0:Mm r a b #[] 0 0:=⟨V' _,V' _,by
  rw[eI,eI];exact⟨Xd _,List.Pairwise.nil,by rw[<-eI];exact ua.iP,by rw[<-eI];exact ub.iP,(by intro _ m;cases m),(by intro _ m;cases m)⟩⟩
 have M1:Mm r a b #[y0] 0 1:=M0.b1 ua ub e0 fun _=>by rw[<-k0];exact h0
 refine cy (fun q=>VQ (h _ (gallopOf st) (M1.done (.inr q)))) fun q1=>?_;refine cy (fun q=>VQ (h _ (gallopOf st) (M1.last ub q hl))) fun q2=>?_;refine VI (Yo ?_);refine VI (WZ (Wn (I:=fun x z ax=>(∃g,ax=Gs st g)/\∃out ia ib mg,z=(none,out,ia,ib,mg)/\Mm r a b out ia ib/\ia+1<a.size/\ib<b.size/\x<ia+ib)
  (Q:=fun z ax=>(∃g,ax=Gs st g)/\∃m y,z=(some m,y)/\Good r a b m) ?_ ?_ ⟨⟨gallopOf st,rfl⟩,_,0,1,_,rfl,M1,by lia,by lia,by lia⟩) ?_)
 .rintro x z ax _ hx ⟨⟨g,e⟩,out,ia,ib,mg,rfl,m,l1,l2,l3⟩;dsimp only;refine VI (WZ (Wn (I:=fun x' z ax=>(∃g,ax=Gs st g)/\∃out nG oA c1 c2,z=(none,out,nG,oA,c1,c2)/\Mm r a b out nG oA/\nG+1<a.size/\oA<b.size/\ia+ib+x'<=nG+oA)
   (Q:=fun z ax=>(∃g,ax=Gs st g)/\((∃m y,z=(some m,y)/\Good r a b m)\/∃out nG oA c1 c2,z=(none,out,nG,oA,c1,c2)/\Mm r a b out nG oA/\nG+1<a.size/\oA<b.size/\ia+ib+1<=nG+oA)) ?_ ?_ ⟨⟨g,e⟩,out,ia,ib,0,0,rfl,m,l1,l2,by lia⟩) ?_)
  .rintro x' z st2 _ NV ⟨⟨g,e⟩,out,nG,oA,c1,c2,rfl,m,l1,l2,l3⟩;dsimp only;obtain⟨y,ey,my,ky⟩:=at_of (r:=r) l2;obtain⟨z,ez,mz,kz⟩:=at_of (r:=r) (xs:=a) (i:=nG) (by lia);have QW:kindOf st2=κ:=by rw[e];exact hk
   refine VI (dS ey (VI (dS ez (VI (NQ C QW (KY y my) (KW z mz) ?_)))));dsimp only;refine cC (fun q=>?_) fun q=>?_
   .have m2:=m.b1 ua ub ey fun _=>by rw[kz];have:=We q;lia
    refine VI (dS ey ?_);refine cy (fun q=>VQ ⟨⟨g,e⟩,.inl ⟨_,_,rfl,m2.done (.inr q)⟩⟩) fun q3=>?_;exact cC (fun q=>VQ ⟨⟨g,e⟩,.inr ⟨_,_,_,_,_,rfl,m2,l1,by lia,by lia⟩⟩) fun q=>VQ ⟨⟨g,e⟩,_,_,_,_,_,rfl,m2,l1,by lia,by lia⟩
   .have m2:=m.a1 ua ub ez fun _=>by rw[ky];have:=WU (by simpa using q:decide (r y<r z)=false);lia
    refine VI (dS ez ?_);refine cy (fun q=>VQ ⟨⟨g,e⟩,.inl ⟨_,_,rfl,m2.last ub q hl⟩⟩) fun q3=>?_;exact cC (fun q=>VQ ⟨⟨g,e⟩,.inr ⟨_,_,_,_,_,rfl,m2,by lia,l2,by lia⟩⟩) fun q=>VQ ⟨⟨g,e⟩,_,_,_,_,_,rfl,m2,by lia,l2,by lia⟩
  .rintro z st2 ⟨e,out,nG,oA,c1,c2,rfl,m,l1,l2,l3⟩;exact⟨e,.inr ⟨out,nG,oA,c1,c2,rfl,m,l1,l2,by lia⟩⟩
  .rintro z st2 ⟨e,⟨m,y,rfl,gd⟩|⟨out,KZ,SQ,c1,c2,rfl,m,l1,l2,l4⟩⟩
   .exact VQ ⟨e,_,_,rfl,gd⟩
   .dsimp only;refine VI (Zm (Xh ⟨rfl,?_⟩));refine VI (WZ (Wn (I:=fun x' z ax=>(∃g,ax=Gs st g)/\∃out nG oA mg c1 c2,z=(none,out,nG,oA,mg,c1,c2)/\Mm r a b out nG oA/\nG+1<a.size/\oA<b.size/\ia+ib+1<=nG+oA)
     (Q:=fun z ax=>(∃g,ax=Gs st g)/\((∃m y,z=(some m,y)/\Good r a b m)\/∃out nG oA mg c1 c2,z=(none,out,nG,oA,mg,c1,c2)/\Mm r a b out nG oA/\nG+1<a.size/\oA<b.size/\ia+ib+1<=nG+oA)) ?_ ?_ ⟨e,out,KZ,SQ,_,c1,c2,rfl,m,l1,l2,by lia⟩) ?_)
    .rintro x' z fP _ NV ⟨⟨g,e⟩,out,ia,ib,mg,c1,c2,rfl,m,l1,l2,l3⟩;dsimp only;obtain⟨y,ey,my,ky⟩:=at_of (r:=r) l2;have K0:∀(mg:Nat){Q:PUnit->SortSt->Prop},Q ⟨⟩ (Gs st mg)->wpS (model prog w) A E s (modify fun s:SortSt=>Gs s mg) Q fP:=by intro mg Q q;refine Xt ?_;rw[e];exact q
     refine cC (fun qg=>?_) fun qg=>?_
     all_goals
      refine VI (K0 _ ?_);refine VI (dS ey (VI (jG C hk KW (KY y my) (by lia) (by lia) (ua.sub (by lia) (by lia)) fun k k1 k2 k3=>?_)));dsimp only;have mk:=m.NU ua ub k (by lia) fun _ i hi=>by have:=k2 i hi;unfold qh at this;simp only[Wc,WO,Xf,WC]at this;lia
      have nx:ia+k<a.size->r y<=K r a (ia+k):=fun z=>by have:=k3 k (Vq _) (by lia);unfold qh at this;simp only[Wc,WO,YI,Wj]at this;lia
      refine cC (fun qk=>cy (fun q=>VQ ⟨⟨_,rfl⟩,.inl ⟨_,_,rfl,mk.last ub q hl⟩⟩) fun q1=>cy (fun q=>VQ ⟨⟨_,rfl⟩,.inl ⟨_,_,rfl,mk.done (.inl q)⟩⟩) fun q2=>?_) fun qk=>?_;obtain⟨K2,eo⟩:∃z,z=out++a.extract ia (ia+k):=⟨_,rfl⟩
      obtain⟨KZ,ei⟩:∃z,z=ia+k:=⟨_,rfl⟩
      rw[<-eo,<-ei];rw[<-eo,<-ei]at mk;rw[<-ei]at nx;have l4:KZ+1<a.size:=by lia
      rotate_left
      have k0:k=0:=by lia
      subst k0;obtain⟨K2,eo⟩:∃z,z=out:=⟨_,rfl⟩
      obtain⟨KZ,ei⟩:∃z,z=ia:=⟨_,rfl⟩
      replace mk:Mm r a b out ia ib:=m;rw[YM,<-ei]at nx;rw[<-eo,<-ei]at mk⊢;have l4:KZ+1<a.size:=by lia
      all_goals
       have m2:=mk.b1 ua ub ey nx;refine VI (dS ey ?_);refine cy (fun q=>VQ ⟨⟨_,rfl⟩,.inl ⟨_,_,rfl,m2.done (.inr q)⟩⟩) fun q3=>?_;obtain⟨x1,ex,mx,kx⟩:=at_of (r:=r) (xs:=a) (i:=KZ) (by lia);refine VI (dS ex (VI (jG C hk KY (KW x1 mx) (by lia) (by lia) (ub.sub (by lia) (by lia)) fun j j1 j2 j3=>?_)));dsimp only;have mj:=m2.H_ ua ub j (by lia) fun _ i hi=>by have:=j2 i hi;unfold qh at this;simp only[Xy,Wj]at this;lia
       have nj:ib+1+j<b.size->r x1<=K r b (ib+1+j):=fun z=>by have:=j3 j (Vq _) (by lia);unfold qh at this;simp only[Xy,WC]at this;lia
       refine cC (fun qj=>cy (fun q=>VQ ⟨⟨_,rfl⟩,.inl ⟨_,_,rfl,mj.done (.inr q)⟩⟩) fun q4=>?_) fun qj=>?_;obtain⟨QX,ej⟩:∃z,z=ib+1+j:=⟨_,rfl⟩
       rw[<-ej]at mj nj⊢;have l5:QX<b.size:=by lia
       rotate_left
       have j0:j=0:=by lia
       subst j0;replace mj:=m2;obtain⟨QX,ej⟩:∃z,z=ib+1:=⟨_,rfl⟩
       rw[YM,<-ej]at nj;rw[<-ej]at mj⊢;have l5:QX<b.size:=by lia
       all_goals
        have m3:=mj.a1 ua ub ex nj;refine VI (dS ex ?_);refine cy (fun q=>VQ ⟨⟨_,rfl⟩,.inl ⟨_,_,rfl,m3.last ub q hl⟩⟩) fun q5=>?_;exact cC (fun q=>VQ ⟨⟨_,rfl⟩,.inr ⟨_,_,_,_,_,_,rfl,m3,by lia,by lia,by lia⟩⟩) fun q=>VQ ⟨⟨_,rfl⟩,_,_,_,_,_,_,rfl,m3,by lia,by lia,by lia⟩
    .rintro z fP ⟨e,out,nG,oA,mg,c1,c2,rfl,m,l1,l2,l3⟩;exact⟨e,.inr ⟨out,nG,oA,mg,c1,c2,rfl,m,l1,l2,l3⟩⟩
    .rintro z fP ⟨⟨g,e⟩,⟨m,y,rfl,gd⟩|⟨out,KZ,SQ,mg,c1,c2,rfl,m,l1,l2,l4⟩⟩
     .exact VQ ⟨⟨g,e⟩,_,_,rfl,gd⟩
     .dsimp only;refine VI (Xt (VQ ⟨⟨mg+1,?_⟩,_,_,_,_,rfl,m,l1,l2,by lia⟩));rw[e]
 .rintro z ax ⟨e,out,ia,ib,mg,rfl,m,l1,l2,l3⟩;lia
 .rintro z ax ⟨⟨g,e⟩,m,y,rfl,gd⟩;rw[e];exact VQ (h m g gd)
end
section
variable{prog:_E}{w:World}{A:_D}{E:_r}{s:_B}{κ:SortKind}{S:Keyed->Prop}{r:Keyed->Nat}{st:SortSt}
structure Mh(r:Keyed->Nat)(a b out:Array Keyed)(na nb:Nat):Prop where
 la:na<=a.size
 lb:nb<=b.size
 me:AB (SM r) (a.toList++b.toList) out.toList (cH a 0 na).reverse (cH b 0 nb).reverse
section
variable{a b out:Array Keyed}{na nb:Nat}(ua:Up r a 0 a.size)(ub:Up r b 0 b.size)
include ua ub
theorem Mh.NU(h:Mh r a b out na nb){k:Nat}(hk:k<=na)(l:0<nb->∀i,k<=i->i<na->K r b (nb-1)<=K r a i):Mh r a b (out++(a.extract k na).reverse) k nb:=by have la:=h.la;have lb:=h.lb;refine⟨by lia,h.lb,?_⟩;have m:=h.me;rw[cI (i:=0) (j:=k) (by lia) hk h.la,Xc]at m;rw[V4,WR,aJ];refine m.a fun x hx y hy=>?_;obtain⟨i,i1,i2,i3⟩:=bG (WL.mp hx);obtain⟨j,j1,j2,j3⟩:=bG (WL.mp hy);show r y<=r x;rw[<-fF (r:=r) i3,<-fF (r:=r) j3];exact VR (ub.le (V' _) (by lia) (by lia)) (l (by lia) i i1 i2)
theorem Mh.H_(h:Mh r a b out na nb){k:Nat}(hk:k<=nb)(l:0<na->∀i,k<=i->i<nb->K r a (na-1)<=K r b i):Mh r a b (out++(b.extract k nb).reverse) na k:=by have la:=h.la;have lb:=h.lb;refine⟨h.la,by lia,?_⟩;have m:=h.me;rw[cI (i:=0) (j:=k) (by lia) hk h.lb,Xc]at m;rw[V4,WR,aJ];refine m.b fun x hx y hy=>?_;obtain⟨i,i1,i2,i3⟩:=bG (WL.mp hx);obtain⟨j,j1,j2,j3⟩:=bG (WL.mp hy);show r y<=r x;rw[<-fF (r:=r) i3,<-fF (r:=r) j3];exact VR (ua.le (V' _) (by lia) (by lia)) (l (by lia) i i1 i2)
theorem Mh.a1(h:Mh r a b out na nb)(hn:0<na){x:Keyed}(e:a[na-1]?=some x)(l:0<nb->K r b (nb-1)<=r x):Mh r a b (out.push x) (na-1) nb:=by
 have q:=h.NU ua ub (k:=na-1) (by lia) fun z i i1 i2=>by rw[show i=na-1 by lia,fF e];exact l z
 have:(out++(a.extract (na-1) na).reverse)=out.push x:=by apply XD.mp;have e2:=kY e;rw[show na-1+1=na by lia]at e2;rw[V4,WR,aJ,e2,Xu,List.reverse_singleton]
 rwa [this]at q
theorem Mh.b1(h:Mh r a b out na nb)(hn:0<nb){x:Keyed}(e:b[nb-1]?=some x)(l:0<na->K r a (na-1)<=r x):Mh r a b (out.push x) na (nb-1):=by
 have q:=h.H_ ua ub (k:=nb-1) (by lia) fun z i i1 i2=>by rw[show i=nb-1 by lia,fF e];exact l z
 have:(out++(b.extract (nb-1) nb).reverse)=out.push x:=by apply XD.mp;have e2:=kY e;rw[show nb-1+1=nb by lia]at e2;rw[V4,WR,aJ,e2,Xu,List.reverse_singleton]
 rwa [this]at q
omit ua ub in
theorem Mh.done(h:Mh r a b out na nb)(l:na=0\/nb=0):Good r a b (a.extract 0 na++b.extract 0 nb++out.reverse):=by
 unfold Good;rw[V4,V4,WR,aJ,aJ];have f:=h.me.fin fun x hx y hy=>by obtain⟨i,i1,i2,i3⟩:=bG (WL.mp hx);obtain⟨j,j1,j2,j3⟩:=bG (WL.mp hy);lia
 have e:cH a 0 na++cH b 0 nb++out.toList.reverse=(out.toList++(cH a 0 na).reverse++(cH b 0 nb).reverse).reverse:=by
  rw[Xc,Xc,X_,X_,<-Vs];rcases l with z|z
  .rw[z,vg (Vq _),VS,VA]
  .rw[z,vg (Vq _),VS,VA]
 rw[e];exact⟨(W8 _).trans f.1,X4.mpr f.2⟩
omit ub in
theorem Mh.first(h:Mh r a b out na nb)(l:nb=1)(h0:K r b 0<=K r a 0):Good r a b (b.extract 0 nb++a.extract 0 na++out.reverse):=by
 have la:=h.la;unfold Good;rw[V4,V4,WR,aJ,aJ];have f:=h.me.fin fun x hx y hy=>by obtain⟨i,i1,i2,i3⟩:=bG (WL.mp hx);obtain⟨j,j1,j2,j3⟩:=bG (WL.mp hy);show r y<=r x;rw[<-fF (r:=r) i3,<-fF (r:=r) j3,show j=0 by lia];exact VR h0 (ua.le (Vq _) (V' _) (by lia))
 have e:cH b 0 nb++cH a 0 na++out.toList.reverse=(out.toList++(cH a 0 na).reverse++(cH b 0 nb).reverse).reverse:=by rw[Xc,Xc,X_,X_,<-Vs]
 rw[e];exact⟨(W8 _).trans f.1,X4.mpr f.2⟩
end
theorem C?(C:AF prog w A s κ S r){a b:Array Keyed}{Q:Array Keyed->SortSt->Prop}(hk:kindOf st=κ)(KW:∀x∈a,S x)(KY:∀x∈b,S x)(ua:Up r a 0 a.size)(ub:Up r b 0 b.size)(ha:1<=a.size)(hb:1<=b.size)(h0:K r b 0<=K r a 0)(hl:K r b (b.size-1)<=K r a (a.size-1))(h:∀m g,Good r a b m->Q m (Gs st g)):
  wpS (model prog w) A E s (vj a b) Q st:=by
 unfold vj;refine VI (Zm (Xh ⟨rfl,?_⟩));obtain⟨y0,e0,m0,k0⟩:=at_of (r:=r) (xs:=a) (i:=a.size-1) (by lia);refine VI (dS e0 ?_);dsimp only;have M0:Mh r a b #[] a.size b.size:=⟨Vq _,Vq _,by
  rw[eI,eI];exact⟨(W8 _).append (W8 _),List.Pairwise.nil,by rw[<-eI];exact ua.rev,by rw[<-eI];exact ub.rev,(by intro _ m;cases m),(by intro _ m;cases m)⟩⟩
 have M1:Mh r a b #[y0] (a.size-1) b.size:=M0.a1 ua ub (by lia) e0 fun _=>by rw[<-k0];exact hl
 refine cy (fun q=>VQ (h _ (gallopOf st) (M1.done (.inl q)))) fun q1=>?_;refine cy (fun q=>VQ (h _ (gallopOf st) (M1.first ua q h0))) fun q2=>?_;refine VI (Yo ?_);refine VI (WZ (Wn (I:=fun x z ax=>(∃g,ax=Gs st g)/\∃na nb out mg,z=(none,na,nb,out,mg)/\Mh r a b out na nb/\0<na/\1<nb/\x+na+nb<a.size+b.size)
  (Q:=fun z ax=>(∃g,ax=Gs st g)/\∃m y,z=(some m,y)/\Good r a b m) ?_ ?_ ⟨⟨gallopOf st,rfl⟩,_,_,_,_,rfl,M1,by lia,by lia,by lia⟩) ?_)
 .rintro x z ax _ hx ⟨⟨g,e⟩,na,nb,out,mg,rfl,m,l1,l2,l3⟩;dsimp only;refine VI (WZ (Wn (I:=fun x' z ax=>(∃g,ax=Gs st g)/\∃nH nI out c1 c2,z=(none,nH,nI,out,c1,c2)/\Mh r a b out nH nI/\0<nH/\1<nI/\nH+nI+x'<=na+nb)
   (Q:=fun z ax=>(∃g,ax=Gs st g)/\((∃m y,z=(some m,y)/\Good r a b m)\/∃nH nI out c1 c2,z=(none,nH,nI,out,c1,c2)/\Mh r a b out nH nI/\0<nH/\1<nI/\nH+nI+1<=na+nb)) ?_ ?_ ⟨⟨g,e⟩,na,nb,out,0,0,rfl,m,l1,l2,by lia⟩) ?_)
  .rintro x' z st2 _ NV ⟨⟨g,e⟩,nH,nI,out,c1,c2,rfl,m,l1,l2,l3⟩;dsimp only;have ma:=m.la;have mb:=m.lb;obtain⟨y,ey,my,ky⟩:=at_of (r:=r) (xs:=b) (i:=nI-1) (by lia);obtain⟨z,ez,mz,kz⟩:=at_of (r:=r) (xs:=a) (i:=nH-1) (by lia);have QW:kindOf st2=κ:=by rw[e];exact hk
   refine VI (dS ey (VI (dS ez (VI (NQ C QW (KY y my) (KW z mz) ?_)))));dsimp only;refine cC (fun q=>?_) fun q=>?_
   .have m2:=m.a1 ua ub l1 ez fun _=>by rw[ky];have:=We q;lia
    refine VI (dS ez ?_);refine cy (fun q=>VQ ⟨⟨g,e⟩,.inl ⟨_,_,rfl,m2.done (.inl q)⟩⟩) fun q3=>?_;exact cC (fun q=>VQ ⟨⟨g,e⟩,.inr ⟨_,_,_,_,_,rfl,m2,by lia,l2,by lia⟩⟩) fun q=>VQ ⟨⟨g,e⟩,_,_,_,_,_,rfl,m2,by lia,l2,by lia⟩
   .have m2:=m.b1 ua ub (by lia) ey fun _=>by rw[kz];have:=WU (by simpa using q:decide (r y<r z)=false);lia
    refine VI (dS ey ?_);refine cy (fun q=>VQ ⟨⟨g,e⟩,.inl ⟨_,_,rfl,m2.first ua q h0⟩⟩) fun q3=>?_;exact cC (fun q=>VQ ⟨⟨g,e⟩,.inr ⟨_,_,_,_,_,rfl,m2,l1,by lia,by lia⟩⟩) fun q=>VQ ⟨⟨g,e⟩,_,_,_,_,_,rfl,m2,l1,by lia,by lia⟩
  .rintro z st2 ⟨e,nH,nI,out,c1,c2,rfl,m,l1,l2,l3⟩;exact⟨e,.inr ⟨nH,nI,out,c1,c2,rfl,m,l1,l2,by lia⟩⟩
  .rintro z st2 ⟨e,⟨m,y,rfl,gd⟩|⟨SS,SU,out,c1,c2,rfl,m,l1,l2,l4⟩⟩
   .exact VQ ⟨e,_,_,rfl,gd⟩
   .dsimp only;refine VI (Zm (Xh ⟨rfl,?_⟩));refine VI (WZ (Wn (I:=fun x' z ax=>(∃g,ax=Gs st g)/\∃nH nI out mg c1 c2,z=(none,nH,nI,out,mg,c1,c2)/\Mh r a b out nH nI/\0<nH/\1<nI/\nH+nI+1<=na+nb)
     (Q:=fun z ax=>(∃g,ax=Gs st g)/\((∃m y,z=(some m,y)/\Good r a b m)\/∃nH nI out mg c1 c2,z=(none,nH,nI,out,mg,c1,c2)/\Mh r a b out nH nI/\0<nH/\1<nI/\nH+nI+1<=na+nb)) ?_ ?_ ⟨e,SS,SU,out,_,c1,c2,rfl,m,l1,l2,by lia⟩) ?_)
    .rintro x' z fP _ NV ⟨⟨g,e⟩,na,nb,out,mg,c1,c2,rfl,m,l1,l2,l3⟩;dsimp only;have ma:=m.la;have mb:=m.lb;obtain⟨y,ey,my,ky⟩:=at_of (r:=r) (xs:=b) (i:=nb-1) (by lia);have K0:∀(mg:Nat){Q:PUnit->SortSt->Prop},Q ⟨⟩ (Gs st mg)->wpS (model prog w) A E s (modify fun s:SortSt=>Gs s mg) Q fP:=by intro mg Q q;refine Xt ?_;rw[e];exact q
     refine cC (fun qg=>?_) fun qg=>?_
     all_goals
      refine VI (K0 _ ?_);refine VI (dS ey (VI (jG C hk KW (KY y my) (by lia) (by lia) (ua.sub (by lia) (by lia)) fun k k1 k2 k3=>?_)));dsimp only;simp only[Wb]at k2 k3;have mk:=m.NU ua ub k1 fun _ i i1 i2=>by have:=k3 i i1 i2;unfold qh at this;simp only[Wc,WO,YI,Wj]at this;lia
      have nx:0<k->K r a (k-1)<=r y:=fun z=>by have:=k2 (k-1) (by lia);unfold qh at this;simp only[Wc,WO,Xf,WC]at this;lia
      refine cC (fun qk=>cy (fun q=>VQ ⟨⟨_,rfl⟩,.inl ⟨_,_,rfl,mk.done (.inl q)⟩⟩) fun q2=>?_) fun qk=>?_;obtain⟨K2,eo⟩:∃z,z=out++(a.extract k na).reverse:=⟨_,rfl⟩
      rw[<-eo]at mk⊢
      rotate_left
      have k0:k=na:=by lia
      subst k0;obtain⟨K2,eo⟩:∃z,z=out:=⟨_,rfl⟩
      replace mk:=m;rw[<-eo]at mk⊢
      all_goals
       have kp:0<k:=by lia
       have m2:=mk.b1 ua ub (by lia) ey nx;refine VI (dS ey ?_);refine cy (fun q=>VQ ⟨⟨_,rfl⟩,.inl ⟨_,_,rfl,m2.first ua q h0⟩⟩) fun q3=>?_;obtain⟨x1,ex,mx,kx⟩:=at_of (r:=r) (xs:=a) (i:=k-1) (by lia);refine VI (dS ex (VI (jG C hk KY (KW x1 mx) (by lia) (by lia) (ub.sub (by lia) (by lia)) fun j j1 j2 j3=>?_)));dsimp only;simp only[Wb]at j2 j3;have mj:=m2.H_ ua ub j1 fun _ i i1 i2=>by have:=j3 i i1 i2;unfold qh at this;simp only[Xy,WC]at this;lia
       have nj:0<j->K r b (j-1)<=r x1:=fun z=>by have:=j2 (j-1) (by lia);unfold qh at this;simp only[Xy,Wj]at this;lia
       refine cC (fun qj=>cy (fun q=>VQ ⟨⟨_,rfl⟩,.inl ⟨_,_,rfl,mj.first ua q h0⟩⟩) fun q4=>cy (fun q=>VQ ⟨⟨_,rfl⟩,.inl ⟨_,_,rfl,mj.done (.inr q)⟩⟩) fun q5=>?_) fun qj=>?_
       rotate_left
       have j0:j=nb-1:=by lia
       subst j0;replace mj:=m2
       all_goals
        have m3:=mj.a1 ua ub kp ex nj;refine VI (dS ex ?_);refine cy (fun q=>VQ ⟨⟨_,rfl⟩,.inl ⟨_,_,rfl,m3.done (.inl q)⟩⟩) fun q5=>?_;exact cC (fun q=>VQ ⟨⟨_,rfl⟩,.inr ⟨_,_,_,_,_,_,rfl,m3,by lia,by lia,by lia⟩⟩) fun q=>VQ ⟨⟨_,rfl⟩,_,_,_,_,_,_,rfl,m3,by lia,by lia,by lia⟩
    .rintro z fP ⟨e,nH,nI,out,mg,c1,c2,rfl,m,l1,l2,l3⟩;exact⟨e,.inr ⟨nH,nI,out,mg,c1,c2,rfl,m,l1,l2,l3⟩⟩
    .rintro z fP ⟨⟨g,e⟩,⟨m,y,rfl,gd⟩|⟨SS,SU,out,mg,c1,c2,rfl,m,l1,l2,l4⟩⟩
     .exact VQ ⟨⟨g,e⟩,_,_,rfl,gd⟩
     .dsimp only;refine VI (Xt (VQ ⟨⟨mg+1,?_⟩,_,_,_,_,rfl,m,l1,l2,by lia⟩));rw[e]
 .rintro z ax ⟨e,na,nb,out,mg,rfl,m,l1,l2,l3⟩;lia
 .rintro z ax ⟨⟨g,e⟩,m,y,rfl,gd⟩;rw[e];exact VQ (h m g gd)
end
theorem si{α:Type}{X Y:Array α}{L M M' R:List α}(h1:X.toList=L++M++R)(h2:Y.toList=L++M'++R)(hl:M'.length=M.length):
  Y.size=X.size/\(∀j,j<L.length\/L.length+M.length<=j->Y[j]?=X[j]?)/\cH Y L.length (L.length+M.length)=M':=by
 refine⟨?_,fun j hj=>?_,?_⟩
 .rw[<-VB,<-VB,h1,h2];simp only[Vx,hl]
 .rw[<-WD,<-WD,h1,h2];rcases hj with hj|hj
  .rw[Vs,Vs,V3 hj,V3 hj]
  .rw[VJ (by rw[Vx];lia),VJ (by rw[Vx];lia),Vx,Vx,hl]
 .unfold cH;rw[h2,Vs,List.drop_left,Nat.add_sub_cancel_left,<-hl,List.take_left]
section
variable{prog:_E}{w:World}{A:_D}{E:_r}{s:_B}{κ:SortKind}{S:Keyed->Prop}{r:Keyed->Nat}{st:SortSt}
theorem GD{σ:Type}{M:Model}{st ax:σ}{Q:PUnit->σ->Prop}(h:Q ⟨⟩ ax):wpS M A E s (set ax:StateT σ Sem PUnit) Q st:=by unfold wpS;rw[StateT.run_set];exact Vv ⟨rfl,h⟩
theorem Dc(C:AF prog w A s κ S r){X:Array Keyed}{pend:Array (Nat×Nat×Nat)}{mg i sa na p nb q:Nat}{L1 L2:List (Nat×Nat×Nat)}{Q:Bool->SortSt->Prop}(hS:∀x∈X,S x)(hp:pend.toList=L1++(sa,na,p)::(sa+na,nb,q)::L2)(hi:i=L1.length)(h1:0<na)(h2:0<nb)(hz:sa+na+nb<=X.size)(u1:Up r X sa (sa+na))(u2:Up r X (sa+na) (sa+na+nb))(h:∀Y pd g,Y.toList.Perm X.toList->(∀j,j<sa\/sa+na+nb<=j->Y[j]?=X[j]?)->Up r Y sa (sa+na+nb)->pd.toList=L1++(sa,na+nb,p)::L2->Q true (SortSt.mk' κ Y pd g none)):
  wpS (model prog w) A E s (mergeAt' i) Q (SortSt.mk' κ X pend mg none):=by
 have p1:pend[i]?=some (sa,na,p):=by rw[<-WD,hp,hi,VJ (Vq _),Ws];rfl
 have p2:pend[i+1]?=some (sa+na,nb,q):=by rw[<-WD,hp,hi,VJ (by lia),show L1.length+1-L1.length=1 by lia];rfl
 obtain⟨pd,SV⟩:∃pd,pd=(pend.setIfInBounds i (sa,na+nb,p)).eraseIdxIfInBounds (i+1):=⟨_,rfl⟩
 have QY:pd.toList=L1++(sa,na+nb,p)::L2:=by rw[SV,Array.toList_eraseIdxIfInBounds,Z6,hp,hi,WJ _ _ (Vq _),Ws,V1,List.eraseIdx_append_of_length_le (by lia),show L1.length+1-L1.length=1 by lia];rfl
 unfold mergeAt';refine VI (Yo ?_);dsimp only;rw[p1,p2];dsimp only;refine VI (GD ?_);rw[<-SV];obtain⟨y,ey,my,ky⟩:=at_of (r:=r) (xs:=X) (i:=sa+na) (by lia);refine VI (dS ey ?_);refine VI (jG C rfl hS (hS y my) (by lia) h1 u1 fun k k1 k2 k3=>?_);dsimp only;have lo:∀i,sa<=i->i<sa+k->K r X i<=K r X (sa+na):=fun i i1 i2=>by have:=k2 (i-sa) (by lia);rw[show sa+(i-sa)=i by lia]at this;unfold qh at this;simp only[Wc,WO,Xf,WC]at this;lia
 refine cy (fun z=>VQ (h X pd mg (Xd _) (fun _ _=>rfl) (fun i j a1 a2 a3=>?_) QY)) fun z=>?_
 .rcases V! j (sa+na)with c|c
  .exact u1 i j a1 a2 c
  .rcases V! i (sa+na)with d|d
   .exact VR (lo i a1 (by lia)) (u2.le (Vq _) c a3)
   .exact u2 i j d a2 a3
 obtain⟨x,ex,mx,kx⟩:=at_of (r:=r) (xs:=X) (i:=sa+na-1) (by lia);have em:sa+k+(na-k)-1=sa+na-1:=by lia
 rw[em];refine VI (dS ex ?_);refine VI (jG C rfl hS (hS x mx) (by lia) (by lia) u2 fun m m1 m2 m3=>?_);dsimp only;have up:∀i,sa+na+m<=i->i<sa+na+nb->K r X (sa+na-1)<=K r X i:=fun i i1 i2=>by have:=m3 (i-(sa+na)) (by lia) (by lia);rw[show sa+na+(i-(sa+na))=i by lia]at this;unfold qh at this;simp only[Xy,WC]at this;lia
 refine cy (fun z=>VQ (h X pd mg (Xd _) (fun _ _=>rfl) (fun i j a1 a2 a3=>?_) QY)) fun z2=>?_
 .rcases V! j (sa+na)with c|c
  .exact u1 i j a1 a2 c
  .rcases V! i (sa+na)with d|d
   .exact VR (u1.le a1 (by lia) (by lia)) (up j (by lia) a3)
   .exact u2 i j d a2 a3
 obtain⟨a,ea⟩:∃a,a=X.extract (sa+k) (sa+na):=⟨_,rfl⟩
 obtain⟨b,eb⟩:∃b,b=X.extract (sa+na) (sa+na+m):=⟨_,rfl⟩
 rw[<-ea,<-eb];have za:a.size=na-k:=by rw[ea,Array.size_extract];lia
 have zb:b.size=m:=by rw[eb,Array.size_extract];lia
 have Ka:∀i,i<a.size->K r a i=K r X (sa+k+i):=fun i hi=>by unfold K;rw[ea,ZN (by lia),Xj X _ (by lia)]
 have Kb:∀i,i<b.size->K r b i=K r X (sa+na+i):=fun i hi=>by unfold K;rw[eb,ZN (by lia),Xj X _ (by lia)]
 have ua:Up r a 0 a.size:=fun i j _ a2 a3=>by rw[Ka i (by lia),Ka j a3];exact u1 _ _ (by lia) (by lia) (by lia)
 have ub:Up r b 0 b.size:=fun i j _ a2 a3=>by rw[Kb i (by lia),Kb j a3];exact u2 _ _ (by lia) (by lia) (by lia)
 have SW:∀x∈a,S x:=fun x hx=>by rw[ea,<-VZ,aJ]at hx;obtain⟨j,_,_,j3⟩:=bG hx;exact hS x (Array.mem_of_getElem? j3)
 have SX:∀x∈b,S x:=fun x hx=>by rw[eb,<-VZ,aJ]at hx;obtain⟨j,_,_,j3⟩:=bG hx;exact hS x (Array.mem_of_getElem? j3)
 have h0:K r b 0<=K r a 0:=by rw[Ka 0 (by lia),Kb 0 (by lia)];have:=k3 k (Vq _) (by lia);unfold qh at this;simp only[Wc,WO,YI,Wj]at this;rw[YM,YM];lia
 have hl:K r b (b.size-1)<=K r a (a.size-1):=by rw[Ka _ (by lia),Kb _ (by lia)];have:=m2 (b.size-1) (by lia);unfold qh at this;simp only[Xy,Wj]at this;rw[show sa+k+(a.size-1)=sa+na-1 by lia];lia
 have fin:∀(AG:Array Keyed)(g:Nat),Good r a b AG->Q true (SortSt.mk' κ (AG.toList.zipIdx.foldl (fun a(q:Keyed×Nat)=>a.setIfInBounds (sa+k+q.2) q.1) X) pd g none):=by
  intro AG g gd;obtain⟨g1,g2⟩:=gd;have ll:AG.toList.length=na-k+m:=by have:=g1.length_eq;rw[Vx,VB (xs:=a),VB (xs:=b)]at this;lia
  obtain⟨Y,eY⟩:∃Y,Y=AG.toList.zipIdx.foldl (fun a(q:Keyed×Nat)=>a.setIfInBounds (sa+k+q.2) q.1) X:=⟨_,rfl⟩
  rw[<-eY];have yl:=C9 (m:=AG.toList) (sa:=sa+k) (xs:=X) (by lia);rw[<-eY,AD,AE,ll,show sa+k+(na-k+m)=sa+na+m by lia]at yl;rw[cI (i:=0) (j:=sa) (k:=sa+k) (by lia) (by lia) (by lia),cI (i:=sa+na+m) (j:=sa+na+nb) (k:=X.size) (by lia) (by lia) (by lia)]at yl;have xl:X.toList=cH X 0 sa++cH X sa (sa+na+nb)++cH X (sa+na+nb) X.size:=by rw[<-cI (by lia) (by lia) (by lia),<-cI (by lia) (by lia) (by lia),eI]
  have xm:cH X sa (sa+na+nb)=cH X sa (sa+k)++(a.toList++b.toList)++cH X (sa+na+m) (sa+na+nb):=by rw[ea,eb,aJ,aJ,<-cI (by lia) (by lia) (by lia),<-cI (by lia) (by lia) (by lia),<-cI (by lia) (by lia) (by lia)]
  have SY:Y.toList=cH X 0 sa++(cH X sa (sa+k)++AG.toList++cH X (sa+na+m) (sa+na+nb))++cH X (sa+na+nb) X.size:=by rw[yl];simp only[Vs]
  have pm:(cH X sa (sa+k)++AG.toList++cH X (sa+na+m) (sa+na+nb)).Perm (cH X sa (sa+na+nb)):=by rw[xm];exact(YN _ g1).append_right _
  obtain⟨r1,r2,r3⟩:=si xl SY pm.length_eq;rw[jd (by lia),jd (by lia),ZC,show sa+(sa+na+nb-sa)=sa+na+nb by lia]at r2 r3;refine h Y pd g ?_ r2 (KS ?_ (by lia)) QY
  .rw[xl,SY];exact(YN _ pm).append_right _
  .rw[r3];unfold EL;have mem:∀x∈AG.toList,∃j,sa+k<=j/\j<sa+na+m/\X[j]?=some x:=fun x hx=>by have:=g1.mem_iff.mp hx;rw[ea,eb,aJ,aJ,<-cI (by lia) (by lia) (by lia)]at this;exact bG this
   rw[Vs];refine W9.mpr ⟨(u1.sub (Vq _) (by lia)).iP,W9.mpr ⟨g2,(u2.sub (by lia) (Vq _)).iP,fun x hx y hy=>?_⟩,fun x hx y hy=>?_⟩
   .obtain⟨i,i1,i2,i3⟩:=mem x hx;obtain⟨j,j1,j2,j3⟩:=bG hy;show r x<=r y;rw[<-fF (r:=r) i3,<-fF (r:=r) j3];rcases V! i (sa+na)with d|d
    .exact VR (u1.le (by lia) (by lia) (by lia)) (up j j1 j2)
    .exact u2.le d (by lia) j2
   .obtain⟨i,i1,i2,i3⟩:=bG hx;have:∃j,sa+k<=j/\j<sa+na+nb/\X[j]?=some y:=by
     rcases Wt.mp hy with hy|hy
     .obtain⟨j,j1,j2,j3⟩:=mem y hy;exact⟨j,j1,by lia,j3⟩
     .obtain⟨j,j1,j2,j3⟩:=bG hy;exact⟨j,by lia,by lia,j3⟩
    obtain⟨j,j1,j2,j3⟩:=this;show r x<=r y;rw[<-fF (r:=r) i3,<-fF (r:=r) j3];rcases V! j (sa+na)with d|d
    .exact u1.le i1 (by lia) d
    .exact VR (lo i i1 i2) (u2.le (Vq _) d j2)
 refine cC (fun _=>?_) fun _=>?_
 .exact VI (C! C rfl SW SX ua ub (by lia) (by lia) h0 hl fun AG g gd=>VI (Xt (VI (Yo (VQ (fin AG g gd))))))
 .exact VI (C? C rfl SW SX ua ub (by lia) (by lia) h0 hl fun AG g gd=>VI (Xt (VI (Yo (VQ (fin AG g gd))))))
end
def Di(r:Keyed->Nat)(xs:Array Keyed):Prop:=(xs.toList.map r).Nodup
section
variable{r:Keyed->Nat}{X Y:Array Keyed}
theorem Di.to(h:Di r X)(p:Y.toList.Perm X.toList):Di r Y:=(p.map r).nodup_iff.mpr h
theorem Di.ne(h:Di r X){i j:Nat}(hi:i<X.size)(hj:j<X.size)(e:i≠j):K r X i≠K r X j:=by
 rw[fF (Xj X i hi),fF (Xj X j hj)];intro z;have li:i<(X.toList.map r).length:=by rw[Vn,VB];exact hi
 have lj:j<(X.toList.map r).length:=by rw[Vn,VB];exact hj
 refine e ((ZH (h₀:=li) (h₁:=lj) h).mp ?_);rw[Z3,Z3,X!,X!];exact z
theorem H!{i j k:Nat}(hj:j<=X.size):K r (mirror X i j ((j-i) / 2)) k=if i<=k/\k<j then K r X (i+j-1-k)else K r X k:=by unfold K;rw[getElem?_mirror_all hj];split<;>rfl
theorem H?{src d k:Nat}(hs:src<X.size)(hd:d<=src):K r (bubble X src d) k=if k=src-d then K r X src else if src-d<k/\k<=src then K r X (k-1)else K r X k:=by
 unfold K;rw[getElem?_bubble hs d hd];split
 .rfl
 .split<;>rfl
theorem Up.more{lo n:Nat}(h1:1<=n)(h:Up r X lo (lo+n))(l:K r X (lo+n-1)<=K r X (lo+n)):Up r X lo (lo+(n+1)):=fun i j a b c=>by
 rcases V! j (lo+n)with q|q
 .exact h i j a b q
 .rw[show j=lo+n by lia];exact VR (h.le a (show i<=lo+n-1 by lia) (by lia)) l
theorem Dn.more{lo n:Nat}(h1:1<=n)(h:Dn r X lo (lo+n))(l:K r X (lo+n)<=K r X (lo+n-1)):Dn r X lo (lo+(n+1)):=fun i j a b c=>by
 rcases V! j (lo+n)with q|q
 .exact h i j a b q
 .rw[show j=lo+n by lia];rcases V! i (lo+n-1)with z|z
  .exact VR l (h i (lo+n-1) a z (by lia))
  .rw[show i=lo+n-1 by lia];exact l
theorem Up.one{lo:Nat}:Up r X lo (lo+1):=fun i j a b c=>by lia
end
section
variable{prog:_E}{w:World}{A:_D}{E:_r}{s:_B}{κ:SortKind}{S:Keyed->Prop}{r:Keyed->Nat}{pend:Array (Nat×Nat×Nat)}{mg:Nat}{X:Array Keyed}
theorem AH(C:AF prog w A s κ S r){i j:Nat}{Q:Option Bool->SortSt->Prop}(hS:∀x∈X,S x)(hi:i<X.size)(hj:j<X.size)(h:Q (some (decide (K r X i<K r X j))) (SortSt.mk' κ X pend mg none)):
  wpS (model prog w) A E s (ltAt' i j) Q (SortSt.mk' κ X pend mg none):=by
 obtain⟨x,ex,mx,kx⟩:=at_of (r:=r) hi;obtain⟨y,ey,my,ky⟩:=at_of (r:=r) hj;rw[kx,ky]at h;exact NR C rfl ex ey (hS x mx) (hS y my) h
theorem K3(C:AF prog w A s κ S r){lo je:Nat}{Q:Option Nat->SortSt->Prop}(h1:1<=je)(hz:lo+je<=X.size)(hS:∀x∈X,S x)(hd:Di r X)(h:∀n Y,1<=n->n<=je->Y.toList.Perm X.toList->(∀j,j<lo->Y[j]?=X[j]?)->Up r Y lo (lo+n)->Q (some n) (SortSt.mk' κ Y pend mg none)):
  wpS (model prog w) A E s (countRun' lo je) Q (SortSt.mk' κ X pend mg none):=by
 unfold countRun';refine VI (WZ (Wn (I:=fun x z ax=>ax=SortSt.mk' κ X pend mg none/\z=(none,x)/\Up r X lo (lo+x))
  (Q:=fun z ax=>ax=SortSt.mk' κ X pend mg none/\∃n,z=(none,n)/\1<=n/\n<=je/\Up r X lo (lo+n)/\(n<je->K r X (lo+n)<K r X (lo+n-1))) ?_ ?_ ⟨rfl,rfl,Up.one⟩) ?_)
 .rintro x z ax x1 hx ⟨e,rfl,u⟩;rw[e];refine VI (AH C hS (by lia) (by lia) ?_);dsimp only;refine cC (fun q=>VQ ⟨rfl,x,rfl,x1,by lia,u,fun _=>We q⟩) fun q=>VQ ⟨rfl,rfl,u.more x1 ?_⟩;have:=WU (by simpa using q:decide (K r X (lo+x)<K r X (lo+x-1))=false);lia
 .rintro z ax ⟨e,rfl,u⟩;rw[show max 1 je=je by lia]at u⊢;exact⟨e,je,rfl,h1,Vq _,u,fun q=>absurd q (V5 _)⟩
 .rintro z ax ⟨e,n,rfl,n1,n2,u,f⟩;rw[e];dsimp only;refine cy (fun q=>VQ (h n X n1 n2 (Xd _) (fun _ _=>rfl) u)) fun q=>?_;have f':=f (by lia);refine cC (fun g=>?_) fun g=>?_
  .refine VI (AH C hS (by lia) (by lia) ?_);dsimp only;have ne:=hd.ne (i:=lo) (j:=lo+n-1) (by lia) (by lia) (by lia);have le:=u.le (Vq _) (show lo<=lo+n-1 by lia) (by lia);rw[Vo (VF (by lia))];exact VQ (h n X n1 n2 (Xd _) (fun _ _=>rfl) u)
  .have:n=1:=by lia
   subst this;refine VI (Zm (Xh ⟨rfl,?_⟩));refine VI (WZ (Wn (I:=fun x z ax=>ax=SortSt.mk' κ X pend mg none/\z=(none,x,0)/\Dn r X lo (lo+x))
    (Q:=fun z ax=>ax=SortSt.mk' κ X pend mg none/\∃n,z=(none,n,0)/\2<=n/\n<=je/\Dn r X lo (lo+n)) ?_ ?_ ⟨rfl,rfl,?_⟩) ?_)
   .rintro x z ax x1 hx ⟨e,rfl,u⟩;rw[e];dsimp only;refine VI (AH C hS (by lia) (by lia) ?_);dsimp only;refine cC (fun q=>?_) fun q=>?_
    .rw[Vu (V5 _)];have:=We q;exact VQ ⟨rfl,rfl,u.more (by lia) (by lia)⟩
    .refine VI (AH C hS (by lia) (by lia) ?_);dsimp only;have ne:=hd.ne (i:=lo+x) (j:=lo+x-1) (by lia) (by lia) (by lia);have:=WU (by simpa using q:decide (K r X (lo+x)<K r X (lo+x-1))=false);rw[Vo (VF (by lia))];exact VQ ⟨rfl,x,rfl,by lia,by lia,u⟩
   .rintro z ax ⟨e,rfl,u⟩;rw[show max (1+1) je=je by lia]at u⊢;exact⟨e,je,rfl,by lia,Vq _,u⟩
   .intro i j a b c;rw[show i=lo+1-1 by lia,show j=lo+1 by lia];lia
   .rintro z ax ⟨e,n,rfl,n1,n2,dn⟩;rw[e];dsimp only;rw[Vu (V5 _)];obtain⟨Y,eY⟩:∃Y,Y=mirror X lo (lo+n) ((lo+n-lo) / 2):=⟨_,rfl⟩
    have zY:Y.size=X.size:=by rw[eY];exact mirror_size _ _ _ _
    have pY:Y.toList.Perm X.toList:=by rw[eY];exact Yg.mp (mirror_perm _ _ _ _)
    have sY:∀x∈Y,S x:=fun x hx=>hS x (VZ.mp (pY.mem_iff.mp (VZ.mpr hx)));have bY:∀j,j<lo->Y[j]?=X[j]?:=fun j hj=>by rw[eY,getElem?_mirror_all (by lia),Vu (by lia)]
    have uY:Up r Y lo (lo+n):=fun i j a b c=>by rw[eY,H! (by lia),H! (by lia),Vo (by lia),Vo (by lia)];exact dn _ _ (by lia) (by lia) (by lia)
    refine VI (Xt ?_);show wpS _ _ _ _ _ _ (SortSt.mk' κ (mirror X lo (lo+n) ((lo+n-lo) / 2)) pend mg none);rw[<-eY];refine VI (WZ (Wn (I:=fun x z ax=>ax=SortSt.mk' κ Y pend mg none/\z=(none,x)/\Up r Y lo (lo+x))
     (Q:=fun z ax=>ax=SortSt.mk' κ Y pend mg none/\∃n,z=(none,n)/\1<=n/\n<=je/\Up r Y lo (lo+n)) ?_ ?_ ⟨rfl,rfl,uY⟩) ?_)
    .rintro x z ax x1 hx ⟨e,rfl,u⟩;rw[e];refine VI (AH C sY (by lia) (by lia) ?_);dsimp only;refine cC (fun q=>VQ ⟨rfl,x,rfl,by lia,by lia,u⟩) fun q=>VQ ⟨rfl,rfl,u.more (by lia) ?_⟩;have:=WU (by simpa using q:decide (K r Y (lo+x)<K r Y (lo+x-1))=false);lia
    .rintro z ax ⟨e,rfl,u⟩;rw[show max n je=je by lia]at u⊢;exact⟨e,je,rfl,h1,Vq _,u⟩
    .rintro z ax ⟨e,n,rfl,n1,n2,u⟩;rw[e];exact VQ (h n Y n1 n2 pY bY u)
theorem QZ(C:AF prog w A s κ S r){lo n ok:Nat}{Q:Bool->SortSt->Prop}(h1:1<=ok)(hz:lo+n<=X.size)(hS:∀x∈X,S x)(u:Up r X lo (lo+ok))(h:∀Y,Y.toList.Perm X.toList->(∀j,j<lo->Y[j]?=X[j]?)->Up r Y lo (lo+n)->Q true (SortSt.mk' κ Y pend mg none)):
  wpS (model prog w) A E s (binarySort' lo n ok) Q (SortSt.mk' κ X pend mg none):=by
 unfold binarySort';refine VI (WZ (Wn (I:=fun k z ax=>z=(none,())/\∃Y,ax=SortSt.mk' κ Y pend mg none/\Y.toList.Perm X.toList/\(∀j,j<lo->Y[j]?=X[j]?)/\Up r Y lo (lo+k))
  (Q:=fun z ax=>z=(none,())/\∃Y,ax=SortSt.mk' κ Y pend mg none/\Y.toList.Perm X.toList/\(∀j,j<lo->Y[j]?=X[j]?)/\Up r Y lo (lo+n)) ?_ ?_ ⟨rfl,X,rfl,Xd _,fun _ _=>rfl,by rw[show max ok 1=ok by lia];exact u⟩) ?_)
 .rintro k z ax k1 hk ⟨rfl,Y,e,pY,bY,uY⟩;rw[e];have zY:Y.size=X.size:=by rw[<-VB,pY.length_eq,VB]
  have sY:∀x∈Y,S x:=fun x hx=>hS x (VZ.mp (pY.mem_iff.mp (VZ.mpr hx)));refine VI (WZ (Wn (I:=fun x z ax=>ax=SortSt.mk' κ Y pend mg none/\∃l m,z=(none,l,m)/\l<=m/\m<=k/\m-l+x<=k/\(∀i,i<l->K r Y (lo+i)<=K r Y (lo+k))/\∀i,m<=i->i<k->K r Y (lo+k)<=K r Y (lo+i))
   (Q:=fun z ax=>ax=SortSt.mk' κ Y pend mg none/\∃l,z=(none,l,l)/\l<=k/\(∀i,i<l->K r Y (lo+i)<=K r Y (lo+k))/\∀i,l<=i->i<k->K r Y (lo+k)<=K r Y (lo+i)) ?_ ?_ ⟨rfl,0,k,rfl,V' _,Vq _,by lia,fun i q=>absurd q (_p _),fun i q1 q2=>absurd q1 (by lia)⟩) ?_)
  .rintro x z ax _ hx ⟨e,l,m,rfl,g1,g2,g3,g4,g5⟩;rw[e];dsimp only;refine cC (fun q=>?_) fun q=>?_
   .have:l=m:=by lia
    subst this;exact VQ ⟨rfl,l,rfl,g2,g4,g5⟩
   .refine VI (AH C sY (by lia) (by lia) ?_);dsimp only;refine cC (fun q=>?_) fun q=>?_
    .have:=We q;exact VQ ⟨rfl,l,(l+m) / 2,rfl,by lia,by lia,by lia,g4,fun i i1 i2=>VR (X1 this) (uY.le (by lia) (by lia) (by lia))⟩
    .have:=WU (by simpa using q:decide (K r Y (lo+k)<K r Y (lo+(l+m) / 2))=false);exact VQ ⟨rfl,(l+m) / 2+1,m,rfl,by lia,by lia,by lia,fun i i1=>VR (uY.le (by lia) (show lo+i<=lo+(l+m) / 2 by lia) (by lia)) (by lia),g5⟩
  .rintro z ax ⟨e,l,m,rfl,g1,g2,g3,g4,g5⟩;have:l=m:=by lia
   subst this;exact⟨e,l,rfl,g2,g4,g5⟩
  .rintro z ax ⟨e,l,rfl,g2,g4,g5⟩;rw[e];dsimp only;refine VI (Xt (VQ ⟨rfl,bubble Y (lo+k) (lo+k-(lo+l)),rfl,?_,fun j hj=>?_,?_⟩))
   .exact(Yg.mp (bubble_perm _ _ _)).trans pY
   .rw[getElem?_bubble (by lia) _ (by lia),Vu (by lia),Vu (by lia)];exact bY j hj
   .intro i j a b c;rw[H? (by lia) (by lia),H? (by lia) (by lia),show lo+k-(lo+k-(lo+l))=lo+l by lia];by_cases c1:i=lo+l
    .rw[Vo c1,Vu (by lia),Vo (by lia)];have:=g5 (j-1-lo) (by lia) (by lia);rwa [show lo+(j-1-lo)=j-1 by lia]at this
    .rw[Vu c1];by_cases c2:j=lo+l
     .rw[Vo c2,Vu (by lia)];have:=g4 (i-lo) (by lia);rwa [show lo+(i-lo)=i by lia]at this
     .rw[Vu c2];by_cases c3:lo+l<i
      .rw[Vo (by lia),Vo (by lia)];exact uY.le (by lia) (by lia) (by lia)
      .rw[Vu (by lia)];by_cases c4:lo+l<j
       .rw[Vo (by lia)];exact uY.le a (by lia) (by lia)
       .rw[Vu (by lia)];exact uY.le a (by lia) (by lia)
 .rintro z ax ⟨rfl,Y,e,pY,bY,uY⟩;exact⟨rfl,Y,e,pY,bY,uY.sub (Vq _) (by lia)⟩
 .rintro z ax ⟨rfl,Y,e,pY,bY,uY⟩;rw[e];exact VQ (h Y pY bY uY)
end
section
variable{r:Keyed->Nat}{X Y:Array Keyed}
def Runs(r:Keyed->Nat)(X:Array Keyed):List (Nat×Nat×Nat)->Nat->Nat->Prop
 |[],lo,hi=>lo=hi
 |q::t,lo,hi=>q.1=lo/\0<q.2.1/\Up r X lo (lo+q.2.1)/\Runs r X t (lo+q.2.1) hi
theorem hR:∀{L1 L2:List (Nat×Nat×Nat)}{lo hi:Nat},Runs r X (L1++L2) lo hi↔∃m,Runs r X L1 lo m/\Runs r X L2 m hi
 |[],L2,lo,hi=>⟨fun h=>⟨lo,rfl,h⟩,fun⟨m,e,h⟩=>by cases e;exact h⟩
 |q::L1,L2,lo,hi=>by
  constructor
  .rintro⟨a,b,c,d⟩;obtain⟨m,h1,h2⟩:=hR.mp d;exact⟨m,⟨a,b,c,h1⟩,h2⟩
  .rintro⟨m,⟨a,b,c,d⟩,h2⟩;exact⟨a,b,c,hR.mpr ⟨m,d,h2⟩⟩
theorem Runs.len:∀{L:List (Nat×Nat×Nat)}{lo hi:Nat},Runs r X L lo hi->lo+L.length<=hi
 |[],lo,hi,h=>by cases h;exact Vq _
 |q::L,lo,hi,⟨a,b,c,d⟩=>by have:=d.len;rw[Vl];lia
theorem Runs.to:∀{L:List (Nat×Nat×Nat)}{lo hi:Nat},Runs r X L lo hi->(∀j,lo<=j->j<hi->Y[j]?=X[j]?)->Runs r Y L lo hi
 |[],lo,hi,h,_=>h
 |q::L,lo,hi,⟨a,b,c,d⟩,e=>by have l:=d.len;refine⟨a,b,fun i j h1 h2 h3=>?_,d.to fun j h1 h2=>e j (by lia) h2⟩;unfold K;rw[e i h1 (by lia),e j (by lia) (by lia)];exact c i j h1 h2 h3
theorem Up.to{lo hi:Nat}(h:Up r X lo hi)(e:∀j,lo<=j->Y[j]?=X[j]?):Up r Y lo hi:=fun i j a b c=>by unfold K;rw[e i a,e j (by lia)];exact h i j a b c
theorem Runs.pw:∀{L L':List (Nat×Nat×Nat)}{lo hi:Nat},Runs r X L lo hi->L'.map (fun q=>(q.1,q.2.1))=L.map (fun q=>(q.1,q.2.1))->Runs r X L' lo hi
 |[],[],lo,hi,h,_=>h
 |[],_::_,_,_,_,e=>by cases e
 |_::_,[],_,_,_,e=>by cases e
 |q::L,q'::L',lo,hi,⟨a,b,c,d⟩,e=>by injection e with e1 e2;injection e1 with e3 e4;exact⟨e3.trans a,by rw[e4];exact b,by rw[e4];exact c,by rw[e4];exact d.pw e2⟩
theorem xj{L:Array (Nat×Nat×Nat)}{i v:Nat}:(L.modify i fun q=>(q.1,q.2.1,v)).toList.map (fun q=>(q.1,q.2.1))=L.toList.map (fun q=>(q.1,q.2.1)):=by
 apply WT;intro j;rw[VU,VU,WD,WD,Array.getElem?_modify];split
 .rw[Option.map_map];rfl
 .rfl
theorem K4{α:Type}{l:List α}{i:Nat}(h:i+1<l.length):∃L1 a b L2,l=L1++a::b::L2/\i=L1.length:=by refine⟨l.take i,l[i],l[i+1],l.drop (i+2),?_,by rw[Wm];lia⟩;have e1:l.drop i=l[i]::l.drop (i+1):=WA (by lia);have e2:l.drop (i+1)=l[i+1]::l.drop (i+2):=WA h;rw[<-e2,<-e1,List.take_append_drop]
end
section
variable{prog:_E}{w:World}{A:_D}{E:_r}{s:_B}{κ:SortKind}{S:Keyed->Prop}{r:Keyed->Nat}{pend:Array (Nat×Nat×Nat)}{mg:Nat}{X:Array Keyed}
theorem yK(C:AF prog w A s κ S r){i hi:Nat}{Q:Bool->SortSt->Prop}(hS:∀x∈X,S x)(R:Runs r X pend.toList 0 hi)(hz:hi<=X.size)(O0:i+1<pend.size)(h:∀Y pd g,Y.toList.Perm X.toList->(∀j,hi<=j->Y[j]?=X[j]?)->pd.size+1=pend.size->Runs r Y pd.toList 0 hi->Q true (SortSt.mk' κ Y pd g none)):
  wpS (model prog w) A E s (mergeAt' i) Q (SortSt.mk' κ X pend mg none):=by
 obtain⟨L1,⟨sa,na,p⟩,⟨sb,nb,q⟩,L2,e,ei⟩:=K4 (l:=pend.toList) (i:=i) (by rw[VB];exact O0);rw[e]at R;obtain⟨m,R1,a1,a2,a3,b1,b2,b3,R2⟩:=hR.mp R;dsimp only at a1 a2 a3 b1 b2 b3 R2;subst a1;subst b1;have l1:=R1.len;have l2:=R2.len;refine Dc C hS e ei a2 b2 (by lia) a3 b3 fun Y pd g y1 y2 y3 y4=>h Y pd g y1 (fun j hj=>y2 j (.inr (by lia))) ?_ ?_
 .rw[<-VB,<-VB,e,y4];simp only[Vx,Vl];lia
 .rw[y4];exact hR.mpr ⟨sa,R1.to fun j h1 h2=>y2 j (.inl h2),rfl,by show 0<na+nb;lia,by show Up r Y sa (sa+(na+nb));rw[<-Zp];exact y3,by
   show Runs r Y L2 (sa+(na+nb)) hi;rw[<-Zp];exact R2.to fun j h1 h2=>y2 j (.inr h1)⟩
theorem NW(C:AF prog w A s κ S r){Q:Unit->SortSt->Prop}(hS:∀x∈X,S x)(hd:Di r X)(h2:2<=X.size)(h:∀Y pd g,Y.toList.Perm X.toList->Up r Y 0 X.size->Q () (SortSt.mk' κ Y pd g none)):
  wpS (model prog w) A E s sortRuns' Q (SortSt.mk' κ X #[] mg none):=by
 unfold sortRuns';refine VI (Yo ?_);dsimp only;refine VI (WZ (Wn (I:=fun x z ax=>∃lo Y pd g,z=(none,lo)/\ax=SortSt.mk' κ Y pd g none/\Y.toList.Perm X.toList/\Runs r Y pd.toList 0 lo/\x<=lo/\lo<=X.size)
  (Q:=fun z ax=>∃Y pd g,z=(none,X.size)/\ax=SortSt.mk' κ Y pd g none/\Y.toList.Perm X.toList/\Runs r Y pd.toList 0 X.size) ?_ ?_ ⟨0,X,#[],mg,rfl,rfl,Xd _,rfl,Vq _,V' _⟩) ?_)
 .rintro x z ax _ hx ⟨lo,Y,pd,g,rfl,e,pY,R,l1,l2⟩;rw[e];dsimp only;have zY:Y.size=X.size:=by rw[<-VB,pY.length_eq,VB]
  have sY:∀x∈Y,S x:=fun x hx=>hS x (VZ.mp (pY.mem_iff.mp (VZ.mpr hx)));refine cC (fun q=>?_) fun q=>?_
  .have:lo=X.size:=by lia
   subst this;exact VQ ⟨Y,pd,g,rfl,rfl,pY,R⟩
  refine VI (K3 C (by lia) (by lia) sY (hd.to pY) fun n Y1 n1 n2 p1 b1 u1=>?_);dsimp only;have O4:∀x∈Y1,S x:=fun x hx=>sY x (VZ.mp (p1.mem_iff.mp (VZ.mpr hx)));have Uh:Y1.size=X.size:=by rw[<-VB,p1.length_eq,VB,zY]
  have R1:Runs r Y1 pd.toList 0 lo:=R.to fun j _ h=>b1 j h;replace p1:=p1.trans pY;refine cC (fun c=>VI (Zm (Xh ⟨rfl,VI (QZ C n1 (by lia) O4 u1 fun Y2 p2 b2 u2=>?_)⟩))) fun c=>?_;have Ui:∀x∈Y2,S x:=fun x hx=>O4 x (VZ.mp (p2.mem_iff.mp (VZ.mpr hx)));replace p2:=p2.trans p1;have R2:Runs r Y2 pd.toList 0 lo:=R1.to fun j _ h=>b2 j h;simp only[Ya,Wc,WO];have m0:0<min (X.size-lo) (minRun' X.size X.size 0)/\lo+min (X.size-lo) (minRun' X.size X.size 0)<=X.size:=by replace c:n<minRun' X.size X.size 0:=c;lia
  rotate_left
  obtain⟨Y2,e2⟩:∃Y2,Y2=Y1:=⟨_,rfl⟩
  rw[<-e2]at R1 u1 p1 O4 Uh⊢;have R2:=R1;have u2:=u1;have p2:=p1;have Ui:=O4;have m0:0<n/\lo+n<=X.size:=by lia
  all_goals
   refine VI (Yo ?_);dsimp only;cases hb:pd.back? with
   |none=>
    refine VI (Xt (VQ ⟨_,Y2,_,_,rfl,rfl,p2,?_,?_,m0.2⟩))
    .show Runs r Y2 (Array.push _ _).toList 0 _;rw[Xu];exact hR.mpr ⟨lo,R2,rfl,m0.1,u2,rfl⟩
    .exact VR (YT l1) (ZO m0.1 lo)
   |some q=>
    obtain⟨s1,n1,v⟩:=q;dsimp only;refine VI (WZ (Wn (I:=fun _ z ax=>z=(none,())/\∃Y pd g,ax=SortSt.mk' κ Y pd g none/\Y.toList.Perm X.toList/\(∀j,lo<=j->Y[j]?=Y2[j]?)/\Runs r Y pd.toList 0 lo)
     (Q:=fun z ax=>z=(none,())/\∃Y pd g,ax=SortSt.mk' κ Y pd g none/\Y.toList.Perm X.toList/\(∀j,lo<=j->Y[j]?=Y2[j]?)/\Runs r Y pd.toList 0 lo) ?_ ?_ ⟨rfl,Y2,pd,g,rfl,p2,fun _ _=>rfl,R2⟩) ?_)
    .rintro x z ax _ _ ⟨rfl,Y,pd,g,e,pY,bY,R⟩;rw[e];have zY:Y.size=X.size:=by rw[<-VB,pY.length_eq,VB]
     refine VI (Yo ?_);dsimp only;by_cases c2:pd.size>1
     .rw[Vo c2];obtain⟨q,eq⟩:∃q,pd[pd.size-2]?=some q:=⟨_,Xj pd _ (by lia)⟩
      rw[eq];obtain⟨a1,a2,a3⟩:=q;dsimp only;refine cC (fun _=>VQ ⟨rfl,Y,pd,g,rfl,pY,bY,R⟩) fun _=>?_;refine VI (yK C (fun x hx=>hS x (VZ.mp (pY.mem_iff.mp (VZ.mpr hx)))) R (by lia) (by lia) fun Y3 Q0 g3 y1 y2 y3 y4=>?_);exact VQ ⟨rfl,Y3,Q0,g3,rfl,y1.trans pY,fun j hj=>(y2 j hj).trans (bY j hj),y4⟩
     .rw[Vu c2];exact VQ ⟨rfl,Y,pd,g,rfl,pY,bY,R⟩
    .exact fun _ _ h=>h
    .rintro z ax ⟨rfl,Y,pd,g,e,pY,bY,R⟩;rw[e];dsimp only;refine VI (Xt (VI (Xt (VQ ⟨_,Y,_,_,rfl,rfl,pY,?_,?_,m0.2⟩))))
     .show Runs r Y (Array.push _ _).toList 0 _;rw[Xu];exact hR.mpr ⟨lo,R.pw xj,rfl,m0.1,u2.to bY,rfl⟩
     .exact VR (YT l1) (ZO m0.1 lo)
 .rintro z ax ⟨lo,Y,pd,g,rfl,e,pY,R,l1,l2⟩;have:lo=X.size:=by lia
  subst this;exact⟨Y,pd,g,rfl,e,pY,R⟩
 .rintro z ax ⟨Y,pd,g,rfl,e,pY,R⟩;rw[e];dsimp only;refine VI (WZ (Wn (I:=fun x z ax=>z=(none,())/\∃Y pd g,ax=SortSt.mk' κ Y pd g none/\Y.toList.Perm X.toList/\Runs r Y pd.toList 0 X.size/\(pd.size<=1\/pd.size+x<=X.size))
   (Q:=fun z ax=>z=(none,())/\∃Y pd g,ax=SortSt.mk' κ Y pd g none/\Y.toList.Perm X.toList/\Runs r Y pd.toList 0 X.size/\pd.size<=1) ?_ ?_ ⟨rfl,Y,pd,g,rfl,pY,R,.inr (by have:=R.len;rw[VB]at this;lia)⟩) ?_)
  .rintro x z ax _ hx ⟨rfl,Y,pd,g,e,pY,R,l⟩;rw[e];have zY:Y.size=X.size:=by rw[<-VB,pY.length_eq,VB]
   refine VI (Yo ?_);dsimp only;refine cC (fun c=>VQ ⟨rfl,Y,pd,g,rfl,pY,R,c⟩) fun c=>?_;refine VI (yK C (fun x hx=>hS x (VZ.mp (pY.mem_iff.mp (VZ.mpr hx)))) R (by lia) ?_ fun Y3 Q0 g3 y1 y2 y3 y4=>?_)
   .have Uj:∀{c:Prop}[Decidable c]{a b n:Nat},a+1<n->b+1<n->(if c then a else b)+1<n:=by intro c _ a b n h1 h2;split<;>assumption
    exact Uj (by lia) (by lia)
   .exact VQ ⟨rfl,Y3,Q0,g3,rfl,y1.trans pY,y4,by lia⟩
  .rintro z ax ⟨rfl,Y,pd,g,e,pY,R,l⟩;exact⟨rfl,Y,pd,g,e,pY,R,by lia⟩
  .rintro z ax ⟨rfl,Y,pd,g,e,pY,R,l⟩;rw[e];refine VQ (h Y pd g pY ?_);obtain⟨q,eq⟩:∃q,pd.toList=[q]:=by
    match z:pd.toList with
    |[]=>
     rw[z]at R;replace R:0=X.size:=R;lia
    |[q]=>exact⟨q,rfl⟩
    |_::_::_=>rw[<-VB,z]at l;simp at l
   rw[eq]at R;obtain⟨_,_,u,e2⟩:=R;replace e2:0+q.2.1=X.size:=e2;rw[e2]at u;exact u
end
end TS
namespace SO
open PySem.W PyProof.Rows
def e_(xs:List (_v)):Prop:=xs.Pairwise fun a b=>lexLt b a=true
section
variable{vs:_w}{xs:List (_v)}
theorem yL{α β:Type}:∀{vs:List α}{xs:List β},vs.length=xs.length->vs.reverse.zip xs.reverse=(vs.zip xs).reverse
 |[],[],_=>rfl
 |v::vs,x::xs,h=>by have h':vs.length=xs.length:=Nat.succ.inj h;rw[XW,XW,List.zip_cons_cons,XW,List.zip_append (by rw[Za,Za,h']),yL h'];rfl
def S0:_A->Int
 |.int n _=>n
 |_=>0
def dB(h:Heap):_A->_v
 |.ref a=>match h.get? a with
  |some o=>match o.data with
   |.seq aD _=>aD.toList.map S0
   |_=>[]
  |none=>[]
 |_=>[]
theorem K5{us:_w}{ns:_v}(h:IntsAre us ns):us.map S0=ns:=by
 induction h with
 |nil=>rfl
 |cons n t _ ih=>rw[Vp,ih];rfl
theorem pC{h:Heap}{v:_A}{k:_v}(t:jU h v k):dB h v=k:=by obtain⟨_,a,o,aD,n,rfl,ho,_,hd,hi⟩:=t;unfold dB;dsimp only;rw[ho];dsimp only;rw[hd];exact K5 hi
theorem GF{h:Heap}{vs:_w}{xs:List (_v)}(t:cB h vs xs):vs.map (dB h)=xs:=by
 induction t with
 |nil=>rfl
 |cons a _ ih=>rw[Vp,ih,pC a]
def rk(xs:List (_v))(k:_v):Nat:=xs.countP fun z=>lexLt z k
theorem q!{α:Type}{p q:α->Bool}:∀{l:List α}{x:α},x∈l->(∀z,p z=true->q z=true)->q x=true->p x=false->l.countP p<l.countP q
 |y::l,x,m,h,hq,hp=>by
  have le:l.countP p<=l.countP q:=List.countP_mono_left fun z _=>h z;rcases VG.mp m with e|m
  .subst e;rw[YB (by rw[hp];exact VC),XR hq];lia
  .have ih:=q! m h hq hp;by_cases c:p y=true
   .rw[XR c,XR (h y c)];lia
   .rw[YB c];by_cases d:q y=true
    .rw[XR d];lia
    .rw[YB d];exact ih
theorem yM{xs:List (_v)}{a b:_v}(ha:a∈xs)(h:lexLt a b=true):rk xs a<rk xs b:=
 q! ha (fun z hz=>pB hz h) h (jF a)
theorem Ia{xs:List (_v)}{a b:_v}(ha:a∈xs)(hb:b∈xs):decide (rk xs a<rk xs b)=lexLt a b:=by
 cases z:lexLt a b with
 |true=>exact VF (yM ha z)
 |false=>
  refine VM ?_;by_cases e:a=b
  .rw[e];exact V5 _
  .have:=yM hb (hJ e z);lia
theorem Dd{xs:List (_v)}(nd:xs.Nodup):(xs.map (rk xs)).Nodup:=by
 refine Xx.mpr (_k (fun{a b}ha hb ne=>?_) nd);intro e;cases z:lexLt a b with
 |true=>have:=yM ha z;lia
 |false=>have:=yM hb (hJ ne z);lia
end
section
variable{prog:_E}{w:World}{A:_D}{E:_r}{s:_B}{vs:_w}{xs:List (_v)}
theorem De{a:_C}{n:Nat}{P:PySem.Fin->_B->Prop}(ho:s.heap.get? a=some (seqObj "list" vs.toArray n))(t:cB s.heap vs xs)(nd:xs.Nodup)(hz:vs.length<=sizeLine)(h:∀zs:List (_A×List Int),zs.Perm (vs.zip xs)->e_ (zs.map (·.2))->P (.done (.ret .none)) {s with heap:=sortedHeap s.heap a vs (zs.map (·.1)).toArray}):
  wpAny (model prog w) A (Builtin.«list.sort» ⟨[.ref a],[(Str.ofString "reverse",.bool true)]⟩) P E s:=by
 rw[list_sort_rev];have ha:a<s.heap.objs.size:=Vy ho;have small:vs.toArray.size<=sizeLine:=by rw[VD];exact hz
 obtain⟨h1,e1⟩:∃h1,h1=s.heap.update a (Obj.mapSeq fun _=>(#[]:Array _A)):=⟨_,rfl⟩
 obtain⟨c1,S1⟩:∃c,h1.get? a=some (seqObj "list" #[] c):=⟨_,by rw[e1];exact _o ho fun _ => #[]⟩
 obtain⟨h6,e6⟩:∃h6,h6=(h1.push (seqObj "tuple" vs.toArray 0)).push (seqObj "list" #[] 0):=⟨_,rfl⟩
 have O5:h6.get? a=some (seqObj "list" #[] c1):=by rw[e6];exact Vm _ (Vm _ S1)
 have t6:cB h6 vs xs:=t.to fun b o hb hc=>by
  rw[e6,e1];refine Vm _ (Vm _ ?_);have ne:a≠b:=fun z=>by rw[<-z,ho]at hb;cases hb;exact absurd (Value.type.inj hc) (by decide)
  exact(Wh _ _ ne).trans hb
 refine Vk (listItems_at ho rfl (Vk (listUpdate_at ho rfl ?_ small (V' _))));rw[<-e1];refine Vk (seqEpoch_at S1 rfl (Vk (wpAny_newTuple ?_ (by show vs.length<=_;exact hz))));refine Vk (ZR ?_ (V' _));refine WH ?_;show wpAny (model prog w) A _ P E {s with heap:=(h1.push (seqObj "tuple" vs.toArray 0)).push (seqObj "list" #[] 0)};rw[<-e6];have ends:∀zs:List (_A×List Int),zs.Perm (vs.zip xs)->e_ (zs.map (·.2))->P (.done (.ret .none)) {s with heap:=h6.update a (Obj.mapSeq fun _=>(zs.map (·.1)).toArray)}:=by intro zs z1 z2;have:=h zs z1 z2;unfold sortedHeap at this;rw[<-e1,<-e6]at this;exact this
 dsimp only;rw[Vo rfl];refine Vk (Xh ?_);by_cases h2:vs.toArray.size<2
 .rw[Vo h2,Vo h2];refine Vk (Vv ?_);rw[StateT.run_pure];refine Vk (Vv ?_);dsimp only;have Uk:(vs.zip xs).length<2:=by rw[Y8,<-t.length,Nat.min_self];rw[VD]at h2;exact h2
  have out:(((vs.toArray.zip vs.toArray).reverse.map (·.2)).reverse)=((vs.zip xs).map (·.1)).toArray:=by rw[Array.map_reverse,Array.reverse_reverse];apply XD.mp;rw[Array.toList_map,Array.toList_zip];show List.map _ (vs.zip vs)=List.map _ (vs.zip xs);rw[List.map_snd_zip (Vq _),List.map_fst_zip (ZD t.length)]
  refine Vk (seqEpoch_at O5 rfl (Vk (listUpdate_at O5 rfl ?_ (V' _) ?_)))
  .show wpAny _ _ _ _ _ {s with heap:=h6.update a (Obj.mapSeq fun _=>(((vs.toArray.zip vs.toArray).reverse.map (·.2)).reverse))};rw[out];simp only[bne_self_eq_false,Wc,WO];refine Vv (ends _ (Xd _) ?_);unfold e_
   match(vs.zip xs),Uk with
   |[],_=>exact .nil
   |[_],_=>exact Yx _ _
  .show(((vs.toArray.zip vs.toArray).reverse.map (·.2)).reverse).size<=_;rw[out,VD,Vn];lia
 .rw[Vu h2,Vu h2];have l2:2<=vs.length:=by rw[VD]at h2;lia
  obtain⟨rs,er⟩:∃rs,rs=vs.reverse:=⟨_,rfl⟩
  obtain⟨ks,ek⟩:∃ks,ks=xs.reverse:=⟨_,rfl⟩
  have Q1:cB h6 rs ks:=by rw[er,ek];exact t6.rev
  have lr:rs.length=vs.length:=by rw[er,Za]
  have lk:rs.length=ks.length:=Q1.length;have Ul:ks.Nodup:=by rw[ek];exact(W8 xs).nodup_iff.mpr nd
  refine Vk (GC t6 (by lia) ?_);have pr:(vs.toArray.zip vs.toArray).reverse=rs.toArray.zip rs.toArray:=by have:=kat_pairs true (ks:=vs) (vs:=vs) rfl;rw[Vo rfl]at this;rw[this,er];rfl
  rw[pr];obtain⟨X,eX⟩:∃X,X=rs.toArray.zip rs.toArray:=⟨_,rfl⟩
  rw[<-eX];have xl:X.toList=rs.map fun v=>(v,v):=by rw[eX,Array.toList_zip];show rs.zip rs=_;rw[List.zip_eq_zipWith,List.zipWith_self]
  have kk:rs.map (dB h6)=ks:=GF Q1;have sX:∀x∈X,∃k,jU h6 x.1 k/\k∈ks:=fun x hx=>by rw[<-VZ,xl]at hx;obtain⟨v,hv,rfl⟩:=VY.mp hx;obtain⟨i,hi⟩:=List.getElem?_of_mem hv;have li:i<rs.length:=(VW.mp hi).1;have:=Q1.at_ i li;rw[W2,hi,W2,VE (by lia)]at this;exact⟨_,this,XC _⟩
  have C:TS.AF prog w A {s with heap:=h6} (tuples' true) (fun x=>∃k,jU h6 x.1 k/\k∈ks) fun x=>rk ks (dB h6 x.1):=by rintro x y Q ⟨k,tk,mk⟩ ⟨l,tl,ml⟩ q;replace q:Q (decide (rk ks (dB h6 x.1)<rk ks (dB h6 y.1))) {s with heap:=h6}:=q;rw[pC tk,pC tl,Ia mk ml]at q;exact NP tk tl q
  have dX:TS.Di (fun x=>rk ks (dB h6 x.1)) X:=by
   unfold TS.Di;rw[xl,V6];have:rs.map ((fun x:Keyed=>rk ks (dB h6 x.1)) ∘ fun v=>(v,v))=ks.map (rk ks):=by rw[<-kk,V6];rfl
   rw[this];exact Dd Ul
  have zX:X.size=rs.length:=by rw[<-VB,xl,Vn]
  rw[Vo (rfl:true=true)];refine Vk (V8 (TS.NW (Q:=fun _ ax=>∃Y pd g,ax=SortSt.mk' (tuples' true) Y pd g none/\Y.toList.Perm X.toList/\TS.Up (fun x=>rk ks (dB h6 x.1)) Y 0 X.size) C sX dX (by lia) fun Y pd g y1 y2=>⟨Y,pd,g,rfl,y1,y2⟩) ?_ fun _ _ e=>e);rintro⟨⟨⟩,ax⟩ s' ⟨rfl,Y,pd,g,rfl,y1,y2⟩;dsimp only at y1 y2⊢;have zY:Y.size=X.size:=by rw[<-VB,y1.length_eq,VB]
  obtain⟨zs,ez⟩:∃zs:List (_A×List Int),zs=(Y.toList.map fun x=>(x.2,dB h6 x.1)).reverse:=⟨_,rfl⟩
  have zp:zs.Perm (vs.zip xs):=by
   rw[ez];refine(W8 _).trans ((y1.map _).trans ?_);rw[xl,V6];have:rs.map ((fun x:Keyed=>(x.2,dB h6 x.1)) ∘ fun v=>(v,v))=rs.zip ks:=by rw[<-kk,List.zip_map_right,List.zip_eq_zipWith,List.zipWith_self,V6];rfl
   rw[this,er,ek,yL t.length];exact W8 _
  have zf:e_ (zs.map (·.2)):=by unfold e_;rw[ez,List.map_reverse,X4,V6,Xx];have u:=y2.iP;rw[<-zY,TS.eI]at u;have d:=Xx.mp (dX.to y1);refine _k (fun{a b}ha hb q=>?_) (List.Pairwise.and u d);obtain⟨k,tk,mk⟩:=sX a (VZ.mp (y1.mem_iff.mp ha));obtain⟨l,tl,ml⟩:=sX b (VZ.mp (y1.mem_iff.mp hb));have q1:rk ks (dB h6 a.1)<=rk ks (dB h6 b.1):=q.1;have q2:rk ks (dB h6 a.1)≠rk ks (dB h6 b.1):=q.2;show lexLt (dB h6 a.1) (dB h6 b.1)=true;rw[pC tk,pC tl]at q1 q2⊢;rw[<-Ia mk ml];exact VF (by lia)
  have out:(Y.map (·.2)).reverse=(zs.map (·.1)).toArray:=by apply XD.mp;rw[WR,Array.toList_map,ez,List.map_reverse,V6];rfl
  have lz:zs.length<=sizeLine:=by have:=zp.length_eq;rw[Y8,<-t.length,Nat.min_self]at this;lia
  refine Vk (seqEpoch_at O5 rfl (Vk (listUpdate_at O5 rfl ?_ (V' _) ?_)))
  .rw[Vo rfl,out];simp only[bne_self_eq_false,Wc,WO];exact Vv (ends zs zp zf)
  .rw[Vo rfl,out,VD,Vn];exact Z! lz
theorem xk{d:_C}{es:Array DictEntry}{ep:Nat}{Q:_r}(hh:A.handled=none)(lo:(d==sysModules)=false)(x:ke s.heap d es ep)(t:cB s.heap (es.toList.map (·.key)) xs)(nd:xs.Nodup)(hz:es.size<=sizeLine)
  (h:∀ (h':Heap) (tk:Nat) (l:_C) (c:Nat) (zs:List (_A × List Int)),(∀ b o,s.heap.get? b=some o->h'.get? b=some o)->s.heap.objs.size<=l->zs.Perm ((es.toList.map (·.key)).zip xs)->e_ (zs.map (·.2)) ->
   h'.get? l=some (seqObj "list" (zs.map (·.1)).toArray c)->Q (.ref l) {s with heap:=h',toks:=tk}):
  wpAny (model prog w) A (call (.builtin "sorted") [.ref d] [(Str.ofString "reverse",.bool true)]) Q E s:=by
 refine call_function_entry_kw kind_sorted plain_sorted entry_sorted (args_sorted_rev _ _) ?_;unfold Builtin.«sorted»;refine Vk (m:=checkCount "sorted" 1 1 _) (Vv ?_);have hn:es.size<=sizeLine:=hz;obtain⟨vs,ev⟩:∃vs,vs=es.toList.map (·.key):=⟨_,rfl⟩
 have lv:vs.length=es.size:=by rw[ev,Vn,VB]
 refine Vk (vf hh lo x hn fun h1 tk k0 k1=>?_);rw[<-ev]at t h⊢;refine Vk (ZR ?_ (by show vs.length<=_;lia));have gl:(h1.push (seqObj "list" vs.toArray 0)).get? h1.objs.size=some (seqObj "list" vs.toArray 0):=VN _ rfl;show wpAny _ _ _ _ _ {s with heap:=h1.push (seqObj "list" vs.toArray 0),toks:=tk};refine Vk (WH (wpAny_call_entry_kw slot_list_sort ⟨_,gl,rfl⟩ entry_list_sort (De gl (t.to fun b o e _=>Vm _ (k1 b o e)) nd (by lia) fun zs z1 z2=>⟨_,rfl,?_⟩) (args_list_sort_rev _ _)));obtain⟨c,gc⟩:∃c,(sortedHeap (h1.push (seqObj "list" vs.toArray 0)) h1.objs.size vs (zs.map (·.1)).toArray).get? h1.objs.size=some (seqObj "list" (zs.map (·.1)).toArray c):=
  ⟨_,by unfold sortedHeap;exact _o (Vm _ (Vm _ (_o gl fun _ => #[]))) fun _=>(zs.map (·.1)).toArray⟩
 refine Vv ⟨_,rfl,h _ tk h1.objs.size c zs (fun b o e=>?_) ?_ z1 z2 gc⟩
 .have e1:=k1 b o e;have ne:h1.objs.size≠b:=Xq (Vy e1);unfold sortedHeap;refine(Wh _ _ ne).trans (Vm _ (Vm _ ((Wh _ _ ne).trans (Vm _ e1))))
 .exact X1 k0
end
end SO
namespace L2
open PySem.Spec PyProof.Rows
def Df(X:Cx)(f:_A)(ks:_z)(r:List V->List V->Hp->VK->Prop):Prop:=
 ∀(af:_t)(s:_B)(σ:St)(H:Hp)(xs zs:List V)(us ws:_w)(Q:VK),aH X af σ H s->bg xs us->bg zs ws->r xs zs H Q ->
  wpAny (model X.prog X.w) X.A (call f us (ks.zip ws)) (EP X af σ Q) X.xe s
def Um(r:List V->List V->Hp->VK->Prop)(t tk:TA):TE:=fun σ H Q=>t σ H fun vs H1=>tk σ H1 fun zs H2=>r vs zs H2 Q
section
variable{X:Cx}{id:String}{ks:_z}{r:List V->List V->Hp->VK->Prop}{x:Str}{p pos:Pos}{e:Expr}{es:List Expr}{BL:List Keyword}{t tk:TA}
theorem AI(hc:Df X (.builtin id) ks r)(hg:Gl X x)(hm:X.mg x=none)(hv:bootBuiltins x=some (.builtin id))(ha:PA X (e::es) t)(Uo:PK X BL tk)(NX:(backToKw pos (keywordEach BL X.env)).filterMap (·.1)=ks:=by rfl)(hn:x ≠ "__name__":=by decide)(oJ:(x==("__debug__":Str))=false:=by decide)(he:backTo pos (starEach (e::es) X.env)=(false,eval e X.env)::backTo pos (starEach es X.env):=by rfl)(kD:(backTo pos (starEach (e::es) X.env)).any (·.1)=false:=by rfl)(Jr:(backToKw pos (keywordEach BL X.env)).all (·.1.isSome)=true:=by rfl)(Qb:(backToKw pos (keywordEach BL X.env)).any (·.1.isNone)=false:=by rfl):PE X (.Call (.Name x p) (e::es) BL pos) (Um r t tk):=by intro af s σ H Q I h;refine XI (iX I hg hm hv ?_ hn oJ);refine callWith_kw (cf (ha pos af s σ H _ I h) fun us s1 q1=>?_) he kD Jr Qb;obtain⟨vs,H1,I1,r1,q1⟩:=q1;refine cf (Uo pos af s1 σ H1 _ I1 q1) fun ws s2 q2=>?_;obtain⟨zs,H2,I2,r2,q2⟩:=q2;rw[NX];exact hc af s2 σ H2 vs zs us ws Q I2 r1 r2 q2
end
def iK(k:_v):List dE:=k.map Sum.inl
theorem Q2(k:_v):(iK k).map kV=k.map V.int:=by unfold iK;rw[V6];rfl
theorem Dg{a b:_v}(h:iK a=iK b):a=b:=by
 induction a generalizing b with
 |nil=>cases b with
  |nil=>rfl
  |cons=>cases h
 |cons x a ih=>cases b with
  |nil=>cases h
  |cons y b=>
   injection h with h1 h2;injection h1 with h1;rw[h1,ih h2]
def K6(H:Hp)(v:V)(k:_v):Prop:=∃a,v=.ref a/\H a=some (.tup (k.map V.int))
def Dh:List V->List V->Hp->VK->Prop:=fun xs zs H Q=>∃(d:_C)(aI:List (List dE×V))(ks:List (_v)),xs=[.ref d]/\zs=[.bl true]/\H d=some (.dT aI)/\aI.map (·.1)=ks.map iK/\ks.length<=sizeLine/\(∀k∈ks,k≠[]) /\
 ∀(l:_C)(vs:List V)(outs:List (_v)),H l=none->outs.Perm ks->SO.e_ outs->Paired (K6 H) vs outs->Q (.ref l) (upd H l (.lst vs))
theorem Dj{xs:_v}{us:_w}(h:bg (xs.map V.int) us):IntsAre us xs:=by
 induction xs generalizing us with
 |nil=>cases h;exact .nil
 |cons x xs ih=>
  cases h with
  |cons a b=>
   obtain⟨t,rfl⟩:=a;exact .cons x t (ih b)
section
variable{X:Cx}
theorem vk(hc:X.calm=true):Df X (.builtin "sorted") ["reverse"] Dh:=by
 intro af s σ H xs zs us ws Q I rx rz h;obtain⟨d,aI,ks,rfl,rfl,hd,hk,Vi,KP,q⟩:=h;obtain⟨u,rfl,r1⟩:=vals1 rx;obtain⟨z,rfl,r2⟩:=vals1 rz;cases r1;cases r2;obtain⟨_,lo,xs,pr,o,es,ep,h1,h2,h3,h4,h5⟩:=(show cA X.prog X.w H s.heap d (.dT aI)from I.b_ d _ hd)
 -- zF S2 values and IS Uq hold
 have key:∀{aI:List (List dE×V)}{xs:List (List dE×_C×_A)}{ks:List (_v)},KT H aI xs->aI.map (·.1)=ks.map iK->(∀k∈ks,k≠[]) ->
   SO.cB s.heap (xs.map fun x=>Value.ref x.2.1) ks/\xs.map (·.1)=ks.map iK/\∀z∈(xs.map fun x=>Value.ref x.2.1).zip ks,∃a,z.1=.ref a/\H a=some (.tup (z.2.map V.int)):=by
  intro aI xs ks pr
  induction pr generalizing ks with
  |nil=>
   intro e _;cases ks with
   |nil=>exact⟨.nil,rfl,fun z m=>by cases m⟩
   |cons=>cases e
  | @cons p x ps ys a _ ih=>
   intro e ne;cases ks with
   |nil=>cases e
   |cons k ks=>
    injection e with e1 e2;replace e1:p.1=iK k:=e1;obtain⟨i1,i2,i3⟩:=ih e2 fun k m=>ne k (Vr _ m);have ht:H x.2.1=some (.tup (k.map V.int)):=by rw[<-Q2,<-e1];exact a.2.1
    obtain⟨_,aD,rv,o,g1,g2,n,g3⟩:=(show cA X.prog X.w H s.heap x.2.1 (.tup (k.map V.int))from I.b_ _ _ ht)
    refine⟨.cons ⟨ne k Vt,x.2.1,o,aD.toArray,n,rfl,g1,g2,g3,Dj rv⟩ i1,?_,fun z m=>?_⟩
    .rw[Vp,Vp,i2,<-a.1,e1]
    .rcases VG.mp m with m|m
     .rw[m];exact⟨_,rfl,ht⟩
     .exact i3 z m
 obtain⟨t,ek,hz⟩:=key pr hk KP;have nd:ks.Nodup:=by rw[ek]at h5;exact List.Pairwise.of_map iK (fun a b z e=>z (by rw[e])) h5
 have ev:es.toList.map (·.key)=xs.map fun x=>Value.ref x.2.1:=by rw[h4,V6];rfl
 have lv:es.size=ks.length:=by have:=W' List.length h4;rw[VB,Vn]at this;have l2:=t.length;rw[Vn]at l2;lia
 have x:SO.ke s.heap d es ep:=⟨o,h1,h2.1,h3⟩
 refine SO.xk (I.ok.hd hc) lo x (by rw[ev];exact t) nd (by lia) fun h' tk l c zs kp hl z1 z2 g=>?_;rw[ev]at z1;have all:∀z∈zs,∃a,z.1=.ref a/\H a=some (.tup (z.2.map V.int)):=fun z m=>hz z (z1.mem_iff.mp m);have mk:∀{zs:List (_A×List Int)},(∀z∈zs,∃a,z.1=.ref a/\H a=some (.tup (z.2.map V.int)))->∃vs,bg vs (zs.map (·.1))/\Paired (K6 H) vs (zs.map (·.2)):=by
  intro zs
  induction zs with
  |nil=>intro _;exact⟨[],.nil,.nil⟩
  |cons z zs ih=>
   intro al;obtain⟨vs,v1,v2⟩:=ih fun y m=>al y (Vr _ m);obtain⟨a,e1,e2⟩:=al z Vt;exact⟨.ref a::vs,.cons e1 v1,.cons ⟨a,rfl,e2⟩ v2⟩
 obtain⟨vs,v1,v2⟩:=mk all;have op:(zs.map (·.2)).Perm ks:=by have:=z1.map (·.2);rwa [List.map_snd_zip (ZD t.length.symm)]at this
 have lz:vs.length<=sizeLine:=by have e1:=v1.length;have e2:=op.length_eq;rw[Vn]at e1 e2;lia
 exact⟨.ref l,_,I.laid (t':=tk) kp hl (show cA X.prog X.w _ h' _ (.lst vs) from⟨lz,_,c,v1,g⟩),rfl,q l vs _ (I.b_.fresh hl) op z2 v2⟩
end
end L2
namespace SO
open PySem.W PyProof.Rows
section
variable{prog:_E}{w:World}{A:_D}{E:_r}{s:_B}
end
section
variable{prog:_E}{w:World}{A:_D}{E:_r}{I l S:_C}{us:_w}{ns:_v}{d:_A}{R:Result->_B->Prop}
end
end SO
namespace MN
open PySem.Spec L2
open PyProof.Rows hiding St kindOf
def vm:List dE->Option (_v)
 |[]=>some []
 |.inl i::r=>(vm r).map (i :: ·)
 |.inr _::_=>none
def nh:List (List dE)->Option (List (_v))
 |[]=>some []
 |k::r=>match vm k,nh r with
  |some a,some b=>some (a::b)
  |_,_=>none
theorem GG:∀{k:List dE}{a:_v},vm k=some a->k=iK a:=by
 intro k
 induction k with
 |nil=>intro a h;cases h;rfl
 |cons x r ih=>
  intro a h;cases x with
  |inl i=>
   replace h:(vm r).map (i :: ·)=some a:=h;cases z:vm r with
   |none=>rw[z]at h;cases h
   |some b=>
    rw[z]at h;cases h;rw[ih z];rfl
  |inr x=>cases h
theorem Dk:∀{l:List (List dE)}{ks:List (_v)},nh l=some ks->l=ks.map iK:=by
 intro l
 induction l with
 |nil=>intro ks h;cases h;rfl
 |cons k r ih=>
  intro ks h;unfold nh at h;cases z1:vm k with
  |none=>rw[z1]at h;cases h
  |some a=>
   cases z2:nh r with
   |none=>rw[z1,z2]at h;cases h
   |some b=>
    rw[z1,z2]at h;cases h;rw[GG z1,ih z2];rfl
theorem GH(a:_v):vm (iK a)=some a:=by
 induction a with
 |nil=>rfl
 |cons x a ih=>show(vm (iK a)).map (x :: ·)=_;rw[ih];rfl
theorem Dl(ks:List (_v)):nh (ks.map iK)=some ks:=by
 induction ks with
 |nil=>rfl
 |cons k ks ih=>rw[Vp];unfold nh;rw[GH,ih]
def LS(a b:_v):Bool:=!(SO.lexLt a b)
def iP(ks:List (_v)):List (_v):=ks.mergeSort LS
theorem fq(ks:List (_v)):(iP ks).Perm ks:=List.mergeSort_perm ks LS
theorem mr{ks:List (_v)}(nd:ks.Nodup):SO.e_ (iP ks):=by
 have h1:(iP ks).Pairwise fun a b=>LS a b=true:=by
  refine List.pairwise_mergeSort (fun a b c h1 h2=>?_) (fun a b=>?_) ks
  .unfold LS at h1 h2⊢;rw[Xf]at h1 h2⊢;by_cases e1:a=b
   .rw[e1];exact h2
   .by_cases e2:b=c
    .rw[<-e2];exact h1
    .exact SO.kf (SO.pB (SO.hJ e2 h2) (SO.hJ e1 h1))
  .unfold LS;cases z:SO.lexLt a b with
   |false=>rfl
   |true=>rw[SO.kf z];rfl
 have h2:(iP ks).Nodup:=(fq ks).nodup_iff.mpr nd;refine List.Pairwise.imp (fun{a b}h=>?_) (h1.and h2);have z:SO.lexLt a b=false:=by have:=h.1;unfold LS at this;rwa [Xf]at this
 exact SO.hJ h.2 z
theorem dU{ks:List (_v)}(h:SO.e_ ks):ks.Nodup:=List.Pairwise.imp (fun{a b}h e=>by rw[e,SO.jF]at h;cases h) h
theorem vn{a b:List (_v)}(p:a.Perm b)(fa:SO.e_ a)(fb:SO.e_ b):a=b:=
 List.Perm.eq_of_pairwise (fun x y _ _ h1 h2=>by rw[SO.kf h1]at h2;cases h2) fa fb p
def aR(k:_v):av:=.tup (k.map .int)
def Dm(d:av)(st:aj):cX av:=match d with
 |.loc n=>match st[n]? with
  |some (.dT aI)=>match nh (aI.map (·.1)) with
   |some ks=>if ks.length<=sizeLine/\ks.all (fun k => !k.isEmpty)=true then .ok (.loc st.length) (st++[.lst ((iP ks).map aR)])else .bad
   |none=>.bad
  |_=>.bad
 |_=>.bad
def jf(m:ME):ME:=fun μ st=>(m μ st).bind Dm
theorem yN{n:Nat}{st:aj}{aI:List (List dE×av)}{ks:List (_v)}(h1:st[n]?=some (.dT aI))(h2:aI.map (·.1)=ks.map iK)(h3:ks.length<=sizeLine)(h4:∀k∈ks,k≠[]):
  Dm (.loc n) st=.ok (.loc st.length) (st++[.lst ((iP ks).map aR)]):=by
 unfold Dm;dsimp only;rw[h1];dsimp only;rw[h2,Dl];dsimp only;rw[Vo ⟨h3,Wv.mpr fun k m=>by
  cases k with
  |nil=>exact absurd rfl (h4 _ m)
  |cons=>rfl⟩]
theorem Dp{K:_u}{ρ:_y}{H:Hp}{vs:List V}{ks:List (_v)}(p:Paired (K6 H) vs ks):a_ K ρ H (ks.map aR) vs:=by
 induction p with
 |nil=>exact a_.nil
 |cons a _ ih=>
  obtain⟨b,rfl,hb⟩:=a;exact a_.cons (Rl.oV hb (a_.ints _)) ih
section
variable{X:Cx}{E:XK}{x:Str}{p pos cp kp:Pos}{e:Expr}{md:ME}{j:Nat}
theorem vo(hc:X.calm=true)(hg:Gl X x)(hm:X.mg x=none)(hv:bootBuiltins x=some (.builtin "sorted"))(ha:PE X e (tE X E md))(hn:x ≠ "__name__":=by decide)(oJ:(x==("__debug__":Str))=false:=by decide)(he:starEach [e] X.env=(false,eval e X.env)::starEach [] X.env:=by rfl):PE X (.Call (.Name x p) [e] [⟨some "reverse",.Constant (.bool true) j cp,kp⟩] pos) (tE X E (jf md)):=by
 refine PE.imp (AI (vk hc) hg hm hv (oo ha wG he) (E? Hz Je) (by rfl) hn oJ (by rw[he];rfl) (by rw[he];rfl) (by rfl) (by rfl)) ?_;rintro σ H Q ⟨μ,ρ,st,rs,sr,h⟩;refine go μ ρ st rs sr h fun d st1 ρ1 H1 v e1 bP r1 h1=>?_;show Dh [v] [.bl true] H1 Q;cases d with
 |loc n=>
  obtain⟨a,rfl,ha⟩:=r1.d?;unfold Dm at h1;dsimp only at h1;cases hn:st1[n]? with
  |none=>rw[hn]at h1;exact h1.elim
  |some c=>
   rw[hn]at h1;cases c with
   |dT aI=>
    obtain⟨iz,hd,pr⟩:=bP.cell n _ a hn ha;dsimp only at h1;cases hk:nh (aI.map (·.1)) with
    |none=>rw[hk]at h1;exact h1.elim
    |some ks=>
     rw[hk]at h1;dsimp only at h1;by_cases hz:ks.length<=sizeLine/\ks.all (fun k => !k.isEmpty)=true
     .rw[Vo hz]at h1;refine⟨a,iz,ks,rfl,rfl,hd,by rw[<-pr.1];exact Dk hk,hz.1,fun k m z=>?_,fun l vs outs hl op fo pv=>?_⟩
      .have:=Wv.mp hz.2 k m;rw[z]at this;cases this
      .have nd:ks.Nodup:=op.nodup_iff.mp (dU fo);have eo:outs=iP ks:=vn (op.trans (fq ks).symm) fo (mr nd);rw[eo]at pv;obtain⟨k1,k2,k3⟩:=eO bP (Dp pv) hl;exact h1 _ _ _ k1 k2 k3
     .rw[Vu hz]at h1;exact h1.elim
   |_=>exact h1.elim
 |_=>exact h1.elim
end
def hU:List av->Option (_v)
 |[]=>some []
 |.int i::r=>(hU r).map (i :: ·)
 |_::_=>none
theorem AJ:∀{us:List av}{a:_v},hU us=some a->us=a.map av.int:=by
 intro us
 induction us with
 |nil=>intro a h;cases h;rfl
 |cons u r ih=>
  intro a h;cases u with
  |int i=>
   replace h:(hU r).map (i :: ·)=some a:=h;cases z:hU r with
   |none=>rw[z]at h;cases h
   |some b=>rw[z]at h;cases h;rw[ih z];rfl
  |_=>cases h
theorem kZ(a:_v):hU (a.map av.int)=some a:=by
 induction a with
 |nil=>rfl
 |cons x a ih=>show(hU (a.map av.int)).map (x :: ·)=_;rw[ih];rfl
section
variable{X:Cx}{E:XK}
theorem a_.GI{K:_u}{ρ:_y}{H:Hp}:∀{a:_v}{vs:List V},a_ K ρ H (a.map av.int) vs->vs=a.map V.int:=by
 intro a
 induction a with
 |nil=>intro vs h;exact h.fe
 |cons x a ih=>
  intro vs h;obtain⟨v,r,rfl,q1,q2⟩:=a_.cP h;rw[Rl.cE q1,ih q2];rfl
end
section
variable{X:Cx}{E:XK}
variable{x:Str}{p pos kp:Pos}{e ed:Expr}{m md:ME}
end
end MN
namespace PM
open PySem.Spec L2 MN
open PyProof.Rows hiding St
def jg:FN:=fQ 3 3 (kd (aa 0) (aa 1) (ah bo (iD (aa 0) (aa 1) (mC (.int 0))) (aa 2)))
def dC:FN:=fQ 2 2 (aA (dq (a! (ah dr (aa 0) (mC (.int 0)))) (a7 (aa 1)) aK) (a7 (ah bN (aa 1) (aa 0))))
def bW:FN:=fQ 2 7 (aA (aE 2 (bK ao)) (aA (aE 3 (aa 0)) (aA (aE 4 (mC (.int 4))) (aA (dq (a! (ah dr (ah bN (aa 0) (mC (.int 3))) (mC (.int 0)))) (aA (aE 3 (ah bX (aa 0) (mC (.int 3)))) (aE 4 (mC (.int 100)))) aK) (aA (dO (bE (ae (aa 1) ao)) (ay 5) (aA (aE 6 (ah bN (aa 3) (aa 4))) (aA (aE 3 (ah bX (aa 3) (aa 4))) (aA (dq (jQ (a! (ah dr (aa 4) (mC (.int 4)))) (a! (ah dr (ah bN (ah bX (aa 0) (mC (.int 256))) (mC (.int 8))) (aa 5)))) (aE 6 (ah bN (ah bX (aa 0) (mC (.int 2048))) (mC (.int 100)))) aK) (cD (gR bZ (aa 2) (ae (aa 6) ao))))))) (a7 (ak kR (ae (aa 2) ao))))))))
def a9:FN:=fQ 3 3 (a7 (kN (ak PM.fN (ae (aa 0) ao)) (sE Nk Nk (aa 1) (aa 0) (aa 2))))
def dM:FN:=fQ 2 3 (aA (aE 2 (bV 2 [0] (cQ (aa 1)) (fM [(ay 0),(ay 1)]) bf (fT (ae (aa 0) (ae (ak PM.bL (ae (aa 2) (ae (aa 1) ao))) ao))))) (a7 (bV 1 [] (cQ (aa 2)) (ay 0) (a! (ah fA (ah b5 (aa 0) (mC (.int 1))) (mC (.int 0)))) (aa 0))))
def dH:FN:=fQ 2 6 (aA (aE 2 ja) (aA (dO (cQ (aa 1)) (ay 3) (kd (aa 2) (ah b5 (aa 3) (mC (.int 0))) (ah bo (iD (aa 2) (ah b5 (aa 3) (mC (.int 0))) (mC (.int 0))) (ah b5 (aa 3) (mC (.int 1)))))) (aA (aE 4 (bK ao)) (aA (dO (cQ (jf (aa 2))) (ay 5) (dq (a! (ah fA (ak PM.dC (ae (aa 0) (ae (ah gE (aa 2) (aa 5)) ao))) (mC (.int 0)))) (cD (gR bZ (aa 4) (ae (fT (ae (aa 5) (ae (ak PM.dC (ae (aa 0) (ae (ah gE (aa 2) (aa 5)) ao))) ao))) ao))) aK)) (a7 (aa 4))))))
def cO:FN:=fQ 2 3 (aA (dq (eh (cm (a! (m9 "list" (aa 0)))) (a! (ah fA (ak b9 (ae (aa 0) ao)) (ak b9 (ae (aa 1) ao))))) (a7 (mC (.bl false))) aK) (aA (dO (bE (ae (ak b9 (ae (aa 1) ao)) ao)) (ay 2) (aA (dq (eh (cm (a! (m9 "tuple" (ah b5 (aa 0) (aa 2))))) (eh (a! (ah fA (ak b9 (ae (ah b5 (aa 0) (aa 2)) ao)) (mC (.int 2)))) (cm (a! (ak PM.e9 (ae (ah b5 (ah b5 (aa 0) (aa 2)) (mC (.int 1))) ao)))))) (a7 (mC (.bl false))) aK) (dq (eh (cm (a! (m9 "tuple" (ah b5 (ah b5 (aa 0) (aa 2)) (mC (.int 0)))))) (a! (ah fA (bV 1 [] (cQ (ah b5 (ah b5 (aa 0) (aa 2)) (mC (.int 0)))) (ay 0) (cm (a! (ak PM.e9 (ae (aa 0) ao)))) (aa 0)) (bK ao)))) (a7 (mC (.bl false))) aK))) (a7 (ah dr (aa 0) (aa 1)))))
def bH:FN:=fQ 1 1 (dq (cm (a! (ak PM.a9 (ae (aa 0) (ae (mC (.int 1)) (ae (mC (.int 4)) ao)))))) (eB "NoUnknowns" (ae (mC (.str "a count of unknowns is a whole number from 1 to 4")) ao)) aK)
def cV:FN:=fQ 2 2 (aA (dq (eh (cm (a! (m9 "tuple" (aa 0)))) (a! (ah fA (ak b9 (ae (aa 0) ao)) (aa 1)))) (a7 (mC (.bl false))) aK) (a7 (ak l8 (ae (bV 1 [] (cQ (aa 0)) (ay 0) bf (ak PM.a9 (ae (aa 0) (ae (mC (.int 0)) (ae (mC (.int 99)) ao))))) ao))))
def cW:FN:=fQ 2 2 (a7 (ak PM.dM (ae (aa 0) (ae (bV 1 [1] (cQ (jf (aa 1))) (ay 0) bf (fT (ae (aa 0) (ae (ah gE (aa 1) (aa 0)) ao)))) ao))))
def gJ:FN:=fQ 2 2 (aA (dq (eh (cm (a! (m9 "tuple" (aa 0)))) (a! (ah fA (ak b9 (ae (aa 0) ao)) (mC (.int 2))))) (a7 (mC (.bl false))) aK) (a7 (kN (ak PM.cV (ae (ah b5 (aa 0) (mC (.int 0))) (ae (aa 1) ao))) (ak PM.fN (ae (ah b5 (aa 0) (mC (.int 1))) ao)))))
def c7:FN:=fQ 2 3 (dO (cQ (aa 1)) (ay 2) (dq (cm (a! (ak PM.gJ (ae (aa 2) (ae (aa 0) ao))))) (eB "NoTerm" (ae (mC (.str "a term is a tuple of exponents from 0 to 99, one for each unknown, and a whole number")) ao)) aK))
def made:FN:=fQ 3 6 (aA (cD (ak PM.c_ (ae (aa 0) ao))) (aA (cD (ak PM.bH (ae (aa 1) ao))) (aA (cD (ak PM.c7 (ae (aa 1) (ae (aa 2) ao)))) (aA (aE 3 ja) (aA (dO (cQ (aa 2)) (fM [(ay 4),(ay 5)]) (cD (ak PM.jg (ae (aa 3) (ae (aa 4) (ae (aa 5) ao)))))) (a7 (ak PM.cW (ae (aa 0) (ae (aa 3) ao)))))))))
end PM
namespace DL
section
variable{prog:_E}{w:World}{A:_D}{E:_r}{s:_B}
variable{K:Type}[DecidableEq K]{knd:KeyKind prog w K}
end
end DL
namespace L2
open PySem.Spec PyProof.Rows
end L2
namespace MN
open PySem.Spec L2
open PyProof.Rows hiding St
section
variable{K:_u}{ρ:_y}{H:Hp}
end
end MN
namespace DL
open PyProof.Rows
section
variable{prog:_E}{w:World}{A:_D}{E:_r}{s:_B}
end
end DL
namespace L2
open PySem.Spec PyProof.Rows
end L2
namespace MN
open PySem.Spec L2
open PyProof.Rows hiding St
end MN
namespace PM
open PySem.Spec L2 MN
open PyProof.Rows hiding St
end PM
namespace L2
open PySem.Spec PyProof.Rows
section
variable{X:Cx}
end
end L2
namespace MN
open PySem.Spec L2
open PyProof.Rows hiding St
section
variable{X:Cx}{E:XK}
end
end MN
namespace PM
open PySem.Spec L2 MN
open PyProof.Rows hiding St
end PM
namespace SO
open PySem.W PyProof.Rows
section
variable{prog:_E}{w:World}{A:_D}{E:_r}{s:_B}
end
end SO
namespace MN
open PySem.Spec L2
open PyProof.Rows hiding St
section
variable{X:Cx}{E:XK}
end
end MN
namespace L2
open PySem.Spec PyProof.Rows
section
variable{X:Cx}{L:nE}{af:_t}{σ:St}{H:Hp}{s:_B}{f c c':_C}{i k:Nat}{y:Str}{v x:V}{u:_A}{Q:VK}{E:_r}
end
section
variable{X:Cx}{L:nE}{c:_C}{i k:Nat}{y x:Str}{p pos kp:Pos}{e ek:Expr}{t te:TE}
end
end L2
namespace MN
open PySem.Spec L2
open PyProof.Rows hiding St
open Classical in
section
variable{X:Cx}{E:XK}{L:nE}{k:Nat}{mb:ME}{f c c':_C}{Q:VK}
end
section
variable{X:Cx}{E:XK}{pos p lp kp:Pos}{e:Expr}{m mb:ME}{x y:Str}{L:Gd}{k:Nat}{c cd T:_C}
end
end MN
namespace HT
open PySem.Spec PyProof.Rows
section
variable{prog:_E}{w:World}{A:_D}{E:_r}{s:_B}
end
end HT
namespace L2
open PySem.Spec PyProof.Rows
section
variable{X:Cx}{e es:Expr}{te:TE}{pos p2:Pos}
end
end L2
namespace MN
open PySem.Spec L2
open PyProof.Rows hiding St
section
variable{X:Cx}{E:XK}{pos p2 q1 q2:Pos}{e:Expr}{m:ME}
end
end MN
namespace SO
open PySem.W PyProof.Rows
section
variable{prog:_E}{w:World}{A:_D}{E:_r}{s:_B}{t:_C}{us:_w}{ns:_v}
end
end SO
namespace L2
open PySem.Spec PyProof.Rows
end L2
namespace MN
open PySem.Spec L2
open PyProof.Rows hiding St
def Q3:FN
 |[.tup us],st=>match hU us with
  |some ns=>.ok (.int ns.sum) st
  |none=>.bad
 |_,_=>.bad
section
variable{X:Cx}{E:XK}
end
section
variable{K:_u}{ρ:_y}{H:Hp}
end
section
variable{X:Cx}{E:XK}
theorem Glob.strs{K:_u}{mg:_s}{x:Str}{a:_C}{o:Obj}{aD:Array _A}{n:Nat}{ns:_z}(h:mg x=some (.ref a))(l:K.lookup a=some o)(hc:o.cls=.type "tuple")(hd:o.data=.seq aD n)(hz:aD.size<=sizeLine)(hv:bg (ns.map V.str) aD.toList):Glob K mg x (.mt (ns.map .str)):=
 ⟨_,.ref a,h,rfl,fun ρ H=>Rl.Nd (.inr ⟨o,aD,n,l,hc,hd,hz,hv⟩) (by
  clear h l hc hd hz hv
  induction ns with
  |nil=>exact a_.nil
  |cons s ns ih=>exact a_.cons (Rl.mkStr s) ih)⟩
end
end MN
namespace PM
open PySem.Spec L2 MN
open PyProof.Rows hiding St
end PM
namespace L2
open PySem.Spec PyProof.Rows
end L2
namespace MN
open PySem.Spec L2
open PyProof.Rows hiding St
section
variable{P:_E}{w:World}{K:_u}{mg:_s}{base:Heap}
end
section
variable{X:Cx}{E:XK}{pos p q1:Pos}{x n:Str}{k j:Nat}{F:Str->aj->cX av}
end
end MN
namespace L2
open PySem.Spec PyProof.Rows
section
variable{X:Cx}
end
end L2
namespace MN
open PySem.Spec L2
open PyProof.Rows hiding St
section
variable{X:Cx}{E:XK}
variable{o e:Expr}{es:List Expr}{mo:ME}{ms:MA}{apos bT:Pos}
end
end MN
namespace SO
open PySem.W PyProof.Rows
section
variable{prog:_E}{w:World}{K:Type}[DecidableEq K]{knd:HeapKind prog w K}{A:_D}{E:_r}{s:_B}
end
section
variable{prog:_E}{w:World}{A:_D}{E:_r}{s:_B}{d:_C}{es:Array DictEntry}{ep:Nat}
end
section
variable{prog:_E}{w:World}{A:_D}{E:_r}{I d S:_C}{es:Array DictEntry}{ep:Nat}{zs:List (_A×List Int)}{R:Result->_B->Prop}
end
section
variable{prog:_E}{w:World}{A:_D}{E:_r}{s:_B}{l:_C}{us:_w}{ns:_v}
theorem xn(h:IntsAre us ns):∃xs:Array (Int×Tok),us.toArray=intItems xs/\xs.size=ns.length/\∀i,numAt xs i=ns.getD i 0:=by
 have:∃l:List (Int×Tok),us=l.map (fun p=>Value.int p.1 p.2)/\l.map (·.1)=ns:=by
  induction h with
  |nil=>exact⟨[],rfl,rfl⟩
  |cons n t _ ih=>
   obtain⟨l,e1,e2⟩:=ih;exact⟨(n,t)::l,by rw[e1];rfl,by rw[<-e2];rfl⟩
 obtain⟨l,rfl,rfl⟩:=this;refine⟨l.toArray,by simp[intItems],by simp,fun i=>?_⟩;unfold numAt;rw[X5,W2,VU]
end
end SO
namespace L2
open PySem.Spec PyProof.Rows
section
variable{X:Cx}{af:_t}{σ:St}{H:Hp}{s:_B}{a b:_C}{aI:List (List dE×V)}{k:List dE}{A:_D}{E:_r}
end
section
variable{X:Cx}{o e:Expr}{apos bT:Pos}{td ty:TE}
end
end L2
namespace MN
open PySem.Spec L2
open PyProof.Rows hiding St kindOf
section
variable{κ:Type}[DecidableEq κ]
end
section
variable{X:Cx}{E:XK}{o e:Expr}{apos bT:Pos}{md mk:ME}
end
end MN
namespace L2
open PySem.Spec PyProof.Rows PySem.W
section
variable{X:Cx}
end
end L2
namespace MN
open PySem.Spec L2
open PyProof.Rows hiding St
section
variable{X:Cx}{E:XK}{pos p q1 q2:Pos}{n x:Str}{tab:List (Str×Str×Bool)}{qs:_z}
end
section
variable{P:_E}{w:World}{K:_u}{mg:_s}{base:Heap}
end
end MN
namespace PM
open PySem.Spec L2 MN
open PyProof.Rows hiding St
end PM
namespace MN
open PySem.Spec L2
open PyProof.Rows hiding St kindOf
section
variable{K:_u}{ρ:_y}{H:Hp}
end
section
variable{X:Cx}{E:XK}{o e value:Expr}{f x:Str}{pos pos' p:Pos}{m mo mv:ME}{cs:_z}{c:Str}{F:FN}{k j:Nat}{es:List Expr}{ms:MA}
end
end MN
namespace MN
open PySem.Spec L2
open PyProof.Rows hiding St
section
variable{K:_u}{h:Heap}{mg:_s}
def dI(K:_u)(x:Str)(st:Stmt):Prop:=∃(f:_C)(fd:FuncData),Fq K x x st f fd/\W.nsIn K mainGlobals x=some (some (.ref f))
theorem dI.mk{x:Str}{st:Stmt}{f:_C}{oc:_A}{od an:Option _C}{EA:Array (_x)}{kV doc pm gn ct:_A}(a:W.nsIn K mainGlobals x=some (some (.ref f)))(l:K.lookup f=some ⟨oc,od,.func (W.fnOf x x (gf st) (d0 st) (bu st) .none kV doc pm an gn ct),EA⟩)(c:W.codeIn K gn x=true)(k:W.keepIn K (.ref f)=true):dI K x st:=⟨f,_,BV l c k,a⟩
inductive xo(K:_u):_z->Prop
 |nil:xo K []
 |cons {x:Str} {r:_z} (a:W.nsIn K mainGlobals x=some none) (t:xo K r):xo K (x::r)
@[reducible] def GJ(mg:_s):_z->Prop
 |[]=>True
 |x::r=>mg x=none/\GJ mg r
theorem xo.get(X:K.In h)(G:h.Ns mainGlobals mg):∀{l:_z},xo K l->GJ mg l
 |_,.nil=>trivial
 |_,.cons a t=>⟨ZW X G a,t.get X G⟩
inductive xp(K:_u):_z->Prop
 |nil:xp K []
 |cons {x:Str} {r:_z} {C:_C} (a:W.nsIn K mainGlobals x=some (some (.ref C))) (e:W.excIn K C SD "ValueError.__new__" = true) (s:W.subIn K (.ref C) (.type "BaseException")=some true) (t:xp K r):xp K (x::r)
@[reducible] def GK(K:_u)(mg:_s):_z->Prop
 |[]=>True
 |x::r=>F8 K mg x/\GK K mg r
theorem xp.get(X:K.In h)(G:h.Ns mainGlobals mg):∀{l:_z},xp K l->GK K mg l
 |_,.nil=>trivial
 |_,.cons a e s t=>⟨⟨_,Wq X G a,e,s⟩,t.get X G⟩
inductive ni(K:_u):List (Str×Str×Bool)->Prop
 |nil:ni K []
 |cons {c x:Str} {b:Bool} {C D:_C} {cd:ClassData} {r:List (Str×Str×Bool)} (h1:W.nsIn K mainGlobals c=some (some (.ref C))) (h2:W.nsIn K mainGlobals x=some (some (.ref D))) (h3:W.clsIn K D=some cd) (h4:W.typeIn K (.ref D)=some (.type "type")) (h5:W.subIn K (.ref C) (.ref D)=some b) (t:ni K r):ni K ((c,x,b)::r)
inductive pD(K:_u):_z->Prop
 |nil:pD K []
 |cons {c:Str} {C:_C} {r:_z} (h1:W.nsIn K mainGlobals c=some (some (.ref C))) (h3:W.kitOne K (.ref C) (.type "ValueError")=some true) (t:pD K r):pD K (c::r)
def NY(l:_z):List (Str×Str×Bool):=l.map fun c=>(c,"ValueError",true)
theorem pD.get(X:K.In h)(G:h.Ns mainGlobals mg)(n:W.nsIn K mainGlobals "ValueError" = some none):∀{l:_z},pD K l->fU K mg (NY l)
 |_,.nil=>.nil
 |_,.cons h1 h3 t=>.blt (Wq X G h1) (ZW X G n) qt h3 (t.get X G n)
theorem ni.get(X:K.In h)(G:h.Ns mainGlobals mg){l':List (Str×Str×Bool)}(S:fU K mg l'):∀{l:List (Str×Str×Bool)},ni K l->fU K mg (l++l')
 |_,.nil=>S
 |_,.cons h1 h2 h3 h4 h5 t=>.own (Wq X G h1) (Wq X G h2) (As h3 h4 h5) (t.get X G S)
inductive xq(K:_u):_z->Prop
 |nil:xq K []
 |cons {x:Str} {r:_z} {C:_C} (a:W.nsIn K mainGlobals x=some (some (.ref C))) (q:L2.sN K C=true) (t:xq K r):xq K (x::r)
theorem xq.get(X:K.In h)(G:h.Ns mainGlobals mg):∀{l:_z},xq K l->sO K mg l
 |_,.nil=>.nil
 |_,.cons a q t=>.cons (Wq X G a) q (t.get X G)
theorem sO.known{l:_z}(Q:sO K mg l):Known mg (OX l):=fun c hc=>let⟨C,h,_⟩:=Q.at_ hc;⟨C,h⟩
end
section
variable{X:Cx}{E:XK}{pos:Pos}{a b:Expr}{ma mb:ME}
theorem K7(ha:PE X a (tE X E ma))(hb:PE X b (tE X E mb)):PE X (.BinOp a .Add b pos) (tE X E (ah bo ma mb)):=lZ FR ha hb
theorem K8(ha:PE X a (tE X E ma))(hb:PE X b (tE X E mb)):PE X (.BinOp a .Sub b pos) (tE X E (ah Ae ma mb)):=lZ FT ha hb
theorem K9(ha:PE X a (tE X E ma))(hb:PE X b (tE X E mb)):PE X (.BinOp a .Mult b pos) (tE X E (ah cN ma mb)):=lZ FU ha hb
theorem K_(ha:PE X a (tE X E ma))(hb:PE X b (tE X E mb)):PE X (.BinOp a .FloorDiv b pos) (tE X E (ah bX ma mb)):=lZ Cn ha hb
theorem K!(ha:PE X a (tE X E ma))(hb:PE X b (tE X E mb)):PE X (.BinOp a .Mod b pos) (tE X E (ah bN ma mb)):=lZ FV ha hb
theorem K?(ha:PE X a (tE X E ma))(hb:PE X b (tE X E mb)):PE X (.BinOp a .Pow b pos) (tE X E (ah uT ma mb)):=lZ FW ha hb
theorem NZ(ha:PE X a (tE X E ma))(hb:PE X b (tE X E mb)):PT X (.Compare a [.Lt] [b] pos) (tT X E (a! (ah ltV ma mb))):=l6 Co ha hb
theorem N0(ha:PE X a (tE X E ma))(hb:PE X b (tE X E mb)):PT X (.Compare a [.Gt] [b] pos) (tT X E (a! (ah Af ma mb))):=l6 Cq ha hb
theorem N1(hu:X.A.units+64<cLine)(ha:PE X a (tE X E ma))(hb:PE X b (tE X E mb)):PT X (.Compare a [.Eq] [b] pos) (tT X E (a! (ah dr ma mb))):=l6 (Cu hu) ha hb
theorem N2(hu:X.A.units+64<cLine)(ha:PE X a (tE X E ma))(hb:PE X b (tE X E mb)):PT X (.Compare a [.NotEq] [b] pos) (tT X E (a! (ah fA ma mb))):=l6 (Cv hu) ha hb
theorem N3(hu:X.A.units+64<cLine)(ha:PE X a (tE X E ma))(hb:PE X b (tE X E mb)):PE X (.Compare a [.Eq] [b] pos) (tE X E (ah dr ma mb)):=j! (Cu hu) ha hb
theorem N4(hu:X.A.units+64<cLine)(ha:PE X a (tE X E ma))(hb:PE X b (tE X E mb)):PE X (.Compare a [.NotEq] [b] pos) (tE X E (ah fA ma mb)):=j! (Cv hu) ha hb
end
end MN
namespace MN
open PySem.Spec L2
open PyProof.Rows hiding St kindOf
section
variable{X:Cx}{E:XK}{pos p apos:Pos}{o e:Expr}{es:List Expr}{ms:MA}{mo:ME}{F:FN}{x c mt:Str}{k j:Nat}
end
section
variable{P:_E}{w:World}{K:_u}{mg:_s}{base:Heap}{c m q:Str}{st:Stmt}{N ps fs:_z}{k:Nat}{body:MB}
end
end MN
namespace SO
open PySem.W PyProof.Rows
def kg(f:Nat->Int):Nat->Int
 |0=>f 0
 |j+1=>if f (j+1)>kg f j then f (j+1)else kg f j
theorem nk(f:Nat->Int):∀j,f (argBest (fun i j=>decide (f i>f j)) j)=kg f j
 |0=>rfl
 |j+1=>by
  have ih:=nk f j;show f (if decide (f (j+1)>f (argBest (fun i j=>decide (f i>f j)) j))=true then j+1 else argBest (fun i j=>decide (f i>f j)) j)=if f (j+1)>kg f j then f (j+1)else kg f j
  rw[ih];by_cases c:f (j+1)>kg f j
  .rw[Vo (VF c),Vo c]
  .rw[Vu (by rw[VM c];exact VC),Vu c,ih]
theorem pE{f g:Nat->Int}:∀{j:Nat},(∀i,i<=j->f i=g i)->kg f j=kg g j
 |0,h=>h 0 (Vq _)
 |j+1,h=>by unfold kg;rw[pE (j:=j) fun i hi=>h i (by lia),h (j+1) (Vq _)]
section
variable{prog:_E}{w:World}{A:_D}{E:_r}{s:_B}{l:_C}{us:_w}{ns:_v}
theorem AK{Q:_r}(hh:A.handled=none)(hl:s.heap.IsTuple l us.toArray)(ia:IntsAre us ns)(KP:ns≠[])(h:∀t h' tk,(∀b o,s.heap.get? b=some o->h'.get? b=some o)->Q (.int (kg (fun i=>ns.getD i 0) (ns.length-1)) t) {s with heap:=h',toks:=tk}):
  wpAny (model prog w) A (call (.builtin "max") [.ref l]) Q E s:=by
 obtain⟨xs,ex,sx,nx⟩:=xn ia;rw[ex]at hl;have uN:l<s.heap.objs.size:=by obtain⟨_,e,_⟩:=id hl;exact Vy e
 have Q4:0<xs.size:=by
  rw[sx];cases ns with
  |nil=>exact absurd rfl KP
  |cons=>exact Nat.succ_pos _
 refine call_max_walk (Xi hl ?_);refine⟨_,[_,l],[_],_,_,_,_,rfl,Walks.tuple (A:=A.in1) hh _ l (V2 uN) (intItems xs),
  ⟨⟨_,VN _ rfl,rfl,rfl⟩,hl.push _⟩,fun c hc=>?_,by simpa[intItems]using Q4,CmpOf.ints_gt (numAt xs) (fun _ _=>intItems_at),fun v h' tk hP hk=>?_⟩
 .show c<(s.heap.push _).objs.size;rw[Xa];rcases VG.mp hc with rfl|hc
  .exact XN _
  .rcases VG.mp hc with rfl|hc
   .exact Z_ uN
   .cases hc
 .have hold:∀c o,s.heap.get? c=some o->h'.get? c=some o:=fun c o e=>by
   refine hk c o (fun hm=>?_) (Vm _ e);rcases VG.mp hm with e1|hm
   .have:=Vy e;rw[e1]at this;exact V5 _ this
   .cases hm
  obtain⟨t,rfl⟩:=intItems_at hP;have ev:numAt xs (argBest (fun i j=>decide (numAt xs i>numAt xs j)) ((intItems xs).size-1))=kg (fun i=>ns.getD i 0) (ns.length-1):=by rw[nk (numAt xs),show(intItems xs).size-1=ns.length-1 by rw[<-sx];simp[intItems]];exact pE fun i _=>nx i
  rw[ev];exact h t h' tk hold
end
end SO
namespace L2
open PySem.Spec PyProof.Rows
section
variable{X:Cx}
theorem vp(hh:X.A.handled=none):b6 X (.builtin "max") (fun xs H Q=>∃a ns,xs=[.ref a]/\iW X.K H a (ns.map V.int)/\ns≠[]/\Q (.int (SO.kg (fun i=>ns.getD i 0) (ns.length-1))) H):=by rintro af s σ H xs ws Q I r ⟨a,ns,rfl,ha,KP,q⟩;obtain⟨u,rfl,ru⟩:=vals1 r;cases ru;obtain⟨aD,r1,p1,_⟩:=I.tuple ha;exact SO.AK hh (by obtain⟨o,h1,h2,n,h3⟩:=p1;exact⟨o,h1,h2,n,h3⟩) (intsAre_of r1) KP fun t h' tk hk=>⟨.int _,H,I.kept hk,⟨_,rfl⟩,q⟩
end
end L2
namespace DL
section
variable{prog:_E}{w:World}{A:_D}{E:_r}{s:_B}
variable{K:Type}[DecidableEq K]{knd:KeyKind prog w K}
def ni(knd:KeyKind prog w K)(h:Heap)(u:_A)(q:K×_A):Prop:=
 ∃a o aD n key,u=.ref a/\h.get? a=some o/\o.cls=.type "tuple" /\ o.data=.seq aD n/\aD.toList=[key,q.2]/\knd.is q.1 key=true
end
end DL
namespace L2
open PySem.Spec PyProof.Rows
section
variable{X:Cx}{af:_t}{σ:St}{H:Hp}{s:_B}{a:_C}{aI:List (dE×V)}
end
section
variable{X:Cx}{elts:List Expr}{kt:Nat}{tp apos bT:Pos}{o:Expr}{td:TE}
end
end L2
namespace MN
open PySem.Spec L2
open PyProof.Rows hiding St kindOf
section
variable{K:_u}{ρ:_y}{H:Hp}
end
def Ur:FN:=fun us st=>match us with
 |[.loc n]=>sumF [.loc n] st
 |_=>Q3 us st
def sZ:FN
 |[.tup us],st=>match hU us with
  |some (n::ns)=>.ok (.int (SO.kg (fun i=>(n::ns).getD i 0) ns.length)) st
  |_=>.bad
 |_,_=>.bad
section
variable{X:Cx}{E:XK}
theorem xr(hh:X.A.handled=none):b6 X (.builtin "max") (cM (wo X) E sZ):=by
 refine b6.imp (vp hh) ?_;rintro xs H Q ⟨ρ,st,us,sr,r,h⟩;unfold sZ at h;split at h
 .rename_i ws;obtain⟨v,rfl,r1⟩:=r.wq;split at h
  .rename_i n ns hk;rw[AJ hk]at r1;obtain⟨a,vs,rfl,ha,ra⟩:=r1.gg;rw[a_.GI ra]at ha;exact⟨a,n::ns,rfl,ha,by simp,d4 sr h⟩
  .exact h.elim
 .exact h.elim
end
end MN
namespace L2
open PySem.Spec PyProof.Rows
section
variable{prog:_E}{w:World}{A:_D}{E:_r}{s:_B}
end
section
variable{X:Cx}{nx:Str}{np p pos:Pos}
end
end L2
namespace SO
open PySem.W PyProof.Rows
section
variable{prog:_E}{w:World}{A:_D}{E:_r}{s:_B}
end
end SO
namespace L2
open PySem.Spec PyProof.Rows
section
variable{X:Cx}
end
end L2
namespace MN
open PySem.Spec L2
open PyProof.Rows hiding St kindOf
def Q5(st:aj)(n:Nat):Option (List (dE×av)):=match st[n]? with
 |some (.dK aI)=>some aI
 |some (.fd aI)=>some aI
 |_=>none
def Ib:List dE->Option (_v)
 |[]=>some []
 |.inl i::r=>(Ib r).map (i :: ·)
 |.inr _::_=>none
section
variable{X:Cx}{E:XK}
end
end MN
namespace MN
open PySem.Spec L2
end MN
namespace PM
open PySem.Spec L2 MN
open PyProof.Rows hiding St
end PM
namespace SO
open PySem.W PyProof.Rows
section
variable{prog:_E}{w:World}{A:_D}{E:_r}{s:_B}{ns:_v}
end
end SO
namespace L2
open PySem.Spec PyProof.Rows
section
variable{X:Cx}
def ft{α:Type}(xs:List α)(k:Int):List α:=(sliceRange 0 xs.length k).filterMap fun i=>xs[i]?
theorem jH:∀(is:List Nat){xs:List V}{us:_w},bg xs us->bg (is.filterMap fun i=>xs[i]?) (is.filterMap fun i=>us[i]?)
 |[],_,_,_=>.nil
 |i::is,xs,us,r=>by
  cases z:xs[i]? with
  |none=>
   have:us[i]?=none:=by rw[Z?]at z⊢;rw[<-r.length];exact z
   rw[XU z,XU this];exact jH is r
  |some x=>
   obtain⟨u,hu,ru⟩:=r.get z;rw[XT z,XT hu];exact .cons ru (jH is r)
theorem Dq{α:Type}(xs:List α){k:Int}(hk:0<k):(ft xs k).length<=xs.length:=by unfold ft;refine VR (List.length_filterMap_le _ _) ?_;have:=sliceRange_len_le 0 (xs.length:Int) k (by lia);rw[Vo hk]at this;simpa using this
theorem AL{e es:Expr}{te ts:TE}{pos p2:Pos}(he:PE X e te)(hs:PE X es ts):
  PE X (.Subscript e (.Slice none none (some es) p2) pos) (fun σ H Q=>te σ H fun x H1=>ts σ H1 fun y H2=>∃a xs k,x=.ref a/\y=.int k/\0<k/\j9 X.K H2 a xs/\∀p,H2 p=none->Q (.ref p) (upd H2 p (.lst (ft xs k)))):=by
 intro af s σ H Q I h;refine ZJ (cf (he af s σ H _ I h) fun v s1⟨x,H1,I1,r1,q1⟩=>?_);refine wpAny_Slice ?_;rw[Y6];refine Vv ?_;refine Vv ?_;rw[Y5];refine cf (hs af s1 σ H1 _ I1 q1) fun v3 s3⟨y,H2,I3,r3,a,xs,k,e1,e2,hk,hx,q⟩=>?_;subst e1 e2;cases r1;obtain⟨tk,rfl⟩:=r3;have I4:aH X af σ H2 {s3 with heap:=s3.heap.push {cls:=.type "slice",data:=.fields #[.none,.none,.int k tk]} }:=I3.kept (t':=s3.toks) fun b ob q=>Vm _ q;show wpAny (model X.prog X.w) X.A (subscriptTail e (.Slice none none (some es) p2) (.ref a) (.ref s3.heap.objs.size)) (EP X af σ Q) X.xe {s3 with heap:=s3.heap.push {cls:=.type "slice",data:=.fields #[.none,.none,.int k tk]} };obtain⟨aD,r,ht,hz⟩:=I4.list hx;have hlen:aD.toArray.size=xs.length:=by rw[VD];exact r.length.symm
 refine tail_any (ops:=[.ref a,.ref s3.heap.objs.size]) ht.isList.typeIs Yj.lookup ?_ (by with_unfolding_all rfl);refine Yk ht.isList (Zb ..) .none .none (.int k tk) (by intro z;injection z with z;lia) ?_ (by rw[hlen];exact hz);have ep:slicePick aD.toArray none none (some k)=(ft aD k).toArray:=by
  have b1:(sliceBounds none none (some k) aD.toArray.size).1=0:=by show(if k>0 then(0:Int)else _)=0;rw[Vo hk]
  have b2:(sliceBounds none none (some k) aD.toArray.size).2.1=(aD.length:Int):=by show(if k>0 then((aD.toArray.size:Nat):Int)else _)=_;rw[Vo hk,VD]
  have b3:(sliceBounds none none (some k) aD.toArray.size).2.2=k:=rfl;unfold slicePick ft;rw[b1,b2,b3];simp only[X5]
 rw[ep];refine⟨.ref _,_,I4.laid (t':=s3.toks) (o:=.lst (ft xs k)) (fun b ob q=>Vm _ q) (Vq _) ?_,rfl,q _ (I4.b_.fresh (Vq _))⟩;refine⟨VR (Dq xs hk) hz,_,0,?_,VN _ rfl⟩;unfold ft;rw[show aD.length=xs.length from r.length.symm];exact jH _ r
end
end L2
namespace MN
open PySem.Spec L2
open PyProof.Rows hiding St kindOf
def Q6(ns:_v):_v:=ns.mergeSort fun a b=>decide (a<=b)
def S3:FN
 |[.loc n],st=>match Q5 st n with
  |some aI=>match Ib (aI.map (·.1)) with
   |some ns=>if ns.length<64 then .ok (.loc st.length) (st++[.lst ((Q6 ns).map .int)])else .bad
   |none=>.bad
  |none=>.bad
 |_,_=>.bad
def oD(v k:av)(st:aj):cX av:=match v,k with
 |.loc n,.int k=>match au st n with
  |some us=>if 0<k then .ok (.loc st.length) (st++[.lst (ft us k)])else .bad
  |none=>.bad
 |_,_=>.bad
def gj(m mk:ME):ME:=fun μ st=>(m μ st).bind fun v st1=>(mk μ st1).bind fun k st2=>oD v k st2
section
variable{X:Cx}{E:XK}
theorem k6{K:_u}{ρ:_y}{H:Hp}:∀(is:List Nat){us:List av}{xs:List V},a_ K ρ H us xs->a_ K ρ H (is.filterMap fun i=>us[i]?) (is.filterMap fun i=>xs[i]?)
 |[],_,_,_=>a_.nil
 |i::is,us,xs,r=>by
  cases z:us[i]? with
  |none=>
   have:xs[i]?=none:=by rw[Z?]at z⊢;rw[<-r.length];exact z
   rw[XU z,XU this];exact k6 is r
  |some x=>
   obtain⟨u,hu,ru⟩:=r.get z;rw[XT z,XT hu];exact a_.cons ru (k6 is r)
theorem AM{e es:Expr}{m mk:ME}{pos p2:Pos}(he:PE X e (tE X E m))(hs:PE X es (tE X E mk)):PE X (.Subscript e (.Slice none none (some es) p2) pos) (tE X E (gj m mk)):=by
 refine PE.imp (AL he hs) ?_;rintro σ H Q ⟨μ,ρ,st,rs,sr,h⟩;refine go μ ρ st rs sr h fun u st1 ρ1 H1 x e1 bP r1 h1=>?_;refine go μ ρ1 st1 (rs.mono e1) bP h1 fun k st2 ρ2 H2 z e2 ir r2 h2=>?_;have Q7:=Rl.mono e2 _ _ r1;cases u with
 |loc n=>
  cases k with
  |int k=>
   unfold oD at h2;dsimp only at h2;cases hn:au st2 n with
   |none=>rw[hn]at h2;exact h2.elim
   |some us=>
    rw[hn]at h2;dsimp only at h2;by_cases hk:0<k
    .rw[Vo hk]at h2;obtain⟨a,rfl,ha⟩:=Q7.d?;obtain⟨vs,h3,rv⟩:=bp ir hn ha;refine⟨a,vs,k,rfl,by rw[r2.cE],hk,h3,fun p hp=>?_⟩;have rr:a_ X.K ρ2 H2 (ft us k) (ft vs k):=by unfold ft;rw[show us.length=vs.length from rv.length];exact k6 _ rv
     obtain⟨k1,k2,k3⟩:=eO ir rr hp;exact h2 _ _ _ k1 k2 k3
    .rw[Vu hk]at h2;exact h2.elim
  |_=>exact h2.elim
 |_=>exact h2.elim
end
end MN
namespace PM
open PySem.Spec L2 MN
open PyProof.Rows hiding St
end PM
namespace L2
open PySem.Spec PyProof.Rows
open PySem.Builtin PySem.Builtin.Str
section
variable{X:Cx}{o e:Expr}{to te:TE}{apos bT:Pos}
theorem AN(ho:PE X o to)(he:PE X e te)(hb:attributeBase o "startswith" X.env (eval o X.env)=eval o X.env)(hs:starEach [e] X.env=[(false,eval e X.env)])(hl:(apos.endLine==bT.line)=true):
  PE X (.Call (.Attribute o "startswith" apos) [e] [] bT) (fun σ H Q=>to σ H fun x H1=>∃a,x=.str a/\te σ H1 fun y H2=>∃b,y=.str b/\Q (.bl (Txt.startswith a b)) H2):=by
 intro af s σ H Q I h;refine _m hb hs hl (cf (ho af s σ H _ I h) fun v s1⟨x,H1,I1,r1,a,e1,q1⟩=>?_);subst e1;obtain⟨t,rfl⟩:=r1;refine SB.startswith (cf (he af s1 σ H1 _ I1 q1) fun u s2⟨y,H2,I2,r2,b,e2,q2⟩=>?_)
 subst e2;obtain⟨t',rfl⟩:=r2;exact⟨b,t',rfl,.bl _,H2,I2,rfl,q2⟩
theorem q?:∀l:List (Str×Tok),bg ((l.map (·.1)).map V.str) (strValues l)
 |[]=>.nil
 |p::l=>.cons ⟨p.2,rfl⟩ (q? l)
theorem rf:∀{xs:_z}{us:_w},bg (xs.map V.str) us->∃l:List (Str×Tok),l.map (·.1)=xs/\us=strValues l
 |[],us,r=>by cases r;exact⟨[],rfl,rfl⟩
 |x::xs,us,r=>by
  rw[Vp]at r;cases r with
  |cons r1 r2=>
   obtain⟨t,e⟩:=r1;obtain⟨l,h1,h2⟩:=rf r2;exact⟨(x,t)::l,by rw[Vp,h1],by rw[h2,e];rfl⟩
theorem AO(ho:PE X o to)(he:PE X e te)(hb:attributeBase o "split" X.env (eval o X.env)=eval o X.env)(hs:starEach [e] X.env=[(false,eval e X.env)])(hl:(apos.endLine==bT.line)=true):
  PE X (.Call (.Attribute o "split" apos) [e] [] bT) (fun σ H Q=>to σ H fun x H1=>∃a,x=.str a/\a.length<=sizeLine/\te σ H1 fun y H2=>∃b,y=.str b/\(b.length==0)=false/\(partsBetween a (occurrences a b 0 a.length (a.length+1)) b.length).length<=sizeLine/\(Txt.split a b).length<=sizeLine /\
   ∀p,H2 p=none->Q (.ref p) (upd H2 p (.lst ((Txt.split a b).map V.str)))):=by
 intro af s σ H Q I h;refine _m hb hs hl (cf (ho af s σ H _ I h) fun v s1⟨x,H1,I1,r1,a,e1,ha,q1⟩=>?_);subst e1;obtain⟨t,rfl⟩:=r1;have key:∀(u:_A)(s2:_B),EP X af σ (fun y H2=>∃b,y=.str b/\(b.length==0)=false/\(partsBetween a (occurrences a b 0 a.length (a.length+1)) b.length).length<=sizeLine/\(Txt.split a b).length<=sizeLine/\∀p,H2 p=none->Q (.ref p) (upd H2 p (.lst ((Txt.split a b).map V.str)))) u s2->∃y u',u=.str y u'/\(y.length==0)=false/\(partsBetween a (occurrences a y 0 a.length (a.length+1)) y.length).length<=sizeLine/\∀(l:List (Str×Tok))(k:Nat),l.map (·.1)=Txt.split a y->EP X af σ Q (.ref s2.heap.objs.size) {s2 with heap:=s2.heap.push (seqObj "list" (strValues l).toArray 0),toks:=k}:=by rintro u s2 ⟨y,H2,I2,r2,b,e2,h0,hn,hz,q2⟩;subst e2;obtain⟨t',rfl⟩:=r2;refine⟨b,t',rfl,h0,hn,fun l k hk=>?_⟩;refine⟨.ref _,_,I2.laid (t':=k) (o:=.lst ((Txt.split a b).map V.str)) (fun b ob q=>Vm _ q) (Vq _) ?_,rfl,q2 _ (I2.b_.fresh (Vq _))⟩;refine⟨by rw[Vn];exact hz,_,0,?_,VN _ rfl⟩;rw[<-hk];exact q? l
 refine⟨"str",_,F.plainAttrs_str,F.slot_str_split,F.type_str_split,Y9 _ _ _,(fun _ e=>nomatch e),?_⟩;refine method1_meets F.slot_str_split F.entry_str_split (cf (he af s1 σ H1 _ I1 q1) fun v s₁ h₁=>?_);obtain⟨y,u,rfl,hy,hn,hq⟩:=key v s₁ h₁;refine⟨Y9 _ _ _,F.args_str_split_2 _ _,?_⟩;cases h1:(decide (a.length<y.length) || decide (strKind a<strKind y))
 .cases hf:(occurrences a y 0 a.length (a.length+1)).isEmpty
  .refine⟨_,meets_str_split_sep a y t u h1 hy hf ha hn,?_⟩;show wants _ _ _ {s₁ with toks:=_,heap:=s₁.heap.push {cls:=.type "list",data:=.seq (strsFrom s₁.toks (partsBetween a (occurrences a y 0 a.length (a.length+1)) y.length)).toArray} };rw[strsFrom_eq];exact hq (numbered s₁.toks _) _ ((numbered_texts _ _).trans ((Vu (Yt h1)).trans (Vu (Yt hf))).symm)
  .exact⟨_,meets_str_split_not_found a y t u h1 hy hf,hq [(a,t)] s₁.toks ((Vu (Yt h1)).trans (Vo hf)).symm⟩
 .exact⟨_,meets_str_split_cannot_occur a y t u h1,hq [(a,t)] s₁.toks (Vo h1).symm⟩
theorem Ds(ho:PE X o to)(he:PE X e te)(hb:attributeBase o "join" X.env (eval o X.env)=eval o X.env)(hs:starEach [e] X.env=[(false,eval e X.env)])(hl:(apos.endLine==bT.line)=true):
  PE X (.Call (.Attribute o "join" apos) [e] [] bT) (fun σ H Q=>to σ H fun x H1=>∃a,x=.str a/\te σ H1 fun y H2=>∃p xs,y=.ref p/\j9 X.K H2 p (xs.map V.str)/\JoinOk a xs=true/\Q (.str (Txt.join a xs)) H2):=by
 intro af s σ H Q I h;refine _m hb hs hl (cf (ho af s σ H _ I h) fun v s1⟨x,H1,I1,r1,a,e1,q1⟩=>?_);subst e1;obtain⟨t,rfl⟩:=r1;refine SB.join (cf (he af s1 σ H1 _ I1 q1) fun u s2⟨y,H2,I2,r2,p,xs,e2,hx,hj,q2⟩=>?_);subst e2;cases r2;obtain⟨aD,r,ht,hz⟩:=I2.list hx;obtain⟨l,h1,rfl⟩:=rf r;exact⟨p,l,rfl,ht.isList,xs,h1,hj,fun t' k=>⟨.str _,H2,I2.tok _,⟨_,rfl⟩,q2⟩⟩
theorem K':Fg X (fun x lo hi H Q=>∃z,x=.str z/\z.length<=sizeLine/\Q (.str (Txt.slice z lo hi)) H):=by
 intro af s σ H x v vl vu lo hi sl Q I rx hs pl pu q;obtain⟨z,rfl,hz,q⟩:=q;obtain⟨t,rfl⟩:=rx;have fin:∀(l u:Option (Int×Tok)),s.heap.IsSliceOf sl (partValue l) (partValue u) Value.none->(sliceMade z t l u none).post (EP X af σ Q) s->∃T id,typeLookup (.type T) "__getitem__" = pure (some (.builtin id))/\s.TypeIs (.str z t) T/\wpAny (model X.prog X.w) X.A (getItem (.str z t) (.ref sl)) (EP X af σ Q) X.xe s:=fun l u hs hp=>
  ⟨"str",_,F.slot_str_getitem.lookup,Y9 _ _ _,wpAny_getItem_str_slice (l:=l) (u:=u) (st:=none) hs rfl hp⟩
 cases pl with
 |none=>
  cases pu with
  |none=>exact fin none none hs (YE ⟨VR (Yu z _ _) hz,fun t' k=>⟨.str _,H,I.tok _,⟨_,rfl⟩,q⟩⟩)
  |int j tj=>exact fin none (some (j,tj)) hs (YE ⟨VR (Yu z _ _) hz,fun t' k=>⟨.str _,H,I.tok _,⟨_,rfl⟩,q⟩⟩)
 |int i ti=>
  cases pu with
  |none=>exact fin (some (i,ti)) none hs (YE ⟨VR (Yu z _ _) hz,fun t' k=>⟨.str _,H,I.tok _,⟨_,rfl⟩,q⟩⟩)
  |int j tj=>exact fin (some (i,ti)) (some (j,tj)) hs (YE ⟨VR (Yu z _ _) hz,fun t' k=>⟨.str _,H,I.tok _,⟨_,rfl⟩,q⟩⟩)
end
end L2
namespace L2
open PySem.Spec PyProof.Rows
def La(x:Str):_z:=x.cps.toList.map fun c=>(⟨#[c]⟩:Str)
def S4(x:Str):It:=⟨fun i _=>i<x.length,fun i H v H'=>H'=H/\∃c,x.cps[i]?=some c/\v=.str ⟨#[c]⟩,fun i _=>x.length<=i⟩
theorem AQ{P:_E}{w:World}{K:_u}{tg:Expr}(it:_C)(x:Str)(t:Tok):Turn P w K tg (S4 x) [it] it (fun i h=>h.IsStrIter it "str_ascii_iterator" x t i) where
 mem:=by simp
 obj:=fun i h st b hb=>by
  have e:b=it:=by simpa using hb
  subst e;obtain⟨o,e,c,d⟩:=st;exact⟨o,e,fun v z=>by rw[d]at z;cases z⟩
 keep:=fun i h h' st k=>by obtain⟨o,e,c,d⟩:=st;exact⟨o,k it (by simp) o e,c,d⟩
 item:=by intro X hP hw hK hc i af s σ H E I hf st hg;subst hP hw hK;obtain⟨f0,f1,f2,f3,f4,f5⟩:=hf it (by simp);have gr:i<x.cps.size:=hg;refine wpAny_pyNext_ascii_item st (c:=x.cps[i]) (by simp[gr]) fun h' ax sb=>?_;have I1:aH X af σ H {s with heap:=h',toks:=s.toks+1}:=I.turned (t':=s.toks+1) (fun b o hb e=>(sb.2 b hb).trans e) f0 f1 f3 f4 f5;obtain⟨o,e,c,d⟩:=id ax;exact⟨_,rfl,ya (s:={s with heap:=h',toks:=s.toks+1}) e c d (by decide) ⟨.str ⟨#[x.cps[i]]⟩,H,I1,⟨_,rfl⟩,⟨rfl,_,by simp[gr],rfl⟩,ax,fun b hb=>(hf b hb).1⟩⟩
 done:=by intro X hP hw hK hc i af s σ H E I hf st hg;subst hP hw hK;obtain⟨f0,f1,f2,f3,f4,f5⟩:=hf it (by simp);have gr:x.cps.size<=i:=hg;exact wpAny_pyNext_ascii_end (I.ok.hd hc) st (by simp[gr]) fun h' eb=>⟨rfl,I.turned (t':=s.toks) (fun b o hb e=>eb b o hb e) f0 f1 f3 f4 f5⟩
 self:=fun _ _ _ _ _ st h=>wpAny_pyIter_striter_ascii st h
section
variable{X:Cx}{tg:Expr}
theorem GL{l:Expr}{tl:TE}(hl:PE X l tl):PI X tg l (fun σ H R=>tl σ H fun v H1=>∃x,v=.str x/\x.cps.all (· < 128)=true/\R (S4 x) H1):=by
 intro af s σ H R I h;refine cf (hl af s σ H _ I h) fun v s1⟨y,H1,I1,r1,q1⟩=>?_;obtain⟨x,e,ha,q⟩:=q1;subst e;obtain⟨t,rfl⟩:=r1;refine wpAny_pyIter_ascii ha ?_;refine⟨s1.heap.objs.size,[s1.heap.objs.size],_,_,H1,rfl,I1.kept (t':=s1.toks) fun b o e=>Vm _ e,AQ _ x t,⟨_,VN _ rfl,rfl,rfl⟩,fun b hb=>?_,q⟩;have e:b=s1.heap.objs.size:=by simpa using hb
 subst e;exact I1.zJ (Vq _) (I1.b_.fresh (Vq _))
end
end L2
namespace MN
open PySem.Spec L2
open PyProof.Rows hiding St kindOf
def O6:F2
 |.str a,.str b,st=>.ok (.bl (Txt.startswith a b)) st
 |_,_,_=>.bad
def Vj:av->Option Str
 |.str a=>some a
 |_=>none
def qu(m:ME)(k:Str->Env->aj->cX av):ME:=fun μ st=>(m μ st).bind fun v st1=>match v with
 |.str a=>k a μ st1
 |_=>.bad
def gK(mo me:ME):ME:=qu mo fun a μ st=>(me μ st).bind fun v st2=>match v with
 |.str b=>.ok (.bl (Txt.startswith a b)) st2
 |_=>.bad
def gT(mo me:ME):ME:=qu mo fun a μ st=>if a.length<=sizeLine then(me μ st).bind fun v st2=>match v with
 |.str b=>if(b.length==0)=false/\(Builtin.Str.partsBetween a (Builtin.Str.occurrences a b 0 a.length (a.length+1)) b.length).length<=sizeLine/\(Txt.split a b).length<=sizeLine then .ok (.loc st2.length) (st2++[.lst ((Txt.split a b).map .str)])else .bad
 |_=>.bad else .bad
def strsOf:List av->Option (_z)
 |[]=>some []
 |.str a::r=>(strsOf r).map (a :: ·)
 |_::_=>none
theorem pF:∀{us:List av}{xs:_z},strsOf us=some xs->us=xs.map .str
 |[],xs,h=>by cases h;rfl
 |u::us,xs,h=>by
  cases u with
  |str a=>
   unfold strsOf at h;cases e:strsOf us with
   |none=>rw[e]at h;cases h
   |some r=>
    rw[e]at h;cases h;rw[Vp,pF e]
  |_=>cases h
theorem AR(xs:_z):strsOf (xs.map .str)=some xs:=by
 induction xs with
 |nil=>rfl
 |cons x xs ih=>rw[Vp];unfold strsOf;rw[ih];rfl
def eJ(mo me:ME):ME:=qu mo fun a μ st=>(me μ st).bind fun v st2=>match v with
 |.loc n=>match au st2 n with
  |some us=>match strsOf us with
   |some xs=>if JoinOk a xs=true then .ok (.str (Txt.join a xs)) st2 else .bad
   |none=>.bad
  |none=>.bad
 |_=>.bad
def fW(m:ME)(lo hi:MO):ME:=qu m fun z μ st=>(lo μ st).bind fun l st2=>(hi μ st2).bind fun h fP=>if z.length<=sizeLine then .ok (.str (Txt.slice z l h)) fP else .bad
def pG(m:ME):MI:=fun μ st=>(m μ st).bind fun v ax=>match v with
 |.str x=>if x.cps.all (· < 128)=true then .ok ((La x).map .str,fun _=>True) ax else .bad
 |_=>.bad
def N5:F2
 |.str i,.str j,st=>.ok (.bl (!(Builtin.Str.occurrences j i 0 j.length 1).isEmpty)) st
 |_,_,_=>.bad
def gy:FN
 |[.int i],st=>if i.natAbs.log2<1920 then .ok (.str (toString i)) st else .bad
 |_,_=>.bad
def Bs:F2
 |.mt us,.int i,st=>match m5 us i with
  |some v=>.ok v st
  |none=>.bad
 |_,_,_=>.bad
theorem a_.yO{K:_u}{ρ:_y}{H:Hp}:∀{xs:_z}{vs:List V},a_ K ρ H (xs.map .str) vs->vs=xs.map V.str
 |[],vs,h=>h.fe
 |x::xs,vs,h=>by obtain⟨v,r,rfl,h2,h3⟩:=a_.cP h;rw[Vp,h2.fg,a_.yO h3]
theorem a_.strs{K:_u}{ρ:_y}{H:Hp}:∀xs:_z,a_ K ρ H (xs.map .str) (xs.map V.str)
 |[]=>a_.nil
 |x::xs=>a_.cons (Rl.mkStr x) (a_.strs xs)
section
variable{X:Cx}{E:XK}{o e i:Expr}{mo me mi:ME}{apos bT pos p2:Pos}
theorem AU(ho:PE X o (tE X E mo))(he:PE X e (tE X E me))(hb:attributeBase o "startswith" X.env (eval o X.env)=eval o X.env:=by rfl)(hs:starEach [e] X.env=[(false,eval e X.env)]:=by rfl)(hl:(apos.endLine==bT.line)=true:=by rfl):
  PE X (.Call (.Attribute o "startswith" apos) [e] [] bT) (tE X E (gK mo me)):=by
 refine PE.imp (AN ho he hb hs hl) ?_;rintro σ H Q ⟨μ,ρ,st,rs,sr,h⟩;refine go μ ρ st rs sr h fun u st1 ρ1 H1 x e1 bP r1 h1=>?_;cases u with
 |str a=>
  refine⟨a,r1.fg,?_⟩;refine go μ ρ1 st1 (rs.mono e1) bP h1 fun v st2 ρ2 H2 y e2 ir r2 h2=>?_;cases v with
  |str b=>exact⟨b,r2.fg,iO ir h2⟩
  |_=>exact h2.elim
 |_=>exact h1.elim
theorem AV(ho:PE X o (tE X E mo))(he:PE X e (tE X E me))(hb:attributeBase o "split" X.env (eval o X.env)=eval o X.env:=by rfl)(hs:starEach [e] X.env=[(false,eval e X.env)]:=by rfl)(hl:(apos.endLine==bT.line)=true:=by rfl):
  PE X (.Call (.Attribute o "split" apos) [e] [] bT) (tE X E (gT mo me)):=by
 refine PE.imp (AO ho he hb hs hl) ?_;rintro σ H Q ⟨μ,ρ,st,rs,sr,h⟩;refine go μ ρ st rs sr h fun u st1 ρ1 H1 x e1 bP r1 h1=>?_;cases u with
 |str a=>
  dsimp only at h1;split at h1
  .rename_i ha;refine⟨a,r1.fg,ha,?_⟩;refine go μ ρ1 st1 (rs.mono e1) bP h1 fun v st2 ρ2 H2 y e2 ir r2 h2=>?_;cases v with
   |str b=>
    dsimp only at h2;split at h2
    .rename_i hz;refine⟨b,r2.fg,hz.1,hz.2.1,hz.2.2,fun p hp=>?_⟩;obtain⟨k1,k2,k3⟩:=eO ir (a_.strs (Txt.split a b)) hp;exact h2 _ _ _ k1 k2 k3
    .exact h2.elim
   |_=>exact h2.elim
  .exact h1.elim
 |_=>exact h1.elim
theorem Dt(ho:PE X o (tE X E mo))(he:PE X e (tE X E me))(hb:attributeBase o "join" X.env (eval o X.env)=eval o X.env:=by rfl)(hs:starEach [e] X.env=[(false,eval e X.env)]:=by rfl)(hl:(apos.endLine==bT.line)=true:=by rfl):
  PE X (.Call (.Attribute o "join" apos) [e] [] bT) (tE X E (eJ mo me)):=by
 refine PE.imp (Ds ho he hb hs hl) ?_;rintro σ H Q ⟨μ,ρ,st,rs,sr,h⟩;refine go μ ρ st rs sr h fun u st1 ρ1 H1 x e1 bP r1 h1=>?_;cases u with
 |str a=>
  refine⟨a,r1.fg,?_⟩;refine go μ ρ1 st1 (rs.mono e1) bP h1 fun v st2 ρ2 H2 y e2 ir r2 h2=>?_;cases v with
  |loc n=>
   dsimp only at h2;cases z:au st2 n with
   |none=>rw[z]at h2;exact h2.elim
   |some us=>
    rw[z]at h2;dsimp only at h2;cases q:strsOf us with
    |none=>rw[q]at h2;exact h2.elim
    |some xs=>
     rw[q]at h2;dsimp only at h2;split at h2
     .rename_i hj;obtain⟨b,rfl,hb⟩:=r2.d?;obtain⟨vs,hv,rv⟩:=bp ir z hb;rw[pF q]at rv;rw[a_.yO rv]at hv;exact⟨b,xs,rfl,hv,hj,h2 ρ2 H2 _ (aF.refl _ _) ir (Rl.mkStr _)⟩
     .exact h2.elim
  |_=>exact h2.elim
 |_=>exact h1.elim
theorem Lb{lo hi:Option Expr}{ml mh:MO}(he:PE X e (tE X E me))(hl:PO X lo (LR X E ml))(hh:PO X hi (LR X E mh)):PE X (.Subscript e (.Slice lo hi none p2) pos) (tE X E (fW me ml mh)):=by
 refine PE.imp (uA K' he hl hh) ?_;rintro σ H Q ⟨μ,ρ,st,rs,sr,h⟩;refine go μ ρ st rs sr h fun u st1 ρ1 H1 x e1 bP r1 h1=>?_;cases u with
 |str z=>
  refine go (R1:=RO) μ ρ1 st1 (rs.mono e1) bP h1 fun l st2 ρ2 H2 l' e2 ir r2 h2=>?_;cases r2;refine go (R1:=RO) μ ρ2 st2 ((rs.mono e1).mono e2) ir h2 fun k fP ρ3 H3 k' e3 nF r3 h3=>?_;cases r3;split at h3
  .rename_i hz;exact⟨z,r1.fg,hz,h3 ρ3 H3 _ (aF.refl _ _) nF (Rl.mkStr _)⟩
  .exact h3.elim
 |_=>exact h1.elim
theorem GN{tg l:Expr}{m:ME}(hl:PE X l (tE X E m)):PI X tg l (tI X E (pG m)):=by
 refine PI.imp (GL hl) ?_;rintro σ H R ⟨μ,ρ,st,rs,sr,h⟩;refine go μ ρ st rs sr h fun u st1 ρ1 H1 x e1 bP r1 h1=>?_;cases u with
 |str x=>
  dsimp only at h1;split at h1
  .rename_i ha;refine⟨x,r1.fg,ha,h1 ρ1 H1 _ (aF.refl _ _) bP ?_⟩;intro ρ' ax H' e s g i;have hl:((La x).map av.str).length=x.length:=by unfold La;rw[Vn,Vn,VB];rfl
   refine⟨fun u hu=>?_,fun hi=>by rw[hl]at hi;exact hi⟩;have lt:i<x.length:=by have:=fh hu;rw[hl]at this;exact this
   refine⟨lt,?_⟩;rintro v H2 ⟨rfl,c,hc,rfl⟩;have:u=.str ⟨#[c]⟩:=by unfold La at hu;rw[VU,VU,WD,hc]at hu;cases hu;rfl
   subst this;exact⟨aF.refl _ _,s,Rl.mkStr _⟩
  .exact h1.elim
 |_=>exact h1.elim
theorem Lc:dZ X (compareOp .In) (rM (wo X) E N5):=by
 refine dZ.imp zP ?_;rintro x y H Q ⟨ρ,st,u,w,sr,r1,r2,h⟩;cases u with
 |str a=>
  cases w with
  |str b=>exact⟨a,b,r1.fg,r2.fg,iO sr h⟩
  |_=>exact h.elim
 |_=>exact h.elim
theorem AW:b6 X (.type "str") (cM (wo X) E gy):=by
 refine b6.imp rS ?_;rintro xs H Q ⟨ρ,st,us,sr,r,h⟩;unfold gy at h;split at h
 .rename_i i;obtain⟨v,rfl,r1⟩:=r.wq;split at h
  .rename_i hi;exact⟨i,by rw[r1.cE],hi,h ρ H _ (aF.refl _ _) sr (Rl.mkStr _)⟩
  .exact h.elim
 .exact h.elim
end
end MN
namespace L2
open PySem.Spec PyProof.Rows
section
variable{X:Cx}
theorem Ld{a b:Expr}{ta tb:TE}{k:Str}{j:Nat}{p1 p2 p3 pos:Pos}(ha:PE X a ta)(hb:PE X b tb):
  PE X (.JoinedStr [.FormattedValue a (-1) none p1,.Constant (.str k) j p2,.FormattedValue b (-1) none p3] pos)
   (fun σ H Q=>ta σ H fun x H1=>∃z,x=.str z/\z.length<=sizeLine/\(z++k).length<=sizeLine/\tb σ H1 fun y H2=>∃i:Int,y=.int i/\i.natAbs.log2<1920/\(z++k++(toString i:Str)).length<=sizeLine/\Q (.str (z++k++(toString i:Str))) H2):=by
 intro af s σ H Q I h;refine JoinedStr_many (joinParts_cons (FormattedValue_plain (cf (ha af s σ H _ I h) fun v s1⟨x,H1,I1,r1,z,e1,hz,Us,q1⟩=>?_)));subst e1;obtain⟨t,rfl⟩:=r1;refine SB.field_str (fun t' tk=>?_) hz;have e0:Str.empty++z=z:=Str.append_left_empty rfl;dsimp only;rw[e0];refine⟨hz,joinParts_cons (Calls.Constant_str ⟨Us,joinParts_cons (FormattedValue_plain (cf (hb af _ σ H1 _ (I1.tok _) q1) fun u s2⟨y,H2,I2,r2,i,e2,hi,hl,q2⟩=>?_))⟩)⟩;subst e2;obtain⟨t2,rfl⟩:=r2;refine formatField_int_small hi ?_;exact⟨hl,joinParts_nil ⟨.str _,H2,I2.tok _,⟨_,rfl⟩,q2⟩ hl⟩
end
def eV{α:Type}(xs:List α)(i k:Int):List α:=(sliceRange (max 0 (min i (xs.length:Int))) xs.length k).filterMap fun i=>xs[i]?
theorem vq{α:Type}(xs:List α)(i:Int){k:Int}(hk:0<k):(eV xs i k).length<=xs.length:=by unfold eV;refine VR (List.length_filterMap_le _ _) ?_;have:=sliceRange_len_le (max 0 (min i (xs.length:Int))) (xs.length:Int) k (by lia);rw[Vo hk]at this;lia
section
variable{X:Cx}
theorem xt{e el es:Expr}{te tl ts:TE}{pos p2:Pos}(he:PE X e te)(hl:PE X el tl)(hs:PE X es ts):
  PE X (.Subscript e (.Slice (some el) none (some es) p2) pos) (fun σ H Q=>te σ H fun x H1=>tl σ H1 fun z H2=>ts σ H2 fun y H3=>∃a xs i k,x=.ref a/\z=.int i/\y=.int k/\0<=i/\0<k/\j9 X.K H3 a xs/\∀p,H3 p=none->Q (.ref p) (upd H3 p (.lst (eV xs i k)))):=by
 intro af s σ H Q I h;refine ZJ (cf (he af s σ H _ I h) fun v s1⟨x,H1,I1,r1,q1⟩=>?_);refine wpAny_Slice ?_;rw[Y5];refine cf (hl af s1 σ H1 _ I1 q1) fun v2 s2⟨z,H2,I2,r2,q2⟩=>?_;rw[Y6];refine Vv ?_;rw[Y5];refine cf (hs af s2 σ H2 _ I2 q2) fun v3 s3⟨y,H3,I3,r3,a,xs,i,k,e1,e2,e3,hi,hk,hx,q⟩=>?_;subst e1 e2 e3;cases r1;obtain⟨ti,rfl⟩:=r2;obtain⟨tk,rfl⟩:=r3;have I4:aH X af σ H3 {s3 with heap:=s3.heap.push {cls:=.type "slice",data:=.fields #[.int i ti,.none,.int k tk]} }:=I3.kept (t':=s3.toks) fun b ob q=>Vm _ q;show wpAny (model X.prog X.w) X.A (subscriptTail e (.Slice (some el) none (some es) p2) (.ref a) (.ref s3.heap.objs.size)) (EP X af σ Q) X.xe {s3 with heap:=s3.heap.push {cls:=.type "slice",data:=.fields #[.int i ti,.none,.int k tk]} };obtain⟨aD,r,ht,hz⟩:=I4.list hx;have hlen:aD.toArray.size=xs.length:=by rw[VD];exact r.length.symm
 refine tail_any (ops:=[.ref a,.ref s3.heap.objs.size]) ht.isList.typeIs Yj.lookup ?_ (by with_unfolding_all rfl);refine Yk ht.isList (Zb ..) (.int i ti) .none (.int k tk) (by intro z;injection z with z;lia) ?_ (by rw[hlen];exact hz);have ep:slicePick aD.toArray (some i) none (some k)=(eV aD i k).toArray:=by
  have b1:(sliceBounds (some i) none (some k) aD.toArray.size).1=max 0 (min i (aD.length:Int)):=by show(if k>0 then max 0 (min (if i<0 then i+((aD.toArray.size:Nat):Int)else i) ((aD.toArray.size:Nat):Int))else _)=_;rw[Vo hk,Vu (by lia),VD]
  have b2:(sliceBounds (some i) none (some k) aD.toArray.size).2.1=(aD.length:Int):=by show(if k>0 then((aD.toArray.size:Nat):Int)else _)=_;rw[Vo hk,VD]
  have b3:(sliceBounds (some i) none (some k) aD.toArray.size).2.2=k:=rfl;unfold slicePick eV;rw[b1,b2,b3];simp only[X5]
 rw[ep];refine⟨.ref _,_,I4.laid (t':=s3.toks) (o:=.lst (eV xs i k)) (fun b ob q=>Vm _ q) (Vq _) ?_,rfl,q _ (I4.b_.fresh (Vq _))⟩;refine⟨VR (vq xs i hk) hz,_,0,?_,VN _ rfl⟩;unfold eV;rw[show aD.length=xs.length from r.length.symm];exact jH _ r
end
end L2
namespace MN
open PySem.Spec L2
open PyProof.Rows hiding St kindOf
def k7(v l k:av)(st:aj):cX av:=match v,l,k with
 |.loc n,.int i,.int k=>match au st n with
  |some us=>if 0<=i/\0<k then .ok (.loc st.length) (st++[.lst (eV us i k)])else .bad
  |none=>.bad
 |_,_,_=>.bad
def eM(m ml mk:ME):ME:=fun μ st=>(m μ st).bind fun v st1=>(ml μ st1).bind fun l st2=>(mk μ st2).bind fun k fP=>k7 v l k fP
def AX(k:Str)(z:Str)(i:Int):Str:=z++k++(toString i:Str)
def xu(k:Str)(ma mb:ME):ME:=qu ma fun z μ st=>if z.length<=sizeLine/\(z++k).length<=sizeLine then(mb μ st).bind fun v st2=>match v with
 |.int i=>if i.natAbs.log2<1920/\(AX k z i).length<=sizeLine then .ok (.str (AX k z i)) st2 else .bad
 |_=>.bad else .bad
section
variable{X:Cx}{E:XK}{e el es a b:Expr}{m ml mk ma mb:ME}{pos p1 p2 p3:Pos}
theorem xw(he:PE X e (tE X E m))(hl:PE X el (tE X E ml))(hs:PE X es (tE X E mk)):PE X (.Subscript e (.Slice (some el) none (some es) p2) pos) (tE X E (eM m ml mk)):=by
 refine PE.imp (xt he hl hs) ?_;rintro σ H Q ⟨μ,ρ,st,rs,sr,h⟩;refine go μ ρ st rs sr h fun u st1 ρ1 H1 x e1 bP r1 h1=>?_;refine go μ ρ1 st1 (rs.mono e1) bP h1 fun l st2 ρ2 H2 y e2 ir r2 h2=>?_;refine go μ ρ2 st2 ((rs.mono e1).mono e2) ir h2 fun k fP ρ3 H3 z e3 nF r3 h3=>?_;have Q7:=Rl.mono e3 _ _ (Rl.mono e2 _ _ r1);have Ut:=Rl.mono e3 _ _ r2;cases u with
 |loc n=>
  cases l with
  |int i=>
   cases k with
   |int k=>
    unfold k7 at h3;dsimp only at h3;cases hn:au fP n with
    |none=>rw[hn]at h3;exact h3.elim
    |some us=>
     rw[hn]at h3;dsimp only at h3;split at h3
     .rename_i hk;obtain⟨a,rfl,ha⟩:=Q7.d?;obtain⟨vs,h4,rv⟩:=bp nF hn ha;refine⟨a,vs,i,k,rfl,Ut.cE,r3.cE,hk.1,hk.2,h4,fun p hp=>?_⟩;have rr:a_ X.K ρ3 H3 (eV us i k) (eV vs i k):=by unfold eV;rw[show us.length=vs.length from rv.length];exact k6 _ rv
      obtain⟨k1,k2,k3⟩:=eO nF rr hp;exact h3 _ _ _ k1 k2 k3
     .exact h3.elim
   |_=>exact h3.elim
  |_=>exact h3.elim
 |_=>exact h3.elim
theorem N6:uh X (rM (wo X) E Bs):=by
 refine uh.imp L2.rY ?_;rintro x y H Q ⟨ρ,st,u,w,sr,r1,r2,h⟩;cases u<;>cases w<;>try exact h.elim
 case mt.int us i=>
  unfold Bs at h;dsimp only at h;split at h
  .rename_i v e;obtain⟨a,vs,rfl,ha,ra⟩:=r1.QK;obtain⟨z,h1,h2⟩:=ra.m5 e;exact⟨a,vs,i,z,rfl,r2.cE,ha,h1,h ρ H z (aF.refl _ _) sr h2⟩
  .exact h.elim
theorem Le{k:Str}{j:Nat}(ha:PE X a (tE X E ma))(hb:PE X b (tE X E mb)):PE X (.JoinedStr [.FormattedValue a (-1) none p1,.Constant (.str k) j p2,.FormattedValue b (-1) none p3] pos) (tE X E (xu k ma mb)):=by
 refine PE.imp (Ld ha hb) ?_;rintro σ H Q ⟨μ,ρ,st,rs,sr,h⟩;refine go μ ρ st rs sr h fun u st1 ρ1 H1 x e1 bP r1 h1=>?_;cases u with
 |str z=>
  dsimp only at h1;split at h1
  .rename_i hz;refine⟨z,r1.fg,hz.1,hz.2,?_⟩;refine go μ ρ1 st1 (rs.mono e1) bP h1 fun v st2 ρ2 H2 y e2 ir r2 h2=>?_;cases v with
   |int i=>
    dsimp only at h2;split at h2
    .rename_i hi;exact⟨i,r2.cE,hi.1,hi.2,h2 ρ2 H2 _ (aF.refl _ _) ir (Rl.mkStr _)⟩
    .exact h2.elim
   |_=>exact h2.elim
  .exact h1.elim
 |_=>exact h1.elim
end
end MN
namespace L2
open PySem.Spec PyProof.Rows
section
variable{X:Cx}
theorem GO{i:Nat}{x:Str}{e:Expr}{te:Na}{pos pos':Pos}(hN:X.N.Nodup)(hi:X.N[i]?=some x)(hx:Loc X.env.scope x)(he:EI X e te)(hs:swapsWith e (some (.Name x pos')) pos.line X.env=pure false:=by rfl)(hf:X.fn x=true\/X.env.scope.names.lookup x=some .local:=by first|exact .inl rfl|exact .inr rfl|assumption):
  FG X (.Assign [.Name x pos'] e pos) (fun D EX σ H=>te σ H (fun v H1=>D.nx (σ.set i (some v)) H1) fun cls ea H'=>EX cls ea σ H'):=by
 intro af s σ H D EX I h;refine wpAny_Assign_Name (V8 (he af s σ H _ _ I h) (fun v s1⟨y,H1,I1,r1,q1⟩=>?_) fun _ _ q=>q.at) hs;exact oE I1 hN hi hx r1 (fun s2 I2=>⟨_,H1,I2,q1⟩) hf
end
end L2
namespace MN
open PySem.Spec L2
open PyProof.Rows hiding St kindOf
section
variable{X:Cx}{pos:Pos}{e:Expr}{m:ME}
theorem GP(i:Nat){x:Str}{pos':Pos}(hN:X.N.Nodup)(he:EI X e (OW X m))(hi:X.N[i]?=some x:=by rfl)(hx:Loc X.env.scope x:=by first|exact Or.inl rfl|exact Or.inr rfl)(hs:swapsWith e (some (.Name x pos')) pos.line X.env=pure false:=by rfl)(hf:X.fn x=true\/X.env.scope.names.lookup x=some .local:=by first|exact .inl rfl|exact .inr rfl|assumption):FG X (.Assign [.Name x pos'] e pos) (LQ X (aE i m)):=by refine FG.imp (GO hN hi hx he hs hf) ?_;rintro D EX σ H ⟨μ,ρ,st,rs,sr,h⟩;exact Kh rs sr h fun u st1 ρ1 H1 x e1 bP r1 h1=>h1 ρ1 H1 _ (aF.refl _ _) bP ((rs.mono e1).set i r1)
end
end MN
namespace L2
open PySem.Spec PyProof.Rows
section
variable{pg:_E}{w:World}{B:_D}{EE:_r}{z:_B}
theorem vt{a t:_C}{i:Nat}{xs:Array _A}{x:_A}{R:_r}(ha:z.heap.IsTupleIter a t i)(ht:z.heap.IsTuple t xs)(hx:xs[i]?=some x)(k:∀y,y.IsTupleIter a t (i+1)->Heap.SameBut a z.heap y->R x {z with heap:=y}):wpAny (model pg w) B (Builtin.SmallTypes.nextOf (.ref a)) R EE z:=by obtain⟨q,e1,e2,e3⟩:=id ha;obtain⟨r,f1,_,nn,f2⟩:=ht;unfold Builtin.SmallTypes.nextOf;refine Vk (Wk (name:=Str.ofString "__next__") ha.typeIs Wl (WG Wl ha.typeIs Xs ?_ (Xp _)));show wpAny _ _ (field (.ref a) 0 >>= _) _ _ z;refine Vk (Wg e1 e3 (x:=.ref t) rfl ?_);show wpAny _ _ (if(Value.ref t==Value.none)=true then _ else _) _ _ z;rw[Vu (show ¬ ((Value.ref t==Value.none)=true)from nofun)];show wpAny _ _ (field (.ref a) 1 >>= _) _ _ z;refine Vk (Wg e1 e3 (x:=.int i 0) rfl ?_);show wpAny _ _ (seqItems? (.ref t) >>= _) _ _ z;refine Vk (WM f1 f2 ?_);simp only[WY,hx];refine Vk (Xv e1 e3 (by simp) (Vv ⟨x,rfl,Vv (k _ ?_ (W? ..))⟩));exact⟨_,Xr _ e1 (X0 (WW e3 _)),(Zh ..).trans e2,by rw[WW e3];simp[rawInt]⟩
theorem pH{a t:_C}{i:Nat}{xs:Array _A}{R:_r}(hB:B.handled=none)(ha:z.heap.IsTupleIter a t i)(ht:z.heap.IsTuple t xs)(hx:xs[i]?=none)(k:∀y e,Heap.ExtBut a z.heap y->(∃o,y.get? e=some o/\o.cls=.type "StopIteration")->EE (.ref e) {z with heap:=y}):wpAny (model pg w) B (Builtin.SmallTypes.nextOf (.ref a)) R EE z:=by
 obtain⟨q,e1,e2,e3⟩:=id ha;obtain⟨r,f1,_,nn,f2⟩:=ht;unfold Builtin.SmallTypes.nextOf;refine Vk (Wk (name:=Str.ofString "__next__") ha.typeIs Wl (WG Wl ha.typeIs Xs ?_ (Xp _)));show wpAny _ _ (field (.ref a) 0 >>= _) _ _ z;refine Vk (Wg e1 e3 (x:=.ref t) rfl ?_);show wpAny _ _ (if(Value.ref t==Value.none)=true then _ else _) _ _ z;rw[Vu (show ¬ ((Value.ref t==Value.none)=true)from nofun)];show wpAny _ _ (field (.ref a) 1 >>= _) _ _ z;refine Vk (Wg e1 e3 (x:=.int i 0) rfl ?_);show wpAny _ _ (seqItems? (.ref t) >>= _) _ _ z;refine Vk (WM f1 f2 ?_);simp only[WY,hx];refine Vk (Xh (Vk (Xv e1 e3 (by simp) ?_)));refine Vk (m:=newExc (.type "StopIteration") []) ?_;simp only[newExc,newTuple];refine Vk (Wf (Vk (m:=firstArgMember _ _) (Zs (a:=Value.none) (by first|rfl|(simp only[firstArgMember];rfl)) ?_)) (by size_fits));refine Wf ?_ (by size_fits);simp only[raiseNew];refine Vk (ZS ?_)
 first|rw[show B.in1.handled=none from hB]|rw[hB]
 exact Vk (Vv (Zr (k _ _ (((W? ..).extBut.push _).push _) ⟨_,VN _ rfl,rfl⟩)))
end
theorem Lf{pg:_E}{w:World}{B:_D}(hB:B.handled=none)(it l:_C)(ne:l≠it)(xs:Array _A):Draws pg w B it [it,l] xs.size (fun i v=>xs[i]?=some v) (fun i h=>h.IsTupleIter it l i/\h.IsTuple l xs) where
 live:=fun _ _ st=>let⟨o,ho,_⟩:=st.1;⟨o,ho⟩
 frame:=fun _ _ _ st hk=>⟨st.1.at fun o e=>hk it (by simp) o e,let⟨o,e,r⟩:=st.2;⟨o,hk l (by simp) o e,r⟩⟩
 item:=fun i s Q E hi st hQ=>vt st.1 st.2 (x:=xs[i]) (by simp[hi]) fun y h1 h2=>hQ _ y s.toks (by simp[hi]) ⟨h1,st.2.extBut h2.extBut ne⟩ h2
 done:=fun s Q E st hE=>pH hB st.1 st.2 (by simp) hE
theorem Lg{pg:_E}{w:World}{B:_D}(hB:B.handled=none)(it l:_C)(xs:Array _A)(i:Nat)(hx:xs.size<=i):Draws pg w B it [it,l] i (fun _ _=>True) (fun j h=>j=i/\h.IsTupleIter it l j/\h.IsTuple l xs) where
 live:=fun _ _ st=>let⟨o,ho,_⟩:=st.2.1;⟨o,ho⟩
 frame:=fun _ _ _ st hk=>⟨st.1,st.2.1.at fun o e=>hk it (by simp) o e,let⟨o,e,r⟩:=st.2.2;⟨o,hk l (by simp) o e,r⟩⟩
 item:=fun j s Q E hj st hQ=>absurd st.1 (by lia)
 done:=fun s Q E st hE=>pH hB st.2.1 st.2.2 (by simp[hx]) hE
section
variable{pg:_E}{w:World}{B:_D}{EE:_r}{z:_B}
open AutoSeq1 (wpAny_loadPart') in
theorem AY(l:_C)(xs:Array _A)(n:Nat)(Q8:Option _C)(sl:Array (_x)):
  Meets (Builtin.«enumerate.__new__» ⟨[.type "enumerate",.ref l],[]⟩) (fun _ R s=>s.heap.get? l=some {cls:=.type "tuple",dict:=Q8,data:=.seq xs n,slots:=sl}/\R (.ok (.ret (.ref (s.heap.push {cls:=.type "tuple_iterator",data:=.fields #[.ref l,.int 0 0]}).objs.size)))
    {s with heap:=(s.heap.push {cls:=.type "tuple_iterator",data:=.fields #[.ref l,.int 0 0]}).push {cls:=.type "enumerate",data:=.fields #[.none,.bool false,.ref s.heap.objs.size,rawInt 0,.none,.none]} }):=
 .of_wp fun pg w A R s h=>by
  obtain⟨hp,g,d,tk,os⟩:=s;obtain⟨hl,h⟩:=h;have QE:=sub_enumerate;have hT:Heap.IsTuple (Shared.heap ⟨hp,g,d,tk,os⟩) l xs:=⟨_,hl,rfl,n,rfl⟩
  wp_walk using YD hl
  refine wpAny_stack_any fun st=>Vv ?_;split
  .rename_i c _ _ _ _ _;cases(c==Value.type "enumerate")
   .wp_walk using YD hl,Xi hT
    exact⟨_,rfl,h⟩
   .wp_walk using YD hl,Xi hT
    exact⟨_,rfl,h⟩
  .wp_walk using YD hl,Xi hT
   exact⟨_,rfl,h⟩
theorem Du{l:_C}{xs:Array _A}{Q:_r}(hL:z.heap.IsTuple l xs)(h:∀h',IsEnum h' (z.heap.objs.size+1) z.heap.objs.size 0 .none->h'.IsTupleIter z.heap.objs.size l 0->(∀b o,z.heap.get? b=some o->h'.get? b=some o)->Q (.ref (z.heap.objs.size+1)) {z with heap:=h'}):wpAny (model pg w) B (call (.type "enumerate") [.ref l]) Q EE z:=by
 obtain⟨⟨c,Q8,dt,sl⟩,hl,hc,n,hd⟩:=hL;dsimp only at hc hd;subst hc hd;refine callType_new F.called_enumerate (by decide) (F.typeCall_enumerate_1 _) (F.newCall_enumerate_1 _) (fun obj=>F.args_object_init_2 obj _) F.entry_enumerate_new (AY l xs n Q8 sl) ⟨hl,?_⟩;have hz:(z.heap.push {cls:=.type "tuple_iterator",data:=.fields #[.ref l,.int 0 0]}).objs.size=z.heap.objs.size+1:=Xa ..;show _/\_;rw[hz];have he:IsEnum ((z.heap.push {cls:=.type "tuple_iterator",data:=.fields #[.ref l,.int 0 0]}).push {cls:=.type "enumerate",data:=.fields #[.none,.bool false,.ref z.heap.objs.size,rawInt 0,.none,.none]}) (z.heap.objs.size+1) z.heap.objs.size 0 .none:=by have:=VN (z.heap.push {cls:=.type "tuple_iterator",data:=.fields #[.ref l,.int 0 0]}) (o:={cls:=.type "enumerate",data:=.fields #[.none,.bool false,.ref z.heap.objs.size,rawInt 0,.none,.none]}) rfl;rw[hz]at this;exact this
 exact⟨⟨_,he,rfl⟩,h _ he ⟨_,Vm _ (VN _ rfl),rfl,rfl⟩ fun b o x=>Vm _ (Vm _ x)⟩
end
def S5(K:_u)(a:_C):It:=
 ⟨fun i H=>∃xs x,iW K H a xs/\xs[i]?=some x,
  fun i H v H'=>∃p x,v=.ref p/\H p=none/\H'=upd H p (.tup [.int i,x])/\∀xs,iW K H a xs->xs[i]?=some x,
  fun i H=>∃xs,iW K H a xs/\xs.length<=i⟩
theorem Dv{P:_E}{w:World}{K:_u}{elts:List Expr}{kt:Nat}{tp:Pos}{e it:_C}(a:_C)(ne:e≠it)(ne1:a≠it)(ne2:e≠a):
  Turn P w K (.Tuple elts kt tp) (S5 K a) [e,it] e (fun i h=>(∃old,IsEnum h e it (i:Int) old)/\h.IsTupleIter it a i) where
 mem:=by simp
 obj:=fun i h⟨⟨old,he⟩,hi⟩c hc=>by
  have c9:c=e\/c=it:=by simpa using hc
  rcases c9 with rfl|rfl
  .exact⟨_,he,fun v q=>by have q':Data.fields _=Data.cell v:=q;cases q'⟩
  .obtain⟨o,e',c,d⟩:=hi;exact⟨o,e',fun v z=>by rw[d]at z;cases z⟩
 keep:=fun i h h'⟨⟨old,he⟩,hi⟩k=>⟨⟨old,k e (by simp) _ he⟩,hi.at fun o e'=>k it (by simp) o e'⟩
 item:=by
  intro X hP hw hK hc i af s σ H E I hf st hg;subst hP hw hK;obtain⟨⟨old,he⟩,hi⟩:=st;obtain⟨xs,x,sx,ex⟩:=hg;obtain⟨aD,rv,p,_⟩:=I.tuple sx;obtain⟨ux,ON,rx⟩:=rv.get ex;have fz:=hf e (by simp);have uN:i<aD.toArray.size:=by obtain⟨h,_⟩:=VW.mp ON;simpa using h
  have hn:X.A.in1.handled=none:=I.ok.hd hc;refine wpAny_pyNext_enum_itemD (Lf hn it a ne1 aD.toArray) he ⟨hi,p⟩ uN ne (by simp[ne,ne2]) fun u h' tk a0 a1 a2 a3 a4 a5=>⟨_,rfl,?_⟩
  have eu:u=ux:=by rw[X5,ON]at a0;exact(V? a0).symm
  subst eu;have hT:H s.heap.objs.size=none:=I.b_.fresh (Vq _);have M_:∀c∈[e,it],H c=none:=fun c c9=>(hf c c9).1;have kp:∀c o,c ∉ [e,it]->s.heap.get? c=some o->h'.get? c=some o:=fun c o c9 q=>a5 c o (fun z=>c9 (by simp[z])) (fun z=>c9 (by simp[z])) q;have uq:∀c o,H c=some o->c ∉ [e,it]:=fun c o q c9=>by rw[M_ c c9]at q;cases q
  have b_:gZ X.prog X.w (upd H s.heap.objs.size (.tup [.int i,x])) h':=fun c o q=>by
   by_cases M!:c=s.heap.objs.size
   .subst M!;rw[cL]at q;cases q;exact⟨by show 2<=sizeLine;decide,[.int i tk,u],.cons ⟨_,rfl⟩ (.cons rx .nil),_,a3,rfl,_,rfl⟩
   .rw[aZ M!]at q;refine(I.b_ c o q).kG (fun d v hd z=>kp d v ?_ z) (fun d z=>by rw[aZ (aV z hT)];exact z) fun d zs z=>by rw[aZ (aV z hT)];exact z
    rcases hd with q'|q'
    .rw[q'];exact uq c o q
    .exact uq d _ q'
  have un:Un (d9 X.stack) [e,it] H (upd H s.heap.objs.size (.tup [.int i,x])) s.heap h':=
   ⟨fun c o q n _ c9=>kp c o c9 q,fun c o q n _ c9=>⟨o.slots,kp c o c9 q⟩,fun c o q n c9=>by rw[aZ (V2 (Vy q))];exact n,fun c o q c9=>⟨o,kp c o c9 q⟩,
    fun c zs q=>by rw[aZ (aV q hT)];exact q,fun c o u q=>by rw[aZ (aV q hT)];exact q,fun c ps q=>⟨#[],by rw[aZ (aV q hT),q];simp⟩⟩
  have I1:aH X af σ (upd H s.heap.objs.size (.tup [.int i,x])) {s with heap:=h',toks:=tk+1}:=I.qL rfl un b_ I.bare fun c c9=>by obtain⟨f0,f1,f2,f3,f4,f5⟩:=hf c c9;exact⟨f3,f1,f4,f5⟩
  have QG:∀c∈[e,it],c≠s.heap.objs.size:=fun c c9 q=>by
   have uN:c<s.heap.objs.size:=by
    have JG:c=e\/c=it:=by simpa using c9
    rcases JG with r|r
    .rw[r];exact Vy he
    .obtain⟨o,e',_⟩:=hi;rw[r];exact Vy e'
   exact absurd uN (by rw[q];exact V5 _)
  have EG:∀c∈[e,it],(upd H s.heap.objs.size (.tup [.int i,x])) c=none:=fun c c9=>by rw[aZ (QG c c9)];exact(hf c c9).1
  refine wpAny_letOwnedTupleGo_enum a1 fun Bo Q9 sb=>?_;obtain⟨f0,f1,f2,f3,f4,f5⟩:=fz;have I2:aH X af σ (upd H s.heap.objs.size (.tup [.int i,x])) {s with heap:=Bo,toks:=tk+1}:=I1.turned (s:={s with heap:=h',toks:=tk+1}) (t':=tk+1) (it:=e) (fun c o c9 q=>(sb.2 c c9).trans q) (EG e (by simp)) f1 f3 f4 f5;refine⟨.ref s.heap.objs.size,_,I2,rfl,⟨_,x,rfl,hT,rfl,fun zs hs=>by rw[I.jA hs sx];exact ex⟩,⟨⟨_,Q9⟩,a2.1.at fun o q=>sb.extBut _ o ne.symm q⟩,EG⟩
 done:=by intro X hP hw hK hc i af s σ H E I hf st hg;subst hP hw hK;obtain⟨⟨old,he⟩,hi⟩:=st;obtain⟨xs,sx,hl⟩:=hg;obtain⟨aD,rv,p,_⟩:=I.tuple sx;have l1:=rv.length;obtain⟨f0,f1,f2,f3,f4,f5⟩:=hf it (by simp);have hn:X.A.in1.handled=none:=I.ok.hd hc;exact wpAny_pyNext_enum_endD (Lg hn it a aD.toArray i (by simp;lia)) he ⟨rfl,hi,p⟩ fun h' eb=>⟨rfl,I.turned (t':=s.toks) (fun b o hb q=>eb b o hb q) f0 f1 f3 f4 f5⟩
 self:=fun _ _ _ _ _ st h=>by obtain⟨⟨old,he⟩,hi⟩:=st;exact wpAny_pyIter_enum he h
section
variable{X:Cx}{elts:List Expr}{kt:Nat}{tp p pos:Pos}
theorem Dw{a:Expr}{ta:TA}(hg:Gl X "enumerate")(hm:X.mg "enumerate" = none)(hv:bootBuiltins "enumerate" = some (.type "enumerate"))(ha:PA X [a] ta)(hs:starEach [a] X.env=[(false,eval a X.env)]:=by rfl):
  PI X (.Tuple elts kt tp) (.Call (.Name "enumerate" p) [a] [] pos) (fun σ H R=>ta σ H fun vs H1=>∃b xs,vs=[.ref b]/\iW X.K H1 b xs/\R (S5 X.K b) H1):=by
 intro af s σ H R I h;refine Call_ (iX I hg hm hv (WQ (cf (ha pos af s σ H _ I h) fun us s1⟨vs,H1,I1,r1,q1⟩=>?_) hs rfl));obtain⟨b,xs,e,hq,q⟩:=q1;subst e;obtain⟨u,rfl,ru⟩:=bg.one r1;cases ru;obtain⟨aD,rv,pl,hz⟩:=I1.tuple hq;have S6:b<s1.heap.objs.size:=let⟨_,e,_⟩:=pl;Vy e
 refine Du pl fun h' he hi kp=>?_;have I2:aH X af σ H1 {s1 with heap:=h'}:=I1.kept (t':=s1.toks) kp;have T:=Dv (P:=X.prog) (w:=X.w) (K:=X.K) (elts:=elts) (kt:=kt) (tp:=tp) (e:=s1.heap.objs.size+1) (it:=s1.heap.objs.size) b (Nat.succ_ne_self _) (V2 S6) (V2 (Z_ S6)).symm;refine T.self X.A 0 {s1 with heap:=h'} _ _ ⟨⟨_,he⟩,hi⟩ ?_;refine⟨s1.heap.objs.size+1,[s1.heap.objs.size+1,s1.heap.objs.size],_,_,H1,rfl,I2,T,⟨⟨_,he⟩,hi⟩,fun c hc=>?_,q⟩;have hle:s1.heap.objs.size<=c:=by
  have c9:c=s1.heap.objs.size+1\/c=s1.heap.objs.size:=by simpa using hc
  rcases c9 with r|r<;>(rw[r];first|exact Vq _|exact _g _ _)
 exact I1.zJ hle (I1.b_.fresh hle)
end
end L2
namespace MN
open PySem.Spec L2
open PyProof.Rows hiding St kindOf
def N7(vs:List av)(ax:aj):cX Itm:=match vs with
 |[.tup us]=>.ok (kT 0 us,fun _=>True) ax
 |_=>.bad
def s9(m:MA):MI:=fun μ st=>(m μ st).bind N7
section
variable{X:Cx}{E:XK}{tg:Expr}{pos p:Pos}
theorem Dx{elts:List Expr}{kt:Nat}{tp:Pos}{a:Expr}{m:MA}(hg:Gl X "enumerate")(hm:X.mg "enumerate" = none)(ha:PA X [a] (tL X E m))(hs:starEach [a] X.env=[(false,eval a X.env)]:=by rfl):PI X (.Tuple elts kt tp) (.Call (.Name "enumerate" p) [a] [] pos) (tI X E (s9 m)):=by
 refine PI.imp (Dw hg hm PyProof.Rows.Boot.«enumerate» ha hs) ?_;rintro σ H R ⟨μ,ρ,st,rs,sr,h⟩;refine go (R1:=a_ X.K) μ ρ st rs sr h fun us st1 ρ1 H1 xs e1 bP r1 h1=>?_;unfold N7 at h1;split at h1
 .rename_i ws;obtain⟨v,rfl,rv⟩:=r1.wq;obtain⟨b,vs,rfl,Nz,Uu⟩:=rv.gg;refine⟨b,vs,rfl,Nz,h1 ρ1 H1 _ (aF.refl _ _) bP ?_⟩;intro ρ' ax H' e s g i;have s1:=e.OR Nz;have t1:=a_.mono e _ _ Uu;refine⟨fun z hz=>?_,fun hi=>⟨vs,s1,?_⟩⟩
  .obtain⟨u,hu,rfl⟩:=u4 ws 0 i z hz;obtain⟨y,hy,ry⟩:=t1.get hu;refine⟨⟨vs,y,s1,hy⟩,fun x' OV y'=>?_⟩;obtain⟨pp,x1,rfl,hp,rfl,f1⟩:=y';have c1:=(f1 vs s1).symm.trans hy;cases c1;rw[Wb];exact⟨aF.same (dk hp),s.grow (dk hp),Rl.oV cL (a_.mono (aF.same (dk hp)) _ _ (a_.cons (Rl.mkInt _) (a_.one ry)))⟩
  .have wM:(kT 0 ws).length<=i:=hi;rw[l!]at wM;rw[<-t1.length];exact wM
 .exact h1.elim
end
end MN
namespace PM
open PySem.Spec L2 MN
open PyProof.Rows hiding St
def eR:av:=.mt ((["x","y","z","w"]:_z).map av.str)
def pI:av:=.mt ((["+","-"]:_z).map av.str)
def dN:FN:=fQ 2 2 (aA (dq (a! (aa 0)) (a7 (uQ (a! (ah ltV (aa 1) (mC (.int 0)))) (mC (.str "-")) (mC (.str "")))) aK) (a7 (uQ (a! (ah ltV (aa 1) (mC (.int 0)))) (mC (.str " - ")) (mC (.str " + ")))))
def eZ:FN:=fQ 2 2 (a7 (uQ (a! (ah dr (aa 1) (mC (.int 1)))) (aa 0) (xu "^" (aa 0) (aa 1))))
def c8:FN:=fQ 1 1 (a7 (kN (ah Af (ak b9 (ae (aa 0) ao)) (mC (.int 0))) (ak l8 (ae (bV 1 [] (pG (aa 0)) (ay 0) bf (ah N5 (aa 0) (mC (.str "0123456789")))) ao))))
def cJ:FN:=fQ 2 3 (aA (dO (bE (ae (aa 0) ao)) (ay 2) (dq (a! (ah dr (ah Bs (mC PM.eR) (aa 2)) (aa 1))) (a7 (aa 2)) aK)) (eB "NotWritten" (ae (mC (.str "a term is of figures and of the letters of the unknowns")) ao)))
def e!:FN:=fQ 2 3 (aA (aE 2 (bV 2 [] (s9 (ae (aa 0) ao)) (fM [(ay 0),(ay 1)]) (a! (ah fA (aa 1) (mC (.int 0)))) (ak PM.eZ (ae (ah Bs (mC PM.eR) (aa 0)) (ae (aa 1) ao))))) (aA (dq (eh (a! (ah fA (aa 1) (mC (.int 1)))) (a! (ah dr (ak b9 (ae (aa 2) ao)) (mC (.int 0))))) (a7 (eJ (mC (.str "*")) (ah bo (bK (ae (ak gy (ae (aa 1) ao)) ao)) (aa 2)))) aK) (a7 (eJ (mC (.str "*")) (aa 2)))))
def shown:FN:=fQ 1 4 (aA (dq (a! (ah dr (ak b9 (ae (aa 0) ao)) (mC (.int 0)))) (a7 (mC (.str "0"))) aK) (aA (aE 1 (bK ao)) (aA (dO (cQ (aa 0)) (fM [(ay 2),(ay 3)]) (aA (cD (gR bZ (aa 1) (ae (ak PM.dN (ae (ah dr (ak b9 (ae (aa 1) ao)) (mC (.int 0))) (ae (aa 3) ao))) ao))) (cD (gR bZ (aa 1) (ae (ak PM.e! (ae (aa 2) (ae (ak gQ (ae (aa 3) ao)) ao))) ao))))) (a7 (eJ (mC (.str "")) (aa 1))))))
end PM
namespace L2
open PySem.Spec PyProof.Rows
section
variable{M:Model}{A:_D}{EE:_r}{z:_B}{B:Heap}{en:Env}{ou:List Env}{L e:_C}{c a:_A}
theorem vy{Q:Unit->_B->Prop}(h1:en.frame=some L)(h2:Heap.HeldW B (en::ou) e c a L z.heap)(k:∀y,Heap.FlyingW B ou e c a y->z.heap.UpToSlots y->Q () {z with heap:=y}):wpAny M A (leaving en (.ref e)) Q EE z:=by unfold leaving;refine Vk (wpAny_noteFrame_againW h1 h2.2.2.2 (wpAny_landsW h2 fun y f up=>?_));obtain⟨k1,k2,⟨_,_,k3⟩,k4⟩:=f;exact k y ⟨k1,k2,k3,k4⟩ up
theorem gone(B:Heap)(C:_C):∃B':Heap,B'.get? C=none/\∀b,b≠C->B'.get? b=B.get? b:=by
 refine⟨B.update C fun o => {o with data:=.freed},?_,fun b hb=>Wh _ _ (Xm hb)⟩;obtain⟨objs,l⟩:=B;show(match(objs.modify C fun o => {o with data:=.freed})[C]? with|some ⟨_,_,.freed,_⟩=>none|o=>o)=none;rw[Array.getElem?_modify,Vo rfl];cases objs[C]? with
 |none=>rfl
 |some o=>rfl
theorem vz{α:Type}{tag:String}{l:List Env}(h1:en.frame=some L)(h2:Heap.HeldW B l e c a L z.heap)(k:∀y,Heap.HeldW B l e c a L y->z.heap.UpToSlots y->EE (.ref e) {z with heap:=y}):wpAny M A (PySem.passOn tag (.ref e) en:Sem α) (fun _ _=>False) EE z:=by
 obtain⟨f1,f2,f3,oe,vs,T,oT,ts,g1,g2,g3,g4,g5,g6,g7,g8,g9⟩:=h2;unfold PySem.passOn;refine Vk (Wg g1 g3 g4 ?_);rw[Vu (show ¬ ((Value.ref T==Value.none)=true)from nofun)];unfold setFlight;refine Vk (Vk (Wg g1 g3 g4 ?_));rw[Vo (show(Value.ref T !=Value.none)=true from rfl),h1];have lt:3<ts.size:=(Yh.mp g9).1;refine Xv g7 g8 lt (Zr (k _ ?_ ?_))
 .have Q_:∀b,b≠T->(z.heap.update T (Obj.mapFields (·.setIfInBounds 3 (rawInt L)))).get? b=z.heap.get? b:=fun b hb=>Wh _ _ (Xm hb);have hd:=WW g8 (·.setIfInBounds 3 (rawInt L));refine⟨fun b o q=>(Q_ b fun r=>by rw[r,g5]at q;cases q).trans (f1 b o q),f2,f3.of_keeps fun b o q hn=>⟨o,(Q_ b fun r=>?_).trans q,rfl⟩,oe,vs,T,_,_,(Q_ e (Xm g6)).trans g1,g2,g3,g4,g5,g6,Xr _ g7 (X0 hd),hd,?_⟩
  .rw[r,g7]at q;cases q;exact hn ts g8
  .rw[Array.getElem?_setIfInBounds_self_of_lt lt]
 .intro b o q hn;refine⟨o.slots,(Wh _ _ fun r=>?_).trans q⟩;rw[<-r,g7]at q;cases q;exact hn ts g8
end
structure Q!(P:_E)(w:World)(l:List Env)(L:_C)(fp:_y)(H H':Hp)(s s':_B)(ea:_C)(cls:_A):Prop where
 os:s'.os=s.os
 bare:AllBare s'.gens
 un:Un (d9 l) fp H H' s.heap s'.heap
 b_:gZ P w H' s'.heap
 fl:∃(B:Heap)(t:_C),Heap.HeldW B l ea cls (.ref t) L s'.heap/\(∀b,H' b≠none->∃o,B.get? b=some o)/\(∀b o,s.heap.get? b=some o->b ∉ d9 l->b ∉ fp->∃o',B.get? b=some o')
section
variable{P:_E}{w:World}{K:_u}{mg:_s}{base:Heap}{N:_z}{qual:Str}{scope:Scope}{f:_C}{cd:_A}{A:_D}{outer:List Env}{s₀:_B}{H₀:Hp}{E:XK}
theorem AZ{af:_t}{σ:St}{H H':Hp}{s s':_B}{ea:_C}{cls:_A}{fp:_y}(I:aH (gb (jO P w) P w K mg base N qual scope f cd A outer s₀ H₀ E) af σ H s)(B3:∀b∈fp,s₀.heap.objs.size<=b)(Z:Q! P w (envOfC qual scope s₀.heap.objs.size f cd::outer) s₀.heap.objs.size fp H H' s s' ea cls)(hE:E cls none H'):(gb (jO P w) P w K mg base N qual scope f cd A outer s₀ H₀ E).xe (.ref ea) s':=by
 obtain⟨B,t,fl,ct,cs⟩:=Z.fl;have HJ:d9 (envOfC qual scope s₀.heap.objs.size f cd::outer)=s₀.heap.objs.size::d9 outer:=i! rfl outer;have Bp:∀b o,s₀.heap.get? b=some o->b ∉ d9 outer->b ∉ d9 (envOfC qual scope s₀.heap.objs.size f cd::outer):=fun b o q hb hm=>by
  rw[HJ]at hm;rcases VG.mp hm with z|z
  .exact absurd (Vy q) (by rw[z];exact V5 _)
  .exact hb z
 have LU:∀b o,s₀.heap.get? b=some o->b ∉ fp:=fun b o q hb=>absurd (Vy q) (YU (B3 b hb));have sub:∀b,b∈d9 outer->b∈d9 (envOfC qual scope s₀.heap.objs.size f cd::outer):=fun b hb=>by rw[HJ];exact Vr _ hb
 have nil:∀b:_C,b ∉ (gb (jO P w) P w K mg base N qual scope f cd A outer s₀ H₀ E).ex:=fun b z=>by cases z
 refine vy rfl fl fun Bo JJ up=>?_;have wU:∀b o,s'.heap.get? b=some o->(∃o',B.get? b=some o')->Bo.get? b=some o:=fun b o q⟨o',z⟩=>by have q':=fl.1 b o' z;rw[q]at q';cases q';exact JJ.1 b o z
 have slot:∀b o,s₀.heap.get? b=some o->H₀ b=none->b∈d9 outer->∃sl,Bo.get? b=some {o with slots:=sl}:=fun b o q n hb=>by obtain⟨sl,e1⟩:=I.base.slot b o q n hb (nil b);obtain⟨Jg,e2⟩:=Z.un.slot b _ e1 (I.base.free b o q n (nil b)) (sub b hb) (LU b o q);obtain⟨_,o',mY,yo⟩:=fl.2.2.1.mem (sub b hb);rw[e2]at mY;cases mY;obtain⟨ES,e3⟩:=up b _ e2 yo;exact⟨ES,e3⟩
 refine⟨ea,cls,H',rfl,⟨Z.os.trans I.os,Z.bare,⟨fun b o q n hb _=>?_,fun b o q n hb _=>slot b o q n hb,fun b o q n _=>?_,fun b o q _=>?_,fun b xs q=>Z.un.g0 b xs (I.base.g0 b xs q),fun b o u q=>Z.un.gO b o u (I.base.gO b o u q),fun b ps q=>?_⟩,fun b u q=>?_,B,t,JJ,ct,fun b o q hb=>?_⟩,hE⟩
 .have e1:=I.base.keep b o q n hb (nil b);have n1:=I.base.free b o q n (nil b);have nf:=Bp b o q hb;exact wU b o (Z.un.keep b o e1 n1 nf (LU b o q)) (cs b o e1 nf (LU b o q))
 .obtain⟨o',e1⟩:=I.base.there b o q (nil b);exact Z.un.free b o' e1 (I.base.free b o q n (nil b)) (LU b o q)
 .by_cases hb:b∈d9 outer
  .obtain⟨sl,e1⟩:=slot b o q (I.ok.Bx b hb) hb;exact⟨_,e1⟩
  .obtain⟨o',e1⟩:=I.base.there b o q (nil b);obtain⟨o2,e2⟩:=cs b o' e1 (Bp b o q hb) (LU b o q);exact⟨o2,JJ.1 b o2 e2⟩
 .obtain⟨m1,e1⟩:=I.base.iS b ps q;obtain⟨m2,e2⟩:=Z.un.iS b _ e1;exact⟨m1++m2,by rw[e2,Yi]⟩
 .refine(Z.b_ b u q).kG (fun c v hc z=>wU c v z (ct c ?_)) (fun _ z=>z) fun _ _ z=>z;rcases hc with z'|z'
  .rw[z',q];simp
  .rw[z'];simp
 .obtain⟨o',e1⟩:=I.base.there b o q (nil b);exact cs b o' e1 (Bp b o q hb) (LU b o q)
end
def S7(X:Cx)(scope:Scope)(cl:List (Str×_C))(C:_C):_r:=fun x s'=>∃m,s'.heap.Ns C m/\∀h',Heap.SameBut C s'.heap h'->wpAny (model X.prog X.w) X.A (PySem.passOn "comprehension.variables-let-go" x (compEnvC scope cl C X.env):Sem _A) (fun _ _=>False) X.xe {s' with heap:=h'}
def Q?(X:Cx)(scope:Scope)(cl:List (Str×_C))(C:_C):_r:=notedBy (model X.prog X.w) X.A (compEnvC scope cl C X.env) (S7 X scope cl C)
def Bt(X:Cx)(N:_z)(scope:Scope)(cl:List (Str×_C))(C:_C)(fp:_y)(s:_B)(H:Hp):Cx:={oP X N scope cl C fp s H with xe:=Q? X scope cl C}
theorem aH.xe{X:Cx}{af:_t}{σ:St}{H:Hp}{s:_B}(I:aH X af σ H s)(x:_r):aH {X with xe:=x} af σ H s:=by obtain⟨⟨o1,o2,o3,o4,o5,o6,o7,o8,o9,Uv,Uw,Ux,Uy,Uz,UA,UB,UC,UD⟩,i2,i3,i4,i5,i6,i7,i8,i9,UE,UG⟩:=I;exact⟨⟨o1,o2,o3,o4,o5,o6,o7,o8,o9,Uv,Uw,Ux,Uy,Uz,UA,UB,UC,UD⟩,i2,i3,i4,i5,i6,i7,i8,i9,UE,UG⟩
def s_(X:Cx)(fp:_y)(C:_C)(s:_B)(H:Hp):Prop:=∃af σ,aH X af σ H s/\(∀b∈fp,lQ X af H b)/\s.heap.objs.size<=C
theorem Lh{α:Type}{M:Model}{A:_D}{m:Sem α}{Q Q':α->_B->Prop}{E E':_r}{s:_B}(he:∀x s',E x s'->E' x s')(h:wpAny M A m Q E s)(k:∀a s',Q a s'->Q' a s'):wpAny M A m Q' E' s:=V8 h k he
theorem qv{prog:_E}{w:World}{A:_D}{s:_B}{elt target iter:Expr}{ifs:List Expr}{scope:Scope}{pos:Pos}{it acc:_A}{env:Env}{R:Result->_B->Prop}(I:Nat->_B->Prop)
  (turn:∀ n s,I n s->wpAny (model prog w) A (pyNext it) (fun r s₁=>match r with
   |none=>R (.ok .next) s₁
   |some v=>wpAny (model prog w) A (letOwnedTupleGo target it v) (fun _ uI=>wpAny (model prog w) A (assign target env v) (fun _ s₂=>
     wpAny (model prog w) A (forIn ifs true fun c r=>if r=true then do let ok <- isTrue c env (eval c env);pure (ForInStep.yield ok)else pure (ForInStep.yield r)) (fun ok s₃=>
      if ok=true then wpAny (model prog w) A (eval elt env) (fun x s₄=>
       wpAny (model prog w) A (call (.builtin "list.append") [acc,x]) (fun _ s₅=>∃m,m<n/\I m s₅) (notedBy (model prog w) A env fun x s'=>R (.error x) s') s₄) (notedBy (model prog w) A env fun x s'=>R (.error x) s') s₃
      else ∃m,m<n/\I m s₃) (notedBy (model prog w) A env fun x s'=>R (.error x) s') s₂) (notedBy (model prog w) A env fun x s'=>R (.error x) s') uI) (notedBy (model prog w) A env fun x s'=>R (.error x) s') s₁) (notedBy (model prog w) A env fun x s'=>R (.error x) s') s)
  (n:Nat) (h:I n s):codeAny (model prog w) A (.compLoop (.ListComp elt [⟨target,iter,ifs,0⟩] scope pos) 0 it acc env) R s:=by
 refine codeAny_loop rfl I (fun n s hI=>?_) n h;show wpAny _ A ((compTurn (.ListComp elt [⟨target,iter,ifs,0⟩] scope pos) 0 it acc env).onRaise (fun x=>do noteFrame x env;theTreesLotGoes x)) _ _ s;refine wpAny_noted ?_;rw[compTurn_list];refine Vk (X2 (Vk (V8 (turn n s hI) (fun r s₁ h₁=>?_) fun _ _ h'=>h')));cases r with
 |none=>exact Vv h₁
 |some v=>
  refine Vk (V8 h₁ (fun _ uI B0=>?_) fun _ _ h'=>h');refine Vk (V8 B0 (fun _ s₂ h₂=>Vk (V8 h₂ (fun ok s₃ h₃=>?_) fun _ _ h'=>h')) fun _ _ h'=>h');cases ok with
  |false=>exact Vv ⟨rfl,h₃⟩
  |true=>exact Vk (Vk (V8 h₃ (fun x s₄ h₄=>Vk (V8 h₄ (fun _ s₅ h₅=>Vv (Vv ⟨rfl,h₅⟩)) fun _ _ h'=>h')) fun _ _ h'=>h'))
section
variable{X:Cx}{af:_t}{σ:St}{H:Hp}{s:_B}
theorem xx{tg elt iter:Expr}{ifs:List Expr}{scope:Scope}{pos:Pos}{N:_z}{cl:List (Str×_C)}{k:Nat}{caps:List Nat}{g:TG}{tt:TT}{te:TE}{it:_C}{fp:_y}{tn:Nat->Heap->Prop}{J:It}{Q:VK}{RR:_A->Env->Result->_B->Prop}{E:_r}(hc:X.calm=true)(B:lV X N scope cl k caps)(hg:∀C fp s H,PG (Bt X N scope cl C fp s H) tg g)(hi:∀C fp s H,ui (Bt X N scope cl C fp s H) ifs tt)(he:∀C fp s H,s_ X fp C s H->PE (Bt X N scope cl C fp s H) elt te)(I:aH X af σ H s)(T:Turn X.prog X.w X.K tg J fp it tn)(st:tn 0 s.heap)(hf:∀b∈fp,lQ X af H b)(h:qS J k caps g tt te σ H Q)(Qu:∀acc C s',uK X af σ s Q acc C s'->RR acc (compEnvC scope cl C X.env) (.ok .next) s')(S8:∀acc C x s',S7 X scope cl C x s'->RR acc (compEnvC scope cl C X.env) (.error x) s'):
  wpAny (model X.prog X.w) X.A (newList []) (fun acc s₃=>wpAny (model X.prog X.w) X.A (newFunctionEnv scope X.env.globals cl [] X.env.qual none .none (some X.env)) (fun cenv s₄=>
   codeAny (model X.prog X.w) X.A (.compStart (.ListComp elt [⟨tg,iter,ifs,0⟩] scope pos) 0 (.ref it) acc {cenv with scope:=relabel scope X.env}) (RR acc {cenv with scope:=relabel scope X.env}) s₄) E s₃) E s:=by
 obtain⟨W,⟨m0,w0⟩,turn⟩:=h;refine Wf (wpAny_newFunctionEnv B.fS (by intro y hy;simp at hy) (fun h₁ j_ iw=>?_) B.kind);dsimp only at j_ iw⊢;generalize JA:s.heap.push {cls:=.type "list",dict:=none,data:=.seq ([]:_w).toArray} = H2 at j_ iw⊢;have hC:H2.objs.size=s.heap.objs.size+1:=by rw[<-JA,Xa]
 have ED:s.heap.objs.size<=H2.objs.size:=by rw[hC];exact Nat.le_succ _
 have FA:s.heap.objs.size≠H2.objs.size:=by rw[hC];exact V2 (XN _)
 have old:∀b o,s.heap.get? b=some o->h₁.get? b=some o:=fun b o e=>iw.extBut b o (V2 (VL (Vy e) ED)) (Vm _ (JA▸Vm _ e));have B4:h₁.get? s.heap.objs.size=some {cls:=.type "list",data:=.seq ([]:_w).toArray 0}:=iw.extBut _ _ FA (Vm _ (JA▸VN _ rfl));have JB:=T.obj 0 _ st;have B3:∀b∈fp,∃o,s.heap.get? b=some o:=fun b hb=>let⟨o,e,_⟩:=JB b hb;⟨o,e⟩
 have M5:∀b∈fp,b≠s.heap.objs.size:=fun b hb z=>by obtain⟨o,e⟩:=B3 b hb;exact absurd (Vy e) (by rw[z];exact V5 _)
 have Qv:H s.heap.objs.size=none:=I.b_.fresh (Vq _);have uL:tn 0 h₁:=T.keep 0 _ _ st fun b _ o e=>old b o e;have B5:∀x c,cl.lookup x=some c->c≠s.heap.objs.size:=fun x c e z=>by obtain⟨v,o,ho,_⟩:=I.cell x c (B.sub x c e);exact absurd (Vy ho) (by rw[z];exact V5 _)
 have M6:∀b∈d9 X.stack,b≠s.heap.objs.size:=fun b hb z=>by obtain⟨_,o,ho,_⟩:=I.stack.mem hb;exact absurd (Vy ho) (by rw[z];exact V5 _)
 have loop:∀s₃:_B,s₃ = {s with heap:=h₁,toks:=s.toks+([]:List (Str×_A)).length} ->
   codeAny (model X.prog X.w) X.A (.compLoop (.ListComp elt [⟨tg,iter,ifs,0⟩] scope pos) 0 (.ref it) (.ref s.heap.objs.size) (compEnvC scope cl H2.objs.size X.env)) (RR (.ref s.heap.objs.size) (compEnvC scope cl H2.objs.size X.env)) s₃:=by
  rintro s₃ rfl;generalize jK:Bt X N scope cl H2.objs.size fp s H=XB;have eP:XB.prog=X.prog:=by rw[<-jK];rfl
  have eW:XB.w=X.w:=by rw[<-jK];rfl
  have eK:XB.K=X.K:=by rw[<-jK];rfl
  have eA:XB.A=X.A:=by rw[<-jK];rfl
  have eE:XB.env=compEnvC scope cl H2.objs.size X.env:=by rw[<-jK];rfl
  have eL:XB.env.locals=H2.objs.size:=by rw[eE];rfl
  have eF:XB.fs=d9 X.stack:=by rw[<-jK];rfl
  have eX:XB.ex=fp:=by rw[<-jK];rfl
  have eN:XB.pn=[]:=by rw[<-jK];rfl
  have e0:XB.s₀=s:=by rw[<-jK];rfl
  have eC:XB.calm=true:=by rw[<-jK];exact hc
  have M7:XB.env.cells=cl:=by rw[eE];rfl
  have JC:XB.xe=Q? X scope cl H2.objs.size:=by rw[<-jK];rfl
  have mon:∀x s',Q? X scope cl H2.objs.size x s'->notedBy (model X.prog X.w) X.A (compEnvC scope cl H2.objs.size X.env) (fun x s'=>RR (.ref s.heap.objs.size) (compEnvC scope cl H2.objs.size X.env) (.error x) s') x s':=fun x s' h=>V8 h (fun _ _ q=>S8 _ _ _ _ q) fun _ _ q=>S8 _ _ _ _ q;have gr:PG XB tg g:=by rw[<-jK];exact hg _ _ _ _
  have wM:ui XB ifs tt:=by rw[<-jK];exact hi _ _ _ _
  have Qw:PE XB elt te:=by rw[<-jK];exact he _ _ _ _ ⟨af,σ,I,hf,ED⟩
  have I0:aH XB [] (kK k caps σ) H {s with heap:=h₁,toks:=s.toks+([]:List (Str×_A)).length}:=by rw[<-jK];exact(I.block B hf ED B3 old j_).xe _
  -- zF uM pinned
  have JD:∀{τ:St}{H':Hp}{s':_B}{aD:_w}{nn:Nat},aH XB [] τ H' s'->s'.heap.get? s.heap.objs.size=some {cls:=.type "list",data:=.seq aD.toArray nn}->H' s.heap.objs.size=none ->
    aH XB [(s.heap.objs.size,{cls:=.type "list",data:=.seq aD.toArray nn})] τ H' s':=fun{τ H' s' aD nn}J hd hn=>J.jz fun p hp=>by
   obtain rfl:p=_:=V0.mp hp;refine⟨hd,hn,by rw[eL];exact FA,by rw[eF];exact fun z=>M6 _ z rfl,fun v z=>?_⟩;have z':Data.seq aD.toArray nn=Data.cell v:=z;cases z'
  have oI:∀{H':Hp}{o:Obj},(∀b∈fp,H' b=none)->∀b∈fp,lQ XB [(s.heap.objs.size,o)] H' b:=fun{H' o}hn b hb=>by
   obtain⟨_,f1,f2,f3,f4,f5⟩:=hf b hb;refine⟨hn b hb,?_,?_,.inl (by rw[eX];exact hb),fun x c e=>f4 x c (B.sub x c (by rw[<-M7];exact e)),fun p hp=>?_⟩
   .rw[eL];obtain⟨o,e⟩:=B3 b hb;exact V2 (VL (Vy e) ED)
   .rw[eF];intro z;rcases VG.mp (I.j8 b z)with e|e
    .exact f1 e
    .exact f2 e
   .rw[eN]at hp;obtain rfl:p=_:=V0.mp (by simpa using hp);exact Xm (M5 b hb)
  refine qv (fun n s'=>∃i ys aD nn τ H',aH XB [] τ H' s'/\s'.heap.get? s.heap.objs.size=some {cls:=.type "list",data:=.seq aD.toArray nn}/\H' s.heap.objs.size=none/\bg ys aD/\tn i s'.heap/\(∀b∈fp,H' b=none)/\W i n ys τ H') ?_ m0
   ⟨0,[],[],0,kK k caps σ,H,I0,B4,Qv,.nil,uL,fun b hb=>(hf b hb).1,w0⟩
  rintro n s3 ⟨i,ys,aD,nn,τ,H3,I3,Qx,Qy,FC,fP,HA,w3⟩;have M8:=JD I3 Qx Qy;rcases turn i n ys τ H3 w3 with⟨stop,hz,qn⟩|⟨go,hz,step⟩
  .have D1:=T.done XB eP eW eK eC i _ s3 τ H3 (notedBy (model X.prog X.w) X.A (compEnvC scope cl H2.objs.size X.env) fun x s'=>RR (.ref s.heap.objs.size) (compEnvC scope cl H2.objs.size X.env) (.error x) s') M8 (oI HA) fP stop;rw[eA]at D1;refine cf D1 fun r s4⟨hr,I4⟩=>?_;subst hr;refine Qu _ _ s4 ?_;obtain⟨pd,B6,_⟩:=I4.pin (s.heap.objs.size,{cls:=.type "list",data:=.seq aD.toArray nn}) (by rw[eN];exact VX _ (V0.mpr rfl));have su:Un (d9 X.stack) fp H H3 s.heap s4.heap:=by have:=I4.base;rw[<-jK]at this;exact this
   have new:cA X.prog X.w (upd H3 s.heap.objs.size (.lst ys)) s4.heap s.heap.objs.size (.lst ys):=⟨hz,aD,nn,FC,pd⟩
   have JE:gZ X.prog X.w H3 s4.heap:=by have:=I4.b_;rw[eP,eW]at this;exact this
   have b_:gZ X.prog X.w (upd H3 s.heap.objs.size (.lst ys)) s4.heap:=JE.HF B6 new;have Qz:s4.os=s.os:=by have:=I4.os;rw[e0]at this;exact this
   have un:Un (d9 X.stack) fp H (upd H3 s.heap.objs.size (.lst ys)) s.heap s4.heap:=
    ⟨su.keep,su.slot,fun b o e n hx=>by rw[aZ (V2 (Vy e))];exact su.free b o e n hx,su.there,
     fun b xs e=>by rw[aZ (aV (su.g0 b xs e) B6)];exact su.g0 b xs e,fun b o u e=>by rw[aZ (aV (su.gO b o u e) B6)];exact su.gO b o u e,
     fun b ps e=>by
      obtain⟨more,q⟩:=su.iS b ps e;exact⟨more,by rw[aZ (aV q B6)];exact q⟩⟩
   have I5:aH X af σ (upd H3 s.heap.objs.size (.lst ys)) s4:=I.qL Qz un b_ I4.bare fun b hb=>⟨(hf b hb).2.2.2.1,(hf b hb).2.1,(hf b hb).2.2.2.2.1,(hf b hb).2.2.2.2.2⟩
   have QA:H3 H2.objs.size=none:=by have:=I4.free;rw[eL]at this;exact this
   refine⟨s.heap.objs.size,_,rfl,ED,I5,by rw[aZ (Xm FA)];exact QA,?_,qn _ B6⟩;obtain⟨m4,M9,_⟩:=I4.loc;rw[eL]at M9;exact⟨m4,M9⟩
  .have D1:=T.item XB eP eW eK eC i _ s3 τ H3 (notedBy (model X.prog X.w) X.A (compEnvC scope cl H2.objs.size X.env) fun x s'=>RR (.ref s.heap.objs.size) (compEnvC scope cl H2.objs.size X.env) (.error x) s') M8 (oI HA) fP go;rw[eA]at D1;refine cf D1 fun r s4⟨u,hr,h4⟩=>?_;subst hr;refine cf h4 fun _ s5⟨x,H5,I5,r5,y5,BF,Ml⟩=>?_;have Mn:=I5.pinned (oI Ml) (T.obj _ _ BF);have G:=gr _ s5 τ H5 x u _ Mn r5 (step x H5 y5);rw[eP,eW,eA,eE,JC]at G;refine Lh mon G fun _ s6⟨τ6,H6,I6,q6⟩=>?_;have G2:=wM _ s6 τ6 H6 _ I6 q6;rw[eP,eW,eA,eE,JC]at G2;refine Lh mon G2 fun ok s7⟨H7,I7,q7⟩=>?_
   -- IS zF af give back
   have back:∀{τ8:St}{H8:Hp}{s8:_B},aH XB ([(s.heap.objs.size,({cls:=.type "list",data:=.seq aD.toArray nn}:Obj))]++lR fp s5.heap) τ8 H8 s8 ->
     aH XB [] τ8 H8 s8/\s8.heap.get? s.heap.objs.size=some {cls:=.type "list",data:=.seq aD.toArray nn}/\H8 s.heap.objs.size=none/\tn (i+1) s8.heap/\∀b∈fp,H8 b=none:=fun{τ8 H8 s8}J=>by
    obtain⟨p1,p2,_⟩:=J.pin (s.heap.objs.size,{cls:=.type "list",data:=.seq aD.toArray nn}) (VX _ (W_ _ (V0.mpr rfl)));refine⟨J.jz fun p hp=>absurd (show p∈([]:_t)from hp) (by simp),p1,p2,T.keep _ _ _ BF fun b hb o e=>(J.pin (b,o) (VX _ (VX _ (fB hb e)))).1,fun b hb=>?_⟩;obtain⟨o,e,d⟩:=T.obj _ _ BF b hb;exact(J.pin (b,o) (VX _ (VX _ (fB hb e)))).2.1
   cases ok with
   |false=>
    rw[Vu VC]at q7⊢;obtain⟨m',hm,w7⟩:=q7;obtain⟨J,a1,a2,a3,a4⟩:=back I7;exact⟨m',hm,i+1,ys,aD,nn,τ6,H7,J,a1,a2,FC,a3,a4,w7⟩
   |true=>
    rw[Vo rfl]at q7⊢;have G3:=Qw _ s7 τ6 H7 _ I7 q7;rw[eP,eW,eA,eE,JC]at G3;refine Lh mon G3 fun v s8⟨y,H8,I8,r8,m',hm,w8⟩=>?_;obtain⟨J,a1,a2,a3,a4⟩:=back I8;have hlen:=FC.length;refine Y! Zc ⟨_,a1,rfl⟩ Y0 (YQ _ _) (YL s.heap.objs.size aD.toArray nn v (by rw[VD];lia)) ⟨a1,?_⟩;have q:=YS a1 (fun z=>z.push v);have other:∀b o,b≠s.heap.objs.size->s8.heap.get? b=some o->(s8.heap.update s.heap.objs.size (Obj.mapSeq fun z=>z.push v)).get? b=some o:=fun b o hb e=>(Wh s8.heap (Obj.mapSeq fun z=>z.push v) (Xm hb)).trans e;have J':aH XB [] τ6 H8 {s8 with heap:=s8.heap.update s.heap.objs.size (Obj.mapSeq fun z=>z.push v)}:=
     J.turned (t':=s8.toks) (it:=s.heap.objs.size) other a2 (by rw[eL];exact FA) (.inr (by rw[e0];exact Vq _)) (fun x c e=>B5 x c (by rw[<-M7];exact e)) fun p hp=>absurd (show p∈([]:_t) by rw[eN]at hp;exact hp) (by simp)
    obtain⟨n2,q2⟩:∃n2,(s8.heap.update s.heap.objs.size (Obj.mapSeq fun z=>z.push v)).get? s.heap.objs.size=some {cls:=.type "list",data:=.seq (aD++[v]).toArray n2}:=by
     have e1:aD.toArray.push v=(aD++[v]).toArray:=by simp
     rw[<-e1];exact⟨_,q⟩
    exact⟨m',hm,i+1,ys++[y],aD++[v],n2,τ6,H8,J',q2,a2,FC.append (.cons r8 .nil),T.keep _ _ _ a3 fun b hb o e=>other b o (M5 b hb) e,a4,w8⟩
 exact _c (loop _ rfl) (T.self X.A 0 _ _ _ uL (loop _ rfl))
end
section
variable{M:Model}{A:_D}{EE:_r}{z:_B}{en:Env}
def Ic(M:Model)(A:_D)(EE:_r)(Q:_r)(acc:_A)(cn:Env)(r:Result)(y:_B):Prop:=match r with
 |.ok _=>∃m,y.heap.Ns cn.locals m/\∀h',Heap.SameBut cn.locals y.heap h'->Q acc {y with heap:=h'}
 |.error x=>∃m,y.heap.Ns cn.locals m/\∀h',Heap.SameBut cn.locals y.heap h'->wpAny M A (PySem.passOn "comprehension.variables-let-go" x cn:Sem _A) (fun _ _=>False) EE {y with heap:=h'}
theorem xy{e:Expr}{sc:Scope}{pos:Pos}{na fi:Sem _A}{g:Comprehension}{gs:List Comprehension}{cl:List (Str×_C)}{Q:_r}(h1:clausesOf e=g::gs)(h2:∀x,foldedSetIterable g.iter en x=pure x)(h3:closureFor sc en=pure cl)(h4:sc.kind=.function)(h5:∀x∈sc.names,x.2=.local->sc.names.lookup x.1=some .local)(h:wpAny M A fi (fun x z1=>wpAny M A (pyIter x) (fun it z2=>wpAny M A na (fun acc z3=>wpAny M A (newFunctionEnv sc en.globals cl [] en.qual none .none (some en)) (fun cn z4=>codeAny M A (.compStart e 0 it acc {cn with scope:=relabel sc en}) (Ic M A EE Q acc {cn with scope:=relabel sc en}) z4) EE z3) EE z2) EE z1) EE z):
  wpAny M A (comprehension e sc en pos na false fi none) Q EE z:=by
 unfold comprehension;rw[h3,h1];refine Vk (V8 h (fun x z1 k1=>Vk (X2 (Vk (Zs (h2 x) (Vk (WH (V8 k1 (fun it z2 k2=>wpAny_standIf (Vk (V8 k2 (fun acc z3 k3=>Vk (Vv (Vk (V8 k3 (fun cn z4 k4=>?_) fun _ _ y=>y)))) fun _ _ y=>y))) fun _ _ y=>y))))))) fun _ _ y=>y);dsimp only;have hv:∀x∈(sc.names.filter fun x=>(x.2 == .local || x.2 == .cell)&&x.1 !=(".0":Str)).reverse,x.2=.local->Env.kindOf {cn with scope:=relabel sc en} x.1=some .local:=fun x hx hl=>lookup_relabel_local (h5 x (XM.mp (WL.mp hx)).1 hl);refine WH (Vk (X3 (WH (wpAny_run (X? k4 fun r y hr=>?_)))));cases r with
 |ok f=>
  obtain⟨m,hn,hr⟩:=hr;exact Vk (WH (wpAny_comp_letGo (cenv:={cn with scope:=relabel sc en}) h4 _ y m hv hn fun h' m' _ sb=>Vv (hr h' sb)))
 |error x=>
  obtain⟨m,hn,hr⟩:=hr;exact Vk (WH (wpAny_comp_letGo (cenv:={cn with scope:=relabel sc en}) h4 _ y m hv hn fun h' m' _ sb=>V8 (hr h' sb) (fun _ _ f=>f.elim) fun _ _ y=>y))
end
section
variable{X:Cx}{tg elt iter:Expr}{ifs:List Expr}{scope:Scope}{pos wN:Pos}{N:_z}{cl:List (Str×_C)}{k:Nat}{caps:List Nat}{wi:TI}{g:TG}{tt:TT}{te:TE}
theorem Dy(hc:X.calm=true)(B:lV X N scope cl k caps)(hi:PI X tg iter wi)(hg:∀C fp s H,PG (Bt X N scope cl C fp s H) tg g)(B7:∀C fp s H,ui (Bt X N scope cl C fp s H) ifs tt)(he:∀C fp s H,s_ X fp C s H->PE (Bt X N scope cl C fp s H) elt te)(hs:∀x,foldedSetIterable iter X.env x=pure x:=by intro _;rfl):PE X (.ListComp elt [⟨tg,iter,ifs,0⟩] scope pos) (kL k caps wi g tt te):=by
 intro af s σ H Q I h;rw[eval_ListComp];refine xy rfl hs B.lW B.kind B.names (cf (hi af s σ H _ I (lX h)) fun xv s₁ h₁=>cf h₁ fun Mg s₂ h₂=>?_);obtain⟨it,fp,tn,J,H2,e,I2,T,st2,f2,hW⟩:=h₂;subst e;refine xx (RR:=fun acc cn=>Ic (model X.prog X.w) X.A X.xe (EP X af σ Q) acc cn) hc B hg B7 he I2 T st2 f2 hW ?_ ?_
 .rintro acc C s' ⟨D,H',rfl,hC,I',hn,⟨m,ns⟩,q⟩;exact⟨m,ns,fun h' sb=>⟨.ref D,H',I2.lY hC I' hn sb,rfl,q⟩⟩
 .exact fun acc C x s' q=>q
end
section
variable{P:_E}{w:World}{K:_u}{mg:_s}{base:Heap}{N:_z}{qual:Str}{scope:Scope}{f:_C}{cd:_A}{A:_D}{outer:List Env}{s₀:_B}{H₀:Hp}{E:XK}
theorem Ie{N':_z}{sc:Scope}{cl:List (Str×_C)}{C:_C}{fp:_y}{s:_B}{H:Hp}(bs:s_ (gb (jO P w) P w K mg base N qual scope f cd A outer s₀ H₀ E) fp C s H):Passes (jO P w) (Bt (gb (jO P w) P w K mg base N qual scope f cd A outer s₀ H₀ E) N' sc cl C fp s H) E:=by
 obtain⟨af,σ,I,hf,hC⟩:=bs;rintro By τ H3 s3 e s' I3 ⟨ea,cls,H',rfl,Z,hE⟩;obtain⟨B,t,fl,ct,cs⟩:=Z.fl;have JI:(A.deeper (envOfC qual scope s₀.heap.objs.size f cd)).frames=some (envOfC qual scope s₀.heap.objs.size f cd::outer):=I.ok.frames;have DA:Un (d9 (envOfC qual scope s₀.heap.objs.size f cd::outer)) fp H H3 s.heap s3.heap:=I3.base;have S9:H3 C=none:=I3.free;have UH:s3.os=s.os:=I3.os;obtain⟨m,ns,_⟩:=I3.loc;have ns:s3.heap.Ns C m:=ns;obtain⟨oC,es,ep,Ra,UI,rC⟩:=ns;have Bv:s.heap.FunFrames base (envOfC qual scope s₀.heap.objs.size f cd::outer):=I.stack;have Rb:C ∉ d9 (envOfC qual scope s₀.heap.objs.size f cd::outer):=fun hm=>by obtain⟨_,o,ho,_⟩:=Bv.mem hm;exact absurd (Vy ho) (YU hC)
 have UJ:s'.heap.get? C=some oC:=Z.un.keep C oC Ra S9 Rb (by intro z;cases z);have Rc:H' C=none:=Z.un.free C oC Ra S9 (by intro z;cases z);obtain⟨oB,UK⟩:=cs C oC Ra Rb;show wpAny (model P w) _ (noteFrame (.ref ea) (envOfC qual scope s₀.heap.objs.size f cd)) _ _ s';refine wpAny_looks_onW JI rfl fl fun h1 held up=>?_;have UL:h1.Ns C m:=up.ns ⟨oC,es,ep,UJ,UI,rC⟩;refine⟨m,UL,fun h2 sb=>?_⟩;obtain⟨B',bC,bO⟩:=gone B C;obtain⟨v1,v2,v3,oe,vs,T,oT,ts,g1,g2,g3,g4,g5,g6,g7,g8,g9⟩:=held;have Hx:∀b,B.get? b=none->b≠C:=fun b q r=>by rw[r,UK]at q;cases q
 have N8:Heap.HeldW B' (envOfC qual scope s₀.heap.objs.size f cd::outer) ea cls (.ref t) s₀.heap.objs.size h2:=by
  have bn:∀b,B.get? b=none->B'.get? b=none:=fun b q=>(bO b (Hx b q)).trans q;refine⟨fun b o q=>?_,bn ea v2,?_,oe,vs,T,oT,ts,(sb.2 ea (Hx ea v2)).trans g1,g2,g3,g4,bn T g5,g6,(sb.2 T (Hx T g5)).trans g7,g8,g9⟩
  .have hb:b≠C:=fun r=>by rw[r,bC]at q;cases q
   rw[bO b hb]at q;exact(sb.2 b hb).trans (v1 b o q)
  .have go:∀(l:List Env),h1.FunFrames B l->(∀b∈d9 l,b≠C)->h2.FunFrames B' l:=by
    intro l
    induction l with
    |nil=>exact fun _ _=>trivial
    |cons a r ih=>
     rintro⟨x1,⟨L,o,x2,x3,x4,x5⟩,x6⟩ nc;have hL:L≠C:=nc L (by rw[i! x2];exact Vt);exact⟨x1,⟨L,o,x2,bn L x3,(sb.2 L hL).trans x4,x5⟩,ih x6 fun b hb=>nc b (by rw[i! x2];exact Vr _ hb)⟩
   exact go _ v3 fun b hb r=>Rb (r▸hb)
 refine vz (B:=B') rfl N8 fun y DB UM=>?_
 -- zF whole way,from zF O7 LV
 have wU:∀b o,s'.heap.get? b=some o->b≠C->(∃o',B.get? b=some o')->y.get? b=some o:=fun b o q hb⟨o',z⟩=>by have q':=fl.1 b o' z;rw[q]at q';cases q';exact DB.1 b o ((bO b hb).trans z)
 have old:∀b o,s.heap.get? b=some o->b≠C:=fun b o q r=>absurd (Vy q) (by rw[r];exact YU hC);have slot:∀b o,s.heap.get? b=some o->H b=none->b∈d9 (envOfC qual scope s₀.heap.objs.size f cd::outer)->b ∉ fp->∃sl,y.get? b=some {o with slots:=sl}:=fun b o q n hb nx=>by obtain⟨sl,e1⟩:=DA.slot b o q n hb nx;obtain⟨Jg,e2⟩:=Z.un.slot b _ e1 (DA.free b o q n nx) hb (by intro z;cases z);obtain⟨_,o',mY,yo⟩:=fl.2.2.1.mem hb;rw[e2]at mY;cases mY;obtain⟨sl3,e3⟩:=up b _ e2 yo;obtain⟨UN,e4⟩:=UM b _ ((sb.2 b (old b o q)).trans e3) yo;exact⟨UN,e4⟩
 have fpf:∀b∈fp,b ∉ d9 (envOfC qual scope s₀.heap.objs.size f cd::outer):=fun b hb hm=>by
  obtain⟨_,f1,f2,_⟩:=hf b hb;rcases VG.mp (I.j8 b hm)with r|r
  .exact f1 r
  .exact f2 r
 refine AZ (fp:=fp) I (fun b hb=>?_) ⟨Z.os.trans UH,Z.bare,⟨fun b o q n hb nx=>?_,fun b o q n hb nx=>slot b o q n hb nx,fun b o q n nx=>?_,fun b o q nx=>?_,fun b xs q=>Z.un.g0 b xs (DA.g0 b xs q),fun b o u q=>Z.un.gO b o u (DA.gO b o u q),fun b ps q=>?_⟩,fun b u q=>?_,B',t,DB,fun b hb=>?_,fun b o q hb nx=>?_⟩ hE
 .rcases(hf b hb).2.2.2.1 with r|r
  .cases r
  .exact r
 .have e1:=DA.keep b o q n hb nx;have n1:=DA.free b o q n nx;exact wU b o (Z.un.keep b o e1 n1 hb (by intro z;cases z)) (old b o q) (cs b o e1 hb)
 .obtain⟨o',e1⟩:=DA.there b o q nx;exact Z.un.free b o' e1 (DA.free b o q n nx) (by intro z;cases z)
 .by_cases hb:b∈d9 (envOfC qual scope s₀.heap.objs.size f cd::outer)
  .obtain⟨sl,e1⟩:=slot b o q (I.om b hb) hb nx;exact⟨_,e1⟩
  .obtain⟨o',e1⟩:=DA.there b o q nx;obtain⟨o2,e2⟩:=cs b o' e1 hb;exact⟨o2,DB.1 b o2 ((bO b (old b o q)).trans e2)⟩
 .obtain⟨m1,e1⟩:=DA.iS b ps q;obtain⟨m2,e2⟩:=Z.un.iS b _ e1;exact⟨m1++m2,by rw[e2,Yi]⟩
 .refine(Z.b_ b u q).kG (fun c v hc z=>wU c v z ?_ (ct c ?_)) (fun _ z=>z) fun _ _ z=>z
  .rcases hc with z'|z'
   .intro r;rw[<-z',r,Rc]at q;cases q
   .intro r;rw[r,Rc]at z';cases z'
  .rcases hc with z'|z'
   .rw[z',q];simp
   .rw[z'];simp
 .obtain⟨o,e⟩:=ct b hb;exact⟨o,(bO b fun r=>hb (r▸Rc)).trans e⟩
 .obtain⟨o',e1⟩:=DA.there b o q nx;obtain⟨o2,e2⟩:=cs b o' e1 hb;exact⟨o2,(bO b (old b o q)).trans e2⟩
end
end L2
namespace MN
open PySem.Spec L2
open PyProof.Rows hiding St kindOf
open Classical in
def fG(g:aj->Prop)(a:AS)(c:MT)(e:ME):List av->Env->aj->List av->cX (List av)
 |[],_,st,ys=>if g st then .ok ys st else .bad
 |u::us,τ,st,ys=>if g st then(match a u τ with
  |some τ1=>match c τ1 st with
   |.ok true st1=>match e τ1 st1 with
    |.ok y st2=>fG g a c e us τ1 st2 (ys++[y])
    |.err k st2=>.err k st2
    |.bad=>.bad
   |.ok false st1=>fG g a c e us τ1 st1 ys
   |.err _ _=>.bad
   |.bad=>.bad
  |none=>.bad)else .bad
def kh(k:Nat)(caps:List Nat)(it:MI)(a:AS)(c:MT)(e:ME):ME:=fun μ st=>(it μ st).bind fun p st1=>
 if p.1.length<=sizeLine then(fG p.2 a c e p.1 (iB k caps μ) st1 []).bind fun ys st2=>.ok (.loc st2.length) (st2++[.lst ys])else .bad
section
variable{X:Cx}{E:XK}{tg elt iter:Expr}{ifs:List Expr}{scope:Scope}{pos wN:Pos}{N:_z}{cl:List (Str×_C)}{k:Nat}{caps:List Nat}{it:MI}{a:AS}{c:MT}{e:ME}
theorem xA(F0:X.pn=[]){σ:L2.St}{H:Hp}{Q:VK}(h:tE X E (kh k caps it a c e) σ H Q):kL k caps (tI X E it) (tA (W0 X) a) (tG (W0 X) E RB c) (tG (W0 X) E (Rl X.K) e) σ H Q:=by
 obtain⟨μ,ρ,st,rs,sr,h⟩:=h;refine uJ (go (R1:=J? X.K) μ ρ st rs sr h fun pr st1 ρ1 H1 J e1 bP rJ h1=>?_);obtain⟨us,g⟩:=pr;have ew:wo X=W0 X:=by show Wo.mk _ _ _=_;rw[F0]
 have FO:=rs.mono e1;rw[ew]at FO h1;dsimp only at h1;split at h1
 .rename_i hz;refine ym us.length hz (fun i ys τ H'=>∃μτ ρ' ax yv,aF ρ1 H1 ρ' H'/\RS (W0 X) ρ' H' μτ τ/\SR X.K ρ' ax H'/\a_ X.K ρ' H' yv ys/\yv.length<=i/\wR (W0 X) E (Rl X.K) ρ' H' Q ((fG g a c e (us.drop i) μτ ax yv).bind fun(zs:List av)(st2:aj)=>cX.ok (av.loc st2.length) (st2++[aG.lst zs])))
   ⟨iB k caps μ,ρ1,st1,[],aF.refl _ _,FO.Br k caps,bP,a_.nil,Vq _,h1⟩ ?_ ?_ ?_ ?_ ?_
  .rintro i ys τ H' hi ⟨μτ,ρ',ax,yv,e',uk,pe,ry,hl,hq⟩;rw[WA hi]at hq;unfold fG at hq;by_cases gr:g ax
   .exact((rJ ρ' ax H' e' pe gr i).1 _ (VE hi)).1
   .rw[Vu gr]at hq;exact hq.elim
  .rintro ys τ H' ⟨μτ,ρ',ax,yv,e',uk,pe,ry,hl,hq⟩;rw[X8]at hq;unfold fG at hq;by_cases gr:g ax
   .exact(rJ ρ' ax H' e' pe gr us.length).2 (Vq _)
   .rw[Vu gr]at hq;exact hq.elim
  .rintro i ys τ H' ⟨μτ,ρ',ax,yv,e',uk,pe,ry,hl,hq⟩;rw[<-ry.length];exact hl
  .rintro i ys τ H' x H2 hi ⟨μτ,ρ',ax,yv,e',uk,pe,ry,hl,hq⟩ y K1 hK;rw[WA hi]at hq;unfold fG at hq;by_cases gr:g ax
   .rw[Vo gr]at hq;obtain⟨e2,ir,r2⟩:=((rJ ρ' ax H' e' pe gr i).1 _ (VE hi)).2 x H2 y;cases z:a us[i] μτ with
    |none=>rw[z]at hq;exact hq.elim
    |some τ1=>
     rw[z]at hq;dsimp only at hq;refine⟨μτ,ρ',us[i],τ1,uk.mono e2,r2,z,fun σ3 CG=>⟨τ1,ρ',ax,CG,ir,?_⟩⟩;cases zc:c τ1 ax with
     |ok b fP=>
      rw[zc]at hq;intro ρ3 H3 b' e3 nF eb;cases eb;cases b with
      |true=>
       dsimp only at hq;rw[Vo rfl];refine⟨τ1,ρ3,fP,CG.mono e3,nF,?_⟩;cases ze:e τ1 fP with
       |ok v j?=>
        rw[ze]at hq;intro ρ4 H4 y4 e4 l7 r4;exact hK _ _ _ ⟨τ1,ρ4,j?,yv++[v],((e'.trans e2).trans e3).trans e4,(CG.mono e3).mono e4,l7,(a_.mono ((e2.trans e3).trans e4) _ _ ry).append (a_.one r4),by rw[Vx,W4];lia,wR.mono hq ((e2.trans e3).trans e4)⟩
       |err c' j?=>
        rw[ze]at hq;exact wR.mono hq (e2.trans e3)
       |bad=>rw[ze]at hq;exact hq.elim
      |false=>
       dsimp only at hq;rw[Vu VC];exact hK _ _ _ ⟨τ1,ρ3,fP,yv,(e'.trans e2).trans e3,CG.mono e3,nF,a_.mono (e2.trans e3) _ _ ry,by lia,wR.mono hq (e2.trans e3)⟩
     |err c' fP=>rw[zc]at hq;exact hq.elim
     |bad=>rw[zc]at hq;exact hq.elim
   .rw[Vu gr]at hq;exact hq.elim
  .rintro ys τ H' p ⟨μτ,ρ',ax,yv,e',uk,pe,ry,hl,hq⟩ hp;rw[X8]at hq;unfold fG at hq;by_cases gr:g ax
   .rw[Vo gr]at hq;obtain⟨k1,k2,k3⟩:=eO pe ry hp;exact hq _ _ _ k1 k2 k3
   .rw[Vu gr]at hq;exact hq.elim
 .exact h1.elim
theorem DC(hc:X.calm=true)(F0:X.pn=[])(B:lV X N scope cl k caps)(hi:PI X tg iter (tI X E it))(hg:∀C fp s H,PG (Bt X N scope cl C fp s H) tg (tA (W0 X) a))(B7:∀C fp s H,ui (Bt X N scope cl C fp s H) ifs (tG (W0 X) E RB c))(he:∀C fp s H,s_ X fp C s H->PE (Bt X N scope cl C fp s H) elt (tG (W0 X) E (Rl X.K) e))(hs:∀x,foldedSetIterable iter X.env x=pure x:=by intro _;rfl):PE X (.ListComp elt [⟨tg,iter,ifs,0⟩] scope pos) (tE X E (kh k caps it a c e)):=
 PE.imp (Dy hc B hi hg B7 he hs) fun _ _ _ h=>xA F0 h
theorem DD{C fp s H}:ui (Bt X N scope cl C fp s H) [] (tG (W0 X) E RB bf):=by intro af s' σ H' Q I q;refine yk af s' σ H' Q I ?_;obtain⟨μ,ρ,st,rs,sr,h⟩:=q;exact h ρ H' true (aF.refl _ _) sr rfl
end
end MN
namespace L2
open PySem.Spec PyProof.Rows
section
variable{X:Cx}
theorem s?:b6 X (.type "int") (fun xs H Q=>∃x n,xs=[.str x]/\x.length<=640/\PySem.intText? x=some n/\Q (.int n) H):=by rintro af s σ H xs ws Q I r ⟨x,n,rfl,hl,hn,q⟩;obtain⟨u,rfl,ru⟩:=bg.one r;obtain⟨t,rfl⟩:=ru;exact W.KIN.call_text hn hl ⟨.int n,H,I.tok _,⟨_,rfl⟩,q⟩
end
end L2
namespace MN
open PySem.Spec L2
open PyProof.Rows hiding St kindOf
def qw:FN
 |[.str x],st=>if x.length<=640 then(match PySem.intText? x with
  |some n=>.ok (.int n) st
  |none=>.bad)else .bad
 |_,_=>.bad
section
variable{X:Cx}{E:XK}
theorem A0:b6 X (.type "int") (cM (wo X) E qw):=by
 refine b6.imp s? ?_;rintro xs H Q ⟨ρ,st,us,sr,r,h⟩;unfold qw at h;split at h
 .rename_i x;obtain⟨v,rfl,rv⟩:=r.wq;split at h
  .rename_i hl;split at h
   .rename_i n hn;exact⟨x,n,by rw[rv.fg],hl,hn,h ρ H _ (aF.refl _ _) sr (Rl.mkInt n)⟩
   .exact h.elim
  .exact h.elim
 .exact h.elim
end
end MN
namespace PM
open PySem.Spec L2 MN
open PyProof.Rows hiding St
def bz:FN:=fQ 1 1 (aA (dq (a! (ah dr (ah bN (aa 0) (mC (.int 7))) (mC (.int 0)))) (a7 (ah cN (ah Ae (mC (.int 1)) (ah cN (ah bN (ah bX (aa 0) (mC (.int 7))) (mC (.int 2))) (mC (.int 2)))) (ah bN (ah bX (aa 0) (mC (.int 14))) (ah uT (mC (.int 10)) (mC (.int 57)))))) aK) (aA (dq (a! (ah ltV (ah bN (aa 0) (mC (.int 7))) (mC (.int 3)))) (a7 (ah Ae (ah bN (ah bX (aa 0) (mC (.int 7))) (mC (.int 3))) (mC (.int 1)))) aK) (a7 (ah Ae (ah bN (ah bX (aa 0) (mC (.int 7))) (mC (.int 19))) (mC (.int 9))))))
def dz:FN:=fQ 1 3 (aA (aE 1 (bK ao)) (aA (dO (bE (ae (ak b9 (ae (ah b5 (aa 0) (mC (.int 0))) ao)) ao)) (ay 2) (aA (dq (a! (ah dr (ah b5 (ah b5 (aa 0) (mC (.int 0))) (aa 2)) (mC (.int 1)))) (cD (gR bZ (aa 1) (ae (ah b5 (mC (.str "xyzw")) (aa 2)) ao))) aK) (dq (a! (ah Af (ah b5 (ah b5 (aa 0) (mC (.int 0))) (aa 2)) (mC (.int 1)))) (cD (gR bZ (aa 1) (ae (ah bo (ah bo (ah b5 (mC (.str "xyzw")) (aa 2)) (mC (.str "^"))) (ak gy (ae (ah b5 (ah b5 (aa 0) (mC (.int 0))) (aa 2)) ao))) ao))) aK))) (aA (dq (eh (a! (ah fA (ak gQ (ae (ah b5 (aa 0) (mC (.int 1))) ao)) (mC (.int 1)))) (a! (ah dr (aa 1) (bK ao)))) (aE 1 (ah bo (bK (ae (ak gy (ae (ak gQ (ae (ah b5 (aa 0) (mC (.int 1))) ao)) ao)) ao)) (aa 1))) aK) (a7 (eJ (mC (.str "*")) (aa 1))))))
def aU:FN:=fQ 1 2 (aA (dq (a! (ah dr (aa 0) (mC (.str "")))) (a7 (mC (.int 1))) aK) (aA (aE 1 (fW (aa 0) (dw (mC (.int 1))) du)) (aA (dq (eh (a! (ah fA (ah b5 (aa 0) (mC (.int 0))) (mC (.str "^")))) (eh (cm (a! (ak PM.c8 (ae (aa 1) ao)))) (a! (ah Af (ak b9 (ae (aa 1) ao)) (mC (.int 2)))))) (eB "NotWritten" (ae (mC (.str "behind a letter stands nothing, or ^ and an exponent to 99")) ao)) aK) (a7 (ak qw (ae (aa 1) ao))))))
def d8:FN:=fQ 4 7 (aA (aE 4 (bK ao)) (aA (dO (bE (ae (aa 3) ao)) (ay 5) (aA (aE 6 (ak PM.bW (ae (ak PM.aT (ae (aa 0) (ae (ah bo (aa 1) (ah cN (mC (.int 2)) (aa 5))) ao))) (ae (aa 2) ao)))) (cD (gR bZ (aa 4) (ae (fT (ae (aa 6) (ae (ak PM.bz (ae (ak PM.aT (ae (aa 0) (ae (ah bo (ah bo (aa 1) (ah cN (mC (.int 2)) (aa 5))) (mC (.int 1))) ao))) ao)) ao))) ao))))) (a7 (aa 4))))
def bS:FN:=fQ 1 4 (aA (dq (a! (ah dr (aa 0) (bK ao))) (a7 (mC (.str "0"))) aK) (aA (aE 1 (ak PM.dz (ae (ah b5 (aa 0) (mC (.int 0))) ao))) (aA (dq (a! (ah ltV (ah b5 (ah b5 (aa 0) (mC (.int 0))) (mC (.int 1))) (mC (.int 0)))) (aE 1 (ah bo (mC (.str "-")) (aa 1))) aK) (aA (dO (cQ (Kp (aa 0) (dw (mC (.int 1))) du)) (ay 2) (aA (aE 3 (mC (.str " + "))) (aA (dq (a! (ah ltV (ah b5 (aa 2) (mC (.int 1))) (mC (.int 0)))) (aE 3 (mC (.str " - "))) aK) (aE 1 (ah bo (ah bo (aa 1) (aa 3)) (ak PM.dz (ae (aa 2) ao))))))) (a7 (aa 1))))))
def cK:FN:=fQ 3 6 (aA (dq (a! (ah (Ag true) (aa 1) (mC PM.pI))) (eB "NotWritten" (ae (mC (.str "between two terms stands + or -")) ao)) aK) (aA (aE 3 (uQ (a! (ah dr (aa 1) (mC (.str "-")))) (Cr (mC (.int 1))) (mC (.int 1)))) (aA (aE 4 (ah cN (bK (ae (mC (.int 0)) ao)) (aa 0))) (aA (dO (cQ (gT (aa 2) (mC (.str "*")))) (ay 5) (dq (a! (ak PM.c8 (ae (aa 5) ao))) (aE 3 (ah cN (aa 3) (ak qw (ae (aa 5) ao)))) (yD (aa 4) (ak PM.cJ (ae (aa 0) (ae (fW (aa 5) du (dw (mC (.int 1)))) ao))) (ak PM.aU (ae (fW (aa 5) (dw (mC (.int 1))) du) ao))))) (a7 (fT (ae (ak kR (ae (aa 4) ao)) (ae (aa 3) ao))))))))
def ck:FN:=fQ 2 5 (aA (aE 2 (uQ (a! (gK (aa 1) (mC (.str "-")))) (mC (.str "-")) (mC (.str "+")))) (aA (aE 3 (gT (uQ (a! (ah dr (aa 2) (mC (.str "-")))) (fW (aa 1) (dw (mC (.int 1))) du) (aa 1)) (mC (.str " ")))) (aA (dq (a! (ah dr (ah bN (ak b9 (ae (aa 3) ao)) (mC (.int 2))) (mC (.int 0)))) (eB "NotWritten" (ae (mC (.str "terms have a sign between each two, and blanks only round it")) ao)) aK) (aA (aE 4 (ah bo (bK (ae (aa 2) ao)) (eM (aa 3) (mC (.int 1)) (mC (.int 2))))) (a7 (kh 2 [0] (o? true true (ae (aa 4) (ae (gj (aa 3) (mC (.int 2))) ao))) (fM [(ay 0),(ay 1)]) bf (ak PM.cK (ae (aa 2) (ae (aa 0) (ae (aa 1) ao))))))))))
def b!:FN:=fQ 3 4 (aA (cD (ak PM.c_ (ae (aa 0) ao))) (aA (cD (ak PM.bH (ae (aa 1) ao))) (aA (aE 3 (ak PM.made (ae (aa 0) (ae (aa 1) (ae (ak PM.ck (ae (aa 1) (ae (aa 2) ao))) ao))))) (aA (dq (a! (ah fA (ak PM.shown (ae (aa 3) ao)) (aa 2))) (eB "NotWritten" (ae (mC (.str "a text is what is written of a sum, sign by sign")) ao)) aK) (a7 (aa 3))))))
end PM
namespace A3
open PySem.Spec L2 MN
open PyProof.Rows hiding St
def N9:List (Str×Str×Bool):=[(("NotWritten":Str),("NotWritten":Str),true),(("NoRing":Str),("NotWritten":Str),false),(("NoUnknowns":Str),("NotWritten":Str),false),(("NoTerm":Str),("NotWritten":Str),false)]
def tab:List (Str×Str×Bool):=N9++NY []
def kn:_z:=["NotWritten","NoRing","NoUnknowns","NoTerm"]
def gq:FN:=fQ 4 8 (aA (aE 4 (bV 1 [3] (cQ (aa 2)) (ay 0) bf (fT (ae (ak kR (ae (bV 1 [1] (cQ (ah b5 (aa 0) (mC (.int 0)))) (ay 0) bf (ah cN (aa 0) (aa 1))) ao)) (ae (ah b5 (aa 0) (mC (.int 1))) ao))))) (aA (aE 5 (ak PM.shown (ae (aa 4) ao))) (aA (dq (a! (ah fA (aa 5) (ak PM.bS (ae (aa 4) ao)))) (a7 (mC (.bl false))) aK) (aA (aE 6 (ah dr (bV 1 [] (cQ (aa 4)) (ay 0) (a! (ah Af (ak sZ (ae (ah b5 (aa 0) (mC (.int 0))) ao)) (mC (.int 99)))) (aa 0)) (bK ao))) (aA (pf (sG (OX kn) (aE 7 (ak PM.b! (EJ (ae (aa 0) (ae (aa 1) (ae (aa 5) ao)))))) (m_ (uX tab) "NotWritten" (a7 (Ad (aa 6))) F6))) (a7 (kN (aa 6) (ak PM.cO (ae (aa 7) (ae (aa 4) ao))))))))))
def rh:MB:=(a7 (mC (.bl true)))
def rj:MB:=(aA (dO (bE (ae (mC (.int 2)) ao)) (ay 10) (aA (aE 11 (ak PM.b! (ae (aa 1) (ae (aa 4) (ae (aa 9) ao))))) (aA (dq (cm (a! (ak PM.cO (ae (aa 11) (ae (aa 5) ao))))) (a7 (mC (.bl false))) aK) (cD (gR bZ (aa 11) (ae (mC (.int 7)) ao)))))) rh)
def pJ:MB:=(aA (dq (a! (ah dr (ah bN (aa 3) (mC (.int 8))) (mC (.int 2)))) (a7 (ak gq (ae (aa 1) (ae (aa 4) (ae (aa 5) (ae (ah bo (mC (.int 97)) (ah bN (ah bX (aa 3) (mC (.int 8))) (ah uT (mC (.int 10)) (mC (.int 6))))) ao)))))) aK) rj)
def pK:MB:=(aA (dq (eh (cm (a! (m9 "str" (aa 9)))) (eh (a! (ah fA (aa 9) (ak PM.bS (ae (aa 5) ao)))) (cm (a! (ak PM.cO (ae (aa 8) (ae (aa 5) ao))))))) (a7 (mC (.bl false))) aK) pJ)
def pL:MB:=(aA (aE 9 (ak PM.shown (ae (aa 8) ao))) pK)
def k8:MB:=(aA (aE 8 (ak uU (ae (aa 5) ao))) pL)
def jh:MB:=(aA (dq (a! (ah dr (ah bN (aa 3) (mC (.int 8))) (mC (.int 1)))) (aA (aE 6 (ak PM.aT (ae (aa 0) (ae (mC (.int 3)) ao)))) (aA (aE 7 (bV 1 [4,6] (bE (ae (ah bN (ah bX (aa 3) (mC (.int 8))) (mC (.int 31))) ao)) (ay 0) bf (fT (ae (ak PM.bW (ae (ah bo (ah bX (aa 2) (mC (.int 7))) (ah cN (mC (.int 37)) (aa 0))) (ae (aa 1) ao))) (ae (ak PM.bz (ae (ah bo (aa 2) (ah cN (mC (.int 5)) (aa 0))) ao)) ao))))) (aE 5 (ak PM.dH (ae (aa 1) (ae (aa 7) ao)))))) aK) k8)
def vA:MB:=(aA (aE 5 (ak PM.dH (ae (aa 1) (ae (ak PM.d8 (ae (aa 0) (ae (mC (.int 4)) (ae (aa 4) (ae (ah bN (ah bX (aa 2) (mC (.int 4))) (mC (.int 8))) ao))))) ao)))) jh)
def vB:MB:=(aA (aE 4 (ah bo (mC (.int 1)) (ah bN (aa 2) (mC (.int 4))))) vA)
def vC:MB:=(aA (aE 3 (ak PM.aT (ae (aa 0) (ae (mC (.int 2)) ao)))) vB)
def pM:MB:=(aA (aE 2 (ak PM.aT (ae (aa 0) (ae (mC (.int 1)) ao)))) vC)
def DE:FN:=fQ 1 12 (aA (aE 1 (ak PM.gw (ae (ak PM.aT (ae (aa 0) (ae (mC (.int 0)) ao))) ao))) pM)
end A3
namespace TX
open Builtin Builtin.Str
abbrev cl(x:PySem.Str):List Nat:=x.cps.toList
theorem fX{x y:PySem.Str}(h:cl x=cl y):x=y:=by obtain⟨⟨a⟩⟩:=x;obtain⟨⟨b⟩⟩:=y;have:a=b:=h;rw[this]
theorem gU(x y:PySem.Str):cl (x++y)=cl x++cl y:=by show(x.cps++y.cps).toList=_;rw[V4]
theorem dY(x:PySem.Str):(cl x).length=x.length:=VB
def jn(c:Nat):List (List Nat)->List Nat
 |[]=>[]
 |[a]=>a
 |a::b::r=>a++c::jn c (b::r)
theorem jI(c:Nat):∀xs:List PySem.Str,cl (Txt.join ⟨#[c]⟩ xs)=jn c (xs.map cl):=by
 have go:∀xs:List PySem.Str,cl (PySem.Str.join ⟨#[c]⟩ xs)=jn c (xs.map cl):=by
  intro xs
  induction xs with
  |nil=>rfl
  |cons a r ih=>
   cases r with
   |nil=>rfl
   |cons b r=>
    show cl (a++⟨#[c]⟩++PySem.Str.join ⟨#[c]⟩ (b::r))=cl a++c::jn c (cl b::r.map cl);rw[gU,gU,ih,Vs];rfl
 intro xs;unfold Txt.join;rw[XY];exact go xs
theorem yP{c:Nat}:∀{a b X Y:List Nat},c ∉ a->c ∉ b->a++c::X=b++c::Y->a=b/\X=Y
 |[],[],X,Y,_,_,h=>by injection h with _ h;exact⟨rfl,h⟩
 |[],b::bs,X,Y,_,hb,h=>by injection h with h _;exact absurd (h▸Vt) hb
 |a::as,[],X,Y,ha,_,h=>by injection h with h _;exact absurd (h▸Vt) ha
 |a::as,b::bs,X,Y,ha,hb,h=>by injection h with h1 h2;obtain⟨r1,r2⟩:=yP (fun z=>ha (Vr _ z)) (fun z=>hb (Vr _ z)) h2;exact⟨by rw[h1,r1],r2⟩
theorem DF{c:Nat}:∀(ps qs:List (List Nat)),ps≠[]->qs≠[]->(∀p∈ps,c ∉ p)->(∀q∈qs,c ∉ q)->jn c ps=jn c qs->ps=qs
 |[],_,h,_,_,_,_=>absurd rfl h
 |_,[],_,h,_,_,_=>absurd rfl h
 |[a],[b],_,_,_,_,h=>by have:a=b:=h;rw[this]
 |[a],b::b'::r,_,_,ha,_,h=>by have h':a=b++c::jn c (b'::r):=h;exact absurd (show c∈a by rw[h'];simp) (ha a Vt)
 |a::a'::r,[b],_,_,_,hb,h=>by have h':a++c::jn c (a'::r)=b:=h;exact absurd (show c∈b by rw[<-h'];simp) (hb b Vt)
 |a::a'::r,b::b'::r',_,_,ha,hb,h=>by have h':a++c::jn c (a'::r)=b++c::jn c (b'::r'):=h;obtain⟨r1,r2⟩:=yP (ha a Vt) (hb b Vt) h';rw[r1,DF (a'::r) (b'::r') (by simp) (by simp) (fun p hp=>ha p (Vr _ hp)) (fun p hp=>hb p (Vr _ hp)) r2]
theorem vD(x y:PySem.Str):Txt.split x y≠[]:=by
 unfold Txt.split;split
 .simp
 .split
  .simp
  .unfold partsBetween;intro h;have:=W' List.length h;simp at this
theorem map_inj:∀{ps qs:List PySem.Str},ps.map cl=qs.map cl->ps=qs
 |[],[],_=>rfl
 |[],_::_,h=>by cases h
 |_::_,[],h=>by cases h
 |p::ps,q::qs,h=>by rw[Vp,Vp]at h;injection h with h1 h2;rw[fX h1,map_inj h2]
theorem pN{c:Nat}{ps:List PySem.Str}(hn:ps≠[])(hf:∀p∈ps,c ∉ cl p):Txt.split (Txt.join ⟨#[c]⟩ ps) ⟨#[c]⟩=ps:=by
 have h1:=StrLaws.join_split (Txt.join ⟨#[c]⟩ ps) ⟨#[c]⟩;have h2:=StrLaws.split_free (Txt.join ⟨#[c]⟩ ps) c;have h3:=vD (Txt.join ⟨#[c]⟩ ps) ⟨#[c]⟩;generalize Txt.split (Txt.join ⟨#[c]⟩ ps) ⟨#[c]⟩=qs at h1 h2 h3;have h4:Txt.join ⟨#[c]⟩ qs=Txt.join ⟨#[c]⟩ ps:=by have:Txt.join ⟨#[c]⟩ qs=PySem.Str.join ⟨#[c]⟩ qs:=XY _ _;rw[this,h1]
 have h5:=W' cl h4;rw[jI,jI]at h5;exact map_inj (DF _ _ (by simpa using h3) (by simpa using hn) (fun p hp=>by
  obtain⟨q,hq,rfl⟩:=VY.mp hp;exact h2 q hq) (fun p hp=>by
  obtain⟨q,hq,rfl⟩:=VY.mp hp;exact hf q hq) h5)
theorem rm(x:PySem.Str){l u:Option Int}{a b:Nat}(S_:a<=b)(hb:b<=x.length)(e:strSliceIndices l u 1 x.length=strSliceIndices (some (a:Int)) (some (b:Int)) 1 x.length):cl (Txt.slice x l u)=((cl x).drop a).take (b-a):=by
 have p:=StrLaws.sliced_plain x S_ hb;have q:=StrLaws.strSliceIndices_plain S_ hb;unfold Txt.slice;rw[e];split
 .rename_i h;rw[q,Vn,Wa]at h;have hl:b-a=x.length:=by simpa using h
  have ha:a=0:=by lia
  subst ha;rw[Yf,WI (by rw[dY];lia)]
 .rw[p]
theorem iI(x:PySem.Str):cl (Txt.slice x (some 1) none)=(cl x).drop 1:=by
 by_cases h:x.length=0
 .have e:x=PySem.Str.empty:=fX (by have:=dY x;rw[h]at this;rw[XO.mp this];rfl);subst e;rfl
 .have z:=rm x (l:=some 1) (u:=none) (a:=1) (b:=x.length) (by lia) (Vq _) (by
   have e1:max (0:Int) (min ((x.length:Nat):Int) ((x.length:Nat):Int))=(x.length:Int):=by lia
   have e2:¬ (((x.length:Nat):Int)<0):=by lia
   simp only[strSliceIndices,e2,WO,e1,show((1:Int)>0)=True from by simp,Xy];rfl)
  rw[z,WI (by rw[XA,dY];lia)]
theorem xB(x:PySem.Str):cl (Txt.slice x none (some 1))=(cl x).take 1:=by
 by_cases h:x.length=0
 .have e:x=PySem.Str.empty:=fX (by have:=dY x;rw[h]at this;rw[XO.mp this];rfl);subst e;rfl
 .have z:=rm x (l:=none) (u:=some 1) (a:=0) (b:=1) (by lia) (by lia) (by
   have e1:max (0:Int) (min ((0:Nat):Int) ((x.length:Nat):Int))=0:=by lia
   simp only[strSliceIndices,e1,show((1:Int)>0)=True from by simp,Xy];rfl)
  rw[z,Yf]
theorem xC(x:PySem.Str)(c:Nat):Txt.startswith x ⟨#[c]⟩=((cl x).take 1==[c]):=by
 unfold Txt.startswith
 rw[StrLaws.subAt_eq,Yf];show(decide (0+1<=x.length)&&((cl x).take 1==[c]))=_;rw[<-dY];cases cl x with
 |nil=>rfl
 |cons a r=>simp
theorem xD(m:Nat):cl (PySem.Str.ofString (toString ((m:Nat):Int)))=(Nat.toDigits 10 m).map Char.toNat:=W.KIN.signs_num m
theorem xE(m:Nat):PySem.NumText.AllDigits (cl (PySem.Str.ofString (toString ((m:Nat):Int)))):=by intro c hc;rw[xD]at hc;obtain⟨ch,Bn,e⟩:=VY.mp hc;rw[<-e];exact PyProof.Rows.digit_range (Nat.isDigit_of_mem_toDigits (by decide) (by decide) Bn)
theorem Li(m:Nat):cl (PySem.Str.ofString (toString ((m:Nat):Int)))≠[]:=by rw[xD];intro e;have h:=PySem.toDigits_len_ge 10 m;rw[List.map_eq_nil_iff.mp e]at h;exact absurd h (by decide)
end TX
namespace PG
open PySem.Spec L2 MN
open PyProof.Rows hiding St kindOf
theorem gk(i:Int)(st:aj):PM.fN [.int i] st=.ok (.bl true) st:=rfl
def FP:_v:=[2,3,5,7,11,13,17,19,23,29,31]
def wx(n:Int):Bool:=FP.contains n || (decide (2<=n)&&decide (n<=997)&&FP.all fun p => !(n.fmod p==0))
theorem any_ints(n:Int)(ns:_v):(ns.map av.int).any (fun y=>HP y (.int n))=ns.contains n:=by
 induction ns with
 |nil=>rfl
 |cons m ns ih=>
  simp only[Vp,W!,List.contains_cons];rw[ih];congr 1;show(m==n)=(n==m);rw[XX,WK,WK];exact⟨ZQ,ZQ⟩
theorem GQ(n:Int)(ns:_v)(st:aj):Ag false (.int n) (.mt (ns.map av.int)) st=.ok (.bl (ns.contains n)) st:=by
 have h1:(ns.map av.int).all flat=true:=by rw[YY];exact Wv.mpr fun _ _=>rfl
 unfold Ag Cw;dsimp only;rw[Vo ⟨rfl,h1⟩,any_ints];rfl
theorem GR(ns:_v)(f:Int->Bool):g! ((ns.map av.int).map fun v=>match v with|.int i=>.bl (f i)|_=>.fc)=some (ns.map f):=by
 induction ns with
 |nil=>rfl
 |cons m ns ih=>
  simp only[Vp,g!]at ih⊢;rw[ih];rfl
theorem jM(n:Int)(st:aj):∃g,PM.b7 [.int n] st=.ok (.bl (wx n)) (st++g):=by
 have HK:Ag false (.int n) PM.fj st=.ok (.bl (FP.contains n)) st:=GQ n FP st;cases h1:FP.contains n with
 |true=>
  refine⟨[],?_⟩;rw[h1]at HK;simp only[PM.b7,bb,aq,aB,fk,bA,aS,bw,aP,b?,c!,cF,ba,a8,aw,aQ,bx,bR,Vp,VO,Vz,Nat.reduceSub,Vl,VH,Nat.reduceAdd,HK,VS,wx,h1,ZI]
 |false=>
  rw[h1]at HK;by_cases h2:n<2
  .refine⟨[],?_⟩;have e2:decide (n<2)=true:=VF h2;have e3:decide (2<=n)=false:=VM (by lia);simp only[PM.b7,bb,aq,aB,az,fk,bA,aS,bw,aP,kU,b?,c!,cS,cF,ba,a8,eG,aw,cR,aQ,bx,hG,bR,Vp,VO,Vz,Nat.reduceSub,Vl,VH,Nat.reduceAdd,HK,e2,VS,wx,h1,e3,Yb,XG]
  .have e2:decide (n<2)=false:=VM h2;have e3:decide (2<=n)=true:=VF (by lia);by_cases h3:997<n
   .refine⟨[],?_⟩;have e4:decide (997<n)=true:=VF h3;have e5:decide (n<=997)=false:=VM (by lia);simp only[PM.b7,bb,aq,aB,az,fk,bA,aS,bw,aP,eQ,b?,c!,cS,cF,ba,a8,eG,aw,cR,aQ,bx,hG,q_,bR,Vp,VO,Vz,Nat.reduceSub,Vl,VH,Nat.reduceAdd,HK,e2,e4,VS,wx,h1,e3,e5,Yb,XG,XS]
   .have e4:decide (997<n)=false:=VM h3;have e5:decide (n<=997)=true:=VF (by lia)
    let f:av->av:=fun v=>match v with|.int i=>.bl (!(n.fmod i==0))|_=>.fc
    have hc:bQ (fun _=>True) (ay 0) bf (ah fA (ah bN (aa 1) (aa 0)) (mC (av.int 0))) (FP.map av.int) (iB 1 [0] [some (av.int n)]) st []=.ok ([]++((FP.map av.int).filter fun _=>true).map f) st:=by
     refine dG trivial (fun τ=>∃x,τ=[x,some (.int n)]) (fun _=>true) f (FP.map av.int) _ [] ⟨none,rfl⟩ ?_;rintro u hu τ ⟨x,rfl⟩;obtain⟨i,hi,rfl⟩:=VY.mp hu;have Rf:¬ i=0:=by intro z;subst z;revert hi;decide
     refine⟨_,rfl,⟨_,rfl⟩,rfl,fun _=>?_⟩;simp only[aq,aS,bw,aP,cF,jS,bR,cq,V1,cG Rf,f]
    have hb:g! (((FP.map av.int).filter fun _=>true).map f)=some (FP.map fun i => !(n.fmod i==0)):=by rw[XF.mpr (fun _ _=>rfl)];exact GR FP fun i => !(n.fmod i==0)
    refine⟨[.lst (((FP.map av.int).filter fun _=>true).map f)],?_⟩;have ha:l8 [.loc st.length] (st++[.lst (((FP.map av.int).filter fun _=>true).map f)])=.ok (.bl (wx n)) (st++[.lst (((FP.map av.int).filter fun _=>true).map f)]):=by unfold l8;dsimp only;rw[aL];dsimp only;rw[hb];simp only[wx,h1,e3,e5,Yb,XS,YY];rfl
    have hw:m? PM.fj st=.ok (FP.map av.int,fun _=>True) st:=rfl;have hz:(FP.map av.int).length=11:=rfl;rw[VA]at hc;simp only[PM.b7,bb,aq,aB,az,bA,aS,bw,aP,eQ,bh,aO,b?,cS,g?,fE,cF,ba,a8,eG,bB,aN,bF,aw,cR,aQ,bx,d6,dj,hG,q_,bR,Vp,VO,VP,VA,Vz,Nat.reduceSub,Vl,VH,Nat.reduceAdd,VT,Nat.reduceLeDiff,↓reduceIte,HK,e2,e4,hw,hc,ha,hz]
end PG
namespace UO
end UO
namespace PG
open PySem.Spec L2 MN
open PyProof.Rows hiding St kindOf
def fu(n:Int):Bool:=n==0 || wx n
theorem vE(n:Int)(st:aj):∃g,PM.jE [.int n] st=.ok (.bl (fu n)) (st++g):=by
 cases h:n==0 with
 |true=>exact⟨[],by simp only[PM.jE,bb,aq,aB,bA,aS,bw,aP,iF,Ks,bh,aO,b?,cF,jc,HU,bB,aN,bF,aQ,d_,bR,Vp,VO,Vz,Nat.reduceSub,Vl,VH,Nat.reduceAdd,gk,h,fu,ZI,VS]⟩
 |false=>
  obtain⟨g,e⟩:=jM n st;exact⟨g,by simp only[PM.jE,bb,aq,aB,bA,aS,bw,aP,iF,Kt,bh,aO,b?,cF,jc,HU,bB,aN,bF,aQ,d_,bR,Vp,VO,VP,VA,Vz,Nat.reduceSub,Vl,VH,Nat.reduceAdd,gk,h,fu,Yb,e]⟩
theorem jV{n:Int}(h:fu n=true)(st:aj):∃g,PM.c_ [.int n] st=.ok .fc (st++g):=by obtain⟨g,e⟩:=vE n st;rw[h]at e;exact⟨g,by simp only[PM.c_,bb,aq,aB,Kq,sQ,bh,aO,cS,ba,a8,gG,bB,aN,bF,cR,bx,bR,Vp,VO,VP,VA,Vz,Nat.reduceSub,Vl,VH,Nat.reduceAdd,Ya,e]⟩
theorem A4{p:Int}(h:wx p=true):2<=p/\p<=997:=by
 unfold wx at h;rw[Ze]at h;rcases h with h|h
 .have:p∈FP:=by simpa using h
  simp only[FP,VG,List.not_mem_nil,Yp]at this;omega
 .simp only[Wy,Wj]at h;omega
theorem DG{p:Int}(hp:0<p)(i:Int):i.fmod p=i % p:=X9 i (by lia)
theorem DH{p:Int}(h:wx p=true):fu p=true:=by unfold fu;rw[h,Bool.or_true]
theorem xF{i:Nat}{f o:Int}(h0:0<=f)(h1:f<2 ^ (31*i))(o0:0<=o)(o1:o<2147483647):0<=f*2147483647+o/\f*2147483647+o<2 ^ (31*(i+1)):=by
 have e:(2:Int) ^ (31*(i+1))=2 ^ (31*i)*2147483648:=by rw[Nat.mul_succ,Int.pow_add];rfl
 rw[e];lia
theorem GS{ns:_v}{k:Int}(h0:0<=k)(h1:k<(ns.length:Int)):∃c:Int,L2.m5 (ns.map av.int) k=some (.int c):=by
 have hk:k.toNat<ns.length:=by lia
 refine⟨ns[k.toNat],?_⟩;have e:=L2.jB (xs:=ns.map av.int) (j:=k.toNat) (v:=.int ns[k.toNat]) (by rw[VU,VE hk];rfl);rw[show((k.toNat:Nat):Int)=k by lia]at e;exact e
theorem f?{m:Int}(hm:0<m)(i:Int):0<=i.fmod m/\i.fmod m<m:=by rw[DG hm];exact⟨Int.emod_nonneg _ (by lia),Int.emod_lt_of_pos _ hm⟩
theorem tq{n:Nat}{ns:_v}{k:Int}{st:aj}(h:au st n=some (ns.map av.int))(k0:0<=k)(k1:k<=1000000):
  ∃o,PM.aT [.loc n,.int k] st=.ok (.int o) st/\0<=o/\o<2 ^ 186:=by
 have len:((List.map av.int ns).length:Int)=(ns.length:Int):=by rw[Vn]
 have loop:∀(c x:Int),0<=x->x<2147483647->∃μ' ax o,forL (fun _=>True) (ay 5) (aA (aE 3 (ah bN (ah bo (ah cN (ah bN (ah cN (aa 3) (aa 3)) (mC (.int 2147483629))) (mC (.int 69621))) (aa 5)) (mC (.int 2147483647)))) (aE 4 (ah bo (ah cN (aa 4) (mC (.int 2147483647))) (aa 3)))) (aW 0 6) [some (.loc n),some (.int k),some (.int c),some (.int x),some (.int 0),none] st=.nx μ' ax/\ax=st/\(∃y t,μ'=[some (.loc n),some (.int k),some (.int c),y,some (.int o),t])/\0<=o/\o<2 ^ 186:=by
  intro c x x0 x1;obtain⟨μ',ax,e,rfl,o,f,t,rfl,o0,o1,f0,f1⟩:=dy (g:=fun _=>True) (a:=ay 5) (body:=aA (aE 3 (ah bN (ah bo (ah cN (ah bN (ah cN (aa 3) (aa 3)) (mC (.int 2147483629))) (mC (.int 69621))) (aa 5)) (mC (.int 2147483647)))) (aE 4 (ah bo (ah cN (aa 4) (mC (.int 2147483647))) (aa 3))))
   (fun i μ s=>s=st/\∃(o f:Int)(t:Option av),μ=[some (.loc n),some (.int k),some (.int c),some (.int o),some (.int f),t]/\0<=o/\o<2147483647/\0<=f/\f<2 ^ (31*i))
   (aW 0 6) 0 [some (.loc n),some (.int k),some (.int c),some (.int x),some (.int 0),none] st
   (by
    rintro i u μ s hu ⟨rfl,o,f,t,rfl,o0,o1,f0,f1⟩;refine⟨trivial,?_⟩;have hi:i<6:=by have:=fh hu;simpa[aW]using this
    have eu:u=.int (0+(i:Int)):=by simp only[aW,VU]at hu;rw[Yy hi]at hu;exact(V? hu).symm
    subst eu;have q1:=f? (m:=2147483629) (by decide) (o*o);have q2:=f? (m:=2147483647) (by decide) ((o*o).fmod 2147483629*69621+(0+(i:Int)));refine⟨_,rfl,[some (.loc n),some (.int k),some (.int c),some (.int (((o*o).fmod 2147483629*69621+(0+(i:Int))).fmod 2147483647)),some (.int (f*2147483647+((o*o).fmod 2147483629*69621+(0+(i:Int))).fmod 2147483647)),some (.int (0+(i:Int)))],s,.inl ?_,rfl,_,_,_,rfl,q2.1,q2.2,?_⟩
    .simp only[aq,aB,az,aS,bw,aP,f_,cF,aw,da,pq,bR,cq,V1,V9,px (i:=o) (by lia) (by lia),cG (j:=2147483629) (by decide),mul_r (j:=69621) (by decide) (by decide),cG (j:=2147483647) (by decide),mul_r (j:=2147483647) (by decide) (by decide)]
    .rw[Wb]at f1⊢;exact xF f0 f1 q2.1 q2.2) (fun _ _ _=>trivial)
   ⟨rfl,x,0,none,rfl,x0,x1,by decide,by decide⟩
  refine⟨_,_,f,e,rfl,⟨_,_,rfl⟩,f0,?_⟩;have:(aW 0 6).length=6:=rfl;rw[this]at f1;exact f1
 have fin:∀c:Int,((decide (k<((List.map av.int ns).length:Int))=false/\c=0)\/(decide (k<((List.map av.int ns).length:Int))=true/\L2.m5 (ns.map av.int) k=some (.int c)))->∃o,PM.aT [.loc n,.int k] st=.ok (.int o) st/\0<=o/\o<2 ^ 186:=by
  intro c hc;have q:=f? (m:=2147483647) (by decide) (c*48271+7919*k*k+104729*k+11);obtain⟨μ',ax,o,e,rfl,⟨y,t,rfl⟩,o0,o1⟩:=loop c _ q.1 q.2;refine⟨o,?_,o0,o1⟩;have r6:Gk [.int 6] ax=.ok (aW 0 6,fun _=>True) ax:=rfl;rcases hc with⟨h1,rfl⟩|⟨h1,h2⟩
  .simp only[PM.aT,bb,aq,aB,az,bA,aS,bw,aP,bh,aO,b?,cS,f_,gx,cF,ba,a8,bB,aN,bF,aw,cR,aQ,bx,da,eT,oz,pq,hG,bR,jR,cq,Vp,VO,VP,VA,VV,Vz,V1,V9,Nat.reduceSub,Vl,VH,Nat.reduceAdd,gI h,h1,mul_r (j:=48271) (by decide) (by decide),px (i:=7919) (by decide) (by decide),mul_r (j:=k) (by lia) (by lia),cG (j:=2147483647) (by decide),r6,e]
  .simp only[PM.aT,bb,aq,aB,az,bA,aS,bw,aP,bh,aO,b?,c!,f_,gx,cF,ba,a8,bB,aN,bF,aw,aQ,bx,da,eT,oz,pq,hG,bR,jR,cq,Vp,VO,VP,VA,VV,Vz,V1,V9,Nat.reduceSub,Vl,VH,Nat.reduceAdd,gI h,h1,pz h h2,mul_r (j:=48271) (by decide) (by decide),px (i:=7919) (by decide) (by decide),mul_r (j:=k) (by lia) (by lia),cG (j:=2147483647) (by decide),r6,e]
 by_cases hk:k<(ns.length:Int)
 .obtain⟨c,hc⟩:=GS k0 hk;exact fin c (.inr ⟨VF (by rw[len];exact hk),hc⟩)
 .exact fin 0 (.inl ⟨VM (by rw[len];exact hk),rfl⟩)
theorem nJ{j:Int}(h:0<j)(h1:j<2 ^ 64):Dz j:=by refine Dz.of (k:=64) (by lia) ?_ (by decide);show j.natAbs<2 ^ 64;lia
theorem Lj{m:Int}(hm:0<m)(i:Int):i.fdiv m=i / m:=Int.fdiv_eq_ediv_of_nonneg i (by lia)
def O8(n:Int)(u:av):Bool:=match u with
 |.int b=>decide (b<n)&&(n.fmod b==0)
 |_=>false
def qo(n:Int):List av:=(aW 2 30).filter (O8 n)
theorem Lk:∀k:Fin 998,2<=k.val->(qo (k.val:Int)).isEmpty=true->wx (k.val:Int)=true:=by decide +kernel
theorem GU:(qo 997).isEmpty=true:=by decide +kernel
theorem DI(n:Int)(x:Option av)(st:aj):bQ (fun _=>True) (ay 0) (jQ (a! (ah ltV (aa 0) (aa 1))) (a! (ah dr (ah bN (aa 1) (aa 0)) (mC (.int 0))))) (aa 0) (aW 2 30) [x,some (.int n)] st []=.ok (qo n) st:=by
 have:=dG (a:=ay 0) (c:=jQ (a! (ah ltV (aa 0) (aa 1))) (a! (ah dr (ah bN (aa 1) (aa 0)) (mC (.int 0))))) (e:=aa 0) (g:=fun _=>True) (st:=st) trivial (fun τ=>∃x,τ=[x,some (.int n)]) (O8 n) id (aW 2 30) [x,some (.int n)] [] ⟨x,rfl⟩ ?_
 .rw[this,VA,ZL];rfl
 .rintro u hu τ ⟨x,rfl⟩;simp only[aW,VY,X6]at hu;obtain⟨i,hi,rfl⟩:=hu;have nz:¬ (2+(i:Int))=0:=by lia
  refine⟨_,rfl,⟨_,rfl⟩,?_,fun _=>rfl⟩;by_cases hb:2+(i:Int)<n
  .have e:decide (2+(i:Int)<n)=true:=VF hb;simp only[aq,aS,bw,aP,u6,cF,ba,a8,sP,hG,d_,bR,cq,V1,e,cG nz,O8,XS]
  .have e:decide (2+(i:Int)<n)=false:=VM hb;simp only[aq,aS,bw,aP,u7,ba,a8,sP,hG,bR,cq,V1,e,O8,XG]
def Rg(μ:MN.Env):Nat:=match(μ[1]?:Option (Option av)) with
 |some (some (av.int n))=>(997-n).toNat
 |_=>0
theorem GV{c:Int}(h:0<=c)(st:aj):∃g p,PM.gp [.int c] st=.ok (.int p) (st++g)/\wx p=true:=by
 have d2:Dz 2:=nJ (by decide) (by decide);cases hz:c.fmod 2==0 with
 |true=>
  have q:=f? (m:=6) (by decide) (c.fdiv 2);have UP:∀i:Int,0<=i->i<6->∃p,L2.m5 ([.int 2,.int 3,.int 5,.int 7,.int 11,.int 13]:List av) i=some (.int p)/\wx p=true:=by
   intro i i0 i1;have:i=0\/i=1\/i=2\/i=3\/i=4\/i=5:=by lia
   rcases this with rfl|rfl|rfl|rfl|rfl|rfl
   .exact⟨2,rfl,by decide⟩
   .exact⟨3,rfl,by decide⟩
   .exact⟨5,rfl,by decide⟩
   .exact⟨7,rfl,by decide⟩
   .exact⟨11,rfl,by decide⟩
   .exact⟨13,rfl,by decide⟩
  obtain⟨p,ep,hp⟩:=UP _ q.1 q.2;refine⟨[.lst [.int 2,.int 3,.int 5,.int 7,.int 11,.int 13]],p,?_,hp⟩;simp only[PM.gp,bb,aq,aB,fk,bA,aS,bw,aP,bh,aO,q9,b?,c!,cF,ba,a8,bB,aN,l?,aw,aQ,bx,d_,bR,Vp,VO,VP,VA,VV,Vz,Nat.reduceSub,Vl,VH,Nat.reduceAdd,VT,Nat.reduceLeDiff,↓reduceIte,cG (j:=2) (by decide),hz,div_ii d2,cG (j:=6) (by decide),pz (aL st [.int 2,.int 3,.int 5,.int 7,.int 11,.int 13]) ep]
 |false=>
  have q:=f? (m:=996) (by decide) (c.fdiv 2);have r2:∀st,NI [.int 2,.int 32] st=.ok (aW 2 30,fun _=>True) st:=fun _=>rfl;have rl:(aW 2 30).length=30:=rfl;have A5:∀(n:Int)(s:aj),a! (ah fA (bV 1 [1] (jD (ae (mC (.int 2)) (ae (mC (.int 32)) ao))) (ay 0) (jQ (a! (ah ltV (aa 0) (aa 1))) (a! (ah dr (ah bN (aa 1) (aa 0)) (mC (.int 0))))) (aa 0)) (bK ao)) [some (.int c),some (.int n)] s=.ok (!(qo n).isEmpty) (s++[.lst (qo n)]++[.lst []]):=by intro n s;have Jq:iB 1 [1] [some (av.int c),some (av.int n)]=[none,some (.int n)]:=rfl;simp only[aq,aS,bw,aP,bh,aO,q9,g?,fE,cF,ba,a8,bB,aN,l?,d6,Gm,VH,VT,Nat.reduceLeDiff,↓reduceIte,r2,rl,Jq,DI,ne_nil (aC (aL s (qo n)) [.lst []]) (aL (s++[.lst (qo n)]) [])]
  obtain⟨μ',ax,e,g,rfl,n,rfl,n0,n1,em⟩:=w? (t:=a! (ah fA (bV 1 [1] (jD (ae (mC (.int 2)) (ae (mC (.int 32)) ao))) (ay 0) (jQ (a! (ah ltV (aa 0) (aa 1))) (a! (ah dr (ah bN (aa 1) (aa 0)) (mC (.int 0))))) (aa 0)) (bK ao)))
   (body:=aE 1 (ah bo (aa 1) (mC (.int 1))))
   (fun μ s=>∃g,s=st++g/\∃n:Int,μ=[some (.int c),some (.int n)]/\2<=n/\n<=997) (fun μ _=>Rg μ)
   (fun μ s=>∃g,s=st++g/\∃n:Int,μ=[some (.int c),some (.int n)]/\2<=n/\n<=997/\(qo n).isEmpty=true)
   (by
    rintro μ s ⟨g,rfl,n,rfl,n0,n1⟩;have t:=A5 n (st++g);cases hd:(qo n).isEmpty with
    |true=>
     rw[hd]at t;exact .inl ⟨_,t,g++([.lst (qo n)]++[.lst []]),by simp only[Vs],n,rfl,n0,n1,hd⟩
    |false=>
     rw[hd]at t;have n2:n≠997:=fun z=>by rw[z,GU]at hd;cases hd
     refine .inr ⟨_,[some (.int c),some (.int (n+1))],_,t,.inl (by simp only[aq,aB,aS,bw,aP,f_,cF,da,pq,bR,cq,V1,V9];rfl),⟨g++([.lst (qo n)]++[.lst []]),by simp only[Vs],n+1,rfl,by lia,by lia⟩,?_⟩;show(997-(n+1)).toNat<(997-n).toNat;lia)
   [some (.int c),some (.int (2+(c.fdiv 2).fmod 996))] st ⟨[],by rw[VS],_,rfl,by lia,by lia⟩
  have hp:=Lk ⟨n.toNat,by lia⟩ (by show 2<=n.toNat;lia) (by show(qo ((n.toNat:Nat):Int)).isEmpty=true;rw[ZP (by lia)];exact em);have UQ:wx n=true:=by have:wx ((n.toNat:Nat):Int)=true:=hp;rw[ZP (by lia)]at this;exact this
  refine⟨g,n,?_,UQ⟩;simp only[PM.gp,bb,aq,aB,az,bA,aS,bw,aP,b?,cS,f_,cF,ba,a8,aw,cR,aQ,bx,da,pq,d_,bR,cq,Vp,VO,VP,VA,VV,Vz,V1,V9,Nat.reduceSub,Vl,VH,Nat.reduceAdd,cG (j:=2) (by decide),hz,div_ii d2,cG (j:=996) (by decide),e]
theorem Ll{c:Int}(h:0<=c)(st:aj):∃g p,PM.gw [.int c] st=.ok (.int p) (st++g)/\(p=0\/wx p=true):=by
 have d3:Dz 3:=nJ (by decide) (by decide);cases hz:c.fmod 3==0 with
 |true=>exact⟨[],0,by simp only[PM.gw,bb,aq,aB,fk,bA,aS,bw,aP,b?,c!,cF,ba,a8,aw,aQ,bx,d_,bR,Vp,VO,Vz,Nat.reduceSub,Vl,VH,Nat.reduceAdd,cG (j:=3) (by decide),hz,VS],.inl rfl⟩
 |false=>
  obtain⟨g,p,e,hp⟩:=GV (c:=c.fdiv 3) (by rw[Lj (by decide)];exact Int.ediv_nonneg h (by decide)) st;exact⟨g,p,by simp only[PM.gw,bb,aq,aB,az,bA,aS,bw,aP,bh,aO,b?,cS,cF,ba,a8,bB,aN,bF,aw,cR,aQ,bx,d_,bR,Vp,VO,VP,VA,Vz,Nat.reduceSub,Vl,VH,Nat.reduceAdd,cG (j:=3) (by decide),hz,div_ii d3,e],.inr hp⟩
theorem pO{g:aj->Prop}{a:AS}{e:ME}{st:aj}(hg:g st)(I:MN.Env->Prop)(f:Int->av):∀(ns:_v)(τ:MN.Env)(ys:List av),I τ ->
  (∀i∈ns,∀τ,I τ->∃τ1,a (.int i) τ=some τ1/\I τ1/\e τ1 st=.ok (f i) st)->bQ g a bf e (ns.map av.int) τ st ys=.ok (ys++ns.map f) st
 |[],τ,ys,_,_=>by rw[VO];unfold bQ;rw[Vo hg];simp
 |n::ns,τ,ys,hI,hs=>by obtain⟨τ1,h1,h2,h3⟩:=hs n Vt τ hI;have ih:=pO hg I f ns τ1 (ys++[f n]) h2 fun i hi=>hs i (Vr n hi);rw[Vp];unfold bQ;rw[Vo hg,h1];dsimp only[bf];rw[h3];dsimp only;rw[ih];simp
theorem GW{n j:Nat}(h:j<n):L2.zT n (j:Int)=some j:=by unfold L2.zT;rw[Vo (by lia),Vo (by lia)];simp
abbrev bj:=List Int×Int
def tV(t:bj):av:=.tup [aR t.1,.int t.2]
def eD(t:bj):List dE×av:=(iK t.1,.int t.2)
def cz(A:List bj)(k:_v):Int:=((A.find? fun p=>decide (p.1=k)).map (·.2)).getD 0
def gW(A:List bj)(k:_v)(v:Int):List bj:=if A.any (fun p=>decide (p.1=k))then A.map (fun p=>if p.1=k then(p.1,v)else p)else A++[(k,v)]
theorem DJ(a k:_v):decide (iK a=iK k)=decide (a=k):=by
 by_cases h:a=k
 .rw[h,VF rfl,VF rfl]
 .rw[VM h,VM fun e=>h (Dg e)]
theorem yQ(k:_v):∀A:List bj,sH (A.map eD) (iK k)=(A.find? fun p=>decide (p.1=k)).map fun p=>av.int p.2
 |[]=>rfl
 |p::A=>by
  unfold sH;rw[Vp,WV,WV];show Option.map _ (match decide (iK p.1=iK k) with|true=>some (eD p)|false=>_)=_;rw[DJ];cases decide (p.1=k) with
  |true=>rfl
  |false=>exact yQ k A
theorem DK(k:_v):∀A:List bj,((A.map eD).any fun kv=>decide (kv.1=iK k))=A.any fun p=>decide (p.1=k)
 |[]=>rfl
 |p::A=>by rw[Vp,W!,W!,DK k A];show(decide (iK p.1=iK k) || _)=_;rw[DJ]
theorem GX(A:List bj)(k:_v)(v:Int):Av (A.map eD) (iK k) (.int v)=(gW A k v).map eD:=by
 unfold Av gW;rw[DK];by_cases h:(A.any fun p=>decide (p.1=k))=true
 .rw[Vo h,Vo h,V6,V6];refine Wx fun p _=>?_;show(if iK p.1=iK k then(iK p.1,av.int v)else eD p)=eD (if p.1=k then(p.1,v)else p);by_cases e:p.1=k
  .rw[Vo e,Vo (by rw[e])];rfl
  .rw[Vu e,Vu fun z=>e (Dg z)]
 .rw[Vu h,Vu h,Wz];rfl
theorem rn(k:_v):l_ (aR k)=some (iK k):=by
 have h:∀k:_v,keysOf (k.map av.int)=some (iK k):=by
  intro k
  induction k with
  |nil=>rfl
  |cons x k ih=>
   rw[Vp];unfold keysOf;show(match dB (av.int x),keysOf (k.map av.int) with|some a,some b=>some (a::b)|_,_=>none)=_;rw[ih];rfl
 show keysOf (k.map av.int)=_;exact h k
theorem tu{st:aj}{d:Nat}{A:List bj}(h:st[d]?=some (.dT (A.map eD)))(k:_v):kS st (.loc d) (aR k)=some ((A.find? fun p=>decide (p.1=k)).map fun p=>av.int p.2):=by unfold kS;dsimp only;rw[h];dsimp only;rw[rn,Option.map_some,yQ]
theorem rq{st:aj}{d:Nat}{A:List bj}(h:st[d]?=some (.dT (A.map eD)))(hl:A.length<sizeLine)(k:_v)(v:Int):j' st (.loc d) (aR k) (.int v)=some (st.set d (.dT ((gW A k v).map eD))):=by unfold j';dsimp only;rw[h];dsimp only;rw[Vo (by rw[Vn];exact hl),rn,Option.map_some,GX]
theorem rA(A:List bj)(k:_v):((A.find? fun p=>decide (p.1=k)).map fun p=>av.int p.2).getD (.int 0)=.int (cz A k):=by
 unfold cz;cases A.find? fun p=>decide (p.1=k) with
 |none=>rfl
 |some p=>rfl
theorem A6{A:List bj}{k:_v}{v:Int}:(gW A k v).map (·.1)=if A.any (fun p=>decide (p.1=k))then A.map (·.1)else A.map (·.1)++[k]:=by
 unfold gW;by_cases h:(A.any fun p=>decide (p.1=k))=true
 .rw[Vo h,Vo h,V6];refine Wx fun p _=>?_;show(if p.1=k then(p.1,v)else p).1=p.1;split<;>rfl
 .rw[Vu h,Vu h,Wz];rfl
theorem yR{A:List bj}{k:_v}:(A.any fun p=>decide (p.1=k))=true↔k∈A.map (·.1):=by
 rw[YC,VY];constructor
 .rintro⟨p,hp,e⟩;exact⟨p,hp,We e⟩
 .rintro⟨p,hp,e⟩;exact⟨p,hp,VF e⟩
theorem xG{A:List bj}(h:(A.map (·.1)).Nodup)(k:_v)(v:Int):((gW A k v).map (·.1)).Nodup:=by
 rw[A6];by_cases c:(A.any fun p=>decide (p.1=k))=true
 .rw[Vo c];exact h
 .rw[Vu c];refine List.nodup_append.mpr ⟨h,Yx _ _,?_⟩;intro a ha b hb e;rw[V0.mp hb]at e;exact c (yR.mpr (e▸ha))
theorem DM{A:List bj}{k:_v}{v:Int}:(gW A k v).length<=A.length+1:=by
 unfold gW;split
 .rw[Vn];lia
 .rw[Vx];exact Vq _
theorem pP{A:List bj}{k:_v}{v:Int}{t:bj}(h:t∈gW A k v):t∈A\/t=(k,v):=by
 unfold gW at h;split at h
 .obtain⟨p,hp,e⟩:=VY.mp h;by_cases c:p.1=k
  .rw[Vo c]at e;right;rw[<-e,c]
  .rw[Vu c]at e;left;rw[<-e];exact hp
 .rcases Wt.mp h with h|h
  .exact .inl h
  .exact .inr (V0.mp h)
theorem vF{A:List bj}{k:_v}(h:k∈A.map (·.1)):(k,cz A k)∈A:=by
 unfold cz;cases z:A.find? fun p=>decide (p.1=k) with
 |none=>
  rw[Zj]at z;obtain⟨p,hp,e⟩:=VY.mp h;exact absurd (VF e) (z p hp)
 |some p=>
  have e:=List.find?_some z;have m:=Yn z;have e':p.1=k:=We e;show(k,p.2)∈A;rw[<-e'];exact m
theorem xH{A:List bj}{k:_v}{b:Int}(b0:0<=b)(h:∀t∈A,-b<=t.2/\t.2<=b):-b<=cz A k/\cz A k<=b:=by
 unfold cz;cases z:A.find? fun p=>decide (p.1=k) with
 |none=>show -b<=0/\(0:Int)<=b;lia
 |some p=>exact h p (Yn z)
theorem set_dict(st:aj)(a b:List (List dE×av)):(st++[aG.dT a]).set st.length (.dT b)=st++[.dT b]:=u? st _ _
theorem tw(st:aj)(a:List (List dE×av)):(st++[aG.dT a])[st.length]?=some (.dT a):=by rw[VJ (Vq _),Ws];rfl
def told(A:List bj):List bj:=((iP (A.map (·.1))).filter fun k=>cz A k !=0).map fun k=>(k,cz A k)
def LW:av->_v
 |.tup us=>(hU us).getD []
 |_=>[]
theorem DN(k:_v):LW (aR k)=k:=by show(hU (k.map av.int)).getD []=k;rw[kZ];rfl
theorem yS{s:aj}{d:Nat}{A:List bj}{k:_v}(h:s[d]?=some (.dT (A.map eD)))(hk:k∈A.map (·.1)):gE (.loc d) (aR k) s=.ok (.int (cz A k)) s:=by
 unfold gE;rw[tu h k];unfold cz;cases z:A.find? fun p=>decide (p.1=k) with
 |none=>
  rw[Zj]at z;obtain⟨p,hp,e⟩:=VY.mp hk;exact absurd (VF e) (z p hp)
 |some p=>rfl
theorem vG{m:ME}{μ:MN.Env}{st:aj}:jf m μ st=(m μ st).fR Dm:=jb
def DO:av->bj
 |.tup [k,.int n]=>(LW k,n)
 |_=>([],0)
theorem yT(t:bj):DO (tV t)=t:=by show(LW (aR t.1),t.2)=t;rw[DN]
section
variable{μ:MN.Env}{s s1 s2:aj}{a b:ME}{f:F2}{x y:av}{r:cX av}{t u:MT}{c:Bool}{B:MB}
theorem aX(h1:a μ s=.ok x s1)(h2:b μ s1=.ok y s2):ah f a b μ s=f x y s2:=by show(a μ s).bind _=_;rw[h1];show(b μ s1).bind _=_;rw[h2]
theorem bI(h:a μ s=.ok (.bl c) s1):a! a μ s=.ok c s1:=by rw[a8,h];rfl
theorem yU(h1:t μ s=.ok false s1)(h2:u μ s1=.ok false s2):eh t u μ s=.ok false s2:=by rw[eG,h1,aq,eQ,h2]
theorem rB(h:t μ s=.ok true s1):cm t μ s=.ok false s1:=by rw[gG,h];rfl
theorem dD(h:t μ s=.ok false s1):dq t B aK μ s=.nx μ s1:=by rw[bx,h,aB,cS];rfl
theorem Lm(h1:a μ s=.ok (.bl true) s1)(h2:b μ s1=r):kN a b μ s=r:=by rw[jc,h1,aq,iF,h2]
end
theorem Ln(t:bj):vc 14 (tV t)=true:=by show(fV 12 (t.1.map av.int)&&(true&&true))=true;rw[vd];rfl
theorem Lo(D:List bj):fV 14 (D.map tV)=true:=mq fun u hu=>by obtain⟨t,_,rfl⟩:=VY.mp hu;exact Ln t
theorem cT{s:aj}{n:Nat}{c:aG}(h:s[n]?=some c)(more:aj):(s++more)[n]?=some c:=by
 have:n<s.length:=by
  rcases V! n s.length with q|q
  .exact q
  .rw[V7 q]at h;cases h
 rw[V3 this];exact h
theorem A7{s:aj}{d:Nat}{A:List bj}{k:_v}{v:Int}(h:s[d]?=some (.dT (A.map eD)))(hl:A.length<sizeLine):
  PM.jg [.loc d,aR k,.int v] s=.ok .fc (s.set d (.dT ((gW A k (cz A k+v)).map eD))):=by
 have hd:sM s (.loc d)=true:=by unfold sM;dsimp only;rw[h]
 have e1:iD (aa 0) (aa 1) (mC (.int 0)) [some (.loc d),some (aR k),some (.int v)] s=.ok (.int (cz A k)) s:=by show(if sM s (.loc d)=true then(match kS s (.loc d) (aR k) with|some o=>cX.ok (o.getD (.int 0)) s|none=>.bad)else .bad)=_;rw[Vo hd,tu h k];show cX.ok (Option.getD _ (av.int 0)) s=_;rw[rA]
 have e2:ah bo (iD (aa 0) (aa 1) (mC (.int 0))) (aa 2) [some (.loc d),some (aR k),some (.int v)] s=.ok (.int (cz A k+v)) s:=by unfold ah;rw[e1];rfl
 unfold PM.jg;rw[bb (np:=3) (us:=[av.loc d,aR k,.int v]) rfl];show(kd (aa 0) (aa 1) (ah bo (iD (aa 0) (aa 1) (mC (.int 0))) (aa 2)) [some (.loc d),some (aR k),some (.int v)] s).fin=_;unfold kd;rw[e2];show cg.fin (match j' s (.loc d) (aR k) (.int (cz A k+v)) with|some j?=>cg.nx _ j? | none=>.bad)=_;rw[rq h hl];rfl
def cZ(r n:Int):Int:=if r=0 then n else n.fmod r
theorem pQ(r n:Int)(st:aj):PM.dC [.int r,.int n] st=.ok (.int (cZ r n)) st:=by
 unfold cZ;by_cases h:r=0
 .have e:(r==0)=true:=by rw[h];rfl
  rw[Vo h];simp only[PM.dC,bb,aq,aB,fk,bA,aS,bw,aP,b?,c!,cF,ba,a8,aw,aQ,bx,d_,bR,cq,Vp,VO,VP,VA,Vz,Nat.reduceSub,Vl,VH,Nat.reduceAdd,e]
 .have e:(r==0)=false:=by simpa using h
  rw[Vu h];simp only[PM.dC,bb,aq,aB,az,bA,aS,bw,aP,b?,cS,cF,ba,a8,aw,cR,aQ,bx,d_,bR,cq,Vp,VO,VP,VA,Vz,Nat.reduceSub,Vl,VH,Nat.reduceAdd,e,cG h]
def nK(A:List bj):List bj:=(iP (A.map (·.1))).map fun k=>(k,cz A k)
def bM(r:Int)(A:List bj):List bj:=((nK A).map fun t=>(t.1,cZ r t.2)).filter fun t=>t.2 !=0
theorem GY(r n:Int)(st:aj):PM.bL [.int r,.int n] st=.ok (.int (cZ r n)) st:=by
 unfold cZ;by_cases h:r=0
 .have e:(r==0)=true:=by rw[h];rfl
  rw[Vo h];simp only[PM.bL,bb,aq,aB,bA,aS,bw,aP,iG,b?,cF,ba,a8,gH,aQ,d_,bR,cq,Vp,VO,VP,VA,Vz,Nat.reduceSub,Vl,VH,Nat.reduceAdd,e]
 .have e:(r==0)=false:=by simpa using h
  rw[Vu h];simp only[PM.bL,bb,aq,aB,bA,aS,bw,aP,iH,b?,cF,ba,a8,gH,aQ,d_,bR,cq,Vp,VO,VP,VA,Vz,Nat.reduceSub,Vl,VH,Nat.reduceAdd,e,cG h]
theorem xI{p:Nat}{L:List bj}{r:Int}{st:aj}(h:au st p=some (L.map tV))(hl:L.length<=1000000):
  ∃c,PM.dM [.int r,.loc p] st=.ok (.loc (st.length+1)) (st++[c,.lst (((L.map fun t=>(t.1,cZ r t.2)).filter fun t=>t.2 !=0).map tV)]):=by
 obtain⟨L',Rh⟩:∃L':List bj,L'=L.map fun t=>(t.1,cZ r t.2):=⟨_,rfl⟩
 have cp:=dG (a:=fM [ay 0,ay 1]) (c:=bf) (e:=fT (ae (aa 0) (ae (ak PM.bL (ae (aa 2) (ae (aa 1) ao))) ao))) (g:=fun ax=>au ax p=some (L.map tV)) (st:=st) h (fun τ=>∃x y,τ=[x,y,some (.int r)]) (fun _=>true) (fun v=>tV ((DO v).1,cZ r (DO v).2)) (L.map tV) [none,none,some (.int r)] [] ⟨_,_,rfl⟩ (by
  rintro u hu τ ⟨x,y,rfl⟩;obtain⟨t,ht,rfl⟩:=VY.mp hu;refine⟨[some (aR t.1),some (.int t.2),some (.int r)],rfl,⟨_,_,rfl⟩,rfl,fun _=>?_⟩;have e0:aa 0 [some (aR t.1),some (.int t.2),some (.int r)] st=.ok (aR t.1) st:=rfl;have e1:ak PM.bL (ae (aa 2) (ae (aa 1) ao)) [some (aR t.1),some (.int t.2),some (.int r)] st=.ok (.int (cZ r t.2)) st:=by show PM.bL [.int r,.int t.2] st=_;exact GY _ _ _
  rw[yT,sR,aN,e0,aq,bh,aN,e1,aq,bh,bB,aq,aO,aq,aO,aq,yE];exact Vo (by rw[VT];show 2<=16777216;decide))
 have e:(List.filter (fun _=>true) (L.map tV)).map (fun v=>tV ((DO v).1,cZ r (DO v).2))=L'.map tV:=by rw[XF.mpr fun _ _=>rfl,V6,Rh,V6];refine Wx fun t _=>?_;show tV ((DO (tV t)).1,cZ r (DO (tV t)).2)=_;rw[yT];rfl
 rw[e,VA]at cp;obtain⟨s,hs⟩:∃s,s=st++[aG.lst (L'.map tV)]:=⟨_,rfl⟩
 have ls:s.length=st.length+1:=by rw[hs,Vx];rfl
 have h2:au s st.length=some (L'.map tV):=by rw[hs];exact aL st _
 have lL:L'.length=L.length:=by rw[Rh,Vn]
 have S!:=dG (a:=ay 0) (c:=a! (ah fA (ah b5 (aa 0) (mC (.int 1))) (mC (.int 0)))) (e:=aa 0) (g:=fun ax=>au ax st.length=some (L'.map tV)) (st:=s) h2 (fun τ=>∃x,τ=[x]) (fun v=>(DO v).2 !=0) (fun v=>v) (L'.map tV) [none] [] ⟨_,rfl⟩ (by
  rintro u hu τ ⟨x,rfl⟩;obtain⟨t,ht,rfl⟩:=VY.mp hu;refine⟨[some (tV t)],rfl,⟨_,rfl⟩,?_,fun _=>rfl⟩;rw[yT];refine bI ?_;rw[aX (x:=.int t.2) (s1:=s) rfl (y:=.int 0) (s2:=s) rfl,jS];rfl)
 have e2:(List.filter (fun v=>(DO v).2 !=0) (L'.map tV)).map (fun v=>v)=(L'.filter fun t=>t.2 !=0).map tV:=by
  rw[List.map_id',List.filter_map];have:((fun v=>(DO v).2 !=0) ∘ tV)=fun t=>t.2 !=0:=by funext t;show((DO (tV t)).2 !=0)=_;rw[yT]
  rw[this]
 rw[e2,VA]at S!;refine⟨.lst (L'.map tV),?_⟩;have v1:aa 1 [some (av.int r),some (.loc p),none] st=.ok (.loc p) st:=rfl;have Br:iB 2 [0] [some (av.int r),some (.loc p),none]=[none,none,some (.int r)]:=rfl;have comp:bV 2 [0] (cQ (aa 1)) (fM [ay 0,ay 1]) bf (fT (ae (aa 0) (ae (ak PM.bL (ae (aa 2) (ae (aa 1) ao))) ao))) [some (.int r),some (.loc p),none] st=.ok (.loc st.length) s:=by rw[d6,dj,v1,aq,c5 h,aq,fE,Vo (by rw[Vn,VT];lia),Br,cp,aq,g?,hs]
 have v2:aa 2 [some (av.int r),some (.loc p),some (.loc st.length)] s=.ok (.loc st.length) s:=rfl;have Ri:iB 1 [] [some (av.int r),some (.loc p),some (.loc st.length)]=[none]:=rfl;have N_:bV 1 [] (cQ (aa 2)) (ay 0) (a! (ah fA (ah b5 (aa 0) (mC (.int 1))) (mC (.int 0)))) (aa 0) [some (.int r),some (.loc p),some (.loc st.length)] s=.ok (.loc s.length) (s++[.lst ((L'.filter fun t=>t.2 !=0).map tV)]):=by rw[d6,dj,v2,aq,c5 h2,aq,fE,Vo (by rw[Vn,VT];lia),Ri,S!,aq,g?]
 have first:aE 2 (bV 2 [0] (cQ (aa 1)) (fM [ay 0,ay 1]) bf (fT (ae (aa 0) (ae (ak PM.bL (ae (aa 2) (ae (aa 1) ao))) ao)))) [some (.int r),some (.loc p),none] st=.nx [some (.int r),some (.loc p),some (.loc st.length)] s:=by rw[da,comp,aB];rfl
 have es:st++[aG.lst (L'.map tV),.lst ((L'.filter fun t=>t.2 !=0).map tV)]=s++[.lst ((L'.filter fun t=>t.2 !=0).map tV)]:=by rw[hs,Vs];rfl
 unfold PM.dM;rw[bb (np:=2) (us:=[av.int r,.loc p]) rfl,<-Rh,es,<-ls];show(aA (aE 2 (bV 2 [0] (cQ (aa 1)) (fM [ay 0,ay 1]) bf (fT (ae (aa 0) (ae (ak PM.bL (ae (aa 2) (ae (aa 1) ao))) ao))))) (a7 (bV 1 [] (cQ (aa 2)) (ay 0) (a! (ah fA (ah b5 (aa 0) (mC (.int 1))) (mC (.int 0)))) (aa 0))) [some (.int r),some (.loc p),none] st).fin=_;rw[aw,first,az,aQ,N_,aB];rfl
def cU(P:List bj):List bj:=P.foldl (fun A t=>gW A t.1 (cz A t.1+t.2)) []
theorem rD(P:List bj)(t:bj):cU (P++[t])=gW (cU P) t.1 (cz (cU P) t.1+t.2):=by unfold cU;rw[List.foldl_append];rfl
theorem fold_all(K:List (_v)):∀(P A:List bj),(A.map (·.1)).Nodup->(∀t∈A,t.1∈K)->(∀t∈P,t.1∈K) ->
  ((P.foldl (fun A t=>gW A t.1 (cz A t.1+t.2)) A).map (·.1)).Nodup/\(P.foldl (fun A t=>gW A t.1 (cz A t.1+t.2)) A).length<=A.length+P.length/\∀t∈P.foldl (fun A t=>gW A t.1 (cz A t.1+t.2)) A,t.1∈K
 |[],A,h1,h2,_=>⟨h1,by simp,h2⟩
 |t::P,A,h1,h2,h3=>by
  have ih:=fold_all K P (gW A t.1 (cz A t.1+t.2)) (xG h1 _ _) (fun q hq=>by
   rcases pP hq with hq|rfl
   .exact h2 q hq
   .exact h3 t Vt) (fun q hq=>h3 q (Vr _ hq))
  refine⟨ih.1,VR ih.2.1 ?_,ih.2.2⟩;have:=DM (A:=A) (k:=t.1) (v:=cz A t.1+t.2);rw[Vl];lia
theorem hV(P:List bj):((cU P).map (·.1)).Nodup/\(cU P).length<=P.length/\∀t∈cU P,t.1∈P.map (·.1):=by have:=fold_all (P.map (·.1)) P [] List.nodup_nil (fun t ht=>by cases ht) (fun t ht=>VY.mpr ⟨t,ht,rfl⟩);refine⟨this.1,?_,this.2.2⟩;have:=this.2.1;simp at this;exact this
abbrev O9:MB:=cD (ak PM.jg (ae (aa 3) (ae (aa 4) (ae (aa 5) ao))))
theorem A8{p:Nat}{P:List bj}{st:aj}{x0 x1:Option av}(h:au st p=some (P.map tV))(hl:P.length<1000000):
  ∃y4 y5,forL (fun ax=>au ax p=some (P.map tV)) (fM [ay 4,ay 5]) O9 (P.map tV) [x0,x1,some (.loc p),some (.loc st.length),none,none] (st++[.dT []])=.nx [x0,x1,some (.loc p),some (.loc st.length),y4,y5] (st++[.dT ((cU P).map eD)]):=by
 have hg:∀(A:List bj),au (st++[.dT (A.map eD)]) p=some (P.map tV):=fun A=>aC h _;obtain⟨μ',ax,e,rfl,y4,y5,rfl⟩:=dy (g:=fun ax=>au ax p=some (P.map tV)) (a:=fM [ay 4,ay 5]) (body:=O9)
  (fun i μ s'=>s'=st++[.dT ((cU (P.take i)).map eD)]/\∃y4 y5,μ=[x0,x1,some (.loc p),some (.loc st.length),y4,y5])
  (P.map tV) 0 [x0,x1,some (.loc p),some (.loc st.length),none,none] (st++[.dT []])
  (by
   rintro i u μ s' hu ⟨rfl,y4,y5,rfl⟩;rw[Wb];refine⟨hg _,?_⟩;rw[VU]at hu;have hi:i<P.length:=by
    rcases V! i P.length with q|q
    .exact q
    .rw[V7 q]at hu;cases hu
   rw[VE hi]at hu;obtain⟨t,ht⟩:∃t,t=P[i]:=⟨_,rfl⟩
   rw[<-ht]at hu;cases hu;have tk:P.take (i+1)=P.take i++[t]:=by rw[Z0,VE hi,<-ht];rfl
   have lA:=(hV (P.take i)).2.1;rw[Wm]at lA;have ad:=A7 (k:=t.1) (v:=t.2) (tw st ((cU (P.take i)).map eD)) (by rw[VT];lia);rw[set_dict,<-rD,<-tk]at ad;refine⟨[x0,x1,some (.loc p),some (.loc st.length),some (aR t.1),some (.int t.2)],rfl,[x0,x1,some (.loc p),some (.loc st.length),some (aR t.1),some (.int t.2)],_,.inl ?_,rfl,_,_,rfl⟩;have q:ak PM.jg (ae (aa 3) (ae (aa 4) (ae (aa 5) ao))) [x0,x1,some (.loc p),some (.loc st.length),some (aR t.1),some (.int t.2)] (st++[.dT ((cU (P.take i)).map eD)])=.ok .fc (st++[.dT ((cU (P.take (i+1))).map eD)]):=by show PM.jg [.loc st.length,aR t.1,.int t.2] _=_;exact ad
   show cD _ _ _=_;rw[fI,q,aB];rfl)
  (fun μ s hp=>by obtain⟨rfl,_⟩:=hp;exact hg _)
  ⟨rfl,none,none,rfl⟩
 rw[Wb,Vn,WI (Vq _)]at e;exact⟨y4,y5,e⟩
abbrev O_:ME:=fT (ae (aa 0) (ae (ah gE (aa 1) (aa 0)) ao))
theorem A9{s:aj}{d:Nat}{A:List bj}{r:Int}(h:s[d]?=some (.dT (A.map eD)))(nd:(A.map (·.1)).Nodup)(hl:A.length<1000000)(ne:∀t∈A,t.1≠[]):
  ∃c1 c2 c3,PM.cW [.int r,.loc d] s=.ok (.loc (s.length+3)) (s++[c1,c2,c3,.lst ((bM r A).map tV)]):=by
 have DP:(A.map eD).map (·.1)=(A.map (·.1)).map iK:=by rw[V6,V6];rfl
 have O!:=yN (ks:=A.map (·.1)) h DP (by rw[Vn,VT];lia) (fun k hk=>by
  obtain⟨t,ht,rfl⟩:=VY.mp hk;exact ne t ht)
 obtain⟨s2,gA⟩:∃s2,s2=s++[aG.lst ((iP (A.map (·.1))).map aR)]:=⟨_,rfl⟩
 have hd2:s2[d]?=some (.dT (A.map eD)):=by rw[gA];exact cT h _
 have hit:au s2 s.length=some ((iP (A.map (·.1))).map aR):=by rw[gA];exact aL s _
 have lk:(iP (A.map (·.1))).length=A.length:=by rw[(fq _).length_eq,Vn]
 have cp:=dG (a:=ay 0) (c:=bf) (e:=O_) (g:=fun ax=>au ax s.length=some ((iP (A.map (·.1))).map aR)) (st:=s2) hit (fun τ=>∃x,τ=[x,some (.loc d)]) (fun _=>true) (fun v=>.tup [v,.int (cz A (LW v))]) ((iP (A.map (·.1))).map aR) [none,some (.loc d)] [] ⟨_,rfl⟩ (by
  rintro u hu τ ⟨x,rfl⟩;obtain⟨k,hk,rfl⟩:=VY.mp hu;have O?:=(fq _).mem_iff.mp hk;have e0:aa 0 [some (aR k),some (.loc d)] s2=.ok (aR k) s2:=rfl;have e1:ah gE (aa 1) (aa 0) [some (aR k),some (.loc d)] s2=.ok (.int (cz A k)) s2:=by show gE (.loc d) (aR k) s2=_;exact yS hd2 O?
  refine⟨[some (aR k),some (.loc d)],rfl,⟨_,rfl⟩,rfl,fun _=>?_⟩;rw[DN];unfold O_;rw[sR,aN,e0,aq,bh,aN,e1,aq,bh,bB,aq,aO,aq,aO,aq,yE];exact Vo (by rw[VT];show 2<=16777216;decide))
 have e:(List.filter (fun _=>true) ((iP (A.map (·.1))).map aR)).map (fun v=>av.tup [v,.int (cz A (LW v))])=(nK A).map tV:=by rw[XF.mpr fun _ _=>rfl,V6];unfold nK;rw[V6];refine Wx fun k _=>?_;show av.tup [aR k,.int (cz A (LW (aR k)))]=_;rw[DN];rfl
 rw[e,VA]at cp;obtain⟨s3,ji⟩:∃s3,s3=s2++[aG.lst ((nK A).map tV)]:=⟨_,rfl⟩
 have v1:aa 1 [some (av.int r),some (.loc d)] s=.ok (.loc d) s:=rfl;have Br:iB 1 [1] [some (av.int r),some (.loc d)]=[none,some (.loc d)]:=rfl;have comp:bV 1 [1] (cQ (jf (aa 1))) (ay 0) bf O_ [some (.int r),some (.loc d)] s=.ok (.loc s2.length) s3:=by rw[d6,dj,vG,v1,aq,O!,<-gA,aq,c5 hit,aq,fE,Vo (by rw[Vn,lk,VT];lia),Br,cp,aq,g?,ji]
 obtain⟨c3,se⟩:=xI (r:=r) (L:=nK A) (p:=s2.length) (st:=s3) (by rw[ji];exact aL s2 _) (by unfold nK;rw[Vn,lk];lia);refine⟨.lst ((iP (A.map (·.1))).map aR),.lst ((nK A).map tV),c3,?_⟩;have l3:s3.length=s.length+2:=by rw[ji,gA,Vx,Vx];rfl
 have es:s++[aG.lst ((iP (A.map (·.1))).map aR),.lst ((nK A).map tV),c3,.lst ((bM r A).map tV)]=s3++[c3,.lst ((bM r A).map tV)]:=by rw[ji,gA,Vs,Vs];rfl
 have v0:aa 0 [some (av.int r),some (.loc d)] s=.ok (.int r) s:=rfl;unfold PM.cW;rw[bb (np:=2) (us:=[av.int r,.loc d]) rfl,es];show(a7 (ak PM.dM (ae (aa 0) (ae (bV 1 [1] (cQ (jf (aa 1))) (ay 0) bf O_) ao))) [some (.int r),some (.loc d)] s).fin=_;rw[aQ,bF,aN,v0,aq,bh,aN,comp,aq,bh,bB,aq,aO,aq,aO,aq,se,l3];rfl
abbrev LX:MB:=kd (aa 2) (ah b5 (aa 3) (mC (.int 0))) (ah bo (iD (aa 2) (ah b5 (aa 3) (mC (.int 0))) (mC (.int 0))) (ah b5 (aa 3) (mC (.int 1))))
theorem DQ{s:aj}{d:Nat}{A:List bj}{t:bj}{x0 x1 x4 x5:Option av}(h:s[d]?=some (.dT (A.map eD)))(hl:A.length<sizeLine):
  LX [x0,x1,some (.loc d),some (tV t),x4,x5] s=.nx [x0,x1,some (.loc d),some (tV t),x4,x5] (s.set d (.dT ((gW A t.1 (cz A t.1+t.2)).map eD))):=by
 have hd:sM s (.loc d)=true:=by unfold sM;dsimp only;rw[h]
 have e1:iD (aa 2) (ah b5 (aa 3) (mC (.int 0))) (mC (.int 0)) [x0,x1,some (.loc d),some (tV t),x4,x5] s=.ok (.int (cz A t.1)) s:=by show(if sM s (.loc d)=true then(match kS s (.loc d) (aR t.1) with|some o=>cX.ok (o.getD (.int 0)) s|none=>.bad)else .bad)=_;rw[Vo hd,tu h t.1];show cX.ok (Option.getD _ (av.int 0)) s=_;rw[rA]
 have i1:ah b5 (aa 3) (mC (.int 1)) [x0,x1,some (.loc d),some (tV t),x4,x5] s=.ok (.int t.2) s:=rfl;have e2:ah bo (iD (aa 2) (ah b5 (aa 3) (mC (.int 0))) (mC (.int 0))) (ah b5 (aa 3) (mC (.int 1))) [x0,x1,some (.loc d),some (tV t),x4,x5] s=.ok (.int (cz A t.1+t.2)) s:=by rw[aX e1 i1];rfl
 unfold LX kd;rw[e2];show(match j' s (.loc d) (aR t.1) (.int (cz A t.1+t.2)) with|some j?=>cg.nx _ j? | none=>.bad)=_;rw[rq h hl]
def A_(r:Int)(A:List bj)(ks:List (_v)):List bj:=(ks.map fun k=>(k,cZ r (cz A k))).filter fun t=>t.2 !=0
theorem DR(r:Int)(A:List bj)(ks:List (_v))(k:_v):A_ r A (ks++[k])=A_ r A ks++(if cZ r (cz A k) !=0 then[(k,cZ r (cz A k))] else[]):=by
 unfold A_;rw[Wz,List.filter_append];congr 1;show List.filter _ [(k,cZ r (cz A k))]=_;by_cases h:(cZ r (cz A k) !=0)=true
 .rw[Vo h,Yz (p:=fun t:bj=>t.2 !=0) h];rfl
 .rw[Vu h,YA (p:=fun t:bj=>t.2 !=0) h];rfl
theorem pR(r:Int)(A:List bj):A_ r A (iP (A.map (·.1)))=bM r A:=by unfold A_ bM nK;rw[V6];rfl
theorem yV(r:Int)(A:List bj)(ks:List (_v)):(A_ r A ks).length<=ks.length:=by unfold A_;refine VR (List.length_filter_le _ _) ?_;rw[Vn];exact Vq _
abbrev Lp:ME:=ak PM.dC (ae (aa 0) (ae (ah gE (aa 2) (aa 5)) ao))
abbrev N!:MB:=dq (a! (ah fA Lp (mC (.int 0)))) (cD (gR bZ (aa 4) (ae (fT (ae (aa 5) (ae Lp ao))) ao))) aK
theorem DS{s:aj}{d q:Nat}{A:List bj}{r:Int}{ks:List (_v)}{k:_v}{x1 x3:Option av}(h:s[d]?=some (.dT (A.map eD)))(hq:s[q]?=some (.lst ((A_ r A ks).map tV)))(hl:ks.length<=1000000)(hk:k∈A.map (·.1)):
  N! [some (.int r),x1,some (.loc d),x3,some (.loc q),some (aR k)] s=.nx [some (.int r),x1,some (.loc d),x3,some (.loc q),some (aR k)] (s.set q (.lst ((A_ r A (ks++[k])).map tV))):=by
 obtain⟨μ,hμ⟩:∃μ:MN.Env,μ=[some (.int r),x1,some (.loc d),x3,some (.loc q),some (aR k)]:=⟨_,rfl⟩
 have v4:aa 4 μ s=.ok (.loc q) s:=by rw[hμ];rfl
 have v5:aa 5 μ s=.ok (aR k) s:=by rw[hμ];rfl
 have v0:aa 0 μ s=.ok (.int r) s:=by rw[hμ];rfl
 have dg:ah gE (aa 2) (aa 5) μ s=.ok (.int (cz A k)) s:=by rw[hμ];show gE (.loc d) (aR k) s=_;exact yS h hk
 have sl:Lp μ s=.ok (.int (cZ r (cz A k))) s:=by unfold Lp;rw[bF,aN,v0,aq,bh,aN,dg,aq,bh,bB,aq,aO,aq,aO,aq];exact pQ _ _ _
 have A5:a! (ah fA Lp (mC (.int 0))) μ s=.ok (cZ r (cz A k) !=0) s:=by refine bI ?_;rw[aX sl (y:=.int 0) (s2:=s) rfl,jS];rfl
 rw[<-hμ,DR];show dq _ _ _ μ s=_;rw[bx,A5,aB];cases c:cZ r (cz A k) !=0 with
 |true=>
  have ap:=mm (v:=tV (k,cZ r (cz A k))) hq (by rw[Vn,VT];have:=yV r A ks;lia);have arg:ae (fT (ae (aa 5) (ae Lp ao))) ao μ s=.ok [tV (k,cZ r (cz A k))] s:=by
   have tp:fT (ae (aa 5) (ae Lp ao)) μ s=.ok (tV (k,cZ r (cz A k))) s:=by rw[sR,aN,v5,aq,bh,aN,sl,aq,bh,bB,aq,aO,aq,aO,aq,yE];exact Vo (by rw[VT];show 2<=16777216;decide)
   rw[aN,tp,aq,bh,bB,aq,aO]
  rw[c!,fI,xh,v4,aq,C1 hq,arg,aq,C2,ap,Vo rfl,Wz];rfl
 |false=>
  rw[cS,Vu (by decide),VS];have:s.set q (.lst ((A_ r A ks).map tV))=s:=by
   apply WT;intro j;rw[List.getElem?_set];by_cases e:q=j
   .rw[Vo e];subst e;split
    .exact hq.symm
    .rw[V7 (by lia)]
   .rw[Vu e]
  rw[this];rfl
theorem DT{p:Nat}{P:List bj}{st:aj}{x0:Option av}(h:au st p=some (P.map tV))(hl:P.length<1000000):
  ∃y3,forL (fun ax=>au ax p=some (P.map tV)) (ay 3) LX (P.map tV) [x0,some (.loc p),some (.loc st.length),none,none,none] (st++[.dT []])=.nx [x0,some (.loc p),some (.loc st.length),y3,none,none] (st++[.dT ((cU P).map eD)]):=by
 have hg:∀(A:List bj),au (st++[.dT (A.map eD)]) p=some (P.map tV):=fun A=>aC h _;obtain⟨μ',ax,e,rfl,y3,rfl⟩:=dy (g:=fun ax=>au ax p=some (P.map tV)) (a:=ay 3) (body:=LX)
  (fun i μ s'=>s'=st++[.dT ((cU (P.take i)).map eD)]/\∃y3,μ=[x0,some (.loc p),some (.loc st.length),y3,none,none])
  (P.map tV) 0 [x0,some (.loc p),some (.loc st.length),none,none,none] (st++[.dT []])
  (by
   rintro i u μ s' hu ⟨rfl,y3,rfl⟩;rw[Wb];refine⟨hg _,?_⟩;rw[VU]at hu;have hi:i<P.length:=by
    rcases V! i P.length with q|q
    .exact q
    .rw[V7 q]at hu;cases hu
   rw[VE hi]at hu;obtain⟨t,ht⟩:∃t,t=P[i]:=⟨_,rfl⟩
   rw[<-ht]at hu;cases hu;have tk:P.take (i+1)=P.take i++[t]:=by rw[Z0,VE hi,<-ht];rfl
   have lA:=(hV (P.take i)).2.1;rw[Wm]at lA;have ad:=DQ (x0:=x0) (x1:=some (.loc p)) (x4:=none) (x5:=none) (t:=t) (tw st ((cU (P.take i)).map eD)) (by rw[VT];lia);rw[set_dict,<-rD,<-tk]at ad;exact⟨_,rfl,_,_,.inl ad,rfl,_,rfl⟩)
  (fun μ s hp=>by obtain⟨rfl,_⟩:=hp;exact hg _)
  ⟨rfl,none,rfl⟩
 rw[Wb,Vn,WI (Vq _)]at e;exact⟨y3,e⟩
theorem DU{st:aj}{A:List bj}{r:Int}{x1 x3:Option av}(hl:A.length<1000000):
  ∃y5,forL (fun ax=>au ax (st.length+2)=some ((iP (A.map (·.1))).map aR)) (ay 5) N! ((iP (A.map (·.1))).map aR) [some (.int r),x1,some (.loc st.length),x3,some (.loc (st.length+1)),none] (st++[.dT (A.map eD),.lst [],.lst ((iP (A.map (·.1))).map aR)]) =
   .nx [some (.int r),x1,some (.loc st.length),x3,some (.loc (st.length+1)),y5] (st++[.dT (A.map eD),.lst ((bM r A).map tV),.lst ((iP (A.map (·.1))).map aR)]):=by
 obtain⟨ks,NX⟩:∃ks,ks=iP (A.map (·.1)):=⟨_,rfl⟩
 have lk:ks.length=A.length:=by rw[NX,(fq _).length_eq,Vn]
 rw[<-pR,<-NX];have UR:∀(us:List av),(st++[aG.dT (A.map eD),.lst us,.lst (ks.map aR)])[st.length]?=some (.dT (A.map eD)):=fun us=>by rw[VJ (Vq _),Ws];rfl
 have US:∀(us:List av),(st++[aG.dT (A.map eD),.lst us,.lst (ks.map aR)])[st.length+1]?=some (.lst us):=fun us=>by rw[VJ (by lia),show st.length+1-st.length=1 by lia];rfl
 have at2:∀(us:List av),(st++[aG.dT (A.map eD),.lst us,.lst (ks.map aR)])[st.length+2]?=some (.lst (ks.map aR)):=fun us=>by rw[VJ (by lia),show st.length+2-st.length=2 by lia];rfl
 have st1:∀(us ws:List av),(st++[aG.dT (A.map eD),.lst us,.lst (ks.map aR)]).set (st.length+1) (.lst ws)=st++[aG.dT (A.map eD),.lst ws,.lst (ks.map aR)]:=fun us ws=>by rw[WJ _ _ (by lia),show st.length+1-st.length=1 by lia];rfl
 obtain⟨μ',ax,e,rfl,y5,rfl⟩:=dy (g:=fun ax=>au ax (st.length+2)=some (ks.map aR)) (a:=ay 5) (body:=N!)
  (fun i μ s'=>s'=st++[.dT (A.map eD),.lst ((A_ r A (ks.take i)).map tV),.lst (ks.map aR)]/\∃y5,μ=[some (.int r),x1,some (.loc st.length),x3,some (.loc (st.length+1)),y5])
  (ks.map aR) 0 [some (.int r),x1,some (.loc st.length),x3,some (.loc (st.length+1)),none] (st++[.dT (A.map eD),.lst [],.lst (ks.map aR)])
  (by
   rintro i u μ s' hu ⟨rfl,y5,rfl⟩;rw[Wb];refine⟨df (at2 _),?_⟩;rw[VU]at hu;have hi:i<ks.length:=by
    rcases V! i ks.length with q|q
    .exact q
    .rw[V7 q]at hu;cases hu
   rw[VE hi]at hu;obtain⟨k,hk⟩:∃k,k=ks[i]:=⟨_,rfl⟩
   have mk:k∈A.map (·.1):=by refine(fq _).mem_iff.mp ?_;rw[<-NX,hk];exact XC hi
   rw[<-hk]at hu;cases hu;have tk:ks.take (i+1)=ks.take i++[k]:=by rw[Z0,VE hi,<-hk];rfl
   have es:=DS (x1:=x1) (x3:=x3) (UR _) (US ((A_ r A (ks.take i)).map tV)) (by rw[Wm];lia) mk;rw[st1,<-tk]at es;exact⟨_,rfl,_,_,.inl es,rfl,_,rfl⟩)
  (fun μ s hp=>by obtain⟨rfl,_⟩:=hp;exact df (at2 _))
  ⟨rfl,none,rfl⟩
 rw[Wb,Vn,WI (Vq _)]at e;exact⟨y5,e⟩
theorem nL{p:Nat}{P:List bj}{r:Int}{st:aj}(h:au st p=some (P.map tV))(hl:P.length<1000000)(ne:∀t∈P,t.1≠[]):
  ∃c1 c3,PM.dH [.int r,.loc p] st=.ok (.loc (st.length+1)) (st++[c1,.lst ((bM r (cU P)).map tV),c3]):=by
 obtain⟨A,hA⟩:∃A,A=cU P:=⟨_,rfl⟩
 have ga:=hV P;rw[<-hA]at ga;obtain⟨y3,e1⟩:=DT (x0:=some (.int r)) h hl;obtain⟨y5,e2⟩:=DU (st:=st) (A:=A) (r:=r) (x1:=some (.loc p)) (x3:=y3) (by lia);rw[<-hA]at e1⊢;refine⟨.dT (A.map eD),.lst ((iP (A.map (·.1))).map aR),?_⟩;have s1:aE 2 ja [some (.int r),some (.loc p),none,none,none,none] st=.nx [some (.int r),some (.loc p),some (.loc st.length),none,none,none] (st++[.dT []]):=rfl;have v1:aa 1 [some (av.int r),some (.loc p),some (.loc st.length),none,none,none] (st++[.dT []])=.ok (.loc p) (st++[.dT []]):=rfl;have s2:dO (cQ (aa 1)) (ay 3) LX [some (.int r),some (.loc p),some (.loc st.length),none,none,none] (st++[.dT []])=.nx [some (.int r),some (.loc p),some (.loc st.length),y3,none,none] (st++[.dT (A.map eD)]):=by rw[eT,dj,v1,aq,c5 (aC h _),aB,gx];exact e1
 have ld:(st++[aG.dT (A.map eD)]).length=st.length+1:=by rw[Vx];rfl
 have s3:aE 4 (bK ao) [some (.int r),some (.loc p),some (.loc st.length),y3,none,none] (st++[.dT (A.map eD)])=.nx [some (.int r),some (.loc p),some (.loc st.length),y3,some (.loc (st.length+1)),none] (st++[.dT (A.map eD),.lst []]):=by
  rw[<-ld];have q:bK ao [some (av.int r),some (.loc p),some (.loc st.length),y3,none,none] (st++[.dT (A.map eD)])=.ok (.loc (st++[aG.dT (A.map eD)]).length) (st++[.dT (A.map eD)]++[.lst []]):=by simp only[aq,q9,bB,l?,VH,VT,Nat.reduceLeDiff,↓reduceIte]
  rw[da,q,aB,Vs];rfl
 have hd:(st++[aG.dT (A.map eD),.lst []])[st.length]?=some (.dT (A.map eD)):=by rw[VJ (Vq _),Ws];rfl
 have DP:(A.map eD).map (·.1)=(A.map (·.1)).map iK:=by rw[V6,V6];rfl
 have O!:=yN (ks:=A.map (·.1)) hd DP (by rw[Vn,VT];lia) (fun k hk=>by
  obtain⟨t,ht,rfl⟩:=VY.mp hk;obtain⟨q,hq,e⟩:=VY.mp (ga.2.2 t ht);rw[<-e];exact ne q hq)
 have l2:(st++[aG.dT (A.map eD),.lst []]).length=st.length+2:=by rw[Vx];rfl
 rw[l2,Vs]at O!;have hit:au (st++[aG.dT (A.map eD),.lst [],.lst ((iP (A.map (·.1))).map aR)]) (st.length+2)=some ((iP (A.map (·.1))).map aR):=by refine df ?_;rw[VJ (by lia),show st.length+2-st.length=2 by lia];rfl
 have v2:aa 2 [some (av.int r),some (.loc p),some (.loc st.length),y3,some (.loc (st.length+1)),none] (st++[.dT (A.map eD),.lst []])=.ok (.loc st.length) (st++[.dT (A.map eD),.lst []]):=rfl;have s4:dO (cQ (jf (aa 2))) (ay 5) N! [some (.int r),some (.loc p),some (.loc st.length),y3,some (.loc (st.length+1)),none] (st++[.dT (A.map eD),.lst []])=.nx [some (.int r),some (.loc p),some (.loc st.length),y3,some (.loc (st.length+1)),y5] (st++[.dT (A.map eD),.lst ((bM r A).map tV),.lst ((iP (A.map (·.1))).map aR)]):=by rw[eT,dj,vG,v2,aq,O!,aq];show(m? (.loc (st.length+2)) (st++[aG.dT (A.map eD),.lst [],.lst ((iP (A.map (·.1))).map aR)])).xa _ _=_;rw[c5 hit,aB,gx];exact e2
 unfold PM.dH;rw[bb (np:=2) (us:=[av.int r,.loc p]) rfl];show(aA (aE 2 ja) (aA (dO (cQ (aa 1)) (ay 3) LX) (aA (aE 4 (bK ao)) (aA (dO (cQ (jf (aa 2))) (ay 5) N!) (a7 (aa 4))))) [some (.int r),some (.loc p),none,none,none,none] st).fin=_;rw[aw,s1,az,aw,s2,az,aw,s3,az,aw,s4,az];rfl
theorem within_int(e lo hi:Int)(st:aj):PM.a9 [.int e,.int lo,.int hi] st=.ok (.bl (decide (lo<=e)&&decide (e<=hi))) st:=by
 by_cases h:lo<=e
 .have z:decide (lo<=e)=true:=VF h;rw[z,XS];simp only[PM.a9,bb,aq,aB,bA,aP,iF,NB,HW,Gi,bh,aO,b?,jc,u9,bB,aN,bF,aQ,HZ,bR,cq,Vp,VO,VP,VA,Vz,Nat.reduceSub,Vl,VH,Nat.reduceAdd,gk,z]
 .have z:decide (lo<=e)=false:=VM h;rw[z,XG];simp only[PM.a9,bb,aq,aB,bA,iF,NB,HW,Gj,bh,aO,b?,jc,u9,bB,aN,bF,aQ,HZ,bR,cq,Vp,VO,VP,VA,Vz,Nat.reduceSub,Vl,VH,Nat.reduceAdd,gk,z]
structure Good(ai:Nat)(t:bj):Prop where
 len:t.1.length=ai
 rg:∀e∈t.1,0<=e/\e<=99
theorem vH:∀us:_v,g! (us.map fun _=>av.bl true)=some (us.map fun _=>true)
 |[]=>rfl
 |u::us=>by rw[Vp];unfold g!;rw[vH us];rfl
theorem Lq{k:_v}{ai:Nat}(hl:k.length=ai)(hm:ai<=4)(hr:∀e∈k,0<=e/\e<=99)(st:aj):PM.cV [aR k,.int (ai:Int)] st=.ok (.bl true) (st++[.lst (k.map fun _=>av.bl true)]):=by
 have cp:=dG (a:=ay 0) (c:=bf) (e:=ak PM.a9 (ae (aa 0) (ae (mC (.int 0)) (ae (mC (.int 99)) ao)))) (g:=fun _=>True) (st:=st) trivial (fun τ=>∃x,τ=[x]) (fun _=>true) (fun _=>.bl true) (k.map av.int) [none] [] ⟨_,rfl⟩ (by
  rintro u hu τ ⟨x,rfl⟩;obtain⟨e,he,rfl⟩:=VY.mp hu;refine⟨[some (.int e)],rfl,⟨_,rfl⟩,rfl,fun _=>?_⟩;show PM.a9 [.int e,.int 0,.int 99] st=_;have:=hr e he;rw[within_int,VF this.1,VF this.2];rfl)
 rw[XF.mpr fun _ _=>rfl,V6,VA]at cp;have e0:((fun _=>av.bl true) ∘ av.int)=fun _:Int=>av.bl true:=rfl;rw[e0]at cp;have v0:aa 0 [some (aR k),some (.int (ai:Int))] st=.ok (aR k) st:=rfl;have Br:iB 1 [] [some (aR k),some (.int (ai:Int))]=[none]:=rfl;have comp:bV 1 [] (cQ (aa 0)) (ay 0) bf (ak PM.a9 (ae (aa 0) (ae (mC (.int 0)) (ae (mC (.int 99)) ao)))) [some (aR k),some (.int (ai:Int))] st=.ok (.loc st.length) (st++[.lst (k.map fun _=>av.bl true)]):=by rw[d6,dj,v0,aq];show((m? (.tup (k.map av.int)) st).fR _)=_;rw[mf,aq,fE,Vo (by rw[Vn,VT];lia),Br,cp,aq,g?]
 have al:l8 [.loc st.length] (st++[.lst (k.map fun _=>av.bl true)])=.ok (.bl true) (st++[.lst (k.map fun _=>av.bl true)]):=by unfold l8;dsimp only;rw[aL];dsimp only;rw[vH];dsimp only;congr 2;rw[YY];exact Wv.mpr fun _ _=>rfl
 have c1:eh (cm (a! (m9 "tuple" (aa 0)))) (a! (ah fA (ak b9 (ae (aa 0) ao)) (aa 1))) [some (aR k),some (.int (ai:Int))] st=.ok (!(((k.map av.int).length:Int)==(ai:Int))) st:=rfl;rw[Vn,hl,Wu]at c1;unfold PM.cV;rw[bb (np:=2) (us:=[aR k,.int (ai:Int)]) rfl];show(aA (dq (eh (cm (a! (m9 "tuple" (aa 0)))) (a! (ah fA (ak b9 (ae (aa 0) ao)) (aa 1)))) (a7 (mC (.bl false))) aK) (a7 (ak l8 (ae (bV 1 [] (cQ (aa 0)) (ay 0) bf (ak PM.a9 (ae (aa 0) (ae (mC (.int 0)) (ae (mC (.int 99)) ao))))) ao))) [some (aR k),some (.int (ai:Int))] st).fin=_;rw[aw,dD c1,az,aQ,bF,aN,comp,aq,bh,bB,aq,aO,aq,al,aB];rfl
theorem xJ{t:bj}{ai:Nat}(G:Good ai t)(hm:ai<=4)(st:aj):PM.gJ [tV t,.int (ai:Int)] st=.ok (.bl true) (st++[.lst (t.1.map fun _=>av.bl true)]):=by
 have ar:=Lq G.len hm G.rg st;have c1:eh (cm (a! (m9 "tuple" (aa 0)))) (a! (ah fA (ak b9 (ae (aa 0) ao)) (mC (.int 2)))) [some (tV t),some (.int (ai:Int))] st=.ok false st:=rfl;have q1:ak PM.cV (ae (ah b5 (aa 0) (mC (.int 0))) (ae (aa 1) ao)) [some (tV t),some (.int (ai:Int))] st=.ok (.bl true) (st++[.lst (t.1.map fun _=>av.bl true)]):=by show PM.cV [aR t.1,.int (ai:Int)] st=_;exact ar
 have q2:∀s:aj,ak PM.fN (ae (ah b5 (aa 0) (mC (.int 1))) ao) [some (tV t),some (.int (ai:Int))] s=.ok (.bl true) s:=fun s=>rfl;unfold PM.gJ;rw[bb (np:=2) (us:=[tV t,.int (ai:Int)]) rfl];show(aA (dq (eh (cm (a! (m9 "tuple" (aa 0)))) (a! (ah fA (ak b9 (ae (aa 0) ao)) (mC (.int 2))))) (a7 (mC (.bl false))) aK) (a7 (kN (ak PM.cV (ae (ah b5 (aa 0) (mC (.int 0))) (ae (aa 1) ao))) (ak PM.fN (ae (ah b5 (aa 0) (mC (.int 1))) ao)))) [some (tV t),some (.int (ai:Int))] st).fin=_;rw[aw,dD c1,az,aQ,Lm q1 (q2 _),aB];rfl
abbrev S?:MB:=dq (cm (a! (ak PM.gJ (ae (aa 2) (ae (aa 0) ao))))) (eB "NoTerm" (ae (mC (.str "a term is a tuple of exponents from 0 to 99, one for each unknown, and a whole number")) ao)) aK
theorem pS{p ai:Nat}{P:List bj}{st:aj}(h:au st p=some (P.map tV))(G:∀t∈P,Good ai t)(hm:ai<=4):∃g,PM.c7 [.int (ai:Int),.loc p] st=.ok .fc (st++g):=by
 obtain⟨μ',ax,e,g,rfl,y,rfl⟩:=dy (g:=fun ax=>au ax p=some (P.map tV)) (a:=ay 2) (body:=S?)
  (fun _ μ s'=>∃g,s'=st++g/\∃y,μ=[some (.int (ai:Int)),some (.loc p),y])
  (P.map tV) 0 [some (.int (ai:Int)),some (.loc p),none] st
  (by
   rintro i u μ s' hu ⟨g,rfl,y,rfl⟩;refine⟨aC h _,?_⟩;obtain⟨t,ht,rfl⟩:=VY.mp (Xw hu);have ip:=xJ (G t ht) hm (st++g);have q:ak PM.gJ (ae (aa 2) (ae (aa 0) ao)) [some (.int (ai:Int)),some (.loc p),some (tV t)] (st++g)=.ok (.bl true) (st++g++[.lst (t.1.map fun _=>av.bl true)]):=by show PM.gJ [tV t,.int (ai:Int)] (st++g)=_;exact ip
   refine⟨[some (.int (ai:Int)),some (.loc p),some (tV t)],rfl,[some (.int (ai:Int)),some (.loc p),some (tV t)],st++g++[.lst (t.1.map fun _=>av.bl true)],.inl ?_,g++[.lst (t.1.map fun _=>av.bl true)],by rw[Vs],_,rfl⟩;show dq _ _ _ _ _=_;exact dD (rB (bI q)))
  (fun μ s hp=>by obtain⟨g,rfl,_⟩:=hp;exact aC h _)
  ⟨[],by rw[VS],none,rfl⟩
 refine⟨g,?_⟩;have v1:aa 1 [some (av.int (ai:Int)),some (.loc p),none] st=.ok (.loc p) st:=rfl;unfold PM.c7;rw[bb (np:=2) (us:=[av.int (ai:Int),.loc p]) rfl];show(dO (cQ (aa 1)) (ay 2) S? [some (.int (ai:Int)),some (.loc p),none] st).fin=_;rw[eT,dj,v1,aq,c5 h,aB,gx,e];rfl
theorem gL{ai:Nat}(h1:1<=ai)(h4:ai<=4)(st:aj):PM.bH [.int (ai:Int)] st=.ok .fc st:=by
 have q:ak PM.a9 (ae (aa 0) (ae (mC (.int 1)) (ae (mC (.int 4)) ao))) [some (.int (ai:Int))] st=.ok (.bl true) st:=by show PM.a9 [.int (ai:Int),.int 1,.int 4] st=_;rw[within_int,VF (by lia),VF (by lia)];rfl
 unfold PM.bH;rw[bb (np:=1) (us:=[av.int (ai:Int)]) rfl];show(dq (cm (a! (ak PM.a9 (ae (aa 0) (ae (mC (.int 1)) (ae (mC (.int 4)) ao)))))) _ aK [some (.int (ai:Int))] st).fin=_;rw[dD (rB (bI q))];rfl
theorem GZ{p ai:Nat}{P:List bj}{r:Int}{st:aj}(hr:fu r=true)(h:au st p=some (P.map tV))(hl:P.length<1000000)(G:∀t∈P,Good ai t)(h1:1<=ai)(h4:ai<=4):
  ∃g k,PM.made [.int r,.int (ai:Int),.loc p] st=.ok (.loc k) (st++g)/\st.length<=k/\(st++g)[k]?=some (.lst ((bM r (cU P)).map tV)):=by
 obtain⟨g1,e1⟩:=jV hr st;obtain⟨s1,fJ⟩:∃s1,s1=st++g1:=⟨_,rfl⟩
 rw[<-fJ]at e1;have i1:au s1 p=some (P.map tV):=by rw[fJ];exact aC h _
 have e2:=gL h1 h4 s1;obtain⟨g3,e3⟩:=pS i1 G h4;obtain⟨s3,ji⟩:∃s3,s3=s1++g3:=⟨_,rfl⟩
 rw[<-ji]at e3;have i3:au s3 p=some (P.map tV):=by rw[ji];exact aC i1 _
 obtain⟨y4,y5,e4⟩:=A8 (x0:=some (.int r)) (x1:=some (.int (ai:Int))) i3 hl;have ga:=hV P;obtain⟨s5,vI⟩:∃s5,s5=s3++[aG.dT ((cU P).map eD)]:=⟨_,rfl⟩
 rw[<-vI]at e4;have d5:s5[s3.length]?=some (.dT ((cU P).map eD)):=by rw[vI];exact tw s3 _
 obtain⟨c1,c2,c3,e5⟩:=A9 (r:=r) d5 ga.1 (by lia) (fun t ht z=>by
  obtain⟨q,hq,e⟩:=VY.mp (ga.2.2 t ht);have:=(G q hq).len;rw[e,z]at this;simp at this;lia)
 have es:st++(g1++g3++[aG.dT ((cU P).map eD)]++[c1,c2,c3,.lst ((bM r (cU P)).map tV)])=s5++[c1,c2,c3,.lst ((bM r (cU P)).map tV)]:=by rw[vI,ji,fJ];simp only[Vs]
 refine⟨g1++g3++[aG.dT ((cU P).map eD)]++[c1,c2,c3,.lst ((bM r (cU P)).map tV)],s5.length+3,?_,?_,?_⟩
 .rw[es];have q1:ak PM.c_ (ae (aa 0) ao) [some (.int r),some (.int (ai:Int)),some (.loc p),none,none,none] st=.ok .fc s1:=by show PM.c_ [.int r] st=_;exact e1
  have q2:ak PM.bH (ae (aa 1) ao) [some (.int r),some (.int (ai:Int)),some (.loc p),none,none,none] s1=.ok .fc s1:=by show PM.bH [.int (ai:Int)] s1=_;exact e2
  have q3:ak PM.c7 (ae (aa 1) (ae (aa 2) ao)) [some (.int r),some (.int (ai:Int)),some (.loc p),none,none,none] s1=.ok .fc s3:=by show PM.c7 [.int (ai:Int),.loc p] s1=_;exact e3
  have x1:cD (ak PM.c_ (ae (aa 0) ao)) [some (.int r),some (.int (ai:Int)),some (.loc p),none,none,none] st=.nx [some (.int r),some (.int (ai:Int)),some (.loc p),none,none,none] s1:=by rw[fI,q1,aB];rfl
  have x2:cD (ak PM.bH (ae (aa 1) ao)) [some (.int r),some (.int (ai:Int)),some (.loc p),none,none,none] s1=.nx [some (.int r),some (.int (ai:Int)),some (.loc p),none,none,none] s1:=by rw[fI,q2,aB];rfl
  have x3:cD (ak PM.c7 (ae (aa 1) (ae (aa 2) ao))) [some (.int r),some (.int (ai:Int)),some (.loc p),none,none,none] s1=.nx [some (.int r),some (.int (ai:Int)),some (.loc p),none,none,none] s3:=by rw[fI,q3,aB];rfl
  have x4:aE 3 ja [some (.int r),some (.int (ai:Int)),some (.loc p),none,none,none] s3=.nx [some (.int r),some (.int (ai:Int)),some (.loc p),some (.loc s3.length),none,none] (s3++[.dT []]):=rfl;have v2:aa 2 [some (av.int r),some (.int (ai:Int)),some (.loc p),some (.loc s3.length),none,none] (s3++[.dT []])=.ok (.loc p) (s3++[.dT []]):=rfl;have x5:dO (cQ (aa 2)) (fM [ay 4,ay 5]) O9 [some (.int r),some (.int (ai:Int)),some (.loc p),some (.loc s3.length),none,none] (s3++[.dT []])=.nx [some (.int r),some (.int (ai:Int)),some (.loc p),some (.loc s3.length),y4,y5] s5:=by rw[eT,dj,v2,aq,c5 (aC i3 _),aB,gx];exact e4
  have q6:ak PM.cW (ae (aa 0) (ae (aa 3) ao)) [some (.int r),some (.int (ai:Int)),some (.loc p),some (.loc s3.length),y4,y5] s5=.ok (.loc (s5.length+3)) (s5++[c1,c2,c3,.lst ((bM r (cU P)).map tV)]):=by show PM.cW [.int r,.loc s3.length] s5=_;exact e5
  unfold PM.made;rw[bb (np:=3) (us:=[av.int r,.int (ai:Int),.loc p]) rfl];show(aA (cD (ak PM.c_ (ae (aa 0) ao))) (aA (cD (ak PM.bH (ae (aa 1) ao))) (aA (cD (ak PM.c7 (ae (aa 1) (ae (aa 2) ao)))) (aA (aE 3 ja) (aA (dO (cQ (aa 2)) (fM [ay 4,ay 5]) O9) (a7 (ak PM.cW (ae (aa 0) (ae (aa 3) ao)))))))) [some (.int r),some (.int (ai:Int)),some (.loc p),none,none,none] st).fin=_;rw[aw,x1,az,aw,x2,az,aw,x3,az,aw,x4,az,aw,x5,az,aQ,q6,aB];rfl
 .rw[vI,ji,fJ];simp only[Vx];lia
 .rw[es,VJ (by lia),show s5.length+3-s5.length=3 by lia];rfl
abbrev yW:ME:=ah b5 (aa 0) (aa 2)
abbrev Rj:MT:=eh (cm (a! (m9 "tuple" yW))) (eh (a! (ah fA (ak b9 (ae yW ao)) (mC (.int 2)))) (cm (a! (ak PM.e9 (ae (ah b5 yW (mC (.int 1))) ao)))))
abbrev O':ME:=bV 1 [] (cQ (ah b5 yW (mC (.int 0)))) (ay 0) (cm (a! (ak PM.e9 (ae (aa 0) ao)))) (aa 0)
abbrev Rk:MT:=eh (cm (a! (m9 "tuple" (ah b5 yW (mC (.int 0)))))) (a! (ah fA O' (bK ao)))
abbrev Pa:MB:=aA (dq Rj (a7 (mC (.bl false))) aK) (dq Rk (a7 (mC (.bl false))) aK)
theorem G0{s:aj}{μ:MN.Env}{t:bj}(hX:yW μ s=.ok (tV t) s)(hl:t.1.length<=1000000):Pa μ s=.nx μ (s++[.lst [],.lst []]):=by
 have ca:a! (m9 "tuple" yW) μ s=.ok true s:=bI (by rw[yF,hX,aq];rfl);have Rm:ak b9 (ae yW ao) μ s=.ok (.int 2) s:=by rw[bF,aN,hX,aq,bh,bB,aq,aO,aq];rfl
 have cb:a! (ah fA (ak b9 (ae yW ao)) (mC (.int 2))) μ s=.ok false s:=bI (by rw[aX Rm (y:=.int 2) (s2:=s) rfl];rfl);have x1:ah b5 yW (mC (.int 1)) μ s=.ok (.int t.2) s:=by rw[aX hX (y:=.int 1) (s2:=s) rfl];rfl
 have x0:ah b5 yW (mC (.int 0)) μ s=.ok (aR t.1) s:=by rw[aX hX (y:=.int 0) (s2:=s) rfl];rfl
 have cc:a! (ak PM.e9 (ae (ah b5 yW (mC (.int 1))) ao)) μ s=.ok true s:=bI (by
  rw[bF,aN,x1,aq,bh,bB,aq,aO,aq];rfl)
 have cd:a! (m9 "tuple" (ah b5 yW (mC (.int 0)))) μ s=.ok true s:=bI (by rw[yF,x0,aq];rfl);have cp:=dG (a:=ay 0) (c:=cm (a! (ak PM.e9 (ae (aa 0) ao)))) (e:=aa 0) (g:=fun _=>True) (st:=s) trivial (fun τ=>∃x,τ=[x]) (fun _=>false) (fun v=>v) (t.1.map av.int) [none] [] ⟨_,rfl⟩ (by
  rintro u hu τ ⟨x,rfl⟩;obtain⟨e,he,rfl⟩:=VY.mp hu;exact⟨[some (.int e)],rfl,⟨_,rfl⟩,rfl,fun z=>by cases z⟩)
 rw[List.filter_eq_nil_iff.mpr (fun _ _ z=>by cases z),VO,VS]at cp;have Br:iB 1 [] μ=[none]:=rfl;have pc:O' μ s=.ok (.loc s.length) (s++[.lst []]):=by unfold O';rw[d6,dj,x0,aq];show((m? (.tup (t.1.map av.int)) s).fR _)=_;rw[mf,aq,fE,Vo (by rw[Vn,VT];lia),Br,cp,aq,g?]
 have pl:bK ao μ (s++[.lst []])=.ok (.loc (s++[aG.lst []]).length) (s++[.lst []]++[.lst []]):=by simp only[aq,q9,bB,l?,VH,VT,Nat.reduceLeDiff,↓reduceIte]
 have ce:a! (ah fA O' (bK ao)) μ s=.ok false (s++[.lst []]++[.lst []]):=bI (by
  rw[aX pc pl];exact ne_nil (aC (aL s []) _) (aL (s++[.lst []]) []))
 have es:s++[aG.lst [],.lst []]=s++[.lst []]++[.lst []]:=by rw[Vs];rfl
 unfold Pa;rw[aw,dD (yU (rB ca) (yU cb (rB cc))),az,dD (yU (rB cd) ce),es]
theorem jk{a b:Nat}{D:List bj}{st:aj}(ha:st[a]?=some (.lst (D.map tV)))(hb:st[b]?=some (.lst (D.map tV)))(hl:D.length<=1000000)(hk:∀t∈D,t.1.length<=1000000):∃g,PM.cO [.loc a,.loc b] st=.ok (.bl true) (st++g):=by
 obtain⟨n,hn⟩:∃n:Int,n=((D.map tV).length:Int):=⟨_,rfl⟩
 have nD:n.toNat=D.length:=by rw[hn,Vn];simp
 have UT:=yH (st:=st) (j:=n) (by lia) (by rw[Vn]at hn;lia);obtain⟨μ',ax,e,g,rfl,y,rfl⟩:=dy (g:=fun _=>True) (a:=ay 2) (body:=Pa)
  (fun _ μ s'=>∃g,s'=st++g/\∃y,μ=[some (.loc a),some (.loc b),y])
  (aW 0 n.toNat) 0 [some (.loc a),some (.loc b),none] st
  (by
   rintro i u μ s' hu ⟨g,rfl,y,rfl⟩;refine⟨trivial,?_⟩;have rE:=hu;unfold aW at rE;rw[VU]at rE;have hi:i<n.toNat:=by
    rcases V! i n.toNat with q|q
    .exact q
    .rw[V7 (by rw[Wa];exact q)]at rE;cases rE
   rw[VE (by rw[Wa];exact hi),X7]at rE;have ue:u=.int ((i:Nat):Int):=by cases rE;show av.int (0+(i:Int))=_;rw[YO]
   subst ue;have S':i<D.length:=by lia
   have UU:L2.m5 (D.map tV) (i:Int)=some (tV D[i]):=L2.jB (by rw[VU,VE S'];rfl);have hX:yW [some (.loc a),some (.loc b),some (.int (i:Int))] (st++g)=.ok (tV D[i]) (st++g):=by show b5 (.loc a) (.int (i:Int)) (st++g)=_;exact pz (aC (df ha) _) UU
   exact⟨[some (.loc a),some (.loc b),some (.int (i:Int))],rfl,_,_,.inl (G0 hX (hk _ (XC S'))),g++[.lst [],.lst []],by rw[Vs],_,rfl⟩)
  (fun _ _ _=>trivial) ⟨[],by rw[VS],none,rfl⟩
 refine⟨g,?_⟩;have la:=gI (df ha);have lb:=gI (df hb);rw[<-hn]at la lb;have first:dq (eh (cm (a! (m9 "list" (aa 0)))) (a! (ah fA (ak b9 (ae (aa 0) ao)) (ak b9 (ae (aa 1) ao))))) (a7 (mC (.bl false))) aK [some (.loc a),some (.loc b),none] st=.nx [some (.loc a),some (.loc b),none] st:=by
  refine dD (yU (s1:=st) (rB (bI ?_)) (bI ?_))
  .simp only[aq,yF,jR,is_list ha]
  .rw[aX (x:=.int n) (s1:=st) la (y:=.int n) (s2:=st) lb,jS,Wu];rfl
 have a1:bE (ae (ak b9 (ae (aa 1) ao)) ao) [some (.loc a),some (.loc b),none] st=.ok (aW 0 n.toNat,fun _=>True) st:=by simp only[aq,bh,aO,bB,aN,bF,oz,jR,cq,lb,UT]
 have last:ah dr (aa 0) (aa 1) [some (.loc a),some (.loc b),y] (st++g)=.ok (.bl true) (st++g):=by show dr (.loc a) (.loc b) (st++g)=_;exact C5 (aC (df ha) _) (aC (df hb) _) (Lo D)
 unfold PM.cO;rw[bb (np:=2) (us:=[av.loc a,.loc b]) rfl];show(aA (dq (eh (cm (a! (m9 "list" (aa 0)))) (a! (ah fA (ak b9 (ae (aa 0) ao)) (ak b9 (ae (aa 1) ao))))) (a7 (mC (.bl false))) aK) (aA (dO (bE (ae (ak b9 (ae (aa 1) ao)) ao)) (ay 2) Pa) (a7 (ah dr (aa 0) (aa 1)))) [some (.loc a),some (.loc b),none] st).fin=_;rw[aw,first,az,aw,eT,a1,aB,gx,e,az,aQ,last,aB];rfl
section
variable{μ:MN.Env}{s s1 s2:aj}{m:ME}{o j:Int}{t:MT}{B:MB}
theorem jl(h:m μ s=.ok (.int o) s1)(hj:¬ j=0):ah bN m (mC (.int j)) μ s=.ok (.int (o.fmod j)) s1:=by rw[aX h (y:=.int j) (s2:=s1) rfl];exact cG hj
theorem ki(h:m μ s=.ok (.int o) s1)(hj:Dz j):ah bX m (mC (.int j)) μ s=.ok (.int (o.fdiv j)) s1:=by rw[aX h (y:=.int j) (s2:=s1) rfl];exact div_ii hj
theorem pT(h:m μ s=.ok (.int o) s1):ah dr m (mC (.int j)) μ s=.ok (.bl (o==j)) s1:=by rw[aX h (y:=.int j) (s2:=s1) rfl];exact d_
theorem bJ{i:Nat}{v:av}(h:m μ s=.ok v s1):aE i m μ s=.nx (μ.set i (some v)) s1:=by rw[da,h,aB];rfl
theorem e7{C:MB}(h:t μ s=.ok true s1):dq t B C μ s=B μ s1:=by rw[bx,h,aB,c!]
theorem dP{v:av}(h:m μ s=.ok v s1):ae m ao μ s=.ok [v] s1:=by rw[aN,h,aq,bh,bB,aq,aO]
theorem iT{m2:ME}{v w:av}(h:m μ s=.ok v s1)(h2:m2 μ s1=.ok w s2):ae m (ae m2 ao) μ s=.ok [v,w] s2:=by rw[aN,h,aq,bh,dP h2,aq,aO]
theorem yX{m2:MA}{v:av}{ws:List av}(h:m μ s=.ok v s1)(h2:m2 μ s1=.ok ws s2):ae m m2 μ s=.ok (v::ws) s2:=by rw[aN,h,aq,bh,h2,aq,aO]
theorem aM{f:FN}{a:MA}{vs:List av}(h:a μ s=.ok vs s1):ak f a μ s=f vs s1:=by rw[bF,h,aq]
theorem tD{a:MA}{vs:List av}(h:a μ s=.ok vs s1)(hl:vs.length<=1000):fT a μ s=.ok (.tup vs) s1:=by rw[sR,h,aq,yE];exact Vo (by rw[VT];lia)
theorem gX{a:MA}{vs:List av}(h:a μ s=.ok vs s1)(hl:vs.length<=1000):bK a μ s=.ok (.loc s1.length) (s1++[.lst vs]):=by rw[l?,h,aq,q9];exact Vo (by rw[VT];lia)
theorem mw{a:MA}(h:a μ s=.ok [.int j] s1)(h1:-(2 ^ 62)<=j)(h2:j<2 ^ 62):bE a μ s=.ok (aW 0 j.toNat,fun _=>True) s1:=by rw[oz,h,aq,yH h1 h2]
end
abbrev Rn:MB:=dq (jQ (a! (ah dr (aa 4) (mC (.int 4)))) (a! (ah dr (ah bN (ah bX (aa 0) (mC (.int 256))) (mC (.int 8))) (aa 5)))) (aE 6 (ah bN (ah bX (aa 0) (mC (.int 2048))) (mC (.int 100)))) aK
abbrev leB:MB:=aA (aE 6 (ah bN (aa 3) (aa 4))) (aA (aE 3 (ah bX (aa 3) (aa 4))) (aA Rn (cD (gR bZ (aa 2) (ae (aa 6) ao)))))
theorem le_step{c rest W k:Int}{n:Nat}{s:aj}{es:_v}{x1 y6:Option av}(hW:W=4\/W=100)(h:s[n]?=some (.lst (es.map av.int)))(hl:es.length<=1000000):
  ∃e r',leB [some (.int c),x1,some (.loc n),some (.int rest),some (.int W),some (.int k),y6] s=.nx [some (.int c),x1,some (.loc n),some (.int r'),some (.int W),some (.int k),some (.int e)] (s.set n (.lst ((es++[e]).map av.int)))/\0<=e/\e<=99:=by
 have W0:¬ W=0:=by lia
 have dW:Dz W:=nJ (by lia) (by lia);have qW:=f? (m:=W) (by lia) rest;obtain⟨e1,UW⟩:∃e1,e1=rest.fmod W:=⟨_,rfl⟩
 obtain⟨r',Pb⟩:∃r',r'=rest.fdiv W:=⟨_,rfl⟩
 have a1:aE 6 (ah bN (aa 3) (aa 4)) [some (.int c),x1,some (.loc n),some (.int rest),some (.int W),some (.int k),y6] s=.nx [some (.int c),x1,some (.loc n),some (.int rest),some (.int W),some (.int k),some (.int e1)] s:=by refine bJ (v:=.int e1) ?_;rw[UW];exact cG W0
 have a2:aE 3 (ah bX (aa 3) (aa 4)) [some (.int c),x1,some (.loc n),some (.int rest),some (.int W),some (.int k),some (.int e1)] s=.nx [some (.int c),x1,some (.loc n),some (.int r'),some (.int W),some (.int k),some (.int e1)] s:=by refine bJ (v:=.int r') ?_;rw[Pb];exact div_ii dW
 obtain⟨e,a3,h0,h1⟩:∃e,Rn [some (.int c),x1,some (.loc n),some (.int r'),some (.int W),some (.int k),some (.int e1)] s=.nx [some (.int c),x1,some (.loc n),some (.int r'),some (.int W),some (.int k),some (.int e)] s/\0<=e/\e<=99:=by
  have t1:a! (ah dr (aa 4) (mC (.int 4))) [some (.int c),x1,some (.loc n),some (.int r'),some (.int W),some (.int k),some (.int e1)] s=.ok (W==4) s:=bI (pT rfl);have dd:ah bX (aa 0) (mC (.int 256)) [some (.int c),x1,some (.loc n),some (.int r'),some (.int W),some (.int k),some (.int e1)] s=.ok (.int (c.fdiv 256)) s:=ki rfl (nJ (by decide) (by decide));have t2:a! (ah dr (ah bN (ah bX (aa 0) (mC (.int 256))) (mC (.int 8))) (aa 5)) [some (.int c),x1,some (.loc n),some (.int r'),some (.int W),some (.int k),some (.int e1)] s=.ok ((c.fdiv 256).fmod 8==k) s:=bI (by
   rw[aX (jl dd (by decide)) (y:=.int k) (s2:=s) rfl];exact d_)
  have tt:jQ (a! (ah dr (aa 4) (mC (.int 4)))) (a! (ah dr (ah bN (ah bX (aa 0) (mC (.int 256))) (mC (.int 8))) (aa 5))) [some (.int c),x1,some (.loc n),some (.int r'),some (.int W),some (.int k),some (.int e1)] s=.ok ((W==4)&&((c.fdiv 256).fmod 8==k)) s:=by
   rw[sP,t1,aq];cases(W==4) with
   |true=>rw[u6,t2,XS]
   |false=>rw[u7,XG]
  cases hb:((W==4)&&((c.fdiv 256).fmod 8==k)) with
  |false=>rw[hb]at tt;exact⟨e1,dD tt,by lia,by lia⟩
  |true=>
   rw[hb]at tt;have q:=f? (m:=100) (by decide) (c.fdiv 2048);refine⟨(c.fdiv 2048).fmod 100,?_,by lia,by lia⟩;unfold Rn;rw[e7 tt];exact bJ (jl (ki rfl (nJ (by decide) (by decide))) (by decide))
 refine⟨e,r',?_,h0,h1⟩;have ap:=mm (v:=av.int e) h (by rw[Vn,VT];lia);have a4:cD (gR bZ (aa 2) (ae (aa 6) ao)) [some (.int c),x1,some (.loc n),some (.int r'),some (.int W),some (.int k),some (.int e)] s=.nx [some (.int c),x1,some (.loc n),some (.int r'),some (.int W),some (.int k),some (.int e)] (s.set n (.lst ((es++[e]).map av.int))):=by have v2:aa 2 [some (.int c),x1,some (.loc n),some (.int r'),some (.int W),some (.int k),some (.int e)] s=.ok (.loc n) s:=rfl;have ar:ae (aa 6) ao [some (.int c),x1,some (.loc n),some (.int r'),some (.int W),some (.int k),some (.int e)] s=.ok [.int e] s:=rfl;rw[fI,xh,v2,aq,C1 h,ar,aq,C2,ap,Wz];rfl
 unfold leB;rw[aw,a1,az,aw,a2,az,aw,a3,az,a4]
theorem DV(c:Int)(ai:Nat)(st:aj):∃r0 W:Int,(W=4\/W=100)/\dq (a! (ah dr (ah bN (aa 0) (mC (.int 3))) (mC (.int 0)))) (aA (aE 3 (ah bX (aa 0) (mC (.int 3)))) (aE 4 (mC (.int 100)))) aK [some (.int c),some (.int (ai:Int)),some (.loc st.length),some (.int c),some (.int 4),none,none] (st++[.lst []])=.nx [some (.int c),some (.int (ai:Int)),some (.loc st.length),some (.int r0),some (.int W),none,none] (st++[.lst []]):=by
 have tt:a! (ah dr (ah bN (aa 0) (mC (.int 3))) (mC (.int 0))) [some (.int c),some (.int (ai:Int)),some (.loc st.length),some (.int c),some (.int 4),none,none] (st++[.lst []])=.ok (c.fmod 3==0) (st++[.lst []]):=bI (pT (jl rfl (by decide)));cases hb:c.fmod 3==0 with
 |false=>rw[hb]at tt;exact⟨c,4,.inl rfl,dD tt⟩
 |true=>
  rw[hb]at tt;refine⟨c.fdiv 3,100,.inr rfl,?_⟩;have a:aE 3 (ah bX (aa 0) (mC (.int 3))) [some (.int c),some (.int (ai:Int)),some (.loc st.length),some (.int c),some (.int 4),none,none] (st++[.lst []])=.nx [some (.int c),some (.int (ai:Int)),some (.loc st.length),some (.int (c.fdiv 3)),some (.int 4),none,none] (st++[.lst []]):=bJ (ki rfl (nJ (by decide) (by decide)));rw[e7 tt,aw,a,az];rfl
theorem h_(c:Int){ai:Nat}(hm:ai<=4)(st:aj):∃g es,PM.bW [.int c,.int (ai:Int)] st=.ok (aR es) (st++g)/\es.length=ai/\∀e∈es,0<=e/\e<=99:=by
 obtain⟨r0,W,hW,s4⟩:=DV c ai st;obtain⟨μ',ax,e,es,le,Ro,rfl,r',y5,y6,rfl⟩:=dy (g:=fun _=>True) (a:=ay 5) (body:=leB)
  (fun i μ s'=>∃es:_v,es.length=i/\(∀e∈es,0<=e/\e<=99)/\s'=st++[.lst (es.map av.int)]/\∃r' y5 y6,μ=[some (.int c),some (.int (ai:Int)),some (.loc st.length),some (.int r'),some (.int W),y5,y6])
  (aW 0 (ai:Int).toNat) 0 [some (.int c),some (.int (ai:Int)),some (.loc st.length),some (.int r0),some (.int W),none,none] (st++[.lst []])
  (by
   rintro i u μ s' hu ⟨es,le,Ro,rfl,r',y5,y6,rfl⟩;refine⟨trivial,?_⟩;have rE:=hu;unfold aW at rE;rw[VU]at rE;have hi:i<(ai:Int).toNat:=by
    rcases V! i (ai:Int).toNat with q|q
    .exact q
    .rw[V7 (by rw[Wa];exact q)]at rE;cases rE
   rw[VE (by rw[Wa];exact hi),X7]at rE;cases rE;have UX:i<4:=by lia
   obtain⟨e,r2,eb,h0,h1⟩:=le_step (c:=c) (rest:=r') (k:=0+(i:Int)) (x1:=some (.int (ai:Int))) (y6:=y6) hW (fm st (es.map av.int)) (by lia);refine⟨_,rfl,_,_,.inl eb,es++[e],by rw[Vx,le];rfl,?_,u? st _ _,r2,_,_,rfl⟩;intro x hx;rcases Wt.mp hx with hx|hx
   .exact Ro x hx
   .rw[V0.mp hx];exact⟨h0,h1⟩)
  (fun _ _ _=>trivial) ⟨[],rfl,fun _ h=>(by cases h),rfl,r0,none,none,rfl⟩
 refine⟨[.lst (es.map av.int)],es,?_,by rw[le];unfold aW;rw[Vn,Wa];lia,Ro⟩;have a1:aE 2 (bK ao) [some (.int c),some (.int (ai:Int)),none,none,none,none,none] st=.nx [some (.int c),some (.int (ai:Int)),some (.loc st.length),none,none,none,none] (st++[.lst []]):=bJ (gX (vs:=[]) rfl (V' _));have a2:aE 3 (aa 0) [some (.int c),some (.int (ai:Int)),some (.loc st.length),none,none,none,none] (st++[.lst []])=.nx [some (.int c),some (.int (ai:Int)),some (.loc st.length),some (.int c),none,none,none] (st++[.lst []]):=rfl;have a3:aE 4 (mC (.int 4)) [some (.int c),some (.int (ai:Int)),some (.loc st.length),some (.int c),none,none,none] (st++[.lst []])=.nx [some (.int c),some (.int (ai:Int)),some (.loc st.length),some (.int c),some (.int 4),none,none] (st++[.lst []]):=rfl;have a5:bE (ae (aa 1) ao) [some (.int c),some (.int (ai:Int)),some (.loc st.length),some (.int r0),some (.int W),none,none] (st++[.lst []])=.ok (aW 0 (ai:Int).toNat,fun _=>True) (st++[.lst []]):=mw rfl (by lia) (by lia);have v2:aa 2 [some (.int c),some (.int (ai:Int)),some (.loc st.length),some (.int r'),some (.int W),y5,y6] (st++[.lst (es.map av.int)])=.ok (.loc st.length) (st++[.lst (es.map av.int)]):=rfl;unfold PM.bW;rw[bb (np:=2) (us:=[av.int c,.int (ai:Int)]) rfl];show(aA (aE 2 (bK ao)) (aA (aE 3 (aa 0)) (aA (aE 4 (mC (.int 4))) (aA _ (aA (dO (bE (ae (aa 1) ao)) (ay 5) leB) (a7 (ak kR (ae (aa 2) ao))))))) [some (.int c),some (.int (ai:Int)),none,none,none,none,none] st).fin=_;rw[aw,a1,az,aw,a2,az,aw,a3,az,aw,s4,az,aw,eT,a5,aB,gx,e,az,aQ,aM (dP v2),sS (aL _ _),aB];rfl
theorem mB{μ:MN.Env}{s:aj}{o:ME}{a:MA}{n:Nat}{us:List av}{v:av}(ho:o μ s=.ok (.loc n) s){s1:aj}(h0:s[n]?=some (.lst us))(ha:a μ s=.ok [v] s1)(h:s1[n]?=some (.lst us))(hl:us.length<=1000):cD (gR bZ o a) μ s=.nx μ (s1.set n (.lst (us++[v]))):=by rw[fI,xh,ho,aq,C1 h0,ha,aq,C2,mm h (by rw[VT];lia),aB];rfl
abbrev Ig:ME:=ah bo (aa 1) (ah cN (mC (.int 2)) (aa 5))
end PG
namespace PG
open PySem.Spec L2 MN TX
open PyProof.Rows hiding St kindOf
section
variable{μ:MN.Env}{s s1:aj}
theorem yY{m:ME}{lo hi:MO}{x:Str}{l h:Option Int}(e:m μ s=.ok (.str x) s1)(hl:lo μ s1=.ok l s1)(hh:hi μ s1=.ok h s1)(sz:x.length<=sizeLine):fW m lo hi μ s=.ok (.str (Txt.slice x l h)) s1:=by unfold fW qu;rw[e];show((lo μ s1).bind fun l st2=>_)=_;rw[hl];show((hi μ s1).bind fun l st2=>_)=_;rw[hh];show(if x.length<=sizeLine then _ else _)=_;rw[Vo sz]
theorem yZ{m:ME}{x y:Str}(e:m μ s=.ok (.str x) s1)(sz:x.length<=sizeLine)(hb:(y.length==0)=false/\(Builtin.Str.partsBetween x (Builtin.Str.occurrences x y 0 x.length (x.length+1)) y.length).length<=sizeLine/\(Txt.split x y).length<=sizeLine):
  gT m (mC (.str y)) μ s=.ok (.loc s1.length) (s1++[.lst ((Txt.split x y).map .str)]):=by
 unfold gT qu;rw[e];show(if x.length<=sizeLine then _ else _)=_;rw[Vo sz];show(if(y.length==0)=false/\(Builtin.Str.partsBetween x (Builtin.Str.occurrences x y 0 x.length (x.length+1)) y.length).length<=sizeLine/\(Txt.split x y).length<=sizeLine then _ else _)=_;rw[Vo hb]
theorem mD{me:ME}{y:Str}{n:Nat}{xs:_z}(e:me μ s=.ok (.loc n) s1)(hi:au s1 n=some (xs.map .str))(hk:JoinOk y xs=true):eJ (mC (.str y)) me μ s=.ok (.str (Txt.join y xs)) s1:=by unfold eJ qu;show((me μ s).bind fun v st2=>_)=_;rw[e];show(match au s1 n with|some us=>_|none=>_)=_;rw[hi];show(match strsOf (xs.map .str) with|some xs=>_|none=>_)=_;rw[AR];show(if JoinOk y xs=true then _ else _)=_;rw[Vo hk]
theorem DW{m:ME}{x y:Str}(e:m μ s=.ok (.str x) s1):gK m (mC (.str y)) μ s=.ok (.bl (Txt.startswith x y)) s1:=by unfold gK qu;rw[e];rfl
theorem DX{m mk:ME}{n:Nat}{k:Int}{us:List av}(e:m μ s=.ok (.loc n) s1)(hk:mk μ s1=.ok (.int k) s1)(hi:au s1 n=some us)(h0:0<k):gj m mk μ s=.ok (.loc s1.length) (s1++[.lst (ft us k)]):=by unfold gj;rw[e];show((mk μ s1).bind fun k st2=>_)=_;rw[hk];show oD (.loc n) (.int k) s1=_;unfold oD;dsimp only;rw[hi];dsimp only;rw[Vo h0]
theorem A!{m ml mk:ME}{n:Nat}{i k:Int}{us:List av}(e:m μ s=.ok (.loc n) s1)(hl:ml μ s1=.ok (.int i) s1)(hk:mk μ s1=.ok (.int k) s1)(hi:au s1 n=some us)(Rf:0<=i)(h0:0<k):eM m ml mk μ s=.ok (.loc s1.length) (s1++[.lst (eV us i k)]):=by unfold eM;rw[e];show((ml μ s1).bind fun k st2=>_)=_;rw[hl];show((mk μ s1).bind fun k st2=>_)=_;rw[hk];show k7 (.loc n) (.int i) (.int k) s1=_;unfold k7;dsimp only;rw[hi];dsimp only;rw[Vo ⟨Rf,h0⟩]
theorem N?{ma mb:ME}{k z:Str}{i:Int}(ea:ma μ s=.ok (.str z) s1)(eb:mb μ s1=.ok (.int i) s1)(h1:z.length<=sizeLine)(h2:(z++k).length<=sizeLine)(h3:i.natAbs.log2<1920)(h4:(AX k z i).length<=sizeLine):xu k ma mb μ s=.ok (.str (AX k z i)) s1:=by unfold xu qu;rw[ea];show(if z.length<=sizeLine/\(z++k).length<=sizeLine then _ else _)=_;rw[Vo ⟨h1,h2⟩];show((mb μ s1).bind fun v st2=>_)=_;rw[eb];show(if i.natAbs.log2<1920/\(AX k z i).length<=sizeLine then _ else _)=_;rw[Vo ⟨h3,h4⟩]
theorem tH{g:aj->Prop}{a:AS}{c:MT}{e:ME}{u y:av}{us:List av}{τ τ1:MN.Env}{st st1 st2:aj}{ys:List av}(hg:g st)(h1:a u τ=some τ1)(hc:c τ1 st=.ok true st1)(h2:e τ1 st1=.ok y st2):bQ g a c e (u::us) τ st ys=bQ g a c e us τ1 st2 (ys++[y]):=by rw[bQ,Vo hg,h1];dsimp only;rw[hc];dsimp only;rw[h2]
theorem DY{g:aj->Prop}{a:AS}{c:MT}{e:ME}{u:av}{us:List av}{τ τ1:MN.Env}{st st1:aj}{ys:List av}(hg:g st)(h1:a u τ=some τ1)(hc:c τ1 st=.ok false st1):bQ g a c e (u::us) τ st ys=bQ g a c e us τ1 st1 ys:=by rw[bQ,Vo hg,h1];dsimp only;rw[hc]
theorem y7{g:aj->Prop}{a:AS}{c:MT}{e:ME}{τ:MN.Env}{st:aj}{ys:List av}(hg:g st):bQ g a c e [] τ st ys=.ok ys st:=by rw[bQ,Vo hg]
end
def bU(n:Int):Str:=PySem.Str.ofString (toString n)
def iJ(i:Nat):Str:=(["x","y","z","w"]:_z).getD i ""
def qy(i:Nat)(e:Int):Str:=if e=1 then iJ i else AX "^" (iJ i) e
def bq:Nat->_v->_z
 |_,[]=>[]
 |i,e::es=>if e=0 then bq (i+1) es else qy i e::bq (i+1) es
def e?(t:_v)(n:Int):_z:=if n=1/\bq 0 t≠[]then bq 0 t else bU n::bq 0 t
def b8(t:_v)(n:Int):Str:=Txt.join "*" (e? t n)
def dA(b:Bool)(n:Int):Str:=if b then(if n<0 then "-" else "")else if n<0 then " - " else " + "
def cY(n:Int):Int:=if n<0 then -n else n
def dR:Bool->List bj->_z
 |_,[]=>[]
 |b,t::P=>dA b t.2::b8 t.1 (cY t.2)::dR false P
def aY(P:List bj):Str:=if P=[]then "0" else Txt.join "" (dR true P)
structure Wr(t:bj):Prop where
 len:t.1.length<=4
 rg:∀e∈t.1,0<=e/\e<10 ^ 10
 nb:cY t.2<10 ^ 60
theorem k9(i:Nat):(iJ i).length<=1:=by
 unfold iJ;rcases i with _|_|_|_|i
 .decide +kernel
 .decide +kernel
 .decide +kernel
 .decide +kernel
 .exact(by decide +kernel:("":Str).length<=1)
theorem k_{n:Int}(h0:0<=n)(h1:n<10 ^ 60):(bU n).length<=60:=W3 h0 (by decide) h1
theorem y8{z:Str}{e:Int}(hz:z.length<=1)(h0:0<=e)(h1:e<10 ^ 10):(AX "^" z e).length<=12:=by
 have h:(PySem.Str.ofString (toString e)).length<=10:=W3 h0 (by decide) h1;have e2:(AX "^" z e).length=z.length+("^":Str).length+(PySem.Str.ofString (toString e)).length:=by unfold AX;rw[W6,W6]
 have e3:("^":Str).length=1:=by decide +kernel
 lia
theorem tJ{e:Int}{k:Nat}(h0:0<=e)(h1:e<2 ^ k)(hk:k<=1920)(k0:0<k):e.natAbs.log2<1920:=by
 obtain⟨m,rfl⟩:=Yd h0;show m.log2<1920;have hm:m<2 ^ k:=by exact_mod_cast h1
 by_cases z:m=0
 .subst z;decide
 .have:=(Yq z).mpr hm;lia
theorem Lr{z:Str}{e:Int}(hz:z.length<=1)(h0:0<=e)(h1:e<10 ^ 10)(s:aj):PM.eZ [.str z,.int e] s=.ok (.str (if e=1 then z else AX "^" z e)) s:=by
 have fl:=y8 hz h0 h1;have sl:sizeLine=16777216:=VT;have f:xu "^" (aa 0) (aa 1) [some (.str z),some (.int e)] s=.ok (.str (AX "^" z e)) s:=by
  refine N? (s1:=s) rfl rfl (by lia) ?_ (tJ h0 (k:=40) (by lia) (by decide) (by decide)) (by lia);rw[W6];have e3:("^":Str).length=1:=by decide +kernel
  lia
 unfold PM.eZ;generalize xu "^" (aa 0) (aa 1)=Z at f⊢;by_cases h:e=1
 .have q:(e==1)=true:=by rw[h];rfl
  rw[Vo h];simp only[bb,aq,aB,bA,aS,bw,aP,iG,b?,cF,ba,a8,gH,aQ,d_,bR,eU,cq,Vp,VO,VP,VA,Vz,Nat.reduceSub,Vl,VH,Nat.reduceAdd,q]
 .have q:(e==1)=false:=WE h;rw[Vu h];simp only[bb,aq,aB,bA,aS,bw,aP,iH,b?,cF,ba,a8,gH,aQ,d_,bR,cq,Vp,VO,VP,VA,Vz,Nat.reduceSub,Vl,VH,Nat.reduceAdd,q,f]
abbrev Rp:ME:=bV 2 [] (s9 (ae (aa 0) ao)) (fM [(ay 0),(ay 1)]) (a! (ah fA (aa 1) (mC (.int 0)))) (ak PM.eZ (ae (ah Bs (mC PM.eR) (aa 0)) (ae (aa 1) ao)))
theorem DZ{i:Nat}(h:i<4)(s:aj):Bs PM.eR (.int (i:Int)) s=.ok (.str (iJ i)) s:=by
 rcases i with _|_|_|_|i
 .rfl
 .rfl
 .rfl
 .rfl
 .lia
theorem vJ(st:aj):∀(t:_v)(k:Nat)(τ0 τ1:Option av)(ys:List av),k+t.length<=4->(∀e∈t,0<=e/\e<10 ^ 10) ->
  bQ (fun _=>True) (fM [(ay 0),(ay 1)]) (a! (ah fA (aa 1) (mC (.int 0)))) (ak PM.eZ (ae (ah Bs (mC PM.eR) (aa 0)) (ae (aa 1) ao))) (kT k (t.map av.int)) [τ0,τ1] st ys=.ok (ys++(bq k t).map .str) st
 |[],k,τ0,τ1,ys,_,_=>by show bQ _ _ _ _ [] _ _ _=_;rw[y7 trivial];simp[bq]
 |e::t,k,τ0,τ1,ys,hk,hr=>by
  have O?:k+(t.length+1)<=4:=hk;obtain⟨h0,h1⟩:=hr e Vt;have ih:=fun ys=>vJ st t (k+1) (some (.int (k:Int))) (some (.int e)) ys (by lia) fun x hx=>hr x (Vr _ hx);show bQ _ _ _ _ (.tup [.int (k:Int),.int e]::kT (k+1) (t.map av.int)) _ _ _=_;unfold bq;by_cases z:e=0
  .have q:(!(e==0))=false:=by rw[z];rfl
   rw[DY (τ1:=[some (.int (k:Int)),some (.int e)]) (st1:=st) trivial rfl (by simp only[aq,aS,bw,aP,cF,ba,a8,jS,bR,cq,q]),ih,Vo z]
  .have q:(!(e==0))=true:=by rw[WE z];rfl
   rw[tH (y:=.str (qy k e)) (τ1:=[some (.int (k:Int)),some (.int e)]) (st1:=st) (st2:=st) trivial rfl (by simp only[aq,aS,bw,aP,cF,ba,a8,jS,bR,cq,q]) (by
    have ix:ah Bs (mC PM.eR) (aa 0) [some (.int (k:Int)),some (.int e)] st=.ok (.str (iJ k)) st:=by rw[aX (x:=PM.eR) (s1:=st) rfl (y:=.int (k:Int)) (s2:=st) rfl];exact DZ (by lia) st
    rw[aM (iT ix (w:=.int e) (s2:=st) rfl)];exact Lr (k9 k) h0 h1 st),ih,Vu z,Vp,Vs]
   rfl
theorem k!{t:_v}{n:Int}(hl:t.length<=4)(ht:∀e∈t,0<=e/\e<10 ^ 10)(h0:0<=n)(h1:n<10 ^ 60):(∀y∈bq 0 t,y.length<=60)/\(∀y∈e? t n,y.length<=60)/\(bq 0 t).length<=4/\(e? t n).length<=5:=by
 have go:∀(t:_v)(k:Nat),(∀e∈t,0<=e/\e<10 ^ 10)->(∀y∈bq k t,y.length<=60)/\(bq k t).length<=t.length:=by
  intro t
  induction t with
  |nil=>exact fun _ _=>⟨fun y hy=>(by cases hy),Vq _⟩
  |cons e t ih=>
   intro k hr;obtain⟨i1,i2⟩:=ih (k+1) fun x hx=>hr x (Vr _ hx);unfold bq;split
   .exact⟨i1,Z! i2⟩
   .refine⟨fun y hy=>?_,YT i2⟩;rcases VG.mp hy with rfl|hy
    .unfold qy;split
     .have:=k9 k;lia
     .obtain⟨q0,q1⟩:=hr e Vt;have:=y8 (k9 k) q0 q1;lia
    .exact i1 y hy
 obtain⟨g1,g2⟩:=go t 0 ht;refine⟨g1,?_,by lia,?_⟩
 .intro y hy;unfold e? at hy;split at hy
  .exact g1 y hy
  .rcases VG.mp hy with rfl|hy
   .exact k_ h0 h1
   .exact g1 y hy
 .unfold e?;split
  .lia
  .rw[Vl];lia
theorem joinOk_of{sep:Str}{xs:_z}{B N:Nat}(hB:∀y∈xs,y.length<=B)(hN:xs.length<=N)(hs:sep.length<=1)(h:N*B+N<=16777216):JoinOk sep xs=true:=by
 have:xs.length*B+xs.length*sep.length<=16777216:=by have h1:xs.length*B<=N*B:=Xo _ hN;have h2:xs.length*sep.length<=N*1:=Nat.mul_le_mul hN hs;lia
 unfold JoinOk;rw[StrLaws.joinFits hB this];rfl
theorem G1{t:_v}{n:Int}(hl:t.length<=4)(ht:∀e∈t,0<=e/\e<10 ^ 10)(h0:0<=n)(h1:n<10 ^ 60)(st:aj):∃g,PM.e! [aR t,.int n] st=.ok (.str (b8 t n)) (st++g):=by
 obtain⟨b1,b2,b3,b4⟩:=k! hl ht h0 h1;have sl:sizeLine=16777216:=VT;have en:s9 (ae (aa 0) ao) [some (aR t),some (.int n),none] st=.ok (kT 0 (t.map av.int),fun _=>True) st:=rfl;have cp:Rp [some (aR t),some (.int n),none] st=.ok (.loc st.length) (st++[.lst ((bq 0 t).map .str)]):=by unfold Rp;rw[d6,en,aq,fE,Vo (by rw[l!,Vn];lia)];show((bQ _ _ _ _ _ [none,none] st []).fR u_)=_;rw[vJ st t 0 none none [] (by lia) ht,aq,g?,VA]
 obtain⟨s1,fJ⟩:∃s1,s1=st++[aG.lst ((bq 0 t).map .str)]:=⟨_,rfl⟩
 rw[<-fJ]at cp;have l1:s1[st.length]?=some (.lst ((bq 0 t).map .str)):=by rw[fJ];exact fm _ _
 have i1:=df l1;have ln:b9 [.loc st.length] s1=.ok (.int ((bq 0 t).length:Int)) s1:=by rw[gI i1,Vn]
 have jn:∀x,eJ (mC (.str "*")) (aa 2) [x,some (.int n),some (.loc st.length)] s1=.ok (.str (Txt.join "*" (bq 0 t))) s1:=fun x=>mD (n:=st.length) rfl i1 (joinOk_of (N:=4) b1 b3 (by decide +kernel) (by decide));have sI:gy [.int n] s1=.ok (.str (bU n)) s1:=by unfold gy;dsimp only;rw[Vo (tJ h0 (k:=300) (by lia) (by decide) (by decide))];rfl
 obtain⟨s2,gA⟩:∃s2,s2=s1++[aG.lst [.str (bU n)]]:=⟨_,rfl⟩
 have ad:bo (.loc s1.length) (.loc st.length) s2=.ok (.loc s2.length) (s2++[.lst ((bU n::bq 0 t).map .str)]):=by
  have a1:s2[s1.length]?=some (.lst [.str (bU n)]):=by rw[gA];exact fm _ _
  have a2:s2[st.length]?=some (.lst ((bq 0 t).map .str)):=by rw[gA];exact pA l1 _
  rw[xi a1 a2 (by rw[Vn];show 1+_<=_;lia)];rfl
 have sL:bK (ae (ak gy (ae (aa 1) ao)) ao) [some (aR t),some (.int n),some (.loc st.length)] s1=.ok (.loc s1.length) s2:=by
  have q:ak gy (ae (aa 1) ao) [some (aR t),some (.int n),some (.loc st.length)] s1=.ok (.str (bU n)) s1:=by rw[aM (dP (v:=.int n) (s1:=s1) rfl)];exact sI
  rw[gA];exact gX (dP q) (by show 1<=1000;decide)
 have Rq:eJ (mC (.str "*")) (ah bo (bK (ae (ak gy (ae (aa 1) ao)) ao)) (aa 2)) [some (aR t),some (.int n),some (.loc st.length)] s1=.ok (.str (Txt.join "*" (bU n::bq 0 t))) (s2++[.lst ((bU n::bq 0 t).map .str)]):=by
  refine mD (n:=s2.length) ?_ (aL _ _) (joinOk_of (B:=60) (N:=5) (fun y hy=>?_) (by rw[Vl];lia) (by decide +kernel) (by decide))
  .rw[aX sL (y:=.loc st.length) (s2:=s2) rfl];exact ad
  .rcases VG.mp hy with rfl|hy
   .exact k_ h0 h1
   .exact b1 y hy
 unfold b8 e?;have run:PM.e! [aR t,.int n] st=(aA (dq (eh (a! (ah fA (aa 1) (mC (.int 1)))) (a! (ah dr (ak b9 (ae (aa 2) ao)) (mC (.int 0))))) (a7 (eJ (mC (.str "*")) (ah bo (bK (ae (ak gy (ae (aa 1) ao)) ao)) (aa 2)))) aK) (a7 (eJ (mC (.str "*")) (aa 2))) [some (aR t),some (.int n),some (.loc st.length)] s1).fin:=by unfold PM.e!;rw[bb (np:=2) (us:=[aR t,.int n]) rfl];show(aA (aE 2 Rp) _ [some (aR t),some (.int n),none] st).fin=_;rw[aw,bJ cp,az];rfl
 rw[run];generalize eJ (mC (.str "*")) (ah bo (bK (ae (ak gy (ae (aa 1) ao)) ao)) (aa 2))=Z2 at Rq⊢;generalize eJ (mC (.str "*")) (aa 2)=Z1 at jn⊢;by_cases hn:n=1
 .have q1:(!(n==1))=false:=by rw[hn];rfl
  by_cases hp:bq 0 t=[]
  .have q2:(((bq 0 t).length:Int)==0)=true:=by rw[hp];rfl
   rw[Vu (fun z=>z.2 hp)];refine⟨[aG.lst ((bq 0 t).map .str)]++[aG.lst [.str (bU n)]]++[.lst ((bU n::bq 0 t).map .str)],?_⟩;rw[show st++([aG.lst ((bq 0 t).map .str)]++[aG.lst [.str (bU n)]]++[.lst ((bU n::bq 0 t).map .str)])=s2++[.lst ((bU n::bq 0 t).map .str)] by rw[gA,fJ];simp only[Vs]];simp only[aq,aB,fk,bA,aS,bw,aP,eQ,bh,aO,b?,c!,cF,ba,a8,eG,bB,aN,bF,aw,aQ,bx,d_,jS,bR,jR,cq,Vp,q1,ln,q2,Rq]
  .have q2:(((bq 0 t).length:Int)==0)=false:=WE fun z=>hp (XO.mp (by lia));rw[Vo ⟨hn,hp⟩];refine⟨[aG.lst ((bq 0 t).map .str)],?_⟩;rw[<-fJ];simp only[aq,aB,az,bA,aS,bw,aP,eQ,bh,aO,b?,cS,cF,ba,a8,eG,bB,aN,bF,aw,cR,aQ,bx,d_,jS,bR,jR,cq,q1,ln,q2,jn]
 .have q1:(!(n==1))=true:=by rw[WE hn];rfl
  rw[Vu (fun z=>hn z.1)];refine⟨[aG.lst ((bq 0 t).map .str)]++[aG.lst [.str (bU n)]]++[.lst ((bU n::bq 0 t).map .str)],?_⟩;rw[show st++([aG.lst ((bq 0 t).map .str)]++[aG.lst [.str (bU n)]]++[.lst ((bU n::bq 0 t).map .str)])=s2++[.lst ((bU n::bq 0 t).map .str)] by rw[gA,fJ];simp only[Vs]];simp only[aq,aB,fk,bA,aS,bw,aP,kU,b?,c!,cF,ba,a8,eG,aw,aQ,bx,jS,bR,cq,Vp,q1,Rq]
theorem G4(b:Bool)(n:Int)(s:aj):PM.dN [.bl b,.int n] s=.ok (.str (dA b n)) s:=by
 unfold dA;by_cases h:n<0
 .have q:decide (n<0)=true:=VF h;cases b with
  |true=>rw[Vo rfl,Vo h];simp only[PM.dN,bb,aq,aB,fk,bA,aS,bw,aP,iG,b?,c!,cF,ba,a8,gH,aw,aQ,bx,hG,bR,yG,cq,Vp,VO,VP,VA,Vz,Nat.reduceSub,Vl,VH,Nat.reduceAdd,q]
  |false=>rw[Vu VC,Vo h];simp only[PM.dN,bb,aq,aB,az,bA,aS,bw,aP,iG,b?,cS,cF,ba,a8,gH,aw,cR,aQ,bx,hG,bR,yG,cq,Vp,VO,VP,VA,Vz,Nat.reduceSub,Vl,VH,Nat.reduceAdd,q]
 .have q:decide (n<0)=false:=VM h;cases b with
  |true=>rw[Vo rfl,Vu h];simp only[PM.dN,bb,aq,aB,fk,bA,aS,bw,aP,iH,b?,c!,cF,ba,a8,gH,aw,aQ,bx,hG,bR,yG,cq,Vp,VO,VP,VA,Vz,Nat.reduceSub,Vl,VH,Nat.reduceAdd,q]
  |false=>rw[Vu VC,Vu h];simp only[PM.dN,bb,aq,aB,az,bA,aS,bw,aP,iH,b?,cS,cF,ba,a8,gH,aw,cR,aQ,bx,hG,bR,yG,cq,Vp,VO,VP,VA,Vz,Nat.reduceSub,Vl,VH,Nat.reduceAdd,q]
theorem gm(n:Int):0<=cY n:=by unfold cY;split<;>lia
theorem D0(c:Nat):∀{ps:List (List Nat)}{B:Nat},(∀p∈ps,p.length<=B)->(jn c ps).length<=ps.length*(B+1)
 |[],B,_=>V' _
 |[a],B,h=>by have:=h a Vt;show a.length<=1*(B+1);lia
 |a::b::r,B,h=>by have h1:=h a Vt;have h2:=D0 c (ps:=b::r) (B:=B) fun p hp=>h p (Vr _ hp);show(a++c::jn c (b::r)).length<=_;rw[Vx,Vl,Vl,Nat.add_mul];lia
theorem k?{t:_v}{n:Int}(hl:t.length<=4)(ht:∀e∈t,0<=e/\e<10 ^ 10)(h0:0<=n)(h1:n<10 ^ 60):(b8 t n).length<=305:=by
 obtain⟨b1,b2,b3,b4⟩:=k! hl ht h0 h1;have e:cl (b8 t n)=jn 42 ((e? t n).map cl):=jI 42 _;have z:=D0 42 (ps:=(e? t n).map cl) (B:=60) (fun p hp=>by
  obtain⟨y,hy,rfl⟩:=VY.mp hp;rw[dY];exact b2 y hy)
 rw[<-e,dY,Vn]at z;have:(e? t n).length*(60+1)<=5*61:=Xo _ b4;lia
theorem y9(b:Bool)(n:Int):(dA b n).length<=3:=by unfold dA;cases b<;>split<;>split<;>first|decide +kernel|(rename_i h;cases h)
theorem lg:∀(b:Bool)(P:List bj),(∀t∈P,Wr t)->(∀y∈dR b P,y.length<=305)/\(dR b P).length=2*P.length
 |_,[],_=>⟨fun y hy=>(by cases hy),rfl⟩
 |b,t::P,h=>by
  obtain⟨i1,i2⟩:=lg false P fun x hx=>h x (Vr _ hx);have w:=h t Vt;refine⟨fun y hy=>?_,by show(dR false P).length+1+1=2*(P.length+1);lia⟩;rcases VG.mp hy with rfl|hy
  .have:=y9 b t.2;lia
  .rcases VG.mp hy with rfl|hy
   .exact k? w.len w.rg (gm _) w.nb
   .exact i1 y hy
theorem pU:∀(b:Bool)(P:List bj)(t:bj),dR b (P++[t])=dR b P++[dA (b&&P.isEmpty) t.2,b8 t.1 (cY t.2)]
 |b,[],t=>by simp[dR]
 |b,u::P,t=>by show _::_::dR false (P++[t])=_::_::(dR false P++_);rw[pU false P t];simp
abbrev Ls:MB:=aA (cD (gR bZ (aa 1) (ae (ak PM.dN (ae (ah dr (ak b9 (ae (aa 1) ao)) (mC (.int 0))) (ae (aa 3) ao))) ao))) (cD (gR bZ (aa 1) (ae (ak PM.e! (ae (aa 2) (ae (ak gQ (ae (aa 3) ao)) ao))) ao)))
theorem G5{p q:Nat}{xs:_z}{t:bj}{s:aj}(w:Wr t)(hq:s[q]?=some (.lst (xs.map .str)))(hl:xs.length<=900):
  ∃g,Ls [some (.loc p),some (.loc q),some (aR t.1),some (.int t.2)] s=.nx [some (.loc p),some (.loc q),some (aR t.1),some (.int t.2)] ((s++g).set q (.lst ((xs++[dA xs.isEmpty t.2,b8 t.1 (cY t.2)]).map .str))):=by
 obtain⟨μ,hμ⟩:∃μ:MN.Env,μ=[some (.loc p),some (.loc q),some (aR t.1),some (.int t.2)]:=⟨_,rfl⟩
 have v1:∀s,aa 1 μ s=.ok (.loc q) s:=fun s=>by rw[hμ];rfl
 have v2:∀s,aa 2 μ s=.ok (aR t.1) s:=fun s=>by rw[hμ];rfl
 have v3:∀s,aa 3 μ s=.ok (.int t.2) s:=fun s=>by rw[hμ];rfl
 have D2:q<s.length:=(VW.mp hq).1;have sg:ak PM.dN (ae (ah dr (ak b9 (ae (aa 1) ao)) (mC (.int 0))) (ae (aa 3) ao)) μ s=.ok (.str (dA xs.isEmpty t.2)) s:=by
  have l:ak b9 (ae (aa 1) ao) μ s=.ok (.int ((xs.length:Nat):Int)) s:=by rw[aM (dP (v1 s)),gI (df hq),Vn]
  have e:ah dr (ak b9 (ae (aa 1) ao)) (mC (.int 0)) μ s=.ok (.bl xs.isEmpty) s:=by
   rw[pT l];have:(((xs.length:Nat):Int)==0)=xs.isEmpty:=by
    cases xs with
    |nil=>rfl
    |cons a r=>exact WE (by rw[Vl];lia)
   rw[this]
  rw[aM (iT e (v3 s))];exact G4 _ _ s
 have a1:=mB (v1 s) hq (dP sg) hq (by rw[Vn];lia);obtain⟨s1,fJ⟩:∃s1,s1=s.set q (.lst (xs.map .str++[.str (dA xs.isEmpty t.2)])):=⟨_,rfl⟩
 rw[<-fJ]at a1;have h1:s1[q]?=some (.lst (xs.map .str++[.str (dA xs.isEmpty t.2)])):=by rw[fJ,V_ D2]
 obtain⟨g,tm⟩:=G1 w.len w.rg (gm t.2) w.nb s1;have tt:ak PM.e! (ae (aa 2) (ae (ak gQ (ae (aa 3) ao)) ao)) μ s1=.ok (.str (b8 t.1 (cY t.2))) (s1++g):=by
  have ab:ak gQ (ae (aa 3) ao) μ s1=.ok (.int (cY t.2)) s1:=by rw[aM (dP (v3 s1))];rfl
  rw[aM (iT (v2 s1) ab)];exact tm
 have a2:=mB (v1 s1) h1 (dP tt) (cT h1 g) (by rw[Vx,Vn];show _+1<=1000;lia);refine⟨g,?_⟩;rw[<-hμ];unfold Ls;rw[aw,a1,az,a2];have es:(s1++g).set q (.lst (xs.map .str++[.str (dA xs.isEmpty t.2)]++[.str (b8 t.1 (cY t.2))]))=(s++g).set q (.lst ((xs++[dA xs.isEmpty t.2,b8 t.1 (cY t.2)]).map .str)):=by have sa:∀(a b:List aG)(n:Nat)(c:aG),n<a.length->(a++b).set n c=a.set n c++b:=fun a b n c h=>List.set_append_left n c h;have e1:(s1++g).set q (.lst (xs.map .str++[.str (dA xs.isEmpty t.2)]++[.str (b8 t.1 (cY t.2))]))=s1.set q (.lst (xs.map .str++[.str (dA xs.isEmpty t.2)]++[.str (b8 t.1 (cY t.2))]))++g:=sa s1 g q _ (by rw[fJ,W7];exact D2);have e2:(s++g).set q (.lst ((xs++[dA xs.isEmpty t.2,b8 t.1 (cY t.2)]).map .str))=s.set q (.lst ((xs++[dA xs.isEmpty t.2,b8 t.1 (cY t.2)]).map .str))++g:=sa s g q _ D2;rw[e1,e2,fJ,List.set_set,Wz,Vs];rfl
 rw[es]
theorem pV{p:Nat}{P:List bj}{st:aj}(h:au st p=some (P.map tV))(hl:P.length<=400)(hw:∀t∈P,Wr t):∃g,PM.shown [.loc p] st=.ok (.str (aY P)) (st++g):=by
 have ln:b9 [.loc p] st=.ok (.int ((P.length:Nat):Int)) st:=by rw[gI h,Vn]
 by_cases hP:P=[]
 .have q:(((P.length:Nat):Int)==0)=true:=by rw[hP];rfl
  refine⟨[],?_⟩;unfold aY;rw[Vo hP,VS];generalize hZ:dO (cQ (aa 0)) (fM [(ay 2),(ay 3)]) Ls=Z;have:PM.shown=fQ 1 4 (aA (dq (a! (ah dr (ak b9 (ae (aa 0) ao)) (mC (.int 0)))) (a7 (mC (.str "0"))) aK) (aA (aE 1 (bK ao)) (aA Z (a7 (eJ (mC (.str "")) (aa 1)))))):=by rw[<-hZ];rfl
  rw[this];generalize eJ (mC (.str "")) (aa 1)=Z2;simp only[bb,aq,aB,fk,bA,aS,bw,aP,bh,aO,b?,c!,cF,ba,a8,bB,aN,bF,aw,aQ,bx,d_,jR,Vp,VO,VP,VA,VV,Vz,Nat.reduceSub,Vl,VH,Nat.reduceAdd,ln,q]
 .have q:(((P.length:Nat):Int)==0)=false:=WE fun z=>hP (XO.mp (by lia));have pl:p<st.length:=by
   rcases V! p st.length with q|q
   .exact q
   .unfold au at h;rw[V7 q]at h;cases h
  obtain⟨μ',ax,e,g,rfl,y2,y3,rfl⟩:=dy (g:=fun s'=>au s' p=some (P.map tV)) (a:=fM [(ay 2),(ay 3)]) (body:=Ls)
   (fun i μ s'=>∃g,s'=st ++ .lst ((dR true (P.take i)).map .str)::g/\∃y2 y3,μ=[some (.loc p),some (.loc st.length),y2,y3])
   (P.map tV) 0 [some (.loc p),some (.loc st.length),none,none] (st++[.lst []])
   (by
    rintro i u μ s' hu ⟨g,rfl,y2,y3,rfl⟩;rw[Wb]at *;refine⟨aC h _,?_⟩;rw[VU]at hu;cases z:P[i]? with
    |none=>rw[z]at hu;cases hu
    |some t=>
     rw[z]at hu;cases hu;have hi:i<P.length:=(VW.mp z).1;have LY:=lg true (P.take i) fun x hx=>hw x (YW hx);have pl3:(dR true (P.take i)).length<=800:=by rw[LY.2,Wm];lia
     obtain⟨g2,eb⟩:=G5 (p:=p) (t:=t) (s:=st ++ .lst ((dR true (P.take i)).map .str)::g) (hw t (Xw z)) (sW st _ g) (by lia);refine⟨[some (.loc p),some (.loc st.length),some (aR t.1),some (.int t.2)],rfl,_,_,.inl eb,g++g2,?_,_,_,rfl⟩;rw[Vs];refine(sV st _ _ (g++g2)).trans ?_;have tk:P.take (i+1)=P.take i++[t]:=by rw[Zq,z];rfl
     rw[tk,pU];have em:(dR true (P.take i)).isEmpty=(true&&(P.take i).isEmpty):=by
      cases hh:P.take i with
      |nil=>rfl
      |cons a r=>rfl
     rw[em])
   (fun μ s'⟨g,e,_⟩=>by rw[e];exact aC h _) ⟨[],rfl,none,none,rfl⟩
  rw[Wb,Vn,Yw]at e;have LY:=lg true P hw;have loop:dO (cQ (aa 0)) (fM [(ay 2),(ay 3)]) Ls [some (.loc p),some (.loc st.length),none,none] (st++[.lst []])=.nx [some (.loc p),some (.loc st.length),y2,y3] (st ++ .lst ((dR true P).map .str)::g):=by have v0:aa 0 [some (.loc p),some (.loc st.length),none,none] (st++[.lst []])=.ok (.loc p) (st++[.lst []]):=rfl;rw[eT,dj,v0,aq,c5 (aC h _),aB,gx];exact e
  have jn:eJ (mC (.str "")) (aa 1) [some (.loc p),some (.loc st.length),y2,y3] (st ++ .lst ((dR true P).map .str)::g)=.ok (.str (Txt.join "" (dR true P))) (st ++ .lst ((dR true P).map .str)::g):=
   mD (n:=st.length) rfl (df (sW st _ g)) (joinOk_of (B:=305) (N:=800) LY.1 (by lia) (by decide +kernel) (by decide))
  refine⟨.lst ((dR true P).map .str)::g,?_⟩;unfold aY;rw[Vu hP];have run:PM.shown=fQ 1 4 (aA (dq (a! (ah dr (ak b9 (ae (aa 0) ao)) (mC (.int 0)))) (a7 (mC (.str "0"))) aK) (aA (aE 1 (bK ao)) (aA (dO (cQ (aa 0)) (fM [(ay 2),(ay 3)]) Ls) (a7 (eJ (mC (.str "")) (aa 1)))))):=rfl;rw[run];generalize dO (cQ (aa 0)) (fM [(ay 2),(ay 3)]) Ls=Z at loop⊢;generalize eJ (mC (.str "")) (aa 1)=Z2 at jn⊢;simp only[bb,aq,aB,az,bA,aS,bw,aP,bh,aO,q9,b?,cS,f_,cF,ba,a8,bB,aN,l?,bF,aw,cR,aQ,bx,da,d_,jR,Vp,VO,VP,VA,VV,Vz,V1,V9,Nat.reduceSub,Vl,VH,Nat.reduceAdd,VT,Nat.reduceLeDiff,↓reduceIte,ln,q,loop,jn]
theorem vK:∀(k:Nat)(es:_v)(e:Int),bq k (es++[e])=bq k es++(if e=0 then[] else[qy (k+es.length) e])
 |k,[],e=>by show(if e=0 then bq (k+1) []else qy k e::bq (k+1) [])=[]++_;split<;>rfl
 |k,a::es,e=>by have ih:=vK (k+1) es e;show(if a=0 then bq (k+1) (es++[e])else qy k a::bq (k+1) (es++[e]))=(if a=0 then bq (k+1) es else qy k a::bq (k+1) es)++_;rw[ih,show k+(a::es).length=k+1+es.length by rw[Vl];lia];split<;>simp
theorem G6{i:Nat}(h:i<4)(s:aj):b5 (.str "xyzw") (.int (i:Int)) s=.ok (.str (iJ i)) s:=by
 have sz:("xyzw":Str).length<=sizeLine:=by decide +kernel
 unfold b5;dsimp only;rw[Vo sz];rcases i with _|_|_|_|i
 .rfl
 .rfl
 .rfl
 .rfl
 .lia
abbrev G7:ME:=ah b5 (ah b5 (aa 0) (mC (.int 0))) (aa 2)
abbrev Oa:MB:=aA (dq (a! (ah dr G7 (mC (.int 1)))) (cD (gR bZ (aa 1) (ae (ah b5 (mC (.str "xyzw")) (aa 2)) ao))) aK) (dq (a! (ah Af G7 (mC (.int 1)))) (cD (gR bZ (aa 1) (ae (ah bo (ah bo (ah b5 (mC (.str "xyzw")) (aa 2)) (mC (.str "^"))) (ak gy (ae G7 ao))) ao))) aK)
theorem G8{t:bj}{q i:Nat}{xs:_z}{e:Int}{s:aj}(he:t.1[i]?=some e)(hi:i<4)(h0:0<=e)(h1:e<10 ^ 10)(hq:s[q]?=some (.lst (xs.map .str)))(hl:xs.length<=4):
  Oa [some (tV t),some (.loc q),some (.int (i:Int))] s=.nx [some (tV t),some (.loc q),some (.int (i:Int))] (s.set q (.lst ((xs++(if e=0 then[] else[qy i e])).map .str))):=by
 obtain⟨μ,hμ⟩:∃μ:MN.Env,μ=[some (tV t),some (.loc q),some (.int (i:Int))]:=⟨_,rfl⟩
 have D2:q<s.length:=(VW.mp hq).1;have v1:∀s,aa 1 μ s=.ok (.loc q) s:=fun s=>by rw[hμ];rfl
 have v2:∀s,aa 2 μ s=.ok (.int (i:Int)) s:=fun s=>by rw[hμ];rfl
 have v0:∀s,ah b5 (aa 0) (mC (.int 0)) μ s=.ok (aR t.1) s:=fun s=>by rw[hμ];rfl
 have ve:∀s,G7 μ s=.ok (.int e) s:=fun s=>by unfold G7;rw[aX (v0 s) (v2 s)];exact rY (L2.jB (by rw[VU,he];rfl))
 have vx:∀s,ah b5 (mC (.str "xyzw")) (aa 2) μ s=.ok (.str (iJ i)) s:=fun s=>by rw[aX (x:=.str "xyzw") (s1:=s) rfl (v2 s)];exact G6 hi s
 have t1:a! (ah dr G7 (mC (.int 1))) μ s=.ok (e==1) s:=bI (pT (ve s));have t2:∀s,a! (ah Af G7 (mC (.int 1))) μ s=.ok (decide (1<e)) s:=fun s=>bI (by rw[aX (ve s) (y:=.int 1) (s2:=s) rfl];rfl);have sl:sizeLine=16777216:=VT;have vs:ah bo (ah bo (ah b5 (mC (.str "xyzw")) (aa 2)) (mC (.str "^"))) (ak gy (ae G7 ao)) μ s=.ok (.str (AX "^" (iJ i) e)) s:=by
  have l1:=k9 i;have l2:(PySem.Str.ofString (toString e)).length<=10:=W3 h0 (by decide) h1;have l3:("^":Str).length=1:=by decide +kernel
  have a1:ah bo (ah b5 (mC (.str "xyzw")) (aa 2)) (mC (.str "^")) μ s=.ok (.str (iJ i ++ "^")) s:=by rw[aX (vx s) (y:=.str "^") (s2:=s) rfl];show(if(iJ i).length+("^":Str).length<=sizeLine then _ else _)=_;rw[Vo (by lia)]
  have a2:ak gy (ae G7 ao) μ s=.ok (.str (bU e)) s:=by rw[aM (dP (ve s))];unfold gy;dsimp only;rw[Vo (tJ h0 (k:=40) (by lia) (by decide) (by decide))];rfl
  rw[aX a1 a2];show(if(iJ i ++ "^").length+(bU e).length<=sizeLine then _ else _)=_;have l2':(bU e).length<=10:=l2;rw[Vo (by rw[W6];lia)];rfl
 rw[<-hμ];unfold Oa;have same:∀c:aG,s[q]?=some c->s.set q c=s:=fun c h=>by
  apply WT;intro j;by_cases hj:q=j
  .subst hj;rw[V_ D2,h]
  .rw[Wi hj]
 by_cases z0:e=0
 .have q1:(e==1)=false:=by rw[z0];rfl
  have q2:decide (1<e)=false:=VM (by lia);rw[q1]at t1;rw[aw,dD t1,az,dD (by rw[t2 s,q2]),Vo z0,VS,same _ hq]
 .rw[Vu z0];by_cases z1:e=1
  .have q1:(e==1)=true:=by rw[z1];rfl
   have q2:decide (1<e)=false:=VM (by lia);rw[q1]at t1;rw[aw,e7 t1,mB (v1 s) hq (dP (vx s)) hq (by rw[Vn];lia),az,dD (by rw[t2 _,q2])];unfold qy;rw[Vo z1,Wz];rfl
  .have q1:(e==1)=false:=WE z1;have q2:decide (1<e)=true:=VF (by lia);rw[q1]at t1;rw[aw,dD t1,az,e7 (by rw[t2 s,q2]),mB (v1 s) hq (dP vs) hq (by rw[Vn];lia)];unfold qy;rw[Vu z1,Wz];rfl
theorem nq{t:bj}(w:Wr t)(st:aj):∃g,PM.dz [tV t] st=.ok (.str (b8 t.1 (cY t.2))) (st++g):=by
 have hn:=gm t.2;obtain⟨b1,b2,b3,b4⟩:=k! w.len w.rg hn w.nb;have sl:sizeLine=16777216:=VT;have wl:=w.len;obtain⟨μ',ax,e,rfl,y2,rfl⟩:=dy (g:=fun _=>True) (a:=ay 2) (body:=Oa)
  (fun i μ s'=>s'=st++[.lst ((bq 0 (t.1.take i)).map .str)]/\∃y2,μ=[some (tV t),some (.loc st.length),y2])
  (aW 0 t.1.length) 0 [some (tV t),some (.loc st.length),none] (st++[.lst []])
  (by
   rintro i u μ s' hu ⟨rfl,y2,rfl⟩;rw[Wb]at *;refine⟨trivial,?_⟩;unfold aW at hu;rw[VU]at hu;have hi:i<t.1.length:=by
    rcases V! i t.1.length with q|q
    .exact q
    .rw[V7 (by rw[Wa];exact q)]at hu;cases hu
   rw[VE (by rw[Wa];exact hi),X7]at hu;cases hu;have he:t.1[i]?=some t.1[i]:=VE hi;obtain⟨r0,r1⟩:=w.rg t.1[i] (XC hi);have pl:=(k! (t:=t.1.take i) (n:=0) (by rw[Wm];lia) (fun e he=>w.rg e (YW he)) (by decide) (by decide)).2.2.1;have eb:=G8 (t:=t) (q:=st.length) he (by lia) r0 r1 (fm st _) pl;show ∃μ1,ay 2 (.int (0+(i:Int))) _=some μ1/\_;rw[YO];refine⟨[some (tV t),some (.loc st.length),some (.int (i:Int))],rfl,_,_,.inl eb,?_,_,rfl⟩;refine(sV st _ _ []).trans ?_;have tk:t.1.take (i+1)=t.1.take i++[t.1[i]]:=by rw[Zq,he];rfl
   rw[tk,vK,Wm,Wb,Nat.min_eq_left (X1 hi)])
  (fun _ _ _=>trivial) ⟨rfl,none,rfl⟩
 rw[Wb,show(aW 0 t.1.length).length=t.1.length by unfold aW;rw[Vn,Wa],Yw]at e;obtain⟨s1,fJ⟩:∃s1,s1=st++[aG.lst ((bq 0 t.1).map .str)]:=⟨_,rfl⟩
 rw[<-fJ]at e;have l1:s1[st.length]?=some (.lst ((bq 0 t.1).map .str)):=by rw[fJ];exact fm _ _
 have loop:dO (bE (ae (ak b9 (ae (ah b5 (aa 0) (mC (.int 0))) ao)) ao)) (ay 2) Oa [some (tV t),some (.loc st.length),none] (st++[.lst []])=.nx [some (tV t),some (.loc st.length),y2] s1:=by
  have r:bE (ae (ak b9 (ae (ah b5 (aa 0) (mC (.int 0))) ao)) ao) [some (tV t),some (.loc st.length),none] (st++[.lst []])=.ok (aW 0 ((t.1.length:Nat):Int).toNat,fun _=>True) (st++[.lst []]):=by refine mw (dP (v:=.int ((t.1.length:Nat):Int)) ?_) (by lia) (by lia);rw[aM (dP (v:=aR t.1) (s1:=st++[.lst []]) rfl)];show b9 [.tup (t.1.map av.int)] _=_;rw[Gn,Vn]
  rw[eT,r,aB,gx];exact e
 have ab:∀s,ak gQ (ae (ah b5 (aa 0) (mC (.int 1))) ao) [some (tV t),some (.loc st.length),y2] s=.ok (.int (cY t.2)) s:=fun s=>by rw[aM (dP (v:=.int t.2) (s1:=s) rfl)];rfl
 obtain⟨n,Ta⟩:∃n,n=cY t.2:=⟨_,rfl⟩
 have nb:=w.nb;rw[<-Ta]at ab hn b2 b4 nb;rw[<-Ta];have eN:a! (ah dr (aa 1) (bK ao)) [some (tV t),some (.loc st.length),y2] s1=.ok (bq 0 t.1).isEmpty (s1++[.lst []]):=by refine bI ?_;rw[aX (x:=.loc st.length) (s1:=s1) rfl (gX (vs:=[]) (s1:=s1) rfl (by decide)),eq_nil (df (pA l1 _)) (aL s1 [])];cases bq 0 t.1<;>rfl
 have Ob:∀g,∃g',aE 1 (ah bo (bK (ae (ak gy (ae (ak gQ (ae (ah b5 (aa 0) (mC (.int 1))) ao)) ao)) ao)) (aa 1)) [some (tV t),some (.loc st.length),y2] (s1++g)=.nx [some (tV t),some (.loc (s1++g++[aG.lst [.str (bU n)]]).length),y2] (s1++g')/\(s1++g')[(s1++g++[aG.lst [.str (bU n)]]).length]?=some (.lst ((bU n::bq 0 t.1).map .str)):=fun g=>by
  have sI:ak gy (ae (ak gQ (ae (ah b5 (aa 0) (mC (.int 1))) ao)) ao) [some (tV t),some (.loc st.length),y2] (s1++g)=.ok (.str (bU n)) (s1++g):=by rw[aM (dP (ab (s1++g)))];unfold gy;dsimp only;rw[Vo (tJ hn (k:=300) (by lia) (by decide) (by decide))];rfl
  have a1:(s1++g++[aG.lst [.str (bU n)]])[(s1++g).length]?=some (.lst [.str (bU n)]):=fm _ _;have a2:(s1++g++[aG.lst [.str (bU n)]])[st.length]?=some (.lst ((bq 0 t.1).map .str)):=pA (pA l1 _) _;refine⟨g++[aG.lst [.str (bU n)]]++[.lst ((bU n::bq 0 t.1).map .str)],?_,?_⟩
  .rw[show s1++(g++[aG.lst [.str (bU n)]]++[.lst ((bU n::bq 0 t.1).map .str)])=s1++g++[aG.lst [.str (bU n)]]++[.lst ((bU n::bq 0 t.1).map .str)] by simp only[Vs]];have ad:ah bo (bK (ae (ak gy (ae (ak gQ (ae (ah b5 (aa 0) (mC (.int 1))) ao)) ao)) ao)) (aa 1) [some (tV t),some (.loc st.length),y2] (s1++g)=.ok (.loc (s1++g++[aG.lst [.str (bU n)]]).length) (s1++g++[aG.lst [.str (bU n)]]++[.lst ((bU n::bq 0 t.1).map .str)]):=by rw[aX (gX (dP sI) (by show 1<=1000;decide)) (y:=.loc st.length) (s2:=s1++g++[aG.lst [.str (bU n)]]) rfl,xi a1 a2 (by rw[Vn];show 1+_<=_;lia)];rfl
   rw[bJ ad];rfl
  .rw[show s1++(g++[aG.lst [.str (bU n)]]++[.lst ((bU n::bq 0 t.1).map .str)])=s1++g++[aG.lst [.str (bU n)]]++[.lst ((bU n::bq 0 t.1).map .str)] by simp only[Vs]];exact fm _ _
 have head:∀g r,aA (dq (eh (a! (ah fA (ak gQ (ae (ah b5 (aa 0) (mC (.int 1))) ao)) (mC (.int 1)))) (a! (ah dr (aa 1) (bK ao)))) (aE 1 (ah bo (bK (ae (ak gy (ae (ak gQ (ae (ah b5 (aa 0) (mC (.int 1))) ao)) ao)) ao)) (aa 1))) aK) (a7 (eJ (mC (.str "*")) (aa 1))) [some (tV t),some (.loc st.length),y2] s1=.rt r (s1++g)->PM.dz [tV t] st=.ok r (s1++g):=fun g r er=>by have run:PM.dz=fQ 1 3 (aA (aE 1 (bK ao)) (aA (dO (bE (ae (ak b9 (ae (ah b5 (aa 0) (mC (.int 0))) ao)) ao)) (ay 2) Oa) (aA (dq (eh (a! (ah fA (ak gQ (ae (ah b5 (aa 0) (mC (.int 1))) ao)) (mC (.int 1)))) (a! (ah dr (aa 1) (bK ao)))) (aE 1 (ah bo (bK (ae (ak gy (ae (ak gQ (ae (ah b5 (aa 0) (mC (.int 1))) ao)) ao)) ao)) (aa 1))) aK) (a7 (eJ (mC (.str "*")) (aa 1)))))):=rfl;rw[run,bb (np:=1) (us:=[tV t]) rfl];show(aA (aE 1 (bK ao)) _ [some (tV t),none,none] st).fin=_;have a1:aE 1 (bK ao) [some (tV t),none,none] st=.nx [some (tV t),some (.loc st.length),none] (st++[.lst []]):=bJ (gX (vs:=[]) (s1:=st) rfl (by decide));rw[aw,a1,az,aw,loop,az,er];rfl
 have tN:∀b:Bool,(!(n==1))=b->a! (ah fA (ak gQ (ae (ah b5 (aa 0) (mC (.int 1))) ao)) (mC (.int 1))) [some (tV t),some (.loc st.length),y2] s1=.ok b s1:=fun b hb=>by refine bI ?_;rw[aX (ab s1) (y:=.int 1) (s2:=s1) rfl,<-hb];exact jS
 unfold b8 e?;by_cases EG:n=1
 .have q1:(!(n==1))=false:=by rw[EG];rfl
  by_cases hp:bq 0 t.1=[]
  .have q2:(bq 0 t.1).isEmpty=true:=by rw[hp];rfl
   rw[Vu (fun z=>z.2 hp)];obtain⟨g',es,ls⟩:=Ob [.lst []];have jn:=mD (y:="*") (μ:=[some (tV t),some (.loc (s1++[aG.lst []]++[aG.lst [.str (bU n)]]).length),y2]) (me:=aa 1) (s:=s1++g') (s1:=s1++g') (n:=(s1++[aG.lst []]++[aG.lst [.str (bU n)]]).length) (xs:=bU n::bq 0 t.1) rfl (df ls) (joinOk_of (B:=60) (N:=5) (fun y hy=>by
    rcases VG.mp hy with rfl|hy
    .exact k_ hn nb
    .exact b1 y hy) (by rw[Vl];lia) (by decide +kernel) (by decide))
   refine⟨[aG.lst ((bq 0 t.1).map .str)]++g',?_⟩;rw[<-Vs,<-fJ];refine head g' _ ?_;have tt:eh (a! (ah fA (ak gQ (ae (ah b5 (aa 0) (mC (.int 1))) ao)) (mC (.int 1)))) (a! (ah dr (aa 1) (bK ao))) [some (tV t),some (.loc st.length),y2] s1=.ok true (s1++[.lst []]):=by rw[eG,tN false q1,aq,eQ,eN,q2]
   rw[aw,e7 tt,es,az,aQ,jn];rfl
  .have q2:(bq 0 t.1).isEmpty=false:=by
    cases hh:bq 0 t.1 with
    |nil=>exact absurd hh hp
    |cons a r=>rfl
   rw[Vo ⟨EG,hp⟩];have jn:=mD (y:="*") (μ:=[some (tV t),some (.loc st.length),y2]) (me:=aa 1) (s:=s1++[.lst []]) (s1:=s1++[.lst []]) (n:=st.length) (xs:=bq 0 t.1) rfl (df (pA l1 _)) (joinOk_of (N:=4) b1 b3 (by decide +kernel) (by decide));refine⟨[aG.lst ((bq 0 t.1).map .str)]++[.lst []],?_⟩;rw[<-Vs,<-fJ];refine head [.lst []] _ ?_;have tt:eh (a! (ah fA (ak gQ (ae (ah b5 (aa 0) (mC (.int 1))) ao)) (mC (.int 1)))) (a! (ah dr (aa 1) (bK ao))) [some (tV t),some (.loc st.length),y2] s1=.ok false (s1++[.lst []]):=by rw[eG,tN false q1,aq,eQ,eN,q2]
   rw[aw,dD tt,az,aQ,jn];rfl
 .have q1:(!(n==1))=true:=by rw[WE EG];rfl
  rw[Vu (fun z=>EG z.1)];obtain⟨g',es,ls⟩:=Ob [];rw[VS]at es ls;have jn:=mD (y:="*") (μ:=[some (tV t),some (.loc (s1++[aG.lst [.str (bU n)]]).length),y2]) (me:=aa 1) (s:=s1++g') (s1:=s1++g') (n:=(s1++[aG.lst [.str (bU n)]]).length) (xs:=bU n::bq 0 t.1) rfl (df ls) (joinOk_of (B:=60) (N:=5) (fun y hy=>by
   rcases VG.mp hy with rfl|hy
   .exact k_ hn nb
   .exact b1 y hy) (by rw[Vl];lia) (by decide +kernel) (by decide))
  refine⟨[aG.lst ((bq 0 t.1).map .str)]++g',?_⟩;rw[<-Vs,<-fJ];refine head g' _ ?_;have tt:eh (a! (ah fA (ak gQ (ae (ah b5 (aa 0) (mC (.int 1))) ao)) (mC (.int 1)))) (a! (ah dr (aa 1) (bK ao))) [some (tV t),some (.loc st.length),y2] s1=.ok true s1:=by rw[eG,tN true q1,aq,kU]
  rw[aw,e7 tt,es,az,aQ,jn];rfl
theorem jo:∀xs:_z,cl (Txt.join "" xs)=(xs.map cl).flatten:=by
 have go:∀xs:_z,cl (PySem.Str.join "" xs)=(xs.map cl).flatten:=by
  intro xs
  induction xs with
  |nil=>rfl
  |cons a r ih=>
   cases r with
   |nil=>show cl a=cl a++[];rw[VS]
   |cons b r=>
    show cl (a ++ "" ++ PySem.Str.join "" (b::r))=cl a++((b::r).map cl).flatten;rw[gU,gU,ih];show cl a++[]++_=_;rw[VS]
 intro xs;unfold Txt.join;rw[XY];exact go xs
theorem D3(xs:_z)(a b:Str):Txt.join "" (xs++[a,b])=Txt.join "" xs++a++b:=fX (by
 rw[jo,gU,gU,jo,Wz,List.flatten_append];simp[Vs])
theorem G9(a b:Str):Txt.join "" [a,b]=a++b:=fX (by
 rw[jo,gU];simp)
theorem y_{xs:_z}{B:Nat}(h:∀y∈xs,y.length<=B):(Txt.join "" xs).length<=xs.length*B:=by
 rw[<-dY,jo]
 induction xs with
 |nil=>exact V' _
 |cons a r ih=>
  have h1:=h a Vt;have h2:=ih fun y hy=>h y (Vr _ hy);rw[Vp,WS,Vx,dY,Vl,Nat.add_mul];lia
abbrev Oc:MB:=aA (aE 3 (mC (.str " + "))) (aA (dq (a! (ah ltV (ah b5 (aa 2) (mC (.int 1))) (mC (.int 0)))) (aE 3 (mC (.str " - "))) aK) (aE 1 (ah bo (ah bo (aa 1) (aa 3)) (ak PM.dz (ae (aa 2) ao)))))
theorem G_{p:Nat}{x:Str}{t:bj}{y3:Option av}{s:aj}(w:Wr t)(hx:x.length<=1000000):∃g y,Oc [some (.loc p),some (.str x),some (tV t),y3] s=.nx [some (.loc p),some (.str (x++dA false t.2++b8 t.1 (cY t.2))),some (tV t),y] (s++g):=by
 obtain⟨g,e⟩:=nq w s;have sl:sizeLine=16777216:=VT;have tl:=k? w.len w.rg (gm t.2) w.nb;have sg:=y9 false t.2;have f1:aE 3 (mC (.str " + ")) [some (.loc p),some (.str x),some (tV t),y3] s=.nx [some (.loc p),some (.str x),some (tV t),some (.str " + ")] s:=rfl;have f2:dq (a! (ah ltV (ah b5 (aa 2) (mC (.int 1))) (mC (.int 0)))) (aE 3 (mC (.str " - "))) aK [some (.loc p),some (.str x),some (tV t),some (.str " + ")] s=.nx [some (.loc p),some (.str x),some (tV t),some (.str (dA false t.2))] s:=by
  have q:a! (ah ltV (ah b5 (aa 2) (mC (.int 1))) (mC (.int 0))) [some (.loc p),some (.str x),some (tV t),some (.str " + ")] s=.ok (decide (t.2<0)) s:=rfl;unfold dA;rw[Vu VC];by_cases h:t.2<0
  .rw[VF h]at q;rw[e7 q,Vo h];rfl
  .rw[VM h]at q;rw[dD q,Vu h]
 have f3:ah bo (ah bo (aa 1) (aa 3)) (ak PM.dz (ae (aa 2) ao)) [some (.loc p),some (.str x),some (tV t),some (.str (dA false t.2))] s=.ok (.str (x++dA false t.2++b8 t.1 (cY t.2))) (s++g):=by
  have a1:ah bo (aa 1) (aa 3) [some (.loc p),some (.str x),some (tV t),some (.str (dA false t.2))] s=.ok (.str (x++dA false t.2)) s:=by rw[aX (x:=.str x) (s1:=s) rfl (y:=.str (dA false t.2)) (s2:=s) rfl];show(if x.length+(dA false t.2).length<=sizeLine then _ else _)=_;rw[Vo (by lia)]
  have a2:ak PM.dz (ae (aa 2) ao) [some (.loc p),some (.str x),some (tV t),some (.str (dA false t.2))] s=.ok (.str (b8 t.1 (cY t.2))) (s++g):=by rw[aM (dP (v:=tV t) (s1:=s) rfl)];exact e
  rw[aX a1 a2];show(if(x++dA false t.2).length+(b8 t.1 (cY t.2)).length<=sizeLine then _ else _)=_;rw[Vo (by rw[W6];lia)]
 refine⟨g,some (.str (dA false t.2)),?_⟩;unfold Oc;rw[aw,f1,az,aw,f2,az,bJ f3];rfl
theorem D4{us:List av}(h:1<=us.length):w! us (some 1) none=us.drop 1:=by have e:(some (1:Int))=some ((1:Nat):Int):=rfl;unfold w!;rw[e,HT.BO,HT.Fc,show min 1 us.length=1 by lia,WI (by rw[XA];lia)]
theorem jq{p:Nat}{P:List bj}{st:aj}(h:au st p=some (P.map tV))(hl:P.length<=400)(hw:∀t∈P,Wr t):∃g,PM.bS [.loc p] st=.ok (.str (aY P)) (st++g):=by
 have sl:sizeLine=16777216:=VT;have run:PM.bS=fQ 1 4 (aA (dq (a! (ah dr (aa 0) (bK ao))) (a7 (mC (.str "0"))) aK) (aA (aE 1 (ak PM.dz (ae (ah b5 (aa 0) (mC (.int 0))) ao))) (aA (dq (a! (ah ltV (ah b5 (ah b5 (aa 0) (mC (.int 0))) (mC (.int 1))) (mC (.int 0)))) (aE 1 (ah bo (mC (.str "-")) (aa 1))) aK) (aA (dO (cQ (Kp (aa 0) (dw (mC (.int 1))) du)) (ay 2) Oc) (a7 (aa 1)))))):=rfl;have eN:a! (ah dr (aa 0) (bK ao)) [some (.loc p),none,none,none] st=.ok (P.map tV).isEmpty (st++[.lst []]):=by refine bI ?_;rw[aX (x:=.loc p) (s1:=st) rfl (gX (vs:=[]) (s1:=st) rfl (by decide)),eq_nil (aC h _) (aL st [])]
 cases P with
 |nil=>
  refine⟨[.lst []],?_⟩;rw[run,bb (np:=1) (us:=[.loc p]) rfl];show(aA (dq _ _ _) _ [some (.loc p),none,none,none] st).fin=_;rw[aw,e7 eN];rfl
 |cons t Q=>
  have w:=hw t Vt;have UY:Q.length+1<=400:=hl;have i1:=aC h [.lst []];obtain⟨s1,fJ⟩:∃s1,s1=st++[aG.lst []]:=⟨_,rfl⟩
  rw[<-fJ]at eN i1;obtain⟨g1,e1⟩:=nq w s1;have i2:=aC i1 g1;obtain⟨s2,gA⟩:∃s2,s2=s1++g1:=⟨_,rfl⟩
  rw[<-gA]at e1 i2;have tl:=k? w.len w.rg (gm t.2) w.nb;have f1:aE 1 (ak PM.dz (ae (ah b5 (aa 0) (mC (.int 0))) ao)) [some (.loc p),none,none,none] s1=.nx [some (.loc p),some (.str (b8 t.1 (cY t.2))),none,none] s2:=by
   have ix:ah b5 (aa 0) (mC (.int 0)) [some (.loc p),none,none,none] s1=.ok (tV t) s1:=by rw[aX (x:=.loc p) (s1:=s1) rfl (y:=.int 0) (s2:=s1) rfl];exact pz i1 (L2.jB (xs:=(t::Q).map tV) (j:=0) rfl)
   have c:ak PM.dz (ae (ah b5 (aa 0) (mC (.int 0))) ao) [some (.loc p),none,none,none] s1=.ok (.str (b8 t.1 (cY t.2))) s2:=by rw[aM (dP ix)];exact e1
   rw[bJ c];rfl
  have f2:dq (a! (ah ltV (ah b5 (ah b5 (aa 0) (mC (.int 0))) (mC (.int 1))) (mC (.int 0)))) (aE 1 (ah bo (mC (.str "-")) (aa 1))) aK [some (.loc p),some (.str (b8 t.1 (cY t.2))),none,none] s2=.nx [some (.loc p),some (.str (Txt.join "" (dR true [t]))),none,none] s2:=by
   have ix:ah b5 (aa 0) (mC (.int 0)) [some (.loc p),some (.str (b8 t.1 (cY t.2))),none,none] s2=.ok (tV t) s2:=by rw[aX (x:=.loc p) (s1:=s2) rfl (y:=.int 0) (s2:=s2) rfl];exact pz i2 (L2.jB (xs:=(t::Q).map tV) (j:=0) rfl)
   have q:a! (ah ltV (ah b5 (ah b5 (aa 0) (mC (.int 0))) (mC (.int 1))) (mC (.int 0))) [some (.loc p),some (.str (b8 t.1 (cY t.2))),none,none] s2=.ok (decide (t.2<0)) s2:=by
    have UZ:ah b5 (ah b5 (aa 0) (mC (.int 0))) (mC (.int 1)) [some (.loc p),some (.str (b8 t.1 (cY t.2))),none,none] s2=.ok (.int t.2) s2:=by rw[aX ix (y:=.int 1) (s2:=s2) rfl];rfl
    exact bI (by rw[aX UZ (y:=.int 0) (s2:=s2) rfl];rfl)
   show _=cg.nx [some (.loc p),some (.str (Txt.join "" [dA true t.2,b8 t.1 (cY t.2)])),none,none] s2;rw[G9];unfold dA;rw[Vo rfl];by_cases hn:t.2<0
   .rw[VF hn]at q;have a:ah bo (mC (.str "-")) (aa 1) [some (.loc p),some (.str (b8 t.1 (cY t.2))),none,none] s2=.ok (.str ("-" ++ b8 t.1 (cY t.2))) s2:=by
     rw[aX (x:=.str "-") (s1:=s2) rfl (y:=.str (b8 t.1 (cY t.2))) (s2:=s2) rfl];have l3:("-":Str).length=1:=by decide +kernel
     show(if("-":Str).length+(b8 t.1 (cY t.2)).length<=sizeLine then _ else _)=_;rw[Vo (by lia)]
    rw[e7 q,bJ a,Vo hn];rfl
   .rw[VM hn]at q;have e0:("":Str)++b8 t.1 (cY t.2)=b8 t.1 (cY t.2):=fX (by rw[gU];rfl);rw[dD q,Vu hn,e0]
  obtain⟨s3,ji⟩:∃s3,s3=s2++[aG.lst (Q.map tV)]:=⟨_,rfl⟩
  have i3:au s3 s2.length=some (Q.map tV):=by rw[ji];exact aL _ _
  have U0:Kp (aa 0) (dw (mC (.int 1))) du [some (.loc p),some (.str (Txt.join "" (dR true [t]))),none,none] s2=.ok (.loc s2.length) s3:=by have v0:aa 0 [some (.loc p),some (.str (Txt.join "" (dR true [t]))),none,none] s2=.ok (.loc p) s2:=rfl;have o1:dw (mC (.int 1)) [some (.loc p),some (.str (Txt.join "" (dR true [t]))),none,none] s2=.ok (some 1) s2:=rfl;rw[NK,v0,aq,QT,o1,aq,NL,C0,aq,NM,KG i2,D4 (by rw[Vn,Vl];lia),ji];rfl
  obtain⟨μ',ax,e,g,rfl,y2,y3,rfl⟩:=dy (g:=fun s'=>au s' s2.length=some (Q.map tV)) (a:=ay 2) (body:=Oc)
   (fun i μ s'=>∃g,s'=s3++g/\∃y2 y3,μ=[some (.loc p),some (.str (Txt.join "" (dR true (t::Q.take i)))),y2,y3])
   (Q.map tV) 0 [some (.loc p),some (.str (Txt.join "" (dR true [t]))),none,none] s3
   (by
    rintro i u μ s' hu ⟨g,rfl,y2,y3,rfl⟩;rw[Wb]at *;refine⟨aC i3 _,?_⟩;rw[VU]at hu;cases z:Q[i]? with
    |none=>rw[z]at hu;cases hu
    |some u=>
     rw[z]at hu;cases hu;have hi:i<Q.length:=(VW.mp z).1;have wu:=hw u (Vr _ (Xw z));have LY:=lg true (t::Q.take i) fun x hx=>by
      rcases VG.mp hx with rfl|hx
      .exact w
      .exact hw x (Vr _ (YW hx))
     have cl2:=y_ LY.1;have le:(dR true (t::Q.take i)).length<=802:=by rw[LY.2,Vl,Wm];lia
     have le2:(dR true (t::Q.take i)).length*305<=802*305:=Xo _ le;obtain⟨g2,y,eb⟩:=G_ (p:=p) (x:=Txt.join "" (dR true (t::Q.take i))) (y3:=y3) (s:=s3++g) wu (by lia);refine⟨[some (.loc p),some (.str (Txt.join "" (dR true (t::Q.take i)))),some (tV u),y3],rfl,_,_,.inl eb,g++g2,by rw[Vs],some (tV u),y,?_⟩;have tk:t::Q.take (i+1)=(t::Q.take i)++[u]:=by rw[Zq,z];rfl
     rw[tk,pU,D3];rfl)
   (fun μ s'⟨g,e,_⟩=>by rw[e];exact aC i3 _) ⟨[],(VS _).symm,none,none,rfl⟩
  rw[Wb,Vn,Yw]at e;have loop:dO (cQ (Kp (aa 0) (dw (mC (.int 1))) du)) (ay 2) Oc [some (.loc p),some (.str (Txt.join "" (dR true [t]))),none,none] s2=.nx [some (.loc p),some (.str (Txt.join "" (dR true (t::Q)))),y2,y3] (s3++g):=by rw[eT,dj,U0,aq,c5 i3,aB,gx];exact e
  have U1:aY (t::Q)=Txt.join "" (dR true (t::Q)):=by unfold aY;rw[Vu (by simp)]
  refine⟨[aG.lst []]++g1++[aG.lst (Q.map tV)]++g,?_⟩;rw[show st++([aG.lst []]++g1++[aG.lst (Q.map tV)]++g)=s3++g by rw[ji,gA,fJ];simp only[Vs],U1];rw[run,bb (np:=1) (us:=[.loc p]) rfl];show(aA (dq _ _ _) _ [some (.loc p),none,none,none] st).fin=_;rw[aw,dD eN,az,aw,f1,az,aw,f2,az,aw,loop,az];rfl
def asc(x:Str):Prop:=∀c∈cl x,c<128
def lh(c:Nat):Bool:=decide (48<=c)&&decide (c<=57)
def jr(x:Str):Bool:=decide (0<x.length)&&(cl x).all lh
def qz(x:Str):Int:=((PySem.NumText.digitsVal (cl x):Nat):Int)
theorem G!{x:Str}(h:asc x):x.cps.all (· < 128)=true:=by rw[Array.all_eq_true'];intro c hc;exact VF (h c (Array.mem_def.mp hc))
theorem G?(c:Nat):(!(Builtin.Str.occurrences ("0123456789":Str) ⟨#[c]⟩ 0 ("0123456789":Str).length 1).isEmpty)=lh c:=by
 rw[StrLaws.found_one];have e:("0123456789":Str).cps.toList=[48,49,50,51,52,53,54,55,56,57]:=by decide +kernel
 rw[e];unfold lh;rw[XX];simp only[Wj,Wy,VG,Xz,Yp];omega
theorem D5{α:Type}(f:α->Bool):∀us:List α,g! (us.map fun u=>av.bl (f u))=some (us.map f)
 |[]=>rfl
 |u::us=>by rw[Vp,Vp];unfold g!;rw[D5 f us];rfl
theorem y!{x:Str}(ha:asc x)(hl:x.length<=100000)(st:aj):∃g,PM.c8 [.str x] st=.ok (.bl (jr x)) (st++g):=by
 have sz:x.length<=sizeLine:=by rw[VT];lia
 have ln:∀s,b9 [.str x] s=.ok (.int (x.length:Int)) s:=fun s=>by unfold b9;dsimp only;rw[Vo sz]
 have v0:∀s,aa 0 [some (av.str x)] s=.ok (.str x) s:=fun _=>rfl;have cp:∀(l:List Nat)(y:Option av)(ys:List av),bQ (fun _=>True) (ay 0) bf (ah N5 (aa 0) (mC (.str "0123456789"))) (l.map fun c=>av.str ⟨#[c]⟩) [y] st ys=.ok (ys++l.map fun c=>av.bl (lh c)) st:=by
  intro l
  induction l with
  |nil=>intro y ys;rw[VO,y7 trivial];simp
  |cons c l ih=>
   intro y ys;rw[Vp,tH (y:=.bl (lh c)) (τ1:=[some (.str ⟨#[c]⟩)]) (st1:=st) (st2:=st) trivial rfl rfl (by
    show cX.ok (av.bl (!(Builtin.Str.occurrences ("0123456789":Str) ⟨#[c]⟩ 0 ("0123456789":Str).length 1).isEmpty)) st=_;rw[G?]),ih]
   simp
 have tx:pG (aa 0) [some (av.str x)] st=.ok ((La x).map .str,fun _=>True) st:=by unfold pG;rw[v0];show(if x.cps.all (· < 128)=true then _ else _)=_;rw[Vo (G! ha)]
 have ec:(La x).map av.str=(cl x).map fun c=>av.str ⟨#[c]⟩:=by unfold La;rw[V6];rfl
 have comp:bV 1 [] (pG (aa 0)) (ay 0) bf (ah N5 (aa 0) (mC (.str "0123456789"))) [some (.str x)] st=.ok (.loc st.length) (st++[.lst ((cl x).map fun c=>av.bl (lh c))]):=by rw[d6,tx,aq,fE,ec,Vo (by rw[Vn,dY];exact sz)];show((bQ _ _ _ _ _ [none] st []).fR u_)=_;rw[cp,aq,g?,VA]
 have al:l8 [.loc st.length] (st++[.lst ((cl x).map fun c=>av.bl (lh c))])=.ok (.bl ((cl x).all lh)) (st++[.lst ((cl x).map fun c=>av.bl (lh c))]):=by unfold l8;dsimp only;rw[aL];dsimp only;rw[D5];dsimp only;rw[YY];rfl
 unfold jr;cases q:decide (0<x.length) with
 |false=>
  have q':decide ((0:Int)<(x.length:Int))=false:=by rw[WC]at q⊢;lia
  exact⟨[],by rw[VS];simp only[PM.c8,bb,aq,aB,bA,aS,bw,aP,Gg,bh,aO,b?,cF,jc,bB,aN,bF,aQ,q_,eU,Vp,VO,VP,VA,Vz,Nat.reduceSub,Vl,VH,Nat.reduceAdd,ln,q'];rfl⟩
 |true=>
  have q':decide ((0:Int)<(x.length:Int))=true:=by rw[Wj]at q⊢;lia
  exact⟨[.lst ((cl x).map fun c=>av.bl (lh c))],by
   unfold PM.c8;generalize bV 1 [] (pG (aa 0)) (ay 0) bf (ah N5 (aa 0) (mC (.str "0123456789")))=Z at comp⊢;simp only[bb,aq,aB,bA,aS,bw,aP,iF,bh,aO,b?,cF,jc,bB,aN,bF,aQ,q_,eU,Vp,VO,VP,VA,Vz,Nat.reduceSub,Vl,VH,Nat.reduceAdd,ln,q',comp,al];rfl⟩
theorem vL{x:Str}(h:jr x=true):PySem.NumText.AllDigits (cl x)/\cl x≠[]:=by
 unfold jr at h;rw[Wy]at h;refine⟨fun c hc=>?_,fun z=>?_⟩
 .have:=Wv.mp h.2 c hc;unfold lh at this;simpa using this
 .have h1:=We h.1;rw[<-dY,z]at h1;exact absurd h1 (by decide)
theorem y?{x:Str}(h:jr x=true)(hl:x.length<=640)(s:aj):qw [.str x] s=.ok (.int (qz x)) s:=by obtain⟨h1,h2⟩:=vL h;unfold qw;dsimp only;rw[Vo hl,PySem.intText_digits h1 h2 (by lia)];rfl
def iL(ks:List Nat)(x:Str):Option Nat:=ks.find? fun i=>iJ i==x
abbrev Od:MB:=dq (a! (ah dr (ah Bs (mC PM.eR) (aa 2)) (aa 1))) (a7 (aa 2)) aK
theorem zd{m:Int}{x:Str}{st:aj}:∀(ks:List Nat)(y:Option av),(∀k∈ks,k<4)->∃y',forL (fun _=>True) (ay 2) Od (ks.map fun(i:Nat)=>av.int (i:Int)) [some (.int m),some (.str x),y] st=(match iL ks x with|some i=>.rt (.int (i:Int)) st|none=>.nx [some (.int m),some (.str x),y'] st)
 |[],y,_=>⟨y,by
  rw[VO];unfold forL;rw[Vo trivial];rfl⟩
 |k::ks,y,h=>by
  obtain⟨y',ih⟩:=zd (m:=m) (x:=x) (st:=st) ks (some (.int (k:Int))) fun j hj=>h j (Vr _ hj);refine⟨y',?_⟩;have ix:ah Bs (mC PM.eR) (aa 2) [some (.int m),some (.str x),some (.int (k:Int))] st=.ok (.str (iJ k)) st:=by rw[aX (x:=PM.eR) (s1:=st) rfl (y:=.int (k:Int)) (s2:=st) rfl];exact DZ (h k Vt) st
  have t:a! (ah dr (ah Bs (mC PM.eR) (aa 2)) (aa 1)) [some (.int m),some (.str x),some (.int (k:Int))] st=.ok (iJ k==x) st:=bI (by
   rw[aX ix (y:=.str x) (s2:=st) rfl];exact jT)
  have a:ay 2 (.int (k:Int)) [some (.int m),some (.str x),y]=some [some (.int m),some (.str x),some (.int (k:Int))]:=rfl;rw[Vp];unfold forL;rw[Vo trivial,a];dsimp only;unfold iL;rw[WV];cases q:iJ k==x with
  |true=>
   rw[q]at t;unfold Od;rw[e7 t];rfl
  |false=>
   rw[q]at t;have e:Od [some (.int m),some (.str x),some (.int (k:Int))] st=.nx [some (.int m),some (.str x),some (.int (k:Int))] st:=by unfold Od;rw[dD t]
   rw[e];exact ih
theorem kX{ai:Nat}(hm:ai<=4)(x:Str)(st:aj):PM.cJ [.int (ai:Int),.str x] st=(match iL (List.range ai) x with|some i=>.ok (.int (i:Int)) st|none=>.err "NotWritten" st):=by
 obtain⟨y',e⟩:=zd (m:=(ai:Int)) (x:=x) (st:=st) (List.range ai) none fun k hk=>by rw[X6]at hk;lia
 have r:bE (ae (aa 0) ao) [some (.int (ai:Int)),some (.str x),none] st=.ok (aW 0 ((ai:Nat):Int).toNat,fun _=>True) st:=mw (dP (v:=.int (ai:Int)) (s1:=st) rfl) (by lia) (by lia);have rl:aW 0 ((ai:Nat):Int).toNat=(List.range ai).map fun(i:Nat)=>av.int (i:Int):=by unfold aW;show(List.range ai).map (fun(i:Nat)=>av.int (0+(i:Int)))=_;refine Wx fun i _=>?_;rw[YO]
 rw[rl]at r;unfold PM.cJ;rw[bb (np:=2) (us:=[.int (ai:Int),.str x]) rfl];show(aA (dO (bE (ae (aa 0) ao)) (ay 2) Od) (eB "NotWritten" (ae (mC (.str "a term is of figures and of the letters of the unknowns")) ao)) [some (.int (ai:Int)),some (.str x),none] st).fin=_;rw[aw,eT,r,aB,gx,e];cases iL (List.range ai) x with
 |some i=>rfl
 |none=>rfl
def dh(x:Str):Str:=Txt.slice x (some 1) none
def rF(x:Str):Str:=Txt.slice x none (some 1)
def xK(x:Str):Option Int:=if x = "" then some 1 else if(cl x).head?=some 94/\jr (dh x)=true/\(dh x).length<=2 then some (qz (dh x))else none
theorem pW{x:Str}(h:asc x):asc (dh x):=fun c hc=>by unfold dh at hc;rw[iI]at hc;exact h c (List.mem_of_mem_drop hc)
theorem pX(x:Str):(dh x).length<=x.length:=Yu x _ _
theorem str_beq{x y:Str}:(x==y)=decide (x=y):=by
 by_cases h:x=y
 .rw[VF h,h,Wu]
 .rw[VM h,WE h]
theorem G'{x:Str}(ha:asc x)(hl:x.length<=100000)(st:aj):∃g,PM.aU [.str x] st=(match xK x with|some e=>.ok (.int e) (st++g)|none=>.err "NotWritten" (st++g)):=by
 have sl:sizeLine=16777216:=VT;have tl:=pX x;unfold xK;by_cases h0:x = ""
 .have q0:(x==("":Str))=true:=by rw[str_beq,VF h0]
  rw[Vo h0];refine⟨[],?_⟩;rw[VS];unfold PM.aU;generalize fW (aa 0) (dw (mC (.int 1))) du=Z;simp only[bb,aq,aB,fk,bA,aS,bw,aP,b?,c!,cF,ba,a8,aw,aQ,bx,jT,eU,Vp,VO,VP,VA,VV,Vz,Nat.reduceSub,Vl,VH,Nat.reduceAdd,q0]
 .have q0:(x==("":Str))=false:=by rw[str_beq,VM h0]
  rw[Vu h0];obtain⟨c,r,hc⟩:∃c r,cl x=c::r:=by
   cases hh:cl x with
   |nil=>exact absurd (fX hh) h0
   |cons c r=>exact⟨c,r,rfl⟩
  have s1:fW (aa 0) (dw (mC (.int 1))) du [some (.str x),none] st=.ok (.str (dh x)) st:=yY (l:=some 1) (h:=none) rfl rfl rfl (by lia);have ix:∀s,b5 (.str x) (.int 0) s=.ok (.str ⟨#[c]⟩) s:=fun s=>by unfold b5;dsimp only;rw[Vo (by lia)];have:L2.m5 x.cps.toList ((0:Nat):Int)=some c:=L2.jB (by show(cl x)[0]?=_;rw[hc];rfl);have Oe:L2.m5 x.cps.toList 0=some c:=this;rw[Oe]
  have q1:(!((⟨#[c]⟩:Str)==("^":Str))) = !decide (c=94):=by
   rw[str_beq];congr 2;refine propext ⟨fun h=>?_,fun h=>?_⟩
   .have:=W' cl h;have e:cl ("^":Str)=[94]:=by decide +kernel
    rw[e]at this;injection this
   .subst h;exact fX (by decide +kernel)
  have hd:(cl x).head?=some 94↔c=94:=by rw[hc];simp
  obtain⟨g,f⟩:=y! (pW ha) (by lia) st;have ln:∀s,b9 [.str (dh x)] s=.ok (.int ((dh x).length:Int)) s:=fun s=>by unfold b9;dsimp only;rw[Vo (by lia)]
  by_cases Ha:c=94
  .have Of:(!((⟨#[c]⟩:Str)==("^":Str)))=false:=by rw[q1,VF Ha];rfl
   by_cases hf:jr (dh x)=true
   .rw[hf]at f;by_cases h2:(dh x).length<=2
    .rw[Vo ⟨hd.mpr Ha,hf,h2⟩];have q3:decide ((2:Int)<((dh x).length:Int))=false:=VM (by lia);have it:=y? hf (by lia) (st++g);refine⟨g,?_⟩;unfold PM.aU;generalize fW (aa 0) (dw (mC (.int 1))) du=Z at s1⊢;simp only[bb,aq,aB,az,bA,aS,bw,aP,eQ,sQ,bh,aO,b?,cS,f_,cF,ba,a8,eG,gG,bB,aN,bF,aw,cR,aQ,bx,da,q_,jT,ng,eU,cq,Vp,VO,VP,VA,VV,Vz,V1,V9,Nat.reduceSub,Vl,VH,Nat.reduceAdd,Ya,q0,s1,ix,Of,f,ln,q3,it]
    .rw[Vu (fun z=>h2 z.2.2)];have q3:decide ((2:Int)<((dh x).length:Int))=true:=VF (by lia);refine⟨g,?_⟩;unfold PM.aU;generalize fW (aa 0) (dw (mC (.int 1))) du=Z at s1⊢;simp only[bb,aq,aB,az,pj,pk,aS,bw,aP,eQ,sQ,bh,aO,c!,cS,f_,oy,cF,ba,a8,eG,gG,bB,aN,bF,aw,cR,bx,da,kW,q_,jT,ng,eU,cq,Vp,VO,VP,VA,VV,Vz,V1,V9,Nat.reduceSub,Vl,VH,Nat.reduceAdd,Ya,VT,Nat.reduceLeDiff,↓reduceIte,q0,s1,ix,Of,f,ln,q3]
   .rw[Vu (fun z=>hf z.2.1)];have U2:jr (dh x)=false:=by simpa using hf
    rw[U2]at f;refine⟨g,?_⟩;unfold PM.aU;generalize fW (aa 0) (dw (mC (.int 1))) du=Z at s1⊢;simp only[bb,aq,aB,az,pj,pk,aS,bw,aP,kU,eQ,sQ,bh,aO,c!,cS,f_,oy,cF,ba,a8,eG,gG,bB,aN,bF,aw,cR,bx,da,kW,jT,ng,eU,cq,Vp,VO,VP,VA,VV,Vz,V1,V9,Nat.reduceSub,Vl,VH,Nat.reduceAdd,Bool.not_false,VT,Nat.reduceLeDiff,↓reduceIte,q0,s1,ix,Of,f]
  .have Of:(!((⟨#[c]⟩:Str)==("^":Str)))=true:=by rw[q1,VM Ha];rfl
   rw[Vu (fun z=>Ha (hd.mp z.1))];refine⟨[],?_⟩;rw[VS];unfold PM.aU;generalize fW (aa 0) (dw (mC (.int 1))) du=Z at s1⊢;simp only[bb,aq,aB,az,pj,pk,aS,bw,aP,kU,bh,aO,c!,cS,f_,oy,cF,ba,a8,eG,bB,aN,aw,cR,bx,da,kW,jT,ng,eU,Vp,VO,VP,VA,VV,Vz,V1,V9,Nat.reduceSub,Vl,VH,Nat.reduceAdd,VT,Nat.reduceLeDiff,↓reduceIte,q0,s1,ix,Of]
end PG
namespace PG
open PySem.Spec L2 MN
open PyProof.Rows hiding St kindOf
def gF(A:List bj)(t:bj):List bj:=gW A t.1 (cz A t.1+t.2)
theorem A?{A:List bj}{k:_v}(h:k ∉ A.map (·.1)):cz A k=0:=by
 unfold cz;have:(A.find? fun p=>decide (p.1=k))=none:=by rw[Zj];intro p hp z;exact h (VY.mpr ⟨p,hp,We z⟩)
 rw[this];rfl
theorem D6{A:List bj}{k:_v}(v:Int)(h:k ∉ A.map (·.1)):gW A k v=A++[(k,v)]:=by unfold gW;rw[Vu fun z=>h (yR.mp z)]
theorem Lu{A P:List bj}{t:bj}(h:((A++t::P).map (·.1)).Nodup):t.1 ∉ A.map (·.1)/\((A++[t]++P).map (·.1)).Nodup:=by refine⟨?_,by rw[Vs];exact h⟩;rw[Wz,Vp,List.nodup_append]at h;exact fun m=>h.2.2 _ m _ Vt rfl
theorem rG:∀(P A:List bj),((A++P).map (·.1)).Nodup->P.foldl gF A=A++P
 |[],A,_=>by rw[VS];rfl
 |t::P,A,h=>by have n:=Lu h;show P.foldl gF (gF A t)=_;unfold gF;rw[A? n.1,D6 _ n.1,YO];have:=rG P (A++[t]) n.2;rw[Vs]at this;exact this
theorem mE{D:List bj}(h:(D.map (·.1)).Nodup):cU D=D:=rG D [] h
def Og(r:Int)(L:List bj):List bj:=(L.map fun t=>(t.1,cZ r t.2)).filter fun t=>t.2 !=0
theorem tK{D:List bj}(nd:(D.map (·.1)).Nodup){t:bj}(ht:t∈D):cz D t.1=t.2:=by
 have m:=vF (A:=D) (k:=t.1) (VY.mpr ⟨t,ht,rfl⟩);have:(t.1,cz D t.1)=t:=by
  have inj:∀a∈D,∀b∈D,a.1=b.1->a=b:=by
   intro a ha b hb e;have p:=Xx.mp nd;exact Classical.byContradiction fun ne=>by
    rcases YX.mp ha with⟨i,hi,rfl⟩
    rcases YX.mp hb with⟨j,hj,rfl⟩
    have q:=Ym.mp p;rcases Z9 i j with c|c|c
    .exact q i j hi hj c e
    .subst c;exact ne rfl
    .exact q j i hj hi c e.symm
  exact inj _ m _ ht rfl
 exact W' (·.2) this
theorem mF{r:Int}{D:List bj}(f:SO.e_ (D.map (·.1))):bM r D=Og r D:=by
 have nd:=dU f;have e:iP (D.map (·.1))=D.map (·.1):=vn (fq _) (mr nd) f;have:nK D=D:=by
  unfold nK;rw[e,V6];have:D.map ((fun k=>(k,cz D k)) ∘ fun t=>t.1)=D.map id:=Wx fun t ht=>by show(t.1,cz D t.1)=t;rw[tK nd ht]
  rw[this,ZL]
 unfold bM Og;rw[this]
theorem xM(r:Int){A:List bj}(nd:(A.map (·.1)).Nodup):SO.e_ ((bM r A).map (·.1)):=by
 rw[<-pR];unfold A_;rw[List.filter_map,V6];have:(((iP (A.map (·.1))).filter ((fun t=>t.2 !=0) ∘ fun k=>(k,cZ r (cz A k)))).map ((fun t=>t.1) ∘ fun k=>(k,cZ r (cz A k))))=(iP (A.map (·.1))).filter ((fun t:bj=>t.2 !=0) ∘ fun k=>(k,cZ r (cz A k))):=by have:((fun t:bj=>t.1) ∘ fun k:_v=>(k,cZ r (cz A k)))=id:=rfl;rw[this,ZL]
 rw[this];exact List.Pairwise.sublist List.filter_sublist (mr nd)
theorem pZ{B:Int}(b0:0<=B):∀(P A:List bj)(m:Nat),(∀t∈P,-B<=t.2/\t.2<=B)->(∀t∈A,-(m*B)<=t.2/\t.2<=m*B)->∀t∈P.foldl gF A,-((m+P.length:Nat)*B)<=t.2/\t.2<=(m+P.length:Nat)*B
 |[],A,m,_,h=>h
 |p::P,A,m,hp,h=>by
  have e:((m+1:Nat):Int)*B=m*B+B:=by rw[Int.natCast_add,Int.add_mul];simp
  have mb:0<=(m:Int)*B:=Zk (Z4 _) b0;have q:=hp p Vt;have ih:=pZ b0 P (gF A p) (m+1) (fun t ht=>hp t (Vr _ ht)) (fun t ht=>by
   rw[e];rcases pP ht with ht|rfl
   .have:=h t ht;lia
   .have:=xH (k:=p.1) mb h;dsimp only;lia)
  intro t ht;have:=ih t ht;rw[Vl,show m+(P.length+1)=m+1+P.length by lia];exact this
theorem xN{B:Int}(b0:0<=B){P:List bj}(hp:∀t∈P,-B<=t.2/\t.2<=B):∀t∈cU P,-(P.length*B)<=t.2/\t.2<=P.length*B:=by have:=pZ b0 P [] 0 hp (fun t ht=>by cases ht);rw[Wb]at this;exact this
theorem xO{r n C:Int}(hr:0<=r)(hC:r<=C)(h:-C<=n/\n<=C):-C<=cZ r n/\cZ r n<=C:=by
 unfold cZ;split
 .exact h
 .have:=f? (m:=r) (by lia) n;lia
theorem lq{r:Int}{A:List bj}{t:bj}(h:t∈bM r A):∃q∈A,t.1=q.1/\t.2=cZ r q.2:=by unfold bM at h;obtain⟨u,hu,rfl⟩:=VY.mp (XM.mp h).1;unfold nK at hu;obtain⟨k,hk,rfl⟩:=VY.mp hu;exact⟨_,vF ((fq _).mem_iff.mp hk),rfl,rfl⟩
theorem D7(r:Int)(A:List bj):(bM r A).length<=A.length:=by rw[<-pR];refine VR (yV _ _ _) ?_;rw[(fq _).length_eq,Vn];exact Vq _
structure U3(ai:Nat)(D:List bj)(C:Int):Prop where
 vM:SO.e_ (D.map (·.1))
 len:∀t∈D,t.1.length=ai
 big:∀t∈D,-C<=t.2/\t.2<=C
theorem Hb{r B:Int}{ai:Nat}{P:List bj}(b0:0<=B)(hr:0<=r)(hl:∀t∈P,t.1.length=ai)(hb:∀t∈P,-B<=t.2/\t.2<=B):U3 ai (bM r (cU P)) (P.length*B+r):=by
 have ga:=hV P;refine⟨xM r ga.1,fun t ht=>?_,fun t ht=>?_⟩
 .obtain⟨q,hq,e1,_⟩:=lq ht;obtain⟨w,hw,e⟩:=VY.mp (ga.2.2 q hq);rw[e1,<-e];exact hl w hw
 .obtain⟨q,hq,_,e2⟩:=lq ht;have:=xN b0 hb q hq;have pb:0<=(P.length:Int)*B:=Zk (Z4 _) b0;rw[e2];exact xO hr (by lia) (by lia)
theorem D8{ai:Nat}(h1:1<=ai){k:_v}(h:k.length=ai):k≠[]:=fun z=>by rw[z]at h;simp at h;lia
section
variable{r:Int}{p q ai:Nat}{D P:List bj}{C:Int}{st:aj}
end
section
variable{ai:Nat}{s:aj}
end
section
variable{μ:MN.Env}{s s1:aj}{a m:ME}{k:Int}{x:av}
end
section
variable{r n C:Int}{p q ai:Nat}{D P:List bj}{st:aj}
end
section
variable{r n C:Int}{p q ai:Nat}{D P:List bj}{st:aj}
theorem Ih{μ:MN.Env}{a m:ME}{s s1:aj}{k:Nat}{L:List bj}(ha:a μ s=.ok (.int r) s)(hm:m μ s=.ok (.loc k) s1)(h:au s1 k=some (L.map tV))(hl:L.length<1000000)(ne:∀t∈L,t.1≠[]):
  ∃c1 c3,ak PM.dH (ae a (ae m ao)) μ s=.ok (.loc (s1.length+1)) (s1++[c1,.lst ((bM r (cU L)).map tV),c3])/\(s1++[c1,.lst ((bM r (cU L)).map tV),c3])[s1.length+1]?=some (.lst ((bM r (cU L)).map tV)):=by
 obtain⟨c1,c3,e⟩:=nL (r:=r) h hl ne;refine⟨c1,c3,?_,?_⟩
 .rw[aM (iT ha hm),e]
 .rw[VJ (by lia),show s1.length+1-s1.length=1 by lia];rfl
end
theorem vN(r:Int)(L:List bj):(bM r (cU L)).length<=L.length:=VR (D7 r _) (hV L).2.1
section
variable{r n C:Int}{p q ai:Nat}{D P:List bj}
end
theorem rH{a:AS}{e:ME}(I:Nat->MN.Env->aj->List av->Prop):∀(us:List av)(k:Nat)(τ:MN.Env)(st:aj)(ys:List av),
  (∀(i:Nat)(u:av)(τ:MN.Env)(st:aj)(ys:List av),us[i]?=some u->I (k+i) τ st ys->∃τ1,a u τ=some τ1/\∃y st2,e τ1 st=.ok y st2/\I (k+i+1) τ1 st2 (ys++[y]))->I k τ st ys ->
  ∃τ' KR ax,bQ (fun _=>True) a bf e us τ st ys=.ok KR ax/\I (k+us.length) τ' ax KR
 |[],k,τ,st,ys,_,h=>⟨τ,ys,st,by unfold bQ;rw[Vo trivial],h⟩
 |u::us,k,τ,st,ys,hs,h=>by
  obtain⟨τ1,h1,y,st2,h2,h3⟩:=hs 0 u τ st ys rfl h;obtain⟨τ',KR,ax,e',h'⟩:=rH (a:=a) (e:=e) I us (k+1) τ1 st2 (ys++[y]) (fun i u τ st ys hu hI=>by
   have:=hs (i+1) u τ st ys hu;rw[show k+(i+1)=k+1+i by lia]at this;exact this hI) h3
  refine⟨τ',KR,ax,?_,by rw[Vl,show k+(us.length+1)=k+1+us.length by lia];exact h'⟩;unfold bQ;rw[Vo trivial,h1];show(match e τ1 st with
   |.ok y st2=>bQ (fun _=>True) a bf e us τ1 st2 (ys++[y])
   |.err _ _=>.bad
   |.bad=>.bad)=_
  rw[h2];exact e'
section
variable{L:nE}{mb:ME}{u x:av}{n:Nat}
end
theorem D9(n:Int):cZ 0 n=n:=Vo rfl
theorem D_{r:Int}(h:0<r)(n:Int):cZ r n=n % r:=by unfold cZ;rw[Vu (by lia),X9 n (by lia)]
theorem zg{r:Int}(hr:fu r=true):r=0\/(2<=r/\r<=997):=by
 unfold fu at hr;rcases Ze _ _ |>.mp hr with h|h
 .exact .inl (by simpa using h)
 .have:=A4 h;exact .inr (by lia)
section
variable{r:Int}
end
theorem rK{a b:Nat}{i j:Int}(h:kE a i)(k:kE b j)(ha:a<=1000000)(hb:b<=1000000):MulOk i j:=.inl ⟨Sz.of h ha,Sz.of k hb⟩
section
variable{r x:Int}{M:Gd}
end
end PG
namespace PG
open PySem.Spec L2 MN TX
open PyProof.Rows hiding St kindOf
theorem xP:∀(cs:List Nat)(a:Nat),(∀c∈cs,48<=c/\c<=57)->cs.foldl (fun acc c=>acc*10+(c-48)) a+1<=(a+1)*10 ^ cs.length
 |[],a,_=>by simp
 |c::cs,a,h=>by have ih:=xP cs (a*10+(c-48)) fun d hd=>h d (Vr _ hd);have hc:=h c Vt;rw[_i,Vl,Nat.pow_succ,Nat.mul_comm (10 ^ cs.length) 10,<-Nat.mul_assoc];exact VR ih (Xo _ (by lia))
theorem Hc{x:Str}(h:jr x=true):kE (4*x.length) (qz x):=by
 obtain⟨h1,_⟩:=vL h;have z:=xP (cl x) 0 h1;rw[Wb,Nat.one_mul,dY]at z;unfold kE qz;rw[Int.natAbs_natCast];have e:(2:Nat) ^ (4*x.length)=16 ^ x.length:=by rw[Nat.pow_mul]
 rw[e];have:(10:Nat) ^ x.length<=16 ^ x.length:=Nat.pow_le_pow_left (by decide) _;exact VL z this
def vO(ai:Nat)(a:bj)(f:Str):Option bj:=if jr f=true then some (a.1,a.2*qz f)else match xK (dh f) with
 |some e=>match iL (List.range ai) (rF f) with
  |some i=>some (a.1.set i e,a.2)
  |none=>none
 |none=>none
def lu(ai:Nat):bj->_z->Option bj
 |a,[]=>some a
 |a,f::fs=>match vO ai a f with
  |some b=>lu ai b fs
  |none=>none
def pairF(ai:Nat)(sg w:Str):Option bj:=if sg = "+" \/ sg = "-" then lu ai (List.replicate ai 0,if sg = "-" then -1 else 1) (Txt.split w "*")else none
abbrev EM:MB:=dq (a! (ak PM.c8 (ae (aa 5) ao))) (aE 3 (ah cN (aa 3) (ak qw (ae (aa 5) ao)))) (yD (aa 4) (ak PM.cJ (ae (aa 0) (ae (fW (aa 5) du (dw (mC (.int 1)))) ao))) (ak PM.aU (ae (fW (aa 5) (dw (mC (.int 1))) du) ao)))
theorem tM{a b:List aG}{n:Nat}{c:aG}(h:n<a.length):(a++b).set n c=a.set n c++b:=List.set_append_left n c h
theorem Hd{ai q:Nat}{x1 x2:Option av}{a:bj}{f:Str}{s:aj}(hm:ai<=4)(hf:asc f)(hl:f.length<=640)(hq:s[q]?=some (.lst (a.1.map .int)))(la:a.1.length=ai){k:Nat}(hb:kE k a.2)(hk:k<=900000):
  ∃g,match vO ai a f with
   |some b=>EM [some (.int (ai:Int)),x1,x2,some (.int a.2),some (.loc q),some (.str f)] s=.nx [some (.int (ai:Int)),x1,x2,some (.int b.2),some (.loc q),some (.str f)] ((s++g).set q (.lst (b.1.map .int)))/\b.1.length=ai/\kE (k+4*f.length) b.2
   |none=>∃μ',EM [some (.int (ai:Int)),x1,x2,some (.int a.2),some (.loc q),some (.str f)] s=.er "NotWritten" μ' (s++g):=by
 obtain⟨μ,hμ⟩:∃μ:MN.Env,μ=[some (.int (ai:Int)),x1,x2,some (.int a.2),some (.loc q),some (.str f)]:=⟨_,rfl⟩
 have sl:sizeLine=16777216:=VT;have v0:∀s,aa 0 μ s=.ok (.int (ai:Int)) s:=fun s=>by rw[hμ];rfl
 have v3:∀s,aa 3 μ s=.ok (.int a.2) s:=fun s=>by rw[hμ];rfl
 have v4:∀s,aa 4 μ s=.ok (.loc q) s:=fun s=>by rw[hμ];rfl
 have v5:∀s,aa 5 μ s=.ok (.str f) s:=fun s=>by rw[hμ];rfl
 obtain⟨g,ff⟩:=y! hf (by lia) s;have tf:a! (ak PM.c8 (ae (aa 5) ao)) μ s=.ok (jr f) (s++g):=bI (by rw[aM (dP (v5 s))];exact ff);have D2:q<s.length:=(VW.mp hq).1;unfold vO;rw[<-hμ];by_cases LZ:jr f=true
 .rw[Vo LZ];rw[LZ]at tf;have vb:=Hc LZ;have it:ak qw (ae (aa 5) ao) μ (s++g)=.ok (.int (qz f)) (s++g):=by rw[aM (dP (v5 _))];exact y? LZ hl _
  have mu:ah cN (aa 3) (ak qw (ae (aa 5) ao)) μ (s++g)=.ok (.int (a.2*qz f)) (s++g):=by rw[aX (v3 _) it];exact sT (rK hb vb (by lia) (by lia))
  refine⟨g,?_,la,hb.mul vb⟩;unfold EM;rw[e7 tf,bJ mu];have e1:(s++g).set q (.lst (a.1.map .int))=s++g:=by
   rw[tM D2];congr 1;apply WT;intro j;by_cases hj:q=j
   .subst hj;rw[V_ D2,hq]
   .rw[Wi hj]
  rw[e1,hμ];rfl
 .rw[Vu LZ];have Rr:jr f=false:=by simpa using LZ
  rw[Rr]at tf;obtain⟨g2,ex⟩:=G' (pW hf) (VR (pX f) (by lia)) (s++g);have st:fW (aa 5) (dw (mC (.int 1))) du μ (s++g)=.ok (.str (dh f)) (s++g):=yY (l:=some 1) (h:=none) (v5 _) rfl rfl (by lia);have sh:∀s,fW (aa 5) du (dw (mC (.int 1))) μ s=.ok (.str (rF f)) s:=fun s=>yY (l:=none) (h:=some 1) (v5 _) rfl rfl (by lia);have cx:ak PM.aU (ae (fW (aa 5) (dw (mC (.int 1))) du) ao) μ (s++g)=(match xK (dh f) with|some e=>.ok (.int e) (s++g++g2)|none=>.err "NotWritten" (s++g++g2)):=by rw[aM (dP st)];exact ex
  have cp:ak PM.cJ (ae (aa 0) (ae (fW (aa 5) du (dw (mC (.int 1)))) ao)) μ (s++g++g2)=(match iL (List.range ai) (rF f) with|some i=>.ok (.int (i:Int)) (s++g++g2)|none=>.err "NotWritten" (s++g++g2)):=by rw[aM (iT (v0 _) (sh _))];exact kX hm _ _
  refine⟨g++g2,?_⟩;rw[<-Vs];unfold EM;cases he:xK (dh f) with
  |none=>
   rw[he]at cx;refine⟨μ,?_⟩;rw[bx,tf,aB,cS,sU,cx];rfl
  |some e=>
   rw[he]at cx;dsimp only at cx⊢;cases hp:iL (List.range ai) (rF f) with
   |none=>
    rw[hp]at cp;refine⟨μ,?_⟩;rw[bx,tf,aB,cS,sU,cx,aB,NN,v4,aB,H9,cp];rfl
   |some i=>
    rw[hp]at cp;dsimp only at cp⊢;have hi:i<ai:=by unfold iL at hp;exact X6.mp (Yn hp)
    have Pc:(s++g++g2)[q]?=some (.lst (a.1.map .int)):=cT (cT hq g) g2;have sf:=Gw (v:=.int e) (k:=(i:Int)) (j:=i) Pc (GW (by rw[Vn,la];exact hi));refine⟨?_,by rw[W7];exact la,hb.mono (by lia)⟩;rw[bx,tf,aB,cS,sU,cx,aB,NN,v4,aB,H9,cp,aB,NO,sf,C3,hμ,List.map_set]
def qA(fs:_z):Nat:=(fs.map (·.length)).sum
theorem vP{ai q k:Nat}{x1 x2:Option av}{F:_z}(hm:ai<=4)(Tb:k≠q):∀(fs:_z)(a:bj)(y:Option av)(s:aj)(b:Nat),(∀f∈fs,asc f/\f.length<=640)->s[q]?=some (.lst (a.1.map .int))->au s k=some (F.map .str)->a.1.length=ai->kE b a.2->b+4*qA fs<=900000 ->
  match lu ai a fs with
  |some c=>∃g y',forL (fun s'=>au s' k=some (F.map .str)) (ay 5) EM (fs.map .str) [some (.int (ai:Int)),x1,x2,some (.int a.2),some (.loc q),y] s=.nx [some (.int (ai:Int)),x1,x2,some (.int c.2),some (.loc q),y'] ((s++g).set q (.lst (c.1.map .int)))/\c.1.length=ai
  |none=>∃g z μ',forL (fun s'=>au s' k=some (F.map .str)) (ay 5) EM (fs.map .str) [some (.int (ai:Int)),x1,x2,some (.int a.2),some (.loc q),y] s=.er "NotWritten" μ' ((s++g).set q z)
 |[],a,y,s,b,_,hq,hk,la,_,_=>by
  have D2:q<s.length:=(VW.mp hq).1;refine⟨[],y,?_,la⟩;rw[VO,VS];unfold forL;rw[Vo hk];congr 1;apply WT;intro j;by_cases hj:q=j
  .subst hj;rw[V_ D2,hq]
  .rw[Wi hj]
 |f::fs,a,y,s,b,hf,hq,hk,la,hb,hs=>by
  have D2:q<s.length:=(VW.mp hq).1;obtain⟨f1,f2⟩:=hf f Vt;have ht:qA (f::fs)=f.length+qA fs:=by unfold qA;rw[Vp,_h]
  rw[ht]at hs;obtain⟨g,Pd⟩:=Hd (x1:=x1) (x2:=x2) (q:=q) hm f1 f2 hq la hb (by lia);have an:ay 5 (.str f) [some (.int (ai:Int)),x1,x2,some (.int a.2),some (.loc q),y]=some [some (.int (ai:Int)),x1,x2,some (.int a.2),some (.loc q),some (.str f)]:=rfl;unfold lu;cases hc:vO ai a f with
  |none=>
   rw[hc]at Pd;obtain⟨μ',e⟩:=Pd;dsimp only;have U4:(s++g)[q]?=some (.lst (a.1.map .int)):=cT hq g;refine⟨g,.lst (a.1.map .int),μ',?_⟩;rw[Vp];unfold forL;rw[Vo hk,an];dsimp only;rw[e];dsimp only;congr 1;apply WT;intro j;by_cases hj:q=j
   .subst hj;rw[V_ (by rw[Vx];lia),U4]
   .rw[Wi hj]
  |some c=>
   rw[hc]at Pd;obtain⟨e,lc,bc⟩:=Pd;dsimp only;obtain⟨s1,fJ⟩:∃s1,s1=(s++g).set q (aG.lst (c.1.map .int)):=⟨_,rfl⟩
   have Pe:s1[q]?=some (.lst (c.1.map .int)):=by rw[fJ,V_ (by rw[Vx];lia)]
   have U5:au s1 k=some (F.map .str):=by rw[fJ];unfold au;rw[Wi (Xm Tb)];exact aC hk g
   have ih:=vP (x1:=x1) (x2:=x2) (F:=F) hm Tb fs c (some (.str f)) s1 (b+4*f.length) (fun z hz=>hf z (Vr _ hz)) Pe U5 lc bc (by lia);have step:∀r,forL (fun s'=>au s' k=some (F.map .str)) (ay 5) EM (fs.map .str) [some (.int (ai:Int)),x1,x2,some (.int c.2),some (.loc q),some (.str f)] s1=r->forL (fun s'=>au s' k=some (F.map .str)) (ay 5) EM ((f::fs).map .str) [some (.int (ai:Int)),x1,x2,some (.int a.2),some (.loc q),y] s=r:=fun r hr=>by
    rw[Vp]
    conv=>lhs;unfold forL
    rw[Vo hk,an];dsimp only;rw[e,<-fJ];exact hr
   have ss:∀(g2:aj)(z:aG),(s1++g2).set q z=(s++(g++g2)).set q z:=fun g2 z=>by
    rw[fJ,<-Vs];have l1:q<((s++g).set q (aG.lst (c.1.map .int))).length:=by rw[W7,Vx];lia
    have l2:q<(s++g).length:=by rw[Vx];lia
    have r1:((s++g).set q (aG.lst (c.1.map .int))++g2).set q z=((s++g).set q (aG.lst (c.1.map .int))).set q z++g2:=tM l1;have r2:(s++g++g2).set q z=(s++g).set q z++g2:=tM l2;rw[r1,r2,List.set_set]
   cases hr:lu ai c fs with
   |none=>
    rw[hr]at ih;obtain⟨g2,z,μ',e2⟩:=ih;exact⟨g++g2,z,μ',by rw[step _ e2,ss]⟩
   |some d=>
    rw[hr]at ih;obtain⟨g2,y',e2,ld⟩:=ih;exact⟨g++g2,y',by rw[step _ e2,ss],ld⟩
structure Rt(w:Str)(c:Nat):Prop where
 asc:∀f∈Txt.split w ⟨#[c]⟩,asc f
 wt:qA (Txt.split w ⟨#[c]⟩)<=w.length
 len:(Txt.split w ⟨#[c]⟩).length<=w.length+1
theorem D!(c:Nat):∀ps:List (List Nat),(jn c ps).length+1 ≥ (ps.map List.length).sum+ps.length/\∀p∈ps,∀x∈p,x∈jn c ps
 |[]=>⟨by simp[jn],fun p hp=>by cases hp⟩
 |[a]=>⟨by simp[jn],fun p hp x hx=>by rw[V0.mp hp]at hx;exact hx⟩
 |a::b::r=>by
  obtain⟨i1,i2⟩:=D! c (b::r);refine⟨?_,fun p hp x hx=>?_⟩
  .show(a++c::jn c (b::r)).length+1 ≥ _;rw[Vx,Vl,Vp,_h,Vl];lia
  .show x∈a++c::jn c (b::r);rcases VG.mp hp with rfl|hp
   .exact W_ _ hx
   .exact VX _ (Vr _ (i2 p hp x hx))
theorem Ii{w:Str}(c:Nat)(h:asc w):Rt w c:=by
 have h1:=StrLaws.join_split w ⟨#[c]⟩;have h4:Txt.join ⟨#[c]⟩ (Txt.split w ⟨#[c]⟩)=w:=by have:Txt.join ⟨#[c]⟩ (Txt.split w ⟨#[c]⟩)=PySem.Str.join ⟨#[c]⟩ (Txt.split w ⟨#[c]⟩):=XY _ _;rw[this,h1]
 have h5:=W' cl h4;rw[jI]at h5;obtain⟨j1,j2⟩:=D! c ((Txt.split w ⟨#[c]⟩).map cl);rw[h5,dY,V6,Vn]at j1;have e:(Txt.split w ⟨#[c]⟩).map (List.length ∘ cl)=(Txt.split w ⟨#[c]⟩).map (·.length):=Wx fun x _=>dY x;rw[e]at j1;have ne:=vD w ⟨#[c]⟩;have l0:0<(Txt.split w ⟨#[c]⟩).length:=List.length_pos_iff.mpr ne;refine⟨fun f hf x hx=>?_,by unfold qA;lia,by lia⟩;have:=j2 (cl f) (VY.mpr ⟨f,hf,rfl⟩) x hx;rw[h5]at this;exact h x this
theorem zh:∀{fs:_z}{f:Str},f∈fs->f.length<=qA fs
 |g::fs,f,h=>by
  have e:qA (g::fs)=g.length+qA fs:=by unfold qA;rw[Vp,_h]
  rcases VG.mp h with rfl|h
  .lia
  .have:=zh h;lia
theorem rL(x y:Str)(h:x.length<=100000):(Builtin.Str.partsBetween x (Builtin.Str.occurrences x y 0 x.length (x.length+1)) y.length).length<=sizeLine:=by unfold Builtin.Str.partsBetween;have:=StrLaws.occ_length_le x y 0 x.length (x.length+1);simp only[Vn,Y8,Vl,Vx,VH];rw[VT];lia
theorem He{ai:Nat}(h1:1<=ai)(hm:ai<=4){sg w:Str}(hw:asc w)(hl:w.length<=640)(st:aj):∃g,PM.cK [.int (ai:Int),.str sg,.str w] st=(match pairF ai sg w with|some c=>.ok (tV c) (st++g)|none=>.err "NotWritten" (st++g))/\∀c,pairF ai sg w=some c->c.1.length=ai:=by
 have sl:sizeLine=16777216:=VT;have U6:Ag true (.str sg) PM.pI st=.ok (.bl (!decide (sg = "+" \/ sg = "-"))) st:=by
  unfold Ag;have e1:Cw st PM.pI=some [.str "+",.str "-"]:=rfl;rw[e1];dsimp only;rw[Vo ⟨rfl,rfl⟩];have e2:([av.str "+",av.str "-"].any fun y=>HP y (.str sg))=decide (sg = "+" \/ sg = "-"):=by show((("+":Str)==sg) || ((("-":Str)==sg) || false))=_;rw[Bool.or_false,str_beq,str_beq,XX];simp only[Ze,Wj];exact⟨fun h=>h.imp ZQ ZQ,fun h=>h.imp ZQ ZQ⟩
  rw[Vo rfl,e2]
 have c0:a! (ah (Ag true) (aa 1) (mC PM.pI)) [some (.int (ai:Int)),some (.str sg),some (.str w),none,none,none] st=.ok (!decide (sg = "+" \/ sg = "-")) st:=bI (by rw[aX (x:=.str sg) (s1:=st) rfl (y:=PM.pI) (s2:=st) rfl,U6]);have run:PM.cK=fQ 3 6 (aA (dq (a! (ah (Ag true) (aa 1) (mC PM.pI))) (eB "NotWritten" (ae (mC (.str "between two terms stands + or -")) ao)) aK) (aA (aE 3 (uQ (a! (ah dr (aa 1) (mC (.str "-")))) (Cr (mC (.int 1))) (mC (.int 1)))) (aA (aE 4 (ah cN (bK (ae (mC (.int 0)) ao)) (aa 0))) (aA (dO (cQ (gT (aa 2) (mC (.str "*")))) (ay 5) EM) (a7 (fT (ae (ak kR (ae (aa 4) ao)) (ae (aa 3) ao)))))))):=rfl;unfold pairF;by_cases hs:sg = "+" \/ sg = "-"
 .rw[VF hs]at c0;rw[Vo hs];obtain⟨n0,Pf⟩:∃n0:Int,n0=if sg = "-" then -1 else 1:=⟨_,rfl⟩
  rw[<-Pf];have f3:aE 3 (uQ (a! (ah dr (aa 1) (mC (.str "-")))) (Cr (mC (.int 1))) (mC (.int 1))) [some (.int (ai:Int)),some (.str sg),some (.str w),none,none,none] st=.nx [some (.int (ai:Int)),some (.str sg),some (.str w),some (.int n0),none,none] st:=by
   by_cases z:sg = "-"
   .have q:(sg==("-":Str))=true:=by rw[str_beq,VF z]
    rw[Pf,Vo z];simp only[aq,aB,aS,bw,aP,iG,f_,cF,ba,a8,gH,CU,Kx,da,jT,eU,cq,V1,V9,q]
   .have q:(sg==("-":Str))=false:=by rw[str_beq,VM z]
    rw[Pf,Vu z];simp only[aq,aB,aS,bw,aP,iH,f_,cF,ba,a8,gH,da,jT,eU,cq,V1,V9,q]
  obtain⟨s1,fJ⟩:∃s1,s1=st++[aG.lst [.int 0]]:=⟨_,rfl⟩
  obtain⟨s2,gA⟩:∃s2,s2=s1++[aG.lst ((List.replicate ai (0:Int)).map .int)]:=⟨_,rfl⟩
  have rp:uS ((ai:Nat):Int).toNat [.int 0]=(List.replicate ai (0:Int)).map .int:=by
   have:ai=1\/ai=2\/ai=3\/ai=4:=by lia
   rcases this with rfl|rfl|rfl|rfl<;>rfl
  have f4:aE 4 (ah cN (bK (ae (mC (.int 0)) ao)) (aa 0)) [some (.int (ai:Int)),some (.str sg),some (.str w),some (.int n0),none,none] st=.nx [some (.int (ai:Int)),some (.str sg),some (.str w),some (.int n0),some (.loc s1.length),none] s2:=by
   have l:bK (ae (mC (.int 0)) ao) [some (.int (ai:Int)),some (.str sg),some (.str w),some (.int n0),none,none] st=.ok (.loc st.length) s1:=by rw[fJ];exact gX (vs:=[.int 0]) (s1:=st) rfl (by decide)
   have l0:s1[st.length]?=some (.lst [.int 0]):=by rw[fJ];exact fm _ _
   have m:ah cN (bK (ae (mC (.int 0)) ao)) (aa 0) [some (.int (ai:Int)),some (.str sg),some (.str w),some (.int n0),none,none] st=.ok (.loc s1.length) s2:=by rw[aX l (y:=.int (ai:Int)) (s2:=s1) rfl,KN l0 (by lia) (by lia) (by show 1*_<=_;lia),rp,gA]
   rw[bJ m];rfl
  have sp:=Ii 42 hw;have wt:=sp.wt;obtain⟨F,hF⟩:∃F,F=Txt.split w "*":=⟨_,rfl⟩
  have Ru:Txt.split w ⟨#[42]⟩=F:=by rw[hF];rfl
  obtain⟨s3,ji⟩:∃s3,s3=s2++[aG.lst (F.map .str)]:=⟨_,rfl⟩
  have Rv:gT (aa 2) (mC (.str "*")) [some (.int (ai:Int)),some (.str sg),some (.str w),some (.int n0),some (.loc s1.length),none] s2=.ok (.loc s2.length) s3:=by
   rw[yZ (x:=w) (s1:=s2) rfl (by lia) ⟨by decide +kernel,rL w "*" (by lia),by
    have:=sp.len;rw[Ru]at this;rw[<-hF];lia⟩,ji,hF]
  have n2:s2[s1.length]?=some (.lst ((List.replicate ai (0:Int)).map .int)):=by rw[gA];exact fm _ _
  have n3:s3[s1.length]?=some (.lst ((List.replicate ai (0:Int)).map .int)):=by rw[ji];exact cT n2 _
  have k3:au s3 s2.length=some (F.map .str):=by rw[ji];exact aL _ _
  have lts:s1.length<s2.length:=(VW.mp n2).1;have U7:kE 10 n0:=by rw[Pf];split<;>exact kE.small (by decide) (by decide) (by decide)
  rw[Ru]at wt;have lp:=vP (ai:=ai) (q:=s1.length) (k:=s2.length) (x1:=some (.str sg)) (x2:=some (.str w)) (F:=F) hm (by lia) F (List.replicate ai 0,n0) none s3 10 (fun f hf=>⟨sp.asc f (by rw[Ru];exact hf),VR (zh hf) (by lia)⟩) n3 k3 (Wd ..) U7 (by lia);have fin:∀(g:aj)(z:aG),∃g',(s3++g).set s1.length z=st++g':=fun g z=>by
   have l1:s1.length=st.length+1:=by rw[fJ,Vx];rfl
   have sa:∀(a b:List aG)(n:Nat)(c:aG),a.length<=n->(a++b).set n c=a++b.set (n-a.length) c:=fun a b n c h=>WJ n c h;have e:s3++g=st++([aG.lst [.int 0]]++[aG.lst ((List.replicate ai (0:Int)).map .int)]++[aG.lst (F.map .str)]++g):=by rw[ji,gA,fJ];simp only[Vs]
   rw[e];exact⟨_,sa st _ _ _ (by lia)⟩
  have head:∀r,forL (fun s'=>au s' s2.length=some (F.map .str)) (ay 5) EM (F.map .str) [some (.int (ai:Int)),some (.str sg),some (.str w),some (.int n0),some (.loc s1.length),none] s3=r->PM.cK [.int (ai:Int),.str sg,.str w] st=(r.cf (a7 (fT (ae (ak kR (ae (aa 4) ao)) (ae (aa 3) ao))))).fin:=fun r hr=>by rw[run,bb (np:=3) (us:=[.int (ai:Int),.str sg,.str w]) rfl];show(aA (dq _ _ _) _ [some (.int (ai:Int)),some (.str sg),some (.str w),none,none,none] st).fin=_;rw[aw,dD c0,az,aw,f3,az,aw,f4,az,aw,eT,dj,Rv,aq,c5 k3,aB,gx,hr]
  rw[<-hF];cases hr:lu ai (List.replicate ai 0,n0) F with
  |none=>
   rw[hr]at lp;obtain⟨g,z,μ',e⟩:=lp;obtain⟨g',eg⟩:=fin g z;refine⟨g',?_,fun c hc=>by cases hc⟩;rw[head _ e,eg];rfl
  |some c=>
   rw[hr]at lp;obtain⟨g,y',e,lc⟩:=lp;obtain⟨g',eg⟩:=fin g (.lst (c.1.map .int));refine⟨g',?_,fun d hd=>by cases hd;exact lc⟩;have hq:(st++g')[s1.length]?=some (.lst (c.1.map .int)):=by rw[<-eg,V_ (by rw[Vx,ji,Vx];lia)]
   rw[head _ e,eg,az,aQ];have tp:ak kR (ae (aa 4) ao) [some (.int (ai:Int)),some (.str sg),some (.str w),some (.int c.2),some (.loc s1.length),y'] (st++g')=.ok (aR c.1) (st++g'):=by rw[aM (dP (v:=.loc s1.length) (s1:=st++g') rfl)];exact sS (df hq)
   rw[tD (iT tp (w:=.int c.2) (s2:=st++g') rfl) (by show 2<=1000;decide)];rfl
 .rw[VM hs]at c0;rw[Vu hs];refine⟨[],?_,fun c hc=>by cases hc⟩;rw[VS,run,bb (np:=3) (us:=[.int (ai:Int),.str sg,.str w]) rfl];show(aA (dq _ _ _) _ [some (.int (ai:Int)),some (.str sg),some (.str w),none,none,none] st).fin=_;rw[aw,e7 c0];rfl
theorem Oh{k:Nat}{caps:List Nat}{it:MI}{a:AS}{c:MT}{e:ME}{μ:MN.Env}{st s1:aj}{us:List av}{q:aj->Prop}(h:it μ st=.ok (us,q) s1)(hl:us.length<=sizeLine):kh k caps it a c e μ st=(fG q a c e us (iB k caps μ) s1 []).bind fun ys st2=>.ok (.loc st2.length) (st2++[.lst ys]):=by unfold kh;rw[h];show(if us.length<=sizeLine then _ else _)=_;rw[Vo hl]
def cw(x:Str):Str:=if Txt.startswith x "-" = true then "-" else "+"
def iQ(x:Str):Str:=if Txt.startswith x "-" = true then dh x else x
def iM(x:Str):_z:=Txt.split (iQ x) " "
def js(ai:Nat):List (Str×Str)->Option (List bj)
 |[]=>some []
 |z::r=>match pairF ai z.1 z.2 with
  |some c=>match js ai r with
   |some P=>some (c::P)
   |none=>none
  |none=>none
def xQ(ai:Nat)(x:Str):Option (List bj):=if(iM x).length % 2=0 then none else js ai ((cw x::eV (iM x) 1 2).zip (ft (iM x) 2))
abbrev L0:ME:=ak PM.cK (ae (aa 2) (ae (aa 0) (ae (aa 1) ao)))
theorem vQ{ai:Nat}{g:aj->Prop}(h1:1<=ai)(hm:ai<=4)(hg:∀s more,g s->g (s++more)):∀(zs:List (Str×Str))(τ0 τ1:Option av)(s:aj)(ys:List av),(∀z∈zs,asc z.2/\z.2.length<=640)->g s ->
  ∃g',fG g (fM [(ay 0),(ay 1)]) bf L0 (zs.map fun z=>av.tup [.str z.1,.str z.2]) [τ0,τ1,some (.int (ai:Int))] s ys=(match js ai zs with|some P=>.ok (ys++P.map tV) (s++g')|none=>.err "NotWritten" (s++g'))
 |[],τ0,τ1,s,ys,_,hs=>⟨[],by
  rw[VO];unfold fG;rw[Vo hs];show cX.ok ys s=cX.ok (ys++[]) (s++[]);rw[VS,VS]⟩
 |z::zs,τ0,τ1,s,ys,hz,hs=>by
  obtain⟨w1,w2⟩:=hz z Vt;obtain⟨g1,e1,_⟩:=He h1 hm (sg:=z.1) w1 w2 s;have ep:L0 [some (.str z.1),some (.str z.2),some (.int (ai:Int))] s=(match pairF ai z.1 z.2 with|some c=>.ok (tV c) (s++g1)|none=>.err "NotWritten" (s++g1)):=by unfold L0;rw[aM (vs:=[.int (ai:Int),.str z.1,.str z.2]) (s1:=s) rfl];exact e1
  have a:fM [(ay 0),(ay 1)] (.tup [.str z.1,.str z.2]) [τ0,τ1,some (.int (ai:Int))]=some [some (.str z.1),some (.str z.2),some (.int (ai:Int))]:=rfl;rw[Vp];unfold js;cases hp:pairF ai z.1 z.2 with
  |none=>
   rw[hp]at ep;refine⟨g1,?_⟩
   conv=>lhs;unfold fG
   rw[Vo hs,a];dsimp only[bf];rw[ep]
  |some c=>
   rw[hp]at ep;obtain⟨g2,e2⟩:=vQ h1 hm hg zs (some (.str z.1)) (some (.str z.2)) (s++g1) (ys++[tV c]) (fun y hy=>hz y (Vr _ hy)) (hg _ _ hs);refine⟨g1++g2,?_⟩
   conv=>lhs;unfold fG
   rw[Vo hs,a];dsimp only[bf];rw[ep];dsimp only;rw[e2,<-Vs];cases js ai zs with
   |none=>rfl
   |some P=>simp
theorem D?{x:Str}(h:asc x):asc (iQ x):=by
 unfold iQ;split
 .exact pW h
 .exact h
theorem Ea(x:Str):(iQ x).length<=x.length:=by
 unfold iQ;split
 .exact pX x
 .exact Vq _
theorem vR:∀(as bs:_z),o! (as.map av.str) (bs.map av.str)=(as.zip bs).map fun z=>av.tup [.str z.1,.str z.2]
 |[],_=>rfl
 |_::_,[]=>rfl
 |a::as,b::bs=>by show av.tup [.str a,.str b]::o! (as.map av.str) (bs.map av.str)=_;rw[vR as bs];rfl
theorem tO{α β:Type}(f:α->β)(xs:List α):∀is:List Nat,(is.filterMap fun i=>(xs.map f)[i]?)=(is.filterMap fun i=>xs[i]?).map f
 |[]=>rfl
 |i::is=>by
  rw[WX,WX,VU];cases xs[i]? with
  |none=>exact tO f xs is
  |some a=>
   show f a::_=f a::_;rw[tO f xs is]
theorem Eb(xs:_z)(k:Int):ft (xs.map av.str) k=(ft xs k).map .str:=by unfold ft;rw[Vn,tO]
theorem Ec(xs:_z)(i k:Int):eV (xs.map av.str) i k=(eV xs i k).map .str:=by unfold eV;rw[Vn,tO]
theorem Ed{xs:_z}{k:Int}{x:Str}(h:x∈ft xs k):x∈xs:=by unfold ft at h;obtain⟨i,_,e⟩:=Yr.mp h;exact Xw e
theorem Ee{ai:Nat}(h1:1<=ai)(hm:ai<=4){x:Str}(hx:asc x)(hl:x.length<=100000)(hw:∀w∈iM x,w.length<=640)(st:aj):
  match xQ ai x with
  |some P=>∃g n,PM.ck [.int (ai:Int),.str x] st=.ok (.loc n) (st++g)/\au (st++g) n=some (P.map tV)
  |none=>∃g,PM.ck [.int (ai:Int),.str x] st=.err "NotWritten" (st++g):=by
 have sl:sizeLine=16777216:=VT;have bl:=Ea x;obtain⟨μ0,U8⟩:∃μ0:MN.Env,μ0=[some (.int (ai:Int)),some (.str x),none,none,none]:=⟨_,rfl⟩
 have f2:aE 2 (uQ (a! (gK (aa 1) (mC (.str "-")))) (mC (.str "-")) (mC (.str "+"))) [some (.int (ai:Int)),some (.str x),none,none,none] st=.nx [some (.int (ai:Int)),some (.str x),some (.str (cw x)),none,none] st:=by
  have t:=DW (m:=aa 1) (y:="-") (μ:=[some (.int (ai:Int)),some (.str x),none,none,none]) (s:=st) (s1:=st) (x:=x) rfl;unfold cw;generalize gK (aa 1) (mC (.str "-"))=Z at t⊢;cases q:Txt.startswith x "-" with
  |true=>rw[q]at t;rw[Vo rfl];simp only[aq,aB,iG,f_,cF,ba,a8,gH,da,V1,V9,t]
  |false=>rw[q]at t;rw[Vu VC];simp only[aq,aB,iH,f_,cF,ba,a8,gH,da,V1,V9,t]
 have mi:uQ (a! (ah dr (aa 2) (mC (.str "-")))) (fW (aa 1) (dw (mC (.int 1))) du) (aa 1) [some (.int (ai:Int)),some (.str x),some (.str (cw x)),none,none] st=.ok (.str (iQ x)) st:=by
  have t:fW (aa 1) (dw (mC (.int 1))) du [some (.int (ai:Int)),some (.str x),some (.str (cw x)),none,none] st=.ok (.str (dh x)) st:=yY (l:=some 1) (h:=none) rfl rfl rfl (by lia);generalize fW (aa 1) (dw (mC (.int 1))) du=Z at t⊢;unfold cw iQ at *;cases q:Txt.startswith x "-" with
  |true=>
   rw[q,Vo rfl]at t;rw[Vo rfl,Vo rfl];have q2:(("-":Str)==("-":Str))=true:=by decide
   simp only[aq,aS,bw,aP,iG,cF,ba,a8,gH,jT,eU,cq,q2,t]
  |false=>
   rw[Vu VC,Vu VC];have q2:(("+":Str)==("-":Str))=false:=by decide
   simp only[aq,aS,bw,aP,iH,cF,ba,a8,gH,jT,eU,cq,q2]
 obtain⟨W,hW⟩:∃W,W=iM x:=⟨_,rfl⟩
 have sp:=Ii 32 (D? hx);have eW:Txt.split (iQ x) ⟨#[32]⟩=W:=by rw[hW];rfl
 have Rv:=sp.len;have Tc:=sp.asc;rw[eW]at Rv Tc;obtain⟨s1,fJ⟩:∃s1,s1=st++[aG.lst (W.map .str)]:=⟨_,rfl⟩
 have f3:aE 3 (gT (uQ (a! (ah dr (aa 2) (mC (.str "-")))) (fW (aa 1) (dw (mC (.int 1))) du) (aa 1)) (mC (.str " "))) [some (.int (ai:Int)),some (.str x),some (.str (cw x)),none,none] st=.nx [some (.int (ai:Int)),some (.str x),some (.str (cw x)),some (.loc st.length),none] s1:=by
  have t:=yZ (y:=" ") mi (by lia) ⟨by decide +kernel,rL (iQ x) " " (by lia),by
   show(iM x).length<=sizeLine;rw[<-hW];lia⟩
  rw[bJ t,fJ,hW];rfl
 have i1:au s1 st.length=some (W.map .str):=by rw[fJ];exact aL _ _
 have ln:b9 [.loc st.length] s1=.ok (.int ((W.length:Nat):Int)) s1:=by rw[gI i1,Vn]
 have run:PM.ck=fQ 2 5 (aA (aE 2 (uQ (a! (gK (aa 1) (mC (.str "-")))) (mC (.str "-")) (mC (.str "+")))) (aA (aE 3 (gT (uQ (a! (ah dr (aa 2) (mC (.str "-")))) (fW (aa 1) (dw (mC (.int 1))) du) (aa 1)) (mC (.str " ")))) (aA (dq (a! (ah dr (ah bN (ak b9 (ae (aa 3) ao)) (mC (.int 2))) (mC (.int 0)))) (eB "NotWritten" (ae (mC (.str "terms have a sign between each two, and blanks only round it")) ao)) aK) (aA (aE 4 (ah bo (bK (ae (aa 2) ao)) (eM (aa 3) (mC (.int 1)) (mC (.int 2))))) (a7 (kh 2 [0] (o? true true (ae (aa 4) (ae (gj (aa 3) (mC (.int 2))) ao))) (fM [(ay 0),(ay 1)]) bf L0)))))):=rfl;have tz:a! (ah dr (ah bN (ak b9 (ae (aa 3) ao)) (mC (.int 2))) (mC (.int 0))) [some (.int (ai:Int)),some (.str x),some (.str (cw x)),some (.loc st.length),none] s1=.ok (decide (W.length % 2=0)) s1:=by
  have l:ak b9 (ae (aa 3) ao) [some (.int (ai:Int)),some (.str x),some (.str (cw x)),some (.loc st.length),none] s1=.ok (.int ((W.length:Nat):Int)) s1:=by rw[aM (dP (v:=.loc st.length) (s1:=s1) rfl)];exact ln
  have m:ah bN (ak b9 (ae (aa 3) ao)) (mC (.int 2)) [some (.int (ai:Int)),some (.str x),some (.str (cw x)),some (.loc st.length),none] s1=.ok (.int (((W.length:Nat):Int).fmod 2)) s1:=by rw[aX l (y:=.int 2) (s2:=s1) rfl];exact cG (by decide)
  refine bI ?_;rw[pT m];have:((((W.length:Nat):Int).fmod 2)==0)=decide (W.length % 2=0):=by
   rw[X9 _ (by decide)];by_cases z:W.length % 2=0
   .rw[VF z];have:((W.length:Nat):Int) % 2=0:=by lia
    rw[this];rfl
   .rw[VM z];exact WE (by lia)
  rw[this]
 have hd:∀r,(aA (dq (a! (ah dr (ah bN (ak b9 (ae (aa 3) ao)) (mC (.int 2))) (mC (.int 0)))) (eB "NotWritten" (ae (mC (.str "terms have a sign between each two, and blanks only round it")) ao)) aK) (aA (aE 4 (ah bo (bK (ae (aa 2) ao)) (eM (aa 3) (mC (.int 1)) (mC (.int 2))))) (a7 (kh 2 [0] (o? true true (ae (aa 4) (ae (gj (aa 3) (mC (.int 2))) ao))) (fM [(ay 0),(ay 1)]) bf L0))) [some (.int (ai:Int)),some (.str x),some (.str (cw x)),some (.loc st.length),none] s1).fin=r->PM.ck [.int (ai:Int),.str x] st=r:=fun r hr=>by rw[run,bb (np:=2) (us:=[.int (ai:Int),.str x]) rfl];show(aA (aE 2 _) _ [some (.int (ai:Int)),some (.str x),none,none,none] st).fin=_;rw[aw,f2,az,aw,f3,az,hr]
 unfold xQ;rw[<-hW];by_cases hz:W.length % 2=0
 .rw[Vo hz];rw[VF hz]at tz;refine⟨[aG.lst (W.map .str)],hd _ ?_⟩;rw[aw,e7 tz,<-fJ];rfl
 .rw[Vu hz];rw[VM hz]at tz;obtain⟨s2,gA⟩:∃s2,s2=s1++[aG.lst [.str (cw x)]]:=⟨_,rfl⟩
  have i2:au s2 st.length=some (W.map .str):=by rw[gA];exact aC i1 _
  obtain⟨s3,ji⟩:∃s3,s3=s2++[aG.lst ((eV W 1 2).map .str)]:=⟨_,rfl⟩
  have lF:=vq W 1 (k:=2) (by decide);obtain⟨s4,EN⟩:∃s4,s4=s3++[aG.lst ((cw x::eV W 1 2).map .str)]:=⟨_,rfl⟩
  have f4:aE 4 (ah bo (bK (ae (aa 2) ao)) (eM (aa 3) (mC (.int 1)) (mC (.int 2)))) [some (.int (ai:Int)),some (.str x),some (.str (cw x)),some (.loc st.length),none] s1=.nx [some (.int (ai:Int)),some (.str x),some (.str (cw x)),some (.loc st.length),some (.loc s3.length)] s4:=by
   have l:bK (ae (aa 2) ao) [some (.int (ai:Int)),some (.str x),some (.str (cw x)),some (.loc st.length),none] s1=.ok (.loc s1.length) s2:=by rw[gA];exact gX (vs:=[.str (cw x)]) (s1:=s1) rfl (by show 1<=1000;decide)
   have f:eM (aa 3) (mC (.int 1)) (mC (.int 2)) [some (.int (ai:Int)),some (.str x),some (.str (cw x)),some (.loc st.length),none] s2=.ok (.loc s2.length) s3:=by rw[A! (n:=st.length) (i:=1) (k:=2) (s1:=s2) rfl rfl rfl i2 (by decide) (by decide),Ec,ji]
   have a1:s3[s1.length]?=some (.lst [.str (cw x)]):=by rw[ji];exact cT (by rw[gA];exact fm _ _) _
   have a2:s3[s2.length]?=some (.lst ((eV W 1 2).map .str)):=by rw[ji];exact fm _ _
   have ad:ah bo (bK (ae (aa 2) ao)) (eM (aa 3) (mC (.int 1)) (mC (.int 2))) [some (.int (ai:Int)),some (.str x),some (.str (cw x)),some (.loc st.length),none] s1=.ok (.loc s3.length) s4:=by rw[aX l f,xi a1 a2 (by rw[Vn];show 1+_<=_;lia),EN];rfl
   rw[bJ ad];rfl
  have i4:au s4 st.length=some (W.map .str):=by rw[EN,ji];exact aC (aC i2 _) _
  have j4:au s4 s3.length=some ((cw x::eV W 1 2).map .str):=by rw[EN];exact aL _ _
  obtain⟨s5,vI⟩:∃s5,s5=s4++[aG.lst ((ft W 2).map .str)]:=⟨_,rfl⟩
  have sd:gj (aa 3) (mC (.int 2)) [some (.int (ai:Int)),some (.str x),some (.str (cw x)),some (.loc st.length),some (.loc s3.length)] s4=.ok (.loc s4.length) s5:=by rw[DX (n:=st.length) (k:=2) (s1:=s4) rfl rfl i4 (by decide),Eb,vI]
  have i5:au s5 s3.length=some ((cw x::eV W 1 2).map .str):=by rw[vI];exact aC j4 _
  have j5:au s5 s4.length=some ((ft W 2).map .str):=by rw[vI];exact aL _ _
  have it:o? true true (ae (aa 4) (ae (gj (aa 3) (mC (.int 2))) ao)) [some (.int (ai:Int)),some (.str x),some (.str (cw x)),some (.loc st.length),some (.loc s3.length)] s4=.ok (((cw x::eV W 1 2).zip (ft W 2)).map fun z=>av.tup [.str z.1,.str z.2],fun st2=>au st2 s3.length=some ((cw x::eV W 1 2).map .str)/\au st2 s4.length=some ((ft W 2).map .str)) s5:=by rw[KA,iT (v:=.loc s3.length) (s1:=s4) rfl sd,aq,KL i5 j5,vR]
  have zl:((cw x::eV W 1 2).zip (ft W 2)).length<=sizeLine:=by rw[Y8,Vl];lia
  obtain⟨g,e⟩:=vQ (ai:=ai) (g:=fun st2=>au st2 s3.length=some ((cw x::eV W 1 2).map .str)/\au st2 s4.length=some ((ft W 2).map .str)) h1 hm (fun s more h=>⟨aC h.1 _,aC h.2 _⟩) ((cw x::eV W 1 2).zip (ft W 2)) none none s5 [] (fun z hz=>by
   have OP:z.2∈W:=Ed (Y7 hz).2;exact⟨Tc z.2 OP,hw z.2 (hW▸OP)⟩) ⟨i5,j5⟩
  have cx:=Oh (k:=2) (caps:=[0]) (a:=fM [(ay 0),(ay 1)]) (c:=bf) (e:=L0) it (by rw[Vn];exact zl);have Br:iB 2 [0] [some (av.int (ai:Int)),some (.str x),some (.str (cw x)),some (.loc st.length),some (.loc s3.length)]=[none,none,some (.int (ai:Int))]:=rfl;rw[Br,e]at cx;have es:∀g':aj,s5++g'=st++([aG.lst (W.map .str)]++[aG.lst [.str (cw x)]]++[aG.lst ((eV W 1 2).map .str)]++[aG.lst ((cw x::eV W 1 2).map .str)]++[aG.lst ((ft W 2).map .str)]++g'):=fun g'=>by rw[vI,EN,ji,gA,fJ];simp only[Vs]
  cases hr:js ai ((cw x::eV W 1 2).zip (ft W 2)) with
  |none=>
   rw[hr]at cx;obtain⟨g',gr⟩:∃g',s5++g=st++g':=⟨_,es g⟩
   refine⟨g',hd _ ?_⟩;rw[aw,dD tz,az,aw,f4,az,aQ,cx,<-gr];rfl
  |some P=>
   rw[hr]at cx;obtain⟨g',gr⟩:∃g',s5++g++[aG.lst (P.map tV)]=st++g':=⟨_,by rw[Vs,es]⟩
   refine⟨g',(s5++g).length,hd _ ?_,?_⟩
   .rw[aw,dD tz,az,aw,f4,az,aQ,cx,<-gr];rfl
   .rw[<-gr];exact aL _ _
theorem Hf{r:Int}{ai:Nat}(hr:fu r=true)(h1:1<=ai)(hm:ai<=4){x:Str}(hx:asc x)(hl:x.length<=100000)(hw:∀w∈iM x,w.length<=640)(hQ:∀Q,xQ ai x=some Q->Q.length<1000000/\(∀t∈Q,Good ai t)/\(bM r (cU Q)).length<=400/\∀t∈bM r (cU Q),Wr t)(st:aj):
  match xQ ai x with
  |none=>∃g,PM.b! [.int r,.int (ai:Int),.str x] st=.err "NotWritten" (st++g)
  |some Q=>if aY (bM r (cU Q))=x then ∃g k,PM.b! [.int r,.int (ai:Int),.str x] st=.ok (.loc k) (st++g)/\st.length<=k/\(st++g)[k]?=some (.lst ((bM r (cU Q)).map tV))else ∃g,PM.b! [.int r,.int (ai:Int),.str x] st=.err "NotWritten" (st++g):=by
 obtain⟨g1,cr⟩:=jV hr st;obtain⟨s1,fJ⟩:∃s1,s1=st++g1:=⟨_,rfl⟩
 rw[<-fJ]at cr;have cu:=gL h1 hm s1;have pw:=Ee h1 hm hx hl hw s1;cases hp:xQ ai x with
 |none=>
  rw[hp]at pw;obtain⟨g2,e⟩:=pw;refine⟨g1++g2,?_⟩;rw[<-Vs,<-fJ];simp only[PM.b!,bb,aq,Ge,aB,Gf,az,pj,pk,bh,aO,xf,bB,aN,bF,aw,fI,da,bR,eU,cq,Vp,VO,VP,VA,VV,Vz,Nat.reduceSub,Vl,VH,Nat.reduceAdd,cr,cu,e]
 |some Q=>
  rw[hp]at pw;obtain⟨q1,q2,q3,q4⟩:=hQ Q hp;obtain⟨g2,n,e,ei⟩:=pw;obtain⟨s2,gA⟩:∃s2,s2=s1++g2:=⟨_,rfl⟩
  rw[<-gA]at e ei;obtain⟨g3,k,md,hk,mk⟩:=GZ hr ei q1 q2 h1 hm;obtain⟨s3,ji⟩:∃s3,s3=s2++g3:=⟨_,rfl⟩
  rw[<-ji]at md mk;obtain⟨g4,sh⟩:=pV (df mk) q3 q4;obtain⟨P,hP⟩:∃P,P=bM r (cU Q):=⟨_,rfl⟩
  rw[<-hP]at mk sh;dsimp only;rw[<-hP];have es:s3++g4=st++(g1++g2++g3++g4):=by rw[ji,gA,fJ];simp only[Vs]
  by_cases hz:aY P=x
  .rw[Vo hz];have ne:(!((aY P:Str)==x))=false:=by rw[str_beq,VF hz];rfl
   refine⟨g1++g2++g3++g4,k,?_,?_,?_⟩
   .rw[<-es];simp only[PM.b!,bb,aq,aB,az,bA,aS,bw,aP,bh,aO,xf,b?,cS,f_,ba,a8,bB,aN,bF,aw,cR,fI,aQ,bx,da,ng,bR,eU,jR,cq,Vp,VO,VP,VA,VV,Vz,V1,V9,Nat.reduceSub,Vl,VH,Nat.reduceAdd,cr,cu,e,md,sh,ne]
   .have:s2.length=st.length+g1.length+g2.length:=by rw[gA,fJ,Vx,Vx]
    lia
   .rw[<-es];exact cT mk g4
  .rw[Vu hz];have ne:(!((aY P:Str)==x))=true:=by rw[str_beq,VM hz];rfl
   refine⟨g1++g2++g3++g4,?_⟩;rw[<-es];simp only[PM.b!,bb,aq,aB,az,pj,pk,aS,bw,aP,bh,aO,xf,c!,f_,oy,cF,ba,a8,bB,aN,bF,aw,fI,bx,da,kW,ng,bR,eU,jR,cq,Vp,VO,VP,VA,VV,Vz,V1,V9,Nat.reduceSub,Vl,VH,Nat.reduceAdd,VT,Nat.reduceLeDiff,↓reduceIte,cr,cu,e,md,sh,ne]
def xR(i:Nat):Nat:=[120,121,122,119].getD i 0
theorem xS{i:Nat}(h:i<4):cl (iJ i)=[xR i]:=by
 rcases i with _|_|_|_|i
 .decide +kernel
 .decide +kernel
 .decide +kernel
 .decide +kernel
 .lia
theorem zi{i:Nat}(h:i<4):119<=xR i/\xR i<=122:=by
 rcases i with _|_|_|_|i
 .decide
 .decide
 .decide
 .decide
 .lia
theorem vS{i:Nat}(h:i<4)(e:Int):cl (qy i e)=if e=1 then[xR i]else xR i::94::cl (bU e):=by
 unfold qy;split
 .exact xS h
 .have e1:cl ("^":Str)=[94]:=by decide +kernel
  unfold AX;rw[gU,gU,xS h,e1];rfl
theorem lB{n:Int}(h:0<=n):(∀c∈cl (bU n),48<=c/\c<=57)/\cl (bU n)≠[]:=by obtain⟨m,rfl⟩:=Yd h;exact⟨xE m,Li m⟩
theorem zj{n:Int}(h:0<=n):jr (bU n)=true:=by
 obtain⟨h1,h2⟩:=lB h;unfold jr;rw[Wy];refine⟨VF ?_,Wv.mpr fun c hc=>?_⟩
 .rw[<-dY];exact List.length_pos_iff.mpr h2
 .obtain⟨q1,q2⟩:=h1 c hc;unfold lh;rw[VF q1,VF q2];rfl
theorem tP{n:Int}(h:0<=n):qz (bU n)=n:=by obtain⟨m,rfl⟩:=Yd h;unfold qz bU;rw[xD,W.KIN.val_back]
theorem zo{e:Int}(h:0<=e):(bU e).length<=2↔e<=99:=by
 constructor
 .intro hl;have z:=xP (cl (bU e)) 0 (lB h).1;rw[Wb,Nat.one_mul,dY]at z;have v:=tP h;unfold qz PySem.NumText.digitsVal at v;have p:(10:Nat) ^ (bU e).length<=10 ^ 2:=Xn (by decide) hl;have p2:(10:Nat) ^ 2=100:=by decide
  lia
 .intro hl;exact W3 h (by decide) (by lia)
theorem Ef{i:Nat}(h:i<4)(e:Int):jr (qy i e)=false:=by
 have r:=zi h;have hd:lh (xR i)=false:=by unfold lh;rw[VM (by lia:¬ xR i<=57),Zl]
 unfold jr;rw[vS h];split<;>simp[hd]
theorem Hg{i:Nat}(h:i<4)(e:Int):rF (qy i e)=iJ i:=fX (by
 unfold rF;rw[xB,vS h,xS h];split<;>rfl)
theorem Hh{i:Nat}(h:i<4)(e:Int):cl (dh (qy i e))=if e=1 then[]else 94::cl (bU e):=by unfold dh;rw[iI,vS h];split<;>rfl
theorem Lv{i:Nat}(h:i<4){e:Int}(h0:1<=e):xK (dh (qy i e))=if e<=99 then some e else none:=by
 have t:=Hh h e;unfold xK;by_cases h1:e=1
 .rw[Vo h1]at t;rw[Vo (fX (by rw[t];decide +kernel)),Vo (by lia),h1]
 .rw[Vu h1]at t;have ne:dh (qy i e) ≠ "":=fun z=>by
   rw[z]at t;have e0:cl ("":Str)=[]:=by decide +kernel
   rw[e0]at t;cases t
  have tt:dh (dh (qy i e))=bU e:=fX (by
   show cl (Txt.slice (dh (qy i e)) (some 1) none)=_;rw[iI,t];rfl)
  rw[Vu ne,tt,zj (by lia),tP (by lia)];have hd:(cl (dh (qy i e))).head?=some 94:=by rw[t];rfl
  by_cases h9:e<=99
  .rw[Vo ⟨hd,rfl,(zo (by lia)).mpr h9⟩,Vo h9]
  .rw[Vu fun z=>h9 ((zo (by lia)).mp z.2.2),Vu h9]
theorem Ba:∀m:Fin 5,∀i:Fin 4,i.val<m.val->iL (List.range m.val) (iJ i.val)=some i.val:=by decide +kernel
theorem Lw{ai i:Nat}(hm:ai<=4)(hi:i<ai)(a:bj){e:Int}(h0:1<=e):vO ai a (qy i e)=if e<=99 then some (a.1.set i e,a.2)else none:=by
 have h4:i<4:=by lia
 have lp:=Ba ⟨ai,by lia⟩ ⟨i,h4⟩ hi;unfold vO;rw[Ef h4,Vu VC,Lv h4 h0,Hg h4];dsimp only at lp;rw[lp];split
 .rename_i h;split at h
  .cases h;rename_i h9;rw[Vo h9]
  .cases h
 .rename_i h;split at h
  .cases h
  .rename_i h9;rw[Vu h9]
theorem vT{ai:Nat}(hm:ai<=4):∀(es pre:_v)(n:Int),pre.length+es.length=ai->(∀e∈es,0<=e)->lu ai (pre++List.replicate es.length 0,n) (bq pre.length es)=if(∀e∈es,e<=99)then some (pre++es,n)else none
 |[],pre,n,_,_=>by rw[Vo (fun e he=>by cases he)];rfl
 |e::es,pre,n,hl,hr=>by
  have UY:pre.length+(es.length+1)=ai:=hl;have h0:=hr e Vt;have ih:=fun x=>vT hm es (pre++[x]) n (by rw[Vx,W4];lia) fun y hy=>hr y (Vr _ hy);have lp:∀x:Int,(pre++[x]).length=pre.length+1:=fun x=>by rw[Vx,W4]
  have e1:pre++List.replicate (e::es).length (0:Int)=pre++[0]++List.replicate es.length 0:=by rw[Vl,VV,Vs];rfl
  unfold bq;by_cases z:e=0
  .have i0:=ih 0;rw[lp]at i0;rw[Vo z,e1,i0];subst z;by_cases h:∀x∈es,x<=99
   .rw[Vo h,Vo (fun x hx=>by
     rcases VG.mp hx with rfl|hx
     .decide
     .exact h x hx),Vs]
    rfl
   .rw[Vu h,Vu fun k=>h fun x hx=>k x (Vr _ hx)]
  .rw[Vu z];unfold lu;rw[Lw hm (by lia) _ (by lia)];by_cases h9:e<=99
   .rw[Vo h9];dsimp only;have e2:(pre++List.replicate (e::es).length (0:Int)).set pre.length e=pre++[e]++List.replicate es.length 0:=by rw[WJ _ _ (Vq _),Ws,Vl,VV,Vs];rfl
    have ie:=ih e;rw[lp]at ie;rw[e2,ie];by_cases h:∀x∈es,x<=99
    .rw[Vo h,Vo (fun x hx=>by
      rcases VG.mp hx with rfl|hx
      .exact h9
      .exact h x hx),Vs]
     rfl
    .rw[Vu h,Vu fun k=>h fun x hx=>k x (Vr _ hx)]
   .rw[Vu h9,Vu fun k=>h9 (k e Vt)]
def okN(c:Nat):Prop:=(48<=c/\c<=57)\/(119<=c/\c<=122)\/c=94
theorem p4:∀(es:_v)(k:Nat),k+es.length<=4->(∀e∈es,0<=e)->∀f∈bq k es,∀c∈cl f,okN c
 |[],_,_,_,f,hf=>by cases hf
 |e::es,k,hk,hr,f,hf=>by
  have O?:k+(es.length+1)<=4:=hk;have ih:=p4 es (k+1) (by lia) fun y hy=>hr y (Vr _ hy);unfold bq at hf;split at hf
  .exact ih f hf
  .rcases VG.mp hf with rfl|hf
   .intro c hc;rw[vS (by lia)]at hc;have r:=zi (i:=k) (by lia);split at hc
    .rw[V0]at hc;rw[hc];exact .inr (.inl r)
    .rcases VG.mp hc with rfl|hc
     .exact .inr (.inl r)
     .rcases VG.mp hc with rfl|hc
      .exact .inr (.inr rfl)
      .exact .inl ((lB (hr e Vt)).1 c hc)
   .exact ih f hf
theorem rN{t:_v}{n:Int}(hl:t.length<=4)(hr:∀e∈t,0<=e)(hn:0<=n):∀f∈e? t n,∀c∈cl f,okN c:=by
 intro f hf;unfold e? at hf;split at hf
 .exact p4 t 0 (by lia) hr f hf
 .rcases VG.mp hf with rfl|hf
  .exact fun c hc=>.inl ((lB hn).1 c hc)
  .exact p4 t 0 (by lia) hr f hf
theorem zr(t:_v)(n:Int):e? t n≠[]:=by
 unfold e?;split
 .rename_i h;exact h.2
 .simp
theorem Bb{ai:Nat}(hm:ai<=4){t:_v}{n:Int}{sg:Str}(hs:sg = "+" \/ sg = "-")(hl:t.length=ai)(hr:∀e∈t,0<=e)(hn:0<=n):pairF ai sg (b8 t n)=if(∀e∈t,e<=99)then some (t,(if sg = "-" then -1 else 1)*n)else none:=by
 have sp:Txt.split (b8 t n) "*" = e? t n:=pN (c:=42) (zr t n) fun f hf hc=>by have:=rN (by lia) hr hn f hf 42 hc;unfold okN at this;lia
 have fp:=fun n0=>vT hm t [] n0 (by simpa using hl) hr;unfold pairF;rw[Vo hs,sp];have rp:List.replicate ai (0:Int)=[]++List.replicate t.length 0:=by rw[hl];rfl
 generalize (if sg = "-" then(-1:Int)else 1)=n0;unfold e?;by_cases h:n=1/\bq 0 t≠[]
 .rw[Vo h];have f1:=fp n0;rw[<-rp]at f1;rw[show bq 0 t=bq ([]:_v).length t from rfl,f1,h.1,Int.mul_one];rfl
 .rw[Vu h];have f1:=fp (n0*n);rw[<-rp]at f1;unfold lu;have ff:vO ai (List.replicate ai 0,n0) (bU n)=some (List.replicate ai 0,n0*n):=by unfold vO;rw[Vo (zj hn),tP hn]
  rw[ff];dsimp only;rw[show bq 0 t=bq ([]:_v).length t from rfl,f1];rfl
def Eg{α:Type}:List α->List α
 |[]=>[]
 |[a]=>[a]
 |a::_::r=>a::Eg r
theorem mG{α:Type}:∀xs:List α,(List.range ((xs.length+1) / 2)).filterMap (fun k=>xs[2*k]?)=Eg xs
 |[]=>by simp[Eg]
 |[a]=>by simp[Eg,List.range_succ]
 |a::b::r=>by
  have e:(((a::b::r).length+1) / 2)=(r.length+1) / 2+1:=by rw[Vl,Vl];lia
  rw[e,ZF,WX];show a::_=a::Eg r;rw[<-mG r,YH];congr 1
theorem Eh{α:Type}(xs:List α):ft xs 2=Eg xs:=by
 rw[<-mG];unfold ft;have e:sliceRange 0 (xs.length:Int) 2=(List.range ((xs.length+1) / 2)).map fun k=>2*k:=by
  unfold sliceRange;have c:(if(2:Int)>0 then(if(0:Int)<(xs.length:Int) then((xs.length:Int)-0+2-1) / 2 else 0) else(if(0:Int)>(xs.length:Int) then(0-(xs.length:Int)-2-1) / (-2)else 0)).toNat=(xs.length+1) / 2:=by rw[Vo (by decide)];split<;>lia
  dsimp only;rw[c];refine Wx fun k _=>?_;lia
 rw[e,YH];rfl
theorem Ei{α:Type}(a:α)(xs:List α):eV (a::xs) 1 2=Eg xs:=by
 rw[<-mG];unfold eV;have e:sliceRange (max 0 (min 1 ((a::xs).length:Int))) ((a::xs).length:Int) 2=(List.range ((xs.length+1) / 2)).map fun k=>2*k+1:=by
  have s1:max 0 (min 1 ((a::xs).length:Int))=1:=by rw[Vl];lia
  rw[s1];unfold sliceRange;have c:(if(2:Int)>0 then(if(1:Int)<((a::xs).length:Int) then(((a::xs).length:Int)-1+2-1) / 2 else 0) else(if(1:Int)>((a::xs).length:Int) then(1-((a::xs).length:Int)-2-1) / (-2)else 0)).toNat=(xs.length+1) / 2:=by rw[Vo (by decide),Vl];split<;>lia
  dsimp only;rw[c];refine Wx fun k _=>?_;lia
 rw[e,YH];refine W' (fun f=>List.filterMap f (List.range ((xs.length+1) / 2))) (funext fun k=>?_);show(a::xs)[2*k+1]?=xs[2*k]?;rfl
def qi(n:Int):Str:=if n<0 then "-" else "+"
def kF(t:bj):Str:=b8 t.1 (cY t.2)
def rO:List bj->_z
 |[]=>[]
 |t::Q=>qi t.2::kF t::rO Q
theorem zt:∀(a:Str)(Q:List bj),Eg (a::rO Q)=a::Q.map kF
 |a,[]=>rfl
 |a,t::Q=>by show a::Eg (kF t::rO Q)=a::kF t::Q.map kF;rw[zt (kF t) Q]
theorem zu:∀Q:List bj,Eg (rO Q)=Q.map fun t=>qi t.2
 |[]=>rfl
 |[t]=>rfl
 |t::u::Q=>by show qi t.2::Eg (rO (u::Q))=_;rw[zu (u::Q)];rfl
theorem zx:∀Q:List bj,(rO Q).length=2*Q.length
 |[]=>rfl
 |t::Q=>by show(rO Q).length+1+1=2*(Q.length+1);rw[zx Q];lia
theorem Ej(n:Int):cl (dA false n)=32::cl (qi n)++[32]/\(cl (qi n)=[45]\/cl (qi n)=[43]):=by
 unfold dA qi;rw[Vu VC];split
 .exact⟨by decide +kernel,.inl (by decide +kernel)⟩
 .exact⟨by decide +kernel,.inr (by decide +kernel)⟩
theorem zy:∀(Q:List bj)(a:Str),cl (Txt.join "" (a::dR false Q))=jn 32 ((a::rO Q).map cl)
 |[],a=>by rw[jo];simp[dR,rO,jn]
 |t::Q,a=>by have ih:=zy Q (kF t);rw[jo]at ih⊢;show cl a++(cl (dA false t.2)++((kF t::dR false Q).map cl).flatten)=cl a++32::(cl (qi t.2)++32::jn 32 ((kF t::rO Q).map cl));rw[ih,(Ej t.2).1];simp
theorem tQ{t:bj}(hl:t.1.length<=4)(hr:∀e∈t.1,0<=e):(∀c∈cl (kF t),okN c\/c=42)/\∃c r,cl (kF t)=c::r/\okN c:=by
 have fs:=rN hl hr (gm t.2);have fn:=zr t.1 (cY t.2);have e:cl (kF t)=jn 42 ((e? t.1 (cY t.2)).map cl):=jI 42 _;have nz:∀f∈e? t.1 (cY t.2),cl f≠[]:=by
  intro f hf;unfold e? at hf;have pn:∀(es:_v)(k:Nat),k+es.length<=4->∀f∈bq k es,cl f≠[]:=by
   intro es
   induction es with
   |nil=>intro k _ f hf;cases hf
   |cons e es ih=>
    intro k hk f hf;have O?:k+(es.length+1)<=4:=hk;unfold bq at hf;split at hf
    .exact ih (k+1) (by lia) f hf
    .rcases VG.mp hf with rfl|hf
     .rw[vS (by lia)];split<;>simp
     .exact ih (k+1) (by lia) f hf
  split at hf
  .exact pn t.1 0 (by lia) f hf
  .rcases VG.mp hf with rfl|hf
   .exact(lB (gm t.2)).2
   .exact pn t.1 0 (by lia) f hf
 rw[e];generalize e? t.1 (cY t.2)=F at fs fn nz;constructor
 .clear fn nz e
  induction F with
  |nil=>intro c hc;cases hc
  |cons a F ih=>
   cases F with
   |nil=>
    intro c hc;exact .inl (fs a Vt c hc)
   |cons b F=>
    intro c hc;have c9:c∈cl a++42::jn 42 ((b::F).map cl):=hc;rcases Wt.mp c9 with h|h
    .exact .inl (fs a Vt c h)
    .rcases VG.mp h with h|h
     .exact .inr h
     .exact ih (fun f hf=>fs f (Vr _ hf)) c h
 .cases F with
  |nil=>exact absurd rfl fn
  |cons a F=>
   have na:=nz a Vt;cases ha:cl a with
   |nil=>exact absurd ha na
   |cons c r=>
    have oc:okN c:=fs a Vt c (by rw[ha];exact Vt);cases F with
    |nil=>exact⟨c,r,ha,oc⟩
    |cons b F=>
     refine⟨c,r++42::jn 42 ((b::F).map cl),?_,oc⟩;show cl a++_=_;rw[ha];rfl
theorem tR:∀{Q:List bj}{w:Str},w∈rO Q->(∃t∈Q,w=kF t)\/(∃n,w=qi n)
 |t::Q,w,h=>by
  rcases VG.mp h with rfl|h
  .exact .inr ⟨_,rfl⟩
  .rcases VG.mp h with rfl|h
   .exact .inl ⟨t,Vt,rfl⟩
   .rcases tR h with⟨u,hu,e⟩|e
    .exact .inl ⟨u,Vr _ hu,e⟩
    .exact .inr e
theorem nr{t:bj}{Q:List bj}(hl:∀u∈t::Q,u.1.length<=4/\∀e∈u.1,0<=e):cw (aY (t::Q))=qi t.2/\iM (aY (t::Q))=kF t::rO Q/\asc (aY (t::Q)):=by
 obtain⟨l1,l2⟩:=hl t Vt;obtain⟨_,c,r,hc,oc⟩:=tQ l1 l2;have eS:aY (t::Q)=Txt.join "" (dA true t.2::kF t::dR false Q):=by unfold aY;rw[Vu (by simp)];rfl
 have bc:=zy Q (kF t);have xc:cl (aY (t::Q))=cl (dA true t.2)++jn 32 ((kF t::rO Q).map cl):=by rw[eS,jo,Vp,WS,<-bc,jo]
 have hd:∃r',jn 32 ((kF t::rO Q).map cl)=c::r':=by
  cases hw:rO Q with
  |nil=>exact⟨r,hc⟩
  |cons w W=>
   refine⟨r++32::jn 32 ((w::W).map cl),?_⟩;show cl (kF t)++_=_;rw[hc];rfl
 obtain⟨r',Pb⟩:=hd;have st:Txt.startswith (aY (t::Q)) "-" = decide (t.2<0)/\cl (iQ (aY (t::Q)))=jn 32 ((kF t::rO Q).map cl):=by
  have so:Txt.startswith (aY (t::Q)) "-" = ((cl (aY (t::Q))).take 1==[45]):=xC _ 45;unfold iQ;rw[so,xc];unfold dA;rw[Vo rfl];by_cases h:t.2<0
  .have e1:cl ("-":Str)=[45]:=by decide +kernel
   rw[Vo h,e1,VF h];refine⟨by simp,?_⟩;rw[Vo (by simp)];show cl (Txt.slice (aY (t::Q)) (some 1) none)=_;rw[iI,xc];unfold dA;rw[Vo rfl,Vo h,e1];rfl
  .have e1:cl ("":Str)=[]:=by decide +kernel
   rw[Vu h,e1,VM h,VA,Pb];have ne:((c::r').take 1==[45])=false:=by show([c]==[45])=false;refine WE fun z=>?_;injection z with z _;unfold okN at oc;lia
   refine⟨ne,?_⟩;rw[ne,Vu VC,xc];unfold dA;rw[Vo rfl,Vu h,e1,VA,Pb]
 have free:∀w∈kF t::rO Q,∀x∈cl w,okN x\/x=42\/x=43\/x=45:=by
  intro w hw x hx;rcases VG.mp hw with rfl|hw
  .rcases(tQ l1 l2).1 x hx with z|z
   .exact .inl z
   .exact .inr (.inl z)
  .rcases tR hw with⟨u,hu,rfl⟩|⟨n,rfl⟩
   .obtain⟨k1,k2⟩:=hl u (Vr _ hu);rcases(tQ k1 k2).1 x hx with z|z
    .exact .inl z
    .exact .inr (.inl z)
   .rcases(Ej n).2 with z|z
    .rw[z]at hx;exact .inr (.inr (.inr (V0.mp hx)))
    .rw[z]at hx;exact .inr (.inr (.inl (V0.mp hx)))
 refine⟨?_,?_,?_⟩
 .unfold cw qi;rw[st.1];by_cases h:t.2<0
  .rw[VF h,Vo rfl,Vo h]
  .rw[VM h,Vu VC,Vu h]
 .have eb:iQ (aY (t::Q))=Txt.join ⟨#[32]⟩ (kF t::rO Q):=fX (by rw[st.2,jI]);unfold iM;rw[eb];refine pN (c:=32) (by simp) fun w hw hc=>?_;have:=free w hw 32 hc;unfold okN at this;lia
 .intro x hx;rw[xc]at hx;rcases Wt.mp hx with hx|hx
  .have:cl (dA true t.2)=[45]\/cl (dA true t.2)=[]:=by
    unfold dA;rw[Vo rfl];split
    .exact .inl (by decide +kernel)
    .exact .inr (by decide +kernel)
   rcases this with z|z
   .rw[z]at hx;rw[V0.mp hx];decide
   .rw[z]at hx;cases hx
  .have jm:∀(W:_z)(x:Nat),x∈jn 32 (W.map cl)->x=32\/∃w∈W,x∈cl w:=by
    intro W
    induction W with
    |nil=>intro x hx;cases hx
    |cons a W ih=>
     intro x hx;cases W with
     |nil=>exact .inr ⟨a,Vt,hx⟩
     |cons b W=>
      have NV:x∈cl a++32::jn 32 ((b::W).map cl):=hx;rcases Wt.mp NV with h|h
      .exact .inr ⟨a,Vt,h⟩
      .rcases VG.mp h with h|h
       .exact .inl h
       .rcases ih x h with z|⟨w,hw,z⟩
        .exact .inl z
        .exact .inr ⟨w,Vr _ hw,z⟩
   rcases jm _ x hx with z|⟨w,hw,z⟩
   .lia
   .have:=free w hw x z;unfold okN at this;lia
theorem nu{ai:Nat}(hm:ai<=4):∀P:List bj,(∀t∈P,t.1.length=ai/\∀e∈t.1,0<=e)->js ai (P.map fun t=>(qi t.2,kF t))=if(∀t∈P,∀e∈t.1,e<=99)then some P else none
 |[],_=>by rw[Vo (fun t ht=>by cases ht)];rfl
 |t::P,h=>by
  obtain⟨h1,h2⟩:=h t Vt;have ih:=nu hm P fun u hu=>h u (Vr _ hu);have hs:qi t.2 = "+" \/ qi t.2 = "-":=by
   unfold qi;split
   .exact .inr rfl
   .exact .inl rfl
  have pt:=Bb hm hs h1 h2 (gm t.2);have en:(if qi t.2 = "-" then(-1:Int)else 1)*cY t.2=t.2:=by
   unfold qi cY;by_cases z:t.2<0
   .rw[Vo z,Vo z,Vo rfl];lia
   .have ne:¬ (("+":Str) = "-"):=by decide
    rw[Vu z,Vu z,Vu ne];lia
  rw[en]at pt;rw[Vp];unfold js;show(match pairF ai (qi t.2) (b8 t.1 (cY t.2)) with|some c=>_|none=>none)=_;rw[pt,ih];by_cases k1:∀e∈t.1,e<=99
  .rw[Vo k1];dsimp only;by_cases k2:∀u∈P,∀e∈u.1,e<=99
   .rw[Vo k2,Vo (fun u hu=>by
     rcases VG.mp hu with rfl|hu
     .exact k1
     .exact k2 u hu)]
   .rw[Vu k2,Vu fun z=>k2 fun u hu=>z u (Vr _ hu)]
  .rw[Vu k1];dsimp only;rw[Vu (c:=∀u∈t::P,∀e∈u.1,e<=99) fun z=>k1 (z t Vt)]
theorem vU{α β γ:Type}(f:α->β)(g:α->γ):∀l:List α,(l.map f).zip (l.map g)=l.map fun x=>(f x,g x)
 |[]=>rfl
 |a::l=>by rw[Vp,Vp,List.zip_cons_cons,vU f g l,Vp]
theorem Bc{ai:Nat}(hm:ai<=4){t:bj}{Q:List bj}(h:∀u∈t::Q,u.1.length=ai/\∀e∈u.1,0<=e):xQ ai (aY (t::Q))=if(∀u∈t::Q,∀e∈u.1,e<=99)then some (t::Q)else none:=by
 obtain⟨p1,p2,_⟩:=nr (t:=t) (Q:=Q) fun u hu=>⟨by have:=(h u hu).1;lia,(h u hu).2⟩
 unfold xQ;rw[p1,p2,Ei,Eh,zu,zt];have ln:¬ ((kF t::rO Q).length % 2=0):=by rw[Vl,zx];lia
 rw[Vu ln];have zp:(qi t.2::Q.map fun u=>qi u.2).zip (kF t::Q.map kF)=(t::Q).map fun u=>(qi u.2,kF u):=by show(((t::Q).map fun u=>qi u.2).zip ((t::Q).map kF))=_;exact vU _ _ _
 rw[zp];exact nu hm (t::Q) h
end PG
namespace PG
open PySem.Spec L2 MN
open PyProof.Rows hiding St kindOf
section
variable{r:Int}{M:Gd}{q p:Nat}{es pt:_v}{st:aj}
end
theorem Oi{lo:Int}{n i:Nat}{u:av}(h:(aW lo n)[i]?=some u):i<n/\u=.int (lo+(i:Int)):=by unfold aW at h;have wM:=fh h;rw[Vn,Wa]at wM;rw[VU,Yy wM]at h;exact⟨wM,(V? h).symm⟩
theorem Lx(lo:Int)(n:Nat):(aW lo n).length=n:=by unfold aW;rw[Vn,Wa]
section
variable{r:Int}{q p:Nat}{pt:_v}{st:aj}{t:bj}
end
section
variable{r:Int}{p a ai:Nat}{D:List bj}{st:aj}{k:_v}
end
section
variable{r:Int}{p a ai:Nat}{D:List bj}{st:aj}{t:bj}
end
theorem vV:∀(P A:List bj)(t:bj),t∈P.foldl gF A->(∃u∈A,t.1=u.1)\/∃u∈P,t.1=u.1
 |[],A,t,h=>.inl ⟨t,h,rfl⟩
 |x::P,A,t,h=>by
  rcases vV P (gF A x) t h with⟨u,hu,e⟩|⟨u,hu,e⟩
  .rcases pP hu with hu|hu
   .exact .inl ⟨u,hu,e⟩
   .exact .inr ⟨x,Vt ..,by rw[e,hu]⟩
  .exact .inr ⟨u,Vr _ hu,e⟩
theorem Ek{r:Int}{P:List bj}{t:bj}(h:t∈bM r (cU P)):∃u∈P,t.1=u.1:=by
 obtain⟨q,hq,e,_⟩:=lq h;rcases vV P [] q hq with⟨u,hu,_⟩|⟨u,hu,e2⟩
 .cases hu
 .exact⟨u,hu,e.trans e2⟩
section
variable{ns:_v}{r:Int}{ai:Nat}{st:aj}
end
end PG
namespace A3
open PySem.Spec L2 MN PG TX
open PyProof.Rows hiding St kindOf
def Nb(n:Int):Prop:=-(10 ^ 57)<=n/\n<=10 ^ 57
theorem p5{c:Int}(h:0<=c)(st:aj):∃r,PM.bz [.int c] st=.ok (.int r) st/\Nb r:=by
 have d7:Dz 7:=nJ (by decide) (by decide);have U9:Dz 14:=nJ (by decide) (by decide);have cp:zO 10 57:=by decide
 have tn:Int.toNat 57=57:=rfl;cases hz:c.fmod 7==0 with
 |true=>
  have q:=f? (m:=2) (by decide) (c.fdiv 7);have q2:=f? (m:=10 ^ 57) (by decide) (c.fdiv 14);refine⟨(1-(c.fdiv 7).fmod 2*2)*(c.fdiv 14).fmod (10 ^ 57),?_,?_⟩
  .have nz:¬ (10:Int) ^ 57=0:=by decide
   simp only[PM.bz,bb,aq,aB,fk,bA,aS,bw,aP,b?,c!,cF,ba,a8,aw,aQ,bx,xg,d_,bR,Vp,VO,VP,VA,Vz,Nat.reduceSub,Vl,VH,Nat.reduceAdd,cG (j:=7) (by decide),hz,div_ii d7,div_ii U9,cG (j:=2) (by decide),mul_r (j:=2) (by decide) (by decide),CY cp,tn,cG nz,px (i:=1-(c.fdiv 7).fmod 2*2) (by lia) (by lia)]
  .have hs:1-(c.fdiv 7).fmod 2*2=1\/1-(c.fdiv 7).fmod 2*2 = -1:=by lia
   unfold Nb;rcases hs with e|e
   .rw[e,Int.one_mul];lia
   .rw[e,Int.neg_one_mul];lia
 |false=>
  cases hy:decide (c.fmod 7<3) with
  |true=>
   have q:=f? (m:=3) (by decide) (c.fdiv 7);refine⟨(c.fdiv 7).fmod 3-1,?_,?_⟩
   .simp only[PM.bz,bb,aq,aB,az,fk,bA,aS,bw,aP,b?,c!,cS,cF,ba,a8,aw,cR,aQ,bx,xg,hG,d_,bR,Vp,VO,VP,VA,Vz,Nat.reduceSub,Vl,VH,Nat.reduceAdd,cG (j:=7) (by decide),hz,hy,div_ii d7,cG (j:=3) (by decide)]
   .unfold Nb;lia
  |false=>
   have q:=f? (m:=19) (by decide) (c.fdiv 7);refine⟨(c.fdiv 7).fmod 19-9,?_,?_⟩
   .simp only[PM.bz,bb,aq,aB,az,bA,aS,bw,aP,b?,cS,cF,ba,a8,aw,cR,aQ,bx,xg,hG,d_,bR,Vp,VO,VP,VA,Vz,Nat.reduceSub,Vl,VH,Nat.reduceAdd,cG (j:=7) (by decide),hz,hy,div_ii d7,cG (j:=19) (by decide)]
   .unfold Nb;lia
abbrev zz:MB:=aA (aE 6 (ak PM.bW (ae (ak PM.aT (ae (aa 0) (ae Ig ao))) (ae (aa 2) ao)))) (cD (gR bZ (aa 4) (ae (fT (ae (aa 6) (ae (ak PM.bz (ae (ak PM.aT (ae (aa 0) (ae (ah bo Ig (mC (.int 1))) ao))) ao)) ao))) ao)))
theorem El{n q ai:Nat}{ns:_v}{place size k:Int}{P:List bj}{s:aj}{y6:Option av}(h:au s n=some (ns.map av.int))(hq:s[q]?=some (.lst (P.map tV)))(p0:0<=place)(p1:place<=1000)(k0:0<=k)(k1:k<=1000)(hm:ai<=4)(hl:P.length<=64):
  ∃g t y,zz [some (.loc n),some (.int place),some (.int (ai:Int)),some (.int size),some (.loc q),some (.int k),y6] s=.nx [some (.loc n),some (.int place),some (.int (ai:Int)),some (.int size),some (.loc q),some (.int k),y] ((s++g).set q (.lst ((P++[t]).map tV)))/\Good ai t/\Nb t.2:=by
 have pl:∀(s:aj)(y:Option av),Ig [some (.loc n),some (.int place),some (.int (ai:Int)),some (.int size),some (.loc q),some (.int k),y] s=.ok (.int (place+2*k)) s:=fun s y=>by have a:ah cN (mC (.int 2)) (aa 5) [some (.loc n),some (.int place),some (.int (ai:Int)),some (.int size),some (.loc q),some (.int k),y] s=.ok (.int (2*k)) s:=px (i:=2) (by decide) (by decide);unfold Ig;rw[aX (x:=.int place) (s1:=s) rfl a];rfl
 obtain⟨o,ho,o0,_⟩:=tq (k:=place+2*k) h (by lia) (by lia);obtain⟨g,es,ee,le,re⟩:=h_ o hm s;have a1:aE 6 (ak PM.bW (ae (ak PM.aT (ae (aa 0) (ae Ig ao))) (ae (aa 2) ao))) [some (.loc n),some (.int place),some (.int (ai:Int)),some (.int size),some (.loc q),some (.int k),y6] s=.nx [some (.loc n),some (.int place),some (.int (ai:Int)),some (.int size),some (.loc q),some (.int k),some (aR es)] (s++g):=by
  refine bJ (v:=aR es) ?_;rw[aM (iT (v:=.int o) (s1:=s) (w:=.int (ai:Int)) (s2:=s) ?_ rfl)]
  .exact ee
  .rw[aM (iT (v:=.loc n) (s1:=s) rfl (pl s y6))];exact ho
 have h2:=aC h g;obtain⟨o2,BN,U_,_⟩:=tq (k:=place+2*k+1) h2 (by lia) (by lia);obtain⟨r,hr,br⟩:=p5 U_ (s++g);have num:ak PM.bz (ae (ak PM.aT (ae (aa 0) (ae (ah bo Ig (mC (.int 1))) ao))) ao) [some (.loc n),some (.int place),some (.int (ai:Int)),some (.int size),some (.loc q),some (.int k),some (aR es)] (s++g)=.ok (.int r) (s++g):=by
  have ad:ah bo Ig (mC (.int 1)) [some (.loc n),some (.int place),some (.int (ai:Int)),some (.int size),some (.loc q),some (.int k),some (aR es)] (s++g)=.ok (.int (place+2*k+1)) (s++g):=by rw[aX (pl (s++g) _) (y:=.int 1) (s2:=s++g) rfl];rfl
  rw[aM (dP (v:=.int o2) (s1:=s++g) ?_)]
  .exact hr
  .rw[aM (iT (v:=.loc n) (s1:=s++g) rfl ad)];exact BN
 refine⟨g,(es,r),some (aR es),?_,⟨le,re⟩,br⟩;have ap:=mB (o:=aa 4) (a:=ae (fT (ae (aa 6) (ae (ak PM.bz (ae (ak PM.aT (ae (aa 0) (ae (ah bo Ig (mC (.int 1))) ao))) ao)) ao))) ao) (v:=tV (es,r)) (μ:=[some (.loc n),some (.int place),some (.int (ai:Int)),some (.int size),some (.loc q),some (.int k),some (aR es)]) (s:=s++g) (n:=q) rfl (cT hq g) (dP (tD (iT (v:=aR es) (s1:=s++g) rfl num) (by show 2<=1000;decide))) (cT hq g) (by rw[Vn];lia);unfold zz;rw[aw,a1,az,ap,Wz];rfl
theorem qB{n ai size:Nat}{ns:_v}{place:Int}{st:aj}(h:au st n=some (ns.map av.int))(p0:0<=place)(p1:place<=1000)(hm:ai<=4)(hs:size<=60):
  ∃(g:aj)(P:List bj),PM.d8 [.loc n,.int place,.int (ai:Int),.int (size:Int)] st=.ok (.loc st.length) (st ++ .lst (P.map tV)::g)/\P.length=size/\∀t∈P,Good ai t/\Nb t.2:=by
 obtain⟨μ',ax,e,P,g,lP,hP,rfl,y5,y6,rfl⟩:=dy (g:=fun _=>True) (a:=ay 5) (body:=zz)
  (fun i μ s'=>∃(P:List bj)(g:aj),P.length=i/\(∀t∈P,Good ai t/\Nb t.2)/\s'=st ++ .lst (P.map tV)::g/\∃y5 y6,μ=[some (.loc n),some (.int place),some (.int (ai:Int)),some (.int (size:Int)),some (.loc st.length),y5,y6])
  (aW 0 (size:Int).toNat) 0 [some (.loc n),some (.int place),some (.int (ai:Int)),some (.int (size:Int)),some (.loc st.length),none,none] (st++[.lst []])
  (by
   rintro i u μ s' hu ⟨P,g,lP,hP,rfl,y5,y6,rfl⟩;refine⟨trivial,?_⟩;have rE:=hu;unfold aW at rE;rw[VU]at rE;have hi:i<(size:Int).toNat:=by
    rcases V! i (size:Int).toNat with q|q
    .exact q
    .rw[V7 (by rw[Wa];exact q)]at rE;cases rE
   rw[VE (by rw[Wa];exact hi),X7]at rE;cases rE;have UX:i<60:=by lia
   obtain⟨g2,t,y,eb,gt,bt⟩:=El (size:=(size:Int)) (k:=0+(i:Int)) (y6:=y6) (aC h (.lst (P.map tV)::g)) (sW st _ g) p0 p1 (by lia) (by lia) hm (by lia);refine⟨_,rfl,_,_,.inl eb,P++[t],g++g2,by rw[Vx,lP];rfl,?_,?_,_,_,rfl⟩
   .intro x hx;rcases Wt.mp hx with hx|hx
    .exact hP x hx
    .rw[V0.mp hx];exact⟨gt,bt⟩
   .rw[Vs];exact sV st _ _ _)
  (fun _ _ _=>trivial) ⟨[],[],rfl,fun _ h=>(by cases h),rfl,none,none,rfl⟩
 refine⟨g,P,?_,by rw[lP];unfold aW;rw[Vn,Wa];lia,hP⟩;have a1:aE 4 (bK ao) [some (.loc n),some (.int place),some (.int (ai:Int)),some (.int (size:Int)),none,none,none] st=.nx [some (.loc n),some (.int place),some (.int (ai:Int)),some (.int (size:Int)),some (.loc st.length),none,none] (st++[.lst []]):=bJ (gX (vs:=[]) rfl (V' _));have a5:bE (ae (aa 3) ao) [some (.loc n),some (.int place),some (.int (ai:Int)),some (.int (size:Int)),some (.loc st.length),none,none] (st++[.lst []])=.ok (aW 0 (size:Int).toNat,fun _=>True) (st++[.lst []]):=mw rfl (by lia) (by lia);unfold PM.d8;rw[bb (np:=4) (us:=[av.loc n,.int place,.int (ai:Int),.int (size:Int)]) rfl];show(aA (aE 4 (bK ao)) (aA (dO (bE (ae (aa 3) ao)) (ay 5) zz) (a7 (aa 4))) [some (.loc n),some (.int place),some (.int (ai:Int)),some (.int (size:Int)),none,none,none] st).fin=_;rw[aw,a1,az,aw,eT,a5,aB,gx,e,az];rfl
abbrev Em:ME:=fT (ae (ak PM.bW (ae (ah bo (ah bX (aa 2) (mC (.int 7))) (ah cN (mC (.int 37)) (aa 0))) (ae (aa 1) ao))) (ae (ak PM.bz (ae (ah bo (aa 2) (ah cN (mC (.int 5)) (aa 0))) ao)) ao))
theorem En{i:Int}{ai:Nat}{mix:Int}(i0:0<=i)(m0:0<=mix)(hm:ai<=4)(s:aj):∃g t,Em [some (.int i),some (.int (ai:Int)),some (.int mix)] s=.ok (tV t) (s++g)/\Good ai t/\Nb t.2:=by
 obtain⟨μ,hμ⟩:∃μ:MN.Env,μ=[some (.int i),some (.int (ai:Int)),some (.int mix)]:=⟨_,rfl⟩
 obtain⟨g,es,ee,le,re⟩:=h_ (mix.fdiv 7+37*i) hm s;have a1:ah bo (ah bX (aa 2) (mC (.int 7))) (ah cN (mC (.int 37)) (aa 0)) μ s=.ok (.int (mix.fdiv 7+37*i)) s:=by
  have d:ah bX (aa 2) (mC (.int 7)) μ s=.ok (.int (mix.fdiv 7)) s:=ki (by rw[hμ];rfl) (nJ (by decide) (by decide));have m:ah cN (mC (.int 37)) (aa 0) μ s=.ok (.int (37*i)) s:=by rw[hμ];exact px (i:=37) (by decide) (by decide)
  rw[aX d m];rfl
 have e1:ak PM.bW (ae (ah bo (ah bX (aa 2) (mC (.int 7))) (ah cN (mC (.int 37)) (aa 0))) (ae (aa 1) ao)) μ s=.ok (aR es) (s++g):=by rw[aM (iT a1 (w:=.int (ai:Int)) (s2:=s) (by rw[hμ];rfl)),ee]
 obtain⟨r,hr,br⟩:=p5 (c:=mix+5*i) (by lia) (s++g);have a2:ah bo (aa 2) (ah cN (mC (.int 5)) (aa 0)) μ (s++g)=.ok (.int (mix+5*i)) (s++g):=by
  have m:ah cN (mC (.int 5)) (aa 0) μ (s++g)=.ok (.int (5*i)) (s++g):=by rw[hμ];exact px (i:=5) (by decide) (by decide)
  rw[aX (x:=.int mix) (s1:=s++g) (by rw[hμ];rfl) m];rfl
 have e2:ak PM.bz (ae (ah bo (aa 2) (ah cN (mC (.int 5)) (aa 0))) ao) μ (s++g)=.ok (.int r) (s++g):=by rw[aM (dP a2),hr]
 refine⟨g,(es,r),?_,⟨le,re⟩,br⟩;rw[<-hμ];exact tD (iT e1 e2) (by show 2<=1000;decide)
theorem Ly{μ:MN.Env}{m:ME}{ai size:Nat}{mix:Int}{s:aj}(caps:List Nat)(hm:m μ s=.ok (.int (size:Int)) s)(hz:size<=60)(hc:iB 1 caps μ=[none,some (.int (ai:Int)),some (.int mix)])(m0:0<=mix)(h4:ai<=4):
  ∃(g:aj)(k:Nat)(P:List bj),bV 1 caps (bE (ae m ao)) (ay 0) bf Em μ s=.ok (.loc k) (s++g)/\(s++g)[k]?=some (.lst (P.map tV))/\P.length=size/\∀t∈P,Good ai t/\Nb t.2:=by
 obtain⟨τ',KR,ax,e,⟨P,rfl,lP,hP⟩,⟨g,rfl⟩,x,rfl⟩:=rH (a:=ay 0) (e:=Em)
  (fun i τ st ys=>(∃P:List bj,ys=P.map tV/\P.length=i/\∀t∈P,Good ai t/\Nb t.2)/\(∃g,st=s++g)/\∃x,τ=[x,some (.int (ai:Int)),some (.int mix)])
  (aW 0 (size:Int).toNat) 0 [none,some (.int (ai:Int)),some (.int mix)] s []
  (by
   rintro i u τ st ys hu ⟨⟨P,rfl,lP,hP⟩,⟨g,rfl⟩,x,rfl⟩;obtain⟨hi,rfl⟩:=Oi hu;obtain⟨g2,t,et,gt,bt⟩:=En (i:=0+(i:Int)) (by lia) m0 h4 (s++g);refine⟨_,rfl,tV t,s++(g++g2),by rw[<-Vs];exact et,⟨P++[t],by rw[Wz];rfl,by rw[Vx,lP];rfl,fun y hy=>?_⟩,⟨_,rfl⟩,_,rfl⟩;rcases Wt.mp hy with hy|hy
   .exact hP y hy
   .rw[V0.mp hy];exact⟨gt,bt⟩)
  ⟨⟨[],rfl,rfl,fun _ h=>(by cases h)⟩,⟨[],(VS s).symm⟩,none,rfl⟩
 have lr:(aW 0 (size:Int).toNat).length=size:=by rw[Lx];lia
 rw[lr,Wb]at lP;refine⟨g++[.lst (P.map tV)],(s++g).length,P,?_,by rw[<-Vs];exact fm _ _,lP,hP⟩;rw[d6,mw (dP hm) (by lia) (by lia),aq,fE,Vo (by rw[lr,VT];lia),hc,e,aq,g?,Vs]
structure Dr(r:Int)(ai:Nat)(D:List bj):Prop where
 told:bM r (cU D)=D
 vM:SO.e_ (D.map (·.1))
 len:∀t∈D,t.1.length=ai
 rg:∀t∈D,∀e∈t.1,0<=e/\e<=99
 big:∀t∈D,cY t.2<10 ^ 60
 Fv:D.length<=60
theorem Bd{r:Int}(hr:fu r=true)(n:Int):cZ r (cZ r n)=cZ r n:=by
 rcases zg hr with rfl|⟨h,_⟩
 .rw[D9,D9]
 .rw[D_ (by lia),D_ (by lia),Int.emod_emod]
theorem lC{r:Int}{D:List bj}(f:SO.e_ (D.map (·.1)))(h:∀t∈D,cZ r t.2=t.2/\t.2≠0):bM r (cU D)=D:=by
 rw[mE (dU f),mF f];unfold Og;have e:(D.map fun t=>(t.1,cZ r t.2))=D:=by
  have:(D.map fun t=>(t.1,cZ r t.2))=D.map id:=Wx fun t ht=>by show(t.1,cZ r t.2)=t;rw[(h t ht).1]
  rw[this,ZL]
 rw[e];exact XF.mpr fun t ht=>by simpa using(h t ht).2
theorem Hi{r:Int}{A:List bj}{t:bj}(h:t∈bM r A):t.2≠0:=by unfold bM at h;have:=(XM.mp h).2;simpa using this
theorem Dr.of{r:Int}{ai:Nat}{L:List bj}(hr:fu r=true)(hl:L.length<=60)(hL:∀t∈L,Good ai t/\Nb t.2):Dr r ai (bM r (cU L)):=by
 have rr:=zg hr;have S:=Hb (r:=r) (B:=10 ^ 57) (ai:=ai) (P:=L) (by decide) (by lia) (fun t ht=>(hL t ht).1.len) (fun t ht=>(hL t ht).2);refine⟨lC S.vM fun t ht=>⟨?_,Hi ht⟩,S.vM,S.len,fun t ht e he=>?_,fun t ht=>?_,by have:=vN r L;lia⟩
 .obtain⟨q,_,_,e⟩:=lq ht;rw[e,Bd hr]
 .obtain⟨u,hu,eu⟩:=Ek ht;rw[eu]at he;exact(hL u hu).1.rg e he
 .have b:=S.big t ht;have:(L.length:Int)*10 ^ 57<=60*10 ^ 57:=YZ (by lia) (by decide);unfold cY;split<;>lia
theorem Dr.wr{r:Int}{ai:Nat}{D:List bj}(R:Dr r ai D)(hm:ai<=4):∀t∈D,Wr t:=fun t ht=>⟨by rw[R.len t ht];exact hm,fun e he=>by have:=R.rg t ht e he;lia,R.big t ht⟩
def Ij(k:Int)(t:bj):bj:=(t.1.map (· * k),t.2)
theorem zA{k:Int}(hk:0<k):∀a b:_v,SO.lexLt (a.map (· * k)) (b.map (· * k))=SO.lexLt a b
 |[],[]=>rfl
 |_::_,[]=>rfl
 |[],_::_=>rfl
 |x::xs,y::ys=>by
  rw[Vp,Vp];unfold SO.lexLt;have e:x*k=y*k↔x=y:=⟨fun h=>Int.eq_of_mul_eq_mul_right (by lia) h,fun h=>by rw[h]⟩
  have l:x*k<y*k↔x<y:=⟨fun h=>Int.lt_of_mul_lt_mul_right h (by lia),fun h=>Int.mul_lt_mul_of_pos_right h hk⟩
  by_cases h:x=y
  .rw[Vo h,Vo (e.mpr h)];exact zA hk xs ys
  .rw[Vu h,Vu fun z=>h (e.mp z)];by_cases h2:x<y
   .rw[VF h2,VF (l.mpr h2)]
   .rw[VM h2,VM fun z=>h2 (l.mp z)]
theorem Hj{k:Int}(hk:0<k){D:List bj}(f:SO.e_ (D.map (·.1))):SO.e_ ((D.map (Ij k)).map (·.1)):=by unfold SO.e_ at *;rw[V6,Xx];rw[Xx]at f;refine f.imp fun{a b}h=>?_;show SO.lexLt (b.1.map (· * k)) (a.1.map (· * k))=true;rw[zA hk];exact h
theorem Hk{r:Int}{ai:Nat}{D:List bj}(R:Dr r ai D){k:Int}(hk:0<k):bM r (cU (D.map (Ij k)))=D.map (Ij k):=by
 have st:∀t∈D,cZ r t.2=t.2/\t.2≠0:=fun t ht=>by
  have hd:=R.told;rw[mE (dU R.vM),mF R.vM]at hd;rw[<-hd]at ht;unfold Og at ht;obtain⟨h1,h2⟩:=XM.mp ht;obtain⟨u,hu,rfl⟩:=VY.mp h1;refine⟨?_,by simpa using h2⟩;have:(u.1,cZ r u.2)∈D:=by rw[<-hd];exact ht
  have g1:=tK (dU R.vM) hu;have g2:=tK (dU R.vM) this;dsimp only at g2;rw[g1]at g2;dsimp only;rw[<-g2];exact g2.symm
 refine lC (Hj hk R.vM) fun t ht=>?_;obtain⟨u,hu,rfl⟩:=VY.mp ht;exact st u hu
theorem xT:∀m:Fin 5,1<=m.val->aY [(List.replicate m.val 0,0)] = "0":=by decide +kernel
theorem vW(t:bj):SO.e_ ([t].map (·.1)):=Yx _ _
theorem Lz{t:bj}{Q:List bj}(hw:∀u∈t::Q,Wr u):∀w∈kF t::rO Q,w.length<=640:=by
 have tl:∀u∈t::Q,(kF u).length<=640:=fun u hu=>by have w:=hw u hu;have:=k? w.len w.rg (gm u.2) w.nb;show(b8 u.1 (cY u.2)).length<=640;lia
 intro w h;rcases VG.mp h with rfl|h
 .exact tl t Vt
 .rcases tR h with⟨u,hu,rfl⟩|⟨n,rfl⟩
  .exact tl u (Vr _ hu)
  .rw[<-dY];rcases(Ej n).2 with z|z<;>(rw[z];decide)
theorem shown_le{P:List bj}(hw:∀u∈P,Wr u)(hn:P.length<=100):(aY P).length<=100000:=by
 unfold aY;split
 .decide +kernel
 .obtain⟨p1,p2⟩:=lg true P hw;have:=y_ p1;rw[p2]at this;have:2*P.length*305<=200*305:=Xo _ (by lia);lia
theorem rP{r:Int}{ai:Nat}(hr:fu r=true)(h1:1<=ai)(hm:ai<=4){t:bj}{Q:List bj}(hl:∀u∈t::Q,u.1.length=ai)(hw:∀u∈t::Q,Wr u)(hn:(t::Q).length<=100){D:List bj}(hD:bM r (cU (t::Q))=D)(wD:∀u∈D,Wr u)(sD:aY D=aY (t::Q))(st:aj):
  if(∀u∈t::Q,∀e∈u.1,e<=99)then ∃g k,PM.b! [.int r,.int (ai:Int),.str (aY (t::Q))] st=.ok (.loc k) (st++g)/\st.length<=k/\(st++g)[k]?=some (.lst (D.map tV))else ∃g,PM.b! [.int r,.int (ai:Int),.str (aY (t::Q))] st=.err "NotWritten" (st++g):=by
 have nn:∀u∈t::Q,u.1.length=ai/\∀e∈u.1,0<=e:=fun u hu=>⟨hl u hu,fun e he=>((hw u hu).rg e he).1⟩
 obtain⟨_,p2,p3⟩:=nr (t:=t) (Q:=Q) fun u hu=>⟨(hw u hu).len,(nn u hu).2⟩
 have ps:=Bc hm nn;have ld:D.length<=100:=by rw[<-hD];exact VR (vN r _) hn
 have rd:=Hf hr h1 hm p3 (shown_le hw hn) (by rw[p2];exact Lz hw) (fun P hP=>by
  rw[ps]at hP;split at hP
  .rename_i k;cases hP;refine⟨by lia,fun u hu=>⟨hl u hu,fun e he=>⟨(nn u hu).2 e he,k u hu e he⟩⟩,by rw[hD];lia,by rw[hD];exact wD⟩
  .cases hP) st
 rw[ps]at rd;by_cases k:∀u∈t::Q,∀e∈u.1,e<=99
 .rw[Vo k]at rd⊢;dsimp only at rd;rw[hD,Vo sD]at rd;exact rd
 .rw[Vu k]at rd⊢;exact rd
theorem p6{r:Int}{ai:Nat}(hr:fu r=true)(h1:1<=ai)(hm:ai<=4){P:List bj}(ht:bM r (cU P)=P)(hl:∀u∈P,u.1.length=ai)(hw:∀u∈P,Wr u)(hn:P.length<=100)(st:aj):
  if(∀u∈P,∀e∈u.1,e<=99)then ∃g k,PM.b! [.int r,.int (ai:Int),.str (aY P)] st=.ok (.loc k) (st++g)/\st.length<=k/\(st++g)[k]?=some (.lst (P.map tV))else ∃g,PM.b! [.int r,.int (ai:Int),.str (aY P)] st=.err "NotWritten" (st++g):=by
 cases P with
 |cons t Q=>exact rP hr h1 hm hl hw hn ht hw rfl st
 |nil=>
  have z:=xT ⟨ai,by lia⟩ h1;dsimp only at z;have hD:bM r (cU [(List.replicate ai (0:Int),(0:Int))])=[]:=by
   rw[mE (dU (vW _)),mF (vW _)];unfold Og;have e:cZ r 0=0:=by
    unfold cZ;split
    .rfl
    .rw[Int.zero_fmod]
   rw[Vp,VO,e];rfl
  have rc:=rP (t:=(List.replicate ai 0,0)) (Q:=[]) hr h1 hm (fun u hu=>by
   rw[V0.mp hu];exact Wd ..) (fun u hu=>by
   rw[V0.mp hu];refine⟨by rw[Wd];exact hm,fun e he=>?_,by show cY 0<10 ^ 60;decide⟩;rw[_j he];decide) (by show 1<=100;decide) hD (fun u hu=>by cases hu) (by rw[z];rfl) st
  rw[Vo (fun u hu e he=>by
   rw[V0.mp hu]at he;rw[_j he];decide),z]at rc
  rw[Vo (fun u hu=>by cases hu)];exact rc
theorem zB(f:Nat->Int)(c:Int):∀j,SO.kg f j>c↔∃i,i<=j/\f i>c
 |0=>⟨fun h=>⟨0,Vq _,h⟩,fun⟨i,hi,h⟩=>by
  have:i=0:=by lia
  subst this;exact h⟩
 |j+1=>by
  have ih:=zB f c j;unfold SO.kg;split
  .rename_i h;refine⟨fun z=>⟨j+1,Vq _,z⟩,fun⟨i,hi,z⟩=>?_⟩;by_cases e:i=j+1
   .subst e;exact z
   .have:=ih.mpr ⟨i,by lia,z⟩;lia
  .rename_i h;refine⟨fun z=>?_,fun⟨i,hi,z⟩=>?_⟩
   .obtain⟨i,hi,y⟩:=ih.mp z;exact⟨i,by lia,y⟩
   .by_cases e:i=j+1
    .subst e;lia
    .exact ih.mpr ⟨i,by lia,z⟩
theorem kZ:∀a:_v,hU (a.map av.int)=some a
 |[]=>rfl
 |x::a=>by rw[Vp];unfold hU;rw[kZ a];rfl
def EO(t:bj):Bool:=t.1.any fun e=>decide (99<e)
theorem LA{e:_v}(h:e≠[])(s:aj):∃m,sZ [aR e] s=.ok (.int m) s/\decide (99<m)=e.any fun x=>decide (99<x):=by
 cases e with
 |nil=>exact absurd rfl h
 |cons a r=>
  refine⟨_,by
   show(match hU ((a::r).map av.int) with|some (n::ns)=>_|_=>_)=_;rw[kZ],?_⟩
  rw[XX,Wj,YC];have mg:=zB (fun i=>(a::r).getD i 0) 99 r.length;constructor
  .intro z;obtain⟨i,hi,y⟩:=mg.mp z;have hl:i<(a::r).length:=by rw[Vl];lia
   refine⟨(a::r)[i],XC hl,VF ?_⟩;have:(a::r).getD i 0=(a::r)[i]:=by rw[W2,VE hl];rfl
   rw[<-this];exact y
  .rintro⟨x,hx,y⟩;obtain⟨i,hi,rfl⟩:=YX.mp hx;refine mg.mpr ⟨i,by rw[Vl]at hi;lia,?_⟩;have:(a::r).getD i 0=(a::r)[i]:=by rw[W2,VE hi];rfl
   show(a::r).getD i 0>99;rw[this];exact We y
abbrev Pg:ME:=bV 1 [1] (cQ (ah b5 (aa 0) (mC (.int 0)))) (ay 0) bf (ah cN (aa 0) (aa 1))
abbrev L3:ME:=fT (ae (ak kR (ae Pg ao)) (ae (ah b5 (aa 0) (mC (.int 1))) ao))
theorem Hl{t:bj}{k:Int}(hl:t.1.length<=4)(hr:∀e∈t.1,0<=e/\e<=99)(k0:0<k)(k1:k<10 ^ 7)(s:aj):L3 [some (tV t),some (.int k)] s=.ok (tV (Ij k t)) (s++[.lst ((t.1.map (· * k)).map .int)]):=by
 have sl:sizeLine=16777216:=VT;have cp:=pO (g:=fun _=>True) (a:=ay 0) (e:=ah cN (aa 0) (aa 1)) (st:=s) trivial (fun τ=>∃y,τ=[y,some (.int k)]) (fun i=>.int (i*k)) t.1 [none,some (.int k)] [] ⟨_,rfl⟩ (by
  rintro i hi τ ⟨y,rfl⟩;obtain⟨r0,r1⟩:=hr i hi;refine⟨[some (.int i),some (.int k)],rfl,⟨_,rfl⟩,?_⟩;show cN (.int i) (.int k) s=_;exact sT (rK (a:=10) (b:=30) (kE.of_lt r0 (by lia)) (kE.of_lt (by lia) (by lia)) (by decide) (by decide)))
 rw[VA]at cp;have ic:Pg [some (tV t),some (.int k)] s=.ok (.loc s.length) (s++[.lst ((t.1.map (· * k)).map .int)]):=by have ix:ah b5 (aa 0) (mC (.int 0)) [some (tV t),some (.int k)] s=.ok (.tup (t.1.map .int)) s:=rfl;unfold Pg;rw[d6,dj,ix,aq,mf,aq,fE,Vo (by rw[Vn];lia)];show((bQ _ _ _ _ _ [none,some (.int k)] s []).fR u_)=_;rw[cp,aq,g?,V6];rfl
 have tp:ak kR (ae Pg ao) [some (tV t),some (.int k)] s=.ok (aR (t.1.map (· * k))) (s++[.lst ((t.1.map (· * k)).map .int)]):=by rw[aM (dP ic)];exact sS (aL _ _)
 unfold L3;exact tD (iT tp (w:=.int t.2) (s2:=s++[.lst ((t.1.map (· * k)).map .int)]) rfl) (by show 2<=1000;decide)
theorem zC{k:Int}{g:aj->Prop}(hg:∀s m,g s->g (s++m))(k0:0<k)(k1:k<10 ^ 7):∀(Q:List bj)(y:Option av)(s:aj)(ys:List av),(∀t∈Q,t.1.length<=4/\∀e∈t.1,0<=e/\e<=99)->g s->∃m,bQ g (ay 0) bf L3 (Q.map tV) [y,some (.int k)] s ys=.ok (ys++(Q.map (Ij k)).map tV) (s++m)
 |[],y,s,ys,_,hs=>⟨[],by rw[VO,y7 hs];simp⟩
 |t::Q,y,s,ys,h,hs=>by obtain⟨h1,h2⟩:=h t Vt;obtain⟨m,e⟩:=zC hg k0 k1 Q (some (tV t)) (s++[.lst ((t.1.map (· * k)).map .int)]) (ys++[tV (Ij k t)]) (fun u hu=>h u (Vr _ hu)) (hg _ _ hs);refine⟨[.lst ((t.1.map (· * k)).map .int)]++m,?_⟩;rw[Vp,tH (y:=tV (Ij k t)) (τ1:=[some (tV t),some (.int k)]) (st1:=s) hs rfl rfl (Hl h1 h2 k0 k1 s),e];simp
abbrev Oj:ME:=bV 1 [] (cQ (aa 4)) (ay 0) (a! (ah Af (ak sZ (ae (ah b5 (aa 0) (mC (.int 0))) ao)) (mC (.int 99)))) (aa 0)
theorem zD{g:aj->Prop}{s:aj}(hg:g s):∀(Q:List bj)(y:Option av)(ys:List av),(∀t∈Q,t.1≠[])->bQ g (ay 0) (a! (ah Af (ak sZ (ae (ah b5 (aa 0) (mC (.int 0))) ao)) (mC (.int 99)))) (aa 0) (Q.map tV) [y] s ys=.ok (ys++(Q.filter EO).map tV) s
 |[],y,ys,_=>by rw[VO,y7 hg];simp
 |t::Q,y,ys,h=>by
  obtain⟨m,em,dm⟩:=LA (h t Vt) s;have ih:=fun y ys=>zD hg Q y ys fun u hu=>h u (Vr _ hu);have tc:a! (ah Af (ak sZ (ae (ah b5 (aa 0) (mC (.int 0))) ao)) (mC (.int 99))) [some (tV t)] s=.ok (EO t) s:=by
   refine bI ?_;have c:ak sZ (ae (ah b5 (aa 0) (mC (.int 0))) ao) [some (tV t)] s=.ok (.int m) s:=by rw[aM (dP (v:=aR t.1) (s1:=s) rfl)];exact em
   rw[aX c (y:=.int 99) (s2:=s) rfl];show cX.ok (av.bl (decide (99<m))) s=_;rw[dm];rfl
  rw[Vp];cases hb:EO t with
  |true=>
   rw[hb]at tc;rw[tH (y:=tV t) (τ1:=[some (tV t)]) (st1:=s) (st2:=s) hg rfl tc rfl,ih,Yz hb];simp
  |false=>
   rw[hb]at tc;rw[DY (τ1:=[some (tV t)]) (st1:=s) hg rfl tc,ih,YA (by rw[hb];simp)]
theorem Hm{F:List bj}:(F.filter EO).isEmpty=decide (∀u∈F,∀e∈u.1,e<=99):=by
 rw[XX,List.isEmpty_iff,Wj,List.filter_eq_nil_iff];constructor
 .intro h u hu e he;have z:=h u hu;unfold EO at z;rw[YC]at z;by_cases k:e<=99
  .exact k
  .exact absurd ⟨e,he,VF (by lia)⟩ z
 .intro h u hu z;unfold EO at z;obtain⟨e,he,k⟩:=YC.mp z;have:=h u hu e he;have:=We k;lia
theorem LB{r:Int}{ai p:Nat}{D:List bj}{k:Int}{st:aj}(hr:fu r=true)(h1:1<=ai)(hm:ai<=4)(R:Dr r ai D)(hp:st[p]?=some (.lst (D.map tV)))(k0:97<=k)(k1:k<10 ^ 6+98):∃s',gq [.int r,.int (ai:Int),.loc p,.int k] st=.ok (.bl true) s':=by
 have sl:sizeLine=16777216:=VT;have Fv:=R.Fv;obtain⟨F,hF⟩:∃F,F=D.map (Ij k):=⟨_,rfl⟩
 have lF:F.length<=60:=by rw[hF,Vn];exact Fv
 have tF:bM r (cU F)=F:=by rw[hF];exact Hk R (by lia)
 have zE:∀u∈F,u.1.length=ai:=fun u hu=>by rw[hF]at hu;obtain⟨t,ht,rfl⟩:=VY.mp hu;show(t.1.map (· * k)).length=ai;rw[Vn];exact R.len t ht
 have wF:∀u∈F,Wr u:=fun u hu=>by
  refine⟨by rw[zE u hu];exact hm,fun e he=>?_,?_⟩
  .rw[hF]at hu;obtain⟨t,ht,rfl⟩:=VY.mp hu;obtain⟨x,hx,rfl⟩:=VY.mp he;obtain⟨x0,x1⟩:=R.rg t ht x hx;have y0:0<=x*k:=Zk x0 (by lia);have y1:x*k<=99*k:=YZ x1 (by lia);lia
  .rw[hF]at hu;obtain⟨t,ht,rfl⟩:=VY.mp hu;exact R.big t ht
 -- zF QU row
 obtain⟨m,ec⟩:=zC (k:=k) (g:=fun s'=>au s' p=some (D.map tV)) (fun s m h=>aC h m) (by lia) (by lia) D none st [] (fun t ht=>⟨by rw[R.len t ht];exact hm,R.rg t ht⟩) (df hp);rw[VA,<-hF]at ec;obtain⟨s1,fJ⟩:∃s1,s1=st++m++[aG.lst (F.map tV)]:=⟨_,rfl⟩
 obtain⟨q,hq⟩:∃q,q=(st++m).length:=⟨_,rfl⟩
 have f4:aE 4 (bV 1 [3] (cQ (aa 2)) (ay 0) bf L3) [some (.int r),some (.int (ai:Int)),some (.loc p),some (.int k),none,none,none,none] st=.nx [some (.int r),some (.int (ai:Int)),some (.loc p),some (.int k),some (.loc q),none,none,none] s1:=by
  have c:bV 1 [3] (cQ (aa 2)) (ay 0) bf L3 [some (.int r),some (.int (ai:Int)),some (.loc p),some (.int k),none,none,none,none] st=.ok (.loc q) s1:=by have v2:aa 2 [some (.int r),some (.int (ai:Int)),some (.loc p),some (.int k),none,none,none,none] st=.ok (.loc p) st:=rfl;rw[d6,dj,v2,aq,c5 (df hp),aq,fE,Vo (by rw[Vn];lia)];show((bQ _ _ _ _ _ [none,some (.int k)] st []).fR u_)=_;rw[ec,aq,g?,<-fJ,<-hq]
  rw[bJ c];rfl
 have Pe:s1[q]?=some (.lst (F.map tV)):=by rw[fJ,hq];exact fm _ _
 obtain⟨g2,es⟩:=pV (df Pe) (by lia) wF;obtain⟨s2,gA⟩:∃s2,s2=s1++g2:=⟨_,rfl⟩
 rw[<-gA]at es;have Pc:s2[q]?=some (.lst (F.map tV)):=by rw[gA];exact cT Pe _
 obtain⟨x,hx⟩:∃x,x=aY F:=⟨_,rfl⟩
 rw[<-hx]at es;have f5:aE 5 (ak PM.shown (ae (aa 4) ao)) [some (.int r),some (.int (ai:Int)),some (.loc p),some (.int k),some (.loc q),none,none,none] s1=.nx [some (.int r),some (.int (ai:Int)),some (.loc p),some (.int k),some (.loc q),some (.str x),none,none] s2:=by
  have c:ak PM.shown (ae (aa 4) ao) [some (.int r),some (.int (ai:Int)),some (.loc p),some (.int k),some (.loc q),none,none,none] s1=.ok (.str x) s2:=by rw[aM (dP (v:=.loc q) (s1:=s1) rfl)];exact es
  rw[bJ c];rfl
 obtain⟨g3,ew⟩:=jq (df Pc) (by lia) wF;obtain⟨s3,ji⟩:∃s3,s3=s2++g3:=⟨_,rfl⟩
 rw[<-ji,<-hx]at ew;have Rw:s3[q]?=some (.lst (F.map tV)):=by rw[ji];exact cT Pc _
 have f6:dq (a! (ah fA (aa 5) (ak PM.bS (ae (aa 4) ao)))) (a7 (mC (.bl false))) aK [some (.int r),some (.int (ai:Int)),some (.loc p),some (.int k),some (.loc q),some (.str x),none,none] s2=.nx [some (.int r),some (.int (ai:Int)),some (.loc p),some (.int k),some (.loc q),some (.str x),none,none] s3:=by
  have c:ak PM.bS (ae (aa 4) ao) [some (.int r),some (.int (ai:Int)),some (.loc p),some (.int k),some (.loc q),some (.str x),none,none] s2=.ok (.str x) s3:=by rw[aM (dP (v:=.loc q) (s1:=s2) rfl)];exact ew
  have t:a! (ah fA (aa 5) (ak PM.bS (ae (aa 4) ao))) [some (.int r),some (.int (ai:Int)),some (.loc p),some (.int k),some (.loc q),some (.str x),none,none] s2=.ok false s3:=bI (by
   rw[aX (x:=.str x) (s1:=s2) rfl c,ng,Wu];rfl)
  rw[dD t]
 obtain⟨s4,EN⟩:∃s4,s4=s3++[aG.lst ((F.filter EO).map tV)]++[aG.lst []]:=⟨_,rfl⟩
 have f7:aE 6 (ah dr Oj (bK ao)) [some (.int r),some (.int (ai:Int)),some (.loc p),some (.int k),some (.loc q),some (.str x),none,none] s3=.nx [some (.int r),some (.int (ai:Int)),some (.loc p),some (.int k),some (.loc q),some (.str x),some (.bl (decide (∀u∈F,∀e∈u.1,e<=99))),none] s4:=by
  have c:Oj [some (.int r),some (.int (ai:Int)),some (.loc p),some (.int k),some (.loc q),some (.str x),none,none] s3=.ok (.loc s3.length) (s3++[aG.lst ((F.filter EO).map tV)]):=by have v4:aa 4 [some (.int r),some (.int (ai:Int)),some (.loc p),some (.int k),some (.loc q),some (.str x),none,none] s3=.ok (.loc q) s3:=rfl;unfold Oj;rw[d6,dj,v4,aq,c5 (df Rw),aq,fE,Vo (by rw[Vn];lia)];show((bQ _ _ _ _ _ [none] s3 []).fR u_)=_;rw[zD (df Rw) F none [] (fun u hu z=>by have:=zE u hu;rw[z]at this;simp at this;lia),aq,g?,VA]
  have e:ah dr Oj (bK ao) [some (.int r),some (.int (ai:Int)),some (.loc p),some (.int k),some (.loc q),some (.str x),none,none] s3=.ok (.bl (decide (∀u∈F,∀e∈u.1,e<=99))) s4:=by rw[aX c (gX (vs:=[]) (s1:=s3++[aG.lst ((F.filter EO).map tV)]) rfl (by decide)),eq_nil (aC (aL s3 _) _) (aL _ _),<-EN,<-Hm];cases F.filter EO<;>rfl
  rw[bJ e];rfl
 have U!:s4[q]?=some (.lst (F.map tV)):=by rw[EN];exact cT (cT Rw _) _
 have rd:=p6 hr h1 hm tF zE wF (by lia) s4;rw[<-hx]at rd;have run:gq=fQ 4 8 (aA (aE 4 (bV 1 [3] (cQ (aa 2)) (ay 0) bf L3)) (aA (aE 5 (ak PM.shown (ae (aa 4) ao))) (aA (dq (a! (ah fA (aa 5) (ak PM.bS (ae (aa 4) ao)))) (a7 (mC (.bl false))) aK) (aA (aE 6 (ah dr Oj (bK ao))) (aA (pf (sG (OX kn) (aE 7 (ak PM.b! (EJ (ae (aa 0) (ae (aa 1) (ae (aa 5) ao)))))) (m_ (uX tab) "NotWritten" (a7 (Ad (aa 6))) F6))) (a7 (kN (aa 6) (ak PM.cO (ae (aa 7) (ae (aa 4) ao)))))))))):=rfl;have head:∀b,decide (∀u∈F,∀e∈u.1,e<=99)=b->∀rr,(aA (pf (sG (OX kn) (aE 7 (ak PM.b! (EJ (ae (aa 0) (ae (aa 1) (ae (aa 5) ao)))))) (m_ (uX tab) "NotWritten" (a7 (Ad (aa 6))) F6))) (a7 (kN (aa 6) (ak PM.cO (ae (aa 7) (ae (aa 4) ao)))))) [some (.int r),some (.int (ai:Int)),some (.loc p),some (.int k),some (.loc q),some (.str x),some (.bl b),none] s4=rr->gq [.int r,.int (ai:Int),.loc p,.int k] st=rr.fin:=fun b hb rr U?=>by rw[hb]at f7;rw[run,bb (np:=4) (us:=[.int r,.int (ai:Int),.loc p,.int k]) rfl];show(aA (aE 4 _) _ [some (.int r),some (.int (ai:Int)),some (.loc p),some (.int k),none,none,none,none] st).fin=_;rw[aw,f4,az,aw,f5,az,aw,f6,az,aw,f7,az,U?]
 have ar:∀b,EJ (ae (aa 0) (ae (aa 1) (ae (aa 5) ao))) [some (.int r),some (.int (ai:Int)),some (.loc p),some (.int k),some (.loc q),some (.str x),some (.bl b),none] s4=.ok [.int r,.int (ai:Int),.str x] s4:=fun b=>rfl;by_cases K:∀u∈F,∀e∈u.1,e<=99
 .rw[Vo K]at rd;obtain⟨g5,kk,er,hk,mk⟩:=rd;obtain⟨s5,vI⟩:∃s5,s5=s4++g5:=⟨_,rfl⟩
  rw[<-vI]at er mk;have U':s5[q]?=some (.lst (F.map tV)):=by rw[vI];exact cT U! _
  obtain⟨g6,e6⟩:=jk mk U' (by lia) (fun t ht=>by rw[zE t ht];lia);refine⟨s5++g6,head true (VF K) (.rt (.bl true) (s5++g6)) ?_⟩;have b:aE 7 (ak PM.b! (EJ (ae (aa 0) (ae (aa 1) (ae (aa 5) ao))))) [some (.int r),some (.int (ai:Int)),some (.loc p),some (.int k),some (.loc q),some (.str x),some (.bl true),none] s4=.nx [some (.int r),some (.int (ai:Int)),some (.loc p),some (.int k),some (.loc q),some (.str x),some (.bl true),some (.loc kk)] s5:=by
   have c:ak PM.b! (EJ (ae (aa 0) (ae (aa 1) (ae (aa 5) ao)))) [some (.int r),some (.int (ai:Int)),some (.loc p),some (.int k),some (.loc q),some (.str x),some (.bl true),none] s4=.ok (.loc kk) s5:=by rw[aM (ar true)];exact er
   rw[bJ c];rfl
  have sm:ak PM.cO (ae (aa 7) (ae (aa 4) ao)) [some (.int r),some (.int (ai:Int)),some (.loc p),some (.int k),some (.loc q),some (.str x),some (.bl true),some (.loc kk)] s5=.ok (.bl true) (s5++g6):=by rw[aM (iT (v:=.loc kk) (s1:=s5) rfl (w:=.loc q) (s2:=s5) rfl)];exact e6
  have v6:aa 6 [some (.int r),some (.int (ai:Int)),some (.loc p),some (.int k),some (.loc q),some (.str x),some (.bl true),some (.loc kk)] s5=.ok (.bl true) s5:=rfl;rw[aw,u!,CZ,b,Gq];show(cg.nx [some (.int r),some (.int (ai:Int)),some (.loc p),some (.int k),some (.loc q),some (.str x),some (.bl true),some (.loc kk)] s5).cf _=_;rw[az,aQ,jc,v6,aq,iF,sm];rfl
 .rw[Vu K]at rd;obtain⟨g5,er⟩:=rd;refine⟨s4++g5,head false (VM K) (.rt (.bl true) (s4++g5)) ?_⟩;have b:aE 7 (ak PM.b! (EJ (ae (aa 0) (ae (aa 1) (ae (aa 5) ao))))) [some (.int r),some (.int (ai:Int)),some (.loc p),some (.int k),some (.loc q),some (.str x),some (.bl false),none] s4=.er "NotWritten" [some (.int r),some (.int (ai:Int)),some (.loc p),some (.int k),some (.loc q),some (.str x),some (.bl false),none] (s4++g5):=by rw[da,aM (ar false),er];rfl
  rw[aw,u!,CZ,b,Gr (by decide +kernel),Gu (by decide +kernel)];rfl
end A3
namespace MN
open PySem.Spec L2
open PyProof.Rows hiding St kindOf
theorem dJ{N P:_z}{sc:Scope}(a:sc.kind=.function:=by rfl)(b:sc.isCoroutine=false:=by rfl)(c:sc.isGenerator=false:=by rfl)(d:N.Nodup:=by decide +kernel)(e:N.take P.length=P:=by rfl)(f:∀x∈P,sc.names.lookup x=some .local\/sc.names.lookup x=some .cell:=by decide +kernel)(g:∀y∈sc.names,y.2≠.free:=by decide +kernel):gB N P sc:=⟨a,b,c,d,e,f,g⟩
theorem h!{X:Cx}{N:_z}{scope:Scope}{k:Nat}{cl:List (Str×_C)}{caps:List Nat}(lW:closureFor scope X.env=pure cl:=by rfl)(A:fD X scope cl caps:=by repeat first|exact .nil|refine .cons (by rfl) (by rfl) (by first|exact Or.inl rfl|exact Or.inr rfl) (by first|exact Or.inl rfl|exact Or.inr rfl) ?_)(has:((relabel scope X.env).names.all fun p => !(p.2 == .cell || p.2 == .free) || (cl.map (·.1)).contains p.1)=true:=by rfl)(fS:(scope.names.all fun p => !(p.2 == .cell))=true:=by rfl)(kind:scope.kind=.function:=by rfl)(names:(scope.names.all fun p => !(p.2 == .local) || scope.names.lookup p.1==some .local)=true:=by rfl)(len:N.length=k+caps.length:=by rfl)(hN:N.drop k=cl.map (·.1):=by rfl):lV X N scope cl k caps:=Nr lW A has fS kind names len hN
theorem Ol{X:Cx}{N:_z}{scope:Scope}{k:Nat}{cl cl':List (Str×_C)}{caps caps':List Nat}(lW:closureFor scope X.env=pure cl':=by rfl)(A:fD X scope cl caps:=by repeat first|exact .nil|refine .cons (by rfl) (by rfl) (by first|exact Or.inl rfl|exact Or.inr rfl) (by first|exact Or.inl rfl|exact Or.inr rfl) ?_)(B:fD X scope cl' caps':=by repeat first|exact .nil|refine .cons (by rfl) (by rfl) (by first|exact Or.inl rfl|exact Or.inr rfl) (by first|exact Or.inl rfl|exact Or.inr rfl) ?_)(has:((relabel scope X.env).names.all fun p => !(p.2 == .cell || p.2 == .free) || (cl'.map (·.1)).contains p.1)=true:=by rfl)(fS:(scope.names.all fun p => !(p.2 == .cell))=true:=by rfl)(kind:scope.kind=.function:=by rfl)(names:(scope.names.all fun p => !(p.2 == .local) || scope.names.lookup p.1==some .local)=true:=by rfl)(len:N.length=k+caps.length:=by rfl)(hN:N.drop k=cl.map (·.1):=by rfl):lV X N scope cl' k caps:=Nu lW A B has fS kind names len hN
section
variable{P:_E}{w:World}{K:_u}{mg:_s}{base:Heap}
def Td(K:_u)(mg:_s):Prop:=∀x f,W.nsIn K mainGlobals x=some (some (.ref f))->mg x=some (.ref f)
theorem gz{x:Str}:∀{l:_z},GJ mg l->x∈l->mg x=none
 |y::l,h,hx=>by
  rcases VG.mp hx with e|e
  .rw[e];exact h.1
  .exact gz h.2 e
theorem Om{x:Str}:∀{l:_z},GK K mg l->x∈l->F8 K mg x
 |y::l,h,hx=>by
  rcases VG.mp hx with e|e
  .rw[e];exact h.1
  .exact Om h.2 e
theorem FnAt.iU{x:Str}{st:Stmt}{N ps:_z}{k:Nat}{body:MB}(F:dI K x st)(hm:Td K mg)(S:gB N ps (bu st))
  (h:∀ (f:_C) (gn:_A) (A:_D) (outer:List PySem.Env) (s:_B) (H:Hp) (E:XK),N.Nodup->fK k (A.deeper (envOfC x (bu st) s.heap.objs.size f gn)) ->
   jJ (gb (jO P w) P w K mg base N x (bu st) f gn A outer s H E) (d0 st) (tS (gb (jO P w) P w K mg base N x (bu st) f gn A outer s H E) E body))
  (hb:∀ (kV doc pm:_A) (an:Option _C) (gn ct:_A) (us:_w),us.length=ps.length->bindArgs (W.fnOf x x (gf st) (d0 st) (bu st) .none kV doc pm an gn ct) ⟨us,[]⟩=pure (ps.zip us):=by
   first|exact fun _ _ _ _ _ _=>Nv fun _=>rfl|exact fun _ _ _ _ _ _=>Nw fun _ _=>rfl|exact fun _ _ _ _ _ _=>Nx fun _ _ _=>rfl|exact fun _ _ _ _ _ _=>len0 rfl):FnAt P w K mg base x (k+1) (fQ ps.length N.length body):=by
 obtain⟨f,fd,F,a⟩:=F;exact FnAt.mk F (hm _ _ a) S hb fun gn A outer s H E=>h f gn A outer s H E S.nd
end
end MN
namespace A3
open PySem.Spec L2 MN PG TX
open PyProof.Rows hiding St kindOf
theorem tU{ns:_v}{s:aj}{μ:MN.Env}{k:Int}(h:au s 0=some (ns.map av.int))(k0:0<=k)(k1:k<=1000):∃o,ak PM.aT (ae (aa 0) (ae (mC (.int k)) ao)) (some (.loc 0)::μ) s=.ok (.int o) s/\0<=o:=by obtain⟨o,e,o0,_⟩:=tq h k0 (by lia);exact⟨o,e,o0⟩
section
variable{r thr:Int}{ai p:Nat}{D:List bj}{ns:_v}{x2 x6 x7:Option av}{st:aj}
abbrev Ph:MB:=aA (aE 11 (ak PM.b! (ae (aa 1) (ae (aa 4) (ae (aa 9) ao))))) (aA (dq (cm (a! (ak PM.cO (ae (aa 11) (ae (aa 5) ao))))) (a7 (mC (.bl false))) aK) (cD (gR bZ (aa 11) (ae (mC (.int 7)) ao))))
theorem Hn{h:Nat}{y10 y11:Option av}(hr:fu r=true)(h1:1<=ai)(hm:ai<=4)(R:Dr r ai D)(ha:st[p]?=some (.lst (D.map tV))):
  ∃ax y,Ph [some (.loc 0),some (.int r),x2,some (.int thr),some (.int (ai:Int)),some (.loc p),x6,x7,some (.loc h),some (.str (aY D)),y10,y11] st=.nx [some (.loc 0),some (.int r),x2,some (.int thr),some (.int (ai:Int)),some (.loc p),x6,x7,some (.loc h),some (.str (aY D)),y10,y] ax/\ax[p]?=some (.lst (D.map tV)):=by
 have Fv:=R.Fv;have rd:=p6 hr h1 hm R.told R.len (R.wr hm) (by lia) st;rw[Vo (fun u hu e he=>(R.rg u hu e he).2)]at rd;obtain⟨g,k,e,hk,mk⟩:=rd;have Te:(st++g)[p]?=some (.lst (D.map tV)):=cT ha g;obtain⟨g2,e2⟩:=jk mk Te (by lia) (fun t ht=>by rw[R.len t ht];lia);have pl:p<st.length:=(VW.mp ha).1;have f1:aE 11 (ak PM.b! (ae (aa 1) (ae (aa 4) (ae (aa 9) ao)))) [some (.loc 0),some (.int r),x2,some (.int thr),some (.int (ai:Int)),some (.loc p),x6,x7,some (.loc h),some (.str (aY D)),y10,y11] st=.nx [some (.loc 0),some (.int r),x2,some (.int thr),some (.int (ai:Int)),some (.loc p),x6,x7,some (.loc h),some (.str (aY D)),y10,some (.loc k)] (st++g):=by
  have c:ak PM.b! (ae (aa 1) (ae (aa 4) (ae (aa 9) ao))) [some (.loc 0),some (.int r),x2,some (.int thr),some (.int (ai:Int)),some (.loc p),x6,x7,some (.loc h),some (.str (aY D)),y10,y11] st=.ok (.loc k) (st++g):=by rw[aM (vs:=[.int r,.int (ai:Int),.str (aY D)]) (s1:=st) rfl];exact e
  rw[bJ c];rfl
 have f2:dq (cm (a! (ak PM.cO (ae (aa 11) (ae (aa 5) ao))))) (a7 (mC (.bl false))) aK [some (.loc 0),some (.int r),x2,some (.int thr),some (.int (ai:Int)),some (.loc p),x6,x7,some (.loc h),some (.str (aY D)),y10,some (.loc k)] (st++g)=.nx [some (.loc 0),some (.int r),x2,some (.int thr),some (.int (ai:Int)),some (.loc p),x6,x7,some (.loc h),some (.str (aY D)),y10,some (.loc k)] (st++g++g2):=by have c:a! (ak PM.cO (ae (aa 11) (ae (aa 5) ao))) [some (.loc 0),some (.int r),x2,some (.int thr),some (.int (ai:Int)),some (.loc p),x6,x7,some (.loc h),some (.str (aY D)),y10,some (.loc k)] (st++g)=.ok true (st++g++g2):=bI (by rw[aM (vs:=[.loc k,.loc p]) (s1:=st++g) rfl];exact e2);rw[dD (by rw[gG,c];rfl)]
 have Tf:(st++g++g2)[k]?=some (.lst (D.map tV)):=cT mk g2;have ap:=mB (o:=aa 11) (a:=ae (mC (.int 7)) ao) (v:=.int 7) (n:=k) (us:=D.map tV) (μ:=[some (.loc 0),some (.int r),x2,some (.int thr),some (.int (ai:Int)),some (.loc p),x6,x7,some (.loc h),some (.str (aY D)),y10,some (.loc k)]) (s:=st++g++g2) (s1:=st++g++g2) rfl Tf rfl Tf (by rw[Vn];lia);refine⟨_,some (.loc k),by unfold Ph;rw[aw,f1,az,aw,f2,az,ap],?_⟩;rw[Wi (by lia)];exact cT Te g2
theorem Ik(hr:fu r=true)(h1:1<=ai)(hm:ai<=4)(R:Dr r ai D)(ha:st[p]?=some (.lst (D.map tV))):
  ∃ax,k8 [some (.loc 0),some (.int r),x2,some (.int thr),some (.int (ai:Int)),some (.loc p),x6,x7,none,none,none,none] st=.rt (.bl true) ax:=by
 have Fv:=R.Fv;have W:=R.wr hm;have f8:aE 8 (ak uU (ae (aa 5) ao)) [some (.loc 0),some (.int r),x2,some (.int thr),some (.int (ai:Int)),some (.loc p),x6,x7,none,none,none,none] st=.nx [some (.loc 0),some (.int r),x2,some (.int thr),some (.int (ai:Int)),some (.loc p),x6,x7,some (.loc st.length),none,none,none] (st++[.lst (D.map tV)]):=by
  have c:ak uU (ae (aa 5) ao) [some (.loc 0),some (.int r),x2,some (.int thr),some (.int (ai:Int)),some (.loc p),x6,x7,none,none,none,none] st=.ok (.loc st.length) (st++[.lst (D.map tV)]):=by rw[aM (dP (v:=.loc p) (s1:=st) rfl)];exact Gx (df ha)
  rw[bJ c];rfl
 obtain⟨s1,fJ⟩:∃s1,s1=st++[aG.lst (D.map tV)]:=⟨_,rfl⟩
 rw[<-fJ]at f8;have a1:s1[p]?=some (.lst (D.map tV)):=by rw[fJ];exact cT ha _
 have b1:s1[st.length]?=some (.lst (D.map tV)):=by rw[fJ];exact fm _ _
 obtain⟨g1,es⟩:=pV (df b1) (by lia) W;obtain⟨s2,gA⟩:∃s2,s2=s1++g1:=⟨_,rfl⟩
 rw[<-gA]at es;have a2:s2[p]?=some (.lst (D.map tV)):=by rw[gA];exact cT a1 _
 have b2:s2[st.length]?=some (.lst (D.map tV)):=by rw[gA];exact cT b1 _
 have f9:aE 9 (ak PM.shown (ae (aa 8) ao)) [some (.loc 0),some (.int r),x2,some (.int thr),some (.int (ai:Int)),some (.loc p),x6,x7,some (.loc st.length),none,none,none] s1=.nx [some (.loc 0),some (.int r),x2,some (.int thr),some (.int (ai:Int)),some (.loc p),x6,x7,some (.loc st.length),some (.str (aY D)),none,none] s2:=by
  have c:ak PM.shown (ae (aa 8) ao) [some (.loc 0),some (.int r),x2,some (.int thr),some (.int (ai:Int)),some (.loc p),x6,x7,some (.loc st.length),none,none,none] s1=.ok (.str (aY D)) s2:=by rw[aM (dP (v:=.loc st.length) (s1:=s1) rfl)];exact es
  rw[bJ c];rfl
 obtain⟨μ,hμ⟩:∃μ:MN.Env,μ=[some (.loc 0),some (.int r),x2,some (.int thr),some (.int (ai:Int)),some (.loc p),x6,x7,some (.loc st.length),some (.str (aY D)),none,none]:=⟨_,rfl⟩
 have v3:∀s,aa 3 μ s=.ok (.int thr) s:=fun s=>by rw[hμ];rfl
 have v5:∀s,aa 5 μ s=.ok (.loc p) s:=fun s=>by rw[hμ];rfl
 have v8:∀s,aa 8 μ s=.ok (.loc st.length) s:=fun s=>by rw[hμ];rfl
 have v9:∀s,aa 9 μ s=.ok (.str (aY D)) s:=fun s=>by rw[hμ];rfl
 rw[<-hμ]at f9;obtain⟨g2,ew⟩:=jq (df a2) (by lia) W;obtain⟨s3,ji⟩:∃s3,s3=s2++g2:=⟨_,rfl⟩
 rw[<-ji]at ew;have a3:s3[p]?=some (.lst (D.map tV)):=by rw[ji];exact cT a2 _
 have b3:s3[st.length]?=some (.lst (D.map tV)):=by rw[ji];exact cT b2 _
 obtain⟨g3,em⟩:=jk b3 a3 (by lia) (fun t ht=>by rw[R.len t ht];lia);obtain⟨s4,EN⟩:∃s4,s4=s3++g3:=⟨_,rfl⟩
 rw[<-EN]at em;have a4:s4[p]?=some (.lst (D.map tV)):=by rw[EN];exact cT a3 _
 have t1:a! (m9 "str" (aa 9)) μ s2=.ok true s2:=bI (by rw[yF,v9,aq];rfl);have t2:a! (ah fA (aa 9) (ak PM.bS (ae (aa 5) ao))) μ s2=.ok false s3:=bI (by
  have c:ak PM.bS (ae (aa 5) ao) μ s2=.ok (.str (aY D)) s3:=by rw[aM (dP (v5 s2))];exact ew
  rw[aX (v9 s2) c,ng,Wu];rfl)
 have t3:a! (ak PM.cO (ae (aa 8) (ae (aa 5) ao))) μ s3=.ok true s4:=bI (by rw[aM (iT (v8 s3) (v5 s3))];exact em);have Tg:dq (eh (cm (a! (m9 "str" (aa 9)))) (eh (a! (ah fA (aa 9) (ak PM.bS (ae (aa 5) ao)))) (cm (a! (ak PM.cO (ae (aa 8) (ae (aa 5) ao))))))) (a7 (mC (.bl false))) aK μ s2=.nx μ s4:=by
  have n1:cm (a! (m9 "str" (aa 9))) μ s2=.ok false s2:=by rw[gG,t1];rfl
  have n3:cm (a! (ak PM.cO (ae (aa 8) (ae (aa 5) ao)))) μ s3=.ok false s4:=by rw[gG,t3];rfl
  rw[dD (by rw[eG,n1,aq,eQ,eG,t2,aq,eQ,n3])]
 have A5:a! (ah dr (ah bN (aa 3) (mC (.int 8))) (mC (.int 2))) μ s4=.ok (thr.fmod 8==2) s4:=bI (pT (jl (v3 s4) (by decide)));cases hb:thr.fmod 8==2 with
 |true=>
  rw[hb]at A5;have q:=f? (m:=10 ^ 6) (by decide) (thr.fdiv 8);obtain⟨ax,ef⟩:=LB (k:=97+(thr.fdiv 8).fmod (10 ^ 6)) hr h1 hm R a4 (by lia) (by lia);have ar:ah bo (mC (.int 97)) (ah bN (ah bX (aa 3) (mC (.int 8))) (ah uT (mC (.int 10)) (mC (.int 6)))) μ s4=.ok (.int (97+(thr.fdiv 8).fmod (10 ^ 6))) s4:=by
   have cp:zO 10 6:=by decide
   have pw:ah uT (mC (.int 10)) (mC (.int 6)) μ s4=.ok (.int (10 ^ 6)) s4:=by rw[aX (x:=.int 10) (s1:=s4) rfl (y:=.int 6) (s2:=s4) rfl,CY cp];rfl
   have md:ah bN (ah bX (aa 3) (mC (.int 8))) (ah uT (mC (.int 10)) (mC (.int 6))) μ s4=.ok (.int ((thr.fdiv 8).fmod (10 ^ 6))) s4:=by rw[aX (ki (v3 s4) (nJ (by decide) (by decide))) pw];exact cG (by decide)
   rw[aX (x:=.int 97) (s1:=s4) rfl md];rfl
  have v1:aa 1 μ s4=.ok (.int r) s4:=by rw[hμ];rfl
  have v4:aa 4 μ s4=.ok (.int (ai:Int)) s4:=by rw[hμ];rfl
  refine⟨ax,?_⟩;unfold k8;rw[aw,f8,az];unfold pL;rw[aw,f9,az];unfold pK;rw[aw,Tg,az];unfold pJ;rw[aw,e7 A5,aQ,aM (yX v1 (yX v4 (iT (v5 s4) ar))),ef];rfl
 |false=>
  rw[hb]at A5;obtain⟨μ',ax,e,LO,y10,y11,rfl⟩:=dy (g:=fun _=>True) (a:=ay 10) (body:=Ph)
   (fun _ μ s'=>s'[p]?=some (.lst (D.map tV))/\∃y10 y11,μ=[some (.loc 0),some (.int r),x2,some (.int thr),some (.int (ai:Int)),some (.loc p),x6,x7,some (.loc st.length),some (.str (aY D)),y10,y11])
   (aW 0 2) 0 μ s4
   (by
    rintro i u μ s' hu ⟨LO,y10,y11,rfl⟩;obtain⟨Mz,y,eb,hb⟩:=Hn (x2:=x2) (x6:=x6) (x7:=x7) (thr:=thr) (h:=st.length) (y10:=some u) (y11:=y11) hr h1 hm R LO;exact⟨trivial,_,rfl,_,_,.inl eb,hb,_,_,rfl⟩)
   (fun _ _ _=>trivial) ⟨a4,none,none,hμ⟩
  refine⟨ax,?_⟩;unfold k8;rw[aw,f8,az];unfold pL;rw[aw,f9,az];unfold pK;rw[aw,Tg,az];unfold pJ;rw[aw,dD A5,az];unfold rj;have rg:bE (ae (mC (.int 2)) ao) μ s4=.ok (aW 0 2,fun _=>True) s4:=mw (j:=2) (dP (v:=.int 2) (s1:=s4) rfl) (by decide) (by decide);show((aA (dO (bE (ae (mC (.int 2)) ao)) (ay 10) Ph) rh) μ s4)=_;rw[aw,eT,rg,aB,gx,e,az];rfl
theorem Oo(hr:fu r=true)(h1:1<=ai)(hm:ai<=4)(R:Dr r ai D)(hi:au st 0=some (ns.map av.int))(ha:st[p]?=some (.lst (D.map tV))):
  ∃ax,jh [some (.loc 0),some (.int r),x2,some (.int thr),some (.int (ai:Int)),some (.loc p),none,none,none,none,none,none] st=.rt (.bl true) ax:=by
 obtain⟨μ,hμ⟩:∃μ:MN.Env,μ=[some (.loc 0),some (.int r),x2,some (.int thr),some (.int (ai:Int)),some (.loc p),none,none,none,none,none,none]:=⟨_,rfl⟩
 have A5:a! (ah dr (ah bN (aa 3) (mC (.int 8))) (mC (.int 1))) μ st=.ok (thr.fmod 8==1) st:=bI (pT (jl (by rw[hμ];rfl) (by decide)));cases hb:thr.fmod 8==1 with
 |false=>
  rw[hb]at A5;obtain⟨ax,e⟩:=Ik (x2:=x2) (thr:=thr) (x6:=none) (x7:=none) hr h1 hm R ha;refine⟨ax,?_⟩;unfold jh;rw[<-hμ,aw,dD A5,az,hμ,e]
 |true=>
  rw[hb]at A5;obtain⟨mix,em,m0⟩:=tU (μ:=[some (.int r),x2,some (.int thr),some (.int (ai:Int)),some (.loc p),none,none,none,none,none,none]) (k:=3) hi (by decide) (by decide);obtain⟨μ2,Ho⟩:∃μ2:MN.Env,μ2=[some (.loc 0),some (.int r),x2,some (.int thr),some (.int (ai:Int)),some (.loc p),some (.int mix),none,none,none,none,none]:=⟨_,rfl⟩
  have f6:aE 6 (ak PM.aT (ae (aa 0) (ae (mC (.int 3)) ao))) μ st=.nx μ2 st:=by rw[hμ,bJ em,Ho];rfl
  have qs:=f? (m:=31) (by decide) (thr.fdiv 8);obtain⟨size,hsz⟩:∃size:Nat,(size:Int)=(thr.fdiv 8).fmod 31:=⟨((thr.fdiv 8).fmod 31).toNat,by lia⟩
  have md:ah bN (ah bX (aa 3) (mC (.int 8))) (mC (.int 31)) μ2 st=.ok (.int (size:Int)) st:=by rw[hsz];exact jl (ki (by rw[Ho];rfl) (nJ (by decide) (by decide))) (by decide)
  obtain⟨g,k,L,ec,hk,lL,hL⟩:=Ly (ai:=ai) (mix:=mix) [4,6] md (by lia) (by rw[Ho];rfl) m0 hm;obtain⟨μ3,Hq⟩:∃μ3:MN.Env,μ3=[some (.loc 0),some (.int r),x2,some (.int thr),some (.int (ai:Int)),some (.loc p),some (.int mix),some (.loc k),none,none,none,none]:=⟨_,rfl⟩
  have f7:aE 7 (bV 1 [4,6] (bE (ae (ah bN (ah bX (aa 3) (mC (.int 8))) (mC (.int 31))) ao)) (ay 0) bf Em) μ2 st=.nx μ3 (st++g):=by rw[bJ ec,Ho,Hq];rfl
  obtain⟨c1,c2,eg,ag⟩:=Ih (r:=r) (a:=aa 1) (m:=aa 7) (μ:=μ3) (s:=st++g) (s1:=st++g) (k:=k) (L:=L) (by rw[Hq];rfl) (by rw[Hq];rfl) (df hk) (by lia) (fun t ht=>D8 h1 (hL t ht).1.len);obtain⟨s5,vI⟩:∃s5,s5=st++g++[c1,aG.lst ((bM r (cU L)).map tV),c2]:=⟨_,rfl⟩
  rw[<-vI]at eg ag;obtain⟨ax,e⟩:=Ik (x2:=x2) (thr:=thr) (x6:=some (.int mix)) (x7:=some (.loc k)) hr h1 hm (Dr.of hr (by lia) hL) ag;have f5:=bJ (i:=5) eg;refine⟨ax,?_⟩;unfold jh;rw[<-hμ,aw,e7 A5,aw,f6,az,aw];show((((aE 7 (bV 1 [4,6] (bE (ae (ah bN (ah bX (aa 3) (mC (.int 8))) (mC (.int 31))) ao)) (ay 0) bf Em) μ2 st).cf _)).cf _)=_;rw[f7,az,f5,az,Hq];exact e
end
theorem Eo:∀(c:aG)(ns:_v),ns.length<=63->au [c] 0=some (ns.map av.int)->∃ax,DE [.loc 0] [c]=.ok (.bl true) ax:=by
 intro c ns hl hi;obtain⟨s,hs⟩:∃s,[c]=s:=⟨_,rfl⟩
 rw[hs]at hi⊢;clear hs;obtain⟨o,eo,o0⟩:=tU (μ:=[none,none,none,none,none,none,none,none,none,none,none]) (k:=0) hi (by decide) (by decide);obtain⟨g,r,er,hr⟩:=Ll o0 s;have Th:fu r=true:=by
  rcases hr with rfl|h
  .rfl
  .exact DH h
 obtain⟨s1,fJ⟩:∃s1,s1=s++g:=⟨_,rfl⟩
 rw[<-fJ]at er;have i1:au s1 0=some (ns.map av.int):=by rw[fJ];exact aC hi _
 have x1:aE 1 (ak PM.gw (ae (ak PM.aT (ae (aa 0) (ae (mC (.int 0)) ao))) ao)) [some (.loc 0),none,none,none,none,none,none,none,none,none,none,none] s=.nx [some (.loc 0),some (.int r),none,none,none,none,none,none,none,none,none,none] s1:=by refine bJ (v:=.int r) ?_;rw[aM (dP eo),er]
 obtain⟨sec,e2,s20⟩:=tU (μ:=[some (.int r),none,none,none,none,none,none,none,none,none,none]) (k:=1) i1 (by decide) (by decide);have x2:aE 2 (ak PM.aT (ae (aa 0) (ae (mC (.int 1)) ao))) [some (.loc 0),some (.int r),none,none,none,none,none,none,none,none,none,none] s1=.nx [some (.loc 0),some (.int r),some (.int sec),none,none,none,none,none,none,none,none,none] s1:=bJ e2;obtain⟨thr,e3,t30⟩:=tU (μ:=[some (.int r),some (.int sec),none,none,none,none,none,none,none,none,none]) (k:=2) i1 (by decide) (by decide);have x3:aE 3 (ak PM.aT (ae (aa 0) (ae (mC (.int 2)) ao))) [some (.loc 0),some (.int r),some (.int sec),none,none,none,none,none,none,none,none,none] s1=.nx [some (.loc 0),some (.int r),some (.int sec),some (.int thr),none,none,none,none,none,none,none,none] s1:=bJ e3;have q4:=f? (m:=4) (by decide) sec;obtain⟨ai,Oq⟩:∃ai:Nat,(ai:Int)=1+sec.fmod 4:=⟨(1+sec.fmod 4).toNat,by lia⟩
 obtain⟨μ,hμ⟩:∃μ:MN.Env,μ=[some (.loc 0),some (.int r),some (.int sec),some (.int thr),some (.int (ai:Int)),none,none,none,none,none,none,none]:=⟨_,rfl⟩
 have x4:aE 4 (ah bo (mC (.int 1)) (ah bN (aa 2) (mC (.int 4)))) [some (.loc 0),some (.int r),some (.int sec),some (.int thr),none,none,none,none,none,none,none,none] s1=.nx μ s1:=by rw[hμ];refine bJ (v:=.int (ai:Int)) ?_;rw[aX (x:=.int 1) (s1:=s1) rfl (jl (o:=sec) (s1:=s1) rfl (by decide)),Oq];rfl
 have h1:1<=ai:=by lia
 have hm:ai<=4:=by lia
 have q5:=f? (m:=8) (by decide) (sec.fdiv 4);obtain⟨z1,Va⟩:∃z:Nat,(z:Int)=(sec.fdiv 4).fmod 8:=⟨((sec.fdiv 4).fmod 8).toNat,by lia⟩
 obtain⟨g5,L,e5,lL,hL⟩:=qB (ai:=ai) (size:=z1) (place:=4) i1 (by decide) (by decide) hm (by lia);have w5:ak PM.d8 (ae (aa 0) (ae (mC (.int 4)) (ae (aa 4) (ae (ah bN (ah bX (aa 2) (mC (.int 4))) (mC (.int 8))) ao)))) μ s1=.ok (.loc s1.length) (s1 ++ .lst (L.map tV)::g5):=by
  have md:ah bN (ah bX (aa 2) (mC (.int 4))) (mC (.int 8)) μ s1=.ok (.int (z1:Int)) s1:=by rw[Va];exact jl (ki (by rw[hμ];rfl) (nJ (by decide) (by decide))) (by decide)
  rw[aM (yX (v:=.loc 0) (s1:=s1) (by rw[hμ];rfl) (yX (v:=.int 4) (s1:=s1) rfl (iT (v:=.int (ai:Int)) (s1:=s1) (by rw[hμ];rfl) md))),e5]
 obtain⟨c1,c2,eg,ag⟩:=Ih (r:=r) (a:=aa 1) (L:=L) (by rw[hμ];rfl) w5 (df (sW s1 _ g5)) (by lia) (fun t ht=>D8 h1 (hL t ht).1.len);obtain⟨s5,vI⟩:∃s5,s5=s1 ++ .lst (L.map tV)::g5++[c1,aG.lst ((bM r (cU L)).map tV),c2]:=⟨_,rfl⟩
 obtain⟨p,hp⟩:∃p,p=(s1++aG.lst (L.map tV)::g5).length+1:=⟨_,rfl⟩
 rw[<-vI,<-hp]at eg ag;have i5:au s5 0=some (ns.map av.int):=by rw[vI];exact aC (aC i1 _) _
 have x5:=bJ (i:=5) eg;obtain⟨ax,e⟩:=Oo (x2:=some (.int sec)) (thr:=thr) (p:=p) (ai:=ai) Th h1 hm (Dr.of Th (by lia) hL) i5 ag;refine⟨ax,?_⟩;unfold DE;rw[bb (np:=1) (us:=[av.loc 0]) rfl];show(aA _ pM [some (.loc 0),none,none,none,none,none,none,none,none,none,none,none] s).fin=_;rw[aw,x1,az];unfold pM;rw[aw,x2,az];unfold vC;rw[aw,x3,az];unfold vB;rw[aw,x4,az];unfold vA;rw[aw,x5,az,hμ];show(jh [some (.loc 0),some (.int r),some (.int sec),some (.int thr),some (.int (ai:Int)),some (.loc p),none,none,none,none,none,none] s5).fin=_;rw[e];rfl
end A3
namespace A3
open PySem.Spec L2 MN
open PyProof.Rows hiding St
def top(i:Nat):Stmt:=PySem.Challenge.pw_polyring_k10_written.main.body.getD i (.Pass ⟨0,0,0,0⟩)
structure Txt(P:_E)(w:World)(K:_u)(mg:_s)(base:Heap):Prop where
 gl:Td K mg
 b:GJ mg ["abs","all","bool","enumerate","int","isinstance","len","list","max","range","sorted","str","tuple","zip"]
 c:GK K mg ["NoRing","NoUnknowns","NoTerm","NotWritten"]
 vX:Glob K mg "MOST_RING" (.int 997)
 p7:Glob K mg "FIRST_PRIMES" PM.fj
 nM:Glob K mg "MOST_UNKNOWNS" (.int 4)
 jt:Glob K mg "MOST_MADE_EXPONENT" (.int 99)
 Be:Glob K mg "LETTERS" PM.eR
 Hr:Glob K mg "SIGNS" PM.pI
 Bf:Glob K mg "FIGURES" (.str "0123456789")
 ig:Glob K mg "MOST_EXPONENT_FIGURES" (.int 2)
 sub:fU K mg tab
 qx:sO K mg A3.kn
theorem Hs{X:Cx}{E:XK}{e:Expr}{m:ME}{i:Nat}{x:Str}{pos pos':Pos}(hN:X.N.Nodup)(he:PE X e (tE X E m))(hi:X.N[i]?=some x:=by rfl)(hx:Loc X.env.scope x:=by first|exact Or.inl rfl|exact Or.inr rfl)(hs:swapsWith e (some (.Name x pos')) pos.line X.env=pure false:=by rfl)(hf:X.fn x=true\/X.env.scope.names.lookup x=some .local:=by first|exact .inl rfl|exact .inr rfl|assumption):PS X (.Assign [.Name x pos'] e pos) (tS X E (aE i m)):=J8 i hN he hi hx hs hf
section
variable{P:_E}{w:World}{K:_u}{mg:_s}{base:Heap}(T:Txt P w K mg base)
theorem xU:gB ["_law_script","_law_ring_here","_law_second","_law_third","_law_many","_law_row","_law_mix","_law_pairs_here","_law_handed","_law_found","_law_turn","_law_told"] ["_law_script"] (bu (top 55)):=dJ
seal L2.PE L2.PT L2.PA L2.PS L2.jJ L2.PG L2.wz L2.PI L2.ui L2.EI L2.z! L2.PH
set_option hygiene false
local macro_rules|`(tactic|trivial)=>`(tactic|repeat' first|((with_reducible show PA _ (_::_) _);refine oq ?_ ?_)|with_reducible exact Cf|((with_reducible show PE _ (.Name ..) _);first|exact sC _|exact gD (by rfl) T.vX|exact gD (by rfl) T.p7|exact gD (by rfl) T.nM|exact gD (by rfl) T.jt|exact gD (by rfl) T.Be|exact gD (by rfl) T.Hr|exact gD (by rfl) T.Bf|exact gD (by rfl) T.ig)|((with_reducible show PE _ (.Constant ..) _);first|exact JT|exact Nf|exact JU)|((with_reducible show PE _ _ (tG _ _ _ (ak l8 _)));refine kO (Al hr.hd) (by rfl) (gz T.b (by decide +kernel)) PyProof.Rows.boot_all ?_)|((with_reducible show PE _ _ (tG _ _ _ (ak b9 _)));refine kO Ah (by rfl) (gz T.b (by decide +kernel)) boot_len ?_)|((with_reducible show PE _ _ (tG _ _ _ (ak kR _)));refine jC Aj (by rfl) (gz T.b (by decide +kernel)) Zu ?_)|((with_reducible show PE _ _ (tG _ _ _ (ak gy _)));refine jC AW (by rfl) (gz T.b (by decide +kernel)) ZK ?_)|((with_reducible show PE _ _ (tG _ _ _ (ak gQ _)));refine kO Ai (by rfl) (gz T.b (by decide +kernel)) PyProof.Rows.boot_abs ?_)|((with_reducible show PE _ _ (tG _ _ _ (ak qw _)));refine jC A0 (by rfl) (gz T.b (by decide +kernel)) PyProof.Rows.Boot.«int» ?_)|((with_reducible show PE _ _ (tG _ _ _ (ak sZ _)));refine kO (xr hr.hd) (by rfl) (gz T.b (by decide +kernel)) PyProof.Rows.Boot.«max» ?_)|((with_reducible show PE _ _ (tG _ _ _ (ak uU _)));refine jC Ak (by rfl) (gz T.b (by decide +kernel)) ZA ?_)|((with_reducible show PE _ _ (tG _ _ _ (ak _ _)));refine HR (by assumption) hr (by decide) (by rfl) (by first|exact B?|exact Np|exact Ie H_) ?_)|((with_reducible show PE _ _ (tG _ _ _ (ah b5 _ _)));refine Ko ?_ ?_)|((with_reducible show PE _ _ (tG _ _ _ (ah gE _ _)));refine F9 hr.units ?_ ?_)|((with_reducible show PE _ _ (tG _ _ _ (kN _ _)));refine JX ?_ ?_)|((with_reducible show PE _ _ (tG _ _ _ (OS _ _)));refine Ng ?_ ?_)|((with_reducible show PE _ _ (tG _ _ _ (uQ _ _ _)));refine Ni ?_ ?_ ?_)|((with_reducible show PE _ _ (tG _ _ _ (fT _)));refine J3 ?_)|((with_reducible show PE _ _ (tG _ _ _ (bK _)));refine J4 ?_)|((with_reducible show PE _ _ (tG _ _ _ (Kp _ _ _)));refine Nt ?_ ?_ ?_)|((with_reducible show PE _ _ (tG _ _ _ (gj _ _)));refine AM ?_ ?_)|((with_reducible show PE _ _ (tG _ _ _ (ja)));refine CP)|((with_reducible show PE _ _ (tG _ _ _ (gK _ _)));refine AU ?_ ?_)|((with_reducible show PE _ _ (tG _ _ _ (gT _ _)));refine AV ?_ ?_)|((with_reducible show PE _ _ (tG _ _ _ (eJ _ _)));refine Dt ?_ ?_)|((with_reducible show PE _ _ (tG _ _ _ (fW _ _ _)));refine Lb ?_ ?_ ?_)|((with_reducible show PE _ _ (tG _ _ _ (eM _ _ _)));refine xw ?_ ?_ ?_)|((with_reducible show PE _ _ (tG _ _ _ (xu _ _ _)));refine Le ?_ ?_)|((with_reducible show PE _ _ (tG _ _ _ (ah Bs _ _)));refine HN N6 ?_ ?_)|((with_reducible show PE _ (.BinOp ..) _);first|refine K! ?_ ?_|refine K_ ?_ ?_|refine K7 ?_ ?_|refine K8 ?_ ?_|refine K9 ?_ ?_|refine K? ?_ ?_)|((with_reducible show PE _ (.Compare ..) _);first|refine N3 hr.units ?_ ?_|refine N4 hr.units ?_ ?_|refine j! Co ?_ ?_|refine j! Cq ?_ ?_|refine j! Cy ?_ ?_|refine j! qU ?_ ?_|refine j! Lc ?_ ?_)|((with_reducible show PE _ (.UnaryOp ..) _);first|refine J9 ?_|refine JY ?_)|((with_reducible show PE _ (.Call (.Attribute ..) ..) _);first|refine Ax ?_ ?_|refine CQ hr.units ?_ ?_ ?_)|((with_reducible show PE _ _ (tG _ _ _ (m9 _ _)));first|refine oZ CA (by rfl) (gz T.b (by decide +kernel)) (by rfl) (gz T.b (by decide +kernel)) PyProof.Rows.boot_int ?_|refine oZ An (by rfl) (gz T.b (by decide +kernel)) (by rfl) (gz T.b (by decide +kernel)) PyProof.Rows.boot_bool ?_|refine oZ CB (by rfl) (gz T.b (by decide +kernel)) (by rfl) (gz T.b (by decide +kernel)) ZK ?_|refine oZ wZ (by rfl) (gz T.b (by decide +kernel)) (by rfl) (gz T.b (by decide +kernel)) Zu ?_|refine oZ Ao (by rfl) (gz T.b (by decide +kernel)) (by rfl) (gz T.b (by decide +kernel)) ZA ?_)|((with_reducible show jJ _ [_] _);refine Cg ?_)|((with_reducible show jJ _ (_::_) _);refine yr ?_ ?_)|with_reducible exact J5|((with_reducible show PS _ (.Assign [.Name ..] ..) _);refine Hs (by assumption) ?_)|((with_reducible show PS _ (.Assign [.Subscript ..] ..) _);first|refine F! hr.units ?_ ?_ ?_|refine Ga ?_ ?_ ?_)|((with_reducible show PS _ (.Return ..) _);refine J7 ?_)|((with_reducible show PS _ (.If ..) _);refine Nj ?_ ?_ ?_)|((with_reducible show PS _ (.Expr ..) _);refine FQ ?_)|((with_reducible show PS _ (.While ..) _);refine CH uW ?_ ?_)|((with_reducible show PS _ (.For ..) _);refine Kf uW rfl ?_ ?_ ?_)|((with_reducible show PS _ (.Raise ..) _);refine Au w9 rfl (Om T.c (by decide +kernel)) (by rfl) ?_)|((with_reducible show PI _ _ _ (tG _ _ _ (cQ _)));refine Kd ?_)|((with_reducible show PI _ _ _ (tG _ _ _ (pG _)));refine GN ?_)|((with_reducible show PI _ _ (.Call ..) _);first|refine Ap (by rfl) (gz T.b (by decide +kernel)) ?_|refine Aq (by rfl) (gz T.b (by decide +kernel)) ?_|refine Ke _ _ (by rfl) (gz T.b (by decide +kernel)) ?_|refine Dx (by rfl) (gz T.b (by decide +kernel)) ?_)|((with_reducible show PG _ (.Name ..) _);exact FY _ (by assumption))|((with_reducible show PG _ (.Tuple ..) _);refine J! rfl ?_)|((with_reducible show wz _ (_::_) _);refine CC ?_ ?_)|with_reducible exact FZ|((with_reducible show ui _ [] _);first|exact F1|exact DD)|((with_reducible show ui _ [_] _);refine F3 ?_)|((with_reducible show PT _ (.Compare ..) _);first|refine N1 hr.units ?_ ?_|refine N2 hr.units ?_ ?_|refine NZ ?_ ?_|refine N0 ?_ ?_|refine l6 Cy ?_ ?_|refine l6 qU ?_ ?_)|((with_reducible show PT _ (.UnaryOp ..) _);refine J1 ?_)|((with_reducible show PT _ (.BoolOp ..) _);refine QN ?_)|((with_reducible show PT _ _ (tG _ _ _ (a! _)));refine JV ?_)|refine F' ?_|exact F?|refine Nh ?_ ?_|refine JZ ?_|refine J0 ?_ ?_|refine FK ?_|refine JW ?_|((with_reducible show jJ _ _ _);first|refine Cg ?_|refine yr ?_ ?_))
include T
theorem vY(F:dI K "is_whole" (top 9)):FnAt P w K mg base "is_whole" 1 PM.fN:=
 FnAt.iU F T.gl (dJ (N:=["thing"]) (P:=["thing"])) (fun _ _ _ _ s _ _ nd hr=>by
 trivial)
variable(kj:FnAt P w K mg base "is_whole" 1 PM.fN)
theorem kl(F:dI K "is_prime_within" (top 10)):FnAt P w K mg base "is_prime_within" 1 PM.b7:=
 FnAt.iU F T.gl (dJ (N:=["number"]) (P:=["number"])) (fun _ _ _ _ s _ _ nd hr=>by
 have:(["prime","number"]:_z).Nodup:=by decide +kernel
 trivial
 .refine gi (N:=["prime","number"]) (k:=1) rfl rfl (h! (cl:=[("number",s.heap.objs.size+1)])) ?_ (fun _ _ _ _=>?_) (fun _ _ _ _=>?_) (fun _ _ _ _=>?_)<;>trivial)
variable(lD:FnAt P w K mg base "is_prime_within" 1 PM.b7)
theorem nN(F:dI K "rest_in_ring" (top 13)):FnAt P w K mg base "rest_in_ring" 1 PM.bL:=
 FnAt.iU F T.gl (dJ (N:=["ring","number"]) (P:=["ring","number"])) (fun _ _ _ _ s _ _ nd hr=>by
 trivial)
variable(p8:FnAt P w K mg base "rest_in_ring" 1 PM.bL)
theorem Bg(F:dI K "add_to" (top 22)):FnAt P w K mg base "add_to" 1 PM.jg:=
 FnAt.iU F T.gl (dJ (N:=["totals","exponents","number"]) (P:=["totals","exponents","number"])) (fun _ _ _ _ s _ _ nd hr=>by
 trivial)
variable(Ep:FnAt P w K mg base "add_to" 1 PM.jg)
theorem tW(F:dI K "sign_text" (top 32)):FnAt P w K mg base "sign_text" 1 PM.dN:=
 FnAt.iU F T.gl (dJ (N:=["is_first","number"]) (P:=["is_first","number"])) (fun _ _ _ _ s _ _ nd hr=>by
 trivial)
variable(vZ:FnAt P w K mg base "sign_text" 1 PM.dN)
theorem qC(F:dI K "power_text" (top 34)):FnAt P w K mg base "power_text" 1 PM.eZ:=
 FnAt.iU F T.gl (dJ (N:=["letter","exponent"]) (P:=["letter","exponent"])) (fun _ _ _ _ s _ _ nd hr=>by
 trivial)
variable(tX:FnAt P w K mg base "power_text" 1 PM.eZ)
theorem p9(F:dI K "are_figures" (top 38)):FnAt P w K mg base "are_figures" 1 PM.c8:=
 FnAt.iU F T.gl (dJ (N:=["text"]) (P:=["text"])) (fun _ _ _ _ s _ _ nd hr=>by
 have:(["sign"]:_z).Nodup:=by decide +kernel
 trivial
 .refine gi (N:=["sign"]) (k:=1) rfl rfl (h! (cl:=[])) ?_ (fun _ _ _ _=>?_) (fun _ _ _ _=>?_) (fun _ _ _ _=>?_)<;>trivial)
variable(jW:FnAt P w K mg base "are_figures" 1 PM.c8)
theorem km(F:dI K "place_of_letter" (top 39)):FnAt P w K mg base "place_of_letter" 1 PM.cJ:=
 FnAt.iU F T.gl (dJ (N:=["many","letter","place"]) (P:=["many","letter"])) (fun _ _ _ _ s _ _ nd hr=>by
 trivial)
variable(lE:FnAt P w K mg base "place_of_letter" 1 PM.cJ)
theorem qD(F:dI K "_law_whole" (top 42)):FnAt P w K mg base "_law_whole" 1 PM.e9:=
 FnAt.iU F T.gl (dJ (N:=["_law_found"]) (P:=["_law_found"])) (fun _ _ _ _ s _ _ nd hr=>by
 trivial)
variable(tY:FnAt P w K mg base "_law_whole" 1 PM.e9)
theorem nO(F:dI K "_law_cell_at" (top 43)):FnAt P w K mg base "_law_cell_at" 1 PM.aT:=
 FnAt.iU F T.gl (dJ (N:=["_law_script","_law_k","_law_cell","_law_one","_law_found","_law_turn"]) (P:=["_law_script","_law_k"])) (fun _ _ _ _ s _ _ nd hr=>by
 trivial)
variable(ju:FnAt P w K mg base "_law_cell_at" 1 PM.aT)
theorem qE(F:dI K "_law_prime" (top 44)):FnAt P w K mg base "_law_prime" 1 PM.gp:=
 FnAt.iU F T.gl (dJ (N:=["_law_cell","_law_number_here"]) (P:=["_law_cell"])) (fun _ _ _ _ s _ _ nd hr=>by
 have:(["_law_by","_law_number_here"]:_z).Nodup:=by decide +kernel
 trivial
 .refine gi (N:=["_law_by","_law_number_here"]) (k:=1) rfl rfl (h! (cl:=[("_law_number_here",s.heap.objs.size+1)])) ?_ (fun _ _ _ _=>?_) (fun _ _ _ _=>?_) (fun _ _ _ _=>?_)<;>trivial)
variable(tZ:FnAt P w K mg base "_law_prime" 1 PM.gp)
theorem nP(F:dI K "_law_settled" (top 46)):FnAt P w K mg base "_law_settled" 1 PM.dC:=
 FnAt.iU F T.gl (dJ (N:=["_law_ring_here","_law_number_here"]) (P:=["_law_ring_here","_law_number_here"])) (fun _ _ _ _ s _ _ nd hr=>by
 trivial)
variable(p_:FnAt P w K mg base "_law_settled" 1 PM.dC)
theorem p!(F:dI K "_law_number" (top 49)):FnAt P w K mg base "_law_number" 1 PM.bz:=
 FnAt.iU F T.gl (dJ (N:=["_law_cell"]) (P:=["_law_cell"])) (fun _ _ _ _ s _ _ nd hr=>by
 trivial)
variable(jX:FnAt P w K mg base "_law_number" 1 PM.bz)
theorem lG(F:dI K "_law_exponents" (top 50)):FnAt P w K mg base "_law_exponents" 1 PM.bW:=
 FnAt.iU F T.gl (dJ (N:=["_law_cell","_law_many","_law_found","_law_rest","_law_wide","_law_k","_law_exponent"]) (P:=["_law_cell","_law_many"])) (fun _ _ _ _ s _ _ nd hr=>by
 trivial)
variable(ij:FnAt P w K mg base "_law_exponents" 1 PM.bW)
theorem t4(F:dI K "_law_word" (top 52)):FnAt P w K mg base "_law_word" 1 PM.dz:=
 FnAt.iU F T.gl (dJ (N:=["_law_term","_law_words","_law_k"]) (P:=["_law_term"])) (fun _ _ _ _ s _ _ nd hr=>by
 trivial)
variable(v7:FnAt P w K mg base "_law_word" 1 PM.dz)
include kj lD in
theorem xV(F:dI K "is_ring" (top 11)):FnAt P w K mg base "is_ring" 2 PM.jE:=
 FnAt.iU F T.gl (dJ (N:=["thing"]) (P:=["thing"])) (fun _ _ _ _ s _ _ nd hr=>by
 trivial)
variable(Bh:FnAt P w K mg base "is_ring" 2 PM.jE)
include kj in
theorem ko(F:dI K "is_whole_within" (top 17)):FnAt P w K mg base "is_whole_within" 2 PM.a9:=
 FnAt.iU F T.gl (dJ (N:=["thing","lowest","highest"]) (P:=["thing","lowest","highest"])) (fun _ _ _ _ s _ _ nd hr=>by
 trivial
 .refine Ce Ck Cp Cp ?_ ?_ ?_<;>trivial)
variable(gM:FnAt P w K mg base "is_whole_within" 2 PM.a9)
include p8 in
theorem mH(F:dI K "settled_terms" (top 23)):FnAt P w K mg base "settled_terms" 2 PM.dM:=
 FnAt.iU F T.gl (dJ (N:=["ring","pairs","terms"]) (P:=["ring","pairs"])) (fun _ _ _ _ s _ _ nd hr=>by
 have:(["exponents","number","ring"]:_z).Nodup:=by decide +kernel
 have:(["term"]:_z).Nodup:=by decide +kernel
 trivial
 .refine MN.iC 2 (N:=["exponents","number","ring"]) (k:=2) nd rfl rfl (h! (cl:=[("ring",s.heap.objs.size+1)])) ?_ (fun _ _ _ _=>?_) (fun _ _ _ _=>?_) (fun _ _ _ _=>?_)<;>trivial
 .refine gi (N:=["term"]) (k:=1) rfl rfl (h! (cl:=[])) ?_ (fun _ _ _ _=>?_) (fun _ _ _ _=>?_) (fun _ _ _ _=>?_)<;>trivial)
variable(nQ:FnAt P w K mg base "settled_terms" 2 PM.dM)
include tX in
theorem t5(F:dI K "term_text" (top 33)):FnAt P w K mg base "term_text" 2 PM.e!:=
 FnAt.iU F T.gl (dJ (N:=["exponents","size","powers"]) (P:=["exponents","size"])) (fun _ _ _ _ s _ _ nd hr=>by
 have:(["place","exponent"]:_z).Nodup:=by decide +kernel
 trivial
 .refine MN.iC 2 (N:=["place","exponent"]) (k:=2) nd rfl rfl (h! (cl:=[])) ?_ (fun _ _ _ _=>?_) (fun _ _ _ _=>?_) (fun _ _ _ _=>?_)<;>trivial)
variable(v_:FnAt P w K mg base "term_text" 2 PM.e!)
include jW in
theorem jN(F:dI K "exponent_written" (top 40)):FnAt P w K mg base "exponent_written" 2 PM.aU:=
 FnAt.iU F T.gl (dJ (N:=["text","figures"]) (P:=["text"])) (fun _ _ _ _ s _ _ nd hr=>by
 trivial)
variable(kq:FnAt P w K mg base "exponent_written" 2 PM.aU)
include tZ in
theorem t7(F:dI K "_law_ring" (top 45)):FnAt P w K mg base "_law_ring" 2 PM.gw:=
 FnAt.iU F T.gl (dJ (N:=["_law_cell"]) (P:=["_law_cell"])) (fun _ _ _ _ s _ _ nd hr=>by
 trivial)
variable(v!:FnAt P w K mg base "_law_ring" 2 PM.gw)
include p_ in
theorem mI(F:dI K "_law_gathered" (top 47)):FnAt P w K mg base "_law_gathered" 2 PM.dH:=
 FnAt.iU F T.gl (dJ (N:=["_law_ring_here","_law_pairs_here","_law_found","_law_pair","_law_rows","_law_exponents_here"]) (P:=["_law_ring_here","_law_pairs_here"])) (fun _ _ _ _ s _ _ nd hr=>by
 trivial
 .refine vo (by rfl) (by rfl) T.b.2.2.2.2.2.2.2.2.2.2.1 PyProof.Rows.Boot.«sorted» ?_<;>trivial)
variable(nR:FnAt P w K mg base "_law_gathered" 2 PM.dH)
include tY in
theorem t8(F:dI K "_law_same" (top 48)):FnAt P w K mg base "_law_same" 2 PM.cO:=
 FnAt.iU F T.gl (dJ (N:=["_law_found","_law_due","_law_k"]) (P:=["_law_found","_law_due"])) (fun _ _ _ _ s _ _ nd hr=>by
 have:(["_law_one"]:_z).Nodup:=by decide +kernel
 trivial
 .refine gi (N:=["_law_one"]) (k:=1) rfl rfl (h! (cl:=[])) ?_ (fun _ _ _ _=>?_) (fun _ _ _ _=>?_) (fun _ _ _ _=>?_)<;>trivial)
variable(nv:FnAt P w K mg base "_law_same" 2 PM.cO)
include ju jX ij in
theorem qF(F:dI K "_law_pairs" (top 51)):FnAt P w K mg base "_law_pairs" 2 PM.d8:=
 FnAt.iU F T.gl (dJ (N:=["_law_script","_law_place","_law_many","_law_size","_law_pairs_here","_law_k","_law_exponents_here"]) (P:=["_law_script","_law_place","_law_many","_law_size"])) (fun _ _ _ _ s _ _ nd hr=>by
 trivial) (fun _ _ _ _ _ _=>Ny fun _ _ _ _=>rfl)
variable(t9:FnAt P w K mg base "_law_pairs" 2 PM.d8)
include v7 in
theorem nS(F:dI K "_law_written" (top 53)):FnAt P w K mg base "_law_written" 2 PM.bS:=
 FnAt.iU F T.gl (dJ (N:=["_law_row","_law_found","_law_term","_law_sign"]) (P:=["_law_row"])) (fun _ _ _ _ s _ _ nd hr=>by
 trivial)
variable(jv:FnAt P w K mg base "_law_written" 2 PM.bS)
include Bh in
theorem qG(F:dI K "check_ring" (top 12)):FnAt P w K mg base "check_ring" 3 PM.c_:=
 FnAt.iU F T.gl (dJ (N:=["ring"]) (P:=["ring"])) (fun _ _ _ _ s _ _ nd hr=>by
 trivial)
variable(lH:FnAt P w K mg base "check_ring" 3 PM.c_)
include gM in
theorem lI(F:dI K "check_unknowns" (top 18)):FnAt P w K mg base "check_unknowns" 3 PM.bH:=
 FnAt.iU F T.gl (dJ (N:=["many"]) (P:=["many"])) (fun _ _ _ _ s _ _ nd hr=>by
 trivial)
variable(ik:FnAt P w K mg base "check_unknowns" 3 PM.bH)
include gM in
theorem mJ(F:dI K "are_exponents" (top 19)):FnAt P w K mg base "are_exponents" 3 PM.cV:=
 FnAt.iU F T.gl (dJ (N:=["thing","many"]) (P:=["thing","many"])) (fun _ _ _ _ s _ _ nd hr=>by
 have:(["exponent"]:_z).Nodup:=by decide +kernel
 trivial
 .refine gi (N:=["exponent"]) (k:=1) rfl rfl (h! (cl:=[])) ?_ (fun _ _ _ _=>?_) (fun _ _ _ _=>?_) (fun _ _ _ _=>?_)<;>trivial)
variable(nT:FnAt P w K mg base "are_exponents" 3 PM.cV)
include nQ in
theorem mK(F:dI K "sum_of_totals" (top 24)):FnAt P w K mg base "sum_of_totals" 3 PM.cW:=
 FnAt.iU F T.gl (dJ (N:=["ring","totals"]) (P:=["ring","totals"])) (fun _ _ _ _ s _ _ nd hr=>by
 have:(["exponents","totals"]:_z).Nodup:=by decide +kernel
 trivial
 .refine gi (N:=["exponents","totals"]) (k:=1) rfl rfl (h! (cl:=[("totals",s.heap.objs.size+1)])) ?_ (fun _ _ _ _=>?_) (fun _ _ _ _=>?_) (fun _ _ _ _=>?_)
  .trivial
   .refine vo (by rfl) (by rfl) T.b.2.2.2.2.2.2.2.2.2.2.1 PyProof.Rows.Boot.«sorted» ?_<;>trivial
  .trivial
  .trivial
  .trivial)
variable(nU:FnAt P w K mg base "sum_of_totals" 3 PM.cW)
include vZ v_ in
theorem Er(F:dI K "shown" (top 31)):FnAt P w K mg base "shown" 3 PM.shown:=
 FnAt.iU F T.gl (dJ (N:=["row","pieces","exponents","number"]) (P:=["row"])) (fun _ _ _ _ s _ _ nd hr=>by
 trivial)
variable(t_:FnAt P w K mg base "shown" 3 PM.shown)
include jW lE kq in
theorem nV(F:dI K "pair_written" (top 37)):FnAt P w K mg base "pair_written" 3 PM.cK:=
 FnAt.iU F T.gl (dJ (N:=["many","sign","word","number","exponents","factor"]) (P:=["many","sign","word"])) (fun _ _ _ _ s _ _ nd hr=>by
 trivial)
variable(jw:FnAt P w K mg base "pair_written" 3 PM.cK)
include kj nT in
theorem xW(F:dI K "is_pair" (top 20)):FnAt P w K mg base "is_pair" 4 PM.gJ:=
 FnAt.iU F T.gl (dJ (N:=["thing","many"]) (P:=["thing","many"])) (fun _ _ _ _ s _ _ nd hr=>by
 trivial)
variable(Bi:FnAt P w K mg base "is_pair" 4 PM.gJ)
include jw in
theorem mL(F:dI K "pairs_written" (top 36)):FnAt P w K mg base "pairs_written" 4 PM.ck:=
 FnAt.iU F T.gl (dJ (N:=["many","text","first_sign","words","signs"]) (P:=["many","text"])) (fun _ _ _ _ s _ _ nd hr=>by
 have:(["sign","word","many"]:_z).Nodup:=by decide +kernel
 trivial
 .refine DC (N:=["sign","word","many"]) (k:=2) rfl rfl (h! (cl:=[("many",s.heap.objs.size+1)])) ?_ (fun _ _ _ _=>?_) (fun _ _ _ _=>?_) (fun _ _ _ _ H_=>(HR jw hr (by decide) (by rfl) (Ie H_) (oq (sC 2) (oq (sC 0) (oq (sC 1) Cf)))))<;>trivial)
variable(nW:FnAt P w K mg base "pairs_written" 4 PM.ck)
include Bi in
theorem p?(F:dI K "check_pairs" (top 21)):FnAt P w K mg base "check_pairs" 5 PM.c7:=
 FnAt.iU F T.gl (dJ (N:=["many","pairs","thing"]) (P:=["many","pairs"])) (fun _ _ _ _ s _ _ nd hr=>by
 trivial)
variable(qH:FnAt P w K mg base "check_pairs" 5 PM.c7)
include Ep lH ik nU qH in
theorem Ht(F:dI K "made" (top 25)):FnAt P w K mg base "made" 6 PM.made:=
 FnAt.iU F T.gl (dJ (N:=["ring","many","pairs","totals","exponents","number"]) (P:=["ring","many","pairs"])) (fun _ _ _ _ s _ _ nd hr=>by
 trivial)
variable(LC:FnAt P w K mg base "made" 6 PM.made)
include lH ik t_ nW LC in
theorem Hu(F:dI K "read" (top 35)):FnAt P w K mg base "read" 7 PM.b!:=
 FnAt.iU F T.gl (dJ (N:=["ring","many","text","row"]) (P:=["ring","many","text"])) (fun _ _ _ _ s _ _ nd hr=>by
 trivial)
variable(xX:FnAt P w K mg base "read" 7 PM.b!)
include nv jv t_ xX in
theorem v?(F:dI K "_law_far" (top 54)):FnAt P w K mg base "_law_far" 8 gq:=
 FnAt.iU F T.gl (dJ (N:=["_law_ring_here","_law_many","_law_row","_law_step","_law_far_here","_law_found","_law_due","_law_told"]) (P:=["_law_ring_here","_law_many","_law_row","_law_step"])) (fun _ _ _ _ s _ _ nd hr=>by
 have:(["_law_term","_law_step"]:_z).Nodup:=by decide +kernel
 have:(["_law_one","_law_step"]:_z).Nodup:=by decide +kernel
 have:(["_law_term"]:_z).Nodup:=by decide +kernel
 trivial
 .refine MN.iC 4 (N:=["_law_term","_law_step"]) (k:=1) nd rfl rfl (h! (cl:=[("_law_step",s.heap.objs.size+1)])) ?_ (fun _ _ _ _=>?_) (fun _ _ _ _=>?_) (fun _ _ _ _=>?_)
  .trivial
  .trivial
  .trivial
  .trivial
   .refine gi (N:=["_law_one","_law_step"]) (k:=1) rfl rfl (h! (cl:=[("_law_step",s.heap.objs.size+1)])) ?_ (fun _ _ _ _=>?_) (fun _ _ _ _=>?_) (fun _ _ _ _=>?_)<;>trivial
 .refine gi (N:=["_law_term"]) (k:=1) rfl rfl (h! (cl:=[])) ?_ (fun _ _ _ _=>?_) (fun _ _ _ _=>?_) (fun _ _ _ _=>?_)<;>trivial
 .refine Kk T.qx.known ⟨fun _=>rfl,rfl,rfl⟩ ?_ ?_
  .refine F5 ?_
   .refine GP 7 nd ?_
    .refine Kl xX hr (by decide) (by rfl) (fun _=>rfl) (fun _=>?_)<;>trivial
  .refine CN T.sub T.c.2.2.2.1 (by rfl) (fun _ _=>?_) ?_
   .trivial
   .exact Kj) (fun _ _ _ _ _ _=>Ny fun _ _ _ _=>rfl)
variable(xY:FnAt P w K mg base "_law_far" 8 gq)
include ju jX ij v! nR nv t9 jv t_ xX xY in
theorem LD{f:_C}{fd:FuncData}(F:Fq K "law" "law" (top 55) f fd):iY P w K mg base (jO P w) 9 f fd ["_law_script"] (J2 ⟨K,mg,[]⟩ DE):=
 Cj F xU fun gn A outer s H E hr=>by
 have:=xU.nd;have:(["_law_k","_law_many","_law_mix"]:_z).Nodup:=by decide +kernel
 trivial
 .refine MN.iC 7 (N:=["_law_k","_law_many","_law_mix"]) (k:=1) xU.nd rfl rfl (Ol (cl:=[("_law_many",s.heap.objs.size+1),("_law_mix",s.heap.objs.size+2)]) (cl':=[("_law_mix",s.heap.objs.size+2),("_law_many",s.heap.objs.size+1)]) (caps':=[6,4])) ?_ (fun _ _ _ _=>?_) (fun _ _ _ _=>?_) (fun _ _ _ _=>?_)<;>trivial
end
theorem all_mk{l:W.OpenLaw}{w:World}{K:_u}{h:Heap}{mg:_s}{fa:_C}(X:K.In h)(G:h.Ns mainGlobals mg)(Vb:mg "law" = some (.ref fa)){Rx:_C}{Ry Ot:Option _C}{Rz:Array (_x)}{RA Ou Ov Ow LF Ox:_A}{t!:Tok}{iR:_C}{nX:Option _C}{nY:Nat}{nZ:Array (_x)}{mM mO mP mQ mR mS mT mU mV mW lJ:Tok}{mX:Tok}{iV:Tok}{qa:_C}{xZ:Option _C}{x8:Nat}{x9:Array (_x)}{wa wb wc wd:Tok}{we:_C}{Es:Option _C}{Et:Nat}{Eu:Array (_x)}{Bj Bk:Tok}{x_:Tok}{gY:Tok}(h0:dI K "is_whole" (top 9))(h1:dI K "is_prime_within" (top 10))(h2:dI K "rest_in_ring" (top 13))(h3:dI K "add_to" (top 22))(h4:dI K "sign_text" (top 32))(h5:dI K "power_text" (top 34))(h6:dI K "are_figures" (top 38))(h7:dI K "place_of_letter" (top 39))(h8:dI K "_law_whole" (top 42))(h9:dI K "_law_cell_at" (top 43))(RC:dI K "_law_prime" (top 44))(RD:dI K "_law_settled" (top 46))(RE:dI K "_law_number" (top 49))(RF:dI K "_law_exponents" (top 50))(RG:dI K "_law_word" (top 52))(RH:dI K "is_ring" (top 11))(RI:dI K "is_whole_within" (top 17))(RJ:dI K "settled_terms" (top 23))(RK:dI K "term_text" (top 33))(RL:dI K "exponent_written" (top 40))(RM:dI K "_law_ring" (top 45))(RN:dI K "_law_gathered" (top 47))(RP:dI K "_law_same" (top 48))(RQ:dI K "_law_pairs" (top 51))(RT:dI K "_law_written" (top 53))(RU:dI K "check_ring" (top 12))(RV:dI K "check_unknowns" (top 18))(RW:dI K "are_exponents" (top 19))(RX:dI K "sum_of_totals" (top 24))(RY:dI K "shown" (top 31))(RZ:dI K "pair_written" (top 37))(R0:dI K "is_pair" (top 20))(R3:dI K "pairs_written" (top 36))(R4:dI K "check_pairs" (top 21))(R5:dI K "made" (top 25))(R6:dI K "read" (top 35))(R7:dI K "_law_far" (top 54))(R8:W.nsIn K mainGlobals "law" = some (some (.ref Rx)))(R9:K.lookup Rx=some ⟨RA,Ry,.func (W.fnOf "law" "law" (gf (top 55)) (d0 (top 55)) (bu (top 55)) .none Ou Ov Ow Ot LF Ox),Rz⟩)(R_:W.codeIn K LF "law" = true)(R!:W.keepIn K (.ref Rx)=true)(zb:xo K ["abs","all","bool","enumerate","int","isinstance","len","list","max","range","sorted","str","tuple","zip"])(zc:xp K ["NoRing","NoUnknowns","NoTerm","NotWritten"])(iN:W.nsIn K mainGlobals "MOST_RING" = some (some (.int 997 t!)))(fY:W.nsIn K mainGlobals "FIRST_PRIMES" = some (some (.ref iR)))(fZ:K.lookup iR=some ⟨.type "tuple",nX,.seq #[.int 2 mM,.int 3 mO,.int 5 mP,.int 7 mQ,.int 11 mR,.int 13 mS,.int 17 mT,.int 19 mU,.int 23 mV,.int 29 mW,.int 31 lJ] nY,nZ⟩)(fH:W.nsIn K mainGlobals "MOST_UNKNOWNS" = some (some (.int 4 mX)))(dQ:W.nsIn K mainGlobals "MOST_MADE_EXPONENT" = some (some (.int 99 iV)))(kr:W.nsIn K mainGlobals "LETTERS" = some (some (.ref qa)))(ku:K.lookup qa=some ⟨.type "tuple",xZ,.seq #[.str "x" wa,.str "y" wb,.str "z" wc,.str "w" wd] x8,x9⟩)(qb:W.nsIn K mainGlobals "SIGNS" = some (some (.ref we)))(qc:K.lookup we=some ⟨.type "tuple",Es,.seq #[.str "+" Bj,.str "-" Bk] Et,Eu⟩)(kA:W.nsIn K mainGlobals "FIGURES" = some (some (.str "0123456789" x_)))(dc:W.nsIn K mainGlobals "MOST_EXPONENT_FIGURES" = some (some (.int 2 gY)))(zp:ni K N9)(zv:pD K [])(zw:W.nsIn K mainGlobals "ValueError" = some none)(zq:xq K kn):
  ∃fd:FuncData,(∀(s:_B)(v:_A),BindsTo s fd ⟨[v],[]⟩ [("_law_script",v)])/\∀base:Heap,K.In base->base.Ns mainGlobals mg->iY l.prog w K mg base (jO l.prog w) 9 fa fd ["_law_script"] (yC K):=by
 have e:=Vb.symm.trans (Wq X G R8);cases e;refine⟨W.fnOf "law" "law" (gf (top 55)) (d0 (top 55)) (bu (top 55)) .none Ou Ov Ow Ot LF Ox,fun s v=>.of_eq rfl,fun base _ _=>?_⟩;have T:Txt l.prog w K mg base:=⟨fun _ _ h=>Wq X G h,zb.get X G,zc.get X G,Glob.int (Wq X G iN),Glob.ints (ns:=[2,3,5,7,11,13,17,19,23,29,31]) (Wq X G fY) fZ rfl rfl (by simp[VT]) (.cons ⟨_,rfl⟩ (.cons ⟨_,rfl⟩ (.cons ⟨_,rfl⟩ (.cons ⟨_,rfl⟩ (.cons ⟨_,rfl⟩ (.cons ⟨_,rfl⟩ (.cons ⟨_,rfl⟩ (.cons ⟨_,rfl⟩ (.cons ⟨_,rfl⟩ (.cons ⟨_,rfl⟩ (.cons ⟨_,rfl⟩ (.nil)))))))))))),Glob.int (Wq X G fH),Glob.int (Wq X G dQ),Glob.strs (ns:=["x","y","z","w"]) (Wq X G kr) ku rfl rfl (by simp[VT]) (.cons ⟨_,rfl⟩ (.cons ⟨_,rfl⟩ (.cons ⟨_,rfl⟩ (.cons ⟨_,rfl⟩ (.nil))))),Glob.strs (ns:=["+","-"]) (Wq X G qb) qc rfl rfl (by simp[VT]) (.cons ⟨_,rfl⟩ (.cons ⟨_,rfl⟩ (.nil))),Glob.str (Wq X G kA),Glob.int (Wq X G dc),zp.get X G (zv.get X G zw),zq.get X G⟩
 have kB:=vY T  h0;have lK:=kl T  h1;have qd:=nN T  h2;have Ew:=Bg T  h3;have wg:=tW T  h4;have t?:=qC T  h5;have jY:=p9 T  h6;have lM:=km T  h7;have uc:=qD T  h8;have jx:=nO T  h9;have ud:=qE T  RC;have qe:=nP T  RD;have jZ:=p! T  RE;have il:=lG T  RF;have wj:=t4 T  RG;have Bl:=xV T kB lK RH;have gN:=ko T kB RI;have n_:=mH T qd RJ;have wk:=t5 T t? RK;have kC:=jN T jY RL;have wm:=t7 T ud RM;have n!:=mI T qe RN;have ny:=t8 T uc RP;have uf:=qF T jx jZ il RQ;have jy:=nS T wj RT;have lN:=qG T Bl RU;have iq:=lI T gN RV;have n?:=mJ T gN RW;have og:=mK T n_ RX;have ug:=Er T wg wk RY;have qf:=nV T jY lM kC RZ;have Bm:=xW T kB n? R0;have oh:=mL T qf R3;have qI:=p? T Bm R4;have LG:=Ht T Ew lN iq og qI R5;have Ex:=Hu T lN iq ug oh LG R6;have x!:=v? T ny jy ug Ex R7;exact(LD T jx jZ il wm n! ny uf jy ug Ex x! (BV (st:=top 55) R9 R_ R!)).imp fun _ _ _ _ h=>Kn Eo h
end A3
namespace PySem.W.Fast
def tw8736718374386443861:=()
def tw12737443007278406071:=()
def tw11790706151212349122:=()
def tw5116041944112905842:=()
def tw8130546552206012453:=()
def tw6979354761929550755:=()
def tw14271299140332449462:=()
def tw11720741887844570600:=()
def tw2426051335373874404:=()
def tw4799331506943811033:=()
def tw11769567049500407749:=()
def tw1270822038578103784:=()
def tw15140507659713087670:=()
def tw11589123558815131158:=()
def tw11019746653418565259:=()
def tw9037288432419430161:=()
def tw6787568440684676159:=()
def tw14548658210483598108:=()
def tw9767314090059244915:=()
def tw4496582598891276682:=()
def tw4134156201773686306:=()
def tw18345333952085018474:=()
def tw12529753875027922524:=()
def tw9339155571262661282:=()
def tw15619420248264787629:=()
def tw10072602610051629238:=()
def tw801166875362391145:=()
def tw10277519385017461760:=()
def tw4497320552563568642:=()
def tw12403367959949860137:=()
def tw13073080879995358553:=()
def tw12216083754409885603:=()
def tw3035865492424256950:=()
def tw15150818479428597542:=()
def tw2420728251449289531:=()
end PySem.W.Fast
open PySem.W PyProof.Rows
set_option maxRecDepth 100000 in
set_option maxHeartbeats 0 in
theorem PySem.Challenge.cw_polyring_k10_written_holds : PySem.Challenge.rw_polyring_k10_written.Holds := by
 w_on;o_law;k_head;(case hw=>w_witness2)
 k_fill
 refine MN.CM (l:=PySem.Challenge.rw_polyring_k10_written) (k:=9) (x:="_law_script") rfl rfl ⟨rfl,by decide,by decide⟩ (fun w h Y=>PySem.W.kIn_of Y) ?F
 case F=>
  intro w mg fa h KX G MS;refine' A3.all_mk KX G MS ?h0 ?h1 ?h2 ?h3 ?h4 ?h5 ?h6 ?h7 ?h8 ?h9 ?RC ?RD ?RE ?RF ?RG ?RH ?RI ?RJ ?RK ?RL ?RM ?RN ?RP ?RQ ?RT ?RU ?RV ?RW ?RX ?RY ?RZ ?R0 ?R3 ?R4 ?R5 ?R6 ?R7 ?R8 ?R9 ?R_ ?R! ?zb ?zc ?iN ?fY ?fZ ?fH ?dQ ?kr ?ku ?qb ?qc ?kA ?dc ?zp ?zv ?zw ?zq
  (case h0|h1|h2|h3|h4|h5|h6|h7|h8|h9|RC|RD|RE|RF|RG|RH|RI|RJ|RK|RL|RM|RN|RP|RQ|RT|RU|RV|RW|RX|RY|RZ|R0|R3|R4|R5|R6|R7=>refine' MN.dI.mk ?a ?l ?c ?k;(case a=>k_is);(case l=>k_is);(case c=>k_is);(case k=>k_is);skip)
  (case R8=>k_is)
  (case R9=>k_is)
  (case R_=>k_is)
  (case R!=>k_is)
  case zb=>
   repeat (refine' MN.xo.cons ?a ?_;(case a=>k_is);skip)
   exact .nil
  case zc=>
   repeat (refine' MN.xp.cons ?a ?e ?s ?_;(case a=>k_is);(case e=>k_exc);(case s=>k_is);skip)
   exact .nil
  (case iN=>k_is)
  (case fY=>k_is)
  (case fZ=>k_is)
  (case fH=>k_is)
  (case dQ=>k_is)
  (case kr=>k_is)
  (case ku=>k_is)
  (case qb=>k_is)
  (case qc=>k_is)
  (case kA=>k_is)
  (case dc=>k_is)
  case zp=>
   repeat (refine' MN.ni.cons ?a ?b ?c ?d ?e ?_;(case a=>k_is);(case b=>k_is);(case c=>k_is);(case d=>k_is);(case e=>first|k_is|kit_is);skip)
   exact .nil
  case zv=>
   repeat (refine' MN.pD.cons ?a ?e ?_;(case a=>k_is);(case e=>first|k_is|kit_is);skip)
   exact .nil
  (case zw=>k_is)
  case zq=>
   repeat (refine' MN.xq.cons ?a ?e ?_;(case a=>k_is);(case e=>first|k_is|kit_is|rfl|decide +kernel);skip)
   exact .nil
