import PyProof.Rows.All
import Wide.All
import OpenK.AllK
import PySem.Challenge.RW_polyring_k18_whole_parts
set_option Elab.async false
set_option linter.all false
set_option maxRecDepth 100000
set_option maxHeartbeats 4000000
set_option compiler.extract_closed false
set_option genSizeOf false
-- TL: aaA aaw module here,as uY last of aax rows
open PySem
noncomputable section
abbrev ZT:=Value->Shared->Prop
abbrev ZU:=Str->Option Value
abbrev ZV:=List (Addr×Obj)
abbrev ZW:=W.Frag
abbrev ZX:=List Int
abbrev ZY:=List Value
abbrev ZZ:=Option Value
abbrev Z0:=List Addr
abbrev Z1:=List Str
abbrev Z2:=Value
abbrev Z3:=Shared
abbrev Z4:=Addr
abbrev Z5:=Around
abbrev Z6:=Program
def Vj:=@wpAny_bind
def Vk.{u}:=@List.length_cons.{u}
def Vl.{u,v}:=@List.length_map.{u,v}
def Vm:=@Heap.get?_push_of_some
def Vn.{u}:=@List.length_append.{u}
def Vo.{u}:=@List.set_cons_zero.{u}
def Vp.{u}:=@List.getElem?_eq_getElem.{u}
def Vq.{u}:=@List.length_nil.{u}
def Vr.{u,v}:=@List.map_cons.{u,v}
def Vs.{u}:=@List.set_cons_succ.{u}
def Vt.{u}:=@List.replicate_zero.{u}
def Vu.{u}:=@List.nil_append.{u}
def Vv:=@sizeLine_eq
def Vx.{u}:=@List.getD_eq_getElem?_getD.{u}
def Vy.{u}:=@List.replicate_succ.{u}
def Vz.{u}:=@List.length_pos_iff.{u}
def VA:=@Nat.le_refl
def VB.{u}:=@List.cons_append.{u}
def VC:=@wpAny_pure
def VD.{u}:=@if_pos.{u}
def VE:=@Heap.lt_size
def VF.{u}:=@List.size_toArray.{u}
def VG.{u,v}:=@List.getElem?_map.{u,v}
def VH.{u,v}:=@List.map_nil.{u,v}
def VI.{u}:=@if_neg.{u}
def VJ:=@Nat.lt_of_lt_of_le
def VL:=@Heap.get?_push_size
def VM:=@Bool.false_ne_true
def VN.{u}:=@List.mem_cons_of_mem.{u}
def VO.{u}:=@List.append_assoc.{u}
def VP.{u}:=@List.getElem?_append_right.{u}
def VQ:=@List.length_range
def VR.{u}:=@Option.some.inj.{u}
def VS.{u}:=@List.mem_cons_self.{u}
def VT.{u}:=@List.mem_cons.{u}
def VU.{u}:=@List.length_replicate.{u}
def VV:=@decide_eq_false
def VW:=@decide_eq_true
def VX:=@Nat.zero_add
def VY.{u}:=@List.mem_singleton.{u}
def VZ.{u}:=@List.getElem?_eq_none.{u}
def V0.{u}:=@List.getElem?_append_left.{u}
def V1:=@Nat.ne_of_lt
def V2.{u}:=@List.mem_append_right.{u}
def V3.{u}:=@List.append_nil.{u}
def V4.{u}:=@List.mem_append.{u}
def V5:=@Heap.get?_update_other
def V6:=@Int.emod_add_mul_ediv
def V7:=@List.getElem?_range
def V8:=@Int.toNat_of_nonneg
def V9:=@Int.mul_le_mul_of_nonneg_left
def V_:=@wpAny_field
def V!:=@Nat.le_trans
def V?:=@Int.emod_eq_of_lt
def Wa.{u}:=@List.eq_nil_of_length_eq_zero.{u}
def Wb.{u}:=@List.mem_of_getElem?.{u}
def Wc.{u,v}:=@List.mem_map.{u,v}
def Wd:=@Bool.not_true
def We:=@Int.mul_zero
def Wf:=@wpAny_newObj_type
def Wg:=@Nat.lt_irrefl
def Wh.{u,v,w}:=@List.map_map.{u,v,w}
def Wi.{u}:=@List.length_singleton.{u}
def Wj:=@wpAny_callSpecial?_slot
def Wk.{u}:=@List.mem_append_left.{u}
def Wl.{u}:=@List.length_set.{u}
def Wm:=@wpAny_mono
def Wn.{u,v}:=@List.map_append.{u,v}
def Wq:=@W.kia_one
def Wr:=@wpAny_call_entry
def Ws.{u}:=@List.getElem?_set_self.{u}
def Wt:=@Int.mul_assoc
def Wu:=@F.slot_dict_keyiterator_next
def Wv:=@Int.one_mul
def Ww:=@PyProof.Rows.callWith_type1
def Wx:=@Obj.data_mapFields
def Wy.{u}:=@Lean.Grind.Semiring.pow_succ.{u}
def Wz.{u}:=@List.getElem?_replicate.{u}
def WA.{u}:=@List.all_eq_true.{u}
def WB:=@wpAny_truthy_bool
def WC:=@F.slot_tuple_iterator_next
def WD:=@Int.emod_lt_of_pos
def WE.{u}:=@Array.length_toList.{u}
def WG:=@Nat.lt_or_ge
def WH:=@Nat.zero_le
def WI.{u,v}:=@List.pairwise_map.{u,v}
def WJ:=@Heap.get?_update_self
def WK.{u}:=@List.getElem?_eq_some_iff.{u}
def WL:=@of_decide_eq_true
def WM:=@Int.toNat_natCast
def WN.{u}:=@List.pairwise_cons.{u}
def WO.{u}:=@List.not_mem_nil.{u}
def WQ:=@wpAny_setField
def WR:=@wpAny_seqItems
def WS:=@mem_of_lookup
def WT:=@Nat.sub_self
def WU.{u}:=@List.getElem?_set_ne.{u}
def WV:=@Bool.and_eq_true
def WX.{u}:=@Lean.Grind.Semiring.pow_zero.{u}
def WY:=@Int.natCast_mul
def WZ:=@Int.emod_nonneg
def W2.{u,v}:=@congrArg.{u,v}
def W3.{u}:=@beq_self_eq_true.{u}
def W4:=@Nat.ne_of_gt
def W5.{u,v}:=@List.mem_map_of_mem.{u,v}
def W6:=@Int.zero_mul
def W7:=@Int.mul_comm
def W8:=@Int.add_zero
def W9.{u}:=@beq_iff_eq.{u}
def W_:=@W.mg_of
def W!.{u}:=@List.drop_eq_getElem_cons.{u}
def W?:=@Int.mul_le_mul_of_nonneg_right
def W'.{u}:=@List.flatten_cons.{u}
def Xa.{u,v}:=@List.filterMap_cons_some.{u,v}
def Xb:=@wpAny_typeNameOfWhole_keyiter
def Xc:=@wpAny_setField_rec
def Xd:=@wpAny_passesOwn
def Xe:=@or_false
def Xf.{u}:=@Ne.symm.{u}
def Xg:=@Int.mul_one
def Xh:=@Int.mul_add
def Xi:=@Obj.isFreed_of_fields
def Xj:=@Int.zero_add
def Xk:=@Int.zero_emod
def Xl.{u}:=@List.pairwise_append.{u}
def Xm:=@Int.dvd_of_emod_eq_zero
def Xn:=@wpAny_typeNameOf_keyiter
def Xo:=@wpAny_holding
def Xq:=@decide_eq_true_eq
def Xr.{u}:=@beq_eq_false_iff_ne.{u}
def Xs:=@Bool.not_false
def Xt:=@wpAny_execs_nil
def Xu:=@wpAny_Call_Name_kw
def Xv:=@PyProof.Rows.slot_tuple_getitem
def Xw.{u}:=@List.any_cons.{u}
def Xx.{u}:=@List.find?_cons.{u}
def Xy.{u,v}:=@List.map_congr_left.{u,v}
def Xz.{u,v}:=@List.filterMap_cons_none.{u,v}
def XA:=@Heap.size_push
def XC:=@Int.natCast_one
def XD:=@Int.natCast_add
def XE:=@W.hideAll_get
def XF:=@Int.mul_emod
def XG:=@Int.lt_or_le
def XH:=@wpAny_attempt
def XI.{u}:=@List.drop_length.{u}
def XJ:=@Bool.false_eq_true
def XM.{u}:=@List.all_cons.{u}
def XN:=@F.args_tuple_iterator_next_1
def XO:=@Int.mul_neg
def XQ:=@Heap.SameBut.update
def XR:=@codeAny_mono
def XS:=@F.args_tuple_add_2
def XT.{u}:=@List.nodup_cons.{u}
def XU:=@F.entry_tuple_iterator_next
def XW:=@Bool.false_or
def XX:=@F.entry_tuple_add
def XY:=@Nat.lt_succ_self
def XZ.{u}:=@if_false.{u}
def X0:=@W.cellsFrom_some
def X1:=@F.slot_tuple_add
def X2:=@Nat.dvd_of_mod_eq_zero
def X6:=@wpAny_pyIter_list
def X7.{u,v}:=@List.filterMap_cons.{u,v}
def X8:=@wpAny_comprehension_free
def X9:=@wpAny_isInstance
def X_:=@Nat.pow_le_pow_right
def X!:=@List.mem_range
def X?:=@Int.mul_nonneg
def Ya:=@Int.emod_emod_of_dvd
def Yb:=@Bool.false_and
def Yc:=@F.args_dict_keyiterator_next_1
def Yd.{u}:=@List.pairwise_singleton.{u}
def Ye.{u}:=@List.mem_nil_iff.{u}
def Yf.{u}:=@List.cons_ne_nil.{u}
def Yg:=@F.entry_dict_keyiterator_next
def Yh:=@F.slot_zip_next
def Yi:=@W.callWith_K
def Yj:=@Nat.eq_zero_or_pos
def Yk:=@wpAny_updateSeq_pair
def Yl:=@isSubtype_stop
def Ym:=@Nat.succ.inj
def Yn:=@Nat.le_of_lt
def Yo:=@Nat.le_of_not_lt
def Yp.{u}:=@List.perm_cons_erase.{u}
def Yq:=@wpAny_onRaise
def Yr:=@Nat.log2_lt
def Ys.{u,v}:=@List.of_mem_zip.{u,v}
def Yt:=@Int.neg_mul
def Yu:=@Int.le_refl
def Yv:=@Int.add_mul
def Yw:=@wpAny_rule
def Yx:=@wpAny_pyIter_tuple
def Yy:=@call_meets
def Yz:=@SeqAt.EqAt.str_int
def YA:=@SeqAt.EqAt.int_str
def YB:=@Nat.not_lt_zero
def YC:=@Int.ediv_nonneg
def YD:=@Bool.or_eq_true
def YE:=@wpAny_dictEntries
def YF:=@slot_list_getitem
def YG:=@seqIndex_neg
def YH.{u}:=@List.getElem?_drop.{u}
def YI:=@Int.fdiv_eq_ediv_of_nonneg
def YJ:=@Int.add_mul_emod_self_left
def YK:=@Nat.eq_of_mul_eq_mul_left
def YL:=@wpAny_execs_cons
def YM:=@noFill_tuple_add
def YN.{u}:=@if_true.{u}
def YO:=@PyProof.noPylong_of_log2
def YQ.{u}:=@List.ext_getElem?.{u}
def YR:=@Bool.true_and
def YS:=@seqIndex_of
def YT:=@F.plainAttrs_list
def YU:=@PyProof.Rows.boot_tuple
def YV:=@wpAny_dictEpoch
def YW:=@codeAny_builtin
def YX:=@SeqAt.EqAt.same
def YY:=@F.slot_dict_iter
def YZ:=@PyProof.Rows.boot_list
def Y0:=@Nat.mod_eq_zero_of_dvd
def Y1:=@List.range_succ_eq_map
def Y2.{u}:=@List.prefix_refl.{u}
def Y3.{u,v}:=@List.mem_filterMap.{u,v}
def Y4.{u}:=@List.length_take.{u}
def Y5.{u}:=@List.getElem_mem.{u}
def Y6:=@Int.dvd_refl
def Y7:=@Bool.true_or
def Y8:=@PyProof.Rows.boot_all
def Y9:=@wpAny_newFunctionEnv_cells
def Y_:=@Nat.add_mul
def Y!.{u,v}:=@List.map_set.{u,v}
def Y?:=@Calls.Name_function_global
def Y':=@Nat.mul_le_mul_left
def Za:=@wpAny_standAt
def Zb:=@wpAny_handled
def Zc:=@wpAny_getItem_list_slice
def Zd:=@seq_tuple_add
def Ze:=@evalPart_none
def Zf:=@W.of_hideAll
def Zg:=@W.mg_none_of
def Zh:=@W.kitx_tuple
def Zi:=@W.codeRec_of
def Zj:=@Paired.length
def Zk:=@Nat.lt_of_lt_of_eq
def Zl:=@Int.natAbs_eq_zero
def Zm:=@wpAny_pyNext_tuple_item
def Zn:=@list_append
def Zo:=@W.kitx_list
def Zp:=@W.kitx_dict
def Zq:=@Nat.mul_mod_right
def Zr:=@Nat.lt_succ_of_lt
def Zs.{u}:=@List.pairwise_iff_getElem.{u}
def Zt.{u}:=@List.getElem?_eq_none_iff.{u}
def Zu:=@Int.mul_emod_left
def Zv:=@Int.lt_trichotomy
def Zw:=@Bool.not_eq_true'
def Zx.{u}:=@Array.getElem?_eq_getElem.{u}
def Zy:=@wpAny_pyNext_range_end
def Zz:=@wpAny_pyNext_list_item
def ZA:=@wpAny_pyIter_rangeiter
def ZC:=@wpAny_getItem_list_neg
def ZD:=@concat_meets
def ZE:=@SeqAt.ne_of_list_tuple
def ZF:=@IsL.update
def ZG:=@Nat.lt_log2_self
def ZH:=@Nat.le_add_right
def ZI.{u}:=@List.eq_of_mem_replicate.{u}
def ZJ:=@Calls.callWith_builtin
def ZK.{u}:=@Array.size_setIfInBounds.{u}
def ZL:=@wpAny_pyIter_listiter
def ZM:=@wpAny_isOneOf_keyiter
def ZN:=@codeAny_call_function
def ZO.{u}:=@List.pairwise_mergeSort.{u}
def ZP.{u}:=@List.mem_singleton_self.{u}
def ZQ.{u}:=@List.length_eq_zero_iff.{u}
def ZR.{u}:=@List.filter_cons_of_pos.{u}
def ZS.{u}:=@List.filter_cons_of_neg.{u}
namespace L2
open PySem.Spec PyProof.Rows
abbrev e8:=Sum Int Str
def vB:e8->Z2->Bool
 |.inl k,v=>Value.isInt k v
 |.inr x,v=>Value.isStrOf x v
def TM(w:World):e8->Int
 |.inl k=>hashInt k
 |.inr x=>hashStr w x
theorem dD:∀{k:e8}{v:Z2},vB k v=true->(∃i t,k=Sum.inl i/\v=Value.int i t)\/(∃x t,k=Sum.inr x/\v=Value.str x t)
 |.inl i,v,h=>by obtain⟨t,e⟩:=Value.isInt_shape (k:=i) (v:=v) h;exact .inl ⟨i,t,rfl,e⟩
 |.inr x,v,h=>by obtain⟨t,e⟩:=Value.isStrOf_shape (x:=x) (v:=v) h;exact .inr ⟨x,t,rfl,e⟩
theorem CS(i:Int)(t:Tok):vB (.inl i) (.int i t)=true:=by simp[vB,Value.isInt]
theorem CT(x:Str)(t:Tok):vB (.inr x) (.str x t)=true:=by simp[vB,Value.isStrOf]
theorem LF(a b:Int):decide ((Sum.inl a:e8)=Sum.inl b)=(a==b):=by
 by_cases e:a=b
 .subst e;simp
 .have h:¬ (Sum.inl a:e8)=Sum.inl b:=fun q=>e (Sum.inl.inj q);rw[VV h];exact(Xr.mpr e).symm
theorem LG(a b:Str):decide ((Sum.inr a:e8)=Sum.inr b)=decide (a=b):=by
 by_cases e:a=b
 .subst e;simp
 .have h:¬ (Sum.inr a:e8)=Sum.inr b:=fun q=>e (Sum.inr.inj q);rw[VV h,VV e]
theorem LH(a:Int)(b:Str):decide ((Sum.inl a:e8)=Sum.inr b)=false:=VV (fun q=>nomatch q)
theorem LI(a:Str)(b:Int):decide ((Sum.inr a:e8)=Sum.inl b)=false:=VV (fun q=>nomatch q)
def fu(prog:Z6)(w:World):PySem.KeyKind prog w e8 where
 is:=vB
 hash:=TM w
 inj:=fun v a b ha hb=>by
  rcases dD ha with⟨i,t,rfl,rfl⟩|⟨x,t,rfl,rfl⟩
  .rcases dD hb with⟨j,u,rfl,e⟩|⟨y,u,rfl,e⟩
   .injection e with e1 _;rw[e1]
   .exact nomatch e
  .rcases dD hb with⟨j,u,rfl,e⟩|⟨y,u,rfl,e⟩
   .exact nomatch e
   .injection e with e1 _;rw[e1]
 byValue:=fun k v h=>by rcases dD h with⟨i,t,rfl,rfl⟩|⟨x,t,rfl,rfl⟩<;>rfl
 pyHash:=fun hv h=>by
  rcases dD hv with⟨i,t,rfl,rfl⟩|⟨x,t,rfl,rfl⟩
  .exact wpAny_pyHash_int h
  .exact wpAny_pyHash_str h
 eqBool:=fun hu hv h=>by
  rcases dD hu with⟨i,t,rfl,rfl⟩|⟨x,t,rfl,rfl⟩
  .rcases dD hv with⟨j,u,rfl,rfl⟩|⟨y,u,rfl,rfl⟩
   .rw[LF]at h;exact wpAny_eqBool_int h
   .rw[LH]at h;exact YA i t y u _ _ _ _ h
  .rcases dD hv with⟨j,u,rfl,rfl⟩|⟨y,u,rfl,rfl⟩
   .rw[LI]at h;exact Yz x t j u _ _ _ _ h
   .rw[LG]at h;exact wpAny_eqBool_str h
 «strs»:=fun k x t v h=>by
  rcases dD h with⟨i,u,rfl,e⟩|⟨y,u,rfl,e⟩
  .exact nomatch e
  .injection e with e1 _;subst e1;cases v<;>rfl
theorem ye(prog:Z6)(w:World)(i:Int)(t:Tok):(fu prog w).is (.inl i) (.int i t)=true:=CS i t
theorem yf(prog:Z6)(w:World)(x:Str)(t:Tok):(fu prog w).is (.inr x) (.str x t)=true:=CT x t
inductive V where
 |dg|bl (b:Bool)|int (i:Int)|str (x:Str)|TN (b:Array UInt8)|rL (b:UInt64)|ref (a:Z4)|ty (n:String)
 deriving DecidableEq
def bK:V->Z2->Prop
 |.dg,u=>u=Value.none
 |.bl b,u=>u=Value.bool b
 |.int i,u=>∃t,u=Value.int i t
 |.str x,u=>∃t,u=Value.str x t
 |.TN b,u=>∃t,u=Value.bytes b t
 |.rL b,u=>∃t,u=Value.float b t
 |.ref a,u=>u=Value.ref a
 |.ty n,u=>u=Value.type n
abbrev bA:List V->ZY->Prop:=Paired bK
theorem bA.length{xs:List V}{us:ZY}(r:bA xs us):xs.length=us.length:=Zj r
theorem bA.get:∀{xs:List V}{us:ZY}{i:Nat}{x:V},bA xs us->xs[i]?=some x->∃u,us[i]?=some u/\bK x u
 |_,_,_,_,.nil,e=>by simp at e
 |_,_,0,_,.cons r _,e=>by simp at e;subst e;exact⟨_,rfl,r⟩
 |_,_,i+1,x,.cons _ t,e=>by obtain⟨u,h1,h2⟩:=bA.get (i:=i) (x:=x) t (by simpa using e);exact⟨u,by simpa using h1,h2⟩
theorem bA.set{x:V}{u:Z2}(r:bK x u):∀{xs:List V}{us:ZY}(i:Nat),bA xs us->bA (xs.set i x) (us.set i u)
 |_,_,_,.nil=>.nil
 |_,_,0,.cons _ t=>.cons r t
 |_,_,i+1,.cons q t=>.cons q (bA.set r i t)
theorem bA.append:∀{xs ys:List V}{us ws:ZY},bA xs us->bA ys ws->bA (xs++ys) (us++ws)
 |_,_,_,_,.nil,s=>s
 |_,_,_,_,.cons r t,s=>.cons r (bA.append t s)
theorem bA.take:∀{xs:List V}{us:ZY}(n:Nat),bA xs us->bA (xs.take n) (us.take n)
 |_,_,0,_=>.nil
 |_,_,_+1,.nil=>.nil
 |_,_,n+1,.cons r t=>.cons r (bA.take n t)
theorem bA.drop:∀{xs:List V}{us:ZY}(n:Nat),bA xs us->bA (xs.drop n) (us.drop n)
 |_,_,0,r=>r
 |_,_,_+1,.nil=>.nil
 |_,_,n+1,.cons _ t=>bA.drop n t
def sE:Option V->ZZ->Prop
 |some v,some u=>bK v u
 |none,none=>True
 |_,_=>False
def KV{κ:Type}:List (κ×V)->List (κ×Z2)->Prop:=Paired fun(p:κ×V)(q:κ×Z2)=>p.1=q.1/\bK p.2 q.2
def kV:e8->V
 |.inl i=>.int i
 |.inr x=>.str x
inductive HO where
  |lst (xs:List V)
  |tup (xs:List V)
  |dK (aY:List (e8×V))|dT (aY:List (List e8×V))
  |set (S:Int->Bool) (n:Nat)
  |ins (C dx:Z4) (fs:List (Str×V))
  |own (x:Z4)
  |xd (fs:List (Str×V))
  |met (f x:Z4)
  |HG (lo hi:Int)
  |nk (o:Obj) (u:HO)
  |HH (ps:Array Z2)
  |ext (φ:Heap->Prop)
abbrev Hp:=Z4->Option HO
def upd(H:Hp)(a:Z4)(o:HO):Hp:=fun b=>if b=a then some o else H b
theorem dr{H:Hp}{a:Z4}{o:HO}:upd H a o a=some o:=by unfold upd;rw[VD rfl]
theorem bB{H:Hp}{a b:Z4}{o:HO}(h:b≠a):upd H a o b=H b:=by unfold upd;rw[VI h]
theorem Pd{H:Hp}{a b:Z4}{o u:HO}(h:H a=some o)(h':H b=some u)(d:o≠u):a≠b:=by intro e;subst e;rw[h]at h';exact d (VR h')
theorem bC{H:Hp}{a b:Z4}{o:HO}(h:H a=some o)(h':H b=none):a≠b:=by intro e;subst e;rw[h]at h';cases h'
section
variable(P:Z6)(w:World)
def dE(H:Hp)(h:Heap)(a:Z4):HO->Prop
 |.lst xs=>xs.length<=sizeLine/\∃(aV:ZY)(n:Nat),bA xs aV/\h.get? a=some {cls:=.type "list",data:=.seq aV.toArray n}
 |.tup xs=>xs.length<=sizeLine/\∃aV:ZY,bA xs aV/\IsTup h a aV.toArray
 |.dK aY=>aY.length<=sizeLine/\(a==sysModules)=false/\∃vs,KV aY vs/\h.DictOf (fu P w) a vs
 |.dT aY=>aY.length<=sizeLine/\(a==sysModules)=false/\∃xs:List (List e8×Z4×Z2),
   Paired (fun(p:List e8×V)(q:List e8×Z4×Z2)=>p.1=q.1/\H q.2.1=some (.tup (p.1.map kV))/\bK p.2 q.2.2) aY xs /\
   ∃o es ep,h.get? a=some o/\o.ExactDict/\o.data=.dict es ep/\es.toList=xs.map (entryOfKey (tupleKind (fu P w)))/\(xs.map (·.1)).Nodup
 |.set S n=>h.SetOf (intKind P w) a S n
 |.ins C dx fs=>H dx=some (.own a)/\fs.length<=1000/\dx≠a/\h.get? a=some (W.instObj C dx) /\
   ∃mA,h.Ns1 dx mA/\(∀f,sE (fs.lookup f) (mA f))/\PySem.Within mA (fs.map (·.1))
 |.own _=>∃o,h.get? a=some o
 |.xd fs=>∃mA,h.Ns1 a mA/\∀f,sE (fs.lookup f) (mA f)
 |.HG lo hi=>∃t u v,h.get? a=some {cls:=.type "range",data:=.fields #[.int lo t,.int hi u,.int 1 v]}
 |.nk o u=>h.get? a=some o/\dE H h a u
 |.HH ps=>h.get? a=some {cls:=.none,data:=.fields ps}
 |.met f x=>h.get? a=some (W.methodObj (.ref f) (.ref x))
 |.ext φ=>φ h/\(∃o,h.get? a=some o)/\∀h1 h2:Heap,φ h1->(∀o,h1.get? a=some o->h2.get? a=some o)->φ h2
def jM(H:Hp)(h:Heap):Prop:=∀a o,H a=some o->dE P w H h a o
end
section
variable{P:Z6}{w:World}{H H':Hp}{h h':Heap}{a:Z4}{o:HO}
theorem dE.lt(x:dE P w H h a o):a<h.objs.size:=by
 cases o with
 |lst xs=>obtain⟨_,_,_,_,e⟩:=x;exact VE e
 |tup xs=>obtain⟨_,_,_,p⟩:=x;exact p.lt
 |dK aY=>obtain⟨_,_,_,_,o,_,_,e,_⟩:=x;exact VE e
 |dT aY=>obtain⟨_,_,_,_,o,_,_,e,_⟩:=x;exact VE e
 |set S n=>obtain⟨o,_,_,_,e,_⟩:=x;exact VE e
 |ins C dx fs=>obtain⟨_,_,_,e,_⟩:=x;exact VE e
 |own y=>obtain⟨_,e⟩:=x;exact VE e
 |xd fs=>obtain⟨_,⟨_,_,_,e,_⟩,_⟩:=x;exact VE e
 |HG lo hi=>obtain⟨_,_,_,e⟩:=x;exact VE e
 |nk ob u=>obtain⟨e,_⟩:=x;exact VE e
 |HH ps=>exact VE (show h.get? a=some _ from x)
 |met f y=>exact VE (show h.get? a=some _ from x)
 |ext φ=>obtain⟨_,⟨_,e⟩,_⟩:=x;exact VE e
theorem Paired.LJ{α β:Type}{F G:α->β->Prop}:∀{l₁:List α}{l₂:List β},Paired F l₁ l₂->(∀a b,F a b->G a b)->Paired G l₁ l₂
 |_,_,.nil,_=>.nil
 |_,_,.cons r t,f=>.cons (f _ _ r) (Paired.LJ t f)
theorem dE.qF(x:dE P w H h a o)(k:∀b u,(b=a\/H b=some (.own a))->h.get? b=some u->h'.get? b=some u)(ho:∀b,H b=some (.own a)->H' b=some (.own a))(ht:∀b xs,H b=some (.tup xs)->H' b=some (.tup xs)):dE P w H' h' a o:=by
 induction o with
 |lst xs=>obtain⟨z,aV,n,r,e⟩:=x;exact⟨z,aV,n,r,k _ _ (.inl rfl) e⟩
 |tup xs=>obtain⟨z,aV,r,ob,e,c⟩:=x;exact⟨z,aV,r,ob,k _ _ (.inl rfl) e,c⟩
 |dK aY=>obtain⟨z,y,vs,r,ob,es,ep,e,c⟩:=x;exact⟨z,y,vs,r,ob,es,ep,k _ _ (.inl rfl) e,c⟩
 |dT aY=>
  obtain⟨z,y,xs,r,ob,es,ep,e,c⟩:=x;exact⟨z,y,xs,Paired.LJ r fun p q z=>⟨z.1,ht _ _ z.2.1,z.2.2⟩,ob,es,ep,k _ _ (.inl rfl) e,c⟩
 |set S n=>obtain⟨ob,es,ep,t,e,c⟩:=x;exact⟨ob,es,ep,t,k _ _ (.inl rfl) e,c⟩
 |ins C dx fs=>
  obtain⟨d,z,ne,e,mA,⟨od,es,ep,e2,c⟩,r⟩:=x;exact⟨ho _ d,z,ne,k _ _ (.inl rfl) e,mA,⟨od,es,ep,k _ _ (.inr d) e2,c⟩,r⟩
 |own y=>obtain⟨ob,e⟩:=x;exact⟨ob,k _ _ (.inl rfl) e⟩
 |xd fs=>obtain⟨mA,⟨od,es,ep,e,c⟩,r⟩:=x;exact⟨mA,⟨od,es,ep,k _ _ (.inl rfl) e,c⟩,r⟩
 |HG lo hi=>obtain⟨t,u,v,e⟩:=x;exact⟨t,u,v,k _ _ (.inl rfl) e⟩
 |nk ob u ih=>obtain⟨e,q⟩:=x;exact⟨k _ _ (.inl rfl) e,ih q⟩
 |HH ps=>
  have e:h.get? a=some {cls:=.none,data:=.fields ps}:=x;show h'.get? a=some {cls:=.none,data:=.fields ps};exact k a _ (.inl rfl) e
 |met f y=>
  have e:h.get? a=some (W.methodObj (.ref f) (.ref y)):=x;show h'.get? a=some (W.methodObj (.ref f) (.ref y));exact k a _ (.inl rfl) e
 |ext φ=>obtain⟨p,⟨o,e⟩,st⟩:=x;exact⟨st _ _ p fun o q=>k _ _ (.inl rfl) q,⟨o,k _ _ (.inl rfl) e⟩,st⟩
theorem jM.lt(x:jM P w H h)(e:H a=some o):a<h.objs.size:=(x a o e).lt
theorem jM.fresh(x:jM P w H h)(e:h.objs.size<=a):H a=none:=by
 cases q:H a with
 |none=>rfl
 |some u=>exact absurd (VJ (x.lt q) e) (Wg _)
theorem jM.kept(x:jM P w H h)(k:∀b u,h.get? b=some u->h'.get? b=some u):jM P w H h':=fun a o e=>
 (x a o e).qF (fun b u _ q=>k b u q) (fun _ q=>q) fun _ _ q=>q
theorem jM.laid(x:jM P w H h)(k:∀b u,h.get? b=some u->h'.get? b=some u)(hp:h.objs.size<=a)(new:dE P w (upd H a o) h' a o):jM P w (upd H a o) h':=fun b u e=>by
 have hn:=x.fresh hp;by_cases hb:b=a
 .subst hb;rw[dr]at e;cases e;exact new
 .rw[bB hb]at e;exact(x b u e).qF (fun c v _ q=>k c v q) (fun c q=>by rw[bB (bC q hn)];exact q) fun c xs q=>by rw[bB (bC q hn)];exact q
end
def Rd(H:Hp)(a:Z4)(u:HO):Prop:=H a=some u\/∃o,H a=some (.nk o u)
theorem Rd.ok{P:Z6}{w:World}{H:Hp}{h:Heap}{a:Z4}{u:HO}(r:Rd H a u)(x:jM P w H h):dE P w H h a u:=by
 rcases r with r|⟨o,r⟩
 .exact x a u r
 .obtain⟨_,q⟩:=x a _ r;exact q
def Pe:Option HO->Prop
 |some (.lst _)=>True
 |some (.dK _)=>True
 |some (.dT _)=>True
 |some (.set _ _)=>True
 |some (.ins _ _ _)=>True
 |some (.ext _)=>True
 |_=>False
section
variable{P:Z6}{w:World}{H:Hp}{h h':Heap}{x e:Z4}{o':HO}
theorem jM.write(ok:jM P w H h)(mu:Pe (H x))(he:e=x\/H e=some (.own x))(k:∀b u,b≠e->h.get? b=some u->h'.get? b=some u)(OT:∃u,h'.get? e=some u)(new:dE P w (upd H x o') h' x o'):jM P w (upd H x o') h':=fun b u q=>by
 have Pf:∀c y,H c=some (.own y)->c≠x:=fun c y r z=>by subst z;rw[r]at mu;exact mu
 have TQ:∀c xs,H c=some (.tup xs)->c≠x:=fun c xs r z=>by subst z;rw[r]at mu;exact mu
 by_cases hb:b=x
 .subst hb;rw[dr]at q;cases q;exact new
 .rw[bB hb]at q;by_cases LK:b=e
  .have q':H b=some (.own x):=by
    rcases he with z|z
    .exact absurd (LK.trans z) hb
    .rw[LK];exact z
   rw[q]at q';cases q';obtain⟨v,hv⟩:=OT;exact⟨v,by rw[LK];exact hv⟩
  .refine(ok b u q).qF (fun c v hc r=>k c v ?_ r) (fun c r=>by rw[bB (Pf c b r)];exact r) fun c xs r=>by rw[bB (TQ c xs r)];exact r
   rcases hc with rfl|hc
   .exact LK
   .rintro rfl;rcases he with z|z
    .exact Pf c b hc z
    .rw[hc]at z;cases z;exact hb rfl
end
structure Un(fs ex:Z0)(H H':Hp)(h h':Heap):Prop where
 keep:∀b o,h.get? b=some o->H b=none->b ∉ fs->b ∉ ex->h'.get? b=some o
 slot:∀b o,h.get? b=some o->H b=none->b∈fs->b ∉ ex->∃sl,h'.get? b=some {o with slots:=sl}
 free:∀b o,h.get? b=some o->H b=none->b ∉ ex->H' b=none
 there:∀b o,h.get? b=some o->b ∉ ex->∃o',h'.get? b=some o'
 nL:∀b xs,H b=some (.tup xs)->H' b=some (.tup xs)
 nq:∀b o u,H b=some (.nk o u)->H' b=some (.nk o u)
 oY:∀b ps,H b=some (.HH ps)->∃more,H' b=some (.HH (ps++more))
section
variable{fs fs' ex TR:Z0}{H H1 H2:Hp}{h h1 h2 h':Heap}{a x e:Z4}{o:HO}
theorem Un.any(u:Un fs ex H H1 h h1){b:Z4}{ob:Obj}(q:h.get? b=some ob)(n:H b=none)(hx:b ∉ ex):∃sl,h1.get? b=some {ob with slots:=sl}:=by
 by_cases hb:b∈fs
 .exact u.slot b ob q n hb hx
 .exact⟨ob.slots,u.keep b ob q n hb hx⟩
theorem Un.kept(k:∀b u,h.get? b=some u->h'.get? b=some u):Un fs ex H H h h':=
 ⟨fun b ob q _ _ _=>k b ob q,fun b ob q _ _ _=>⟨ob.slots,k b ob q⟩,fun _ _ _ n _=>n,fun b ob q _=>⟨ob,k b ob q⟩,fun _ _ q=>q,fun _ _ _ q=>q,fun _ ps q=>⟨#[],by rw[q];simp⟩⟩
theorem Un.refl:Un fs ex H H h h:=Un.kept fun _ _ q=>q
theorem Un.laid(k:∀b u,h.get? b=some u->h'.get? b=some u)(hp:h.objs.size<=a)(hn:H a=none):Un fs ex H (upd H a o) h h' where
 keep:=fun b u q _ _ _=>k b u q
 slot:=fun b u q _ _ _=>⟨u.slots,k b u q⟩
 free:=fun b u q n _=>by rw[bB (V1 (VJ (VE q) hp))];exact n
 there:=fun b u q _=>⟨u,k b u q⟩
 nL:=fun b xs q=>by rw[bB (bC q hn)];exact q
 nq:=fun b u xs q=>by rw[bB (bC q hn)];exact q
 oY:=fun b ps q=>⟨#[],by rw[bB (bC q hn),q];simp⟩
theorem Un.write(mu:Pe (H x))(he:e=x\/H e=some (.own x))(k:∀b u,b≠e->h.get? b=some u->h'.get? b=some u)(OT:∃u,h'.get? e=some u):Un fs ex H (upd H x o) h h':=by
 have hx:∀b,H b=none->b≠x:=fun b n z=>by subst z;rw[n]at mu;exact mu
 have hb:∀b,H b=none->b≠e:=fun b n z=>by
  subst z;rcases he with r|r
  .exact hx b n r
  .rw[n]at r;cases r
 have hm:∀b u,H b=some u->¬ Pe (some u)->b≠x:=fun b u q nm z=>by subst z;rw[q]at mu;exact nm mu
 refine⟨fun b u q n _ _=>k b u (hb b n) q,fun b u q n _ _=>⟨u.slots,k b u (hb b n) q⟩,fun b u q n _=>by rw[bB (hx b n)];exact n,fun b u q _=>?_,
  fun b xs q=>by rw[bB (hm b _ q fun z=>z)];exact q,fun b u xs q=>by rw[bB (hm b _ q fun z=>z)];exact q,fun b ps q=>⟨#[],by rw[bB (hm b _ q fun z=>z),q];simp⟩⟩
 by_cases LK:b=e
 .subst LK;exact OT
 .exact⟨u,k b u LK q⟩
end
def yg(h:Heap)(H:Hp):Z0:=(List.range h.objs.size).filter fun a=>(H a).isSome
def wz(h:Heap)(H:Hp):Heap:=W.hideAll h (yg h H)
theorem CU(h:Heap)(H:Hp):(wz h H).objs.size=h.objs.size:=W.hideAll_size _ _
theorem Ep{h:Heap}{H:Hp}{b:Z4}{o:Obj}(e:h.get? b=some o)(n:H b=none):(wz h H).get? b=some o:=
 XE _ e fun hm=>by have q:(H b).isSome=true:=(List.mem_filter.mp hm).2;rw[n]at q;simp at q
theorem HV{h:Heap}{H:Hp}{b:Z4}{o:Obj}(e:(wz h H).get? b=some o):h.get? b=some o/\H b=none:=by
 have e':h.get? b=some o:=Zf (yg h H) e;refine⟨e',?_⟩;cases q:H b with
 |none=>rfl
 |some x=>
  have hm:b∈yg h H:=List.mem_filter.mpr ⟨X!.mpr (VE e'),by simp[q]⟩;have z:(wz h H).get? b=none:=W.hideAll_none (yg h H) hm;rw[z]at e;cases e
structure Mod(K:ZW)(mg:ZU)(base:Heap):Prop where
 Ku:K.In base
 glob:base.Ns mainGlobals mg
 blt:∃mb,base.Ns builtinsNs mb/\∀x:Str,x ≠ "__name__" -> mb x=bootBuiltins x
 nolimit:base.NoLimit
structure Cx where
 prog:Z6
 w:World
 K:ZW
 mg:Str->ZZ
 base:Heap
 A:Z5
 N:Z1
 s₀:Z3
 H₀:Hp
 env:Env
 outer:List Env
 stack:List Env
 ex:Z0
 fn:Str->Bool
 calm:Bool
 pn:ZV
 xe:Z2->Z3->Prop
def iG(l:List Env):Z0:=l.filterMap (·.frame)
abbrev Cx.fs(X:Cx):Z0:=iG X.outer
def Pg(sc:Scope)(x:Str):Prop:=sc.names.lookup x=some .local\/sc.names.lookup x=some .cell\/sc.names.lookup x=some .free
def Loc(sc:Scope)(x:Str):Prop:=sc.names.lookup x=some .local\/sc.names.lookup x=some .cell
def Look(env:Env)(h:Heap)(m:ZU)(x:Str)(u:Z2):Prop:=
 (env.kindOf x=some .local/\m x=some u)\/((env.kindOf x=some .cell\/env.kindOf x=some .free)/\∃c,env.cells.lookup x=some c/\h.IsCell c (some u))
structure Cx.Ok(X:Cx):Prop where
 mod:Mod X.K X.mg X.base
 kind:X.env.scope.kind=.function
 glob:X.env.globals=mainGlobals
 blt:X.env.builtins=builtinsNs
 above:X.s₀.heap.objs.size<=X.env.locals
 inj:∀x y c,X.env.cells.lookup x=some c->X.env.cells.lookup y=some c->x=y
 has:∀x,(X.env.kindOf x=some .cell\/X.env.kindOf x=some .free)->∃c,X.env.cells.lookup x=some c
 Kv:∀x c,X.fn x=true->X.env.cells.lookup x=some c->X.s₀.heap.objs.size<=c
 hd:X.calm=true->X.A.handled=none
 frames:X.A.frames=some X.stack
 HI:X.stack=X.outer\/(X.stack=X.env::X.outer/\X.env.frame=some X.env.locals)
 Sk:∀b∈X.ex,b≠X.env.locals/\∀x c,X.env.cells.lookup x=some c->c≠b
 bs:∀b o,X.base.get? b=some o->X.s₀.heap.get? b=some o/\X.H₀ b=none
 HJ:X.base.objs.size<=X.s₀.heap.objs.size
 yh:∀b o,X.base.get? b=some o->b ∉ X.ex
 CV:∀b∈X.ex,b ∉ X.fs
 kz:X.s₀.heap.FunFrames X.base X.outer
 Ej:∀b∈X.fs,X.H₀ b=none
structure aX(X:Cx)(ae:ZV)(σ:List (Option V))(H:Hp)(s:Z3):Prop where
 ok:X.Ok
 os:s.os=X.s₀.os
 bare:AllBare s.gens
 base:Un X.fs X.ex X.H₀ H X.s₀.heap s.heap
 loc:∃m,s.heap.Ns X.env.locals m/\∀(i:Nat)(x:Str)(v:V),X.N[i]?=some x->σ[i]?=some (some v)->Pg X.env.scope x->∃u,bK v u/\Look X.env s.heap m x u
 cell:∀x c,X.env.cells.lookup x=some c->∃v,s.heap.IsCell c v
 free:H X.env.locals=none
 jf:∀x c,X.env.cells.lookup x=some c->H c=none
 pin:∀p∈X.pn++ae,s.heap.get? p.1=some p.2/\H p.1=none/\p.1≠X.env.locals/\p.1 ∉ X.fs/\∀v,p.2.data≠.cell v
 dq:jM X.prog X.w H s.heap
 len:σ.length=X.N.length
section
variable{X:Cx}{ae:ZV}{σ:List (Option V)}{H H':Hp}{s:Z3}{h':Heap}
theorem Cx.Ok.TU(ok:X.Ok){b:Z4}{o:Obj}(e:X.base.get? b=some o):b ∉ X.fs:=fun hb=>by have:=(ok.kz.mem hb).1;rw[e]at this;cases this
theorem aX.bs(I:aX X ae σ H s):∀b o,X.base.get? b=some o->s.heap.get? b=some o/\H b=none:=fun b o e=>
 ⟨I.base.keep b o (I.ok.bs b o e).1 (I.ok.bs b o e).2 (I.ok.TU e) (I.ok.yh b o e),I.base.free b o (I.ok.bs b o e).1 (I.ok.bs b o e).2 (I.ok.yh b o e)⟩
theorem aX.bk(I:aX X ae σ H s):∀b o,X.base.get? b=some o->s.heap.get? b=some o:=fun b o e=>(I.bs b o e).1
theorem aX.mod(I:aX X ae σ H s):Mod X.K X.mg X.base:=I.ok.mod
theorem aX.sF(I:aX X ae σ H s):X.K.In s.heap:=I.ok.mod.Ku.keeps I.bk
theorem aX.lt(I:aX X ae σ H s):X.env.locals<s.heap.objs.size:=let⟨_,hn,_⟩:=I.loc;hn.lt
theorem aX.sz(I:aX X ae σ H s):X.s₀.heap.objs.size<=s.heap.objs.size:=V! I.ok.above (Yn I.lt)
theorem aX.TV(I:aX X ae σ H s){a:Z4}(h:s.heap.objs.size<=a):a ∉ X.fs:=fun hb=>by obtain⟨_,o,ho,_⟩:=I.ok.kz.mem hb;exact absurd (VJ (VE ho) (V! I.sz h)) (Wg _)
theorem aX.Kw(I:aX X ae σ H s):∀x c,X.env.cells.lookup x=some c->c≠X.env.locals:=fun x c e z=>by obtain⟨v,o,ho,hd⟩:=I.cell x c e;obtain⟨m,⟨o',es,ep,vC,hd',_⟩,_⟩:=I.loc;rw[z,vC]at ho;cases ho;rw[hd']at hd;cases hd
theorem aX.kz(I:aX X ae σ H s):s.heap.FunFrames X.base X.outer:=by
 have all:∀(l:List Env),(∀b∈iG l,b∈X.fs)->X.s₀.heap.FunFrames X.base l->s.heap.FunFrames X.base l:=by
  intro l
  induction l with
  |nil=>intro _ _;trivial
  |cons env r ih=>
   intro hs hl;obtain⟨hk,⟨L,o,hf,hn,ho,hd⟩,hr⟩:=hl;have hL:L∈X.fs:=hs L (by unfold iG;rw[X7,hf];exact VS);obtain⟨sl,e⟩:=I.base.slot L o ho (I.ok.Ej L hL) hL fun z=>I.ok.CV L z hL;exact⟨hk,⟨L,_,hf,hn,e,hd⟩,ih (fun b hb=>hs b (by unfold iG;rw[X7,hf];exact VN _ hb)) hr⟩
 exact all X.outer (fun _ hb=>hb) I.ok.kz
theorem aX.stack(I:aX X ae σ H s):s.heap.FunFrames X.base X.stack:=by
 rcases I.ok.HI with e|⟨e,hf⟩
 .rw[e];exact I.kz
 .rw[e];obtain⟨m,hn,_⟩:=I.loc;refine .cons (by rw[I.ok.kind];decide) hf hn ?_ I.kz;exact Heap.get?_none_of_le (V! I.ok.HJ I.ok.above)
theorem aX.sG(I:aX X ae σ H s):∀b∈iG X.stack,b∈X.env.locals::X.fs:=fun b hb=>by
 rcases I.ok.HI with e|⟨e,hf⟩
 .rw[e]at hb;exact VN _ hb
 .rw[e]at hb;unfold iG at hb;rw[X7,hf]at hb;exact hb
theorem aX.wA(I:aX X ae σ H s):∀b∈iG X.stack,H b=none:=fun b hb=>by
 rcases VT.mp (I.sG b hb)with e|hb
 .rw[e];exact I.free
 .obtain⟨_,o,ho,_⟩:=I.ok.kz.mem hb;exact I.base.free b o ho (I.ok.Ej b hb) fun z=>I.ok.CV b z hb
theorem aX.step{g':Array GenState}{t':Nat}{d':Drawn}{ch:Z0}(I:aX X ae σ H s)(HK:∀b∈ch,(b∈X.ex\/X.s₀.heap.objs.size<=b)/\b≠X.env.locals/\(∀x c,X.env.cells.lookup x=some c->c≠b)/\∀p∈X.pn++ae,p.1≠b)(keep:∀b o,b≠X.env.locals->b ∉ X.fs->b ∉ ch->s.heap.get? b=some o->H b=none->h'.get? b=some o)(slot:∀b o,b≠X.env.locals->b∈X.fs->b ∉ ch->s.heap.get? b=some o->H b=none->∃sl,h'.get? b=some {o with slots:=sl})(free:∀b o,b ∉ ch->s.heap.get? b=some o->H b=none->H' b=none)(there:∀b o,b ∉ ch->s.heap.get? b=some o->∃o',h'.get? b=some o')(nL:∀b xs,H b=some (.tup xs)->H' b=some (.tup xs))(nq:∀b o u,H b=some (.nk o u)->H' b=some (.nk o u))(oY:∀b ps,H b=some (.HH ps)->∃more,H' b=some (.HH (ps++more)))(ns:∀m,s.heap.Ns X.env.locals m->h'.Ns X.env.locals m)(dq:jM X.prog X.w H' h')(hg:AllBare g'):
  aX X ae σ H' {s with heap:=h',gens:=g',drawn:=d',toks:=t'}:=by
 have LM:∀b o,X.s₀.heap.get? b=some o->b≠X.env.locals:=fun b o e=>V1 (VJ (VE e) I.ok.above);have Sl:∀b o,X.s₀.heap.get? b=some o->b ∉ X.ex->b ∉ ch:=fun b o e hx hb=>by
  rcases(HK b hb).1 with z|z
  .exact hx z
  .exact absurd (VJ (VE e) z) (Wg _)
 have cellK:∀x c,X.env.cells.lookup x=some c->∀v,s.heap.IsCell c v->h'.IsCell c v:=fun x c e v⟨o,ho,hd⟩=>by
  have Ph:c ∉ ch:=fun z=>(HK c z).2.2.1 x c e rfl;by_cases hc:c∈X.fs
  .obtain⟨sl,q⟩:=slot c o (I.Kw x c e) hc Ph ho (I.jf x c e);exact⟨_,q,hd⟩
  .exact⟨o,keep c o (I.Kw x c e) hc Ph ho (I.jf x c e),hd⟩
 refine⟨I.ok,I.os,hg,⟨fun b o e n hb hx=>?_,fun b o e n hb hx=>?_,fun b o e n hx=>?_,fun b o e hx=>?_,fun b xs e=>nL b xs (I.base.nL b xs e),fun b o xs e=>nq b o xs (I.base.nq b o xs e),fun b ps e=>?_⟩,?_,fun x c e=>?_,?_,fun x c e=>?_,fun p hp=>?_,dq,I.len⟩
 .exact keep b o (LM b o e) hb (Sl b o e hx) (I.base.keep b o e n hb hx) (I.base.free b o e n hx)
 .obtain⟨sl,e1⟩:=I.base.slot b o e n hb hx;obtain⟨LN,e2⟩:=slot b _ (LM b o e) hb (Sl b o e hx) e1 (I.base.free b o e n hx);exact⟨LN,e2⟩
 .obtain⟨o',e1⟩:=I.base.there b o e hx;exact free b o' (Sl b o e hx) e1 (I.base.free b o e n hx)
 .obtain⟨o',e1⟩:=I.base.there b o e hx;exact there b o' (Sl b o e hx) e1
 .obtain⟨m1,e1⟩:=I.base.oY b ps e;obtain⟨m2,e2⟩:=oY b _ e1;exact⟨m1++m2,by rw[e2,Array.append_assoc]⟩
 .obtain⟨m,hn,hl⟩:=I.loc;refine⟨m,ns m hn,fun i x v e1 e2 e3=>?_⟩;obtain⟨u,r,l⟩:=hl i x v e1 e2 e3;refine⟨u,r,?_⟩;rcases l with l|⟨k,c,e,z⟩
  .exact .inl l
  .exact .inr ⟨k,c,e,cellK x c e _ z⟩
 .obtain⟨v,z⟩:=I.cell x c e;exact⟨v,cellK x c e v z⟩
 .obtain⟨m,⟨o,_,_,ho,_⟩,_⟩:=I.loc;exact free _ o (fun z=>(HK _ z).2.1 rfl) ho I.free
 .obtain⟨v,o,ho,hd⟩:=I.cell x c e;exact free c o (fun z=>(HK c z).2.2.1 x c e rfl) ho (I.jf x c e)
 .obtain⟨e,n,ne,nf,d⟩:=I.pin p hp;have Ph:p.1 ∉ ch:=fun z=>(HK p.1 z).2.2.2 p hp rfl;exact⟨keep p.1 p.2 ne nf Ph e n,free p.1 p.2 Ph e n,ne,nf,d⟩
theorem aX.un{t':Nat}(I:aX X ae σ H s)(u:Un X.fs [] H H' s.heap h')(dq:jM X.prog X.w H' h'):aX X ae σ H' {s with heap:=h',toks:=t'}:=by
 obtain⟨m,⟨o,es,ep,ho,r⟩,_⟩:=id I.loc;obtain⟨sl,hL⟩:=u.any ho I.free (by simp);exact I.step (g':=s.gens) (d':=s.drawn) (ch:=[]) (fun _ z=>nomatch z) (fun b o _ hb _ e n=>u.keep b o e n hb (by simp)) (fun b o _ hb _ e n=>u.slot b o e n hb (by simp)) (fun b o _ e n=>u.free b o e n (by simp)) (fun b o _ e=>u.there b o e (by simp)) u.nL u.nq u.oY (fun m' hm=>by
  obtain⟨o',nJ,TX,vC,r'⟩:=hm;rw[ho]at vC;cases vC;exact⟨_,nJ,TX,hL,r'⟩) dq I.bare
theorem aX.call{g':Array GenState}{t':Nat}{d':Drawn}{ch:Z0}(I:aX X ae σ H s)(u:Un (iG X.stack) ch H H' s.heap h')(dq:jM X.prog X.w H' h')(hg:AllBare g')(HK:∀b∈ch,(b∈X.ex\/X.s₀.heap.objs.size<=b)/\b≠X.env.locals/\(∀x c,X.env.cells.lookup x=some c->c≠b)/\∀p∈X.pn++ae,p.1≠b):
  aX X ae σ H' {s with heap:=h',gens:=g',drawn:=d',toks:=t'}:=by
 obtain⟨m,⟨o,es,ep,ho,r⟩,_⟩:=id I.loc;obtain⟨sl,hL⟩:=u.any ho I.free fun z=>(HK _ z).2.1 rfl;exact I.step (ch:=ch) HK (fun b o hL hb hc e n=>u.keep b o e n (fun z=>(VT.mp (I.sG b z)).elim hL hb) hc) (fun b o _ _ hc e n=>u.any e n hc) (fun b o hc e n=>u.free b o e n hc) (fun b o hc e=>u.there b o e hc) u.nL u.nq u.oY (fun m' hm=>by
  obtain⟨o',nJ,TX,vC,r'⟩:=hm;rw[ho]at vC;cases vC;exact⟨_,nJ,TX,hL,r'⟩) dq hg
theorem aX.turned{t':Nat}{it:Z4}(I:aX X ae σ H s)(k:∀b o,b≠it->s.heap.get? b=some o->h'.get? b=some o)(hn:H it=none)(hL:it≠X.env.locals)(h1:it∈X.ex\/X.s₀.heap.objs.size<=it)(h2:∀x c,X.env.cells.lookup x=some c->c≠it)(h3:∀p∈X.pn++ae,p.1≠it):aX X ae σ H {s with heap:=h',toks:=t'}:=by
 have nit:∀b u,H b=some u->b≠it:=fun b u e z=>by rw[z,hn]at e;cases e
 refine I.step (g':=s.gens) (d':=s.drawn) (ch:=[it]) (fun b hb=>?_) (fun b o _ _ hc e _=>k b o (fun z=>hc (by simp[z])) e) (fun b o _ _ hc e _=>⟨o.slots,k b o (fun z=>hc (by simp[z])) e⟩) (fun _ _ _ _ n=>n)
  (fun b o hc e=>⟨o,k b o (fun z=>hc (by simp[z])) e⟩) (fun _ _ e=>e) (fun _ _ _ e=>e) (fun b ps e=>⟨#[],by rw[e];simp⟩) (fun m hm=>?_) (fun b u e=>?_) I.bare
 .have e:b=it:=by simpa using hb
  subst e;exact⟨h1,hL,h2,h3⟩
 .obtain⟨o,es,ep,ho,r⟩:=hm;exact⟨o,es,ep,k _ o (Xf hL) ho,r⟩
 .refine(I.dq b u e).qF (fun c v hc q=>k c v ?_ q) (fun _ q=>q) fun _ _ q=>q;rcases hc with z|z
  .rw[z];exact nit b u e
  .exact nit c _ z
theorem aX.tok(I:aX X ae σ H s)(t:Nat):aX X ae σ H {s with toks:=t}:=I.un (h':=s.heap) (t':=t) Un.refl I.dq
theorem aX.kept{t':Nat}(I:aX X ae σ H s)(k:∀b u,s.heap.get? b=some u->h'.get? b=some u):aX X ae σ H {s with heap:=h',toks:=t'}:=I.un (Un.kept k) (I.dq.kept k)
theorem aX.laid{a:Z4}{o:HO}{t':Nat}(I:aX X ae σ H s)(k:∀b u,s.heap.get? b=some u->h'.get? b=some u)(hp:s.heap.objs.size<=a)(new:dE X.prog X.w (upd H a o) h' a o):
  aX X ae σ (upd H a o) {s with heap:=h',toks:=t'}:=I.un (Un.laid k hp (I.dq.fresh hp)) (I.dq.laid k hp new)
theorem aX.write{x e:Z4}{o:HO}{t':Nat}(I:aX X ae σ H s)(mu:Pe (H x))(he:e=x\/H e=some (.own x))(k:∀b u,b≠e->s.heap.get? b=some u->h'.get? b=some u)(OT:∃u,h'.get? e=some u)(new:dE X.prog X.w (upd H x o) h' x o):aX X ae σ (upd H x o) {s with heap:=h',toks:=t'}:=I.un (Un.write mu he k OT) (I.dq.write mu he k OT new)
theorem aX.rN{Kx:ZV}(I:aX X ae σ H s)(h:∀p∈Kx,s.heap.get? p.1=some p.2/\H p.1=none/\p.1≠X.env.locals/\p.1 ∉ X.fs/\∀v,p.2.data≠.cell v):aX X Kx σ H s:=
 ⟨I.ok,I.os,I.bare,I.base,I.loc,I.cell,I.free,I.jf,fun p hp=>(V4.mp hp).elim (fun z=>I.pin p (Wk _ z)) (h p),I.dq,I.len⟩
theorem yi{N:Z1}(hN:N.Nodup){i j:Nat}{x:Str}(a:N[i]?=some x)(b:N[j]?=some x):i=j:=by obtain⟨h1,e1⟩:=WK.mp a;obtain⟨h2,e2⟩:=WK.mp b;exact(List.getElem_inj hN).mp (e1.trans e2.symm)
theorem vD{M:Model}{A:Z5}{E:ZT}{i:Nat}{x:Str}{v:V}{u:Z2}{Q:Unit->Z3->Prop}(I:aX X ae σ H s)(hN:X.N.Nodup)(hi:X.N[i]?=some x)(hx:Loc X.env.scope x)(r:bK v u)(h:∀s',aX X ae (σ.set i (some v)) H s'->(∃a,Heap.SameBut a s.heap s'.heap/\(a=X.env.locals\/X.env.cells.lookup x=some a))->Q () s')(hf:X.fn x=true\/X.env.scope.names.lookup x=some .local:=by first|exact .inl rfl|exact .inr rfl|assumption):wpAny M A (storeName X.env x u) Q E s:=by
 obtain⟨m,hn,hl⟩:=id I.loc;have TY:(X.env.scope.kind == .class || (X.env.scope.kind == .module&&X.env.locals !=X.env.globals))=false:=by rw[I.ok.kind];rfl
 have Pj:i<σ.length:=by rw[I.len];exact(WK.mp hi).1
 have Kw:=I.Kw;have tracked:∀{a:Z4}{h':Heap},(∃o,s.heap.get? a=some o/\H a=none)->Heap.SameBut a s.heap h'->jM X.prog X.w H h':=fun{a h'}ha hs b ob e=>by
  obtain⟨_,_,BA⟩:=ha;refine(I.dq b ob e).qF (fun c w' hc q=>(hs.2 c ?_).trans q) (fun _ q=>q) fun _ _ q=>q;rintro rfl;rcases hc with rfl|hc
  .rw[BA]at e;cases e
  .rw[BA]at hc;cases hc
 rcases hx with hk|hk
 .refine wpAny_storeName_local hk hn (fun h' Sn hs=>?_) TY;obtain⟨oL,_,_,hoL,_⟩:=id hn;refine h _ ⟨I.ok,I.os,I.bare,⟨fun b o e n hb hx=>?_,fun b o e n hb hx=>?_,I.base.free,fun b o e hx=>?_,I.base.nL,I.base.nq,I.base.oY⟩,⟨_,Sn,fun j y v' e1 e2 e3=>?_⟩,fun y c e=>?_,I.free,I.jf,fun p hp=>?_,tracked ⟨oL,hoL,I.free⟩ hs,by simpa using I.len⟩ ⟨_,hs,.inl rfl⟩
  .exact(hs.2 b (V1 (VJ (VE e) I.ok.above))).trans (I.base.keep b o e n hb hx)
  .obtain⟨sl,e1⟩:=I.base.slot b o e n hb hx;exact⟨sl,(hs.2 b (V1 (VJ (VE e) I.ok.above))).trans e1⟩
  .obtain⟨o',e1⟩:=I.base.there b o e hx;exact⟨o',(hs.2 b (V1 (VJ (VE e) I.ok.above))).trans e1⟩
  .by_cases hj:j=i
   .subst hj;rw[hi]at e1;cases e1;rw[Ws Pj]at e2;cases e2;exact⟨u,r,.inl ⟨hk,by simp⟩⟩
   .rw[WU (Xf hj)]at e2;obtain⟨u',r',q⟩:=hl j y v' e1 e2 e3;refine⟨u',r',?_⟩;rcases q with⟨k,e⟩|⟨k,c,e,z⟩
    .refine .inl ⟨k,?_⟩;have:y≠x:=fun e=>hj (yi hN e1 (e▸hi));simp[this,e]
    .exact .inr ⟨k,c,e,z.sameBut hs (Kw y c e)⟩
  .obtain⟨w',z⟩:=I.cell y c e;exact⟨w',z.sameBut hs (Kw y c e)⟩
  .obtain⟨e,n,ne,nf,d⟩:=I.pin p hp;exact⟨(hs.2 p.1 ne).trans e,n,ne,nf,d⟩
 .have Er:X.fn x=true:=by
   rcases hf with z|z
   .exact z
   .rw[z]at hk;cases hk
  obtain⟨c,hc⟩:=I.ok.has x (.inl hk);obtain⟨w',z⟩:=I.cell x c hc;refine wpAny_storeName_cell I.ok.kind hk hc z (fun h' d! hs=>?_);obtain⟨oc,hoc,TZ⟩:=id z;refine h {s with heap:=h'} ⟨I.ok,I.os,I.bare,⟨fun b o e n hb hx=>?_,fun b o e n hb hx=>?_,I.base.free,fun b o e hx=>?_,I.base.nL,I.base.nq,I.base.oY⟩,⟨m,hn.sameBut hs (Xf (Kw x c hc)),fun j y v' e1 e2 e3=>?_⟩,fun y c' e=>?_,I.free,I.jf,fun p hp=>?_,tracked ⟨oc,hoc,I.jf x c hc⟩ hs,by simpa using I.len⟩ ⟨c,hs,.inr hc⟩
  .exact(hs.2 b (V1 (VJ (VE e) (I.ok.Kv x c Er hc)))).trans (I.base.keep b o e n hb hx)
  .obtain⟨sl,e1⟩:=I.base.slot b o e n hb hx;exact⟨sl,(hs.2 b (V1 (VJ (VE e) (I.ok.Kv x c Er hc)))).trans e1⟩
  .obtain⟨o',e1⟩:=I.base.there b o e hx;exact⟨o',(hs.2 b (V1 (VJ (VE e) (I.ok.Kv x c Er hc)))).trans e1⟩
  .by_cases hj:j=i
   .subst hj;rw[hi]at e1;cases e1;rw[Ws Pj]at e2;cases e2;exact⟨u,r,.inr ⟨.inl hk,c,hc,d!⟩⟩
   .rw[WU (Xf hj)]at e2;obtain⟨u',r',q⟩:=hl j y v' e1 e2 e3;refine⟨u',r',?_⟩;rcases q with q|⟨k,c',e,z'⟩
    .exact .inl q
    .refine .inr ⟨k,c',e,z'.sameBut hs ?_⟩;rintro rfl;exact hj (yi hN e1 (I.ok.inj _ _ _ e hc▸hi))
  .by_cases hcc:c'=c
   .subst hcc;exact⟨_,d!⟩
   .obtain⟨w2,z2⟩:=I.cell y c' e;exact⟨w2,z2.sameBut hs hcc⟩
  .obtain⟨e,n,ne,nf,d⟩:=I.pin p hp;refine⟨(hs.2 p.1 ?_).trans e,n,ne,nf,d⟩;intro q;rw[q,hoc]at e;have q':oc=p.2:=VR e;exact d w' (by rw[<-q'];exact TZ)
theorem sH{M:Model}{A:Z5}{E:ZT}{i:Nat}{x:Str}{v:V}{u:Z2}{Q:Unit->Z3->Prop}(I:aX X ae σ H s)(hN:X.N.Nodup)(hi:X.N[i]?=some x)(hx:Loc X.env.scope x)(r:bK v u)(h:∀s',aX X ae (σ.set i (some v)) H s'->Q () s')(hf:X.fn x=true\/X.env.scope.names.lookup x=some .local:=by first|exact .inl rfl|exact .inr rfl|assumption):wpAny M A (storeName X.env x u) Q E s:=
 vD I hN hi hx r (fun s' I' _=>h s' I') hf
theorem aX.yj{s':Z3}{ch:Z0}(I:aX X ae σ H s)(ho:s'.os=s.os)(u:Un (iG X.stack) ch H H' s.heap s'.heap)(dq:jM X.prog X.w H' s'.heap)(hg:AllBare s'.gens)(HK:∀b∈ch,(b∈X.ex\/X.s₀.heap.objs.size<=b)/\b≠X.env.locals/\(∀x c,X.env.cells.lookup x=some c->c≠b)/\∀p∈X.pn++ae,p.1≠b):aX X ae σ H' s':=by obtain⟨h',g',d',t',o'⟩:=s';have e:o'=s.os:=ho;subst e;exact I.call (g':=g') (t':=t') (d':=d') u dq hg HK
end
abbrev XK:=Z2->Option Z4->Hp->Prop
abbrev St:=List (Option V)
abbrev VK:=V->Hp->Prop
abbrev TE:=St->Hp->VK->Prop
abbrev TT:=St->Hp->(Bool->Hp->Prop)->Prop
abbrev TA:=St->Hp->(List V->Hp->Prop)->Prop
structure Ends where
 nx:St->Hp->Prop
 rt:VK
 bk:St->Hp->Prop:=fun _ _=>False
 ct:St->Hp->Prop:=fun _ _=>False
abbrev TS:=Ends->St->Hp->Prop
def EP(X:Cx)(ae:ZV)(σ:St)(Q:VK)(u:Z2)(s':Z3):Prop:=∃v H',aX X ae σ H' s'/\bK v u/\Q v H'
def TP(X:Cx)(ae:ZV)(σ:St)(Q:Bool->Hp->Prop)(b:Bool)(s':Z3):Prop:=∃H',aX X ae σ H' s'/\Q b H'
def AP(X:Cx)(ae:ZV)(σ:St)(Q:List V->Hp->Prop)(us:ZY)(s':Z3):Prop:=∃vs H',aX X ae σ H' s'/\bA vs us/\Q vs H'
def SP(X:Cx)(ae:ZV)(D:Ends)(f:Flow)(s':Z3):Prop:=
 match f with
 |.next=>∃σ' H',aX X ae σ' H' s'/\D.nx σ' H'
 |.brk=>∃σ' H',aX X ae σ' H' s'/\D.bk σ' H'
 |.cont=>∃σ' H',aX X ae σ' H' s'/\D.ct σ' H'
 |.ret u=>∃v σ' H',aX X ae σ' H' s'/\bK v u/\D.rt v H'
def PE(X:Cx)(e:Expr)(t:TE):Prop:=
 ∀(ae:ZV)(s:Z3)(σ:St)(H:Hp)(Q:VK),aX X ae σ H s->t σ H Q->wpAny (model X.prog X.w) X.A (eval e X.env) (EP X ae σ Q) X.xe s
def PT(X:Cx)(e:Expr)(t:TT):Prop:=
 ∀(ae:ZV)(s:Z3)(σ:St)(H:Hp)(Q:Bool->Hp->Prop),aX X ae σ H s->t σ H Q->wpAny (model X.prog X.w) X.A (isTrue e X.env (eval e X.env)) (TP X ae σ Q) X.xe s
def PW(X:Cx)(e:Expr)(t:TT):Prop:=
 ∀(whole:Sem Z2)(ae:ZV)(s:Z3)(σ:St)(H:Hp)(Q:Bool->Hp->Prop),aX X ae σ H s->t σ H Q->wpAny (model X.prog X.w) X.A (isTrue e X.env whole) (TP X ae σ Q) X.xe s
theorem PW.pt{X:Cx}{e:Expr}{t:TT}(h:PW X e t):PT X e t:=h _
def PA(X:Cx)(es:List Expr)(t:TA):Prop:=
 ∀(pos:Pos)(ae:ZV)(s:Z3)(σ:St)(H:Hp)(Q:List V->Hp->Prop),aX X ae σ H s->t σ H Q->wpAny (model X.prog X.w) X.A (spliced (backTo pos (starEach es X.env))) (AP X ae σ Q) X.xe s
def PS(X:Cx)(st:Stmt)(t:TS):Prop:=
 ∀(ae:ZV)(s:Z3)(σ:St)(H:Hp)(D:Ends),aX X ae σ H s->t D σ H->wpAny (model X.prog X.w) X.A (exec st X.env) (SP X ae D) X.xe s
def kx(X:Cx)(st:List Stmt)(t:TS):Prop:=
 ∀(ae:ZV)(s:Z3)(σ:St)(H:Hp)(D:Ends),aX X ae σ H s->t D σ H->wpAny (model X.prog X.w) X.A (execs st X.env) (SP X ae D) X.xe s
theorem dJ{α:Type}{t:Sem α}{Q Q':α->Z3->Prop}{M:Model}{A:Z5}{E:ZT}{s:Z3}(h:wpAny M A t Q E s)(hQ:∀a s,Q a s->Q' a s):wpAny M A t Q' E s:=Wm h hQ fun _ _ x=>x
section
variable{X:Cx}
def T1(i:Nat):TE:=fun σ H Q=>∃v,σ[i]?=some (some v)/\Q v H
def tC(v:V):TE:=fun _ H Q=>Q v H
theorem LO{i:Nat}{x:Str}{pos:Pos}(hN:X.N[i]?=some x)(hv:Pg X.env.scope x)(hd:(x==("__debug__":Str))=false:=by decide)(zW:(x==("__classdict__":Str))=false:=by decide):PE X (.Name x pos) (T1 i):=by
 intro ae s σ H Q I h;obtain⟨v,e,h⟩:=h;obtain⟨m,hn,hl⟩:=I.loc;obtain⟨u,r,l⟩:=hl i x v hN e hv;have fin:EP X ae σ Q u s:=⟨v,H,I,r,h⟩
 rcases l with⟨hk,hm⟩|⟨hk,c,hc,nN⟩
 .exact wpAny_Name (wpAny_loadName_local I.ok.kind hk hn hm fin) hd
 .rcases hk with hk|hk
  .exact wpAny_Name (wpAny_loadName_cell I.ok.kind hk hc nN fin) hd
  .exact wpAny_Name (wpAny_loadName_free I.ok.kind hk hc nN fin zW) hd
theorem LQ{i j pos}:PE X (.Constant (.int i) j pos) (tC (.int i)):=fun _ _ _ H _ I h=>wpAny_Constant_int ⟨.int i,H,I.tok _,⟨_,rfl⟩,h⟩
theorem Pk{b j pos}:PE X (.Constant (.bool b) j pos) (tC (.bl b)):=fun _ _ _ H _ I h=>Constant_bool ⟨.bl b,H,I,rfl,h⟩
theorem LR{j pos}:PE X (.Constant .none j pos) (tC .dg):=fun _ _ _ H _ I h=>Constant_none ⟨.dg,H,I,rfl,h⟩
theorem LS{x j pos}:PE X (.Constant (.str x) j pos) (tC (.str x)):=fun _ _ _ H _ I h=>Calls.Constant_str ⟨.str x,H,I.tok _,⟨_,rfl⟩,h⟩
def Gl(X:Cx)(x:Str):Prop:=X.env.kindOf x=some .globalImplicit
theorem l!{E:ZT}{ae:ZV}{s:Z3}{σ:St}{H:Hp}{x:Str}{u:Z2}{pos:Pos}{Q:ZT}(I:aX X ae σ H s)(hg:Gl X x)(hm:X.mg x=some u)(h:Q u s)(hd:(x==("__debug__":Str))=false:=by decide):wpAny (model X.prog X.w) X.A (eval (.Name x pos) X.env) Q E s:=
 Y? I.ok.kind hg (Calls.loadGlobal_global (by rw[I.ok.glob];exact I.mod.glob.keeps I.bk) hm h) hd
theorem kA{E:ZT}{ae:ZV}{s:Z3}{σ:St}{H:Hp}{x:Str}{u:Z2}{pos:Pos}{Q:ZT}(I:aX X ae σ H s)(hg:Gl X x)(hm:X.mg x=none)(hv:bootBuiltins x=some u)(h:Q u s)(hn:x ≠ "__name__":=by decide)(hd:(x==("__debug__":Str))=false:=by decide):wpAny (model X.prog X.w) X.A (eval (.Name x pos) X.env) Q E s:=by obtain⟨mb,h1,h2⟩:=I.mod.blt;exact Y? I.ok.kind hg (Calls.loadGlobal_builtin (by rw[I.ok.glob];exact I.mod.glob.keeps I.bk) hm (by rw[I.ok.blt];exact h1.keeps I.bk) ((h2 x hn).trans hv) h) hd
theorem HW{x:Str}{v:V}{u:Z2}{pos:Pos}(hg:Gl X x)(hm:X.mg x=some u)(r:bK v u)(hd:(x==("__debug__":Str))=false:=by decide):PE X (.Name x pos) (tC v):=
 fun _ _ _ H _ I h=>l! I hg hm ⟨v,H,I,r,h⟩ hd
theorem HX{x:Str}{v:V}{u:Z2}{pos:Pos}(hg:Gl X x)(hm:X.mg x=none)(hv:bootBuiltins x=some u)(r:bK v u)(hn:x ≠ "__name__":=by decide)(hd:(x==("__debug__":Str))=false:=by decide):PE X (.Name x pos) (tC v):=
 fun _ _ _ H _ I h=>kA I hg hm hv ⟨v,H,I,r,h⟩ hn hd
variable{a b:Expr}{ta tb:TE}{pos:Pos}
def PC(X:Cx)(op:CmpOp)(a b:Expr)(t:TE):Prop:=
 ∀(ae:ZV)(s:Z3)(σ:St)(H:Hp)(Q:VK),aX X ae σ H s->t σ H Q ->
  wpAny (model X.prog X.w) X.A (eval a X.env) (fun v s₁=>wpAny (model X.prog X.w) X.A (eval b X.env) (fun u s₂=>wpAny (model X.prog X.w) X.A (compareOp op v u) (EP X ae σ Q) X.xe s₂) X.xe s₁) X.xe s
def tB(t:TE):TT:=fun σ H Q=>t σ H fun x H1=>∃c,x=.bl c/\Q c H1
theorem LW{e:Expr}{t:TE}(h:PE X e t)(he:∀whole,isTrue e X.env whole=(do let v <- whole;standAt e.pos;holding [v] (truthy v)):=by intro _;rfl):PT X e (tB t):=by intro ae s σ H Q I hw;refine isTrue_plain (dJ (h ae s σ H _ I hw) fun v s1⟨x,H1,I1,r1,q1⟩=>?_) (he _);obtain⟨d,rfl,q⟩:=q1;cases r1;exact WB ⟨H1,I1,q⟩
variable{tA HY:TT}{rest:List Expr}
def T2(t u:TT):TT:=fun σ H Q=>t σ H fun c H1=>if c=true then u σ H1 Q else Q false H1
def tOr(t u:TT):TT:=fun σ H Q=>t σ H fun c H1=>if c=true then Q true H1 else u σ H1 Q
def T3(t:TT):TT:=fun σ H Q=>t σ H fun c H1=>Q (!c) H1
theorem HZ(ha:PT X a tA):PW X (.BoolOp .And [a] pos) tA:=by
 intro wh ae s σ H Q I h;refine isTrue_and (dJ (ha ae s σ H Q I h) fun c s1 e=>?_);cases c with
 |true=>exact isTrue_and_nil e
 |false=>exact e
theorem LX(ha:PT X a tA):PW X (.BoolOp .Or [a] pos) tA:=by
 intro wh ae s σ H Q I h;refine isTrue_or (dJ (ha ae s σ H Q I h) fun c s1 e=>?_);cases c with
 |false=>exact isTrue_or_nil e
 |true=>exact e
theorem LY(ha:PT X a tA)(hb:PW X (.BoolOp .And (b::rest) pos) HY):PW X (.BoolOp .And (a::b::rest) pos) (T2 tA HY):=by
 intro wh ae s σ H Q I h;refine isTrue_and (dJ (ha ae s σ H _ I h) fun c s1⟨H1,I1,q1⟩=>?_);cases c with
 |true=>exact hb wh ae s1 σ H1 Q I1 q1
 |false=>exact⟨H1,I1,q1⟩
theorem Pl(ha:PT X a tA)(hb:PW X (.BoolOp .Or (b::rest) pos) HY):PW X (.BoolOp .Or (a::b::rest) pos) (tOr tA HY):=by
 intro wh ae s σ H Q I h;refine isTrue_or (dJ (ha ae s σ H _ I h) fun c s1⟨H1,I1,q1⟩=>?_);cases c with
 |true=>exact⟨H1,I1,q1⟩
 |false=>exact hb wh ae s1 σ H1 Q I1 q1
theorem LZ(ha:PT X a tA):PT X (.UnaryOp .Not a pos) (T3 tA):=by intro ae s σ H Q I h;exact isTrue_not (ha ae s σ H (fun c H1=>Q (!c) H1) I h)
def Pm(ta tb:TE):TE:=fun σ H Q=>ta σ H fun x H1=>∃c,x=.bl c/\if c=true then tb σ H1 Q else Q (.bl false) H1
def T4(ta tb:TE):TE:=fun σ H Q=>ta σ H fun x H1=>∃c,x=.bl c/\if c=true then Q (.bl true) H1 else tb σ H1 Q
def Pn(ta:TE):TE:=fun σ H Q=>ta σ H fun x H1=>∃c,x=.bl c/\Q (.bl (!c)) H1
theorem L0{op}{t:TE}(h:PE X a t):PE X (.BoolOp op [a] pos) t:=fun ae s σ H Q I hw=>BoolOp_one (h ae s σ H Q I hw)
theorem L3(ha:PE X a ta)(hb:PE X (.BoolOp .And (b::rest) pos) tb):PE X (.BoolOp .And (a::b::rest) pos) (Pm ta tb):=by
 intro ae s σ H Q I h;refine BoolOp_and (dJ (ha ae s σ H _ I h) fun v s1⟨x,H1,I1,r1,q1⟩=>?_);obtain⟨c,rfl,q1⟩:=q1;cases r1;refine WB ?_;cases c with
 |true=>exact hb ae s1 σ H1 Q I1 q1
 |false=>exact⟨.bl false,H1,I1,rfl,q1⟩
theorem Po(ha:PE X a ta)(hb:PE X (.BoolOp .Or (b::rest) pos) tb):PE X (.BoolOp .Or (a::b::rest) pos) (T4 ta tb):=by
 intro ae s σ H Q I h;refine BoolOp_or (dJ (ha ae s σ H _ I h) fun v s1⟨x,H1,I1,r1,q1⟩=>?_);obtain⟨c,rfl,q1⟩:=q1;cases r1;refine WB ?_;cases c with
 |false=>exact hb ae s1 σ H1 Q I1 q1
 |true=>exact⟨.bl true,H1,I1,rfl,q1⟩
theorem L4(ha:PE X a ta):PE X (.UnaryOp .Not a pos) (Pn ta):=by intro ae s σ H Q I h;refine UnaryOp_ (dJ (ha ae s σ H _ I h) fun v s1⟨x,H1,I1,r1,q1⟩=>?_);obtain⟨c,rfl,q1⟩:=q1;cases r1;exact not_of (WB ⟨.bl (!c),H1,I1,rfl,q1⟩)
def tIf(t:TT)(ta tb:TE):TE:=fun σ H Q=>t σ H fun c H1=>if c=true then ta σ H1 Q else tb σ H1 Q
theorem Es{c:Expr}(hc:PT X c tA)(ha:PE X a ta)(hb:PE X b tb):PE X (.IfExp c a b pos) (tIf tA ta tb):=by
 intro ae s σ H Q I h;refine wpAny_IfExp (dJ (hc ae s σ H _ I h) fun d s1⟨H1,I1,q1⟩=>?_);cases d with
 |true=>exact ha ae s1 σ H1 Q I1 q1
 |false=>exact hb ae s1 σ H1 Q I1 q1
end
def l?(K:ZW)(H:Hp)(a:Z4)(xs:List V):Prop:=
 Rd H a (.lst xs) \/
  ∃(o:Obj)(aV:Array Z2)(n:Nat),K.lookup a=some o/\o.cls=.type "list" /\ o.dict=none/\o.data=.seq aV n/\aV.size<=sizeLine/\bA xs aV.toList
def mY(K:ZW)(H:Hp)(a:Z4)(xs:List V):Prop:=
 Rd H a (.tup xs) \/
  ∃(o:Obj)(aV:Array Z2)(n:Nat),K.lookup a=some o/\o.cls=.type "tuple" /\ o.data=.seq aV n/\aV.size<=sizeLine/\bA xs aV.toList
def T5:Z2->Option V
 |.none=>some .dg
 |.bool b=>some (.bl b)
 |.int i _=>some (.int i)
 |.str x _=>some (.str x)
 |.bytes b _=>some (.TN b)
 |.float b _=>some (.rL b)
 |.ref a=>some (.ref a)
 |.type n=>some (.ty n)
 |_=>none
theorem bK.abs{x:V}{u:Z2}(r:bK x u):T5 u=some x:=by
 cases x with
 |dg=>cases r;rfl
 |bl _=>cases r;rfl
 |int _=>obtain⟨t,rfl⟩:=r;rfl
 |str _=>obtain⟨t,rfl⟩:=r;rfl
 |TN _=>obtain⟨t,rfl⟩:=r;rfl
 |rL _=>obtain⟨t,rfl⟩:=r;rfl
 |ref _=>cases r;rfl
 |ty _=>cases r;rfl
theorem bK.inj{x y:V}{u:Z2}(r:bK x u)(q:bK y u):x=y:=VR (r.abs.symm.trans q.abs)
theorem bA.inj{xs ys:List V}{us:ZY}(p:bA xs us)(q:bA ys us):xs=ys:=by
 induction p generalizing ys with
 |nil=>cases q;rfl
 |cons r t ih=>
  cases q with
  |cons r' t'=>rw[r.inj r',ih t']
section
variable{X:Cx}{ae:ZV}{σ:St}{H:Hp}{s:Z3}{a:Z4}{xs ys:List V}
theorem l?.of{K:ZW}(h:H a=some (.lst xs)):l? K H a xs:=.inl (.inl h)
theorem mY.of{K:ZW}(h:H a=some (.tup xs)):mY K H a xs:=.inl (.inl h)
theorem aX.list(I:aX X ae σ H s)(h:l? X.K H a xs):∃aV:ZY,bA xs aV/\PlainL s.heap a aV.toArray/\xs.length<=sizeLine:=by
 rcases h with h|⟨o,aV,n,hk,hc,hd,hs,hz,r⟩
 .obtain⟨z,aV,n,r,e⟩:=h.ok I.dq;exact⟨aV,r,⟨_,n,e,rfl,rfl,rfl⟩,z⟩
 .refine⟨aV.toList,r,⟨o,n,I.sF a o hk,hc,hd,by simpa using hs⟩,?_⟩;have e:=r.length;simp only[WE]at e;lia
theorem aX.tuple(I:aX X ae σ H s)(h:mY X.K H a xs):∃aV:ZY,bA xs aV/\IsTup s.heap a aV.toArray/\xs.length<=sizeLine:=by
 rcases h with h|⟨o,aV,n,hk,hc,hs,hz,r⟩
 .obtain⟨z,aV,r,p⟩:=h.ok I.dq;exact⟨aV,r,p,z⟩
 .refine⟨aV.toList,r,⟨o,I.sF a o hk,hc,n,by simpa using hs⟩,?_⟩;have e:=r.length;simp only[WE]at e;lia
theorem aX.nO(I:aX X ae σ H s)(h:l? X.K H a xs)(h':l? X.K H a ys):xs=ys:=by
 obtain⟨aV,r,⟨o,n,e,_,_,d⟩,_⟩:=I.list h;obtain⟨its',r',⟨o',n',e',_,_,d'⟩,_⟩:=I.list h';rw[e]at e';cases e';rw[d]at d';injection d' with d1 _;have:aV=its':=by simpa using W2 Array.toList d1
 subst this;exact r.inj r'
theorem aX.mj(I:aX X ae σ H s)(h:mY X.K H a xs)(h':mY X.K H a ys):xs=ys:=by
 obtain⟨aV,r,⟨o,e,_,n,d⟩,_⟩:=I.tuple h;obtain⟨its',r',⟨o',e',_,n',d'⟩,_⟩:=I.tuple h';rw[e]at e';cases e';rw[d]at d';injection d' with d1 _;have:aV=its':=by simpa using W2 Array.toList d1
 subst this;exact r.inj r'
end
abbrev Cx.sJ(X:Cx)(E:ZT):Cx:={X with xe:=E}
theorem Cx.Ok.sJ{X:Cx}(ok:X.Ok)(E:ZT):(X.sJ E).Ok:=
 ⟨ok.mod,ok.kind,ok.glob,ok.blt,ok.above,ok.inj,ok.has,ok.Kv,ok.hd,ok.frames,ok.HI,ok.Sk,ok.bs,ok.HJ,ok.yh,ok.CV,ok.kz,ok.Ej⟩
theorem Cx.Ok.wB{X:Cx}{E:ZT}(ok:(X.sJ E).Ok):X.Ok:=
 ⟨ok.mod,ok.kind,ok.glob,ok.blt,ok.above,ok.inj,ok.has,ok.Kv,ok.hd,ok.frames,ok.HI,ok.Sk,ok.bs,ok.HJ,ok.yh,ok.CV,ok.kz,ok.Ej⟩
section
variable{X:Cx}{ae:ZV}{σ:St}{H:Hp}{s:Z3}{E:ZT}
theorem aX.sJ(I:aX X ae σ H s)(E:ZT):aX (X.sJ E) ae σ H s:=⟨I.ok.sJ E,I.os,I.bare,I.base,I.loc,I.cell,I.free,I.jf,I.pin,I.dq,I.len⟩
theorem aX.wB(I:aX (X.sJ E) ae σ H s):aX X ae σ H s:=⟨I.ok.wB,I.os,I.bare,I.base,I.loc,I.cell,I.free,I.jf,I.pin,I.dq,I.len⟩
end
section
variable{X:Cx}{st:Stmt}{rest:List Stmt}{t u:TS}{e:Expr}{te:TE}{pos:Pos}
def Pp:TS:=fun D σ H=>D.nx σ H
def T6(t u:TS):TS:=fun D σ H=>t {D with nx:=u D} σ H
theorem H9:kx X [] Pp:=fun _ _ σ H _ I h=>Xt ⟨σ,H,I,h⟩
theorem Et(h1:PS X st t)(h2:kx X rest u):kx X (st::rest) (T6 t u):=by
 intro ae s σ H D I h;refine YL (dJ (h1 ae s σ H {D with nx:=u D} I h) fun f s1 q=>?_);cases f with
 |next=>
  obtain⟨σ',H',I',q⟩:=q;exact h2 ae s1 σ' H' D I' q
 |ret v=>exact q
 |brk=>exact q
 |cont=>exact q
theorem H_(h1:PS X st t):kx X [st] t:=by
 intro ae s σ H D I h;refine YL (dJ (h1 ae s σ H D I h) fun f s1 q=>?_);cases f with
 |next=>exact Xt q
 |ret v=>exact q
 |brk=>exact q
 |cont=>exact q
theorem aX.quiet{ae:ZV}{σ:St}{H:Hp}{s:Z3}(I:aX X ae σ H s):interactive X.env=false:=by simp[interactive,I.ok.kind]
def Pq(te:TE):TS:=fun D σ H=>te σ H fun _ H1=>D.nx σ H1
theorem H!(he:PE X e te)(hs:swapsWith e none pos.line X.env=pure false:=by rfl):PS X (.Expr e pos) (Pq te):=by intro ae s σ H D I h;exact wpAny_Expr_any (dJ (he ae s σ H _ I h) fun v s1⟨x,H1,I1,r1,q1⟩=>⟨σ,H1,I1,q1⟩) I.quiet hs
def T7(te:TE):TS:=fun D σ H=>te σ H D.rt
theorem L5(he:PE X e te):PS X (.Return (some e) pos) (T7 te):=by intro ae s σ H D I h;exact wpAny_Return_some (dJ (he ae s σ H _ I h) fun v s1⟨x,H1,I1,r1,q1⟩=>⟨x,σ,H1,I1,r1,q1⟩)
def T8(c:TT)(t u:TS):TS:=fun D σ H=>c σ H fun b H1=>if b=true then t D σ H1 else u D σ H1
theorem Pr{c:Expr}{a b:List Stmt}{tc:TT}(hc:PT X c tc)(ha:kx X a t)(hb:kx X b u):PS X (.If c a b pos) (T8 tc t u):=by
 intro ae s σ H D I h;refine wpAny_If (dJ (hc ae s σ H _ I h) fun d s1⟨H1,I1,q1⟩=>?_);cases d with
 |true=>exact ha ae s1 σ H1 D I1 q1
 |false=>exact hb ae s1 σ H1 D I1 q1
end
abbrev TG:=V->St->Hp->(St->Hp->Prop)->Prop
abbrev H?:=List V->St->Hp->(St->Hp->Prop)->Prop
def PG(X:Cx)(target:Expr)(t:TG):Prop:=
 ∀(ae:ZV)(s:Z3)(σ:St)(H:Hp)(v:V)(u:Z2)(Q:St->Hp->Prop),aX X ae σ H s->bK v u->t v σ H Q ->
  wpAny (model X.prog X.w) X.A (assign target X.env u) (fun _ s'=>∃σ' H',aX X ae σ' H' s'/\Q σ' H') X.xe s
def Ac(X:Cx)(ts:List Expr)(t:H?):Prop:=
 ∀(ae:ZV)(s:Z3)(σ:St)(H:Hp)(vs:List V)(us:ZY)(Q:St->Hp->Prop),aX X ae σ H s->bA vs us->t vs σ H Q ->
  wpAny (model X.prog X.w) X.A (assignInOrder ((assignEach ts X.env).map (·.2)) us) (fun _ s'=>∃σ' H',aX X ae σ' H' s'/\Q σ' H') X.xe s
abbrev Eu:=V->V->V->Hp->(Hp->Prop)->Prop
def L6(X:Cx)(t:Eu):Prop:=
 ∀(ae:ZV)(s:Z3)(σ:St)(H:Hp)(o i v:V)(ov iv u:Z2)(Q:Hp->Prop),aX X ae σ H s->bK o ov->bK i iv->bK v u->t o i v H Q ->
  wpAny (model X.prog X.w) X.A (setItem ov iv u) (fun _ s'=>∃H',aX X ae σ H' s'/\Q H') X.xe s
abbrev Pt:=V->V->Hp->VK->Prop
def PIp(X:Cx)(op:Operator)(t:Pt):Prop:=
 ∀(ae:ZV)(s:Z3)(σ:St)(H:Hp)(x y:V)(v u:Z2)(Q:VK),aX X ae σ H s->bK x v->bK y u->t x y H Q ->
  wpAny (model X.prog X.w) X.A (inplaceOp op v u) (EP X ae σ Q) X.xe s
section
variable{X:Cx}{pos:Pos}
def yk(i:Nat):TG:=fun v σ H Q=>Q (σ.set i (some v)) H
theorem Ia{i:Nat}{x:Str}(hN:X.N.Nodup)(hi:X.N[i]?=some x)(hx:Loc X.env.scope x)(hf:X.fn x=true\/X.env.scope.names.lookup x=some .local:=by first|exact .inl rfl|exact .inr rfl|assumption):PG X (.Name x pos) (yk i):=by intro ae s σ H v u Q I r h;exact wpAny_assign_Name (sH I hN hi hx r (fun s' I'=>⟨_,H,I',h⟩) hf)
def T9:H?:=fun vs σ H Q=>vs=[]/\Q σ H
def Pu(t:TG)(u:H?):H?:=fun vs σ H Q=>∃v r,vs=v::r/\t v σ H fun σ' H'=>u r σ' H' Q
theorem Ib:Ac X [] T9:=by intro ae s σ H vs us Q I r h;obtain⟨e,h⟩:=h;subst e;cases r;exact assignInOrder_nil ⟨σ,H,I,h⟩
theorem Ew{e:Expr}{es:List Expr}{t:TG}{u:H?}(h1:PG X e t)(h2:Ac X es u)(hs:(assignEach (e::es) X.env).map (·.2)=assign e X.env::(assignEach es X.env).map (·.2):=by rfl):Ac X (e::es) (Pu t u):=by
 intro ae s σ H vs us Q I r h;obtain⟨v,vr,e1,h⟩:=h;subst e1;cases r with
 |cons r rr=>
  rw[hs];refine assignInOrder_cons (dJ (h1 ae s σ H _ _ _ I r h) fun _ s1⟨σ1,H1,I1,q1⟩=>?_);exact h2 ae s1 σ1 H1 _ _ Q I1 rr q1
def T_(K:ZW)(n:Nat)(t:H?):TG:=fun v σ H Q=>∃a xs,v=.ref a/\mY K H a xs/\xs.length=n/\t xs σ H Q
theorem L7{es:List Expr}{k:Nat}{t:H?}{n:Nat}(hc:X.calm=true)(h:Ac X es t)(hn:(assignEach es X.env).length=n:=by rfl)(wC:(assignEach es X.env).findIdx? (·.1)=none:=by rfl):PG X (.Tuple es k pos) (T_ X.K n t):=by intro ae s σ H v u Q I r hw;obtain⟨a,xs,e1,hq,hl,hw⟩:=hw;subst e1;cases r;obtain⟨aV,rv,ht,hz⟩:=I.tuple hq;refine assign_Tuple_tuple (I.ok.hd hc) ht (by simp[hn,<-hl,rv.length]) wC fun h' hx=>?_;have I1:aX X ae σ H {s with heap:=h'}:=I.kept (t':=s.toks) fun b o e=>hx b o (V1 (VE e)) e;exact h ae _ σ H xs _ Q I1 (by simpa using rv) hw
def T!(to ti:TE)(t:Eu):TG:=fun v σ H Q=>to σ H fun o H1=>ti σ H1 fun i H2=>t o i v H2 fun H3=>Q σ H3
theorem L8{o i:Expr}{to ti:TE}{t:Eu}(ho:PE X o to)(hi:PE X i ti)(hs:L6 X t)
  (ha:∀ v,assign (.Subscript o i pos) X.env v=(do
   let ov <- holding [v] (eval o X.env)
   let iv <- holding [v,ov] (eval i X.env)
   standAt pos
   holding [v,ov,iv] (setItem ov iv v)
   release [v,ov,iv] []):=by intro _;rfl):PG X (.Subscript o i pos) (T! to ti t):=by
 intro ae s σ H v u Q I r h;rw[ha];refine Vj (Xo (dJ (ho ae s σ H _ I h) fun ov s1⟨x,H1,I1,r1,q1⟩=>?_));refine Vj (Xo (dJ (hi ae s1 σ H1 _ I1 q1) fun iv s2⟨y,H2,I2,r2,q2⟩=>?_));refine Vj (Za (Vj (Xo (dJ (hs ae s2 σ H2 x y v ov iv u _ I2 r1 r2 r q2) fun _ s3⟨H3,I3,q3⟩=>?_))));exact wpAny_release ⟨σ,H3,I3,q3⟩
def Ic(te:TE)(g:TG):TS:=fun D σ H=>te σ H fun x H1=>g x σ H1 D.nx
theorem L9{tg e:Expr}{te:TE}{g:TG}(he:PE X e te)(hg:PG X tg g)(hs:swapsWithSole [tg] e pos.line X.env=pure false:=by rfl)(hw:swappedStores [tg] e X.env=pure none:=by rfl)(h1:(assignEach [tg] X.env).map (·.2)=[assign tg X.env]:=by rfl):PS X (.Assign [tg] e pos) (Ic te g):=by intro ae s σ H D I h;refine wpAny_Assign_stores (dJ (he ae s σ H _ I h) fun v s1⟨x,H1,I1,r1,q1⟩=>?_) hs hw;rw[h1];exact dJ (hg ae s1 σ H1 x v _ I1 r1 q1) fun _ s2 q=>q
theorem L_{i:Nat}{x:Str}{e:Expr}{te:TE}{pos':Pos}(hN:X.N.Nodup)(hi:X.N[i]?=some x)(hx:Loc X.env.scope x)(he:PE X e te)(hs:swapsWith e (some (.Name x pos')) pos.line X.env=pure false:=by rfl)(hf:X.fn x=true\/X.env.scope.names.lookup x=some .local:=by first|exact .inl rfl|exact .inr rfl|assumption):
  PS X (.Assign [.Name x pos'] e pos) (Ic te (yk i)):=by
 intro ae s σ H D I h;refine wpAny_Assign_Name (dJ (he ae s σ H _ I h) fun v s1⟨y,H1,I1,r1,q1⟩=>?_) hs;exact sH I1 hN hi hx r1 (fun s2 I2=>⟨_,H1,I2,q1⟩) hf
def T?(i:Nat)(te:TE)(ti:Pt):TS:=fun D σ H=>∃x,σ[i]?=some (some x)/\te σ H fun y H1=>ti x y H1 fun z H2=>D.nx (σ.set i (some z)) H2
theorem L!{i:Nat}{x:Str}{e:Expr}{te:TE}{op:Operator}{ti:Pt}{pos':Pos}(hN:X.N.Nodup)(hi:X.N[i]?=some x)(hx:Loc X.env.scope x)(he:PE X e te)(ho:PIp X op ti)(hf:X.fn x=true\/X.env.scope.names.lookup x=some .local:=by first|exact .inl rfl|exact .inr rfl|assumption):
  PS X (.AugAssign (.Name x pos') op e pos) (T? i te ti):=by
 intro ae s σ H D I h;obtain⟨v,e1,h⟩:=h;obtain⟨m,hn,hl⟩:=I.loc;have T':Pg X.env.scope x:=by rcases hx with k|k;exact .inl k;exact .inr (.inl k)
 obtain⟨u,r,l⟩:=hl i x v hi e1 T';refine wpAny_AugAssign_Name ?_;have go:wpAny (model X.prog X.w) X.A (eval e X.env) (fun w s₂=>wpAny (model X.prog X.w) X.A (inplaceOp op u w) (fun r s₃=>wpAny (model X.prog X.w) X.A (storeName X.env x r) (fun _=>SP X ae D .next) X.xe s₃) X.xe s₂) X.xe s:=by refine dJ (he ae s σ H _ I h) fun w s1⟨y,H1,I1,r1,q1⟩=>?_;refine dJ (ho ae s1 σ H1 v y u w _ I1 r r1 q1) fun z s2⟨zv,H2,I2,r2,q2⟩=>?_;exact sH I2 hN hi hx r2 (fun s3 I3=>⟨_,H2,I3,q2⟩) hf
 rcases l with⟨hk,hm⟩|⟨hk,c,hc,nN⟩
 .exact wpAny_loadName_local I.ok.kind hk hn hm go
 .rcases hk with hk|hk
  .exact wpAny_loadName_cell I.ok.kind hk hc nN go
  .rcases hx with k|k
   .have:X.env.scope.names.lookup x=some .free:=hk;rw[k]at this;cases this
   .have:X.env.scope.names.lookup x=some .free:=hk;rw[k]at this;cases this
def Pw(to ti te:TE)(Ie:V->V->Hp->VK->Prop)(So:Pt)(Ig:Eu):TS:=fun D σ H=>to σ H fun o H1=>ti σ H1 fun i H2=>Ie o i H2 fun x H3=>te σ H3 fun y H4=>So x y H4 fun z H5=>Ig o i z H5 fun H6=>D.nx σ H6
def Px(X:Cx)(t:V->V->Hp->VK->Prop):Prop:=
 ∀(ae:ZV)(s:Z3)(σ:St)(H:Hp)(o i:V)(ov iv:Z2)(Q:VK),aX X ae σ H s->bK o ov->bK i iv->t o i H Q ->
  wpAny (model X.prog X.w) X.A (getItem ov iv) (EP X ae σ Q) X.xe s
theorem Ih{o i e:Expr}{to ti te:TE}{Ie:V->V->Hp->VK->Prop}{So:Pt}{Ig:Eu}{op:Operator}{nW:Pos}(ho:PE X o to)(hi:PE X i ti)(hg:Px X Ie)(he:PE X e te)(hp:PIp X op So)(hs:L6 X Ig)(ha:∀ov iv new,augStore i ov iv new=(do holding [new,ov,iv] (setItem ov iv new);release [new,ov,iv] [];pure .next):=by intros;rfl):PS X (.AugAssign (.Subscript o i nW) op e pos) (Pw to ti te Ie So Ig):=by intro ae s σ H D I h;refine wpAny_AugAssign_SubscriptAny (dJ (ho ae s σ H _ I h) fun ov s1⟨x1,H1,I1,r1,q1⟩=>?_) ha;refine dJ (hi ae s1 σ H1 _ I1 q1) fun iv s2⟨x2,H2,I2,r2,q2⟩=>?_;refine dJ (hg ae s2 σ H2 x1 x2 ov iv _ I2 r1 r2 q2) fun old s3⟨x3,H3,I3,r3,q3⟩=>?_;refine dJ (he ae s3 σ H3 _ I3 q3) fun v s4⟨x4,H4,I4,r4,q4⟩=>?_;refine dJ (hp ae s4 σ H4 x3 x4 old v _ I4 r3 r4 q4) fun new s5⟨x5,H5,I5,r5,q5⟩=>?_;exact dJ (hs ae s5 σ H5 x1 x2 x5 ov iv new _ I5 r1 r2 r5 q5) fun _ s6⟨H6,I6,q6⟩=>⟨σ,H6,I6,q6⟩
end
section
variable{X:Cx}{pos:Pos}
def L?(c:TT)(tb:TS):TS:=fun D σ H=>∃W:Nat->St->Hp->Prop,(∃m,W m σ H)/\∀m σ H,W m σ H ->
 c σ H fun b H1=>if b=true then ∃N:St->Hp->Prop,(∀σ' H',N σ' H'->∃m',m'<m/\W m' σ' H')/\tb {D with nx:=N,ct:=N,bk:=D.nx} σ H1 else D.nx σ H1
theorem Ex{c:Expr}{body:List Stmt}{tc:TT}{tb:TS}(hp:PassesOwn (model X.prog X.w) X.A X.env X.xe)(hc:PT X c tc)(hb:kx X body tb):PS X (.While c body [] pos) (L? tc tb):=by
 intro ae s σ H D I h;obtain⟨W,⟨m0,w0⟩,turn⟩:=h;refine wpAny_While (codeAny_whileLoop (fun n s'=>∃σ' H',aX X ae σ' H' s'/\W n σ' H') ?_ m0 ⟨σ,H,I,w0⟩);rintro n s1 ⟨σ1,H1,I1,w1⟩;refine Xd hp (dJ (hc ae s1 σ1 H1 _ I1 (turn n σ1 H1 w1)) fun b s2⟨H2,I2,q2⟩=>?_);cases b with
 |true=>
  obtain⟨N,hN,q2⟩:=q2;rw[VD rfl];refine Xd hp (dJ (hb ae s2 σ1 H2 _ I2 q2) fun f s3 q3=>?_);cases f with
  |next=>
   obtain⟨σ3,H3,I3,n3⟩:=q3;obtain⟨m',hm,w3⟩:=hN σ3 H3 n3;exact⟨m',hm,σ3,H3,I3,w3⟩
  |cont=>
   obtain⟨σ3,H3,I3,n3⟩:=q3;obtain⟨m',hm,w3⟩:=hN σ3 H3 n3;exact⟨m',hm,σ3,H3,I3,w3⟩
  |brk=>exact q3
  |ret v=>exact q3
 |false=>
  rw[VI VM];exact Xt ⟨σ1,H2,I2,q2⟩
end
structure It where
 go:Nat->Hp->Prop
 OU:Nat->Hp->V->Hp->Prop
 stop:Nat->Hp->Prop
def kC(X:Cx)(ae:ZV)(H:Hp)(b:Z4):Prop:=
 H b=none/\b≠X.env.locals/\b ∉ X.fs/\(b∈X.ex\/X.s₀.heap.objs.size<=b)/\(∀x c,X.env.cells.lookup x=some c->c≠b)/\∀p∈X.pn++ae,p.1≠b
theorem aX.Ad{X:Cx}{ae:ZV}{σ:St}{H H':Hp}{s:Z3}{b:Z4}(I:aX X ae σ H s)(hb:s.heap.objs.size<=b)(hn:H' b=none):kC X ae H' b:=by
 refine⟨hn,W4 (VJ I.lt hb),I.TV hb,.inr (V! I.sz hb),fun x c e z=>?_,fun p hp z=>?_⟩
 .obtain⟨v,q⟩:=I.cell x c e;exact absurd (VJ q.lt (by rw[z];exact hb)) (Wg _)
 .exact absurd (VJ (VE (I.pin p hp).1) (by rw[z];exact hb)) (Wg _)
structure Turn(P:Z6)(w:World)(K:ZW)(tg:Expr)(J:It)(fp:Z0)(it:Z4)(tn:Nat->Heap->Prop):Prop where
 mem:it∈fp
 obj:∀i h,tn i h->∀b∈fp,∃o,h.get? b=some o/\∀v,o.data≠.cell v
 keep:∀i h h',tn i h->(∀b∈fp,∀o,h.get? b=some o->h'.get? b=some o)->tn i h'
 item:∀(X:Cx),X.prog=P->X.w=w->X.K=K->X.calm=true->∀(i:Nat)(ae:ZV)(s:Z3)(σ:St)(H:Hp)(E:ZT),aX X ae σ H s->(∀b∈fp,kC X ae H b)->tn i s.heap->J.go i H ->
  wpAny (model P w) X.A (pyNext (.ref it)) (fun r s1=>∃u,r=some u /\
   wpAny (model P w) X.A (letOwnedTupleGo tg (.ref it) u) (fun _ s2=>∃x H',aX X ae σ H' s2/\bK x u/\J.OU i H x H'/\tn (i+1) s2.heap/\∀b∈fp,H' b=none) E s1) E s
 done:∀(X:Cx),X.prog=P->X.w=w->X.K=K->X.calm=true->∀(i:Nat)(ae:ZV)(s:Z3)(σ:St)(H:Hp)(E:ZT),aX X ae σ H s->(∀b∈fp,kC X ae H b)->tn i s.heap->J.stop i H ->
  wpAny (model P w) X.A (pyNext (.ref it)) (fun r s1=>r=none/\aX X ae σ H s1) E s
 self:∀(A:Z5)(i:Nat)(s:Z3)(Q:ZT)(E:ZT),tn i s.heap->Q (.ref it) s->wpAny (model P w) A (pyIter (.ref it)) Q E s
abbrev TI:=St->Hp->(It->Hp->Prop)->Prop
def Ua(X:Cx)(ae:ZV)(σ:St)(tg:Expr)(R:It->Hp->Prop)(Sq:Z2)(s2:Z3):Prop:=
 ∃(it:Z4)(fp:Z0)(tn:Nat->Heap->Prop)(J:It)(H':Hp),Sq=.ref it/\aX X ae σ H' s2/\Turn X.prog X.w X.K tg J fp it tn/\tn 0 s2.heap/\(∀b∈fp,kC X ae H' b)/\R J H'
def PI(X:Cx)(tg iter:Expr)(wi:TI):Prop:=
 ∀(ae:ZV)(s:Z3)(σ:St)(H:Hp)(R:It->Hp->Prop),aX X ae σ H s->wi σ H R ->
  wpAny (model X.prog X.w) X.A (eval iter X.env) (fun v s1=>wpAny (model X.prog X.w) X.A (pyIter v) (Ua X ae σ tg R) X.xe s1) X.xe s
theorem ym{M:Model}{A:Z5}{E:ZT}{s:Z3}{tg:Expr}{it:Z4}{u:Z2}{o:Obj}{n:String}{vs:Array Z2}{Q:Unit->Z3->Prop}(ho:s.heap.get? it=some o)(hc:o.cls=.type n)(hd:o.data=.fields vs)(hn:["enumerate","zip","dict_itemiterator","dict_reverseitemiterator","odict_iterator","itertools.zip_longest","itertools.pairwise"].contains n=false)(hQ:Q () s):wpAny M A (letOwnedTupleGo tg (.ref it) u) Q E s:=by
  unfold letOwnedTupleGo;cases tg<;>first
    |exact VC hQ
    |(cases u<;>first
        |exact VC hQ
        | (refine Vj (wpAny_load ho ?_)
           rw[hc,hd];show wpAny M A (if(["enumerate","zip","dict_itemiterator","dict_reverseitemiterator","odict_iterator","itertools.zip_longest","itertools.pairwise"].contains n&&vs[0]?==some (rawInt _))=true then _ else _) Q E s;rw[VI (by intro h;rw[hn,Yb]at h;cases h)];exact VC hQ))
def Ub(K:ZW)(a:Z4):It:=
 ⟨fun i H=>∃xs x,l? K H a xs/\xs[i]?=some x,fun i H x H'=>H'=H/\∀xs,l? K H a xs->xs[i]?=some x,fun i H=>∃xs,l? K H a xs/\xs.length<=i⟩
def Py(K:ZW)(a:Z4):It:=
 ⟨fun i H=>∃xs x,mY K H a xs/\xs[i]?=some x,fun i H x H'=>H'=H/\∀xs,mY K H a xs->xs[i]?=some x,fun i H=>∃xs,mY K H a xs/\xs.length<=i⟩
def Pz(lo:Int)(n:Nat):It:=⟨fun i _=>i<n,fun i H x H'=>H'=H/\x=.int (lo+i),fun i _=>n<=i⟩
theorem CW{P:Z6}{w:World}{K:ZW}{tg:Expr}(a it:Z4):Turn P w K tg (Ub K a) [it] it (fun i h=>h.IsListIter it a i) where
 mem:=by simp
 obj:=fun i h st b hb=>by
  have e:b=it:=by simpa using hb
  subst e;obtain⟨o,e,c,d⟩:=st;exact⟨o,e,fun v z=>by rw[d]at z;cases z⟩
 keep:=fun i h h' st k=>st.at fun o e=>k it (by simp) o e
 item:=by intro X hP hw hK hc i ae s σ H E I hf st hg;subst hP hw hK;obtain⟨xs,x,hq,hx⟩:=hg;obtain⟨aV,rv,p,hz⟩:=I.list hq;obtain⟨u,hu,ru⟩:=rv.get hx;obtain⟨f0,f1,f2,f3,f4,f5⟩:=hf it (by simp);refine Zz st p.isList (x:=u) (by simpa using hu) fun h' ar sb=>?_;have I1:aX X ae σ H {s with heap:=h'}:=I.turned (t':=s.toks) (fun b o hb e=>(sb.2 b hb).trans e) f0 f1 f3 f4 f5;obtain⟨o,e,c,d⟩:=id ar;exact⟨u,rfl,ym (s:={s with heap:=h'}) e c d (by decide) ⟨x,H,I1,ru,⟨rfl,fun ys hy=>by rw[I.nO hy hq];exact hx⟩,ar,fun b hb=>(hf b hb).1⟩⟩
 done:=by intro X hP hw hK hc i ae s σ H E I hf st hg;subst hP hw hK;obtain⟨xs,hq,hx⟩:=hg;obtain⟨aV,rv,p,hz⟩:=I.list hq;obtain⟨f0,f1,f2,f3,f4,f5⟩:=hf it (by simp);have hl:=rv.length;exact wpAny_pyNext_list_end (I.ok.hd hc) st p.isList (by simp;lia) fun h' eb=>⟨rfl,I.turned (t':=s.toks) (fun b o hb e=>eb b o hb e) f0 f1 f3 f4 f5⟩
 self:=fun _ _ _ _ _ st h=>ZL st h
theorem jN{P:Z6}{w:World}{K:ZW}{tg:Expr}(a it:Z4):Turn P w K tg (Py K a) [it] it (fun i h=>h.IsTupleIter it a i) where
 mem:=by simp
 obj:=fun i h st b hb=>by
  have e:b=it:=by simpa using hb
  subst e;obtain⟨o,e,c,d⟩:=st;exact⟨o,e,fun v z=>by rw[d]at z;cases z⟩
 keep:=fun i h h' st k=>st.at fun o e=>k it (by simp) o e
 item:=by intro X hP hw hK hc i ae s σ H E I hf st hg;subst hP hw hK;obtain⟨xs,x,hq,hx⟩:=hg;obtain⟨aV,rv,p,hz⟩:=I.tuple hq;obtain⟨u,hu,ru⟩:=rv.get hx;obtain⟨f0,f1,f2,f3,f4,f5⟩:=hf it (by simp);refine Zm st (show s.heap.IsTuple a aV.toArray from p) (x:=u) (by simpa using hu) fun h' ar sb=>?_;have I1:aX X ae σ H {s with heap:=h'}:=I.turned (t':=s.toks) (fun b o hb e=>(sb.2 b hb).trans e) f0 f1 f3 f4 f5;obtain⟨o,e,c,d⟩:=id ar;exact⟨u,rfl,ym (s:={s with heap:=h'}) e c d (by decide) ⟨x,H,I1,ru,⟨rfl,fun ys hy=>by rw[I.mj hy hq];exact hx⟩,ar,fun b hb=>(hf b hb).1⟩⟩
 done:=by intro X hP hw hK hc i ae s σ H E I hf st hg;subst hP hw hK;obtain⟨xs,hq,hx⟩:=hg;obtain⟨aV,rv,p,hz⟩:=I.tuple hq;obtain⟨f0,f1,f2,f3,f4,f5⟩:=hf it (by simp);have hl:=rv.length;exact wpAny_pyNext_tuple_end (I.ok.hd hc) st (show s.heap.IsTuple a aV.toArray from p) (by simp;lia) fun h' eb=>⟨rfl,I.turned (t':=s.toks) (fun b o hb e=>eb b o hb e) f0 f1 f3 f4 f5⟩
 self:=fun _ _ _ _ _ st h=>wpAny_pyIter_tupleiter st h
theorem Ae{P:Z6}{w:World}{K:ZW}{tg:Expr}(it:Z4)(lo:Int)(n:Nat):Turn P w K tg (Pz lo n) [it] it (fun i h=>IsRangeIter h it (lo+(i:Nat)*1) ((n:Int)-(i:Nat)) 1) where
 mem:=by simp
 obj:=fun i h st b hb=>by
  have e:b=it:=by simpa using hb
  subst e;exact⟨_,st,fun v z=>by
   have z':Data.fields _=Data.cell v:=z;cases z'⟩
 keep:=fun i h h' st k=>k it (by simp) _ st
 item:=by intro X hP hw hK hc i ae s σ H E I hf st hg;subst hP hw hK;obtain⟨f0,f1,f2,f3,f4,f5⟩:=hf it (by simp);have W:=Walks.range (prog:=X.prog) (w:=X.w) (I.ok.hd hc) it lo 1 n;refine W.item i s _ _ hg st fun v h' tk hv ar kk=>?_;obtain⟨t,rfl⟩:=hv;have I1:aX X ae σ H {s with heap:=h',toks:=tk}:=I.turned (fun b o hb e=>kk b o (by simpa using hb) e) f0 f1 f3 f4 f5;refine⟨_,rfl,ym (s:={s with heap:=h',toks:=tk}) (n:="range_iterator") ar rfl rfl (by decide) ⟨.int (lo+i),H,I1,⟨t,?_⟩,⟨rfl,rfl⟩,ar,fun b hb=>(hf b hb).1⟩⟩;rw[Xg]
 done:=by intro X hP hw hK hc i ae s σ H E I hf st hg;subst hP hw hK;obtain⟨f0,f1,f2,f3,f4,f5⟩:=hf it (by simp);exact Zy (I.ok.hd hc) st (by have:n<=i:=hg;lia) fun h' eb=>⟨rfl,I.turned (t':=s.toks) (fun b o hb e=>eb b o hb e) f0 f1 f3 f4 f5⟩
 self:=fun _ _ _ _ _ st h=>ZA st h
section
variable{X:Cx}{tg:Expr}
theorem yn{ae:ZV}{σ:St}{H:Hp}{s:Z3}{R:It->Hp->Prop}{E:ZT}{lo hi:Int}{t u v:Tok}{tk:Nat}(I:aX X ae σ H s)(h1:-(2 ^ 62)<=lo)(h2:lo<2 ^ 62)(h3:-(2 ^ 62)<=hi)(h4:hi<2 ^ 62)(q:R (Pz lo (hi-lo).toNat) H):wpAny (model X.prog X.w) X.A (pyIter (.ref s.heap.objs.size)) (Ua X ae σ tg R) E {s with heap:=s.heap.push {cls:=.type "range",data:=.fields #[.int lo t,.int hi u,.int 1 v]},toks:=tk}:=by
 refine wpAny_pyIter_range (IsRange.new ..) (small_one h1 h2 h3 h4) ?_;have I1:aX X ae σ H {s with heap:=s.heap.push {cls:=.type "range",data:=.fields #[.int lo t,.int hi u,.int 1 v]},toks:=tk}:=I.kept fun b o e=>Vm _ e;refine⟨(s.heap.push {cls:=.type "range",data:=.fields #[.int lo t,.int hi u,.int 1 v]}).objs.size,[(s.heap.push {cls:=.type "range",data:=.fields #[.int lo t,.int hi u,.int 1 v]}).objs.size],_,_,H,rfl,
  I1.kept (t':=tk) fun b o e=>Vm _ e,Ae _ lo (hi-lo).toNat,?_,fun b hb=>?_,q⟩
 .have e1:lo+((0:Nat):Int)*1=lo:=by simp
  have e2:(((hi-lo).toNat:Nat):Int)-((0:Nat):Int)=Builtin.Range.rangeSize lo hi 1:=by rw[rangeSize_one];split<;>lia
  show IsRangeIter _ _ (lo+((0:Nat):Int)*1) ((((hi-lo).toNat:Nat):Int)-((0:Nat):Int)) 1;rw[e1,e2];exact VL _ rfl
 .have e:b=(s.heap.push {cls:=.type "range",data:=.fields #[.int lo t,.int hi u,.int 1 v]}).objs.size:=by simpa using hb
  subst e;exact I1.Ad (VA _) (I1.dq.fresh (VA _))
def PB(ta:TA):TI:=fun σ H R=>ta σ H fun vs H1=>∃j:Int,vs=[.int j]/\-(2 ^ 62)<=j/\j<2 ^ 62/\R (Pz 0 j.toNat) H1
def PD(ta:TA):TI:=fun σ H R=>ta σ H fun vs H1=>∃i j:Int,vs=[.int i,.int j]/\(-(2 ^ 62)<=i/\i<2 ^ 62/\-(2 ^ 62)<=j/\j<2 ^ 62)/\R (Pz i (j-i).toNat) H1
theorem CY{a:Expr}{ta:TA}{p pos:Pos}(hg:Gl X "range")(hm:X.mg "range" = none)(ha:PA X [a] ta)(hs:starEach [a] X.env=[(false,eval a X.env)]:=by rfl):PI X tg (.Call (.Name "range" p) [a] [] pos) (PB ta):=by
 intro ae s σ H R I h;refine Call_ (kA I hg hm boot_range (Ww (dJ (ha pos ae s σ H _ I h) fun us s1⟨vs,H1,I1,r1,q1⟩=>?_) hs rfl));obtain⟨j,e,q1,q2,q⟩:=q1;subst e;cases r1 with
 |cons r rr=>
  cases rr;obtain⟨t,rfl⟩:=r;exact call_range_1 (yn I1 (by lia) (by lia) q1 q2 (by simpa using q))
theorem CZ{a b:Expr}{ta:TA}{p pos:Pos}(hg:Gl X "range")(hm:X.mg "range" = none)(ha:PA X [a,b] ta)(hs:starEach [a,b] X.env=[(false,eval a X.env),(false,eval b X.env)]:=by rfl)(jq:starEach [b] X.env=[(false,eval b X.env)]:=by rfl):
  PI X tg (.Call (.Name "range" p) [a,b] [] pos) (PD ta):=by
 intro ae s σ H R I h;refine Call_ (kA I hg hm boot_range (Ww (dJ (ha pos ae s σ H _ I h) fun us s1⟨vs,H1,I1,r1,q1⟩=>?_) (by rw[hs,jq]) (by rw[jq];rfl)));obtain⟨i,j,e,⟨q1,q2,q3,q4⟩,q⟩:=q1;subst e;cases r1 with
 |cons r rr=>
  cases rr with
  |cons r' rr=>
   cases rr;obtain⟨t,rfl⟩:=r;obtain⟨t',rfl⟩:=r';exact call_range_2 (yn I1 q1 q2 q3 q4 q)
def Uc(wi:TI)(g:TG)(tb:TS):TS:=fun D σ H=>wi σ H fun J H1=>∃W:Nat->Nat->St->Hp->Prop,(∃m,W 0 m σ H1)/\∀i m σ H,W i m σ H ->
 (J.stop i H/\D.nx σ H)\/(J.go i H/\∃N:St->Hp->Prop,(∀σ' H',N σ' H'->∃m',m'<m/\W (i+1) m' σ' H')/\∀x H',J.OU i H x H'->g x σ H' fun σ2 H2=>tb {D with nx:=N,ct:=N,bk:=D.nx} σ2 H2)
def sL(fp:Z0)(h:Heap):ZV:=fp.filterMap fun b=>(h.get? b).map fun o=>(b,o)
theorem jO{fp:Z0}{h:Heap}{b:Z4}{o:Obj}(hb:b∈fp)(e:h.get? b=some o):(b,o)∈sL fp h:=Y3.mpr ⟨b,hb,by rw[e];rfl⟩
theorem C0{fp:Z0}{h:Heap}{p:Z4×Obj}(hp:p∈sL fp h):p.1∈fp/\h.get? p.1=some p.2:=by
 obtain⟨b,hb,e⟩:=Y3.mp hp;cases q:h.get? b with
 |none=>rw[q]at e;cases e
 |some o=>
  rw[q]at e;have e':(b,o)=p:=VR e;subst e';exact⟨hb,q⟩
theorem aX.pinned{ae:ZV}{σ:St}{H:Hp}{s:Z3}{fp:Z0}(I:aX X ae σ H s)(hf:∀b∈fp,kC X ae H b)(ho:∀b∈fp,∃o,s.heap.get? b=some o/\∀v,o.data≠.cell v):aX X (ae++sL fp s.heap) σ H s:=
 I.rN fun p hp=>(V4.mp hp).elim (fun z=>I.pin p (V2 _ z)) fun z=>by obtain⟨hb,e⟩:=C0 z;obtain⟨f0,f1,f2,_⟩:=hf p.1 hb;obtain⟨o,e',d⟩:=ho p.1 hb;rw[e]at e';cases e';exact⟨e,f0,f1,f2,d⟩
theorem aX.sM{ae pl:ZV}{σ:St}{H:Hp}{s:Z3}(I:aX X (ae++pl) σ H s):aX X ae σ H s:=I.rN fun p hp=>I.pin p (V2 _ (Wk _ hp))
theorem L'{iter:Expr}{body:List Stmt}{wi:TI}{g:TG}{tb:TS}{pos:Pos}(hp:PassesOwn (model X.prog X.w) X.A X.env X.xe)(hc:X.calm=true)(hi:PI X tg iter wi)(hg:PG X tg g)(hb:kx X body tb)(hs:∀x,foldedSetIterable iter X.env x=pure x:=by intro _;rfl):PS X (.For tg iter body [] pos) (Uc wi g tb):=by
 intro ae s σ H D I h;refine wpAny_For (dJ (hi ae s σ H _ I h) fun v s1 h1=>dJ h1 fun Sq s2 h2=>?_) hs;obtain⟨it,fp,tn,J,H2,e,I2,T,cJ,f2,W,⟨m0,w0⟩,turn⟩:=h2;subst e
 -- Ud stays true of uY Ma objects through uY loop
 have Af:∀{H':Hp},(∀b∈fp,H' b=none)->∀b∈fp,kC X ae H' b:=fun hn b hb=>⟨hn b hb,(f2 b hb).2⟩
 refine codeAny_forLoop_any (fun n s'=>∃i σ' H',aX X ae σ' H' s'/\tn i s'.heap/\(∀b∈fp,H' b=none)/\W i n σ' H') ?_ m0 ⟨0,σ,H2,I2,cJ,fun b hb=>(f2 b hb).1,w0⟩;rintro n s3 ⟨i,σ3,H3,I3,mZ,PF,w3⟩;rcases turn i n σ3 H3 w3 with⟨stop,qn⟩|⟨go,N,hN,step⟩
 .refine Xd hp (dJ (T.done X rfl rfl rfl hc i ae s3 σ3 H3 X.xe I3 (Af PF) mZ stop) fun r s4⟨hr,I4⟩=>?_);subst hr;exact Xt ⟨σ3,H3,I4,qn⟩
 .refine Xd hp (dJ (T.item X rfl rfl rfl hc i ae s3 σ3 H3 X.xe I3 (Af PF) mZ go) fun r s4⟨u,hr,h4⟩=>?_);subst hr;refine Xd hp (dJ h4 fun _ s5⟨x,H5,I5,r5,y5,HL,Ue⟩=>?_);have Ug:=I5.pinned (Af Ue) (T.obj _ _ HL);refine Xd hp (dJ (hg _ s5 σ3 H5 x u _ Ug r5 (step x H5 y5)) fun _ s6⟨σ6,H6,I6,q6⟩=>?_);refine Xd hp (dJ (hb _ s6 σ6 H6 _ I6 q6) fun f s7 q7=>?_);have again:∀{σ7:St}{H7:Hp},aX X (ae++sL fp s5.heap) σ7 H7 s7->N σ7 H7->∃m,m<n/\∃i σ' H',aX X ae σ' H' s7/\tn i s7.heap/\(∀b∈fp,H' b=none)/\W i m σ' H':=fun{σ7 H7}I7 n7=>by obtain⟨m',hm,w7⟩:=hN σ7 H7 n7;refine⟨m',hm,i+1,σ7,H7,I7.sM,T.keep _ _ _ HL fun b hb o e=>(I7.pin (b,o) (V2 _ (V2 _ (jO hb e)))).1,fun b hb=>?_,w7⟩;obtain⟨o,e,d⟩:=T.obj _ _ HL b hb;exact(I7.pin (b,o) (V2 _ (V2 _ (jO hb e)))).2.1
  cases f with
  |next=>obtain⟨σ7,H7,I7,n7⟩:=q7;exact again I7 n7
  |cont=>obtain⟨σ7,H7,I7,n7⟩:=q7;exact again I7 n7
  |brk=>obtain⟨σ7,H7,I7,q7⟩:=q7;exact⟨σ7,H7,I7.sM,q7⟩
  |ret v=>obtain⟨x7,σ7,H7,I7,r7,q7⟩:=q7;exact⟨x7,σ7,H7,I7.sM,r7,q7⟩
end
abbrev R2:=V->V->Hp->VK->Prop
def eY(X:Cx)(f:Z2->Z2->Sem Z2)(r:R2):Prop:=
 ∀(ae:ZV)(s:Z3)(σ:St)(H:Hp)(x y:V)(v u:Z2)(Q:VK),aX X ae σ H s->bK x v->bK y u->r x y H Q ->
  wpAny (model X.prog X.w) X.A (f v u) (EP X ae σ Q) X.xe s
def Uh(X:Cx)(f:Z2->Sem Z2)(r:V->Hp->VK->Prop):Prop:=
 ∀(ae:ZV)(s:Z3)(σ:St)(H:Hp)(x:V)(v:Z2)(Q:VK),aX X ae σ H s->bK x v->r x H Q ->
  wpAny (model X.prog X.w) X.A (f v) (EP X ae σ Q) X.xe s
def cz(X:Cx)(f:Z2)(r:List V->Hp->VK->Prop):Prop:=
 ∀(ae:ZV)(s:Z3)(σ:St)(H:Hp)(xs:List V)(us:ZY)(Q:VK),aX X ae σ H s->bA xs us->r xs H Q ->
  wpAny (model X.prog X.w) X.A (call f us) (EP X ae σ Q) X.xe s
def OW(r:R2)(ta tb:TE):TE:=fun σ H Q=>ta σ H fun x H1=>tb σ H1 fun y H2=>r x y H2 Q
def tUn(r:V->Hp->VK->Prop)(ta:TE):TE:=fun σ H Q=>ta σ H fun x H1=>r x H1 Q
def rI(C:Int->Int->Prop)(g:Int->Int->V):R2:=fun x y H Q=>∃i j,x=.int i/\y=.int j/\C i j/\Q (g i j) H
def Ii(g:Int->Int->V):R2:=fun x y H Q=>∃i j,x=.int i/\y=.int j/\Q (g i j) H
def rU(g:Int->V):V->Hp->VK->Prop:=fun x H Q=>∃i,x=.int i/\Q (g i) H
section
variable{X:Cx}{a b c:Expr}{ta tb tc:TE}{pos:Pos}
theorem Mb(ha:PE X a ta)(hb:PE X b tb){ae:ZV}{s:Z3}{σ:St}{H:Hp}{R:V->V->Hp->Prop}(I:aX X ae σ H s)(h:ta σ H fun x H1=>tb σ H1 fun y H2=>R x y H2){Q:ZT}{f:Z2->Z2->Sem Z2}(hf:∀v u s2 x y H2,aX X ae σ H2 s2->bK x v->bK y u->R x y H2->wpAny (model X.prog X.w) X.A (f v u) Q X.xe s2):
  wpAny (model X.prog X.w) X.A (eval a X.env) (fun v s₁=>wpAny (model X.prog X.w) X.A (eval b X.env) (fun u s₂=>wpAny (model X.prog X.w) X.A (f v u) Q X.xe s₂) X.xe s₁) X.xe s:=by
 refine dJ (ha ae s σ H _ I h) fun v s1⟨x,H1,I1,r1,q1⟩=>?_;refine dJ (hb ae s1 σ H1 _ I1 q1) fun u s2⟨y,H2,I2,r2,q2⟩=>?_;exact hf v u s2 x y H2 I2 r1 r2 q2
theorem PJ{op:Operator}{r:R2}(ho:eY X (binaryOp op) r)(ha:PE X a ta)(hb:PE X b tb):PE X (.BinOp a op b pos) (OW r ta tb):=by intro ae s σ H Q I h;exact wpAny_BinOp (Mb ha hb I h fun v u s2 x y H2 I2 rx ry q=>ho ae s2 σ H2 x y v u Q I2 rx ry q)
theorem PK{op:UnaryOp}{r:V->Hp->VK->Prop}(ho:Uh X (unaryOp op) r)(ha:PE X a ta):PE X (.UnaryOp op a pos) (tUn r ta):=by intro ae s σ H Q I h;exact UnaryOp_ (dJ (ha ae s σ H _ I h) fun v s1⟨x,H1,I1,r1,q1⟩=>ho ae s1 σ H1 x v Q I1 r1 q1)
theorem PL{f:Z2->Z2->Sem Z2}{C:Int->Int->Prop}{g:Int->Int->Int}(rule:∀(i j:Int)(t u:Tok)(s:Z3)(Q:ZT)(E:ZT),C i j->Q (.int (g i j) s.toks) {s with toks:=s.toks+1}->wpAny (model X.prog X.w) X.A (f (.int i t) (.int j u)) Q E s):
  eY X f (rI C fun i j=>.int (g i j)):=by
 intro ae s σ H x y v u Q I rx ry h;obtain⟨i,j,rfl,rfl,hc,q⟩:=h;obtain⟨t,rfl⟩:=rx;obtain⟨t',rfl⟩:=ry;exact rule i j t t' s _ _ hc ⟨.int (g i j),H,I.tok _,⟨_,rfl⟩,q⟩
theorem Ij{f:Z2->Z2->Sem Z2}{g:Int->Int->Int}(rule:∀(i j:Int)(t u:Tok)(s:Z3)(Q:ZT)(E:ZT),Q (.int (g i j) s.toks) {s with toks:=s.toks+1}->wpAny (model X.prog X.w) X.A (f (.int i t) (.int j u)) Q E s):
  eY X f (Ii fun i j=>.int (g i j)):=by
 intro ae s σ H x y v u Q I rx ry h;obtain⟨i,j,rfl,rfl,q⟩:=h;obtain⟨t,rfl⟩:=rx;obtain⟨t',rfl⟩:=ry;exact rule i j t t' s _ _ ⟨.int (g i j),H,I.tok _,⟨_,rfl⟩,q⟩
theorem Mc{f:Z2->Z2->Sem Z2}{g:Int->Int->Bool}(rule:∀(i j:Int)(t u:Tok)(s:Z3)(Q:ZT)(E:ZT),Q (.bool (g i j)) s->wpAny (model X.prog X.w) X.A (f (.int i t) (.int j u)) Q E s):
  eY X f (Ii fun i j=>.bl (g i j)):=by
 intro ae s σ H x y v u Q I rx ry h;obtain⟨i,j,rfl,rfl,q⟩:=h;obtain⟨t,rfl⟩:=rx;obtain⟨t',rfl⟩:=ry;exact rule i j t t' s _ _ ⟨.bl (g i j),H,I,rfl,q⟩
def Ey(i j:Int):Prop:=0<=j/\j<=1000000/\i.natAbs<2 ^ 64
def Ez(i j:Int):Prop:=(-(2 ^ 64)<i/\i<2 ^ 64)\/(-(2 ^ 64)<j/\j<2 ^ 64)
theorem Ez.ok{i j:Int}(h:Ez i j):IntMulOk i j:=by
 rcases h with⟨h1,h2⟩|⟨h1,h2⟩
 .exact .of_left (intBits_le_64 h1 h2)
 .exact .of_right (intBits_le_64 h1 h2)
theorem Md:eY X (binaryOp .Add) (Ii fun i j=>.int (i+j)):=Ij fun _ _ _ _ _ _ _ q=>add_int q
theorem Me:eY X (binaryOp .Sub) (Ii fun i j=>.int (i-j)):=Ij fun _ _ _ _ _ _ _ q=>sub_int q
theorem Mf:eY X (binaryOp .Mult) (rI Ez fun i j=>.int (i*j)):=PL fun _ _ _ _ _ _ _ hc q=>mul_int q hc.ok
theorem Ik:eY X (binaryOp .Mod) (rI (fun _ j=>j≠0) fun i j=>.int (i.fmod j)):=PL fun _ _ _ _ _ _ _ hc q=>mod_int' hc q
theorem Mg:eY X (binaryOp .Pow) (rI Ey fun i j=>.int (i ^ j.toNat)):=PL fun _ _ _ _ _ _ _ hc q=>pow_int_small hc.1 hc.2.1 hc.2.2 q
theorem Il:eY X (inplaceOp .Add) (Ii fun i j=>.int (i+j)):=Ij fun _ _ _ _ _ _ _ q=>iadd_int q
theorem Im:eY X (inplaceOp .Sub) (Ii fun i j=>.int (i-j)):=Ij fun _ _ _ _ _ _ _ q=>isub_int q
theorem unI{f:Z2->Sem Z2}{g:Int->Int}(rule:∀(i:Int)(t:Tok)(s:Z3)(Q:ZT)(E:ZT),Q (.int (g i) s.toks) {s with toks:=s.toks+1}->wpAny (model X.prog X.w) X.A (f (.int i t)) Q E s):
  Uh X f (rU fun i=>.int (g i)):=by
 intro ae s σ H x v Q I rx h;obtain⟨i,rfl,q⟩:=h;obtain⟨t,rfl⟩:=rx;exact rule i t s _ _ ⟨.int (g i),H,I.tok _,⟨_,rfl⟩,q⟩
theorem Mh:Uh X (unaryOp .USub) (rU fun i=>.int (-i)):=unI fun _ _ _ _ _ q=>neg_int q
end
section
variable{X:Cx}{a b c:Expr}{ta tb tc:TE}{pos:Pos}
theorem EA{ae:ZV}{σ:St}{H:Hp}{s:Z3}{Q:VK}{k k':Bool}(I:aX X ae σ H s)(q:Q (.bl k) H)(e:k=k'):EP X ae σ Q (.bool k') s:=by subst e;exact⟨.bl k,H,I,rfl,q⟩
theorem PN:eY X (compareOp .Lt) (Ii fun i j=>.bl (decide (i<j))):=Mc fun _ _ _ _ _ _ _ q=>lt_int q
theorem PQ:eY X (compareOp .LtE) (Ii fun i j=>.bl (decide (i<=j))):=Mc fun _ _ _ _ _ _ _ q=>le_int q
theorem PR:eY X (compareOp .Gt) (Ii fun i j=>.bl (decide (j<i))):=Mc fun _ _ _ _ _ _ _ q=>gt_int q
theorem Mi:eY X (compareOp .Is) (fun x y H Q=>y=.dg/\Q (.bl (decide (x=.dg))) H):=by
 intro ae s σ H x y v u Q I rx ry h;obtain⟨rfl,q⟩:=h;cases ry;refine is_none_gen (EA I q ?_);cases x<;>first
  |(cases rx;rfl)
  |(obtain⟨t,rfl⟩:=rx;rfl)
theorem Io:eY X (compareOp .IsNot) (fun x y H Q=>y=.dg/\Q (.bl (!decide (x=.dg))) H):=by
 intro ae s σ H x y v u Q I rx ry h;obtain⟨rfl,q⟩:=h;cases ry;refine isnot_none_gen (EA I q ?_);cases x<;>first
  |(cases rx;rfl)
  |(obtain⟨t,rfl⟩:=rx;rfl)
theorem eY.or{f:Z2->Z2->Sem Z2}{r r':R2}(h:eY X f r)(h':eY X f r'):eY X f (fun x y H Q=>r x y H Q\/r' x y H Q):=by
 intro ae s σ H x y v u Q I rx ry q;rcases q with q|q
 .exact h ae s σ H x y v u Q I rx ry q
 .exact h' ae s σ H x y v u Q I rx ry q
theorem EB(b:Expr){op:CmpOp}(h:op≠.In:=by decide)(h2:op≠.NotIn:=by decide):behindInMarks op b=false:=by
 have e1:(op==CmpOp.In)=false:=by cases op<;>first|rfl|exact absurd rfl h
 have e2:(op==CmpOp.NotIn)=false:=by cases op<;>first|rfl|exact absurd rfl h2
 cases b<;>simp[behindInMarks,e1,e2]
theorem Ip{op:CmpOp}{r:R2}(ho:eY X (compareOp op) r)(ha:PE X a ta)(hb:PE X b tb)(hm:behindInMarks op b=false):PE X (.Compare a [op] [b] pos) (OW r ta tb):=by intro ae s σ H Q I h;exact wpAny_Compare1 (Mb ha hb I h fun v u s2 x y H2 I2 rx ry q=>ho ae s2 σ H2 x y v u Q I2 rx ry q) hm
def Ky(t:TE):TT:=fun σ H Q=>t σ H fun x H'=>∃k,x=.bl k/\Q k H'
theorem Iq{op:CmpOp}{r:R2}(ho:eY X (compareOp op) r)(ha:PE X a ta)(hb:PE X b tb)(hm:behindInMarks op b=false):PT X (.Compare a [op] [b] pos) (Ky (OW r ta tb)):=by
 intro ae s σ H Q I h;refine wpAny_isTrue_Compare1 (dJ (ha ae s σ H _ I h) fun v s1⟨x,H1,I1,r1,q1⟩=>dJ (hb ae s1 σ H1 _ I1 q1) fun u s2⟨y,H2,I2,r2,q2⟩=>
  dJ (ho ae s2 σ H2 x y v u _ I2 r1 r2 q2) fun c s3⟨z,H3,I3,r3,k,e,q3⟩=>?_) hm
 subst e;cases r3;exact WB ⟨H3,I3,q3⟩
def Ag(r r':R2)(ta tb tc:TE):TE:=fun σ H Q=>ta σ H fun x H1=>tb σ H1 fun y H2=>r x y H2 fun z H3=>∃k,z=.bl k /\
 (if k=true then tc σ H3 fun w' H4=>r' y w' H4 Q else Q (.bl false) H3)
theorem EC{op Mj:CmpOp}{r r':R2}(ho:eY X (compareOp op) r)(vC:eY X (compareOp Mj) r')(ha:PE X a ta)(hb:PE X b tb)(hc:PE X c tc)(hm:lastMarks [op,Mj] [b,c]=false:=by with_unfolding_all rfl):PT X (.Compare a [op,Mj] [b,c] pos) (Ky (Ag r r' ta tb tc)):=by
 intro ae s σ H Q I h;refine isTrue_chain (dJ (ha ae s σ H _ I h) fun v s1⟨x,H1,I1,r1,q1⟩=>test_link (dJ (hb ae s1 σ H1 _ I1 q1) fun u s2⟨y,H2,I2,r2,q2⟩=>
  dJ (ho ae s2 σ H2 x y v u _ I2 r1 r2 q2) fun d s3⟨z,H3,I3,r3,k,e,q3⟩=>?_)) hm
 subst e;cases r3;refine WB ?_;cases k with
 |false=>
  obtain⟨k',e',q'⟩:=q3;cases e';exact ite_ff ⟨H3,I3,q'⟩
 |true=>
  refine ite_tt (test_last (dJ (hc ae s3 σ H3 _ I3 q3) fun w' s4⟨z',H4,I4,r4,q4⟩=>dJ (vC ae s4 σ H4 y z' u w' _ I4 r2 r4 q4) fun d' s5⟨z2,H5,I5,r5,k2,e2,q5⟩=>?_));subst e2;cases r5;exact WB ⟨H5,I5,q5⟩
theorem nr:(sizeLine:Nat)<2 ^ 63:=by rw[Vv];decide
theorem Ah:eY X (binaryOp .Add) (fun x y H Q=>∃i j,x=.str i/\y=.str j/\i.length+j.length<=sizeLine/\Q (.str (i++j)) H):=by intro ae s σ H x y v u Q I rx ry h;obtain⟨i,j,rfl,rfl,hz,q⟩:=h;obtain⟨t,rfl⟩:=rx;obtain⟨t',rfl⟩:=ry;exact add_str (fun t' tk=>⟨.str (i++j),H,I.tok _,⟨_,rfl⟩,q⟩) hz
theorem vals1{x:V}{us:ZY}(r:bA [x] us):∃u,us=[u]/\bK x u:=by
 cases r with
 |cons r1 r2=>cases r2;exact⟨_,rfl,r1⟩
theorem vals2{x y:V}{us:ZY}(r:bA [x,y] us):∃u w',us=[u,w']/\bK x u/\bK y w':=by
 cases r with
 |cons r1 r2=>
  cases r2 with
  |cons r3 r4=>cases r4;exact⟨_,_,rfl,r1,r3⟩
theorem ED:cz X (.builtin "abs") (fun xs H Q=>∃i,xs=[.int i]/\Q (.int (if i<0 then -i else i)) H):=by intro ae s σ H xs us Q I r h;obtain⟨i,rfl,q⟩:=h;obtain⟨u,rfl,t,rfl⟩:=vals1 r;exact call_abs_int fun u tk=>⟨.int (if i<0 then -i else i),H,I.tok _,⟨_,rfl⟩,q⟩
end
structure Mk(h:Heap)(x dx C:Z4)(mA:ZU):Prop where
 obj:h.get? x=some (W.instObj C dx)
 ns:h.Ns1 dx mA
 ne:dx≠x
theorem C1{h:Heap}{dx:Z4}{mA:ZU}(n:h.Ns1 dx mA):∃od,h.get? dx=some od/\∀name,W.lookIn name od=some (mA name):=by
 obtain⟨o,es,ep,ho,hd,hk,_,hm⟩:=n;refine⟨o,ho,fun name=>?_⟩;have e:=hm name;unfold nsFind findBy at e;rw[<-Array.find?_toList]at e;unfold W.lookIn;rw[hd];dsimp only;split
 .rename_i y q;rw[q]at e;exact W2 some e
 .rename_i q;rw[q]at e;have a:es.toList.any (·.refKey)=false:=by rw[List.any_eq_false];intro y hy;obtain⟨z,t,Ui⟩:=hk y (Array.mem_toList_iff.mp hy);simp[DictEntry.refKey,Ui]
  have a':¬ es.toList.any (·.refKey)=true:=by rw[a];exact VM
  rw[VI a'];exact W2 some e
theorem Mk.look{h:Heap}{x dx C:Z4}{mA:ZU}(I:Mk h x dx C mA):∃od,W.InstAt h x (W.instObj C dx) C (some od)/\∀name,W.lookIn name od=some (mA name):=
 let⟨od,ho,hl⟩:=C1 I.ns
 ⟨od,⟨I.obj,rfl,rfl,ho⟩,hl⟩
theorem sE.some_of{v:V}{o:ZZ}(r:sE (some v) o):∃u,o=some u/\bK v u:=by
 cases o with
 |none=>exact(show False from r).elim
 |some u=>exact⟨u,rfl,r⟩
section
variable{P:Z6}{w:World}{H H':Hp}{h h':Heap}{a C dx:Z4}{fs fs':List (Str×V)}
theorem Ir(dq:jM P w H h)(e:H a=some (.ins C dx fs)):∃mA,Mk h a dx C mA/\(∀f,sE (fs.lookup f) (mA f))/\PySem.Within mA (fs.map (·.1))/\fs.length<=1000/\H dx=some (.own a):=by
 obtain⟨d,z,ne,ob,mA,n,r,q⟩:=(show dE P w H h a (.ins C dx fs)from dq a _ e)
 exact⟨mA,⟨ob,n,ne⟩,r,q,z,d⟩
end
structure Uj(K:ZW)(C:Z4):Prop where
 pg:W.plainGet K C Str.empty=true
 hd:W.hasDictIn K C=true
 po:W.plainOver K C=true
 sa:W.findIn K (.ref C) "__setattr__" = some (some (.builtin "object.__setattr__"))
theorem Uj.get{K:ZW}{C:Z4}(c:Uj K C)(f:Str):W.plainGet K C f=true:=c.pg
section
variable{X:Cx}{ae:ZV}{σ:St}{H:Hp}{s:Z3}{A:Z5}{E:ZT}{Q:ZT}{c:Z2}{b:Bool}
inductive qG(K:ZW)(H:Hp):V->Z2->Prop where
 |dg:qG K H .dg (.type "NoneType")
 |bl (x:Bool):qG K H (.bl x) (.type "bool")
 |int (i:Int):qG K H (.int i) (.type "int")
 |str (x:Str):qG K H (.str x) (.type "str")
 |rL (x:UInt64):qG K H (.rL x) (.type "float")
 |lst {a:Z4} {xs:List V} (e:H a=some (.lst xs)):qG K H (.ref a) (.type "list")
 |nk {a:Z4} {o:Obj} {xs:List V} (e:H a=some (.nk o (.lst xs))):qG K H (.ref a) (.type "list")
 |tup {a:Z4} {xs:List V} (e:H a=some (.tup xs)):qG K H (.ref a) (.type "tuple")
 |dK {a:Z4} {aY:List (e8×V)} (e:H a=some (.dK aY)):qG K H (.ref a) (.type "dict")
 |dT {a:Z4} {aY:List (List e8×V)} (e:H a=some (.dT aY)):qG K H (.ref a) (.type "dict")
 |ins {a C dx:Z4} {fs:List (Str×V)} (e:H a=some (.ins C dx fs)) (cl:Uj K C) (ha:W.findIn K (.ref C) "__class__" = some (some (.builtin "object.__class__")))
   (hn:W.specialIn K (.builtin "object.__class__") "__get__" = some (some (.builtin "getset_descriptor.__get__"))) (htk:W.takesIn K (.builtin "object.__class__")=some true)
   (hm:W.mroIn K C (.type "object")=some true):qG K H (.ref a) (.ref C)
theorem gp{x:V}{u t:Z2}(I:aX X ae σ H s)(rx:bK x u)(ty:qG X.K H x t)(e:W.kitOne X.K t c=some b)(h:∀tk,Q (.bool b) {s with toks:=tk}):
  wpAny (model X.prog X.w) A (call (.builtin "isinstance") [u,c]) Q E s:=by
 cases ty with
 |dg=>cases(show u=Value.none from rx);exact Wq W.kitx_none I.sF True.intro e (fun z=>nomatch z) h
 |bl y=>cases(show u=Value.bool y from rx);exact Wq W.kitx_bool I.sF True.intro e (fun z=>nomatch z) h
 |int i=>obtain⟨t,q⟩:=(show ∃t,u=Value.int i t from rx);cases q;exact Wq W.kitx_int I.sF True.intro e (fun z=>nomatch z) h
 |str y=>obtain⟨t,q⟩:=(show ∃t,u=Value.str y t from rx);cases q;exact Wq W.kitx_str I.sF True.intro e (fun z=>nomatch z) h
 |rL y=>obtain⟨t,q⟩:=(show ∃t,u=Value.float y t from rx);cases q;exact Wq W.kitx_float I.sF True.intro e (fun z=>nomatch z) h
 | @lst a xs ea=>
  cases(show u=Value.ref a from rx);obtain⟨_,_,n,_,h1⟩:=(show dE X.prog X.w H s.heap a (.lst xs)from I.dq a _ ea)
  exact Wq Zo I.sF ⟨_,h1,rfl⟩ e (fun z=>nomatch z) h
 | @nk a ob xs ea=>
  cases(show u=Value.ref a from rx);obtain⟨_,_,_,n,_,h1⟩:=(show dE X.prog X.w H s.heap a (.nk ob (.lst xs))from I.dq a _ ea)
  exact Wq Zo I.sF ⟨_,h1,rfl⟩ e (fun z=>nomatch z) h
 | @tup a xs ea=>
  cases(show u=Value.ref a from rx);obtain⟨_,_,_,p⟩:=(show dE X.prog X.w H s.heap a (.tup xs)from I.dq a _ ea)
  obtain⟨o,h1,h2,_⟩:=p;exact Wq Zh I.sF ⟨o,h1,h2⟩ e (fun z=>nomatch z) h
 | @dK a aY ea=>
  cases(show u=Value.ref a from rx);obtain⟨_,_,vs,_,p⟩:=(show dE X.prog X.w H s.heap a (.dK aY)from I.dq a _ ea)
  obtain⟨o,es,ep,h1,h2,_⟩:=p;exact Wq Zp I.sF ⟨o,h1,h2.1⟩ e (fun z=>nomatch z) h
 | @dT a aY ea=>
  cases(show u=Value.ref a from rx);obtain⟨_,_,xs,_,o,es,ep,h1,h2,_⟩:=(show dE X.prog X.w H s.heap a (.dT aY)from I.dq a _ ea)
  exact Wq Zp I.sF ⟨o,h1,h2.1⟩ e (fun z=>nomatch z) h
 | @ins a C dx fs ea cl ha hn htk hm=>
  cases(show u=Value.ref a from rx);obtain⟨mA,O,_⟩:=Ir I.dq ea;obtain⟨od,J,_⟩:=O.look;exact Wq (W.kitx_own (cl.get _) cl.hd ha hn htk hm) I.sF J e (fun z=>nomatch z) h
end
structure gK(k:Nat)(A:Z5):Prop where
 hd:A.handled=none
 dp:A.depth+3*k+5<recursionLimit
 un:A.units+16*k+200<cLine
theorem gK.mono{j k:Nat}{A:Z5}(r:gK k A)(h:j<=k):gK j A:=⟨r.hd,by have:=r.dp;lia,by have:=r.un;lia⟩
theorem gK.deeper{k:Nat}{A:Z5}(r:gK (k+1) A)(env:Env):gK k (A.deeper env):=
 ⟨r.hd,by have:=r.dp;show A.depth+1+3*k+5<_;lia,by have:=r.un;show A.units+3+16*k+200<_;lia⟩
theorem gK.depth{k:Nat}{A:Z5}(r:gK k A):A.depth<recursionLimit:=by have:=r.dp;lia
theorem gK.units{k:Nat}{A:Z5}(r:gK k A):A.units+64<cLine:=by have:=r.un;lia
def Uk:TA:=fun _ H Q=>Q [] H
def PU(ta:TE)(tr:TA):TA:=fun σ H Q=>ta σ H fun x H1=>tr σ H1 fun xs H2=>Q (x::xs) H2
section
variable{X:Cx}{e:Expr}{es:List Expr}{te:TE}{t:TA}{pos:Pos}
theorem EE:PA X [] Uk:=fun _ _ _ _ H Q I h=>Calls.spliced_nil ⟨[],H,I,.nil,h⟩
theorem wD(ha:PE X e te)(hr:PA X es t)(hs:starEach (e::es) X.env=(false,eval e X.env)::starEach es X.env:=by rfl):PA X (e::es) (PU te t):=by intro pos ae s σ H Q I h;rw[hs];show wpAny _ _ (spliced ((false,eval e X.env)::backTo pos (starEach es X.env))) _ _ s;refine Calls.spliced_cons (dJ (ha ae s σ H _ I h) fun u s1⟨x,H1,I1,r1,q1⟩=>?_);exact dJ (hr pos ae s1 σ H1 _ I1 q1) fun us s2⟨xs,H2,I2,r2,q2⟩=>⟨x::xs,H2,I2,.cons r1 r2,q2⟩
def Ul(t:TA):TE:=fun σ H Q=>t σ H fun xs H1=>xs.length<=sizeLine/\∀p,H1 p=none->Q (.ref p) (upd H1 p (.tup xs))
def Um(t:TA):TE:=fun σ H Q=>t σ H fun xs H1=>xs.length<=sizeLine/\∀p,H1 p=none->Q (.ref p) (upd H1 p (.lst xs))
theorem Ml{x1}(h:PA X es t):PE X (.Tuple es x1 pos) (Ul t):=by intro ae s σ H Q I hq;refine wpAny_Tuple_spliced (dJ (h pos ae s σ H _ I hq) fun us s1⟨xs,H1,I1,r,z,q⟩=>⟨by rw[<-r.length];exact z,?_⟩);have hf:H1 s1.heap.objs.size=none:=I1.dq.fresh (VA _);refine⟨.ref s1.heap.objs.size,upd H1 s1.heap.objs.size (.tup xs),I1.laid (t':=s1.toks) (fun b u e=>Vm _ e) (VA _) ?_,rfl,q _ hf⟩;exact⟨z,us,r,⟨_,VL _ rfl,rfl,_,rfl⟩⟩
theorem Mm(h:PA X es t):PE X (.List es pos) (Um t):=by intro ae s σ H Q I hq;refine wpAny_List_spliced (dJ (h pos ae s σ H _ I hq) fun us s1⟨xs,H1,I1,r,z,q⟩=>⟨by rw[<-r.length];exact z,?_⟩);have hf:H1 s1.heap.objs.size=none:=I1.dq.fresh (VA _);refine⟨.ref s1.heap.objs.size,upd H1 s1.heap.objs.size (.lst xs),I1.laid (t':=s1.toks) (fun b u e=>Vm _ e) (VA _) ?_,rfl,q _ hf⟩;exact⟨z,us,0,r,VL _ rfl⟩
end
abbrev Sp:=List V->Hp->VK->XK->Prop
abbrev BB:=List Env->Hp->Z3->XK->Z2->Z3->Prop
structure Ai(P:Z6)(w:World)(K:ZW)(mg:ZU)(base:Heap)(A:Z5)(outer:List Env)(s:Z3)(H:Hp):Prop where
 frames:A.frames=some outer
 mod:Mod K mg base
 bs:∀b o,base.get? b=some o->s.heap.get? b=some o/\H b=none
 HJ:base.objs.size<=s.heap.objs.size
 kz:s.heap.FunFrames base outer
 Ej:∀b∈iG outer,H b=none
 dq:jM P w H s.heap
 bare:AllBare s.gens
def CE(outer:List Env)(P:Z6)(w:World)(H:Hp)(s:Z3)(Q:VK)(u:Z2)(s':Z3):Prop:=
 ∃v H',s'.os=s.os/\AllBare s'.gens/\Un (iG outer) [] H H' s.heap s'.heap/\jM P w H' s'.heap/\bK v u/\Q v H'
def CR(CX:BB)(outer:List Env)(P:Z6)(w:World)(H:Hp)(s:Z3)(Q:VK)(E:XK)(r:Result)(s':Z3):Prop:=
 match r with
 |.ok (.ret u)=>CE outer P w H s Q u s'
 |.ok _=>False
 |.error e=>CX outer H s E e s'
structure kE(P:Z6)(w:World)(K:ZW)(mg:ZU)(base:Heap)(CX:BB)(k:Nat)(f:Z4)(fd:FuncData)(ps:Z1)(sp:Sp):Prop where
 len:∀vs H Q E,sp vs H Q E->vs.length=ps.length
 run:∀(A:Z5)(outer:List Env)(s:Z3)(H:Hp)(args:Args)(us:ZY)(vs:List V)(Q:VK)(E:XK),gK k A->Ai P w K mg base A outer s H->BindsTo s fd args (ps.zip us)->bA vs us->sp vs H Q E ->
  codeAny (model P w) A (.call (.ref f) args) (CR CX outer P w H s Q E) s
theorem kE.imp{P:Z6}{w:World}{K:ZW}{mg:ZU}{base:Heap}{CX:BB}{k:Nat}{f:Z4}{fd:FuncData}{ps:Z1}{sp sp':Sp}(F:kE P w K mg base CX k f fd ps sp)(h:∀vs H Q E,sp' vs H Q E->sp vs H Q E):kE P w K mg base CX k f fd ps sp':=
 ⟨fun vs H Q E q=>F.len vs H Q E (h _ _ _ _ q),fun A outer s H args us vs Q E hr he hb hv hs=>F.run A outer s H args us vs Q E hr he hb hv (h _ _ _ _ hs)⟩
section
variable{X:Cx}{ae:ZV}{σ:St}{H:Hp}{s s':Z3}
theorem aX.Mn(I:aX X ae σ H s):Ai X.prog X.w X.K X.mg X.base X.A X.stack s H:=
 ⟨I.ok.frames,I.ok.mod,I.bs,V! I.ok.HJ I.sz,I.stack,I.wA,I.dq,I.bare⟩
theorem aX.after{Q:VK}{u:Z2}(I:aX X ae σ H s)(h:CE X.stack X.prog X.w H s Q u s'):EP X ae σ Q u s':=by obtain⟨v,H',os,bare,un,dq,r,q⟩:=h;obtain⟨hh,g,d,t,os'⟩:=s';obtain rfl:os'=s.os:=os;exact⟨v,H',I.call (h':=hh) (g':=g) (d':=d) (t':=t) (ch:=[]) un dq bare (fun b z=>absurd z (by simp)),r,q⟩
end
def PV(sp:Sp)(uZ:List V)(E:XK)(t:TA):TE:=fun σ H Q=>t σ H fun vs H1=>sp (vs++uZ) H1 Q E
def Binds(K:ZW)(fd:FuncData)(ps:Z1)(ds:ZY):Prop:=
 ∀(s:Z3)(us:ZY),K.In s.heap->(us++ds).length=ps.length->BindsTo s fd ⟨us,[]⟩ (ps.zip (us++ds))
theorem Binds.all{K:ZW}{fd:FuncData}{ps:Z1}(h:∀us:ZY,us.length=ps.length->bindArgs fd ⟨us,[]⟩=pure (ps.zip us)):Binds K fd ps []:=fun s us _ hl=>by rw[V3]at hl⊢;exact .of_eq (h us hl)
def Passes(CX:BB)(X:Cx)(E:XK):Prop:=∀(ae:ZV)(σ:St)(H:Hp)(s:Z3)(e:Z2)(s':Z3),aX X ae σ H s->CX X.stack H s E e s'->X.xe e s'
section
variable{X:Cx}{CX:BB}{k:Nat}{f C:Z4}{fd:FuncData}{ps:Z1}{sp:Sp}{uZ:List V}{ds:ZY}{E:XK}{x m:Str}{p pos apos:Pos}{e o:Expr}{es:List Expr}{ta:TE}{t:TA}
theorem Mo{ae:ZV}{σ:St}{H:Hp}{s:Z3}{Q:VK}{us:ZY}{vs:List V}(F:kE X.prog X.w X.K X.mg X.base CX k f fd ps sp)(hr:gK k X.A)(hb:Binds X.K fd ps ds)(hd:bA uZ ds)(hx:Passes CX X E)(I:aX X ae σ H s)(r:bA vs us)(h:sp (vs++uZ) H Q E):wpAny (model X.prog X.w) X.A (call (.ref f) us) (EP X ae σ Q) X.xe s:=by
 have r2:bA (vs++uZ) (us++ds):=r.append hd;have hl:(us++ds).length=ps.length:=by rw[<-r2.length];exact F.len _ _ _ _ h
 refine wpAny_call (XR (F.run X.A X.stack s H ⟨us,[]⟩ (us++ds) (vs++uZ) Q E hr I.Mn (hb s us I.sF hl) r2 h) fun r s' hq=>?_);cases r with
 |error e=>exact hx ae σ H s e s' I hq
 |ok fl=>
  cases fl with
  |ret u=>exact I.after hq
  |next=>exact False.elim hq
  |brk=>exact False.elim hq
  |cont=>exact False.elim hq
theorem Iu(F:kE X.prog X.w X.K X.mg X.base CX k f fd ps sp)(hr:gK k X.A)(hg:Gl X x)(hm:X.mg x=some (.ref f))(hk:W.keepIn X.K (.ref f)=true)(hb:Binds X.K fd ps ds)(hd:bA uZ ds)(hx:Passes CX X E)(ha:PA X (e::es) t)(u3:(x==("__debug__":Str))=false:=by decide)(he:starEach (e::es) X.env=(false,eval e X.env)::starEach es X.env:=by rfl)(m6:(backTo pos (starEach es X.env)).any (·.1)=false:=by rfl):
  PE X (.Call (.Name x p) (e::es) [] pos) (PV sp uZ E t):=by
 intro ae s σ H Q I h;refine Xu (l! I hg hm ?_ u3);refine Yi (h₀:=X.base) I.ok.mod.Ku hk (dJ (ha pos ae s σ H _ I h) fun us s1⟨vs,H1,I1,r,q⟩=>⟨I1.sF,?_⟩) he m6;exact Mo F hr hb hd hx I1 r q
end
structure gY(N P:Z1)(sc:Scope):Prop where
 kind:sc.kind=.function
 co:sc.isCoroutine=false
 gen:sc.isGenerator=false
 nd:N.Nodup
 pre:N.take P.length=P
 par:∀x∈P,sc.names.lookup x=some .local\/sc.names.lookup x=some .cell
 Mp:∀y∈sc.names,y.2≠.free
theorem vE{kindOf:Str->Option NameKind}{x:Str}:∀{binds:List (Str×Z2)}{m:ZU},(∀v,(x,v) ∉ binds)->bindL kindOf binds m x=m x
 |[],_,_=>rfl
 |(n,v)::r,m,h=>by
  unfold bindL;rw[vE fun w hw=>h w (VN _ hw)];split
  .have:x≠n:=by rintro rfl;exact h v VS
   simp[this]
  .rfl
theorem vF{kindOf:Str->Option NameKind}{x:Str}:∀{binds:List (Str×Z2)}{m:ZU},(∀v,(x,v) ∉ binds)->bindC kindOf binds m x=m x
 |[],_,_=>rfl
 |(n,v)::r,m,h=>by
  unfold bindC;rw[vF fun w hw=>h w (VN _ hw)];split
  .rfl
  .have:x≠n:=by rintro rfl;exact h v VS
   simp[this]
theorem vG{kindOf:Str->Option NameKind}{x:Str}{v:Z2}:∀{P:Z1}{vs:ZY}{i:Nat}{m:ZU},P.Nodup->P[i]?=some x->vs[i]?=some v->kindOf x=some .local ->
  bindL kindOf (P.zip vs) m x=some v
 |[],_,_,_,_,h,_,_=>by simp at h
 |_::_,[],_,_,_,_,h,_=>by simp at h
 |p::P,w::vs,0,m,nd,h1,h2,hk=>by simp at h1 h2;subst h1;subst h2;show bindL kindOf ((p,w)::P.zip vs) m p=_;unfold bindL;rw[vE fun v hv=>(XT.mp nd).1 (Ys hv).1,VD hk];simp
 |p::P,w::vs,i+1,m,nd,h1,h2,hk=>by show bindL kindOf ((p,w)::P.zip vs) m x=_;unfold bindL;exact vG (i:=i) (XT.mp nd).2 (by simpa using h1) (by simpa using h2) hk
theorem vH{kindOf:Str->Option NameKind}{x:Str}{v:Z2}:∀{P:Z1}{vs:ZY}{i:Nat}{m:ZU},P.Nodup->P[i]?=some x->vs[i]?=some v->kindOf x≠some .local ->
  bindC kindOf (P.zip vs) m x=some v
 |[],_,_,_,_,h,_,_=>by simp at h
 |_::_,[],_,_,_,_,h,_=>by simp at h
 |p::P,w::vs,0,m,nd,h1,h2,hk=>by simp at h1 h2;subst h1;subst h2;show bindC kindOf ((p,w)::P.zip vs) m p=_;unfold bindC;rw[vF fun v hv=>(XT.mp nd).1 (Ys hv).1,VI hk];simp
 |p::P,w::vs,i+1,m,nd,h1,h2,hk=>by show bindC kindOf ((p,w)::P.zip vs) m x=_;unfold bindC;exact vH (i:=i) (XT.mp nd).2 (by simpa using h1) (by simpa using h2) hk
def start(N:Z1)(vs:List V):St:=vs.map some++List.replicate (N.length-vs.length) none
def jr(CX:BB)(P:Z6)(w:World)(K:ZW)(mg:ZU)(base:Heap)(N:Z1)(qual:Str)(scope:Scope)(f:Z4)(cd:Z2)(A:Z5)(outer:List Env)(s:Z3)(H:Hp)(E:XK):Cx where
 prog:=P
 w:=w
 K:=K
 mg:=mg
 base:=base
 A:=A.deeper (envOfC qual scope s.heap.objs.size f cd)
 N:=N
 s₀:=s
 H₀:=H
 env:=envOfC qual scope s.heap.objs.size f cd
 outer:=outer
 stack:=envOfC qual scope s.heap.objs.size f cd::outer
 ex:=[]
 calm:=true
 fn:=fun _=>true
 pn:=[]
 xe:=fun e s'=>wpAny (model P w) (A.deeper (envOfC qual scope s.heap.objs.size f cd)) (leaving (envOfC qual scope s.heap.objs.size f cd) e) (fun _ Sr=>CX outer H s E e Sr) (fun e' Sr=>CX outer H s E e' Sr) s'
theorem yo{sc:Scope}{n:Nat}{x:Str}(h:sc.names.lookup x=some .cell):∃c,(cellsFrom n sc.names []).lookup x=some c:=by have q:=X0 sc.names n [] (.inl h);exact Option.isSome_iff_exists.mp q
theorem vI{CX:BB}{P:Z6}{w:World}{K:ZW}{mg:ZU}{base:Heap}{N ps:Z1}{qual:Str}{scope:Scope}{f:Z4}{cd:Z2}{A:Z5}{outer:List Env}{s s1:Z3}{H:Hp}{E:XK}{us:ZY}{vs:List V}(S:gY N ps scope)(hd:A.handled=none)(e0:Ai P w K mg base A outer s H)(hl:vs.length=ps.length)(r:bA vs us)(x:InCallC s s.heap.objs.size (bindL (envOfC qual scope s.heap.objs.size f cd).kindOf (ps.zip us) fun _=>none) (cellsFrom (s.heap.objs.size+1) scope.names []) (bindC (envOfC qual scope s.heap.objs.size f cd).kindOf (ps.zip us) fun _=>none) s1):
  aX (jr CX P w K mg base N qual scope f cd A outer s H E) [] (start N vs) H s1:=by
 have m6:ps.length<=N.length:=by have:=W2 List.length S.pre;rw[Y4]at this;lia
 obtain⟨h1,tk,rfl,hk⟩:=x.done;have PX:∀b:Z4,b ∉ (jr CX P w K mg base N qual scope f cd A outer s H E).ex:=fun b z=>absurd (show b∈([]:Z0)from z) (by simp);refine⟨⟨e0.mod,S.kind,rfl,rfl,VA _,fun y z c h1 h2=>?_,fun y hy=>?_,fun y c _ h=>?_,fun _=>hd,Around.frames_deeper e0.frames,.inr ⟨rfl,rfl⟩,fun b z=>absurd z (PX b),e0.bs,e0.HJ,fun b _ _=>PX b,fun b z=>absurd z (PX b),e0.kz,e0.Ej⟩,
  rfl,e0.bare,Un.kept hk,⟨_,x.toInCall.ns,fun i y v h1 h2 h3=>?_⟩,fun y c h=>⟨_,x.cell y c h⟩,e0.dq.fresh (VA _),fun y c h=>?_,fun p hp=>absurd (show p∈([]:ZV)from hp) (by simp),e0.dq.kept hk,?_⟩
 .exact name_of_addr x.apart (WS h1) (WS h2)
 .have hy:scope.names.lookup y=some .cell\/scope.names.lookup y=some .free:=hy;rcases hy with hy|hy
  .exact yo hy
  .exact absurd rfl (S.Mp _ (WS hy))
 .exact Yn (x.above y c (WS h))
 .have hi:i<vs.length:=by
   unfold start at h2;by_cases hi:i<vs.length
   .exact hi
   .rw[VP (by simpa using hi)]at h2;rw[Wz]at h2;split at h2<;>cases h2
  have ha:vs[i]?=some v:=by
   unfold start at h2;rw[V0 (by simpa using hi),VG]at h2;cases e:vs[i]? with
   |none=>rw[e]at h2;cases h2
   |some a=>rw[e]at h2;cases h2;rfl
  obtain⟨u,hu,rv⟩:=r.get ha;have hp:ps[i]?=some y:=by rw[<-S.pre,List.getElem?_take_of_lt (by lia)];exact h1
  have ndP:ps.Nodup:=by rw[<-S.pre];exact S.nd.sublist (List.take_sublist _ _)
  refine⟨u,rv,?_⟩;rcases S.par y (Wb hp)with k|k
  .exact .inl ⟨k,vG ndP hp hu k⟩
  .obtain⟨c,e⟩:=yo (n:=s.heap.objs.size+1) k;refine .inr ⟨.inl k,c,e,?_⟩;have q:=x.cell y c e;rw[vH ndP hp hu (by show scope.names.lookup y≠_;rw[k];decide)]at q;exact q
 .exact e0.dq.fresh (Yn (x.above y c (WS h)))
 .unfold start;show _=N.length;rw[Vn,Vl,VU];lia
theorem PY{CX:BB}{P:Z6}{w:World}{K:ZW}{mg:ZU}{base:Heap}{k:Nat}{f:Z4}{name qual:Str}{params:Arguments}{body:List Stmt}{scope:Scope}{dV kV doc pm fV ct oc:Z2}{an od:Option Z4}{C2:Array (ZZ)}{N ps:Z1}{sp:Sp}(lk:K.lookup f=some ⟨oc,od,.func (W.fnOf name qual params body scope dV kV doc pm an fV ct),C2⟩)(zW:W.codeIn K fV qual=true)(S:gY N ps scope)(len:∀vs H Q E,sp vs H Q E->vs.length=ps.length)
  (yp:∀ (A:Z5) (outer:List Env) (s:Z3) (H:Hp) (vs:List V) (Q:VK) (E:XK),gK k (A.deeper (envOfC qual scope s.heap.objs.size f fV))->sp vs H Q E ->
   ∃t,kx (jr CX P w K mg base N qual scope f fV A outer s H E) body t/\t {nx:=fun _ H'=>Q .dg H',rt:=Q} (start N vs) H):
  kE P w K mg base CX (k+1) f (W.fnOf name qual params body scope dV kV doc pm an fV ct) ps sp:=by
 refine⟨len,fun A outer s H args us vs Q E hr e0 hb r Kz=>?_⟩;have hl:=len _ _ _ _ Kz;have KX:K.In s.heap:=e0.mod.Ku.keeps fun b o e=>(e0.bs b o e).1;have lim:s.heap.NoLimit:=e0.mod.nolimit.keeps fun b o e=>(e0.bs b o e).1;have EF:∀y∈ps.zip us,scope.names.lookup y.1=some .local\/(scope.names.lookup y.1=some .cell/\((cellsFrom (s.heap.objs.size+1) scope.names []).lookup y.1).isSome=true):=fun⟨n,v⟩hy=>by
  rcases S.par n (Ys hy).1 with q|q
  .exact .inl q
  .exact .inr ⟨q,X0 _ _ _ (.inl q)⟩
 refine ZN hr.depth (KX _ _ lk) rfl S.co S.gen rfl (Zi KX zW) (hb _ _ _ _ ?_);refine Y9 S.kind EF fun env he s1 x=>?_;subst he;refine⟨lim.keeps x.toInCall.keep,codeAny_func ?_⟩;obtain⟨t,ht,hq⟩:=yp A outer s H vs Q E (hr.deeper _) Kz;have I:aX (jr CX P w K mg base N qual scope f fV A outer s H E) [] (start N vs) H s1:=vI S hr.hd e0 hl r x;refine Wm (ht [] s1 (start N vs) H _ I hq) (fun fl s' hs=>?_) fun e s' hs=>hs;have fin:∀{σ':St}{H':Hp}{v:V}{u:Z2},aX (jr CX P w K mg base N qual scope f fV A outer s H E) [] σ' H' s'->bK v u->Q v H'->CE outer P w H s Q u s':=
  fun{σ' H' v u}J rv q=>⟨v,H',J.os,J.bare,J.base,J.dq,rv,q⟩
 cases fl with
 |ret u=>
  obtain⟨v,σ',H',J,rv,q⟩:=hs;exact fin J rv q
 |next=>
  obtain⟨σ',H',J,q⟩:=hs;exact fin (v:=V.dg) (u:=Value.none) J rfl q
 |brk=>
  obtain⟨_,_,_,q⟩:=hs;exact False.elim q
 |cont=>
  obtain⟨_,_,_,q⟩:=hs;exact False.elim q
section
variable{X:Cx}{x:Str}{p pos:Pos}{e:Expr}{es:List Expr}{t:TA}{id T:String}{r:List V->Hp->VK->Prop}
def tCB(r:List V->Hp->VK->Prop)(t:TA):TE:=fun σ H Q=>t σ H fun vs H1=>r vs H1 Q
theorem yq(hc:cz X (.builtin id) r)(hg:Gl X x)(hm:X.mg x=none)(hv:bootBuiltins x=some (.builtin id))(ha:PA X (e::es) t)(hn:x ≠ "__name__":=by decide)(u3:(x==("__debug__":Str))=false:=by decide)(he:starEach (e::es) X.env=(false,eval e X.env)::starEach es X.env:=by rfl)(m6:(backTo pos (starEach es X.env)).any (·.1)=false:=by rfl):PE X (.Call (.Name x p) (e::es) [] pos) (tCB r t):=by intro ae s σ H Q I h;refine Xu (kA I hg hm hv ?_ hn u3);exact PyProof.Rows.callWith_builtin1 (dJ (ha pos ae s σ H _ I h) fun us s1⟨vs,H1,I1,r1,q1⟩=>hc ae s1 σ H1 vs us Q I1 r1 q1) he m6
theorem C3(hc:cz X (.type T) r)(hg:Gl X x)(hm:X.mg x=none)(hv:bootBuiltins x=some (.type T))(ha:PA X (e::es) t)(hn:x ≠ "__name__":=by decide)(u3:(x==("__debug__":Str))=false:=by decide)(he:starEach (e::es) X.env=(false,eval e X.env)::starEach es X.env:=by rfl)(m6:(backTo pos (starEach es X.env)).any (·.1)=false:=by rfl):PE X (.Call (.Name x p) (e::es) [] pos) (tCB r t):=by intro ae s σ H Q I h;refine Xu (kA I hg hm hv ?_ hn u3);exact Ww (dJ (ha pos ae s σ H _ I h) fun us s1⟨vs,H1,I1,r1,q1⟩=>hc ae s1 σ H1 vs us Q I1 r1 q1) he m6
end
end L2
namespace HT
open PyProof.Rows
section
variable{prog:Z6}{w:World}{A:Z5}{E:ZT}{s:Z3}
theorem Iv{t b:Z4}{vs ws:ZY}{Q:ZT}(ht:IsTup s.heap t vs.toArray)(hb:IsTup s.heap b ws.toArray)(hv:vs≠[])(h1:ws=[]->Q (.ref t) s)(h2:ws≠[]->Q (.ref s.heap.objs.size) {s with heap:=s.heap.push {cls:=.type "tuple",data:=.seq (vs++ws).toArray} })(hsz:vs.length+ws.length<=sizeLine):wpAny (model prog w) A (binaryOp .Add (.ref t) (.ref b)) Q E s:=by
 obtain⟨⟨cls,dd,data,sl⟩,ho,hc,n,hd⟩:=id ht;obtain⟨⟨Uo,Ss,data2,PZ⟩,Mq,P0,n2,hd2⟩:=id hb;simp only at hc hd P0 hd2;subst hc hd P0 hd2;have e:vs.toArray++ws.toArray=(vs++ws).toArray:=by simp
 by_cases hw:ws=[]
 .exact ZD ⟨_,ho,rfl⟩ ⟨_,Mq,rfl⟩ YM Zd X1 XX (XS _ _)
   (tuple_addW1 t b vs.toArray ws.toArray n n2 dd Ss sl PZ (by simpa using hv) (by simp[hw])) ⟨ho,Mq,h1 hw⟩
 .refine ZD ⟨_,ho,rfl⟩ ⟨_,Mq,rfl⟩ YM Zd X1 XX (XS _ _)
   (tuple_addW2 t b vs.toArray ws.toArray n n2 dd Ss sl PZ (by simpa using hv) (by simpa using hw) (by rw[VF,VF];exact hsz)) ⟨ho,Mq,?_⟩
  rw[e];exact h2 hw
def gq(n d:Nat):Option Int->Nat
 |none=>d
 |some v=>if v<0 then(v+(n:Int)).toNat else min v.toNat n
theorem yr(n d:Nat):gq n d none=d:=rfl
theorem Iw(n d k:Nat):gq n d (some (k:Int))=min k n:=by show(if(k:Int)<0 then((k:Int)+(n:Int)).toNat else min (k:Int).toNat n)=min k n;rw[VI (by lia),WM]
theorem Mr(n d:Nat)(hd:d<=n)(o:Option Int):gq n d o<=n:=by
 cases o with
 |none=>exact hd
 |some v=>
  show(if v<0 then(v+(n:Int)).toNat else min v.toNat n)<=n;by_cases hv:v<0
  .rw[VD hv];lia
  .rw[VI hv];exact Nat.min_le_right _ _
theorem BC(v:Int)(n d:Nat):(if v<0 then max (v+(n:Int)) 0 else min v (n:Int))=((gq n d (some v):Nat):Int):=by
 show(if v<0 then max (v+(n:Int)) 0 else min v (n:Int))=(((if v<0 then(v+(n:Int)).toNat else min v.toNat n):Nat):Int);by_cases hv:v<0
 .simp only[VD hv];lia
 .simp only[VI hv];lia
theorem Aj(lo hi:Option Int)(n:Nat):Builtin.Slice.sliceAdjust lo hi 1 (n:Int)=(((gq n 0 lo:Nat):Int),((gq n n hi:Nat):Int)):=by
 have h1:¬ ((1:Int)<0):=by lia
 unfold Builtin.Slice.sliceAdjust;simp only[h1,XZ];refine Prod.ext ?_ ?_
 .cases lo with
  |none=>rfl
  |some v=>exact BC v n 0
 .cases hi with
  |none=>rfl
  |some v=>exact BC v n n
theorem Ak(i j:Nat):Builtin.Slice.slicePlaces (i:Int) (j:Int) 1=j-i:=by
 unfold Builtin.Slice.slicePlaces;have h1:(1:Int)>0:=by lia
 simp only[h1,YN,Int.ediv_one];split<;>lia
theorem sO{v:Z2}{o:Option Int}{Q:Option Int->Z3->Prop}(p:IsPart v o)(h:Q o s):wpAny (model prog w) A (Builtin.Slice.slicePartIndex v) Q E s:=by
 cases p with
 |none=>exact slicePart_none h
 |int i t=>exact slicePart_int h
theorem oZ{sl:Z4}{vl vu:Z2}{lo hi:Option Int}{n:Nat}{Q:Int×Int×Nat->Z3->Prop}(hs:s.heap.IsSliceOf sl vl vu .none)(pl:IsPart vl lo)(pu:IsPart vu hi)(h:Q (((gq n 0 lo:Nat):Int),1,gq n n hi-gq n 0 lo) s):wpAny (model prog w) A (Builtin.Slice.sliceApplied (.ref sl) (pure (n:Int))) Q E s:=by obtain⟨os,P_,hcs,Su⟩:=id hs;unfold Builtin.Slice.sliceApplied Builtin.Slice.sliceFields;refine Vj (Vj (V_ P_ Su (x:=vl) rfl (Vj (V_ P_ Su (x:=vu) rfl (Vj (V_ P_ Su (x:=.none) rfl (VC ?_)))))));refine Vj (slicePart_none ?_);show wpAny _ _ (if((1:Int)==0)=true then _ else _) _ _ s;rw[VI (by decide)];refine Vj (sO pl (Vj (sO pu (Vj (VC ?_)))));show wpAny _ _ (match Builtin.Slice.sliceAdjust lo hi 1 (n:Int) with|(lo,hi)=>pure (lo,(1:Int),Builtin.Slice.slicePlaces lo hi 1)) _ _ s;rw[Aj lo hi n];show wpAny _ _ (pure (((gq n 0 lo:Nat):Int),(1:Int),Builtin.Slice.slicePlaces ((gq n 0 lo:Nat):Int) ((gq n n hi:Nat):Int) 1)) _ _ s;rw[Ak];exact VC h
theorem EG(xs:Array Z2)(i k:Nat):((List.range k).filterMap fun(m:Nat)=>xs[((i:Int)+(m:Int)*1).toNat]?).toArray=((xs.toList.drop i).take k).toArray:=by
 have e:(fun(m:Nat)=>xs[((i:Int)+(m:Int)*1).toNat]?)=fun m=>xs[i+m]?:=by
  funext m;have:((i:Int)+(m:Int)*1).toNat=i+m:=by lia
  rw[this]
 rw[e];have:=pick_run xs i k;rw[List.filterMap_map]at this;have e2:((fun x=>xs[x]?) ∘ fun x=>i+x)=fun m=>xs[i+m]?:=rfl;rw[e2]at this;rw[this]
theorem nX{t sl:Z4}{items:Array Z2}{vl vu:Z2}{lo hi:Option Int}{Q:ZT}(ht:IsTup s.heap t items)(hs:s.heap.IsSliceOf sl vl vu .none)(pl:IsPart vl lo)(pu:IsPart vu hi)(hw:¬ (gq items.size 0 lo=0/\gq items.size items.size hi=items.size))(h:Q (.ref s.heap.objs.size) {s with heap:=s.heap.push {cls:=.type "tuple",data:=.seq ((items.toList.drop (gq items.size 0 lo)).take (gq items.size items.size hi-gq items.size 0 lo)).toArray} })(hsz:items.size<=sizeLine):wpAny (model prog w) A (getItem (.ref t) (.ref sl)) Q E s:=by
 have BD:sizeOk (.seq ((items.toList.drop (gq items.size 0 lo)).take (gq items.size items.size hi-gq items.size 0 lo)).toArray):=by show((items.toList.drop (gq items.size 0 lo)).take (gq items.size items.size hi-gq items.size 0 lo)).toArray.size<=sizeLine;rw[VF,Y4,List.length_drop,WE];lia
 have hj:gq items.size items.size hi<=items.size:=Mr _ _ (VA _) hi;obtain⟨os,P_,hcs,Su⟩:=id hs;have hTs:s.TypeIs (.ref sl) "slice":=⟨os,P_,hcs⟩
 unfold getItem
 try with_reducible refine Xo ?_
 first|refine Vj (VC ?_)|skip
 refine Vj (wpAny_sequenceKey ht.typeIs (by decide) ?_);refine Vj (Wj (name:=Str.ofString "__getitem__") ht.typeIs Xv
  (Wr Xv ht.typeIs entry_tuple_getitem ?_ (args_tuple_getitem _ _)))
 show wpAny _ _ (Builtin.Tuple.tupleItemsOf (.ref t) >>= _) _ _ s;refine Vj (tupleItemsOf_ ht ?_);refine Vj (wpAny_typeOf hTs ?_);rw[VD (by decide)];refine Vj (oZ hs pl pu ?_);have hno:¬ ((((gq items.size 0 lo:Nat):Int)==0&&(1:Int)==1&&(gq items.size items.size hi-gq items.size 0 lo)==items.size)=true):=by intro q;rw[WV,WV]at q;have q1:((gq items.size 0 lo:Nat):Int)=0:=eq_of_beq q.1.1;have q2:gq items.size items.size hi-gq items.size 0 lo=items.size:=eq_of_beq q.2;exact hw ⟨by lia,by lia⟩
 show wpAny _ _ (if(((gq items.size 0 lo:Nat):Int)==0&&(1:Int)==1&&(gq items.size items.size hi-gq items.size 0 lo)==items.size)=true then _ else _) _ _ s;rw[VI hno,EG]
 first
  |exact Vj (m:=Builtin.Tuple.tupleExact _) (Wf (VC ⟨_,rfl,VC h⟩) BD)
  |exact Vj (m:=Builtin.Tuple.tupleExact _) (Wf (Vj (VC (VC ⟨_,rfl,VC h⟩))) BD)
  |exact Vj (Vj (m:=Builtin.Tuple.tupleExact _) (Wf (VC (VC ⟨_,rfl,VC h⟩)) BD))
  |exact Vj (Vj (m:=Builtin.Tuple.tupleExact _) (Wf (VC ⟨_,rfl,VC h⟩) BD))
end
end HT
namespace L2
open PySem.Spec PyProof.Rows
abbrev TO:=St->Hp->(Option Int->Hp->Prop)->Prop
def PO(X:Cx)(e:Option Expr)(t:TO):Prop:=
 ∀(ae:ZV)(s:Z3)(σ:St)(H:Hp)(Q:Option Int->Hp->Prop),aX X ae σ H s->t σ H Q ->
  wpAny (model X.prog X.w) X.A (evalPart e X.env) (fun u s'=>∃o H',aX X ae σ H' s'/\IsPart u o/\Q o H') X.xe s
def Iy:TO:=fun _ H Q=>Q none H
def P!(t:TE):TO:=fun σ H Q=>t σ H fun x H1=>∃i,x=.int i/\Q (some i) H1
section
variable{X:Cx}{e:Expr}{te:TE}{lo hi:Option Expr}{tl th:TO}{pos p2:Pos}
theorem Iz:PO X none Iy:=by intro ae s σ H Q I h;rw[Ze];exact VC ⟨none,H,I,.none,h⟩
theorem IA(h:PE X e te):PO X (some e) (P! te):=by intro ae s σ H Q I hw;rw[evalPart_some];refine dJ (h ae s σ H _ I hw) fun u s1⟨x,H1,I1,r1,q1⟩=>?_;obtain⟨i,rfl,q⟩:=q1;obtain⟨t,rfl⟩:=r1;exact⟨some i,H1,I1,.int i t,q⟩
def KA(X:Cx)(r:V->Option Int->Option Int->Hp->VK->Prop):Prop:=
 ∀(ae:ZV)(s:Z3)(σ:St)(H:Hp)(x:V)(v vl vu:Z2)(lo hi:Option Int)(sl:Z4)(Q:VK),aX X ae σ H s->bK x v->s.heap.IsSliceOf sl vl vu .none->IsPart vl lo->IsPart vu hi->r x lo hi H Q ->
  ∃T id,typeLookup (.type T) "__getitem__" = pure (some (.builtin id))/\s.TypeIs v T/\wpAny (model X.prog X.w) X.A (getItem v (.ref sl)) (EP X ae σ Q) X.xe s
theorem KA.or{r r':V->Option Int->Option Int->Hp->VK->Prop}(h:KA X r)(h':KA X r'):KA X (fun x lo hi H Q=>r x lo hi H Q\/r' x lo hi H Q):=by
 intro ae s σ H x v vl vu lo hi sl Q I rx hs pl pu q;rcases q with q|q
 .exact h ae s σ H x v vl vu lo hi sl Q I rx hs pl pu q
 .exact h' ae s σ H x v vl vu lo hi sl Q I rx hs pl pu q
def tSl(r:V->Option Int->Option Int->Hp->VK->Prop)(te:TE)(tl th:TO):TE:=fun σ H Q=>te σ H fun x H1=>tl σ H1 fun l H2=>th σ H2 fun u H3=>r x l u H3 Q
theorem EI{r:V->Option Int->Option Int->Hp->VK->Prop}(hr:KA X r)(he:PE X e te)(hl:PO X lo tl)(hu:PO X hi th):PE X (.Subscript e (.Slice lo hi none p2) pos) (tSl r te tl th):=by intro ae s σ H Q I h;refine Subscript_ (dJ (he ae s σ H _ I h) fun v s1⟨x,H1,I1,r1,q1⟩=>?_);refine wpAny_Slice (dJ (hl ae s1 σ H1 _ I1 q1) fun vl s2⟨l,H2,I2,pl,q2⟩=>dJ (hu ae s2 σ H2 _ I2 q2) fun vu s3⟨u,H3,I3,pu,q3⟩=>?_);rw[Ze];refine VC ?_;have I4:aX X ae σ H3 {s3 with heap:=s3.heap.push {cls:=.type "slice",data:=.fields #[vl,vu,.none]} }:=I3.kept (t':=s3.toks) fun b ob q=>Vm _ q;obtain⟨T,id,hT,ht,hg⟩:=hr ae {s3 with heap:=s3.heap.push {cls:=.type "slice",data:=.fields #[vl,vu,.none]} } σ H3 x v vl vu l u s3.heap.objs.size Q I4 r1 (Heap.IsSliceOf.new ..) pl pu q3;show wpAny (model X.prog X.w) X.A (subscriptTail e (.Slice lo hi none p2) v (.ref s3.heap.objs.size)) (EP X ae σ Q) X.xe {s3 with heap:=s3.heap.push {cls:=.type "slice",data:=.fields #[vl,vu,.none]} };exact tail_any (ops:=[.ref s3.heap.objs.size,v]) ht hT hg (by with_unfolding_all rfl)
def wF(xs:List V)(lo hi:Option Int):List V:=(xs.drop (HT.gq xs.length 0 lo)).take (HT.gq xs.length xs.length hi-HT.gq xs.length 0 lo)
theorem qf(xs:List V)(lo hi:Option Int):(wF xs lo hi).length<=xs.length:=by unfold wF;rw[Y4,List.length_drop];lia
def Uq(K:ZW):V->Option Int->Option Int->Hp->VK->Prop:=fun x lo hi H Q=>∃a xs,x=.ref a/\mY K H a xs /\
 ¬ (HT.gq xs.length 0 lo=0/\HT.gq xs.length xs.length hi=xs.length)/\∀p,H p=none->Q (.ref p) (upd H p (.tup (wF xs lo hi)))
theorem Ms:KA X (Uq X.K):=by
 intro ae s σ H x v vl vu lo hi sl Q I rx hs pl pu h;obtain⟨a,xs,rfl,hx,hw,q⟩:=h;cases rx;obtain⟨aV,r,ht,hz⟩:=I.tuple hx;have hlen:aV.toArray.size=xs.length:=by rw[VF];exact r.length.symm
 refine⟨"tuple",_,Xv.lookup,ht.typeIs,?_⟩;refine HT.nX ht hs pl pu (by rw[hlen];exact hw) ?_ (by rw[hlen];exact hz);rw[hlen];refine⟨.ref s.heap.objs.size,_,I.laid (t':=s.toks) (o:=.tup (wF xs lo hi)) (fun b ob q=>Vm _ q) (VA _) ?_,rfl,q _ (I.dq.fresh (VA _))⟩;exact⟨V! (qf xs lo hi) hz,_,(r.drop (HT.gq xs.length 0 lo)).take (HT.gq xs.length xs.length hi-HT.gq xs.length 0 lo),IsTup.new _ _⟩
def P?(K:ZW):R2:=fun x y H Q=>∃a b xs ys,x=.ref a/\y=.ref b/\mY K H a xs/\mY K H b ys/\xs≠[]/\xs.length+ys.length<=sizeLine /\
 (ys=[]->Q (.ref a) H)/\(ys≠[]->∀p,H p=none->Q (.ref p) (upd H p (.tup (xs++ys))))
theorem bA.wG{xs:List V}{us:ZY}(r:bA xs us):us=[]↔xs=[]:=by
 cases r with
 |nil=>simp
 |cons _ _=>simp
theorem IB:eY X (binaryOp .Add) (P? X.K):=by intro ae s σ H x y v u Q I rx ry h;obtain⟨a,b,xs,ys,rfl,rfl,ha,hb,hx,hz,q1,q2⟩:=h;cases rx;cases ry;obtain⟨aV,r1,p1,_⟩:=I.tuple ha;obtain⟨fY,r2,p2,_⟩:=I.tuple hb;refine HT.Iv p1 p2 (fun z=>hx (r1.wG.mp z)) (fun z=>⟨.ref a,H,I,rfl,q1 (r2.wG.mp z)⟩) (fun z=>?_) (by rw[<-r1.length,<-r2.length];exact hz);refine⟨.ref s.heap.objs.size,_,I.laid (t':=s.toks) (o:=.tup (xs++ys)) (fun b ob q=>Vm _ q) (VA _) ?_,rfl,q2 (fun w=>z (r2.wG.mpr w)) _ (I.dq.fresh (VA _))⟩;exact⟨by rw[Vn];exact hz,_,r1.append r2,IsTup.new _ _⟩
end
def yt(n:Nat)(i:Int):Option Nat:=if 0<=i then(if i<n then some i.toNat else none)else if -(n:Int)<=i then some (i+n).toNat else none
def jP{α:Type}(xs:List α)(i:Int):Option α:=(yt xs.length i).bind fun j=>xs[j]?
theorem BE{n:Nat}{i:Int}{j:Nat}(h:yt n i=some j):seqIndex? i n=some j/\j<n/\-(n:Int)<=i/\i<n:=by
 unfold yt at h;by_cases h0:0<=i
 .rw[VD h0]at h;by_cases h1:i<n
  .rw[VD h1]at h;have e:i.toNat=j:=VR h;exact⟨by rw[YS h0 h1,e],by lia,by lia,h1⟩
  .rw[VI h1]at h;cases h
 .rw[VI h0]at h;by_cases h1:-(n:Int)<=i
  .rw[VD h1]at h;have e:(i+n).toNat=j:=VR h;exact⟨by rw[YG (by lia) h1,e],by lia,h1,by lia⟩
  .rw[VI h1]at h;cases h
theorem rO{α:Type}{xs:List α}{i:Int}{v:α}(h:jP xs i=some v):∃j,seqIndex? i xs.length=some j/\xs[j]?=some v/\j<xs.length/\-(xs.length:Int)<=i/\i<xs.length:=by
 unfold jP at h;cases e:yt xs.length i with
 |none=>rw[e]at h;cases h
 |some j=>
  rw[e]at h;obtain⟨h1,h2,h3,h4⟩:=BE e;exact⟨j,h1,h,h2,h3,h4⟩
theorem jg{α:Type}{xs:List α}{j:Nat}{v:α}(h:xs[j]?=some v):jP xs (j:Int)=some v:=by
 have hj:j<xs.length:=(WK.mp h).1;have e:yt xs.length (j:Int)=some j:=by unfold yt;rw[VD (by lia),VD (by lia)];simp
 unfold jP;rw[e];exact h
theorem EJ{α:Type}(xs:List α)(v:α):jP (xs++[v]) (-1)=some v:=by
 have hl:(xs++[v]).length=xs.length+1:=by simp
 have e:yt (xs++[v]).length (-1)=some xs.length:=by unfold yt;rw[hl,VI (by decide),VD (by lia)];congr 1;lia
 unfold jP;rw[e];show(xs++[v])[xs.length]?=some v;simp
def wH(b:Expr):Prop:=∀o i,subscripted b false o i=operate [o,i] (getItem o i)
def zY(X:Cx)(r:R2):Prop:=
 ∀(value slice:Expr)(ae:ZV)(s:Z3)(σ:St)(H:Hp)(x y:V)(v u:Z2)(Q:VK),aX X ae σ H s->bK x v->bK y u->r x y H Q ->
  subscripted slice false v u=operate [v,u] (getItem v u)->wpAny (model X.prog X.w) X.A (subscriptTail value slice v u) (EP X ae σ Q) X.xe s
def MtR(X:Cx)(id:String)(r:V->List V->Hp->VK->Prop):Prop:=
 ∀(ae:ZV)(s:Z3)(σ:St)(H:Hp)(x:V)(xs:List V)(v:Z2)(us:ZY)(Q:VK),aX X ae σ H s->bK x v->bA xs us->r x xs H Q ->
  wpAny (model X.prog X.w) X.A (call (.builtin id) (v::us)) (EP X ae σ Q) X.xe s
section
variable{X:Cx}{a b:Expr}{ta tb:TE}{pos:Pos}
theorem zY.or{r r':R2}(h:zY X r)(h':zY X r'):zY X (fun x y H Q=>r x y H Q\/r' x y H Q):=by
 intro value slice ae s σ H x y v u Q I rx ry q hs;rcases q with q|q
 .exact h value slice ae s σ H x y v u Q I rx ry q hs
 .exact h' value slice ae s σ H x y v u Q I rx ry q hs
theorem Qa{r:R2}(hr:zY X r)(ha:PE X a ta)(hb:PE X b tb)(hs:wH b):PE X (.Subscript a b pos) (OW r ta tb):=by intro ae s σ H Q I h;exact Subscript_ (Mb ha hb I h fun v u s2 x y H2 I2 rx ry q=>hr a b ae s2 σ H2 x y v u Q I2 rx ry q (hs _ _))
def Qb(K:ZW):R2:=fun x y H Q=>∃p xs i v,x=.ref p/\y=.int i/\l? K H p xs/\jP xs i=some v/\Q v H
def Ur(K:ZW):R2:=fun x y H Q=>∃p xs i v,x=.ref p/\y=.int i/\mY K H p xs/\jP xs i=some v/\Q v H
def Us:R2:=fun x y H Q=>∃z i c,x=.str z/\y=.int i/\z.length<=sizeLine/\jP z.cps.toList i=some c/\Q (.str ⟨#[c]⟩) H
theorem IC:zY X (Qb X.K):=by
 intro value slice ae s σ H x y v u Q I rx ry h hs;obtain⟨p,xs,i,z,rfl,rfl,hq,he,q⟩:=h;cases rx;obtain⟨t,rfl⟩:=ry;obtain⟨aV,r,pl,hz⟩:=I.list hq;obtain⟨j,h1,h2,h3,h4,h5⟩:=rO he;obtain⟨w,ew,yu⟩:=r.get h2;have hl:=r.length;have hn:=nr;have fin:EP X ae σ Q w s:=⟨z,H,I,yu,q⟩
 by_cases h0:0<=i
 .have hj:i.toNat=j:=by rw[YS h0 h5]at h1;exact VR h1
  exact item_listR pl.isList h0 (by lia) (by rw[hj];simpa using ew) fin hs
 .have hj:(i+(aV.toArray.size:Int)).toNat=j:=by rw[YG (by lia) h4]at h1;rw[VF,<-hl];exact VR h1
  exact subscriptTail_builtinR (x:=w) pl.isList.typeIs YF.lookup
   (ZC (Q:=fun r s'=>r=w/\EP X ae σ Q r s') pl.isList (by lia) (by rw[VF]<;>lia) (by lia) (by rw[hj];simpa using ew) ⟨rfl,fin⟩) hs
theorem bz:zY X (Ur X.K):=by
 intro value slice ae s σ H x y v u Q I rx ry h hs;obtain⟨p,xs,i,z,rfl,rfl,hq,he,q⟩:=h;cases rx;obtain⟨t,rfl⟩:=ry;obtain⟨aV,r,pl,hz⟩:=I.tuple hq;obtain⟨j,h1,h2,h3,h4,h5⟩:=rO he;obtain⟨w,ew,yu⟩:=r.get h2;have hl:=r.length;have hn:=nr;have fin:EP X ae σ Q w s:=⟨z,H,I,yu,q⟩
 exact subscriptTail_builtinR (x:=w) pl.typeIs slot_tuple_getitem.lookup
  (getItem_tuple (j:=j) (Q:=fun r s'=>r=w/\EP X ae σ Q r s') pl (by lia) (by lia) (by rw[VF,<-hl];exact h1) (by simpa using ew) ⟨rfl,fin⟩) hs
theorem Mt:zY X Us:=by
 intro value slice ae s σ H x y v u Q I rx ry h hs;obtain⟨z,i,c,rfl,rfl,hz,he,q⟩:=h;obtain⟨t,rfl⟩:=rx;obtain⟨t',rfl⟩:=ry;obtain⟨j,h1,h2,h3,h4,h5⟩:=rO he;have hl:z.cps.toList.length=z.length:=by simp[Str.length]
 rw[hl]at h1 h4 h5;have hn:=nr;exact tail_any (typeIs_str s z t) slot_str_getitem.lookup (getItem_str (c:=c) (by
  have e1:decide (i < -(2 ^ 63:Int))=false:=VV (by lia);have e2:decide (i ≥ 2 ^ 63)=false:=VV (by lia);rw[e1,e2,Bool.or_false]) (by rw[h1];simpa using h2) ⟨.str ⟨#[c]⟩,H,I.tok _,⟨_,rfl⟩,q⟩) hs
theorem Al(aV:ZY)(n j:Nat)(u:Z2):Obj.mapSeq (·.setIfInBounds j u) {cls:=.type "list",data:=.seq aV.toArray n} = {cls:=.type "list",data:=.seq (aV.set j u).toArray n}:=by simp[Obj.mapSeq]
theorem aX.lst{ae:ZV}{σ:St}{H:Hp}{s:Z3}{p:Z4}{xs:List V}(I:aX X ae σ H s)(h:H p=some (.lst xs)):
  ∃(aV:ZY)(n:Nat),bA xs aV/\s.heap.get? p=some {cls:=.type "list",data:=.seq aV.toArray n}/\xs.length<=sizeLine:=by
 obtain⟨z,aV,n,r,e⟩:=I.dq p _ h;exact⟨aV,n,r,e,z⟩
theorem aX.Mu{ae:ZV}{σ:St}{H:Hp}{s:Z3}{p:Z4}{xs ys:List V}{aV its':ZY}{n n':Nat}{f:Obj->Obj}(I:aX X ae σ H s)(h:H p=some (.lst xs))(ho:s.heap.get? p=some {cls:=.type "list",data:=.seq aV.toArray n})(hf:f {cls:=.type "list",data:=.seq aV.toArray n} = {cls:=.type "list",data:=.seq its'.toArray n'})(r:bA ys its')(hz:ys.length<=sizeLine)(t:Nat):
  aX X ae σ (upd H p (.lst ys)) {s with heap:=s.heap.update p f,toks:=t}:=by
 have e:(s.heap.update p f).get? p=some {cls:=.type "list",data:=.seq its'.toArray n'}:=by rw[WJ f ho (by rw[hf]<;>rfl),hf]
 refine I.write (x:=p) (e:=p) (by rw[h];trivial) (.inl rfl) (fun b u hb q=>(V5 _ _ (Xf hb)).trans q) ⟨_,e⟩ ?_;exact⟨hz,its',n',r,e⟩
def KC:V->V->V->Hp->(Hp->Prop)->Prop:=fun o i v H Q=>∃p xs k j,o=.ref p/\i=.int k/\H p=some (.lst xs)/\yt xs.length k=some j/\Q (upd H p (.lst (xs.set j v)))
theorem set_list:L6 X KC:=by
 intro ae s σ H o i v ov iv u Q I ro ri rv h;obtain⟨p,xs,k,j,rfl,rfl,hp,hj,q⟩:=h;cases ro;obtain⟨t,rfl⟩:=ri;obtain⟨aV,n,r,ho,hz⟩:=I.lst hp;obtain⟨h1,h2,h3,h4⟩:=BE hj;have hl:=r.length;have hn:=nr;have I':aX X ae σ (upd H p (.lst (xs.set j v))) {s with heap:=s.heap.update p (Obj.mapSeq (·.setIfInBounds j u))}:=
  I.Mu hp ho (Al aV n j u) (r.set rv j) (by rw[Wl];exact hz) s.toks
 by_cases h0:0<=k
 .have hk:k.toNat=j:=by rw[YS h0 h4]at h1;exact VR h1
  exact W.ki_setAt ho h0 (by lia) (by rw[VF,<-hl];exact h4) (by rw[hk];exact⟨_,I',q⟩)
 .have hk:(k+(aV.toArray.size:Int)).toNat=j:=by rw[YG (by lia) h3]at h1;rw[VF,<-hl];exact VR h1
  exact W.ki_setBack ho (by lia) (by rw[VF,<-hl];exact h3) (by lia) (by rw[hk];exact⟨_,I',q⟩)
theorem wI(lo hi:Option Int)(n:Nat):(sliceBounds lo hi none n).1=((HT.gq n 0 lo:Nat):Int)/\(sliceBounds lo hi none n).2.1=((HT.gq n n hi:Nat):Int)/\(sliceBounds lo hi none n).2.2=1:=by
 refine⟨?_,?_,rfl⟩
 .cases lo with
  |none=>simp[sliceBounds,HT.gq]
  |some i=>
   simp only[sliceBounds,HT.gq,Option.getD_none,show(1:Int)>0 by decide,YN];by_cases h:i<0
   .simp only[h,YN]<;>lia
   .simp only[h,XZ]<;>lia
 .cases hi with
  |none=>simp[sliceBounds,HT.gq]
  |some i=>
   simp only[sliceBounds,HT.gq,Option.getD_none,show(1:Int)>0 by decide,YN];by_cases h:i<0
   .simp only[h,YN]<;>lia
   .simp only[h,XZ]<;>lia
theorem u4(aV:ZY)(lo hi:Option Int):slicePick aV.toArray lo hi none=((aV.drop (HT.gq aV.length 0 lo)).take (HT.gq aV.length aV.length hi-HT.gq aV.length 0 lo)).toArray:=by obtain⟨h1,h2,h3⟩:=wI lo hi aV.toArray.size;unfold slicePick;rw[h1,h2,h3];simp only[sliceRange_one,pick_run,VF]<;>rfl
def Ut(K:ZW):V->Option Int->Option Int->Hp->VK->Prop:=fun x lo hi H Q=>∃a xs,x=.ref a/\l? K H a xs/\∀p,H p=none->Q (.ref p) (upd H p (.lst (wF xs lo hi)))
theorem ID:KA X (Ut X.K):=by intro ae s σ H x v vl vu lo hi sl Q I rx hs pl pu h;obtain⟨a,xs,rfl,hx,q⟩:=h;cases rx;obtain⟨aV,r,ht,hz⟩:=I.list hx;have hlen:=r.length;refine⟨"list",_,YF.lookup,ht.isList.typeIs,?_⟩;refine Zc ht.isList hs pl pu .none (by simp) ?_ (by rw[VF]<;>lia);rw[u4,<-hlen];refine⟨.ref s.heap.objs.size,_,I.laid (t':=s.toks) (o:=.lst (wF xs lo hi)) (fun b ob q=>Vm _ q) (VA _) ?_,rfl,q _ (I.dq.fresh (VA _))⟩;exact⟨V! (qf xs lo hi) hz,_,0,(r.drop (HT.gq xs.length 0 lo)).take (HT.gq xs.length xs.length hi-HT.gq xs.length 0 lo),VL _ rfl⟩
def kG:V->Bool
 |.dg=>true
 |.bl _=>true
 |.int _=>true
 |.str _=>true
 |_=>false
def HM:V->V->Bool
 |.dg,.dg=>true
 |.bl a,.bl b=>a==b
 |.bl a,.int b=>(if a then 1 else 0)==b
 |.int a,.bl b=>a==(if b then 1 else 0)
 |.int a,.int b=>a==b
 |.str a,.str b=>a==b
 |_,_=>false
theorem Mv{A:Z5}{s:Z3}{y x:V}{u v:Z2}(ry:bK y u)(rx:bK x v)(fy:kG y=true)(fx:kG x=true):SeqAt.EqAt A s u v (HM y x):=by
 cases y with
 |dg=>
  cases ry;cases x with
  |dg=>cases rx;exact YX _
  |bl b=>cases rx;exact SeqAt.EqAt.none_bool b
  |int b=>obtain⟨t,rfl⟩:=rx;exact SeqAt.EqAt.none_int b t
  |str b=>obtain⟨t,rfl⟩:=rx;exact SeqAt.EqAt.none_str b t
  |_=>exact absurd (show false=true from fx) VM
 |bl a=>
  cases ry;cases x with
  |dg=>cases rx;exact SeqAt.EqAt.bool_none a
  |bl b=>cases rx;exact SeqAt.EqAt.bool_bool a b
  |int b=>obtain⟨t,rfl⟩:=rx;exact SeqAt.EqAt.bool_int a b t
  |str b=>obtain⟨t,rfl⟩:=rx;exact SeqAt.EqAt.bool_str a b t
  |_=>exact absurd (show false=true from fx) VM
 |int a=>
  obtain⟨t',rfl⟩:=ry;cases x with
  |dg=>cases rx;exact SeqAt.EqAt.int_none a t'
  |bl b=>cases rx;exact SeqAt.EqAt.int_bool a t' b
  |int b=>obtain⟨t,rfl⟩:=rx;exact SeqAt.EqAt.int_int a t' b t
  |str b=>obtain⟨t,rfl⟩:=rx;exact YA a t' b t
  |_=>exact absurd (show false=true from fx) VM
 |str a=>
  obtain⟨t',rfl⟩:=ry;cases x with
  |dg=>cases rx;exact SeqAt.EqAt.str_none a t'
  |bl b=>cases rx;exact SeqAt.EqAt.str_bool a t' b
  |int b=>obtain⟨t,rfl⟩:=rx;exact Yz a t' b t
  |str b=>obtain⟨t,rfl⟩:=rx;exact SeqAt.EqAt.str_str a t' b t
  |_=>exact absurd (show false=true from fx) VM
 |_=>exact absurd (show false=true from fy) VM
def IE(x:V)(u:Z2):Bool:=match u with
 |.none=>HM .dg x
 |.bool b=>HM (.bl b) x
 |.int i _=>HM (.int i) x
 |.str z _=>HM (.str z) x
 |_=>false
theorem EL{x y:V}{u:Z2}(r:bK y u)(f:kG y=true):IE x u=HM y x:=by
 cases y with
 |dg=>cases r;rfl
 |bl b=>cases r;rfl
 |int i=>obtain⟨t,rfl⟩:=r;rfl
 |str z=>obtain⟨t,rfl⟩:=r;rfl
 |_=>exact absurd (show false=true from f) VM
theorem wJ{x:V}:∀{xs:List V}{us:ZY},bA xs us->xs.all kG=true->us.any (IE x)=xs.any fun y=>HM y x
 |_,_,.nil,_=>rfl
 |y::xs,u::us,.cons r t,f=>by rw[XM,WV]at f;rw[Xw,Xw,EL r f.1,wJ t f.2]
theorem sP{A:Z5}{s:Z3}{x:V}{v:Z2}(rx:bK x v)(fx:kG x=true):∀{xs:List V}{us:ZY},bA xs us->xs.all kG=true->∀u∈us,SeqAt.EqAt A s u v (IE x u)
 |_,_,.nil,_=>fun u hu=>by cases hu
 |y::xs,u::us,.cons r t,f=>fun u' hu=>by
  rw[XM,WV]at f;rcases VT.mp hu with rfl|hu
  .rw[EL r f.1];exact Mv r rx f.1 fx
  .exact sP rx fx t f.2 u' hu
def Sv(x:V)(xs:List V):Bool:=xs.any fun y=>HM y x
def rIn(K:ZW)(neg:Bool):R2:=fun x y H Q=>∃p xs,y=.ref p/\(l? K H p xs\/mY K H p xs)/\kG x=true/\xs.all kG=true/\Q (.bl (if neg then !Sv x xs else Sv x xs)) H
theorem C4:eY X (compareOp .In) (rIn X.K false):=by
 intro ae s σ H x y v u Q I rx ry h;obtain⟨p,xs,rfl,hq,fx,fs,q⟩:=h;cases ry;rcases hq with hq|hq
 .obtain⟨aV,r,pl,hz⟩:=I.list hq;refine SeqAt.in_listAt (IE x) pl.isList (fun w hw=>sP rx fx r fs w (by simpa using hw)) ⟨.bl _,H,I,rfl,?_⟩;rw[show aV.toArray.any (IE x)=aV.any (IE x) by simp,wJ r fs];exact q
 .obtain⟨aV,r,pl,hz⟩:=I.tuple hq;refine SeqAt.in_tupleAt (IE x) pl (fun w hw=>sP rx fx r fs w (by simpa using hw)) ⟨.bl _,H,I,rfl,?_⟩;rw[show aV.toArray.any (IE x)=aV.any (IE x) by simp,wJ r fs];exact q
theorem wK:cz X (.builtin "len") (fun xs H Q=>∃p ys,xs=[.ref p]/\(l? X.K H p ys\/mY X.K H p ys)/\Q (.int ys.length) H):=by
 intro ae s σ H xs us Q I r h;obtain⟨p,ys,rfl,hq,q⟩:=h;obtain⟨u,rfl,rx⟩:=vals1 r;cases rx;have hn:=nr;rcases hq with hq|hq
 .obtain⟨aV,r',pl,hz⟩:=I.list hq;have hlen:=r'.length;exact Calls.call_len_list pl.isList (by simp only[VF]<;>lia) ⟨.int ys.length,H,I.tok _,⟨s.toks+1,by rw[VF,hlen]⟩,q⟩
 .obtain⟨aV,r',pl,hz⟩:=I.tuple hq;have hlen:=r'.length;exact len_tuple pl (by simp only[VF]<;>lia) ⟨.int ys.length,H,I.tok _,⟨s.toks+1,by rw[VF,hlen]⟩,q⟩
theorem wL:cz X (.builtin "len") (fun xs H Q=>∃z,xs=[.str z]/\z.length<=sizeLine/\Q (.int z.length) H):=by intro ae s σ H xs us Q I r h;obtain⟨z,rfl,hz,q⟩:=h;obtain⟨u,rfl,t,rfl⟩:=vals1 r;have hn:=nr;exact len_str (by lia) ⟨.int z.length,H,I.tok _,⟨_,rfl⟩,q⟩
theorem cz.or{f:Z2}{r r':List V->Hp->VK->Prop}(h:cz X f r)(h':cz X f r'):cz X f (fun xs H Q=>r xs H Q\/r' xs H Q):=by
 intro ae s σ H xs us Q I rs q;rcases q with q|q
 .exact h ae s σ H xs us Q I rs q
 .exact h' ae s σ H xs us Q I rs q
theorem wM:cz X (.type "list") (fun xs H Q=>∃p ys,xs=[.ref p]/\(l? X.K H p ys\/mY X.K H p ys)/\∀l,H l=none->Q (.ref l) (upd H l (.lst ys))):=by
 intro ae s σ H xs us Q I r h;obtain⟨p,ys,rfl,hq,q⟩:=h;obtain⟨u,rfl,rx⟩:=vals1 r;cases rx;have fin:∀(aV:ZY),bA ys aV->ys.length<=sizeLine->∀(h':Heap)(c':Nat),(∀b o',s.heap.get? b=some o'->h'.get? b=some o') ->
   h'.get? s.heap.objs.size=some {cls:=.type "list",dict:=none,data:=.seq aV.toArray c',slots:=#[]}->EP X ae σ Q (.ref s.heap.objs.size) {s with heap:=h'}:=fun aV r' hz h' c' kp e=>
  ⟨.ref s.heap.objs.size,_,I.laid (t':=s.toks) kp (VA _) (show dE X.prog X.w _ h' _ (.lst ys) from⟨hz,aV,c',r',e⟩),rfl,q _ (I.dq.fresh (VA _))⟩
 rcases hq with hq|hq
 .obtain⟨aV,r',pl,hz⟩:=I.list hq;have hlen:=r'.length;obtain⟨o,ho,hc,n,hd⟩:=pl.isList;exact call_list_seq p (.inl rfl) ho hc hd (fun h' c' kp e=>fin aV r' hz h' c' kp e) (by simp only[VF]<;>lia)
 .obtain⟨aV,r',pl,hz⟩:=I.tuple hq;have hlen:=r'.length;obtain⟨o,ho,hc,n,hd⟩:=pl;exact call_list_seq p (.inr rfl) ho hc hd (fun h' c' kp e=>fin aV r' hz h' c' kp e) (by simp only[VF]<;>lia)
theorem u5:cz X (.type "tuple") (fun xs H Q=>∃p ys,xs=[.ref p]/\((l? X.K H p ys/\∀l,H l=none->Q (.ref l) (upd H l (.tup ys)))\/(mY X.K H p ys/\Q (.ref p) H))):=by
 intro ae s σ H xs us Q I r h;obtain⟨p,ys,rfl,h⟩:=h;obtain⟨u,rfl,rx⟩:=vals1 r;cases rx;rcases h with⟨hq,q⟩|⟨hq,q⟩
 .obtain⟨aV,r',pl,hz⟩:=I.list hq;have hlen:=r'.length;refine call_tuple_list pl.isList (fun h' kp=>?_) (by simp only[VF]<;>lia);have I1:aX X ae σ H {s with heap:=h'}:=I.kept (t':=s.toks) kp;have I2:aX X ae σ (upd H h'.objs.size (.tup ys)) {s with heap:=h'.push {cls:=.type "tuple",data:=.seq aV.toArray} }:=
   I1.laid (t':=s.toks) (fun b o e=>Vm _ e) (VA _) (show dE X.prog X.w _ _ _ (.tup ys) from⟨hz,aV,r',IsTup.new _ _⟩)
  exact⟨.ref h'.objs.size,_,I2,rfl,q _ (I1.dq.fresh (VA _))⟩
 .obtain⟨aV,r',pl,hz⟩:=I.tuple hq;exact call_tuple_same pl ⟨.ref p,H,I,rfl,q⟩
def Sw(K:ZW)(T:String)(x:V)(H:Hp):Prop:=match x with
 |.str _=>T = "str"
 |.int _=>T = "int"
 |.ref p=>(T = "list" /\ ∃xs,l? K H p xs)\/(T = "tuple" /\ ∃o,K.lookup p=some o/\o.cls=.type "tuple" /\ o.dict=none) \/
   (T = "dict" /\ ((∃aY,H p=some (.dK aY))\/∃aY,H p=some (.dT aY)))\/(T = "set" /\ ∃S n,H p=some (.set S n))
 |_=>False
theorem EM{ae:ZV}{σ:St}{H:Hp}{s:Z3}{T:String}{x:V}{v:Z2}(I:aX X ae σ H s)(r:bK x v)(ty:Sw X.K T x H):
  s.TypeIs v T/\∀a,v=.ref a->∃ob,s.heap.get? a=some ob/\ob.dict=none:=by
 cases x with
 |str z=>
  obtain⟨t,rfl⟩:=r;cases(show T = "str" from ty);exact⟨typeIs_str s z t,fun _ e=>nomatch e⟩
 |int i=>
  obtain⟨t,rfl⟩:=r;cases(show T = "int" from ty);exact⟨typeIs_int s i t,fun _ e=>nomatch e⟩
 |ref p=>
  cases r;rcases ty with⟨rfl,xs,hq⟩|⟨rfl,o,hk,hc,hd⟩|⟨rfl,hk⟩|⟨rfl,S,n,hk⟩
  .obtain⟨aV,_,pl,_⟩:=I.list hq;refine⟨pl.isList.typeIs,fun a e=>?_⟩;cases e;obtain⟨o,n,e,c,hd,_⟩:=pl;exact⟨o,e,hd⟩
  .refine⟨⟨o,I.sF p o hk,hc⟩,fun a e=>?_⟩;cases e;exact⟨o,I.sF _ o hk,hd⟩
  .have z:∃o,s.heap.get? p=some o/\o.ExactDict:=by
    rcases hk with⟨aY,hk⟩|⟨aY,hk⟩
    .obtain⟨_,_,_,_,o,_,_,e,ex,_⟩:=I.dq p _ hk;exact⟨o,e,ex⟩
    .obtain⟨_,_,_,_,o,_,_,e,ex,_⟩:=I.dq p _ hk;exact⟨o,e,ex⟩
   obtain⟨o,e,ex⟩:=z;refine⟨⟨o,e,ex.1⟩,fun a e2=>?_⟩;cases e2;exact⟨o,e,ex.2.1⟩
  .obtain⟨o,_,_,_,e,ex,_⟩:=I.dq p _ hk;refine⟨⟨o,e,ex.1⟩,fun a e2=>?_⟩;cases e2;exact⟨o,e,ex.2.1⟩
 |_=>exact False.elim ty
def Uu(K:ZW)(T:String)(r:V->List V->Hp->VK->Prop)(to:TE):TE:=fun σ H Q=>to σ H fun x H1=>Sw K T x H1/\r x [] H1 Q
def tBM(K:ZW)(T:String)(r:V->List V->Hp->VK->Prop)(to:TE)(t:TA):TE:=fun σ H Q=>to σ H fun x H1=>Sw K T x H1/\t σ H1 fun xs H2=>r x xs H2 Q
variable{o e:Expr}{es:List Expr}{to:TE}{t:TA}{name:Str}{apos dS:Pos}{T id:String}{r:V->List V->Hp->VK->Prop}
theorem Mw(pa:PlainAttrs T)(slot:Slot T name id)(Mx:typeOf (.builtin id)=pure (.type "method_descriptor"))(hm:MtR X id r)(ho:PE X o to)(kJ:attributeBase o name X.env (eval o X.env)=eval o X.env:=by rfl)(kK:(apos.endLine==dS.line)=true:=by rfl):PE X (.Call (.Attribute o name apos) [] [] dS) (Uu X.K T r to):=by intro ae s σ H Q I h;refine wpAny_Call_method0_late kJ kK (dJ (ho ae s σ H _ I h) fun v s1⟨x,H1,I1,r1,ty,q1⟩=>?_);obtain⟨h1,h2⟩:=EM I1 r1 ty;exact⟨T,id,pa,slot,Mx,h1,h2,ZJ rfl (PySem.evalArgs_none (hm ae s1 σ H1 x [] v [] Q I1 r1 .nil q1))⟩
theorem Qc(pa:PlainAttrs T)(slot:Slot T name id)(Mx:typeOf (.builtin id)=pure (.type "method_descriptor"))(hm:MtR X id r)(ho:PE X o to)(ha:PA X (e::es) t)(kJ:attributeBase o name X.env (eval o X.env)=eval o X.env:=by rfl)
  (EN:((backTo dS (starEach (e::es) X.env)).all (fun x => !x.1)&&(backToKw dS (keywordEach [] X.env)).all (fun x=>x.1.isSome)
   && decide ((e::es).length+([]:List Keyword).length+(if([]:List Keyword).isEmpty then 0 else 1)<30))=true:=by rfl)
  (kK:(apos.endLine==dS.line)=true:=by rfl) (hs:starEach (e::es) X.env=(false,eval e X.env)::starEach es X.env:=by rfl) (sQ:(backTo dS (starEach es X.env)).any (·.1)=false:=by rfl):
  PE X (.Call (.Attribute o name apos) (e::es) [] dS) (tBM X.K T r to t):=by
 intro ae s σ H Q I h;refine wpAny_Call_method_late kJ EN kK rfl (dJ (ho ae s σ H _ I h) fun v s1⟨x,H1,I1,r1,ty,q1⟩=>?_);obtain⟨h1,h2⟩:=EM I1 r1 ty;refine⟨T,id,pa,slot,Mx,h1,h2,?_⟩;have hA:=ha dS ae s1 σ H1 _ I1 q1;rw[hs]at hA⊢;refine ZJ (by show(false || (backTo dS (starEach es X.env)).any (·.1))=false;rw[sQ]<;>rfl) (Calls.evalArgs_plain ?_);exact dJ hA fun us s2⟨vs,H2,I2,r2,q2⟩=>hm ae s2 σ H2 x vs v us Q I2 r1 r2 q2
end
def EO(X:Cx)(id:String)(r:V->List V->Hp->VK->Prop):Prop:=
 ∀(ae:ZV)(s:Z3)(σ:St)(H:Hp)(x:V)(xs:List V)(v:Z2)(us:ZY)(Q:VK),aX X ae σ H s->bK x v->bA xs us->r x xs H Q ->
  wpAny (model X.prog X.w) X.A (call (.builtin id) (v::us)) (EP X ae σ Q) X.xe s
theorem bA.one{x:V}{us:ZY}(p:bA [x] us):∃u,us=[u]/\bK x u:=by
 cases p with
 |cons r t=>cases t;exact⟨_,rfl,r⟩
theorem bA.two{x y:V}{us:ZY}(p:bA [x,y] us):∃u v,us=[u,v]/\bK x u/\bK y v:=by
 cases p with
 |cons r t=>
  obtain⟨v,z,q⟩:=bA.one t;rw[z];exact⟨_,v,rfl,r,q⟩
theorem bA.zero:∀{us:ZY},bA [] us->us=[]
 |_,.nil=>rfl
theorem bA.dropLast{xs:List V}{us:ZY}(h:bA xs us):bA xs.dropLast us.dropLast:=by
 induction h with
 |nil=>exact .nil
 |cons r t ih=>
  cases t with
  |nil=>exact .nil
  |cons q t'=>exact .cons r ih
theorem bA.rep{xs:List V}{us:ZY}(h:bA xs us):∀k:Nat,bA (List.replicate k xs).flatten (List.replicate k us).flatten
 |0=>.nil
 |k+1=>by rw[Vy,Vy,W',W'];exact bA.append h (bA.rep h k)
theorem Am{α:Type}(l:List α):l.eraseIdx (l.length-1)=l.dropLast:=by
 induction l with
 |nil=>rfl
 |cons a r ih=>
  cases r with
  |nil=>rfl
  |cons b r=>
   have e:(a::b::r).length-1=((b::r).length-1)+1:=by have h1:(a::b::r).length=r.length+2:=rfl;have h2:(b::r).length=r.length+1:=rfl;lia
   rw[e,List.eraseIdx_cons_succ,ih]
   all_goals rfl
theorem foldl_rep(aV:ZY):∀(k:Nat)(acc:ZY),
  List.foldl (fun x1 x2=>x1++x2) acc.toArray (List.replicate k aV.toArray)=(acc++(List.replicate k aV).flatten).toArray
 |0,acc=>by simp
 |k+1,acc=>by
  have e:acc.toArray++aV.toArray=(acc++aV).toArray:=by simp
  have e2:(acc++aV)++(List.replicate k aV).flatten=acc++(List.replicate (k+1) aV).flatten:=by rw[Vy,W',VO]
  rw[<-e2,<-foldl_rep aV k (acc++aV),<-e,Vy,List.foldl_cons]
section
variable{X:Cx}{ae:ZV}{σ:St}{H:Hp}{s:Z3}{l b:Z4}{xs ys zs:List V}
theorem aX.Qd{aV its':ZY}{n:Nat}{f:Array Z2->Array Z2}{t':Nat}(I:aX X ae σ H s)(hH:H l=some (.lst xs))(e:s.heap.get? l=some {cls:=.type "list",data:=.seq aV.toArray n})(hf:f aV.toArray=its'.toArray)(hv:bA ys its')(hz:ys.length<=sizeLine):
  aX X ae σ (upd H l (.lst ys)) {s with heap:=s.heap.update l (Obj.mapSeq f),toks:=t'}:=by
 have q:=ZF e f;rw[hf]at q;refine I.write (x:=l) (e:=l) (by rw[hH];exact trivial) (.inl rfl) (fun b' u hb hu=>(V5 s.heap (Obj.mapSeq f) (Xf hb)).trans hu) ⟨_,q⟩ ?_;exact⟨hz,its',_,hv,q⟩
theorem aX.Qe{aV:ZY}{t':Nat}(I:aX X ae σ H s)(hv:bA ys aV)(hz:ys.length<=sizeLine):
  aX X ae σ (upd H s.heap.objs.size (.lst ys)) {s with heap:=s.heap.push {cls:=.type "list",data:=.seq aV.toArray},toks:=t'}:=
 I.laid (fun _ _ q=>Vm _ q) (VA _) ⟨hz,aV,0,hv,VL _ rfl⟩
theorem aX.fresh(I:aX X ae σ H s):H s.heap.objs.size=none:=I.dq.fresh (VA _)
theorem aX.ER(I:aX X ae σ H s)(hH:H l=some (.lst xs)):xs.length<=sizeLine/\∃(aV:ZY)(n:Nat),bA xs aV/\xs.length=aV.length/\s.heap.get? l=some {cls:=.type "list",data:=.seq aV.toArray n}:=by obtain⟨z,aV,n,r,e⟩:=I.dq l _ hH;exact⟨z,aV,n,r,r.length,e⟩
theorem ES{n:Nat}(h:n<=sizeLine):Builtin.List.listTooLong n=false:=by unfold Builtin.List.listTooLong;exact VV (by lia)
end
section
variable{X:Cx}
def IF:V->List V->Hp->VK->Prop:=fun x vs H Q=>∃l xs y,x=.ref l/\vs=[y]/\H l=some (.lst xs)/\xs.length<sizeLine/\Q .dg (upd H l (.lst (xs++[y])))
theorem C5:EO X "list.append" IF:=by intro ae s σ H x vs v us Q I rx rv h;obtain⟨l,xs,y,rfl,rfl,hH,hz,q⟩:=h;cases rx;obtain⟨u,rfl,ru⟩:=rv.one;obtain⟨z,aV,n,r,hl,e⟩:=I.ER hH;refine Yy F.slot_list_append ⟨_,e,rfl⟩ F.entry_list_append (F.args_list_append_2 _ _) (Zn l aV.toArray n u (by rw[VF];lia)) ⟨e,?_⟩;refine⟨.dg,_,I.Qd (its':=aV++[u]) hH e (by simp) (r.append (.cons ru .nil)) ?_,rfl,q⟩;rw[Vn,Wi];lia
def Sx:V->List V->Hp->VK->Prop:=fun x vs H Q=>∃l b xs zs,x=.ref l/\vs=[.ref b]/\H l=some (.lst xs)/\H b=some (.lst zs)/\xs.length+zs.length<=sizeLine/\Q .dg (upd H l (.lst (xs++zs)))
def Uv:V->List V->Hp->VK->Prop:=fun x vs H Q=>∃l xs y,x=.ref l/\vs=[]/\H l=some (.lst xs)/\xs[xs.length-1]?=some y/\Q y (upd H l (.lst xs.dropLast))
theorem My:EO X "list.pop" Uv:=by
 intro ae s σ H x vs v us Q I rx rv h;obtain⟨l,xs,y,rfl,rfl,hH,hy,q⟩:=h;cases rx;have hus:=rv.zero;subst hus;obtain⟨z,aV,n,r,hl,e⟩:=I.ER hH;obtain⟨u,hu,ru⟩:=r.get hy;have hy':aV.toArray[aV.toArray.size-1]?=some u:=by show aV.toArray[aV.length-1]?=some u;rw[<-Array.getElem?_toList,<-hl];exact hu
 refine Yy F.slot_list_pop ⟨_,e,rfl⟩ F.entry_list_pop (F.args_list_pop_1 _) (MeetsSeq.list_pop_last l aV.toArray n u hy' (by rw[VF];lia)) ⟨e,?_⟩;refine⟨y,_,I.Qd (its':=aV.dropLast) hH e ?_ r.dropLast ?_,ru,q⟩
 .show aV.toArray.eraseIdxIfInBounds (aV.toArray.size-1)=aV.dropLast.toArray;rw[VF,List.eraseIdxIfInBounds_toArray,Am]
 .rw[List.length_dropLast];lia
def Uw:R2:=fun x y H Q=>∃l b xs zs,x=.ref l/\y=.ref b/\H l=some (.lst xs)/\H b=some (.lst zs)/\xs.length+zs.length<=sizeLine/\∀p,H p=none->Q (.ref p) (upd H p (.lst (xs++zs)))
theorem Mz:eY X (binaryOp .Add) Uw:=by
 intro ae s σ H x y v u Q I rx ry h;obtain⟨l,b,xs,zs,rfl,rfl,hH,hB,hz,q⟩:=h;cases rx;cases ry;obtain⟨z,aV,n,r,hl,e⟩:=I.ER hH;obtain⟨z2,fY,n2,r2,qH,e2⟩:=I.ER hB;refine PySem.P.add_list e e2 ?_ (by rw[VF,VF];lia);have ea:aV.toArray++fY.toArray=(aV++fY).toArray:=by simp
 rw[ea];exact⟨.ref _,_,I.Qe (t':=s.toks) (r.append r2) (by rw[Vn];lia),rfl,q _ I.fresh⟩
def Ux:R2:=fun x y H Q=>∃l k xs,x=.ref l/\y=.int k/\H l=some (.lst xs)/\-(2 ^ 63)<=k/\k<2 ^ 63/\xs.length*k.toNat<=sizeLine /\
 ∀p,H p=none->Q (.ref p) (upd H p (.lst (List.replicate k.toNat xs).flatten))
theorem len_rep{α:Type}(xs:List α)(k:Nat):(List.replicate k xs).flatten.length=k*xs.length:=by
 induction k with
 |zero=>simp
 |succ k ih=>rw[Vy,W',Vn,ih,Nat.succ_mul,Nat.add_comm]
theorem MC:eY X (binaryOp .Mult) Ux:=by
 intro ae s σ H x y v u Q I rx ry h;obtain⟨l,k,xs,rfl,rfl,hH,h1,h2,hz,q⟩:=h;cases rx;obtain⟨t,rfl⟩:=ry;obtain⟨z,aV,n,r,hl,e⟩:=I.ER hH;have hlen:aV.toArray.size*k.toNat<=sizeLine:=by rw[VF,<-hl];exact hz
 have gL:¬ aV.toArray.size*k.toNat>(2 ^ 63-1) / 8:=by
  have:(sizeLine:Nat)<=(2 ^ 63-1) / 8:=by decide
  lia
 have Uy:¬ (!Builtin.List.listFitsIndex k)=true:=by rw[fitsIndex_both h1 h2];exact VM
 have Qf:¬ Builtin.List.listTooLong (aV.toArray.size*k.toNat)=true:=by rw[ES hlen];exact VM
 have Uz:List.foldl (fun x1 x2=>x1++x2) #[] (List.replicate (if aV.toArray.isEmpty=true then 0 else k.toNat) aV.toArray)=(List.replicate k.toNat aV).flatten.toArray:=by
  have f0:∀m:Nat,List.foldl (fun x1 x2=>x1++x2) #[] (List.replicate m aV.toArray)=(List.replicate m aV).flatten.toArray:=fun m=>by have:=foldl_rep aV m [];rw[Vu]at this;exact this
  rw[f0];cases aV with
  |nil=>simp
  |cons a r'=>rw[VI (by simp)]
 refine wpAny_binaryOp_repeat_ref (T:="list") (U:="int") (by decide) ⟨_,e,rfl⟩ (fun s'=>typeIs_int s' k t) noFill_list_mul F.fills_int_mul F.slot_int_rmul repeat_list F.slot_int_index.lookup
  (Yy F.slot_int_rmul (typeIs_int s k t) F.entry_int_rmul (F.args_int_rmul_2 _ _) (int___rmul___int_list k t l aV.toArray n)
   ⟨e,rfl,⟨_,e,rfl⟩,Yy F.slot_list_mul ⟨_,e,rfl⟩ F.entry_list_mul (F.args_list_mul_2 _ _) (AutoListH.list___mul___list_int_3 l aV.toArray n k t Uy gL Qf) ⟨e,?_⟩⟩)
 rw[Uz];exact⟨.ref _,_,I.Qe (t':=s.toks) (r.rep k.toNat) (by rw[len_rep,Nat.mul_comm];exact hz),rfl,q _ I.fresh⟩
end
end L2
namespace Att
open PySem.W PySem.Calls PyProof.Rows
theorem qJ{P:Params}{h:Heap}:∀(ns:ZX)(vs:ZY),WellAll P h vs (ns.map WData.int)->IntsAre vs ns:=by
 intro ns
 induction ns with
 |nil=>
  intro vs w;rw[VH]at w;cases w;exact .nil
 |cons n ns ih=>
  intro vs w;rw[Vr]at w;cases w with
  |cons a b=>
   cases a;exact .cons _ _ (ih _ b)
theorem C6{l:OpenLaw}{n:Nat}(hn:l.most=some n){P:Params}{h:Heap}{args:List WData}{vals:ZY}(IG:l.row.toRowW.claim.pre args=true)(UA:WellAll P h vals args):
  ∃a vs ns,vals=[Value.ref a]/\args=[WData.list (ns.map WData.int)]/\h.get? a=some {cls:=.type "list",data:=.seq vs.toArray}/\IntsAre vs ns/\ns.length<=n:=by
 have hsh:WShape.hasAll [] args [.list .int]=true:=(pre_splitW IG).1;have hc:l.pre.holds [] {args:=args} = true:=(pre_splitW IG).2;obtain⟨d,r,rfl,h1,h2⟩:=hasAllW_cons hsh;obtain rfl:=hasAllW_nil h2;obtain⟨xs,rfl,h3⟩:=hasW_list h1;obtain⟨ns,rfl⟩:=items_int h3;have hlen:ns.length<=n:=by
  unfold OpenLaw.pre at hc;have h4:(WTm.not (.lt (.lit (.int (n:Int))) (.len (.arg 0)))).holds [] {args:=[.list (ns.map .int)]} = true:=by have h4:=(holds_andW hc).1;rw[hn]at h4;exact h4
  have h5:=condW_of h4 (w_not (w_lt w_lit (w_len_list (w_arg rfl))));rw[Vl]at h5;refine Yo fun q=>?_;have q':(n:Int)<((ns.length:Nat):Int):=by lia
  first
   |(rw[VW q']at h5;exact absurd h5 (by decide))
   |(simp at h5;lia)
 cases UA with
 |cons w1 w2=>
  cases w2;cases w1 with
  |list ho IH=>exact⟨_,_,ns,rfl,rfl,ho,qJ ns _ IH,hlen⟩
theorem C7(l:OpenLaw)(args:List WData):l.row.toRowW.claim.post args (.bool true) args=true:=
 postW_of (r:=l.row.toRowW) (X:=(true==true))
  (show WShape.has [] (.bool true) .bool=true by first|rfl|decide|simp[WShape.has,WShape.arms,WShape.armsAll])
  (show(WTm.eq .res (.lit (.bool true))).value [] {args:=args,res:=some (.bool true),after:=args} = some (.bool (true==true))from w_eq_bool (w_res rfl) w_lit) rfl
theorem yw{l:OpenLaw}{n:Nat}{q:Z6}{loose:Z1}{XP:(ZU)->Heap->Prop}{YP:World->Heap->Prop}{d:DefRec}(hn:l.most=some n)(Qg:d.params.defaults=[])
  (call:∀ (w:World) (s₀ s₁:Z3) (mg mb:ZU) (fa:Z4) (o:Obj) (pm cd doc:Z2) (a:Z4) (vs:ZY) (ns:ZX),
   Ground q loose [] XP w s₀ mg mb s₁.heap->YP w s₁.heap ->
   s₁.heap.get? fa=some o->o.data=.func (docDef d.name d.params d.body d.scope pm cd doc)->s₁.heap.CodeRec cd d.name->mg d.name=some (.ref fa) ->
   s₁.heap.get? a=some {cls:=.type "list",data:=.seq vs.toArray}->IntsAre vs ns->ns.length<=n->s₁.gens = #[] ->
   codeAny (model l.prog w) callerA (.call (.ref fa) ⟨[.ref a],[]⟩) (fun r s'=>r=.ok (.ret (.bool true))/\OldK s₁.heap s'.heap/\s'.os=s₁.os/\AllBare s'.gens) s₁):
  WalkO q loose XP YP l.row.toRowW d [] (fun f vs=>PySem.call f vs):=by
 intro w s₀ s₁ mg mb G Y fa o pm cd doc dV kV ho hd zW hD Qh hg args vals as IG aaC hrd UA hlo;obtain rfl:dV=.none:=Dflts.none hD Qg;obtain rfl:kV=.none:=Dflts.noKw hD;obtain⟨a,vs,ns,rfl,rfl,MD,hints,hlen⟩:=C6 hn IG UA;refine enter_call (XR (call w s₀ s₁ mg mb fa o pm cd doc a vs ns G Y ho (fd_plain hd) zW Qh MD hints hlen hg) fun r s' hq=>?_);obtain⟨rfl,h2,h3,h4⟩:=hq;exact⟨.inl ⟨.bool true,.bool true,[],rfl,fun _=>rfl,.bool true,C7 l _,fun _=>⟨List.Pairwise.nil,fun _ hm=>(nomatch hm)⟩⟩,h2,h3,h4⟩
end Att
namespace L2
open PySem.Spec PyProof.Rows
theorem vJ:∀{vs:ZY}{ns:ZX},IntsAre vs ns->bA (ns.map V.int) vs
 |_,_,.nil=>.nil
 |_,_,.cons n t h=>.cons ⟨t,rfl⟩ (vJ h)
def II(H:Hp):Prop:=∀b,H b=none\/∃o xs,H b=some (.nk o (.lst xs))
theorem ET{P:Z6}{w:World}{K:ZW}{mg mb:ZU}{CX:BB}{k:Nat}{fa a:Z4}{fd:FuncData}{x:Str}{sp:Sp}{s₁:Z3}{vs:ZY}{ns:ZX}(KX:K.In s₁.heap)(OX:s₁.heap.Ns mainGlobals mg)(hb:s₁.heap.Ns builtinsNs mb)(hbb:∀x:Str,x ≠ "__name__" -> mb x=bootBuiltins x)(UB:s₁.heap.NoLimit)(hg:s₁.gens = #[])(ha:s₁.heap.get? a=some {cls:=.type "list",data:=.seq vs.toArray})(hi:IntsAre vs ns)(hl:ns.length<=sizeLine)(hr:gK k callerA)(F:∀base:Heap,K.In base->base.Ns mainGlobals mg->kE P w K mg base CX k fa fd [x] sp)(Qi:∀(s:Z3)(u:Z2),BindsTo s fd ⟨[u],[]⟩ [(x,u)])(Kz:∀H:Hp,II H->l? K H a (ns.map V.int)->sp [.ref a] H (fun v _=>v=.bl true) fun _ _ _=>False)(UC:∀H e s',CX [] H s₁ (fun _ _ _=>False) e s'->False):
  codeAny (model P w) callerA (.call (.ref fa) ⟨[.ref a],[]⟩) (fun r s'=>r=.ok (.ret (.bool true))/\OldK s₁.heap s'.heap/\s'.os=s₁.os/\AllBare s'.gens) s₁:=by
 have rv:=vJ hi;have UD:=hi.length
 -- from an abstract heap in aay nothing but uY MF may be tracked
 have core:∀H:Hp,II H->l? K H a (ns.map V.int)->jM P w H s₁.heap->(∀b,H b≠none->b=a)->(H a≠none->K.lookup a=none) ->
   codeAny (model P w) callerA (.call (.ref fa) ⟨[.ref a],[]⟩) (fun r s'=>r=.ok (.ret (.bool true))/\OldK s₁.heap s'.heap/\s'.os=s₁.os/\AllBare s'.gens) s₁:=by
  intro H hO hS dq hA hK;have BF:∀{b:Z4}{o:Obj},s₁.heap.get? b=some o->H b=none->(wz s₁.heap H).get? b=some o:=fun e n=>Ep e n;have PX:∀{b:Z4}{o:Obj}{es:Array DictEntry}{ep:Nat},s₁.heap.get? b=some o->o.data=.dict es ep->H b=none:=fun{b o es ep}e d=>by
   cases q:H b with
   |none=>rfl
   |some u=>
    have e':b=a:=hA b (by rw[q];simp);subst e';rw[ha]at e;cases e;have d':Data.seq vs.toArray _=Data.dict es ep:=d;cases d'
  have Sy:∀{b:Z4}{m:ZU},s₁.heap.Ns b m->(wz s₁.heap H).Ns b m:=fun{b m}⟨o,es,ep,e,d,r⟩=>⟨o,es,ep,BF e (PX e d),d,r⟩
  have hKb:K.In (wz s₁.heap H):=fun b o e=>BF (KX b o e) (by
   cases q:H b with
   |none=>rfl
   |some u=>
    have e':b=a:=hA b (by rw[q];simp);subst e';rw[hK (by rw[q];simp)]at e;cases e)
  have hM:Mod K mg (wz s₁.heap H):=⟨hKb,Sy OX,⟨mb,Sy hb,hbb⟩,let⟨mc,h1,h2⟩:=UB;⟨mc,Sy h1,h2⟩⟩
  have e0:Ai P w K mg (wz s₁.heap H) callerA [] s₁ H:=⟨rfl,hM,fun b o e=>HV e,Nat.le_of_eq (CU _ _),trivial,fun b hb=>absurd (show b∈([]:Z0)from hb) (by simp),dq,.of_eq hg⟩
  refine XR ((F _ hKb (Sy OX)).run callerA [] s₁ H ⟨[.ref a],[]⟩ [.ref a] [.ref a] _ _ hr e0 (Qi s₁ (.ref a)) (.cons rfl .nil) (Kz H hO hS)) fun r s' h=>?_;cases r with
  |error e=>exact(UC H e s' h).elim
  |ok fl=>
   cases fl with
   |next=>exact False.elim h
   |brk=>exact False.elim h
   |cont=>exact False.elim h
   |ret u=>
    obtain⟨v,H',os,bare,un,UE,r',q⟩:=h;have q':v=.bl true:=q;subst q';obtain rfl:u=Value.bool true:=r';refine⟨rfl,OldK.of_keep fun b o e=>?_,os,bare⟩;cases q:H b with
    |none=>exact un.keep b o e q (by intro z;exact absurd (show b∈([]:Z0)from z) (by simp)) (by simp)
    |some u=>
     rcases hO b with z|⟨ob,xs,z⟩
     .rw[q]at z;cases z
     .have z2:=un.nq b ob _ z;obtain⟨e1,_⟩:=dq b _ z;obtain⟨e2,_⟩:=UE b _ z2;rw[e]at e1;cases e1;exact e2
 cases hk:K.lookup a with
 |some o=>
  -- uY MF is one of uY Qj own objects
  have e:=KX a o hk;rw[ha]at e;cases e;refine core (fun _=>none) (fun _=>.inl rfl) (.inr ⟨_,vs.toArray,_,hk,rfl,rfl,rfl,by rw[VF,UD];exact hl,by simpa using rv⟩) (fun b u z=>by have z':(none:Option HO)=some u:=z;cases z') (fun b z=>absurd rfl z) fun z=>absurd rfl z
 |none=>
  refine core (fun b=>if b=a then some (.nk {cls:=.type "list",data:=.seq vs.toArray} (.lst (ns.map V.int)))else none) (fun b=>?_) (.inl (.inr ⟨{cls:=.type "list",data:=.seq vs.toArray},VD rfl⟩)) (fun b u z=>?_) (fun b z=>?_) fun _=>hk
  .by_cases hb:b=a
   .exact .inr ⟨_,_,VD hb⟩
   .exact .inl (VI hb)
  .by_cases hb:b=a
   .have z':=(VD hb).symm.trans z;cases z';subst hb;exact⟨ha,by rw[Vl];exact hl,vs,_,rv,ha⟩
   .have z':=(VI hb).symm.trans z;cases z'
  .by_cases hb:b=a
   .exact hb
   .exact absurd (VI hb) z
theorem IJ{l:W.OpenLaw}{n k:Nat}{q:Z6}{loose:Z1}{XP:(ZU)->Heap->Prop}{YP:World->Heap->Prop}{d:DefRec}{K:Params->ZW}{CX:World->BB}{sp:World->Sp}{x:Str}(hn:l.most=some n)(MG:n<=sizeLine)(Qg:d.params.defaults=[])(hr:gK k callerA)(hY:∀(w:World)(h:Heap),YP w h->(K w.params).In h)
  (F:∀ (w:World) (mg:ZU) (fa:Z4) (h:Heap),(K w.params).In h->h.Ns mainGlobals mg->mg d.name=some (.ref fa) ->
   ∃fd:FuncData,(∀(s:Z3)(u:Z2),BindsTo s fd ⟨[u],[]⟩ [(x,u)]) /\
    ∀base:Heap,(K w.params).In base->base.Ns mainGlobals mg->kE l.prog w (K w.params) mg base (CX w) k fa fd [x] (sp w))
  (Kz:∀(w:World)(H:Hp)(a:Z4)(ns:ZX),ns.length<=n->II H->l? (K w.params) H a (ns.map V.int)->sp w [.ref a] H (fun v _=>v=.bl true) fun _ _ _=>False)
  (UC:∀(w:World)(H:Hp)(s:Z3)(e:Z2)(s':Z3),CX w [] H s (fun _ _ _=>False) e s'->False):
  W.WalkO q loose XP YP l.row.toRowW d [] (fun f vs=>PySem.call f vs):=by
 refine Att.yw hn Qg fun w s₀ s₁ mg mb fa o pm cd doc a vs ns G Y ho hd zW Qh MD hints hlen hg=>?_;have KX:=hY w _ Y;obtain⟨fd,hb,hF⟩:=F w mg fa _ KX G.T.g Qh;exact ET KX G.T.g G.T.b G.T.builtins G.T.nolimit hg MD hints (V! hlen MG) hr hF hb (fun H hO hS=>Kz w H a ns hlen hO hS) fun H e s'=>UC w H s₁ e s'
def gZ(s:Stmt):Arguments:=match s with
 |.FunctionDef _ a _ _ _ _ _ _ _ _=>a
 |_ => {posonlyargs:=[],args:=[],vararg:=none,kwonlyargs:=[],kw_defaults:=[],kwarg:=none,defaults:=[]}
def e_(s:Stmt):List Stmt:=match s with
 |.FunctionDef _ _ b _ _ _ _ _ _ _=>b
 |_=>[]
def a_(s:Stmt):Scope:=match s with
 |.FunctionDef _ _ _ _ _ _ sc _ _ _=>sc
 |_ => {kind:=.function,names:=[],isGenerator:=false,isCoroutine:=false}
abbrev E0:XK:=fun _ _ _=>False
structure IK(K:ZW)(x qual:Str)(st:Stmt)(f:Z4)(fd:FuncData):Prop where
 ex:∃(oc:Z2)(od:Option Z4)(kV doc pm:Z2)(an:Option Z4)(fV ct:Z2)(C2:Array (ZZ)),
  fd=W.fnOf x qual (gZ st) (e_ st) (a_ st) .none kV doc pm an fV ct/\K.lookup f=some ⟨oc,od,.func fd,C2⟩/\W.codeIn K fV qual=true
 kp:W.keepIn K (.ref f)=true
section
variable{P:Z6}{w:World}{K:ZW}{mg:ZU}{base:Heap}
theorem IK.binds{x qual:Str}{st:Stmt}{f:Z4}{fd:FuncData}{ps:Z1}(F:IK K x qual st f fd)(h:∀(kV doc pm:Z2)(an:Option Z4)(fV ct:Z2)(us:ZY),us.length=ps.length->bindArgs (W.fnOf x qual (gZ st) (e_ st) (a_ st) .none kV doc pm an fV ct) ⟨us,[]⟩=pure (ps.zip us)):Binds K fd ps []:=by obtain⟨oc,od,kV,doc,pm,an,fV,ct,C2,rfl,lk,zW⟩:=F.ex;exact .all (h kV doc pm an fV ct)
theorem EU{x qual:Str}{st:Stmt}{f:Z4}{oc:Z2}{od an:Option Z4}{C2:Array (ZZ)}{kV doc pm fV ct:Z2}(l:K.lookup f=some ⟨oc,od,.func (W.fnOf x qual (gZ st) (e_ st) (a_ st) .none kV doc pm an fV ct),C2⟩)(c:W.codeIn K fV qual=true)(k:W.keepIn K (.ref f)=true):IK K x qual st f (W.fnOf x qual (gZ st) (e_ st) (a_ st) .none kV doc pm an fV ct):=⟨⟨oc,od,kV,doc,pm,an,fV,ct,C2,rfl,l,c⟩,k⟩
end
def o_(H H':Hp):Prop:=∀b o,H b=some o->H' b=some o
theorem o_.refl(H:Hp):o_ H H:=fun _ _ h=>h
end L2
namespace L2
open PySem.Spec PyProof.Rows
open Sem (wp)
def kM{α:Type}:Sem α->Prop
 |.pure _=>True
 |.raise _=>True
 |.unsupported _=>True
 |.register _ _=>True
 |.load _ _ k=>∀o,kM (k o)
 |.update _ _ _ k=>kM (k ())
 |.alloc _ k=>∀a,kM (k a)
 |.stack k=>∀l,kM (k l)
 |_=>False
theorem bS{α β:Type}{f:α->Sem β}(k:∀a,kM (f a)):∀{t:Sem α},kM t->kM (t >>= f):=by
 intro t
 induction t with
 |pure a=>exact fun _=>k a
 |raise|unsupported|register=>exact fun _=>trivial
 |load a o g ih=>exact fun h x=>ih x (h x)
 |update a o f g ih=>exact fun h=>ih () h
 |alloc o g ih=>exact fun h x=>ih x (h x)
 |stack g ih=>exact fun h x=>ih x (h x)
 |_=>exact fun h=>h.elim
theorem IL{α:Type}{M:Model}{Γ:PySem.Ctx}{Q1 Q2:α->Pos->Z3->Prop}{E1 E2:Z2->Pos->Z3->Prop}{p:Pos}(t:Sem α):∀{s:Z3},kM t->wp M Γ t Q1 E1 p s->wp M Γ t Q2 E2 p s->wp M Γ t (fun a p s=>Q1 a p s/\Q2 a p s) E1 p s:=by
 induction t with
 |load a o k ih=>
  intro s z h1 h2;rw[Sem.wp_load]at h1 h2⊢;obtain⟨x,a1,b1⟩:=h1;obtain⟨y,a2,b2⟩:=h2;rw[a1]at a2;cases a2;exact⟨x,a1,ih _ (z _) b1 b2⟩
 |update a o f k ih=>intro s z h1 h2;rw[Sem.wp_update]at h1 h2⊢;exact⟨h1.1,ih _ z h1.2 h2.2⟩
 |pure a=>exact fun _ h1 h2=>⟨h1,h2⟩
 |raise a=>exact fun _ h1 _=>h1
 |unsupported|register=>exact fun _ h1 _=>h1.elim
 |alloc o k ih=>exact fun z h1 h2=>ih _ (z _) h1 h2
 |stack k ih=>exact fun z h1 h2=>ih _ (z _) h1 h2
 |_=>exact fun z=>z.elim
theorem iP{α:Type}{M:Model}{A:Z5}{t:Sem α}{Q1 Q2 Q:α->Z3->Prop}{E:ZT}{s:Z3}(z:kM t)(h1:wpAny M A t Q1 E s)(h2:wpAny M A t Q2 E s)(h:∀a s',Q1 a s'->Q2 a s'->Q a s'):wpAny M A t Q E s:=by have z:wpAny M A t (fun a s=>Q1 a s/\Q2 a s) E s:=fun Γ p k=>IL t z (h1 Γ p k) (h2 Γ p k);exact Wm z (fun a s' q=>h a s' q.1 q.2) fun _ _ q=>q
theorem nY(v:Z2)(i:Nat):kM (field v i):=by
 unfold field;refine bS (fun a=>?_) ?_
 .split<;>trivial
 .unfold fieldsOf;cases v with
  |ref a=>
   refine bS (fun o=>?_) (fun _=>trivial);split<;>trivial
  |_=>trivial
theorem An(v:Z2)(i:Nat)(x:Z2):kM (setField v i x):=by
 unfold setField;cases v with
 |ref a=>
  refine bS (fun o=>?_) (fun _=>trivial);split
  .split
   .exact trivial
   .exact trivial
  .exact trivial
 |_=>trivial
theorem yx:∀l:List Env,kM (readyFrames l)
 |[]=>trivial
 |env::outer=>by
  unfold readyFrames;split
  .refine bS (fun o=>?_) (fun _=>trivial);split
   .exact trivial
   .refine bS (fun b=>bS (fun v=>bS (fun _=>yx outer) ?_) ?_) ?_
    .exact trivial
    .unfold keptBack;split
     .split
      .exact trivial
      .exact fun _=>trivial
     .exact trivial
    .unfold behindIsImport;split
     .exact trivial
     .split
      .exact trivial
      .refine bS (fun _=>?_) (nY _ _);exact trivial
  .exact trivial
theorem EV(env:Env):kM (PySem.frameOf env):=by
 unfold PySem.frameOf;refine bS (fun l=>bS (fun v=>?_) ?_) (fun _=>trivial)
 .split<;>trivial
 .unfold frameObject;split
  .exact trivial
  .refine bS (fun _=>?_) (yx _);exact trivial
theorem o!(v:Z2)(f:Option Z4):kM (setFlight v f):=by
 unfold setFlight;refine bS (fun t=>?_) (nY _ _);split
 .exact An _ _ _
 .exact trivial
theorem BG(v:Z2)(env:Env):kM (noteFrame v env):=by
 unfold noteFrame;split
 .rename_i f _;have go:∀h b,kM (do setField v 1 (<-EntryCells.newEntry h (<-PySem.frameOf env) .none (rawInt f) .none (<-entryPlaceOf f b))):=fun h b=>by
   refine bS (fun a=>bS (fun l=>bS (fun _=>An _ _ _) ?_) ?_) (EV env)
   .unfold EntryCells.newEntry newFields newObj;dsimp only;split<;>split
    .exact trivial
    .exact fun _=>trivial
    .exact trivial
    .exact fun _=>trivial
   .unfold entryPlaceOf;refine bS (fun _=>?_) (fun _=>trivial);split<;>trivial
  refine bS (fun t=>?_) (nY _ _);split
  .refine bS (fun x=>?_) (nY _ _);split
   .exact trivial
   .exact bS (fun _=>go _ _) (An _ _ _)
  .exact go _ _
 .exact trivial
theorem yy(v:Z2)(env:Env):kM (leaving env v):=bS (fun _=>o! _ _) (BG _ _)
end L2
namespace L2
open PySem.Spec PyProof.Rows
def nu(oe:Obj):Prop:=∃vs,oe.data=.fields vs/\vs[2]?=some Value.none
def sR(h:Heap)(e:Z4):Prop:=∃oe vs,h.get? e=some oe/\oe.data=.fields vs/\vs[2]?=some Value.none/\(vs[1]?=some Value.none\/∃T oT ts,vs[1]?=some (Value.ref T)/\T≠e/\h.get? T=some oT/\oT.data=.fields ts/\3<ts.size)
theorem sR.ctx{h:Heap}{e:Z4}{oe:Obj}(t:sR h e)(he:h.get? e=some oe):nu oe:=by obtain⟨o,vs,h1,h2,h3,_⟩:=t;rw[he]at h1;cases h1;exact⟨vs,h2,h3⟩
section
variable{M:Model}{A:Z5}{E:ZT}{s:Z3}{base:Heap}{env:PySem.Env}{outer:List PySem.Env}{L e:Z4}
theorem nv(h:sR s.heap e):wpAny M A (setFlight (.ref e) none) (fun _ s'=>sR s'.heap e) E s:=by
 obtain⟨oe,vs,he,hd,h2,h1⟩:=h;unfold setFlight;rcases h1 with h1|⟨T,oT,ts,h1,ne,hT,dT,h3⟩
 .refine Vj (V_ he hd h1 ?_);rw[VI (by decide)];exact VC ⟨oe,vs,he,hd,h2,.inl h1⟩
 .refine Vj (V_ he hd h1 ?_);rw[VD (show(Value.ref T !=Value.none)=true from rfl)];refine WQ hT dT h3 ⟨oe,vs,(V5 _ _ ne).trans he,hd,h2,.inr ⟨T,_,_,h1,ne,WJ _ hT (Xi (Wx dT _)),Wx dT _,by rw[ZK];exact h3⟩⟩
theorem yz(ya:A.frames=some (env::outer))(hl:s.heap.FunFrames base (env::outer))(hf:env.frame=some L)(h:sR s.heap e):wpAny M A (noteFrame (.ref e) env) (fun _ s'=>sR s'.heap e) E s:=by
 have go:∀(s1:Z3)(head:Z2)(b:Bool),s1.heap.FunFrames base (env::outer)->sR s1.heap e->wpAny M A (do setField (.ref e) 1 (<-EntryCells.newEntry head (<-frameOf env) .none (rawInt L) .none (<-entryPlaceOf L b))) (fun _ s'=>sR s'.heap e) E s1:=by
  rintro s1 head b hl ⟨oe,vs,he,hd,h2,h1⟩;have z1:1<vs.size:=by rcases h1 with q|⟨_,_,_,q,_⟩<;>exact(Array.getElem?_eq_some_iff.mp q).1
  have UG:e ∉ (env::outer).filterMap (·.frame):=fun hm=>by obtain⟨_,o,ho,C8⟩:=hl.mem hm;rw[he]at ho;cases ho;exact C8 vs hd
  refine Vj (wpAny_frameOf_fun ya hl hf fun h₁ Qk=>?_);refine Vj (wpAny_entryPlaceOf fun pl m6=>?_);unfold EntryCells.newEntry newFields;refine Vj (Wf ?_ (m6.sizeOk5 _ _ _ _ _));have EW:h₁.get? e=some oe:=(Qk.2.1 e UG).trans he;refine WQ (Vm _ EW) hd z1 ?_;have ne:h₁.objs.size≠e:=W4 (VE EW);have d3:=Wx hd (·.setIfInBounds 1 (Value.ref h₁.objs.size));refine⟨_,_,WJ _ (Vm _ EW) (Xi d3),d3,by rw[Array.getElem?_setIfInBounds_ne (by decide)];exact h2,.inr ⟨h₁.objs.size,_,_,by simp[z1],ne,(V5 _ _ (Xf ne)).trans (VL h₁ rfl),rfl,by simp only[VF,Vn,Vk,Vq];lia⟩⟩
 unfold noteFrame;simp only[hf];obtain⟨oe,vs,he,hd,h2,h1⟩:=id h;rcases h1 with h1|⟨T,oT,ts,h1,ne,hT,dT,h3⟩
 .refine Vj (V_ he hd h1 ?_);rw[VI (by decide)];exact go s _ _ hl h
 .refine Vj (V_ he hd h1 ?_);rw[VD (show(Value.ref T !=Value.none)=true from rfl)];refine Vj (V_ hT dT (x:=ts[3]) (by simp[h3]) ?_);split
  .exact VC h
  .refine Vj (WQ hT dT h3 ?_);have oth:∀b,b≠T->(s.heap.update T (Obj.mapFields (·.setIfInBounds 3 Value.none))).get? b=s.heap.get? b:=fun b hb=>V5 _ _ (Xf hb);refine go _ _ _ (hl.of_keeps fun b o hb C8=>⟨o,(oth b fun q=>?_).trans hb,rfl⟩) ⟨oe,vs,(oth e (Xf ne)).trans he,hd,h2,.inr ⟨T,_,_,h1,ne,WJ _ hT (Xi (Wx dT _)),Wx dT _,by rw[ZK];exact h3⟩⟩;rw[q,hT]at hb;cases hb;exact C8 ts dT
theorem qg(ya:A.frames=some (env::outer))(hl:s.heap.FunFrames base (env::outer))(hf:env.frame=some L)(h:sR s.heap e):wpAny M A (leaving env (.ref e)) (fun _ s'=>sR s'.heap e) E s:=
 Vj (Wm (yz ya hl hf h) (fun _ _ q=>nv q) fun _ _ q=>q)
variable{cls a0:Z2}{Q:Unit->Z3->Prop}
theorem EY{h:Heap}{args:ZY}(hx:Heap.MadeExcOf h s.heap e cls args):sR s.heap e:=by obtain⟨t,he,_⟩:=hx.there;exact⟨_,_,he,rfl,rfl,.inl rfl⟩
theorem wN{h:Heap}{args:ZY}(ya:A.frames=some (env::outer))(hf:env.frame=some L)(hkb:base.StaysIn h)(hl:h.FunFrames base (env::outer))(hx:Heap.MadeExcOf h s.heap e cls args)(hQ:∀h' t,Heap.FlyingW base outer e cls (.ref t) h'->s.heap.UpToSlots h'->sR h' e->Q () {s with heap:=h'}):wpAny M A (leaving env (.ref e)) Q E s:=
 iP (yy _ _) (wpAny_leaves_madeW (Q:=fun _ s'=>∃h' t,s' = {s with heap:=h'}/\Heap.FlyingW base outer e cls (.ref t) h'/\s.heap.UpToSlots h') ya hf hkb hl hx fun h' t a _ _ d=>⟨h',t,rfl,a,d⟩) (qg ya (hl.of_keeps fun b o hb _=>⟨o,hx.keeps b o hb,rfl⟩) hf (EY hx))
  fun _ _⟨h',t,z,a,d⟩q=>by subst z;exact hQ h' t a d q
theorem Ao(ya:A.frames=some (env::outer))(hf:env.frame=some L)(OY:Heap.FlyingW base (env::outer) e cls a0 s.heap)(ht:sR s.heap e)(hQ:∀h',Heap.FlyingW base outer e cls a0 h'->s.heap.UpToSlots h'->sR h' e->Q () {s with heap:=h'}):wpAny M A (leaving env (.ref e)) Q E s:=
 iP (yy _ _) (wpAny_leaves_onW (Q:=fun _ s'=>∃h',s' = {s with heap:=h'}/\Heap.FlyingW base outer e cls a0 h'/\s.heap.UpToSlots h') ya hf OY fun h' a d=>⟨h',rfl,a,d⟩) (qg ya OY.2.2.1 hf ht)
  fun _ _⟨h',z,a,d⟩q=>by subst z;exact hQ h' a d q
theorem C9(ya:A.frames=some (env::outer))(hf:env.frame=some L)(OY:Heap.FlyingW base (env::outer) e cls a0 s.heap)(ht:sR s.heap e)(hQ:∀h',Heap.HeldW base (env::outer) e cls a0 L h'->s.heap.UpToSlots h'->sR h' e->Q () {s with heap:=h'}):wpAny M A (noteFrame (.ref e) env) Q E s:=
 iP (BG _ _) (wpAny_looks_onW (Q:=fun _ s'=>∃h',s' = {s with heap:=h'}/\Heap.HeldW base (env::outer) e cls a0 L h'/\s.heap.UpToSlots h') ya hf OY fun h' a d=>⟨h',rfl,a,d⟩) (yz ya OY.2.2.1 hf ht)
  fun _ _⟨h',z,a,d⟩q=>by subst z;exact hQ h' a d q
theorem MJ{l:List PySem.Env}(hh:Heap.HeldW base l e cls a0 L s.heap)(ht:sR s.heap e)(hQ:∀h',Heap.FlyingW base l e cls a0 h'->s.heap.UpToSlots h'->sR h' e->Q () {s with heap:=h'}):wpAny M A (setFlight (.ref e) none) Q E s:=
 iP (o! _ _) (wpAny_landsW (Q:=fun _ s'=>∃h',s' = {s with heap:=h'}/\Heap.FlyingW base l e cls a0 h'/\s.heap.UpToSlots h') hh fun h' a d=>⟨h',rfl,a,d⟩) (nv ht)
  fun _ _⟨h',z,a,d⟩q=>by subst z;exact hQ h' a d q
theorem wO{l:List PySem.Env}(hh:Heap.FlyingW base l e cls a0 s.heap)(ht:sR s.heap e)(hQ:∀h',Heap.FlyingW base l e cls a0 h'->s.heap.UpToSlots h'->sR h' e->Q () {s with heap:=h'}):wpAny M A (setFlight (.ref e) none) Q E s:=
 iP (o! _ _) (lands_againW (Q:=fun _ s'=>∃h',s' = {s with heap:=h'}/\Heap.FlyingW base l e cls a0 h'/\s.heap.UpToSlots h') hh fun h' a d=>⟨h',rfl,a,d⟩) (nv ht)
  fun _ _⟨h',z,a,d⟩q=>by subst z;exact hQ h' a d q
end
section
variable{κ:Type}[DecidableEq κ]
def jQ(aY:List (κ×V))(k:κ):Option V:=(aY.find? fun kv=>decide (kv.1=k)).map (·.2)
def putK(aY:List (κ×V))(k:κ)(v:V):List (κ×V):=
 if(aY.any fun kv=>decide (kv.1=k))=true then aY.map (fun kv=>if kv.1=k then(kv.1,v)else kv)else aY++[(k,v)]
theorem sS{p:κ×V}{r:List (κ×V)}{k:κ}(e:p.1=k):jQ (p::r) k=some p.2:=by simp[jQ,Xx,e]
theorem sT{p:κ×V}{r:List (κ×V)}{k:κ}(e:¬ p.1=k):jQ (p::r) k=jQ r k:=by simp[jQ,Xx,e]
theorem yA(k:κ):∀aY:List (κ×V),(aY.any fun kv=>decide (kv.1=k))=(jQ aY k).isSome
 |[]=>rfl
 |p::r=>by
  rw[Xw];by_cases e:p.1=k
  .simp only[sS e,VW e,Y7,Option.isSome_some]
  .rw[sT e,VV e,XW];exact yA k r
theorem qh(aY:List (κ×V))(k:κ)(v:V):(putK aY k v).length<=aY.length+1:=by
 unfold putK;split
 .rw[Vl];lia
 .rw[Vn,Vk,Vq];lia
theorem sE.C_{o:Option V}{u:ZZ}(r:sE o u):o.isSome=u.isSome:=by
 cases o with
 |none=>cases u with
  |none=>rfl
  |some _=>exact(show False from r).elim
 |some _=>cases u with
  |none=>exact(show False from r).elim
  |some _=>rfl
theorem KV.val{aY:List (κ×V)}{vs:List (κ×Z2)}(r:KV aY vs)(k:κ):sE (jQ aY k) (valueAt vs k):=by
 unfold KV at r
 induction r with
 |nil=>exact True.intro
 | @cons p q ps qs h t ih=>
  obtain⟨h1,h2⟩:=h;by_cases e:p.1=k
  .have e':q.1=k:=h1.symm.trans e;have b:valueAt (q::qs) k=some q.2:=by simp[valueAt,Xx,e']
   rw[sS e,b];exact h2
  .have e':¬ q.1=k:=fun z=>e (h1.trans z);have b:valueAt (q::qs) k=valueAt qs k:=by simp[valueAt,Xx,e']
   rw[sT e,b];exact ih
theorem KV.any{aY:List (κ×V)}{vs:List (κ×Z2)}(r:KV aY vs)(k:κ):(aY.any fun kv=>decide (kv.1=k))=vs.any fun kv=>decide (kv.1=k):=by
 unfold KV at r
 induction r with
 |nil=>rfl
 |cons h t ih=>rw[Xw,Xw,ih,h.1]
theorem KV.Ap{aY:List (κ×V)}{vs:List (κ×Z2)}(r:KV aY vs)(k:κ){y:V}{u:Z2}(ry:bK y u):
  KV (aY.map fun kv=>if kv.1=k then(kv.1,y)else kv) (vs.map fun kv=>if kv.1=k then(kv.1,u)else kv):=by
 unfold KV at r⊢
 induction r with
 |nil=>exact .nil
 | @cons p q ps qs h t ih=>
  rw[Vr,Vr];refine .cons ?_ ih;obtain⟨h1,h2⟩:=h;by_cases e:p.1=k
  .rw[VD e,VD (h1.symm.trans e)];exact⟨h1,ry⟩
  .rw[VI e,VI (fun z=>e (h1.trans z))];exact⟨h1,h2⟩
theorem KV.put{aY:List (κ×V)}{vs:List (κ×Z2)}(r:KV aY vs)(k:κ){y:V}{u:Z2}(ry:bK y u):KV (putK aY k y) (stored vs k u):=by
 unfold putK stored;rw[r.any k];by_cases e:(vs.any fun kv=>decide (kv.1=k))=true
 .rw[VD e,VD e];exact r.Ap k ry
 .rw[VI e,VI e];exact Paired.snoc r ⟨rfl,ry⟩
theorem KV.length{aY:List (κ×V)}{vs:List (κ×Z2)}(r:KV aY vs):aY.length=vs.length:=Zj r
end
theorem EZ{P:Z6}{w:World}{k:e8}{u:Z2}(r:bK (kV k) u):(fu P w).is k u=true:=by
 cases k with
 |inl i=>obtain⟨t,e⟩:=(show ∃t,u=Value.int i t from r);subst e;exact ye P w i t
 |inr x=>obtain⟨t,e⟩:=(show ∃t,u=Value.str x t from r);subst e;exact yf P w x t
theorem vK{P:Z6}{w:World}:∀{ks:List e8}{us:ZY},bA (ks.map kV) us->ItemsAre (fu P w) ks us
 |[],_,r=>by rw[VH]at r;cases r;exact .nil
 |k::ks,_,r=>by
  rw[Vr]at r;cases r with
  |cons h t=>exact .cons (EZ h) (vK t)
abbrev KT(H:Hp):List (List e8×V)->List (List e8×Z4×Z2)->Prop:=Paired fun p q=>p.1=q.1/\H q.2.1=some (.tup (p.1.map kV))/\bK p.2 q.2.2
theorem KT.val{H:Hp}{aY:List (List e8×V)}{xs:List (List e8×Z4×Z2)}(r:KT H aY xs)(k:List e8):sE (jQ aY k) ((atKey xs k).map (·.2)):=by
 induction r with
 |nil=>exact True.intro
 | @cons p q ps qs h t ih=>
  obtain⟨h1,_,h2⟩:=h;by_cases e:p.1=k
  .have e':q.1=k:=h1.symm.trans e;have b:atKey (q::qs) k=some q.2:=by simp[atKey,Xx,e']
   rw[sS e,b];exact h2
  .have e':¬ q.1=k:=fun z=>e (h1.trans z);have b:atKey (q::qs) k=atKey qs k:=by simp[atKey,Xx,e']
   rw[sT e,b];exact ih
theorem KT.Ap{H:Hp}{aY:List (List e8×V)}{xs:List (List e8×Z4×Z2)}(r:KT H aY xs)(k:List e8){y:V}{u:Z2}(ry:bK y u):
  KT H (aY.map fun kv=>if kv.1=k then(kv.1,y)else kv) (xs.map (putAt k u)):=by
 induction r with
 |nil=>exact .nil
 | @cons p q ps qs h t ih=>
  rw[Vr,Vr];refine .cons ?_ ih;obtain⟨h1,h2,h3⟩:=h;unfold putAt;by_cases e:p.1=k
  .rw[VD e,VD (h1.symm.trans e)];exact⟨h1,h2,ry⟩
  .rw[VI e,VI (fun z=>e (h1.trans z))];exact⟨h1,h2,h3⟩
theorem KT.put{H:Hp}{aY:List (List e8×V)}{xs:List (List e8×Z4×Z2)}(r:KT H aY xs)(k:List e8){b:Z4}{y:V}{u:Z2}(hb:H b=some (.tup (k.map kV)))(ry:bK y u):
  KT H (putK aY k y) (storedH xs k b u):=by
 have e:(aY.any fun kv=>decide (kv.1=k))=(atKey xs k).isSome:=by rw[yA,(r.val k).C_,Option.isSome_map]
 unfold putK storedH;rw[e];by_cases q:(atKey xs k).isSome=true
 .rw[VD q,VD q];exact r.Ap k ry
 .rw[VI q,VI q];exact Paired.snoc r ⟨rfl,hb,ry⟩
theorem KT.keeps{H H':Hp}{aY:List (List e8×V)}{xs:List (List e8×Z4×Z2)}(r:KT H aY xs)(ht:∀b ys,H b=some (.tup ys)->H' b=some (.tup ys)):KT H' aY xs:=
 Paired.LJ r fun _ _ z=>⟨z.1,ht _ _ z.2.1,z.2.2⟩
section
variable{P:Z6}{w:World}{H:Hp}{h:Heap}{a:Z4}
theorem KD{u:HO}(ok:jM P w H h)(e:Rd H a u):dE P w H h a u:=e.ok ok
theorem BH{aY:List (e8×V)}(ok:jM P w H h)(e:Rd H a (.dK aY)):aY.length<=sizeLine/\(a==sysModules)=false/\∃vs,KV aY vs/\h.DictOf (fu P w) a vs:=
 show dE P w H h a (.dK aY)from KD ok e
theorem Ql{aY:List (e8×V)}(ok:jM P w H h)(e:H a=some (.dK aY)):aY.length<=sizeLine/\(a==sysModules)=false/\∃vs,KV aY vs/\h.DictOf (fu P w) a vs:=BH ok (.inl e)
theorem Aq{ks:List e8}(ok:jM P w H h)(e:H a=some (.tup (ks.map kV))):(tupleKind (fu P w)).is h ks a:=by
 obtain⟨_,aV,r,o,h1,h2,n,h3⟩:=(show dE P w H h a (.tup (ks.map kV))from ok a _ e)
 exact⟨o,aV.toArray,n,h1,h2,h3,by simpa using vK r⟩
theorem E3{aY:List (List e8×V)}(ok:jM P w H h)(e:Rd H a (.dT aY)):aY.length<=sizeLine/\(a==sysModules)=false /\
  ∃xs,KT H aY xs/\h.DictOfH (tupleKind (fu P w)) a xs:=by
 obtain⟨z,y,xs,r,o,es,ep,h1,h2,h3,h4,h5⟩:=(show dE P w H h a (.dT aY)from KD ok e)
 refine⟨z,y,xs,r,o,es,ep,h1,h2,h3,h4,fun x hx=>?_,h5⟩;have all:∀{l:List (List e8×V)}{m:List (List e8×Z4×Z2)},KT H l m->∀x∈m,(tupleKind (fu P w)).is h x.1 x.2.1:=by
  intro l m q
  induction q with
  |nil=>intro x hx;exact nomatch hx
  | @cons p q ps qs hq t ih=>
   intro x hx;rcases VT.mp hx with e|hx
   .subst e;exact Aq ok (by rw[<-hq.1];exact hq.2.1)
   .exact ih x hx
 exact all r x hx
theorem Qm{aY:List (List e8×V)}(ok:jM P w H h)(e:H a=some (.dT aY)):aY.length<=sizeLine/\(a==sysModules)=false /\
  ∃xs,KT H aY xs/\h.DictOfH (tupleKind (fu P w)) a xs:=E3 ok (.inl e)
end
def u6(H:Hp)(a:Z4)(y:V)(r:Option V):Prop:=
 (∃aY k,Rd H a (.dK aY)/\y=kV k/\r=jQ aY k)\/∃aY k b,Rd H a (.dT aY)/\y=.ref b/\H b=some (.tup (k.map kV))/\r=jQ aY k
def wQ(H:Hp)(a:Z4)(y v:V)(H':Hp):Prop:=
 (∃aY k,H a=some (.dK aY)/\y=kV k/\aY.length<sizeLine/\H'=upd H a (.dK (putK aY k v))) \/
 ∃aY k b,H a=some (.dT aY)/\y=.ref b/\H b=some (.tup (k.map kV))/\aY.length<sizeLine/\H'=upd H a (.dT (putK aY k v))
theorem u6.k{H:Hp}{a:Z4}{aY:List (e8×V)}{k:e8}(e:H a=some (.dK aY)):u6 H a (kV k) (jQ aY k):=.inl ⟨aY,k,.inl e,rfl,rfl⟩
theorem u6.t{H:Hp}{a b:Z4}{aY:List (List e8×V)}{k:List e8}(e:H a=some (.dT aY))(eb:H b=some (.tup (k.map kV))):u6 H a (.ref b) (jQ aY k):=.inr ⟨aY,k,b,.inl e,rfl,eb,rfl⟩
theorem wQ.k{H:Hp}{a:Z4}{aY:List (e8×V)}{k:e8}{v:V}(e:H a=some (.dK aY))(hl:aY.length<sizeLine):wQ H a (kV k) v (upd H a (.dK (putK aY k v))):=.inl ⟨aY,k,e,rfl,hl,rfl⟩
theorem wQ.t{H:Hp}{a b:Z4}{aY:List (List e8×V)}{k:List e8}{v:V}(e:H a=some (.dT aY))(eb:H b=some (.tup (k.map kV)))(hl:aY.length<sizeLine):
  wQ H a (.ref b) v (upd H a (.dT (putK aY k v))):=.inr ⟨aY,k,b,e,rfl,eb,hl,rfl⟩
section
variable{X:Cx}{ae:ZV}{σ:St}{H:Hp}{s:Z3}{a:Z4}{y v:V}{u r:Z2}{o:Option V}{A:Z5}{E:ZT}
theorem aX.big(I:aX X ae σ H s):sysModules<s.heap.objs.size:=by have h:mainGlobals<s.heap.objs.size:=(I.mod.glob.keeps I.bk).lt;exact Nat.lt_trans (by decide) h
theorem C!{Q:ZT}(hu:A.units+1<cLine)(I:aX X ae σ H s)(g:u6 H a y (some v))(ry:bK y u)(h:∀w' s',aX X ae σ H s'->bK v w'->Q w' s'):
  wpAny (model X.prog X.w) A (getItem (.ref a) u) Q E s:=by
 rcases g with⟨aY,k,e,ey,l⟩|⟨aY,k,b,e,ey,eb,l⟩
 .subst ey;obtain⟨z,hd,vs,rel,dd⟩:=BH I.dq e;obtain⟨w',hw,yu⟩:=sE.some_of (v:=v) (o:=valueAt vs k) (by rw[l];exact rel.val k);exact wpAny_getItem_of (EZ ry) dd.mapOf hw (h w' _ (I.tok _) yu)
 .subst ey;cases(show u=Value.ref b from ry);obtain⟨z,hd,xs,rel,dd⟩:=E3 I.dq e;obtain⟨w',hw,yu⟩:=sE.some_of (v:=v) (o:=(atKey xs k).map (·.2)) (by rw[l];exact rel.val k);obtain⟨p,hp,hp2⟩:=Option.map_eq_some_iff.mp hw;refine wpAny_getItem_heap (tupleKind_room_in1 hu) (Aq I.dq eb) dd hp ?_;rw[hp2];exact h w' _ (I.tok _) yu
theorem BJ{h':Heap}{t':Nat}{ob:HO}(I:aX X ae σ H s)(mu:Pe (H a))(hs:Heap.SameBut a s.heap h')(he:∃q,h'.get? a=some q)(new:dE X.prog X.w (upd H a ob) h' a ob):
  aX X ae σ (upd H a ob) {s with heap:=h',toks:=t'}:=
 I.write (x:=a) (e:=a) mu (.inl rfl) (fun b q hb z=>(hs.2 b hb).trans z) he new
theorem MK{P:Z6}{w:World}{H':Hp}{h':Heap}{aY:List (e8×V)}{vs:List (e8×Z2)}(z:aY.length<=sizeLine)(hd:(a==sysModules)=false)(rel:KV aY vs)(dd:h'.DictOf (fu P w) a vs):
  dE P w H' h' a (.dK aY):=⟨z,hd,vs,rel,dd⟩
theorem C?{H':Hp}{Q:Unit->Z3->Prop}(hu:A.units+1<cLine)(I:aX X ae σ H s)(g:wQ H a y v H')(ry:bK y u)(rv:bK v r)(h:∀s',aX X ae σ H' s'->Q () s'):
  wpAny (model X.prog X.w) A (setItem (.ref a) u r) Q E s:=by
 rcases g with⟨aY,k,e,ey,l,eH⟩|⟨aY,k,b,e,ey,eb,l,eH⟩
 .subst ey eH;obtain⟨z,hd,vs,rel,dd⟩:=Ql I.dq e;have hz:vs.length<=sizeLine:=by rw[<-rel.length];exact z
  have hl:(putK aY k v).length<=sizeLine:=by have:=qh aY k v;lia
  refine wpAny_setItem_pairs (hsz:=hz) (EZ ry) dd fun h' SD hs=>h _ ?_;have he:∃q,h'.get? a=some q:=let⟨q,_,_,hq,_⟩:=SD;⟨q,hq⟩
  exact BJ I (by rw[e];exact True.intro) hs he (MK hl hd (rel.put k rv) SD)
 .subst ey eH;cases(show u=Value.ref b from ry);obtain⟨z,hd,xs,rel,dd⟩:=Qm I.dq e;have hz:xs.length<=sizeLine:=by rw[<-Zj rel];exact z
  have hl:(putK aY k v).length<=sizeLine:=by have:=qh aY k v;lia
  refine wpAny_setItem_heap (hsz:=hz) (tupleKind_room_in1 hu) (Aq I.dq eb) dd fun h' SD hs=>h _ ?_;obtain⟨q,es,ep,hq,h2,h3,h4,_,h5⟩:=SD;refine BJ I (by rw[e];exact True.intro) hs ⟨q,hq⟩ ⟨hl,hd,_,(rel.put k eb rv).keeps fun c ys ec=>?_,q,es,ep,hq,h2,h3,h4,h5⟩;rw[bB (Pd ec e (fun z=>nomatch z))];exact ec
end
def ML(i:Expr):Prop:=∀ov iv,subscripted i false ov iv=operate [ov,iv] (getItem ov iv)
theorem IM{prog:Z6}{w:World}{A:Z5}{E:ZT}{s:Z3}{env:Env}{value slice:Expr}{pos:Pos}{T id:String}{Q:ZT}(hl:typeLookup (.type T) "__getitem__" = pure (some (.builtin id)))(hs:ML slice)(h:wpAny (model prog w) A (eval value env) (fun o s₁=>wpAny (model prog w) A (eval slice env) (fun i s₂=>s₂.TypeIs o T/\wpAny (model prog w) A (getItem o i) Q E s₂) E s₁) E s):
  wpAny (model prog w) A (eval (.Subscript value slice pos) env) Q E s:=by
 refine Subscript_ (Wm h (fun o s₁ h₁=>Wm h₁ (fun i s₂ h₂=>?_) fun _ _ x=>x) fun _ _ x=>x);obtain⟨hT,h₂⟩:=h₂;unfold subscriptTail;refine Vj ?_;rw[getitemInPython_of_ne hT.not_modules];refine Vj (wpAny_specialOf hT hl ?_);have fin:wpAny (model prog w) A (subscripted slice false o i) (fun r s₃=>wpAny (model prog w) A (letTemporaryGo value o r >>= fun _=>pure r) Q E s₃) E s₂:=by rw[hs o i];exact wpAny_operating (Wm h₂ (fun r s₃ h₃=>Vj (wpAny_letTemporaryGo (VC h₃))) fun _ _ x=>x)
 first
  |exact VC (Vj fin)
  |exact Vj (VC (Vj fin))
  |exact Vj fin
theorem yB{X:Cx}{ae:ZV}{σ:St}{H:Hp}{s:Z3}{a:Z4}{y:V}{o:Option V}(I:aX X ae σ H s)(g:u6 H a y o):s.TypeIs (.ref a) "dict":=by
 rcases g with⟨aY,k,e,_,_⟩|⟨aY,k,b,e,_,_,_⟩
 .obtain⟨_,_,vs,_,dd⟩:=BH I.dq e;exact dd.typeIs
 .obtain⟨_,_,xs,_,dd⟩:=E3 I.dq e;exact dd.typeIs
def Qn(td ty:TE):TE:=fun σ H Q=>td σ H fun x H1=>ty σ H1 fun y H2=>∃a v,x=.ref a/\u6 H2 a y (some v)/\Q v H2
def Qo(td ty tv:TE):TS:=fun D σ H=>tv σ H fun v H1=>td σ H1 fun x H2=>ty σ H2 fun y H3=>∃a H4,x=.ref a/\wQ H3 a y v H4/\D.nx σ H4
section
variable{X:Cx}{o i e value:Expr}{pos pos' nW:Pos}{td ty tv:TE}
theorem IP(hu:X.A.units+1<cLine)(ho:PE X o td)(hi:PE X i ty)(hs:ML i):PE X (.Subscript o i pos) (Qn td ty):=by intro ae s σ H Q I h;refine IM PySem.F.slot_dict_getitem.lookup hs (dJ (ho ae s σ H _ I h) fun u s1⟨x,H1,I1,rx,q1⟩=>dJ (hi ae s1 σ H1 _ I1 q1) fun iv s2⟨y,H2,I2,ry,a,v,ex,g,q2⟩=>?_);subst ex;obtain rfl:u=Value.ref a:=rx;exact⟨yB I2 g,C! hu I2 g ry fun w' s3 I3 yu=>⟨v,H2,I3,yu,q2⟩⟩
theorem IQ(hu:X.A.units+1<cLine)(ho:PE X o td)(hi:PE X i ty)(hv:PE X value tv)(hs:swapsWith value (some (.Subscript o i pos')) pos.line X.env=pure false):
  PS X (.Assign [.Subscript o i pos'] value pos) (Qo td ty tv):=by
 intro ae s σ H D I h;refine wpAny_Assign_Subscript (dJ (hv ae s σ H _ I h) fun r s1⟨v,H1,I1,rv,q1⟩=>dJ (ho ae s1 σ H1 _ I1 q1) fun u s2⟨x,H2,I2,rx,q2⟩=>dJ (hi ae s2 σ H2 _ I2 q2) fun iv s3⟨y,H3,I3,ry,a,H4,ex,g,q3⟩=>?_) hs;subst ex;obtain rfl:u=Value.ref a:=rx;exact C? hu I3 g ry rv fun s4 I4=>⟨σ,H4,I4,q3⟩
end
theorem E4{P:Z6}{w:World}{H:Hp}(h:Heap)(hb:sysModules<h.objs.size):dE P w H (h.push {cls:=.type "dict",data:=.dict #[]}) h.objs.size (.dK []):=
 ⟨WH _,Xr.mpr (Xf (V1 hb)),[],.nil,Heap.DictOf.new h⟩
def MM:TE:=fun _ H Q=>∀p,H p=none->Q (.ref p) (upd H p (.dK []))
section
variable{X:Cx}{pos:Pos}
theorem E5:PE X (.Dict [] [] pos) MM:=fun ae s σ H Q I h=>
 wpAny_Dict_empty ⟨.ref s.heap.objs.size,_,I.laid (a:=s.heap.objs.size) (o:=.dK []) (t':=s.toks) (fun _ _ q=>Vm _ q) (VA _) (E4 s.heap I.big),rfl,h _ (I.dq.fresh (VA _))⟩
end
def IsD(H:Hp)(a:Z4):Prop:=(∃aY,Rd H a (.dK aY))\/∃aY,Rd H a (.dT aY)
theorem o_.upd{H H':Hp}{p:Z4}{o:HO}(e:o_ H H')(h:H' p=none):o_ H (upd H' p o):=fun b u q=>by rw[bB (bC (e b u q) h)];exact e b u q
def qK(k:Nat)(i:Int):Prop:=i.natAbs<2 ^ k
theorem qK.bits{k:Nat}{i:Int}(h:qK k i):Builtin.Int.intBits i<=k:=by
 unfold Builtin.Int.intBits;by_cases hz:(i==0)=true
 .rw[VD hz];exact WH _
 .rw[VI hz];have h0:i.natAbs≠0:=by intro e;apply hz;have:i=0:=Zl.mp e;simp[this]
  have:=(Yr h0).mpr h;lia
theorem qK.le{k:Nat}{i j:Int}(h:qK k j)(e:i.natAbs<=j.natAbs):qK k i:=Nat.lt_of_le_of_lt e h
theorem qK.small{k:Nat}{i:Int}(hk:10<=k)(h0:-1000<i)(h1:i<1000):qK k i:=by show i.natAbs<2 ^ k;have:2 ^ 10<=2 ^ k:=X_ (by decide) hk;lia
def BL(i j:Int):Prop:=∃a b,qK a i/\qK b j/\a<=2 ^ 20/\b<=2 ^ 20
theorem BL.ok{i j:Int}(h:BL i j):IntMulOk i j:=by obtain⟨a,b,h1,h2,h3,h4⟩:=h;exact IntMulOk.of_bits (V! h1.bits h3) (V! h2.bits h4)
def BM(i j:Int):Prop:=j≠0/\qK 9000 j
theorem BM.ok{i j:Int}(h:BM i j):Builtin.divisionGoesByPylong i j=false:=
 YO ((Yr (by intro e;exact h.1 (Zl.mp e))).mpr h.2)
section
variable{X:Cx}
theorem IS:eY X (binaryOp .Mult) (rI BL fun i j=>.int (i*j)):=PL fun _ _ _ _ _ _ _ hc q=>PyProof.Rows.mul_int q hc.ok
theorem E6:eY X (binaryOp .FloorDiv) (rI BM fun i j=>.int (i.fdiv j)):=PL fun _ _ _ _ _ _ _ hc q=>floordiv_int hc.1 q (.inl hc.ok)
end
def zZ(X:Cx)(ifs:List Expr)(t:TT):Prop:=
 ∀(ae:ZV)(s:Z3)(σ:St)(H:Hp)(Q:Bool->Hp->Prop),aX X ae σ H s->t σ H Q ->
  wpAny (model X.prog X.w) X.A (forIn ifs true fun c r=>if r=true then do let ok <- isTrue c X.env (eval c X.env);pure (ForInStep.yield ok)else pure (ForInStep.yield r)) (TP X ae σ Q) X.xe s
def Qp:TT:=fun _ H Q=>Q true H
theorem IT{X:Cx}:zZ X [] Qp:=fun _ _ _ H _ I h=>wpAny_tests_nil ⟨H,I,h⟩
theorem IU{X:Cx}{c:Expr}{t:TT}(h:PT X c t):zZ X [c] t:=fun ae s σ H Q I hw=>wpAny_tests_one (h ae s σ H Q I hw)
theorem jM.Qq{P:Z6}{w:World}{H:Hp}{h:Heap}{a:Z4}{o:HO}(x:jM P w H h)(hn:H a=none)(new:dE P w (upd H a o) h a o):jM P w (upd H a o) h:=fun b u e=>by
 by_cases hb:b=a
 .subst hb;rw[dr]at e;cases e;exact new
 .rw[bB hb]at e;exact(x b u e).qF (fun c v _ q=>q) (fun c q=>by rw[bB (bC q hn)];exact q) fun c xs q=>by rw[bB (bC q hn)];exact q
def oW(X:Cx)(N:Z1)(scope:Scope)(cl:List (Str×Z4))(C:Z4)(fp:Z0)(s:Z3)(H:Hp):Cx:=
 {X with N:=N,s₀:=s,H₀:=H,env:=compEnvC scope cl C X.env,outer:=X.stack,stack:=X.stack,ex:=fp,fn:=fun _=>false,pn:=[],xe:=fun _ _=>False}
def qM(k:Nat)(bu:List Nat)(σ:St):St:=List.replicate k none++bu.map fun j=>(σ[j]?).getD none
structure o?(X:Cx)(N:Z1)(scope:Scope)(cl:List (Str×Z4))(k:Nat)(bu:List Nat):Prop where
 pb:closureFor scope X.env=pure cl
 sub:∀x c,cl.lookup x=some c->X.env.cells.lookup x=some c
 has:∀x,((relabel scope X.env).names.lookup x=some .cell\/(relabel scope X.env).names.lookup x=some .free)->∃c,cl.lookup x=some c
 iQ:∀x∈scope.names,x.2≠.cell
 kind:scope.kind=.function
 names:∀x∈scope.names,x.2=.local->scope.names.lookup x.1=some .local
 len:N.length=k+bu.length
 at_:∀i j x,bu[i]?=some j->N[k+i]?=some x->X.N[j]?=some x/\(X.env.kindOf x=some .cell\/X.env.kindOf x=some .free)/\((relabel scope X.env).names.lookup x=some .cell\/(relabel scope X.env).names.lookup x=some .free)
def vL(J:It)(k:Nat)(bu:List Nat)(g:TG)(tt:TT)(te:TE)(σ:St)(H1:Hp)(Q:VK):Prop:=
 ∃W:Nat->Nat->List V->St->Hp->Prop,(∃m,W 0 m [] (qM k bu σ) H1)/\∀i m ys τ H,W i m ys τ H ->
  (J.stop i H/\ys.length<=sizeLine/\∀p,H p=none->Q (.ref p) (upd H p (.lst ys))) \/
  (J.go i H/\ys.length<sizeLine/\∀x H',J.OU i H x H'->g x τ H' fun τ2 H2=>tt τ2 H2 fun b H3=>if b=true then te τ2 H3 fun y H4=>∃m',m'<m/\W (i+1) m' (ys++[y]) τ2 H4 else ∃m',m'<m/\W (i+1) m' ys τ2 H3)
@[irreducible] def qi(k:Nat)(bu:List Nat)(wi:TI)(g:TG)(tt:TT)(te:TE):TE:=fun σ H Q=>wi σ H fun J H1=>vL J k bu g tt te σ H1 Q
theorem yC{k:Nat}{bu:List Nat}{wi:TI}{g:TG}{tt:TT}{te:TE}{σ:St}{H:Hp}{Q:VK}(h:wi σ H fun J H1=>vL J k bu g tt te σ H1 Q):qi k bu wi g tt te σ H Q:=by unfold qi;exact h
theorem mw{k:Nat}{bu:List Nat}{wi:TI}{g:TG}{tt:TT}{te:TE}{σ:St}{H:Hp}{Q:VK}(h:qi k bu wi g tt te σ H Q):wi σ H fun J H1=>vL J k bu g tt te σ H1 Q:=by unfold qi at h;exact h
section
variable{X:Cx}{ae:ZV}{σ:St}{H:Hp}{s:Z3}
theorem IV{k:Nat}{bu:List Nat}{σ:St}{i:Nat}{v:V}(h:(qM k bu σ)[i]?=some (some v)):∃j,k<=i/\bu[i-k]?=some j/\σ[j]?=some (some v):=by
 unfold qM at h;by_cases hi:i<k
 .rw[V0 (by simpa using hi),Wz]at h;split at h<;>cases h
 .rw[VP (by simpa using Yo hi),VU,VG]at h;cases e:bu[i-k]? with
  |none=>rw[e]at h;cases h
  |some j=>
   rw[e]at h;refine⟨j,Yo hi,rfl,?_⟩;have h':(σ[j]?).getD none=some v:=by simpa using h
   cases q:σ[j]? with
   |none=>rw[q]at h';cases h'
   |some o=>rw[q]at h';exact W2 some h'
theorem aX.block{N:Z1}{scope:Scope}{cl:List (Str×Z4)}{k:Nat}{bu:List Nat}{fp:Z0}{C:Z4}{h':Heap}{t':Nat}{m':ZU}(I:aX X ae σ H s)(B:o? X N scope cl k bu)(hf:∀b∈fp,kC X ae H b)(hC:s.heap.objs.size<=C)(Qr:∀b∈fp,∃o,s.heap.get? b=some o)(kp:∀b o,s.heap.get? b=some o->h'.get? b=some o)(ns:h'.Ns C m'):aX (oW X N scope cl C fp s H) [] (qM k bu σ) H {s with heap:=h',toks:=t'}:=by
 have below:∀{b:Z4}{o:Obj},s.heap.get? b=some o->b≠C:=fun e=>V1 (VJ (VE e) hC);have Qt:∀x c,cl.lookup x=some c->∃v,s.heap.IsCell c v:=fun x c e=>I.cell x c (B.sub x c e);refine⟨⟨I.ok.mod,?_,I.ok.glob,I.ok.blt,hC,fun x y c h1 h2=>I.ok.inj x y c (B.sub x c h1) (B.sub y c h2),fun x hx=>B.has x hx,fun x c h1 _=>?_,I.ok.hd,I.ok.frames,.inl rfl,fun b hb=>⟨?_,fun x c e=>?_⟩,I.bs,V! I.ok.HJ I.sz,fun b o e hb=>?_,fun b hb=>?_,I.stack,I.wA⟩,
  rfl,I.bare,Un.kept kp,⟨m',ns,fun i x v h1 h2 h3=>?_⟩,fun x c e=>?_,?_,fun x c e=>I.jf x c (B.sub x c e),fun p hp=>absurd (show p∈([]:ZV)from hp) (by simp),I.dq.kept kp,?_⟩
 .exact B.kind
 .exact absurd h1 (by simp[oW])
 .obtain⟨o,e⟩:=Qr b hb;exact below e
 .exact(hf b hb).2.2.2.2.1 x c (B.sub x c e)
 .obtain⟨_,_,_,h4,_⟩:=hf b hb;rcases h4 with z|z
  .exact I.ok.yh b o e z
  .exact absurd (VJ (VE (I.ok.bs b o e).1) z) (Wg _)
 .intro z;rcases VT.mp (I.sG b z)with e|e
  .exact(hf b hb).2.1 e
  .exact(hf b hb).2.2.1 e
 .obtain⟨j,hk,hj,hσ⟩:=IV h2;have hN:N[k+(i-k)]?=some x:=by rw[Nat.add_sub_cancel' hk];exact h1
  obtain⟨a1,a2,a3⟩:=B.at_ (i-k) j x hj hN;obtain⟨m,hn,hl⟩:=I.loc;have T':Pg X.env.scope x:=by
   rcases a2 with z|z
   .exact .inr (.inl z)
   .exact .inr (.inr z)
  obtain⟨u,r,l⟩:=hl j x v a1 hσ T';refine⟨u,r,.inr ⟨a3,?_⟩⟩;rcases l with⟨z,_⟩|⟨_,c,e,cc⟩
  .rcases a2 with y|y<;>(rw[z]at y;cases y)
  .obtain⟨c',e'⟩:=B.has x a3;have:X.env.cells.lookup x=some c':=B.sub x c' e';rw[e]at this;cases this;obtain⟨o,ho,hd⟩:=cc;exact⟨c,e',o,kp c o ho,hd⟩
 .obtain⟨v,o,ho,hd⟩:=Qt x c e;exact⟨v,o,kp c o ho,hd⟩
 .exact I.dq.fresh hC
 .show(qM k bu σ).length=N.length;unfold qM;rw[Vn,VU,Vl,B.len]
def yD(X:Cx)(ae:ZV)(σ:St)(s:Z3)(Q:VK)(acc:Z2)(C:Z4)(s':Z3):Prop:=
 ∃D H',acc=.ref D/\s.heap.objs.size<=C/\aX X ae σ H' s'/\H' C=none/\(∃m,s'.heap.Ns C m)/\Q (.ref D) H'
structure E7(C:Cx->Prop)(P:Z6)(w:World)(K:ZW)(tg:Expr)(J:It)(fp:Z0)(it:Z4)(tn:Nat->Heap->Prop):Prop where
 obj:∀i h,tn i h->∀b∈fp,∃o,h.get? b=some o/\∀v,o.data≠.cell v
 keep:∀i h h',tn i h->(∀b∈fp,∀o,h.get? b=some o->h'.get? b=some o)->tn i h'
 item:∀(X:Cx),X.prog=P->X.w=w->X.K=K->C X->∀(i:Nat)(ae:ZV)(s:Z3)(σ:St)(H:Hp)(E:ZT),aX X ae σ H s->(∀b∈fp,kC X ae H b)->tn i s.heap->J.go i H ->
  wpAny (model P w) X.A (pyNext (.ref it)) (fun r s1=>∃u,r=some u/\wpAny (model P w) X.A (letOwnedTupleGo tg (.ref it) u) (fun _ s2=>∃x H',aX X ae σ H' s2/\bK x u/\J.OU i H x H'/\tn (i+1) s2.heap/\∀b∈fp,H' b=none) E s1) E s
 done:∀(X:Cx),X.prog=P->X.w=w->X.K=K->C X->∀(i:Nat)(ae:ZV)(s:Z3)(σ:St)(H:Hp)(E:ZT),aX X ae σ H s->(∀b∈fp,kC X ae H b)->tn i s.heap->J.stop i H ->
  wpAny (model P w) X.A (pyNext (.ref it)) (fun r s1=>r=none/\aX X ae σ H s1) E s
 self:∀(A:Z5)(i:Nat)(s:Z3)(Q:ZT)(E:ZT),tn i s.heap->Q (.ref it) s->wpAny (model P w) A (pyIter (.ref it)) Q E s
theorem Turn.c{P:Z6}{w:World}{K:ZW}{tg:Expr}{J:It}{fp:Z0}{it:Z4}{tn:Nat->Heap->Prop}(T:Turn P w K tg J fp it tn):E7 (fun X=>X.calm=true) P w K tg J fp it tn:=⟨T.obj,T.keep,T.item,T.done,T.self⟩
def OZ(X:Cx)(N:Z1)(scope:Scope)(cl:List (Str×Z4))(C:Z4)(fp:Z0)(s:Z3)(H:Hp)(xe:Z4->Z2->Z3->Prop):Cx:={oW X N scope cl C fp s H with xe:=xe C}
theorem aX.xe{X:Cx}{ae:ZV}{σ:St}{H:Hp}{s:Z3}(I:aX X ae σ H s)(x:ZT):aX {X with xe:=x} ae σ H s:=by obtain⟨⟨o1,o2,o3,o4,o5,o6,o7,o8,o9,o10,o11,o12,o13,o14,o15,o16,o17,o18⟩,i2,i3,i4,i5,i6,i7,i8,i9,i10,i11⟩:=I;exact⟨⟨o1,o2,o3,o4,o5,o6,o7,o8,o9,o10,o11,o12,o13,o14,o15,o16,o17,o18⟩,i2,i3,i4,i5,i6,i7,i8,i9,i10,i11⟩
def MP(X:Cx)(fp:Z0)(C:Z4)(s:Z3)(H:Hp):Prop:=∃ae σ,aX X ae σ H s/\(∀b∈fp,kC X ae H b)/\s.heap.objs.size<=C
theorem MQ{α:Type}{M:Model}{A:Z5}{m:Sem α}{Q Q':α->Z3->Prop}{E E':ZT}{s:Z3}(he:∀x s',E x s'->E' x s')(h:wpAny M A m Q E s)(k:∀a s',Q a s'->Q' a s'):wpAny M A m Q' E' s:=Wm h k he
theorem u7{prog:Z6}{w:World}{A:Z5}{s:Z3}{elt target iter:Expr}{ifs:List Expr}{scope:Scope}{pos:Pos}{it acc:Z2}{env:Env}{R:Result->Z3->Prop}(I:Nat->Z3->Prop)
  (turn:∀ n s,I n s->wpAny (model prog w) A (pyNext it) (fun r s₁=>match r with
   |none=>R (.ok .next) s₁
   |some v=>wpAny (model prog w) A (letOwnedTupleGo target it v) (fun _ KG=>wpAny (model prog w) A (assign target env v) (fun _ s₂=>
     wpAny (model prog w) A (forIn ifs true fun c r=>if r=true then do let ok <- isTrue c env (eval c env);pure (ForInStep.yield ok)else pure (ForInStep.yield r)) (fun ok s₃=>
      if ok=true then wpAny (model prog w) A (eval elt env) (fun x s₄=>
       wpAny (model prog w) A (call (.builtin "list.append") [acc,x]) (fun _ s₅=>∃m,m<n/\I m s₅) (notedBy (model prog w) A env fun x s'=>R (.error x) s') s₄) (notedBy (model prog w) A env fun x s'=>R (.error x) s') s₃
      else ∃m,m<n/\I m s₃) (notedBy (model prog w) A env fun x s'=>R (.error x) s') s₂) (notedBy (model prog w) A env fun x s'=>R (.error x) s') KG) (notedBy (model prog w) A env fun x s'=>R (.error x) s') s₁) (notedBy (model prog w) A env fun x s'=>R (.error x) s') s)
  (n:Nat) (h:I n s):codeAny (model prog w) A (.compLoop (.ListComp elt [⟨target,iter,ifs,0⟩] scope pos) 0 it acc env) R s:=by
 refine codeAny_loop rfl I (fun n s hI=>?_) n h;show wpAny _ A ((compTurn (.ListComp elt [⟨target,iter,ifs,0⟩] scope pos) 0 it acc env).onRaise (fun x=>do noteFrame x env;theTreesLotGoes x)) _ _ s;refine wpAny_noted ?_;rw[compTurn_list];refine Vj (Za (Vj (Wm (turn n s hI) (fun r s₁ h₁=>?_) fun _ _ h'=>h')));cases r with
 |none=>exact VC h₁
 |some v=>
  refine Vj (Wm h₁ (fun _ KG Qu=>?_) fun _ _ h'=>h');refine Vj (Wm Qu (fun _ s₂ h₂=>Vj (Wm h₂ (fun ok s₃ h₃=>?_) fun _ _ h'=>h')) fun _ _ h'=>h');cases ok with
  |false=>exact VC ⟨rfl,h₃⟩
  |true=>exact Vj (Vj (Wm h₃ (fun x s₄ h₄=>Vj (Wm h₄ (fun _ s₅ h₅=>VC (VC ⟨rfl,h₅⟩)) fun _ _ h'=>h')) fun _ _ h'=>h'))
theorem sU{tg elt iter:Expr}{ifs:List Expr}{scope:Scope}{pos:Pos}{N:Z1}{cl:List (Str×Z4)}{k:Nat}{bu:List Nat}{g:TG}{tt:TT}{te:TE}{it:Z4}{fp:Z0}{tn:Nat->Heap->Prop}{J:It}{Q:VK}{RR:Z2->Env->Result->Z3->Prop}{E:ZT}{xe:Z4->Z2->Z3->Prop}{Cd:Cx->Prop}(hc:∀D,Cd (OZ X N scope cl D fp s H xe))(B:o? X N scope cl k bu)(hg:∀C fp s H,PG (OZ X N scope cl C fp s H xe) tg g)(hi:∀C fp s H,zZ (OZ X N scope cl C fp s H xe) ifs tt)(he:∀C fp s H,MP X fp C s H->PE (OZ X N scope cl C fp s H xe) elt te)(I:aX X ae σ H s)(T:E7 Cd X.prog X.w X.K tg J fp it tn)(st:tn 0 s.heap)(hf:∀b∈fp,kC X ae H b)(h:vL J k bu g tt te σ H Q)(UH:∀acc C s',yD X ae σ s Q acc C s'->RR acc (compEnvC scope cl C X.env) (.ok .next) s')(mon:∀acc C x s',xe C x s'->notedBy (model X.prog X.w) X.A (compEnvC scope cl C X.env) (fun x s'=>RR acc (compEnvC scope cl C X.env) (.error x) s') x s'):
  wpAny (model X.prog X.w) X.A (newList []) (fun acc s₃=>wpAny (model X.prog X.w) X.A (newFunctionEnv scope X.env.globals cl [] X.env.qual none .none (some X.env)) (fun E8 s₄=>
   codeAny (model X.prog X.w) X.A (.compStart (.ListComp elt [⟨tg,iter,ifs,0⟩] scope pos) 0 (.ref it) acc {E8 with scope:=relabel scope X.env}) (RR acc {E8 with scope:=relabel scope X.env}) s₄) E s₃) E s:=by
 obtain⟨W,⟨m0,w0⟩,turn⟩:=h;refine Wf (wpAny_newFunctionEnv B.iQ (by intro y hy;simp at hy) (fun h₁ Ar wU=>?_) B.kind);dsimp only at Ar wU⊢;generalize UI:s.heap.push {cls:=.type "list",dict:=none,data:=.seq ([]:ZY).toArray} = H2 at Ar wU⊢;have hC:H2.objs.size=s.heap.objs.size+1:=by rw[<-UI,XA]
 have Qv:s.heap.objs.size<=H2.objs.size:=by rw[hC];exact Nat.le_succ _
 have SE:s.heap.objs.size≠H2.objs.size:=by rw[hC];exact V1 (XY _)
 have old:∀b o,s.heap.get? b=some o->h₁.get? b=some o:=fun b o e=>wU.extBut b o (V1 (VJ (VE e) Qv)) (Vm _ (UI▸Vm _ e));have MR:h₁.get? s.heap.objs.size=some {cls:=.type "list",data:=.seq ([]:ZY).toArray 0}:=wU.extBut _ _ SE (Vm _ (UI▸VL _ rfl));have UJ:=T.obj 0 _ st;have Qr:∀b∈fp,∃o,s.heap.get? b=some o:=fun b hb=>let⟨o,e,_⟩:=UJ b hb;⟨o,e⟩
 have hDf:∀b∈fp,b≠s.heap.objs.size:=fun b hb z=>by obtain⟨o,e⟩:=Qr b hb;exact absurd (VE e) (by rw[z];exact Wg _)
 have hD0:H s.heap.objs.size=none:=I.dq.fresh (VA _);have KH:tn 0 h₁:=T.keep 0 _ _ st fun b _ o e=>old b o e;have Qw:∀x c,cl.lookup x=some c->c≠s.heap.objs.size:=fun x c e z=>by obtain⟨v,o,ho,_⟩:=I.cell x c (B.sub x c e);exact absurd (VE ho) (by rw[z];exact Wg _)
 have UK:∀b∈iG X.stack,b≠s.heap.objs.size:=fun b hb z=>by obtain⟨_,o,ho,_⟩:=I.stack.mem hb;exact absurd (VE ho) (by rw[z];exact Wg _)
 have loop:∀s₃:Z3,s₃ = {s with heap:=h₁,toks:=s.toks+([]:List (Str×Z2)).length} ->
   codeAny (model X.prog X.w) X.A (.compLoop (.ListComp elt [⟨tg,iter,ifs,0⟩] scope pos) 0 (.ref it) (.ref s.heap.objs.size) (compEnvC scope cl H2.objs.size X.env)) (RR (.ref s.heap.objs.size) (compEnvC scope cl H2.objs.size X.env)) s₃:=by
  rintro s₃ rfl;generalize z_:OZ X N scope cl H2.objs.size fp s H xe=XB;have eP:XB.prog=X.prog:=by rw[<-z_];rfl
  have eW:XB.w=X.w:=by rw[<-z_];rfl
  have eK:XB.K=X.K:=by rw[<-z_];rfl
  have eA:XB.A=X.A:=by rw[<-z_];rfl
  have eE:XB.env=compEnvC scope cl H2.objs.size X.env:=by rw[<-z_];rfl
  have eL:XB.env.locals=H2.objs.size:=by rw[eE];rfl
  have eF:XB.fs=iG X.stack:=by rw[<-z_];rfl
  have eX:XB.ex=fp:=by rw[<-z_];rfl
  have eN:XB.pn=[]:=by rw[<-z_];rfl
  have e0:XB.s₀=s:=by rw[<-z_];rfl
  have eC:Cd XB:=by rw[<-z_];exact hc _
  have ecl:XB.env.cells=cl:=by rw[eE];rfl
  have UL:XB.xe=xe H2.objs.size:=by rw[<-z_];rfl
  have mon:=mon (.ref s.heap.objs.size) H2.objs.size;have uV:PG XB tg g:=by rw[<-z_];exact hg _ _ _ _
  have z!:zZ XB ifs tt:=by rw[<-z_];exact hi _ _ _ _
  have wV:PE XB elt te:=by rw[<-z_];exact he _ _ _ _ ⟨ae,σ,I,hf,Qv⟩
  have I0:aX XB [] (qM k bu σ) H {s with heap:=h₁,toks:=s.toks+([]:List (Str×Z2)).length}:=by rw[<-z_];exact(I.block B hf Qv Qr old Ar).xe _
  -- uY KI pinned
  have UM:∀{τ:St}{H':Hp}{s':Z3}{aV:ZY}{nn:Nat},aX XB [] τ H' s'->s'.heap.get? s.heap.objs.size=some {cls:=.type "list",data:=.seq aV.toArray nn}->H' s.heap.objs.size=none ->
    aX XB [(s.heap.objs.size,{cls:=.type "list",data:=.seq aV.toArray nn})] τ H' s':=fun{τ H' s' aV nn}J hd hn=>J.rN fun p hp=>by
   obtain rfl:p=_:=VY.mp hp;refine⟨hd,hn,by rw[eL];exact SE,by rw[eF];exact fun z=>UK _ z rfl,fun v z=>?_⟩;have z':Data.seq aV.toArray nn=Data.cell v:=z;cases z'
  have Af:∀{H':Hp}{o:Obj},(∀b∈fp,H' b=none)->∀b∈fp,kC XB [(s.heap.objs.size,o)] H' b:=fun{H' o}hn b hb=>by
   obtain⟨_,f1,f2,f3,f4,f5⟩:=hf b hb;refine⟨hn b hb,?_,?_,.inl (by rw[eX];exact hb),fun x c e=>f4 x c (B.sub x c (by rw[<-ecl];exact e)),fun p hp=>?_⟩
   .rw[eL];obtain⟨o,e⟩:=Qr b hb;exact V1 (VJ (VE e) Qv)
   .rw[eF];intro z;rcases VT.mp (I.sG b z)with e|e
    .exact f1 e
    .exact f2 e
   .rw[eN]at hp;obtain rfl:p=_:=VY.mp (by simpa using hp);exact Xf (hDf b hb)
  refine u7 (fun n s'=>∃i ys aV nn τ H',aX XB [] τ H' s'/\s'.heap.get? s.heap.objs.size=some {cls:=.type "list",data:=.seq aV.toArray nn}/\H' s.heap.objs.size=none/\bA ys aV/\tn i s'.heap/\(∀b∈fp,H' b=none)/\W i n ys τ H') ?_ m0
   ⟨0,[],[],0,qM k bu σ,H,I0,MR,hD0,.nil,KH,fun b hb=>(hf b hb).1,w0⟩
  rintro n s3 ⟨i,ys,aV,nn,τ,H3,I3,hd3,hn3,SF,mZ,PF,w3⟩;have I3':=UM I3 hd3 hn3;rcases turn i n ys τ H3 w3 with⟨stop,hz,qn⟩|⟨go,hz,step⟩
  .have D1:=T.done XB eP eW eK eC i _ s3 τ H3 (notedBy (model X.prog X.w) X.A (compEnvC scope cl H2.objs.size X.env) fun x s'=>RR (.ref s.heap.objs.size) (compEnvC scope cl H2.objs.size X.env) (.error x) s') I3' (Af PF) mZ stop;rw[eA]at D1;refine dJ D1 fun r s4⟨hr,I4⟩=>?_;subst hr;refine UH _ _ s4 ?_;obtain⟨pd,Qx,_⟩:=I4.pin (s.heap.objs.size,{cls:=.type "list",data:=.seq aV.toArray nn}) (by rw[eN];exact V2 _ (VY.mpr rfl));have IW:Un (iG X.stack) fp H H3 s.heap s4.heap:=by have:=I4.base;rw[<-z_]at this;exact this
   have new:dE X.prog X.w (upd H3 s.heap.objs.size (.lst ys)) s4.heap s.heap.objs.size (.lst ys):=⟨hz,aV,nn,SF,pd⟩
   have UN:jM X.prog X.w H3 s4.heap:=by have:=I4.dq;rw[eP,eW]at this;exact this
   have dq:jM X.prog X.w (upd H3 s.heap.objs.size (.lst ys)) s4.heap:=UN.Qq Qx new;have os4:s4.os=s.os:=by have:=I4.os;rw[e0]at this;exact this
   have un:Un (iG X.stack) fp H (upd H3 s.heap.objs.size (.lst ys)) s.heap s4.heap:=
    ⟨IW.keep,IW.slot,fun b o e n hx=>by rw[bB (V1 (VE e))];exact IW.free b o e n hx,IW.there,
     fun b xs e=>by rw[bB (bC (IW.nL b xs e) Qx)];exact IW.nL b xs e,fun b o u e=>by rw[bB (bC (IW.nq b o u e) Qx)];exact IW.nq b o u e,
     fun b ps e=>by
      obtain⟨more,q⟩:=IW.oY b ps e;exact⟨more,by rw[bB (bC q Qx)];exact q⟩⟩
   have I5:aX X ae σ (upd H3 s.heap.objs.size (.lst ys)) s4:=I.yj os4 un dq I4.bare fun b hb=>⟨(hf b hb).2.2.2.1,(hf b hb).2.1,(hf b hb).2.2.2.2.1,(hf b hb).2.2.2.2.2⟩
   have hC4:H3 H2.objs.size=none:=by have:=I4.free;rw[eL]at this;exact this
   refine⟨s.heap.objs.size,_,rfl,Qv,I5,by rw[bB (Xf SE)];exact hC4,?_,qn _ Qx⟩;obtain⟨m4,ns4,_⟩:=I4.loc;rw[eL]at ns4;exact⟨m4,ns4⟩
  .have D1:=T.item XB eP eW eK eC i _ s3 τ H3 (notedBy (model X.prog X.w) X.A (compEnvC scope cl H2.objs.size X.env) fun x s'=>RR (.ref s.heap.objs.size) (compEnvC scope cl H2.objs.size X.env) (.error x) s') I3' (Af PF) mZ go;rw[eA]at D1;refine dJ D1 fun r s4⟨u,hr,h4⟩=>?_;subst hr;refine dJ h4 fun _ s5⟨x,H5,I5,r5,y5,HL,Ue⟩=>?_;have Ug:=I5.pinned (Af Ue) (T.obj _ _ HL);have G:=uV _ s5 τ H5 x u _ Ug r5 (step x H5 y5);rw[eP,eW,eA,eE,UL]at G;refine MQ mon G fun _ s6⟨τ6,H6,I6,q6⟩=>?_;have G2:=z! _ s6 τ6 H6 _ I6 q6;rw[eP,eW,eA,eE,UL]at G2;refine MQ mon G2 fun ok s7⟨H7,I7,q7⟩=>?_
   -- Ud uY ae give back
   have back:∀{τ8:St}{H8:Hp}{s8:Z3},aX XB ([(s.heap.objs.size,({cls:=.type "list",data:=.seq aV.toArray nn}:Obj))]++sL fp s5.heap) τ8 H8 s8 ->
     aX XB [] τ8 H8 s8/\s8.heap.get? s.heap.objs.size=some {cls:=.type "list",data:=.seq aV.toArray nn}/\H8 s.heap.objs.size=none/\tn (i+1) s8.heap/\∀b∈fp,H8 b=none:=fun{τ8 H8 s8}J=>by
    obtain⟨p1,p2,_⟩:=J.pin (s.heap.objs.size,{cls:=.type "list",data:=.seq aV.toArray nn}) (V2 _ (Wk _ (VY.mpr rfl)));refine⟨J.rN fun p hp=>absurd (show p∈([]:ZV)from hp) (by simp),p1,p2,T.keep _ _ _ HL fun b hb o e=>(J.pin (b,o) (V2 _ (V2 _ (jO hb e)))).1,fun b hb=>?_⟩;obtain⟨o,e,d⟩:=T.obj _ _ HL b hb;exact(J.pin (b,o) (V2 _ (V2 _ (jO hb e)))).2.1
   cases ok with
   |false=>
    rw[VI VM]at q7⊢;obtain⟨m',hm,w7⟩:=q7;obtain⟨J,a1,a2,a3,a4⟩:=back I7;exact⟨m',hm,i+1,ys,aV,nn,τ6,H7,J,a1,a2,SF,a3,a4,w7⟩
   |true=>
    rw[VD rfl]at q7⊢;have G3:=wV _ s7 τ6 H7 _ I7 q7;rw[eP,eW,eA,eE,UL]at G3;refine MQ mon G3 fun v s8⟨y,H8,I8,r8,m',hm,w8⟩=>?_;obtain⟨J,a1,a2,a3,a4⟩:=back I8;have hlen:=SF.length;refine Yy F.slot_list_append ⟨_,a1,rfl⟩ F.entry_list_append (F.args_list_append_2 _ _) (Zn s.heap.objs.size aV.toArray nn v (by rw[VF];lia)) ⟨a1,?_⟩;have q:=ZF a1 (fun z=>z.push v);have other:∀b o,b≠s.heap.objs.size->s8.heap.get? b=some o->(s8.heap.update s.heap.objs.size (Obj.mapSeq fun z=>z.push v)).get? b=some o:=fun b o hb e=>(V5 s8.heap (Obj.mapSeq fun z=>z.push v) (Xf hb)).trans e;have J':aX XB [] τ6 H8 {s8 with heap:=s8.heap.update s.heap.objs.size (Obj.mapSeq fun z=>z.push v)}:=
     J.turned (t':=s8.toks) (it:=s.heap.objs.size) other a2 (by rw[eL];exact SE) (.inr (by rw[e0];exact VA _)) (fun x c e=>Qw x c (by rw[<-ecl];exact e)) fun p hp=>absurd (show p∈([]:ZV) by rw[eN]at hp;exact hp) (by simp)
    obtain⟨n2,q2⟩:∃n2,(s8.heap.update s.heap.objs.size (Obj.mapSeq fun z=>z.push v)).get? s.heap.objs.size=some {cls:=.type "list",data:=.seq (aV++[v]).toArray n2}:=by
     have e1:aV.toArray.push v=(aV++[v]).toArray:=by simp
     rw[<-e1];exact⟨_,q⟩
    exact⟨m',hm,i+1,ys++[y],aV++[v],n2,τ6,H8,J',q2,a2,SF.append (.cons r8 .nil),T.keep _ _ _ a3 fun b hb o e=>other b o (hDf b hb) e,a4,w8⟩
 exact codeAny_compStart_list (loop _ rfl) (T.self X.A 0 _ _ _ KH (loop _ rfl))
theorem vM{tg elt iter:Expr}{ifs:List Expr}{scope:Scope}{pos:Pos}{N:Z1}{cl:List (Str×Z4)}{k:Nat}{bu:List Nat}{g:TG}{tt:TT}{te:TE}{it:Z4}{fp:Z0}{tn:Nat->Heap->Prop}{J:It}{Q:VK}{RR:Z2->Z4->Result->Z3->Prop}{E:ZT}(hc:X.calm=true)(B:o? X N scope cl k bu)(hg:∀C fp s H,PG (oW X N scope cl C fp s H) tg g)(hi:∀C fp s H,zZ (oW X N scope cl C fp s H) ifs tt)(he:∀C fp s H,PE (oW X N scope cl C fp s H) elt te)(I:aX X ae σ H s)(T:Turn X.prog X.w X.K tg J fp it tn)(st:tn 0 s.heap)(hf:∀b∈fp,kC X ae H b)(h:vL J k bu g tt te σ H Q)(UH:∀acc C s',yD X ae σ s Q acc C s'->RR acc C (.ok .next) s'):
  wpAny (model X.prog X.w) X.A (newList []) (fun acc s₃=>wpAny (model X.prog X.w) X.A (newFunctionEnv scope X.env.globals cl [] X.env.qual none .none (some X.env)) (fun E8 s₄=>
   codeAny (model X.prog X.w) X.A (.compStart (.ListComp elt [⟨tg,iter,ifs,0⟩] scope pos) 0 (.ref it) acc {E8 with scope:=relabel scope X.env}) (RR acc E8.locals) s₄) E s₃) E s:=by
 have z:=sU (xe:=fun _ _ _=>False) (RR:=fun acc en=>RR acc en.locals) (E:=E) (iter:=iter) (pos:=pos) (Cd:=fun X=>X.calm=true) (fun _=>hc) B hg hi (fun C fp s H _=>he C fp s H) I T.c st hf h UH fun _ _ _ _ q=>q.elim;exact z
end
section
variable{X:Cx}{tg elt iter:Expr}{ifs:List Expr}{scope:Scope}{pos E9:Pos}{N:Z1}{cl:List (Str×Z4)}{k:Nat}{bu:List Nat}{wi:TI}{g:TG}{tt:TT}{te:TE}
theorem aX.pe{ae:ZV}{σ σ':St}{H H':Hp}{s s':Z3}{C:Z4}{h':Heap}(I:aX X ae σ H s)(hC:s.heap.objs.size<=C)(I':aX X ae σ' H' s')(hn:H' C=none)(sb:Heap.SameBut C s'.heap h'):
  aX X ae σ' H' {s' with heap:=h'}:=by
 refine I'.turned (t':=s'.toks) (it:=C) (fun b o hb e=>(sb.2 b hb).trans e) hn (W4 (VJ I.lt hC)) (.inr (V! I.sz hC)) (fun x c e=>?_) fun p hp=>?_
 .obtain⟨v,o,ho,_⟩:=I.cell x c e;exact V1 (VJ (VE ho) hC)
 .exact V1 (VJ (VE (I.pin p hp).1) hC)
theorem IX(hc:X.calm=true)(B:o? X N scope cl k bu)(hi:PI X tg iter wi)(hg:∀C fp s H,PG (oW X N scope cl C fp s H) tg g)(E_:∀C fp s H,zZ (oW X N scope cl C fp s H) ifs tt)(he:∀C fp s H,PE (oW X N scope cl C fp s H) elt te)(hs:∀x,foldedSetIterable iter X.env x=pure x:=by intro _;rfl):PE X (.ListComp elt [⟨tg,iter,ifs,0⟩] scope pos) (qi k bu wi g tt te):=by intro ae s σ H Q I h;rw[eval_ListComp];refine X8 (use:=none) rfl hs B.pb B.kind B.names (dJ (hi ae s σ H _ I (mw h)) fun xv s₁ h₁=>dJ h₁ fun Sq s₂ h₂=>?_);obtain⟨it,fp,tn,J,H2,e,I2,T,cJ,f2,hW⟩:=h₂;subst e;refine vM (RR:=fun acc C=>compPost (model X.prog X.w) X.A X.xe none (EP X ae σ Q) acc C) hc B hg E_ he I2 T cJ f2 hW ?_;rintro acc C s' ⟨D,H',rfl,hC,I',hn,⟨m,ns⟩,q⟩;exact⟨m,ns,fun h' sb=>⟨.ref D,H',I2.pe hC I' hn sb,rfl,q⟩⟩
theorem As{i:Nat}{y:Str}{py:Pos}(hN:X.N.Nodup)(hy:X.N[i]?=some y)(hx:Loc X.env.scope y)(hc:X.calm=true)(B:o? X N scope cl k bu)(hi:PI X tg iter wi)(hg:∀C fp s H,PG (oW X N scope cl C fp s H) tg g)(E_:∀C fp s H,zZ (oW X N scope cl C fp s H) ifs tt)(he:∀C fp s H,PE (oW X N scope cl C fp s H) elt te)(UO:swapsWith (.ListComp elt [⟨tg,iter,ifs,0⟩] scope pos) (some (.Name y py)) E9.line X.env=pure true:=by rfl)(hs:∀x,foldedSetIterable iter X.env x=pure x:=by intro _;rfl)(hf:X.fn y=true\/X.env.scope.names.lookup y=some .local:=by first|exact .inl rfl|exact .inr rfl|assumption):
  PS X (.Assign [.Name y py] (.ListComp elt [⟨tg,iter,ifs,0⟩] scope pos) E9) (Ic (qi k bu wi g tt te) (yk i)):=by
 intro ae s σ H D I h;rw[exec_Assign_Name_used _ _ _ _ UO];refine Vj (Za (Vj ?_));show wpAny _ X.A (do let _ <- comprehension (.ListComp elt [⟨tg,iter,ifs,0⟩] scope pos) scope X.env _ (newList []) false (eval iter X.env) (some (assign (.Name y py) X.env))) _ _ s;refine Vj (Wm (X8 (use:=some (assign (.Name y py) X.env)) (Q:=fun _ s'=>SP X ae D .next s') rfl hs B.pb B.kind B.names (dJ (hi ae s σ H _ I (mw h)) fun xv s₁ h₁=>dJ h₁ fun Sq s₂ h₂=>?_)) (fun _ s' hq=>VC (VC hq)) fun _ _ e=>e);obtain⟨it,fp,tn,J,H2,e,I2,T,cJ,f2,hW⟩:=h₂;subst e;refine vM (Q:=fun v H'=>yk i v σ H' D.nx) (RR:=fun acc C=>compPost (model X.prog X.w) X.A X.xe (some (assign (.Name y py) X.env)) (fun _ s'=>SP X ae D .next s') acc C) hc B hg E_ he I2 T cJ f2 hW ?_;rintro acc C s' ⟨D',H',rfl,hC,I',hn,⟨m,ns⟩,q⟩;show wpAny _ _ (assign (.Name y py) X.env (.ref D')) _ _ s';refine wpAny_assign_Name (vD I' hN hy hx (v:=.ref D') rfl (fun Sr I''⟨a,sb,ha⟩=>?_) hf);have hCa:C≠a:=by
  rcases ha with e|e
  .rw[e];exact W4 (VJ I2.lt hC)
  .obtain⟨v,o,ho,_⟩:=I2.cell y a e;exact W4 (VJ (VE ho) hC)
 exact⟨m,ns.sameBut sb hCa,fun h' sb'=>⟨_,H',I2.pe hC I'' hn sb',q⟩⟩
end
section
variable{K:ZW}{g:TG}{tt:TT}{te:TE}{Q:VK}
theorem IY{J:It}{k:Nat}{bu:List Nat}{σ:St}{H:Hp}(n:Nat)(hn:n<=sizeLine)(Pv:Nat->List V->St->Hp->Prop)(h0:Pv 0 [] (qM k bu σ) H)(hgo:∀i ys τ H,i<n->Pv i ys τ H->J.go i H)(wC:∀ys τ H,Pv n ys τ H->J.stop n H)(hl:∀i ys τ H,Pv i ys τ H->ys.length<=i)(hs:∀i ys τ H x H',i<n->Pv i ys τ H->J.OU i H x H'->∀K1:List V->St->Hp->Prop,(∀ys τ H,Pv (i+1) ys τ H->K1 ys τ H)->g x τ H' fun τ2 H2=>tt τ2 H2 fun b H3=>if b=true then te τ2 H3 fun y H4=>K1 (ys++[y]) τ2 H4 else K1 ys τ2 H3)(hd:∀ys τ H p,Pv n ys τ H->H p=none->Q (.ref p) (upd H p (.lst ys))):vL J k bu g tt te σ H Q:=by
 refine⟨fun i m ys τ H=>m=n-i/\i<=n/\Pv i ys τ H,⟨n,by simp,WH _,h0⟩,?_⟩;rintro i m ys τ H ⟨rfl,hi,p⟩;have hy:=hl i ys τ H p;by_cases yb:i<n
 .refine .inr ⟨hgo i ys τ H yb p,by lia,fun x H' y=>?_⟩;exact hs i ys τ H x H' yb p y (fun ys τ H=>∃m',m'<n-i/\m'=n-(i+1)/\i+1<=n/\Pv (i+1) ys τ H) fun ys τ H q=>⟨n-(i+1),by lia,rfl,yb,q⟩
 .have e:i=n:=by lia
  subst e;exact .inl ⟨wC ys τ H p,by lia,fun q hq=>hd ys τ H q p hq⟩
end
def d?(b:Bool)(h:Heap)(i l:Z4)(k:Nat):Prop:=match b with|true=>h.IsListIter i l k|false=>h.IsTupleIter i l k
def js(b:Bool)(h:Heap)(l:Z4)(xs:Array Z2):Prop:=match b with|true=>h.IsList l xs|false=>h.IsTuple l xs
theorem d?.keep{b:Bool}{h h':Heap}{i l:Z4}{k:Nat}(x:d? b h i l k)(e:∀o,h.get? i=some o->h'.get? i=some o):d? b h' i l k:=by
 cases b with
 |true=>exact Heap.IsListIter.at x e
 |false=>exact Heap.IsTupleIter.at x e
theorem js.keep{b:Bool}{h h':Heap}{l:Z4}{xs:Array Z2}(x:js b h l xs)(e:∀o,h.get? l=some o->h'.get? l=some o):js b h' l xs:=by
 cases b with
 |true=>exact Heap.IsList.at x e
 |false=>obtain⟨o,ho,r⟩:=(show h.IsTuple l xs from x);exact⟨o,e _ ho,r⟩
theorem d?.there{b:Bool}{h:Heap}{i l:Z4}{k:Nat}(x:d? b h i l k):∃o n vs,h.get? i=some o/\o.cls=.type n/\o.data=.fields vs:=by
 cases b with
 |true=>obtain⟨o,h1,h2,h3⟩:=(show h.IsListIter i l k from x);exact⟨o,_,_,h1,h2,h3⟩
 |false=>obtain⟨o,h1,h2,h3⟩:=(show h.IsTupleIter i l k from x);exact⟨o,_,_,h1,h2,h3⟩
section
variable{prog:Z6}{w:World}{A:Z5}{E:ZT}{s:Z3}
theorem sV{it t:Z4}{i:Nat}{items:Array Z2}{x:Z2}{Q:ZT}(hit:s.heap.IsTupleIter it t i)(ht:s.heap.IsTuple t items)(hx:items[i]?=some x)(hQ:∀h',h'.IsTupleIter it t (i+1)->Heap.SameBut it s.heap h'->Q x {s with heap:=h'}):wpAny (model prog w) A (Builtin.SmallTypes.nextOf (.ref it)) Q E s:=by obtain⟨oi,KJ,ci,di⟩:=id hit;obtain⟨ot,UP,_,nt,dt⟩:=ht;unfold Builtin.SmallTypes.nextOf;refine Vj (Wj (name:=Str.ofString "__next__") hit.typeIs WC (Wr WC hit.typeIs XU ?_ (XN _)));show wpAny _ _ (field (.ref it) 0 >>= _) _ _ s;refine Vj (V_ KJ di (x:=.ref t) rfl ?_);show wpAny _ _ (if(Value.ref t==Value.none)=true then _ else _) _ _ s;rw[VI (show ¬ ((Value.ref t==Value.none)=true)from VM)];show wpAny _ _ (field (.ref it) 1 >>= _) _ _ s;refine Vj (V_ KJ di (x:=.int i 0) rfl ?_);show wpAny _ _ (seqItems? (.ref t) >>= _) _ _ s;refine Vj (WR UP dt ?_);simp only[WM,hx];refine Vj (WQ KJ di (by simp) (VC ⟨x,rfl,VC (hQ _ ?_ (XQ ..))⟩));exact⟨_,WJ _ KJ (Xi (Wx di _)),(Obj.cls_mapFields ..).trans ci,by rw[Wx di];simp[rawInt]⟩
theorem u9{it t:Z4}{i:Nat}{items:Array Z2}{Q:ZT}(hh:A.handled=none)(hit:s.heap.IsTupleIter it t i)(ht:s.heap.IsTuple t items)(hx:items[i]?=none)(hE:∀h' e,Heap.ExtBut it s.heap h'->(∃o,h'.get? e=some o/\o.cls=.type "StopIteration")->E (.ref e) {s with heap:=h'}):wpAny (model prog w) A (Builtin.SmallTypes.nextOf (.ref it)) Q E s:=by
 obtain⟨oi,KJ,ci,di⟩:=id hit;obtain⟨ot,UP,_,nt,dt⟩:=ht;unfold Builtin.SmallTypes.nextOf;refine Vj (Wj (name:=Str.ofString "__next__") hit.typeIs WC (Wr WC hit.typeIs XU ?_ (XN _)));show wpAny _ _ (field (.ref it) 0 >>= _) _ _ s;refine Vj (V_ KJ di (x:=.ref t) rfl ?_);show wpAny _ _ (if(Value.ref t==Value.none)=true then _ else _) _ _ s;rw[VI (show ¬ ((Value.ref t==Value.none)=true)from VM)];show wpAny _ _ (field (.ref it) 1 >>= _) _ _ s;refine Vj (V_ KJ di (x:=.int i 0) rfl ?_);show wpAny _ _ (seqItems? (.ref t) >>= _) _ _ s;refine Vj (WR UP dt ?_);simp only[WM,hx];refine Vj (Yw (Vj (WQ KJ di (by simp) ?_)));show wpAny _ _ (newExc (.type "StopIteration") [] >>= _) _ _ _;refine Vj ?_;simp only[newExc,newTuple];refine Vj (Wf ?_ (by size_fits));refine Vj (m:=firstArgMember _ _) (wpAny_of_eq (a:=Value.none) (by first|rfl|(simp only[firstArgMember];rfl)) ?_);refine Wf ?_ (by size_fits);simp only[raiseNew];refine Vj (Zb ?_)
 first|rw[show A.in1.handled=none from hh]|rw[hh]
 refine Vj (VC (wpAny_throw ?_));exact hE _ _ (((XQ ..).extBut.push _).push _) ⟨_,VL _ rfl,rfl⟩
theorem jR{b:Bool}{it t:Z4}{i:Nat}{items:Array Z2}{x:Z2}{Q:ZT}(hit:d? b s.heap it t i)(ht:js b s.heap t items)(hx:items[i]?=some x)(hQ:∀h',d? b h' it t (i+1)->Heap.SameBut it s.heap h'->Q x {s with heap:=h'}):wpAny (model prog w) A (Builtin.SmallTypes.nextOf (.ref it)) Q E s:=by
 cases b with
 |true=>exact wpAny_nextOf_list_item hit ht hx hQ
 |false=>exact sV hit ht hx hQ
theorem qj{b:Bool}{it t:Z4}{i:Nat}{items:Array Z2}{Q:ZT}(hh:A.handled=none)(hit:d? b s.heap it t i)(ht:js b s.heap t items)(hx:items[i]?=none)(hE:∀h' e,Heap.ExtBut it s.heap h'->(∃o,h'.get? e=some o/\o.cls=.type "StopIteration")->E (.ref e) {s with heap:=h'}):wpAny (model prog w) A (Builtin.SmallTypes.nextOf (.ref it)) Q E s:=by
 cases b with
 |true=>exact wpAny_nextOf_list_end hh hit ht hx hE
 |false=>exact u9 hh hit ht hx hE
end
abbrev sW(b:Bool)(l:Z4):Obj:={cls:=.type (match b with|true => "list_iterator"|false => "tuple_iterator"),data:=.fields #[.ref l,.int 0 0]}
section
variable{prog:Z6}{w:World}{A:Z5}{E:ZT}{s:Z3}
theorem d?.new(b:Bool){h:Heap}{i l:Z4}(e:h.get? i=some (sW b l)):d? b h i l 0:=by
 cases b with
 |true=>exact⟨_,e,rfl,rfl⟩
 |false=>exact⟨_,e,rfl,rfl⟩
theorem sX{b:Bool}{l:Z4}{xs:Array Z2}{Q:ZT}(h:js b s.heap l xs)(hQ:Q (.ref s.heap.objs.size) {s with heap:=s.heap.push (sW b l)}):wpAny (model prog w) A (pyIter (.ref l)) Q E s:=by
 cases b with
 |true=>exact X6 h hQ
 |false=>exact Yx h hQ
theorem IZ{b1 b2:Bool}{z TI TO i1 i2 l1 l2:Z4}{k1 k2:Nat}{xs ys:Array Z2}{x y a b:Z2}{Q:ZT}(D:ZipApart z TI TO i1 i2 l1 l2)(hz:IsZip s.heap z TI TO .none)(wW:IsPair s.heap TI (.ref i1) (.ref i2))(yc:IsPair s.heap TO a b)(h1:d? b1 s.heap i1 l1 k1)(h2:d? b2 s.heap i2 l2 k2)(pf:js b1 s.heap l1 xs)(qH:js b2 s.heap l2 ys)(hx:xs[k1]?=some x)(hy:ys[k2]?=some y)
  (hQ:∀ h',IsZip h' z TI TO (rawInt s.heap.objs.size)->IsPair h' TO x y->d? b1 h' i1 l1 (k1+1)->d? b2 h' i2 l2 (k2+1)->IsPair h' s.heap.objs.size x y ->
   (∀c o,c≠z->c≠TO->c≠i1->c≠i2->s.heap.get? c=some o->h'.get? c=some o)->Q (.ref s.heap.objs.size) {s with heap:=h'}):
  wpAny (model prog w) A (Builtin.«zip.__next__» ⟨[.ref z],[]⟩) (fun fin s'=>∃v,fin=.done (.ret v)/\Q v s') E s:=by
 show wpAny _ _ (field (.ref z) 2 >>= _) _ _ _;refine Vj (V_ hz rfl (x:=.bool false) rfl ?_);show wpAny _ _ (field (.ref z) 3 >>= _) _ _ _;refine Vj (V_ hz rfl (x:=.ref TI) rfl (Vj (WR wW rfl ?_)));show wpAny _ _ (Builtin.SmallTypes.ownedTupleIsFree (.ref z) >>= _) _ _ _;refine Vj ?_;unfold Builtin.SmallTypes.ownedTupleIsFree;refine Vj (V_ hz rfl (x:=.none) rfl (VC ?_));simp only[YN];refine Vj (Yw (Vj (V_ hz rfl (x:=.ref TO) rfl (Vj (Xc hz (by simp) fun g₁ qk s₁=>?_)))));replace qk:IsZip g₁ z TI TO .ellipsis:=qk;refine Vj ?_;simp only[List.zipIdx_cons,List.zipIdx_nil,List.forIn_cons,List.forIn_nil];refine Vj (Vj (Yq ?_));show wpAny _ _ (Builtin.SmallTypes.nextOf (.ref i1) >>= _) _ _ _;refine Vj (jR (b:=b1) (h1.keep fun o e=>s₁.extBut _ o D.i1z e) (pf.keep fun o e=>s₁.extBut _ o D.l1z e) hx fun g₂ q₁ s₂=>VC ?_);have t₂:IsPair g₂ TO a b:=s₂.extBut _ _ D.TOi1 (s₁.extBut _ _ D.TOz yc);refine Vj (WR t₂ rfl (Vj (Yk t₂ fun g₃ t₃ s₃=>?_)));replace t₃:IsPair g₃ TO x b:=t₃;refine Vj (wpAny_letGo (VC (Vj (Vj (Yq ?_)))));show wpAny _ _ (Builtin.SmallTypes.nextOf (.ref i2) >>= _) _ _ _;refine Vj (jR (b:=b2) (h2.keep fun o e=>s₃.extBut _ o D.TOi2.symm (s₂.extBut _ o D.i12.symm (s₁.extBut _ o D.i2z e))) (qH.keep fun o e=>s₃.extBut _ o D.l2TO (s₂.extBut _ o D.l2i1 (s₁.extBut _ o D.l2z e))) hy fun g₄ q₂ s₄=>VC ?_);have t₄:IsPair g₄ TO x b:=s₄.extBut _ _ D.TOi2 t₃;refine Vj (WR t₄ rfl (Vj (Yk t₄ fun g₅ t₅ s₅=>?_)));replace t₅:IsPair g₅ TO x y:=t₅;refine Vj (wpAny_letGo (VC (VC (Vj (WR t₅ rfl (Vj (wpAny_newTuple ?_)))))));have sz:g₅.objs.size=s.heap.objs.size:=by rw[s₅.1,s₄.1,s₃.1,s₂.1,s₁.1]
 have z₅:IsZip g₅ z TI TO .ellipsis:=s₅.extBut _ _ D.TOz.symm (s₄.extBut _ _ D.i2z.symm (s₃.extBut _ _ D.TOz.symm (s₂.extBut _ _ D.i1z.symm qk)));have kp:∀c o,c≠z->c≠TO->c≠i1->c≠i2->s.heap.get? c=some o->g₅.get? c=some o:=fun c o n1 n2 n3 n4 e=>s₅.extBut _ _ n2 (s₄.extBut _ _ n4 (s₃.extBut _ _ n2 (s₂.extBut _ _ n3 (s₁.extBut _ _ n1 e))));have p₁:d? b1 g₅ i1 l1 (k1+1):=q₁.keep fun o e=>s₅.extBut _ o D.TOi1.symm (s₄.extBut _ o D.i12 (s₃.extBut _ o D.TOi1.symm e));have p₂:d? b2 g₅ i2 l2 (k2+1):=q₂.keep fun o e=>s₅.extBut _ o D.TOi2.symm e;have zlt:z<g₅.objs.size:=VE z₅;show wpAny _ _ (Builtin.SmallTypes.ownedTupleHandOut (.ref z) (.ref g₅.objs.size) >>= _) _ _ _;refine Vj ?_;unfold Builtin.SmallTypes.ownedTupleHandOut;have z₆:IsZip (g₅.push {cls:=.type "tuple",data:=.seq #[x,y]}) z TI TO .ellipsis:=Vm _ z₅;refine Vj (Xc z₆ (by simp) fun g₇ z₇ s₇=>?_);replace z₇:IsZip g₇ z TI TO (rawInt g₅.objs.size):=z₇;refine Xc z₇ (by simp) fun g₈ z₈ s₈=>?_;replace z₈:IsZip g₈ z TI TO (rawInt g₅.objs.size):=z₈;have up:∀c o,c≠z->g₅.get? c=some o->g₈.get? c=some o:=fun c o n e=>s₈.extBut _ _ n (s₇.extBut _ _ n (Vm _ e));have t₈:IsPair g₈ g₅.objs.size x y:=s₈.extBut _ _ (W4 zlt) (s₇.extBut _ _ (W4 zlt) (VL _ rfl));rw[sz]at z₈ t₈;refine VC ⟨_,rfl,?_⟩;show Q (.ref g₅.objs.size) _;rw[sz];exact hQ g₈ z₈ (up _ _ D.TOz t₅) (p₁.keep fun o e=>up _ o D.i1z e) (p₂.keep fun o e=>up _ o D.i2z e) t₈ fun c o n1 n2 n3 n4 e=>up c o n1 (kp c o n1 n2 n3 n4 e)
theorem MS{b1 b2:Bool}{z TI TO i1 i2 l1 l2:Z4}{k1 k2:Nat}{xs ys:Array Z2}{a b:Z2}{Q:Fin->Z3->Prop}(hh:A.handled=none)(D:ZipApart z TI TO i1 i2 l1 l2)(hz:IsZip s.heap z TI TO .none)(wW:IsPair s.heap TI (.ref i1) (.ref i2))(yc:IsPair s.heap TO a b)(h1:d? b1 s.heap i1 l1 k1)(h2:d? b2 s.heap i2 l2 k2)(pf:js b1 s.heap l1 xs)(qH:js b2 s.heap l2 ys)(he:xs[k1]?=none\/ys[k2]?=none)(hE:∀h' e,(∀c o,c≠z->c≠TO->c≠i1->c≠i2->s.heap.get? c=some o->h'.get? c=some o)->(∃o,h'.get? e=some o/\o.cls=.type "StopIteration")->E (.ref e) {s with heap:=h'}):
  wpAny (model prog w) A (Builtin.«zip.__next__» ⟨[.ref z],[]⟩) Q E s:=by
 show wpAny _ _ (field (.ref z) 2 >>= _) _ _ _;refine Vj (V_ hz rfl (x:=.bool false) rfl ?_);show wpAny _ _ (field (.ref z) 3 >>= _) _ _ _;refine Vj (V_ hz rfl (x:=.ref TI) rfl (Vj (WR wW rfl ?_)));show wpAny _ _ (Builtin.SmallTypes.ownedTupleIsFree (.ref z) >>= _) _ _ _;refine Vj ?_;unfold Builtin.SmallTypes.ownedTupleIsFree;refine Vj (V_ hz rfl (x:=.none) rfl (VC ?_));simp only[YN];refine Vj (Yw (Vj (V_ hz rfl (x:=.ref TO) rfl (Vj (Xc hz (by simp) fun g₁ qk s₁=>?_)))));replace qk:IsZip g₁ z TI TO .ellipsis:=qk;refine Vj ?_;simp only[List.zipIdx_cons,List.zipIdx_nil,List.forIn_cons,List.forIn_nil];refine Vj (Vj (Yq ?_));show wpAny _ _ (Builtin.SmallTypes.nextOf (.ref i1) >>= _) _ _ _;cases hx:xs[k1]? with
 |none=>
  refine Vj (qj (b:=b1) hh (h1.keep fun o e=>s₁.extBut _ o D.i1z e) (pf.keep fun o e=>s₁.extBut _ o D.l1z e) hx fun g₂ e s₂⟨oe,KL,ce⟩=>?_);have z₂:IsZip g₂ z TI TO .ellipsis:=s₂ _ _ D.i1z.symm qk;have UQ:e≠z:=fun q=>by subst q;rw[z₂]at KL;cases KL;simp at ce
  exact Xc z₂ (by simp) fun g₃ _ s₃=>hE g₃ e (fun c o n1 _ n3 _ q=>s₃.extBut _ _ n1 (s₂ _ _ n3 (s₁.extBut _ _ n1 q))) ⟨oe,s₃.extBut _ _ UQ KL,ce⟩
 |some x=>
  have hy:ys[k2]?=none:=by
   rcases he with q|q
   .rw[hx]at q;cases q
   .exact q
  refine Vj (jR (b:=b1) (h1.keep fun o e=>s₁.extBut _ o D.i1z e) (pf.keep fun o e=>s₁.extBut _ o D.l1z e) hx fun g₂ q₁ s₂=>VC ?_);have t₂:IsPair g₂ TO a b:=s₂.extBut _ _ D.TOi1 (s₁.extBut _ _ D.TOz yc);refine Vj (WR t₂ rfl (Vj (Yk t₂ fun g₃ t₃ s₃=>?_)));refine Vj (wpAny_letGo (VC (Vj (Vj (Yq ?_)))));show wpAny _ _ (Builtin.SmallTypes.nextOf (.ref i2) >>= _) _ _ _;refine Vj (qj (b:=b2) hh (h2.keep fun o e=>s₃.extBut _ o D.TOi2.symm (s₂.extBut _ o D.i12.symm (s₁.extBut _ o D.i2z e))) (qH.keep fun o e=>s₃.extBut _ o D.l2TO (s₂.extBut _ o D.l2i1 (s₁.extBut _ o D.l2z e))) hy fun g₄ e s₄⟨oe,KL,ce⟩=>?_);have z₄:IsZip g₄ z TI TO .ellipsis:=s₄ _ _ D.i2z.symm (s₃.extBut _ _ D.TOz.symm (s₂.extBut _ _ D.i1z.symm qk));have UQ:e≠z:=fun q=>by subst q;rw[z₄]at KL;cases KL;simp at ce
  exact Xc z₄ (by simp) fun g₅ _ s₅=>hE g₅ e (fun c o n1 n2 n3 n4 q=>s₅.extBut _ _ n1 (s₄ _ _ n4 (s₃.extBut _ _ n2 (s₂.extBut _ _ n3 (s₁.extBut _ _ n1 q))))) ⟨oe,s₅.extBut _ _ UQ KL,ce⟩
theorem Dc{b1 b2:Bool}{z TI TO i1 i2 l1 l2:Z4}{k1 k2:Nat}{xs ys:Array Z2}{x y a b:Z2}{Q:ZZ->Z3->Prop}(D:ZipApart z TI TO i1 i2 l1 l2)(hz:IsZip s.heap z TI TO .none)(wW:IsPair s.heap TI (.ref i1) (.ref i2))(yc:IsPair s.heap TO a b)(h1:d? b1 s.heap i1 l1 k1)(h2:d? b2 s.heap i2 l2 k2)(pf:js b1 s.heap l1 xs)(qH:js b2 s.heap l2 ys)(hx:xs[k1]?=some x)(hy:ys[k2]?=some y)
  (hQ:∀ h',IsZip h' z TI TO (rawInt s.heap.objs.size)->IsPair h' TO x y->d? b1 h' i1 l1 (k1+1)->d? b2 h' i2 l2 (k2+1)->IsPair h' s.heap.objs.size x y ->
   (∀c o,c≠z->c≠TO->c≠i1->c≠i2->s.heap.get? c=some o->h'.get? c=some o)->Q (some (.ref s.heap.objs.size)) {s with heap:=h'}):wpAny (model prog w) A (pyNext (.ref z)) Q E s:=by
 have tz:s.TypeIs (.ref z) "zip":=⟨_,hz,rfl⟩
 unfold pyNext;exact Vj (XH (Wj (name:=Str.ofString "__next__") tz Yh
  (Wr Yh tz F.entry_zip_next (IZ (b1:=b1) (b2:=b2) D hz wW yc h1 h2 pf qH hx hy fun h' a1 a2 a3 a4 a5 a6=>VC (hQ h' a1 a2 a3 a4 a5 a6)) (F.args_zip_next_1 _))))
theorem E!{b1 b2:Bool}{z TI TO i1 i2 l1 l2:Z4}{k1 k2:Nat}{xs ys:Array Z2}{a b:Z2}{Q:ZZ->Z3->Prop}(hh:A.handled=none)(D:ZipApart z TI TO i1 i2 l1 l2)(hz:IsZip s.heap z TI TO .none)(wW:IsPair s.heap TI (.ref i1) (.ref i2))(yc:IsPair s.heap TO a b)(h1:d? b1 s.heap i1 l1 k1)(h2:d? b2 s.heap i2 l2 k2)(pf:js b1 s.heap l1 xs)(qH:js b2 s.heap l2 ys)(he:xs[k1]?=none\/ys[k2]?=none)(hQ:∀h',(∀c o,c≠z->c≠TO->c≠i1->c≠i2->s.heap.get? c=some o->h'.get? c=some o)->Q none {s with heap:=h'}):wpAny (model prog w) A (pyNext (.ref z)) Q E s:=by
 have tz:s.TypeIs (.ref z) "zip":=⟨_,hz,rfl⟩
 unfold pyNext;refine Vj (XH (Wj (name:=Str.ofString "__next__") tz Yh
  (Wr Yh tz F.entry_zip_next (MS (b1:=b1) (b2:=b2) hh D hz wW yc h1 h2 pf qH he fun h' e hk he=>?_) (F.args_zip_next_1 _))))
 obtain⟨o,ho,hc⟩:=he;exact Vj (X9 (T:="StopIteration") (b:=true) ⟨o,ho,hc⟩ Yl (VC (hQ _ hk)))
abbrev SG(b1:Bool)(h:Heap)(l1:Z4):Heap:=h.push (sW b1 l1)
abbrev SH(b1 b2:Bool)(h:Heap)(l1 l2:Z4):Heap:=(SG b1 h l1).push (sW b2 l2)
abbrev SI(b1 b2:Bool)(h:Heap)(l1 l2:Z4):Heap:=(SH b1 b2 h l1 l2).push {cls:=.type "tuple",data:=.seq #[.ref h.objs.size,.ref (SG b1 h l1).objs.size]}
abbrev SJ(b1 b2:Bool)(h:Heap)(l1 l2:Z4):Heap:=(SI b1 b2 h l1 l2).push {cls:=.type "tuple",data:=.seq #[.none,.none]}
abbrev O0(b1 b2:Bool)(h:Heap)(l1 l2:Z4):Heap:=(SJ b1 b2 h l1 l2).push {cls:=.type "zip",data:=.fields #[.none,.bool false,.bool false,.ref (SH b1 b2 h l1 l2).objs.size,.ref (SI b1 b2 h l1 l2).objs.size]}
theorem E?(b1 b2:Bool)(l1 l2:Z4)(xs ys:Array Z2):
  Meets (Builtin.«zip.__new__» ⟨[.type "zip",.ref l1,.ref l2],[]⟩) (fun _ R s=>js b1 s.heap l1 xs/\js b2 s.heap l2 ys/\R (.ok (.ret (.ref (SJ b1 b2 s.heap l1 l2).objs.size))) {s with heap:=O0 b1 b2 s.heap l1 l2}):=
 .of_wp fun prog w A R s h=>by
  obtain⟨hp,g,d,tk,os⟩:=s;obtain⟨q1,q2,h⟩:=h;have aaD:=sub_zip;have w1:js b1 (Shared.heap ⟨hp,g,d,tk,os⟩) l1 xs:=q1;have w2:js b2 (Shared.heap ⟨hp.push (sW b1 l1),g,d,tk,os⟩) l2 ys:=q2.keep fun o e=>Vm _ e
  wp_walk using sX w1,sX w2
  exact⟨_,rfl,h⟩
theorem Fd{b1 b2:Bool}{l1 l2:Z4}{xs ys:Array Z2}{Q:ZT}(pf:js b1 s.heap l1 xs)(qH:js b2 s.heap l2 ys)
  (h:∀ h',IsZip h' (s.heap.objs.size+4) (s.heap.objs.size+2) (s.heap.objs.size+3) .none->IsPair h' (s.heap.objs.size+2) (.ref s.heap.objs.size) (.ref (s.heap.objs.size+1))->IsPair h' (s.heap.objs.size+3) .none .none ->
   d? b1 h' s.heap.objs.size l1 0->d? b2 h' (s.heap.objs.size+1) l2 0->(∀c o,s.heap.get? c=some o->h'.get? c=some o)->Q (.ref (s.heap.objs.size+4)) {s with heap:=h'}):
  wpAny (model prog w) A (call (.type "zip") [.ref l1,.ref l2]) Q E s:=by
 refine callType_new F.called_zip (by decide) (F.typeCall_zip_2 _ _) (F.newCall_zip_2 _ _) (fun obj=>F.args_object_init_3 obj _ _) F.entry_zip_new (E? b1 b2 l1 l2 xs ys) ⟨pf,qH,?_⟩;have z1:(SG b1 s.heap l1).objs.size=s.heap.objs.size+1:=XA ..;have z2:(SH b1 b2 s.heap l1 l2).objs.size=s.heap.objs.size+2:=by rw[XA,z1]
 have z3:(SI b1 b2 s.heap l1 l2).objs.size=s.heap.objs.size+3:=by rw[XA,z2]
 have z4:(SJ b1 b2 s.heap l1 l2).objs.size=s.heap.objs.size+4:=by rw[XA,z3]
 have g5:(O0 b1 b2 s.heap l1 l2).get? (SJ b1 b2 s.heap l1 l2).objs.size=some _:=VL _ rfl;have g4:(O0 b1 b2 s.heap l1 l2).get? (SI b1 b2 s.heap l1 l2).objs.size=some _:=Vm _ (VL _ rfl);have g3:(O0 b1 b2 s.heap l1 l2).get? (SH b1 b2 s.heap l1 l2).objs.size=some _:=Vm _ (Vm _ (VL _ rfl));have g2:(O0 b1 b2 s.heap l1 l2).get? (SG b1 s.heap l1).objs.size=some (sW b2 l2):=Vm _ (Vm _ (Vm _ (VL _ rfl)));have g1:(O0 b1 b2 s.heap l1 l2).get? s.heap.objs.size=some (sW b1 l1):=Vm _ (Vm _ (Vm _ (Vm _ (VL _ rfl))));show _/\_;rw[z2,z3,z4]at g5;rw[z1,z2]at g3;rw[z3]at g4;rw[z1]at g2;rw[z4];exact⟨⟨_,g5,rfl⟩,h _ g5 g3 g4 (.new b1 g1) (.new b2 g2) fun c o x=>Vm _ (Vm _ (Vm _ (Vm _ (Vm _ x))))⟩
end
def Au(b:Bool)(K:ZW)(H:Hp)(a:Z4)(xs:List V):Prop:=match b with|true=>l? K H a xs|false=>mY K H a xs
theorem aX.O1{X:Cx}{ae:ZV}{σ:St}{H:Hp}{s:Z3}{b:Bool}{a:Z4}{xs:List V}(I:aX X ae σ H s)(h:Au b X.K H a xs):∃aV:ZY,bA xs aV/\js b s.heap a aV.toArray/\xs.length<=sizeLine:=by
 cases b with
 |true=>obtain⟨aV,r,p,z⟩:=I.list h;exact⟨aV,r,p.isList,z⟩
 |false=>obtain⟨aV,r,p,z⟩:=I.tuple h;exact⟨aV,r,p,z⟩
theorem aX.BN{X:Cx}{ae:ZV}{σ:St}{H:Hp}{s:Z3}{b:Bool}{a:Z4}{xs ys:List V}(I:aX X ae σ H s)(h:Au b X.K H a xs)(h':Au b X.K H a ys):xs=ys:=by
 cases b with
 |true=>exact I.nO h h'
 |false=>exact I.mj h h'
theorem aX.KN{X:Cx}{ae:ZV}{σ:St}{H:Hp}{s:Z3}{b:Bool}{l c:Z4}{zs:List V}(I:aX X ae σ H s)(hs:Au b X.K H l zs)(f:kC X ae H c):l≠c:=by
 intro q;have mo:∀o,X.K.lookup l=some o->False:=fun o hk=>by
  have e:=I.mod.Ku l o hk;rcases f.2.2.2.1 with z|z
  .exact I.ok.yh l o e (by rw[q];exact z)
  .exact absurd (VJ (VE (I.ok.bs l o e).1) (by rw[q];exact z)) (Wg _)
 have tr:∀o,H l=some o->False:=fun o e=>by rw[q,f.1]at e;cases e
 cases b with
 |true=>
  rcases(show l? X.K H l zs from hs) with(r|⟨o,r⟩)|⟨o,aV,n,hk,_⟩
  .exact tr _ r
  .exact tr _ r
  .exact mo o hk
 |false=>
  rcases(show mY X.K H l zs from hs) with(r|⟨o,r⟩)|⟨o,aV,n,hk,_⟩
  .exact tr _ r
  .exact tr _ r
  .exact mo o hk
def Itz(K:ZW)(b1 b2:Bool)(a b:Z4):It:=
 ⟨fun i H=>∃xs ys x y,Au b1 K H a xs/\Au b2 K H b ys/\xs[i]?=some x/\ys[i]?=some y,
  fun i H v H'=>∃p x y,v=.ref p/\H p=none/\H'=upd H p (.tup [x,y])/\(∀xs,Au b1 K H a xs->xs[i]?=some x)/\∀ys,Au b2 K H b ys->ys[i]?=some y,
  fun i H=>∃xs ys,Au b1 K H a xs/\Au b2 K H b ys/\(xs.length<=i\/ys.length<=i)⟩
theorem Fe{P:Z6}{w:World}{K:ZW}{elts:List Expr}{kt:Nat}{tp:Pos}{b1 b2:Bool}{z TI TO i1 i2:Z4}(a b:Z4)(ne:z≠TI/\z≠TO/\z≠i1/\z≠i2/\TI≠TO/\TI≠i1/\TI≠i2/\TO≠i1/\TO≠i2/\i1≠i2):
  Turn P w K (.Tuple elts kt tp) (Itz K b1 b2 a b) [z,TI,TO,i1,i2] z (fun i h=>IsZip h z TI TO .none/\IsPair h TI (.ref i1) (.ref i2)/\(∃u v,IsPair h TO u v)/\d? b1 h i1 a i/\d? b2 h i2 b i) where
 mem:=by simp
 obj:=fun i h⟨hz,wW,⟨u,v,yc⟩,h1,h2⟩c hc=>by
  have d!:c=z\/c=TI\/c=TO\/c=i1\/c=i2:=by simpa using hc
  rcases d! with rfl|rfl|rfl|rfl|rfl
  .exact⟨_,hz,fun v q=>by have q':Data.fields _=Data.cell v:=q;cases q'⟩
  .exact⟨_,wW,fun v q=>by have q':Data.seq _ _=Data.cell v:=q;cases q'⟩
  .exact⟨_,yc,fun v q=>by have q':Data.seq _ _=Data.cell v:=q;cases q'⟩
  .obtain⟨o,n,vs,e,_,d⟩:=h1.there;exact⟨o,e,fun v q=>by rw[d]at q;cases q⟩
  .obtain⟨o,n,vs,e,_,d⟩:=h2.there;exact⟨o,e,fun v q=>by rw[d]at q;cases q⟩
 keep:=fun i h h'⟨hz,wW,⟨u,v,yc⟩,h1,h2⟩k=>⟨k z (by simp) _ hz,k TI (by simp) _ wW,⟨u,v,k TO (by simp) _ yc⟩,h1.keep fun o e=>k i1 (by simp) o e,h2.keep fun o e=>k i2 (by simp) o e⟩
 item:=by
  intro X hP hw hK hc i ae s σ H E I hf st hg;subst hP hw hK;obtain⟨hz,wW,⟨u,v,yc⟩,h1,h2⟩:=st;obtain⟨xs,ys,x,y,sx,sy,ex,ey⟩:=hg;obtain⟨aV,rv,p,_⟩:=I.O1 sx;obtain⟨fY,SK,p2,_⟩:=I.O1 sy;obtain⟨ux,UR,rx⟩:=rv.get ex;obtain⟨uy,euy,ry⟩:=SK.get ey;obtain⟨n1,n2,n3,n4,n5,n6,n7,n8,n9,US⟩:=ne;have fz:=hf z (by simp);have g6:∀{b:Bool}{l:Z4}{zs:List V},Au b X.K H l zs->∀c∈[z,TI,TO,i1,i2],l≠c:=fun{b l zs}hs c d!=>I.KN hs (hf c d!);have D:ZipApart z TI TO i1 i2 a b:=⟨n1.symm,n2.symm,n3.symm,n4.symm,n5,n6,n7,n8,n9,US,g6 sx z (by simp),g6 sx TO (by simp),g6 sx i1 (by simp),g6 sx i2 (by simp),g6 sy z (by simp),g6 sy TO (by simp),g6 sy i1 (by simp),g6 sy i2 (by simp)⟩
  refine Dc (b1:=b1) (b2:=b2) D hz wW yc h1 h2 p p2 (x:=ux) (y:=uy) (by simpa using UR) (by simpa using euy) fun h' a1 a2 a3 a4 a5 a6=>⟨_,rfl,?_⟩
  have hT:H s.heap.objs.size=none:=I.dq.fresh (VA _);have Qy:∀c∈[z,TO,i1,i2],H c=none:=fun c d!=>(hf c (by simp at d!⊢;rcases d! with q|q|q|q<;>simp[q])).1;have kp:∀c o,c ∉ [z,TO,i1,i2]->s.heap.get? c=some o->h'.get? c=some o:=fun c o d! e=>a6 c o (fun q=>d! (by simp[q])) (fun q=>d! (by simp[q])) (fun q=>d! (by simp[q])) (fun q=>d! (by simp[q])) e;have yg:∀c o,H c=some o->c ∉ [z,TO,i1,i2]:=fun c o e d!=>by rw[Qy c d!]at e;cases e
  have dq:jM X.prog X.w (upd H s.heap.objs.size (.tup [x,y])) h':=fun c o e=>by
   by_cases Qz:c=s.heap.objs.size
   .subst Qz;rw[dr]at e;cases e;exact⟨by show 2<=sizeLine;decide,[ux,uy],.cons rx (.cons ry .nil),_,a5,rfl,_,rfl⟩
   .rw[bB Qz]at e;refine(I.dq c o e).qF (fun d v hd q=>kp d v ?_ q) (fun d q=>by rw[bB (bC q hT)];exact q) fun d zs q=>by rw[bB (bC q hT)];exact q
    rcases hd with q'|q'
    .rw[q'];exact yg c o e
    .exact yg d _ q'
  have un:Un (iG X.stack) [z,TO,i1,i2] H (upd H s.heap.objs.size (.tup [x,y])) s.heap h':=
   ⟨fun c o e n _ d!=>kp c o d! e,fun c o e n _ d!=>⟨o.slots,kp c o d! e⟩,fun c o e n d!=>by rw[bB (V1 (VE e))];exact n,fun c o e d!=>⟨o,kp c o d! e⟩,
    fun c zs e=>by rw[bB (bC e hT)];exact e,fun c o u e=>by rw[bB (bC e hT)];exact e,fun c ps e=>⟨#[],by rw[bB (bC e hT),e];simp⟩⟩
  have I1:aX X ae σ (upd H s.heap.objs.size (.tup [x,y])) {s with heap:=h'}:=I.yj rfl un dq I.bare fun c d!=>by obtain⟨f0,f1,f2,f3,f4,f5⟩:=hf c (by simp at d!⊢;rcases d! with q|q|q|q<;>simp[q]);exact⟨f3,f1,f4,f5⟩
  have UT:∀c∈[z,TI,TO,i1,i2],c≠s.heap.objs.size:=fun c d! q=>by
   have yb:c<s.heap.objs.size:=by
    have MU:c=z\/c=TI\/c=TO\/c=i1\/c=i2:=by simpa using d!
    rcases MU with r|r|r|r|r
    .rw[r];exact VE hz
    .rw[r];exact VE wW
    .rw[r];exact VE yc
    .obtain⟨o,_,_,e,_⟩:=h1.there;rw[r];exact VE e
    .obtain⟨o,_,_,e,_⟩:=h2.there;rw[r];exact VE e
   exact absurd yb (by rw[q];exact Wg _)
  have Ff:∀c∈[z,TI,TO,i1,i2],(upd H s.heap.objs.size (.tup [x,y])) c=none:=fun c d!=>by rw[bB (UT c d!)];exact(hf c d!).1
  refine wpAny_letOwnedTupleGo_zip a1 fun I9 UU sb=>?_;obtain⟨f0,f1,f2,f3,f4,f5⟩:=fz;have I2:aX X ae σ (upd H s.heap.objs.size (.tup [x,y])) {s with heap:=I9}:=I1.turned (s:={s with heap:=h'}) (t':=s.toks) (it:=z) (fun c o d! e=>(sb.2 c d!).trans e) (Ff z (by simp)) f1 f3 f4 f5;refine⟨.ref s.heap.objs.size,_,I2,rfl,⟨_,x,y,rfl,hT,rfl,fun zs hs=>by rw[I.BN hs sx];exact ex,fun zs hs=>by rw[I.BN hs sy];exact ey⟩,⟨UU,?_,⟨_,_,sb.extBut _ _ n2.symm a2⟩,a3.keep fun o e=>sb.extBut _ o n3.symm e,a4.keep fun o e=>sb.extBut _ o n4.symm e⟩,Ff⟩;exact sb.extBut _ _ n1.symm (a6 _ _ n1.symm n5 n6 n7 wW)
 done:=by
  intro X hP hw hK hc i ae s σ H E I hf st hg;subst hP hw hK;obtain⟨hz,wW,⟨u,v,yc⟩,h1,h2⟩:=st;obtain⟨xs,ys,sx,sy,hl⟩:=hg;obtain⟨aV,rv,p,_⟩:=I.O1 sx;obtain⟨fY,SK,p2,_⟩:=I.O1 sy;have l1:=rv.length;have l2:=SK.length;obtain⟨n1,n2,n3,n4,n5,n6,n7,n8,n9,US⟩:=ne;have g6:∀{b:Bool}{l:Z4}{zs:List V},Au b X.K H l zs->∀c∈[z,TI,TO,i1,i2],l≠c:=fun{b l zs}hs c d!=>I.KN hs (hf c d!);have D:ZipApart z TI TO i1 i2 a b:=⟨n1.symm,n2.symm,n3.symm,n4.symm,n5,n6,n7,n8,n9,US,g6 sx z (by simp),g6 sx TO (by simp),g6 sx i1 (by simp),g6 sx i2 (by simp),g6 sy z (by simp),g6 sy TO (by simp),g6 sy i1 (by simp),g6 sy i2 (by simp)⟩
  refine E! (b1:=b1) (b2:=b2) (I.ok.hd hc) D hz wW yc h1 h2 p p2 (by rcases hl with q|q;exact .inl (by simp;lia);exact .inr (by simp;lia)) fun h' a6=>⟨rfl,?_⟩
  have Qy:∀c∈[z,TO,i1,i2],H c=none:=fun c d!=>(hf c (by simp at d!⊢;rcases d! with q|q|q|q<;>simp[q])).1;have kp:∀c o,c ∉ [z,TO,i1,i2]->s.heap.get? c=some o->h'.get? c=some o:=fun c o d! e=>a6 c o (fun q=>d! (by simp[q])) (fun q=>d! (by simp[q])) (fun q=>d! (by simp[q])) (fun q=>d! (by simp[q])) e;have yg:∀c o,H c=some o->c ∉ [z,TO,i1,i2]:=fun c o e d!=>by rw[Qy c d!]at e;cases e
  have dq:jM X.prog X.w H h':=fun c o e=>by
   refine(I.dq c o e).qF (fun d v hd q=>kp d v ?_ q) (fun d q=>q) fun d zs q=>q;rcases hd with q'|q'
   .rw[q'];exact yg c o e
   .exact yg d _ q'
  have un:Un (iG X.stack) [z,TO,i1,i2] H H s.heap h':=
   ⟨fun c o e n _ d!=>kp c o d! e,fun c o e n _ d!=>⟨o.slots,kp c o d! e⟩,fun c o e n d!=>n,fun c o e d!=>⟨o,kp c o d! e⟩,fun c zs e=>e,fun c o u e=>e,fun c ps e=>⟨#[],by rw[e];simp⟩⟩
  exact I.yj rfl un dq I.bare fun c d!=>by obtain⟨f0,f1,f2,f3,f4,f5⟩:=hf c (by simp at d!⊢;rcases d! with q|q|q|q<;>simp[q]);exact⟨f3,f1,f4,f5⟩
 self:=fun _ _ _ _ _ st h=>wpAny_pyIter_zip st.1 h
section
variable{X:Cx}{elts:List Expr}{kt:Nat}{tp p pos:Pos}
def UW(K:ZW)(b1 b2:Bool)(ta:TA):TI:=fun σ H R=>ta σ H fun vs H1=>∃a b,vs=[.ref a,.ref b]/\(∃xs,Au b1 K H1 a xs)/\(∃ys,Au b2 K H1 b ys)/\R (Itz K b1 b2 a b) H1
theorem MV(b1 b2:Bool){ea eb:Expr}{ta:TA}(hg:Gl X "zip")(hm:X.mg "zip" = none)(ha:PA X [ea,eb] ta)(hs:starEach [ea,eb] X.env=[(false,eval ea X.env),(false,eval eb X.env)]:=by rfl)(jq:starEach [eb] X.env=[(false,eval eb X.env)]:=by rfl):
  PI X (.Tuple elts kt tp) (.Call (.Name "zip" p) [ea,eb] [] pos) (UW X.K b1 b2 ta):=by
 intro ae s σ H R I h;refine Call_ (kA I hg hm boot_zip (Ww (dJ (ha pos ae s σ H _ I h) fun us s1⟨vs,H1,I1,r1,q1⟩=>?_) (by rw[hs,jq]) (by rw[jq];rfl)));obtain⟨a,b,e,⟨xs,sx⟩,⟨ys,sy⟩,q⟩:=q1;subst e;obtain⟨u,u2,rfl,ru,ru2⟩:=vals2 r1;cases ru;cases ru2;obtain⟨aV,rv,p1,_⟩:=I1.O1 sx;obtain⟨fY,SK,p2,_⟩:=I1.O1 sy;refine Fd (b1:=b1) (b2:=b2) p1 p2 fun h' hz wW yc g1 g2 kp=>wpAny_pyIter_zip hz ?_;have I2:aX X ae σ H1 {s1 with heap:=h'}:=I1.kept (t':=s1.toks) kp;refine⟨_,[s1.heap.objs.size+4,s1.heap.objs.size+2,s1.heap.objs.size+3,s1.heap.objs.size,s1.heap.objs.size+1],_,_,H1,rfl,I2,Fe (b1:=b1) (b2:=b2) a b ?_,⟨hz,wW,⟨_,_,yc⟩,g1,g2⟩,fun c hc=>?_,q⟩
 .refine⟨?_,?_,?_,?_,?_,?_,?_,?_,?_,?_⟩<;>(intro z;have z':(_:Nat)=_:=z;lia)
 .have hle:s1.heap.objs.size<=c:=by
   have d!:c=s1.heap.objs.size+4\/c=s1.heap.objs.size+2\/c=s1.heap.objs.size+3\/c=s1.heap.objs.size\/c=s1.heap.objs.size+1:=by simpa using hc
   rcases d! with r|r|r|r|r<;>(rw[r];first|exact VA _|exact ZH _ _)
  exact I1.Ad hle (I1.dq.fresh hle)
end
theorem dE.there{P:Z6}{w:World}{H:Hp}{h:Heap}{a:Z4}{o:HO}(x:dE P w H h a o):∃ob,h.get? a=some ob:=by
 cases o with
 |lst xs=>obtain⟨_,_,_,_,e⟩:=x;exact⟨_,e⟩
 |tup xs=>obtain⟨_,_,_,ob,e,_⟩:=x;exact⟨_,e⟩
 |dK aY=>obtain⟨_,_,_,_,o,_,_,e,_⟩:=x;exact⟨_,e⟩
 |dT aY=>obtain⟨_,_,_,_,o,_,_,e,_⟩:=x;exact⟨_,e⟩
 |set S n=>obtain⟨o,_,_,_,e,_⟩:=x;exact⟨_,e⟩
 |ins C dx fs=>obtain⟨_,_,_,e,_⟩:=x;exact⟨_,e⟩
 |own y=>obtain⟨_,e⟩:=x;exact⟨_,e⟩
 |xd fs=>obtain⟨_,⟨_,_,_,e,_⟩,_⟩:=x;exact⟨_,e⟩
 |HG lo hi=>obtain⟨_,_,_,e⟩:=x;exact⟨_,e⟩
 |nk ob u=>obtain⟨e,_⟩:=x;exact⟨_,e⟩
 |HH ps=>exact⟨_,(show h.get? a=some _ from x)⟩
 |met f y=>exact⟨_,(show h.get? a=some _ from x)⟩
 |ext φ=>obtain⟨_,e,_⟩:=x;exact e
structure Fly(P:Z6)(w:World)(l:List Env)(H H':Hp)(s s':Z3)(ea:Z4)(cls:Z2):Prop where
 os:s'.os=s.os
 bare:AllBare s'.gens
 un:Un (iG l) [] H H' s.heap s'.heap
 dq:jM P w H' s'.heap
 fl:∃(B:Heap)(t:Z4),Heap.FlyingW B l ea cls (.ref t) s'.heap/\(∀b,H' b≠none->∃o,B.get? b=some o)/\(∀b o,s.heap.get? b=some o->b ∉ iG l->∃o',B.get? b=some o')
 tr:sR s'.heap ea
def nK(P:Z6)(w:World):BB:=fun outer H s E e s'=>∃ea cls H',e=.ref ea/\Fly P w outer H H' s s' ea cls/\E cls none H'
section
variable{P:Z6}{w:World}{K:ZW}{mg:ZU}{base:Heap}{N:Z1}{qual:Str}{scope:Scope}{f:Z4}{cd:Z2}{A:Z5}{outer:List Env}{s₀:Z3}{H₀:Hp}{E:XK}
theorem yE{env:Env}{L:Z4}(hf:env.frame=some L)(l:List Env):iG (env::l)=L::iG l:=by unfold iG;rw[X7,hf]
theorem Dd{ae:ZV}{σ:St}{H:Hp}{s:Z3}{h':Heap}{e:Z4}{cls:Z2}{vs:ZY}(I:aX (jr (nK P w) P w K mg base N qual scope f cd A outer s₀ H₀ E) ae σ H s)(hx:Heap.MadeExcOf s.heap h' e cls vs)(hE:E cls none H):(jr (nK P w) P w K mg base N qual scope f cd A outer s₀ H₀ E).xe (.ref e) {s with heap:=h'}:=by
 have wC:=I.stack;have BA:=I.wA;have ya:(A.deeper (envOfC qual scope s₀.heap.objs.size f cd)).frames=some (envOfC qual scope s₀.heap.objs.size f cd::outer):=I.ok.frames;have QA:iG (envOfC qual scope s₀.heap.objs.size f cd::outer)=s₀.heap.objs.size::iG outer:=yE rfl outer;have KO:∀env∈(envOfC qual scope s₀.heap.objs.size f cd::outer),∀b,env.frame=some b->b∈iG (envOfC qual scope s₀.heap.objs.size f cd::outer):=fun env he b hb=>Y3.mpr ⟨env,he,hb⟩;have KP:∀b o,s₀.heap.get? b=some o->b ∉ iG outer->b ∉ iG (envOfC qual scope s₀.heap.objs.size f cd::outer):=fun b o q hb hm=>by
  rw[QA]at hm;rcases VT.mp hm with z|z
  .exact absurd (VE q) (by rw[z];exact Wg _)
  .exact hb z
 refine wN (base:=W.hideAll s.heap (iG (envOfC qual scope s₀.heap.objs.size f cd::outer))) (h:=s.heap) ya rfl (fun b o q=>Zf _ q) (W.funFrames_hide wC KO) hx fun I9 t fl up tr=>?_;have stays:∀b o,s.heap.get? b=some o->b ∉ iG (envOfC qual scope s₀.heap.objs.size f cd::outer)->I9.get? b=some o:=fun b o q hb=>fl.1 b o (XE _ q hb);have yg:∀b u,H b=some u->b ∉ iG (envOfC qual scope s₀.heap.objs.size f cd::outer):=fun b u q hb=>by rw[BA b hb]at q;cases q
 have slot:∀b o,s₀.heap.get? b=some o->H₀ b=none->b∈iG outer->∃sl,I9.get? b=some {o with slots:=sl}:=fun b o q n hb=>by obtain⟨sl,e1⟩:=I.base.slot b o q n hb (by intro z;cases z);obtain⟨_,o',vC,C8⟩:=wC.mem (show b∈iG (envOfC qual scope s₀.heap.objs.size f cd::outer) by rw[QA];exact VN _ hb);rw[e1]at vC;cases vC;obtain⟨LN,e2⟩:=up b _ (hx.keeps _ _ e1) C8;exact⟨LN,e2⟩
 have nil:∀b:Z4,b ∉ (jr (nK P w) P w K mg base N qual scope f cd A outer s₀ H₀ E).ex:=fun b z=>by cases z
 refine⟨e,cls,H,rfl,⟨I.os,I.bare,⟨fun b o q n hb _=>stays b o (I.base.keep b o q n hb (nil b)) (KP b o q hb),fun b o q n hb _=>slot b o q n hb,fun b o q n _=>I.base.free b o q n (nil b),fun b o q _=>?_,I.base.nL,I.base.nq,I.base.oY⟩,fun b u q=>?_,⟨W.hideAll s.heap (iG (envOfC qual scope s₀.heap.objs.size f cd::outer)),⟨t,fl,fun b hb=>?_,fun b o q hb=>?_⟩⟩,tr⟩,hE⟩
 .by_cases hb:b∈iG outer
  .obtain⟨sl,e1⟩:=slot b o q (I.ok.Ej b hb) hb;exact⟨_,e1⟩
  .obtain⟨o',e1⟩:=I.base.there b o q (nil b);exact⟨o',stays b o' e1 (KP b o q hb)⟩
 .refine(I.dq b u q).qF (fun c v hc z=>stays c v z ?_) (fun _ z=>z) fun _ _ z=>z;rcases hc with z'|z'
  .rw[z'];exact yg b u q
  .exact yg c _ z'
 .cases q:H b with
  |none=>exact absurd q hb
  |some u=>
   obtain⟨o,e1⟩:=(I.dq b u q).there;exact⟨o,XE _ e1 (yg b u q)⟩
 .obtain⟨o',e1⟩:=I.base.there b o q (nil b);exact⟨o',XE _ e1 (KP b o q hb)⟩
theorem Fg:Passes (nK P w) (jr (nK P w) P w K mg base N qual scope f cd A outer s₀ H₀ E) E:=by
 rintro ae σ H s e s' I ⟨ea,cls,H',rfl,Z,hE⟩;obtain⟨B,t,fl,ct,cs⟩:=Z.fl;have ya:(A.deeper (envOfC qual scope s₀.heap.objs.size f cd)).frames=some (envOfC qual scope s₀.heap.objs.size f cd::outer):=I.ok.frames;have QA:iG (envOfC qual scope s₀.heap.objs.size f cd::outer)=s₀.heap.objs.size::iG outer:=yE rfl outer;have KP:∀b o,s₀.heap.get? b=some o->b ∉ iG outer->b ∉ iG (envOfC qual scope s₀.heap.objs.size f cd::outer):=fun b o q hb hm=>by
  rw[QA]at hm;rcases VT.mp hm with z|z
  .exact absurd (VE q) (by rw[z];exact Wg _)
  .exact hb z
 have sub:∀b,b∈iG outer->b∈iG (envOfC qual scope s₀.heap.objs.size f cd::outer):=fun b hb=>by rw[QA];exact VN _ hb
 have nil:∀b:Z4,b ∉ (jr (nK P w) P w K mg base N qual scope f cd A outer s₀ H₀ E).ex:=fun b z=>by cases z
 refine Ao ya rfl fl Z.tr fun I9 UX up tr=>?_;have De:∀b o,s'.heap.get? b=some o->(∃o',B.get? b=some o')->I9.get? b=some o:=fun b o q⟨o',z⟩=>by have q':=fl.1 b o' z;rw[q]at q';cases q';exact UX.1 b o z
 have slot:∀b o,s₀.heap.get? b=some o->H₀ b=none->b∈iG outer->∃sl,I9.get? b=some {o with slots:=sl}:=fun b o q n hb=>by obtain⟨sl,e1⟩:=I.base.slot b o q n hb (nil b);obtain⟨PZ,e2⟩:=Z.un.slot b _ e1 (I.base.free b o q n (nil b)) (sub b hb) (by intro z;cases z);obtain⟨_,o',vC,C8⟩:=fl.2.2.1.mem (sub b hb);rw[e2]at vC;cases vC;obtain⟨LN,e3⟩:=up b _ e2 C8;exact⟨LN,e3⟩
 refine⟨ea,cls,H',rfl,⟨Z.os.trans I.os,Z.bare,⟨fun b o q n hb _=>?_,fun b o q n hb _=>slot b o q n hb,fun b o q n _=>?_,fun b o q _=>?_,fun b xs q=>Z.un.nL b xs (I.base.nL b xs q),fun b o u q=>Z.un.nq b o u (I.base.nq b o u q),fun b ps q=>?_⟩,fun b u q=>?_,⟨B,t,UX,ct,fun b o q hb=>?_⟩,tr⟩,hE⟩
 .have e1:=I.base.keep b o q n hb (nil b);have n1:=I.base.free b o q n (nil b);have nf:=KP b o q hb;exact De b o (Z.un.keep b o e1 n1 nf (by intro z;cases z)) (cs b o e1 nf)
 .obtain⟨o',e1⟩:=I.base.there b o q (nil b);exact Z.un.free b o' e1 (I.base.free b o q n (nil b)) (by intro z;cases z)
 .by_cases hb:b∈iG outer
  .obtain⟨sl,e1⟩:=slot b o q (I.ok.Ej b hb) hb;exact⟨_,e1⟩
  .obtain⟨o',e1⟩:=I.base.there b o q (nil b);obtain⟨o2,e2⟩:=cs b o' e1 (KP b o q hb);exact⟨o2,UX.1 b o2 e2⟩
 .obtain⟨m1,e1⟩:=I.base.oY b ps q;obtain⟨m2,e2⟩:=Z.un.oY b _ e1;exact⟨m1++m2,by rw[e2,Array.append_assoc]⟩
 .refine(Z.dq b u q).qF (fun c v hc z=>De c v z (ct c ?_)) (fun _ z=>z) fun _ _ z=>z;rcases hc with z'|z'
  .rw[z',q];simp
  .rw[z'];simp
 .obtain⟨o',e1⟩:=I.base.there b o q (nil b);exact cs b o' e1 (KP b o q hb)
theorem IK.okX{x:Str}{st:Stmt}{fd:FuncData}{ps:Z1}{k:Nat}{sp:Sp}(F:IK K x qual st f fd)(S:gY N ps (a_ st))(len:∀vs H Q E,sp vs H Q E->vs.length=ps.length)
  (yp:∀ (fV:Z2) (A:Z5) (outer:List Env) (s:Z3) (H:Hp) (vs:List V) (Q:VK) (E:XK),gK k (A.deeper (envOfC qual (a_ st) s.heap.objs.size f fV))->sp vs H Q E ->
   ∃t,kx (jr (nK P w) P w K mg base N qual (a_ st) f fV A outer s H E) (e_ st) t/\t {nx:=fun _ H'=>Q .dg H',rt:=Q} (start N vs) H):kE P w K mg base (nK P w) (k+1) f fd ps sp:=by
 obtain⟨oc,od,kV,doc,pm,an,fV,ct,C2,rfl,lk,zW⟩:=F.ex;exact PY lk zW S len fun A outer s H vs Q E hr Kz=>yp fV A outer s H vs Q E hr Kz
end
theorem Df{K:ZW}{h:Heap}{mg:ZU}{x:Str}{C:Z4}{bmB:ZY}{newId:String}(X:K.In h)(hb:mg x=some (.ref C))(q:W.excIn K C bmB newId=true):OwnCls x C bmB newId mg h:=by
 refine⟨hb,?_⟩;unfold W.excIn at q;split at q
 .rename_i dd cd sl ho;split at q
  .rename_i C' bm k0 k1 k2 k3 n k5 hm hs;simp only[WV,W9,Zw]at q;obtain⟨⟨⟨⟨⟨rfl,rfl⟩,QB⟩,ht⟩,dq⟩,SM⟩:=q;obtain⟨nm,bs,mro,ns,qn,hd,sn,sub,ab,col,del⟩:=cd;dsimp only at hm QB dq SM;subst hm QB;have MW:sl = #[k0,k1,k2,k3,some (.builtin n),k5]:=by obtain⟨l⟩:=sl;simp only at hs;rw[hs]
   subst MW;exact⟨bm,ns,nm,qn,bs,hd,sn,sub,ab,col,dd,k0,k1,k2,k3,k5,_,X _ _ ho,.of_isNs (W.isNs_of_in X dq),W.nsMap_none_of_in X dq SM,W.tail_of_in X ht⟩
  .cases q
 .cases q
def MX(E:XK)(C:Z4)(t:TA):TS:=fun _ σ H=>t σ H fun vs H1=>vs.length<=sizeLine/\E (.ref C) none H1
def Raises(X:Cx)(E:XK):Prop:=∀(ae:ZV)(σ:St)(H:Hp)(s:Z3)(h':Heap)(e:Z4)(cls:Z2)(vs:ZY),aX X ae σ H s->Heap.MadeExcOf s.heap h' e cls vs->E cls none H->X.xe (.ref e) {s with heap:=h'}
theorem Fh{X:Cx}{E:XK}{x:Str}{C:Z4}{B newId Av:String}{bm:ZY}{np dS pos:Pos}{e₀:Expr}{rest:List Expr}{t:TA}(hX:Raises X E)(hc:X.calm=true)(hm:X.mg x=some (.ref C))(hq:W.excIn X.K C bm newId=true)(FB:ExcBaseFacts B newId Av bm)(hg:Gl X x)(ha:PA X (e₀::rest) t)(he:starEach (e₀::rest) X.env=(false,eval e₀ X.env)::starEach rest X.env:=by rfl)(m6:(backTo dS (starEach rest X.env)).any (·.1)=false:=by rfl)(hd:(x==("__debug__":Str))=false:=by decide):
  PS X (.Raise (some (.Call (.Name x np) (e₀::rest) [] dS)) none pos) (MX E C t):=by
 intro ae s σ H D I h;obtain⟨tl,NS,nm,q,bs,hdct,sn,sub,ab,col,dd,k0,k1,k2,k3,k5,mN,hC,hN,SM,T⟩:=(Df I.mod.Ku hm hq).obj;refine wpAny_Raise_call_subT (C:=C) (nm:=nm) (q:=q) (N:=NS) (bs:=bs) (bm:=tl) (hdct:=hdct) (sn:=sn) (sub:=sub) (ab:=ab) (col:=col) (dd:=dd) (k0:=k0) (k1:=k1) (k2:=k2) (k3:=k3) (k5:=k5)
  FB (mN:=mN) (T.hasType FB.hasBase) (I.ok.hd hc) (by rw[he];show(false || (backTo dS (starEach rest X.env)).any (·.1))=false;rw[m6];rfl) SM (l! I hg hm ⟨rfl,?_⟩ hd)
 have hA:=ha dS ae s σ H _ I h;rw[he]at hA⊢;exact Calls.evalArgs_plain (dJ hA fun us s2⟨vs,H2,I2,r2,z,q2⟩=>⟨rfl,by rw[<-r2.length];exact z,I2.bk _ _ hC,hN.keeps I2.bk,T.keeps I2.bk,fun h' e hm2=>hX ae σ H2 s2 h' e _ _ I2 hm2 q2⟩)
structure DefX(X:Cx):Prop where
 fn:∀y,X.fn y=true
 HI:X.stack=X.env::X.outer
 fr:X.env.frame=some X.env.locals
structure yF(X:Cx)(ae:ZV)(σ:St)(H:Hp)(s:Z3)(ea:Z4)(cls:Z2):Prop where
 inv:aX X ae σ H s
 fl:∃(B:Heap)(t:Z4),Heap.FlyingW B X.stack ea cls (.ref t) s.heap/\(∀b,H b≠none->∃o,B.get? b=some o)/\(∀b o,X.s₀.heap.get? b=some o->b ∉ iG X.stack->b ∉ X.ex->∃o',B.get? b=some o')/\(∀p∈X.pn++ae,∃o',B.get? p.1=some o')/\(∀x c,X.env.cells.lookup x=some c->∃o,B.get? c=some o)
 tr:sR s.heap ea
section
variable{X:Cx}{ae:ZV}{σ:St}{H H':Hp}{s s':Z3}{ea:Z4}{cls:Z2}
theorem aX.Dg(I:aX X ae σ H s){b:Z4}(h1:b≠X.env.locals)(h2:b ∉ X.fs):b ∉ iG X.stack:=fun z=>(VT.mp (I.sG b z)).elim h1 h2
theorem aX.slots{B h':Heap}(I:aX X ae σ H s)(sB:B.StaysIn s.heap)(c1:∀b,H b≠none->∃o,B.get? b=some o)(c2:∀b o,X.s₀.heap.get? b=some o->b ∉ iG X.stack->b ∉ X.ex->∃o',B.get? b=some o')(c3:∀p∈X.pn++ae,∃o',B.get? p.1=some o')(c4:∀x c,X.env.cells.lookup x=some c->∃o,B.get? c=some o)(k1:B.StaysIn h')(k2:s.heap.UpToSlots h'):aX X ae σ H {s with heap:=h'}:=by
 have De:∀b o,s.heap.get? b=some o->(∃o',B.get? b=some o')->h'.get? b=some o:=fun b o q⟨o',z⟩=>by have q':=sB b o' z;rw[q]at q';cases q';exact k1 b o z
 have LM:∀b o,X.s₀.heap.get? b=some o->b≠X.env.locals:=fun b o e=>V1 (VJ (VE e) I.ok.above);have slot:∀b o,X.s₀.heap.get? b=some o->X.H₀ b=none->b∈X.fs->b ∉ X.ex->∃sl,h'.get? b=some {o with slots:=sl}:=fun b o q n hb hx=>by obtain⟨sl,e1⟩:=I.base.slot b o q n hb hx;obtain⟨_,o',vC,C8⟩:=I.kz.mem hb;rw[e1]at vC;cases vC;obtain⟨LN,e2⟩:=k2 b _ e1 C8;exact⟨LN,e2⟩
 refine⟨I.ok,I.os,I.bare,⟨fun b o q n hb hx=>?_,slot,I.base.free,fun b o q hx=>?_,I.base.nL,I.base.nq,I.base.oY⟩,?_,fun x c e=>?_,I.free,I.jf,fun p hp=>?_,fun b u q=>?_,I.len⟩
 .exact De b o (I.base.keep b o q n hb hx) (c2 b o q (I.Dg (LM b o q) hb) hx)
 .by_cases hb:b∈X.fs
  .obtain⟨sl,e1⟩:=slot b o q (I.ok.Ej b hb) hb hx;exact⟨_,e1⟩
  .obtain⟨o',e1⟩:=I.base.there b o q hx;exact⟨o',De b o' e1 (c2 b o q (I.Dg (LM b o q) hb) hx)⟩
 .obtain⟨m,hn,hl⟩:=I.loc;refine⟨m,k2.ns hn,fun i x v e1 e2 e3=>?_⟩;obtain⟨u,r,l⟩:=hl i x v e1 e2 e3;refine⟨u,r,?_⟩;rcases l with l|⟨k,c,e,o,ho,hd⟩
  .exact .inl l
  .exact .inr ⟨k,c,e,o,De c o ho (c4 x c e),hd⟩
 .obtain⟨v,o,ho,hd⟩:=I.cell x c e;exact⟨v,o,De c o ho (c4 x c e),hd⟩
 .obtain⟨e,n,ne,nf,d⟩:=I.pin p hp;exact⟨De p.1 p.2 e (c3 p hp),n,ne,nf,d⟩
 .refine(I.dq b u q).qF (fun c v hc z=>De c v z (c1 c ?_)) (fun _ z=>z) fun _ _ z=>z;rcases hc with z'|z'
  .rw[z',q];simp
  .rw[z'];simp
theorem yF.slots(J:yF X ae σ H s ea cls):∃(B:Heap)(t:Z4),Heap.FlyingW B X.stack ea cls (.ref t) s.heap/\H ea=none/\∀h',Heap.FlyingW B X.stack ea cls (.ref t) h'->s.heap.UpToSlots h'->sR h' ea->yF X ae σ H {s with heap:=h'} ea cls:=by
 obtain⟨B,t,fl,c1,c2,c3,c4⟩:=J.fl;refine⟨B,t,fl,?_,fun h' f2 up tr=>⟨J.inv.slots fl.1 c1 c2 c3 c4 f2.1 up,⟨B,t,f2,c1,c2,c3,c4⟩,tr⟩⟩;cases q:H ea with
 |none=>rfl
 |some u=>
  obtain⟨o,e⟩:=c1 ea (by rw[q];simp);rw[fl.2.1]at e;cases e
theorem aX.flew(I:aX X ae σ H s)(Er:∀y,X.fn y=true)(Z:Fly X.prog X.w X.stack H H' s s' ea cls):yF X ae σ H' s' ea cls:=by
 obtain⟨B,t,fl,ct,cs⟩:=Z.fl;have cl:∀x c,X.env.cells.lookup x=some c->c ∉ iG X.stack:=fun x c e=>I.Dg (I.Kw x c e) fun hb=>by obtain⟨_,o,ho,_⟩:=I.ok.kz.mem hb;exact absurd (VJ (VE ho) (I.ok.Kv x c (Er x) e)) (Wg _)
 refine⟨I.yj Z.os Z.un Z.dq Z.bare fun b z=>absurd z (by simp),⟨B,t,fl,ct,fun b o q hb hx=>?_,fun p hp=>?_,fun x c e=>?_⟩,Z.tr⟩
 .obtain⟨o',e1⟩:=I.base.there b o q hx;exact cs b o' e1 hb
 .obtain⟨e,n,ne,nf,d⟩:=I.pin p hp;exact cs p.1 p.2 e (I.Dg ne nf)
 .obtain⟨v,o,ho,_⟩:=I.cell x c e;exact cs c o ho (cl x c e)
end
abbrev EK:=Z2->Z4->St->Hp->Prop
abbrev EH:=Z2->Z4->Hp->Prop
abbrev QC:=St->Hp->VK->EH->Prop
abbrev MY:=Ends->EK->St->Hp->Prop
def XP(X:Cx)(ae:ZV)(EX:EK)(e:Z2)(s':Z3):Prop:=∃ea cls σ' H',e=.ref ea/\yF X ae σ' H' s' ea cls/\EX cls ea σ' H'
abbrev atS(σ:St)(EX:EH):EK:=fun cls ea σ' H'=>σ'=σ/\EX cls ea H'
def HN(X:Cx)(e:Expr)(t:QC):Prop:=
 ∀(ae:ZV)(s:Z3)(σ:St)(H:Hp)(Q:VK)(EX:EH),aX X ae σ H s->t σ H Q EX->wpAny (model X.prog X.w) X.A (eval e X.env) (EP X ae σ Q) (XP X ae (atS σ EX)) s
def I_(X:Cx)(st:Stmt)(t:MY):Prop:=
 ∀(ae:ZV)(s:Z3)(σ:St)(H:Hp)(D:Ends)(EX:EK),aX X ae σ H s->t D EX σ H->wpAny (model X.prog X.w) X.A (exec st X.env) (SP X ae D) (XP X ae EX) s
def Dh(X:Cx)(st:List Stmt)(t:MY):Prop:=
 ∀(ae:ZV)(s:Z3)(σ:St)(H:Hp)(D:Ends)(EX:EK),aX X ae σ H s->t D EX σ H->wpAny (model X.prog X.w) X.A (execs st X.env) (SP X ae D) (XP X ae EX) s
section
variable{X:Cx}
theorem XP.at{ae:ZV}{σ:St}{EX:EK}{e:Z2}{s':Z3}(h:XP X ae (atS σ fun cls ea H'=>EX cls ea σ H') e s'):XP X ae EX e s':=by obtain⟨ea,cls,σ',H',rfl,J,rfl,q⟩:=h;exact⟨ea,cls,_,H',rfl,J,q⟩
def MZ(sp:Sp)(t:TA):QC:=fun σ H Q EX=>t σ H fun vs H1=>sp vs H1 Q fun cls _ H'=>∀ea,EX cls ea H'
theorem Fi{k:Nat}{f:Z4}{fd:FuncData}{ps:Z1}{sp:Sp}{x:Str}{p pos:Pos}{e:Expr}{es:List Expr}{t:TA}(F:kE X.prog X.w X.K X.mg X.base (nK X.prog X.w) k f fd ps sp)(hr:gK k X.A)(hg:Gl X x)(hm:X.mg x=some (.ref f))(hk:PySem.W.keepIn X.K (.ref f)=true)(hb:Binds X.K fd ps [])(Er:∀y,X.fn y=true)(ha:∀W,PA (X.sJ W) (e::es) t)(u3:(x==("__debug__":Str))=false:=by decide)(he:starEach (e::es) X.env=(false,eval e X.env)::starEach es X.env:=by rfl)(m6:(backTo pos (starEach es X.env)).any (·.1)=false:=by rfl):
  HN X (.Call (.Name x p) (e::es) [] pos) (MZ sp t):=by
 intro ae s σ H Q EX I h;refine Xu (l! I hg hm ?_ u3);refine Yi (h₀:=X.base) I.ok.mod.Ku hk (dJ (ha (XP X ae (atS σ EX)) pos ae s σ H _ (I.sJ _) h) fun us s1⟨vs,H1,I1,r,q⟩=>⟨I1.wB.sF,?_⟩) he m6;have I2:=I1.wB;have hl:(us++[]).length=ps.length:=by rw[V3,<-r.length];exact F.len _ _ _ _ q
 have QD:=hb s1 us I2.sF hl;rw[V3]at QD;refine wpAny_call (XR (F.run X.A X.stack s1 H1 ⟨us,[]⟩ us vs Q _ hr I2.Mn QD r q) fun r s' hq=>?_);cases r with
 |error e=>
  obtain⟨ea,cls,H',rfl,Z,hE⟩:=hq;exact⟨ea,cls,σ,H',rfl,I2.flew Er Z,rfl,hE ea⟩
 |ok fl=>
  cases fl with
  |ret u=>exact I2.after hq
  |next=>exact False.elim hq
  |brk=>exact False.elim hq
  |cont=>exact False.elim hq
theorem Fj{e:Expr}{te:QC}{pos:Pos}(he:HN X e te)(hs:swapsWith e none pos.line X.env=pure false:=by rfl):I_ X (.Expr e pos) (fun D EX σ H=>te σ H (fun _ H1=>D.nx σ H1) fun cls ea H'=>EX cls ea σ H'):=by intro ae s σ H D EX I h;exact wpAny_Expr_any (Wm (he ae s σ H _ _ I h) (fun v s1⟨x,H1,I1,r1,q1⟩=>⟨σ,H1,I1,q1⟩) fun _ _ q=>q.at) I.quiet hs
theorem Fl{st:Stmt}{t:MY}(h1:I_ X st t):Dh X [st] t:=by
 intro ae s σ H D EX I h;refine YL (dJ (h1 ae s σ H D EX I h) fun f s1 q=>?_);cases f with
 |next=>exact Xt q
 |ret v=>exact q
 |brk=>exact q
 |cont=>exact q
abbrev I!:=Ends->EK->Z2->Z4->St->Hp->Prop
def PH(X:Cx)(hs:List ExceptHandler)(th:I!):Prop:=
 ∀(ae:ZV)(s:Z3)(σ:St)(H:Hp)(D:Ends)(EX:EK)(ea:Z4)(cls:Z2),yF X ae σ H s ea cls->th D EX cls ea σ H->wpAny (model X.prog X.w) X.A (handleBy (.ref ea) X.env hs) (SP X ae D) (XP X ae EX) s
def M0:I!:=fun _ _ _ _ _ _=>False
theorem M1:PH X [] M0:=fun _ _ _ _ _ _ _ _ _ h=>h.elim
theorem I?{body:List Stmt}{h₀:ExceptHandler}{hs:List ExceptHandler}{tb:MY}{th:I!}{pos:Pos}(dx:DefX X)(hb:Dh X body tb)(hh:PH X (h₀::hs) th):I_ X (.Try body (h₀::hs) [] [] pos) (fun D EX σ H=>tb D (fun cls ea σ' H'=>th D EX cls ea σ' H') σ H):=by
 intro ae s σ H D EX I h;refine wpAny_Try_except (Wm (hb ae s σ H D _ I h) (fun f s1 q=>?_) fun e s1 q=>?_)
 .cases f with
  |next=>exact Xt q
  |ret v=>exact q
  |brk=>exact q
  |cont=>exact q
 .obtain⟨ea,cls,σ',H',rfl,J,hE⟩:=q;obtain⟨B,t,fl,hn,go⟩:=J.slots;have ya:X.A.frames=some (X.env::X.outer):=by rw[<-dx.HI];exact J.inv.ok.frames
  refine C9 ya dx.fr (by rw[<-dx.HI];exact fl) J.tr fun h4 held up4 tr4=>?_;refine MJ held tr4 fun h5 fl5 up5 tr5=>?_;exact hh ae _ σ' H' D EX ea cls (go h5 (by rw[dx.HI];exact fl5) (up4.trans up5) tr5) hE
theorem M3{body:List Stmt}{h₀:ExceptHandler}{hs:List ExceptHandler}{tb:MY}{th:I!}{pos:Pos}(dx:DefX X)(hb:Dh X body tb)(hh:PH X (h₀::hs) th):
  PS X (.Try body (h₀::hs) [] [] pos) (fun D σ H=>tb D (fun cls ea σ' H'=>th D (fun _ _ _ _=>False) cls ea σ' H') σ H):=by
 intro ae s σ H D I h;exact Wm (I? dx hb hh ae s σ H D (fun _ _ _ _=>False) I h) (fun _ _ q=>q) fun _ _⟨_,_,_,_,_,_,z⟩=>z.elim
def BR(X:Cx)(ea:Z4)(oe:Obj):Cx:={X with A:=X.A.mark (some (.ref ea)),calm:=false,pn:=(ea,oe)::X.pn,xe:=fun _ _=>False}
theorem yF.BR{ae:ZV}{σ:St}{H:Hp}{s:Z3}{ea:Z4}{cls:Z2}(J:yF X ae σ H s ea cls):∃oe,s.heap.get? ea=some oe/\oe.cls=cls/\nu oe/\aX (L2.BR X ea oe) ae σ H s:=by
 obtain⟨B,t,fl,hn,_⟩:=J.slots;obtain⟨oe,vs,he,hc,hd,_⟩:=fl.first;have I:=J.inv;have KP:∀b∈iG X.stack,ea≠b:=fun b hb z=>by obtain⟨_,o,ho,C8⟩:=I.stack.mem hb;rw[<-z,he]at ho;cases ho;exact C8 vs hd
 have LM:ea≠X.env.locals:=fun z=>by obtain⟨m,⟨o,es,ep,ho,hdd,_⟩,_⟩:=I.loc;rw[<-z,he]at ho;cases ho;rw[hd]at hdd;cases hdd
 have UK:ea ∉ X.fs:=fun hb=>by obtain⟨_,o,ho,C8⟩:=I.kz.mem hb;rw[he]at ho;cases ho;exact C8 vs hd
 refine⟨oe,he,hc,J.tr.ctx he,⟨⟨I.ok.mod,I.ok.kind,I.ok.glob,I.ok.blt,I.ok.above,I.ok.inj,I.ok.has,I.ok.Kv,fun z=>(by cases z),I.ok.frames,I.ok.HI,I.ok.Sk,I.ok.bs,I.ok.HJ,I.ok.yh,I.ok.CV,I.ok.kz,I.ok.Ej⟩,I.os,I.bare,I.base,I.loc,I.cell,I.free,I.jf,fun p hp=>?_,I.dq,I.len⟩⟩;rcases VT.mp (show p∈(ea,oe)::(X.pn++ae)from hp)with z|z
 .rw[z];exact⟨he,hn,LM,UK,fun v q=>by rw[hd]at q;cases q⟩
 .exact I.pin p z
theorem aX.Di{ae:ZV}{σ:St}{H:Hp}{s:Z3}{ea:Z4}{oe:Obj}(ok:X.Ok)(I:aX (L2.BR X ea oe) ae σ H s):aX X ae σ H s:=
 ⟨ok,I.os,I.bare,I.base,I.loc,I.cell,I.free,I.jf,fun p hp=>I.pin p (VN _ hp),I.dq,I.len⟩
theorem SP.Di{ae:ZV}{ea:Z4}{oe:Obj}{D:Ends}{f:Flow}{s':Z3}(ok:X.Ok)(h:SP (L2.BR X ea oe) ae D f s'):SP X ae D f s':=by
 cases f with
 |next=>obtain⟨σ',H',I,q⟩:=h;exact⟨σ',H',I.Di ok,q⟩
 |brk=>obtain⟨σ',H',I,q⟩:=h;exact⟨σ',H',I.Di ok,q⟩
 |cont=>obtain⟨σ',H',I,q⟩:=h;exact⟨σ',H',I.Di ok,q⟩
 |ret u=>obtain⟨v,σ',H',I,r,q⟩:=h;exact⟨v,σ',H',I.Di ok,r,q⟩
end
theorem Dj{M:Model}{A:Z5}{E:ZT}{s:Z3}{K:ZW}{ea C:Z4}{oe:Obj}{b:Bool}{Q:Bool->Z3->Prop}(KX:K.In s.heap)(he:s.heap.get? ea=some oe)(h1:W.kitCls K oe.cls (.ref C)=some b)(h2:W.subIn K (.ref C) (.type "BaseException")=some true)(q:Q b s):
  wpAny M A (excMatches (.ref ea) (.ref C)) Q E s:=by
 obtain⟨l1,l2,l3⟩:=W.kit_cls (M:=M) KX h1;have l4:=W.looks_subIn (M:=M) KX h2;obtain⟨hp,g,d,tk,os⟩:=s;have lt:W.Looks M hp (isInstance (.ref C) (.type "tuple")) false:=l1.andThen (.of_pure tc_notTuple);have lx:W.Looks M hp (isExcClass (.ref C)) true:=fun A' Q' E' s' k z=>by unfold isExcClass;refine Vj (l2 A' _ E' s' k ?_);rw[VD rfl];exact l4 A' Q' E' s' k z
 have ly:W.Looks M hp (typeOf (.ref ea)) oe.cls:=fun A' Q' E' s' k z=>by unfold typeOf;exact Vj (wpAny_loadPart (k _ _ he) (VC z))
 unfold excMatches;refine Vj (lt.here ?_);simp only[XJ,XZ,pure_bind,List.forIn_cons,List.forIn_nil,bind_assoc];refine Vj (lx.here ?_);simp only[Wd,XJ,XZ,pure_bind];refine Vj (ly.here ?_);refine Vj (l3.here ?_);cases b with
 |true=>exact VC q
 |false=>exact VC q
section
variable{X:Cx}
def M4(K:ZW)(C:Z4)(ts:Z4->Obj->TS)(tr:I!):I!:=fun D EX cls ea σ H=>∃b,W.kitCls K cls (.ref C)=some b/\if b=true then ∀oe,oe.cls=cls->ts ea oe D σ H else tr D EX cls ea σ H
theorem Fm{x:Str}{C:Z4}{np pos:Pos}{b₀:Stmt}{m7:List Stmt}{rest:List ExceptHandler}{ts:Z4->Obj->TS}{tr:I!}(hg:Gl X x)(hm:X.mg x=some (.ref C))(hB:W.subIn X.K (.ref C) (.type "BaseException")=some true)(hs:∀ea oe,nu oe->kx (L2.BR X ea oe) (b₀::m7) (ts ea oe))(hr:PH X rest tr)(hd:(x==("__debug__":Str))=false:=by decide):PH X (.ExceptHandler (some (.Name x np)) none (b₀::m7) pos::rest) (M4 X.K C ts tr):=by
 intro ae s σ H D EX ea cls J h;obtain⟨b,hb,h⟩:=h;obtain⟨oe,he,hc,_,I⟩:=J.BR;refine wpAny_handleBy_cons (codeAny_handlers_test (l! I (show Gl (L2.BR X ea oe) x from hg) (show(L2.BR X ea oe).mg x=some (.ref C)from hm) ?_ hd)) (by intro z;cases z);refine Dj I.sF he (by rw[hc];exact hb) hB ?_;cases b with
 |false=>exact hr ae s σ H D EX ea cls J (by simpa using h)
 |true=>
  obtain⟨B,t,fl,hn,go⟩:=J.slots;refine codeAny_handlers_suite (wO fl J.tr fun h6 fl6 up6 tr6=>?_);have J6:=go h6 fl6 up6 tr6;obtain⟨oe6,he6,hc6,cx6,I6⟩:=J6.BR;have h':∀oe,oe.cls=cls->ts ea oe D σ H:=by simpa using h
  exact Wm (hs ea oe6 cx6 ae _ σ H D I6 (h' oe6 hc6)) (fun f s2 q=>q.Di J.inv.ok) fun _ _ z=>z.elim
end
def SN(lo:Int)(n:Nat):It:=⟨fun i _=>i<n,fun i H x H'=>H'=H/\x=.int (lo-i),fun i _=>n<=i⟩
theorem Dk{P:Z6}{w:World}{K:ZW}{tg:Expr}(it:Z4)(lo:Int)(n:Nat):Turn P w K tg (SN lo n) [it] it (fun i h=>IsRangeIter h it (lo+(i:Nat)*(-1)) ((n:Int)-(i:Nat)) (-1)) where
 mem:=by simp
 obj:=fun i h st b hb=>by
  have e:b=it:=by simpa using hb
  subst e;exact⟨_,st,fun v z=>by
   have z':Data.fields _=Data.cell v:=z;cases z'⟩
 keep:=fun i h h' st k=>k it (by simp) _ st
 item:=by intro X hP hw hK hc i ae s σ H E I hf st hg;subst hP hw hK;obtain⟨f0,f1,f2,f3,f4,f5⟩:=hf it (by simp);have W:=Walks.range (prog:=X.prog) (w:=X.w) (I.ok.hd hc) it lo (-1) n;refine W.item i s _ _ hg st fun v h' tk hv ar kk=>?_;obtain⟨t,rfl⟩:=hv;have I1:aX X ae σ H {s with heap:=h',toks:=tk}:=I.turned (fun b o hb e=>kk b o (by simpa using hb) e) f0 f1 f3 f4 f5;refine⟨_,rfl,ym (s:={s with heap:=h',toks:=tk}) (n:="range_iterator") ar rfl rfl (by decide) ⟨.int (lo-i),H,I1,⟨t,?_⟩,⟨rfl,rfl⟩,ar,fun b hb=>(hf b hb).1⟩⟩;rw[show lo+(i:Int)*(-1)=lo-(i:Int) by lia]
 done:=by intro X hP hw hK hc i ae s σ H E I hf st hg;subst hP hw hK;obtain⟨f0,f1,f2,f3,f4,f5⟩:=hf it (by simp);exact Zy (I.ok.hd hc) st (by have:n<=i:=hg;lia) fun h' eb=>⟨rfl,I.turned (t':=s.toks) (fun b o hb e=>eb b o hb e) f0 f1 f3 f4 f5⟩
 self:=fun _ _ _ _ _ st h=>ZA st h
section
variable{X:Cx}{tg:Expr}
theorem Ja{ae:ZV}{σ:St}{H:Hp}{s:Z3}{R:It->Hp->Prop}{E:ZT}{lo hi:Int}{t u v:Tok}{tk:Nat}(I:aX X ae σ H s)(h1:-(2 ^ 62)<=lo)(h2:lo<2 ^ 62)(h3:-(2 ^ 62)<=hi)(h4:hi<2 ^ 62)(q:R (SN lo (lo-hi).toNat) H):wpAny (model X.prog X.w) X.A (pyIter (.ref s.heap.objs.size)) (Ua X ae σ tg R) E {s with heap:=s.heap.push {cls:=.type "range",data:=.fields #[.int lo t,.int hi u,.int (-1) v]},toks:=tk}:=by
 refine wpAny_pyIter_range (IsRange.new ..) (W.small_down h1 h2 h3 h4) ?_;have I1:aX X ae σ H {s with heap:=s.heap.push {cls:=.type "range",data:=.fields #[.int lo t,.int hi u,.int (-1) v]},toks:=tk}:=I.kept fun b o e=>Vm _ e;refine⟨(s.heap.push {cls:=.type "range",data:=.fields #[.int lo t,.int hi u,.int (-1) v]}).objs.size,[(s.heap.push {cls:=.type "range",data:=.fields #[.int lo t,.int hi u,.int (-1) v]}).objs.size],_,_,H,rfl,
  I1.kept (t':=tk) fun b o e=>Vm _ e,Dk _ lo (lo-hi).toNat,?_,fun b hb=>?_,q⟩
 .have e1:lo+((0:Nat):Int)*(-1)=lo:=by simp
  have e2:(((lo-hi).toNat:Nat):Int)-((0:Nat):Int)=Builtin.Range.rangeSize lo hi (-1):=by rw[W.rangeSize_downNat];lia
  show IsRangeIter _ _ (lo+((0:Nat):Int)*(-1)) ((((lo-hi).toNat:Nat):Int)-((0:Nat):Int)) (-1);rw[e1,e2];exact VL _ rfl
 .have e:b=(s.heap.push {cls:=.type "range",data:=.fields #[.int lo t,.int hi u,.int (-1) v]}).objs.size:=by simpa using hb
  subst e;exact I1.Ad (VA _) (I1.dq.fresh (VA _))
def QE(ta:TA):TI:=fun σ H R=>ta σ H fun vs H1=>∃i j:Int,vs=[.int i,.int j,.int (-1)]/\(-(2 ^ 62)<=i/\i<2 ^ 62/\-(2 ^ 62)<=j/\j<2 ^ 62)/\R (SN i (i-j).toNat) H1
theorem Jb{a b c:Expr}{ta:TA}{p pos:Pos}(hg:Gl X "range")(hm:X.mg "range" = none)(ha:PA X [a,b,c] ta)(hs:starEach [a,b,c] X.env=[(false,eval a X.env),(false,eval b X.env),(false,eval c X.env)]:=by rfl)(jq:starEach [b,c] X.env=[(false,eval b X.env),(false,eval c X.env)]:=by rfl):
  PI X tg (.Call (.Name "range" p) [a,b,c] [] pos) (QE ta):=by
 intro ae s σ H R I h;refine Call_ (kA I hg hm boot_range (Ww (dJ (ha pos ae s σ H _ I h) fun us s1⟨vs,H1,I1,r1,q1⟩=>?_) (by rw[hs,jq]) (by rw[jq];rfl)));obtain⟨i,j,e,⟨q1,q2,q3,q4⟩,q⟩:=q1;subst e;cases r1 with
 |cons r rr=>
  cases rr with
  |cons r' rr=>
   cases rr with
   |cons r'' rr=>
    cases rr;obtain⟨t,rfl⟩:=r;obtain⟨t',rfl⟩:=r';obtain⟨t'',rfl⟩:=r'';refine call_range_3 (by decide) (Ja I1 q1 q2 q3 q4 q) (.inl (YO (by decide +kernel)))
end
def Ite(K:ZW)(a:Z4):It:=
 ⟨fun i H=>∃xs x,l? K H a xs/\xs[i]?=some x,
  fun i H v H'=>∃p x,v=.ref p/\H p=none/\H'=upd H p (.tup [.int i,x])/\∀xs,l? K H a xs->xs[i]?=some x,
  fun i H=>∃xs,l? K H a xs/\xs.length<=i⟩
theorem Dl{P:Z6}{w:World}{K:ZW}{elts:List Expr}{kt:Nat}{tp:Pos}{e it:Z4}(a:Z4)(ne:e≠it):
  Turn P w K (.Tuple elts kt tp) (Ite K a) [e,it] e (fun i h=>(∃old,IsEnum h e it (i:Int) old)/\h.IsListIter it a i) where
 mem:=by simp
 obj:=fun i h⟨⟨old,he⟩,hi⟩c hc=>by
  have d!:c=e\/c=it:=by simpa using hc
  rcases d! with rfl|rfl
  .exact⟨_,he,fun v q=>by have q':Data.fields _=Data.cell v:=q;cases q'⟩
  .obtain⟨o,e',c,d⟩:=hi;exact⟨o,e',fun v z=>by rw[d]at z;cases z⟩
 keep:=fun i h h'⟨⟨old,he⟩,hi⟩k=>⟨⟨old,k e (by simp) _ he⟩,hi.at fun o e'=>k it (by simp) o e'⟩
 item:=by
  intro X hP hw hK hc i ae s σ H E I hf st hg;subst hP hw hK;obtain⟨⟨old,he⟩,hi⟩:=st;obtain⟨xs,x,sx,ex⟩:=hg;obtain⟨aV,rv,p,_⟩:=I.list sx;obtain⟨ux,UR,rx⟩:=rv.get ex;have fz:=hf e (by simp);refine wpAny_pyNext_enum_item he hi p.isList (x:=ux) (by simpa using UR) ne fun h' a1 a2 a3 a4 a5=>⟨_,rfl,?_⟩
  have hT:H s.heap.objs.size=none:=I.dq.fresh (VA _);have Qy:∀c∈[e,it],H c=none:=fun c d!=>(hf c d!).1;have kp:∀c o,c ∉ [e,it]->s.heap.get? c=some o->h'.get? c=some o:=fun c o d! q=>a5 c o (fun z=>d! (by simp[z])) (fun z=>d! (by simp[z])) q;have yg:∀c o,H c=some o->c ∉ [e,it]:=fun c o q d!=>by rw[Qy c d!]at q;cases q
  have dq:jM X.prog X.w (upd H s.heap.objs.size (.tup [.int i,x])) h':=fun c o q=>by
   by_cases Qz:c=s.heap.objs.size
   .subst Qz;rw[dr]at q;cases q;exact⟨by show 2<=sizeLine;decide,[.int i s.toks,ux],.cons ⟨_,rfl⟩ (.cons rx .nil),_,a3,rfl,_,rfl⟩
   .rw[bB Qz]at q;refine(I.dq c o q).qF (fun d v hd z=>kp d v ?_ z) (fun d z=>by rw[bB (bC z hT)];exact z) fun d zs z=>by rw[bB (bC z hT)];exact z
    rcases hd with q'|q'
    .rw[q'];exact yg c o q
    .exact yg d _ q'
  have un:Un (iG X.stack) [e,it] H (upd H s.heap.objs.size (.tup [.int i,x])) s.heap h':=
   ⟨fun c o q n _ d!=>kp c o d! q,fun c o q n _ d!=>⟨o.slots,kp c o d! q⟩,fun c o q n d!=>by rw[bB (V1 (VE q))];exact n,fun c o q d!=>⟨o,kp c o d! q⟩,
    fun c zs q=>by rw[bB (bC q hT)];exact q,fun c o u q=>by rw[bB (bC q hT)];exact q,fun c ps q=>⟨#[],by rw[bB (bC q hT),q];simp⟩⟩
  have I1:aX X ae σ (upd H s.heap.objs.size (.tup [.int i,x])) {s with heap:=h',toks:=s.toks+1}:=I.yj rfl un dq I.bare fun c d!=>by obtain⟨f0,f1,f2,f3,f4,f5⟩:=hf c d!;exact⟨f3,f1,f4,f5⟩
  have UT:∀c∈[e,it],c≠s.heap.objs.size:=fun c d! q=>by
   have yb:c<s.heap.objs.size:=by
    have MU:c=e\/c=it:=by simpa using d!
    rcases MU with r|r
    .rw[r];exact VE he
    .obtain⟨o,e',_⟩:=hi;rw[r];exact VE e'
   exact absurd yb (by rw[q];exact Wg _)
  have Ff:∀c∈[e,it],(upd H s.heap.objs.size (.tup [.int i,x])) c=none:=fun c d!=>by rw[bB (UT c d!)];exact(hf c d!).1
  refine wpAny_letOwnedTupleGo_enum a1 fun I9 UY sb=>?_;obtain⟨f0,f1,f2,f3,f4,f5⟩:=fz;have I2:aX X ae σ (upd H s.heap.objs.size (.tup [.int i,x])) {s with heap:=I9,toks:=s.toks+1}:=I1.turned (s:={s with heap:=h',toks:=s.toks+1}) (t':=s.toks+1) (it:=e) (fun c o d! q=>(sb.2 c d!).trans q) (Ff e (by simp)) f1 f3 f4 f5;refine⟨.ref s.heap.objs.size,_,I2,rfl,⟨_,x,rfl,hT,rfl,fun zs hs=>by rw[I.nO hs sx];exact ex⟩,⟨⟨_,UY⟩,a2.at fun o q=>sb.extBut _ o ne.symm q⟩,Ff⟩
 done:=by intro X hP hw hK hc i ae s σ H E I hf st hg;subst hP hw hK;obtain⟨⟨old,he⟩,hi⟩:=st;obtain⟨xs,sx,hl⟩:=hg;obtain⟨aV,rv,p,_⟩:=I.list sx;have l1:=rv.length;obtain⟨f0,f1,f2,f3,f4,f5⟩:=hf it (by simp);exact wpAny_pyNext_enum_end (I.ok.hd hc) he hi p.isList (by simp;lia) fun h' eb=>⟨rfl,I.turned (t':=s.toks) (fun b o hb q=>eb b o hb q) f0 f1 f3 f4 f5⟩
 self:=fun _ _ _ _ _ st h=>by obtain⟨⟨old,he⟩,hi⟩:=st;exact wpAny_pyIter_enum he h
section
variable{X:Cx}{elts:List Expr}{kt:Nat}{tp p pos:Pos}
def QF(K:ZW)(ta:TA):TI:=fun σ H R=>ta σ H fun vs H1=>∃a xs,vs=[.ref a]/\l? K H1 a xs/\R (Ite K a) H1
theorem Jc{a:Expr}{ta:TA}(hg:Gl X "enumerate")(hm:X.mg "enumerate" = none)(hv:bootBuiltins "enumerate" = some (.type "enumerate"))(ha:PA X [a] ta)(hs:starEach [a] X.env=[(false,eval a X.env)]:=by rfl):
  PI X (.Tuple elts kt tp) (.Call (.Name "enumerate" p) [a] [] pos) (QF X.K ta):=by
 intro ae s σ H R I h;refine Call_ (kA I hg hm hv (Ww (dJ (ha pos ae s σ H _ I h) fun us s1⟨vs,H1,I1,r1,q1⟩=>?_) hs rfl));obtain⟨b,xs,e,hq,q⟩:=q1;subst e;obtain⟨u,rfl,ru⟩:=bA.one r1;cases ru;obtain⟨aV,rv,pl,hz⟩:=I1.list hq;refine call_enumerate_list pl.isList fun h' he hi hsz kp=>?_;have I2:aX X ae σ H1 {s1 with heap:=h'}:=I1.kept (t':=s1.toks) kp;have ne:s1.heap.objs.size+1≠s1.heap.objs.size:=by lia
 have T:=Dl (P:=X.prog) (w:=X.w) (K:=X.K) (elts:=elts) (kt:=kt) (tp:=tp) (e:=s1.heap.objs.size+1) (it:=s1.heap.objs.size) b ne;refine T.self X.A 0 {s1 with heap:=h'} _ _ ⟨⟨_,he⟩,hi⟩ ?_;refine⟨s1.heap.objs.size+1,[s1.heap.objs.size+1,s1.heap.objs.size],_,_,H1,rfl,I2,T,⟨⟨_,he⟩,hi⟩,fun c hc=>?_,q⟩;have hle:s1.heap.objs.size<=c:=by
  have d!:c=s1.heap.objs.size+1\/c=s1.heap.objs.size:=by simpa using hc
  rcases d! with r|r<;>(rw[r];first|exact VA _|exact ZH _ _)
 exact I1.Ad hle (I1.dq.fresh hle)
end
section
variable{X:Cx}
theorem Dm(hh:X.A.handled=none):cz X (.builtin "max") (fun xs H Q=>∃i j,xs=[.int i,.int j]/\Q (.int (if j>i then j else i)) H):=by
 rintro ae s σ H xs ws Q I r ⟨i,j,rfl,q⟩;obtain⟨u,v,rfl,ru,rv⟩:=bA.two r;obtain⟨t,rfl⟩:=ru;obtain⟨t',rfl⟩:=rv;refine max_two_ints hh fun h' tk hk=>?_;refine⟨.int (if j>i then j else i),H,I.kept hk,?_,q⟩;by_cases c:j>i
 .rw[VD c,VD c];exact⟨_,rfl⟩
 .rw[VI c,VI c];exact⟨_,rfl⟩
theorem Dn:cz X (.type "int") (fun xs H Q=>∃b,xs=[.bl b]/\Q (.int (if b then 1 else 0)) H):=by rintro ae s σ H xs ws Q I r ⟨b,rfl,q⟩;obtain⟨u,rfl,ru⟩:=bA.one r;cases ru;exact call_int_bool ⟨.int (if b then 1 else 0),H,I.tok _,⟨_,rfl⟩,q⟩
theorem Fn:Px X (Qb X.K):=by
 intro ae s σ H o i ov iv Q I ro ri h;obtain⟨p,xs,k,z,rfl,rfl,hq,he,q⟩:=h;cases ro;obtain⟨t,rfl⟩:=ri;obtain⟨aV,r,pl,hz⟩:=I.list hq;obtain⟨j,h1,h2,h3,h4,h5⟩:=rO he;obtain⟨w,ew,yu⟩:=r.get h2;have hl:=r.length;have hn:=nr;have fin:EP X ae σ Q w s:=⟨z,H,I,yu,q⟩
 by_cases h0:0<=k
 .have hj:k.toNat=j:=by rw[YS h0 h5]at h1;exact VR h1
  exact wpAny_getItem_list pl.isList h0 (by lia) (by rw[hj];simpa using ew) fin
 .have hj:(k+(aV.toArray.size:Int)).toNat=j:=by rw[YG (by lia) h4]at h1;rw[VF,<-hl];exact VR h1
  exact ZC pl.isList (by lia) (by rw[VF]<;>lia) (by lia) (by rw[hj];simpa using ew) fin
end
structure sY where
 qual:Str
 params:Arguments
 body:Expr
 scope:Scope
 ps:Z1
 x:Str
abbrev Fz(H:Hp)(a:Z4)(o:Obj):Prop:=H a=some (.nk o (.own 0))
structure SQ(L:sY)(H:Hp)(f c c':Z4)(v:V):Prop where
 fn:∃pm UZ,Fz H f (W.kla_obj "<lambda>" L.qual L.params L.body L.scope [(L.x,c)] pm c' UZ)
 cd:∃oc vs t,Fz H c' oc/\oc.data=.fields vs/\vs[1]?=some (.str L.qual t)
 ce:∃oc u,Fz H c oc/\oc.data=.cell (some u)/\bK v u
def back(H H':Hp)(c:Z4):Hp:=fun b=>if b=c then H b else H' b
def Tab(H:Hp)(T:Z4)(line col:Nat)(qual:Str):Prop:=H T=some (.HH #[]) \/
 ∃c' oc vs t,H T=some (.HH #[rawInt line,rawInt col,.ref c'])/\Fz H c' oc/\oc.data=.fields vs/\vs[1]?=some (.str qual t)
theorem SQ.mono{L:sY}{H H':Hp}{f c c':Z4}{v:V}(C:SQ L H f c c' v)(k:∀b o u,H b=some (.nk o u)->H' b=some (.nk o u)):SQ L H' f c c' v:=by obtain⟨⟨pm,UZ,h1⟩,⟨oc,vs,t,h2,h3⟩,⟨o2,u,h4,h5⟩⟩:=C;exact⟨⟨pm,UZ,k _ _ _ h1⟩,⟨oc,vs,t,k _ _ _ h2,h3⟩,⟨o2,u,k _ _ _ h4,h5⟩⟩
end L2
namespace MN
open PySem.Spec L2
open PyProof.Rows hiding St
inductive ah where
 |dg|bl (b:Bool)|int (i:Int)|str (x:Str)|tup (vs:List ah)|loc (n:Nat)|exc (c:Str)|fn (L:sY) (u:ah)|mt (vs:List ah)
inductive aB where
 |lst (vs:List ah)|M5 (vs:List ah)|mod (vs:List ah)|dK (aY:List (e8×ah))|dT (aY:List (List e8×ah))|tab (x:Str) (line col:Nat) (qual:Str)|ins (c:Str) (fs:List (Str×ah))|fd (aY:List (e8×ah))
abbrev ag:=List aB
abbrev Env:=List (Option ah)
inductive dh(α:Type) where
 |ok (a:α) (st:ag)|err (c:Str) (st:ag)|bad
inductive cm where
 |nx (μ:Env) (st:ag)|rt (v:ah) (st:ag)|bk (μ:Env) (st:ag)|ct (μ:Env) (st:ag)|er (c:Str) (μ:Env) (st:ag)|bad
@[reducible] def dh.bind{α β:Type}(r:dh α)(k:α->ag->dh β):dh β:=match r with
 |.ok a st=>k a st
 |.err c st=>.err c st
 |.bad=>.bad
structure Wo where
 K:ZW
 mg:Str->ZZ
 pn:ZV
abbrev wo(X:Cx):Wo:=⟨X.K,X.mg,X.pn⟩
mutual
def Rl(K:ZW)(ρ:Z0)(H:Hp):ah->V->Prop
 |.dg,v=>v=.dg
 |.bl b,v=>v=.bl b
 |.int i,v=>v=.int i
 |.str x,v=>v=.str x
 |.tup us,v=>∃a vs,v=.ref a/\H a=some (.tup vs)/\bE K ρ H us vs
 |.mt us,v=>∃a vs,v=.ref a/\mY K H a vs/\bE K ρ H us vs
 |.loc n,v=>∃a,v=.ref a/\ρ[n]?=some a
 |.exc _,_=>False
 |.fn _ _,_=>False
def bE(K:ZW)(ρ:Z0)(H:Hp):List ah->List V->Prop
 |[],vs=>vs=[]
 |u::us,vs=>∃v r,vs=v::r/\Rl K ρ H u v/\bE K ρ H us r
end
structure aU(ρ:Z0)(H:Hp)(ρ':Z0)(H':Hp):Prop where
 pre:ρ <+: ρ'
 tup:∀b xs,H b=some (.tup xs)->H' b=some (.tup xs)
 nk:∀b o u,H b=some (.nk o u)->H' b=some (.nk o u)
theorem aU.refl(ρ:Z0)(H:Hp):aU ρ H ρ H:=⟨Y2 ρ,fun _ _ h=>h,fun _ _ _ h=>h⟩
theorem aU.trans{ρ ρ1 ρ2:Z0}{H H1 H2:Hp}(a:aU ρ H ρ1 H1)(b:aU ρ1 H1 ρ2 H2):aU ρ H ρ2 H2:=
 ⟨a.pre.trans b.pre,fun _ _ h=>b.tup _ _ (a.tup _ _ h),fun _ _ _ h=>b.nk _ _ _ (a.nk _ _ _ h)⟩
theorem aU.same{ρ:Z0}{H H':Hp}(e:o_ H H'):aU ρ H ρ H':=⟨Y2 ρ,fun _ _ h=>e _ _ h,fun _ _ _ h=>e _ _ h⟩
theorem aU.snoc{ρ:Z0}{H H':Hp}(p:Z4)(e:o_ H H'):aU ρ H (ρ++[p]) H':=⟨List.prefix_append ρ [p],fun _ _ h=>e _ _ h,fun _ _ _ h=>e _ _ h⟩
theorem aU.at_{ρ ρ':Z0}{H H':Hp}(e:aU ρ H ρ' H'){n:Nat}{a:Z4}(h:ρ[n]?=some a):ρ'[n]?=some a:=by
 obtain⟨t,rfl⟩:=e.pre;have hl:n<ρ.length:=by
  rcases WG n ρ.length with q|q
  .exact q
  .rw[VZ q]at h;cases h
 rw[V0 hl,h]
theorem aU.U0{K:ZW}{ρ ρ':Z0}{H H':Hp}(e:aU ρ H ρ' H'){a:Z4}{xs:List V}(h:mY K H a xs):mY K H' a xs:=by
 rcases h with(h|⟨o,h⟩)|h
 .exact .inl (.inl (e.tup _ _ h))
 .exact .inl (.inr ⟨o,e.nk _ _ _ h⟩)
 .exact .inr h
mutual
theorem Rl.mono{K:ZW}{ρ ρ':Z0}{H H':Hp}(e:aU ρ H ρ' H'):∀(u:ah)(v:V),Rl K ρ H u v->Rl K ρ' H' u v
 |.dg,_,h=>h
 |.bl _,_,h=>h
 |.int _,_,h=>h
 |.str _,_,h=>h
 |.tup us,v,h=>by unfold Rl at h⊢;obtain⟨a,vs,h1,h2,h3⟩:=h;exact⟨a,vs,h1,e.tup _ _ h2,bE.mono e us vs h3⟩
 |.mt us,v,h=>by unfold Rl at h⊢;obtain⟨a,vs,h1,h2,h3⟩:=h;exact⟨a,vs,h1,e.U0 h2,bE.mono e us vs h3⟩
 |.loc n,v,h=>by unfold Rl at h⊢;obtain⟨a,h1,h2⟩:=h;exact⟨a,h1,e.at_ h2⟩
 |.exc c,v,h=>h
 |.fn _ _,_,h=>h
theorem bE.mono{K:ZW}{ρ ρ':Z0}{H H':Hp}(e:aU ρ H ρ' H'):∀(us:List ah)(vs:List V),bE K ρ H us vs->bE K ρ' H' us vs
 |[],_,h=>h
 |u::us,vs,h=>by unfold bE at h⊢;obtain⟨v,r,h1,h2,h3⟩:=h;exact⟨v,r,h1,Rl.mono e u v h2,bE.mono e us r h3⟩
end
section
variable{K:ZW}{ρ ρ':Z0}{H H':Hp}
theorem bE.nil:bE K ρ H [] []:=by unfold bE;rfl
theorem bE.cons{u:ah}{us:List ah}{v:V}{vs:List V}(h:Rl K ρ H u v)(hs:bE K ρ H us vs):bE K ρ H (u::us) (v::vs):=by unfold bE;exact⟨v,vs,rfl,h,hs⟩
theorem bE.dM{u:ah}{us:List ah}{vs:List V}(h:bE K ρ H (u::us) vs):∃v r,vs=v::r/\Rl K ρ H u v/\bE K ρ H us r:=by unfold bE at h;exact h
theorem bE.gM{vs:List V}(h:bE K ρ H [] vs):vs=[]:=by unfold bE at h;exact h
theorem bE.length:∀{us:List ah}{vs:List V},bE K ρ H us vs->us.length=vs.length
 |[],vs,h=>by rw[h.gM];rfl
 |u::us,vs,h=>by obtain⟨v,r,rfl,_,h3⟩:=h.dM;rw[Vk,Vk,h3.length]
theorem bE.get:∀{us:List ah}{vs:List V}{i:Nat}{u:ah},bE K ρ H us vs->us[i]?=some u->∃v,vs[i]?=some v/\Rl K ρ H u v
 |[],_,_,_,_,e=>by cases e
 |w::us,vs,0,u,h,e=>by obtain⟨v,r,rfl,h2,_⟩:=h.dM;cases e;exact⟨v,rfl,h2⟩
 |w::us,vs,i+1,u,h,e=>by obtain⟨v,r,rfl,_,h3⟩:=h.dM;exact bE.get (i:=i) h3 e
theorem bE.append:∀{us ws:List ah}{vs xs:List V},bE K ρ H us vs->bE K ρ H ws xs->bE K ρ H (us++ws) (vs++xs)
 |[],_,vs,_,h,k=>by rw[h.gM];exact k
 |u::us,ws,vs,xs,h,k=>by obtain⟨v,r,rfl,h2,h3⟩:=h.dM;exact bE.cons h2 (h3.append k)
theorem bE.drop:∀(n:Nat){us:List ah}{vs:List V},bE K ρ H us vs->bE K ρ H (us.drop n) (vs.drop n)
 |0,_,_,h=>h
 |_+1,[],vs,h=>by rw[h.gM];exact bE.nil
 |n+1,u::us,vs,h=>by obtain⟨v,r,rfl,h2,h3⟩:=h.dM;exact bE.drop n h3
theorem bE.take:∀(n:Nat){us:List ah}{vs:List V},bE K ρ H us vs->bE K ρ H (us.take n) (vs.take n)
 |0,_,_,_=>bE.nil
 |_+1,[],vs,h=>by rw[h.gM];exact bE.nil
 |n+1,u::us,vs,h=>by obtain⟨v,r,rfl,h2,h3⟩:=h.dM;exact bE.cons h2 (bE.take n h3)
theorem bE.set{u:ah}{v:V}(hu:Rl K ρ H u v):∀(n:Nat){us:List ah}{vs:List V},bE K ρ H us vs->bE K ρ H (us.set n u) (vs.set n v)
 |_,[],vs,h=>by rw[h.gM];exact bE.nil
 |0,w::us,vs,h=>by obtain⟨x,r,rfl,h2,h3⟩:=h.dM;exact bE.cons hu h3
 |n+1,w::us,vs,h=>by obtain⟨x,r,rfl,h2,h3⟩:=h.dM;exact bE.cons h2 (bE.set hu n h3)
theorem bE.one{u:ah}{v:V}(h:Rl K ρ H u v):bE K ρ H [u] [v]:=bE.cons h bE.nil
theorem bE.Aw{u:ah}{vs:List V}(h:bE K ρ H [u] vs):∃v,vs=[v]/\Rl K ρ H u v:=by obtain⟨v,r,rfl,h2,h3⟩:=h.dM;rw[h3.gM];exact⟨v,rfl,h2⟩
theorem bE.SS{u w:ah}{vs:List V}(h:bE K ρ H [u,w] vs):∃v x,vs=[v,x]/\Rl K ρ H u v/\Rl K ρ H w x:=by obtain⟨v,r,rfl,h2,h3⟩:=h.dM;obtain⟨x,rfl,h4⟩:=h3.Aw;exact⟨v,x,rfl,h2,h4⟩
theorem bE.ints:∀(ns:ZX),bE K ρ H (ns.map ah.int) (ns.map V.int)
 |[]=>bE.nil
 |n::ns=>bE.cons (by unfold Rl;rfl) (bE.ints ns)
theorem Rl.cT{i:Int}{v:V}(h:Rl K ρ H (.int i) v):v=.int i:=by unfold Rl at h;exact h
theorem Rl.ql{b:Bool}{v:V}(h:Rl K ρ H (.bl b) v):v=.bl b:=by unfold Rl at h;exact h
theorem Rl.jS{x:Str}{v:V}(h:Rl K ρ H (.str x) v):v=.str x:=by unfold Rl at h;exact h
theorem Rl.ig{v:V}(h:Rl K ρ H .dg v):v=.dg:=by unfold Rl at h;exact h
theorem Rl.QG{us:List ah}{v:V}(h:Rl K ρ H (.tup us) v):∃a vs,v=.ref a/\H a=some (.tup vs)/\bE K ρ H us vs:=by unfold Rl at h;exact h
theorem Rl.iH{us:List ah}{v:V}(h:Rl K ρ H (.tup us) v):∃a vs,v=.ref a/\mY K H a vs/\bE K ρ H us vs:=let⟨a,vs,h1,h2,h3⟩:=h.QG;⟨a,vs,h1,mY.of h2,h3⟩
theorem Rl.U2{us:List ah}{v:V}(h:Rl K ρ H (.mt us) v):∃a vs,v=.ref a/\mY K H a vs/\bE K ρ H us vs:=by unfold Rl at h;exact h
theorem Rl.U3{us:List ah}{a:Z4}{vs:List V}(h:mY K H a vs)(r:bE K ρ H us vs):Rl K ρ H (.mt us) (.ref a):=by unfold Rl;exact⟨a,vs,rfl,h,r⟩
theorem Rl.fC{n:Nat}{v:V}(h:Rl K ρ H (.loc n) v):∃a,v=.ref a/\ρ[n]?=some a:=by unfold Rl at h;exact h
theorem Rl.mkInt(i:Int):Rl K ρ H (.int i) (.int i):=by unfold Rl;rfl
theorem Rl.Dp(b:Bool):Rl K ρ H (.bl b) (.bl b):=by unfold Rl;rfl
theorem Rl.mkStr(x:Str):Rl K ρ H (.str x) (.str x):=by unfold Rl;rfl
theorem Rl.BS:Rl K ρ H .dg .dg:=by unfold Rl;rfl
theorem Rl.vN{us:List ah}{a:Z4}{vs:List V}(h:H a=some (.tup vs))(r:bE K ρ H us vs):Rl K ρ H (.tup us) (.ref a):=by unfold Rl;exact⟨a,vs,rfl,h,r⟩
theorem Rl.Fo{n:Nat}{a:Z4}(h:ρ[n]?=some a):Rl K ρ H (.loc n) (.ref a):=by unfold Rl;exact⟨a,rfl,h⟩
end
def jd{κ:Type}(K:ZW)(ρ:Z0)(H:Hp)(aY:List (κ×ah))(g7:List (κ×V)):Prop:=aY.map (·.1)=g7.map (·.1)/\bE K ρ H (aY.map (·.2)) (g7.map (·.2))
def kN:Option aB->Bool
 |some (.mod _)=>true
 |_=>false
def U4(K:ZW)(a:Z4)(vs:List V):Prop:=∃(o:Obj)(aV:Array Z2)(n:Nat),K.lookup a=some o/\o.cls=.type "list" /\ o.dict=none/\o.data=.seq aV n/\aV.size<=sizeLine/\bA vs aV.toList
def iR(K:ZW)(ρ:Z0)(H:Hp):aB->Z4->Prop
 |.lst us,a=>∃vs,H a=some (.lst vs)/\bE K ρ H us vs
 |.M5 us,a=>∃o vs,H a=some (.nk o (.lst vs))/\bE K ρ H us vs
 |.mod us,a=>∃vs,U4 K a vs/\bE K ρ H us vs
 |.dK aY,a=>∃g7,H a=some (.dK g7)/\jd K ρ H aY g7
 |.dT aY,a=>∃g7,H a=some (.dT g7)/\jd K ρ H aY g7
 |.fd aY,a=>∃o g7,H a=some (.nk o (.dK g7))/\jd K ρ H aY g7
 |.tab x l c q,a=>(∃cd,W.tabIn K x=some (cd,a))/\Tab H a l c q
 |.ins c fs,a=>∃C dx gs,H a=some (.ins C dx gs)/\W.nsIn K mainGlobals c=some (some (.ref C))/\jd K ρ H fs gs
structure SR(K:ZW)(ρ:Z0)(st:ag)(H:Hp):Prop where
 len:ρ.length=st.length
 nd:∀(n m:Nat)a,ρ[n]?=some a->ρ[m]?=some a->kN st[n]?=false->kN st[m]?=false->n=m
 cell:∀(n:Nat)c a,st[n]?=some c->ρ[n]?=some a->iR K ρ H c a
theorem bf{α:Type}{l:List α}{n:Nat}{x:α}(h:l[n]?=some x):n<l.length:=by
 rcases WG n l.length with q|q
 .exact q
 .rw[VZ q]at h;cases h
section
variable{K:ZW}{ρ ρ':Z0}{H H':Hp}{st:ag}
theorem iR.there{c:aB}{a:Z4}(h:iR K ρ H c a)(hn:kN (some c)=false):∃o,H a=some o/\∀xs,o≠.tup xs:=by
 cases c with
 |lst us=>obtain⟨vs,h,_⟩:=h;exact⟨_,h,fun xs e=>by cases e⟩
 |M5 us=>obtain⟨o,vs,h,_⟩:=h;exact⟨_,h,fun xs e=>by cases e⟩
 |fd us=>obtain⟨o,vs,h,_⟩:=h;exact⟨_,h,fun xs e=>by cases e⟩
 |mod us=>cases hn
 |dK aY=>obtain⟨vs,h,_⟩:=h;exact⟨_,h,fun xs e=>by cases e⟩
 |dT aY=>obtain⟨vs,h,_⟩:=h;exact⟨_,h,fun xs e=>by cases e⟩
 |tab x l c q=>rcases h.2 with h|⟨_,_,_,_,h,_⟩<;>exact⟨_,h,fun xs e=>by cases e⟩
 |ins c fs=>obtain⟨_,_,_,h,_⟩:=h;exact⟨_,h,fun xs e=>by cases e⟩
theorem iR.mono{c:aB}{a:Z4}(h:iR K ρ H c a)(e:aU ρ H ρ' H')(ha:kN (some c)=true\/H' a=H a):iR K ρ' H' c a:=by
 cases c with
 |mod us=>obtain⟨vs,h,r⟩:=h;exact⟨vs,h,bE.mono e _ _ r⟩
 |lst us=>rcases ha with ha|ha<;>first|cases ha;done|(obtain⟨vs,h,r⟩:=h;exact⟨vs,ha.trans h,bE.mono e _ _ r⟩)
 |M5 us=>rcases ha with ha|ha<;>first|cases ha;done|(obtain⟨o,vs,h,r⟩:=h;exact⟨o,vs,ha.trans h,bE.mono e _ _ r⟩)
 |dK aY=>rcases ha with ha|ha<;>first|cases ha;done|(obtain⟨vs,h,r⟩:=h;exact⟨vs,ha.trans h,r.1,bE.mono e _ _ r.2⟩)
 |dT aY=>rcases ha with ha|ha<;>first|cases ha;done|(obtain⟨vs,h,r⟩:=h;exact⟨vs,ha.trans h,r.1,bE.mono e _ _ r.2⟩)
 |fd aY=>rcases ha with ha|ha<;>first|cases ha;done|(obtain⟨o,vs,h,r⟩:=h;exact⟨o,vs,ha.trans h,r.1,bE.mono e _ _ r.2⟩)
 |ins c fs=>rcases ha with ha|ha<;>first|cases ha;done|(obtain⟨C,dx,gs,h,hn,r⟩:=h;exact⟨C,dx,gs,ha.trans h,hn,r.1,bE.mono e _ _ r.2⟩)
 |tab x l c q=>
  refine⟨h.1,?_⟩;rcases ha with ha|ha
  .cases ha
  .rcases h.2 with h|⟨c',oc,vs,t,h,h2,h3⟩
   .exact .inl (ha.trans h)
   .exact .inr ⟨c',oc,vs,t,ha.trans h,e.nk _ _ _ h2,h3⟩
theorem iR.grow{c:aB}{a:Z4}(h:iR K ρ H c a)(e:aU ρ H ρ' H')(s:o_ H H'):iR K ρ' H' c a:=by
 cases z:kN (some c) with
 |true=>exact h.mono e (.inl z)
 |false=>
  obtain⟨o,ho,_⟩:=h.there z;exact h.mono e (.inr (by rw[ho];exact s _ _ ho))
theorem SR.there(s:SR K ρ st H){n:Nat}{a:Z4}(h:ρ[n]?=some a):∃c,st[n]?=some c/\iR K ρ H c a:=by
 have hn:=bf h;have Sn:n<st.length:=by rw[<-s.len];exact hn
 exact⟨st[n],Vp Sn,s.cell n _ a (Vp Sn) h⟩
theorem SR.grow(s:SR K ρ st H)(e:o_ H H'):SR K ρ st H':=
 ⟨s.len,s.nd,fun n c a h1 h2=>(s.cell n c a h1 h2).grow (aU.same e) e⟩
theorem SR.KQ(s:SR K ρ st H){p:Z4}(hp:H p=none){n:Nat}(h:ρ[n]?=some p)(hm:kN st[n]?=false):False:=by obtain⟨c,hc,k⟩:=s.there h;rw[hc]at hm;obtain⟨o,ho,_⟩:=k.there hm;rw[hp]at ho;cases ho
theorem eI{p:Z4}{o:HO}(hp:H p=none):o_ H (upd H p o):=o_.upd (o_.refl H) hp
theorem SR.alloc(s:SR K ρ st H){p:Z4}{o:HO}{c:aB}(hp:H p=none)(k:iR K (ρ++[p]) (upd H p o) c p):SR K (ρ++[p]) (st++[c]) (upd H p o):=by
 have e:o_ H (upd H p o):=eI hp;have at_:∀(n:Nat)(a:Z4),(ρ++[p])[n]?=some a->(n<st.length/\ρ[n]?=some a/\(st++[c])[n]?=st[n]?)\/(n=st.length/\a=p/\(st++[c])[n]?=some c):=by
  intro n a h;rcases Nat.lt_trichotomy n st.length with q|q|q
  .rw[V0 (by rw[s.len];exact q)]at h;exact .inl ⟨q,h,V0 q⟩
  .subst q;rw[VP (by rw[s.len];exact VA _),s.len,WT]at h;cases h;refine .inr ⟨rfl,rfl,?_⟩;rw[VP (VA _),WT];rfl
  .rw[VZ (by rw[Vn,Wi,s.len];lia)]at h;cases h
 refine⟨by rw[Vn,Vn,s.len];rfl,fun n m a h1 h2 m1 m2=>?_,fun n c' a h1 h2=>?_⟩
 .rcases at_ n a h1 with⟨q1,q2,q3⟩|⟨q1,q2,q3⟩<;>rcases at_ m a h2 with⟨r1,r2,r3⟩|⟨r1,r2,r3⟩
  .rw[q3]at m1;rw[r3]at m2;exact s.nd n m a q2 r2 m1 m2
  .subst r2;rw[q3]at m1;exact(s.KQ hp q2 m1).elim
  .subst q2;rw[r3]at m2;exact(s.KQ hp r2 m2).elim
  .rw[q1,r1]
 .rcases at_ n a h2 with⟨q1,q2,q3⟩|⟨q1,q2,q3⟩
  .rw[q3]at h1;exact(s.cell n c' a h1 q2).grow (aU.snoc p e) e
  .rw[q3]at h1;cases h1;subst q2;exact k
theorem aU.put{a:Z4}{o o':HO}(h:H a=some o)(h1:∀xs,o≠.tup xs)(h2:∀x u,o≠.nk x u):aU ρ H ρ (upd H a o'):=by
 refine⟨Y2 ρ,fun b xs e=>?_,fun b x u e=>?_⟩
 .rw[bB (fun z=>?_)]
  .exact e
  .subst z;rw[h]at e;exact h1 _ (VR e)
 .rw[bB (fun z=>?_)]
  .exact e
  .subst z;rw[h]at e;exact h2 _ _ (VR e)
theorem SR.set(s:SR K ρ st H){n:Nat}{a:Z4}{o o':HO}{c c':aB}(h:st[n]?=some c)(hc:kN (some c)=false)(d!:kN (some c')=false)(ha:ρ[n]?=some a)(ho:H a=some o)(h1:∀xs,o≠.tup xs)(h2:∀x u,o≠.nk x u)(k:iR K ρ (upd H a o') c' a):SR K ρ (st.set n c') (upd H a o'):=by
 have hn:n<st.length:=bf h;have at_:∀(m:Nat),kN (st.set n c')[m]?=kN st[m]?:=fun m=>by
  by_cases z:m=n
  .subst z;rw[Ws hn,h,hc,d!]
  .rw[WU (fun y=>z y.symm)]
 refine⟨by rw[Wl];exact s.len,fun i m b q1 q2 m1 m2=>s.nd i m b q1 q2 (by rw[<-at_];exact m1) (by rw[<-at_];exact m2),fun m d b q1 q2=>?_⟩;by_cases z:m=n
 .subst z;rw[ha]at q2;cases q2;rw[Ws hn]at q1;cases q1;exact k
 .rw[WU (fun y=>z y.symm)]at q1;have kb:=s.cell m d b q1 q2;cases zm:kN (some d) with
  |true=>exact kb.mono (aU.put ho h1 h2) (.inl zm)
  |false=>
   have hb:b≠a:=fun y=>z (s.nd m n a (by rw[<-y];exact q2) ha (by rw[q1];exact zm) (by rw[h];exact hc));exact kb.mono (aU.put ho h1 h2) (.inr (bB hb))
end
def BU(W:Wo)(ρ:Z0)(H:Hp)(u:ah)(v:V):Prop:=match u with
 |.exc c=>∃a oe C,v=.ref a/\(a,oe)∈W.pn/\W.mg c=some (.ref C)/\oe.cls=.ref C
 |.fn L u=>∃f c c' cv,v=.ref f/\SQ L H f c c' cv/\Rl W.K ρ H u cv
 |u=>Rl W.K ρ H u v
theorem BU.mono{W:Wo}{ρ ρ':Z0}{H H':Hp}{u:ah}{v:V}(h:BU W ρ H u v)(e:aU ρ H ρ' H'):BU W ρ' H' u v:=by
 cases u with
 |exc c=>exact h
 |fn L u=>obtain⟨f,c,c',cv,h1,C,r⟩:=h;exact⟨f,c,c',cv,h1,C.mono (fun b o u q=>e.nk b o u q),Rl.mono e _ _ r⟩
 |_=>exact Rl.mono e _ _ h
theorem BU.of{W:Wo}{ρ:Z0}{H:Hp}{u:ah}{v:V}(h:Rl W.K ρ H u v):BU W ρ H u v:=by
 cases u with
 |exc c=>unfold Rl at h;exact h.elim
 |fn L u=>unfold Rl at h;exact h.elim
 |_=>exact h
structure RS(W:Wo)(ρ:Z0)(H:Hp)(μ:Env)(σ:St):Prop where
 len:μ.length=σ.length
 at_:∀(i:Nat)u,μ[i]?=some (some u)->∃v,σ[i]?=some (some v)/\BU W ρ H u v
section
variable{W:Wo}{ρ ρ':Z0}{H H':Hp}{μ:Env}{σ:St}
theorem RS.mono(r:RS W ρ H μ σ)(e:aU ρ H ρ' H'):RS W ρ' H' μ σ:=⟨r.len,fun i u h=>let⟨v,h1,h2⟩:=r.at_ i u h;⟨v,h1,h2.mono e⟩⟩
theorem RS.U5(r:RS W ρ H μ σ)(i:Nat){u:ah}{v:V}(h:BU W ρ H u v):RS W ρ H (μ.set i (some u)) (σ.set i (some v)):=by
 refine⟨by rw[Wl,Wl];exact r.len,fun j w e=>?_⟩;by_cases z:j=i
 .subst z;have hj:=bf e;rw[Wl]at hj;rw[Ws hj]at e;cases e;exact⟨v,Ws (by rw[<-r.len];exact hj),h⟩
 .rw[WU (fun y=>z y.symm)]at e⊢;exact r.at_ j w e
theorem RS.set(r:RS W ρ H μ σ)(i:Nat){u:ah}{v:V}(h:Rl W.K ρ H u v):RS W ρ H (μ.set i (some u)) (σ.set i (some v)):=r.U5 i (BU.of h)
end
abbrev ME:=Env->ag->dh ah
abbrev MT:=Env->ag->dh Bool
abbrev MA:=Env->ag->dh (List ah)
abbrev MB:=Env->ag->cm
def wR{α β:Type}(W:Wo)(E:XK)(R:Z0->Hp->α->β->Prop)(ρ:Z0)(H:Hp)(Q:β->Hp->Prop):dh α->Prop
 |.ok u ar=>∀ρ' H' v,aU ρ H ρ' H'->SR W.K ρ' ar H'->R ρ' H' u v->Q v H'
 |.err c ar=>∃C,W.mg c=some (.ref C)/\∀ρ' H',aU ρ H ρ' H'->SR W.K ρ' ar H'->E (.ref C) none H'
 |.bad=>False
theorem wR.mono{α β:Type}{W:Wo}{E:XK}{R:Z0->Hp->α->β->Prop}{ρ ρ':Z0}{H H':Hp}{Q:β->Hp->Prop}{r:dh α}(h:wR W E R ρ H Q r)(e:aU ρ H ρ' H'):wR W E R ρ' H' Q r:=by
 cases r with
 |ok u st=>exact fun ρ2 H2 v e2 s r=>h ρ2 H2 v (e.trans e2) s r
 |err c st=>obtain⟨C,h1,h2⟩:=h;exact⟨C,h1,fun ρ2 H2 e2 s=>h2 ρ2 H2 (e.trans e2) s⟩
 |bad=>exact h
theorem wR.pn{α β:Type}{K:ZW}{mg:ZU}{pn M6:ZV}{E:XK}{R:Z0->Hp->α->β->Prop}{ρ:Z0}{H:Hp}{Q:β->Hp->Prop}{r:dh α}(h:wR ⟨K,mg,pn⟩ E R ρ H Q r):wR ⟨K,mg,M6⟩ E R ρ H Q r:=by cases r<;>exact h
def tG{α β:Type}(W:Wo)(E:XK)(R:Z0->Hp->α->β->Prop)(m:Env->ag->dh α):St->Hp->(β->Hp->Prop)->Prop:=
 fun σ H Q=>∃μ ρ st,RS W ρ H μ σ/\SR W.K ρ st H/\wR W E R ρ H Q (m μ st)
abbrev RB:Z0->Hp->Bool->Bool->Prop:=fun _ _ b c=>c=b
abbrev tE(X:Cx)(E:XK)(m:ME):TE:=tG (wo X) E (Rl X.K) m
abbrev tT(X:Cx)(E:XK)(m:MT):TT:=tG (wo X) E RB m
abbrev tL(X:Cx)(E:XK)(m:MA):TA:=tG (wo X) E (bE X.K) m
theorem go{α β γ δ:Type}{W:Wo}{E:XK}{R1:Z0->Hp->α->β->Prop}{R2:Z0->Hp->γ->δ->Prop}{m:Env->ag->dh α}{k:α->ag->dh γ}{σ:St}{H:Hp}{Q:δ->Hp->Prop}{Q':β->Hp->Prop}(μ:Env)(ρ:Z0)(st:ag)(rs:RS W ρ H μ σ)(sr:SR W.K ρ st H)(h:wR W E R2 ρ H Q ((m μ st).bind k))(c:∀u st1 ρ1 H1 x,aU ρ H ρ1 H1->SR W.K ρ1 st1 H1->R1 ρ1 H1 u x->wR W E R2 ρ1 H1 Q (k u st1)->Q' x H1):tG W E R1 m σ H Q':=by
 refine⟨μ,ρ,st,rs,sr,?_⟩;cases e:m μ st with
 |ok u st1=>
  rw[e]at h;intro ρ1 H1 x e1 cS r1;exact c u st1 ρ1 H1 x e1 cS r1 (wR.mono h e1)
 |err c st1=>rw[e]at h;exact h
 |bad=>rw[e]at h;exact h
section
variable{X:Cx}
theorem PE.imp{e:Expr}{t t':TE}(h:PE X e t)(k:∀σ H Q,t' σ H Q->t σ H Q):PE X e t':=fun ae s σ H Q I q=>h ae s σ H Q I (k σ H Q q)
theorem PT.imp{e:Expr}{t t':TT}(h:PT X e t)(k:∀σ H Q,t' σ H Q->t σ H Q):PT X e t':=fun ae s σ H Q I q=>h ae s σ H Q I (k σ H Q q)
theorem PW.imp{e:Expr}{t t':TT}(h:PW X e t)(k:∀σ H Q,t' σ H Q->t σ H Q):PW X e t':=fun w ae s σ H Q I q=>h w ae s σ H Q I (k σ H Q q)
theorem PA.imp{e:List Expr}{t t':TA}(h:PA X e t)(k:∀σ H Q,t' σ H Q->t σ H Q):PA X e t':=fun p ae s σ H Q I q=>h p ae s σ H Q I (k σ H Q q)
theorem PS.imp{e:Stmt}{t t':TS}(h:PS X e t)(k:∀D σ H,t' D σ H->t D σ H):PS X e t':=fun ae s σ H D I q=>h ae s σ H D I (k D σ H q)
theorem kx.imp{e:List Stmt}{t t':TS}(h:kx X e t)(k:∀D σ H,t' D σ H->t D σ H):kx X e t':=fun ae s σ H D I q=>h ae s σ H D I (k D σ H q)
theorem PG.imp{e:Expr}{t t':TG}(h:PG X e t)(k:∀v σ H Q,t' v σ H Q->t v σ H Q):PG X e t':=fun ae s σ H v u Q I r q=>h ae s σ H v u Q I r (k v σ H Q q)
theorem eY.imp{f:Z2->Z2->Sem Z2}{t t':R2}(h:eY X f t)(k:∀x y H Q,t' x y H Q->t x y H Q):eY X f t':=fun ae s σ H x y v u Q I rx ry q=>h ae s σ H x y v u Q I rx ry (k x y H Q q)
theorem cz.imp{f:Z2}{t t':List V->Hp->VK->Prop}(h:cz X f t)(k:∀xs H Q,t' xs H Q->t xs H Q):cz X f t':=fun ae s σ H xs us Q I r q=>h ae s σ H xs us Q I r (k xs H Q q)
theorem zY.imp{t t':R2}(h:zY X t)(k:∀x y H Q,t' x y H Q->t x y H Q):zY X t':=fun va sl ae s σ H x y v u Q I rx ry q e=>h va sl ae s σ H x y v u Q I rx ry (k x y H Q q) e
end
def isX:ah->Bool
 |.exc _=>true
 |.fn _ _=>true
 |_=>false
def jT(i:Nat):ME:=fun μ st=>match μ[i]? with
 |some (some v)=>if isX v=true then .bad else .ok v st
 |_=>.bad
theorem BU.un{W:Wo}{ρ:Z0}{H:Hp}{u:ah}{v:V}(h:BU W ρ H u v)(n:¬ isX u=true):Rl W.K ρ H u v:=by
 cases u with
 |exc c=>exact absurd rfl n
 |fn L u=>exact absurd rfl n
 |_=>exact h
def mC(v:ah):ME:=fun _ st=>.ok v st
section
variable{X:Cx}{E:XK}{pos:Pos}
theorem Fs(i:Nat){x:Str}(hN:X.N[i]?=some x:=by rfl)(hv:Pg X.env.scope x:=by first|exact Or.inl rfl|exact Or.inr (Or.inl rfl)|exact Or.inr (Or.inr rfl))(hd:(x==("__debug__":Str))=false:=by decide)(zW:(x==("__classdict__":Str))=false:=by decide):PE X (.Name x pos) (tE X E (jT i)):=by
 refine PE.imp (LO hN hv hd zW) ?_;rintro σ H Q ⟨μ,ρ,st,rs,sr,h⟩;unfold jT at h;split at h
 .rename_i v e;obtain⟨w,e',r⟩:=rs.at_ i v e;split at h
  .exact h.elim
  .rename_i n;exact⟨w,e',h ρ H w (aU.refl _ _) sr (r.un n)⟩
 .exact h.elim
theorem yG{e:Expr}{v:V}{c:ah}(h:PE X e (tC v))(r:∀ρ H,Rl X.K ρ H c v):PE X e (tE X E (mC c)):=by refine PE.imp h ?_;rintro σ H Q ⟨μ,ρ,st,rs,sr,h⟩;exact h ρ H v (aU.refl _ _) sr (r ρ H)
theorem M7{i j}:PE X (.Constant (.int i) j pos) (tE X E (mC (.int i))):=yG LQ fun _ _=>Rl.mkInt i
theorem QH{b j}:PE X (.Constant (.bool b) j pos) (tE X E (mC (.bl b))):=yG Pk fun _ _=>Rl.Dp b
theorem Ft{j}:PE X (.Constant .none j pos) (tE X E (mC .dg)):=yG LR fun _ _=>Rl.BS
theorem M8{x j}:PE X (.Constant (.str x) j pos) (tE X E (mC (.str x))):=yG LS fun _ _=>Rl.mkStr x
structure Glob(K:ZW)(mg:ZU)(x:Str)(c:ah):Prop where
 at_:∃(u:Z2)(v:V),mg x=some u/\bK v u/\∀ρ H,Rl K ρ H c v
theorem BV{x:Str}{c:ah}(hg:Gl X x)(h:Glob X.K X.mg x c)(hd:(x==("__debug__":Str))=false:=by decide):PE X (.Name x pos) (tE X E (mC c)):=by obtain⟨u,v,h1,h2,h3⟩:=h.at_;exact yG (HW hg h1 h2 hd) h3
end
abbrev F2:=ah->ah->ag->dh ah
def rM(W:Wo)(E:XK)(f:F2):R2:=fun x y H Q=>∃ρ st u w,SR W.K ρ st H/\Rl W.K ρ H u x/\Rl W.K ρ H w y/\wR W E (Rl W.K) ρ H Q (f u w st)
def af(f:F2)(a b:ME):ME:=fun μ st=>(a μ st).bind fun x st1=>(b μ st1).bind fun y cJ=>f x y cJ
section
variable{X:Cx}{E:XK}{pos:Pos}{a b c:Expr}{ma mb mc:ME}{f g:F2}
theorem nZ{σ:St}{H:Hp}{Q:VK}(h:tE X E (af f ma mb) σ H Q):OW (rM (wo X) E f) (tE X E ma) (tE X E mb) σ H Q:=by obtain⟨μ,ρ,st,rs,sr,h⟩:=h;refine go μ ρ st rs sr h fun u st1 ρ1 H1 x e1 cS r1 h1=>?_;refine go μ ρ1 st1 (rs.mono e1) cS h1 fun w cJ ρ2 H2 y e2 oX r2 h2=>?_;exact⟨ρ2,cJ,u,w,oX,Rl.mono e2 _ _ r1,r2,h2⟩
theorem ph{op:Operator}(ho:eY X (binaryOp op) (rM (wo X) E f))(ha:PE X a (tE X E ma))(hb:PE X b (tE X E mb)):PE X (.BinOp a op b pos) (tE X E (af f ma mb)):=
 PE.imp (PJ ho ha hb) fun _ _ _ h=>nZ h
theorem jU{op:CmpOp}(ho:eY X (compareOp op) (rM (wo X) E f))(ha:PE X a (tE X E ma))(hb:PE X b (tE X E mb))(hm:behindInMarks op b=false:=by first|exact EB _|(with_unfolding_all rfl)):PE X (.Compare a [op] [b] pos) (tE X E (af f ma mb)):=
 PE.imp (Ip ho ha hb hm) fun _ _ _ h=>nZ h
def b8(m:ME):MT:=fun μ st=>(m μ st).bind fun v ar=>match v with
 |.bl b=>.ok b ar
 |_=>.bad
theorem sZ{m:ME}{σ:St}{H:Hp}{Q:Bool->Hp->Prop}(h:tT X E (b8 m) σ H Q):tE X E m σ H fun x H'=>∃k,x=.bl k/\Q k H':=by
 obtain⟨μ,ρ,st,rs,sr,h⟩:=h;refine go μ ρ st rs sr h fun u st1 ρ1 H1 x e1 cS r1 h1=>?_;cases u with
 |bl b=>exact⟨b,r1.ql,h1 ρ1 H1 b (aU.refl _ _) cS rfl⟩
 |_=>exact h1.elim
theorem kT{op:CmpOp}(ho:eY X (compareOp op) (rM (wo X) E f))(ha:PE X a (tE X E ma))(hb:PE X b (tE X E mb))(hm:behindInMarks op b=false:=by first|exact EB _|(with_unfolding_all rfl)):PT X (.Compare a [op] [b] pos) (tT X E (b8 (af f ma mb))):=
 PT.imp (Iq ho ha hb hm) fun σ H Q h=>by show OW (rM (wo X) E f) (tE X E ma) (tE X E mb) σ H _;exact nZ (sZ h)
theorem M9{m:ME}(h:PE X a (tE X E m))(he:∀whole,isTrue a X.env whole=(do let v <- whole;standAt a.pos;holding [v] (truthy v)):=by intro _;rfl):PT X a (tT X E (b8 m)):=
 PT.imp (LW h he) fun σ H Q h=>sZ h
def s_(f g:F2)(a b c:ME):ME:=fun μ st=>(a μ st).bind fun x st1=>(b μ st1).bind fun y cJ=>(f x y cJ).bind fun z mZ=>match z with
 |.bl true=>(c μ mZ).bind fun w m8=>g y w m8
 |.bl false=>.ok (.bl false) mZ
 |_=>.bad
def Tells(f:F2):Prop:=∀u w st,f u w st=.bad\/∃b,f u w st=.ok (.bl b) st
theorem Ax(hf:Tells f){σ:St}{H:Hp}{Q:VK}(h:tE X E (s_ f g ma mb mc) σ H Q):Ag (rM (wo X) E f) (rM (wo X) E g) (tE X E ma) (tE X E mb) (tE X E mc) σ H Q:=by
 obtain⟨μ,ρ,st,rs,sr,h⟩:=h;refine go μ ρ st rs sr h fun u st1 ρ1 H1 x e1 cS r1 h1=>?_;refine go μ ρ1 st1 (rs.mono e1) cS h1 fun w cJ ρ2 H2 y e2 oX r2 h2=>?_;refine⟨ρ2,cJ,u,w,oX,Rl.mono e2 _ _ r1,r2,?_⟩;rcases hf u w cJ with e|⟨k,e⟩
 .rw[e]at h2;exact h2.elim
 .rw[e]at h2⊢;intro ρ3 H3 z e3 Ay rz;rw[rz.ql];refine⟨k,rfl,?_⟩;cases k with
  |true=>
   rw[VD rfl];refine go μ ρ3 cJ (((rs.mono e1).mono e2).mono e3) Ay (wR.mono h2 e3) fun v m8 ρ4 H4 x4 e4 pj r4 h4=>?_;exact⟨ρ4,m8,w,v,pj,Rl.mono (e3.trans e4) _ _ r2,r4,h4⟩
  |false=>
   rw[VI VM];exact h2 ρ3 H3 _ e3 Ay (Rl.Dp false)
theorem Fu{op Mj:CmpOp}(hf:Tells f)(ho:eY X (compareOp op) (rM (wo X) E f))(vC:eY X (compareOp Mj) (rM (wo X) E g))(ha:PE X a (tE X E ma))(hb:PE X b (tE X E mb))(hc:PE X c (tE X E mc))(hm:lastMarks [op,Mj] [b,c]=false:=by with_unfolding_all rfl):PT X (.Compare a [op,Mj] [b,c] pos) (tT X E (b8 (s_ f g ma mb mc))):=
 PT.imp (EC ho vC ha hb hc hm) fun σ H Q h=>by show Ag (rM (wo X) E f) (rM (wo X) E g) (tE X E ma) (tE X E mb) (tE X E mc) σ H _;exact Ax hf (sZ h)
def Az(a b:ME):ME:=fun μ st=>(a μ st).bind fun x st1=>match x with
 |.bl true=>b μ st1
 |.bl false=>.ok (.bl false) st1
 |_=>.bad
def QI(a b:ME):ME:=fun μ st=>(a μ st).bind fun x st1=>match x with
 |.bl true=>.ok (.bl true) st1
 |.bl false=>b μ st1
 |_=>.bad
def Jd(a:ME):ME:=fun μ st=>(a μ st).bind fun x st1=>match x with
 |.bl b=>.ok (.bl (!b)) st1
 |_=>.bad
def fm(a b:MT):MT:=fun μ st=>(a μ st).bind fun x st1=>match x with
 |true=>b μ st1
 |false=>.ok false st1
def g8(a b:MT):MT:=fun μ st=>(a μ st).bind fun x st1=>match x with
 |true=>.ok true st1
 |false=>b μ st1
def dW(a:MT):MT:=fun μ st=>(a μ st).bind fun x st1=>.ok (!x) st1
def QJ(t:MT)(a b:ME):ME:=fun μ st=>(t μ st).bind fun x st1=>match x with
 |true=>a μ st1
 |false=>b μ st1
variable{rest:List Expr}{tA HY:MT}
theorem M_{op}{m:ME}(h:PE X a (tE X E m)):PE X (.BoolOp op [a] pos) (tE X E m):=L0 h
theorem M!(ha:PE X a (tE X E ma))(hb:PE X (.BoolOp .And (b::rest) pos) (tE X E mb)):PE X (.BoolOp .And (a::b::rest) pos) (tE X E (Az ma mb)):=by
 refine PE.imp (L3 ha hb) ?_;rintro σ H Q ⟨μ,ρ,st,rs,sr,h⟩;refine go μ ρ st rs sr h fun u st1 ρ1 H1 x e1 cS r1 h1=>?_;cases u with
 |bl k=>
  refine⟨k,r1.ql,?_⟩;cases k with
  |true=>rw[VD rfl];exact⟨μ,ρ1,st1,rs.mono e1,cS,h1⟩
  |false=>rw[VI VM];exact h1 ρ1 H1 _ (aU.refl _ _) cS (Rl.Dp false)
 |_=>exact h1.elim
theorem QK(ha:PE X a (tE X E ma))(hb:PE X (.BoolOp .Or (b::rest) pos) (tE X E mb)):PE X (.BoolOp .Or (a::b::rest) pos) (tE X E (QI ma mb)):=by
 refine PE.imp (Po ha hb) ?_;rintro σ H Q ⟨μ,ρ,st,rs,sr,h⟩;refine go μ ρ st rs sr h fun u st1 ρ1 H1 x e1 cS r1 h1=>?_;cases u with
 |bl k=>
  refine⟨k,r1.ql,?_⟩;cases k with
  |true=>rw[VD rfl];exact h1 ρ1 H1 _ (aU.refl _ _) cS (Rl.Dp true)
  |false=>rw[VI VM];exact⟨μ,ρ1,st1,rs.mono e1,cS,h1⟩
 |_=>exact h1.elim
theorem M?(ha:PE X a (tE X E ma)):PE X (.UnaryOp .Not a pos) (tE X E (Jd ma)):=by
 refine PE.imp (L4 ha) ?_;rintro σ H Q ⟨μ,ρ,st,rs,sr,h⟩;refine go μ ρ st rs sr h fun u st1 ρ1 H1 x e1 cS r1 h1=>?_;cases u with
 |bl k=>exact⟨k,r1.ql,h1 ρ1 H1 _ (aU.refl _ _) cS (Rl.Dp _)⟩
 |_=>exact h1.elim
theorem Je(ha:PT X a (tT X E tA)):PW X (.BoolOp .And [a] pos) (tT X E tA):=HZ ha
theorem Na(ha:PT X a (tT X E tA)):PW X (.BoolOp .Or [a] pos) (tT X E tA):=LX ha
theorem Nb(ha:PT X a (tT X E tA))(hb:PW X (.BoolOp .And (b::rest) pos) (tT X E HY)):PW X (.BoolOp .And (a::b::rest) pos) (tT X E (fm tA HY)):=by
 refine PW.imp (LY ha hb) ?_;rintro σ H Q ⟨μ,ρ,st,rs,sr,h⟩;refine go (R1:=RB) μ ρ st rs sr h fun u st1 ρ1 H1 x e1 cS r1 h1=>?_;cases r1;cases u with
 |true=>rw[VD rfl];exact⟨μ,ρ1,st1,rs.mono e1,cS,h1⟩
 |false=>rw[VI VM];exact h1 ρ1 H1 _ (aU.refl _ _) cS rfl
theorem QL(ha:PT X a (tT X E tA))(hb:PW X (.BoolOp .Or (b::rest) pos) (tT X E HY)):PW X (.BoolOp .Or (a::b::rest) pos) (tT X E (g8 tA HY)):=by
 refine PW.imp (Pl ha hb) ?_;rintro σ H Q ⟨μ,ρ,st,rs,sr,h⟩;refine go (R1:=RB) μ ρ st rs sr h fun u st1 ρ1 H1 x e1 cS r1 h1=>?_;cases r1;cases u with
 |true=>rw[VD rfl];exact h1 ρ1 H1 _ (aU.refl _ _) cS rfl
 |false=>rw[VI VM];exact⟨μ,ρ1,st1,rs.mono e1,cS,h1⟩
theorem U6{e:Expr}{t:MT}(h:PW X e (tT X E t)):PT X e (tT X E t):=h.pt
theorem Nc(ha:PT X a (tT X E tA)):PT X (.UnaryOp .Not a pos) (tT X E (dW tA)):=by refine PT.imp (LZ ha) ?_;rintro σ H Q ⟨μ,ρ,st,rs,sr,h⟩;refine go (R1:=RB) μ ρ st rs sr h fun u st1 ρ1 H1 x e1 cS r1 h1=>?_;cases r1;exact h1 ρ1 H1 _ (aU.refl _ _) cS rfl
theorem QM(hc:PT X c (tT X E tA))(ha:PE X a (tE X E ma))(hb:PE X b (tE X E mb)):PE X (.IfExp c a b pos) (tE X E (QJ tA ma mb)):=by
 refine PE.imp (Es hc ha hb) ?_;rintro σ H Q ⟨μ,ρ,st,rs,sr,h⟩;refine go (R1:=RB) μ ρ st rs sr h fun u st1 ρ1 H1 x e1 cS r1 h1=>?_;cases r1;cases u with
 |true=>rw[VD rfl];exact⟨μ,ρ1,st1,rs.mono e1,cS,h1⟩
 |false=>rw[VI VM];exact⟨μ,ρ1,st1,rs.mono e1,cS,h1⟩
end
def aj:MA:=fun _ st=>.ok [] st
def aa(a:ME)(r:MA):MA:=fun μ st=>(a μ st).bind fun x st1=>(r μ st1).bind fun xs cJ=>.ok (x::xs) cJ
abbrev a!: ME := jT 0
abbrev bw: ME := jT 1
abbrev cW: ME := jT 2
abbrev eh: ME := jT 3
abbrev eg: ME := jT 4
abbrev j?: ME := jT 5
abbrev qm: ME := jT 6
abbrev uW: ME := jT 7
abbrev BW: ME := jT 8
abbrev Ek: ME := jT 9
abbrev Dq: ME := jT 10
abbrev dF: ME := mC (.int 0)
abbrev b!: ME := mC (.int 1)
abbrev ny: ME := mC (.int 2)
abbrev KR: ME := mC (.int 3)
abbrev Fv: ME := mC (.int 4)
abbrev Nd: ME := mC (.int 5)
abbrev Fw: ME := mC (.int 8)
abbrev Dr: ME := mC (.int 24)
abbrev e!: ME := mC (.int 2147483647)
abbrev qs(x : Str): ME := mC (.str x)
abbrev qI(i : Int): Option ah := some (.int i)
abbrev qN(n : Nat): Option ah := some (.int n)
abbrev qS(x : Str): Option ah := some (.str x)
abbrev qL(n : Nat): Option ah := some (.loc n)
abbrev qn: Option ah := none
def jt(a:MA):ME:=fun μ st=>(a μ st).bind fun xs st1=>if xs.length<=sizeLine then .ok (.tup xs) st1 else .bad
def dA(a:MA):ME:=fun μ st=>(a μ st).bind fun xs st1=>if xs.length<=sizeLine then .ok (.loc st1.length) (st1++[.lst xs])else .bad
abbrev FN:=List ah->ag->dh ah
def ai(f:FN)(a:MA):ME:=fun μ st=>(a μ st).bind fun xs st1=>f xs st1
def Fx(W:Wo)(f:FN):Sp:=fun vs H Q E=>∃us ρ st,bE W.K ρ H us vs/\SR W.K ρ st H/\wR W E (Rl W.K) ρ H Q (f us st)
def cM(W:Wo)(E:XK)(f:FN):List V->Hp->VK->Prop:=fun xs H Q=>∃ρ st us,SR W.K ρ st H/\bE W.K ρ H us xs/\wR W E (Rl W.K) ρ H Q (f us st)
section
variable{X:Cx}{E:XK}{pos p:Pos}{e:Expr}{es:List Expr}{m:ME}{ms:MA}{f:FN}{x:Str}
theorem wX:PA X [] (tL X E aj):=PA.imp EE fun σ H Q⟨μ,ρ,st,rs,sr,h⟩=>h ρ H [] (aU.refl _ _) sr bE.nil
theorem rW(ha:PE X e (tE X E m))(hr:PA X es (tL X E ms))(hs:starEach (e::es) X.env=(false,eval e X.env)::starEach es X.env:=by rfl):PA X (e::es) (tL X E (aa m ms)):=by refine PA.imp (wD ha hr hs) ?_;rintro σ H Q ⟨μ,ρ,st,rs,sr,h⟩;refine go μ ρ st rs sr h fun u st1 ρ1 H1 x e1 cS r1 h1=>?_;refine go (R1:=bE X.K) μ ρ1 st1 (rs.mono e1) cS h1 fun w cJ ρ2 H2 y e2 oX r2 h2=>?_;exact h2 ρ2 H2 _ (aU.refl _ _) oX (bE.cons (Rl.mono e2 _ _ r1) r2)
theorem Nf{k}(h:PA X es (tL X E ms)):PE X (.Tuple es k pos) (tE X E (jt ms)):=by
 refine PE.imp (Ml h) ?_;rintro σ H Q ⟨μ,ρ,st,rs,sr,h⟩;refine go (R1:=bE X.K) μ ρ st rs sr h fun us st1 ρ1 H1 xs e1 cS r1 h1=>?_;by_cases hz:us.length<=sizeLine
 .rw[VD hz]at h1;refine⟨by rw[<-r1.length];exact hz,fun p hp=>?_⟩;have s:=eI (o:=.tup xs) hp;exact h1 ρ1 _ _ (aU.same s) (cS.grow s) (Rl.vN dr (bE.mono (aU.same s) _ _ r1))
 .rw[VI hz]at h1;exact h1.elim
theorem iI{K:ZW}{ρ:Z0}{st:ag}{H:Hp}{us:List ah}{xs:List V}(sr:SR K ρ st H)(r:bE K ρ H us xs){p:Z4}(hp:H p=none):
  aU ρ H (ρ++[p]) (upd H p (.lst xs))/\SR K (ρ++[p]) (st++[.lst us]) (upd H p (.lst xs))/\Rl K (ρ++[p]) (upd H p (.lst xs)) (.loc st.length) (.ref p):=by
 have s:=eI (o:=.lst xs) hp;refine⟨aU.snoc p s,sr.alloc hp ⟨xs,dr,bE.mono (aU.snoc p s) _ _ r⟩,Rl.Fo ?_⟩;rw[<-sr.len,VP (VA _),WT];rfl
theorem Fy(h:PA X es (tL X E ms)):PE X (.List es pos) (tE X E (dA ms)):=by
 refine PE.imp (Mm h) ?_;rintro σ H Q ⟨μ,ρ,st,rs,sr,h⟩;refine go (R1:=bE X.K) μ ρ st rs sr h fun us st1 ρ1 H1 xs e1 cS r1 h1=>?_;by_cases hz:us.length<=sizeLine
 .rw[VD hz]at h1;refine⟨by rw[<-r1.length];exact hz,fun p hp=>?_⟩;obtain⟨a,b,c⟩:=iI cS r1 hp;exact h1 _ _ _ a b c
 .rw[VI hz]at h1;exact h1.elim
theorem Jf{k:Nat}{fa:Z4}{fd:FuncData}{ps:Z1}{CX:BB}(F:kE X.prog X.w X.K X.mg X.base CX k fa fd ps (Fx ⟨X.K,X.mg,[]⟩ f))(hr:gK k X.A)(hg:Gl X x)(hm:X.mg x=some (.ref fa))(hk:W.keepIn X.K (.ref fa)=true)(hb:Binds X.K fd ps [])(hx:Passes CX X E)(ha:PA X (e::es) (tL X E ms))(u3:(x==("__debug__":Str))=false:=by decide)(he:starEach (e::es) X.env=(false,eval e X.env)::starEach es X.env:=by rfl)(m6:(backTo pos (starEach es X.env)).any (·.1)=false:=by rfl):
  PE X (.Call (.Name x p) (e::es) [] pos) (tE X E (ai f ms)):=by
 refine PE.imp (Iu F hr hg hm hk hb .nil hx ha u3 he m6) ?_;rintro σ H Q ⟨μ,ρ,st,rs,sr,h⟩;refine go (R1:=bE X.K) μ ρ st rs sr h fun us st1 ρ1 H1 xs e1 cS r1 h1=>?_;rw[V3];exact⟨us,ρ1,st1,r1,cS,wR.pn h1⟩
theorem jA{id:String}(hc:cz X (.builtin id) (cM (wo X) E f))(hg:Gl X x)(hm:X.mg x=none)(hv:bootBuiltins x=some (.builtin id))(ha:PA X (e::es) (tL X E ms))(hn:x ≠ "__name__":=by decide)(u3:(x==("__debug__":Str))=false:=by decide)(he:starEach (e::es) X.env=(false,eval e X.env)::starEach es X.env:=by rfl)(m6:(backTo pos (starEach es X.env)).any (·.1)=false:=by rfl):PE X (.Call (.Name x p) (e::es) [] pos) (tE X E (ai f ms)):=by refine PE.imp (yq hc hg hm hv ha hn u3 he m6) ?_;rintro σ H Q ⟨μ,ρ,st,rs,sr,h⟩;exact go (R1:=bE X.K) μ ρ st rs sr h fun us st1 ρ1 H1 xs e1 cS r1 h1=>⟨ρ1,st1,us,cS,r1,h1⟩
theorem pk{T:String}(hc:cz X (.type T) (cM (wo X) E f))(hg:Gl X x)(hm:X.mg x=none)(hv:bootBuiltins x=some (.type T))(ha:PA X (e::es) (tL X E ms))(hn:x ≠ "__name__":=by decide)(u3:(x==("__debug__":Str))=false:=by decide)(he:starEach (e::es) X.env=(false,eval e X.env)::starEach es X.env:=by rfl)(m6:(backTo pos (starEach es X.env)).any (·.1)=false:=by rfl):PE X (.Call (.Name x p) (e::es) [] pos) (tE X E (ai f ms)):=by refine PE.imp (C3 hc hg hm hv ha hn u3 he m6) ?_;rintro σ H Q ⟨μ,ρ,st,rs,sr,h⟩;exact go (R1:=bE X.K) μ ρ st rs sr h fun us st1 ρ1 H1 xs e1 cS r1 h1=>⟨ρ1,st1,us,cS,r1,h1⟩
end
section
variable{X:Cx}{E:XK}{pos:Pos}{a b:Expr}{ma mb:ME}{f:F2}
theorem QN(hr:zY X (rM (wo X) E f))(ha:PE X a (tE X E ma))(hb:PE X b (tE X E mb))(hs:wH b:=by exact fun _ _=>rfl):PE X (.Subscript a b pos) (tE X E (af f ma mb)):=
 PE.imp (Qa hr ha hb hs) fun _ _ _ h=>nZ h
end
def wS(W:Wo)(E:XK)(ρ:Z0)(H:Hp)(D:Ends):cm->Prop
 |.nx μ st=>∀ρ' H' σ',aU ρ H ρ' H'->SR W.K ρ' st H'->RS W ρ' H' μ σ'->D.nx σ' H'
 |.rt v st=>∀ρ' H' x,aU ρ H ρ' H'->SR W.K ρ' st H'->Rl W.K ρ' H' v x->D.rt x H'
 |.bk μ st=>∀ρ' H' σ',aU ρ H ρ' H'->SR W.K ρ' st H'->RS W ρ' H' μ σ'->D.bk σ' H'
 |.ct μ st=>∀ρ' H' σ',aU ρ H ρ' H'->SR W.K ρ' st H'->RS W ρ' H' μ σ'->D.ct σ' H'
 |.er c _ st=>∃C,W.mg c=some (.ref C)/\∀ρ' H',aU ρ H ρ' H'->SR W.K ρ' st H'->E (.ref C) none H'
 |.bad=>False
theorem wS.mono{W:Wo}{E:XK}{ρ ρ':Z0}{H H':Hp}{D:Ends}{r:cm}(h:wS W E ρ H D r)(e:aU ρ H ρ' H'):wS W E ρ' H' D r:=by
 cases r with
 |nx μ st=>exact fun ρ2 H2 σ2 e2 s r=>h ρ2 H2 σ2 (e.trans e2) s r
 |rt v st=>exact fun ρ2 H2 x e2 s r=>h ρ2 H2 x (e.trans e2) s r
 |bk μ st=>exact fun ρ2 H2 σ2 e2 s r=>h ρ2 H2 σ2 (e.trans e2) s r
 |ct μ st=>exact fun ρ2 H2 σ2 e2 s r=>h ρ2 H2 σ2 (e.trans e2) s r
 |er c μ st=>obtain⟨C,h1,h2⟩:=h;exact⟨C,h1,fun ρ2 H2 e2 s=>h2 ρ2 H2 (e.trans e2) s⟩
 |bad=>exact h
def tS(X:Cx)(E:XK)(m:MB):TS:=fun D σ H=>∃μ ρ st,RS (wo X) ρ H μ σ/\SR X.K ρ st H/\wS (wo X) E ρ H D (m μ st)
@[reducible] def dh.sb{α:Type}(r:dh α)(μ:Env)(k:α->ag->cm):cm:=match r with
 |.ok a st=>k a st
 |.err c st=>.er c μ st
 |.bad=>.bad
theorem z?{α β:Type}{W:Wo}{E:XK}{R1:Z0->Hp->α->β->Prop}{m:Env->ag->dh α}{k:α->ag->cm}{σ:St}{H:Hp}{D:Ends}{Q':β->Hp->Prop}(μ:Env)(ρ:Z0)(st:ag)(rs:RS W ρ H μ σ)(sr:SR W.K ρ st H)(h:wS W E ρ H D ((m μ st).sb μ k))(c:∀u st1 ρ1 H1 x,aU ρ H ρ1 H1->SR W.K ρ1 st1 H1->R1 ρ1 H1 u x->wS W E ρ1 H1 D (k u st1)->Q' x H1):tG W E R1 m σ H Q':=by
 refine⟨μ,ρ,st,rs,sr,?_⟩;cases e:m μ st with
 |ok u st1=>
  rw[e]at h;intro ρ1 H1 x e1 cS r1;exact c u st1 ρ1 H1 x e1 cS r1 (wS.mono h e1)
 |err c st1=>rw[e]at h;exact h
 |bad=>rw[e]at h;exact h
def bT:MB:=fun μ st=>.nx μ st
def aC(a b:MB):MB:=fun μ st=>match a μ st with
 |.nx μ' ar=>b μ' ar
 |r=>r
def iB(m:ME):MB:=fun μ st=>(m μ st).sb μ fun _ ar=>.nx μ ar
def bG(m:ME):MB:=fun μ st=>(m μ st).sb μ fun v ar=>.rt v ar
def ij(t:MT)(a b:MB):MB:=fun μ st=>(t μ st).sb μ fun k ar=>match k with
 |true=>a μ ar
 |false=>b μ ar
def aO(i:Nat)(m:ME):MB:=fun μ st=>(m μ st).sb μ fun v ar=>.nx (μ.set i (some v)) ar
def iS(c:Str)(m:MA):MB:=fun μ st=>(m μ st).sb μ fun vs ar=>if vs.length<=sizeLine then .er c μ ar else .bad
section
variable{X:Cx}{E:XK}{pos:Pos}{s1:Stmt}{rest:List Stmt}{e:Expr}{m:ME}{a b:MB}
theorem Ng:kx X [] (tS X E bT):=kx.imp H9 fun D σ H⟨μ,ρ,st,rs,sr,h⟩=>h ρ H σ (aU.refl _ _) sr rs
theorem wY(h1:PS X s1 (tS X E a))(h2:kx X rest (tS X E b)):kx X (s1::rest) (tS X E (aC a b)):=by
 refine kx.imp (Et h1 h2) ?_;rintro D σ H ⟨μ,ρ,st,rs,sr,h⟩;refine⟨μ,ρ,st,rs,sr,?_⟩;unfold aC at h;cases e:a μ st with
 |nx μ' ar=>
  rw[e]at h;intro ρ1 H1 σ1 e1 cS O2;exact⟨μ',ρ1,ar,O2,cS,wS.mono h e1⟩
 |rt v ar=>rw[e]at h;exact h
 |bk μ' ar=>rw[e]at h;exact h
 |ct μ' ar=>rw[e]at h;exact h
 |er c μ' ar=>rw[e]at h;exact h
 |bad=>rw[e]at h;exact h
theorem AA(h1:PS X s1 (tS X E a)):kx X [s1] (tS X E a):=H_ h1
theorem Jg(he:PE X e (tE X E m))(hs:swapsWith e none pos.line X.env=pure false:=by rfl):PS X (.Expr e pos) (tS X E (iB m)):=by refine PS.imp (H! he hs) ?_;rintro D σ H ⟨μ,ρ,st,rs,sr,h⟩;exact z? μ ρ st rs sr h fun u st1 ρ1 H1 x e1 cS r1 h1=>h1 ρ1 H1 σ (aU.refl _ _) cS (rs.mono e1)
theorem FA(he:PE X e (tE X E m)):PS X (.Return (some e) pos) (tS X E (bG m)):=by refine PS.imp (L5 he) ?_;rintro D σ H ⟨μ,ρ,st,rs,sr,h⟩;exact z? μ ρ st rs sr h fun u st1 ρ1 H1 x e1 cS r1 h1=>h1 ρ1 H1 x (aU.refl _ _) cS r1
theorem QO{c:Expr}{sa sb:List Stmt}{t:MT}(hc:PT X c (tT X E t))(ha:kx X sa (tS X E a))(hb:kx X sb (tS X E b)):PS X (.If c sa sb pos) (tS X E (ij t a b)):=by
 refine PS.imp (Pr hc ha hb) ?_;rintro D σ H ⟨μ,ρ,st,rs,sr,h⟩;refine z? (R1:=RB) μ ρ st rs sr h fun u st1 ρ1 H1 x e1 cS r1 h1=>?_;cases r1;cases u with
 |true=>rw[VD rfl];exact⟨μ,ρ1,st1,rs.mono e1,cS,h1⟩
 |false=>rw[VI VM];exact⟨μ,ρ1,st1,rs.mono e1,cS,h1⟩
theorem yH{i:Nat}{D:Ends}{σ:St}{H:Hp}(h:tS X E (aO i m) D σ H):Ic (tE X E m) (yk i) D σ H:=by obtain⟨μ,ρ,st,rs,sr,h⟩:=h;exact z? μ ρ st rs sr h fun u st1 ρ1 H1 x e1 cS r1 h1=>h1 ρ1 H1 _ (aU.refl _ _) cS ((rs.mono e1).set i r1)
theorem Nh(i:Nat){x:Str}{pos':Pos}(hN:X.N.Nodup)(he:PE X e (tE X E m))(hi:X.N[i]?=some x:=by rfl)(hx:Loc X.env.scope x:=by first|exact Or.inl rfl|exact Or.inr rfl)(hs:swapsWith e (some (.Name x pos')) pos.line X.env=pure false:=by rfl)(hf:X.fn x=true\/X.env.scope.names.lookup x=some .local:=by first|exact .inl rfl|exact .inr rfl|assumption):PS X (.Assign [.Name x pos'] e pos) (tS X E (aO i m)):=
 PS.imp (L_ hN hi hx he hs hf) fun _ _ _ h=>yH h
theorem FC{x:Str}{C:Z4}{B newId Av:String}{bm:ZY}{np dS:Pos}{e₀:Expr}{es:List Expr}{ms:MA}(hX:Raises X E)(hc:X.calm=true)(hm:X.mg x=some (.ref C))(hq:W.excIn X.K C bm newId=true)(FB:ExcBaseFacts B newId Av bm)(hg:Gl X x)(ha:PA X (e₀::es) (tL X E ms))(he:starEach (e₀::es) X.env=(false,eval e₀ X.env)::starEach es X.env:=by rfl)(m6:(backTo dS (starEach es X.env)).any (·.1)=false:=by rfl)(hd:(x==("__debug__":Str))=false:=by decide):
  PS X (.Raise (some (.Call (.Name x np) (e₀::es) [] dS)) none pos) (tS X E (iS x ms)):=by
 refine PS.imp (Fh (E:=E) hX hc hm hq FB hg ha he m6 hd) ?_;rintro D σ H ⟨μ,ρ,st,rs,sr,h⟩;refine z? (R1:=bE X.K) μ ρ st rs sr h fun us st1 ρ1 H1 xs e1 cS r1 h1=>?_;by_cases hz:us.length<=sizeLine
 .rw[VD hz]at h1;obtain⟨C',q1,q2⟩:=h1;have e:C'=C:=by have:=q1.symm.trans hm;injection this with this;injection this
  subst e;exact⟨by rw[<-r1.length];exact hz,q2 ρ1 H1 (aU.refl _ _) cS⟩
 .rw[VI hz]at h1;exact h1.elim
end
def gO(np n:Nat)(body:MB):FN:=fun us st=>if us.length=np then(match body (us.map some++List.replicate (n-np) none) st with
 |.nx _ ar=>.ok .dg ar
 |.rt v ar=>.ok v ar
 |.er c _ ar=>.err c ar
 |_=>.bad)else .bad
theorem RS.start{W:Wo}{ρ:Z0}{H:Hp}{N:Z1}{us:List ah}{vs:List V}(r:bE W.K ρ H us vs):RS W ρ H (us.map some++List.replicate (N.length-us.length) none) (L2.start N vs):=by
 have hl:=r.length;refine⟨by simp[L2.start,hl],fun i u e=>?_⟩;rcases WG i us.length with q|q
 .rw[V0 (by rw[Vl];exact q),VG]at e;have e':us[i]?=some u:=by
   cases z:us[i]? with
   |none=>rw[z]at e;cases e
   |some w=>rw[z]at e;exact W2 _ (VR (VR e))
  obtain⟨v,h1,h2⟩:=r.get e';refine⟨v,?_,BU.of h2⟩;unfold L2.start;rw[V0 (by rw[Vl,<-hl];exact q),VG,h1];rfl
 .rw[VP (by rw[Vl];exact q)]at e;rw[Wz]at e;split at e
  .cases e
  .cases e
section
variable{P:Z6}{w:World}{K:ZW}{mg:ZU}{base:Heap}
theorem FD{x qual:Str}{st:Stmt}{f:Z4}{fd:FuncData}{N ps:Z1}{k:Nat}{body:MB}(F:IK K x qual st f fd)(S:gY N ps (a_ st))
  (h:∀ (fV:Z2) (A:Z5) (outer:List PySem.Env) (s:Z3) (H:Hp) (E:XK),gK k (A.deeper (envOfC qual (a_ st) s.heap.objs.size f fV)) ->
   kx (jr (nK P w) P w K mg base N qual (a_ st) f fV A outer s H E) (e_ st) (tS (jr (nK P w) P w K mg base N qual (a_ st) f fV A outer s H E) E body)):
  kE P w K mg base (nK P w) (k+1) f fd ps (Fx ⟨K,mg,[]⟩ (gO ps.length N.length body)):=by
 refine F.okX S (fun vs H Q E q=>?_) (fun fV A outer s H vs Q E hr q=>⟨_,h fV A outer s H E hr,?_⟩)
 .obtain⟨us,ρ,st,r,sr,q⟩:=q;by_cases hl:us.length=ps.length
  .rw[<-r.length];exact hl
  .unfold gO at q;rw[VI hl]at q;exact q.elim
 .obtain⟨us,ρ,ar,r,sr,q⟩:=q;unfold gO at q;by_cases hl:us.length=ps.length
  .rw[VD hl,<-hl]at q;refine⟨_,ρ,ar,RS.start r,sr,?_⟩;revert q;cases body (us.map some++List.replicate (N.length-us.length) none) ar with
   |nx μ cJ=>exact fun q ρ' H' σ' e s _=>q ρ' H' .dg e s Rl.BS
   |rt v cJ=>exact fun q=>q
   |er c μ cJ=>exact fun q=>q
   |bk μ cJ=>exact fun q=>q.elim
   |ct μ cJ=>exact fun q=>q.elim
   |bad=>exact fun q=>q.elim
  .rw[VI hl]at q;exact q.elim
end
def Sz(i:Int):Prop:=i.natAbs.log2<1000000
instance (i:Int):Decidable (Sz i):=inferInstanceAs (Decidable (_<_))
theorem Sz.big{i:Int}(h:Sz i):qK 1000001 i:=by show _<_;have h1:i.natAbs<2 ^ (i.natAbs.log2+1):=ZG;exact VJ h1 (X_ (by decide) (by have:i.natAbs.log2<1000000:=h;lia))
theorem Sz.of{k:Nat}{i:Int}(h:qK k i)(hk:k<=1000000):Sz i:=by
 show i.natAbs.log2<1000000;have h':i.natAbs<2 ^ k:=h;by_cases z:i.natAbs=0
 .rw[z];decide
 .exact VJ ((Yr z).mpr h') hk
theorem Sz.mul{i j:Int}(h:Sz i)(k:Sz j):BL i j:=⟨_,_,h.big,k.big,by decide,by decide⟩
def Dz(i:Int):Prop:=i≠0/\i.natAbs.log2<8000
instance (i:Int):Decidable (Dz i):=inferInstanceAs (Decidable (_/\_))
theorem Dz.ok{i j:Int}(h:Dz j):BM i j:=by refine⟨h.1,?_⟩;show _<_;have h1:j.natAbs<2 ^ (j.natAbs.log2+1):=ZG;exact VJ h1 (X_ (by decide) (by have:=h.2;lia))
theorem Dz.of{k:Nat}{i:Int}(h0:i≠0)(h:qK k i)(hk:k<=8000):Dz i:=by refine⟨h0,?_⟩;have h':i.natAbs<2 ^ k:=h;exact VJ ((Yr (by lia)).mpr h') hk
def MulOk(i j:Int):Prop:=(Sz i/\Sz j)\/Ez i j
instance (i j:Int):Decidable (Ez i j):=inferInstanceAs (Decidable (_\/_))
instance (i j:Int):Decidable (MulOk i j):=inferInstanceAs (Decidable (_\/_))
instance (i j:Int):Decidable (Ey i j):=inferInstanceAs (Decidable (_/\_/\_))
def jB(k:Nat)(us:List ah):List ah:=(List.replicate k us).flatten
def bU:F2
 |.int i,.int j,st=>.ok (.int (i+j)) st
 |.str a,.str b,st=>if a.length+b.length<=sizeLine then .ok (.str (a++b)) st else .bad
 |.tup us,.tup ws,st=>if us.length+ws.length<=sizeLine then .ok (.tup (us++ws)) st else .bad
 |.loc n,.loc m,st=>match st[n]?,st[m]? with
  |some (.lst us),some (.lst ws)=>if us.length+ws.length<=sizeLine then .ok (.loc st.length) (st++[.lst (us++ws)])else .bad
  |_,_=>.bad
 |_,_,_=>.bad
def qO(g:Int->Int->ag->dh ah):F2
 |.int i,.int j,st=>g i j st
 |_,_,_=>.bad
theorem BX(g:Int->Int->ag->dh ah)(u w:ah)(st:ag):(∃i j,u=.int i/\w=.int j)\/qO g u w st=.bad:=by
 cases u with
 |int i=>
  cases w with
  |int j=>exact .inl ⟨i,j,rfl,rfl⟩
  |_=>exact .inr rfl
 |_=>exact .inr rfl
theorem iJ{g:Int->Int->ag->dh ah}{W:Wo}{E:XK}{ρ:Z0}{st:ag}{H:Hp}{Q:VK}{u w:ah}(h:wR W E (Rl W.K) ρ H Q (qO g u w st)):∃i j,u=.int i/\w=.int j/\wR W E (Rl W.K) ρ H Q (g i j st):=by
 rcases BX g u w st with⟨i,j,rfl,rfl⟩|z
 .exact⟨i,j,rfl,rfl,h⟩
 .rw[z]at h;exact h.elim
def gP:F2:=qO fun i j st=>.ok (.int (i-j)) st
def bV:F2
 |.int i,.int j,st=>if MulOk i j then .ok (.int (i*j)) st else .bad
 |.loc n,.int k,st=>match st[n]? with
  |some (.lst us)=>if -(2 ^ 63)<=k/\k<2 ^ 63/\us.length*k.toNat<=sizeLine then .ok (.loc st.length) (st++[.lst (jB k.toNat us)])else .bad
  |_=>.bad
 |_,_,_=>.bad
def c_:F2:=qO fun i j st=>if Dz j then .ok (.int (i.fdiv j)) st else .bad
def bW:F2:=qO fun i j st=>if j=0 then .bad else .ok (.int (i.fmod j)) st
def Jh:F2:=qO fun i j st=>if Ey i j then .ok (.int (i ^ j.toNat)) st else .bad
def ltV:F2:=qO fun i j st=>.ok (.bl (decide (i<j))) st
def Ji:F2:=qO fun i j st=>.ok (.bl (decide (i<=j))) st
def uX:F2:=qO fun i j st=>.ok (.bl (decide (j<i))) st
def geV:F2:=qO fun i j st=>.ok (.bl (decide (j<=i))) st
theorem FE:Tells Ji:=fun u w st=>(BX _ u w st).elim (fun⟨_,_,e1,e2⟩=>.inr (by rw[e1,e2];exact⟨_,rfl⟩)) .inl
section
variable{X:Cx}{E:XK}
theorem eo{W:Wo}{ρ:Z0}{st:ag}{H:Hp}{Q:VK}{i:Int}(sr:SR W.K ρ st H)(h:wR W E (Rl W.K) ρ H Q (.ok (.int i) st)):Q (.int i) H:=h ρ H _ (aU.refl _ _) sr (Rl.mkInt i)
theorem fv{W:Wo}{ρ:Z0}{st:ag}{H:Hp}{Q:VK}{i:Bool}(sr:SR W.K ρ st H)(h:wR W E (Rl W.K) ρ H Q (.ok (.bl i) st)):Q (.bl i) H:=h ρ H _ (aU.refl _ _) sr (Rl.Dp i)
theorem bE.QP{K:ZW}{ρ:Z0}{H:Hp}{us:List ah}{xs:List V}(r:bE K ρ H us xs):∀k:Nat,bE K ρ H (jB k us) (List.replicate k xs).flatten
 |0=>bE.nil
 |k+1=>by unfold jB;rw[Vy,Vy,W',W'];exact r.append (bE.QP r k)
theorem FG:eY X (binaryOp .Add) (fun x y H Q=>∃a b ys,x=.ref a/\y=.ref b/\mY X.K H a []/\mY X.K H b ys/\Q (.ref b) H):=by
 intro ae s σ H x y v u Q I rx ry h;obtain⟨a,b,ys,rfl,rfl,ha,hb,q⟩:=h;cases rx;cases ry;obtain⟨aV,r1,p1,_⟩:=I.tuple ha;obtain⟨fY,r2,p2,_⟩:=I.tuple hb;cases r1;obtain⟨⟨cls,dd,data,sl⟩,ho,hc,n,hd⟩:=id p1;obtain⟨⟨Uo,Ss,data2,PZ⟩,Mq,P0,n2,hd2⟩:=id p2;simp only at hc hd P0 hd2;subst hc hd P0 hd2;exact ZD ⟨_,ho,rfl⟩ ⟨_,Mq,rfl⟩ YM Zd X1 XX (XS _ _)
  (tuple_addW0 a b #[] fY.toArray n n2 dd Ss sl PZ (by simp)) ⟨ho,Mq,⟨.ref b,H,I,rfl,q⟩⟩
theorem Jj:eY X (binaryOp .Add) (rM (wo X) E bU):=by
 refine eY.imp (eY.or Md (eY.or Ah (eY.or Mz (eY.or IB FG)))) ?_;rintro x y H Q ⟨ρ,st,u,w,sr,r1,r2,h⟩;cases u<;>cases w<;>try exact h.elim
 case int.int i j=>exact .inl ⟨i,j,r1.cT,r2.cT,eo sr h⟩
 case str.str a b=>
  unfold bU at h;dsimp only at h;split at h
  .rename_i hz;exact .inr (.inl ⟨a,b,r1.jS,r2.jS,hz,h ρ H _ (aU.refl _ _) sr (Rl.mkStr _)⟩)
  .exact h.elim
 case tup.tup us ws=>
  unfold bU at h;dsimp only at h;split at h
  .rename_i hz;obtain⟨a,xs,rfl,ha,ra⟩:=r1.iH;obtain⟨b,ys,rfl,hb,rb⟩:=r2.iH;by_cases hx:xs=[]
   .subst hx;have hu:us=[]:=Wa ra.length;subst hu;exact .inr (.inr (.inr (.inr ⟨a,b,ys,rfl,rfl,ha,hb,h ρ H _ (aU.refl _ _) sr r2⟩)))
   .refine .inr (.inr (.inr (.inl ⟨a,b,xs,ys,rfl,rfl,ha,hb,hx,by rw[<-ra.length,<-rb.length];exact hz,fun hy=>?_,fun hy p hp=>?_⟩)))
    .subst hy;have hw:ws=[]:=Wa rb.length;subst hw;rw[V3]at h;exact h ρ H _ (aU.refl _ _) sr r1
    .have s:=eI (o:=.tup (xs++ys)) hp;exact h ρ _ _ (aU.same s) (sr.grow s) (Rl.vN dr (bE.mono (aU.same s) _ _ (ra.append rb)))
  .exact h.elim
 case loc.loc n m=>
  unfold bU at h;dsimp only at h;split at h
  .rename_i us ws e1 e2;split at h
   .rename_i hz;obtain⟨a,rfl,ha⟩:=r1.fC;obtain⟨b,rfl,hb⟩:=r2.fC;obtain⟨xs,h1,q1⟩:=sr.cell n _ a e1 ha;obtain⟨ys,h2,q2⟩:=sr.cell m _ b e2 hb;refine .inr (.inr (.inl ⟨a,b,xs,ys,rfl,rfl,h1,h2,by rw[<-q1.length,<-q2.length];exact hz,fun p hp=>?_⟩));obtain⟨k1,k2,k3⟩:=iI sr (q1.append q2) hp;exact h _ _ _ k1 k2 k3
   .exact h.elim
  .exact h.elim
theorem Jk:eY X (binaryOp .Sub) (rM (wo X) E gP):=by refine eY.imp Me ?_;rintro x y H Q ⟨ρ,st,u,w,sr,r1,r2,h⟩;obtain⟨i,j,rfl,rfl,q⟩:=iJ h;exact⟨i,j,r1.cT,r2.cT,eo sr q⟩
theorem Jl:eY X (binaryOp .Mult) (rM (wo X) E bV):=by
 refine eY.imp (eY.or IS (eY.or Mf MC)) ?_;rintro x y H Q ⟨ρ,st,u,w,sr,r1,r2,h⟩;cases u<;>cases w<;>try exact h.elim
 case int.int i j=>
  unfold bV at h;dsimp only at h;split at h
  .rename_i hz;rcases hz with hz|hz
   .exact .inl ⟨i,j,r1.cT,r2.cT,hz.1.mul hz.2,eo sr h⟩
   .exact .inr (.inl ⟨i,j,r1.cT,r2.cT,hz,eo sr h⟩)
  .exact h.elim
 case loc.int n k=>
  unfold bV at h;dsimp only at h;split at h
  .rename_i us e1;split at h
   .rename_i hz;obtain⟨a,rfl,ha⟩:=r1.fC;obtain⟨xs,h1,q1⟩:=sr.cell n _ a e1 ha;refine .inr (.inr ⟨a,k,xs,rfl,r2.cT,h1,hz.1,hz.2.1,by rw[<-q1.length];exact hz.2.2,fun p hp=>?_⟩);obtain⟨k1,k2,k3⟩:=iI sr (q1.QP k.toNat) hp;exact h _ _ _ k1 k2 k3
   .exact h.elim
  .exact h.elim
theorem FH:eY X (binaryOp .FloorDiv) (rM (wo X) E c_):=by
 refine eY.imp E6 ?_;rintro x y H Q ⟨ρ,st,u,w,sr,r1,r2,h⟩;obtain⟨i,j,rfl,rfl,h0⟩:=iJ h;clear h;have h:=h0;clear h0
 .split at h
  .rename_i hz;exact⟨i,j,r1.cT,r2.cT,hz.ok,eo sr h⟩
  .exact h.elim
theorem Jm:eY X (binaryOp .Mod) (rM (wo X) E bW):=by
 refine eY.imp Ik ?_;rintro x y H Q ⟨ρ,st,u,w,sr,r1,r2,h⟩;obtain⟨i,j,rfl,rfl,h0⟩:=iJ h;clear h;have h:=h0;clear h0
 .split at h
  .exact h.elim
  .rename_i hz;exact⟨i,j,r1.cT,r2.cT,hz,eo sr h⟩
theorem Jn:eY X (binaryOp .Pow) (rM (wo X) E Jh):=by
 refine eY.imp Mg ?_;rintro x y H Q ⟨ρ,st,u,w,sr,r1,r2,h⟩;obtain⟨i,j,rfl,rfl,h0⟩:=iJ h;clear h;have h:=h0;clear h0
 .split at h
  .rename_i hz;exact⟨i,j,r1.cT,r2.cT,hz,eo sr h⟩
  .exact h.elim
theorem AB:eY X (compareOp .Lt) (rM (wo X) E ltV):=by refine eY.imp PN ?_;rintro x y H Q ⟨ρ,st,u,w,sr,r1,r2,h⟩;obtain⟨i,j,rfl,rfl,q⟩:=iJ h;exact⟨i,j,r1.cT,r2.cT,fv sr q⟩
theorem AD:eY X (compareOp .LtE) (rM (wo X) E Ji):=by refine eY.imp PQ ?_;rintro x y H Q ⟨ρ,st,u,w,sr,r1,r2,h⟩;obtain⟨i,j,rfl,rfl,q⟩:=iJ h;exact⟨i,j,r1.cT,r2.cT,fv sr q⟩
theorem FI:eY X (compareOp .Gt) (rM (wo X) E uX):=by refine eY.imp PR ?_;rintro x y H Q ⟨ρ,st,u,w,sr,r1,r2,h⟩;obtain⟨i,j,rfl,rfl,q⟩:=iJ h;exact⟨i,j,r1.cT,r2.cT,fv sr q⟩
def iK(m:ME):ME:=fun μ st=>(m μ st).bind fun v ar=>match v with
 |.int i=>.ok (.int (-i)) ar
 |_=>.bad
theorem Ni{a:Expr}{m:ME}{pos:Pos}(h:PE X a (tE X E m)):PE X (.UnaryOp .USub a pos) (tE X E (iK m)):=by
 refine PE.imp (PK Mh h) ?_;rintro σ H Q ⟨μ,ρ,st,rs,sr,h⟩;refine go μ ρ st rs sr h fun u st1 ρ1 H1 x e1 cS r1 h1=>?_;cases u with
 |int i=>exact⟨i,r1.cT,eo cS h1⟩
 |_=>exact h1.elim
end
def flat:ah->Bool
 |.dg=>true
 |.bl _=>true
 |.int _=>true
 |.str _=>true
 |_=>false
def Nj:ah->ah->Bool
 |.dg,.dg=>true
 |.bl a,.bl b=>a==b
 |.bl a,.int b=>(if a then 1 else 0)==b
 |.int a,.bl b=>a==(if b then 1 else 0)
 |.int a,.int b=>a==b
 |.str a,.str b=>a==b
 |_,_=>false
def ak(st:ag)(n:Nat):Option (List ah):=match st[n]? with
 |some (.lst us)=>some us
 |some (.M5 us)=>some us
 |some (.mod us)=>some us
 |_=>none
inductive Vw where
 |lst (us:List ah)|tup (us:List ah)|rL
def vw(st:ag):ah->Option Vw
 |.tup us=>some (.tup us)
 |.loc n=>(ak st n).map .lst
 |.dg=>some .rL
 |.bl _=>some .rL
 |.int _=>some .rL
 |.str _=>some .rL
 |_=>none
def g9(f:ah->ah->Option Bool):List ah->List ah->Option Bool
 |[],[]=>some true
 |x::xs,y::ys=>match f x y,g9 f xs ys with
  |some a,some b=>some (a&&b)
  |_,_=>none
 |[],_::_=>some false
 |_::_,[]=>some false
def jL:Nat->ag->ah->ah->Option Bool
 |0,_,_,_=>none
 |n+1,st,u,w=>match vw st u,vw st w with
  |some (.tup us),some (.tup ws)=>g9 (jL n st) us ws
  |some (.lst us),some (.lst ws)=>g9 (jL n st) us ws
  |some .rL,some .rL=>some (Nj u w)
  |some _,some _=>some false
  |_,_=>none
theorem s?{f:ah->ah->Option Bool}:∀{us ws:List ah}{b:Bool},g9 f us ws=some b->us.length≠ws.length->b=false
 |[],[],_,_,h=>absurd rfl h
 |[],_::_,b,e,_=>by injection e with e;exact e.symm
 |_::_,[],b,e,_=>by injection e with e;exact e.symm
 |x::xs,y::ys,b,e,h=>by
  unfold g9 at e;split at e
  .rename_i a c h1 h2;injection e with e;rw[<-e,s? h2 (fun z=>h (by simp[z])),Bool.and_false]
  .cases e
theorem BY{f:ah->ah->Option Bool}:∀{us ws:List ah}{b:Bool},g9 f us ws=some b->∀(j:Nat)(u w:ah),us[j]?=some u->ws[j]?=some w->∃c,f u w=some c
 |[],_,_,_,j,u,w,h1,_=>by cases h1
 |_::_,[],_,_,j,u,w,_,h2=>by cases h2
 |x::xs,y::ys,b,e,j,u,w,h1,h2=>by
  unfold g9 at e;split at e
  .rename_i a c q1 q2;cases j with
   |zero=>cases h1;cases h2;exact⟨a,q1⟩
   |succ j=>exact BY q2 j u w h1 h2
  .cases e
def SU(f:ah->ah->Option Bool)(us ws:List ah)(j:Nat):Bool:=match us[j]?,ws[j]? with
 |some u,some w=>(f u w).getD true
 |_,_=>true
theorem tf{f:ah->ah->Option Bool}:∀{us ws:List ah}{b:Bool},g9 f us ws=some b->us.length=ws.length->(List.range us.length).all (SU f us ws)=b
 |[],[],b,e,_=>by injection e
 |[],_::_,_,_,h=>by simp at h
 |_::_,[],_,_,h=>by simp at h
 |x::xs,y::ys,b,e,h=>by
  have h':xs.length=ys.length:=by simpa using h
  unfold g9 at e;split at e
  .rename_i a c q1 q2;injection e with e;rw[Vk,Y1,XM,List.all_map,<-e,<-tf q2 h'];congr 1;show(f x y).getD true=a;rw[q1];rfl
  .cases e
section
variable{X:Cx}{ae:ZV}{σ:St}{H:Hp}{s:Z3}{ρ:Z0}{st:ag}
theorem bH(sr:SR X.K ρ st H){n:Nat}{us:List ah}{a:Z4}(h:ak st n=some us)(ha:ρ[n]?=some a):∃vs,l? X.K H a vs/\bE X.K ρ H us vs:=by
 unfold ak at h;split at h
 .rename_i ws e;cases h;obtain⟨vs,h1,h2⟩:=sr.cell n _ a e ha;exact⟨vs,l?.of h1,h2⟩
 .rename_i ws e;cases h;obtain⟨o,vs,h1,h2⟩:=sr.cell n _ a e ha;exact⟨vs,.inl (.inr ⟨o,h1⟩),h2⟩
 .rename_i ws e;cases h;obtain⟨vs,h1,h2⟩:=sr.cell n _ a e ha;exact⟨vs,.inr h1,h2⟩
 .cases h
theorem BZ(I:aX X ae σ H s)(sr:SR X.K ρ st H):∀(n:Nat)(u w:ah)(x:V)(b:Bool),Rl X.K ρ H u x->Rl X.K ρ H w x->jL n st u w=some b->b=true
 |0,_,_,_,_,_,_,e=>by cases e
 |n+1,u,w,x,b,r1,r2,e=>by
  have lst:∀(us ws:List ah)(vs:List V)(b:Bool),bE X.K ρ H us vs->bE X.K ρ H ws vs->g9 (jL n st) us ws=some b->b=true:=by
   intro us
   induction us with
   |nil=>
    intro ws vs b h1 h2 e;have:=h1.gM;subst this;have hw:ws=[]:=Wa h2.length;subst hw;injection e with e;exact e.symm
   |cons u us ih=>
    intro ws vs b h1 h2 e;obtain⟨v,r,rfl,q1,q2⟩:=h1.dM;cases ws with
    |nil=>have:=h2.gM;cases this
    |cons w ws=>
     obtain⟨v',r',e',q3,q4⟩:=h2.dM;cases e';unfold g9 at e;split at e
     .rename_i a c z1 z2;injection e with e;rw[<-e,BZ I sr n u w v a q1 q3 z1,ih ws r c q2 q4 z2];rfl
     .cases e
  unfold jL at e;cases u<;>cases w<;>dsimp only[vw]at e<;>try (cases e;done)
  all_goals first
   |(have z1:=Rl.cT r1;subst z1;have z2:=Rl.cT r2;cases z2;injection e with e;rw[<-e];exact W3 _)
   |(have z1:=Rl.ql r1;subst z1;have z2:=Rl.ql r2;cases z2;injection e with e;rw[<-e];exact W3 _)
   |(have z1:=Rl.jS r1;subst z1;have z2:=Rl.jS r2;cases z2;injection e with e;rw[<-e];exact W3 _)
   |(have z1:=Rl.ig r1;subst z1;injection e with e;exact e.symm)
   |skip
  case tup.tup us ws=>
   obtain⟨a,vs,rfl,ha,ra⟩:=r1.iH;obtain⟨a',Nk,ea,hb,rb⟩:=r2.iH;cases ea;have:=I.mj ha hb;subst this;exact lst us ws vs b ra rb e
  case loc.loc i j=>
   obtain⟨a,rfl,ha⟩:=r1.fC;obtain⟨a',ea,hb⟩:=r2.fC;cases ea;cases z:ak st i with
   |none=>rw[z]at e;cases e
   |some us=>
    cases z2:ak st j with
    |none=>rw[z,z2]at e;cases e
    |some ws=>
     rw[z,z2]at e;obtain⟨vs,s1,rv⟩:=bH sr z ha;obtain⟨Nk,s2,rv'⟩:=bH sr z2 hb;have:=I.nO s1 s2;subst this;exact lst us ws vs b rv rv' e
  all_goals (exfalso;first
   |(have z1:=Rl.cT r1;subst z1;first|(have z2:=Rl.ql r2;cases z2;done)|(have z2:=Rl.jS r2;cases z2;done)|(have z2:=Rl.ig r2;cases z2;done)|(obtain⟨_,_,z2,_⟩:=r2.iH;cases z2;done)|(obtain⟨_,z2,_⟩:=r2.fC;cases z2;done))
   |(have z1:=Rl.ql r1;subst z1;first|(have z2:=Rl.cT r2;cases z2;done)|(have z2:=Rl.jS r2;cases z2;done)|(have z2:=Rl.ig r2;cases z2;done)|(obtain⟨_,_,z2,_⟩:=r2.iH;cases z2;done)|(obtain⟨_,z2,_⟩:=r2.fC;cases z2;done))
   |(have z1:=Rl.jS r1;subst z1;first|(have z2:=Rl.cT r2;cases z2;done)|(have z2:=Rl.ql r2;cases z2;done)|(have z2:=Rl.ig r2;cases z2;done)|(obtain⟨_,_,z2,_⟩:=r2.iH;cases z2;done)|(obtain⟨_,z2,_⟩:=r2.fC;cases z2;done))
   |(have z1:=Rl.ig r1;subst z1;first|(have z2:=Rl.cT r2;cases z2;done)|(have z2:=Rl.ql r2;cases z2;done)|(have z2:=Rl.jS r2;cases z2;done)|(obtain⟨_,_,z2,_⟩:=r2.iH;cases z2;done)|(obtain⟨_,z2,_⟩:=r2.fC;cases z2;done))
   |(obtain⟨_,_,z1,_⟩:=r1.iH;subst z1;first|(have z2:=Rl.cT r2;cases z2;done)|(have z2:=Rl.ql r2;cases z2;done)|(have z2:=Rl.jS r2;cases z2;done)|(have z2:=Rl.ig r2;cases z2;done))
   |(obtain⟨_,z1,_⟩:=r1.fC;subst z1;first|(have z2:=Rl.cT r2;cases z2;done)|(have z2:=Rl.ql r2;cases z2;done)|(have z2:=Rl.jS r2;cases z2;done)|(have z2:=Rl.ig r2;cases z2;done))
   |skip)
  case tup.loc us j=>
   obtain⟨a,vs,rfl,ha,ra⟩:=r1.iH;obtain⟨a',ea,hb⟩:=r2.fC;cases ea;cases z:ak st j with
   |none=>rw[z]at e;cases e
   |some SV=>
    obtain⟨ws,hw,_⟩:=bH sr z hb;obtain⟨_,_,p1,_⟩:=I.tuple ha;obtain⟨_,_,p2,_⟩:=I.list hw;exact ZE p2.isList p1 rfl
  case loc.tup i us=>
   obtain⟨a,rfl,ha⟩:=r1.fC;obtain⟨a',vs,ea,hb,rb⟩:=r2.iH;cases ea;cases z:ak st i with
   |none=>rw[z]at e;cases e
   |some SV=>
    obtain⟨ws,hw,_⟩:=bH sr z ha;obtain⟨_,_,p1,_⟩:=I.tuple hb;obtain⟨_,_,p2,_⟩:=I.list hw;exact ZE p2.isList p1 rfl
  all_goals (cases z:ak st _<;>rw[z]at e<;>cases e)
def FJ(X:Cx)(ρ:Z0)(H:Hp)(s:Z3):Vw->ah->Z2->Prop
 |.tup us,_,v=>∃a aV vs,v=.ref a/\s.heap.IsTuple a (List.toArray aV)/\bA vs aV/\bE X.K ρ H us vs
 |.lst us,_,v=>∃a aV vs,v=.ref a/\s.heap.IsList a (List.toArray aV)/\bA vs aV/\bE X.K ρ H us vs
 |.rL,u,v=>(u=.dg/\v=.none)\/(∃b,u=.bl b/\v=.bool b)\/(∃i t,u=.int i/\v=.int i t)\/(∃z t,u=.str z/\v=.str z t)
theorem seen(I:aX X ae σ H s)(sr:SR X.K ρ st H){u:ah}{x:V}{v:Z2}{k:Vw}(r:Rl X.K ρ H u x)(q:bK x v)(h:vw st u=some k):FJ X ρ H s k u v:=by
 cases u with
 |dg=>cases h;have:=r.ig;subst this;exact .inl ⟨rfl,q⟩
 |bl b=>cases h;have:=r.ql;subst this;exact .inr (.inl ⟨b,rfl,q⟩)
 |int i=>cases h;have:=r.cT;subst this;obtain⟨t,q⟩:=q;exact .inr (.inr (.inl ⟨i,t,rfl,q⟩))
 |str z=>cases h;have:=r.jS;subst this;obtain⟨t,q⟩:=q;exact .inr (.inr (.inr ⟨z,t,rfl,q⟩))
 |tup us=>
  cases h;obtain⟨a,vs,rfl,ha,ra⟩:=r.iH;obtain⟨aV,r1,p1,_⟩:=I.tuple ha;exact⟨a,aV,vs,q,p1,r1,ra⟩
 |loc n=>
  obtain⟨a,rfl,ha⟩:=r.fC;cases z:ak st n with
  |none=>simp only[vw,z]at h;cases h
  |some us=>
   simp only[vw,z]at h;cases h;obtain⟨vs,hs,rv⟩:=bH sr z ha;obtain⟨aV,r1,p1,_⟩:=I.list hs;exact⟨a,aV,vs,q,p1.isList,r1,rv⟩
 |exc c=>cases h
 |fn k c=>cases h
 |mt us=>cases h
theorem FK{A:Z5}{f:ah->ah->Option Bool}{us ws:List ah}{xs ys:List V}{aV fY:ZY}{b:Bool}(e:g9 f us ws=some b)(ra:bE X.K ρ H us xs)(rb:bE X.K ρ H ws ys)(va:bA xs aV)(vb:bA ys fY)(ih:∀u w x y vu vw c,Rl X.K ρ H u x->bK x vu->Rl X.K ρ H w y->bK y vw->f u w=some c->SeqAt.EqAt A s vu vw c):
  ∀j(h1:j<aV.toArray.size)(h2:j<fY.toArray.size),SeqAt.EqAt A s aV.toArray[j] fY.toArray[j] (SU f us ws j):=by
 intro j h1 h2;have l1:=va.length;have l2:=vb.length;have l3:=ra.length;have l4:=rb.length;simp only[VF]at h1 h2;have e1:us[j]?=some us[j]:=Vp (by lia);have e2:ws[j]?=some ws[j]:=Vp (by lia);obtain⟨x,hx,rx⟩:=ra.get e1;obtain⟨y,hy,ry⟩:=rb.get e2;obtain⟨u,hu,ru⟩:=va.get hx;obtain⟨v,hv,rv⟩:=vb.get hy;have q1:aV.toArray[j]=u:=by obtain⟨_,e⟩:=WK.mp hu;simpa using e
 have q2:fY.toArray[j]=v:=by obtain⟨_,e⟩:=WK.mp hv;simpa using e
 obtain⟨c,hc⟩:=BY e j _ _ e1 e2;rw[q1,q2];unfold SU;rw[e1,e2];dsimp only;rw[hc];exact ih _ _ _ _ _ _ c rx ru ry rv hc
theorem in1_units(A:Z5):A.in1.units=A.units+1:=by rfl
theorem Nl{A:Z5}(I:aX X ae σ H s)(sr:SR X.K ρ st H)(n:Nat)(ih:∀u w x y vu vw c,Rl X.K ρ H u x->bK x vu->Rl X.K ρ H w y->bK y vw->jL n st u w=some c->SeqAt.EqAt A.in1 s vu vw c)(hu:A.units<cLine){u w:ah}{x y:V}{v1 v2:Z2}{b:Bool}(r1:Rl X.K ρ H u x)(q1:bK x v1)(r2:Rl X.K ρ H w y)(q2:bK y v2)(e:jL (n+1) st u w=some b):SeqAt.RcAt A s v1 v2 b/\SeqAt.RcNeAt A s v1 v2 (!b):=by
 unfold jL at e;cases z1:vw st u with
 |none=>rw[z1]at e;cases e
 |some k1=>
  cases z2:vw st w with
  |none=>rw[z1,z2]at e;cases k1<;>cases e
  |some k2=>
   rw[z1,z2]at e;have s1:=seen I sr r1 q1 z1;have s2:=seen I sr r2 q2 z2;cases k1 with
   |tup us=>
    obtain⟨a,aV,xs,rfl,p1,va,ra⟩:=s1;cases k2 with
    |tup ws=>
     obtain⟨a2,fY,ys,rfl,p2,vb,rb⟩:=s2;have el:=FK e ra rb va vb ih;have l1:=va.length;have l2:=vb.length;have l3:=ra.length;have l4:=rb.length;have hb:((List.range (min aV.toArray.size fY.toArray.size)).all (SU (jL n st) us ws)&&aV.toArray.size==fY.toArray.size)=b:=by
      by_cases hl:us.length=ws.length
      .rw[show min aV.toArray.size fY.toArray.size=us.length by simp only[VF];lia,tf e hl,show(aV.toArray.size==fY.toArray.size)=true by simp only[VF,W9];lia,Bool.and_true]
      .rw[show(aV.toArray.size==fY.toArray.size)=false by simp only[VF,Xr];lia,Bool.and_false];exact(s? e hl).symm
     have g1:=SeqAt.RcAt.tuples p1 p2 hu el;have g2:=SeqAt.RcNeAt.tuples p1 p2 hu el;rw[hb]at g1 g2;exact⟨g1,g2⟩
    |lst ws=>
     obtain⟨a2,fY,ys,rfl,p2,vb,rb⟩:=s2;cases e;exact⟨SeqAt.RcAt.tuple_list p1 p2 hu,SeqAt.RcNeAt.tuple_list p1 p2 hu⟩
    |rL=>
     cases e;rcases s2 with⟨_,rfl⟩|⟨k,_,rfl⟩|⟨k,t,_,rfl⟩|⟨k,t,_,rfl⟩
     .exact⟨SeqAt.RcAt.tuple_none p1 hu,SeqAt.RcNeAt.tuple_none p1 hu⟩
     .exact⟨SeqAt.RcAt.tuple_bool _ p1 hu,SeqAt.RcNeAt.tuple_bool _ p1 hu⟩
     .exact⟨SeqAt.RcAt.tuple_int _ _ p1 hu,SeqAt.RcNeAt.tuple_int _ _ p1 hu⟩
     .exact⟨SeqAt.RcAt.tuple_str _ _ p1 hu,SeqAt.RcNeAt.tuple_str _ _ p1 hu⟩
   |lst us=>
    obtain⟨a,aV,xs,rfl,p1,va,ra⟩:=s1;cases k2 with
    |tup ws=>
     obtain⟨a2,fY,ys,rfl,p2,vb,rb⟩:=s2;cases e;exact⟨SeqAt.RcAt.list_tuple p1 p2 hu,SeqAt.RcNeAt.list_tuple p1 p2 hu⟩
    |lst ws=>
     obtain⟨a2,fY,ys,rfl,p2,vb,rb⟩:=s2;have l1:=va.length;have l2:=vb.length;have l3:=ra.length;have l4:=rb.length;by_cases hl:us.length=ws.length
     .have hs:aV.toArray.size=fY.toArray.size:=by simp only[VF];lia
      have el:=FK e ra rb va vb ih;have g1:=SeqAt.RcAt.lists p1 p2 hs hu el;have g2:=SeqAt.RcNeAt.lists p1 p2 hs hu el;rw[show aV.toArray.size=us.length by simp only[VF];lia,tf e hl]at g1 g2;exact⟨g1,g2⟩
     .have hs:(aV.toArray.size !=fY.toArray.size)=true:=by simp only[VF,bne_iff_ne];lia
      rw[s? e hl];exact⟨SeqAt.RcAt.lists_lengths p1 p2 hs hu,SeqAt.RcNeAt.lists_lengths p1 p2 hs hu⟩
    |rL=>
     cases e;rcases s2 with⟨_,rfl⟩|⟨k,_,rfl⟩|⟨k,t,_,rfl⟩|⟨k,t,_,rfl⟩
     .exact⟨SeqAt.RcAt.list_none p1 hu,SeqAt.RcNeAt.list_none p1 hu⟩
     .exact⟨SeqAt.RcAt.list_bool _ p1 hu,SeqAt.RcNeAt.list_bool _ p1 hu⟩
     .exact⟨SeqAt.RcAt.list_int _ _ p1 hu,SeqAt.RcNeAt.list_int _ _ p1 hu⟩
     .exact⟨SeqAt.RcAt.list_str _ _ p1 hu,SeqAt.RcNeAt.list_str _ _ p1 hu⟩
   |rL=>
    cases k2 with
    |tup ws=>
     obtain⟨a2,fY,ys,rfl,p2,vb,rb⟩:=s2;cases e;rcases s1 with⟨_,rfl⟩|⟨k,_,rfl⟩|⟨k,t,_,rfl⟩|⟨k,t,_,rfl⟩
     .exact⟨SeqAt.RcAt.none_tuple p2 hu,SeqAt.RcNeAt.none_tuple p2 hu⟩
     .exact⟨SeqAt.RcAt.bool_tuple _ p2 hu,SeqAt.RcNeAt.bool_tuple _ p2 hu⟩
     .exact⟨SeqAt.RcAt.int_tuple _ _ p2 hu,SeqAt.RcNeAt.int_tuple _ _ p2 hu⟩
     .exact⟨SeqAt.RcAt.str_tuple _ _ p2 hu,SeqAt.RcNeAt.str_tuple _ _ p2 hu⟩
    |lst ws=>
     obtain⟨a2,fY,ys,rfl,p2,vb,rb⟩:=s2;cases e;rcases s1 with⟨_,rfl⟩|⟨k,_,rfl⟩|⟨k,t,_,rfl⟩|⟨k,t,_,rfl⟩
     .exact⟨SeqAt.RcAt.none_list p2 hu,SeqAt.RcNeAt.none_list p2 hu⟩
     .exact⟨SeqAt.RcAt.bool_list _ p2 hu,SeqAt.RcNeAt.bool_list _ p2 hu⟩
     .exact⟨SeqAt.RcAt.int_list _ _ p2 hu,SeqAt.RcNeAt.int_list _ _ p2 hu⟩
     .exact⟨SeqAt.RcAt.str_list _ _ p2 hu,SeqAt.RcNeAt.str_list _ _ p2 hu⟩
    |rL=>
     injection e with e;subst e;rcases s1 with⟨rfl,rfl⟩|⟨i,rfl,rfl⟩|⟨i,t,rfl,rfl⟩|⟨i,t,rfl,rfl⟩<;>rcases s2 with⟨rfl,rfl⟩|⟨j,rfl,rfl⟩|⟨j,t',rfl,rfl⟩|⟨j,t',rfl,rfl⟩
     .exact⟨SeqAt.RcAt.none_none,SeqAt.RcNeAt.none_none⟩
     .exact⟨SeqAt.RcAt.none_bool _,SeqAt.RcNeAt.none_bool _⟩
     .exact⟨SeqAt.RcAt.none_int _ _,SeqAt.RcNeAt.none_int _ _⟩
     .exact⟨SeqAt.RcAt.none_str _ _,SeqAt.RcNeAt.none_str _ _⟩
     .exact⟨SeqAt.RcAt.bool_none _,SeqAt.RcNeAt.bool_none _⟩
     .exact⟨SeqAt.RcAt.bool_bool _ _,SeqAt.RcNeAt.bool_bool _ _⟩
     .exact⟨SeqAt.RcAt.bool_int _ _ _,SeqAt.RcNeAt.bool_int _ _ _⟩
     .exact⟨SeqAt.RcAt.bool_str _ _ _,SeqAt.RcNeAt.bool_str _ _ _⟩
     .exact⟨SeqAt.RcAt.int_none _ _,SeqAt.RcNeAt.int_none _ _⟩
     .exact⟨SeqAt.RcAt.int_bool _ _ _,SeqAt.RcNeAt.int_bool _ _ _⟩
     .exact⟨SeqAt.RcAt.int_int _ _ _ _,SeqAt.RcNeAt.int_int _ _ _ _⟩
     .exact⟨SeqAt.RcAt.int_str _ _ _ _,SeqAt.RcNeAt.int_str _ _ _ _⟩
     .exact⟨SeqAt.RcAt.str_none _ _,SeqAt.RcNeAt.str_none _ _⟩
     .exact⟨SeqAt.RcAt.str_bool _ _ _,SeqAt.RcNeAt.str_bool _ _ _⟩
     .exact⟨SeqAt.RcAt.str_int _ _ _ _,SeqAt.RcNeAt.str_int _ _ _ _⟩
     .exact⟨SeqAt.RcAt.str_str _ _ _ _,SeqAt.RcNeAt.str_str _ _ _ _⟩
theorem Jo{A:Z5}{u w:ah}{v1 v2:Z2}(s1:FJ X ρ H s .rL u v1)(s2:FJ X ρ H s .rL w v2):SeqAt.EqAt A s v1 v2 (Nj u w):=by
 rcases s1 with⟨rfl,rfl⟩|⟨i,rfl,rfl⟩|⟨i,t,rfl,rfl⟩|⟨i,t,rfl,rfl⟩<;>rcases s2 with⟨rfl,rfl⟩|⟨j,rfl,rfl⟩|⟨j,t',rfl,rfl⟩|⟨j,t',rfl,rfl⟩
 .exact YX _
 .exact SeqAt.EqAt.none_bool _
 .exact SeqAt.EqAt.none_int _ _
 .exact SeqAt.EqAt.none_str _ _
 .exact SeqAt.EqAt.bool_none _
 .exact SeqAt.EqAt.bool_bool _ _
 .exact SeqAt.EqAt.bool_int _ _ _
 .exact SeqAt.EqAt.bool_str _ _ _
 .exact SeqAt.EqAt.int_none _ _
 .exact SeqAt.EqAt.int_bool _ _ _
 .exact SeqAt.EqAt.int_int _ _ _ _
 .exact YA _ _ _ _
 .exact SeqAt.EqAt.str_none _ _
 .exact SeqAt.EqAt.str_bool _ _ _
 .exact Yz _ _ _ _
 .exact SeqAt.EqAt.str_str _ _ _ _
theorem AE(I:aX X ae σ H s)(sr:SR X.K ρ st H):∀(n:Nat)(A:Z5),A.units+n<cLine->∀(u w:ah)(x y:V)(v1 v2:Z2)(b:Bool),Rl X.K ρ H u x->bK x v1->Rl X.K ρ H w y->bK y v2->jL n st u w=some b->SeqAt.EqAt A s v1 v2 b
 |0,_,_,_,_,_,_,_,_,_,_,_,_,_,e=>by cases e
 |n+1,A,hu,u,w,x,y,v1,v2,b,r1,q1,r2,q2,e=>by
  have rc:=(Nl I sr n (fun u w x y vu vw c a1 a2 a3 a4 a5=>AE I sr n A.in1 (by rw[in1_units];lia) u w x y vu vw c a1 a2 a3 a4 a5) (by lia) r1 q1 r2 q2 e).1;have refs:∀a a2,v1=.ref a->v2=.ref a2->SeqAt.EqAt A s v1 v2 b:=by
   intro a a2 e1 e2;subst e1 e2;by_cases hn:a=a2
   .subst hn;have hx:x=y:=q1.inj q2;subst hx;rw[BZ I sr (n+1) u w x b r1 r2 e];exact YX _
   .exact SeqAt.EqAt.of_refs hn rc
  cases z1:vw st u with
  |none=>unfold jL at e;rw[z1]at e;cases e
  |some k1=>
   cases z2:vw st w with
   |none=>unfold jL at e;rw[z1,z2]at e;cases k1<;>cases e
   |some k2=>
    have s1:=seen I sr r1 q1 z1;have s2:=seen I sr r2 q2 z2;unfold jL at e;rw[z1,z2]at e;cases k1 with
    |tup us=>
     obtain⟨a,aV,xs,rfl,p1,va,ra⟩:=s1;cases k2 with
     |tup ws=>obtain⟨a2,fY,ys,rfl,p2,vb,rb⟩:=s2;exact refs a a2 rfl rfl
     |lst ws=>obtain⟨a2,fY,ys,rfl,p2,vb,rb⟩:=s2;exact refs a a2 rfl rfl
     |rL=>
      cases e;rcases s2 with⟨_,rfl⟩|⟨k,_,rfl⟩|⟨k,t,_,rfl⟩|⟨k,t,_,rfl⟩
      .exact SeqAt.EqAt.tuple_none p1 (by lia)
      .exact SeqAt.EqAt.tuple_bool _ p1 (by lia)
      .exact SeqAt.EqAt.tuple_int _ _ p1 (by lia)
      .exact SeqAt.EqAt.tuple_str _ _ p1 (by lia)
    |lst us=>
     obtain⟨a,aV,xs,rfl,p1,va,ra⟩:=s1;cases k2 with
     |tup ws=>obtain⟨a2,fY,ys,rfl,p2,vb,rb⟩:=s2;exact refs a a2 rfl rfl
     |lst ws=>obtain⟨a2,fY,ys,rfl,p2,vb,rb⟩:=s2;exact refs a a2 rfl rfl
     |rL=>
      cases e;rcases s2 with⟨_,rfl⟩|⟨k,_,rfl⟩|⟨k,t,_,rfl⟩|⟨k,t,_,rfl⟩
      .exact SeqAt.EqAt.list_none p1 (by lia)
      .exact SeqAt.EqAt.list_bool _ p1 (by lia)
      .exact SeqAt.EqAt.list_int _ _ p1 (by lia)
      .exact SeqAt.EqAt.list_str _ _ p1 (by lia)
    |rL=>
     cases k2 with
     |tup ws=>
      obtain⟨a2,fY,ys,rfl,p2,vb,rb⟩:=s2;cases e;rcases s1 with⟨_,rfl⟩|⟨k,_,rfl⟩|⟨k,t,_,rfl⟩|⟨k,t,_,rfl⟩
      .exact SeqAt.EqAt.none_tuple p2 (by lia)
      .exact SeqAt.EqAt.bool_tuple _ p2 (by lia)
      .exact SeqAt.EqAt.int_tuple _ _ p2 (by lia)
      .exact SeqAt.EqAt.str_tuple _ _ p2 (by lia)
     |lst ws=>
      obtain⟨a2,fY,ys,rfl,p2,vb,rb⟩:=s2;cases e;rcases s1 with⟨_,rfl⟩|⟨k,_,rfl⟩|⟨k,t,_,rfl⟩|⟨k,t,_,rfl⟩
      .exact SeqAt.EqAt.none_list p2 (by lia)
      .exact SeqAt.EqAt.bool_list _ p2 (by lia)
      .exact SeqAt.EqAt.int_list _ _ p2 (by lia)
      .exact SeqAt.EqAt.str_list _ _ p2 (by lia)
     |rL=>
      injection e with e;subst e;exact Jo s1 s2
def h!:F2:=fun u w st=>match jL 16 st u w with
 |some b=>.ok (.bl b) st
 |none=>.bad
def jV:F2:=fun u w st=>match jL 16 st u w with
 |some b=>.ok (.bl (!b)) st
 |none=>.bad
theorem FL{E:XK}(hu:X.A.units+64<cLine):eY X (compareOp .Eq) (rM (wo X) E h!):=by
 intro ae s σ H x y v u Q I rx ry h;obtain⟨ρ,st,u1,w1,sr,r1,r2,h⟩:=h;unfold h! at h;split at h
 .rename_i b e;exact(Nl I sr 15 (AE I sr 15 X.A.in1 (by rw[in1_units];lia)) (by lia) r1 rx r2 ry e).1 X.prog X.w X.xe (EP X ae σ Q) ⟨.bl b,H,I,rfl,fv sr h⟩
 .exact h.elim
theorem FO{E:XK}(hu:X.A.units+64<cLine):eY X (compareOp .NotEq) (rM (wo X) E jV):=by
 intro ae s σ H x y v u Q I rx ry h;obtain⟨ρ,st,u1,w1,sr,r1,r2,h⟩:=h;unfold jV at h;split at h
 .rename_i b e;exact(Nl I sr 15 (AE I sr 15 X.A.in1 (by rw[in1_units];lia)) (by lia) r1 rx r2 ry e).2 X.prog X.w X.xe (EP X ae σ Q) ⟨.bl (!b),H,I,rfl,fv sr h⟩
 .exact h.elim
def KS(st:ag):ah->Option (List ah)
 |.tup us=>some us
 |.mt us=>some us
 |.loc n=>ak st n
 |_=>none
def Nm(neg:Bool):F2:=fun u w st=>match KS st w with
 |some us=>if flat u=true/\us.all flat=true then .ok (.bl (if neg then !us.any (fun y=>Nj y u)else us.any (fun y=>Nj y u))) st else .bad
 |none=>.bad
theorem n_{K:ZW}{u w:ah}{x y:V}(f1:flat u=true)(f2:flat w=true)(r1:Rl K ρ H u x)(r2:Rl K ρ H w y):kG x=true/\kG y=true/\HM x y=Nj u w:=by
 cases u<;>(try cases f1)<;>cases w<;>(try cases f2)<;>
  (first|(have z1:=Rl.cT r1;subst z1)|(have z1:=Rl.ql r1;subst z1)|(have z1:=Rl.jS r1;subst z1)|(have z1:=Rl.ig r1;subst z1))<;>
  (first|(have z2:=Rl.cT r2;subst z2)|(have z2:=Rl.ql r2;subst z2)|(have z2:=Rl.jS r2;subst z2)|(have z2:=Rl.ig r2;subst z2))<;>exact⟨rfl,rfl,rfl⟩
theorem n!{K:ZW}{u:ah}{x:V}(f:flat u=true)(r:Rl K ρ H u x):∀{us:List ah}{vs:List V},us.all flat=true->bE K ρ H us vs->vs.all kG=true/\Sv x vs=us.any fun y=>Nj y u
 |[],vs,_,h=>by rw[h.gM];exact⟨rfl,rfl⟩
 |w::us,vs,hf,h=>by obtain⟨v,r',rfl,h2,h3⟩:=h.dM;rw[XM,WV]at hf;obtain⟨a,b,c⟩:=n_ hf.1 f h2 r;obtain⟨d,e⟩:=n! f r hf.2 h3;refine⟨by rw[XM,a,d];rfl,?_⟩;show(HM v x || Sv x r')=_;rw[c,e];rfl
theorem Jp{E:XK}{neg:Bool}{x y:V}{H:Hp}{Q:VK}(h:rM (wo X) E (Nm neg) x y H Q):rIn X.K neg x y H Q:=by
 obtain⟨ρ,st,u,w,sr,r1,r2,h⟩:=h;unfold Nm at h;split at h
 .rename_i us e;split at h
  .rename_i hz;cases w with
   |tup ws=>
    cases e;obtain⟨a,vs,rfl,ha,ra⟩:=r2.iH;obtain⟨q1,q2⟩:=n! hz.1 r1 hz.2 ra;refine⟨a,vs,rfl,.inr ha,(n_ hz.1 hz.1 r1 r1).1,q1,?_⟩;rw[q2];exact fv sr h
   |mt ws=>
    cases e;obtain⟨a,vs,rfl,ha,ra⟩:=r2.U2;obtain⟨q1,q2⟩:=n! hz.1 r1 hz.2 ra;refine⟨a,vs,rfl,.inr ha,(n_ hz.1 hz.1 r1 r1).1,q1,?_⟩;rw[q2];exact fv sr h
   |loc n=>
    obtain⟨a,rfl,ha⟩:=r2.fC;obtain⟨vs,hs,ra⟩:=bH sr e ha;obtain⟨q1,q2⟩:=n! hz.1 r1 hz.2 ra;refine⟨a,vs,rfl,.inl hs,(n_ hz.1 hz.1 r1 r1).1,q1,?_⟩;rw[q2];exact fv sr h
   |_=>cases e
  .exact h.elim
 .exact h.elim
theorem FQ{E:XK}:eY X (compareOp .In) (rM (wo X) E (Nm false)):=eY.imp C4 fun _ _ _ _ h=>Jp h
def KU(neg:Bool):F2
 |.dg,.dg,st=>.ok (.bl (!neg)) st
 |.bl a,.bl b,st=>.ok (.bl (if neg then a !=b else a==b)) st
 |.int _,.dg,st=>.ok (.bl neg) st
 |.bl _,.dg,st=>.ok (.bl neg) st
 |.str _,.dg,st=>.ok (.bl neg) st
 |.tup _,.dg,st=>.ok (.bl neg) st
 |.loc _,.dg,st=>.ok (.bl neg) st
 |_,_,_=>.bad
theorem FR:eY X (compareOp .Is) (fun x y H Q=>∃a b,x=.bl a/\y=.bl b/\Q (.bl (a==b)) H):=by rintro ae s σ H x y v u Q I rx ry ⟨a,b,rfl,rfl,q⟩;cases rx;cases ry;exact is_bool ⟨.bl _,H,I,rfl,q⟩
theorem yI:eY X (compareOp .IsNot) (fun x y H Q=>∃a b,x=.bl a/\y=.bl b/\Q (.bl (a !=b)) H):=by rintro ae s σ H x y v u Q I rx ry ⟨a,b,rfl,rfl,q⟩;cases rx;cases ry;exact isnot_bool ⟨.bl _,H,I,rfl,q⟩
theorem AF{E:XK}:eY X (compareOp .Is) (rM (wo X) E (KU false)):=by
 refine eY.imp (eY.or Mi FR) ?_;rintro x y H Q ⟨ρ,st,u,w,sr,r1,r2,h⟩;cases u<;>cases w<;>try exact h.elim
 case bl.bl a b=>exact .inr ⟨a,b,r1.ql,r2.ql,fv sr h⟩
 case dg.dg=>exact .inl ⟨r2.ig,by rw[r1.ig];exact fv sr h⟩
 case int.dg i=>exact .inl ⟨r2.ig,by rw[r1.cT];exact fv sr h⟩
 case bl.dg i=>exact .inl ⟨r2.ig,by rw[r1.ql];exact fv sr h⟩
 case str.dg i=>exact .inl ⟨r2.ig,by rw[r1.jS];exact fv sr h⟩
 case tup.dg i=>obtain⟨a,vs,rfl,_⟩:=r1.iH;exact .inl ⟨r2.ig,fv sr h⟩
 case loc.dg i=>obtain⟨a,rfl,_⟩:=r1.fC;exact .inl ⟨r2.ig,fv sr h⟩
theorem vO{E:XK}:eY X (compareOp .IsNot) (rM (wo X) E (KU true)):=by
 refine eY.imp (eY.or Io yI) ?_;rintro x y H Q ⟨ρ,st,u,w,sr,r1,r2,h⟩;cases u<;>cases w<;>try exact h.elim
 case bl.bl a b=>exact .inr ⟨a,b,r1.ql,r2.ql,fv sr h⟩
 case dg.dg=>exact .inl ⟨r2.ig,by rw[r1.ig];exact fv sr h⟩
 case int.dg i=>exact .inl ⟨r2.ig,by rw[r1.cT];exact fv sr h⟩
 case bl.dg i=>exact .inl ⟨r2.ig,by rw[r1.ql];exact fv sr h⟩
 case str.dg i=>exact .inl ⟨r2.ig,by rw[r1.jS];exact fv sr h⟩
 case tup.dg i=>obtain⟨a,vs,rfl,_⟩:=r1.iH;exact .inl ⟨r2.ig,fv sr h⟩
 case loc.dg i=>obtain⟨a,rfl,_⟩:=r1.fC;exact .inl ⟨r2.ig,fv sr h⟩
end
section
variable{X:Cx}{E:XK}{pos:Pos}
def bN:F2
 |.tup us,.int i,st=>match jP us i with
  |some v=>.ok v st
  |none=>.bad
 |.loc n,.int i,st=>match ak st n with
  |some us=>match jP us i with
   |some v=>.ok v st
   |none=>.bad
  |none=>.bad
 |.str z,.int i,st=>if z.length<=sizeLine then(match jP z.cps.toList i with
   |some c=>.ok (.str ⟨#[c]⟩) st
   |none=>.bad)else .bad
 |_,_,_=>.bad
theorem bE.jP{K:ZW}{ρ:Z0}{H:Hp}{us:List ah}{vs:List V}{i:Int}{u:ah}(r:bE K ρ H us vs)(h:jP us i=some u):∃v,L2.jP vs i=some v/\Rl K ρ H u v:=by
 unfold L2.jP at h⊢;rw[<-r.length];cases z:yt us.length i with
 |none=>rw[z]at h;cases h
 |some j=>
  rw[z]at h;obtain⟨v,h1,h2⟩:=r.get (show us[j]?=some u from h);exact⟨v,h1,h2⟩
theorem U7:zY X (rM (wo X) E bN):=by
 refine zY.imp (zY.or IC (zY.or bz Mt)) ?_;rintro x y H Q ⟨ρ,st,u,w,sr,r1,r2,h⟩;cases u<;>cases w<;>try exact h.elim
 case tup.int us i=>
  unfold bN at h;dsimp only at h;split at h
  .rename_i v e;obtain⟨a,vs,rfl,ha,ra⟩:=r1.iH;obtain⟨z,h1,h2⟩:=ra.jP e;exact .inr (.inl ⟨a,vs,i,z,rfl,r2.cT,ha,h1,h ρ H z (aU.refl _ _) sr h2⟩)
  .exact h.elim
 case loc.int n i=>
  unfold bN at h;dsimp only at h;split at h
  .rename_i us e;split at h
   .rename_i v e';obtain⟨a,rfl,ha⟩:=r1.fC;obtain⟨vs,hs,rv⟩:=bH sr e ha;obtain⟨z,h1,h2⟩:=rv.jP e';exact .inl ⟨a,vs,i,z,rfl,r2.cT,hs,h1,h ρ H z (aU.refl _ _) sr h2⟩
   .exact h.elim
  .exact h.elim
 case str.int z i=>
  unfold bN at h;dsimp only at h;split at h
  .rename_i hz;split at h
   .rename_i c e;exact .inr (.inr ⟨z,i,c,r1.jS,r2.cT,hz,e,h ρ H _ (aU.refl _ _) sr (Rl.mkStr _)⟩)
   .exact h.elim
  .exact h.elim
def bx:FN
 |[.tup us],st=>.ok (.int us.length) st
 |[.loc n],st=>match ak st n with
  |some us=>.ok (.int us.length) st
  |none=>.bad
 |[.str z],st=>if z.length<=sizeLine then .ok (.int z.length) st else .bad
 |_,_=>.bad
theorem Ds:cz X (.builtin "len") (cM (wo X) E bx):=by
 refine cz.imp (cz.or wK wL) ?_;rintro xs H Q ⟨ρ,st,us,sr,r,h⟩
 match us,r,h with
 |[],_,h=>exact h.elim
 |[.tup ws],r,h=>
  obtain⟨v,rfl,r1⟩:=r.Aw;obtain⟨a,vs,rfl,ha,ra⟩:=r1.iH;refine .inl ⟨a,vs,rfl,.inr ha,?_⟩;rw[<-ra.length];exact eo sr h
 |[.loc n],r,h=>
  obtain⟨v,rfl,r1⟩:=r.Aw;obtain⟨a,rfl,ha⟩:=r1.fC;unfold bx at h;dsimp only at h;split at h
  .rename_i ws e;obtain⟨vs,hs,rv⟩:=bH sr e ha;refine .inl ⟨a,vs,rfl,.inl hs,?_⟩;rw[<-rv.length];exact eo sr h
  .exact h.elim
 |[.str z],r,h=>
  obtain⟨v,rfl,r1⟩:=r.Aw;unfold bx at h;dsimp only at h;split at h
  .rename_i hz;exact .inr ⟨z,by rw[r1.jS],hz,eo sr h⟩
  .exact h.elim
 |[.dg],_,h=>exact h.elim
 |[.bl _],_,h=>exact h.elim
 |[.int _],_,h=>exact h.elim
 |[.exc _],_,h=>exact h.elim
 |[.fn _ _],_,h=>exact h.elim
 |[.mt _],_,h=>exact h.elim
 |x::y::r,_,h=>cases x<;>exact h.elim
def yJ:FN
 |[.int i],st=>.ok (.int (if i<0 then -i else i)) st
 |_,_=>.bad
theorem Dt:cz X (.builtin "abs") (cM (wo X) E yJ):=by
 refine cz.imp ED ?_;rintro xs H Q ⟨ρ,st,us,sr,r,h⟩;unfold yJ at h;split at h
 .rename_i i;obtain⟨v,rfl,r1⟩:=r.Aw;exact⟨i,by rw[r1.cT],eo sr h⟩
 .exact h.elim
def AG:FN
 |[.tup us],st=>.ok (.tup us) st
 |[.loc n],st=>match ak st n with
  |some us=>.ok (.tup us) st
  |none=>.bad
 |_,_=>.bad
theorem Du:cz X (.type "tuple") (cM (wo X) E AG):=by
 refine cz.imp u5 ?_;rintro xs H Q ⟨ρ,st,us,sr,r,h⟩;unfold AG at h;split at h
 .rename_i ws;obtain⟨v,rfl,r1⟩:=r.Aw;obtain⟨a,vs,rfl,ha,ra⟩:=r1.iH;exact⟨a,vs,rfl,.inr ⟨ha,h ρ H _ (aU.refl _ _) sr r1⟩⟩
 .rename_i n;obtain⟨v,rfl,r1⟩:=r.Aw;obtain⟨a,rfl,ha⟩:=r1.fC;split at h
  .rename_i ws e;obtain⟨vs,hs,rv⟩:=bH sr e ha;refine⟨a,vs,rfl,.inl ⟨hs,fun l hl=>?_⟩⟩;have s:=eI (o:=.tup vs) hl;exact h ρ _ _ (aU.same s) (sr.grow s) (Rl.vN dr (bE.mono (aU.same s) _ _ rv))
  .exact h.elim
 .exact h.elim
def gy:FN
 |[.tup us],st=>.ok (.loc st.length) (st++[.lst us])
 |[.loc n],st=>match ak st n with
  |some us=>.ok (.loc st.length) (st++[.lst us])
  |none=>.bad
 |_,_=>.bad
theorem Dv:cz X (.type "list") (cM (wo X) E gy):=by
 refine cz.imp wM ?_;rintro xs H Q ⟨ρ,st,us,sr,r,h⟩;unfold gy at h;split at h
 .rename_i ws;obtain⟨v,rfl,r1⟩:=r.Aw;obtain⟨a,vs,rfl,ha,ra⟩:=r1.iH;refine⟨a,vs,rfl,.inr ha,fun l hl=>?_⟩;obtain⟨k1,k2,k3⟩:=iI sr ra hl;exact h _ _ _ k1 k2 k3
 .rename_i n;obtain⟨v,rfl,r1⟩:=r.Aw;obtain⟨a,rfl,ha⟩:=r1.fC;split at h
  .rename_i ws e;obtain⟨vs,hs,rv⟩:=bH sr e ha;refine⟨a,vs,rfl,.inl hs,fun l hl=>?_⟩;obtain⟨k1,k2,k3⟩:=iI sr rv hl;exact h _ _ _ k1 k2 k3
  .exact h.elim
 .exact h.elim
def m9:List ah->Option (List Bool)
 |[]=>some []
 |.bl b::r=>(m9 r).map (b :: ·)
 |_=>none
theorem pq{K:ZW}{ρ:Z0}{H:Hp}:∀{us:List ah}{bs:List Bool}{vs:List V}{aV:ZY},m9 us=some bs->bE K ρ H us vs->bA vs aV->LSm.BoolsAre aV bs
 |[],bs,vs,aV,h,r,v=>by cases h;have:=r.gM;subst this;cases v;exact .nil
 |u::us,bs,vs,aV,h,r,v=>by
  cases u with
  |bl b=>
   simp only[m9]at h;cases z:m9 us with
   |none=>rw[z]at h;cases h
   |some bs'=>
    rw[z]at h;cases h;obtain⟨x,r',rfl,h2,h3⟩:=r.dM;have:=h2.ql;subst this;cases v with
    |cons q1 q2=>
     cases q1;exact .cons b (pq z h3 q2)
  |_=>cases h
theorem tj(hh:X.A.handled=none):cz X (.builtin "all") (fun xs H Q=>∃a ρ us vs bs,xs=[.ref a]/\l? X.K H a vs/\bE X.K ρ H us vs/\m9 us=some bs/\Q (.bl (bs.all id)) H):=by
 rintro ae s σ H xs ws Q I r ⟨a,ρ,us,vs,bs,rfl,hs,rv,hb,q⟩;obtain⟨u,rfl,ru⟩:=vals1 r;cases ru;obtain⟨aV,r1,p1,_⟩:=I.list hs;have B:=pq hb rv r1;have hl:=p1.isList;have yb:a<s.heap.objs.size:=by obtain⟨_,e,_⟩:=hl;exact VE e
 refine call_all_walk (X6 hl ?_);refine⟨s.heap.objs.size,[s.heap.objs.size,a],[s.heap.objs.size],aV.toArray.size,_,_,fun i=>(bs[i]?).getD true,rfl,Walks.list (A:=X.A.in1) hh _ a (V1 yb) aV.toArray,
  ⟨⟨_,VL _ rfl,rfl,rfl⟩,hl.push _⟩,fun i v s' Q' E' hP hQ=>?_,fun h' tk hk=>?_⟩
 .obtain⟨b,e,rfl⟩:=B.get i v (by simpa using hP);simp only[e,Option.getD_some]at hQ;exact WB hQ
 .have e:((List.range aV.toArray.size).all fun i=>(bs[i]?).getD true)=bs.all id:=by rw[VF,B.length];exact LSm.range_all bs
  rw[e];exact⟨.bl _,H,I.kept (LSm.kept_iter hk),rfl,q⟩
def yK:FN
 |[.loc n],st=>match ak st n with
  |some us=>match m9 us with
   |some bs=>.ok (.bl (bs.all id)) st
   |none=>.bad
  |none=>.bad
 |_,_=>.bad
theorem B0(hc:cz X (.builtin "all") (fun xs H Q=>∃a ρ us vs bs,xs=[.ref a]/\l? X.K H a vs/\bE X.K ρ H us vs/\m9 us=some bs/\Q (.bl (bs.all id)) H)):cz X (.builtin "all") (cM (wo X) E yK):=by
 refine cz.imp hc ?_;rintro xs H Q ⟨ρ,st,us,sr,r,h⟩;unfold yK at h;split at h
 .rename_i n;obtain⟨v,rfl,r1⟩:=r.Aw;obtain⟨a,rfl,ha⟩:=r1.fC;split at h
  .rename_i ws e;split at h
   .rename_i bs hb;obtain⟨vs,hs,rv⟩:=bH sr e ha;exact⟨a,ρ,ws,vs,bs,rfl,hs,rv,hb,fv sr h⟩
   .exact h.elim
  .exact h.elim
 .exact h.elim
theorem Dw(hh:X.A.handled=none):cz X (.builtin "all") (cM (wo X) E yK):=B0 (tj hh)
def kindOf(st:ag):ah->Option String
 |.dg=>some "NoneType"
 |.bl _=>some "bool"
 |.int _=>some "int"
 |.str _=>some "str"
 |.tup _=>some "tuple"
 |.loc n=>match st[n]? with
  |some (.lst _)=>some "list"
  |some (.M5 _)=>some "list"
  |some (.mod _)=>none
  |some (.dK _)=>some "dict"
  |some (.dT _)=>some "dict"
  |_=>none
 |_=>none
def QQ(T:String)(st:ag)(v:ah):Option Bool:=(kindOf st v).map fun k=>k==T || (k == "bool" && T == "int")
def Dx(T:String)(m:ME):ME:=fun μ st=>(m μ st).bind fun v ar=>match QQ T ar v with
 |some b=>.ok (.bl b) ar
 |none=>.bad
def FT(K:ZW)(T:String):Prop:=∀k∈["NoneType","bool","int","str","tuple","list","dict"],W.kitOne K (.type k) (.type T)=some (k==T || (k == "bool" && T == "int"))
theorem AH{st:ag}{v:ah}{k:String}(h:kindOf st v=some k):k∈["NoneType","bool","int","str","tuple","list","dict"]:=by
 unfold kindOf at h;split at h
 all_goals first
  |(cases h;decide)
  |(split at h<;>first|(cases h;decide)|cases h)
  |cases h
theorem FU{ae:ZV}{σ:St}{H:Hp}{s:Z3}{A:Z5}{E:ZT}{Q:ZT}{c:Z2}{b:Bool}{ρ:Z0}{st:ag}{u:ah}{x:V}{v:Z2}{k:String}(I:aX X ae σ H s)(sr:SR X.K ρ st H)(r:Rl X.K ρ H u x)(q:bK x v)(hk:kindOf st u=some k)(e:W.kitOne X.K (.type k) c=some b)(h:∀tk,Q (.bool b) {s with toks:=tk}):
  wpAny (model X.prog X.w) A (call (.builtin "isinstance") [v,c]) Q E s:=by
 cases u with
 |dg=>cases hk;have:=r.ig;subst this;exact gp I q .dg e h
 |bl y=>cases hk;have:=r.ql;subst this;exact gp I q (.bl y) e h
 |int i=>cases hk;have:=r.cT;subst this;exact gp I q (.int i) e h
 |str y=>cases hk;have:=r.jS;subst this;exact gp I q (.str y) e h
 |tup us=>
  cases hk;obtain⟨a,vs,rfl,ha,ra⟩:=r.iH;cases q;obtain⟨aV,r1,⟨o,h1,h2,_⟩,_⟩:=I.tuple ha;exact Wq Zh I.sF ⟨o,h1,h2⟩ e (fun z=>nomatch z) h
 |loc n=>
  obtain⟨a,rfl,ha⟩:=r.fC;obtain⟨cl,hc,kc⟩:=sr.there ha;simp only[kindOf,hc]at hk;cases cl with
  |lst us=>cases hk;obtain⟨vs,h1,_⟩:=kc;exact gp I q (.lst h1) e h
  |M5 us=>cases hk;obtain⟨o,vs,h1,_⟩:=kc;exact gp I q (.nk h1) e h
  |mod us=>cases hk
  |dK us=>cases hk;obtain⟨vs,h1,_⟩:=kc;exact gp I q (.dK h1) e h
  |dT us=>cases hk;obtain⟨vs,h1,_⟩:=kc;exact gp I q (.dT h1) e h
  |tab _ _ _ _=>cases hk
  |ins _ _=>cases hk
  |fd _=>cases hk
 |exc c=>cases hk
 |fn k c=>cases hk
 |mt us=>cases hk
theorem wZ{T:String}{x:Str}{e:Expr}{m:ME}{p q:Pos}(hK:FT X.K T)(hg:Gl X "isinstance")(hm:X.mg "isinstance" = none)(hgT:Gl X x)(hmT:X.mg x=none)(hvT:bootBuiltins x=some (.type T))(he:PE X e (tE X E m))(hn:x ≠ "__name__":=by decide)(hd:(x==("__debug__":Str))=false:=by decide)(hs:starEach [e,.Name x q] X.env=(false,eval e X.env)::starEach [.Name x q] X.env:=by rfl)(jq:starEach [.Name x q] X.env=(false,eval (.Name x q) X.env)::starEach [] X.env:=by rfl)(m6:(backTo pos (starEach [.Name x q] X.env)).any (·.1)=false:=by rfl):PE X (.Call (.Name "isinstance" p) [e,.Name x q] [] pos) (tE X E (Dx T m)):=by
 have hc:cz X (.builtin "isinstance") (fun xs H Q=>∃y ρ st u k b,xs=[y,.ty T]/\SR X.K ρ st H/\Rl X.K ρ H u y/\kindOf st u=some k/\W.kitOne X.K (.type k) (.type T)=some b/\Q (.bl b) H):=by rintro ae s σ H xs us Q I r ⟨y,ρ,st,u,k,b,rfl,sr,r1,h1,h2,h3⟩;obtain⟨v1,v2,rfl,q1,q2⟩:=vals2 r;cases q2;exact FU I sr r1 q1 h1 h2 fun tk=>⟨.bl b,H,I.tok tk,rfl,h3⟩
 refine PE.imp (yq hc hg hm PyProof.Rows.boot_isinstance (wD he (wD (HX (v:=.ty T) hgT hmT hvT rfl hn hd) EE jq) hs) (by decide) (by decide) hs m6) ?_;rintro σ H Q ⟨μ,ρ,st,rs,sr,h⟩;refine go μ ρ st rs sr h fun u st1 ρ1 H1 x e1 cS r1 h1=>?_;cases z:kindOf st1 u with
 |none=>simp only[QQ,z]at h1;exact h1.elim
 |some k=>
  simp only[QQ,z]at h1;exact⟨x,ρ1,st1,u,k,_,rfl,cS,r1,z,hK k (AH z),fv cS h1⟩
end
theorem FV{K:ZW}:FT K "int":=by intro k hk;simp only[VT,Ye,Xe]at hk;rcases hk with rfl|rfl|rfl|rfl|rfl|rfl|rfl<;>first|rfl|kernel_rfl
theorem Dy{K:ZW}:FT K "bool":=by intro k hk;simp only[VT,Ye,Xe]at hk;rcases hk with rfl|rfl|rfl|rfl|rfl|rfl|rfl<;>first|rfl|kernel_rfl
theorem AK{K:ZW}:FT K "tuple":=by intro k hk;simp only[VT,Ye,Xe]at hk;rcases hk with rfl|rfl|rfl|rfl|rfl|rfl|rfl<;>first|rfl|kernel_rfl
theorem DA{K:ZW}:FT K "list":=by intro k hk;simp only[VT,Ye,Xe]at hk;rcases hk with rfl|rfl|rfl|rfl|rfl|rfl|rfl<;>first|rfl|kernel_rfl
abbrev AS:=ah->Env->Option Env
def aI(i:Nat):AS:=fun v μ=>some (μ.set i (some v))
def vP:List AS->List ah->Env->Option Env
 |[],[],μ=>some μ
 |a::as,v::vs,μ=>(a v μ).bind fun μ'=>vP as vs μ'
 |_,_,_=>none
def jW(l:List AS):AS:=fun v μ=>match v with
 |.tup vs=>vP l vs μ
 |_=>none
def tA(W:Wo)(a:AS):TG:=fun v σ H Q=>∃μ ρ u μ',RS W ρ H μ σ/\Rl W.K ρ H u v/\a u μ=some μ'/\∀σ',RS W ρ H μ' σ'->Q σ' H
def SW(W:Wo)(l:List AS):H?:=fun vs σ H Q=>∃μ ρ us μ',RS W ρ H μ σ/\bE W.K ρ H us vs/\vP l us μ=some μ'/\∀σ',RS W ρ H μ' σ'->Q σ' H
section
variable{X:Cx}{pos:Pos}
theorem Ac.imp{e:List Expr}{t t':H?}(h:Ac X e t)(k:∀v σ H Q,t' v σ H Q->t v σ H Q):Ac X e t':=fun ae s σ H v u Q I r q=>h ae s σ H v u Q I r (k v σ H Q q)
theorem Jq(i:Nat){x:Str}(hN:X.N.Nodup)(hi:X.N[i]?=some x:=by rfl)(hx:Loc X.env.scope x:=by first|exact Or.inl rfl|exact Or.inr rfl)(hf:X.fn x=true\/X.env.scope.names.lookup x=some .local:=by first|exact .inl rfl|exact .inr rfl|assumption):PG X (.Name x pos) (tA (wo X) (aI i)):=by refine PG.imp (Ia hN hi hx hf) ?_;rintro v σ H Q ⟨μ,ρ,u,μ',rs,r,e,q⟩;cases e;exact q _ (rs.set i r)
theorem Jr:Ac X [] (SW (wo X) []):=by
 refine Ac.imp Ib ?_;rintro vs σ H Q ⟨μ,ρ,us,μ',rs,r,e,q⟩;cases us with
 |nil=>cases e;exact⟨r.gM,q σ rs⟩
 |cons=>cases e
theorem FW{e:Expr}{es:List Expr}{a:AS}{as:List AS}(h1:PG X e (tA (wo X) a))(h2:Ac X es (SW (wo X) as))(hs:(assignEach (e::es) X.env).map (·.2)=assign e X.env::(assignEach es X.env).map (·.2):=by rfl):Ac X (e::es) (SW (wo X) (a::as)):=by
 refine Ac.imp (Ew h1 h2 hs) ?_;rintro vs σ H Q ⟨μ,ρ,us,μ',rs,r,e,q⟩;cases us with
 |nil=>cases e
 |cons u us=>
  obtain⟨v,r',rfl,ru,rr⟩:=r.dM;unfold vP at e;cases z:a u μ with
  |none=>rw[z]at e;cases e
  |some μ1=>
   rw[z]at e;exact⟨v,r',rfl,μ,ρ,u,μ1,rs,ru,z,fun σ1 O2=>⟨μ1,ρ,us,μ',O2,rr,e,q⟩⟩
theorem Nn{es:List Expr}{k:Nat}{l:List AS}(hc:X.calm=true)(h:Ac X es (SW (wo X) l))(hn:(assignEach es X.env).length=l.length:=by rfl)(wC:(assignEach es X.env).findIdx? (·.1)=none:=by rfl):PG X (.Tuple es k pos) (tA (wo X) (jW l)):=by
 refine PG.imp (L7 hc h hn wC) ?_;rintro v σ H Q ⟨μ,ρ,u,μ',rs,r,e,q⟩;cases u with
 |tup us=>
  obtain⟨a,vs,rfl,ha,ra⟩:=r.iH;have len:∀(l:List AS)(us:List ah)(μ:Env),vP l us μ=some μ'->us.length=l.length:=by
   intro l
   induction l with
   |nil=>intro us μ e;cases us with|nil=>rfl|cons=>cases e
   |cons a l ih=>
    intro us μ e;cases us with
    |nil=>cases e
    |cons u us=>
     unfold vP at e;cases z:a u μ with
     |none=>rw[z]at e;cases e
     |some μ1=>rw[z]at e;rw[Vk,Vk,ih us μ1 e]
  exact⟨a,vs,rfl,ha,by rw[<-ra.length];exact len _ _ _ e,μ,ρ,us,μ',rs,ra,e,q⟩
 |_=>cases e
def aaE(a:AS)(m:ME):MB:=fun μ st=>(m μ st).sb μ fun v ar=>match a v μ with
 |some μ'=>.nx μ' ar
 |none=>.bad
end
abbrev Itm:=List ah×(ag->Prop)
abbrev MI:=Env->ag->dh Itm
def Np(K:ZW)(ρ0:Z0)(H0:Hp)(p:Itm)(J:It):Prop:=
 ∀ρ st H,aU ρ0 H0 ρ H->SR K ρ st H->p.2 st->∀i:Nat,
  (∀u,p.1[i]?=some u->J.go i H/\∀x H',J.OU i H x H'->aU ρ H ρ H'/\SR K ρ st H'/\Rl K ρ H' u x)/\(p.1.length<=i->J.stop i H)
abbrev tI(X:Cx)(E:XK)(m:MI):TI:=tG (wo X) E (Np X.K) m
section
variable{X:Cx}{E:XK}{tg:Expr}{pos p:Pos}
theorem PI.imp{it:Expr}{t t':TI}(h:PI X tg it t)(k:∀σ H Q,t' σ H Q->t σ H Q):PI X tg it t':=fun ae s σ H R I q=>h ae s σ H R I (k σ H R q)
theorem Nq{l:Expr}{tl:TE}(hl:PE X l tl):PI X tg l (fun σ H R=>tl σ H fun x H1=>∃a,x=.ref a/\(((∃xs,l? X.K H1 a xs)/\R (Ub X.K a) H1)\/((∃xs,mY X.K H1 a xs)/\R (Py X.K a) H1))):=by
 intro ae s σ H R I h;refine dJ (hl ae s σ H _ I h) fun v s1⟨x,H1,I1,r1,q1⟩=>?_;obtain⟨a,e,q⟩:=q1;subst e;cases r1;rcases q with⟨⟨xs,hq⟩,q⟩|⟨⟨xs,hq⟩,q⟩
 .obtain⟨aV,rv,p,hz⟩:=I1.list hq;refine X6 p.isList ?_;refine⟨s1.heap.objs.size,[s1.heap.objs.size],_,_,H1,rfl,I1.kept (t':=s1.toks) fun b o e=>Vm _ e,CW a _,⟨_,VL _ rfl,rfl,rfl⟩,fun b hb=>?_,q⟩;have e:b=s1.heap.objs.size:=by simpa using hb
  subst e;exact I1.Ad (VA _) (I1.dq.fresh (VA _))
 .obtain⟨aV,rv,p,hz⟩:=I1.tuple hq;refine Yx (show s1.heap.IsTuple a aV.toArray from p) ?_;refine⟨s1.heap.objs.size,[s1.heap.objs.size],_,_,H1,rfl,I1.kept (t':=s1.toks) fun b o e=>Vm _ e,jN a _,⟨_,VL _ rfl,rfl,rfl⟩,fun b hb=>?_,q⟩;have e:b=s1.heap.objs.size:=by simpa using hb
  subst e;exact I1.Ad (VA _) (I1.dq.fresh (VA _))
def tm(st:ag):ah->Option Itm
 |.tup us=>some (us,fun _=>True)
 |.mt us=>some (us,fun _=>True)
 |.loc n=>(ak st n).map fun us=>(us,fun ar=>ak ar n=some us)
 |_=>none
def g_(m:ME):MI:=fun μ st=>(m μ st).bind fun v ar=>match tm ar v with
 |some p=>.ok p ar
 |none=>.bad
theorem FX{K:ZW}{ρ:Z0}{H:Hp}{n:Nat}{us:List ah}{a:Z4}(ha:ρ[n]?=some a)(U8:∀{ρ':Z0}{ar:ag}{H':Hp},SR K ρ' ar H'->ak ar n=some us->ρ'[n]?=some a->∃vs,l? K H' a vs/\bE K ρ' H' us vs):
  Np K ρ H (us,fun ar=>ak ar n=some us) (Ub K a):=by
 intro ρ' ar H' e sr g i;obtain⟨vs,hs,rv⟩:=U8 sr g (e.at_ ha);refine⟨fun u hu=>?_,fun hi=>⟨vs,hs,by rw[<-rv.length];exact hi⟩⟩;obtain⟨v,hv,ru⟩:=rv.get hu;refine⟨⟨vs,v,hs,hv⟩,fun x QR y=>?_⟩;obtain⟨rfl,y⟩:=y;have e:=(y vs hs).symm.trans hv;cases e;exact⟨aU.refl _ _,sr,ru⟩
theorem w6{K:ZW}{ρ:Z0}{H:Hp}{us:List ah}{a:Z4}{vs:List V}(ha:mY K H a vs)(ra:bE K ρ H us vs):Np K ρ H (us,fun _=>True) (Py K a):=by intro ρ' ar H' e sr g i;have U9:mY K H' a vs:=e.U0 ha;have rv:=bE.mono e _ _ ra;refine⟨fun u hu=>?_,fun hi=>⟨vs,U9,by rw[<-rv.length];exact hi⟩⟩;obtain⟨v,hv,ru⟩:=rv.get hu;refine⟨⟨vs,v,U9,hv⟩,fun x QR y=>?_⟩;obtain⟨rfl,y⟩:=y;have e:=(y vs U9).symm.trans hv;cases e;exact⟨aU.refl _ _,sr,ru⟩
theorem Nr{l:Expr}{m:ME}(hl:PE X l (tE X E m)):PI X tg l (tI X E (g_ m)):=by
 refine PI.imp (Nq hl) ?_;rintro σ H R ⟨μ,ρ,st,rs,sr,h⟩;refine go μ ρ st rs sr h fun u st1 ρ1 H1 x e1 cS r1 h1=>?_;cases u with
 |tup us=>
  obtain⟨a,vs,rfl,ha,ra⟩:=r1.iH;exact⟨a,rfl,.inr ⟨⟨vs,ha⟩,h1 ρ1 H1 _ (aU.refl _ _) cS (w6 ha ra)⟩⟩
 |mt us=>
  obtain⟨a,vs,rfl,ha,ra⟩:=r1.U2;exact⟨a,rfl,.inr ⟨⟨vs,ha⟩,h1 ρ1 H1 _ (aU.refl _ _) cS (w6 ha ra)⟩⟩
 |loc n=>
  obtain⟨a,rfl,ha⟩:=r1.fC;cases z:ak st1 n with
  |none=>simp only[tm,z]at h1;exact h1.elim
  |some us=>
   simp only[tm,z]at h1;obtain⟨vs,hs,rv⟩:=bH cS z ha;exact⟨a,rfl,.inl ⟨⟨vs,hs⟩,h1 ρ1 H1 _ (aU.refl _ _) cS (FX ha fun s g h=>bH s g h)⟩⟩
 |_=>exact h1.elim
def cY(lo:Int)(n:Nat):List ah:=(List.range n).map fun(i:Nat)=>ah.int (lo+(i:Int))
theorem vQ{K:ZW}{ρ:Z0}{H:Hp}(lo:Int)(n:Nat):Np K ρ H (cY lo n,fun _=>True) (Pz lo n):=by
 intro ρ' ar H' e sr g i;refine⟨fun u hu=>?_,fun hi=>?_⟩
 .have hi:i<n:=by have:=bf hu;simpa[cY]using this
  refine⟨hi,fun x QR y=>?_⟩;obtain⟨rfl,rfl⟩:=y;have e:u=ah.int (lo+(i:Int)):=by simp only[cY,VG]at hu;rw[V7 hi]at hu;exact(VR hu).symm
  subst e;exact⟨aU.refl _ _,sr,Rl.mkInt _⟩
 .show n<=i;simpa[cY]using hi
def cK(m:MA):MI:=fun μ st=>(m μ st).bind fun vs ar=>match vs with
 |[.int j]=>if -(2 ^ 62)<=j/\j<2 ^ 62 then .ok (cY 0 j.toNat,fun _=>True) ar else .bad
 |_=>.bad
def jh(m:MA):MI:=fun μ st=>(m μ st).bind fun vs ar=>match vs with
 |[.int i,.int j]=>if -(2 ^ 62)<=i/\i<2 ^ 62/\-(2 ^ 62)<=j/\j<2 ^ 62 then .ok (cY i (j-i).toNat,fun _=>True) ar else .bad
 |_=>.bad
theorem DB{a:Expr}{m:MA}(hg:Gl X "range")(hm:X.mg "range" = none)(ha:PA X [a] (tL X E m))(hs:starEach [a] X.env=[(false,eval a X.env)]:=by rfl):PI X tg (.Call (.Name "range" p) [a] [] pos) (tI X E (cK m)):=by
 refine PI.imp (CY hg hm ha hs) ?_;rintro σ H R ⟨μ,ρ,st,rs,sr,h⟩;refine go (R1:=bE X.K) μ ρ st rs sr h fun us st1 ρ1 H1 xs e1 cS r1 h1=>?_;split at h1
 .rename_i j;obtain⟨v,rfl,rv⟩:=r1.Aw;split at h1
  .rename_i hz;exact⟨j,by rw[rv.cT],hz.1,hz.2,h1 ρ1 H1 _ (aU.refl _ _) cS (vQ 0 j.toNat)⟩
  .exact h1.elim
 .exact h1.elim
theorem DC{a b:Expr}{m:MA}(hg:Gl X "range")(hm:X.mg "range" = none)(ha:PA X [a,b] (tL X E m))(hs:starEach [a,b] X.env=[(false,eval a X.env),(false,eval b X.env)]:=by rfl)(jq:starEach [b] X.env=[(false,eval b X.env)]:=by rfl):
  PI X tg (.Call (.Name "range" p) [a,b] [] pos) (tI X E (jh m)):=by
 refine PI.imp (CZ hg hm ha hs jq) ?_;rintro σ H R ⟨μ,ρ,st,rs,sr,h⟩;refine go (R1:=bE X.K) μ ρ st rs sr h fun us st1 ρ1 H1 xs e1 cS r1 h1=>?_;split at h1
 .rename_i i j;obtain⟨v,w,rfl,rv,yu⟩:=r1.SS;split at h1
  .rename_i hz;exact⟨i,j,by rw[rv.cT,yu.cT],hz,h1 ρ1 H1 _ (aU.refl _ _) cS (vQ i _)⟩
  .exact h1.elim
 .exact h1.elim
def iT(st:ag):ah->Option (Bool×Itm)
 |.tup us=>some (false,us,fun _=>True)
 |.loc n=>(ak st n).map fun us=>(true,us,fun ar=>ak ar n=some us)
 |_=>none
def km:List ah->List ah->List ah
 |x::xs,y::ys=>.tup [x,y]::km xs ys
 |_,_=>[]
theorem B1:∀(us ws:List ah)(i:Nat),(∀z,(km us ws)[i]?=some z->∃u w,us[i]?=some u/\ws[i]?=some w/\z=.tup [u,w])/\((km us ws).length<=i->us.length<=i\/ws.length<=i)
 |[],_,i=>⟨fun z h=>(by cases h),fun _=>.inl (WH _)⟩
 |_::_,[],i=>⟨fun z h=>(by cases h),fun _=>.inr (WH _)⟩
 |u::us,w::ws,0=>⟨fun z h=>(by cases h;exact⟨u,w,rfl,rfl,rfl⟩),fun h=>(by simp[km]at h)⟩
 |u::us,w::ws,i+1=>by
  obtain⟨a,b⟩:=B1 us ws i;refine⟨fun z h=>a z h,fun h=>?_⟩;have h':(km us ws).length<=i:=by simpa[km]using h
  rcases b h' with q|q
  .exact .inl (by rw[Vk];lia)
  .exact .inr (by rw[Vk];lia)
def tq(b1 b2:Bool)(m:MA):MI:=fun μ st=>(m μ st).bind fun vs ar=>match vs with
 |[u,w]=>match iT ar u,iT ar w with
  |some (c1,us,g1),some (c2,ws,g2)=>if c1=b1/\c2=b2 then .ok (km us ws,fun cJ=>g1 cJ/\g2 cJ) ar else .bad
  |_,_=>.bad
 |_=>.bad
theorem B2{K:ZW}{ρ:Z0}{st:ag}{H:Hp}{u:ah}{x:V}{c:Bool}{us:List ah}{g:ag->Prop}(sr:SR K ρ st H)(r:Rl K ρ H u x)(h:iT st u=some (c,us,g))(U8:∀{ρ':Z0}{ar:ag}{H':Hp}{n a},SR K ρ' ar H'->ak ar n=some us->ρ'[n]?=some a->∃vs,l? K H' a vs/\bE K ρ' H' us vs):
  ∃a,x=.ref a/\∀ρ' ar H',aU ρ H ρ' H'->SR K ρ' ar H'->g ar->∃vs,Au c K H' a vs/\bE K ρ' H' us vs:=by
 cases u with
 |tup ws=>
  cases h;obtain⟨a,vs,rfl,ha,ra⟩:=r.iH;exact⟨a,rfl,fun ρ' ar H' e _ _=>⟨vs,e.U0 ha,bE.mono e _ _ ra⟩⟩
 |loc n=>
  obtain⟨a,rfl,ha⟩:=r.fC;cases z:ak st n with
  |none=>simp only[iT,z]at h;cases h
  |some ws=>
   simp only[iT,z]at h;cases h;exact⟨a,rfl,fun ρ' ar H' e s g=>U8 s g (e.at_ ha)⟩
 |_=>cases h
theorem FY{st:ag}{u:ah}{c:Bool}{us:List ah}{g:ag->Prop}(h:iT st u=some (c,us,g)):g st:=by
 cases u with
 |tup ws=>cases h;exact True.intro
 |loc n=>
  cases z:ak st n with
  |none=>simp only[iT,z]at h;cases h
  |some ws=>simp only[iT,z]at h;cases h;exact z
 |_=>cases h
theorem Nt(b1 b2:Bool){elts:List Expr}{kt:Nat}{tp:Pos}{ea eb:Expr}{m:MA}(hg:Gl X "zip")(hm:X.mg "zip" = none)(ha:PA X [ea,eb] (tL X E m))(hs:starEach [ea,eb] X.env=[(false,eval ea X.env),(false,eval eb X.env)]:=by rfl)(jq:starEach [eb] X.env=[(false,eval eb X.env)]:=by rfl):
  PI X (.Tuple elts kt tp) (.Call (.Name "zip" p) [ea,eb] [] pos) (tI X E (tq b1 b2 m)):=by
 refine PI.imp (MV b1 b2 hg hm ha hs jq) ?_;rintro σ H R ⟨μ,ρ,st,rs,sr,h⟩;refine go (R1:=bE X.K) μ ρ st rs sr h fun us st1 ρ1 H1 xs e1 cS r1 h1=>?_;split at h1
 .rename_i u w;obtain⟨x,y,rfl,rx,ry⟩:=r1.SS;split at h1
  .rename_i c1 us1 g1 c2 us2 g2 z1 z2;split at h1
   .rename_i hc;obtain⟨rfl,rfl⟩:=hc;obtain⟨a,rfl,ka⟩:=B2 cS rx z1 fun s g h=>bH s g h;obtain⟨b,rfl,kb⟩:=B2 cS ry z2 fun s g h=>bH s g h;obtain⟨v1,q1,_⟩:=ka ρ1 st1 H1 (aU.refl _ _) cS (FY z1);obtain⟨v2,q2,_⟩:=kb ρ1 st1 H1 (aU.refl _ _) cS (FY z2);refine⟨a,b,rfl,⟨v1,q1⟩,⟨v2,q2⟩,h1 ρ1 H1 _ (aU.refl _ _) cS ?_⟩;intro ρ' ar H' e s g i;obtain⟨w1,s1,t1⟩:=ka ρ' ar H' e s g.1;obtain⟨w2,s2,t2⟩:=kb ρ' ar H' e s g.2;obtain⟨k1,k2⟩:=B1 us1 us2 i;refine⟨fun z hz=>?_,fun hi=>⟨w1,w2,s1,s2,?_⟩⟩
    .obtain⟨u',w',e1',e2',rfl⟩:=k1 z hz;obtain⟨p1,p2,p3⟩:=t1.get e1';obtain⟨o1,o2,o3⟩:=t2.get e2';refine⟨⟨w1,w2,p1,o1,s1,s2,p2,o2⟩,fun x' QR y'=>?_⟩;obtain⟨pp,x1,y1,rfl,hp,rfl,f1,f2⟩:=y';have c1:=(f1 w1 s1).symm.trans p2;have c2:=(f2 w2 s2).symm.trans o2;cases c1;cases c2;exact⟨aU.same (eI hp),s.grow (eI hp),Rl.vN dr (bE.mono (aU.same (eI hp)) _ _ (bE.cons p3 (bE.one o3)))⟩
    .rw[<-t1.length,<-t2.length];exact k2 hi
   .exact h1.elim
  .exact h1.elim
 .exact h1.elim
end
open Classical in
def forL(g:ag->Prop)(a:AS)(body:MB):List ah->MB
 |[],μ,st=>if g st then .nx μ st else .bad
 |u::us,μ,st=>if g st then(match a u μ with
  |some μ1=>match body μ1 st with
   |.nx μ' ar=>forL g a body us μ' ar
   |.ct μ' ar=>forL g a body us μ' ar
   |.bk μ' ar=>.nx μ' ar
   |.rt v ar=>.rt v ar
   |.er c μ' ar=>.er c μ' ar
   |.bad=>.bad
  |none=>.bad)else .bad
def fM(it:MI)(a:AS)(body:MB):MB:=fun μ st=>(it μ st).sb μ fun p ar=>forL p.2 a body p.1 μ ar
section
variable{X:Cx}{E:XK}{tg:Expr}{pos p:Pos}
theorem Nu{iter:Expr}{sb:List Stmt}{it:MI}{a:AS}{body:MB}(hp:PassesOwn (model X.prog X.w) X.A X.env X.xe)(hc:X.calm=true)(hi:PI X tg iter (tI X E it))(hg:PG X tg (tA (wo X) a))(hb:kx X sb (tS X E body))(hs:∀x,foldedSetIterable iter X.env x=pure x:=by intro _;rfl):PS X (.For tg iter sb [] pos) (tS X E (fM it a body)):=by
 refine PS.imp (L' hp hc hi hg hb hs) ?_;rintro D σ H ⟨μ,ρ,st,rs,sr,h⟩;refine z? (R1:=Np X.K) μ ρ st rs sr h fun pr st1 ρ1 H1 J e1 cS rJ h1=>?_;obtain⟨us,g⟩:=pr;refine⟨fun i m σ' H'=>m=us.length-i/\i<=us.length/\∃μ' ρ' ar,aU ρ1 H1 ρ' H'/\RS (wo X) ρ' H' μ' σ'/\SR X.K ρ' ar H'/\wS (wo X) E ρ' H' D (forL g a body (us.drop i) μ' ar),
  ⟨us.length,by simp,WH _,μ,ρ1,st1,aU.refl _ _,rs.mono e1,cS,h1⟩,?_⟩
 rintro i m σ' H' ⟨rfl,hi,μ',ρ',ar,e',El,B3,h'⟩;by_cases yb:i<us.length
 .rw[W! yb]at h';unfold forL at h';by_cases uV:g ar
  .rw[VD uV]at h';obtain⟨k1,k2⟩:=rJ ρ' ar H' e' B3 uV i;obtain⟨go',yl⟩:=k1 _ (Vp yb);refine .inr ⟨go',fun σ2 H2=>i+1<=us.length/\∃μ2 ρ2 cJ,aU ρ1 H1 ρ2 H2/\RS (wo X) ρ2 H2 μ2 σ2/\SR X.K ρ2 cJ H2/\wS (wo X) E ρ2 H2 D (forL g a body (us.drop (i+1)) μ2 cJ),fun σ2 H2 n=>⟨us.length-(i+1),by lia,rfl,n.1,n.2⟩,fun x H2 y=>?_⟩;obtain⟨e2,oX,r2⟩:=yl x H2 y;cases z:a us[i] μ' with
   |none=>rw[z]at h';exact h'.elim
   |some μ1=>
    rw[z]at h';dsimp only at h';refine⟨μ',ρ',us[i],μ1,El.mono e2,r2,z,fun σ3 O3=>⟨μ1,ρ',ar,O3,oX,?_⟩⟩;cases zb:body μ1 ar with
    |nx μ4 m8=>
     rw[zb]at h';intro ρ4 H4 σ4 e4 pj AL;exact⟨by lia,μ4,ρ4,m8,(e'.trans e2).trans e4,AL,pj,wS.mono h' (e2.trans e4)⟩
    |ct μ4 m8=>
     rw[zb]at h';intro ρ4 H4 σ4 e4 pj AL;exact⟨by lia,μ4,ρ4,m8,(e'.trans e2).trans e4,AL,pj,wS.mono h' (e2.trans e4)⟩
    |bk μ4 m8=>rw[zb]at h';exact fun ρ4 H4 σ4 e4 pj AL=>h' ρ4 H4 σ4 (e2.trans e4) pj AL
    |rt v m8=>rw[zb]at h';exact fun ρ4 H4 σ4 e4 pj AL=>h' ρ4 H4 σ4 (e2.trans e4) pj AL
    |er c μ4 m8=>rw[zb]at h';obtain⟨C,q1,q2⟩:=h';exact⟨C,q1,fun ρ4 H4 e4 pj=>q2 ρ4 H4 (e2.trans e4) pj⟩
    |bad=>rw[zb]at h';exact h'
  .rw[VI uV]at h';exact h'.elim
 .have z!:i=us.length:=by lia
  subst z!;rw[XI]at h';unfold forL at h';by_cases uV:g ar
  .rw[VD uV]at h';exact .inl ⟨(rJ ρ' ar H' e' B3 uV us.length).2 (VA _),h' ρ' H' σ' (aU.refl _ _) B3 El⟩
  .rw[VI uV]at h';exact h'.elim
end
def gQ(t:MT)(body:MB):Nat->Env->ag->Option cm
 |0,_,_=>none
 |n+1,μ,st=>match t μ st with
  |.ok true st1=>match body μ st1 with
   |.nx μ' ar=>gQ t body n μ' ar
   |.ct μ' ar=>gQ t body n μ' ar
   |.bk μ' ar=>some (.nx μ' ar)
   |.rt v ar=>some (.rt v ar)
   |.er c μ' ar=>some (.er c μ' ar)
   |.bad=>some .bad
  |.ok false st1=>some (.nx μ st1)
  |.err c st1=>some (.er c μ st1)
  |.bad=>some .bad
open Classical in
def cN(t:MT)(body:MB):MB:=fun μ st=>if h:∃n r,gQ t body n μ st=some r then h.choose_spec.choose else .bad
theorem kW{t:MT}{body:MB}:∀{n m:Nat}{μ:Env}{st:ag}{r r':cm},gQ t body n μ st=some r->gQ t body m μ st=some r'->r=r'
 |0,_,_,_,_,_,h,_=>by cases h
 |_+1,0,_,_,_,_,_,h=>by cases h
 |n+1,m+1,μ,st,r,r',h,h'=>by
  unfold gQ at h h';split at h
  .rename_i st1 e;rw[e]at h';dsimp only at h';split at h
   all_goals (rename_i eb;rw[eb]at h';dsimp only at h')
   .exact kW h h'
   .exact kW h h'
   all_goals (cases h;cases h';rfl)
  all_goals (rename_i e;rw[e]at h';dsimp only at h';cases h;cases h';rfl)
theorem DD{t:MT}{body:MB}{n:Nat}{μ:Env}{st:ag}{r:cm}(h:gQ t body n μ st=some r):cN t body μ st=r:=by
 have hx:∃n r,gQ t body n μ st=some r:=⟨n,r,h⟩
 unfold cN;rw[dif_pos hx];exact kW hx.choose_spec.choose_spec h
section
variable{X:Cx}{E:XK}{pos:Pos}
theorem FZ{c:Expr}{sb:List Stmt}{t:MT}{body:MB}(hp:PassesOwn (model X.prog X.w) X.A X.env X.xe)(hc:PT X c (tT X E t))(hb:kx X sb (tS X E body)):PS X (.While c sb [] pos) (tS X E (cN t body)):=by
 refine PS.imp (Ex hp hc hb) ?_;rintro D σ H ⟨μ,ρ,st,rs,sr,h⟩;unfold cN at h;split at h
 .rename_i hx;have hr:=hx.choose_spec.choose_spec;refine⟨fun m σ' H'=>∃μ' ρ' ar r,aU ρ H ρ' H'/\RS (wo X) ρ' H' μ' σ'/\SR X.K ρ' ar H'/\gQ t body m μ' ar=some r/\wS (wo X) E ρ' H' D r,⟨_,μ,ρ,st,_,aU.refl _ _,rs,sr,hr,h⟩,?_⟩;rintro m σ' H' ⟨μ',ρ',ar,r,e',El,B3,hw,hq⟩;cases m with
  |zero=>cases hw
  |succ m=>
   unfold gQ at hw;refine⟨μ',ρ',ar,El,B3,?_⟩;cases z:t μ' ar with
   |ok k st1=>
    rw[z]at hw;intro ρ1 H1 k' e1 cS ek;cases ek;cases k with
    |true=>
     dsimp only at hw;rw[VD rfl];refine⟨fun σ2 H2=>∃μ2 ρ2 cJ r2,aU ρ H ρ2 H2/\RS (wo X) ρ2 H2 μ2 σ2/\SR X.K ρ2 cJ H2/\gQ t body m μ2 cJ=some r2/\wS (wo X) E ρ2 H2 D r2,fun σ2 H2 n=>⟨m,XY m,n⟩,μ',ρ1,st1,El.mono e1,cS,?_⟩;cases zb:body μ' st1 with
     |nx μ4 m8=>
      rw[zb]at hw;intro ρ4 H4 σ4 e4 pj AL;exact⟨μ4,ρ4,m8,r,(e'.trans e1).trans e4,AL,pj,hw,wS.mono hq (e1.trans e4)⟩
     |ct μ4 m8=>
      rw[zb]at hw;intro ρ4 H4 σ4 e4 pj AL;exact⟨μ4,ρ4,m8,r,(e'.trans e1).trans e4,AL,pj,hw,wS.mono hq (e1.trans e4)⟩
     |bk μ4 m8=>rw[zb]at hw;cases hw;exact fun ρ4 H4 σ4 e4 pj AL=>hq ρ4 H4 σ4 (e1.trans e4) pj AL
     |rt v m8=>rw[zb]at hw;cases hw;exact fun ρ4 H4 σ4 e4 pj AL=>hq ρ4 H4 σ4 (e1.trans e4) pj AL
     |er c μ4 m8=>rw[zb]at hw;cases hw;obtain⟨C,q1,q2⟩:=hq;exact⟨C,q1,fun ρ4 H4 e4 pj=>q2 ρ4 H4 (e1.trans e4) pj⟩
     |bad=>rw[zb]at hw;cases hw;exact hq
    |false=>
     cases hw;rw[VI VM];exact hq ρ1 H1 σ' e1 cS (El.mono e1)
   |err c st1=>rw[z]at hw;cases hw;exact hq
   |bad=>rw[z]at hw;cases hw;exact hq
 .exact h.elim
end
def je(k:Nat)(bu:List Nat)(μ:Env):Env:=List.replicate k none++bu.map fun j=>(μ[j]?).getD none
theorem RS.cap{W:Wo}{ρ:Z0}{H:Hp}{μ:Env}{σ:L2.St}(r:RS W ρ H μ σ)(k:Nat)(bu:List Nat):RS W ρ H (je k bu μ) (qM k bu σ):=by
 refine⟨by simp[je,qM],fun i u e=>?_⟩;unfold je at e;rcases WG i k with q|q
 .rw[V0 (by rw[VU];exact q),Wz,VD q]at e;cases e
 .rw[VP (by rw[VU];exact q),VU,VG]at e;cases z:bu[i-k]? with
  |none=>rw[z]at e;cases e
  |some j=>
   rw[z]at e;have e':(μ[j]?).getD none=some u:=VR e;have e2:μ[j]?=some (some u):=by
    cases y:μ[j]? with
    |none=>rw[y]at e';cases e'
    |some w=>rw[y]at e';exact W2 _ e'
   obtain⟨v,h1,h2⟩:=r.at_ j u e2;refine⟨v,?_,h2⟩;unfold qM;rw[VP (by rw[VU];exact q),VU,VG,z];show some ((σ[j]?).getD none)=_;rw[h1];rfl
open Classical in
def du(g:ag->Prop)(a:AS)(c:MT)(e:ME):List ah->Env->ag->List ah->dh (List ah)
 |[],_,st,ys=>if g st then .ok ys st else .bad
 |u::us,τ,st,ys=>if g st then(match a u τ with
  |some τ1=>match c τ1 st with
   |.ok true st1=>match e τ1 st1 with
    |.ok y cJ=>du g a c e us τ1 cJ (ys++[y])
    |.err _ _=>.bad
    |.bad=>.bad
   |.ok false st1=>du g a c e us τ1 st1 ys
   |.err _ _=>.bad
   |.bad=>.bad
  |none=>.bad)else .bad
def dX(k:Nat)(bu:List Nat)(it:MI)(a:AS)(c:MT)(e:ME):ME:=fun μ st=>(it μ st).bind fun p st1=>
 if p.1.length<=sizeLine then(du p.2 a c e p.1 (je k bu μ) st1 []).bind fun ys cJ=>.ok (.loc cJ.length) (cJ++[.lst ys])else .bad
def bO:MT:=fun _ st=>.ok true st
abbrev W0(X:Cx):Wo:=⟨X.K,X.mg,[]⟩
section
variable{X:Cx}{E:XK}{tg elt iter:Expr}{ifs:List Expr}{scope:Scope}{pos E9:Pos}{N:Z1}{cl:List (Str×Z4)}{k:Nat}{bu:List Nat}{it:MI}{a:AS}{c:MT}{e:ME}
theorem pv(Nv:X.pn=[]){σ:L2.St}{H:Hp}{Q:VK}(h:tE X E (dX k bu it a c e) σ H Q):qi k bu (tI X E it) (tA (W0 X) a) (tG (W0 X) E0 RB c) (tG (W0 X) E0 (Rl X.K) e) σ H Q:=by
 obtain⟨μ,ρ,st,rs,sr,h⟩:=h;refine yC (go (R1:=Np X.K) μ ρ st rs sr h fun pr st1 ρ1 H1 J e1 cS rJ h1=>?_);obtain⟨us,g⟩:=pr;have ew:wo X=W0 X:=by show Wo.mk _ _ _=_;rw[Nv]
 have O2:=rs.mono e1;rw[ew]at O2 h1;dsimp only at h1;split at h1
 .rename_i hz;refine IY us.length hz (fun i ys τ H'=>∃μτ ρ' ar yv,aU ρ1 H1 ρ' H'/\RS (W0 X) ρ' H' μτ τ/\SR X.K ρ' ar H'/\bE X.K ρ' H' yv ys/\yv.length<=i/\wR (W0 X) E (Rl X.K) ρ' H' Q ((du g a c e (us.drop i) μτ ar yv).bind fun(zs:List ah)(cJ:ag)=>dh.ok (ah.loc cJ.length) (cJ++[aB.lst zs])))
   ⟨je k bu μ,ρ1,st1,[],aU.refl _ _,O2.cap k bu,cS,bE.nil,VA _,h1⟩ ?_ ?_ ?_ ?_ ?_
  .rintro i ys τ H' hi ⟨μτ,ρ',ar,yv,e',El,B3,ry,hl,hq⟩;rw[W! hi]at hq;unfold du at hq;by_cases uV:g ar
   .exact((rJ ρ' ar H' e' B3 uV i).1 _ (Vp hi)).1
   .rw[VI uV]at hq;exact hq.elim
  .rintro ys τ H' ⟨μτ,ρ',ar,yv,e',El,B3,ry,hl,hq⟩;rw[XI]at hq;unfold du at hq;by_cases uV:g ar
   .exact(rJ ρ' ar H' e' B3 uV us.length).2 (VA _)
   .rw[VI uV]at hq;exact hq.elim
  .rintro i ys τ H' ⟨μτ,ρ',ar,yv,e',El,B3,ry,hl,hq⟩;rw[<-ry.length];exact hl
  .rintro i ys τ H' x H2 hi ⟨μτ,ρ',ar,yv,e',El,B3,ry,hl,hq⟩ y K1 hK;rw[W! hi]at hq;unfold du at hq;by_cases uV:g ar
   .rw[VD uV]at hq;obtain⟨e2,oX,r2⟩:=((rJ ρ' ar H' e' B3 uV i).1 _ (Vp hi)).2 x H2 y;cases z:a us[i] μτ with
    |none=>rw[z]at hq;exact hq.elim
    |some τ1=>
     rw[z]at hq;dsimp only at hq;refine⟨μτ,ρ',us[i],τ1,El.mono e2,r2,z,fun σ3 O3=>⟨τ1,ρ',ar,O3,oX,?_⟩⟩;cases zc:c τ1 ar with
     |ok b mZ=>
      rw[zc]at hq;intro ρ3 H3 b' e3 Ay eb;cases eb;cases b with
      |true=>
       dsimp only at hq;rw[VD rfl];refine⟨τ1,ρ3,mZ,O3.mono e3,Ay,?_⟩;cases ze:e τ1 mZ with
       |ok v m8=>
        rw[ze]at hq;intro ρ4 H4 y4 e4 pj r4;exact hK _ _ _ ⟨τ1,ρ4,m8,yv++[v],((e'.trans e2).trans e3).trans e4,(O3.mono e3).mono e4,pj,(bE.mono ((e2.trans e3).trans e4) _ _ ry).append (bE.one r4),by rw[Vn,Wi];lia,wR.mono hq ((e2.trans e3).trans e4)⟩
       |err c' m8=>rw[ze]at hq;exact hq.elim
       |bad=>rw[ze]at hq;exact hq.elim
      |false=>
       dsimp only at hq;rw[VI VM];exact hK _ _ _ ⟨τ1,ρ3,mZ,yv,(e'.trans e2).trans e3,O3.mono e3,Ay,bE.mono (e2.trans e3) _ _ ry,by lia,wR.mono hq (e2.trans e3)⟩
     |err c' mZ=>rw[zc]at hq;exact hq.elim
     |bad=>rw[zc]at hq;exact hq.elim
   .rw[VI uV]at hq;exact hq.elim
  .rintro ys τ H' p ⟨μτ,ρ',ar,yv,e',El,B3,ry,hl,hq⟩ hp;rw[XI]at hq;unfold du at hq;by_cases uV:g ar
   .rw[VD uV]at hq;obtain⟨k1,k2,k3⟩:=iI B3 ry hp;exact hq _ _ _ k1 k2 k3
   .rw[VI uV]at hq;exact hq.elim
 .exact h1.elim
theorem gg(hc:X.calm=true)(Nv:X.pn=[])(B:o? X N scope cl k bu)(hi:PI X tg iter (tI X E it))(hg:∀C fp s H,PG (oW X N scope cl C fp s H) tg (tA (W0 X) a))(E_:∀C fp s H,zZ (oW X N scope cl C fp s H) ifs (tG (W0 X) E0 RB c))(he:∀C fp s H,PE (oW X N scope cl C fp s H) elt (tG (W0 X) E0 (Rl X.K) e))(hs:∀x,foldedSetIterable iter X.env x=pure x:=by intro _;rfl):PE X (.ListComp elt [⟨tg,iter,ifs,0⟩] scope pos) (tE X E (dX k bu it a c e)):=
 PE.imp (IX hc B hi hg E_ he hs) fun _ _ _ h=>pv Nv h
theorem gR(i:Nat){y:Str}{py:Pos}(hN:X.N.Nodup)(hc:X.calm=true)(Nv:X.pn=[])(B:o? X N scope cl k bu)(hi:PI X tg iter (tI X E it))(hg:∀C fp s H,PG (oW X N scope cl C fp s H) tg (tA (W0 X) a))(E_:∀C fp s H,zZ (oW X N scope cl C fp s H) ifs (tG (W0 X) E0 RB c))(he:∀C fp s H,PE (oW X N scope cl C fp s H) elt (tG (W0 X) E0 (Rl X.K) e))(hy:X.N[i]?=some y:=by rfl)(hx:Loc X.env.scope y:=by first|exact Or.inl rfl|exact Or.inr rfl)(UO:swapsWith (.ListComp elt [⟨tg,iter,ifs,0⟩] scope pos) (some (.Name y py)) E9.line X.env=pure true:=by rfl)(hs:∀x,foldedSetIterable iter X.env x=pure x:=by intro _;rfl)(hf:X.fn y=true\/X.env.scope.names.lookup y=some .local:=by first|exact .inl rfl|exact .inr rfl|assumption):
  PS X (.Assign [.Name y py] (.ListComp elt [⟨tg,iter,ifs,0⟩] scope pos) E9) (tS X E (aO i (dX k bu it a c e))):=
 PS.imp (L2.As hN hy hx hc B hi hg E_ he UO hs hf) fun _ _ _ h=>pv Nv (yH h)
theorem Js{C fp s H}:zZ (oW X N scope cl C fp s H) [] (tG (W0 X) E0 RB bO):=by intro ae s' σ H' Q I q;refine IT ae s' σ H' Q I ?_;obtain⟨μ,ρ,st,rs,sr,h⟩:=q;exact h ρ H' true (aU.refl _ _) sr rfl
theorem Jt{cc:Expr}{C fp s H}(h:PT (oW X N scope cl C fp s H) cc (tG (W0 X) E0 RB c)):zZ (oW X N scope cl C fp s H) [cc] (tG (W0 X) E0 RB c):=IU h
theorem QS{P:Z6}{w:World}{C fp s H}:Passes (nK P w) (oW X N scope cl C fp s H) E0:=by rintro ae σ H' s' e s2 I ⟨ea,cls,H2,_,_,q⟩;exact q.elim
end
abbrev FM:=ah->List ah->ag->dh ah
def SX(W:Wo)(E:XK)(f:FM):V->List V->Hp->VK->Prop:=fun x xs H Q=>∃ρ st u us,SR W.K ρ st H/\Rl W.K ρ H u x/\bE W.K ρ H us xs/\wR W E (Rl W.K) ρ H Q (f u us st)
def qo(st:ag):ah->Bool
 |.loc n=>match st[n]? with
  |some (.lst _)=>true
  |_=>false
 |_=>false
def yL(f:FM)(o:ME)(a:MA):ME:=fun μ st=>(o μ st).bind fun x st1=>if qo st1 x=true then(a μ st1).bind fun xs cJ=>f x xs cJ else .bad
def fN:FM
 |.loc n,[v],st=>match st[n]? with
  |some (.lst us)=>if us.length<sizeLine then .ok .dg (st.set n (.lst (us++[v])))else .bad
  |_=>.bad
 |_,_,_=>.bad
section
variable{X:Cx}{E:XK}{o e:Expr}{es:List Expr}{mo:ME}{ms:MA}{apos dS:Pos}{f:FM}
theorem EO.imp{id:String}{r r':V->List V->Hp->VK->Prop}(h:EO X id r)(k:∀x xs H Q,r' x xs H Q->r x xs H Q):EO X id r':=fun ae s σ H x xs v us Q I rx rs q=>h ae s σ H x xs v us Q I rx rs (k x xs H Q q)
theorem w9{K:ZW}{ρ:Z0}{st:ag}{H:Hp}{n:Nat}{us SV:List ah}{a:Z4}{vs Nk:List V}(sr:SR K ρ st H)(h:st[n]?=some (.lst us))(ha:ρ[n]?=some a)(hH:H a=some (.lst vs))(r:bE K ρ H SV Nk):
  aU ρ H ρ (upd H a (.lst Nk))/\SR K ρ (st.set n (.lst SV)) (upd H a (.lst Nk)):=by
 have e:aU ρ H ρ (upd H a (.lst Nk)):=aU.put hH (fun _ z=>by cases z) (fun _ _ z=>by cases z);exact⟨e,sr.set h rfl rfl ha hH (fun _ z=>by cases z) (fun _ _ z=>by cases z) ⟨Nk,dr,bE.mono e _ _ r⟩⟩
theorem AM:EO X "list.append" (SX (wo X) E fN):=by
 refine EO.imp C5 ?_;rintro x xs H Q ⟨ρ,st,u,us,sr,r1,r2,h⟩;unfold fN at h;split at h
 .rename_i n v;obtain⟨a,rfl,ha⟩:=r1.fC;obtain⟨y,rfl,ry⟩:=r2.Aw;split at h
  .rename_i ws hw;split at h
   .rename_i hz;obtain⟨vs,hH,rv⟩:=sr.cell n _ a hw ha;refine⟨a,vs,y,rfl,rfl,hH,by rw[<-rv.length];exact hz,?_⟩;obtain⟨k1,k2⟩:=w9 sr hw ha hH (rv.append (bE.one ry));exact h ρ _ _ k1 k2 Rl.BS
   .exact h.elim
  .exact h.elim
 .exact h.elim
theorem yM{K:ZW}{ρ:Z0}{st:ag}{H:Hp}{u:ah}{x:V}(sr:SR K ρ st H)(r:Rl K ρ H u x)(h:qo st u=true):Sw K "list" x H:=by
 cases u with
 |loc n=>
  obtain⟨a,rfl,ha⟩:=r.fC;obtain⟨c,hc,kc⟩:=sr.there ha;simp only[qo,hc]at h;cases c with
  |lst us=>obtain⟨vs,h1,_⟩:=kc;exact .inl ⟨rfl,vs,l?.of h1⟩
  |_=>cases h
 |_=>cases h
theorem Nw{name:Str}{id:String}(slot:Slot "list" name id)(Mx:typeOf (.builtin id)=pure (.type "method_descriptor"))(hm:EO X id (SX (wo X) E f))(ho:PE X o (tE X E mo))(ha:PA X (e::es) (tL X E ms))(kJ:attributeBase o name X.env (eval o X.env)=eval o X.env:=by rfl)
  (EN:((backTo dS (starEach (e::es) X.env)).all (fun x => !x.1)&&(backToKw dS (keywordEach [] X.env)).all (fun x=>x.1.isSome)
   && decide ((e::es).length+([]:List Keyword).length+(if([]:List Keyword).isEmpty then 0 else 1)<30))=true:=by rfl)
  (kK:(apos.endLine==dS.line)=true:=by rfl) (hs:starEach (e::es) X.env=(false,eval e X.env)::starEach es X.env:=by rfl) (sQ:(backTo dS (starEach es X.env)).any (·.1)=false:=by rfl):
  PE X (.Call (.Attribute o name apos) (e::es) [] dS) (tE X E (yL f mo ms)):=by
 refine PE.imp (Qc YT slot Mx hm ho ha kJ EN kK hs sQ) ?_;rintro σ H Q ⟨μ,ρ,st,rs,sr,h⟩;refine go μ ρ st rs sr h fun u st1 ρ1 H1 x e1 cS r1 h1=>?_;split at h1
 .rename_i hz;refine⟨yM cS r1 hz,?_⟩;refine go (R1:=bE X.K) μ ρ1 st1 (rs.mono e1) cS h1 fun us cJ ρ2 H2 xs e2 oX r2 h2=>?_;exact⟨ρ2,cJ,u,us,oX,Rl.mono e2 _ _ r1,r2,h2⟩
 .exact h1.elim
end
def O4{α β:Type}(W:Wo)(R:Z0->Hp->α->β->Prop)(ρ:Z0)(H:Hp)(Q:β->Hp->Prop)(EX:EH):dh α->Prop
 |.ok u ar=>∀ρ' H' v,aU ρ H ρ' H'->SR W.K ρ' ar H'->R ρ' H' u v->Q v H'
 |.err c ar=>∃C,W.mg c=some (.ref C)/\∀ρ' H' ea,aU ρ H ρ' H'->SR W.K ρ' ar H'->EX (.ref C) ea H'
 |.bad=>False
theorem O4.mono{α β:Type}{W:Wo}{R:Z0->Hp->α->β->Prop}{ρ ρ':Z0}{H H':Hp}{Q:β->Hp->Prop}{EX:EH}{r:dh α}(h:O4 W R ρ H Q EX r)(e:aU ρ H ρ' H'):O4 W R ρ' H' Q EX r:=by
 cases r with
 |ok u st=>exact fun ρ2 H2 v e2 s r=>h ρ2 H2 v (e.trans e2) s r
 |err c st=>obtain⟨C,h1,h2⟩:=h;exact⟨C,h1,fun ρ2 H2 ea e2 s=>h2 ρ2 H2 ea (e.trans e2) s⟩
 |bad=>exact h
def SY(X:Cx)(m:ME):QC:=fun σ H Q EX=>∃μ ρ st,RS (wo X) ρ H μ σ/\SR X.K ρ st H/\O4 (wo X) (Rl X.K) ρ H Q EX (m μ st)
def Ju(W:Wo)(ρ:Z0)(H:Hp)(D:Ends)(EX:EK):cm->Prop
 |.nx μ st=>∀ρ' H' σ',aU ρ H ρ' H'->SR W.K ρ' st H'->RS W ρ' H' μ σ'->D.nx σ' H'
 |.rt v st=>∀ρ' H' x,aU ρ H ρ' H'->SR W.K ρ' st H'->Rl W.K ρ' H' v x->D.rt x H'
 |.bk μ st=>∀ρ' H' σ',aU ρ H ρ' H'->SR W.K ρ' st H'->RS W ρ' H' μ σ'->D.bk σ' H'
 |.ct μ st=>∀ρ' H' σ',aU ρ H ρ' H'->SR W.K ρ' st H'->RS W ρ' H' μ σ'->D.ct σ' H'
 |.er c μ st=>∃C,W.mg c=some (.ref C)/\∀ρ' H' σ' ea,aU ρ H ρ' H'->SR W.K ρ' st H'->RS W ρ' H' μ σ'->EX (.ref C) ea σ' H'
 |.bad=>False
theorem Ju.mono{W:Wo}{ρ ρ':Z0}{H H':Hp}{D:Ends}{EX:EK}{r:cm}(h:Ju W ρ H D EX r)(e:aU ρ H ρ' H'):Ju W ρ' H' D EX r:=by
 cases r with
 |nx μ st=>exact fun ρ2 H2 σ2 e2 s r=>h ρ2 H2 σ2 (e.trans e2) s r
 |rt v st=>exact fun ρ2 H2 x e2 s r=>h ρ2 H2 x (e.trans e2) s r
 |bk μ st=>exact fun ρ2 H2 σ2 e2 s r=>h ρ2 H2 σ2 (e.trans e2) s r
 |ct μ st=>exact fun ρ2 H2 σ2 e2 s r=>h ρ2 H2 σ2 (e.trans e2) s r
 |er c μ st=>obtain⟨C,h1,h2⟩:=h;exact⟨C,h1,fun ρ2 H2 σ2 ea e2 s r=>h2 ρ2 H2 σ2 ea (e.trans e2) s r⟩
 |bad=>exact h
def O5(X:Cx)(m:MB):MY:=fun D EX σ H=>∃μ ρ st,RS (wo X) ρ H μ σ/\SR X.K ρ st H/\Ju (wo X) ρ H D EX (m μ st)
def O6{α:Type}(m:Env->ag->dh α):Env->ag->dh α:=fun μ st=>match m μ st with
 |.ok v ar=>.ok v ar
 |.err _ _=>.bad
 |.bad=>.bad
section
variable{X:Cx}{pos p:Pos}{e:Expr}{es:List Expr}{m:ME}{ms:MA}{f:FN}{x:Str}
theorem HN.imp{t t':QC}(h:HN X e t)(k:∀σ H Q EX,t' σ H Q EX->t σ H Q EX):HN X e t':=fun ae s σ H Q EX I q=>h ae s σ H Q EX I (k σ H Q EX q)
theorem I_.imp{st:Stmt}{t t':MY}(h:I_ X st t)(k:∀D EX σ H,t' D EX σ H->t D EX σ H):I_ X st t':=fun ae s σ H D EX I q=>h ae s σ H D EX I (k D EX σ H q)
theorem F_{k:Nat}{fa:Z4}{fd:FuncData}{ps:Z1}(F:kE X.prog X.w X.K X.mg X.base (nK X.prog X.w) k fa fd ps (Fx ⟨X.K,X.mg,[]⟩ f))(hr:gK k X.A)(hg:Gl X x)(hm:X.mg x=some (.ref fa))(hk:PySem.W.keepIn X.K (.ref fa)=true)(hb:Binds X.K fd ps [])(Er:∀y,X.fn y=true)(ha:∀W,PA (X.sJ W) (e::es) (tL X E0 ms))(u3:(x==("__debug__":Str))=false:=by decide)(he:starEach (e::es) X.env=(false,eval e X.env)::starEach es X.env:=by rfl)(m6:(backTo pos (starEach es X.env)).any (·.1)=false:=by rfl):
  HN X (.Call (.Name x p) (e::es) [] pos) (SY X (ai f (O6 ms))):=by
 refine HN.imp (Fi F hr hg hm hk hb Er ha u3 he m6) ?_;rintro σ H Q EX ⟨μ,ρ,st,rs,sr,h⟩;refine⟨μ,ρ,st,rs,sr,?_⟩;unfold ai O6 at h;cases z:ms μ st with
 |ok us st1=>
  rw[z]at h;intro ρ1 H1 vs e1 cS r1;refine⟨us,ρ1,st1,r1,cS,?_⟩;have h':O4 (wo X) (Rl X.K) ρ1 H1 Q EX (f us st1):=O4.mono h e1;revert h';cases f us st1 with
  |ok u cJ=>exact fun q=>q
  |err c cJ=>exact fun⟨C,q1,q2⟩=>⟨C,q1,fun ρ2 H2 e2 s2 ea=>q2 ρ2 H2 ea e2 s2⟩
  |bad=>exact fun q=>q
 |err c ar=>rw[z]at h;exact h.elim
 |bad=>rw[z]at h;exact h
theorem Nx{σ:L2.St}{H:Hp}{D:Ends}{EX:EK}{k:ah->ag->cm}{μ:Env}{ρ:Z0}{st:ag}(rs:RS (wo X) ρ H μ σ)(sr:SR X.K ρ st H)(h:Ju (wo X) ρ H D EX ((m μ st).sb μ k)){Q:VK}(c:∀u st1 ρ1 H1 x,aU ρ H ρ1 H1->SR X.K ρ1 st1 H1->Rl X.K ρ1 H1 u x->Ju (wo X) ρ1 H1 D EX (k u st1)->Q x H1):SY X m σ H Q fun cls ea H'=>EX cls ea σ H':=by
 refine⟨μ,ρ,st,rs,sr,?_⟩;cases z:m μ st with
 |ok u st1=>rw[z]at h;exact fun ρ1 H1 x e1 cS r1=>c u st1 ρ1 H1 x e1 cS r1 (Ju.mono h e1)
 |err c' st1=>rw[z]at h;obtain⟨C,q1,q2⟩:=h;exact⟨C,q1,fun ρ2 H2 ea e2 s2=>q2 ρ2 H2 σ ea e2 s2 (rs.mono e2)⟩
 |bad=>rw[z]at h;exact h
theorem F!(he:HN X e (SY X m))(hs:swapsWith e none pos.line X.env=pure false:=by rfl):I_ X (.Expr e pos) (O5 X (iB m)):=by refine I_.imp (Fj he hs) ?_;rintro D EX σ H ⟨μ,ρ,st,rs,sr,h⟩;exact Nx rs sr h fun u st1 ρ1 H1 x e1 cS r1 h1=>h1 ρ1 H1 σ (aU.refl _ _) cS (rs.mono e1)
theorem Jv{s1:Stmt}{a:MB}(h:I_ X s1 (O5 X a)):Dh X [s1] (O5 X a):=Fl h
abbrev MH:=Str->MB
def QT:MH:=fun _ _ _=>.bad
def AN:cm->cm
 |.rt v st=>.rt v st
 |_=>.bad
def vR(sub:Str->Str->Option Bool)(x:Str)(m7:MB)(rest:MH):MH:=fun c μ st=>match sub c x with
 |some true=>AN (m7 μ st)
 |some false=>rest c μ st
 |none=>.bad
def AQ(kn:Str->Bool)(body:MB)(h:MH):MB:=fun μ st=>match body μ st with
 |.er c μ' ar=>if kn c=true then h c μ' ar else .bad
 |.nx μ' ar=>.nx μ' ar
 |.rt v ar=>.rt v ar
 |.bk μ' ar=>.bk μ' ar
 |.ct μ' ar=>.ct μ' ar
 |.bad=>.bad
def Ny(X:Cx)(h:MH):I!:=fun D EX cls ea σ H=>∃c C μ ρ st,X.mg c=some (.ref C)/\cls=.ref C/\RS (wo X) ρ H μ σ/\SR X.K ρ st H/\Ju (wo X) ρ H D EX (h c μ st)
theorem PH.imp{hs:List ExceptHandler}{t t':I!}(h:PH X hs t)(k:∀D EX cls ea σ H,t' D EX cls ea σ H->t D EX cls ea σ H):PH X hs t':=fun ae s σ H D EX ea cls J q=>h ae s σ H D EX ea cls J (k D EX cls ea σ H q)
theorem Nz:PH X [] (Ny X QT):=PH.imp M1 fun D EX cls ea σ H q=>by obtain⟨c,C,μ,ρ,st,_,_,_,_,h⟩:=q;exact h
def QU(K:ZW)(mg:ZU)(sub:Str->Str->Option Bool):Prop:=∀c x b C D,sub c x=some b->mg c=some (.ref C)->mg x=some (.ref D)->W.kitCls K (.ref C) (.ref D)=some b
theorem BU.pn{K:ZW}{mg:ZU}{pn M6:ZV}(hp:∀q∈pn,q∈M6){ρ:Z0}{H:Hp}{u:ah}{v:V}(h:BU ⟨K,mg,pn⟩ ρ H u v):BU ⟨K,mg,M6⟩ ρ H u v:=by
 cases u with
 |exc c=>obtain⟨a,oe,C,h1,h2,h3⟩:=h;exact⟨a,oe,C,h1,hp _ h2,h3⟩
 |_=>exact h
theorem RS.pn{K:ZW}{mg:ZU}{pn M6:ZV}(hp:∀q∈pn,q∈M6){ρ:Z0}{H:Hp}{μ:Env}{σ:L2.St}(h:RS ⟨K,mg,pn⟩ ρ H μ σ):RS ⟨K,mg,M6⟩ ρ H μ σ:=
 ⟨h.len,fun i u e=>let⟨v,h1,h2⟩:=h.at_ i u e;⟨v,h1,h2.pn hp⟩⟩
theorem F?{C:Z4}{np:Pos}{b₀:Stmt}{m7:List Stmt}{rest:List ExceptHandler}{sub:Str->Str->Option Bool}{s:MB}{r:MH}(hS:QU X.K X.mg sub)(hg:Gl X x)(hm:X.mg x=some (.ref C))(hB:W.subIn X.K (.ref C) (.type "BaseException")=some true)(hs:∀ea oe,nu oe->kx (L2.BR X ea oe) (b₀::m7) (tS (L2.BR X ea oe) E0 s))(hr:PH X rest (Ny X r))(hd:(x==("__debug__":Str))=false:=by decide):PH X (.ExceptHandler (some (.Name x np)) none (b₀::m7) pos::rest) (Ny X (vR sub x s r)):=by
 refine PH.imp (Fm hg hm hB hs hr hd) ?_;rintro D EX cls ea σ H ⟨c,C',μ,ρ,st,h1,rfl,rs,sr,h⟩;unfold vR at h;split at h
 .rename_i e;refine⟨true,hS c x true C' C e h1 hm,?_⟩;rw[VD rfl];intro oe KL;refine⟨μ,ρ,st,RS.pn (fun q hq=>VN _ hq) rs,sr,?_⟩;revert h;cases s μ st with
  |rt v ar=>exact fun q=>q
  |_=>exact fun q=>q.elim
 .rename_i e;refine⟨false,hS c x false C' C e h1 hm,?_⟩;rw[VI VM];exact⟨c,C',μ,ρ,st,h1,rfl,rs,sr,h⟩
 .exact h.elim
def Known(mg:ZU)(kn:Str->Bool):Prop:=∀c,kn c=true->∃C,mg c=some (.ref C)
theorem Ga{kn:Str->Bool}{b:MB}{h:MH}(hk:Known X.mg kn){D:Ends}{EX:EK}{σ:L2.St}{H:Hp}(q:O5 X (AQ kn b h) D EX σ H):O5 X b D (fun cls ea σ' H'=>Ny X h D EX cls ea σ' H') σ H:=by
 obtain⟨μ,ρ,st,rs,sr,q⟩:=q;refine⟨μ,ρ,st,rs,sr,?_⟩;unfold AQ at q;cases z:b μ st with
 |er c μ' ar=>
  rw[z]at q;dsimp only at q;split at q
  .rename_i hc;obtain⟨C,hC⟩:=hk c hc;exact⟨C,hC,fun ρ' H' σ' ea e s r=>⟨c,C,μ',ρ',ar,hC,rfl,r,s,Ju.mono q e⟩⟩
  .exact q.elim
 |_=>rw[z]at q;exact q
def yN(m:MB):MB:=fun μ st=>match m μ st with
 |.er _ _ _=>.bad
 |.nx μ' ar=>.nx μ' ar
 |.rt v ar=>.rt v ar
 |.bk μ' ar=>.bk μ' ar
 |.ct μ' ar=>.ct μ' ar
 |.bad=>.bad
theorem NA{E:XK}{kn:Str->Bool}{body:List Stmt}{h₀:ExceptHandler}{hs:List ExceptHandler}{b:MB}{h:MH}(hk:Known X.mg kn)(dx:DefX X)(hb:Dh X body (O5 X b))(hh:PH X (h₀::hs) (Ny X h)):PS X (.Try body (h₀::hs) [] [] pos) (tS X E (yN (AQ kn b h))):=by
 refine PS.imp (M3 dx hb hh) ?_;rintro D σ H ⟨μ,ρ,st,rs,sr,q⟩;refine Ga (EX:=fun _ _ _ _=>False) hk ⟨μ,ρ,st,rs,sr,?_⟩;unfold yN at q;revert q;cases AQ kn b h μ st with
 |er c μ' ar=>exact fun q=>q.elim
 |_=>exact fun q=>q
def QV(sub:Str->Str->Option Bool)(i:Nat)(x:Str):ME:=fun μ st=>match μ[i]? with
 |some (some (.exc c))=>(match sub c x with
  |some true=>.ok (.bl true) st
  |_=>.bad)
 |_=>.bad
end
inductive gS(X:Cx)(scope:Scope):List (Str×Z4)->List Nat->Prop
 |nil:gS X scope [] []
 |cons {y:Str} {c:Z4} {j:Nat} {cl:List (Str×Z4)} {bu:List Nat} (sub:X.env.cells.lookup y=some c) (hX:X.N[j]?=some y) (hk:X.env.kindOf y=some .cell\/X.env.kindOf y=some .free)
   (hr:(relabel scope X.env).names.lookup y=some .cell\/(relabel scope X.env).names.lookup y=some .free) (r:gS X scope cl bu):gS X scope ((y,c)::cl) (j::bu)
theorem gS.sub{X:Cx}{scope:Scope}{cl:List (Str×Z4)}{bu:List Nat}(A:gS X scope cl bu):∀x c,cl.lookup x=some c->X.env.cells.lookup x=some c:=by
 induction A with
 |nil=>intro x c h;cases h
 | @cons y c0 _ _ _ sub _ _ _ _ ih=>
  intro x c h;rw[List.lookup_cons]at h;by_cases e:x=y
  .rw[W9.mpr e]at h;rw[e];exact sub.trans h
  .rw[Xr.mpr e]at h;exact ih x c h
theorem gS.at_{X:Cx}{scope:Scope}{cl:List (Str×Z4)}{bu:List Nat}(A:gS X scope cl bu):∀(i j:Nat)(x:Str),bu[i]?=some j->(cl.map (·.1))[i]?=some x ->
  X.N[j]?=some x/\(X.env.kindOf x=some .cell\/X.env.kindOf x=some .free)/\((relabel scope X.env).names.lookup x=some .cell\/(relabel scope X.env).names.lookup x=some .free):=by
 induction A with
 |nil=>intro i j x h;cases h
 |cons _ hX hk hr _ ih=>
  intro i j x h h2;cases i with
  |zero=>cases h;cases h2;exact⟨hX,hk,hr⟩
  |succ i=>exact ih i j x h h2
theorem ju:∀{cl:List (Str×Z4)}{x:Str},x∈cl.map (·.1)->∃c,cl.lookup x=some c
 |[],x,h=>by simp at h
 |(y,c)::cl,x,h=>by
  by_cases e:x=y
  .exact⟨c,by simp[e]⟩
  .have e':(x==y)=false:=by simpa using e
   rw[Vr,VT]at h;rcases h with h|h
   .exact absurd h e
   .obtain⟨d,hd⟩:=ju h;exact⟨d,by simp only[List.lookup_cons,e'];exact hd⟩
theorem QW{X:Cx}{N:Z1}{scope:Scope}{k:Nat}{cl:List (Str×Z4)}{bu:List Nat}(pb:closureFor scope X.env=pure cl)(A:gS X scope cl bu)(has:((relabel scope X.env).names.all fun p => !(p.2 == .cell || p.2 == .free) || (cl.map (·.1)).contains p.1)=true)(iQ:(scope.names.all fun p => !(p.2 == .cell))=true)(kind:scope.kind=.function)(names:(scope.names.all fun p => !(p.2 == .local) || scope.names.lookup p.1==some .local)=true)(len:N.length=k+bu.length)(hN:N.drop k=cl.map (·.1)):o? X N scope cl k bu where
 pb:=pb
 sub:=A.sub
 has:=fun x h=>by
  have m:x∈cl.map (·.1):=by rcases h with h|h<;>(have m:=WS h;have z:=WA.mp has _ m;simpa using z)
  exact ju m
 iQ:=fun x hx h=>by have z:=WA.mp iQ x hx;simp[h]at z
 kind:=kind
 names:=fun x hx h=>by have z:=WA.mp names x hx;simpa[h]using z
 len:=len
 at_:=fun i j x h1 h2=>A.at_ i j x h1 (by rw[<-hN,YH];exact h2)
def FnAt(P:Z6)(w:World)(K:ZW)(mg:ZU)(base:Heap)(x:Str)(k:Nat)(f:FN):Prop:=
 ∃fa fd ps,kE P w K mg base (nK P w) k fa fd ps (Fx ⟨K,mg,[]⟩ f)/\mg x=some (.ref fa)/\W.keepIn K (.ref fa)=true/\Binds K fd ps []
section
variable{X:Cx}{E:XK}{pos p:Pos}{e:Expr}{es:List Expr}{ms:MA}{f:FN}{x:Str}{k j:Nat}
theorem QX(G:FnAt X.prog X.w X.K X.mg X.base x k f)(hr:gK j X.A)(hk:k<=j)(hg:Gl X x)(hx:Passes (nK X.prog X.w) X E)(ha:PA X (e::es) (tL X E ms))(u3:(x==("__debug__":Str))=false:=by decide)(he:starEach (e::es) X.env=(false,eval e X.env)::starEach es X.env:=by rfl)(m6:(backTo pos (starEach es X.env)).any (·.1)=false:=by rfl):PE X (.Call (.Name x p) (e::es) [] pos) (tE X E (ai f ms)):=by obtain⟨fa,fd,ps,F,hm,kp,b⟩:=G;exact Jf F (hr.mono hk) hg hm kp b hx ha u3 he m6
theorem NB(G:FnAt X.prog X.w X.K X.mg X.base x k f)(hr:gK j X.A)(hk:k<=j)(hg:Gl X x)(Er:∀y,X.fn y=true)(ha:∀W,PA (X.sJ W) (e::es) (tL X E0 ms))(u3:(x==("__debug__":Str))=false:=by decide)(he:starEach (e::es) X.env=(false,eval e X.env)::starEach es X.env:=by rfl)(m6:(backTo pos (starEach es X.env)).any (·.1)=false:=by rfl):HN X (.Call (.Name x p) (e::es) [] pos) (SY X (ai f (O6 ms))):=by obtain⟨fa,fd,ps,F,hm,kp,b⟩:=G;exact F_ F (hr.mono hk) hg hm kp b Er ha u3 he m6
end
section
variable{P:Z6}{w:World}{K:ZW}{mg:ZU}{base:Heap}
theorem FnAt.mk{x:Str}{st:Stmt}{f:Z4}{fd:FuncData}{N ps:Z1}{k:Nat}{body:MB}(F:IK K x x st f fd)(hm:mg x=some (.ref f))(S:gY N ps (a_ st))(hb:∀(kV doc pm:Z2)(an:Option Z4)(fV ct:Z2)(us:ZY),us.length=ps.length->bindArgs (W.fnOf x x (gZ st) (e_ st) (a_ st) .none kV doc pm an fV ct) ⟨us,[]⟩=pure (ps.zip us))
  (h:∀ (fV:Z2) (A:Z5) (outer:List PySem.Env) (s:Z3) (H:Hp) (E:XK),gK k (A.deeper (envOfC x (a_ st) s.heap.objs.size f fV)) ->
   kx (jr (nK P w) P w K mg base N x (a_ st) f fV A outer s H E) (e_ st) (tS (jr (nK P w) P w K mg base N x (a_ st) f fV A outer s H E) E body)):FnAt P w K mg base x (k+1) (gO ps.length N.length body):=
 ⟨f,fd,ps,FD F S h,hm,F.kp,F.binds hb⟩
theorem yO{N:Z1}{qual:Str}{scope:Scope}{f:Z4}{cd:Z2}{A:Z5}{outer:List PySem.Env}{s₀:Z3}{H₀:Hp}{E:XK}:PassesOwn (model P w) (A.deeper (envOfC qual scope s₀.heap.objs.size f cd)) (envOfC qual scope s₀.heap.objs.size f cd) (jr (nK P w) P w K mg base N qual scope f cd A outer s₀ H₀ E).xe:=
 PassesOwn.leaving
theorem AR{N:Z1}{qual:Str}{scope:Scope}{f:Z4}{cd:Z2}{A:Z5}{outer:List PySem.Env}{s₀:Z3}{H₀:Hp}{E:XK}:Raises (jr (nK P w) P w K mg base N qual scope f cd A outer s₀ H₀ E) E:=
 fun ae σ H s h' e cls vs I hx hE=>Dd I hx hE
theorem Glob.int{x:Str}{i:Int}{t:Tok}(h:mg x=some (.int i t)):Glob K mg x (.int i):=⟨_,.int i,h,⟨t,rfl⟩,fun _ _=>Rl.mkInt i⟩
theorem Glob.ints{x:Str}{a:Z4}{o:Obj}{aV:Array Z2}{n:Nat}{ns:ZX}(h:mg x=some (.ref a))(l:K.lookup a=some o)(hc:o.cls=.type "tuple")(hd:o.data=.seq aV n)(hz:aV.size<=sizeLine)(hv:bA (ns.map V.int) aV.toList):Glob K mg x (.mt (ns.map .int)):=
 ⟨_,.ref a,h,rfl,fun ρ H=>Rl.U3 (.inr ⟨o,aV,n,l,hc,hd,hz,hv⟩) (bE.ints ns)⟩
def B4(K:ZW):Sp:=fun vs H Q _=>∃(a:Z4)(ns:ZX),vs=[.ref a]/\II H/\l? K H a (ns.map V.int)/\ns.length<=63/\∀H',Q (.bl true) H'
theorem NC{H:Hp}{a:Z4}{c:aB}(k:iR K [a] H c a):SR K [a] [c] H:=by
 refine⟨rfl,fun n m b h1 h2 _ _=>?_,fun n c' b h1 h2=>?_⟩
 .have p1:=bf h1;have p2:=bf h2;simp at p1 p2;lia
 .have p1:=bf h1;simp at p1;subst p1;cases h1;cases h2;exact k
theorem ND{f:FN}(hf:∀(c:aB)(ns:ZX),ns.length<=63->ak [c] 0=some (ns.map ah.int)->∃ar,f [.loc 0] [c]=.ok (.bl true) ar){vs:List V}{H:Hp}{Q:VK}{E:XK}(h:B4 K vs H Q E):Fx ⟨K,mg,[]⟩ f vs H Q E:=by
 obtain⟨a,ns,rfl,hO,hS,hl,q⟩:=h;have fin:∀c:aB,iR K [a] H c a->ak [c] 0=some (ns.map ah.int)->Fx ⟨K,mg,[]⟩ f [.ref a] H Q E:=by intro c k hi;obtain⟨ar,e⟩:=hf c ns hl hi;refine⟨[.loc 0],[a],[c],bE.one (Rl.Fo rfl),NC k,?_⟩;rw[e];intro ρ' H' v _ _ r;rw[r.ql];exact q H'
 rcases hS with(h|⟨o,h⟩)|h
 .rcases hO a with z|⟨o,xs,z⟩<;>(rw[z]at h;cases h)
 .exact fin (.M5 (ns.map .int)) ⟨o,_,h,bE.ints ns⟩ rfl
 .exact fin (.mod (ns.map .int)) ⟨_,h,bE.ints ns⟩ rfl
theorem Gb{l:W.OpenLaw}{q:Z6}{loose:Z1}{XP:(ZU)->Heap->Prop}{YP:World->Heap->Prop}{d:DefRec}{K:Params->ZW}{x:Str}{k:Nat}(hn:l.most=some 63)(Qg:d.params.defaults=[])(hr:gK k callerA)(hY:∀(w:World)(h:Heap),YP w h->(K w.params).In h)
  (F:∀ (w:World) (mg:ZU) (fa:Z4) (h:Heap),(K w.params).In h->h.Ns mainGlobals mg->mg d.name=some (.ref fa) ->
   ∃fd:FuncData,(∀(s:Z3)(u:Z2),BindsTo s fd ⟨[u],[]⟩ [(x,u)])/\∀base:Heap,(K w.params).In base->base.Ns mainGlobals mg->kE l.prog w (K w.params) mg base (nK l.prog w) k fa fd [x] (B4 (K w.params))):
  W.WalkO q loose XP YP l.row.toRowW d [] (fun f vs=>PySem.call f vs):=
 L2.IJ (n:=63) (k:=k) (x:=x) (CX:=fun w=>nK l.prog w) (sp:=fun w=>B4 (K w.params)) hn (by decide) Qg hr hY F (fun _ _ a ns hl hO hS=>⟨a,ns,rfl,hO,hS,hl,fun _=>rfl⟩) fun _ _ _ _ _⟨_,_,_,_,_,z⟩=>z
end
theorem u_:bootBuiltins "ValueError" = some (.type "ValueError"):=by decide +kernel
abbrev bmV:ZY:=[.type "ValueError",.type "Exception",.type "BaseException",.type "object"]
def Jw(K:ZW)(mg:ZU)(x:Str):Prop:=∃C,mg x=some (.ref C)/\W.excIn K C bmV "ValueError.__new__" = true/\W.subIn K (.ref C) (.type "BaseException")=some true
theorem DE{K:ZW}{D:Z4}{t:Z2}{cd:ClassData}{b:Bool}(h1:W.clsIn K D=some cd)(h2:W.typeIn K (.ref D)=some (.type "type"))(h3:W.subIn K t (.ref D)=some b):W.kitCls K t (.ref D)=some b:=by show(if((W.clsIn K D).isSome&&W.typeIn K (.ref D)==some (.type "type"))=true then W.subIn K t (.ref D)else none)=some b;rw[h1,h2,h3];rfl
inductive ik(K:ZW)(mg:ZU):List (Str×Str×Bool)->Prop
 |nil:ik K mg []
 |own {c x:Str} {b:Bool} {C D:Z4} {r:List (Str×Str×Bool)} (h1:mg c=some (.ref C)) (h2:mg x=some (.ref D)) (h3:W.kitCls K (.ref C) (.ref D)=some b) (hr:ik K mg r):ik K mg ((c,x,b)::r)
 |blt {c x:Str} {n:String} {C:Z4} {r:List (Str×Str×Bool)} (h1:mg c=some (.ref C)) (h2:mg x=none) (Jx:bootBuiltins x=some (.type n)) (h3:W.kitOne K (.ref C) (.type n)=some true) (hr:ik K mg r):ik K mg ((c,x,true)::r)
def AU(tab:List (Str×Str×Bool))(c x:Str):Option Bool:=match tab with
 |[]=>none
 |(c',x',b)::r=>if c'=c/\x'=x then some b else AU r c x
section
variable{K:ZW}{mg:ZU}
theorem ik.U_{tab:List (Str×Str×Bool)}(S:ik K mg tab):QU K mg (AU tab):=by
 induction S with
 |nil=>intro c x b C D h;cases h
 | @own c' x' _ _ _ _ h1 h2 h3 _ ih=>
  intro c x b C D h e1 e2;rw[AU]at h;by_cases z:c'=c/\x'=x
  .rw[VD z]at h;cases h;rw[z.1,e1]at h1;cases h1;rw[z.2,e2]at h2;cases h2;exact h3
  .rw[VI z]at h;exact ih c x b C D h e1 e2
 | @blt c' x' _ _ _ h1 h2 _ _ _ ih=>
  intro c x b C D h e1 e2;rw[AU]at h;by_cases z:c'=c/\x'=x
  .rw[z.2,e2]at h2;cases h2
  .rw[VI z]at h;exact ih c x b C D h e1 e2
def U!(l:Z1)(c:Str):Bool:=l.contains c
end
section
variable{X:Cx}{E:XK}{pos np dS p q1 q2:Pos}{x n:Str}{e₀:Expr}{es:List Expr}{ms:MA}{i:Nat}{b₀:Stmt}{m7:List Stmt}{rest:List ExceptHandler}{tab:List (Str×Str×Bool)}{s:MB}{r:MH}
theorem DF(hX:Raises X E)(hc:X.calm=true)(h:Jw X.K X.mg x)(hg:Gl X x)(ha:PA X (e₀::es) (tL X E ms))(he:starEach (e₀::es) X.env=(false,eval e₀ X.env)::starEach es X.env:=by rfl)(m6:(backTo dS (starEach es X.env)).any (·.1)=false:=by rfl)(hd:(x==("__debug__":Str))=false:=by decide):
  PS X (.Raise (some (.Call (.Name x np) (e₀::es) [] dS)) none pos) (tS X E (iS x ms)):=by
 obtain⟨C,hm,hq,_⟩:=h;exact FC hX hc hm hq PySem.F.excBase_ValueError hg ha he m6 hd
theorem DG(hS:ik X.K X.mg tab)(h:Jw X.K X.mg x)(hg:Gl X x)(hs:∀ea oe,nu oe->kx (L2.BR X ea oe) (b₀::m7) (tS (L2.BR X ea oe) E0 s))(hr:PH X rest (Ny X r))(hd:(x==("__debug__":Str))=false:=by decide):
  PH X (.ExceptHandler (some (.Name x np)) none (b₀::m7) pos::rest) (Ny X (vR (AU tab) x s r)):=by
 obtain⟨C,hm,_,hB⟩:=h;exact F? hS.U_ hg hm hB hs hr hd
end
section
variable{κ:Type}[DecidableEq κ]
def px(aY:List (κ×ah))(k:κ):Option ah:=(aY.find? fun kv=>decide (kv.1=k)).map (·.2)
def w_(aY:List (κ×ah))(k:κ)(v:ah):List (κ×ah):=
 if(aY.any fun kv=>decide (kv.1=k))=true then aY.map (fun kv=>if kv.1=k then(kv.1,v)else kv)else aY++[(k,v)]
variable{K:ZW}{ρ ρ':Z0}{H H':Hp}
theorem jd.nil:jd K ρ H ([]:List (κ×ah)) []:=⟨rfl,bE.nil⟩
theorem jd.cons{k:κ}{u:ah}{v:V}{aY:List (κ×ah)}{g7:List (κ×V)}(r:Rl K ρ H u v)(p:jd K ρ H aY g7):jd K ρ H ((k,u)::aY) ((k,v)::g7):=
 ⟨by simp only[Vr,p.1],bE.cons r p.2⟩
theorem jd.dM{k:κ}{u:ah}{aY:List (κ×ah)}{l:List (κ×V)}(p:jd K ρ H ((k,u)::aY) l):∃v g7,l=(k,v)::g7/\Rl K ρ H u v/\jd K ρ H aY g7:=by
 obtain⟨h1,h2⟩:=p;cases l with
 |nil=>simp at h1
 |cons x l=>
  obtain⟨k',v⟩:=x;simp only[Vr,List.cons.injEq]at h1 h2;obtain⟨rfl,h1⟩:=h1;obtain⟨v',r,e,q1,q2⟩:=h2.dM;simp only[List.cons.injEq]at e;obtain⟨rfl,rfl⟩:=e;exact⟨v,l,rfl,q1,h1,q2⟩
theorem jd.gM{l:List (κ×V)}(p:jd K ρ H ([]:List (κ×ah)) l):l=[]:=by
 have:=p.1;cases l with
 |nil=>rfl
 |cons=>simp at this
theorem jd.mono{aY:List (κ×ah)}{l:List (κ×V)}(p:jd K ρ H aY l)(e:aU ρ H ρ' H'):jd K ρ' H' aY l:=⟨p.1,bE.mono e _ _ p.2⟩
theorem jd.length{aY:List (κ×ah)}{l:List (κ×V)}(p:jd K ρ H aY l):aY.length=l.length:=by have:=W2 List.length p.1;simpa using this
theorem jd.val(k:κ):∀{aY:List (κ×ah)}{l:List (κ×V)},jd K ρ H aY l->(px aY k=none/\jQ l k=none)\/∃u v,px aY k=some u/\jQ l k=some v/\Rl K ρ H u v
 |[],l,p=>by rw[p.gM];exact .inl ⟨rfl,rfl⟩
 |(k',u)::aY,l,p=>by
  obtain⟨v,l',rfl,r,p'⟩:=p.dM;by_cases e:k'=k
  .exact .inr ⟨u,v,by simp[px,e],by simp[jQ,e],r⟩
  .rcases jd.val k p' with⟨h1,h2⟩|⟨u',v',h1,h2,h3⟩
   .exact .inl ⟨by simpa[px,e]using h1,by simpa[jQ,e]using h2⟩
   .exact .inr ⟨u',v',by simpa[px,e]using h1,by simpa[jQ,e]using h2,h3⟩
theorem jd.any(k:κ):∀{aY:List (κ×ah)}{l:List (κ×V)},jd K ρ H aY l->(aY.any fun kv=>decide (kv.1=k))=l.any fun kv=>decide (kv.1=k)
 |[],l,p=>by rw[p.gM];rfl
 |(k',u)::aY,l,p=>by obtain⟨v,l',rfl,r,p'⟩:=p.dM;simp only[Xw,jd.any k p']
theorem jd.Ap(k:κ){u:ah}{v:V}(r:Rl K ρ H u v):∀{aY:List (κ×ah)}{l:List (κ×V)},jd K ρ H aY l->jd K ρ H (aY.map fun kv=>if kv.1=k then(kv.1,u)else kv) (l.map fun kv=>if kv.1=k then(kv.1,v)else kv)
 |[],l,p=>by rw[p.gM];exact jd.nil
 |(k',u')::aY,l,p=>by
  obtain⟨v',l',rfl,r',p'⟩:=p.dM;simp only[Vr];by_cases e:k'=k
  .rw[VD e,VD e];exact jd.cons r (jd.Ap k r p')
  .rw[VI e,VI e];exact jd.cons r' (jd.Ap k r p')
theorem jd.snoc{k:κ}{u:ah}{v:V}(r:Rl K ρ H u v):∀{aY:List (κ×ah)}{l:List (κ×V)},jd K ρ H aY l->jd K ρ H (aY++[(k,u)]) (l++[(k,v)])
 |[],l,p=>by rw[p.gM];exact jd.cons r jd.nil
 |(k',u')::aY,l,p=>by obtain⟨v',l',rfl,r',p'⟩:=p.dM;exact jd.cons r' (jd.snoc r p')
theorem jd.put(k:κ){u:ah}{v:V}(r:Rl K ρ H u v){aY:List (κ×ah)}{l:List (κ×V)}(p:jd K ρ H aY l):jd K ρ H (w_ aY k u) (putK l k v):=by
 unfold w_ putK;rw[p.any k];split
 .exact p.Ap k r
 .exact p.snoc r
end
def tu:ah->Option e8
 |.int i=>some (.inl i)
 |.str x=>some (.inr x)
 |_=>none
def keysOf:List ah->Option (List e8)
 |[]=>some []
 |u::us=>match tu u,keysOf us with
  |some k,some ks=>some (k::ks)
  |_,_=>none
def tw:ah->Option (List e8)
 |.tup us=>keysOf us
 |_=>none
section
variable{K:ZW}{ρ:Z0}{H:Hp}
theorem w!{u:ah}{v:V}{k:e8}(r:Rl K ρ H u v)(h:tu u=some k):v=kV k:=by
 cases u with
 |int i=>cases h;exact r.cT
 |str x=>cases h;exact r.jS
 |_=>cases h
theorem yP:∀{us:List ah}{vs:List V}{ks:List e8},bE K ρ H us vs->keysOf us=some ks->vs=ks.map kV
 |[],vs,ks,r,h=>by cases h;exact r.gM
 |u::us,vs,ks,r,h=>by
  obtain⟨v,r',rfl,h2,h3⟩:=r.dM;unfold keysOf at h;split at h
  .rename_i k ks' e1 e2;cases h;rw[w! h2 e1,yP h3 e2];rfl
  .cases h
theorem yQ{u:ah}{v:V}{ks:List e8}(r:Rl K ρ H u v)(h:tw u=some ks):∃b,v=.ref b/\H b=some (.tup (ks.map kV)):=by
 cases u with
 |tup us=>
  obtain⟨b,vs,rfl,hb,rb⟩:=r.QG;rw[yP rb h]at hb;exact⟨b,rfl,hb⟩
 |_=>cases h
end
def B5(st:ag)(d k:ah):Option (Option ah):=match d with
 |.loc n=>match st[n]? with
  |some (.dK aY)=>(tu k).map fun q=>px aY q
  |some (.dT aY)=>(tw k).map fun q=>px aY q
  |_=>none
 |_=>none
def pz(st:ag)(d k v:ah):Option ag:=match d with
 |.loc n=>match st[n]? with
  |some (.dK aY)=>if aY.length<sizeLine then(tu k).map fun q=>st.set n (.dK (w_ aY q v))else none
  |some (.dT aY)=>if aY.length<sizeLine then(tw k).map fun q=>st.set n (.dT (w_ aY q v))else none
  |_=>none
 |_=>none
theorem DH{K:ZW}{ρ:Z0}{st:ag}{H:Hp}{d k:ah}{x y:V}{o:Option ah}(sr:SR K ρ st H)(rd:Rl K ρ H d x)(rk:Rl K ρ H k y)(h:B5 st d k=some o):
  ∃a o',x=.ref a/\u6 H a y o'/\IsD H a/\((o=none/\o'=none)\/∃u v,o=some u/\o'=some v/\Rl K ρ H u v):=by
 cases d with
 |loc n=>
  obtain⟨a,rfl,ha⟩:=rd.fC;unfold B5 at h;dsimp only at h;split at h
  .rename_i aY e;obtain⟨l,hl,p⟩:=sr.cell n _ a e ha;cases z:tu k with
   |none=>rw[z]at h;cases h
   |some q=>
    rw[z]at h;cases h;have:=w! rk z;subst this;exact⟨a,jQ l q,rfl,u6.k hl,.inl ⟨l,.inl hl⟩,p.val q⟩
  .rename_i aY e;obtain⟨l,hl,p⟩:=sr.cell n _ a e ha;cases z:tw k with
   |none=>rw[z]at h;cases h
   |some q=>
    rw[z]at h;cases h;obtain⟨b,rfl,hb⟩:=yQ rk z;exact⟨a,jQ l q,rfl,u6.t hl hb,.inr ⟨l,.inl hl⟩,p.val q⟩
  .cases h
 |_=>cases h
theorem AV{K:ZW}{ρ:Z0}{st ar:ag}{H:Hp}{d k v:ah}{x y z:V}(sr:SR K ρ st H)(rd:Rl K ρ H d x)(rk:Rl K ρ H k y)(rv:Rl K ρ H v z)(h:pz st d k v=some ar):
  ∃a H',x=.ref a/\wQ H a y z H'/\aU ρ H ρ H'/\SR K ρ ar H':=by
 cases d with
 |loc n=>
  obtain⟨a,rfl,ha⟩:=rd.fC;unfold pz at h;dsimp only at h;split at h
  .rename_i aY e;obtain⟨l,hl,p⟩:=sr.cell n _ a e ha;split at h
   .rename_i hz;cases zk:tu k with
    |none=>rw[zk]at h;cases h
    |some q=>
     rw[zk]at h;cases h;have:=w! rk zk;subst this;have st1:aU ρ H ρ (upd H a (.dK (putK l q z))):=aU.put hl (fun _ z=>by cases z) (fun _ _ z=>by cases z);exact⟨a,_,rfl,wQ.k hl (by rw[<-p.length];exact hz),st1,sr.set e rfl rfl ha hl (fun _ z=>by cases z) (fun _ _ z=>by cases z) ⟨_,dr,(p.put q rv).mono st1⟩⟩
   .cases h
  .rename_i aY e;obtain⟨l,hl,p⟩:=sr.cell n _ a e ha;split at h
   .rename_i hz;cases zk:tw k with
    |none=>rw[zk]at h;cases h
    |some q=>
     rw[zk]at h;cases h;obtain⟨b,rfl,hb⟩:=yQ rk zk;have st1:aU ρ H ρ (upd H a (.dT (putK l q z))):=aU.put hl (fun _ z=>by cases z) (fun _ _ z=>by cases z);exact⟨a,_,rfl,wQ.t hl hb (by rw[<-p.length];exact hz),st1,sr.set e rfl rfl ha hl (fun _ z=>by cases z) (fun _ _ z=>by cases z) ⟨_,dr,(p.put q rv).mono st1⟩⟩
   .cases h
  .cases h
 |_=>cases h
def w?:ME:=fun _ st=>.ok (.loc st.length) (st++[.dK []])
def qp:F2:=fun d k st=>match B5 st d k with
 |some (some v)=>.ok v st
 |_=>.bad
def xa(d k v:ME):MB:=fun μ st=>(v μ st).sb μ fun vv st1=>(d μ st1).sb μ fun dv cJ=>(k μ cJ).sb μ fun kv mZ=>match pz mZ dv kv vv with
 |some m8=>.nx μ m8
 |none=>.bad
section
variable{X:Cx}{E:XK}{pos pos' apos dS:Pos}{o i e f value:Expr}{md mk mv mx:ME}
theorem Gd{K:ZW}{ρ:Z0}{st:ag}{H:Hp}(sr:SR K ρ st H){p:Z4}(hp:H p=none){ob:HO}{c:aB}(k:iR K (ρ++[p]) (upd H p ob) c p):
  aU ρ H (ρ++[p]) (upd H p ob)/\SR K (ρ++[p]) (st++[c]) (upd H p ob)/\Rl K (ρ++[p]) (upd H p ob) (.loc st.length) (.ref p):=by
 refine⟨aU.snoc p (eI hp),sr.alloc hp k,Rl.Fo ?_⟩;rw[<-sr.len,VP (VA _),WT];rfl
theorem Ge:PE X (.Dict [] [] pos) (tE X E w?):=by refine PE.imp E5 ?_;rintro σ H Q ⟨μ,ρ,st,rs,sr,h⟩ p hp;obtain⟨k1,k2,k3⟩:=Gd (c:=.dK []) sr hp ⟨[],dr,jd.nil⟩;exact h _ _ _ k1 k2 k3
theorem Jy(hu:X.A.units+64<cLine)(ho:PE X o (tE X E md))(hi:PE X i (tE X E mk))(hs:ML i:=by exact fun _ _=>rfl):PE X (.Subscript o i pos) (tE X E (af qp md mk)):=by
 refine PE.imp (IP (by lia) ho hi hs) ?_;rintro σ H Q ⟨μ,ρ,st,rs,sr,h⟩;refine go μ ρ st rs sr h fun d st1 ρ1 H1 x e1 cS r1 h1=>?_;refine go μ ρ1 st1 (rs.mono e1) cS h1 fun k cJ ρ2 H2 y e2 oX r2 h2=>?_;unfold qp at h2;split at h2
 .rename_i u hl;obtain⟨a,o',rfl,hd,_,hv⟩:=DH oX (Rl.mono e2 _ _ r1) r2 hl;rcases hv with⟨z,_⟩|⟨u',v,z,rfl,rv⟩
  .cases z
  .cases z;exact⟨a,v,rfl,hd,h2 ρ2 H2 v (aU.refl _ _) oX rv⟩
 .exact h2.elim
theorem Jz(hu:X.A.units+64<cLine)(ho:PE X o (tE X E md))(hi:PE X i (tE X E mk))(hv:PE X value (tE X E mv))(hs:swapsWith value (some (.Subscript o i pos')) pos.line X.env=pure false:=by rfl):
  PS X (.Assign [.Subscript o i pos'] value pos) (tS X E (xa md mk mv)):=by
 refine PS.imp (IQ (by lia) ho hi hv hs) ?_;rintro D σ H ⟨μ,ρ,st,rs,sr,h⟩;refine z? μ ρ st rs sr h fun v st1 ρ1 H1 z e1 cS r1 h1=>?_;refine z? μ ρ1 st1 (rs.mono e1) cS h1 fun d cJ ρ2 H2 x e2 oX r2 h2=>?_;refine z? μ ρ2 cJ ((rs.mono e1).mono e2) oX h2 fun k mZ ρ3 H3 y e3 Ay r3 h3=>?_;split at h3
 .rename_i m8 wC;obtain⟨a,H4,rfl,hd,s4,pj⟩:=AV Ay (Rl.mono e3 _ _ r2) r3 (Rl.mono (e2.trans e3) _ _ r1) wC;exact⟨a,H4,rfl,hd,h3 ρ3 H4 σ s4 pj ((((rs.mono e1).mono e2).mono e3).mono s4)⟩
 .exact h3.elim
end
section
variable{X:Cx}{E:XK}{es:List Expr}{ms:MA}{pos:Pos}
theorem NF{a b:Expr}{ma mb:ME}(ha:PE X a (tE X E ma))(hb:PE X b (tE X E mb))(hs:wH b:=by exact fun _ _=>rfl):PE X (.Subscript a b pos) (tE X E (af bN ma mb)):=QN U7 ha hb hs
end
def AW(us:List ah)(lo hi:Option Int):List ah:=(us.drop (HT.gq us.length 0 lo)).take (HT.gq us.length us.length hi-HT.gq us.length 0 lo)
theorem bE.cut{K:ZW}{ρ:Z0}{H:Hp}{us:List ah}{vs:List V}(r:bE K ρ H us vs)(lo hi:Option Int):bE K ρ H (AW us lo hi) (wF vs lo hi):=by unfold AW wF;rw[r.length];exact bE.take _ (bE.drop _ r)
abbrev MO:=Env->ag->dh (Option Int)
abbrev RO:Z0->Hp->Option Int->Option Int->Prop:=fun _ _ a b=>b=a
abbrev S0(X:Cx)(E:XK)(m:MO):TO:=tG (wo X) E RO m
def yR:MO:=fun _ st=>.ok none st
def yS(m:ME):MO:=fun μ st=>(m μ st).bind fun v ar=>match v with
 |.int i=>.ok (some i) ar
 |_=>.bad
def KW(lo hi:Option Int):ah->ag->dh ah
 |.tup us,st=>if HT.gq us.length 0 lo=0/\HT.gq us.length us.length hi=us.length then .bad else .ok (.tup (AW us lo hi)) st
 |.loc n,st=>match ak st n with
  |some us=>.ok (.loc st.length) (st++[.lst (AW us lo hi)])
  |none=>.bad
 |_,_=>.bad
def O7(a:ME)(lo hi:MO):ME:=fun μ st=>(a μ st).bind fun x st1=>(lo μ st1).bind fun l cJ=>(hi μ cJ).bind fun h mZ=>KW l h x mZ
section
variable{X:Cx}{E:XK}{pos p2:Pos}{e:Expr}{m:ME}
theorem PO.imp{e:Option Expr}{t t':TO}(h:PO X e t)(k:∀σ H Q,t' σ H Q->t σ H Q):PO X e t':=fun ae s σ H Q I q=>h ae s σ H Q I (k σ H Q q)
theorem JA:PO X none (S0 X E yR):=PO.imp Iz fun σ H Q⟨μ,ρ,st,rs,sr,h⟩=>h ρ H none (aU.refl _ _) sr rfl
theorem JB(h:PE X e (tE X E m)):PO X (some e) (S0 X E (yS m)):=by
 refine PO.imp (IA h) ?_;rintro σ H Q ⟨μ,ρ,st,rs,sr,h⟩;refine go μ ρ st rs sr h fun u st1 ρ1 H1 x e1 cS r1 h1=>?_;cases u with
 |int i=>exact⟨i,r1.cT,h1 ρ1 H1 (some i) (aU.refl _ _) cS rfl⟩
 |_=>exact h1.elim
theorem QY{lo hi:Option Expr}{ml mh:MO}(he:PE X e (tE X E m))(hl:PO X lo (S0 X E ml))(hh:PO X hi (S0 X E mh)):PE X (.Subscript e (.Slice lo hi none p2) pos) (tE X E (O7 m ml mh)):=by
 refine PE.imp (EI (KA.or ID Ms) he hl hh) ?_;rintro σ H Q ⟨μ,ρ,st,rs,sr,h⟩;refine go μ ρ st rs sr h fun u st1 ρ1 H1 x e1 cS r1 h1=>?_;refine go (R1:=RO) μ ρ1 st1 (rs.mono e1) cS h1 fun l cJ ρ2 H2 l' e2 oX r2 h2=>?_;cases r2;refine go (R1:=RO) μ ρ2 cJ ((rs.mono e1).mono e2) oX h2 fun k mZ ρ3 H3 k' e3 Ay r3 h3=>?_;cases r3;have ru:=Rl.mono e3 _ _ (Rl.mono e2 _ _ r1);cases u with
 |tup us=>
  obtain⟨a,vs,rfl,ha,ra⟩:=ru.iH;unfold KW at h3;dsimp only at h3;split at h3
  .exact h3.elim
  .rename_i hz;refine .inr ⟨a,vs,rfl,ha,by rw[<-ra.length];exact hz,fun p hp=>?_⟩;have s:=eI (o:=.tup (wF vs l k)) hp;exact h3 ρ3 _ _ (aU.same s) (Ay.grow s) (Rl.vN dr (bE.mono (aU.same s) _ _ (ra.cut l k)))
 |loc n=>
  obtain⟨a,rfl,ha⟩:=ru.fC;cases z:ak mZ n with
  |none=>simp only[KW,z]at h3;exact h3.elim
  |some us=>
   simp only[KW,z]at h3;obtain⟨vs,hs,rv⟩:=bH Ay z ha;refine .inl ⟨a,vs,rfl,hs,fun p hp=>?_⟩;obtain⟨k1,k2,k3⟩:=iI Ay (rv.cut l k) hp;exact h3 _ _ _ k1 k2 k3
 |_=>exact h3.elim
end
def Gf(f:FM)(o:ME):ME:=fun μ st=>(o μ st).bind fun x st1=>if qo st1 x=true then f x [] st1 else .bad
def AX:FM
 |.loc n,[],st=>match st[n]? with
  |some (.lst us)=>match us[us.length-1]? with
   |some u=>.ok u (st.set n (.lst us.dropLast))
   |none=>.bad
  |_=>.bad
 |_,_,_=>.bad
def S2:FM
 |.loc n,[.loc m],st=>match st[n]?,st[m]? with
  |some (.lst us),some (.lst ws)=>if us.length+ws.length<=sizeLine then .ok .dg (st.set n (.lst (us++ws)))else .bad
  |_,_=>.bad
 |_,_,_=>.bad
theorem bE.dropLast{K:ZW}{ρ:Z0}{H:Hp}{us:List ah}{vs:List V}(r:bE K ρ H us vs):bE K ρ H us.dropLast vs.dropLast:=by rw[List.dropLast_eq_take,List.dropLast_eq_take,r.length];exact bE.take _ r
section
variable{X:Cx}{E:XK}{o:Expr}{mo:ME}{apos dS:Pos}{f:FM}
theorem JC:EO X "list.pop" (SX (wo X) E AX):=by
 refine EO.imp My ?_;rintro x xs H Q ⟨ρ,st,u,us,sr,r1,r2,h⟩;unfold AX at h;split at h
 .rename_i n;obtain⟨a,rfl,ha⟩:=r1.fC;have hx:=r2.gM;subst hx;split at h
  .rename_i ws hw;split at h
   .rename_i y hy;obtain⟨vs,hH,rv⟩:=sr.cell n _ a hw ha;obtain⟨v,hv,ry⟩:=rv.get hy;refine⟨a,vs,v,rfl,rfl,hH,by rw[<-rv.length];exact hv,?_⟩;obtain⟨k1,k2⟩:=w9 sr hw ha hH rv.dropLast;exact h ρ _ _ k1 k2 (Rl.mono k1 _ _ ry)
   .exact h.elim
  .exact h.elim
 .exact h.elim
theorem NG{name:Str}{id:String}(slot:Slot "list" name id)(Mx:typeOf (.builtin id)=pure (.type "method_descriptor"))(hm:EO X id (SX (wo X) E f))(ho:PE X o (tE X E mo))(kJ:attributeBase o name X.env (eval o X.env)=eval o X.env:=by rfl)(kK:(apos.endLine==dS.line)=true:=by rfl):
  PE X (.Call (.Attribute o name apos) [] [] dS) (tE X E (Gf f mo)):=by
 refine PE.imp (Mw YT slot Mx hm ho kJ kK) ?_;rintro σ H Q ⟨μ,ρ,st,rs,sr,h⟩;refine go μ ρ st rs sr h fun u st1 ρ1 H1 x e1 cS r1 h1=>?_;split at h1
 .rename_i hz;exact⟨yM cS r1 hz,ρ1,st1,u,[],cS,r1,bE.nil,h1⟩
 .exact h1.elim
end
def pA(o i v:ah)(st:ag):Option ag:=match o,i with
 |.loc n,.int k=>match st[n]? with
  |some (.lst us)=>(L2.yt us.length k).map fun j=>st.set n (.lst (us.set j v))
  |_=>none
 |_,_=>none
def KY(μ:Env):Option ag->cm
 |some st=>.nx μ st
 |none=>.bad
def vS(o i v:ME):MB:=fun μ st=>(v μ st).sb μ fun x st1=>(o μ st1).sb μ fun y cJ=>(i μ cJ).sb μ fun z mZ=>KY μ (pA y z x mZ)
def DI:F2:=qO fun i j st=>.ok (.int (i+j)) st
def JD:F2:=qO fun i j st=>.ok (.int (i-j)) st
def KZ:F2
 |.loc n,.int i,st=>match ak st n with
  |some us=>match L2.jP us i with
   |some v=>.ok v st
   |none=>.bad
  |none=>.bad
 |_,_,_=>.bad
def vT(f:F2)(o i e:ME):MB:=fun μ st=>(o μ st).sb μ fun y st1=>(i μ st1).sb μ fun z cJ=>(KZ y z cJ).sb μ fun x mZ=>(e μ mZ).sb μ fun w m8=>(f x w m8).sb μ fun r HL=>KY μ (pA y z r HL)
def Gg(k:Nat)(f:F2)(e:ME):MB:=fun μ st=>(jT k μ st).sb μ fun x st1=>(e μ st1).sb μ fun w cJ=>(f x w cJ).sb μ fun r mZ=>.nx (μ.set k (some r)) mZ
section
variable{X:Cx}{E:XK}{o i v:Expr}{mo mi mv:ME}{pos nW:Pos}{f:F2}
theorem vU{ρ:Z0}{st ar:ag}{H:Hp}{u z w:ah}{x y q:V}{Q:Hp->Prop}(sr:SR X.K ρ st H)(ru:Rl X.K ρ H u x)(rz:Rl X.K ρ H z y)(yu:Rl X.K ρ H w q)(h:pA u z w st=some ar)(k:∀H',aU ρ H ρ H'->SR X.K ρ ar H'->Q H'):KC x y q H Q:=by
 unfold pA at h;split at h
 .rename_i n j;split at h
  .rename_i us hu;obtain⟨a,rfl,ha⟩:=ru.fC;obtain⟨vs,hH,rv⟩:=sr.cell n _ a hu ha;cases hj:L2.yt us.length j with
   |none=>rw[hj]at h;cases h
   |some jj=>
    rw[hj]at h;cases h;refine⟨a,vs,j,jj,rfl,rz.cT,hH,by rw[<-rv.length];exact hj,?_⟩;obtain⟨k1,k2⟩:=w9 sr hu ha hH (bE.set yu jj rv);exact k _ k1 k2
  .cases h
 .cases h
theorem JE(ho:PE X o (tE X E mo))(hi:PE X i (tE X E mi))(hv:PE X v (tE X E mv))
  (ha:∀ u,assign (.Subscript o i nW) X.env u=(do
   let ov <- holding [u] (eval o X.env)
   let iv <- holding [u,ov] (eval i X.env)
   standAt nW
   holding [u,ov,iv] (setItem ov iv u)
   release [u,ov,iv] []):=by intro _;rfl)
  (hs:swapsWithSole [.Subscript o i nW] v pos.line X.env=pure false:=by rfl) (hw:swappedStores [.Subscript o i nW] v X.env=pure none:=by rfl) (h1:(assignEach [.Subscript o i nW] X.env).map (·.2)=[assign (.Subscript o i nW) X.env]:=by rfl):
  PS X (.Assign [.Subscript o i nW] v pos) (tS X E (vS mo mi mv)):=by
 refine PS.imp (L9 hv (L8 ho hi set_list ha) hs hw h1) ?_;rintro D σ H ⟨μ,ρ,st,rs,sr,h⟩;refine z? μ ρ st rs sr h fun u st1 ρ1 H1 x e1 cS r1 h1=>?_;refine z? μ ρ1 st1 (rs.mono e1) cS h1 fun w cJ ρ2 H2 y e2 oX r2 h2=>?_;refine z? μ ρ2 cJ ((rs.mono e1).mono e2) oX h2 fun z mZ ρ3 H3 q e3 Ay r3 h3=>?_;cases hz:pA w z u mZ with
 |none=>rw[hz]at h3;exact h3.elim
 |some m8=>
  rw[hz]at h3;exact vU Ay (Rl.mono e3 _ _ r2) r3 (Rl.mono e3 _ _ (Rl.mono e2 _ _ r1)) hz fun H' k1 k2=>h3 ρ3 H' σ k1 k2 ((((rs.mono e1).mono e2).mono e3).mono k1)
theorem B6:eY X (inplaceOp .Add) (rM (wo X) E DI):=by refine eY.imp Il ?_;rintro x y H Q ⟨ρ,st,u,w,sr,r1,r2,h⟩;obtain⟨i,j,rfl,rfl,h⟩:=iJ h;exact⟨i,j,r1.cT,r2.cT,eo sr h⟩
theorem JF:eY X (inplaceOp .Sub) (rM (wo X) E JD):=by refine eY.imp Im ?_;rintro x y H Q ⟨ρ,st,u,w,sr,r1,r2,h⟩;obtain⟨i,j,rfl,rfl,h⟩:=iJ h;exact⟨i,j,r1.cT,r2.cT,eo sr h⟩
theorem B7{op:Operator}(hf:eY X (inplaceOp op) (rM (wo X) E f))(ho:PE X o (tE X E mo))(hi:PE X i (tE X E mi))(hv:PE X v (tE X E mv))(ha:∀ov iv new,augStore i ov iv new=(do holding [new,ov,iv] (setItem ov iv new);release [new,ov,iv] [];pure .next):=by intros;rfl):
  PS X (.AugAssign (.Subscript o i nW) op v pos) (tS X E (vT f mo mi mv)):=by
 refine PS.imp (Ih ho hi Fn hv (fun ae s σ H x y v u Q I rx ry q=>hf ae s σ H x y v u Q I rx ry q) set_list ha) ?_;rintro D σ H ⟨μ,ρ,st,rs,sr,h⟩;refine z? μ ρ st rs sr h fun u st1 ρ1 H1 x e1 cS r1 h1=>?_;refine z? μ ρ1 st1 (rs.mono e1) cS h1 fun w cJ ρ2 H2 y e2 oX r2 h2=>?_;have ru:=Rl.mono e2 _ _ r1;have rs2:=(rs.mono e1).mono e2;cases u with
 |loc n=>
  cases w with
  |int j=>
   obtain⟨a,rfl,ha⟩:=ru.fC;cases z:ak cJ n with
   |none=>simp only[KZ,z]at h2;exact h2.elim
   |some us=>
    cases zi:L2.jP us j with
    |none=>simp only[KZ,z,zi]at h2;exact h2.elim
    |some g=>
     simp only[KZ,z,zi]at h2;obtain⟨vs,hs,rv⟩:=bH oX z ha;obtain⟨g',hg,rg⟩:=rv.jP zi;refine⟨a,vs,j,g',rfl,r2.cT,hs,hg,?_⟩;refine z? μ ρ2 cJ rs2 oX h2 fun t mZ ρ3 H3 b e3 Ay r3 h3=>?_;refine⟨ρ3,mZ,g,t,Ay,Rl.mono e3 _ _ rg,r3,?_⟩;cases zf:f g t mZ with
     |ok c m8=>
      rw[zf]at h3;intro ρ4 H4 d e4 pj r4;have h4:wS (wo X) E ρ4 H4 D (KY μ (pA (.loc n) (.int j) c m8)):=wS.mono h3 e4;cases hz:pA (.loc n) (.int j) c m8 with
      |none=>rw[hz]at h4;exact h4.elim
      |some HL=>
       rw[hz]at h4;exact vU pj (Rl.mono e4 _ _ (Rl.mono e3 _ _ ru)) (Rl.mono e4 _ _ (Rl.mono e3 _ _ r2)) r4 hz fun H' k1 k2=>h4 ρ4 H' σ k1 k2 (((rs2.mono e3).mono e4).mono k1)
     |err c m8=>rw[zf]at h3;exact h3
     |bad=>rw[zf]at h3;exact h3
  |_=>exact h2.elim
 |_=>exact h2.elim
theorem NH{op:Operator}{k:Nat}{x:Str}(hf:eY X (inplaceOp op) (rM (wo X) E f))(hN:X.N.Nodup)(hv:PE X v (tE X E mv))(hi:X.N[k]?=some x:=by rfl)(hx:Loc X.env.scope x:=by first|exact Or.inl rfl|exact Or.inr rfl)(hn:X.fn x=true\/X.env.scope.names.lookup x=some .local:=by first|exact .inl rfl|exact .inr rfl|assumption):PS X (.AugAssign (.Name x nW) op v pos) (tS X E (Gg k f mv)):=by
 refine PS.imp (L! hN hi hx hv (fun ae s σ H x y v u Q I rx ry q=>hf ae s σ H x y v u Q I rx ry q) hn) ?_;rintro D σ H ⟨μ,ρ,st,rs,sr,h⟩;unfold Gg jT at h;split at h
 .rename_i g e;obtain⟨w,e',r⟩:=rs.at_ k g e;split at h
  .exact h.elim
  .rename_i n;have rg:=r.un n;refine⟨w,e',?_⟩;refine z? μ ρ st rs sr h fun t st1 ρ1 H1 y e1 cS r1 h1=>?_;refine⟨ρ1,st1,g,t,cS,Rl.mono e1 _ _ rg,r1,?_⟩;cases zf:f g t st1 with
   |ok c cJ=>
    rw[zf]at h1;intro ρ2 H2 d e2 oX r2;exact(wS.mono h1 e2) ρ2 H2 _ (aU.refl _ _) oX (((rs.mono e1).mono e2).set k r2)
   |err c cJ=>rw[zf]at h1;exact h1
   |bad=>rw[zf]at h1;exact h1
 .exact h.elim
end
def j'(hi:Int)(n:Nat):List ah:=(List.range n).map fun(i:Nat)=>ah.int (hi-(i:Int))
theorem Gh{K:ZW}{ρ:Z0}{H:Hp}(lo:Int)(n:Nat):Np K ρ H (j' lo n,fun _=>True) (SN lo n):=by
 intro ρ' ar H' e sr g i;refine⟨fun u hu=>?_,fun hi=>?_⟩
 .have hi:i<n:=by have:=bf hu;simpa[j']using this
  refine⟨hi,fun x QR y=>?_⟩;obtain⟨rfl,rfl⟩:=y;have e:u=ah.int (lo-(i:Int)):=by simp only[j',VG]at hu;rw[V7 hi]at hu;exact(VR hu).symm
  subst e;exact⟨aU.refl _ _,sr,Rl.mkInt _⟩
 .show n<=i;simpa[j']using hi
def Gi(vs:List ah)(ar:ag):dh Itm:=match vs with
 |[.int i,.int j,.int k]=>if k = -1/\-(2 ^ 62)<=i/\i<2 ^ 62/\-(2 ^ 62)<=j/\j<2 ^ 62 then .ok (j' i (i-j).toNat,fun _=>True) ar else .bad
 |_=>.bad
def xb(m:MA):MI:=fun μ st=>(m μ st).bind Gi
def aaF(vs:List ah)(ar:ag):dh Itm:=match vs with
 |[.loc n]=>match ak ar n with
  |some us=>.ok (us.reverse,fun cJ=>ak cJ n=some us) ar
  |none=>.bad
 |_=>.bad
def kd:Nat->List ah->List ah
 |_,[]=>[]
 |i,u::us=>.tup [.int i,u]::kd (i+1) us
theorem kY:∀(us:List ah)(k i:Nat)(z:ah),(kd k us)[i]?=some z->∃u,us[i]?=some u/\z=.tup [.int ((k+i:Nat):Int),u]
 |[],_,_,_,h=>by cases h
 |u::us,k,0,z,h=>by cases h;exact⟨u,rfl,rfl⟩
 |u::us,k,i+1,z,h=>by obtain⟨w,h1,h2⟩:=kY us (k+1) i z h;exact⟨w,h1,by rw[h2,show k+1+i=k+(i+1) by lia]⟩
theorem jC:∀(us:List ah)(k:Nat),(kd k us).length=us.length
 |[],_=>rfl
 |_::us,k=>by simp only[kd,Vk,jC us]
def Gj(vs:List ah)(ar:ag):dh Itm:=match vs with
 |[.loc n]=>match ak ar n with
  |some us=>.ok (kd 0 us,fun cJ=>ak cJ n=some us) ar
  |none=>.bad
 |_=>.bad
def kZ(m:MA):MI:=fun μ st=>(m μ st).bind Gj
section
variable{X:Cx}{E:XK}{tg:Expr}{pos p:Pos}
theorem JG{a b c:Expr}{m:MA}(hg:Gl X "range")(hm:X.mg "range" = none)(ha:PA X [a,b,c] (tL X E m))(hs:starEach [a,b,c] X.env=[(false,eval a X.env),(false,eval b X.env),(false,eval c X.env)]:=by rfl)(jq:starEach [b,c] X.env=[(false,eval b X.env),(false,eval c X.env)]:=by rfl):
  PI X tg (.Call (.Name "range" p) [a,b,c] [] pos) (tI X E (xb m)):=by
 refine PI.imp (Jb hg hm ha hs jq) ?_;rintro σ H R ⟨μ,ρ,st,rs,sr,h⟩;refine go (R1:=bE X.K) μ ρ st rs sr h fun us st1 ρ1 H1 xs e1 cS r1 h1=>?_;unfold Gi at h1;split at h1
 .rename_i i j k;obtain⟨v,r',rfl,rv,rr⟩:=r1.dM;obtain⟨w,z,rfl,yu,rz⟩:=rr.SS;split at h1
  .rename_i hz;obtain⟨rfl,hz⟩:=hz;exact⟨i,j,by rw[rv.cT,yu.cT,rz.cT],hz,h1 ρ1 H1 _ (aU.refl _ _) cS (Gh i _)⟩
  .exact h1.elim
 .exact h1.elim
theorem JH{elts:List Expr}{kt:Nat}{tp:Pos}{a:Expr}{m:MA}(hg:Gl X "enumerate")(hm:X.mg "enumerate" = none)(ha:PA X [a] (tL X E m))(hs:starEach [a] X.env=[(false,eval a X.env)]:=by rfl):PI X (.Tuple elts kt tp) (.Call (.Name "enumerate" p) [a] [] pos) (tI X E (kZ m)):=by
 refine PI.imp (Jc hg hm PyProof.Rows.Boot.«enumerate» ha hs) ?_;rintro σ H R ⟨μ,ρ,st,rs,sr,h⟩;refine go (R1:=bE X.K) μ ρ st rs sr h fun us st1 ρ1 H1 xs e1 cS r1 h1=>?_;unfold Gj at h1;split at h1
 .rename_i n;obtain⟨v,rfl,rv⟩:=r1.Aw;obtain⟨b,rfl,hb⟩:=rv.fC;split at h1
  .rename_i ws hw;obtain⟨vs,HP,rvs⟩:=bH cS hw hb;refine⟨b,vs,rfl,HP,h1 ρ1 H1 _ (aU.refl _ _) cS ?_⟩;intro ρ' ar H' e s g i;obtain⟨w1,s1,t1⟩:=bH s g (e.at_ hb);refine⟨fun z hz=>?_,fun hi=>⟨w1,s1,?_⟩⟩
   .obtain⟨u,hu,rfl⟩:=kY ws 0 i z hz;obtain⟨y,hy,ry⟩:=t1.get hu;refine⟨⟨w1,y,s1,hy⟩,fun x' QR y'=>?_⟩;obtain⟨pp,x1,rfl,hp,rfl,f1⟩:=y';have c1:=(f1 w1 s1).symm.trans hy;cases c1;rw[VX];exact⟨aU.same (eI hp),s.grow (eI hp),Rl.vN dr (bE.mono (aU.same (eI hp)) _ _ (bE.cons (Rl.mkInt _) (bE.one ry)))⟩
   .have z!:(kd 0 ws).length<=i:=hi;rw[jC]at z!;rw[<-t1.length];exact z!
  .exact h1.elim
 .exact h1.elim
end
def AY:FN
 |[.int i,.int j],st=>.ok (.int (if j>i then j else i)) st
 |_,_=>.bad
def DJ:FN
 |[.bl b],st=>.ok (.int (if b then 1 else 0)) st
 |_,_=>.bad
section
variable{X:Cx}{E:XK}
theorem DK(hh:X.A.handled=none):cz X (.builtin "max") (cM (wo X) E AY):=by
 refine cz.imp (Dm hh) ?_;rintro xs H Q ⟨ρ,st,us,sr,r,h⟩;unfold AY at h;split at h
 .rename_i i j;obtain⟨v,w,rfl,r1,r2⟩:=r.SS;exact⟨i,j,by rw[r1.cT,r2.cT],eo sr h⟩
 .exact h.elim
theorem DM:cz X (.type "int") (cM (wo X) E DJ):=by
 refine cz.imp Dn ?_;rintro xs H Q ⟨ρ,st,us,sr,r,h⟩;unfold DJ at h;split at h
 .rename_i b;obtain⟨v,rfl,r1⟩:=r.Aw;exact⟨b,by rw[r1.ql],eo sr h⟩
 .exact h.elim
end
section
variable{X:Cx}{E:XK}{o e:Expr}{es:List Expr}{mo:ME}{ms:MA}{apos dS:Pos}
theorem DN(ho:PE X o (tE X E mo))(ha:PA X (e::es) (tL X E ms))(kJ:attributeBase o "append" X.env (eval o X.env)=eval o X.env:=by rfl)
  (EN:((backTo dS (starEach (e::es) X.env)).all (fun x => !x.1)&&(backToKw dS (keywordEach [] X.env)).all (fun x=>x.1.isSome)
   && decide ((e::es).length+([]:List Keyword).length+(if([]:List Keyword).isEmpty then 0 else 1)<30))=true:=by rfl)
  (kK:(apos.endLine==dS.line)=true:=by rfl) (hs:starEach (e::es) X.env=(false,eval e X.env)::starEach es X.env:=by rfl) (sQ:(backTo dS (starEach es X.env)).any (·.1)=false:=by rfl):
  PE X (.Call (.Attribute o "append" apos) (e::es) [] dS) (tE X E (yL fN mo ms)):=Nw PySem.F.slot_list_append PySem.F.type_list_append AM ho ha kJ EN kK hs sQ
theorem JI(ho:PE X o (tE X E mo))(kJ:attributeBase o "pop" X.env (eval o X.env)=eval o X.env:=by rfl)(kK:(apos.endLine==dS.line)=true:=by rfl):
  PE X (.Call (.Attribute o "pop" apos) [] [] dS) (tE X E (Gf AX mo)):=NG PySem.F.slot_list_pop PySem.F.type_list_pop JC ho kJ kK
end
theorem QZ{X:Cx}{N:Z1}{scope:Scope}{k:Nat}{cl cl':List (Str×Z4)}{bu caps':List Nat}(pb:closureFor scope X.env=pure cl')(A:gS X scope cl bu)(B:gS X scope cl' caps')(has:((relabel scope X.env).names.all fun p => !(p.2 == .cell || p.2 == .free) || (cl'.map (·.1)).contains p.1)=true)(iQ:(scope.names.all fun p => !(p.2 == .cell))=true)(kind:scope.kind=.function)(names:(scope.names.all fun p => !(p.2 == .local) || scope.names.lookup p.1==some .local)=true)(len:N.length=k+bu.length)(hN:N.drop k=cl.map (·.1)):o? X N scope cl' k bu where
 pb:=pb
 sub:=B.sub
 has:=fun x h=>by
  have m:x∈cl'.map (·.1):=by rcases h with h|h<;>(have m:=WS h;have z:=WA.mp has _ m;simpa using z)
  exact ju m
 iQ:=fun x hx h=>by have z:=WA.mp iQ x hx;simp[h]at z
 kind:=kind
 names:=fun x hx h=>by have z:=WA.mp names x hx;simpa[h]using z
 len:=len
 at_:=fun i j x h1 h2=>A.at_ i j x h1 (by rw[<-hN,YH];exact h2)
theorem len0{C:ZY->Prop}(h:C [])(us:ZY)(hl:us.length=0):C us:=by rw[Wa hl];exact h
theorem JJ{C:ZY->Prop}{n:Nat}(h:∀a(r:ZY),r.length=n->C (a::r))(us:ZY)(hl:us.length=n+1):C us:=by
 cases us with
 |nil=>cases hl
 |cons a r=>exact h a r (Ym hl)
theorem u!{C:ZY->Prop}(h:∀a,C [a]):∀us:ZY,us.length=1->C us:=JJ fun a=>len0 (C:=fun r=>C (a::r)) (h a)
theorem NI{C:ZY->Prop}(h:∀a b,C [a,b]):∀us:ZY,us.length=2->C us:=JJ fun a=>u! (C:=fun r=>C (a::r)) (h a)
theorem Q0{C:ZY->Prop}(h:∀a b c,C [a,b,c]):∀us:ZY,us.length=3->C us:=JJ fun a=>NI (C:=fun r=>C (a::r)) (h a)
theorem Q3{C:ZY->Prop}(h:∀a b c d,C [a,b,c,d]):∀us:ZY,us.length=4->C us:=JJ fun a=>Q0 (C:=fun r=>C (a::r)) (h a)
end MN
namespace L2
open PySem.Spec PyProof.Rows PySem.W Builtin Builtin.ObjectAttr Builtin.Getset_descriptor PySem.Calls
def xc(K:ZW)(C:Z4):Bool:=findIn K (.ref C) "__getattribute__" == some (some (.builtin "BaseException.__getattribute__"))&&(findIn K (.ref C) "__getattr__" == some none)&&(findIn K (.ref C) "__class__" == some (some (.builtin "object.__class__"))) &&
 (mroIn K C (.type "object")==some true)&&(mroIn K C (.type "BaseException")==some true)&&(specialIn K (.builtin "object.__class__") "__get__" == some (some (.builtin "getset_descriptor.__get__")))&&(takesIn K (.builtin "object.__class__")==some true)&&(kitCls K (.ref C) (.ref C)==some true)
structure Gk(K:ZW)(C:Z4):Prop where
 ga:findIn K (.ref C) "__getattribute__" = some (some (.builtin "BaseException.__getattribute__"))
 gh:findIn K (.ref C) "__getattr__" = some none
 gc:findIn K (.ref C) "__class__" = some (some (.builtin "object.__class__"))
 mo:mroIn K C (.type "object")=some true
 mb:mroIn K C (.type "BaseException")=some true
 sg:specialIn K (.builtin "object.__class__") "__get__" = some (some (.builtin "getset_descriptor.__get__"))
 tk:takesIn K (.builtin "object.__class__")=some true
 kc:kitCls K (.ref C) (.ref C)=some true
theorem DO{K:ZW}{C:Z4}(h:xc K C=true):Gk K C:=by unfold xc at h;simp only[WV]at h;obtain⟨⟨⟨⟨⟨⟨⟨a,b⟩,c⟩,d⟩,e⟩,f⟩,g⟩,i⟩:=h;exact⟨W9.mp a,W9.mp b,W9.mp c,W9.mp d,W9.mp e,W9.mp f,W9.mp g,W9.mp i⟩
end L2
namespace MN
open PySem.Spec L2
open PyProof.Rows hiding St
inductive xf(K:ZW)(mg:ZU):Z1->Prop
 |nil:xf K mg []
 |cons {x:Str} {C:Z4} {r:Z1} (hm:mg x=some (.ref C)) (hq:xc K C=true) (hr:xf K mg r):xf K mg (x::r)
theorem xf.at_{K:ZW}{mg:ZU}{c:Str}:∀{qs:Z1},xf K mg qs->qs.contains c=true->∃C,mg c=some (.ref C)/\Gk K C
 |_,.nil,h=>by simp at h
 |_,.cons (x:=x) hm hq hr,h=>by
  by_cases e:c=x
  .subst e;exact⟨_,hm,DO hq⟩
  .exact hr.at_ (by simpa[e]using h)
structure Q4 where
 S:sY
 own:Str
 line:Nat
 col:Nat
end MN
namespace PM
open PySem.Spec L2 MN
open PyProof.Rows hiding St
def gz:ah:=.mt ([2,3,5,7,11,13,17,19,23,29,31].map ah.int)
def jD:FN:=gO 1 1 (bG (Az (Dx "int" a!) (Jd (Dx "bool" a!))))
def bZ:FN:=gO 1 1 (aC (ij (b8 (af (Nm false) a! (mC PM.gz))) (bG (mC (.bl true))) bT) (aC (ij (g8 (b8 (af ltV a! ny)) (b8 (af uX a! (mC (.int 997))))) (bG (mC (.bl false))) bT) (bG (ai yK (aa (dX 1 [0] (g_ (mC PM.gz)) (aI 0) bO (af jV (af bW bw a!) dF)) aj)))))
def fD:FN:=gO 1 1 (bG (QJ (b8 (af ltV a! dF)) (iK b!) b!))
def jv:FN:=gO 1 1 (aC (ij (b8 (af jV (ai yJ (aa a! aj)) b!)) (iS "NoInverse" (aa (qs "only 1 and -1 have an inverse among the whole numbers") aj)) bT) (bG a!))
def iL:FN:=gO 1 1 (bG (Az (ai PM.jD (aa a! aj)) (QI (af h! a! dF) (ai PM.bZ (aa a! aj)))))
def shared:FN:=gO 2 6 (aC (aO 2 (jt (aa (ai yJ (aa a! aj)) (aa (ai PM.fD (aa a! aj)) (aa dF aj))))) (aC (aO 3 (jt (aa (ai yJ (aa bw aj)) (aa dF (aa (ai PM.fD (aa bw aj)) aj))))) (aC (cN (b8 (af jV (af bN eh dF) dF)) (aC (aO 4 (af c_ (af bN cW dF) (af bN eh dF))) (aC (aO 5 (ai AG (aa (dX 2 [4] (tq false false (aa cW (aa eh aj))) (jW [(aI 0),(aI 1)]) bO (af gP a! (af bV cW bw))) aj))) (aC (aO 2 eh) (aO 3 j?))))) (bG cW))))
def iU:FN:=gO 1 1 (ij (dW (b8 (ai PM.iL (aa a! aj)))) (iS "NoRing" (aa (qs "a ring is 0 or a prime from 2 to 997") aj)) bT)
def inverse:FN:=gO 2 2 (aC (iB (ai PM.iU (aa a! aj))) (aC (ij (b8 (af h! a! dF)) (bG (ai PM.jv (aa bw aj))) bT) (aC (ij (b8 (af h! (af bW bw a!) dF)) (iS "NoInverse" (aa (qs "a multiple of the prime has no inverse") aj)) bT) (bG (af bW (af bN (ai PM.shared (aa (af bW bw a!) (aa a! aj))) b!) a!)))))
def gr:FN:=gO 1 1 (bG (Az (Dx "int" a!) (Jd (Dx "bool" a!))))
def c9:FN:=gO 2 3 (aC (aO 2 (dX 1 [0] (g_ bw) (aI 0) bO (af bW a! bw))) (aC (cN (fm (b8 (af uX (ai bx (aa cW aj)) dF)) (b8 (af h! (af bN cW (iK b!)) dF))) (iB (Gf AX cW))) (bG cW)))
def aZ:FN:=gO 2 5 (aC (aO 2 dF) (aC (ij (b8 (af ltV bw (ai bx (aa a! aj)))) (aO 2 (af bN a! bw)) bT) (aC (ij (b8 (af uX (ai yJ (aa cW aj)) (af Jh (mC (.int 10)) (mC (.int 9))))) (bG cW) bT) (aC (aO 3 (af bW (af bU (af bU (af bU (af bV cW (mC (.int 48271))) (af bV (af bV (mC (.int 7919)) bw) bw)) (af bV (mC (.int 104729)) bw)) (mC (.int 11))) e!)) (aC (aO 4 (af bW (af bV (af bW (af bV eh eh) (mC (.int 2147483629))) (mC (.int 69621))) e!)) (bG (af bU (af bV (af bW (af bV eg eg) (mC (.int 2147483587))) e!) eg)))))))
def gA:FN:=gO 1 2 (aC (aO 1 (af bN (dA (aa ny (aa KR (aa Nd (aa (mC (.int 7)) (aa (mC (.int 11)) (aa (mC (.int 13)) (aa (af bU ny (af bW (af c_ a! Fw) (mC (.int 996)))) (aa (af bU ny (af bW (af c_ a! Fw) (mC (.int 996)))) aj))))))))) (af bW a! Fw))) (aC (cN (b8 (af jV (dX 1 [1] (jh (aa ny (aa (mC (.int 32)) aj))) (aI 0) (fm (b8 (af ltV a! bw)) (b8 (af h! (af bW bw a!) dF))) a!) (dA aj))) (aO 1 (af gP bw b!))) (bG bw)))
def dG:FN:=gO 1 1 (ij (g8 (dW (b8 (ai PM.iL (aa a! aj)))) (b8 (af h! a! dF))) (iS "NoPrime" (aa (qs "a prime is one from 2 to 997") aj)) bT)
def fO:FN:=gO 2 2 (bG (af bU (ai gy (aa a! aj)) (af bV (dA (aa dF aj)) (af gP bw (ai bx (aa a! aj))))))
def gB:FN:=gO 1 2 (aC (aO 1 (ai bx (aa a! aj))) (aC (cN (fm (b8 (af uX bw dF)) (b8 (af h! (af bN a! (af gP bw b!)) dF))) (aO 1 (af gP bw b!))) (bG (O7 a! yR (yS bw)))))
def n?:FN:=gO 1 4 (aC (aO 1 (dX 1 [] (g_ a!) (aI 0) bO (ai gy (aa a! aj)))) (aC (fM (cK (aa (ai bx (aa a! aj)) aj)) (aI 2) (aC (iB (yL fN (af bN a! cW) (aa b! aj))) (fM (cK (aa (ai bx (aa a! aj)) aj)) (aI 3) (ij (b8 (af jV (af bN a! eh) (af bU (af bN bw eh) (af bV (dA (aa b! aj)) (ai DJ (aa (af Ji eh cW) aj)))))) (bG (mC (.bl false))) bT)))) (bG (mC (.bl true)))))
def cO:FN:=gO 4 6 (aC (aO 4 (ai AY (aa (ai bx (aa bw aj)) (aa (ai bx (aa cW aj)) aj)))) (aC (aO 5 (ai PM.fO (aa bw (aa eg aj)))) (bG (ai PM.c9 (aa a! (aa (dX 2 [3] (tq true true (aa j? (aa (ai PM.fO (aa cW (aa eg aj))) aj))) (jW [(aI 0),(aI 1)]) bO (af bU a! (af bV cW bw))) aj))))))
def dY:FN:=gO 3 8 (aC (ij (g8 (b8 (af h! (ai bx (aa bw aj)) dF)) (b8 (af h! (ai bx (aa cW aj)) dF))) (bG (dA aj)) bT) (aC (aO 3 (af bV (dA (aa dF aj)) (af gP (af bU (ai bx (aa bw aj)) (ai bx (aa cW aj))) b!))) (aC (fM (kZ (aa bw aj)) (jW [(aI 4),(aI 5)]) (fM (kZ (aa cW aj)) (jW [(aI 6),(aI 7)]) (vT DI eh (af bU eg qm) (af bV j? uW)))) (bG (ai PM.c9 (aa a! (aa eh aj)))))))
def dB:FN:=gO 3 3 (bG (ai PM.c9 (aa a! (aa (dX 1 [2] (g_ bw) (aI 0) bO (af bV a! bw)) aj))))
def e?:FN:=gO 2 2 (bG (ai PM.c9 (aa a! (aa (dX 1 [1] (jh (aa b! (aa (ai bx (aa bw aj)) aj))) (aI 0) bO (af bV a! (af bN bw a!))) aj))))
def iM:FN:=gO 3 6 (aC (aO 3 (dA aj)) (aC (fM (cK (aa cW aj)) (aI 4) (aC (aO 5 (af bW (af bU bw (af bV (mC (.int 7919)) eg)) e!)) (aC (aO 5 (af bW (af bV (af bW (af bV j? j?) (mC (.int 2147483629))) (mC (.int 48271))) e!)) (iB (yL fN eh (aa (af bW (af c_ j? (af bU b! eg)) a!) aj)))))) (bG (ai PM.gB (aa eh aj)))))
def fb:FN:=gO 2 3 (aC (ij (dW (b8 (Dx "list" bw))) (bG (mC (.bl false))) bT) (aC (fM (g_ bw) (aI 2) (ij (g8 (dW (b8 (ai PM.gr (aa cW aj)))) (dW (b8 (s_ Ji ltV dF cW a!)))) (bG (mC (.bl false))) bT)) (bG (QI (af h! bw (dA aj)) (af jV (af bN bw (iK b!)) dF)))))
def dj:FN:=gO 3 7 (aC (aO 3 (af bV (dA (aa dF aj)) (af bU (ai bx (aa bw aj)) (ai bx (aa cW aj))))) (aC (fM (cK (aa (ai bx (aa bw aj)) aj)) (aI 4) (fM (cK (aa (ai bx (aa cW aj)) aj)) (aI 5) (aC (aO 6 (af bV (af bN bw eg) (af bN cW j?))) (vS eh (af bU eg j?) (af bW (af bU (af bN eh (af bU eg j?)) qm) a!))))) (bG (ai PM.gB (aa eh aj)))))
def oa:FN:=gO 3 4 (aC (aO 3 (ai AY (aa (ai bx (aa bw aj)) (aa (ai bx (aa cW aj)) aj)))) (aC (aO 1 (af bU bw (af bV (dA (aa dF aj)) (af gP eh (ai bx (aa bw aj)))))) (aC (aO 2 (af bU cW (af bV (dA (aa dF aj)) (af gP eh (ai bx (aa cW aj)))))) (bG (ai PM.gB (aa (dX 2 [0] (tq true true (aa bw (aa cW aj))) (jW [(aI 0),(aI 1)]) bO (af bW (af bU a! bw) cW)) aj))))))
def parted:FN:=gO 3 11 (aC (aO 3 (ai gy (aa bw aj))) (aC (aO 4 (ai PM.inverse (aa a! (aa (af bN cW (iK b!)) aj)))) (aC (aO 5 (ai AY (aa dF (aa (af bU (af gP (ai bx (aa bw aj)) (ai bx (aa cW aj))) b!) aj)))) (aC (aO 6 (af bV (dA (aa dF aj)) j?)) (aC (fM (xb (aa (af gP j? b!) (aa (iK b!) (aa (iK b!) aj)))) (aI 7) (aC (aO 8 (af bW (af bV (af bN eh (af gP (af bU uW (ai bx (aa cW aj))) b!)) eg) a!)) (aC (vS qm uW BW) (fM (kZ (aa cW aj)) (jW [(aI 9),(aI 10)]) (vT JD eh (af bU uW Ek) (af bV BW Dq)))))) (bG (jt (aa (ai PM.c9 (aa a! (aa qm aj))) (aa (ai PM.c9 (aa a! (aa eh aj))) aj)))))))))
def fP:FN:=gO 3 5 (aC (aO 3 (ai PM.parted (aa a! (aa (af bN bw dF) (aa (af bN cW dF) aj))))) (aC (aO 4 (dX 1 [2,3,0] (g_ (jt (aa b! (aa ny aj)))) (aI 0) bO (ai PM.dY (aa eh (aa (af bN cW dF) (aa (af bN bw a!) aj)))))) (bG (jt (aa (af bN eh b!) (aa (ai PM.cO (aa a! (aa (af bN bw b!) (aa (af bN eg dF) (aa (iK b!) aj))))) (aa (ai PM.cO (aa a! (aa (af bN bw ny) (aa (af bN eg b!) (aa (iK b!) aj))))) aj)))))))
def met:FN:=gO 3 10 (aC (aO 3 (jt (aa bw (aa (dA (aa b! aj)) (aa (dA aj) aj))))) (aC (aO 4 (jt (aa cW (aa (dA aj) (aa (dA (aa b! aj)) aj))))) (aC (cN (b8 (af uX (ai bx (aa (af bN eg dF) aj)) dF)) (aC (aO 5 (ai PM.fP (aa a! (aa eh (aa eg aj))))) (aC (aO 3 eg) (aO 4 j?)))) (aC (aO 6 (ai PM.inverse (aa a! (aa (af bN (af bN eh dF) (iK b!)) aj)))) (aC (aO 7 (ai PM.dB (aa a! (aa (af bN eh dF) (aa qm aj))))) (aC (aO 8 (af bN (ai PM.parted (aa a! (aa bw (aa uW aj)))) dF)) (aC (aO 9 (af bN (ai PM.parted (aa a! (aa cW (aa uW aj)))) dF)) (bG (jt (aa uW (aa BW (aa Ek (aa (ai PM.dB (aa a! (aa (af bN eh b!) (aa qm aj)))) (aa (ai PM.dB (aa a! (aa (af bN eh ny) (aa qm aj)))) aj))))))))))))))
def meet:FN:=gO 3 3 (aC (iB (ai PM.dG (aa a! aj))) (aC (ij (fm (b8 (af h! (ai bx (aa bw aj)) dF)) (b8 (af h! (ai bx (aa cW aj)) dF))) (iS "NoMeet" (aa (qs "two noughts have no greatest divisor") aj)) bT) (bG (ai PM.met (aa a! (aa bw (aa cW aj)))))))
end PM
namespace MN
open PySem.Spec L2
open PyProof.Rows hiding St
theorem cU{g:ag->Prop}{a:AS}{body:MB}(P:Nat->Env->ag->Prop):∀(us:List ah)(k:Nat)(μ:Env)(st:ag),
  (∀(i:Nat)(u:ah)(μ:Env)(st:ag),us[i]?=some u->P (k+i) μ st->g st/\∃μ1,a u μ=some μ1/\∃μ' ar,(body μ1 st=.nx μ' ar\/body μ1 st=.ct μ' ar)/\P (k+i+1) μ' ar) ->
  (∀μ st,P (k+us.length) μ st->g st)->P k μ st->∃μ' ar,forL g a body us μ st=.nx μ' ar/\P (k+us.length) μ' ar
 |[],k,μ,st,_,he,h=>by refine⟨μ,st,?_,h⟩;unfold forL;rw[VD (he μ st h)]
 |u::us,k,μ,st,hs,he,h=>by
  obtain⟨hg,μ1,ha,μ',ar,hb,hP⟩:=hs 0 u μ st rfl h;have ih:=cU (a:=a) (body:=body) P us (k+1) μ' ar (fun i v μ2 cJ hv hp=>by
   have:=hs (i+1) v μ2 cJ hv (by rw[show k+(i+1)=k+1+i by lia];exact hp);rw[show k+(i+1)+1=k+1+i+1 by lia]at this;exact this) (fun μ2 cJ hp=>he μ2 cJ (by rw[Vk,show k+(us.length+1)=k+1+us.length by lia];exact hp)) hP
  obtain⟨μ2,cJ,e2,p2⟩:=ih;refine⟨μ2,cJ,?_,by rw[Vk,show k+(us.length+1)=k+1+us.length by lia];exact p2⟩;unfold forL;rw[VD hg,ha];rcases hb with hb|hb<;>(dsimp only;rw[hb];exact e2)
theorem gj{g:ag->Prop}{a:AS}{c:MT}{e:ME}{st:ag}(hg:g st)(I:Env->Prop)(p:ah->Bool)(f:ah->ah):∀(us:List ah)(τ:Env)(ys:List ah),I τ ->
  (∀u∈us,∀τ,I τ->∃τ1,a u τ=some τ1/\I τ1/\c τ1 st=.ok (p u) st/\(p u=true->e τ1 st=.ok (f u) st))->du g a c e us τ st ys=.ok (ys++(us.filter p).map f) st
 |[],τ,ys,_,_=>by unfold du;rw[VD hg];simp
 |u::us,τ,ys,hI,hs=>by
  obtain⟨τ1,h1,h2,h3,h4⟩:=hs u VS τ hI;have HP:=fun v hv=>hs v (VN u hv);unfold du;rw[VD hg,h1];dsimp only;rw[h3];cases z:p u with
  |true=>
   dsimp only;rw[h4 z];dsimp only;rw[gj hg I p f us τ1 _ h2 HP,ZR z];simp
  |false=>
   dsimp only;rw[gj hg I p f us τ1 _ h2 HP,ZS (by rw[z];simp)]
theorem ba(st:ag)(us:List ah):ak (st++[.lst us]) st.length=some us:=by unfold ak;rw[VP (VA _),WT];rfl
theorem bb{st:ag}{n:Nat}{us:List ah}(h:ak st n=some us)(more:ag):ak (st++more) n=some us:=by
 have hn:n<st.length:=by
  rcases WG n st.length with q|q
  .exact q
  .unfold ak at h;rw[VZ q]at h;cases h
 unfold ak at h⊢;rw[V0 hn];exact h
theorem tD{t:MT}{body:MB}(P:Env->ag->Prop)(M:Env->ag->Nat)(Q:Env->ag->Prop)(hs:∀μ st,P μ st->(∃st1,t μ st=.ok false st1/\Q μ st1)\/∃st1 μ' ar,t μ st=.ok true st1/\(body μ st1=.nx μ' ar\/body μ st1=.ct μ' ar)/\P μ' ar/\M μ' ar<M μ st):
  ∀(n:Nat)(μ:Env)(st:ag),M μ st<n->P μ st->∃μ' ar,gQ t body n μ st=some (.nx μ' ar)/\Q μ' ar
 |0,μ,st,h,_=>absurd h (YB _)
 |n+1,μ,st,h,hp=>by
  unfold gQ;rcases hs μ st hp with⟨st1,e,q⟩|⟨st1,μ',ar,e,hb,p',lt⟩
  .rw[e];exact⟨μ,st1,rfl,q⟩
  .rw[e];dsimp only;obtain⟨μ2,cJ,e2,q2⟩:=tD P M Q hs n μ' ar (by lia) p';rcases hb with hb|hb<;>(rw[hb];exact⟨μ2,cJ,e2,q2⟩)
theorem fc{t:MT}{body:MB}(P:Env->ag->Prop)(M:Env->ag->Nat)(Q:Env->ag->Prop)(hs:∀μ st,P μ st->(∃st1,t μ st=.ok false st1/\Q μ st1)\/∃st1 μ' ar,t μ st=.ok true st1/\(body μ st1=.nx μ' ar\/body μ st1=.ct μ' ar)/\P μ' ar/\M μ' ar<M μ st)(μ:Env)(st:ag)(hp:P μ st):∃μ' ar,cN t body μ st=.nx μ' ar/\Q μ' ar:=by obtain⟨μ',ar,e,q⟩:=tD P M Q hs (M μ st+1) μ st (XY _) hp;exact⟨μ',ar,DD e,q⟩
def dh.iC{α β:Type}(r:dh α)(k:α->ag->dh β):dh β:=match r with
 |.ok a st=>k a st
 |.err c st=>.err c st
 |.bad=>.bad
def dh.og{α:Type}(r:dh α)(μ:Env)(k:α->ag->cm):cm:=match r with
 |.ok a st=>k a st
 |.err c st=>.er c μ st
 |.bad=>.bad
def cm.dJ(r:cm)(k:MB):cm:=match r with
 |.nx μ st=>k μ st
 |.rt v st=>.rt v st
 |.bk μ st=>.bk μ st
 |.ct μ st=>.ct μ st
 |.er c μ st=>.er c μ st
 |.bad=>.bad
def cm.fin(r:cm):dh ah:=match r with
 |.nx _ ar=>.ok .dg ar
 |.rt v ar=>.ok v ar
 |.er c _ ar=>.err c ar
 |_=>.bad
section
variable{α β:Type}{μ:Env}{st:ag}
theorem ao{a:α}{k:α->ag->dh β}:(dh.ok a st).iC k=k a st:=rfl
theorem B8{c:Str}{k:α->ag->dh β}:(dh.err c st:dh α).iC k=.err c st:=rfl
theorem B9{k:α->ag->dh β}:(dh.bad:dh α).iC k=.bad:=rfl
theorem aD{a:α}{k:α->ag->cm}:(dh.ok a st).og μ k=k a st:=rfl
theorem rY{c:Str}{k:α->ag->cm}:(dh.err c st:dh α).og μ k=.er c μ st:=rfl
theorem B_{k:α->ag->cm}:(dh.bad:dh α).og μ k=.bad:=rfl
theorem aW{k:MB}:(cm.nx μ st).dJ k=k μ st:=rfl
theorem jX{v:ah}{k:MB}:(cm.rt v st).dJ k=.rt v st:=rfl
theorem Gm{k:MB}:(cm.bk μ st).dJ k=.bk μ st:=rfl
theorem Gn{k:MB}:(cm.ct μ st).dJ k=.ct μ st:=rfl
theorem AZ{c:Str}{k:MB}:(cm.er c μ st).dJ k=.er c μ st:=rfl
theorem xg:(cm.nx μ st).fin=.ok .dg st:=rfl
theorem bt{v:ah}:(cm.rt v st).fin=.ok v st:=rfl
theorem A0{c:Str}:(cm.er c μ st).fin=.err c st:=rfl
theorem jE{r:dh α}{k:α->ag->dh β}:r.bind k=r.iC k:=by cases r<;>rfl
variable{a b c:ME}{f g:F2}{t u:MT}{s1 s2:MB}{ms:MA}{i:Nat}{v:ah}
theorem cH{r:dh α}{k k':α->ag->dh β}(h:∀a st,k a st=k' a st):r.bind k=r.iC k':=by cases r<;>first|exact h _ _|rfl
theorem fE{r:dh α}{k k':α->ag->cm}(h:∀a st,k a st=k' a st):r.sb μ k=r.og μ k':=by cases r<;>first|exact h _ _|rfl
def yT(f:F2)(x:ah):ah->ag->dh ah:=fun y st=>f x y st
def Q5(f:F2)(b:ME)(μ:Env):ah->ag->dh ah:=fun x st=>(b μ st).iC (yT f x)
theorem ax:af f a b μ st=(a μ st).iC (Q5 f b μ):=cH fun _ _=>cH fun _ _=>rfl
theorem aM{x:ah}:Q5 f b μ x st=(b μ st).iC (yT f x):=rfl
theorem aw{x y:ah}:yT f x y st=f x y st:=rfl
theorem bc:mC v μ st=.ok v st:=rfl
def asB:ah->ag->dh Bool
 |.bl b,st=>.ok b st
 |_,_=>.bad
theorem aR{b:Bool}:asB (.bl b) st=.ok b st:=rfl
theorem aQ:b8 a μ st=(a μ st).iC asB:=cH fun x _=>by cases x<;>rfl
def NJ(b:ME)(μ:Env):ah->ag->dh ah
 |.bl true,st=>b μ st
 |.bl false,st=>.ok (.bl false) st
 |_,_=>.bad
theorem tF:Az a b μ st=(a μ st).iC (NJ b μ):=cH fun x _=>by
 cases x<;>try rfl
 rename_i k;cases k<;>rfl
theorem oh:NJ b μ (.bl true) st=b μ st:=rfl
theorem B!:NJ b μ (.bl false) st=.ok (.bl false) st:=rfl
def U?(b:ME)(μ:Env):ah->ag->dh ah
 |.bl true,st=>.ok (.bl true) st
 |.bl false,st=>b μ st
 |_,_=>.bad
theorem vV:QI a b μ st=(a μ st).iC (U? b μ):=cH fun x _=>by
 cases x<;>try rfl
 rename_i k;cases k<;>rfl
theorem xh:U? b μ (.bl true) st=.ok (.bl true) st:=rfl
theorem xi:U? b μ (.bl false) st=b μ st:=rfl
def Q6:ah->ag->dh ah
 |.bl k,st=>.ok (.bl (!k)) st
 |_,_=>.bad
theorem Gp:Jd a μ st=(a μ st).iC Q6:=cH fun x _=>by cases x<;>rfl
theorem k_not{k:Bool}:Q6 (.bl k) st=.ok (.bl (!k)) st:=rfl
def Gq(u:MT)(μ:Env):Bool->ag->dh Bool
 |true,st=>u μ st
 |false,st=>.ok false st
theorem cF:fm t u μ st=(t μ st).iC (Gq u μ):=cH fun x _=>by cases x<;>rfl
theorem dy:Gq u μ true st=u μ st:=rfl
theorem fZ:Gq u μ false st=.ok false st:=rfl
def NK(u:MT)(μ:Env):Bool->ag->dh Bool
 |true,st=>.ok true st
 |false,st=>u μ st
theorem gk:g8 t u μ st=(t μ st).iC (NK u μ):=cH fun x _=>by cases x<;>rfl
theorem xj:NK u μ true st=.ok true st:=rfl
theorem fQ:NK u μ false st=u μ st:=rfl
def K0:Bool->ag->dh Bool:=fun k st=>.ok (!k) st
theorem fe:dW t μ st=(t μ st).iC K0:=cH fun _ _=>rfl
theorem gm{k:Bool}:K0 k st=.ok (!k) st:=rfl
def NL(a b:ME)(μ:Env):Bool->ag->dh ah
 |true,st=>a μ st
 |false,st=>b μ st
theorem vW:QJ t a b μ st=(t μ st).iC (NL a b μ):=cH fun x _=>by cases x<;>rfl
theorem rZ:NL a b μ true st=a μ st:=rfl
theorem r6:NL a b μ false st=b μ st:=rfl
def JK(g:F2)(c:ME)(μ:Env)(y:ah):ah->ag->dh ah
 |.bl true,st=>(c μ st).iC (yT g y)
 |.bl false,st=>.ok (.bl false) st
 |_,_=>.bad
def NM(f g:F2)(c:ME)(μ:Env)(x:ah):ah->ag->dh ah:=fun y st=>(f x y st).iC (JK g c μ y)
def kCh(f g:F2)(b c:ME)(μ:Env):ah->ag->dh ah:=fun x st=>(b μ st).iC (NM f g c μ x)
theorem tH:s_ f g a b c μ st=(a μ st).iC (kCh f g b c μ):=cH fun _ _=>cH fun _ _=>cH fun z _=>by
 cases z<;>try rfl
 rename_i k;cases k
 .rfl
 .exact cH fun _ _=>rfl
theorem NN{x:ah}:kCh f g b c μ x st=(b μ st).iC (NM f g c μ x):=rfl
theorem Gr{x y:ah}:NM f g c μ x y st=(f x y st).iC (JK g c μ y):=rfl
theorem xk{y:ah}:JK g c μ y (.bl true) st=(c μ st).iC (yT g y):=rfl
theorem B?{y:ah}:JK g c μ y (.bl false) st=.ok (.bl false) st:=rfl
theorem aG:aj μ st=.ok [] st:=rfl
def A1(x:ah):List ah->ag->dh (List ah):=fun xs st=>.ok (x::xs) st
def K2(ms:MA)(μ:Env):ah->ag->dh (List ah):=fun x st=>(ms μ st).iC (A1 x)
theorem au:aa a ms μ st=(a μ st).iC (K2 ms μ):=cH fun _ _=>cH fun _ _=>rfl
theorem aH{x:ah}:K2 ms μ x st=(ms μ st).iC (A1 x):=rfl
theorem av{x:ah}{xs:List ah}:A1 x xs st=.ok (x::xs) st:=rfl
def Q7:List ah->ag->dh ah:=fun xs st=>if xs.length<=sizeLine then .ok (.tup xs) st else .bad
theorem il:jt ms μ st=(ms μ st).iC Q7:=cH fun _ _=>rfl
theorem ke{xs:List ah}:Q7 xs st=if xs.length<=sizeLine then .ok (.tup xs) st else .bad:=rfl
def Q8:List ah->ag->dh ah:=fun xs st=>if xs.length<=sizeLine then .ok (.loc st.length) (st++[.lst xs])else .bad
theorem c8:dA ms μ st=(ms μ st).iC Q8:=cH fun _ _=>rfl
theorem eJ{xs:List ah}:Q8 xs st=if xs.length<=sizeLine then .ok (.loc st.length) (st++[.lst xs])else .bad:=rfl
theorem aA{h:FN}:ai h ms μ st=(ms μ st).iC h:=cH fun _ _=>rfl
def Q9:ah->ag->dh ah
 |.int i,st=>.ok (.int (-i)) st
 |_,_=>.bad
theorem fo{i:Int}:Q9 (.int i) st=.ok (.int (-i)) st:=rfl
theorem ip:iK a μ st=(a μ st).iC Q9:=cH fun x _=>by cases x<;>rfl
def DP(T:String)(v:ah)(st:ag):dh ah:=match QQ T st v with
 |some b=>.ok (.bl b) st
 |none=>.bad
theorem tJ{T:String}:Dx T a μ st=(a μ st).iC (DP T):=cH fun _ _=>rfl
theorem aT:aC s1 s2 μ st=(s1 μ st).dJ s2:=by unfold aC;cases s1 μ st<;>rfl
theorem bp:bT μ st=.nx μ st:=rfl
def K3(μ:Env):ah->ag->cm:=fun _ st=>.nx μ st
theorem fw:iB a μ st=(a μ st).og μ (K3 μ):=fE fun _ _=>rfl
theorem gC:K3 μ v st=.nx μ st:=rfl
def Q_:ah->ag->cm:=fun v st=>.rt v st
theorem bh:bG a μ st=(a μ st).og μ Q_:=fE fun _ _=>rfl
theorem bY:Q_ v st=.rt v st:=rfl
def Va(s1 s2:MB)(μ:Env):Bool->ag->cm
 |true,st=>s1 μ st
 |false,st=>s2 μ st
theorem bj:ij t s1 s2 μ st=(t μ st).og μ (Va s1 s2 μ):=fE fun x _=>by cases x<;>rfl
theorem fq:Va s1 s2 μ true st=s1 μ st:=rfl
theorem bJ:Va s1 s2 μ false st=s2 μ st:=rfl
def Q!(i:Nat)(μ:Env):ah->ag->cm:=fun v st=>.nx (μ.set i (some v)) st
theorem bo:aO i a μ st=(a μ st).og μ (Q! i μ):=fE fun _ _=>rfl
theorem bM:Q! i μ v st=.nx (μ.set i (some v)) st:=rfl
def Gs(x:Str)(μ:Env):List ah->ag->cm:=fun vs st=>if vs.length<=sizeLine then .er x μ st else .bad
theorem tK{x:Str}:iS x ms μ st=(ms μ st).og μ (Gs x μ):=fE fun _ _=>rfl
theorem xl{x:Str}{vs:List ah}:Gs x μ vs st=if vs.length<=sizeLine then .er x μ st else .bad:=rfl
def kFor(as:AS)(s1:MB)(μ:Env):Itm->ag->cm:=fun p st=>forL p.2 as s1 p.1 μ st
theorem d9{it:MI}{as:AS}:fM it as s1 μ st=(it μ st).og μ (kFor as s1 μ):=fE fun _ _=>rfl
theorem f7{as:AS}{us:List ah}{q:ag->Prop}:kFor as s1 μ (us,q) st=forL q as s1 us μ st:=rfl
def NO:List ah->ag->dh ah:=fun ys st=>.ok (.loc st.length) (st++[.lst ys])
theorem gN{ys:List ah}:NO ys st=.ok (.loc st.length) (st++[.lst ys]):=rfl
def Gu(k:Nat)(bu:List Nat)(as:AS)(t:MT)(a:ME)(μ:Env):Itm->ag->dh ah:=fun p st=>if p.1.length<=sizeLine then(du p.2 as t a p.1 (je k bu μ) st []).iC NO else .bad
theorem dO{k:Nat}{bu:List Nat}{it:MI}{as:AS}:dX k bu it as t a μ st=(it μ st).iC (Gu k bu as t a μ):=cH fun p st1=>by
 unfold Gu;split
 .exact cH fun _ _=>rfl
 .rfl
theorem ft{k:Nat}{bu:List Nat}{as:AS}{us:List ah}{q:ag->Prop}:Gu k bu as t a μ (us,q) st=if us.length<=sizeLine then(du q as t a us (je k bu μ) st []).iC NO else .bad:=rfl
theorem bI{np n:Nat}{us:List ah}(h:us.length=np):gO np n s1 us st=(s1 (us.map some++List.replicate (n-np) none) st).fin:=by unfold gO;rw[VD h];cases s1 (us.map some++List.replicate (n-np) none) st<;>rfl
theorem aK{x:Option ah}{μ:Env}:jT (i+1) (x::μ) st=jT i μ st:=rfl
theorem aP{μ:Env}{j:Int}:a! (some (.int j)::μ) st=.ok (.int j) st:=rfl
theorem K4{μ:Env}{j:Bool}:a! (some (.bl j)::μ) st=.ok (.bl j) st:=rfl
theorem Gv{μ:Env}{j:Str}:a! (some (.str j)::μ) st=.ok (.str j) st:=rfl
theorem dZ{μ:Env}{j:List ah}:a! (some (.tup j)::μ) st=.ok (.tup j) st:=rfl
theorem a9{μ:Env}{j:Nat}:a! (some (.loc j)::μ) st=.ok (.loc j) st:=rfl
theorem Gw{μ:Env}:a! (some .dg::μ) st=.ok .dg st:=rfl
def yU(v:ah)(st:ag):dh Itm:=match tm st v with
 |some p=>.ok p st
 |none=>.bad
theorem eu:g_ a μ st=(a μ st).iC yU:=by unfold g_;rw[jE];rfl
theorem pB{us:List ah}:yU (.tup us) st=.ok (us,fun _=>True) st:=rfl
theorem cP{n:Nat}{us:List ah}(h:ak st n=some us):yU (.loc n) st=.ok (us,fun ar=>ak ar n=some us) st:=by simp only[yU,tm,h];rfl
def Gx(vs:List ah)(ar:ag):dh Itm:=match vs with
 |[.int j]=>if -(2 ^ 62)<=j/\j<2 ^ 62 then .ok (cY 0 j.toNat,fun _=>True) ar else .bad
 |_=>.bad
def JL(vs:List ah)(ar:ag):dh Itm:=match vs with
 |[.int i,.int j]=>if -(2 ^ 62)<=i/\i<2 ^ 62/\-(2 ^ 62)<=j/\j<2 ^ 62 then .ok (cY i (j-i).toNat,fun _=>True) ar else .bad
 |_=>.bad
theorem fA:cK ms μ st=(ms μ st).iC Gx:=by unfold cK;rw[jE];rfl
theorem r9:jh ms μ st=(ms μ st).iC JL:=by unfold jh;rw[jE];rfl
theorem mz{j:Int}(h1:-(2 ^ 62)<=j)(h2:j<2 ^ 62):Gx [.int j] st=.ok (cY 0 j.toNat,fun _=>True) st:=by unfold Gx;dsimp only;rw[VD ⟨h1,h2⟩]
theorem JM{i j:Int}(h1:-(2 ^ 62)<=i)(h2:i<2 ^ 62)(h3:-(2 ^ 62)<=j)(h4:j<2 ^ 62):JL [.int i,.int j] st=.ok (cY i (j-i).toNat,fun _=>True) st:=by unfold JL;dsimp only;rw[VD ⟨h1,h2,h3,h4⟩]
def JN(b1 b2:Bool)(vs:List ah)(ar:ag):dh Itm:=match vs with
 |[u,w]=>match iT ar u,iT ar w with
  |some (c1,us,g1),some (c2,ws,g2)=>if c1=b1/\c2=b2 then .ok (km us ws,fun cJ=>g1 cJ/\g2 cJ) ar else .bad
  |_,_=>.bad
 |_=>.bad
theorem tM{b1 b2:Bool}:tq b1 b2 ms μ st=(ms μ st).iC (JN b1 b2):=by unfold tq;rw[jE];rfl
theorem xm{us ws:List ah}:JN false false [.tup us,.tup ws] st=.ok (km us ws,fun _=>True/\True) st:=rfl
theorem JO{n:Nat}{us:List ah}(h1:ak st n=some us):AG [.loc n] st=.ok (.tup us) st:=by unfold AG;dsimp only;rw[h1]
theorem eM{i j:Int}:bU (.int i) (.int j) st=.ok (.int (i+j)) st:=rfl
theorem fW{i j:Int}:gP (.int i) (.int j) st=.ok (.int (i-j)) st:=rfl
theorem A2{i j:Int}(h:MulOk i j):bV (.int i) (.int j) st=.ok (.int (i*j)) st:=by unfold bV;dsimp only;rw[VD h]
theorem A3{i j:Int}(h:Sz i/\Sz j):bV (.int i) (.int j) st=.ok (.int (i*j)) st:=A2 (.inl h)
theorem gu{i j:Int}(h1:-(2 ^ 64)<i)(h2:i<2 ^ 64):bV (.int i) (.int j) st=.ok (.int (i*j)) st:=A2 (.inr (.inl ⟨h1,h2⟩))
theorem mul_r{i j:Int}(h1:-(2 ^ 64)<j)(h2:j<2 ^ 64):bV (.int i) (.int j) st=.ok (.int (i*j)) st:=A2 (.inr (.inr ⟨h1,h2⟩))
theorem div_ii{i j:Int}(h:Dz j):c_ (.int i) (.int j) st=.ok (.int (i.fdiv j)) st:=VD h
theorem bF{i j:Int}(h:¬ j=0):bW (.int i) (.int j) st=.ok (.int (i.fmod j)) st:=VI h
theorem xn{i j:Int}(h:Ey i j):Jh (.int i) (.int j) st=.ok (.int (i ^ j.toNat)) st:=VD h
theorem fB{i j:Int}:ltV (.int i) (.int j) st=.ok (.bl (decide (i<j))) st:=rfl
theorem yV{i j:Int}:Ji (.int i) (.int j) st=.ok (.bl (decide (i<=j))) st:=rfl
theorem f9{i j:Int}:uX (.int i) (.int j) st=.ok (.bl (decide (j<i))) st:=rfl
theorem K5{i j:Int}:geV (.int i) (.int j) st=.ok (.bl (decide (j<=i))) st:=rfl
theorem dz{i j:Int}:h! (.int i) (.int j) st=.ok (.bl (i==j)) st:=rfl
theorem m_{i j:Int}:jV (.int i) (.int j) st=.ok (.bl (!(i==j))) st:=rfl
theorem K6{i j:Bool}:h! (.bl i) (.bl j) st=.ok (.bl (i==j)) st:=rfl
theorem K7{i j:Bool}:jV (.bl i) (.bl j) st=.ok (.bl (!(i==j))) st:=rfl
theorem K8{i j:Str}:h! (.str i) (.str j) st=.ok (.bl (i==j)) st:=rfl
theorem K9{i j:Str}:jV (.str i) (.str j) st=.ok (.bl (!(i==j))) st:=rfl
theorem bz{us:List ah}{i:Int}{v:ah}(h:L2.jP us i=some v):bN (.tup us) (.int i) st=.ok v st:=by unfold bN;dsimp only;rw[h]
theorem c!{n:Nat}{us:List ah}{i:Int}{v:ah}(h1:ak st n=some us)(h:L2.jP us i=some v):bN (.loc n) (.int i) st=.ok v st:=by unfold bN;dsimp only;rw[h1];dsimp only;rw[h]
theorem a7{n:Nat}{us:List ah}(h1:ak st n=some us):bx [.loc n] st=.ok (.int us.length) st:=by unfold bx;dsimp only;rw[h1]
theorem oj{us:List ah}:bx [.tup us] st=.ok (.int us.length) st:=rfl
theorem tN{i:Int}:yJ [.int i] st=.ok (.int (if i<0 then -i else i)) st:=rfl
theorem tO{i:Int}:DP "int" (.int i) st=.ok (.bl true) st:=rfl
theorem qq{i:Int}:DP "bool" (.int i) st=.ok (.bl false) st:=rfl
theorem B'{n m:Nat}{us:List ah}(h1:ak st n=some us)(h2:ak st m=some []):jL 16 st (.loc n) (.loc m)=some us.isEmpty:=by unfold jL;simp only[vw,h1,h2];show g9 _ us []=_;cases us<;>rfl
theorem eq_nil{n m:Nat}{us:List ah}(h1:ak st n=some us)(h2:ak st m=some []):h! (.loc n) (.loc m) st=.ok (.bl us.isEmpty) st:=by unfold h!;rw[B' h1 h2]
theorem ne_nil{n m:Nat}{us:List ah}(h1:ak st n=some us)(h2:ak st m=some []):jV (.loc n) (.loc m) st=.ok (.bl (!us.isEmpty)) st:=by unfold jV;rw[B' h1 h2]
def dh.Vb(r:dh α):dh α:=match r with
 |.ok v ar=>.ok v ar
 |.err _ _=>.bad
 |.bad=>.bad
theorem A4{m:Env->ag->dh α}:O6 m μ st=(m μ st).Vb:=by unfold O6 dh.Vb;cases m μ st<;>rfl
theorem A5{a:α}:(dh.ok a st).Vb=.ok a st:=rfl
def cm.JP(r:cm):cm:=match r with
 |.er _ _ _=>.bad
 |.nx μ' ar=>.nx μ' ar
 |.rt v ar=>.rt v ar
 |.bk μ' ar=>.bk μ' ar
 |.ct μ' ar=>.ct μ' ar
 |.bad=>.bad
theorem tP:yN s1 μ st=(s1 μ st).JP:=by unfold yN cm.JP;cases s1 μ st<;>rfl
theorem Ca:(cm.nx μ st).JP=.nx μ st:=rfl
theorem xo:(cm.rt v st).JP=.rt v st:=rfl
def cm.Gy(r:cm)(kn:Str->Bool)(h:MH):cm:=match r with
 |.er c μ' ar=>if kn c=true then h c μ' ar else .bad
 |.nx μ' ar=>.nx μ' ar
 |.rt v ar=>.rt v ar
 |.bk μ' ar=>.bk μ' ar
 |.ct μ' ar=>.ct μ' ar
 |.bad=>.bad
theorem A6{kn:Str->Bool}{h:MH}:AQ kn s1 h μ st=(s1 μ st).Gy kn h:=by unfold AQ cm.Gy;cases s1 μ st<;>rfl
theorem Cb{kn:Str->Bool}{h:MH}:(cm.nx μ st).Gy kn h=.nx μ st:=rfl
theorem Cc{kn:Str->Bool}{h:MH}:(cm.rt v st).Gy kn h=.rt v st:=rfl
theorem JQ{kn:Str->Bool}{h:MH}{c:Str}(hk:kn c=true):(cm.er c μ st).Gy kn h=h c μ st:=by show(if kn c=true then h c μ st else .bad)=_;rw[VD hk]
theorem JR{sub:Str->Str->Option Bool}{x c:Str}{r:MH}(h:sub c x=some true):vR sub x s1 r c μ st=AN (s1 μ st):=by unfold vR;rw[h]
theorem pC:AN (.rt v st)=.rt v st:=rfl
theorem K_{sub:Str->Str->Option Bool}{x:Str}{y:Option ah}{μ:Env}:QV sub (i+1) x (y::μ) st=QV sub i x μ st:=rfl
end
end MN
namespace MN
open PySem.Spec L2
open PyProof.Rows hiding St kindOf
theorem evs:(((((((type_of% @bI)/\((type_of% @ao)/\(type_of% @B8)))/\(((type_of% @B9)/\(type_of% @aD))/\((type_of% @rY)/\(type_of% @B_))))/\((((type_of% @aW)/\(type_of% @jX))/\((type_of% @AZ)/\(type_of% @Gm)))/\(((type_of% @Gn)/\(type_of% @xg))/\((type_of% @bt)/\(type_of% @A0)))))/\(((((type_of% @ax)/\(type_of% @aM))/\((type_of% @aw)/\(type_of% @oh)))/\(((type_of% @B!)/\(type_of% @xh))/\((type_of% @xi)/\(type_of% @k_not))))/\((((type_of% @dy)/\(type_of% @fZ))/\((type_of% @xj)/\(type_of% @fQ)))/\(((type_of% @gm)/\(type_of% @rZ))/\((type_of% @r6)/\(type_of% @NN))))))/\((((((type_of% @Gr)/\(type_of% @xk))/\((type_of% @B?)/\(type_of% @aH)))/\(((type_of% @av)/\(type_of% @ke))/\((type_of% @eJ)/\(type_of% @gC))))/\((((type_of% @bY)/\(type_of% @fq))/\((type_of% @bJ)/\(type_of% @bM)))/\(((type_of% @xl)/\(type_of% @f7))/\((type_of% @gN)/\(type_of% @ft)))))/\(((((type_of% @bc)/\(type_of% @aR))/\((type_of% @aQ)/\(type_of% @tF)))/\(((type_of% @vV)/\(type_of% @Gp))/\((type_of% @cF)/\(type_of% @gk))))/\((((type_of% @fe)/\(type_of% @vW))/\((type_of% @tH)/\(type_of% @aG)))/\(((type_of% @au)/\(type_of% @il))/\((type_of% @c8)/\(type_of% @aA)))))))/\(((((((type_of% @fo)/\(type_of% @ip))/\((type_of% @tJ)/\(type_of% @aT)))/\(((type_of% @bp)/\(type_of% @fw))/\((type_of% @bh)/\(type_of% @bj))))/\((((type_of% @bo)/\(type_of% @tK))/\((type_of% @d9)/\(type_of% @dO)))/\(((type_of% @eu)/\(type_of% @fA))/\((type_of% @r9)/\(type_of% @pB)))))/\(((((type_of% @tM)/\(type_of% @xm))/\((type_of% @A4)/\(type_of% @A5)))/\(((type_of% @tP)/\(type_of% @Ca))/\((type_of% @xo)/\(type_of% @A6))))/\((((type_of% @Cb)/\(type_of% @Cc))/\((type_of% @pC)/\(type_of% @MN.K_)))/\(((type_of% @eM)/\(type_of% @fW))/\((type_of% @fB)/\(type_of% @yV))))))/\((((((type_of% @f9)/\(type_of% @K5))/\((type_of% @dz)/\(type_of% @m_)))/\(((type_of% @K6)/\(type_of% @K7))/\((type_of% @K8)/\(type_of% @K9))))/\((((type_of% @oj)/\(type_of% @tN))/\((type_of% @tO)/\(type_of% @qq)))/\(((type_of% @aP)/\(type_of% @K4))/\((type_of% @Gv)/\(type_of% @dZ)))))/\(((((type_of% @a9)/\(type_of% @Gw))/\((type_of% @aK)/\(type_of% @Vr.{0,0})))/\(((type_of% @VH.{0,0})/\(type_of% @VB.{0}))/\((type_of% @Vu.{0})/\(type_of% @Vy.{0}))))/\((((type_of% @Vt.{0})/\(type_of% @Vo.{0}))/\((type_of% @Vs.{0})/\(type_of% @Vk.{0})))/\(((type_of% @Vq.{0})/\(type_of% @Wd))/\((type_of% @Xs)/\(type_of% @Vv)))))))):=⟨⟨⟨⟨⟨⟨@bI,⟨@ao,@B8⟩⟩,⟨⟨@B9,@aD⟩,⟨@rY,@B_⟩⟩⟩,⟨⟨⟨@aW,@jX⟩,⟨@AZ,@Gm⟩⟩,⟨⟨@Gn,@xg⟩,⟨@bt,@A0⟩⟩⟩⟩,⟨⟨⟨⟨@ax,@aM⟩,⟨@aw,@oh⟩⟩,⟨⟨@B!,@xh⟩,⟨@xi,@k_not⟩⟩⟩,⟨⟨⟨@dy,@fZ⟩,⟨@xj,@fQ⟩⟩,⟨⟨@gm,@rZ⟩,⟨@r6,@NN⟩⟩⟩⟩⟩,⟨⟨⟨⟨⟨@Gr,@xk⟩,⟨@B?,@aH⟩⟩,⟨⟨@av,@ke⟩,⟨@eJ,@gC⟩⟩⟩,⟨⟨⟨@bY,@fq⟩,⟨@bJ,@bM⟩⟩,⟨⟨@xl,@f7⟩,⟨@gN,@ft⟩⟩⟩⟩,⟨⟨⟨⟨@bc,@aR⟩,⟨@aQ,@tF⟩⟩,⟨⟨@vV,@Gp⟩,⟨@cF,@gk⟩⟩⟩,⟨⟨⟨@fe,@vW⟩,⟨@tH,@aG⟩⟩,⟨⟨@au,@il⟩,⟨@c8,@aA⟩⟩⟩⟩⟩⟩,⟨⟨⟨⟨⟨⟨@fo,@ip⟩,⟨@tJ,@aT⟩⟩,⟨⟨@bp,@fw⟩,⟨@bh,@bj⟩⟩⟩,⟨⟨⟨@bo,@tK⟩,⟨@d9,@dO⟩⟩,⟨⟨@eu,@fA⟩,⟨@r9,@pB⟩⟩⟩⟩,⟨⟨⟨⟨@tM,@xm⟩,⟨@A4,@A5⟩⟩,⟨⟨@tP,@Ca⟩,⟨@xo,@A6⟩⟩⟩,⟨⟨⟨@Cb,@Cc⟩,⟨@pC,@MN.K_⟩⟩,⟨⟨@eM,@fW⟩,⟨@fB,@yV⟩⟩⟩⟩⟩,⟨⟨⟨⟨⟨@f9,@K5⟩,⟨@dz,@m_⟩⟩,⟨⟨@K6,@K7⟩,⟨@K8,@K9⟩⟩⟩,⟨⟨⟨@oj,@tN⟩,⟨@tO,@qq⟩⟩,⟨⟨@aP,@K4⟩,⟨@Gv,@dZ⟩⟩⟩⟩,⟨⟨⟨⟨@a9,@Gw⟩,⟨@aK,@Vr.{0,0}⟩⟩,⟨⟨@VH.{0,0},@VB.{0}⟩,⟨@Vu.{0},@Vy.{0}⟩⟩⟩,⟨⟨⟨@Vt.{0},@Vo.{0}⟩,⟨@Vs.{0},@Vk.{0}⟩⟩,⟨⟨@Vq.{0},@Wd⟩,⟨@Xs,@Vv⟩⟩⟩⟩⟩⟩⟩
section
variable{μ:Env}{st:ag}{a b c o:ME}{ms:MA}{f:F2}{g:FM}{v w:ah}{i n m:Nat}{us ws:List ah}
def NP(x:ah)(l:Option Int):Option Int->ag->dh ah:=fun h st=>KW l h x st
def NQ(hi:MO)(μ:Env)(x:ah):Option Int->ag->dh ah:=fun l st=>(hi μ st).iC (NP x l)
def kSl(lo hi:MO)(μ:Env):ah->ag->dh ah:=fun x st=>(lo μ st).iC (NQ hi μ x)
theorem K!{lo hi:MO}:O7 a lo hi μ st=(a μ st).iC (kSl lo hi μ):=cH fun x st1=>cH fun l cJ=>cH fun h mZ=>rfl
theorem Q?{lo hi:MO}:kSl lo hi μ v st=(lo μ st).iC (NQ hi μ v):=rfl
theorem K?{hi:MO}{l:Option Int}:NQ hi μ v l st=(hi μ st).iC (NP v l):=rfl
theorem K'{l h:Option Int}:NP v l h st=KW l h v st:=rfl
theorem yW:yR μ st=.ok none st:=rfl
def kO:ah->ag->dh (Option Int)
 |.int i,st=>.ok (some i) st
 |_,_=>.bad
theorem yX:yS a μ st=(a μ st).iC kO:=cH fun x _=>by cases x<;>rfl
theorem Ra{j:Int}:kO (.int j) st=.ok (some j) st:=rfl
theorem Gz{l h:Option Int}(e:ak st n=some us):KW l h (.loc n) st=.ok (.loc st.length) (st++[.lst (AW us l h)]):=by simp only[KW,e]
def NR(g:FM)(x:ah):List ah->ag->dh ah:=fun xs st=>g x xs st
def GA(g:FM)(ms:MA)(μ:Env):ah->ag->dh ah:=fun x st=>if qo st x=true then(ms μ st).iC (NR g x)else .bad
theorem A7:yL g o ms μ st=(o μ st).iC (GA g ms μ):=cH fun x st1=>by
 unfold GA;split
 .exact cH fun _ _=>rfl
 .rfl
theorem GB(h:st[n]?=some (.lst us)):GA g ms μ (.loc n) st=(ms μ st).iC (NR g (.loc n)):=by unfold GA;rw[VD (by unfold qo;dsimp only;rw[h])]
theorem GC{xs:List ah}:NR g v xs st=g v xs st:=rfl
def NT(g:FM):ah->ag->dh ah:=fun x st=>if qo st x=true then g x [] st else .bad
theorem NU:Gf g o μ st=(o μ st).iC (NT g):=cH fun _ _=>rfl
theorem Rb(h:st[n]?=some (.lst us)):NT g (.loc n) st=g (.loc n) [] st:=by unfold NT;rw[VD (by unfold qo;dsimp only;rw[h])]
theorem pD(h:st[n]?=some (.lst us))(hl:us.length<sizeLine):fN (.loc n) [v] st=.ok .dg (st.set n (.lst (us++[v]))):=by simp only[fN,h];rw[VD hl]
theorem NV(h:st[n]?=some (.lst (us++[v]))):AX (.loc n) [] st=.ok v (st.set n (.lst us)):=by
 simp only[AX,h];have e:(us++[v])[(us++[v]).length-1]?=some v:=by rw[Vn,Wi,Nat.add_sub_cancel,VP (VA _),WT];rfl
 rw[e,List.dropLast_concat]
def NW(μ:Env)(x y:ah):ah->ag->cm:=fun z st=>KY μ (pA y z x st)
def NX(b:ME)(μ:Env)(x:ah):ah->ag->cm:=fun y st=>(b μ st).og μ (NW μ x y)
def kSI(a b:ME)(μ:Env):ah->ag->cm:=fun x st=>(a μ st).og μ (NX b μ x)
theorem Ce:vS a b c μ st=(c μ st).og μ (kSI a b μ):=fE fun _ _=>fE fun _ _=>fE fun _ _=>rfl
theorem Rc:kSI a b μ v st=(a μ st).og μ (NX b μ v):=rfl
theorem La:NX b μ v w st=(b μ st).og μ (NW μ v w):=rfl
theorem Lb{x:ah}:NW μ v w x st=KY μ (pA w x v st):=rfl
theorem r_{k:Int}{j:Nat}(h:st[n]?=some (.lst us))(hj:L2.yt us.length k=some j):pA (.loc n) (.int k) v st=some (st.set n (.lst (us.set j v))):=by simp only[pA,h,hj];rfl
theorem om:KY μ (some st)=.nx μ st:=rfl
def NY(μ:Env)(y z:ah):ah->ag->cm:=fun r st=>KY μ (pA y z r st)
def NZ(f:F2)(μ:Env)(y z x:ah):ah->ag->cm:=fun w st=>(f x w st).og μ (NY μ y z)
def N0(f:F2)(c:ME)(μ:Env)(y z:ah):ah->ag->cm:=fun x st=>(c μ st).og μ (NZ f μ y z x)
def N1(f:F2)(c:ME)(μ:Env)(y:ah):ah->ag->cm:=fun z st=>(KZ y z st).og μ (N0 f c μ y z)
def kAI(f:F2)(b c:ME)(μ:Env):ah->ag->cm:=fun y st=>(b μ st).og μ (N1 f c μ y)
theorem Ci:vT f a b c μ st=(a μ st).og μ (kAI f b c μ):=fE fun _ _=>fE fun _ _=>fE fun _ _=>fE fun _ _=>fE fun _ _=>rfl
theorem Rf:kAI f b c μ v st=(b μ st).og μ (N1 f c μ v):=rfl
theorem Lc:N1 f c μ v w st=(KZ v w st).og μ (N0 f c μ v w):=rfl
theorem Ld{x:ah}:N0 f c μ v w x st=(c μ st).og μ (NZ f μ v w x):=rfl
theorem Le{x y:ah}:NZ f μ v w x y st=(f x y st).og μ (NY μ v w):=rfl
theorem Lf{x:ah}:NY μ v w x st=KY μ (pA v w x st):=rfl
theorem GD{k:Int}(e:ak st n=some us)(h:L2.jP us k=some v):KZ (.loc n) (.int k) st=.ok v st:=by simp only[KZ,e,h]
theorem GF{j k:Int}:DI (.int j) (.int k) st=.ok (.int (j+k)) st:=rfl
theorem N2{j k:Int}:JD (.int j) (.int k) st=.ok (.int (j-k)) st:=rfl
def N3(k:Nat)(μ:Env):ah->ag->cm:=fun r st=>.nx (μ.set k (some r)) st
def N4(k:Nat)(f:F2)(μ:Env)(x:ah):ah->ag->cm:=fun w st=>(f x w st).og μ (N3 k μ)
def kAu(k:Nat)(f:F2)(a:ME)(μ:Env):ah->ag->cm:=fun x st=>(a μ st).og μ (N4 k f μ x)
theorem N5{k:Nat}:Gg k f a μ st=(jT k μ st).og μ (kAu k f a μ):=fE fun _ _=>fE fun _ _=>fE fun _ _=>rfl
theorem Vc{k:Nat}:kAu k f a μ v st=(a μ st).og μ (N4 k f μ v):=rfl
theorem Rg{k:Nat}:N4 k f μ v w st=(f v w st).og μ (N3 k μ):=rfl
theorem Rh{k:Nat}:N3 k μ v st=.nx (μ.set k (some v)) st:=rfl
theorem JS:xb ms μ st=(ms μ st).iC Gi:=by unfold xb;rw[jE]
theorem xq:kZ ms μ st=(ms μ st).iC Gj:=by unfold kZ;rw[jE]
theorem N6{j k:Int}(h1:-(2 ^ 62)<=j)(h2:j<2 ^ 62)(h3:-(2 ^ 62)<=k)(h4:k<2 ^ 62):Gi [.int j,.int k,.int (-1)] st=.ok (j' j (j-k).toNat,fun _=>True) st:=by unfold Gi;dsimp only;rw[VD ⟨rfl,h1,h2,h3,h4⟩]
theorem A8(e:ak st n=some us):Gj [.loc n] st=.ok (kd 0 us,fun cJ=>ak cJ n=some us) st:=by simp only[Gj,e]
theorem GG(e1:ak st n=some us)(e2:ak st m=some ws):JN true true [.loc n,.loc m] st=.ok (km us ws,fun cJ=>ak cJ n=some us/\ak cJ m=some ws) st:=by unfold JN;dsimp only;unfold iT;dsimp only;rw[e1,e2];rfl
theorem A9{j k:Int}:AY [.int j,.int k] st=.ok (.int (if k>j then k else j)) st:=rfl
theorem Ri{x:Bool}:DJ [.bl x] st=.ok (.int (if x then 1 else 0)) st:=rfl
theorem ji(e:ak st n=some us):gy [.loc n] st=.ok (.loc st.length) (st++[.lst us]):=by simp only[gy,e]
theorem jY(h1:st[n]?=some (.lst us))(h2:st[m]?=some (.lst ws))(hl:us.length+ws.length<=sizeLine):bU (.loc n) (.loc m) st=.ok (.loc st.length) (st++[.lst (us++ws)]):=by simp only[bU,h1,h2];rw[VD hl]
theorem jZ{k:Int}(h1:st[n]?=some (.lst us))(h2:-(2 ^ 63)<=k)(h3:k<2 ^ 63)(h4:us.length*k.toNat<=sizeLine):bV (.loc n) (.int k) st=.ok (.loc st.length) (st++[.lst (jB k.toNat us)]):=by simp only[bV,h1];rw[VD ⟨h2,h3,h4⟩]
theorem ay(h:st[n]?=some (.lst us)):ak st n=some us:=by unfold ak;rw[h]
theorem aN(st:ag)(us:List ah):(st++[aB.lst us])[st.length]?=some (.lst us):=by rw[VP (VA _),WT];rfl
theorem aS{k:aB}(h:st[n]?=some k)(g:ag):(st++g)[n]?=some k:=by rw[V0 (bf h)];exact h
theorem oo{k k':aB}(h:st[n]?=some k):(st.set n k')[n]?=some k':=Ws (bf h)
theorem jk{k k':aB}(h:st[n]?=some k)(hn:m≠n):(st.set m k')[n]?=some k:=by rw[WU hn];exact h
theorem Lg(h:ak st n=some us):n<st.length:=by
 rcases WG n st.length with q|q
 .exact q
 .unfold ak at h;rw[VZ q]at h;cases h
theorem is_list(h:st[n]?=some (.lst us)):DP "list" (.loc n) st=.ok (.bl true) st:=by unfold DP QQ kindOf;dsimp only;rw[h];rfl
theorem k6:DP "tuple" (.tup us) st=.ok (.bl true) st:=rfl
theorem oq(st:ag)(k k':aB):(st++[k]).set st.length k'=st++[k']:=by rw[List.set_append_right _ _ (VA _),WT];rfl
end
mutual
def Cj:Nat->ah->Bool
 |_,.dg=>true
 |_,.bl _=>true
 |_,.int _=>true
 |_,.str _=>true
 |0,.tup _=>false
 |n+1,.tup us=>iV n us
 |_,_=>false
def iV:Nat->List ah->Bool
 |_,[]=>true
 |n,u::us=>Cj n u&&iV n us
end
mutual
theorem tQ(st:ag):∀(n:Nat)(v:ah),Cj n v=true->jL (n+1) st v v=some true
 |_,.dg,_=>rfl
 |_,.bl b,_=>by show some (b==b)=_;rw[W3]
 |_,.int i,_=>by show some (i==i)=_;rw[W3]
 |_,.str x,_=>by show some (x==x)=_;rw[W3]
 |0,.tup _,h=>by cases h
 |n+1,.tup us,h=>by show g9 (jL (n+1) st) us us=some true;exact jF st n us h
 |n,.loc _,h=>by cases n<;>cases h
 |n,.exc _,h=>by cases n<;>cases h
 |n,.fn _ _,h=>by cases n<;>cases h
 |n,.mt _,h=>by cases n<;>cases h
theorem jF(st:ag):∀(n:Nat)(us:List ah),iV n us=true->g9 (jL (n+1) st) us us=some true
 |_,[],_=>rfl
 |n,u::us,h=>by
  have h':Cj n u=true/\iV n us=true:=by simpa[iV]using h
  show(match jL (n+1) st u u,g9 (jL (n+1) st) us us with|some a,some b=>some (a&&b)|_,_=>none)=_;rw[tQ st n u h'.1,jF st n us h'.2];rfl
end
theorem vX{n:Nat}:∀{us:List ah},(∀u∈us,Cj n u=true)->iV n us=true
 |[],_=>rfl
 |u::us,h=>by unfold iV;rw[h u VS,vX fun w hw=>h w (VN u hw)];rfl
theorem fF(n:Nat)(ns:ZX):iV n (ns.map ah.int)=true:=vX fun u hu=>by obtain⟨i,_,rfl⟩:=Wc.mp hu;cases n<;>rfl
section
variable{st:ag}{n m:Nat}{us:List ah}
theorem vY(h1:ak st n=some us)(h2:ak st m=some us)(hp:iV 14 us=true):jL 16 st (.loc n) (.loc m)=some true:=by unfold jL;simp only[vw,h1,h2];exact jF st 14 us hp
theorem GH(h1:ak st n=some us)(h2:ak st m=some us)(hp:iV 14 us=true):h! (.loc n) (.loc m) st=.ok (.bl true) st:=by unfold h!;rw[vY h1 h2 hp]
theorem ou(h1:ak st n=some us)(h2:ak st m=some us)(hp:iV 14 us=true):jV (.loc n) (.loc m) st=.ok (.bl false) st:=by unfold jV;rw[vY h1 h2 hp];rfl
end
end MN
namespace PG
open PySem.Spec L2 MN
open PyProof.Rows hiding St kindOf
theorem ow(i:Int)(st:ag):PM.jD [.int i] st=.ok (.bl true) st:=rfl
def FP:ZX:=[2,3,5,7,11,13,17,19,23,29,31]
def eZ(n:Int):Bool:=FP.contains n || (decide (2<=n)&&decide (n<=997)&&FP.all fun p => !(n.fmod p==0))
theorem any_ints(n:Int)(ns:ZX):(ns.map ah.int).any (fun y=>Nj y (.int n))=ns.contains n:=by
 induction ns with
 |nil=>rfl
 |cons m ns ih=>
  simp only[Vr,Xw,List.contains_cons];rw[ih];congr 1;show(m==n)=(n==m);rw[Bool.eq_iff_iff,W9,W9];exact⟨Eq.symm,Eq.symm⟩
theorem JT(n:Int)(ns:ZX)(st:ag):Nm false (.int n) (.mt (ns.map ah.int)) st=.ok (.bl (ns.contains n)) st:=by
 have h1:(ns.map ah.int).all flat=true:=by rw[List.all_map];exact WA.mpr fun _ _=>rfl
 unfold Nm KS;dsimp only;rw[VD ⟨rfl,h1⟩,any_ints];rfl
theorem JU(ns:ZX)(f:Int->Bool):m9 ((ns.map ah.int).map fun v=>match v with|.int i=>.bl (f i)|_=>.dg)=some (ns.map f):=by
 induction ns with
 |nil=>rfl
 |cons m ns ih=>
  simp only[Vr,m9]at ih⊢;rw[ih];rfl
theorem mO(n:Int)(st:ag):∃g,PM.bZ [.int n] st=.ok (.bl (eZ n)) (st++g):=by
 have KO:Nm false (.int n) PM.gz st=.ok (.bl (FP.contains n)) st:=JT n FP st;cases h1:FP.contains n with
 |true=>
  refine⟨[],?_⟩;rw[h1]at KO;simp only[PM.bZ,bI,ao,aD,jX,bt,ax,aM,aw,bY,fq,bc,aR,aQ,aT,bh,bj,aP,Vr,VH,Vt,Nat.reduceSub,Vk,Vq,Nat.reduceAdd,KO,V3,eZ,h1,Y7]
 |false=>
  rw[h1]at KO;by_cases h2:n<2
  .refine⟨[],?_⟩;have e2:decide (n<2)=true:=VW h2;have e3:decide (2<=n)=false:=VV (by lia);simp only[PM.bZ,bI,ao,aD,aW,jX,bt,ax,aM,aw,xj,bY,fq,bJ,bc,aR,aQ,gk,aT,bp,bh,bj,fB,aP,Vr,VH,Vt,Nat.reduceSub,Vk,Vq,Nat.reduceAdd,KO,e2,V3,eZ,h1,e3,XW,Yb]
  .have e2:decide (n<2)=false:=VV h2;have e3:decide (2<=n)=true:=VW (by lia);by_cases h3:997<n
   .refine⟨[],?_⟩;have e4:decide (997<n)=true:=VW h3;have e5:decide (n<=997)=false:=VV (by lia);simp only[PM.bZ,bI,ao,aD,aW,jX,bt,ax,aM,aw,fQ,bY,fq,bJ,bc,aR,aQ,gk,aT,bp,bh,bj,fB,f9,aP,Vr,VH,Vt,Nat.reduceSub,Vk,Vq,Nat.reduceAdd,KO,e2,e4,V3,eZ,h1,e3,e5,XW,Yb,YR]
   .have e4:decide (997<n)=false:=VV h3;have e5:decide (n<=997)=true:=VW (by lia)
    let f:ah->ah:=fun v=>match v with|.int i=>.bl (!(n.fmod i==0))|_=>.dg
    have hc:du (fun _=>True) (aI 0) bO (af jV (af bW bw a!) (mC (ah.int 0))) (FP.map ah.int) (je 1 [0] [some (ah.int n)]) st []=.ok ([]++((FP.map ah.int).filter fun _=>true).map f) st:=by
     refine gj trivial (fun τ=>∃x,τ=[x,some (.int n)]) (fun _=>true) f (FP.map ah.int) _ [] ⟨none,rfl⟩ ?_;rintro u hu τ ⟨x,rfl⟩;obtain⟨i,hi,rfl⟩:=Wc.mp hu;have hi0:¬ i=0:=by intro z;subst z;revert hi;decide
     refine⟨_,rfl,⟨_,rfl⟩,rfl,fun _=>?_⟩;simp only[ao,ax,aM,aw,bc,m_,aP,aK,Vo,bF hi0,f]
    have hb:m9 (((FP.map ah.int).filter fun _=>true).map f)=some (FP.map fun i => !(n.fmod i==0)):=by rw[List.filter_eq_self.mpr (fun _ _=>rfl)];exact JU FP fun i => !(n.fmod i==0)
    refine⟨[.lst (((FP.map ah.int).filter fun _=>true).map f)],?_⟩;have ha:yK [.loc st.length] (st++[.lst (((FP.map ah.int).filter fun _=>true).map f)])=.ok (.bl (eZ n)) (st++[.lst (((FP.map ah.int).filter fun _=>true).map f)]):=by unfold yK;dsimp only;rw[ba];dsimp only;rw[hb];simp only[eZ,h1,e3,e5,XW,YR,List.all_map];rfl
    have hw:yU PM.gz st=.ok (FP.map ah.int,fun _=>True) st:=rfl;have hz:(FP.map ah.int).length=11:=rfl;rw[Vu]at hc;simp only[PM.bZ,bI,ao,aD,aW,bt,ax,aM,aw,fQ,aH,av,bY,bJ,gN,ft,bc,aR,aQ,gk,aG,au,aA,aT,bp,bh,bj,dO,eu,fB,f9,aP,Vr,VH,VB,Vu,Vt,Nat.reduceSub,Vk,Vq,Nat.reduceAdd,Vv,Nat.reduceLeDiff,↓reduceIte,KO,e2,e4,hw,hc,ha,hz]
end PG
namespace DQ
def JV(u0 u1 g0 g1 M:Int):Prop:=∃e x0 x1:Int,(e=1\/e = -1)/\0<=x0/\0<=x1/\u0=e*x0/\u1 = -(e*x1)/\x1*g0+x0*g1=M/\x0<=M+1/\x1<=M+1
theorem tR{x g:Int}(hx:0<=x)(hg:1<=g):x<=x*g:=by have:=V9 hg hx;simpa using this
theorem JV.step{u0 u1 g0 g1 M q:Int}(h:JV u0 u1 g0 g1 M)(hq:0<=q)(h1:1<=g1)(h2:0<=g0-q*g1):JV u1 (u0-q*u1) g1 (g0-q*g1) M:=by
 obtain⟨e,x0,x1,he,p0,p1,r0,r1,hM,b0,b1⟩:=h;have p2:0<=x0+q*x1:=by have:=X? hq p1;lia
 have eq:(x0+q*x1)*g1+x1*(g0-q*g1)=M:=by rw[<-hM];grind
 refine⟨-e,x1,x0+q*x1,?_,p1,p2,?_,?_,eq,b1,?_⟩
 .rcases he with rfl|rfl<;>simp
 .rw[r1];grind
 .rw[r0,r1];grind
 .have k1:=tR p2 h1;have k2:=X? p1 h2;lia
theorem JV.bound{u0 u1 g0 g1 M:Int}(h:JV u0 u1 g0 g1 M):u0.natAbs<=(M+1).natAbs/\u1.natAbs<=(M+1).natAbs:=by obtain⟨e,x0,x1,he,p0,p1,r0,r1,hM,b0,b1⟩:=h;rcases he with rfl|rfl<;>(subst r0 r1;constructor<;>lia)
theorem JV.Rj{u0 u1 g0 g1 M q:Int}(h:JV u0 u1 g0 g1 M)(hq:0<=q)(h1:1<=g1)(h2:0<=g0-q*g1):q<=g0:=by have:=tR hq h1;lia
structure aX(a b:Int)(g0 u0 v0 g1 u1 v1:Int):Prop where
 n0:0<=g0
 n1:0<=g1
 c0:u0*a+v0*b=g0
 c1:u1*a+v1*b=g1
 cu:JV u0 u1 g0 g1 (b.natAbs:Int)
 cv:JV v0 v1 g0 g1 (a.natAbs:Int)
 m0:g0<=(a.natAbs:Int)+(b.natAbs:Int)
 m1:g1<=(a.natAbs:Int)+(b.natAbs:Int)
 da:∃p q:Int,a=p*g0+q*g1
 db:∃p q:Int,b=p*g0+q*g1
def sgn(n:Int):Int:=if n<0 then -1 else 1
def tU(n:Int):Int:=if n<0 then -n else n
theorem mH(n:Int):tU n=(n.natAbs:Int):=by unfold tU;split<;>lia
theorem sgn_mul(n:Int):sgn n*n=tU n:=by unfold sgn tU;split<;>lia
theorem Ck(n:Int):n=sgn n*tU n:=by unfold sgn tU;split<;>lia
theorem GI(n:Int):sgn n=1\/sgn n = -1:=by unfold sgn;split<;>simp
theorem aX.start(a b:Int):aX a b (tU a) (sgn a) 0 (tU b) 0 (sgn b):=by
 refine⟨by rw[mH];lia,by rw[mH];lia,by rw[sgn_mul];lia,by rw[sgn_mul];lia,?_,?_,by rw[mH];lia,by rw[mH];lia,⟨sgn a,0,?_⟩,⟨0,sgn b,?_⟩⟩
 .refine⟨sgn a,1,0,GI a,by decide,by decide,by simp,by simp,by rw[mH b];lia,by lia,by lia⟩
 .refine⟨-(sgn b),0,1,?_,by decide,by decide,by simp,by simp,by rw[mH a];lia,by lia,by lia⟩;rcases GI b with h|h<;>simp[h]
 .have:=Ck a;lia
 .have:=Ck b;lia
theorem aX.turn{a b g0 u0 v0 g1 u1 v1:Int}(h:aX a b g0 u0 v0 g1 u1 v1)(h1:g1≠0):aX a b g1 u1 v1 (g0-g0.fdiv g1*g1) (u0-g0.fdiv g1*u1) (v0-g0.fdiv g1*v1)/\(g0-g0.fdiv g1*g1).toNat<g1.toNat/\0<=g0.fdiv g1/\g0.fdiv g1<=g0:=by
 have p1:1<=g1:=by have:=h.n1;lia
 have ef:g0.fdiv g1=g0 / g1:=YI g0 (by lia);have em:g0-g0.fdiv g1*g1=g0 % g1:=by have:=V6 g0 g1;rw[ef,W7];lia
 have q0:0<=g0.fdiv g1:=by rw[ef];exact YC h.n0 (by lia)
 have r0:0<=g0-g0.fdiv g1*g1:=by rw[em];exact WZ _ h1
 have r1:g0-g0.fdiv g1*g1<g1:=by rw[em];exact WD _ (by lia)
 generalize hq:g0.fdiv g1=q at *;have m1:=h.m1;obtain⟨p,r,ea⟩:=h.da;obtain⟨p',r',eb⟩:=h.db;refine⟨⟨h.n1,r0,h.c1,?_,h.cu.step q0 p1 r0,h.cv.step q0 p1 r0,h.m1,by lia,⟨p*q+r,p,?_⟩,⟨p'*q+r',p',?_⟩⟩,by lia,q0,h.cu.Rj q0 p1 r0⟩
 .have e0:=h.c0;have e1:=h.c1
  grind
 .grind
 .grind
end DQ
namespace PG
open PySem.Spec L2 MN
open PyProof.Rows hiding St kindOf
def qr(n:Int):Bool:=n==0 || eZ n
theorem qu(n:Int)(st:ag):∃g,PM.iL [.int n] st=.ok (.bl (qr n)) (st++g):=by
 cases h:n==0 with
 |true=>exact⟨[],by simp only[PM.iL,bI,ao,aD,bt,ax,aM,aw,oh,xh,aH,av,bY,bc,tF,vV,aG,au,aA,bh,dz,aP,Vr,VH,Vt,Nat.reduceSub,Vk,Vq,Nat.reduceAdd,ow,h,qr,Y7,V3]⟩
 |false=>
  obtain⟨g,e⟩:=mO n st;exact⟨g,by simp only[PM.iL,bI,ao,aD,bt,ax,aM,aw,oh,xi,aH,av,bY,bc,tF,vV,aG,au,aA,bh,dz,aP,Vr,VH,VB,Vu,Vt,Nat.reduceSub,Vk,Vq,Nat.reduceAdd,ow,h,qr,XW,e]⟩
theorem u?{n:Int}(h:qr n=true)(st:ag):∃g,PM.iU [.int n] st=.ok .dg (st++g):=by obtain⟨g,e⟩:=qu n st;rw[h]at e;exact⟨g,by simp only[PM.iU,bI,ao,aD,xg,gm,aH,av,bJ,aR,aQ,fe,aG,au,aA,bp,bj,aP,Vr,VH,VB,Vu,Vt,Nat.reduceSub,Vk,Vq,Nat.reduceAdd,Wd,e]⟩
theorem vc(n:Int)(st:ag):PM.fD [.int n] st=.ok (.int (DQ.sgn n)) st:=by
 unfold DQ.sgn;by_cases h:n<0
 .have e:decide (n<0)=true:=VW h;simp only[PM.fD,bI,ao,aD,bt,ax,aM,aw,rZ,bY,bc,aR,aQ,vW,fo,ip,bh,fB,aP,Vr,VH,VB,Vu,Vt,Nat.reduceSub,Vk,Vq,Nat.reduceAdd,e,VD h]
 .have e:decide (n<0)=false:=VV h;simp only[PM.fD,bI,ao,aD,bt,ax,aM,aw,r6,bY,bc,aR,aQ,vW,bh,fB,aP,Vr,VH,VB,Vu,Vt,Nat.reduceSub,Vk,Vq,Nat.reduceAdd,e,VI h]
def Aa(g u v:Int):ah:=.tup [.int g,.int u,.int v]
theorem bounds{a b g0 u0 v0 g1 u1 v1:Int}(h:DQ.aX a b g0 u0 v0 g1 u1 v1)(ha:qK 400 a)(hb:qK 400 b):qK 402 g0/\qK 402 u0/\qK 402 v0/\qK 402 g1/\qK 402 u1/\qK 402 v1:=by
 have e:(2:Nat) ^ 402=4*2 ^ 400:=by decide +kernel
 have pos:0<(2:Nat) ^ 400:=by decide +kernel
 have a':a.natAbs<2 ^ 400:=ha;have b':b.natAbs<2 ^ 400:=hb;obtain⟨k1,k2⟩:=h.cu.bound;obtain⟨k3,k4⟩:=h.cv.bound;have m0:=h.m0;have m1:=h.m1;have n0:=h.n0;have n1:=h.n1;refine⟨?_,?_,?_,?_,?_,?_⟩<;>(show _<2 ^ 402;rw[e];lia)
def msr(μ:MN.Env):Nat:=match(μ[3]?:Option (Option ah)) with
 |some (some (ah.tup (ah.int g::_)))=>g.toNat
 |_=>0
def Lh(q:Int)(v:ah):ah:=match v with
 |.tup [.int x,.int y]=>.int (x-q*y)
 |_=>.dg
theorem xr{q x y:Int}:Lh q (.tup [.int x,.int y])=.int (x-q*y):=rfl
theorem Rk{q g0 u0 v0 g1 u1 v1:Int}(hq:Sz q)(h1:Sz g1)(h2:Sz u1)(h3:Sz v1)(st:ag)(g:ag->Prop)(hg:g st)(x:Option ah)(y:Option ah):
  du g (jW [aI 0,aI 1]) bO (af gP a! (af bV cW bw)) (km [.int g0,.int u0,.int v0] [.int g1,.int u1,.int v1]) [x, y, qI q] st []=.ok [.int (g0-q*g1),.int (u0-q*u1),.int (v0-q*v1)] st:=by
 have:=gj (a:=jW [aI 0,aI 1]) (c:=bO) (e:=af gP a! (af bV cW bw)) hg (fun τ=>∃x y,τ=[x, y, qI q]) (fun _=>true) (Lh q) (km [.int g0,.int u0,.int v0] [.int g1,.int u1,.int v1]) [x, y, qI q] [] ⟨x,y,rfl⟩ ?_
 .exact this
 .rintro u hu τ ⟨x,y,rfl⟩;simp only[km,VT,WO,Xe]at hu;rcases hu with rfl|rfl|rfl
  .exact⟨_,rfl,⟨_,_,rfl⟩,rfl,fun _=>by simp only[ao,ax,aM,aw,fW,aP,aK,Vo,Vs,A3 ⟨hq,h1⟩,xr]⟩
  .exact⟨_,rfl,⟨_,_,rfl⟩,rfl,fun _=>by simp only[ao,ax,aM,aw,fW,aP,aK,Vo,Vs,A3 ⟨hq,h2⟩,xr]⟩
  .exact⟨_,rfl,⟨_,_,rfl⟩,rfl,fun _=>by simp only[ao,ax,aM,aw,fW,aP,aK,Vo,Vs,A3 ⟨hq,h3⟩,xr]⟩
theorem vd{x:ah}{r:List ah}:L2.jP (x::r) 0=some x:=by unfold L2.jP yt;simp
theorem DR{a b:Int}(ha:qK 400 a)(hb:qK 400 b)(st:ag):∃gs g u v u1 v1,PM.shared [.int a,.int b] st=.ok (Aa g u v) (st++gs)/\DQ.aX a b g u v 0 u1 v1:=by
 obtain⟨μ',ar,e,gs,rfl,g0,u0,v0,g1,u1,v1,o,f,rfl,J,z⟩:=fc (t:=b8 (af jV (af bN eh dF) dF))
  (body:=aC (aO 4 (af c_ (af bN cW dF) (af bN eh dF))) (aC (aO 5 (ai AG (aa (dX 2 [4] (tq false false (aa cW (aa eh aj))) (jW [(aI 0),(aI 1)]) bO (af gP a! (af bV cW bw))) aj))) (aC (aO 2 eh) (aO 3 j?))))
  (fun μ s=>∃gs,s=st++gs/\∃g0 u0 v0 g1 u1 v1 o f,μ=[qI a, qI b, some (Aa g0 u0 v0), some (Aa g1 u1 v1), o, f]/\DQ.aX a b g0 u0 v0 g1 u1 v1)
  (fun μ _=>msr μ)
  (fun μ s=>∃gs,s=st++gs/\∃g0 u0 v0 g1 u1 v1 o f,μ=[qI a, qI b, some (Aa g0 u0 v0), some (Aa g1 u1 v1), o, f]/\DQ.aX a b g0 u0 v0 g1 u1 v1/\g1=0)
  (by
   rintro μ s ⟨gs,rfl,g0,u0,v0,g1,u1,v1,o,f,rfl,J⟩;cases hz:g1==0 with
   |true=>
    have z:g1=0:=by simpa using hz
    refine .inl ⟨st++gs,?_,gs,rfl,g0,u0,v0,g1,u1,v1,o,f,rfl,J,z⟩;simp only[Aa,ao,ax,aM,aw,bc,aR,aQ,m_,dZ,aK,Wd,bz vd,hz]
   |false=>
    have z:¬ g1=0:=by simpa using hz
    obtain⟨b1,b2,b3,b4,b5,b6⟩:=bounds J ha hb;obtain⟨J',lt,q0,q1⟩:=J.turn z;have n0:=J.n0;have hD:Dz g1:=Dz.of z b4 (by decide);have sq:Sz (g0.fdiv g1):=Sz.of (b1.le (by lia)) (by decide);have s4:Sz g1:=Sz.of b4 (by decide);have s5:Sz u1:=Sz.of b5 (by decide);have s6:Sz v1:=Sz.of b6 (by decide);refine .inr ⟨st++gs,[qI a, qI b, some (Aa g1 u1 v1), some (Aa (g0-g0.fdiv g1*g1) (u0-g0.fdiv g1*u1) (v0-g0.fdiv g1*v1)), qI (g0.fdiv g1), some (Aa (g0-g0.fdiv g1*g1) (u0-g0.fdiv g1*u1) (v0-g0.fdiv g1*v1))],st++gs++[.lst [.int (g0-g0.fdiv g1*g1),.int (u0-g0.fdiv g1*u1),.int (v0-g0.fdiv g1*v1)]],?_,.inl ?_,⟨gs++[.lst [.int (g0-g0.fdiv g1*g1),.int (u0-g0.fdiv g1*u1),.int (v0-g0.fdiv g1*v1)]],by rw[VO],g1,u1,v1,_,_,_,_,_,rfl,J'⟩,?_⟩
    .simp only[Aa,ao,ax,aM,aw,bc,aR,aQ,m_,dZ,aK,Xs,bz vd,hz]
    .have hzl:(km [ah.int g0,ah.int u0,ah.int v0] [ah.int g1,ah.int u1,ah.int v1]).length=3:=rfl;have gL:je 2 [4] [some (ah.int a), some (ah.int b), some (.tup [.int g0,.int u0,.int v0]), some (.tup [.int g1,.int u1,.int v1]), qI (g0.fdiv g1), f]=[qn, qn, qI (g0.fdiv g1)]:=rfl;simp only[Aa,ao,aD,aW,ax,aM,aw,aH,av,bM,gN,ft,bc,aG,au,aA,aT,bo,dO,tM,xm,dZ,aK,Vo,Vs,Vv,Nat.reduceLeDiff,↓reduceIte,bz vd,div_ii hD,gL,Rk sq s4 s5 s6 _ (fun _=>True/\True) ⟨trivial,trivial⟩,hzl,JO (ba _ _)]
    .show(g0-g0.fdiv g1*g1).toNat<g1.toNat;exact lt)
  [qI a, qI b, some (Aa (DQ.tU a) (DQ.sgn a) 0), some (Aa (DQ.tU b) 0 (DQ.sgn b)), qn, qn] st
  ⟨[],by rw[V3],_,_,_,_,_,_,_,_,rfl,DQ.aX.start a b⟩
 subst z;refine⟨gs,g0,u0,v0,u1,v1,?_,J⟩;have Vd:∀n:Int,(if n<0 then -n else n)=DQ.tU n:=fun n=>rfl;simp only[Aa]at e;simp only[PM.shared,Aa,bI,ao,aD,aW,bt,aH,av,ke,bY,bM,bc,aG,au,il,aA,aT,bh,bo,tN,aP,dZ,aK,Vr,VH,VB,Vu,Vy,Vt,Vo,Vs,Nat.reduceSub,Vk,Vq,Nat.reduceAdd,Vv,Nat.reduceLeDiff,↓reduceIte,vc,Vd,e]
theorem DS:∀k:Fin 998,eZ (k.val:Int)=true->2<=k.val/\∀d:Fin 32,2<=d.val->d.val<k.val->k.val % d.val≠0:=by decide +kernel
theorem aF{p:Int}(h:eZ p=true):2<=p/\p<=997:=by
 unfold eZ at h;rw[YD]at h;rcases h with h|h
 .have:p∈FP:=by simpa using h
  simp only[FP,VT,WO,Xe]at this;omega
 .simp only[WV,Xq]at h;omega
theorem DT{p:Int}(h:eZ p=true){d:Int}(h2:2<=d)(hd:d<p):¬ p % d=0:=by
 obtain⟨r1,r2⟩:=aF h;have key:=(DS ⟨p.toNat,by lia⟩ (by show eZ ((p.toNat:Nat):Int)=true;rw[V8 (by lia)];exact h)).2;have small:∀e:Int,2<=e->e<=31->e<p->¬ p % e=0:=by
  intro e e2 e3 e4 z;have:=key ⟨e.toNat,by lia⟩ (by show 2<=e.toNat;lia) (by show e.toNat<p.toNat;lia);apply this;show p.toNat % e.toNat=0;have:((p.toNat % e.toNat:Nat):Int)=0:=by rw[Int.natCast_emod,V8 (by lia),V8 (by lia)];exact z
  lia
 intro z;by_cases hs:d<=31
 .exact small d h2 hs hd z
 .obtain⟨m,hm⟩:=Xm z;have m2:2<=m:=by
   rcases XG m 2 with q|q
   .have:d*m<=d*1:=V9 (by lia) (by lia);lia
   .exact q
  have m3:m<=31:=by
   rcases XG 31 m with q|q
   .have:32*32<=d*m:=Int.mul_le_mul (by lia) (by lia) (by lia) (by lia);lia
   .exact q
  have m4:m<p:=by have:2*m<=d*m:=W? h2 (by lia);lia
  exact small m m2 m3 m4 (by rw[hm];exact Zu _ _)
theorem dc{p:Int}(hp:0<p)(i:Int):i.fmod p=i % p:=Int.fmod_eq_emod_of_nonneg i (by lia)
theorem vZ{i:Int}(h0:0<=i)(h1:i<1000):qK 400 i:=qK.small (by decide) (by lia) h1
theorem GJ{p:Int}(h:eZ p=true):qr p=true:=by unfold qr;rw[h,Bool.or_true]
theorem Ab{x y:ah}{r:List ah}:L2.jP (x::y::r) 1=some y:=L2.jg (xs:=x::y::r) (j:=1) rfl
theorem fR{p n:Int}(h:eZ p=true)(hn:¬ n % p=0)(st:ag):∃g t,PM.inverse [.int p,.int n] st=.ok (.int t) (st++g)/\0<t/\t<p/\(t*n) % p=1:=by
 obtain⟨r1,r2⟩:=aF h;obtain⟨g1,e⟩:=u? (GJ h) st;have hp:¬ p=0:=by lia
 have e0:(p==0)=false:=by simpa using hp
 have e1:(n.fmod p==0)=false:=by rw[dc (by lia)];simpa using hn
 have a0:=WZ n hp;have a1:=WD n (show 0<p by lia);obtain⟨g2,g,u,v,u1,v1,es,J⟩:=DR (a:=n % p) (b:=p) (vZ a0 (by lia)) (vZ (by lia) (by lia)) (st++g1);have hg:g=1:=by
  obtain⟨x,_,ex⟩:=J.da;obtain⟨y,_,ey⟩:=J.db;rw[We,W8]at ex ey;have n0:=J.n0;rcases XG g 2 with q|q
  .rcases XG g 1 with q'|q'
   .have:g=0:=by lia
    rw[this,We]at ey;lia
   .lia
  .have gl:g<=n % p:=by
    have xp:1<=x:=by
     rcases XG x 1 with z|z
     .have:x*g<=0*g:=W? (by lia) (by lia);lia
     .exact z
    have:1*g<=x*g:=W? xp (by lia);lia
   exact absurd (by rw[ey];exact Zu _ _) (DT h q (by lia))
 subst hg;have t0:=WZ u hp;have t1:=WD u (show 0<p by lia);have tn:(u % p*n) % p=1:=by
  have c:=J.c0;have k1:(u*(n % p)) % p=1:=by
   have:u*(n % p)=1+p*(-v):=by rw[XO,W7 p v];lia
   rw[this,YJ];exact V? (by lia) (by lia)
  rw[XF,Ya u (Y6 p)];rw[XF,Ya n (Y6 p)]at k1;exact k1
 refine⟨g1++g2,u % p,?_,?_,t1,tn⟩
 .simp only[Aa]at es;rw[<-dc (show 0<p by lia)]at es;simp only[PM.inverse,bI,ao,aD,aW,bt,ax,aM,aw,aH,av,gC,bY,bJ,bc,aR,aQ,aG,au,aA,aT,bp,fw,bh,bj,dz,aP,aK,Vr,VH,VB,Vu,Vt,Nat.reduceSub,Vk,Vq,Nat.reduceAdd,e,e0,bF hp,e1,es,bz Ab,VO];rw[dc (by lia)]
 .rcases XG 0 (u % p)with q|q
  .exact q
  .have:u % p=0:=by lia
   rw[this,W6]at tn;simp at tn
theorem JW{ns:ZX}{k:Int}(h0:0<=k)(h1:k<(ns.length:Int)):∃c:Int,L2.jP (ns.map ah.int) k=some (.int c):=by
 have hk:k.toNat<ns.length:=by lia
 refine⟨ns[k.toNat],?_⟩;have e:=L2.jg (xs:=ns.map ah.int) (j:=k.toNat) (v:=.int ns[k.toNat]) (by rw[VG,Vp hk];rfl);rw[show((k.toNat:Nat):Int)=k by lia]at e;exact e
theorem iD{m:Int}(hm:0<m)(i:Int):0<=i.fmod m/\i.fmod m<m:=by rw[dc hm];exact⟨WZ _ (by lia),WD _ hm⟩
theorem jw(i:Int)(st:ag):PM.gr [.int i] st=.ok (.bl true) st:=rfl
theorem qP{j:Int}(h:0<j)(h1:j<2 ^ 64):Dz j:=by refine Dz.of (k:=64) (by lia) ?_ (by decide);show j.natAbs<2 ^ 64;lia
def S3(n:Int)(u:ah):Bool:=match u with
 |.int b=>decide (b<n)&&(n.fmod b==0)
 |_=>false
def uZ(n:Int):List ah:=(cY 2 30).filter (S3 n)
theorem N7:∀k:Fin 998,2<=k.val->(uZ (k.val:Int)).isEmpty=true->eZ (k.val:Int)=true:=by decide +kernel
theorem GK(n:Int)(x:Option ah)(st:ag):du (fun _=>True) (aI 0) (fm (b8 (af ltV a! bw)) (b8 (af h! (af bW bw a!) dF))) a! (cY 2 30) [x,some (.int n)] st []=.ok (uZ n) st:=by
 have:=gj (a:=aI 0) (c:=fm (b8 (af ltV a! bw)) (b8 (af h! (af bW bw a!) dF))) (e:=a!) (g:=fun _=>True) (st:=st) trivial (fun τ=>∃x,τ=[x,some (.int n)]) (S3 n) id (cY 2 30) [x,some (.int n)] [] ⟨x,rfl⟩ ?_
 .rw[this,Vu,List.map_id];rfl
 .rintro u hu τ ⟨x,rfl⟩;simp only[cY,Wc,X!]at hu;obtain⟨i,hi,rfl⟩:=hu;have nz:¬ (2+(i:Int))=0:=by lia
  refine⟨_,rfl,⟨_,rfl⟩,?_,fun _=>rfl⟩;by_cases hb:2+(i:Int)<n
  .have e:decide (2+(i:Int)<n)=true:=VW hb;simp only[ao,ax,aM,aw,dy,bc,aR,aQ,cF,fB,dz,aP,aK,Vo,e,bF nz,S3,YR]
  .have e:decide (2+(i:Int)<n)=false:=VV hb;simp only[ao,ax,aM,aw,fZ,aR,aQ,cF,fB,aP,aK,Vo,e,S3,Yb]
theorem jG{n:Nat}{ns:ZX}{k:Int}{st:ag}(h:ak st n=some (ns.map ah.int))(k0:0<=k)(k1:k<=1000000):
  ∃o,PM.aZ [.loc n,.int k] st=.ok (.int o) st:=by
 have len:((List.map ah.int ns).length:Int)=(ns.length:Int):=by rw[Vl]
 have cp:Ey 10 9:=by decide
 have tn:(10:Int) ^ Int.toNat 9=1000000000:=by decide
 have fin:∀c:Int,((decide (k<((List.map ah.int ns).length:Int))=false/\c=0)\/(decide (k<((List.map ah.int ns).length:Int))=true/\L2.jP (ns.map ah.int) k=some (.int c)))->∃o,PM.aZ [.loc n,.int k] st=.ok (.int o) st:=by
  intro c hc;by_cases hb:(1000000000:Int)<(if c<0 then -c else c)
  .have e1:decide ((1000000000:Int)<(if c<0 then -c else c))=true:=VW hb;refine⟨c,?_⟩;rcases hc with⟨h1,rfl⟩|⟨h1,h2⟩
   .simp only[PM.aZ,bI,ao,aD,aW,jX,bt,ax,aM,aw,aH,av,bY,fq,bJ,bM,bc,aR,aQ,aG,au,aA,aT,bp,bh,bj,bo,fB,f9,tN,aP,a9,aK,Vr,VH,VB,Vu,Vy,Vt,Vo,Vs,Nat.reduceSub,Vk,Vq,Nat.reduceAdd,a7 h,h1,xn cp,tn,e1]
   .simp only[PM.aZ,bI,ao,aD,aW,jX,bt,ax,aM,aw,aH,av,bY,fq,bM,bc,aR,aQ,aG,au,aA,aT,bh,bj,bo,fB,f9,tN,aP,a9,aK,Vr,VH,VB,Vu,Vy,Vt,Vo,Vs,Nat.reduceSub,Vk,Vq,Nat.reduceAdd,a7 h,h1,c! h h2,xn cp,tn,e1]
  .have e1:decide ((1000000000:Int)<(if c<0 then -c else c))=false:=VV hb;have q1:=iD (m:=2147483647) (by decide) (c*48271+7919*k*k+104729*k+11);generalize hx:(c*48271+7919*k*k+104729*k+11).fmod 2147483647=x at q1;have q2:=iD (m:=2147483629) (by decide) (x*x);have q3:=iD (m:=2147483647) (by decide) ((x*x).fmod 2147483629*69621);generalize hy:((x*x).fmod 2147483629*69621).fmod 2147483647=y at q3;refine⟨(y*y).fmod 2147483587*2147483647+y,?_⟩;have m1:∀s,bV (.int x) (.int x) s=.ok (.int (x*x)) s:=fun s=>gu (by lia) (by lia);have m2:∀s,bV (.int y) (.int y) s=.ok (.int (y*y)) s:=fun s=>gu (by lia) (by lia);rcases hc with⟨h1,rfl⟩|⟨h1,h2⟩
   .simp only[PM.aZ,bI,ao,aD,aW,bt,ax,aM,aw,aH,av,bY,bJ,bM,bc,aR,aQ,aG,au,aA,aT,bp,bh,bj,bo,eM,fB,f9,tN,aP,a9,aK,Vr,VH,VB,Vu,Vy,Vt,Vo,Vs,Nat.reduceSub,Vk,Vq,Nat.reduceAdd,a7 h,h1,xn cp,tn,e1,mul_r (j:=48271) (by decide) (by decide),gu (i:=7919) (by decide) (by decide),mul_r (j:=k) (by lia) (by lia),bF (j:=2147483647) (by decide),hx,m1,bF (j:=2147483629) (by decide),mul_r (j:=69621) (by decide) (by decide),hy,m2,bF (j:=2147483587) (by decide),mul_r (j:=2147483647) (by decide) (by decide)]
   .simp only[PM.aZ,bI,ao,aD,aW,bt,ax,aM,aw,aH,av,bY,fq,bJ,bM,bc,aR,aQ,aG,au,aA,aT,bp,bh,bj,bo,eM,fB,f9,tN,aP,a9,aK,Vr,VH,VB,Vu,Vy,Vt,Vo,Vs,Nat.reduceSub,Vk,Vq,Nat.reduceAdd,a7 h,h1,c! h h2,xn cp,tn,e1,mul_r (j:=48271) (by decide) (by decide),gu (i:=7919) (by decide) (by decide),mul_r (j:=k) (by lia) (by lia),bF (j:=2147483647) (by decide),hx,m1,bF (j:=2147483629) (by decide),mul_r (j:=69621) (by decide) (by decide),hy,m2,bF (j:=2147483587) (by decide),mul_r (j:=2147483647) (by decide) (by decide)]
 by_cases hk:k<(ns.length:Int)
 .obtain⟨c,hc⟩:=JW k0 hk;exact fin c (.inr ⟨VW (by rw[len];exact hk),hc⟩)
 .exact fin 0 (.inl ⟨VV (by rw[len];exact hk),rfl⟩)
def Li(μ:MN.Env):Nat:=match(μ[1]?:Option (Option ah)) with
 |some (some (ah.int n))=>n.toNat
 |_=>0
theorem Rm:(uZ 2).isEmpty=true:=by decide +kernel
theorem GL(c:Int)(st:ag):∃g p,PM.gA [.int c] st=.ok (.int p) (st++g)/\eZ p=true:=by
 have d8:Dz 8:=qP (by decide) (by decide);have q:=iD (m:=8) (by decide) c;have q9:=iD (m:=996) (by decide) (c.fdiv 8);have r2:∀st,JL [.int 2,.int 32] st=.ok (cY 2 30,fun _=>True) st:=fun _=>rfl;have rl:(cY 2 30).length=30:=rfl;have Cm:∀(n:Int)(s:ag),b8 (af jV (dX 1 [1] (jh (aa ny (aa (mC (.int 32)) aj))) (aI 0) (fm (b8 (af ltV a! bw)) (b8 (af h! (af bW bw a!) dF))) a!) (dA aj)) [some (.int c),some (.int n)] s=.ok (!(uZ n).isEmpty) (s++[.lst (uZ n)]++[.lst []]):=by intro n s;have gL:je 1 [1] [some (ah.int c),some (ah.int n)]=[none,some (.int n)]:=rfl;simp only[ao,ax,aM,aw,aH,av,eJ,gN,ft,bc,aR,aQ,aG,au,c8,dO,r9,Vq,Vv,Nat.reduceLeDiff,↓reduceIte,r2,rl,gL,GK,ne_nil (bb (ba s (uZ n)) [.lst []]) (ba (s++[.lst (uZ n)]) [])]
 have loop:∀(k:Int)(s:ag),2<=k->k<=997->∃μ' ar,cN (b8 (af jV (dX 1 [1] (jh (aa ny (aa (mC (.int 32)) aj))) (aI 0) (fm (b8 (af ltV a! bw)) (b8 (af h! (af bW bw a!) dF))) a!) (dA aj))) (aO 1 (af gP bw b!)) [some (.int c),some (.int k)] s=.nx μ' ar/\∃g,ar=s++g/\∃n:Int,μ'=[some (.int c),some (.int n)]/\eZ n=true:=by
  intro k s k0 k1;obtain⟨μ',ar,e,g,rfl,n,rfl,n0,n1,em⟩:=fc (t:=b8 (af jV (dX 1 [1] (jh (aa ny (aa (mC (.int 32)) aj))) (aI 0) (fm (b8 (af ltV a! bw)) (b8 (af h! (af bW bw a!) dF))) a!) (dA aj)))
   (body:=aO 1 (af gP bw b!))
   (fun μ s'=>∃g,s'=s++g/\∃n:Int,μ=[some (.int c),some (.int n)]/\2<=n/\n<=997) (fun μ _=>Li μ)
   (fun μ s'=>∃g,s'=s++g/\∃n:Int,μ=[some (.int c),some (.int n)]/\2<=n/\n<=997/\(uZ n).isEmpty=true)
   (by
    rintro μ s' ⟨g,rfl,n,rfl,n0,n1⟩;have t:=Cm n (s++g);cases hd:(uZ n).isEmpty with
    |true=>
     rw[hd]at t;exact .inl ⟨_,t,g++([.lst (uZ n)]++[.lst []]),by simp only[VO],n,rfl,n0,n1,hd⟩
    |false=>
     rw[hd]at t;have n2:n≠2:=fun z=>by rw[z,Rm]at hd;cases hd
     refine .inr ⟨_,[some (.int c),some (.int (n-1))],_,t,.inl (by simp only[ao,aD,ax,aM,aw,bM,bc,bo,fW,aP,aK,Vo,Vs];rfl),⟨g++([.lst (uZ n)]++[.lst []]),by simp only[VO],n-1,rfl,by lia,by lia⟩,?_⟩;show(n-1).toNat<n.toNat;lia)
   [some (.int c),some (.int k)] s ⟨[],by rw[V3],_,rfl,k0,k1⟩
  have hp:=N7 ⟨n.toNat,by lia⟩ (by show 2<=n.toNat;lia) (by show(uZ ((n.toNat:Nat):Int)).isEmpty=true;rw[V8 (by lia)];exact em);have hp':eZ n=true:=by have:eZ ((n.toNat:Nat):Int)=true:=hp;rw[V8 (by lia)]at this;exact this
  exact⟨_,_,e,g,rfl,n,rfl,hp'⟩
 have at8:∀i:Int,0<=i->i<8->∃p,L2.jP ([.int 2,.int 3,.int 5,.int 7,.int 11,.int 13,.int (2+(c.fdiv 8).fmod 996),.int (2+(c.fdiv 8).fmod 996)]:List ah) i=some (.int p)/\2<=p/\p<=997:=by
  intro i i0 i1;have:i=0\/i=1\/i=2\/i=3\/i=4\/i=5\/i=6\/i=7:=by lia
  rcases this with rfl|rfl|rfl|rfl|rfl|rfl|rfl|rfl
  .exact⟨2,rfl,by lia,by lia⟩
  .exact⟨3,rfl,by lia,by lia⟩
  .exact⟨5,rfl,by lia,by lia⟩
  .exact⟨7,rfl,by lia,by lia⟩
  .exact⟨11,rfl,by lia,by lia⟩
  .exact⟨13,rfl,by lia,by lia⟩
  .exact⟨_,rfl,by lia,by lia⟩
  .exact⟨_,rfl,by lia,by lia⟩
 obtain⟨k,ek,k0,k1⟩:=at8 _ q.1 q.2;obtain⟨μ',ar,e,g,rfl,n,rfl,hp⟩:=loop k (st++[.lst [.int 2,.int 3,.int 5,.int 7,.int 11,.int 13,.int (2+(c.fdiv 8).fmod 996),.int (2+(c.fdiv 8).fmod 996)]]) k0 k1;refine⟨[.lst [.int 2,.int 3,.int 5,.int 7,.int 11,.int 13,.int (2+(c.fdiv 8).fmod 996),.int (2+(c.fdiv 8).fmod 996)]]++g,n,?_,hp⟩;rw[<-VO];simp only[PM.gA,bI,ao,aD,aW,bt,ax,aM,aw,aH,av,eJ,bY,bM,bc,aG,au,c8,aT,bh,bo,eM,aP,aK,Vr,VH,VB,Vu,Vy,Vt,Vo,Vs,Nat.reduceSub,Vk,Vq,Nat.reduceAdd,Vv,Nat.reduceLeDiff,↓reduceIte,bF (j:=8) (by decide),div_ii d8,bF (j:=996) (by decide),c! (ba st _) ek,e]
theorem gT{g:ag->Prop}{a:AS}{e:ME}{st:ag}(hg:g st)(I:MN.Env->Prop)(f:Int->ah):∀(ns:ZX)(τ:MN.Env)(ys:List ah),I τ ->
  (∀i∈ns,∀τ,I τ->∃τ1,a (.int i) τ=some τ1/\I τ1/\e τ1 st=.ok (f i) st)->du g a bO e (ns.map ah.int) τ st ys=.ok (ys++ns.map f) st
 |[],τ,ys,_,_=>by rw[VH];unfold du;rw[VD hg];simp
 |n::ns,τ,ys,hI,hs=>by obtain⟨τ1,h1,h2,h3⟩:=hs n VS τ hI;have ih:=gT hg I f ns τ1 (ys++[f n]) h2 fun i hi=>hs i (VN n hi);rw[Vr];unfold du;rw[VD hg,h1];dsimp only[bO];rw[h3];dsimp only;rw[ih];simp
theorem v5{α:Type}{g:ag->Prop}{a:AS}{body:MB}{st:ag}(hg:g st)(R:α->MN.Env->Prop)(F:α->ah->α):∀(us:List ah),
  (∀u∈us,∀x μ,R x μ->∃μ1,a u μ=some μ1/\∃μ',body μ1 st=.nx μ' st/\R (F x u) μ')->∀x μ,R x μ->∃μ',forL g a body us μ st=.nx μ' st/\R (us.foldl F x) μ'
 |[],_,x,μ,h=>⟨μ,by unfold forL;rw[VD hg],h⟩
 |u::us,hs,x,μ,h=>by obtain⟨μ1,h1,μ',h2,h3⟩:=hs u VS x μ h;obtain⟨μ2,h4,h5⟩:=v5 hg R F us (fun w hw=>hs w (VN u hw)) (F x u) μ' h3;refine⟨μ2,?_,h5⟩;unfold forL;rw[VD hg,h1];dsimp only;rw[h2];exact h4
def cV(lo:Int)(n:Nat):ZX:=(List.range n).map fun(i:Nat)=>lo+(i:Int)
theorem g!(lo:Int)(n:Nat):cY lo n=(cV lo n).map ah.int:=by unfold cY cV;rw[Wh];rfl
theorem tV{lo i:Int}{n:Nat}(h:i∈cV lo n):lo<=i/\i<lo+n:=by obtain⟨j,hj,rfl⟩:=Wc.mp h;have:=X!.mp hj;lia
theorem az(ns:ZX):(ns.map ah.int).length=ns.length:=Vl ..
theorem at_getD{ns:ZX}{i:Int}(h0:0<=i)(h1:i<(ns.length:Int)):L2.jP (ns.map ah.int) i=some (.int (ns.getD i.toNat 0)):=by
 have hk:i.toNat<ns.length:=by lia
 have e:=L2.jg (xs:=ns.map ah.int) (j:=i.toNat) (v:=.int ns[i.toNat]) (by rw[VG,Vp hk];rfl);rw[show((i.toNat:Nat):Int)=i by lia]at e;rw[e,Vx,Vp hk];rfl
theorem fG{p:Int}(hp:eZ p=true):¬ p=0:=by have:=aF hp;lia
theorem fH{p:Int}(hp:eZ p=true)(st:ag):∃g,PM.dG [.int p] st=.ok .dg (st++g):=by
 obtain⟨g,e⟩:=qu p st;have hr:qr p=true:=by unfold qr;rw[hp,Bool.or_true]
 rw[hr]at e;have hz:(p==0)=false:=by simpa using fG hp
 exact⟨g,by simp only[PM.dG,bI,ao,aD,xg,ax,aM,aw,fQ,gm,aH,av,bJ,bc,aR,aQ,gk,fe,aG,au,aA,bp,bj,dz,aP,Vr,VH,VB,Vu,Vt,Nat.reduceSub,Vk,Vq,Nat.reduceAdd,Wd,e,hz]⟩
def b9(ns:ZX):ZX:=(ns.reverse.dropWhile (· == 0)).reverse
theorem iW(ns:ZX):b9 (ns++[0])=b9 ns:=by simp[b9]
theorem fS{n:Int}(h:(n==0)=false)(ns:ZX):b9 (ns++[n])=ns++[n]:=by simp[b9,List.dropWhile_cons,h]
def Cut(ns:ZX):Prop:=b9 ns=ns
theorem iX(ns:ZX):ns=[]\/∃ms x,ns=ms++[x]:=by
 rcases List.eq_nil_or_concat ns with h|⟨ms,x,h⟩
 .exact .inl h
 .exact .inr ⟨ms,x,by rw[h,List.concat_eq_append]⟩
theorem r!:∀(k:Nat)(ns:ZX),ns.length=k->(b9 ns).length<=k/\Cut (b9 ns)/\(∀P:Int->Prop,(∀n∈ns,P n)->∀n∈b9 ns,P n)
 |0,ns,h=>by have:ns=[]:=Wa h;subst this;exact⟨VA _,rfl,fun P hP=>hP⟩
 |k+1,ns,h=>by
  rcases iX ns with rfl|⟨ms,x,rfl⟩
  .exact⟨WH _,rfl,fun P hP=>hP⟩
  .have hm:ms.length=k:=by rw[Vn,Wi]at h;lia
   cases hx:x==0 with
   |true=>
    have:x=0:=by simpa using hx
    subst this;rw[iW];obtain⟨h1,h2,h3⟩:=r! k ms hm;exact⟨by lia,h2,fun P hP=>h3 P fun n hn=>hP n (Wk _ hn)⟩
   |false=>
    rw[fS hx];exact⟨by lia,by unfold Cut;rw[fS hx],fun P hP=>hP⟩
theorem gE(ns:ZX):(b9 ns).length<=ns.length:=(r! _ ns rfl).1
theorem r?(ns:ZX):Cut (b9 ns):=(r! _ ns rfl).2.1
theorem xt{P:Int->Prop}{ns:ZX}(h:∀n∈ns,P n):∀n∈b9 ns,P n:=(r! _ ns rfl).2.2 P h
def f_(L:Nat)(s:ag):Nat:=((ak s L).getD []).length
abbrev Ve:MT:=fm (b8 (af uX (ai bx (aa cW aj)) dF)) (b8 (af h! (af bN cW (iK b!)) dF))
abbrev rrB:MB:=iB (Gf AX cW)
theorem JX(x y:Option ah)(st:ag)(ns:ZX):∃μ' ar,cN Ve rrB [x, y, qL st.length] (st++[.lst (ns.map ah.int)])=.nx μ' ar/\μ'=[x, y, qL st.length]/\ar=st++[.lst ((b9 ns).map ah.int)]:=by
 obtain⟨μ',ar,e,rfl,ms,rfl,hm⟩:=fc (t:=Ve) (body:=rrB)
  (fun μ s=>μ=[x, y, qL st.length]/\∃ms:ZX,s=st++[.lst (ms.map ah.int)]/\b9 ms=b9 ns) (fun _ s=>f_ st.length s)
  (fun μ s=>μ=[x, y, qL st.length]/\∃ms:ZX,s=st++[.lst (ms.map ah.int)]/\ms=b9 ns)
  (by
   rintro μ s ⟨rfl,ms,rfl,hm⟩;rcases iX ms with rfl|⟨ks,k,rfl⟩
   .have h0:decide ((0:Int)<(([]:List ah).length:Int))=false:=rfl;refine .inl ⟨_,?_,rfl,[],rfl,hm⟩;simp only[ao,ax,aM,aw,aH,av,bc,aR,aQ,cF,aG,au,aA,f9,a9,aK,VH,Vq,a7 (ba st []),h0];rfl
   .have em:(ks++[k]).map ah.int=ks.map ah.int++[.int k]:=by simp
    rw[em];have h0:decide ((0:Int)<((ks.map ah.int++[ah.int k]).length:Int))=true:=VW (by rw[Vn,Wi];lia);have hix:=c! (ba st (ks.map ah.int++[.int k])) (L2.EJ (ks.map ah.int) (.int k));have Cm:Ve [x, y, qL st.length] (st++[.lst (ks.map ah.int++[.int k])])=.ok (k==0) (st++[.lst (ks.map ah.int++[.int k])]):=by simp only[ao,ax,aM,aw,dy,aH,av,bc,aR,aQ,cF,aG,au,aA,fo,ip,f9,dz,a9,aK,a7 (ba st (ks.map ah.int++[.int k])),h0,hix]
    cases hk:k==0 with
    |false=>
     rw[hk]at Cm;rw[fS hk]at hm;exact .inl ⟨_,Cm,rfl,ks++[k],by rw[em],hm⟩
    |true=>
     rw[hk]at Cm;have hk0:k=0:=by simpa using hk
     subst hk0;rw[iW]at hm;refine .inr ⟨_,_,st++[.lst (ks.map ah.int)],Cm,.inl ?_,⟨rfl,ks,rfl,hm⟩,?_⟩
     .simp only[ao,aD,gC,fw,a9,aK,NU,Rb (aN st _),NV (aN st _),oq]
     .unfold f_;rw[ba,ba];show(ks.map ah.int).length<(ks.map ah.int++[ah.int 0]).length;rw[Vn,Wi];lia)
  [x, y, qL st.length] (st++[.lst (ns.map ah.int)]) ⟨rfl,ns,rfl,rfl⟩
 exact⟨_,_,e,rfl,by rw[hm]⟩
theorem dR{p:Int}(hp:¬ p=0){n:Nat}{ns:ZX}{st:ag}(h:ak st n=some (ns.map ah.int))(hl:ns.length<=sizeLine):
  PM.c9 [.int p,.loc n] st=.ok (.loc st.length) (st++[.lst ((b9 (ns.map (·.fmod p))).map ah.int)]):=by
 have hc:=gT (g:=fun ar=>ak ar n=some (ns.map ah.int)) (a:=aI 0) (e:=af bW a! bw) (st:=st) h (fun τ=>∃z,τ=[z,some (.int p)]) (fun i=>.int (i.fmod p)) ns [none,some (.int p)] [] ⟨_,rfl⟩ (by
  rintro i _ τ ⟨z,rfl⟩;exact⟨_,rfl,⟨_,rfl⟩,by simp only[ao,ax,aM,aw,aP,aK,Vo,bF hp]⟩)
 rw[Vu,show(ns.map fun i=>ah.int (i.fmod p))=(ns.map (·.fmod p)).map ah.int from by rw[Wh];rfl]at hc;have gL:je 1 [0] [some (ah.int p),some (ah.loc n),none]=[none,some (.int p)]:=rfl;have hz:(ns.map ah.int).length<=sizeLine:=by rw[az];exact hl
 rw[Vv]at hz;obtain⟨μ',ar,e,rfl,rfl⟩:=JX (some (.int p)) (some (.loc n)) st (ns.map (·.fmod p));simp only[PM.c9,bI,ao,aD,aW,bt,bY,bM,gN,ft,aT,bh,bo,dO,eu,a9,aK,Vr,VH,VB,Vu,Vy,Vt,Vo,Vs,Nat.reduceSub,Vk,Vq,Nat.reduceAdd,Vv,cP h,gL,hc,VD hz,e]
theorem sd{n j:Nat}(h:j<n):L2.yt n (j:Int)=some j:=by unfold L2.yt;rw[VD (by lia),VD (by lia)];simp
def Cg(p a b:Int):Prop:=∃k,a=b+p*k
theorem Cg.refl(p a:Int):Cg p a a:=⟨0,by rw[We,W8]⟩
theorem Cg.symm{p a b:Int}(h:Cg p a b):Cg p b a:=by obtain⟨k,rfl⟩:=h;exact⟨-k,by rw[XO];lia⟩
theorem Cg.trans{p a b c:Int}(h:Cg p a b)(h':Cg p b c):Cg p a c:=by obtain⟨k,rfl⟩:=h;obtain⟨l,rfl⟩:=h';exact⟨l+k,by rw[Xh];lia⟩
theorem Cg.add{p a b c d:Int}(h:Cg p a b)(h':Cg p c d):Cg p (a+c) (b+d):=by obtain⟨k,rfl⟩:=h;obtain⟨l,rfl⟩:=h';exact⟨k+l,by rw[Xh];lia⟩
theorem Cg.JY{p a b:Int}(h:Cg p a b)(c:Int):Cg p (a*c) (b*c):=by obtain⟨k,rfl⟩:=h;exact⟨k*c,by rw[Yv,Wt]⟩
theorem Cg.xu{p a b:Int}(h:Cg p a b)(c:Int):Cg p (c*a) (c*b):=by rw[W7 c a,W7 c b];exact h.JY c
theorem Cg.neg{p a b:Int}(h:Cg p a b):Cg p (-a) (-b):=by obtain⟨k,rfl⟩:=h;exact⟨-k,by rw[XO];lia⟩
theorem Cg.mod{p:Int}(hp:0<p)(a:Int):Cg p (a.fmod p) a:=by refine⟨-(a / p),?_⟩;rw[dc hp,XO];have:=V6 a p;lia
theorem Cg.eq{p a b:Int}(hp:0<p)(h:Cg p a b):a.fmod p=b.fmod p:=by obtain⟨k,rfl⟩:=h;rw[dc hp,dc hp,YJ]
theorem d_{p a:Int}(h0:0<=a)(h1:a<p):a.fmod p=a:=by rw[dc (by lia)];exact V? h0 h1
def DU(ns:ZX)(lo hi:Option Int):ZX:=(ns.drop (HT.gq ns.length 0 lo)).take (HT.gq ns.length ns.length hi-HT.gq ns.length 0 lo)
theorem v7(ns:ZX)(lo hi:Option Int):AW (ns.map ah.int) lo hi=(DU ns lo hi).map ah.int:=by unfold AW DU;rw[az,List.map_take,List.map_drop]
theorem pE{α:Type}{g:ag->Prop}{a:AS}{e:ME}{st:ag}(hg:g st)(I:MN.Env->Prop)(enc f:α->ah):∀(xs:List α)(τ:MN.Env)(ys:List ah),I τ ->
  (∀x∈xs,∀τ,I τ->∃τ1,a (enc x) τ=some τ1/\I τ1/\e τ1 st=.ok (f x) st)->du g a bO e (xs.map enc) τ st ys=.ok (ys++xs.map f) st
 |[],τ,ys,_,_=>by rw[VH];unfold du;rw[VD hg];simp
 |n::ns,τ,ys,hI,hs=>by obtain⟨τ1,h1,h2,h3⟩:=hs n VS τ hI;have ih:=pE hg I enc f ns τ1 (ys++[f n]) h2 fun i hi=>hs i (VN n hi);rw[Vr];unfold du;rw[VD hg,h1];dsimp only[bO];rw[h3];dsimp only;rw[ih];simp
def pr(q:Int×Int):ah:=.tup [.int q.1,.int q.2]
theorem pF:∀(as bs:ZX),km (as.map ah.int) (bs.map ah.int)=(as.zip bs).map pr
 |[],_=>by simp[km]
 |_::_,[]=>by simp[km]
 |a::as,b::bs=>by simp only[Vr,km,List.zip_cons_cons,pF as bs];rfl
theorem qv(k:Nat):jB k [ah.int 0]=(List.replicate k (0:Int)).map ah.int:=by
 unfold jB
 induction k with
 |zero=>rfl
 |succ k ih=>rw[Vy,Vy,W',ih];rfl
theorem pG(ns:ZX)(k j:Nat):(ns++List.replicate k 0).getD j 0=ns.getD j 0:=by
 rw[Vx,Vx];by_cases h:j<ns.length
 .rw[V0 h]
 .rw[VP (by lia),VZ (l:=ns) (by lia),Wz];split<;>rfl
theorem kf{n:Nat}{ns:ZX}{L:Int}{st:ag}(h:ak st n=some (ns.map ah.int))(h0:(ns.length:Int)<=L)(h1:L<=1000000):
  ∃g k,PM.fO [.loc n,.int L] st=.ok (.loc k) (st++g)/\st.length<=k/\(st++g)[k]?=some (.lst ((ns++List.replicate (L-ns.length).toNat 0).map ah.int)):=by
 have c1:=ji h;have h2:=bb (bb h [.lst (ns.map ah.int)]) [.lst [.int 0]];have m1:=jZ (st:=st++[.lst (ns.map ah.int)]++[.lst [.int 0]]) (n:=(st++[aB.lst (ns.map ah.int)]).length) (us:=[.int 0]) (k:=L-ns.length) (aN _ _) (by lia) (by lia) (by rw[Vv];simp;lia);rw[qv]at m1;have a1:=jY (st:=st++[aB.lst (ns.map ah.int)]++[aB.lst [.int 0]]++[aB.lst ((List.replicate (L-ns.length).toNat (0:Int)).map ah.int)]) (n:=st.length) (m:=(st++[aB.lst (ns.map ah.int)]++[aB.lst [.int 0]]).length)
  (us:=ns.map ah.int) (ws:=(List.replicate (L-ns.length).toNat (0:Int)).map ah.int) (aS (aS (aN st (ns.map ah.int)) _) _) (aN _ _) (by rw[az,az,VU,Vv];lia)
 rw[<-Wn]at a1;refine⟨[.lst (ns.map ah.int)]++[.lst [.int 0]]++[.lst ((List.replicate (L-ns.length).toNat (0:Int)).map ah.int)]++[.lst ((ns++List.replicate (L-ns.length).toNat 0).map ah.int)],(st++[aB.lst (ns.map ah.int)]++[aB.lst [.int 0]]++[aB.lst ((List.replicate (L-ns.length).toNat (0:Int)).map ah.int)]).length,?_,by simp only[Vn];lia,?_⟩
 .simp only[PM.fO,bI,ao,aD,bt,ax,aM,aw,aH,av,eJ,bY,bc,aG,au,c8,aA,bh,fW,aP,a9,aK,Vr,VH,VB,Vu,Vt,Nat.reduceSub,Vk,Vq,Nat.reduceAdd,Vv,Nat.reduceLeDiff,↓reduceIte,c1,a7 h2,az,m1,a1];simp only[VO,VB,Vu]
 .simp only[<-VO];exact aN _ _
def f?(as bs:ZX)(f:Int):ZX:=(cV 0 (max as.length bs.length)).map fun k=>as.getD k.toNat 0+f*bs.getD k.toNat 0
theorem GN(as bs:ZX)(f:Int){k l:Nat}(hk:as.length+k=max as.length bs.length)(hl:bs.length+l=max as.length bs.length):
  ((as++List.replicate k 0).zip (bs++List.replicate l 0)).map (fun(q:Int×Int)=>q.1+f*q.2)=f? as bs f:=by
 refine YQ fun j=>?_;unfold f? cV;rw[Wh,VG,VG];by_cases hj:j<max as.length bs.length
 .rw[V7 hj];have e1:(as++List.replicate k 0)[j]?=some ((as++List.replicate k 0).getD j 0):=by rw[Vx,Vp (by rw[Vn,VU];lia)];rfl
  have e2:(bs++List.replicate l 0)[j]?=some ((bs++List.replicate l 0).getD j 0):=by rw[Vx,Vp (by rw[Vn,VU];lia)];rfl
  have e3:((as++List.replicate k 0).zip (bs++List.replicate l 0))[j]?=some ((as++List.replicate k 0).getD j 0,(bs++List.replicate l 0).getD j 0):=by rw[List.getElem?_zip_eq_some];exact⟨e1,e2⟩
  rw[e3,pG,pG];show some (as.getD j 0+f*bs.getD j 0)=some (as.getD (0+(j:Int)).toNat 0+f*bs.getD (0+(j:Int)).toNat 0);rw[show(0+(j:Int)).toNat=j by lia]
 .rw[VZ (l:=List.range _) (by rw[VQ];lia),VZ (by rw[List.length_zip,Vn,Vn,VU,VU];lia)];rfl
theorem oy(as bs:ZX)(f:Int):(f? as bs f).length=max as.length bs.length:=by unfold f? cV;rw[Vl,Vl,VQ]
theorem k7{p f:Int}(hp:¬ p=0){n m:Nat}{as bs:ZX}{st:ag}(h1:ak st n=some (as.map ah.int))(h2:ak st m=some (bs.map ah.int))(pf:as.length<=100000)(qH:bs.length<=100000)(f0:-(2 ^ 64)<f)(f1:f<2 ^ 64):
  ∃g k,PM.cO [.int p,.loc n,.loc m,.int f] st=.ok (.loc k) (st++g)/\st.length<=k/\(st++g)[k]?=some (.lst ((b9 ((f? as bs f).map (·.fmod p))).map ah.int)):=by
 have mx:(if(bs.length:Int)>(as.length:Int) then(bs.length:Int) else(as.length:Int))=((max as.length bs.length:Nat):Int):=by split<;>lia
 obtain⟨g1,k1,e1,o1,q1⟩:=kf (L:=((max as.length bs.length:Nat):Int)) h1 (by lia) (by lia);obtain⟨g2,k2,e2,o2,q2⟩:=kf (L:=((max as.length bs.length:Nat):Int)) (bb h2 g1) (by lia) (by lia);have q1:=aS q1 g2;revert e2 q1 q2;generalize jq:st++g1++g2=s2;intro e2 q2 q1;have hk:as.length+(((max as.length bs.length:Nat):Int)-as.length).toNat=max as.length bs.length:=by lia
 have hl:bs.length+(((max as.length bs.length:Nat):Int)-bs.length).toNat=max as.length bs.length:=by lia
 have le:=GN as bs f hk hl;have zz:=GG (ay q1) (ay q2);rw[pF]at zz;generalize (as++List.replicate (((max as.length bs.length:Nat):Int)-as.length).toNat 0)=A at q1 q2 zz le;generalize (bs++List.replicate (((max as.length bs.length:Nat):Int)-bs.length).toNat 0)=B at q1 q2 zz le;have hc:=pE (g:=fun cJ=>ak cJ k1=some (A.map ah.int)/\ak cJ k2=some (B.map ah.int)) (a:=jW [aI 0,aI 1]) (e:=af bU a! (af bV cW bw)) (st:=s2) ⟨ay q1,ay q2⟩ (fun τ=>∃x y,τ=[x, y, qI f]) pr (fun(q:Int×Int)=>.int (q.1+f*q.2)) (A.zip B) [qn, qn, qI f] [] ⟨_,_,rfl⟩ (by
  rintro⟨a,b⟩ _ τ ⟨x,y,rfl⟩;exact⟨_,rfl,⟨_,_,rfl⟩,by simp only[ao,ax,aM,aw,eM,aP,aK,Vo,Vs,gu (i:=f) f0 f1]⟩)
 rw[Vu,show((A.zip B).map fun(q:Int×Int)=>ah.int (q.1+f*q.2))=((A.zip B).map fun(q:Int×Int)=>q.1+f*q.2).map ah.int from by rw[Wh];rfl,le]at hc;have gL:∀x y z w:Option ah,je 2 [3] [x, y, z, qI f, w, qL k1]=[qn, qn, qI f]:=fun _ _ _ _=>rfl;have hz:((A.zip B).map pr).length<=sizeLine:=by have e:=W2 List.length le;rw[Vl,oy]at e;rw[Vl,e,Vv];lia
 rw[Vv]at hz;have rr:=dR hp (st:=s2++[.lst ((f? as bs f).map ah.int)]) (ba s2 _) (by rw[oy,Vv];lia);refine⟨g1++g2++[.lst ((f? as bs f).map ah.int)]++[.lst ((b9 ((f? as bs f).map (·.fmod p))).map ah.int)],(s2++[aB.lst ((f? as bs f).map ah.int)]).length,?_,by rw[<-jq];simp only[Vn];lia,?_⟩
 .rw[show st++(g1++g2++[aB.lst ((f? as bs f).map ah.int)]++[.lst ((b9 ((f? as bs f).map (·.fmod p))).map ah.int)])=s2++[aB.lst ((f? as bs f).map ah.int)]++[.lst ((b9 ((f? as bs f).map (·.fmod p))).map ah.int)]from by rw[<-jq];simp only[VO]];simp only[PM.cO,bI,ao,aD,aW,bt,aH,av,bY,bM,gN,ft,aG,au,aA,aT,bh,bo,dO,tM,aP,a9,aK,Vr,VH,VB,Vu,Vy,Vt,Vo,Vs,Nat.reduceSub,Vk,Vq,Nat.reduceAdd,Vv,A9,a7 h1,a7 h2,az,mx,e1,e2,zz,gL,hc,VD hz,rr]
 .rw[show st++(g1++g2++[aB.lst ((f? as bs f).map ah.int)]++[.lst ((b9 ((f? as bs f).map (·.fmod p))).map ah.int)])=s2++[aB.lst ((f? as bs f).map ah.int)]++[.lst ((b9 ((f? as bs f).map (·.fmod p))).map ah.int)]from by rw[<-jq];simp only[VO]];exact aN _ _
def k8(as bs:ZX):Nat->Nat->Int
 |0,_=>0
 |i+1,k=>k8 as bs i k+(if i<=k then as.getD i 0*bs.getD (k-i) 0 else 0)
theorem k9{ns:ZX}{k:Nat}(h:ns.length<=k):ns.getD k 0=0:=by rw[Vx,VZ h];rfl
theorem yY(as bs:ZX)(k:Nat):∀i,i+bs.length<=k+1->k8 as bs i k=0
 |0,_=>rfl
 |i+1,h=>by show k8 as bs i k+(if i<=k then as.getD i 0*bs.getD (k-i) 0 else 0)=0;rw[yY as bs k i (by lia),k9 (ns:=bs) (by lia),We];split<;>rfl
theorem yZ(bs:ZX)(k:Nat):∀i,k8 [] bs i k=0
 |0=>rfl
 |i+1=>by show k8 [] bs i k+(if i<=k then([]:ZX).getD i 0*bs.getD (k-i) 0 else 0)=0;rw[yZ bs k i,k9 (ns:=[]) (WH _),W6];split<;>rfl
def cb(as bs:ZX):ZX:=(cV 0 (as.length+bs.length-1)).map fun k=>k8 as bs as.length k.toNat
theorem v8(as bs:ZX):(cb as bs).length=as.length+bs.length-1:=by unfold cb cV;rw[Vl,Vl,VQ]
theorem Cn{R:ZX}{n:Nat}{f:Nat->Int}(hl:R.length=n)(h:∀k,k<n->R.getD k 0=f k):R=(cV 0 n).map fun k=>f k.toNat:=by
 refine YQ fun j=>?_;unfold cV;rw[Wh,VG];by_cases hj:j<n
 .rw[V7 hj,Vp (by lia)];have:=h j hj;rw[Vx,Vp (by lia)]at this;show some _=some (f (0+(j:Int)).toNat);rw[show(0+(j:Int)).toNat=j by lia,<-this];rfl
 .rw[VZ (by lia),VZ (by rw[VQ];lia)];rfl
theorem tW{R:ZX}{k:Nat}{v:Int}(hk:k<R.length)(j:Nat):(R.set k v).getD j 0=if j=k then v else R.getD j 0:=by
 rw[Vx,Vx];by_cases h:j=k
 .subst h;rw[Ws hk,VD rfl];rfl
 .rw[WU (fun z=>h z.symm),VI h]
theorem j0{R:ZX}{i:Int}{k:Nat}(hi:i=(k:Int))(hk:k<R.length):L2.jP (R.map ah.int) i=some (.int (R.getD k 0)):=by subst hi;have:=at_getD (ns:=R) (i:=(k:Int)) (by lia) (by lia);rw[WM]at this;exact this
abbrev De:MB:=vT DI eh (af bU eg qm) (af bV j? uW)
theorem A_{p:Int}{n m L:Nat}{bs R0:ZX}{i:Nat}{a:Int}{s:ag}{x6 x7:Option ah}(hm:ak (s++[.lst (R0.map ah.int)]) m=some (bs.map ah.int))(Vf:m<s.length)(hL:L=s.length)(ha:-(2 ^ 64)<a/\a<2 ^ 64)(hl:i+bs.length<=R0.length):
  ∃(R:ZX)(x6' x7':Option ah),forL (fun cJ=>ak cJ m=some (bs.map ah.int)) (jW [aI 6,aI 7]) De (kd 0 (bs.map ah.int)) [qI p, qL n, qL m, qL L, qI i, qI a, x6, x7] (s++[.lst (R0.map ah.int)])
   = .nx [qI p, qL n, qL m, qL L, qI i, qI a, x6', x7'] (s++[.lst (R.map ah.int)])/\R.length=R0.length/\∀k,R.getD k 0=R0.getD k 0+(if i<=k then a*bs.getD (k-i) 0 else 0):=by
 subst hL;have S4:∀R:ZX,ak (s++[.lst (R.map ah.int)]) m=some (bs.map ah.int):=fun R=>by have h:=hm;unfold ak at h⊢;rw[V0 Vf]at h⊢;exact h
 obtain⟨μ',ar,e,R,rfl,⟨y6,y7,rfl⟩,hR,hv⟩:=cU (g:=fun cJ=>ak cJ m=some (bs.map ah.int)) (a:=jW [aI 6,aI 7]) (body:=De)
  (fun j μ s'=>∃R:ZX,s'=s++[.lst (R.map ah.int)]/\(∃x6 x7,μ=[qI p, qL n, qL m, qL s.length, qI i, qI a, x6, x7])/\R.length=R0.length/\∀k,R.getD k 0=R0.getD k 0+(if i<=k/\k<i+j then a*bs.getD (k-i) 0 else 0))
  (kd 0 (bs.map ah.int)) 0 [qI p, qL n, qL m, qL s.length, qI i, qI a, x6, x7] (s++[.lst (R0.map ah.int)])
  (by
   rintro j u μ s' hu ⟨R,rfl,⟨x6,x7,rfl⟩,hR,hv⟩;rw[VX]at hv⊢;refine⟨S4 R,?_⟩;obtain⟨w,hw,rfl⟩:=kY _ 0 j u hu;rw[VX];have hj:j<bs.length:=by have:=bf hw;rw[az]at this;exact this
   have ew:w=.int (bs.getD j 0):=by rw[VG,Vp hj]at hw;rw[<-VR hw,Vx,Vp hj];rfl
   subst ew;have hk:i+j<R.length:=by lia
   have gx:=GD (ay (aN s (R.map ah.int))) (j0 (R:=R) (i:=(i:Int)+(j:Int)) (k:=i+j) (by lia) hk);have sx:=r_ (v:=.int (R.getD (i+j) 0+a*bs.getD j 0)) (k:=(i:Int)+(j:Int)) (j:=i+j) (aN s (R.map ah.int)) (by rw[az];have:=sd hk;rw[show(i:Int)+(j:Int)=((i+j:Nat):Int) by lia];exact this);rw[oq,<-Y!]at sx;refine⟨[some (.int p),some (.loc n),some (.loc m),some (.loc s.length),some (.int i),some (.int a),some (.int j),some (.int (bs.getD j 0))],rfl,[qI p, qL n, qL m, qL s.length, qI i, qI a, qI j, qI (bs.getD j 0)],s++[.lst ((R.set (i+j) (R.getD (i+j) 0+a*bs.getD j 0)).map ah.int)],.inl ?_,R.set (i+j) (R.getD (i+j) 0+a*bs.getD j 0),rfl,⟨_,_,rfl⟩,by rw[Wl];exact hR,fun k=>?_⟩
   .simp only[ao,aD,ax,aM,aw,eM,aP,a9,aK,om,Ci,Rf,Lc,Ld,Le,Lf,GF,gx,gu (i:=a) ha.1 ha.2,sx]
   .rw[tW hk];by_cases Lj:k=i+j
    .subst Lj;rw[VD rfl,hv,VI (by lia),VD (by lia),show i+j-i=j by lia];lia
    .rw[VI Lj,hv];congr 1;by_cases h1:i<=k/\k<i+j
     .rw[VD h1,VD (by lia)]
     .rw[VI h1,VI (by lia)])
  (fun μ s'⟨R,hs,_⟩=>by rw[hs];exact S4 R)
  ⟨R0,rfl,⟨_,_,rfl⟩,rfl,fun k=>by rw[VI (by lia),W8]⟩
 refine⟨R,y6,y7,e,hR,fun k=>?_⟩;rw[hv,VX,jC,az];congr 1;by_cases h1:i<=k
 .by_cases h2:k<i+bs.length
  .rw[VD ⟨h1,h2⟩,VD h1]
  .rw[VI (by lia),VD h1,k9 (by lia),We]
 .rw[VI (by lia),VI h1]
theorem tX{p:Int}(hp:¬ p=0){n m:Nat}{as bs:ZX}{st:ag}(h1:ak st n=some (as.map ah.int))(h2:ak st m=some (bs.map ah.int))(pf:as.length<=100000)(qH:bs.length<=100000)(ha:∀a∈as,-(2 ^ 64)<a/\a<2 ^ 64):
  ∃g k,PM.dY [.int p,.loc n,.loc m] st=.ok (.loc k) (st++g)/\st.length<=k/\(st++g)[k]?=some (.lst ((if as=[]\/bs=[] then[]else b9 ((cb as bs).map (·.fmod p))).map ah.int)):=by
 by_cases Em:as=[]
 .subst Em;refine⟨[.lst []],st.length,?_,VA _,?_⟩
  .have z:((([]:ZX).length:Int)==0)=true:=rfl;simp only[PM.dY,bI,ao,ax,aM,aw,aH,av,bc,aR,aQ,gk,aG,au,aA,aT,bj,dz,a9,aK,Vr,VH,VB,Vu,Vy,Vt,Nat.reduceSub,Vk,Vq,Nat.reduceAdd,a7 h1,az,z];rfl
  .rw[VD (.inl rfl)];exact aN st []
 have ha0:0<as.length:=by
  rcases Yj as.length with z|z
  .exact absurd (Wa z) Em
  .exact z
 have za:((as.length:Int)==0)=false:=by simp;lia
 by_cases Vg:bs=[]
 .subst Vg;refine⟨[.lst []],st.length,?_,VA _,?_⟩
  .have z:((([]:ZX).length:Int)==0)=true:=rfl;simp only[PM.dY,bI,ao,aD,ax,aM,aw,fQ,aH,av,bc,aR,aQ,gk,aG,au,aA,aT,bj,dz,a9,aK,Vr,VH,VB,Vu,Vy,Vt,Nat.reduceSub,Vk,Vq,Nat.reduceAdd,a7 h1,a7 h2,az,za,z];rfl
  .rw[VD (.inr rfl)];exact aN st []
 have Lk:0<bs.length:=by
  rcases Yj bs.length with z|z
  .exact absurd (Wa z) Vg
  .exact z
 have zb:((bs.length:Int)==0)=false:=by simp;lia
 rw[VI (by rintro(z|z);exact Em z;exact Vg z)];have m1:=jZ (st:=st++[.lst [.int 0]]) (n:=st.length) (us:=[.int 0]) (k:=(as.length:Int)+(bs.length:Int)-1) (aN _ _) (by lia) (by lia) (by rw[Vv];simp;lia);rw[qv,show((as.length:Int)+(bs.length:Int)-1).toNat=as.length+bs.length-1 by lia]at m1;have JZ:=bb h1 [.lst [.int 0]];have Jx:=bb h2 [.lst [.int 0]];have q1:=Lg JZ;have q2:=Lg Jx;have wC:st++[aB.lst [.int 0]]=st++[aB.lst [.int 0]]:=rfl;revert m1 JZ Jx q1 q2;generalize hs:st++[aB.lst [.int 0]]=s;intro m1 JZ Jx q1 q2;have k1:=a7 (bb h1 [.lst [.int 0]]);have k2:=a7 (bb h2 [.lst [.int 0]]);rw[hs]at k1 k2;obtain⟨μ',ar,e,R,rfl,⟨y4,y5,y6,y7,rfl⟩,hR,hv⟩:=cU (g:=fun cJ=>ak cJ n=some (as.map ah.int)) (a:=jW [aI 4,aI 5]) (body:=fM (kZ (aa cW aj)) (jW [aI 6,aI 7]) De)
  (fun i μ s'=>∃R:ZX,s'=s++[.lst (R.map ah.int)]/\(∃x4 x5 x6 x7,μ=[qI p, qL n, qL m, qL s.length, x4, x5, x6, x7])/\R.length=as.length+bs.length-1/\∀k,R.getD k 0=k8 as bs i k)
  (kd 0 (as.map ah.int)) 0 [qI p, qL n, qL m, qL s.length, qn, qn, qn, qn] (s++[.lst ((List.replicate (as.length+bs.length-1) (0:Int)).map ah.int)])
  (by
   rintro i u μ s' hu ⟨R,rfl,⟨x4,x5,x6,x7,rfl⟩,hR,hv⟩;rw[VX]at hv⊢;refine⟨bb JZ _,?_⟩;obtain⟨w,hw,rfl⟩:=kY _ 0 i u hu;rw[VX];have hi:i<as.length:=by have:=bf hw;rw[az]at this;exact this
   have ew:w=.int (as.getD i 0):=by rw[VG,Vp hi]at hw;rw[<-VR hw,Vx,Vp hi];rfl
   subst ew;have Vh:as.getD i 0∈as:=by rw[Vx,Vp hi];exact Y5 hi
   obtain⟨R',z6,z7,e',Vi,hv'⟩:=A_ (p:=p) (n:=n) (m:=m) (L:=s.length) (bs:=bs) (R0:=R) (i:=i) (a:=as.getD i 0) (s:=s) (x6:=x6) (x7:=x7) (bb Jx _) q2 rfl (ha _ Vh) (by lia);refine⟨[some (.int p),some (.loc n),some (.loc m),some (.loc s.length),some (.int i),some (.int (as.getD i 0)),x6,x7],rfl,[qI p, qL n, qL m, qL s.length, qI i, qI (as.getD i 0), z6, z7],s++[.lst (R'.map ah.int)],.inl ?_,R',rfl,⟨_,_,_,_,rfl⟩,by lia,fun k=>?_⟩
   .simp only[ao,aD,aH,av,f7,aG,au,d9,a9,aK,xq,A8 (bb Jx [.lst (R.map ah.int)]),e']
   .rw[hv',hv];rfl)
  (fun μ s'⟨R,HP,_⟩=>by rw[HP];exact bb JZ _)
  ⟨List.replicate (as.length+bs.length-1) 0,rfl,⟨_,_,_,_,rfl⟩,VU,fun k=>by
   rw[Vx,Wz];split<;>rfl⟩
 rw[VX,jC,az]at hv;have hRe:R=cb as bs:=Cn hR fun k _=>hv k;subst hRe;have rr:=dR hp (st:=s++[.lst ((cb as bs).map ah.int)]) (ba s _) (by rw[v8,Vv];lia);refine⟨[.lst [.int 0]]++[.lst ((cb as bs).map ah.int)]++[.lst ((b9 ((cb as bs).map (·.fmod p))).map ah.int)],(s++[aB.lst ((cb as bs).map ah.int)]).length,?_,by rw[<-hs];simp only[Vn];lia,?_⟩
 .rw[show st++([aB.lst [.int 0]]++[.lst ((cb as bs).map ah.int)]++[.lst ((b9 ((cb as bs).map (·.fmod p))).map ah.int)])=s++[aB.lst ((cb as bs).map ah.int)]++[.lst ((b9 ((cb as bs).map (·.fmod p))).map ah.int)]from by rw[<-hs];simp only[VO]];simp only[PM.dY,bI,ao,aD,aW,bt,ax,aM,aw,fQ,aH,av,eJ,bY,bJ,bM,f7,bc,aR,aQ,gk,aG,au,c8,aA,aT,bp,bh,bj,bo,d9,eM,fW,dz,aP,a9,aK,Vr,VH,VB,Vu,Vy,Vt,Vo,Vs,Nat.reduceSub,Vk,Vq,Nat.reduceAdd,Vv,Nat.reduceLeDiff,↓reduceIte,xq,a7 h1,a7 h2,az,za,zb,hs,k1,k2,m1,A8 (bb JZ _),e,rr]
 .rw[show st++([aB.lst [.int 0]]++[.lst ((cb as bs).map ah.int)]++[.lst ((b9 ((cb as bs).map (·.fmod p))).map ah.int)])=s++[aB.lst ((cb as bs).map ah.int)]++[.lst ((b9 ((cb as bs).map (·.fmod p))).map ah.int)]from by rw[<-hs];simp only[VO]];exact aN _ _
theorem qQ{p f:Int}(hp:¬ p=0){n:Nat}{as:ZX}{st:ag}(h:ak st n=some (as.map ah.int))(hl:as.length<=100000)(ha:∀a∈as,-(2 ^ 64)<a/\a<2 ^ 64):
  ∃g k,PM.dB [.int p,.loc n,.int f] st=.ok (.loc k) (st++g)/\st.length<=k/\(st++g)[k]?=some (.lst ((b9 ((as.map (· * f)).map (·.fmod p))).map ah.int)):=by
 have hc:=gT (g:=fun ar=>ak ar n=some (as.map ah.int)) (a:=aI 0) (e:=af bV a! bw) (st:=st) h (fun τ=>∃z,τ=[z,some (.int f)]) (fun i=>.int (i*f)) as [none,some (.int f)] [] ⟨_,rfl⟩ (by
  rintro i hi τ ⟨z,rfl⟩;exact⟨_,rfl,⟨_,rfl⟩,by simp only[ao,ax,aM,aw,aP,aK,Vo,gu (i:=i) (ha i hi).1 (ha i hi).2]⟩)
 rw[Vu,show(as.map fun i=>ah.int (i*f))=(as.map (· * f)).map ah.int from by rw[Wh];rfl]at hc;have gL:je 1 [2] [some (ah.int p), some (ah.loc n), qI f]=[none,some (.int f)]:=rfl;have hz:(as.map ah.int).length<=sizeLine:=by rw[az,Vv];lia
 rw[Vv]at hz;have rr:=dR hp (st:=st++[.lst ((as.map (· * f)).map ah.int)]) (ba st _) (by rw[Vl,Vv];lia);refine⟨[.lst ((as.map (· * f)).map ah.int)]++[.lst ((b9 ((as.map (· * f)).map (·.fmod p))).map ah.int)],(st++[aB.lst ((as.map (· * f)).map ah.int)]).length,?_,by simp only[Vn];lia,?_⟩
 .rw[<-VO];simp only[PM.dB,bI,ao,aD,bt,aH,av,bY,gN,ft,aG,au,aA,bh,dO,eu,aP,a9,aK,Vr,VH,VB,Vu,Vt,Nat.reduceSub,Vk,Vq,Nat.reduceAdd,Vv,cP h,gL,hc,VD hz,rr]
 .rw[<-VO];exact aN _ _
def dC(as:ZX):ZX:=(cV 1 (as.length-1)).map fun k=>k*as.getD k.toNat 0
theorem kh{p:Int}(hp:¬ p=0){n:Nat}{as:ZX}{st:ag}(h:ak st n=some (as.map ah.int))(hl:as.length<=100000):
  ∃g k,PM.e? [.int p,.loc n] st=.ok (.loc k) (st++g)/\st.length<=k/\(st++g)[k]?=some (.lst ((b9 ((dC as).map (·.fmod p))).map ah.int)):=by
 have Ll:=JM (st:=st) (i:=1) (j:=(as.length:Int)) (by decide) (by decide) (by lia) (by lia);rw[show((as.length:Int)-1).toNat=as.length-1 by lia,g!]at Ll;have hc:=gT (g:=fun _=>True) (a:=aI 0) (e:=af bV a! (af bN bw a!)) (st:=st) trivial (fun τ=>∃z,τ=[z,some (.loc n)]) (fun i=>.int (i*as.getD i.toNat 0)) (cV 1 (as.length-1)) [none,some (.loc n)] [] ⟨_,rfl⟩ (by
  rintro i hi τ ⟨z,rfl⟩;have hm:=tV hi;exact⟨_,rfl,⟨_,rfl⟩,by simp only[ao,ax,aM,aw,aP,a9,aK,Vo,c! h (at_getD (ns:=as) (i:=i) (by lia) (by lia)),gu (i:=i) (by lia) (by lia)]⟩)
 rw[Vu,show((cV 1 (as.length-1)).map fun i=>ah.int (i*as.getD i.toNat 0))=(dC as).map ah.int from by unfold dC;rw[Wh];rfl]at hc;have kl:=a7 h;rw[az]at kl;obtain⟨L,hL⟩:∃L:Int,L=(as.length:Int):=⟨_,rfl⟩
 rw[<-hL]at kl Ll;have gL:je 1 [1] [some (ah.int p),some (ah.loc n)]=[none,some (.loc n)]:=rfl;have MW:(dC as).length=as.length-1:=by unfold dC cV;rw[Vl,Vl,VQ]
 have hz:((cV 1 (as.length-1)).map ah.int).length<=16777216:=by rw[az];unfold cV;rw[Vl,VQ];lia
 have rr:=dR hp (st:=st++[.lst ((dC as).map ah.int)]) (ba st _) (by rw[MW,Vv];lia);refine⟨[.lst ((dC as).map ah.int)]++[.lst ((b9 ((dC as).map (·.fmod p))).map ah.int)],(st++[aB.lst ((dC as).map ah.int)]).length,?_,by simp only[Vn];lia,?_⟩
 .rw[<-VO];simp only[PM.e?,bI,ao,aD,bt,aH,av,bY,gN,ft,bc,aG,au,aA,bh,dO,r9,aP,a9,aK,Vr,VH,VB,Vu,Vt,Nat.reduceSub,Vk,Vq,Nat.reduceAdd,Vv,kl,Ll,gL,hc,VD hz,rr]
 .rw[<-VO];exact aN _ _
abbrev Cf:=Nat->Int
def cf(as:ZX):Cf:=fun k=>as.getD k 0
def gw(h:Cf):Cf
 |0=>0
 |k+1=>h k
def mF:ZX->Cf->Cf
 |[],_=>fun _=>0
 |a::as,g=>fun k=>a*g k+gw (mF as g) k
theorem ff(k:Nat):cf [] k=0:=by simp[cf]
theorem cC(a:Int)(as:ZX)(k:Nat):cf (a::as) (k+1)=cf as k:=by simp[cf]
theorem xw(f g:Cf)(k:Nat):gw (fun j=>f j+g j) k=gw f k+gw g k:=by cases k<;>simp[gw]
theorem Co(c:Int)(f:Cf)(k:Nat):gw (fun j=>c*f j) k=c*gw f k:=by cases k<;>simp[gw]
theorem dH{f g:Cf}(h:∀k,f k=g k)(k:Nat):gw f k=gw g k:=by cases k<;>simp[gw,h]
theorem b_{f g:Cf}(h:∀k,f k=g k):∀(as:ZX)(k:Nat),mF as f k=mF as g k
 |[],_=>rfl
 |a::as,k=>by unfold mF;rw[h k,dH (b_ h as)]
theorem k_(f g:Cf):∀(as:ZX)(k:Nat),mF as (fun j=>f j+g j) k=mF as f k+mF as g k
 |[],_=>by simp[mF]
 |a::as,k=>by unfold mF;rw[dH (k_ f g as),xw,Xh];lia
theorem tY(c:Int)(f:Cf):∀(as:ZX)(k:Nat),mF as (fun j=>c*f j) k=c*mF as f k
 |[],_=>by simp[mF]
 |a::as,k=>by unfold mF;rw[dH (tY c f as),Co,Xh,<-Wt,<-Wt,W7 a c]
theorem GO(f:Cf):∀(as:ZX)(k:Nat),mF as (gw f) k=gw (mF as f) k
 |[],k=>by cases k<;>simp[mF,gw]
 |a::as,k=>by
  have h:=GO f as;cases k with
  |zero=>simp[mF,gw]
  |succ k=>
   show a*f k+gw (mF as (gw f)) (k+1)=a*f k+gw (mF as f) k;rw[dH h];rfl
theorem j4(g:Cf):∀(as bs:ZX)(k:Nat),mF as (mF bs g) k=mF bs (mF as g) k
 |[],bs,k=>by
  have h:∀(bs:ZX)(k:Nat),mF bs (fun _=>0) k=0:=fun bs=>by
   induction bs with
   |nil=>intro k;rfl
   |cons b bs ih=>
    intro k;unfold mF;rw[dH ih];cases k<;>simp[gw]
  exact(h bs k).symm
 |a::as,bs,k=>by show a*mF bs g k+gw (mF as (mF bs g)) k=mF bs (fun k=>a*g k+gw (mF as g) k) k;rw[k_ (fun k=>a*g k) (gw (mF as g)),tY,GO,dH (j4 g as bs)]
def one:Cf:=cf [1]
theorem eO:∀(as:ZX)(k:Nat),mF as one k=cf as k
 |[],k=>(ff k).symm
 |a::as,k=>by
  unfold mF;rw[dH (eO as)];cases k with
  |zero=>simp[gw,one,cf]
  |succ k=>rw[cC];simp[gw,one,cf]
theorem de(as bs:ZX)(k:Nat):mF as (cf bs) k=mF bs (cf as) k:=by rw[<-b_ (eO bs),<-b_ (eO as) bs];exact j4 one as bs k
theorem v9(a:Int)(as bs:ZX)(k:Nat):∀i,k8 (a::as) bs (i+1) k=a*bs.getD k 0+gw (fun j=>k8 as bs i j) k
 |0=>by show k8 (a::as) bs 0 k+(if 0<=k then _ else _)=_;rw[VD (WH _)];cases k<;>simp[k8,gw]
 |i+1=>by
  show k8 (a::as) bs (i+1) k+(if i+1<=k then(a::as).getD (i+1) 0*bs.getD (k-(i+1)) 0 else 0)=_;rw[v9 a as bs k i,Int.add_assoc];congr 1;cases k with
  |zero=>simp[gw]
  |succ k=>
   show k8 as bs i k+_=k8 as bs i k+(if i<=k then as.getD i 0*bs.getD (k-i) 0 else 0);congr 1;by_cases h:i<=k
   .rw[VD (by lia),VD h,show k+1-(i+1)=k-i by lia];simp
   .rw[VI (by lia),VI h]
theorem se:∀(as bs:ZX)(k:Nat),k8 as bs as.length k=mF as (cf bs) k
 |[],bs,k=>yZ bs k 0
 |a::as,bs,k=>by rw[Vk,v9];show _=a*cf bs k+gw (mF as (cf bs)) k;rw[dH (se as bs)];rfl
theorem Cp:∀(n:Nat)(ns:ZX),ns.length=n->∀k,cf (b9 ns) k=cf ns k
 |0,ns,h,k=>by rw[Wa h];rfl
 |n+1,ns,h,k=>by
  rcases iX ns with rfl|⟨ms,x,rfl⟩
  .rfl
  .by_cases hx:x=0
   .subst hx;rw[iW];have hl:ms.length=n:=by simpa using h
    rw[Cp n ms hl];unfold cf;exact(pG ms 1 k).symm
   .rw[fS (by simpa using hx)]
theorem xx(ns:ZX)(k:Nat):cf (b9 ns) k=cf ns k:=Cp _ ns rfl k
theorem fg{ns:ZX}{k:Nat}(h:ns.length<=k):cf ns k=0:=k9 h
theorem tZ{ns:ZX}(h:Cut ns)(hn:ns≠[]):cf ns (ns.length-1)≠0:=by
 rcases iX ns with rfl|⟨ms,x,rfl⟩
 .exact absurd rfl hn
 .intro z;have hx:x=0:=by simpa[cf]using z
  subst hx;have h':b9 (ms++[0])=ms++[0]:=h;rw[iW]at h';have:=gE ms;rw[h',Vn,Wi]at this;lia
theorem iY{ns:ZX}(h:Cut ns){n:Nat}(hz:∀k,n<=k->cf ns k=0):ns.length<=n:=by
 rcases WG n ns.length with q|q
 .exfalso;refine tZ h (fun z=>by rw[z]at q;simp at q) (hz _ (by lia))
 .exact q
theorem J0{as bs:ZX}(ha:Cut as)(hb:Cut bs)(h:∀k,cf as k=cf bs k):as=bs:=by
 have h1:=iY ha (n:=bs.length) fun k hk=>by rw[h];exact fg hk
 have h2:=iY hb (n:=as.length) fun k hk=>by rw[<-h];exact fg hk
 refine List.ext_getElem (by lia) fun i hi hj=>?_;have:=h i;unfold cf at this;rw[Vx,Vp hi,Vx,Vp hj]at this;exact this
theorem pH(f:Int->Int)(hf:f 0=0)(ns:ZX)(k:Nat):cf (ns.map f) k=f (cf ns k):=by
 unfold cf;rw[Vx,VG,Vx];cases ns[k]? with
 |none=>exact hf.symm
 |some v=>rfl
theorem A!(n:Nat)(f:Nat->Int)(k:Nat):cf ((cV 0 n).map fun k=>f k.toNat) k=if k<n then f k else 0:=by
 unfold cf cV;rw[Vx,VG,VG];by_cases h:k<n
 .rw[VD h,V7 h];simp
 .rw[VI h,VZ (by rw[VQ];lia)];rfl
def a8(p:Int)(f g:Cf):Prop:=∀k,Cg p (f k) (g k)
theorem a8.refl(p:Int)(f:Cf):a8 p f f:=fun k=>Cg.refl p _
theorem a8.symm{p:Int}{f g:Cf}(h:a8 p f g):a8 p g f:=fun k=>(h k).symm
theorem a8.trans{p:Int}{f g e:Cf}(h:a8 p f g)(h':a8 p g e):a8 p f e:=fun k=>(h k).trans (h' k)
theorem a8.of_eq{p:Int}{f g:Cf}(h:∀k,f k=g k):a8 p f g:=fun k=>by rw[h];exact Cg.refl p _
theorem a8.add{p:Int}{f g f' g':Cf}(h:a8 p f g)(h':a8 p f' g'):a8 p (fun k=>f k+f' k) (fun k=>g k+g' k):=fun k=>(h k).add (h' k)
theorem a8.gw{p:Int}{f g:Cf}(h:a8 p f g):a8 p (gw f) (gw g):=fun k=>by
 cases k with
 |zero=>exact Cg.refl p _
 |succ k=>exact h k
theorem a8.mF{p:Int}{f g:Cf}(h:a8 p f g):∀as:ZX,a8 p (mF as f) (mF as g)
 |[]=>a8.refl p _
 |a::as=>fun k=>((h k).xu a).add ((h.mF as).gw k)
theorem a8.S5{p:Int}{as O8:ZX}(h:a8 p (cf as) (cf O8))(bs:ZX):a8 p (PG.mF as (cf bs)) (PG.mF O8 (cf bs)):=
 (a8.of_eq (de as bs)).trans ((h.mF bs).trans (a8.of_eq (de bs O8)))
structure Row(p:Int)(as:ZX):Prop where
 cut:Cut as
 HG:∀a∈as,0<=a/\a<p
theorem Row.nil(p:Int):Row p []:=⟨rfl,fun a h=>by simp at h⟩
theorem Row.Eo{p:Int}{as:ZX}(h:Row p as)(hp:0<p)(k:Nat):0<=cf as k/\cf as k<p:=by
 unfold cf;rw[Vx];cases e:as[k]? with
 |none=>exact⟨Yu _,hp⟩
 |some v=>exact h.HG v (Wb e)
theorem Row.of{p:Int}(hp:0<p)(ns:ZX):Row p (b9 (ns.map (·.fmod p))):=⟨r? _,xt (P:=fun a=>0<=a/\a<p) fun n hn=>by
 obtain⟨m,_,rfl⟩:=Wc.mp hn;rw[dc hp];exact⟨WZ _ (by lia),WD _ hp⟩⟩
theorem Row.cg{p:Int}(hp:0<p)(ns:ZX):a8 p (cf (b9 (ns.map (·.fmod p)))) (cf ns):=fun k=>by rw[xx,pH _ (by rw[dc hp];exact Xk p)];exact Cg.mod hp _
theorem Row.ext{p:Int}(hp:0<p){as bs:ZX}(ha:Row p as)(hb:Row p bs)(h:a8 p (cf as) (cf bs)):as=bs:=J0 ha.cut hb.cut fun k=>by have:=Cg.eq hp (h k);rw[d_ (ha.Eo hp k).1 (ha.Eo hp k).2,d_ (hb.Eo hp k).1 (hb.Eo hp k).2]at this;exact this
theorem take_snoc{ns:ZX}{k:Nat}(h:k<ns.length):ns.take (k+1)=ns.take k++[ns.getD k 0]:=by rw[List.take_succ,Vp h,Vx,Vp h];rfl
theorem DV{ns:ZX}{k:Nat}(h:k<=ns.length):DU ns none (some (k:Int))=ns.take k:=by unfold DU;rw[HT.yr,HT.Iw,List.drop_zero,show min k ns.length-0=k by lia]
abbrev lcT:MT:=fm (b8 (af uX bw dF)) (b8 (af h! (af bN a! (af gP bw b!)) dF))
abbrev lcB:MB:=aO 1 (af gP bw b!)
theorem iZ{n:Nat}{ns:ZX}{st:ag}(h:ak st n=some (ns.map ah.int)):PM.gB [.loc n] st=.ok (.loc st.length) (st++[.lst ((b9 ns).map ah.int)]):=by
 obtain⟨μ',ar,e,rfl,k,hk,rfl,hc⟩:=fc (t:=lcT) (body:=lcB)
  (fun μ s=>s=st/\∃k:Nat,k<=ns.length/\μ=[some (.loc n),some (.int k)]/\b9 (ns.take k)=b9 ns) (fun μ _=>Li μ)
  (fun μ s=>s=st/\∃k:Nat,k<=ns.length/\μ=[some (.loc n),some (.int k)]/\ns.take k=b9 ns)
  (by
   rintro μ s ⟨rfl,k,hk,rfl,hc⟩;cases k with
   |zero=>
    have z:decide ((0:Int)<((0:Nat):Int))=false:=rfl;refine .inl ⟨s,?_,rfl,0,hk,rfl,?_⟩
    .simp only[ao,ax,aM,aw,fZ,bc,aR,aQ,cF,f9,aP,aK,z]
    .rw[List.take_zero]at hc⊢;exact hc
   |succ k=>
    have z:decide ((0:Int)<((k+1:Nat):Int))=true:=VW (by lia);have hx:=c! (i:=((k+1:Nat):Int)-1) h (j0 (R:=ns) (k:=k) (by lia) (by lia));rw[take_snoc (by lia)]at hc;have Cm:lcT [some (.loc n),some (.int ((k+1:Nat):Int))] s=.ok (ns.getD k 0==0) s:=by simp only[ao,ax,aM,aw,dy,bc,aR,aQ,cF,fW,f9,dz,aP,a9,aK,z,hx]
    cases hz:ns.getD k 0==0 with
    |true=>
     rw[hz]at Cm;have:ns.getD k 0=0:=by simpa using hz
     rw[this,iW]at hc;refine .inr ⟨s,[some (.loc n),some (.int (k:Int))],s,Cm,.inl ?_,⟨rfl,k,by lia,rfl,hc⟩,?_⟩
     .simp only[ao,aD,ax,aM,aw,bM,bc,bo,fW,aP,aK,Vo,Vs];rw[show((k+1:Nat):Int)-1=(k:Int) by lia]
     .show((k:Int)).toNat<(((k+1:Nat):Int)).toNat;lia
    |false=>
     rw[hz]at Cm;rw[fS hz]at hc;exact .inl ⟨s,Cm,rfl,k+1,hk,rfl,by rw[take_snoc (by lia)];exact hc⟩)
  [some (.loc n),some (.int ns.length)] st ⟨rfl,ns.length,VA _,rfl,by rw[List.take_length]⟩
 have sl:=Gz (l:=none) (h:=some (k:Int)) h;rw[v7,DV hk,hc]at sl;simp only[PM.gB,bI,ao,aD,aW,bt,aH,av,bY,bM,aG,au,aA,aT,bh,bo,aP,a9,aK,Vr,VH,VB,Vu,Vy,Vt,Vo,Vs,Nat.reduceSub,Vk,Vq,Nat.reduceAdd,K!,Q?,K?,K',yW,yX,Ra,a7 h,az,e,sl]
def Sm(ns:ZX):Prop:=∀n∈ns,-(2 ^ 64)<n/\n<2 ^ 64
theorem ve{p:Int}(hp:eZ p=true)(c:Int){z:Int}(z0:0<=z)(z1:z<=1000)(st:ag):
  ∃g k D,PM.iM [.int p,.int c,.int z] st=.ok (.loc k) (st++g)/\st.length<=k/\(st++g)[k]?=some (.lst (D.map ah.int))/\D.length<=z.toNat/\(∀d∈D,0<=d/\d<p)/\Cut D:=by
 have hr:=aF hp;have Ll:=mz (st:=st++[.lst []]) (j:=z) (by lia) (by lia);obtain⟨μ',ar,e,R,rfl,⟨y4,y5,rfl⟩,hR,hb⟩:=cU (g:=fun _=>True) (a:=aI 4) (body:=aC (aO 5 (af bW (af bU bw (af bV (mC (.int 7919)) eg)) e!)) (aC (aO 5 (af bW (af bV (af bW (af bV j? j?) (mC (.int 2147483629))) (mC (.int 48271))) e!)) (iB (yL fN eh (aa (af bW (af c_ j? (af bU b! eg)) a!) aj)))))
  (fun i μ s'=>∃R:ZX,s'=st++[.lst (R.map ah.int)]/\(∃x4 x5,μ=[qI p, qI c, qI z, qL st.length, x4, x5])/\R.length=i/\∀d∈R,0<=d/\d<p)
  (cY 0 z.toNat) 0 [qI p, qI c, qI z, qL st.length, qn, qn] (st++[.lst []])
  (by
   rintro i u μ s' hu ⟨R,rfl,⟨x4,x5,rfl⟩,hR,hb⟩;rw[VX]at hR⊢;refine⟨trivial,?_⟩;rw[g!]at hu;obtain⟨k,hk,rfl⟩:=Wc.mp (Wb hu);have hm:=tV hk;have hi:i<z.toNat:=by have:=bf hu;rw[Vl]at this;unfold cV at this;rw[Vl,VQ]at this;exact this
   have dk:Dz (1+k):=qP (by lia) (by lia);have q1:=iD (m:=2147483647) (by decide) (c+7919*k);generalize hx:(c+7919*k).fmod 2147483647=x at q1;have q2:=iD (m:=2147483629) (by decide) (x*x);generalize hy:((x*x).fmod 2147483629*48271).fmod 2147483647=y;have q3:=iD (m:=p) (by lia) (y.fdiv (1+k));have ap:=pD (v:=.int ((y.fdiv (1+k)).fmod p)) (aN st (R.map ah.int)) (by rw[az,Vv];lia);rw[oq,show R.map ah.int++[.int ((y.fdiv (1+k)).fmod p)]=(R++[(y.fdiv (1+k)).fmod p]).map ah.int from by simp]at ap;refine⟨[some (.int p),some (.int c),some (.int z),some (.loc st.length),some (.int k),x5],rfl,[qI p, qI c, qI z, qL st.length, qI k, qI y],st++[.lst ((R++[(y.fdiv (1+k)).fmod p]).map ah.int)],.inl ?_,R++[(y.fdiv (1+k)).fmod p],rfl,⟨_,_,rfl⟩,by rw[Vn,hR];rfl,fun d hd=>?_⟩
   .simp only[ao,aD,aW,ax,aM,aw,aH,av,gC,bM,bc,aG,au,aT,fw,bo,eM,aP,a9,aK,Vo,Vs,A7,GC,gu (i:=7919) (by decide) (by decide),bF (j:=2147483647) (by decide),hx,gu (i:=x) (by lia) (by lia),bF (j:=2147483629) (by decide),mul_r (j:=48271) (by decide) (by decide),hy,GB (aN st (R.map ah.int)),div_ii dk,bF (fG hp),ap]
   .rcases V4.mp hd with hd|hd
    .exact hb d hd
    .rw[VY.mp hd];exact q3)
  (fun _ _ _=>trivial) ⟨[],rfl,⟨_,_,rfl⟩,rfl,fun d hd=>by cases hd⟩
 have lc:=iZ (ay (aN st (R.map ah.int)));have Vi:R.length<=z.toNat:=by rw[hR];unfold cY;rw[Vl,VQ];lia
 refine⟨[.lst (R.map ah.int)]++[.lst ((b9 R).map ah.int)],(st++[aB.lst (R.map ah.int)]).length,b9 R,?_,by simp only[Vn];lia,by rw[<-VO];exact aN _ _,V! (gE R) Vi,xt hb,r? R⟩;rw[<-VO];simp only[PM.iM,bI,ao,aD,aW,bt,aH,av,eJ,bY,bM,f7,aG,au,c8,aA,aT,bh,bo,d9,fA,aP,a9,aK,Vr,VH,VB,Vu,Vy,Vt,Vo,Vs,Nat.reduceSub,Vk,Vq,Nat.reduceAdd,Vv,Nat.reduceLeDiff,↓reduceIte,Ll,e,lc]
theorem mI{g:ag->Prop}{a:AS}{e:ME}{u y:ah}{us:List ah}{τ τ1:MN.Env}{st st1:ag}{ys:List ah}(hg:g st)(h1:a u τ=some τ1)(h2:e τ1 st=.ok y st1):du g a bO e (u::us) τ st ys=du g a bO e us τ1 st1 (ys++[y]):=by rw[du];rw[VD hg,h1];dsimp only[bO];rw[h2]
theorem pI{g:ag->Prop}{a:AS}{c:MT}{e:ME}{τ:MN.Env}{st:ag}{ys:List ah}(hg:g st):du g a c e [] τ st ys=.ok ys st:=by rw[du,VD hg]
abbrev aq(R:ZX):aB:=.lst (R.map ah.int)
def cq(s:ag)(ls:List Nat)(Rs:List (ZX)):Prop:=ls.length=Rs.length/\∀(i l:Nat)(R:ZX),ls[i]?=some l->Rs[i]?=some R->s[l]?=some (aq R)
theorem cq.old{s:ag}{ls:List Nat}{Rs:List (ZX)}(h:cq s ls Rs)(g:ag):cq (s++g) ls Rs:=⟨h.1,fun i l R h1 h2=>aS (h.2 i l R h1 h2) g⟩
theorem cq.tail{s:ag}{l:Nat}{ls:List Nat}{R:ZX}{Rs:List (ZX)}(h:cq s (l::ls) (R::Rs)):cq s ls Rs:=⟨by have:=h.1;simpa using this,fun i l' R' h1 h2=>h.2 (i+1) l' R' h1 h2⟩
theorem t6{n:Nat}:∀(ls:List Nat)(Rs:List (ZX))(st:ag)(us:List ah)(τ:MN.Env)(ys:List ah),cq st ls Rs->ak st n=some us->τ.length=1 ->
  du (fun ar=>ak ar n=some us) (aI 0) bO (ai gy (aa a! aj)) (ls.map ah.loc) τ st ys=.ok (ys++(List.range ls.length).map fun i=>ah.loc (st.length+i)) (st++Rs.map aq)
 |[],Rs,st,us,τ,ys,h,hn,_=>by have:Rs=[]:=Wa h.1.symm;subst this;rw[VH,pI hn];simp
 |l::ls,[],st,us,τ,ys,h,hn,_=>by have:=h.1;simp at this
 |l::ls,R::Rs,st,us,[x],ys,h,hn,_=>by
  have hl:=h.2 0 l R rfl rfl;have e:ai gy (aa a! aj) [some (.loc l)] st=.ok (.loc st.length) (st++[aq R]):=by simp only[ao,aH,av,aG,au,aA,a9,ji (ay hl)]
  rw[Vr,mI (τ1:=[some (.loc l)]) hn rfl e,t6 ls Rs (st++[aq R]) us [some (.loc l)] _ (h.tail.old _) (bb hn _) rfl];congr 1
  .rw[Vk,Y1,Vr,Wh,VO];congr 1;rw[List.singleton_append];congr 1;refine Xy fun i _=>?_;show ah.loc ((st++[aq R]).length+i)=ah.loc (st.length+(i+1));rw[Vn,Wi,show st.length+1+i=st.length+(i+1) by lia]
  .rw[Vr,VO,List.singleton_append]
theorem oz{ls:List Nat}{j l:Nat}(h:ls[j]?=some l):L2.jP (ls.map ah.loc) (j:Int)=some (.loc l):=L2.jg (by rw[VG,h];rfl)
def pJ(i k:Nat)(R:ZX):ZX:=R++(if i<k then[1] else[])
abbrev Rn:MB:=ij (b8 (af jV (af bN a! eh) (af bU (af bN bw eh) (af bV (dA (aa b! aj)) (ai DJ (aa (af Ji eh cW) aj)))))) (bG (mC (.bl false))) bT
abbrev aaa:MB:=aC (iB (yL fN (af bN a! cW) (aa b! aj))) (fM (cK (aa (ai bx (aa a! aj)) aj)) (aI 3) Rn)
def Lm(s:ag)(ls:List Nat)(Rs:List (ZX))(k:Nat):Prop:=∀(i l:Nat)(R:ZX),ls[i]?=some l->Rs[i]?=some R->s[l]?=some (aq (pJ i k R))
theorem A?{n:Nat}{ls:List Nat}{Rs:List (ZX)}{st:ag}(hn:st[n]?=some (.lst (ls.map ah.loc)))(hr:cq st ls Rs)(nd:ls.Nodup)(hnl:n ∉ ls)(hlen:ls.length<=1000)(hRl:∀R∈Rs,R.length<=100000):
  ∃ar,PM.n? [.loc n] st=.ok (.bl true) ar/\st.length<=ar.length/\(∀(i l:Nat)(R:ZX),ls[i]?=some l->Rs[i]?=some R->ar[l]?=some (aq (R++[1])))/\∀m c,m ∉ ls->st[m]?=some c->ar[m]?=some c:=by
 have J1:∀l∈ls,l<st.length:=fun l hl=>by
  obtain⟨i,hi⟩:=List.mem_iff_getElem?.mp hl;have z!:i<Rs.length:=by rw[<-hr.1];exact bf hi
  exact bf (hr.2 i l _ hi (Vp z!))
 have hc:=t6 (n:=n) ls Rs st (ls.map ah.loc) [none] [] hr (ay hn) rfl;rw[Vu]at hc
 -- uY store behind uY N8
 generalize hk:(List.range ls.length).map (fun i=>ah.loc (st.length+i))=ks at hc;have hkl:ks.length=ls.length:=by rw[<-hk,Vl,VQ]
 have aab:∀j,j<ls.length->L2.jP ks (j:Int)=some (.loc (st.length+j)):=fun j hj=>L2.jg (by rw[<-hk,VG,V7 hj];rfl);have hkc:∀j R,Rs[j]?=some R->(st++Rs.map aq)[st.length+j]?=some (aq R):=fun j R h=>by rw[VP (by lia),show st.length+j-st.length=j by lia,VG,h];rfl
 have Ff:=aS hn (Rs.map aq);have hr1:=hr.old (Rs.map aq);have hold:∀m c,st[m]?=some c->(st++Rs.map aq)[m]?=some c:=fun m c h=>aS h _;have GP:(st++Rs.map aq).length=st.length+ls.length:=by rw[Vn,Vl,hr.1]
 revert hc hkc Ff hr1 hold GP;generalize st++Rs.map aq=s1;intro hc hkc Ff hr1 hold GP
 -- uY cell of uY N8
 have jq:=aN s1 ks;have MG:=aS Ff [.lst ks];have S6:=hr1.old [.lst ks];have Ro:∀j R,Rs[j]?=some R->(s1++[.lst ks])[st.length+j]?=some (aq R):=fun j R h=>aS (hkc j R h) _;have Ln:∀m c,st[m]?=some c->(s1++[.lst ks])[m]?=some c:=fun m c h=>aS (hold m c h) _;have Rp:st.length<=(s1++[aB.lst ks]).length:=by rw[Vn,GP];lia
 obtain⟨K,hK⟩:∃K,s1.length=K:=⟨_,rfl⟩
 obtain⟨s2,J2⟩:∃s2,s1++[aB.lst ks]=s2:=⟨_,rfl⟩
 rw[hK,J2]at jq;rw[J2]at MG S6 Rp;simp only[J2]at Ro Ln;have hKn:K ∉ ls:=fun h=>by have:=J1 K h;lia
 -- uY loops
 obtain⟨LL,Rq⟩:∃LL:Int,LL=(ls.length:Int):=⟨_,rfl⟩
 have rl:∀s,Gx [.int LL] s=.ok ((cV 0 ls.length).map ah.int,fun _=>True) s:=fun s=>by have:=mz (st:=s) (j:=LL) (by lia) (by lia);rw[g!,show LL.toNat=ls.length by lia]at this;exact this
 have rat:∀(j:Nat)(u:ah),((cV 0 ls.length).map ah.int)[j]?=some u->j<ls.length/\u=.int (j:Int):=fun j u h=>by
  unfold cV at h;rw[Wh,VG]at h;by_cases hj:j<ls.length
  .rw[V7 hj]at h;refine⟨hj,?_⟩;have:=VR h;rw[<-this];show ah.int (0+(j:Int))=_;rw[Xj]
  .rw[VZ (l:=List.range _) (by rw[VQ];lia)]at h;cases h
 have aac:((cV 0 ls.length).map ah.int).length=ls.length:=by rw[az];unfold cV;rw[Vl,VQ]
 obtain⟨μ',ar,e,⟨y2,y3,rfl⟩,hX,hF,hL⟩:=cU (g:=fun _=>True) (a:=aI 2) (body:=aaa)
  (fun k μ s=>(∃x2 x3,μ=[qL n, qL K, x2, x3])/\Lm s ls Rs k/\(∀m c,m ∉ ls->s2[m]?=some c->s[m]?=some c)/\s2.length<=s.length)
  ((cV 0 ls.length).map ah.int) 0 [qL n, qL K, qn, qn] s2
  (by
   rintro k u μ s hu ⟨⟨x2,x3,rfl⟩,hX,hF,hL⟩;rw[VX]at hX⊢;refine⟨trivial,?_⟩;obtain⟨GQ,rfl⟩:=rat k u hu;have hlk:ls[k]?=some ls[k]:=Vp GQ;have S7:Rs[k]?=some (Rs[k]'(by rw[<-hr.1];exact GQ)):=Vp (by rw[<-hr.1];exact GQ);generalize Rs[k]'(by rw[<-hr.1];exact GQ)=R at S7;have nN:=hX k _ R hlk S7;have aaG:=hRl R (Wb S7);have OX:=hF n _ hnl MG;have ixk:=c! (ay OX) (oz hlk);have ek:pJ k k R=R:=by unfold pJ;rw[VI (Wg k),V3]
   rw[ek]at nN;have ap:=pD (v:=.int 1) (show s[ls[k]]?=some (.lst (R.map ah.int))from nN) (by rw[az,Vv];lia);rw[show R.map ah.int++[ah.int 1]=(R++[1]).map ah.int from by simp]at ap
   -- uY store behind uY append
   have S8:Lm (s.set ls[k] (.lst ((R++[1]).map ah.int))) ls Rs (k+1):=by
    intro i l R' h1 h2;by_cases hik:i=k
    .subst hik;rw[hlk]at h1;cases h1;rw[S7]at h2;cases h2;rw[oo nN];unfold pJ;rw[VD (XY _)]
    .have hne:ls[k]≠l:=fun z=>hik (by
      have hi:=bf h1;rw[Vp hi]at h1;exact(List.getElem_inj nd).mp ((VR h1).trans z.symm))
     rw[jk (hX i l R' h1 h2) hne];unfold pJ;by_cases yb:i<k
     .rw[VD yb,VD (by lia)]
     .rw[VI yb,VI (by lia)]
   have N9:∀m c,m ∉ ls->s2[m]?=some c->(s.set ls[k] (.lst ((R++[1]).map ah.int)))[m]?=some c:=fun m c hm h=>jk (hF m c hm h) (fun z=>hm (by rw[<-z];exact Y5 GQ));have hL1:s2.length<=(s.set ls[k] (.lst ((R++[1]).map ah.int))).length:=by rw[Wl];exact hL
   have mt:=GB (g:=fN) (ms:=aa b! aj) (μ:=[some (.loc n),some (.loc K),some (.int (k:Int)),x3]) (show s[ls[k]]?=some (.lst (R.map ah.int))from nN);revert ap S8 N9 hL1;generalize s.set ls[k] (.lst ((R++[1]).map ah.int))=t;intro ap S8 N9 hL1;obtain⟨μ2,cJ,e2,⟨z3,rfl⟩,g,rfl⟩:=cU (g:=fun _=>True) (a:=aI 3) (body:=Rn)
    (fun _ μ s'=>(∃x3,μ=[qL n, qL K, qI (k:Int), x3])/\∃g,s'=t++g)
    ((cV 0 ls.length).map ah.int) 0 [qL n, qL K, qI (k:Int), x3] t
    (by
     rintro j u μ s' hu ⟨⟨x3,rfl⟩,g,rfl⟩;refine⟨trivial,?_⟩;obtain⟨Rr,rfl⟩:=rat j u hu;have hlj:ls[j]?=some ls[j]:=Vp Rr;have S9:Rs[j]?=some (Rs[j]'(by rw[<-hr.1];exact Rr)):=Vp (by rw[<-hr.1];exact Rr);generalize Rs[j]'(by rw[<-hr.1];exact Rr)=R' at S9;have aaH:=hRl R' (Wb S9);have c1:=aS (N9 n _ hnl MG) g;have c2:=aS (N9 K _ hKn jq) g;have c3:=aS (S8 j _ R' hlj S9) g;have hkn:st.length+j ∉ ls:=fun h=>by have:=J1 _ h;lia
     have c4:=aS (N9 (st.length+j) _ hkn (Ro j R' S9)) g;have i1:=c! (ay c1) (oz hlj);have i2:=c! (ay c2) (aab j Rr);generalize hb:(if decide ((j:Int)<=(k:Int)) then(1:Int)else 0)=b;have hb':0<=b/\b<=1:=by rw[<-hb];split<;>lia
     have m1:=jZ (st:=t++g++[.lst [.int 1]]) (n:=(t++g).length) (us:=[.int 1]) (k:=b) (aN _ _) (by lia) (by lia) (by rw[Vv];simp;lia);have a1:=jY (st:=t++g++[.lst [.int 1]]++[.lst (jB b.toNat [.int 1])]) (n:=st.length+j) (m:=(t++g++[aB.lst [.int 1]]).length) (us:=R'.map ah.int) (aS (aS c4 _) _) (aN _ _) (by
      rw[az,Vv];unfold jB;rw[List.length_flatten,List.map_replicate,List.sum_replicate_nat,Wi];lia)
     have he:R'.map ah.int++jB b.toNat [.int 1]=(pJ j (k+1) R').map ah.int:=by
      unfold pJ;rw[Wn,<-hb];congr 1;by_cases hjk:j<k+1
      .rw[VD hjk,VD (VW (by lia))];rfl
      .rw[VI hjk,VI (by rw[VV (by lia)];exact VM)];rfl
     rw[he]at a1;have q1:=ou (n:=ls[j]) (m:=(t++g++[aB.lst [.int 1]]++[aB.lst (jB b.toNat [.int 1])]).length) (st:=t++g++[aB.lst [.int 1]]++[aB.lst (jB b.toNat [.int 1])]++[aB.lst ((pJ j (k+1) R').map ah.int)])
      (ay (aS (aS (aS c3 _) _) _)) (ba _ _) (fF 14 _)
     refine⟨[some (.loc n),some (.loc K),some (.int (k:Int)),some (.int (j:Int))],rfl,[qL n, qL K, qI (k:Int), qI (j:Int)],t++g++[aB.lst [.int 1]]++[aB.lst (jB b.toNat [.int 1])]++[aB.lst ((pJ j (k+1) R').map ah.int)],.inl ?_,⟨_,rfl⟩,g++[aB.lst [.int 1]]++[aB.lst (jB b.toNat [.int 1])]++[aB.lst ((pJ j (k+1) R').map ah.int)],by simp only[VO]⟩;simp only[ao,aD,ax,aM,aw,aH,av,eJ,bJ,bc,aR,aQ,aG,au,c8,aA,bp,bj,yV,aP,a9,aK,Vk,Vq,Nat.reduceAdd,Vv,Nat.reduceLeDiff,↓reduceIte,Ri,i1,i2,hb,m1,a1,q1])
    (fun _ _ _=>trivial) ⟨⟨_,rfl⟩,[],by rw[V3]⟩
   have l1:=a7 (ay (N9 n _ hnl MG));rw[Vl,<-Rq]at l1;refine⟨[some (.loc n),some (.loc K),some (.int (k:Int)),x3],rfl,[qL n, qL K, qI (k:Int), z3],t++g,.inl ?_,⟨_,_,rfl⟩,fun i l R' h1 h2=>aS (S8 i l R' h1 h2) g,fun m c hm h=>aS (N9 m c hm h) g,by rw[Vn];lia⟩;simp only[ao,aD,aW,ax,aM,aw,aH,av,gC,f7,bc,aG,au,aA,aT,fw,d9,fA,aP,a9,aK,A7,GC,ixk,mt,ap,l1,rl,e2])
  (fun _ _ _=>trivial)
  ⟨⟨_,_,rfl⟩,fun i l R h1 h2=>by
   have:pJ i 0 R=R:=by unfold pJ;rw[VI (YB _),V3]
   rw[this];exact S6.2 i l R h1 h2,fun _ _ _ h=>h,VA _⟩
 rw[VX,aac]at hX;have gL:je 1 [] [some (ah.loc n),none,none,none]=[none]:=rfl;have hz:(ls.map ah.loc).length<=sizeLine:=by rw[Vl,Vv];lia
 rw[Vv]at hz;have l2:=a7 (ay MG);rw[Vl,<-Rq]at l2;refine⟨ar,?_,by lia,fun i l R h1 h2=>?_,fun m c hm h=>hF m c hm (Ln m c h)⟩
 .simp only[PM.n?,bI,ao,aD,aW,bt,aH,av,bY,bM,f7,gN,ft,bc,aG,au,aA,aT,bh,bo,d9,dO,eu,fA,a9,Vr,VH,VB,Vu,Vy,Vt,Vo,Vs,Nat.reduceSub,Vk,Vq,Nat.reduceAdd,Vv,cP (ay hn),gL,hc,VD hz,hK,J2,l2,rl,e]
 .have:=hX i l R h1 h2;unfold pJ at this;rw[VD (bf h1)]at this;exact this
def Fr(st s:ag):Prop:=∀(m:Nat)(c:aB),st[m]?=some c->s[m]?=some c
theorem Fr.refl(st:ag):Fr st st:=fun _ _ h=>h
theorem Fr.trans{a b c:ag}(h:Fr a b)(h':Fr b c):Fr a c:=fun m k q=>h' m k (h m k q)
theorem Fr.app(st g:ag):Fr st (st++g):=fun _ _ h=>aS h g
theorem Fr.more{a b:ag}(h:Fr a b)(g:ag):Fr a (b++g):=h.trans (Fr.app b g)
theorem Fr.set{a b:ag}(h:Fr a b){L:Nat}(hL:a.length<=L)(c:aB):Fr a (b.set L c):=fun m k q=>jk (h m k q) (by have:=bf q;lia)
theorem Fr.it{a b:ag}(h:Fr a b){n:Nat}{us:List ah}(hi:ak a n=some us):ak b n=some us:=by
 unfold ak at hi⊢;cases z:a[n]? with
 |none=>rw[z]at hi;cases hi
 |some c=>rw[z]at hi;rw[h n c z];exact hi
theorem Fr.rows{a b:ag}(h:Fr a b){ls:List Nat}{Rs:List (ZX)}(hr:cq a ls Rs):cq b ls Rs:=⟨hr.1,fun i l R h1 h2=>h l _ (hr.2 i l R h1 h2)⟩
theorem Fr.len{a b:ag}(h:Fr a b):a.length<=b.length:=by
 rcases Yj a.length with z|z
 .lia
 .have:=bf (h (a.length-1) _ (Vp (by lia)));lia
open Classical in
def J3(p n:Int):Int:=if h:∃t:Int,0<t/\t<p/\(t*n) % p=1 then h.choose else 0
theorem GR{p n t u:Int}(hp:0<p)(h1:0<t/\t<p/\(t*n) % p=1)(h2:0<u/\u<p/\(u*n) % p=1):t=u:=by
 obtain⟨a1,a2,a3⟩:=h1;obtain⟨b1,b2,b3⟩:=h2;have c1:Cg p (t*n) 1:=⟨t*n / p,by have:=V6 (t*n) p;lia⟩
 have c2:Cg p (u*n) 1:=⟨u*n / p,by have:=V6 (u*n) p;lia⟩
 have c3:Cg p t u:=by
  have e1:Cg p (t*(u*n)) (t*1):=c2.xu t;have e2:Cg p (u*(t*n)) (u*1):=c1.xu u;have e3:t*(u*n)=u*(t*n):=by rw[<-Wt,<-Wt,W7 t u]
  rw[e3,Xg]at e1;rw[Xg]at e2;exact e1.symm.trans e2
 have:=Cg.eq hp c3;rwa [d_ (by lia) a2,d_ (by lia) b2]at this
theorem Cq{p n t:Int}(hp:0<p)(h:0<t/\t<p/\(t*n) % p=1):J3 p n=t:=by unfold J3;rw[dif_pos ⟨t,h⟩];exact GR hp (Exists.choose_spec (p:=fun t:Int=>0<t/\t<p/\(t*n) % p=1) ⟨t,h⟩) h
def aJ(bs:ZX):Int:=bs.getD (bs.length-1) 0
def m?(bs:ZX)(s:Nat)(o:Int)(R:ZX):ZX:=(cV 0 R.length).map fun k=>R.getD k.toNat 0-(if s<=k.toNat then o*bs.getD (k.toNat-s) 0 else 0)
def dv(p c:Int)(as bs:ZX)(steps:Nat):Nat->List Int×List Int
 |0=>(List.replicate steps 0,as)
 |i+1=>((dv p c as bs steps i).1.set (steps-1-i) (((dv p c as bs steps i).2.getD (steps-1-i+bs.length-1) 0*c).fmod p),m? bs (steps-1-i) (((dv p c as bs steps i).2.getD (steps-1-i+bs.length-1) 0*c).fmod p) (dv p c as bs steps i).2)
theorem v_(bs:ZX)(s:Nat)(o:Int)(R:ZX):(m? bs s o R).length=R.length:=by unfold m? cV;rw[Vl,Vl,VQ]
theorem GS(bs:ZX)(s:Nat)(o:Int)(R:ZX)(k:Nat):cf (m? bs s o R) k=if k<R.length then cf R k-(if s<=k then o*cf bs (k-s)else 0)else 0:=by unfold m?;rw[A! R.length (fun k=>R.getD k 0-(if s<=k then o*bs.getD (k-s) 0 else 0))];rfl
theorem xy(p c:Int)(as bs:ZX)(steps:Nat):∀i,(dv p c as bs steps i).1.length=steps/\(dv p c as bs steps i).2.length=as.length
 |0=>⟨VU,rfl⟩
 |i+1=>by have h:=xy p c as bs steps i;unfold dv;exact⟨by rw[Wl];exact h.1,by rw[v_];exact h.2⟩
theorem GU:∀(Q:ZX)(s:Nat)(o:Int)(g:Cf)(k:Nat),s<Q.length->cf Q s=0->mF (Q.set s o) g k=mF Q g k+(if s<=k then o*g (k-s)else 0)
 |[],s,_,_,_,h,_=>by simp at h
 |q::Q,0,o,g,k,_,h0=>by have:q=0:=h0;subst this;rw[Vo,VD (WH _)];show o*g k+gw (mF Q g) k=0*g k+gw (mF Q g) k+o*g (k-0);rw[W6,Nat.sub_zero];lia
 |q::Q,s+1,o,g,k,h,h0=>by
  rw[Vs];show q*g k+gw (mF (Q.set s o) g) k=q*g k+gw (mF Q g) k+_;rw[cC]at h0;have ih:=GU Q s o g;cases k with
  |zero=>rw[VI (by lia)];simp[gw]
  |succ k=>
   show q*g (k+1)+mF (Q.set s o) g k=q*g (k+1)+mF Q g k+_;rw[ih k (by simpa using h) h0];by_cases z:s<=k
   .rw[VD z,VD (by lia),show k+1-(s+1)=k-s by lia];lia
   .rw[VI z,VI (by lia)];lia
theorem y_(g:Cf):∀(n k:Nat),mF (List.replicate n 0) g k=0
 |0,_=>rfl
 |n+1,k=>by rw[Vy];unfold mF;rw[dH (y_ g n)];cases k<;>simp[gw]
theorem oA(n k:Nat):cf (List.replicate n 0) k=0:=by unfold cf;rw[Vx,Wz];split<;>rfl
theorem xA{Q:ZX}{s:Nat}(h:s<Q.length)(o:Int)(k:Nat):cf (Q.set s o) k=if k=s then o else cf Q k:=tW h k
structure aad(p:Int)(as bs:ZX)(steps i:Nat)(Q R:ZX):Prop where
 N_:Q.length=steps
 N!:R.length=as.length
 zero:∀s,s<steps-i->cf Q s=0
 HG:∀s,0<=cf Q s/\cf Q s<p
 eq:∀k,cf as k=mF Q (cf bs) k+cf R k
 gone:∀k,steps-i+bs.length-1<=k->Cg p (cf R k) 0
theorem Lo{p c:Int}(hp:0<p){as bs:ZX}(hb:bs≠[])(hc:(c*aJ bs) % p=1){steps:Nat}(hs:steps=as.length+1-bs.length):∀i,i<=steps->aad p as bs steps i (dv p c as bs steps i).1 (dv p c as bs steps i).2
 |0,_=>⟨VU,rfl,fun s _=>oA _ _,fun s=>by show 0<=cf (List.replicate steps 0) s/\_;rw[show(dv p c as bs steps 0).1=List.replicate steps 0 from rfl,oA];exact⟨Yu _,hp⟩,fun k=>by
   rw[show(dv p c as bs steps 0).1=List.replicate steps 0 from rfl,y_,Xj];rfl,fun k hk=>by
   have Lk:0<bs.length:=Vz.mpr hb;rw[show(dv p c as bs steps 0).2=as from rfl,fg (by lia)];exact Cg.refl p _⟩
 |i+1,hi=>by
  have ih:=Lo hp hb hc hs i (by lia);obtain⟨Q,hQ⟩:∃Q,(dv p c as bs steps i).1=Q:=⟨_,rfl⟩
  obtain⟨R,hR⟩:∃R,(dv p c as bs steps i).2=R:=⟨_,rfl⟩
  obtain⟨o,ho⟩:∃o,(R.getD (steps-1-i+bs.length-1) 0*c).fmod p=o:=⟨_,rfl⟩
  obtain⟨s,O9⟩:∃s,steps-1-i=s:=⟨_,rfl⟩
  rw[hQ,hR]at ih;have e1:(dv p c as bs steps (i+1)).1=Q.set s o:=by unfold dv;rw[hQ,hR,ho,O9]
  have e2:(dv p c as bs steps (i+1)).2=m? bs s o R:=by unfold dv;rw[hR,ho,O9]
  rw[e1,e2];have Lk:0<bs.length:=Vz.mpr hb;have MW:s<Q.length:=by rw[ih.N_];lia
  have ho1:0<=o/\o<p:=by rw[<-ho,dc hp];exact⟨WZ _ (by lia),WD _ hp⟩
  have aae:∀k,as.length<=k->cf R k=0:=fun k hk=>fg (by rw[ih.N!];exact hk);have Rcf:∀k,cf (m? bs s o R) k=cf R k-(if s<=k then o*cf bs (k-s)else 0):=fun k=>by
   rw[GS];split
   .rfl
   .rename_i q;rw[ih.N!]at q;rw[aae k (by lia)];split
    .rw[fg (by lia)];simp
    .rfl
  refine⟨by rw[Wl];exact ih.N_,by rw[v_];exact ih.N!,fun t ht=>?_,fun t=>?_,fun k=>?_,fun k hk=>?_⟩
  .rw[xA MW,VI (by lia)];exact ih.zero t (by lia)
  .rw[xA MW];split
   .exact ho1
   .exact ih.HG t
  .rw[GU Q s o (cf bs) k MW (ih.zero s (by lia)),Rcf,ih.eq k];lia
  .rw[Rcf];by_cases hk2:k=s+bs.length-1
   .subst hk2;rw[VD (by lia),show s+bs.length-1-s=bs.length-1 by lia];have co:Cg p o (cf R (s+bs.length-1)*c):=by rw[<-ho,O9];exact Cg.mod hp _
    have cl:Cg p (c*aJ bs) 1:=⟨c*aJ bs / p,by have:=V6 (c*aJ bs) p;lia⟩
    have c1:Cg p (o*cf bs (bs.length-1)) (cf R (s+bs.length-1)):=by have z:=(co.JY (aJ bs)).trans (by rw[Wt];exact cl.xu (cf R (s+bs.length-1)));rw[Xg]at z;exact z
    have c2:=(Cg.refl p (cf R (s+bs.length-1))).add c1.neg;rw[show cf R (s+bs.length-1) + -cf R (s+bs.length-1)=0 by lia]at c2;rw[show cf R (s+bs.length-1)-o*cf bs (bs.length-1)=cf R (s+bs.length-1) + -(o*cf bs (bs.length-1)) by lia];exact c2
   .rw[show(if s<=k then o*cf bs (k-s)else 0)=0 from by rw[VD (by lia),fg (by lia),We],Int.sub_zero];exact ih.gone k (by lia)
def b?(p:Int)(as bs:ZX):ZX:=b9 ((dv p (J3 p (aJ bs)) as bs (as.length+1-bs.length) (as.length+1-bs.length)).1.map (·.fmod p))
def ko(p:Int)(as bs:ZX):ZX:=b9 ((dv p (J3 p (aJ bs)) as bs (as.length+1-bs.length) (as.length+1-bs.length)).2.map (·.fmod p))
theorem fI{p:Int}(hp:eZ p=true){as bs:ZX}(hb:bs≠[])(hl:¬ aJ bs % p=0):
  Row p (b? p as bs)/\Row p (ko p as bs)/\(ko p as bs).length<bs.length/\a8 p (cf as) (fun k=>mF (b? p as bs) (cf bs) k+cf (ko p as bs) k)/\(b? p as bs).length<=as.length+1-bs.length:=by
 have hr:=aF hp;have gn:0<p:=by lia
 obtain⟨g,t,_,h1,h2,h3⟩:=fR hp hl [];have ei:=Cq gn ⟨h1,h2,h3⟩;have D:=Lo (c:=t) gn (as:=as) hb h3 (steps:=as.length+1-bs.length) rfl (as.length+1-bs.length) (VA _);unfold b? ko;rw[ei];revert D;generalize (dv p t as bs (as.length+1-bs.length) (as.length+1-bs.length)).1=Q;generalize (dv p t as bs (as.length+1-bs.length) (as.length+1-bs.length)).2=R;intro D;have Lk:0<bs.length:=Vz.mpr hb;refine⟨Row.of gn Q,Row.of gn R,?_,?_,?_⟩
 .have:=iY (r? (R.map (·.fmod p))) (n:=bs.length-1) fun k hk=>by rw[xx,pH _ (by rw[dc gn];exact Xk p)];have z:=Cg.eq gn (D.gone k (by lia));rw[z,dc gn];exact Xk p
  lia
 .refine(a8.of_eq D.eq).trans (a8.add ?_ ?_)
  .exact(a8.S5 (Row.cg gn Q) bs).symm
  .exact(Row.cg gn R).symm
 .refine V! (gE _) ?_;rw[Vl,D.N_];exact VA _
theorem jl{bs:ZX}(hb:bs≠[]):L2.jP (bs.map ah.int) (-1)=some (.int (aJ bs)):=by have Lk:0<bs.length:=Vz.mpr hb;unfold L2.jP L2.yt;rw[az,VI (by decide),VD (by lia),Option.bind_some,show(-1+(bs.length:Int)).toNat=bs.length-1 by lia,VG,Vp (by lia)];unfold aJ;rw[Vx,Vp (by lia)];rfl
def yd(a b:Nat)(st s:ag):Prop:=st.length=s.length/\∀(m:Nat)(c:aB),m≠a->m≠b->st[m]?=some c->s[m]?=some c
theorem yd.refl(a b:Nat)(st:ag):yd a b st st:=⟨rfl,fun _ _ _ _ h=>h⟩
theorem yd.trans{a b:Nat}{x y z:ag}(h:yd a b x y)(h':yd a b y z):yd a b x z:=⟨h.1.trans h'.1,fun m c h1 h2 h3=>h'.2 m c h1 h2 (h.2 m c h1 h2 h3)⟩
theorem yd.aaf{a b:Nat}{x y:ag}(h:yd a b x y)(c:aB):yd a b x (y.set a c):=⟨by rw[Wl];exact h.1,fun m k h1 h2 h3=>jk (h.2 m k h1 h2 h3) (fun z=>h1 z.symm)⟩
theorem yd.aag{a b:Nat}{x y:ag}(h:yd a b x y)(c:aB):yd a b x (y.set b c):=⟨by rw[Wl];exact h.1,fun m k h1 h2 h3=>jk (h.2 m k h1 h2 h3) (fun z=>h2 z.symm)⟩
abbrev N?:MB:=vT JD eh (af bU uW Ek) (af bV BW Dq)
theorem Ba{m L K:Nat}{bs R0:ZX}{s:Nat}{o:Int}{st:ag}{x0 x1 x4 x5 x6 x9 x10:Option ah}(lm:st[m]?=some (aq bs))(lL:st[L]?=some (aq R0))(Rt:m≠L)(O_:m≠K)(S_:L≠K)(ho:-(2 ^ 64)<o/\o<2 ^ 64)(hl:s+bs.length<=R0.length):
  ∃(ar:ag)(y9 DW:Option ah),forL (fun cJ=>ak cJ m=some (bs.map ah.int)) (jW [aI 9,aI 10]) N? (kd 0 (bs.map ah.int)) [x0, x1, qL m, qL L, x4, x5, x6, qI s, qI o, x9, x10] st
   = .nx [x0, x1, qL m, qL L, x4, x5, x6, qI s, qI o, y9, DW] ar/\ar[L]?=some (aq (m? bs s o R0))/\yd L K st ar/\∀c,st[K]?=some c->ar[K]?=some c:=by
 obtain⟨μ',ar,e,R,lR,⟨y9,DW,rfl⟩,hR,hv,hF,hK⟩:=cU (g:=fun cJ=>ak cJ m=some (bs.map ah.int)) (a:=jW [aI 9,aI 10]) (body:=N?)
  (fun j μ s'=>∃R:ZX,s'[L]?=some (aq R)/\(∃x9 x10,μ=[x0, x1, qL m, qL L, x4, x5, x6, qI s, qI o, x9, x10])/\R.length=R0.length/\(∀k,R.getD k 0=R0.getD k 0-(if s<=k/\k<s+j then o*bs.getD (k-s) 0 else 0))/\yd L K st s'/\∀c,st[K]?=some c->s'[K]?=some c)
  (kd 0 (bs.map ah.int)) 0 [x0, x1, qL m, qL L, x4, x5, x6, qI s, qI o, x9, x10] st
  (by
   rintro j u μ s' hu ⟨R,lR,⟨x9,x10,rfl⟩,hR,hv,hF,hK⟩;rw[VX]at hv⊢;refine⟨ay (hF.2 m _ Rt O_ lm),?_⟩;obtain⟨w,hw,rfl⟩:=kY _ 0 j u hu;rw[VX];have hj:j<bs.length:=by have:=bf hw;rw[az]at this;exact this
   have ew:w=.int (bs.getD j 0):=by rw[VG,Vp hj]at hw;rw[<-VR hw,Vx,Vp hj];rfl
   subst ew;have hk:s+j<R.length:=by lia
   have gx:=GD (ay lR) (j0 (R:=R) (i:=(s:Int)+(j:Int)) (k:=s+j) (by lia) hk);have sx:=r_ (v:=.int (R.getD (s+j) 0-o*bs.getD j 0)) (k:=(s:Int)+(j:Int)) (j:=s+j) lR (by rw[az];have:=sd hk;rw[show(s:Int)+(j:Int)=((s+j:Nat):Int) by lia];exact this);rw[<-Y!]at sx;refine⟨[x0,x1,some (.loc m),some (.loc L),x4,x5,x6,some (.int s),some (.int o),some (.int j),some (.int (bs.getD j 0))],rfl,[x0, x1, qL m, qL L, x4, x5, x6, qI s, qI o, qI j, qI (bs.getD j 0)],s'.set L (aq (R.set (s+j) (R.getD (s+j) 0-o*bs.getD j 0))),.inl ?_,R.set (s+j) (R.getD (s+j) 0-o*bs.getD j 0),oo lR,⟨_,_,rfl⟩,by rw[Wl];exact hR,fun k=>?_,hF.aaf _,fun c hc=>jk (hK c hc) S_⟩
   .simp only[ao,aD,ax,aM,aw,eM,aP,a9,aK,om,Ci,Rf,Lc,Ld,Le,Lf,N2,gx,gu (i:=o) ho.1 ho.2,sx]
   .rw[tW hk];by_cases Lj:k=s+j
    .subst Lj;rw[VD rfl,hv,VI (by lia),VD (by lia),show s+j-s=j by lia];lia
    .rw[VI Lj,hv];congr 1;by_cases h1:s<=k/\k<s+j
     .rw[VD h1,VD (by lia)]
     .rw[VI h1,VI (by lia)])
  (fun μ s'⟨R,_,_,_,_,hF,_⟩=>ay (hF.2 m _ Rt O_ lm))
  ⟨R0,lL,⟨_,_,rfl⟩,rfl,fun k=>by rw[VI (by lia),Int.sub_zero],yd.refl _ _ _,fun _ h=>h⟩
 refine⟨ar,y9,DW,e,?_,hF,hK⟩;have:R=m? bs s o R0:=by
  rw[Cn (f:=fun k=>R0.getD k 0-(if s<=k then o*bs.getD (k-s) 0 else 0)) hR fun k hk=>?_]
  .rfl
  .rw[hv,VX,jC,az];congr 1;by_cases h1:s<=k
   .by_cases h2:k<s+bs.length
    .rw[VD ⟨h1,h2⟩,VD h1]
    .rw[VI (by lia),VD h1,k9 (by lia),We]
   .rw[VI (by lia),VI h1]
 rw[<-this];exact lR
abbrev Lp:MB:=aC (aO 8 (af bW (af bV (af bN eh (af gP (af bU uW (ai bx (aa cW aj))) b!)) eg) a!)) (aC (vS qm uW BW) (fM (kZ (aa cW aj)) (jW [(aI 9),(aI 10)]) N?))
theorem GV{hi:Int}{n i:Nat}{u:ah}(h:(j' hi n)[i]?=some u):i<n/\u=.int (hi-(i:Int)):=by unfold j' at h;have z!:=bf h;rw[Vl,VQ]at z!;rw[VG,V7 z!]at h;exact⟨z!,(VR h).symm⟩
theorem DX(hi:Int)(n:Nat):(j' hi n).length=n:=by unfold j';rw[Vl,VQ]
theorem Bb{p c:Int}(hp:eZ p=true)(hc:0<c/\c<p){n m L K:Nat}{as bs:ZX}{st:ag}{x5:Option ah}{steps:Nat}(hs:steps=as.length+1-bs.length)(hb:bs≠[])(lm:st[m]?=some (aq bs))(lL:st[L]?=some (aq as))(lK:st[K]?=some (aq (List.replicate steps 0)))(Rt:m≠L)(O_:m≠K)(S_:L≠K)(pf:as.length<=100000)(qH:bs.length<=100000):
  ∃(ar:ag)(y7 y8 y9 DW:Option ah),forL (fun _=>True) (aI 7) Lp (j' ((steps:Int)-1) steps) [qI p, qL n, qL m, qL L, qI c, x5, qL K, qn, qn, qn, qn] st
   = .nx [qI p, qL n, qL m, qL L, qI c, x5, qL K, y7, y8, y9, DW] ar/\yd L K st ar/\ar[K]?=some (aq (dv p c as bs steps steps).1)/\ar[L]?=some (aq (dv p c as bs steps steps).2):=by
 have hr:=aF hp;have hz:=fG hp;have Lk:0<bs.length:=Vz.mpr hb;obtain⟨μ',ar,e,⟨y7,y8,y9,DW,rfl⟩,hF,h1,h2⟩:=cU (g:=fun _=>True) (a:=aI 7) (body:=Lp)
  (fun i μ s'=>(∃y7 y8 y9 DW,μ=[qI p, qL n, qL m, qL L, qI c, x5, qL K, y7, y8, y9, DW])/\yd L K st s'/\s'[K]?=some (aq (dv p c as bs steps i).1)/\s'[L]?=some (aq (dv p c as bs steps i).2))
  (j' ((steps:Int)-1) steps) 0 [qI p, qL n, qL m, qL L, qI c, x5, qL K, qn, qn, qn, qn] st
  (by
   rintro i u μ s' hu ⟨⟨y7,y8,y9,DW,rfl⟩,hF,lQ,lR⟩;rw[VX]at lQ lR⊢;obtain⟨hi,rfl⟩:=GV hu;refine⟨trivial,?_⟩;obtain⟨lq,lr⟩:=xy p c as bs steps i;obtain⟨Q,hQ⟩:∃Q,(dv p c as bs steps i).1=Q:=⟨_,rfl⟩
   obtain⟨R,hR⟩:∃R,(dv p c as bs steps i).2=R:=⟨_,rfl⟩
   obtain⟨s,O9⟩:∃s,steps-1-i=s:=⟨_,rfl⟩
   obtain⟨o,ho⟩:∃o,(R.getD (s+bs.length-1) 0*c).fmod p=o:=⟨_,rfl⟩
   have e1:(dv p c as bs steps (i+1)).1=Q.set s o:=by unfold dv;rw[hQ,hR,O9,ho]
   have e2:(dv p c as bs steps (i+1)).2=m? bs s o R:=by unfold dv;rw[hR,O9,ho]
   rw[hQ]at lQ lq;rw[hR]at lR lr;rw[e1,e2];have es:(steps:Int)-1-(i:Int)=(s:Int):=by lia
   rw[es];have ho1:0<=o/\o<p:=by rw[<-ho,dc (by lia)];exact⟨WZ _ (by lia),WD _ (by lia)⟩
   have lm':=hF.2 m _ Rt O_ lm;obtain⟨LB,HR⟩:∃L:Int,L=(bs.length:Int):=⟨_,rfl⟩
   have kl:bx [.loc m] s'=.ok (.int LB) s':=by rw[a7 (ay lm'),az,HR]
   have gx:=c! (ay lR) (j0 (R:=R) (i:=(s:Int)+LB-1) (k:=s+bs.length-1) (by lia) (by lia));have sx:=r_ (v:=.int o) (k:=(s:Int)) (j:=s) lQ (by rw[az];exact sd (by lia));rw[<-Y!]at sx;have lm2:(s'.set K (aq (Q.set s o)))[m]?=some (aq bs):=jk lm' (fun z=>O_ z.symm);have J4:(s'.set K (aq (Q.set s o)))[L]?=some (aq R):=jk lR (fun z=>S_ z.symm);have lQ2:(s'.set K (aq (Q.set s o)))[K]?=some (aq (Q.set s o)):=oo lQ;obtain⟨cJ,z9,z10,e3,lR3,hF3,hK3⟩:=Ba (m:=m) (L:=L) (K:=K) (bs:=bs) (R0:=R) (s:=s) (o:=o) (x0:=some (.int p)) (x1:=some (.loc n)) (x4:=some (.int c)) (x5:=x5) (x6:=some (.loc K)) (x9:=y9) (x10:=DW) lm2 J4 Rt O_ S_ (by lia) (by lia);refine⟨[some (.int p),some (.loc n),some (.loc m),some (.loc L),some (.int c),x5,some (.loc K),some (.int s),y8,y9,DW],rfl,[qI p, qL n, qL m, qL L, qI c, x5, qL K, qI s, qI o, z9, z10],cJ,.inl ?_,⟨_,_,_,_,rfl⟩,(hF.aag _).trans hF3,hK3 _ lQ2,lR3⟩;have en:=A8 (ay lm2);simp only[ao,aD,aW,ax,aM,aw,aH,av,bM,f7,bc,aG,au,aA,aT,bo,d9,eM,fW,aP,a9,aK,Vo,Vs,Ce,Rc,La,Lb,om,xq,kl,gx,mul_r (j:=c) (by lia) (by lia),bF hz,ho,sx,en,e3])
  (fun _ _ _=>trivial)
  ⟨⟨_,_,_,_,rfl⟩,yd.refl _ _ _,lK,lL⟩
 rw[VX,DX]at h1 h2;exact⟨ar,y7,y8,y9,DW,e,hF,h1,h2⟩
theorem gW{p:Int}(hp:eZ p=true){n m:Nat}{as bs:ZX}{st:ag}(h1:ak st n=some (as.map ah.int))(lm:st[m]?=some (aq bs))(hb:bs≠[])(hl:¬ aJ bs % p=0)(pf:as.length<=100000)(qH:bs.length<=100000):
  ∃ar k1 k2,PM.parted [.int p,.loc n,.loc m] st=.ok (.tup [.loc k1,.loc k2]) ar/\Fr st ar/\st.length<=k1/\st.length<=k2/\k1≠k2/\ar[k1]?=some (aq (b? p as bs))/\ar[k2]?=some (aq (ko p as bs)):=by
 have hr:=aF hp;have hz:=fG hp;have gn:0<p:=by lia
 have Lk:0<bs.length:=Vz.mpr hb;have c1:=ji h1;have hm:=bf lm;obtain⟨g,t,ei,t1,t2,t3⟩:=fR hp hl (st++[aq as]);have et:=Cq gn ⟨t1,t2,t3⟩;have lm1:=aS lm [aq as];have gx:=c! (ay lm1) (jl hb);have F2:Fr st (st++[aq as]++g):=(Fr.app st _).more g;have lL2:=aS (aN st (as.map ah.int)) g;have F2l:=F2.len;have h2l:st.length<(st++[aq as]++g).length:=by rw[Vn,Vn];simp;lia
 obtain⟨s2,jq⟩:∃s,st++[aq as]++g=s:=⟨_,rfl⟩
 rw[jq]at ei F2 lL2 F2l h2l;obtain⟨LA,J5⟩:∃L:Int,L=(as.length:Int):=⟨_,rfl⟩
 obtain⟨LB,HR⟩:∃L:Int,L=(bs.length:Int):=⟨_,rfl⟩
 have k1:bx [.loc n] s2=.ok (.int LA) s2:=by rw[a7 (F2.it h1),az,J5]
 have k2:bx [.loc m] s2=.ok (.int LB) s2:=by rw[a7 (ay (F2 _ _ lm)),az,HR]
 obtain⟨steps,wC⟩:∃s,s=as.length+1-bs.length:=⟨_,rfl⟩
 have S!:(if LA-LB+1>0 then LA-LB+1 else 0)=(steps:Int):=by split<;>lia
 obtain⟨S,hS⟩:∃S:Int,S=(steps:Int):=⟨_,rfl⟩
 rw[<-hS]at S!;have m1:=jZ (st:=s2++[aB.lst [.int 0]]) (n:=s2.length) (us:=[.int 0]) (k:=S) (aN _ _) (by lia) (by lia) (by rw[Vv];simp;lia);rw[qv,show S.toNat=steps by lia]at m1;have F3:Fr s2 (s2++[aB.lst [.int 0]]++[aq (List.replicate steps 0)]):=(Fr.app s2 _).more _;have lK3:=aN (s2++[aB.lst [.int 0]]) ((List.replicate steps 0).map ah.int);have hKl:s2.length<(s2++[aB.lst [.int 0]]).length:=by rw[Vn];simp
 obtain⟨K,hK⟩:∃K,(s2++[aB.lst [.int 0]]).length=K:=⟨_,rfl⟩
 have F3':=F2.trans F3;have lm3:=F3' _ _ lm;have lL3:=F3 _ _ lL2;rw[hK]at m1 lK3 hKl;obtain⟨s3,xB⟩:∃s,s2++[aB.lst [.int 0]]++[aq (List.replicate steps 0)]=s:=⟨_,rfl⟩
 have S?:bV (.loc s2.length) (.int S) (s2++[aB.lst [.int 0]])=.ok (.loc K) s3:=by rw[<-xB];exact m1
 rw[xB]at F3 F3' lK3 lm3 lL3;obtain⟨s4,y7,y8,y9,DW,el,hF4,lQ,lR⟩:=Bb (n:=n) (x5:=some (.int S)) hp ⟨t1,t2⟩ wC hb lm3 lL3 lK3 (by lia) (by lia) (by lia) pf qH;have dw:=N6 (st:=s3) (j:=S-1) (k:=-1) (by lia) (by lia) (by decide) (by decide);rw[show(S-1 - -1).toNat=steps by lia]at dw;rw[<-hS]at el;obtain⟨lq,lr⟩:=xy p t as bs steps steps;have r1:=dR hz (ay lQ) (by rw[lq,Vv];lia);have r2:=dR hz (ay (aS lR [aB.lst ((b9 ((dv p t as bs steps steps).1.map (·.fmod p))).map ah.int)])) (by rw[lr,Vv];lia);have Lq:s2.length<=s4.length:=by rw[<-hF4.1];exact F3.len
 refine⟨s4++[aq (b? p as bs)]++[aq (ko p as bs)],s4.length,(s4++[aB.lst ((b9 ((dv p t as bs steps steps).1.map (·.fmod p))).map ah.int)]).length,?_,?_,by lia,by rw[Vn];lia,by rw[Vn];simp,?_,?_⟩
 .unfold b? ko;rw[et,<-wC];simp only[PM.parted,bI,ao,aD,aW,bt,ax,aM,aw,aH,av,ke,eJ,bY,bM,f7,bc,aG,au,il,c8,aA,fo,ip,aT,bh,bo,d9,eM,fW,aP,a9,aK,Vr,VH,VB,Vu,Vy,Vt,Vo,Vs,Nat.reduceSub,Vk,Vq,Nat.reduceAdd,Vv,Nat.reduceLeDiff,↓reduceIte,JS,A9,c1,gx,jq,ei,k1,k2,S!,S?,dw,el,r1,r2]
 .intro a c ha;have:=bf ha;exact aS (aS (hF4.2 a c (by lia) (by lia) (F3' _ _ ha)) _) _
 .unfold b?;rw[et,<-wC];exact aS (aN _ _) _
 .unfold b? ko;rw[et,<-wC];exact aN _ _
theorem v!{lo:Int}{n i:Nat}{u:ah}(h:(cY lo n)[i]?=some u):i<n/\u=.int (lo+(i:Int)):=by unfold cY at h;have z!:=bf h;rw[Vl,VQ]at z!;rw[VG,V7 z!]at h;exact⟨z!,(VR h).symm⟩
theorem t7(lo:Int)(n:Nat):(cY lo n).length=n:=by unfold cY;rw[Vl,VQ]
theorem Row.sm{p:Int}(hp:eZ p=true){as:ZX}(h:Row p as):Sm as:=fun a ha=>by have:=h.HG a ha;have:=aF hp;lia
theorem jx{p:Int}{k:Nat}{as:ZX}{st:ag}(h:Row p as)(l:st[k]?=some (aq as)):PM.fb [.int p,.loc k] st=.ok (.bl true) (st++[aB.lst []]):=by
 obtain⟨μ1,e1,y2,rfl⟩:=v5 (α:=Unit) (g:=fun cJ=>ak cJ k=some (as.map ah.int)) (a:=aI 2) (body:=ij (g8 (dW (b8 (ai PM.gr (aa cW aj)))) (dW (b8 (s_ Ji ltV dF cW a!)))) (bG (mC (.bl false))) bT) (st:=st) (ay l)
  (fun _ μ=>∃y2,μ=[qI p, qL k, y2]) (fun _ _=>()) (as.map ah.int)
  (by
   rintro u hu _ μ ⟨y2,rfl⟩;obtain⟨a,ha,rfl⟩:=Wc.mp hu;have hr:=h.HG a ha;have d1:decide ((0:Int)<=a)=true:=VW hr.1;have d2:decide (a<p)=true:=VW hr.2;exact⟨[some (.int p),some (.loc k),some (.int a)],rfl,[qI p, qL k, qI a],by simp only[ao,aD,aw,fQ,gm,NN,Gr,xk,aH,av,bJ,bc,aR,aQ,gk,fe,tH,aG,au,aA,bp,bj,fB,yV,aP,aK,Wd,jw,d1,d2],some (.int a),rfl⟩)
  () [qI p, qL k, qn] ⟨_,rfl⟩
 have q:=eq_nil (st:=st++[aB.lst []]) (ay (aS l _)) (ba st []);by_cases he:as=[]
 .have wV:(as.map ah.int).isEmpty=true:=by rw[he];rfl
  rw[wV]at q;simp only[PM.fb,bI,ao,aD,aW,bt,ax,aM,aw,xh,gm,eJ,bY,bJ,f7,aR,aQ,vV,fe,aG,c8,tJ,aT,bp,bh,bj,d9,eu,a9,aK,Vr,VH,VB,Vu,Vy,Vt,Nat.reduceSub,Vk,Vq,Nat.reduceAdd,Wd,Vv,Nat.reduceLeDiff,↓reduceIte,is_list l,cP (ay l),e1,q]
 .have wV:(as.map ah.int).isEmpty=false:=by cases as with|nil=>exact absurd rfl he|cons=>rfl
  rw[wV]at q;have gx:=c! (ay (aS l [aB.lst []])) (jl he);have hz:(aJ as==0)=false:=by have:=tZ h.cut he;simpa[aJ,cf]using this
  simp only[PM.fb,bI,ao,aD,aW,bt,ax,aM,aw,xi,gm,eJ,bY,bJ,f7,bc,aR,aQ,vV,fe,aG,c8,fo,ip,tJ,aT,bp,bh,bj,d9,eu,m_,a9,aK,Vr,VH,VB,Vu,Vy,Vt,Nat.reduceSub,Vk,Vq,Nat.reduceAdd,Wd,Xs,Vv,Nat.reduceLeDiff,↓reduceIte,is_list l,cP (ay l),e1,q,gx,hz]
abbrev N':MB:=aC (aO 6 (af bV (af bN bw eg) (af bN cW j?))) (vS eh (af bU eg j?) (af bW (af bU (af bN eh (af bU eg j?)) qm) a!))
theorem y!{p:Int}(hp:eZ p=true){n m i:Nat}{as bs R0:ZX}{s:ag}{x5 x6:Option ah}(h1:ak s n=some (as.map ah.int))(h2:ak s m=some (bs.map ah.int))(hi:i<as.length)(ha:Sm as)(hl:i+bs.length<=R0.length)(hR0:∀k,0<=cf R0 k/\cf R0 k<p):
  ∃(R:ZX)(y5 y6:Option ah),forL (fun _=>True) (aI 5) N' (cY 0 bs.length) [qI p, qL n, qL m, qL s.length, qI i, x5, x6] (s++[aq R0])
   = .nx [qI p, qL n, qL m, qL s.length, qI i, y5, y6] (s++[aq R])/\R.length=R0.length/\(∀k,0<=cf R k/\cf R k<p)/\∀k,Cg p (cf R k) (cf R0 k+(if i<=k then cf as i*cf bs (k-i)else 0)):=by
 have hr:=aF hp;have hz:=fG hp;obtain⟨μ',ar,e,R,rfl,⟨y5,y6,rfl⟩,hR,hb,hv⟩:=cU (g:=fun _=>True) (a:=aI 5) (body:=N')
  (fun j μ s'=>∃R:ZX,s'=s++[aq R]/\(∃x5 x6,μ=[qI p, qL n, qL m, qL s.length, qI i, x5, x6])/\R.length=R0.length/\(∀k,0<=cf R k/\cf R k<p)/\∀k,Cg p (cf R k) (cf R0 k+(if i<=k/\k<i+j then cf as i*cf bs (k-i)else 0)))
  (cY 0 bs.length) 0 [qI p, qL n, qL m, qL s.length, qI i, x5, x6] (s++[aq R0])
  (by
   rintro j u μ s' hu ⟨R,rfl,⟨x5,x6,rfl⟩,hR,hb,hv⟩;rw[VX]at hv⊢;refine⟨trivial,?_⟩;obtain⟨hj,rfl⟩:=v! hu;rw[Xj];have hk:i+j<R.length:=by lia
   have g1:=c! (bb h1 [aq R]) (j0 (R:=as) (i:=(i:Int)) (k:=i) rfl hi);have g2:=c! (bb h2 [aq R]) (j0 (R:=bs) (i:=(j:Int)) (k:=j) rfl hj);have g3:=c! (ay (aN s (R.map ah.int))) (j0 (R:=R) (i:=(i:Int)+(j:Int)) (k:=i+j) (by lia) hk);have Vh:as.getD i 0∈as:=by rw[Vx,Vp hi];exact Y5 hi
   have sm:=ha _ Vh;obtain⟨v,hvv⟩:∃v,(R.getD (i+j) 0+as.getD i 0*bs.getD j 0).fmod p=v:=⟨_,rfl⟩
   have vr:0<=v/\v<p:=by rw[<-hvv,dc (by lia)];exact⟨WZ _ (by lia),WD _ (by lia)⟩
   have sx:=r_ (v:=.int v) (k:=(i:Int)+(j:Int)) (j:=i+j) (aN s (R.map ah.int)) (by rw[az];have:=sd hk;rw[show(i:Int)+(j:Int)=((i+j:Nat):Int) by lia];exact this);rw[oq,<-Y!]at sx;refine⟨[some (.int p),some (.loc n),some (.loc m),some (.loc s.length),some (.int i),some (.int j),x6],rfl,[qI p, qL n, qL m, qL s.length, qI i, qI j, qI (as.getD i 0*bs.getD j 0)],s++[aq (R.set (i+j) v)],.inl ?_,R.set (i+j) v,rfl,⟨_,_,rfl⟩,by rw[Wl];exact hR,fun k=>?_,fun k=>?_⟩
   .simp only[ao,aD,aW,ax,aM,aw,bM,aT,bo,eM,aP,a9,aK,Vo,Vs,Ce,Rc,La,Lb,om,g1,g2,gu (i:=as.getD i 0) sm.1 sm.2,g3,bF hz,hvv,sx]
   .rw[xA hk];split
    .exact vr
    .exact hb k
   .rw[xA hk];by_cases Lj:k=i+j
    .subst Lj;rw[VD rfl,VD (by lia),show i+j-i=j by lia];have q:=hv (i+j);rw[VI (by lia),W8]at q;refine Cg.trans (b:=R.getD (i+j) 0+as.getD i 0*bs.getD j 0) (by rw[<-hvv];exact Cg.mod (by lia) _) (q.add (Cg.refl p _))
    .rw[VI Lj];have q:=hv k;by_cases h1:i<=k/\k<i+j
     .rw[VD h1]at q;rw[VD (by lia)];exact q
     .rw[VI h1]at q;rw[VI (by lia)];exact q)
  (fun _ _ _=>trivial)
  ⟨R0,rfl,⟨_,_,rfl⟩,rfl,hR0,fun k=>by rw[VI (by lia),W8];exact Cg.refl p _⟩
 rw[VX,t7]at hv;refine⟨R,y5,y6,e,hR,hb,fun k=>(hv k).trans ?_⟩;by_cases h1:i<=k
 .by_cases h2:k<i+bs.length
  .rw[VD ⟨h1,h2⟩,VD h1];exact Cg.refl p _
  .rw[VI (by lia),VD h1,fg (ns:=bs) (by lia),We];exact Cg.refl p _
 .rw[VI (by lia),VI h1];exact Cg.refl p _
theorem fT{p:Int}(hp:eZ p=true){n m:Nat}{as bs:ZX}{st:ag}(h1:ak st n=some (as.map ah.int))(h2:ak st m=some (bs.map ah.int))(ha:Sm as)(pf:as.length<=100000)(qH:bs.length<=100000):
  ∃ar k T,PM.dj [.int p,.loc n,.loc m] st=.ok (.loc k) ar/\Fr st ar/\st.length<=k/\ar[k]?=some (aq T)/\Row p T/\a8 p (cf T) (mF as (cf bs))/\T.length<=as.length+bs.length:=by
 have hr:=aF hp;obtain⟨LA,J5⟩:∃L:Int,L=(as.length:Int):=⟨_,rfl⟩
 obtain⟨LB,HR⟩:∃L:Int,L=(bs.length:Int):=⟨_,rfl⟩
 have kl:∀g:ag,bx [.loc n] (st++g)=.ok (.int LA) (st++g)/\bx [.loc m] (st++g)=.ok (.int LB) (st++g):=fun g=>⟨by rw[a7 (bb h1 g),az,J5],by rw[a7 (bb h2 g),az,HR]⟩
 have m1:=jZ (st:=st++[.lst [.int 0]]) (n:=st.length) (us:=[.int 0]) (k:=LA+LB) (aN _ _) (by lia) (by lia) (by rw[Vv];simp;lia);rw[qv,show(LA+LB).toNat=as.length+bs.length by lia]at m1;have kl1:=kl [aB.lst [.int 0]];have Ru:=fun g2=>kl ([aB.lst [.int 0]]++g2);have JZ:=bb h1 [.lst [.int 0]];have Jx:=bb h2 [.lst [.int 0]];have F1:=Fr.app st [aB.lst [.int 0]];have hle:st.length<=(st++[aB.lst [.int 0]]).length:=F1.len;simp only[<-VO]at Ru;obtain⟨s,hs⟩:∃s,st++[aB.lst [.int 0]]=s:=⟨_,rfl⟩
 rw[hs]at m1 kl1 JZ Jx F1 hle;simp only[hs]at Ru;obtain⟨μ',ar,e,R,rfl,⟨y4,y5,y6,rfl⟩,hR,hb,hv⟩:=cU (g:=fun _=>True) (a:=aI 4) (body:=fM (cK (aa (ai bx (aa cW aj)) aj)) (aI 5) N')
  (fun i μ s'=>∃R:ZX,s'=s++[aq R]/\(∃x4 x5 x6,μ=[qI p, qL n, qL m, qL s.length, x4, x5, x6])/\R.length=as.length+bs.length/\(∀k,0<=cf R k/\cf R k<p)/\∀k,Cg p (cf R k) (k8 as bs i k))
  (cY 0 as.length) 0 [qI p, qL n, qL m, qL s.length, qn, qn, qn] (s++[aq (List.replicate (as.length+bs.length) 0)])
  (by
   rintro i u μ s' hu ⟨R,rfl,⟨x4,x5,x6,rfl⟩,hR,hb,hv⟩;rw[VX]at hv⊢;refine⟨trivial,?_⟩;obtain⟨hi,rfl⟩:=v! hu;rw[Xj];obtain⟨R',z5,z6,e',Vi,hb',hv'⟩:=y! (x5:=x5) (x6:=x6) hp JZ Jx hi ha (R0:=R) (by lia) hb;have rg:=mz (st:=s++[aq R]) (j:=LB) (by lia) (by lia);rw[show LB.toNat=bs.length by lia]at rg;refine⟨[some (.int p),some (.loc n),some (.loc m),some (.loc s.length),some (.int i),x5,x6],rfl,[qI p, qL n, qL m, qL s.length, qI i, z5, z6],s++[aq R'],.inl ?_,R',rfl,⟨_,_,_,rfl⟩,by lia,hb',fun k=>?_⟩
   .have kk:=(Ru [aq R]).2;simp only[ao,aD,aH,av,f7,aG,au,aA,d9,fA,a9,aK,kk,rg,e']
   .exact(hv' k).trans ((hv k).add (Cg.refl p _)))
  (fun _ _ _=>trivial)
  ⟨List.replicate (as.length+bs.length) 0,rfl,⟨_,_,_,rfl⟩,VU,fun k=>by rw[oA];lia,fun k=>by rw[oA];exact Cg.refl p _⟩
 rw[VX,t7]at hv;have lc:=iZ (ay (aN s (R.map ah.int)));have rg:=mz (st:=s++[aq (List.replicate (as.length+bs.length) 0)]) (j:=LA) (by lia) (by lia);rw[show LA.toNat=as.length by lia]at rg;have kk:=(Ru [aq (List.replicate (as.length+bs.length) 0)]).1;refine⟨s++[aq R]++[aq (b9 R)],(s++[aq R]).length,b9 R,?_,(F1.more _).more _,by rw[Vn];lia,aN _ _,⟨r? R,?_⟩,fun k=>?_,?_⟩
 .simp only[PM.dj,bI,ao,aD,aW,bt,ax,aM,aw,aH,av,eJ,bY,bM,f7,bc,aG,au,c8,aA,aT,bh,bo,d9,fA,eM,a9,aK,Vr,VH,VB,Vu,Vy,Vt,Vo,Vs,Nat.reduceSub,Vk,Vq,Nat.reduceAdd,Vv,Nat.reduceLeDiff,↓reduceIte,hs,kl1.1,kl1.2,m1,kk,rg,e,lc]
 .refine xt (P:=fun a=>0<=a/\a<p) fun a ha=>?_;obtain⟨i,hi⟩:=List.mem_iff_getElem?.mp ha;have:=hb i;unfold cf at this;rw[Vx,hi]at this;exact this
 .rw[xx,<-se];exact hv k
 .have:=gE R;lia
theorem sf(as bs:ZX)(f:Int)(k:Nat):cf (f? as bs f) k=cf as k+f*cf bs k:=by
 unfold f?;rw[A! (max as.length bs.length) (fun k=>as.getD k 0+f*bs.getD k 0)];split
 .rfl
 .rw[fg (ns:=as) (by lia),fg (ns:=bs) (by lia),We];rfl
theorem Bc{p:Int}(hp:eZ p=true){n m:Nat}{as bs:ZX}{st:ag}(l1:st[n]?=some (aq as))(l2:st[m]?=some (aq bs))(pf:as.length<=100000)(qH:bs.length<=100000):
  ∃ar k T,PM.oa [.int p,.loc n,.loc m] st=.ok (.loc k) ar/\Fr st ar/\st.length<=k/\ar[k]?=some (aq T)/\Row p T/\a8 p (cf T) (fun k=>cf as k+cf bs k):=by
 have hr:=aF hp;have gn:0<p:=by lia
 obtain⟨LA,J5⟩:∃L:Int,L=(as.length:Int):=⟨_,rfl⟩
 obtain⟨LB,HR⟩:∃L:Int,L=(bs.length:Int):=⟨_,rfl⟩
 obtain⟨W,hW⟩:∃W:Int,W=((max as.length bs.length:Nat):Int):=⟨_,rfl⟩
 have S!:(if LB>LA then LB else LA)=W:=by split<;>lia
 have k1:bx [.loc n] st=.ok (.int LA) st:=by rw[a7 (ay l1),az,J5]
 have k2:bx [.loc m] st=.ok (.int LB) st:=by rw[a7 (ay l2),az,HR]
 -- uY first one,made longer
 have m1:=jZ (st:=st++[aB.lst [.int 0]]) (n:=st.length) (us:=[.int 0]) (k:=W-LA) (aN _ _) (by lia) (by lia) (by rw[Vv];simp;lia);rw[qv]at m1;have k1':bx [.loc n] (st++[aB.lst [.int 0]])=.ok (.int LA) (st++[aB.lst [.int 0]]):=by rw[a7 (ay (aS l1 _)),az,J5]
 have a1:=jY (st:=st++[aB.lst [.int 0]]++[aq (List.replicate (W-LA).toNat 0)]) (n:=n) (m:=(st++[aB.lst [.int 0]]).length) (us:=as.map ah.int) (ws:=(List.replicate (W-LA).toNat (0:Int)).map ah.int) (aS (aS l1 _) _) (aN _ _) (by rw[az,az,VU,Vv];lia);rw[<-Wn]at a1;have F3:Fr st (st++[aB.lst [.int 0]]++[aq (List.replicate (W-LA).toNat 0)]++[aq (as++List.replicate (W-LA).toNat 0)]):=((Fr.app st _).more _).more _;have lA:=aN (st++[aB.lst [.int 0]]++[aq (List.replicate (W-LA).toNat 0)]) ((as++List.replicate (W-LA).toNat 0).map ah.int);obtain⟨s3,xB⟩:∃s,st++[aB.lst [.int 0]]++[aq (List.replicate (W-LA).toNat 0)]++[aq (as++List.replicate (W-LA).toNat 0)]=s:=⟨_,rfl⟩
 obtain⟨K,hK⟩:∃K,(st++[aB.lst [.int 0]]++[aq (List.replicate (W-LA).toNat 0)]).length=K:=⟨_,rfl⟩
 rw[xB,hK]at lA;rw[xB]at F3;have a1':bU (.loc n) (.loc (st++[aB.lst [.int 0]]).length) (st++[aB.lst [.int 0]]++[aB.lst ((List.replicate (W-LA).toNat (0:Int)).map ah.int)])=.ok (.loc K) s3:=by rw[<-hK,<-xB];exact a1
 have l2':=F3 _ _ l2
 -- uY second one
 have m2:=jZ (st:=s3++[aB.lst [.int 0]]) (n:=s3.length) (us:=[.int 0]) (k:=W-LB) (aN _ _) (by lia) (by lia) (by rw[Vv];simp;lia);rw[qv]at m2;have k2':bx [.loc m] (s3++[aB.lst [.int 0]])=.ok (.int LB) (s3++[aB.lst [.int 0]]):=by rw[a7 (ay (aS l2' _)),az,HR]
 have a2:=jY (st:=s3++[aB.lst [.int 0]]++[aq (List.replicate (W-LB).toNat 0)]) (n:=m) (m:=(s3++[aB.lst [.int 0]]).length) (us:=bs.map ah.int) (ws:=(List.replicate (W-LB).toNat (0:Int)).map ah.int) (aS (aS l2' _) _) (aN _ _) (by rw[az,az,VU,Vv];lia);rw[<-Wn]at a2;have F6:Fr s3 (s3++[aB.lst [.int 0]]++[aq (List.replicate (W-LB).toNat 0)]++[aq (bs++List.replicate (W-LB).toNat 0)]):=((Fr.app s3 _).more _).more _;have lB:=aN (s3++[aB.lst [.int 0]]++[aq (List.replicate (W-LB).toNat 0)]) ((bs++List.replicate (W-LB).toNat 0).map ah.int);obtain⟨s6,O!⟩:∃s,s3++[aB.lst [.int 0]]++[aq (List.replicate (W-LB).toNat 0)]++[aq (bs++List.replicate (W-LB).toNat 0)]=s:=⟨_,rfl⟩
 obtain⟨M,hM⟩:∃K,(s3++[aB.lst [.int 0]]++[aq (List.replicate (W-LB).toNat 0)]).length=K:=⟨_,rfl⟩
 rw[O!,hM]at lB;rw[O!]at F6;have a2':bU (.loc m) (.loc (s3++[aB.lst [.int 0]]).length) (s3++[aB.lst [.int 0]]++[aB.lst ((List.replicate (W-LB).toNat (0:Int)).map ah.int)])=.ok (.loc M) s6:=by rw[<-hM,<-O!];exact a2
 have S':=F6 _ _ lA;have le:=GN as bs 1 (k:=(W-LA).toNat) (l:=(W-LB).toNat) (by lia) (by lia);have zz:=GG (ay S') (ay lB);rw[pF]at zz;revert S' lB zz le;generalize as++List.replicate (W-LA).toNat 0=A;generalize bs++List.replicate (W-LB).toNat 0=B;intro lB S' le zz;have hc:=pE (g:=fun cJ=>ak cJ K=some (A.map ah.int)/\ak cJ M=some (B.map ah.int)) (a:=jW [aI 0,aI 1]) (e:=af bW (af bU a! bw) cW) (st:=s6) ⟨ay S',ay lB⟩ (fun τ=>∃x y,τ=[x, y, qI p]) pr (fun(q:Int×Int)=>.int ((q.1+q.2).fmod p)) (A.zip B) [qn, qn, qI p] [] ⟨_,_,rfl⟩ (by
  rintro⟨a,b⟩ _ τ ⟨x,y,rfl⟩;exact⟨_,rfl,⟨_,_,rfl⟩,by simp only[ao,ax,aM,aw,eM,aP,aK,Vo,Vs,bF (fG hp)]⟩)
 have ex:((A.zip B).map fun(q:Int×Int)=>ah.int ((q.1+q.2).fmod p))=(((f? as bs 1).map (·.fmod p))).map ah.int:=by rw[<-le,Wh,Wh];refine Xy fun q _=>?_;show ah.int ((q.1+q.2).fmod p)=ah.int ((q.1+1*q.2).fmod p);rw[Wv]
 rw[Vu,ex]at hc;have gL:je 2 [0] [qI p, qL K, qL M, qI W]=[qn, qn, qI p]:=rfl;have hz:((A.zip B).map pr).length<=16777216:=by have e:=W2 List.length le;rw[Vl,oy]at e;rw[Vl,e];lia
 have lc:=iZ (ay (aN s6 (((f? as bs 1).map (·.fmod p)).map ah.int)));have R0:=Row.of gn (f? as bs 1);refine⟨s6++[aq ((f? as bs 1).map (·.fmod p))]++[aq (b9 ((f? as bs 1).map (·.fmod p)))],(s6++[aq ((f? as bs 1).map (·.fmod p))]).length,b9 ((f? as bs 1).map (·.fmod p)),?_,((F3.trans F6).more _).more _,?_,aN _ _,R0,fun k=>?_⟩
 .simp only[PM.oa,bI,ao,aD,aW,bt,ax,aM,aw,aH,av,eJ,bY,bM,gN,ft,bc,aG,au,c8,aA,aT,bh,bo,dO,tM,fW,aP,a9,aK,Vr,VH,VB,Vu,Vy,Vt,Vo,Vs,Nat.reduceSub,Vk,Vq,Nat.reduceAdd,Vv,Nat.reduceLeDiff,↓reduceIte,A9,k1,k2,S!,k1',m1,a1',k2',m2,a2',zz,gL,hc,VD hz,lc]
 .have:=(F3.trans F6).len;rw[Vn];lia
 .have:=Row.cg gn (f? as bs 1) k;rw[sf,Wv]at this;exact this
theorem GW{st:ag}{a b:Nat}{R:ZX}(h1:st[a]?=some (aq R))(h2:st[b]?=some (aq R)):jL 15 st (.loc a) (.loc b)=some true:=by unfold jL;simp only[vw,ay h1,ay h2];exact jF st 13 _ (fF 13 R)
theorem v?{st:ag}:∀{ls ms:List Nat}{Rs:List (ZX)},cq st ls Rs->cq st ms Rs->g9 (jL 15 st) (ls.map ah.loc) (ms.map ah.loc)=some true
 |[],[],_,_,_=>rfl
 |[],_::_,Rs,h1,h2=>by have:=h1.1;have:=h2.1;simp at *;lia
 |_::_,[],Rs,h1,h2=>by have:=h1.1;have:=h2.1;simp at *;lia
 |l::ls,m::ms,[],h1,_=>by have:=h1.1;simp at this
 |l::ls,m::ms,R::Rs,h1,h2=>by rw[Vr,Vr];unfold g9;rw[GW (h1.2 0 l R rfl rfl) (h2.2 0 m R rfl rfl),v? h1.tail h2.tail];rfl
theorem J7{us:List ah}{st:ag}:gy [.tup us] st=.ok (.loc st.length) (st++[.lst us]):=rfl
theorem cq.nil(st:ag):cq st [] []:=⟨rfl,fun i l R h _=>by simp at h⟩
theorem cq.cons{st:ag}{l:Nat}{ls:List Nat}{R:ZX}{Rs:List (ZX)}(h:st[l]?=some (aq R))(r:cq st ls Rs):cq st (l::ls) (R::Rs):=⟨by rw[Vk,Vk,r.1],fun i l' R' h1 h2=>by
 cases i with
 |zero=>cases h1;cases h2;exact h
 |succ i=>exact r.2 i l' R' h1 h2⟩
theorem cq.two{st:ag}{a b:Nat}{A B:ZX}(h1:st[a]?=some (aq A))(h2:st[b]?=some (aq B)):cq st [a,b] [A,B]:=.cons h1 (.cons h2 (.nil st))
theorem Bd{as bs:ZX}{k:Nat}(h:as.length+bs.length<=k+1):mF as (cf bs) k=0:=by rw[<-se];exact yY as bs k as.length h
theorem bg(as bs:ZX)(k:Nat):cf (cb as bs) k=mF as (cf bs) k:=by
 unfold cb;rw[A! (as.length+bs.length-1) (fun k=>k8 as bs as.length k),se];split
 .rfl
 .rw[Bd (by lia)]
def oB(p:Int)(as bs:ZX):ZX:=if as=[]\/bs=[] then[]else b9 ((cb as bs).map (·.fmod p))
theorem j5(f:Cf)(k:Nat):mF [] f k=0:=rfl
theorem Cr(as:ZX)(k:Nat):mF as (cf []) k=0:=by rw[de];rfl
theorem Cs{p:Int}(hp:0<p)(as bs:ZX):a8 p (cf (oB p as bs)) (mF as (cf bs)):=by
 unfold oB;split
 .rename_i h;rcases h with rfl|rfl
  .exact a8.of_eq fun k=>by rw[ff,j5]
  .exact a8.of_eq fun k=>by rw[ff,Cr]
 .exact(Row.cg hp _).trans (a8.of_eq (bg as bs))
theorem t8(p:Int)(as bs:ZX):(oB p as bs).length<=as.length+bs.length-1/\(as=[]->(oB p as bs).length=0):=by
 unfold oB;split
 .exact⟨by simp,fun _=>rfl⟩
 .rename_i h;refine⟨?_,fun z=>absurd (.inl z) h⟩;refine V! (gE _) ?_;rw[Vl,v8];exact VA _
def vf(p:Int)(as bs:ZX):ZX:=b9 ((f? as bs (-1)).map (·.fmod p))
theorem Ct{p:Int}(hp:0<p)(as bs:ZX):a8 p (cf (vf p as bs)) (fun k=>cf as k-cf bs k):=(Row.cg hp _).trans (a8.of_eq fun k=>by rw[sf];lia)
theorem GX(p:Int)(as bs:ZX):(vf p as bs).length<=max as.length bs.length:=by refine V! (gE _) ?_;rw[Vl,oy];exact VA _
def mulR(p f:Int)(as:ZX):ZX:=b9 ((as.map (· * f)).map (·.fmod p))
theorem sh{p:Int}(hp:0<p)(f:Int)(as:ZX):a8 p (cf (mulR p f as)) (fun k=>f*cf as k):=(Row.cg hp _).trans (a8.of_eq fun k=>by rw[pH (· * f) (W6 f),W7])
theorem k!(p f:Int)(as:ZX):(mulR p f as).length<=as.length:=by refine V! (gE _) ?_;rw[Vl,Vl];exact VA _
theorem a8.sub{p:Int}{f g f' g':Cf}(h:a8 p f g)(h':a8 p f' g'):a8 p (fun k=>f k-f' k) (fun k=>g k-g' k):=fun k=>by have:=(h k).add (h' k).neg;rw[show f k + -f' k=f k-f' k by lia,show g k + -g' k=g k-g' k by lia]at this;exact this
theorem a8.smul{p:Int}{f g:Cf}(c:Int)(h:a8 p f g):a8 p (fun k=>c*f k) (fun k=>c*g k):=fun k=>(h k).xu c
theorem Be(f g:Cf)(as:ZX)(k:Nat):mF as (fun j=>f j-g j) k=mF as f k-mF as g k:=by have h1:=k_ f (fun j => -1*g j) as k;rw[tY,b_ (g:=fun j=>f j-g j) (fun j=>by show f j + -1*g j=f j-g j;lia)]at h1;lia
theorem wa{p:Int}{u u0 q u1:ZX}(h:a8 p (cf u) (fun k=>cf u0 k-mF q (cf u1) k))(A:ZX):a8 p (mF u (cf A)) (fun k=>mF u0 (cf A) k-mF q (mF u1 (cf A)) k):=by refine(a8.of_eq (de u A)).trans ((h.mF A).trans (a8.of_eq fun k=>?_));rw[Be,de A u0,j4 (cf u1) A q,b_ (de A u1)]
theorem DY{p:Int}{u u0 u1:ZX}(h:a8 p (cf u) (fun k=>cf u0 k+cf u1 k))(A:ZX):a8 p (mF u (cf A)) (fun k=>mF u0 (cf A) k+mF u1 (cf A) k):=by refine(a8.of_eq (de u A)).trans ((h.mF A).trans (a8.of_eq fun k=>?_));rw[k_,de A u0,de A u1]
theorem pK{p c:Int}{u u0:ZX}(h:a8 p (cf u) (fun k=>c*cf u0 k))(A:ZX):a8 p (mF u (cf A)) (fun k=>c*mF u0 (cf A) k):=by refine(a8.of_eq (de u A)).trans ((h.mF A).trans (a8.of_eq fun k=>?_));rw[tY,de A u0]
theorem fi(x q A:ZX)(k:Nat):mF (cb x q) (cf A) k=mF x (mF q (cf A)) k:=by rw[de,b_ (bg x q),j4 (cf q) A x,b_ (de A q)]
theorem xC:∀(as bs:ZX),as≠[]->bs≠[]->mF as (cf bs) (as.length-1+(bs.length-1))=aJ as*aJ bs
 |[],_,h,_=>absurd rfl h
 |[a],bs,_,hb=>by
  show a*cf bs (0+(bs.length-1))+gw (fun _=>0) (0+(bs.length-1))=a*aJ bs;rw[VX];have:gw (fun _=>(0:Int)) (bs.length-1)=0:=by cases bs.length-1<;>rfl
  rw[this,W8];rfl
 |a::a'::as,bs,_,hb=>by have Lk:0<bs.length:=Vz.mpr hb;have ih:=xC (a'::as) bs (by simp) hb;show a*cf bs ((a::a'::as).length-1+(bs.length-1))+gw (mF (a'::as) (cf bs)) ((a::a'::as).length-1+(bs.length-1))=_;rw[show(a::a'::as).length-1+(bs.length-1)=((a'::as).length-1+(bs.length-1))+1 by simp;lia];show a*cf bs _+mF (a'::as) (cf bs) ((a'::as).length-1+(bs.length-1))=_;rw[ih,fg (by simp;lia),We,Xj];rfl
theorem Row.last{p:Int}(hp:0<p){as:ZX}(h:Row p as)(hn:as≠[]):0<aJ as/\aJ as<p:=by have h1:=tZ h.cut hn;have h2:=h.Eo hp (as.length-1);have e:aJ as=cf as (as.length-1):=rfl;rw[e];lia
theorem k?{p:Int}(hp:0<p){r x G:ZX}(hr:Row p r)(hG:G≠[])(h1:aJ G=1)(hl:r.length<G.length)(h:a8 p (cf r) (mF x (cf G))):r=[]:=by
 have hG0:0<G.length:=Vz.mpr hG;have hX:=Row.of hp x;have cX:=Row.cg hp x;have h':a8 p (cf r) (mF (b9 (x.map (·.fmod p))) (cf G)):=h.trans (a8.S5 cX G).symm;revert hX h';generalize b9 (x.map (·.fmod p))=X;intro hX h';by_cases hXe:X=[]
 .subst hXe;exact Row.ext hp hr (Row.nil p) (h'.trans (a8.of_eq fun k=>by rw[ff,j5]))
 .exfalso;have t:=xC X G hXe hG;rw[h1,Xg]at t;have q:=h' (X.length-1+(G.length-1));rw[t,fg (by lia)]at q;have e:=Cg.eq hp q;have l:=hX.last hp hXe;rw[d_ (by lia) l.2,d_ (Yu _) hp]at e;lia
structure iq(p:Int)(A B:ZX)(N:Nat)(g0 u0 v0 g1 u1 v1:ZX):Prop where
 r0:Row p g0
 ru0:Row p u0
 rv0:Row p v0
 r1:Row p g1
 ru1:Row p u1
 rv1:Row p v1
 c0:a8 p (cf g0) (fun k=>mF u0 (cf A) k+mF v0 (cf B) k)
 c1:a8 p (cf g1) (fun k=>mF u1 (cf A) k+mF v1 (cf B) k)
 ne:g0≠[]\/g1≠[]
 mA:∃x0 x1,a8 p (cf A) (fun k=>mF x0 (cf g0) k+mF x1 (cf g1) k)
 mB:∃x0 x1,a8 p (cf B) (fun k=>mF x0 (cf g0) k+mF x1 (cf g1) k)
 Oa:u1.length+g0.length<=N
 Ta:v1.length+g0.length<=N
 Rv:u0.length+g1.length<=N
 Tb:v0.length+g1.length<=N
theorem si{p:Int}(hp:2<=p):Row p [1]:=⟨rfl,fun a h=>by rw[VY.mp h];lia⟩
theorem iq.start{p:Int}(hp:2<=p){A B:ZX}(hA:Row p A)(hB:Row p B)(hn:A≠[]\/B≠[]):iq p A B (A.length+B.length+1) A [1] [] B [] [1] where
 r0:=hA
 ru0:=si hp
 rv0:=Row.nil p
 r1:=hB
 ru1:=Row.nil p
 rv1:=si hp
 c0:=a8.of_eq fun k=>by rw[j5,de];show _=mF A one k+0;rw[eO];lia
 c1:=a8.of_eq fun k=>by rw[j5,de];show _=0+mF B one k;rw[eO];lia
 ne:=hn
 mA:=⟨[1],[],a8.of_eq fun k=>by rw[j5,de];show _=mF A one k+0;rw[eO];lia⟩
 mB:=⟨[],[1],a8.of_eq fun k=>by rw[j5,de];show _=0+mF B one k;rw[eO];lia⟩
 Oa:=by simp;lia
 Ta:=by simp;lia
 Rv:=by simp;lia
 Tb:=by simp;lia
theorem comb{p:Int}{C g0 q g1 r x0 x1:ZX}(h:a8 p (cf C) (fun k=>mF x0 (cf g0) k+mF x1 (cf g1) k))(hd:a8 p (cf g0) (fun k=>mF q (cf g1) k+cf r k)):∃y0 y1,a8 p (cf C) (fun k=>mF y0 (cf g1) k+mF y1 (cf r) k):=by refine⟨f? (cb x0 q) x1 1,x0,h.trans ?_⟩;have e1:a8 p (mF x0 (cf g0)) (fun k=>mF x0 (mF q (cf g1)) k+mF x0 (cf r) k):=(hd.mF x0).trans (a8.of_eq fun k=>by rw[k_]);have e2:a8 p (mF (f? (cb x0 q) x1 1) (cf g1)) (fun k=>mF (cb x0 q) (cf g1) k+mF x1 (cf g1) k):=DY (a8.of_eq fun k=>by rw[sf];lia) g1;refine(a8.add e1 (a8.refl p _)).trans ?_;refine a8.trans ?_ (a8.add e2 (a8.refl p _)).symm;refine a8.of_eq fun k=>?_;show mF x0 (mF q (cf g1)) k+mF x0 (cf r) k+mF x1 (cf g1) k=mF (cb x0 q) (cf g1) k+mF x1 (cf g1) k+mF x0 (cf r) k;rw[fi];lia
theorem GY(p:Int)(as bs:ZX):(ko p as bs).length<=as.length:=by unfold ko;refine V! (gE _) ?_;rw[Vl,(xy _ _ _ _ _ _).2];exact VA _
theorem iq.step{p:Int}(hp:eZ p=true){A B:ZX}{N:Nat}{g0 u0 v0 g1 u1 v1:ZX}(h:iq p A B N g0 u0 v0 g1 u1 v1)(hg:g1≠[]):
  iq p A B N g1 u1 v1 (ko p g0 g1) (vf p u0 (oB p (b? p g0 g1) u1)) (vf p v0 (oB p (b? p g0 g1) v1)):=by
 have hr:=aF hp;have gn:0<p:=by lia
 have hl:¬ aJ g1 % p=0:=by have:=h.r1.last gn hg;rw[V? (by lia) this.2];lia
 obtain⟨sq,sr,slt,sc,sl⟩:=fI hp (as:=g0) hg hl;have srl:=GY p g0 g1;obtain⟨Q,hQ⟩:∃Q,b? p g0 g1=Q:=⟨_,rfl⟩
 obtain⟨R,hR⟩:∃R,ko p g0 g1=R:=⟨_,rfl⟩
 rw[hQ]at sq sc sl⊢;rw[hR]at sr slt sc srl⊢;have cu:a8 p (cf (vf p u0 (oB p Q u1))) (fun k=>cf u0 k-mF Q (cf u1) k):=(Ct gn _ _).trans (a8.sub (a8.refl p _) (Cs gn Q u1));have cv:a8 p (cf (vf p v0 (oB p Q v1))) (fun k=>cf v0 k-mF Q (cf v1) k):=(Ct gn _ _).trans (a8.sub (a8.refl p _) (Cs gn Q v1));have len:∀(w0 w1:ZX),w1.length+g0.length<=N->w0.length+g1.length<=N->(vf p w0 (oB p Q w1)).length+g1.length<=N:=fun w0 w1 i1 i2=>by
  have a1:=GX p w0 (oB p Q w1);have a2:=t8 p Q w1;by_cases hQe:Q=[]
  .have:=a2.2 hQe;lia
  .have:0<Q.length:=Vz.mpr hQe;have:=a2.1;lia
 refine⟨h.r1,h.ru1,h.rv1,sr,Row.of gn _,Row.of gn _,h.c1,?_,.inl hg,?_,?_,len u0 u1 h.Oa h.Rv,len v0 v1 h.Ta h.Tb,?_,?_⟩
 ·-- uY rest
  have e:a8 p (cf R) (fun k=>cf g0 k-mF Q (cf g1) k):=fun k=>by have:=(sc k).symm.add (Cg.refl p (-(mF Q (cf g1) k)));rw[show mF Q (cf g1) k+cf R k + -mF Q (cf g1) k=cf R k by lia,show cf g0 k + -mF Q (cf g1) k=cf g0 k-mF Q (cf g1) k by lia]at this;exact this
  refine e.trans ((a8.sub h.c0 (h.c1.mF Q)).trans ?_);refine a8.trans ?_ (a8.add (wa cu A) (wa cv B)).symm;refine a8.of_eq fun k=>?_;show mF u0 (cf A) k+mF v0 (cf B) k-mF Q (fun k=>mF u1 (cf A) k+mF v1 (cf B) k) k=mF u0 (cf A) k-mF Q (mF u1 (cf A)) k+(mF v0 (cf B) k-mF Q (mF v1 (cf B)) k);rw[k_];lia
 .obtain⟨x0,x1,hx⟩:=h.mA;exact comb hx sc
 .obtain⟨x0,x1,hx⟩:=h.mB;exact comb hx sc
 .have:=h.Oa;lia
 .have:=h.Ta;lia
theorem lh{p t:Int}(hp:2<=p){g:ZX}(hg:Row p g)(hn:g≠[])(ht:(t*aJ g) % p=1):Row p (mulR p t g)/\mulR p t g≠[]/\aJ (mulR p t g)=1/\(mulR p t g).length=g.length:=by
 have gn:0<p:=by lia
 have hg0:0<g.length:=Vz.mpr hn;have r:=Row.of gn (g.map (· * t));have c:cf (mulR p t g) (g.length-1)=1:=by unfold mulR;rw[xx,pH _ (by rw[dc gn];exact Xk p),pH (· * t) (W6 t),dc gn,W7];exact ht
 have l1:=k! p t g;have l2:¬ (mulR p t g).length<=g.length-1:=fun z=>by rw[fg z]at c;lia
 have l:(mulR p t g).length=g.length:=by lia
 refine⟨r,fun z=>by rw[z]at l;simp at l;lia,?_,l⟩;show cf (mulR p t g) ((mulR p t g).length-1)=1;rw[l];exact c
theorem iq.done{p t:Int}(hp:eZ p=true){A B:ZX}{N:Nat}{g u v u1 v1:ZX}(h:iq p A B N g u v [] u1 v1)(hA:Row p A)(hB:Row p B)(ht:(t*aJ g) % p=1):
  Row p (mulR p t g)/\mulR p t g≠[]/\aJ (mulR p t g)=1/\a8 p (cf A) (mF (b? p A (mulR p t g)) (cf (mulR p t g)))/\a8 p (cf B) (mF (b? p B (mulR p t g)) (cf (mulR p t g))) /\
   a8 p (cf (mulR p t g)) (fun k=>mF (mulR p t u) (cf A) k+mF (mulR p t v) (cf B) k):=by
 have hr:=aF hp;have gn:0<p:=by lia
 have hg:g≠[]:=by rcases h.ne with z|z;exact z;exact absurd rfl z
 obtain⟨rG,nG,lG,leG⟩:=lh hr.1 h.r0 hg ht;have cG:=sh gn t g;have hl:¬ aJ (mulR p t g) % p=0:=by rw[lG,V? (by lia) (by lia)];lia
 have one:∀C:ZX,Row p C->(∃x0 x1,a8 p (cf C) (fun k=>mF x0 (cf g) k+mF x1 (cf []) k))->a8 p (cf C) (mF (b? p C (mulR p t g)) (cf (mulR p t g))):=fun C hC hx=>by
  obtain⟨x0,x1,hx⟩:=hx;obtain⟨sq,sr,slt,sc,sl⟩:=fI hp (as:=C) nG hl
  -- g is a Rw of uY plain one
  have cg:a8 p (cf g) (fun k=>aJ g*cf (mulR p t g) k):=fun k=>by
   have c1:Cg p (t*aJ g) 1:=⟨t*aJ g / p,by have:=V6 (t*aJ g) p;lia⟩
   have c2:=(cG k).xu (aJ g);have c3:=c1.JY (cf g k);rw[Wv,show t*aJ g*cf g k=aJ g*(t*cf g k) by rw[<-Wt,W7 (aJ g) t]]at c3;exact(c2.trans c3).symm
  have cx:a8 p (cf C) (mF (x0.map (aJ g * ·)) (cf (mulR p t g))):=by refine hx.trans ?_;have e1:a8 p (mF x0 (cf g)) (fun k=>aJ g*mF x0 (cf (mulR p t g)) k):=(cg.mF x0).trans (a8.of_eq fun k=>by rw[tY]);have e2:a8 p (mF (x0.map (aJ g * ·)) (cf (mulR p t g))) (fun k=>aJ g*mF x0 (cf (mulR p t g)) k):=pK (a8.of_eq fun k=>by rw[pH (aJ g * ·) (We _)]) _;refine a8.trans ?_ e2.symm;refine a8.trans ?_ e1;exact a8.of_eq fun k=>by show mF x0 (cf g) k+mF x1 (cf []) k=_;rw[Cr,W8]
  have cr:a8 p (cf (ko p C (mulR p t g))) (mF (f? (x0.map (aJ g * ·)) (b? p C (mulR p t g)) (-1)) (cf (mulR p t g))):=by
   have e3:a8 p (mF (f? (x0.map (aJ g * ·)) (b? p C (mulR p t g)) (-1)) (cf (mulR p t g))) (fun k=>mF (x0.map (aJ g * ·)) (cf (mulR p t g)) k-mF (b? p C (mulR p t g)) (cf (mulR p t g)) k):=by refine(a8.of_eq (de _ _)).trans (a8.of_eq fun k=>?_);rw[b_ (g:=fun j=>cf (x0.map (aJ g * ·)) j-cf (b? p C (mulR p t g)) j) (fun j=>by rw[sf];lia),Be,de _ (x0.map _),de _ (b? p C _)]
   refine a8.trans (fun k=>?_) e3.symm;have:=((sc k).symm.trans (cx k)).add (Cg.refl p (-(mF (b? p C (mulR p t g)) (cf (mulR p t g)) k)));rw[show mF (b? p C (mulR p t g)) (cf (mulR p t g)) k+cf (ko p C (mulR p t g)) k + -mF (b? p C (mulR p t g)) (cf (mulR p t g)) k=cf (ko p C (mulR p t g)) k by lia]at this;show Cg p _ (mF (x0.map (aJ g * ·)) (cf (mulR p t g)) k-mF (b? p C (mulR p t g)) (cf (mulR p t g)) k);rw[show mF (x0.map (aJ g * ·)) (cf (mulR p t g)) k-mF (b? p C (mulR p t g)) (cf (mulR p t g)) k=mF (x0.map (aJ g * ·)) (cf (mulR p t g)) k + -mF (b? p C (mulR p t g)) (cf (mulR p t g)) k by lia];exact this
  have z:=k? gn sr nG lG slt cr;rw[z]at sc;exact sc.trans (a8.of_eq fun k=>by show mF _ _ k+cf [] k=_;rw[ff,W8])
 refine⟨rG,nG,lG,one A hA h.mA,one B hB h.mB,?_⟩;refine cG.trans ((h.c0.smul t).trans ?_);refine a8.trans ?_ (a8.add (pK (sh gn t u) A) (pK (sh gn t v) B)).symm;exact a8.of_eq fun k=>by show t*(mF u (cf A) k+mF v (cf B) k)=_;rw[Xh]
def ic(f:Cf):Cf:=fun k=>((k:Int)+1)*f (k+1)
theorem Ob(h:Cf)(k:Nat):ic (gw h) k=h k+gw (ic h) k:=by
 unfold ic;cases k with
 |zero=>simp[gw]
 |succ k=>
  show(((k+1:Nat):Int)+1)*h (k+1)=h (k+1)+((k:Int)+1)*h (k+1);rw[Yv,Wv]
  push_cast
  lia
def qR:ZX->ZX->ZX
 |[],bs=>bs
 |a::as,[]=>a::as
 |a::as,b::bs=>(a+b)::qR as bs
theorem jm(g:Cf):∀(as bs:ZX)(k:Nat),mF (qR as bs) g k=mF as g k+mF bs g k
 |[],bs,k=>by show mF bs g k=mF [] g k+mF bs g k;rw[j5,Xj]
 |a::as,[],k=>by show mF (a::as) g k=mF (a::as) g k+mF [] g k;rw[j5,W8]
 |a::as,b::bs,k=>by show(a+b)*g k+gw (mF (qR as bs) g) k=(a*g k+gw (mF as g) k)+(b*g k+gw (mF bs g) k);rw[dH (jm g as bs),xw,Yv];lia
theorem oC(g:Cf)(c:Int):∀(as:ZX)(k:Nat),mF (as.map (c * ·)) g k=c*mF as g k
 |[],k=>by show(0:Int)=c*0;rw[We]
 |a::as,k=>by show(c*a)*g k+gw (mF (as.map (c * ·)) g) k=c*(a*g k+gw (mF as g) k);rw[dH (oC g c as),Co,Xh,Wt]
def dL:ZX->ZX
 |[]=>[]
 |_::as=>qR as (0::dL as)
theorem y?(g:Cf):∀(as:ZX)(k:Nat),ic (mF as g) k=mF as (ic g) k+mF (dL as) g k
 |[],k=>by show((k:Int)+1)*0=0+0;rw[We];rfl
 |a::as,k=>by
  have e1:ic (mF (a::as) g) k=a*ic g k+ic (gw (mF as g)) k:=by show((k:Int)+1)*(a*g (k+1)+gw (mF as g) (k+1))=a*(((k:Int)+1)*g (k+1))+((k:Int)+1)*gw (mF as g) (k+1);rw[Xh,<-Wt,<-Wt,W7 _ a]
  rw[e1,Ob,dH (y? g as),xw];show a*ic g k+(mF as g k+(gw (mF as (ic g)) k+gw (mF (dL as) g) k))=(a*ic g k+gw (mF as (ic g)) k)+mF (qR as (0::dL as)) g k;rw[jm];show _=_+(mF as g k+(0*g k+gw (mF (dL as) g) k));rw[W6];lia
theorem J8(c:Int)(f:Cf)(k:Nat):mF [c] f k=c*f k:=by show c*f k+gw (mF [] f) k=_;cases k<;>simp[gw,mF]
theorem a8.ic{p:Int}{f g:Cf}(h:a8 p f g):a8 p (PG.ic f) (PG.ic g):=fun k=>(h (k+1)).xu _
theorem lj(as:ZX)(k:Nat):cf (dC as) k=ic (cf as) k:=by
 unfold dC ic cf cV;rw[Vx,VG,VG];by_cases h:k<as.length-1
 .rw[V7 h];show(1+(k:Int))*as.getD (1+(k:Int)).toNat 0=((k:Int)+1)*as.getD (k+1) 0;rw[show(1+(k:Int)).toNat=k+1 by lia,Int.add_comm]
 .rw[VZ (by rw[VQ];lia)];show(0:Int)=((k:Int)+1)*as.getD (k+1) 0;rw[Vx,VZ (by lia)];show(0:Int)=((k:Int)+1)*0;rw[We]
def Dvd(p:Int)(U:ZX)(f:Cf):Prop:=∃x:ZX,a8 p f (mF x (cf U))
section
variable{p:Int}{U:ZX}{f g:Cf}
theorem Dvd.cg(h:Dvd p U f)(e:a8 p g f):Dvd p U g:=let⟨x,hx⟩:=h;⟨x,e.trans hx⟩
theorem Dvd.add(h:Dvd p U f)(k:Dvd p U g):Dvd p U (fun j=>f j+g j):=by obtain⟨x,hx⟩:=h;obtain⟨y,hy⟩:=k;exact⟨qR x y,(hx.add hy).trans (a8.of_eq fun j=>(jm (cf U) x y j).symm)⟩
theorem Dvd.mul(h:Dvd p U f)(y:ZX):Dvd p U (mF y f):=by obtain⟨x,hx⟩:=h;exact⟨cb y x,(hx.mF y).trans (a8.of_eq fun j=>(fi y x U j).symm)⟩
theorem Dvd.neg(h:Dvd p U f):Dvd p U (fun j => -1*f j):=by obtain⟨x,hx⟩:=h;exact⟨x.map ((-1) * ·),(hx.smul (-1)).trans (a8.of_eq fun j=>(oC (cf U) (-1) x j).symm)⟩
theorem Dvd.self(y:ZX):Dvd p U (mF y (cf U)):=⟨y,a8.refl _ _⟩
theorem Dvd.sub(h:Dvd p U (fun j=>f j+g j))(k:Dvd p U g):Dvd p U f:=(h.add k.neg).cg (a8.of_eq fun j=>by lia)
end
theorem J9{p:Int}(hp:0<p){F z:ZX}(hF:F≠[])(h1:aJ F=1)(h:a8 p (mF F (cf z)) (fun _=>0)):a8 p (cf z) (fun _=>0):=by
 obtain⟨r,hr⟩:∃r,r=b9 (z.map (·.fmod p)):=⟨_,rfl⟩
 have R:Row p r:=by rw[hr];exact Row.of hp z
 have e:a8 p (cf r) (cf z):=by rw[hr];exact Row.cg hp z
 by_cases hz:r=[]
 .rw[hz]at e;exact e.symm.trans (a8.of_eq fun k=>ff k)
 .exfalso;have t:=xC F r hF hz;have c:=((e.mF F).trans h) (F.length-1+(r.length-1))
  rw[t,h1,Wv]at c;have lr:=R.last hp hz;obtain⟨k,hk⟩:=c;have:k=0:=by
   rcases Zv k 0 with q|q|q
   .have:=V9 (show k<=-1 by lia) (Int.le_of_lt hp);lia
   .exact q
   .have:=V9 (show 1<=k by lia) (Int.le_of_lt hp);lia
  rw[this]at hk;lia
theorem xD{p:Int}(hp:0<p){F y z:ZX}(hF:F≠[])(h1:aJ F=1)(h:a8 p (mF F (cf y)) (mF F (cf z))):a8 p (cf y) (cf z):=by
 obtain⟨w,hw⟩:∃w,w=qR y (z.map ((-1) * ·)):=⟨_,rfl⟩
 have cw:∀k,cf w k=cf y k-cf z k:=fun k=>by have:=jm one y (z.map ((-1) * ·)) k;rw[oC,eO,eO,eO,<-hw]at this;rw[this];lia
 have h0:a8 p (mF F (cf w)) (fun _=>0):=by refine(a8.of_eq (b_ cw F)).trans ((a8.of_eq fun k=>Be (cf y) (cf z) F k).trans ?_);exact(h.sub (a8.refl p (mF F (cf z)))).trans (a8.of_eq fun k=>by lia)
 have e:=J9 hp hF h1 h0;intro k;have:=e k;rw[cw]at this;obtain⟨j,hj⟩:=this;have hj:cf y k-cf z k=0+p*j:=hj;exact⟨j,by lia⟩
theorem GZ{p:Int}{f S W U:ZX}(h1:a8 p (cf f) (mF S (cf U)))(h2:a8 p (ic (cf f)) (mF W (cf U))):Dvd p U (mF S (ic (cf U))):=by have e:a8 p (mF W (cf U)) (fun k=>mF S (ic (cf U)) k+mF (dL S) (cf U) k):=h2.symm.trans (h1.ic.trans (a8.of_eq fun k=>y? (cf U) S k));exact Dvd.sub ((Dvd.self W).cg e.symm) (Dvd.self (dL S))
theorem a8.mFL{p:Int}{as O8:ZX}(h:a8 p (cf as) (cf O8))(z:ZX):a8 p (PG.mF as (cf z)) (PG.mF O8 (cf z)):=h.S5 z
theorem J_{p:Int}(hp:0<p){S U F P V a b:ZX}(hF:F≠[])(l1:aJ F=1)(hS:a8 p (cf S) (mF P (cf F)))(hU:a8 p (cf U) (mF V (cf F)))(hB:a8 p (cf F) (fun k=>mF a (cf S) k+mF b (cf U) k))(h:Dvd p U (mF S (ic (cf U)))):Dvd p V (mF F (ic (cf V))):=by
 obtain⟨D,hD⟩:∃D,D=dC V:=⟨_,rfl⟩
 have cD:∀k,cf D k=ic (cf V) k:=fun k=>by rw[hD];exact lj V k
 -- U is F times V,and aV Rx
 have hU':a8 p (cf U) (mF F (cf V)):=hU.trans (a8.of_eq fun k=>de V F k);have hd:a8 p (ic (cf U)) (fun k=>mF F (cf D) k+mF (dL F) (cf V) k):=hU'.ic.trans (a8.of_eq fun k=>by rw[y?,b_ cD]);obtain⟨E,hE⟩:∃E,E=qR (cb F D) (cb (dL F) V):=⟨_,rfl⟩
 have cE:∀k,cf E k=mF F (cf D) k+mF (dL F) (cf V) k:=fun k=>by have:=jm one (cb F D) (cb (dL F) V) k;rw[eO,eO,eO,<-hE,bg,bg]at this;exact this
 have hdE:a8 p (ic (cf U)) (cf E):=hd.trans (a8.of_eq fun k=>(cE k).symm);obtain⟨x,hx⟩:=h
 -- F times (P times E) is F times (x times V)
 have hSP:a8 p (cf S) (cf (cb P F)):=hS.trans (a8.of_eq fun k=>(bg P F k).symm);have e1:a8 p (mF S (ic (cf U))) (mF F (cf (cb P E))):=by refine(hdE.mF S).trans ((hSP.mFL E).trans (a8.of_eq fun k=>?_));rw[fi P F E,j4 (cf E) P F,b_ (fun j=>(bg P E j).symm) F]
 have e2:a8 p (mF x (cf U)) (mF F (cf (cb x V))):=by refine(hU'.mF x).trans (a8.of_eq fun k=>?_);rw[j4 (cf V) x F,b_ (fun j=>(bg x V j).symm) F]
 have e3:a8 p (cf (cb P E)) (cf (cb x V)):=xD hp hF l1 (e1.symm.trans (hx.trans e2))
 -- so V divides P times F times V's Rx
 have e4:a8 p (fun k=>mF P (mF F (cf D)) k+mF P (mF (dL F) (cf V)) k) (mF x (cf V)):=by refine a8.trans (a8.of_eq fun k=>?_) (e3.trans (a8.of_eq fun k=>bg x V k));rw[bg,b_ cE P,k_]
 have d1:Dvd p V (mF P (mF F (cf D))):=Dvd.sub ((Dvd.self x).cg e4) ((Dvd.self (dL F)).mul P)
 -- one of P and V
 have e5:a8 p (cf [1]) (cf (qR (cb a P) (cb b V))):=by
  refine xD hp hF l1 ?_;have q:a8 p (cf F) (fun k=>mF a (mF P (cf F)) k+mF b (mF V (cf F)) k):=hB.trans ((hS.mF a).add (hU.mF b));refine a8.trans (a8.of_eq fun k=>de F [1] k) (a8.trans (a8.of_eq fun k=>?_) (q.trans (a8.of_eq fun k=>?_)))
  .rw[J8,Wv]
  .rw[de F,jm,fi,fi]
 have e6:a8 p (mF F (cf D)) (fun k=>mF a (mF P (mF F (cf D))) k+mF b (mF V (mF F (cf D))) k):=by
  obtain⟨Z,hZ⟩:∃Z,Z=cb F D:=⟨_,rfl⟩
  have cZ:∀k,cf Z k=mF F (cf D) k:=fun k=>by rw[hZ];exact bg F D k
  have q:=e5.mFL Z;refine a8.trans (a8.of_eq fun k=>?_) (q.trans (a8.of_eq fun k=>?_))
  .rw[<-cZ,J8,Wv]
  .rw[jm,fi,fi];have c1:∀(y:ZX)(j:Nat),mF y (cf Z) j=mF y (mF F (cf D)) j:=fun y j=>b_ cZ y j;rw[b_ (c1 P) a,b_ (c1 V) b]
 have d2:Dvd p V (mF V (mF F (cf D))):=by refine⟨cb F D,a8.of_eq fun k=>?_⟩;rw[fi F D V,j4 (cf D) V F];exact b_ (fun j=>de V D j) F k
 have d3:=(d1.mul a).add (d2.mul b);exact(d3.cg e6).cg (a8.of_eq fun k=>(b_ cD F k).symm)
theorem Oc{p c:Int}(hp:eZ p=true){U:ZX}(hU:Row p U)(nU:U≠[])(l1:aJ U=1)(hc:¬ c % p=0)(h:Dvd p U (mF [c] (ic (cf U)))):((U.length:Int)-1) % p=0:=by
 have hr:=aF hp;have gn:0<p:=by lia
 obtain⟨_,t,_,_,_,ht⟩:=fR hp hc [];obtain⟨r,hrr⟩:∃r,r=b9 ((dC U).map (·.fmod p)):=⟨_,rfl⟩
 have R:Row p r:=by rw[hrr];exact Row.of gn _
 have cr:a8 p (cf r) (ic (cf U)):=by rw[hrr];exact(Row.cg gn _).trans (a8.of_eq (lj U))
 have lu:0<U.length:=Vz.mpr nU;have lr:r.length<U.length:=by
  have h1:=gE ((dC U).map (·.fmod p));have h2:(dC U).length=U.length-1:=by unfold dC cV;rw[Vl,Vl,VQ]
  rw[<-hrr,Vl]at h1;lia
 obtain⟨x,hx⟩:=h;have e1:a8 p (fun k=>t*(c*ic (cf U) k)) (mF (x.map (t * ·)) (cf U)):=(a8.smul t (a8.trans (a8.of_eq fun k=>(J8 c (ic (cf U)) k).symm) hx)).trans (a8.of_eq fun k=>(oC (cf U) t x k).symm);have e2:a8 p (ic (cf U)) (fun k=>t*(c*ic (cf U) k)):=fun k=>by
  have q:Cg p (t*c) 1:=⟨(t*c) / p,by have:=V6 (t*c) p;lia⟩
  have:=q.JY (ic (cf U) k);rw[Wv,Wt]at this;exact this.symm
 have rn:=k? gn R nU l1 lr (cr.trans (e2.trans e1));rw[rn]at cr;by_cases hU1:U.length=1
 .rw[hU1];rfl
 .have q:=cr (U.length-2);rw[ff]at q;have e3:ic (cf U) (U.length-2)=((U.length:Int)-1)*aJ U:=by show(((U.length-2:Nat):Int)+1)*cf U (U.length-2+1)=_;rw[show U.length-2+1=U.length-1 by lia];have:cf U (U.length-1)=aJ U:=rfl;rw[this,show(((U.length-2:Nat):Int)+1)=(U.length:Int)-1 by lia]
  rw[e3,l1,Xg]at q;obtain⟨k,hk⟩:=q;have:(U.length:Int)-1=p*(-k):=by rw[XO];lia
  rw[this];exact Int.mul_emod_right p (-k)
end PG
namespace SA
section
variable{R:Type}[Lean.Grind.CommRing R]{d:R->R}
theorem Ry(dm:∀a b,d (a*b)=d a*b+a*d b){S D S1 z T U W V c a b:R}(hS:S=D*S1)(hz:d S=D*z)(hT:T*U=S*d U)(hb:a*D+b*T=1)(hW:D*d W=c*W*d D)(hU:U=W*V)(cn:∀x y:R,W*x=W*y->x=y):∃V',V=D*V':=by
 have h1:T*V=D*(c*(z-d S1)*V+S1*d V):=by
  apply cn;have e1:d S=d D*S1+D*d S1:=by rw[hS,dm]
  have e2:d U=d W*V+W*d V:=by rw[hU,dm]
  grind
 exact⟨a*V+b*(c*(z-d S1)*V+S1*d V),by grind⟩
theorem aah(dm:∀a b,d (a*b)=d a*b+a*d b){D W c:R}(hW:D*d W=c*W*d D):D*d (D*W)=(1+c)*(D*W)*d D:=by rw[dm];grind
end
section
variable{R:Type}[Lean.Grind.CommRing R]{d:R->R}
def cI(a b:R):Prop:=∃x y,x*a+y*b=1
theorem cI.symm{a b:R}(h:cI a b):cI b a:=by obtain⟨x,y,h⟩:=h;exact⟨y,x,by grind⟩
theorem cI.mul{a b c:R}(h:cI a b)(k:cI a c):cI a (b*c):=by obtain⟨x,y,h⟩:=h;obtain⟨z,w,k⟩:=k;exact⟨x*z*a+x*w*c+y*b*z,y*w,by grind⟩
theorem cI.Bf{a b c:R}(h:cI a (b*c)):cI a b:=by obtain⟨x,y,h⟩:=h;exact⟨x,y*c,by grind⟩
theorem cI.one{a:R}:cI a 1:=⟨0,1,by grind⟩
theorem xE(dm:∀a b,d (a*b)=d a*b+a*d b){P F:R}(h:cI (P*F) (d (P*F))):cI P F/\cI P (d P)/\cI F (d F):=by obtain⟨x,y,h⟩:=h;rw[dm]at h;exact⟨⟨x*F+y*d F,y*d P,by grind⟩,⟨x*F+y*d F,y*F,by grind⟩,⟨x*P+y*d P,y*P,by grind⟩⟩
theorem xF{a b c x y:R}(h:cI a b)(h1:a=c*x)(h2:b=c*y):∃z,c*z=1:=by obtain⟨u,v,h⟩:=h;exact⟨u*x+v*y,by grind⟩
theorem G0{P F U S a b:R}(hS:S=P*F)(hF:F=a*S+b*U)(hPF:cI P F):cI P U:=by obtain⟨x,y,h⟩:=hPF;exact⟨x+y*a*F,y*b,by grind⟩
end
end SA
namespace PG
open PySem.Spec L2 MN
open PyProof.Rows hiding St kindOf
def Rz(p:Int):Setoid (ZX):=⟨fun a b=>a8 p (cf a) (cf b),⟨fun a=>a8.refl p _,fun h=>h.symm,fun h k=>h.trans k⟩⟩
def aE(p:Int):Type:=Quotient (Rz p)
section
variable{p:Int}
def aL(a:ZX):aE p:=Quotient.mk (Rz p) a
theorem mk_eq{a b:ZX}(h:a8 p (cf a) (cf b)):(aL a:aE p)=aL b:=Quotient.sound h
theorem G5{a b:ZX}(h:(aL a:aE p)=aL b):a8 p (cf a) (cf b):=Quotient.exact h
theorem dN{P:aE p->Prop}(h:∀a,P (aL a)):∀x,P x:=fun x=>Quotient.inductionOn x h
theorem d5(a b:ZX)(k:Nat):cf (qR a b) k=cf a k+cf b k:=by rw[<-eO (qR a b) k,jm,eO,eO]
theorem oD(c:Int)(a:ZX)(k:Nat):cf (a.map (c * ·)) k=c*cf a k:=by rw[<-eO (a.map (c * ·)) k,oC,eO]
instance:Add (aE p):=⟨fun x y=>Quotient.liftOn₂ x y (fun a b=>aL (qR a b)) fun a b a' b' h k=>mk_eq (((a8.of_eq (d5 a b)).trans (a8.add h k)).trans (a8.of_eq (d5 a' b')).symm)⟩
theorem RA{a b a' b':ZX}(h:a8 p (cf a) (cf a'))(k:a8 p (cf b) (cf b')):a8 p (cf (cb a b)) (cf (cb a' b')):=
 ((a8.of_eq (bg a b)).trans ((k.mF a).trans (h.S5 b'))).trans (a8.of_eq (bg a' b')).symm
instance:Mul (aE p):=⟨fun x y=>Quotient.liftOn₂ x y (fun a b=>aL (cb a b)) fun a b a' b' h k=>mk_eq (RA h k)⟩
instance:Neg (aE p):=⟨fun x=>Quotient.liftOn x (fun a=>aL (a.map (-1 * ·))) fun a b h=>mk_eq (((a8.of_eq (oD (-1) a)).trans (h.smul (-1))).trans (a8.of_eq (oD (-1) b)).symm)⟩
instance:Sub (aE p):=⟨fun x y=>x + -y⟩
instance:NatCast (aE p):=⟨fun n=>aL [(n:Int)]⟩
instance (n:Nat):OfNat (aE p) n:=⟨aL [(n:Int)]⟩
instance:IntCast (aE p):=⟨fun n=>aL [n]⟩
instance:SMul Nat (aE p):=⟨fun n x=>aL [(n:Int)]*x⟩
instance:SMul Int (aE p):=⟨fun n x=>aL [n]*x⟩
def RC(x:aE p):Nat->aE p
 |0=>aL [1]
 |n+1=>RC x n*x
instance:HPow (aE p) Nat (aE p):=⟨RC⟩
theorem xG(a b:ZX):(aL a:aE p)*aL b=aL (cb a b):=rfl
theorem g?{a b:ZX}(h:∀k,cf a k=cf b k):(aL a:aE p)=aL b:=mk_eq (a8.of_eq h)
theorem j6(c:Int)(k:Nat):cf [c] k=c*one k:=by
 cases k with
 |zero=>show c=c*1;lia
 |succ k=>rw[cC,ff];show 0=c*cf [1] (k+1);rw[cC,ff,We]
theorem qw(c:Int)(f:Cf)(k:Nat):mF [c] f k=c*f k:=J8 c f k
theorem cj(x y:aE p):x*y=y*x:=by revert x;refine dN fun a=>?_;revert y;refine dN fun b=>?_;rw[xG,xG];exact g? fun k=>by rw[bg,bg,de]
theorem zd(x y:aE p):x+y=y+x:=by revert x;refine dN fun a=>?_;revert y;refine dN fun b=>?_;exact g? fun k=>by rw[d5,d5];lia
theorem xH(x y z:aE p):x+y+z=x+(y+z):=by revert x;refine dN fun a=>?_;revert y;refine dN fun b=>?_;revert z;refine dN fun c=>?_;exact g? fun k=>by rw[d5,d5,d5,d5];lia
theorem gF(x y z:aE p):x*y*z=x*(y*z):=by
 revert x;refine dN fun a=>?_;revert y;refine dN fun b=>?_;revert z;refine dN fun c=>?_;exact g? fun k=>by rw[bg,bg,fi];exact b_ (fun j=>(bg b c j).symm) a k
theorem t9(x y z:aE p):x*(y+z)=x*y+x*z:=by
 revert x;refine dN fun a=>?_;revert y;refine dN fun b=>?_;revert z;refine dN fun c=>?_;exact g? fun k=>by rw[bg,d5,bg,bg,<-k_];exact b_ (fun j=>d5 b c j) a k
theorem t_(x:aE p):(aL [1]:aE p)*x=x:=by revert x;refine dN fun a=>?_;exact g? fun k=>by rw[bg,qw,Wv]
theorem mJ(k:Nat):cf [0] k=0:=by rw[j6,W6]
theorem qy(x:aE p):(aL [0]:aE p)*x=aL [0]:=by revert x;refine dN fun a=>?_;exact g? fun k=>by rw[bg,qw,W6,mJ]
theorem zg(x:aE p):x+(aL [0]:aE p)=x:=by revert x;refine dN fun a=>?_;exact g? fun k=>by rw[d5,mJ,W8]
theorem sj(a b:Int):(aL [a+b]:aE p)=aL [a]+aL [b]:=g? fun k=>by rw[d5,j6,j6,j6,Yv]
instance:Lean.Grind.CommRing (aE p) where
 natCast:=inferInstance
 ofNat:=inferInstance
 nsmul:=inferInstance
 npow:=inferInstance
 add_zero:=zg
 add_comm:=zd
 add_assoc:=xH
 mul_assoc:=gF
 mul_one x:=(cj _ _).trans (t_ x)
 one_mul:=t_
 left_distrib:=t9
 right_distrib x y z:=by rw[cj,t9,cj z x,cj z y]
 zero_mul:=qy
 mul_zero x:=(cj _ _).trans (qy x)
 pow_zero _:=rfl
 pow_succ _ _:=rfl
 ofNat_succ n:=sj n 1
 neg_add_cancel x:=by revert x;refine dN fun a=>?_;exact g? fun k=>by rw[d5,oD];show _=cf [0] k;rw[mJ];lia
 sub_eq_add_neg _ _:=rfl
 intCast:=inferInstance
 zsmul:=inferInstance
 neg_zsmul i x:=by
  revert x;refine dN fun a=>?_;exact g? fun k=>by rw[oD,bg,bg,qw,qw,Yt,Yt,Wv]
 intCast_neg i:=g? fun k=>by rw[oD,j6,j6,Yt,Yt,Wv]
 mul_comm:=cj
theorem zh(a:ZX)(k:Nat):cf (dL a) k=ic (cf a) k:=by
 have h:=y? one a k;have z:∀j,ic one j=0:=fun j=>by show((j:Int)+1)*cf [1] (j+1)=0;rw[cC,ff,We]
 have e1:ic (mF a one) k=ic (cf a) k:=by show((k:Int)+1)*mF a one (k+1)=((k:Int)+1)*cf a (k+1);rw[eO]
 have e2:mF a (ic one) k=0:=by rw[b_ (g:=cf []) (fun j=>by rw[z,ff]) a k,de];rfl
 rw[e1,e2,eO]at h;lia
def dP(x:aE p):aE p:=Quotient.liftOn x (fun a=>aL (dL a)) fun a b h=>mk_eq (((a8.of_eq (zh a)).trans (a8.ic h)).trans (a8.of_eq (zh b)).symm)
theorem iu(x y:aE p):dP (x*y)=dP x*y+x*dP y:=by
 revert x;refine dN fun a=>?_;revert y;refine dN fun b=>?_;refine g? fun k=>?_;rw[zh,d5,bg,bg];have e:ic (cf (cb a b)) k=ic (mF a (cf b)) k:=by show((k:Int)+1)*cf (cb a b) (k+1)=((k:Int)+1)*mF a (cf b) (k+1);rw[bg]
 rw[e,y?,b_ (fun j=>(zh b j).symm) a k];lia
theorem G6(a:ZX):dP (aL a:aE p)=aL (dC a):=g? fun k=>by rw[zh,lj]
end
theorem at2{x y z:ah}{r:List ah}:L2.jP (x::y::z::r) 2=some z:=L2.jg (xs:=x::y::z::r) (j:=2) rfl
theorem at3{x y z w:ah}{r:List ah}:L2.jP (x::y::z::w::r) 3=some w:=L2.jg (xs:=x::y::z::w::r) (j:=3) rfl
theorem at4{x y z w v:ah}{r:List ah}:L2.jP (x::y::z::w::v::r) 4=some v:=L2.jg (xs:=x::y::z::w::v::r) (j:=4) rfl
theorem lC{p:Int}(hp:eZ p=true){n m:Nat}{as bs:ZX}{st:ag}(l1:st[n]?=some (aq as))(l2:st[m]?=some (aq bs))(ha:Row p as)(pf:as.length<=100000)(qH:bs.length<=100000):
  ∃ar k,PM.dY [.int p,.loc n,.loc m] st=.ok (.loc k) ar/\Fr st ar/\st.length<=k/\ar[k]?=some (aq (oB p as bs)):=by
 obtain⟨g,k,e,o,l⟩:=tX (fG hp) (ay l1) (ay l2) pf qH (ha.sm hp);exact⟨st++g,k,e,Fr.app _ _,o,l⟩
theorem t!{p:Int}(hp:eZ p=true){n m:Nat}{as bs:ZX}{st:ag}(l1:st[n]?=some (aq as))(l2:st[m]?=some (aq bs))(pf:as.length<=100000)(qH:bs.length<=100000):
  ∃ar k,PM.cO [.int p,.loc n,.loc m,.int (-1)] st=.ok (.loc k) ar/\Fr st ar/\st.length<=k/\ar[k]?=some (aq (vf p as bs)):=by
 obtain⟨g,k,e,o,l⟩:=k7 (f:=-1) (fG hp) (ay l1) (ay l2) pf qH (by decide) (by decide);exact⟨st++g,k,e,Fr.app _ _,o,l⟩
theorem j7{p:Int}(hp:eZ p=true)(t:Int){n:Nat}{as:ZX}{st:ag}(l1:st[n]?=some (aq as))(ha:Row p as)(pf:as.length<=100000):
  ∃ar k,PM.dB [.int p,.loc n,.int t] st=.ok (.loc k) ar/\Fr st ar/\st.length<=k/\ar[k]?=some (aq (mulR p t as)):=by
 obtain⟨g,k,e,o,l⟩:=qQ (f:=t) (fG hp) (ay l1) pf (ha.sm hp);exact⟨st++g,k,e,Fr.app _ _,o,l⟩
theorem DZ{p:Int}(hp:eZ p=true){A B:ZX}{N:Nat}{g0 u0 v0 g1 u1 v1:ZX}(h:iq p A B N g0 u0 v0 g1 u1 v1)(hN:N<=50000)(hg:g1≠[]){a0 a1 a2 b0 b1 b2:Nat}{st:ag}(RD:st[a0]?=some (aq g0))(O?:st[a1]?=some (aq u0))(Tc:st[a2]?=some (aq v0))(O':st[b0]?=some (aq g1))(Td:st[b1]?=some (aq u1))(Te:st[b2]?=some (aq v1)):
  ∃ar c0 c1 c2,PM.fP [.int p,.tup [.loc a0,.loc a1,.loc a2],.tup [.loc b0,.loc b1,.loc b2]] st=.ok (.tup [.loc c0,.loc c1,.loc c2]) ar/\Fr st ar /\
   ar[c0]?=some (aq (ko p g0 g1))/\ar[c1]?=some (aq (vf p u0 (oB p (b? p g0 g1) u1)))/\ar[c2]?=some (aq (vf p v0 (oB p (b? p g0 g1) v1))):=by
 have hr:=aF hp;have gn:0<p:=by lia
 have hl:¬ aJ g1 % p=0:=by have:=h.r1.last gn hg;rw[V? (by lia) this.2];lia
 have i1:=h.Oa;have i2:=h.Ta;have i3:=h.Rv;have i4:=h.Tb;obtain⟨s1,k1,k2,e1,F1,_,_,_,m1,m2⟩:=gW hp (ay RD) O' hg hl (by lia) (by lia);obtain⟨sq,sr,slt,sc,sl⟩:=fI hp (as:=g0) hg hl;obtain⟨s2,t1,e2,F2,_,n1⟩:=lC hp m1 (F1 _ _ Td) sq (by lia) (by lia);obtain⟨s3,t2,e3,F3,_,n2⟩:=lC hp (F2 _ _ m1) (F2 _ _ (F1 _ _ Te)) sq (by lia) (by lia);have q1:=(t8 p (b? p g0 g1) u1).1;have q2:=(t8 p (b? p g0 g1) v1).1;have hc:du (fun _=>True) (aI 0) bO (ai PM.dY (aa eh (aa (af bN cW dF) (aa (af bN bw a!) aj)))) [.int 1,.int 2] [qn, some (.tup [.loc b0,.loc b1,.loc b2]), some (.tup [.loc k1,.loc k2]), qI p] s1 []=.ok [.loc t1,.loc t2] s3:=by
  rw[mI (u:=.int 1) (y:=.loc t1) (τ1:=[some (.int 1),some (.tup [.loc b0,.loc b1,.loc b2]),some (.tup [.loc k1,.loc k2]),some (.int p)]) (st1:=s2) trivial rfl (by simp only[ao,ax,aM,aw,aH,av,bc,aG,au,aA,aP,dZ,aK,bz vd,bz Ab,e2]),
   mI (u:=.int 2) (y:=.loc t2) (τ1:=[some (.int 2),some (.tup [.loc b0,.loc b1,.loc b2]),some (.tup [.loc k1,.loc k2]),some (.int p)]) (st1:=s3) trivial rfl (by simp only[ao,ax,aM,aw,aH,av,bc,aG,au,aA,aP,dZ,aK,bz vd,bz at2,e3]),pI trivial]
  rfl
 have gL:je 1 [2,3,0] [qI p, some (.tup [.loc a0,.loc a1,.loc a2]), some (.tup [.loc b0,.loc b1,.loc b2]), some (.tup [.loc k1,.loc k2]), qn]=[qn, some (.tup [.loc b0,.loc b1,.loc b2]), some (.tup [.loc k1,.loc k2]), qI p]:=rfl;have Od:=F1.trans (F2.trans F3);have F4:=Fr.app s3 [aB.lst [.loc t1,.loc t2]];have lt:=ba s3 [.loc t1,.loc t2];obtain⟨s4,Lq⟩:∃s,s3++[aB.lst [.loc t1,.loc t2]]=s:=⟨_,rfl⟩
 obtain⟨k4,hk4⟩:∃k,s3.length=k:=⟨_,rfl⟩
 rw[Lq]at F4 lt;rw[hk4]at lt;obtain⟨s5,c1,e5,F5,_,x1⟩:=t! hp (F4 _ _ (Od _ _ O?)) (F4 _ _ (F3 _ _ n1)) (by lia) (by lia);obtain⟨s6,c2,e6,F6,_,x2⟩:=t! hp (F5 _ _ (F4 _ _ (Od _ _ Tc))) (F5 _ _ (F4 _ _ n2)) (by lia) (by lia);have g1':=c! lt (vd (x:=.loc t1) (r:=[.loc t2]));have g2':=c! (F5.it lt) (Ab (x:=.loc t1) (y:=.loc t2) (r:=[]));refine⟨s6,k2,c1,c2,?_,Od.trans (F4.trans (F5.trans F6)),F6 _ _ (F5 _ _ (F4 _ _ (F3 _ _ (F2 _ _ m2)))),F6 _ _ x1,x2⟩;simp only[PM.fP,bI,ao,aD,aW,bt,ax,aM,aw,aH,av,ke,bY,bM,gN,ft,bc,aG,au,il,aA,fo,ip,aT,bh,bo,dO,eu,pB,aP,dZ,a9,aK,Vr,VH,VB,Vu,Vy,Vt,Vo,Vs,Nat.reduceSub,Vk,Vq,Nat.reduceAdd,Vv,Nat.reduceLeDiff,↓reduceIte,bz vd,bz Ab,bz at2,e1,gL,hc,Lq,hk4,g1',e5,g2',e6]
abbrev Oe:MT:=b8 (af uX (ai bx (aa (af bN eg dF) aj)) dF)
abbrev Of:MB:=aC (aO 5 (ai PM.fP (aa a! (aa eh (aa eg aj))))) (aC (aO 3 eg) (aO 4 j?))
def pL(a b c:Nat):Option ah:=some (.tup [.loc a,.loc b,.loc c])
def aai(μ:MN.Env)(s:ag):Nat:=match(μ[4]?:Option (Option ah)) with
 |some (some (.tup (.loc k::_)))=>f_ k s
 |_=>0
structure zj(p:Int)(A B:ZX)(N:Nat)(n m:Nat)(st:ag)(μ:MN.Env)(s:ag)(a0 a1 a2 b0 b1 b2:Nat)(g0 u0 v0 g1 u1 v1:ZX):Prop where
 env:∃x5,μ=[some (.int p),some (.loc n),some (.loc m),pL a0 a1 a2,pL b0 b1 b2,x5,none,none,none,none]
 fr:Fr st s
 inv:iq p A B N g0 u0 v0 g1 u1 v1
 RD:s[a0]?=some (aq g0)
 O?:s[a1]?=some (aq u0)
 Tc:s[a2]?=some (aq v0)
 O':s[b0]?=some (aq g1)
 Td:s[b1]?=some (aq u1)
 Te:s[b2]?=some (aq v1)
theorem G7{p:Int}(hp:eZ p=true){A B:ZX}{N n m:Nat}(hN:N<=50000){st:ag}{μ:MN.Env}{s:ag}{a0 a1 a2 b0 b1 b2:Nat}{g0 u0 v0 g1 u1 v1:ZX}(h:zj p A B N n m st μ s a0 a1 a2 b0 b1 b2 g0 u0 v0 g1 u1 v1):
  ∃μ' s' a0 a1 a2 b0 b1 b2 g u v u1 v1,cN Oe Of μ s=.nx μ' s'/\zj p A B N n m st μ' s' a0 a1 a2 b0 b1 b2 g u v [] u1 v1:=by
 obtain⟨μ',s',e,a0,a1,a2,b0,b1,b2,g,u,v,u1,v1,hq⟩:=fc (t:=Oe) (body:=Of)
  (fun μ s=>∃a0 a1 a2 b0 b1 b2 g0 u0 v0 g1 u1 v1,zj p A B N n m st μ s a0 a1 a2 b0 b1 b2 g0 u0 v0 g1 u1 v1) aai
  (fun μ s=>∃a0 a1 a2 b0 b1 b2 g u v u1 v1,zj p A B N n m st μ s a0 a1 a2 b0 b1 b2 g u v [] u1 v1)
  (by
   rintro μ s ⟨a0,a1,a2,b0,b1,b2,g0,u0,v0,g1,u1,v1,h⟩;obtain⟨x5,rfl⟩:=h.env;obtain⟨L,hL⟩:∃L:Int,L=(g1.length:Int):=⟨_,rfl⟩
   have kl:bx [.loc b0] s=.ok (.int L) s:=by rw[a7 (ay h.O'),az,hL]
   by_cases hg:g1=[]
   .subst hg;have h0:decide ((0:Int)<L)=false:=VV (by rw[hL];simp);refine .inl ⟨s,?_,a0,a1,a2,b0,b1,b2,g0,u0,v0,u1,v1,h⟩;simp only[pL,ao,ax,aM,aw,aH,av,bc,aR,aQ,aG,au,aA,f9,dZ,aK,bz vd,kl,h0]
   .have hg0:0<g1.length:=Vz.mpr hg;have h0:decide ((0:Int)<L)=true:=VW (by lia);obtain⟨s',c0,c1,c2,e,F,l0,l1,l2⟩:=DZ hp h.inv hN hg h.RD h.O? h.Tc h.O' h.Td h.Te;have hl:¬ aJ g1 % p=0:=by have:=h.inv.r1.last (by have:=aF hp;lia) hg;rw[V? (by lia) this.2];lia
    have slt:=(fI hp (as:=g0) hg hl).2.2.1;refine .inr ⟨s,[some (.int p),some (.loc n),some (.loc m),pL b0 b1 b2,pL c0 c1 c2,pL c0 c1 c2,none,none,none,none],s',?_,.inl ?_,⟨b0,b1,b2,c0,c1,c2,g1,u1,v1,_,_,_,⟨_,rfl⟩,h.fr.trans F,h.inv.step hp hg,F _ _ h.O',F _ _ h.Td,F _ _ h.Te,l0,l1,l2⟩,?_⟩
    .simp only[pL,ao,ax,aM,aw,aH,av,bc,aR,aQ,aG,au,aA,f9,dZ,aK,bz vd,kl,h0]
    .simp only[pL,ao,aD,aW,aH,av,bM,aG,au,aA,aT,bo,aP,dZ,aK,Vo,Vs,e]
    .show f_ c0 s'<f_ b0 s;unfold f_;rw[ay l0,ay h.O'];show((ko p g0 g1).map ah.int).length<(g1.map ah.int).length;rw[az,az];exact slt)
  μ s ⟨a0,a1,a2,b0,b1,b2,g0,u0,v0,g1,u1,v1,h⟩
 exact⟨μ',s',a0,a1,a2,b0,b1,b2,g,u,v,u1,v1,e,hq⟩
structure lI(p:Int)(A B G S T U V:ZX):Prop where
 rG:Row p G
 rS:Row p S
 rT:Row p T
 rU:Row p U
 rV:Row p V
 nG:G≠[]
 lG:aJ G=1
 cA:a8 p (cf A) (mF S (cf G))
 cB:a8 p (cf B) (mF T (cf G))
 cG:a8 p (cf G) (fun k=>mF U (cf A) k+mF V (cf B) k)
 RE:G.length<=50000/\S.length<=50000/\T.length<=50000/\U.length<=50000/\V.length<=50000
theorem G8{p:Int}(hp:eZ p=true){n m:Nat}{A B:ZX}{st:ag}(ln:st[n]?=some (aq A))(lm:st[m]?=some (aq B))(hA:Row p A)(hB:Row p B)(hn:A≠[]\/B≠[])(pf:A.length<=5000)(qH:B.length<=5000):
  ∃ar k1 k2 k3 k4 k5 G S T U V,PM.met [.int p,.loc n,.loc m] st=.ok (.tup [.loc k1,.loc k2,.loc k3,.loc k4,.loc k5]) ar/\Fr st ar/\lI p A B G S T U V/\cq ar [k1,k2,k3,k4,k5] [G,S,T,U,V]/\[k1,k2,k3,k4,k5].Nodup/\(∀k∈[k1,k2,k3,k4,k5],st.length<=k):=by
 have hr:=aF hp;have gn:0<p:=by lia
 have l1:=aS (aS (aS (aN st [.int 1]) [aB.lst []]) [aB.lst []]) [aB.lst [.int 1]];have l2:=aS (aS (aN (st++[aB.lst [.int 1]]) []) [aB.lst []]) [aB.lst [.int 1]];have l3:=aS (aN (st++[aB.lst [.int 1]]++[aB.lst []]) []) [aB.lst [.int 1]];have l4:=aN (st++[aB.lst [.int 1]]++[aB.lst []]++[aB.lst []]) [.int 1];have F0:Fr st (st++[aB.lst [.int 1]]++[aB.lst []]++[aB.lst []]++[aB.lst [.int 1]]):=(((Fr.app st _).more _).more _).more _;obtain⟨i1,hi1⟩:∃i,st.length=i:=⟨_,rfl⟩
 obtain⟨i2,hi2⟩:∃i,(st++[aB.lst [.int 1]]).length=i:=⟨_,rfl⟩
 obtain⟨i3,hi3⟩:∃i,(st++[aB.lst [.int 1]]++[aB.lst []]).length=i:=⟨_,rfl⟩
 obtain⟨i4,hi4⟩:∃i,(st++[aB.lst [.int 1]]++[aB.lst []]++[aB.lst []]).length=i:=⟨_,rfl⟩
 obtain⟨s0,Pa⟩:∃s,st++[aB.lst [.int 1]]++[aB.lst []]++[aB.lst []]++[aB.lst [.int 1]]=s:=⟨_,rfl⟩
 rw[hi1,Pa]at l1;rw[hi2,Pa]at l2;rw[hi3,Pa]at l3;rw[hi4,Pa]at l4;rw[Pa]at F0;have start:zj p A B (A.length+B.length+1) n m s0 [some (.int p),some (.loc n),some (.loc m),pL n i1 i2,pL m i3 i4,none,none,none,none,none] s0 n i1 i2 m i3 i4 A [1] [] B [] [1]:=
  ⟨⟨_,rfl⟩,Fr.refl _,iq.start hr.1 hA hB hn,F0 _ _ ln,l1,l2,F0 _ _ lm,l3,l4⟩
 obtain⟨μ',s1,a0,a1,a2,b0,b1,b2,g,u,v,u1,v1,ew,hq⟩:=G7 hp (by lia) start;obtain⟨x5,rfl⟩:=hq.env;have hg:g≠[]:=by rcases hq.inv.ne with z|z;exact z;exact absurd rfl z
 have hlg:=hq.inv.r0.last gn hg;obtain⟨gi,t,ei,t1,t2,t3⟩:=fR hp (n:=aJ g) (by rw[V? (by lia) hlg.2];lia) s1;obtain⟨rG,nG,lG,cA,cB,cG⟩:=hq.inv.done hp hA hB t3;have F2:=Fr.app s1 gi;obtain⟨s2,jq⟩:∃s,s1++gi=s:=⟨_,rfl⟩
 rw[jq]at ei F2;have j1:=hq.inv.Oa;have j2:=hq.inv.Rv;have j3:=hq.inv.Tb;have gx:=c! (ay hq.RD) (jl hg);obtain⟨s3,k1,e3,F3,o1,y1⟩:=j7 hp t (F2 _ _ hq.RD) hq.inv.r0 (by lia);have hGl:=k! p t g;have Cu:¬ aJ (mulR p t g) % p=0:=by rw[lG,V? (by lia) (by lia)];lia
 have F03:=F0.trans (hq.fr.trans (F2.trans F3));obtain⟨s4,k2,z2,e4,F4,o2,_,_,y2,_⟩:=gW hp (ay (F03 _ _ ln)) y1 nG Cu (by lia) (by lia);obtain⟨s5,k3,z3,e5,F5,o3,_,_,y3,_⟩:=gW hp (ay (F4 _ _ (F03 _ _ lm))) (F4 _ _ y1) nG Cu (by lia) (by lia);have F25:=F2.trans (F3.trans (F4.trans F5));obtain⟨s6,k4,e6,F6,o4,y4⟩:=j7 hp t (F25 _ _ hq.O?) hq.inv.ru0 (by lia);obtain⟨s7,k5,e7,F7,o5,y5⟩:=j7 hp t (F6 _ _ (F25 _ _ hq.Tc)) hq.inv.rv0 (by lia);have F37:=F4.trans (F5.trans (F6.trans F7));have F07:=F03.trans F37;obtain⟨qA,_,_,_,qlA⟩:=fI hp (as:=A) nG Cu;obtain⟨qB,_,_,_,qlB⟩:=fI hp (as:=B) nG Cu;have lu:=k! p t u;have lv:=k! p t v;have w1:=bf y1;have w2:=bf y2;have w3:=bf y3;have w4:=bf y4;have w5:=bf y5;have n3:st.length<=s2.length:=(F0.trans (hq.fr.trans F2)).len;have f4:=F4.len;have f5:=F5.len;have f6:=F6.len;have f3:=F3.len;refine⟨s7,k1,k2,k3,k4,k5,mulR p t g,b? p A (mulR p t g),b? p B (mulR p t g),mulR p t u,mulR p t v,?_,F07,⟨rG,qA,qB,Row.of gn _,Row.of gn _,nG,lG,cA,cB,cG,by lia⟩,?_,?_,?_⟩
 .have Tf:cN Oe Of [qI p, qL n, qL m, some (.tup [.loc n,.loc i1,.loc i2]), some (.tup [.loc m,.loc i3,.loc i4]), qn, qn, qn, qn, qn] s0=.nx [some (.int p),some (.loc n),some (.loc m),pL a0 a1 a2,pL b0 b1 b2,x5,none,none,none,none] s1:=ew;simp only[PM.met,bI,ao,aD,aW,bt,ax,aM,aw,aH,av,ke,eJ,bY,bM,bc,aG,au,il,c8,aA,fo,ip,aT,bh,bo,aP,dZ,a9,aK,Vr,VH,VB,Vu,Vy,Vt,Vo,Vs,Nat.reduceSub,Vk,Vq,Nat.reduceAdd,Vv,Nat.reduceLeDiff,↓reduceIte,hi1,hi2,hi3,hi4,Pa,Tf,pL,bz vd,bz Ab,bz at2,gx,ei,e3,e4,e5,e6,e7]
 .exact .cons (F37 _ _ y1) (.cons ((F5.trans (F6.trans F7)) _ _ y2) (.cons ((F6.trans F7) _ _ y3) (.cons (F7 _ _ y4) (.cons y5 (.nil _)))))
 .simp only[XT,VT,WO,Xe,not_or,List.nodup_nil,and_true,not_false_eq_true];lia
 .intro k hk;simp only[VT,WO,Xe]at hk;lia
theorem J!{p:Int}(hp:eZ p=true){n m:Nat}{A B:ZX}{st:ag}(ln:st[n]?=some (aq A))(lm:st[m]?=some (aq B))(hA:Row p A)(hB:Row p B)(hn:A≠[]\/B≠[])(pf:A.length<=5000)(qH:B.length<=5000):
  ∃ar k1 k2 k3 k4 k5 G S T U V,PM.meet [.int p,.loc n,.loc m] st=.ok (.tup [.loc k1,.loc k2,.loc k3,.loc k4,.loc k5]) ar/\Fr st ar/\lI p A B G S T U V/\cq ar [k1,k2,k3,k4,k5] [G,S,T,U,V]/\[k1,k2,k3,k4,k5].Nodup/\(∀k∈[k1,k2,k3,k4,k5],st.length<=k):=by
 obtain⟨g,e⟩:=fH hp st;obtain⟨ar,k1,k2,k3,k4,k5,G,S,T,U,V,em,F,ho,hr,nd,hk⟩:=G8 hp (aS ln g) (aS lm g) hA hB hn pf qH;obtain⟨LA,J5⟩:∃L:Int,L=(A.length:Int):=⟨_,rfl⟩
 obtain⟨LB,HR⟩:∃L:Int,L=(B.length:Int):=⟨_,rfl⟩
 have ka:bx [.loc n] (st++g)=.ok (.int LA) (st++g):=by rw[a7 (ay (aS ln g)),az,J5]
 have kb:bx [.loc m] (st++g)=.ok (.int LB) (st++g):=by rw[a7 (ay (aS lm g)),az,HR]
 refine⟨ar,k1,k2,k3,k4,k5,G,S,T,U,V,?_,(Fr.app st g).trans F,ho,hr,nd,fun k z=>by have:=hk k z;rw[Vn]at this;lia⟩;by_cases za:A=[]
 .have hb:B≠[]:=by rcases hn with z|z;exact absurd za z;exact z
  have Lk:0<B.length:=Vz.mpr hb;have h1:(LA==0)=true:=by rw[J5,za];rfl
  have h2:(LB==0)=false:=by simp;lia
  simp only[PM.meet,bI,ao,aD,aW,bt,ax,aM,aw,dy,aH,av,gC,bY,bJ,bc,aR,aQ,cF,aG,au,aA,aT,bp,fw,bh,bj,dz,aP,a9,aK,Vr,VH,VB,Vu,Vt,Nat.reduceSub,Vk,Vq,Nat.reduceAdd,e,ka,kb,h1,h2,em]
 .have ha0:0<A.length:=Vz.mpr za;have h1:(LA==0)=false:=by simp;lia
  simp only[PM.meet,bI,ao,aD,aW,bt,ax,aM,aw,fZ,aH,av,gC,bY,bJ,bc,aR,aQ,cF,aG,au,aA,aT,bp,fw,bh,bj,dz,aP,a9,aK,Vr,VH,VB,Vu,Vt,Nat.reduceSub,Vk,Vq,Nat.reduceAdd,e,ka,h1,em]
end PG
namespace SO
open PySem.W PyProof.Rows
def oE(h:Heap)(d:Z4)(es:Array DictEntry)(ep:Nat):Prop:=∃o,h.get? d=some o/\o.cls=.type "dict" /\ o.data=.dict es ep
section
variable{prog:Z6}{w:World}{A:Z5}{E:ZT}{s:Z3}{d it:Z4}{es:Array DictEntry}{ep i:Nat}
theorem oE.ty(x:oE s.heap d es ep):s.TypeIs (.ref d) "dict":=by obtain⟨o,ho,hc,_⟩:=x;exact⟨o,ho,hc⟩
theorem oE.lt{h:Heap}(x:oE h d es ep):d<h.objs.size:=by obtain⟨o,ho,_⟩:=x;exact VE ho
theorem oE.to{h h':Heap}(x:oE h d es ep)(hk:∀o,h.get? d=some o->h'.get? d=some o):oE h' d es ep:=by obtain⟨o,ho,r⟩:=x;exact⟨o,hk o ho,r⟩
theorem G9{Q:ZT}(hd:(d==sysModules)=false)(x:oE s.heap d es ep)(hQ:Q (.ref s.heap.objs.size) {s with heap:=s.heap.push {cls:=.type "dict_keyiterator",data:=.fields #[.ref d,.int 0 0,.int es.size 0,.int ep 0]} }):wpAny (model prog w) A (pyIter (.ref d)) Q E s:=by obtain⟨o,go,gc,gd⟩:=id x;have T:=x.ty;refine wpAny_pyIter_slot T YY (Wr YY T PySem.F.entry_dict_iter ?_ (PySem.F.args_dict_iter_1 _));unfold Builtin.«dict.__iter__»;refine Vj ?_;unfold Builtin.Dict.dictSlotNone;refine Vj (wpAny_notOrdered_dict T ?_);show wpAny _ _ (pure (Value.ref d)) _ _ s;refine VC ?_;show wpAny _ _ (Builtin.Dict.showsAll d >>= _) _ _ s;unfold Builtin.Dict.showsAll;rw[VI (by rw[hd];exact VM)];refine Vj (VC ?_);refine Vj (YE go gd ?_);refine Vj (YV go gd ?_);refine Vj (Wf (VC ⟨_,rfl,"dict_keyiterator",_,⟨_,VL _ rfl,rfl⟩,Wu.lookup,?_⟩));simpa[rawInt]using hQ
theorem G_{Q:ZZ->Z3->Prop}(hit:s.heap.IsKeyIter it d i es.size ep)(x:oE s.heap d es ep)(hi:i<es.size)(hQ:∀h',h'.IsKeyIter it d (i+1) es.size ep->Heap.SameBut it s.heap h'->Q (some es[i].key) {s with heap:=h'}):wpAny (model prog w) A (pyNext (.ref it)) Q E s:=by
 obtain⟨o,ho,hc,hf⟩:=id hit;obtain⟨od,go,gc,gd⟩:=id x;have T:=hit.typeIs;unfold pyNext;refine Vj (XH (Wj (name:=Str.ofString "__next__") T Wu (Wr Wu T Yg ?_ (Yc _))));refine Vj (VC ?_);refine Vj ?_;refine Vj ?_
 first|refine Vj (Xb T (VC ?_))|refine Vj (Xn T (VC ?_))
 refine Vj (wpAny_fieldsOf ho hf ?_);have no:Builtin.Dict_items.ownsTuple "dict_keyiterator" = false:=by decide
 simp only[no,XJ,XZ];show wpAny _ _ (if(Value.ref d==Value.none)=true then _ else _) _ _ s;rw[VI (show ¬ ((Value.ref d==Value.none)=true)from VM)];refine Vj (VC ?_);refine Vj (YE go gd ?_);rw[VI (by simp)];refine Vj (VC ?_);refine Vj (YV go gd ?_);rw[VI (by simp)];refine VC ?_;simp only[show ¬ ((i:Int)<0)from by lia,XZ,WM,Zx hi];refine Vj ?_
 first|refine Vj (Xb T (VC ?_))|refine Vj (Xn T (VC ?_))
 refine Vj (ZM T ?_);show wpAny _ _ (setField (.ref it) 1 (rawInt ((i:Int)+1)) >>= _) _ _ s;refine Vj (WQ ho hf (by simp) ?_);have go2:(s.heap.update it (Obj.mapFields (·.setIfInBounds 1 (rawInt ((i:Int)+1))))).IsKeyIter it d (i+1) es.size ep:=
  ⟨_,WJ _ ho (Xi (Wx hf _)),(Obj.cls_mapFields ..).trans hc,by rw[Wx hf];simp[rawInt]⟩
 refine Vj (Xo ?_);refine Vj (ZM (s:={s with heap:=s.heap.update it (Obj.mapFields (·.setIfInBounds 1 (rawInt ((i:Int)+1))))}) go2.typeIs ?_);show wpAny _ _ (pure es[i].key) _ _ _;exact VC (VC ⟨_,rfl,VC (hQ _ go2 (XQ ..))⟩)
theorem J?{Q:ZZ->Z3->Prop}(hh:A.handled=none)(hit:s.heap.IsKeyIter it d i es.size ep)(x:oE s.heap d es ep)(hi:es.size<=i)(hQ:∀h',Heap.ExtBut it s.heap h'->Q none {s with heap:=h'}):wpAny (model prog w) A (pyNext (.ref it)) Q E s:=by
 obtain⟨o,ho,hc,hf⟩:=id hit;obtain⟨od,go,gc,gd⟩:=id x;have T:=hit.typeIs;unfold pyNext;refine Vj (XH (Wj (name:=Str.ofString "__next__") T Wu (Wr Wu T Yg ?_ (Yc _))));refine Vj (VC ?_);refine Vj ?_;refine Vj ?_
 first|refine Vj (Xb T (VC ?_))|refine Vj (Xn T (VC ?_))
 refine Vj (wpAny_fieldsOf ho hf ?_);have no:Builtin.Dict_items.ownsTuple "dict_keyiterator" = false:=by decide
 simp only[no,XJ,XZ];show wpAny _ _ (if(Value.ref d==Value.none)=true then _ else _) _ _ s;rw[VI (show ¬ ((Value.ref d==Value.none)=true)from VM)];refine Vj (VC ?_);refine Vj (YE go gd ?_);rw[VI (by simp)];refine Vj (VC ?_);refine Vj (YV go gd ?_);rw[VI (by simp)];refine VC ?_;simp only[show ¬ ((i:Int)<0)from by lia,XZ,WM,Array.getElem?_eq_none hi];refine Vj ?_
 first|refine Vj (Xb T (VC ?_))|refine Vj (Xn T (VC ?_))
 show wpAny _ _ (setField (.ref it) 0 .none >>= _) _ _ s;refine Vj (WQ ho hf (by simp) ?_);show wpAny _ _ (newExc (.type "StopIteration") [] >>= _) _ _ _;refine Vj ?_;simp only[newExc,newTuple];refine Vj (Wf ?_ (by size_fits));refine Vj (m:=firstArgMember _ _) (wpAny_of_eq (a:=Value.none) (by first|rfl|(simp only[firstArgMember];rfl)) ?_);refine Wf ?_ (by size_fits);simp only[raiseNew];refine Vj (Zb ?_);rw[show A.in1.handled=none from hh];refine Vj (VC (wpAny_throw ?_));refine Vj (X9 (T:="StopIteration") (b:=true) ⟨_,VL _ rfl,rfl⟩ Yl ?_);exact VC (hQ _ (((XQ ..).extBut.push _).push _))
def G!(es:Array DictEntry)(i:Nat)(v:Z2):Prop:=∃h:i<es.size,v=es[i].key
theorem D0(hh:A.handled=none)(I:Z4)(hne:d≠I):Walks prog w A I [I,d] [I] es.size (G! es) (fun i h=>h.IsKeyIter I d i es.size ep/\oE h d es ep) where
 sub:=fun b hb=>by rw[VY]at hb;rw[hb];exact VS
 frame:=fun _ _ _ st hk=>⟨st.1.at fun o e=>hk I VS o e,st.2.to fun o e=>hk d (VN _ VS) o e⟩
 item:=fun i s Q E hi st hQ=>G_ st.1 st.2 hi fun h' k1 k2=>
  hQ _ h' s.toks ⟨hi,rfl⟩ ⟨k1,st.2.to fun o e=>k2.extBut d o hne e⟩ fun b o hb e=>k2.extBut b o (fun z=>hb (by rw[z];exact ZP _)) e
 done:=fun s Q E st hQ=>J? hh st.1 st.2 (VA _) fun h' k=>hQ h' s.toks fun b o hb e=>k b o (fun z=>hb (by rw[z];exact ZP _)) e
 self:=fun _ _ _ _ st hQ=>wpAny_pyIter_keyiter st.1 hQ
theorem Ka(lo:(d==sysModules)=false):KdlSrc prog w "dict" d d es.size (G! es) (fun h=>oE h d es ep) where
 type:=fun _ x=>x.ty
 there:=fun _ x=>⟨x.lt,x.lt⟩
 keep:=fun _ _ x hk=>x.to fun o e=>hk d (.inl rfl) o e
 notList:=by decide
 notTuple:=by decide
 hint:=fun _ _ _ _ x q=>kdl_hint_dict x.ty q
 iter:=fun _ _ hh x=>⟨_,_,(fun _ _ q=>G9 lo x q),D0 hh _ (V1 x.lt),⟨⟨_,VL _ rfl,rfl,rfl⟩,x.to fun o e=>Vm _ e⟩⟩
end
section
variable{prog:Z6}{w:World}{A:Z5}{E:ZT}{s:Z3}{d it:Z4}{es:Array DictEntry}{ep i:Nat}
theorem Kb{acc:Array Z2}(h:ItemsOf (G! es) acc es.size):acc.toList=es.toList.map (·.key):=by
 apply List.ext_getElem
 .rw[WE,Vl,WE];exact h.1
 .intro i h1 h2;have hi:i<acc.size:=by rw[WE]at h1;exact h1
  obtain⟨hz,e⟩:=h.2 i acc[i] (Zx hi);rw[Array.getElem_toList,List.getElem_map,Array.getElem_toList,e]
theorem zl{Q:ZY->Z3->Prop}(hh:A.handled=none)(lo:(d==sysModules)=false)(x:oE s.heap d es ep)(hn:es.size<=sizeLine)(h:∀h' tk,s.heap.objs.size<h'.objs.size->(∀b o,s.heap.get? b=some o->h'.get? b=some o)->Q (es.toList.map (·.key)) {s with heap:=h',toks:=tk}):wpAny (model prog w) A (collect (.ref d)) Q E s:=by
 unfold collect;refine Vj (wpAny_runValue (XR (R:=fun r s'=>r=.ok (.ret (.ref s.heap.objs.size))/\wpAny (model prog w) A (do
  let u <- load s.heap.objs.size
  match u.data with
  |.seq xs _=>pure xs.toList
  |_=>unsupported "internal:collect") Q E s') ?_ fun r s' q=>?_))
 .refine YW entry_proto_collect' ?_;show wpAny _ _ (do again (.builtin "list.__iadd__" ⟨[<-newList [],.ref d],[]⟩)) _ _ s;refine Vj (wpAny_newList (VC ⟨Code.quiet_builtin _ (by decide +kernel),YW entry_list_iadd' ?_⟩) (WH _));have ne:=W4 x.lt;refine kdl_extend (R:=fun r s'=>r=.ok (.ret (.ref s.heap.objs.size))/\wpAny (model prog w) A (do
   let u <- load s.heap.objs.size
   match u.data with
   |.seq xs _=>pure xs.toList
   |_=>unsupported "internal:collect") Q E s') (s:={s with heap:=s.heap.push (seqObj "list" #[] 0)}) (Ka (es:=es) (ep:=ep) lo) hh (x.to fun o e=>Vm _ e) s.heap.objs.size ne ne (.ref s.heap.objs.size) 0 (VL _ rfl) (fun h' tk acc c hk hS MR=>⟨rfl,?_⟩) hn
  refine Vj (wpAny_load hS ?_);show wpAny _ _ (pure acc.toList) Q E _;rw[Kb MR];exact VC (h h' tk (VE hS) fun b o e=>hk b o (V1 (VE e)) (Vm _ e))
 .obtain⟨rfl,q⟩:=q;exact q
end
end SO
namespace TS
section
variable{α:Type}(r:α->Nat)
def G?(xs:Array α)(i j:Nat):List α:=(xs.toList.drop i).take (j-i)
variable{r}{xs ys:Array α}
theorem zo{i j k:Nat}:(G? xs i j)[k]?=if k<j-i then xs[i+k]? else none:=by unfold G?;rw[List.getElem?_take,YH,Array.getElem?_toList]
theorem t?{i j:Nat}{x:α}(h:x∈G? xs i j):∃k,i<=k/\k<j/\xs[k]?=some x:=by
 obtain⟨k,hk⟩:=List.getElem?_of_mem h;rw[zo]at hk;split at hk
 .exact⟨i+k,by lia,by lia,hk⟩
 .cases hk
theorem zr{i:Nat}{x:α}(h:xs[i]?=some x):G? xs i (i+1)=[x]:=by
 apply YQ;intro n;rw[zo];cases n with
 |zero=>rw[VD (by lia)];exact h
 |succ n=>rw[VI (by lia)];rfl
end
end TS
namespace SO
open PySem.W PyProof.Rows
section
variable{vs:ZY}{xs:List (ZX)}
def nOf:Z2->Int
 |.int n _=>n
 |_=>0
def tu(h:Heap):Z2->ZX
 |.ref a=>match h.get? a with
  |some o=>match o.data with
   |.seq aV _=>aV.toList.map nOf
   |_=>[]
  |none=>[]
 |_=>[]
end
end SO
namespace L2
open PySem.Spec PyProof.Rows
structure i_(k:Nat)(A:Z5):Prop where
 dp:A.depth+3*k+5<recursionLimit
 un:A.units+16*k+200<cLine
theorem i_.room{k:Nat}{A:Z5}(r:i_ k A):gK k {A with handled:=none}:=⟨rfl,r.dp,r.un⟩
theorem i_.mono{j k:Nat}{A:Z5}(r:i_ k A)(h:j<=k):i_ j A:=⟨by have:=r.dp;lia,by have:=r.un;lia⟩
theorem i_.units{k:Nat}{A:Z5}(r:i_ k A):A.units+64<cLine:=by have:=r.un;lia
theorem i_.mark{k:Nat}{A:Z5}(r:gK k A)(v:ZZ):i_ k (A.mark v):=⟨r.dp,r.un⟩
structure Og(ea:Z4)(oe:Obj)(outer:List Env)(H:Hp)(s:Z3):Prop where
 get:s.heap.get? ea=some oe
 no:H ea=none
 out:ea ∉ iG outer
 dat:∀v,oe.data≠.cell v
end L2
namespace MN
open PySem.Spec L2
open PyProof.Rows hiding St
section
variable{X:Cx}{E:XK}{pos p q1 q2:Pos}{n x:Str}{tab:List (Str×Str×Bool)}{qs:Z1}
def RG:MB:=fun _ _=>.bad
theorem Kc{ss:List Stmt}:kx X ss (tS X E RG):=fun _ _ _ _ _ _ h=>by obtain⟨_,_,_,_,_,h⟩:=h;exact h.elim
end
end MN
namespace MN
open PySem.Spec L2
open PyProof.Rows hiding St
section
variable{K:ZW}{h:Heap}{mg:ZU}
def dQ(K:ZW)(x:Str)(st:Stmt):Prop:=∃(f:Z4)(fd:FuncData),IK K x x st f fd/\W.nsIn K mainGlobals x=some (some (.ref f))
theorem dQ.mk{x:Str}{st:Stmt}{f:Z4}{oc:Z2}{od an:Option Z4}{C2:Array (ZZ)}{kV doc pm fV ct:Z2}(a:W.nsIn K mainGlobals x=some (some (.ref f)))(l:K.lookup f=some ⟨oc,od,.func (W.fnOf x x (gZ st) (e_ st) (a_ st) .none kV doc pm an fV ct),C2⟩)(c:W.codeIn K fV x=true)(k:W.keepIn K (.ref f)=true):dQ K x st:=⟨f,_,EU l c k,a⟩
inductive Bg(K:ZW):Z1->Prop
 |nil:Bg K []
 |cons {x:Str} {r:Z1} (a:W.nsIn K mainGlobals x=some none) (t:Bg K r):Bg K (x::r)
@[reducible] def Kd(mg:ZU):Z1->Prop
 |[]=>True
 |x::r=>mg x=none/\Kd mg r
theorem Bg.get(X:K.In h)(G:h.Ns mainGlobals mg):∀{l:Z1},Bg K l->Kd mg l
 |_,.nil=>trivial
 |_,.cons a t=>⟨Zg X G a,t.get X G⟩
inductive Bh(K:ZW):Z1->Prop
 |nil:Bh K []
 |cons {x:Str} {r:Z1} {C:Z4} (a:W.nsIn K mainGlobals x=some (some (.ref C))) (e:W.excIn K C bmV "ValueError.__new__" = true) (s:W.subIn K (.ref C) (.type "BaseException")=some true) (t:Bh K r):Bh K (x::r)
@[reducible] def Ke(K:ZW)(mg:ZU):Z1->Prop
 |[]=>True
 |x::r=>Jw K mg x/\Ke K mg r
theorem Bh.get(X:K.In h)(G:h.Ns mainGlobals mg):∀{l:Z1},Bh K l->Ke K mg l
 |_,.nil=>trivial
 |_,.cons a e s t=>⟨⟨_,W_ X G a,e,s⟩,t.get X G⟩
inductive qz(K:ZW):List (Str×Str×Bool)->Prop
 |nil:qz K []
 |cons {c x:Str} {b:Bool} {C D:Z4} {cd:ClassData} {r:List (Str×Str×Bool)} (h1:W.nsIn K mainGlobals c=some (some (.ref C))) (h2:W.nsIn K mainGlobals x=some (some (.ref D))) (h3:W.clsIn K D=some cd) (h4:W.typeIn K (.ref D)=some (.type "type")) (h5:W.subIn K (.ref C) (.ref D)=some b) (t:qz K r):qz K ((c,x,b)::r)
inductive uc(K:ZW):Z1->Prop
 |nil:uc K []
 |cons {c:Str} {C:Z4} {r:Z1} (h1:W.nsIn K mainGlobals c=some (some (.ref C))) (h3:W.kitOne K (.ref C) (.type "ValueError")=some true) (t:uc K r):uc K (c::r)
def RH(l:Z1):List (Str×Str×Bool):=l.map fun c=>(c,"ValueError",true)
theorem uc.get(X:K.In h)(G:h.Ns mainGlobals mg)(n:W.nsIn K mainGlobals "ValueError" = some none):∀{l:Z1},uc K l->ik K mg (RH l)
 |_,.nil=>.nil
 |_,.cons h1 h3 t=>.blt (W_ X G h1) (Zg X G n) u_ h3 (t.get X G n)
theorem qz.get(X:K.In h)(G:h.Ns mainGlobals mg){l':List (Str×Str×Bool)}(S:ik K mg l'):∀{l:List (Str×Str×Bool)},qz K l->ik K mg (l++l')
 |_,.nil=>S
 |_,.cons h1 h2 h3 h4 h5 t=>.own (W_ X G h1) (W_ X G h2) (DE h3 h4 h5) (t.get X G S)
inductive Bi(K:ZW):Z1->Prop
 |nil:Bi K []
 |cons {x:Str} {r:Z1} {C:Z4} (a:W.nsIn K mainGlobals x=some (some (.ref C))) (q:L2.xc K C=true) (t:Bi K r):Bi K (x::r)
theorem Bi.get(X:K.In h)(G:h.Ns mainGlobals mg):∀{l:Z1},Bi K l->xf K mg l
 |_,.nil=>.nil
 |_,.cons a q t=>.cons (W_ X G a) q (t.get X G)
theorem xf.known{l:Z1}(Q:xf K mg l):Known mg (U! l):=fun c hc=>let⟨C,h,_⟩:=Q.at_ hc;⟨C,h⟩
end
section
variable{X:Cx}{E:XK}{pos:Pos}{a b:Expr}{ma mb:ME}
theorem Oh(ha:PE X a (tE X E ma))(hb:PE X b (tE X E mb)):PE X (.BinOp a .Add b pos) (tE X E (af bU ma mb)):=ph Jj ha hb
theorem Oi(ha:PE X a (tE X E ma))(hb:PE X b (tE X E mb)):PE X (.BinOp a .Sub b pos) (tE X E (af gP ma mb)):=ph Jk ha hb
theorem Oj(ha:PE X a (tE X E ma))(hb:PE X b (tE X E mb)):PE X (.BinOp a .Mult b pos) (tE X E (af bV ma mb)):=ph Jl ha hb
theorem Ol(ha:PE X a (tE X E ma))(hb:PE X b (tE X E mb)):PE X (.BinOp a .FloorDiv b pos) (tE X E (af c_ ma mb)):=ph FH ha hb
theorem Om(ha:PE X a (tE X E ma))(hb:PE X b (tE X E mb)):PE X (.BinOp a .Mod b pos) (tE X E (af bW ma mb)):=ph Jm ha hb
theorem Oo(ha:PE X a (tE X E ma))(hb:PE X b (tE X E mb)):PE X (.BinOp a .Pow b pos) (tE X E (af Jh ma mb)):=ph Jn ha hb
theorem RI(ha:PE X a (tE X E ma))(hb:PE X b (tE X E mb)):PT X (.Compare a [.Lt] [b] pos) (tT X E (b8 (af ltV ma mb))):=kT AB ha hb
theorem RJ(ha:PE X a (tE X E ma))(hb:PE X b (tE X E mb)):PT X (.Compare a [.Gt] [b] pos) (tT X E (b8 (af uX ma mb))):=kT FI ha hb
theorem RK(hu:X.A.units+64<cLine)(ha:PE X a (tE X E ma))(hb:PE X b (tE X E mb)):PT X (.Compare a [.Eq] [b] pos) (tT X E (b8 (af h! ma mb))):=kT (FL hu) ha hb
theorem RL(hu:X.A.units+64<cLine)(ha:PE X a (tE X E ma))(hb:PE X b (tE X E mb)):PT X (.Compare a [.NotEq] [b] pos) (tT X E (b8 (af jV ma mb))):=kT (FO hu) ha hb
theorem RM(hu:X.A.units+64<cLine)(ha:PE X a (tE X E ma))(hb:PE X b (tE X E mb)):PE X (.Compare a [.Eq] [b] pos) (tE X E (af h! ma mb)):=jU (FL hu) ha hb
theorem RN(hu:X.A.units+64<cLine)(ha:PE X a (tE X E ma))(hb:PE X b (tE X E mb)):PE X (.Compare a [.NotEq] [b] pos) (tE X E (af jV ma mb)):=jU (FO hu) ha hb
end
end MN
namespace DL
section
variable{prog:Z6}{w:World}{A:Z5}{E:ZT}{s:Z3}
variable{K:Type}[DecidableEq K]{knd:KeyKind prog w K}
def qz(knd:KeyKind prog w K)(h:Heap)(u:Z2)(q:K×Z2):Prop:=
 ∃a o aV n key,u=.ref a/\h.get? a=some o/\o.cls=.type "tuple" /\ o.data=.seq aV n/\aV.toList=[key,q.2]/\knd.is q.1 key=true
end
end DL
namespace MN
open PySem.Spec L2
open PyProof.Rows hiding St kindOf
def Oq:e8->ah
 |.inl i=>.int i
 |.inr x=>.str x
end MN
namespace MN
open PySem.Spec L2
open PyProof.Rows hiding St kindOf
def D2(st:ag)(n:Nat):Option (List (e8×ah)):=match st[n]? with
 |some (.dK aY)=>some aY
 |some (.fd aY)=>some aY
 |_=>none
theorem Kf{K:ZW}{ρ:Z0}{st:ag}{H:Hp}{n:Nat}{a:Z4}{aY:List (e8×ah)}(sr:SR K ρ st H)(h:D2 st n=some aY)(ha:ρ[n]?=some a):∃g7,Rd H a (.dK g7)/\jd K ρ H aY g7:=by
 unfold D2 at h;split at h
 .rename_i z;cases h;obtain⟨g7,h1,h2⟩:=sr.cell n _ a z ha;exact⟨g7,.inl h1,h2⟩
 .rename_i z;cases h;obtain⟨o,g7,h1,h2⟩:=sr.cell n _ a z ha;exact⟨g7,.inr ⟨o,h1⟩,h2⟩
 .cases h
def aaI:FN
 |[.loc n],st=>match D2 st n with
  |some aY=>.ok (.int aY.length) st
  |none=>.bad
 |_,_=>.bad
def ud:List e8->Option (ZX)
 |[]=>some []
 |.inl i::r=>(ud r).map (i :: ·)
 |.inr _::_=>none
theorem D3:∀{l:List e8}{a:ZX},ud l=some a->l=a.map Sum.inl:=by
 intro l
 induction l with
 |nil=>intro a h;cases h;rfl
 |cons x r ih=>
  intro a h;cases x with
  |inl i=>
   replace h:(ud r).map (i :: ·)=some a:=h;cases z:ud r with
   |none=>rw[z]at h;cases h
   |some b=>rw[z]at h;cases h;rw[ih z];rfl
  |inr x=>cases h
def itK(aY:List (e8×ah)):List ah:=aY.map fun p=>.tup [Oq p.1,p.2]
def RP(n:Nat)(aY:List (e8×ah)):Itm:=(itK aY,fun cJ=>cJ[n]?=some (.fd aY))
def aaj(m:ME):MI:=fun μ st=>(m μ st).bind fun v ar=>match v with
 |.loc n=>match ar[n]? with
  |some (.dK aY)=>.ok (RP n aY) (ar.set n (.fd aY))
  |some (.fd aY)=>.ok (RP n aY) ar
  |_=>.bad
 |_=>.bad
def G'(v:ah)(st:ag):dh ah:=match v with
 |.loc n=>match ak st n with
  |some []=>.ok (.loc st.length) (st++[.lst []])
  |_=>.bad
 |_=>.bad
end MN
namespace SO
open PySem.W PyProof.Rows
section
variable{prog:Z6}{w:World}{A:Z5}{E:ZT}{s:Z3}{ns:ZX}
theorem zt{d:Z4}{es:Array DictEntry}{ep:Nat}{Q:ZT}(hh:A.handled=none)(lo:(d==sysModules)=false)(x:oE s.heap d es ep)(t:IntsAre (es.toList.map (·.key)) ns)(hz:es.size<64)
  (h:∀ (h':Heap) (tk:Nat) (l:Z4) (c:Nat) (out:ZY) (Cv:ZX),(∀ b o,s.heap.get? b=some o->h'.get? b=some o)->s.heap.objs.size<=l->IntsAre out Cv->Cv.Perm ns->Cv.Pairwise (·<=·) ->
   h'.get? l=some (seqObj "list" out.toArray c)->Q (.ref l) {s with heap:=h',toks:=tk}):
  wpAny (model prog w) A (call (.builtin "sorted") [.ref d]) Q E s:=by
 refine Calls.call_function_entry kind_sorted plain_sorted entry_sorted (args_sorted1 _) ?_;unfold Builtin.«sorted»;refine Vj (m:=checkCount "sorted" 1 1 _) (VC ?_);obtain⟨vs,ev⟩:∃vs,vs=es.toList.map (·.key):=⟨_,rfl⟩
 have lv:vs.length=es.size:=by rw[ev,Vl,WE]
 refine Vj (zl hh lo x (by rw[Vv];lia) fun h1 tk k0 k1=>?_);rw[<-ev]at t⊢;refine Vj (wpAny_newList ?_ (by show vs.length<=_;rw[Vv];lia));have gl:(h1.push (seqObj "list" vs.toArray 0)).get? h1.objs.size=some (seqObj "list" vs.toArray 0):=VL _ rfl;show wpAny _ _ _ _ _ {s with heap:=h1.push (seqObj "list" vs.toArray 0),toks:=tk};refine Vj (Xo (Wr slot_list_sort ⟨_,gl,rfl⟩ entry_list_sort (list_sort_tree gl t (by lia) fun out Cv a1 a2 a3=>⟨_,rfl,?_⟩) (args_list_sort _)));obtain⟨c,gc⟩:∃c,(sortedHeap (h1.push (seqObj "list" vs.toArray 0)) h1.objs.size vs out).get? h1.objs.size=some (seqObj "list" out.toList.toArray c):=
  ⟨_,by unfold sortedHeap;exact get?_update_seq (Vm _ (Vm _ (get?_update_seq gl fun _ => #[]))) fun _=>out.toList.toArray⟩
 refine VC ⟨_,rfl,h _ tk h1.objs.size c out.toList Cv (fun b o e=>?_) (Yn k0) a1 a2 a3 gc⟩;have e1:=k1 b o e;have ne:h1.objs.size≠b:=W4 (VE e1);unfold sortedHeap;exact(V5 _ _ ne).trans (Vm _ (Vm _ ((V5 _ _ ne).trans (Vm _ e1))))
end
end SO
namespace L2
open PySem.Spec PyProof.Rows
section
variable{X:Cx}
theorem D4{P:Z6}{w:World}:∀{es:List DictEntry}{aY:List (e8×Z2)}{ns:ZX},Pairs (fu P w) es aY->aY.map (·.1)=ns.map Sum.inl->IntsAre (es.map (·.key)) ns:=by
 intro es aY ns p
 induction p generalizing ns with
 |nil=>
  intro e;cases ns with
  |nil=>exact .nil
  |cons=>cases e
 | @cons e kv es aY h1 h2 _ ih=>
  intro q;cases ns with
  |nil=>cases q
  |cons n ns=>
   injection q with q1 q2;replace q1:kv.1=Sum.inl n:=q1;rw[q1]at h1;rcases dD (k:=.inl n) (v:=e.key) h1 with⟨i,t,a,b⟩|⟨x,t,a,b⟩
   .injection a with a;rw[Vr,b,<-a];exact .cons n t (ih q2)
   .cases a
theorem D5:∀{us:ZY}{ns:ZX},IntsAre us ns->bA (ns.map V.int) us:=by
 intro us ns h
 induction h with
 |nil=>exact .nil
 |cons n t _ ih=>exact .cons ⟨t,rfl⟩ ih
theorem Bj(hh:X.A.handled=none):cz X (.builtin "sorted") (fun xs H Q=>∃(d:Z4)(aY:List (e8×V))(ns:ZX),xs=[.ref d]/\Rd H d (.dK aY)/\aY.map (·.1)=ns.map Sum.inl/\ns.length<64 /\
  ∀(l:Z4)(Cv:ZX),H l=none->Cv.Perm ns->Cv.Pairwise (·<=·)->Q (.ref l) (upd H l (.lst (Cv.map V.int)))):=by
 rintro ae s σ H xs ws Q I r ⟨d,aY,ns,rfl,hd,hk,hn,q⟩;obtain⟨u,rfl,ru⟩:=vals1 r;cases ru;obtain⟨z,lo,vs,rel,dd⟩:=BH I.dq hd;obtain⟨ep,hat⟩:=dd.dictAt;have e:vs.map (·.1)=aY.map (·.1):=by
  have:∀{a:List (e8×V)}{b:List (e8×Z2)},KV a b->b.map (·.1)=a.map (·.1):=by
   intro a b r
   induction r with
   |nil=>rfl
   |cons h _ ih=>rw[Vr,Vr,ih,h.1]
  exact this rel
 obtain⟨o,es,h1,h2,h3,h4,h5,h6⟩:=hat;have ia:=D4 h5 (e.trans hk);have le:es.size=ns.length:=by have:=ia.length;rw[Vl,WE]at this;exact this
 refine SO.zt hh lo ⟨o,h1,h2.1,h3⟩ ia (by lia) fun h' tk l c out Cv kp hl io pm pw g=>?_;have lz:(Cv.map V.int).length<=sizeLine:=by rw[Vl,pm.length_eq,Vv];lia
 exact⟨.ref l,_,I.laid (t':=tk) kp hl (show dE X.prog X.w _ h' _ (.lst (Cv.map V.int)) from⟨lz,_,c,D5 io,g⟩),rfl,q l Cv (I.dq.fresh hl) pm pw⟩
def fX{α:Type}(xs:List α)(k:Int):List α:=(sliceRange 0 xs.length k).filterMap fun i=>xs[i]?
theorem pM:∀(is:List Nat){xs:List V}{us:ZY},bA xs us->bA (is.filterMap fun i=>xs[i]?) (is.filterMap fun i=>us[i]?)
 |[],_,_,_=>.nil
 |i::is,xs,us,r=>by
  cases z:xs[i]? with
  |none=>
   have:us[i]?=none:=by rw[Zt]at z⊢;rw[<-r.length];exact z
   rw[Xz z,Xz this];exact pM is r
  |some x=>
   obtain⟨u,hu,ru⟩:=r.get z;rw[Xa z,Xa hu];exact .cons ru (pM is r)
theorem Ha{α:Type}(xs:List α){k:Int}(hk:0<k):(fX xs k).length<=xs.length:=by unfold fX;refine V! (List.length_filterMap_le _ _) ?_;have:=sliceRange_len_le 0 (xs.length:Int) k (by lia);rw[VD hk]at this;simpa using this
theorem D6{e es:Expr}{te ts:TE}{pos p2:Pos}(he:PE X e te)(hs:PE X es ts):
  PE X (.Subscript e (.Slice none none (some es) p2) pos) (fun σ H Q=>te σ H fun x H1=>ts σ H1 fun y H2=>∃a xs k,x=.ref a/\y=.int k/\0<k/\l? X.K H2 a xs/\∀p,H2 p=none->Q (.ref p) (upd H2 p (.lst (fX xs k)))):=by
 intro ae s σ H Q I h;refine Subscript_ (dJ (he ae s σ H _ I h) fun v s1⟨x,H1,I1,r1,q1⟩=>?_);refine wpAny_Slice ?_;rw[Ze];refine VC ?_;refine VC ?_;rw[evalPart_some];refine dJ (hs ae s1 σ H1 _ I1 q1) fun v3 s3⟨y,H2,I3,r3,a,xs,k,e1,e2,hk,hx,q⟩=>?_;subst e1 e2;cases r1;obtain⟨tk,rfl⟩:=r3;have I4:aX X ae σ H2 {s3 with heap:=s3.heap.push {cls:=.type "slice",data:=.fields #[.none,.none,.int k tk]} }:=I3.kept (t':=s3.toks) fun b ob q=>Vm _ q;show wpAny (model X.prog X.w) X.A (subscriptTail e (.Slice none none (some es) p2) (.ref a) (.ref s3.heap.objs.size)) (EP X ae σ Q) X.xe {s3 with heap:=s3.heap.push {cls:=.type "slice",data:=.fields #[.none,.none,.int k tk]} };obtain⟨aV,r,ht,hz⟩:=I4.list hx;have hlen:aV.toArray.size=xs.length:=by rw[VF];exact r.length.symm
 refine tail_any (ops:=[.ref a,.ref s3.heap.objs.size]) ht.isList.typeIs YF.lookup ?_ (by with_unfolding_all rfl);refine Zc ht.isList (Heap.IsSliceOf.new ..) .none .none (.int k tk) (by intro z;injection z with z;lia) ?_ (by rw[hlen];exact hz);have ep:slicePick aV.toArray none none (some k)=(fX aV k).toArray:=by
  have b1:(sliceBounds none none (some k) aV.toArray.size).1=0:=by show(if k>0 then(0:Int)else _)=0;rw[VD hk]
  have b2:(sliceBounds none none (some k) aV.toArray.size).2.1=(aV.length:Int):=by show(if k>0 then((aV.toArray.size:Nat):Int)else _)=_;rw[VD hk,VF]
  have b3:(sliceBounds none none (some k) aV.toArray.size).2.2=k:=rfl;unfold slicePick fX;rw[b1,b2,b3];simp only[List.getElem?_toArray]
 rw[ep];refine⟨.ref _,_,I4.laid (t':=s3.toks) (o:=.lst (fX xs k)) (fun b ob q=>Vm _ q) (VA _) ?_,rfl,q _ (I4.dq.fresh (VA _))⟩;refine⟨V! (Ha xs hk) hz,_,0,?_,VL _ rfl⟩;unfold fX;rw[show aV.length=xs.length from r.length.symm];exact pM _ r
end
end L2
namespace MN
open PySem.Spec L2
open PyProof.Rows hiding St kindOf
def Hb(ns:ZX):ZX:=ns.mergeSort fun a b=>decide (a<=b)
theorem wb(ns:ZX):(Hb ns).Perm ns:=List.mergeSort_perm ns _
theorem Cw(ns:ZX):(Hb ns).Pairwise (·<=·):=by
 have h:=ZO (le:=fun(a b:Int)=>decide (a<=b)) (fun a b c h1 h2=>VW (by have:=WL h1;have:=WL h2;lia)) (fun a b=>by
  rw[YD,Xq,Xq];lia) ns
 exact h.imp fun h=>WL h
theorem up_eq{a b:ZX}(p:a.Perm b)(ha:a.Pairwise (·<=·))(hb:b.Pairwise (·<=·)):a=b:=
 List.Perm.eq_of_pairwise (fun x y _ _ h1 h2=>by lia) ha hb p
def oF:FN
 |[.loc n],st=>match D2 st n with
  |some aY=>match ud (aY.map (·.1)) with
   |some ns=>if ns.length<64 then .ok (.loc st.length) (st++[.lst ((Hb ns).map .int)])else .bad
   |none=>.bad
  |none=>.bad
 |_,_=>.bad
def sk(v k:ah)(st:ag):dh ah:=match v,k with
 |.loc n,.int k=>match ak st n with
  |some us=>if 0<k then .ok (.loc st.length) (st++[.lst (fX us k)])else .bad
  |none=>.bad
 |_,_=>.bad
def su(m mk:ME):ME:=fun μ st=>(m μ st).bind fun v st1=>(mk μ st1).bind fun k cJ=>sk v k cJ
section
variable{X:Cx}{E:XK}
theorem zu(hh:X.A.handled=none):cz X (.builtin "sorted") (cM (wo X) E oF):=by
 refine cz.imp (Bj hh) ?_;rintro xs H Q ⟨ρ,st,us,sr,r,h⟩;unfold oF at h;split at h
 .rename_i n;obtain⟨v,rfl,r1⟩:=r.Aw;obtain⟨a,rfl,ha⟩:=r1.fC;split at h
  .rename_i aY e;split at h
   .rename_i ns z;split at h
    .rename_i hn;obtain⟨g7,h1,h2⟩:=Kf sr e ha;refine⟨a,g7,ns,rfl,h1,by rw[<-h2.1];exact D3 z,hn,fun l Cv hl pm pw=>?_⟩;rw[up_eq (pm.trans (wb ns).symm) pw (Cw ns)];obtain⟨k1,k2,k3⟩:=iI sr (bE.ints (Hb ns)) hl;exact h _ _ _ k1 k2 k3
    .exact h.elim
   .exact h.elim
  .exact h.elim
 .exact h.elim
theorem ue{K:ZW}{ρ:Z0}{H:Hp}:∀(is:List Nat){us:List ah}{xs:List V},bE K ρ H us xs->bE K ρ H (is.filterMap fun i=>us[i]?) (is.filterMap fun i=>xs[i]?)
 |[],_,_,_=>bE.nil
 |i::is,us,xs,r=>by
  cases z:us[i]? with
  |none=>
   have:xs[i]?=none:=by rw[Zt]at z⊢;rw[<-r.length];exact z
   rw[Xz z,Xz this];exact ue is r
  |some x=>
   obtain⟨u,hu,ru⟩:=r.get z;rw[Xa z,Xa hu];exact bE.cons ru (ue is r)
theorem D7{e es:Expr}{m mk:ME}{pos p2:Pos}(he:PE X e (tE X E m))(hs:PE X es (tE X E mk)):PE X (.Subscript e (.Slice none none (some es) p2) pos) (tE X E (su m mk)):=by
 refine PE.imp (D6 he hs) ?_;rintro σ H Q ⟨μ,ρ,st,rs,sr,h⟩;refine go μ ρ st rs sr h fun u st1 ρ1 H1 x e1 cS r1 h1=>?_;refine go μ ρ1 st1 (rs.mono e1) cS h1 fun k cJ ρ2 H2 z e2 oX r2 h2=>?_;have r1':=Rl.mono e2 _ _ r1;cases u with
 |loc n=>
  cases k with
  |int k=>
   unfold sk at h2;dsimp only at h2;cases hn:ak cJ n with
   |none=>rw[hn]at h2;exact h2.elim
   |some us=>
    rw[hn]at h2;dsimp only at h2;by_cases hk:0<k
    .rw[VD hk]at h2;obtain⟨a,rfl,ha⟩:=r1'.fC;obtain⟨vs,h3,rv⟩:=bH oX hn ha;refine⟨a,vs,k,rfl,by rw[r2.cT],hk,h3,fun p hp=>?_⟩;have rr:bE X.K ρ2 H2 (fX us k) (fX vs k):=by unfold fX;rw[show us.length=vs.length from rv.length];exact ue _ rv
     obtain⟨k1,k2,k3⟩:=iI oX rr hp;exact h2 _ _ _ k1 k2 k3
    .rw[VI hk]at h2;exact h2.elim
  |_=>exact h2.elim
 |_=>exact h2.elim
end
end MN
namespace PM
open PySem.Spec L2 MN
open PyProof.Rows hiding St
def eR:FN:=gO 2 2 (bG (ai PM.dB (aa a! (aa bw (aa (ai PM.inverse (aa a! (aa (af bN bw (iK b!)) aj))) aj)))))
def d7:FN:=gO 3 6 (aC (aO 3 bw) (aC (aO 4 cW) (aC (cN (b8 (af uX (ai bx (aa eg aj)) dF)) (aC (aO 5 (af bN (ai PM.parted (aa a! (aa eh (aa eg aj)))) b!)) (aC (aO 3 eg) (aO 4 j?)))) (bG (ai PM.eR (aa a! (aa eh aj)))))))
def gb:FN:=gO 2 10 (aC (aO 2 w?) (aC (aO 3 b!) (aC (aO 4 bw) (aC (cN (b8 (af uX (ai bx (aa eg aj)) b!)) (aC (aO 5 (ai PM.d7 (aa a! (aa eg (aa (ai PM.e? (aa a! (aa eg aj))) aj))))) (aC (aO 6 (af bN (ai PM.parted (aa a! (aa eg (aa j? aj)))) dF)) (aC (aO 7 eh) (aC (cN (b8 (af uX (ai bx (aa qm aj)) b!)) (aC (aO 8 (ai PM.d7 (aa a! (aa qm (aa j? aj))))) (aC (aO 9 (af bN (ai PM.parted (aa a! (aa qm (aa BW aj)))) dF)) (aC (ij (b8 (af uX (ai bx (aa Ek aj)) b!)) (xa cW uW Ek) bT) (aC (aO 6 BW) (aC (aO 5 (af bN (ai PM.parted (aa a! (aa j? (aa BW aj)))) dF)) (Gg 7 DI eh))))))) (aC (aO 4 (su j? a!)) (aO 3 (af bV eh a!)))))))) (bG cW)))))
def gH:FN:=gO 2 3 (aC (ij (b8 (af h! (ai bx (aa bw aj)) dF)) (bG (mC .dg)) bT) (aC (aO 2 (ai PM.met (aa a! (aa bw (aa (ai PM.e? (aa a! (aa bw aj))) aj))))) (bG (QJ (b8 (af h! (ai bx (aa (af bN cW dF) aj)) b!)) (jt (aa (af bN cW KR) (aa (af bN cW Fv) aj))) (mC .dg)))))
def fU:FN:=gO 2 3 (aC (ij (b8 (af h! (ai bx (aa bw aj)) dF)) (iS "NoParts" (aa (qs "nought has no parts") aj)) bT) (aC (aO 2 (ai PM.gb (aa a! (aa (ai PM.eR (aa a! (aa bw aj))) aj)))) (bG (jt (aa (af bN bw (iK b!)) (aa (dX 1 [2] (g_ (ai oF (aa cW aj))) (aI 0) bO (jt (aa (af qp bw a!) (aa a! aj)))) aj))))))
def gv:FN:=gO 2 2 (aC (iB (ai PM.dG (aa a! aj))) (bG (ai PM.gH (aa a! (aa bw aj)))))
def parts:FN:=gO 2 2 (aC (iB (ai PM.dG (aa a! aj))) (bG (ai PM.fU (aa a! (aa bw aj)))))
end PM
namespace PG
open PySem.Spec L2 MN
open PyProof.Rows hiding St kindOf
section
variable{μ:MN.Env}{s s1 s2:ag}{a b:ME}{f:F2}{x y:ah}{r:dh ah}{t u:MT}{c:Bool}{B:MB}
theorem xI(h1:a μ s=.ok x s1)(h2:b μ s1=.ok y s2):af f a b μ s=f x y s2:=by show(a μ s).bind _=_;rw[h1];show(b μ s1).bind _=_;rw[h2]
theorem Ot(h:a μ s=.ok (.bl c) s1):b8 a μ s=.ok c s1:=by rw[aQ,h];rfl
end
theorem Lr{s:ag}{n:Nat}{c:aB}(h:s[n]?=some c):n<s.length:=by
 rcases WG n s.length with q|q
 .exact q
 .rw[VZ q]at h;cases h
section
variable{μ:MN.Env}{s s1 s2:ag}{m:ME}{o j:Int}{t:MT}{B:MB}
theorem pN{i:Nat}{v:ah}(h:m μ s=.ok v s1):aO i m μ s=.nx (μ.set i (some v)) s1:=by rw[bo,h,aD];rfl
theorem Ou{v:ah}(h:m μ s=.ok v s1):aa m aj μ s=.ok [v] s1:=by rw[au,h,ao,aH,aG,ao,av]
theorem RQ{m2:ME}{v w:ah}(h:m μ s=.ok v s1)(h2:m2 μ s1=.ok w s2):aa m (aa m2 aj) μ s=.ok [v,w] s2:=by rw[au,h,ao,aH,Ou h2,ao,av]
theorem RT{m2:MA}{v:ah}{ws:List ah}(h:m μ s=.ok v s1)(h2:m2 μ s1=.ok ws s2):aa m m2 μ s=.ok (v::ws) s2:=by rw[au,h,ao,aH,h2,ao,av]
theorem mK{f:FN}{a:MA}{vs:List ah}(h:a μ s=.ok vs s1):ai f a μ s=f vs s1:=by rw[aA,h,ao]
end
section
variable{p:Int}{n m:Nat}{A B:ZX}{st:ag}
theorem zx(hp:eZ p=true)(ln:st[n]?=some (aq A))(hA:Row p A)(nA:A≠[])(hl:A.length<=100000):
  ∃ar k t,PM.eR [.int p,.loc n] st=.ok (.loc k) ar/\Fr st ar/\st.length<=k/\ar[k]?=some (aq (mulR p t A))/\(t*aJ A) % p=1:=by
 have hr:=aF hp;have la:=hA.last (by lia) nA;have nz:¬ aJ A % p=0:=by rw[V? (by lia) la.2];lia
 obtain⟨g,t,e1,_,_,t3⟩:=fR hp nz st;obtain⟨s',k,e2,F,lk,ck⟩:=j7 hp t (show(st++g)[n]?=some (aq A)from Fr.app st g _ _ ln) hA hl;refine⟨s',k,t,?_,(Fr.app st g).trans F,by have:=lk;rw[Vn]at this;lia,ck,t3⟩;have ix:af bN bw (iK b!) [some (.int p),some (.loc n)] st=.ok (.int (aJ A)) st:=by rw[xI (x:=.loc n) (s1:=st) rfl (y:=.int (-1)) (s2:=st) rfl];exact c! (ay ln) (jl nA)
 unfold PM.eR;rw[bI (np:=2) (us:=[ah.int p,.loc n]) rfl];show(bG _ [some (.int p),some (.loc n)] st).fin=_;rw[bh,mK (RT (v:=.int p) (s1:=st) rfl (RQ (v:=.loc n) (s1:=st) rfl (w:=.int t) (s2:=st++g) (by rw[mK (RQ (v:=.int p) (s1:=st) rfl ix),e1]))),e2,aD];rfl
structure Ls(p:Int)(A B G:ZX):Prop where
 r:Row p G
 n:G≠[]
 l:aJ G=1
 a:a8 p (cf A) (mF (b? p A G) (cf G))
 b:a8 p (cf B) (mF (b? p B G) (cf G))
 c:∃u v,a8 p (cf G) (fun k=>mF u (cf A) k+mF v (cf B) k)
def aak(μ:MN.Env)(s:ag):Nat:=match(μ[4]?:Option (Option ah)) with
 |some (some (.loc k))=>f_ k s
 |_=>0
structure Cy(p:Int)(A B:ZX)(N:Nat)(st:ag)(x1 x2:Option ah)(μ:MN.Env)(s:ag)(a b:Nat)(g0 u0 v0 g1 u1 v1:ZX):Prop where
 env:∃x5,μ=[qI p, x1, x2, qL a, qL b, x5]
 fr:Fr st s
 inv:iq p A B N g0 u0 v0 g1 u1 v1
 la:s[a]?=some (aq g0)
 lb:s[b]?=some (aq g1)
abbrev RU:MT:=b8 (af uX (ai bx (aa eg aj)) dF)
abbrev Tg:MB:=aC (aO 5 (af bN (ai PM.parted (aa a! (aa eh (aa eg aj)))) b!)) (aC (aO 3 eg) (aO 4 j?))
theorem Kg(hp:eZ p=true){N:Nat}(hN:N<=50000){x1 x2:Option ah}{μ:MN.Env}{s:ag}{a b:Nat}{g0 u0 v0 g1 u1 v1:ZX}(h:Cy p A B N st x1 x2 μ s a b g0 u0 v0 g1 u1 v1):
  ∃μ' s',cN RU Tg μ s=.nx μ' s'/\∃a b g u v u1 v1,Cy p A B N st x1 x2 μ' s' a b g u v [] u1 v1:=by
 refine fc (t:=RU) (body:=Tg) (fun μ s=>∃a b g0 u0 v0 g1 u1 v1,Cy p A B N st x1 x2 μ s a b g0 u0 v0 g1 u1 v1) aak (fun μ s=>∃a b g u v u1 v1,Cy p A B N st x1 x2 μ s a b g u v [] u1 v1) ?_ μ s ⟨a,b,g0,u0,v0,g1,u1,v1,h⟩;rintro μ s ⟨a,b,g0,u0,v0,g1,u1,v1,h⟩;obtain⟨x5,rfl⟩:=h.env;have Cm:RU [qI p, x1, x2, qL a, qL b, x5] s=.ok (decide ((0:Int)<(g1.length:Int))) s:=by refine Ot ?_;rw[xI (x:=.int ((g1.map ah.int).length:Int)) (s1:=s) (by rw[mK (Ou (v:=.loc b) (s1:=s) rfl),a7 (ay h.lb)]) (y:=.int 0) (s2:=s) rfl,Vl];rfl
 by_cases hg:g1=[]
 .subst hg;exact .inl ⟨s,by rw[Cm];rfl,a,b,g0,u0,v0,u1,v1,h⟩
 .have hg0:0<g1.length:=Vz.mpr hg;have hr:=aF hp;have O?:=h.inv.r1.last (by lia) hg;have nz:¬ aJ g1 % p=0:=by rw[V? (by lia) O?.2];lia
  have l0:=h.inv.Oa;have l1:=h.inv.Rv;obtain⟨s',k1,k2,e,F,_,_,_,c1,c2⟩:=gW hp (ay h.la) h.lb hg nz (by lia) (by lia);refine .inr ⟨s,[qI p, x1, x2, qL b, qL k2, qL k2],s',by rw[Cm,VW (by lia)],.inl ?_,⟨b,k2,g1,u1,v1,_,_,_,⟨_,rfl⟩,h.fr.trans F,h.inv.step hp hg,F _ _ h.lb,c2⟩,?_⟩
  .show aC _ _ _ s=_;rw[aT,pN (v:=.loc k2) (s1:=s') (by rw[xI (x:=.tup [.loc k1,.loc k2]) (s1:=s') (by rw[mK (vs:=[.int p,.loc a,.loc b]) (s1:=s) rfl,e]) (y:=.int 1) (s2:=s') rfl];rfl),aW];rfl
  .show f_ k2 s'<f_ b s;unfold f_;rw[ay c2,ay h.lb];show((ko p g0 g1).map ah.int).length<(g1.map ah.int).length;rw[Vl,Vl];exact(fI hp (as:=g0) hg nz).2.2.1
theorem Bk(hp:eZ p=true)(ln:st[n]?=some (aq A))(lm:st[m]?=some (aq B))(hA:Row p A)(hB:Row p B)(hn:A≠[]\/B≠[])(pf:A.length<=5000)(qH:B.length<=5000):
  ∃ar k G,PM.d7 [.int p,.loc n,.loc m] st=.ok (.loc k) ar/\Fr st ar/\st.length<=k/\ar[k]?=some (aq G)/\Ls p A B G/\G.length<=20000:=by
 have hr:=aF hp;obtain⟨μ',s',ew,a,b,g,u,v,u1,v1,H⟩:=Kg (A:=A) (B:=B) (st:=st) hp (N:=A.length+B.length+1) (by lia) (x1:=some (.loc n)) (x2:=some (.loc m)) (μ:=[some (.int p),some (.loc n),some (.loc m),some (.loc n),some (.loc m),none]) (s:=st) (a:=n) (b:=m) ⟨⟨_,rfl⟩,Fr.refl st,iq.start (by lia) hA hB hn,ln,lm⟩;obtain⟨x5,rfl⟩:=H.env;have ng:g≠[]:=by rcases H.inv.ne with z|z;exact z;exact absurd rfl z
 have lg:=H.inv.Oa;obtain⟨s2,k,t,e2,F2,lk,ck,ht⟩:=zx hp H.la H.inv.r0 ng (by lia);obtain⟨rG,nG,lG,cA,cB,cG⟩:=H.inv.done hp hA hB ht;refine⟨s2,k,mulR p t g,?_,H.fr.trans F2,by have:=H.fr.len;lia,ck,⟨rG,nG,lG,cA,cB,_,_,cG⟩,by have:=k! p t g;lia⟩;unfold PM.d7;rw[bI (np:=3) (us:=[ah.int p,.loc n,.loc m]) rfl];show(aC (aO 3 bw) (aC (aO 4 cW) (aC (cN RU Tg) (bG _))) [qI p, qL n, qL m, qn, qn, qn] st).fin=_;rw[aT,pN (v:=.loc n) (s1:=st) rfl,aW,aT,pN (v:=.loc m) (s1:=st) rfl,aW];show(aC (cN RU Tg) (bG _) [qI p, qL n, qL m, qL n, qL m, qn] st).fin=_;rw[aT,ew,aW,bh,mK (vs:=[.int p,.loc a]) (s1:=s') rfl,e2,aD];rfl
end
theorem oG{p:Int}(hp:0<p){A Q G:ZX}(hA:Row p A)(nA:A≠[])(hQ:Row p Q)(nG:G≠[])(lG:aJ G=1)(h:a8 p (cf A) (mF Q (cf G))):Q≠[]/\A.length+1=Q.length+G.length/\aJ A=aJ Q:=by
 have nQ:Q≠[]:=by intro z;rw[z]at h;exact nA (Row.ext hp hA (Row.nil p) (h.trans (a8.of_eq fun k=>by rw[j5,ff])))
 have lq:=hQ.last hp nQ;have q0:0<Q.length:=Vz.mpr nQ;have g0:0<G.length:=Vz.mpr nG;obtain⟨N,hN⟩:∃N,N=Q.length-1+(G.length-1):=⟨_,rfl⟩
 have t:=xC Q G nQ nG;rw[<-hN,lG,Xg]at t;have c:=Cg.eq hp (h N);rw[t,d_ (hA.Eo hp N).1 (hA.Eo hp N).2,d_ (by lia) lq.2]at c;have l1:A.length<=N+1:=iY hA.cut fun k hk=>by have c:=Cg.eq hp (h k);rw[Bd (as:=Q) (bs:=G) (by lia),d_ (hA.Eo hp k).1 (hA.Eo hp k).2,d_ (Yu 0) hp]at c;exact c
 have l2:N<A.length:=by
  rcases WG N A.length with z|z
  .exact z
  .rw[fg z]at c;lia
 refine⟨nQ,by lia,?_⟩;rw[<-c];show cf A (A.length-1)=_;rw[show A.length-1=N by lia]
theorem Cz{U:ZX}{p:Int}{m:Nat}(hp:0<p)(h:(U.length:Int)=p*m+1):fX U p=(List.range (m+1)).map fun j=>U.getD (p.toNat*j) 0:=by
 have cnt:(if p>0 then(if(0:Int)<(U.length:Int) then((U.length:Int)-0+p-1) / p else 0) else(if(0:Int)>(U.length:Int) then(0-(U.length:Int)-p-1) / (-p)else 0)).toNat=m+1:=by rw[VD hp,h];have m0:0<=p*(m:Int):=X? (by lia) (by lia);rw[VD (by lia),show p*(m:Int)+1-0+p-1=p*((m:Int)+1) by rw[Xh,Xg];lia,Int.mul_ediv_cancel_left _ (by lia)];lia
 unfold fX sliceRange;simp only[];rw[cnt,List.filterMap_map];have:∀l:List Nat,(∀j∈l,j<=m)->l.filterMap ((fun i=>U[i]?) ∘ fun k:Nat=>(0+p*(k:Int)).toNat)=l.map fun j=>U.getD (p.toNat*j) 0:=by
  intro l
  induction l with
  |nil=>intro _;rfl
  |cons j l ih=>
   intro hj;have e:(0+p*(j:Int)).toNat=p.toNat*j:=by
    have:((p.toNat*j:Nat):Int)=p*(j:Int):=by rw[WY,V8 (by lia)]
    lia
   have lt:p.toNat*j<U.length:=by
    have h1:p.toNat*j<=p.toNat*m:=Y' _ (hj j (VS ..));have h2:((p.toNat*m:Nat):Int)=p*(m:Int):=by rw[WY,V8 (by lia)]
    lia
   rw[Vr,<-ih fun i hi=>hj i (VN _ hi),Xa (b:=U.getD (p.toNat*j) 0)];show U[(0+p*(j:Int)).toNat]?=_;rw[e,Vp lt,Vx,Vp lt];rfl
 exact this _ fun j hj=>by have:=X!.mp hj;lia
theorem Hc{α β:Type}(f:α->β)(xs:List α)(k:Int):fX (xs.map f) k=(fX xs k).map f:=by unfold fX;rw[Vl,List.map_filterMap];congr 1;funext i;rw[VG]
theorem Kh{p:Int}(hp:2<=p){U:ZX}(hU:Row p U)(nU:U≠[])(l1:aJ U=1)(hm:((U.length:Int)-1) % p=0):
  Row p (fX U p)/\fX U p≠[]/\aJ (fX U p)=1/\(fX U p).length<=U.length/\(1<U.length->(fX U p).length<U.length):=by
 have u0:0<U.length:=Vz.mpr nU;obtain⟨m,h⟩:∃m:Nat,(U.length:Int)=p*m+1:=by have h1:=V6 ((U.length:Int)-1) p;have h2:0<=((U.length:Int)-1) / p:=YC (by lia) (by lia);refine⟨(((U.length:Int)-1) / p).toNat,?_⟩;rw[V8 h2];lia
 have e:=Cz (by lia) h;have len:(fX U p).length=m+1:=by rw[e,Vl,VQ]
 have hpm:((p.toNat*m:Nat):Int)=p*(m:Int):=by rw[WY,V8 (by lia)]
 have la:aJ (fX U p)=1:=by unfold aJ at l1⊢;rw[len,e,show m+1-1=m by lia,Vx,VG,V7 (by lia)];show U.getD (p.toNat*m) 0=1;rw[show p.toNat*m=U.length-1 by lia];exact l1
 have ne:fX U p≠[]:=fun z=>by rw[z]at len;simp at len
 have hmp:2*(m:Int)<=p*m:=W? hp (by lia);refine⟨⟨?_,?_⟩,ne,la,by lia,fun h1=>by lia⟩
 .rcases iX (fX U p)with z|⟨ms,x,z⟩
  .exact absurd z ne
  .unfold Cut;rw[z];refine fS ?_ ms;have:aJ (fX U p)=x:=by rw[z];unfold aJ;simp
   rw[la]at this;rw[<-this];rfl
 .intro a ha;rw[e]at ha;obtain⟨j,_,rfl⟩:=Wc.mp ha;exact hU.Eo (by lia) (p.toNat*j)
section
variable{p:Int}
structure ky(p:Int)(A:ZX):Prop where
 row:Row p A
 ne:A≠[]
 l1:aJ A=1
theorem ky.cancel(hp:0<p){F:ZX}(h:ky p F)(x y:aE p)(e:aL F*x=aL F*y):x=y:=by revert e;revert x;refine dN fun a=>?_;revert y;refine dN fun b=>?_;intro e;have:=G5 e;exact mk_eq (xD hp h.ne h.l1 (((a8.of_eq (bg F a)).symm.trans this).trans (a8.of_eq (bg F b))))
theorem Ow(hp:0<p)(x:aE p):∃r,Row p r/\x=aL r:=by revert x;refine dN fun a=>?_;exact⟨b9 (a.map (·.fmod p)),Row.of hp a,mk_eq (Row.cg hp a).symm⟩
theorem xJ(hp:0<p){A G:ZX}(hA:Row p A)(nA:A≠[])(hG:ky p G){x:aE p}(h:aL A=aL G*x):∃Q,Row p Q/\x=aL Q/\Q≠[]/\A.length+1=Q.length+G.length:=by obtain⟨Q,hQ,rfl⟩:=Ow hp x;have e:=G5 (h.trans (cj _ _));obtain⟨n,l,_⟩:=oG hp hA nA hQ hG.ne hG.l1 (e.trans (a8.of_eq (bg Q G)));exact⟨Q,hQ,rfl,n,l⟩
theorem zy(hp:0<p){D U:ZX}(hD:ky p D)(lD:2<=D.length){S1 z T a b:aE p}(hz:dP (aL D*S1)=aL D*z)(hT:T*aL U=(aL D*S1)*dP (aL U))(hb:a*aL D+b*T=1):∀(m:Nat)(V:ZX)(W c:aE p),V.length<=m->Row p V->V≠[]->aL U=W*aL V->aL D*dP W=c*W*dP (aL D)->(∀x y:aE p,W*x=W*y->x=y)->False
 |0,V,_,_,hl,_,nV,_,_,_=>nV (ZQ.mp (by lia))
 |m+1,V,W,c,hl,hV,nV,hU,hW,cn=>by
  obtain⟨V',e⟩:=SA.Ry (d:=dP) iu (S:=aL D*S1) rfl hz hT hb hW hU cn;obtain⟨Q,hQ,eQ,nQ,lQ⟩:=xJ hp hV nV hD e;refine zy hp hD lD hz hT hb m Q (aL D*W) (1+c) (by lia) hQ nQ ?_ (SA.aah iu hW) fun x y h=>cn x y (hD.cancel hp _ _ ?_)
  .rw[hU,e,eQ];grind
  .rw[<-gF,<-gF];exact h
theorem RV(hp:2<=p){D U S:ZX}(hD:ky p D)(hU:ky p U)(hS:ky p S){f w a b a2 b2 S1 z:aE p}(hf:f=aL S*aL U)(hw:dP f=aL U*w)(hg:aL U=a*f+b*dP f)(e1:aL S=aL D*S1)(e2:dP (aL S)=aL D*z):D=[1]:=by
 have gn:0<p:=by lia
 have df:dP f=dP (aL S)*aL U+aL S*dP (aL U):=by rw[hf,iu]
 by_cases lD:2<=D.length
 .exfalso;have h1:a*aL S+b*w=1:=by
   refine hU.cancel gn _ _ ?_
   grind
  refine zy gn hD lD (U:=U) (S1:=S1) (z:=z) (T:=w-dP (aL S)) (a:=a*S1+b*z) (b:=b) (by rw[<-e1];exact e2) (by rw[<-e1];grind) (by grind) U.length U 1 0 (VA _) hU.row hU.ne (by grind) ?_ (fun x y h=>by grind);have:dP (1:aE p)=0:=by
   have h:=iu (1:aE p) 1
   grind
  rw[this];grind
 .cases hh:D with
  |nil=>exact absurd hh hD.ne
  |cons x l=>
   have l0:l=[]:=by rw[hh,Vk]at lD;exact ZQ.mp (by lia)
   have:=hD.l1;rw[hh,l0]at this;rw[l0];rw[show x=1 from this]
end
end PG
namespace SA
section
variable{R:Type}[Lean.Grind.CommRing R]{d:R->R}
theorem cI.pow{a b:R}(h:cI a b):∀n:Nat,cI a (b ^ n)
 |0=>by rw[WX];exact cI.one
 |n+1=>by rw[Wy];exact(cI.pow h n).mul h
theorem cI.of_dvd{a b c:R}(h:cI a b){x:R}(e:b=c*x):cI a c:=by rw[e]at h;exact h.Bf
theorem cI.unit{a b:R}(h:cI a b){x:R}(e:b=a*x):∃z,a*z=1:=xF h (c:=a) (x:=1) (y:=x) (by grind) e
def cst:Nat->R
 |0=>0
 |n+1=>cst n+1
theorem RW(dm:∀a b,d (a*b)=d a*b+a*d b)(P:R):∀n:Nat,P*d (P ^ n)=cst n*P ^ n*d P
 |0=>by
  have h:d (1:R)=0:=by have:=dm (1:R) 1;grind
  rw[WX,h];show P*0=0*1*d P
  grind
 |n+1=>by
  have ih:=RW dm P n;rw[Wy,dm];show _=(cst n+1)*(P ^ n*P)*d P;generalize P ^ n=w at *;generalize (cst n:R)=c at *
  grind
theorem mul_pow(P G:R):∀m:Nat,(P*G) ^ m=P ^ m*G ^ m
 |0=>by rw[WX,WX,WX];grind
 |n+1=>by
  rw[Wy,Wy,Wy,mul_pow P G n];generalize P ^ n=w;generalize G ^ n=v
  grind
theorem zr(dm:∀a b,d (a*b)=d a*b+a*d b){P W Q F S U x a b:R}(hF:F=W*Q)(hW:d W=0)(hFS:F=S*U)(hg:U=a*F+b*d F)(hS:S=P*x)(hc:cI P Q)(cn:∀x y:R,W*x=W*y->x=y):∃z,P*z=1:=by
 have e1:d F=W*d Q:=by rw[hF,dm,hW];grind
 have e2:Q=P*(x*(a*Q+b*d Q)):=by
  apply cn
  grind
 exact hc.unit e2
theorem step_eq{F Q S U P G V:R}{m:Nat}(hF:F=Q*S ^ m*U)(hS:S=P*G)(hU:U=G*V):F=(Q*P ^ m)*G ^ (m+1)*V:=by
 rw[hF,hS,mul_pow,hU,Wy];generalize P ^ m=w;generalize G ^ m=v
 grind
theorem Hd(dm:∀a b,d (a*b)=d a*b+a*d b){S U P G V a b:R}(hS:S=P*G)(hU:U=G*V)(hG:G=a*S+b*U)(hs:cI S (d S)):cI P G/\cI P (d P)/\cI G (d G)/\cI P U/\cI P V:=by rw[hS]at hs;obtain⟨h1,h2,h3⟩:=xE dm hs;have h4:=G0 hS hG h1;exact⟨h1,h2,h3,h4,h4.of_dvd (x:=G) (by grind)⟩
theorem He{T S U P G V:R}(hS:S=P*G)(hU:U=G*V)(h1:cI T S)(h2:cI T U):cI T P/\cI T G/\cI T V:=⟨h1.of_dvd hS,h1.of_dvd (x:=P) (by grind),h2.of_dvd (x:=G) (by grind)⟩
end
end SA
namespace PG
open PySem.Spec L2 MN
open PyProof.Rows hiding St kindOf
def pO:ZX->ZX->ZX
 |a::as,b::bs=>(a+b)::pO as bs
 |_,_=>[]
theorem uf:∀{as bs:ZX},as.length=bs.length->(pO as bs).length=as.length
 |[],[],_=>rfl
 |a::as,b::bs,h=>by show(pO as bs).length+1=as.length+1;rw[uf (Ym h)]
def br:Nat->ZX
 |0=>[1]
 |n+1=>pO (br n++[0]) (0::br n)
theorem ug:∀n,(br n).length=n+1
 |0=>rfl
 |n+1=>by have h:=ug n;show(pO (br n++[0]) (0::br n)).length=_;rw[uf (by rw[Vn,Vk];rfl),Vn,h];rfl
theorem xK:∀{as bs:ZX},as.length=bs.length->∀k,cf (pO as bs) k=cf as k+cf bs k
 |[],[],_,k=>by show cf [] k=cf [] k+cf [] k;rw[ff];rfl
 |a::as,b::bs,h,0=>rfl
 |a::as,b::bs,h,k+1=>by show cf ((a+b)::pO as bs) (k+1)=_;rw[cC,cC,cC];exact xK (Ym h) k
theorem uh:∀(as:ZX)(k:Nat),cf (as++[0]) k=cf as k
 |[],k=>by show cf [0] k=cf [] k;rw[mJ,ff]
 |a::as,0=>rfl
 |a::as,k+1=>by show cf (a::(as++[0])) (k+1)=_;rw[cC,cC];exact uh as k
theorem ui(n k:Nat):cf (br (n+1)) (k+1)=cf (br n) (k+1)+cf (br n) k:=by show cf (pO (br n++[0]) (0::br n)) (k+1)=_;rw[xK (by rw[Vn,Vk];rfl),uh,cC]
theorem sv:∀n,cf (br n) 0=1
 |0=>rfl
 |n+1=>by show cf (pO (br n++[0]) (0::br n)) 0=_;rw[xK (by rw[Vn,Vk];rfl),uh,sv n];rfl
theorem sA:∀(n k:Nat),((k:Int)+1)*cf (br (n+1)) (k+1)=((n:Int)+1)*cf (br n) k
 |0,0=>by decide
 |0,k+1=>by rw[ui];have e1:cf (br 0) (k+1+1)=0:=fg (by rw[ug];lia);have e2:cf (br 0) (k+1)=0:=fg (by rw[ug];lia);rw[e1,e2,We];show((k+1:Nat)+1:Int)*(0+0)=0;lia
 |n+1,0=>by have h:=sA n 0;rw[ui,sv];rw[sv]at h;have e:((0:Nat):Int)+1=1:=rfl;rw[e]at h⊢;rw[Wv]at h⊢;rw[h];lia
 |n+1,k+1=>by
  have h1:=sA n (k+1);have h2:=sA n k;have r:=ui n k;rw[ui (n+1) (k+1)];rw[XD,XC]at h1⊢;rw[XD,XC];generalize cf (br (n+1)) (k+1+1)=A at *;generalize cf (br (n+1)) (k+1)=B at *;generalize cf (br n) (k+1)=C at *;generalize cf (br n) k=E at *
  grind
section
variable{p:Int}
def hm(a b:aE p):ZX->aE p
 |[]=>0
 |c::l=>aL [c]*b ^ l.length+a*hm a b l
theorem Bl(x:aE p):x ^ 0=1:=rfl
theorem uj(x:aE p)(n:Nat):x ^ (n+1)=x ^ n*x:=rfl
theorem mk0:(aL [0]:aE p)=0:=rfl
theorem CA:(aL [1]:aE p)=1:=rfl
theorem CB(a b:aE p):∀l:ZX,hm a b (l++[0])=b*hm a b l
 |[]=>by show aL [0]*b ^ 0+a*0=b*0;rw[mk0,Bl];grind
 |c::l=>by
  show aL [c]*b ^ (l++[0]).length+a*hm a b (l++[0])=b*(aL [c]*b ^ l.length+a*hm a b l);rw[CB a b l,Vn,show([0]:ZX).length=1 from rfl,uj];generalize b ^ l.length=w;generalize hm a b l=v
  grind
theorem Hf(a b:aE p):∀{as bs:ZX},as.length=bs.length->hm a b (pO as bs)=hm a b as+hm a b bs
 |[],[],_=>by show(0:aE p)=0+0;grind
 |x::as,y::bs,h=>by
  have l:=Ym h;show aL [x+y]*b ^ (pO as bs).length+a*hm a b (pO as bs)=(aL [x]*b ^ as.length+a*hm a b as)+(aL [y]*b ^ bs.length+a*hm a b bs);rw[Hf a b l,uf l,sj,<-l];generalize b ^ as.length=w;generalize hm a b as=v;generalize hm a b bs=u
  grind
theorem Hg(a b:aE p):∀n,(a+b) ^ n=hm a b (br n)
 |0=>by show 1=aL [1]*b ^ 0+a*0;rw[Bl,CA];grind
 |n+1=>by
  rw[uj,Hg a b n];show _=hm a b (pO (br n++[0]) (0::br n));rw[Hf a b (by rw[Vn,Vk];rfl),CB];show _=b*hm a b (br n)+(aL [0]*b ^ (br n).length+a*hm a b (br n));rw[mk0];generalize hm a b (br n)=v;generalize b ^ (br n).length=w
  grind
end
theorem RX{p n:Int}(h:eZ p=true)(hn:¬ n % p=0):∃t,(t*n) % p=1:=let⟨_,t,_,_,_,e⟩:=fR h hn [];⟨t,e⟩
theorem wc{p n c:Int}(h:eZ p=true)(hn:¬ n % p=0)(e:(n*c) % p=0):c % p=0:=by
 obtain⟨t,ht⟩:=RX h hn;have e1:(t*n*c) % p=c % p:=by rw[XF,ht,Wv,Ya _ (Y6 p)]
 rw[<-e1,Wt,XF,e,We,Xk]
theorem Hh:∀n,cf (br n) n=1
 |0=>rfl
 |n+1=>by rw[ui,Hh n,fg (by rw[ug];lia)];rfl
section
variable{p:Int}
theorem Ox(h:eZ p=true){n k:Nat}(hn:p=(n:Int)+1)(hk:k<n):cf (br (n+1)) (k+1) % p=0:=by
 have e:=sA n k;refine wc h (n:=(k:Int)+1) ?_ ?_
 .rw[V? (by lia) (by lia)];lia
 .rw[e,<-hn,XF,Int.emod_self,W6,Xk]
theorem Hi{c:Int}(h:c % p=0):(aL [c]:aE p)=0:=by refine mk_eq fun k=>?_;show Cg p (cf [c] k) (cf [0] k);rw[mJ,j6];obtain⟨q,hq⟩:=Xm h;exact⟨q*one k,by rw[hq,Wt];lia⟩
theorem hmz(a b:aE p):∀(l:ZX),l≠[]->(∀k,k+1<l.length->cf l k % p=0)->hm a b l=aL [cf l (l.length-1)]*a ^ (l.length-1)
 |[],h,_=>absurd rfl h
 |[c],_,_=>by show aL [c]*b ^ 0+a*0=aL [c]*a ^ 0;rw[Bl,Bl];grind
 |c::x::l,_,h=>by
  have ih:=hmz a b (x::l) (Yf _ _) fun k hk=>by have:=h (k+1) (by rw[Vk];lia);rw[cC]at this;exact this
  have h0:=h 0 (by rw[Vk,Vk];lia);show aL [c]*b ^ (x::l).length+a*hm a b (x::l)=aL [cf (c::x::l) (l.length+1)]*a ^ (l.length+1);rw[Hi (show c % p=0 from h0),ih,cC,uj];show 0*_+a*(aL [cf (x::l) l.length]*a ^ l.length)=_;generalize a ^ l.length=w;generalize b ^ (x::l).length=v;generalize (aL [cf (x::l) l.length]:aE p)=u
  grind
theorem RY(h:eZ p=true)(a b:aE p):(a+b) ^ p.toNat=a ^ p.toNat+b ^ p.toNat:=by
 have hr:=aF h;obtain⟨n,hn⟩:∃n:Nat,p=(n:Int)+1:=⟨(p-1).toNat,by lia⟩
 have ep:p.toNat=n+1:=by lia
 rw[ep,Hg];have hl:=ug (n+1);cases hb:br (n+1) with
 |nil=>rw[hb]at hl;cases hl
 |cons c l=>
  have ll:l.length=n+1:=by rw[hb,Vk]at hl;lia
  have c1:c=1:=by have:=sv (n+1);rw[hb]at this;exact this
  have z:=hmz a b l (fun z=>by rw[z]at ll;cases ll) fun k hk=>by have:=Ox h hn (k:=k) (by lia);rw[hb,cC]at this;exact this
  have t:=Hh (n+1);rw[hb,cC]at t;show aL [c]*b ^ l.length+a*hm a b l=_;rw[z,ll,show n+1-1=n from rfl,t,c1,CA,uj a n];generalize a ^ n=w;generalize b ^ (n+1)=v
  grind
end
section
variable{p:Int}
def Xp:aE p:=aL [0,1]
theorem xM(c:Int)(l:ZX):(aL (c::l):aE p)=aL [c]+Xp*aL l:=by
 refine g? fun k=>?_;rw[d5,bg];have e:mF [0,1] (cf l) k=gw (cf l) k:=by show 0*cf l k+gw (mF [1] (cf l)) k=_;rw[dH (fun j=>by rw[qw,Wv]) k];lia
 rw[e];cases k with
 |zero=>show c=c+0;lia
 |succ k=>
  rw[cC,cC,ff];show _=0+cf l k;lia
theorem zA(m:ZX):∀n:Nat,(aL (List.replicate n 0++m):aE p)=Xp ^ n*aL m
 |0=>by rw[Bl];show aL m=1*aL m;grind
 |n+1=>by
  rw[Vy,VB,xM,zA m n,mk0,uj];generalize (Xp:aE p) ^ n=w
  grind
theorem one_pow:∀n:Nat,(1:aE p) ^ n=1
 |0=>rfl
 |n+1=>by rw[uj,one_pow n];grind
theorem CC(h:eZ p=true):∀n:Nat,(aL [(n:Int)]:aE p) ^ p.toNat=aL [(n:Int)]
 |0=>by
  have hr:=aF h;obtain⟨n,hn⟩:∃n:Nat,p.toNat=n+1:=⟨p.toNat-1,by lia⟩
  show(0:aE p) ^ p.toNat=0;rw[hn,uj];grind
 |n+1=>by rw[XD,XC,sj,RY h,CC h n,CA,one_pow]
def RZ(P:Nat):ZX->ZX
 |[]=>[]
 |c::l=>c::(List.replicate (P-1) 0++RZ P l)
theorem CD(h:eZ p=true):∀L:ZX,(∀c∈L,0<=c)->(aL L:aE p) ^ p.toNat=aL (RZ p.toNat L)
 |[],_=>by
  have hr:=aF h;obtain⟨n,hn⟩:∃n:Nat,p.toNat=n+1:=⟨p.toNat-1,by lia⟩
  have z:(aL []:aE p)=0:=g? fun k=>by rw[ff];exact(mJ k).symm
  show(aL []:aE p) ^ p.toNat=aL [];rw[hn,uj,z];grind
 |c::l,hc=>by
  have hr:=aF h;obtain⟨n,hn⟩:∃n:Nat,p.toNat=n+1:=⟨p.toNat-1,by lia⟩
  obtain⟨m,hm⟩:∃m:Nat,c=(m:Int):=⟨c.toNat,by have:=hc c VS;lia⟩
  show _=aL (c::(List.replicate (p.toNat-1) 0++RZ p.toNat l));rw[xM,xM c (_++_),RY h,zA,SA.mul_pow,<-CD h l fun x m=>hc x (VN _ m),hm,CC h,hn,show n+1-1=n from rfl,uj Xp n];generalize (Xp:aE p) ^ n=w;generalize (aL l:aE p) ^ (n+1)=v
  grind
theorem Oy(n:Nat)(m:ZX):∀k,cf (List.replicate n 0++m) k=if k<n then 0 else cf m (k-n):=by
 induction n with
 |zero=>intro k;rw[VI (by lia)];rfl
 |succ n ih=>
  intro k;rw[Vy,VB];cases k with
  |zero=>rw[VD (by lia)];rfl
  |succ k=>
   rw[cC,ih];by_cases z:k<n
   .rw[VD z,VD (by lia)]
   .rw[VI z,VI (by lia),show k+1-(n+1)=k-n by lia]
theorem Hj{P:Nat}(hP:0<P):∀(L:ZX)(k:Nat),cf (RZ P L) k=if k % P=0 then cf L (k / P)else 0
 |[],k=>by show cf [] k=_;rw[ff,ff];split<;>rfl
 |c::l,0=>by rw[VD (Nat.zero_mod P),Nat.zero_div];rfl
 |c::l,k+1=>by
  show cf (c::(List.replicate (P-1) 0++RZ P l)) (k+1)=_;rw[cC,Oy];by_cases z:k<P-1
  .rw[VD z,Nat.mod_eq_of_lt (by lia),VI (by lia)]
  .rw[VI z,Hj hP l,show k-(P-1)=k+1-P by lia];have e1:(k+1) % P=(k+1-P) % P:=Nat.mod_eq_sub_mod (by lia);have e2:(k+1) / P=(k+1-P) / P+1:=Nat.div_eq_sub_div hP (by lia);rw[e1,e2];by_cases y:(k+1-P) % P=0
   .rw[VD y,VD y,cC]
   .rw[VI y,VI y]
theorem Hk(h:eZ p=true){U:ZX}(hU:Row p U)(nU:U≠[])(hm:((U.length:Int)-1) % p=0)(hd:∀k,¬ k % p.toNat=0->cf U k % p=0):(aL (fX U p):aE p) ^ p.toNat=aL U:=by
 have hr:=aF h;have u0:0<U.length:=Vz.mpr nU;obtain⟨m,S4⟩:∃m:Nat,(U.length:Int)=p*m+1:=by have h1:=V6 ((U.length:Int)-1) p;have h2:0<=((U.length:Int)-1) / p:=YC (by lia) (by lia);refine⟨(((U.length:Int)-1) / p).toNat,?_⟩;rw[V8 h2];lia
 have e:=Cz (by lia) S4;rw[CD h (fX U p) (fun c mc=>by
  rw[e]at mc;obtain⟨j,_,rfl⟩:=Wc.mp mc;exact(hU.Eo (by lia) _).1)]
 refine mk_eq fun k=>?_;rw[Hj (by lia)];by_cases z:k % p.toNat=0
 .rw[VD z];have ek:p.toNat*(k / p.toNat)=k:=Nat.mul_div_cancel' (X2 z);have:cf (fX U p) (k / p.toNat)=cf U k:=by
   rw[e];by_cases y:k / p.toNat<m+1
   .show((List.range (m+1)).map fun j=>U.getD (p.toNat*j) 0).getD (k / p.toNat) 0=_;rw[Vx,VG,V7 y];show U.getD (p.toNat*(k / p.toNat)) 0=_;rw[ek];rfl
   .rw[fg (by rw[Vl,VQ];lia),fg ?_];have h3:p.toNat*(m+1)<=p.toNat*(k / p.toNat):=Y' _ (by lia);rw[ek,Nat.mul_add]at h3;have h4:((p.toNat*m:Nat):Int)=p*m:=by rw[WY,V8 (by lia)]
    lia
  rw[this];exact Cg.refl p _
 .rw[VI z];obtain⟨q,hq⟩:=Xm (hd k z);exact⟨-q,by rw[hq,XO];lia⟩
end
end PG
namespace PG
open PySem.Spec L2 MN
open PyProof.Rows hiding St kindOf
open SA (cI)
section
variable{p:Int}
theorem j8{A B G:ZX}(h:Ls p A B G):ky p G/\(aL A:aE p)=aL G*aL (b? p A G)/\(aL B:aE p)=aL G*aL (b? p B G)/\∃u v:aE p,aL G=u*aL A+v*aL B:=by
 have q:∀C:ZX,a8 p (cf C) (mF (b? p C G) (cf G))->(aL C:aE p)=aL G*aL (b? p C G):=fun C e=>by rw[cj];exact mk_eq (e.trans (a8.of_eq (bg _ _)).symm)
 obtain⟨u,v,e⟩:=h.c;exact⟨⟨h.r,h.n,h.l⟩,q A h.a,q B h.b,aL u,aL v,mk_eq (e.trans (a8.of_eq fun k=>by rw[d5,bg,bg]))⟩
theorem u!{P:ZX}(h:ky p P)(l:P.length=1):P=[1]:=by obtain⟨x,rfl⟩:=List.length_eq_one_iff.mp l;rw[show x=1 from h.l1]
theorem jH(hp:2<=p){P:ZX}(h:ky p P){z:aE p}(e:aL P*z=1):P=[1]:=by obtain⟨Q,_,_,nQ,l⟩:=xJ (by lia) (si hp) (Yf _ _) h (x:=z) (by rw[CA,e]);have:=Vz.mpr nQ;have:=Vz.mpr h.ne;exact u! h (by rw[show[(1:Int)].length=1 from rfl]at l;lia)
def ie:List (Nat×List Int)->aE p
 |[]=>1
 |q::l=>aL q.2 ^ q.1*ie l
theorem xN:∀(a b:List (Nat×List Int)),(ie (a++b):aE p)=ie a*ie b
 |[],b=>by show ie b=1*ie b;grind
 |q::a,b=>by
  show aL q.2 ^ q.1*ie (a++b)=aL q.2 ^ q.1*ie a*ie b;rw[xN a b];generalize (aL q.2:aE p) ^ q.1=w
  grind
theorem mM{x:aE p}:∀{ps:List (Nat×List Int)},(∀q∈ps,cI x (aL q.2))->cI x (ie ps)
 |[],_=>cI.one
 |q::l,h=>((h q VS).pow q.1).mul (mM fun r m=>h r (VN _ m))
theorem Hl:∀n:Nat,(SA.cst n:aE p)=aL [(n:Int)]
 |0=>rfl
 |n+1=>by show SA.cst n+1=_;rw[Hl n,XD,XC,sj,CA]
theorem ky.nC(hp:0<p){P:ZX}(h:ky p P):∀(n:Nat)(x y:aE p),aL P ^ n*x=aL P ^ n*y->x=y
 |0,x,y,e=>by rw[Bl]at e;grind
 |n+1,x,y,e=>by rw[uj,gF,gF]at e;exact h.cancel hp _ _ (ky.nC hp h n _ _ e)
structure Lv(p:Int)(F S1 U1:aE p)(m:Nat)(S U:ZX)(ps:List (Nat×List Int)):Prop where
 mS:ky p S
 mU:ky p U
 eq:F=ie ps*aL S ^ m*aL U
 sq:cI (aL S:aE p) (dP (aL S))
 c1:∀q∈ps,cI (aL q.2:aE p) (aL S)/\cI (aL q.2:aE p) (aL U)/\cI (aL q.2:aE p) (dP (aL q.2))
 c2:ps.Pairwise fun a b=>cI (aL a.2:aE p) (aL b.2)
 lt:∀q∈ps,1<=q.1/\q.1<m/\¬ q.1 % p.toNat=0
 mn:∀q∈ps,ky p q.2/\2<=q.2.length
 inc:ps.Pairwise fun a b=>a.1<b.1
 dv:∃x,S1=aL S*x
 m1:1<=m
theorem Lv.step(hp:eZ p=true){F S1 U1 a b:aE p}{m:Nat}{S U G P V:ZX}{ps:List (Nat×List Int)}(L:Lv p F S1 U1 m S U ps)(hF:F=S1*U1)(hg:U1=a*F+b*dP F)(g:Ls p S U G)(hP:ky p P)(hV:ky p V)(eP:(aL S:aE p)=aL G*aL P)(eV:(aL U:aE p)=aL G*aL V):
  Lv p F S1 U1 (m+1) G V (if 1<P.length then ps++[(m,P)]else ps)/\(1<P.length->¬ m % p.toNat=0):=by
 have hr:=aF hp;obtain⟨mG,_,_,u,v,eG⟩:=j8 g;have eS:(aL S:aE p)=aL P*aL G:=by rw[eP,cj]
 obtain⟨k1,k2,k3,k4,k5⟩:=SA.Hd (d:=dP) iu eS eV eG L.sq;have kk:∀q∈ps,cI (aL q.2:aE p) (aL P)/\cI (aL q.2:aE p) (aL G)/\cI (aL q.2:aE p) (aL V):=fun q mq=>SA.He eS eV (L.c1 q mq).1 (L.c1 q mq).2.1;have e1:=SA.step_eq L.eq eS eV;obtain⟨x,ex⟩:=L.dv;have dvG:∃y,S1=aL G*y:=⟨aL P*x,by rw[ex,eP];grind⟩
 have np:1<P.length->¬ m % p.toNat=0:=fun lP z=>by
  have m0:(SA.cst m:aE p)=0:=by rw[Hl];refine Hi ?_;obtain⟨q,hq⟩:=X2 z;rw[hq,WY,V8 (by lia),XF,Int.emod_self,W6,Xk]
  have d0:dP (aL P ^ m:aE p)=0:=by
   refine hP.cancel (by lia) _ _ ?_;rw[SA.RW iu,m0];generalize (aL P:aE p) ^ m=w
   grind
  obtain⟨y,hy⟩:=SA.zr (d:=dP) iu (P:=aL P) (W:=aL P ^ m) (Q:=ie ps*aL G ^ (m+1)*aL V) (F:=F) (S:=S1) (U:=U1) (x:=aL G*x) (a:=a) (b:=b) (by
   rw[e1];generalize (aL P:aE p) ^ m=w;generalize (aL G:aE p) ^ (m+1)=t
   grind) d0 hF hg (by rw[ex,eS];grind) (((mM fun q mq=>(kk q mq).1.symm).mul (k1.pow _)).mul k5) (hP.nC (by lia) m)
  rw[jH (by lia) hP hy]at lP;exact absurd lP (by decide)
 refine⟨?_,np⟩;by_cases lP:1<P.length
 .rw[VD lP];refine⟨mG,hV,?_,k3,fun q mq=>?_,?_,fun q mq=>?_,fun q mq=>?_,?_,dvG,by lia⟩
  .rw[e1,xN];show _=ie ps*(aL P ^ m*1)*_*_;generalize (aL P:aE p) ^ m=w;generalize (aL G:aE p) ^ (m+1)=t
   grind
  .rcases V4.mp mq with mq|mq
   .exact⟨(kk q mq).2.1,(kk q mq).2.2,(L.c1 q mq).2.2⟩
   .rw[VY.mp mq];exact⟨k1,k5,k2⟩
  .refine Xl.mpr ⟨L.c2,Yd _ _,fun q mq r mr=>?_⟩;rw[VY.mp mr];exact(kk q mq).1
  .rcases V4.mp mq with mq|mq
   .have:=L.lt q mq;exact⟨this.1,by lia,this.2.2⟩
   .rw[VY.mp mq];exact⟨L.m1,by show m<m+1;lia,np lP⟩
  .rcases V4.mp mq with mq|mq
   .exact L.mn q mq
   .rw[VY.mp mq];exact⟨hP,lP⟩
  .refine Xl.mpr ⟨L.inc,Yd _ _,fun q mq r mr=>?_⟩;rw[VY.mp mr];exact(L.lt q mq).2.1
 .rw[VI lP];have p1:P=[1]:=u! hP (by have:=Vz.mpr hP.ne;lia);refine⟨mG,hV,?_,k3,fun q mq=>⟨(kk q mq).2.1,(kk q mq).2.2,(L.c1 q mq).2.2⟩,L.c2,fun q mq=>?_,L.mn,L.inc,dvG,by lia⟩
  .rw[e1,p1,CA,one_pow];generalize (aL G:aE p) ^ (m+1)=t
   grind
  .have:=L.lt q mq;exact⟨this.1,by lia,this.2.2⟩
end
section
variable{p:Int}
theorem Bm(hp:eZ p=true){A B:ZX}(hA:Row p A)(hB:Row p B)(nA:A≠[])(l1:A.length<=5000)(l2:B.length<=5000):∃G,Ls p A B G:=by obtain⟨_,_,G,_,_,_,_,g,_⟩:=Bk hp (st:=[aq A,aq B]) (n:=0) (m:=1) rfl rfl hA hB (.inl nA) l1 l2;exact⟨G,g⟩
def iw(p:Int)(A:ZX):ZX:=b9 ((dC A).map (·.fmod p))
theorem nE(hp:0<p)(A:ZX):Row p (iw p A):=Row.of hp _
theorem jI(hp:0<p)(A:ZX):(aL (iw p A):aE p)=dP (aL A):=by rw[G6];exact mk_eq (Row.cg hp _)
theorem i!(A:ZX):(iw p A).length<=A.length-1:=by refine V! (gE _) ?_;unfold dC cV;rw[Vl,Vl,Vl,VQ];lia
theorem Lv.start(hp:eZ p=true){F U S:ZX}(hS:ky p S)(gU:Ls p F (iw p F) U)(eS:(aL F:aE p)=aL U*aL S)(l1:S.length<=5000):
  Lv p (aL F) (aL S) (aL U) 1 S U []/\∃a b:aE p,aL U=a*aL F+b*dP (aL F):=by
 have hr:=aF hp;have gn:0<p:=by lia
 have eF:=jI gn F;have rS:=nE gn S;have eD:=jI gn S;have l2:(iw p S).length<=5000:=by have:=i! (p:=p) S;lia
 obtain⟨mU,_,e2,a,b,e3⟩:=j8 gU;rw[eF]at e2 e3;obtain⟨D,gD⟩:=Bm hp hS.row rS hS.ne l1 l2;obtain⟨mD,d1,d2,u,v,d3⟩:=j8 gD;rw[eD]at d2 d3;have d0:D=[1]:=RV (by lia) mD mU hS (f:=aL F) (w:=aL (b? p (iw p F) U)) (a:=a) (b:=b) (a2:=0) (b2:=0) (by rw[eS,cj]) e2 e3 d1 d2;rw[d0,CA]at d3;refine⟨⟨hS,mU,?_,⟨u,v,d3.symm⟩,(fun q m=>by cases m),.nil,(fun q m=>by cases m),(fun q m=>by cases m),.nil,⟨1,by grind⟩,VA _⟩,a,b,e3⟩;show aL F=1*aL S ^ (0+1)*aL U;rw[uj,Bl,eS]
 grind
theorem Bn(hp:0<p){U:ZX}(h:ky p U)(e:Dvd p U (ic (cf U))):a8 p (ic (cf U)) (fun _=>0):=by
 obtain⟨x,hx⟩:=e;obtain⟨r,hr⟩:∃r,r=b9 ((dC U).map (·.fmod p)):=⟨_,rfl⟩
 have rr:Row p r:=by rw[hr];exact Row.of hp _
 have cg:a8 p (cf r) (ic (cf U)):=by rw[hr];exact(Row.cg hp _).trans (a8.of_eq (lj U))
 have u0:=Vz.mpr h.ne;have lr:r.length<U.length:=by
  have:r.length<=U.length-1:=iY rr.cut fun k hk=>by
   have c:=cg k;have z:ic (cf U) k=0:=by show((k:Int)+1)*cf U (k+1)=0;rw[fg (by lia),We]
   rw[z]at c;have q:=rr.Eo hp k;obtain⟨y,hy⟩:=c;by_cases w:y=0
   .rw[w]at hy;lia
   .exfalso;rcases Int.lt_or_gt_of_ne w with w|w
    .have:=V9 (show y<=-1 by lia) (show 0<=p by lia);lia
    .have:=V9 (show 1<=y by lia) (show 0<=p by lia);lia
  lia
 have:=k? hp rr h.ne h.l1 lr (cg.trans hx);rw[this]at cg;exact cg.symm.trans (a8.of_eq fun k=>ff k)
end
section
variable{p:Int}
theorem xO(x:aE p)(m:Nat):∀n:Nat,x ^ (m+n)=x ^ m*x ^ n
 |0=>by rw[Bl,Nat.add_zero];grind
 |n+1=>by
  rw[<-Nat.add_assoc,uj,uj,xO x m n];generalize x ^ m=a;generalize x ^ n=b
  grind
theorem Bo(x:aE p)(m:Nat):∀s:Nat,x ^ (s*m)=(x ^ m) ^ s
 |0=>by rw[Nat.zero_mul,Bl,Bl]
 |s+1=>by rw[Y_,Nat.one_mul,xO,Bo x m s,uj]
def Ki(st:Nat)(qs:List (Nat×List Int)):List (Nat×List Int):=qs.map fun q=>(st*q.1,q.2)
theorem CF(st:Nat):∀qs:List (Nat×List Int),(ie (Ki st qs):aE p)=ie qs ^ st
 |[]=>(one_pow st).symm
 |q::l=>by show aL q.2 ^ (st*q.1)*ie (Ki st l)=(aL q.2 ^ q.1*ie l) ^ st;rw[CF st l,SA.mul_pow,Bo]
theorem sC{q:Nat×List Int}:∀{ps:List (Nat×List Int)},q∈ps->1<=q.1->∃x,(ie ps:aE p)=aL q.2*x
 |r::l,m,h=>by
  rcases VT.mp m with rfl|m
  .obtain⟨n,hn⟩:∃n,q.1=n+1:=⟨q.1-1,by lia⟩
   refine⟨aL q.2 ^ n*ie l,?_⟩;show aL q.2 ^ q.1*ie l=_;rw[hn,uj];generalize (aL q.2:aE p) ^ n=w
   grind
  .obtain⟨x,e⟩:=sC m h;refine⟨aL r.2 ^ r.1*x,?_⟩;show aL r.2 ^ r.1*ie l=_;rw[e];generalize (aL r.2:aE p) ^ r.1=w
   grind
structure Ov(p:Int)(F:aE p)(st:Nat)(L:ZX)(ps:List (Nat×List Int)):Prop where
 mL:ky p L
 eq:F=ie ps*aL L ^ st
 c1:∀q∈ps,cI (aL q.2:aE p) (aL L)/\cI (aL q.2:aE p) (dP (aL q.2))
 c2:ps.Pairwise fun a b=>cI (aL a.2:aE p) (aL b.2)
 lt:∀q∈ps,1<=q.1/\¬ q.1 % st=0
 mn:∀q∈ps,ky p q.2/\2<=q.2.length
 ne:ps.Pairwise fun a b=>a.1≠b.1
 s1:1<=st
theorem Ov.step(hp:eZ p=true){F S1 U1:aE p}{st m:Nat}{L U L2:ZX}{ps qs:List (Nat×List Int)}(O:Ov p F st L ps)(V:Lv p (aL L) S1 U1 m [1] U qs)(hL:ky p L2)(eU:(aL L2:aE p) ^ p.toNat=aL U):Ov p F (st*p.toNat) L2 (ps++Ki st qs):=by
 have hr:=aF hp;obtain⟨n,hn⟩:∃n:Nat,p.toNat=n+1:=⟨p.toNat-1,by lia⟩
 have e1:(aL L:aE p)=ie qs*aL U:=by rw[V.eq,CA,one_pow];grind
 have s1:=O.s1;have dU:∃x,(aL U:aE p)=aL L2*x:=⟨aL L2 ^ n,by rw[<-eU,hn,uj];exact cj _ _⟩
 obtain⟨x,ex⟩:=dU;have cL:∀q∈ps,cI (aL q.2:aE p) (aL L2)/\∀r∈qs,cI (aL q.2:aE p) (aL r.2):=fun q mq=>by have c:=(O.c1 q mq).1;refine⟨c.of_dvd (x:=x*ie qs) (by rw[e1,ex];grind),fun r mr=>?_⟩;obtain⟨y,ey⟩:=sC (p:=p) mr (V.lt r mr).1;exact c.of_dvd (x:=y*aL U) (by rw[e1,ey];grind)
 have ms:∀{q},q∈Ki st qs->∃r∈qs,q=(st*r.1,r.2):=fun{q}mq=>by obtain⟨r,mr,e⟩:=Wc.mp mq;exact⟨r,mr,e.symm⟩
 have nd:∀r∈qs,¬ (st*r.1) % (st*p.toNat)=0:=fun r mr z=>by
  rw[Nat.mul_mod_mul_left]at z;rcases Nat.mul_eq_zero.mp z with z|z
  .lia
  .exact(V.lt r mr).2.2 z
 have ns:∀q∈ps,∀r∈qs,q.1≠st*r.1:=fun q mq r mr e=>(O.lt q mq).2 (by rw[e,Zq]);refine⟨hL,?_,fun q mq=>?_,?_,fun q mq=>?_,fun q mq=>?_,?_,Nat.mul_pos s1 (by lia)⟩
 .rw[xN,CF,O.eq,e1,SA.mul_pow,<-eU,Bo];generalize (ie qs:aE p) ^ st=w;generalize ((aL L2:aE p) ^ p.toNat) ^ st=v
  grind
 .rcases V4.mp mq with mq|mq
  .exact⟨(cL q mq).1,(O.c1 q mq).2⟩
  .obtain⟨r,mr,rfl⟩:=ms mq;exact⟨(V.c1 r mr).2.1.of_dvd ex,(V.c1 r mr).2.2⟩
 .refine Xl.mpr ⟨O.c2,WI.mpr V.c2,fun q mq r mr=>?_⟩;obtain⟨r',mr',rfl⟩:=ms mr;exact(cL q mq).2 r' mr'
 .rcases V4.mp mq with mq|mq
  .refine⟨(O.lt q mq).1,fun z=>(O.lt q mq).2 ?_⟩;exact Y0 (Nat.dvd_trans (Nat.dvd_mul_right st p.toNat) (X2 z))
  .obtain⟨r,mr,rfl⟩:=ms mq;exact⟨Nat.mul_pos s1 (V.lt r mr).1,nd r mr⟩
 .rcases V4.mp mq with mq|mq
  .exact O.mn q mq
  .obtain⟨r,mr,rfl⟩:=ms mq;exact V.mn r mr
 .refine Xl.mpr ⟨O.ne,WI.mpr (V.inc.imp fun{a b}h e=>?_),fun q mq r mr=>?_⟩
  .have:=YK s1 e;lia
  .obtain⟨r',mr',rfl⟩:=ms mr;exact ns q mq r' mr'
end
end PG
namespace SA
section
variable{R:Type}[Lean.Grind.CommRing R]{d:R->R}
theorem cI.shift{a x y:R}(h:cI a x):cI a (x+a*y):=by obtain⟨u,v,h⟩:=h;exact⟨u-v*y,v,by grind⟩
theorem Oz(dm:∀a b,d (a*b)=d a*b+a*d b){a b:R}(h:cI a b)(ha:cI a (d a))(hb:cI b (d b)):cI (a*b) (d (a*b)):=by
 have h1:cI a (d (a*b)):=by rw[dm];exact(ha.mul h).shift
 have h2:cI b (d (a*b)):=by rw[dm,show d a*b+a*d b=a*d b+b*d a by grind];exact(h.symm.mul hb).shift
 exact(h1.symm.mul h2.symm).symm
theorem D8(dm:∀a b,d (a*b)=d a*b+a*d b){P x F:R}(h:F=P*(P*x))(hc:cI F (d F)):∃z,P*z=1:=by
 refine xF hc (c:=P) (x:=P*x) (y:=d P*x+d (P*x)) h ?_;rw[h,dm]
 grind
end
end SA
namespace PG
open PySem.Spec L2 MN
open PyProof.Rows hiding St kindOf
open SA (cI)
section
variable{p:Int}
theorem CG:∀{ps:List (Nat×List Int)},(∀q∈ps,q.1=1/\cI (aL q.2:aE p) (dP (aL q.2)))->(ps.Pairwise fun a b=>cI (aL a.2:aE p) (aL b.2))->cI (ie ps:aE p) (dP (ie ps))
 |[],_,_=>⟨1,0,by show 1*(1:aE p)+0*dP 1=1;grind⟩
 |q::l,h,c=>by rw[WN]at c;have ih:=CG (fun r m=>h r (VN _ m)) c.2;have h1:=h q VS;show cI (aL q.2 ^ q.1*ie l) (dP (aL q.2 ^ q.1*ie l));rw[h1.1,show(aL q.2:aE p) ^ 1=aL q.2 by rw[uj,Bl];grind];exact SA.Oz iu (mM c.1) h1.2 ih
theorem Hm(hp:2<=p){q:Nat×List Int}:∀{ps:List (Nat×List Int)},q∈ps->2<=q.1->∃x,(ie ps:aE p)=aL q.2*(aL q.2*x)
 |r::l,m,h=>by
  rcases VT.mp m with rfl|m
  .obtain⟨n,hn⟩:∃n,q.1=n+1+1:=⟨q.1-2,by lia⟩
   refine⟨aL q.2 ^ n*ie l,?_⟩;show aL q.2 ^ q.1*ie l=_;rw[hn,uj,uj];generalize (aL q.2:aE p) ^ n=w
   grind
  .obtain⟨x,e⟩:=Hm hp m h;refine⟨aL r.2 ^ r.1*x,?_⟩;show aL r.2 ^ r.1*ie l=_;rw[e];generalize (aL r.2:aE p) ^ r.1=w
   grind
theorem Kj(hp:2<=p){ps:List (Nat×List Int)}{q:Nat×List Int}(m:q∈ps)(h:2<=q.1)(hq:ky p q.2/\2<=q.2.length):¬ cI (ie ps:aE p) (dP (ie ps)):=fun hc=>by obtain⟨x,e⟩:=Hm hp m h;obtain⟨z,hz⟩:=SA.D8 (d:=dP) iu e hc;have:=jH hp hq.1 hz;rw[this]at hq;exact absurd hq.2 (by decide)
theorem Kk{A B:ZX}(g:Ls p A B [1]):cI (aL A:aE p) (aL B):=by obtain⟨_,_,_,u,v,e⟩:=j8 g;exact⟨u,v,by rw[<-e,CA]⟩
end
end PG
namespace PG
open PySem.Spec L2 MN
open PyProof.Rows hiding St kindOf
abbrev pbT:MT:=b8 (af uX (ai bx (aa qm aj)) b!)
abbrev pbI:MB:=ij (b8 (af uX (ai bx (aa Ek aj)) b!)) (xa cW uW Ek) bT
abbrev Th:MB:=aC (aO 8 (ai PM.d7 (aa a! (aa qm (aa j? aj))))) (aC (aO 9 (af bN (ai PM.parted (aa a! (aa qm (aa BW aj)))) dF)) (aC pbI (aC (aO 6 BW) (aC (aO 5 (af bN (ai PM.parted (aa a! (aa j? (aa BW aj)))) dF)) (Gg 7 DI eh)))))
theorem jn{s:ag}{n d:Nat}{us:List ah}{aY:List (e8×ah)}(h1:s[n]?=some (.lst us))(h2:s[d]?=some (.dK aY)):d≠n:=by intro z;rw[z,h1]at h2;cases h2
def aal(μ:MN.Env)(s:ag):Nat:=match(μ[5]?:Option (Option ah)),(μ[6]?:Option (Option ah)) with
 |some (some (.loc k)),some (some (.loc j))=>f_ k s+f_ j s
 |_,_=>0
theorem iN{s:ag}{k:Nat}{A:ZX}(h:s[k]?=some (aq A)):f_ k s=A.length:=by unfold f_;rw[ay h];exact az A
end PG
namespace PG
open PySem.Spec L2 MN
open PyProof.Rows hiding St kindOf
open SA (cI)
abbrev En:=Nat×Nat×List Int
def vg(e:En):e8×ah:=(.inl (e.1:Int),.loc e.2.1)
theorem Hn{aY:List (e8×ah)}{k:e8}{v:ah}(h:∀kv∈aY,kv.1≠k):w_ aY k v=aY++[(k,v)]:=by unfold w_;rw[VI];intro z;obtain⟨kv,m,e⟩:=List.any_eq_true.mp z;exact h kv m (WL e)
structure Ti(p:Int)(D:Nat)(st:ag)(d:Nat)(x1 x4:Option ah)(sN:Nat)(F S1 U1:aE p)(es0:List En)(m:Nat)(μ:MN.Env)(s:ag)(kS kU:Nat)(S U:ZX)(es:List En)(qs:List (Nat×List Int)):Prop where
 env:∃x8 x9,μ=[qI p, x1, qL d, qI (sN:Int), x4, qL kU, qL kS, qI ((sN:Int)*(m:Int)), x8, x9]
 fr:Fr st s
 hd:st.length<=d
 dk:s[d]?=some (.dK ((es0++es).map vg))
 re:∀e∈es0++es,s[e.2.1]?=some (aq e.2.2)
 Tj:es.map (fun e=>(e.1,e.2.2))=Ki sN qs
 ct:(es0++es).length+(S.length-1)+(U.length-1)<=D
 lS:s[kS]?=some (aq S)
 lU:s[kU]?=some (aq U)
 dv:Dvd p U (mF S (ic (cf U)))
 lv:Lv p F S1 U1 m S U qs
 ap:(es0++es).Pairwise fun a b=>a.2.1<b.2.1
 fh:∀e∈es0++es,st.length<=e.2.1
section
variable{p:Int}{D d:Nat}{st:ag}{x1 x4:Option ah}{sN:Nat}{F S1 U1 a b:aE p}{es0:List En}
theorem Ho(hp:eZ p=true)(hD:D<=2000)(s1:1<=sN)(n0:∀e∈es0,¬ e.1 % sN=0)(hF:F=S1*U1)(hg:U1=a*F+b*dP F){m:Nat}{μ:MN.Env}{s:ag}{kS kU:Nat}{S U:ZX}{es:List En}{qs:List (Nat×List Int)}(h:Ti p D st d x1 x4 sN F S1 U1 es0 m μ s kS kU S U es qs):
  ∃μ' s',cN pbT Th μ s=.nx μ' s'/\∃m kS kU U' es qs,U'.length<=U.length/\Ti p D st d x1 x4 sN F S1 U1 es0 m μ' s' kS kU [1] U' es qs:=by
 have hr:=aF hp;have gn:0<p:=by lia
 refine fc (t:=pbT) (body:=Th) (fun μ s=>∃m kS kU S U' es qs,U'.length<=U.length/\Ti p D st d x1 x4 sN F S1 U1 es0 m μ s kS kU S U' es qs) aal (fun μ s=>∃m kS kU U' es qs,U'.length<=U.length/\Ti p D st d x1 x4 sN F S1 U1 es0 m μ s kS kU [1] U' es qs) ?_ μ s ⟨m,kS,kU,S,U,es,qs,VA _,h⟩;clear h;obtain⟨LU,hLU⟩:∃L,L=U.length:=⟨_,rfl⟩
 rw[<-hLU];clear hLU;rintro μ s ⟨m,kS,kU,S,U,es,qs,hle,h⟩;obtain⟨x8,x9,rfl⟩:=h.env;obtain⟨L,hL⟩:∃L:Int,L=(S.length:Int):=⟨_,rfl⟩
 have kl:bx [.loc kS] s=.ok (.int L) s:=by rw[a7 (ay h.lS),az,hL]
 have s0:0<S.length:=Vz.mpr h.lv.mS.ne;have u0:0<U.length:=Vz.mpr h.lv.mU.ne;have ct:=h.ct;by_cases h1:S.length=1
 .have e:=u! h.lv.mS h1;have h0:decide ((1:Int)<L)=false:=VV (by rw[hL,h1];decide);rw[e]at h;exact .inl ⟨s,by simp only[ao,ax,aM,aw,aH,av,bc,aR,aQ,aG,au,aA,f9,a9,aK,kl,h0],m,kS,kU,U,es,qs,hle,h⟩
 .have h0:decide ((1:Int)<L)=true:=VW (by lia);obtain⟨s1',kF,G,e1,F1,_,lF,gG,_⟩:=Bk hp h.lS h.lU h.lv.mS.row h.lv.mU.row (.inl h.lv.mS.ne) (by lia) (by lia);have Cu:¬ aJ G % p=0:=by rw[gG.l,V? (by lia) (by lia)];lia
  obtain⟨qS,_,_,_,qlS⟩:=fI hp (as:=S) gG.n Cu;obtain⟨qU,_,_,_,qlU⟩:=fI hp (as:=U) gG.n Cu;obtain⟨nP,eP,lP1⟩:=oG gn h.lv.mS.row h.lv.mS.ne qS gG.n gG.l gG.a;obtain⟨nV,eV,lV⟩:=oG gn h.lv.mU.row h.lv.mU.ne qU gG.n gG.l gG.b;have g0:0<G.length:=Vz.mpr gG.n;have p0:0<(b? p S G).length:=Vz.mpr nP;have v0:0<(b? p U G).length:=Vz.mpr nV;obtain⟨mG,g1,g2,_⟩:=j8 gG;have mP:ky p (b? p S G):=⟨qS,nP,by rw[<-lP1];exact h.lv.mS.l1⟩
  have mV:ky p (b? p U G):=⟨qU,nV,by rw[<-lV];exact h.lv.mU.l1⟩
  obtain⟨LV,_⟩:=h.lv.step hp hF hg gG mP mV g1 g2;obtain⟨s2,kP,z2,e2,F2,lkP,_,_,lP,_⟩:=gW hp (ay (F1 _ _ h.lS)) lF gG.n Cu (by lia) (by lia);have zB:=F1.trans F2;have OB:=zB _ _ h.dk;obtain⟨LP,hLP⟩:∃L:Int,L=((b? p S G).length:Int):=⟨_,rfl⟩
  have kp:bx [.loc kP] s2=.ok (.int LP) s2:=by rw[a7 (ay lP),az,hLP]
  obtain⟨nF,wd⟩:∃nF:Int,nF=(sN:Int)*(m:Int):=⟨_,rfl⟩
  rw[<-wd];obtain⟨s3,nJ,ei,dk3,F3,re3,q3,c3,lF3,lU3,ap3,fh3⟩:∃s3 nJ,pbI [qI p, x1, qL d, qI (sN:Int), x4, qL kU, qL kS, qI nF, qL kF, qL kP] s2=.nx [qI p, x1, qL d, qI (sN:Int), x4, qL kU, qL kS, qI nF, qL kF, qL kP] s3/\s3[d]?=some (.dK ((es0++nJ).map vg))/\Fr st s3/\(∀e∈es0++nJ,s3[e.2.1]?=some (aq e.2.2))/\nJ.map (fun e=>(e.1,e.2.2))=Ki sN (if 1<(b? p S G).length then qs++[(m,b? p S G)]else qs)/\(es0++nJ).length+(G.length-1)+((b? p U G).length-1)<=D/\s3[kF]?=some (aq G)/\s3[kU]?=some (aq U)/\((es0++nJ).Pairwise fun a b=>a.2.1<b.2.1)/\∀e∈es0++nJ,st.length<=e.2.1:=by
   by_cases hq:1<(b? p S G).length
   .have hq0:decide ((1:Int)<LP)=true:=VW (by lia);have nw:∀kv∈(es0++es).map vg,kv.1≠.inl nF:=fun kv mk e=>by
     obtain⟨x,mx,rfl⟩:=Wc.mp mk;have ex:(x.1:Int)=nF:=by injection e
     rw[wd,<-WY]at ex;have TR:x.1=sN*m:=by lia
     rcases V4.mp mx with mx|mx
     .exact n0 x mx (by rw[TR,Zq])
     .have:(x.1,x.2.2)∈Ki sN qs:=by rw[<-h.Tj];exact W5 mx
      obtain⟨q,mq,eq⟩:=Wc.mp this;have e3:sN*q.1=x.1:=W2 Prod.fst eq;rw[TR]at e3;have:=YK s1 e3;have:=(h.lv.lt q mq).2.1;lia
    have pn:=Hn (v:=.loc kP) nw;have ek:(es0++es).map vg++[(.inl nF,.loc kP)]=(es0++(es++[(sN*m,kP,b? p S G)])).map vg:=by rw[<-VO,Wn (l₁:=es0++es)];show _=_++[((.inl ((sN*m:Nat):Int):e8),ah.loc kP)];rw[WY,wd]
    refine⟨s2.set d (.dK (w_ ((es0++es).map vg) (.inl nF) (.loc kP))),es++[(sN*m,kP,b? p S G)],?_,by rw[oo OB,pn,ek],(h.fr.trans zB).set h.hd _,fun e me=>?_,?_,?_,jk (F2 _ _ lF) (jn (F2 _ _ lF) OB),jk (zB _ _ h.lU) (jn (zB _ _ h.lU) OB),by
     rw[<-VO];refine Xl.mpr ⟨h.ap,Yd _ _,fun x mx y my=>?_⟩;rw[VY.mp my];have:=Lr (F1 _ _ (h.re x mx));show x.2.1<kP;lia,fun e me=>by
     rw[<-VO]at me;rcases V4.mp me with me|me
     .exact h.fh e me
     .rw[VY.mp me];have:=(h.fr.trans F1).len;show st.length<=kP;lia⟩
    .have ep:xa cW uW Ek [qI p, x1, qL d, qI (sN:Int), x4, qL kU, qL kS, qI nF, qL kF, qL kP] s2=.nx [qI p, x1, qL d, qI (sN:Int), x4, qL kU, qL kS, qI nF, qL kF, qL kP] (s2.set d (.dK (w_ ((es0++es).map vg) (.inl nF) (.loc kP)))):=by
      have nJ:pz s2 (.loc d) (.int nF) (.loc kP)=some (s2.set d (.dK (w_ ((es0++es).map vg) (.inl nF) (.loc kP)))):=by unfold pz;dsimp only;rw[OB];dsimp only;rw[VD (by rw[Vl,Vv];lia)];rfl
      show(match pz s2 (.loc d) (.int nF) (.loc kP) with
       |some m8=>cm.nx _ m8
       |none=>.bad)=_
      rw[nJ]
     simp only[ao,aD,ax,aM,aw,aH,av,fq,bc,aR,aQ,aG,au,aA,bj,f9,a9,aK,kp,hq0,ep]
    .rw[<-VO]at me;rcases V4.mp me with me|me
     .have:=zB _ _ (h.re e me);exact jk this (jn this OB)
     .rw[VY.mp me];exact jk lP (jn lP OB)
    .rw[VD hq,Wn,h.Tj];unfold Ki;rw[Wn];rfl
    .rw[<-VO,Vn];show(es0++es).length+1+_+_<=D;lia
   .have hq0:decide ((1:Int)<LP)=false:=VV (by lia);exact⟨s2,es,by simp only[ao,aD,ax,aM,aw,aH,av,bJ,bc,aR,aQ,aG,au,aA,bp,bj,f9,a9,aK,kp,hq0],OB,h.fr.trans zB,fun e me=>zB _ _ (h.re e me),by rw[VI hq];exact h.Tj,by lia,F2 _ _ lF,zB _ _ h.lU,h.ap,h.fh⟩
  obtain⟨s4,kV,z4,e4,F4,_,_,_,lV4,_⟩:=gW hp (ay lU3) lF3 gG.n Cu (by lia) (by lia);obtain⟨a',b',hB⟩:=gG.c;refine .inr ⟨s,[qI p, x1, qL d, qI (sN:Int), x4, qL kV, qL kF, qI (nF+(sN:Int)), qL kF, qL kP],s4,?_,.inl ?_,⟨m+1,kF,kV,G,b? p U G,nJ,_,by lia,⟨_,_,by rw[wd,XD,XC,Xh,Xg]⟩,F3.trans F4,h.hd,F4 _ _ dk3,fun e me=>F4 _ _ (re3 e me),q3,c3,F4 _ _ lF3,lV4,J_ gn gG.n gG.l gG.a gG.b hB h.dv,LV,ap3,fh3⟩,?_⟩
  .simp only[ao,ax,aM,aw,aH,av,bc,aR,aQ,aG,au,aA,f9,a9,aK,kl,h0]
  .rw[Th];generalize pbI=I at ei⊢;simp only[ao,aD,aW,ax,aM,aw,aH,av,bM,bc,aG,au,aA,aT,bo,aP,a9,aK,Vo,Vs,GF,N5,Vc,Rg,Rh,e1,e2,bz vd,ei,e4]
  .show f_ kV s4+f_ kF s4<f_ kU s+f_ kS s;rw[iN lV4,iN (F4 _ _ lF3),iN h.lU,iN h.lS];lia
end
end PG
namespace PG
open PySem.Spec L2 MN
open PyProof.Rows hiding St kindOf
abbrev Tn:MT:=b8 (af uX (ai bx (aa eg aj)) b!)
abbrev poW:MB:=cN pbT Th
abbrev poX:ME:=su j? a!
abbrev R3:MB:=aC (aO 5 (ai PM.d7 (aa a! (aa eg (aa (ai PM.e? (aa a! (aa eg aj))) aj))))) (aC (aO 6 (af bN (ai PM.parted (aa a! (aa eg (aa j? aj)))) dF)) (aC (aO 7 eh) (aC poW (aC (aO 4 poX) (aO 3 (af bV eh a!))))))
def aam(μ:MN.Env)(s:ag):Nat:=match(μ[4]?:Option (Option ah)) with
 |some (some (.loc k))=>f_ k s
 |_=>0
end PG
namespace PG
open PySem.Spec L2 MN
open PyProof.Rows hiding St kindOf
open SA (cI)
def kr(es:List En):List (Nat×List Int):=es.map fun e=>(e.1,e.2.2)
structure To(p:Int)(D:Nat)(st:ag)(d:Nat)(x1:Option ah)(F:aE p)(sN:Nat)(μ:MN.Env)(s:ag)(kL:Nat)(L:ZX)(es:List En):Prop where
 env:∃x5 x6 x7 x8 x9,μ=[qI p, x1, qL d, qI (sN:Int), qL kL, x5, x6, x7, x8, x9]
 fr:Fr st s
 hd:st.length<=d
 dk:s[d]?=some (.dK (es.map vg))
 re:∀e∈es,s[e.2.1]?=some (aq e.2.2)
 ct:es.length+(L.length-1)<=D
 lL:s[kL]?=some (aq L)
 ov:Ov p F sN L (kr es)
 ap:es.Pairwise fun a b=>a.2.1<b.2.1
 fh:∀e∈es,st.length<=e.2.1
section
variable{p:Int}{D d:Nat}{st:ag}{x1:Option ah}{F:aE p}
theorem Hq(hp:eZ p=true){U:ZX}(h:ky p U)(e:Dvd p U (mF [1] (ic (cf U)))):∀k,¬ k % p.toNat=0->cf U k % p=0:=by
 have hr:=aF hp;have z:=Bn (by lia) h (e.cg (a8.of_eq fun k=>by rw[qw,Wv]));intro k hk;cases k with
 |zero=>exact absurd (Nat.zero_mod _) hk
 |succ k=>
  have c:=z k;refine wc hp (n:=(k:Int)+1) (fun y=>hk ?_) ?_
  .obtain⟨q,hq⟩:=Xm y;have:((p.toNat:Int)) ∣ ((k+1:Nat):Int):=⟨q,by rw[V8 (by lia),<-hq];lia⟩
   exact Y0 (Int.natCast_dvd_natCast.mp this)
  .have c':Cg p (((k:Int)+1)*cf U (k+1)) 0:=c;obtain⟨y,hy⟩:=c';exact Int.emod_eq_zero_of_dvd ⟨y,hy.trans (Xj _)⟩
theorem Hr(hp:eZ p=true)(hD:D<=2000){sN:Nat}{μ:MN.Env}{s:ag}{kL:Nat}{L:ZX}{es:List En}(h:To p D st d x1 F sN μ s kL L es):
  ∃μ' s',cN Tn R3 μ s=.nx μ' s'/\∃sN kL es,To p D st d x1 F sN μ' s' kL [1] es:=by
 have hr:=aF hp;have gn:0<p:=by lia
 refine fc (t:=Tn) (body:=R3) (fun μ s=>∃sN kL L es,To p D st d x1 F sN μ s kL L es) aam (fun μ s=>∃sN kL es,To p D st d x1 F sN μ s kL [1] es) ?_ μ s ⟨sN,kL,L,es,h⟩;clear h;rintro μ s ⟨sN,kL,L,es,h⟩;obtain⟨x5,x6,x7,x8,x9,rfl⟩:=h.env;obtain⟨N,hN⟩:∃N:Int,N=(L.length:Int):=⟨_,rfl⟩
 have kl:bx [.loc kL] s=.ok (.int N) s:=by rw[a7 (ay h.lL),az,hN]
 have mL:=h.ov.mL;have s0:0<L.length:=Vz.mpr mL.ne;have ct:=h.ct;by_cases h1:L.length=1
 .have h0:decide ((1:Int)<N)=false:=VV (by rw[hN,h1];decide);have e:=u! mL h1;rw[e]at h;exact .inl ⟨s,by simp only[ao,ax,aM,aw,aH,av,bc,aR,aQ,aG,au,aA,f9,a9,aK,kl,h0],sN,kL,es,h⟩
 .have h0:decide ((1:Int)<N)=true:=VW (by lia);obtain⟨g,kB,e0,_,lB⟩:=kh (fG hp) (ay h.lL) (by lia);have F0:=Fr.app s g;have lB':(s++g)[kB]?=some (aq (iw p L)):=lB;have rB:=nE gn L;have cB:a8 p (cf (iw p L)) (ic (cf L)):=(Row.cg gn _).trans (a8.of_eq (lj L));have bL:=i! (p:=p) L;obtain⟨s1,kU,U,e1,F1,_,lU,gU,_⟩:=Bk hp (F0 _ _ h.lL) lB' mL.row rB (.inl mL.ne) (by lia) (by lia);have Cu:¬ aJ U % p=0:=by rw[gU.l,V? (by lia) (by lia)];lia
  obtain⟨qS,_,_,_,_⟩:=fI hp (as:=L) gU.n Cu;obtain⟨nS,eS,lS1⟩:=oG gn mL.row mL.ne qS gU.n gU.l gU.a;have u0:0<U.length:=Vz.mpr gU.n;have q0:0<(b? p L U).length:=Vz.mpr nS;have mS:ky p (b? p L U):=⟨qS,nS,by rw[<-lS1];exact mL.l1⟩
  obtain⟨_,g1,_,_⟩:=j8 gU;obtain⟨LV,a,b,hg⟩:=Lv.start hp mS gU g1 (by lia);obtain⟨s2,kS,z2,e2,F2,_,_,_,lS,_⟩:=gW hp (ay (F1 _ _ (F0 _ _ h.lL))) lU gU.n Cu (by lia) (by lia);have zB:=F0.trans (F1.trans F2);have dv:Dvd p U (mF (b? p L U) (ic (cf U))):=GZ gU.a (cB.symm.trans gU.b);have em:(sN:Int)*((1:Nat):Int)=(sN:Int):=by lia
  obtain⟨μ',s3,ew,m',kS',kU',U',es1,qs,hle,H⟩:=Ho (D:=D) (st:=st) (d:=d) (x1:=x1) (x4:=some (.loc kL)) (sN:=sN) (es0:=es) (m:=1) (μ:=[some (.int p),x1,some (.loc d),some (.int (sN:Int)),some (.loc kL),some (.loc kU),some (.loc kS),some (.int (sN:Int)),x8,x9]) (s:=s2) (kS:=kS) (kU:=kU) (S:=b? p L U) (U:=U) (es:=[]) (qs:=[]) hp hD h.ov.s1 (fun e me=>(h.ov.lt (e.1,e.2.2) (W5 me)).2) (g1.trans (cj _ _)) hg ⟨⟨x8,x9,by rw[em]⟩,h.fr.trans zB,h.hd,by rw[V3];exact zB _ _ h.dk,fun e me=>by rw[V3]at me;exact zB _ _ (h.re e me),rfl,by rw[V3];lia,lS,F2 _ _ lU,dv,LV,by rw[V3];exact h.ap,by rw[V3];exact h.fh⟩;obtain⟨y8,y9,rfl⟩:=H.env;have mU:=H.lv.mU;have hm:=Oc hp mU.row mU.ne mU.l1 (c:=1) (by rw[V? (by lia) (by lia)];lia) H.dv;obtain⟨rR,nR,lR,leR,ltR⟩:=Kh hr.1 mU.row mU.ne mU.l1 hm;have u1:0<U'.length:=Vz.mpr mU.ne;have eU:=Hk hp mU.row mU.ne hm (Hq hp mU H.dv);have OV:=h.ov.step hp H.lv ⟨rR,nR,lR⟩ eU;have eps:kr es++Ki sN qs=kr (es++es1):=by unfold kr;rw[Wn,<-H.Tj]
  rw[eps]at OV;obtain⟨CH,wd⟩:∃CH:Int,CH=(sN:Int)*(m':Int):=⟨_,rfl⟩
  rw[<-wd]at ew;have ex:poX [qI p, x1, qL d, qI (sN:Int), qL kL, qL kU', qL kS', qI CH, y8, y9] s3=.ok (.loc s3.length) (s3++[aq (fX U' p)]):=by show sk (.loc kU') (.int p) s3=_;unfold sk;dsimp only;rw[ay H.lU];dsimp only;rw[VD gn,Hc]
  have hct:=H.ct;rw[show([1]:ZX).length=1 from rfl]at hct;obtain⟨OA,R4⟩:∃OA:Int,OA=(sN:Int):=⟨_,rfl⟩
  rw[<-R4]at ew ex⊢;refine .inr ⟨s,[qI p, x1, qL d, qI (OA*p), qL s3.length, qL kU', qL kS', qI CH, y8, y9],s3++[aq (fX U' p)],?_,.inl ?_,⟨sN*p.toNat,s3.length,fX U' p,es++es1,⟨_,_,_,_,_,by rw[R4,WY,V8 (by lia)]⟩,H.fr.more _,H.hd,aS H.dk _,fun e me=>aS (H.re e me) _,by lia,aN _ _,OV,H.ap,H.fh⟩,?_⟩
  .simp only[ao,ax,aM,aw,aH,av,bc,aR,aQ,aG,au,aA,f9,a9,aK,kl,h0]
  .rw[R3];generalize poX=Z at ex⊢;have Tf:poW [qI p, x1, qL d, qI OA, qL kL, qL kU, qL kS, qI OA, x8, x9] s2=_:=ew;generalize poW=W at Tf⊢;simp only[ao,aD,aW,ax,aM,aw,aH,av,bM,bc,aG,au,aA,aT,bo,aP,a9,aK,Vo,Vs,e0,e1,e2,bz vd,Tf,ex,mul_r (i:=OA) (j:=p) (by lia) (by lia)]
  .show f_ s3.length _<f_ kL s;rw[iN (aN s3 ((fX U' p).map ah.int)),iN h.lL];by_cases hu:1<U'.length
   .have:=ltR hu;lia
   .lia
end
structure uk(p:Int)(A:ZX)(ps:List (Nat×List Int)):Prop where
 eq:(aL A:aE p)=ie ps
 sq:∀q∈ps,cI (aL q.2:aE p) (dP (aL q.2))
 c2:ps.Pairwise fun a b=>cI (aL a.2:aE p) (aL b.2)
 p1:∀q∈ps,1<=q.1
 mn:∀q∈ps,ky p q.2/\2<=q.2.length
 ne:ps.Pairwise fun a b=>a.1≠b.1
section
variable{p:Int}{st:ag}
theorem nH(hp:eZ p=true){n:Nat}{A:ZX}(ln:st[n]?=some (aq A))(hA:ky p A)(hl:A.length<=1000):
  ∃ar d es,PM.gb [.int p,.loc n] st=.ok (.loc d) ar/\Fr st ar/\st.length<=d/\ar[d]?=some (.dK (es.map vg))/\(∀e∈es,ar[e.2.1]?=some (aq e.2.2))/\es.length<1000/\uk p A (kr es)/\(es.Pairwise fun a b=>a.2.1<b.2.1)/\∀e∈es,st.length<=e.2.1:=by
 have a0:0<A.length:=Vz.mpr hA.ne;have dn:(st++[aB.dK []])[st.length]?=some (.dK []):=by rw[VP (VA _),WT];rfl
 obtain⟨μ',s',ew,sN,kL,es,H⟩:=Hr (D:=999) (st:=st) (d:=st.length) (x1:=some (.loc n)) (F:=(aL A:aE p)) hp (by lia) (sN:=1) (μ:=[some (.int p),some (.loc n),some (.loc st.length),some (.int 1),some (.loc n),none,none,none,none,none]) (s:=st++[aB.dK []]) (kL:=n) (L:=A) (es:=[]) ⟨⟨_,_,_,_,_,rfl⟩,Fr.app _ _,VA _,dn,(fun _ h=>by cases h),(by show 0+(A.length-1)<=999;lia),aS ln _,⟨hA,by show aL A=1*aL A ^ (0+1);rw[uj,Bl];grind,(fun _ h=>by cases h),.nil,(fun _ h=>by cases h),(fun _ h=>by cases h),.nil,VA _⟩,.nil,fun _ h=>by cases h⟩;obtain⟨x5,x6,x7,x8,x9,rfl⟩:=H.env;refine⟨s',st.length,es,?_,H.fr,VA _,H.dk,H.re,by have:=H.ct;lia,⟨?_,fun q m=>(H.ov.c1 q m).2,H.ov.c2,fun q m=>(H.ov.lt q m).1,H.ov.mn,H.ov.ne⟩,H.ap,H.fh⟩
 .unfold PM.gb;rw[bI (np:=2) (us:=[ah.int p,.loc n]) rfl];show(aC (aO 2 w?) (aC (aO 3 b!) (aC (aO 4 bw) (aC (cN Tn R3) (bG cW)))) [qI p, qL n, qn, qn, qn, qn, qn, qn, qn, qn] st).fin=_;rw[aT,pN (v:=.loc st.length) (s1:=st++[aB.dK []]) rfl,aW,aT,pN (v:=.int 1) (s1:=st++[aB.dK []]) rfl,aW,aT,pN (v:=.loc n) (s1:=st++[aB.dK []]) rfl,aW];show(aC (cN Tn R3) (bG cW) [qI p, qL n, qL st.length, qI 1, qL n, qn, qn, qn, qn, qn] (st++[aB.dK []])).fin=_;rw[aT,ew,aW];rfl
 .rw[H.ov.eq,CA,one_pow]
  grind
end
section
variable{p:Int}
theorem zC{a b:List (Nat×List Int)}(h:a.Perm b):(ie a:aE p)=ie b:=by
 induction h with
 |nil=>rfl
 |cons x _ ih=>show aL x.2 ^ x.1*ie _=aL x.2 ^ x.1*ie _;rw[ih]
 |swap x y l=>
  show aL y.2 ^ y.1*(aL x.2 ^ x.1*ie l)=aL x.2 ^ x.1*(aL y.2 ^ y.1*ie l);generalize (aL y.2:aE p) ^ y.1=w;generalize (aL x.2:aE p) ^ x.1=v
  grind
 |trans _ _ h1 h2=>exact h1.trans h2
theorem uk.perm{A:ZX}{ps qs:List (Nat×List Int)}(h:uk p A ps)(e:ps.Perm qs):uk p A qs:=
 ⟨h.eq.trans (zC e),fun q m=>h.sq q (e.mem_iff.mpr m),(e.pairwise_iff fun{x y}c=>cI.symm c).mp h.c2,fun q m=>h.p1 q (e.mem_iff.mpr m),fun q m=>h.mn q (e.mem_iff.mpr m),(e.pairwise_iff fun{x y}c z=>c z.symm).mp h.ne⟩
theorem Bp(hp:0<p){a b:ZX}(ha:Row p a)(hb:Row p b)(h:(aL a:aE p)=aL b):a=b:=Row.ext hp ha hb (G5 h)
end
end PG
namespace PG
open PySem.Spec L2 MN
open PyProof.Rows hiding St kindOf
section
variable{p:Int}{n:Nat}{A:ZX}{st:ag}
abbrev Tp:ME:=jt (aa (af qp bw a!) (aa a! aj))
abbrev prC:ME:=dX 1 [2] (g_ (ai oF (aa cW aj))) (aI 0) bO Tp
theorem Hs(hp:eZ p=true)(ln:st[n]?=some (aq [])):∃g,PM.parts [.int p,.loc n] st=.err "NoParts" (st++g):=by
 obtain⟨g,e⟩:=fH hp st;have ka:bx [.loc n] (st++g)=.ok (.int 0) (st++g):=by rw[a7 (ay (aS ln g))];rfl
 have z:((0:Int)==0)=true:=rfl;exact⟨g,by simp only[PM.parts,PM.fU,bI,ao,aD,rY,aW,AZ,A0,ax,aM,aw,aH,av,gC,fq,xl,bc,aR,aQ,aG,au,aA,aT,fw,bh,bj,tK,dz,aP,a9,aK,Vr,VH,VB,Vu,Vy,Vt,Nat.reduceSub,Vk,Vq,Nat.reduceAdd,Vv,Nat.reduceLeDiff,↓reduceIte,e,ka,z]⟩
end
end PG
namespace PG
open PySem.Spec L2 MN
open PyProof.Rows hiding St kindOf
open SA (cI)
section
variable{p:Int}
theorem CI(hp:0<p){P:ZX}(hP:ky p P)(l2:2<=P.length):∀(n:Nat){A:ZX}{y:aE p},Row p A->A≠[]->(aL A:aE p)=aL P ^ n*y->∃Q,Row p Q/\Q≠[]/\y=aL Q/\Q.length+n<=A.length
 |0,A,y,hA,nA,e=>⟨A,hA,nA,by rw[Bl]at e;grind,VA _⟩
 |n+1,A,y,hA,nA,e=>by obtain⟨B,hB,eB,nB,lB⟩:=xJ hp hA nA hP (x:=aL P ^ n*y) (by rw[e,uj];generalize (aL P:aE p) ^ n=w;grind);obtain⟨Q,hQ,nQ,eQ,lQ⟩:=CI hp hP l2 n hB nB eB.symm;exact⟨Q,hQ,nQ,eQ,by lia⟩
def pP:List (Nat×List Int)->Nat
 |[]=>0
 |q::ps=>q.1+pP ps
theorem sD(hp:0<p):∀{ps:List (Nat×List Int)}{A:ZX},(∀q∈ps,ky p q.2/\2<=q.2.length)->Row p A->A≠[]->(aL A:aE p)=ie ps->pP ps+1<=A.length
 |[],A,_,hA,nA,_=>Vz.mpr nA
 |q::ps,A,h,hA,nA,e=>by obtain⟨m1,m2⟩:=h q (VS ..);obtain⟨Q,hQ,nQ,eQ,lQ⟩:=CI hp m1 m2 q.1 hA nA e;have:=sD hp (fun r m=>h r (VN _ m)) hQ nQ eQ.symm;show q.1+pP ps+1<=A.length;lia
theorem Ht:∀{ps:List (Nat×List Int)},(∀q∈ps,1<=q.1)->(ps.Pairwise fun a b=>a.1≠b.1)->2*ps.length<=pP ps+1/\((∀q∈ps,q.1≠1)->2*ps.length<=pP ps)
 |[],_,_=>⟨WH _,fun _=>WH _⟩
 |q::ps,h,hn=>by
  obtain⟨n1,n2⟩:=WN.mp hn;obtain⟨i1,i2⟩:=Ht (fun r m=>h r (VN _ m)) n2;have h1:=h q (VS ..);have e:pP (q::ps)=q.1+pP ps:=rfl;rw[e,Vk];by_cases z:q.1=1
  .have:=i2 fun r m w=>n1 r m (by rw[z,w]);exact⟨by lia,fun k=>absurd z (k q (VS ..))⟩
  .exact⟨by lia,fun k=>by have:=i2 fun r m=>k r (VN _ m);lia⟩
theorem uk.few(hp:0<p){A:ZX}{ps:List (Nat×List Int)}(h:uk p A ps)(hA:Row p A)(nA:A≠[]):2*ps.length<=A.length:=by have h1:=sD hp h.mn hA nA h.eq;have h2:=(Ht h.p1 h.ne).1;lia
theorem CJ:∀{ps:List (Nat×List Int)}{q:Nat×List Int},q∈ps->q.1<=pP ps
 |r::ps,q,m=>by
  show q.1<=r.1+pP ps;rcases VT.mp m with e|m
  .rw[e];lia
  .have:=CJ m;lia
theorem uk.bd(hp:0<p){A:ZX}{ps:List (Nat×List Int)}(h:uk p A ps)(hA:Row p A)(nA:A≠[]){q:Nat×List Int}(m:q∈ps):q.1<A.length/\q.2.length<=A.length:=by have h1:=sD hp h.mn hA nA h.eq;have h2:=CJ m;obtain⟨x,hx⟩:=sC (p:=p) m (h.p1 q m);obtain⟨Q,_,_,nQ,lQ⟩:=xJ hp hA nA (h.mn q m).1 (h.eq.trans hx);have:=Vz.mpr nQ;exact⟨by lia,by lia⟩
end
def gX(e:En):ah:=.tup [.loc e.2.1,.int (e.1:Int)]
theorem zD:∀es:List En,ud ((es.map vg).map (·.1))=some (es.map fun e=>(e.1:Int))
 |[]=>rfl
 |e::es=>by show(ud ((es.map vg).map (·.1))).map ((e.1:Int):: ·)=_;rw[zD es];rfl
theorem xP:∀{es:List En},(es.Pairwise fun a b=>a.1≠b.1)->∀e∈es,px (es.map vg) (.inl (e.1:Int))=some (.loc e.2.1)
 |x::es,hn,e,m=>by
  obtain⟨n1,n2⟩:=WN.mp hn;unfold px;rcases VT.mp m with z|m
  .rw[z,Vr,List.find?_cons_of_pos (by simp[vg])];rfl
  .have:x.1≠e.1:=n1 e m;rw[Vr,List.find?_cons_of_neg (by simp[vg];lia)];exact xP n2 e m
def G'(es:List En):List En:=es.mergeSort fun a b=>decide (a.1<=b.1)
theorem we(es:List En):(G' es).Perm es:=List.mergeSort_perm es _
theorem CK(es:List En):(G' es).Pairwise fun a b=>a.1<=b.1:=by
 have h:=ZO (le:=fun(a b:En)=>decide (a.1<=b.1)) (fun a b c h1 h2=>VW (V! (WL h1) (WL h2))) (fun a b=>by
  rw[YD,Xq,Xq];lia) es
 exact h.imp fun h=>WL h
theorem D9(es:List En):Hb (es.map fun e=>(e.1:Int))=(G' es).map fun e=>(e.1:Int):=
 up_eq ((wb _).trans ((we es).symm.map _)) (Cw _) (WI.mpr ((CK es).imp fun h=>Int.ofNat_le.mpr h))
structure R5(p:Int)(A:ZX)(st ar:ag)(kl:Nat)(es:List En):Prop where
 fr:Fr st ar
 fk:st.length<=kl
 lk:ar[kl]?=some (.lst (es.map gX))
 re:∀e∈es,st.length<=e.2.1/\e.2.1<kl/\ar[e.2.1]?=some (aq e.2.2)
 nd:es.Pairwise fun a b=>a.2.1≠b.2.1
 pr:∃t,(t*aJ A) % p=1/\uk p (mulR p t A) (kr es)
 up:es.Pairwise fun a b=>a.1<b.1
 ln:es.length<64
section
variable{p:Int}{n:Nat}{A:ZX}{st:ag}
theorem oH(hp:eZ p=true)(ln:st[n]?=some (aq A))(hA:Row p A)(nA:A≠[])(hl:A.length<=120):
  ∃ar kl es,PM.fU [.int p,.loc n] st=.ok (.tup [.int (aJ A),.loc kl]) ar/\R5 p A st ar kl es:=by
 have hr:=aF hp;have a0:0<A.length:=Vz.mpr nA;obtain⟨s1,k1,t,e1,F1,_,l1,ht⟩:=zx hp ln hA nA (by lia);obtain⟨rG,nG,lG,eG⟩:=lh hr.1 hA nA ht;obtain⟨s2,d,es,e2,F2,hd,dk,re,el,pr,ap,fh⟩:=nH hp l1 ⟨rG,nG,lG⟩ (by lia);have few:=pr.few (by lia) rG nG;have lps:(kr es).length=es.length:=Vl ..;have ne:es.Pairwise fun a b=>a.1≠b.1:=by have:=pr.ne;unfold kr at this;rw[WI]at this;exact this
 obtain⟨nJ,hes⟩:∃nJ,nJ=G' es:=⟨_,rfl⟩
 have pm:nJ.Perm es:=by rw[hes];exact we es
 have ed:D2 s2 d=some (es.map vg):=by unfold D2;rw[dk]
 obtain⟨s3,xB⟩:∃s3,s3=s2++[aB.lst ((nJ.map fun e=>(e.1:Int)).map ah.int)]:=⟨_,rfl⟩
 have esr:oF [.loc d] s2=.ok (.loc s2.length) s3:=by unfold oF;dsimp only;rw[ed];dsimp only;rw[zD];dsimp only;rw[VD (by rw[Vl];lia),D9,xB,hes]
 have hit:ak s3 s2.length=some ((nJ.map fun e=>(e.1:Int)).map ah.int):=by rw[xB];exact ay (aN _ _)
 have dk3:s3[d]?=some (.dK (es.map vg)):=by rw[xB];exact aS dk _
 have cp:=gT (a:=aI 0) (e:=Tp) (g:=fun ar=>ak ar s2.length=some ((nJ.map fun e=>(e.1:Int)).map ah.int)) (st:=s3) hit (fun τ=>∃x,τ=[x,some (.loc d)]) (fun i=>.tup [(px (es.map vg) (.inl i)).getD .dg,.int i]) (nJ.map fun e=>(e.1:Int)) [none,some (.loc d)] [] ⟨_,rfl⟩ (by
  rintro i hi τ ⟨x,rfl⟩;obtain⟨e,me,rfl⟩:=Wc.mp hi;have hk:=xP ne e (pm.mem_iff.mp me);obtain⟨i,hie⟩:∃i,i=(e.1:Int):=⟨_,rfl⟩
  rw[<-hie]at hk⊢;refine⟨[some (.int i),some (.loc d)],rfl,⟨_,rfl⟩,?_⟩;have e0:a! [some (.int i),some (.loc d)] s3=.ok (.int i) s3:=rfl;have e1:af qp bw a! [some (.int i),some (.loc d)] s3=.ok (.loc e.2.1) s3:=by
   show qp (.loc d) (.int i) s3=_;unfold qp B5;dsimp only;rw[dk3];show(match(some (px (es.map vg) (.inl i)):Option (Option ah)) with
    |some (some v)=>dh.ok v s3
    |_=>.bad)=_
   rw[hk]
  rw[hk];unfold Tp;rw[il,au,e1,ao,aH,au,e0,ao,aH,aG,ao,av,ao,av,ao,ke];exact VD (by rw[Vv];show 2<=16777216;decide))
 have evs:((nJ.map fun e=>(e.1:Int)).map fun i=>ah.tup [(px (es.map vg) (.inl i)).getD .dg,.int i])=nJ.map gX:=by rw[Wh];refine Xy fun e me=>?_;show ah.tup [(px (es.map vg) (.inl (e.1:Int))).getD .dg,.int (e.1:Int)]=gX e;rw[xP ne e (pm.mem_iff.mp me)];rfl
 rw[Vu,evs]at cp;have comp:prC [qI p, qL n, qL d] s2=.ok (.loc s3.length) (s3++[aB.lst (nJ.map gX)]):=by
  show dX 1 [2] (g_ (ai oF (aa cW aj))) (aI 0) bO Tp [qI p, qL n, qL d] s2=_;have e0:ai oF (aa cW aj) [qI p, qL n, qL d] s2=.ok (.loc s2.length) s3:=by rw[mK (Ou (v:=.loc d) (s1:=s2) rfl),esr]
  rw[dO,eu,e0,ao,cP hit,ao,ft,VD (by rw[Vl,Vl,pm.length_eq,Vv];lia),show je 1 [2] [qI p, qL n, qL d]=[none,some (.loc d)]from rfl,cp,ao,gN]
 have Tq:=F1.trans F2;have F3:Fr s2 (s3++[aB.lst (nJ.map gX)]):=by rw[xB];exact(Fr.app s2 _).more _
 have gx:af bN bw (iK b!) [qI p, qL n, qL d] s2=.ok (.int (aJ A)) s2:=by rw[xI (x:=.loc n) (s1:=s2) rfl (y:=.int (-1)) (s2:=s2) rfl];exact c! (ay (F2 _ _ (F1 _ _ ln))) (jl nA)
 have l3:s3.length=s2.length+1:=by rw[xB,Vn];rfl
 have f1:=F1.len;have f2:=F2.len;refine⟨s3++[aB.lst (nJ.map gX)],s3.length,nJ,?_,Tq.trans F3,by lia,aN _ _,fun e me=>?_,?_,⟨t,ht,pr.perm (pm.symm.map _)⟩,?_,by rw[pm.length_eq];lia⟩
 .obtain⟨L,hL⟩:∃L:Int,L=(A.length:Int):=⟨_,rfl⟩
  have kl:bx [.loc n] st=.ok (.int L) st:=by rw[a7 (ay ln),az,hL]
  have z:(L==0)=false:=by simp;lia
  unfold PM.fU;rw[bI (np:=2) (us:=[ah.int p,.loc n]) rfl];show(aC _ (aC _ (bG (jt (aa (af bN bw (iK b!)) (aa prC aj))))) [qI p, qL n, qn] st).fin=_;generalize prC=C at comp⊢;generalize af bN bw (iK b!)=X at gx⊢;simp only[ao,aD,aW,bt,ax,aM,aw,aH,av,ke,bY,bJ,bM,bc,aR,aQ,aG,au,il,aA,aT,bp,bh,bj,bo,dz,aP,a9,aK,Vo,Vs,Vk,Vq,Nat.reduceAdd,Vv,Nat.reduceLeDiff,↓reduceIte,kl,z,e1,e2,gx,comp]
 .have me':=pm.mem_iff.mp me;have h1:=fh e me';have h2:=re e me';have:=Lr h2;exact⟨by lia,by lia,F3 _ _ h2⟩
 .exact(pm.pairwise_iff fun{x y}h z=>h z.symm).mpr (ap.imp fun h=>by lia)
 .have h1:nJ.Pairwise fun a b=>a.1<=b.1:=by rw[hes];exact CK es
  have h2:nJ.Pairwise fun a b=>a.1≠b.1:=(pm.pairwise_iff fun{x y}h z=>h z.symm).mpr ne;exact(h1.and h2).imp fun h=>by lia
theorem um(hp:eZ p=true)(ln:st[n]?=some (aq A))(hA:Row p A)(nA:A≠[])(hl:A.length<=120):
  ∃ar kl es,PM.parts [.int p,.loc n] st=.ok (.tup [.int (aJ A),.loc kl]) ar/\R5 p A st ar kl es:=by
 obtain⟨g,e⟩:=fH hp st;obtain⟨ar,kl,es,e2,O⟩:=oH hp (aS ln g) hA nA hl;have lg:(st++g).length=st.length+g.length:=Vn;exact⟨ar,kl,es,by simp only[PM.parts,bI,ao,aD,aW,bt,aH,av,gC,bY,aG,au,aA,aT,fw,bh,aP,a9,aK,Vr,VH,VB,Vu,Vt,Nat.reduceSub,Vk,Vq,Nat.reduceAdd,e,e2],(Fr.app st g).trans O.fr,by have:=O.fk;lia,O.lk,fun x m=>by obtain⟨h1,h2,h3⟩:=O.re x m;exact⟨by lia,h2,h3⟩,O.nd,O.pr,O.up,O.ln⟩
end
section
variable{p:Int}
theorem CL{ps:List (Nat×List Int)}{q:Nat×List Int}(m:q∈ps)(hn:ps.Pairwise fun a b=>a.1≠b.1):∃l,(ie ps:aE p)=aL q.2 ^ q.1*ie l/\∀r∈l,r∈ps/\r.1≠q.1:=by have pm:=Yp m;have h:=(pm.pairwise_iff fun{x y}c z=>c z.symm).mp hn;refine⟨ps.erase q,zC pm,fun r mr=>⟨List.mem_of_mem_erase mr,fun z=>(WN.mp h).1 r mr z.symm⟩⟩
theorem uk.Pb{A:ZX}{ps:List (Nat×List Int)}(h:uk p A ps){q r:Nat×List Int}(mq:q∈ps)(mr:r∈ps)(ne:q.1≠r.1):cI (aL q.2:aE p) (aL r.2):=by
 have pm:=Yp mq;have c:=(pm.pairwise_iff fun{x y}c=>cI.symm c).mp h.c2;refine(WN.mp c).1 r ?_;rcases VT.mp (pm.mem_iff.mp mr)with z|z
 .exact absurd (W2 Prod.fst z).symm ne
 .exact z
theorem uk.out{A:ZX}{ps:List (Nat×List Int)}(h:uk p A ps){q:Nat×List Int}(m:q∈ps):∃y,(aL A:aE p)=aL q.2 ^ q.1*y/\cI (aL q.2:aE p) y:=by obtain⟨l,e,hl⟩:=CL (p:=p) m h.ne;exact⟨ie l,h.eq.trans e,mM fun r mr=>h.Pb m (hl r mr).1 fun z=>(hl r mr).2 z.symm⟩
theorem xQ(hp:eZ p=true){P A B D:ZX}(g:Ls p A B D)(h:ky p P)(a:a8 p (cf P) (mF (b? p P D) (cf D))):ky p (b? p P D)/\P.length+1=(b? p P D).length+D.length:=by
 have hr:=aF hp;have Cu:¬ aJ D % p=0:=by rw[g.l,V? (by lia) (by lia)];lia
 obtain⟨q,_⟩:=fI hp (as:=P) g.n Cu;obtain⟨n,e,l⟩:=oG (by lia) h.row h.ne q g.n g.l a;exact⟨⟨q,n,by rw[<-l];exact h.l1⟩,by lia⟩
theorem uo(hp:eZ p=true){A:ZX}{ps qs:List (Nat×List Int)}(h:uk p A ps)(k:uk p A qs){q r:Nat×List Int}(mq:q∈ps)(mr:r∈qs)(lq:q.2.length<=5000)(lr:r.2.length<=5000)(lt:q.1<r.1):cI (aL q.2:aE p) (aL r.2):=by
 have hr:=aF hp;have mP:=(h.mn q mq).1;have mQ:=(k.mn r mr).1;obtain⟨D,g⟩:=Bm hp mP.row mQ.row mP.ne lq lr;obtain⟨mD,e1,e2,u,v,e3⟩:=j8 g;obtain⟨y,ey,cy⟩:=h.out mq;obtain⟨z,ez,_⟩:=k.out mr;have cs:=h.sq q mq;obtain⟨j,hj⟩:∃j,r.1=q.1+(1+j):=⟨r.1-q.1-1,by lia⟩
 rw[e1]at cs cy;obtain⟨c1,_,_⟩:=SA.xE iu cs;have c2:cI (aL D:aE p) y:=(cI.Bf cy.symm).symm;have e4:(aL (b? p q.2 D):aE p) ^ q.1*y=aL D*((aL D) ^ j*aL (b? p r.2 D) ^ r.1*z):=by
  apply mD.nC (by lia) q.1;have:=ey.symm.trans ez;rw[e1,e2,SA.mul_pow,SA.mul_pow]at this;rw[hj]at this⊢;rw[xO (aL D),xO (aL D),uj (aL D) 0,Bl]at this;revert this;generalize (aL D:aE p) ^ q.1=a;generalize (aL D:aE p) ^ j=b;generalize (aL (b? p q.2 D):aE p) ^ q.1=c;generalize (aL (b? p r.2 D):aE p) ^ (q.1+(1+j))=d;intro this
  grind
 obtain⟨w,hw⟩:=cI.unit ((c1.pow q.1).mul c2) e4;have hD:=jH hr.1 mD hw;subst hD;exact Kk g
theorem CM(hp:eZ p=true){A:ZX}{ps qs:List (Nat×List Int)}(h:uk p A ps)(k:uk p A qs)(bq:∀q∈ps,q.2.length<=5000)(br:∀q∈qs,q.2.length<=5000){q:Nat×List Int}(mq:q∈ps):
  ∃r∈qs,r.1=q.1/\Ls p q.2 r.2 q.2:=by
 have hr:=aF hp;have ap:∀r∈qs,r.1≠q.1->cI (aL q.2:aE p) (aL r.2):=fun r mr ne=>by
  rcases WG q.1 r.1 with z|z
  .exact uo hp h k mq mr (bq q mq) (br r mr) z
  .exact(uo hp k h mr mq (br r mr) (bq q mq) (by lia)).symm
 obtain⟨mP,l2⟩:=h.mn q mq;obtain⟨x,hx⟩:=sC (p:=p) mq (h.p1 q mq);have hx:=h.eq.trans hx;by_cases hr':∃r∈qs,r.1=q.1
 .obtain⟨r,mr,er⟩:=hr';have mQ:=(k.mn r mr).1;obtain⟨D,g⟩:=Bm hp mP.row mQ.row mP.ne (bq q mq) (br r mr);obtain⟨mD,e1,e2,u,v,e3⟩:=j8 g;obtain⟨mE,lE⟩:=xQ hp g mP g.a;obtain⟨l,el,hl⟩:=CL (p:=p) mr k.ne;have cl:cI (aL q.2:aE p) (ie l):=mM fun s ms=>ap s (hl s ms).1 fun z=>(hl s ms).2 (by rw[z,er]);have cs:=h.sq q mq;rw[e1]at cs cl;obtain⟨c1,_,_⟩:=SA.xE iu cs;have cR:cI (aL (b? p q.2 D):aE p) (aL (b? p r.2 D)):=⟨u,v,by
   apply mD.cancel (by lia);rw[e1,e2]at e3
   grind⟩
  have cQ:cI (aL (b? p q.2 D):aE p) (aL r.2):=by rw[e2];exact c1.symm.mul cR
  have cL:cI (aL (b? p q.2 D):aE p) (ie l):=by rw[cj]at cl;exact(cI.Bf cl.symm).symm
  have cA:cI (aL (b? p q.2 D):aE p) (aL A):=by rw[k.eq,el];exact(cQ.pow _).mul cL
  obtain⟨w,hw⟩:=cI.unit cA (x:=aL D*x) (by rw[hx,e1];grind);have hE:=jH hr.1 mE hw;have:q.2=D:=Bp (by lia) mP.row mD.row (by rw[e1,hE,CA];grind);rw[this]at g⊢;exact⟨r,mr,er,g⟩
 .have:cI (aL q.2:aE p) (aL A):=by rw[k.eq];exact mM fun r mr=>ap r mr fun z=>hr' ⟨r,mr,z⟩
  obtain⟨w,hw⟩:=cI.unit this hx;rw[jH hr.1 mP hw]at l2;exact absurd l2 (by decide)
theorem t?(hp:eZ p=true){A:ZX}{ps qs:List (Nat×List Int)}(h:uk p A ps)(k:uk p A qs)(bq:∀q∈ps,q.2.length<=5000)(br:∀q∈qs,q.2.length<=5000){q:Nat×List Int}(mq:q∈ps):q∈qs:=by
 have hr:=aF hp;obtain⟨r,mr,er,g⟩:=CM hp h k bq br mq;obtain⟨q',mq',eq',g'⟩:=CM hp k h br bq mr;have e:q'=q:=by
  have pm:=Yp mq;have hn:=(pm.pairwise_iff fun{x y}c z=>c z.symm).mp h.ne;rcases VT.mp (pm.mem_iff.mp mq')with z|z
  .exact z
  .exact absurd (er.symm.trans eq'.symm) ((WN.mp hn).1 q' z)
 subst e;obtain⟨_,_,e2,_⟩:=j8 g;have hP:=(h.mn q' mq).1;have hQ:=(k.mn r mr).1;obtain⟨mF,lF⟩:=xQ hp g hQ g.b;obtain⟨mG,lG⟩:=xQ hp g' hP g'.b;have:=Vz.mpr mF.ne;have:=Vz.mpr mG.ne;have h1:=u! mF (by lia);have:r.2=q'.2:=Bp (by lia) hQ.row hP.row (by rw[e2,h1,CA];grind);have:r=q':=Prod.ext er this;rw[<-this];exact mr
theorem CN:∀{a b:List (Nat×List Int)},(a.Pairwise fun x y=>x.1<y.1)->(b.Pairwise fun x y=>x.1<y.1)->(∀x,x∈a->x∈b)->(∀x,x∈b->x∈a)->a=b
 |[],[],_,_,_,_=>rfl
 |[],y::b,_,_,_,h2=>by have:=h2 y (VS ..);cases this
 |x::a,[],_,_,h1,_=>by have:=h1 x (VS ..);cases this
 |x::a,y::b,ha,hb,h1,h2=>by
  obtain⟨a1,a2⟩:=WN.mp ha;obtain⟨b1,b2⟩:=WN.mp hb;have e:x=y:=by
   rcases VT.mp (h1 x (VS ..))with z|z
   .exact z
   .rcases VT.mp (h2 y (VS ..))with w|w
    .exact w.symm
    .have:=b1 x z;have:=a1 y w;lia
  subst e;rw[CN a2 b2 (fun z m=>?_) fun z m=>?_]
  .rcases VT.mp (h1 z (VN _ m))with w|w
   .have:=a1 z m;rw[w]at this;lia
   .exact w
  .rcases VT.mp (h2 z (VN _ m))with w|w
   .have:=b1 z m;rw[w]at this;lia
   .exact w
theorem D_(hp:eZ p=true){A:ZX}{ps qs:List (Nat×List Int)}(h:uk p A ps)(k:uk p A qs)(hA:Row p A)(nA:A≠[])(hl:A.length<=5000)(u1:ps.Pairwise fun x y=>x.1<y.1)(u2:qs.Pairwise fun x y=>x.1<y.1):ps=qs:=by
 have hr:=aF hp;have b1:∀q∈ps,q.2.length<=5000:=fun q m=>by have:=(h.bd (by lia) hA nA m).2;lia
 have b2:∀q∈qs,q.2.length<=5000:=fun q m=>by have:=(k.bd (by lia) hA nA m).2;lia
 exact CN u1 u2 (fun x m=>t? hp h k b1 b2 m) fun x m=>t? hp k h b2 b1 m
theorem Hu{t t':Int}(hp:0<p){A:ZX}(h:(t*aJ A) % p=1)(h':(t'*aJ A) % p=1):mulR p t A=mulR p t' A:=by
 have h1:=V6 (t*aJ A) p;have h2:=V6 (t'*aJ A) p;rw[h]at h1;rw[h']at h2;have c:Cg p t t':=⟨t'*(t*aJ A / p)-t*(t'*aJ A / p),by
  generalize t*aJ A / p=a at h1⊢;generalize t'*aJ A / p=b at h2⊢
  grind⟩
 unfold mulR;rw[Wh,Wh];exact W2 b9 (Xy fun x _=>(c.xu x).eq hp)
end
end PG
namespace L2
open PySem.Spec PyProof.Rows
theorem vh:entryFor table "proto.unchain" = some Builtin.«proto.unchain»:=entryFor_of_fast (by kernel_rfl)
section
variable{prog:Z6}{w:World}{A:Z5}{E:ZT}{s:Z3}{ea:Z4}{oe:Obj}
theorem zE{α:Type}{Q:α->Z3->Prop}{e:Z4}{o:Obj}{ws:Array Z2}(hh:A.handled=some (.ref ea))(ne:ea≠e)(Em:s.heap.get? ea=some oe)(cx:nu oe)(he:s.heap.get? e=some o)(hdo:o.data=.fields ws)(h3:2<ws.size)(hE:E (.ref e) {s with heap:=s.heap.update e (Obj.mapFields (·.setIfInBounds 2 (.ref ea)))}):wpAny (model prog w) A (raiseNew (.ref e):Sem α) Q E s:=by obtain⟨vs,hd,h2⟩:=cx;unfold raiseNew;refine Vj (Zb ?_);rw[hh];dsimp only;rw[VD (show(Value.ref ea !=Value.ref e)=true from by simp[ne])];refine Vj (Xo (wpAny_runValue (YW vh ?_)));unfold Builtin.«proto.unchain»;dsimp only;refine Vj (V_ Em hd h2 ?_);rw[VD (show(Value.none==Value.none)=true from rfl)];refine VC ?_;dsimp only;refine Vj ?_;show wpAny _ _ (setField (.ref e) 2 (.ref ea)) _ _ _;refine WQ he hdo h3 ?_;exact wpAny_throw hE
theorem uq{α:Type}{Q:α->Z3->Prop}(hh:A.handled=some (.ref ea))(Em:s.heap.get? ea=some oe)(cx:nu oe)(hE:∀h' e,(∀b o,s.heap.get? b=some o->h'.get? b=some o)->(∃o,h'.get? e=some o/\o.cls=.type "StopIteration")->E (.ref e) {s with heap:=h'}):wpAny (model prog w) A (newExc (.type "StopIteration") [] >>= fun e=>(raiseNew e:Sem α)) Q E s:=by
 refine Vj ?_;simp only[newExc,newTuple];refine Vj (Wf ?_ (by size_fits));refine Vj (m:=firstArgMember _ _) (wpAny_of_eq (a:=Value.none) (by first|rfl|(simp only[firstArgMember];rfl)) ?_);refine Wf ?_ (by size_fits);have h1:((s.heap.push {cls:=.type "tuple",data:=.seq ([]:ZY).toArray}).push {cls:=.type "StopIteration",data:=.fields (#[.ref s.heap.objs.size,.none,.none,.none,.bool false,.none]++ownMembersOf (.type "StopIteration") [])}).get? ea=some oe:=Vm _ (Vm _ Em);have lt:=VE Em;have sz:∀o:Obj,(s.heap.push o).objs.size=s.heap.objs.size+1:=fun o=>XA ..;refine zE hh ?_ h1 cx (VL _ rfl) rfl (by simp only[Array.size_append,VF,Vk,Vq];lia) (hE _ _ (fun b o q=>?_) ⟨_,WJ _ (VL _ rfl) rfl,rfl⟩)
 .exact V1 (Zk (Zr lt) (sz _).symm)
 .have:=VE q;rw[V5 _ _ (W4 (Zk (Zr this) (sz _).symm))];exact Vm _ (Vm _ q)
theorem Kl{it t:Z4}{i:Nat}{items:Array Z2}{Q:ZZ->Z3->Prop}(hh:A.handled=some (.ref ea))(Em:s.heap.get? ea=some oe)(cx:nu oe)(ne:ea≠it)(hit:s.heap.IsTupleIter it t i)(ht:s.heap.IsTuple t items)(hx:items[i]?=none)(hQ:∀h',Heap.ExtBut it s.heap h'->Q none {s with heap:=h'}):wpAny (model prog w) A (pyNext (.ref it)) Q E s:=by obtain⟨o,ho,hc,hd⟩:=id hit;obtain⟨ol,hol,_,nl,hdl⟩:=ht;unfold pyNext;refine Vj (XH (Wj (name:=Str.ofString "__next__") hit.typeIs WC (Wr WC hit.typeIs XU ?_ (XN _))));show wpAny _ _ (field (.ref it) 0 >>= _) _ _ s;refine Vj (V_ ho hd (x:=.ref t) rfl ?_);show wpAny _ _ (if(Value.ref t==Value.none)=true then _ else _) _ _ s;rw[VI (show ¬ ((Value.ref t==Value.none)=true)from VM)];show wpAny _ _ (field (.ref it) 1 >>= _) _ _ s;refine Vj (V_ ho hd (x:=.int i 0) rfl ?_);show wpAny _ _ (seqItems? (.ref t) >>= _) _ _ s;refine Vj (WR hol hdl ?_);simp only[WM,hx];refine Vj (Yw (Vj (WQ ho hd (by simp) ?_)));refine uq (ea:=ea) (oe:=oe) hh ((V5 _ _ (Xf ne)).trans Em) cx fun h' e k y=>?_;refine Vj (X9 (T:="StopIteration") (b:=true) y Yl ?_);exact VC (hQ _ fun b o hb q=>k b o ((V5 _ _ (Xf hb)).trans q))
theorem Km{it t:Z4}{i:Nat}{items:Array Z2}{Q:ZZ->Z3->Prop}(hh:A.handled=some (.ref ea))(Em:s.heap.get? ea=some oe)(cx:nu oe)(ne:ea≠it)(hit:s.heap.IsListIter it t i)(ht:s.heap.IsList t items)(hx:items[i]?=none)(hQ:∀h',Heap.ExtBut it s.heap h'->Q none {s with heap:=h'}):wpAny (model prog w) A (pyNext (.ref it)) Q E s:=by obtain⟨o,ho,hc,hd⟩:=id hit;obtain⟨ol,hol,_,nl,hdl⟩:=ht;unfold pyNext;refine Vj (XH (Wj (name:=Str.ofString "__next__") hit.typeIs slot_listiter_next (Wr slot_listiter_next hit.typeIs entry_listiter_next ?_ (args_listiter_next _))));show wpAny _ _ (field (.ref it) 0 >>= _) _ _ s;refine Vj (V_ ho hd (x:=.ref t) rfl ?_);show wpAny _ _ (if(Value.ref t==Value.none)=true then _ else _) _ _ s;rw[VI (show ¬ ((Value.ref t==Value.none)=true)from VM)];show wpAny _ _ (field (.ref it) 1 >>= _) _ _ s;refine Vj (V_ ho hd (x:=.int i 0) rfl ?_);show wpAny _ _ (seqItems? (.ref t) >>= _) _ _ s;refine Vj (WR hol hdl ?_);simp only[WM,hx];refine Vj (Yw (Vj (WQ ho hd (by simp) ?_)));refine uq (ea:=ea) (oe:=oe) hh ((V5 _ _ (Xf ne)).trans Em) cx fun h' e k y=>?_;refine Vj (X9 (T:="StopIteration") (b:=true) y Yl ?_);exact VC (hQ _ fun b o hb q=>k b o ((V5 _ _ (Xf hb)).trans q))
end
end L2
namespace MN
open PySem.Spec L2
open PyProof.Rows hiding St kindOf
theorem dI{N P:Z1}{sc:Scope}(a:sc.kind=.function:=by rfl)(b:sc.isCoroutine=false:=by rfl)(c:sc.isGenerator=false:=by rfl)(d:N.Nodup:=by decide +kernel)(e:N.take P.length=P:=by rfl)(f:∀x∈P,sc.names.lookup x=some .local\/sc.names.lookup x=some .cell:=by decide +kernel)(g:∀y∈sc.names,y.2≠.free:=by decide +kernel):gY N P sc:=⟨a,b,c,d,e,f,g⟩
theorem hJ{X:Cx}{N:Z1}{scope:Scope}{k:Nat}{cl:List (Str×Z4)}{bu:List Nat}(pb:closureFor scope X.env=pure cl:=by rfl)(A:gS X scope cl bu:=by repeat first|exact .nil|refine .cons (by rfl) (by rfl) (by first|exact Or.inl rfl|exact Or.inr rfl) (by first|exact Or.inl rfl|exact Or.inr rfl) ?_)(has:((relabel scope X.env).names.all fun p => !(p.2 == .cell || p.2 == .free) || (cl.map (·.1)).contains p.1)=true:=by rfl)(iQ:(scope.names.all fun p => !(p.2 == .cell))=true:=by rfl)(kind:scope.kind=.function:=by rfl)(names:(scope.names.all fun p => !(p.2 == .local) || scope.names.lookup p.1==some .local)=true:=by rfl)(len:N.length=k+bu.length:=by rfl)(hN:N.drop k=cl.map (·.1):=by rfl):o? X N scope cl k bu:=QW pb A has iQ kind names len hN
theorem Lu{X:Cx}{N:Z1}{scope:Scope}{k:Nat}{cl cl':List (Str×Z4)}{bu caps':List Nat}(pb:closureFor scope X.env=pure cl':=by rfl)(A:gS X scope cl bu:=by repeat first|exact .nil|refine .cons (by rfl) (by rfl) (by first|exact Or.inl rfl|exact Or.inr rfl) (by first|exact Or.inl rfl|exact Or.inr rfl) ?_)(B:gS X scope cl' caps':=by repeat first|exact .nil|refine .cons (by rfl) (by rfl) (by first|exact Or.inl rfl|exact Or.inr rfl) (by first|exact Or.inl rfl|exact Or.inr rfl) ?_)(has:((relabel scope X.env).names.all fun p => !(p.2 == .cell || p.2 == .free) || (cl'.map (·.1)).contains p.1)=true:=by rfl)(iQ:(scope.names.all fun p => !(p.2 == .cell))=true:=by rfl)(kind:scope.kind=.function:=by rfl)(names:(scope.names.all fun p => !(p.2 == .local) || scope.names.lookup p.1==some .local)=true:=by rfl)(len:N.length=k+bu.length:=by rfl)(hN:N.drop k=cl.map (·.1):=by rfl):o? X N scope cl' k bu:=QZ pb A B has iQ kind names len hN
section
variable{P:Z6}{w:World}{K:ZW}{mg:ZU}{base:Heap}
def MgK(K:ZW)(mg:ZU):Prop:=∀x f,W.nsIn K mainGlobals x=some (some (.ref f))->mg x=some (.ref f)
theorem i?{x:Str}:∀{l:Z1},Kd mg l->x∈l->mg x=none
 |y::l,h,hx=>by
  rcases VT.mp hx with e|e
  .rw[e];exact h.1
  .exact i? h.2 e
theorem R6{x:Str}:∀{l:Z1},Ke K mg l->x∈l->Jw K mg x
 |y::l,h,hx=>by
  rcases VT.mp hx with e|e
  .rw[e];exact h.1
  .exact R6 h.2 e
theorem FnAt.iO{x:Str}{st:Stmt}{N ps:Z1}{k:Nat}{body:MB}(F:dQ K x st)(hm:MgK K mg)(S:gY N ps (a_ st))
  (h:∀ (f:Z4) (fV:Z2) (A:Z5) (outer:List PySem.Env) (s:Z3) (H:Hp) (E:XK),N.Nodup->gK k (A.deeper (envOfC x (a_ st) s.heap.objs.size f fV)) ->
   kx (jr (nK P w) P w K mg base N x (a_ st) f fV A outer s H E) (e_ st) (tS (jr (nK P w) P w K mg base N x (a_ st) f fV A outer s H E) E body))
  (hb:∀ (kV doc pm:Z2) (an:Option Z4) (fV ct:Z2) (us:ZY),us.length=ps.length->bindArgs (W.fnOf x x (gZ st) (e_ st) (a_ st) .none kV doc pm an fV ct) ⟨us,[]⟩=pure (ps.zip us):=by
   first|exact fun _ _ _ _ _ _=>u! fun _=>rfl|exact fun _ _ _ _ _ _=>NI fun _ _=>rfl|exact fun _ _ _ _ _ _=>Q0 fun _ _ _=>rfl|exact fun _ _ _ _ _ _=>len0 rfl):FnAt P w K mg base x (k+1) (gO ps.length N.length body):=by
 obtain⟨f,fd,F,a⟩:=F;exact FnAt.mk F (hm _ _ a) S hb fun fV A outer s H E=>h f fV A outer s H E S.nd
end
end MN
namespace L2
open PySem.Spec PyProof.Rows
structure HS(X:Cx)(ea:Z4)(oe:Obj):Prop where
 hd:X.A.handled=some (.ref ea)
 get:X.s₀.heap.get? ea=some oe
 no:X.H₀ ea=none
 nf:ea ∉ X.fs
 nx:ea ∉ X.ex
 cx:nu oe
section
variable{X:Cx}{ea:Z4}{oe:Obj}{ae:ZV}{σ:St}{H:Hp}{s:Z3}
theorem HS.at(q:HS X ea oe)(I:aX X ae σ H s):s.heap.get? ea=some oe:=I.base.keep ea oe q.get q.no q.nf q.nx
theorem HS.ne(q:HS X ea oe){b:Z4}(h:kC X ae H b):ea≠b:=fun z=>by
 subst z;rcases h.2.2.2.1 with y|y
 .exact q.nx y
 .exact absurd (VE q.get) (Nat.not_lt.mpr y)
theorem nu.nc(h:nu oe)(v:ZZ):oe.data≠.cell v:=fun z=>by obtain⟨vs,h,_⟩:=h;rw[h]at z;cases z
theorem HS.held(q:HS X ea oe)(I:aX X ae σ H s):Og ea oe X.stack H s:=
 ⟨q.at I,I.base.free ea oe q.get q.no q.nx,I.Dg (V1 (VJ (VE q.get) I.ok.above)) q.nf,q.cx.nc⟩
theorem HS.block(q:HS X ea oe)(I:aX X ae σ H s){fp:Z0}(hf:∀b∈fp,kC X ae H b){N:Z1}{scope:Scope}{cl:List (Str×Z4)}{D:Z4}{xe:Z4->Z2->Z3->Prop}:HS (OZ X N scope cl D fp s H xe) ea oe:=
 ⟨q.hd,q.at I,(q.held I).no,(q.held I).out,fun h=>q.ne (hf ea h) rfl,q.cx⟩
abbrev Lw(X:Cx):Prop:=∃ea oe,HS X ea oe
theorem D!{P:Z6}{w:World}{K:ZW}{tg:Expr}(a it:Z4):E7 Lw P w K tg (Py K a) [it] it (fun i h=>h.IsTupleIter it a i) where
 obj:=(jN (P:=P) (w:=w) (K:=K) (tg:=tg) a it).obj
 keep:=(jN (P:=P) (w:=w) (K:=K) (tg:=tg) a it).keep
 self:=(jN (P:=P) (w:=w) (K:=K) (tg:=tg) a it).self
 item:=by intro X hP hw hK hc i ae s σ H E I hf st hg;subst hP hw hK;obtain⟨xs,x,hq,hx⟩:=hg;obtain⟨aV,rv,p,hz⟩:=I.tuple hq;obtain⟨u,hu,ru⟩:=rv.get hx;obtain⟨f0,f1,f2,f3,f4,f5⟩:=hf it (by simp);refine Zm st (show s.heap.IsTuple a aV.toArray from p) (x:=u) (by simpa using hu) fun h' ar sb=>?_;have I1:aX X ae σ H {s with heap:=h'}:=I.turned (t':=s.toks) (fun b o hb e=>(sb.2 b hb).trans e) f0 f1 f3 f4 f5;obtain⟨o,e,c,d⟩:=id ar;exact⟨u,rfl,ym (s:={s with heap:=h'}) e c d (by decide) ⟨x,H,I1,ru,⟨rfl,fun ys hy=>by rw[I.mj hy hq];exact hx⟩,ar,fun b hb=>(hf b hb).1⟩⟩
 done:=by intro X hP hw hK hc i ae s σ H E I hf st hg;subst hP hw hK;obtain⟨ea,oe,q⟩:=hc;obtain⟨xs,hq,hx⟩:=hg;obtain⟨aV,rv,p,hz⟩:=I.tuple hq;obtain⟨f0,f1,f2,f3,f4,f5⟩:=hf it (by simp);have hl:=rv.length;exact Kl q.hd (q.at I) q.cx (q.ne (hf it (by simp))) st (show s.heap.IsTuple a aV.toArray from p) (by simp;lia) fun h' eb=>⟨rfl,I.turned (t':=s.toks) (fun b o hb e=>eb b o hb e) f0 f1 f3 f4 f5⟩
theorem Hv{tg elt iter:Expr}{ifs:List Expr}{scope:Scope}{pos:Pos}{N:Z1}{cl:List (Str×Z4)}{k:Nat}{bu:List Nat}{tl:TE}{g:TG}{tt:TT}{te:TE}(qx:Lw X)(B:o? X N scope cl k bu)(hl:PE X iter tl)(hg:∀C fp s H,PG (oW X N scope cl C fp s H) tg g)(E_:∀C fp s H,zZ (oW X N scope cl C fp s H) ifs tt)(he:∀C fp s H,PE (oW X N scope cl C fp s H) elt te)(hs:∀x,foldedSetIterable iter X.env x=pure x:=by intro _;rfl):PE X (.ListComp elt [⟨tg,iter,ifs,0⟩] scope pos) (qi k bu (fun σ H R=>tl σ H fun x H1=>∃a,x=.ref a/\(∃xs,mY X.K H1 a xs)/\R (Py X.K a) H1) g tt te):=by
 intro ae s σ H Q I h;rw[eval_ListComp];refine X8 (use:=none) rfl hs B.pb B.kind B.names (dJ (hl ae s σ H _ I (mw h)) fun xv s₁⟨x,H1,I1,r1,a,e,⟨xs,hq⟩,hW⟩=>?_);subst e;cases r1;obtain⟨aV,rv,p,hz⟩:=I1.tuple hq;refine Yx (show s₁.heap.IsTuple a aV.toArray from p) ?_;have I2:=I1.kept (t':=s₁.toks) fun b o e=>Vm {cls:=.type "tuple_iterator",data:=.fields #[.ref a,rawInt 0]} e;have f2:∀b∈[s₁.heap.objs.size],kC X ae H1 b:=fun b hb=>by rw[VY.mp hb];exact I1.Ad (VA _) (I1.dq.fresh (VA _))
 obtain⟨ea,oe,qx⟩:=qx;have z:=sU (X:=X) (xe:=fun _ _ _=>False) (RR:=fun acc en=>compPost (model X.prog X.w) X.A X.xe none (EP X ae σ Q) acc en.locals) (E:=X.xe) (iter:=iter) (pos:=pos) (Cd:=Lw) (fun _=>⟨ea,oe,qx.block I2 f2⟩) B hg E_ (fun C fp s H _=>he C fp s H) I2 (D! a _) ⟨_,VL _ rfl,rfl,rfl⟩ f2 hW ?_ fun _ _ _ _ q=>q.elim
 .exact z
 .rintro acc C s' ⟨D,H',rfl,hC,I',hn,⟨m,ns⟩,q⟩;exact⟨m,ns,fun h' sb=>⟨.ref D,H',I2.pe hC I' hn sb,rfl,q⟩⟩
end
end L2
namespace MN
open PySem.Spec L2
open PyProof.Rows hiding St kindOf
section
variable{X:Cx}{E:XK}{pos p:Pos}{x:Str}{k j:Nat}{f:FN}{e:Expr}{es:List Expr}{ms:MA}
theorem Hw{tg elt iter:Expr}{ifs:List Expr}{scope:Scope}{N:Z1}{cl:List (Str×Z4)}{k:Nat}{bu:List Nat}{vs:List ah}{a:AS}{c:MT}{e:ME}(qx:Lw X)(Nv:X.pn=[])(B:o? X N scope cl k bu)(hi:PE X iter (tE X E (mC (.mt vs))))(hg:∀C fp s H,PG (oW X N scope cl C fp s H) tg (tA (W0 X) a))(E_:∀C fp s H,zZ (oW X N scope cl C fp s H) ifs (tG (W0 X) E0 RB c))(he:∀C fp s H,PE (oW X N scope cl C fp s H) elt (tG (W0 X) E0 (Rl X.K) e))(hs:∀x,foldedSetIterable iter X.env x=pure x:=by intro _;rfl):PE X (.ListComp elt [⟨tg,iter,ifs,0⟩] scope pos) (tE X E (dX k bu (g_ (mC (.mt vs))) a c e)):=by refine PE.imp (Hv qx B hi hg E_ he hs) fun σ H Q h=>?_;have z:=mw (pv Nv h);refine yC ?_;obtain⟨μ,ρ,st,rs,sr,h⟩:=z;refine⟨μ,ρ,st,rs,sr,fun ρ1 H1 x e1 cS r1=>?_⟩;obtain⟨a,ws,rfl,ha,ra⟩:=r1.U2;exact⟨a,rfl,⟨ws,ha⟩,h ρ1 H1 _ e1 cS (w6 ha ra)⟩
theorem D?{s:Stmt}{c:Str}{v:ah}:PS X s (tS X E0 (iS c (aa (mC v) aj))):=fun ae s σ H D I h=>by
 obtain⟨μ,ρ,st,rs,sr,h⟩:=h;unfold iS at h;change wS _ _ _ _ _ (if[v].length<=sizeLine then _ else _) at h;split at h
 .obtain⟨C,_,h⟩:=h;exact(h ρ H (aU.refl _ _) sr).elim
 .exact h.elim
theorem Ea(q:Lw X):cz X (.builtin "all") (cM (wo X) E yK):=by
 refine B0 ?_;rintro ae s σ H xs ws Q I r ⟨a,ρ,us,vs,bs,rfl,hs,rv,hb,hq⟩;obtain⟨u,rfl,ru⟩:=vals1 r;cases ru;obtain⟨ea,oe,q⟩:=q;obtain⟨aV,r1,p1,_⟩:=I.list hs;have B:=pq hb rv r1;have hl:=p1.isList;have yb:a<s.heap.objs.size:=by obtain⟨_,e,_⟩:=hl;exact VE e
 have he:=q.at I;have ne:ea≠s.heap.objs.size:=V1 (VE he);have W:Walks X.prog X.w X.A.in1 s.heap.objs.size [s.heap.objs.size,a,ea] [s.heap.objs.size] aV.toArray.size (fun i v=>aV.toArray[i]?=some v) (fun i h=>(h.IsListIter s.heap.objs.size a i/\h.IsList a aV.toArray)/\h.get? ea=some oe):=by
  have W0:=Walks.list (prog:=X.prog) (w:=X.w) (A:={X.A.in1 with handled:=none}) rfl s.heap.objs.size a (V1 yb) aV.toArray;refine⟨fun b hb=>by simp at hb;simp[hb],fun i h h' st k=>⟨W0.frame i h h' st.1 fun b hb=>k b (Wk [ea] hb),k ea (by simp) _ st.2⟩,fun i s' Q' E' hi st hQ=>?_,fun s' Q' E' st hQ=>?_,fun i s' Q' E' st h=>ZL st.1.1 h⟩
  .refine Zz st.1.1 st.1.2 (x:=aV.toArray[i]) (by simp[hi]) fun h' aan HP=>?_;exact hQ _ h' s'.toks (by simp[hi]) ⟨⟨aan,st.1.2.extBut HP.extBut (V1 yb)⟩,HP.extBut ea oe ne st.2⟩ fun b o hb e=>HP.extBut b o (fun h=>hb (by simp[h])) e
  .exact Km q.hd st.2 q.cx ne st.1.1 st.1.2 (by simp) fun h' wV=>hQ h' s'.toks fun b o hb e=>wV b o (fun h=>hb (by simp[h])) e
 refine call_all_walk (X6 hl ?_);refine⟨s.heap.objs.size,_,_,aV.toArray.size,_,_,fun i=>(bs[i]?).getD true,rfl,W,⟨⟨⟨_,VL _ rfl,rfl,rfl⟩,hl.push _⟩,Vm _ he⟩,fun i v s' Q' E' hP hQ=>?_,fun h' tk hk=>?_⟩
 .obtain⟨b,e,rfl⟩:=B.get i v (by simpa using hP);simp only[e,Option.getD_some]at hQ;exact WB hQ
 .have e:((List.range aV.toArray.size).all fun i=>(bs[i]?).getD true)=bs.all id:=by rw[VF,B.length];exact LSm.range_all bs
  rw[e];exact⟨.bl _,H,I.kept (LSm.kept_iter hk),rfl,hq⟩
end
end MN
namespace L2
open PySem.Spec PyProof.Rows
def OC(P:Z6)(w:World)(K:ZW)(mg:ZU)(base:Heap)(N:Z1)(qual:Str)(scope:Scope)(f:Z4)(cd:Z2)(A:Z5)(outer:List Env)(s:Z3)(H:Hp):Cx:=
 {jr (nK P w) P w K mg base N qual scope f cd A outer s H E0 with calm:=false}
theorem OD{P:Z6}{w:World}{K:ZW}{mg:ZU}{base:Heap}{k:Nat}{f:Z4}{name qual:Str}{params:Arguments}{body:List Stmt}{scope:Scope}{dV kV doc pm fV ct oc:Z2}{an od:Option Z4}{C2:Array (ZZ)}{N ps:Z1}(lk:K.lookup f=some ⟨oc,od,.func (W.fnOf name qual params body scope dV kV doc pm an fV ct),C2⟩)(zW:W.codeIn K fV qual=true)(S:gY N ps scope){A:Z5}{outer:List Env}{s:Z3}{H:Hp}{args:Args}{us:ZY}{vs:List V}{Q:VK}(hr:i_ (k+1) A)(e0:Ai P w K mg base A outer s H)(hb:BindsTo s (W.fnOf name qual params body scope dV kV doc pm an fV ct) args (ps.zip us))(r:bA vs us)(hl:vs.length=ps.length)(yp:∃t,kx (OC P w K mg base N qual scope f fV A outer s H) body t/\t {nx:=fun _ H'=>Q .dg H',rt:=Q} (start N vs) H):
  codeAny (model P w) A (.call (.ref f) args) (CR (nK P w) outer P w H s Q E0) s:=by
 have KX:K.In s.heap:=e0.mod.Ku.keeps fun b o e=>(e0.bs b o e).1;have lim:s.heap.NoLimit:=e0.mod.nolimit.keeps fun b o e=>(e0.bs b o e).1;have EF:∀y∈ps.zip us,scope.names.lookup y.1=some .local\/(scope.names.lookup y.1=some .cell/\((cellsFrom (s.heap.objs.size+1) scope.names []).lookup y.1).isSome=true):=fun⟨n,v⟩hy=>by
  rcases S.par n (Ys hy).1 with q|q
  .exact .inl q
  .exact .inr ⟨q,X0 _ _ _ (.inl q)⟩
 refine ZN (A:=A) (show _ from hr.room.depth) (KX _ _ lk) rfl S.co S.gen rfl (Zi KX zW) (hb _ _ _ _ ?_);refine Y9 S.kind EF fun env he s1 x=>?_;subst he;refine⟨lim.keeps x.toInCall.keep,codeAny_func ?_⟩;obtain⟨t,ht,hq⟩:=yp;have e1:Ai P w K mg base {A with handled:=none} outer s H:=⟨e0.frames,e0.mod,e0.bs,e0.HJ,e0.kz,e0.Ej,e0.dq,e0.bare⟩
 have I0:aX (jr (nK P w) P w K mg base N qual scope f fV {A with handled:=none} outer s H E0) [] (start N vs) H s1:=vI S rfl e1 hl r x;have I:aX (OC P w K mg base N qual scope f fV A outer s H) [] (start N vs) H s1:=
  ⟨⟨I0.ok.mod,I0.ok.kind,I0.ok.glob,I0.ok.blt,I0.ok.above,I0.ok.inj,I0.ok.has,I0.ok.Kv,fun h=>(by cases h),I0.ok.frames,I0.ok.HI,I0.ok.Sk,I0.ok.bs,I0.ok.HJ,I0.ok.yh,I0.ok.CV,I0.ok.kz,I0.ok.Ej⟩,I0.os,I0.bare,I0.base,I0.loc,I0.cell,I0.free,I0.jf,I0.pin,I0.dq,I0.len⟩
 refine Wm (ht [] s1 (start N vs) H _ I hq) (fun fl s' hs=>?_) fun e s' hs=>hs;have fin:∀{σ':St}{H':Hp}{v:V}{u:Z2},aX (OC P w K mg base N qual scope f fV A outer s H) [] σ' H' s'->bK v u->Q v H'->CE outer P w H s Q u s':=
  fun{σ' H' v u}J rv q=>⟨v,H',J.os,J.bare,J.base,J.dq,rv,q⟩
 cases fl with
 |ret u=>
  obtain⟨v,σ',H',J,rv,q⟩:=hs;exact fin J rv q
 |next=>
  obtain⟨σ',H',J,q⟩:=hs;exact fin (v:=V.dg) (u:=Value.none) J rfl q
 |brk=>obtain⟨_,_,_,q⟩:=hs;exact False.elim q
 |cont=>obtain⟨_,_,_,q⟩:=hs;exact False.elim q
end L2
namespace MN
open PySem.Spec L2
open PyProof.Rows hiding St kindOf
def gf(P:Z6)(w:World)(K:ZW)(mg:ZU)(base:Heap)(x:Str)(k:Nat)(F:FN):Prop:=
 ∃(fa:Z4)(fd:FuncData)(ps:Z1),mg x=some (.ref fa)/\W.keepIn K (.ref fa)=true/\Binds K fd ps []/\(∀vs H Q,Fx ⟨K,mg,[]⟩ F vs H Q E0->vs.length=ps.length) /\
  ∀(A:Z5)(outer:List PySem.Env)(s:Z3)(H:Hp)(ea:Z4)(oe:Obj)(us:ZY)(vs:List V)(Q:VK)(args:Args),i_ k A->A.handled=some (.ref ea)->nu oe->Ai P w K mg base A outer s H->BindsTo s fd args (ps.zip us)->Og ea oe outer H s->bA vs us ->
   Fx ⟨K,mg,[]⟩ F vs H Q E0->codeAny (model P w) A (.call (.ref fa) args) (CR (nK P w) outer P w H s Q E0) s
section
variable{P:Z6}{w:World}{K:ZW}{mg:ZU}{base:Heap}
theorem gf.iO{x:Str}{st:Stmt}{N ps:Z1}{k:Nat}{body:MB}(F:dQ K x st)(hm:MgK K mg)(S:gY N ps (a_ st))
  (h:∀ (f:Z4) (fV:Z2) (A:Z5) (outer:List PySem.Env) (s:Z3) (H:Hp),N.Nodup->i_ k (A.deeper (envOfC x (a_ st) s.heap.objs.size f fV))->Lw (OC P w K mg base N x (a_ st) f fV A outer s H) ->
   kx (OC P w K mg base N x (a_ st) f fV A outer s H) (e_ st) (tS (OC P w K mg base N x (a_ st) f fV A outer s H) E0 body))
  (hb:∀ (kV doc pm:Z2) (an:Option Z4) (fV ct:Z2) (us:ZY),us.length=ps.length->bindArgs (W.fnOf x x (gZ st) (e_ st) (a_ st) .none kV doc pm an fV ct) ⟨us,[]⟩=pure (ps.zip us):=by
   first|exact fun _ _ _ _ _ _=>u! fun _=>rfl|exact fun _ _ _ _ _ _=>NI fun _ _=>rfl):gf P w K mg base x (k+1) (gO ps.length N.length body):=by
 obtain⟨f,fd,F,a⟩:=F;have len:∀vs H Q,Fx ⟨K,mg,[]⟩ (gO ps.length N.length body) vs H Q E0->vs.length=ps.length:=fun vs H Q q=>by
  obtain⟨us,ρ,st,r,sr,q⟩:=q;by_cases hl:us.length=ps.length
  .rw[<-r.length];exact hl
  .unfold gO at q;rw[VI hl]at q;exact q.elim
 refine⟨f,fd,ps,hm _ _ a,F.kp,F.binds hb,len,fun A outer s H ea oe us vs Q args hr hh cx e0 hbt hx rv q=>?_⟩;have hl:=len _ _ _ q;obtain⟨oc,od,kV,doc,pm,an,fV,ct,C2,rfl,lk,zW⟩:=F.ex;have S6:i_ k (A.deeper (envOfC x (a_ st) s.heap.objs.size f fV)):=by have:=(hr.room).deeper (envOfC x (a_ st) s.heap.objs.size f fV);exact⟨this.dp,this.un⟩
 have qt:Lw (OC P w K mg base N x (a_ st) f fV A outer s H):=⟨ea,oe,hh,hx.get,hx.no,hx.out,(fun z=>by cases z),cx⟩
 refine OD lk zW S hr e0 hbt rv hl ⟨_,h f fV A outer s H S.nd S6 qt,?_⟩;obtain⟨us,ρ,ar,r,sr,q⟩:=q;unfold gO at q;by_cases hl:us.length=ps.length
 .rw[VD hl,<-hl]at q;refine⟨_,ρ,ar,RS.start r,sr,?_⟩;revert q;cases body (us.map some++List.replicate (N.length-us.length) none) ar with
  |nx μ cJ=>exact fun q ρ' H' σ' e s _=>q ρ' H' .dg e s Rl.BS
  |rt v cJ=>exact fun q=>q
  |er c μ cJ=>exact fun q=>q
  |_=>exact fun q=>q.elim
 .rw[VI hl]at q;exact q.elim
end
def HQ(X:Cx):Prop:=∃ea oe,X.A.handled=some (.ref ea)/\nu oe/\∀ae σ H s,aX X ae σ H s->Og ea oe X.stack H s
section
variable{X:Cx}{pos p np:Pos}{e:Expr}{es:List Expr}{ms:MA}{f:FN}{x:Str}{k j:Nat}
theorem zF(q:Lw X):HQ X:=let⟨ea,oe,q⟩:=q;⟨ea,oe,q.hd,q.cx,fun _ _ _ _ I=>q.held I⟩
theorem R7{ea:Z4}{oe:Obj}(cx:nu oe):HQ (L2.BR X ea oe):=⟨ea,oe,rfl,cx,fun ae σ H s I=>by
 have z:=I.pin (ea,oe) (Wk _ (VS ..));exact⟨z.1,z.2.1,I.Dg z.2.2.1 z.2.2.2.1,z.2.2.2.2⟩⟩
theorem pQ(G:gf X.prog X.w X.K X.mg X.base x k f)(hr:i_ j X.A)(hk:k<=j)(hq:HQ X)(hg:Gl X x)(ha:PA X (e::es) (tL X E0 ms))(u3:(x==("__debug__":Str))=false:=by decide)(he:starEach (e::es) X.env=(false,eval e X.env)::starEach es X.env:=by rfl)(m6:(backTo pos (starEach es X.env)).any (·.1)=false:=by rfl):PE X (.Call (.Name x p) (e::es) [] pos) (tE X E0 (ai f ms)):=by
 obtain⟨fa,fd,ps,hm,kp,hb,len,run⟩:=G;obtain⟨ea,oe,hh,cx,held⟩:=hq;intro ae s σ H Q I h;obtain⟨μ,ρ,st,rs,sr,h⟩:=h;refine Xu (l! I hg hm ?_ u3);refine Yi (h₀:=X.base) I.ok.mod.Ku kp (dJ (ha pos ae s σ H (fun vs H1=>Fx ⟨X.K,X.mg,[]⟩ f vs H1 Q E0) I (go (R1:=bE X.K) μ ρ st rs sr h fun us st1 ρ1 H1 xs e1 cS r1 h1=>⟨us,ρ1,st1,r1,cS,wR.pn h1⟩)) fun us s1⟨vs,H1,I1,r,q⟩=>⟨I1.sF,?_⟩) he m6;have hl:(us++[]).length=ps.length:=by rw[V3,<-r.length];exact len _ _ _ q
 have QD:=hb s1 us I1.sF hl;rw[V3]at QD;refine wpAny_call (XR (run X.A X.stack s1 H1 ea oe us vs Q ⟨us,[]⟩ (hr.mono hk) hh cx I1.Mn QD (held _ _ _ _ I1) r q) fun r s' hq=>?_);cases r with
 |error e=>obtain⟨_,_,_,_,_,z⟩:=hq;exact z.elim
 |ok fl=>
  cases fl with
  |ret u=>exact I1.after hq
  |next=>exact False.elim hq
  |brk=>exact False.elim hq
  |cont=>exact False.elim hq
end
end MN
namespace PM
open PySem.Spec L2 MN
open PyProof.Rows hiding St
def fj:FN:=gO 2 2 (bG (ai PM.gB (aa (dX 1 [0,1] (cK (aa (af gP (ai bx (aa bw aj)) b!) aj)) (aI 0) bO (af bW (af bV (af bU a! b!) (af bN cW (af bU a! b!))) bw)) aj)))
def i':FN:=gO 2 9 (aC (aO 2 (ai PM.gB (aa (dA (aa (af bW (ai PM.aZ (aa a! (aa b! aj))) bw) aj)) aj))) (aC (fM (cK (aa (af bW (ai PM.aZ (aa a! (aa ny aj))) Fv) aj)) (aI 3) (aC (aO 4 (ai PM.aZ (aa a! (aa (af bU KR (af bV ny eh)) aj)))) (aC (aO 5 (af bU b! (af bW (ai PM.aZ (aa a! (aa (af bU (mC (.int 10)) eh) aj))) Fv))) (aC (aO 6 (ai PM.iM (aa bw (aa (af c_ eg (mC (.int 25))) (aa j? aj))))) (aC (aO 6 (af bU (af bU qm (af bV (dA (aa dF aj)) (af gP j? (ai bx (aa qm aj))))) (dA (aa b! aj)))) (aC (aO 7 (af bU b! (af c_ (af bV (af bW (af c_ eg ny) KR) (af bW (af c_ eg (mC (.int 6))) Fv)) ny))) (aC (ij (fm (b8 (af h! (af bW (af c_ eg Dr) Nd) b!)) (b8 (af ltV bw Fv))) (aO 7 (af bV bw (af bU b! (af bW (af c_ eg (mC (.int 120))) ny)))) (ij (fm (b8 (af h! (af bW (af c_ eg Dr) Nd) b!)) (fm (b8 (af ltV bw Dr)) (b8 (af h! eh dF)))) (aC (aO 6 (dA (aa (af bW (af c_ eg (mC (.int 120))) bw) (aa b! aj)))) (aO 7 bw)) bT)) (fM (cK (aa uW aj)) (aI 8) (aO 2 (ai PM.dj (aa bw (aa cW (aa qm aj))))))))))))) (aC (aO 4 (ai PM.aZ (aa a! (aa (mC (.int 9)) aj)))) (aC (ij (fm (b8 (af h! (af bW eg Fw) b!)) (b8 (af ltV bw (mC (.int 100))))) (aC (aO 7 bw) (aC (cN (fm (b8 (af ltV (af bV uW bw) (mC (.int 100)))) (b8 (af h! (af bW (af c_ eg Fw) ny) b!))) (aO 7 (af bV uW bw))) (aO 2 (af bU (af bU (dA (aa (af bW (af c_ eg (mC (.int 16))) bw) aj)) (af bV (dA (aa dF aj)) (af gP uW b!))) (dA (aa b! aj)))))) bT) (aC (ij (fm (b8 (af h! (af bW eg Fw) ny)) (b8 (af jV cW (dA aj)))) (aC (aO 2 (ai PM.dj (aa bw (aa (O7 cW (yS (iK b!)) yR) (aa (dA (aa (af bW (af bU b! (af c_ eg (mC (.int 128)))) bw) (aa b! aj))) aj))))) (fM (cK (aa (af bU Nd (af bW (af c_ eg Fw) (mC (.int 16)))) aj)) (aI 8) (aO 2 (ai PM.dj (aa bw (aa cW (aa (dA (aa (af bW (af c_ eg (mC (.int 128))) bw) (aa b! aj))) aj))))))) bT) (bG cW))))))
def b7:FN:=gO 4 4 (aC (ij (g8 (dW (b8 (Dx "tuple" bw))) (b8 (af jV (ai bx (aa bw aj)) ny))) (bG (mC (.bl false))) bT) (aC (ij (g8 (dW (b8 (ai PM.fb (aa a! (aa (af bN bw dF) aj))))) (dW (b8 (ai PM.fb (aa a! (aa (af bN bw b!) aj)))))) (bG (mC (.bl false))) bT) (bG (af h! (ai PM.oa (aa a! (aa (ai PM.dj (aa a! (aa (af bN bw dF) (aa cW aj)))) (aa (ai PM.dj (aa a! (aa (af bN bw b!) (aa eh aj)))) aj)))) (dA (aa b! aj))))))
def h_:FN:=gO 2 4 (aC (ij (g8 (dW (b8 (Dx "tuple" bw))) (g8 (b8 (af jV (ai bx (aa bw aj)) ny)) (g8 (dW (b8 (ai PM.gr (aa (af bN bw dF) aj)))) (dW (b8 (Dx "list" (af bN bw b!))))))) (bG (mC (.bl false))) bT) (aC (aO 2 dF) (aC (fM (g_ (af bN bw b!)) (aI 3) (aC (ij (g8 (dW (b8 (Dx "tuple" eh))) (g8 (b8 (af jV (ai bx (aa eh aj)) ny)) (g8 (dW (b8 (ai PM.fb (aa a! (aa (af bN eh dF) aj))))) (dW (b8 (ai PM.gr (aa (af bN eh b!) aj))))))) (bG (mC (.bl false))) bT) (aC (ij (g8 (b8 (af ltV (ai bx (aa (af bN eh dF) aj)) ny)) (g8 (b8 (af jV (af bN (af bN eh dF) (iK b!)) b!)) (b8 (af Ji (af bN eh b!) cW)))) (bG (mC (.bl false))) bT) (aO 2 (af bN eh b!))))) (bG (mC (.bl true))))))
def gI:FN:=gO 2 5 (aC (fM (cK (aa (ai bx (aa bw aj)) aj)) (aI 2) (aC (ij (dW (b8 (ai PM.b7 (aa a! (aa (ai PM.gv (aa a! (aa (ai gy (aa (af bN bw cW) aj)) aj))) (aa (af bN bw cW) (aa (ai PM.fj (aa a! (aa (af bN bw cW) aj))) aj))))))) (bG (mC (.bl false))) bT) (fM (cK (aa cW aj)) (aI 3) (aC (aO 4 (ai PM.meet (aa a! (aa (ai gy (aa (af bN bw eh) aj)) (aa (ai gy (aa (af bN bw cW) aj)) aj))))) (ij (dW (b8 (ai PM.b7 (aa a! (aa (jt (aa (af bN eg KR) (aa (af bN eg Fv) aj))) (aa (af bN bw eh) (aa (af bN bw cW) aj))))))) (bG (mC (.bl false))) bT))))) (bG (mC (.bl true))))
def gJ:FN:=gO 2 3 (aC (ij (b8 (af h! (ai bx (aa bw aj)) dF)) (bG (mC .dg)) bT) RG)
def jo:FN:=gO 2 2 (aC (iB (ai PM.dG (aa a! aj))) (bG (ai PM.gJ (aa a! (aa bw aj)))))
end PM
namespace PG
open PySem.Spec L2 MN
open PyProof.Rows hiding St kindOf
open SA (cI)
structure One(p:Int)(A B U V:ZX):Prop where
 u:Row p U
 v:Row p V
 lu:U.length<=50000
 lv:V.length<=50000
 e:a8 p (cf [1]) (fun k=>mF U (cf A) k+mF V (cf B) k)
section
variable{p:Int}{A B G S T U V:ZX}
theorem lI.dv(h:lI p A B G S T U V):(aL A:aE p)=aL G*aL S/\(aL B:aE p)=aL G*aL T:=by
 have q:∀C Q:ZX,a8 p (cf C) (mF Q (cf G))->(aL C:aE p)=aL G*aL Q:=fun C Q e=>by rw[cj];exact mk_eq (e.trans (a8.of_eq (bg _ _)).symm)
 exact⟨q A S h.cA,q B T h.cB⟩
theorem lI.one(hp:2<=p)(h:lI p A B G S T U V)(c:cI (aL A:aE p) (aL B)):G=[1]:=by obtain⟨e1,e2⟩:=h.dv;obtain⟨z,hz⟩:=SA.xF c e1 e2;exact jH hp ⟨h.rG,h.nG,h.lG⟩ hz
theorem lI.is(h:lI p A B [1] S T U V):One p A B U V:=⟨h.rU,h.rV,by have:=h.RE;lia,by have:=h.RE;lia,h.cG⟩
theorem One.Pb(h:One p A B U V):cI (aL A:aE p) (aL B):=by refine⟨aL U,aL V,?_⟩;rw[<-CA];exact(mk_eq (h.e.trans (a8.of_eq fun k=>by rw[d5,bg,bg]))).symm
variable{st:ag}
theorem lJ(hp:eZ p=true){n:Nat}(ln:st[n]?=some (aq A))(hA:Row p A)(nA:A≠[])(hl:A.length<=4000):
  ∃ar v,PM.gv [.int p,.loc n] st=.ok v ar/\Fr st ar/\((v=.dg/\¬ cI (aL A:aE p) (dP (aL A)))\/∃k4 k5 U V,v=.tup [.loc k4,.loc k5]/\One p A (iw p A) U V/\ar[k4]?=some (aq U)/\ar[k5]?=some (aq V)/\k4≠k5/\st.length<=k4/\st.length<=k5):=by
 have hr:=aF hp;have gn:0<p:=by lia
 obtain⟨g0,ec⟩:=fH hp st;obtain⟨L,hL⟩:∃L:Int,L=(A.length:Int):=⟨_,rfl⟩
 have ln:=aS ln g0;have kl:bx [.loc n] (st++g0)=.ok (.int L) (st++g0):=by rw[a7 (ay ln),az,hL]
 have a0:0<A.length:=Vz.mpr nA;have z:(L==0)=false:=by simp;lia
 obtain⟨g,kB,e0,_,lB⟩:=kh (fG hp) (ay ln) (by lia);have lB:(st++g0++g)[kB]?=some (aq (iw p A)):=lB;have bL:=i! (p:=p) A;obtain⟨s',k1,k2,k3,k4,k5,G,S,T,U,V,e1,F,ho,Eb,nd,hk⟩:=G8 hp (aS ln g) lB hA (nE gn A) (.inl nA) (by lia) (by lia);have lG:s'[k1]?=some (aq G):=Eb.2 0 k1 G rfl rfl;obtain⟨N,hN⟩:∃N:Int,N=(G.length:Int):=⟨_,rfl⟩
 have kg:bx [.loc k1] s'=.ok (.int N) s':=by rw[a7 (ay lG),az,hN]
 have FF:Fr st s':=((Fr.app st g0).more g).trans F;have ll:(st++g0++g).length=st.length+g0.length+g.length:=by rw[Vn,Vn]
 cases q:(N==1) with
 |true=>
  have q2:N=1:=by simpa using q
  have q':G.length=1:=by lia
  have hG:=u! ⟨ho.rG,ho.nG,ho.lG⟩ q';subst hG;refine⟨s',.tup [.loc k4,.loc k5],by simp only[PM.gv,PM.gH,bI,ao,aD,aW,bt,ax,aM,aw,rZ,aH,av,ke,gC,bY,bJ,bM,bc,aR,aQ,vW,aG,au,il,aA,aT,bp,fw,bh,bj,bo,dz,aP,dZ,a9,aK,Vr,VH,VB,Vu,Vy,Vt,Vo,Vs,Nat.reduceSub,Vk,Vq,Nat.reduceAdd,Vv,Nat.reduceLeDiff,↓reduceIte,ec,kl,z,e0,e1,bz vd,bz at3,bz at4,kg,q],FF,.inr ⟨k4,k5,U,V,rfl,ho.is,Eb.2 3 k4 U rfl rfl,Eb.2 4 k5 V rfl rfl,?_,?_,?_⟩⟩
  .simp at nd;exact nd.2.2.2
  .have:=hk k4 (by simp);lia
  .have:=hk k5 (by simp);lia
 |false=>
  refine⟨s',.dg,by simp only[PM.gv,PM.gH,bI,ao,aD,aW,bt,ax,aM,aw,r6,aH,av,gC,bY,bJ,bM,bc,aR,aQ,vW,aG,au,aA,aT,bp,fw,bh,bj,bo,dz,aP,dZ,a9,aK,Vr,VH,VB,Vu,Vy,Vt,Vo,Vs,Nat.reduceSub,Vk,Vq,Nat.reduceAdd,ec,kl,z,e0,e1,bz vd,kg,q],FF,.inl ⟨rfl,fun c=>?_⟩⟩;rw[<-jI gn A]at c;have:=ho.one hr.1 c;rw[hN,this]at q;cases q
theorem ur(hp:eZ p=true){k4 k5 a b:Nat}(h:One p A B U V)(l4:st[k4]?=some (aq U))(l5:st[k5]?=some (aq V))(la:st[a]?=some (aq A))(lb:st[b]?=some (aq B))(h1:A.length<=5000)(h2:B.length<=5000):
  ∃ar,PM.b7 [.int p,.tup [.loc k4,.loc k5],.loc a,.loc b] st=.ok (.bl true) ar/\Fr st ar:=by
 have hr:=aF hp;have gn:0<p:=by lia
 have e1:=jx h.u l4;have F1:=Fr.app st [aB.lst []];have e2:=jx h.v (F1 _ _ l5);have F2:=F1.more [aB.lst []];have:=h.lu;have:=h.lv;obtain⟨s5,t3,X3,e5,F5,_,m3,r3,c3,l3⟩:=fT hp (ay (F2 _ _ l4)) (ay (F2 _ _ la)) (h.u.sm hp) (by lia) (by lia);obtain⟨s6,t4,X4,e6,F6,_,m4,r4,c4,l4'⟩:=fT hp (ay (F5 _ _ (F2 _ _ l5))) (ay (F5 _ _ (F2 _ _ lb))) (h.v.sm hp) (by lia) (by lia);obtain⟨s7,t5,X5,e7,F7,_,m5,r5,c5⟩:=Bc hp (F6 _ _ m3) m4 (by lia) (by lia);have z5:X5=[1]:=Row.ext gn r5 (si hr.1) (c5.trans (a8.trans (fun k=>(c3 k).add (c4 k)) h.e.symm));subst z5;have q5:=GH (ay (aS m5 [aq [1]])) (ay (aN s7 ([1].map ah.int))) (fF 14 [1]);have hn:s7++[aB.lst [.int 1]]=s7++[aq [1]]:=rfl;have i2:(((2:Nat):Int)==2)=true:=rfl;refine⟨s7++[aq [1]],?_,F2.trans (F5.trans (F6.trans (F7.more _)))⟩;simp only[PM.b7,bI,ao,aD,aW,bt,ax,aM,aw,fQ,gm,aH,av,eJ,bY,bJ,bc,aR,aQ,gk,fe,aG,au,c8,aA,tJ,aT,bp,bh,bj,m_,oj,aP,dZ,a9,aK,Vr,VH,VB,Vu,Vt,Nat.reduceSub,Vk,Vq,Nat.reduceAdd,Wd,Vv,Nat.reduceLeDiff,↓reduceIte,k6,bz vd,bz Ab,e1,e2,e5,e6,e7,hn,q5,i2]
end
section
variable{p:Int}{A:ZX}{st:ag}
theorem nh(hp:eZ p=true){n:Nat}(ln:st[n]?=some (aq A))(hl:A.length<=5000):
  ∃ar k,PM.fj [.int p,.loc n] st=.ok (.loc k) ar/\Fr st ar/\ar[k]?=some (aq (iw p A)):=by
 have hr:=aF hp;have h:=ay ln;obtain⟨L,hL⟩:∃L:Int,L=(A.length:Int):=⟨_,rfl⟩
 have kl:bx [.loc n] st=.ok (.int L) st:=by rw[a7 h,az,hL]
 have Ll:=mz (st:=st) (j:=L-1) (by lia) (by lia);rw[show(L-1).toNat=A.length-1 by lia,g!]at Ll;have hc:=gT (g:=fun _=>True) (a:=aI 0) (e:=af bW (af bV (af bU a! b!) (af bN cW (af bU a! b!))) bw) (st:=st) trivial (fun τ=>∃z,τ=[z, qI p, qL n]) (fun i=>.int (((i+1)*A.getD (i+1).toNat 0).fmod p)) (cV 0 (A.length-1)) [qn, qI p, qL n] [] ⟨_,rfl⟩ (by
  rintro i hi τ ⟨z,rfl⟩;have hm:=tV hi;exact⟨_,rfl,⟨_,rfl⟩,by simp only[ao,ax,aM,aw,bc,eM,aP,a9,aK,Vo,c! h (at_getD (ns:=A) (i:=i+1) (by lia) (by lia)),gu (i:=i+1) (by lia) (by lia),bF (fG hp)]⟩)
 have e:((cV 0 (A.length-1)).map fun i=>ah.int (((i+1)*A.getD (i+1).toNat 0).fmod p))=((dC A).map (·.fmod p)).map ah.int:=by unfold dC cV;simp only[Wh];refine Xy fun k _=>?_;show ah.int (((0+(k:Int)+1)*A.getD (0+(k:Int)+1).toNat 0).fmod p)=ah.int (((1+(k:Int))*A.getD (1+(k:Int)).toNat 0).fmod p);rw[show(0+(k:Int)+1)=1+k by lia]
 rw[Vu,e]at hc;have gL:je 1 [0,1] [some (ah.int p),some (ah.loc n)]=[qn, qI p, qL n]:=rfl;have hz:((cV 0 (A.length-1)).map ah.int).length<=16777216:=by rw[az];unfold cV;rw[Vl,VQ];lia
 have kc:=iZ (st:=st++[.lst (((dC A).map (·.fmod p)).map ah.int)]) (ba st _);refine⟨_,_,?_,(Fr.app st [.lst (((dC A).map (·.fmod p)).map ah.int)]).more _,aN _ _⟩;simp only[PM.fj,bI,ao,aD,bt,ax,aM,aw,aH,av,bY,gN,ft,bc,aG,au,aA,bh,dO,fA,fW,a9,aK,Vr,VH,VB,Vu,Vt,Nat.reduceSub,Vk,Vq,Nat.reduceAdd,Vv,kl,Ll,gL,hc,VD hz,kc];rfl
theorem rat{n j:Nat}{u:ah}(h:((cV 0 n).map ah.int)[j]?=some u):j<n/\u=.int (j:Int):=by
 unfold cV at h;rw[Wh,VG]at h;by_cases hj:j<n
 .rw[V7 hj]at h;refine⟨hj,?_⟩;have:=VR h;rw[<-this];show ah.int (0+(j:Int))=_;rw[Xj]
 .rw[VZ (l:=List.range _) (by rw[VQ];lia)]at h;cases h
theorem Ec{s:ag}{L:Int}{n:Nat}(h:L=(n:Int))(hn:n<=100000):Gx [.int L] s=.ok ((cV 0 n).map ah.int,fun _=>True) s:=by have:=mz (st:=s) (j:=L) (by lia) (by lia);rw[g!,show L.toNat=n by lia]at this;exact this
abbrev apI:MB:=(aC (aO 4 (ai PM.meet (aa a! (aa (ai gy (aa (af bN bw eh) aj)) (aa (ai gy (aa (af bN bw cW) aj)) aj))))) (ij (dW (b8 (ai PM.b7 (aa a! (aa (jt (aa (af bN eg KR) (aa (af bN eg Fv) aj))) (aa (af bN bw eh) (aa (af bN bw cW) aj))))))) (bG (mC (.bl false))) bT))
abbrev apJ:MB:=(ij (dW (b8 (ai PM.b7 (aa a! (aa (ai PM.gv (aa a! (aa (ai gy (aa (af bN bw cW) aj)) aj))) (aa (af bN bw cW) (aa (ai PM.fj (aa a! (aa (af bN bw cW) aj))) aj))))))) (bG (mC (.bl false))) bT)
abbrev Tr:MB:=aC apJ (fM (cK (aa cW aj)) (aI 3) apI)
theorem xR(hp:eZ p=true){n:Nat}{ls:List Nat}{Rs:List (ZX)}(hn:st[n]?=some (.lst (ls.map ah.loc)))(hr:cq st ls Rs)(hm:∀R∈Rs,ky p R/\R.length<=4000/\cI (aL R:aE p) (dP (aL R)))(hc:Rs.Pairwise fun a b=>cI (aL a:aE p) (aL b))(hl:ls.length<=1000):
  ∃ar,PM.gI [.int p,.loc n] st=.ok (.bl true) ar/\Fr st ar:=by
 have hpr:=aF hp;have gn:0<p:=by lia
 obtain⟨LL,Rq⟩:∃LL:Int,LL=(ls.length:Int):=⟨_,rfl⟩
 have kl:bx [.loc n] st=.ok (.int LL) st:=by rw[a7 (ay hn),Vl,Rq]
 have at_:∀{j:Nat}(hj:j<ls.length),∃l R,ls[j]?=some l/\Rs[j]?=some R/\st[l]?=some (aq R)/\R∈Rs:=fun{j}hj=>by have h1:ls[j]?=some ls[j]:=Vp hj;have h2:Rs[j]?=some (Rs[j]'(by rw[<-hr.1];exact hj)):=Vp (by rw[<-hr.1];exact hj);exact⟨_,_,h1,h2,hr.2 j _ _ h1 h2,Wb h2⟩
 obtain⟨μ',ar,e,⟨y2,y3,y4,rfl⟩,F⟩:=cU (g:=fun _=>True) (a:=aI 2) (body:=Tr)
  (fun k μ s=>(∃x2 x3 x4,μ=[qI p, qL n, x2, x3, x4])/\Fr st s) ((cV 0 ls.length).map ah.int) 0 [qI p, qL n, qn, qn, qn] st
  (by
   rintro k u μ s hu ⟨⟨x2,x3,x4,rfl⟩,F⟩;refine⟨trivial,?_⟩;obtain⟨hk,rfl⟩:=rat hu;obtain⟨l,R,e1,e2,e3,mR⟩:=at_ hk;obtain⟨m1,m2,m3⟩:=hm R mR;have ix:=fun{s':ag}(F:Fr st s')=>c! (st:=s') (ay (F _ _ hn)) (oz e1);have c1:gy [.loc l] s=.ok (.loc s.length) (s++[aq R]):=ji (ay (F _ _ e3));obtain⟨s2,v,q2,F2,ho⟩:=lJ hp (aN s (R.map ah.int)) m1.row m1.ne m2;rcases ho with⟨_,no⟩|⟨k4,k5,U,V,rfl,o,l4,l5,_⟩
   .exact absurd m3 no
   have zB:Fr s s2:=(Fr.app s _).trans F2;obtain⟨s3,ks,q3,F3,l3⟩:=nh hp (zB _ _ (F _ _ e3)) (by lia);have bl:=i! (p:=p) R;obtain⟨s4,q4,F4⟩:=ur hp o (F3 _ _ l4) (F3 _ _ l5) (F3 _ _ (zB _ _ (F _ _ e3))) l3 (by lia) (by lia);have FF:Fr st s4:=F.trans (zB.trans (F3.trans F4));obtain⟨μ2,s5,e5,⟨z3,z4,rfl⟩,F5⟩:=cU (g:=fun _=>True) (a:=aI 3) (body:=apI)
    (fun j μ s=>(∃x3 x4,μ=[qI p, qL n, qI (k:Int), x3, x4])/\Fr st s) ((cV 0 k).map ah.int) 0 [qI p, qL n, qI (k:Int), x3, x4] s4
    (by
     rintro j u μ s hu ⟨⟨x3,x4,rfl⟩,F⟩;refine⟨trivial,?_⟩;obtain⟨hj,rfl⟩:=rat hu;obtain⟨l',R',f1,f2,f3,mR'⟩:=at_ (Nat.lt_trans hj hk);obtain⟨S?,m2',m3'⟩:=hm R' mR';have iy:=fun{s':ag}(F:Fr st s')=>c! (st:=s') (ay (F _ _ hn)) (oz f1);have Fa:=F.more [aq R'];have c1:gy [.loc l'] s=.ok (.loc s.length) (s++[aq R']):=ji (ay (F _ _ f3));have c2:gy [.loc l] (s++[aq R'])=.ok (.loc (s++[aq R']).length) (s++[aq R']++[aq R]):=ji (ay (Fa _ _ e3));have Fb:=Fa.more [aq R];obtain⟨s6,k1,k2,k3,k4,k5,G,S,T,U,V,em,F6,ho,Eb,_,_⟩:=J! hp (aS (aN s (R'.map ah.int)) [aq R]) (aN (s++[aq R']) (R.map ah.int)) S?.row m1.row (.inl S?.ne) (by lia) (by lia);have cc:cI (aL R':aE p) (aL R):=by have hi:=bf f2;have hk':=bf e2;have:=Zs.mp hc j k hi hk' hj;rw[Vp hi]at f2;rw[Vp hk']at e2;rw[VR f2,VR e2]at this;exact this
     have hG:=ho.one hpr.1 cc;subst hG;have Fc:=Fb.trans F6;obtain⟨s7,q7,F7⟩:=ur hp ho.is (Eb.2 3 k4 U rfl rfl) (Eb.2 4 k5 V rfl rfl) (Fc _ _ f3) (Fc _ _ e3) (by lia) (by lia);refine⟨[some (.int p),some (.loc n),some (.int (k:Int)),some (.int (j:Int)),x4],rfl,[qI p, qL n, qI (k:Int), qI (j:Int), some (.tup [.loc k1,.loc k2,.loc k3,.loc k4,.loc k5])],s7,.inl ?_,⟨_,_,rfl⟩,Fc.trans F7⟩;simp only[ao,aD,aW,ax,aM,aw,gm,aH,av,ke,bJ,bM,bc,aR,aQ,fe,aG,au,il,aA,aT,bp,bj,bo,aP,dZ,a9,aK,Vo,Vs,Vk,Vq,Nat.reduceAdd,Wd,Vv,Nat.reduceLeDiff,↓reduceIte,iy F,ix Fa,iy Fa,c1,c2,em,bz at3,bz at4,iy Fc,ix Fc,q7])
    (fun _ _ _=>trivial) ⟨⟨_,_,rfl⟩,FF⟩
   have rk:=Ec (s:=s4) (L:=(k:Int)) (n:=k) rfl (by lia);obtain⟨K,hK⟩:∃K:Int,K=(k:Int):=⟨_,rfl⟩
   refine⟨[some (.int p),some (.loc n),some (.int (k:Int)),x3,x4],rfl,[qI p, qL n, qI (k:Int), z3, z4],s5,.inl ?_,⟨_,_,_,rfl⟩,F5⟩;have ej:apJ [qI p, qL n, qI (k:Int), x3, x4] s=.nx [qI p, qL n, qI (k:Int), x3, x4] s4:=by simp only[ao,aD,ax,aM,aw,gm,aH,av,bJ,aR,aQ,fe,aG,au,aA,bp,bj,aP,a9,aK,Wd,ix F,c1,q2,ix (F.trans zB),q3,q4]
   rw[Tr];rw[<-hK]at e5 ej rk⊢;clear hK;generalize apI=AI at e5⊢;generalize apJ=AJ at ej⊢;simp only[ao,aD,aW,aH,av,f7,aG,au,aT,d9,fA,aP,aK,ej,rk,e5])
  (fun _ _ _=>trivial) ⟨⟨_,_,_,rfl⟩,Fr.refl st⟩
 refine⟨ar,?_,F⟩;have rk:=Ec (s:=st) Rq (by lia);unfold PM.gI;rw[bI (np:=2) (us:=[ah.int p,.loc n]) rfl];show(aC (fM (cK (aa (ai bx (aa bw aj)) aj)) (aI 2) Tr) (bG (mC (.bl true))) [qI p, qL n, qn, qn, qn] st).fin=_;generalize Tr=AO at e⊢;simp only[ao,aD,aW,bt,aH,av,bY,f7,bc,aG,au,aA,aT,bh,d9,fA,a9,aK,kl,rk,e]
end
section
variable{p:Int}{A:ZX}{st:ag}
abbrev tdB:MB:=(aC (ij (g8 (dW (b8 (Dx "tuple" eh))) (g8 (b8 (af jV (ai bx (aa eh aj)) ny)) (g8 (dW (b8 (ai PM.fb (aa a! (aa (af bN eh dF) aj))))) (dW (b8 (ai PM.gr (aa (af bN eh b!) aj))))))) (bG (mC (.bl false))) bT) (aC (ij (g8 (b8 (af ltV (ai bx (aa (af bN eh dF) aj)) ny)) (g8 (b8 (af jV (af bN (af bN eh dF) (iK b!)) b!)) (b8 (af Ji (af bN eh b!) cW)))) (bG (mC (.bl false))) bT) (aO 2 (af bN eh b!))))
theorem Bq{c:Int}{kl:Nat}{es:List En}(lk:st[kl]?=some (.lst (es.map gX)))(re:∀e∈es,st[e.2.1]?=some (aq e.2.2))(mn:∀e∈es,ky p e.2.2/\2<=e.2.2.length/\1<=e.1)(up:es.Pairwise fun a b=>a.1<b.1):
  ∃ar,PM.h_ [.int p,.tup [.int c,.loc kl]] st=.ok (.bl true) ar/\Fr st ar:=by
 obtain⟨μ',ar,e,⟨b,y3,rfl,_⟩,F⟩:=cU (g:=fun ar=>ak ar kl=some (es.map gX)) (a:=aI 3) (body:=tdB)
  (fun i μ s=>(∃b x3,μ=[qI p, some (.tup [.int c,.loc kl]), qI b, x3]/\∀(j:Nat)(e:En),i<=j->es[j]?=some e->b<(e.1:Int))/\Fr st s) (es.map gX) 0 [qI p, some (.tup [.int c,.loc kl]), qI 0, qn] st
  (by
   rintro i u μ s hu ⟨⟨b,x3,rfl,hb⟩,F⟩;rw[VX]at hb⊢;refine⟨ay (F _ _ lk),?_⟩;rw[VG]at hu;cases he:es[i]? with
   |none=>rw[he]at hu;cases hu
   |some e=>
    rw[he]at hu;cases hu;have me:=Wb he;obtain⟨m1,m2,m3⟩:=mn e me;have l1:=F _ _ (re e me);obtain⟨m,hm⟩:∃m:Int,m=(e.1:Int):=⟨_,rfl⟩
    have lt:=hb i e (VA _) he;rw[<-hm]at lt;have ir:=jx m1.row l1;have F1:=F.more [aB.lst []];have l2:=F1 _ _ (re e me);obtain⟨L,hL⟩:∃L:Int,L=(e.2.2.length:Int):=⟨_,rfl⟩
    have kl':bx [.loc e.2.1] (s++[aB.lst []])=.ok (.int L) (s++[aB.lst []]):=by rw[a7 (ay l2),az,hL]
    have gx:=c! (ay l2) (jl m1.ne);rw[m1.l1]at gx;have d1:decide (L<2)=false:=VV (by lia);have d2:decide (m<=b)=false:=VV (by lia);have i2:(((2:Nat):Int)==2)=true:=rfl;have i1:((1:Int)==1)=true:=rfl;have ep:gX e=.tup [.loc e.2.1,.int m]:=by rw[hm];rfl
    refine⟨[some (.int p),some (.tup [.int c,.loc kl]),some (.int b),some (.tup [.loc e.2.1,.int m])],by rw[ep];rfl,[qI p, some (.tup [.int c,.loc kl]), qI m, some (.tup [.loc e.2.1,.int m])],s++[aB.lst []],.inl ?_,⟨m,_,rfl,fun j e' hj wV=>?_⟩,F1⟩
    .simp only[ao,aD,aW,ax,aM,aw,fQ,gm,aH,av,bJ,bM,bc,aR,aQ,gk,fe,aG,au,aA,fo,ip,tJ,aT,bp,bj,bo,fB,yV,m_,oj,aP,dZ,aK,Vo,Vs,Vk,Vq,Nat.reduceAdd,Wd,k6,k6,i2,bz vd,bz Ab,ir,jw,kl',d1,gx,i1,d2]
    .have hi:=bf he;have hj':=bf wV;have:=Zs.mp up i j hi hj' (by lia);rw[Vp hi]at he;rw[Vp hj']at wV;rw[VR he,VR wV]at this;lia)
  (fun _ _ h=>ay (h.2 _ _ lk)) ⟨⟨0,_,rfl,fun j e _ he=>by have:=(mn e (Wb he)).2.2;lia⟩,Fr.refl st⟩
 refine⟨ar,?_,F⟩;have i2:(((2:Nat):Int)==2)=true:=rfl;unfold PM.h_;rw[bI (np:=2) (us:=[ah.int p,.tup [.int c,.loc kl]]) rfl];show(aC _ (aC (aO 2 dF) (aC (fM (g_ (af bN bw b!)) (aI 3) tdB) (bG (mC (.bl true))))) [qI p, some (.tup [.int c,.loc kl]), qn, qn] st).fin=_;generalize tdB=B at e⊢;simp only[ao,aD,aW,bt,ax,aM,aw,fQ,gm,aH,av,bY,bJ,bM,f7,bc,aR,aQ,gk,fe,aG,au,aA,tJ,aT,bp,bh,bj,bo,d9,eu,m_,oj,dZ,aK,Vo,Vs,Vk,Vq,Nat.reduceAdd,Wd,k6,k6,i2,bz vd,bz Ab,jw,is_list lk,cP (ay lk),e]
theorem zG(hp:0<p){t:Int}(h:(t*aJ A) % p=1):(aL [aJ A]:aE p)*aL (mulR p t A)=aL A:=by
 rw[xG];refine mk_eq fun k=>?_;rw[bg,qw];have h1:=(sh hp t A k).xu (aJ A);refine h1.trans ?_;have h2:=V6 (t*aJ A) p;rw[h]at h2;show Cg p (aJ A*(t*cf A k)) (cf A k);exact⟨(t*aJ A / p)*cf A k,by
  generalize t*aJ A / p=a at h2⊢;generalize cf A k=b
  grind⟩
abbrev Ts:MB:=aO 5 (ai PM.dj (aa bw (aa j? (aa (af bN qm dF) aj))))
abbrev OE:MB:=fM (cK (aa (af bN qm b!) aj)) (aI 7) Ts
theorem Hx(hp:eZ p=true){x0 x2 x3 x4 x8 x9 x10 x11:Option ah}{P:ZX}{c m kX B:Nat}{M:Int}(hM:M=(m:Int)){X:ZX}{R W:aE p}{s:ag}(x7:Option ah)(lP:s[c]?=some (aq P))(hP:Row p P)(lX:s[kX]?=some (aq X))(hX:Row p X)(e:aL X*(aL P ^ m*R)=W)(lb:X.length+m*200<=B)(hB:B<=100000)(lp:P.length<=200):
  ∃ar ku X' y7,forL (fun _=>True) (aI 7) Ts ((cV 0 m).map ah.int) [x0, qI p, x2, x3, x4, qL kX, some (.tup [.loc c,.int M]), x7, x8, x9, x10, x11] s=.nx [x0, qI p, x2, x3, x4, qL ku, some (.tup [.loc c,.int M]), y7, x8, x9, x10, x11] ar/\Fr s ar/\ar[ku]?=some (aq X')/\Row p X'/\aL X'*R=W/\X'.length<=B:=by
 obtain⟨μ',ar,e',⟨ku,X',y7,rfl,l',r',q',b'⟩,F⟩:=cU (g:=fun _=>True) (a:=aI 7) (body:=Ts)
  (fun i μ s'=>(∃kX X x7,μ=[x0, qI p, x2, x3, x4, qL kX, some (.tup [.loc c,.int M]), x7, x8, x9, x10, x11]/\s'[kX]?=some (aq X)/\Row p X/\aL X*(aL P ^ (m-i)*R)=W/\X.length+(m-i)*200<=B)/\Fr s s') ((cV 0 m).map ah.int) 0 [x0, qI p, x2, x3, x4, qL kX, some (.tup [.loc c,.int M]), x7, x8, x9, x10, x11] s
  (by
   rintro i u μ s' hu ⟨⟨kX,X,x7,rfl,l,r,q,b⟩,F⟩;rw[VX]at q b⊢;refine⟨trivial,?_⟩;obtain⟨hi,rfl⟩:=rat hu;obtain⟨s2,k2,T,e2,F2,_,l2,r2,c2,n2⟩:=fT hp (ay l) (ay (F _ _ lP)) (r.sm hp) (by lia) (by lia);obtain⟨j,hj⟩:∃j,m-i=j+1:=⟨m-i-1,by lia⟩
   rw[hj]at q b;obtain⟨I,_⟩:∃I:Int,I=(i:Int):=⟨_,rfl⟩
   refine⟨[x0,some (.int p),x2,x3,x4,some (.loc kX),some (.tup [.loc c,.int M]),some (.int (i:Int)),x8,x9,x10,x11],rfl,[x0, qI p, x2, x3, x4, qL k2, some (.tup [.loc c,.int M]), qI (i:Int), x8, x9, x10, x11],s2,.inl ?_,⟨k2,T,_,rfl,l2,r2,?_,by rw[show m-(i+1)=j by lia];lia⟩,F.trans F2⟩
   .generalize (i:Int)=I;simp only[ao,aD,ax,aM,aw,aH,av,bM,bc,aG,au,aA,bo,aP,dZ,a9,aK,Vo,Vs,bz vd,e2]
   .have eT:(aL T:aE p)=aL X*aL P:=mk_eq (c2.trans (a8.of_eq (bg X P)).symm);rw[show m-(i+1)=j by lia,eT,<-q,uj];generalize (aL P:aE p) ^ j=w
    grind)
  (fun _ _ _=>trivial) ⟨⟨kX,X,x7,rfl,lX,hX,e,lb⟩,Fr.refl s⟩
 have lr:((cV 0 m).map ah.int).length=m:=by rw[az];unfold cV;rw[Vl,VQ]
 rw[lr,VX,WT]at q' b';refine⟨ar,ku,X',y7,e',F,l',r',?_,by lia⟩;rw[<-q',Bl]
 grind
end
end PG
namespace PG
open PySem.Spec L2 MN
open PyProof.Rows hiding St kindOf
section
variable{p:Int}{st:ag}
theorem wg(hp:0<p){as bs T:ZX}(hT:Row p T)(hc:a8 p (cf T) (mF as (cf bs)))(nb:bs≠[]):T.length<=as.length+(bs.length-1):=by
 have b0:=Vz.mpr nb;rcases WG (as.length+(bs.length-1)) T.length with z|z
 .exfalso;have nT:T≠[]:=fun e=>by rw[e]at z;exact YB _ z
  have hl:=hT.last hp nT;have c:=hc (T.length-1);rw[Bd (by lia)]at c;have e:cf T (T.length-1)=aJ T:=rfl;rw[e]at c;obtain⟨k,hk⟩:=c;rcases Zv k 0 with w|w|w
  .have:p*k<=p*(-1):=V9 (by lia) (by lia);lia
  .rw[w]at hk;lia
  .have:p*1<=p*k:=V9 (by lia) (by lia);lia
 .exact z
theorem zH(hp:2<=p){D:ZX}(h:∀d∈D,0<=d/\d<p):Row p (D++[1]):=⟨fS rfl D,fun a m=>by
 rcases V4.mp m with m|m
 .exact h a m
 .rw[VY.mp m];lia⟩
abbrev Tt:MB:=aO 2 (ai PM.dj (aa bw (aa cW (aa qm aj))))
theorem Kn(hp:eZ p=true){x0 x3 x4 x5 x7 x8:Option ah}{kX kP o d:Nat}{X P:ZX}{s:ag}(lX:s[kX]?=some (aq X))(hX:Row p X)(lP:s[kP]?=some (aq P))(nP:P≠[])(hP:P.length<=d+1)(hb:X.length+o*d<=10000)(hd:d<=100):
  ∃ar ku X' y8,forL (fun _=>True) (aI 8) Tt ((cV 0 o).map ah.int) [x0, qI p, qL kX, x3, x4, x5, qL kP, x7, x8] s=.nx [x0, qI p, qL ku, x3, x4, x5, qL kP, x7, y8] ar/\Fr s ar/\ar[ku]?=some (aq X')/\Row p X'/\X'.length<=X.length+o*d:=by
 have hr:=aF hp;obtain⟨μ',ar,e',⟨ku,X',y7,rfl,l',r',q'⟩,F⟩:=cU (g:=fun _=>True) (a:=aI 8) (body:=Tt)
  (fun i μ s'=>(∃kX X' x8,μ=[x0, qI p, qL kX, x3, x4, x5, qL kP, x7, x8]/\s'[kX]?=some (aq X')/\Row p X'/\X'.length<=X.length+i*d)/\Fr s s') ((cV 0 o).map ah.int) 0 [x0, qI p, qL kX, x3, x4, x5, qL kP, x7, x8] s
  (by
   rintro i u μ s' hu ⟨⟨kX,Y,x8,rfl,l,r,q⟩,F⟩;rw[VX]at q⊢;refine⟨trivial,?_⟩;obtain⟨hi,rfl⟩:=rat hu;have hid:i*d+d<=o*d:=by rw[<-Nat.succ_mul];exact Nat.mul_le_mul_right d hi
   obtain⟨s2,k2,T,e2,F2,_,l2,r2,c2,n2⟩:=fT hp (ay l) (ay (F _ _ lP)) (r.sm hp) (by lia) (by lia);have tl:=wg (by lia) r2 c2 nP;refine⟨[x0,some (.int p),some (.loc kX),x3,x4,x5,some (.loc kP),x7,some (.int (i:Int))],rfl,[x0, qI p, qL k2, x3, x4, x5, qL kP, x7, qI (i:Int)],s2,.inl ?_,⟨k2,T,_,rfl,l2,r2,by rw[Y_,Nat.one_mul];lia⟩,F.trans F2⟩;generalize (i:Int)=I;simp only[ao,aD,aH,av,bM,aG,au,aA,bo,aP,a9,aK,Vo,Vs,e2])
  (fun _ _ _=>trivial) ⟨⟨kX,X,x8,rfl,lX,hX,by lia⟩,Fr.refl s⟩
 have lr:((cV 0 o).map ah.int).length=o:=by rw[az];unfold cV;rw[Vl,VQ]
 rw[lr,VX]at q';exact⟨ar,ku,X',y7,e',F,l',r',q'⟩
abbrev OF:ME:=af bU (af bU qm (af bV (dA (aa dF aj)) (af gP j? (ai bx (aa qm aj))))) (dA (aa b! aj))
theorem OG(hp:2<=p){x0 x1 x2 x3 x4 x7 x8:Option ah}{kD:Nat}{D:ZX}{z:Int}{s:ag}(lD:s[kD]?=some (aq D))(z0:0<=z)(hD:D.length<=z.toNat)(hz:z<=10000)(hb:∀d∈D,0<=d/\d<p):
  ∃ar k P,OF [x0, x1, x2, x3, x4, qI z, qL kD, x7, x8] s=.ok (.loc k) ar/\Fr s ar/\ar[k]?=some (aq P)/\Row p P/\P.length=z.toNat+1/\P≠[]:=by
 obtain⟨L,hL⟩:∃L:Int,L=(D.length:Int):=⟨_,rfl⟩
 have F1:=Fr.app s [aB.lst [.int 0]];have kl:bx [.loc kD] (s++[aB.lst [.int 0]])=.ok (.int L) (s++[aB.lst [.int 0]]):=by rw[a7 (ay (F1 _ _ lD)),az,hL]
 have m1:=jZ (st:=s++[aB.lst [.int 0]]) (n:=s.length) (us:=[.int 0]) (k:=z-L) (aN _ _) (by lia) (by lia) (by rw[Vv];simp;lia);rw[qv]at m1;obtain⟨Z,hZ⟩:∃Z,Z=List.replicate (z-L).toNat (0:Int):=⟨_,rfl⟩
 have lZ:Z.length=(z-L).toNat:=by rw[hZ,VU]
 rw[<-hZ]at m1;have F2:=F1.more [aq Z];have a1:=jY (st:=s++[aB.lst [.int 0]]++[aq Z]) (n:=kD) (m:=(s++[aB.lst [.int 0]]).length) (us:=D.map ah.int) (ws:=Z.map ah.int) (F2 _ _ lD) (aN _ _) (by rw[az,az,Vv];lia);rw[<-Wn]at a1;have a2:=jY (st:=s++[aB.lst [.int 0]]++[aq Z]++[aq (D++Z)]++[aq [1]]) (n:=(s++[aB.lst [.int 0]]++[aq Z]).length) (m:=(s++[aB.lst [.int 0]]++[aq Z]++[aq (D++Z)]).length) (us:=(D++Z).map ah.int) (ws:=[1].map ah.int) (aS (aN _ _) _) (aN _ _) (by rw[az,az,Vv,Vn];simp;lia);rw[<-Wn]at a2;have hn:∀t:ag,t++[aB.lst [.int 1]]=t++[aq [1]]:=fun _=>rfl;refine⟨_,_,D++Z++[1],?_,(((F2.more [aq (D++Z)]).more [aq [1]]).more [aq (D++Z++[1])]),aN _ _,zH hp fun d m=>?_,?_,by simp⟩
 .simp only[ao,ax,aM,aw,aH,av,eJ,bc,aG,au,c8,aA,fW,aP,a9,aK,Vk,Vq,Nat.reduceAdd,Vv,Nat.reduceLeDiff,↓reduceIte,kl,m1,a1,hn,a2]
 .rcases V4.mp m with m|m
  .exact hb d m
  .rw[hZ]at m;rw[ZI m];lia
 .rw[Vn,Vn,lZ];simp;lia
end
section
variable{p:Int}{st:ag}
abbrev rbF:MB:=(ij (fm (b8 (af h! (af bW (af c_ eg Dr) Nd) b!)) (b8 (af ltV bw Fv))) (aO 7 (af bV bw (af bU b! (af bW (af c_ eg (mC (.int 120))) ny)))) (ij (fm (b8 (af h! (af bW (af c_ eg Dr) Nd) b!)) (fm (b8 (af ltV bw Dr)) (b8 (af h! eh dF)))) (aC (aO 6 (dA (aa (af bW (af c_ eg (mC (.int 120))) bw) (aa b! aj)))) (aO 7 bw)) bT))
theorem OH(hp:eZ p=true){x0 x2 x5 x8:Option ah}{K o M:Int}{kP:Nat}{P:ZX}{s:ag}(lP:s[kP]?=some (aq P))(hP:Row p P)(nP:P≠[])(l5:P.length<=5)(m0:0<=M)(m4:M<=4):
  ∃ar Tu P' M',∃(c d:Nat),rbF [x0, qI p, x2, qI K, qI o, x5, qL kP, qI M, x8] s=.nx [x0, qI p, x2, qI K, qI o, x5, qL Tu, qI M', x8] ar/\Fr s ar/\ar[Tu]?=some (aq P')/\P'≠[]/\P'.length<=d+1/\d<=4/\M'=(c:Int)/\c*d<=24/\c<=100:=by
 have hr:=aF hp;have R8:Dz 24:=qP (by decide) (by decide);have R9:Dz 120:=qP (by decide) (by decide);have z5:¬ (5:Int)=0:=by decide
 have z2:¬ (2:Int)=0:=by decide
 cases b1:((o.fdiv 24).fmod 5==1) with
 |false=>
  refine⟨s,kP,P,M,M.toNat,4,by simp only[ao,aD,ax,aM,aw,fZ,bJ,bc,aR,aQ,cF,bp,bj,dz,aP,aK,div_ii R8,bF z5,b1],Fr.refl s,lP,nP,l5,by omega,by omega,by omega,by omega⟩
 |true=>
  by_cases h4:p<4
  .have e4:decide (p<4)=true:=VW h4;have q:=iD (m:=2) (by decide) (o.fdiv 120);obtain⟨w,hw⟩:∃w,w=(o.fdiv 120).fmod 2:=⟨_,rfl⟩
   rw[<-hw]at q;have hmul:0<=p*(1+w)/\p*(1+w)<=6:=by rcases(by omega:w=0\/w=1)with z|z<;>rw[z]<;>omega
   refine⟨s,kP,P,p*(1+w),(p*(1+w)).toNat,4,?_,Fr.refl s,lP,nP,l5,by omega,by omega,by omega,by omega⟩;simp only[ao,aD,ax,aM,aw,dy,fq,bM,bc,aR,aQ,cF,bj,bo,eM,fB,dz,aP,aK,Vo,Vs,div_ii R8,bF z5,b1,e4,div_ii R9,bF z2,<-hw,gu (i:=p) (by omega) (by omega)]
  .have e4:decide (p<4)=false:=VV h4;by_cases OI:p<24/\K=0
   .have R_:decide (p<24)=true:=VW OI.1;have eK:(K==0)=true:=by rw[OI.2];rfl
    refine⟨s++[aq [(o.fdiv 120).fmod p,1]],s.length,[(o.fdiv 120).fmod p,1],p,p.toNat,1,?_,Fr.app s _,aN _ _,Yf _ _,VA 2,by omega,by omega,by omega,by omega⟩;have hn:s++[aB.lst [.int ((o.fdiv 120).fmod p),.int 1]]=s++[aq [(o.fdiv 120).fmod p,1]]:=rfl;simp only[ao,aD,aW,ax,aM,aw,dy,aH,av,eJ,fq,bJ,bM,bc,aR,aQ,cF,aG,au,c8,aT,bj,bo,fB,dz,aP,aK,Vo,Vs,Vk,Vq,Nat.reduceAdd,Vv,Nat.reduceLeDiff,↓reduceIte,div_ii R8,bF z5,b1,e4,R_,eK,div_ii R9,bF (fG hp),hn]
   .refine⟨s,kP,P,M,M.toNat,4,?_,Fr.refl s,lP,nP,l5,by omega,by omega,by omega,by omega⟩;by_cases g:p<24
    .have R_:decide (p<24)=true:=VW g;have eK:(K==0)=false:=by rw[Xr];exact fun z=>OI ⟨g,z⟩
     simp only[ao,aD,ax,aM,aw,dy,bJ,bc,aR,aQ,cF,bp,bj,fB,dz,aP,aK,div_ii R8,bF z5,b1,e4,R_,eK]
    .have R_:decide (p<24)=false:=VV g;simp only[ao,aD,ax,aM,aw,dy,fZ,bJ,bc,aR,aQ,cF,bp,bj,fB,dz,aP,aK,div_ii R8,bF z5,b1,e4,R_]
abbrev R!:MB:=(aC (aO 4 (ai PM.aZ (aa a! (aa (af bU KR (af bV ny eh)) aj)))) (aC (aO 5 (af bU b! (af bW (ai PM.aZ (aa a! (aa (af bU (mC (.int 10)) eh) aj))) Fv))) (aC (aO 6 (ai PM.iM (aa bw (aa (af c_ eg (mC (.int 25))) (aa j? aj))))) (aC (aO 6 OF) (aC (aO 7 (af bU b! (af c_ (af bV (af bW (af c_ eg ny) KR) (af bW (af c_ eg (mC (.int 6))) Fv)) ny))) (aC rbF (fM (cK (aa uW aj)) (aI 8) Tt)))))))
theorem OJ(hp:eZ p=true){n:Nat}{ns:ZX}{x4 x5 x6 x7 x8:Option ah}{K:Int}{kX:Nat}{X:ZX}{s:ag}(h:ak s n=some (ns.map ah.int))(k0:0<=K)(k1:K<=10)(lX:s[kX]?=some (aq X))(hX:Row p X)(bX:X.length<=1000):
  ∃ar ku X' y4 y5 y6 y7 y8,R! [qL n, qI p, qL kX, qI K, x4, x5, x6, x7, x8] s=.nx [qL n, qI p, qL ku, qI K, y4, y5, y6, y7, y8] ar/\Fr s ar/\ar[ku]?=some (aq X')/\Row p X'/\X'.length<=X.length+24:=by
 have hr:=aF hp;have d25:Dz 25:=qP (by decide) (by decide);have d2:Dz 2:=qP (by decide) (by decide);have d6:Dz 6:=qP (by decide) (by decide);have z3:¬ (3:Int)=0:=by decide
 have z4:¬ (4:Int)=0:=by decide
 obtain⟨o,e1⟩:=jG (k:=3+2*K) h (by lia) (by lia);obtain⟨o2,e2⟩:=jG (k:=10+K) h (by lia) (by lia);have q:=iD (m:=4) (by decide) o2;obtain⟨z,hz⟩:∃z,z=1+o2.fmod 4:=⟨_,rfl⟩
 obtain⟨g,kD,D,ed,_,lD,nD,bD,_⟩:=ve hp (o.fdiv 25) (z:=z) (by lia) (by lia) s;obtain⟨s2,kP,P,e3,F3,lP,rP,nP,neP⟩:=OG (x0:=some (.loc n)) (x1:=some (.int p)) (x2:=some (.loc kX)) (x3:=some (.int K)) (x4:=some (.int o)) (x7:=x7) (x8:=x8) hr.1 (z:=z) lD (by lia) nD (by lia) bD;have F0:=Fr.app s g;have u1:=iD (m:=3) (by decide) (o.fdiv 2);have u2:=iD (m:=4) (by decide) (o.fdiv 6);obtain⟨a,ha⟩:∃a,a=(o.fdiv 2).fmod 3:=⟨_,rfl⟩
 obtain⟨b,hb⟩:∃b,b=(o.fdiv 6).fmod 4:=⟨_,rfl⟩
 rw[<-ha]at u1;rw[<-hb]at u2;have ab0:=X? u1.1 u2.1;have ab6:a*b<=6:=by have:=Int.mul_le_mul (show a<=2 by lia) (show b<=3 by lia) u2.1 (by decide);lia
 have hf:(a*b).fdiv 2=a*b / 2:=YI _ (by decide);obtain⟨M,hM⟩:∃M,M=1+(a*b).fdiv 2:=⟨_,rfl⟩
 obtain⟨s3,Tu,P',M',c,d,e4,F4,lP',aao,lP2,d4,hc,zW,aaJ⟩:=OH (x0:=some (.loc n)) (x2:=some (.loc kX)) (x5:=some (.int z)) (x8:=x8) (K:=K) (o:=o) (M:=M) hp lP rP neP (by lia) (by lia) (by lia);have FF:=F0.trans (F3.trans F4);obtain⟨s4,ku,X',y8,e5,F5,lX',rX',bX'⟩:=Kn (x0:=some (.loc n)) (x3:=some (.int K)) (x4:=some (.int o)) (x5:=some (.int z)) (x7:=some (.int M')) (x8:=x8) (o:=c) (d:=d) hp (FF _ _ lX) hX lP' aao lP2 (by lia) (by lia);have rk:=Ec (s:=s3) hc (by lia);refine⟨s4,ku,X',some (.int o),some (.int z),some (.loc Tu),some (.int M'),y8,?_,FF.trans F5,lX',rX',by lia⟩;rw[R!];generalize OF=PE at e3⊢;generalize rbF=RF at e4⊢;generalize Tt=TI at e5⊢;simp only[ao,aD,aW,ax,aM,aw,aH,av,bM,f7,bc,aG,au,aA,aT,bo,d9,fA,eM,aP,a9,aK,Vo,Vs,gu (i:=2) (by decide) (by decide),e1,e2,bF z4,<-hz,div_ii d25,ed,e3,div_ii d2,div_ii d6,bF z3,<-ha,<-hb,gu (i:=a) (by lia) (by lia),<-hM,e4,rk,e5]
end
section
variable{p:Int}{st:ag}
abbrev Tv:MT:=(fm (b8 (af ltV (af bV uW bw) (mC (.int 100)))) (b8 (af h! (af bW (af c_ eg Fw) ny) b!)))
abbrev Tw:MB:=(aO 7 (af bV uW bw))
def aap(μ:MN.Env)(s:ag):Nat:=match(μ[7]?:Option (Option ah)) with
 |some (some (.int k))=>(100-k).toNat
 |_=>0
theorem Hy(hp:eZ p=true){x0 x2 x3 x5 x6 x8:Option ah}{o:Int}{s:ag}(h:p<100):
  ∃c:Int,cN Tv Tw [x0, qI p, x2, x3, qI o, x5, x6, qI p, x8] s=.nx [x0, qI p, x2, x3, qI o, x5, x6, qI c, x8] s/\1<=c/\c<100:=by
 have hr:=aF hp;have d8:Dz 8:=qP (by decide) (by decide);have z2:¬ (2:Int)=0:=by decide
 obtain⟨μ',s',e,c,rfl,rfl,h1,h2⟩:=fc (t:=Tv) (body:=Tw) (fun μ s'=>∃c:Int,μ=[x0, qI p, x2, x3, qI o, x5, x6, qI c, x8]/\s'=s/\1<=c/\c<100) aap (fun μ s'=>∃c:Int,μ=[x0, qI p, x2, x3, qI o, x5, x6, qI c, x8]/\s'=s/\1<=c/\c<100) (by
  rintro μ s' ⟨c,rfl,rfl,h1,h2⟩;by_cases g:c*p<100
  .have e1:decide (c*p<100)=true:=VW g;cases b:((o.fdiv 8).fmod 2==1) with
   |true=>
    have:c*2<=c*p:=V9 hr.1 (by lia);refine .inr ⟨s',[x0, qI p, x2, x3, qI o, x5, x6, qI (c*p), x8],s',?_,.inl ?_,⟨c*p,rfl,rfl,by lia,g⟩,?_⟩
    .simp only[ao,ax,aM,aw,dy,bc,aR,aQ,cF,fB,dz,aP,aK,gu (i:=c) (by lia) (by lia),e1,div_ii d8,bF z2,b]
    .simp only[ao,aD,ax,aM,aw,bM,bo,aP,aK,Vo,Vs,gu (i:=c) (by lia) (by lia)]
    .show(100-c*p).toNat<(100-c).toNat;lia
   |false=>exact .inl ⟨s',by simp only[ao,ax,aM,aw,dy,bc,aR,aQ,cF,fB,dz,aP,aK,gu (i:=c) (by lia) (by lia),e1,div_ii d8,bF z2,b],c,rfl,rfl,h1,h2⟩
  .have e1:decide (c*p<100)=false:=VV g;exact .inl ⟨s',by simp only[ao,ax,aM,aw,fZ,bc,aR,aQ,cF,fB,aP,aK,gu (i:=c) (by lia) (by lia),e1],c,rfl,rfl,h1,h2⟩) [x0, qI p, x2, x3, qI o, x5, x6, qI p, x8] s ⟨p,rfl,rfl,by lia,h⟩
 exact⟨c,e,h1,h2⟩
abbrev Tx:MB:=(ij (fm (b8 (af h! (af bW eg Fw) b!)) (b8 (af ltV bw (mC (.int 100))))) (aC (aO 7 bw) (aC (cN Tv Tw) (aO 2 (af bU (af bU (dA (aa (af bW (af c_ eg (mC (.int 16))) bw) aj)) (af bV (dA (aa dF aj)) (af gP uW b!))) (dA (aa b! aj)))))) bT)
theorem OK(hp:eZ p=true){x0 x3 x5 x6 x7 x8:Option ah}{o:Int}{kX:Nat}{X:ZX}{s:ag}(lX:s[kX]?=some (aq X))(hX:Row p X)(bX:X.length<=100):
  ∃ar ku X' y7,Tx [x0, qI p, qL kX, x3, qI o, x5, x6, x7, x8] s=.nx [x0, qI p, qL ku, x3, qI o, x5, x6, y7, x8] ar/\Fr s ar/\ar[ku]?=some (aq X')/\Row p X'/\X'.length<=101:=by
 have hr:=aF hp;have z8:¬ (8:Int)=0:=by decide
 have d16:Dz 16:=qP (by decide) (by decide);cases b:(o.fmod 8==1) with
 |false=>exact⟨s,kX,X,x7,by simp only[ao,aD,ax,aM,aw,fZ,bJ,bc,aR,aQ,cF,bp,bj,dz,aP,aK,bF z8,b],Fr.refl s,lX,hX,by lia⟩
 |true=>
  by_cases g:p<100
  .have e1:decide (p<100)=true:=VW g;obtain⟨c,ew,c1,c2⟩:=Hy (x0:=x0) (x2:=some (.loc kX)) (x3:=x3) (x5:=x5) (x6:=x6) (x8:=x8) (o:=o) (s:=s) hp g;obtain⟨a,ha⟩:∃a,a=(o.fdiv 16).fmod p:=⟨_,rfl⟩
   have qa:=iD (m:=p) (by lia) (o.fdiv 16);rw[<-ha]at qa;have Ff:s++[aB.lst [.int a]]=s++[aq [a]]:=rfl;have m1:=jZ (st:=s++[aq [a]]++[aB.lst [.int 0]]) (n:=(s++[aq [a]]).length) (us:=[.int 0]) (k:=c-1) (aN _ _) (by lia) (by lia) (by rw[Vv];simp;lia);rw[qv]at m1;obtain⟨Z,hZ⟩:∃Z,Z=List.replicate (c-1).toNat (0:Int):=⟨_,rfl⟩
   have lZ:Z.length=(c-1).toNat:=by rw[hZ,VU]
   rw[<-hZ]at m1;have a1:=jY (st:=s++[aq [a]]++[aB.lst [.int 0]]++[aq Z]) (n:=s.length) (m:=(s++[aq [a]]++[aB.lst [.int 0]]).length) (us:=[a].map ah.int) (ws:=Z.map ah.int) (aS (aS (aN _ _) _) _) (aN _ _) (by rw[az,az,Vv];simp;lia);obtain⟨Y,hY⟩:∃Y,Y=[a]++Z:=⟨_,rfl⟩
   rw[<-Wn,<-hY]at a1;have lY:Y.length=c.toNat:=by rw[hY,Vn,lZ];simp;lia
   have a2:=jY (st:=s++[aq [a]]++[aB.lst [.int 0]]++[aq Z]++[aq Y]++[aq [1]]) (n:=(s++[aq [a]]++[aB.lst [.int 0]]++[aq Z]).length) (m:=(s++[aq [a]]++[aB.lst [.int 0]]++[aq Z]++[aq Y]).length) (us:=Y.map ah.int) (ws:=[1].map ah.int) (aS (aN _ _) _) (aN _ _) (by rw[az,az,Vv];simp;lia);rw[<-Wn]at a2;have hn:∀t:ag,t++[aB.lst [.int 1]]=t++[aq [1]]:=fun _=>rfl;refine⟨_,_,Y++[1],some (.int c),?_,(((((Fr.app s [aq [a]]).more [aB.lst [.int 0]]).more [aq Z]).more [aq Y]).more [aq [1]]).more [aq (Y++[1])],aN _ _,zH hr.1 fun d m=>?_,?_⟩
   .rw[Tx];generalize cN Tv Tw=WW at ew⊢;simp only[ao,aD,aW,ax,aM,aw,dy,aH,av,eJ,fq,bM,bc,aR,aQ,cF,aG,au,c8,aT,bj,bo,fW,fB,dz,aP,aK,Vo,Vs,Vk,Vq,Nat.reduceAdd,Vv,Nat.reduceLeDiff,↓reduceIte,bF z8,b,e1,ew,div_ii d16,bF (fG hp),<-ha,Ff,m1,a1,hn,a2]
   .rw[hY]at m;rcases V4.mp m with m|m
    .rw[VY.mp m];lia
    .rw[hZ]at m;rw[ZI m];lia
   .rw[Vn,lY];simp;lia
  .have e1:decide (p<100)=false:=VV g;exact⟨s,kX,X,x7,by simp only[ao,aD,ax,aM,aw,dy,bJ,bc,aR,aQ,cF,bp,bj,fB,dz,aP,aK,bF z8,b,e1],Fr.refl s,lX,hX,by lia⟩
end
theorem Ed{ns:ZX}(h:ns≠[]):DU ns (some (-1)) none=[aJ ns]:=by
 have h0:0<ns.length:=Vz.mpr h;have e:HT.gq ns.length 0 (some (-1))=ns.length-1:=by show(if(-1:Int)<0 then(-1+(ns.length:Int)).toNat else min (-1:Int).toNat ns.length)=_;rw[VD (by decide)];lia
 unfold DU;rw[e,HT.yr,W! (by lia),show ns.length-1+1=ns.length by lia,XI,List.take_of_length_le (by simp;lia)];unfold aJ;rw[Vx,Vp (by lia)];rfl
section
variable{p:Int}{st:ag}
abbrev Tz:MB:=(aO 2 (ai PM.dj (aa bw (aa cW (aa (dA (aa (af bW (af c_ eg (mC (.int 128))) bw) (aa b! aj))) aj)))))
theorem Ko(hp:eZ p=true){x0 x3 x5 x6 x7 x8:Option ah}{o:Int}{kX n:Nat}{X:ZX}{s:ag}(lX:s[kX]?=some (aq X))(hX:Row p X)(hb:X.length+n<=10000):
  ∃ar ku X' y8,forL (fun _=>True) (aI 8) Tz ((cV 0 n).map ah.int) [x0, qI p, qL kX, x3, qI o, x5, x6, x7, x8] s=.nx [x0, qI p, qL ku, x3, qI o, x5, x6, x7, y8] ar/\Fr s ar/\ar[ku]?=some (aq X')/\Row p X'/\X'.length<=X.length+n:=by
 have hr:=aF hp;have OL:Dz 128:=qP (by decide) (by decide);obtain⟨a,ha⟩:∃a,a=(o.fdiv 128).fmod p:=⟨_,rfl⟩
 obtain⟨μ',ar,e',⟨ku,X',y7,rfl,l',r',q'⟩,F⟩:=cU (g:=fun _=>True) (a:=aI 8) (body:=Tz)
  (fun i μ s'=>(∃kX X' x8,μ=[x0, qI p, qL kX, x3, qI o, x5, x6, x7, x8]/\s'[kX]?=some (aq X')/\Row p X'/\X'.length<=X.length+i)/\Fr s s') ((cV 0 n).map ah.int) 0 [x0, qI p, qL kX, x3, qI o, x5, x6, x7, x8] s
  (by
   rintro i u μ s' hu ⟨⟨kX,Y,x8,rfl,l,r,q⟩,F⟩;rw[VX]at q⊢;refine⟨trivial,?_⟩;obtain⟨hi,rfl⟩:=rat hu;have hn:s'++[aB.lst [.int a,.int 1]]=s'++[aq [a,1]]:=rfl;obtain⟨s2,k2,T,e2,F2,_,l2,r2,c2,n2⟩:=fT hp (ay (aS l [aq [a,1]])) (ay (aN s' ([a,1].map ah.int))) (r.sm hp) (by lia) (by simp);have tl:=wg (by lia) r2 c2 (Yf _ _);have tl:T.length<=Y.length+1:=tl;refine⟨[x0,some (.int p),some (.loc kX),x3,some (.int o),x5,x6,x7,some (.int (i:Int))],rfl,[x0, qI p, qL k2, x3, qI o, x5, x6, x7, qI (i:Int)],s2,.inl ?_,⟨k2,T,_,rfl,l2,r2,by lia⟩,(F.more _).trans F2⟩;generalize (i:Int)=I;simp only[ao,aD,ax,aM,aw,aH,av,eJ,bM,bc,aG,au,c8,aA,bo,aP,a9,aK,Vo,Vs,Vk,Vq,Nat.reduceAdd,Vv,Nat.reduceLeDiff,↓reduceIte,div_ii OL,bF (fG hp),<-ha,hn,e2])
  (fun _ _ _=>trivial) ⟨⟨kX,X,x8,rfl,lX,hX,by lia⟩,Fr.refl s⟩
 have lr:((cV 0 n).map ah.int).length=n:=by rw[az];unfold cV;rw[Vl,VQ]
 rw[lr,VX]at q';exact⟨ar,ku,X',y7,e',F,l',r',q'⟩
abbrev TB:MB:=(ij (fm (b8 (af h! (af bW eg Fw) ny)) (b8 (af jV cW (dA aj)))) (aC (aO 2 (ai PM.dj (aa bw (aa (O7 cW (yS (iK b!)) yR) (aa (dA (aa (af bW (af bU b! (af c_ eg (mC (.int 128)))) bw) (aa b! aj))) aj))))) (fM (cK (aa (af bU Nd (af bW (af c_ eg Fw) (mC (.int 16)))) aj)) (aI 8) Tz)) bT)
theorem OM(hp:eZ p=true){x0 x3 x5 x6 x7 x8:Option ah}{o:Int}{kX:Nat}{X:ZX}{s:ag}(lX:s[kX]?=some (aq X))(hX:Row p X)(bX:X.length<=101):
  ∃ar ku X' y8,TB [x0, qI p, qL kX, x3, qI o, x5, x6, x7, x8] s=.nx [x0, qI p, qL ku, x3, qI o, x5, x6, x7, y8] ar/\Fr s ar/\ar[ku]?=some (aq X')/\Row p X'/\X'.length<=101:=by
 have hr:=aF hp;have z8:¬ (8:Int)=0:=by decide
 have z16:¬ (16:Int)=0:=by decide
 have d8:Dz 8:=qP (by decide) (by decide);have OL:Dz 128:=qP (by decide) (by decide);cases b:(o.fmod 8==2) with
 |false=>exact⟨s,kX,X,x8,by simp only[ao,aD,ax,aM,aw,fZ,bJ,bc,aR,aQ,cF,bp,bj,dz,aP,aK,bF z8,b],Fr.refl s,lX,hX,bX⟩
 |true=>
  have q:=ne_nil (st:=s++[aB.lst []]) (ay (aS lX _)) (ba s []);by_cases he:X=[]
  .have wV:(X.map ah.int).isEmpty=true:=by rw[he];rfl
   rw[wV]at q;exact⟨s++[aB.lst []],kX,X,x8,by simp only[ao,aD,ax,aM,aw,dy,eJ,bJ,bc,aR,aQ,cF,aG,c8,bp,bj,dz,aP,a9,aK,Vq,Wd,Vv,Nat.reduceLeDiff,↓reduceIte,bF z8,b,q],Fr.app s _,aS lX _,hX,bX⟩
  .have wV:(X.map ah.int).isEmpty=false:=by cases X with|nil=>exact absurd rfl he|cons=>rfl
   rw[wV]at q;obtain⟨s1,HU⟩:∃s1,s1=s++[aB.lst []]:=⟨_,rfl⟩
   have F1:Fr s s1:=by rw[HU];exact Fr.app s _
   rw[<-HU]at q;have sl:=Gz (l:=some (-1)) (h:=none) (ay (F1 _ _ lX));rw[v7,Ed he]at sl;have hl:=hX.last (by lia) he;have rc:Row p [aJ X]:=⟨fS (n:=aJ X) (by simp;lia) [],fun a m=>by rw[VY.mp m];lia⟩
   have lc:[aJ X].length=1:=rfl;obtain⟨C,hC⟩:∃C,C=[aJ X]:=⟨_,rfl⟩
   rw[<-hC]at sl rc lc;obtain⟨a,ha⟩:∃a,a=(1+o.fdiv 128).fmod p:=⟨_,rfl⟩
   have hn:s1++[aq C]++[aB.lst [.int a,.int 1]]=s1++[aq C]++[aq [a,1]]:=rfl;obtain⟨s2,k2,T,e2,F2,_,l2,r2,c2,n2⟩:=fT hp (ay (aS (aN s1 (C.map ah.int)) [aq [a,1]])) (ay (aN (s1++[aq C]) ([a,1].map ah.int))) (rc.sm hp) (by lia) (by simp);have tl:T.length<=C.length+2:=n2;have q16:=iD (m:=16) (by decide) (o.fdiv 8);obtain⟨w,hw⟩:∃w,w=5+(o.fdiv 8).fmod 16:=⟨_,rfl⟩
   obtain⟨s3,ku,X',y8,e3,F3,l3,r3,b3⟩:=Ko (x0:=x0) (x3:=x3) (x5:=x5) (x6:=x6) (x7:=x7) (x8:=x8) (o:=o) (n:=w.toNat) hp l2 r2 (by lia);have rk:=Ec (s:=s2) (L:=w) (n:=w.toNat) (by lia) (by lia);have FF:Fr s s3:=F1.trans (((Fr.app s1 [aq C]).more [aq [a,1]]).trans (F2.trans F3));refine⟨s3,ku,X',y8,?_,FF,l3,r3,by lia⟩;rw[TB];generalize Tz=V at e3⊢;simp only[ao,aD,aW,ax,aM,aw,dy,aH,av,eJ,fq,bM,f7,bc,aR,aQ,cF,aG,au,c8,aA,fo,ip,aT,bj,bo,d9,fA,eM,dz,aP,a9,aK,Vo,Vs,Vk,Vq,Nat.reduceAdd,Xs,Vv,Nat.reduceLeDiff,↓reduceIte,K!,Q?,K?,K',yW,yX,Ra,bF z8,b,<-HU,q,sl,div_ii OL,bF (fG hp),<-ha,hn,e2,div_ii d8,bF z16,<-hw,rk,e3]
theorem Ee(hp:eZ p=true){n:Nat}{ns:ZX}(h:ak st n=some (ns.map ah.int)):
  ∃ar k R,PM.i' [.loc n,.int p] st=.ok (.loc k) ar/\Fr st ar/\ar[k]?=some (aq R)/\Row p R/\R.length<=101:=by
 have hr:=aF hp;have z4:¬ (4:Int)=0:=by decide
 obtain⟨o1,e1⟩:=jG (k:=1) h (by decide) (by decide);obtain⟨a,ha⟩:∃a,a=o1.fmod p:=⟨_,rfl⟩
 have qa:=iD (m:=p) (by lia) o1;rw[<-ha]at qa;have hn:st++[aB.lst [.int a]]=st++[aq [a]]:=rfl;have kc:=iZ (st:=st++[aq [a]]) (ba st ([a].map ah.int));obtain⟨s1,HU⟩:∃s1,s1=st++[aq [a]]++[aq (b9 [a])]:=⟨_,rfl⟩
 have F1:Fr st s1:=by rw[HU];exact(Fr.app st _).more _
 have l1:s1[(st++[aq [a]]).length]?=some (aq (b9 [a])):=by rw[HU];exact aN _ _
 obtain⟨k1,hk1⟩:∃k1,k1=(st++[aq [a]]).length:=⟨_,rfl⟩
 have kc:PM.gB [.loc st.length] (st++[aq [a]])=.ok (.loc k1) s1:=by rw[HU,hk1];exact kc
 rw[<-hk1]at l1;have r1:Row p (b9 [a]):=by have:=Row.of (p:=p) (by lia) [o1];rw[Vr,VH,<-ha]at this;exact this
 have b1:(b9 [a]).length<=1:=gE [a];have h1:=F1.it h;obtain⟨o2,e2⟩:=jG (k:=2) h1 (by decide) (by decide);have q4:=iD (m:=4) (by decide) o2;obtain⟨w,hw⟩:∃w,w=o2.fmod 4:=⟨_,rfl⟩
 rw[<-hw]at q4;have rk:=Ec (s:=s1) (L:=w) (n:=w.toNat) (by lia) (by lia);obtain⟨μ2,s2,e3,⟨kX,X,y3,y4,y5,y6,y7,y8,rfl,lX,hX,bX⟩,F2⟩:=cU (g:=fun _=>True) (a:=aI 3) (body:=R!)
  (fun i μ s=>(∃kX X y3 y4 y5 y6 y7 y8,μ=[qL n, qI p, qL kX, y3, y4, y5, y6, y7, y8]/\s[kX]?=some (aq X)/\Row p X/\X.length<=1+i*24)/\Fr s1 s) ((cV 0 w.toNat).map ah.int) 0 [qL n, qI p, qL k1, qn, qn, qn, qn, qn, qn] s1
  (by
   rintro i u μ s hu ⟨⟨kX,X,y3,y4,y5,y6,y7,y8,rfl,lX,hX,bX⟩,F⟩;rw[VX]at bX⊢;refine⟨trivial,?_⟩;obtain⟨hi,rfl⟩:=rat hu;obtain⟨K,hK⟩:∃K:Int,K=(i:Int):=⟨_,rfl⟩
   obtain⟨s3,ku,X',z4,z5,z6,z7,z8,e,F',lX',rX',bX'⟩:=OJ (x4:=y4) (x5:=y5) (x6:=y6) (x7:=y7) (x8:=y8) (K:=K) hp (F.it h1) (by lia) (by lia) lX hX (by lia);rw[<-hK];exact⟨[some (.loc n),some (.int p),some (.loc kX),some (.int K),y4,y5,y6,y7,y8],rfl,_,s3,.inl e,⟨ku,X',_,_,_,_,_,_,rfl,lX',rX',by lia⟩,F.trans F'⟩)
  (fun _ _ _=>trivial) ⟨⟨k1,b9 [a],_,_,_,_,_,_,rfl,l1,r1,by lia⟩,Fr.refl s1⟩
 have lr:((cV 0 w.toNat).map ah.int).length=w.toNat:=by rw[az];unfold cV;rw[Vl,VQ]
 rw[lr,VX]at bX;have h2:=F2.it h1;obtain⟨o9,e9⟩:=jG (k:=9) h2 (by decide) (by decide);obtain⟨s3,kP,P,w7,ep,Fp,lP,rP,bP⟩:=OK (x0:=some (.loc n)) (x3:=y3) (x5:=y5) (x6:=y6) (x7:=y7) (x8:=y8) (o:=o9) hp lX hX (by lia);obtain⟨s4,kQ,Q,w8,eq,Fq,lQ,rQ,bQ⟩:=OM (x0:=some (.loc n)) (x3:=y3) (x5:=y5) (x6:=y6) (x7:=w7) (x8:=y8) (o:=o9) hp lP rP bP;refine⟨s4,kQ,Q,?_,F1.trans (F2.trans (Fp.trans Fq)),lQ,rQ,bQ⟩;unfold PM.i';rw[bI (np:=2) (us:=[ah.loc n,.int p]) rfl];show(aC (aO 2 (ai PM.gB (aa (dA (aa (af bW (ai PM.aZ (aa a! (aa b! aj))) bw) aj)) aj))) (aC (fM (cK (aa (af bW (ai PM.aZ (aa a! (aa ny aj))) Fv) aj)) (aI 3) R!) (aC (aO 4 (ai PM.aZ (aa a! (aa (mC (.int 9)) aj)))) (aC Tx (aC TB (bG cW))))) [qL n, qI p, qn, qn, qn, qn, qn, qn, qn] st).fin=_;generalize R!=BK at e3⊢;generalize Tx=BP at ep⊢;generalize TB=BQ at eq⊢;simp only[ao,aD,aW,bt,ax,aM,aw,aH,av,eJ,bY,bM,f7,bc,aG,au,c8,aA,aT,bh,bo,d9,fA,aP,a9,aK,Vo,Vs,Vk,Vq,Nat.reduceAdd,Vv,Nat.reduceLeDiff,↓reduceIte,e1,bF (fG hp),<-ha,hn,kc,e2,bF z4,<-hw,rk,e3,e9,ep,eq]
end
end PG
namespace Ef
open PySem.Spec L2 MN
open PyProof.Rows hiding St
def R?:List (Str×Str×Bool):=[(("NoInverse":Str),("NoParts":Str),false),(("NoRing":Str),("NoParts":Str),false),(("NoPrime":Str),("NoParts":Str),false),(("NoMeet":Str),("NoParts":Str),false),(("NoParts":Str),("NoParts":Str),true)]
def tab:List (Str×Str×Bool):=R?++RH []
def kn:Z1:=["NoInverse","NoRing","NoPrime","NoMeet","NoParts"]
def fJ:FN:=gO 1 1 (aC (yN (AQ (U! kn) (iB (ai PM.parts (O6 (aa a! (aa (dA aj) aj))))) (vR (AU tab) "NoParts" (bG (af (KU false) (ai PM.jo (aa a! (aa (dA aj) aj))) (mC .dg))) QT))) (bG (mC (.bl false))))
def wj:MB:=(bG (Az (af h! (dX 1 [] (g_ Dq) (aI 0) bO (ai gy (aa a! aj))) (jT 11)) (af h! (ai bx (aa (af bN eg b!) aj)) (af bU (ai bx (aa BW aj)) b!))))
def wm:MB:=(aC (ij (g8 (b8 (af jV (ai PM.parts (aa bw (aa eh aj))) (jt (aa (af bN cW (iK b!)) (aa BW aj))))) (b8 (af jV eh cW))) (bG (mC (.bl false))) bT) wj)
def wq:MB:=(aC (aO 11 (dX 1 [] (g_ Dq) (aI 0) bO (ai gy (aa a! aj)))) wm)
def wt:MB:=(aC (iB (yL fN (af bN eg b!) (aa b! aj))) wq)
def pR:MB:=(aC (ij (dW (b8 (ai PM.n? (aa Dq aj)))) (bG (mC (.bl false))) bT) wt)
def pS:MB:=(aC (ij (b8 (af (KU true) Ek (mC .dg))) (aO 10 (af bU Dq (ai gy (aa Ek aj)))) bT) pR)
def pT:MB:=(aC (aO 10 (dX 1 [] (g_ (af bN eg b!)) (aI 0) bO (af bN a! dF))) pS)
def pU:MB:=(aC (ij (b8 (af jV (dX 1 [] (g_ BW) (aI 0) (b8 (af uX (af bN a! b!) b!)) a!) (dA aj))) (ij (b8 (af (KU true) Ek (mC .dg))) (bG (mC (.bl false))) bT) (ij (dW (b8 (ai PM.b7 (aa bw (aa Ek (aa cW (aa (ai PM.fj (aa bw (aa cW aj))) aj))))))) (bG (mC (.bl false))) bT)) pT)
def pV:MB:=(aC (aO 9 (ai PM.gv (aa bw (aa eh aj)))) pU)
def oI:MB:=(aC (aO 8 (dX 1 [] (g_ (af bN eg b!)) (aI 0) bO (jt (aa (ai gy (aa (af bN a! dF) aj)) (aa (af bN a! b!) aj))))) pV)
def uu:MB:=(aC (ij (g8 (b8 (af jV j? cW)) (dW (b8 (ai PM.gI (aa bw (aa (dX 1 [] (g_ (af bN eg b!)) (aI 0) bO (af bN a! dF)) aj)))))) (bG (mC (.bl false))) bT) oI)
def zI:MB:=(aC (fM (g_ (af bN eg b!)) (aI 6) (fM (cK (aa (af bN qm b!) aj)) (aI 7) (aO 5 (ai PM.dj (aa bw (aa j? (aa (af bN qm dF) aj))))))) uu)
def zJ:MB:=(aC (aO 5 (dA (aa (af bN eg dF) aj))) zI)
def zK:MB:=(aC (ij (g8 (dW (b8 (ai PM.h_ (aa bw (aa eg aj))))) (g8 (b8 (af jV (af bN eg dF) (af bN cW (iK b!)))) (b8 (af jV eh cW)))) (bG (mC (.bl false))) bT) zJ)
def zL:MB:=(aC (aO 4 (ai PM.parts (aa bw (aa eh aj)))) zK)
def uv:MB:=(aC (ij (b8 (af h! cW (dA aj))) (bG (ai fJ (aa bw aj))) bT) zL)
def uw:MB:=(aC (aO 3 (ai gy (aa cW aj))) uv)
def uz:MB:=(aC (aO 2 (ai PM.i' (aa a! (aa bw aj)))) uw)
def CO:FN:=gO 1 12 (aC (aO 1 (ai PM.gA (aa (ai PM.aZ (aa a! (aa dF aj))) aj))) uz)
end Ef
namespace PG
open PySem.Spec L2 MN
open PyProof.Rows hiding St kindOf
open SA (cI)
section
variable{p:Int}{st:ag}
theorem Hz(hp:eZ p=true){x0 x2 x3 x4 x6 x7 x8 x9 x10 x11:Option ah}{kl kX B:Nat}{es:List En}{X:ZX}{W:aE p}(lk:st[kl]?=some (.lst (es.map gX)))(re:∀e∈es,st[e.2.1]?=some (aq e.2.2))(mn:∀e∈es,Row p e.2.2/\e.2.2.length<=200/\e.1<=1000)(lX:st[kX]?=some (aq X))(hX:Row p X)(e:aL X*ie (kr es)=W)(lb:X.length+pP (kr es)*200<=B)(hB:B<=100000):
  ∃ar ku X' y6 y7,forL (fun ar=>ak ar kl=some (es.map gX)) (aI 6) OE (es.map gX) [x0, qI p, x2, x3, x4, qL kX, x6, x7, x8, x9, x10, x11] st=.nx [x0, qI p, x2, x3, x4, qL ku, y6, y7, x8, x9, x10, x11] ar/\Fr st ar/\ar[ku]?=some (aq X')/\Row p X'/\aL X'=W:=by
 obtain⟨μ',ar,e',⟨ku,X',y6,y7,rfl,l',r',q',b'⟩,F⟩:=cU (g:=fun ar=>ak ar kl=some (es.map gX)) (a:=aI 6) (body:=OE)
  (fun i μ s=>(∃kX X y6 y7,μ=[x0, qI p, x2, x3, x4, qL kX, y6, y7, x8, x9, x10, x11]/\s[kX]?=some (aq X)/\Row p X/\aL X*ie (kr (es.drop i))=W/\X.length+pP (kr (es.drop i))*200<=B)/\Fr st s) (es.map gX) 0 [x0, qI p, x2, x3, x4, qL kX, x6, x7, x8, x9, x10, x11] st
  (by
   rintro i u μ s hu ⟨⟨kX,X,y6,y7,rfl,l,r,q,b⟩,F⟩;rw[VX]at q b⊢;refine⟨ay (F _ _ lk),?_⟩;rw[VG]at hu;cases he:es[i]? with
   |none=>rw[he]at hu;cases hu
   |some e=>
    rw[he]at hu;cases hu;have me:=Wb he;obtain⟨m1,m2,m3⟩:=mn e me;have hd:es.drop i=e::es.drop (i+1):=by have hi:=bf he;rw[Vp hi]at he;rw[W! hi,VR he]
    rw[hd]at q b;have q:aL X*(aL e.2.2 ^ e.1*ie (kr (es.drop (i+1))))=W:=q;have b:X.length+(e.1+pP (kr (es.drop (i+1))))*200<=B:=b;rw[Y_]at b;obtain⟨M,hM⟩:∃M:Int,M=(e.1:Int):=⟨_,rfl⟩
    obtain⟨s',ku,X',z7,ei,F',l',r',q',b'⟩:=Hx (x0:=x0) (x2:=x2) (x3:=x3) (x4:=x4) (x8:=x8) (x9:=x9) (x10:=x10) (x11:=x11) (B:=B-pP (kr (es.drop (i+1)))*200) hp hM y7 (F _ _ (re e me)) m1 l r q (by lia) (by lia) m2;have ep:gX e=.tup [.loc e.2.1,.int M]:=by rw[hM];rfl
    have rk:=Ec (s:=s) (L:=M) (n:=e.1) hM (by lia);refine⟨[x0,some (.int p),x2,x3,x4,some (.loc kX),some (.tup [.loc e.2.1,.int M]),y7,x8,x9,x10,x11],by rw[ep];rfl,[x0, qI p, x2, x3, x4, qL ku, some (.tup [.loc e.2.1,.int M]), z7, x8, x9, x10, x11],s',.inl ?_,⟨ku,X',_,_,rfl,l',r',q',by lia⟩,F.trans F'⟩;rw[OE];generalize Ts=BI at ei⊢;simp only[ao,aD,ax,aM,aw,aH,av,f7,bc,aG,au,d9,fA,dZ,aK,bz Ab,rk,ei])
  (fun _ _ h=>ay (h.2 _ _ lk)) ⟨⟨kX,X,x6,x7,rfl,lX,hX,e,lb⟩,Fr.refl st⟩
 refine⟨ar,ku,X',y6,y7,e',F,l',r',?_⟩;rw[Vl,VX,XI]at q';have q':aL X'*1=W:=q';rw[<-q']
 grind
def Kp:Nat->List En->List En
 |_,[]=>[]
 |b,e::es=>(e.1,b,e.2.2)::Kp (b+1) es
theorem HA:∀(b:Nat)(es:List En),kr (Kp b es)=kr es
 |_,[]=>rfl
 |b,e::es=>by show(e.1,e.2.2)::kr (Kp (b+1) es)=(e.1,e.2.2)::kr es;rw[HA]
abbrev kpW:ME:=(jt (aa (ai gy (aa (af bN a! dF) aj)) (aa (af bN a! b!) aj)))
theorem wu{kl:Nat}{us:List ah}:∀(es:List En)(st:ag)(τ:MN.Env)(ys:List ah),(∀e∈es,st[e.2.1]?=some (aq e.2.2))->ak st kl=some us->τ.length=1 ->
  du (fun ar=>ak ar kl=some us) (aI 0) bO kpW (es.map gX) τ st ys=.ok (ys++(Kp st.length es).map gX) (st++es.map fun e=>aq e.2.2)
 |[],st,τ,ys,_,hn,_=>by rw[VH,pI hn];simp[Kp]
 |e::es,st,[x],ys,re,hn,_=>by
  have l1:=re e (VS ..);obtain⟨m,hm⟩:∃m:Int,m=(e.1:Int):=⟨_,rfl⟩
  have ep:gX e=.tup [.loc e.2.1,.int m]:=by rw[hm];rfl
  have c1:gy [.loc e.2.1] st=.ok (.loc st.length) (st++[aq e.2.2]):=ji (ay l1);have ee:kpW [some (.tup [.loc e.2.1,.int m])] st=.ok (.tup [.loc st.length,.int m]) (st++[aq e.2.2]):=by simp only[ao,ax,aM,aw,aH,av,ke,bc,aG,au,il,aA,dZ,Vk,Vq,Nat.reduceAdd,Vv,Nat.reduceLeDiff,↓reduceIte,bz vd,bz Ab,c1]
  rw[Vr,ep,mI (τ1:=[some (.tup [.loc e.2.1,.int m])]) hn rfl ee,wu es (st++[aq e.2.2]) _ _ (fun e' m'=>aS (re e' (VN _ m')) _) (bb hn _) rfl];rw[Vn,Vr,VO,VO];show dh.ok (ys++(ah.tup [.loc st.length,.int m]::(Kp (st.length+1) es).map gX)) _=dh.ok (ys++(gX (e.1,st.length,e.2.2)::(Kp (st.length+1) es).map gX)) _;rw[hm];rfl
theorem CP:∀(es:List En)(st:ag),∀f∈Kp st.length es,st.length<=f.2.1/\(st++es.map fun e=>aq e.2.2)[f.2.1]?=some (aq f.2.2)
 |e::es,st,f,m=>by
  rcases VT.mp m with z|z
  .rw[z];exact⟨VA _,by
    show(st++aq e.2.2::es.map fun e=>aq e.2.2)[st.length]?=_;rw[VP (VA _),WT];rfl⟩
  .have h:=CP es (st++[aq e.2.2]) f (by rw[Vn];exact z);rw[Vn,VO]at h;exact⟨by have:=h.1;simp at this;lia,h.2⟩
theorem zM{st:ag}:∀{es fs:List En},kr es=kr fs->(∀e∈es,st[e.2.1]?=some (aq e.2.2))->(∀e∈fs,st[e.2.1]?=some (aq e.2.2))->g9 (jL 14 st) (es.map gX) (fs.map gX)=some true
 |[],[],_,_,_=>rfl
 |[],_::_,h,_,_=>by cases h
 |_::_,[],h,_,_=>by cases h
 |e::es,f::fs,h,re,rf=>by
  have h1:(e.1,e.2.2)=(f.1,f.2.2):=(List.cons.inj h).1;have h2:kr es=kr fs:=(List.cons.inj h).2;have a1:=re e (VS ..);have a2:=rf f (VS ..);rw[show f.2.2=e.2.2 from(W2 Prod.snd h1).symm]at a2;have e1:jL 13 st (.loc e.2.1) (.loc f.2.1)=some true:=by unfold jL;simp only[vw,ay a1,ay a2];exact jF st 11 _ (fF 11 e.2.2)
  have e2:jL 13 st (.int (e.1:Int)) (.int (f.1:Int))=some true:=by rw[show f.1=e.1 from(W2 Prod.fst h1).symm];exact tQ st 12 (.int (e.1:Int)) rfl
  have e3:jL 14 st (gX e) (gX f)=some true:=by show g9 (jL 13 st) [.loc e.2.1,.int (e.1:Int)] [.loc f.2.1,.int (f.1:Int)]=some true;unfold g9;rw[e1];unfold g9;rw[e2];rfl
  rw[Vr,Vr];unfold g9;rw[e3,zM h2 (fun x m=>re x (VN _ m)) fun x m=>rf x (VN _ m)];rfl
theorem uA{kl:Nat}{es:List En}(lk:st[kl]?=some (.lst (es.map gX))):du (fun ar=>ak ar kl=some (es.map gX)) (aI 0) bO (af bN a! dF) (es.map gX) [none] st []=.ok ((es.map (·.2.1)).map ah.loc) st:=by
 have h:=gj (g:=fun ar=>ak ar kl=some (es.map gX)) (a:=aI 0) (c:=bO) (e:=af bN a! dF) (st:=st) (ay lk) (fun τ=>∃z,τ=[z]) (fun _=>true) (fun u=>match u with|.tup (x::_)=>x|_=>.dg) (es.map gX) [none] [] ⟨_,rfl⟩ (by
  rintro u hu τ ⟨z,rfl⟩;obtain⟨e,_,rfl⟩:=Wc.mp hu;refine⟨[some (gX e)],rfl,⟨_,rfl⟩,rfl,fun _=>?_⟩;unfold gX;generalize (e.1:Int)=m;simp only[ao,ax,aM,aw,bc,dZ,bz vd])
 rw[h,Vu,List.filter_eq_self.mpr (fun _ _=>rfl),Wh,Wh];rfl
def Kq:ah->Bool
 |.tup [_,.int m]=>decide (1<m)
 |_=>false
theorem Eg{kq:Nat}{fs:List En}(lk:st[kq]?=some (.lst (fs.map gX))):∃us:List ah,du (fun ar=>ak ar kq=some (fs.map gX)) (aI 0) (b8 (af uX (af bN a! b!) b!)) a! (fs.map gX) [none] st []=.ok us st/\us.isEmpty=fs.all fun e => !decide (1<e.1):=by
 have h:=gj (g:=fun ar=>ak ar kq=some (fs.map gX)) (a:=aI 0) (c:=b8 (af uX (af bN a! b!) b!)) (e:=a!) (st:=st) (ay lk) (fun τ=>∃z,τ=[z]) Kq id (fs.map gX) [none] [] ⟨_,rfl⟩ (by
  rintro u hu τ ⟨z,rfl⟩;obtain⟨e,_,rfl⟩:=Wc.mp hu;refine⟨[some (gX e)],rfl,⟨_,rfl⟩,?_,fun _=>rfl⟩;unfold gX Kq;generalize (e.1:Int)=m;simp only[ao,ax,aM,aw,bc,aR,aQ,f9,dZ,bz Ab])
 refine⟨_,h,?_⟩;clear h lk
 induction fs with
 |nil=>rfl
 |cons e fs ih=>
  rw[Vr,XM];by_cases g:1<e.1
  .rw[ZR (show Kq (gX e)=true from VW (show 1<(e.1:Int) by lia)),VW g];simp
  .rw[ZS (show ¬ Kq (gX e)=true from fun z=>g (by have:1<(e.1:Int):=WL z;lia)),VV g];simp only[Vu]at ih⊢;rw[ih];rfl
end
end PG
namespace Ef
open PySem.Spec L2 MN PG
open PyProof.Rows hiding St kindOf
theorem zN{p:Int}(hp:eZ p=true)(st:ag):∃ar,fJ [.int p] st=.ok (.bl true) ar:=by
 obtain⟨g,e⟩:=Hs hp (aN st []);obtain⟨g2,e2⟩:=fH hp (st++[aB.lst []]++g++[aB.lst []]);have l2:=aS (aN (st++[aB.lst []]++g) []) g2;have kl:bx [.loc (st++[aB.lst []]++g).length] (st++[aB.lst []]++g++[aB.lst []]++g2)=.ok (.int 0) (st++[aB.lst []]++g++[aB.lst []]++g2):=by rw[a7 (ay l2)];rfl
 have kI:U! kn "NoParts" = true:=by decide
 have sI:AU tab "NoParts" "NoParts" = some true:=by decide
 have z:((0:Int)==0)=true:=rfl;have i1:KU false .dg .dg (st++[aB.lst []]++g++[aB.lst []]++g2)=.ok (.bl true) (st++[aB.lst []]++g++[aB.lst []]++g2):=rfl;exact⟨_,by simp only[fJ,PM.jo,PM.gJ,bI,ao,aD,rY,aW,jX,bt,ax,aM,aw,aH,av,eJ,gC,bY,fq,bc,aR,aQ,aG,au,c8,aA,aT,fw,bh,bj,A4,A5,tP,xo,A6,pC,dz,aP,a9,aK,Vr,VH,VB,Vu,Vy,Vt,Nat.reduceSub,Vk,Vq,Nat.reduceAdd,Vv,Nat.reduceLeDiff,↓reduceIte,e,JQ kI,JR sI,e2,kl,z,i1];rfl⟩
end Ef
namespace Ef
open PySem.Spec L2 MN PG
open PyProof.Rows hiding St kindOf
open SA (cI)
theorem HB{st:ag}{a b:Nat}{ls ms:List Nat}{Rs:List (ZX)}(la:st[a]?=some (.lst (ls.map ah.loc)))(lb:st[b]?=some (.lst (ms.map ah.loc)))(h1:cq st ls Rs)(h2:cq st ms Rs):h! (.loc a) (.loc b) st=.ok (.bl true) st:=by
 unfold h!;have:jL 16 st (.loc a) (.loc b)=some true:=by unfold jL;simp only[vw,ay la,ay lb];exact v? h1 h2
 rw[this]
theorem Kr{st:ag}{c:Int}{a b:Nat}{es fs:List En}(la:st[a]?=some (.lst (es.map gX)))(lb:st[b]?=some (.lst (fs.map gX)))(h:kr es=kr fs)(re:∀e∈es,st[e.2.1]?=some (aq e.2.2))(rf:∀e∈fs,st[e.2.1]?=some (aq e.2.2)):jV (.tup [.int c,.loc a]) (.tup [.int c,.loc b]) st=.ok (.bl false) st:=by
 unfold jV;have e1:jL 15 st (.loc a) (.loc b)=some true:=by unfold jL;simp only[vw,ay la,ay lb];exact zM h re rf
 have e2:jL 15 st (.int c) (.int c)=some true:=tQ st 14 (.int c) rfl;have:jL 16 st (.tup [.int c,.loc a]) (.tup [.int c,.loc b])=some true:=by show g9 (jL 15 st) [.int c,.loc a] [.int c,.loc b]=some true;unfold g9;rw[e2];unfold g9;rw[e1];rfl
 rw[this];rfl
theorem Lx{st:ag}{ls:List Nat}{Rs:List (ZX)}(h:cq st ls Rs):cq (st++Rs.map aq) ((List.range ls.length).map (st.length + ·)) Rs:=by refine⟨by rw[Vl,VQ,h.1],fun i l R h1 h2=>?_⟩;have hi:=bf h2;rw[VG,V7 (by rw[h.1];exact hi)]at h1;cases h1;show(st++Rs.map aq)[st.length+i]?=_;rw[VP (by lia),show st.length+i-st.length=i by lia,VG,h2];rfl
variable{p:Int}
structure Tl(p:Int)(R:ZX)(s:ag)(kR kH kl kq kw:Nat)(es fs:List En)(ls:List Nat)(Rs:List (ZX)):Prop where
 lR:s[kR]?=some (aq R)
 lH:s[kH]?=some (aq R)
 lk:s[kl]?=some (.lst (es.map gX))
 lq:s[kq]?=some (.lst (fs.map gX))
 lw:s[kw]?=some (.lst (ls.map ah.loc))
 rf:∀f∈fs,s[f.2.1]?=some (aq f.2.2)
 ps:kr fs=kr es
 rw_:cq s ls Rs
 nd:ls.Nodup
 n1:∀x∈[kR,kH,kl,kq,kw]++fs.map (·.2.1),x ∉ ls
 n2:∀x∈[kR,kH,kq,kw]++ls++fs.map (·.2.1),kl≠x
 ln:ls.length<=1000/\es.length<=1000
 lr:∀X∈Rs,X.length<=90000
theorem Ly(hp:eZ p=true){R:ZX}(hR:Row p R)(nR:R≠[])(bR:R.length<=101){s:ag}{kR kH kl kq kw:Nat}{es fs:List En}{ls:List Nat}{Rs:List (ZX)}{t:Int}(ht:(t*aJ R) % p=1)(pr:uk p (mulR p t R) (kr es))(up:es.Pairwise fun a b=>a.1<b.1)(T:Tl p R s kR kH kl kq kw es fs ls Rs){x0 x5 x6 x7 x9 x11:Option ah}{c:Int}(hc:c=aJ R):
  ∃s',pR [x0, qI p, qL kR, qL kH, some (.tup [.int c,.loc kl]), x5, x6, x7, qL kq, x9, qL kw, x11] s=.rt (.bl true) s':=by
 have hr:=aF hp;have a1:∀{x},x∈[kR,kH,kl,kq,kw]->x ∉ ls:=fun m=>T.n1 _ (Wk _ m);obtain⟨s1,e1,L1,r1,o1⟩:=A? T.lw T.rw_ T.nd (a1 (by simp)) T.ln.1 (fun X m=>by have:=T.lr X m;lia);have m1:=o1 _ _ (a1 (by simp:kl∈_)) T.lk;have ap:=pD (v:=.int 1) m1 (by rw[Vl,Vv];have:=T.ln.2;lia);have mt:∀μ,GA fN (aa b! aj) μ (.loc kl) s1=_:=fun μ=>GB (g:=fN) (ms:=aa b! aj) (μ:=μ) m1;obtain⟨s2,jq⟩:∃s2,s2=s1.set kl (.lst (es.map gX++[.int 1])):=⟨_,rfl⟩
 rw[<-jq]at ap;have o2:∀m c,m ∉ ls->kl≠m->s[m]?=some c->s2[m]?=some c:=fun m c h1 h2 h=>by rw[jq];exact jk (o1 m c h1 h) h2
 have a2:∀{x},x∈[kR,kH,kq,kw]->kl≠x:=fun m=>T.n2 _ (Wk _ (Wk _ m));have lk2:s2[kl]?=some (.lst (es.map gX++[.int 1])):=by rw[jq];exact oo m1
 have J4:=o2 _ _ (a1 (by simp:kR∈_)) (a2 (by simp)) T.lR;have Lz:=o2 _ _ (a1 (by simp:kH∈_)) (a2 (by simp)) T.lH;have lq2:=o2 _ _ (a1 (by simp:kq∈_)) (a2 (by simp)) T.lq;have lw2:=o2 _ _ (a1 (by simp:kw∈_)) (a2 (by simp)) T.lw;have rf2:∀f∈fs,s2[f.2.1]?=some (aq f.2.2):=fun f m=>o2 _ _ (T.n1 _ (V2 _ (W5 m))) (T.n2 _ (V2 _ (W5 m))) (T.rf f m);obtain⟨Qs,hQs⟩:∃Qs,Qs=Rs.map (· ++ [(1:Int)]):=⟨_,rfl⟩
 have ra:cq s2 ls Qs:=by
  refine⟨by rw[hQs,Vl];exact T.rw_.1,fun i l X h1 h2=>?_⟩;rw[hQs,VG]at h2;cases h3:Rs[i]? with
  |none=>rw[h3]at h2;cases h2
  |some Y=>
   rw[h3]at h2;cases h2;rw[jq];exact jk (r1 i l Y h1 h3) (T.n2 l (Wk _ (V2 _ (Wb h1))))
 -- held
 have hz:(ls.map ah.loc).length<=16777216:=by rw[Vl];have:=T.ln.1;lia
 have Pb:∀{s:ag},s[kw]?=some (.lst (ls.map ah.loc))->cq s ls Qs->du (fun ar=>ak ar kw=some (ls.map ah.loc)) (aI 0) bO (ai gy (aa a! aj)) (ls.map ah.loc) [none] s []=.ok (((List.range ls.length).map (s.length + ·)).map ah.loc) (s++Qs.map aq):=fun{s}h1 h2=>by have:=t6 (n:=kw) ls Qs s (ls.map ah.loc) [none] [] h2 (ay h1) rfl;rw[Vu]at this;rw[this,Wh];rfl
 have c2:=Pb lw2 ra;obtain⟨s3,xB⟩:∃s3,s3=s2++Qs.map aq:=⟨_,rfl⟩
 have F3:Fr s2 s3:=by rw[xB];exact Fr.app s2 _
 have rc3:=Lx ra;obtain⟨ms,Vf⟩:∃ms,ms=(List.range ls.length).map (s2.length + ·):=⟨_,rfl⟩
 rw[<-Vf,<-xB]at rc3 c2;have F4:Fr s2 (s3++[.lst (ms.map ah.loc)]):=F3.more _;have lh4:=aN s3 (ms.map ah.loc);have rc4:=rc3.old [.lst (ms.map ah.loc)]
 -- uY parts anew
 obtain⟨s5,Ru,es2,e5,O⟩:=um hp (F4 _ _ Lz) hR nR (by lia);obtain⟨t2,ht2,pr2⟩:=O.pr;rw[Hu (by lia) ht2 ht]at pr2;obtain⟨rM,nM,_,lM⟩:=lh hr.1 hR nR ht;have ps2:kr es2=kr es:=D_ hp pr2 pr rM nM (by lia) (WI.mpr O.up) (WI.mpr up);have F5:=F4.trans O.fr;have q5:=Kr (c:=c) O.lk (F5 _ _ lq2) (ps2.trans T.ps.symm) (fun e m=>(O.re e m).2.2) (fun f m=>F5 _ _ (rf2 f m));have gx:=c! (ay (F5 _ _ J4)) (jl nR);rw[<-hc]at gx e5;have q6:=ou (ay (F5 _ _ Lz)) (ay (F5 _ _ J4)) (fF 14 R)
 -- uY end
 have lw5:=F5 _ _ lw2;have ra5:=F5.rows ra;have c5:=Pb lw5 ra5;obtain⟨s6,O!⟩:∃s6,s6=s5++Qs.map aq:=⟨_,rfl⟩
 have F6:Fr s5 s6:=by rw[O!];exact Fr.app s5 _
 have rc6:=Lx ra5;obtain⟨ns,OX⟩:∃ns,ns=(List.range ls.length).map (s5.length + ·):=⟨_,rfl⟩
 rw[<-OX,<-O!]at rc6 c5;have F7:=F6.more [aB.lst (ns.map ah.loc)];have q7:=HB (aN s6 (ns.map ah.loc)) (F7 _ _ (O.fr _ _ lh4)) (rc6.old [.lst (ns.map ah.loc)]) ((O.fr.trans F7).rows rc4);have TC:=F7 _ _ (F5 _ _ lk2);have lq7:=F7 _ _ (F5 _ _ lq2);have lfs:fs.length=es.length:=by have:=W2 List.length T.ps;unfold kr at this;rw[Vl,Vl]at this;exact this
 obtain⟨E,hE⟩:∃E:Int,E=(es.length:Int):=⟨_,rfl⟩
 have n1:bx [.loc kl] (s6++[.lst (ns.map ah.loc)])=.ok (.int (E+1)) (s6++[.lst (ns.map ah.loc)]):=by rw[a7 (ay TC),Vn,Vl,hE];rfl
 have n2:bx [.loc kq] (s6++[.lst (ns.map ah.loc)])=.ok (.int E) (s6++[.lst (ns.map ah.loc)]):=by rw[a7 (ay lq7),Vl,hE,lfs]
 have gL:∀x0 x1 x2 x3 x4 x5 x6 x7 x8 x9 x10 x11:Option ah,je 1 [] [x0,x1,x2,x3,x4,x5,x6,x7,x8,x9,x10,x11]=[none]:=fun _ _ _ _ _ _ _ _ _ _ _ _=>rfl;refine⟨s6++[.lst (ns.map ah.loc)],?_⟩;simp only[pR,wt,wq,wm,wj,ao,aD,aW,ax,aM,aw,oh,fQ,gm,aH,av,ke,gC,bY,bJ,bM,gN,ft,bc,aR,aQ,tF,gk,fe,aG,au,il,aA,fo,ip,aT,bp,fw,bh,bj,bo,dO,eu,eM,dz,aP,dZ,a9,aK,Vo,Vs,Vk,Vq,Nat.reduceAdd,Wd,Vv,Nat.reduceLeDiff,↓reduceIte,A7,GC,e1,bz Ab,mt,ap,cP (ay lw2),gL,c2,VD hz,e5,gx,q5,q6,cP (ay lw5),c5,q7,n1,n2];rw[W3]
variable{p:Int}
theorem apart1{kR kH kl kq kw b0 B:Nat}{fs:List En}{ls:List Nat}(h1:kR<b0)(h2:kH<b0)(h3:b0<=kl)(h4:kl<B)(h5:∀f∈fs,B<=f.2.1/\f.2.1<kq)(h6:B<=kq)(h7:kq<kw)(hl:∀l∈ls,(b0<=l/\l<kl)\/(kq<l/\l<kw)):
  (∀x∈[kR,kH,kl,kq,kw]++fs.map (·.2.1),x ∉ ls)/\∀x∈[kR,kH,kq,kw]++ls++fs.map (·.2.1),kl≠x:=by
 refine⟨fun x m z=>?_,fun x m=>?_⟩
 .have hz:=hl x z;rcases V4.mp m with m|m
  .simp only[VT,WO,Xe]at m;lia
  .obtain⟨f,mf,rfl⟩:=Wc.mp m;have:=h5 f mf;lia
 .rcases V4.mp m with m|m
  .rcases V4.mp m with m|m
   .simp only[VT,WO,Xe]at m;lia
   .have:=hl x m;lia
  .obtain⟨f,mf,rfl⟩:=Wc.mp m;have:=h5 f mf;lia
theorem zO(hp:2<=p){A:ZX}{t:Int}(h:(t*aJ A) % p=1):cI (aL A:aE p) (dP (aL A))↔cI (aL (mulR p t A):aE p) (dP (aL (mulR p t A))):=by
 have e1:=zG (p:=p) (A:=A) (by lia) h;have d0:dP (aL [aJ A]:aE p)=0:=by rw[<-jI (by lia) [aJ A],show iw p [aJ A]=[]from rfl];exact g? (b:=[0]) fun k=>by cases k<;>rfl
 have u:(aL [t]:aE p)*aL [aJ A]=1:=by
  rw[xG,<-CA];refine mk_eq fun k=>?_;rw[bg,qw,j6,j6];have h2:=V6 (t*aJ A) p;rw[h]at h2;exact⟨(t*aJ A / p)*one k,by
   generalize t*aJ A / p=a at h2⊢;generalize one k=b
   grind⟩
 have e2:dP (aL A:aE p)=aL [aJ A]*dP (aL (mulR p t A)):=by
  rw[<-e1,iu,d0]
  grind
 constructor
 .rintro⟨x,y,e⟩;rw[e2]at e;exact⟨x*aL [aJ A],y*aL [aJ A],by rw[<-e,<-e1];grind⟩
 .rintro⟨x,y,e⟩;refine⟨x*aL [t],y*aL [t],?_⟩;rw[e2,<-e1,<-e]
  grind
theorem ON(hp:eZ p=true){R:ZX}(hR:Row p R)(nR:R≠[])(bR:R.length<=101){s:ag}{kR kH kl b0:Nat}{es:List En}{t:Int}(ht:(t*aJ R) % p=1)(pr:uk p (mulR p t R) (kr es))(up:es.Pairwise fun a b=>a.1<b.1)(el:es.length<64)(lR:s[kR]?=some (aq R))(lH:s[kH]?=some (aq R))(lk:s[kl]?=some (.lst (es.map gX)))(re:∀e∈es,b0<=e.2.1/\e.2.1<kl/\s[e.2.1]?=some (aq e.2.2))(nd:es.Pairwise fun a b=>a.2.1≠b.2.1)(h1:kR<b0)(h2:kH<b0)(h3:b0<=kl){x0 x5 x6 x7 x8 x9 x10 x11:Option ah}{c:Int}(hc:c=aJ R):
  ∃s',oI [x0, qI p, qL kR, qL kH, some (.tup [.int c,.loc kl]), x5, x6, x7, x8, x9, x10, x11] s=.rt (.bl true) s':=by
 have hr:=aF hp;obtain⟨rM,nM,_,lM⟩:=lh hr.1 hR nR ht;have gL:∀x0 x1 x2 x3 x4 x5 x6 x7 x8 x9 x10 x11:Option ah,je 1 [] [x0,x1,x2,x3,x4,x5,x6,x7,x8,x9,x10,x11]=[none]:=fun _ _ _ _ _ _ _ _ _ _ _ _=>rfl;have hz:(es.map gX).length<=16777216:=by rw[Vl];lia
 have lks:=bf lk
 -- kept
 have c1:=wu (kl:=kl) (us:=es.map gX) es s [none] [] (fun e m=>(re e m).2.2) (ay lk) rfl;rw[Vu]at c1;have cp:=CP es s;have ps:=HA s.length es;obtain⟨fs,hfs⟩:∃fs,fs=Kp s.length es:=⟨_,rfl⟩
 rw[<-hfs]at c1 cp ps;obtain⟨s1,HU⟩:∃s1,s1=s++es.map fun e=>aq e.2.2:=⟨_,rfl⟩
 have F1:Fr s s1:=by rw[HU];exact Fr.app s _
 rw[<-HU]at c1 cp;have lq1:=aN s1 (fs.map gX);obtain⟨s2,jq⟩:∃s2,s2=s1++[.lst (fs.map gX)]:=⟨_,rfl⟩
 have F2:Fr s1 s2:=by rw[jq];exact Fr.app s1 _
 rw[<-jq]at lq1;have l2:s2.length=s1.length+1:=by rw[jq,Vn];rfl
 obtain⟨kq,hkq⟩:∃kq,kq=s1.length:=⟨_,rfl⟩
 have f1:=F1.len;rw[<-hkq]at lq1;have lfs:fs.length=es.length:=by have:=W2 List.length ps;unfold kr at this;rw[Vl,Vl]at this;exact this
 have hzf:(fs.map gX).length<=16777216:=by rw[Vl];lia
 have Tq:=F1.trans F2
 -- uY proof
 obtain⟨s3,v,e3,F3,ho⟩:=lJ hp (Tq _ _ lH) hR nR (by lia);have Od:=Tq.trans F3;have Sa:=F3 _ _ lq1;obtain⟨us,cu,hu⟩:=Eg Sa;have q4:=ne_nil (st:=s3++[.lst us]++[.lst []]) (ay (aS (aN s3 us) [.lst []])) (ba _ []);rw[hu]at q4;obtain⟨s4,Lq⟩:∃s4,s4=s3++[.lst us]++[.lst []]:=⟨_,rfl⟩
 have F4:Fr s3 s4:=by rw[Lq];exact(Fr.app s3 _).more _
 rw[<-Lq]at q4;have cel:=fun{s':ag}(F:Fr s s')=>uA (st:=s') (F _ _ lk);have Sb:=fun{s':ag}(F:Fr s s')=>cP (st:=s') (ay (F _ _ lk));obtain⟨ls,J1⟩:∃ls,ls=es.map (·.2.1):=⟨_,rfl⟩
 have lls:ls.length=es.length:=by rw[J1,Vl]
 have ndl:ls.Nodup:=by rw[J1];exact WI.mpr nd
 have mls:∀l∈ls,b0<=l/\l<kl:=fun l m=>by rw[J1]at m;obtain⟨e,me,rfl⟩:=Wc.mp m;exact⟨(re e me).1,(re e me).2.1⟩
 have rows:∀{s':ag},Fr s s'->cq s' ls (es.map (·.2.2)):=fun{s'}F=>⟨by rw[lls,Vl],fun i l X h1 h2=>by
  rw[J1,VG]at h1;rw[VG]at h2;cases he:es[i]? with
  |none=>rw[he]at h1;cases h1
  |some e=>
   rw[he]at h1 h2;cases h1;cases h2;exact F _ _ (re e (Wb he)).2.2⟩
 have blr:∀X∈es.map (·.2.2),X.length<=90000:=fun X m=>by obtain⟨e,me,rfl⟩:=Wc.mp m;have:=(pr.bd (by lia) rM nM (q:=(e.1,e.2.2)) (W5 me)).2;have h5:e.2.2.length<=(mulR p t R).length:=this;lia
 have rff:∀{s':ag},Fr s1 s'->∀f∈fs,s'[f.2.1]?=some (aq f.2.2):=fun{s'}F f m=>F _ _ (cp f m).2;have hff:∀f∈fs,s.length<=f.2.1/\f.2.1<kq:=fun f m=>⟨(cp f m).1,by have:=bf (cp f m).2;lia⟩
 rcases ho with⟨rfl,no⟩|⟨k4,k5,U,V,rfl,o,l4,l5,n45,g4,g5⟩
 ·-- a G? aaq more aaK once
  have na:(fs.all fun e => !decide (1<e.1))=false:=by
   rw[<-Bool.not_eq_true];intro IH;refine no ((zO hr.1 ht).mpr ?_);rw[pr.eq,<-ps];refine CG (fun q m=>?_) (by rw[ps];exact pr.c2);have mq:=m;rw[ps]at mq;obtain⟨f,mf,rfl⟩:=Wc.mp m;have:=WA.mp IH f mf;have:=pr.p1 _ mq;refine⟨?_,pr.sq _ mq⟩;show f.1=1;have h7:¬ 1<f.1:=by simpa using WA.mp IH f mf
   have h8:1<=f.1:=this;lia
  rw[na]at q4;have F5:Fr s s4:=Od.trans F4;have c5:=cel F5;rw[<-J1]at c5;have lw:=aN s4 (ls.map ah.loc);have F6:=F5.more [.lst (ls.map ah.loc)];have F6':Fr s1 (s4++[.lst (ls.map ah.loc)]):=(F2.trans (F3.trans F4)).more _;have ap:=apart1 (ls:=ls) (fs:=fs) (kw:=s4.length) h1 h2 h3 lks hff (by lia) (by have:=(F3.trans F4).len;lia) fun l m=>.inl (mls l m);obtain⟨s',e'⟩:=Ly (x0:=x0) (x5:=x5) (x6:=x6) (x7:=x7) (x9:=some .dg) (x11:=x11) hp hR nR bR ht pr up ⟨F6 _ _ lR,F6 _ _ lH,F6 _ _ lk,aS (F4 _ _ Sa) _,lw,rff F6',ps,rows F6,ndl,ap.1,ap.2,by lia,blr⟩ hc;have i9:∀s:ag,KU true .dg .dg s=.ok (.bl false) s:=fun _=>rfl;refine⟨s',?_⟩;simp only[oI,pV,pU,pT,pS,ao,aD,aW,ax,aM,aw,aH,av,eJ,fq,bJ,bM,gN,ft,bc,aR,aQ,aG,au,c8,aA,aT,bp,bj,bo,dO,eu,aP,dZ,a9,Gw,aK,Vo,Vs,Vq,Xs,Vv,Nat.reduceLeDiff,↓reduceIte,bz Ab,cP (ay lk),gL,VD hz,c1,<-jq,<-hkq,e3,cP (ay Sa),VD hzf,cu,<-Lq,q4,i9,Sb F5,c5,e']
 .have cR:cI (aL (mulR p t R):aE p) (dP (aL (mulR p t R))):=(zO hr.1 ht).mp (by rw[<-jI (by lia) R];exact o.Pb);have na:(fs.all fun e => !decide (1<e.1))=true:=by
   refine WA.mpr fun f mf=>?_;rw[Zw,decide_eq_false_iff_not];intro h7;have mq:(f.1,f.2.2)∈kr es:=by rw[<-ps];exact W5 mf
   rw[pr.eq]at cR;exact Kj hr.1 mq h7 (pr.mn _ mq) cR
  rw[na]at q4;have F5:Fr s s4:=Od.trans F4;obtain⟨s5,ks,e5,F5',aar⟩:=nh hp (F5 _ _ lR) (by lia);have bl:=i! (p:=p) R;have Pc:=F4.trans F5';obtain⟨s6,e6,F6'⟩:=ur hp o (Pc _ _ l4) (Pc _ _ l5) (F5' _ _ (F5 _ _ lR)) aar (by lia) (by lia);have Sd:=Pc.trans F6';have F6:Fr s s6:=Od.trans Sd;have c6:=cel F6;rw[<-J1]at c6;have a1:=jY (st:=s6++[.lst (ls.map ah.loc)]++[.lst [.loc k4,.loc k5]]) (n:=s6.length) (m:=(s6++[aB.lst (ls.map ah.loc)]).length) (us:=ls.map ah.loc) (ws:=[.loc k4,.loc k5]) (aS (aN _ _) _) (aN _ _) (by rw[Vl,Vv];simp;lia);rw[show ls.map ah.loc++[ah.loc k4,.loc k5]=(ls++[k4,k5]).map ah.loc by rw[Wn];rfl]at a1;obtain⟨s7,hs7⟩:∃s7,s7=s6++[aB.lst (ls.map ah.loc)]++[.lst [.loc k4,.loc k5]]:=⟨_,rfl⟩
  have F7:Fr s6 s7:=by rw[hs7];exact(Fr.app s6 _).more _
  rw[<-hs7]at a1;have G1:Fr s6 (s7++[.lst ((ls++[k4,k5]).map ah.loc)]):=F7.more _;have G:=F6.trans G1;have G3:Fr s3 (s7++[.lst ((ls++[k4,k5]).map ah.loc)]):=Sd.trans G1;have G1':Fr s1 (s7++[.lst ((ls++[k4,k5]).map ah.loc)]):=F2.trans (F3.trans G3);have lw:=aN s7 ((ls++[k4,k5]).map ah.loc);have z4:=bf (F7 _ _ (Sd _ _ l4));have z5:=bf (F7 _ _ (Sd _ _ l5));have OY:=(F3.trans (Sd.trans F7)).len;have ap:=apart1 (ls:=ls++[k4,k5]) (fs:=fs) (kw:=s7.length) h1 h2 h3 lks hff (by lia) (by lia) fun l m=>by
   rcases V4.mp m with m|m
   .exact .inl (mls l m)
   .simp only[VT,WO,Xe]at m;exact .inr (by lia)
  have nd2:(ls++[k4,k5]).Nodup:=by refine List.nodup_append.mpr ⟨ndl,by simp[n45],fun x mx y my=>?_⟩;have:=mls x mx;simp only[VT,WO,Xe]at my;lia
  have Se:cq (s7++[.lst ((ls++[k4,k5]).map ah.loc)]) (ls++[k4,k5]) (es.map (·.2.2)++[U,V]):=by
   have r0:=rows G;have r4:=cq.two (G3 _ _ l4) (G3 _ _ l5);refine⟨by rw[Vn,Vn,r0.1];rfl,fun i l X h1 h2=>?_⟩;rcases WG i ls.length with g|g
   .rw[V0 g]at h1;rw[V0 (by rw[<-r0.1];exact g)]at h2;exact r0.2 i l X h1 h2
   .rw[VP g]at h1;rw[VP (by rw[<-r0.1];exact g),<-r0.1]at h2;exact r4.2 _ l X h1 h2
  have hoU:=o.lu;have hoV:=o.lv;obtain⟨s',e'⟩:=Ly (x0:=x0) (x5:=x5) (x6:=x6) (x7:=x7) (x9:=some (.tup [.loc k4,.loc k5])) (x11:=x11) hp hR nR bR ht pr up ⟨G _ _ lR,G _ _ lH,G _ _ lk,G3 _ _ Sa,lw,rff G1',ps,Se,nd2,ap.1,ap.2,by rw[Vn,lls];simp;lia,fun X m=>by
   rcases V4.mp m with m|m
   .exact blr X m
   .simp only[VT,WO,Xe]at m;rcases m with rfl|rfl<;>lia⟩ hc
  have i9:∀s:ag,KU true (.tup [.loc k4,.loc k5]) .dg s=.ok (.bl true) s:=fun _=>rfl;refine⟨s',?_⟩;simp only[oI,pV,pU,pT,pS,ao,aD,aW,ax,aM,aw,gm,aH,av,eJ,fq,bJ,bM,gN,ft,bc,aR,aQ,fe,aG,au,c8,aA,aT,bp,bj,bo,dO,eu,aP,dZ,a9,aK,Vo,Vs,Vq,Wd,Vv,Nat.reduceLeDiff,↓reduceIte,bz Ab,cP (ay lk),gL,VD hz,c1,<-jq,<-hkq,e3,cP (ay Sa),VD hzf,cu,<-Lq,q4,e5,e6,Sb F6,c6,i9,J7,<-hs7,a1,e']
theorem HC:∀(c:aB)(ns:ZX),ns.length<=63->ak [c] 0=some (ns.map ah.int)->∃ar,CO [.loc 0] [c]=.ok (.bl true) ar:=by
 intro cl ns _ h;obtain⟨st,wC⟩:∃st:ag,st=[cl]:=⟨_,rfl⟩
 rw[<-wC]at h⊢;clear wC;obtain⟨o,e0⟩:=jG (k:=0) h (by decide) (by decide);obtain⟨g,p,e1,hp⟩:=GL o st;have hr:=aF hp;obtain⟨s1,kR,R,e2,F1,lR,hR,bR⟩:=Ee hp (bb h g);have c3:gy [.loc kR] s1=.ok (.loc s1.length) (s1++[aq R]):=ji (ay lR);have J4:=aS lR [aq R];have Lz:=aN s1 (R.map ah.int);obtain⟨s2,jq⟩:∃s2,s2=s1++[aq R]:=⟨_,rfl⟩
 have aas:s1++[aB.lst (R.map ah.int)]=s2:=jq.symm;rw[<-jq]at J4 c3;rw[aas]at Lz;obtain⟨kH,hkH⟩:∃kH,kH=s1.length:=⟨_,rfl⟩
 rw[<-hkH]at Lz c3;have q:=eq_nil (st:=s2++[aB.lst []]) (ay (aS J4 _)) (ba s2 []);by_cases he:R=[]
 .have wV:(R.map ah.int).isEmpty=true:=by rw[he];rfl
  rw[wV]at q;obtain⟨s',e'⟩:=zN hp (s2++[aB.lst []]);exact⟨s',by simp only[CO,uz,uw,uv,bI,ao,aD,aW,jX,bt,ax,aM,aw,aH,av,eJ,bY,fq,bM,bc,aR,aQ,aG,au,c8,aA,aT,bh,bj,bo,aP,a9,aK,Vr,VH,VB,Vu,Vy,Vt,Vo,Vs,Nat.reduceSub,Vk,Vq,Nat.reduceAdd,Vv,Nat.reduceLeDiff,↓reduceIte,e0,e1,e2,c3,q,e']⟩
 .have wV:(R.map ah.int).isEmpty=false:=by cases R with|nil=>exact absurd rfl he|cons=>rfl
  rw[wV]at q;obtain⟨s3,xB⟩:∃s3,s3=s2++[aB.lst []]:=⟨_,rfl⟩
  have F3:Fr s2 s3:=by rw[xB];exact Fr.app s2 _
  rw[<-xB]at q;obtain⟨s4,kl,es,e4,O⟩:=um hp (F3 _ _ Lz) hR he (by lia);obtain⟨t,ht,pr⟩:=O.pr;obtain⟨rM,nM,_,lM⟩:=lh hr.1 hR he ht;obtain⟨c,hc⟩:∃c,c=aJ R:=⟨_,rfl⟩
  have re:∀e∈es,s4[e.2.1]?=some (aq e.2.2):=fun e m=>(O.re e m).2.2;have mm:∀e∈es,(e.1,e.2.2)∈kr es:=fun e m=>W5 m;have bd:∀e∈es,e.1<101/\e.2.2.length<=101:=fun e m=>by obtain⟨b1,b2⟩:=pr.bd (by lia) rM nM (mm e m);have b1:e.1<(mulR p t R).length:=b1;have b2:e.2.2.length<=(mulR p t R).length:=b2;exact⟨by lia,by lia⟩
  obtain⟨s5,e5,F5⟩:=Bq (p:=p) (c:=c) O.lk re (fun e m=>⟨(pr.mn _ (mm e m)).1,(pr.mn _ (mm e m)).2,pr.p1 _ (mm e m)⟩) O.up;have Pc:=O.fr.trans F5;have lR5:=Pc _ _ (F3 _ _ J4);have lH5:=Pc _ _ (F3 _ _ Lz);have gx:=c! (ay lR5) (jl he);rw[<-hc]at gx e4;have q5:=ou (ay lH5) (ay lR5) (fF 14 R);have i5:(c==c)=true:=W3 c
  -- aaz
  have hn6:s5++[aB.lst [.int c]]=s5++[aq [c]]:=rfl;have F6:=Fr.app s5 [aq [c]];have rc:Row p [c]:=by have:=hR.last (by lia) he;rw[<-hc]at this;exact⟨fS (n:=c) (by simp;lia) [],fun a m=>by rw[VY.mp m];lia⟩
  have eW:(aL [c]:aE p)*ie (kr es)=aL R:=by rw[<-pr.eq,hc];exact zG (by lia) ht
  have sm:=sD (by lia) pr.mn rM nM pr.eq;obtain⟨s7,kX,X,y6,y7,e7,F7,lX,rX,eX⟩:=Hz (x0:=some (.loc 0)) (x2:=some (.loc kR)) (x3:=some (.loc kH)) (x4:=some (.tup [.int c,.loc kl])) (x6:=none) (x7:=none) (x8:=none) (x9:=none) (x10:=none) (x11:=none) (B:=30000) hp (F6 _ _ (F5 _ _ O.lk)) (fun e m=>F6 _ _ (F5 _ _ (re e m))) (fun e m=>⟨(pr.mn _ (mm e m)).1.row,by have:=bd e m;lia,by have:=bd e m;lia⟩) (aN s5 ([c].map ah.int)) rc eW (by simp;lia) (by lia);have zX:X=R:=Bp (by lia) rX hR eX;subst zX;have F57:=F6.trans F7;have F47:=F5.trans F57;have TC:=F47 _ _ O.lk;have q7:=ou (ay lX) (ay (F57 _ _ lR5)) (fF 14 X);have c7:=uA TC;have hz:(es.map gX).length<=16777216:=by rw[Vl];have:=O.ln;lia
  have gL:∀x0 x1 x2 x3 x4 x5 x6 x7 x8 x9 x10 x11:Option ah,je 1 [] [x0,x1,x2,x3,x4,x5,x6,x7,x8,x9,x10,x11]=[none]:=fun _ _ _ _ _ _ _ _ _ _ _ _=>rfl;have F8:=Fr.app s7 [.lst ((es.map (·.2.1)).map ah.loc)];obtain⟨s9,e9,F9⟩:=xR (p:=p) hp (ls:=es.map (·.2.1)) (Rs:=es.map (·.2.2)) (aN s7 ((es.map (·.2.1)).map ah.loc)) ⟨by rw[Vl,Vl],fun i l X h1 h2=>by
   rw[VG]at h1 h2;cases hE:es[i]? with
   |none=>rw[hE]at h1;cases h1
   |some e=>
    rw[hE]at h1 h2;cases h1;cases h2;exact F8 _ _ (F47 _ _ (re e (Wb hE)))⟩ (fun X m=>by
   obtain⟨e,me,rfl⟩:=Wc.mp m;exact⟨(pr.mn _ (mm e me)).1,by have:=bd e me;lia,pr.sq (e.1,e.2.2) (mm e me)⟩) (by
   have:=pr.c2;unfold kr at this;rw[WI]at this;exact WI.mpr this) (by rw[Vl];have:=O.ln;lia)
  have G4:=F47.trans (F8.trans F9);have f12:=F3.len;have l2:s2.length=s1.length+1:=by rw[jq,Vn];rfl
  have zR:=bf lR;obtain⟨s',e'⟩:=ON (x0:=some (.loc 0)) (x5:=some (.loc kX)) (x6:=y6) (x7:=y7) (x8:=none) (x9:=none) (x10:=none) (x11:=none) (b0:=s3.length) hp hR he bR ht pr O.up O.ln (G4 _ _ (O.fr _ _ (F3 _ _ J4))) (G4 _ _ (O.fr _ _ (F3 _ _ Lz))) (G4 _ _ O.lk) (fun e m=>⟨(O.re e m).1,(O.re e m).2.1,G4 _ _ (re e m)⟩) O.nd (by lia) (by lia) O.fk hc;have w7:fM (g_ (af bN eg b!)) (aI 6) OE [qL 0, qI p, qL kR, qL kH, some (.tup [.int c,.loc kl]), qL s5.length, qn, qn, qn, qn, qn, qn] (s5++[aq [c]])=.nx [qL 0, qI p, qL kR, qL kH, some (.tup [.int c,.loc kl]), qL kX, y6, y7, qn, qn, qn, qn] s7:=by have wk:=cP (ay (F6 _ _ (F5 _ _ O.lk)));generalize OE=BO at e7⊢;simp only[ao,aD,ax,aM,aw,f7,bc,d9,eu,dZ,aK,bz Ab,wk];exact e7
  refine⟨s',?_⟩;have w8:zI=aC (fM (g_ (af bN eg b!)) (aI 6) OE) uu:=rfl;generalize fM (g_ (af bN eg b!)) (aI 6) OE=LP at w7 w8;simp only[CO,uz,uw,uv,zL,zK,zJ,w8,uu,bI,ao,aD,aW,bt,ax,aM,aw,fQ,gm,aH,av,eJ,bJ,bM,gN,ft,bc,aR,aQ,gk,fe,aG,au,c8,aA,fo,ip,aT,bp,bj,bo,dO,eu,m_,aP,dZ,a9,aK,Vr,VH,VB,Vu,Vy,Vt,Vo,Vs,Nat.reduceSub,Vk,Vq,Nat.reduceAdd,Wd,Vv,Nat.reduceLeDiff,↓reduceIte,e0,e1,e2,c3,<-xB,q,e4,e5,bz vd,bz Ab,gx,i5,q5,hn6,w7,q7,cP (ay TC),gL,VD hz,c7,e9,e']
end Ef
namespace Ef
open PySem.Spec L2 MN
open PyProof.Rows hiding St
def top(i:Nat):Stmt:=PySem.Challenge.pw_polyring_k18_whole_parts.main.body.getD i (.Pass ⟨0,0,0,0⟩)
structure Txt(P:Z6)(w:World)(K:ZW)(mg:ZU)(base:Heap):Prop where
 gl:MgK K mg
 b:Kd mg ["abs","all","bool","enumerate","int","isinstance","len","list","max","range","sorted","tuple","zip"]
 c:Ke K mg ["NoRing","NoPrime","NoInverse","NoMeet","NoParts"]
 zP:Glob K mg "MOST_RING" (.int 997)
 uB:Glob K mg "FIRST_PRIMES" PM.gz
 sub:ik K mg tab
 qx:xf K mg Ef.kn
theorem Ks{X:Cx}{E:XK}{e:Expr}{m:ME}{i:Nat}{x:Str}{pos pos':Pos}(hN:X.N.Nodup)(he:PE X e (tE X E m))(hi:X.N[i]?=some x:=by rfl)(hx:Loc X.env.scope x:=by first|exact Or.inl rfl|exact Or.inr rfl)(hs:swapsWith e (some (.Name x pos')) pos.line X.env=pure false:=by rfl)(hf:X.fn x=true\/X.env.scope.names.lookup x=some .local:=by first|exact .inl rfl|exact .inr rfl|assumption):PS X (.Assign [.Name x pos'] e pos) (tS X E (aO i m)):=Nh i hN he hi hx hs hf
section
variable{P:Z6}{w:World}{K:ZW}{mg:ZU}{base:Heap}(T:Txt P w K mg base)
theorem uC:gY ["_law_script","_law_prime","_law_row","_law_handed","_law_found","_law_built","_law_pair","_law_turn","_law_kept","_law_proof","_law_rows","_law_held"] ["_law_script"] (a_ (top 55)):=dI
seal L2.PE L2.PT L2.PA L2.PS L2.kx L2.PG L2.Ac L2.PI L2.zZ L2.HN L2.Dh L2.PH
set_option hygiene false
local macro_rules|`(tactic|trivial)=>`(tactic|repeat' first|((with_reducible show PA _ (_::_) _);refine rW ?_ ?_)|with_reducible exact wX|((with_reducible show PE _ (.Name ..) _);first|exact Fs _|exact BV (by rfl) T.zP|exact BV (by rfl) T.uB)|((with_reducible show PE _ (.Constant ..) _);first|exact M7|exact QH|exact Ft|exact M8)|((with_reducible show PE _ _ (tG _ _ _ (ai yK _)));refine jA (Dw hr.hd) (by rfl) (i? T.b (by decide +kernel)) Y8 ?_)|((with_reducible show PE _ _ (tG _ _ _ (ai yJ _)));refine jA Dt (by rfl) (i? T.b (by decide +kernel)) PyProof.Rows.boot_abs ?_)|((with_reducible show PE _ _ (tG _ _ _ (ai bx _)));refine jA Ds (by rfl) (i? T.b (by decide +kernel)) boot_len ?_)|((with_reducible show PE _ _ (tG _ _ _ (ai gy _)));refine pk Dv (by rfl) (i? T.b (by decide +kernel)) YZ ?_)|((with_reducible show PE _ _ (tG _ _ _ (ai DJ _)));refine pk DM (by rfl) (i? T.b (by decide +kernel)) PyProof.Rows.Boot.«int» ?_)|((with_reducible show PE _ _ (tG _ _ _ (ai AG _)));refine pk Du (by rfl) (i? T.b (by decide +kernel)) YU ?_)|((with_reducible show PE _ _ (tG _ _ _ (ai AY _)));refine jA (DK hr.hd) (by rfl) (i? T.b (by decide +kernel)) PyProof.Rows.Boot.«max» ?_)|((with_reducible show PE _ _ (tG _ _ _ (ai oF _)));refine jA (zu hr.hd) (by rfl) (i? T.b (by decide +kernel)) PyProof.Rows.Boot.«sorted» ?_)|((with_reducible show PE _ _ (tG _ _ _ (ai _ _)));refine QX (by assumption) hr (by decide) (by rfl) (by first|exact Fg|exact QS) ?_)|((with_reducible show PE _ _ (tG _ _ _ (af bN _ _)));refine NF ?_ ?_)|((with_reducible show PE _ _ (tG _ _ _ (af qp _ _)));refine Jy hr.units ?_ ?_)|((with_reducible show PE _ _ (tG _ _ _ (Az _ _)));refine M! ?_ ?_)|((with_reducible show PE _ _ (tG _ _ _ (QI _ _)));refine QK ?_ ?_)|((with_reducible show PE _ _ (tG _ _ _ (QJ _ _ _)));refine QM ?_ ?_ ?_)|((with_reducible show PE _ _ (tG _ _ _ (jt _)));refine Nf ?_)|((with_reducible show PE _ _ (tG _ _ _ (dA _)));refine Fy ?_)|((with_reducible show PE _ _ (tG _ _ _ (O7 _ _ _)));refine QY ?_ ?_ ?_)|((with_reducible show PE _ _ (tG _ _ _ (su _ _)));refine D7 ?_ ?_)|((with_reducible show PE _ _ (tG _ _ _ (w?)));refine Ge)|((with_reducible show PE _ (.BinOp ..) _);first|refine Om ?_ ?_|refine Ol ?_ ?_|refine Oh ?_ ?_|refine Oi ?_ ?_|refine Oj ?_ ?_|refine Oo ?_ ?_)|((with_reducible show PE _ (.Compare ..) _);first|refine RM hr.units ?_ ?_|refine RN hr.units ?_ ?_|refine jU AB ?_ ?_|refine jU AD ?_ ?_|refine jU FI ?_ ?_|refine jU FQ ?_ ?_|refine jU AF ?_ ?_|refine jU vO ?_ ?_)|((with_reducible show PE _ (.UnaryOp ..) _);first|refine Ni ?_|refine M? ?_)|((with_reducible show PE _ (.Call (.Attribute ..) ..) _);first|refine DN ?_ ?_|refine JI ?_)|((with_reducible show PE _ _ (tG _ _ _ (Dx _ _)));first|refine wZ FV (by rfl) (i? T.b (by decide +kernel)) (by rfl) (i? T.b (by decide +kernel)) PyProof.Rows.boot_int ?_|refine wZ Dy (by rfl) (i? T.b (by decide +kernel)) (by rfl) (i? T.b (by decide +kernel)) PyProof.Rows.boot_bool ?_|refine wZ AK (by rfl) (i? T.b (by decide +kernel)) (by rfl) (i? T.b (by decide +kernel)) YU ?_|refine wZ DA (by rfl) (i? T.b (by decide +kernel)) (by rfl) (i? T.b (by decide +kernel)) YZ ?_)|((with_reducible show kx _ [_] _);refine AA ?_)|((with_reducible show kx _ (_::_) _);refine wY ?_ ?_)|with_reducible exact Ng|((with_reducible show PS _ (.Assign [.Name ..] ..) _);refine Ks (by assumption) ?_)|((with_reducible show PS _ (.Assign [.Subscript ..] ..) _);first|refine Jz hr.units ?_ ?_ ?_|refine JE ?_ ?_ ?_)|((with_reducible show PS _ (.Return ..) _);refine FA ?_)|((with_reducible show PS _ (.If ..) _);refine QO ?_ ?_ ?_)|((with_reducible show PS _ (.Expr ..) _);refine Jg ?_)|((with_reducible show PS _ (.While ..) _);refine FZ yO ?_ ?_)|((with_reducible show PS _ (.For ..) _);refine Nu yO rfl ?_ ?_ ?_)|((with_reducible show PS _ (.Raise ..) _);refine DF AR rfl (R6 T.c (by decide +kernel)) (by rfl) ?_)|((with_reducible show PI _ _ _ (tG _ _ _ (g_ _)));refine Nr ?_)|((with_reducible show PI _ _ (.Call ..) _);first|refine DB (by rfl) (i? T.b (by decide +kernel)) ?_|refine DC (by rfl) (i? T.b (by decide +kernel)) ?_|refine JG (by rfl) (i? T.b (by decide +kernel)) ?_|refine Nt _ _ (by rfl) (i? T.b (by decide +kernel)) ?_|refine JH (by rfl) (i? T.b (by decide +kernel)) ?_)|((with_reducible show PG _ (.Name ..) _);exact Jq _ (by assumption))|((with_reducible show PG _ (.Tuple ..) _);refine Nn rfl ?_)|((with_reducible show Ac _ (_::_) _);refine FW ?_ ?_)|with_reducible exact Jr|((with_reducible show zZ _ [] _);exact Js)|((with_reducible show zZ _ [_] _);refine Jt ?_)|((with_reducible show PT _ (.Compare ..) _);first|refine RK hr.units ?_ ?_|refine RL hr.units ?_ ?_|refine RI ?_ ?_|refine RJ ?_ ?_|refine kT AD ?_ ?_|refine kT FQ ?_ ?_|refine kT AF ?_ ?_|refine kT vO ?_ ?_)|((with_reducible show PT _ (.UnaryOp ..) _);refine Nc ?_)|((with_reducible show PT _ (.BoolOp ..) _);refine U6 ?_)|((with_reducible show PT _ _ (tG _ _ _ (b8 _)));refine M9 ?_)|refine JB ?_|exact JA|refine QL ?_ ?_|refine Na ?_|refine Nb ?_ ?_|refine Je ?_|refine M_ ?_|((with_reducible show kx _ _ _);first|refine AA ?_|refine wY ?_ ?_))
include T
theorem zQ(F:dQ K "is_whole" (top 10)):FnAt P w K mg base "is_whole" 1 PM.jD:=
 FnAt.iO F T.gl (dI (N:=["thing"]) (P:=["thing"])) (fun _ _ _ _ s _ _ nd hr=>by
 trivial)
variable(Br:FnAt P w K mg base "is_whole" 1 PM.jD)
theorem nI(F:dQ K "is_prime_within" (top 11)):FnAt P w K mg base "is_prime_within" 1 PM.bZ:=
 FnAt.iO F T.gl (dI (N:=["number"]) (P:=["number"])) (fun _ _ _ _ s _ _ nd hr=>by
 have:(["prime","number"]:Z1).Nodup:=by decide +kernel
 trivial
 .refine gg (N:=["prime","number"]) (k:=1) rfl rfl (hJ (cl:=[("number",s.heap.objs.size+1)])) ?_ (fun _ _ _ _=>?_) (fun _ _ _ _=>?_) (fun _ _ _ _=>?_)<;>trivial)
variable(oJ:FnAt P w K mg base "is_prime_within" 1 PM.bZ)
theorem uD(F:dQ K "signed_unit" (top 15)):FnAt P w K mg base "signed_unit" 1 PM.fD:=
 FnAt.iO F T.gl (dI (N:=["number"]) (P:=["number"])) (fun _ _ _ _ s _ _ nd hr=>by
 trivial)
variable(vi:FnAt P w K mg base "signed_unit" 1 PM.fD)
theorem pW(F:dQ K "whole_inverse" (top 18)):FnAt P w K mg base "whole_inverse" 1 PM.jv:=
 FnAt.iO F T.gl (dI (N:=["number"]) (P:=["number"])) (fun _ _ _ _ s _ _ nd hr=>by
 trivial)
variable(qT:FnAt P w K mg base "whole_inverse" 1 PM.jv)
theorem qV(F:dQ K "row_of_rests" (top 20)):FnAt P w K mg base "row_of_rests" 1 PM.c9:=
 FnAt.iO F T.gl (dI (N:=["prime","numbers","row"]) (P:=["prime","numbers"])) (fun _ _ _ _ s _ _ nd hr=>by
 have:(["number","prime"]:Z1).Nodup:=by decide +kernel
 trivial
 .refine MN.gR 2 (N:=["number","prime"]) (k:=1) nd rfl rfl (hJ (cl:=[("prime",s.heap.objs.size+1)])) ?_ (fun _ _ _ _=>?_) (fun _ _ _ _=>?_) (fun _ _ _ _=>?_)<;>trivial)
variable(fK:FnAt P w K mg base "row_of_rests" 1 PM.c9)
theorem qW(F:dQ K "with_noughts" (top 22)):FnAt P w K mg base "with_noughts" 1 PM.fO:=
 FnAt.iO F T.gl (dI (N:=["row","length"]) (P:=["row","length"])) (fun _ _ _ _ s _ _ nd hr=>by
 trivial)
variable(uE:FnAt P w K mg base "with_noughts" 1 PM.fO)
theorem qX(F:dQ K "_law_cell_at" (top 40)):FnAt P w K mg base "_law_cell_at" 1 PM.aZ:=
 FnAt.iO F T.gl (dI (N:=["_law_script","_law_k","_law_cell","_law_one","_law_two"]) (P:=["_law_script","_law_k"])) (fun _ _ _ _ s _ _ nd hr=>by
 trivial)
variable(lN:FnAt P w K mg base "_law_cell_at" 1 PM.aZ)
theorem vj(F:dQ K "_law_whole" (top 41)):FnAt P w K mg base "_law_whole" 1 PM.gr:=
 FnAt.iO F T.gl (dI (N:=["_law_found"]) (P:=["_law_found"])) (fun _ _ _ _ s _ _ nd hr=>by
 trivial)
variable(oK:FnAt P w K mg base "_law_whole" 1 PM.gr)
theorem pX(F:dQ K "_law_prime_by" (top 42)):FnAt P w K mg base "_law_prime_by" 1 PM.gA:=
 FnAt.iO F T.gl (dI (N:=["_law_cell","_law_number"]) (P:=["_law_cell"])) (fun _ _ _ _ s _ _ nd hr=>by
 have:(["_law_k","_law_number"]:Z1).Nodup:=by decide +kernel
 trivial
 .refine gg (N:=["_law_k","_law_number"]) (k:=1) rfl rfl (hJ (cl:=[("_law_number",s.heap.objs.size+1)])) ?_ (fun _ _ _ _=>?_) (fun _ _ _ _=>?_) (fun _ _ _ _=>?_)<;>trivial)
variable(qY:FnAt P w K mg base "_law_prime_by" 1 PM.gA)
theorem zS(F:dQ K "_law_cut" (top 43)):FnAt P w K mg base "_law_cut" 1 PM.gB:=
 FnAt.iO F T.gl (dI (N:=["_law_numbers","_law_many"]) (P:=["_law_numbers"])) (fun _ _ _ _ s _ _ nd hr=>by
 trivial)
variable(ja:FnAt P w K mg base "_law_cut" 1 PM.gB)
theorem zT(F:dQ K "_law_own" (top 54)):FnAt P w K mg base "_law_own" 1 PM.n?:=
 FnAt.iO F T.gl (dI (N:=["_law_rows","_law_kept","_law_k","_law_j"]) (P:=["_law_rows"])) (fun _ _ _ _ s _ _ nd hr=>by
 have:(["_law_row"]:Z1).Nodup:=by decide +kernel
 trivial
 .refine MN.gR 1 (N:=["_law_row"]) (k:=1) nd rfl rfl (hJ (cl:=[])) ?_ (fun _ _ _ _=>?_) (fun _ _ _ _=>?_) (fun _ _ _ _=>?_)<;>trivial)
variable(Bs:FnAt P w K mg base "_law_own" 1 PM.n?)
include Br oJ in
theorem Bt(F:dQ K "is_ring" (top 12)):FnAt P w K mg base "is_ring" 2 PM.iL:=
 FnAt.iO F T.gl (dI (N:=["thing"]) (P:=["thing"])) (fun _ _ _ _ s _ _ nd hr=>by
 trivial)
variable(wx:FnAt P w K mg base "is_ring" 2 PM.iL)
include vi in
theorem Eh(F:dQ K "shared" (top 16)):FnAt P w K mg base "shared" 2 PM.shared:=
 FnAt.iO F T.gl (dI (N:=["one","other","upper","lower","often","following"]) (P:=["one","other"])) (fun _ _ _ _ s _ _ nd hr=>by
 have:(["high","low","often"]:Z1).Nodup:=by decide +kernel
 trivial
 .refine gg (N:=["high","low","often"]) (k:=2) rfl rfl (hJ (cl:=[("often",s.heap.objs.size+1)])) ?_ (fun _ _ _ _=>?_) (fun _ _ _ _=>?_) (fun _ _ _ _=>?_)<;>trivial)
variable(HD:FnAt P w K mg base "shared" 2 PM.shared)
include fK uE in
theorem lO(F:dQ K "row_with_multiple" (top 21)):FnAt P w K mg base "row_with_multiple" 2 PM.cO:=
 FnAt.iO F T.gl (dI (N:=["prime","ones","others","factor","length","longer"]) (P:=["prime","ones","others","factor"])) (fun _ _ _ _ s _ _ nd hr=>by
 have:(["one","other","factor"]:Z1).Nodup:=by decide +kernel
 trivial
 .refine gg (N:=["one","other","factor"]) (k:=2) rfl rfl (hJ (cl:=[("factor",s.heap.objs.size+1)])) ?_ (fun _ _ _ _=>?_) (fun _ _ _ _=>?_) (fun _ _ _ _=>?_)<;>trivial) (fun _ _ _ _ _ _=>Q3 fun _ _ _ _=>rfl)
variable(mT:FnAt P w K mg base "row_with_multiple" 2 PM.cO)
include fK in
theorem uF(F:dQ K "row_product" (top 23)):FnAt P w K mg base "row_product" 2 PM.dY:=
 FnAt.iO F T.gl (dI (N:=["prime","ones","others","numbers","power","number","more","other"]) (P:=["prime","ones","others"])) (fun _ _ _ _ s _ _ nd hr=>by
 trivial
 .refine B7 B6 ?_ ?_ ?_<;>trivial)
variable(vk:FnAt P w K mg base "row_product" 2 PM.dY)
include fK in
theorem qZ(F:dQ K "row_multiple" (top 24)):FnAt P w K mg base "row_multiple" 2 PM.dB:=
 FnAt.iO F T.gl (dI (N:=["prime","row","factor"]) (P:=["prime","row","factor"])) (fun _ _ _ _ s _ _ nd hr=>by
 have:(["number","factor"]:Z1).Nodup:=by decide +kernel
 trivial
 .refine gg (N:=["number","factor"]) (k:=1) rfl rfl (hJ (cl:=[("factor",s.heap.objs.size+1)])) ?_ (fun _ _ _ _=>?_) (fun _ _ _ _=>?_) (fun _ _ _ _=>?_)<;>trivial)
variable(lT:FnAt P w K mg base "row_multiple" 2 PM.dB)
include fK in
theorem q8(F:dQ K "slope_of_row" (top 25)):FnAt P w K mg base "slope_of_row" 2 PM.e?:=
 FnAt.iO F T.gl (dI (N:=["prime","row"]) (P:=["prime","row"])) (fun _ _ _ _ s _ _ nd hr=>by
 have:(["power","row"]:Z1).Nodup:=by decide +kernel
 trivial
 .refine gg (N:=["power","row"]) (k:=1) rfl rfl (hJ (cl:=[("row",s.heap.objs.size+1)])) ?_ (fun _ _ _ _=>?_) (fun _ _ _ _=>?_) (fun _ _ _ _=>?_)<;>trivial)
variable(lW:FnAt P w K mg base "slope_of_row" 2 PM.e?)
include ja in
theorem vm(F:dQ K "_law_drawn" (top 44)):FnAt P w K mg base "_law_drawn" 2 PM.iM:=
 FnAt.iO F T.gl (dI (N:=["_law_prime","_law_cell","_law_size","_law_numbers","_law_k","_law_mixed"]) (P:=["_law_prime","_law_cell","_law_size"])) (fun _ _ _ _ s _ _ nd hr=>by
 trivial)
variable(xS:FnAt P w K mg base "_law_drawn" 2 PM.iM)
include oK in
theorem uG(F:dQ K "_law_is_row" (top 45)):FnAt P w K mg base "_law_is_row" 2 PM.fb:=
 FnAt.iO F T.gl (dI (N:=["_law_prime","_law_found","_law_number"]) (P:=["_law_prime","_law_found"])) (fun _ _ _ _ s _ _ nd hr=>by
 trivial
 .refine Fu FE AD AB ?_ ?_ ?_<;>trivial)
variable(ni:FnAt P w K mg base "_law_is_row" 2 PM.fb)
include ja in
theorem vn(F:dQ K "_law_times" (top 46)):FnAt P w K mg base "_law_times" 2 PM.dj:=
 FnAt.iO F T.gl (dI (N:=["_law_prime","_law_ones","_law_others","_law_found","_law_at","_law_beside","_law_more"]) (P:=["_law_prime","_law_ones","_law_others"])) (fun _ _ _ _ s _ _ nd hr=>by
 trivial)
variable(j9:FnAt P w K mg base "_law_times" 2 PM.dj)
include ja in
theorem zU(F:dQ K "_law_sum" (top 47)):FnAt P w K mg base "_law_sum" 2 PM.oa:=
 FnAt.iO F T.gl (dI (N:=["_law_prime","_law_ones","_law_others","_law_wide"]) (P:=["_law_prime","_law_ones","_law_others"])) (fun _ _ _ _ s _ _ nd hr=>by
 have:(["_law_one","_law_other","_law_prime"]:Z1).Nodup:=by decide +kernel
 trivial
 .refine gg (N:=["_law_one","_law_other","_law_prime"]) (k:=2) rfl rfl (hJ (cl:=[("_law_prime",s.heap.objs.size+1)])) ?_ (fun _ _ _ _=>?_) (fun _ _ _ _=>?_) (fun _ _ _ _=>?_)<;>trivial)
variable(Bu:FnAt P w K mg base "_law_sum" 2 PM.oa)
include ja in
theorem vo(F:dQ K "_law_slope" (top 48)):FnAt P w K mg base "_law_slope" 2 PM.fj:=
 FnAt.iO F T.gl (dI (N:=["_law_prime","_law_row"]) (P:=["_law_prime","_law_row"])) (fun _ _ _ _ s _ _ nd hr=>by
 have:(["_law_k","_law_prime","_law_row"]:Z1).Nodup:=by decide +kernel
 trivial
 .refine gg (N:=["_law_k","_law_prime","_law_row"]) (k:=1) rfl rfl (Lu (cl:=[("_law_prime",s.heap.objs.size+1),("_law_row",s.heap.objs.size+2)]) (cl':=[("_law_row",s.heap.objs.size+2),("_law_prime",s.heap.objs.size+1)]) (caps':=[1,0])) ?_ (fun _ _ _ _=>?_) (fun _ _ _ _=>?_) (fun _ _ _ _=>?_)<;>trivial)
variable(oM:FnAt P w K mg base "_law_slope" 2 PM.fj)
include wx in
theorem vp(F:dQ K "check_ring" (top 13)):FnAt P w K mg base "check_ring" 3 PM.iU:=
 FnAt.iO F T.gl (dI (N:=["ring"]) (P:=["ring"])) (fun _ _ _ _ s _ _ nd hr=>by
 trivial)
variable(xT:FnAt P w K mg base "check_ring" 3 PM.iU)
include wx in
theorem uH(F:dQ K "check_prime" (top 14)):FnAt P w K mg base "check_prime" 3 PM.dG:=
 FnAt.iO F T.gl (dI (N:=["prime"]) (P:=["prime"])) (fun _ _ _ _ s _ _ nd hr=>by
 trivial)
variable(jy:FnAt P w K mg base "check_prime" 3 PM.dG)
include lN ja xS j9 in
theorem uI(F:dQ K "_law_row_by" (top 49)):FnAt P w K mg base "_law_row_by" 3 PM.i':=
 FnAt.iO F T.gl (dI (N:=["_law_script","_law_prime","_law_row","_law_k","_law_cell","_law_size","_law_part","_law_often","_law_turn"]) (P:=["_law_script","_law_prime"])) (fun _ _ _ _ s _ _ nd hr=>by
 trivial)
variable(vq:FnAt P w K mg base "_law_row_by" 3 PM.i')
include ni j9 Bu in
theorem l6(F:dQ K "_law_comes_to_one" (top 50)):FnAt P w K mg base "_law_comes_to_one" 3 PM.b7:=
 FnAt.iO F T.gl (dI (N:=["_law_prime","_law_pair","_law_ones","_law_others"]) (P:=["_law_prime","_law_pair","_law_ones","_law_others"])) (fun _ _ _ _ s _ _ nd hr=>by
 trivial) (fun _ _ _ _ _ _=>Q3 fun _ _ _ _=>rfl)
variable(iE:FnAt P w K mg base "_law_comes_to_one" 3 PM.b7)
include oK ni in
theorem q_(F:dQ K "_law_is_told" (top 51)):FnAt P w K mg base "_law_is_told" 3 PM.h_:=
 FnAt.iO F T.gl (dI (N:=["_law_prime","_law_found","_law_before","_law_pair"]) (P:=["_law_prime","_law_found"])) (fun _ _ _ _ s _ _ nd hr=>by
 trivial)
variable(uJ:FnAt P w K mg base "_law_is_told" 3 PM.h_)
include qT HD xT in
theorem Bv(F:dQ K "inverse" (top 17)):FnAt P w K mg base "inverse" 4 PM.inverse:=
 FnAt.iO F T.gl (dI (N:=["ring","number"]) (P:=["ring","number"])) (fun _ _ _ _ s _ _ nd hr=>by
 trivial)
variable(pY:FnAt P w K mg base "inverse" 4 PM.inverse)
include fK pY in
theorem Ei(F:dQ K "parted" (top 27)):FnAt P w K mg base "parted" 5 PM.parted:=
 FnAt.iO F T.gl (dI (N:=["prime","row","by","rest","back","steps","numbers","shift","often","power","number"]) (P:=["prime","row","by"])) (fun _ _ _ _ s _ _ nd hr=>by
 trivial
 .refine B7 JF ?_ ?_ ?_<;>trivial)
variable(oN:FnAt P w K mg base "parted" 5 PM.parted)
include lT pY in
theorem oO(F:dQ K "plain_multiple" (top 28)):FnAt P w K mg base "plain_multiple" 5 PM.eR:=
 FnAt.iO F T.gl (dI (N:=["prime","row"]) (P:=["prime","row"])) (fun _ _ _ _ s _ _ nd hr=>by
 trivial)
variable(jJ:FnAt P w K mg base "plain_multiple" 5 PM.eR)
include oN jJ in
theorem q!(F:dQ K "greatest_row" (top 29)):FnAt P w K mg base "greatest_row" 6 PM.d7:=
 FnAt.iO F T.gl (dI (N:=["prime","ones","others","upper","lower","rest"]) (P:=["prime","ones","others"])) (fun _ _ _ _ s _ _ nd hr=>by
 trivial)
variable(uK:FnAt P w K mg base "greatest_row" 6 PM.d7)
include mT vk oN in
theorem q?(F:dQ K "triple_below" (top 32)):FnAt P w K mg base "triple_below" 6 PM.fP:=
 FnAt.iO F T.gl (dI (N:=["prime","upper","lower","pair","taken"]) (P:=["prime","upper","lower"])) (fun _ _ _ _ s _ _ nd hr=>by
 have:(["place","lower","pair","prime"]:Z1).Nodup:=by decide +kernel
 trivial
 .refine MN.gR 4 (N:=["place","lower","pair","prime"]) (k:=1) nd rfl rfl (Lu (cl:=[("lower",s.heap.objs.size+2),("pair",s.heap.objs.size+3),("prime",s.heap.objs.size+1)]) (cl':=[("prime",s.heap.objs.size+1),("pair",s.heap.objs.size+3),("lower",s.heap.objs.size+2)]) (caps':=[0,3,2])) ?_ (fun _ _ _ _=>?_) (fun _ _ _ _=>?_) (fun _ _ _ _=>?_)<;>trivial)
variable(uL:FnAt P w K mg base "triple_below" 6 PM.fP)
include lT pY oN uL in
theorem OO(F:dQ K "met" (top 31)):FnAt P w K mg base "met" 7 PM.met:=
 FnAt.iO F T.gl (dI (N:=["prime","ones","others","upper","lower","following","back","greatest","one_part","other_part"]) (P:=["prime","ones","others"])) (fun _ _ _ _ s _ _ nd hr=>by
 trivial)
variable(LC:FnAt P w K mg base "met" 7 PM.met)
include lW oN uK in
theorem pZ(F:dQ K "parts_by_many" (top 38)):FnAt P w K mg base "parts_by_many" 7 PM.gb:=
 FnAt.iO F T.gl (dI (N:=["prime","row","found","step","left","unseen","seen","many","further","part"]) (P:=["prime","row"])) (fun _ _ _ _ s _ _ nd hr=>by
 trivial
 .refine NH B6 nd ?_<;>trivial)
variable(rh:FnAt P w K mg base "parts_by_many" 7 PM.gb)
include jy LC in
theorem Kt(F:dQ K "meet" (top 30)):FnAt P w K mg base "meet" 8 PM.meet:=
 FnAt.iO F T.gl (dI (N:=["prime","ones","others"]) (P:=["prime","ones","others"])) (fun _ _ _ _ s _ _ nd hr=>by
 trivial)
variable(OP:FnAt P w K mg base "meet" 8 PM.meet)
include lW LC in
theorem rj(F:dQ K "paper_of_row" (top 35)):FnAt P w K mg base "paper_of_row" 8 PM.gH:=
 FnAt.iO F T.gl (dI (N:=["prime","row","found"]) (P:=["prime","row"])) (fun _ _ _ _ s _ _ nd hr=>by
 trivial)
variable(uM:FnAt P w K mg base "paper_of_row" 8 PM.gH)
include jJ rh in
theorem rm(F:dQ K "parts_of_row" (top 37)):FnAt P w K mg base "parts_of_row" 8 PM.fU:=
 FnAt.iO F T.gl (dI (N:=["prime","row","found"]) (P:=["prime","row"])) (fun _ _ _ _ s _ _ nd hr=>by
 have:(["many","found"]:Z1).Nodup:=by decide +kernel
 trivial
 .refine gg (N:=["many","found"]) (k:=1) rfl rfl (hJ (cl:=[("found",s.heap.objs.size+1)])) ?_ (fun _ _ _ _=>?_) (fun _ _ _ _=>?_) (fun _ _ _ _=>?_)<;>trivial)
variable(uN:FnAt P w K mg base "parts_of_row" 8 PM.fU)
include jy uM in
theorem xU(F:dQ K "no_square" (top 34)):FnAt P w K mg base "no_square" 9 PM.gv:=
 FnAt.iO F T.gl (dI (N:=["prime","row"]) (P:=["prime","row"])) (fun _ _ _ _ s _ _ nd hr=>by
 trivial)
variable(qC:FnAt P w K mg base "no_square" 9 PM.gv)
include jy uN in
theorem HE(F:dQ K "parts" (top 36)):FnAt P w K mg base "parts" 9 PM.parts:=
 FnAt.iO F T.gl (dI (N:=["prime","row"]) (P:=["prime","row"])) (fun _ _ _ _ s _ _ nd hr=>by
 trivial)
variable(xV:FnAt P w K mg base "parts" 9 PM.parts)
theorem xW(F:dQ K "is_whole" (top 10)):gf P w K mg base "is_whole" 1 PM.jD:=
 gf.iO F T.gl (dI (N:=["thing"]) (P:=["thing"])) (fun _ _ _ _ s _ nd hr hq=>by
 trivial)
variable(qD:gf P w K mg base "is_whole" 1 PM.jD)
theorem mW(F:dQ K "is_prime_within" (top 11)):gf P w K mg base "is_prime_within" 1 PM.bZ:=
 gf.iO F T.gl (dI (N:=["number"]) (P:=["number"])) (fun _ _ _ _ s _ nd hr hq=>by
 have:(["prime","number"]:Z1).Nodup:=by decide +kernel
 trivial
 .refine jA (Ea hq) (by rfl) (i? T.b (by decide +kernel)) Y8 ?_;refine rW ?_ wX;refine Hw (N:=["prime","number"]) (k:=1) hq rfl (hJ (cl:=[("number",s.heap.objs.size+1)])) ?_ (fun _ _ _ _=>?_) (fun _ _ _ _=>?_) (fun _ _ _ _=>?_)<;>trivial)
variable(jb:gf P w K mg base "is_prime_within" 1 PM.bZ)
include qD jb in
theorem zV(F:dQ K "is_ring" (top 12)):gf P w K mg base "is_ring" 2 PM.iL:=
 gf.iO F T.gl (dI (N:=["thing"]) (P:=["thing"])) (fun _ _ _ _ s _ nd hr hq=>by
 trivial
 .refine pQ qD hr (by decide) (zF hq) (by rfl) ?_<;>trivial
 .refine pQ jb hr (by decide) (zF hq) (by rfl) ?_<;>trivial)
variable(uO:gf P w K mg base "is_ring" 2 PM.iL)
include uO in
theorem rp(F:dQ K "check_prime" (top 14)):gf P w K mg base "check_prime" 3 PM.dG:=
 gf.iO F T.gl (dI (N:=["prime"]) (P:=["prime"])) (fun _ _ _ _ s _ nd hr hq=>by
 trivial
 .refine pQ uO hr (by decide) (zF hq) (by rfl) ?_<;>trivial
 .exact D?)
variable(l7:gf P w K mg base "check_prime" 3 PM.dG)
theorem p4(F:dQ K "paper_of_row" (top 35)):gf P w K mg base "paper_of_row" 1 PM.gJ:=
 gf.iO F T.gl (dI (N:=["prime","row","found"]) (P:=["prime","row"])) (fun _ _ _ _ s _ nd hr hq=>by
 refine wY ?_ Kc;trivial)
variable(ki:gf P w K mg base "paper_of_row" 1 PM.gJ)
include l7 ki in
theorem vt(F:dQ K "no_square" (top 34)):gf P w K mg base "no_square" 4 PM.jo:=
 gf.iO F T.gl (dI (N:=["prime","row"]) (P:=["prime","row"])) (fun _ _ _ _ s _ nd hr hq=>by
 trivial
 .refine pQ l7 hr (by decide) (zF hq) (by rfl) ?_<;>trivial
 .refine pQ ki hr (by decide) (zF hq) (by rfl) ?_<;>trivial)
variable(oP:gf P w K mg base "no_square" 4 PM.jo)
include oM iE OP qC in
theorem vx(F:dQ K "_law_apart" (top 52)):FnAt P w K mg base "_law_apart" 10 PM.gI:=
 FnAt.iO F T.gl (dI (N:=["_law_prime","_law_rows","_law_k","_law_j","_law_five"]) (P:=["_law_prime","_law_rows"])) (fun _ _ _ _ s _ _ nd hr=>by
 trivial)
variable(xX:FnAt P w K mg base "_law_apart" 10 PM.gI)
include xV oP in
theorem p5(F:dQ K "_law_no_parts" (top 53)):FnAt P w K mg base "_law_no_parts" 10 fJ:=
 FnAt.iO F T.gl (dI (N:=["_law_prime"]) (P:=["_law_prime"])) (fun _ _ _ _ s _ _ nd hr=>by
 trivial
 .refine NA T.qx.known ⟨fun _=>rfl,rfl,rfl⟩ ?_ ?_
  .refine Jv ?_
   .refine F! ?_
    .refine NB xV hr (by decide) (by rfl) (fun _=>rfl) (fun _=>?_)<;>trivial
  .refine DG T.sub T.c.2.2.2.2.1 (by rfl) (fun _ _ cx_=>(AA (FA (jU AF (pQ oP (i_.mark hr _) (by decide) (R7 cx_) (by rfl) (rW (Fs 0) (rW (Fy wX) wX))) Ft)))) ?_
   .exact Nz)
variable(rq:FnAt P w K mg base "_law_no_parts" 10 fJ)
include lN qY Bs j9 oM vq iE uJ qC xV xX rq in
theorem OQ{f:Z4}{fd:FuncData}(F:IK K "law" "law" (top 55) f fd):kE P w K mg base (nK P w) 11 f fd ["_law_script"] (Fx ⟨K,mg,[]⟩ CO):=
 FD F uC fun fV A outer s H E hr=>by
 have:=uC.nd;have:(["_law_pair"]:Z1).Nodup:=by decide +kernel
 have:(["_law_one"]:Z1).Nodup:=by decide +kernel
 trivial
 .refine gg (N:=["_law_pair"]) (k:=1) rfl rfl (hJ (cl:=[])) ?_ (fun _ _ _ _=>?_) (fun _ _ _ _=>?_) (fun _ _ _ _=>?_)<;>trivial
 .refine MN.gR 8 (N:=["_law_pair"]) (k:=1) uC.nd rfl rfl (hJ (cl:=[])) ?_ (fun _ _ _ _=>?_) (fun _ _ _ _=>?_) (fun _ _ _ _=>?_)<;>trivial
 .refine gg (N:=["_law_pair"]) (k:=1) rfl rfl (hJ (cl:=[])) ?_ (fun _ _ _ _=>?_) (fun _ _ _ _=>?_) (fun _ _ _ _=>?_)<;>trivial
 .refine MN.gR 10 (N:=["_law_pair"]) (k:=1) uC.nd rfl rfl (hJ (cl:=[])) ?_ (fun _ _ _ _=>?_) (fun _ _ _ _=>?_) (fun _ _ _ _=>?_)<;>trivial
 .refine MN.gR 11 (N:=["_law_one"]) (k:=1) uC.nd rfl rfl (hJ (cl:=[])) ?_ (fun _ _ _ _=>?_) (fun _ _ _ _=>?_) (fun _ _ _ _=>?_)<;>trivial
 .refine gg (N:=["_law_one"]) (k:=1) rfl rfl (hJ (cl:=[])) ?_ (fun _ _ _ _=>?_) (fun _ _ _ _=>?_) (fun _ _ _ _=>?_)<;>trivial
end
theorem all_mk{l:W.OpenLaw}{w:World}{K:ZW}{h:Heap}{mg:ZU}{fa:Z4}(X:K.In h)(G:h.Ns mainGlobals mg)(hfa:mg "law" = some (.ref fa)){f41:Z4}{aat Sf:Option Z4}{aau:Array (ZZ)}{aav Sg Sh Si OR Sj:Z2}{xY:Tok}{kj:Z4}{rA:Option Z4}{rC:Nat}{rD:Array (ZZ)}{p6 p7 p8 p9 p_ p! p? qb qc qd oQ:Tok}(h0:dQ K "is_whole" (top 10))(h1:dQ K "is_prime_within" (top 11))(h2:dQ K "signed_unit" (top 15))(h3:dQ K "whole_inverse" (top 18))(h4:dQ K "row_of_rests" (top 20))(h5:dQ K "with_noughts" (top 22))(h6:dQ K "_law_cell_at" (top 40))(h7:dQ K "_law_whole" (top 41))(h8:dQ K "_law_prime_by" (top 42))(h9:dQ K "_law_cut" (top 43))(h10:dQ K "_law_own" (top 54))(TF:dQ K "is_ring" (top 12))(h12:dQ K "shared" (top 16))(h13:dQ K "row_with_multiple" (top 21))(h14:dQ K "row_product" (top 23))(h15:dQ K "row_multiple" (top 24))(h16:dQ K "slope_of_row" (top 25))(h17:dQ K "_law_drawn" (top 44))(h18:dQ K "_law_is_row" (top 45))(h19:dQ K "_law_times" (top 46))(h20:dQ K "_law_sum" (top 47))(h21:dQ K "_law_slope" (top 48))(h22:dQ K "check_ring" (top 13))(TH:dQ K "check_prime" (top 14))(OI:dQ K "_law_row_by" (top 49))(h25:dQ K "_law_comes_to_one" (top 50))(h26:dQ K "_law_is_told" (top 51))(h27:dQ K "inverse" (top 17))(h28:dQ K "parted" (top 27))(h29:dQ K "plain_multiple" (top 28))(h30:dQ K "greatest_row" (top 29))(h31:dQ K "triple_below" (top 32))(h32:dQ K "met" (top 31))(h33:dQ K "parts_by_many" (top 38))(h34:dQ K "meet" (top 30))(TJ:dQ K "paper_of_row" (top 35))(h36:dQ K "parts_of_row" (top 37))(TK:dQ K "no_square" (top 34))(h38:dQ K "parts" (top 36))(h39:dQ K "_law_apart" (top 52))(h40:dQ K "_law_no_parts" (top 53))(a41:W.nsIn K mainGlobals "law" = some (some (.ref f41)))(l41:K.lookup f41=some ⟨aav,aat,.func (W.fnOf "law" "law" (gZ (top 55)) (e_ (top 55)) (a_ (top 55)) .none Sg Sh Si Sf OR Sj),aau⟩)(c41:W.codeIn K OR "law" = true)(k41:W.keepIn K (.ref f41)=true)(zb:Bg K ["abs","all","bool","enumerate","int","isinstance","len","list","max","range","sorted","tuple","zip"])(zc:Bh K ["NoRing","NoPrime","NoInverse","NoMeet","NoParts"])(j_:W.nsIn K mainGlobals "MOST_RING" = some (some (.int 997 xY)))(iz:W.nsIn K mainGlobals "FIRST_PRIMES" = some (some (.ref kj)))(iA:K.lookup kj=some ⟨.type "tuple",rA,.seq #[.int 2 p6,.int 3 p7,.int 5 p8,.int 7 p9,.int 11 p_,.int 13 p!,.int 17 p?,.int 19 qb,.int 23 qc,.int 29 qd,.int 31 oQ] rC,rD⟩)(zp:qz K R?)(zv:uc K [])(zw:W.nsIn K mainGlobals "ValueError" = some none)(zq:Bi K kn):
  ∃fd:FuncData,(∀(s:Z3)(v:Z2),BindsTo s fd ⟨[v],[]⟩ [("_law_script",v)])/\∀base:Heap,K.In base->base.Ns mainGlobals mg->kE l.prog w K mg base (nK l.prog w) 11 fa fd ["_law_script"] (B4 K):=by
 have e:=hfa.symm.trans (W_ X G a41);cases e;refine⟨W.fnOf "law" "law" (gZ (top 55)) (e_ (top 55)) (a_ (top 55)) .none Sg Sh Si Sf OR Sj,fun s v=>.of_eq rfl,fun base _ _=>?_⟩;have T:Txt l.prog w K mg base:=⟨fun _ _ h=>W_ X G h,zb.get X G,zc.get X G,Glob.int (W_ X G j_),Glob.ints (ns:=[2,3,5,7,11,13,17,19,23,29,31]) (W_ X G iz) iA rfl rfl (by simp[Vv]) (.cons ⟨_,rfl⟩ (.cons ⟨_,rfl⟩ (.cons ⟨_,rfl⟩ (.cons ⟨_,rfl⟩ (.cons ⟨_,rfl⟩ (.cons ⟨_,rfl⟩ (.cons ⟨_,rfl⟩ (.cons ⟨_,rfl⟩ (.cons ⟨_,rfl⟩ (.cons ⟨_,rfl⟩ (.cons ⟨_,rfl⟩ (.nil)))))))))))),zp.get X G (zv.get X G zw),zq.get X G⟩
 have Bw:=zQ T  h0;have oR:=nI T  h1;have vy:=uD T  h2;have rE:=pW T  h3;have fL:=qV T  h4;have uP:=qW T  h5;have l8:=qX T  h6;have oS:=vj T  h7;have rF:=pX T  h8;have jc:=zS T  h9;have Bx:=zT T  h10;have wy:=Bt T Bw oR TF;have HF:=Eh T vy h12;have mX:=lO T fL uP h13;have vz:=uF T fL h14;have l9:=qZ T fL h15;have l_:=q8 T fL h16;have xZ:=vm T jc h17;have nj:=uG T oS h18;have j!:=vn T jc h19;have By:=zU T jc h20;have oU:=vo T jc h21;have x_:=vp T wy h22;have jz:=uH T wy TH;have vA:=uI T l8 jc xZ j! OI;have iF:=l6 T nj j! By h25;have uQ:=q_ T oS nj h26;have qe:=Bv T rE HF x_ h27;have oV:=Ei T fL qe h28;have jK:=oO T l9 qe h29;have uR:=q! T oV jK h30;have uS:=q? T mX vz oV h31;have LD:=OO T l9 qe oV uS h32;have rH:=pZ T l_ oV uR h33;have OS:=Kt T jz LD h34;have uT:=rj T l_ LD TJ;have uU:=rm T jK rH h36;have qE:=xU T jz uT TK;have CQ:=HE T jz uU h38;have x!:=vx T oU iF OS qE h39;have Bz:=zV T (xW T h0) (mW T h1) TF;have x?:=vt T (rp T Bz TH) (p4 T TJ) TK;have rK:=p5 T CQ x? h40;exact(OQ T l8 rF Bx j! oU vA iF uQ qE CQ x! rK (EU (st:=top 55) l41 c41 k41)).imp fun _ _ _ _ h=>ND HC h
end Ef
namespace PySem.W.Fast
def tw4720297621897389147:=()
def tw9510597114204276419:=()
def tw3986852603425208416:=()
def tw11151200387818818892:=()
def tw3215211146694673470:=()
def tw17431794867284604405:=()
def tw8200273652706655842:=()
def tw684861331062188126:=()
def tw4291079703104411684:=()
def tw5605397386169558864:=()
def tw18220282743890317942:=()
def tw14921945042854953757:=()
def tw16128914524776519265:=()
def tw4965927202122205161:=()
def tw18067175808958602663:=()
def tw1980214920059735749:=()
def tw1959740868379306395:=()
def tw15113234384051389192:=()
def tw2985841826701792841:=()
def tw8955116212578243318:=()
def tw14119918172729710912:=()
def tw11524832433142550183:=()
def tw3143631843431664974:=()
def tw15140853593889375385:=()
def tw3339574639508893742:=()
def tw14590249263129575843:=()
def tw8457766882488731815:=()
def tw284812937931864327:=()
def tw5216761090062294518:=()
def tw5042442096383150982:=()
def tw9800271661044562137:=()
def tw7039767977586352696:=()
def tw10215781205003422968:=()
def tw8904108652321635855:=()
def tw8984423164823797338:=()
end PySem.W.Fast
open PySem.W PyProof.Rows
set_option maxRecDepth 100000 in
set_option maxHeartbeats 0 in
theorem PySem.Challenge.cw_polyring_k18_whole_parts_holds : PySem.Challenge.rw_polyring_k18_whole_parts.Holds := by
 w_on;o_law;k_head;(case hw=>w_witness2)
 k_fill
 refine MN.Gb (l:=PySem.Challenge.rw_polyring_k18_whole_parts) (k:=11) (x:="_law_script") rfl rfl ⟨rfl,by decide,by decide⟩ (fun w h Y=>PySem.W.kIn_of Y) ?F
 case F=>
  intro w mg fa h KX G Qh;refine' Ef.all_mk KX G Qh ?h0 ?h1 ?h2 ?h3 ?h4 ?h5 ?h6 ?h7 ?h8 ?h9 ?h10 ?TF ?h12 ?h13 ?h14 ?h15 ?h16 ?h17 ?h18 ?h19 ?h20 ?h21 ?h22 ?TH ?OI ?h25 ?h26 ?h27 ?h28 ?h29 ?h30 ?h31 ?h32 ?h33 ?h34 ?TJ ?h36 ?TK ?h38 ?h39 ?h40 ?a41 ?l41 ?c41 ?k41 ?zb ?zc ?j_ ?iz ?iA ?zp ?zv ?zw ?zq
  (case h0|h1|h2|h3|h4|h5|h6|h7|h8|h9|h10|TF|h12|h13|h14|h15|h16|h17|h18|h19|h20|h21|h22|TH|OI|h25|h26|h27|h28|h29|h30|h31|h32|h33|h34|TJ|h36|TK|h38|h39|h40=>refine' MN.dQ.mk ?a ?l ?c ?k;(case a=>k_is);(case l=>k_is);(case c=>k_is);(case k=>k_is);skip)
  (case a41=>k_is)
  (case l41=>k_is)
  (case c41=>k_is)
  (case k41=>k_is)
  case zb=>
   repeat (refine' MN.Bg.cons ?a ?_;(case a=>k_is);skip)
   exact .nil
  case zc=>
   repeat (refine' MN.Bh.cons ?a ?e ?s ?_;(case a=>k_is);(case e=>k_exc);(case s=>k_is);skip)
   exact .nil
  (case j_=>k_is)
  (case iz=>k_is)
  (case iA=>k_is)
  case zp=>
   repeat (refine' MN.qz.cons ?a ?b ?c ?d ?e ?_;(case a=>k_is);(case b=>k_is);(case c=>k_is);(case d=>k_is);(case e=>first|k_is|kit_is);skip)
   exact .nil
  case zv=>
   repeat (refine' MN.uc.cons ?a ?e ?_;(case a=>k_is);(case e=>first|k_is|kit_is);skip)
   exact .nil
  (case zw=>k_is)
  case zq=>
   repeat (refine' MN.Bi.cons ?a ?e ?_;(case a=>k_is);(case e=>first|k_is|kit_is|rfl|decide +kernel);skip)
   exact .nil
