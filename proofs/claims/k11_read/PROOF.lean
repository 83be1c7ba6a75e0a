import PyProof.Rows.All
import Wide.All
import OpenK.AllK
import PySem.Challenge.RW_polyring_k11_read
set_option Elab.async false
set_option linter.all false
set_option maxRecDepth 100000
set_option maxHeartbeats 4000000
set_option compiler.extract_closed false
set_option genSizeOf false
-- Tw: aam aah module here,as Ec last of aai rows
open PySem
noncomputable section
abbrev _i:=Value->Shared->Prop
abbrev _j:=Str->Option Value
abbrev _k:=List (Addr×Obj)
abbrev _l:=W.Frag
abbrev _m:=List Int
abbrev _n:=List Value
abbrev _o:=Option Value
abbrev _p:=List Addr
abbrev _q:=List Str
abbrev _r:=Value
abbrev _s:=Shared
abbrev _t:=Addr
abbrev _u:=Around
abbrev _v:=Program
variable {κ α β:Type}
variable {a it C dx f l fa z i1 i2 l1 l2 ea c':Addr}
variable {o e tg iter value elt e₀:Expr}
variable {P:Program}
variable {h h':Heap}
variable {ai NH:List (Addr×Obj)}
variable {s s' s₀:Shared}
variable {t' i n q k1 k2 kt d ep af:Nat}
variable {ch fp ρ ρ':List Addr}
variable {j r:Int}
variable {Q EE:Value->Shared->Prop}
variable {pos pos' p um apos p2 b8 zZ tp np q1 q2:Pos}
variable {rest hs:List ExceptHandler}
variable {es ifs elts:List Expr}
variable {vs aM:List Value}
variable {lo:Option Expr}
variable {op:CmpOp}
variable {mA:Str->Option Value}
variable {name y:Str}
variable {ks:List (_m)}
variable {sc:Scope}
variable {doc pm iw oc cls:Value}
variable {an od:Option Addr}
variable {Il:Array (Option Value)}
variable {items xs ys:Array Value}
variable {loose:List Str}
variable {YP:World->Heap->Prop}
variable {caps:List Nat}
variable {tn:Nat->Heap->Prop}
variable {b1 b2:Bool}
variable {newId:String}
variable {B:Around}
variable {h₀:ExceptHandler}
variable {oe:Obj}
variable {b₀:Stmt}
variable {gj:List Stmt}
def Vn:=@wpAny_bind
def Vo.{u}:=@List.length_cons.{u}
def Vp.{u,v}:=@List.map_cons.{u,v}
def Vq.{u}:=@List.mem_cons_of_mem.{u}
def Vr:=@Heap.get?_push_of_some
def Vs.{u}:=@if_pos.{u}
def Vt.{u,v}:=@List.length_map.{u,v}
def Vu.{u}:=@List.mem_cons_self.{u}
def Vv:=@Nat.le_refl
def Vx.{u}:=@if_neg.{u}
def Vy.{u}:=@List.append_assoc.{u}
def Vz.{u}:=@List.length_append.{u}
def VA:=@decide_eq_true
def VB:=@wpAny_pure
def VC:=@Bool.false_ne_true
def VD.{u}:=@List.getElem?_eq_getElem.{u}
def VE:=@decide_eq_false
def VF.{u}:=@List.replicate_zero.{u}
def VG.{u}:=@List.nil_append.{u}
def VH.{u}:=@List.cons_append.{u}
def VI.{u}:=@List.length_nil.{u}
def VJ.{u}:=@List.mem_cons.{u}
def VL:=@Heap.lt_size
def VM.{u}:=@List.size_toArray.{u}
def VN:=@sizeLine_eq
def VO.{u,v}:=@List.map_nil.{u,v}
def VP.{u}:=@List.getElem?_eq_some_iff.{u}
def VQ:=@Nat.lt_of_lt_of_le
def VR:=@Heap.get?_push_size
def VS.{u}:=@List.getElem?_append_right.{u}
def VT.{u}:=@List.replicate_succ.{u}
def VU:=@Nat.zero_le
def VV.{u,v}:=@List.getElem?_map.{u,v}
def VW.{u}:=@List.append_nil.{u}
def VX:=@Nat.le_trans
def VY.{u}:=@List.getElem?_set_self.{u}
def VZ.{u}:=@List.mem_singleton.{u}
def V0.{u,v}:=@List.mem_map.{u,v}
def V1.{u}:=@List.set_cons_zero.{u}
def V2.{u}:=@List.mem_append_right.{u}
def V3.{u}:=@List.length_replicate.{u}
def V4:=@Bool.and_eq_true
def V5.{u}:=@Array.length_toList.{u}
def V6.{u}:=@List.getElem?_set_ne.{u}
def V7:=@Nat.ne_of_lt
def V8.{u}:=@List.getElem?_eq_none.{u}
def V9:=@List.length_range
def V_:=@Nat.zero_add
def V!.{u}:=@Option.some.inj.{u}
def V?.{u}:=@List.set_cons_succ.{u}
def V'.{u}:=@List.getElem?_append_left.{u}
def Wa.{u}:=@List.all_eq_true.{u}
def Wb.{u}:=@List.take_of_length_le.{u}
def Wc:=@Nat.lt_irrefl
def Wd.{u,v,w}:=@List.map_map.{u,v,w}
def We.{u}:=@List.mem_append.{u}
def Wf:=@Nat.pow_le_pow_right
def Wg:=@wpAny_mono
def Wh.{u,v}:=@List.map_append.{u,v}
def Wi:=@wpAny_field
def Wj:=@of_decide_eq_true
def Wk:=@wpAny_callSpecial?_slot
def Wl:=@F.slot_tuple_iterator_next
def Wm.{u}:=@List.length_set.{u}
def Wn.{u}:=@beq_self_eq_true.{u}
def Wq.{u}:=@List.length_take.{u}
def Ws.{u}:=@List.getElem_mem.{u}
def Wt:=@wpAny_newObj_type
def Wu.{u}:=@List.flatten_cons.{u}
def Wv.{u}:=@List.count_append.{u}
def Ww:=@W.mg_of
def Wx:=@Heap.get?_update_other
def Wy:=@Nat.sub_self
def Wz:=@PyProof.Rows.toString_length_le
def WA:=@W.kia_one
def WB.{u,v}:=@List.map_congr_left.{u,v}
def WC:=@Nat.lt_or_ge
def WD.{u}:=@beq_false_of_ne.{u}
def WE:=@F.slot_dict_keyiterator_next
def WG.{u}:=@List.length_singleton.{u}
def WH.{u}:=@List.eq_of_mem_replicate.{u}
def WI:=@wpAny_call_entry
def WJ:=@Int.fmod_eq_emod_of_nonneg
def WK.{u}:=@List.mem_of_getElem?.{u}
def WL.{u}:=@List.mem_append_left.{u}
def WM:=@wpAny_holding
def WN:=@Nat.mul_le_mul_right
def WO.{u,v}:=@List.filterMap_cons.{u,v}
def WQ.{u}:=@List.drop_eq_getElem_cons.{u}
def WR.{u}:=@List.set_append_right.{u}
def WS:=@Int.toNat_natCast
def WT.{u}:=@beq_iff_eq.{u}
def WU.{u}:=@List.length_drop.{u}
def WV:=@wpAny_seqItems
def WW.{u}:=@List.sum_cons.{u}
def WX.{u}:=@List.any_cons.{u}
def WY:=@PyProof.Rows.callWith_type1
def WZ.{u}:=@List.eq_nil_of_length_eq_zero.{u}
def W2.{u}:=@List.ext_getElem?.{u}
def W3.{u}:=@List.find?_cons.{u}
def W4:=@Bool.false_eq_true
def W5:=@Bool.eq_iff_iff
def W6:=@decide_eq_true_eq
def W7:=@Obj.data_mapFields
def W8.{u}:=@if_false.{u}
def W9:=@mem_of_lookup
def W_:=@wpAny_truthy_bool
def W!.{u,v}:=@congrArg.{u,v}
def W?:=@Str.length_append
def W':=@List.getElem_range
def Xa:=@Heap.SameBut.update
def Xb.{u}:=@beq_eq_false_iff_ne.{u}
def Xc:=@wpAny_typeNameOfWhole_keyiter
def Xd:=@wpAny_setField_rec
def Xe:=@Txt.slice_le
def Xf:=@wpAny_passesOwn
def Xg.{u}:=@Ne.symm.{u}
def Xh:=@F.args_tuple_iterator_next_1
def Xi:=@StrLaws.glued_eq_join
def Xj:=@Nat.ne_of_gt
def Xk:=@Heap.get?_update_self
def Xl:=@F.entry_tuple_iterator_next
def Xm:=@wpAny_setField
def Xn:=@Heap.size_push
def Xo.{u}:=@List.getD_eq_getElem?_getD.{u}
def Xp.{u}:=@List.any_eq_true.{u}
def Xq.{u}:=@List.mem_or_eq_of_mem_set.{u}
def Xr:=@wpAny_typeNameOf_keyiter
def Xs.{u}:=@List.length_pos_iff.{u}
def Xt.{u}:=@List.filter_eq_self.{u}
def Xu:=@Bool.false_and
def Xv:=@wpAny_execs_nil
def Xw:=@wpAny_pyIter_tuple
def Xx:=@wpAny_Call_Name_kw
def Xy:=@PyProof.Rows.slot_tuple_getitem
def Xz.{u}:=@if_true.{u}
def XA.{u}:=@List.length_eq_zero_iff.{u}
def XC.{u}:=@List.getElem?_replicate.{u}
def XD:=@Bool.true_and
def XE.{u,v}:=@List.filterMap_cons_some.{u,v}
def XF.{u,v}:=@List.filterMap_cons_none.{u,v}
def XG.{u,v}:=@List.length_zip.{u,v}
def XH.{u}:=@List.reverse_cons.{u}
def XI.{u,v}:=@List.mem_filterMap.{u,v}
def XJ:=@W.hideAll_get
def XM:=@Obj.isFreed_of_fields
def XN.{u}:=@List.getElem?_toArray.{u}
def XO.{u}:=@List.take_length.{u}
def XQ:=@List.mem_range
def XR.{u}:=@List.mem_nil_iff.{u}
def XS.{u}:=@List.drop_length.{u}
def XT.{u}:=@List.all_cons.{u}
def XU.{u}:=@List.mem_of_mem_take.{u}
def XW:=@Nat.one_mul
def XX:=@Bool.not_eq_true'
def XY:=@codeAny_mono
def XZ:=@F.args_tuple_add_2
def X0.{u}:=@List.mem_filter.{u}
def X1:=@Bool.not_true
def X2:=@Bool.false_or
def X3:=@wpAny_rule
def X4:=@or_false
def X5:=@F.entry_tuple_add
def X6:=@Nat.lt_succ_self
def X7:=@Int.eq_ofNat_of_zero_le
def X8:=@Calls.spliced_cons
def X9:=@F.slot_tuple_add
def X_:=@Nat.le_of_lt
def X!.{u,v}:=@List.of_mem_zip.{u,v}
def X?.{u,v}:=@List.foldl_cons.{u,v}
def X'.{u}:=@List.drop_zero.{u}
def Ya:=@Int.zero_add
def Yb.{u}:=@Array.append_assoc.{u}
def Yc:=@wpAny_pyIter_list
def Yd:=@slot_list_getitem
def Ye:=@wpAny_standAt
def Yf:=@wpAny_onRaise
def Yg:=@wpAny_getItem_list_slice
def Yh:=@wpAny_attempt
def Yi:=@F.slot_dict_get
def Yj.{u}:=@List.mem_of_find?_eq_some.{u}
def Yk:=@Nat.log2_lt
def Yl:=@ne_true_of_eq_false
def Ym:=@F.args_dict_keyiterator_next_1
def Yn.{u}:=@List.pairwise_singleton.{u}
def Yo:=@wpAny_loadPart'
def Yp:=@post_val_or_str
def Yq:=@F.entry_dict_keyiterator_next
def Yr:=@F.slot_zip_next
def Ys.{u,v}:=@List.length_filterMap_le.{u,v}
def Yt.{u,v,w}:=@List.filterMap_map.{u,v,w}
def Yu:=@Int.natCast_nonneg
def Yv.{u}:=@List.nodup_cons.{u}
def Yw.{u}:=@List.count_cons.{u}
def Yx:=@wpAny_updateSeq_pair
def Yy.{u,v}:=@List.getElem_map.{u,v}
def Yz:=@Calls.evalArgs_plain
def YA.{u}:=@Array.getElem?_toList.{u}
def YB:=@Nat.not_lt_of_le
def YC:=@Nat.min_eq_right
def YD:=@Nat.le_of_not_lt
def YE:=@Nat.le_add_right
def YF.{u}:=@List.mem_of_mem_drop.{u}
def YG.{u}:=@List.mem_iff_getElem.{u}
def YH.{u}:=@List.count_cons_self.{u}
def YI.{u,v}:=@List.all_map.{u,v}
def YJ:=@Int.mul_le_mul_of_nonneg_right
def YK:=@evalPart_some
def YL:=@evalPart_none
def YM:=@typeIs_str
def YN:=@tupleKind_room_in1
def YO:=@StrLaws.join_split
def YQ:=@SeqAt.EqAt.str_int
def YR:=@SeqAt.EqAt.int_str
def YS:=@PyProof.Rows.boot_isinstance
def YT:=@Nat.min_eq_left
def YU.{u}:=@List.length_reverse.{u}
def YV:=@Heap.IsSliceOf.new
def YW:=@Bool.or_eq_true
def YX:=@wpAny_dictEntries
def YY:=@Obj.cls_mapFields
def YZ:=@Nat.one_le_pow
def Y0.{u}:=@List.find?_eq_none.{u}
def Y1.{u}:=@List.count_eq_zero.{u}
def Y2:=@Int.natAbs_mul
def Y3:=@Int.fdiv_eq_ediv_of_nonneg
def Y4:=@Calls.spliced_nil
def Y5:=@Call_method1
def Y6:=@Bool.and_false
def Y7:=@wpAny_execs_cons
def Y8:=@noFill_tuple_add
def Y9:=@Nat.mul_assoc
def Y_.{u}:=@List.take_succ_eq_append_getElem.{u}
def Y!.{u}:=@List.take_add_one.{u}
def Y?.{u}:=@List.set_set.{u}
def Y'.{u}:=@List.reverse_perm.{u}
def Za.{u}:=@List.any_eq_false.{u}
def Zb:=@Bool.and_true
def Zc:=@wpAny_throw
def Zd:=@wpAny_of_eq
def Ze:=@F.args_dict_get_3
def Zf:=@PyProof.Rows.boot_tuple
def Zg:=@Nat.le_mul_of_pos_right
def Zh:=@wpAny_dictEpoch
def Zi:=@SeqAt.EqAt.same
def Zj:=@W.cellsFrom_some
def Zk:=@F.slot_dict_iter
def Zl:=@F.entry_dict_get
def Zm:=@Nat.min_self
def Zn:=@Nat.le_of_eq
def Zo:=@List.range_succ_eq_map
def Zp.{u}:=@List.prefix_refl.{u}
def Zq.{u}:=@List.not_mem_nil.{u}
def Zr.{u}:=@List.getElem_inj.{u}
def Zs:=@Bool.true_or
def Zt:=@PyProof.Rows.Subscript_
def Zu.{u}:=@List.map_id.{u}
def Zv:=@call_meets
def Zw:=@Nat.pow_add
def Zx.{u,v}:=@List.foldl_append.{u,v}
def Zy:=@Int.one_mul
def Zz:=@Calls.Name_function_global
def ZA:=@Nat.mul_le_mul_left
def ZC:=@List.getElem?_range
def ZD:=@Int.toNat_of_nonneg
def ZE.{u}:=@Eq.symm.{u}
def ZF:=@wpAny_newList
def ZG:=@wpAny_handled
def ZH:=@wpAny_comprehension_free
def ZI:=@seq_tuple_add
def ZJ.{u}:=@bne_iff_ne.{u}
def ZK:=@W.of_hideAll
def ZL:=@W.mg_none_of
def ZM:=@W.kitx_tuple
def ZN:=@W.callWith_K
def ZO:=@Paired.length
def ZP.{u}:=@List.take_succ.{u}
def ZQ:=@Int.natAbs_natCast
def ZR:=@Int.natAbs_eq_zero
def ZS:=@Int.lt_of_lt_of_le
def ZT:=@list_append
def ZU:=@W.kitx_list
def ZV:=@W.kitx_dict
def ZW:=@Nat.lt_trichotomy
def ZX:=@Nat.lt_succ_of_lt
def ZY.{u}:=@List.pairwise_iff_getElem.{u}
def ZZ.{u}:=@List.getElem?_eq_none_iff.{u}
def Z0.{u}:=@Array.getElem?_eq_getElem.{u}
def Z3:=@seqIndex_neg
def Z4.{u,v,w}:=@getElem?_pos.{u,v,w}
def Z5:=@concat_meets
def Z6:=@SeqAt.ne_of_list_tuple
def Z7:=@IsL.update
def Z8.{u}:=@Option.isSome_iff_exists.{u}
def Z9:=@Nat.min_le_right
def Z_:=@Nat.lt_log2_self
def Z!:=@Calls.callWith_builtin
def Z?:=@wpAny_isOneOf_keyiter
def Z':=@PyProof.Rows.get?_update_seq
def _a:=@codeAny_handlers_test
def _b:=@W.kit_cls
def _c:=@Nat.not_lt_zero
def _d.{u}:=@List.mem_singleton_self.{u}
def _e.{u}:=@List.filter_cons_of_pos.{u}
def _g.{u}:=@List.filter_cons_of_neg.{u}
def _h:=@Int.neg_one_mul
namespace L2
open PySem.Spec PyProof.Rows
abbrev eU:=Sum Int Str
def uT:eU->_r->Bool
 |.inl k,v=>Value.isInt k v
 |.inr x,v=>Value.isStrOf x v
def Tx(w:World):eU->Int
 |.inl k=>hashInt k
 |.inr x=>hashStr w x
theorem dN:∀{k:eU}{v:_r},uT k v=true->(∃i t,k=Sum.inl i/\v=Value.int i t)\/(∃x t,k=Sum.inr x/\v=Value.str x t)
 |.inl i,v,h=>by obtain⟨t,e⟩:=Value.isInt_shape (k:=i) (v:=v) h;exact .inl ⟨i,t,rfl,e⟩
 |.inr x,v,h=>by obtain⟨t,e⟩:=Value.isStrOf_shape (x:=x) (v:=v) h;exact .inr ⟨x,t,rfl,e⟩
theorem CC(i:Int)(t:Tok):uT (.inl i) (.int i t)=true:=by simp[uT,Value.isInt]
theorem CD(x:Str)(t:Tok):uT (.inr x) (.str x t)=true:=by simp[uT,Value.isStrOf]
theorem Mb(a b:Int):decide ((Sum.inl a:eU)=Sum.inl b)=(a==b):=by
 by_cases e:a=b
 .subst e;simp
 .have h:¬ (Sum.inl a:eU)=Sum.inl b:=fun q=>e (Sum.inl.inj q);rw[VE h];exact(Xb.mpr e).symm
theorem Mc(a b:Str):decide ((Sum.inr a:eU)=Sum.inr b)=decide (a=b):=by
 by_cases e:a=b
 .subst e;simp
 .have h:¬ (Sum.inr a:eU)=Sum.inr b:=fun q=>e (Sum.inr.inj q);rw[VE h,VE e]
theorem Md(a:Int)(b:Str):decide ((Sum.inl a:eU)=Sum.inr b)=false:=VE (fun q=>nomatch q)
theorem Me(a:Str)(b:Int):decide ((Sum.inr a:eU)=Sum.inl b)=false:=VE (fun q=>nomatch q)
def eV(prog:_v)(w:World):PySem.KeyKind prog w eU where
 is:=uT
 hash:=Tx w
 inj:=fun v a b ha hb=>by
  rcases dN ha with⟨i,t,rfl,rfl⟩|⟨x,t,rfl,rfl⟩
  .rcases dN hb with⟨j,u,rfl,e⟩|⟨y,u,rfl,e⟩
   .injection e with e1 _;rw[e1]
   .exact nomatch e
  .rcases dN hb with⟨j,u,rfl,e⟩|⟨y,u,rfl,e⟩
   .exact nomatch e
   .injection e with e1 _;rw[e1]
 byValue:=fun k v h=>by rcases dN h with⟨i,t,rfl,rfl⟩|⟨x,t,rfl,rfl⟩<;>rfl
 pyHash:=fun hv h=>by
  rcases dN hv with⟨i,t,rfl,rfl⟩|⟨x,t,rfl,rfl⟩
  .exact wpAny_pyHash_int h
  .exact wpAny_pyHash_str h
 eqBool:=fun hu hv h=>by
  rcases dN hu with⟨i,t,rfl,rfl⟩|⟨x,t,rfl,rfl⟩
  .rcases dN hv with⟨j,u,rfl,rfl⟩|⟨y,u,rfl,rfl⟩
   .rw[Mb]at h;exact wpAny_eqBool_int h
   .rw[Md]at h;exact YR i t y u _ _ _ _ h
  .rcases dN hv with⟨j,u,rfl,rfl⟩|⟨y,u,rfl,rfl⟩
   .rw[Me]at h;exact YQ x t j u _ _ _ _ h
   .rw[Mc]at h;exact wpAny_eqBool_str h
 «strs»:=fun k x t v h=>by
  rcases dN h with⟨i,u,rfl,e⟩|⟨y,u,rfl,e⟩
  .exact nomatch e
  .injection e with e1 _;subst e1;cases v<;>rfl
theorem xt(prog:_v)(w:World)(i:Int)(t:Tok):(eV prog w).is (.inl i) (.int i t)=true:=CC i t
theorem xu(prog:_v)(w:World)(x:Str)(t:Tok):(eV prog w).is (.inr x) (.str x t)=true:=CD x t
inductive V where
 |cO|bl (b:Bool)|int (i:Int)|str (x:Str)|Tz (b:Array UInt8)|mM (b:UInt64)|ref (a:_t)|ty (n:String)
 deriving DecidableEq
def bT:V->_r->Prop
 |.cO,u=>u=Value.none
 |.bl b,u=>u=Value.bool b
 |.int i,u=>∃t,u=Value.int i t
 |.str x,u=>∃t,u=Value.str x t
 |.Tz b,u=>∃t,u=Value.bytes b t
 |.mM b,u=>∃t,u=Value.float b t
 |.ref a,u=>u=Value.ref a
 |.ty n,u=>u=Value.type n
abbrev bN:List V->_n->Prop:=Paired bT
theorem bN.length{xs:List V}{us:_n}(r:bN xs us):xs.length=us.length:=ZO r
theorem bN.get:∀{xs:List V}{us:_n}{i:Nat}{x:V},bN xs us->xs[i]?=some x->∃u,us[i]?=some u/\bT x u
 |_,_,_,_,.nil,e=>by simp at e
 |_,_,0,_,.cons r _,e=>by simp at e;subst e;exact⟨_,rfl,r⟩
 |_,_,i+1,x,.cons _ t,e=>by obtain⟨u,h1,h2⟩:=bN.get (i:=i) (x:=x) t (by simpa using e);exact⟨u,by simpa using h1,h2⟩
theorem bN.set{x:V}{u:_r}(r:bT x u):∀{xs:List V}{us:_n}(i:Nat),bN xs us->bN (xs.set i x) (us.set i u)
 |_,_,_,.nil=>.nil
 |_,_,0,.cons _ t=>.cons r t
 |_,_,i+1,.cons q t=>.cons q (bN.set r i t)
theorem bN.append:∀{xs ys:List V}{us ws:_n},bN xs us->bN ys ws->bN (xs++ys) (us++ws)
 |_,_,_,_,.nil,s=>s
 |_,_,_,_,.cons r t,s=>.cons r (bN.append t s)
theorem bN.take:∀{xs:List V}{us:_n}(n:Nat),bN xs us->bN (xs.take n) (us.take n)
 |_,_,0,_=>.nil
 |_,_,_+1,.nil=>.nil
 |_,_,n+1,.cons r t=>.cons r (bN.take n t)
theorem bN.drop:∀{xs:List V}{us:_n}(n:Nat),bN xs us->bN (xs.drop n) (us.drop n)
 |_,_,0,r=>r
 |_,_,_+1,.nil=>.nil
 |_,_,n+1,.cons _ t=>bN.drop n t
def nT:Option V->_o->Prop
 |some v,some u=>bT v u
 |none,none=>True
 |_,_=>False
def KV:List (κ×V)->List (κ×_r)->Prop:=Paired fun(p:κ×V)(q:κ×_r)=>p.1=q.1/\bT p.2 q.2
def kV:eU->V
 |.inl i=>.int i
 |.inr x=>.str x
inductive HO where
  |lst (xs:List V)
  |tup (xs:List V)
  |dK (aX:List (eU×V))|dT (aX:List (List eU×V))
  |set (S:Int->Bool) (n:Nat)
  |ins (C dx:_t) (fs:List (Str×V))
  |own (x:_t)
  |xd (fs:List (Str×V))
  |met (f x:_t)
  |SD (lo hi:Int)
  |lV (o:Obj) (u:HO)
  |Ii (ps:Array _r)
  |ext (φ:Heap->Prop)
abbrev Hp:=_t->Option HO
def upd(H:Hp)(a:_t)(o:HO):Hp:=fun b=>if b=a then some o else H b
theorem c!{H:Hp}{o:HO}:upd H a o a=some o:=by unfold upd;rw[Vs rfl]
theorem bK{H:Hp}{b:_t}{o:HO}(h:b≠a):upd H a o b=H b:=by unfold upd;rw[Vx h]
theorem P?{H:Hp}{b:_t}{o u:HO}(h:H a=some o)(h':H b=some u)(d:o≠u):a≠b:=by intro e;subst e;rw[h]at h';exact d (V! h')
theorem bL{H:Hp}{b:_t}{o:HO}(h:H a=some o)(h':H b=none):a≠b:=by intro e;subst e;rw[h]at h';cases h'
section
variable(P:_v)(w:World)
def dk(H:Hp)(h:Heap)(a:_t):HO->Prop
 |.lst xs=>xs.length<=sizeLine/\∃(aM:_n)(n:Nat),bN xs aM/\h.get? a=some {cls:=.type "list",data:=.seq aM.toArray n}
 |.tup xs=>xs.length<=sizeLine/\∃aM:_n,bN xs aM/\IsTup h a aM.toArray
 |.dK aX=>aX.length<=sizeLine/\(a==sysModules)=false/\∃vs,KV aX vs/\h.DictOf (eV P w) a vs
 |.dT aX=>aX.length<=sizeLine/\(a==sysModules)=false/\∃xs:List (List eU×_t×_r),
   Paired (fun(p:List eU×V)(q:List eU×_t×_r)=>p.1=q.1/\H q.2.1=some (.tup (p.1.map kV))/\bT p.2 q.2.2) aX xs /\
   ∃o es ep,h.get? a=some o/\o.ExactDict/\o.data=.dict es ep/\es.toList=xs.map (entryOfKey (tupleKind (eV P w)))/\(xs.map (·.1)).Nodup
 |.set S n=>h.SetOf (intKind P w) a S n
 |.ins C dx fs=>H dx=some (.own a)/\fs.length<=1000/\dx≠a/\h.get? a=some (W.instObj C dx) /\
   ∃mA,h.Ns1 dx mA/\(∀f,nT (fs.lookup f) (mA f))/\PySem.Within mA (fs.map (·.1))
 |.own _=>∃o,h.get? a=some o
 |.xd fs=>∃mA,h.Ns1 a mA/\∀f,nT (fs.lookup f) (mA f)
 |.SD lo hi=>∃t u v,h.get? a=some {cls:=.type "range",data:=.fields #[.int lo t,.int hi u,.int 1 v]}
 |.lV o u=>h.get? a=some o/\dk H h a u
 |.Ii ps=>h.get? a=some {cls:=.none,data:=.fields ps}
 |.met f x=>h.get? a=some (W.methodObj (.ref f) (.ref x))
 |.ext φ=>φ h/\(∃o,h.get? a=some o)/\∀h1 h2:Heap,φ h1->(∀o,h1.get? a=some o->h2.get? a=some o)->φ h2
def jG(H:Hp)(h:Heap):Prop:=∀a o,H a=some o->dk P w H h a o
end
section
variable{w:World}{H H':Hp}{o:HO}
theorem dk.lt(x:dk P w H h a o):a<h.objs.size:=by
 cases o with
 |lst xs=>obtain⟨_,_,_,_,e⟩:=x;exact VL e
 |tup xs=>obtain⟨_,_,_,p⟩:=x;exact p.lt
 |dK aX=>obtain⟨_,_,_,_,o,_,_,e,_⟩:=x;exact VL e
 |dT aX=>obtain⟨_,_,_,_,o,_,_,e,_⟩:=x;exact VL e
 |set S n=>obtain⟨o,_,_,_,e,_⟩:=x;exact VL e
 |ins C dx fs=>obtain⟨_,_,_,e,_⟩:=x;exact VL e
 |own y=>obtain⟨_,e⟩:=x;exact VL e
 |xd fs=>obtain⟨_,⟨_,_,_,e,_⟩,_⟩:=x;exact VL e
 |SD lo hi=>obtain⟨_,_,_,e⟩:=x;exact VL e
 |lV ob u=>obtain⟨e,_⟩:=x;exact VL e
 |Ii ps=>exact VL (show h.get? a=some _ from x)
 |met f y=>exact VL (show h.get? a=some _ from x)
 |ext φ=>obtain⟨_,⟨_,e⟩,_⟩:=x;exact VL e
theorem Paired.Mf{F G:α->β->Prop}:∀{l₁:List α}{l₂:List β},Paired F l₁ l₂->(∀a b,F a b->G a b)->Paired G l₁ l₂
 |_,_,.nil,_=>.nil
 |_,_,.cons r t,f=>.cons (f _ _ r) (Paired.Mf t f)
theorem dk.lW(x:dk P w H h a o)(k:∀b u,(b=a\/H b=some (.own a))->h.get? b=some u->h'.get? b=some u)(ho:∀b,H b=some (.own a)->H' b=some (.own a))(ht:∀b xs,H b=some (.tup xs)->H' b=some (.tup xs)):dk P w H' h' a o:=by
 induction o with
 |lst xs=>obtain⟨z,aM,n,r,e⟩:=x;exact⟨z,aM,n,r,k _ _ (.inl rfl) e⟩
 |tup xs=>obtain⟨z,aM,r,ob,e,c⟩:=x;exact⟨z,aM,r,ob,k _ _ (.inl rfl) e,c⟩
 |dK aX=>obtain⟨z,y,vs,r,ob,es,ep,e,c⟩:=x;exact⟨z,y,vs,r,ob,es,ep,k _ _ (.inl rfl) e,c⟩
 |dT aX=>
  obtain⟨z,y,xs,r,ob,es,ep,e,c⟩:=x;exact⟨z,y,xs,Paired.Mf r fun p q z=>⟨z.1,ht _ _ z.2.1,z.2.2⟩,ob,es,ep,k _ _ (.inl rfl) e,c⟩
 |set S n=>obtain⟨ob,es,ep,t,e,c⟩:=x;exact⟨ob,es,ep,t,k _ _ (.inl rfl) e,c⟩
 |ins C dx fs=>
  obtain⟨d,z,ne,e,mA,⟨od,es,ep,e2,c⟩,r⟩:=x;exact⟨ho _ d,z,ne,k _ _ (.inl rfl) e,mA,⟨od,es,ep,k _ _ (.inr d) e2,c⟩,r⟩
 |own y=>obtain⟨ob,e⟩:=x;exact⟨ob,k _ _ (.inl rfl) e⟩
 |xd fs=>obtain⟨mA,⟨od,es,ep,e,c⟩,r⟩:=x;exact⟨mA,⟨od,es,ep,k _ _ (.inl rfl) e,c⟩,r⟩
 |SD lo hi=>obtain⟨t,u,v,e⟩:=x;exact⟨t,u,v,k _ _ (.inl rfl) e⟩
 |lV ob u ih=>obtain⟨e,q⟩:=x;exact⟨k _ _ (.inl rfl) e,ih q⟩
 |Ii ps=>
  have e:h.get? a=some {cls:=.none,data:=.fields ps}:=x;show h'.get? a=some {cls:=.none,data:=.fields ps};exact k a _ (.inl rfl) e
 |met f y=>
  have e:h.get? a=some (W.methodObj (.ref f) (.ref y)):=x;show h'.get? a=some (W.methodObj (.ref f) (.ref y));exact k a _ (.inl rfl) e
 |ext φ=>obtain⟨p,⟨o,e⟩,st⟩:=x;exact⟨st _ _ p fun o q=>k _ _ (.inl rfl) q,⟨o,k _ _ (.inl rfl) e⟩,st⟩
theorem jG.lt(x:jG P w H h)(e:H a=some o):a<h.objs.size:=(x a o e).lt
theorem jG.fresh(x:jG P w H h)(e:h.objs.size<=a):H a=none:=by
 cases q:H a with
 |none=>rfl
 |some u=>exact absurd (VQ (x.lt q) e) (Wc _)
theorem jG.kept(x:jG P w H h)(k:∀b u,h.get? b=some u->h'.get? b=some u):jG P w H h':=fun a o e=>
 (x a o e).lW (fun b u _ q=>k b u q) (fun _ q=>q) fun _ _ q=>q
theorem jG.laid(x:jG P w H h)(k:∀b u,h.get? b=some u->h'.get? b=some u)(hp:h.objs.size<=a)(new:dk P w (upd H a o) h' a o):jG P w (upd H a o) h':=fun b u e=>by
 have hn:=x.fresh hp;by_cases hb:b=a
 .subst hb;rw[c!]at e;cases e;exact new
 .rw[bK hb]at e;exact(x b u e).lW (fun c v _ q=>k c v q) (fun c q=>by rw[bK (bL q hn)];exact q) fun c xs q=>by rw[bK (bL q hn)];exact q
end
def Rd(H:Hp)(a:_t)(u:HO):Prop:=H a=some u\/∃o,H a=some (.lV o u)
theorem Rd.ok{w:World}{H:Hp}{u:HO}(r:Rd H a u)(x:jG P w H h):dk P w H h a u:=by
 rcases r with r|⟨o,r⟩
 .exact x a u r
 .obtain⟨_,q⟩:=x a _ r;exact q
def P':Option HO->Prop
 |some (.lst _)=>True
 |some (.dK _)=>True
 |some (.dT _)=>True
 |some (.set _ _)=>True
 |some (.ins _ _ _)=>True
 |some (.ext _)=>True
 |_=>False
section
variable{w:World}{H:Hp}{x e:_t}{o':HO}
theorem jG.write(ok:jG P w H h)(mu:P' (H x))(he:e=x\/H e=some (.own x))(k:∀b u,b≠e->h.get? b=some u->h'.get? b=some u)(Py:∃u,h'.get? e=some u)(new:dk P w (upd H x o') h' x o'):jG P w (upd H x o') h':=fun b u q=>by
 have Qa:∀c y,H c=some (.own y)->c≠x:=fun c y r z=>by subst z;rw[r]at mu;exact mu
 have TB:∀c xs,H c=some (.tup xs)->c≠x:=fun c xs r z=>by subst z;rw[r]at mu;exact mu
 by_cases hb:b=x
 .subst hb;rw[c!]at q;cases q;exact new
 .rw[bK hb]at q;by_cases Mg:b=e
  .have q':H b=some (.own x):=by
    rcases he with z|z
    .exact absurd (Mg.trans z) hb
    .rw[Mg];exact z
   rw[q]at q';cases q';obtain⟨v,hv⟩:=Py;exact⟨v,by rw[Mg];exact hv⟩
  .refine(ok b u q).lW (fun c v hc r=>k c v ?_ r) (fun c r=>by rw[bK (Qa c b r)];exact r) fun c xs r=>by rw[bK (TB c xs r)];exact r
   rcases hc with rfl|hc
   .exact Mg
   .rintro rfl;rcases he with z|z
    .exact Qa c b hc z
    .rw[hc]at z;cases z;exact hb rfl
end
structure Un(fs ex:_p)(H H':Hp)(h h':Heap):Prop where
 keep:∀b o,h.get? b=some o->H b=none->b ∉ fs->b ∉ ex->h'.get? b=some o
 slot:∀b o,h.get? b=some o->H b=none->b∈fs->b ∉ ex->∃sl,h'.get? b=some {o with slots:=sl}
 free:∀b o,h.get? b=some o->H b=none->b ∉ ex->H' b=none
 there:∀b o,h.get? b=some o->b ∉ ex->∃o',h'.get? b=some o'
 jH:∀b xs,H b=some (.tup xs)->H' b=some (.tup xs)
 ju:∀b o u,H b=some (.lV o u)->H' b=some (.lV o u)
 j9:∀b ps,H b=some (.Ii ps)->∃more,H' b=some (.Ii (ps++more))
section
variable{fs fs' ex ex':_p}{H H1 H2:Hp}{h1 h2:Heap}{x e:_t}{o:HO}
theorem Un.any(u:Un fs ex H H1 h h1){b:_t}{ob:Obj}(q:h.get? b=some ob)(n:H b=none)(hx:b ∉ ex):∃sl,h1.get? b=some {ob with slots:=sl}:=by
 by_cases hb:b∈fs
 .exact u.slot b ob q n hb hx
 .exact⟨ob.slots,u.keep b ob q n hb hx⟩
theorem Un.kept(k:∀b u,h.get? b=some u->h'.get? b=some u):Un fs ex H H h h':=
 ⟨fun b ob q _ _ _=>k b ob q,fun b ob q _ _ _=>⟨ob.slots,k b ob q⟩,fun _ _ _ n _=>n,fun b ob q _=>⟨ob,k b ob q⟩,fun _ _ q=>q,fun _ _ _ q=>q,fun _ ps q=>⟨#[],by rw[q];simp⟩⟩
theorem Un.refl:Un fs ex H H h h:=Un.kept fun _ _ q=>q
theorem Un.laid(k:∀b u,h.get? b=some u->h'.get? b=some u)(hp:h.objs.size<=a)(hn:H a=none):Un fs ex H (upd H a o) h h' where
 keep:=fun b u q _ _ _=>k b u q
 slot:=fun b u q _ _ _=>⟨u.slots,k b u q⟩
 free:=fun b u q n _=>by rw[bK (V7 (VQ (VL q) hp))];exact n
 there:=fun b u q _=>⟨u,k b u q⟩
 jH:=fun b xs q=>by rw[bK (bL q hn)];exact q
 ju:=fun b u xs q=>by rw[bK (bL q hn)];exact q
 j9:=fun b ps q=>⟨#[],by rw[bK (bL q hn),q];simp⟩
theorem Un.write(mu:P' (H x))(he:e=x\/H e=some (.own x))(k:∀b u,b≠e->h.get? b=some u->h'.get? b=some u)(Py:∃u,h'.get? e=some u):Un fs ex H (upd H x o) h h':=by
 have hx:∀b,H b=none->b≠x:=fun b n z=>by subst z;rw[n]at mu;exact mu
 have hb:∀b,H b=none->b≠e:=fun b n z=>by
  subst z;rcases he with r|r
  .exact hx b n r
  .rw[n]at r;cases r
 have hm:∀b u,H b=some u->¬ P' (some u)->b≠x:=fun b u q nm z=>by subst z;rw[q]at mu;exact nm mu
 refine⟨fun b u q n _ _=>k b u (hb b n) q,fun b u q n _ _=>⟨u.slots,k b u (hb b n) q⟩,fun b u q n _=>by rw[bK (hx b n)];exact n,fun b u q _=>?_,
  fun b xs q=>by rw[bK (hm b _ q fun z=>z)];exact q,fun b u xs q=>by rw[bK (hm b _ q fun z=>z)];exact q,fun b ps q=>⟨#[],by rw[bK (hm b _ q fun z=>z),q];simp⟩⟩
 by_cases Mg:b=e
 .subst Mg;exact Py
 .exact⟨u,k b u Mg q⟩
end
def xw(h:Heap)(H:Hp):_p:=(List.range h.objs.size).filter fun a=>(H a).isSome
def vH(h:Heap)(H:Hp):Heap:=W.hideAll h (xw h H)
theorem CF(h:Heap)(H:Hp):(vH h H).objs.size=h.objs.size:=W.hideAll_size _ _
theorem Eo{H:Hp}{b:_t}{o:Obj}(e:h.get? b=some o)(n:H b=none):(vH h H).get? b=some o:=
 XJ _ e fun hm=>by have q:(H b).isSome=true:=(X0.mp hm).2;rw[n]at q;simp at q
theorem Iz{H:Hp}{b:_t}{o:Obj}(e:(vH h H).get? b=some o):h.get? b=some o/\H b=none:=by
 have e':h.get? b=some o:=ZK (xw h H) e;refine⟨e',?_⟩;cases q:H b with
 |none=>rfl
 |some x=>
  have hm:b∈xw h H:=X0.mpr ⟨XQ.mpr (VL e'),by simp[q]⟩;have z:(vH h H).get? b=none:=W.hideAll_none (xw h H) hm;rw[z]at e;cases e
structure Mod(K:_l)(mg:_j)(base:Heap):Prop where
 Pz:K.In base
 glob:base.Ns mainGlobals mg
 blt:∃mb,base.Ns builtinsNs mb/\∀x:Str,x ≠ "__name__" -> mb x=bootBuiltins x
 nolimit:base.NoLimit
structure Cx where
 prog:_v
 w:World
 K:_l
 mg:Str->_o
 base:Heap
 A:_u
 N:_q
 s₀:_s
 H₀:Hp
 env:Env
 outer:List Env
 stack:List Env
 ex:_p
 fn:Str->Bool
 calm:Bool
 pn:_k
 xe:_r->_s->Prop
def fZ(l:List Env):_p:=l.filterMap (·.frame)
abbrev Cx.fs(X:Cx):_p:=fZ X.outer
def Mh(sc:Scope)(x:Str):Prop:=sc.names.lookup x=some .local\/sc.names.lookup x=some .cell\/sc.names.lookup x=some .free
def Loc(sc:Scope)(x:Str):Prop:=sc.names.lookup x=some .local\/sc.names.lookup x=some .cell
def Look(env:Env)(h:Heap)(m:_j)(x:Str)(u:_r):Prop:=
 (env.kindOf x=some .local/\m x=some u)\/((env.kindOf x=some .cell\/env.kindOf x=some .free)/\∃c,env.cells.lookup x=some c/\h.IsCell c (some u))
structure Cx.Ok(X:Cx):Prop where
 mod:Mod X.K X.mg X.base
 kind:X.env.scope.kind=.function
 glob:X.env.globals=mainGlobals
 blt:X.env.builtins=builtinsNs
 above:X.s₀.heap.objs.size<=X.env.locals
 inj:∀x y c,X.env.cells.lookup x=some c->X.env.cells.lookup y=some c->x=y
 has:∀x,(X.env.kindOf x=some .cell\/X.env.kindOf x=some .free)->∃c,X.env.cells.lookup x=some c
 Mi:∀x c,X.fn x=true->X.env.cells.lookup x=some c->X.s₀.heap.objs.size<=c
 hd:X.calm=true->X.A.handled=none
 frames:X.A.frames=some X.stack
 Ep:X.stack=X.outer\/(X.stack=X.env::X.outer/\X.env.frame=some X.env.locals)
 TC:∀b∈X.ex,b≠X.env.locals/\∀x c,X.env.cells.lookup x=some c->c≠b
 bs:∀b o,X.base.get? b=some o->X.s₀.heap.get? b=some o/\X.H₀ b=none
 Lr:X.base.objs.size<=X.s₀.heap.objs.size
 zM:∀b o,X.base.get? b=some o->b ∉ X.ex
 Er:∀b∈X.ex,b ∉ X.fs
 lX:X.s₀.heap.FunFrames X.base X.outer
 Es:∀b∈X.fs,X.H₀ b=none
structure aV(X:Cx)(ai:_k)(σ:List (Option V))(H:Hp)(s:_s):Prop where
 ok:X.Ok
 os:s.os=X.s₀.os
 bare:AllBare s.gens
 base:Un X.fs X.ex X.H₀ H X.s₀.heap s.heap
 loc:∃m,s.heap.Ns X.env.locals m/\∀(i:Nat)(x:Str)(v:V),X.N[i]?=some x->σ[i]?=some (some v)->Mh X.env.scope x->∃u,bT v u/\Look X.env s.heap m x u
 cell:∀x c,X.env.cells.lookup x=some c->∃v,s.heap.IsCell c v
 free:H X.env.locals=none
 iV:∀x c,X.env.cells.lookup x=some c->H c=none
 pin:∀p∈X.pn++ai,s.heap.get? p.1=some p.2/\H p.1=none/\p.1≠X.env.locals/\p.1 ∉ X.fs/\∀v,p.2.data≠.cell v
 cW:jG X.prog X.w H s.heap
 len:σ.length=X.N.length
section
variable{X:Cx}{σ:List (Option V)}{H H':Hp}
theorem Cx.Ok.TF(ok:X.Ok){b:_t}{o:Obj}(e:X.base.get? b=some o):b ∉ X.fs:=fun hb=>by have:=(ok.lX.mem hb).1;rw[e]at this;cases this
theorem aV.bs(I:aV X ai σ H s):∀b o,X.base.get? b=some o->s.heap.get? b=some o/\H b=none:=fun b o e=>
 ⟨I.base.keep b o (I.ok.bs b o e).1 (I.ok.bs b o e).2 (I.ok.TF e) (I.ok.zM b o e),I.base.free b o (I.ok.bs b o e).1 (I.ok.bs b o e).2 (I.ok.zM b o e)⟩
theorem aV.bk(I:aV X ai σ H s):∀b o,X.base.get? b=some o->s.heap.get? b=some o:=fun b o e=>(I.bs b o e).1
theorem aV.mod(I:aV X ai σ H s):Mod X.K X.mg X.base:=I.ok.mod
theorem aV.qp(I:aV X ai σ H s):X.K.In s.heap:=I.ok.mod.Pz.keeps I.bk
theorem aV.lt(I:aV X ai σ H s):X.env.locals<s.heap.objs.size:=let⟨_,hn,_⟩:=I.loc;hn.lt
theorem aV.sz(I:aV X ai σ H s):X.s₀.heap.objs.size<=s.heap.objs.size:=VX I.ok.above (X_ I.lt)
theorem aV.TH(I:aV X ai σ H s)(h:s.heap.objs.size<=a):a ∉ X.fs:=fun hb=>by obtain⟨_,o,ho,_⟩:=I.ok.lX.mem hb;exact absurd (VQ (VL ho) (VX I.sz h)) (Wc _)
theorem aV.Ij(I:aV X ai σ H s):∀x c,X.env.cells.lookup x=some c->c≠X.env.locals:=fun x c e z=>by obtain⟨v,o,ho,hd⟩:=I.cell x c e;obtain⟨m,⟨o',es,ep,pD,TJ,_⟩,_⟩:=I.loc;rw[z,pD]at ho;cases ho;rw[TJ]at hd;cases hd
theorem aV.lX(I:aV X ai σ H s):s.heap.FunFrames X.base X.outer:=by
 have all:∀(l:List Env),(∀b∈fZ l,b∈X.fs)->X.s₀.heap.FunFrames X.base l->s.heap.FunFrames X.base l:=by
  intro l
  induction l with
  |nil=>intro _ _;trivial
  |cons env r ih=>
   intro hs hl;obtain⟨hk,⟨L,o,hf,hn,ho,hd⟩,hr⟩:=hl;have hL:L∈X.fs:=hs L (by unfold fZ;rw[WO,hf];exact Vu);obtain⟨sl,e⟩:=I.base.slot L o ho (I.ok.Es L hL) hL fun z=>I.ok.Er L z hL;exact⟨hk,⟨L,_,hf,hn,e,hd⟩,ih (fun b hb=>hs b (by unfold fZ;rw[WO,hf];exact Vq _ hb)) hr⟩
 exact all X.outer (fun _ hb=>hb) I.ok.lX
theorem aV.stack(I:aV X ai σ H s):s.heap.FunFrames X.base X.stack:=by
 rcases I.ok.Ep with e|⟨e,hf⟩
 .rw[e];exact I.lX
 .rw[e];obtain⟨m,hn,_⟩:=I.loc;refine .cons (by rw[I.ok.kind];decide) hf hn ?_ I.lX;exact Heap.get?_none_of_le (VX I.ok.Lr I.ok.above)
theorem aV.nU(I:aV X ai σ H s):∀b∈fZ X.stack,b∈X.env.locals::X.fs:=fun b hb=>by
 rcases I.ok.Ep with e|⟨e,hf⟩
 .rw[e]at hb;exact Vq _ hb
 .rw[e]at hb;unfold fZ at hb;rw[WO,hf]at hb;exact hb
theorem aV.qq(I:aV X ai σ H s):∀b∈fZ X.stack,H b=none:=fun b hb=>by
 rcases VJ.mp (I.nU b hb)with e|hb
 .rw[e];exact I.free
 .obtain⟨_,o,ho,_⟩:=I.ok.lX.mem hb;exact I.base.free b o ho (I.ok.Es b hb) fun z=>I.ok.Er b z hb
theorem aV.step{g':Array GenState}{t':Nat}{d':Drawn}(I:aV X ai σ H s)(Ed:∀b∈ch,(b∈X.ex\/X.s₀.heap.objs.size<=b)/\b≠X.env.locals/\(∀x c,X.env.cells.lookup x=some c->c≠b)/\∀p∈X.pn++ai,p.1≠b)(keep:∀b o,b≠X.env.locals->b ∉ X.fs->b ∉ ch->s.heap.get? b=some o->H b=none->h'.get? b=some o)(slot:∀b o,b≠X.env.locals->b∈X.fs->b ∉ ch->s.heap.get? b=some o->H b=none->∃sl,h'.get? b=some {o with slots:=sl})(free:∀b o,b ∉ ch->s.heap.get? b=some o->H b=none->H' b=none)(there:∀b o,b ∉ ch->s.heap.get? b=some o->∃o',h'.get? b=some o')(jH:∀b xs,H b=some (.tup xs)->H' b=some (.tup xs))(ju:∀b o u,H b=some (.lV o u)->H' b=some (.lV o u))(j9:∀b ps,H b=some (.Ii ps)->∃more,H' b=some (.Ii (ps++more)))(ns:∀m,s.heap.Ns X.env.locals m->h'.Ns X.env.locals m)(cW:jG X.prog X.w H' h')(hg:AllBare g'):
  aV X ai σ H' {s with heap:=h',gens:=g',drawn:=d',toks:=t'}:=by
 have Et:∀b o,X.s₀.heap.get? b=some o->b≠X.env.locals:=fun b o e=>V7 (VQ (VL e) I.ok.above);have Ls:∀b o,X.s₀.heap.get? b=some o->b ∉ X.ex->b ∉ ch:=fun b o e hx hb=>by
  rcases(Ed b hb).1 with z|z
  .exact hx z
  .exact absurd (VQ (VL e) z) (Wc _)
 have cellK:∀x c,X.env.cells.lookup x=some c->∀v,s.heap.IsCell c v->h'.IsCell c v:=fun x c e v⟨o,ho,hd⟩=>by
  have Qb:c ∉ ch:=fun z=>(Ed c z).2.2.1 x c e rfl;by_cases hc:c∈X.fs
  .obtain⟨sl,q⟩:=slot c o (I.Ij x c e) hc Qb ho (I.iV x c e);exact⟨_,q,hd⟩
  .exact⟨o,keep c o (I.Ij x c e) hc Qb ho (I.iV x c e),hd⟩
 refine⟨I.ok,I.os,hg,⟨fun b o e n hb hx=>?_,fun b o e n hb hx=>?_,fun b o e n hx=>?_,fun b o e hx=>?_,fun b xs e=>jH b xs (I.base.jH b xs e),fun b o xs e=>ju b o xs (I.base.ju b o xs e),fun b ps e=>?_⟩,?_,fun x c e=>?_,?_,fun x c e=>?_,fun p hp=>?_,cW,I.len⟩
 .exact keep b o (Et b o e) hb (Ls b o e hx) (I.base.keep b o e n hb hx) (I.base.free b o e n hx)
 .obtain⟨sl,e1⟩:=I.base.slot b o e n hb hx;obtain⟨IA,e2⟩:=slot b _ (Et b o e) hb (Ls b o e hx) e1 (I.base.free b o e n hx);exact⟨IA,e2⟩
 .obtain⟨o',e1⟩:=I.base.there b o e hx;exact free b o' (Ls b o e hx) e1 (I.base.free b o e n hx)
 .obtain⟨o',e1⟩:=I.base.there b o e hx;exact there b o' (Ls b o e hx) e1
 .obtain⟨m1,e1⟩:=I.base.j9 b ps e;obtain⟨m2,e2⟩:=j9 b _ e1;exact⟨m1++m2,by rw[e2,Yb]⟩
 .obtain⟨m,hn,hl⟩:=I.loc;refine⟨m,ns m hn,fun i x v e1 e2 e3=>?_⟩;obtain⟨u,r,l⟩:=hl i x v e1 e2 e3;refine⟨u,r,?_⟩;rcases l with l|⟨k,c,e,z⟩
  .exact .inl l
  .exact .inr ⟨k,c,e,cellK x c e _ z⟩
 .obtain⟨v,z⟩:=I.cell x c e;exact⟨v,cellK x c e v z⟩
 .obtain⟨m,⟨o,_,_,ho,_⟩,_⟩:=I.loc;exact free _ o (fun z=>(Ed _ z).2.1 rfl) ho I.free
 .obtain⟨v,o,ho,hd⟩:=I.cell x c e;exact free c o (fun z=>(Ed c z).2.2.1 x c e rfl) ho (I.iV x c e)
 .obtain⟨e,n,ne,nf,d⟩:=I.pin p hp;have Qb:p.1 ∉ ch:=fun z=>(Ed p.1 z).2.2.2 p hp rfl;exact⟨keep p.1 p.2 ne nf Qb e n,free p.1 p.2 Qb e n,ne,nf,d⟩
theorem aV.un{t':Nat}(I:aV X ai σ H s)(u:Un X.fs [] H H' s.heap h')(cW:jG X.prog X.w H' h'):aV X ai σ H' {s with heap:=h',toks:=t'}:=by
 obtain⟨m,⟨o,es,ep,ho,r⟩,_⟩:=id I.loc;obtain⟨sl,hL⟩:=u.any ho I.free (by simp);exact I.step (g':=s.gens) (d':=s.drawn) (ch:=[]) (fun _ z=>nomatch z) (fun b o _ hb _ e n=>u.keep b o e n hb (by simp)) (fun b o _ hb _ e n=>u.slot b o e n hb (by simp)) (fun b o _ e n=>u.free b o e n (by simp)) (fun b o _ e=>u.there b o e (by simp)) u.jH u.ju u.j9 (fun m' hm=>by
  obtain⟨o',TK,TL,pD,r'⟩:=hm;rw[ho]at pD;cases pD;exact⟨_,TK,TL,hL,r'⟩) cW I.bare
theorem aV.call{g':Array GenState}{t':Nat}{d':Drawn}(I:aV X ai σ H s)(u:Un (fZ X.stack) ch H H' s.heap h')(cW:jG X.prog X.w H' h')(hg:AllBare g')(Ed:∀b∈ch,(b∈X.ex\/X.s₀.heap.objs.size<=b)/\b≠X.env.locals/\(∀x c,X.env.cells.lookup x=some c->c≠b)/\∀p∈X.pn++ai,p.1≠b):
  aV X ai σ H' {s with heap:=h',gens:=g',drawn:=d',toks:=t'}:=by
 obtain⟨m,⟨o,es,ep,ho,r⟩,_⟩:=id I.loc;obtain⟨sl,hL⟩:=u.any ho I.free fun z=>(Ed _ z).2.1 rfl;exact I.step (ch:=ch) Ed (fun b o hL hb hc e n=>u.keep b o e n (fun z=>(VJ.mp (I.nU b z)).elim hL hb) hc) (fun b o _ _ hc e n=>u.any e n hc) (fun b o hc e n=>u.free b o e n hc) (fun b o hc e=>u.there b o e hc) u.jH u.ju u.j9 (fun m' hm=>by
  obtain⟨o',TK,TL,pD,r'⟩:=hm;rw[ho]at pD;cases pD;exact⟨_,TK,TL,hL,r'⟩) cW hg
theorem aV.turned{t':Nat}(I:aV X ai σ H s)(k:∀b o,b≠it->s.heap.get? b=some o->h'.get? b=some o)(hn:H it=none)(hL:it≠X.env.locals)(h1:it∈X.ex\/X.s₀.heap.objs.size<=it)(h2:∀x c,X.env.cells.lookup x=some c->c≠it)(h3:∀p∈X.pn++ai,p.1≠it):aV X ai σ H {s with heap:=h',toks:=t'}:=by
 have nit:∀b u,H b=some u->b≠it:=fun b u e z=>by rw[z,hn]at e;cases e
 refine I.step (g':=s.gens) (d':=s.drawn) (ch:=[it]) (fun b hb=>?_) (fun b o _ _ hc e _=>k b o (fun z=>hc (by simp[z])) e) (fun b o _ _ hc e _=>⟨o.slots,k b o (fun z=>hc (by simp[z])) e⟩) (fun _ _ _ _ n=>n)
  (fun b o hc e=>⟨o,k b o (fun z=>hc (by simp[z])) e⟩) (fun _ _ e=>e) (fun _ _ _ e=>e) (fun b ps e=>⟨#[],by rw[e];simp⟩) (fun m hm=>?_) (fun b u e=>?_) I.bare
 .have e:b=it:=by simpa using hb
  subst e;exact⟨h1,hL,h2,h3⟩
 .obtain⟨o,es,ep,ho,r⟩:=hm;exact⟨o,es,ep,k _ o (Xg hL) ho,r⟩
 .refine(I.cW b u e).lW (fun c v hc q=>k c v ?_ q) (fun _ q=>q) fun _ _ q=>q;rcases hc with z|z
  .rw[z];exact nit b u e
  .exact nit c _ z
theorem aV.tok(I:aV X ai σ H s)(t:Nat):aV X ai σ H {s with toks:=t}:=I.un (h':=s.heap) (t':=t) Un.refl I.cW
theorem aV.kept{t':Nat}(I:aV X ai σ H s)(k:∀b u,s.heap.get? b=some u->h'.get? b=some u):aV X ai σ H {s with heap:=h',toks:=t'}:=I.un (Un.kept k) (I.cW.kept k)
theorem aV.laid{o:HO}{t':Nat}(I:aV X ai σ H s)(k:∀b u,s.heap.get? b=some u->h'.get? b=some u)(hp:s.heap.objs.size<=a)(new:dk X.prog X.w (upd H a o) h' a o):
  aV X ai σ (upd H a o) {s with heap:=h',toks:=t'}:=I.un (Un.laid k hp (I.cW.fresh hp)) (I.cW.laid k hp new)
theorem aV.write{x e:_t}{o:HO}{t':Nat}(I:aV X ai σ H s)(mu:P' (H x))(he:e=x\/H e=some (.own x))(k:∀b u,b≠e->s.heap.get? b=some u->h'.get? b=some u)(Py:∃u,h'.get? e=some u)(new:dk X.prog X.w (upd H x o) h' x o):aV X ai σ (upd H x o) {s with heap:=h',toks:=t'}:=I.un (Un.write mu he k Py) (I.cW.write mu he k Py new)
theorem aV.qr{Eu:_k}(I:aV X ai σ H s)(h:∀p∈Eu,s.heap.get? p.1=some p.2/\H p.1=none/\p.1≠X.env.locals/\p.1 ∉ X.fs/\∀v,p.2.data≠.cell v):aV X Eu σ H s:=
 ⟨I.ok,I.os,I.bare,I.base,I.loc,I.cell,I.free,I.iV,fun p hp=>(We.mp hp).elim (fun z=>I.pin p (WL _ z)) (h p),I.cW,I.len⟩
theorem qG{N:_q}(hN:N.Nodup){j:Nat}{x:Str}(a:N[i]?=some x)(b:N[j]?=some x):i=j:=by obtain⟨h1,e1⟩:=VP.mp a;obtain⟨h2,e2⟩:=VP.mp b;exact(Zr hN).mp (e1.trans e2.symm)
theorem nV{M:Model}{A:_u}{E:_i}{x:Str}{v:V}{u:_r}{Q:Unit->_s->Prop}(I:aV X ai σ H s)(hN:X.N.Nodup)(hi:X.N[i]?=some x)(hx:Loc X.env.scope x)(r:bT v u)(h:∀s',aV X ai (σ.set i (some v)) H s'->(∃a,Heap.SameBut a s.heap s'.heap/\(a=X.env.locals\/X.env.cells.lookup x=some a))->Q () s')(hf:X.fn x=true\/X.env.scope.names.lookup x=some .local:=by first|exact .inl rfl|exact .inr rfl|assumption):wpAny M A (storeName X.env x u) Q E s:=by
 obtain⟨m,hn,hl⟩:=id I.loc;have TM:(X.env.scope.kind == .class || (X.env.scope.kind == .module&&X.env.locals !=X.env.globals))=false:=by rw[I.ok.kind];rfl
 have Qc:i<σ.length:=by rw[I.len];exact(VP.mp hi).1
 have Ij:=I.Ij;have tracked:∀{a:_t}{h':Heap},(∃o,s.heap.get? a=some o/\H a=none)->Heap.SameBut a s.heap h'->jG X.prog X.w H h':=fun{a h'}ha hs b ob e=>by
  obtain⟨_,_,Bg⟩:=ha;refine(I.cW b ob e).lW (fun c w' hc q=>(hs.2 c ?_).trans q) (fun _ q=>q) fun _ _ q=>q;rintro rfl;rcases hc with rfl|hc
  .rw[Bg]at e;cases e
  .rw[Bg]at hc;cases hc
 rcases hx with hk|hk
 .refine wpAny_storeName_local hk hn (fun h' PB hs=>?_) TM;obtain⟨oL,_,_,hoL,_⟩:=id hn;refine h _ ⟨I.ok,I.os,I.bare,⟨fun b o e n hb hx=>?_,fun b o e n hb hx=>?_,I.base.free,fun b o e hx=>?_,I.base.jH,I.base.ju,I.base.j9⟩,⟨_,PB,fun j y v' e1 e2 e3=>?_⟩,fun y c e=>?_,I.free,I.iV,fun p hp=>?_,tracked ⟨oL,hoL,I.free⟩ hs,by simpa using I.len⟩ ⟨_,hs,.inl rfl⟩
  .exact(hs.2 b (V7 (VQ (VL e) I.ok.above))).trans (I.base.keep b o e n hb hx)
  .obtain⟨sl,e1⟩:=I.base.slot b o e n hb hx;exact⟨sl,(hs.2 b (V7 (VQ (VL e) I.ok.above))).trans e1⟩
  .obtain⟨o',e1⟩:=I.base.there b o e hx;exact⟨o',(hs.2 b (V7 (VQ (VL e) I.ok.above))).trans e1⟩
  .by_cases hj:j=i
   .subst hj;rw[hi]at e1;cases e1;rw[VY Qc]at e2;cases e2;exact⟨u,r,.inl ⟨hk,by simp⟩⟩
   .rw[V6 (Xg hj)]at e2;obtain⟨u',r',q⟩:=hl j y v' e1 e2 e3;refine⟨u',r',?_⟩;rcases q with⟨k,e⟩|⟨k,c,e,z⟩
    .refine .inl ⟨k,?_⟩;have:y≠x:=fun e=>hj (qG hN e1 (e▸hi));simp[this,e]
    .exact .inr ⟨k,c,e,z.sameBut hs (Ij y c e)⟩
  .obtain⟨w',z⟩:=I.cell y c e;exact⟨w',z.sameBut hs (Ij y c e)⟩
  .obtain⟨e,n,ne,nf,d⟩:=I.pin p hp;exact⟨(hs.2 p.1 ne).trans e,n,ne,nf,d⟩
 .have Ew:X.fn x=true:=by
   rcases hf with z|z
   .exact z
   .rw[z]at hk;cases hk
  obtain⟨c,hc⟩:=I.ok.has x (.inl hk);obtain⟨w',z⟩:=I.cell x c hc;refine wpAny_storeName_cell I.ok.kind hk hc z (fun h' d4 hs=>?_);obtain⟨oc,hoc,TN⟩:=id z;refine h {s with heap:=h'} ⟨I.ok,I.os,I.bare,⟨fun b o e n hb hx=>?_,fun b o e n hb hx=>?_,I.base.free,fun b o e hx=>?_,I.base.jH,I.base.ju,I.base.j9⟩,⟨m,hn.sameBut hs (Xg (Ij x c hc)),fun j y v' e1 e2 e3=>?_⟩,fun y c' e=>?_,I.free,I.iV,fun p hp=>?_,tracked ⟨oc,hoc,I.iV x c hc⟩ hs,by simpa using I.len⟩ ⟨c,hs,.inr hc⟩
  .exact(hs.2 b (V7 (VQ (VL e) (I.ok.Mi x c Ew hc)))).trans (I.base.keep b o e n hb hx)
  .obtain⟨sl,e1⟩:=I.base.slot b o e n hb hx;exact⟨sl,(hs.2 b (V7 (VQ (VL e) (I.ok.Mi x c Ew hc)))).trans e1⟩
  .obtain⟨o',e1⟩:=I.base.there b o e hx;exact⟨o',(hs.2 b (V7 (VQ (VL e) (I.ok.Mi x c Ew hc)))).trans e1⟩
  .by_cases hj:j=i
   .subst hj;rw[hi]at e1;cases e1;rw[VY Qc]at e2;cases e2;exact⟨u,r,.inr ⟨.inl hk,c,hc,d4⟩⟩
   .rw[V6 (Xg hj)]at e2;obtain⟨u',r',q⟩:=hl j y v' e1 e2 e3;refine⟨u',r',?_⟩;rcases q with q|⟨k,c',e,z'⟩
    .exact .inl q
    .refine .inr ⟨k,c',e,z'.sameBut hs ?_⟩;rintro rfl;exact hj (qG hN e1 (I.ok.inj _ _ _ e hc▸hi))
  .by_cases hcc:c'=c
   .subst hcc;exact⟨_,d4⟩
   .obtain⟨w2,z2⟩:=I.cell y c' e;exact⟨w2,z2.sameBut hs hcc⟩
  .obtain⟨e,n,ne,nf,d⟩:=I.pin p hp;refine⟨(hs.2 p.1 ?_).trans e,n,ne,nf,d⟩;intro q;rw[q,hoc]at e;have q':oc=p.2:=V! e;exact d w' (by rw[<-q'];exact TN)
theorem qH{M:Model}{A:_u}{E:_i}{x:Str}{v:V}{u:_r}{Q:Unit->_s->Prop}(I:aV X ai σ H s)(hN:X.N.Nodup)(hi:X.N[i]?=some x)(hx:Loc X.env.scope x)(r:bT v u)(h:∀s',aV X ai (σ.set i (some v)) H s'->Q () s')(hf:X.fn x=true\/X.env.scope.names.lookup x=some .local:=by first|exact .inl rfl|exact .inr rfl|assumption):wpAny M A (storeName X.env x u) Q E s:=
 nV I hN hi hx r (fun s' I' _=>h s' I') hf
theorem aV.xx(I:aV X ai σ H s)(ho:s'.os=s.os)(u:Un (fZ X.stack) ch H H' s.heap s'.heap)(cW:jG X.prog X.w H' s'.heap)(hg:AllBare s'.gens)(Ed:∀b∈ch,(b∈X.ex\/X.s₀.heap.objs.size<=b)/\b≠X.env.locals/\(∀x c,X.env.cells.lookup x=some c->c≠b)/\∀p∈X.pn++ai,p.1≠b):aV X ai σ H' s':=by obtain⟨h',g',d',t',o'⟩:=s';have e:o'=s.os:=ho;subst e;exact I.call (g':=g') (t':=t') (d':=d') u cW hg Ed
end
abbrev XK:=_r->Option _t->Hp->Prop
abbrev St:=List (Option V)
abbrev VK:=V->Hp->Prop
abbrev TE:=St->Hp->VK->Prop
abbrev TT:=St->Hp->(Bool->Hp->Prop)->Prop
abbrev TA:=St->Hp->(List V->Hp->Prop)->Prop
structure Ends where
 nx:St->Hp->Prop
 rt:VK
 bk:St->Hp->Prop:=fun _ _=>False
 ct:St->Hp->Prop:=fun _ _=>False
abbrev TS:=Ends->St->Hp->Prop
def EP(X:Cx)(ai:_k)(σ:St)(Q:VK)(u:_r)(s':_s):Prop:=∃v H',aV X ai σ H' s'/\bT v u/\Q v H'
def TP(X:Cx)(ai:_k)(σ:St)(Q:Bool->Hp->Prop)(b:Bool)(s':_s):Prop:=∃H',aV X ai σ H' s'/\Q b H'
def AP(X:Cx)(ai:_k)(σ:St)(Q:List V->Hp->Prop)(us:_n)(s':_s):Prop:=∃vs H',aV X ai σ H' s'/\bN vs us/\Q vs H'
def SP(X:Cx)(ai:_k)(D:Ends)(f:Flow)(s':_s):Prop:=
 match f with
 |.next=>∃σ' H',aV X ai σ' H' s'/\D.nx σ' H'
 |.brk=>∃σ' H',aV X ai σ' H' s'/\D.bk σ' H'
 |.cont=>∃σ' H',aV X ai σ' H' s'/\D.ct σ' H'
 |.ret u=>∃v σ' H',aV X ai σ' H' s'/\bT v u/\D.rt v H'
def PE(X:Cx)(e:Expr)(t:TE):Prop:=
 ∀(ai:_k)(s:_s)(σ:St)(H:Hp)(Q:VK),aV X ai σ H s->t σ H Q->wpAny (model X.prog X.w) X.A (eval e X.env) (EP X ai σ Q) X.xe s
def PT(X:Cx)(e:Expr)(t:TT):Prop:=
 ∀(ai:_k)(s:_s)(σ:St)(H:Hp)(Q:Bool->Hp->Prop),aV X ai σ H s->t σ H Q->wpAny (model X.prog X.w) X.A (isTrue e X.env (eval e X.env)) (TP X ai σ Q) X.xe s
def PW(X:Cx)(e:Expr)(t:TT):Prop:=
 ∀(whole:Sem _r)(ai:_k)(s:_s)(σ:St)(H:Hp)(Q:Bool->Hp->Prop),aV X ai σ H s->t σ H Q->wpAny (model X.prog X.w) X.A (isTrue e X.env whole) (TP X ai σ Q) X.xe s
theorem PW.pt{X:Cx}{t:TT}(h:PW X e t):PT X e t:=h _
def PA(X:Cx)(es:List Expr)(t:TA):Prop:=
 ∀(pos:Pos)(ai:_k)(s:_s)(σ:St)(H:Hp)(Q:List V->Hp->Prop),aV X ai σ H s->t σ H Q->wpAny (model X.prog X.w) X.A (spliced (backTo pos (starEach es X.env))) (AP X ai σ Q) X.xe s
def PS(X:Cx)(st:Stmt)(t:TS):Prop:=
 ∀(ai:_k)(s:_s)(σ:St)(H:Hp)(D:Ends),aV X ai σ H s->t D σ H->wpAny (model X.prog X.w) X.A (exec st X.env) (SP X ai D) X.xe s
def j'(X:Cx)(st:List Stmt)(t:TS):Prop:=
 ∀(ai:_k)(s:_s)(σ:St)(H:Hp)(D:Ends),aV X ai σ H s->t D σ H->wpAny (model X.prog X.w) X.A (execs st X.env) (SP X ai D) X.xe s
theorem cR{t:Sem α}{Q Q':α->_s->Prop}{M:Model}{A:_u}{E:_i}(h:wpAny M A t Q E s)(hQ:∀a s,Q a s->Q' a s):wpAny M A t Q' E s:=Wg h hQ fun _ _ x=>x
section
variable{X:Cx}
def TQ(i:Nat):TE:=fun σ H Q=>∃v,σ[i]?=some (some v)/\Q v H
def tC(v:V):TE:=fun _ H Q=>Q v H
theorem Ex{x:Str}(hN:X.N[i]?=some x)(hv:Mh X.env.scope x)(hd:(x==("__debug__":Str))=false:=by decide)(zN:(x==("__classdict__":Str))=false:=by decide):PE X (.Name x pos) (TQ i):=by
 intro ai s σ H Q I h;obtain⟨v,e,h⟩:=h;obtain⟨m,hn,hl⟩:=I.loc;obtain⟨u,r,l⟩:=hl i x v hN e hv;have fin:EP X ai σ Q u s:=⟨v,H,I,r,h⟩
 rcases l with⟨hk,hm⟩|⟨hk,c,hc,Lu⟩
 .exact wpAny_Name (wpAny_loadName_local I.ok.kind hk hn hm fin) hd
 .rcases hk with hk|hk
  .exact wpAny_Name (wpAny_loadName_cell I.ok.kind hk hc Lu fin) hd
  .exact wpAny_Name (wpAny_loadName_free I.ok.kind hk hc Lu fin zN) hd
theorem Mj{i j pos}:PE X (.Constant (.int i) j pos) (tC (.int i)):=fun _ _ _ H _ I h=>wpAny_Constant_int ⟨.int i,H,I.tok _,⟨_,rfl⟩,h⟩
theorem Lv{b j pos}:PE X (.Constant (.bool b) j pos) (tC (.bl b)):=fun _ _ _ H _ I h=>Constant_bool ⟨.bl b,H,I,rfl,h⟩
theorem Mk{j pos}:PE X (.Constant .none j pos) (tC .cO):=fun _ _ _ H _ I h=>Constant_none ⟨.cO,H,I,rfl,h⟩
theorem Ml{x j pos}:PE X (.Constant (.str x) j pos) (tC (.str x)):=fun _ _ _ H _ I h=>Calls.Constant_str ⟨.str x,H,I.tok _,⟨_,rfl⟩,h⟩
def Gl(X:Cx)(x:Str):Prop:=X.env.kindOf x=some .globalImplicit
theorem kP{E:_i}{σ:St}{H:Hp}{x:Str}{u:_r}(I:aV X ai σ H s)(hg:Gl X x)(hm:X.mg x=some u)(h:Q u s)(hd:(x==("__debug__":Str))=false:=by decide):wpAny (model X.prog X.w) X.A (eval (.Name x pos) X.env) Q E s:=
 Zz I.ok.kind hg (Calls.loadGlobal_global (by rw[I.ok.glob];exact I.mod.glob.keeps I.bk) hm h) hd
theorem kf{E:_i}{σ:St}{H:Hp}{x:Str}{u:_r}(I:aV X ai σ H s)(hg:Gl X x)(hm:X.mg x=none)(hv:bootBuiltins x=some u)(h:Q u s)(hn:x ≠ "__name__":=by decide)(hd:(x==("__debug__":Str))=false:=by decide):wpAny (model X.prog X.w) X.A (eval (.Name x pos) X.env) Q E s:=by obtain⟨mb,h1,h2⟩:=I.mod.blt;exact Zz I.ok.kind hg (Calls.loadGlobal_builtin (by rw[I.ok.glob];exact I.mod.glob.keeps I.bk) hm (by rw[I.ok.blt];exact h1.keeps I.bk) ((h2 x hn).trans hv) h) hd
theorem Bh{x:Str}{v:V}{u:_r}(hg:Gl X x)(hm:X.mg x=some u)(r:bT v u)(hd:(x==("__debug__":Str))=false:=by decide):PE X (.Name x pos) (tC v):=
 fun _ _ _ H _ I h=>kP I hg hm ⟨v,H,I,r,h⟩ hd
theorem Bi{x:Str}{v:V}{u:_r}(hg:Gl X x)(hm:X.mg x=none)(hv:bootBuiltins x=some u)(r:bT v u)(hn:x ≠ "__name__":=by decide)(hd:(x==("__debug__":Str))=false:=by decide):PE X (.Name x pos) (tC v):=
 fun _ _ _ H _ I h=>kf I hg hm hv ⟨v,H,I,r,h⟩ hn hd
variable{a b:Expr}{ta tb:TE}
def PC(X:Cx)(op:CmpOp)(a b:Expr)(t:TE):Prop:=
 ∀(ai:_k)(s:_s)(σ:St)(H:Hp)(Q:VK),aV X ai σ H s->t σ H Q ->
  wpAny (model X.prog X.w) X.A (eval a X.env) (fun v s₁=>wpAny (model X.prog X.w) X.A (eval b X.env) (fun u s₂=>wpAny (model X.prog X.w) X.A (compareOp op v u) (EP X ai σ Q) X.xe s₂) X.xe s₁) X.xe s
def tB(t:TE):TT:=fun σ H Q=>t σ H fun x H1=>∃c,x=.bl c/\Q c H1
theorem Mm{t:TE}(h:PE X e t)(he:∀whole,isTrue e X.env whole=(do let v <- whole;standAt e.pos;holding [v] (truthy v)):=by intro _;rfl):PT X e (tB t):=by intro ai s σ H Q I hw;refine isTrue_plain (cR (h ai s σ H _ I hw) fun v s1⟨x,H1,I1,r1,q1⟩=>?_) (he _);obtain⟨d,rfl,q⟩:=q1;cases r1;exact W_ ⟨H1,I1,q⟩
variable{tA IB:TT}{rest:List Expr}
def TR(t u:TT):TT:=fun σ H Q=>t σ H fun c H1=>if c=true then u σ H1 Q else Q false H1
def tOr(t u:TT):TT:=fun σ H Q=>t σ H fun c H1=>if c=true then Q true H1 else u σ H1 Q
def TU(t:TT):TT:=fun σ H Q=>t σ H fun c H1=>Q (!c) H1
theorem IC(ha:PT X a tA):PW X (.BoolOp .And [a] pos) tA:=by
 intro wh ai s σ H Q I h;refine isTrue_and (cR (ha ai s σ H Q I h) fun c s1 e=>?_);cases c with
 |true=>exact isTrue_and_nil e
 |false=>exact e
theorem Mn(ha:PT X a tA):PW X (.BoolOp .Or [a] pos) tA:=by
 intro wh ai s σ H Q I h;refine isTrue_or (cR (ha ai s σ H Q I h) fun c s1 e=>?_);cases c with
 |false=>exact isTrue_or_nil e
 |true=>exact e
theorem Mo(ha:PT X a tA)(hb:PW X (.BoolOp .And (b::rest) pos) IB):PW X (.BoolOp .And (a::b::rest) pos) (TR tA IB):=by
 intro wh ai s σ H Q I h;refine isTrue_and (cR (ha ai s σ H _ I h) fun c s1⟨H1,I1,q1⟩=>?_);cases c with
 |true=>exact hb wh ai s1 σ H1 Q I1 q1
 |false=>exact⟨H1,I1,q1⟩
theorem Qd(ha:PT X a tA)(hb:PW X (.BoolOp .Or (b::rest) pos) IB):PW X (.BoolOp .Or (a::b::rest) pos) (tOr tA IB):=by
 intro wh ai s σ H Q I h;refine isTrue_or (cR (ha ai s σ H _ I h) fun c s1⟨H1,I1,q1⟩=>?_);cases c with
 |true=>exact⟨H1,I1,q1⟩
 |false=>exact hb wh ai s1 σ H1 Q I1 q1
theorem Mp(ha:PT X a tA):PT X (.UnaryOp .Not a pos) (TU tA):=by intro ai s σ H Q I h;exact isTrue_not (ha ai s σ H (fun c H1=>Q (!c) H1) I h)
def Qe(ta tb:TE):TE:=fun σ H Q=>ta σ H fun x H1=>∃c,x=.bl c/\if c=true then tb σ H1 Q else Q (.bl false) H1
def TV(ta tb:TE):TE:=fun σ H Q=>ta σ H fun x H1=>∃c,x=.bl c/\if c=true then Q (.bl true) H1 else tb σ H1 Q
def Qf(ta:TE):TE:=fun σ H Q=>ta σ H fun x H1=>∃c,x=.bl c/\Q (.bl (!c)) H1
theorem Mq{op}{t:TE}(h:PE X a t):PE X (.BoolOp op [a] pos) t:=fun ai s σ H Q I hw=>BoolOp_one (h ai s σ H Q I hw)
theorem Mr(ha:PE X a ta)(hb:PE X (.BoolOp .And (b::rest) pos) tb):PE X (.BoolOp .And (a::b::rest) pos) (Qe ta tb):=by
 intro ai s σ H Q I h;refine BoolOp_and (cR (ha ai s σ H _ I h) fun v s1⟨x,H1,I1,r1,q1⟩=>?_);obtain⟨c,rfl,q1⟩:=q1;cases r1;refine W_ ?_;cases c with
 |true=>exact hb ai s1 σ H1 Q I1 q1
 |false=>exact⟨.bl false,H1,I1,rfl,q1⟩
theorem Qg(ha:PE X a ta)(hb:PE X (.BoolOp .Or (b::rest) pos) tb):PE X (.BoolOp .Or (a::b::rest) pos) (TV ta tb):=by
 intro ai s σ H Q I h;refine BoolOp_or (cR (ha ai s σ H _ I h) fun v s1⟨x,H1,I1,r1,q1⟩=>?_);obtain⟨c,rfl,q1⟩:=q1;cases r1;refine W_ ?_;cases c with
 |false=>exact hb ai s1 σ H1 Q I1 q1
 |true=>exact⟨.bl true,H1,I1,rfl,q1⟩
theorem Ms(ha:PE X a ta):PE X (.UnaryOp .Not a pos) (Qf ta):=by intro ai s σ H Q I h;refine UnaryOp_ (cR (ha ai s σ H _ I h) fun v s1⟨x,H1,I1,r1,q1⟩=>?_);obtain⟨c,rfl,q1⟩:=q1;cases r1;exact not_of (W_ ⟨.bl (!c),H1,I1,rfl,q1⟩)
def tIf(t:TT)(ta tb:TE):TE:=fun σ H Q=>t σ H fun c H1=>if c=true then ta σ H1 Q else tb σ H1 Q
theorem Ey{c:Expr}(hc:PT X c tA)(ha:PE X a ta)(hb:PE X b tb):PE X (.IfExp c a b pos) (tIf tA ta tb):=by
 intro ai s σ H Q I h;refine wpAny_IfExp (cR (hc ai s σ H _ I h) fun d s1⟨H1,I1,q1⟩=>?_);cases d with
 |true=>exact ha ai s1 σ H1 Q I1 q1
 |false=>exact hb ai s1 σ H1 Q I1 q1
end
def lY(K:_l)(H:Hp)(a:_t)(xs:List V):Prop:=
 Rd H a (.lst xs) \/
  ∃(o:Obj)(aM:Array _r)(n:Nat),K.lookup a=some o/\o.cls=.type "list" /\ o.dict=none/\o.data=.seq aM n/\aM.size<=sizeLine/\bN xs aM.toList
def kQ(K:_l)(H:Hp)(a:_t)(xs:List V):Prop:=
 Rd H a (.tup xs) \/
  ∃(o:Obj)(aM:Array _r)(n:Nat),K.lookup a=some o/\o.cls=.type "tuple" /\ o.data=.seq aM n/\aM.size<=sizeLine/\bN xs aM.toList
def TY:_r->Option V
 |.none=>some .cO
 |.bool b=>some (.bl b)
 |.int i _=>some (.int i)
 |.str x _=>some (.str x)
 |.bytes b _=>some (.Tz b)
 |.float b _=>some (.mM b)
 |.ref a=>some (.ref a)
 |.type n=>some (.ty n)
 |_=>none
theorem bT.abs{x:V}{u:_r}(r:bT x u):TY u=some x:=by
 cases x with
 |cO=>cases r;rfl
 |bl _=>cases r;rfl
 |int _=>obtain⟨t,rfl⟩:=r;rfl
 |str _=>obtain⟨t,rfl⟩:=r;rfl
 |Tz _=>obtain⟨t,rfl⟩:=r;rfl
 |mM _=>obtain⟨t,rfl⟩:=r;rfl
 |ref _=>cases r;rfl
 |ty _=>cases r;rfl
theorem bT.inj{x y:V}{u:_r}(r:bT x u)(q:bT y u):x=y:=V! (r.abs.symm.trans q.abs)
theorem bN.inj{xs ys:List V}{us:_n}(p:bN xs us)(q:bN ys us):xs=ys:=by
 induction p generalizing ys with
 |nil=>cases q;rfl
 |cons r t ih=>
  cases q with
  |cons r' t'=>rw[r.inj r',ih t']
section
variable{X:Cx}{σ:St}{H:Hp}{xs ys:List V}
theorem lY.of{K:_l}(h:H a=some (.lst xs)):lY K H a xs:=.inl (.inl h)
theorem kQ.of{K:_l}(h:H a=some (.tup xs)):kQ K H a xs:=.inl (.inl h)
theorem aV.list(I:aV X ai σ H s)(h:lY X.K H a xs):∃aM:_n,bN xs aM/\PlainL s.heap a aM.toArray/\xs.length<=sizeLine:=by
 rcases h with h|⟨o,aM,n,hk,hc,hd,hs,hz,r⟩
 .obtain⟨z,aM,n,r,e⟩:=h.ok I.cW;exact⟨aM,r,⟨_,n,e,rfl,rfl,rfl⟩,z⟩
 .refine⟨aM.toList,r,⟨o,n,I.qp a o hk,hc,hd,by simpa using hs⟩,?_⟩;have e:=r.length;simp only[V5]at e;lia
theorem aV.tuple(I:aV X ai σ H s)(h:kQ X.K H a xs):∃aM:_n,bN xs aM/\IsTup s.heap a aM.toArray/\xs.length<=sizeLine:=by
 rcases h with h|⟨o,aM,n,hk,hc,hs,hz,r⟩
 .obtain⟨z,aM,r,p⟩:=h.ok I.cW;exact⟨aM,r,p,z⟩
 .refine⟨aM.toList,r,⟨o,I.qp a o hk,hc,n,by simpa using hs⟩,?_⟩;have e:=r.length;simp only[V5]at e;lia
theorem aV.qJ(I:aV X ai σ H s)(h:lY X.K H a xs)(h':lY X.K H a ys):xs=ys:=by
 obtain⟨aM,r,⟨o,n,e,_,_,d⟩,_⟩:=I.list h;obtain⟨its',r',⟨o',n',e',_,_,d'⟩,_⟩:=I.list h';rw[e]at e';cases e';rw[d]at d';injection d' with d1 _;have:aM=its':=by simpa using W! Array.toList d1
 subst this;exact r.inj r'
theorem aV.kR(I:aV X ai σ H s)(h:kQ X.K H a xs)(h':kQ X.K H a ys):xs=ys:=by
 obtain⟨aM,r,⟨o,e,_,n,d⟩,_⟩:=I.tuple h;obtain⟨its',r',⟨o',e',_,n',d'⟩,_⟩:=I.tuple h';rw[e]at e';cases e';rw[d]at d';injection d' with d1 _;have:aM=its':=by simpa using W! Array.toList d1
 subst this;exact r.inj r'
end
abbrev Cx.mP(X:Cx)(E:_i):Cx:={X with xe:=E}
theorem Cx.Ok.mP{X:Cx}(ok:X.Ok)(E:_i):(X.mP E).Ok:=
 ⟨ok.mod,ok.kind,ok.glob,ok.blt,ok.above,ok.inj,ok.has,ok.Mi,ok.hd,ok.frames,ok.Ep,ok.TC,ok.bs,ok.Lr,ok.zM,ok.Er,ok.lX,ok.Es⟩
theorem Cx.Ok.qK{X:Cx}{E:_i}(ok:(X.mP E).Ok):X.Ok:=
 ⟨ok.mod,ok.kind,ok.glob,ok.blt,ok.above,ok.inj,ok.has,ok.Mi,ok.hd,ok.frames,ok.Ep,ok.TC,ok.bs,ok.Lr,ok.zM,ok.Er,ok.lX,ok.Es⟩
section
variable{X:Cx}{σ:St}{H:Hp}{E:_i}
theorem aV.mP(I:aV X ai σ H s)(E:_i):aV (X.mP E) ai σ H s:=⟨I.ok.mP E,I.os,I.bare,I.base,I.loc,I.cell,I.free,I.iV,I.pin,I.cW,I.len⟩
theorem aV.qK(I:aV (X.mP E) ai σ H s):aV X ai σ H s:=⟨I.ok.qK,I.os,I.bare,I.base,I.loc,I.cell,I.free,I.iV,I.pin,I.cW,I.len⟩
end
section
variable{X:Cx}{st:Stmt}{rest:List Stmt}{t u:TS}{te:TE}
def Qh:TS:=fun D σ H=>D.nx σ H
def TZ(t u:TS):TS:=fun D σ H=>t {D with nx:=u D} σ H
theorem ID:j' X [] Qh:=fun _ _ σ H _ I h=>Xv ⟨σ,H,I,h⟩
theorem Ez(h1:PS X st t)(h2:j' X rest u):j' X (st::rest) (TZ t u):=by
 intro ai s σ H D I h;refine Y7 (cR (h1 ai s σ H {D with nx:=u D} I h) fun f s1 q=>?_);cases f with
 |next=>
  obtain⟨σ',H',I',q⟩:=q;exact h2 ai s1 σ' H' D I' q
 |ret v=>exact q
 |brk=>exact q
 |cont=>exact q
theorem IE(h1:PS X st t):j' X [st] t:=by
 intro ai s σ H D I h;refine Y7 (cR (h1 ai s σ H D I h) fun f s1 q=>?_);cases f with
 |next=>exact Xv q
 |ret v=>exact q
 |brk=>exact q
 |cont=>exact q
theorem aV.quiet{σ:St}{H:Hp}(I:aV X ai σ H s):interactive X.env=false:=by simp[interactive,I.ok.kind]
def Qi(te:TE):TS:=fun D σ H=>te σ H fun _ H1=>D.nx σ H1
theorem IF(he:PE X e te)(hs:swapsWith e none pos.line X.env=pure false:=by rfl):PS X (.Expr e pos) (Qi te):=by intro ai s σ H D I h;exact wpAny_Expr_any (cR (he ai s σ H _ I h) fun v s1⟨x,H1,I1,r1,q1⟩=>⟨σ,H1,I1,q1⟩) I.quiet hs
def T1(te:TE):TS:=fun D σ H=>te σ H D.rt
theorem Mt(he:PE X e te):PS X (.Return (some e) pos) (T1 te):=by intro ai s σ H D I h;exact wpAny_Return_some (cR (he ai s σ H _ I h) fun v s1⟨x,H1,I1,r1,q1⟩=>⟨x,σ,H1,I1,r1,q1⟩)
def T2(c:TT)(t u:TS):TS:=fun D σ H=>c σ H fun b H1=>if b=true then t D σ H1 else u D σ H1
theorem Qj{c:Expr}{a b:List Stmt}{tc:TT}(hc:PT X c tc)(ha:j' X a t)(hb:j' X b u):PS X (.If c a b pos) (T2 tc t u):=by
 intro ai s σ H D I h;refine wpAny_If (cR (hc ai s σ H _ I h) fun d s1⟨H1,I1,q1⟩=>?_);cases d with
 |true=>exact ha ai s1 σ H1 D I1 q1
 |false=>exact hb ai s1 σ H1 D I1 q1
end
abbrev TG:=V->St->Hp->(St->Hp->Prop)->Prop
abbrev IG:=List V->St->Hp->(St->Hp->Prop)->Prop
def PG(X:Cx)(target:Expr)(t:TG):Prop:=
 ∀(ai:_k)(s:_s)(σ:St)(H:Hp)(v:V)(u:_r)(Q:St->Hp->Prop),aV X ai σ H s->bT v u->t v σ H Q ->
  wpAny (model X.prog X.w) X.A (assign target X.env u) (fun _ s'=>∃σ' H',aV X ai σ' H' s'/\Q σ' H') X.xe s
def zO(X:Cx)(ts:List Expr)(t:IG):Prop:=
 ∀(ai:_k)(s:_s)(σ:St)(H:Hp)(vs:List V)(us:_n)(Q:St->Hp->Prop),aV X ai σ H s->bN vs us->t vs σ H Q ->
  wpAny (model X.prog X.w) X.A (assignInOrder ((assignEach ts X.env).map (·.2)) us) (fun _ s'=>∃σ' H',aV X ai σ' H' s'/\Q σ' H') X.xe s
abbrev Mu:=V->V->V->Hp->(Hp->Prop)->Prop
def Qk(X:Cx)(t:Mu):Prop:=
 ∀(ai:_k)(s:_s)(σ:St)(H:Hp)(o i v:V)(ov iv u:_r)(Q:Hp->Prop),aV X ai σ H s->bT o ov->bT i iv->bT v u->t o i v H Q ->
  wpAny (model X.prog X.w) X.A (setItem ov iv u) (fun _ s'=>∃H',aV X ai σ H' s'/\Q H') X.xe s
section
variable{X:Cx}
def xy(i:Nat):TG:=fun v σ H Q=>Q (σ.set i (some v)) H
theorem IH{x:Str}(hN:X.N.Nodup)(hi:X.N[i]?=some x)(hx:Loc X.env.scope x)(hf:X.fn x=true\/X.env.scope.names.lookup x=some .local:=by first|exact .inl rfl|exact .inr rfl|assumption):PG X (.Name x pos) (xy i):=by intro ai s σ H v u Q I r h;exact wpAny_assign_Name (qH I hN hi hx r (fun s' I'=>⟨_,H,I',h⟩) hf)
def T3:IG:=fun vs σ H Q=>vs=[]/\Q σ H
def Ql(t:TG)(u:IG):IG:=fun vs σ H Q=>∃v r,vs=v::r/\t v σ H fun σ' H'=>u r σ' H' Q
theorem II:zO X [] T3:=by intro ai s σ H vs us Q I r h;obtain⟨e,h⟩:=h;subst e;cases r;exact assignInOrder_nil ⟨σ,H,I,h⟩
theorem EA{t:TG}{u:IG}(h1:PG X e t)(h2:zO X es u)(hs:(assignEach (e::es) X.env).map (·.2)=assign e X.env::(assignEach es X.env).map (·.2):=by rfl):zO X (e::es) (Ql t u):=by
 intro ai s σ H vs us Q I r h;obtain⟨v,vr,e1,h⟩:=h;subst e1;cases r with
 |cons r rr=>
  rw[hs];refine assignInOrder_cons (cR (h1 ai s σ H _ _ _ I r h) fun _ s1⟨σ1,H1,I1,q1⟩=>?_);exact h2 ai s1 σ1 H1 _ _ Q I1 rr q1
def T4(K:_l)(n:Nat)(t:IG):TG:=fun v σ H Q=>∃a xs,v=.ref a/\kQ K H a xs/\xs.length=n/\t xs σ H Q
theorem Mv{k:Nat}{t:IG}(hc:X.calm=true)(h:zO X es t)(hn:(assignEach es X.env).length=n:=by rfl)(Ik:(assignEach es X.env).findIdx? (·.1)=none:=by rfl):PG X (.Tuple es k pos) (T4 X.K n t):=by intro ai s σ H v u Q I r hw;obtain⟨a,xs,e1,hq,hl,hw⟩:=hw;subst e1;cases r;obtain⟨aM,rv,ht,hz⟩:=I.tuple hq;refine assign_Tuple_tuple (I.ok.hd hc) ht (by simp[hn,<-hl,rv.length]) Ik fun h' hx=>?_;have I1:aV X ai σ H {s with heap:=h'}:=I.kept (t':=s.toks) fun b o e=>hx b o (V7 (VL e)) e;exact h ai _ σ H xs _ Q I1 (by simpa using rv) hw
def T5(to ti:TE)(t:Mu):TG:=fun v σ H Q=>to σ H fun o H1=>ti σ H1 fun i H2=>t o i v H2 fun H3=>Q σ H3
theorem Mw{i:Expr}{to ti:TE}{t:Mu}(ho:PE X o to)(hi:PE X i ti)(hs:Qk X t)
  (ha:∀ v,assign (.Subscript o i pos) X.env v=(do
   let ov <- holding [v] (eval o X.env)
   let iv <- holding [v,ov] (eval i X.env)
   standAt pos
   holding [v,ov,iv] (setItem ov iv v)
   release [v,ov,iv] []):=by intro _;rfl):PG X (.Subscript o i pos) (T5 to ti t):=by
 intro ai s σ H v u Q I r h;rw[ha];refine Vn (WM (cR (ho ai s σ H _ I h) fun ov s1⟨x,H1,I1,r1,q1⟩=>?_));refine Vn (WM (cR (hi ai s1 σ H1 _ I1 q1) fun iv s2⟨y,H2,I2,r2,q2⟩=>?_));refine Vn (Ye (Vn (WM (cR (hs ai s2 σ H2 x y v ov iv u _ I2 r1 r2 r q2) fun _ s3⟨H3,I3,q3⟩=>?_))));exact wpAny_release ⟨σ,H3,I3,q3⟩
def IJ(te:TE)(g:TG):TS:=fun D σ H=>te σ H fun x H1=>g x σ H1 D.nx
theorem Mx{te:TE}{g:TG}(he:PE X e te)(hg:PG X tg g)(hs:swapsWithSole [tg] e pos.line X.env=pure false:=by rfl)(hw:swappedStores [tg] e X.env=pure none:=by rfl)(h1:(assignEach [tg] X.env).map (·.2)=[assign tg X.env]:=by rfl):PS X (.Assign [tg] e pos) (IJ te g):=by intro ai s σ H D I h;refine wpAny_Assign_stores (cR (he ai s σ H _ I h) fun v s1⟨x,H1,I1,r1,q1⟩=>?_) hs hw;rw[h1];exact cR (hg ai s1 σ H1 x v _ I1 r1 q1) fun _ s2 q=>q
theorem My{x:Str}{te:TE}(hN:X.N.Nodup)(hi:X.N[i]?=some x)(hx:Loc X.env.scope x)(he:PE X e te)(hs:swapsWith e (some (.Name x pos')) pos.line X.env=pure false:=by rfl)(hf:X.fn x=true\/X.env.scope.names.lookup x=some .local:=by first|exact .inl rfl|exact .inr rfl|assumption):
  PS X (.Assign [.Name x pos'] e pos) (IJ te (xy i)):=by
 intro ai s σ H D I h;refine wpAny_Assign_Name (cR (he ai s σ H _ I h) fun v s1⟨y,H1,I1,r1,q1⟩=>?_) hs;exact qH I1 hN hi hx r1 (fun s2 I2=>⟨_,H1,I2,q1⟩) hf
end
section
variable{X:Cx}
def Mz(c:TT)(tb:TS):TS:=fun D σ H=>∃W:Nat->St->Hp->Prop,(∃m,W m σ H)/\∀m σ H,W m σ H ->
 c σ H fun b H1=>if b=true then ∃N:St->Hp->Prop,(∀σ' H',N σ' H'->∃m',m'<m/\W m' σ' H')/\tb {D with nx:=N,ct:=N,bk:=D.nx} σ H1 else D.nx σ H1
theorem EB{c:Expr}{body:List Stmt}{tc:TT}{tb:TS}(hp:PassesOwn (model X.prog X.w) X.A X.env X.xe)(hc:PT X c tc)(hb:j' X body tb):PS X (.While c body [] pos) (Mz tc tb):=by
 intro ai s σ H D I h;obtain⟨W,⟨m0,w0⟩,turn⟩:=h;refine wpAny_While (codeAny_whileLoop (fun n s'=>∃σ' H',aV X ai σ' H' s'/\W n σ' H') ?_ m0 ⟨σ,H,I,w0⟩);rintro n s1 ⟨σ1,H1,I1,w1⟩;refine Xf hp (cR (hc ai s1 σ1 H1 _ I1 (turn n σ1 H1 w1)) fun b s2⟨H2,I2,q2⟩=>?_);cases b with
 |true=>
  obtain⟨N,hN,q2⟩:=q2;rw[Vs rfl];refine Xf hp (cR (hb ai s2 σ1 H2 _ I2 q2) fun f s3 q3=>?_);cases f with
  |next=>
   obtain⟨σ3,H3,I3,n3⟩:=q3;obtain⟨m',hm,w3⟩:=hN σ3 H3 n3;exact⟨m',hm,σ3,H3,I3,w3⟩
  |cont=>
   obtain⟨σ3,H3,I3,n3⟩:=q3;obtain⟨m',hm,w3⟩:=hN σ3 H3 n3;exact⟨m',hm,σ3,H3,I3,w3⟩
  |brk=>exact q3
  |ret v=>exact q3
 |false=>
  rw[Vx VC];exact Xv ⟨σ1,H2,I2,q2⟩
end
structure It where
 go:Nat->Hp->Prop
 Qm:Nat->Hp->V->Hp->Prop
 stop:Nat->Hp->Prop
def nW(X:Cx)(ai:_k)(H:Hp)(b:_t):Prop:=
 H b=none/\b≠X.env.locals/\b ∉ X.fs/\(b∈X.ex\/X.s₀.heap.objs.size<=b)/\(∀x c,X.env.cells.lookup x=some c->c≠b)/\∀p∈X.pn++ai,p.1≠b
theorem aV.CG{X:Cx}{σ:St}{H H':Hp}{b:_t}(I:aV X ai σ H s)(hb:s.heap.objs.size<=b)(hn:H' b=none):nW X ai H' b:=by
 refine⟨hn,Xj (VQ I.lt hb),I.TH hb,.inr (VX I.sz hb),fun x c e z=>?_,fun p hp z=>?_⟩
 .obtain⟨v,q⟩:=I.cell x c e;exact absurd (VQ q.lt (by rw[z];exact hb)) (Wc _)
 .exact absurd (VQ (VL (I.pin p hp).1) (by rw[z];exact hb)) (Wc _)
structure Turn(P:_v)(w:World)(K:_l)(tg:Expr)(J:It)(fp:_p)(it:_t)(tn:Nat->Heap->Prop):Prop where
 mem:it∈fp
 obj:∀i h,tn i h->∀b∈fp,∃o,h.get? b=some o/\∀v,o.data≠.cell v
 keep:∀i h h',tn i h->(∀b∈fp,∀o,h.get? b=some o->h'.get? b=some o)->tn i h'
 item:∀(X:Cx),X.prog=P->X.w=w->X.K=K->X.calm=true->∀(i:Nat)(ai:_k)(s:_s)(σ:St)(H:Hp)(E:_i),aV X ai σ H s->(∀b∈fp,nW X ai H b)->tn i s.heap->J.go i H ->
  wpAny (model P w) X.A (pyNext (.ref it)) (fun r s1=>∃u,r=some u /\
   wpAny (model P w) X.A (letOwnedTupleGo tg (.ref it) u) (fun _ s2=>∃x H',aV X ai σ H' s2/\bT x u/\J.Qm i H x H'/\tn (i+1) s2.heap/\∀b∈fp,H' b=none) E s1) E s
 done:∀(X:Cx),X.prog=P->X.w=w->X.K=K->X.calm=true->∀(i:Nat)(ai:_k)(s:_s)(σ:St)(H:Hp)(E:_i),aV X ai σ H s->(∀b∈fp,nW X ai H b)->tn i s.heap->J.stop i H ->
  wpAny (model P w) X.A (pyNext (.ref it)) (fun r s1=>r=none/\aV X ai σ H s1) E s
 self:∀(A:_u)(i:Nat)(s:_s)(Q:_i)(E:_i),tn i s.heap->Q (.ref it) s->wpAny (model P w) A (pyIter (.ref it)) Q E s
abbrev TI:=St->Hp->(It->Hp->Prop)->Prop
def PIE(X:Cx)(ai:_k)(σ:St)(tg:Expr)(R:It->Hp->Prop)(Qn:_r)(s2:_s):Prop:=
 ∃(it:_t)(fp:_p)(tn:Nat->Heap->Prop)(J:It)(H':Hp),Qn=.ref it/\aV X ai σ H' s2/\Turn X.prog X.w X.K tg J fp it tn/\tn 0 s2.heap/\(∀b∈fp,nW X ai H' b)/\R J H'
def PI(X:Cx)(tg iter:Expr)(wi:TI):Prop:=
 ∀(ai:_k)(s:_s)(σ:St)(H:Hp)(R:It->Hp->Prop),aV X ai σ H s->wi σ H R ->
  wpAny (model X.prog X.w) X.A (eval iter X.env) (fun v s1=>wpAny (model X.prog X.w) X.A (pyIter v) (PIE X ai σ tg R) X.xe s1) X.xe s
theorem Bj{M:Model}{A:_u}{E:_i}{u:_r}{o:Obj}{n:String}{vs:Array _r}{Q:Unit->_s->Prop}(ho:s.heap.get? it=some o)(hc:o.cls=.type n)(hd:o.data=.fields vs)(hn:["enumerate","zip","dict_itemiterator","dict_reverseitemiterator","odict_iterator","itertools.zip_longest","itertools.pairwise"].contains n=false)(hQ:Q () s):wpAny M A (letOwnedTupleGo tg (.ref it) u) Q E s:=by
  unfold letOwnedTupleGo;cases tg<;>first
    |exact VB hQ
    |(cases u<;>first
        |exact VB hQ
        | (refine Vn (wpAny_load ho ?_)
           rw[hc,hd];show wpAny M A (if(["enumerate","zip","dict_itemiterator","dict_reverseitemiterator","odict_iterator","itertools.zip_longest","itertools.pairwise"].contains n&&vs[0]?==some (rawInt _))=true then _ else _) Q E s;rw[Vx (by intro h;rw[hn,Xu]at h;cases h)];exact VB hQ))
def T6(K:_l)(a:_t):It:=
 ⟨fun i H=>∃xs x,lY K H a xs/\xs[i]?=some x,fun i H x H'=>H'=H/\∀xs,lY K H a xs->xs[i]?=some x,fun i H=>∃xs,lY K H a xs/\xs.length<=i⟩
def T7(K:_l)(a:_t):It:=
 ⟨fun i H=>∃xs x,kQ K H a xs/\xs[i]?=some x,fun i H x H'=>H'=H/\∀xs,kQ K H a xs->xs[i]?=some x,fun i H=>∃xs,kQ K H a xs/\xs.length<=i⟩
def Qo(lo:Int)(n:Nat):It:=⟨fun i _=>i<n,fun i H x H'=>H'=H/\x=.int (lo+i),fun i _=>n<=i⟩
theorem CH{w:World}{K:_l}(a it:_t):Turn P w K tg (T6 K a) [it] it (fun i h=>h.IsListIter it a i) where
 mem:=by simp
 obj:=fun i h st b hb=>by
  have e:b=it:=by simpa using hb
  subst e;obtain⟨o,e,c,d⟩:=st;exact⟨o,e,fun v z=>by rw[d]at z;cases z⟩
 keep:=fun i h h' st k=>st.at fun o e=>k it (by simp) o e
 item:=by intro X hP hw hK hc i ai s σ H E I hf st hg;subst hP hw hK;obtain⟨xs,x,hq,hx⟩:=hg;obtain⟨aM,rv,p,hz⟩:=I.list hq;obtain⟨u,hu,ru⟩:=rv.get hx;obtain⟨f0,f1,f2,f3,f4,f5⟩:=hf it (by simp);refine wpAny_pyNext_list_item st p.isList (x:=u) (by simpa using hu) fun h' aF sb=>?_;have I1:aV X ai σ H {s with heap:=h'}:=I.turned (t':=s.toks) (fun b o hb e=>(sb.2 b hb).trans e) f0 f1 f3 f4 f5;obtain⟨o,e,c,d⟩:=id aF;exact⟨u,rfl,Bj (s:={s with heap:=h'}) e c d (by decide) ⟨x,H,I1,ru,⟨rfl,fun ys hy=>by rw[I.qJ hy hq];exact hx⟩,aF,fun b hb=>(hf b hb).1⟩⟩
 done:=by intro X hP hw hK hc i ai s σ H E I hf st hg;subst hP hw hK;obtain⟨xs,hq,hx⟩:=hg;obtain⟨aM,rv,p,hz⟩:=I.list hq;obtain⟨f0,f1,f2,f3,f4,f5⟩:=hf it (by simp);have hl:=rv.length;exact wpAny_pyNext_list_end (I.ok.hd hc) st p.isList (by simp;lia) fun h' eb=>⟨rfl,I.turned (t':=s.toks) (fun b o hb e=>eb b o hb e) f0 f1 f3 f4 f5⟩
 self:=fun _ _ _ _ _ st h=>wpAny_pyIter_listiter st h
theorem zP{w:World}{K:_l}(a it:_t):Turn P w K tg (T7 K a) [it] it (fun i h=>h.IsTupleIter it a i) where
 mem:=by simp
 obj:=fun i h st b hb=>by
  have e:b=it:=by simpa using hb
  subst e;obtain⟨o,e,c,d⟩:=st;exact⟨o,e,fun v z=>by rw[d]at z;cases z⟩
 keep:=fun i h h' st k=>st.at fun o e=>k it (by simp) o e
 item:=by intro X hP hw hK hc i ai s σ H E I hf st hg;subst hP hw hK;obtain⟨xs,x,hq,hx⟩:=hg;obtain⟨aM,rv,p,hz⟩:=I.tuple hq;obtain⟨u,hu,ru⟩:=rv.get hx;obtain⟨f0,f1,f2,f3,f4,f5⟩:=hf it (by simp);refine wpAny_pyNext_tuple_item st (show s.heap.IsTuple a aM.toArray from p) (x:=u) (by simpa using hu) fun h' aF sb=>?_;have I1:aV X ai σ H {s with heap:=h'}:=I.turned (t':=s.toks) (fun b o hb e=>(sb.2 b hb).trans e) f0 f1 f3 f4 f5;obtain⟨o,e,c,d⟩:=id aF;exact⟨u,rfl,Bj (s:={s with heap:=h'}) e c d (by decide) ⟨x,H,I1,ru,⟨rfl,fun ys hy=>by rw[I.kR hy hq];exact hx⟩,aF,fun b hb=>(hf b hb).1⟩⟩
 done:=by intro X hP hw hK hc i ai s σ H E I hf st hg;subst hP hw hK;obtain⟨xs,hq,hx⟩:=hg;obtain⟨aM,rv,p,hz⟩:=I.tuple hq;obtain⟨f0,f1,f2,f3,f4,f5⟩:=hf it (by simp);have hl:=rv.length;exact wpAny_pyNext_tuple_end (I.ok.hd hc) st (show s.heap.IsTuple a aM.toArray from p) (by simp;lia) fun h' eb=>⟨rfl,I.turned (t':=s.toks) (fun b o hb e=>eb b o hb e) f0 f1 f3 f4 f5⟩
 self:=fun _ _ _ _ _ st h=>wpAny_pyIter_tupleiter st h
theorem zQ{w:World}{K:_l}(it:_t)(lo:Int)(n:Nat):Turn P w K tg (Qo lo n) [it] it (fun i h=>IsRangeIter h it (lo+(i:Nat)*1) ((n:Int)-(i:Nat)) 1) where
 mem:=by simp
 obj:=fun i h st b hb=>by
  have e:b=it:=by simpa using hb
  subst e;exact⟨_,st,fun v z=>by
   have z':Data.fields _=Data.cell v:=z;cases z'⟩
 keep:=fun i h h' st k=>k it (by simp) _ st
 item:=by intro X hP hw hK hc i ai s σ H E I hf st hg;subst hP hw hK;obtain⟨f0,f1,f2,f3,f4,f5⟩:=hf it (by simp);have W:=Walks.range (prog:=X.prog) (w:=X.w) (I.ok.hd hc) it lo 1 n;refine W.item i s _ _ hg st fun v h' tk hv aF kk=>?_;obtain⟨t,rfl⟩:=hv;have I1:aV X ai σ H {s with heap:=h',toks:=tk}:=I.turned (fun b o hb e=>kk b o (by simpa using hb) e) f0 f1 f3 f4 f5;refine⟨_,rfl,Bj (s:={s with heap:=h',toks:=tk}) (n:="range_iterator") aF rfl rfl (by decide) ⟨.int (lo+i),H,I1,⟨t,?_⟩,⟨rfl,rfl⟩,aF,fun b hb=>(hf b hb).1⟩⟩;rw[Int.mul_one]
 done:=by intro X hP hw hK hc i ai s σ H E I hf st hg;subst hP hw hK;obtain⟨f0,f1,f2,f3,f4,f5⟩:=hf it (by simp);exact wpAny_pyNext_range_end (I.ok.hd hc) st (by have:n<=i:=hg;lia) fun h' eb=>⟨rfl,I.turned (t':=s.toks) (fun b o hb e=>eb b o hb e) f0 f1 f3 f4 f5⟩
 self:=fun _ _ _ _ _ st h=>wpAny_pyIter_rangeiter st h
section
variable{X:Cx}
theorem xA{σ:St}{H:Hp}{R:It->Hp->Prop}{E:_i}{lo hi:Int}{t u v:Tok}{tk:Nat}(I:aV X ai σ H s)(h1:-(2 ^ 62)<=lo)(h2:lo<2 ^ 62)(h3:-(2 ^ 62)<=hi)(h4:hi<2 ^ 62)(q:R (Qo lo (hi-lo).toNat) H):wpAny (model X.prog X.w) X.A (pyIter (.ref s.heap.objs.size)) (PIE X ai σ tg R) E {s with heap:=s.heap.push {cls:=.type "range",data:=.fields #[.int lo t,.int hi u,.int 1 v]},toks:=tk}:=by
 refine wpAny_pyIter_range (IsRange.new ..) (small_one h1 h2 h3 h4) ?_;have I1:aV X ai σ H {s with heap:=s.heap.push {cls:=.type "range",data:=.fields #[.int lo t,.int hi u,.int 1 v]},toks:=tk}:=I.kept fun b o e=>Vr _ e;refine⟨(s.heap.push {cls:=.type "range",data:=.fields #[.int lo t,.int hi u,.int 1 v]}).objs.size,[(s.heap.push {cls:=.type "range",data:=.fields #[.int lo t,.int hi u,.int 1 v]}).objs.size],_,_,H,rfl,
  I1.kept (t':=tk) fun b o e=>Vr _ e,zQ _ lo (hi-lo).toNat,?_,fun b hb=>?_,q⟩
 .have e1:lo+((0:Nat):Int)*1=lo:=by simp
  have e2:(((hi-lo).toNat:Nat):Int)-((0:Nat):Int)=Builtin.Range.rangeSize lo hi 1:=by rw[rangeSize_one];split<;>lia
  show IsRangeIter _ _ (lo+((0:Nat):Int)*1) ((((hi-lo).toNat:Nat):Int)-((0:Nat):Int)) 1;rw[e1,e2];exact VR _ rfl
 .have e:b=(s.heap.push {cls:=.type "range",data:=.fields #[.int lo t,.int hi u,.int 1 v]}).objs.size:=by simpa using hb
  subst e;exact I1.CG (Vv _) (I1.cW.fresh (Vv _))
def Qp(ta:TA):TI:=fun σ H R=>ta σ H fun vs H1=>∃j:Int,vs=[.int j]/\-(2 ^ 62)<=j/\j<2 ^ 62/\R (Qo 0 j.toNat) H1
def Qq(ta:TA):TI:=fun σ H R=>ta σ H fun vs H1=>∃i j:Int,vs=[.int i,.int j]/\(-(2 ^ 62)<=i/\i<2 ^ 62/\-(2 ^ 62)<=j/\j<2 ^ 62)/\R (Qo i (j-i).toNat) H1
theorem CI{a:Expr}{ta:TA}(hg:Gl X "range")(hm:X.mg "range" = none)(ha:PA X [a] ta)(hs:starEach [a] X.env=[(false,eval a X.env)]:=by rfl):PI X tg (.Call (.Name "range" p) [a] [] pos) (Qp ta):=by
 intro ai s σ H R I h;refine Call_ (kf I hg hm boot_range (WY (cR (ha pos ai s σ H _ I h) fun us s1⟨vs,H1,I1,r1,q1⟩=>?_) hs rfl));obtain⟨j,e,q1,q2,q⟩:=q1;subst e;cases r1 with
 |cons r rr=>
  cases rr;obtain⟨t,rfl⟩:=r;exact call_range_1 (xA I1 (by lia) (by lia) q1 q2 (by simpa using q))
theorem CJ{a b:Expr}{ta:TA}(hg:Gl X "range")(hm:X.mg "range" = none)(ha:PA X [a,b] ta)(hs:starEach [a,b] X.env=[(false,eval a X.env),(false,eval b X.env)]:=by rfl)(fq:starEach [b] X.env=[(false,eval b X.env)]:=by rfl):
  PI X tg (.Call (.Name "range" p) [a,b] [] pos) (Qq ta):=by
 intro ai s σ H R I h;refine Call_ (kf I hg hm boot_range (WY (cR (ha pos ai s σ H _ I h) fun us s1⟨vs,H1,I1,r1,q1⟩=>?_) (by rw[hs,fq]) (by rw[fq];rfl)));obtain⟨i,j,e,⟨q1,q2,q3,q4⟩,q⟩:=q1;subst e;cases r1 with
 |cons r rr=>
  cases rr with
  |cons r' rr=>
   cases rr;obtain⟨t,rfl⟩:=r;obtain⟨t',rfl⟩:=r';exact call_range_2 (xA I1 q1 q2 q3 q4 q)
def T8(wi:TI)(g:TG)(tb:TS):TS:=fun D σ H=>wi σ H fun J H1=>∃W:Nat->Nat->St->Hp->Prop,(∃m,W 0 m σ H1)/\∀i m σ H,W i m σ H ->
 (J.stop i H/\D.nx σ H)\/(J.go i H/\∃N:St->Hp->Prop,(∀σ' H',N σ' H'->∃m',m'<m/\W (i+1) m' σ' H')/\∀x H',J.Qm i H x H'->g x σ H' fun σ2 H2=>tb {D with nx:=N,ct:=N,bk:=D.nx} σ2 H2)
def qM(fp:_p)(h:Heap):_k:=fp.filterMap fun b=>(h.get? b).map fun o=>(b,o)
theorem jI{b:_t}{o:Obj}(hb:b∈fp)(e:h.get? b=some o):(b,o)∈qM fp h:=XI.mpr ⟨b,hb,by rw[e];rfl⟩
theorem CK{p:_t×Obj}(hp:p∈qM fp h):p.1∈fp/\h.get? p.1=some p.2:=by
 obtain⟨b,hb,e⟩:=XI.mp hp;cases q:h.get? b with
 |none=>rw[q]at e;cases e
 |some o=>
  rw[q]at e;have e':(b,o)=p:=V! e;subst e';exact⟨hb,q⟩
theorem aV.pinned{σ:St}{H:Hp}(I:aV X ai σ H s)(hf:∀b∈fp,nW X ai H b)(ho:∀b∈fp,∃o,s.heap.get? b=some o/\∀v,o.data≠.cell v):aV X (ai++qM fp s.heap) σ H s:=
 I.qr fun p hp=>(We.mp hp).elim (fun z=>I.pin p (V2 _ z)) fun z=>by obtain⟨hb,e⟩:=CK z;obtain⟨f0,f1,f2,_⟩:=hf p.1 hb;obtain⟨o,e',d⟩:=ho p.1 hb;rw[e]at e';cases e';exact⟨e,f0,f1,f2,d⟩
theorem aV.qO{pl:_k}{σ:St}{H:Hp}(I:aV X (ai++pl) σ H s):aV X ai σ H s:=I.qr fun p hp=>I.pin p (V2 _ (WL _ hp))
theorem MC{body:List Stmt}{wi:TI}{g:TG}{tb:TS}(hp:PassesOwn (model X.prog X.w) X.A X.env X.xe)(hc:X.calm=true)(hi:PI X tg iter wi)(hg:PG X tg g)(hb:j' X body tb)(hs:∀x,foldedSetIterable iter X.env x=pure x:=by intro _;rfl):PS X (.For tg iter body [] pos) (T8 wi g tb):=by
 intro ai s σ H D I h;refine wpAny_For (cR (hi ai s σ H _ I h) fun v s1 h1=>cR h1 fun Qn s2 h2=>?_) hs;obtain⟨it,fp,tn,J,H2,e,I2,T,st2,f2,W,⟨m0,w0⟩,turn⟩:=h2;subst e
 -- Qr stays true of Ec MD objects through Ec loop
 have zR:∀{H':Hp},(∀b∈fp,H' b=none)->∀b∈fp,nW X ai H' b:=fun hn b hb=>⟨hn b hb,(f2 b hb).2⟩
 refine codeAny_forLoop_any (fun n s'=>∃i σ' H',aV X ai σ' H' s'/\tn i s'.heap/\(∀b∈fp,H' b=none)/\W i n σ' H') ?_ m0 ⟨0,σ,H2,I2,st2,fun b hb=>(f2 b hb).1,w0⟩;rintro n s3 ⟨i,σ3,H3,I3,jv,Qs,w3⟩;rcases turn i n σ3 H3 w3 with⟨stop,qn⟩|⟨go,N,hN,step⟩
 .refine Xf hp (cR (T.done X rfl rfl rfl hc i ai s3 σ3 H3 X.xe I3 (zR Qs) jv stop) fun r s4⟨hr,I4⟩=>?_);subst hr;exact Xv ⟨σ3,H3,I4,qn⟩
 .refine Xf hp (cR (T.item X rfl rfl rfl hc i ai s3 σ3 H3 X.xe I3 (zR Qs) jv go) fun r s4⟨u,hr,h4⟩=>?_);subst hr;refine Xf hp (cR h4 fun _ s5⟨x,H5,I5,r5,y5,MF,T9⟩=>?_);have T_:=I5.pinned (zR T9) (T.obj _ _ MF);refine Xf hp (cR (hg _ s5 σ3 H5 x u _ T_ r5 (step x H5 y5)) fun _ s6⟨σ6,H6,I6,q6⟩=>?_);refine Xf hp (cR (hb _ s6 σ6 H6 _ I6 q6) fun f s7 q7=>?_);have again:∀{σ7:St}{H7:Hp},aV X (ai++qM fp s5.heap) σ7 H7 s7->N σ7 H7->∃m,m<n/\∃i σ' H',aV X ai σ' H' s7/\tn i s7.heap/\(∀b∈fp,H' b=none)/\W i m σ' H':=fun{σ7 H7}I7 n7=>by obtain⟨m',hm,w7⟩:=hN σ7 H7 n7;refine⟨m',hm,i+1,σ7,H7,I7.qO,T.keep _ _ _ MF fun b hb o e=>(I7.pin (b,o) (V2 _ (V2 _ (jI hb e)))).1,fun b hb=>?_,w7⟩;obtain⟨o,e,d⟩:=T.obj _ _ MF b hb;exact(I7.pin (b,o) (V2 _ (V2 _ (jI hb e)))).2.1
  cases f with
  |next=>obtain⟨σ7,H7,I7,n7⟩:=q7;exact again I7 n7
  |cont=>obtain⟨σ7,H7,I7,n7⟩:=q7;exact again I7 n7
  |brk=>obtain⟨σ7,H7,I7,q7⟩:=q7;exact⟨σ7,H7,I7.qO,q7⟩
  |ret v=>obtain⟨x7,σ7,H7,I7,r7,q7⟩:=q7;exact⟨x7,σ7,H7,I7.qO,r7,q7⟩
end
abbrev R2:=V->V->Hp->VK->Prop
def ej(X:Cx)(f:_r->_r->Sem _r)(r:R2):Prop:=
 ∀(ai:_k)(s:_s)(σ:St)(H:Hp)(x y:V)(v u:_r)(Q:VK),aV X ai σ H s->bT x v->bT y u->r x y H Q ->
  wpAny (model X.prog X.w) X.A (f v u) (EP X ai σ Q) X.xe s
def T!(X:Cx)(f:_r->Sem _r)(r:V->Hp->VK->Prop):Prop:=
 ∀(ai:_k)(s:_s)(σ:St)(H:Hp)(x:V)(v:_r)(Q:VK),aV X ai σ H s->bT x v->r x H Q ->
  wpAny (model X.prog X.w) X.A (f v) (EP X ai σ Q) X.xe s
def c6(X:Cx)(f:_r)(r:List V->Hp->VK->Prop):Prop:=
 ∀(ai:_k)(s:_s)(σ:St)(H:Hp)(xs:List V)(us:_n)(Q:VK),aV X ai σ H s->bN xs us->r xs H Q ->
  wpAny (model X.prog X.w) X.A (call f us) (EP X ai σ Q) X.xe s
def PD(r:R2)(ta tb:TE):TE:=fun σ H Q=>ta σ H fun x H1=>tb σ H1 fun y H2=>r x y H2 Q
def tUn(r:V->Hp->VK->Prop)(ta:TE):TE:=fun σ H Q=>ta σ H fun x H1=>r x H1 Q
def rI(C:Int->Int->Prop)(g:Int->Int->V):R2:=fun x y H Q=>∃i j,x=.int i/\y=.int j/\C i j/\Q (g i j) H
def Lx(g:Int->Int->V):R2:=fun x y H Q=>∃i j,x=.int i/\y=.int j/\Q (g i j) H
def rU(g:Int->V):V->Hp->VK->Prop:=fun x H Q=>∃i,x=.int i/\Q (g i) H
section
variable{X:Cx}{a b c:Expr}{ta tb tc:TE}
theorem MG(ha:PE X a ta)(hb:PE X b tb){σ:St}{H:Hp}{R:V->V->Hp->Prop}(I:aV X ai σ H s)(h:ta σ H fun x H1=>tb σ H1 fun y H2=>R x y H2){f:_r->_r->Sem _r}(hf:∀v u s2 x y H2,aV X ai σ H2 s2->bT x v->bT y u->R x y H2->wpAny (model X.prog X.w) X.A (f v u) Q X.xe s2):
  wpAny (model X.prog X.w) X.A (eval a X.env) (fun v s₁=>wpAny (model X.prog X.w) X.A (eval b X.env) (fun u s₂=>wpAny (model X.prog X.w) X.A (f v u) Q X.xe s₂) X.xe s₁) X.xe s:=by
 refine cR (ha ai s σ H _ I h) fun v s1⟨x,H1,I1,r1,q1⟩=>?_;refine cR (hb ai s1 σ H1 _ I1 q1) fun u s2⟨y,H2,I2,r2,q2⟩=>?_;exact hf v u s2 x y H2 I2 r1 r2 q2
theorem Qt{op:Operator}{r:R2}(ho:ej X (binaryOp op) r)(ha:PE X a ta)(hb:PE X b tb):PE X (.BinOp a op b pos) (PD r ta tb):=by intro ai s σ H Q I h;exact wpAny_BinOp (MG ha hb I h fun v u s2 x y H2 I2 rx ry q=>ho ai s2 σ H2 x y v u Q I2 rx ry q)
theorem Qu{op:UnaryOp}{r:V->Hp->VK->Prop}(ho:T! X (unaryOp op) r)(ha:PE X a ta):PE X (.UnaryOp op a pos) (tUn r ta):=by intro ai s σ H Q I h;exact UnaryOp_ (cR (ha ai s σ H _ I h) fun v s1⟨x,H1,I1,r1,q1⟩=>ho ai s1 σ H1 x v Q I1 r1 q1)
theorem Qv{f:_r->_r->Sem _r}{C:Int->Int->Prop}{g:Int->Int->Int}(rule:∀(i j:Int)(t u:Tok)(s:_s)(Q:_i)(E:_i),C i j->Q (.int (g i j) s.toks) {s with toks:=s.toks+1}->wpAny (model X.prog X.w) X.A (f (.int i t) (.int j u)) Q E s):
  ej X f (rI C fun i j=>.int (g i j)):=by
 intro ai s σ H x y v u Q I rx ry h;obtain⟨i,j,rfl,rfl,hc,q⟩:=h;obtain⟨t,rfl⟩:=rx;obtain⟨t',rfl⟩:=ry;exact rule i j t t' s _ _ hc ⟨.int (g i j),H,I.tok _,⟨_,rfl⟩,q⟩
theorem Qw{f:_r->_r->Sem _r}{g:Int->Int->Int}(rule:∀(i j:Int)(t u:Tok)(s:_s)(Q:_i)(E:_i),Q (.int (g i j) s.toks) {s with toks:=s.toks+1}->wpAny (model X.prog X.w) X.A (f (.int i t) (.int j u)) Q E s):
  ej X f (Lx fun i j=>.int (g i j)):=by
 intro ai s σ H x y v u Q I rx ry h;obtain⟨i,j,rfl,rfl,q⟩:=h;obtain⟨t,rfl⟩:=rx;obtain⟨t',rfl⟩:=ry;exact rule i j t t' s _ _ ⟨.int (g i j),H,I.tok _,⟨_,rfl⟩,q⟩
theorem IK{f:_r->_r->Sem _r}{g:Int->Int->Bool}(rule:∀(i j:Int)(t u:Tok)(s:_s)(Q:_i)(E:_i),Q (.bool (g i j)) s->wpAny (model X.prog X.w) X.A (f (.int i t) (.int j u)) Q E s):
  ej X f (Lx fun i j=>.bl (g i j)):=by
 intro ai s σ H x y v u Q I rx ry h;obtain⟨i,j,rfl,rfl,q⟩:=h;obtain⟨t,rfl⟩:=rx;obtain⟨t',rfl⟩:=ry;exact rule i j t t' s _ _ ⟨.bl (g i j),H,I,rfl,q⟩
def EC(i j:Int):Prop:=0<=j/\j<=1000000/\i.natAbs<2 ^ 64
def ED(i j:Int):Prop:=(-(2 ^ 64)<i/\i<2 ^ 64)\/(-(2 ^ 64)<j/\j<2 ^ 64)
theorem ED.ok{i:Int}(h:ED i j):IntMulOk i j:=by
 rcases h with⟨h1,h2⟩|⟨h1,h2⟩
 .exact .of_left (intBits_le_64 h1 h2)
 .exact .of_right (intBits_le_64 h1 h2)
theorem MJ:ej X (binaryOp .Add) (Lx fun i j=>.int (i+j)):=Qw fun _ _ _ _ _ _ _ q=>add_int q
theorem MK:ej X (binaryOp .Sub) (Lx fun i j=>.int (i-j)):=Qw fun _ _ _ _ _ _ _ q=>sub_int q
theorem ML:ej X (binaryOp .Mult) (rI ED fun i j=>.int (i*j)):=Qv fun _ _ _ _ _ _ _ hc q=>mul_int q hc.ok
theorem IL:ej X (binaryOp .Mod) (rI (fun _ j=>j≠0) fun i j=>.int (i.fmod j)):=Qv fun _ _ _ _ _ _ _ hc q=>mod_int' hc q
theorem MM:ej X (binaryOp .Pow) (rI EC fun i j=>.int (i ^ j.toNat)):=Qv fun _ _ _ _ _ _ _ hc q=>pow_int_small hc.1 hc.2.1 hc.2.2 q
theorem unI{f:_r->Sem _r}{g:Int->Int}(rule:∀(i:Int)(t:Tok)(s:_s)(Q:_i)(E:_i),Q (.int (g i) s.toks) {s with toks:=s.toks+1}->wpAny (model X.prog X.w) X.A (f (.int i t)) Q E s):
  T! X f (rU fun i=>.int (g i)):=by
 intro ai s σ H x v Q I rx h;obtain⟨i,rfl,q⟩:=h;obtain⟨t,rfl⟩:=rx;exact rule i t s _ _ ⟨.int (g i),H,I.tok _,⟨_,rfl⟩,q⟩
theorem MP:T! X (unaryOp .USub) (rU fun i=>.int (-i)):=unI fun _ _ _ _ _ q=>neg_int q
end
section
variable{X:Cx}{a b c:Expr}{ta tb tc:TE}
theorem EF{σ:St}{H:Hp}{Q:VK}{k k':Bool}(I:aV X ai σ H s)(q:Q (.bl k) H)(e:k=k'):EP X ai σ Q (.bool k') s:=by subst e;exact⟨.bl k,H,I,rfl,q⟩
theorem Qx:ej X (compareOp .Lt) (Lx fun i j=>.bl (decide (i<j))):=IK fun _ _ _ _ _ _ _ q=>lt_int q
theorem Qy:ej X (compareOp .LtE) (Lx fun i j=>.bl (decide (i<=j))):=IK fun _ _ _ _ _ _ _ q=>le_int q
theorem Qz:ej X (compareOp .Gt) (Lx fun i j=>.bl (decide (j<i))):=IK fun _ _ _ _ _ _ _ q=>gt_int q
theorem QA:ej X (compareOp .GtE) (Lx fun i j=>.bl (decide (j<=i))):=IK fun _ _ _ _ _ _ _ q=>ge_int q
theorem CL:ej X (compareOp .In) (fun x y H Q=>∃i j,x=.str i/\y=.str j/\Q (.bl (!(Builtin.Str.occurrences j i 0 j.length 1).isEmpty)) H):=by intro ai s σ H x y v u Q I rx ry h;obtain⟨i,j,rfl,rfl,q⟩:=h;obtain⟨t,rfl⟩:=rx;obtain⟨t',rfl⟩:=ry;exact in_str (EF I q rfl)
theorem MQ:ej X (compareOp .Is) (fun x y H Q=>y=.cO/\Q (.bl (decide (x=.cO))) H):=by
 intro ai s σ H x y v u Q I rx ry h;obtain⟨rfl,q⟩:=h;cases ry;refine is_none_gen (EF I q ?_);cases x<;>first
  |(cases rx;rfl)
  |(obtain⟨t,rfl⟩:=rx;rfl)
theorem ej.or{f:_r->_r->Sem _r}{r r':R2}(h:ej X f r)(h':ej X f r'):ej X f (fun x y H Q=>r x y H Q\/r' x y H Q):=by
 intro ai s σ H x y v u Q I rx ry q;rcases q with q|q
 .exact h ai s σ H x y v u Q I rx ry q
 .exact h' ai s σ H x y v u Q I rx ry q
theorem EG(b:Expr)(h:op≠.In:=by decide)(h2:op≠.NotIn:=by decide):behindInMarks op b=false:=by
 have e1:(op==CmpOp.In)=false:=by cases op<;>first|rfl|exact absurd rfl h
 have e2:(op==CmpOp.NotIn)=false:=by cases op<;>first|rfl|exact absurd rfl h2
 cases b<;>simp[behindInMarks,e1,e2]
theorem IM{r:R2}(ho:ej X (compareOp op) r)(ha:PE X a ta)(hb:PE X b tb)(hm:behindInMarks op b=false):PE X (.Compare a [op] [b] pos) (PD r ta tb):=by intro ai s σ H Q I h;exact wpAny_Compare1 (MG ha hb I h fun v u s2 x y H2 I2 rx ry q=>ho ai s2 σ H2 x y v u Q I2 rx ry q) hm
def QB(t:TE):TT:=fun σ H Q=>t σ H fun x H'=>∃k,x=.bl k/\Q k H'
theorem IP{r:R2}(ho:ej X (compareOp op) r)(ha:PE X a ta)(hb:PE X b tb)(hm:behindInMarks op b=false):PT X (.Compare a [op] [b] pos) (QB (PD r ta tb)):=by
 intro ai s σ H Q I h;refine wpAny_isTrue_Compare1 (cR (ha ai s σ H _ I h) fun v s1⟨x,H1,I1,r1,q1⟩=>cR (hb ai s1 σ H1 _ I1 q1) fun u s2⟨y,H2,I2,r2,q2⟩=>
  cR (ho ai s2 σ H2 x y v u _ I2 r1 r2 q2) fun c s3⟨z,H3,I3,r3,k,e,q3⟩=>?_) hm
 subst e;cases r3;exact W_ ⟨H3,I3,q3⟩
def EI(r r':R2)(ta tb tc:TE):TE:=fun σ H Q=>ta σ H fun x H1=>tb σ H1 fun y H2=>r x y H2 fun z H3=>∃k,z=.bl k /\
 (if k=true then tc σ H3 fun w' H4=>r' y w' H4 Q else Q (.bl false) H3)
theorem EJ{MR:CmpOp}{r r':R2}(ho:ej X (compareOp op) r)(pD:ej X (compareOp MR) r')(ha:PE X a ta)(hb:PE X b tb)(hc:PE X c tc)(hm:lastMarks [op,MR] [b,c]=false:=by with_unfolding_all rfl):PE X (.Compare a [op,MR] [b,c] pos) (EI r r' ta tb tc):=by
 intro ai s σ H Q I h;refine Compare_chain (cR (ha ai s σ H _ I h) fun v s1⟨x,H1,I1,r1,q1⟩=>chain_link (cR (hb ai s1 σ H1 _ I1 q1) fun u s2⟨y,H2,I2,r2,q2⟩=>
  cR (ho ai s2 σ H2 x y v u _ I2 r1 r2 q2) fun d s3⟨z,H3,I3,r3,k,e,q3⟩=>?_)) hm
 subst e;cases r3;refine W_ ?_;cases k with
 |false=>exact ite_ff ⟨.bl false,H3,I3,rfl,q3⟩
 |true=>exact ite_tt (chain_last (cR (hc ai s3 σ H3 _ I3 q3) fun w' s4⟨z',H4,I4,r4,q4⟩=>pD ai s4 σ H4 y z' u w' Q I4 r2 r4 q4))
theorem nX:(sizeLine:Nat)<2 ^ 63:=by rw[VN];decide
theorem zS:ej X (binaryOp .Add) (fun x y H Q=>∃i j,x=.str i/\y=.str j/\i.length+j.length<=sizeLine/\Q (.str (i++j)) H):=by intro ai s σ H x y v u Q I rx ry h;obtain⟨i,j,rfl,rfl,hz,q⟩:=h;obtain⟨t,rfl⟩:=rx;obtain⟨t',rfl⟩:=ry;exact add_str (fun t' tk=>⟨.str (i++j),H,I.tok _,⟨_,rfl⟩,q⟩) hz
theorem vals1{x:V}{us:_n}(r:bN [x] us):∃u,us=[u]/\bT x u:=by
 cases r with
 |cons r1 r2=>cases r2;exact⟨_,rfl,r1⟩
theorem vals2{x y:V}{us:_n}(r:bN [x,y] us):∃u w',us=[u,w']/\bT x u/\bT y w':=by
 cases r with
 |cons r1 r2=>
  cases r2 with
  |cons r3 r4=>cases r4;exact⟨_,_,rfl,r1,r3⟩
theorem EM:c6 X (.builtin "abs") (fun xs H Q=>∃i,xs=[.int i]/\Q (.int (if i<0 then -i else i)) H):=by intro ai s σ H xs us Q I r h;obtain⟨i,rfl,q⟩:=h;obtain⟨u,rfl,t,rfl⟩:=vals1 r;exact call_abs_int fun u tk=>⟨.int (if i<0 then -i else i),H,I.tok _,⟨_,rfl⟩,q⟩
theorem vI:c6 X (.type "str") (fun xs H Q=>∃i,xs=[.int i]/\i.natAbs.log2<1920/\Q (.str (toString i)) H):=by intro ai s σ H xs us Q I r h;obtain⟨i,rfl,hz,q⟩:=h;obtain⟨u,rfl,t,rfl⟩:=vals1 r;exact PySem.P.str_of_int hz ⟨.str _,H,I.tok _,⟨_,rfl⟩,q⟩
end
structure MS(h:Heap)(x dx C:_t)(mA:_j):Prop where
 obj:h.get? x=some (W.instObj C dx)
 ns:h.Ns1 dx mA
 ne:dx≠x
theorem CM(n:h.Ns1 dx mA):∃od,h.get? dx=some od/\∀name,PySem.W.lookIn name od=some (mA name):=by
 obtain⟨o,es,ep,ho,hd,hk,_,hm⟩:=n;refine⟨o,ho,fun name=>?_⟩;have e:=hm name;unfold nsFind findBy at e;rw[<-Array.find?_toList]at e;unfold PySem.W.lookIn;rw[hd];dsimp only;split
 .rename_i y q;rw[q]at e;exact W! some e
 .rename_i q;rw[q]at e;have a:es.toList.any (·.refKey)=false:=by rw[Za];intro y hy;obtain⟨z,t,T?⟩:=hk y (Array.mem_toList_iff.mp hy);simp[DictEntry.refKey,T?]
  have a':¬ es.toList.any (·.refKey)=true:=by rw[a];exact VC
  rw[Vx a'];exact W! some e
theorem MS.look{x:_t}(I:MS h x dx C mA):∃od,W.InstAt h x (W.instObj C dx) C (some od)/\∀name,W.lookIn name od=some (mA name):=
 let⟨od,ho,hl⟩:=CM I.ns
 ⟨od,⟨I.obj,rfl,rfl,ho⟩,hl⟩
section
variable{prog:_v}{w:World}{A:_u}{E:_i}{K:_l}{x:_t}{v:_r}
end
theorem nT.some_of{v:V}{o:_o}(r:nT (some v) o):∃u,o=some u/\bT v u:=by
 cases o with
 |none=>exact(show False from r).elim
 |some u=>exact⟨u,rfl,r⟩
section
variable{w:World}{H H':Hp}{fs fs':List (Str×V)}
theorem IQ(cW:jG P w H h)(e:H a=some (.ins C dx fs)):∃mA,MS h a dx C mA/\(∀f,nT (fs.lookup f) (mA f))/\PySem.Within mA (fs.map (·.1))/\fs.length<=1000/\H dx=some (.own a):=by
 obtain⟨d,z,ne,ob,mA,n,r,q⟩:=(show dk P w H h a (.ins C dx fs)from cW a _ e)
 exact⟨mA,⟨ob,n,ne⟩,r,q,z,d⟩
end
structure T'(K:_l)(C:_t):Prop where
 pg:W.plainGet K C Str.empty=true
 hd:W.hasDictIn K C=true
 po:W.plainOver K C=true
 sa:W.findIn K (.ref C) "__setattr__" = some (some (.builtin "object.__setattr__"))
theorem T'.get{K:_l}(c:T' K C)(f:Str):W.plainGet K C f=true:=c.pg
section
variable{X:Cx}{σ:St}{H:Hp}{fs:List (Str×V)}{f:Str}{v:V}{A:_u}{E:_i}
end
section
variable{X:Cx}{f:Str}{ta tv:TE}
end
section
variable{X:Cx}{σ:St}{H:Hp}{A:_u}{E:_i}{c:_r}{b:Bool}
inductive pR(K:_l)(H:Hp):V->_r->Prop where
 |cO:pR K H .cO (.type "NoneType")
 |bl (x:Bool):pR K H (.bl x) (.type "bool")
 |int (i:Int):pR K H (.int i) (.type "int")
 |str (x:Str):pR K H (.str x) (.type "str")
 |mM (x:UInt64):pR K H (.mM x) (.type "float")
 |lst {a:_t} {xs:List V} (e:H a=some (.lst xs)):pR K H (.ref a) (.type "list")
 |lV {a:_t} {o:Obj} {xs:List V} (e:H a=some (.lV o (.lst xs))):pR K H (.ref a) (.type "list")
 |tup {a:_t} {xs:List V} (e:H a=some (.tup xs)):pR K H (.ref a) (.type "tuple")
 |dK {a:_t} {aX:List (eU×V)} (e:H a=some (.dK aX)):pR K H (.ref a) (.type "dict")
 |dT {a:_t} {aX:List (List eU×V)} (e:H a=some (.dT aX)):pR K H (.ref a) (.type "dict")
 |ins {a C dx:_t} {fs:List (Str×V)} (e:H a=some (.ins C dx fs)) (cl:T' K C) (ha:W.findIn K (.ref C) "__class__" = some (some (.builtin "object.__class__")))
   (hn:W.specialIn K (.builtin "object.__class__") "__get__" = some (some (.builtin "getset_descriptor.__get__"))) (htk:W.takesIn K (.builtin "object.__class__")=some true)
   (hm:W.mroIn K C (.type "object")=some true):pR K H (.ref a) (.ref C)
theorem gi{x:V}{u t:_r}(I:aV X ai σ H s)(rx:bT x u)(ty:pR X.K H x t)(e:W.kitOne X.K t c=some b)(h:∀tk,Q (.bool b) {s with toks:=tk}):
  wpAny (model X.prog X.w) A (call (.builtin "isinstance") [u,c]) Q E s:=by
 cases ty with
 |cO=>cases(show u=Value.none from rx);exact WA W.kitx_none I.qp True.intro e (fun z=>nomatch z) h
 |bl y=>cases(show u=Value.bool y from rx);exact WA W.kitx_bool I.qp True.intro e (fun z=>nomatch z) h
 |int i=>obtain⟨t,q⟩:=(show ∃t,u=Value.int i t from rx);cases q;exact WA W.kitx_int I.qp True.intro e (fun z=>nomatch z) h
 |str y=>obtain⟨t,q⟩:=(show ∃t,u=Value.str y t from rx);cases q;exact WA W.kitx_str I.qp True.intro e (fun z=>nomatch z) h
 |mM y=>obtain⟨t,q⟩:=(show ∃t,u=Value.float y t from rx);cases q;exact WA W.kitx_float I.qp True.intro e (fun z=>nomatch z) h
 | @lst a xs ea=>
  cases(show u=Value.ref a from rx);obtain⟨_,_,n,_,h1⟩:=(show dk X.prog X.w H s.heap a (.lst xs)from I.cW a _ ea)
  exact WA ZU I.qp ⟨_,h1,rfl⟩ e (fun z=>nomatch z) h
 | @lV a ob xs ea=>
  cases(show u=Value.ref a from rx);obtain⟨_,_,_,n,_,h1⟩:=(show dk X.prog X.w H s.heap a (.lV ob (.lst xs))from I.cW a _ ea)
  exact WA ZU I.qp ⟨_,h1,rfl⟩ e (fun z=>nomatch z) h
 | @tup a xs ea=>
  cases(show u=Value.ref a from rx);obtain⟨_,_,_,p⟩:=(show dk X.prog X.w H s.heap a (.tup xs)from I.cW a _ ea)
  obtain⟨o,h1,h2,_⟩:=p;exact WA ZM I.qp ⟨o,h1,h2⟩ e (fun z=>nomatch z) h
 | @dK a aX ea=>
  cases(show u=Value.ref a from rx);obtain⟨_,_,vs,_,p⟩:=(show dk X.prog X.w H s.heap a (.dK aX)from I.cW a _ ea)
  obtain⟨o,es,ep,h1,h2,_⟩:=p;exact WA ZV I.qp ⟨o,h1,h2.1⟩ e (fun z=>nomatch z) h
 | @dT a aX ea=>
  cases(show u=Value.ref a from rx);obtain⟨_,_,xs,_,o,es,ep,h1,h2,_⟩:=(show dk X.prog X.w H s.heap a (.dT aX)from I.cW a _ ea)
  exact WA ZV I.qp ⟨o,h1,h2.1⟩ e (fun z=>nomatch z) h
 | @ins a C dx fs ea cl ha hn htk hm=>
  cases(show u=Value.ref a from rx);obtain⟨mA,O,_⟩:=IQ I.cW ea;obtain⟨od,J,_⟩:=O.look;exact WA (W.kitx_own (cl.get _) cl.hd ha hn htk hm) I.qp J e (fun z=>nomatch z) h
end
structure gL(k:Nat)(A:_u):Prop where
 hd:A.handled=none
 dp:A.depth+3*k+5<recursionLimit
 un:A.units+16*k+200<cLine
theorem gL.mono{j k:Nat}{A:_u}(r:gL k A)(h:j<=k):gL j A:=⟨r.hd,by have:=r.dp;lia,by have:=r.un;lia⟩
theorem gL.deeper{k:Nat}{A:_u}(r:gL (k+1) A)(env:Env):gL k (A.deeper env):=
 ⟨r.hd,by have:=r.dp;show A.depth+1+3*k+5<_;lia,by have:=r.un;show A.units+3+16*k+200<_;lia⟩
theorem gL.depth{k:Nat}{A:_u}(r:gL k A):A.depth<recursionLimit:=by have:=r.dp;lia
theorem gL.units{k:Nat}{A:_u}(r:gL k A):A.units+64<cLine:=by have:=r.un;lia
def QC:TA:=fun _ H Q=>Q [] H
def Ly(ta:TE)(tr:TA):TA:=fun σ H Q=>ta σ H fun x H1=>tr σ H1 fun xs H2=>Q (x::xs) H2
section
variable{X:Cx}{te:TE}{t:TA}
theorem vJ:PA X [] QC:=fun _ _ _ _ H Q I h=>Y4 ⟨[],H,I,.nil,h⟩
theorem kS(ha:PE X e te)(hr:PA X es t)(hs:starEach (e::es) X.env=(false,eval e X.env)::starEach es X.env:=by rfl):PA X (e::es) (Ly te t):=by intro pos ai s σ H Q I h;rw[hs];show wpAny _ _ (spliced ((false,eval e X.env)::backTo pos (starEach es X.env))) _ _ s;refine X8 (cR (ha ai s σ H _ I h) fun u s1⟨x,H1,I1,r1,q1⟩=>?_);exact cR (hr pos ai s1 σ H1 _ I1 q1) fun us s2⟨xs,H2,I2,r2,q2⟩=>⟨x::xs,H2,I2,.cons r1 r2,q2⟩
def Ua(t:TA):TE:=fun σ H Q=>t σ H fun xs H1=>xs.length<=sizeLine/\∀p,H1 p=none->Q (.ref p) (upd H1 p (.tup xs))
def Ub(t:TA):TE:=fun σ H Q=>t σ H fun xs H1=>xs.length<=sizeLine/\∀p,H1 p=none->Q (.ref p) (upd H1 p (.lst xs))
theorem MU{x1}(h:PA X es t):PE X (.Tuple es x1 pos) (Ua t):=by intro ai s σ H Q I hq;refine wpAny_Tuple_spliced (cR (h pos ai s σ H _ I hq) fun us s1⟨xs,H1,I1,r,z,q⟩=>⟨by rw[<-r.length];exact z,?_⟩);have hf:H1 s1.heap.objs.size=none:=I1.cW.fresh (Vv _);refine⟨.ref s1.heap.objs.size,upd H1 s1.heap.objs.size (.tup xs),I1.laid (t':=s1.toks) (fun b u e=>Vr _ e) (Vv _) ?_,rfl,q _ hf⟩;exact⟨z,us,r,⟨_,VR _ rfl,rfl,_,rfl⟩⟩
theorem MV(h:PA X es t):PE X (.List es pos) (Ub t):=by intro ai s σ H Q I hq;refine wpAny_List_spliced (cR (h pos ai s σ H _ I hq) fun us s1⟨xs,H1,I1,r,z,q⟩=>⟨by rw[<-r.length];exact z,?_⟩);have hf:H1 s1.heap.objs.size=none:=I1.cW.fresh (Vv _);refine⟨.ref s1.heap.objs.size,upd H1 s1.heap.objs.size (.lst xs),I1.laid (t':=s1.toks) (fun b u e=>Vr _ e) (Vv _) ?_,rfl,q _ hf⟩;exact⟨z,us,0,r,VR _ rfl⟩
end
abbrev Sp:=List V->Hp->VK->XK->Prop
abbrev Bk:=List Env->Hp->_s->XK->_r->_s->Prop
structure IS(P:_v)(w:World)(K:_l)(mg:_j)(base:Heap)(A:_u)(outer:List Env)(s:_s)(H:Hp):Prop where
 frames:A.frames=some outer
 mod:Mod K mg base
 bs:∀b o,base.get? b=some o->s.heap.get? b=some o/\H b=none
 Lr:base.objs.size<=s.heap.objs.size
 lX:s.heap.FunFrames base outer
 Es:∀b∈fZ outer,H b=none
 cW:jG P w H s.heap
 bare:AllBare s.gens
def CE(outer:List Env)(P:_v)(w:World)(H:Hp)(s:_s)(Q:VK)(u:_r)(s':_s):Prop:=
 ∃v H',s'.os=s.os/\AllBare s'.gens/\Un (fZ outer) [] H H' s.heap s'.heap/\jG P w H' s'.heap/\bT v u/\Q v H'
def CR(CX:Bk)(outer:List Env)(P:_v)(w:World)(H:Hp)(s:_s)(Q:VK)(E:XK)(r:Result)(s':_s):Prop:=
 match r with
 |.ok (.ret u)=>CE outer P w H s Q u s'
 |.ok _=>False
 |.error e=>CX outer H s E e s'
structure kg(P:_v)(w:World)(K:_l)(mg:_j)(base:Heap)(CX:Bk)(k:Nat)(f:_t)(fd:FuncData)(ps:_q)(sp:Sp):Prop where
 len:∀vs H Q E,sp vs H Q E->vs.length=ps.length
 run:∀(A:_u)(outer:List Env)(s:_s)(H:Hp)(args:Args)(us:_n)(vs:List V)(Q:VK)(E:XK),gL k A->IS P w K mg base A outer s H->BindsTo s fd args (ps.zip us)->bN vs us->sp vs H Q E ->
  codeAny (model P w) A (.call (.ref f) args) (CR CX outer P w H s Q E) s
theorem kg.imp{w:World}{K:_l}{mg:_j}{base:Heap}{CX:Bk}{k:Nat}{fd:FuncData}{ps:_q}{sp sp':Sp}(F:kg P w K mg base CX k f fd ps sp)(h:∀vs H Q E,sp' vs H Q E->sp vs H Q E):kg P w K mg base CX k f fd ps sp':=
 ⟨fun vs H Q E q=>F.len vs H Q E (h _ _ _ _ q),fun A outer s H args us vs Q E hr he hb hv hs=>F.run A outer s H args us vs Q E hr he hb hv (h _ _ _ _ hs)⟩
section
variable{X:Cx}{σ:St}{H:Hp}
theorem aV.QD(I:aV X ai σ H s):IS X.prog X.w X.K X.mg X.base X.A X.stack s H:=
 ⟨I.ok.frames,I.ok.mod,I.bs,VX I.ok.Lr I.sz,I.stack,I.qq,I.cW,I.bare⟩
theorem aV.after{Q:VK}{u:_r}(I:aV X ai σ H s)(h:CE X.stack X.prog X.w H s Q u s'):EP X ai σ Q u s':=by obtain⟨v,H',os,bare,un,cW,r,q⟩:=h;obtain⟨hh,g,d,t,os'⟩:=s';obtain rfl:os'=s.os:=os;exact⟨v,H',I.call (h':=hh) (g':=g) (d':=d) (t':=t) (ch:=[]) un cW bare (fun b z=>absurd z (by simp)),r,q⟩
end
def QE(sp:Sp)(uo:List V)(E:XK)(t:TA):TE:=fun σ H Q=>t σ H fun vs H1=>sp (vs++uo) H1 Q E
def Binds(K:_l)(fd:FuncData)(ps:_q)(ds:_n):Prop:=
 ∀(s:_s)(us:_n),K.In s.heap->(us++ds).length=ps.length->BindsTo s fd ⟨us,[]⟩ (ps.zip (us++ds))
theorem Binds.all{K:_l}{fd:FuncData}{ps:_q}(h:∀us:_n,us.length=ps.length->bindArgs fd ⟨us,[]⟩=pure (ps.zip us)):Binds K fd ps []:=fun s us _ hl=>by rw[VW]at hl⊢;exact .of_eq (h us hl)
def Passes(CX:Bk)(X:Cx)(E:XK):Prop:=∀(ai:_k)(σ:St)(H:Hp)(s:_s)(e:_r)(s':_s),aV X ai σ H s->CX X.stack H s E e s'->X.xe e s'
section
variable{X:Cx}{CX:Bk}{k:Nat}{fd:FuncData}{ps:_q}{sp:Sp}{uo:List V}{ds:_n}{E:XK}{x m:Str}{ta:TE}{t:TA}
theorem MW{σ:St}{H:Hp}{Q:VK}{us:_n}{vs:List V}(F:kg X.prog X.w X.K X.mg X.base CX k f fd ps sp)(hr:gL k X.A)(hb:Binds X.K fd ps ds)(hd:bN uo ds)(hx:Passes CX X E)(I:aV X ai σ H s)(r:bN vs us)(h:sp (vs++uo) H Q E):wpAny (model X.prog X.w) X.A (call (.ref f) us) (EP X ai σ Q) X.xe s:=by
 have r2:bN (vs++uo) (us++ds):=r.append hd;have hl:(us++ds).length=ps.length:=by rw[<-r2.length];exact F.len _ _ _ _ h
 refine wpAny_call (XY (F.run X.A X.stack s H ⟨us,[]⟩ (us++ds) (vs++uo) Q E hr I.QD (hb s us I.qp hl) r2 h) fun r s' hq=>?_);cases r with
 |error e=>exact hx ai σ H s e s' I hq
 |ok fl=>
  cases fl with
  |ret u=>exact I.after hq
  |next=>exact False.elim hq
  |brk=>exact False.elim hq
  |cont=>exact False.elim hq
theorem IT(F:kg X.prog X.w X.K X.mg X.base CX k f fd ps sp)(hr:gL k X.A)(hg:Gl X x)(hm:X.mg x=some (.ref f))(hk:W.keepIn X.K (.ref f)=true)(hb:Binds X.K fd ps ds)(hd:bN uo ds)(hx:Passes CX X E)(ha:PA X (e::es) t)(qP:(x==("__debug__":Str))=false:=by decide)(he:starEach (e::es) X.env=(false,eval e X.env)::starEach es X.env:=by rfl)(kT:(backTo pos (starEach es X.env)).any (·.1)=false:=by rfl):
  PE X (.Call (.Name x p) (e::es) [] pos) (QE sp uo E t):=by
 intro ai s σ H Q I h;refine Xx (kP I hg hm ?_ qP);refine ZN (h₀:=X.base) I.ok.mod.Pz hk (cR (ha pos ai s σ H _ I h) fun us s1⟨vs,H1,I1,r,q⟩=>⟨I1.qp,?_⟩) he kT;exact MW F hr hb hd hx I1 r q
end
def PK(X:Cx)(EN:List Keyword)(t:TA):Prop:=
 ∀(pos:Pos)(ai:_k)(s:_s)(σ:St)(H:Hp)(Q:List V->Hp->Prop),aV X ai σ H s->t σ H Q->wpAny (model X.prog X.w) X.A (evalAll ((backToKw pos (keywordEach EN X.env)).map (·.2))) (AP X ai σ Q) X.xe s
section
variable{X:Cx}{CX:Bk}{k:Nat}{fd:FuncData}{ps ks:_q}{sp:Sp}{E:XK}{x m:Str}{Uc:Pos}{EN:List Keyword}{te ta:TE}{t tk:TA}{nm:Option Str}
theorem MX:PK X [] QC:=fun _ _ _ _ H Q I h=>wpAny_evalAll_nil ⟨[],H,I,.nil,h⟩
theorem IU(ha:PE X e te)(hr:PK X EN t):PK X (⟨nm,e,Uc⟩::EN) (Ly te t):=by intro pos ai s σ H Q I h;show wpAny _ _ (evalAll ((do let v <- eval e X.env;standAt pos;pure v)::(backToKw pos (keywordEach EN X.env)).map (·.2))) _ _ s;refine wpAny_evalAll_cons (Vn (cR (ha ai s σ H _ I h) fun u s1⟨x,H1,I1,r1,q1⟩=>Vn (Ye (VB ?_))));exact cR (hr pos ai s1 σ H1 _ I1 q1) fun us s2⟨xs,H2,I2,r2,q2⟩=>⟨x::xs,H2,I2,.cons r1 r2,q2⟩
variable{g:_n->_n->_n}{gV:List V->List V->List V}
end
structure iW(N P:_q)(sc:Scope):Prop where
 kind:sc.kind=.function
 co:sc.isCoroutine=false
 gen:sc.isGenerator=false
 nd:N.Nodup
 pre:N.take P.length=P
 par:∀x∈P,sc.names.lookup x=some .local\/sc.names.lookup x=some .cell
 MY:∀y∈sc.names,y.2≠.free
theorem uU{kindOf:Str->Option NameKind}{x:Str}:∀{binds:List (Str×_r)}{m:_j},(∀v,(x,v) ∉ binds)->bindL kindOf binds m x=m x
 |[],_,_=>rfl
 |(n,v)::r,m,h=>by
  unfold bindL;rw[uU fun w hw=>h w (Vq _ hw)];split
  .have:x≠n:=by rintro rfl;exact h v Vu
   simp[this]
  .rfl
theorem uV{kindOf:Str->Option NameKind}{x:Str}:∀{binds:List (Str×_r)}{m:_j},(∀v,(x,v) ∉ binds)->bindC kindOf binds m x=m x
 |[],_,_=>rfl
 |(n,v)::r,m,h=>by
  unfold bindC;rw[uV fun w hw=>h w (Vq _ hw)];split
  .rfl
  .have:x≠n:=by rintro rfl;exact h v Vu
   simp[this]
theorem uW{kindOf:Str->Option NameKind}{x:Str}{v:_r}:∀{P:_q}{vs:_n}{i:Nat}{m:_j},P.Nodup->P[i]?=some x->vs[i]?=some v->kindOf x=some .local ->
  bindL kindOf (P.zip vs) m x=some v
 |[],_,_,_,_,h,_,_=>by simp at h
 |_::_,[],_,_,_,_,h,_=>by simp at h
 |p::P,w::vs,0,m,nd,h1,h2,hk=>by simp at h1 h2;subst h1;subst h2;show bindL kindOf ((p,w)::P.zip vs) m p=_;unfold bindL;rw[uU fun v hv=>(Yv.mp nd).1 (X! hv).1,Vs hk];simp
 |p::P,w::vs,i+1,m,nd,h1,h2,hk=>by show bindL kindOf ((p,w)::P.zip vs) m x=_;unfold bindL;exact uW (i:=i) (Yv.mp nd).2 (by simpa using h1) (by simpa using h2) hk
theorem uX{kindOf:Str->Option NameKind}{x:Str}{v:_r}:∀{P:_q}{vs:_n}{i:Nat}{m:_j},P.Nodup->P[i]?=some x->vs[i]?=some v->kindOf x≠some .local ->
  bindC kindOf (P.zip vs) m x=some v
 |[],_,_,_,_,h,_,_=>by simp at h
 |_::_,[],_,_,_,_,h,_=>by simp at h
 |p::P,w::vs,0,m,nd,h1,h2,hk=>by simp at h1 h2;subst h1;subst h2;show bindC kindOf ((p,w)::P.zip vs) m p=_;unfold bindC;rw[uV fun v hv=>(Yv.mp nd).1 (X! hv).1,Vx hk];simp
 |p::P,w::vs,i+1,m,nd,h1,h2,hk=>by show bindC kindOf ((p,w)::P.zip vs) m x=_;unfold bindC;exact uX (i:=i) (Yv.mp nd).2 (by simpa using h1) (by simpa using h2) hk
def start(N:_q)(vs:List V):St:=vs.map some++List.replicate (N.length-vs.length) none
def hV(CX:Bk)(P:_v)(w:World)(K:_l)(mg:_j)(base:Heap)(N:_q)(qual:Str)(scope:Scope)(f:_t)(cd:_r)(A:_u)(outer:List Env)(s:_s)(H:Hp)(E:XK):Cx where
 prog:=P
 w:=w
 K:=K
 mg:=mg
 base:=base
 A:=A.deeper (envOfC qual scope s.heap.objs.size f cd)
 N:=N
 s₀:=s
 H₀:=H
 env:=envOfC qual scope s.heap.objs.size f cd
 outer:=outer
 stack:=envOfC qual scope s.heap.objs.size f cd::outer
 ex:=[]
 calm:=true
 fn:=fun _=>true
 pn:=[]
 xe:=fun e s'=>wpAny (model P w) (A.deeper (envOfC qual scope s.heap.objs.size f cd)) (leaving (envOfC qual scope s.heap.objs.size f cd) e) (fun _ SE=>CX outer H s E e SE) (fun e' SE=>CX outer H s E e' SE) s'
theorem xB{x:Str}(h:sc.names.lookup x=some .cell):∃c,(cellsFrom n sc.names []).lookup x=some c:=by have q:=Zj sc.names n [] (.inl h);exact Z8.mp q
theorem CN{CX:Bk}{w:World}{K:_l}{mg:_j}{base:Heap}{N ps:_q}{qual:Str}{scope:Scope}{cd:_r}{A:_u}{outer:List Env}{s1:_s}{H:Hp}{E:XK}{us:_n}{vs:List V}(S:iW N ps scope)(hd:A.handled=none)(e0:IS P w K mg base A outer s H)(hl:vs.length=ps.length)(r:bN vs us)(x:InCallC s s.heap.objs.size (bindL (envOfC qual scope s.heap.objs.size f cd).kindOf (ps.zip us) fun _=>none) (cellsFrom (s.heap.objs.size+1) scope.names []) (bindC (envOfC qual scope s.heap.objs.size f cd).kindOf (ps.zip us) fun _=>none) s1):
  aV (hV CX P w K mg base N qual scope f cd A outer s H E) [] (start N vs) H s1:=by
 have kT:ps.length<=N.length:=by have:=W! List.length S.pre;rw[Wq]at this;lia
 obtain⟨h1,tk,rfl,hk⟩:=x.done;have QF:∀b:_t,b ∉ (hV CX P w K mg base N qual scope f cd A outer s H E).ex:=fun b z=>absurd (show b∈([]:_p)from z) (by simp);refine⟨⟨e0.mod,S.kind,rfl,rfl,Vv _,fun y z c h1 h2=>?_,fun y hy=>?_,fun y c _ h=>?_,fun _=>hd,Around.frames_deeper e0.frames,.inr ⟨rfl,rfl⟩,fun b z=>absurd z (QF b),e0.bs,e0.Lr,fun b _ _=>QF b,fun b z=>absurd z (QF b),e0.lX,e0.Es⟩,
  rfl,e0.bare,Un.kept hk,⟨_,x.toInCall.ns,fun i y v h1 h2 h3=>?_⟩,fun y c h=>⟨_,x.cell y c h⟩,e0.cW.fresh (Vv _),fun y c h=>?_,fun p hp=>absurd (show p∈([]:_k)from hp) (by simp),e0.cW.kept hk,?_⟩
 .exact name_of_addr x.apart (W9 h1) (W9 h2)
 .have hy:scope.names.lookup y=some .cell\/scope.names.lookup y=some .free:=hy;rcases hy with hy|hy
  .exact xB hy
  .exact absurd rfl (S.MY _ (W9 hy))
 .exact X_ (x.above y c (W9 h))
 .have hi:i<vs.length:=by
   unfold start at h2;by_cases hi:i<vs.length
   .exact hi
   .rw[VS (by simpa using hi)]at h2;rw[XC]at h2;split at h2<;>cases h2
  have ha:vs[i]?=some v:=by
   unfold start at h2;rw[V' (by simpa using hi),VV]at h2;cases e:vs[i]? with
   |none=>rw[e]at h2;cases h2
   |some a=>rw[e]at h2;cases h2;rfl
  obtain⟨u,hu,rv⟩:=r.get ha;have hp:ps[i]?=some y:=by rw[<-S.pre,List.getElem?_take_of_lt (by lia)];exact h1
  have ndP:ps.Nodup:=by rw[<-S.pre];exact S.nd.sublist (List.take_sublist _ _)
  refine⟨u,rv,?_⟩;rcases S.par y (WK hp)with k|k
  .exact .inl ⟨k,uW ndP hp hu k⟩
  .obtain⟨c,e⟩:=xB (n:=s.heap.objs.size+1) k;refine .inr ⟨.inl k,c,e,?_⟩;have q:=x.cell y c e;rw[uX ndP hp hu (by show scope.names.lookup y≠_;rw[k];decide)]at q;exact q
 .exact e0.cW.fresh (X_ (x.above y c (W9 h)))
 .unfold start;show _=N.length;rw[Vz,Vt,V3];lia
theorem QG{CX:Bk}{w:World}{K:_l}{mg:_j}{base:Heap}{k:Nat}{qual:Str}{params:Arguments}{body:List Stmt}{scope:Scope}{dV kV ct:_r}{N ps:_q}{sp:Sp}(lk:K.lookup f=some ⟨oc,od,.func (W.fnOf name qual params body scope dV kV doc pm an iw ct),Il⟩)(zN:W.codeIn K iw qual=true)(S:iW N ps scope)(len:∀vs H Q E,sp vs H Q E->vs.length=ps.length)
  (EO:∀ (A:_u) (outer:List Env) (s:_s) (H:Hp) (vs:List V) (Q:VK) (E:XK),gL k (A.deeper (envOfC qual scope s.heap.objs.size f iw))->sp vs H Q E ->
   ∃t,j' (hV CX P w K mg base N qual scope f iw A outer s H E) body t/\t {nx:=fun _ H'=>Q .cO H',rt:=Q} (start N vs) H):
  kg P w K mg base CX (k+1) f (W.fnOf name qual params body scope dV kV doc pm an iw ct) ps sp:=by
 refine⟨len,fun A outer s H args us vs Q E hr e0 hb r Lz=>?_⟩;have hl:=len _ _ _ _ Lz;have KX:K.In s.heap:=e0.mod.Pz.keeps fun b o e=>(e0.bs b o e).1;have lim:s.heap.NoLimit:=e0.mod.nolimit.keeps fun b o e=>(e0.bs b o e).1;have QH:∀y∈ps.zip us,scope.names.lookup y.1=some .local\/(scope.names.lookup y.1=some .cell/\((cellsFrom (s.heap.objs.size+1) scope.names []).lookup y.1).isSome=true):=fun⟨n,v⟩hy=>by
  rcases S.par n (X! hy).1 with q|q
  .exact .inl q
  .exact .inr ⟨q,Zj _ _ _ (.inl q)⟩
 refine codeAny_call_function hr.depth (KX _ _ lk) rfl S.co S.gen rfl (W.codeRec_of KX zN) (hb _ _ _ _ ?_);refine wpAny_newFunctionEnv_cells S.kind QH fun env he s1 x=>?_;subst he;refine⟨lim.keeps x.toInCall.keep,codeAny_func ?_⟩;obtain⟨t,ht,hq⟩:=EO A outer s H vs Q E (hr.deeper _) Lz;have I:aV (hV CX P w K mg base N qual scope f iw A outer s H E) [] (start N vs) H s1:=CN S hr.hd e0 hl r x;refine Wg (ht [] s1 (start N vs) H _ I hq) (fun fl s' hs=>?_) fun e s' hs=>hs;have fin:∀{σ':St}{H':Hp}{v:V}{u:_r},aV (hV CX P w K mg base N qual scope f iw A outer s H E) [] σ' H' s'->bT v u->Q v H'->CE outer P w H s Q u s':=
  fun{σ' H' v u}J rv q=>⟨v,H',J.os,J.bare,J.base,J.cW,rv,q⟩
 cases fl with
 |ret u=>
  obtain⟨v,σ',H',J,rv,q⟩:=hs;exact fin J rv q
 |next=>
  obtain⟨σ',H',J,q⟩:=hs;exact fin (v:=V.cO) (u:=Value.none) J rfl q
 |brk=>
  obtain⟨_,_,_,q⟩:=hs;exact False.elim q
 |cont=>
  obtain⟨_,_,_,q⟩:=hs;exact False.elim q
section
variable{X:Cx}{x:Str}{t:TA}{id T:String}{r:List V->Hp->VK->Prop}
def tCB(r:List V->Hp->VK->Prop)(t:TA):TE:=fun σ H Q=>t σ H fun vs H1=>r vs H1 Q
theorem qQ(hc:c6 X (.builtin id) r)(hg:Gl X x)(hm:X.mg x=none)(hv:bootBuiltins x=some (.builtin id))(ha:PA X (e::es) t)(hn:x ≠ "__name__":=by decide)(qP:(x==("__debug__":Str))=false:=by decide)(he:starEach (e::es) X.env=(false,eval e X.env)::starEach es X.env:=by rfl)(kT:(backTo pos (starEach es X.env)).any (·.1)=false:=by rfl):PE X (.Call (.Name x p) (e::es) [] pos) (tCB r t):=by intro ai s σ H Q I h;refine Xx (kf I hg hm hv ?_ hn qP);exact PyProof.Rows.callWith_builtin1 (cR (ha pos ai s σ H _ I h) fun us s1⟨vs,H1,I1,r1,q1⟩=>hc ai s1 σ H1 vs us Q I1 r1 q1) he kT
theorem CO(hc:c6 X (.type T) r)(hg:Gl X x)(hm:X.mg x=none)(hv:bootBuiltins x=some (.type T))(ha:PA X (e::es) t)(hn:x ≠ "__name__":=by decide)(qP:(x==("__debug__":Str))=false:=by decide)(he:starEach (e::es) X.env=(false,eval e X.env)::starEach es X.env:=by rfl)(kT:(backTo pos (starEach es X.env)).any (·.1)=false:=by rfl):PE X (.Call (.Name x p) (e::es) [] pos) (tCB r t):=by intro ai s σ H Q I h;refine Xx (kf I hg hm hv ?_ hn qP);exact WY (cR (ha pos ai s σ H _ I h) fun us s1⟨vs,H1,I1,r1,q1⟩=>hc ai s1 σ H1 vs us Q I1 r1 q1) he kT
end
end L2
variable {H H' H₀:L2.Hp}
variable {w:World}
variable {X:L2.Cx}
variable {N:List Str}
variable {A:Around}
variable {E:L2.XK}
variable {σ:L2.St}
variable {te tl td:L2.TE}
variable {wi:L2.TI}
variable {prog pg:Program}
variable {CX:L2.Bk}
variable {sp:L2.Sp}
variable {ns:_m}
variable {tt:L2.TT}
variable {J:L2.It}
namespace HT
open PyProof.Rows
section
variable{E:_i}
theorem IV{t b:_t}{ws:_n}(ht:IsTup s.heap t vs.toArray)(hb:IsTup s.heap b ws.toArray)(hv:vs≠[])(h1:ws=[]->Q (.ref t) s)(h2:ws≠[]->Q (.ref s.heap.objs.size) {s with heap:=s.heap.push {cls:=.type "tuple",data:=.seq (vs++ws).toArray} })(hsz:vs.length+ws.length<=sizeLine):wpAny (model prog w) A (binaryOp .Add (.ref t) (.ref b)) Q E s:=by
 obtain⟨⟨cls,dd,data,sl⟩,ho,hc,n,hd⟩:=id ht;obtain⟨⟨Ud,SF,data2,MZ⟩,ER,PF,n2,hd2⟩:=id hb;simp only at hc hd PF hd2;subst hc hd PF hd2;have e:vs.toArray++ws.toArray=(vs++ws).toArray:=by simp
 by_cases hw:ws=[]
 .exact Z5 ⟨_,ho,rfl⟩ ⟨_,ER,rfl⟩ Y8 ZI X9 X5 (XZ _ _)
   (tuple_addW1 t b vs.toArray ws.toArray n n2 dd SF sl MZ (by simpa using hv) (by simp[hw])) ⟨ho,ER,h1 hw⟩
 .refine Z5 ⟨_,ho,rfl⟩ ⟨_,ER,rfl⟩ Y8 ZI X9 X5 (XZ _ _)
   (tuple_addW2 t b vs.toArray ws.toArray n n2 dd SF sl MZ (by simpa using hv) (by simpa using hw) (by rw[VM,VM];exact hsz)) ⟨ho,ER,?_⟩
  rw[e];exact h2 hw
def gz(n d:Nat):Option Int->Nat
 |none=>d
 |some v=>if v<0 then(v+(n:Int)).toNat else min v.toNat n
theorem mR(n d:Nat):gz n d none=d:=rfl
theorem qt(n d k:Nat):gz n d (some (k:Int))=min k n:=by show(if(k:Int)<0 then((k:Int)+(n:Int)).toNat else min (k:Int).toNat n)=min k n;rw[Vx (by lia),WS]
theorem M0(n d:Nat)(hd:d<=n)(o:Option Int):gz n d o<=n:=by
 cases o with
 |none=>exact hd
 |some v=>
  show(if v<0 then(v+(n:Int)).toNat else min v.toNat n)<=n;by_cases hv:v<0
  .rw[Vs hv];lia
  .rw[Vx hv];exact Z9 _ _
theorem Bl(v:Int)(n d:Nat):(if v<0 then max (v+(n:Int)) 0 else min v (n:Int))=((gz n d (some v):Nat):Int):=by
 show(if v<0 then max (v+(n:Int)) 0 else min v (n:Int))=(((if v<0 then(v+(n:Int)).toNat else min v.toNat n):Nat):Int);by_cases hv:v<0
 .simp only[Vs hv];lia
 .simp only[Vx hv];lia
theorem zT(lo hi:Option Int)(n:Nat):Builtin.Slice.sliceAdjust lo hi 1 (n:Int)=(((gz n 0 lo:Nat):Int),((gz n n hi:Nat):Int)):=by
 have h1:¬ ((1:Int)<0):=by lia
 unfold Builtin.Slice.sliceAdjust;simp only[h1,W8];refine Prod.ext ?_ ?_
 .cases lo with
  |none=>rfl
  |some v=>exact Bl v n 0
 .cases hi with
  |none=>rfl
  |some v=>exact Bl v n n
theorem zU(i j:Nat):Builtin.Slice.slicePlaces (i:Int) (j:Int) 1=j-i:=by
 unfold Builtin.Slice.slicePlaces;have h1:(1:Int)>0:=by lia
 simp only[h1,Xz,Int.ediv_one];split<;>lia
theorem qR{v:_r}{o:Option Int}{Q:Option Int->_s->Prop}(p:IsPart v o)(h:Q o s):wpAny (model prog w) A (Builtin.Slice.slicePartIndex v) Q E s:=by
 cases p with
 |none=>exact slicePart_none h
 |int i t=>exact slicePart_int h
theorem nY{sl:_t}{vl vu:_r}{lo hi:Option Int}{Q:Int×Int×Nat->_s->Prop}(hs:s.heap.IsSliceOf sl vl vu .none)(pl:IsPart vl lo)(pu:IsPart vu hi)(h:Q (((gz n 0 lo:Nat):Int),1,gz n n hi-gz n 0 lo) s):wpAny (model prog w) A (Builtin.Slice.sliceApplied (.ref sl) (pure (n:Int))) Q E s:=by obtain⟨os,QI,hcs,SG⟩:=id hs;unfold Builtin.Slice.sliceApplied Builtin.Slice.sliceFields;refine Vn (Vn (Wi QI SG (x:=vl) rfl (Vn (Wi QI SG (x:=vu) rfl (Vn (Wi QI SG (x:=.none) rfl (VB ?_)))))));refine Vn (slicePart_none ?_);show wpAny _ _ (if((1:Int)==0)=true then _ else _) _ _ s;rw[Vx (by decide)];refine Vn (qR pl (Vn (qR pu (Vn (VB ?_)))));show wpAny _ _ (match Builtin.Slice.sliceAdjust lo hi 1 (n:Int) with|(lo,hi)=>pure (lo,(1:Int),Builtin.Slice.slicePlaces lo hi 1)) _ _ s;rw[zT lo hi n];show wpAny _ _ (pure (((gz n 0 lo:Nat):Int),(1:Int),Builtin.Slice.slicePlaces ((gz n 0 lo:Nat):Int) ((gz n n hi:Nat):Int) 1)) _ _ s;rw[zU];exact VB h
theorem ES(xs:Array _r)(i k:Nat):((List.range k).filterMap fun(m:Nat)=>xs[((i:Int)+(m:Int)*1).toNat]?).toArray=((xs.toList.drop i).take k).toArray:=by
 have e:(fun(m:Nat)=>xs[((i:Int)+(m:Int)*1).toNat]?)=fun m=>xs[i+m]?:=by
  funext m;have:((i:Int)+(m:Int)*1).toNat=i+m:=by lia
  rw[this]
 rw[e];have:=pick_run xs i k;rw[Yt]at this;have e2:((fun x=>xs[x]?) ∘ fun x=>i+x)=fun m=>xs[i+m]?:=rfl;rw[e2]at this;rw[this]
theorem mS{t sl:_t}{vl vu:_r}{lo hi:Option Int}(ht:IsTup s.heap t items)(hs:s.heap.IsSliceOf sl vl vu .none)(pl:IsPart vl lo)(pu:IsPart vu hi)(hw:¬ (gz items.size 0 lo=0/\gz items.size items.size hi=items.size))(h:Q (.ref s.heap.objs.size) {s with heap:=s.heap.push {cls:=.type "tuple",data:=.seq ((items.toList.drop (gz items.size 0 lo)).take (gz items.size items.size hi-gz items.size 0 lo)).toArray} })(hsz:items.size<=sizeLine):wpAny (model prog w) A (getItem (.ref t) (.ref sl)) Q E s:=by
 have Bm:sizeOk (.seq ((items.toList.drop (gz items.size 0 lo)).take (gz items.size items.size hi-gz items.size 0 lo)).toArray):=by show((items.toList.drop (gz items.size 0 lo)).take (gz items.size items.size hi-gz items.size 0 lo)).toArray.size<=sizeLine;rw[VM,Wq,WU,V5];lia
 have hj:gz items.size items.size hi<=items.size:=M0 _ _ (Vv _) hi;obtain⟨os,QI,hcs,SG⟩:=id hs;have hTs:s.TypeIs (.ref sl) "slice":=⟨os,QI,hcs⟩
 unfold getItem
 try with_reducible refine WM ?_
 first|refine Vn (VB ?_)|skip
 refine Vn (wpAny_sequenceKey ht.typeIs (by decide) ?_);refine Vn (Wk (name:=Str.ofString "__getitem__") ht.typeIs Xy
  (WI Xy ht.typeIs entry_tuple_getitem ?_ (args_tuple_getitem _ _)))
 show wpAny _ _ (Builtin.Tuple.tupleItemsOf (.ref t) >>= _) _ _ s;refine Vn (tupleItemsOf_ ht ?_);refine Vn (wpAny_typeOf hTs ?_);rw[Vs (by decide)];refine Vn (nY hs pl pu ?_);have Ue:¬ ((((gz items.size 0 lo:Nat):Int)==0&&(1:Int)==1&&(gz items.size items.size hi-gz items.size 0 lo)==items.size)=true):=by intro q;rw[V4,V4]at q;have q1:((gz items.size 0 lo:Nat):Int)=0:=eq_of_beq q.1.1;have q2:gz items.size items.size hi-gz items.size 0 lo=items.size:=eq_of_beq q.2;exact hw ⟨by lia,by lia⟩
 show wpAny _ _ (if(((gz items.size 0 lo:Nat):Int)==0&&(1:Int)==1&&(gz items.size items.size hi-gz items.size 0 lo)==items.size)=true then _ else _) _ _ s;rw[Vx Ue,ES]
 first
  |exact Vn (m:=Builtin.Tuple.tupleExact _) (Wt (VB ⟨_,rfl,VB h⟩) Bm)
  |exact Vn (m:=Builtin.Tuple.tupleExact _) (Wt (Vn (VB (VB ⟨_,rfl,VB h⟩))) Bm)
  |exact Vn (Vn (m:=Builtin.Tuple.tupleExact _) (Wt (VB (VB ⟨_,rfl,VB h⟩)) Bm))
  |exact Vn (Vn (m:=Builtin.Tuple.tupleExact _) (Wt (VB ⟨_,rfl,VB h⟩) Bm))
end
end HT
namespace L2
open PySem.Spec PyProof.Rows
abbrev TO:=St->Hp->(Option Int->Hp->Prop)->Prop
def PO(X:Cx)(e:Option Expr)(t:TO):Prop:=
 ∀(ai:_k)(s:_s)(σ:St)(H:Hp)(Q:Option Int->Hp->Prop),aV X ai σ H s->t σ H Q ->
  wpAny (model X.prog X.w) X.A (evalPart e X.env) (fun u s'=>∃o H',aV X ai σ H' s'/\IsPart u o/\Q o H') X.xe s
def IW:TO:=fun _ H Q=>Q none H
def QJ(t:TE):TO:=fun σ H Q=>t σ H fun x H1=>∃i,x=.int i/\Q (some i) H1
section
variable{hi:Option Expr}{tl th:TO}
theorem IX:PO X none IW:=by intro ai s σ H Q I h;rw[YL];exact VB ⟨none,H,I,.none,h⟩
theorem IY(h:PE X e te):PO X (some e) (QJ te):=by intro ai s σ H Q I hw;rw[YK];refine cR (h ai s σ H _ I hw) fun u s1⟨x,H1,I1,r1,q1⟩=>?_;obtain⟨i,rfl,q⟩:=q1;obtain⟨t,rfl⟩:=r1;exact⟨some i,H1,I1,.int i t,q⟩
def IZ(X:Cx)(r:V->Option Int->Option Int->Hp->VK->Prop):Prop:=
 ∀(ai:_k)(s:_s)(σ:St)(H:Hp)(x:V)(v vl vu:_r)(lo hi:Option Int)(sl:_t)(Q:VK),aV X ai σ H s->bT x v->s.heap.IsSliceOf sl vl vu .none->IsPart vl lo->IsPart vu hi->r x lo hi H Q ->
  ∃T id,typeLookup (.type T) "__getitem__" = pure (some (.builtin id))/\s.TypeIs v T/\wpAny (model X.prog X.w) X.A (getItem v (.ref sl)) (EP X ai σ Q) X.xe s
theorem IZ.or{r r':V->Option Int->Option Int->Hp->VK->Prop}(h:IZ X r)(h':IZ X r'):IZ X (fun x lo hi H Q=>r x lo hi H Q\/r' x lo hi H Q):=by
 intro ai s σ H x v vl vu lo hi sl Q I rx hs pl pu q;rcases q with q|q
 .exact h ai s σ H x v vl vu lo hi sl Q I rx hs pl pu q
 .exact h' ai s σ H x v vl vu lo hi sl Q I rx hs pl pu q
def tSl(r:V->Option Int->Option Int->Hp->VK->Prop)(te:TE)(tl th:TO):TE:=fun σ H Q=>te σ H fun x H1=>tl σ H1 fun l H2=>th σ H2 fun u H3=>r x l u H3 Q
theorem xC{r:V->Option Int->Option Int->Hp->VK->Prop}(hr:IZ X r)(he:PE X e te)(hl:PO X lo tl)(hu:PO X hi th):PE X (.Subscript e (.Slice lo hi none p2) pos) (tSl r te tl th):=by intro ai s σ H Q I h;refine Zt (cR (he ai s σ H _ I h) fun v s1⟨x,H1,I1,r1,q1⟩=>?_);refine wpAny_Slice (cR (hl ai s1 σ H1 _ I1 q1) fun vl s2⟨l,H2,I2,pl,q2⟩=>cR (hu ai s2 σ H2 _ I2 q2) fun vu s3⟨u,H3,I3,pu,q3⟩=>?_);rw[YL];refine VB ?_;have I4:aV X ai σ H3 {s3 with heap:=s3.heap.push {cls:=.type "slice",data:=.fields #[vl,vu,.none]} }:=I3.kept (t':=s3.toks) fun b ob q=>Vr _ q;obtain⟨T,id,hT,ht,hg⟩:=hr ai {s3 with heap:=s3.heap.push {cls:=.type "slice",data:=.fields #[vl,vu,.none]} } σ H3 x v vl vu l u s3.heap.objs.size Q I4 r1 (YV ..) pl pu q3;show wpAny (model X.prog X.w) X.A (subscriptTail e (.Slice lo hi none p2) v (.ref s3.heap.objs.size)) (EP X ai σ Q) X.xe {s3 with heap:=s3.heap.push {cls:=.type "slice",data:=.fields #[vl,vu,.none]} };exact tail_any (ops:=[.ref s3.heap.objs.size,v]) ht hT hg (by with_unfolding_all rfl)
def vK(xs:List V)(lo hi:Option Int):List V:=(xs.drop (HT.gz xs.length 0 lo)).take (HT.gz xs.length xs.length hi-HT.gz xs.length 0 lo)
theorem pE(xs:List V)(lo hi:Option Int):(vK xs lo hi).length<=xs.length:=by unfold vK;rw[Wq,WU];lia
def Ug(K:_l):V->Option Int->Option Int->Hp->VK->Prop:=fun x lo hi H Q=>∃a xs,x=.ref a/\kQ K H a xs /\
 ¬ (HT.gz xs.length 0 lo=0/\HT.gz xs.length xs.length hi=xs.length)/\∀p,H p=none->Q (.ref p) (upd H p (.tup (vK xs lo hi)))
theorem M1:IZ X (Ug X.K):=by
 intro ai s σ H x v vl vu lo hi sl Q I rx hs pl pu h;obtain⟨a,xs,rfl,hx,hw,q⟩:=h;cases rx;obtain⟨aM,r,ht,hz⟩:=I.tuple hx;have hlen:aM.toArray.size=xs.length:=by rw[VM];exact r.length.symm
 refine⟨"tuple",_,Xy.lookup,ht.typeIs,?_⟩;refine HT.mS ht hs pl pu (by rw[hlen];exact hw) ?_ (by rw[hlen];exact hz);rw[hlen];refine⟨.ref s.heap.objs.size,_,I.laid (t':=s.toks) (o:=.tup (vK xs lo hi)) (fun b ob q=>Vr _ q) (Vv _) ?_,rfl,q _ (I.cW.fresh (Vv _))⟩;exact⟨VX (pE xs lo hi) hz,_,(r.drop (HT.gz xs.length 0 lo)).take (HT.gz xs.length xs.length hi-HT.gz xs.length 0 lo),IsTup.new _ _⟩
def QK(K:_l):R2:=fun x y H Q=>∃a b xs ys,x=.ref a/\y=.ref b/\kQ K H a xs/\kQ K H b ys/\xs≠[]/\xs.length+ys.length<=sizeLine /\
 (ys=[]->Q (.ref a) H)/\(ys≠[]->∀p,H p=none->Q (.ref p) (upd H p (.tup (xs++ys))))
theorem bN.vL{xs:List V}{us:_n}(r:bN xs us):us=[]↔xs=[]:=by
 cases r with
 |nil=>simp
 |cons _ _=>simp
theorem I_:ej X (binaryOp .Add) (QK X.K):=by intro ai s σ H x y v u Q I rx ry h;obtain⟨a,b,xs,ys,rfl,rfl,ha,hb,hx,hz,q1,q2⟩:=h;cases rx;cases ry;obtain⟨aM,r1,p1,_⟩:=I.tuple ha;obtain⟨fS,r2,p2,_⟩:=I.tuple hb;refine HT.IV p1 p2 (fun z=>hx (r1.vL.mp z)) (fun z=>⟨.ref a,H,I,rfl,q1 (r2.vL.mp z)⟩) (fun z=>?_) (by rw[<-r1.length,<-r2.length];exact hz);refine⟨.ref s.heap.objs.size,_,I.laid (t':=s.toks) (o:=.tup (xs++ys)) (fun b ob q=>Vr _ q) (Vv _) ?_,rfl,q2 (fun w=>z (r2.vL.mpr w)) _ (I.cW.fresh (Vv _))⟩;exact⟨by rw[Vz];exact hz,_,r1.append r2,IsTup.new _ _⟩
end
def Bn(n:Nat)(i:Int):Option Nat:=if 0<=i then(if i<n then some i.toNat else none)else if -(n:Int)<=i then some (i+n).toNat else none
def pF(xs:List α)(i:Int):Option α:=(Bn xs.length i).bind fun j=>xs[j]?
theorem Bo{i:Int}{j:Nat}(h:Bn n i=some j):seqIndex? i n=some j/\j<n/\-(n:Int)<=i/\i<n:=by
 unfold Bn at h;by_cases h0:0<=i
 .rw[Vs h0]at h;by_cases h1:i<n
  .rw[Vs h1]at h;have e:i.toNat=j:=V! h;exact⟨by rw[seqIndex_of h0 h1,e],by lia,by lia,h1⟩
  .rw[Vx h1]at h;cases h
 .rw[Vx h0]at h;by_cases h1:-(n:Int)<=i
  .rw[Vs h1]at h;have e:(i+n).toNat=j:=V! h;exact⟨by rw[Z3 (by lia) h1,e],by lia,h1,by lia⟩
  .rw[Vx h1]at h;cases h
theorem vM{xs:List α}{i:Int}{v:α}(h:pF xs i=some v):∃j,seqIndex? i xs.length=some j/\xs[j]?=some v/\j<xs.length/\-(xs.length:Int)<=i/\i<xs.length:=by
 unfold pF at h;cases e:Bn xs.length i with
 |none=>rw[e]at h;cases h
 |some j=>
  rw[e]at h;obtain⟨h1,h2,h3,h4⟩:=Bo e;exact⟨j,h1,h,h2,h3,h4⟩
theorem ft{xs:List α}{j:Nat}{v:α}(h:xs[j]?=some v):pF xs (j:Int)=some v:=by
 have hj:j<xs.length:=(VP.mp h).1;have e:Bn xs.length (j:Int)=some j:=by unfold Bn;rw[Vs (by lia),Vs (by lia)];simp
 unfold pF;rw[e];exact h
def vN(b:Expr):Prop:=∀o i,subscripted b false o i=operate [o,i] (getItem o i)
def xp(X:Cx)(r:R2):Prop:=
 ∀(value slice:Expr)(ai:_k)(s:_s)(σ:St)(H:Hp)(x y:V)(v u:_r)(Q:VK),aV X ai σ H s->bT x v->bT y u->r x y H Q ->
  subscripted slice false v u=operate [v,u] (getItem v u)->wpAny (model X.prog X.w) X.A (subscriptTail value slice v u) (EP X ai σ Q) X.xe s
def MtR(X:Cx)(id:String)(r:V->List V->Hp->VK->Prop):Prop:=
 ∀(ai:_k)(s:_s)(σ:St)(H:Hp)(x:V)(xs:List V)(v:_r)(us:_n)(Q:VK),aV X ai σ H s->bT x v->bN xs us->r x xs H Q ->
  wpAny (model X.prog X.w) X.A (call (.builtin id) (v::us)) (EP X ai σ Q) X.xe s
section
variable{a b:Expr}{ta tb:TE}
theorem xp.or{r r':R2}(h:xp X r)(h':xp X r'):xp X (fun x y H Q=>r x y H Q\/r' x y H Q):=by
 intro value slice ai s σ H x y v u Q I rx ry q hs;rcases q with q|q
 .exact h value slice ai s σ H x y v u Q I rx ry q hs
 .exact h' value slice ai s σ H x y v u Q I rx ry q hs
theorem QL{r:R2}(hr:xp X r)(ha:PE X a ta)(hb:PE X b tb)(hs:vN b):PE X (.Subscript a b pos) (PD r ta tb):=by intro ai s σ H Q I h;exact Zt (MG ha hb I h fun v u s2 x y H2 I2 rx ry q=>hr a b ai s2 σ H2 x y v u Q I2 rx ry q (hs _ _))
def Uh(K:_l):R2:=fun x y H Q=>∃p xs i v,x=.ref p/\y=.int i/\lY K H p xs/\pF xs i=some v/\Q v H
def Ui(K:_l):R2:=fun x y H Q=>∃p xs i v,x=.ref p/\y=.int i/\kQ K H p xs/\pF xs i=some v/\Q v H
def Uj:R2:=fun x y H Q=>∃z i c,x=.str z/\y=.int i/\z.length<=sizeLine/\pF z.cps.toList i=some c/\Q (.str ⟨#[c]⟩) H
theorem I!:xp X (Uh X.K):=by
 intro value slice ai s σ H x y v u Q I rx ry h hs;obtain⟨p,xs,i,z,rfl,rfl,hq,he,q⟩:=h;cases rx;obtain⟨t,rfl⟩:=ry;obtain⟨aM,r,pl,hz⟩:=I.list hq;obtain⟨j,h1,h2,h3,h4,h5⟩:=vM he;obtain⟨w,ew,qT⟩:=r.get h2;have hl:=r.length;have hn:=nX;have fin:EP X ai σ Q w s:=⟨z,H,I,qT,q⟩
 by_cases h0:0<=i
 .have hj:i.toNat=j:=by rw[seqIndex_of h0 h5]at h1;exact V! h1
  exact item_listR pl.isList h0 (by lia) (by rw[hj];simpa using ew) fin hs
 .have hj:(i+(aM.toArray.size:Int)).toNat=j:=by rw[Z3 (by lia) h4]at h1;rw[VM,<-hl];exact V! h1
  exact subscriptTail_builtinR (x:=w) pl.isList.typeIs Yd.lookup
   (wpAny_getItem_list_neg (Q:=fun r s'=>r=w/\EP X ai σ Q r s') pl.isList (by lia) (by rw[VM]<;>lia) (by lia) (by rw[hj];simpa using ew) ⟨rfl,fin⟩) hs
theorem vO:xp X (Ui X.K):=by
 intro value slice ai s σ H x y v u Q I rx ry h hs;obtain⟨p,xs,i,z,rfl,rfl,hq,he,q⟩:=h;cases rx;obtain⟨t,rfl⟩:=ry;obtain⟨aM,r,pl,hz⟩:=I.tuple hq;obtain⟨j,h1,h2,h3,h4,h5⟩:=vM he;obtain⟨w,ew,qT⟩:=r.get h2;have hl:=r.length;have hn:=nX;have fin:EP X ai σ Q w s:=⟨z,H,I,qT,q⟩
 exact subscriptTail_builtinR (x:=w) pl.typeIs slot_tuple_getitem.lookup
  (getItem_tuple (j:=j) (Q:=fun r s'=>r=w/\EP X ai σ Q r s') pl (by lia) (by lia) (by rw[VM,<-hl];exact h1) (by simpa using ew) ⟨rfl,fin⟩) hs
theorem M3:xp X Uj:=by
 intro value slice ai s σ H x y v u Q I rx ry h hs;obtain⟨z,i,c,rfl,rfl,hz,he,q⟩:=h;obtain⟨t,rfl⟩:=rx;obtain⟨t',rfl⟩:=ry;obtain⟨j,h1,h2,h3,h4,h5⟩:=vM he;have hl:z.cps.toList.length=z.length:=by simp[Str.length]
 rw[hl]at h1 h4 h5;have hn:=nX;exact tail_any (YM s z t) slot_str_getitem.lookup (getItem_str (c:=c) (by
  have e1:decide (i < -(2 ^ 63:Int))=false:=VE (by lia);have e2:decide (i ≥ 2 ^ 63)=false:=VE (by lia);rw[e1,e2,Bool.or_false]) (by rw[h1];simpa using h2) ⟨.str ⟨#[c]⟩,H,I.tok _,⟨_,rfl⟩,q⟩) hs
theorem zV(aM:_n)(n j:Nat)(u:_r):Obj.mapSeq (·.setIfInBounds j u) {cls:=.type "list",data:=.seq aM.toArray n} = {cls:=.type "list",data:=.seq (aM.set j u).toArray n}:=by simp[Obj.mapSeq]
theorem aV.lst{ai:_k}{σ:St}{H:Hp}{s:_s}{p:_t}{xs:List V}(I:aV X ai σ H s)(h:H p=some (.lst xs)):
  ∃(aM:_n)(n:Nat),bN xs aM/\s.heap.get? p=some {cls:=.type "list",data:=.seq aM.toArray n}/\xs.length<=sizeLine:=by
 obtain⟨z,aM,n,r,e⟩:=I.cW p _ h;exact⟨aM,n,r,e,z⟩
theorem aV.M4{p:_t}{xs ys:List V}{its':_n}{n':Nat}{f:Obj->Obj}(I:aV X ai σ H s)(h:H p=some (.lst xs))(ho:s.heap.get? p=some {cls:=.type "list",data:=.seq aM.toArray n})(hf:f {cls:=.type "list",data:=.seq aM.toArray n} = {cls:=.type "list",data:=.seq its'.toArray n'})(r:bN ys its')(hz:ys.length<=sizeLine)(t:Nat):
  aV X ai σ (upd H p (.lst ys)) {s with heap:=s.heap.update p f,toks:=t}:=by
 have e:(s.heap.update p f).get? p=some {cls:=.type "list",data:=.seq its'.toArray n'}:=by rw[Xk f ho (by rw[hf]<;>rfl),hf]
 refine I.write (x:=p) (e:=p) (by rw[h];trivial) (.inl rfl) (fun b u hb q=>(Wx _ _ (Xg hb)).trans q) ⟨_,e⟩ ?_;exact⟨hz,its',n',r,e⟩
def LA:V->V->V->Hp->(Hp->Prop)->Prop:=fun o i v H Q=>∃p xs k j,o=.ref p/\i=.int k/\H p=some (.lst xs)/\Bn xs.length k=some j/\Q (upd H p (.lst (xs.set j v)))
theorem set_list:Qk X LA:=by
 intro ai s σ H o i v ov iv u Q I ro ri rv h;obtain⟨p,xs,k,j,rfl,rfl,hp,hj,q⟩:=h;cases ro;obtain⟨t,rfl⟩:=ri;obtain⟨aM,n,r,ho,hz⟩:=I.lst hp;obtain⟨h1,h2,h3,h4⟩:=Bo hj;have hl:=r.length;have hn:=nX;have I':aV X ai σ (upd H p (.lst (xs.set j v))) {s with heap:=s.heap.update p (Obj.mapSeq (·.setIfInBounds j u))}:=
  I.M4 hp ho (zV aM n j u) (r.set rv j) (by rw[Wm];exact hz) s.toks
 by_cases h0:0<=k
 .have hk:k.toNat=j:=by rw[seqIndex_of h0 h4]at h1;exact V! h1
  exact W.ki_setAt ho h0 (by lia) (by rw[VM,<-hl];exact h4) (by rw[hk];exact⟨_,I',q⟩)
 .have hk:(k+(aM.toArray.size:Int)).toNat=j:=by rw[Z3 (by lia) h3]at h1;rw[VM,<-hl];exact V! h1
  exact W.ki_setBack ho (by lia) (by rw[VM,<-hl];exact h3) (by lia) (by rw[hk];exact⟨_,I',q⟩)
theorem vP(lo hi:Option Int)(n:Nat):(sliceBounds lo hi none n).1=((HT.gz n 0 lo:Nat):Int)/\(sliceBounds lo hi none n).2.1=((HT.gz n n hi:Nat):Int)/\(sliceBounds lo hi none n).2.2=1:=by
 refine⟨?_,?_,rfl⟩
 .cases lo with
  |none=>simp[sliceBounds,HT.gz]
  |some i=>
   simp only[sliceBounds,HT.gz,Option.getD_none,show(1:Int)>0 by decide,Xz];by_cases h:i<0
   .simp only[h,Xz]<;>lia
   .simp only[h,W8]<;>lia
 .cases hi with
  |none=>simp[sliceBounds,HT.gz]
  |some i=>
   simp only[sliceBounds,HT.gz,Option.getD_none,show(1:Int)>0 by decide,Xz];by_cases h:i<0
   .simp only[h,Xz]<;>lia
   .simp only[h,W8]<;>lia
theorem uq(aM:_n)(lo hi:Option Int):slicePick aM.toArray lo hi none=((aM.drop (HT.gz aM.length 0 lo)).take (HT.gz aM.length aM.length hi-HT.gz aM.length 0 lo)).toArray:=by obtain⟨h1,h2,h3⟩:=vP lo hi aM.toArray.size;unfold slicePick;rw[h1,h2,h3];simp only[sliceRange_one,pick_run,VM]<;>rfl
def Uk(K:_l):V->Option Int->Option Int->Hp->VK->Prop:=fun x lo hi H Q=>∃a xs,x=.ref a/\lY K H a xs/\∀p,H p=none->Q (.ref p) (upd H p (.lst (vK xs lo hi)))
theorem I?:IZ X (Uk X.K):=by intro ai s σ H x v vl vu lo hi sl Q I rx hs pl pu h;obtain⟨a,xs,rfl,hx,q⟩:=h;cases rx;obtain⟨aM,r,ht,hz⟩:=I.list hx;have hlen:=r.length;refine⟨"list",_,Yd.lookup,ht.isList.typeIs,?_⟩;refine Yg ht.isList hs pl pu .none (by simp) ?_ (by rw[VM]<;>lia);rw[uq,<-hlen];refine⟨.ref s.heap.objs.size,_,I.laid (t':=s.toks) (o:=.lst (vK xs lo hi)) (fun b ob q=>Vr _ q) (Vv _) ?_,rfl,q _ (I.cW.fresh (Vv _))⟩;exact⟨VX (pE xs lo hi) hz,_,0,(r.drop (HT.gz xs.length 0 lo)).take (HT.gz xs.length xs.length hi-HT.gz xs.length 0 lo),VR _ rfl⟩
def kh:V->Bool
 |.cO=>true
 |.bl _=>true
 |.int _=>true
 |.str _=>true
 |_=>false
def Im:V->V->Bool
 |.cO,.cO=>true
 |.bl a,.bl b=>a==b
 |.bl a,.int b=>(if a then 1 else 0)==b
 |.int a,.bl b=>a==(if b then 1 else 0)
 |.int a,.int b=>a==b
 |.str a,.str b=>a==b
 |_,_=>false
theorem M5{y x:V}{u v:_r}(ry:bT y u)(rx:bT x v)(fy:kh y=true)(fx:kh x=true):SeqAt.EqAt A s u v (Im y x):=by
 cases y with
 |cO=>
  cases ry;cases x with
  |cO=>cases rx;exact Zi _
  |bl b=>cases rx;exact SeqAt.EqAt.none_bool b
  |int b=>obtain⟨t,rfl⟩:=rx;exact SeqAt.EqAt.none_int b t
  |str b=>obtain⟨t,rfl⟩:=rx;exact SeqAt.EqAt.none_str b t
  |_=>exact absurd (show false=true from fx) VC
 |bl a=>
  cases ry;cases x with
  |cO=>cases rx;exact SeqAt.EqAt.bool_none a
  |bl b=>cases rx;exact SeqAt.EqAt.bool_bool a b
  |int b=>obtain⟨t,rfl⟩:=rx;exact SeqAt.EqAt.bool_int a b t
  |str b=>obtain⟨t,rfl⟩:=rx;exact SeqAt.EqAt.bool_str a b t
  |_=>exact absurd (show false=true from fx) VC
 |int a=>
  obtain⟨t',rfl⟩:=ry;cases x with
  |cO=>cases rx;exact SeqAt.EqAt.int_none a t'
  |bl b=>cases rx;exact SeqAt.EqAt.int_bool a t' b
  |int b=>obtain⟨t,rfl⟩:=rx;exact SeqAt.EqAt.int_int a t' b t
  |str b=>obtain⟨t,rfl⟩:=rx;exact YR a t' b t
  |_=>exact absurd (show false=true from fx) VC
 |str a=>
  obtain⟨t',rfl⟩:=ry;cases x with
  |cO=>cases rx;exact SeqAt.EqAt.str_none a t'
  |bl b=>cases rx;exact SeqAt.EqAt.str_bool a t' b
  |int b=>obtain⟨t,rfl⟩:=rx;exact YQ a t' b t
  |str b=>obtain⟨t,rfl⟩:=rx;exact SeqAt.EqAt.str_str a t' b t
  |_=>exact absurd (show false=true from fx) VC
 |_=>exact absurd (show false=true from fy) VC
def zW(x:V)(u:_r):Bool:=match u with
 |.none=>Im .cO x
 |.bool b=>Im (.bl b) x
 |.int i _=>Im (.int i) x
 |.str z _=>Im (.str z) x
 |_=>false
theorem ET{x y:V}{u:_r}(r:bT y u)(f:kh y=true):zW x u=Im y x:=by
 cases y with
 |cO=>cases r;rfl
 |bl b=>cases r;rfl
 |int i=>obtain⟨t,rfl⟩:=r;rfl
 |str z=>obtain⟨t,rfl⟩:=r;rfl
 |_=>exact absurd (show false=true from f) VC
theorem mT{x:V}:∀{xs:List V}{us:_n},bN xs us->xs.all kh=true->us.any (zW x)=xs.any fun y=>Im y x
 |_,_,.nil,_=>rfl
 |y::xs,u::us,.cons r t,f=>by rw[XT,V4]at f;rw[WX,WX,ET r f.1,mT t f.2]
theorem ki{A:_u}{s:_s}{x:V}{v:_r}(rx:bT x v)(fx:kh x=true):∀{xs:List V}{us:_n},bN xs us->xs.all kh=true->∀u∈us,SeqAt.EqAt A s u v (zW x u)
 |_,_,.nil,_=>fun u hu=>by cases hu
 |y::xs,u::us,.cons r t,f=>fun u' hu=>by
  rw[XT,V4]at f;rcases VJ.mp hu with rfl|hu
  .rw[ET r f.1];exact M5 r rx f.1 fx
  .exact ki rx fx t f.2 u' hu
def SH(x:V)(xs:List V):Bool:=xs.any fun y=>Im y x
def Ul(K:_l)(neg:Bool):R2:=fun x y H Q=>∃p xs,y=.ref p/\(lY K H p xs\/kQ K H p xs)/\kh x=true/\xs.all kh=true/\Q (.bl (if neg then !SH x xs else SH x xs)) H
theorem CP:ej X (compareOp .In) (Ul X.K false):=by
 intro ai s σ H x y v u Q I rx ry h;obtain⟨p,xs,rfl,hq,fx,fs,q⟩:=h;cases ry;rcases hq with hq|hq
 .obtain⟨aM,r,pl,hz⟩:=I.list hq;refine SeqAt.in_listAt (zW x) pl.isList (fun w hw=>ki rx fx r fs w (by simpa using hw)) ⟨.bl _,H,I,rfl,?_⟩;rw[show aM.toArray.any (zW x)=aM.any (zW x) by simp,mT r fs];exact q
 .obtain⟨aM,r,pl,hz⟩:=I.tuple hq;refine SeqAt.in_tupleAt (zW x) pl (fun w hw=>ki rx fx r fs w (by simpa using hw)) ⟨.bl _,H,I,rfl,?_⟩;rw[show aM.toArray.any (zW x)=aM.any (zW x) by simp,mT r fs];exact q
theorem vQ:ej X (compareOp .NotIn) (Ul X.K true):=by
 intro ai s σ H x y v u Q I rx ry h;obtain⟨p,xs,rfl,hq,fx,fs,q⟩:=h;cases ry;rcases hq with hq|hq
 .obtain⟨aM,r,pl,hz⟩:=I.list hq;refine SeqAt.notIn_listAt (zW x) pl.isList (fun w hw=>ki rx fx r fs w (by simpa using hw)) ⟨.bl _,H,I,rfl,?_⟩;rw[show aM.toArray.any (zW x)=aM.any (zW x) by simp,mT r fs];exact q
 .obtain⟨aM,r,pl,hz⟩:=I.tuple hq;refine SeqAt.notIn_tupleAt (zW x) pl (fun w hw=>ki rx fx r fs w (by simpa using hw)) ⟨.bl _,H,I,rfl,?_⟩;rw[show aM.toArray.any (zW x)=aM.any (zW x) by simp,mT r fs];exact q
theorem vR:ej X (compareOp .NotIn) (fun x y H Q=>∃i j,x=.str i/\y=.str j/\Q (.bl (!(!(Builtin.Str.occurrences j i 0 j.length 1).isEmpty))) H):=by intro ai s σ H x y v u Q I rx ry h;obtain⟨i,j,rfl,rfl,q⟩:=h;obtain⟨t,rfl⟩:=rx;obtain⟨t',rfl⟩:=ry;exact notIn_str ⟨.bl _,H,I,rfl,q⟩
theorem vS:c6 X (.builtin "len") (fun xs H Q=>∃p ys,xs=[.ref p]/\(lY X.K H p ys\/kQ X.K H p ys)/\Q (.int ys.length) H):=by
 intro ai s σ H xs us Q I r h;obtain⟨p,ys,rfl,hq,q⟩:=h;obtain⟨u,rfl,rx⟩:=vals1 r;cases rx;have hn:=nX;rcases hq with hq|hq
 .obtain⟨aM,r',pl,hz⟩:=I.list hq;have hlen:=r'.length;exact Calls.call_len_list pl.isList (by simp only[VM]<;>lia) ⟨.int ys.length,H,I.tok _,⟨s.toks+1,by rw[VM,hlen]⟩,q⟩
 .obtain⟨aM,r',pl,hz⟩:=I.tuple hq;have hlen:=r'.length;exact len_tuple pl (by simp only[VM]<;>lia) ⟨.int ys.length,H,I.tok _,⟨s.toks+1,by rw[VM,hlen]⟩,q⟩
theorem vT:c6 X (.builtin "len") (fun xs H Q=>∃z,xs=[.str z]/\z.length<=sizeLine/\Q (.int z.length) H):=by intro ai s σ H xs us Q I r h;obtain⟨z,rfl,hz,q⟩:=h;obtain⟨u,rfl,t,rfl⟩:=vals1 r;have hn:=nX;exact len_str (by lia) ⟨.int z.length,H,I.tok _,⟨_,rfl⟩,q⟩
theorem c6.or{f:_r}{r r':List V->Hp->VK->Prop}(h:c6 X f r)(h':c6 X f r'):c6 X f (fun xs H Q=>r xs H Q\/r' xs H Q):=by
 intro ai s σ H xs us Q I rs q;rcases q with q|q
 .exact h ai s σ H xs us Q I rs q
 .exact h' ai s σ H xs us Q I rs q
theorem ur:c6 X (.type "tuple") (fun xs H Q=>∃p ys,xs=[.ref p]/\((lY X.K H p ys/\∀l,H l=none->Q (.ref l) (upd H l (.tup ys)))\/(kQ X.K H p ys/\Q (.ref p) H))):=by
 intro ai s σ H xs us Q I r h;obtain⟨p,ys,rfl,h⟩:=h;obtain⟨u,rfl,rx⟩:=vals1 r;cases rx;rcases h with⟨hq,q⟩|⟨hq,q⟩
 .obtain⟨aM,r',pl,hz⟩:=I.list hq;have hlen:=r'.length;refine call_tuple_list pl.isList (fun h' kp=>?_) (by simp only[VM]<;>lia);have I1:aV X ai σ H {s with heap:=h'}:=I.kept (t':=s.toks) kp;have I2:aV X ai σ (upd H h'.objs.size (.tup ys)) {s with heap:=h'.push {cls:=.type "tuple",data:=.seq aM.toArray} }:=
   I1.laid (t':=s.toks) (fun b o e=>Vr _ e) (Vv _) (show dk X.prog X.w _ _ _ (.tup ys) from⟨hz,aM,r',IsTup.new _ _⟩)
  exact⟨.ref h'.objs.size,_,I2,rfl,q _ (I1.cW.fresh (Vv _))⟩
 .obtain⟨aM,r',pl,hz⟩:=I.tuple hq;exact call_tuple_same pl ⟨.ref p,H,I,rfl,q⟩
def Um(K:_l)(T:String)(x:V)(H:Hp):Prop:=match x with
 |.str _=>T = "str"
 |.int _=>T = "int"
 |.ref p=>(T = "list" /\ ∃xs,lY K H p xs)\/(T = "tuple" /\ ∃o,K.lookup p=some o/\o.cls=.type "tuple" /\ o.dict=none) \/
   (T = "dict" /\ ((∃aX,H p=some (.dK aX))\/∃aX,H p=some (.dT aX)))\/(T = "set" /\ ∃S n,H p=some (.set S n))
 |_=>False
theorem M6{T:String}{x:V}{v:_r}(I:aV X ai σ H s)(r:bT x v)(ty:Um X.K T x H):
  s.TypeIs v T/\∀a,v=.ref a->∃ob,s.heap.get? a=some ob/\ob.dict=none:=by
 cases x with
 |str z=>
  obtain⟨t,rfl⟩:=r;cases(show T = "str" from ty);exact⟨YM s z t,fun _ e=>nomatch e⟩
 |int i=>
  obtain⟨t,rfl⟩:=r;cases(show T = "int" from ty);exact⟨typeIs_int s i t,fun _ e=>nomatch e⟩
 |ref p=>
  cases r;rcases ty with⟨rfl,xs,hq⟩|⟨rfl,o,hk,hc,hd⟩|⟨rfl,hk⟩|⟨rfl,S,n,hk⟩
  .obtain⟨aM,_,pl,_⟩:=I.list hq;refine⟨pl.isList.typeIs,fun a e=>?_⟩;cases e;obtain⟨o,n,e,c,hd,_⟩:=pl;exact⟨o,e,hd⟩
  .refine⟨⟨o,I.qp p o hk,hc⟩,fun a e=>?_⟩;cases e;exact⟨o,I.qp _ o hk,hd⟩
  .have z:∃o,s.heap.get? p=some o/\o.ExactDict:=by
    rcases hk with⟨aX,hk⟩|⟨aX,hk⟩
    .obtain⟨_,_,_,_,o,_,_,e,ex,_⟩:=I.cW p _ hk;exact⟨o,e,ex⟩
    .obtain⟨_,_,_,_,o,_,_,e,ex,_⟩:=I.cW p _ hk;exact⟨o,e,ex⟩
   obtain⟨o,e,ex⟩:=z;refine⟨⟨o,e,ex.1⟩,fun a e2=>?_⟩;cases e2;exact⟨o,e,ex.2.1⟩
  .obtain⟨o,_,_,_,e,ex,_⟩:=I.cW p _ hk;refine⟨⟨o,e,ex.1⟩,fun a e2=>?_⟩;cases e2;exact⟨o,e,ex.2.1⟩
 |_=>exact False.elim ty
def tBM(K:_l)(T:String)(r:V->List V->Hp->VK->Prop)(to:TE)(t:TA):TE:=fun σ H Q=>to σ H fun x H1=>Um K T x H1/\t σ H1 fun xs H2=>r x xs H2 Q
variable{to:TE}{t:TA}{T id:String}{r:V->List V->Hp->VK->Prop}
theorem QM(pa:PlainAttrs T)(slot:Slot T name id)(QN:typeOf (.builtin id)=pure (.type "method_descriptor"))(hm:MtR X id r)(ho:PE X o to)(ha:PA X (e::es) t)(xD:attributeBase o name X.env (eval o X.env)=eval o X.env:=by rfl)
  (EU:((backTo b8 (starEach (e::es) X.env)).all (fun x => !x.1)&&(backToKw b8 (keywordEach [] X.env)).all (fun x=>x.1.isSome)
   && decide ((e::es).length+([]:List Keyword).length+(if([]:List Keyword).isEmpty then 0 else 1)<30))=true:=by rfl)
  (xE:(apos.endLine==b8.line)=true:=by rfl) (hs:starEach (e::es) X.env=(false,eval e X.env)::starEach es X.env:=by rfl) (qU:(backTo b8 (starEach es X.env)).any (·.1)=false:=by rfl):
  PE X (.Call (.Attribute o name apos) (e::es) [] b8) (tBM X.K T r to t):=by
 intro ai s σ H Q I h;refine wpAny_Call_method_late xD EU xE rfl (cR (ho ai s σ H _ I h) fun v s1⟨x,H1,I1,r1,ty,q1⟩=>?_);obtain⟨h1,h2⟩:=M6 I1 r1 ty;refine⟨T,id,pa,slot,QN,h1,h2,?_⟩;have hA:=ha b8 ai s1 σ H1 _ I1 q1;rw[hs]at hA⊢;refine Z! (by show(false || (backTo b8 (starEach es X.env)).any (·.1))=false;rw[qU]<;>rfl) (Yz ?_);exact cR hA fun us s2⟨vs,H2,I2,r2,q2⟩=>hm ai s2 σ H2 x vs v us Q I2 r1 r2 q2
end
def M7(X:Cx)(id:String)(r:V->List V->Hp->VK->Prop):Prop:=
 ∀(ai:_k)(s:_s)(σ:St)(H:Hp)(x:V)(xs:List V)(v:_r)(us:_n)(Q:VK),aV X ai σ H s->bT x v->bN xs us->r x xs H Q ->
  wpAny (model X.prog X.w) X.A (call (.builtin id) (v::us)) (EP X ai σ Q) X.xe s
theorem bN.one{x:V}{us:_n}(p:bN [x] us):∃u,us=[u]/\bT x u:=by
 cases p with
 |cons r t=>cases t;exact⟨_,rfl,r⟩
theorem bN.rep{xs:List V}{us:_n}(h:bN xs us):∀k:Nat,bN (List.replicate k xs).flatten (List.replicate k us).flatten
 |0=>.nil
 |k+1=>by rw[VT,VT,Wu,Wu];exact bN.append h (bN.rep h k)
theorem foldl_rep(aM:_n):∀(k:Nat)(acc:_n),
  List.foldl (fun x1 x2=>x1++x2) acc.toArray (List.replicate k aM.toArray)=(acc++(List.replicate k aM).flatten).toArray
 |0,acc=>by simp
 |k+1,acc=>by
  have e:acc.toArray++aM.toArray=(acc++aM).toArray:=by simp
  have e2:(acc++aM)++(List.replicate k aM).flatten=acc++(List.replicate (k+1) aM).flatten:=by rw[VT,Wu,Vy]
  rw[<-e2,<-foldl_rep aM k (acc++aM),<-e,VT,X?]
section
variable{b:_t}{xs ys zs:List V}
theorem aV.Uo{its':_n}{f:Array _r->Array _r}{t':Nat}(I:aV X ai σ H s)(hH:H l=some (.lst xs))(e:s.heap.get? l=some {cls:=.type "list",data:=.seq aM.toArray n})(hf:f aM.toArray=its'.toArray)(hv:bN ys its')(hz:ys.length<=sizeLine):
  aV X ai σ (upd H l (.lst ys)) {s with heap:=s.heap.update l (Obj.mapSeq f),toks:=t'}:=by
 have q:=Z7 e f;rw[hf]at q;refine I.write (x:=l) (e:=l) (by rw[hH];exact trivial) (.inl rfl) (fun b' u hb hu=>(Wx s.heap (Obj.mapSeq f) (Xg hb)).trans hu) ⟨_,q⟩ ?_;exact⟨hz,its',_,hv,q⟩
theorem aV.QO{t':Nat}(I:aV X ai σ H s)(hv:bN ys aM)(hz:ys.length<=sizeLine):
  aV X ai σ (upd H s.heap.objs.size (.lst ys)) {s with heap:=s.heap.push {cls:=.type "list",data:=.seq aM.toArray},toks:=t'}:=
 I.laid (fun _ _ q=>Vr _ q) (Vv _) ⟨hz,aM,0,hv,VR _ rfl⟩
theorem aV.fresh(I:aV X ai σ H s):H s.heap.objs.size=none:=I.cW.fresh (Vv _)
theorem aV.Ja(I:aV X ai σ H s)(hH:H l=some (.lst xs)):xs.length<=sizeLine/\∃(aM:_n)(n:Nat),bN xs aM/\xs.length=aM.length/\s.heap.get? l=some {cls:=.type "list",data:=.seq aM.toArray n}:=by obtain⟨z,aM,n,r,e⟩:=I.cW l _ hH;exact⟨z,aM,n,r,r.length,e⟩
theorem EV(h:n<=sizeLine):Builtin.List.listTooLong n=false:=by unfold Builtin.List.listTooLong;exact VE (by lia)
end
def Jb:V->List V->Hp->VK->Prop:=fun x vs H Q=>∃l xs y,x=.ref l/\vs=[y]/\H l=some (.lst xs)/\xs.length<sizeLine/\Q .cO (upd H l (.lst (xs++[y])))
theorem CQ:M7 X "list.append" Jb:=by intro ai s σ H x vs v us Q I rx rv h;obtain⟨l,xs,y,rfl,rfl,hH,hz,q⟩:=h;cases rx;obtain⟨u,rfl,ru⟩:=rv.one;obtain⟨z,aM,n,r,hl,e⟩:=I.Ja hH;refine Zv F.slot_list_append ⟨_,e,rfl⟩ F.entry_list_append (F.args_list_append_2 _ _) (ZT l aM.toArray n u (by rw[VM];lia)) ⟨e,?_⟩;refine⟨.cO,_,I.Uo (its':=aM++[u]) hH e (by simp) (r.append (.cons ru .nil)) ?_,rfl,q⟩;rw[Vz,WG];lia
def SI:V->List V->Hp->VK->Prop:=fun x vs H Q=>∃l b xs zs,x=.ref l/\vs=[.ref b]/\H l=some (.lst xs)/\H b=some (.lst zs)/\xs.length+zs.length<=sizeLine/\Q .cO (upd H l (.lst (xs++zs)))
def Up:R2:=fun x y H Q=>∃l b xs zs,x=.ref l/\y=.ref b/\H l=some (.lst xs)/\H b=some (.lst zs)/\xs.length+zs.length<=sizeLine/\∀p,H p=none->Q (.ref p) (upd H p (.lst (xs++zs)))
theorem M8:ej X (binaryOp .Add) Up:=by
 intro ai s σ H x y v u Q I rx ry h;obtain⟨l,b,xs,zs,rfl,rfl,hH,hB,hz,q⟩:=h;cases rx;cases ry;obtain⟨z,aM,n,r,hl,e⟩:=I.Ja hH;obtain⟨z2,fS,n2,r2,EW,e2⟩:=I.Ja hB;refine PySem.P.add_list e e2 ?_ (by rw[VM,VM];lia);have ea:aM.toArray++fS.toArray=(aM++fS).toArray:=by simp
 rw[ea];exact⟨.ref _,_,I.QO (t':=s.toks) (r.append r2) (by rw[Vz];lia),rfl,q _ I.fresh⟩
def Uq:R2:=fun x y H Q=>∃l k xs,x=.ref l/\y=.int k/\H l=some (.lst xs)/\-(2 ^ 63)<=k/\k<2 ^ 63/\xs.length*k.toNat<=sizeLine /\
 ∀p,H p=none->Q (.ref p) (upd H p (.lst (List.replicate k.toNat xs).flatten))
theorem len_rep(xs:List α)(k:Nat):(List.replicate k xs).flatten.length=k*xs.length:=by
 induction k with
 |zero=>simp
 |succ k ih=>rw[VT,Wu,Vz,ih,Nat.succ_mul,Nat.add_comm]
theorem M9:ej X (binaryOp .Mult) Uq:=by
 intro ai s σ H x y v u Q I rx ry h;obtain⟨l,k,xs,rfl,rfl,hH,h1,h2,hz,q⟩:=h;cases rx;obtain⟨t,rfl⟩:=ry;obtain⟨z,aM,n,r,hl,e⟩:=I.Ja hH;have hlen:aM.toArray.size*k.toNat<=sizeLine:=by rw[VM,<-hl];exact hz
 have M_:¬ aM.toArray.size*k.toNat>(2 ^ 63-1) / 8:=by
  have:(sizeLine:Nat)<=(2 ^ 63-1) / 8:=by decide
  lia
 have Ur:¬ (!Builtin.List.listFitsIndex k)=true:=by rw[fitsIndex_both h1 h2];exact VC
 have QP:¬ Builtin.List.listTooLong (aM.toArray.size*k.toNat)=true:=by rw[EV hlen];exact VC
 have Us:List.foldl (fun x1 x2=>x1++x2) #[] (List.replicate (if aM.toArray.isEmpty=true then 0 else k.toNat) aM.toArray)=(List.replicate k.toNat aM).flatten.toArray:=by
  have f0:∀m:Nat,List.foldl (fun x1 x2=>x1++x2) #[] (List.replicate m aM.toArray)=(List.replicate m aM).flatten.toArray:=fun m=>by have:=foldl_rep aM m [];rw[VG]at this;exact this
  rw[f0];cases aM with
  |nil=>simp
  |cons a r'=>rw[Vx (by simp)]
 refine wpAny_binaryOp_repeat_ref (T:="list") (U:="int") (by decide) ⟨_,e,rfl⟩ (fun s'=>typeIs_int s' k t) noFill_list_mul F.fills_int_mul F.slot_int_rmul repeat_list F.slot_int_index.lookup
  (Zv F.slot_int_rmul (typeIs_int s k t) F.entry_int_rmul (F.args_int_rmul_2 _ _) (int___rmul___int_list k t l aM.toArray n)
   ⟨e,rfl,⟨_,e,rfl⟩,Zv F.slot_list_mul ⟨_,e,rfl⟩ F.entry_list_mul (F.args_list_mul_2 _ _) (AutoListH.list___mul___list_int_3 l aM.toArray n k t Ur M_ QP) ⟨e,?_⟩⟩)
 rw[Us];exact⟨.ref _,_,I.QO (t':=s.toks) (r.rep k.toNat) (by rw[len_rep,Nat.mul_comm];exact hz),rfl,q _ I.fresh⟩
section
variable{E:_i}
set_option maxRecDepth 100000 in
end
end L2
namespace Att
open PySem.W PySem.Calls PyProof.Rows
theorem pS{P:Params}:∀(ns:_m)(vs:_n),WellAll P h vs (ns.map WData.int)->IntsAre vs ns:=by
 intro ns
 induction ns with
 |nil=>
  intro vs w;rw[VO]at w;cases w;exact .nil
 |cons n ns ih=>
  intro vs w;rw[Vp]at w;cases w with
  |cons a b=>
   cases a;exact .cons _ _ (ih _ b)
theorem CS{l:OpenLaw}(hn:l.most=some n){P:Params}{args:List WData}{vals:_n}(Jc:l.row.toRowW.claim.pre args=true)(Ut:WellAll P h vals args):
  ∃a vs ns,vals=[Value.ref a]/\args=[WData.list (ns.map WData.int)]/\h.get? a=some {cls:=.type "list",data:=.seq vs.toArray}/\IntsAre vs ns/\ns.length<=n:=by
 have hsh:WShape.hasAll [] args [.list .int]=true:=(pre_splitW Jc).1;have hc:l.pre.holds [] {args:=args} = true:=(pre_splitW Jc).2;obtain⟨d,r,rfl,h1,h2⟩:=hasAllW_cons hsh;obtain rfl:=hasAllW_nil h2;obtain⟨xs,rfl,h3⟩:=hasW_list h1;obtain⟨ns,rfl⟩:=items_int h3;have hlen:ns.length<=n:=by
  unfold OpenLaw.pre at hc;have h4:(WTm.not (.lt (.lit (.int (n:Int))) (.len (.arg 0)))).holds [] {args:=[.list (ns.map .int)]} = true:=by have h4:=(holds_andW hc).1;rw[hn]at h4;exact h4
  have h5:=condW_of h4 (w_not (w_lt w_lit (w_len_list (w_arg rfl))));rw[Vt]at h5;refine YD fun q=>?_;have q':(n:Int)<((ns.length:Nat):Int):=by lia
  first
   |(rw[VA q']at h5;exact absurd h5 (by decide))
   |(simp at h5;lia)
 cases Ut with
 |cons w1 w2=>
  cases w2;cases w1 with
  |list ho M!=>exact⟨_,_,ns,rfl,rfl,ho,pS ns _ M!,hlen⟩
theorem CT(l:OpenLaw)(args:List WData):l.row.toRowW.claim.post args (.bool true) args=true:=
 postW_of (r:=l.row.toRowW) (X:=(true==true))
  (show WShape.has [] (.bool true) .bool=true by first|rfl|decide|simp[WShape.has,WShape.arms,WShape.armsAll])
  (show(WTm.eq .res (.lit (.bool true))).value [] {args:=args,res:=some (.bool true),after:=args} = some (.bool (true==true))from w_eq_bool (w_res rfl) w_lit) rfl
theorem xF{l:OpenLaw}{q:_v}{XP:(_j)->Heap->Prop}{d:DefRec}(hn:l.most=some n)(QQ:d.params.defaults=[])
  (call:∀ (w:World) (s₀ s₁:_s) (mg mb:_j) (fa:_t) (o:Obj) (pm cd doc:_r) (a:_t) (vs:_n) (ns:_m),
   Ground q loose [] XP w s₀ mg mb s₁.heap->YP w s₁.heap ->
   s₁.heap.get? fa=some o->o.data=.func (docDef d.name d.params d.body d.scope pm cd doc)->s₁.heap.CodeRec cd d.name->mg d.name=some (.ref fa) ->
   s₁.heap.get? a=some {cls:=.type "list",data:=.seq vs.toArray}->IntsAre vs ns->ns.length<=n->s₁.gens = #[] ->
   codeAny (model l.prog w) callerA (.call (.ref fa) ⟨[.ref a],[]⟩) (fun r s'=>r=.ok (.ret (.bool true))/\OldK s₁.heap s'.heap/\s'.os=s₁.os/\AllBare s'.gens) s₁):
  WalkO q loose XP YP l.row.toRowW d [] (fun f vs=>PySem.call f vs):=by
 intro w s₀ s₁ mg mb G Y fa o pm cd doc dV kV ho hd zN hD QR hg args vals as Jc aan hrd Ut hlo;obtain rfl:dV=.none:=Dflts.none hD QQ;obtain rfl:kV=.none:=Dflts.noKw hD;obtain⟨a,vs,ns,rfl,rfl,M?,hints,hlen⟩:=CS hn Jc Ut;refine enter_call (XY (call w s₀ s₁ mg mb fa o pm cd doc a vs ns G Y ho (fd_plain hd) zN QR M? hints hlen hg) fun r s' hq=>?_);obtain⟨rfl,h2,h3,h4⟩:=hq;exact⟨.inl ⟨.bool true,.bool true,[],rfl,fun _=>rfl,.bool true,CT l _,fun _=>⟨List.Pairwise.nil,fun _ hm=>(nomatch hm)⟩⟩,h2,h3,h4⟩
section
variable{E:_i}{K:Frag}
end
end Att
namespace L2
open PySem.Spec PyProof.Rows
theorem uY:∀{vs:_n}{ns:_m},IntsAre vs ns->bN (ns.map V.int) vs
 |_,_,.nil=>.nil
 |_,_,.cons n t h=>.cons ⟨t,rfl⟩ (uY h)
def Jd(H:Hp):Prop:=∀b,H b=none\/∃o xs,H b=some (.lV o (.lst xs))
theorem EY{K:_l}{mg mb:_j}{k:Nat}{fd:FuncData}{x:Str}{s₁:_s}(KX:K.In s₁.heap)(hns:s₁.heap.Ns mainGlobals mg)(hb:s₁.heap.Ns builtinsNs mb)(uu:∀x:Str,x ≠ "__name__" -> mb x=bootBuiltins x)(Uu:s₁.heap.NoLimit)(hg:s₁.gens = #[])(ha:s₁.heap.get? a=some {cls:=.type "list",data:=.seq vs.toArray})(hi:IntsAre vs ns)(hl:ns.length<=sizeLine)(hr:gL k callerA)(F:∀base:Heap,K.In base->base.Ns mainGlobals mg->kg P w K mg base CX k fa fd [x] sp)(QS:∀(s:_s)(u:_r),BindsTo s fd ⟨[u],[]⟩ [(x,u)])(Lz:∀H:Hp,Jd H->lY K H a (ns.map V.int)->sp [.ref a] H (fun v _=>v=.bl true) fun _ _ _=>False)(Uv:∀H e s',CX [] H s₁ (fun _ _ _=>False) e s'->False):
  codeAny (model P w) callerA (.call (.ref fa) ⟨[.ref a],[]⟩) (fun r s'=>r=.ok (.ret (.bool true))/\OldK s₁.heap s'.heap/\s'.os=s₁.os/\AllBare s'.gens) s₁:=by
 have rv:=uY hi;have Uw:=hi.length
 -- from an abstract heap in aaj nothing but Ec Na may be tracked
 have core:∀H:Hp,Jd H->lY K H a (ns.map V.int)->jG P w H s₁.heap->(∀b,H b≠none->b=a)->(H a≠none->K.lookup a=none) ->
   codeAny (model P w) callerA (.call (.ref fa) ⟨[.ref a],[]⟩) (fun r s'=>r=.ok (.ret (.bool true))/\OldK s₁.heap s'.heap/\s'.os=s₁.os/\AllBare s'.gens) s₁:=by
  intro H hO hS cW hA hK;have Bp:∀{b:_t}{o:Obj},s₁.heap.get? b=some o->H b=none->(vH s₁.heap H).get? b=some o:=fun e n=>Eo e n;have QF:∀{b:_t}{o:Obj}{es:Array DictEntry}{ep:Nat},s₁.heap.get? b=some o->o.data=.dict es ep->H b=none:=fun{b o es ep}e d=>by
   cases q:H b with
   |none=>rfl
   |some u=>
    have e':b=a:=hA b (by rw[q];simp);subst e';rw[ha]at e;cases e;have d':Data.seq vs.toArray _=Data.dict es ep:=d;cases d'
  have SJ:∀{b:_t}{m:_j},s₁.heap.Ns b m->(vH s₁.heap H).Ns b m:=fun{b m}⟨o,es,ep,e,d,r⟩=>⟨o,es,ep,Bp e (QF e d),d,r⟩
  have hKb:K.In (vH s₁.heap H):=fun b o e=>Bp (KX b o e) (by
   cases q:H b with
   |none=>rfl
   |some u=>
    have e':b=a:=hA b (by rw[q];simp);subst e';rw[hK (by rw[q];simp)]at e;cases e)
  have hM:Mod K mg (vH s₁.heap H):=⟨hKb,SJ hns,⟨mb,SJ hb,uu⟩,let⟨mc,h1,h2⟩:=Uu;⟨mc,SJ h1,h2⟩⟩
  have e0:IS P w K mg (vH s₁.heap H) callerA [] s₁ H:=⟨rfl,hM,fun b o e=>Iz e,Zn (CF _ _),trivial,fun b hb=>absurd (show b∈([]:_p)from hb) (by simp),cW,.of_eq hg⟩
  refine XY ((F _ hKb (SJ hns)).run callerA [] s₁ H ⟨[.ref a],[]⟩ [.ref a] [.ref a] _ _ hr e0 (QS s₁ (.ref a)) (.cons rfl .nil) (Lz H hO hS)) fun r s' h=>?_;cases r with
  |error e=>exact(Uv H e s' h).elim
  |ok fl=>
   cases fl with
   |next=>exact False.elim h
   |brk=>exact False.elim h
   |cont=>exact False.elim h
   |ret u=>
    obtain⟨v,H',os,bare,un,Ux,r',q⟩:=h;have q':v=.bl true:=q;subst q';obtain rfl:u=Value.bool true:=r';refine⟨rfl,OldK.of_keep fun b o e=>?_,os,bare⟩;cases q:H b with
    |none=>exact un.keep b o e q (by intro z;exact absurd (show b∈([]:_p)from z) (by simp)) (by simp)
    |some u=>
     rcases hO b with z|⟨ob,xs,z⟩
     .rw[q]at z;cases z
     .have z2:=un.ju b ob _ z;obtain⟨e1,_⟩:=cW b _ z;obtain⟨e2,_⟩:=Ux b _ z2;rw[e]at e1;cases e1;exact e2
 cases hk:K.lookup a with
 |some o=>
  -- Ec Na is one of Ec QT own objects
  have e:=KX a o hk;rw[ha]at e;cases e;refine core (fun _=>none) (fun _=>.inl rfl) (.inr ⟨_,vs.toArray,_,hk,rfl,rfl,rfl,by rw[VM,Uw];exact hl,by simpa using rv⟩) (fun b u z=>by have z':(none:Option HO)=some u:=z;cases z') (fun b z=>absurd rfl z) fun z=>absurd rfl z
 |none=>
  refine core (fun b=>if b=a then some (.lV {cls:=.type "list",data:=.seq vs.toArray} (.lst (ns.map V.int)))else none) (fun b=>?_) (.inl (.inr ⟨{cls:=.type "list",data:=.seq vs.toArray},Vs rfl⟩)) (fun b u z=>?_) (fun b z=>?_) fun _=>hk
  .by_cases hb:b=a
   .exact .inr ⟨_,_,Vs hb⟩
   .exact .inl (Vx hb)
  .by_cases hb:b=a
   .have z':=(Vs hb).symm.trans z;cases z';subst hb;exact⟨ha,by rw[Vt];exact hl,vs,_,rv,ha⟩
   .have z':=(Vx hb).symm.trans z;cases z'
  .by_cases hb:b=a
   .exact hb
   .exact absurd (Vx hb) z
theorem Je{l:W.OpenLaw}{k:Nat}{q:_v}{XP:(_j)->Heap->Prop}{d:DefRec}{K:Params->_l}{CX:World->Bk}{sp:World->Sp}{x:Str}(hn:l.most=some n)(hn2:n<=sizeLine)(QQ:d.params.defaults=[])(hr:gL k callerA)(hY:∀(w:World)(h:Heap),YP w h->(K w.params).In h)
  (F:∀ (w:World) (mg:_j) (fa:_t) (h:Heap),(K w.params).In h->h.Ns mainGlobals mg->mg d.name=some (.ref fa) ->
   ∃fd:FuncData,(∀(s:_s)(u:_r),BindsTo s fd ⟨[u],[]⟩ [(x,u)]) /\
    ∀base:Heap,(K w.params).In base->base.Ns mainGlobals mg->kg l.prog w (K w.params) mg base (CX w) k fa fd [x] (sp w))
  (Lz:∀(w:World)(H:Hp)(a:_t)(ns:_m),ns.length<=n->Jd H->lY (K w.params) H a (ns.map V.int)->sp w [.ref a] H (fun v _=>v=.bl true) fun _ _ _=>False)
  (Uv:∀(w:World)(H:Hp)(s:_s)(e:_r)(s':_s),CX w [] H s (fun _ _ _=>False) e s'->False):
  W.WalkO q loose XP YP l.row.toRowW d [] (fun f vs=>PySem.call f vs):=by
 refine Att.xF hn QQ fun w s₀ s₁ mg mb fa o pm cd doc a vs ns G Y ho hd zN QR M? hints hlen hg=>?_;have KX:=hY w _ Y;obtain⟨fd,hb,hF⟩:=F w mg fa _ KX G.T.g QR;exact EY KX G.T.g G.T.b G.T.builtins G.T.nolimit hg M? hints (VX hlen hn2) hr hF hb (fun H hO hS=>Lz w H a ns hlen hO hS) fun H e s'=>Uv w H s₁ e s'
def h_(s:Stmt):Arguments:=match s with
 |.FunctionDef _ a _ _ _ _ _ _ _ _=>a
 |_ => {posonlyargs:=[],args:=[],vararg:=none,kwonlyargs:=[],kw_defaults:=[],kwarg:=none,defaults:=[]}
def fM(s:Stmt):List Stmt:=match s with
 |.FunctionDef _ _ b _ _ _ _ _ _ _=>b
 |_=>[]
def bW(s:Stmt):Scope:=match s with
 |.FunctionDef _ _ _ _ _ _ sc _ _ _=>sc
 |_ => {kind:=.function,names:=[],isGenerator:=false,isCoroutine:=false}
abbrev E0:XK:=fun _ _ _=>False
structure Jf(K:_l)(x qual:Str)(st:Stmt)(f:_t)(fd:FuncData):Prop where
 ex:∃(oc:_r)(od:Option _t)(kV doc pm:_r)(an:Option _t)(iw ct:_r)(Il:Array (_o)),
  fd=W.fnOf x qual (h_ st) (fM st) (bW st) .none kV doc pm an iw ct/\K.lookup f=some ⟨oc,od,.func fd,Il⟩/\W.codeIn K iw qual=true
 kp:W.keepIn K (.ref f)=true
section
variable{K:_l}{mg:_j}{base:Heap}
theorem Jf.binds{x qual:Str}{st:Stmt}{fd:FuncData}{ps:_q}(F:Jf K x qual st f fd)(h:∀(kV doc pm:_r)(an:Option _t)(iw ct:_r)(us:_n),us.length=ps.length->bindArgs (W.fnOf x qual (h_ st) (fM st) (bW st) .none kV doc pm an iw ct) ⟨us,[]⟩=pure (ps.zip us)):Binds K fd ps []:=by obtain⟨oc,od,kV,doc,pm,an,iw,ct,Il,rfl,lk,zN⟩:=F.ex;exact .all (h kV doc pm an iw ct)
theorem EZ{x qual:Str}{st:Stmt}{kV ct:_r}(l:K.lookup f=some ⟨oc,od,.func (W.fnOf x qual (h_ st) (fM st) (bW st) .none kV doc pm an iw ct),Il⟩)(c:W.codeIn K iw qual=true)(k:W.keepIn K (.ref f)=true):Jf K x qual st f (W.fnOf x qual (h_ st) (fM st) (bW st) .none kV doc pm an iw ct):=⟨⟨oc,od,kV,doc,pm,an,iw,ct,Il,rfl,l,c⟩,k⟩
end
def nZ(H H':Hp):Prop:=∀b o,H b=some o->H' b=some o
theorem nZ.refl(H:Hp):nZ H H:=fun _ _ h=>h
section
variable[DecidableEq κ]
def jJ(aX:List (κ×V))(k:κ):Option V:=(aX.find? fun kv=>decide (kv.1=k)).map (·.2)
def putK(aX:List (κ×V))(k:κ)(v:V):List (κ×V):=
 if(aX.any fun kv=>decide (kv.1=k))=true then aX.map (fun kv=>if kv.1=k then(kv.1,v)else kv)else aX++[(k,v)]
theorem qV{p:κ×V}{r:List (κ×V)}{k:κ}(e:p.1=k):jJ (p::r) k=some p.2:=by simp[jJ,W3,e]
theorem qX{p:κ×V}{r:List (κ×V)}{k:κ}(e:¬ p.1=k):jJ (p::r) k=jJ r k:=by simp[jJ,W3,e]
theorem xG(k:κ):∀aX:List (κ×V),(aX.any fun kv=>decide (kv.1=k))=(jJ aX k).isSome
 |[]=>rfl
 |p::r=>by
  rw[WX];by_cases e:p.1=k
  .simp only[qV e,VA e,Zs,Option.isSome_some]
  .rw[qX e,VE e,X2];exact xG k r
theorem pG(aX:List (κ×V))(k:κ)(v:V):(putK aX k v).length<=aX.length+1:=by
 unfold putK;split
 .rw[Vt];lia
 .rw[Vz,Vo,VI];lia
theorem nT.CU{o:Option V}{u:_o}(r:nT o u):o.isSome=u.isSome:=by
 cases o with
 |none=>cases u with
  |none=>rfl
  |some _=>exact(show False from r).elim
 |some _=>cases u with
  |none=>exact(show False from r).elim
  |some _=>rfl
theorem nT.getD{o:Option V}{u:_o}{d:V}{d':_r}(r:nT o u)(rd:bT d d'):bT (o.getD d) (u.getD d'):=by
 cases o with
 |none=>cases u with
  |none=>exact rd
  |some _=>exact(show False from r).elim
 |some _=>cases u with
  |none=>exact(show False from r).elim
  |some _=>exact r
theorem KV.val{aX:List (κ×V)}{vs:List (κ×_r)}(r:KV aX vs)(k:κ):nT (jJ aX k) (valueAt vs k):=by
 unfold KV at r
 induction r with
 |nil=>exact True.intro
 | @cons p q ps qs h t ih=>
  obtain⟨h1,h2⟩:=h;by_cases e:p.1=k
  .have e':q.1=k:=h1.symm.trans e;have b:valueAt (q::qs) k=some q.2:=by simp[valueAt,W3,e']
   rw[qV e,b];exact h2
  .have e':¬ q.1=k:=fun z=>e (h1.trans z);have b:valueAt (q::qs) k=valueAt qs k:=by simp[valueAt,W3,e']
   rw[qX e,b];exact ih
theorem KV.any{aX:List (κ×V)}{vs:List (κ×_r)}(r:KV aX vs)(k:κ):(aX.any fun kv=>decide (kv.1=k))=vs.any fun kv=>decide (kv.1=k):=by
 unfold KV at r
 induction r with
 |nil=>rfl
 |cons h t ih=>rw[WX,WX,ih,h.1]
theorem KV.zX{aX:List (κ×V)}{vs:List (κ×_r)}(r:KV aX vs)(k:κ){y:V}{u:_r}(ry:bT y u):
  KV (aX.map fun kv=>if kv.1=k then(kv.1,y)else kv) (vs.map fun kv=>if kv.1=k then(kv.1,u)else kv):=by
 unfold KV at r⊢
 induction r with
 |nil=>exact .nil
 | @cons p q ps qs h t ih=>
  rw[Vp,Vp];refine .cons ?_ ih;obtain⟨h1,h2⟩:=h;by_cases e:p.1=k
  .rw[Vs e,Vs (h1.symm.trans e)];exact⟨h1,ry⟩
  .rw[Vx e,Vx (fun z=>e (h1.trans z))];exact⟨h1,h2⟩
theorem KV.put{aX:List (κ×V)}{vs:List (κ×_r)}(r:KV aX vs)(k:κ){y:V}{u:_r}(ry:bT y u):KV (putK aX k y) (stored vs k u):=by
 unfold putK stored;rw[r.any k];by_cases e:(vs.any fun kv=>decide (kv.1=k))=true
 .rw[Vs e,Vs e];exact r.zX k ry
 .rw[Vx e,Vx e];exact Paired.snoc r ⟨rfl,ry⟩
theorem KV.length{aX:List (κ×V)}{vs:List (κ×_r)}(r:KV aX vs):aX.length=vs.length:=ZO r
end
theorem Bq{k:eU}{u:_r}(r:bT (kV k) u):(eV P w).is k u=true:=by
 cases k with
 |inl i=>obtain⟨t,e⟩:=(show ∃t,u=Value.int i t from r);subst e;exact xt P w i t
 |inr x=>obtain⟨t,e⟩:=(show ∃t,u=Value.str x t from r);subst e;exact xu P w x t
theorem uZ{P:_v}{w:World}:∀{ks:List eU}{us:_n},bN (ks.map kV) us->ItemsAre (eV P w) ks us
 |[],_,r=>by rw[VO]at r;cases r;exact .nil
 |k::ks,_,r=>by
  rw[Vp]at r;cases r with
  |cons h t=>exact .cons (Bq h) (uZ t)
abbrev KT(H:Hp):List (List eU×V)->List (List eU×_t×_r)->Prop:=Paired fun p q=>p.1=q.1/\H q.2.1=some (.tup (p.1.map kV))/\bT p.2 q.2.2
theorem KT.val{aX:List (List eU×V)}{xs:List (List eU×_t×_r)}(r:KT H aX xs)(k:List eU):nT (jJ aX k) ((atKey xs k).map (·.2)):=by
 induction r with
 |nil=>exact True.intro
 | @cons p q ps qs h t ih=>
  obtain⟨h1,_,h2⟩:=h;by_cases e:p.1=k
  .have e':q.1=k:=h1.symm.trans e;have b:atKey (q::qs) k=some q.2:=by simp[atKey,W3,e']
   rw[qV e,b];exact h2
  .have e':¬ q.1=k:=fun z=>e (h1.trans z);have b:atKey (q::qs) k=atKey qs k:=by simp[atKey,W3,e']
   rw[qX e,b];exact ih
theorem KT.zX{aX:List (List eU×V)}{xs:List (List eU×_t×_r)}(r:KT H aX xs)(k:List eU){y:V}{u:_r}(ry:bT y u):
  KT H (aX.map fun kv=>if kv.1=k then(kv.1,y)else kv) (xs.map (putAt k u)):=by
 induction r with
 |nil=>exact .nil
 | @cons p q ps qs h t ih=>
  rw[Vp,Vp];refine .cons ?_ ih;obtain⟨h1,h2,h3⟩:=h;unfold putAt;by_cases e:p.1=k
  .rw[Vs e,Vs (h1.symm.trans e)];exact⟨h1,h2,ry⟩
  .rw[Vx e,Vx (fun z=>e (h1.trans z))];exact⟨h1,h2,h3⟩
theorem KT.put{aX:List (List eU×V)}{xs:List (List eU×_t×_r)}(r:KT H aX xs)(k:List eU){b:_t}{y:V}{u:_r}(hb:H b=some (.tup (k.map kV)))(ry:bT y u):
  KT H (putK aX k y) (storedH xs k b u):=by
 have e:(aX.any fun kv=>decide (kv.1=k))=(atKey xs k).isSome:=by rw[xG,(r.val k).CU,Option.isSome_map]
 unfold putK storedH;rw[e];by_cases q:(atKey xs k).isSome=true
 .rw[Vs q,Vs q];exact r.zX k ry
 .rw[Vx q,Vx q];exact Paired.snoc r ⟨rfl,hb,ry⟩
theorem KT.keeps{aX:List (List eU×V)}{xs:List (List eU×_t×_r)}(r:KT H aX xs)(ht:∀b ys,H b=some (.tup ys)->H' b=some (.tup ys)):KT H' aX xs:=
 Paired.Mf r fun _ _ z=>⟨z.1,ht _ _ z.2.1,z.2.2⟩
theorem LB{u:HO}(ok:jG P w H h)(e:Rd H a u):dk P w H h a u:=e.ok ok
theorem xH{aX:List (eU×V)}(ok:jG P w H h)(e:Rd H a (.dK aX)):aX.length<=sizeLine/\(a==sysModules)=false/\∃vs,KV aX vs/\h.DictOf (eV P w) a vs:=
 show dk P w H h a (.dK aX)from LB ok e
theorem QU{aX:List (eU×V)}(ok:jG P w H h)(e:H a=some (.dK aX)):aX.length<=sizeLine/\(a==sysModules)=false/\∃vs,KV aX vs/\h.DictOf (eV P w) a vs:=xH ok (.inl e)
theorem vU{ks:List eU}(ok:jG P w H h)(e:H a=some (.tup (ks.map kV))):(tupleKind (eV P w)).is h ks a:=by
 obtain⟨_,aM,r,o,h1,h2,n,h3⟩:=(show dk P w H h a (.tup (ks.map kV))from ok a _ e)
 exact⟨o,aM.toArray,n,h1,h2,h3,by simpa using uZ r⟩
theorem xI{aX:List (List eU×V)}(ok:jG P w H h)(e:Rd H a (.dT aX)):aX.length<=sizeLine/\(a==sysModules)=false /\
  ∃xs,KT H aX xs/\h.DictOfH (tupleKind (eV P w)) a xs:=by
 obtain⟨z,y,xs,r,o,es,ep,h1,h2,h3,h4,h5⟩:=(show dk P w H h a (.dT aX)from LB ok e)
 refine⟨z,y,xs,r,o,es,ep,h1,h2,h3,h4,fun x hx=>?_,h5⟩;have all:∀{l:List (List eU×V)}{m:List (List eU×_t×_r)},KT H l m->∀x∈m,(tupleKind (eV P w)).is h x.1 x.2.1:=by
  intro l m q
  induction q with
  |nil=>intro x hx;exact nomatch hx
  | @cons p q ps qs hq t ih=>
   intro x hx;rcases VJ.mp hx with e|hx
   .subst e;exact vU ok (by rw[<-hq.1];exact hq.2.1)
   .exact ih x hx
 exact all r x hx
theorem QV{aX:List (List eU×V)}(ok:jG P w H h)(e:H a=some (.dT aX)):aX.length<=sizeLine/\(a==sysModules)=false /\
  ∃xs,KT H aX xs/\h.DictOfH (tupleKind (eV P w)) a xs:=xI ok (.inl e)
def pT(H:Hp)(a:_t)(y:V)(r:Option V):Prop:=
 (∃aX k,Rd H a (.dK aX)/\y=kV k/\r=jJ aX k)\/∃aX k b,Rd H a (.dT aX)/\y=.ref b/\H b=some (.tup (k.map kV))/\r=jJ aX k
def vV(H:Hp)(a:_t)(y v:V)(H':Hp):Prop:=
 (∃aX k,H a=some (.dK aX)/\y=kV k/\aX.length<sizeLine/\H'=upd H a (.dK (putK aX k v))) \/
 ∃aX k b,H a=some (.dT aX)/\y=.ref b/\H b=some (.tup (k.map kV))/\aX.length<sizeLine/\H'=upd H a (.dT (putK aX k v))
theorem pT.k{H:Hp}{a:_t}{aX:List (eU×V)}{k:eU}(e:H a=some (.dK aX)):pT H a (kV k) (jJ aX k):=.inl ⟨aX,k,.inl e,rfl,rfl⟩
theorem pT.t{b:_t}{aX:List (List eU×V)}{k:List eU}(e:H a=some (.dT aX))(eb:H b=some (.tup (k.map kV))):pT H a (.ref b) (jJ aX k):=.inr ⟨aX,k,b,.inl e,rfl,eb,rfl⟩
theorem vV.k{H:Hp}{a:_t}{aX:List (eU×V)}{k:eU}{v:V}(e:H a=some (.dK aX))(hl:aX.length<sizeLine):vV H a (kV k) v (upd H a (.dK (putK aX k v))):=.inl ⟨aX,k,e,rfl,hl,rfl⟩
theorem vV.t{b:_t}{aX:List (List eU×V)}{k:List eU}{v:V}(e:H a=some (.dT aX))(eb:H b=some (.tup (k.map kV)))(hl:aX.length<sizeLine):
  vV H a (.ref b) v (upd H a (.dT (putK aX k v))):=.inr ⟨aX,k,b,e,rfl,eb,hl,rfl⟩
section
variable{y v:V}{u r:_r}{o:Option V}{E:_i}
theorem aV.big(I:aV X ai σ H s):sysModules<s.heap.objs.size:=by have h:mainGlobals<s.heap.objs.size:=(I.mod.glob.keeps I.bk).lt;exact Nat.lt_trans (by decide) h
theorem CV(hu:A.units+1<cLine)(I:aV X ai σ H s)(g:pT H a y (some v))(ry:bT y u)(h:∀w' s',aV X ai σ H s'->bT v w'->Q w' s'):
  wpAny (model X.prog X.w) A (getItem (.ref a) u) Q E s:=by
 rcases g with⟨aX,k,e,ey,l⟩|⟨aX,k,b,e,ey,eb,l⟩
 .subst ey;obtain⟨z,hd,vs,rel,dd⟩:=xH I.cW e;obtain⟨w',hw,qT⟩:=nT.some_of (v:=v) (o:=valueAt vs k) (by rw[l];exact rel.val k);exact wpAny_getItem_of (Bq ry) dd.mapOf hw (h w' _ (I.tok _) qT)
 .subst ey;cases(show u=Value.ref b from ry);obtain⟨z,hd,xs,rel,dd⟩:=xI I.cW e;obtain⟨w',hw,qT⟩:=nT.some_of (v:=v) (o:=(atKey xs k).map (·.2)) (by rw[l];exact rel.val k);obtain⟨p,hp,hp2⟩:=Option.map_eq_some_iff.mp hw;refine wpAny_getItem_heap (YN hu) (vU I.cW eb) dd hp ?_;rw[hp2];exact h w' _ (I.tok _) qT
theorem Br{t':Nat}{ob:HO}(I:aV X ai σ H s)(mu:P' (H a))(hs:Heap.SameBut a s.heap h')(he:∃q,h'.get? a=some q)(new:dk X.prog X.w (upd H a ob) h' a ob):
  aV X ai σ (upd H a ob) {s with heap:=h',toks:=t'}:=
 I.write (x:=a) (e:=a) mu (.inl rfl) (fun b q hb z=>(hs.2 b hb).trans z) he new
theorem Nc{aX:List (eU×V)}{vs:List (eU×_r)}(z:aX.length<=sizeLine)(hd:(a==sysModules)=false)(rel:KV aX vs)(dd:h'.DictOf (eV P w) a vs):
  dk P w H' h' a (.dK aX):=⟨z,hd,vs,rel,dd⟩
theorem CW{Q:Unit->_s->Prop}(hu:A.units+1<cLine)(I:aV X ai σ H s)(g:vV H a y v H')(ry:bT y u)(rv:bT v r)(h:∀s',aV X ai σ H' s'->Q () s'):
  wpAny (model X.prog X.w) A (setItem (.ref a) u r) Q E s:=by
 rcases g with⟨aX,k,e,ey,l,eH⟩|⟨aX,k,b,e,ey,eb,l,eH⟩
 .subst ey eH;obtain⟨z,hd,vs,rel,dd⟩:=QU I.cW e;have hz:vs.length<=sizeLine:=by rw[<-rel.length];exact z
  have hl:(putK aX k v).length<=sizeLine:=by have:=pG aX k v;lia
  refine wpAny_setItem_pairs (hsz:=hz) (Bq ry) dd fun h' SK hs=>h _ ?_;have he:∃q,h'.get? a=some q:=let⟨q,_,_,hq,_⟩:=SK;⟨q,hq⟩
  exact Br I (by rw[e];exact True.intro) hs he (Nc hl hd (rel.put k rv) SK)
 .subst ey eH;cases(show u=Value.ref b from ry);obtain⟨z,hd,xs,rel,dd⟩:=QV I.cW e;have hz:xs.length<=sizeLine:=by rw[<-ZO rel];exact z
  have hl:(putK aX k v).length<=sizeLine:=by have:=pG aX k v;lia
  refine wpAny_setItem_heap (hsz:=hz) (YN hu) (vU I.cW eb) dd fun h' SK hs=>h _ ?_;obtain⟨q,es,ep,hq,h2,h3,h4,_,h5⟩:=SK;refine Br I (by rw[e];exact True.intro) hs ⟨q,hq⟩ ⟨hl,hd,_,(rel.put k eb rv).keeps fun c ys ec=>?_,q,es,ep,hq,h2,h3,h4,h5⟩;rw[bK (P? ec e (fun z=>nomatch z))];exact ec
end
section
variable{aX:List (eU×V)}{k:eU}{u:_r}{E:_i}
end
def Nd(i:Expr):Prop:=∀ov iv,subscripted i false ov iv=operate [ov,iv] (getItem ov iv)
theorem Jg{E:_i}{env:Env}{slice:Expr}{T id:String}(hl:typeLookup (.type T) "__getitem__" = pure (some (.builtin id)))(hs:Nd slice)(h:wpAny (model prog w) A (eval value env) (fun o s₁=>wpAny (model prog w) A (eval slice env) (fun i s₂=>s₂.TypeIs o T/\wpAny (model prog w) A (getItem o i) Q E s₂) E s₁) E s):
  wpAny (model prog w) A (eval (.Subscript value slice pos) env) Q E s:=by
 refine Zt (Wg h (fun o s₁ h₁=>Wg h₁ (fun i s₂ h₂=>?_) fun _ _ x=>x) fun _ _ x=>x);obtain⟨hT,h₂⟩:=h₂;unfold subscriptTail;refine Vn ?_;rw[getitemInPython_of_ne hT.not_modules];refine Vn (wpAny_specialOf hT hl ?_);have fin:wpAny (model prog w) A (subscripted slice false o i) (fun r s₃=>wpAny (model prog w) A (letTemporaryGo value o r >>= fun _=>pure r) Q E s₃) E s₂:=by rw[hs o i];exact wpAny_operating (Wg h₂ (fun r s₃ h₃=>Vn (wpAny_letTemporaryGo (VB h₃))) fun _ _ x=>x)
 first
  |exact VB (Vn fin)
  |exact Vn (VB (Vn fin))
  |exact Vn fin
theorem xJ{y:V}{o:Option V}(I:aV X ai σ H s)(g:pT H a y o):s.TypeIs (.ref a) "dict":=by
 rcases g with⟨aX,k,e,_,_⟩|⟨aX,k,b,e,_,_,_⟩
 .obtain⟨_,_,vs,_,dd⟩:=xH I.cW e;exact dd.typeIs
 .obtain⟨_,_,xs,_,dd⟩:=xI I.cW e;exact dd.typeIs
def QW(td ty:TE):TE:=fun σ H Q=>td σ H fun x H1=>ty σ H1 fun y H2=>∃a v,x=.ref a/\pT H2 a y (some v)/\Q v H2
def QX(td ty tv:TE):TS:=fun D σ H=>tv σ H fun v H1=>td σ H1 fun x H2=>ty σ H2 fun y H3=>∃a H4,x=.ref a/\vV H3 a y v H4/\D.nx σ H4
section
variable{i:Expr}{ty tv:TE}
theorem Jh(hu:X.A.units+1<cLine)(ho:PE X o td)(hi:PE X i ty)(hs:Nd i):PE X (.Subscript o i pos) (QW td ty):=by intro ai s σ H Q I h;refine Jg PySem.F.slot_dict_getitem.lookup hs (cR (ho ai s σ H _ I h) fun u s1⟨x,H1,I1,rx,q1⟩=>cR (hi ai s1 σ H1 _ I1 q1) fun iv s2⟨y,H2,I2,ry,a,v,ex,g,q2⟩=>?_);subst ex;obtain rfl:u=Value.ref a:=rx;exact⟨xJ I2 g,CV hu I2 g ry fun w' s3 I3 qT=>⟨v,H2,I3,qT,q2⟩⟩
theorem Ji(hu:X.A.units+1<cLine)(ho:PE X o td)(hi:PE X i ty)(hv:PE X value tv)(hs:swapsWith value (some (.Subscript o i pos')) pos.line X.env=pure false):
  PS X (.Assign [.Subscript o i pos'] value pos) (QX td ty tv):=by
 intro ai s σ H D I h;refine wpAny_Assign_Subscript (cR (hv ai s σ H _ I h) fun r s1⟨v,H1,I1,rv,q1⟩=>cR (ho ai s1 σ H1 _ I1 q1) fun u s2⟨x,H2,I2,rx,q2⟩=>cR (hi ai s2 σ H2 _ I2 q2) fun iv s3⟨y,H3,I3,ry,a,H4,ex,g,q3⟩=>?_) hs;subst ex;obtain rfl:u=Value.ref a:=rx;exact CW hu I3 g ry rv fun s4 I4=>⟨σ,H4,I4,q3⟩
end
theorem E1(h:Heap)(hb:sysModules<h.objs.size):dk P w H (h.push {cls:=.type "dict",data:=.dict #[]}) h.objs.size (.dT []):=
 ⟨VU _,Xb.mpr (Xg (V7 hb)),[],.nil,_,#[],0,VR _ rfl,⟨rfl,rfl,rfl⟩,rfl,rfl,List.nodup_nil⟩
def Nf:TE:=fun _ H Q=>∀p,H p=none->Q (.ref p) (upd H p (.dT []))
theorem E2:PE X (.Dict [] [] pos) Nf:=fun ai s σ H Q I h=>
 wpAny_Dict_empty ⟨.ref s.heap.objs.size,_,I.laid (a:=s.heap.objs.size) (o:=.dT []) (t':=s.toks) (fun _ _ q=>Vr _ q) (Vv _) (E1 s.heap I.big),rfl,h _ (I.cW.fresh (Vv _))⟩
structure M2(X:Cx)(o:Expr)(m:Str)(apos:Pos)(e f:Expr)(b8:Pos):Prop where
 base:attributeBase o m X.env (eval o X.env)=eval o X.env
 few:((backTo b8 (starEach [e,f] X.env)).all (fun x => !x.1)&&(backToKw b8 (keywordEach [] X.env)).all (fun x=>x.1.isSome)
  && decide (([e,f]:List Expr).length+([]:List Keyword).length+(if([]:List Keyword).isEmpty then 0 else 1)<30))=true
 line:(apos.endLine==b8.line)=true
 trees:backTo b8 (starEach [e,f] X.env)=[(false,eval e X.env),(false,eval f X.env)]
def SM(H:Hp)(a:_t):Prop:=(∃aX,Rd H a (.dK aX))\/∃aX,Rd H a (.dT aX)
theorem Ng(I:aV X ai σ H s)(d:SM H a):
  s.TypeIs (.ref a) "dict" /\ (∀b,Value.ref a=.ref b->∃ob,s.heap.get? b=some ob/\ob.dict=none)/\(a==sysModules)=false:=by
 rcases d with⟨aX,e⟩|⟨aX,e⟩
 .obtain⟨_,hd,vs,_,dd⟩:=xH I.cW e;refine⟨dd.typeIs,fun b q=>?_,hd⟩;cases q;obtain⟨ob,_,_,h1,h2,_⟩:=dd;exact⟨ob,h1,h2.2.1⟩
 .obtain⟨_,hd,xs,_,dd⟩:=xI I.cW e;refine⟨dd.typeIs,fun b q=>?_,hd⟩;cases q;obtain⟨ob,_,_,h1,h2,_⟩:=dd;exact⟨ob,h1,h2.2.1⟩
section
variable{y d:V}{u r:_r}{o:Option V}{E:_i}
theorem Nh(hu:A.units+1<cLine)(I:aV X ai σ H s)(g:pT H a y o)(ry:bT y u)(rd:bT d r)(h:∀w' s',aV X ai σ H s'->bT (o.getD d) w'->Q w' s'):
  wpAny (model X.prog X.w) A (call (.builtin "dict.get") [.ref a,u,r]) Q E s:=by
 rcases g with⟨aX,k,e,ey,l⟩|⟨aX,k,b,e,ey,eb,l⟩
 .subst ey;obtain⟨z,hd,vs,rel,dd⟩:=xH I.cW e;refine call_meetsIn Yi dd.typeIs Zl (Ze _ _ _) (meets_dict_get_default (eV X.prog X.w) a (Bq ry) hd r) ⟨_,dd.mapOf,h _ _ (I.tok _) ?_⟩;rw[l];exact(rel.val k).getD rd
 .subst ey;cases(show u=Value.ref b from ry);obtain⟨z,hd,xs,rel,dd⟩:=xI I.cW e;refine call_meetsIn Yi dd.typeIs Zl (Ze _ _ _) (meetsH_dict_get_default (tupleKind (eV X.prog X.w)) a b hd r) ⟨YN hu,k,xs,vU I.cW eb,dd,h _ _ (I.tok _) ?_⟩;rw[l];exact(rel.val k).getD rd
end
def Ni(td ty tx:TE):TE:=fun σ H Q=>td σ H fun x H1=>∃a,x=.ref a/\SM H1 a/\ty σ H1 fun y H2=>tx σ H2 fun z H3=>∃o,pT H3 a y o/\Q (o.getD z) H3
section
variable{f:Expr}{ty tx:TE}
theorem E3(hu:X.A.units+1<cLine)(ho:PE X o td)(he:PE X e ty)(hf:PE X f tx)(m:M2 X o "get" apos e f b8):PE X (.Call (.Attribute o "get" apos) [e,f] [] b8) (Ni td ty tx):=by
 intro ai s σ H Q I h;refine wpAny_Call_method m.base m.few m.line PySem.F.plainAttrs_dict Yi PySem.F.type_dict_get (cR (ho ai s σ H _ I h) fun u s1⟨x,H1,I1,rx,a,ex,d,q1⟩=>?_);subst ex;obtain rfl:u=Value.ref a:=rx;obtain⟨t1,t2,_⟩:=Ng I1 d;refine⟨t1,t2,?_⟩;rw[m.trees];refine Z! rfl (Yz (X8 (cR (he ai s1 σ H1 _ I1 q1) fun iv s2⟨y,H2,I2,ry,q2⟩=>
  X8 (cR (hf ai s2 σ H2 _ I2 q2) fun fv s3⟨z,H3,I3,rz,ov,g,q3⟩=>Y4 ?_))))
 exact Nh hu I3 g ry rz fun w' s4 I4 qT=>⟨_,H3,I4,qT,q3⟩
end
section
variable{aX:List (eU×V)}{E:_i}
end
section
variable{y:V}{u:_r}{E:_i}
end
section
variable[DecidableEq κ]
end
theorem nZ.upd{H H':Hp}{p:_t}{o:HO}(e:nZ H H')(h:H' p=none):nZ H (upd H' p o):=fun b u q=>by rw[bK (bL (e b u q) h)];exact e b u q
def kj(k:Nat)(i:Int):Prop:=i.natAbs<2 ^ k
theorem kj.bits{k:Nat}{i:Int}(h:kj k i):Builtin.Int.intBits i<=k:=by
 unfold Builtin.Int.intBits;by_cases hz:(i==0)=true
 .rw[Vs hz];exact VU _
 .rw[Vx hz];have h0:i.natAbs≠0:=by intro e;apply hz;have:i=0:=ZR.mp e;simp[this]
  have:=(Yk h0).mpr h;lia
theorem kj.mono{j k:Nat}{i:Int}(h:kj j i)(hk:j<=k):kj k i:=VQ h (Wf (by decide) hk)
theorem kj.mul{j k:Nat}{x y:Int}(h1:kj j x)(h2:kj k y):kj (j+k) (x*y):=by show(x*y).natAbs<2 ^ (j+k);rw[Y2,Zw];exact Nat.mul_lt_mul'' h1 h2
theorem kj.small{k:Nat}{i:Int}(hk:10<=k)(h0:-1000<i)(h1:i<1000):kj k i:=by show i.natAbs<2 ^ k;have:2 ^ 10<=2 ^ k:=Wf (by decide) hk;lia
def Bs(i j:Int):Prop:=∃a b,kj a i/\kj b j/\a<=2 ^ 20/\b<=2 ^ 20
theorem Bs.ok{i:Int}(h:Bs i j):IntMulOk i j:=by obtain⟨a,b,h1,h2,h3,h4⟩:=h;exact IntMulOk.of_bits (VX h1.bits h3) (VX h2.bits h4)
def Bt(i j:Int):Prop:=j≠0/\kj 9000 j
theorem Bt.ok{i:Int}(h:Bt i j):Builtin.divisionGoesByPylong i j=false:=
 PyProof.noPylong_of_log2 ((Yk (by intro e;exact h.1 (ZR.mp e))).mpr h.2)
theorem Jj:ej X (binaryOp .Mult) (rI Bs fun i j=>.int (i*j)):=Qv fun _ _ _ _ _ _ _ hc q=>PyProof.Rows.mul_int q hc.ok
theorem E4:ej X (binaryOp .FloorDiv) (rI Bt fun i j=>.int (i.fdiv j)):=Qv fun _ _ _ _ _ _ _ hc q=>floordiv_int hc.1 q (.inl hc.ok)
def xq(X:Cx)(ifs:List Expr)(t:TT):Prop:=
 ∀(ai:_k)(s:_s)(σ:St)(H:Hp)(Q:Bool->Hp->Prop),aV X ai σ H s->t σ H Q ->
  wpAny (model X.prog X.w) X.A (forIn ifs true fun c r=>if r=true then do let ok <- isTrue c X.env (eval c X.env);pure (ForInStep.yield ok)else pure (ForInStep.yield r)) (TP X ai σ Q) X.xe s
def QY:TT:=fun _ H Q=>Q true H
theorem Bu:xq X [] QY:=fun _ _ _ H _ I h=>wpAny_tests_nil ⟨H,I,h⟩
theorem Jk{c:Expr}{t:TT}(h:PT X c t):xq X [c] t:=fun ai s σ H Q I hw=>wpAny_tests_one (h ai s σ H Q I hw)
theorem jG.QZ{o:HO}(x:jG P w H h)(hn:H a=none)(new:dk P w (upd H a o) h a o):jG P w (upd H a o) h:=fun b u e=>by
 by_cases hb:b=a
 .subst hb;rw[c!]at e;cases e;exact new
 .rw[bK hb]at e;exact(x b u e).lW (fun c v _ q=>q) (fun c q=>by rw[bK (bL q hn)];exact q) fun c xs q=>by rw[bK (bL q hn)];exact q
def qY(X:Cx)(N:_q)(scope:Scope)(cl:List (Str×_t))(C:_t)(fp:_p)(s:_s)(H:Hp):Cx:=
 {X with N:=N,s₀:=s,H₀:=H,env:=compEnvC scope cl C X.env,outer:=X.stack,stack:=X.stack,ex:=fp,fn:=fun _=>false,pn:=[],xe:=fun _ _=>False}
def pU(k:Nat)(caps:List Nat)(σ:St):St:=List.replicate k none++caps.map fun j=>(σ[j]?).getD none
structure pV(X:Cx)(N:_q)(scope:Scope)(cl:List (Str×_t))(k:Nat)(caps:List Nat):Prop where
 xK:closureFor scope X.env=pure cl
 sub:∀x c,cl.lookup x=some c->X.env.cells.lookup x=some c
 has:∀x,((relabel scope X.env).names.lookup x=some .cell\/(relabel scope X.env).names.lookup x=some .free)->∃c,cl.lookup x=some c
 n_:∀x∈scope.names,x.2≠.cell
 kind:scope.kind=.function
 names:∀x∈scope.names,x.2=.local->scope.names.lookup x.1=some .local
 len:N.length=k+caps.length
 at_:∀i j x,caps[i]?=some j->N[k+i]?=some x->X.N[j]?=some x/\(X.env.kindOf x=some .cell\/X.env.kindOf x=some .free)/\((relabel scope X.env).names.lookup x=some .cell\/(relabel scope X.env).names.lookup x=some .free)
def qZ(J:It)(k:Nat)(caps:List Nat)(g:TG)(tt:TT)(te:TE)(σ:St)(H1:Hp)(Q:VK):Prop:=
 ∃W:Nat->Nat->List V->St->Hp->Prop,(∃m,W 0 m [] (pU k caps σ) H1)/\∀i m ys τ H,W i m ys τ H ->
  (J.stop i H/\ys.length<=sizeLine/\∀p,H p=none->Q (.ref p) (upd H p (.lst ys))) \/
  (J.go i H/\ys.length<sizeLine/\∀x H',J.Qm i H x H'->g x τ H' fun τ2 H2=>tt τ2 H2 fun b H3=>if b=true then te τ2 H3 fun y H4=>∃m',m'<m/\W (i+1) m' (ys++[y]) τ2 H4 else ∃m',m'<m/\W (i+1) m' ys τ2 H3)
@[irreducible] def mU(k:Nat)(caps:List Nat)(wi:TI)(g:TG)(tt:TT)(te:TE):TE:=fun σ H Q=>wi σ H fun J H1=>qZ J k caps g tt te σ H1 Q
theorem xM{k:Nat}{g:TG}{Q:VK}(h:wi σ H fun J H1=>qZ J k caps g tt te σ H1 Q):mU k caps wi g tt te σ H Q:=by unfold mU;exact h
theorem n!{k:Nat}{g:TG}{Q:VK}(h:mU k caps wi g tt te σ H Q):wi σ H fun J H1=>qZ J k caps g tt te σ H1 Q:=by unfold mU at h;exact h
theorem Jl{k:Nat}{σ:St}{v:V}(h:(pU k caps σ)[i]?=some (some v)):∃j,k<=i/\caps[i-k]?=some j/\σ[j]?=some (some v):=by
 unfold pU at h;by_cases hi:i<k
 .rw[V' (by simpa using hi),XC]at h;split at h<;>cases h
 .rw[VS (by simpa using YD hi),V3,VV]at h;cases e:caps[i-k]? with
  |none=>rw[e]at h;cases h
  |some j=>
   rw[e]at h;refine⟨j,YD hi,rfl,?_⟩;have h':(σ[j]?).getD none=some v:=by simpa using h
   cases q:σ[j]? with
   |none=>rw[q]at h';cases h'
   |some o=>rw[q]at h';exact W! some h'
theorem aV.block{scope:Scope}{cl:List (Str×_t)}{k:Nat}{t':Nat}{m':_j}(I:aV X ai σ H s)(B:pV X N scope cl k caps)(hf:∀b∈fp,nW X ai H b)(hC:s.heap.objs.size<=C)(Nj:∀b∈fp,∃o,s.heap.get? b=some o)(kp:∀b o,s.heap.get? b=some o->h'.get? b=some o)(ns:h'.Ns C m'):aV (qY X N scope cl C fp s H) [] (pU k caps σ) H {s with heap:=h',toks:=t'}:=by
 have below:∀{b:_t}{o:Obj},s.heap.get? b=some o->b≠C:=fun e=>V7 (VQ (VL e) hC);have Q0:∀x c,cl.lookup x=some c->∃v,s.heap.IsCell c v:=fun x c e=>I.cell x c (B.sub x c e);refine⟨⟨I.ok.mod,?_,I.ok.glob,I.ok.blt,hC,fun x y c h1 h2=>I.ok.inj x y c (B.sub x c h1) (B.sub y c h2),fun x hx=>B.has x hx,fun x c h1 _=>?_,I.ok.hd,I.ok.frames,.inl rfl,fun b hb=>⟨?_,fun x c e=>?_⟩,I.bs,VX I.ok.Lr I.sz,fun b o e hb=>?_,fun b hb=>?_,I.stack,I.qq⟩,
  rfl,I.bare,Un.kept kp,⟨m',ns,fun i x v h1 h2 h3=>?_⟩,fun x c e=>?_,?_,fun x c e=>I.iV x c (B.sub x c e),fun p hp=>absurd (show p∈([]:_k)from hp) (by simp),I.cW.kept kp,?_⟩
 .exact B.kind
 .exact absurd h1 (by simp[qY])
 .obtain⟨o,e⟩:=Nj b hb;exact below e
 .exact(hf b hb).2.2.2.2.1 x c (B.sub x c e)
 .obtain⟨_,_,_,h4,_⟩:=hf b hb;rcases h4 with z|z
  .exact I.ok.zM b o e z
  .exact absurd (VQ (VL (I.ok.bs b o e).1) z) (Wc _)
 .intro z;rcases VJ.mp (I.nU b z)with e|e
  .exact(hf b hb).2.1 e
  .exact(hf b hb).2.2.1 e
 .obtain⟨j,hk,hj,hσ⟩:=Jl h2;have hN:N[k+(i-k)]?=some x:=by rw[Nat.add_sub_cancel' hk];exact h1
  obtain⟨a1,a2,a3⟩:=B.at_ (i-k) j x hj hN;obtain⟨m,hn,hl⟩:=I.loc;have vis:Mh X.env.scope x:=by
   rcases a2 with z|z
   .exact .inr (.inl z)
   .exact .inr (.inr z)
  obtain⟨u,r,l⟩:=hl j x v a1 hσ vis;refine⟨u,r,.inr ⟨a3,?_⟩⟩;rcases l with⟨z,_⟩|⟨_,c,e,cc⟩
  .rcases a2 with y|y<;>(rw[z]at y;cases y)
  .obtain⟨c',e'⟩:=B.has x a3;have:X.env.cells.lookup x=some c':=B.sub x c' e';rw[e]at this;cases this;obtain⟨o,ho,hd⟩:=cc;exact⟨c,e',o,kp c o ho,hd⟩
 .obtain⟨v,o,ho,hd⟩:=Q0 x c e;exact⟨v,o,kp c o ho,hd⟩
 .exact I.cW.fresh hC
 .show(pU k caps σ).length=N.length;unfold pU;rw[Vz,V3,Vt,B.len]
def q_(X:Cx)(ai:_k)(σ:St)(s:_s)(Q:VK)(acc:_r)(C:_t)(s':_s):Prop:=
 ∃D H',acc=.ref D/\s.heap.objs.size<=C/\aV X ai σ H' s'/\H' C=none/\(∃m,s'.heap.Ns C m)/\Q (.ref D) H'
def SN(X:Cx)(N:_q)(scope:Scope)(cl:List (Str×_t))(C:_t)(fp:_p)(s:_s)(H:Hp)(xe:_t->_r->_s->Prop):Cx:={qY X N scope cl C fp s H with xe:=xe C}
theorem aV.xe{X:Cx}{ai:_k}{σ:St}{H:Hp}{s:_s}(I:aV X ai σ H s)(x:_i):aV {X with xe:=x} ai σ H s:=by obtain⟨⟨o1,o2,o3,o4,o5,o6,o7,o8,o9,o10,o11,o12,o13,o14,o15,o16,o17,o18⟩,i2,i3,i4,i5,i6,i7,i8,i9,i10,i11⟩:=I;exact⟨⟨o1,o2,o3,o4,o5,o6,o7,o8,o9,o10,o11,o12,o13,o14,o15,o16,o17,o18⟩,i2,i3,i4,i5,i6,i7,i8,i9,i10,i11⟩
def q!(X:Cx)(fp:_p)(C:_t)(s:_s)(H:Hp):Prop:=∃ai σ,aV X ai σ H s/\(∀b∈fp,nW X ai H b)/\s.heap.objs.size<=C
theorem Nk{M:Model}{m:Sem α}{Q Q':α->_s->Prop}{E E':_i}{s:_s}(he:∀x s',E x s'->E' x s')(h:wpAny M A m Q E s)(k:∀a s',Q a s'->Q' a s'):wpAny M A m Q' E' s:=Wg h k he
theorem uv{s:_s}{target:Expr}{scope:Scope}{it acc:_r}{env:Env}{R:Result->_s->Prop}(I:Nat->_s->Prop)
  (turn:∀ n s,I n s->wpAny (model prog w) A (pyNext it) (fun r s₁=>match r with
   |none=>R (.ok .next) s₁
   |some v=>wpAny (model prog w) A (letOwnedTupleGo target it v) (fun _ LC=>wpAny (model prog w) A (assign target env v) (fun _ s₂=>
     wpAny (model prog w) A (forIn ifs true fun c r=>if r=true then do let ok <- isTrue c env (eval c env);pure (ForInStep.yield ok)else pure (ForInStep.yield r)) (fun ok s₃=>
      if ok=true then wpAny (model prog w) A (eval elt env) (fun x s₄=>
       wpAny (model prog w) A (call (.builtin "list.append") [acc,x]) (fun _ s₅=>∃m,m<n/\I m s₅) (notedBy (model prog w) A env fun x s'=>R (.error x) s') s₄) (notedBy (model prog w) A env fun x s'=>R (.error x) s') s₃
      else ∃m,m<n/\I m s₃) (notedBy (model prog w) A env fun x s'=>R (.error x) s') s₂) (notedBy (model prog w) A env fun x s'=>R (.error x) s') LC) (notedBy (model prog w) A env fun x s'=>R (.error x) s') s₁) (notedBy (model prog w) A env fun x s'=>R (.error x) s') s)
  (n:Nat) (h:I n s):codeAny (model prog w) A (.compLoop (.ListComp elt [⟨target,iter,ifs,0⟩] scope pos) 0 it acc env) R s:=by
 refine codeAny_loop rfl I (fun n s hI=>?_) n h;show wpAny _ A ((compTurn (.ListComp elt [⟨target,iter,ifs,0⟩] scope pos) 0 it acc env).onRaise (fun x=>do noteFrame x env;theTreesLotGoes x)) _ _ s;refine wpAny_noted ?_;rw[compTurn_list];refine Vn (Ye (Vn (Wg (turn n s hI) (fun r s₁ h₁=>?_) fun _ _ h'=>h')));cases r with
 |none=>exact VB h₁
 |some v=>
  refine Vn (Wg h₁ (fun _ LC Q1=>?_) fun _ _ h'=>h');refine Vn (Wg Q1 (fun _ s₂ h₂=>Vn (Wg h₂ (fun ok s₃ h₃=>?_) fun _ _ h'=>h')) fun _ _ h'=>h');cases ok with
  |false=>exact VB ⟨rfl,h₃⟩
  |true=>exact Vn (Vn (Wg h₃ (fun x s₄ h₄=>Vn (Wg h₄ (fun _ s₅ h₅=>VB (VB ⟨rfl,h₅⟩)) fun _ _ h'=>h')) fun _ _ h'=>h'))
theorem q?{scope:Scope}{cl:List (Str×_t)}{k:Nat}{g:TG}{Q:VK}{RR:_r->Env->Result->_s->Prop}{E:_i}{xe:_t->_r->_s->Prop}(hc:X.calm=true)(B:pV X N scope cl k caps)(hg:∀C fp s H,PG (SN X N scope cl C fp s H xe) tg g)(hi:∀C fp s H,xq (SN X N scope cl C fp s H xe) ifs tt)(he:∀C fp s H,q! X fp C s H->PE (SN X N scope cl C fp s H xe) elt te)(I:aV X ai σ H s)(T:Turn X.prog X.w X.K tg J fp it tn)(st:tn 0 s.heap)(hf:∀b∈fp,nW X ai H b)(h:qZ J k caps g tt te σ H Q)(Q2:∀acc C s',q_ X ai σ s Q acc C s'->RR acc (compEnvC scope cl C X.env) (.ok .next) s')(mon:∀acc C x s',xe C x s'->notedBy (model X.prog X.w) X.A (compEnvC scope cl C X.env) (fun x s'=>RR acc (compEnvC scope cl C X.env) (.error x) s') x s'):
  wpAny (model X.prog X.w) X.A (newList []) (fun acc s₃=>wpAny (model X.prog X.w) X.A (newFunctionEnv scope X.env.globals cl [] X.env.qual none .none (some X.env)) (fun cenv s₄=>
   codeAny (model X.prog X.w) X.A (.compStart (.ListComp elt [⟨tg,iter,ifs,0⟩] scope pos) 0 (.ref it) acc {cenv with scope:=relabel scope X.env}) (RR acc {cenv with scope:=relabel scope X.env}) s₄) E s₃) E s:=by
 obtain⟨W,⟨m0,w0⟩,turn⟩:=h;refine Wt (wpAny_newFunctionEnv B.n_ (by intro y hy;simp at hy) (fun h₁ zY vW=>?_) B.kind);dsimp only at zY vW⊢;generalize Uy:s.heap.push {cls:=.type "list",dict:=none,data:=.seq ([]:_n).toArray} = H2 at zY vW⊢;have hC:H2.objs.size=s.heap.objs.size+1:=by rw[<-Uy,Xn]
 have Q3:s.heap.objs.size<=H2.objs.size:=by rw[hC];exact Nat.le_succ _
 have SQ:s.heap.objs.size≠H2.objs.size:=by rw[hC];exact V7 (X6 _)
 have old:∀b o,s.heap.get? b=some o->h₁.get? b=some o:=fun b o e=>vW.extBut b o (V7 (VQ (VL e) Q3)) (Vr _ (Uy▸Vr _ e));have Nl:h₁.get? s.heap.objs.size=some {cls:=.type "list",data:=.seq ([]:_n).toArray 0}:=vW.extBut _ _ SQ (Vr _ (Uy▸VR _ rfl));have Uz:=T.obj 0 _ st;have Nj:∀b∈fp,∃o,s.heap.get? b=some o:=fun b hb=>let⟨o,e,_⟩:=Uz b hb;⟨o,e⟩
 have hDf:∀b∈fp,b≠s.heap.objs.size:=fun b hb z=>by obtain⟨o,e⟩:=Nj b hb;exact absurd (VL e) (by rw[z];exact Wc _)
 have hD0:H s.heap.objs.size=none:=I.cW.fresh (Vv _);have LD:tn 0 h₁:=T.keep 0 _ _ st fun b _ o e=>old b o e;have Q4:∀x c,cl.lookup x=some c->c≠s.heap.objs.size:=fun x c e z=>by obtain⟨v,o,ho,_⟩:=I.cell x c (B.sub x c e);exact absurd (VL ho) (by rw[z];exact Wc _)
 have UA:∀b∈fZ X.stack,b≠s.heap.objs.size:=fun b hb z=>by obtain⟨_,o,ho,_⟩:=I.stack.mem hb;exact absurd (VL ho) (by rw[z];exact Wc _)
 have loop:∀s₃:_s,s₃ = {s with heap:=h₁,toks:=s.toks+([]:List (Str×_r)).length} ->
   codeAny (model X.prog X.w) X.A (.compLoop (.ListComp elt [⟨tg,iter,ifs,0⟩] scope pos) 0 (.ref it) (.ref s.heap.objs.size) (compEnvC scope cl H2.objs.size X.env)) (RR (.ref s.heap.objs.size) (compEnvC scope cl H2.objs.size X.env)) s₃:=by
  rintro s₃ rfl;generalize zI:SN X N scope cl H2.objs.size fp s H xe=XB;have eP:XB.prog=X.prog:=by rw[<-zI];rfl
  have eW:XB.w=X.w:=by rw[<-zI];rfl
  have eK:XB.K=X.K:=by rw[<-zI];rfl
  have eA:XB.A=X.A:=by rw[<-zI];rfl
  have eE:XB.env=compEnvC scope cl H2.objs.size X.env:=by rw[<-zI];rfl
  have eL:XB.env.locals=H2.objs.size:=by rw[eE];rfl
  have eF:XB.fs=fZ X.stack:=by rw[<-zI];rfl
  have eX:XB.ex=fp:=by rw[<-zI];rfl
  have eN:XB.pn=[]:=by rw[<-zI];rfl
  have e0:XB.s₀=s:=by rw[<-zI];rfl
  have eC:XB.calm=true:=by rw[<-zI];exact hc
  have ecl:XB.env.cells=cl:=by rw[eE];rfl
  have UB:XB.xe=xe H2.objs.size:=by rw[<-zI];rfl
  have mon:=mon (.ref s.heap.objs.size) H2.objs.size;have iR:PG XB tg g:=by rw[<-zI];exact hg _ _ _ _
  have Nm:xq XB ifs tt:=by rw[<-zI];exact hi _ _ _ _
  have he':PE XB elt te:=by rw[<-zI];exact he _ _ _ _ ⟨ai,σ,I,hf,Q3⟩
  have I0:aV XB [] (pU k caps σ) H {s with heap:=h₁,toks:=s.toks+([]:List (Str×_r)).length}:=by rw[<-zI];exact(I.block B hf Q3 Nj old zY).xe _
  -- Ec LF pinned
  have UC:∀{τ:St}{H':Hp}{s':_s}{aM:_n}{nn:Nat},aV XB [] τ H' s'->s'.heap.get? s.heap.objs.size=some {cls:=.type "list",data:=.seq aM.toArray nn}->H' s.heap.objs.size=none ->
    aV XB [(s.heap.objs.size,{cls:=.type "list",data:=.seq aM.toArray nn})] τ H' s':=fun{τ H' s' aM nn}J hd hn=>J.qr fun p hp=>by
   obtain rfl:p=_:=VZ.mp hp;refine⟨hd,hn,by rw[eL];exact SQ,by rw[eF];exact fun z=>UA _ z rfl,fun v z=>?_⟩;have z':Data.seq aM.toArray nn=Data.cell v:=z;cases z'
  have zR:∀{H':Hp}{o:Obj},(∀b∈fp,H' b=none)->∀b∈fp,nW XB [(s.heap.objs.size,o)] H' b:=fun{H' o}hn b hb=>by
   obtain⟨_,f1,f2,f3,f4,f5⟩:=hf b hb;refine⟨hn b hb,?_,?_,.inl (by rw[eX];exact hb),fun x c e=>f4 x c (B.sub x c (by rw[<-ecl];exact e)),fun p hp=>?_⟩
   .rw[eL];obtain⟨o,e⟩:=Nj b hb;exact V7 (VQ (VL e) Q3)
   .rw[eF];intro z;rcases VJ.mp (I.nU b z)with e|e
    .exact f1 e
    .exact f2 e
   .rw[eN]at hp;obtain rfl:p=_:=VZ.mp (by simpa using hp);exact Xg (hDf b hb)
  refine uv (fun n s'=>∃i ys aM nn τ H',aV XB [] τ H' s'/\s'.heap.get? s.heap.objs.size=some {cls:=.type "list",data:=.seq aM.toArray nn}/\H' s.heap.objs.size=none/\bN ys aM/\tn i s'.heap/\(∀b∈fp,H' b=none)/\W i n ys τ H') ?_ m0
   ⟨0,[],[],0,pU k caps σ,H,I0,Nl,hD0,.nil,LD,fun b hb=>(hf b hb).1,w0⟩
  rintro n s3 ⟨i,ys,aM,nn,τ,H3,I3,hd3,hn3,SS,jv,Qs,w3⟩;have I3':=UC I3 hd3 hn3;rcases turn i n ys τ H3 w3 with⟨stop,hz,qn⟩|⟨go,hz,step⟩
  .have D1:=T.done XB eP eW eK eC i _ s3 τ H3 (notedBy (model X.prog X.w) X.A (compEnvC scope cl H2.objs.size X.env) fun x s'=>RR (.ref s.heap.objs.size) (compEnvC scope cl H2.objs.size X.env) (.error x) s') I3' (zR Qs) jv stop;rw[eA]at D1;refine cR D1 fun r s4⟨hr,I4⟩=>?_;subst hr;refine Q2 _ _ s4 ?_;obtain⟨pd,Q5,_⟩:=I4.pin (s.heap.objs.size,{cls:=.type "list",data:=.seq aM.toArray nn}) (by rw[eN];exact V2 _ (VZ.mpr rfl));have Jm:Un (fZ X.stack) fp H H3 s.heap s4.heap:=by have:=I4.base;rw[<-zI]at this;exact this
   have new:dk X.prog X.w (upd H3 s.heap.objs.size (.lst ys)) s4.heap s.heap.objs.size (.lst ys):=⟨hz,aM,nn,SS,pd⟩
   have UD:jG X.prog X.w H3 s4.heap:=by have:=I4.cW;rw[eP,eW]at this;exact this
   have cW:jG X.prog X.w (upd H3 s.heap.objs.size (.lst ys)) s4.heap:=UD.QZ Q5 new;have os4:s4.os=s.os:=by have:=I4.os;rw[e0]at this;exact this
   have un:Un (fZ X.stack) fp H (upd H3 s.heap.objs.size (.lst ys)) s.heap s4.heap:=
    ⟨Jm.keep,Jm.slot,fun b o e n hx=>by rw[bK (V7 (VL e))];exact Jm.free b o e n hx,Jm.there,
     fun b xs e=>by rw[bK (bL (Jm.jH b xs e) Q5)];exact Jm.jH b xs e,fun b o u e=>by rw[bK (bL (Jm.ju b o u e) Q5)];exact Jm.ju b o u e,
     fun b ps e=>by
      obtain⟨more,q⟩:=Jm.j9 b ps e;exact⟨more,by rw[bK (bL q Q5)];exact q⟩⟩
   have I5:aV X ai σ (upd H3 s.heap.objs.size (.lst ys)) s4:=I.xx os4 un cW I4.bare fun b hb=>⟨(hf b hb).2.2.2.1,(hf b hb).2.1,(hf b hb).2.2.2.2.1,(hf b hb).2.2.2.2.2⟩
   have hC4:H3 H2.objs.size=none:=by have:=I4.free;rw[eL]at this;exact this
   refine⟨s.heap.objs.size,_,rfl,Q3,I5,by rw[bK (Xg SQ)];exact hC4,?_,qn _ Q5⟩;obtain⟨m4,ns4,_⟩:=I4.loc;rw[eL]at ns4;exact⟨m4,ns4⟩
  .have D1:=T.item XB eP eW eK eC i _ s3 τ H3 (notedBy (model X.prog X.w) X.A (compEnvC scope cl H2.objs.size X.env) fun x s'=>RR (.ref s.heap.objs.size) (compEnvC scope cl H2.objs.size X.env) (.error x) s') I3' (zR Qs) jv go;rw[eA]at D1;refine cR D1 fun r s4⟨u,hr,h4⟩=>?_;subst hr;refine cR h4 fun _ s5⟨x,H5,I5,r5,y5,MF,T9⟩=>?_;have T_:=I5.pinned (zR T9) (T.obj _ _ MF);have G:=iR _ s5 τ H5 x u _ T_ r5 (step x H5 y5);rw[eP,eW,eA,eE,UB]at G;refine Nk mon G fun _ s6⟨τ6,H6,I6,q6⟩=>?_;have G2:=Nm _ s6 τ6 H6 _ I6 q6;rw[eP,eW,eA,eE,UB]at G2;refine Nk mon G2 fun ok s7⟨H7,I7,q7⟩=>?_
   -- Qr Ec ai give back
   have back:∀{τ8:St}{H8:Hp}{s8:_s},aV XB ([(s.heap.objs.size,({cls:=.type "list",data:=.seq aM.toArray nn}:Obj))]++qM fp s5.heap) τ8 H8 s8 ->
     aV XB [] τ8 H8 s8/\s8.heap.get? s.heap.objs.size=some {cls:=.type "list",data:=.seq aM.toArray nn}/\H8 s.heap.objs.size=none/\tn (i+1) s8.heap/\∀b∈fp,H8 b=none:=fun{τ8 H8 s8}J=>by
    obtain⟨p1,p2,_⟩:=J.pin (s.heap.objs.size,{cls:=.type "list",data:=.seq aM.toArray nn}) (V2 _ (WL _ (VZ.mpr rfl)));refine⟨J.qr fun p hp=>absurd (show p∈([]:_k)from hp) (by simp),p1,p2,T.keep _ _ _ MF fun b hb o e=>(J.pin (b,o) (V2 _ (V2 _ (jI hb e)))).1,fun b hb=>?_⟩;obtain⟨o,e,d⟩:=T.obj _ _ MF b hb;exact(J.pin (b,o) (V2 _ (V2 _ (jI hb e)))).2.1
   cases ok with
   |false=>
    rw[Vx VC]at q7⊢;obtain⟨m',hm,w7⟩:=q7;obtain⟨J,a1,a2,a3,a4⟩:=back I7;exact⟨m',hm,i+1,ys,aM,nn,τ6,H7,J,a1,a2,SS,a3,a4,w7⟩
   |true=>
    rw[Vs rfl]at q7⊢;have G3:=he' _ s7 τ6 H7 _ I7 q7;rw[eP,eW,eA,eE,UB]at G3;refine Nk mon G3 fun v s8⟨y,H8,I8,r8,m',hm,w8⟩=>?_;obtain⟨J,a1,a2,a3,a4⟩:=back I8;have hlen:=SS.length;refine Zv F.slot_list_append ⟨_,a1,rfl⟩ F.entry_list_append (F.args_list_append_2 _ _) (ZT s.heap.objs.size aM.toArray nn v (by rw[VM];lia)) ⟨a1,?_⟩;have q:=Z7 a1 (fun z=>z.push v);have other:∀b o,b≠s.heap.objs.size->s8.heap.get? b=some o->(s8.heap.update s.heap.objs.size (Obj.mapSeq fun z=>z.push v)).get? b=some o:=fun b o hb e=>(Wx s8.heap (Obj.mapSeq fun z=>z.push v) (Xg hb)).trans e;have J':aV XB [] τ6 H8 {s8 with heap:=s8.heap.update s.heap.objs.size (Obj.mapSeq fun z=>z.push v)}:=
     J.turned (t':=s8.toks) (it:=s.heap.objs.size) other a2 (by rw[eL];exact SQ) (.inr (by rw[e0];exact Vv _)) (fun x c e=>Q4 x c (by rw[<-ecl];exact e)) fun p hp=>absurd (show p∈([]:_k) by rw[eN]at hp;exact hp) (by simp)
    obtain⟨n2,q2⟩:∃n2,(s8.heap.update s.heap.objs.size (Obj.mapSeq fun z=>z.push v)).get? s.heap.objs.size=some {cls:=.type "list",data:=.seq (aM++[v]).toArray n2}:=by
     have e1:aM.toArray.push v=(aM++[v]).toArray:=by simp
     rw[<-e1];exact⟨_,q⟩
    exact⟨m',hm,i+1,ys++[y],aM++[v],n2,τ6,H8,J',q2,a2,SS.append (.cons r8 .nil),T.keep _ _ _ a3 fun b hb o e=>other b o (hDf b hb) e,a4,w8⟩
 exact codeAny_compStart_list (loop _ rfl) (T.self X.A 0 _ _ _ LD (loop _ rfl))
theorem u0{scope:Scope}{cl:List (Str×_t)}{k:Nat}{g:TG}{Q:VK}{RR:_r->_t->Result->_s->Prop}{E:_i}(hc:X.calm=true)(B:pV X N scope cl k caps)(hg:∀C fp s H,PG (qY X N scope cl C fp s H) tg g)(hi:∀C fp s H,xq (qY X N scope cl C fp s H) ifs tt)(he:∀C fp s H,PE (qY X N scope cl C fp s H) elt te)(I:aV X ai σ H s)(T:Turn X.prog X.w X.K tg J fp it tn)(st:tn 0 s.heap)(hf:∀b∈fp,nW X ai H b)(h:qZ J k caps g tt te σ H Q)(Q2:∀acc C s',q_ X ai σ s Q acc C s'->RR acc C (.ok .next) s'):
  wpAny (model X.prog X.w) X.A (newList []) (fun acc s₃=>wpAny (model X.prog X.w) X.A (newFunctionEnv scope X.env.globals cl [] X.env.qual none .none (some X.env)) (fun cenv s₄=>
   codeAny (model X.prog X.w) X.A (.compStart (.ListComp elt [⟨tg,iter,ifs,0⟩] scope pos) 0 (.ref it) acc {cenv with scope:=relabel scope X.env}) (RR acc cenv.locals) s₄) E s₃) E s:=by
 have z:=q? (xe:=fun _ _ _=>False) (RR:=fun acc en=>RR acc en.locals) (E:=E) (iter:=iter) (pos:=pos) hc B hg hi (fun C fp s H _=>he C fp s H) I T st hf h Q2 fun _ _ _ _ q=>q.elim;exact z
section
variable{scope:Scope}{cl:List (Str×_t)}{k:Nat}{g:TG}
theorem aV.n?{σ':St}(I:aV X ai σ H s)(hC:s.heap.objs.size<=C)(I':aV X ai σ' H' s')(hn:H' C=none)(sb:Heap.SameBut C s'.heap h'):
  aV X ai σ' H' {s' with heap:=h'}:=by
 refine I'.turned (t':=s'.toks) (it:=C) (fun b o hb e=>(sb.2 b hb).trans e) hn (Xj (VQ I.lt hC)) (.inr (VX I.sz hC)) (fun x c e=>?_) fun p hp=>?_
 .obtain⟨v,o,ho,_⟩:=I.cell x c e;exact V7 (VQ (VL ho) hC)
 .exact V7 (VQ (VL (I.pin p hp).1) hC)
theorem Jn(hc:X.calm=true)(B:pV X N scope cl k caps)(hi:PI X tg iter wi)(hg:∀C fp s H,PG (qY X N scope cl C fp s H) tg g)(E5:∀C fp s H,xq (qY X N scope cl C fp s H) ifs tt)(he:∀C fp s H,PE (qY X N scope cl C fp s H) elt te)(hs:∀x,foldedSetIterable iter X.env x=pure x:=by intro _;rfl):PE X (.ListComp elt [⟨tg,iter,ifs,0⟩] scope pos) (mU k caps wi g tt te):=by intro ai s σ H Q I h;rw[eval_ListComp];refine ZH (use:=none) rfl hs B.xK B.kind B.names (cR (hi ai s σ H _ I (n! h)) fun xv s₁ h₁=>cR h₁ fun Qn s₂ h₂=>?_);obtain⟨it,fp,tn,J,H2,e,I2,T,st2,f2,hW⟩:=h₂;subst e;refine u0 (RR:=fun acc C=>compPost (model X.prog X.w) X.A X.xe none (EP X ai σ Q) acc C) hc B hg E5 he I2 T st2 f2 hW ?_;rintro acc C s' ⟨D,H',rfl,hC,I',hn,⟨m,ns⟩,q⟩;exact⟨m,ns,fun h' sb=>⟨.ref D,H',I2.n? hC I' hn sb,rfl,q⟩⟩
theorem z5{py:Pos}(hN:X.N.Nodup)(hy:X.N[i]?=some y)(hx:Loc X.env.scope y)(hc:X.calm=true)(B:pV X N scope cl k caps)(hi:PI X tg iter wi)(hg:∀C fp s H,PG (qY X N scope cl C fp s H) tg g)(E5:∀C fp s H,xq (qY X N scope cl C fp s H) ifs tt)(he:∀C fp s H,PE (qY X N scope cl C fp s H) elt te)(UE:swapsWith (.ListComp elt [⟨tg,iter,ifs,0⟩] scope pos) (some (.Name y py)) zZ.line X.env=pure true:=by rfl)(hs:∀x,foldedSetIterable iter X.env x=pure x:=by intro _;rfl)(hf:X.fn y=true\/X.env.scope.names.lookup y=some .local:=by first|exact .inl rfl|exact .inr rfl|assumption):
  PS X (.Assign [.Name y py] (.ListComp elt [⟨tg,iter,ifs,0⟩] scope pos) zZ) (IJ (mU k caps wi g tt te) (xy i)):=by
 intro ai s σ H D I h;rw[exec_Assign_Name_used _ _ _ _ UE];refine Vn (Ye (Vn ?_));show wpAny _ X.A (do let _ <- comprehension (.ListComp elt [⟨tg,iter,ifs,0⟩] scope pos) scope X.env _ (newList []) false (eval iter X.env) (some (assign (.Name y py) X.env))) _ _ s;refine Vn (Wg (ZH (use:=some (assign (.Name y py) X.env)) (Q:=fun _ s'=>SP X ai D .next s') rfl hs B.xK B.kind B.names (cR (hi ai s σ H _ I (n! h)) fun xv s₁ h₁=>cR h₁ fun Qn s₂ h₂=>?_)) (fun _ s' hq=>VB (VB hq)) fun _ _ e=>e);obtain⟨it,fp,tn,J,H2,e,I2,T,st2,f2,hW⟩:=h₂;subst e;refine u0 (Q:=fun v H'=>xy i v σ H' D.nx) (RR:=fun acc C=>compPost (model X.prog X.w) X.A X.xe (some (assign (.Name y py) X.env)) (fun _ s'=>SP X ai D .next s') acc C) hc B hg E5 he I2 T st2 f2 hW ?_;rintro acc C s' ⟨D',H',rfl,hC,I',hn,⟨m,ns⟩,q⟩;show wpAny _ _ (assign (.Name y py) X.env (.ref D')) _ _ s';refine wpAny_assign_Name (nV I' hN hy hx (v:=.ref D') rfl (fun SE I''⟨a,sb,ha⟩=>?_) hf);have hCa:C≠a:=by
  rcases ha with e|e
  .rw[e];exact Xj (VQ I2.lt hC)
  .obtain⟨v,o,ho,_⟩:=I2.cell y a e;exact Xj (VQ (VL ho) hC)
 exact⟨m,ns.sameBut sb hCa,fun h' UG=>⟨_,H',I2.n? hC I'' hn UG,q⟩⟩
end
section
variable{K:_l}{g:TG}{Q:VK}
theorem Bv{k:Nat}(n:Nat)(hn:n<=sizeLine)(Pv:Nat->List V->St->Hp->Prop)(h0:Pv 0 [] (pU k caps σ) H)(hgo:∀i ys τ H,i<n->Pv i ys τ H->J.go i H)(Ik:∀ys τ H,Pv n ys τ H->J.stop n H)(hl:∀i ys τ H,Pv i ys τ H->ys.length<=i)(hs:∀i ys τ H x H',i<n->Pv i ys τ H->J.Qm i H x H'->∀K1:List V->St->Hp->Prop,(∀ys τ H,Pv (i+1) ys τ H->K1 ys τ H)->g x τ H' fun τ2 H2=>tt τ2 H2 fun b H3=>if b=true then te τ2 H3 fun y H4=>K1 (ys++[y]) τ2 H4 else K1 ys τ2 H3)(hd:∀ys τ H p,Pv n ys τ H->H p=none->Q (.ref p) (upd H p (.lst ys))):qZ J k caps g tt te σ H Q:=by
 refine⟨fun i m ys τ H=>m=n-i/\i<=n/\Pv i ys τ H,⟨n,by simp,VU _,h0⟩,?_⟩;rintro i m ys τ H ⟨rfl,hi,p⟩;have hy:=hl i ys τ H p;by_cases xN:i<n
 .refine .inr ⟨hgo i ys τ H xN p,by lia,fun x H' y=>?_⟩;exact hs i ys τ H x H' xN p y (fun ys τ H=>∃m',m'<n-i/\m'=n-(i+1)/\i+1<=n/\Pv (i+1) ys τ H) fun ys τ H q=>⟨n-(i+1),by lia,rfl,xN,q⟩
 .have e:i=n:=by lia
  subst e;exact .inl ⟨Ik ys τ H p,by lia,fun q hq=>hd ys τ H q p hq⟩
end
def d?(b:Bool)(h:Heap)(i l:_t)(k:Nat):Prop:=match b with|true=>h.IsListIter i l k|false=>h.IsTupleIter i l k
def jh(b:Bool)(h:Heap)(l:_t)(xs:Array _r):Prop:=match b with|true=>h.IsList l xs|false=>h.IsTuple l xs
theorem d?.keep{b:Bool}{i:_t}{k:Nat}(x:d? b h i l k)(e:∀o,h.get? i=some o->h'.get? i=some o):d? b h' i l k:=by
 cases b with
 |true=>exact Heap.IsListIter.at x e
 |false=>exact Heap.IsTupleIter.at x e
theorem jh.keep{b:Bool}(x:jh b h l xs)(e:∀o,h.get? l=some o->h'.get? l=some o):jh b h' l xs:=by
 cases b with
 |true=>exact Heap.IsList.at x e
 |false=>obtain⟨o,ho,r⟩:=(show h.IsTuple l xs from x);exact⟨o,e _ ho,r⟩
theorem d?.there{b:Bool}{i:_t}{k:Nat}(x:d? b h i l k):∃o n vs,h.get? i=some o/\o.cls=.type n/\o.data=.fields vs:=by
 cases b with
 |true=>obtain⟨o,h1,h2,h3⟩:=(show h.IsListIter i l k from x);exact⟨o,_,_,h1,h2,h3⟩
 |false=>obtain⟨o,h1,h2,h3⟩:=(show h.IsTupleIter i l k from x);exact⟨o,_,_,h1,h2,h3⟩
section
variable{E:_i}
theorem rf{t:_t}{x:_r}(hit:s.heap.IsTupleIter it t i)(ht:s.heap.IsTuple t items)(hx:items[i]?=some x)(hQ:∀h',h'.IsTupleIter it t (i+1)->Heap.SameBut it s.heap h'->Q x {s with heap:=h'}):wpAny (model prog w) A (Builtin.SmallTypes.nextOf (.ref it)) Q E s:=by obtain⟨oi,LG,ci,di⟩:=id hit;obtain⟨ot,Q6,_,nt,dt⟩:=ht;unfold Builtin.SmallTypes.nextOf;refine Vn (Wk (name:=Str.ofString "__next__") hit.typeIs Wl (WI Wl hit.typeIs Xl ?_ (Xh _)));show wpAny _ _ (field (.ref it) 0 >>= _) _ _ s;refine Vn (Wi LG di (x:=.ref t) rfl ?_);show wpAny _ _ (if(Value.ref t==Value.none)=true then _ else _) _ _ s;rw[Vx (show ¬ ((Value.ref t==Value.none)=true)from VC)];show wpAny _ _ (field (.ref it) 1 >>= _) _ _ s;refine Vn (Wi LG di (x:=.int i 0) rfl ?_);show wpAny _ _ (seqItems? (.ref t) >>= _) _ _ s;refine Vn (WV Q6 dt ?_);simp only[WS,hx];refine Vn (Xm LG di (by simp) (VB ⟨x,rfl,VB (hQ _ ?_ (Xa ..))⟩));exact⟨_,Xk _ LG (XM (W7 di _)),(YY ..).trans ci,by rw[W7 di];simp[rawInt]⟩
theorem uw{t:_t}(hh:A.handled=none)(hit:s.heap.IsTupleIter it t i)(ht:s.heap.IsTuple t items)(hx:items[i]?=none)(hE:∀h' e,Heap.ExtBut it s.heap h'->(∃o,h'.get? e=some o/\o.cls=.type "StopIteration")->E (.ref e) {s with heap:=h'}):wpAny (model prog w) A (Builtin.SmallTypes.nextOf (.ref it)) Q E s:=by
 obtain⟨oi,LG,ci,di⟩:=id hit;obtain⟨ot,Q6,_,nt,dt⟩:=ht;unfold Builtin.SmallTypes.nextOf;refine Vn (Wk (name:=Str.ofString "__next__") hit.typeIs Wl (WI Wl hit.typeIs Xl ?_ (Xh _)));show wpAny _ _ (field (.ref it) 0 >>= _) _ _ s;refine Vn (Wi LG di (x:=.ref t) rfl ?_);show wpAny _ _ (if(Value.ref t==Value.none)=true then _ else _) _ _ s;rw[Vx (show ¬ ((Value.ref t==Value.none)=true)from VC)];show wpAny _ _ (field (.ref it) 1 >>= _) _ _ s;refine Vn (Wi LG di (x:=.int i 0) rfl ?_);show wpAny _ _ (seqItems? (.ref t) >>= _) _ _ s;refine Vn (WV Q6 dt ?_);simp only[WS,hx];refine Vn (X3 (Vn (Xm LG di (by simp) ?_)));show wpAny _ _ (newExc (.type "StopIteration") [] >>= _) _ _ _;refine Vn ?_;simp only[newExc,newTuple];refine Vn (Wt ?_ (by size_fits));refine Vn (m:=firstArgMember _ _) (Zd (a:=Value.none) (by first|rfl|(simp only[firstArgMember];rfl)) ?_);refine Wt ?_ (by size_fits);simp only[raiseNew];refine Vn (ZG ?_)
 first|rw[show A.in1.handled=none from hh]|rw[hh]
 refine Vn (VB (Zc ?_));exact hE _ _ (((Xa ..).extBut.push _).push _) ⟨_,VR _ rfl,rfl⟩
theorem jK{b:Bool}{t:_t}{x:_r}(hit:d? b s.heap it t i)(ht:jh b s.heap t items)(hx:items[i]?=some x)(hQ:∀h',d? b h' it t (i+1)->Heap.SameBut it s.heap h'->Q x {s with heap:=h'}):wpAny (model prog w) A (Builtin.SmallTypes.nextOf (.ref it)) Q E s:=by
 cases b with
 |true=>exact wpAny_nextOf_list_item hit ht hx hQ
 |false=>exact rf hit ht hx hQ
theorem pH{b:Bool}{t:_t}(hh:A.handled=none)(hit:d? b s.heap it t i)(ht:jh b s.heap t items)(hx:items[i]?=none)(hE:∀h' e,Heap.ExtBut it s.heap h'->(∃o,h'.get? e=some o/\o.cls=.type "StopIteration")->E (.ref e) {s with heap:=h'}):wpAny (model prog w) A (Builtin.SmallTypes.nextOf (.ref it)) Q E s:=by
 cases b with
 |true=>exact wpAny_nextOf_list_end hh hit ht hx hE
 |false=>exact uw hh hit ht hx hE
end
abbrev rh(b:Bool)(l:_t):Obj:={cls:=.type (match b with|true => "list_iterator"|false => "tuple_iterator"),data:=.fields #[.ref l,.int 0 0]}
section
variable{E:_i}
theorem d?.new(b:Bool){i:_t}(e:h.get? i=some (rh b l)):d? b h i l 0:=by
 cases b with
 |true=>exact⟨_,e,rfl,rfl⟩
 |false=>exact⟨_,e,rfl,rfl⟩
theorem rm{b:Bool}(h:jh b s.heap l xs)(hQ:Q (.ref s.heap.objs.size) {s with heap:=s.heap.push (rh b l)}):wpAny (model prog w) A (pyIter (.ref l)) Q E s:=by
 cases b with
 |true=>exact Yc h hQ
 |false=>exact Xw h hQ
theorem Jo{TI TO:_t}{x y a b:_r}(D:ZipApart z TI TO i1 i2 l1 l2)(hz:IsZip s.heap z TI TO .none)(vX:IsPair s.heap TI (.ref i1) (.ref i2))(xr:IsPair s.heap TO a b)(h1:d? b1 s.heap i1 l1 k1)(h2:d? b2 s.heap i2 l2 k2)(Io:jh b1 s.heap l1 xs)(EW:jh b2 s.heap l2 ys)(hx:xs[k1]?=some x)(hy:ys[k2]?=some y)
  (hQ:∀ h',IsZip h' z TI TO (rawInt s.heap.objs.size)->IsPair h' TO x y->d? b1 h' i1 l1 (k1+1)->d? b2 h' i2 l2 (k2+1)->IsPair h' s.heap.objs.size x y ->
   (∀c o,c≠z->c≠TO->c≠i1->c≠i2->s.heap.get? c=some o->h'.get? c=some o)->Q (.ref s.heap.objs.size) {s with heap:=h'}):
  wpAny (model prog w) A (Builtin.«zip.__next__» ⟨[.ref z],[]⟩) (fun fin s'=>∃v,fin=.done (.ret v)/\Q v s') E s:=by
 show wpAny _ _ (field (.ref z) 2 >>= _) _ _ _;refine Vn (Wi hz rfl (x:=.bool false) rfl ?_);show wpAny _ _ (field (.ref z) 3 >>= _) _ _ _;refine Vn (Wi hz rfl (x:=.ref TI) rfl (Vn (WV vX rfl ?_)));show wpAny _ _ (Builtin.SmallTypes.ownedTupleIsFree (.ref z) >>= _) _ _ _;refine Vn ?_;unfold Builtin.SmallTypes.ownedTupleIsFree;refine Vn (Wi hz rfl (x:=.none) rfl (VB ?_));simp only[Xz];refine Vn (X3 (Vn (Wi hz rfl (x:=.ref TO) rfl (Vn (Xd hz (by simp) fun g₁ pI s₁=>?_)))));replace pI:IsZip g₁ z TI TO .ellipsis:=pI;refine Vn ?_;simp only[List.zipIdx_cons,List.zipIdx_nil,List.forIn_cons,List.forIn_nil];refine Vn (Vn (Yf ?_));show wpAny _ _ (Builtin.SmallTypes.nextOf (.ref i1) >>= _) _ _ _;refine Vn (jK (b:=b1) (h1.keep fun o e=>s₁.extBut _ o D.i1z e) (Io.keep fun o e=>s₁.extBut _ o D.l1z e) hx fun g₂ q₁ s₂=>VB ?_);have t₂:IsPair g₂ TO a b:=s₂.extBut _ _ D.TOi1 (s₁.extBut _ _ D.TOz xr);refine Vn (WV t₂ rfl (Vn (Yx t₂ fun g₃ t₃ s₃=>?_)));replace t₃:IsPair g₃ TO x b:=t₃;refine Vn (wpAny_letGo (VB (Vn (Vn (Yf ?_)))));show wpAny _ _ (Builtin.SmallTypes.nextOf (.ref i2) >>= _) _ _ _;refine Vn (jK (b:=b2) (h2.keep fun o e=>s₃.extBut _ o D.TOi2.symm (s₂.extBut _ o D.i12.symm (s₁.extBut _ o D.i2z e))) (EW.keep fun o e=>s₃.extBut _ o D.l2TO (s₂.extBut _ o D.l2i1 (s₁.extBut _ o D.l2z e))) hy fun g₄ q₂ s₄=>VB ?_);have t₄:IsPair g₄ TO x b:=s₄.extBut _ _ D.TOi2 t₃;refine Vn (WV t₄ rfl (Vn (Yx t₄ fun g₅ t₅ s₅=>?_)));replace t₅:IsPair g₅ TO x y:=t₅;refine Vn (wpAny_letGo (VB (VB (Vn (WV t₅ rfl (Vn (wpAny_newTuple ?_)))))));have sz:g₅.objs.size=s.heap.objs.size:=by rw[s₅.1,s₄.1,s₃.1,s₂.1,s₁.1]
 have z₅:IsZip g₅ z TI TO .ellipsis:=s₅.extBut _ _ D.TOz.symm (s₄.extBut _ _ D.i2z.symm (s₃.extBut _ _ D.TOz.symm (s₂.extBut _ _ D.i1z.symm pI)));have kp:∀c o,c≠z->c≠TO->c≠i1->c≠i2->s.heap.get? c=some o->g₅.get? c=some o:=fun c o n1 n2 n3 n4 e=>s₅.extBut _ _ n2 (s₄.extBut _ _ n4 (s₃.extBut _ _ n2 (s₂.extBut _ _ n3 (s₁.extBut _ _ n1 e))));have p₁:d? b1 g₅ i1 l1 (k1+1):=q₁.keep fun o e=>s₅.extBut _ o D.TOi1.symm (s₄.extBut _ o D.i12 (s₃.extBut _ o D.TOi1.symm e));have p₂:d? b2 g₅ i2 l2 (k2+1):=q₂.keep fun o e=>s₅.extBut _ o D.TOi2.symm e;have zlt:z<g₅.objs.size:=VL z₅;show wpAny _ _ (Builtin.SmallTypes.ownedTupleHandOut (.ref z) (.ref g₅.objs.size) >>= _) _ _ _;refine Vn ?_;unfold Builtin.SmallTypes.ownedTupleHandOut;have z₆:IsZip (g₅.push {cls:=.type "tuple",data:=.seq #[x,y]}) z TI TO .ellipsis:=Vr _ z₅;refine Vn (Xd z₆ (by simp) fun g₇ z₇ s₇=>?_);replace z₇:IsZip g₇ z TI TO (rawInt g₅.objs.size):=z₇;refine Xd z₇ (by simp) fun g₈ z₈ s₈=>?_;replace z₈:IsZip g₈ z TI TO (rawInt g₅.objs.size):=z₈;have up:∀c o,c≠z->g₅.get? c=some o->g₈.get? c=some o:=fun c o n e=>s₈.extBut _ _ n (s₇.extBut _ _ n (Vr _ e));have t₈:IsPair g₈ g₅.objs.size x y:=s₈.extBut _ _ (Xj zlt) (s₇.extBut _ _ (Xj zlt) (VR _ rfl));rw[sz]at z₈ t₈;refine VB ⟨_,rfl,?_⟩;show Q (.ref g₅.objs.size) _;rw[sz];exact hQ g₈ z₈ (up _ _ D.TOz t₅) (p₁.keep fun o e=>up _ o D.i1z e) (p₂.keep fun o e=>up _ o D.i2z e) t₈ fun c o n1 n2 n3 n4 e=>up c o n1 (kp c o n1 n2 n3 n4 e)
theorem Nn{TI TO:_t}{a b:_r}{Q:Fin->_s->Prop}(hh:A.handled=none)(D:ZipApart z TI TO i1 i2 l1 l2)(hz:IsZip s.heap z TI TO .none)(vX:IsPair s.heap TI (.ref i1) (.ref i2))(xr:IsPair s.heap TO a b)(h1:d? b1 s.heap i1 l1 k1)(h2:d? b2 s.heap i2 l2 k2)(Io:jh b1 s.heap l1 xs)(EW:jh b2 s.heap l2 ys)(he:xs[k1]?=none\/ys[k2]?=none)(hE:∀h' e,(∀c o,c≠z->c≠TO->c≠i1->c≠i2->s.heap.get? c=some o->h'.get? c=some o)->(∃o,h'.get? e=some o/\o.cls=.type "StopIteration")->E (.ref e) {s with heap:=h'}):
  wpAny (model prog w) A (Builtin.«zip.__next__» ⟨[.ref z],[]⟩) Q E s:=by
 show wpAny _ _ (field (.ref z) 2 >>= _) _ _ _;refine Vn (Wi hz rfl (x:=.bool false) rfl ?_);show wpAny _ _ (field (.ref z) 3 >>= _) _ _ _;refine Vn (Wi hz rfl (x:=.ref TI) rfl (Vn (WV vX rfl ?_)));show wpAny _ _ (Builtin.SmallTypes.ownedTupleIsFree (.ref z) >>= _) _ _ _;refine Vn ?_;unfold Builtin.SmallTypes.ownedTupleIsFree;refine Vn (Wi hz rfl (x:=.none) rfl (VB ?_));simp only[Xz];refine Vn (X3 (Vn (Wi hz rfl (x:=.ref TO) rfl (Vn (Xd hz (by simp) fun g₁ pI s₁=>?_)))));replace pI:IsZip g₁ z TI TO .ellipsis:=pI;refine Vn ?_;simp only[List.zipIdx_cons,List.zipIdx_nil,List.forIn_cons,List.forIn_nil];refine Vn (Vn (Yf ?_));show wpAny _ _ (Builtin.SmallTypes.nextOf (.ref i1) >>= _) _ _ _;cases hx:xs[k1]? with
 |none=>
  refine Vn (pH (b:=b1) hh (h1.keep fun o e=>s₁.extBut _ o D.i1z e) (Io.keep fun o e=>s₁.extBut _ o D.l1z e) hx fun g₂ e s₂⟨oe,Ip,ce⟩=>?_);have z₂:IsZip g₂ z TI TO .ellipsis:=s₂ _ _ D.i1z.symm pI;have UH:e≠z:=fun q=>by subst q;rw[z₂]at Ip;cases Ip;simp at ce
  exact Xd z₂ (by simp) fun g₃ _ s₃=>hE g₃ e (fun c o n1 _ n3 _ q=>s₃.extBut _ _ n1 (s₂ _ _ n3 (s₁.extBut _ _ n1 q))) ⟨oe,s₃.extBut _ _ UH Ip,ce⟩
 |some x=>
  have hy:ys[k2]?=none:=by
   rcases he with q|q
   .rw[hx]at q;cases q
   .exact q
  refine Vn (jK (b:=b1) (h1.keep fun o e=>s₁.extBut _ o D.i1z e) (Io.keep fun o e=>s₁.extBut _ o D.l1z e) hx fun g₂ q₁ s₂=>VB ?_);have t₂:IsPair g₂ TO a b:=s₂.extBut _ _ D.TOi1 (s₁.extBut _ _ D.TOz xr);refine Vn (WV t₂ rfl (Vn (Yx t₂ fun g₃ t₃ s₃=>?_)));refine Vn (wpAny_letGo (VB (Vn (Vn (Yf ?_)))));show wpAny _ _ (Builtin.SmallTypes.nextOf (.ref i2) >>= _) _ _ _;refine Vn (pH (b:=b2) hh (h2.keep fun o e=>s₃.extBut _ o D.TOi2.symm (s₂.extBut _ o D.i12.symm (s₁.extBut _ o D.i2z e))) (EW.keep fun o e=>s₃.extBut _ o D.l2TO (s₂.extBut _ o D.l2i1 (s₁.extBut _ o D.l2z e))) hy fun g₄ e s₄⟨oe,Ip,ce⟩=>?_);have z₄:IsZip g₄ z TI TO .ellipsis:=s₄ _ _ D.i2z.symm (s₃.extBut _ _ D.TOz.symm (s₂.extBut _ _ D.i1z.symm pI));have UH:e≠z:=fun q=>by subst q;rw[z₄]at Ip;cases Ip;simp at ce
  exact Xd z₄ (by simp) fun g₅ _ s₅=>hE g₅ e (fun c o n1 n2 n3 n4 q=>s₅.extBut _ _ n1 (s₄ _ _ n4 (s₃.extBut _ _ n2 (s₂.extBut _ _ n3 (s₁.extBut _ _ n1 q))))) ⟨oe,s₅.extBut _ _ UH Ip,ce⟩
theorem CY{TI TO:_t}{x y a b:_r}{Q:_o->_s->Prop}(D:ZipApart z TI TO i1 i2 l1 l2)(hz:IsZip s.heap z TI TO .none)(vX:IsPair s.heap TI (.ref i1) (.ref i2))(xr:IsPair s.heap TO a b)(h1:d? b1 s.heap i1 l1 k1)(h2:d? b2 s.heap i2 l2 k2)(Io:jh b1 s.heap l1 xs)(EW:jh b2 s.heap l2 ys)(hx:xs[k1]?=some x)(hy:ys[k2]?=some y)
  (hQ:∀ h',IsZip h' z TI TO (rawInt s.heap.objs.size)->IsPair h' TO x y->d? b1 h' i1 l1 (k1+1)->d? b2 h' i2 l2 (k2+1)->IsPair h' s.heap.objs.size x y ->
   (∀c o,c≠z->c≠TO->c≠i1->c≠i2->s.heap.get? c=some o->h'.get? c=some o)->Q (some (.ref s.heap.objs.size)) {s with heap:=h'}):wpAny (model prog w) A (pyNext (.ref z)) Q E s:=by
 have tz:s.TypeIs (.ref z) "zip":=⟨_,hz,rfl⟩
 unfold pyNext;exact Vn (Yh (Wk (name:=Str.ofString "__next__") tz Yr
  (WI Yr tz F.entry_zip_next (Jo (b1:=b1) (b2:=b2) D hz vX xr h1 h2 Io EW hx hy fun h' a1 a2 a3 a4 a5 a6=>VB (hQ h' a1 a2 a3 a4 a5 a6)) (F.args_zip_next_1 _))))
theorem E6{TI TO:_t}{a b:_r}{Q:_o->_s->Prop}(hh:A.handled=none)(D:ZipApart z TI TO i1 i2 l1 l2)(hz:IsZip s.heap z TI TO .none)(vX:IsPair s.heap TI (.ref i1) (.ref i2))(xr:IsPair s.heap TO a b)(h1:d? b1 s.heap i1 l1 k1)(h2:d? b2 s.heap i2 l2 k2)(Io:jh b1 s.heap l1 xs)(EW:jh b2 s.heap l2 ys)(he:xs[k1]?=none\/ys[k2]?=none)(hQ:∀h',(∀c o,c≠z->c≠TO->c≠i1->c≠i2->s.heap.get? c=some o->h'.get? c=some o)->Q none {s with heap:=h'}):wpAny (model prog w) A (pyNext (.ref z)) Q E s:=by
 have tz:s.TypeIs (.ref z) "zip":=⟨_,hz,rfl⟩
 unfold pyNext;refine Vn (Yh (Wk (name:=Str.ofString "__next__") tz Yr
  (WI Yr tz F.entry_zip_next (Nn (b1:=b1) (b2:=b2) hh D hz vX xr h1 h2 Io EW he fun h' e hk he=>?_) (F.args_zip_next_1 _))))
 obtain⟨o,ho,hc⟩:=he;exact Vn (wpAny_isInstance (T:="StopIteration") (b:=true) ⟨o,ho,hc⟩ isSubtype_stop (VB (hQ _ hk)))
abbrev SU(b1:Bool)(h:Heap)(l1:_t):Heap:=h.push (rh b1 l1)
abbrev SV(b1 b2:Bool)(h:Heap)(l1 l2:_t):Heap:=(SU b1 h l1).push (rh b2 l2)
abbrev SW(b1 b2:Bool)(h:Heap)(l1 l2:_t):Heap:=(SV b1 b2 h l1 l2).push {cls:=.type "tuple",data:=.seq #[.ref h.objs.size,.ref (SU b1 h l1).objs.size]}
abbrev SX(b1 b2:Bool)(h:Heap)(l1 l2:_t):Heap:=(SW b1 b2 h l1 l2).push {cls:=.type "tuple",data:=.seq #[.none,.none]}
abbrev PJ(b1 b2:Bool)(h:Heap)(l1 l2:_t):Heap:=(SX b1 b2 h l1 l2).push {cls:=.type "zip",data:=.fields #[.none,.bool false,.bool false,.ref (SV b1 b2 h l1 l2).objs.size,.ref (SW b1 b2 h l1 l2).objs.size]}
theorem E7(b1 b2:Bool)(l1 l2:_t)(xs ys:Array _r):
  Meets (Builtin.«zip.__new__» ⟨[.type "zip",.ref l1,.ref l2],[]⟩) (fun _ R s=>jh b1 s.heap l1 xs/\jh b2 s.heap l2 ys/\R (.ok (.ret (.ref (SX b1 b2 s.heap l1 l2).objs.size))) {s with heap:=PJ b1 b2 s.heap l1 l2}):=
 .of_wp fun prog w A R s h=>by
  obtain⟨hp,g,d,tk,os⟩:=s;obtain⟨q1,q2,h⟩:=h;have Np:=sub_zip;have w1:jh b1 (Shared.heap ⟨hp,g,d,tk,os⟩) l1 xs:=q1;have w2:jh b2 (Shared.heap ⟨hp.push (rh b1 l1),g,d,tk,os⟩) l2 ys:=q2.keep fun o e=>Vr _ e
  wp_walk using rm w1,rm w2
  exact⟨_,rfl,h⟩
theorem E8(Io:jh b1 s.heap l1 xs)(EW:jh b2 s.heap l2 ys)
  (h:∀ h',IsZip h' (s.heap.objs.size+4) (s.heap.objs.size+2) (s.heap.objs.size+3) .none->IsPair h' (s.heap.objs.size+2) (.ref s.heap.objs.size) (.ref (s.heap.objs.size+1))->IsPair h' (s.heap.objs.size+3) .none .none ->
   d? b1 h' s.heap.objs.size l1 0->d? b2 h' (s.heap.objs.size+1) l2 0->(∀c o,s.heap.get? c=some o->h'.get? c=some o)->Q (.ref (s.heap.objs.size+4)) {s with heap:=h'}):
  wpAny (model prog w) A (call (.type "zip") [.ref l1,.ref l2]) Q E s:=by
 refine callType_new F.called_zip (by decide) (F.typeCall_zip_2 _ _) (F.newCall_zip_2 _ _) (fun obj=>F.args_object_init_3 obj _ _) F.entry_zip_new (E7 b1 b2 l1 l2 xs ys) ⟨Io,EW,?_⟩;have z1:(SU b1 s.heap l1).objs.size=s.heap.objs.size+1:=Xn ..;have z2:(SV b1 b2 s.heap l1 l2).objs.size=s.heap.objs.size+2:=by rw[Xn,z1]
 have z3:(SW b1 b2 s.heap l1 l2).objs.size=s.heap.objs.size+3:=by rw[Xn,z2]
 have z4:(SX b1 b2 s.heap l1 l2).objs.size=s.heap.objs.size+4:=by rw[Xn,z3]
 have g5:(PJ b1 b2 s.heap l1 l2).get? (SX b1 b2 s.heap l1 l2).objs.size=some _:=VR _ rfl;have g4:(PJ b1 b2 s.heap l1 l2).get? (SW b1 b2 s.heap l1 l2).objs.size=some _:=Vr _ (VR _ rfl);have g3:(PJ b1 b2 s.heap l1 l2).get? (SV b1 b2 s.heap l1 l2).objs.size=some _:=Vr _ (Vr _ (VR _ rfl));have g2:(PJ b1 b2 s.heap l1 l2).get? (SU b1 s.heap l1).objs.size=some (rh b2 l2):=Vr _ (Vr _ (Vr _ (VR _ rfl)));have g1:(PJ b1 b2 s.heap l1 l2).get? s.heap.objs.size=some (rh b1 l1):=Vr _ (Vr _ (Vr _ (Vr _ (VR _ rfl))));show _/\_;rw[z2,z3,z4]at g5;rw[z1,z2]at g3;rw[z3]at g4;rw[z1]at g2;rw[z4];exact⟨⟨_,g5,rfl⟩,h _ g5 g3 g4 (.new b1 g1) (.new b2 g2) fun c o x=>Vr _ (Vr _ (Vr _ (Vr _ (Vr _ x))))⟩
end
def z6(b:Bool)(K:_l)(H:Hp)(a:_t)(xs:List V):Prop:=match b with|true=>lY K H a xs|false=>kQ K H a xs
theorem aV.PL{b:Bool}{xs:List V}(I:aV X ai σ H s)(h:z6 b X.K H a xs):∃aM:_n,bN xs aM/\jh b s.heap a aM.toArray/\xs.length<=sizeLine:=by
 cases b with
 |true=>obtain⟨aM,r,p,z⟩:=I.list h;exact⟨aM,r,p.isList,z⟩
 |false=>obtain⟨aM,r,p,z⟩:=I.tuple h;exact⟨aM,r,p,z⟩
theorem aV.Bw{b:Bool}{xs ys:List V}(I:aV X ai σ H s)(h:z6 b X.K H a xs)(h':z6 b X.K H a ys):xs=ys:=by
 cases b with
 |true=>exact I.qJ h h'
 |false=>exact I.kR h h'
theorem aV.LH{b:Bool}{c:_t}{zs:List V}(I:aV X ai σ H s)(hs:z6 b X.K H l zs)(f:nW X ai H c):l≠c:=by
 intro q;have mo:∀o,X.K.lookup l=some o->False:=fun o hk=>by
  have e:=I.mod.Pz l o hk;rcases f.2.2.2.1 with z|z
  .exact I.ok.zM l o e (by rw[q];exact z)
  .exact absurd (VQ (VL (I.ok.bs l o e).1) (by rw[q];exact z)) (Wc _)
 have tr:∀o,H l=some o->False:=fun o e=>by rw[q,f.1]at e;cases e
 cases b with
 |true=>
  rcases(show lY X.K H l zs from hs) with(r|⟨o,r⟩)|⟨o,aM,n,hk,_⟩
  .exact tr _ r
  .exact tr _ r
  .exact mo o hk
 |false=>
  rcases(show kQ X.K H l zs from hs) with(r|⟨o,r⟩)|⟨o,aM,n,hk,_⟩
  .exact tr _ r
  .exact tr _ r
  .exact mo o hk
def Itz(K:_l)(b1 b2:Bool)(a b:_t):It:=
 ⟨fun i H=>∃xs ys x y,z6 b1 K H a xs/\z6 b2 K H b ys/\xs[i]?=some x/\ys[i]?=some y,
  fun i H v H'=>∃p x y,v=.ref p/\H p=none/\H'=upd H p (.tup [x,y])/\(∀xs,z6 b1 K H a xs->xs[i]?=some x)/\∀ys,z6 b2 K H b ys->ys[i]?=some y,
  fun i H=>∃xs ys,z6 b1 K H a xs/\z6 b2 K H b ys/\(xs.length<=i\/ys.length<=i)⟩
theorem E9{K:_l}{TI TO:_t}(a b:_t)(ne:z≠TI/\z≠TO/\z≠i1/\z≠i2/\TI≠TO/\TI≠i1/\TI≠i2/\TO≠i1/\TO≠i2/\i1≠i2):
  Turn P w K (.Tuple elts kt tp) (Itz K b1 b2 a b) [z,TI,TO,i1,i2] z (fun i h=>IsZip h z TI TO .none/\IsPair h TI (.ref i1) (.ref i2)/\(∃u v,IsPair h TO u v)/\d? b1 h i1 a i/\d? b2 h i2 b i) where
 mem:=by simp
 obj:=fun i h⟨hz,vX,⟨u,v,xr⟩,h1,h2⟩c hc=>by
  have d4:c=z\/c=TI\/c=TO\/c=i1\/c=i2:=by simpa using hc
  rcases d4 with rfl|rfl|rfl|rfl|rfl
  .exact⟨_,hz,fun v q=>by have q':Data.fields _=Data.cell v:=q;cases q'⟩
  .exact⟨_,vX,fun v q=>by have q':Data.seq _ _=Data.cell v:=q;cases q'⟩
  .exact⟨_,xr,fun v q=>by have q':Data.seq _ _=Data.cell v:=q;cases q'⟩
  .obtain⟨o,n,vs,e,_,d⟩:=h1.there;exact⟨o,e,fun v q=>by rw[d]at q;cases q⟩
  .obtain⟨o,n,vs,e,_,d⟩:=h2.there;exact⟨o,e,fun v q=>by rw[d]at q;cases q⟩
 keep:=fun i h h'⟨hz,vX,⟨u,v,xr⟩,h1,h2⟩k=>⟨k z (by simp) _ hz,k TI (by simp) _ vX,⟨u,v,k TO (by simp) _ xr⟩,h1.keep fun o e=>k i1 (by simp) o e,h2.keep fun o e=>k i2 (by simp) o e⟩
 item:=by
  intro X hP hw hK hc i ai s σ H E I hf st hg;subst hP hw hK;obtain⟨hz,vX,⟨u,v,xr⟩,h1,h2⟩:=st;obtain⟨xs,ys,x,y,sx,sy,ex,ey⟩:=hg;obtain⟨aM,rv,p,_⟩:=I.PL sx;obtain⟨fS,SY,p2,_⟩:=I.PL sy;obtain⟨ux,S0,rx⟩:=rv.get ex;obtain⟨uy,euy,ry⟩:=SY.get ey;obtain⟨n1,n2,n3,n4,n5,n6,n7,n8,n9,UI⟩:=ne;have fz:=hf z (by simp);have gM:∀{b:Bool}{l:_t}{zs:List V},z6 b X.K H l zs->∀c∈[z,TI,TO,i1,i2],l≠c:=fun{b l zs}hs c d4=>I.LH hs (hf c d4);have D:ZipApart z TI TO i1 i2 a b:=⟨n1.symm,n2.symm,n3.symm,n4.symm,n5,n6,n7,n8,n9,UI,gM sx z (by simp),gM sx TO (by simp),gM sx i1 (by simp),gM sx i2 (by simp),gM sy z (by simp),gM sy TO (by simp),gM sy i1 (by simp),gM sy i2 (by simp)⟩
  refine CY (b1:=b1) (b2:=b2) D hz vX xr h1 h2 p p2 (x:=ux) (y:=uy) (by simpa using S0) (by simpa using euy) fun h' a1 a2 a3 a4 a5 a6=>⟨_,rfl,?_⟩
  have hT:H s.heap.objs.size=none:=I.cW.fresh (Vv _);have Q7:∀c∈[z,TO,i1,i2],H c=none:=fun c d4=>(hf c (by simp at d4⊢;rcases d4 with q|q|q|q<;>simp[q])).1;have kp:∀c o,c ∉ [z,TO,i1,i2]->s.heap.get? c=some o->h'.get? c=some o:=fun c o d4 e=>a6 c o (fun q=>d4 (by simp[q])) (fun q=>d4 (by simp[q])) (fun q=>d4 (by simp[q])) (fun q=>d4 (by simp[q])) e;have xw:∀c o,H c=some o->c ∉ [z,TO,i1,i2]:=fun c o e d4=>by rw[Q7 c d4]at e;cases e
  have cW:jG X.prog X.w (upd H s.heap.objs.size (.tup [x,y])) h':=fun c o e=>by
   by_cases Q8:c=s.heap.objs.size
   .subst Q8;rw[c!]at e;cases e;exact⟨by show 2<=sizeLine;decide,[ux,uy],.cons rx (.cons ry .nil),_,a5,rfl,_,rfl⟩
   .rw[bK Q8]at e;refine(I.cW c o e).lW (fun d v hd q=>kp d v ?_ q) (fun d q=>by rw[bK (bL q hT)];exact q) fun d zs q=>by rw[bK (bL q hT)];exact q
    rcases hd with q'|q'
    .rw[q'];exact xw c o e
    .exact xw d _ q'
  have un:Un (fZ X.stack) [z,TO,i1,i2] H (upd H s.heap.objs.size (.tup [x,y])) s.heap h':=
   ⟨fun c o e n _ d4=>kp c o d4 e,fun c o e n _ d4=>⟨o.slots,kp c o d4 e⟩,fun c o e n d4=>by rw[bK (V7 (VL e))];exact n,fun c o e d4=>⟨o,kp c o d4 e⟩,
    fun c zs e=>by rw[bK (bL e hT)];exact e,fun c o u e=>by rw[bK (bL e hT)];exact e,fun c ps e=>⟨#[],by rw[bK (bL e hT),e];simp⟩⟩
  have I1:aV X ai σ (upd H s.heap.objs.size (.tup [x,y])) {s with heap:=h'}:=I.xx rfl un cW I.bare fun c d4=>by obtain⟨f0,f1,f2,f3,f4,f5⟩:=hf c (by simp at d4⊢;rcases d4 with q|q|q|q<;>simp[q]);exact⟨f3,f1,f4,f5⟩
  have UJ:∀c∈[z,TI,TO,i1,i2],c≠s.heap.objs.size:=fun c d4 q=>by
   have xN:c<s.heap.objs.size:=by
    have Nq:c=z\/c=TI\/c=TO\/c=i1\/c=i2:=by simpa using d4
    rcases Nq with r|r|r|r|r
    .rw[r];exact VL hz
    .rw[r];exact VL vX
    .rw[r];exact VL xr
    .obtain⟨o,_,_,e,_⟩:=h1.there;rw[r];exact VL e
    .obtain⟨o,_,_,e,_⟩:=h2.there;rw[r];exact VL e
   exact absurd xN (by rw[q];exact Wc _)
  have Iq:∀c∈[z,TI,TO,i1,i2],(upd H s.heap.objs.size (.tup [x,y])) c=none:=fun c d4=>by rw[bK (UJ c d4)];exact(hf c d4).1
  refine wpAny_letOwnedTupleGo_zip a1 fun Ee UK sb=>?_;obtain⟨f0,f1,f2,f3,f4,f5⟩:=fz;have I2:aV X ai σ (upd H s.heap.objs.size (.tup [x,y])) {s with heap:=Ee}:=I1.turned (s:={s with heap:=h'}) (t':=s.toks) (it:=z) (fun c o d4 e=>(sb.2 c d4).trans e) (Iq z (by simp)) f1 f3 f4 f5;refine⟨.ref s.heap.objs.size,_,I2,rfl,⟨_,x,y,rfl,hT,rfl,fun zs hs=>by rw[I.Bw hs sx];exact ex,fun zs hs=>by rw[I.Bw hs sy];exact ey⟩,⟨UK,?_,⟨_,_,sb.extBut _ _ n2.symm a2⟩,a3.keep fun o e=>sb.extBut _ o n3.symm e,a4.keep fun o e=>sb.extBut _ o n4.symm e⟩,Iq⟩;exact sb.extBut _ _ n1.symm (a6 _ _ n1.symm n5 n6 n7 vX)
 done:=by
  intro X hP hw hK hc i ai s σ H E I hf st hg;subst hP hw hK;obtain⟨hz,vX,⟨u,v,xr⟩,h1,h2⟩:=st;obtain⟨xs,ys,sx,sy,hl⟩:=hg;obtain⟨aM,rv,p,_⟩:=I.PL sx;obtain⟨fS,SY,p2,_⟩:=I.PL sy;have l1:=rv.length;have l2:=SY.length;obtain⟨n1,n2,n3,n4,n5,n6,n7,n8,n9,UI⟩:=ne;have gM:∀{b:Bool}{l:_t}{zs:List V},z6 b X.K H l zs->∀c∈[z,TI,TO,i1,i2],l≠c:=fun{b l zs}hs c d4=>I.LH hs (hf c d4);have D:ZipApart z TI TO i1 i2 a b:=⟨n1.symm,n2.symm,n3.symm,n4.symm,n5,n6,n7,n8,n9,UI,gM sx z (by simp),gM sx TO (by simp),gM sx i1 (by simp),gM sx i2 (by simp),gM sy z (by simp),gM sy TO (by simp),gM sy i1 (by simp),gM sy i2 (by simp)⟩
  refine E6 (b1:=b1) (b2:=b2) (I.ok.hd hc) D hz vX xr h1 h2 p p2 (by rcases hl with q|q;exact .inl (by simp;lia);exact .inr (by simp;lia)) fun h' a6=>⟨rfl,?_⟩
  have Q7:∀c∈[z,TO,i1,i2],H c=none:=fun c d4=>(hf c (by simp at d4⊢;rcases d4 with q|q|q|q<;>simp[q])).1;have kp:∀c o,c ∉ [z,TO,i1,i2]->s.heap.get? c=some o->h'.get? c=some o:=fun c o d4 e=>a6 c o (fun q=>d4 (by simp[q])) (fun q=>d4 (by simp[q])) (fun q=>d4 (by simp[q])) (fun q=>d4 (by simp[q])) e;have xw:∀c o,H c=some o->c ∉ [z,TO,i1,i2]:=fun c o e d4=>by rw[Q7 c d4]at e;cases e
  have cW:jG X.prog X.w H h':=fun c o e=>by
   refine(I.cW c o e).lW (fun d v hd q=>kp d v ?_ q) (fun d q=>q) fun d zs q=>q;rcases hd with q'|q'
   .rw[q'];exact xw c o e
   .exact xw d _ q'
  have un:Un (fZ X.stack) [z,TO,i1,i2] H H s.heap h':=
   ⟨fun c o e n _ d4=>kp c o d4 e,fun c o e n _ d4=>⟨o.slots,kp c o d4 e⟩,fun c o e n d4=>n,fun c o e d4=>⟨o,kp c o d4 e⟩,fun c zs e=>e,fun c o u e=>e,fun c ps e=>⟨#[],by rw[e];simp⟩⟩
  exact I.xx rfl un cW I.bare fun c d4=>by obtain⟨f0,f1,f2,f3,f4,f5⟩:=hf c (by simp at d4⊢;rcases d4 with q|q|q|q<;>simp[q]);exact⟨f3,f1,f4,f5⟩
 self:=fun _ _ _ _ _ st h=>wpAny_pyIter_zip st.1 h
def UL(K:_l)(b1 b2:Bool)(ta:TA):TI:=fun σ H R=>ta σ H fun vs H1=>∃a b,vs=[.ref a,.ref b]/\(∃xs,z6 b1 K H1 a xs)/\(∃ys,z6 b2 K H1 b ys)/\R (Itz K b1 b2 a b) H1
theorem Nr(b1 b2:Bool){ea eb:Expr}{ta:TA}(hg:Gl X "zip")(hm:X.mg "zip" = none)(ha:PA X [ea,eb] ta)(hs:starEach [ea,eb] X.env=[(false,eval ea X.env),(false,eval eb X.env)]:=by rfl)(fq:starEach [eb] X.env=[(false,eval eb X.env)]:=by rfl):
  PI X (.Tuple elts kt tp) (.Call (.Name "zip" p) [ea,eb] [] pos) (UL X.K b1 b2 ta):=by
 intro ai s σ H R I h;refine Call_ (kf I hg hm boot_zip (WY (cR (ha pos ai s σ H _ I h) fun us s1⟨vs,H1,I1,r1,q1⟩=>?_) (by rw[hs,fq]) (by rw[fq];rfl)));obtain⟨a,b,e,⟨xs,sx⟩,⟨ys,sy⟩,q⟩:=q1;subst e;obtain⟨u,u2,rfl,ru,Q9⟩:=vals2 r1;cases ru;cases Q9;obtain⟨aM,rv,p1,_⟩:=I1.PL sx;obtain⟨fS,SY,p2,_⟩:=I1.PL sy;refine E8 (b1:=b1) (b2:=b2) p1 p2 fun h' hz vX xr g1 g2 kp=>wpAny_pyIter_zip hz ?_;have I2:aV X ai σ H1 {s1 with heap:=h'}:=I1.kept (t':=s1.toks) kp;refine⟨_,[s1.heap.objs.size+4,s1.heap.objs.size+2,s1.heap.objs.size+3,s1.heap.objs.size,s1.heap.objs.size+1],_,_,H1,rfl,I2,E9 (b1:=b1) (b2:=b2) a b ?_,⟨hz,vX,⟨_,_,xr⟩,g1,g2⟩,fun c hc=>?_,q⟩
 .refine⟨?_,?_,?_,?_,?_,?_,?_,?_,?_,?_⟩<;>(intro z;have z':(_:Nat)=_:=z;lia)
 .have hle:s1.heap.objs.size<=c:=by
   have d4:c=s1.heap.objs.size+4\/c=s1.heap.objs.size+2\/c=s1.heap.objs.size+3\/c=s1.heap.objs.size\/c=s1.heap.objs.size+1:=by simpa using hc
   rcases d4 with r|r|r|r|r<;>(rw[r];first|exact Vv _|exact YE _ _)
  exact I1.CG hle (I1.cW.fresh hle)
theorem dk.there{o:HO}(x:dk P w H h a o):∃ob,h.get? a=some ob:=by
 cases o with
 |lst xs=>obtain⟨_,_,_,_,e⟩:=x;exact⟨_,e⟩
 |tup xs=>obtain⟨_,_,_,ob,e,_⟩:=x;exact⟨_,e⟩
 |dK aX=>obtain⟨_,_,_,_,o,_,_,e,_⟩:=x;exact⟨_,e⟩
 |dT aX=>obtain⟨_,_,_,_,o,_,_,e,_⟩:=x;exact⟨_,e⟩
 |set S n=>obtain⟨o,_,_,_,e,_⟩:=x;exact⟨_,e⟩
 |ins C dx fs=>obtain⟨_,_,_,e,_⟩:=x;exact⟨_,e⟩
 |own y=>obtain⟨_,e⟩:=x;exact⟨_,e⟩
 |xd fs=>obtain⟨_,⟨_,_,_,e,_⟩,_⟩:=x;exact⟨_,e⟩
 |SD lo hi=>obtain⟨_,_,_,e⟩:=x;exact⟨_,e⟩
 |lV ob u=>obtain⟨e,_⟩:=x;exact⟨_,e⟩
 |Ii ps=>exact⟨_,(show h.get? a=some _ from x)⟩
 |met f y=>exact⟨_,(show h.get? a=some _ from x)⟩
 |ext φ=>obtain⟨_,e,_⟩:=x;exact e
structure Fly(P:_v)(w:World)(l:List Env)(H H':Hp)(s s':_s)(ea:_t)(cls:_r):Prop where
 os:s'.os=s.os
 bare:AllBare s'.gens
 un:Un (fZ l) [] H H' s.heap s'.heap
 cW:jG P w H' s'.heap
 fl:∃(B:Heap)(t:_t),Heap.FlyingW B l ea cls (.ref t) s'.heap/\(∀b,H' b≠none->∃o,B.get? b=some o)/\(∀b o,s.heap.get? b=some o->b ∉ fZ l->∃o',B.get? b=some o')
def lI(P:_v)(w:World):Bk:=fun outer H s E e s'=>∃ea cls H',e=.ref ea/\Fly P w outer H H' s s' ea cls/\E cls none H'
section
variable{K:_l}{mg:_j}{base:Heap}{qual:Str}{scope:Scope}{cd:_r}{outer:List Env}
theorem km{env:Env}{L:_t}(hf:env.frame=some L)(l:List Env):fZ (env::l)=L::fZ l:=by unfold fZ;rw[WO,hf]
theorem CZ{e:_t}(I:aV (hV (lI P w) P w K mg base N qual scope f cd A outer s₀ H₀ E) ai σ H s)(hx:Heap.MadeExcOf s.heap h' e cls vs)(hE:E cls none H):(hV (lI P w) P w K mg base N qual scope f cd A outer s₀ H₀ E).xe (.ref e) {s with heap:=h'}:=by
 have Ik:=I.stack;have Bg:=I.qq;have Nt:(A.deeper (envOfC qual scope s₀.heap.objs.size f cd)).frames=some (envOfC qual scope s₀.heap.objs.size f cd::outer):=I.ok.frames;have LJ:fZ (envOfC qual scope s₀.heap.objs.size f cd::outer)=s₀.heap.objs.size::fZ outer:=km rfl outer;have LK:∀env∈(envOfC qual scope s₀.heap.objs.size f cd::outer),∀b,env.frame=some b->b∈fZ (envOfC qual scope s₀.heap.objs.size f cd::outer):=fun env he b hb=>XI.mpr ⟨env,he,hb⟩;have Ef:∀b o,s₀.heap.get? b=some o->b ∉ fZ outer->b ∉ fZ (envOfC qual scope s₀.heap.objs.size f cd::outer):=fun b o q hb hm=>by
  rw[LJ]at hm;rcases VJ.mp hm with z|z
  .exact absurd (VL q) (by rw[z];exact Wc _)
  .exact hb z
 refine wpAny_leaves_madeW (base:=W.hideAll s.heap (fZ (envOfC qual scope s₀.heap.objs.size f cd::outer))) (h:=s.heap) Nt rfl (fun b o q=>ZK _ q) (W.funFrames_hide Ik LK) hx fun Ee t fl _ _ up=>?_;have stays:∀b o,s.heap.get? b=some o->b ∉ fZ (envOfC qual scope s₀.heap.objs.size f cd::outer)->Ee.get? b=some o:=fun b o q hb=>fl.1 b o (XJ _ q hb);have xw:∀b u,H b=some u->b ∉ fZ (envOfC qual scope s₀.heap.objs.size f cd::outer):=fun b u q hb=>by rw[Bg b hb]at q;cases q
 have slot:∀b o,s₀.heap.get? b=some o->H₀ b=none->b∈fZ outer->∃sl,Ee.get? b=some {o with slots:=sl}:=fun b o q n hb=>by obtain⟨sl,e1⟩:=I.base.slot b o q n hb (by intro z;cases z);obtain⟨_,o',pD,Bx⟩:=Ik.mem (show b∈fZ (envOfC qual scope s₀.heap.objs.size f cd::outer) by rw[LJ];exact Vq _ hb);rw[e1]at pD;cases pD;obtain⟨IA,e2⟩:=up b _ (hx.keeps _ _ e1) Bx;exact⟨IA,e2⟩
 have nil:∀b:_t,b ∉ (hV (lI P w) P w K mg base N qual scope f cd A outer s₀ H₀ E).ex:=fun b z=>by cases z
 refine⟨e,cls,H,rfl,⟨I.os,I.bare,⟨fun b o q n hb _=>stays b o (I.base.keep b o q n hb (nil b)) (Ef b o q hb),fun b o q n hb _=>slot b o q n hb,fun b o q n _=>I.base.free b o q n (nil b),fun b o q _=>?_,I.base.jH,I.base.ju,I.base.j9⟩,fun b u q=>?_,W.hideAll s.heap (fZ (envOfC qual scope s₀.heap.objs.size f cd::outer)),t,fl,fun b hb=>?_,fun b o q hb=>?_⟩,hE⟩
 .by_cases hb:b∈fZ outer
  .obtain⟨sl,e1⟩:=slot b o q (I.ok.Es b hb) hb;exact⟨_,e1⟩
  .obtain⟨o',e1⟩:=I.base.there b o q (nil b);exact⟨o',stays b o' e1 (Ef b o q hb)⟩
 .refine(I.cW b u q).lW (fun c v hc z=>stays c v z ?_) (fun _ z=>z) fun _ _ z=>z;rcases hc with z'|z'
  .rw[z'];exact xw b u q
  .exact xw c _ z'
 .cases q:H b with
  |none=>exact absurd q hb
  |some u=>
   obtain⟨o,e1⟩:=(I.cW b u q).there;exact⟨o,XJ _ e1 (xw b u q)⟩
 .obtain⟨o',e1⟩:=I.base.there b o q (nil b);exact⟨o',XJ _ e1 (Ef b o q hb)⟩
theorem E_:Passes (lI P w) (hV (lI P w) P w K mg base N qual scope f cd A outer s₀ H₀ E) E:=by
 rintro ai σ H s e s' I ⟨ea,cls,H',rfl,Z,hE⟩;obtain⟨B,t,fl,ct,cs⟩:=Z.fl;have Nt:(A.deeper (envOfC qual scope s₀.heap.objs.size f cd)).frames=some (envOfC qual scope s₀.heap.objs.size f cd::outer):=I.ok.frames;have LJ:fZ (envOfC qual scope s₀.heap.objs.size f cd::outer)=s₀.heap.objs.size::fZ outer:=km rfl outer;have Ef:∀b o,s₀.heap.get? b=some o->b ∉ fZ outer->b ∉ fZ (envOfC qual scope s₀.heap.objs.size f cd::outer):=fun b o q hb hm=>by
  rw[LJ]at hm;rcases VJ.mp hm with z|z
  .exact absurd (VL q) (by rw[z];exact Wc _)
  .exact hb z
 have sub:∀b,b∈fZ outer->b∈fZ (envOfC qual scope s₀.heap.objs.size f cd::outer):=fun b hb=>by rw[LJ];exact Vq _ hb
 have nil:∀b:_t,b ∉ (hV (lI P w) P w K mg base N qual scope f cd A outer s₀ H₀ E).ex:=fun b z=>by cases z
 refine wpAny_leaves_onW Nt rfl fl fun Ee Nu up=>?_;have z7:∀b o,s'.heap.get? b=some o->(∃o',B.get? b=some o')->Ee.get? b=some o:=fun b o q⟨o',z⟩=>by have q':=fl.1 b o' z;rw[q]at q';cases q';exact Nu.1 b o z
 have slot:∀b o,s₀.heap.get? b=some o->H₀ b=none->b∈fZ outer->∃sl,Ee.get? b=some {o with slots:=sl}:=fun b o q n hb=>by obtain⟨sl,e1⟩:=I.base.slot b o q n hb (nil b);obtain⟨MZ,e2⟩:=Z.un.slot b _ e1 (I.base.free b o q n (nil b)) (sub b hb) (by intro z;cases z);obtain⟨_,o',pD,Bx⟩:=fl.2.2.1.mem (sub b hb);rw[e2]at pD;cases pD;obtain⟨IA,e3⟩:=up b _ e2 Bx;exact⟨IA,e3⟩
 refine⟨ea,cls,H',rfl,⟨Z.os.trans I.os,Z.bare,⟨fun b o q n hb _=>?_,fun b o q n hb _=>slot b o q n hb,fun b o q n _=>?_,fun b o q _=>?_,fun b xs q=>Z.un.jH b xs (I.base.jH b xs q),fun b o u q=>Z.un.ju b o u (I.base.ju b o u q),fun b ps q=>?_⟩,fun b u q=>?_,B,t,Nu,ct,fun b o q hb=>?_⟩,hE⟩
 .have e1:=I.base.keep b o q n hb (nil b);have n1:=I.base.free b o q n (nil b);have nf:=Ef b o q hb;exact z7 b o (Z.un.keep b o e1 n1 nf (by intro z;cases z)) (cs b o e1 nf)
 .obtain⟨o',e1⟩:=I.base.there b o q (nil b);exact Z.un.free b o' e1 (I.base.free b o q n (nil b)) (by intro z;cases z)
 .by_cases hb:b∈fZ outer
  .obtain⟨sl,e1⟩:=slot b o q (I.ok.Es b hb) hb;exact⟨_,e1⟩
  .obtain⟨o',e1⟩:=I.base.there b o q (nil b);obtain⟨o2,e2⟩:=cs b o' e1 (Ef b o q hb);exact⟨o2,Nu.1 b o2 e2⟩
 .obtain⟨m1,e1⟩:=I.base.j9 b ps q;obtain⟨m2,e2⟩:=Z.un.j9 b _ e1;exact⟨m1++m2,by rw[e2,Yb]⟩
 .refine(Z.cW b u q).lW (fun c v hc z=>z7 c v z (ct c ?_)) (fun _ z=>z) fun _ _ z=>z;rcases hc with z'|z'
  .rw[z',q];simp
  .rw[z'];simp
 .obtain⟨o',e1⟩:=I.base.there b o q (nil b);exact cs b o' e1 (Ef b o q hb)
theorem Jf.okX{x:Str}{st:Stmt}{fd:FuncData}{ps:_q}{k:Nat}(F:Jf K x qual st f fd)(S:iW N ps (bW st))(len:∀vs H Q E,sp vs H Q E->vs.length=ps.length)
  (EO:∀ (iw:_r) (A:_u) (outer:List Env) (s:_s) (H:Hp) (vs:List V) (Q:VK) (E:XK),gL k (A.deeper (envOfC qual (bW st) s.heap.objs.size f iw))->sp vs H Q E ->
   ∃t,j' (hV (lI P w) P w K mg base N qual (bW st) f iw A outer s H E) (fM st) t/\t {nx:=fun _ H'=>Q .cO H',rt:=Q} (start N vs) H):kg P w K mg base (lI P w) (k+1) f fd ps sp:=by
 obtain⟨oc,od,kV,doc,pm,an,iw,ct,Il,rfl,lk,zN⟩:=F.ex;exact QG lk zN S len fun A outer s H vs Q E hr Lz=>EO iw A outer s H vs Q E hr Lz
end
theorem C0{K:_l}{mg:_j}{x:Str}{bmB:_n}(X:K.In h)(hb:mg x=some (.ref C))(q:W.excIn K C bmB newId=true):OwnCls x C bmB newId mg h:=by
 refine⟨hb,?_⟩;unfold W.excIn at q;split at q
 .rename_i dd cd sl ho;split at q
  .rename_i C' bm k0 k1 k2 k3 n k5 hm hs;simp only[V4,WT,XX]at q;obtain⟨⟨⟨⟨⟨rfl,rfl⟩,Q_⟩,ht⟩,cW⟩,S1⟩:=q;obtain⟨nm,bs,mro,ns,qn,hd,sn,sub,ab,col,del⟩:=cd;dsimp only at hm Q_ cW S1;subst hm Q_;have hsl:sl = #[k0,k1,k2,k3,some (.builtin n),k5]:=by obtain⟨l⟩:=sl;simp only at hs;rw[hs]
   subst hsl;exact⟨bm,ns,nm,qn,bs,hd,sn,sub,ab,col,dd,k0,k1,k2,k3,k5,_,X _ _ ho,.of_isNs (W.isNs_of_in X cW),W.nsMap_none_of_in X cW S1,W.tail_of_in X ht⟩
  .cases q
 .cases q
def Nv(E:XK)(C:_t)(t:TA):TS:=fun _ σ H=>t σ H fun vs H1=>vs.length<=sizeLine/\E (.ref C) none H1
def Raises(X:Cx)(E:XK):Prop:=∀(ai:_k)(σ:St)(H:Hp)(s:_s)(h':Heap)(e:_t)(cls:_r)(vs:_n),aV X ai σ H s->Heap.MadeExcOf s.heap h' e cls vs->E cls none H->X.xe (.ref e) {s with heap:=h'}
theorem E!{x:Str}{B z8:String}{bm:_n}{rest:List Expr}{t:TA}(hX:Raises X E)(hc:X.calm=true)(hm:X.mg x=some (.ref C))(hq:W.excIn X.K C bm newId=true)(FB:ExcBaseFacts B newId z8 bm)(hg:Gl X x)(ha:PA X (e₀::rest) t)(he:starEach (e₀::rest) X.env=(false,eval e₀ X.env)::starEach rest X.env:=by rfl)(kT:(backTo b8 (starEach rest X.env)).any (·.1)=false:=by rfl)(hd:(x==("__debug__":Str))=false:=by decide):
  PS X (.Raise (some (.Call (.Name x np) (e₀::rest) [] b8)) none pos) (Nv E C t):=by
 intro ai s σ H D I h;obtain⟨tl,NS,nm,q,bs,hdct,sn,sub,ab,col,dd,k0,k1,k2,k3,k5,mN,hC,hN,S1,T⟩:=(C0 I.mod.Pz hm hq).obj;refine wpAny_Raise_call_subT (C:=C) (nm:=nm) (q:=q) (N:=NS) (bs:=bs) (bm:=tl) (hdct:=hdct) (sn:=sn) (sub:=sub) (ab:=ab) (col:=col) (dd:=dd) (k0:=k0) (k1:=k1) (k2:=k2) (k3:=k3) (k5:=k5)
  FB (mN:=mN) (T.hasType FB.hasBase) (I.ok.hd hc) (by rw[he];show(false || (backTo b8 (starEach rest X.env)).any (·.1))=false;rw[kT];rfl) S1 (kP I hg hm ⟨rfl,?_⟩ hd)
 have hA:=ha b8 ai s σ H _ I h;rw[he]at hA⊢;exact Yz (cR hA fun us s2⟨vs,H2,I2,r2,z,q2⟩=>⟨rfl,by rw[<-r2.length];exact z,I2.bk _ _ hC,hN.keeps I2.bk,T.keeps I2.bk,fun h' e S2=>hX ai σ H2 s2 h' e _ _ I2 S2 q2⟩)
structure DefX(X:Cx):Prop where
 fn:∀y,X.fn y=true
 Ep:X.stack=X.env::X.outer
 fr:X.env.frame=some X.env.locals
structure xO(X:Cx)(ai:_k)(σ:St)(H:Hp)(s:_s)(ea:_t)(cls:_r):Prop where
 inv:aV X ai σ H s
 fl:∃(B:Heap)(t:_t),Heap.FlyingW B X.stack ea cls (.ref t) s.heap/\(∀b,H b≠none->∃o,B.get? b=some o)/\(∀b o,X.s₀.heap.get? b=some o->b ∉ fZ X.stack->b ∉ X.ex->∃o',B.get? b=some o')/\(∀p∈X.pn++ai,∃o',B.get? p.1=some o')/\(∀x c,X.env.cells.lookup x=some c->∃o,B.get? c=some o)
theorem aV.Jp(I:aV X ai σ H s){b:_t}(h1:b≠X.env.locals)(h2:b ∉ X.fs):b ∉ fZ X.stack:=fun z=>(VJ.mp (I.nU b z)).elim h1 h2
theorem aV.slots{B h':Heap}(I:aV X ai σ H s)(sB:B.StaysIn s.heap)(c1:∀b,H b≠none->∃o,B.get? b=some o)(c2:∀b o,X.s₀.heap.get? b=some o->b ∉ fZ X.stack->b ∉ X.ex->∃o',B.get? b=some o')(c3:∀p∈X.pn++ai,∃o',B.get? p.1=some o')(c4:∀x c,X.env.cells.lookup x=some c->∃o,B.get? c=some o)(k1:B.StaysIn h')(k2:s.heap.UpToSlots h'):aV X ai σ H {s with heap:=h'}:=by
 have z7:∀b o,s.heap.get? b=some o->(∃o',B.get? b=some o')->h'.get? b=some o:=fun b o q⟨o',z⟩=>by have q':=sB b o' z;rw[q]at q';cases q';exact k1 b o z
 have Et:∀b o,X.s₀.heap.get? b=some o->b≠X.env.locals:=fun b o e=>V7 (VQ (VL e) I.ok.above);have slot:∀b o,X.s₀.heap.get? b=some o->X.H₀ b=none->b∈X.fs->b ∉ X.ex->∃sl,h'.get? b=some {o with slots:=sl}:=fun b o q n hb hx=>by obtain⟨sl,e1⟩:=I.base.slot b o q n hb hx;obtain⟨_,o',pD,Bx⟩:=I.lX.mem hb;rw[e1]at pD;cases pD;obtain⟨IA,e2⟩:=k2 b _ e1 Bx;exact⟨IA,e2⟩
 refine⟨I.ok,I.os,I.bare,⟨fun b o q n hb hx=>?_,slot,I.base.free,fun b o q hx=>?_,I.base.jH,I.base.ju,I.base.j9⟩,?_,fun x c e=>?_,I.free,I.iV,fun p hp=>?_,fun b u q=>?_,I.len⟩
 .exact z7 b o (I.base.keep b o q n hb hx) (c2 b o q (I.Jp (Et b o q) hb) hx)
 .by_cases hb:b∈X.fs
  .obtain⟨sl,e1⟩:=slot b o q (I.ok.Es b hb) hb hx;exact⟨_,e1⟩
  .obtain⟨o',e1⟩:=I.base.there b o q hx;exact⟨o',z7 b o' e1 (c2 b o q (I.Jp (Et b o q) hb) hx)⟩
 .obtain⟨m,hn,hl⟩:=I.loc;refine⟨m,k2.ns hn,fun i x v e1 e2 e3=>?_⟩;obtain⟨u,r,l⟩:=hl i x v e1 e2 e3;refine⟨u,r,?_⟩;rcases l with l|⟨k,c,e,o,ho,hd⟩
  .exact .inl l
  .exact .inr ⟨k,c,e,o,z7 c o ho (c4 x c e),hd⟩
 .obtain⟨v,o,ho,hd⟩:=I.cell x c e;exact⟨v,o,z7 c o ho (c4 x c e),hd⟩
 .obtain⟨e,n,ne,nf,d⟩:=I.pin p hp;exact⟨z7 p.1 p.2 e (c3 p hp),n,ne,nf,d⟩
 .refine(I.cW b u q).lW (fun c v hc z=>z7 c v z (c1 c ?_)) (fun _ z=>z) fun _ _ z=>z;rcases hc with z'|z'
  .rw[z',q];simp
  .rw[z'];simp
theorem xO.slots(J:xO X ai σ H s ea cls):∃(B:Heap)(t:_t),Heap.FlyingW B X.stack ea cls (.ref t) s.heap/\H ea=none/\∀h',Heap.FlyingW B X.stack ea cls (.ref t) h'->s.heap.UpToSlots h'->xO X ai σ H {s with heap:=h'} ea cls:=by
 obtain⟨B,t,fl,c1,c2,c3,c4⟩:=J.fl;refine⟨B,t,fl,?_,fun h' f2 up=>⟨J.inv.slots fl.1 c1 c2 c3 c4 f2.1 up,B,t,f2,c1,c2,c3,c4⟩⟩;cases q:H ea with
 |none=>rfl
 |some u=>
  obtain⟨o,e⟩:=c1 ea (by rw[q];simp);rw[fl.2.1]at e;cases e
theorem aV.flew(I:aV X ai σ H s)(Ew:∀y,X.fn y=true)(Z:Fly X.prog X.w X.stack H H' s s' ea cls):xO X ai σ H' s' ea cls:=by
 obtain⟨B,t,fl,ct,cs⟩:=Z.fl;have cl:∀x c,X.env.cells.lookup x=some c->c ∉ fZ X.stack:=fun x c e=>I.Jp (I.Ij x c e) fun hb=>by obtain⟨_,o,ho,_⟩:=I.ok.lX.mem hb;exact absurd (VQ (VL ho) (I.ok.Mi x c (Ew x) e)) (Wc _)
 refine⟨I.xx Z.os Z.un Z.cW Z.bare fun b z=>absurd z (by simp),B,t,fl,ct,fun b o q hb hx=>?_,fun p hp=>?_,fun x c e=>?_⟩
 .obtain⟨o',e1⟩:=I.base.there b o q hx;exact cs b o' e1 hb
 .obtain⟨e,n,ne,nf,d⟩:=I.pin p hp;exact cs p.1 p.2 e (I.Jp ne nf)
 .obtain⟨v,o,ho,_⟩:=I.cell x c e;exact cs c o ho (cl x c e)
abbrev EK:=_r->_t->St->Hp->Prop
abbrev EH:=_r->_t->Hp->Prop
abbrev Jq:=St->Hp->VK->EH->Prop
abbrev Jr:=St->Hp->(List V->Hp->Prop)->EH->Prop
abbrev Nw:=Ends->EK->St->Hp->Prop
def XP(X:Cx)(ai:_k)(EX:EK)(e:_r)(s':_s):Prop:=∃ea cls σ' H',e=.ref ea/\xO X ai σ' H' s' ea cls/\EX cls ea σ' H'
abbrev atS(σ:St)(EX:EH):EK:=fun cls ea σ' H'=>σ'=σ/\EX cls ea H'
def u3(X:Cx)(e:Expr)(t:Jq):Prop:=
 ∀(ai:_k)(s:_s)(σ:St)(H:Hp)(Q:VK)(EX:EH),aV X ai σ H s->t σ H Q EX->wpAny (model X.prog X.w) X.A (eval e X.env) (EP X ai σ Q) (XP X ai (atS σ EX)) s
def C1(X:Cx)(es:List Expr)(t:Jr):Prop:=
 ∀(pos:Pos)(ai:_k)(s:_s)(σ:St)(H:Hp)(Q:List V->Hp->Prop)(EX:EH),aV X ai σ H s->t σ H Q EX->wpAny (model X.prog X.w) X.A (spliced (backTo pos (starEach es X.env))) (AP X ai σ Q) (XP X ai (atS σ EX)) s
def Eg(X:Cx)(st:Stmt)(t:Nw):Prop:=
 ∀(ai:_k)(s:_s)(σ:St)(H:Hp)(D:Ends)(EX:EK),aV X ai σ H s->t D EX σ H->wpAny (model X.prog X.w) X.A (exec st X.env) (SP X ai D) (XP X ai EX) s
def C2(X:Cx)(st:List Stmt)(t:Nw):Prop:=
 ∀(ai:_k)(s:_s)(σ:St)(H:Hp)(D:Ends)(EX:EK),aV X ai σ H s->t D EX σ H->wpAny (model X.prog X.w) X.A (execs st X.env) (SP X ai D) (XP X ai EX) s
theorem Nx{t:TE}(h:∀W,PE (X.mP W) e t):u3 X e (fun σ H Q _=>t σ H Q):=fun ai s σ H Q EX I hw=>
 cR (h (XP X ai (atS σ EX)) ai s σ H Q (I.mP _) hw) fun _ _⟨v,H',I',r,q⟩=>⟨v,H',I'.qK,r,q⟩
theorem XP.at{EX:EK}{e:_r}(h:XP X ai (atS σ fun cls ea H'=>EX cls ea σ H') e s'):XP X ai EX e s':=by obtain⟨ea,cls,σ',H',rfl,J,rfl,q⟩:=h;exact⟨ea,cls,_,H',rfl,J,q⟩
def Ny(sp:Sp)(t:TA):Jq:=fun σ H Q EX=>t σ H fun vs H1=>sp vs H1 Q fun cls _ H'=>∀ea,EX cls ea H'
theorem E?{k:Nat}{fd:FuncData}{ps:_q}{x:Str}{t:TA}(F:kg X.prog X.w X.K X.mg X.base (lI X.prog X.w) k f fd ps sp)(hr:gL k X.A)(hg:Gl X x)(hm:X.mg x=some (.ref f))(hk:PySem.W.keepIn X.K (.ref f)=true)(hb:Binds X.K fd ps [])(Ew:∀y,X.fn y=true)(ha:∀W,PA (X.mP W) (e::es) t)(qP:(x==("__debug__":Str))=false:=by decide)(he:starEach (e::es) X.env=(false,eval e X.env)::starEach es X.env:=by rfl)(kT:(backTo pos (starEach es X.env)).any (·.1)=false:=by rfl):
  u3 X (.Call (.Name x p) (e::es) [] pos) (Ny sp t):=by
 intro ai s σ H Q EX I h;refine Xx (kP I hg hm ?_ qP);refine ZN (h₀:=X.base) I.ok.mod.Pz hk (cR (ha (XP X ai (atS σ EX)) pos ai s σ H _ (I.mP _) h) fun us s1⟨vs,H1,I1,r,q⟩=>⟨I1.qK.qp,?_⟩) he kT;have I2:=I1.qK;have hl:(us++[]).length=ps.length:=by rw[VW,<-r.length];exact F.len _ _ _ _ q
 have S3:=hb s1 us I2.qp hl;rw[VW]at S3;refine wpAny_call (XY (F.run X.A X.stack s1 H1 ⟨us,[]⟩ us vs Q _ hr I2.QD S3 r q) fun r s' hq=>?_);cases r with
 |error e=>
  obtain⟨ea,cls,H',rfl,Z,hE⟩:=hq;exact⟨ea,cls,σ,H',rfl,I2.flew Ew Z,rfl,hE ea⟩
 |ok fl=>
  cases fl with
  |ret u=>exact I2.after hq
  |next=>exact False.elim hq
  |brk=>exact False.elim hq
  |cont=>exact False.elim hq
def Q!:Jr:=fun _ H Q _=>Q [] H
def Nz(ta:Jq)(tr:Jr):Jr:=fun σ H Q EX=>ta σ H (fun x H1=>tr σ H1 (fun xs H2=>Q (x::xs) H2) EX) EX
theorem Js:C1 X [] Q!:=fun _ _ _ _ H Q _ I h=>Y4 ⟨[],H,I,.nil,h⟩
theorem Fb{te:Jq}{t:Jr}(ha:u3 X e te)(hr:C1 X es t)(hs:starEach (e::es) X.env=(false,eval e X.env)::starEach es X.env:=by rfl):C1 X (e::es) (Nz te t):=by intro pos ai s σ H Q EX I h;rw[hs];show wpAny _ _ (spliced ((false,eval e X.env)::backTo pos (starEach es X.env))) _ _ s;refine X8 (cR (ha ai s σ H _ EX I h) fun u s1⟨x,H1,I1,r1,q1⟩=>?_);exact cR (hr pos ai s1 σ H1 _ EX I1 q1) fun us s2⟨xs,H2,I2,r2,q2⟩=>⟨x::xs,H2,I2,.cons r1 r2,q2⟩
def Q?(t:Jr):Jq:=fun σ H Q EX=>t σ H (fun xs H1=>xs.length<=sizeLine/\∀p,H1 p=none->Q (.ref p) (upd H1 p (.tup xs))) EX
theorem Jt{t:Jr}{x1}(h:C1 X es t):u3 X (.Tuple es x1 pos) (Q? t):=by intro ai s σ H Q EX I hq;refine wpAny_Tuple_spliced (cR (h pos ai s σ H _ EX I hq) fun us s1⟨xs,H1,I1,r,z,q⟩=>⟨by rw[<-r.length];exact z,?_⟩);have hf:H1 s1.heap.objs.size=none:=I1.cW.fresh (Vv _);refine⟨.ref s1.heap.objs.size,upd H1 s1.heap.objs.size (.tup xs),I1.laid (t':=s1.toks) (fun b u e=>Vr _ e) (Vv _) ?_,rfl,q _ hf⟩;exact⟨z,us,r,⟨_,VR _ rfl,rfl,_,rfl⟩⟩
theorem Fc{te:Jq}(he:u3 X e te)(hs:swapsWith e none pos.line X.env=pure false:=by rfl):Eg X (.Expr e pos) (fun D EX σ H=>te σ H (fun _ H1=>D.nx σ H1) fun cls ea H'=>EX cls ea σ H'):=by intro ai s σ H D EX I h;exact wpAny_Expr_any (Wg (he ai s σ H _ _ I h) (fun v s1⟨x,H1,I1,r1,q1⟩=>⟨σ,H1,I1,q1⟩) fun _ _ q=>q.at) I.quiet hs
theorem Ju{te:Jq}(he:u3 X e te):Eg X (.Return (some e) pos) (fun D EX σ H=>te σ H D.rt fun cls ea H'=>EX cls ea σ H'):=by intro ai s σ H D EX I h;exact wpAny_Return_some (Wg (he ai s σ H _ _ I h) (fun v s1⟨x,H1,I1,r1,q1⟩=>⟨x,σ,H1,I1,r1,q1⟩) fun _ _ q=>q.at)
theorem Fd{st:Stmt}{t:Nw}(h1:Eg X st t):C2 X [st] t:=by
 intro ai s σ H D EX I h;refine Y7 (cR (h1 ai s σ H D EX I h) fun f s1 q=>?_);cases f with
 |next=>exact Xv q
 |ret v=>exact q
 |brk=>exact q
 |cont=>exact q
abbrev Eh:=Ends->EK->_r->_t->St->Hp->Prop
def PH(X:Cx)(hs:List ExceptHandler)(th:Eh):Prop:=
 ∀(ai:_k)(s:_s)(σ:St)(H:Hp)(D:Ends)(EX:EK)(ea:_t)(cls:_r),xO X ai σ H s ea cls->th D EX cls ea σ H->wpAny (model X.prog X.w) X.A (handleBy (.ref ea) X.env hs) (SP X ai D) (XP X ai EX) s
def NA:Eh:=fun _ _ _ _ _ _=>False
theorem NB:PH X [] NA:=fun _ _ _ _ _ _ _ _ _ h=>h.elim
theorem Jv{body:List Stmt}{tb:Nw}{th:Eh}(dx:DefX X)(hb:C2 X body tb)(hh:PH X (h₀::hs) th):Eg X (.Try body (h₀::hs) [] [] pos) (fun D EX σ H=>tb D (fun cls ea σ' H'=>th D EX cls ea σ' H') σ H):=by
 intro ai s σ H D EX I h;refine wpAny_Try_except (Wg (hb ai s σ H D _ I h) (fun f s1 q=>?_) fun e s1 q=>?_)
 .cases f with
  |next=>exact Xv q
  |ret v=>exact q
  |brk=>exact q
  |cont=>exact q
 .obtain⟨ea,cls,σ',H',rfl,J,hE⟩:=q;obtain⟨B,t,fl,hn,go⟩:=J.slots;have Nt:X.A.frames=some (X.env::X.outer):=by rw[<-dx.Ep];exact J.inv.ok.frames
  refine wpAny_looks_onW Nt dx.fr (by rw[<-dx.Ep];exact fl) fun h4 held up4=>?_;refine wpAny_landsW held fun h5 fl5 up5=>?_;exact hh ai _ σ' H' D EX ea cls (go h5 (by rw[dx.Ep];exact fl5) (up4.trans up5)) hE
theorem NC{body:List Stmt}{tb:Nw}{th:Eh}(dx:DefX X)(hb:C2 X body tb)(hh:PH X (h₀::hs) th):
  PS X (.Try body (h₀::hs) [] [] pos) (fun D σ H=>tb D (fun cls ea σ' H'=>th D (fun _ _ _ _=>False) cls ea σ' H') σ H):=by
 intro ai s σ H D I h;exact Wg (Jv dx hb hh ai s σ H D (fun _ _ _ _=>False) I h) (fun _ _ q=>q) fun _ _⟨_,_,_,_,_,_,z⟩=>z.elim
def pW(X:Cx)(ea:_t)(oe:Obj):Cx:={X with A:=X.A.mark (some (.ref ea)),calm:=false,pn:=(ea,oe)::X.pn,xe:=fun _ _=>False}
theorem xO.pW(J:xO X ai σ H s ea cls):∃oe,s.heap.get? ea=some oe/\oe.cls=cls/\aV (L2.pW X ea oe) ai σ H s:=by
 obtain⟨B,t,fl,hn,_⟩:=J.slots;obtain⟨oe,vs,he,hc,hd,_⟩:=fl.first;have I:=J.inv;have Ef:∀b∈fZ X.stack,ea≠b:=fun b hb z=>by obtain⟨_,o,ho,Bx⟩:=I.stack.mem hb;rw[<-z,he]at ho;cases ho;exact Bx vs hd
 have Et:ea≠X.env.locals:=fun z=>by obtain⟨m,⟨o,es,ep,ho,hdd,_⟩,_⟩:=I.loc;rw[<-z,he]at ho;cases ho;rw[hd]at hdd;cases hdd
 have UA:ea ∉ X.fs:=fun hb=>by obtain⟨_,o,ho,Bx⟩:=I.lX.mem hb;rw[he]at ho;cases ho;exact Bx vs hd
 refine⟨oe,he,hc,⟨⟨I.ok.mod,I.ok.kind,I.ok.glob,I.ok.blt,I.ok.above,I.ok.inj,I.ok.has,I.ok.Mi,fun z=>(by cases z),I.ok.frames,I.ok.Ep,I.ok.TC,I.ok.bs,I.ok.Lr,I.ok.zM,I.ok.Er,I.ok.lX,I.ok.Es⟩,I.os,I.bare,I.base,I.loc,I.cell,I.free,I.iV,fun p hp=>?_,I.cW,I.len⟩⟩;rcases VJ.mp (show p∈(ea,oe)::(X.pn++ai)from hp)with z|z
 .rw[z];exact⟨he,hn,Et,UA,fun v q=>by rw[hd]at q;cases q⟩
 .exact I.pin p z
theorem aV.z9(ok:X.Ok)(I:aV (L2.pW X ea oe) ai σ H s):aV X ai σ H s:=
 ⟨ok,I.os,I.bare,I.base,I.loc,I.cell,I.free,I.iV,fun p hp=>I.pin p (Vq _ hp),I.cW,I.len⟩
theorem SP.z9{D:Ends}{f:Flow}(ok:X.Ok)(h:SP (L2.pW X ea oe) ai D f s'):SP X ai D f s':=by
 cases f with
 |next=>obtain⟨σ',H',I,q⟩:=h;exact⟨σ',H',I.z9 ok,q⟩
 |brk=>obtain⟨σ',H',I,q⟩:=h;exact⟨σ',H',I.z9 ok,q⟩
 |cont=>obtain⟨σ',H',I,q⟩:=h;exact⟨σ',H',I.z9 ok,q⟩
 |ret u=>obtain⟨v,σ',H',I,r,q⟩:=h;exact⟨v,σ',H',I.z9 ok,r,q⟩
theorem u4{M:Model}{E:_i}{K:_l}{b:Bool}{Q:Bool->_s->Prop}(KX:K.In s.heap)(he:s.heap.get? ea=some oe)(h1:W.kitCls K oe.cls (.ref C)=some b)(h2:W.subIn K (.ref C) (.type "BaseException")=some true)(q:Q b s):
  wpAny M A (excMatches (.ref ea) (.ref C)) Q E s:=by
 obtain⟨l1,l2,l3⟩:=_b (M:=M) KX h1;have l4:=W.looks_subIn (M:=M) KX h2;obtain⟨hp,g,d,tk,os⟩:=s;have lt:W.Looks M hp (isInstance (.ref C) (.type "tuple")) false:=l1.andThen (.of_pure tc_notTuple);have lx:W.Looks M hp (isExcClass (.ref C)) true:=fun A' Q' E' s' k z=>by unfold isExcClass;refine Vn (l2 A' _ E' s' k ?_);rw[Vs rfl];exact l4 A' Q' E' s' k z
 have ly:W.Looks M hp (typeOf (.ref ea)) oe.cls:=fun A' Q' E' s' k z=>by unfold typeOf;exact Vn (wpAny_loadPart (k _ _ he) (VB z))
 unfold excMatches;refine Vn (lt.here ?_);simp only[W4,W8,pure_bind,List.forIn_cons,List.forIn_nil,bind_assoc];refine Vn (lx.here ?_);simp only[X1,W4,W8,pure_bind];refine Vn (ly.here ?_);refine Vn (l3.here ?_);cases b with
 |true=>exact VB q
 |false=>exact VB q
theorem pJ{E:_i}{K:_l}{c:_r}(KX:K.In s.heap)(he:s.heap.get? ea=some oe)(e:W.kitOne K oe.cls c=some true)(h:Q (.bool true) s):
  wpAny (model prog w) A (call (.builtin "isinstance") [.ref ea,c]) Q E s:=by
 have ly:W.Looks (model prog w) s.heap (typeOf (.ref ea)) oe.cls:=fun A' Q' E' s' k z=>by unfold typeOf;exact Vn (wpAny_loadPart (k _ _ he) (VB z))
 refine PyProof.Rows.call_isinstance_of ?_ (by intro z;cases z);unfold W.kitOne at e;unfold Builtin.«isinstance.nested»;refine Vn (ly.here ?_);by_cases q:(oe.cls==c)=true
 .rw[Vs q]
  first
   |exact Vn (X3 h)
   |exact Vn (X3 (VB h))
   |exact VB h
 .rw[Vx q]at e;rw[Vx q];obtain⟨QN,his,Np⟩:=_b (M:=model prog w) KX e;have LI:W.Looks (model prog w) s.heap (isInstance (.ref ea) c) true:=ly.andThen Np;refine Vn (QN.here ?_);rw[Vs (by decide)]
  k_delta "plainIsInstance"
  refine Vn (Vn (his.here ?_));simp only[X1,W4,W8];refine Vn (LI.here ?_)
  first
   |exact VB (VB h)
   |(simp only[Xz];first|exact VB (VB h)|exact VB h|exact Vn (VB (VB h)))
theorem vY:c6 X (.builtin "isinstance") (fun xs H Q=>∃ea oe c,(xs=[.ref ea,.ref c]/\W.kitOne X.K oe.cls (.ref c)=some true\/∃n,xs=[.ref ea,.ty n]/\W.kitOne X.K oe.cls (.type n)=some true)/\(ea,oe)∈X.pn/\Q (.bl true) H):=by
 intro ai s σ H xs us Q I r h;obtain⟨ea,oe,c,hx,hp,q⟩:=h;have he:=(I.pin (ea,oe) (WL _ hp)).1;rcases hx with⟨rfl,e⟩|⟨n,rfl,e⟩
 .obtain⟨u,u2,rfl,ru,Q9⟩:=vals2 r;cases ru;cases Q9;exact pJ I.qp he e ⟨.bl true,H,I,rfl,q⟩
 .obtain⟨u,u2,rfl,ru,Q9⟩:=vals2 r;cases ru;cases Q9;exact pJ I.qp he e ⟨.bl true,H,I,rfl,q⟩
def ND(K:_l)(C:_t)(ts:_t->Obj->TS)(tr:Eh):Eh:=fun D EX cls ea σ H=>∃b,W.kitCls K cls (.ref C)=some b/\if b=true then ∀oe,oe.cls=cls->ts ea oe D σ H else tr D EX cls ea σ H
theorem Jw{x:Str}{ts:_t->Obj->TS}{tr:Eh}(hg:Gl X x)(hm:X.mg x=some (.ref C))(hB:W.subIn X.K (.ref C) (.type "BaseException")=some true)(hs:∀ea oe,j' (L2.pW X ea oe) (b₀::gj) (ts ea oe))(hr:PH X rest tr)(hd:(x==("__debug__":Str))=false:=by decide):PH X (.ExceptHandler (some (.Name x np)) none (b₀::gj) pos::rest) (ND X.K C ts tr):=by
 intro ai s σ H D EX ea cls J h;obtain⟨b,hb,h⟩:=h;obtain⟨oe,he,hc,I⟩:=J.pW;refine wpAny_handleBy_cons (_a (kP I (show Gl (L2.pW X ea oe) x from hg) (show(L2.pW X ea oe).mg x=some (.ref C)from hm) ?_ hd)) (by intro z;cases z);refine u4 I.qp he (by rw[hc];exact hb) hB ?_;cases b with
 |false=>exact hr ai s σ H D EX ea cls J (by simpa using h)
 |true=>
  obtain⟨B,t,fl,hn,go⟩:=J.slots;refine codeAny_handlers_suite (lands_againW fl fun h6 UM UN=>?_);have J6:=go h6 UM UN;obtain⟨NF,he6,UO,I6⟩:=J6.pW;have h':∀oe,oe.cls=cls->ts ea oe D σ H:=by simpa using h
  exact Wg (hs ea NF ai _ σ H D I6 (h' NF UO)) (fun f s2 q=>q.z9 J.inv.ok) fun _ _ z=>z.elim
theorem aV.Jx{n:Str}{u:_o}{m:_j}(I:aV X ai σ H s)(hN:X.N.Nodup)(hi:X.N[i]?=some n)(hx:X.env.kindOf n=some .local)(hn:s.heap.Ns X.env.locals m)(hl:∀(j:Nat)(x:Str)(v:V),X.N[j]?=some x->σ[j]?=some (some v)->Mh X.env.scope x->∃u,bT v u/\Look X.env s.heap m x u)(PB:h'.Ns X.env.locals (fun x=>if x=n then u else m x))(sb:Heap.SameBut X.env.locals s.heap h'):aV X ai (σ.set i none) H {s with heap:=h'}:=by
 have iσ:i<σ.length:=by rw[I.len];exact(VP.mp hi).1
 have Fe:∀b o,b≠X.env.locals->s.heap.get? b=some o->h'.get? b=some o:=fun b o hb e=>(sb.2 b hb).trans e;have Et:∀b o,X.s₀.heap.get? b=some o->b≠X.env.locals:=fun b o e=>V7 (VQ (VL e) I.ok.above);refine⟨I.ok,I.os,I.bare,⟨fun b o q nn hb hx=>Fe b o (Et b o q) (I.base.keep b o q nn hb hx),fun b o q nn hb hx=>?_,I.base.free,fun b o q hx=>?_,I.base.jH,I.base.ju,I.base.j9⟩,⟨_,PB,fun j x v e1 e2 e3=>?_⟩,fun x c e=>?_,I.free,I.iV,fun p hp=>?_,fun b w q=>?_,by rw[Wm];exact I.len⟩
 .obtain⟨sl,e1⟩:=I.base.slot b o q nn hb hx;exact⟨sl,Fe b _ (Et b o q) e1⟩
 .obtain⟨o',e1⟩:=I.base.there b o q hx;exact⟨o',Fe b o' (Et b o q) e1⟩
 .by_cases hj:j=i
  .subst hj;rw[VY iσ]at e2;cases e2
  .rw[V6 (Xg hj)]at e2;obtain⟨u',r,l⟩:=hl j x v e1 e2 e3;have nx:x≠n:=fun z=>hj (qG hN e1 (z▸hi));refine⟨u',r,?_⟩;rcases l with⟨k,e⟩|⟨k,c,e,o,ho,hd⟩
   .exact .inl ⟨k,by simp[nx,e]⟩
   .exact .inr ⟨k,c,e,o,Fe c o (I.Ij x c e) ho,hd⟩
 .obtain⟨v,o,ho,hd⟩:=I.cell x c e;exact⟨v,o,Fe c o (I.Ij x c e) ho,hd⟩
 .obtain⟨e,z,ne,nf,d⟩:=I.pin p hp;exact⟨Fe p.1 p.2 ne e,z,ne,nf,d⟩
 .refine(I.cW b w q).lW (fun c v hc z=>Fe c v ?_ z) (fun _ z=>z) fun _ _ z=>z;intro z';rcases hc with r|r
  .rw[<-r,z',I.free]at q;cases q
  .rw[z',I.free]at r;cases r
def UP(K:_l)(C:_t)(i:Nat)(ts:_t->Obj->TS)(tr:Eh):Eh:=fun D EX cls ea σ H=>∃b,W.kitCls K cls (.ref C)=some b/\if b=true then ∀oe,oe.cls=cls->ts ea oe {nx:=fun σ' H'=>D.nx (σ'.set i none) H',rt:=D.rt,bk:=fun σ' H'=>D.bk (σ'.set i none) H',ct:=fun σ' H'=>D.ct (σ'.set i none) H'} (σ.set i (some (.ref ea))) H else tr D EX cls ea σ H
theorem Ra{x n:Str}{ts:_t->Obj->TS}{tr:Eh}(hN:X.N.Nodup)(hi:X.N[i]?=some n)(hl:X.env.scope.names.lookup n=some .local)(hg:Gl X x)(hm:X.mg x=some (.ref C))(hB:W.subIn X.K (.ref C) (.type "BaseException")=some true)(hs:∀ea oe,j' (L2.pW X ea oe) (b₀::gj) (ts ea oe))(hr:PH X rest tr)(hd:(x==("__debug__":Str))=false:=by decide):PH X (.ExceptHandler (some (.Name x np)) (some n) (b₀::gj) pos::rest) (UP X.K C i ts tr):=by
 intro ai s σ H D EX ea cls J h;obtain⟨b,hb,h⟩:=h;obtain⟨oe,he,hc,I⟩:=J.pW;refine wpAny_handleBy_cons (_a (kP I (show Gl (L2.pW X ea oe) x from hg) (show(L2.pW X ea oe).mg x=some (.ref C)from hm) ?_ hd)) (by intro z;cases z);refine u4 I.qp he (by rw[hc];exact hb) hB ?_;cases b with
 |false=>exact hr ai s σ H D EX ea cls J (by simpa using h)
 |true=>
  obtain⟨B,t,fl,hn,go⟩:=J.slots;have h':∀oe,oe.cls=cls->ts ea oe {nx:=fun σ' H'=>D.nx (σ'.set i none) H',rt:=D.rt,bk:=fun σ' H'=>D.bk (σ'.set i none) H',ct:=fun σ' H'=>D.ct (σ'.set i none) H'} (σ.set i (some (.ref ea))) H:=by simpa using h
  refine codeAny_handlers_suite_as (lands_againW fl fun h6 UM UN=>?_);have J6:=go h6 UM UN;obtain⟨NF,he6,UO,I6⟩:=J6.pW;refine qH (X:=L2.pW X ea NF) (v:=.ref ea) I6 hN hi (Or.inl hl) rfl (fun s7 I7=>?_) (Or.inr hl);refine Wg (hs ea NF ai s7 _ H _ I7 (h' NF UO)) (fun f s8 q=>?_) fun _ _ z=>z.elim
  -- Ec name is let go
  have letGo:∀{σ8:St}{H8:Hp}{R:_s->Prop},aV (L2.pW X ea NF) ai σ8 H8 s8->(∀s9,aV X ai (σ8.set i none) H8 s9->R s9) ->
    wpAny (model X.prog X.w) X.A (do bindName X.env n .none;unbindBehindTheSuite X.env n pos) (fun _ s9=>R s9) (XP X ai EX) s8:=fun{σ8 H8 R}I8 k=>by
   have I9:=I8.z9 J.inv.ok;refine Vn (wpAny_bindName (nV I9 hN hi (Or.inl hl) (v:=.cO) rfl (fun s9 UQ⟨a,sb,ha⟩=>?_) (Or.inr hl)));obtain⟨m,ns,hlk⟩:=UQ.loc;have iσ:i<σ8.length:=by rw[I9.len];exact(VP.mp hi).1
   obtain⟨u,ru,lk⟩:=hlk i n .cO hi (VY iσ) (Or.inl hl);have hmn:m n=some u:=by
    rcases lk with⟨_,e⟩|⟨k',_⟩
    .exact e
    .exfalso;rcases k' with z|z
     .have z':X.env.scope.names.lookup n=some .cell:=z;rw[hl]at z';cases z'
     .have z':X.env.scope.names.lookup n=some .free:=z;rw[hl]at z';cases z'
   unfold unbindBehindTheSuite;refine Yf (wpAny_unbindName_local hl ns hmn (by rw[UQ.ok.kind];rfl) fun S4 u' ns' UG=>?_);have I11:=UQ.Jx hN hi hl ns hlk ns' UG;rw[Y?]at I11;exact k _ I11
  cases f with
  |next=>
   obtain⟨σ8,H8,I8,q8⟩:=q;exact letGo I8 fun s9 I9=>⟨_,H8,I9,q8⟩
  |brk=>
   obtain⟨σ8,H8,I8,q8⟩:=q;exact letGo I8 fun s9 I9=>⟨_,H8,I9,q8⟩
  |cont=>
   obtain⟨σ8,H8,I8,q8⟩:=q;exact letGo I8 fun s9 I9=>⟨_,H8,I9,q8⟩
  |ret v=>
   obtain⟨x8,σ8,H8,I8,r8,q8⟩:=q;exact letGo I8 fun s9 I9=>⟨x8,_,H8,I9,r8,q8⟩
structure pX where
 qual:Str
 params:Arguments
 body:Expr
 scope:Scope
 ps:_q
 x:Str
abbrev Fz(H:Hp)(a:_t)(o:Obj):Prop:=H a=some (.lV o (.own 0))
structure S5(L:pX)(H:Hp)(f c c':_t)(v:V):Prop where
 fn:∃pm UR,Fz H f (W.kla_obj "<lambda>" L.qual L.params L.body L.scope [(L.x,c)] pm c' UR)
 cd:∃oc vs t,Fz H c' oc/\oc.data=.fields vs/\vs[1]?=some (.str L.qual t)
 ce:∃oc u,Fz H c oc/\oc.data=.cell (some u)/\bT v u
def back(H H':Hp)(c:_t):Hp:=fun b=>if b=c then H b else H' b
section
variable{K:_l}{mg:_j}{base:Heap}{L:pX}{c:_t}{outer:List Env}{s1:_s}{us:_n}{vs:List V}{v:V}
end
def Tab(H:Hp)(T:_t)(line col:Nat)(qual:Str):Prop:=H T=some (.Ii #[]) \/
 ∃c' oc vs t,H T=some (.Ii #[rawInt line,rawInt col,.ref c'])/\Fz H c' oc/\oc.data=.fields vs/\vs[1]?=some (.str qual t)
section
variable{L:pX}{cd T c:_t}
end
theorem S5.mono{L:pX}{c:_t}{v:V}(C:S5 L H f c c' v)(k:∀b o u,H b=some (.lV o u)->H' b=some (.lV o u)):S5 L H' f c c' v:=by obtain⟨⟨pm,UR,h1⟩,⟨oc,vs,t,h2,h3⟩,⟨o2,u,h4,h5⟩⟩:=C;exact⟨⟨pm,UR,k _ _ _ h1⟩,⟨oc,vs,t,k _ _ _ h2,h3⟩,⟨o2,u,k _ _ _ h4,h5⟩⟩
section
variable{L:pX}{x:Str}{c:_t}{v:V}{k:Nat}{t:TA}
end
section
variable{c:_t}{o:Obj}{fs:_p}
end
section
variable{k:Nat}{fd:FuncData}{ps:_q}{x:Str}{c:_t}{t:TA}
end
end L2
variable {x qual:Str}
variable {k:Nat}
variable {base:Heap}
variable {ps:List Str}
variable {scope:Scope}
variable {cd:Value}
variable {L:L2.pX}
variable {EX:L2.EK}
variable {kp:Pos}
namespace MN
open PySem.Spec L2
open PyProof.Rows hiding St
inductive aw where
 |cO|bl (b:Bool)|int (i:Int)|str (x:Str)|tup (vs:List aw)|loc (n:Nat)|exc (c:Str)|fn (L:pX) (u:aw)|mt (vs:List aw)
inductive aG where
 |lst (vs:List aw)|NG (vs:List aw)|mod (vs:List aw)|dK (aX:List (eU×aw))|dT (aX:List (List eU×aw))|tab (x:Str) (line col:Nat) (qual:Str)|ins (c:Str) (fs:List (Str×aw))|fd (aX:List (eU×aw))
abbrev ao:=List aG
abbrev Env:=List (Option aw)
inductive c_(α:Type) where
 |ok (a:α) (st:ao)|err (c:Str) (st:ao)|bad
inductive cD where
 |nx (μ:Env) (st:ao)|rt (v:aw) (st:ao)|bk (μ:Env) (st:ao)|ct (μ:Env) (st:ao)|er (c:Str) (μ:Env) (st:ao)|bad
@[reducible] def c_.bind(r:c_ α)(k:α->ao->c_ β):c_ β:=match r with
 |.ok a st=>k a st
 |.err c st=>.err c st
 |.bad=>.bad
structure Wo where
 K:_l
 mg:Str->_o
 pn:_k
abbrev wo(X:Cx):Wo:=⟨X.K,X.mg,X.pn⟩
mutual
def Rl(K:_l)(ρ:_p)(H:Hp):aw->V->Prop
 |.cO,v=>v=.cO
 |.bl b,v=>v=.bl b
 |.int i,v=>v=.int i
 |.str x,v=>v=.str x
 |.tup us,v=>∃a vs,v=.ref a/\H a=some (.tup vs)/\bp K ρ H us vs
 |.mt us,v=>∃a vs,v=.ref a/\kQ K H a vs/\bp K ρ H us vs
 |.loc n,v=>∃a,v=.ref a/\ρ[n]?=some a
 |.exc _,_=>False
 |.fn _ _,_=>False
def bp(K:_l)(ρ:_p)(H:Hp):List aw->List V->Prop
 |[],vs=>vs=[]
 |u::us,vs=>∃v r,vs=v::r/\Rl K ρ H u v/\bp K ρ H us r
end
structure aK(ρ:_p)(H:Hp)(ρ':_p)(H':Hp):Prop where
 pre:ρ <+: ρ'
 tup:∀b xs,H b=some (.tup xs)->H' b=some (.tup xs)
 lV:∀b o u,H b=some (.lV o u)->H' b=some (.lV o u)
theorem aK.refl(ρ:_p)(H:Hp):aK ρ H ρ H:=⟨Zp ρ,fun _ _ h=>h,fun _ _ _ h=>h⟩
theorem aK.trans{ρ1 ρ2:_p}{H1 H2:Hp}(a:aK ρ H ρ1 H1)(b:aK ρ1 H1 ρ2 H2):aK ρ H ρ2 H2:=
 ⟨a.pre.trans b.pre,fun _ _ h=>b.tup _ _ (a.tup _ _ h),fun _ _ _ h=>b.lV _ _ _ (a.lV _ _ _ h)⟩
theorem aK.same(e:nZ H H'):aK ρ H ρ H':=⟨Zp ρ,fun _ _ h=>e _ _ h,fun _ _ _ h=>e _ _ h⟩
theorem aK.snoc(p:_t)(e:nZ H H'):aK ρ H (ρ++[p]) H':=⟨List.prefix_append ρ [p],fun _ _ h=>e _ _ h,fun _ _ _ h=>e _ _ h⟩
theorem aK.at_(e:aK ρ H ρ' H')(h:ρ[n]?=some a):ρ'[n]?=some a:=by
 obtain⟨t,rfl⟩:=e.pre;have hl:n<ρ.length:=by
  rcases WC n ρ.length with q|q
  .exact q
  .rw[V8 q]at h;cases h
 rw[V' hl,h]
theorem aK.S6{K:_l}(e:aK ρ H ρ' H'){xs:List V}(h:kQ K H a xs):kQ K H' a xs:=by
 rcases h with(h|⟨o,h⟩)|h
 .exact .inl (.inl (e.tup _ _ h))
 .exact .inl (.inr ⟨o,e.lV _ _ _ h⟩)
 .exact .inr h
mutual
theorem Rl.mono{K:_l}(e:aK ρ H ρ' H'):∀(u:aw)(v:V),Rl K ρ H u v->Rl K ρ' H' u v
 |.cO,_,h=>h
 |.bl _,_,h=>h
 |.int _,_,h=>h
 |.str _,_,h=>h
 |.tup us,v,h=>by unfold Rl at h⊢;obtain⟨a,vs,h1,h2,h3⟩:=h;exact⟨a,vs,h1,e.tup _ _ h2,bp.mono e us vs h3⟩
 |.mt us,v,h=>by unfold Rl at h⊢;obtain⟨a,vs,h1,h2,h3⟩:=h;exact⟨a,vs,h1,e.S6 h2,bp.mono e us vs h3⟩
 |.loc n,v,h=>by unfold Rl at h⊢;obtain⟨a,h1,h2⟩:=h;exact⟨a,h1,e.at_ h2⟩
 |.exc c,v,h=>h
 |.fn _ _,_,h=>h
theorem bp.mono{K:_l}(e:aK ρ H ρ' H'):∀(us:List aw)(vs:List V),bp K ρ H us vs->bp K ρ' H' us vs
 |[],_,h=>h
 |u::us,vs,h=>by unfold bp at h⊢;obtain⟨v,r,h1,h2,h3⟩:=h;exact⟨v,r,h1,Rl.mono e u v h2,bp.mono e us r h3⟩
end
section
variable{K:_l}
theorem bp.nil:bp K ρ H [] []:=by unfold bp;rfl
theorem bp.cons{u:aw}{us:List aw}{v:V}{vs:List V}(h:Rl K ρ H u v)(hs:bp K ρ H us vs):bp K ρ H (u::us) (v::vs):=by unfold bp;exact⟨v,vs,rfl,h,hs⟩
theorem bp.cS{u:aw}{us:List aw}{vs:List V}(h:bp K ρ H (u::us) vs):∃v r,vs=v::r/\Rl K ρ H u v/\bp K ρ H us r:=by unfold bp at h;exact h
theorem bp.fV{vs:List V}(h:bp K ρ H [] vs):vs=[]:=by unfold bp at h;exact h
theorem bp.length:∀{us:List aw}{vs:List V},bp K ρ H us vs->us.length=vs.length
 |[],vs,h=>by rw[h.fV];rfl
 |u::us,vs,h=>by obtain⟨v,r,rfl,_,h3⟩:=h.cS;rw[Vo,Vo,h3.length]
theorem bp.get:∀{us:List aw}{vs:List V}{i:Nat}{u:aw},bp K ρ H us vs->us[i]?=some u->∃v,vs[i]?=some v/\Rl K ρ H u v
 |[],_,_,_,_,e=>by cases e
 |w::us,vs,0,u,h,e=>by obtain⟨v,r,rfl,h2,_⟩:=h.cS;cases e;exact⟨v,rfl,h2⟩
 |w::us,vs,i+1,u,h,e=>by obtain⟨v,r,rfl,_,h3⟩:=h.cS;exact bp.get (i:=i) h3 e
theorem bp.append:∀{us ws:List aw}{vs xs:List V},bp K ρ H us vs->bp K ρ H ws xs->bp K ρ H (us++ws) (vs++xs)
 |[],_,vs,_,h,k=>by rw[h.fV];exact k
 |u::us,ws,vs,xs,h,k=>by obtain⟨v,r,rfl,h2,h3⟩:=h.cS;exact bp.cons h2 (h3.append k)
theorem bp.drop:∀(n:Nat){us:List aw}{vs:List V},bp K ρ H us vs->bp K ρ H (us.drop n) (vs.drop n)
 |0,_,_,h=>h
 |_+1,[],vs,h=>by rw[h.fV];exact bp.nil
 |n+1,u::us,vs,h=>by obtain⟨v,r,rfl,h2,h3⟩:=h.cS;exact bp.drop n h3
theorem bp.take:∀(n:Nat){us:List aw}{vs:List V},bp K ρ H us vs->bp K ρ H (us.take n) (vs.take n)
 |0,_,_,_=>bp.nil
 |_+1,[],vs,h=>by rw[h.fV];exact bp.nil
 |n+1,u::us,vs,h=>by obtain⟨v,r,rfl,h2,h3⟩:=h.cS;exact bp.cons h2 (bp.take n h3)
theorem bp.set{u:aw}{v:V}(hu:Rl K ρ H u v):∀(n:Nat){us:List aw}{vs:List V},bp K ρ H us vs->bp K ρ H (us.set n u) (vs.set n v)
 |_,[],vs,h=>by rw[h.fV];exact bp.nil
 |0,w::us,vs,h=>by obtain⟨x,r,rfl,h2,h3⟩:=h.cS;exact bp.cons hu h3
 |n+1,w::us,vs,h=>by obtain⟨x,r,rfl,h2,h3⟩:=h.cS;exact bp.cons h2 (bp.set hu n h3)
theorem bp.one{u:aw}{v:V}(h:Rl K ρ H u v):bp K ρ H [u] [v]:=bp.cons h bp.nil
theorem bp.By{u:aw}{vs:List V}(h:bp K ρ H [u] vs):∃v,vs=[v]/\Rl K ρ H u v:=by obtain⟨v,r,rfl,h2,h3⟩:=h.cS;rw[h3.fV];exact⟨v,rfl,h2⟩
theorem bp.un2{u w:aw}{vs:List V}(h:bp K ρ H [u,w] vs):∃v x,vs=[v,x]/\Rl K ρ H u v/\Rl K ρ H w x:=by obtain⟨v,r,rfl,h2,h3⟩:=h.cS;obtain⟨x,rfl,h4⟩:=h3.By;exact⟨v,x,rfl,h2,h4⟩
theorem bp.ints:∀(ns:_m),bp K ρ H (ns.map aw.int) (ns.map V.int)
 |[]=>bp.nil
 |n::ns=>bp.cons (by unfold Rl;rfl) (bp.ints ns)
theorem Rl.c7{i:Int}{v:V}(h:Rl K ρ H (.int i) v):v=.int i:=by unfold Rl at h;exact h
theorem Rl.uj{b:Bool}{v:V}(h:Rl K ρ H (.bl b) v):v=.bl b:=by unfold Rl at h;exact h
theorem Rl.fN{v:V}(h:Rl K ρ H (.str x) v):v=.str x:=by unfold Rl at h;exact h
theorem Rl.j_{v:V}(h:Rl K ρ H .cO v):v=.cO:=by unfold Rl at h;exact h
theorem Rl.Rb{us:List aw}{v:V}(h:Rl K ρ H (.tup us) v):∃a vs,v=.ref a/\H a=some (.tup vs)/\bp K ρ H us vs:=by unfold Rl at h;exact h
theorem Rl.h!{us:List aw}{v:V}(h:Rl K ρ H (.tup us) v):∃a vs,v=.ref a/\kQ K H a vs/\bp K ρ H us vs:=let⟨a,vs,h1,h2,h3⟩:=h.Rb;⟨a,vs,h1,kQ.of h2,h3⟩
theorem Rl.US{us:List aw}{v:V}(h:Rl K ρ H (.mt us) v):∃a vs,v=.ref a/\kQ K H a vs/\bp K ρ H us vs:=by unfold Rl at h;exact h
theorem Rl.Rc{us:List aw}{vs:List V}(h:kQ K H a vs)(r:bp K ρ H us vs):Rl K ρ H (.mt us) (.ref a):=by unfold Rl;exact⟨a,vs,rfl,h,r⟩
theorem Rl.fD{v:V}(h:Rl K ρ H (.loc n) v):∃a,v=.ref a/\ρ[n]?=some a:=by unfold Rl at h;exact h
theorem Rl.mkInt(i:Int):Rl K ρ H (.int i) (.int i):=by unfold Rl;rfl
theorem Rl.C3(b:Bool):Rl K ρ H (.bl b) (.bl b):=by unfold Rl;rfl
theorem Rl.mkStr(x:Str):Rl K ρ H (.str x) (.str x):=by unfold Rl;rfl
theorem Rl.Ff:Rl K ρ H .cO .cO:=by unfold Rl;rfl
theorem Rl.pK{us:List aw}{vs:List V}(h:H a=some (.tup vs))(r:bp K ρ H us vs):Rl K ρ H (.tup us) (.ref a):=by unfold Rl;exact⟨a,vs,rfl,h,r⟩
theorem Rl.Fg(h:ρ[n]?=some a):Rl K ρ H (.loc n) (.ref a):=by unfold Rl;exact⟨a,rfl,h⟩
end
def iX(K:_l)(ρ:_p)(H:Hp)(aX:List (κ×aw))(jL:List (κ×V)):Prop:=aX.map (·.1)=jL.map (·.1)/\bp K ρ H (aX.map (·.2)) (jL.map (·.2))
def ko:Option aG->Bool
 |some (.mod _)=>true
 |_=>false
def UT(K:_l)(a:_t)(vs:List V):Prop:=∃(o:Obj)(aM:Array _r)(n:Nat),K.lookup a=some o/\o.cls=.type "list" /\ o.dict=none/\o.data=.seq aM n/\aM.size<=sizeLine/\bN vs aM.toList
def iA(K:_l)(ρ:_p)(H:Hp):aG->_t->Prop
 |.lst us,a=>∃vs,H a=some (.lst vs)/\bp K ρ H us vs
 |.NG us,a=>∃o vs,H a=some (.lV o (.lst vs))/\bp K ρ H us vs
 |.mod us,a=>∃vs,UT K a vs/\bp K ρ H us vs
 |.dK aX,a=>∃jL,H a=some (.dK jL)/\iX K ρ H aX jL
 |.dT aX,a=>∃jL,H a=some (.dT jL)/\iX K ρ H aX jL
 |.fd aX,a=>∃o jL,H a=some (.lV o (.dK jL))/\iX K ρ H aX jL
 |.tab x l c q,a=>(∃cd,W.tabIn K x=some (cd,a))/\Tab H a l c q
 |.ins c fs,a=>∃C dx gs,H a=some (.ins C dx gs)/\W.nsIn K mainGlobals c=some (some (.ref C))/\iX K ρ H fs gs
structure SR(K:_l)(ρ:_p)(st:ao)(H:Hp):Prop where
 len:ρ.length=st.length
 nd:∀(n m:Nat)a,ρ[n]?=some a->ρ[m]?=some a->ko st[n]?=false->ko st[m]?=false->n=m
 cell:∀(n:Nat)c a,st[n]?=some c->ρ[n]?=some a->iA K ρ H c a
theorem gG{l:List α}{x:α}(h:l[n]?=some x):n<l.length:=by
 rcases WC n l.length with q|q
 .exact q
 .rw[V8 q]at h;cases h
section
variable{K:_l}{st:ao}
theorem iA.there{c:aG}(h:iA K ρ H c a)(hn:ko (some c)=false):∃o,H a=some o/\∀xs,o≠.tup xs:=by
 cases c with
 |lst us=>obtain⟨vs,h,_⟩:=h;exact⟨_,h,fun xs e=>by cases e⟩
 |NG us=>obtain⟨o,vs,h,_⟩:=h;exact⟨_,h,fun xs e=>by cases e⟩
 |fd us=>obtain⟨o,vs,h,_⟩:=h;exact⟨_,h,fun xs e=>by cases e⟩
 |mod us=>cases hn
 |dK aX=>obtain⟨vs,h,_⟩:=h;exact⟨_,h,fun xs e=>by cases e⟩
 |dT aX=>obtain⟨vs,h,_⟩:=h;exact⟨_,h,fun xs e=>by cases e⟩
 |tab x l c q=>rcases h.2 with h|⟨_,_,_,_,h,_⟩<;>exact⟨_,h,fun xs e=>by cases e⟩
 |ins c fs=>obtain⟨_,_,_,h,_⟩:=h;exact⟨_,h,fun xs e=>by cases e⟩
theorem iA.mono{c:aG}(h:iA K ρ H c a)(e:aK ρ H ρ' H')(ha:ko (some c)=true\/H' a=H a):iA K ρ' H' c a:=by
 cases c with
 |mod us=>obtain⟨vs,h,r⟩:=h;exact⟨vs,h,bp.mono e _ _ r⟩
 |lst us=>rcases ha with ha|ha<;>first|cases ha;done|(obtain⟨vs,h,r⟩:=h;exact⟨vs,ha.trans h,bp.mono e _ _ r⟩)
 |NG us=>rcases ha with ha|ha<;>first|cases ha;done|(obtain⟨o,vs,h,r⟩:=h;exact⟨o,vs,ha.trans h,bp.mono e _ _ r⟩)
 |dK aX=>rcases ha with ha|ha<;>first|cases ha;done|(obtain⟨vs,h,r⟩:=h;exact⟨vs,ha.trans h,r.1,bp.mono e _ _ r.2⟩)
 |dT aX=>rcases ha with ha|ha<;>first|cases ha;done|(obtain⟨vs,h,r⟩:=h;exact⟨vs,ha.trans h,r.1,bp.mono e _ _ r.2⟩)
 |fd aX=>rcases ha with ha|ha<;>first|cases ha;done|(obtain⟨o,vs,h,r⟩:=h;exact⟨o,vs,ha.trans h,r.1,bp.mono e _ _ r.2⟩)
 |ins c fs=>rcases ha with ha|ha<;>first|cases ha;done|(obtain⟨C,dx,gs,h,hn,r⟩:=h;exact⟨C,dx,gs,ha.trans h,hn,r.1,bp.mono e _ _ r.2⟩)
 |tab x l c q=>
  refine⟨h.1,?_⟩;rcases ha with ha|ha
  .cases ha
  .rcases h.2 with h|⟨c',oc,vs,t,h,h2,h3⟩
   .exact .inl (ha.trans h)
   .exact .inr ⟨c',oc,vs,t,ha.trans h,e.lV _ _ _ h2,h3⟩
theorem iA.grow{c:aG}(h:iA K ρ H c a)(e:aK ρ H ρ' H')(s:nZ H H'):iA K ρ' H' c a:=by
 cases z:ko (some c) with
 |true=>exact h.mono e (.inl z)
 |false=>
  obtain⟨o,ho,_⟩:=h.there z;exact h.mono e (.inr (by rw[ho];exact s _ _ ho))
theorem SR.there(s:SR K ρ st H)(h:ρ[n]?=some a):∃c,st[n]?=some c/\iA K ρ H c a:=by
 have hn:=gG h;have PB:n<st.length:=by rw[<-s.len];exact hn
 exact⟨st[n],VD PB,s.cell n _ a (VD PB) h⟩
theorem SR.grow(s:SR K ρ st H)(e:nZ H H'):SR K ρ st H':=
 ⟨s.len,s.nd,fun n c a h1 h2=>(s.cell n c a h1 h2).grow (aK.same e) e⟩
theorem SR.LL(s:SR K ρ st H){p:_t}(hp:H p=none)(h:ρ[n]?=some p)(hm:ko st[n]?=false):False:=by obtain⟨c,hc,k⟩:=s.there h;rw[hc]at hm;obtain⟨o,ho,_⟩:=k.there hm;rw[hp]at ho;cases ho
theorem dO{p:_t}{o:HO}(hp:H p=none):nZ H (upd H p o):=nZ.upd (nZ.refl H) hp
theorem SR.alloc(s:SR K ρ st H){p:_t}{o:HO}{c:aG}(hp:H p=none)(k:iA K (ρ++[p]) (upd H p o) c p):SR K (ρ++[p]) (st++[c]) (upd H p o):=by
 have e:nZ H (upd H p o):=dO hp;have at_:∀(n:Nat)(a:_t),(ρ++[p])[n]?=some a->(n<st.length/\ρ[n]?=some a/\(st++[c])[n]?=st[n]?)\/(n=st.length/\a=p/\(st++[c])[n]?=some c):=by
  intro n a h;rcases ZW n st.length with q|q|q
  .rw[V' (by rw[s.len];exact q)]at h;exact .inl ⟨q,h,V' q⟩
  .subst q;rw[VS (by rw[s.len];exact Vv _),s.len,Wy]at h;cases h;refine .inr ⟨rfl,rfl,?_⟩;rw[VS (Vv _),Wy];rfl
  .rw[V8 (by rw[Vz,WG,s.len];lia)]at h;cases h
 refine⟨by rw[Vz,Vz,s.len];rfl,fun n m a h1 h2 m1 m2=>?_,fun n c' a h1 h2=>?_⟩
 .rcases at_ n a h1 with⟨q1,q2,q3⟩|⟨q1,q2,q3⟩<;>rcases at_ m a h2 with⟨r1,r2,r3⟩|⟨r1,r2,r3⟩
  .rw[q3]at m1;rw[r3]at m2;exact s.nd n m a q2 r2 m1 m2
  .subst r2;rw[q3]at m1;exact(s.LL hp q2 m1).elim
  .subst q2;rw[r3]at m2;exact(s.LL hp r2 m2).elim
  .rw[q1,r1]
 .rcases at_ n a h2 with⟨q1,q2,q3⟩|⟨q1,q2,q3⟩
  .rw[q3]at h1;exact(s.cell n c' a h1 q2).grow (aK.snoc p e) e
  .rw[q3]at h1;cases h1;subst q2;exact k
theorem aK.put{o o':HO}(h:H a=some o)(h1:∀xs,o≠.tup xs)(h2:∀x u,o≠.lV x u):aK ρ H ρ (upd H a o'):=by
 refine⟨Zp ρ,fun b xs e=>?_,fun b x u e=>?_⟩
 .rw[bK (fun z=>?_)]
  .exact e
  .subst z;rw[h]at e;exact h1 _ (V! e)
 .rw[bK (fun z=>?_)]
  .exact e
  .subst z;rw[h]at e;exact h2 _ _ (V! e)
theorem SR.set(s:SR K ρ st H){o o':HO}{c c':aG}(h:st[n]?=some c)(hc:ko (some c)=false)(d4:ko (some c')=false)(ha:ρ[n]?=some a)(ho:H a=some o)(h1:∀xs,o≠.tup xs)(h2:∀x u,o≠.lV x u)(k:iA K ρ (upd H a o') c' a):SR K ρ (st.set n c') (upd H a o'):=by
 have hn:n<st.length:=gG h;have at_:∀(m:Nat),ko (st.set n c')[m]?=ko st[m]?:=fun m=>by
  by_cases z:m=n
  .subst z;rw[VY hn,h,hc,d4]
  .rw[V6 (fun y=>z y.symm)]
 refine⟨by rw[Wm];exact s.len,fun i m b q1 q2 m1 m2=>s.nd i m b q1 q2 (by rw[<-at_];exact m1) (by rw[<-at_];exact m2),fun m d b q1 q2=>?_⟩;by_cases z:m=n
 .subst z;rw[ha]at q2;cases q2;rw[VY hn]at q1;cases q1;exact k
 .rw[V6 (fun y=>z y.symm)]at q1;have kb:=s.cell m d b q1 q2;cases zm:ko (some d) with
  |true=>exact kb.mono (aK.put ho h1 h2) (.inl zm)
  |false=>
   have hb:b≠a:=fun y=>z (s.nd m n a (by rw[<-y];exact q2) ha (by rw[q1];exact zm) (by rw[h];exact hc));exact kb.mono (aK.put ho h1 h2) (.inr (bK hb))
end
def Bz(W:Wo)(ρ:_p)(H:Hp)(u:aw)(v:V):Prop:=match u with
 |.exc c=>∃a oe C,v=.ref a/\(a,oe)∈W.pn/\W.mg c=some (.ref C)/\oe.cls=.ref C
 |.fn L u=>∃f c c' cv,v=.ref f/\S5 L H f c c' cv/\Rl W.K ρ H u cv
 |u=>Rl W.K ρ H u v
theorem Bz.mono{W:Wo}{u:aw}{v:V}(h:Bz W ρ H u v)(e:aK ρ H ρ' H'):Bz W ρ' H' u v:=by
 cases u with
 |exc c=>exact h
 |fn L u=>obtain⟨f,c,c',cv,h1,C,r⟩:=h;exact⟨f,c,c',cv,h1,C.mono (fun b o u q=>e.lV b o u q),Rl.mono e _ _ r⟩
 |_=>exact Rl.mono e _ _ h
theorem Bz.of{W:Wo}{u:aw}{v:V}(h:Rl W.K ρ H u v):Bz W ρ H u v:=by
 cases u with
 |exc c=>unfold Rl at h;exact h.elim
 |fn L u=>unfold Rl at h;exact h.elim
 |_=>exact h
structure RS(W:Wo)(ρ:_p)(H:Hp)(μ:Env)(σ:St):Prop where
 len:μ.length=σ.length
 at_:∀(i:Nat)u,μ[i]?=some (some u)->∃v,σ[i]?=some (some v)/\Bz W ρ H u v
section
variable{W:Wo}{μ:Env}
theorem RS.mono(r:RS W ρ H μ σ)(e:aK ρ H ρ' H'):RS W ρ' H' μ σ:=⟨r.len,fun i u h=>let⟨v,h1,h2⟩:=r.at_ i u h;⟨v,h1,h2.mono e⟩⟩
theorem RS.Rf(r:RS W ρ H μ σ)(i:Nat){u:aw}{v:V}(h:Bz W ρ H u v):RS W ρ H (μ.set i (some u)) (σ.set i (some v)):=by
 refine⟨by rw[Wm,Wm];exact r.len,fun j w e=>?_⟩;by_cases z:j=i
 .subst z;have hj:=gG e;rw[Wm]at hj;rw[VY hj]at e;cases e;exact⟨v,VY (by rw[<-r.len];exact hj),h⟩
 .rw[V6 (fun y=>z y.symm)]at e⊢;exact r.at_ j w e
theorem RS.set(r:RS W ρ H μ σ)(i:Nat){u:aw}{v:V}(h:Rl W.K ρ H u v):RS W ρ H (μ.set i (some u)) (σ.set i (some v)):=r.Rf i (Bz.of h)
end
abbrev ME:=Env->ao->c_ aw
abbrev MT:=Env->ao->c_ Bool
abbrev MA:=Env->ao->c_ (List aw)
abbrev MB:=Env->ao->cD
def wR(W:Wo)(E:XK)(R:_p->Hp->α->β->Prop)(ρ:_p)(H:Hp)(Q:β->Hp->Prop):c_ α->Prop
 |.ok u aF=>∀ρ' H' v,aK ρ H ρ' H'->SR W.K ρ' aF H'->R ρ' H' u v->Q v H'
 |.err c aF=>∃C,W.mg c=some (.ref C)/\∀ρ' H',aK ρ H ρ' H'->SR W.K ρ' aF H'->E (.ref C) none H'
 |.bad=>False
theorem wR.mono{W:Wo}{R:_p->Hp->α->β->Prop}{Q:β->Hp->Prop}{r:c_ α}(h:wR W E R ρ H Q r)(e:aK ρ H ρ' H'):wR W E R ρ' H' Q r:=by
 cases r with
 |ok u st=>exact fun ρ2 H2 v e2 s r=>h ρ2 H2 v (e.trans e2) s r
 |err c st=>obtain⟨C,h1,h2⟩:=h;exact⟨C,h1,fun ρ2 H2 e2 s=>h2 ρ2 H2 (e.trans e2) s⟩
 |bad=>exact h
theorem wR.pn{K:_l}{mg:_j}{pn:_k}{R:_p->Hp->α->β->Prop}{Q:β->Hp->Prop}{r:c_ α}(h:wR ⟨K,mg,pn⟩ E R ρ H Q r):wR ⟨K,mg,NH⟩ E R ρ H Q r:=by cases r<;>exact h
def tG(W:Wo)(E:XK)(R:_p->Hp->α->β->Prop)(m:Env->ao->c_ α):St->Hp->(β->Hp->Prop)->Prop:=
 fun σ H Q=>∃μ ρ st,RS W ρ H μ σ/\SR W.K ρ st H/\wR W E R ρ H Q (m μ st)
abbrev RB:_p->Hp->Bool->Bool->Prop:=fun _ _ b c=>c=b
abbrev tE(X:Cx)(E:XK)(m:ME):TE:=tG (wo X) E (Rl X.K) m
abbrev tT(X:Cx)(E:XK)(m:MT):TT:=tG (wo X) E RB m
abbrev tL(X:Cx)(E:XK)(m:MA):TA:=tG (wo X) E (bp X.K) m
theorem go{γ δ:Type}{W:Wo}{R1:_p->Hp->α->β->Prop}{R2:_p->Hp->γ->δ->Prop}{m:Env->ao->c_ α}{k:α->ao->c_ γ}{Q:δ->Hp->Prop}{Q':β->Hp->Prop}(μ:Env)(ρ:_p)(st:ao)(rs:RS W ρ H μ σ)(sr:SR W.K ρ st H)(h:wR W E R2 ρ H Q ((m μ st).bind k))(c:∀u st1 ρ1 H1 x,aK ρ H ρ1 H1->SR W.K ρ1 st1 H1->R1 ρ1 H1 u x->wR W E R2 ρ1 H1 Q (k u st1)->Q' x H1):tG W E R1 m σ H Q':=by
 refine⟨μ,ρ,st,rs,sr,?_⟩;cases e:m μ st with
 |ok u st1=>
  rw[e]at h;intro ρ1 H1 x e1 b? r1;exact c u st1 ρ1 H1 x e1 b? r1 (wR.mono h e1)
 |err c st1=>rw[e]at h;exact h
 |bad=>rw[e]at h;exact h
theorem PE.imp{t t':TE}(h:PE X e t)(k:∀σ H Q,t' σ H Q->t σ H Q):PE X e t':=fun ai s σ H Q I q=>h ai s σ H Q I (k σ H Q q)
theorem PT.imp{t t':TT}(h:PT X e t)(k:∀σ H Q,t' σ H Q->t σ H Q):PT X e t':=fun ai s σ H Q I q=>h ai s σ H Q I (k σ H Q q)
theorem PW.imp{t t':TT}(h:PW X e t)(k:∀σ H Q,t' σ H Q->t σ H Q):PW X e t':=fun w ai s σ H Q I q=>h w ai s σ H Q I (k σ H Q q)
theorem PA.imp{e:List Expr}{t t':TA}(h:PA X e t)(k:∀σ H Q,t' σ H Q->t σ H Q):PA X e t':=fun p ai s σ H Q I q=>h p ai s σ H Q I (k σ H Q q)
theorem PS.imp{e:Stmt}{t t':TS}(h:PS X e t)(k:∀D σ H,t' D σ H->t D σ H):PS X e t':=fun ai s σ H D I q=>h ai s σ H D I (k D σ H q)
theorem j'.imp{e:List Stmt}{t t':TS}(h:j' X e t)(k:∀D σ H,t' D σ H->t D σ H):j' X e t':=fun ai s σ H D I q=>h ai s σ H D I (k D σ H q)
theorem PG.imp{t t':TG}(h:PG X e t)(k:∀v σ H Q,t' v σ H Q->t v σ H Q):PG X e t':=fun ai s σ H v u Q I r q=>h ai s σ H v u Q I r (k v σ H Q q)
theorem ej.imp{f:_r->_r->Sem _r}{t t':R2}(h:ej X f t)(k:∀x y H Q,t' x y H Q->t x y H Q):ej X f t':=fun ai s σ H x y v u Q I rx ry q=>h ai s σ H x y v u Q I rx ry (k x y H Q q)
theorem c6.imp{f:_r}{t t':List V->Hp->VK->Prop}(h:c6 X f t)(k:∀xs H Q,t' xs H Q->t xs H Q):c6 X f t':=fun ai s σ H xs us Q I r q=>h ai s σ H xs us Q I r (k xs H Q q)
theorem xp.imp{t t':R2}(h:xp X t)(k:∀x y H Q,t' x y H Q->t x y H Q):xp X t':=fun va sl ai s σ H x y v u Q I rx ry q e=>h va sl ai s σ H x y v u Q I rx ry (k x y H Q q) e
def Fh:aw->Bool
 |.exc _=>true
 |.fn _ _=>true
 |_=>false
def jw(i:Nat):ME:=fun μ st=>match μ[i]? with
 |some (some v)=>if Fh v=true then .bad else .ok v st
 |_=>.bad
theorem Bz.un{W:Wo}{u:aw}{v:V}(h:Bz W ρ H u v)(n:¬ Fh u=true):Rl W.K ρ H u v:=by
 cases u with
 |exc c=>exact absurd rfl n
 |fn L u=>exact absurd rfl n
 |_=>exact h
def mC(v:aw):ME:=fun _ st=>.ok v st
theorem vZ(i:Nat)(hN:X.N[i]?=some x:=by rfl)(hv:Mh X.env.scope x:=by first|exact Or.inl rfl|exact Or.inr (Or.inl rfl)|exact Or.inr (Or.inr rfl))(hd:(x==("__debug__":Str))=false:=by decide)(zN:(x==("__classdict__":Str))=false:=by decide):PE X (.Name x pos) (tE X E (jw i)):=by
 refine PE.imp (Ex hN hv hd zN) ?_;rintro σ H Q ⟨μ,ρ,st,rs,sr,h⟩;unfold jw at h;split at h
 .rename_i v e;obtain⟨w,e',r⟩:=rs.at_ i v e;split at h
  .exact h.elim
  .rename_i n;exact⟨w,e',h ρ H w (aK.refl _ _) sr (r.un n)⟩
 .exact h.elim
theorem xP{v:V}{c:aw}(h:PE X e (tC v))(r:∀ρ H,Rl X.K ρ H c v):PE X e (tE X E (mC c)):=by refine PE.imp h ?_;rintro σ H Q ⟨μ,ρ,st,rs,sr,h⟩;exact h ρ H v (aK.refl _ _) sr (r ρ H)
theorem NI{i j}:PE X (.Constant (.int i) j pos) (tE X E (mC (.int i))):=xP Mj fun _ _=>Rl.mkInt i
theorem Rg{b j}:PE X (.Constant (.bool b) j pos) (tE X E (mC (.bl b))):=xP Lv fun _ _=>Rl.C3 b
theorem NJ{j}:PE X (.Constant .none j pos) (tE X E (mC .cO)):=xP Mk fun _ _=>Rl.Ff
theorem NK{x j}:PE X (.Constant (.str x) j pos) (tE X E (mC (.str x))):=xP Ml fun _ _=>Rl.mkStr x
structure Glob(K:_l)(mg:_j)(x:Str)(c:aw):Prop where
 at_:∃(u:_r)(v:V),mg x=some u/\bT v u/\∀ρ H,Rl K ρ H c v
theorem iY{c:aw}(hg:Gl X x)(h:Glob X.K X.mg x c)(hd:(x==("__debug__":Str))=false:=by decide):PE X (.Name x pos) (tE X E (mC c)):=by obtain⟨u,v,h1,h2,h3⟩:=h.at_;exact xP (Bh hg h1 h2 hd) h3
abbrev F2:=aw->aw->ao->c_ aw
def rM(W:Wo)(E:XK)(f:F2):R2:=fun x y H Q=>∃ρ st u w,SR W.K ρ st H/\Rl W.K ρ H u x/\Rl W.K ρ H w y/\wR W E (Rl W.K) ρ H Q (f u w st)
def ah(f:F2)(a b:ME):ME:=fun μ st=>(a μ st).bind fun x st1=>(b μ st1).bind fun y st2=>f x y st2
section
variable{a b c:Expr}{ma mb mc:ME}{f g:F2}
theorem mV{Q:VK}(h:tE X E (ah f ma mb) σ H Q):PD (rM (wo X) E f) (tE X E ma) (tE X E mb) σ H Q:=by obtain⟨μ,ρ,st,rs,sr,h⟩:=h;refine go μ ρ st rs sr h fun u st1 ρ1 H1 x e1 b? r1 h1=>?_;refine go μ ρ1 st1 (rs.mono e1) b? h1 fun w st2 ρ2 H2 y e2 iZ r2 h2=>?_;exact⟨ρ2,st2,u,w,iZ,Rl.mono e2 _ _ r1,r2,h2⟩
theorem oa{op:Operator}(ho:ej X (binaryOp op) (rM (wo X) E f))(ha:PE X a (tE X E ma))(hb:PE X b (tE X E mb)):PE X (.BinOp a op b pos) (tE X E (ah f ma mb)):=
 PE.imp (Qt ho ha hb) fun _ _ _ h=>mV h
theorem iB(ho:ej X (compareOp op) (rM (wo X) E f))(ha:PE X a (tE X E ma))(hb:PE X b (tE X E mb))(hm:behindInMarks op b=false:=by first|exact EG _|(with_unfolding_all rfl)):PE X (.Compare a [op] [b] pos) (tE X E (ah f ma mb)):=
 PE.imp (IM ho ha hb hm) fun _ _ _ h=>mV h
def aT(m:ME):MT:=fun μ st=>(m μ st).bind fun v aF=>match v with
 |.bl b=>.ok b aF
 |_=>.bad
theorem xQ{m:ME}{Q:Bool->Hp->Prop}(h:tT X E (aT m) σ H Q):tE X E m σ H fun x H'=>∃k,x=.bl k/\Q k H':=by
 obtain⟨μ,ρ,st,rs,sr,h⟩:=h;refine go μ ρ st rs sr h fun u st1 ρ1 H1 x e1 b? r1 h1=>?_;cases u with
 |bl b=>exact⟨b,r1.uj,h1 ρ1 H1 b (aK.refl _ _) b? rfl⟩
 |_=>exact h1.elim
theorem iC(ho:ej X (compareOp op) (rM (wo X) E f))(ha:PE X a (tE X E ma))(hb:PE X b (tE X E mb))(hm:behindInMarks op b=false:=by first|exact EG _|(with_unfolding_all rfl)):PT X (.Compare a [op] [b] pos) (tT X E (aT (ah f ma mb))):=
 PT.imp (IP ho ha hb hm) fun σ H Q h=>by show PD (rM (wo X) E f) (tE X E ma) (tE X E mb) σ H _;exact mV (xQ h)
theorem NL{m:ME}(h:PE X a (tE X E m))(he:∀whole,isTrue a X.env whole=(do let v <- whole;standAt a.pos;holding [v] (truthy v)):=by intro _;rfl):PT X a (tT X E (aT m)):=
 PT.imp (Mm h he) fun σ H Q h=>xQ h
def v7(f g:F2)(a b c:ME):ME:=fun μ st=>(a μ st).bind fun x st1=>(b μ st1).bind fun y st2=>(f x y st2).bind fun z jv=>match z with
 |.bl true=>(c μ jv).bind fun w lZ=>g y w lZ
 |.bl false=>.ok (.bl false) jv
 |_=>.bad
def Tells(f:F2):Prop:=∀u w st,f u w st=.bad\/∃b,f u w st=.ok (.bl b) st
theorem z_(hf:Tells f){Q:VK}(h:tE X E (v7 f g ma mb mc) σ H Q):EI (rM (wo X) E f) (rM (wo X) E g) (tE X E ma) (tE X E mb) (tE X E mc) σ H Q:=by
 obtain⟨μ,ρ,st,rs,sr,h⟩:=h;refine go μ ρ st rs sr h fun u st1 ρ1 H1 x e1 b? r1 h1=>?_;refine go μ ρ1 st1 (rs.mono e1) b? h1 fun w st2 ρ2 H2 y e2 iZ r2 h2=>?_;refine⟨ρ2,st2,u,w,iZ,Rl.mono e2 _ _ r1,r2,?_⟩;rcases hf u w st2 with e|⟨k,e⟩
 .rw[e]at h2;exact h2.elim
 .rw[e]at h2⊢;intro ρ3 H3 z e3 pY rz;rw[rz.uj];refine⟨k,rfl,?_⟩;cases k with
  |true=>
   rw[Vs rfl];refine go μ ρ3 st2 (((rs.mono e1).mono e2).mono e3) pY (wR.mono h2 e3) fun v lZ ρ4 H4 x4 e4 og r4 h4=>?_;exact⟨ρ4,lZ,w,v,og,Rl.mono (e3.trans e4) _ _ r2,r4,h4⟩
  |false=>
   rw[Vx VC];exact h2 ρ3 H3 _ e3 pY (Rl.C3 false)
theorem Fi{MR:CmpOp}(hf:Tells f)(ho:ej X (compareOp op) (rM (wo X) E f))(pD:ej X (compareOp MR) (rM (wo X) E g))(ha:PE X a (tE X E ma))(hb:PE X b (tE X E mb))(hc:PE X c (tE X E mc))(hm:lastMarks [op,MR] [b,c]=false:=by with_unfolding_all rfl):PE X (.Compare a [op,MR] [b,c] pos) (tE X E (v7 f g ma mb mc)):=
 PE.imp (EJ ho pD ha hb hc hm) fun _ _ _ h=>z_ hf h
def mW(a b:ME):ME:=fun μ st=>(a μ st).bind fun x st1=>match x with
 |.bl true=>b μ st1
 |.bl false=>.ok (.bl false) st1
 |_=>.bad
def S7(a b:ME):ME:=fun μ st=>(a μ st).bind fun x st1=>match x with
 |.bl true=>.ok (.bl true) st1
 |.bl false=>b μ st1
 |_=>.bad
def NM(a:ME):ME:=fun μ st=>(a μ st).bind fun x st1=>match x with
 |.bl b=>.ok (.bl (!b)) st1
 |_=>.bad
def i_(a b:MT):MT:=fun μ st=>(a μ st).bind fun x st1=>match x with
 |true=>b μ st1
 |false=>.ok false st1
def eY(a b:MT):MT:=fun μ st=>(a μ st).bind fun x st1=>match x with
 |true=>.ok true st1
 |false=>b μ st1
def dP(a:MT):MT:=fun μ st=>(a μ st).bind fun x st1=>.ok (!x) st1
def xR(t:MT)(a b:ME):ME:=fun μ st=>(t μ st).bind fun x st1=>match x with
 |true=>a μ st1
 |false=>b μ st1
variable{rest:List Expr}{tA IB:MT}
theorem NN{op}{m:ME}(h:PE X a (tE X E m)):PE X (.BoolOp op [a] pos) (tE X E m):=Mq h
theorem NO(ha:PE X a (tE X E ma))(hb:PE X (.BoolOp .And (b::rest) pos) (tE X E mb)):PE X (.BoolOp .And (a::b::rest) pos) (tE X E (mW ma mb)):=by
 refine PE.imp (Mr ha hb) ?_;rintro σ H Q ⟨μ,ρ,st,rs,sr,h⟩;refine go μ ρ st rs sr h fun u st1 ρ1 H1 x e1 b? r1 h1=>?_;cases u with
 |bl k=>
  refine⟨k,r1.uj,?_⟩;cases k with
  |true=>rw[Vs rfl];exact⟨μ,ρ1,st1,rs.mono e1,b?,h1⟩
  |false=>rw[Vx VC];exact h1 ρ1 H1 _ (aK.refl _ _) b? (Rl.C3 false)
 |_=>exact h1.elim
theorem Rh(ha:PE X a (tE X E ma))(hb:PE X (.BoolOp .Or (b::rest) pos) (tE X E mb)):PE X (.BoolOp .Or (a::b::rest) pos) (tE X E (S7 ma mb)):=by
 refine PE.imp (Qg ha hb) ?_;rintro σ H Q ⟨μ,ρ,st,rs,sr,h⟩;refine go μ ρ st rs sr h fun u st1 ρ1 H1 x e1 b? r1 h1=>?_;cases u with
 |bl k=>
  refine⟨k,r1.uj,?_⟩;cases k with
  |true=>rw[Vs rfl];exact h1 ρ1 H1 _ (aK.refl _ _) b? (Rl.C3 true)
  |false=>rw[Vx VC];exact⟨μ,ρ1,st1,rs.mono e1,b?,h1⟩
 |_=>exact h1.elim
theorem NP(ha:PE X a (tE X E ma)):PE X (.UnaryOp .Not a pos) (tE X E (NM ma)):=by
 refine PE.imp (Ms ha) ?_;rintro σ H Q ⟨μ,ρ,st,rs,sr,h⟩;refine go μ ρ st rs sr h fun u st1 ρ1 H1 x e1 b? r1 h1=>?_;cases u with
 |bl k=>exact⟨k,r1.uj,h1 ρ1 H1 _ (aK.refl _ _) b? (Rl.C3 _)⟩
 |_=>exact h1.elim
theorem Jy(ha:PT X a (tT X E tA)):PW X (.BoolOp .And [a] pos) (tT X E tA):=IC ha
theorem NQ(ha:PT X a (tT X E tA)):PW X (.BoolOp .Or [a] pos) (tT X E tA):=Mn ha
theorem NR(ha:PT X a (tT X E tA))(hb:PW X (.BoolOp .And (b::rest) pos) (tT X E IB)):PW X (.BoolOp .And (a::b::rest) pos) (tT X E (i_ tA IB)):=by
 refine PW.imp (Mo ha hb) ?_;rintro σ H Q ⟨μ,ρ,st,rs,sr,h⟩;refine go (R1:=RB) μ ρ st rs sr h fun u st1 ρ1 H1 x e1 b? r1 h1=>?_;cases r1;cases u with
 |true=>rw[Vs rfl];exact⟨μ,ρ1,st1,rs.mono e1,b?,h1⟩
 |false=>rw[Vx VC];exact h1 ρ1 H1 _ (aK.refl _ _) b? rfl
theorem Ri(ha:PT X a (tT X E tA))(hb:PW X (.BoolOp .Or (b::rest) pos) (tT X E IB)):PW X (.BoolOp .Or (a::b::rest) pos) (tT X E (eY tA IB)):=by
 refine PW.imp (Qd ha hb) ?_;rintro σ H Q ⟨μ,ρ,st,rs,sr,h⟩;refine go (R1:=RB) μ ρ st rs sr h fun u st1 ρ1 H1 x e1 b? r1 h1=>?_;cases r1;cases u with
 |true=>rw[Vs rfl];exact h1 ρ1 H1 _ (aK.refl _ _) b? rfl
 |false=>rw[Vx VC];exact⟨μ,ρ1,st1,rs.mono e1,b?,h1⟩
theorem UU{t:MT}(h:PW X e (tT X E t)):PT X e (tT X E t):=h.pt
theorem NT(ha:PT X a (tT X E tA)):PT X (.UnaryOp .Not a pos) (tT X E (dP tA)):=by refine PT.imp (Mp ha) ?_;rintro σ H Q ⟨μ,ρ,st,rs,sr,h⟩;refine go (R1:=RB) μ ρ st rs sr h fun u st1 ρ1 H1 x e1 b? r1 h1=>?_;cases r1;exact h1 ρ1 H1 _ (aK.refl _ _) b? rfl
theorem Rj(hc:PT X c (tT X E tA))(ha:PE X a (tE X E ma))(hb:PE X b (tE X E mb)):PE X (.IfExp c a b pos) (tE X E (xR tA ma mb)):=by
 refine PE.imp (Ey hc ha hb) ?_;rintro σ H Q ⟨μ,ρ,st,rs,sr,h⟩;refine go (R1:=RB) μ ρ st rs sr h fun u st1 ρ1 H1 x e1 b? r1 h1=>?_;cases r1;cases u with
 |true=>rw[Vs rfl];exact⟨μ,ρ1,st1,rs.mono e1,b?,h1⟩
 |false=>rw[Vx VC];exact⟨μ,ρ1,st1,rs.mono e1,b?,h1⟩
end
def ak:MA:=fun _ st=>.ok [] st
def ae(a:ME)(r:MA):MA:=fun μ st=>(a μ st).bind fun x st1=>(r μ st1).bind fun xs st2=>.ok (x::xs) st2
abbrev aD: ME := jw 0
abbrev aO: ME := jw 1
abbrev bH: ME := jw 2
abbrev ck: ME := jw 3
abbrev fC: ME := jw 4
abbrev eR: ME := jw 5
abbrev jt: ME := jw 6
abbrev g?: ME := jw 7
abbrev NU: ME := jw 9
abbrev Fj: ME := jw 10
abbrev C4: ME := jw 11
abbrev bX: ME := mC (.int 0)
abbrev bA: ME := mC (.int 1)
abbrev fP: ME := mC (.int 2)
abbrev lu: ME := mC (.int 3)
abbrev kd: ME := mC (.int 4)
abbrev Jz: ME := mC (.int 5)
abbrev JA: ME := mC (.int 6)
abbrev Ir: ME := mC (.int 7)
abbrev z!: ME := mC (.int 8)
abbrev xS: ME := mC (.int 10)
abbrev Fl: ME := mC (.int 60)
abbrev Fm: ME := mC (.int 80)
abbrev Fn: ME := mC (.int 99)
abbrev xT: ME := mC (.int 256)
abbrev xU: ME := mC (.int 997)
abbrev eZ: ME := mC (.int 2147483647)
abbrev qs(x : Str): ME := mC (.str x)
abbrev qI(i : Int): Option aw := some (.int i)
abbrev qN(n : Nat): Option aw := some (.int n)
abbrev qS(x : Str): Option aw := some (.str x)
abbrev qL(n : Nat): Option aw := some (.loc n)
abbrev qn: Option aw := none
def fO(a:MA):ME:=fun μ st=>(a μ st).bind fun xs st1=>if xs.length<=sizeLine then .ok (.tup xs) st1 else .bad
def bq(a:MA):ME:=fun μ st=>(a μ st).bind fun xs st1=>if xs.length<=sizeLine then .ok (.loc st1.length) (st1++[.lst xs])else .bad
abbrev FN:=List aw->ao->c_ aw
def aj(f:FN)(a:MA):ME:=fun μ st=>(a μ st).bind fun xs st1=>f xs st1
def NV(W:Wo)(f:FN):Sp:=fun vs H Q E=>∃us ρ st,bp W.K ρ H us vs/\SR W.K ρ st H/\wR W E (Rl W.K) ρ H Q (f us st)
def cM(W:Wo)(E:XK)(f:FN):List V->Hp->VK->Prop:=fun xs H Q=>∃ρ st us,SR W.K ρ st H/\bp W.K ρ H us xs/\wR W E (Rl W.K) ρ H Q (f us st)
section
variable{m:ME}{ms:MA}{f:FN}
theorem Fo:PA X [] (tL X E ak):=PA.imp vJ fun σ H Q⟨μ,ρ,st,rs,sr,h⟩=>h ρ H [] (aK.refl _ _) sr bp.nil
theorem qu(ha:PE X e (tE X E m))(hr:PA X es (tL X E ms))(hs:starEach (e::es) X.env=(false,eval e X.env)::starEach es X.env:=by rfl):PA X (e::es) (tL X E (ae m ms)):=by refine PA.imp (kS ha hr hs) ?_;rintro σ H Q ⟨μ,ρ,st,rs,sr,h⟩;refine go μ ρ st rs sr h fun u st1 ρ1 H1 x e1 b? r1 h1=>?_;refine go (R1:=bp X.K) μ ρ1 st1 (rs.mono e1) b? h1 fun w st2 ρ2 H2 y e2 iZ r2 h2=>?_;exact h2 ρ2 H2 _ (aK.refl _ _) iZ (bp.cons (Rl.mono e2 _ _ r1) r2)
theorem NW{k}(h:PA X es (tL X E ms)):PE X (.Tuple es k pos) (tE X E (fO ms)):=by
 refine PE.imp (MU h) ?_;rintro σ H Q ⟨μ,ρ,st,rs,sr,h⟩;refine go (R1:=bp X.K) μ ρ st rs sr h fun us st1 ρ1 H1 xs e1 b? r1 h1=>?_;by_cases hz:us.length<=sizeLine
 .rw[Vs hz]at h1;refine⟨by rw[<-r1.length];exact hz,fun p hp=>?_⟩;have s:=dO (o:=.tup xs) hp;exact h1 ρ1 _ _ (aK.same s) (b?.grow s) (Rl.pK c! (bp.mono (aK.same s) _ _ r1))
 .rw[Vx hz]at h1;exact h1.elim
theorem gH{K:_l}{st:ao}{us:List aw}{xs:List V}(sr:SR K ρ st H)(r:bp K ρ H us xs){p:_t}(hp:H p=none):
  aK ρ H (ρ++[p]) (upd H p (.lst xs))/\SR K (ρ++[p]) (st++[.lst us]) (upd H p (.lst xs))/\Rl K (ρ++[p]) (upd H p (.lst xs)) (.loc st.length) (.ref p):=by
 have s:=dO (o:=.lst xs) hp;refine⟨aK.snoc p s,sr.alloc hp ⟨xs,c!,bp.mono (aK.snoc p s) _ _ r⟩,Rl.Fg ?_⟩;rw[<-sr.len,VS (Vv _),Wy];rfl
theorem NX(h:PA X es (tL X E ms)):PE X (.List es pos) (tE X E (bq ms)):=by
 refine PE.imp (MV h) ?_;rintro σ H Q ⟨μ,ρ,st,rs,sr,h⟩;refine go (R1:=bp X.K) μ ρ st rs sr h fun us st1 ρ1 H1 xs e1 b? r1 h1=>?_;by_cases hz:us.length<=sizeLine
 .rw[Vs hz]at h1;refine⟨by rw[<-r1.length];exact hz,fun p hp=>?_⟩;obtain⟨a,b,c⟩:=gH b? r1 hp;exact h1 _ _ _ a b c
 .rw[Vx hz]at h1;exact h1.elim
theorem JB{fd:FuncData}(F:kg X.prog X.w X.K X.mg X.base CX k fa fd ps (NV ⟨X.K,X.mg,[]⟩ f))(hr:gL k X.A)(hg:Gl X x)(hm:X.mg x=some (.ref fa))(hk:W.keepIn X.K (.ref fa)=true)(hb:Binds X.K fd ps [])(hx:Passes CX X E)(ha:PA X (e::es) (tL X E ms))(qP:(x==("__debug__":Str))=false:=by decide)(he:starEach (e::es) X.env=(false,eval e X.env)::starEach es X.env:=by rfl)(kT:(backTo pos (starEach es X.env)).any (·.1)=false:=by rfl):
  PE X (.Call (.Name x p) (e::es) [] pos) (tE X E (aj f ms)):=by
 refine PE.imp (IT F hr hg hm hk hb .nil hx ha qP he kT) ?_;rintro σ H Q ⟨μ,ρ,st,rs,sr,h⟩;refine go (R1:=bp X.K) μ ρ st rs sr h fun us st1 ρ1 H1 xs e1 b? r1 h1=>?_;rw[VW];exact⟨us,ρ1,st1,r1,b?,wR.pn h1⟩
theorem mX{id:String}(hc:c6 X (.builtin id) (cM (wo X) E f))(hg:Gl X x)(hm:X.mg x=none)(hv:bootBuiltins x=some (.builtin id))(ha:PA X (e::es) (tL X E ms))(hn:x ≠ "__name__":=by decide)(qP:(x==("__debug__":Str))=false:=by decide)(he:starEach (e::es) X.env=(false,eval e X.env)::starEach es X.env:=by rfl)(kT:(backTo pos (starEach es X.env)).any (·.1)=false:=by rfl):PE X (.Call (.Name x p) (e::es) [] pos) (tE X E (aj f ms)):=by refine PE.imp (qQ hc hg hm hv ha hn qP he kT) ?_;rintro σ H Q ⟨μ,ρ,st,rs,sr,h⟩;exact go (R1:=bp X.K) μ ρ st rs sr h fun us st1 ρ1 H1 xs e1 b? r1 h1=>⟨ρ1,st1,us,b?,r1,h1⟩
theorem oh{T:String}(hc:c6 X (.type T) (cM (wo X) E f))(hg:Gl X x)(hm:X.mg x=none)(hv:bootBuiltins x=some (.type T))(ha:PA X (e::es) (tL X E ms))(hn:x ≠ "__name__":=by decide)(qP:(x==("__debug__":Str))=false:=by decide)(he:starEach (e::es) X.env=(false,eval e X.env)::starEach es X.env:=by rfl)(kT:(backTo pos (starEach es X.env)).any (·.1)=false:=by rfl):PE X (.Call (.Name x p) (e::es) [] pos) (tE X E (aj f ms)):=by refine PE.imp (CO hc hg hm hv ha hn qP he kT) ?_;rintro σ H Q ⟨μ,ρ,st,rs,sr,h⟩;exact go (R1:=bp X.K) μ ρ st rs sr h fun us st1 ρ1 H1 xs e1 b? r1 h1=>⟨ρ1,st1,us,b?,r1,h1⟩
end
section
variable{a b:Expr}{ma mb:ME}{f:F2}
theorem LM(hr:xp X (rM (wo X) E f))(ha:PE X a (tE X E ma))(hb:PE X b (tE X E mb))(hs:vN b:=by exact fun _ _=>rfl):PE X (.Subscript a b pos) (tE X E (ah f ma mb)):=
 PE.imp (QL hr ha hb hs) fun _ _ _ h=>mV h
end
def wS(W:Wo)(E:XK)(ρ:_p)(H:Hp)(D:Ends):cD->Prop
 |.nx μ st=>∀ρ' H' σ',aK ρ H ρ' H'->SR W.K ρ' st H'->RS W ρ' H' μ σ'->D.nx σ' H'
 |.rt v st=>∀ρ' H' x,aK ρ H ρ' H'->SR W.K ρ' st H'->Rl W.K ρ' H' v x->D.rt x H'
 |.bk μ st=>∀ρ' H' σ',aK ρ H ρ' H'->SR W.K ρ' st H'->RS W ρ' H' μ σ'->D.bk σ' H'
 |.ct μ st=>∀ρ' H' σ',aK ρ H ρ' H'->SR W.K ρ' st H'->RS W ρ' H' μ σ'->D.ct σ' H'
 |.er c _ st=>∃C,W.mg c=some (.ref C)/\∀ρ' H',aK ρ H ρ' H'->SR W.K ρ' st H'->E (.ref C) none H'
 |.bad=>False
theorem wS.mono{W:Wo}{D:Ends}{r:cD}(h:wS W E ρ H D r)(e:aK ρ H ρ' H'):wS W E ρ' H' D r:=by
 cases r with
 |nx μ st=>exact fun ρ2 H2 σ2 e2 s r=>h ρ2 H2 σ2 (e.trans e2) s r
 |rt v st=>exact fun ρ2 H2 x e2 s r=>h ρ2 H2 x (e.trans e2) s r
 |bk μ st=>exact fun ρ2 H2 σ2 e2 s r=>h ρ2 H2 σ2 (e.trans e2) s r
 |ct μ st=>exact fun ρ2 H2 σ2 e2 s r=>h ρ2 H2 σ2 (e.trans e2) s r
 |er c μ st=>obtain⟨C,h1,h2⟩:=h;exact⟨C,h1,fun ρ2 H2 e2 s=>h2 ρ2 H2 (e.trans e2) s⟩
 |bad=>exact h
def tS(X:Cx)(E:XK)(m:MB):TS:=fun D σ H=>∃μ ρ st,RS (wo X) ρ H μ σ/\SR X.K ρ st H/\wS (wo X) E ρ H D (m μ st)
@[reducible] def c_.sb(r:c_ α)(μ:Env)(k:α->ao->cD):cD:=match r with
 |.ok a st=>k a st
 |.err c st=>.er c μ st
 |.bad=>.bad
theorem Ei{W:Wo}{R1:_p->Hp->α->β->Prop}{m:Env->ao->c_ α}{k:α->ao->cD}{D:Ends}{Q':β->Hp->Prop}(μ:Env)(ρ:_p)(st:ao)(rs:RS W ρ H μ σ)(sr:SR W.K ρ st H)(h:wS W E ρ H D ((m μ st).sb μ k))(c:∀u st1 ρ1 H1 x,aK ρ H ρ1 H1->SR W.K ρ1 st1 H1->R1 ρ1 H1 u x->wS W E ρ1 H1 D (k u st1)->Q' x H1):tG W E R1 m σ H Q':=by
 refine⟨μ,ρ,st,rs,sr,?_⟩;cases e:m μ st with
 |ok u st1=>
  rw[e]at h;intro ρ1 H1 x e1 b? r1;exact c u st1 ρ1 H1 x e1 b? r1 (wS.mono h e1)
 |err c st1=>rw[e]at h;exact h
 |bad=>rw[e]at h;exact h
def aJ:MB:=fun μ st=>.nx μ st
def ay(a b:MB):MB:=fun μ st=>match a μ st with
 |.nx μ' aF=>b μ' aF
 |r=>r
def cF(m:ME):MB:=fun μ st=>(m μ st).sb μ fun _ aF=>.nx μ aF
def aP(m:ME):MB:=fun μ st=>(m μ st).sb μ fun v aF=>.rt v aF
def cU(t:MT)(a b:MB):MB:=fun μ st=>(t μ st).sb μ fun k aF=>match k with
 |true=>a μ aF
 |false=>b μ aF
def aB(i:Nat)(m:ME):MB:=fun μ st=>(m μ st).sb μ fun v aF=>.nx (μ.set i (some v)) aF
def fT(c:Str)(m:MA):MB:=fun μ st=>(m μ st).sb μ fun vs aF=>if vs.length<=sizeLine then .er c μ aF else .bad
section
variable{s1:Stmt}{rest:List Stmt}{m:ME}{a b:MB}
theorem NY:j' X [] (tS X E aJ):=j'.imp ID fun D σ H⟨μ,ρ,st,rs,sr,h⟩=>h ρ H σ (aK.refl _ _) sr rs
theorem BA(h1:PS X s1 (tS X E a))(h2:j' X rest (tS X E b)):j' X (s1::rest) (tS X E (ay a b)):=by
 refine j'.imp (Ez h1 h2) ?_;rintro D σ H ⟨μ,ρ,st,rs,sr,h⟩;refine⟨μ,ρ,st,rs,sr,?_⟩;unfold ay at h;cases e:a μ st with
 |nx μ' aF=>
  rw[e]at h;intro ρ1 H1 σ1 e1 b? JC;exact⟨μ',ρ1,aF,JC,b?,wS.mono h e1⟩
 |rt v aF=>rw[e]at h;exact h
 |bk μ' aF=>rw[e]at h;exact h
 |ct μ' aF=>rw[e]at h;exact h
 |er c μ' aF=>rw[e]at h;exact h
 |bad=>rw[e]at h;exact h
theorem Fp(h1:PS X s1 (tS X E a)):j' X [s1] (tS X E a):=IE h1
theorem JD(he:PE X e (tE X E m))(hs:swapsWith e none pos.line X.env=pure false:=by rfl):PS X (.Expr e pos) (tS X E (cF m)):=by refine PS.imp (IF he hs) ?_;rintro D σ H ⟨μ,ρ,st,rs,sr,h⟩;exact Ei μ ρ st rs sr h fun u st1 ρ1 H1 x e1 b? r1 h1=>h1 ρ1 H1 σ (aK.refl _ _) b? (rs.mono e1)
theorem NZ(he:PE X e (tE X E m)):PS X (.Return (some e) pos) (tS X E (aP m)):=by refine PS.imp (Mt he) ?_;rintro D σ H ⟨μ,ρ,st,rs,sr,h⟩;exact Ei μ ρ st rs sr h fun u st1 ρ1 H1 x e1 b? r1 h1=>h1 ρ1 H1 x (aK.refl _ _) b? r1
theorem Rk{c:Expr}{sa sb:List Stmt}{t:MT}(hc:PT X c (tT X E t))(ha:j' X sa (tS X E a))(hb:j' X sb (tS X E b)):PS X (.If c sa sb pos) (tS X E (cU t a b)):=by
 refine PS.imp (Qj hc ha hb) ?_;rintro D σ H ⟨μ,ρ,st,rs,sr,h⟩;refine Ei (R1:=RB) μ ρ st rs sr h fun u st1 ρ1 H1 x e1 b? r1 h1=>?_;cases r1;cases u with
 |true=>rw[Vs rfl];exact⟨μ,ρ1,st1,rs.mono e1,b?,h1⟩
 |false=>rw[Vx VC];exact⟨μ,ρ1,st1,rs.mono e1,b?,h1⟩
theorem xV{D:Ends}(h:tS X E (aB i m) D σ H):IJ (tE X E m) (xy i) D σ H:=by obtain⟨μ,ρ,st,rs,sr,h⟩:=h;exact Ei μ ρ st rs sr h fun u st1 ρ1 H1 x e1 b? r1 h1=>h1 ρ1 H1 _ (aK.refl _ _) b? ((rs.mono e1).set i r1)
theorem N0(i:Nat)(hN:X.N.Nodup)(he:PE X e (tE X E m))(hi:X.N[i]?=some x:=by rfl)(hx:Loc X.env.scope x:=by first|exact Or.inl rfl|exact Or.inr rfl)(hs:swapsWith e (some (.Name x pos')) pos.line X.env=pure false:=by rfl)(hf:X.fn x=true\/X.env.scope.names.lookup x=some .local:=by first|exact .inl rfl|exact .inr rfl|assumption):PS X (.Assign [.Name x pos'] e pos) (tS X E (aB i m)):=
 PS.imp (My hN hi hx he hs hf) fun _ _ _ h=>xV h
theorem Fq{B z8:String}{bm:_n}{ms:MA}(hX:Raises X E)(hc:X.calm=true)(hm:X.mg x=some (.ref C))(hq:W.excIn X.K C bm newId=true)(FB:ExcBaseFacts B newId z8 bm)(hg:Gl X x)(ha:PA X (e₀::es) (tL X E ms))(he:starEach (e₀::es) X.env=(false,eval e₀ X.env)::starEach es X.env:=by rfl)(kT:(backTo b8 (starEach es X.env)).any (·.1)=false:=by rfl)(hd:(x==("__debug__":Str))=false:=by decide):
  PS X (.Raise (some (.Call (.Name x np) (e₀::es) [] b8)) none pos) (tS X E (fT x ms)):=by
 refine PS.imp (E! (E:=E) hX hc hm hq FB hg ha he kT hd) ?_;rintro D σ H ⟨μ,ρ,st,rs,sr,h⟩;refine Ei (R1:=bp X.K) μ ρ st rs sr h fun us st1 ρ1 H1 xs e1 b? r1 h1=>?_;by_cases hz:us.length<=sizeLine
 .rw[Vs hz]at h1;obtain⟨C',q1,q2⟩:=h1;have e:C'=C:=by have:=q1.symm.trans hm;injection this with this;injection this
  subst e;exact⟨by rw[<-r1.length];exact hz,q2 ρ1 H1 (aK.refl _ _) b?⟩
 .rw[Vx hz]at h1;exact h1.elim
end
def gk(np n:Nat)(body:MB):FN:=fun us st=>if us.length=np then(match body (us.map some++List.replicate (n-np) none) st with
 |.nx _ aF=>.ok .cO aF
 |.rt v aF=>.ok v aF
 |.er c _ aF=>.err c aF
 |_=>.bad)else .bad
theorem RS.start{W:Wo}{us:List aw}{vs:List V}(r:bp W.K ρ H us vs):RS W ρ H (us.map some++List.replicate (N.length-us.length) none) (L2.start N vs):=by
 have hl:=r.length;refine⟨by simp[L2.start,hl],fun i u e=>?_⟩;rcases WC i us.length with q|q
 .rw[V' (by rw[Vt];exact q),VV]at e;have e':us[i]?=some u:=by
   cases z:us[i]? with
   |none=>rw[z]at e;cases e
   |some w=>rw[z]at e;exact W! _ (V! (V! e))
  obtain⟨v,h1,h2⟩:=r.get e';refine⟨v,?_,Bz.of h2⟩;unfold L2.start;rw[V' (by rw[Vt,<-hl];exact q),VV,h1];rfl
 .rw[VS (by rw[Vt];exact q)]at e;rw[XC]at e;split at e
  .cases e
  .cases e
section
variable{K:_l}{mg:_j}
theorem Fs{st:Stmt}{fd:FuncData}{body:MB}(F:Jf K x qual st f fd)(S:iW N ps (bW st))
  (h:∀ (iw:_r) (A:_u) (outer:List PySem.Env) (s:_s) (H:Hp) (E:XK),gL k (A.deeper (envOfC qual (bW st) s.heap.objs.size f iw)) ->
   j' (hV (lI P w) P w K mg base N qual (bW st) f iw A outer s H E) (fM st) (tS (hV (lI P w) P w K mg base N qual (bW st) f iw A outer s H E) E body)):
  kg P w K mg base (lI P w) (k+1) f fd ps (NV ⟨K,mg,[]⟩ (gk ps.length N.length body)):=by
 refine F.okX S (fun vs H Q E q=>?_) (fun iw A outer s H vs Q E hr q=>⟨_,h iw A outer s H E hr,?_⟩)
 .obtain⟨us,ρ,st,r,sr,q⟩:=q;by_cases hl:us.length=ps.length
  .rw[<-r.length];exact hl
  .unfold gk at q;rw[Vx hl]at q;exact q.elim
 .obtain⟨us,ρ,aF,r,sr,q⟩:=q;unfold gk at q;by_cases hl:us.length=ps.length
  .rw[Vs hl,<-hl]at q;refine⟨_,ρ,aF,RS.start r,sr,?_⟩;revert q;cases body (us.map some++List.replicate (N.length-us.length) none) aF with
   |nx μ st2=>exact fun q ρ' H' σ' e s _=>q ρ' H' .cO e s Rl.Ff
   |rt v st2=>exact fun q=>q
   |er c μ st2=>exact fun q=>q
   |bk μ st2=>exact fun q=>q.elim
   |ct μ st2=>exact fun q=>q.elim
   |bad=>exact fun q=>q.elim
  .rw[Vx hl]at q;exact q.elim
end
def Sz(i:Int):Prop:=i.natAbs.log2<1000000
instance (i:Int):Decidable (Sz i):=inferInstanceAs (Decidable (_<_))
theorem Sz.big{i:Int}(h:Sz i):kj 1000001 i:=by show _<_;have h1:i.natAbs<2 ^ (i.natAbs.log2+1):=Z_;exact VQ h1 (Wf (by decide) (by have:i.natAbs.log2<1000000:=h;lia))
theorem Sz.of{i:Int}(h:kj k i)(hk:k<=1000000):Sz i:=by
 show i.natAbs.log2<1000000;have h':i.natAbs<2 ^ k:=h;by_cases z:i.natAbs=0
 .rw[z];decide
 .exact VQ ((Yk z).mpr h') hk
theorem Sz.mul{i:Int}(h:Sz i)(k:Sz j):Bs i j:=⟨_,_,h.big,k.big,by decide,by decide⟩
def Dz(i:Int):Prop:=i≠0/\i.natAbs.log2<8000
instance (i:Int):Decidable (Dz i):=inferInstanceAs (Decidable (_/\_))
theorem Dz.ok{i:Int}(h:Dz j):Bt i j:=by refine⟨h.1,?_⟩;show _<_;have h1:j.natAbs<2 ^ (j.natAbs.log2+1):=Z_;exact VQ h1 (Wf (by decide) (by have:=h.2;lia))
theorem Dz.of{i:Int}(h0:i≠0)(h:kj k i)(hk:k<=8000):Dz i:=by refine⟨h0,?_⟩;have h':i.natAbs<2 ^ k:=h;exact VQ ((Yk (by lia)).mpr h') hk
def MulOk(i j:Int):Prop:=(Sz i/\Sz j)\/ED i j
instance (i j:Int):Decidable (ED i j):=inferInstanceAs (Decidable (_\/_))
instance (i j:Int):Decidable (MulOk i j):=inferInstanceAs (Decidable (_\/_))
instance (i j:Int):Decidable (EC i j):=inferInstanceAs (Decidable (_/\_/\_))
def u5(k:Nat)(us:List aw):List aw:=(List.replicate k us).flatten
def aQ:F2
 |.int i,.int j,st=>.ok (.int (i+j)) st
 |.str a,.str b,st=>if a.length+b.length<=sizeLine then .ok (.str (a++b)) st else .bad
 |.tup us,.tup ws,st=>if us.length+ws.length<=sizeLine then .ok (.tup (us++ws)) st else .bad
 |.loc n,.loc m,st=>match st[n]?,st[m]? with
  |some (.lst us),some (.lst ws)=>if us.length+ws.length<=sizeLine then .ok (.loc st.length) (st++[.lst (us++ws)])else .bad
  |_,_=>.bad
 |_,_,_=>.bad
def uz(g:Int->Int->ao->c_ aw):F2
 |.int i,.int j,st=>g i j st
 |_,_,_=>.bad
theorem BB(g:Int->Int->ao->c_ aw)(u w:aw)(st:ao):(∃i j,u=.int i/\w=.int j)\/uz g u w st=.bad:=by
 cases u with
 |int i=>
  cases w with
  |int j=>exact .inl ⟨i,j,rfl,rfl⟩
  |_=>exact .inr rfl
 |_=>exact .inr rfl
theorem i!{g:Int->Int->ao->c_ aw}{W:Wo}{st:ao}{Q:VK}{u w:aw}(h:wR W E (Rl W.K) ρ H Q (uz g u w st)):∃i j,u=.int i/\w=.int j/\wR W E (Rl W.K) ρ H Q (g i j st):=by
 rcases BB g u w st with⟨i,j,rfl,rfl⟩|z
 .exact⟨i,j,rfl,rfl,h⟩
 .rw[z]at h;exact h.elim
def uA:F2:=uz fun i j st=>.ok (.int (i-j)) st
def dz:F2
 |.int i,.int j,st=>if MulOk i j then .ok (.int (i*j)) st else .bad
 |.loc n,.int k,st=>match st[n]? with
  |some (.lst us)=>if -(2 ^ 63)<=k/\k<2 ^ 63/\us.length*k.toNat<=sizeLine then .ok (.loc st.length) (st++[.lst (u5 k.toNat us)])else .bad
  |_=>.bad
 |_,_,_=>.bad
def bV:F2:=uz fun i j st=>if Dz j then .ok (.int (i.fdiv j)) st else .bad
def bf:F2:=uz fun i j st=>if j=0 then .bad else .ok (.int (i.fmod j)) st
def JE:F2:=uz fun i j st=>if EC i j then .ok (.int (i ^ j.toNat)) st else .bad
def ltV:F2:=uz fun i j st=>.ok (.bl (decide (i<j))) st
def Rm:F2:=uz fun i j st=>.ok (.bl (decide (i<=j))) st
def BC:F2:=uz fun i j st=>.ok (.bl (decide (j<i))) st
def Rn:F2:=uz fun i j st=>.ok (.bl (decide (j<=i))) st
theorem Ft:Tells Rm:=fun u w st=>(BB _ u w st).elim (fun⟨_,_,e1,e2⟩=>.inr (by rw[e1,e2];exact⟨_,rfl⟩)) .inl
theorem fu{W:Wo}{st:ao}{Q:VK}{i:Int}(sr:SR W.K ρ st H)(h:wR W E (Rl W.K) ρ H Q (.ok (.int i) st)):Q (.int i) H:=h ρ H _ (aK.refl _ _) sr (Rl.mkInt i)
theorem e_{W:Wo}{st:ao}{Q:VK}{i:Bool}(sr:SR W.K ρ st H)(h:wR W E (Rl W.K) ρ H Q (.ok (.bl i) st)):Q (.bl i) H:=h ρ H _ (aK.refl _ _) sr (Rl.C3 i)
theorem bp.Ro{K:_l}{us:List aw}{xs:List V}(r:bp K ρ H us xs):∀k:Nat,bp K ρ H (u5 k us) (List.replicate k xs).flatten
 |0=>bp.nil
 |k+1=>by unfold u5;rw[VT,VT,Wu,Wu];exact r.append (bp.Ro r k)
theorem Fu:ej X (binaryOp .Add) (fun x y H Q=>∃a b ys,x=.ref a/\y=.ref b/\kQ X.K H a []/\kQ X.K H b ys/\Q (.ref b) H):=by
 intro ai s σ H x y v u Q I rx ry h;obtain⟨a,b,ys,rfl,rfl,ha,hb,q⟩:=h;cases rx;cases ry;obtain⟨aM,r1,p1,_⟩:=I.tuple ha;obtain⟨fS,r2,p2,_⟩:=I.tuple hb;cases r1;obtain⟨⟨cls,dd,data,sl⟩,ho,hc,n,hd⟩:=id p1;obtain⟨⟨Ud,SF,data2,MZ⟩,ER,PF,n2,hd2⟩:=id p2;simp only at hc hd PF hd2;subst hc hd PF hd2;exact Z5 ⟨_,ho,rfl⟩ ⟨_,ER,rfl⟩ Y8 ZI X9 X5 (XZ _ _)
  (tuple_addW0 a b #[] fS.toArray n n2 dd SF sl MZ (by simp)) ⟨ho,ER,⟨.ref b,H,I,rfl,q⟩⟩
theorem JF:ej X (binaryOp .Add) (rM (wo X) E aQ):=by
 refine ej.imp (ej.or MJ (ej.or zS (ej.or M8 (ej.or I_ Fu)))) ?_;rintro x y H Q ⟨ρ,st,u,w,sr,r1,r2,h⟩;cases u<;>cases w<;>try exact h.elim
 case int.int i j=>exact .inl ⟨i,j,r1.c7,r2.c7,fu sr h⟩
 case str.str a b=>
  unfold aQ at h;dsimp only at h;split at h
  .rename_i hz;exact .inr (.inl ⟨a,b,r1.fN,r2.fN,hz,h ρ H _ (aK.refl _ _) sr (Rl.mkStr _)⟩)
  .exact h.elim
 case tup.tup us ws=>
  unfold aQ at h;dsimp only at h;split at h
  .rename_i hz;obtain⟨a,xs,rfl,ha,ra⟩:=r1.h!;obtain⟨b,ys,rfl,hb,rb⟩:=r2.h!;by_cases hx:xs=[]
   .subst hx;have hu:us=[]:=WZ ra.length;subst hu;exact .inr (.inr (.inr (.inr ⟨a,b,ys,rfl,rfl,ha,hb,h ρ H _ (aK.refl _ _) sr r2⟩)))
   .refine .inr (.inr (.inr (.inl ⟨a,b,xs,ys,rfl,rfl,ha,hb,hx,by rw[<-ra.length,<-rb.length];exact hz,fun hy=>?_,fun hy p hp=>?_⟩)))
    .subst hy;have hw:ws=[]:=WZ rb.length;subst hw;rw[VW]at h;exact h ρ H _ (aK.refl _ _) sr r1
    .have s:=dO (o:=.tup (xs++ys)) hp;exact h ρ _ _ (aK.same s) (sr.grow s) (Rl.pK c! (bp.mono (aK.same s) _ _ (ra.append rb)))
  .exact h.elim
 case loc.loc n m=>
  unfold aQ at h;dsimp only at h;split at h
  .rename_i us ws e1 e2;split at h
   .rename_i hz;obtain⟨a,rfl,ha⟩:=r1.fD;obtain⟨b,rfl,hb⟩:=r2.fD;obtain⟨xs,h1,q1⟩:=sr.cell n _ a e1 ha;obtain⟨ys,h2,q2⟩:=sr.cell m _ b e2 hb;refine .inr (.inr (.inl ⟨a,b,xs,ys,rfl,rfl,h1,h2,by rw[<-q1.length,<-q2.length];exact hz,fun p hp=>?_⟩));obtain⟨k1,k2,k3⟩:=gH sr (q1.append q2) hp;exact h _ _ _ k1 k2 k3
   .exact h.elim
  .exact h.elim
theorem JG:ej X (binaryOp .Sub) (rM (wo X) E uA):=by refine ej.imp MK ?_;rintro x y H Q ⟨ρ,st,u,w,sr,r1,r2,h⟩;obtain⟨i,j,rfl,rfl,q⟩:=i! h;exact⟨i,j,r1.c7,r2.c7,fu sr q⟩
theorem JH:ej X (binaryOp .Mult) (rM (wo X) E dz):=by
 refine ej.imp (ej.or Jj (ej.or ML M9)) ?_;rintro x y H Q ⟨ρ,st,u,w,sr,r1,r2,h⟩;cases u<;>cases w<;>try exact h.elim
 case int.int i j=>
  unfold dz at h;dsimp only at h;split at h
  .rename_i hz;rcases hz with hz|hz
   .exact .inl ⟨i,j,r1.c7,r2.c7,hz.1.mul hz.2,fu sr h⟩
   .exact .inr (.inl ⟨i,j,r1.c7,r2.c7,hz,fu sr h⟩)
  .exact h.elim
 case loc.int n k=>
  unfold dz at h;dsimp only at h;split at h
  .rename_i us e1;split at h
   .rename_i hz;obtain⟨a,rfl,ha⟩:=r1.fD;obtain⟨xs,h1,q1⟩:=sr.cell n _ a e1 ha;refine .inr (.inr ⟨a,k,xs,rfl,r2.c7,h1,hz.1,hz.2.1,by rw[<-q1.length];exact hz.2.2,fun p hp=>?_⟩);obtain⟨k1,k2,k3⟩:=gH sr (q1.Ro k.toNat) hp;exact h _ _ _ k1 k2 k3
   .exact h.elim
  .exact h.elim
theorem Fv:ej X (binaryOp .FloorDiv) (rM (wo X) E bV):=by
 refine ej.imp E4 ?_;rintro x y H Q ⟨ρ,st,u,w,sr,r1,r2,h⟩;obtain⟨i,j,rfl,rfl,h0⟩:=i! h;clear h;have h:=h0;clear h0
 .split at h
  .rename_i hz;exact⟨i,j,r1.c7,r2.c7,hz.ok,fu sr h⟩
  .exact h.elim
theorem JI:ej X (binaryOp .Mod) (rM (wo X) E bf):=by
 refine ej.imp IL ?_;rintro x y H Q ⟨ρ,st,u,w,sr,r1,r2,h⟩;obtain⟨i,j,rfl,rfl,h0⟩:=i! h;clear h;have h:=h0;clear h0
 .split at h
  .exact h.elim
  .rename_i hz;exact⟨i,j,r1.c7,r2.c7,hz,fu sr h⟩
theorem JJ:ej X (binaryOp .Pow) (rM (wo X) E JE):=by
 refine ej.imp MM ?_;rintro x y H Q ⟨ρ,st,u,w,sr,r1,r2,h⟩;obtain⟨i,j,rfl,rfl,h0⟩:=i! h;clear h;have h:=h0;clear h0
 .split at h
  .rename_i hz;exact⟨i,j,r1.c7,r2.c7,hz,fu sr h⟩
  .exact h.elim
theorem Fw:ej X (compareOp .Lt) (rM (wo X) E ltV):=by refine ej.imp Qx ?_;rintro x y H Q ⟨ρ,st,u,w,sr,r1,r2,h⟩;obtain⟨i,j,rfl,rfl,q⟩:=i! h;exact⟨i,j,r1.c7,r2.c7,e_ sr q⟩
theorem Fx:ej X (compareOp .LtE) (rM (wo X) E Rm):=by refine ej.imp Qy ?_;rintro x y H Q ⟨ρ,st,u,w,sr,r1,r2,h⟩;obtain⟨i,j,rfl,rfl,q⟩:=i! h;exact⟨i,j,r1.c7,r2.c7,e_ sr q⟩
theorem Fy:ej X (compareOp .Gt) (rM (wo X) E BC):=by refine ej.imp Qz ?_;rintro x y H Q ⟨ρ,st,u,w,sr,r1,r2,h⟩;obtain⟨i,j,rfl,rfl,q⟩:=i! h;exact⟨i,j,r1.c7,r2.c7,e_ sr q⟩
theorem FA:ej X (compareOp .GtE) (rM (wo X) E Rn):=by refine ej.imp QA ?_;rintro x y H Q ⟨ρ,st,u,w,sr,r1,r2,h⟩;obtain⟨i,j,rfl,rfl,q⟩:=i! h;exact⟨i,j,r1.c7,r2.c7,e_ sr q⟩
def l5(m:ME):ME:=fun μ st=>(m μ st).bind fun v aF=>match v with
 |.int i=>.ok (.int (-i)) aF
 |_=>.bad
theorem N1{a:Expr}{m:ME}(h:PE X a (tE X E m)):PE X (.UnaryOp .USub a pos) (tE X E (l5 m)):=by
 refine PE.imp (Qu MP h) ?_;rintro σ H Q ⟨μ,ρ,st,rs,sr,h⟩;refine go μ ρ st rs sr h fun u st1 ρ1 H1 x e1 b? r1 h1=>?_;cases u with
 |int i=>exact⟨i,r1.c7,fu b? h1⟩
 |_=>exact h1.elim
def flat:aw->Bool
 |.cO=>true
 |.bl _=>true
 |.int _=>true
 |.str _=>true
 |_=>false
def Iu:aw->aw->Bool
 |.cO,.cO=>true
 |.bl a,.bl b=>a==b
 |.bl a,.int b=>(if a then 1 else 0)==b
 |.int a,.bl b=>a==(if b then 1 else 0)
 |.int a,.int b=>a==b
 |.str a,.str b=>a==b
 |_,_=>false
def aq(st:ao)(n:Nat):Option (List aw):=match st[n]? with
 |some (.lst us)=>some us
 |some (.NG us)=>some us
 |some (.mod us)=>some us
 |_=>none
inductive Vw where
 |lst (us:List aw)|tup (us:List aw)|mM
def vw(st:ao):aw->Option Vw
 |.tup us=>some (.tup us)
 |.loc n=>(aq st n).map .lst
 |.cO=>some .mM
 |.bl _=>some .mM
 |.int _=>some .mM
 |.str _=>some .mM
 |_=>none
def ib(f:aw->aw->Option Bool):List aw->List aw->Option Bool
 |[],[]=>some true
 |x::xs,y::ys=>match f x y,ib f xs ys with
  |some a,some b=>some (a&&b)
  |_,_=>none
 |[],_::_=>some false
 |_::_,[]=>some false
def hG:Nat->ao->aw->aw->Option Bool
 |0,_,_,_=>none
 |n+1,st,u,w=>match vw st u,vw st w with
  |some (.tup us),some (.tup ws)=>ib (hG n st) us ws
  |some (.lst us),some (.lst ws)=>ib (hG n st) us ws
  |some .mM,some .mM=>some (Iu u w)
  |some _,some _=>some false
  |_,_=>none
theorem rn{f:aw->aw->Option Bool}:∀{us ws:List aw}{b:Bool},ib f us ws=some b->us.length≠ws.length->b=false
 |[],[],_,_,h=>absurd rfl h
 |[],_::_,b,e,_=>by injection e with e;exact e.symm
 |_::_,[],b,e,_=>by injection e with e;exact e.symm
 |x::xs,y::ys,b,e,h=>by
  unfold ib at e;split at e
  .rename_i a c h1 h2;injection e with e;rw[<-e,rn h2 (fun z=>h (by simp[z])),Y6]
  .cases e
theorem BD{f:aw->aw->Option Bool}:∀{us ws:List aw}{b:Bool},ib f us ws=some b->∀(j:Nat)(u w:aw),us[j]?=some u->ws[j]?=some w->∃c,f u w=some c
 |[],_,_,_,j,u,w,h1,_=>by cases h1
 |_::_,[],_,_,j,u,w,_,h2=>by cases h2
 |x::xs,y::ys,b,e,j,u,w,h1,h2=>by
  unfold ib at e;split at e
  .rename_i a c q1 q2;cases j with
   |zero=>cases h1;cases h2;exact⟨a,q1⟩
   |succ j=>exact BD q2 j u w h1 h2
  .cases e
def S8(f:aw->aw->Option Bool)(us ws:List aw)(j:Nat):Bool:=match us[j]?,ws[j]? with
 |some u,some w=>(f u w).getD true
 |_,_=>true
theorem rq{f:aw->aw->Option Bool}:∀{us ws:List aw}{b:Bool},ib f us ws=some b->us.length=ws.length->(List.range us.length).all (S8 f us ws)=b
 |[],[],b,e,_=>by injection e
 |[],_::_,_,_,h=>by simp at h
 |_::_,[],_,_,h=>by simp at h
 |x::xs,y::ys,b,e,h=>by
  have h':xs.length=ys.length:=by simpa using h
  unfold ib at e;split at e
  .rename_i a c q1 q2;injection e with e;rw[Vo,Zo,XT,YI,<-e,<-rq q2 h'];congr 1;show(f x y).getD true=a;rw[q1];rfl
  .cases e
section
variable{st:ao}
theorem bP(sr:SR X.K ρ st H){us:List aw}(h:aq st n=some us)(ha:ρ[n]?=some a):∃vs,lY X.K H a vs/\bp X.K ρ H us vs:=by
 unfold aq at h;split at h
 .rename_i ws e;cases h;obtain⟨vs,h1,h2⟩:=sr.cell n _ a e ha;exact⟨vs,lY.of h1,h2⟩
 .rename_i ws e;cases h;obtain⟨o,vs,h1,h2⟩:=sr.cell n _ a e ha;exact⟨vs,.inl (.inr ⟨o,h1⟩),h2⟩
 .rename_i ws e;cases h;obtain⟨vs,h1,h2⟩:=sr.cell n _ a e ha;exact⟨vs,.inr h1,h2⟩
 .cases h
theorem BE(I:aV X ai σ H s)(sr:SR X.K ρ st H):∀(n:Nat)(u w:aw)(x:V)(b:Bool),Rl X.K ρ H u x->Rl X.K ρ H w x->hG n st u w=some b->b=true
 |0,_,_,_,_,_,_,e=>by cases e
 |n+1,u,w,x,b,r1,r2,e=>by
  have lst:∀(us ws:List aw)(vs:List V)(b:Bool),bp X.K ρ H us vs->bp X.K ρ H ws vs->ib (hG n st) us ws=some b->b=true:=by
   intro us
   induction us with
   |nil=>
    intro ws vs b h1 h2 e;have:=h1.fV;subst this;have hw:ws=[]:=WZ h2.length;subst hw;injection e with e;exact e.symm
   |cons u us ih=>
    intro ws vs b h1 h2 e;obtain⟨v,r,rfl,q1,q2⟩:=h1.cS;cases ws with
    |nil=>have:=h2.fV;cases this
    |cons w ws=>
     obtain⟨v',r',e',q3,q4⟩:=h2.cS;cases e';unfold ib at e;split at e
     .rename_i a c z1 z2;injection e with e;rw[<-e,BE I sr n u w v a q1 q3 z1,ih ws r c q2 q4 z2];rfl
     .cases e
  unfold hG at e;cases u<;>cases w<;>dsimp only[vw]at e<;>try (cases e;done)
  all_goals first
   |(have z1:=Rl.c7 r1;subst z1;have z2:=Rl.c7 r2;cases z2;injection e with e;rw[<-e];exact Wn _)
   |(have z1:=Rl.uj r1;subst z1;have z2:=Rl.uj r2;cases z2;injection e with e;rw[<-e];exact Wn _)
   |(have z1:=Rl.fN r1;subst z1;have z2:=Rl.fN r2;cases z2;injection e with e;rw[<-e];exact Wn _)
   |(have z1:=Rl.j_ r1;subst z1;injection e with e;exact e.symm)
   |skip
  case tup.tup us ws=>
   obtain⟨a,vs,rfl,ha,ra⟩:=r1.h!;obtain⟨a',JK,ea,hb,rb⟩:=r2.h!;cases ea;have:=I.kR ha hb;subst this;exact lst us ws vs b ra rb e
  case loc.loc i j=>
   obtain⟨a,rfl,ha⟩:=r1.fD;obtain⟨a',ea,hb⟩:=r2.fD;cases ea;cases z:aq st i with
   |none=>rw[z]at e;cases e
   |some us=>
    cases z2:aq st j with
    |none=>rw[z,z2]at e;cases e
    |some ws=>
     rw[z,z2]at e;obtain⟨vs,s1,rv⟩:=bP sr z ha;obtain⟨JK,s2,rv'⟩:=bP sr z2 hb;have:=I.qJ s1 s2;subst this;exact lst us ws vs b rv rv' e
  all_goals (exfalso;first
   |(have z1:=Rl.c7 r1;subst z1;first|(have z2:=Rl.uj r2;cases z2;done)|(have z2:=Rl.fN r2;cases z2;done)|(have z2:=Rl.j_ r2;cases z2;done)|(obtain⟨_,_,z2,_⟩:=r2.h!;cases z2;done)|(obtain⟨_,z2,_⟩:=r2.fD;cases z2;done))
   |(have z1:=Rl.uj r1;subst z1;first|(have z2:=Rl.c7 r2;cases z2;done)|(have z2:=Rl.fN r2;cases z2;done)|(have z2:=Rl.j_ r2;cases z2;done)|(obtain⟨_,_,z2,_⟩:=r2.h!;cases z2;done)|(obtain⟨_,z2,_⟩:=r2.fD;cases z2;done))
   |(have z1:=Rl.fN r1;subst z1;first|(have z2:=Rl.c7 r2;cases z2;done)|(have z2:=Rl.uj r2;cases z2;done)|(have z2:=Rl.j_ r2;cases z2;done)|(obtain⟨_,_,z2,_⟩:=r2.h!;cases z2;done)|(obtain⟨_,z2,_⟩:=r2.fD;cases z2;done))
   |(have z1:=Rl.j_ r1;subst z1;first|(have z2:=Rl.c7 r2;cases z2;done)|(have z2:=Rl.uj r2;cases z2;done)|(have z2:=Rl.fN r2;cases z2;done)|(obtain⟨_,_,z2,_⟩:=r2.h!;cases z2;done)|(obtain⟨_,z2,_⟩:=r2.fD;cases z2;done))
   |(obtain⟨_,_,z1,_⟩:=r1.h!;subst z1;first|(have z2:=Rl.c7 r2;cases z2;done)|(have z2:=Rl.uj r2;cases z2;done)|(have z2:=Rl.fN r2;cases z2;done)|(have z2:=Rl.j_ r2;cases z2;done))
   |(obtain⟨_,z1,_⟩:=r1.fD;subst z1;first|(have z2:=Rl.c7 r2;cases z2;done)|(have z2:=Rl.uj r2;cases z2;done)|(have z2:=Rl.fN r2;cases z2;done)|(have z2:=Rl.j_ r2;cases z2;done))
   |skip)
  case tup.loc us j=>
   obtain⟨a,vs,rfl,ha,ra⟩:=r1.h!;obtain⟨a',ea,hb⟩:=r2.fD;cases ea;cases z:aq st j with
   |none=>rw[z]at e;cases e
   |some Rp=>
    obtain⟨ws,hw,_⟩:=bP sr z hb;obtain⟨_,_,p1,_⟩:=I.tuple ha;obtain⟨_,_,p2,_⟩:=I.list hw;exact Z6 p2.isList p1 rfl
  case loc.tup i us=>
   obtain⟨a,rfl,ha⟩:=r1.fD;obtain⟨a',vs,ea,hb,rb⟩:=r2.h!;cases ea;cases z:aq st i with
   |none=>rw[z]at e;cases e
   |some Rp=>
    obtain⟨ws,hw,_⟩:=bP sr z ha;obtain⟨_,_,p1,_⟩:=I.tuple hb;obtain⟨_,_,p2,_⟩:=I.list hw;exact Z6 p2.isList p1 rfl
  all_goals (cases z:aq st _<;>rw[z]at e<;>cases e)
def FC(X:Cx)(ρ:_p)(H:Hp)(s:_s):Vw->aw->_r->Prop
 |.tup us,_,v=>∃a aM vs,v=.ref a/\s.heap.IsTuple a (List.toArray aM)/\bN vs aM/\bp X.K ρ H us vs
 |.lst us,_,v=>∃a aM vs,v=.ref a/\s.heap.IsList a (List.toArray aM)/\bN vs aM/\bp X.K ρ H us vs
 |.mM,u,v=>(u=.cO/\v=.none)\/(∃b,u=.bl b/\v=.bool b)\/(∃i t,u=.int i/\v=.int i t)\/(∃z t,u=.str z/\v=.str z t)
theorem seen(I:aV X ai σ H s)(sr:SR X.K ρ st H){u:aw}{x:V}{v:_r}{k:Vw}(r:Rl X.K ρ H u x)(q:bT x v)(h:vw st u=some k):FC X ρ H s k u v:=by
 cases u with
 |cO=>cases h;have:=r.j_;subst this;exact .inl ⟨rfl,q⟩
 |bl b=>cases h;have:=r.uj;subst this;exact .inr (.inl ⟨b,rfl,q⟩)
 |int i=>cases h;have:=r.c7;subst this;obtain⟨t,q⟩:=q;exact .inr (.inr (.inl ⟨i,t,rfl,q⟩))
 |str z=>cases h;have:=r.fN;subst this;obtain⟨t,q⟩:=q;exact .inr (.inr (.inr ⟨z,t,rfl,q⟩))
 |tup us=>
  cases h;obtain⟨a,vs,rfl,ha,ra⟩:=r.h!;obtain⟨aM,r1,p1,_⟩:=I.tuple ha;exact⟨a,aM,vs,q,p1,r1,ra⟩
 |loc n=>
  obtain⟨a,rfl,ha⟩:=r.fD;cases z:aq st n with
  |none=>simp only[vw,z]at h;cases h
  |some us=>
   simp only[vw,z]at h;cases h;obtain⟨vs,hs,rv⟩:=bP sr z ha;obtain⟨aM,r1,p1,_⟩:=I.list hs;exact⟨a,aM,vs,q,p1.isList,r1,rv⟩
 |exc c=>cases h
 |fn k c=>cases h
 |mt us=>cases h
theorem FD{f:aw->aw->Option Bool}{us ws:List aw}{xs ys:List V}{fS:_n}{b:Bool}(e:ib f us ws=some b)(ra:bp X.K ρ H us xs)(rb:bp X.K ρ H ws ys)(va:bN xs aM)(vb:bN ys fS)(ih:∀u w x y vu vw c,Rl X.K ρ H u x->bT x vu->Rl X.K ρ H w y->bT y vw->f u w=some c->SeqAt.EqAt A s vu vw c):
  ∀j(h1:j<aM.toArray.size)(h2:j<fS.toArray.size),SeqAt.EqAt A s aM.toArray[j] fS.toArray[j] (S8 f us ws j):=by
 intro j h1 h2;have l1:=va.length;have l2:=vb.length;have l3:=ra.length;have l4:=rb.length;simp only[VM]at h1 h2;have e1:us[j]?=some us[j]:=VD (by lia);have e2:ws[j]?=some ws[j]:=VD (by lia);obtain⟨x,hx,rx⟩:=ra.get e1;obtain⟨y,hy,ry⟩:=rb.get e2;obtain⟨u,hu,ru⟩:=va.get hx;obtain⟨v,hv,rv⟩:=vb.get hy;have q1:aM.toArray[j]=u:=by obtain⟨_,e⟩:=VP.mp hu;simpa using e
 have q2:fS.toArray[j]=v:=by obtain⟨_,e⟩:=VP.mp hv;simpa using e
 obtain⟨c,hc⟩:=BD e j _ _ e1 e2;rw[q1,q2];unfold S8;rw[e1,e2];dsimp only;rw[hc];exact ih _ _ _ _ _ _ c rx ru ry rv hc
theorem in1_units(A:_u):A.in1.units=A.units+1:=by rfl
theorem N2(I:aV X ai σ H s)(sr:SR X.K ρ st H)(n:Nat)(ih:∀u w x y vu vw c,Rl X.K ρ H u x->bT x vu->Rl X.K ρ H w y->bT y vw->hG n st u w=some c->SeqAt.EqAt A.in1 s vu vw c)(hu:A.units<cLine){u w:aw}{x y:V}{v1 v2:_r}{b:Bool}(r1:Rl X.K ρ H u x)(q1:bT x v1)(r2:Rl X.K ρ H w y)(q2:bT y v2)(e:hG (n+1) st u w=some b):SeqAt.RcAt A s v1 v2 b/\SeqAt.RcNeAt A s v1 v2 (!b):=by
 unfold hG at e;cases z1:vw st u with
 |none=>rw[z1]at e;cases e
 |some k1=>
  cases z2:vw st w with
  |none=>rw[z1,z2]at e;cases k1<;>cases e
  |some k2=>
   rw[z1,z2]at e;have s1:=seen I sr r1 q1 z1;have s2:=seen I sr r2 q2 z2;cases k1 with
   |tup us=>
    obtain⟨a,aM,xs,rfl,p1,va,ra⟩:=s1;cases k2 with
    |tup ws=>
     obtain⟨a2,fS,ys,rfl,p2,vb,rb⟩:=s2;have el:=FD e ra rb va vb ih;have l1:=va.length;have l2:=vb.length;have l3:=ra.length;have l4:=rb.length;have hb:((List.range (min aM.toArray.size fS.toArray.size)).all (S8 (hG n st) us ws)&&aM.toArray.size==fS.toArray.size)=b:=by
      by_cases hl:us.length=ws.length
      .rw[show min aM.toArray.size fS.toArray.size=us.length by simp only[VM];lia,rq e hl,show(aM.toArray.size==fS.toArray.size)=true by simp only[VM,WT];lia,Zb]
      .rw[show(aM.toArray.size==fS.toArray.size)=false by simp only[VM,Xb];lia,Y6];exact(rn e hl).symm
     have g1:=SeqAt.RcAt.tuples p1 p2 hu el;have g2:=SeqAt.RcNeAt.tuples p1 p2 hu el;rw[hb]at g1 g2;exact⟨g1,g2⟩
    |lst ws=>
     obtain⟨a2,fS,ys,rfl,p2,vb,rb⟩:=s2;cases e;exact⟨SeqAt.RcAt.tuple_list p1 p2 hu,SeqAt.RcNeAt.tuple_list p1 p2 hu⟩
    |mM=>
     cases e;rcases s2 with⟨_,rfl⟩|⟨k,_,rfl⟩|⟨k,t,_,rfl⟩|⟨k,t,_,rfl⟩
     .exact⟨SeqAt.RcAt.tuple_none p1 hu,SeqAt.RcNeAt.tuple_none p1 hu⟩
     .exact⟨SeqAt.RcAt.tuple_bool _ p1 hu,SeqAt.RcNeAt.tuple_bool _ p1 hu⟩
     .exact⟨SeqAt.RcAt.tuple_int _ _ p1 hu,SeqAt.RcNeAt.tuple_int _ _ p1 hu⟩
     .exact⟨SeqAt.RcAt.tuple_str _ _ p1 hu,SeqAt.RcNeAt.tuple_str _ _ p1 hu⟩
   |lst us=>
    obtain⟨a,aM,xs,rfl,p1,va,ra⟩:=s1;cases k2 with
    |tup ws=>
     obtain⟨a2,fS,ys,rfl,p2,vb,rb⟩:=s2;cases e;exact⟨SeqAt.RcAt.list_tuple p1 p2 hu,SeqAt.RcNeAt.list_tuple p1 p2 hu⟩
    |lst ws=>
     obtain⟨a2,fS,ys,rfl,p2,vb,rb⟩:=s2;have l1:=va.length;have l2:=vb.length;have l3:=ra.length;have l4:=rb.length;by_cases hl:us.length=ws.length
     .have hs:aM.toArray.size=fS.toArray.size:=by simp only[VM];lia
      have el:=FD e ra rb va vb ih;have g1:=SeqAt.RcAt.lists p1 p2 hs hu el;have g2:=SeqAt.RcNeAt.lists p1 p2 hs hu el;rw[show aM.toArray.size=us.length by simp only[VM];lia,rq e hl]at g1 g2;exact⟨g1,g2⟩
     .have hs:(aM.toArray.size !=fS.toArray.size)=true:=by simp only[VM,ZJ];lia
      rw[rn e hl];exact⟨SeqAt.RcAt.lists_lengths p1 p2 hs hu,SeqAt.RcNeAt.lists_lengths p1 p2 hs hu⟩
    |mM=>
     cases e;rcases s2 with⟨_,rfl⟩|⟨k,_,rfl⟩|⟨k,t,_,rfl⟩|⟨k,t,_,rfl⟩
     .exact⟨SeqAt.RcAt.list_none p1 hu,SeqAt.RcNeAt.list_none p1 hu⟩
     .exact⟨SeqAt.RcAt.list_bool _ p1 hu,SeqAt.RcNeAt.list_bool _ p1 hu⟩
     .exact⟨SeqAt.RcAt.list_int _ _ p1 hu,SeqAt.RcNeAt.list_int _ _ p1 hu⟩
     .exact⟨SeqAt.RcAt.list_str _ _ p1 hu,SeqAt.RcNeAt.list_str _ _ p1 hu⟩
   |mM=>
    cases k2 with
    |tup ws=>
     obtain⟨a2,fS,ys,rfl,p2,vb,rb⟩:=s2;cases e;rcases s1 with⟨_,rfl⟩|⟨k,_,rfl⟩|⟨k,t,_,rfl⟩|⟨k,t,_,rfl⟩
     .exact⟨SeqAt.RcAt.none_tuple p2 hu,SeqAt.RcNeAt.none_tuple p2 hu⟩
     .exact⟨SeqAt.RcAt.bool_tuple _ p2 hu,SeqAt.RcNeAt.bool_tuple _ p2 hu⟩
     .exact⟨SeqAt.RcAt.int_tuple _ _ p2 hu,SeqAt.RcNeAt.int_tuple _ _ p2 hu⟩
     .exact⟨SeqAt.RcAt.str_tuple _ _ p2 hu,SeqAt.RcNeAt.str_tuple _ _ p2 hu⟩
    |lst ws=>
     obtain⟨a2,fS,ys,rfl,p2,vb,rb⟩:=s2;cases e;rcases s1 with⟨_,rfl⟩|⟨k,_,rfl⟩|⟨k,t,_,rfl⟩|⟨k,t,_,rfl⟩
     .exact⟨SeqAt.RcAt.none_list p2 hu,SeqAt.RcNeAt.none_list p2 hu⟩
     .exact⟨SeqAt.RcAt.bool_list _ p2 hu,SeqAt.RcNeAt.bool_list _ p2 hu⟩
     .exact⟨SeqAt.RcAt.int_list _ _ p2 hu,SeqAt.RcNeAt.int_list _ _ p2 hu⟩
     .exact⟨SeqAt.RcAt.str_list _ _ p2 hu,SeqAt.RcNeAt.str_list _ _ p2 hu⟩
    |mM=>
     injection e with e;subst e;rcases s1 with⟨rfl,rfl⟩|⟨i,rfl,rfl⟩|⟨i,t,rfl,rfl⟩|⟨i,t,rfl,rfl⟩<;>rcases s2 with⟨rfl,rfl⟩|⟨j,rfl,rfl⟩|⟨j,t',rfl,rfl⟩|⟨j,t',rfl,rfl⟩
     .exact⟨SeqAt.RcAt.none_none,SeqAt.RcNeAt.none_none⟩
     .exact⟨SeqAt.RcAt.none_bool _,SeqAt.RcNeAt.none_bool _⟩
     .exact⟨SeqAt.RcAt.none_int _ _,SeqAt.RcNeAt.none_int _ _⟩
     .exact⟨SeqAt.RcAt.none_str _ _,SeqAt.RcNeAt.none_str _ _⟩
     .exact⟨SeqAt.RcAt.bool_none _,SeqAt.RcNeAt.bool_none _⟩
     .exact⟨SeqAt.RcAt.bool_bool _ _,SeqAt.RcNeAt.bool_bool _ _⟩
     .exact⟨SeqAt.RcAt.bool_int _ _ _,SeqAt.RcNeAt.bool_int _ _ _⟩
     .exact⟨SeqAt.RcAt.bool_str _ _ _,SeqAt.RcNeAt.bool_str _ _ _⟩
     .exact⟨SeqAt.RcAt.int_none _ _,SeqAt.RcNeAt.int_none _ _⟩
     .exact⟨SeqAt.RcAt.int_bool _ _ _,SeqAt.RcNeAt.int_bool _ _ _⟩
     .exact⟨SeqAt.RcAt.int_int _ _ _ _,SeqAt.RcNeAt.int_int _ _ _ _⟩
     .exact⟨SeqAt.RcAt.int_str _ _ _ _,SeqAt.RcNeAt.int_str _ _ _ _⟩
     .exact⟨SeqAt.RcAt.str_none _ _,SeqAt.RcNeAt.str_none _ _⟩
     .exact⟨SeqAt.RcAt.str_bool _ _ _,SeqAt.RcNeAt.str_bool _ _ _⟩
     .exact⟨SeqAt.RcAt.str_int _ _ _ _,SeqAt.RcNeAt.str_int _ _ _ _⟩
     .exact⟨SeqAt.RcAt.str_str _ _ _ _,SeqAt.RcNeAt.str_str _ _ _ _⟩
theorem JL{u w:aw}{v1 v2:_r}(s1:FC X ρ H s .mM u v1)(s2:FC X ρ H s .mM w v2):SeqAt.EqAt A s v1 v2 (Iu u w):=by
 rcases s1 with⟨rfl,rfl⟩|⟨i,rfl,rfl⟩|⟨i,t,rfl,rfl⟩|⟨i,t,rfl,rfl⟩<;>rcases s2 with⟨rfl,rfl⟩|⟨j,rfl,rfl⟩|⟨j,t',rfl,rfl⟩|⟨j,t',rfl,rfl⟩
 .exact Zi _
 .exact SeqAt.EqAt.none_bool _
 .exact SeqAt.EqAt.none_int _ _
 .exact SeqAt.EqAt.none_str _ _
 .exact SeqAt.EqAt.bool_none _
 .exact SeqAt.EqAt.bool_bool _ _
 .exact SeqAt.EqAt.bool_int _ _ _
 .exact SeqAt.EqAt.bool_str _ _ _
 .exact SeqAt.EqAt.int_none _ _
 .exact SeqAt.EqAt.int_bool _ _ _
 .exact SeqAt.EqAt.int_int _ _ _ _
 .exact YR _ _ _ _
 .exact SeqAt.EqAt.str_none _ _
 .exact SeqAt.EqAt.str_bool _ _ _
 .exact YQ _ _ _ _
 .exact SeqAt.EqAt.str_str _ _ _ _
theorem v8(I:aV X ai σ H s)(sr:SR X.K ρ st H):∀(n:Nat)(A:_u),A.units+n<cLine->∀(u w:aw)(x y:V)(v1 v2:_r)(b:Bool),Rl X.K ρ H u x->bT x v1->Rl X.K ρ H w y->bT y v2->hG n st u w=some b->SeqAt.EqAt A s v1 v2 b
 |0,_,_,_,_,_,_,_,_,_,_,_,_,_,e=>by cases e
 |n+1,A,hu,u,w,x,y,v1,v2,b,r1,q1,r2,q2,e=>by
  have rc:=(N2 I sr n (fun u w x y vu vw c a1 a2 a3 a4 a5=>v8 I sr n A.in1 (by rw[in1_units];lia) u w x y vu vw c a1 a2 a3 a4 a5) (by lia) r1 q1 r2 q2 e).1;have refs:∀a a2,v1=.ref a->v2=.ref a2->SeqAt.EqAt A s v1 v2 b:=by
   intro a a2 e1 e2;subst e1 e2;by_cases hn:a=a2
   .subst hn;have hx:x=y:=q1.inj q2;subst hx;rw[BE I sr (n+1) u w x b r1 r2 e];exact Zi _
   .exact SeqAt.EqAt.of_refs hn rc
  cases z1:vw st u with
  |none=>unfold hG at e;rw[z1]at e;cases e
  |some k1=>
   cases z2:vw st w with
   |none=>unfold hG at e;rw[z1,z2]at e;cases k1<;>cases e
   |some k2=>
    have s1:=seen I sr r1 q1 z1;have s2:=seen I sr r2 q2 z2;unfold hG at e;rw[z1,z2]at e;cases k1 with
    |tup us=>
     obtain⟨a,aM,xs,rfl,p1,va,ra⟩:=s1;cases k2 with
     |tup ws=>obtain⟨a2,fS,ys,rfl,p2,vb,rb⟩:=s2;exact refs a a2 rfl rfl
     |lst ws=>obtain⟨a2,fS,ys,rfl,p2,vb,rb⟩:=s2;exact refs a a2 rfl rfl
     |mM=>
      cases e;rcases s2 with⟨_,rfl⟩|⟨k,_,rfl⟩|⟨k,t,_,rfl⟩|⟨k,t,_,rfl⟩
      .exact SeqAt.EqAt.tuple_none p1 (by lia)
      .exact SeqAt.EqAt.tuple_bool _ p1 (by lia)
      .exact SeqAt.EqAt.tuple_int _ _ p1 (by lia)
      .exact SeqAt.EqAt.tuple_str _ _ p1 (by lia)
    |lst us=>
     obtain⟨a,aM,xs,rfl,p1,va,ra⟩:=s1;cases k2 with
     |tup ws=>obtain⟨a2,fS,ys,rfl,p2,vb,rb⟩:=s2;exact refs a a2 rfl rfl
     |lst ws=>obtain⟨a2,fS,ys,rfl,p2,vb,rb⟩:=s2;exact refs a a2 rfl rfl
     |mM=>
      cases e;rcases s2 with⟨_,rfl⟩|⟨k,_,rfl⟩|⟨k,t,_,rfl⟩|⟨k,t,_,rfl⟩
      .exact SeqAt.EqAt.list_none p1 (by lia)
      .exact SeqAt.EqAt.list_bool _ p1 (by lia)
      .exact SeqAt.EqAt.list_int _ _ p1 (by lia)
      .exact SeqAt.EqAt.list_str _ _ p1 (by lia)
    |mM=>
     cases k2 with
     |tup ws=>
      obtain⟨a2,fS,ys,rfl,p2,vb,rb⟩:=s2;cases e;rcases s1 with⟨_,rfl⟩|⟨k,_,rfl⟩|⟨k,t,_,rfl⟩|⟨k,t,_,rfl⟩
      .exact SeqAt.EqAt.none_tuple p2 (by lia)
      .exact SeqAt.EqAt.bool_tuple _ p2 (by lia)
      .exact SeqAt.EqAt.int_tuple _ _ p2 (by lia)
      .exact SeqAt.EqAt.str_tuple _ _ p2 (by lia)
     |lst ws=>
      obtain⟨a2,fS,ys,rfl,p2,vb,rb⟩:=s2;cases e;rcases s1 with⟨_,rfl⟩|⟨k,_,rfl⟩|⟨k,t,_,rfl⟩|⟨k,t,_,rfl⟩
      .exact SeqAt.EqAt.none_list p2 (by lia)
      .exact SeqAt.EqAt.bool_list _ p2 (by lia)
      .exact SeqAt.EqAt.int_list _ _ p2 (by lia)
      .exact SeqAt.EqAt.str_list _ _ p2 (by lia)
     |mM=>
      injection e with e;subst e;exact JL s1 s2
def cG:F2:=fun u w st=>match hG 16 st u w with
 |some b=>.ok (.bl b) st
 |none=>.bad
def gq:F2:=fun u w st=>match hG 16 st u w with
 |some b=>.ok (.bl (!b)) st
 |none=>.bad
theorem FE(hu:X.A.units+64<cLine):ej X (compareOp .Eq) (rM (wo X) E cG):=by
 intro ai s σ H x y v u Q I rx ry h;obtain⟨ρ,st,u1,w1,sr,r1,r2,h⟩:=h;unfold cG at h;split at h
 .rename_i b e;exact(N2 I sr 15 (v8 I sr 15 X.A.in1 (by rw[in1_units];lia)) (by lia) r1 rx r2 ry e).1 X.prog X.w X.xe (EP X ai σ Q) ⟨.bl b,H,I,rfl,e_ sr h⟩
 .exact h.elim
theorem FF(hu:X.A.units+64<cLine):ej X (compareOp .NotEq) (rM (wo X) E gq):=by
 intro ai s σ H x y v u Q I rx ry h;obtain⟨ρ,st,u1,w1,sr,r1,r2,h⟩:=h;unfold gq at h;split at h
 .rename_i b e;exact(N2 I sr 15 (v8 I sr 15 X.A.in1 (by rw[in1_units];lia)) (by lia) r1 rx r2 ry e).2 X.prog X.w X.xe (EP X ai σ Q) ⟨.bl (!b),H,I,rfl,e_ sr h⟩
 .exact h.elim
def FG(st:ao):aw->Option (List aw)
 |.tup us=>some us
 |.mt us=>some us
 |.loc n=>aq st n
 |_=>none
def z?(neg:Bool):F2:=fun u w st=>match FG st w with
 |some us=>if flat u=true/\us.all flat=true then .ok (.bl (if neg then !us.any (fun y=>Iu y u)else us.any (fun y=>Iu y u))) st else .bad
 |none=>.bad
theorem mY{K:_l}{u w:aw}{x y:V}(f1:flat u=true)(f2:flat w=true)(r1:Rl K ρ H u x)(r2:Rl K ρ H w y):kh x=true/\kh y=true/\Im x y=Iu u w:=by
 cases u<;>(try cases f1)<;>cases w<;>(try cases f2)<;>
  (first|(have z1:=Rl.c7 r1;subst z1)|(have z1:=Rl.uj r1;subst z1)|(have z1:=Rl.fN r1;subst z1)|(have z1:=Rl.j_ r1;subst z1))<;>
  (first|(have z2:=Rl.c7 r2;subst z2)|(have z2:=Rl.uj r2;subst z2)|(have z2:=Rl.fN r2;subst z2)|(have z2:=Rl.j_ r2;subst z2))<;>exact⟨rfl,rfl,rfl⟩
theorem mZ{K:_l}{u:aw}{x:V}(f:flat u=true)(r:Rl K ρ H u x):∀{us:List aw}{vs:List V},us.all flat=true->bp K ρ H us vs->vs.all kh=true/\SH x vs=us.any fun y=>Iu y u
 |[],vs,_,h=>by rw[h.fV];exact⟨rfl,rfl⟩
 |w::us,vs,hf,h=>by obtain⟨v,r',rfl,h2,h3⟩:=h.cS;rw[XT,V4]at hf;obtain⟨a,b,c⟩:=mY hf.1 f h2 r;obtain⟨d,e⟩:=mZ f r hf.2 h3;refine⟨by rw[XT,a,d];rfl,?_⟩;show(Im v x || SH x r')=_;rw[c,e];rfl
theorem BF{neg:Bool}{x y:V}{H:Hp}{Q:VK}(h:rM (wo X) E (z? neg) x y H Q):Ul X.K neg x y H Q:=by
 obtain⟨ρ,st,u,w,sr,r1,r2,h⟩:=h;unfold z? at h;split at h
 .rename_i us e;split at h
  .rename_i hz;cases w with
   |tup ws=>
    cases e;obtain⟨a,vs,rfl,ha,ra⟩:=r2.h!;obtain⟨q1,q2⟩:=mZ hz.1 r1 hz.2 ra;refine⟨a,vs,rfl,.inr ha,(mY hz.1 hz.1 r1 r1).1,q1,?_⟩;rw[q2];exact e_ sr h
   |mt ws=>
    cases e;obtain⟨a,vs,rfl,ha,ra⟩:=r2.US;obtain⟨q1,q2⟩:=mZ hz.1 r1 hz.2 ra;refine⟨a,vs,rfl,.inr ha,(mY hz.1 hz.1 r1 r1).1,q1,?_⟩;rw[q2];exact e_ sr h
   |loc n=>
    obtain⟨a,rfl,ha⟩:=r2.fD;obtain⟨vs,hs,ra⟩:=bP sr e ha;obtain⟨q1,q2⟩:=mZ hz.1 r1 hz.2 ra;refine⟨a,vs,rfl,.inl hs,(mY hz.1 hz.1 r1 r1).1,q1,?_⟩;rw[q2];exact e_ sr h
   |_=>cases e
  .exact h.elim
 .exact h.elim
theorem FH:ej X (compareOp .In) (rM (wo X) E (z? false)):=ej.imp CP fun _ _ _ _ h=>BF h
theorem u6:ej X (compareOp .NotIn) (rM (wo X) E (z? true)):=ej.imp vQ fun _ _ _ _ h=>BF h
def S9(neg:Bool):F2
 |.cO,.cO,st=>.ok (.bl (!neg)) st
 |.bl a,.bl b,st=>.ok (.bl (if neg then a !=b else a==b)) st
 |.int _,.cO,st=>.ok (.bl neg) st
 |.bl _,.cO,st=>.ok (.bl neg) st
 |.str _,.cO,st=>.ok (.bl neg) st
 |.tup _,.cO,st=>.ok (.bl neg) st
 |.loc _,.cO,st=>.ok (.bl neg) st
 |_,_,_=>.bad
theorem FI:ej X (compareOp .Is) (fun x y H Q=>∃a b,x=.bl a/\y=.bl b/\Q (.bl (a==b)) H):=by rintro ai s σ H x y v u Q I rx ry ⟨a,b,rfl,rfl,q⟩;cases rx;cases ry;exact is_bool ⟨.bl _,H,I,rfl,q⟩
theorem FJ:ej X (compareOp .Is) (rM (wo X) E (S9 false)):=by
 refine ej.imp (ej.or MQ FI) ?_;rintro x y H Q ⟨ρ,st,u,w,sr,r1,r2,h⟩;cases u<;>cases w<;>try exact h.elim
 case bl.bl a b=>exact .inr ⟨a,b,r1.uj,r2.uj,e_ sr h⟩
 case cO.cO=>exact .inl ⟨r2.j_,by rw[r1.j_];exact e_ sr h⟩
 case int.cO i=>exact .inl ⟨r2.j_,by rw[r1.c7];exact e_ sr h⟩
 case bl.cO i=>exact .inl ⟨r2.j_,by rw[r1.uj];exact e_ sr h⟩
 case str.cO i=>exact .inl ⟨r2.j_,by rw[r1.fN];exact e_ sr h⟩
 case tup.cO i=>obtain⟨a,vs,rfl,_⟩:=r1.h!;exact .inl ⟨r2.j_,e_ sr h⟩
 case loc.cO i=>obtain⟨a,rfl,_⟩:=r1.fD;exact .inl ⟨r2.j_,e_ sr h⟩
end
def bY:F2
 |.tup us,.int i,st=>match pF us i with
  |some v=>.ok v st
  |none=>.bad
 |.loc n,.int i,st=>match aq st n with
  |some us=>match pF us i with
   |some v=>.ok v st
   |none=>.bad
  |none=>.bad
 |.str z,.int i,st=>if z.length<=sizeLine then(match pF z.cps.toList i with
   |some c=>.ok (.str ⟨#[c]⟩) st
   |none=>.bad)else .bad
 |_,_,_=>.bad
theorem bp.pF{K:_l}{us:List aw}{vs:List V}{i:Int}{u:aw}(r:bp K ρ H us vs)(h:pF us i=some u):∃v,L2.pF vs i=some v/\Rl K ρ H u v:=by
 unfold L2.pF at h⊢;rw[<-r.length];cases z:Bn us.length i with
 |none=>rw[z]at h;cases h
 |some j=>
  rw[z]at h;obtain⟨v,h1,h2⟩:=r.get (show us[j]?=some u from h);exact⟨v,h1,h2⟩
theorem UW:xp X (rM (wo X) E bY):=by
 refine xp.imp (xp.or I! (xp.or vO M3)) ?_;rintro x y H Q ⟨ρ,st,u,w,sr,r1,r2,h⟩;cases u<;>cases w<;>try exact h.elim
 case tup.int us i=>
  unfold bY at h;dsimp only at h;split at h
  .rename_i v e;obtain⟨a,vs,rfl,ha,ra⟩:=r1.h!;obtain⟨z,h1,h2⟩:=ra.pF e;exact .inr (.inl ⟨a,vs,i,z,rfl,r2.c7,ha,h1,h ρ H z (aK.refl _ _) sr h2⟩)
  .exact h.elim
 case loc.int n i=>
  unfold bY at h;dsimp only at h;split at h
  .rename_i us e;split at h
   .rename_i v e';obtain⟨a,rfl,ha⟩:=r1.fD;obtain⟨vs,hs,rv⟩:=bP sr e ha;obtain⟨z,h1,h2⟩:=rv.pF e';exact .inl ⟨a,vs,i,z,rfl,r2.c7,hs,h1,h ρ H z (aK.refl _ _) sr h2⟩
   .exact h.elim
  .exact h.elim
 case str.int z i=>
  unfold bY at h;dsimp only at h;split at h
  .rename_i hz;split at h
   .rename_i c e;exact .inr (.inr ⟨z,i,c,r1.fN,r2.c7,hz,e,h ρ H _ (aK.refl _ _) sr (Rl.mkStr _)⟩)
   .exact h.elim
  .exact h.elim
def bG:FN
 |[.tup us],st=>.ok (.int us.length) st
 |[.loc n],st=>match aq st n with
  |some us=>.ok (.int us.length) st
  |none=>.bad
 |[.str z],st=>if z.length<=sizeLine then .ok (.int z.length) st else .bad
 |_,_=>.bad
theorem C5:c6 X (.builtin "len") (cM (wo X) E bG):=by
 refine c6.imp (c6.or vS vT) ?_;rintro xs H Q ⟨ρ,st,us,sr,r,h⟩
 match us,r,h with
 |[],_,h=>exact h.elim
 |[.tup ws],r,h=>
  obtain⟨v,rfl,r1⟩:=r.By;obtain⟨a,vs,rfl,ha,ra⟩:=r1.h!;refine .inl ⟨a,vs,rfl,.inr ha,?_⟩;rw[<-ra.length];exact fu sr h
 |[.loc n],r,h=>
  obtain⟨v,rfl,r1⟩:=r.By;obtain⟨a,rfl,ha⟩:=r1.fD;unfold bG at h;dsimp only at h;split at h
  .rename_i ws e;obtain⟨vs,hs,rv⟩:=bP sr e ha;refine .inl ⟨a,vs,rfl,.inl hs,?_⟩;rw[<-rv.length];exact fu sr h
  .exact h.elim
 |[.str z],r,h=>
  obtain⟨v,rfl,r1⟩:=r.By;unfold bG at h;dsimp only at h;split at h
  .rename_i hz;exact .inr ⟨z,by rw[r1.fN],hz,fu sr h⟩
  .exact h.elim
 |[.cO],_,h=>exact h.elim
 |[.bl _],_,h=>exact h.elim
 |[.int _],_,h=>exact h.elim
 |[.exc _],_,h=>exact h.elim
 |[.fn _ _],_,h=>exact h.elim
 |[.mt _],_,h=>exact h.elim
 |x::y::r,_,h=>cases x<;>exact h.elim
def ji:FN
 |[.int i],st=>.ok (.int (if i<0 then -i else i)) st
 |_,_=>.bad
theorem C6:c6 X (.builtin "abs") (cM (wo X) E ji):=by
 refine c6.imp EM ?_;rintro xs H Q ⟨ρ,st,us,sr,r,h⟩;unfold ji at h;split at h
 .rename_i i;obtain⟨v,rfl,r1⟩:=r.By;exact⟨i,by rw[r1.c7],fu sr h⟩
 .exact h.elim
def l6:FN
 |[.tup us],st=>.ok (.tup us) st
 |[.loc n],st=>match aq st n with
  |some us=>.ok (.tup us) st
  |none=>.bad
 |_,_=>.bad
theorem C7:c6 X (.type "tuple") (cM (wo X) E l6):=by
 refine c6.imp ur ?_;rintro xs H Q ⟨ρ,st,us,sr,r,h⟩;unfold l6 at h;split at h
 .rename_i ws;obtain⟨v,rfl,r1⟩:=r.By;obtain⟨a,vs,rfl,ha,ra⟩:=r1.h!;exact⟨a,vs,rfl,.inr ⟨ha,h ρ H _ (aK.refl _ _) sr r1⟩⟩
 .rename_i n;obtain⟨v,rfl,r1⟩:=r.By;obtain⟨a,rfl,ha⟩:=r1.fD;split at h
  .rename_i ws e;obtain⟨vs,hs,rv⟩:=bP sr e ha;refine⟨a,vs,rfl,.inl ⟨hs,fun l hl=>?_⟩⟩;have s:=dO (o:=.tup vs) hl;exact h ρ _ _ (aK.same s) (sr.grow s) (Rl.pK c! (bp.mono (aK.same s) _ _ rv))
  .exact h.elim
 .exact h.elim
def jx:List aw->Option (List Bool)
 |[]=>some []
 |.bl b::r=>(jx r).map (b :: ·)
 |_=>none
theorem u7{K:_l}{ρ:_p}{H:Hp}:∀{us:List aw}{bs:List Bool}{vs:List V}{aM:_n},jx us=some bs->bp K ρ H us vs->bN vs aM->LSm.BoolsAre aM bs
 |[],bs,vs,aM,h,r,v=>by cases h;have:=r.fV;subst this;cases v;exact .nil
 |u::us,bs,vs,aM,h,r,v=>by
  cases u with
  |bl b=>
   simp only[jx]at h;cases z:jx us with
   |none=>rw[z]at h;cases h
   |some bs'=>
    rw[z]at h;cases h;obtain⟨x,r',rfl,h2,h3⟩:=r.cS;have:=h2.uj;subst this;cases v with
    |cons q1 q2=>
     cases q1;exact .cons b (u7 z h3 q2)
  |_=>cases h
theorem rA(hh:X.A.handled=none):c6 X (.builtin "all") (fun xs H Q=>∃a ρ us vs bs,xs=[.ref a]/\lY X.K H a vs/\bp X.K ρ H us vs/\jx us=some bs/\Q (.bl (bs.all id)) H):=by
 rintro ai s σ H xs ws Q I r ⟨a,ρ,us,vs,bs,rfl,hs,rv,hb,q⟩;obtain⟨u,rfl,ru⟩:=vals1 r;cases ru;obtain⟨aM,r1,p1,_⟩:=I.list hs;have B:=u7 hb rv r1;have hl:=p1.isList;have xN:a<s.heap.objs.size:=by obtain⟨_,e,_⟩:=hl;exact VL e
 refine call_all_walk (Yc hl ?_);refine⟨s.heap.objs.size,[s.heap.objs.size,a],[s.heap.objs.size],aM.toArray.size,_,_,fun i=>(bs[i]?).getD true,rfl,Walks.list (A:=X.A.in1) hh _ a (V7 xN) aM.toArray,
  ⟨⟨_,VR _ rfl,rfl,rfl⟩,hl.push _⟩,fun i v s' Q' E' hP hQ=>?_,fun h' tk hk=>?_⟩
 .obtain⟨b,e,rfl⟩:=B.get i v (by simpa using hP);simp only[e,Option.getD_some]at hQ;exact W_ hQ
 .have e:((List.range aM.toArray.size).all fun i=>(bs[i]?).getD true)=bs.all id:=by rw[VM,B.length];exact LSm.range_all bs
  rw[e];exact⟨.bl _,H,I.kept (LSm.kept_iter hk),rfl,q⟩
def oj:FN
 |[.loc n],st=>match aq st n with
  |some us=>match jx us with
   |some bs=>.ok (.bl (bs.all id)) st
   |none=>.bad
  |none=>.bad
 |_,_=>.bad
theorem C8(hh:X.A.handled=none):c6 X (.builtin "all") (cM (wo X) E oj):=by
 refine c6.imp (rA hh) ?_;rintro xs H Q ⟨ρ,st,us,sr,r,h⟩;unfold oj at h;split at h
 .rename_i n;obtain⟨v,rfl,r1⟩:=r.By;obtain⟨a,rfl,ha⟩:=r1.fD;split at h
  .rename_i ws e;split at h
   .rename_i bs hb;obtain⟨vs,hs,rv⟩:=bP sr e ha;exact⟨a,ρ,ws,vs,bs,rfl,hs,rv,hb,e_ sr h⟩
   .exact h.elim
  .exact h.elim
 .exact h.elim
def kindOf(st:ao):aw->Option String
 |.cO=>some "NoneType"
 |.bl _=>some "bool"
 |.int _=>some "int"
 |.str _=>some "str"
 |.tup _=>some "tuple"
 |.loc n=>match st[n]? with
  |some (.lst _)=>some "list"
  |some (.NG _)=>some "list"
  |some (.mod _)=>none
  |some (.dK _)=>some "dict"
  |some (.dT _)=>some "dict"
  |_=>none
 |_=>none
def Rq(T:String)(st:ao)(v:aw):Option Bool:=(kindOf st v).map fun k=>k==T || (k == "bool" && T == "int")
def uk(T:String)(m:ME):ME:=fun μ st=>(m μ st).bind fun v aF=>match Rq T aF v with
 |some b=>.ok (.bl b) aF
 |none=>.bad
def FK(K:_l)(T:String):Prop:=∀k∈["NoneType","bool","int","str","tuple","list","dict"],W.kitOne K (.type k) (.type T)=some (k==T || (k == "bool" && T == "int"))
theorem Aa{st:ao}{v:aw}{k:String}(h:kindOf st v=some k):k∈["NoneType","bool","int","str","tuple","list","dict"]:=by
 unfold kindOf at h;split at h
 all_goals first
  |(cases h;decide)
  |(split at h<;>first|(cases h;decide)|cases h)
  |cases h
theorem FL{E:_i}{c:_r}{b:Bool}{st:ao}{u:aw}{x:V}{v:_r}{k:String}(I:aV X ai σ H s)(sr:SR X.K ρ st H)(r:Rl X.K ρ H u x)(q:bT x v)(hk:kindOf st u=some k)(e:W.kitOne X.K (.type k) c=some b)(h:∀tk,Q (.bool b) {s with toks:=tk}):
  wpAny (model X.prog X.w) A (call (.builtin "isinstance") [v,c]) Q E s:=by
 cases u with
 |cO=>cases hk;have:=r.j_;subst this;exact gi I q .cO e h
 |bl y=>cases hk;have:=r.uj;subst this;exact gi I q (.bl y) e h
 |int i=>cases hk;have:=r.c7;subst this;exact gi I q (.int i) e h
 |str y=>cases hk;have:=r.fN;subst this;exact gi I q (.str y) e h
 |tup us=>
  cases hk;obtain⟨a,vs,rfl,ha,ra⟩:=r.h!;cases q;obtain⟨aM,r1,⟨o,h1,h2,_⟩,_⟩:=I.tuple ha;exact WA ZM I.qp ⟨o,h1,h2⟩ e (fun z=>nomatch z) h
 |loc n=>
  obtain⟨a,rfl,ha⟩:=r.fD;obtain⟨cl,hc,kc⟩:=sr.there ha;simp only[kindOf,hc]at hk;cases cl with
  |lst us=>cases hk;obtain⟨vs,h1,_⟩:=kc;exact gi I q (.lst h1) e h
  |NG us=>cases hk;obtain⟨o,vs,h1,_⟩:=kc;exact gi I q (.lV h1) e h
  |mod us=>cases hk
  |dK us=>cases hk;obtain⟨vs,h1,_⟩:=kc;exact gi I q (.dK h1) e h
  |dT us=>cases hk;obtain⟨vs,h1,_⟩:=kc;exact gi I q (.dT h1) e h
  |tab _ _ _ _=>cases hk
  |ins _ _=>cases hk
  |fd _=>cases hk
 |exc c=>cases hk
 |fn k c=>cases hk
 |mt us=>cases hk
theorem v9{T:String}{m:ME}{q:Pos}(hK:FK X.K T)(hg:Gl X "isinstance")(hm:X.mg "isinstance" = none)(hgT:Gl X x)(hmT:X.mg x=none)(hvT:bootBuiltins x=some (.type T))(he:PE X e (tE X E m))(hn:x ≠ "__name__":=by decide)(hd:(x==("__debug__":Str))=false:=by decide)(hs:starEach [e,.Name x q] X.env=(false,eval e X.env)::starEach [.Name x q] X.env:=by rfl)(fq:starEach [.Name x q] X.env=(false,eval (.Name x q) X.env)::starEach [] X.env:=by rfl)(kT:(backTo pos (starEach [.Name x q] X.env)).any (·.1)=false:=by rfl):PE X (.Call (.Name "isinstance" p) [e,.Name x q] [] pos) (tE X E (uk T m)):=by
 have hc:c6 X (.builtin "isinstance") (fun xs H Q=>∃y ρ st u k b,xs=[y,.ty T]/\SR X.K ρ st H/\Rl X.K ρ H u y/\kindOf st u=some k/\W.kitOne X.K (.type k) (.type T)=some b/\Q (.bl b) H):=by rintro ai s σ H xs us Q I r ⟨y,ρ,st,u,k,b,rfl,sr,r1,h1,h2,h3⟩;obtain⟨v1,v2,rfl,q1,q2⟩:=vals2 r;cases q2;exact FL I sr r1 q1 h1 h2 fun tk=>⟨.bl b,H,I.tok tk,rfl,h3⟩
 refine PE.imp (qQ hc hg hm YS (kS he (kS (Bi (v:=.ty T) hgT hmT hvT rfl hn hd) vJ fq) hs) (by decide) (by decide) hs kT) ?_;rintro σ H Q ⟨μ,ρ,st,rs,sr,h⟩;refine go μ ρ st rs sr h fun u st1 ρ1 H1 x e1 b? r1 h1=>?_;cases z:kindOf st1 u with
 |none=>simp only[Rq,z]at h1;exact h1.elim
 |some k=>
  simp only[Rq,z]at h1;exact⟨x,ρ1,st1,u,k,_,rfl,b?,r1,z,hK k (Aa z),e_ b? h1⟩
theorem FO{K:_l}:FK K "int":=by intro k hk;simp only[VJ,XR,X4]at hk;rcases hk with rfl|rfl|rfl|rfl|rfl|rfl|rfl<;>first|rfl|kernel_rfl
theorem C9{K:_l}:FK K "bool":=by intro k hk;simp only[VJ,XR,X4]at hk;rcases hk with rfl|rfl|rfl|rfl|rfl|rfl|rfl<;>first|rfl|kernel_rfl
theorem Ab{K:_l}:FK K "tuple":=by intro k hk;simp only[VJ,XR,X4]at hk;rcases hk with rfl|rfl|rfl|rfl|rfl|rfl|rfl<;>first|rfl|kernel_rfl
theorem C_{K:_l}:FK K "list":=by intro k hk;simp only[VJ,XR,X4]at hk;rcases hk with rfl|rfl|rfl|rfl|rfl|rfl|rfl<;>first|rfl|kernel_rfl
abbrev AS:=aw->Env->Option Env
def aA(i:Nat):AS:=fun v μ=>some (μ.set i (some v))
def u9:List AS->List aw->Env->Option Env
 |[],[],μ=>some μ
 |a::as,v::vs,μ=>(a v μ).bind fun μ'=>u9 as vs μ'
 |_,_,_=>none
def gN(l:List AS):AS:=fun v μ=>match v with
 |.tup vs=>u9 l vs μ
 |_=>none
def tA(W:Wo)(a:AS):TG:=fun v σ H Q=>∃μ ρ u μ',RS W ρ H μ σ/\Rl W.K ρ H u v/\a u μ=some μ'/\∀σ',RS W ρ H μ' σ'->Q σ' H
def S_(W:Wo)(l:List AS):IG:=fun vs σ H Q=>∃μ ρ us μ',RS W ρ H μ σ/\bp W.K ρ H us vs/\u9 l us μ=some μ'/\∀σ',RS W ρ H μ' σ'->Q σ' H
theorem zO.imp{e:List Expr}{t t':IG}(h:zO X e t)(k:∀v σ H Q,t' v σ H Q->t v σ H Q):zO X e t':=fun ai s σ H v u Q I r q=>h ai s σ H v u Q I r (k v σ H Q q)
theorem JM(i:Nat)(hN:X.N.Nodup)(hi:X.N[i]?=some x:=by rfl)(hx:Loc X.env.scope x:=by first|exact Or.inl rfl|exact Or.inr rfl)(hf:X.fn x=true\/X.env.scope.names.lookup x=some .local:=by first|exact .inl rfl|exact .inr rfl|assumption):PG X (.Name x pos) (tA (wo X) (aA i)):=by refine PG.imp (IH hN hi hx hf) ?_;rintro v σ H Q ⟨μ,ρ,u,μ',rs,r,e,q⟩;cases e;exact q _ (rs.set i r)
theorem JN:zO X [] (S_ (wo X) []):=by
 refine zO.imp II ?_;rintro vs σ H Q ⟨μ,ρ,us,μ',rs,r,e,q⟩;cases us with
 |nil=>cases e;exact⟨r.fV,q σ rs⟩
 |cons=>cases e
theorem FQ{a:AS}{as:List AS}(h1:PG X e (tA (wo X) a))(h2:zO X es (S_ (wo X) as))(hs:(assignEach (e::es) X.env).map (·.2)=assign e X.env::(assignEach es X.env).map (·.2):=by rfl):zO X (e::es) (S_ (wo X) (a::as)):=by
 refine zO.imp (EA h1 h2 hs) ?_;rintro vs σ H Q ⟨μ,ρ,us,μ',rs,r,e,q⟩;cases us with
 |nil=>cases e
 |cons u us=>
  obtain⟨v,r',rfl,ru,rr⟩:=r.cS;unfold u9 at e;cases z:a u μ with
  |none=>rw[z]at e;cases e
  |some μ1=>
   rw[z]at e;exact⟨v,r',rfl,μ,ρ,u,μ1,rs,ru,z,fun σ1 JC=>⟨μ1,ρ,us,μ',JC,rr,e,q⟩⟩
theorem N3{l:List AS}(hc:X.calm=true)(h:zO X es (S_ (wo X) l))(hn:(assignEach es X.env).length=l.length:=by rfl)(Ik:(assignEach es X.env).findIdx? (·.1)=none:=by rfl):PG X (.Tuple es k pos) (tA (wo X) (gN l)):=by
 refine PG.imp (Mv hc h hn Ik) ?_;rintro v σ H Q ⟨μ,ρ,u,μ',rs,r,e,q⟩;cases u with
 |tup us=>
  obtain⟨a,vs,rfl,ha,ra⟩:=r.h!;have len:∀(l:List AS)(us:List aw)(μ:Env),u9 l us μ=some μ'->us.length=l.length:=by
   intro l
   induction l with
   |nil=>intro us μ e;cases us with|nil=>rfl|cons=>cases e
   |cons a l ih=>
    intro us μ e;cases us with
    |nil=>cases e
    |cons u us=>
     unfold u9 at e;cases z:a u μ with
     |none=>rw[z]at e;cases e
     |some μ1=>rw[z]at e;rw[Vo,Vo,ih us μ1 e]
  exact⟨a,vs,rfl,ha,by rw[<-ra.length];exact len _ _ _ e,μ,ρ,us,μ',rs,ra,e,q⟩
 |_=>cases e
def aao(a:AS)(m:ME):MB:=fun μ st=>(m μ st).sb μ fun v aF=>match a v μ with
 |some μ'=>.nx μ' aF
 |none=>.bad
abbrev Itm:=List aw×(ao->Prop)
abbrev MI:=Env->ao->c_ Itm
def N4(K:_l)(ρ0:_p)(H0:Hp)(p:Itm)(J:It):Prop:=
 ∀ρ st H,aK ρ0 H0 ρ H->SR K ρ st H->p.2 st->∀i:Nat,
  (∀u,p.1[i]?=some u->J.go i H/\∀x H',J.Qm i H x H'->aK ρ H ρ H'/\SR K ρ st H'/\Rl K ρ H' u x)/\(p.1.length<=i->J.stop i H)
abbrev tI(X:Cx)(E:XK)(m:MI):TI:=tG (wo X) E (N4 X.K) m
theorem PI.imp{it:Expr}{t t':TI}(h:PI X tg it t)(k:∀σ H Q,t' σ H Q->t σ H Q):PI X tg it t':=fun ai s σ H R I q=>h ai s σ H R I (k σ H R q)
theorem N5{l:Expr}(hl:PE X l tl):PI X tg l (fun σ H R=>tl σ H fun x H1=>∃a,x=.ref a/\(((∃xs,lY X.K H1 a xs)/\R (T6 X.K a) H1)\/((∃xs,kQ X.K H1 a xs)/\R (T7 X.K a) H1))):=by
 intro ai s σ H R I h;refine cR (hl ai s σ H _ I h) fun v s1⟨x,H1,I1,r1,q1⟩=>?_;obtain⟨a,e,q⟩:=q1;subst e;cases r1;rcases q with⟨⟨xs,hq⟩,q⟩|⟨⟨xs,hq⟩,q⟩
 .obtain⟨aM,rv,p,hz⟩:=I1.list hq;refine Yc p.isList ?_;refine⟨s1.heap.objs.size,[s1.heap.objs.size],_,_,H1,rfl,I1.kept (t':=s1.toks) fun b o e=>Vr _ e,CH a _,⟨_,VR _ rfl,rfl,rfl⟩,fun b hb=>?_,q⟩;have e:b=s1.heap.objs.size:=by simpa using hb
  subst e;exact I1.CG (Vv _) (I1.cW.fresh (Vv _))
 .obtain⟨aM,rv,p,hz⟩:=I1.tuple hq;refine Xw (show s1.heap.IsTuple a aM.toArray from p) ?_;refine⟨s1.heap.objs.size,[s1.heap.objs.size],_,_,H1,rfl,I1.kept (t':=s1.toks) fun b o e=>Vr _ e,zP a _,⟨_,VR _ rfl,rfl,rfl⟩,fun b hb=>?_,q⟩;have e:b=s1.heap.objs.size:=by simpa using hb
  subst e;exact I1.CG (Vv _) (I1.cW.fresh (Vv _))
def rB(st:ao):aw->Option Itm
 |.tup us=>some (us,fun _=>True)
 |.mt us=>some (us,fun _=>True)
 |.loc n=>(aq st n).map fun us=>(us,fun aF=>aq aF n=some us)
 |_=>none
def d6(m:ME):MI:=fun μ st=>(m μ st).bind fun v aF=>match rB aF v with
 |some p=>.ok p aF
 |none=>.bad
theorem FR{K:_l}{us:List aw}(ha:ρ[n]?=some a)(UX:∀{ρ':_p}{aF:ao}{H':Hp},SR K ρ' aF H'->aq aF n=some us->ρ'[n]?=some a->∃vs,lY K H' a vs/\bp K ρ' H' us vs):
  N4 K ρ H (us,fun aF=>aq aF n=some us) (T6 K a):=by
 intro ρ' aF H' e sr g i;obtain⟨vs,hs,rv⟩:=UX sr g (e.at_ ha);refine⟨fun u hu=>?_,fun hi=>⟨vs,hs,by rw[<-rv.length];exact hi⟩⟩;obtain⟨v,hv,ru⟩:=rv.get hu;refine⟨⟨vs,v,hs,hv⟩,fun x S! y=>?_⟩;obtain⟨rfl,y⟩:=y;have e:=(y vs hs).symm.trans hv;cases e;exact⟨aK.refl _ _,sr,ru⟩
theorem BG{K:_l}{us:List aw}{vs:List V}(ha:kQ K H a vs)(ra:bp K ρ H us vs):N4 K ρ H (us,fun _=>True) (T7 K a):=by intro ρ' aF H' e sr g i;have LN:kQ K H' a vs:=e.S6 ha;have rv:=bp.mono e _ _ ra;refine⟨fun u hu=>?_,fun hi=>⟨vs,LN,by rw[<-rv.length];exact hi⟩⟩;obtain⟨v,hv,ru⟩:=rv.get hu;refine⟨⟨vs,v,LN,hv⟩,fun x S! y=>?_⟩;obtain⟨rfl,y⟩:=y;have e:=(y vs LN).symm.trans hv;cases e;exact⟨aK.refl _ _,sr,ru⟩
theorem N6{l:Expr}{m:ME}(hl:PE X l (tE X E m)):PI X tg l (tI X E (d6 m)):=by
 refine PI.imp (N5 hl) ?_;rintro σ H R ⟨μ,ρ,st,rs,sr,h⟩;refine go μ ρ st rs sr h fun u st1 ρ1 H1 x e1 b? r1 h1=>?_;cases u with
 |tup us=>
  obtain⟨a,vs,rfl,ha,ra⟩:=r1.h!;exact⟨a,rfl,.inr ⟨⟨vs,ha⟩,h1 ρ1 H1 _ (aK.refl _ _) b? (BG ha ra)⟩⟩
 |mt us=>
  obtain⟨a,vs,rfl,ha,ra⟩:=r1.US;exact⟨a,rfl,.inr ⟨⟨vs,ha⟩,h1 ρ1 H1 _ (aK.refl _ _) b? (BG ha ra)⟩⟩
 |loc n=>
  obtain⟨a,rfl,ha⟩:=r1.fD;cases z:aq st1 n with
  |none=>simp only[rB,z]at h1;exact h1.elim
  |some us=>
   simp only[rB,z]at h1;obtain⟨vs,hs,rv⟩:=bP b? z ha;exact⟨a,rfl,.inl ⟨⟨vs,hs⟩,h1 ρ1 H1 _ (aK.refl _ _) b? (FR ha fun s g h=>bP s g h)⟩⟩
 |_=>exact h1.elim
def bD(lo:Int)(n:Nat):List aw:=(List.range n).map fun(i:Nat)=>aw.int (lo+(i:Int))
theorem u_{K:_l}(lo:Int)(n:Nat):N4 K ρ H (bD lo n,fun _=>True) (Qo lo n):=by
 intro ρ' aF H' e sr g i;refine⟨fun u hu=>?_,fun hi=>?_⟩
 .have hi:i<n:=by have:=gG hu;simpa[bD]using this
  refine⟨hi,fun x S! y=>?_⟩;obtain⟨rfl,rfl⟩:=y;have e:u=aw.int (lo+(i:Int)):=by simp only[bD,VV]at hu;rw[ZC hi]at hu;exact(V! hu).symm
  subst e;exact⟨aK.refl _ _,sr,Rl.mkInt _⟩
 .show n<=i;simpa[bD]using hi
def cz(m:MA):MI:=fun μ st=>(m μ st).bind fun vs aF=>match vs with
 |[.int j]=>if -(2 ^ 62)<=j/\j<2 ^ 62 then .ok (bD 0 j.toNat,fun _=>True) aF else .bad
 |_=>.bad
def kX(m:MA):MI:=fun μ st=>(m μ st).bind fun vs aF=>match vs with
 |[.int i,.int j]=>if -(2 ^ 62)<=i/\i<2 ^ 62/\-(2 ^ 62)<=j/\j<2 ^ 62 then .ok (bD i (j-i).toNat,fun _=>True) aF else .bad
 |_=>.bad
theorem C!{a:Expr}{m:MA}(hg:Gl X "range")(hm:X.mg "range" = none)(ha:PA X [a] (tL X E m))(hs:starEach [a] X.env=[(false,eval a X.env)]:=by rfl):PI X tg (.Call (.Name "range" p) [a] [] pos) (tI X E (cz m)):=by
 refine PI.imp (CI hg hm ha hs) ?_;rintro σ H R ⟨μ,ρ,st,rs,sr,h⟩;refine go (R1:=bp X.K) μ ρ st rs sr h fun us st1 ρ1 H1 xs e1 b? r1 h1=>?_;split at h1
 .rename_i j;obtain⟨v,rfl,rv⟩:=r1.By;split at h1
  .rename_i hz;exact⟨j,by rw[rv.c7],hz.1,hz.2,h1 ρ1 H1 _ (aK.refl _ _) b? (u_ 0 j.toNat)⟩
  .exact h1.elim
 .exact h1.elim
theorem C?{a b:Expr}{m:MA}(hg:Gl X "range")(hm:X.mg "range" = none)(ha:PA X [a,b] (tL X E m))(hs:starEach [a,b] X.env=[(false,eval a X.env),(false,eval b X.env)]:=by rfl)(fq:starEach [b] X.env=[(false,eval b X.env)]:=by rfl):
  PI X tg (.Call (.Name "range" p) [a,b] [] pos) (tI X E (kX m)):=by
 refine PI.imp (CJ hg hm ha hs fq) ?_;rintro σ H R ⟨μ,ρ,st,rs,sr,h⟩;refine go (R1:=bp X.K) μ ρ st rs sr h fun us st1 ρ1 H1 xs e1 b? r1 h1=>?_;split at h1
 .rename_i i j;obtain⟨v,w,rfl,rv,qT⟩:=r1.un2;split at h1
  .rename_i hz;exact⟨i,j,by rw[rv.c7,qT.c7],hz,h1 ρ1 H1 _ (aK.refl _ _) b? (u_ i _)⟩
  .exact h1.elim
 .exact h1.elim
def iD(st:ao):aw->Option (Bool×Itm)
 |.tup us=>some (false,us,fun _=>True)
 |.loc n=>(aq st n).map fun us=>(true,us,fun aF=>aq aF n=some us)
 |_=>none
def rD:List aw->List aw->List aw
 |x::xs,y::ys=>.tup [x,y]::rD xs ys
 |_,_=>[]
theorem BH:∀(us ws:List aw)(i:Nat),(∀z,(rD us ws)[i]?=some z->∃u w,us[i]?=some u/\ws[i]?=some w/\z=.tup [u,w])/\((rD us ws).length<=i->us.length<=i\/ws.length<=i)
 |[],_,i=>⟨fun z h=>(by cases h),fun _=>.inl (VU _)⟩
 |_::_,[],i=>⟨fun z h=>(by cases h),fun _=>.inr (VU _)⟩
 |u::us,w::ws,0=>⟨fun z h=>(by cases h;exact⟨u,w,rfl,rfl,rfl⟩),fun h=>(by simp[rD]at h)⟩
 |u::us,w::ws,i+1=>by
  obtain⟨a,b⟩:=BH us ws i;refine⟨fun z h=>a z h,fun h=>?_⟩;have h':(rD us ws).length<=i:=by simpa[rD]using h
  rcases b h' with q|q
  .exact .inl (by rw[Vo];lia)
  .exact .inr (by rw[Vo];lia)
def rE(b1 b2:Bool)(m:MA):MI:=fun μ st=>(m μ st).bind fun vs aF=>match vs with
 |[u,w]=>match iD aF u,iD aF w with
  |some (c1,us,g1),some (c2,ws,g2)=>if c1=b1/\c2=b2 then .ok (rD us ws,fun st2=>g1 st2/\g2 st2) aF else .bad
  |_,_=>.bad
 |_=>.bad
theorem BI{K:_l}{st:ao}{u:aw}{x:V}{c:Bool}{us:List aw}{g:ao->Prop}(sr:SR K ρ st H)(r:Rl K ρ H u x)(h:iD st u=some (c,us,g))(UX:∀{ρ':_p}{aF:ao}{H':Hp}{n a},SR K ρ' aF H'->aq aF n=some us->ρ'[n]?=some a->∃vs,lY K H' a vs/\bp K ρ' H' us vs):
  ∃a,x=.ref a/\∀ρ' aF H',aK ρ H ρ' H'->SR K ρ' aF H'->g aF->∃vs,z6 c K H' a vs/\bp K ρ' H' us vs:=by
 cases u with
 |tup ws=>
  cases h;obtain⟨a,vs,rfl,ha,ra⟩:=r.h!;exact⟨a,rfl,fun ρ' aF H' e _ _=>⟨vs,e.S6 ha,bp.mono e _ _ ra⟩⟩
 |loc n=>
  obtain⟨a,rfl,ha⟩:=r.fD;cases z:aq st n with
  |none=>simp only[iD,z]at h;cases h
  |some ws=>
   simp only[iD,z]at h;cases h;exact⟨a,rfl,fun ρ' aF H' e s g=>UX s g (e.at_ ha)⟩
 |_=>cases h
theorem FT{st:ao}{u:aw}{c:Bool}{us:List aw}{g:ao->Prop}(h:iD st u=some (c,us,g)):g st:=by
 cases u with
 |tup ws=>cases h;exact True.intro
 |loc n=>
  cases z:aq st n with
  |none=>simp only[iD,z]at h;cases h
  |some ws=>simp only[iD,z]at h;cases h;exact z
 |_=>cases h
theorem N7(b1 b2:Bool){ea eb:Expr}{m:MA}(hg:Gl X "zip")(hm:X.mg "zip" = none)(ha:PA X [ea,eb] (tL X E m))(hs:starEach [ea,eb] X.env=[(false,eval ea X.env),(false,eval eb X.env)]:=by rfl)(fq:starEach [eb] X.env=[(false,eval eb X.env)]:=by rfl):
  PI X (.Tuple elts kt tp) (.Call (.Name "zip" p) [ea,eb] [] pos) (tI X E (rE b1 b2 m)):=by
 refine PI.imp (Nr b1 b2 hg hm ha hs fq) ?_;rintro σ H R ⟨μ,ρ,st,rs,sr,h⟩;refine go (R1:=bp X.K) μ ρ st rs sr h fun us st1 ρ1 H1 xs e1 b? r1 h1=>?_;split at h1
 .rename_i u w;obtain⟨x,y,rfl,rx,ry⟩:=r1.un2;split at h1
  .rename_i c1 us1 g1 c2 us2 g2 z1 z2;split at h1
   .rename_i hc;obtain⟨rfl,rfl⟩:=hc;obtain⟨a,rfl,ka⟩:=BI b? rx z1 fun s g h=>bP s g h;obtain⟨b,rfl,kb⟩:=BI b? ry z2 fun s g h=>bP s g h;obtain⟨v1,q1,_⟩:=ka ρ1 st1 H1 (aK.refl _ _) b? (FT z1);obtain⟨v2,q2,_⟩:=kb ρ1 st1 H1 (aK.refl _ _) b? (FT z2);refine⟨a,b,rfl,⟨v1,q1⟩,⟨v2,q2⟩,h1 ρ1 H1 _ (aK.refl _ _) b? ?_⟩;intro ρ' aF H' e s g i;obtain⟨w1,s1,t1⟩:=ka ρ' aF H' e s g.1;obtain⟨w2,s2,t2⟩:=kb ρ' aF H' e s g.2;obtain⟨k1,k2⟩:=BH us1 us2 i;refine⟨fun z hz=>?_,fun hi=>⟨w1,w2,s1,s2,?_⟩⟩
    .obtain⟨u',w',e1',e2',rfl⟩:=k1 z hz;obtain⟨p1,p2,p3⟩:=t1.get e1';obtain⟨o1,o2,o3⟩:=t2.get e2';refine⟨⟨w1,w2,p1,o1,s1,s2,p2,o2⟩,fun x' S! y'=>?_⟩;obtain⟨pp,x1,y1,rfl,hp,rfl,f1,f2⟩:=y';have c1:=(f1 w1 s1).symm.trans p2;have c2:=(f2 w2 s2).symm.trans o2;cases c1;cases c2;exact⟨aK.same (dO hp),s.grow (dO hp),Rl.pK c! (bp.mono (aK.same (dO hp)) _ _ (bp.cons p3 (bp.one o3)))⟩
    .rw[<-t1.length,<-t2.length];exact k2 hi
   .exact h1.elim
  .exact h1.elim
 .exact h1.elim
open Classical in
def forL(g:ao->Prop)(a:AS)(body:MB):List aw->MB
 |[],μ,st=>if g st then .nx μ st else .bad
 |u::us,μ,st=>if g st then(match a u μ with
  |some μ1=>match body μ1 st with
   |.nx μ' aF=>forL g a body us μ' aF
   |.ct μ' aF=>forL g a body us μ' aF
   |.bk μ' aF=>.nx μ' aF
   |.rt v aF=>.rt v aF
   |.er c μ' aF=>.er c μ' aF
   |.bad=>.bad
  |none=>.bad)else .bad
def dQ(it:MI)(a:AS)(body:MB):MB:=fun μ st=>(it μ st).sb μ fun p aF=>forL p.2 a body p.1 μ aF
theorem N8{sb:List Stmt}{it:MI}{a:AS}{body:MB}(hp:PassesOwn (model X.prog X.w) X.A X.env X.xe)(hc:X.calm=true)(hi:PI X tg iter (tI X E it))(hg:PG X tg (tA (wo X) a))(hb:j' X sb (tS X E body))(hs:∀x,foldedSetIterable iter X.env x=pure x:=by intro _;rfl):PS X (.For tg iter sb [] pos) (tS X E (dQ it a body)):=by
 refine PS.imp (MC hp hc hi hg hb hs) ?_;rintro D σ H ⟨μ,ρ,st,rs,sr,h⟩;refine Ei (R1:=N4 X.K) μ ρ st rs sr h fun pr st1 ρ1 H1 J e1 b? rJ h1=>?_;obtain⟨us,g⟩:=pr;refine⟨fun i m σ' H'=>m=us.length-i/\i<=us.length/\∃μ' ρ' aF,aK ρ1 H1 ρ' H'/\RS (wo X) ρ' H' μ' σ'/\SR X.K ρ' aF H'/\wS (wo X) E ρ' H' D (forL g a body (us.drop i) μ' aF),
  ⟨us.length,by simp,VU _,μ,ρ1,st1,aK.refl _ _,rs.mono e1,b?,h1⟩,?_⟩
 rintro i m σ' H' ⟨rfl,hi,μ',ρ',aF,e',u!,rF,h'⟩;by_cases xN:i<us.length
 .rw[WQ xN]at h';unfold forL at h';by_cases iR:g aF
  .rw[Vs iR]at h';obtain⟨k1,k2⟩:=rJ ρ' aF H' e' rF iR i;obtain⟨go',yl⟩:=k1 _ (VD xN);refine .inr ⟨go',fun σ2 H2=>i+1<=us.length/\∃μ2 ρ2 st2,aK ρ1 H1 ρ2 H2/\RS (wo X) ρ2 H2 μ2 σ2/\SR X.K ρ2 st2 H2/\wS (wo X) E ρ2 H2 D (forL g a body (us.drop (i+1)) μ2 st2),fun σ2 H2 n=>⟨us.length-(i+1),by lia,rfl,n.1,n.2⟩,fun x H2 y=>?_⟩;obtain⟨e2,iZ,r2⟩:=yl x H2 y;cases z:a us[i] μ' with
   |none=>rw[z]at h';exact h'.elim
   |some μ1=>
    rw[z]at h';dsimp only at h';refine⟨μ',ρ',us[i],μ1,u!.mono e2,r2,z,fun σ3 FU=>⟨μ1,ρ',aF,FU,iZ,?_⟩⟩;cases zb:body μ1 aF with
    |nx μ4 lZ=>
     rw[zb]at h';intro ρ4 H4 σ4 e4 og Ac;exact⟨by lia,μ4,ρ4,lZ,(e'.trans e2).trans e4,Ac,og,wS.mono h' (e2.trans e4)⟩
    |ct μ4 lZ=>
     rw[zb]at h';intro ρ4 H4 σ4 e4 og Ac;exact⟨by lia,μ4,ρ4,lZ,(e'.trans e2).trans e4,Ac,og,wS.mono h' (e2.trans e4)⟩
    |bk μ4 lZ=>rw[zb]at h';exact fun ρ4 H4 σ4 e4 og Ac=>h' ρ4 H4 σ4 (e2.trans e4) og Ac
    |rt v lZ=>rw[zb]at h';exact fun ρ4 H4 σ4 e4 og Ac=>h' ρ4 H4 σ4 (e2.trans e4) og Ac
    |er c μ4 lZ=>rw[zb]at h';obtain⟨C,q1,q2⟩:=h';exact⟨C,q1,fun ρ4 H4 e4 og=>q2 ρ4 H4 (e2.trans e4) og⟩
    |bad=>rw[zb]at h';exact h'
  .rw[Vx iR]at h';exact h'.elim
 .have Nm:i=us.length:=by lia
  subst Nm;rw[XS]at h';unfold forL at h';by_cases iR:g aF
  .rw[Vs iR]at h';exact .inl ⟨(rJ ρ' aF H' e' rF iR us.length).2 (Vv _),h' ρ' H' σ' (aK.refl _ _) rF u!⟩
  .rw[Vx iR]at h';exact h'.elim
def gB(t:MT)(body:MB):Nat->Env->ao->Option cD
 |0,_,_=>none
 |n+1,μ,st=>match t μ st with
  |.ok true st1=>match body μ st1 with
   |.nx μ' aF=>gB t body n μ' aF
   |.ct μ' aF=>gB t body n μ' aF
   |.bk μ' aF=>some (.nx μ' aF)
   |.rt v aF=>some (.rt v aF)
   |.er c μ' aF=>some (.er c μ' aF)
   |.bad=>some .bad
  |.ok false st1=>some (.nx μ st1)
  |.err c st1=>some (.er c μ st1)
  |.bad=>some .bad
open Classical in
def om(t:MT)(body:MB):MB:=fun μ st=>if h:∃n r,gB t body n μ st=some r then h.choose_spec.choose else .bad
theorem kq{t:MT}{body:MB}:∀{n m:Nat}{μ:Env}{st:ao}{r r':cD},gB t body n μ st=some r->gB t body m μ st=some r'->r=r'
 |0,_,_,_,_,_,h,_=>by cases h
 |_+1,0,_,_,_,_,_,h=>by cases h
 |n+1,m+1,μ,st,r,r',h,h'=>by
  unfold gB at h h';split at h
  .rename_i st1 e;rw[e]at h';dsimp only at h';split at h
   all_goals (rename_i eb;rw[eb]at h';dsimp only at h')
   .exact kq h h'
   .exact kq h h'
   all_goals (cases h;cases h';rfl)
  all_goals (rename_i e;rw[e]at h';dsimp only at h';cases h;cases h';rfl)
theorem Dc{t:MT}{body:MB}{μ:Env}{st:ao}{r:cD}(h:gB t body n μ st=some r):om t body μ st=r:=by
 have hx:∃n r,gB t body n μ st=some r:=⟨n,r,h⟩
 unfold om;rw[dif_pos hx];exact kq hx.choose_spec.choose_spec h
theorem FV{c:Expr}{sb:List Stmt}{t:MT}{body:MB}(hp:PassesOwn (model X.prog X.w) X.A X.env X.xe)(hc:PT X c (tT X E t))(hb:j' X sb (tS X E body)):PS X (.While c sb [] pos) (tS X E (om t body)):=by
 refine PS.imp (EB hp hc hb) ?_;rintro D σ H ⟨μ,ρ,st,rs,sr,h⟩;unfold om at h;split at h
 .rename_i hx;have hr:=hx.choose_spec.choose_spec;refine⟨fun m σ' H'=>∃μ' ρ' aF r,aK ρ H ρ' H'/\RS (wo X) ρ' H' μ' σ'/\SR X.K ρ' aF H'/\gB t body m μ' aF=some r/\wS (wo X) E ρ' H' D r,⟨_,μ,ρ,st,_,aK.refl _ _,rs,sr,hr,h⟩,?_⟩;rintro m σ' H' ⟨μ',ρ',aF,r,e',u!,rF,hw,hq⟩;cases m with
  |zero=>cases hw
  |succ m=>
   unfold gB at hw;refine⟨μ',ρ',aF,u!,rF,?_⟩;cases z:t μ' aF with
   |ok k st1=>
    rw[z]at hw;intro ρ1 H1 k' e1 b? ek;cases ek;cases k with
    |true=>
     dsimp only at hw;rw[Vs rfl];refine⟨fun σ2 H2=>∃μ2 ρ2 st2 r2,aK ρ H ρ2 H2/\RS (wo X) ρ2 H2 μ2 σ2/\SR X.K ρ2 st2 H2/\gB t body m μ2 st2=some r2/\wS (wo X) E ρ2 H2 D r2,fun σ2 H2 n=>⟨m,X6 m,n⟩,μ',ρ1,st1,u!.mono e1,b?,?_⟩;cases zb:body μ' st1 with
     |nx μ4 lZ=>
      rw[zb]at hw;intro ρ4 H4 σ4 e4 og Ac;exact⟨μ4,ρ4,lZ,r,(e'.trans e1).trans e4,Ac,og,hw,wS.mono hq (e1.trans e4)⟩
     |ct μ4 lZ=>
      rw[zb]at hw;intro ρ4 H4 σ4 e4 og Ac;exact⟨μ4,ρ4,lZ,r,(e'.trans e1).trans e4,Ac,og,hw,wS.mono hq (e1.trans e4)⟩
     |bk μ4 lZ=>rw[zb]at hw;cases hw;exact fun ρ4 H4 σ4 e4 og Ac=>hq ρ4 H4 σ4 (e1.trans e4) og Ac
     |rt v lZ=>rw[zb]at hw;cases hw;exact fun ρ4 H4 σ4 e4 og Ac=>hq ρ4 H4 σ4 (e1.trans e4) og Ac
     |er c μ4 lZ=>rw[zb]at hw;cases hw;obtain⟨C,q1,q2⟩:=hq;exact⟨C,q1,fun ρ4 H4 e4 og=>q2 ρ4 H4 (e1.trans e4) og⟩
     |bad=>rw[zb]at hw;cases hw;exact hq
    |false=>
     cases hw;rw[Vx VC];exact hq ρ1 H1 σ' e1 b? (u!.mono e1)
   |err c st1=>rw[z]at hw;cases hw;exact hq
   |bad=>rw[z]at hw;cases hw;exact hq
 .exact h.elim
def j!(k:Nat)(caps:List Nat)(μ:Env):Env:=List.replicate k none++caps.map fun j=>(μ[j]?).getD none
theorem RS.Ej{W:Wo}{μ:Env}{σ:L2.St}(r:RS W ρ H μ σ)(k:Nat)(caps:List Nat):RS W ρ H (j! k caps μ) (pU k caps σ):=by
 refine⟨by simp[j!,pU],fun i u e=>?_⟩;unfold j! at e;rcases WC i k with q|q
 .rw[V' (by rw[V3];exact q),XC,Vs q]at e;cases e
 .rw[VS (by rw[V3];exact q),V3,VV]at e;cases z:caps[i-k]? with
  |none=>rw[z]at e;cases e
  |some j=>
   rw[z]at e;have e':(μ[j]?).getD none=some u:=V! e;have e2:μ[j]?=some (some u):=by
    cases y:μ[j]? with
    |none=>rw[y]at e';cases e'
    |some w=>rw[y]at e';exact W! _ e'
   obtain⟨v,h1,h2⟩:=r.at_ j u e2;refine⟨v,?_,h2⟩;unfold pU;rw[VS (by rw[V3];exact q),V3,VV,z];show some ((σ[j]?).getD none)=_;rw[h1];rfl
open Classical in
def dR(g:ao->Prop)(a:AS)(c:MT)(e:ME):List aw->Env->ao->List aw->c_ (List aw)
 |[],_,st,ys=>if g st then .ok ys st else .bad
 |u::us,τ,st,ys=>if g st then(match a u τ with
  |some τ1=>match c τ1 st with
   |.ok true st1=>match e τ1 st1 with
    |.ok y st2=>dR g a c e us τ1 st2 (ys++[y])
    |.err _ _=>.bad
    |.bad=>.bad
   |.ok false st1=>dR g a c e us τ1 st1 ys
   |.err _ _=>.bad
   |.bad=>.bad
  |none=>.bad)else .bad
def eh(k:Nat)(caps:List Nat)(it:MI)(a:AS)(c:MT)(e:ME):ME:=fun μ st=>(it μ st).bind fun p st1=>
 if p.1.length<=sizeLine then(dR p.2 a c e p.1 (j! k caps μ) st1 []).bind fun ys st2=>.ok (.loc st2.length) (st2++[.lst ys])else .bad
def cT:MT:=fun _ st=>.ok true st
abbrev W0(X:Cx):Wo:=⟨X.K,X.mg,[]⟩
section
variable{cl:List (Str×_t)}{it:MI}{a:AS}{c:MT}{e:ME}
theorem u?(JO:X.pn=[]){σ:L2.St}{Q:VK}(h:tE X E (eh k caps it a c e) σ H Q):mU k caps (tI X E it) (tA (W0 X) a) (tG (W0 X) E0 RB c) (tG (W0 X) E0 (Rl X.K) e) σ H Q:=by
 obtain⟨μ,ρ,st,rs,sr,h⟩:=h;refine xM (go (R1:=N4 X.K) μ ρ st rs sr h fun pr st1 ρ1 H1 J e1 b? rJ h1=>?_);obtain⟨us,g⟩:=pr;have ew:wo X=W0 X:=by show Wo.mk _ _ _=_;rw[JO]
 have JC:=rs.mono e1;rw[ew]at JC h1;dsimp only at h1;split at h1
 .rename_i hz;refine Bv us.length hz (fun i ys τ H'=>∃μτ ρ' aF yv,aK ρ1 H1 ρ' H'/\RS (W0 X) ρ' H' μτ τ/\SR X.K ρ' aF H'/\bp X.K ρ' H' yv ys/\yv.length<=i/\wR (W0 X) E (Rl X.K) ρ' H' Q ((dR g a c e (us.drop i) μτ aF yv).bind fun(zs:List aw)(st2:ao)=>c_.ok (aw.loc st2.length) (st2++[aG.lst zs])))
   ⟨j! k caps μ,ρ1,st1,[],aK.refl _ _,JC.Ej k caps,b?,bp.nil,Vv _,h1⟩ ?_ ?_ ?_ ?_ ?_
  .rintro i ys τ H' hi ⟨μτ,ρ',aF,yv,e',u!,rF,ry,hl,hq⟩;rw[WQ hi]at hq;unfold dR at hq;by_cases iR:g aF
   .exact((rJ ρ' aF H' e' rF iR i).1 _ (VD hi)).1
   .rw[Vx iR]at hq;exact hq.elim
  .rintro ys τ H' ⟨μτ,ρ',aF,yv,e',u!,rF,ry,hl,hq⟩;rw[XS]at hq;unfold dR at hq;by_cases iR:g aF
   .exact(rJ ρ' aF H' e' rF iR us.length).2 (Vv _)
   .rw[Vx iR]at hq;exact hq.elim
  .rintro i ys τ H' ⟨μτ,ρ',aF,yv,e',u!,rF,ry,hl,hq⟩;rw[<-ry.length];exact hl
  .rintro i ys τ H' x H2 hi ⟨μτ,ρ',aF,yv,e',u!,rF,ry,hl,hq⟩ y K1 hK;rw[WQ hi]at hq;unfold dR at hq;by_cases iR:g aF
   .rw[Vs iR]at hq;obtain⟨e2,iZ,r2⟩:=((rJ ρ' aF H' e' rF iR i).1 _ (VD hi)).2 x H2 y;cases z:a us[i] μτ with
    |none=>rw[z]at hq;exact hq.elim
    |some τ1=>
     rw[z]at hq;dsimp only at hq;refine⟨μτ,ρ',us[i],τ1,u!.mono e2,r2,z,fun σ3 FU=>⟨τ1,ρ',aF,FU,iZ,?_⟩⟩;cases zc:c τ1 aF with
     |ok b jv=>
      rw[zc]at hq;intro ρ3 H3 b' e3 pY eb;cases eb;cases b with
      |true=>
       dsimp only at hq;rw[Vs rfl];refine⟨τ1,ρ3,jv,FU.mono e3,pY,?_⟩;cases ze:e τ1 jv with
       |ok v lZ=>
        rw[ze]at hq;intro ρ4 H4 y4 e4 og r4;exact hK _ _ _ ⟨τ1,ρ4,lZ,yv++[v],((e'.trans e2).trans e3).trans e4,(FU.mono e3).mono e4,og,(bp.mono ((e2.trans e3).trans e4) _ _ ry).append (bp.one r4),by rw[Vz,WG];lia,wR.mono hq ((e2.trans e3).trans e4)⟩
       |err c' lZ=>rw[ze]at hq;exact hq.elim
       |bad=>rw[ze]at hq;exact hq.elim
      |false=>
       dsimp only at hq;rw[Vx VC];exact hK _ _ _ ⟨τ1,ρ3,jv,yv,(e'.trans e2).trans e3,FU.mono e3,pY,bp.mono (e2.trans e3) _ _ ry,by lia,wR.mono hq (e2.trans e3)⟩
     |err c' jv=>rw[zc]at hq;exact hq.elim
     |bad=>rw[zc]at hq;exact hq.elim
   .rw[Vx iR]at hq;exact hq.elim
  .rintro ys τ H' p ⟨μτ,ρ',aF,yv,e',u!,rF,ry,hl,hq⟩ hp;rw[XS]at hq;unfold dR at hq;by_cases iR:g aF
   .rw[Vs iR]at hq;obtain⟨k1,k2,k3⟩:=gH rF ry hp;exact hq _ _ _ k1 k2 k3
   .rw[Vx iR]at hq;exact hq.elim
 .exact h1.elim
theorem jM(hc:X.calm=true)(JO:X.pn=[])(B:pV X N scope cl k caps)(hi:PI X tg iter (tI X E it))(hg:∀C fp s H,PG (qY X N scope cl C fp s H) tg (tA (W0 X) a))(E5:∀C fp s H,xq (qY X N scope cl C fp s H) ifs (tG (W0 X) E0 RB c))(he:∀C fp s H,PE (qY X N scope cl C fp s H) elt (tG (W0 X) E0 (Rl X.K) e))(hs:∀x,foldedSetIterable iter X.env x=pure x:=by intro _;rfl):PE X (.ListComp elt [⟨tg,iter,ifs,0⟩] scope pos) (tE X E (eh k caps it a c e)):=
 PE.imp (Jn hc B hi hg E5 he hs) fun _ _ _ h=>u? JO h
theorem rG(i:Nat){py:Pos}(hN:X.N.Nodup)(hc:X.calm=true)(JO:X.pn=[])(B:pV X N scope cl k caps)(hi:PI X tg iter (tI X E it))(hg:∀C fp s H,PG (qY X N scope cl C fp s H) tg (tA (W0 X) a))(E5:∀C fp s H,xq (qY X N scope cl C fp s H) ifs (tG (W0 X) E0 RB c))(he:∀C fp s H,PE (qY X N scope cl C fp s H) elt (tG (W0 X) E0 (Rl X.K) e))(hy:X.N[i]?=some y:=by rfl)(hx:Loc X.env.scope y:=by first|exact Or.inl rfl|exact Or.inr rfl)(UE:swapsWith (.ListComp elt [⟨tg,iter,ifs,0⟩] scope pos) (some (.Name y py)) zZ.line X.env=pure true:=by rfl)(hs:∀x,foldedSetIterable iter X.env x=pure x:=by intro _;rfl)(hf:X.fn y=true\/X.env.scope.names.lookup y=some .local:=by first|exact .inl rfl|exact .inr rfl|assumption):
  PS X (.Assign [.Name y py] (.ListComp elt [⟨tg,iter,ifs,0⟩] scope pos) zZ) (tS X E (aB i (eh k caps it a c e))):=
 PS.imp (L2.z5 hN hy hx hc B hi hg E5 he UE hs hf) fun _ _ _ h=>u? JO (xV h)
theorem JP{C fp s H}:xq (qY X N scope cl C fp s H) [] (tG (W0 X) E0 RB cT):=by intro ai s' σ H' Q I q;refine Bu ai s' σ H' Q I ?_;obtain⟨μ,ρ,st,rs,sr,h⟩:=q;exact h ρ H' true (aK.refl _ _) sr rfl
theorem JQ{cc:Expr}{C fp s H}(h:PT (qY X N scope cl C fp s H) cc (tG (W0 X) E0 RB c)):xq (qY X N scope cl C fp s H) [cc] (tG (W0 X) E0 RB c):=Jk h
theorem Rr{C fp s H}:Passes (lI P w) (qY X N scope cl C fp s H) E0:=by rintro ai σ H' s' e s2 I ⟨ea,cls,H2,_,_,q⟩;exact q.elim
end
abbrev FM:=aw->List aw->ao->c_ aw
def rMt(W:Wo)(E:XK)(f:FM):V->List V->Hp->VK->Prop:=fun x xs H Q=>∃ρ st u us,SR W.K ρ st H/\Rl W.K ρ H u x/\bp W.K ρ H us xs/\wR W E (Rl W.K) ρ H Q (f u us st)
def xW(st:ao):aw->Bool
 |.loc n=>match st[n]? with
  |some (.lst _)=>true
  |_=>false
 |_=>false
def jk(f:FM)(o:ME)(a:MA):ME:=fun μ st=>(o μ st).bind fun x st1=>if xW st1 x=true then(a μ st1).bind fun xs st2=>f x xs st2 else .bad
def cL:FM
 |.loc n,[v],st=>match st[n]? with
  |some (.lst us)=>if us.length<sizeLine then .ok .cO (st.set n (.lst (us++[v])))else .bad
  |_=>.bad
 |_,_,_=>.bad
section
variable{mo:ME}{ms:MA}{f:FM}
theorem M7.imp{id:String}{r r':V->List V->Hp->VK->Prop}(h:M7 X id r)(k:∀x xs H Q,r' x xs H Q->r x xs H Q):M7 X id r':=fun ai s σ H x xs v us Q I rx rs q=>h ai s σ H x xs v us Q I rx rs (k x xs H Q q)
theorem BJ{K:_l}{st:ao}{us Rp:List aw}{vs JK:List V}(sr:SR K ρ st H)(h:st[n]?=some (.lst us))(ha:ρ[n]?=some a)(hH:H a=some (.lst vs))(r:bp K ρ H Rp JK):
  aK ρ H ρ (upd H a (.lst JK))/\SR K ρ (st.set n (.lst Rp)) (upd H a (.lst JK)):=by
 have e:aK ρ H ρ (upd H a (.lst JK)):=aK.put hH (fun _ z=>by cases z) (fun _ _ z=>by cases z);exact⟨e,sr.set h rfl rfl ha hH (fun _ z=>by cases z) (fun _ _ z=>by cases z) ⟨JK,c!,bp.mono e _ _ r⟩⟩
theorem Ad:M7 X "list.append" (rMt (wo X) E cL):=by
 refine M7.imp CQ ?_;rintro x xs H Q ⟨ρ,st,u,us,sr,r1,r2,h⟩;unfold cL at h;split at h
 .rename_i n v;obtain⟨a,rfl,ha⟩:=r1.fD;obtain⟨y,rfl,ry⟩:=r2.By;split at h
  .rename_i ws hw;split at h
   .rename_i hz;obtain⟨vs,hH,rv⟩:=sr.cell n _ a hw ha;refine⟨a,vs,y,rfl,rfl,hH,by rw[<-rv.length];exact hz,?_⟩;obtain⟨k1,k2⟩:=BJ sr hw ha hH (rv.append (bp.one ry));exact h ρ _ _ k1 k2 Rl.Ff
   .exact h.elim
  .exact h.elim
 .exact h.elim
theorem FW{K:_l}{st:ao}{u:aw}{x:V}(sr:SR K ρ st H)(r:Rl K ρ H u x)(h:xW st u=true):Um K "list" x H:=by
 cases u with
 |loc n=>
  obtain⟨a,rfl,ha⟩:=r.fD;obtain⟨c,hc,kc⟩:=sr.there ha;simp only[xW,hc]at h;cases c with
  |lst us=>obtain⟨vs,h1,_⟩:=kc;exact .inl ⟨rfl,vs,lY.of h1⟩
  |_=>cases h
 |_=>cases h
theorem N9{id:String}(slot:Slot "list" name id)(QN:typeOf (.builtin id)=pure (.type "method_descriptor"))(hm:M7 X id (rMt (wo X) E f))(ho:PE X o (tE X E mo))(ha:PA X (e::es) (tL X E ms))(xD:attributeBase o name X.env (eval o X.env)=eval o X.env:=by rfl)
  (EU:((backTo b8 (starEach (e::es) X.env)).all (fun x => !x.1)&&(backToKw b8 (keywordEach [] X.env)).all (fun x=>x.1.isSome)
   && decide ((e::es).length+([]:List Keyword).length+(if([]:List Keyword).isEmpty then 0 else 1)<30))=true:=by rfl)
  (xE:(apos.endLine==b8.line)=true:=by rfl) (hs:starEach (e::es) X.env=(false,eval e X.env)::starEach es X.env:=by rfl) (qU:(backTo b8 (starEach es X.env)).any (·.1)=false:=by rfl):
  PE X (.Call (.Attribute o name apos) (e::es) [] b8) (tE X E (jk f mo ms)):=by
 refine PE.imp (QM PySem.F.plainAttrs_list slot QN hm ho ha xD EU xE hs qU) ?_;rintro σ H Q ⟨μ,ρ,st,rs,sr,h⟩;refine go μ ρ st rs sr h fun u st1 ρ1 H1 x e1 b? r1 h1=>?_;split at h1
 .rename_i hz;refine⟨FW b? r1 hz,?_⟩;refine go (R1:=bp X.K) μ ρ1 st1 (rs.mono e1) b? h1 fun us st2 ρ2 H2 xs e2 iZ r2 h2=>?_;exact⟨ρ2,st2,u,us,iZ,Rl.mono e2 _ _ r1,r2,h2⟩
 .exact h1.elim
end
def LO(W:Wo)(R:_p->Hp->α->β->Prop)(ρ:_p)(H:Hp)(Q:β->Hp->Prop)(EX:EH):c_ α->Prop
 |.ok u aF=>∀ρ' H' v,aK ρ H ρ' H'->SR W.K ρ' aF H'->R ρ' H' u v->Q v H'
 |.err c aF=>∃C,W.mg c=some (.ref C)/\∀ρ' H' ea,aK ρ H ρ' H'->SR W.K ρ' aF H'->EX (.ref C) ea H'
 |.bad=>False
theorem LO.mono{W:Wo}{R:_p->Hp->α->β->Prop}{Q:β->Hp->Prop}{EX:EH}{r:c_ α}(h:LO W R ρ H Q EX r)(e:aK ρ H ρ' H'):LO W R ρ' H' Q EX r:=by
 cases r with
 |ok u st=>exact fun ρ2 H2 v e2 s r=>h ρ2 H2 v (e.trans e2) s r
 |err c st=>obtain⟨C,h1,h2⟩:=h;exact⟨C,h1,fun ρ2 H2 ea e2 s=>h2 ρ2 H2 ea (e.trans e2) s⟩
 |bad=>exact h
def LP(X:Cx)(m:ME):Jq:=fun σ H Q EX=>∃μ ρ st,RS (wo X) ρ H μ σ/\SR X.K ρ st H/\LO (wo X) (Rl X.K) ρ H Q EX (m μ st)
def S?(X:Cx)(m:MA):Jr:=fun σ H Q EX=>∃μ ρ st,RS (wo X) ρ H μ σ/\SR X.K ρ st H/\LO (wo X) (bp X.K) ρ H Q EX (m μ st)
def JR(W:Wo)(ρ:_p)(H:Hp)(D:Ends)(EX:EK):cD->Prop
 |.nx μ st=>∀ρ' H' σ',aK ρ H ρ' H'->SR W.K ρ' st H'->RS W ρ' H' μ σ'->D.nx σ' H'
 |.rt v st=>∀ρ' H' x,aK ρ H ρ' H'->SR W.K ρ' st H'->Rl W.K ρ' H' v x->D.rt x H'
 |.bk μ st=>∀ρ' H' σ',aK ρ H ρ' H'->SR W.K ρ' st H'->RS W ρ' H' μ σ'->D.bk σ' H'
 |.ct μ st=>∀ρ' H' σ',aK ρ H ρ' H'->SR W.K ρ' st H'->RS W ρ' H' μ σ'->D.ct σ' H'
 |.er c μ st=>∃C,W.mg c=some (.ref C)/\∀ρ' H' σ' ea,aK ρ H ρ' H'->SR W.K ρ' st H'->RS W ρ' H' μ σ'->EX (.ref C) ea σ' H'
 |.bad=>False
theorem JR.mono{W:Wo}{D:Ends}{r:cD}(h:JR W ρ H D EX r)(e:aK ρ H ρ' H'):JR W ρ' H' D EX r:=by
 cases r with
 |nx μ st=>exact fun ρ2 H2 σ2 e2 s r=>h ρ2 H2 σ2 (e.trans e2) s r
 |rt v st=>exact fun ρ2 H2 x e2 s r=>h ρ2 H2 x (e.trans e2) s r
 |bk μ st=>exact fun ρ2 H2 σ2 e2 s r=>h ρ2 H2 σ2 (e.trans e2) s r
 |ct μ st=>exact fun ρ2 H2 σ2 e2 s r=>h ρ2 H2 σ2 (e.trans e2) s r
 |er c μ st=>obtain⟨C,h1,h2⟩:=h;exact⟨C,h1,fun ρ2 H2 σ2 ea e2 s r=>h2 ρ2 H2 σ2 ea (e.trans e2) s r⟩
 |bad=>exact h
def N_(X:Cx)(m:MB):Nw:=fun D EX σ H=>∃μ ρ st,RS (wo X) ρ H μ σ/\SR X.K ρ st H/\JR (wo X) ρ H D EX (m μ st)
def v_(m:Env->ao->c_ α):Env->ao->c_ α:=fun μ st=>match m μ st with
 |.ok v aF=>.ok v aF
 |.err _ _=>.bad
 |.bad=>.bad
section
variable{m:ME}{ms:MA}{f:FN}
theorem u3.imp{t t':Jq}(h:u3 X e t)(k:∀σ H Q EX,t' σ H Q EX->t σ H Q EX):u3 X e t':=fun ai s σ H Q EX I q=>h ai s σ H Q EX I (k σ H Q EX q)
theorem C1.imp{t t':Jr}(h:C1 X es t)(k:∀σ H Q EX,t' σ H Q EX->t σ H Q EX):C1 X es t':=fun p ai s σ H Q EX I q=>h p ai s σ H Q EX I (k σ H Q EX q)
theorem Eg.imp{st:Stmt}{t t':Nw}(h:Eg X st t)(k:∀D EX σ H,t' D EX σ H->t D EX σ H):Eg X st t':=fun ai s σ H D EX I q=>h ai s σ H D EX I (k D EX σ H q)
theorem FX(h:∀W,PE (X.mP W) e (tE X E0 m)):u3 X e (LP X (v_ m)):=by
 refine u3.imp (Nx h) ?_;rintro σ H Q EX ⟨μ,ρ,st,rs,sr,h⟩;refine⟨μ,ρ,st,rs,sr,?_⟩;unfold v_ at h;cases z:m μ st with
 |ok v aF=>rw[z]at h;exact h
 |err c aF=>rw[z]at h;exact h.elim
 |bad=>rw[z]at h;exact h
theorem FY{fd:FuncData}(F:kg X.prog X.w X.K X.mg X.base (lI X.prog X.w) k fa fd ps (NV ⟨X.K,X.mg,[]⟩ f))(hr:gL k X.A)(hg:Gl X x)(hm:X.mg x=some (.ref fa))(hk:PySem.W.keepIn X.K (.ref fa)=true)(hb:Binds X.K fd ps [])(Ew:∀y,X.fn y=true)(ha:∀W,PA (X.mP W) (e::es) (tL X E0 ms))(qP:(x==("__debug__":Str))=false:=by decide)(he:starEach (e::es) X.env=(false,eval e X.env)::starEach es X.env:=by rfl)(kT:(backTo pos (starEach es X.env)).any (·.1)=false:=by rfl):
  u3 X (.Call (.Name x p) (e::es) [] pos) (LP X (aj f (v_ ms))):=by
 refine u3.imp (E? F hr hg hm hk hb Ew ha qP he kT) ?_;rintro σ H Q EX ⟨μ,ρ,st,rs,sr,h⟩;refine⟨μ,ρ,st,rs,sr,?_⟩;unfold aj v_ at h;cases z:ms μ st with
 |ok us st1=>
  rw[z]at h;intro ρ1 H1 vs e1 b? r1;refine⟨us,ρ1,st1,r1,b?,?_⟩;have h':LO (wo X) (Rl X.K) ρ1 H1 Q EX (f us st1):=LO.mono h e1;revert h';cases f us st1 with
  |ok u st2=>exact fun q=>q
  |err c st2=>exact fun⟨C,q1,q2⟩=>⟨C,q1,fun ρ2 H2 e2 s2 ea=>q2 ρ2 H2 ea e2 s2⟩
  |bad=>exact fun q=>q
 |err c aF=>rw[z]at h;exact h.elim
 |bad=>rw[z]at h;exact h
theorem JS:C1 X [] (S? X ak):=C1.imp Js fun σ H Q EX⟨μ,ρ,st,rs,sr,h⟩=>h ρ H [] (aK.refl _ _) sr bp.nil
theorem xX(ha:u3 X e (LP X m))(hr:C1 X es (S? X ms))(hs:starEach (e::es) X.env=(false,eval e X.env)::starEach es X.env:=by rfl):C1 X (e::es) (S? X (ae m ms)):=by
 refine C1.imp (Fb ha hr hs) ?_;rintro σ H Q EX ⟨μ,ρ,st,rs,sr,h⟩;refine⟨μ,ρ,st,rs,sr,?_⟩;unfold ae at h;cases z:m μ st with
 |ok u st1=>
  rw[z]at h;intro ρ1 H1 v e1 b? r1;have h':=LO.mono h e1;refine⟨μ,ρ1,st1,rs.mono e1,b?,?_⟩;dsimp only[c_.bind]at h';cases z2:ms μ st1 with
  |ok us st2=>
   rw[z2]at h';exact fun ρ2 H2 vs e2 iZ r2=>h' ρ2 H2 _ e2 iZ (bp.cons (Rl.mono e2 _ _ r1) r2)
  |err c st2=>rw[z2]at h';exact h'
  |bad=>rw[z2]at h';exact h'
 |err c aF=>rw[z]at h;exact h
 |bad=>rw[z]at h;exact h
theorem JT{k}(h:C1 X es (S? X ms)):u3 X (.Tuple es k pos) (LP X (fO ms)):=by
 refine u3.imp (Jt h) ?_;rintro σ H Q EX ⟨μ,ρ,st,rs,sr,h⟩;refine⟨μ,ρ,st,rs,sr,?_⟩;unfold fO at h;cases z:ms μ st with
 |ok us st1=>
  rw[z]at h;dsimp only[c_.bind]at h;split at h
  .rename_i hz;intro ρ1 H1 xs e1 b? r1;refine⟨by rw[<-r1.length];exact hz,fun p hp=>?_⟩;have s:=dO (o:=.tup xs) hp;exact h ρ1 _ _ (e1.trans (aK.same s)) (b?.grow s) (Rl.pK c! (bp.mono (aK.same s) _ _ r1))
  .exact h.elim
 |err c aF=>rw[z]at h;exact h
 |bad=>rw[z]at h;exact h
theorem FZ{σ:L2.St}{D:Ends}{k:aw->ao->cD}{μ:Env}{st:ao}(rs:RS (wo X) ρ H μ σ)(sr:SR X.K ρ st H)(h:JR (wo X) ρ H D EX ((m μ st).sb μ k)){Q:VK}(c:∀u st1 ρ1 H1 x,aK ρ H ρ1 H1->SR X.K ρ1 st1 H1->Rl X.K ρ1 H1 u x->JR (wo X) ρ1 H1 D EX (k u st1)->Q x H1):LP X m σ H Q fun cls ea H'=>EX cls ea σ H':=by
 refine⟨μ,ρ,st,rs,sr,?_⟩;cases z:m μ st with
 |ok u st1=>rw[z]at h;exact fun ρ1 H1 x e1 b? r1=>c u st1 ρ1 H1 x e1 b? r1 (JR.mono h e1)
 |err c' st1=>rw[z]at h;obtain⟨C,q1,q2⟩:=h;exact⟨C,q1,fun ρ2 H2 ea e2 s2=>q2 ρ2 H2 σ ea e2 s2 (rs.mono e2)⟩
 |bad=>rw[z]at h;exact h
theorem F0(he:u3 X e (LP X m))(hs:swapsWith e none pos.line X.env=pure false:=by rfl):Eg X (.Expr e pos) (N_ X (cF m)):=by refine Eg.imp (Fc he hs) ?_;rintro D EX σ H ⟨μ,ρ,st,rs,sr,h⟩;exact FZ rs sr h fun u st1 ρ1 H1 x e1 b? r1 h1=>h1 ρ1 H1 σ (aK.refl _ _) b? (rs.mono e1)
theorem JU(he:u3 X e (LP X m)):Eg X (.Return (some e) pos) (N_ X (aP m)):=by refine Eg.imp (Ju he) ?_;rintro D EX σ H ⟨μ,ρ,st,rs,sr,h⟩;exact FZ rs sr h fun u st1 ρ1 H1 x e1 b? r1 h1=>h1 ρ1 H1 x (aK.refl _ _) b? r1
theorem BK{s1:Stmt}{a:MB}(h:Eg X s1 (N_ X a)):C2 X [s1] (N_ X a):=Fd h
abbrev MH:=Str->MB
def F1:MH:=fun _ _ _=>.bad
def rH:cD->cD
 |.rt v st=>.rt v st
 |_=>.bad
def kr(sub:Str->Str->Option Bool)(x:Str)(gj:MB)(rest:MH):MH:=fun c μ st=>match sub c x with
 |some true=>rH (gj μ st)
 |some false=>rest c μ st
 |none=>.bad
def N!(sub:Str->Str->Option Bool)(x:Str)(i:Nat)(gj:MB)(rest:MH):MH:=fun c μ st=>match sub c x with
 |some true=>rH (gj (μ.set i (some (.exc c))) st)
 |some false=>rest c μ st
 |none=>.bad
def rK(kn:Str->Bool)(body:MB)(h:MH):MB:=fun μ st=>match body μ st with
 |.er c μ' aF=>if kn c=true then h c μ' aF else .bad
 |.nx μ' aF=>.nx μ' aF
 |.rt v aF=>.rt v aF
 |.bk μ' aF=>.bk μ' aF
 |.ct μ' aF=>.ct μ' aF
 |.bad=>.bad
def F3(X:Cx)(h:MH):Eh:=fun D EX cls ea σ H=>∃c C μ ρ st,X.mg c=some (.ref C)/\cls=.ref C/\RS (wo X) ρ H μ σ/\SR X.K ρ st H/\JR (wo X) ρ H D EX (h c μ st)
theorem PH.imp{t t':Eh}(h:PH X hs t)(k:∀D EX cls ea σ H,t' D EX cls ea σ H->t D EX cls ea σ H):PH X hs t':=fun ai s σ H D EX ea cls J q=>h ai s σ H D EX ea cls J (k D EX cls ea σ H q)
theorem F4:PH X [] (F3 X F1):=PH.imp NB fun D EX cls ea σ H q=>by obtain⟨c,C,μ,ρ,st,_,_,_,_,h⟩:=q;exact h
def N?(K:_l)(mg:_j)(sub:Str->Str->Option Bool):Prop:=∀c x b C D,sub c x=some b->mg c=some (.ref C)->mg x=some (.ref D)->W.kitCls K (.ref C) (.ref D)=some b
theorem Bz.pn{K:_l}{mg:_j}{pn:_k}(hp:∀q∈pn,q∈NH){u:aw}{v:V}(h:Bz ⟨K,mg,pn⟩ ρ H u v):Bz ⟨K,mg,NH⟩ ρ H u v:=by
 cases u with
 |exc c=>obtain⟨a,oe,C,h1,h2,h3⟩:=h;exact⟨a,oe,C,h1,hp _ h2,h3⟩
 |_=>exact h
theorem RS.pn{K:_l}{mg:_j}{pn:_k}(hp:∀q∈pn,q∈NH){μ:Env}{σ:L2.St}(h:RS ⟨K,mg,pn⟩ ρ H μ σ):RS ⟨K,mg,NH⟩ ρ H μ σ:=
 ⟨h.len,fun i u e=>let⟨v,h1,h2⟩:=h.at_ i u e;⟨v,h1,h2.pn hp⟩⟩
theorem JV{sub:Str->Str->Option Bool}{s:MB}{r:MH}(hS:N? X.K X.mg sub)(hg:Gl X x)(hm:X.mg x=some (.ref C))(hB:W.subIn X.K (.ref C) (.type "BaseException")=some true)(hs:∀ea oe,j' (L2.pW X ea oe) (b₀::gj) (tS (L2.pW X ea oe) E0 s))(hr:PH X rest (F3 X r))(hd:(x==("__debug__":Str))=false:=by decide):PH X (.ExceptHandler (some (.Name x np)) none (b₀::gj) pos::rest) (F3 X (kr sub x s r)):=by
 refine PH.imp (Jw hg hm hB hs hr hd) ?_;rintro D EX cls ea σ H ⟨c,C',μ,ρ,st,h1,rfl,rs,sr,h⟩;unfold kr at h;split at h
 .rename_i e;refine⟨true,hS c x true C' C e h1 hm,?_⟩;rw[Vs rfl];intro oe Ip;refine⟨μ,ρ,st,RS.pn (fun q hq=>Vq _ hq) rs,sr,?_⟩;revert h;cases s μ st with
  |rt v aF=>exact fun q=>q
  |_=>exact fun q=>q.elim
 .rename_i e;refine⟨false,hS c x false C' C e h1 hm,?_⟩;rw[Vx VC];exact⟨c,C',μ,ρ,st,h1,rfl,rs,sr,h⟩
 .exact h.elim
theorem Rt{n:Str}{sub:Str->Str->Option Bool}{s:MB}{r:MH}(hS:N? X.K X.mg sub)(hN:X.N.Nodup)(hi:X.N[i]?=some n)(hl:X.env.scope.names.lookup n=some .local)(hg:Gl X x)(hm:X.mg x=some (.ref C))(hB:W.subIn X.K (.ref C) (.type "BaseException")=some true)(hs:∀ea oe,j' (L2.pW X ea oe) (b₀::gj) (tS (L2.pW X ea oe) E0 s))(hr:PH X rest (F3 X r))(hd:(x==("__debug__":Str))=false:=by decide):
  PH X (.ExceptHandler (some (.Name x np)) (some n) (b₀::gj) pos::rest) (F3 X (N! sub x i s r)):=by
 refine PH.imp (Ra hN hi hl hg hm hB hs hr hd) ?_;rintro D EX cls ea σ H ⟨c,C',μ,ρ,st,h1,rfl,rs,sr,h⟩;unfold N! at h;split at h
 .rename_i e;refine⟨true,hS c x true C' C e h1 hm,?_⟩;rw[Vs rfl];intro oe Ip;have u!:RS (wo (L2.pW X ea oe)) ρ H (μ.set i (some (.exc c))) (σ.set i (some (.ref ea))):=
   (RS.pn (fun q hq=>Vq _ hq) rs).Rf i ⟨ea,oe,C',rfl,Vu,h1,Ip⟩
  refine⟨_,ρ,st,u!,sr,?_⟩;revert h;cases s (μ.set i (some (.exc c))) st with
  |rt v aF=>exact fun q=>q
  |_=>exact fun q=>q.elim
 .rename_i e;refine⟨false,hS c x false C' C e h1 hm,?_⟩;rw[Vx VC];exact⟨c,C',μ,ρ,st,h1,rfl,rs,sr,h⟩
 .exact h.elim
def Known(mg:_j)(kn:Str->Bool):Prop:=∀c,kn c=true->∃C,mg c=some (.ref C)
theorem F5{kn:Str->Bool}{b:MB}{h:MH}(hk:Known X.mg kn){D:Ends}{σ:L2.St}(q:N_ X (rK kn b h) D EX σ H):N_ X b D (fun cls ea σ' H'=>F3 X h D EX cls ea σ' H') σ H:=by
 obtain⟨μ,ρ,st,rs,sr,q⟩:=q;refine⟨μ,ρ,st,rs,sr,?_⟩;unfold rK at q;cases z:b μ st with
 |er c μ' aF=>
  rw[z]at q;dsimp only at q;split at q
  .rename_i hc;obtain⟨C,hC⟩:=hk c hc;exact⟨C,hC,fun ρ' H' σ' ea e s r=>⟨c,C,μ',ρ',aF,hC,rfl,r,s,JR.mono q e⟩⟩
  .exact q.elim
 |_=>rw[z]at q;exact q
def m3(m:MB):MB:=fun μ st=>match m μ st with
 |.er _ _ _=>.bad
 |.nx μ' aF=>.nx μ' aF
 |.rt v aF=>.rt v aF
 |.bk μ' aF=>.bk μ' aF
 |.ct μ' aF=>.ct μ' aF
 |.bad=>.bad
theorem F6{kn:Str->Bool}{body:List Stmt}{b:MB}{h:MH}(hk:Known X.mg kn)(dx:DefX X)(hb:C2 X body (N_ X b))(hh:PH X (h₀::hs) (F3 X h)):PS X (.Try body (h₀::hs) [] [] pos) (tS X E (m3 (rK kn b h))):=by
 refine PS.imp (NC dx hb hh) ?_;rintro D σ H ⟨μ,ρ,st,rs,sr,q⟩;refine F5 (EX:=fun _ _ _ _=>False) hk ⟨μ,ρ,st,rs,sr,?_⟩;unfold m3 at q;revert q;cases rK kn b h μ st with
 |er c μ' aF=>exact fun q=>q.elim
 |_=>exact fun q=>q
def rL(sub:Str->Str->Option Bool)(i:Nat)(x:Str):ME:=fun μ st=>match μ[i]? with
 |some (some (.exc c))=>(match sub c x with
  |some true=>.ok (.bl true) st
  |_=>.bad)
 |_=>.bad
inductive ClsAt(X:Cx)(x:Str):_r->V->Prop
 |own {C:_t} (hm:X.mg x=some (.ref C)):ClsAt X x (.ref C) (.ref C)
 |blt {n:String} (hm:X.mg x=none) (hv:bootBuiltins x=some (.type n)) (hn:x ≠ "__name__"):ClsAt X x (.type n) (.ty n)
def Ru(K:_l)(mg:_j)(sub:Str->Str->Option Bool)(x:Str)(cv:_r):Prop:=∀c C,sub c x=some true->mg c=some (.ref C)->W.kitOne K (.ref C) cv=some true
theorem Oa{sub:Str->Str->Option Bool}{n:Str}{cv:_r}{v:V}(hc:ClsAt X x cv v)(hS:Ru X.K X.mg sub x cv)(hg:Gl X "isinstance")(hm:X.mg "isinstance" = none)(S':Gl X x)(hN:X.N[i]?=some n)(hv:Mh X.env.scope n)(hd:(n==("__debug__":Str))=false)(zN:(n==("__classdict__":Str))=false)(Ta:(x==("__debug__":Str))=false)(hs:starEach [.Name n q1,.Name x q2] X.env=(false,eval (.Name n q1) X.env)::starEach [.Name x q2] X.env:=by rfl)(fq:starEach [.Name x q2] X.env=(false,eval (.Name x q2) X.env)::starEach [] X.env:=by rfl)(kT:(backTo pos (starEach [.Name x q2] X.env)).any (·.1)=false:=by rfl):PE X (.Call (.Name "isinstance" p) [.Name n q1,.Name x q2] [] pos) (tE X E (rL sub i x)):=by
 have hx:PE X (.Name x q2) (tC v):=by
  cases hc with
  |own h=>exact Bh S' h rfl Ta
  |blt h1 h2 h3=>exact Bi S' h1 h2 rfl h3 Ta
 refine PE.imp (qQ vY hg hm YS (kS (Ex (i:=i) hN hv hd zN) (kS hx vJ fq) hs) (by decide) (by decide) hs kT) ?_;rintro σ H Q ⟨μ,ρ,st,rs,sr,h⟩;unfold rL at h;split at h
 .rename_i c e;split at h
  .rename_i es;obtain⟨w,e',a,oe,C,rfl,hp,hC,ho⟩:=rs.at_ i _ e;have hk:=hS c C es hC;rw[<-ho]at hk;cases hc with
   |own h'=>exact⟨_,e',a,oe,_,.inl ⟨rfl,hk⟩,hp,e_ sr h⟩
   |blt h1 h2 h3=>exact⟨_,e',a,oe,0,.inr ⟨_,rfl,hk⟩,hp,e_ sr h⟩
  .exact h.elim
 .exact h.elim
end
inductive jN(X:Cx)(scope:Scope):List (Str×_t)->List Nat->Prop
 |nil:jN X scope [] []
 |cons {y:Str} {c:_t} {j:Nat} {cl:List (Str×_t)} {caps:List Nat} (sub:X.env.cells.lookup y=some c) (hX:X.N[j]?=some y) (hk:X.env.kindOf y=some .cell\/X.env.kindOf y=some .free)
   (hr:(relabel scope X.env).names.lookup y=some .cell\/(relabel scope X.env).names.lookup y=some .free) (r:jN X scope cl caps):jN X scope ((y,c)::cl) (j::caps)
theorem jN.sub{X:Cx}{scope:Scope}{cl:List (Str×_t)}{caps:List Nat}(A:jN X scope cl caps):∀x c,cl.lookup x=some c->X.env.cells.lookup x=some c:=by
 induction A with
 |nil=>intro x c h;cases h
 | @cons y c0 _ _ _ sub _ _ _ _ ih=>
  intro x c h;rw[List.lookup_cons]at h;by_cases e:x=y
  .rw[WT.mpr e]at h;rw[e];exact sub.trans h
  .rw[Xb.mpr e]at h;exact ih x c h
theorem jN.at_{cl:List (Str×_t)}(A:jN X scope cl caps):∀(i j:Nat)(x:Str),caps[i]?=some j->(cl.map (·.1))[i]?=some x ->
  X.N[j]?=some x/\(X.env.kindOf x=some .cell\/X.env.kindOf x=some .free)/\((relabel scope X.env).names.lookup x=some .cell\/(relabel scope X.env).names.lookup x=some .free):=by
 induction A with
 |nil=>intro i j x h;cases h
 |cons _ hX hk hr _ ih=>
  intro i j x h h2;cases i with
  |zero=>cases h;cases h2;exact⟨hX,hk,hr⟩
  |succ i=>exact ih i j x h h2
theorem lJ:∀{cl:List (Str×_t)}{x:Str},x∈cl.map (·.1)->∃c,cl.lookup x=some c
 |[],x,h=>by simp at h
 |(y,c)::cl,x,h=>by
  by_cases e:x=y
  .exact⟨c,by simp[e]⟩
  .have e':(x==y)=false:=by simpa using e
   rw[Vp,VJ]at h;rcases h with h|h
   .exact absurd h e
   .obtain⟨d,hd⟩:=lJ h;exact⟨d,by simp only[List.lookup_cons,e'];exact hd⟩
theorem Rv{cl:List (Str×_t)}(xK:closureFor scope X.env=pure cl)(A:jN X scope cl caps)(has:((relabel scope X.env).names.all fun p => !(p.2 == .cell || p.2 == .free) || (cl.map (·.1)).contains p.1)=true)(n_:(scope.names.all fun p => !(p.2 == .cell))=true)(kind:scope.kind=.function)(names:(scope.names.all fun p => !(p.2 == .local) || scope.names.lookup p.1==some .local)=true)(len:N.length=k+caps.length)(hN:N.drop k=cl.map (·.1)):pV X N scope cl k caps where
 xK:=xK
 sub:=A.sub
 has:=fun x h=>by
  have m:x∈cl.map (·.1):=by rcases h with h|h<;>(have m:=W9 h;have z:=Wa.mp has _ m;simpa using z)
  exact lJ m
 n_:=fun x hx h=>by have z:=Wa.mp n_ x hx;simp[h]at z
 kind:=kind
 names:=fun x hx h=>by have z:=Wa.mp names x hx;simpa[h]using z
 len:=len
 at_:=fun i j x h1 h2=>A.at_ i j x h1 (by rw[<-hN,List.getElem?_drop];exact h2)
def FnAt(P:_v)(w:World)(K:_l)(mg:_j)(base:Heap)(x:Str)(k:Nat)(f:FN):Prop:=
 ∃fa fd ps,kg P w K mg base (lI P w) k fa fd ps (NV ⟨K,mg,[]⟩ f)/\mg x=some (.ref fa)/\W.keepIn K (.ref fa)=true/\Binds K fd ps []
section
variable{ms:MA}{f:FN}{j:Nat}
theorem LQ(G:FnAt X.prog X.w X.K X.mg X.base x k f)(hr:gL j X.A)(hk:k<=j)(hg:Gl X x)(hx:Passes (lI X.prog X.w) X E)(ha:PA X (e::es) (tL X E ms))(qP:(x==("__debug__":Str))=false:=by decide)(he:starEach (e::es) X.env=(false,eval e X.env)::starEach es X.env:=by rfl)(kT:(backTo pos (starEach es X.env)).any (·.1)=false:=by rfl):PE X (.Call (.Name x p) (e::es) [] pos) (tE X E (aj f ms)):=by obtain⟨fa,fd,ps,F,hm,kp,b⟩:=G;exact JB F (hr.mono hk) hg hm kp b hx ha qP he kT
theorem F7(G:FnAt X.prog X.w X.K X.mg X.base x k f)(hr:gL j X.A)(hk:k<=j)(hg:Gl X x)(Ew:∀y,X.fn y=true)(ha:∀W,PA (X.mP W) (e::es) (tL X E0 ms))(qP:(x==("__debug__":Str))=false:=by decide)(he:starEach (e::es) X.env=(false,eval e X.env)::starEach es X.env:=by rfl)(kT:(backTo pos (starEach es X.env)).any (·.1)=false:=by rfl):u3 X (.Call (.Name x p) (e::es) [] pos) (LP X (aj f (v_ ms))):=by obtain⟨fa,fd,ps,F,hm,kp,b⟩:=G;exact FY F (hr.mono hk) hg hm kp b Ew ha qP he kT
end
section
variable{K:_l}{mg:_j}
theorem FnAt.mk{st:Stmt}{fd:FuncData}{body:MB}(F:Jf K x x st f fd)(hm:mg x=some (.ref f))(S:iW N ps (bW st))(hb:∀(kV doc pm:_r)(an:Option _t)(iw ct:_r)(us:_n),us.length=ps.length->bindArgs (W.fnOf x x (h_ st) (fM st) (bW st) .none kV doc pm an iw ct) ⟨us,[]⟩=pure (ps.zip us))
  (h:∀ (iw:_r) (A:_u) (outer:List PySem.Env) (s:_s) (H:Hp) (E:XK),gL k (A.deeper (envOfC x (bW st) s.heap.objs.size f iw)) ->
   j' (hV (lI P w) P w K mg base N x (bW st) f iw A outer s H E) (fM st) (tS (hV (lI P w) P w K mg base N x (bW st) f iw A outer s H E) E body)):FnAt P w K mg base x (k+1) (gk ps.length N.length body):=
 ⟨f,fd,ps,Fs F S h,hm,F.kp,F.binds hb⟩
theorem xY{outer:List PySem.Env}:PassesOwn (model P w) (A.deeper (envOfC qual scope s₀.heap.objs.size f cd)) (envOfC qual scope s₀.heap.objs.size f cd) (hV (lI P w) P w K mg base N qual scope f cd A outer s₀ H₀ E).xe:=
 PassesOwn.leaving
theorem Ae{outer:List PySem.Env}:Raises (hV (lI P w) P w K mg base N qual scope f cd A outer s₀ H₀ E) E:=
 fun ai σ H s h' e cls vs I hx hE=>CZ I hx hE
theorem Glob.int{i:Int}{t:Tok}(h:mg x=some (.int i t)):Glob K mg x (.int i):=⟨_,.int i,h,⟨t,rfl⟩,fun _ _=>Rl.mkInt i⟩
theorem Glob.str{z:Str}{t:Tok}(h:mg x=some (.str z t)):Glob K mg x (.str z):=⟨_,.str z,h,⟨t,rfl⟩,fun _ _=>Rl.mkStr z⟩
theorem Glob.ints{o:Obj}{aM:Array _r}(h:mg x=some (.ref a))(l:K.lookup a=some o)(hc:o.cls=.type "tuple")(hd:o.data=.seq aM n)(hz:aM.size<=sizeLine)(hv:bN (ns.map V.int) aM.toList):Glob K mg x (.mt (ns.map .int)):=
 ⟨_,.ref a,h,rfl,fun ρ H=>Rl.Rc (.inr ⟨o,aM,n,l,hc,hd,hz,hv⟩) (bp.ints ns)⟩
def BL(K:_l):Sp:=fun vs H Q _=>∃(a:_t)(ns:_m),vs=[.ref a]/\Jd H/\lY K H a (ns.map V.int)/\ns.length<=63/\∀H',Q (.bl true) H'
theorem Ob{c:aG}(k:iA K [a] H c a):SR K [a] [c] H:=by
 refine⟨rfl,fun n m b h1 h2 _ _=>?_,fun n c' b h1 h2=>?_⟩
 .have p1:=gG h1;have p2:=gG h2;simp at p1 p2;lia
 .have p1:=gG h1;simp at p1;subst p1;cases h1;cases h2;exact k
theorem Oc{f:FN}(hf:∀(c:aG)(ns:_m),ns.length<=63->aq [c] 0=some (ns.map aw.int)->∃aF,f [.loc 0] [c]=.ok (.bl true) aF){vs:List V}{Q:VK}(h:BL K vs H Q E):NV ⟨K,mg,[]⟩ f vs H Q E:=by
 obtain⟨a,ns,rfl,hO,hS,hl,q⟩:=h;have fin:∀c:aG,iA K [a] H c a->aq [c] 0=some (ns.map aw.int)->NV ⟨K,mg,[]⟩ f [.ref a] H Q E:=by intro c k hi;obtain⟨aF,e⟩:=hf c ns hl hi;refine⟨[.loc 0],[a],[c],bp.one (Rl.Fg rfl),Ob k,?_⟩;rw[e];intro ρ' H' v _ _ r;rw[r.uj];exact q H'
 rcases hS with(h|⟨o,h⟩)|h
 .rcases hO a with z|⟨o,xs,z⟩<;>(rw[z]at h;cases h)
 .exact fin (.NG (ns.map .int)) ⟨o,_,h,bp.ints ns⟩ rfl
 .exact fin (.mod (ns.map .int)) ⟨_,h,bp.ints ns⟩ rfl
theorem F8{l:W.OpenLaw}{q:_v}{XP:(_j)->Heap->Prop}{d:DefRec}{K:Params->_l}(hn:l.most=some 63)(QQ:d.params.defaults=[])(hr:gL k callerA)(hY:∀(w:World)(h:Heap),YP w h->(K w.params).In h)
  (F:∀ (w:World) (mg:_j) (fa:_t) (h:Heap),(K w.params).In h->h.Ns mainGlobals mg->mg d.name=some (.ref fa) ->
   ∃fd:FuncData,(∀(s:_s)(u:_r),BindsTo s fd ⟨[u],[]⟩ [(x,u)])/\∀base:Heap,(K w.params).In base->base.Ns mainGlobals mg->kg l.prog w (K w.params) mg base (lI l.prog w) k fa fd [x] (BL (K w.params))):
  W.WalkO q loose XP YP l.row.toRowW d [] (fun f vs=>PySem.call f vs):=
 L2.Je (n:=63) (k:=k) (x:=x) (CX:=fun w=>lI l.prog w) (sp:=fun w=>BL (K w.params)) hn (by decide) QQ hr hY F (fun _ _ a ns hl hO hS=>⟨a,ns,rfl,hO,hS,hl,fun _=>rfl⟩) fun _ _ _ _ _⟨_,_,_,_,_,z⟩=>z
end
theorem lK:bootBuiltins "ValueError" = some (.type "ValueError"):=by decide +kernel
abbrev bmV:_n:=[.type "ValueError",.type "Exception",.type "BaseException",.type "object"]
def F9(K:_l)(mg:_j)(x:Str):Prop:=∃C,mg x=some (.ref C)/\W.excIn K C bmV "ValueError.__new__" = true/\W.subIn K (.ref C) (.type "BaseException")=some true
theorem Dd{K:_l}{D:_t}{t:_r}{cd:ClassData}{b:Bool}(h1:W.clsIn K D=some cd)(h2:W.typeIn K (.ref D)=some (.type "type"))(h3:W.subIn K t (.ref D)=some b):W.kitCls K t (.ref D)=some b:=by show(if((W.clsIn K D).isSome&&W.typeIn K (.ref D)==some (.type "type"))=true then W.subIn K t (.ref D)else none)=some b;rw[h1,h2,h3];rfl
inductive fU(K:_l)(mg:_j):List (Str×Str×Bool)->Prop
 |nil:fU K mg []
 |own {c x:Str} {b:Bool} {C D:_t} {r:List (Str×Str×Bool)} (h1:mg c=some (.ref C)) (h2:mg x=some (.ref D)) (h3:W.kitCls K (.ref C) (.ref D)=some b) (hr:fU K mg r):fU K mg ((c,x,b)::r)
 |blt {c x:Str} {n:String} {C:_t} {r:List (Str×Str×Bool)} (h1:mg c=some (.ref C)) (h2:mg x=none) (Tb:bootBuiltins x=some (.type n)) (h3:W.kitOne K (.ref C) (.type n)=some true) (hr:fU K mg r):fU K mg ((c,x,true)::r)
def gA(tab:List (Str×Str×Bool))(c x:Str):Option Bool:=match tab with
 |[]=>none
 |(c',x',b)::r=>if c'=c/\x'=x then some b else gA r c x
section
variable{K:_l}{mg:_j}
theorem fU.Rw{tab:List (Str×Str×Bool)}(S:fU K mg tab):N? K mg (gA tab):=by
 induction S with
 |nil=>intro c x b C D h;cases h
 | @own c' x' _ _ _ _ h1 h2 h3 _ ih=>
  intro c x b C D h e1 e2;rw[gA]at h;by_cases z:c'=c/\x'=x
  .rw[Vs z]at h;cases h;rw[z.1,e1]at h1;cases h1;rw[z.2,e2]at h2;cases h2;exact h3
  .rw[Vx z]at h;exact ih c x b C D h e1 e2
 | @blt c' x' _ _ _ h1 h2 _ _ _ ih=>
  intro c x b C D h e1 e2;rw[gA]at h;by_cases z:c'=c/\x'=x
  .rw[z.2,e2]at h2;cases h2
  .rw[Vx z]at h;exact ih c x b C D h e1 e2
theorem fU.UY{tab:List (Str×Str×Bool)}(S:fU K mg tab):∀(x:Str)(cv:_r),(∃D,cv=.ref D/\mg x=some (.ref D))\/(∃n,cv=.type n/\bootBuiltins x=some (.type n)/\mg x=none)->Ru K mg (gA tab) x cv:=by
 induction S with
 |nil=>intro x cv _ c C h;cases h
 | @own c' x' _ _ _ _ h1 h2 h3 _ ih=>
  intro x cv hx c C h e1;rw[gA]at h;by_cases z:c'=c/\x'=x
  .rw[Vs z]at h;cases h;rw[z.1,e1]at h1;cases h1;rw[z.2]at h2;rcases hx with⟨D,rfl,e2⟩|⟨n,rfl,_,e2⟩
   .rw[h2]at e2;cases e2;unfold W.kitOne;split
    .rfl
    .exact h3
   .rw[h2]at e2;cases e2
  .rw[Vx z]at h;exact ih x cv hx c C h e1
 | @blt c' x' _ _ _ h1 h2 Tb h3 _ ih=>
  intro x cv hx c C h e1;rw[gA]at h;by_cases z:c'=c/\x'=x
  .rw[Vs z]at h;cases h;rw[z.1,e1]at h1;cases h1;rw[z.2]at h2 Tb;rcases hx with⟨D,rfl,e2⟩|⟨n,rfl,e2,_⟩
   .rw[h2]at e2;cases e2
   .rw[Tb]at e2;cases e2;exact h3
  .rw[Vx z]at h;exact ih x cv hx c C h e1
def Iv(l:_q)(c:Str):Bool:=l.contains c
end
section
variable{n:Str}{ms:MA}{tab:List (Str×Str×Bool)}{s:MB}{r:MH}
theorem De(hX:Raises X E)(hc:X.calm=true)(h:F9 X.K X.mg x)(hg:Gl X x)(ha:PA X (e₀::es) (tL X E ms))(he:starEach (e₀::es) X.env=(false,eval e₀ X.env)::starEach es X.env:=by rfl)(kT:(backTo b8 (starEach es X.env)).any (·.1)=false:=by rfl)(hd:(x==("__debug__":Str))=false:=by decide):
  PS X (.Raise (some (.Call (.Name x np) (e₀::es) [] b8)) none pos) (tS X E (fT x ms)):=by
 obtain⟨C,hm,hq,_⟩:=h;exact Fq hX hc hm hq PySem.F.excBase_ValueError hg ha he kT hd
theorem xZ(hS:fU X.K X.mg tab)(h:F9 X.K X.mg x)(hg:Gl X x)(hs:∀ea oe,j' (L2.pW X ea oe) (b₀::gj) (tS (L2.pW X ea oe) E0 s))(hr:PH X rest (F3 X r))(hd:(x==("__debug__":Str))=false:=by decide):
  PH X (.ExceptHandler (some (.Name x np)) none (b₀::gj) pos::rest) (F3 X (kr (gA tab) x s r)):=by
 obtain⟨C,hm,_,hB⟩:=h;exact JV hS.Rw hg hm hB hs hr hd
theorem Od(hS:fU X.K X.mg tab)(hN:X.N.Nodup)(h:F9 X.K X.mg x)(hg:Gl X x)(hs:∀ea oe,j' (L2.pW X ea oe) (b₀::gj) (tS (L2.pW X ea oe) E0 s))(hr:PH X rest (F3 X r))(hi:X.N[i]?=some n:=by rfl)(hl:X.env.scope.names.lookup n=some .local:=by rfl)(hd:(x==("__debug__":Str))=false:=by decide):
  PH X (.ExceptHandler (some (.Name x np)) (some n) (b₀::gj) pos::rest) (F3 X (N! (gA tab) x i s r)):=by
 obtain⟨C,hm,_,hB⟩:=h;exact Rt hS.Rw hN hi hl hg hm hB hs hr hd
theorem JW(i:Nat){T:String}(hS:fU X.K X.mg tab)(hmx:X.mg x=none)(hb:bootBuiltins x=some (.type T))(hg:Gl X "isinstance")(hm:X.mg "isinstance" = none)(S':Gl X x)(hN:X.N[i]?=some n:=by rfl)(hv:Mh X.env.scope n:=by first|exact Or.inl rfl|exact Or.inr (Or.inl rfl))(hn:x ≠ "__name__":=by decide)(hd:(n==("__debug__":Str))=false:=by decide)(zN:(n==("__classdict__":Str))=false:=by decide)(Ta:(x==("__debug__":Str))=false:=by decide)(hs:starEach [.Name n q1,.Name x q2] X.env=(false,eval (.Name n q1) X.env)::starEach [.Name x q2] X.env:=by rfl)(fq:starEach [.Name x q2] X.env=(false,eval (.Name x q2) X.env)::starEach [] X.env:=by rfl)(kT:(backTo pos (starEach [.Name x q2] X.env)).any (·.1)=false:=by rfl):PE X (.Call (.Name "isinstance" p) [.Name n q1,.Name x q2] [] pos) (tE X E (rL (gA tab) i x)):=
 Oa (.blt hmx hb hn) (hS.UY x _ (.inr ⟨T,rfl,hb,hmx⟩)) hg hm S' hN hv hd zN Ta hs fq kT
end
section
variable[DecidableEq κ]
def v!(aX:List (κ×aw))(k:κ):Option aw:=(aX.find? fun kv=>decide (kv.1=k)).map (·.2)
def Df(aX:List (κ×aw))(k:κ)(v:aw):List (κ×aw):=
 if(aX.any fun kv=>decide (kv.1=k))=true then aX.map (fun kv=>if kv.1=k then(kv.1,v)else kv)else aX++[(k,v)]
variable{K:_l}
theorem iX.nil:iX K ρ H ([]:List (κ×aw)) []:=⟨rfl,bp.nil⟩
theorem iX.cons{k:κ}{u:aw}{v:V}{aX:List (κ×aw)}{jL:List (κ×V)}(r:Rl K ρ H u v)(p:iX K ρ H aX jL):iX K ρ H ((k,u)::aX) ((k,v)::jL):=
 ⟨by simp only[Vp,p.1],bp.cons r p.2⟩
theorem iX.cS{k:κ}{u:aw}{aX:List (κ×aw)}{l:List (κ×V)}(p:iX K ρ H ((k,u)::aX) l):∃v jL,l=(k,v)::jL/\Rl K ρ H u v/\iX K ρ H aX jL:=by
 obtain⟨h1,h2⟩:=p;cases l with
 |nil=>simp at h1
 |cons x l=>
  obtain⟨k',v⟩:=x;simp only[Vp,List.cons.injEq]at h1 h2;obtain⟨rfl,h1⟩:=h1;obtain⟨v',r,e,q1,q2⟩:=h2.cS;simp only[List.cons.injEq]at e;obtain⟨rfl,rfl⟩:=e;exact⟨v,l,rfl,q1,h1,q2⟩
theorem iX.fV{l:List (κ×V)}(p:iX K ρ H ([]:List (κ×aw)) l):l=[]:=by
 have:=p.1;cases l with
 |nil=>rfl
 |cons=>simp at this
theorem iX.mono{aX:List (κ×aw)}{l:List (κ×V)}(p:iX K ρ H aX l)(e:aK ρ H ρ' H'):iX K ρ' H' aX l:=⟨p.1,bp.mono e _ _ p.2⟩
theorem iX.length{aX:List (κ×aw)}{l:List (κ×V)}(p:iX K ρ H aX l):aX.length=l.length:=by have:=W! List.length p.1;simpa using this
theorem iX.val(k:κ):∀{aX:List (κ×aw)}{l:List (κ×V)},iX K ρ H aX l->(v! aX k=none/\jJ l k=none)\/∃u v,v! aX k=some u/\jJ l k=some v/\Rl K ρ H u v
 |[],l,p=>by rw[p.fV];exact .inl ⟨rfl,rfl⟩
 |(k',u)::aX,l,p=>by
  obtain⟨v,l',rfl,r,p'⟩:=p.cS;by_cases e:k'=k
  .exact .inr ⟨u,v,by simp[v!,e],by simp[jJ,e],r⟩
  .rcases iX.val k p' with⟨h1,h2⟩|⟨u',v',h1,h2,h3⟩
   .exact .inl ⟨by simpa[v!,e]using h1,by simpa[jJ,e]using h2⟩
   .exact .inr ⟨u',v',by simpa[v!,e]using h1,by simpa[jJ,e]using h2,h3⟩
theorem iX.any(k:κ):∀{aX:List (κ×aw)}{l:List (κ×V)},iX K ρ H aX l->(aX.any fun kv=>decide (kv.1=k))=l.any fun kv=>decide (kv.1=k)
 |[],l,p=>by rw[p.fV];rfl
 |(k',u)::aX,l,p=>by obtain⟨v,l',rfl,r,p'⟩:=p.cS;simp only[WX,iX.any k p']
theorem iX.zX(k:κ){u:aw}{v:V}(r:Rl K ρ H u v):∀{aX:List (κ×aw)}{l:List (κ×V)},iX K ρ H aX l->iX K ρ H (aX.map fun kv=>if kv.1=k then(kv.1,u)else kv) (l.map fun kv=>if kv.1=k then(kv.1,v)else kv)
 |[],l,p=>by rw[p.fV];exact iX.nil
 |(k',u')::aX,l,p=>by
  obtain⟨v',l',rfl,r',p'⟩:=p.cS;simp only[Vp];by_cases e:k'=k
  .rw[Vs e,Vs e];exact iX.cons r (iX.zX k r p')
  .rw[Vx e,Vx e];exact iX.cons r' (iX.zX k r p')
theorem iX.snoc{k:κ}{u:aw}{v:V}(r:Rl K ρ H u v):∀{aX:List (κ×aw)}{l:List (κ×V)},iX K ρ H aX l->iX K ρ H (aX++[(k,u)]) (l++[(k,v)])
 |[],l,p=>by rw[p.fV];exact iX.cons r iX.nil
 |(k',u')::aX,l,p=>by obtain⟨v',l',rfl,r',p'⟩:=p.cS;exact iX.cons r' (iX.snoc r p')
theorem iX.put(k:κ){u:aw}{v:V}(r:Rl K ρ H u v){aX:List (κ×aw)}{l:List (κ×V)}(p:iX K ρ H aX l):iX K ρ H (Df aX k u) (putK l k v):=by
 unfold Df putK;rw[p.any k];split
 .exact p.zX k r
 .exact p.snoc r
end
def rN:aw->Option eU
 |.int i=>some (.inl i)
 |.str x=>some (.inr x)
 |_=>none
def keysOf:List aw->Option (List eU)
 |[]=>some []
 |u::us=>match rN u,keysOf us with
  |some k,some ks=>some (k::ks)
  |_,_=>none
def oo:aw->Option (List eU)
 |.tup us=>keysOf us
 |_=>none
section
variable{K:_l}
theorem v?{u:aw}{v:V}{k:eU}(r:Rl K ρ H u v)(h:rN u=some k):v=kV k:=by
 cases u with
 |int i=>cases h;exact r.c7
 |str x=>cases h;exact r.fN
 |_=>cases h
theorem x_:∀{us:List aw}{vs:List V}{ks:List eU},bp K ρ H us vs->keysOf us=some ks->vs=ks.map kV
 |[],vs,ks,r,h=>by cases h;exact r.fV
 |u::us,vs,ks,r,h=>by
  obtain⟨v,r',rfl,h2,h3⟩:=r.cS;unfold keysOf at h;split at h
  .rename_i k ks' e1 e2;cases h;rw[v? h2 e1,x_ h3 e2];rfl
  .cases h
theorem x!{u:aw}{v:V}{ks:List eU}(r:Rl K ρ H u v)(h:oo u=some ks):∃b,v=.ref b/\H b=some (.tup (ks.map kV)):=by
 cases u with
 |tup us=>
  obtain⟨b,vs,rfl,hb,rb⟩:=r.Rb;rw[x_ rb h]at hb;exact⟨b,rfl,hb⟩
 |_=>cases h
end
def m5(st:ao)(d k:aw):Option (Option aw):=match d with
 |.loc n=>match st[n]? with
  |some (.dK aX)=>(rN k).map fun q=>v! aX q
  |some (.dT aX)=>(oo k).map fun q=>v! aX q
  |_=>none
 |_=>none
def l7(st:ao)(d k v:aw):Option ao:=match d with
 |.loc n=>match st[n]? with
  |some (.dK aX)=>if aX.length<sizeLine then(rN k).map fun q=>st.set n (.dK (Df aX q v))else none
  |some (.dT aX)=>if aX.length<sizeLine then(oo k).map fun q=>st.set n (.dT (Df aX q v))else none
  |_=>none
 |_=>none
theorem vc{K:_l}{st:ao}{d k:aw}{x y:V}{o:Option aw}(sr:SR K ρ st H)(rd:Rl K ρ H d x)(rk:Rl K ρ H k y)(h:m5 st d k=some o):
  ∃a o',x=.ref a/\pT H a y o'/\SM H a/\((o=none/\o'=none)\/∃u v,o=some u/\o'=some v/\Rl K ρ H u v):=by
 cases d with
 |loc n=>
  obtain⟨a,rfl,ha⟩:=rd.fD;unfold m5 at h;dsimp only at h;split at h
  .rename_i aX e;obtain⟨l,hl,p⟩:=sr.cell n _ a e ha;cases z:rN k with
   |none=>rw[z]at h;cases h
   |some q=>
    rw[z]at h;cases h;have:=v? rk z;subst this;exact⟨a,jJ l q,rfl,pT.k hl,.inl ⟨l,.inl hl⟩,p.val q⟩
  .rename_i aX e;obtain⟨l,hl,p⟩:=sr.cell n _ a e ha;cases z:oo k with
   |none=>rw[z]at h;cases h
   |some q=>
    rw[z]at h;cases h;obtain⟨b,rfl,hb⟩:=x! rk z;exact⟨a,jJ l q,rfl,pT.t hl hb,.inr ⟨l,.inl hl⟩,p.val q⟩
  .cases h
 |_=>cases h
theorem Af{K:_l}{st aF:ao}{d k v:aw}{x y z:V}(sr:SR K ρ st H)(rd:Rl K ρ H d x)(rk:Rl K ρ H k y)(rv:Rl K ρ H v z)(h:l7 st d k v=some aF):
  ∃a H',x=.ref a/\vV H a y z H'/\aK ρ H ρ H'/\SR K ρ aF H':=by
 cases d with
 |loc n=>
  obtain⟨a,rfl,ha⟩:=rd.fD;unfold l7 at h;dsimp only at h;split at h
  .rename_i aX e;obtain⟨l,hl,p⟩:=sr.cell n _ a e ha;split at h
   .rename_i hz;cases zk:rN k with
    |none=>rw[zk]at h;cases h
    |some q=>
     rw[zk]at h;cases h;have:=v? rk zk;subst this;have st1:aK ρ H ρ (upd H a (.dK (putK l q z))):=aK.put hl (fun _ z=>by cases z) (fun _ _ z=>by cases z);exact⟨a,_,rfl,vV.k hl (by rw[<-p.length];exact hz),st1,sr.set e rfl rfl ha hl (fun _ z=>by cases z) (fun _ _ z=>by cases z) ⟨_,c!,(p.put q rv).mono st1⟩⟩
   .cases h
  .rename_i aX e;obtain⟨l,hl,p⟩:=sr.cell n _ a e ha;split at h
   .rename_i hz;cases zk:oo k with
    |none=>rw[zk]at h;cases h
    |some q=>
     rw[zk]at h;cases h;obtain⟨b,rfl,hb⟩:=x! rk zk;have st1:aK ρ H ρ (upd H a (.dT (putK l q z))):=aK.put hl (fun _ z=>by cases z) (fun _ _ z=>by cases z);exact⟨a,_,rfl,vV.t hl hb (by rw[<-p.length];exact hz),st1,sr.set e rfl rfl ha hl (fun _ z=>by cases z) (fun _ _ z=>by cases z) ⟨_,c!,(p.put q rv).mono st1⟩⟩
   .cases h
  .cases h
 |_=>cases h
def ku:ME:=fun _ st=>.ok (.loc st.length) (st++[.dT []])
def i?:F2:=fun d k st=>match m5 st d k with
 |some (some v)=>.ok v st
 |_=>.bad
def aap(neg:Bool):F2:=fun k d st=>match m5 st d k with
 |some o=>.ok (.bl (if neg then !o.isSome else o.isSome)) st
 |none=>.bad
def wb(st:ao):aw->Bool
 |.loc n=>match st[n]? with
  |some (.dK _)=>true
  |some (.dT _)=>true
  |_=>false
 |_=>false
def jO(d k x:ME):ME:=fun μ st=>(d μ st).bind fun dv st1=>if wb st1 dv=true then(k μ st1).bind fun kv st2=>(x μ st2).bind fun xv jv=>match m5 jv dv kv with
 |some o=>.ok (o.getD xv) jv
 |none=>.bad else .bad
def l8(d k v:ME):MB:=fun μ st=>(v μ st).sb μ fun vv st1=>(d μ st1).sb μ fun dv st2=>(k μ st2).sb μ fun kv jv=>match l7 jv dv kv vv with
 |some lZ=>.nx μ lZ
 |none=>.bad
section
variable{i f:Expr}{md mk mv mx:ME}
theorem F_{K:_l}{st:ao}(sr:SR K ρ st H){p:_t}(hp:H p=none){ob:HO}{c:aG}(k:iA K (ρ++[p]) (upd H p ob) c p):
  aK ρ H (ρ++[p]) (upd H p ob)/\SR K (ρ++[p]) (st++[c]) (upd H p ob)/\Rl K (ρ++[p]) (upd H p ob) (.loc st.length) (.ref p):=by
 refine⟨aK.snoc p (dO hp),sr.alloc hp k,Rl.Fg ?_⟩;rw[<-sr.len,VS (Vv _),Wy];rfl
theorem F!:PE X (.Dict [] [] pos) (tE X E ku):=by refine PE.imp E2 ?_;rintro σ H Q ⟨μ,ρ,st,rs,sr,h⟩ p hp;obtain⟨k1,k2,k3⟩:=F_ (c:=.dT []) sr hp ⟨[],c!,iX.nil⟩;exact h _ _ _ k1 k2 k3
theorem JX(hu:X.A.units+64<cLine)(ho:PE X o (tE X E md))(hi:PE X i (tE X E mk))(hs:Nd i:=by exact fun _ _=>rfl):PE X (.Subscript o i pos) (tE X E (ah i? md mk)):=by
 refine PE.imp (Jh (by lia) ho hi hs) ?_;rintro σ H Q ⟨μ,ρ,st,rs,sr,h⟩;refine go μ ρ st rs sr h fun d st1 ρ1 H1 x e1 b? r1 h1=>?_;refine go μ ρ1 st1 (rs.mono e1) b? h1 fun k st2 ρ2 H2 y e2 iZ r2 h2=>?_;unfold i? at h2;split at h2
 .rename_i u hl;obtain⟨a,o',rfl,hd,_,hv⟩:=vc iZ (Rl.mono e2 _ _ r1) r2 hl;rcases hv with⟨z,_⟩|⟨u',v,z,rfl,rv⟩
  .cases z
  .cases z;exact⟨a,v,rfl,hd,h2 ρ2 H2 v (aK.refl _ _) iZ rv⟩
 .exact h2.elim
theorem JY{K:_l}{st:ao}{d:aw}{x:V}(sr:SR K ρ st H)(r:Rl K ρ H d x)(h:wb st d=true):∃a,x=.ref a/\SM H a:=by
 cases d with
 |loc n=>
  obtain⟨a,rfl,ha⟩:=r.fD;obtain⟨c,hc,kc⟩:=sr.there ha;simp only[wb,hc]at h;cases c with
  |dK aX=>obtain⟨l,hl,_⟩:=kc;exact⟨a,rfl,.inl ⟨l,.inl hl⟩⟩
  |dT aX=>obtain⟨l,hl,_⟩:=kc;exact⟨a,rfl,.inr ⟨l,.inl hl⟩⟩
  |_=>cases h
 |_=>cases h
theorem F?(hu:X.A.units+64<cLine)(ho:PE X o (tE X E md))(he:PE X e (tE X E mk))(hf:PE X f (tE X E mx))(m:M2 X o "get" apos e f b8:=by exact⟨rfl,rfl,rfl,rfl⟩):PE X (.Call (.Attribute o "get" apos) [e,f] [] b8) (tE X E (jO md mk mx)):=by
 refine PE.imp (E3 (by lia) ho he hf m) ?_;rintro σ H Q ⟨μ,ρ,st,rs,sr,h⟩;refine go μ ρ st rs sr h fun d st1 ρ1 H1 x e1 b? r1 h1=>?_;split at h1
 .rename_i hd;obtain⟨a,rfl,ia⟩:=JY b? r1 hd;refine⟨a,rfl,ia,?_⟩;refine go μ ρ1 st1 (rs.mono e1) b? h1 fun k st2 ρ2 H2 y e2 iZ r2 h2=>?_;refine go μ ρ2 st2 ((rs.mono e1).mono e2) iZ h2 fun xv jv ρ3 H3 z e3 pY r3 h3=>?_;split at h3
  .rename_i ov hl;obtain⟨a',o',ea,TJ,_,hv⟩:=vc pY (Rl.mono (e2.trans e3) _ _ r1) (Rl.mono e3 _ _ r2) hl;cases ea;refine⟨o',TJ,?_⟩;rcases hv with⟨rfl,rfl⟩|⟨u,v,rfl,rfl,rv⟩
   .exact h3 ρ3 H3 z (aK.refl _ _) pY r3
   .exact h3 ρ3 H3 v (aK.refl _ _) pY rv
  .exact h3.elim
 .exact h1.elim
theorem JZ(hu:X.A.units+64<cLine)(ho:PE X o (tE X E md))(hi:PE X i (tE X E mk))(hv:PE X value (tE X E mv))(hs:swapsWith value (some (.Subscript o i pos')) pos.line X.env=pure false:=by rfl):
  PS X (.Assign [.Subscript o i pos'] value pos) (tS X E (l8 md mk mv)):=by
 refine PS.imp (Ji (by lia) ho hi hv hs) ?_;rintro D σ H ⟨μ,ρ,st,rs,sr,h⟩;refine Ei μ ρ st rs sr h fun v st1 ρ1 H1 z e1 b? r1 h1=>?_;refine Ei μ ρ1 st1 (rs.mono e1) b? h1 fun d st2 ρ2 H2 x e2 iZ r2 h2=>?_;refine Ei μ ρ2 st2 ((rs.mono e1).mono e2) iZ h2 fun k jv ρ3 H3 y e3 pY r3 h3=>?_;split at h3
 .rename_i lZ Ik;obtain⟨a,H4,rfl,hd,s4,og⟩:=Af pY (Rl.mono e3 _ _ r2) r3 (Rl.mono (e2.trans e3) _ _ r1) Ik;exact⟨a,H4,rfl,hd,h3 ρ3 H4 σ s4 og ((((rs.mono e1).mono e2).mono e3).mono s4)⟩
 .exact h3.elim
end
section
variable{ms:MA}
theorem Oe{a b:Expr}{ma mb:ME}(ha:PE X a (tE X E ma))(hb:PE X b (tE X E mb))(hs:vN b:=by exact fun _ _=>rfl):PE X (.Subscript a b pos) (tE X E (ah bY ma mb)):=LM UW ha hb hs
end
def oq(us:List aw)(lo hi:Option Int):List aw:=(us.drop (HT.gz us.length 0 lo)).take (HT.gz us.length us.length hi-HT.gz us.length 0 lo)
theorem bp.cut{K:_l}{us:List aw}{vs:List V}(r:bp K ρ H us vs)(lo hi:Option Int):bp K ρ H (oq us lo hi) (vK vs lo hi):=by unfold oq vK;rw[r.length];exact bp.take _ (bp.drop _ r)
abbrev MO:=Env->ao->c_ (Option Int)
abbrev RO:_p->Hp->Option Int->Option Int->Prop:=fun _ _ a b=>b=a
abbrev PN(X:Cx)(E:XK)(m:MO):TO:=tG (wo X) E RO m
def a!:MO:=fun _ st=>.ok none st
def ba(m:ME):MO:=fun μ st=>(m μ st).bind fun v aF=>match v with
 |.int i=>.ok (some i) aF
 |_=>.bad
def Ek(lo hi:Option Int):aw->ao->c_ aw
 |.tup us,st=>if HT.gz us.length 0 lo=0/\HT.gz us.length us.length hi=us.length then .bad else .ok (.tup (oq us lo hi)) st
 |.loc n,st=>match aq st n with
  |some us=>.ok (.loc st.length) (st++[.lst (oq us lo hi)])
  |none=>.bad
 |_,_=>.bad
def zJ(a:ME)(lo hi:MO):ME:=fun μ st=>(a μ st).bind fun x st1=>(lo μ st1).bind fun l st2=>(hi μ st2).bind fun h jv=>Ek l h x jv
section
variable{m:ME}
theorem PO.imp{e:Option Expr}{t t':TO}(h:PO X e t)(k:∀σ H Q,t' σ H Q->t σ H Q):PO X e t':=fun ai s σ H Q I q=>h ai s σ H Q I (k σ H Q q)
theorem J0:PO X none (PN X E a!):=PO.imp IX fun σ H Q⟨μ,ρ,st,rs,sr,h⟩=>h ρ H none (aK.refl _ _) sr rfl
theorem J1(h:PE X e (tE X E m)):PO X (some e) (PN X E (ba m)):=by
 refine PO.imp (IY h) ?_;rintro σ H Q ⟨μ,ρ,st,rs,sr,h⟩;refine go μ ρ st rs sr h fun u st1 ρ1 H1 x e1 b? r1 h1=>?_;cases u with
 |int i=>exact⟨i,r1.c7,h1 ρ1 H1 (some i) (aK.refl _ _) b? rfl⟩
 |_=>exact h1.elim
theorem Rx{hi:Option Expr}{ml mh:MO}(he:PE X e (tE X E m))(hl:PO X lo (PN X E ml))(hh:PO X hi (PN X E mh)):PE X (.Subscript e (.Slice lo hi none p2) pos) (tE X E (zJ m ml mh)):=by
 refine PE.imp (xC (IZ.or I? M1) he hl hh) ?_;rintro σ H Q ⟨μ,ρ,st,rs,sr,h⟩;refine go μ ρ st rs sr h fun u st1 ρ1 H1 x e1 b? r1 h1=>?_;refine go (R1:=RO) μ ρ1 st1 (rs.mono e1) b? h1 fun l st2 ρ2 H2 l' e2 iZ r2 h2=>?_;cases r2;refine go (R1:=RO) μ ρ2 st2 ((rs.mono e1).mono e2) iZ h2 fun k jv ρ3 H3 k' e3 pY r3 h3=>?_;cases r3;have ru:=Rl.mono e3 _ _ (Rl.mono e2 _ _ r1);cases u with
 |tup us=>
  obtain⟨a,vs,rfl,ha,ra⟩:=ru.h!;unfold Ek at h3;dsimp only at h3;split at h3
  .exact h3.elim
  .rename_i hz;refine .inr ⟨a,vs,rfl,ha,by rw[<-ra.length];exact hz,fun p hp=>?_⟩;have s:=dO (o:=.tup (vK vs l k)) hp;exact h3 ρ3 _ _ (aK.same s) (pY.grow s) (Rl.pK c! (bp.mono (aK.same s) _ _ (ra.cut l k)))
 |loc n=>
  obtain⟨a,rfl,ha⟩:=ru.fD;cases z:aq jv n with
  |none=>simp only[Ek,z]at h3;exact h3.elim
  |some us=>
   simp only[Ek,z]at h3;obtain⟨vs,hs,rv⟩:=bP pY z ha;refine .inl ⟨a,vs,rfl,hs,fun p hp=>?_⟩;obtain⟨k1,k2,k3⟩:=gH pY (rv.cut l k) hp;exact h3 _ _ _ k1 k2 k3
 |_=>exact h3.elim
end
def aaq:FM
 |.loc n,[],st=>match st[n]? with
  |some (.lst us)=>match us[us.length-1]? with
   |some u=>.ok u (st.set n (.lst us.dropLast))
   |none=>.bad
  |_=>.bad
 |_,_,_=>.bad
section
variable{mo:ME}{f:FM}
end
def wc(o i v:aw)(st:ao):Option ao:=match o,i with
 |.loc n,.int k=>match st[n]? with
  |some (.lst us)=>(L2.Bn us.length k).map fun j=>st.set n (.lst (us.set j v))
  |_=>none
 |_,_=>none
def Tc(μ:Env):Option ao->cD
 |some st=>.nx μ st
 |none=>.bad
def lM(o i v:ME):MB:=fun μ st=>(v μ st).sb μ fun x st1=>(o μ st1).sb μ fun y st2=>(i μ st2).sb μ fun z jv=>Tc μ (wc y z x jv)
section
variable{i v:Expr}{mo mi mv:ME}{f:F2}
theorem Dh{st aF:ao}{u z w:aw}{x y q:V}{Q:Hp->Prop}(sr:SR X.K ρ st H)(ru:Rl X.K ρ H u x)(rz:Rl X.K ρ H z y)(qT:Rl X.K ρ H w q)(h:wc u z w st=some aF)(k:∀H',aK ρ H ρ H'->SR X.K ρ aF H'->Q H'):LA x y q H Q:=by
 unfold wc at h;split at h
 .rename_i n j;split at h
  .rename_i us hu;obtain⟨a,rfl,ha⟩:=ru.fD;obtain⟨vs,hH,rv⟩:=sr.cell n _ a hu ha;cases hj:L2.Bn us.length j with
   |none=>rw[hj]at h;cases h
   |some jj=>
    rw[hj]at h;cases h;refine⟨a,vs,j,jj,rfl,rz.c7,hH,by rw[<-rv.length];exact hj,?_⟩;obtain⟨k1,k2⟩:=BJ sr hu ha hH (bp.set qT jj rv);exact k _ k1 k2
  .cases h
 .cases h
theorem J2(ho:PE X o (tE X E mo))(hi:PE X i (tE X E mi))(hv:PE X v (tE X E mv))
  (ha:∀ u,assign (.Subscript o i um) X.env u=(do
   let ov <- holding [u] (eval o X.env)
   let iv <- holding [u,ov] (eval i X.env)
   standAt um
   holding [u,ov,iv] (setItem ov iv u)
   release [u,ov,iv] []):=by intro _;rfl)
  (hs:swapsWithSole [.Subscript o i um] v pos.line X.env=pure false:=by rfl) (hw:swappedStores [.Subscript o i um] v X.env=pure none:=by rfl) (h1:(assignEach [.Subscript o i um] X.env).map (·.2)=[assign (.Subscript o i um) X.env]:=by rfl):
  PS X (.Assign [.Subscript o i um] v pos) (tS X E (lM mo mi mv)):=by
 refine PS.imp (Mx hv (Mw ho hi set_list ha) hs hw h1) ?_;rintro D σ H ⟨μ,ρ,st,rs,sr,h⟩;refine Ei μ ρ st rs sr h fun u st1 ρ1 H1 x e1 b? r1 h1=>?_;refine Ei μ ρ1 st1 (rs.mono e1) b? h1 fun w st2 ρ2 H2 y e2 iZ r2 h2=>?_;refine Ei μ ρ2 st2 ((rs.mono e1).mono e2) iZ h2 fun z jv ρ3 H3 q e3 pY r3 h3=>?_;cases hz:wc w z u jv with
 |none=>rw[hz]at h3;exact h3.elim
 |some lZ=>
  rw[hz]at h3;exact Dh pY (Rl.mono e3 _ _ r2) r3 (Rl.mono e3 _ _ (Rl.mono e2 _ _ r1)) hz fun H' k1 k2=>h3 ρ3 H' σ k1 k2 ((((rs.mono e1).mono e2).mono e3).mono k1)
end
def m6:Nat->List aw->List aw
 |_,[]=>[]
 |i,u::us=>.tup [.int i,u]::m6 (i+1) us
theorem x?:∀(us:List aw)(k i:Nat)(z:aw),(m6 k us)[i]?=some z->∃u,us[i]?=some u/\z=.tup [.int ((k+i:Nat):Int),u]
 |[],_,_,_,h=>by cases h
 |u::us,k,0,z,h=>by cases h;exact⟨u,rfl,rfl⟩
 |u::us,k,i+1,z,h=>by obtain⟨w,h1,h2⟩:=x? us (k+1) i z h;exact⟨w,h1,by rw[h2,show k+1+i=k+(i+1) by lia]⟩
theorem ow:∀(us:List aw)(k:Nat),(m6 k us).length=us.length
 |[],_=>rfl
 |_::us,k=>by simp only[m6,Vo,ow us]
section
variable{mo:ME}{ms:MA}
theorem Di(ho:PE X o (tE X E mo))(ha:PA X (e::es) (tL X E ms))(xD:attributeBase o "append" X.env (eval o X.env)=eval o X.env:=by rfl)
  (EU:((backTo b8 (starEach (e::es) X.env)).all (fun x => !x.1)&&(backToKw b8 (keywordEach [] X.env)).all (fun x=>x.1.isSome)
   && decide ((e::es).length+([]:List Keyword).length+(if([]:List Keyword).isEmpty then 0 else 1)<30))=true:=by rfl)
  (xE:(apos.endLine==b8.line)=true:=by rfl) (hs:starEach (e::es) X.env=(false,eval e X.env)::starEach es X.env:=by rfl) (qU:(backTo b8 (starEach es X.env)).any (·.1)=false:=by rfl):
  PE X (.Call (.Attribute o "append" apos) (e::es) [] b8) (tE X E (jk cL mo ms)):=N9 PySem.F.slot_list_append PySem.F.type_list_append Ad ho ha xD EU xE hs qU
end
theorem len0{C:_n->Prop}(h:C [])(us:_n)(hl:us.length=0):C us:=by rw[WZ hl];exact h
theorem J3{C:_n->Prop}(h:∀a(r:_n),r.length=n->C (a::r))(us:_n)(hl:us.length=n+1):C us:=by
 cases us with
 |nil=>cases hl
 |cons a r=>exact h a r (Nat.succ.inj hl)
theorem Ry{C:_n->Prop}(h:∀a,C [a]):∀us:_n,us.length=1->C us:=J3 fun a=>len0 (C:=fun r=>C (a::r)) (h a)
theorem Rz{C:_n->Prop}(h:∀a b,C [a,b]):∀us:_n,us.length=2->C us:=J3 fun a=>Ry (C:=fun r=>C (a::r)) (h a)
theorem RA{C:_n->Prop}(h:∀a b c,C [a,b,c]):∀us:_n,us.length=3->C us:=J3 fun a=>Rz (C:=fun r=>C (a::r)) (h a)
theorem UZ{C:_n->Prop}(h:∀a b c d,C [a,b,c,d]):∀us:_n,us.length=4->C us:=J3 fun a=>RA (C:=fun r=>C (a::r)) (h a)
end MN
variable {us:List MN.aw}
variable {u v:MN.aw}
variable {K:_l}
variable {st s1:MN.ao}
variable {body:MN.MB}
variable {hi:MN.MO}
variable {mg:Str->Option Value}
variable {m ma md me:MN.ME}
variable {ms:MN.MA}
variable {as:MN.AS}
variable {x0 x1 y6 x2:Option MN.aw}
namespace L2
open PySem.Spec PyProof.Rows PySem.W Builtin Builtin.ObjectAttr Builtin.Getset_descriptor PySem.Calls
def wd(K:_l)(C:_t):Bool:=findIn K (.ref C) "__getattribute__" == some (some (.builtin "BaseException.__getattribute__"))&&(findIn K (.ref C) "__getattr__" == some none)&&(findIn K (.ref C) "__class__" == some (some (.builtin "object.__class__"))) &&
 (mroIn K C (.type "object")==some true)&&(mroIn K C (.type "BaseException")==some true)&&(specialIn K (.builtin "object.__class__") "__get__" == some (some (.builtin "getset_descriptor.__get__")))&&(takesIn K (.builtin "object.__class__")==some true)&&(kitCls K (.ref C) (.ref C)==some true)
structure F'(K:_l)(C:_t):Prop where
 ga:findIn K (.ref C) "__getattribute__" = some (some (.builtin "BaseException.__getattribute__"))
 gh:findIn K (.ref C) "__getattr__" = some none
 gc:findIn K (.ref C) "__class__" = some (some (.builtin "object.__class__"))
 mo:mroIn K C (.type "object")=some true
 mb:mroIn K C (.type "BaseException")=some true
 sg:specialIn K (.builtin "object.__class__") "__get__" = some (some (.builtin "getset_descriptor.__get__"))
 tk:takesIn K (.builtin "object.__class__")=some true
 kc:kitCls K (.ref C) (.ref C)=some true
theorem Dj(h:wd K C=true):F' K C:=by unfold wd at h;simp only[V4]at h;obtain⟨⟨⟨⟨⟨⟨⟨a,b⟩,c⟩,d⟩,e⟩,f⟩,g⟩,i⟩:=h;exact⟨WT.mp a,WT.mp b,WT.mp c,WT.mp d,WT.mp e,WT.mp f,WT.mp g,WT.mp i⟩
section
variable{E:_i}{x:_t}{ox:Obj}{R:Result->_s->Prop}
end
end L2
variable {mb mo:MN.ME}
namespace MN
open PySem.Spec L2
open PyProof.Rows hiding St
inductive we(K:_l)(mg:_j):_q->Prop
 |nil:we K mg []
 |cons {x:Str} {C:_t} {r:_q} (hm:mg x=some (.ref C)) (hq:wd K C=true) (hr:we K mg r):we K mg (x::r)
theorem we.at_{c:Str}:∀{qs:_q},we K mg qs->qs.contains c=true->∃C,mg c=some (.ref C)/\F' K C
 |_,.nil,h=>by simp at h
 |_,.cons (x:=x) hm hq hr,h=>by
  by_cases e:c=x
  .subst e;exact⟨_,hm,Dj hq⟩
  .exact hr.at_ (by simpa[e]using h)
section
variable{n:Str}{tab:List (Str×Str×Bool)}{qs xs:_q}{cx:Nat}
end
section
variable{c:_t}{o:Obj}
end
structure J4 where
 S:pX
 own:Str
 line:Nat
 col:Nat
section
variable{lp:Pos}{L:J4}{j:Nat}{f:aw->FN}{c cd T:_t}
end
end MN
namespace L2
open PySem.Spec PyProof.Rows
end L2
namespace MN
open PySem.Spec L2
open PyProof.Rows hiding St
end MN
namespace PM
open PySem.Spec L2 MN
open PyProof.Rows hiding St
def gr:aw:=.mt ([2,3,5,7,11,13,17,19,23,29,31].map aw.int)
def gO:FN:=gk 1 1 (aP (mW (uk "int" aD) (NM (uk "bool" aD))))
def cP:FN:=gk 1 1 (ay (cU (aT (ah (z? false) aD (mC PM.gr))) (aP (mC (.bl true))) aJ) (ay (cU (eY (aT (ah ltV aD fP)) (aT (ah BC aD xU))) (aP (mC (.bl false))) aJ) (aP (aj oj (ae (eh 1 [0] (d6 (mC PM.gr)) (aA 0) cT (ah gq (ah bf aO aD) bX)) ak)))))
def cj:FN:=gk 2 2 (aP (xR (aT (ah cG aD bX)) aO (ah bf aO aD)))
def aE:FN:=gk 2 6 (ay (aB 2 bX) (ay (cU (aT (ah ltV aO (aj bG (ae aD ak)))) (aB 2 (ah bY aD aO)) aJ) (ay (aB 3 (ah bf (ah aQ (ah aQ (ah aQ (ah dz bH (mC (.int 48271))) (ah dz (ah dz (mC (.int 7919)) aO) aO)) (ah dz (mC (.int 104729)) aO)) (mC (.int 11))) eZ)) (ay (aB 4 bX) (ay (dQ (cz (ae JA ak)) (aA 5) (ay (aB 3 (ah bf (ah aQ (ah dz (ah bf (ah dz ck ck) (mC (.int 2147483629))) (mC (.int 69621))) eR) eZ)) (aB 4 (ah aQ (ah dz fC eZ) ck)))) (aP fC))))))
def kY:FN:=gk 1 1 (aP (mW (aj PM.gO (ae aD ak)) (S7 (ah cG aD bX) (aj PM.cP (ae aD ak)))))
def dc:FN:=gk 1 1 (cU (dP (aT (aj PM.kY (ae aD ak)))) (fT "NoRing" (ae (qs "a ring is 0 or a prime from 2 to 997") ak)) aJ)
def gm:FN:=gk 1 1 (aP (mW (uk "int" aD) (NM (uk "bool" aD))))
def iy:FN:=gk 1 2 (ay (cU (aT (ah cG (ah bf aD fP) bX)) (aP (ah bY (bq (ae fP (ae lu (ae Jz (ae Ir (ae (mC (.int 11)) (ae (mC (.int 13)) ak))))))) (ah bf (ah bV aD fP) JA))) aJ) (ay (aB 1 (ah aQ fP (ah bf (ah bV aD fP) (mC (.int 996))))) (ay (om (aT (ah gq (eh 1 [1] (kX (ae fP (ae (mC (.int 32)) ak))) (aA 0) (i_ (aT (ah ltV aD aO)) (aT (ah cG (ah bf aO aD) bX))) aD) (bq ak))) (aB 1 (ah aQ aO bA))) (aP aO))))
def iE:FN:=gk 1 1 (ay (cU (aT (ah cG (ah bf aD lu) bX)) (aP bX) aJ) (aP (aj PM.iy (ae (ah bV aD lu) ak))))
end PM
namespace MN
open PySem.Spec L2
open PyProof.Rows hiding St
theorem et{g:ao->Prop}{a:AS}{body:MB}(P:Nat->Env->ao->Prop):∀(us:List aw)(k:Nat)(μ:Env)(st:ao),
  (∀(i:Nat)(u:aw)(μ:Env)(st:ao),us[i]?=some u->P (k+i) μ st->g st/\∃μ1,a u μ=some μ1/\∃μ' aF,(body μ1 st=.nx μ' aF\/body μ1 st=.ct μ' aF)/\P (k+i+1) μ' aF) ->
  (∀μ st,P (k+us.length) μ st->g st)->P k μ st->∃μ' aF,forL g a body us μ st=.nx μ' aF/\P (k+us.length) μ' aF
 |[],k,μ,st,_,he,h=>by refine⟨μ,st,?_,h⟩;unfold forL;rw[Vs (he μ st h)]
 |u::us,k,μ,st,hs,he,h=>by
  obtain⟨hg,μ1,ha,μ',aF,hb,hP⟩:=hs 0 u μ st rfl h;have ih:=et (a:=a) (body:=body) P us (k+1) μ' aF (fun i v μ2 st2 hv hp=>by
   have:=hs (i+1) v μ2 st2 hv (by rw[show k+(i+1)=k+1+i by lia];exact hp);rw[show k+(i+1)+1=k+1+i+1 by lia]at this;exact this) (fun μ2 st2 hp=>he μ2 st2 (by rw[Vo,show k+(us.length+1)=k+1+us.length by lia];exact hp)) hP
  obtain⟨μ2,st2,e2,p2⟩:=ih;refine⟨μ2,st2,?_,by rw[Vo,show k+(us.length+1)=k+1+us.length by lia];exact p2⟩;unfold forL;rw[Vs hg,ha];rcases hb with hb|hb<;>(dsimp only;rw[hb];exact e2)
theorem e7{g:ao->Prop}{a:AS}{c:MT}{e:ME}{st:ao}(hg:g st)(I:Env->Prop)(p:aw->Bool)(f:aw->aw):∀(us:List aw)(τ:Env)(ys:List aw),I τ ->
  (∀u∈us,∀τ,I τ->∃τ1,a u τ=some τ1/\I τ1/\c τ1 st=.ok (p u) st/\(p u=true->e τ1 st=.ok (f u) st))->dR g a c e us τ st ys=.ok (ys++(us.filter p).map f) st
 |[],τ,ys,_,_=>by unfold dR;rw[Vs hg];simp
 |u::us,τ,ys,hI,hs=>by
  obtain⟨τ1,h1,h2,h3,h4⟩:=hs u Vu τ hI;have Of:=fun v hv=>hs v (Vq u hv);unfold dR;rw[Vs hg,h1];dsimp only;rw[h3];cases z:p u with
  |true=>
   dsimp only;rw[h4 z];dsimp only;rw[e7 hg I p f us τ1 _ h2 Of,_e z];simp
  |false=>
   dsimp only;rw[e7 hg I p f us τ1 _ h2 Of,_g (by rw[z];simp)]
theorem aN(st:ao)(us:List aw):aq (st++[.lst us]) st.length=some us:=by unfold aq;rw[VS (Vv _),Wy];rfl
theorem aC(h:aq st n=some us)(more:ao):aq (st++more) n=some us:=by
 have hn:n<st.length:=by
  rcases WC n st.length with q|q
  .exact q
  .unfold aq at h;rw[V8 q]at h;cases h
 unfold aq at h⊢;rw[V' hn];exact h
theorem rO{t:MT}{body:MB}(P:Env->ao->Prop)(M:Env->ao->Nat)(Q:Env->ao->Prop)(hs:∀μ st,P μ st->(∃st1,t μ st=.ok false st1/\Q μ st1)\/∃st1 μ' aF,t μ st=.ok true st1/\(body μ st1=.nx μ' aF\/body μ st1=.ct μ' aF)/\P μ' aF/\M μ' aF<M μ st):
  ∀(n:Nat)(μ:Env)(st:ao),M μ st<n->P μ st->∃μ' aF,gB t body n μ st=some (.nx μ' aF)/\Q μ' aF
 |0,μ,st,h,_=>absurd h (_c _)
 |n+1,μ,st,h,hp=>by
  unfold gB;rcases hs μ st hp with⟨st1,e,q⟩|⟨st1,μ',aF,e,hb,p',lt⟩
  .rw[e];exact⟨μ,st1,rfl,q⟩
  .rw[e];dsimp only;obtain⟨μ2,st2,e2,q2⟩:=rO P M Q hs n μ' aF (by lia) p';rcases hb with hb|hb<;>(rw[hb];exact⟨μ2,st2,e2,q2⟩)
theorem Ag{t:MT}(P:Env->ao->Prop)(M:Env->ao->Nat)(Q:Env->ao->Prop)(hs:∀μ st,P μ st->(∃st1,t μ st=.ok false st1/\Q μ st1)\/∃st1 μ' aF,t μ st=.ok true st1/\(body μ st1=.nx μ' aF\/body μ st1=.ct μ' aF)/\P μ' aF/\M μ' aF<M μ st)(μ:Env)(st:ao)(hp:P μ st):∃μ' aF,om t body μ st=.nx μ' aF/\Q μ' aF:=by obtain⟨μ',aF,e,q⟩:=rO P M Q hs (M μ st+1) μ st (X6 _) hp;exact⟨μ',aF,Dc e,q⟩
def c_.ic(r:c_ α)(k:α->ao->c_ β):c_ β:=match r with
 |.ok a st=>k a st
 |.err c st=>.err c st
 |.bad=>.bad
def c_.zK(r:c_ α)(μ:Env)(k:α->ao->cD):cD:=match r with
 |.ok a st=>k a st
 |.err c st=>.er c μ st
 |.bad=>.bad
def cD.cR(r:cD)(k:MB):cD:=match r with
 |.nx μ st=>k μ st
 |.rt v st=>.rt v st
 |.bk μ st=>.bk μ st
 |.ct μ st=>.ct μ st
 |.er c μ st=>.er c μ st
 |.bad=>.bad
def cD.fin(r:cD):c_ aw:=match r with
 |.nx _ aF=>.ok .cO aF
 |.rt v aF=>.ok v aF
 |.er c _ aF=>.err c aF
 |_=>.bad
section
variable{μ:Env}
theorem au{a:α}{k:α->ao->c_ β}:(c_.ok a st).ic k=k a st:=rfl
theorem qv{c:Str}{k:α->ao->c_ β}:(c_.err c st:c_ α).ic k=.err c st:=rfl
theorem az{a:α}{k:α->ao->cD}:(c_.ok a st).zK μ k=k a st:=rfl
theorem qw{c:Str}{k:α->ao->cD}:(c_.err c st:c_ α).zK μ k=.er c μ st:=rfl
theorem ax{k:MB}:(cD.nx μ st).cR k=k μ st:=rfl
theorem fE{k:MB}:(cD.rt v st).cR k=.rt v st:=rfl
theorem rP{c:Str}{k:MB}:(cD.er c μ st).cR k=.er c μ st:=rfl
theorem Og:(cD.nx μ st).fin=.ok .cO st:=rfl
theorem bQ:(cD.rt v st).fin=.ok v st:=rfl
theorem rQ{c:Str}:(cD.er c μ st).fin=.err c st:=rfl
theorem kx{r:c_ α}{k:α->ao->c_ β}:r.bind k=r.ic k:=by cases r<;>rfl
variable{a b c:ME}{f g:F2}{t u:MT}{s1 s2:MB}
theorem cX{r:c_ α}{k k':α->ao->c_ β}(h:∀a st,k a st=k' a st):r.bind k=r.ic k':=by cases r<;>first|exact h _ _|rfl
theorem jP{r:c_ α}{k k':α->ao->cD}(h:∀a st,k a st=k' a st):r.sb μ k=r.zK μ k':=by cases r<;>first|exact h _ _|rfl
def yb(f:F2)(x:aw):aw->ao->c_ aw:=fun y st=>f x y st
def RC(f:F2)(b:ME)(μ:Env):aw->ao->c_ aw:=fun x st=>(b μ st).ic (yb f x)
theorem a8:ah f a b μ st=(a μ st).ic (RC f b μ):=cX fun _ _=>cX fun _ _=>rfl
theorem bR{x:aw}:RC f b μ x st=(b μ st).ic (yb f x):=rfl
theorem a7{x y:aw}:yb f x y st=f x y st:=rfl
theorem cY:mC v μ st=.ok v st:=rfl
def asB:aw->ao->c_ Bool
 |.bl b,st=>.ok b st
 |_,_=>.bad
theorem bj{b:Bool}:asB (.bl b) st=.ok b st:=rfl
theorem bh:aT a μ st=(a μ st).ic asB:=cX fun x _=>by cases x<;>rfl
def Oh(b:ME)(μ:Env):aw->ao->c_ aw
 |.bl true,st=>b μ st
 |.bl false,st=>.ok (.bl false) st
 |_,_=>.bad
theorem l9:mW a b μ st=(a μ st).ic (Oh b μ):=cX fun x _=>by
 cases x<;>try rfl
 rename_i k;cases k<;>rfl
theorem kZ:Oh b μ (.bl true) st=b μ st:=rfl
theorem J5:Oh b μ (.bl false) st=.ok (.bl false) st:=rfl
def U0(b:ME)(μ:Env):aw->ao->c_ aw
 |.bl true,st=>.ok (.bl true) st
 |.bl false,st=>b μ st
 |_,_=>.bad
theorem LR:S7 a b μ st=(a μ st).ic (U0 b μ):=cX fun x _=>by
 cases x<;>try rfl
 rename_i k;cases k<;>rfl
theorem Oi:U0 b μ (.bl true) st=.ok (.bl true) st:=rfl
theorem Oj:U0 b μ (.bl false) st=b μ st:=rfl
def yc(u:MT)(μ:Env):Bool->ao->c_ Bool
 |true,st=>u μ st
 |false,st=>.ok false st
theorem jQ:i_ t u μ st=(t μ st).ic (yc u μ):=cX fun x _=>by cases x<;>rfl
theorem m7:yc u μ true st=u μ st:=rfl
theorem m8:yc u μ false st=.ok false st:=rfl
def Dk(u:MT)(μ:Env):Bool->ao->c_ Bool
 |true,st=>.ok true st
 |false,st=>u μ st
theorem dC:eY t u μ st=(t μ st).ic (Dk u μ):=cX fun x _=>by cases x<;>rfl
theorem ij:Dk u μ true st=.ok true st:=rfl
theorem dS:Dk u μ false st=u μ st:=rfl
def LS:Bool->ao->c_ Bool:=fun k st=>.ok (!k) st
theorem k6:dP t μ st=(t μ st).ic LS:=cX fun _ _=>rfl
theorem wg{k:Bool}:LS k st=.ok (!k) st:=rfl
def Ol(a b:ME)(μ:Env):Bool->ao->c_ aw
 |true,st=>a μ st
 |false,st=>b μ st
theorem i':xR t a b μ st=(t μ st).ic (Ol a b μ):=cX fun x _=>by cases x<;>rfl
theorem jR:Ol a b μ true st=a μ st:=rfl
theorem jS:Ol a b μ false st=b μ st:=rfl
def J7(g:F2)(c:ME)(μ:Env)(y:aw):aw->ao->c_ aw
 |.bl true,st=>(c μ st).ic (yb g y)
 |.bl false,st=>.ok (.bl false) st
 |_,_=>.bad
def Om(f g:F2)(c:ME)(μ:Env)(x:aw):aw->ao->c_ aw:=fun y st=>(f x y st).ic (J7 g c μ y)
def kCh(f g:F2)(b c:ME)(μ:Env):aw->ao->c_ aw:=fun x st=>(b μ st).ic (Om f g c μ x)
theorem yd:v7 f g a b c μ st=(a μ st).ic (kCh f g b c μ):=cX fun _ _=>cX fun _ _=>cX fun z _=>by
 cases z<;>try rfl
 rename_i k;cases k
 .rfl
 .exact cX fun _ _=>rfl
theorem RD{x:aw}:kCh f g b c μ x st=(b μ st).ic (Om f g c μ x):=rfl
theorem LU{x y:aw}:Om f g c μ x y st=(f x y st).ic (J7 g c μ y):=rfl
theorem J8{y:aw}:J7 g c μ y (.bl true) st=(c μ st).ic (yb g y):=rfl
theorem J9{y:aw}:J7 g c μ y (.bl false) st=.ok (.bl false) st:=rfl
theorem bS:ak μ st=.ok [] st:=rfl
def Ah(x:aw):List aw->ao->c_ (List aw):=fun xs st=>.ok (x::xs) st
def LV(ms:MA)(μ:Env):aw->ao->c_ (List aw):=fun x st=>(ms μ st).ic (Ah x)
theorem aW:ae a ms μ st=(a μ st).ic (LV ms μ):=cX fun _ _=>cX fun _ _=>rfl
theorem bE{x:aw}:LV ms μ x st=(ms μ st).ic (Ah x):=rfl
theorem aZ{x:aw}{xs:List aw}:Ah x xs st=.ok (x::xs) st:=rfl
def RE:List aw->ao->c_ aw:=fun xs st=>if xs.length<=sizeLine then .ok (.tup xs) st else .bad
theorem rR:fO ms μ st=(ms μ st).ic RE:=cX fun _ _=>rfl
theorem BM{xs:List aw}:RE xs st=if xs.length<=sizeLine then .ok (.tup xs) st else .bad:=rfl
def RF:List aw->ao->c_ aw:=fun xs st=>if xs.length<=sizeLine then .ok (.loc st.length) (st++[.lst xs])else .bad
theorem oy:bq ms μ st=(ms μ st).ic RF:=cX fun _ _=>rfl
theorem vd{xs:List aw}:RF xs st=if xs.length<=sizeLine then .ok (.loc st.length) (st++[.lst xs])else .bad:=rfl
theorem bU{h:FN}:aj h ms μ st=(ms μ st).ic h:=cX fun _ _=>rfl
def RG:aw->ao->c_ aw
 |.int i,st=>.ok (.int (-i)) st
 |_,_=>.bad
theorem rS{i:Int}:RG (.int i) st=.ok (.int (-i)) st:=rfl
theorem Ai:l5 a μ st=(a μ st).ic RG:=cX fun x _=>by cases x<;>rfl
def Oo(T:String)(v:aw)(st:ao):c_ aw:=match Rq T st v with
 |some b=>.ok (.bl b) st
 |none=>.bad
theorem Ga{T:String}:uk T a μ st=(a μ st).ic (Oo T):=cX fun _ _=>rfl
theorem av:ay s1 s2 μ st=(s1 μ st).cR s2:=by unfold ay;cases s1 μ st<;>rfl
theorem c8:aJ μ st=.nx μ st:=rfl
def LW(μ:Env):aw->ao->cD:=fun _ st=>.nx μ st
theorem fA:cF a μ st=(a μ st).zK μ (LW μ):=jP fun _ _=>rfl
theorem Aj:LW μ v st=.nx μ st:=rfl
def RH:aw->ao->cD:=fun v st=>.rt v st
theorem aL:aP a μ st=(a μ st).zK μ RH:=jP fun _ _=>rfl
theorem cH:RH v st=.rt v st:=rfl
def U1(s1 s2:MB)(μ:Env):Bool->ao->cD
 |true,st=>s1 μ st
 |false,st=>s2 μ st
theorem bF:cU t s1 s2 μ st=(t μ st).zK μ (U1 s1 s2 μ):=jP fun x _=>by cases x<;>rfl
theorem dD:U1 s1 s2 μ true st=s1 μ st:=rfl
theorem cE:U1 s1 s2 μ false st=s2 μ st:=rfl
def RI(i:Nat)(μ:Env):aw->ao->cD:=fun v st=>.nx (μ.set i (some v)) st
theorem eB:aB i a μ st=(a μ st).zK μ (RI i μ):=jP fun _ _=>rfl
theorem hJ:RI i μ v st=.nx (μ.set i (some v)) st:=rfl
def Gb(x:Str)(μ:Env):List aw->ao->cD:=fun vs st=>if vs.length<=sizeLine then .er x μ st else .bad
theorem m9:fT x ms μ st=(ms μ st).zK μ (Gb x μ):=jP fun _ _=>rfl
theorem qy{vs:List aw}:Gb x μ vs st=if vs.length<=sizeLine then .er x μ st else .bad:=rfl
def kFor(as:AS)(s1:MB)(μ:Env):Itm->ao->cD:=fun p st=>forL p.2 as s1 p.1 μ st
theorem fF{it:MI}:dQ it as s1 μ st=(it μ st).zK μ (kFor as s1 μ):=jP fun _ _=>rfl
theorem gP{q:ao->Prop}:kFor as s1 μ (us,q) st=forL q as s1 us μ st:=rfl
def Gd:List aw->ao->c_ aw:=fun ys st=>.ok (.loc st.length) (st++[.lst ys])
theorem m_{ys:List aw}:Gd ys st=.ok (.loc st.length) (st++[.lst ys]):=rfl
def Ge(k:Nat)(caps:List Nat)(as:AS)(t:MT)(a:ME)(μ:Env):Itm->ao->c_ aw:=fun p st=>if p.1.length<=sizeLine then(dR p.2 as t a p.1 (j! k caps μ) st []).ic Gd else .bad
theorem ik{it:MI}:eh k caps it as t a μ st=(it μ st).ic (Ge k caps as t a μ):=cX fun p st1=>by
 unfold Ge;split
 .exact cX fun _ _=>rfl
 .rfl
theorem jT{q:ao->Prop}:Ge k caps as t a μ (us,q) st=if us.length<=sizeLine then(dR q as t a us (j! k caps μ) st []).ic Gd else .bad:=rfl
theorem aY{np:Nat}(h:us.length=np):gk np n s1 us st=(s1 (us.map some++List.replicate (n-np) none) st).fin:=by unfold gk;rw[Vs h];cases s1 (us.map some++List.replicate (n-np) none) st<;>rfl
theorem cN{x:Option aw}{μ:Env}:jw (i+1) (x::μ) st=jw i μ st:=rfl
theorem b_{μ:Env}:aD (some (.int j)::μ) st=.ok (.int j) st:=rfl
theorem BN{μ:Env}{j:Bool}:aD (some (.bl j)::μ) st=.ok (.bl j) st:=rfl
theorem e8{μ:Env}{j:Str}:aD (some (.str j)::μ) st=.ok (.str j) st:=rfl
theorem lN{μ:Env}{j:Nat}:aD (some (.loc j)::μ) st=.ok (.loc j) st:=rfl
def pL(v:aw)(st:ao):c_ Itm:=match rB st v with
 |some p=>.ok p st
 |none=>.bad
theorem fB:d6 a μ st=(a μ st).ic pL:=by unfold d6;rw[kx];rfl
theorem vf:pL (.tup us) st=.ok (us,fun _=>True) st:=rfl
theorem eG(h:aq st n=some us):pL (.loc n) st=.ok (us,fun aF=>aq aF n=some us) st:=by simp only[pL,rB,h];rfl
def J_(vs:List aw)(aF:ao):c_ Itm:=match vs with
 |[.int j]=>if -(2 ^ 62)<=j/\j<2 ^ 62 then .ok (bD 0 j.toNat,fun _=>True) aF else .bad
 |_=>.bad
def RJ(vs:List aw)(aF:ao):c_ Itm:=match vs with
 |[.int i,.int j]=>if -(2 ^ 62)<=i/\i<2 ^ 62/\-(2 ^ 62)<=j/\j<2 ^ 62 then .ok (bD i (j-i).toNat,fun _=>True) aF else .bad
 |_=>.bad
theorem qz:cz ms μ st=(ms μ st).ic J_:=by unfold cz;rw[kx];rfl
theorem J!:kX ms μ st=(ms μ st).ic RJ:=by unfold kX;rw[kx];rfl
theorem BO(h1:-(2 ^ 62)<=j)(h2:j<2 ^ 62):J_ [.int j] st=.ok (bD 0 j.toNat,fun _=>True) st:=by unfold J_;dsimp only;rw[Vs ⟨h1,h2⟩]
def Oq(b1 b2:Bool)(vs:List aw)(aF:ao):c_ Itm:=match vs with
 |[u,w]=>match iD aF u,iD aF w with
  |some (c1,us,g1),some (c2,ws,g2)=>if c1=b1/\c2=b2 then .ok (rD us ws,fun st2=>g1 st2/\g2 st2) aF else .bad
  |_,_=>.bad
 |_=>.bad
theorem Ot:rE b1 b2 ms μ st=(ms μ st).ic (Oq b1 b2):=by unfold rE;rw[kx];rfl
theorem wj(h1:aq st n=some us):l6 [.loc n] st=.ok (.tup us) st:=by unfold l6;dsimp only;rw[h1]
theorem rT{i:Int}:aQ (.int i) (.int j) st=.ok (.int (i+j)) st:=rfl
theorem Ak{i:Int}:uA (.int i) (.int j) st=.ok (.int (i-j)) st:=rfl
theorem rV{i:Int}(h:MulOk i j):dz (.int i) (.int j) st=.ok (.int (i*j)) st:=by unfold dz;dsimp only;rw[Vs h]
theorem ye{i:Int}(h1:-(2 ^ 64)<i)(h2:i<2 ^ 64):dz (.int i) (.int j) st=.ok (.int (i*j)) st:=rV (.inr (.inl ⟨h1,h2⟩))
theorem mul_r{i:Int}(h1:-(2 ^ 64)<j)(h2:j<2 ^ 64):dz (.int i) (.int j) st=.ok (.int (i*j)) st:=rV (.inr (.inr ⟨h1,h2⟩))
theorem div_ii{i:Int}(h:Dz j):bV (.int i) (.int j) st=.ok (.int (i.fdiv j)) st:=Vs h
theorem cZ{i:Int}(h:¬ j=0):bf (.int i) (.int j) st=.ok (.int (i.fmod j)) st:=Vx h
theorem Ou{i:Int}(h:EC i j):JE (.int i) (.int j) st=.ok (.int (i ^ j.toNat)) st:=Vs h
theorem jy{i:Int}:ltV (.int i) (.int j) st=.ok (.bl (decide (i<j))) st:=rfl
theorem LX{i:Int}:Rm (.int i) (.int j) st=.ok (.bl (decide (i<=j))) st:=rfl
theorem m?{i:Int}:BC (.int i) (.int j) st=.ok (.bl (decide (j<i))) st:=rfl
theorem fQ{i:Int}:cG (.int i) (.int j) st=.ok (.bl (i==j)) st:=rfl
theorem lO{i:Int}:gq (.int i) (.int j) st=.ok (.bl (!(i==j))) st:=rfl
theorem iF{i j:Str}:cG (.str i) (.str j) st=.ok (.bl (i==j)) st:=rfl
theorem vg{i j:Str}:gq (.str i) (.str j) st=.ok (.bl (!(i==j))) st:=rfl
theorem vO{i:Int}{v:aw}(h:L2.pF us i=some v):bY (.tup us) (.int i) st=.ok v st:=by unfold bY;dsimp only;rw[h]
theorem gX{i:Int}{v:aw}(h1:aq st n=some us)(h:L2.pF us i=some v):bY (.loc n) (.int i) st=.ok v st:=by unfold bY;dsimp only;rw[h1];dsimp only;rw[h]
theorem gu(h1:aq st n=some us):bG [.loc n] st=.ok (.int us.length) st:=by unfold bG;dsimp only;rw[h1]
theorem J?:bG [.tup us] st=.ok (.int us.length) st:=rfl
theorem BP{m:Nat}(h1:aq st n=some us)(h2:aq st m=some []):hG 16 st (.loc n) (.loc m)=some us.isEmpty:=by unfold hG;simp only[vw,h1,h2];show ib _ us []=_;cases us<;>rfl
theorem eq_nil{m:Nat}(h1:aq st n=some us)(h2:aq st m=some []):cG (.loc n) (.loc m) st=.ok (.bl us.isEmpty) st:=by unfold cG;rw[BP h1 h2]
theorem ne_nil{m:Nat}(h1:aq st n=some us)(h2:aq st m=some []):gq (.loc n) (.loc m) st=.ok (.bl (!us.isEmpty)) st:=by unfold gq;rw[BP h1 h2]
def c_.noe(r:c_ α):c_ α:=match r with
 |.ok v aF=>.ok v aF
 |.err _ _=>.bad
 |.bad=>.bad
theorem Ov{m:Env->ao->c_ α}:v_ m μ st=(m μ st).noe:=by unfold v_ c_.noe;cases m μ st<;>rfl
def cD.Ka(r:cD):cD:=match r with
 |.er _ _ _=>.bad
 |.nx μ' aF=>.nx μ' aF
 |.rt v aF=>.rt v aF
 |.bk μ' aF=>.bk μ' aF
 |.ct μ' aF=>.ct μ' aF
 |.bad=>.bad
theorem rW:m3 s1 μ st=(s1 μ st).Ka:=by unfold m3 cD.Ka;cases s1 μ st<;>rfl
def cD.Kb(r:cD)(kn:Str->Bool)(h:MH):cD:=match r with
 |.er c μ' aF=>if kn c=true then h c μ' aF else .bad
 |.nx μ' aF=>.nx μ' aF
 |.rt v aF=>.rt v aF
 |.bk μ' aF=>.bk μ' aF
 |.ct μ' aF=>.ct μ' aF
 |.bad=>.bad
theorem Al{kn:Str->Bool}{h:MH}:rK kn s1 h μ st=(s1 μ st).Kb kn h:=by unfold rK cD.Kb;cases s1 μ st<;>rfl
theorem wk{kn:Str->Bool}{h:MH}{c:Str}(hk:kn c=true):(cD.er c μ st).Kb kn h=h c μ st:=by show(if kn c=true then h c μ st else .bad)=_;rw[Vs hk]
theorem BQ{sub:Str->Str->Option Bool}{c:Str}{r:MH}(h:sub c x=some true):kr sub x s1 r c μ st=rH (s1 μ st):=by unfold kr;rw[h]
theorem Kc{sub:Str->Str->Option Bool}{c:Str}{r:MH}(h:sub c x=some false):kr sub x s1 r c μ st=r c μ st:=by unfold kr;rw[h]
theorem RK{sub:Str->Str->Option Bool}{c:Str}{r:MH}(h:sub c x=some true):N! sub x i s1 r c μ st=rH (s1 (μ.set i (some (.exc c))) st):=by unfold N!;rw[h]
theorem Gf{sub:Str->Str->Option Bool}{y:Option aw}{μ:Env}:rL sub (i+1) x (y::μ) st=rL sub i x μ st:=rfl
theorem RL{sub:Str->Str->Option Bool}{c:Str}{μ:Env}(h:sub c x=some true):rL sub 0 x (some (.exc c)::μ) st=.ok (.bl true) st:=by unfold rL;dsimp only[List.getElem?_cons_zero];rw[h]
end
end MN
namespace MN
open PySem.Spec L2
open PyProof.Rows hiding St kindOf
section
variable{μ:Env}{a b c o:ME}{f:F2}{g:FM}{w:aw}{m:Nat}{ws:List aw}
def Ow(x:aw)(l:Option Int):Option Int->ao->c_ aw:=fun h st=>Ek l h x st
def Ox(hi:MO)(μ:Env)(x:aw):Option Int->ao->c_ aw:=fun l st=>(hi μ st).ic (Ow x l)
def kSl(lo hi:MO)(μ:Env):aw->ao->c_ aw:=fun x st=>(lo μ st).ic (Ox hi μ x)
theorem RM{lo:MO}:zJ a lo hi μ st=(a μ st).ic (kSl lo hi μ):=cX fun x st1=>cX fun l st2=>cX fun h jv=>rfl
theorem U2{lo:MO}:kSl lo hi μ v st=(lo μ st).ic (Ox hi μ v):=rfl
theorem RN{l:Option Int}:Ox hi μ v l st=(hi μ st).ic (Ow v l):=rfl
theorem RP{l h:Option Int}:Ow v l h st=Ek l h v st:=rfl
theorem Gg:a! μ st=.ok none st:=rfl
theorem Oy{l h:Option Int}(e:aq st n=some us):Ek l h (.loc n) st=.ok (.loc st.length) (st++[.lst (oq us l h)]):=by simp only[Ek,e]
def Oz(g:FM)(x:aw):List aw->ao->c_ aw:=fun xs st=>g x xs st
def Kd(g:FM)(ms:MA)(μ:Env):aw->ao->c_ aw:=fun x st=>if xW st x=true then(ms μ st).ic (Oz g x)else .bad
theorem wm:jk g o ms μ st=(o μ st).ic (Kd g ms μ):=cX fun x st1=>by
 unfold Kd;split
 .exact cX fun _ _=>rfl
 .rfl
theorem BR(h:st[n]?=some (.lst us)):Kd g ms μ (.loc n) st=(ms μ st).ic (Oz g (.loc n)):=by unfold Kd;rw[Vs (by unfold xW;dsimp only;rw[h])]
theorem BS{xs:List aw}:Oz g v xs st=g v xs st:=rfl
theorem k7(h:st[n]?=some (.lst us))(hl:us.length<sizeLine):cL (.loc n) [v] st=.ok .cO (st.set n (.lst (us++[v]))):=by simp only[cL,h];rw[Vs hl]
def OA(μ:Env)(x y:aw):aw->ao->cD:=fun z st=>Tc μ (wc y z x st)
def OB(b:ME)(μ:Env)(x:aw):aw->ao->cD:=fun y st=>(b μ st).zK μ (OA μ x y)
def kSI(a b:ME)(μ:Env):aw->ao->cD:=fun x st=>(a μ st).zK μ (OB b μ x)
theorem nh:lM a b c μ st=(c μ st).zK μ (kSI a b μ):=jP fun _ _=>jP fun _ _=>jP fun _ _=>rfl
theorem Ke:kSI a b μ v st=(a μ st).zK μ (OB b μ v):=rfl
theorem BU:OB b μ v w st=(b μ st).zK μ (OA μ v w):=rfl
theorem Gh{x:aw}:OA μ v w x st=Tc μ (wc w x v st):=rfl
theorem BV{k:Int}{j:Nat}(h:st[n]?=some (.lst us))(hj:L2.Bn us.length k=some j):wc (.loc n) (.int k) v st=some (st.set n (.lst (us.set j v))):=by simp only[wc,h,hj];rfl
theorem rX:Tc μ (some st)=.nx μ st:=rfl
theorem OC(e1:aq st n=some us)(e2:aq st m=some ws):Oq true true [.loc n,.loc m] st=.ok (rD us ws,fun st2=>aq st2 n=some us/\aq st2 m=some ws) st:=by unfold Oq;dsimp only;unfold iD;dsimp only;rw[e1,e2];rfl
theorem l_(h1:st[n]?=some (.lst us))(h2:st[m]?=some (.lst ws))(hl:us.length+ws.length<=sizeLine):aQ (.loc n) (.loc m) st=.ok (.loc st.length) (st++[.lst (us++ws)]):=by simp only[aQ,h1,h2];rw[Vs hl]
theorem Gi{k:Int}(h1:st[n]?=some (.lst us))(h2:-(2 ^ 63)<=k)(h3:k<2 ^ 63)(h4:us.length*k.toNat<=sizeLine):dz (.loc n) (.int k) st=.ok (.loc st.length) (st++[.lst (u5 k.toNat us)]):=by simp only[dz,h1];rw[Vs ⟨h2,h3,h4⟩]
theorem dU(h:st[n]?=some (.lst us)):aq st n=some us:=by unfold aq;rw[h]
theorem d8(st:ao)(us:List aw):(st++[aG.lst us])[st.length]?=some (.lst us):=by rw[VS (Vv _),Wy];rfl
theorem rY{k:aG}(h:st[n]?=some k)(g:ao):(st++g)[n]?=some k:=by rw[V' (gG h)];exact h
theorem is_list(h:st[n]?=some (.lst us)):Oo "list" (.loc n) st=.ok (.bl true) st:=by unfold Oo Rq kindOf;dsimp only;rw[h];rfl
theorem yf(st:ao)(k k':aG):(st++[k]).set st.length k'=st++[k']:=by rw[WR _ _ (Vv _),Wy];rfl
theorem qA(st:ao)(k k':aG)(g:ao):(st++k::g).set st.length k'=st++k'::g:=by rw[WR _ _ (Vv _),Wy];rfl
theorem oz(st:ao)(k:aG)(g:ao):(st++k::g)[st.length]?=some k:=by rw[VS (Vv _),Wy];rfl
end
mutual
def fW:Nat->aw->Bool
 |_,.cO=>true
 |_,.bl _=>true
 |_,.int _=>true
 |_,.str _=>true
 |0,.tup _=>false
 |n+1,.tup us=>dE n us
 |_,_=>false
def dE:Nat->List aw->Bool
 |_,[]=>true
 |n,u::us=>fW n u&&dE n us
end
mutual
theorem Gj(st:ao):∀(n:Nat)(v:aw),fW n v=true->hG (n+1) st v v=some true
 |_,.cO,_=>rfl
 |_,.bl b,_=>by show some (b==b)=_;rw[Wn]
 |_,.int i,_=>by show some (i==i)=_;rw[Wn]
 |_,.str x,_=>by show some (x==x)=_;rw[Wn]
 |0,.tup _,h=>by cases h
 |n+1,.tup us,h=>by show ib (hG (n+1) st) us us=some true;exact oA st n us h
 |n,.loc _,h=>by cases n<;>cases h
 |n,.exc _,h=>by cases n<;>cases h
 |n,.fn _ _,h=>by cases n<;>cases h
 |n,.mt _,h=>by cases n<;>cases h
theorem oA(st:ao):∀(n:Nat)(us:List aw),dE n us=true->ib (hG (n+1) st) us us=some true
 |_,[],_=>rfl
 |n,u::us,h=>by
  have h':fW n u=true/\dE n us=true:=by simpa[dE]using h
  show(match hG (n+1) st u u,ib (hG (n+1) st) us us with|some a,some b=>some (a&&b)|_,_=>none)=_;rw[Gj st n u h'.1,oA st n us h'.2];rfl
end
theorem oD{n:Nat}:∀{us:List aw},(∀u∈us,fW n u=true)->dE n us=true
 |[],_=>rfl
 |u::us,h=>by unfold dE;rw[h u Vu,oD fun w hw=>h w (Vq u hw)];rfl
theorem yg(n:Nat)(ns:_m):dE n (ns.map aw.int)=true:=oD fun u hu=>by obtain⟨i,_,rfl⟩:=V0.mp hu;cases n<;>rfl
section
variable{m:Nat}
theorem Dl(h1:aq st n=some us)(h2:aq st m=some us)(hp:dE 14 us=true):hG 16 st (.loc n) (.loc m)=some true:=by unfold hG;simp only[vw,h1,h2];exact oA st 14 us hp
theorem Gk(h1:aq st n=some us)(h2:aq st m=some us)(hp:dE 14 us=true):cG (.loc n) (.loc m) st=.ok (.bl true) st:=by unfold cG;rw[Dl h1 h2 hp]
end
end MN
namespace SO
open PySem.W PyProof.Rows
abbrev g(p:Array Nat)(i:Nat):Nat:=p.getD i 0
theorem wq(p:Array Nat)(i:Nat):g p i=(p[i]?).getD 0:=Array.getD_eq_getD_getElem?
def Ok(L:Nat->Nat->Bool)(n:Nat){α:Type}(P:α->Prop):KasT α->Prop
 |.ret a=>P a
 |.ask i j k=>i<n/\j<n/\Ok L n P (k (L i j))
theorem Ok.bind{L:Nat->Nat->Bool}{P:α->Prop}{Q:β->Prop}{f:α->KasT β}(hf:∀a,P a->Ok L n Q (f a)):∀{t:KasT α},Ok L n P t->Ok L n Q (t.bind f)
 |.ret a,h=>hf a h
 |.ask _ _ _,h=>⟨h.1,h.2.1,Ok.bind hf h.2.2⟩
theorem Ok.imp{L:Nat->Nat->Bool}{P Q:α->Prop}(hf:∀a,P a->Q a):∀{t:KasT α},Ok L n P t->Ok L n Q t
 |.ret a,h=>hf a h
 |.ask _ _ _,h=>⟨h.1,h.2.1,Ok.imp hf h.2.2⟩
theorem Ok.wp{L:Nat->Nat->Bool}{P:α->Prop}{cmp:Nat->Nat->(Bool->_s->Prop)->_s->Prop}{R:_s->Prop}{Q:α->_s->Prop}(ha:∀i j s(C:Bool->_s->Prop),i<n->j<n->R s->(∀s',R s'->C (L i j) s')->cmp i j C s)(hq:∀a s,P a->R s->Q a s):∀{t:KasT α}{s:_s},Ok L n P t->R s->t.kasWp cmp Q s
 |.ret a,s,h,r=>hq a s h r
 |.ask i j k,s,h,r=>ha i j s _ h.1 h.2.1 r fun s' r'=>Ok.wp ha hq h.2.2 r'
structure Ord(L:Nat->Nat->Bool)(n:Nat):Prop where
 tr:∀i j k,i<n->j<n->k<n->L i j=true->L j k=true->L i k=true
 Gm:∀i j,i<n->j<n->i≠j->L i j=false->L j i=true
 U3:∀i j,i<n->j<n->L i j=true->L j i=false
def Pm(n:Nat)(p:Array Nat):Prop:=p.Perm (List.toArray (List.range n))
section
variable{p:Array Nat}
theorem Pm.list(h:Pm n p):p.toList.Perm (List.range n):=Array.perm_iff_toList_perm.mp h
theorem Pm.size(h:Pm n p):p.size=n:=by have:=h.list.length_eq;rw[V9]at this;exact this
theorem Pm.get(h:Pm n p)(hi:i<n):p[i]?=some (g p i):=by
 have hz:i<p.size:=by rw[h.size];exact hi
 rw[wq,Z4 p i hz];rfl
theorem Pm.lt(h:Pm n p)(hi:i<n):g p i<n:=by
 have hz:i<p.size:=by rw[h.size];exact hi
 have e:g p i=p.toList[i]'hz:=by rw[wq,Z4 p i hz];rfl
 have m:g p i∈p.toList:=by rw[e];exact Ws _
 exact XQ.mp (h.list.mem_iff.mp m)
theorem Pm.inj(h:Pm n p){j:Nat}(hi:i<n)(hj:j<n)(e:g p i=g p j):i=j:=by
 have hz:i<p.size:=by rw[h.size];exact hi
 have Td:j<p.size:=by rw[h.size];exact hj
 have nd:p.toList.Nodup:=h.list.nodup_iff.mpr List.nodup_range;have e1:g p i=p.toList[i]'hz:=by rw[wq,Z4 p i hz];rfl
 have e2:g p j=p.toList[j]'Td:=by rw[wq,Z4 p j Td];rfl
 rw[e1,e2]at e;exact(Zr nd).mp e
theorem Pm.start(n:Nat):Pm n (List.toArray (List.range n)):=Array.Perm.refl _
theorem Pm.rev(h:Pm n p)(i j:Nat):Pm n (kas_rev p i j):=(mirror_perm p i j _).trans h
theorem Pm.bub(h:Pm n p)(i j:Nat):Pm n (bubble p i j):=(bubble_perm p i j).trans h
theorem LY(h:Pm n p){m:Nat}(hm:m<=n)(hi:i<m):g (kas_rev p 0 m) i=g p (m-1-i):=by rw[wq,wq];unfold kas_rev;rw[getElem?_mirror_all (by rw[h.size];exact hm),Vs ⟨VU _,hi⟩,V_]
theorem LZ(h:Pm n p){l:Nat}(hk:k<n)(hl:l<=k):g (bubble p k (k-l)) i=if i=l then g p k else if l<i/\i<=k then g p (i-1)else g p i:=by
 have e:k-(k-l)=l:=by lia
 rw[wq,getElem?_bubble (by rw[h.size];exact hk) (k-l) (by lia),e];split
 .rw[wq]
 .split<;>rw[wq]
end
section
variable{L:Nat->Nat->Bool}(O:Ord L n)
include O
def uB(L:Nat->Nat->Bool)(p:Array Nat)(m:Nat):Prop:=∀i,i+1<m->L (g p i) (g p (i+1))=true
def OD(L:Nat->Nat->Bool)(p:Array Nat)(m:Nat):Prop:=∀i,i+1<m->L (g p (i+1)) (g p i)=true
theorem other{p:Array Nat}(h:Pm n p){j:Nat}(hi:i<n)(hj:j<n)(hn:i≠j)(e:L (g p i) (g p j)=false):L (g p j) (g p i)=true:=
 O.Gm _ _ (h.lt hi) (h.lt hj) (fun z=>hn (h.inj hi hj z)) e
theorem uB.far{p:Array Nat}(h:Pm n p){m:Nat}(hm:m<=n)(a:uB L p m):∀d:Nat,i+d+1<m->L (g p i) (g p (i+d+1))=true
 |0,hd=>a i hd
 |d+1,hd=>O.tr _ _ _ (h.lt (by lia)) (h.lt (by lia)) (h.lt (by lia)) (uB.far h hm a d (by lia)) (a (i+d+1) hd)
theorem uB.lt{p:Array Nat}(h:Pm n p){m:Nat}(hm:m<=n)(a:uB L p m){j:Nat}(hij:i<j)(hj:j<m):L (g p i) (g p j)=true:=by have:=uB.far O h hm a (i:=i) (j-i-1) (by lia);rwa [show i+(j-i-1)+1=j by lia]at this
theorem Am{p:Array Nat}(h:Pm n p):∀(f k:Nat),1<=k->k+f<=n->uB L p k->Ok L n (fun m=>k<=m/\m<=k+f/\uB L p m/\(m<k+f->L (g p m) (g p (m-1))=true)) (kas_asc p f k)
 |0,k,_,_,a=>⟨Vv _,Vv _,a,fun z=>absurd z (Wc _)⟩
 |f+1,k,h1,hk,a=>by
  refine⟨h.lt (by lia),h.lt (by lia),?_⟩;show Ok L n _ (if L (g p k) (g p (k-1))=true then .ret k else kas_asc p f (k+1));by_cases c:L (g p k) (g p (k-1))=true
  .rw[Vs c];exact⟨Vv _,by lia,a,fun _=>c⟩
  .rw[Vx c];have c':L (g p k) (g p (k-1))=false:=by simpa using c
   have z:=other O h (by lia) (by lia) (by lia) c';refine Ok.imp (fun m hm=>?_) (Am h f (k+1) (by lia) (by lia) (fun i hi=>?_))
   .exact⟨by lia,by lia,hm.2.2.1,fun q=>hm.2.2.2 (by lia)⟩
   .by_cases e:i+1<k
    .exact a i e
    .have:i=k-1:=by lia
     subst this;rw[show k-1+1=k by lia];exact z
theorem BW{p:Array Nat}(h:Pm n p):∀(f k:Nat),1<=k->k+f<=n->OD L p k->Ok L n (fun r=>r.1=p/\r.2.2=0/\k<=r.2.1/\r.2.1<=k+f/\OD L p r.2.1) (kas_desc f p k 0)
 |0,k,_,_,a=>⟨rfl,rfl,Vv _,Vv _,a⟩
 |f+1,k,h1,hk,a=>by
  refine⟨h.lt (by lia),h.lt (by lia),?_⟩;show Ok L n _ (if L (g p k) (g p (k-1))=true then(if 0>0 then kas_desc f (kas_rev p (k-(0+1)) k) (k+1) 0 else kas_desc f p (k+1) 0)else .ask (g p (k-1)) (g p k) fun d=>if d=true then .ret (p,k,0)else kas_desc f p (k+1) (0+1));by_cases c:L (g p k) (g p (k-1))=true
  .rw[Vs c,Vx (Wc _)];refine Ok.imp (fun r hr=>⟨hr.1,hr.2.1,by lia,by lia,hr.2.2.2.2⟩) (BW h f (k+1) (by lia) (by lia) (fun i hi=>?_));by_cases e:i+1<k
   .exact a i e
   .have:i=k-1:=by lia
    subst this;rw[show k-1+1=k by lia];exact c
  .rw[Vx c];have c':L (g p k) (g p (k-1))=false:=by simpa using c
   have z:=other O h (by lia) (by lia) (by lia) c';refine⟨h.lt (by lia),h.lt (by lia),?_⟩;show Ok L n _ (if L (g p (k-1)) (g p k)=true then .ret (p,k,0)else kas_desc f p (k+1) (0+1));rw[Vs z];exact⟨rfl,rfl,Vv _,YE _ _,a⟩
def Part(L:Nat->Nat->Bool)(n:Nat)(r:Nat×Array Nat):Prop:=1<=r.1/\r.1<=n/\Pm n r.2/\uB L r.2 r.1
theorem Kf{p:Array Nat}(h:Pm n p){m:Nat}(h1:1<=m)(hm:m<=n)(a:OD L p m):Ok L n (Part L n) (kas_tail3 m n p):=by
 have b:uB L (kas_rev p 0 m) m:=by intro i hi;rw[LY h hm (by lia),LY h hm hi];have:=a (m-1-(i+1)) (by lia);rwa [show m-1-(i+1)+1=m-1-i by lia]at this
 refine Ok.bind (fun k hk=>?_) (Am O (h.rev 0 m) (n-m) m h1 (by lia) b);exact⟨by lia,by lia,h.rev 0 m,hk.2.2.1⟩
theorem Gn{p:Array Nat}(h:Pm n p)(hn:1<=n):Ok L n (Part L n) (kas_count n p):=by
 refine Ok.bind (fun k hk=>?_) (Am O h (n-1) 1 (Vv _) (by lia) (fun i hi=>absurd hi (by lia)));obtain⟨k1,k2,ka,kl⟩:=hk;have RQ:Part L n (k,p):=⟨k1,by show k<=n;lia,h,ka⟩
 by_cases e:(k==n)=true
 .rw[Vs e];exact RQ
 .rw[Vx e];have e':k≠n:=fun z=>e (by simpa using z);by_cases e1:k>1
  .rw[Vs e1];refine⟨h.lt (by lia),h.lt (by lia),?_⟩;show Ok L n _ (if L (g p 0) (g p (k-1))=true then .ret (k,p)else _);rw[Vs (uB.lt O h (by lia) ka (by lia) (by lia))];exact RQ
  .rw[Vx e1];have:k=1:=by lia
   subst this;have z:=kl (by lia);refine Ok.bind (fun r hr=>?_) (BW O h (n-(1+1)) (1+1) (by lia) (by lia) (fun i hi=>?_))
   .obtain⟨r1,r2,r3⟩:=r;obtain⟨q1,q2,q3,q4,q5⟩:=hr;dsimp only at q1 q2 q3 q4 q5;subst q1 q2;show Ok L n _ (if 0>0 then _ else kas_tail3 r2 n r1);rw[Vx (Wc _)];exact Kf O h (by lia) (by lia) q5
   .have:i=0:=by lia
    subst this;exact z
theorem ky{p:Array Nat}(h:Pm n p){k:Nat}(hk:k<n)(a:uB L p k):∀(f l r:Nat),l<=r->r<=k->r-l<=f->(∀i,i<l->L (g p i) (g p k)=true)->(∀i,r<=i->i<k->L (g p k) (g p i)=true) ->
  Ok L n (fun m=>m<=k/\(∀i,i<m->L (g p i) (g p k)=true)/\∀i,m<=i->i<k->L (g p k) (g p i)=true) (kas_place p k f l r)
 |0,l,r,h1,h2,h3,lo,hi=>⟨by lia,lo,fun i q=>hi i (by lia)⟩
 |f+1,l,r,h1,h2,h3,lo,hi=>by
  show Ok L n _ (if l ≥ r then .ret l else .ask (g p k) (g p ((l+r) / 2)) fun c=>if c=true then kas_place p k f l ((l+r) / 2)else kas_place p k f ((l+r) / 2+1) r);by_cases e:l ≥ r
  .rw[Vs e];exact⟨by lia,lo,fun i q=>hi i (by lia)⟩
  .rw[Vx e];obtain⟨m,hm⟩:∃m,m=(l+r) / 2:=⟨_,rfl⟩
   rw[<-hm];have m1:l<=m:=by lia
   have m2:m<r:=by lia
   refine⟨h.lt hk,h.lt (by lia),?_⟩;show Ok L n _ (if L (g p k) (g p m)=true then kas_place p k f l m else kas_place p k f (m+1) r);by_cases c:L (g p k) (g p m)=true
   .rw[Vs c];refine ky h hk a f l m m1 (by lia) (by lia) lo fun i q1 q2=>?_;by_cases q:i=m
    .rw[q];exact c
    .exact O.tr _ _ _ (h.lt hk) (h.lt (by lia)) (h.lt (by lia)) c (uB.lt O h (by lia) a (by lia) q2)
   .rw[Vx c];have c':L (g p k) (g p m)=false:=by simpa using c
    have z:=other O h hk (by lia) (by lia) c';refine ky h hk a f (m+1) r (by lia) h2 (by lia) (fun i q=>?_) hi;by_cases q1:i=m
    .rw[q1];exact z
    .exact O.tr _ _ _ (h.lt (by lia)) (h.lt (by lia)) (h.lt hk) (uB.lt O h (by lia) a (show i<m by lia) (by lia)) z
theorem Gp:∀(f:Nat)(p:Array Nat)(k:Nat),Pm n p->k+f=n->uB L p k->Ok L n (fun q=>Pm n q/\uB L q n) (kas_bin f p k)
 |0,p,k,h,hk,a=>⟨h,by rw[<-hk];exact a⟩
 |f+1,p,k,h,hk,a=>by
  refine Ok.bind (fun l hl=>?_) (ky O h (k:=k) (by lia) a k 0 k (VU _) (Vv _) (by lia) (fun i q=>absurd q (_c _)) (fun i q1 q2=>absurd q1 (by lia)));obtain⟨l1,lo,hi⟩:=hl;refine Gp f _ (k+1) (h.bub _ _) (by lia) fun i Nm=>?_;rw[LZ h (by lia) l1,LZ h (by lia) l1];by_cases c1:i=l
  .rw[Vs c1,Vx (by lia),Vs (by lia)];exact hi _ (by lia) (by lia)
  .rw[Vx c1];by_cases c2:i+1=l
   .rw[Vs c2,Vx (by lia)];exact lo i (by lia)
   .rw[Vx c2];by_cases c3:l<i
    .rw[Vs ⟨c3,by lia⟩,Vs ⟨by lia,by lia⟩];have:=a (i-1) (by lia);rwa [show i-1+1=i+1-1 by lia]at this
    .rw[Vx (by lia),Vx (by lia)];exact a i (by lia)
theorem Kg(hn:1<=n):Ok L n (fun q=>Pm n q/\uB L q n) (kas_sort n):=by
 refine Ok.bind (fun r hr=>?_) (Gn O (Pm.start n) hn);obtain⟨k,p⟩:=r;obtain⟨h1,h2,h3,h4⟩:=hr;dsimp only at h1 h2 h3 h4;show Ok L n _ (if k<n then kas_bin (n-max k 1) p (max k 1)else .ret p);have e:max k 1=k:=by lia
 rw[e];by_cases c:k<n
 .rw[Vs c];exact Gp O (n-k) p k h3 (by lia) h4
 .rw[Vx c];have:k=n:=by lia
  subst this;exact⟨h3,h4⟩
end
def l!(h:Heap)(d:_t)(es:Array DictEntry)(ep:Nat):Prop:=∃o,h.get? d=some o/\o.cls=.type "dict" /\ o.data=.dict es ep
section
variable{E:_i}{d:_t}{es:Array DictEntry}
theorem l!.ty(x:l! s.heap d es ep):s.TypeIs (.ref d) "dict":=by obtain⟨o,ho,hc,_⟩:=x;exact⟨o,ho,hc⟩
theorem l!.lt(x:l! h d es ep):d<h.objs.size:=by obtain⟨o,ho,_⟩:=x;exact VL ho
theorem l!.to(x:l! h d es ep)(hk:∀o,h.get? d=some o->h'.get? d=some o):l! h' d es ep:=by obtain⟨o,ho,r⟩:=x;exact⟨o,hk o ho,r⟩
theorem Gq(hd:(d==sysModules)=false)(x:l! s.heap d es ep)(hQ:Q (.ref s.heap.objs.size) {s with heap:=s.heap.push {cls:=.type "dict_keyiterator",data:=.fields #[.ref d,.int 0 0,.int es.size 0,.int ep 0]} }):wpAny (model prog w) A (pyIter (.ref d)) Q E s:=by obtain⟨o,go,gc,gd⟩:=id x;have T:=x.ty;refine wpAny_pyIter_slot T Zk (WI Zk T PySem.F.entry_dict_iter ?_ (PySem.F.args_dict_iter_1 _));unfold Builtin.«dict.__iter__»;refine Vn ?_;unfold Builtin.Dict.dictSlotNone;refine Vn (wpAny_notOrdered_dict T ?_);show wpAny _ _ (pure (Value.ref d)) _ _ s;refine VB ?_;show wpAny _ _ (Builtin.Dict.showsAll d >>= _) _ _ s;unfold Builtin.Dict.showsAll;rw[Vx (by rw[hd];exact VC)];refine Vn (VB ?_);refine Vn (YX go gd ?_);refine Vn (Zh go gd ?_);refine Vn (Wt (VB ⟨_,rfl,"dict_keyiterator",_,⟨_,VR _ rfl,rfl⟩,WE.lookup,?_⟩));simpa[rawInt]using hQ
theorem Gr{Q:_o->_s->Prop}(hit:s.heap.IsKeyIter it d i es.size ep)(x:l! s.heap d es ep)(hi:i<es.size)(hQ:∀h',h'.IsKeyIter it d (i+1) es.size ep->Heap.SameBut it s.heap h'->Q (some es[i].key) {s with heap:=h'}):wpAny (model prog w) A (pyNext (.ref it)) Q E s:=by
 obtain⟨o,ho,hc,hf⟩:=id hit;obtain⟨od,go,gc,gd⟩:=id x;have T:=hit.typeIs;unfold pyNext;refine Vn (Yh (Wk (name:=Str.ofString "__next__") T WE (WI WE T Yq ?_ (Ym _))));refine Vn (VB ?_);refine Vn ?_;refine Vn ?_
 first|refine Vn (Xc T (VB ?_))|refine Vn (Xr T (VB ?_))
 refine Vn (wpAny_fieldsOf ho hf ?_);have no:Builtin.Dict_items.ownsTuple "dict_keyiterator" = false:=by decide
 simp only[no,W4,W8];show wpAny _ _ (if(Value.ref d==Value.none)=true then _ else _) _ _ s;rw[Vx (show ¬ ((Value.ref d==Value.none)=true)from VC)];refine Vn (VB ?_);refine Vn (YX go gd ?_);rw[Vx (by simp)];refine Vn (VB ?_);refine Vn (Zh go gd ?_);rw[Vx (by simp)];refine VB ?_;simp only[show ¬ ((i:Int)<0)from by lia,W8,WS,Z0 hi];refine Vn ?_
 first|refine Vn (Xc T (VB ?_))|refine Vn (Xr T (VB ?_))
 refine Vn (Z? T ?_);show wpAny _ _ (setField (.ref it) 1 (rawInt ((i:Int)+1)) >>= _) _ _ s;refine Vn (Xm ho hf (by simp) ?_);have go2:(s.heap.update it (Obj.mapFields (·.setIfInBounds 1 (rawInt ((i:Int)+1))))).IsKeyIter it d (i+1) es.size ep:=
  ⟨_,Xk _ ho (XM (W7 hf _)),(YY ..).trans hc,by rw[W7 hf];simp[rawInt]⟩
 refine Vn (WM ?_);refine Vn (Z? (s:={s with heap:=s.heap.update it (Obj.mapFields (·.setIfInBounds 1 (rawInt ((i:Int)+1))))}) go2.typeIs ?_);show wpAny _ _ (pure es[i].key) _ _ _;exact VB (VB ⟨_,rfl,VB (hQ _ go2 (Xa ..))⟩)
theorem Kh{Q:_o->_s->Prop}(hh:A.handled=none)(hit:s.heap.IsKeyIter it d i es.size ep)(x:l! s.heap d es ep)(hi:es.size<=i)(hQ:∀h',Heap.ExtBut it s.heap h'->Q none {s with heap:=h'}):wpAny (model prog w) A (pyNext (.ref it)) Q E s:=by
 obtain⟨o,ho,hc,hf⟩:=id hit;obtain⟨od,go,gc,gd⟩:=id x;have T:=hit.typeIs;unfold pyNext;refine Vn (Yh (Wk (name:=Str.ofString "__next__") T WE (WI WE T Yq ?_ (Ym _))));refine Vn (VB ?_);refine Vn ?_;refine Vn ?_
 first|refine Vn (Xc T (VB ?_))|refine Vn (Xr T (VB ?_))
 refine Vn (wpAny_fieldsOf ho hf ?_);have no:Builtin.Dict_items.ownsTuple "dict_keyiterator" = false:=by decide
 simp only[no,W4,W8];show wpAny _ _ (if(Value.ref d==Value.none)=true then _ else _) _ _ s;rw[Vx (show ¬ ((Value.ref d==Value.none)=true)from VC)];refine Vn (VB ?_);refine Vn (YX go gd ?_);rw[Vx (by simp)];refine Vn (VB ?_);refine Vn (Zh go gd ?_);rw[Vx (by simp)];refine VB ?_;simp only[show ¬ ((i:Int)<0)from by lia,W8,WS,Array.getElem?_eq_none hi];refine Vn ?_
 first|refine Vn (Xc T (VB ?_))|refine Vn (Xr T (VB ?_))
 show wpAny _ _ (setField (.ref it) 0 .none >>= _) _ _ s;refine Vn (Xm ho hf (by simp) ?_);show wpAny _ _ (newExc (.type "StopIteration") [] >>= _) _ _ _;refine Vn ?_;simp only[newExc,newTuple];refine Vn (Wt ?_ (by size_fits));refine Vn (m:=firstArgMember _ _) (Zd (a:=Value.none) (by first|rfl|(simp only[firstArgMember];rfl)) ?_);refine Wt ?_ (by size_fits);simp only[raiseNew];refine Vn (ZG ?_);rw[show A.in1.handled=none from hh];refine Vn (VB (Zc ?_));refine Vn (wpAny_isInstance (T:="StopIteration") (b:=true) ⟨_,VR _ rfl,rfl⟩ isSubtype_stop ?_);exact VB (hQ _ (((Xa ..).extBut.push _).push _))
def Gs(es:Array DictEntry)(i:Nat)(v:_r):Prop:=∃h:i<es.size,v=es[i].key
theorem Dm(hh:A.handled=none)(I:_t)(OE:d≠I):Walks prog w A I [I,d] [I] es.size (Gs es) (fun i h=>h.IsKeyIter I d i es.size ep/\l! h d es ep) where
 sub:=fun b hb=>by rw[VZ]at hb;rw[hb];exact Vu
 frame:=fun _ _ _ st hk=>⟨st.1.at fun o e=>hk I Vu o e,st.2.to fun o e=>hk d (Vq _ Vu) o e⟩
 item:=fun i s Q E hi st hQ=>Gr st.1 st.2 hi fun h' k1 k2=>
  hQ _ h' s.toks ⟨hi,rfl⟩ ⟨k1,st.2.to fun o e=>k2.extBut d o OE e⟩ fun b o hb e=>k2.extBut b o (fun z=>hb (by rw[z];exact _d _)) e
 done:=fun s Q E st hQ=>Kh hh st.1 st.2 (Vv _) fun h' k=>hQ h' s.toks fun b o hb e=>k b o (fun z=>hb (by rw[z];exact _d _)) e
 self:=fun _ _ _ _ st hQ=>wpAny_pyIter_keyiter st.1 hQ
theorem Ki(lo:(d==sysModules)=false):KdlSrc prog w "dict" d d es.size (Gs es) (fun h=>l! h d es ep) where
 type:=fun _ x=>x.ty
 there:=fun _ x=>⟨x.lt,x.lt⟩
 keep:=fun _ _ x hk=>x.to fun o e=>hk d (.inl rfl) o e
 notList:=by decide
 notTuple:=by decide
 hint:=fun _ _ _ _ x q=>kdl_hint_dict x.ty q
 iter:=fun _ _ hh x=>⟨_,_,(fun _ _ q=>Gq lo x q),Dm hh _ (V7 x.lt),⟨⟨_,VR _ rfl,rfl,rfl⟩,x.to fun o e=>Vr _ e⟩⟩
end
section
variable{E:_i}{d:_t}{es:Array DictEntry}
theorem Kj{acc:Array _r}(h:ItemsOf (Gs es) acc es.size):acc.toList=es.toList.map (·.key):=by
 apply List.ext_getElem
 .rw[V5,Vt,V5];exact h.1
 .intro i h1 h2;have hi:i<acc.size:=by rw[V5]at h1;exact h1
  obtain⟨hz,e⟩:=h.2 i acc[i] (Z0 hi);rw[Array.getElem_toList,Yy,Array.getElem_toList,e]
theorem yh{Q:_n->_s->Prop}(hh:A.handled=none)(lo:(d==sysModules)=false)(x:l! s.heap d es ep)(hn:es.size<=sizeLine)(h:∀h' tk,s.heap.objs.size<h'.objs.size->(∀b o,s.heap.get? b=some o->h'.get? b=some o)->Q (es.toList.map (·.key)) {s with heap:=h',toks:=tk}):wpAny (model prog w) A (collect (.ref d)) Q E s:=by
 unfold collect;refine Vn (wpAny_runValue (XY (R:=fun r s'=>r=.ok (.ret (.ref s.heap.objs.size))/\wpAny (model prog w) A (do
  let u <- load s.heap.objs.size
  match u.data with
  |.seq xs _=>pure xs.toList
  |_=>unsupported "internal:collect") Q E s') ?_ fun r s' q=>?_))
 .refine codeAny_builtin entry_proto_collect' ?_;show wpAny _ _ (do again (.builtin "list.__iadd__" ⟨[<-newList [],.ref d],[]⟩)) _ _ s;refine Vn (ZF (VB ⟨Code.quiet_builtin _ (by decide +kernel),codeAny_builtin entry_list_iadd' ?_⟩) (VU _));have ne:=Xj x.lt;refine kdl_extend (R:=fun r s'=>r=.ok (.ret (.ref s.heap.objs.size))/\wpAny (model prog w) A (do
   let u <- load s.heap.objs.size
   match u.data with
   |.seq xs _=>pure xs.toList
   |_=>unsupported "internal:collect") Q E s') (s:={s with heap:=s.heap.push (seqObj "list" #[] 0)}) (Ki (es:=es) (ep:=ep) lo) hh (x.to fun o e=>Vr _ e) s.heap.objs.size ne ne (.ref s.heap.objs.size) 0 (VR _ rfl) (fun h' tk acc c hk hS Nl=>⟨rfl,?_⟩) hn
  refine Vn (wpAny_load hS ?_);show wpAny _ _ (pure acc.toList) Q E _;rw[Kj Nl];exact VB (h h' tk (VL hS) fun b o e=>hk b o (V7 (VL e)) (Vr _ e))
 .obtain⟨rfl,q⟩:=q;exact q
end
def lexLt:_m->_m->Bool
 |_,[]=>false
 |[],_::_=>true
 |x::xs,y::ys=>if x=y then lexLt xs ys else decide (x<y)
theorem oE:∀xs:_m,lexLt xs xs=false
 |[]=>rfl
 |x::xs=>by show(if x=x then lexLt xs xs else _)=false;rw[Vs rfl];exact oE xs
theorem rZ:∀{xs ys zs:_m},lexLt xs ys=true->lexLt ys zs=true->lexLt xs zs=true:=by
 intro xs
 induction xs with
 |nil=>
  intro ys zs h1 h2;cases zs with
  |nil=>cases ys<;>cases h2
  |cons z zs=>rfl
 |cons x xs ih=>
  intro ys zs h1 h2;cases ys with
  |nil=>cases h1
  |cons y ys=>
   cases zs with
   |nil=>cases h2
   |cons z zs=>
    replace h1:(if x=y then lexLt xs ys else decide (x<y))=true:=h1;replace h2:(if y=z then lexLt ys zs else decide (y<z))=true:=h2;show(if x=z then lexLt xs zs else decide (x<z))=true;by_cases e1:x=y
    .rw[Vs e1]at h1;subst e1;by_cases e2:x=z
     .rw[Vs e2]at h2⊢;exact ih h1 h2
     .rw[Vx e2]at h2⊢;exact h2
    .rw[Vx e1]at h1;have h1':=Wj h1;by_cases e2:y=z
     .subst e2;rw[Vx e1];exact h1
     .rw[Vx e2]at h2;have Tb:=Wj h2;rw[Vx (by lia)];exact VA (by lia)
theorem k8:∀{xs ys:_m},xs≠ys->lexLt xs ys=false->lexLt ys xs=true:=by
 intro xs
 induction xs with
 |nil=>
  intro ys h1 h2;cases ys with
  |nil=>exact absurd rfl h1
  |cons y ys=>cases h2
 |cons x xs ih=>
  intro ys h1 h2;cases ys with
  |nil=>rfl
  |cons y ys=>
   replace h2:(if x=y then lexLt xs ys else decide (x<y))=false:=h2;show(if y=x then lexLt ys xs else decide (y<x))=true;by_cases e:x=y
   .subst e;rw[Vs rfl]at h2⊢;exact ih (fun z=>h1 (by rw[z])) h2
   .rw[Vx e]at h2;rw[Vx (fun z=>e z.symm)];have:=of_decide_eq_false h2;exact VA (by lia)
theorem jU{xs ys:_m}(h:lexLt xs ys=true):lexLt ys xs=false:=by
 cases z:lexLt ys xs with
 |false=>rfl
 |true=>
  have:=rZ h z;rw[oE]at this;cases this
section
variable{E:_i}
theorem OF{fin:Bool}{Q:Bool->_s->Prop}:∀{us vs:_n}{xs ys:_m}(i:Nat),IntsAre us xs->IntsAre vs ys->fin=decide (xs.length<ys.length)->Q (lexLt xs ys) s ->
  KatLex prog w A true fin Q (us.zip vs) i s:=by
 intro us vs xs ys i h1
 induction h1 generalizing vs ys i with
 |nil=>
  intro h2 hf h;refine kat_nil ?_;cases h2 with
  |nil=>rw[hf];exact h
  |cons n t r=>rw[hf];exact h
 |cons n t r ih=>
  intro h2 hf h;cases h2 with
  |nil=>
   refine kat_nil ?_;rw[hf];exact h
  | @cons m u JK ys' r2=>
   refine kat_cons (wpAny_eqBool_int ?_);rename_i Rp xs';replace h:Q (if n=m then lexLt xs' ys' else decide (n<m)) s:=h;by_cases e:n=m
   .subst e;rw[Wn];refine kat_yes (ih (i+1) r2 ?_ ?_)
    .rw[hf];simp only[Vo,Nat.add_lt_add_iff_right]
    .rw[Vs rfl]at h;exact h
   .rw[Xb.mpr e];rw[Vx e]at h;refine kat_no ?_;by_cases hi:i=0
    .subst hi;exact oneLt_int h
    .rw[show(true&&i==0)=false by rw[XD];exact Xb.mpr hi];exact kat_one _ _ (lt_int h)
def r_(h:Heap)(v:_r)(xs:_m):Prop:=xs≠[]/\∃a o aM n,v=.ref a/\h.get? a=some o/\o.cls=.type "tuple" /\ o.data=.seq aM n/\IntsAre aM.toList xs
theorem r_.to{v:_r}{xs:_m}(t:r_ h v xs)(hk:∀b o,h.get? b=some o->o.cls=.type "tuple" -> h'.get? b=some o):r_ h' v xs:=by obtain⟨ne,a,o,aM,n,e,ho,hc,r⟩:=t;exact⟨ne,a,o,aM,n,e,hk a o ho hc,hc,r⟩
theorem RT{Q:Bool->_s->Prop}{x y:_r}{xs ys:_m}(h1:r_ s.heap x xs)(h2:r_ s.heap y ys)(h:Q (lexLt xs ys) s):wpAny (model prog w) A (keyLt' (tuples' true) x y) Q E s:=by obtain⟨_,a,o,aM,n,rfl,ho,hc,hd,hi⟩:=h1;obtain⟨_,b,o2,fS,n2,rfl,ER,PF,hd2,U4⟩:=h2;refine kat_lt ho hd ER hd2 (OF 0 hi U4 ?_ h);rw[<-hi.length,<-U4.length,V5,V5]
inductive de(h:Heap):_n->List (_m)->Prop
 |nil:de h [] []
 |cons {v:_r} {x:_m} {vs:_n} {xs:List (_m)}:r_ h v x->de h vs xs->de h (v::vs) (x::xs)
theorem de.to{xs:List (_m)}(t:de h vs xs)(hk:∀b o,h.get? b=some o->o.cls=.type "tuple" -> h'.get? b=some o):de h' vs xs:=by
 induction t with
 |nil=>exact .nil
 |cons a _ ih=>exact .cons (a.to hk) ih
theorem de.length{xs:List (_m)}(t:de h vs xs):vs.length=xs.length:=by
 induction t with
 |nil=>rfl
 |cons _ _ ih=>rw[Vo,Vo,ih]
theorem de.at_{xs:List (_m)}(t:de h vs xs):∀i,i<vs.length->r_ h (vs.getD i .none) (xs.getD i []):=by
 induction t with
 |nil=>intro i hi;cases hi
 |cons a _ ih=>
  intro i hi;cases i with
  |zero=>exact a
  |succ i=>exact ih i (Nat.lt_of_succ_lt_succ hi)
theorem de.append{vs2:_n}{xs xs2:List (_m)}(t:de h vs xs)(t2:de h vs2 xs2):de h (vs++vs2) (xs++xs2):=by
 induction t with
 |nil=>exact t2
 |cons a _ ih=>exact .cons a ih
theorem de.rev{xs:List (_m)}(t:de h vs xs):de h vs.reverse xs.reverse:=by
 induction t with
 |nil=>exact .nil
 |cons a _ ih=>
  rw[XH,XH];exact ih.append (.cons a .nil)
theorem de.kat{xs:List (_m)}(t:de h vs xs):∃fs,KatTups h vs fs/\fs.length=vs.length/\∀v∈fs,∃n u,v=.int n u:=by
 induction t with
 |nil=>exact⟨[],.nil,rfl,fun v m=>by cases m⟩
 |cons a _ ih=>
  obtain⟨fs,k,l,al⟩:=ih;obtain⟨ne,a,o,aM,n,rfl,ho,hc,hd,hi⟩:=a;obtain⟨aM⟩:=aM;cases hi with
  |nil=>exact absurd rfl ne
  |cons m u r=>
   refine⟨_,KatTups.cons ho hc hd rfl k,by rw[Vo,Vo,l],fun v mv=>?_⟩;rcases VJ.mp mv with rfl|mv
   .exact⟨_,_,rfl⟩
   .exact al v mv
theorem Kk{xs:List (_m)}{Q:SortKind->_s->Prop}(t:de s.heap vs xs)(h0:0<vs.length)(h:Q (tuples' true) s):wpAny (model prog w) A (keyKind' vs.toArray) Q E s:=by obtain⟨fs,k,l,al⟩:=t.kat;refine kat_kind (T:=.type "int") k (by rw[l];exact h0) (fun v m=>?_) (by decide) h;obtain⟨n,u,rfl⟩:=al v m;exact Looks.of_pure rfl
end
def gQ(xs:List (_m)):Prop:=xs.Pairwise fun a b=>lexLt b a=true
section
variable{xs:List (_m)}
theorem BX{l:List α}(d:α)(h:i<l.length):l.getD i d=l[i]:=by rw[Xo,VD h];rfl
theorem BY{α β:Type}:∀{vs:List α}{xs:List β},vs.length=xs.length->vs.reverse.zip xs.reverse=(vs.zip xs).reverse
 |[],[],_=>rfl
 |v::vs,x::xs,h=>by have h':vs.length=xs.length:=Nat.succ.inj h;rw[XH,XH,List.zip_cons_cons,XH,List.zip_append (by rw[YU,YU,h']),BY h'];rfl
def Kl(xs:List (_m))(i j:Nat):Bool:=lexLt (xs.getD i []) (xs.getD j [])
theorem Gu(nd:xs.Nodup):Ord (Kl xs) xs.length where
 tr:=fun _ _ _ _ _ _ h1 h2=>rZ h1 h2
 Gm:=fun i j hi hj ne h=>k8 (fun e=>ne (by
  rw[BX _ hi,BX _ hj]at e;exact(Zr nd).mp e)) h
 U3:=fun _ _ _ _ h=>jU h
theorem Dn:∀{vs:_n}{xs:List (_m)},vs.length=xs.length->(List.range vs.length).map (fun i=>(vs.getD i Value.none,xs.getD i []))=vs.zip xs:=by
 intro vs xs hl;apply List.ext_getElem
 .rw[Vt,V9,XG,<-hl,Zm]
 .intro i h1 h2;rw[Vt,V9]at h1;rw[Yy,W',List.getElem_zip,BX _ h1,BX _ (hl▸h1)]
theorem OG{p:Array Nat}(hl:vs.length=xs.length)(h:Pm xs.length p)(a:uB (Kl xs) p xs.length)(nd:xs.Nodup):
  ∃zs:List (_r×List Int),zs.Perm (vs.zip xs)/\gQ (zs.map (·.2))/\(p.toList.map fun i=>vs.getD i Value.none).reverse=zs.map (·.1):=by
 refine⟨(p.toList.map fun i=>(vs.getD i Value.none,xs.getD i [])).reverse,?_,?_,?_⟩
 .refine(Y' _).trans ?_;rw[<-Dn hl];refine List.Perm.map _ ?_;rw[hl];exact h.list
 .unfold gQ;rw[List.map_reverse,List.pairwise_reverse,Wd];rw[ZY];intro i j hi hj hij;rw[Vt,V5,h.size]at hi hj;rw[Yy,Yy];have:=uB.lt (Gu nd) h (Vv _) a hij hj;have e1:g p i=p.toList[i]'(by rw[V5,h.size];exact hi):=by have:=h.get hi;rw[<-YA,VD (by rw[V5,h.size];exact hi)]at this;exact(V! this).symm
  have e2:g p j=p.toList[j]'(by rw[V5,h.size];exact hj):=by have:=h.get hj;rw[<-YA,VD (by rw[V5,h.size];exact hj)]at this;exact(V! this).symm
  rw[<-e1,<-e2];exact this
 .rw[List.map_reverse,Wd];rfl
end
section
variable{E:_i}{xs:List (_m)}
theorem Gv{P:PySem.Fin->_s->Prop}(ho:s.heap.get? a=some (seqObj "list" vs.toArray n))(t:de s.heap vs xs)(nd:xs.Nodup)(h64:vs.length<64)(h:∀zs:List (_r×List Int),zs.Perm (vs.zip xs)->gQ (zs.map (·.2))->P (.done (.ret .none)) {s with heap:=sortedHeap s.heap a vs (zs.map (·.1)).toArray}):
  wpAny (model prog w) A (Builtin.«list.sort» ⟨[.ref a],[(Str.ofString "reverse",.bool true)]⟩) P E s:=by
 rw[list_sort_rev];have ha:a<s.heap.objs.size:=VL ho;have small:vs.toArray.size<=sizeLine:=by rw[VM,VN];lia
 obtain⟨h1,e1⟩:∃h1,h1=s.heap.update a (Obj.mapSeq fun _=>(#[]:Array _r)):=⟨_,rfl⟩
 obtain⟨c1,ho1⟩:∃c,h1.get? a=some (seqObj "list" #[] c):=⟨_,by rw[e1];exact Z' ho fun _ => #[]⟩
 obtain⟨h6,e6⟩:∃h6,h6=(h1.push (seqObj "tuple" vs.toArray 0)).push (seqObj "list" #[] 0):=⟨_,rfl⟩
 have Te:h6.get? a=some (seqObj "list" #[] c1):=by rw[e6];exact Vr _ (Vr _ ho1)
 have t6:de h6 vs xs:=t.to fun b o hb hc=>by
  rw[e6,e1];refine Vr _ (Vr _ ?_);have ne:a≠b:=fun z=>by rw[<-z,ho]at hb;cases hb;exact absurd (Value.type.inj hc) (by decide)
  exact(Wx _ _ ne).trans hb
 refine Vn (listItems_at ho rfl (Vn (listUpdate_at ho rfl ?_ small (VU _))));rw[<-e1];refine Vn (seqEpoch_at ho1 rfl (Vn (wpAny_newTuple ?_ (by show vs.length<=_;rw[VN];lia))));refine Vn (ZF ?_ (VU _));refine WM ?_;show wpAny (model prog w) A _ P E {s with heap:=(h1.push (seqObj "tuple" vs.toArray 0)).push (seqObj "list" #[] 0)};rw[<-e6];have ends:∀zs:List (_r×List Int),zs.Perm (vs.zip xs)->gQ (zs.map (·.2))->P (.done (.ret .none)) {s with heap:=h6.update a (Obj.mapSeq fun _=>(zs.map (·.1)).toArray)}:=by intro zs z1 z2;have:=h zs z1 z2;unfold sortedHeap at this;rw[<-e1,<-e6]at this;exact this
 dsimp only;rw[Vs rfl];refine Vn (X3 ?_);by_cases h2:vs.toArray.size<2
 .rw[Vs h2,Vs h2];refine Vn (VB ?_);rw[StateT.run_pure];refine Vn (VB ?_);dsimp only;have hz:(vs.zip xs).length<2:=by rw[XG,<-t.length,Zm];rw[VM]at h2;exact h2
  have out:(((vs.toArray.zip vs.toArray).reverse.map (·.2)).reverse)=((vs.zip xs).map (·.1)).toArray:=by rw[Array.map_reverse,Array.reverse_reverse];apply Array.toList_inj.mp;rw[Array.toList_map,Array.toList_zip];show List.map _ (vs.zip vs)=List.map _ (vs.zip xs);rw[List.map_snd_zip (Vv _),List.map_fst_zip (Zn t.length)]
  refine Vn (seqEpoch_at Te rfl (Vn (listUpdate_at Te rfl ?_ (VU _) ?_)))
  .show wpAny _ _ _ _ _ {s with heap:=h6.update a (Obj.mapSeq fun _=>(((vs.toArray.zip vs.toArray).reverse.map (·.2)).reverse))};rw[out];simp only[bne_self_eq_false,W4,W8];refine VB (ends _ (List.Perm.refl _) ?_);unfold gQ
   match(vs.zip xs),hz with
   |[],_=>exact .nil
   |[_],_=>exact Yn _ _
  .show(((vs.toArray.zip vs.toArray).reverse.map (·.2)).reverse).size<=_;rw[out,VM,Vt,VN];lia
 .rw[Vx h2,Vx h2];have l2:2<=vs.length:=by rw[VM]at h2;lia
  obtain⟨rs,er⟩:∃rs,rs=vs.reverse:=⟨_,rfl⟩
  obtain⟨ks,ek⟩:∃ks,ks=xs.reverse:=⟨_,rfl⟩
  have U5:de h6 rs ks:=by rw[er,ek];exact t6.rev
  have lr:rs.length=vs.length:=by rw[er,YU]
  have lk:rs.length=ks.length:=U5.length;have ndk:ks.Nodup:=by rw[ek];exact(Y' xs).nodup_iff.mpr nd
  refine Vn (Kk t6 (by lia) ?_);have pr:(vs.toArray.zip vs.toArray).reverse=rs.toArray.zip rs.toArray:=by have:=kat_pairs true (ks:=vs) (vs:=vs) rfl;rw[Vs rfl]at this;rw[this,er];rfl
  rw[pr];refine Vn (Wg (kat_run (Q:=fun aF s'=>∃p:Array Nat,arrOf aF=p.map (kas_item (rs.toArray.zip rs.toArray))/\failedOf aF=none/\Pm ks.length p/\uB (Kl ks) p ks.length/\s' = {s with heap:=h6})
   (G:=fun p s'=>Pm ks.length p/\uB (Kl ks) p ks.length/\s' = {s with heap:=h6}) rfl (by lia) (by lia) (fun p aF s' _ a2 a3 a4=>⟨p,a2,a3,a4⟩) ?_) ?_ fun _ _ e=>e)
  .rw[lk];refine Ok.wp (R:=fun s'=>s' = {s with heap:=h6}) (fun i j s' C hi hj hs hC=>?_) (fun p s' hp hs=>⟨hp.1,hp.2,hs⟩) (Kg (Gu ndk) (by lia)) rfl;subst hs;exact RT (U5.at_ i (by lia)) (U5.at_ j (by lia)) (hC _ rfl)
  .rintro⟨⟨⟩,aF⟩ s' ⟨p,har,hf,hp,LN,rfl⟩;dsimp only;obtain⟨zs,z1,z2,z3⟩:=OG lk hp LN ndk;have out:((arrOf aF).map (·.2)).reverse=(zs.map (·.1)).toArray:=by rw[kat_snds rfl har];apply Array.toList_inj.mp;rw[Array.toList_reverse];exact z3
   have lz:zs.length<64:=by have:=z1.length_eq;rw[XG,<-lk,Zm]at this;lia
   have zp:zs.Perm (vs.zip xs):=by refine z1.trans ?_;rw[er,ek,BY t.length];exact Y' _
   refine Vn (seqEpoch_at Te rfl (Vn (listUpdate_at Te rfl ?_ (VU _) ?_)))
   .rw[Vs rfl,out,hf];simp only[bne_self_eq_false,W4,W8];exact VB (ends zs zp z2)
   .rw[Vs rfl,out,VM,Vt,VN];lia
theorem An{d:_t}{es:Array DictEntry}(hh:A.handled=none)(lo:(d==sysModules)=false)(x:l! s.heap d es ep)(t:de s.heap (es.toList.map (·.key)) xs)(nd:xs.Nodup)(h64:es.size<64)
  (h:∀ (h':Heap) (tk:Nat) (l:_t) (c:Nat) (zs:List (_r × List Int)),(∀ b o,s.heap.get? b=some o->h'.get? b=some o)->s.heap.objs.size<=l->zs.Perm ((es.toList.map (·.key)).zip xs)->gQ (zs.map (·.2)) ->
   h'.get? l=some (seqObj "list" (zs.map (·.1)).toArray c)->Q (.ref l) {s with heap:=h',toks:=tk}):
  wpAny (model prog w) A (call (.builtin "sorted") [.ref d] [(Str.ofString "reverse",.bool true)]) Q E s:=by
 refine call_function_entry_kw kind_sorted plain_sorted entry_sorted (args_sorted_rev _ _) ?_;unfold Builtin.«sorted»;refine Vn (m:=checkCount "sorted" 1 1 _) (VB ?_);have hn:es.size<=sizeLine:=by rw[VN];lia
 obtain⟨vs,ev⟩:∃vs,vs=es.toList.map (·.key):=⟨_,rfl⟩
 have lv:vs.length=es.size:=by rw[ev,Vt,V5]
 refine Vn (yh hh lo x hn fun h1 tk k0 k1=>?_);rw[<-ev]at t h⊢;refine Vn (ZF ?_ (by show vs.length<=_;lia));have gl:(h1.push (seqObj "list" vs.toArray 0)).get? h1.objs.size=some (seqObj "list" vs.toArray 0):=VR _ rfl;show wpAny _ _ _ _ _ {s with heap:=h1.push (seqObj "list" vs.toArray 0),toks:=tk};refine Vn (WM (wpAny_call_entry_kw slot_list_sort ⟨_,gl,rfl⟩ entry_list_sort (Gv gl (t.to fun b o e _=>Vr _ (k1 b o e)) nd (by lia) fun zs z1 z2=>⟨_,rfl,?_⟩) (args_list_sort_rev _ _)));obtain⟨c,gc⟩:∃c,(sortedHeap (h1.push (seqObj "list" vs.toArray 0)) h1.objs.size vs (zs.map (·.1)).toArray).get? h1.objs.size=some (seqObj "list" (zs.map (·.1)).toArray c):=
  ⟨_,by unfold sortedHeap;exact Z' (Vr _ (Vr _ (Z' gl fun _ => #[]))) fun _=>(zs.map (·.1)).toArray⟩
 refine VB ⟨_,rfl,h _ tk h1.objs.size c zs (fun b o e=>?_) ?_ z1 z2 gc⟩
 .have e1:=k1 b o e;have ne:h1.objs.size≠b:=Xj (VL e1);unfold sortedHeap;refine(Wx _ _ ne).trans (Vr _ (Vr _ ((Wx _ _ ne).trans (Vr _ e1))))
 .exact X_ k0
end
end SO
namespace L2
open PySem.Spec PyProof.Rows
def Gw(X:Cx)(f:_r)(ks:_q)(r:List V->List V->Hp->VK->Prop):Prop:=
 ∀(ai:_k)(s:_s)(σ:St)(H:Hp)(xs zs:List V)(us ws:_n)(Q:VK),aV X ai σ H s->bN xs us->bN zs ws->r xs zs H Q ->
  wpAny (model X.prog X.w) X.A (call f us (ks.zip ws)) (EP X ai σ Q) X.xe s
def tCK(r:List V->List V->Hp->VK->Prop)(t tk:TA):TE:=fun σ H Q=>t σ H fun vs H1=>tk σ H1 fun zs H2=>r vs zs H2 Q
section
variable{id:String}{ks:_q}{r:List V->List V->Hp->VK->Prop}{EN:List Keyword}{t tk:TA}
theorem Dp(hc:Gw X (.builtin id) ks r)(hg:Gl X x)(hm:X.mg x=none)(hv:bootBuiltins x=some (.builtin id))(ha:PA X (e::es) t)(hkw:PK X EN tk)(RU:(backToKw pos (keywordEach EN X.env)).filterMap (·.1)=ks:=by rfl)(hn:x ≠ "__name__":=by decide)(qP:(x==("__debug__":Str))=false:=by decide)(he:backTo pos (starEach (e::es) X.env)=(false,eval e X.env)::backTo pos (starEach es X.env):=by rfl)(kT:(backTo pos (starEach (e::es) X.env)).any (·.1)=false:=by rfl)(M!:(backToKw pos (keywordEach EN X.env)).all (·.1.isSome)=true:=by rfl)(Ue:(backToKw pos (keywordEach EN X.env)).any (·.1.isNone)=false:=by rfl):PE X (.Call (.Name x p) (e::es) EN pos) (tCK r t tk):=by intro ai s σ H Q I h;refine Xx (kf I hg hm hv ?_ hn qP);refine callWith_kw (cR (ha pos ai s σ H _ I h) fun us s1 q1=>?_) he kT M! Ue;obtain⟨vs,H1,I1,r1,q1⟩:=q1;refine cR (hkw pos ai s1 σ H1 _ I1 q1) fun ws s2 q2=>?_;obtain⟨zs,H2,I2,r2,q2⟩:=q2;rw[RU];exact hc ai s2 σ H2 vs zs us ws Q I2 r1 r2 q2
end
def iK(k:_m):List eU:=k.map Sum.inl
theorem U6(k:_m):(iK k).map kV=k.map V.int:=by unfold iK;rw[Wd];rfl
theorem Gx{a b:_m}(h:iK a=iK b):a=b:=by
 induction a generalizing b with
 |nil=>cases b with
  |nil=>rfl
  |cons=>cases h
 |cons x a ih=>cases b with
  |nil=>cases h
  |cons y b=>
   injection h with h1 h2;injection h1 with h1;rw[h1,ih h2]
def OH(H:Hp)(v:V)(k:_m):Prop:=∃a,v=.ref a/\H a=some (.tup (k.map V.int))
def Gy:List V->List V->Hp->VK->Prop:=fun xs zs H Q=>∃(d:_t)(aX:List (List eU×V))(ks:List (_m)),xs=[.ref d]/\zs=[.bl true]/\H d=some (.dT aX)/\aX.map (·.1)=ks.map iK/\ks.length<64/\(∀k∈ks,k≠[]) /\
 ∀(l:_t)(vs:List V)(outs:List (_m)),H l=none->outs.Perm ks->SO.gQ outs->Paired (OH H) vs outs->Q (.ref l) (upd H l (.lst vs))
theorem yi{xs:_m}{us:_n}(h:bN (xs.map V.int) us):IntsAre us xs:=by
 induction xs generalizing us with
 |nil=>cases h;exact .nil
 |cons x xs ih=>
  cases h with
  |cons a b=>
   obtain⟨t,rfl⟩:=a;exact .cons x t (ih b)
theorem yj(hc:X.calm=true):Gw X (.builtin "sorted") ["reverse"] Gy:=by
 intro ai s σ H xs zs us ws Q I rx rz h;obtain⟨d,aX,ks,rfl,rfl,hd,hk,h64,OE,q⟩:=h;obtain⟨u,rfl,r1⟩:=vals1 rx;obtain⟨z,rfl,r2⟩:=vals1 rz;cases r1;cases r2;obtain⟨_,lo,xs,pr,o,es,ep,h1,h2,h3,h4,h5⟩:=(show dk X.prog X.w H s.heap d (.dT aX)from I.cW d _ hd)
 -- Ec aak values and Qr aar hold
 have key:∀{aX:List (List eU×V)}{xs:List (List eU×_t×_r)}{ks:List (_m)},KT H aX xs->aX.map (·.1)=ks.map iK->(∀k∈ks,k≠[]) ->
   SO.de s.heap (xs.map fun x=>Value.ref x.2.1) ks/\xs.map (·.1)=ks.map iK/\∀z∈(xs.map fun x=>Value.ref x.2.1).zip ks,∃a,z.1=.ref a/\H a=some (.tup (z.2.map V.int)):=by
  intro aX xs ks pr
  induction pr generalizing ks with
  |nil=>
   intro e _;cases ks with
   |nil=>exact⟨.nil,rfl,fun z m=>by cases m⟩
   |cons=>cases e
  | @cons p x ps ys a _ ih=>
   intro e ne;cases ks with
   |nil=>cases e
   |cons k ks=>
    injection e with e1 e2;replace e1:p.1=iK k:=e1;obtain⟨i1,i2,i3⟩:=ih e2 fun k m=>ne k (Vq _ m);have ht:H x.2.1=some (.tup (k.map V.int)):=by rw[<-U6,<-e1];exact a.2.1
    obtain⟨_,aM,rv,o,g1,g2,n,g3⟩:=(show dk X.prog X.w H s.heap x.2.1 (.tup (k.map V.int))from I.cW _ _ ht)
    refine⟨.cons ⟨ne k Vu,x.2.1,o,aM.toArray,n,rfl,g1,g2,g3,yi rv⟩ i1,?_,fun z m=>?_⟩
    .rw[Vp,Vp,i2,<-a.1,e1]
    .rcases VJ.mp m with m|m
     .rw[m];exact⟨_,rfl,ht⟩
     .exact i3 z m
 obtain⟨t,ek,hz⟩:=key pr hk OE;have nd:ks.Nodup:=by rw[ek]at h5;exact List.Pairwise.of_map iK (fun a b z e=>z (by rw[e])) h5
 have ev:es.toList.map (·.key)=xs.map fun x=>Value.ref x.2.1:=by rw[h4,Wd];rfl
 have lv:es.size=ks.length:=by have:=W! List.length h4;rw[V5,Vt]at this;have l2:=t.length;rw[Vt]at l2;lia
 have x:SO.l! s.heap d es ep:=⟨o,h1,h2.1,h3⟩
 refine SO.An (I.ok.hd hc) lo x (by rw[ev];exact t) nd (by lia) fun h' tk l c zs kp hl z1 z2 g=>?_;rw[ev]at z1;have all:∀z∈zs,∃a,z.1=.ref a/\H a=some (.tup (z.2.map V.int)):=fun z m=>hz z (z1.mem_iff.mp m);have mk:∀{zs:List (_r×List Int)},(∀z∈zs,∃a,z.1=.ref a/\H a=some (.tup (z.2.map V.int)))->∃vs,bN vs (zs.map (·.1))/\Paired (OH H) vs (zs.map (·.2)):=by
  intro zs
  induction zs with
  |nil=>intro _;exact⟨[],.nil,.nil⟩
  |cons z zs ih=>
   intro al;obtain⟨vs,v1,v2⟩:=ih fun y m=>al y (Vq _ m);obtain⟨a,e1,e2⟩:=al z Vu;exact⟨.ref a::vs,.cons e1 v1,.cons ⟨a,rfl,e2⟩ v2⟩
 obtain⟨vs,v1,v2⟩:=mk all;have op:(zs.map (·.2)).Perm ks:=by have:=z1.map (·.2);rwa [List.map_snd_zip (Zn t.length.symm)]at this
 have lz:vs.length<=sizeLine:=by have e1:=v1.length;have e2:=op.length_eq;rw[Vt]at e1 e2;rw[VN];lia
 exact⟨.ref l,_,I.laid (t':=tk) kp hl (show dk X.prog X.w _ h' _ (.lst vs) from⟨lz,_,c,v1,g⟩),rfl,q l vs _ (I.cW.fresh hl) op z2 v2⟩
end L2
namespace SO
open PySem.W PyProof.Rows
section
variable{E:_i}
end
section
variable{E:_i}{I S:_t}{us:_n}{d:_r}{R:Result->_s->Prop}
end
end SO
namespace MN
open PySem.Spec L2
open PyProof.Rows hiding St kindOf
def yk:List eU->Option (_m)
 |[]=>some []
 |.inl i::r=>(yk r).map (i :: ·)
 |.inr _::_=>none
def pM:List (List eU)->Option (List (_m))
 |[]=>some []
 |k::r=>match yk k,pM r with
  |some a,some b=>some (a::b)
  |_,_=>none
theorem Km:∀{k:List eU}{a:_m},yk k=some a->k=iK a:=by
 intro k
 induction k with
 |nil=>intro a h;cases h;rfl
 |cons x r ih=>
  intro a h;cases x with
  |inl i=>
   replace h:(yk r).map (i :: ·)=some a:=h;cases z:yk r with
   |none=>rw[z]at h;cases h
   |some b=>
    rw[z]at h;cases h;rw[ih z];rfl
  |inr x=>cases h
theorem Gz:∀{l:List (List eU)}{ks:List (_m)},pM l=some ks->l=ks.map iK:=by
 intro l
 induction l with
 |nil=>intro ks h;cases h;rfl
 |cons k r ih=>
  intro ks h;unfold pM at h;cases z1:yk k with
  |none=>rw[z1]at h;cases h
  |some a=>
   cases z2:pM r with
   |none=>rw[z1,z2]at h;cases h
   |some b=>
    rw[z1,z2]at h;cases h;rw[Km z1,ih z2];rfl
theorem Kn(a:_m):yk (iK a)=some a:=by
 induction a with
 |nil=>rfl
 |cons x a ih=>show(yk (iK a)).map (x :: ·)=_;rw[ih];rfl
theorem GA(ks:List (_m)):pM (ks.map iK)=some ks:=by
 induction ks with
 |nil=>rfl
 |cons k ks ih=>rw[Vp];unfold pM;rw[Kn,ih]
def PQ(a b:_m):Bool:=!(SO.lexLt a b)
def l?(ks:List (_m)):List (_m):=ks.mergeSort PQ
theorem gv(ks:List (_m)):(l? ks).Perm ks:=List.mergeSort_perm ks PQ
theorem oF(nd:ks.Nodup):SO.gQ (l? ks):=by
 have h1:(l? ks).Pairwise fun a b=>PQ a b=true:=by
  refine List.pairwise_mergeSort (fun a b c h1 h2=>?_) (fun a b=>?_) ks
  .unfold PQ at h1 h2⊢;rw[XX]at h1 h2⊢;by_cases e1:a=b
   .rw[e1];exact h2
   .by_cases e2:b=c
    .rw[<-e2];exact h1
    .exact SO.jU (SO.rZ (SO.k8 e2 h2) (SO.k8 e1 h1))
  .unfold PQ;cases z:SO.lexLt a b with
   |false=>rfl
   |true=>rw[SO.jU z];rfl
 have h2:(l? ks).Nodup:=(gv ks).nodup_iff.mpr nd;refine List.Pairwise.imp (fun{a b}h=>?_) (h1.and h2);have z:SO.lexLt a b=false:=by have:=h.1;unfold PQ at this;rwa [XX]at this
 exact SO.k8 h.2 z
theorem gR(h:SO.gQ ks):ks.Nodup:=List.Pairwise.imp (fun{a b}h e=>by rw[e,SO.oE]at h;cases h) h
theorem ym{a b:List (_m)}(p:a.Perm b)(fa:SO.gQ a)(fb:SO.gQ b):a=b:=
 List.Perm.eq_of_pairwise (fun x y _ _ h1 h2=>by rw[SO.jU h1]at h2;cases h2) fa fb p
def a9(k:_m):aw:=.tup (k.map .int)
def GB(d:aw)(st:ao):c_ aw:=match d with
 |.loc n=>match st[n]? with
  |some (.dT aX)=>match pM (aX.map (·.1)) with
   |some ks=>if ks.length<64/\ks.all (fun k => !k.isEmpty)=true then .ok (.loc st.length) (st++[.lst ((l? ks).map a9)])else .bad
   |none=>.bad
  |_=>.bad
 |_=>.bad
def kz(m:ME):ME:=fun μ st=>(m μ st).bind GB
theorem BZ{aX:List (List eU×aw)}(h1:st[n]?=some (.dT aX))(h2:aX.map (·.1)=ks.map iK)(h3:ks.length<64)(h4:∀k∈ks,k≠[]):
  GB (.loc n) st=.ok (.loc st.length) (st++[.lst ((l? ks).map a9)]):=by
 unfold GB;dsimp only;rw[h1];dsimp only;rw[h2,GA];dsimp only;rw[Vs ⟨h3,Wa.mpr fun k m=>by
  cases k with
  |nil=>exact absurd rfl (h4 _ m)
  |cons=>rfl⟩]
theorem GC{vs:List V}(p:Paired (OH H) vs ks):bp K ρ H (ks.map a9) vs:=by
 induction p with
 |nil=>exact bp.nil
 |cons a _ ih=>
  obtain⟨b,rfl,hb⟩:=a;exact bp.cons (Rl.pK hb (bp.ints _)) ih
section
variable{cp:Pos}{j:Nat}
theorem yn(hc:X.calm=true)(hg:Gl X x)(hm:X.mg x=none)(hv:bootBuiltins x=some (.builtin "sorted"))(ha:PE X e (tE X E md))(hn:x ≠ "__name__":=by decide)(qP:(x==("__debug__":Str))=false:=by decide)(he:starEach [e] X.env=(false,eval e X.env)::starEach [] X.env:=by rfl):PE X (.Call (.Name x p) [e] [⟨some "reverse",.Constant (.bool true) j cp,kp⟩] pos) (tE X E (kz md)):=by
 refine PE.imp (Dp (yj hc) hg hm hv (kS ha vJ he) (IU Lv MX) (by rfl) hn qP (by rw[he];rfl) (by rw[he];rfl) (by rfl) (by rfl)) ?_;rintro σ H Q ⟨μ,ρ,st,rs,sr,h⟩;refine go μ ρ st rs sr h fun d st1 ρ1 H1 v e1 b? r1 h1=>?_;show Gy [v] [.bl true] H1 Q;cases d with
 |loc n=>
  obtain⟨a,rfl,ha⟩:=r1.fD;unfold GB at h1;dsimp only at h1;cases hn:st1[n]? with
  |none=>rw[hn]at h1;exact h1.elim
  |some c=>
   rw[hn]at h1;cases c with
   |dT aX=>
    obtain⟨jL,hd,pr⟩:=b?.cell n _ a hn ha;dsimp only at h1;cases hk:pM (aX.map (·.1)) with
    |none=>rw[hk]at h1;exact h1.elim
    |some ks=>
     rw[hk]at h1;dsimp only at h1;by_cases hz:ks.length<64/\ks.all (fun k => !k.isEmpty)=true
     .rw[Vs hz]at h1;refine⟨a,jL,ks,rfl,rfl,hd,by rw[<-pr.1];exact Gz hk,hz.1,fun k m z=>?_,fun l vs outs hl op fo pv=>?_⟩
      .have:=Wa.mp hz.2 k m;rw[z]at this;cases this
      .have nd:ks.Nodup:=op.nodup_iff.mp (gR fo);have eo:outs=l? ks:=ym (op.trans (gv ks).symm) fo (oF nd);rw[eo]at pv;obtain⟨k1,k2,k3⟩:=gH b? (GC pv) hl;exact h1 _ _ _ k1 k2 k3
     .rw[Vx hz]at h1;exact h1.elim
   |_=>exact h1.elim
 |_=>exact h1.elim
end
def kA:List aw->Option (_m)
 |[]=>some []
 |.int i::r=>(kA r).map (i :: ·)
 |_::_=>none
theorem Dq:∀{us:List aw}{a:_m},kA us=some a->us=a.map aw.int:=by
 intro us
 induction us with
 |nil=>intro a h;cases h;rfl
 |cons u r ih=>
  intro a h;cases u with
  |int i=>
   replace h:(kA r).map (i :: ·)=some a:=h;cases z:kA r with
   |none=>rw[z]at h;cases h
   |some b=>rw[z]at h;cases h;rw[ih z];rfl
  |_=>cases h
theorem GD(a:_m):kA (a.map aw.int)=some a:=by
 induction a with
 |nil=>rfl
 |cons x a ih=>show(kA (a.map aw.int)).map (x :: ·)=_;rw[ih];rfl
theorem bp.Ko:∀{a:_m}{vs:List V},bp K ρ H (a.map aw.int) vs->vs=a.map V.int:=by
 intro a
 induction a with
 |nil=>intro vs h;exact h.fV
 |cons x a ih=>
  intro vs h;obtain⟨v,r,rfl,q1,q2⟩:=bp.cS h;rw[Rl.c7 q1,ih q2];rfl
section
variable{ed:Expr}
end
end MN
namespace PM
open PySem.Spec L2 MN
open PyProof.Rows hiding St
def kB:FN:=gk 3 3 (l8 aD aO (ah aQ (jO aD aO bX) bH))
def eT:FN:=gk 2 2 (ay (cU (aT (ah cG aD bX)) (aP aO) aJ) (aP (ah bf aO aD)))
def d9:FN:=gk 2 7 (ay (aB 2 (bq ak)) (ay (aB 3 aD) (ay (aB 4 kd) (ay (cU (aT (ah cG (ah bf aD lu) bX)) (ay (aB 3 (ah bV aD lu)) (aB 4 (mC (.int 100)))) aJ) (ay (dQ (cz (ae aO ak)) (aA 5) (ay (aB 6 (ah bf ck fC)) (ay (aB 3 (ah bV ck fC)) (ay (cU (i_ (aT (ah cG fC kd)) (aT (ah cG (ah bf (ah bV aD xT) z!) eR))) (aB 6 (ah bf (ah bV aD (mC (.int 2048))) (mC (.int 100)))) aJ) (cF (jk cL bH (ae jt ak))))))) (aP (aj l6 (ae bH ak))))))))
def aU:FN:=gk 3 3 (aP (mW (aj PM.gO (ae aD ak)) (v7 Rm Rm aO aD bH)))
def e?:FN:=gk 2 3 (ay (aB 2 (eh 2 [0] (d6 aO) (gN [(aA 0),(aA 1)]) cT (fO (ae aD (ae (aj PM.cj (ae bH (ae aO ak))) ak))))) (aP (eh 1 [] (d6 bH) (aA 0) (aT (ah gq (ah bY aD bA) bX)) aD)))
def bB:FN:=gk 2 6 (ay (aB 2 ku) (ay (dQ (d6 aO) (aA 3) (l8 bH (ah bY ck bX) (ah aQ (jO bH (ah bY ck bX) bX) (ah bY ck bA)))) (ay (aB 4 (bq ak)) (ay (dQ (d6 (kz bH)) (aA 5) (cU (aT (ah gq (aj PM.eT (ae aD (ae (ah i? bH eR) ak))) bX)) (cF (jk cL fC (ae (fO (ae eR (ae (aj PM.eT (ae aD (ae (ah i? bH eR) ak))) ak))) ak))) aJ)) (aP fC)))))
def gS:FN:=gk 2 3 (ay (cU (eY (dP (aT (uk "list" aD))) (aT (ah gq (aj bG (ae aD ak)) (aj bG (ae aO ak))))) (aP (mC (.bl false))) aJ) (ay (dQ (cz (ae (aj bG (ae aO ak)) ak)) (aA 2) (ay (cU (eY (dP (aT (uk "tuple" (ah bY aD bH)))) (eY (aT (ah gq (aj bG (ae (ah bY aD bH) ak)) fP)) (dP (aT (aj PM.gm (ae (ah bY (ah bY aD bH) bA) ak)))))) (aP (mC (.bl false))) aJ) (cU (eY (dP (aT (uk "tuple" (ah bY (ah bY aD bH) bX)))) (aT (ah gq (eh 1 [] (d6 (ah bY (ah bY aD bH) bX)) (aA 0) (dP (aT (aj PM.gm (ae aD ak)))) aD) (bq ak)))) (aP (mC (.bl false))) aJ))) (aP (ah cG aD aO))))
def bJ:FN:=gk 1 1 (cU (dP (aT (aj PM.aU (ae aD (ae bA (ae kd ak)))))) (fT "NoUnknowns" (ae (qs "a count of unknowns is a whole number from 1 to 4") ak)) aJ)
def dr:FN:=gk 2 2 (ay (cU (eY (dP (aT (uk "tuple" aD))) (aT (ah gq (aj bG (ae aD ak)) aO))) (aP (mC (.bl false))) aJ) (aP (aj oj (ae (eh 1 [] (d6 aD) (aA 0) cT (aj PM.aU (ae aD (ae bX (ae Fn ak))))) ak))))
def dw:FN:=gk 2 2 (aP (aj PM.e? (ae aD (ae (eh 1 [1] (d6 (kz aO)) (aA 0) cT (fO (ae aD (ae (ah i? aO aD) ak)))) ak))))
def ja:FN:=gk 2 2 (ay (cU (eY (dP (aT (uk "tuple" aD))) (aT (ah gq (aj bG (ae aD ak)) fP))) (aP (mC (.bl false))) aJ) (aP (mW (aj PM.dr (ae (ah bY aD bX) (ae aO ak))) (aj PM.gO (ae (ah bY aD bA) ak)))))
def dX:FN:=gk 2 3 (dQ (d6 aO) (aA 2) (cU (dP (aT (aj PM.ja (ae bH (ae aD ak))))) (fT "NoTerm" (ae (qs "a term is a tuple of exponents from 0 to 99, one for each unknown, and a whole number") ak)) aJ))
def made:FN:=gk 3 6 (ay (cF (aj PM.dc (ae aD ak))) (ay (cF (aj PM.bJ (ae aO ak))) (ay (cF (aj PM.dX (ae aO (ae bH ak)))) (ay (aB 3 ku) (ay (dQ (d6 bH) (gN [(aA 4),(aA 5)]) (cF (aj PM.kB (ae ck (ae fC (ae eR ak)))))) (aP (aj PM.dw (ae aD (ae ck ak)))))))))
end PM
namespace DL
section
variable{E:_i}
variable{K:Type}[DecidableEq K]{knd:KeyKind prog w K}
end
end DL
namespace L2
open PySem.Spec PyProof.Rows
end L2
namespace MN
open PySem.Spec L2
open PyProof.Rows hiding St
end MN
namespace DL
open PyProof.Rows
section
variable{E:_i}
end
end DL
namespace L2
open PySem.Spec PyProof.Rows
end L2
namespace MN
open PySem.Spec L2
open PyProof.Rows hiding St
end MN
namespace PM
open PySem.Spec L2 MN
open PyProof.Rows hiding St
end PM
namespace L2
open PySem.Spec PyProof.Rows
end L2
namespace MN
open PySem.Spec L2
open PyProof.Rows hiding St
end MN
namespace PM
open PySem.Spec L2 MN
open PyProof.Rows hiding St
end PM
namespace SO
open PySem.W PyProof.Rows
section
variable{E:_i}
end
end SO
namespace MN
open PySem.Spec L2
open PyProof.Rows hiding St
end MN
namespace L2
open PySem.Spec PyProof.Rows
section
variable{c:_t}{v x:V}{u:_r}{Q:VK}{E:_i}
end
section
variable{c:_t}{ek:Expr}{t:TE}
end
end L2
namespace MN
open PySem.Spec L2
open PyProof.Rows hiding St
section
variable{c:_t}{Q:VK}
end
section
variable{lp:Pos}{L:J4}{c cd T:_t}
end
end MN
namespace HT
open PySem.Spec PyProof.Rows
section
variable{E:_i}
end
end HT
namespace L2
open PySem.Spec PyProof.Rows
section
variable{es:Expr}
end
end L2
namespace MN
open PySem.Spec L2
open PyProof.Rows hiding St
end MN
namespace SO
open PySem.W PyProof.Rows
section
variable{E:_i}{t:_t}{us:_n}
end
end SO
namespace L2
open PySem.Spec PyProof.Rows
end L2
namespace MN
open PySem.Spec L2
open PyProof.Rows hiding St
theorem GF{n:Nat}(ih:∀u w x,fW n u=true->fW n w=true->Rl K ρ H u x->Rl K ρ H w x->u=w):∀us ws vs,dE n us=true->dE n ws=true->bp K ρ H us vs->bp K ρ H ws vs->us=ws
 |[],[],_,_,_,_,_=>rfl
 |[],w::ws,vs,_,_,h1,h2=>by obtain⟨v,r,e,_⟩:=h2.cS;rw[h1.fV]at e;cases e
 |u::us,[],vs,_,_,h1,h2=>by obtain⟨v,r,e,_⟩:=h1.cS;rw[h2.fV]at e;cases e
 |u::us,w::ws,vs,p1,p2,h1,h2=>by
  obtain⟨v,r,rfl,a1,a2⟩:=h1.cS;obtain⟨v',r',e,b1,b2⟩:=h2.cS;cases e;have U7:(fW n u&&dE n us)=true:=by unfold dE at p1;exact p1
  have U8:(fW n w&&dE n ws)=true:=by unfold dE at p2;exact p2
  rw[V4]at U7 U8;rw[ih u w v U7.1 U8.1 a1 b1,GF ih us ws r U7.2 U8.2 a2 b2]
theorem OI:∀(n:Nat)(u w:aw)(x:V),fW n u=true->fW n w=true->Rl K ρ H u x->Rl K ρ H w x->u=w:=by
 have mM:∀(n:Nat)(u w:aw)(x:V),flat u=true->fW n w=true->Rl K ρ H u x->Rl K ρ H w x->u=w:=by intro n u w x f p h1 h2;cases u<;>(try cases f)<;>cases w<;>(try (cases n<;>cases p))<;>first|(unfold Rl at h1 h2;subst h1;cases h2;rfl)|(unfold Rl at h1 h2;subst h1;cases h2;done)|(unfold Rl at h1;subst h1;obtain⟨a,vs,e,_⟩:=h2.h!;cases e)
 have fl:∀(n:Nat)(u:aw),fW n u=true->flat u=true\/∃us k,u=.tup us/\n=k+1/\dE k us=true:=by
  intro n u p;cases u with
  |tup us=>cases n with
   |zero=>cases p
   |succ k=>exact .inr ⟨us,k,rfl,rfl,p⟩
  |_=>first|exact .inl rfl|(cases n<;>cases p)
 intro n
 induction n with
 |zero=>
  intro u w x p1 p2 h1 h2;rcases fl 0 u p1 with f|⟨us,k,_,e,_⟩
  .exact mM 0 u w x f p2 h1 h2
  .cases e
 |succ n ih=>
  intro u w x p1 p2 h1 h2;rcases fl _ u p1 with f|⟨us,k,rfl,e,q1⟩
  .exact mM _ u w x f p2 h1 h2
  .rcases fl _ w p2 with f|⟨ws,k',rfl,e',q2⟩
   .exact(mM _ w _ x f p1 h2 h1).symm
   .cases e;cases e';unfold Rl at h1 h2;obtain⟨a,vs,rfl,ha,r1⟩:=h1;obtain⟨a',JK,e,LN,r2⟩:=h2;cases e;rw[ha]at LN;cases LN;rw[GF ih us ws vs q1 q2 r1 r2]
def Kp(neg:Bool):F2:=fun u w st=>match w with
 |.loc n=>match aq st n with
  |some us=>if fW 14 u=true/\us.all (fW 14)=true/\us.all (fun y=>(hG 15 st y u).isSome)=true then .ok (.bl (if neg then !us.any (fun y=>hG 15 st y u==some true)else us.any (fun y=>hG 15 st y u==some true))) st else .bad
  |none=>.bad
 |_=>.bad
theorem OJ(hu:X.A.units+64<cLine)(I:aV X ai σ H s)(sr:SR X.K ρ st H){x:V}{v:_r}(hp:fW 14 u=true)(r:Rl X.K ρ H u x)(rv:bT x v){vs:List V}(rs:bp X.K ρ H us vs)(ri:bN vs aM)(hps:us.all (fW 14)=true)(hs:us.all (fun y=>(hG 15 st y u).isSome)=true):∃f:_r->Bool,(∀y∈aM.toArray,SeqAt.EqAt X.A.in1 s y v (f y))/\aM.toArray.any f=us.any (fun y=>hG 15 st y u==some true):=by
 have hl:=rs.length;have EW:=ri.length;have at_:∀(j:Nat)(w:_r),aM[j]?=some w->∃y z,us[j]?=some y/\Rl X.K ρ H y z/\bT z w/\fW 14 y=true/\(hG 15 st y u).isSome=true:=by
  intro j w hw;have hj:j<aM.length:=(VP.mp hw).1;obtain⟨y,hy⟩:∃y,us[j]?=some y:=⟨_,VD (by lia)⟩
  obtain⟨z,hz,rz⟩:=rs.get hy;obtain⟨w',OK,qT⟩:=ri.get hz;rw[hw]at OK;cases OK;have hm:=WK hy;exact⟨y,z,hy,rz,qT,Wa.mp hps y hm,Wa.mp hs y hm⟩
 classical
 refine⟨fun w=>decide (∃y z,y∈us/\Rl X.K ρ H y z/\bT z w/\hG 15 st y u=some true),fun w hw=>?_,?_⟩
 .obtain⟨j,hj⟩:=List.getElem?_of_mem (show w∈aM by simpa using hw);obtain⟨y,z,hy,rz,qT,py,Of⟩:=at_ j w hj;obtain⟨b,hb⟩:=Z8.mp Of;have key:=v8 I sr 15 X.A.in1 (by rw[in1_units];lia) y u z x w v b rz qT r rv hb;dsimp only;cases b with
  |true=>rw[VA ⟨y,z,WK hy,rz,qT,hb⟩];exact key
  |false=>
   rw[VE]
   .exact key
   .rintro⟨y',z',hm',rz',rw2,hb'⟩;have ez:z'=z:=rw2.inj qT;subst ez;have ey:=OI 14 y' y z' (Wa.mp hps y' hm') py rz' rz;rw[ey,hb]at hb';cases hb'
 .rw[W5];rw[Xp];constructor
  .intro h;have h':aM.any (fun w=>decide (∃y z,y∈us/\Rl X.K ρ H y z/\bT z w/\hG 15 st y u=some true))=true:=by simpa using h
   obtain⟨w,_,hw⟩:=Xp.mp h';obtain⟨y,z,hm,_,_,hb⟩:=Wj hw;exact⟨y,hm,by rw[hb];rfl⟩
  .rintro⟨y,hm,hb⟩;have hb:hG 15 st y u=some true:=eq_of_beq hb;obtain⟨j,hj⟩:=List.getElem?_of_mem hm;obtain⟨z,hz,rz⟩:=rs.get hj;obtain⟨w,hw,qT⟩:=ri.get hz;have:aM.any (fun w=>decide (∃y z,y∈us/\Rl X.K ρ H y z/\bT z w/\hG 15 st y u=some true))=true:=Xp.mpr ⟨w,WK hw,VA ⟨y,z,hm,rz,qT,hb⟩⟩;simpa using this
theorem Kq(hu:X.A.units+64<cLine)(neg:Bool):ej X (compareOp (if neg then .NotIn else .In)) (rM (wo X) E (Kp neg)):=by
 intro ai s σ H x y v u Q I rx ry h;obtain⟨ρ,st,u1,w1,sr,r1,r2,h⟩:=h;unfold Kp at h;cases w1 with
 |loc n=>
  dsimp only at h;cases hi:aq st n with
  |none=>rw[hi]at h;exact h.elim
  |some us=>
   rw[hi]at h;dsimp only at h;split at h
   .rename_i hz;obtain⟨a,rfl,ha⟩:=r2.fD;cases ry;obtain⟨vs,hq,rv⟩:=bP sr hi ha;obtain⟨aM,ri,pl,_⟩:=I.list hq;obtain⟨f,hf,ef⟩:=OJ hu I sr hz.1 r1 rx rv ri hz.2.1 hz.2.2;cases neg with
    |true=>exact SeqAt.notIn_listAt f pl.isList hf ⟨.bl _,H,I,rfl,by rw[ef];exact e_ sr h⟩
    |false=>exact SeqAt.in_listAt f pl.isList hf ⟨.bl _,H,I,rfl,by rw[ef];exact e_ sr h⟩
   .exact h.elim
 |_=>exact h.elim
theorem Glob.strs{o:Obj}{aM:Array _r}{ns:_q}(h:mg x=some (.ref a))(l:K.lookup a=some o)(hc:o.cls=.type "tuple")(hd:o.data=.seq aM n)(hz:aM.size<=sizeLine)(hv:bN (ns.map V.str) aM.toList):Glob K mg x (.mt (ns.map .str)):=
 ⟨_,.ref a,h,rfl,fun ρ H=>Rl.Rc (.inr ⟨o,aM,n,l,hc,hd,hz,hv⟩) (by
  clear h l hc hd hz hv
  induction ns with
  |nil=>exact bp.nil
  |cons s ns ih=>exact bp.cons (Rl.mkStr s) ih)⟩
end MN
namespace PM
open PySem.Spec L2 MN
open PyProof.Rows hiding St
end PM
namespace L2
open PySem.Spec PyProof.Rows
end L2
namespace MN
open PySem.Spec L2
open PyProof.Rows hiding St
section
variable{n:Str}{j:Nat}{F:Str->ao->c_ aw}
end
end MN
namespace L2
open PySem.Spec PyProof.Rows
end L2
namespace MN
open PySem.Spec L2
open PyProof.Rows hiding St
end MN
namespace SO
open PySem.W PyProof.Rows
section
variable{K:Type}[DecidableEq K]{knd:HeapKind prog w K}{E:_i}
end
section
variable{E:_i}{d:_t}{es:Array DictEntry}
end
section
variable{E:_i}{I d S:_t}{es:Array DictEntry}{zs:List (_r×List Int)}{R:Result->_s->Prop}
end
def lD(f:Nat->Int):Nat->Int
 |0=>f 0
 |j+1=>if f (j+1)<lD f j then f (j+1)else lD f j
theorem pN(f:Nat->Int):∀j,f (argBest (fun i j=>decide (f i<f j)) j)=lD f j
 |0=>rfl
 |j+1=>by
  have ih:=pN f j;show f (if decide (f (j+1)<f (argBest (fun i j=>decide (f i<f j)) j))=true then j+1 else argBest (fun i j=>decide (f i<f j)) j)=if f (j+1)<lD f j then f (j+1)else lD f j
  rw[ih];by_cases c:f (j+1)<lD f j
  .rw[Vs (VA c),Vs c]
  .rw[Vx (by rw[VE c];exact VC),Vx c,ih]
theorem r!{f g:Nat->Int}:∀{j:Nat},(∀i,i<=j->f i=g i)->lD f j=lD g j
 |0,h=>h 0 (Vv _)
 |j+1,h=>by unfold lD;rw[r! (j:=j) fun i hi=>h i (by lia),h (j+1) (Vv _)]
section
variable{E:_i}{us:_n}
theorem Ao(h:IntsAre us ns):∃xs:Array (Int×Tok),us.toArray=intItems xs/\xs.size=ns.length/\∀i,numAt xs i=ns.getD i 0:=by
 have:∃l:List (Int×Tok),us=l.map (fun p=>Value.int p.1 p.2)/\l.map (·.1)=ns:=by
  induction h with
  |nil=>exact⟨[],rfl,rfl⟩
  |cons n t _ ih=>
   obtain⟨l,e1,e2⟩:=ih;exact⟨(n,t)::l,by rw[e1];rfl,by rw[<-e2];rfl⟩
 obtain⟨l,rfl,rfl⟩:=this;refine⟨l.toArray,by simp[intItems],by simp,fun i=>?_⟩;unfold numAt;rw[XN,Xo,VV]
end
end SO
namespace L2
open PySem.Spec PyProof.Rows
section
variable{b:_t}{aX:List (List eU×V)}{k:List eU}{E:_i}
end
section
variable{ty:TE}
end
end L2
namespace MN
open PySem.Spec L2
open PyProof.Rows hiding St kindOf
section
variable[DecidableEq κ]
end
section
variable{mk:ME}
end
end MN
namespace L2
open PySem.Spec PyProof.Rows PySem.W
end L2
namespace MN
open PySem.Spec L2
open PyProof.Rows hiding St
section
variable{n:Str}{tab:List (Str×Str×Bool)}{qs:_q}
end
end MN
namespace PM
open PySem.Spec L2 MN
open PyProof.Rows hiding St
end PM
namespace MN
open PySem.Spec L2
open PyProof.Rows hiding St kindOf
section
variable{f:Str}{mv:ME}{cs:_q}{c:Str}{F:FN}{j:Nat}
end
end MN
namespace MN
open PySem.Spec L2
open PyProof.Rows hiding St
def dG(K:_l)(x:Str)(st:Stmt):Prop:=∃(f:_t)(fd:FuncData),Jf K x x st f fd/\W.nsIn K mainGlobals x=some (some (.ref f))
theorem dG.mk{st:Stmt}{kV ct:_r}(a:W.nsIn K mainGlobals x=some (some (.ref f)))(l:K.lookup f=some ⟨oc,od,.func (W.fnOf x x (h_ st) (fM st) (bW st) .none kV doc pm an iw ct),Il⟩)(c:W.codeIn K iw x=true)(k:W.keepIn K (.ref f)=true):dG K x st:=⟨f,_,EZ l c k,a⟩
inductive Ap(K:_l):_q->Prop
 |nil:Ap K []
 |cons {x:Str} {r:_q} (a:W.nsIn K mainGlobals x=some none) (t:Ap K r):Ap K (x::r)
@[reducible] def Kr(mg:_j):_q->Prop
 |[]=>True
 |x::r=>mg x=none/\Kr mg r
theorem Ap.get(X:K.In h)(G:h.Ns mainGlobals mg):∀{l:_q},Ap K l->Kr mg l
 |_,.nil=>trivial
 |_,.cons a t=>⟨ZL X G a,t.get X G⟩
inductive Aq(K:_l):_q->Prop
 |nil:Aq K []
 |cons {x:Str} {r:_q} {C:_t} (a:W.nsIn K mainGlobals x=some (some (.ref C))) (e:W.excIn K C bmV "ValueError.__new__" = true) (s:W.subIn K (.ref C) (.type "BaseException")=some true) (t:Aq K r):Aq K (x::r)
@[reducible] def Ks(K:_l)(mg:_j):_q->Prop
 |[]=>True
 |x::r=>F9 K mg x/\Ks K mg r
theorem Aq.get(X:K.In h)(G:h.Ns mainGlobals mg):∀{l:_q},Aq K l->Ks K mg l
 |_,.nil=>trivial
 |_,.cons a e s t=>⟨⟨_,Ww X G a,e,s⟩,t.get X G⟩
inductive pO(K:_l):List (Str×Str×Bool)->Prop
 |nil:pO K []
 |cons {c x:Str} {b:Bool} {C D:_t} {cd:ClassData} {r:List (Str×Str×Bool)} (h1:W.nsIn K mainGlobals c=some (some (.ref C))) (h2:W.nsIn K mainGlobals x=some (some (.ref D))) (h3:W.clsIn K D=some cd) (h4:W.typeIn K (.ref D)=some (.type "type")) (h5:W.subIn K (.ref C) (.ref D)=some b) (t:pO K r):pO K ((c,x,b)::r)
inductive r?(K:_l):_q->Prop
 |nil:r? K []
 |cons {c:Str} {C:_t} {r:_q} (h1:W.nsIn K mainGlobals c=some (some (.ref C))) (h3:W.kitOne K (.ref C) (.type "ValueError")=some true) (t:r? K r):r? K (c::r)
def RV(l:_q):List (Str×Str×Bool):=l.map fun c=>(c,"ValueError",true)
theorem r?.get(X:K.In h)(G:h.Ns mainGlobals mg)(n:W.nsIn K mainGlobals "ValueError" = some none):∀{l:_q},r? K l->fU K mg (RV l)
 |_,.nil=>.nil
 |_,.cons h1 h3 t=>.blt (Ww X G h1) (ZL X G n) lK h3 (t.get X G n)
theorem pO.get(X:K.In h)(G:h.Ns mainGlobals mg){l':List (Str×Str×Bool)}(S:fU K mg l'):∀{l:List (Str×Str×Bool)},pO K l->fU K mg (l++l')
 |_,.nil=>S
 |_,.cons h1 h2 h3 h4 h5 t=>.own (Ww X G h1) (Ww X G h2) (Dd h3 h4 h5) (t.get X G S)
inductive Ar(K:_l):_q->Prop
 |nil:Ar K []
 |cons {x:Str} {r:_q} {C:_t} (a:W.nsIn K mainGlobals x=some (some (.ref C))) (q:L2.wd K C=true) (t:Ar K r):Ar K (x::r)
theorem Ar.get(X:K.In h)(G:h.Ns mainGlobals mg):∀{l:_q},Ar K l->we K mg l
 |_,.nil=>.nil
 |_,.cons a q t=>.cons (Ww X G a) q (t.get X G)
theorem we.known{l:_q}(Q:we K mg l):Known mg (Iv l):=fun c hc=>let⟨C,h,_⟩:=Q.at_ hc;⟨C,h⟩
section
variable{a b:Expr}
theorem OL(ha:PE X a (tE X E ma))(hb:PE X b (tE X E mb)):PE X (.BinOp a .Add b pos) (tE X E (ah aQ ma mb)):=oa JF ha hb
theorem OM(ha:PE X a (tE X E ma))(hb:PE X b (tE X E mb)):PE X (.BinOp a .Sub b pos) (tE X E (ah uA ma mb)):=oa JG ha hb
theorem ON(ha:PE X a (tE X E ma))(hb:PE X b (tE X E mb)):PE X (.BinOp a .Mult b pos) (tE X E (ah dz ma mb)):=oa JH ha hb
theorem OO(ha:PE X a (tE X E ma))(hb:PE X b (tE X E mb)):PE X (.BinOp a .FloorDiv b pos) (tE X E (ah bV ma mb)):=oa Fv ha hb
theorem OP(ha:PE X a (tE X E ma))(hb:PE X b (tE X E mb)):PE X (.BinOp a .Mod b pos) (tE X E (ah bf ma mb)):=oa JI ha hb
theorem OQ(ha:PE X a (tE X E ma))(hb:PE X b (tE X E mb)):PE X (.BinOp a .Pow b pos) (tE X E (ah JE ma mb)):=oa JJ ha hb
theorem RW(ha:PE X a (tE X E ma))(hb:PE X b (tE X E mb)):PT X (.Compare a [.Lt] [b] pos) (tT X E (aT (ah ltV ma mb))):=iC Fw ha hb
theorem RX(ha:PE X a (tE X E ma))(hb:PE X b (tE X E mb)):PT X (.Compare a [.Gt] [b] pos) (tT X E (aT (ah BC ma mb))):=iC Fy ha hb
theorem RY(hu:X.A.units+64<cLine)(ha:PE X a (tE X E ma))(hb:PE X b (tE X E mb)):PT X (.Compare a [.Eq] [b] pos) (tT X E (aT (ah cG ma mb))):=iC (FE hu) ha hb
theorem RZ(hu:X.A.units+64<cLine)(ha:PE X a (tE X E ma))(hb:PE X b (tE X E mb)):PT X (.Compare a [.NotEq] [b] pos) (tT X E (aT (ah gq ma mb))):=iC (FF hu) ha hb
theorem R0(hu:X.A.units+64<cLine)(ha:PE X a (tE X E ma))(hb:PE X b (tE X E mb)):PE X (.Compare a [.Eq] [b] pos) (tE X E (ah cG ma mb)):=iB (FE hu) ha hb
theorem R3(hu:X.A.units+64<cLine)(ha:PE X a (tE X E ma))(hb:PE X b (tE X E mb)):PE X (.Compare a [.NotEq] [b] pos) (tE X E (ah gq ma mb)):=iB (FF hu) ha hb
end
end MN
variable {mk:MN.ME}
namespace MN
open PySem.Spec L2
open PyProof.Rows hiding St kindOf
section
variable{F:FN}{c mt:Str}{j:Nat}
end
section
variable{c m q:Str}{st:Stmt}{fs:_q}
end
end MN
namespace SO
open PySem.W PyProof.Rows
section
variable{E:_i}{us:_n}
end
end SO
namespace L2
open PySem.Spec PyProof.Rows
end L2
namespace DL
section
variable{E:_i}
variable{K:Type}[DecidableEq K]{knd:KeyKind prog w K}
def pO(knd:KeyKind prog w K)(h:Heap)(u:_r)(q:K×_r):Prop:=
 ∃a o aM n key,u=.ref a/\h.get? a=some o/\o.cls=.type "tuple" /\ o.data=.seq aM n/\aM.toList=[key,q.2]/\knd.is q.1 key=true
end
end DL
namespace L2
open PySem.Spec PyProof.Rows
section
variable{aX:List (eU×V)}
end
end L2
namespace MN
open PySem.Spec L2
open PyProof.Rows hiding St kindOf
end MN
namespace L2
open PySem.Spec PyProof.Rows
section
variable{E:_i}
end
section
variable{nx:Str}
end
end L2
namespace SO
open PySem.W PyProof.Rows
section
variable{E:_i}
end
end SO
namespace L2
open PySem.Spec PyProof.Rows
end L2
namespace MN
open PySem.Spec L2
open PyProof.Rows hiding St kindOf
def U9(st:ao)(n:Nat):Option (List (eU×aw)):=match st[n]? with
 |some (.dK aX)=>some aX
 |some (.fd aX)=>some aX
 |_=>none
def L0:List eU->Option (_m)
 |[]=>some []
 |.inl i::r=>(L0 r).map (i :: ·)
 |.inr _::_=>none
end MN
namespace MN
open PySem.Spec L2
end MN
namespace PM
open PySem.Spec L2 MN
open PyProof.Rows hiding St
end PM
namespace SO
open PySem.W PyProof.Rows
section
variable{E:_i}
end
end SO
namespace L2
open PySem.Spec PyProof.Rows
def gx(xs:List α)(k:Int):List α:=(sliceRange 0 xs.length k).filterMap fun i=>xs[i]?
theorem k9:∀(is:List Nat){xs:List V}{us:_n},bN xs us->bN (is.filterMap fun i=>xs[i]?) (is.filterMap fun i=>us[i]?)
 |[],_,_,_=>.nil
 |i::is,xs,us,r=>by
  cases z:xs[i]? with
  |none=>
   have:us[i]?=none:=by rw[ZZ]at z⊢;rw[<-r.length];exact z
   rw[XF z,XF this];exact k9 is r
  |some x=>
   obtain⟨u,hu,ru⟩:=r.get z;rw[XE z,XE hu];exact .cons ru (k9 is r)
theorem GG(xs:List α){k:Int}(hk:0<k):(gx xs k).length<=xs.length:=by unfold gx;refine VX (Ys _ _) ?_;have:=sliceRange_len_le 0 (xs.length:Int) k (by lia);rw[Vs hk]at this;simpa using this
theorem Dr{es:Expr}{ts:TE}(he:PE X e te)(hs:PE X es ts):
  PE X (.Subscript e (.Slice none none (some es) p2) pos) (fun σ H Q=>te σ H fun x H1=>ts σ H1 fun y H2=>∃a xs k,x=.ref a/\y=.int k/\0<k/\lY X.K H2 a xs/\∀p,H2 p=none->Q (.ref p) (upd H2 p (.lst (gx xs k)))):=by
 intro ai s σ H Q I h;refine Zt (cR (he ai s σ H _ I h) fun v s1⟨x,H1,I1,r1,q1⟩=>?_);refine wpAny_Slice ?_;rw[YL];refine VB ?_;refine VB ?_;rw[YK];refine cR (hs ai s1 σ H1 _ I1 q1) fun v3 s3⟨y,H2,I3,r3,a,xs,k,e1,e2,hk,hx,q⟩=>?_;subst e1 e2;cases r1;obtain⟨tk,rfl⟩:=r3;have I4:aV X ai σ H2 {s3 with heap:=s3.heap.push {cls:=.type "slice",data:=.fields #[.none,.none,.int k tk]} }:=I3.kept (t':=s3.toks) fun b ob q=>Vr _ q;show wpAny (model X.prog X.w) X.A (subscriptTail e (.Slice none none (some es) p2) (.ref a) (.ref s3.heap.objs.size)) (EP X ai σ Q) X.xe {s3 with heap:=s3.heap.push {cls:=.type "slice",data:=.fields #[.none,.none,.int k tk]} };obtain⟨aM,r,ht,hz⟩:=I4.list hx;have hlen:aM.toArray.size=xs.length:=by rw[VM];exact r.length.symm
 refine tail_any (ops:=[.ref a,.ref s3.heap.objs.size]) ht.isList.typeIs Yd.lookup ?_ (by with_unfolding_all rfl);refine Yg ht.isList (YV ..) .none .none (.int k tk) (by intro z;injection z with z;lia) ?_ (by rw[hlen];exact hz);have ep:slicePick aM.toArray none none (some k)=(gx aM k).toArray:=by
  have b1:(sliceBounds none none (some k) aM.toArray.size).1=0:=by show(if k>0 then(0:Int)else _)=0;rw[Vs hk]
  have b2:(sliceBounds none none (some k) aM.toArray.size).2.1=(aM.length:Int):=by show(if k>0 then((aM.toArray.size:Nat):Int)else _)=_;rw[Vs hk,VM]
  have b3:(sliceBounds none none (some k) aM.toArray.size).2.2=k:=rfl;unfold slicePick gx;rw[b1,b2,b3];simp only[XN]
 rw[ep];refine⟨.ref _,_,I4.laid (t':=s3.toks) (o:=.lst (gx xs k)) (fun b ob q=>Vr _ q) (Vv _) ?_,rfl,q _ (I4.cW.fresh (Vv _))⟩;refine⟨VX (GG xs hk) hz,_,0,?_,VR _ rfl⟩;unfold gx;rw[show aM.length=xs.length from r.length.symm];exact k9 _ r
end L2
namespace MN
open PySem.Spec L2
open PyProof.Rows hiding St kindOf
def U_(ns:_m):_m:=ns.mergeSort fun a b=>decide (a<=b)
def aal:FN
 |[.loc n],st=>match U9 st n with
  |some aX=>match L0 (aX.map (·.1)) with
   |some ns=>if ns.length<64 then .ok (.loc st.length) (st++[.lst ((U_ ns).map .int)])else .bad
   |none=>.bad
  |none=>.bad
 |_,_=>.bad
def qB(v k:aw)(st:ao):c_ aw:=match v,k with
 |.loc n,.int k=>match aq st n with
  |some us=>if 0<k then .ok (.loc st.length) (st++[.lst (gx us k)])else .bad
  |none=>.bad
 |_,_=>.bad
def il(m mk:ME):ME:=fun μ st=>(m μ st).bind fun v st1=>(mk μ st1).bind fun k st2=>qB v k st2
theorem ni{K:_l}{ρ:_p}{H:Hp}:∀(is:List Nat){us:List aw}{xs:List V},bp K ρ H us xs->bp K ρ H (is.filterMap fun i=>us[i]?) (is.filterMap fun i=>xs[i]?)
 |[],_,_,_=>bp.nil
 |i::is,us,xs,r=>by
  cases z:us[i]? with
  |none=>
   have:xs[i]?=none:=by rw[ZZ]at z⊢;rw[<-r.length];exact z
   rw[XF z,XF this];exact ni is r
  |some x=>
   obtain⟨u,hu,ru⟩:=r.get z;rw[XE z,XE hu];exact bp.cons ru (ni is r)
theorem Ds{es:Expr}(he:PE X e (tE X E m))(hs:PE X es (tE X E mk)):PE X (.Subscript e (.Slice none none (some es) p2) pos) (tE X E (il m mk)):=by
 refine PE.imp (Dr he hs) ?_;rintro σ H Q ⟨μ,ρ,st,rs,sr,h⟩;refine go μ ρ st rs sr h fun u st1 ρ1 H1 x e1 b? r1 h1=>?_;refine go μ ρ1 st1 (rs.mono e1) b? h1 fun k st2 ρ2 H2 z e2 iZ r2 h2=>?_;have U!:=Rl.mono e2 _ _ r1;cases u with
 |loc n=>
  cases k with
  |int k=>
   unfold qB at h2;dsimp only at h2;cases hn:aq st2 n with
   |none=>rw[hn]at h2;exact h2.elim
   |some us=>
    rw[hn]at h2;dsimp only at h2;by_cases hk:0<k
    .rw[Vs hk]at h2;obtain⟨a,rfl,ha⟩:=U!.fD;obtain⟨vs,h3,rv⟩:=bP iZ hn ha;refine⟨a,vs,k,rfl,by rw[r2.c7],hk,h3,fun p hp=>?_⟩;have rr:bp X.K ρ2 H2 (gx us k) (gx vs k):=by unfold gx;rw[show us.length=vs.length from rv.length];exact ni _ rv
     obtain⟨k1,k2,k3⟩:=gH iZ rr hp;exact h2 _ _ _ k1 k2 k3
    .rw[Vx hk]at h2;exact h2.elim
  |_=>exact h2.elim
 |_=>exact h2.elim
end MN
namespace PM
open PySem.Spec L2 MN
open PyProof.Rows hiding St
end PM
namespace L2
open PySem.Spec PyProof.Rows
open PySem.Builtin PySem.Builtin.Str
section
variable{to:TE}
theorem Dt(ho:PE X o to)(he:PE X e te)(hb:attributeBase o "startswith" X.env (eval o X.env)=eval o X.env)(hs:starEach [e] X.env=[(false,eval e X.env)])(hl:(apos.endLine==b8.line)=true):
  PE X (.Call (.Attribute o "startswith" apos) [e] [] b8) (fun σ H Q=>to σ H fun x H1=>∃a,x=.str a/\te σ H1 fun y H2=>∃b,y=.str b/\Q (.bl (Txt.startswith a b)) H2):=by
 intro ai s σ H Q I h;refine Y5 hb hs hl (cR (ho ai s σ H _ I h) fun v s1⟨x,H1,I1,r1,a,e1,q1⟩=>?_);subst e1;obtain⟨t,rfl⟩:=r1;refine SB.startswith (cR (he ai s1 σ H1 _ I1 q1) fun u s2⟨y,H2,I2,r2,b,e2,q2⟩=>?_)
 subst e2;obtain⟨t',rfl⟩:=r2;exact⟨b,t',rfl,.bl _,H2,I2,rfl,q2⟩
theorem vh:∀l:List (Str×Tok),bN ((l.map (·.1)).map V.str) (strValues l)
 |[]=>.nil
 |p::l=>.cons ⟨p.2,rfl⟩ (vh l)
theorem vi:∀{xs:_q}{us:_n},bN (xs.map V.str) us->∃l:List (Str×Tok),l.map (·.1)=xs/\us=strValues l
 |[],us,r=>by cases r;exact⟨[],rfl,rfl⟩
 |x::xs,us,r=>by
  rw[Vp]at r;cases r with
  |cons r1 r2=>
   obtain⟨t,e⟩:=r1;obtain⟨l,h1,h2⟩:=vi r2;exact⟨(x,t)::l,by rw[Vp,h1],by rw[h2,e];rfl⟩
theorem Du(ho:PE X o to)(he:PE X e te)(hb:attributeBase o "split" X.env (eval o X.env)=eval o X.env)(hs:starEach [e] X.env=[(false,eval e X.env)])(hl:(apos.endLine==b8.line)=true):
  PE X (.Call (.Attribute o "split" apos) [e] [] b8) (fun σ H Q=>to σ H fun x H1=>∃a,x=.str a/\a.length<=sizeLine/\te σ H1 fun y H2=>∃b,y=.str b/\(b.length==0)=false/\(partsBetween a (occurrences a b 0 a.length (a.length+1)) b.length).length<=sizeLine/\(Txt.split a b).length<=sizeLine /\
   ∀p,H2 p=none->Q (.ref p) (upd H2 p (.lst ((Txt.split a b).map V.str)))):=by
 intro ai s σ H Q I h;refine Y5 hb hs hl (cR (ho ai s σ H _ I h) fun v s1⟨x,H1,I1,r1,a,e1,ha,q1⟩=>?_);subst e1;obtain⟨t,rfl⟩:=r1;have key:∀(u:_r)(s2:_s),EP X ai σ (fun y H2=>∃b,y=.str b/\(b.length==0)=false/\(partsBetween a (occurrences a b 0 a.length (a.length+1)) b.length).length<=sizeLine/\(Txt.split a b).length<=sizeLine/\∀p,H2 p=none->Q (.ref p) (upd H2 p (.lst ((Txt.split a b).map V.str)))) u s2->∃y u',u=.str y u'/\(y.length==0)=false/\(partsBetween a (occurrences a y 0 a.length (a.length+1)) y.length).length<=sizeLine/\∀(l:List (Str×Tok))(k:Nat),l.map (·.1)=Txt.split a y->EP X ai σ Q (.ref s2.heap.objs.size) {s2 with heap:=s2.heap.push (seqObj "list" (strValues l).toArray 0),toks:=k}:=by rintro u s2 ⟨y,H2,I2,r2,b,e2,h0,hn,hz,q2⟩;subst e2;obtain⟨t',rfl⟩:=r2;refine⟨b,t',rfl,h0,hn,fun l k hk=>?_⟩;refine⟨.ref _,_,I2.laid (t':=k) (o:=.lst ((Txt.split a b).map V.str)) (fun b ob q=>Vr _ q) (Vv _) ?_,rfl,q2 _ (I2.cW.fresh (Vv _))⟩;refine⟨by rw[Vt];exact hz,_,0,?_,VR _ rfl⟩;rw[<-hk];exact vh l
 refine⟨"str",_,F.plainAttrs_str,F.slot_str_split,F.type_str_split,YM _ _ _,(fun _ e=>nomatch e),?_⟩;refine method1_meets F.slot_str_split F.entry_str_split (cR (he ai s1 σ H1 _ I1 q1) fun v s₁ h₁=>?_);obtain⟨y,u,rfl,hy,hn,hq⟩:=key v s₁ h₁;refine⟨YM _ _ _,F.args_str_split_2 _ _,?_⟩;cases h1:(decide (a.length<y.length) || decide (strKind a<strKind y))
 .cases hf:(occurrences a y 0 a.length (a.length+1)).isEmpty
  .refine⟨_,meets_str_split_sep a y t u h1 hy hf ha hn,?_⟩;show wants _ _ _ {s₁ with toks:=_,heap:=s₁.heap.push {cls:=.type "list",data:=.seq (strsFrom s₁.toks (partsBetween a (occurrences a y 0 a.length (a.length+1)) y.length)).toArray} };rw[strsFrom_eq];exact hq (numbered s₁.toks _) _ ((numbered_texts _ _).trans ((Vx (Yl h1)).trans (Vx (Yl hf))).symm)
  .exact⟨_,meets_str_split_not_found a y t u h1 hy hf,hq [(a,t)] s₁.toks ((Vx (Yl h1)).trans (Vs hf)).symm⟩
 .exact⟨_,meets_str_split_cannot_occur a y t u h1,hq [(a,t)] s₁.toks (Vs h1).symm⟩
theorem GH(ho:PE X o to)(he:PE X e te)(hb:attributeBase o "join" X.env (eval o X.env)=eval o X.env)(hs:starEach [e] X.env=[(false,eval e X.env)])(hl:(apos.endLine==b8.line)=true):
  PE X (.Call (.Attribute o "join" apos) [e] [] b8) (fun σ H Q=>to σ H fun x H1=>∃a,x=.str a/\te σ H1 fun y H2=>∃p xs,y=.ref p/\lY X.K H2 p (xs.map V.str)/\JoinOk a xs=true/\Q (.str (Txt.join a xs)) H2):=by
 intro ai s σ H Q I h;refine Y5 hb hs hl (cR (ho ai s σ H _ I h) fun v s1⟨x,H1,I1,r1,a,e1,q1⟩=>?_);subst e1;obtain⟨t,rfl⟩:=r1;refine SB.join (cR (he ai s1 σ H1 _ I1 q1) fun u s2⟨y,H2,I2,r2,p,xs,e2,hx,hj,q2⟩=>?_);subst e2;cases r2;obtain⟨aM,r,ht,hz⟩:=I2.list hx;obtain⟨l,h1,rfl⟩:=vi r;exact⟨p,l,rfl,ht.isList,xs,h1,hj,fun t' k=>⟨.str _,H2,I2.tok _,⟨_,rfl⟩,q2⟩⟩
theorem OR:IZ X (fun x lo hi H Q=>∃z,x=.str z/\z.length<=sizeLine/\Q (.str (Txt.slice z lo hi)) H):=by
 intro ai s σ H x v vl vu lo hi sl Q I rx hs pl pu q;obtain⟨z,rfl,hz,q⟩:=q;obtain⟨t,rfl⟩:=rx;have fin:∀(l u:Option (Int×Tok)),s.heap.IsSliceOf sl (partValue l) (partValue u) Value.none->(sliceMade z t l u none).post (EP X ai σ Q) s->∃T id,typeLookup (.type T) "__getitem__" = pure (some (.builtin id))/\s.TypeIs (.str z t) T/\wpAny (model X.prog X.w) X.A (getItem (.str z t) (.ref sl)) (EP X ai σ Q) X.xe s:=fun l u hs hp=>
  ⟨"str",_,F.slot_str_getitem.lookup,YM _ _ _,wpAny_getItem_str_slice (l:=l) (u:=u) (st:=none) hs rfl hp⟩
 cases pl with
 |none=>
  cases pu with
  |none=>exact fin none none hs (Yp ⟨VX (Xe z _ _) hz,fun t' k=>⟨.str _,H,I.tok _,⟨_,rfl⟩,q⟩⟩)
  |int j tj=>exact fin none (some (j,tj)) hs (Yp ⟨VX (Xe z _ _) hz,fun t' k=>⟨.str _,H,I.tok _,⟨_,rfl⟩,q⟩⟩)
 |int i ti=>
  cases pu with
  |none=>exact fin (some (i,ti)) none hs (Yp ⟨VX (Xe z _ _) hz,fun t' k=>⟨.str _,H,I.tok _,⟨_,rfl⟩,q⟩⟩)
  |int j tj=>exact fin (some (i,ti)) (some (j,tj)) hs (Yp ⟨VX (Xe z _ _) hz,fun t' k=>⟨.str _,H,I.tok _,⟨_,rfl⟩,q⟩⟩)
end
end L2
namespace L2
open PySem.Spec PyProof.Rows
def Kt(x:Str):_q:=x.cps.toList.map fun c=>(⟨#[c]⟩:Str)
def Itx(x:Str):It:=⟨fun i _=>i<x.length,fun i H v H'=>H'=H/\∃c,x.cps[i]?=some c/\v=.str ⟨#[c]⟩,fun i _=>x.length<=i⟩
theorem Dv(it:_t)(x:Str)(t:Tok):Turn P w K tg (Itx x) [it] it (fun i h=>h.IsStrIter it "str_ascii_iterator" x t i) where
 mem:=by simp
 obj:=fun i h st b hb=>by
  have e:b=it:=by simpa using hb
  subst e;obtain⟨o,e,c,d⟩:=st;exact⟨o,e,fun v z=>by rw[d]at z;cases z⟩
 keep:=fun i h h' st k=>by obtain⟨o,e,c,d⟩:=st;exact⟨o,k it (by simp) o e,c,d⟩
 item:=by intro X hP hw hK hc i ai s σ H E I hf st hg;subst hP hw hK;obtain⟨f0,f1,f2,f3,f4,f5⟩:=hf it (by simp);have iR:i<x.cps.size:=hg;refine wpAny_pyNext_ascii_item st (c:=x.cps[i]) (by simp[iR]) fun h' aF sb=>?_;have I1:aV X ai σ H {s with heap:=h',toks:=s.toks+1}:=I.turned (t':=s.toks+1) (fun b o hb e=>(sb.2 b hb).trans e) f0 f1 f3 f4 f5;obtain⟨o,e,c,d⟩:=id aF;exact⟨_,rfl,Bj (s:={s with heap:=h',toks:=s.toks+1}) e c d (by decide) ⟨.str ⟨#[x.cps[i]]⟩,H,I1,⟨_,rfl⟩,⟨rfl,_,by simp[iR],rfl⟩,aF,fun b hb=>(hf b hb).1⟩⟩
 done:=by intro X hP hw hK hc i ai s σ H E I hf st hg;subst hP hw hK;obtain⟨f0,f1,f2,f3,f4,f5⟩:=hf it (by simp);have iR:x.cps.size<=i:=hg;exact wpAny_pyNext_ascii_end (I.ok.hd hc) st (by simp[iR]) fun h' eb=>⟨rfl,I.turned (t':=s.toks) (fun b o hb e=>eb b o hb e) f0 f1 f3 f4 f5⟩
 self:=fun _ _ _ _ _ st h=>wpAny_pyIter_striter_ascii st h
theorem Ku{l:Expr}(hl:PE X l tl):PI X tg l (fun σ H R=>tl σ H fun v H1=>∃x,v=.str x/\x.cps.all (· < 128)=true/\R (Itx x) H1):=by
 intro ai s σ H R I h;refine cR (hl ai s σ H _ I h) fun v s1⟨y,H1,I1,r1,q1⟩=>?_;obtain⟨x,e,ha,q⟩:=q1;subst e;obtain⟨t,rfl⟩:=r1;refine wpAny_pyIter_ascii ha ?_;refine⟨s1.heap.objs.size,[s1.heap.objs.size],_,_,H1,rfl,I1.kept (t':=s1.toks) fun b o e=>Vr _ e,Dv _ x t,⟨_,VR _ rfl,rfl,rfl⟩,fun b hb=>?_,q⟩;have e:b=s1.heap.objs.size:=by simpa using hb
 subst e;exact I1.CG (Vv _) (I1.cW.fresh (Vv _))
end L2
namespace MN
open PySem.Spec L2
open PyProof.Rows hiding St kindOf
def Tf:F2
 |.str a,.str b,st=>.ok (.bl (Txt.startswith a b)) st
 |_,_,_=>.bad
def asS:aw->Option Str
 |.str a=>some a
 |_=>none
def pZ(m:ME)(k:Str->Env->ao->c_ aw):ME:=fun μ st=>(m μ st).bind fun v st1=>match v with
 |.str a=>k a μ st1
 |_=>.bad
def jb(mo me:ME):ME:=pZ mo fun a μ st=>(me μ st).bind fun v st2=>match v with
 |.str b=>.ok (.bl (Txt.startswith a b)) st2
 |_=>.bad
def eI(mo me:ME):ME:=pZ mo fun a μ st=>if a.length<=sizeLine then(me μ st).bind fun v st2=>match v with
 |.str b=>if(b.length==0)=false/\(Builtin.Str.partsBetween a (Builtin.Str.occurrences a b 0 a.length (a.length+1)) b.length).length<=sizeLine/\(Txt.split a b).length<=sizeLine then .ok (.loc st2.length) (st2++[.lst ((Txt.split a b).map .str)])else .bad
 |_=>.bad else .bad
def strsOf:List aw->Option (_q)
 |[]=>some []
 |.str a::r=>(strsOf r).map (a :: ·)
 |_::_=>none
theorem si:∀{us:List aw}{xs:_q},strsOf us=some xs->us=xs.map .str
 |[],xs,h=>by cases h;rfl
 |u::us,xs,h=>by
  cases u with
  |str a=>
   unfold strsOf at h;cases e:strsOf us with
   |none=>rw[e]at h;cases h
   |some r=>
    rw[e]at h;cases h;rw[Vp,si e]
  |_=>cases h
theorem Dw(xs:_q):strsOf (xs.map .str)=some xs:=by
 induction xs with
 |nil=>rfl
 |cons x xs ih=>rw[Vp];unfold strsOf;rw[ih];rfl
def fX(mo me:ME):ME:=pZ mo fun a μ st=>(me μ st).bind fun v st2=>match v with
 |.loc n=>match aq st2 n with
  |some us=>match strsOf us with
   |some xs=>if JoinOk a xs=true then .ok (.str (Txt.join a xs)) st2 else .bad
   |none=>.bad
  |none=>.bad
 |_=>.bad
def cJ(m:ME)(lo hi:MO):ME:=pZ m fun z μ st=>(lo μ st).bind fun l st2=>(hi μ st2).bind fun h jv=>if z.length<=sizeLine then .ok (.str (Txt.slice z l h)) jv else .bad
def jz(m:ME):MI:=fun μ st=>(m μ st).bind fun v aF=>match v with
 |.str x=>if x.cps.all (· < 128)=true then .ok ((Kt x).map .str,fun _=>True) aF else .bad
 |_=>.bad
def R4:F2
 |.str i,.str j,st=>.ok (.bl (!(Builtin.Str.occurrences j i 0 j.length 1).isEmpty)) st
 |_,_,_=>.bad
def iG:FN
 |[.int i],st=>if i.natAbs.log2<1920 then .ok (.str (toString i)) st else .bad
 |_,_=>.bad
def El:F2
 |.mt us,.int i,st=>match pF us i with
  |some v=>.ok v st
  |none=>.bad
 |_,_,_=>.bad
theorem bp.B0:∀{xs:_q}{vs:List V},bp K ρ H (xs.map .str) vs->vs=xs.map V.str
 |[],vs,h=>h.fV
 |x::xs,vs,h=>by obtain⟨v,r,rfl,h2,h3⟩:=bp.cS h;rw[Vp,h2.fN,bp.B0 h3]
theorem bp.strs:∀xs:_q,bp K ρ H (xs.map .str) (xs.map V.str)
 |[]=>bp.nil
 |x::xs=>bp.cons (Rl.mkStr x) (bp.strs xs)
section
variable{i:Expr}{mi:ME}
theorem Dx(ho:PE X o (tE X E mo))(he:PE X e (tE X E me))(hb:attributeBase o "startswith" X.env (eval o X.env)=eval o X.env:=by rfl)(hs:starEach [e] X.env=[(false,eval e X.env)]:=by rfl)(hl:(apos.endLine==b8.line)=true:=by rfl):
  PE X (.Call (.Attribute o "startswith" apos) [e] [] b8) (tE X E (jb mo me)):=by
 refine PE.imp (Dt ho he hb hs hl) ?_;rintro σ H Q ⟨μ,ρ,st,rs,sr,h⟩;refine go μ ρ st rs sr h fun u st1 ρ1 H1 x e1 b? r1 h1=>?_;cases u with
 |str a=>
  refine⟨a,r1.fN,?_⟩;refine go μ ρ1 st1 (rs.mono e1) b? h1 fun v st2 ρ2 H2 y e2 iZ r2 h2=>?_;cases v with
  |str b=>exact⟨b,r2.fN,e_ iZ h2⟩
  |_=>exact h2.elim
 |_=>exact h1.elim
theorem Dy(ho:PE X o (tE X E mo))(he:PE X e (tE X E me))(hb:attributeBase o "split" X.env (eval o X.env)=eval o X.env:=by rfl)(hs:starEach [e] X.env=[(false,eval e X.env)]:=by rfl)(hl:(apos.endLine==b8.line)=true:=by rfl):
  PE X (.Call (.Attribute o "split" apos) [e] [] b8) (tE X E (eI mo me)):=by
 refine PE.imp (Du ho he hb hs hl) ?_;rintro σ H Q ⟨μ,ρ,st,rs,sr,h⟩;refine go μ ρ st rs sr h fun u st1 ρ1 H1 x e1 b? r1 h1=>?_;cases u with
 |str a=>
  dsimp only at h1;split at h1
  .rename_i ha;refine⟨a,r1.fN,ha,?_⟩;refine go μ ρ1 st1 (rs.mono e1) b? h1 fun v st2 ρ2 H2 y e2 iZ r2 h2=>?_;cases v with
   |str b=>
    dsimp only at h2;split at h2
    .rename_i hz;refine⟨b,r2.fN,hz.1,hz.2.1,hz.2.2,fun p hp=>?_⟩;obtain⟨k1,k2,k3⟩:=gH iZ (bp.strs (Txt.split a b)) hp;exact h2 _ _ _ k1 k2 k3
    .exact h2.elim
   |_=>exact h2.elim
  .exact h1.elim
 |_=>exact h1.elim
theorem GI(ho:PE X o (tE X E mo))(he:PE X e (tE X E me))(hb:attributeBase o "join" X.env (eval o X.env)=eval o X.env:=by rfl)(hs:starEach [e] X.env=[(false,eval e X.env)]:=by rfl)(hl:(apos.endLine==b8.line)=true:=by rfl):
  PE X (.Call (.Attribute o "join" apos) [e] [] b8) (tE X E (fX mo me)):=by
 refine PE.imp (GH ho he hb hs hl) ?_;rintro σ H Q ⟨μ,ρ,st,rs,sr,h⟩;refine go μ ρ st rs sr h fun u st1 ρ1 H1 x e1 b? r1 h1=>?_;cases u with
 |str a=>
  refine⟨a,r1.fN,?_⟩;refine go μ ρ1 st1 (rs.mono e1) b? h1 fun v st2 ρ2 H2 y e2 iZ r2 h2=>?_;cases v with
  |loc n=>
   dsimp only at h2;cases z:aq st2 n with
   |none=>rw[z]at h2;exact h2.elim
   |some us=>
    rw[z]at h2;dsimp only at h2;cases q:strsOf us with
    |none=>rw[q]at h2;exact h2.elim
    |some xs=>
     rw[q]at h2;dsimp only at h2;split at h2
     .rename_i hj;obtain⟨b,rfl,hb⟩:=r2.fD;obtain⟨vs,hv,rv⟩:=bP iZ z hb;rw[si q]at rv;rw[bp.B0 rv]at hv;exact⟨b,xs,rfl,hv,hj,h2 ρ2 H2 _ (aK.refl _ _) iZ (Rl.mkStr _)⟩
     .exact h2.elim
  |_=>exact h2.elim
 |_=>exact h1.elim
theorem OS{hi:Option Expr}{ml mh:MO}(he:PE X e (tE X E me))(hl:PO X lo (PN X E ml))(hh:PO X hi (PN X E mh)):PE X (.Subscript e (.Slice lo hi none p2) pos) (tE X E (cJ me ml mh)):=by
 refine PE.imp (xC OR he hl hh) ?_;rintro σ H Q ⟨μ,ρ,st,rs,sr,h⟩;refine go μ ρ st rs sr h fun u st1 ρ1 H1 x e1 b? r1 h1=>?_;cases u with
 |str z=>
  refine go (R1:=RO) μ ρ1 st1 (rs.mono e1) b? h1 fun l st2 ρ2 H2 l' e2 iZ r2 h2=>?_;cases r2;refine go (R1:=RO) μ ρ2 st2 ((rs.mono e1).mono e2) iZ h2 fun k jv ρ3 H3 k' e3 pY r3 h3=>?_;cases r3;split at h3
  .rename_i hz;exact⟨z,r1.fN,hz,h3 ρ3 H3 _ (aK.refl _ _) pY (Rl.mkStr _)⟩
  .exact h3.elim
 |_=>exact h1.elim
theorem Kv{l:Expr}(hl:PE X l (tE X E m)):PI X tg l (tI X E (jz m)):=by
 refine PI.imp (Ku hl) ?_;rintro σ H R ⟨μ,ρ,st,rs,sr,h⟩;refine go μ ρ st rs sr h fun u st1 ρ1 H1 x e1 b? r1 h1=>?_;cases u with
 |str x=>
  dsimp only at h1;split at h1
  .rename_i ha;refine⟨x,r1.fN,ha,h1 ρ1 H1 _ (aK.refl _ _) b? ?_⟩;intro ρ' aF H' e s g i;have hl:((Kt x).map aw.str).length=x.length:=by unfold Kt;rw[Vt,Vt,V5];rfl
   refine⟨fun u hu=>?_,fun hi=>by rw[hl]at hi;exact hi⟩;have lt:i<x.length:=by have:=gG hu;rw[hl]at this;exact this
   refine⟨lt,?_⟩;rintro v H2 ⟨rfl,c,hc,rfl⟩;have:u=.str ⟨#[c]⟩:=by unfold Kt at hu;rw[VV,VV,YA,hc]at hu;cases hu;rfl
   subst this;exact⟨aK.refl _ _,s,Rl.mkStr _⟩
  .exact h1.elim
 |_=>exact h1.elim
theorem GJ:ej X (compareOp .In) (rM (wo X) E R4):=by
 refine ej.imp CL ?_;rintro x y H Q ⟨ρ,st,u,w,sr,r1,r2,h⟩;cases u with
 |str a=>
  cases w with
  |str b=>exact⟨a,b,r1.fN,r2.fN,e_ sr h⟩
  |_=>exact h.elim
 |_=>exact h.elim
theorem DA:c6 X (.type "str") (cM (wo X) E iG):=by
 refine c6.imp vI ?_;rintro xs H Q ⟨ρ,st,us,sr,r,h⟩;unfold iG at h;split at h
 .rename_i i;obtain⟨v,rfl,r1⟩:=r.By;split at h
  .rename_i hi;exact⟨i,by rw[r1.c7],hi,h ρ H _ (aK.refl _ _) sr (Rl.mkStr _)⟩
  .exact h.elim
 .exact h.elim
end
end MN
namespace L2
open PySem.Spec PyProof.Rows
theorem OT{a b:Expr}{ta tb:TE}{k:Str}{j:Nat}{p1 p3:Pos}(ha:PE X a ta)(hb:PE X b tb):
  PE X (.JoinedStr [.FormattedValue a (-1) none p1,.Constant (.str k) j p2,.FormattedValue b (-1) none p3] pos)
   (fun σ H Q=>ta σ H fun x H1=>∃z,x=.str z/\z.length<=sizeLine/\(z++k).length<=sizeLine/\tb σ H1 fun y H2=>∃i:Int,y=.int i/\i.natAbs.log2<1920/\(z++k++(toString i:Str)).length<=sizeLine/\Q (.str (z++k++(toString i:Str))) H2):=by
 intro ai s σ H Q I h;refine JoinedStr_many (joinParts_cons (FormattedValue_plain (cR (ha ai s σ H _ I h) fun v s1⟨x,H1,I1,r1,z,e1,hz,hzk,q1⟩=>?_)));subst e1;obtain⟨t,rfl⟩:=r1;refine SB.field_str (fun t' tk=>?_) hz;have e0:Str.empty++z=z:=Str.append_left_empty rfl;dsimp only;rw[e0];refine⟨hz,joinParts_cons (Calls.Constant_str ⟨hzk,joinParts_cons (FormattedValue_plain (cR (hb ai _ σ H1 _ (I1.tok _) q1) fun u s2⟨y,H2,I2,r2,i,e2,hi,hl,q2⟩=>?_))⟩)⟩;subst e2;obtain⟨t2,rfl⟩:=r2;refine formatField_int_small hi ?_;exact⟨hl,joinParts_nil ⟨.str _,H2,I2.tok _,⟨_,rfl⟩,q2⟩ hl⟩
def f?(xs:List α)(i k:Int):List α:=(sliceRange (max 0 (min i (xs.length:Int))) xs.length k).filterMap fun i=>xs[i]?
theorem yo(xs:List α)(i:Int){k:Int}(hk:0<k):(f? xs i k).length<=xs.length:=by unfold f?;refine VX (Ys _ _) ?_;have:=sliceRange_len_le (max 0 (min i (xs.length:Int))) (xs.length:Int) k (by lia);rw[Vs hk]at this;lia
theorem As{el es:Expr}{ts:TE}(he:PE X e te)(hl:PE X el tl)(hs:PE X es ts):
  PE X (.Subscript e (.Slice (some el) none (some es) p2) pos) (fun σ H Q=>te σ H fun x H1=>tl σ H1 fun z H2=>ts σ H2 fun y H3=>∃a xs i k,x=.ref a/\z=.int i/\y=.int k/\0<=i/\0<k/\lY X.K H3 a xs/\∀p,H3 p=none->Q (.ref p) (upd H3 p (.lst (f? xs i k)))):=by
 intro ai s σ H Q I h;refine Zt (cR (he ai s σ H _ I h) fun v s1⟨x,H1,I1,r1,q1⟩=>?_);refine wpAny_Slice ?_;rw[YK];refine cR (hl ai s1 σ H1 _ I1 q1) fun v2 s2⟨z,H2,I2,r2,q2⟩=>?_;rw[YL];refine VB ?_;rw[YK];refine cR (hs ai s2 σ H2 _ I2 q2) fun v3 s3⟨y,H3,I3,r3,a,xs,i,k,e1,e2,e3,hi,hk,hx,q⟩=>?_;subst e1 e2 e3;cases r1;obtain⟨ti,rfl⟩:=r2;obtain⟨tk,rfl⟩:=r3;have I4:aV X ai σ H3 {s3 with heap:=s3.heap.push {cls:=.type "slice",data:=.fields #[.int i ti,.none,.int k tk]} }:=I3.kept (t':=s3.toks) fun b ob q=>Vr _ q;show wpAny (model X.prog X.w) X.A (subscriptTail e (.Slice (some el) none (some es) p2) (.ref a) (.ref s3.heap.objs.size)) (EP X ai σ Q) X.xe {s3 with heap:=s3.heap.push {cls:=.type "slice",data:=.fields #[.int i ti,.none,.int k tk]} };obtain⟨aM,r,ht,hz⟩:=I4.list hx;have hlen:aM.toArray.size=xs.length:=by rw[VM];exact r.length.symm
 refine tail_any (ops:=[.ref a,.ref s3.heap.objs.size]) ht.isList.typeIs Yd.lookup ?_ (by with_unfolding_all rfl);refine Yg ht.isList (YV ..) (.int i ti) .none (.int k tk) (by intro z;injection z with z;lia) ?_ (by rw[hlen];exact hz);have ep:slicePick aM.toArray (some i) none (some k)=(f? aM i k).toArray:=by
  have b1:(sliceBounds (some i) none (some k) aM.toArray.size).1=max 0 (min i (aM.length:Int)):=by show(if k>0 then max 0 (min (if i<0 then i+((aM.toArray.size:Nat):Int)else i) ((aM.toArray.size:Nat):Int))else _)=_;rw[Vs hk,Vx (by lia),VM]
  have b2:(sliceBounds (some i) none (some k) aM.toArray.size).2.1=(aM.length:Int):=by show(if k>0 then((aM.toArray.size:Nat):Int)else _)=_;rw[Vs hk,VM]
  have b3:(sliceBounds (some i) none (some k) aM.toArray.size).2.2=k:=rfl;unfold slicePick f?;rw[b1,b2,b3];simp only[XN]
 rw[ep];refine⟨.ref _,_,I4.laid (t':=s3.toks) (o:=.lst (f? xs i k)) (fun b ob q=>Vr _ q) (Vv _) ?_,rfl,q _ (I4.cW.fresh (Vv _))⟩;refine⟨VX (yo xs i hk) hz,_,0,?_,VR _ rfl⟩;unfold f?;rw[show aM.length=xs.length from r.length.symm];exact k9 _ r
end L2
namespace MN
open PySem.Spec L2
open PyProof.Rows hiding St kindOf
def nj(v l k:aw)(st:ao):c_ aw:=match v,l,k with
 |.loc n,.int i,.int k=>match aq st n with
  |some us=>if 0<=i/\0<k then .ok (.loc st.length) (st++[.lst (f? us i k)])else .bad
  |none=>.bad
 |_,_,_=>.bad
def fY(m ml mk:ME):ME:=fun μ st=>(m μ st).bind fun v st1=>(ml μ st1).bind fun l st2=>(mk μ st2).bind fun k jv=>nj v l k jv
def DB(k:Str)(z:Str)(i:Int):Str:=z++k++(toString i:Str)
def Au(k:Str)(ma mb:ME):ME:=pZ ma fun z μ st=>if z.length<=sizeLine/\(z++k).length<=sizeLine then(mb μ st).bind fun v st2=>match v with
 |.int i=>if i.natAbs.log2<1920/\(DB k z i).length<=sizeLine then .ok (.str (DB k z i)) st2 else .bad
 |_=>.bad else .bad
section
variable{el es a b:Expr}{ml:ME}{p1 p3:Pos}
theorem Av(he:PE X e (tE X E m))(hl:PE X el (tE X E ml))(hs:PE X es (tE X E mk)):PE X (.Subscript e (.Slice (some el) none (some es) p2) pos) (tE X E (fY m ml mk)):=by
 refine PE.imp (As he hl hs) ?_;rintro σ H Q ⟨μ,ρ,st,rs,sr,h⟩;refine go μ ρ st rs sr h fun u st1 ρ1 H1 x e1 b? r1 h1=>?_;refine go μ ρ1 st1 (rs.mono e1) b? h1 fun l st2 ρ2 H2 y e2 iZ r2 h2=>?_;refine go μ ρ2 st2 ((rs.mono e1).mono e2) iZ h2 fun k jv ρ3 H3 z e3 pY r3 h3=>?_;have U!:=Rl.mono e3 _ _ (Rl.mono e2 _ _ r1);have r2':=Rl.mono e3 _ _ r2;cases u with
 |loc n=>
  cases l with
  |int i=>
   cases k with
   |int k=>
    unfold nj at h3;dsimp only at h3;cases hn:aq jv n with
    |none=>rw[hn]at h3;exact h3.elim
    |some us=>
     rw[hn]at h3;dsimp only at h3;split at h3
     .rename_i hk;obtain⟨a,rfl,ha⟩:=U!.fD;obtain⟨vs,h4,rv⟩:=bP pY hn ha;refine⟨a,vs,i,k,rfl,r2'.c7,r3.c7,hk.1,hk.2,h4,fun p hp=>?_⟩;have rr:bp X.K ρ3 H3 (f? us i k) (f? vs i k):=by unfold f?;rw[show us.length=vs.length from rv.length];exact ni _ rv
      obtain⟨k1,k2,k3⟩:=gH pY rr hp;exact h3 _ _ _ k1 k2 k3
     .exact h3.elim
   |_=>exact h3.elim
  |_=>exact h3.elim
 |_=>exact h3.elim
theorem R5:xp X (rM (wo X) E El):=by
 refine xp.imp L2.vO ?_;rintro x y H Q ⟨ρ,st,u,w,sr,r1,r2,h⟩;cases u<;>cases w<;>try exact h.elim
 case mt.int us i=>
  unfold El at h;dsimp only at h;split at h
  .rename_i v e;obtain⟨a,vs,rfl,ha,ra⟩:=r1.US;obtain⟨z,h1,h2⟩:=ra.pF e;exact⟨a,vs,i,z,rfl,r2.c7,ha,h1,h ρ H z (aK.refl _ _) sr h2⟩
  .exact h.elim
theorem OU{k:Str}{j:Nat}(ha:PE X a (tE X E ma))(hb:PE X b (tE X E mb)):PE X (.JoinedStr [.FormattedValue a (-1) none p1,.Constant (.str k) j p2,.FormattedValue b (-1) none p3] pos) (tE X E (Au k ma mb)):=by
 refine PE.imp (OT ha hb) ?_;rintro σ H Q ⟨μ,ρ,st,rs,sr,h⟩;refine go μ ρ st rs sr h fun u st1 ρ1 H1 x e1 b? r1 h1=>?_;cases u with
 |str z=>
  dsimp only at h1;split at h1
  .rename_i hz;refine⟨z,r1.fN,hz.1,hz.2,?_⟩;refine go μ ρ1 st1 (rs.mono e1) b? h1 fun v st2 ρ2 H2 y e2 iZ r2 h2=>?_;cases v with
   |int i=>
    dsimp only at h2;split at h2
    .rename_i hi;exact⟨i,r2.c7,hi.1,hi.2,h2 ρ2 H2 _ (aK.refl _ _) iZ (Rl.mkStr _)⟩
    .exact h2.elim
   |_=>exact h2.elim
  .exact h1.elim
 |_=>exact h1.elim
end
end MN
namespace L2
open PySem.Spec PyProof.Rows
end L2
namespace MN
open PySem.Spec L2
open PyProof.Rows hiding St kindOf
def noX(μ:Env):Bool:=μ.all fun o=>match o with
 |some v => !Fh v
 |none=>true
def letGo(i:Nat):cD->cD
 |.rt v st=>.rt v st
 |.nx μ st=>if noX (μ.set i none)=true then .nx (μ.set i none) st else .bad
 |_=>.bad
end MN
namespace L2
open PySem.Spec PyProof.Rows
section
variable{z:_s}
theorem yp{t:_t}{x:_r}{R:_i}(ha:z.heap.IsTupleIter a t i)(ht:z.heap.IsTuple t xs)(hx:xs[i]?=some x)(k:∀y,y.IsTupleIter a t (i+1)->Heap.SameBut a z.heap y->R x {z with heap:=y}):wpAny (model pg w) B (Builtin.SmallTypes.nextOf (.ref a)) R EE z:=by obtain⟨q,e1,e2,e3⟩:=id ha;obtain⟨r,f1,_,nn,f2⟩:=ht;unfold Builtin.SmallTypes.nextOf;refine Vn (Wk (name:=Str.ofString "__next__") ha.typeIs Wl (WI Wl ha.typeIs Xl ?_ (Xh _)));show wpAny _ _ (field (.ref a) 0 >>= _) _ _ z;refine Vn (Wi e1 e3 (x:=.ref t) rfl ?_);show wpAny _ _ (if(Value.ref t==Value.none)=true then _ else _) _ _ z;rw[Vx (show ¬ ((Value.ref t==Value.none)=true)from nofun)];show wpAny _ _ (field (.ref a) 1 >>= _) _ _ z;refine Vn (Wi e1 e3 (x:=.int i 0) rfl ?_);show wpAny _ _ (seqItems? (.ref t) >>= _) _ _ z;refine Vn (WV f1 f2 ?_);simp only[WS,hx];refine Vn (Xm e1 e3 (by simp) (VB ⟨x,rfl,VB (k _ ?_ (Xa ..))⟩));exact⟨_,Xk _ e1 (XM (W7 e3 _)),(YY ..).trans e2,by rw[W7 e3];simp[rawInt]⟩
theorem sj{t:_t}{R:_i}(hB:B.handled=none)(ha:z.heap.IsTupleIter a t i)(ht:z.heap.IsTuple t xs)(hx:xs[i]?=none)(k:∀y e,Heap.ExtBut a z.heap y->(∃o,y.get? e=some o/\o.cls=.type "StopIteration")->EE (.ref e) {z with heap:=y}):wpAny (model pg w) B (Builtin.SmallTypes.nextOf (.ref a)) R EE z:=by
 obtain⟨q,e1,e2,e3⟩:=id ha;obtain⟨r,f1,_,nn,f2⟩:=ht;unfold Builtin.SmallTypes.nextOf;refine Vn (Wk (name:=Str.ofString "__next__") ha.typeIs Wl (WI Wl ha.typeIs Xl ?_ (Xh _)));show wpAny _ _ (field (.ref a) 0 >>= _) _ _ z;refine Vn (Wi e1 e3 (x:=.ref t) rfl ?_);show wpAny _ _ (if(Value.ref t==Value.none)=true then _ else _) _ _ z;rw[Vx (show ¬ ((Value.ref t==Value.none)=true)from nofun)];show wpAny _ _ (field (.ref a) 1 >>= _) _ _ z;refine Vn (Wi e1 e3 (x:=.int i 0) rfl ?_);show wpAny _ _ (seqItems? (.ref t) >>= _) _ _ z;refine Vn (WV f1 f2 ?_);simp only[WS,hx];refine Vn (X3 (Vn (Xm e1 e3 (by simp) ?_)));refine Vn (m:=newExc (.type "StopIteration") []) ?_;simp only[newExc,newTuple];refine Vn (Wt (Vn (m:=firstArgMember _ _) (Zd (a:=Value.none) (by first|rfl|(simp only[firstArgMember];rfl)) ?_)) (by size_fits));refine Wt ?_ (by size_fits);simp only[raiseNew];refine Vn (ZG ?_)
 first|rw[show B.in1.handled=none from hB]|rw[hB]
 exact Vn (VB (Zc (k _ _ (((Xa ..).extBut.push _).push _) ⟨_,VR _ rfl,rfl⟩)))
end
theorem OV(hB:B.handled=none)(it l:_t)(ne:l≠it)(xs:Array _r):Draws pg w B it [it,l] xs.size (fun i v=>xs[i]?=some v) (fun i h=>h.IsTupleIter it l i/\h.IsTuple l xs) where
 live:=fun _ _ st=>let⟨o,ho,_⟩:=st.1;⟨o,ho⟩
 frame:=fun _ _ _ st hk=>⟨st.1.at fun o e=>hk it (by simp) o e,let⟨o,e,r⟩:=st.2;⟨o,hk l (by simp) o e,r⟩⟩
 item:=fun i s Q E hi st hQ=>yp st.1 st.2 (x:=xs[i]) (by simp[hi]) fun y h1 h2=>hQ _ y s.toks (by simp[hi]) ⟨h1,st.2.extBut h2.extBut ne⟩ h2
 done:=fun s Q E st hE=>sj hB st.1 st.2 (by simp) hE
theorem OW(hB:B.handled=none)(it l:_t)(xs:Array _r)(i:Nat)(hx:xs.size<=i):Draws pg w B it [it,l] i (fun _ _=>True) (fun j h=>j=i/\h.IsTupleIter it l j/\h.IsTuple l xs) where
 live:=fun _ _ st=>let⟨o,ho,_⟩:=st.2.1;⟨o,ho⟩
 frame:=fun _ _ _ st hk=>⟨st.1,st.2.1.at fun o e=>hk it (by simp) o e,let⟨o,e,r⟩:=st.2.2;⟨o,hk l (by simp) o e,r⟩⟩
 item:=fun j s Q E hj st hQ=>absurd st.1 (by lia)
 done:=fun s Q E st hE=>sj hB st.2.1 st.2.2 (by simp[hx]) hE
section
variable{z:_s}
open AutoSeq1 (wpAny_loadPart') in
theorem DC(l:_t)(xs:Array _r)(n:Nat)(U?:Option _t)(sl:Array (_o)):
  Meets (Builtin.«enumerate.__new__» ⟨[.type "enumerate",.ref l],[]⟩) (fun _ R s=>s.heap.get? l=some {cls:=.type "tuple",dict:=U?,data:=.seq xs n,slots:=sl}/\R (.ok (.ret (.ref (s.heap.push {cls:=.type "tuple_iterator",data:=.fields #[.ref l,.int 0 0]}).objs.size)))
    {s with heap:=(s.heap.push {cls:=.type "tuple_iterator",data:=.fields #[.ref l,.int 0 0]}).push {cls:=.type "enumerate",data:=.fields #[.none,.bool false,.ref s.heap.objs.size,rawInt 0,.none,.none]} }):=
 .of_wp fun pg w A R s h=>by
  obtain⟨hp,g,d,tk,os⟩:=s;obtain⟨hl,h⟩:=h;have Np:=sub_enumerate;have hT:Heap.IsTuple (Shared.heap ⟨hp,g,d,tk,os⟩) l xs:=⟨_,hl,rfl,n,rfl⟩
  wp_walk using Yo hl
  refine wpAny_stack_any fun st=>VB ?_;split
  .rename_i c _ _ _ _ _;cases(c==Value.type "enumerate")
   .wp_walk using Yo hl,Xw hT
    exact⟨_,rfl,h⟩
   .wp_walk using Yo hl,Xw hT
    exact⟨_,rfl,h⟩
  .wp_walk using Yo hl,Xw hT
   exact⟨_,rfl,h⟩
theorem GK(hL:z.heap.IsTuple l xs)(h:∀h',IsEnum h' (z.heap.objs.size+1) z.heap.objs.size 0 .none->h'.IsTupleIter z.heap.objs.size l 0->(∀b o,z.heap.get? b=some o->h'.get? b=some o)->Q (.ref (z.heap.objs.size+1)) {z with heap:=h'}):wpAny (model pg w) B (call (.type "enumerate") [.ref l]) Q EE z:=by
 obtain⟨⟨c,U?,dt,sl⟩,hl,hc,n,hd⟩:=hL;dsimp only at hc hd;subst hc hd;refine callType_new F.called_enumerate (by decide) (F.typeCall_enumerate_1 _) (F.newCall_enumerate_1 _) (fun obj=>F.args_object_init_2 obj _) F.entry_enumerate_new (DC l xs n U? sl) ⟨hl,?_⟩;have hz:(z.heap.push {cls:=.type "tuple_iterator",data:=.fields #[.ref l,.int 0 0]}).objs.size=z.heap.objs.size+1:=Xn ..;show _/\_;rw[hz];have he:IsEnum ((z.heap.push {cls:=.type "tuple_iterator",data:=.fields #[.ref l,.int 0 0]}).push {cls:=.type "enumerate",data:=.fields #[.none,.bool false,.ref z.heap.objs.size,rawInt 0,.none,.none]}) (z.heap.objs.size+1) z.heap.objs.size 0 .none:=by have:=VR (z.heap.push {cls:=.type "tuple_iterator",data:=.fields #[.ref l,.int 0 0]}) (o:={cls:=.type "enumerate",data:=.fields #[.none,.bool false,.ref z.heap.objs.size,rawInt 0,.none,.none]}) rfl;rw[hz]at this;exact this
 exact⟨⟨_,he,rfl⟩,h _ he ⟨_,Vr _ (VR _ rfl),rfl,rfl⟩ fun b o x=>Vr _ (Vr _ x)⟩
end
def Iet(K:_l)(a:_t):It:=
 ⟨fun i H=>∃xs x,kQ K H a xs/\xs[i]?=some x,
  fun i H v H'=>∃p x,v=.ref p/\H p=none/\H'=upd H p (.tup [.int i,x])/\∀xs,kQ K H a xs->xs[i]?=some x,
  fun i H=>∃xs,kQ K H a xs/\xs.length<=i⟩
theorem GL{e:_t}(a:_t)(ne:e≠it)(ne1:a≠it)(ne2:e≠a):
  Turn P w K (.Tuple elts kt tp) (Iet K a) [e,it] e (fun i h=>(∃old,IsEnum h e it (i:Int) old)/\h.IsTupleIter it a i) where
 mem:=by simp
 obj:=fun i h⟨⟨old,he⟩,hi⟩c hc=>by
  have d4:c=e\/c=it:=by simpa using hc
  rcases d4 with rfl|rfl
  .exact⟨_,he,fun v q=>by have q':Data.fields _=Data.cell v:=q;cases q'⟩
  .obtain⟨o,e',c,d⟩:=hi;exact⟨o,e',fun v z=>by rw[d]at z;cases z⟩
 keep:=fun i h h'⟨⟨old,he⟩,hi⟩k=>⟨⟨old,k e (by simp) _ he⟩,hi.at fun o e'=>k it (by simp) o e'⟩
 item:=by
  intro X hP hw hK hc i ai s σ H E I hf st hg;subst hP hw hK;obtain⟨⟨old,he⟩,hi⟩:=st;obtain⟨xs,x,sx,ex⟩:=hg;obtain⟨aM,rv,p,_⟩:=I.tuple sx;obtain⟨ux,S0,rx⟩:=rv.get ex;have fz:=hf e (by simp);have xN:i<aM.toArray.size:=by obtain⟨h,_⟩:=VP.mp S0;simpa using h
  have hn:X.A.in1.handled=none:=I.ok.hd hc;refine wpAny_pyNext_enum_itemD (OV hn it a ne1 aM.toArray) he ⟨hi,p⟩ xN ne (by simp[ne,ne2]) fun u h' tk a0 a1 a2 a3 a4 a5=>⟨_,rfl,?_⟩
  have eu:u=ux:=by rw[XN,S0]at a0;exact(V! a0).symm
  subst eu;have hT:H s.heap.objs.size=none:=I.cW.fresh (Vv _);have Q7:∀c∈[e,it],H c=none:=fun c d4=>(hf c d4).1;have kp:∀c o,c ∉ [e,it]->s.heap.get? c=some o->h'.get? c=some o:=fun c o d4 q=>a5 c o (fun z=>d4 (by simp[z])) (fun z=>d4 (by simp[z])) q;have xw:∀c o,H c=some o->c ∉ [e,it]:=fun c o q d4=>by rw[Q7 c d4]at q;cases q
  have cW:jG X.prog X.w (upd H s.heap.objs.size (.tup [.int i,x])) h':=fun c o q=>by
   by_cases Q8:c=s.heap.objs.size
   .subst Q8;rw[c!]at q;cases q;exact⟨by show 2<=sizeLine;decide,[.int i tk,u],.cons ⟨_,rfl⟩ (.cons rx .nil),_,a3,rfl,_,rfl⟩
   .rw[bK Q8]at q;refine(I.cW c o q).lW (fun d v hd z=>kp d v ?_ z) (fun d z=>by rw[bK (bL z hT)];exact z) fun d zs z=>by rw[bK (bL z hT)];exact z
    rcases hd with q'|q'
    .rw[q'];exact xw c o q
    .exact xw d _ q'
  have un:Un (fZ X.stack) [e,it] H (upd H s.heap.objs.size (.tup [.int i,x])) s.heap h':=
   ⟨fun c o q n _ d4=>kp c o d4 q,fun c o q n _ d4=>⟨o.slots,kp c o d4 q⟩,fun c o q n d4=>by rw[bK (V7 (VL q))];exact n,fun c o q d4=>⟨o,kp c o d4 q⟩,
    fun c zs q=>by rw[bK (bL q hT)];exact q,fun c o u q=>by rw[bK (bL q hT)];exact q,fun c ps q=>⟨#[],by rw[bK (bL q hT),q];simp⟩⟩
  have I1:aV X ai σ (upd H s.heap.objs.size (.tup [.int i,x])) {s with heap:=h',toks:=tk+1}:=I.xx rfl un cW I.bare fun c d4=>by obtain⟨f0,f1,f2,f3,f4,f5⟩:=hf c d4;exact⟨f3,f1,f4,f5⟩
  have UJ:∀c∈[e,it],c≠s.heap.objs.size:=fun c d4 q=>by
   have xN:c<s.heap.objs.size:=by
    have Nq:c=e\/c=it:=by simpa using d4
    rcases Nq with r|r
    .rw[r];exact VL he
    .obtain⟨o,e',_⟩:=hi;rw[r];exact VL e'
   exact absurd xN (by rw[q];exact Wc _)
  have Iq:∀c∈[e,it],(upd H s.heap.objs.size (.tup [.int i,x])) c=none:=fun c d4=>by rw[bK (UJ c d4)];exact(hf c d4).1
  refine wpAny_letOwnedTupleGo_enum a1 fun Ee U' sb=>?_;obtain⟨f0,f1,f2,f3,f4,f5⟩:=fz;have I2:aV X ai σ (upd H s.heap.objs.size (.tup [.int i,x])) {s with heap:=Ee,toks:=tk+1}:=I1.turned (s:={s with heap:=h',toks:=tk+1}) (t':=tk+1) (it:=e) (fun c o d4 q=>(sb.2 c d4).trans q) (Iq e (by simp)) f1 f3 f4 f5;refine⟨.ref s.heap.objs.size,_,I2,rfl,⟨_,x,rfl,hT,rfl,fun zs hs=>by rw[I.kR hs sx];exact ex⟩,⟨⟨_,U'⟩,a2.1.at fun o q=>sb.extBut _ o ne.symm q⟩,Iq⟩
 done:=by intro X hP hw hK hc i ai s σ H E I hf st hg;subst hP hw hK;obtain⟨⟨old,he⟩,hi⟩:=st;obtain⟨xs,sx,hl⟩:=hg;obtain⟨aM,rv,p,_⟩:=I.tuple sx;have l1:=rv.length;obtain⟨f0,f1,f2,f3,f4,f5⟩:=hf it (by simp);have hn:X.A.in1.handled=none:=I.ok.hd hc;exact wpAny_pyNext_enum_endD (OW hn it a aM.toArray i (by simp;lia)) he ⟨rfl,hi,p⟩ fun h' eb=>⟨rfl,I.turned (t':=s.toks) (fun b o hb q=>eb b o hb q) f0 f1 f3 f4 f5⟩
 self:=fun _ _ _ _ _ st h=>by obtain⟨⟨old,he⟩,hi⟩:=st;exact wpAny_pyIter_enum he h
theorem GN{a:Expr}{ta:TA}(hg:Gl X "enumerate")(hm:X.mg "enumerate" = none)(hv:bootBuiltins "enumerate" = some (.type "enumerate"))(ha:PA X [a] ta)(hs:starEach [a] X.env=[(false,eval a X.env)]:=by rfl):
  PI X (.Tuple elts kt tp) (.Call (.Name "enumerate" p) [a] [] pos) (fun σ H R=>ta σ H fun vs H1=>∃b xs,vs=[.ref b]/\kQ X.K H1 b xs/\R (Iet X.K b) H1):=by
 intro ai s σ H R I h;refine Call_ (kf I hg hm hv (WY (cR (ha pos ai s σ H _ I h) fun us s1⟨vs,H1,I1,r1,q1⟩=>?_) hs rfl));obtain⟨b,xs,e,hq,q⟩:=q1;subst e;obtain⟨u,rfl,ru⟩:=bN.one r1;cases ru;obtain⟨aM,rv,pl,hz⟩:=I1.tuple hq;have hlb:b<s1.heap.objs.size:=let⟨_,e,_⟩:=pl;VL e
 refine GK pl fun h' he hi kp=>?_;have I2:aV X ai σ H1 {s1 with heap:=h'}:=I1.kept (t':=s1.toks) kp;have T:=GL (P:=X.prog) (w:=X.w) (K:=X.K) (elts:=elts) (kt:=kt) (tp:=tp) (e:=s1.heap.objs.size+1) (it:=s1.heap.objs.size) b (Nat.succ_ne_self _) (V7 hlb) (V7 (ZX hlb)).symm;refine T.self X.A 0 {s1 with heap:=h'} _ _ ⟨⟨_,he⟩,hi⟩ ?_;refine⟨s1.heap.objs.size+1,[s1.heap.objs.size+1,s1.heap.objs.size],_,_,H1,rfl,I2,T,⟨⟨_,he⟩,hi⟩,fun c hc=>?_,q⟩;have hle:s1.heap.objs.size<=c:=by
  have d4:c=s1.heap.objs.size+1\/c=s1.heap.objs.size:=by simpa using hc
  rcases d4 with r|r<;>(rw[r];first|exact Vv _|exact YE _ _)
 exact I1.CG hle (I1.cW.fresh hle)
end L2
namespace MN
open PySem.Spec L2
open PyProof.Rows hiding St kindOf
def R6(vs:List aw)(aF:ao):c_ Itm:=match vs with
 |[.tup us]=>.ok (m6 0 us,fun _=>True) aF
 |_=>.bad
def wt(m:MA):MI:=fun μ st=>(m μ st).bind R6
theorem GO{a:Expr}{m:MA}(hg:Gl X "enumerate")(hm:X.mg "enumerate" = none)(ha:PA X [a] (tL X E m))(hs:starEach [a] X.env=[(false,eval a X.env)]:=by rfl):PI X (.Tuple elts kt tp) (.Call (.Name "enumerate" p) [a] [] pos) (tI X E (wt m)):=by
 refine PI.imp (GN hg hm PyProof.Rows.Boot.«enumerate» ha hs) ?_;rintro σ H R ⟨μ,ρ,st,rs,sr,h⟩;refine go (R1:=bp X.K) μ ρ st rs sr h fun us st1 ρ1 H1 xs e1 b? r1 h1=>?_;unfold R6 at h1;split at h1
 .rename_i ws;obtain⟨v,rfl,rv⟩:=r1.By;obtain⟨b,vs,rfl,Of,rvs⟩:=rv.h!;refine⟨b,vs,rfl,Of,h1 ρ1 H1 _ (aK.refl _ _) b? ?_⟩;intro ρ' aF H' e s g i;have s1:=e.S6 Of;have t1:=bp.mono e _ _ rvs;refine⟨fun z hz=>?_,fun hi=>⟨vs,s1,?_⟩⟩
  .obtain⟨u,hu,rfl⟩:=x? ws 0 i z hz;obtain⟨y,hy,ry⟩:=t1.get hu;refine⟨⟨vs,y,s1,hy⟩,fun x' S! y'=>?_⟩;obtain⟨pp,x1,rfl,hp,rfl,f1⟩:=y';have c1:=(f1 vs s1).symm.trans hy;cases c1;rw[V_];exact⟨aK.same (dO hp),s.grow (dO hp),Rl.pK c! (bp.mono (aK.same (dO hp)) _ _ (bp.cons (Rl.mkInt _) (bp.one ry)))⟩
  .have Nm:(m6 0 ws).length<=i:=hi;rw[ow]at Nm;rw[<-t1.length];exact Nm
 .exact h1.elim
end MN
namespace PM
open PySem.Spec L2 MN
open PyProof.Rows hiding St
def f_:aw:=.mt ((["x","y","z","w"]:_q).map aw.str)
def sk:aw:=.mt ((["+","-"]:_q).map aw.str)
def fc:FN:=gk 2 2 (ay (cU (aT aD) (aP (xR (aT (ah ltV aO bX)) (qs "-") (qs ""))) aJ) (aP (xR (aT (ah ltV aO bX)) (qs " - ") (qs " + "))))
def f':FN:=gk 2 2 (aP (xR (aT (ah cG aO bA)) aD (Au "^" aD aO)))
def dY:FN:=gk 1 1 (aP (mW (ah BC (aj bG (ae aD ak)) bX) (aj oj (ae (eh 1 [] (jz aD) (aA 0) cT (ah R4 aD (qs "0123456789"))) ak))))
def dh:FN:=gk 2 3 (ay (dQ (cz (ae aD ak)) (aA 2) (cU (aT (ah cG (ah El (mC PM.f_) bH) aO)) (aP bH) aJ)) (fT "NotWritten" (ae (qs "a term is of figures and of the letters of the unknowns") ak)))
def gn:FN:=gk 2 3 (ay (aB 2 (eh 2 [] (wt (ae aD ak)) (gN [(aA 0),(aA 1)]) (aT (ah gq aO bX)) (aj PM.f' (ae (ah El (mC PM.f_) aD) (ae aO ak))))) (ay (cU (eY (aT (ah gq aO bA)) (aT (ah cG (aj bG (ae bH ak)) bX))) (aP (fX (qs "*") (ah aQ (bq (ae (aj iG (ae aO ak)) ak)) bH))) aJ) (aP (fX (qs "*") bH))))
def shown:FN:=gk 1 4 (ay (cU (aT (ah cG (aj bG (ae aD ak)) bX)) (aP (qs "0")) aJ) (ay (aB 1 (bq ak)) (ay (dQ (d6 aD) (gN [(aA 2),(aA 3)]) (ay (cF (jk cL aO (ae (aj PM.fc (ae (ah cG (aj bG (ae aO ak)) bX) (ae ck ak))) ak))) (cF (jk cL aO (ae (aj PM.gn (ae bH (ae (aj ji (ae ck ak)) ak))) ak))))) (aP (fX (qs "") aO)))))
end PM
namespace L2
open PySem.Spec PyProof.Rows
section
variable{M:Model}{z:_s}{B:Heap}{en:Env}{ou:List Env}{L e:_t}{c a:_r}
theorem yq{Q:Unit->_s->Prop}(h1:en.frame=some L)(h2:Heap.HeldW B (en::ou) e c a L z.heap)(k:∀y,Heap.FlyingW B ou e c a y->z.heap.UpToSlots y->Q () {z with heap:=y}):wpAny M A (leaving en (.ref e)) Q EE z:=by unfold leaving;refine Vn (wpAny_noteFrame_againW h1 h2.2.2.2 (wpAny_landsW h2 fun y f up=>?_));obtain⟨k1,k2,⟨_,_,k3⟩,k4⟩:=f;exact k y ⟨k1,k2,k3,k4⟩ up
theorem gone(B:Heap)(C:_t):∃B':Heap,B'.get? C=none/\∀b,b≠C->B'.get? b=B.get? b:=by
 refine⟨B.update C fun o => {o with data:=.freed},?_,fun b hb=>Wx _ _ (Xg hb)⟩;obtain⟨objs,l⟩:=B;show(match(objs.modify C fun o => {o with data:=.freed})[C]? with|some ⟨_,_,.freed,_⟩=>none|o=>o)=none;rw[Array.getElem?_modify,Vs rfl];cases objs[C]? with
 |none=>rfl
 |some o=>rfl
theorem yr{tag:String}{l:List Env}(h1:en.frame=some L)(h2:Heap.HeldW B l e c a L z.heap)(k:∀y,Heap.HeldW B l e c a L y->z.heap.UpToSlots y->EE (.ref e) {z with heap:=y}):wpAny M A (PySem.passOn tag (.ref e) en:Sem α) (fun _ _=>False) EE z:=by
 obtain⟨f1,f2,f3,oe,vs,T,oT,ts,g1,g2,g3,g4,g5,g6,g7,g8,g9⟩:=h2;unfold PySem.passOn;refine Vn (Wi g1 g3 g4 ?_);rw[Vx (show ¬ ((Value.ref T==Value.none)=true)from nofun)];unfold setFlight;refine Vn (Vn (Wi g1 g3 g4 ?_));rw[Vs (show(Value.ref T !=Value.none)=true from rfl),h1];have lt:3<ts.size:=(Array.getElem?_eq_some_iff.mp g9).1;refine Xm g7 g8 lt (Zc (k _ ?_ ?_))
 .have Fe:∀b,b≠T->(z.heap.update T (Obj.mapFields (·.setIfInBounds 3 (rawInt L)))).get? b=z.heap.get? b:=fun b hb=>Wx _ _ (Xg hb);have hd:=W7 g8 (·.setIfInBounds 3 (rawInt L));refine⟨fun b o q=>(Fe b fun r=>by rw[r,g5]at q;cases q).trans (f1 b o q),f2,f3.of_keeps fun b o q hn=>⟨o,(Fe b fun r=>?_).trans q,rfl⟩,oe,vs,T,_,_,(Fe e (Xg g6)).trans g1,g2,g3,g4,g5,g6,Xk _ g7 (XM hd),hd,?_⟩
  .rw[r,g7]at q;cases q;exact hn ts g8
  .rw[Array.getElem?_setIfInBounds_self_of_lt lt]
 .intro b o q hn;refine⟨o.slots,(Wx _ _ fun r=>?_).trans q⟩;rw[<-r,g7]at q;cases q;exact hn ts g8
end
structure Va(P:_v)(w:World)(l:List Env)(L:_t)(fp:_p)(H H':Hp)(s s':_s)(ea:_t)(cls:_r):Prop where
 os:s'.os=s.os
 bare:AllBare s'.gens
 un:Un (fZ l) fp H H' s.heap s'.heap
 cW:jG P w H' s'.heap
 fl:∃(B:Heap)(t:_t),Heap.HeldW B l ea cls (.ref t) L s'.heap/\(∀b,H' b≠none->∃o,B.get? b=some o)/\(∀b o,s.heap.get? b=some o->b ∉ fZ l->b ∉ fp->∃o',B.get? b=some o')
section
variable{outer:List Env}
theorem DD(I:aV (hV (lI P w) P w K mg base N qual scope f cd A outer s₀ H₀ E) ai σ H s)(Nj:∀b∈fp,s₀.heap.objs.size<=b)(Z:Va P w (envOfC qual scope s₀.heap.objs.size f cd::outer) s₀.heap.objs.size fp H H' s s' ea cls)(hE:E cls none H'):(hV (lI P w) P w K mg base N qual scope f cd A outer s₀ H₀ E).xe (.ref ea) s':=by
 obtain⟨B,t,fl,ct,cs⟩:=Z.fl;have LJ:fZ (envOfC qual scope s₀.heap.objs.size f cd::outer)=s₀.heap.objs.size::fZ outer:=km rfl outer;have Ef:∀b o,s₀.heap.get? b=some o->b ∉ fZ outer->b ∉ fZ (envOfC qual scope s₀.heap.objs.size f cd::outer):=fun b o q hb hm=>by
  rw[LJ]at hm;rcases VJ.mp hm with z|z
  .exact absurd (VL q) (by rw[z];exact Wc _)
  .exact hb z
 have PR:∀b o,s₀.heap.get? b=some o->b ∉ fp:=fun b o q hb=>absurd (VL q) (YB (Nj b hb));have sub:∀b,b∈fZ outer->b∈fZ (envOfC qual scope s₀.heap.objs.size f cd::outer):=fun b hb=>by rw[LJ];exact Vq _ hb
 have nil:∀b:_t,b ∉ (hV (lI P w) P w K mg base N qual scope f cd A outer s₀ H₀ E).ex:=fun b z=>by cases z
 refine yq rfl fl fun Ee Nu up=>?_;have z7:∀b o,s'.heap.get? b=some o->(∃o',B.get? b=some o')->Ee.get? b=some o:=fun b o q⟨o',z⟩=>by have q':=fl.1 b o' z;rw[q]at q';cases q';exact Nu.1 b o z
 have slot:∀b o,s₀.heap.get? b=some o->H₀ b=none->b∈fZ outer->∃sl,Ee.get? b=some {o with slots:=sl}:=fun b o q n hb=>by obtain⟨sl,e1⟩:=I.base.slot b o q n hb (nil b);obtain⟨MZ,e2⟩:=Z.un.slot b _ e1 (I.base.free b o q n (nil b)) (sub b hb) (PR b o q);obtain⟨_,o',pD,Bx⟩:=fl.2.2.1.mem (sub b hb);rw[e2]at pD;cases pD;obtain⟨IA,e3⟩:=up b _ e2 Bx;exact⟨IA,e3⟩
 refine⟨ea,cls,H',rfl,⟨Z.os.trans I.os,Z.bare,⟨fun b o q n hb _=>?_,fun b o q n hb _=>slot b o q n hb,fun b o q n _=>?_,fun b o q _=>?_,fun b xs q=>Z.un.jH b xs (I.base.jH b xs q),fun b o u q=>Z.un.ju b o u (I.base.ju b o u q),fun b ps q=>?_⟩,fun b u q=>?_,B,t,Nu,ct,fun b o q hb=>?_⟩,hE⟩
 .have e1:=I.base.keep b o q n hb (nil b);have n1:=I.base.free b o q n (nil b);have nf:=Ef b o q hb;exact z7 b o (Z.un.keep b o e1 n1 nf (PR b o q)) (cs b o e1 nf (PR b o q))
 .obtain⟨o',e1⟩:=I.base.there b o q (nil b);exact Z.un.free b o' e1 (I.base.free b o q n (nil b)) (PR b o q)
 .by_cases hb:b∈fZ outer
  .obtain⟨sl,e1⟩:=slot b o q (I.ok.Es b hb) hb;exact⟨_,e1⟩
  .obtain⟨o',e1⟩:=I.base.there b o q (nil b);obtain⟨o2,e2⟩:=cs b o' e1 (Ef b o q hb) (PR b o q);exact⟨o2,Nu.1 b o2 e2⟩
 .obtain⟨m1,e1⟩:=I.base.j9 b ps q;obtain⟨m2,e2⟩:=Z.un.j9 b _ e1;exact⟨m1++m2,by rw[e2,Yb]⟩
 .refine(Z.cW b u q).lW (fun c v hc z=>z7 c v z (ct c ?_)) (fun _ z=>z) fun _ _ z=>z;rcases hc with z'|z'
  .rw[z',q];simp
  .rw[z'];simp
 .obtain⟨o',e1⟩:=I.base.there b o q (nil b);exact cs b o' e1 (Ef b o q hb) (PR b o q)
end
def bxo(X:Cx)(scope:Scope)(cl:List (Str×_t))(C:_t):_i:=fun x s'=>∃m,s'.heap.Ns C m/\∀h',Heap.SameBut C s'.heap h'->wpAny (model X.prog X.w) X.A (PySem.passOn "comprehension.variables-let-go" x (compEnvC scope cl C X.env):Sem _r) (fun _ _=>False) X.xe {s' with heap:=h'}
def bxe(X:Cx)(scope:Scope)(cl:List (Str×_t))(C:_t):_i:=notedBy (model X.prog X.w) X.A (compEnvC scope cl C X.env) (bxo X scope cl C)
def GP(X:Cx)(N:_q)(scope:Scope)(cl:List (Str×_t))(C:_t)(fp:_p)(s:_s)(H:Hp):Cx:={qY X N scope cl C fp s H with xe:=bxe X scope cl C}
theorem Aw{cl:List (Str×_t)}{g:TG}{Q:VK}{RR:_r->Env->Result->_s->Prop}{E:_i}(hc:X.calm=true)(B:pV X N scope cl k caps)(hg:∀C fp s H,PG (GP X N scope cl C fp s H) tg g)(hi:∀C fp s H,xq (GP X N scope cl C fp s H) ifs tt)(he:∀C fp s H,q! X fp C s H->PE (GP X N scope cl C fp s H) elt te)(I:aV X ai σ H s)(T:Turn X.prog X.w X.K tg J fp it tn)(st:tn 0 s.heap)(hf:∀b∈fp,nW X ai H b)(h:qZ J k caps g tt te σ H Q)(Q2:∀acc C s',q_ X ai σ s Q acc C s'->RR acc (compEnvC scope cl C X.env) (.ok .next) s')(hRE:∀acc C x s',bxo X scope cl C x s'->RR acc (compEnvC scope cl C X.env) (.error x) s'):
  wpAny (model X.prog X.w) X.A (newList []) (fun acc s₃=>wpAny (model X.prog X.w) X.A (newFunctionEnv scope X.env.globals cl [] X.env.qual none .none (some X.env)) (fun cenv s₄=>
   codeAny (model X.prog X.w) X.A (.compStart (.ListComp elt [⟨tg,iter,ifs,0⟩] scope pos) 0 (.ref it) acc {cenv with scope:=relabel scope X.env}) (RR acc {cenv with scope:=relabel scope X.env}) s₄) E s₃) E s:=q? (xe:=bxe X scope cl) (RR:=RR) (E:=E) (iter:=iter) (pos:=pos) hc B hg hi he I T st hf h Q2 fun _ _ _ _ h=>Wg h (fun _ _ q=>hRE _ _ _ _ q) fun _ _ q=>hRE _ _ _ _ q
section
variable{M:Model}{z:_s}{en:Env}
def L1(M:Model)(A:_u)(EE:_i)(Q:_i)(acc:_r)(cn:Env)(r:Result)(y:_s):Prop:=match r with
 |.ok _=>∃m,y.heap.Ns cn.locals m/\∀h',Heap.SameBut cn.locals y.heap h'->Q acc {y with heap:=h'}
 |.error x=>∃m,y.heap.Ns cn.locals m/\∀h',Heap.SameBut cn.locals y.heap h'->wpAny M A (PySem.passOn "comprehension.variables-let-go" x cn:Sem _r) (fun _ _=>False) EE {y with heap:=h'}
theorem Ax{na fi:Sem _r}{g:Comprehension}{gs:List Comprehension}{cl:List (Str×_t)}(h1:clausesOf e=g::gs)(h2:∀x,foldedSetIterable g.iter en x=pure x)(h3:closureFor sc en=pure cl)(h4:sc.kind=.function)(h5:∀x∈sc.names,x.2=.local->sc.names.lookup x.1=some .local)(h:wpAny M A fi (fun x z1=>wpAny M A (pyIter x) (fun it z2=>wpAny M A na (fun acc z3=>wpAny M A (newFunctionEnv sc en.globals cl [] en.qual none .none (some en)) (fun cn z4=>codeAny M A (.compStart e 0 it acc {cn with scope:=relabel sc en}) (L1 M A EE Q acc {cn with scope:=relabel sc en}) z4) EE z3) EE z2) EE z1) EE z):
  wpAny M A (comprehension e sc en pos na false fi none) Q EE z:=by
 unfold comprehension;rw[h3,h1];refine Vn (Wg h (fun x z1 k1=>Vn (Ye (Vn (Zd (h2 x) (Vn (WM (Wg k1 (fun it z2 k2=>wpAny_standIf (Vn (Wg k2 (fun acc z3 k3=>Vn (VB (Vn (Wg k3 (fun cn z4 k4=>?_) fun _ _ y=>y)))) fun _ _ y=>y))) fun _ _ y=>y))))))) fun _ _ y=>y);dsimp only;have hv:∀x∈(sc.names.filter fun x=>(x.2 == .local || x.2 == .cell)&&x.1 !=(".0":Str)).reverse,x.2=.local->Env.kindOf {cn with scope:=relabel sc en} x.1=some .local:=fun x hx hl=>lookup_relabel_local (h5 x (X0.mp (List.mem_reverse.mp hx)).1 hl);refine WM (Vn (Yh (WM (wpAny_run (XY k4 fun r y hr=>?_)))));cases r with
 |ok f=>
  obtain⟨m,hn,hr⟩:=hr;exact Vn (WM (wpAny_comp_letGo (cenv:={cn with scope:=relabel sc en}) h4 _ y m hv hn fun h' m' _ sb=>VB (hr h' sb)))
 |error x=>
  obtain⟨m,hn,hr⟩:=hr;exact Vn (WM (wpAny_comp_letGo (cenv:={cn with scope:=relabel sc en}) h4 _ y m hv hn fun h' m' _ sb=>Wg (hr h' sb) (fun _ _ f=>f.elim) fun _ _ y=>y))
end
section
variable{cl:List (Str×_t)}{g:TG}
theorem GQ(hc:X.calm=true)(B:pV X N scope cl k caps)(hi:PI X tg iter wi)(hg:∀C fp s H,PG (GP X N scope cl C fp s H) tg g)(E5:∀C fp s H,xq (GP X N scope cl C fp s H) ifs tt)(he:∀C fp s H,q! X fp C s H->PE (GP X N scope cl C fp s H) elt te)(hs:∀x,foldedSetIterable iter X.env x=pure x:=by intro _;rfl):PE X (.ListComp elt [⟨tg,iter,ifs,0⟩] scope pos) (mU k caps wi g tt te):=by
 intro ai s σ H Q I h;rw[eval_ListComp];refine Ax rfl hs B.xK B.kind B.names (cR (hi ai s σ H _ I (n! h)) fun xv s₁ h₁=>cR h₁ fun Qn s₂ h₂=>?_);obtain⟨it,fp,tn,J,H2,e,I2,T,st2,f2,hW⟩:=h₂;subst e;refine Aw (RR:=fun acc cn=>L1 (model X.prog X.w) X.A X.xe (EP X ai σ Q) acc cn) hc B hg E5 he I2 T st2 f2 hW ?_ ?_
 .rintro acc C s' ⟨D,H',rfl,hC,I',hn,⟨m,ns⟩,q⟩;exact⟨m,ns,fun h' sb=>⟨.ref D,H',I2.n? hC I' hn sb,rfl,q⟩⟩
 .exact fun acc C x s' q=>q
end
section
variable{outer:List Env}
theorem L3{N':_q}{cl:List (Str×_t)}(bs:q! (hV (lI P w) P w K mg base N qual scope f cd A outer s₀ H₀ E) fp C s H):Passes (lI P w) (GP (hV (lI P w) P w K mg base N qual scope f cd A outer s₀ H₀ E) N' sc cl C fp s H) E:=by
 obtain⟨ai,σ,I,hf,hC⟩:=bs;rintro Eu τ H3 s3 e s' I3 ⟨ea,cls,H',rfl,Z,hE⟩;obtain⟨B,t,fl,ct,cs⟩:=Z.fl;have Nt:(A.deeper (envOfC qual scope s₀.heap.objs.size f cd)).frames=some (envOfC qual scope s₀.heap.objs.size f cd::outer):=I.ok.frames;have GR:Un (fZ (envOfC qual scope s₀.heap.objs.size f cd::outer)) fp H H3 s.heap s3.heap:=I3.base;have I3n:H3 C=none:=I3.free;have I3o:s3.os=s.os:=I3.os;obtain⟨m,ns,_⟩:=I3.loc;have ns:s3.heap.Ns C m:=ns;obtain⟨oC,es,ep,Vb,hdC,rC⟩:=ns;have Ep:s.heap.FunFrames base (envOfC qual scope s₀.heap.objs.size f cd::outer):=I.stack;have Vc:C ∉ fZ (envOfC qual scope s₀.heap.objs.size f cd::outer):=fun hm=>by obtain⟨_,o,ho,_⟩:=Ep.mem hm;exact absurd (VL ho) (YB hC)
 have hC':s'.heap.get? C=some oC:=Z.un.keep C oC Vb I3n Vc (by intro z;cases z);have Vd:H' C=none:=Z.un.free C oC Vb I3n (by intro z;cases z);obtain⟨oB,hBC⟩:=cs C oC Vb Vc;show wpAny (model P w) _ (noteFrame (.ref ea) (envOfC qual scope s₀.heap.objs.size f cd)) _ _ s';refine wpAny_looks_onW Nt rfl fl fun h1 held up=>?_;have ns1:h1.Ns C m:=up.ns ⟨oC,es,ep,hC',hdC,rC⟩;refine⟨m,ns1,fun h2 sb=>?_⟩;obtain⟨B',bC,bO⟩:=gone B C;obtain⟨v1,v2,v3,oe,vs,T,oT,ts,g1,g2,g3,g4,g5,g6,g7,g8,g9⟩:=held;have Ls:∀b,B.get? b=none->b≠C:=fun b q r=>by rw[r,hBC]at q;cases q
 have R7:Heap.HeldW B' (envOfC qual scope s₀.heap.objs.size f cd::outer) ea cls (.ref t) s₀.heap.objs.size h2:=by
  have bn:∀b,B.get? b=none->B'.get? b=none:=fun b q=>(bO b (Ls b q)).trans q;refine⟨fun b o q=>?_,bn ea v2,?_,oe,vs,T,oT,ts,(sb.2 ea (Ls ea v2)).trans g1,g2,g3,g4,bn T g5,g6,(sb.2 T (Ls T g5)).trans g7,g8,g9⟩
  .have hb:b≠C:=fun r=>by rw[r,bC]at q;cases q
   rw[bO b hb]at q;exact(sb.2 b hb).trans (v1 b o q)
  .have go:∀(l:List Env),h1.FunFrames B l->(∀b∈fZ l,b≠C)->h2.FunFrames B' l:=by
    intro l
    induction l with
    |nil=>exact fun _ _=>trivial
    |cons a r ih=>
     rintro⟨x1,⟨L,o,x2,x3,x4,x5⟩,x6⟩ nc;have hL:L≠C:=nc L (by rw[km x2];exact Vu);exact⟨x1,⟨L,o,x2,bn L x3,(sb.2 L hL).trans x4,x5⟩,ih x6 fun b hb=>nc b (by rw[km x2];exact Vq _ hb)⟩
   exact go _ v3 fun b hb r=>Vc (r▸hb)
 refine yr (B:=B') rfl R7 fun y GS up3=>?_
 -- Ec whole way,from Ec Tg PU
 have z7:∀b o,s'.heap.get? b=some o->b≠C->(∃o',B.get? b=some o')->y.get? b=some o:=fun b o q hb⟨o',z⟩=>by have q':=fl.1 b o' z;rw[q]at q';cases q';exact GS.1 b o ((bO b hb).trans z)
 have old:∀b o,s.heap.get? b=some o->b≠C:=fun b o q r=>absurd (VL q) (by rw[r];exact YB hC);have slot:∀b o,s.heap.get? b=some o->H b=none->b∈fZ (envOfC qual scope s₀.heap.objs.size f cd::outer)->b ∉ fp->∃sl,y.get? b=some {o with slots:=sl}:=fun b o q n hb nx=>by obtain⟨sl,e1⟩:=GR.slot b o q n hb nx;obtain⟨MZ,e2⟩:=Z.un.slot b _ e1 (GR.free b o q n nx) hb (by intro z;cases z);obtain⟨_,o',pD,Bx⟩:=fl.2.2.1.mem hb;rw[e2]at pD;cases pD;obtain⟨sl3,e3⟩:=up b _ e2 Bx;obtain⟨sl4,e4⟩:=up3 b _ ((sb.2 b (old b o q)).trans e3) Bx;exact⟨sl4,e4⟩
 have fpf:∀b∈fp,b ∉ fZ (envOfC qual scope s₀.heap.objs.size f cd::outer):=fun b hb hm=>by
  obtain⟨_,f1,f2,_⟩:=hf b hb;rcases VJ.mp (I.nU b hm)with r|r
  .exact f1 r
  .exact f2 r
 refine DD (fp:=fp) I (fun b hb=>?_) ⟨Z.os.trans I3o,Z.bare,⟨fun b o q n hb nx=>?_,fun b o q n hb nx=>slot b o q n hb nx,fun b o q n nx=>?_,fun b o q nx=>?_,fun b xs q=>Z.un.jH b xs (GR.jH b xs q),fun b o u q=>Z.un.ju b o u (GR.ju b o u q),fun b ps q=>?_⟩,fun b u q=>?_,B',t,GS,fun b hb=>?_,fun b o q hb nx=>?_⟩ hE
 .rcases(hf b hb).2.2.2.1 with r|r
  .cases r
  .exact r
 .have e1:=GR.keep b o q n hb nx;have n1:=GR.free b o q n nx;exact z7 b o (Z.un.keep b o e1 n1 hb (by intro z;cases z)) (old b o q) (cs b o e1 hb)
 .obtain⟨o',e1⟩:=GR.there b o q nx;exact Z.un.free b o' e1 (GR.free b o q n nx) (by intro z;cases z)
 .by_cases hb:b∈fZ (envOfC qual scope s₀.heap.objs.size f cd::outer)
  .obtain⟨sl,e1⟩:=slot b o q (I.qq b hb) hb nx;exact⟨_,e1⟩
  .obtain⟨o',e1⟩:=GR.there b o q nx;obtain⟨o2,e2⟩:=cs b o' e1 hb;exact⟨o2,GS.1 b o2 ((bO b (old b o q)).trans e2)⟩
 .obtain⟨m1,e1⟩:=GR.j9 b ps q;obtain⟨m2,e2⟩:=Z.un.j9 b _ e1;exact⟨m1++m2,by rw[e2,Yb]⟩
 .refine(Z.cW b u q).lW (fun c v hc z=>z7 c v z ?_ (ct c ?_)) (fun _ z=>z) fun _ _ z=>z
  .rcases hc with z'|z'
   .intro r;rw[<-z',r,Vd]at q;cases q
   .intro r;rw[r,Vd]at z';cases z'
  .rcases hc with z'|z'
   .rw[z',q];simp
   .rw[z'];simp
 .obtain⟨o,e⟩:=ct b hb;exact⟨o,(bO b fun r=>hb (r▸Vd)).trans e⟩
 .obtain⟨o',e1⟩:=GR.there b o q nx;obtain⟨o2,e2⟩:=cs b o' e1 hb;exact⟨o2,(bO b (old b o q)).trans e2⟩
end
end L2
namespace MN
open PySem.Spec L2
open PyProof.Rows hiding St kindOf
open Classical in
def gC(g:ao->Prop)(a:AS)(c:MT)(e:ME):List aw->Env->ao->List aw->c_ (List aw)
 |[],_,st,ys=>if g st then .ok ys st else .bad
 |u::us,τ,st,ys=>if g st then(match a u τ with
  |some τ1=>match c τ1 st with
   |.ok true st1=>match e τ1 st1 with
    |.ok y st2=>gC g a c e us τ1 st2 (ys++[y])
    |.err k st2=>.err k st2
    |.bad=>.bad
   |.ok false st1=>gC g a c e us τ1 st1 ys
   |.err _ _=>.bad
   |.bad=>.bad
  |none=>.bad)else .bad
def mf(k:Nat)(caps:List Nat)(it:MI)(a:AS)(c:MT)(e:ME):ME:=fun μ st=>(it μ st).bind fun p st1=>
 if p.1.length<=sizeLine then(gC p.2 a c e p.1 (j! k caps μ) st1 []).bind fun ys st2=>.ok (.loc st2.length) (st2++[.lst ys])else .bad
section
variable{cl:List (Str×_t)}{it:MI}{a:AS}{c:MT}{e:ME}
theorem Ay(JO:X.pn=[]){σ:L2.St}{Q:VK}(h:tE X E (mf k caps it a c e) σ H Q):mU k caps (tI X E it) (tA (W0 X) a) (tG (W0 X) E RB c) (tG (W0 X) E (Rl X.K) e) σ H Q:=by
 obtain⟨μ,ρ,st,rs,sr,h⟩:=h;refine xM (go (R1:=N4 X.K) μ ρ st rs sr h fun pr st1 ρ1 H1 J e1 b? rJ h1=>?_);obtain⟨us,g⟩:=pr;have ew:wo X=W0 X:=by show Wo.mk _ _ _=_;rw[JO]
 have JC:=rs.mono e1;rw[ew]at JC h1;dsimp only at h1;split at h1
 .rename_i hz;refine Bv us.length hz (fun i ys τ H'=>∃μτ ρ' aF yv,aK ρ1 H1 ρ' H'/\RS (W0 X) ρ' H' μτ τ/\SR X.K ρ' aF H'/\bp X.K ρ' H' yv ys/\yv.length<=i/\wR (W0 X) E (Rl X.K) ρ' H' Q ((gC g a c e (us.drop i) μτ aF yv).bind fun(zs:List aw)(st2:ao)=>c_.ok (aw.loc st2.length) (st2++[aG.lst zs])))
   ⟨j! k caps μ,ρ1,st1,[],aK.refl _ _,JC.Ej k caps,b?,bp.nil,Vv _,h1⟩ ?_ ?_ ?_ ?_ ?_
  .rintro i ys τ H' hi ⟨μτ,ρ',aF,yv,e',u!,rF,ry,hl,hq⟩;rw[WQ hi]at hq;unfold gC at hq;by_cases iR:g aF
   .exact((rJ ρ' aF H' e' rF iR i).1 _ (VD hi)).1
   .rw[Vx iR]at hq;exact hq.elim
  .rintro ys τ H' ⟨μτ,ρ',aF,yv,e',u!,rF,ry,hl,hq⟩;rw[XS]at hq;unfold gC at hq;by_cases iR:g aF
   .exact(rJ ρ' aF H' e' rF iR us.length).2 (Vv _)
   .rw[Vx iR]at hq;exact hq.elim
  .rintro i ys τ H' ⟨μτ,ρ',aF,yv,e',u!,rF,ry,hl,hq⟩;rw[<-ry.length];exact hl
  .rintro i ys τ H' x H2 hi ⟨μτ,ρ',aF,yv,e',u!,rF,ry,hl,hq⟩ y K1 hK;rw[WQ hi]at hq;unfold gC at hq;by_cases iR:g aF
   .rw[Vs iR]at hq;obtain⟨e2,iZ,r2⟩:=((rJ ρ' aF H' e' rF iR i).1 _ (VD hi)).2 x H2 y;cases z:a us[i] μτ with
    |none=>rw[z]at hq;exact hq.elim
    |some τ1=>
     rw[z]at hq;dsimp only at hq;refine⟨μτ,ρ',us[i],τ1,u!.mono e2,r2,z,fun σ3 FU=>⟨τ1,ρ',aF,FU,iZ,?_⟩⟩;cases zc:c τ1 aF with
     |ok b jv=>
      rw[zc]at hq;intro ρ3 H3 b' e3 pY eb;cases eb;cases b with
      |true=>
       dsimp only at hq;rw[Vs rfl];refine⟨τ1,ρ3,jv,FU.mono e3,pY,?_⟩;cases ze:e τ1 jv with
       |ok v lZ=>
        rw[ze]at hq;intro ρ4 H4 y4 e4 og r4;exact hK _ _ _ ⟨τ1,ρ4,lZ,yv++[v],((e'.trans e2).trans e3).trans e4,(FU.mono e3).mono e4,og,(bp.mono ((e2.trans e3).trans e4) _ _ ry).append (bp.one r4),by rw[Vz,WG];lia,wR.mono hq ((e2.trans e3).trans e4)⟩
       |err c' lZ=>
        rw[ze]at hq;exact wR.mono hq (e2.trans e3)
       |bad=>rw[ze]at hq;exact hq.elim
      |false=>
       dsimp only at hq;rw[Vx VC];exact hK _ _ _ ⟨τ1,ρ3,jv,yv,(e'.trans e2).trans e3,FU.mono e3,pY,bp.mono (e2.trans e3) _ _ ry,by lia,wR.mono hq (e2.trans e3)⟩
     |err c' jv=>rw[zc]at hq;exact hq.elim
     |bad=>rw[zc]at hq;exact hq.elim
   .rw[Vx iR]at hq;exact hq.elim
  .rintro ys τ H' p ⟨μτ,ρ',aF,yv,e',u!,rF,ry,hl,hq⟩ hp;rw[XS]at hq;unfold gC at hq;by_cases iR:g aF
   .rw[Vs iR]at hq;obtain⟨k1,k2,k3⟩:=gH rF ry hp;exact hq _ _ _ k1 k2 k3
   .rw[Vx iR]at hq;exact hq.elim
 .exact h1.elim
theorem GU(hc:X.calm=true)(JO:X.pn=[])(B:pV X N scope cl k caps)(hi:PI X tg iter (tI X E it))(hg:∀C fp s H,PG (GP X N scope cl C fp s H) tg (tA (W0 X) a))(E5:∀C fp s H,xq (GP X N scope cl C fp s H) ifs (tG (W0 X) E RB c))(he:∀C fp s H,q! X fp C s H->PE (GP X N scope cl C fp s H) elt (tG (W0 X) E (Rl X.K) e))(hs:∀x,foldedSetIterable iter X.env x=pure x:=by intro _;rfl):PE X (.ListComp elt [⟨tg,iter,ifs,0⟩] scope pos) (tE X E (mf k caps it a c e)):=
 PE.imp (GQ hc B hi hg E5 he hs) fun _ _ _ h=>Ay JO h
theorem GV{C fp s H}:xq (GP X N scope cl C fp s H) [] (tG (W0 X) E RB cT):=by intro ai s' σ H' Q I q;refine Bu ai s' σ H' Q I ?_;obtain⟨μ,ρ,st,rs,sr,h⟩:=q;exact h ρ H' true (aK.refl _ _) sr rfl
end
end MN
namespace L2
open PySem.Spec PyProof.Rows
theorem wy:c6 X (.type "int") (fun xs H Q=>∃x n,xs=[.str x]/\x.length<=640/\PySem.intText? x=some n/\Q (.int n) H):=by rintro ai s σ H xs ws Q I r ⟨x,n,rfl,hl,hn,q⟩;obtain⟨u,rfl,ru⟩:=bN.one r;obtain⟨t,rfl⟩:=ru;exact W.KIN.call_text hn hl ⟨.int n,H,I.tok _,⟨_,rfl⟩,q⟩
end L2
namespace MN
open PySem.Spec L2
open PyProof.Rows hiding St kindOf
def p4:FN
 |[.str x],st=>if x.length<=640 then(match PySem.intText? x with
  |some n=>.ok (.int n) st
  |none=>.bad)else .bad
 |_,_=>.bad
theorem DE:c6 X (.type "int") (cM (wo X) E p4):=by
 refine c6.imp wy ?_;rintro xs H Q ⟨ρ,st,us,sr,r,h⟩;unfold p4 at h;split at h
 .rename_i x;obtain⟨v,rfl,rv⟩:=r.By;split at h
  .rename_i hl;split at h
   .rename_i n hn;exact⟨x,n,by rw[rv.fN],hl,hn,h ρ H _ (aK.refl _ _) sr (Rl.mkInt n)⟩
   .exact h.elim
  .exact h.elim
 .exact h.elim
end MN
namespace PM
open PySem.Spec L2 MN
open PyProof.Rows hiding St
def cK:FN:=gk 1 1 (ay (cU (aT (ah cG (ah bf aD Ir) bX)) (aP (ah dz (ah uA bA (ah dz (ah bf (ah bV aD Ir) fP) fP)) (ah bf (ah bV aD (mC (.int 14))) (ah JE xS (mC (.int 57)))))) aJ) (ay (cU (aT (ah ltV (ah bf aD Ir) lu)) (aP (ah uA (ah bf (ah bV aD Ir) lu) bA)) aJ) (aP (ah uA (ah bf (ah bV aD Ir) (mC (.int 19))) (mC (.int 9))))))
def eJ:FN:=gk 1 3 (ay (aB 1 (bq ak)) (ay (dQ (cz (ae (aj bG (ae (ah bY aD bX) ak)) ak)) (aA 2) (ay (cU (aT (ah cG (ah bY (ah bY aD bX) bH) bA)) (cF (jk cL aO (ae (ah bY (qs "xyzw") bH) ak))) aJ) (cU (aT (ah BC (ah bY (ah bY aD bX) bH) bA)) (cF (jk cL aO (ae (ah aQ (ah aQ (ah bY (qs "xyzw") bH) (qs "^")) (aj iG (ae (ah bY (ah bY aD bX) bH) ak))) ak))) aJ))) (ay (cU (eY (aT (ah gq (aj ji (ae (ah bY aD bA) ak)) bA)) (aT (ah cG aO (bq ak)))) (aB 1 (ah aQ (bq (ae (aj iG (ae (aj ji (ae (ah bY aD bA) ak)) ak)) ak)) aO)) aJ) (aP (fX (qs "*") aO)))))
def bo:FN:=gk 1 2 (ay (cU (aT (ah cG aD (qs ""))) (aP bA) aJ) (ay (aB 1 (cJ aD (ba bA) a!)) (ay (cU (eY (aT (ah gq (ah bY aD bX) (qs "^"))) (eY (dP (aT (aj PM.dY (ae aO ak)))) (aT (ah BC (aj bG (ae aO ak)) fP)))) (fT "NotWritten" (ae (qs "behind a letter stands nothing, or ^ and an exponent to 99") ak)) aJ) (aP (aj p4 (ae aO ak))))))
def dq:FN:=gk 4 7 (ay (aB 4 (bq ak)) (ay (dQ (cz (ae ck ak)) (aA 5) (ay (aB 6 (aj PM.d9 (ae (aj PM.aE (ae aD (ae (ah aQ aO (ah dz fP eR)) ak))) (ae bH ak)))) (cF (jk cL fC (ae (fO (ae jt (ae (aj PM.cK (ae (aj PM.aE (ae aD (ae (ah aQ (ah aQ aO (ah dz fP eR)) bA) ak))) ak)) ak))) ak))))) (aP fC)))
def b!:FN:=gk 1 4 (ay (cU (aT (ah cG aD (bq ak))) (aP (qs "0")) aJ) (ay (aB 1 (aj PM.eJ (ae (ah bY aD bX) ak))) (ay (cU (aT (ah ltV (ah bY (ah bY aD bX) bA) bX)) (aB 1 (ah aQ (qs "-") aO)) aJ) (ay (dQ (d6 (zJ aD (ba bA) a!)) (aA 2) (ay (aB 3 (qs " + ")) (ay (cU (aT (ah ltV (ah bY bH bA) bX)) (aB 3 (qs " - ")) aJ) (aB 1 (ah aQ (ah aQ aO ck) (aj PM.eJ (ae bH ak))))))) (aP aO)))))
def dj:FN:=gk 3 6 (ay (cU (aT (ah (z? true) aO (mC PM.sk))) (fT "NotWritten" (ae (qs "between two terms stands + or -") ak)) aJ) (ay (aB 3 (xR (aT (ah cG aO (qs "-"))) (l5 bA) bA)) (ay (aB 4 (ah dz (bq (ae bX ak)) aD)) (ay (dQ (d6 (eI bH (qs "*"))) (aA 5) (cU (aT (aj PM.dY (ae eR ak))) (aB 3 (ah dz ck (aj p4 (ae eR ak)))) (lM fC (aj PM.dh (ae aD (ae (cJ eR a! (ba bA)) ak))) (aj PM.bo (ae (cJ eR (ba bA) a!) ak))))) (aP (fO (ae (aj l6 (ae fC ak)) (ae ck ak))))))))
def c5:FN:=gk 2 5 (ay (aB 2 (xR (aT (jb aO (qs "-"))) (qs "-") (qs "+"))) (ay (aB 3 (eI (xR (aT (ah cG bH (qs "-"))) (cJ aO (ba bA) a!) aO) (qs " "))) (ay (cU (aT (ah cG (ah bf (aj bG (ae ck ak)) fP) bX)) (fT "NotWritten" (ae (qs "terms have a sign between each two, and blanks only round it") ak)) aJ) (ay (aB 4 (ah aQ (bq (ae bH ak)) (fY ck bA fP))) (aP (mf 2 [0] (rE true true (ae fC (ae (il ck fP) ak))) (gN [(aA 0),(aA 1)]) cT (aj PM.dj (ae bH (ae aD (ae aO ak))))))))))
def bZ:FN:=gk 3 4 (ay (cF (aj PM.dc (ae aD ak))) (ay (cF (aj PM.bJ (ae aO ak))) (ay (aB 3 (aj PM.made (ae aD (ae aO (ae (aj PM.c5 (ae aO (ae bH ak))) ak))))) (ay (cU (aT (ah gq (aj PM.shown (ae ck ak)) bH)) (fT "NotWritten" (ae (qs "a text is what is written of a sum, sign by sign") ak)) aJ) (aP ck)))))
end PM
namespace SO
open PySem.W PyProof.Rows
section
variable{E:_i}{us:_n}
theorem Kw(hh:A.handled=none)(hl:s.heap.IsList l us.toArray)(ia:IntsAre us ns)(OE:ns≠[])(h:∀t h' tk,(∀b o,s.heap.get? b=some o->h'.get? b=some o)->Q (.int (lD (fun i=>ns.getD i 0) (ns.length-1)) t) {s with heap:=h',toks:=tk}):
  wpAny (model prog w) A (call (.builtin "min") [.ref l]) Q E s:=by
 obtain⟨xs,ex,sx,nx⟩:=Ao ia;rw[ex]at hl;have xN:l<s.heap.objs.size:=by obtain⟨_,e,_⟩:=id hl;exact VL e
 have Ve:0<xs.size:=by
  rw[sx];cases ns with
  |nil=>exact absurd rfl OE
  |cons=>exact Nat.succ_pos _
 refine call_min_walk (Yc hl ?_);refine⟨_,[_,l],[_],_,_,_,_,rfl,Walks.list (A:=A.in1) hh _ l (V7 xN) (intItems xs),
  ⟨⟨_,VR _ rfl,rfl,rfl⟩,hl.push _⟩,fun c hc=>?_,by simpa[intItems]using Ve,CmpOf.ints_lt (numAt xs) (fun _ _=>intItems_at),fun v h' tk hP hk=>?_⟩
 .show c<(s.heap.push _).objs.size;rw[Xn];rcases VJ.mp hc with rfl|hc
  .exact X6 _
  .rcases VJ.mp hc with rfl|hc
   .exact ZX xN
   .cases hc
 .have hold:∀c o,s.heap.get? c=some o->h'.get? c=some o:=fun c o e=>by
   refine hk c o (fun hm=>?_) (Vr _ e);rcases VJ.mp hm with e1|hm
   .have:=VL e;rw[e1]at this;exact Wc _ this
   .cases hm
  obtain⟨t,rfl⟩:=intItems_at hP;have ev:numAt xs (argBest (fun i j=>decide (numAt xs i<numAt xs j)) ((intItems xs).size-1))=lD (fun i=>ns.getD i 0) (ns.length-1):=by rw[pN (numAt xs),show(intItems xs).size-1=ns.length-1 by rw[<-sx];simp[intItems]];exact r! fun i _=>nx i
  rw[ev];exact h t h' tk hold
end
end SO
namespace L2
open PySem.Spec PyProof.Rows
open PySem.Builtin PySem.Builtin.Str
section
variable{to:TE}
theorem Kx(ho:PE X o to)(he:PE X e te)(hb:attributeBase o "find" X.env (eval o X.env)=eval o X.env)(hs:starEach [e] X.env=[(false,eval e X.env)])(hl:(apos.endLine==b8.line)=true):
  PE X (.Call (.Attribute o "find" apos) [e] [] b8) (fun σ H Q=>to σ H fun x H1=>∃a,x=.str a/\te σ H1 fun y H2=>∃b,y=.str b/\Q (.int (Txt.find a b)) H2):=by
 intro ai s σ H Q I h;refine Y5 hb hs hl (cR (ho ai s σ H _ I h) fun v s1⟨x,H1,I1,r1,a,e1,q1⟩=>?_);subst e1;obtain⟨t,rfl⟩:=r1;refine SB.find (cR (he ai s1 σ H1 _ I1 q1) fun u s2⟨y,H2,I2,r2,b,e2,q2⟩=>?_);subst e2;obtain⟨t',rfl⟩:=r2;exact⟨b,t',rfl,.int _,H2,I2.tok _,⟨_,rfl⟩,q2⟩
theorem Az(hh:X.A.handled=none):c6 X (.builtin "min") (fun xs H Q=>∃a ns,xs=[.ref a]/\lY X.K H a (ns.map V.int)/\ns≠[]/\Q (.int (SO.lD (fun i=>ns.getD i 0) (ns.length-1))) H):=by rintro ai s σ H xs ws Q I r ⟨a,ns,rfl,ha,OE,q⟩;obtain⟨u,rfl,ru⟩:=vals1 r;cases ru;obtain⟨aM,r1,p1,_⟩:=I.list ha;exact SO.Kw hh p1.isList (yi r1) OE fun t h' tk kp=>⟨.int _,H,I.kept kp,⟨t,rfl⟩,q⟩
end
end L2
namespace MN
open PySem.Spec L2
open PyProof.Rows hiding St kindOf
def sq(mo me:ME):ME:=pZ mo fun a μ st=>(me μ st).bind fun v st2=>match v with
 |.str b=>.ok (.int (Txt.find a b)) st2
 |_=>.bad
def Ky:F2
 |.str i,.str j,st=>.ok (.bl (!(!(Builtin.Str.occurrences j i 0 j.length 1).isEmpty))) st
 |_,_,_=>.bad
def uC:FN
 |[.loc n],st=>match aq st n with
  |some us=>match kA us with
   |some (n::ns)=>.ok (.int (SO.lD (fun i=>(n::ns).getD i 0) ns.length)) st
   |_=>.bad
  |none=>.bad
 |_,_=>.bad
section
variable{i:Expr}{mi:ME}
theorem Kz(ho:PE X o (tE X E mo))(he:PE X e (tE X E me))(hb:attributeBase o "find" X.env (eval o X.env)=eval o X.env:=by rfl)(hs:starEach [e] X.env=[(false,eval e X.env)]:=by rfl)(hl:(apos.endLine==b8.line)=true:=by rfl):
  PE X (.Call (.Attribute o "find" apos) [e] [] b8) (tE X E (sq mo me)):=by
 refine PE.imp (Kx ho he hb hs hl) ?_;rintro σ H Q ⟨μ,ρ,st,rs,sr,h⟩;refine go μ ρ st rs sr h fun u st1 ρ1 H1 x e1 b? r1 h1=>?_;cases u with
 |str a=>
  refine⟨a,r1.fN,?_⟩;refine go μ ρ1 st1 (rs.mono e1) b? h1 fun v st2 ρ2 H2 y e2 iZ r2 h2=>?_;cases v with
  |str b=>exact⟨b,r2.fN,fu iZ h2⟩
  |_=>exact h2.elim
 |_=>exact h1.elim
theorem vj:ej X (compareOp .NotIn) (rM (wo X) E Ky):=by
 refine ej.imp vR ?_;rintro x y H Q ⟨ρ,st,u,w,sr,r1,r2,h⟩;cases u with
 |str a=>
  cases w with
  |str b=>exact⟨a,b,r1.fN,r2.fN,e_ sr h⟩
  |_=>exact h.elim
 |_=>exact h.elim
theorem AA(hh:X.A.handled=none):c6 X (.builtin "min") (cM (wo X) E uC):=by
 refine c6.imp (Az hh) ?_;rintro xs H Q ⟨ρ,st,us,sr,r,h⟩;unfold uC at h;split at h
 .rename_i n;obtain⟨v,rfl,r1⟩:=r.By;split at h
  .rename_i ws hw;split at h
   .rename_i n ns hk;obtain⟨a,rfl,ha⟩:=r1.fD;obtain⟨vs,hs,rv⟩:=bP sr hw ha;rw[Dq hk]at rv;rw[bp.Ko rv]at hs;exact⟨a,n::ns,rfl,hs,by simp,fu sr h⟩
   .exact h.elim
  .exact h.elim
 .exact h.elim
theorem GW(hu:X.A.units+64<cLine):ej X (compareOp .In) (rM (wo X) E (Kp false)):=Kq hu false
end
end MN
namespace PM
open PySem.Spec L2 MN
open PyProof.Rows hiding St
def cm:FN:=gk 2 3 (ay (cU (eY (aT (ah cG aD (qs ""))) (aT (ah BC (aj bG (ae aD ak)) aO))) (aP (l5 bA)) aJ) (ay (dQ (jz aD) (aA 2) (cU (aT (ah Ky bH (qs "0123456789"))) (aP (l5 bA)) aJ)) (aP (aj p4 (ae aD ak)))))
def gf:FN:=gk 1 2 (ay (aB 1 (bq (ae (qs "") (ae (qs "0") (ae (qs "-0") (ae (qs "00") (ae (qs "+1") (ae (qs "1*x") (ae (qs "-1*x") (ae (qs "x^1") (ae (qs "x^0") (ae (qs "x*x") (ae (qs "y*x") (ae (qs "2*3") (ae (qs "2*") (ae (qs "*x") (ae (qs "x*") (ae (qs "x^") (ae (qs "^2") ak))))))))))))))))))) (ay (aB 1 (ah aQ aO (bq (ae (qs "X") (ae (qs "x + 0") (ae (qs "0*x") (ae (qs "x + x") (ae (qs "1 + x") (ae (qs "y + x") (ae (qs "x +1") (ae (qs "x+1") (ae (qs " x") (ae (qs "x ") (ae (qs "x  + 1") (ae (qs "x + -1") (ae (qs "--x") ak)))))))))))))))) (ay (aB 1 (ah aQ aO (bq (ae (qs "x^100") (ae (qs "x +") (ae (qs "-") (ae (qs "x y") (ae (qs "x^1") (ae (qs "2*x^1") (ae (qs "x^1 + 1") (ae (qs "-x^1") ak))))))))))) (aP (ah bY aO (ah bf aD (mC (.int 38))))))))
def fG:FN:=gk 1 2 (ay (aB 1 (qs " !\"#$&'()*+,-./0123456789:;<=>?@ABCDEFGHIJKLMNOPQRSTUVWXYZ[\\]^_`")) (ay (aB 1 (ah aQ aO (qs "abcdefghijklmnopqrstuvwxyz{|}~\n\t"))) (ay (cU (aT (ah cG (ah bf aD fP) bA)) (aB 1 (qs "0123456789xyzw^*+- ")) aJ) (aP (ah bY aO (ah bf (ah bV aD fP) (aj bG (ae aO ak))))))))
def dZ:FN:=gk 3 7 (ay (aB 3 (ah dz (bq (ae bX ak)) aD)) (ay (aB 4 bA) (ay (dQ (d6 (eI aO (qs "*"))) (aA 5) (ay (aB 6 (sq (qs "xyzw") (cJ eR a! (ba bA)))) (ay (cU (eY (aT (ah cG eR (qs ""))) (aT (ah Rn jt aD))) (aP (mC .cO)) aJ) (ay (cU (aT (ah ltV jt bX)) (aB 4 (ah dz fC (aj PM.cm (ae eR (ae Fl ak))))) (cU (aT (ah cG (aj bG (ae eR ak)) bA)) (lM ck jt bA) (lM ck jt (aj PM.cm (ae (cJ eR (ba fP) a!) (ae fP ak)))))) (cU (eY (aT (ah ltV fC bX)) (aT (ah ltV (aj uC (ae ck ak)) bX))) (aP (mC .cO)) aJ))))) (aP (fO (ae (aj l6 (ae ck ak)) (ae (ah dz bH fC) ak)))))))
def fH:FN:=gk 3 4 (ay (aB 3 (ah bf bH (ah aQ (aj bG (ae aD ak)) bA))) (ay (cU (aT (ah cG (ah bf aO lu) bX)) (aP (ah aQ (ah aQ (cJ aD a! (ba ck)) (aj PM.fG (ae (ah bV aO lu) ak))) (cJ aD (ba ck) a!))) aJ) (ay (cU (aT (ah cG (ah bf aO lu) bA)) (aP (ah aQ (cJ aD a! (ba ck)) (cJ aD (ba (ah aQ ck bA)) a!))) aJ) (aP (ah aQ (ah aQ (cJ aD a! (ba ck)) (aj PM.fG (ae (ah bV aO lu) ak))) (cJ aD (ba (ah aQ ck bA)) a!))))))
def dF:FN:=gk 3 8 (ay (aB 3 (bq ak)) (ay (aB 4 bA) (ay (aB 5 (eI bH (qs " "))) (ay (cU (aT (ah cG (cJ bH a! (ba bA)) (qs "-"))) (ay (aB 4 (l5 bA)) (aB 5 (eI (cJ bH (ba bA) a!) (qs " ")))) aJ) (ay (dQ (cz (ae (aj bG (ae eR ak)) ak)) (aA 6) (cU (aT (ah cG (ah bf jt fP) bX)) (cF (jk cL ck (ae (aj PM.dZ (ae aO (ae (ah bY eR jt) (ae fC ak)))) ak))) (ay (aB 4 bA) (cU (aT (ah cG (ah bY eR jt) (qs "-"))) (aB 4 (l5 bA)) aJ)))) (ay (cU (aT (ah (Kp false) (mC .cO) ck)) (aP (mC .cO)) aJ) (ay (aB 7 (aj PM.bB (ae bX (ae ck ak)))) (ay (cU (eY (aT (ah gq (aj PM.b! (ae g? ak)) bH)) (i_ (aT (ah gq aD bX)) (aT (ah gq (aj PM.bB (ae aD (ae g? ak))) g?)))) (aP (mC .cO)) aJ) (aP g?)))))))))
def fI:FN:=gk 2 3 (ay (aB 2 (ah bf aO (ah uA (aj bG (ae aD ak)) bA))) (aP (aj PM.b! (ae (ah aQ (ah aQ (zJ aD a! (ba bH)) (bq (ae (ah bY aD (ah aQ bH bA)) (ae (ah bY aD bH) ak)))) (zJ aD (ba (ah aQ bH fP)) a!)) ak))))
end PM
namespace GX
open PySem.Spec L2 MN
open PyProof.Rows hiding St
def R8:List (Str×Str×Bool):=[(("NotWritten":Str),("NoUnknowns":Str),false),(("NotWritten":Str),("NotWritten":Str),true),(("NotWritten":Str),("AlgebraError":Str),true),(("NoRing":Str),("NoUnknowns":Str),false),(("NoRing":Str),("NotWritten":Str),false),(("NoRing":Str),("AlgebraError":Str),true),(("NoUnknowns":Str),("NoUnknowns":Str),true),(("NoUnknowns":Str),("NotWritten":Str),false),(("NoUnknowns":Str),("AlgebraError":Str),true),(("NoTerm":Str),("NoUnknowns":Str),false),(("NoTerm":Str),("NotWritten":Str),false),(("NoTerm":Str),("AlgebraError":Str),true)]
def tab:List (Str×Str×Bool):=R8++RV ["NotWritten","NoRing","NoUnknowns","NoTerm"]
def kn:_q:=["NotWritten","NoRing","NoUnknowns","NoTerm"]
def b5:FN:=gk 3 3 (m3 (rK (Iv kn) (aP (fO (ae (v_ (qs "told")) (ae (aj PM.bZ (v_ (ae aD (ae aO (ae bH ak))))) ak)))) (kr (gA tab) "NoUnknowns" (aP (fO (ae (qs "no unknowns") (ae (bq ak) ak)))) (kr (gA tab) "NotWritten" (aP (fO (ae (qs "not written") (ae (bq ak) ak)))) F1))))
def dy:FN:=gk 3 4 (ay (m3 (rK (Iv kn) (cF (aj PM.bZ (v_ (ae aD (ae aO (ae bH ak)))))) (N! (gA tab) "AlgebraError" 3 (aP (rL (gA tab) 3 "ValueError")) F1))) (aP (mC (.bl false))))
def vk:MB:=(aP (mW (ah cG (ah bY C4 bX) (qs "told")) (aj PM.gS (ae (ah bY C4 bA) (ae Fj ak)))))
def oG:MB:=(ay (cU (aT (ah (S9 false) Fj (mC .cO))) (aP (mW (ah cG (ah bY C4 bX) (qs "not written")) (aj dy (ae aO (ae fC (ae g? ak)))))) aJ) vk)
def oH:MB:=(ay (aB 11 (aj b5 (ae aO (ae fC (ae g? ak))))) oG)
def k_:MB:=(ay (aB 10 (aj PM.dF (ae aO (ae fC (ae g? ak))))) oH)
def k!:MB:=(ay (cU (aT (ah cG (ah bf (ah bV ck xS) z!) bA)) (ay (aB 9 (ah bY (bq (ae bX (ae Jz (ae (l5 bA) (ae (mC (.bl true)) (ae (mC .cO) (ae (qs "1") (ae Fn ak)))))))) (ah bf (aj PM.aE (ae aD (ae Jz ak))) Ir))) (aP (mW (ah cG (ah bY (aj b5 (ae aO (ae NU (ae g? ak)))) bX) (qs "no unknowns")) (aj dy (ae aO (ae NU (ae g? ak))))))) aJ) k_)
def k?:MB:=(ay (cU (aT (ah (z? false) (ah bf ck xS) (fO (ae fP (ae kd (ae JA ak)))))) (aB 7 (aj PM.gf (ae (aj PM.aE (ae aD (ae lu ak))) ak))) aJ) k!)
def lg:MB:=(ay (cU (aT (ah cG (ah bf ck xS) z!)) (ay (aB 8 (bq (ae (qs "1*x") (ae (qs "-1*x") (ae (qs "x^2 + 1*x") (ae (qs "1*x^2 - 1") (ae (ah aQ (qs "1*") g?) (ae (ah aQ (qs "0") g?) (ae (ah aQ (qs "-") g?) (ae (ah aQ (qs "x*") g?) ak)))))))))) (aB 7 (ah bY (jw 8) (ah bf (aj PM.aE (ae aD (ae lu ak))) z!)))) aJ) k?)
def nk:MB:=(ay (cU (aT (ah cG (ah bf ck fP) bA)) (aB 7 (aj PM.fH (ae g? (ae (aj PM.aE (ae aD (ae lu ak))) (ae (aj PM.aE (ae aD (ae kd ak))) ak))))) aJ) lg)
def su:MB:=(ay (cU (i_ (aT (ah cG (ah bf (ah bV bH Fm) z!) bA)) (aT (ah BC (aj bG (ae jt ak)) bA))) (aB 7 (aj PM.fI (ae jt (ae (aj PM.aE (ae aD (ae kd ak))) ak)))) aJ) nk)
def nq:MB:=(ay (aB 7 (aj PM.b! (ae jt ak))) su)
def nr:MB:=(ay (cU (aT (ah cG (ah bf (ah bV bH Fm) kd) bA)) (aB 6 (aj PM.bB (ae eR (ae (aj PM.dq (ae aD (ae JA (ae fC (ae (ah aQ kd (ah bf (ah bV bH (mC (.int 320))) (mC (.int 9)))) ak))))) ak)))) aJ) nq)
def yt:MB:=(ay (aB 6 (aj PM.bB (ae eR (ae (aj PM.dq (ae aD (ae JA (ae fC (ae (ah bf (ah bV bH (mC (.int 16))) Jz) ak))))) ak)))) nr)
def yu:MB:=(ay (aB 5 (ah bY (bq (ae aO (ae aO (ae bX (ae xU ak))))) (ah bf (ah bV bH kd) kd))) yt)
def yw:MB:=(ay (aB 4 (ah aQ bA (ah bf bH kd))) yu)
def yx:MB:=(ay (aB 3 (aj PM.aE (ae aD (ae fP ak)))) yw)
def sv:MB:=(ay (aB 2 (aj PM.aE (ae aD (ae bA ak)))) yx)
def GY:FN:=gk 1 12 (ay (aB 1 (aj PM.iE (ae (aj PM.aE (ae aD (ae bX ak))) ak))) sv)
end GX
namespace OX
open PySem.Spec L2 MN
open PyProof.Rows hiding St
end OX
namespace TX
open Builtin Builtin.Str
abbrev cl(x:PySem.Str):List Nat:=x.cps.toList
theorem fh{x y:PySem.Str}(h:cl x=cl y):x=y:=by obtain⟨⟨a⟩⟩:=x;obtain⟨⟨b⟩⟩:=y;have:a=b:=h;rw[this]
theorem fJ(x y:PySem.Str):cl (x++y)=cl x++cl y:=by show(x.cps++y.cps).toList=_;rw[Array.toList_append]
theorem a_(x:PySem.Str):(cl x).length=x.length:=V5
def jn(c:Nat):List (List Nat)->List Nat
 |[]=>[]
 |[a]=>a
 |a::b::r=>a++c::jn c (b::r)
theorem gI(c:Nat):∀xs:List PySem.Str,cl (Txt.join ⟨#[c]⟩ xs)=jn c (xs.map cl):=by
 have go:∀xs:List PySem.Str,cl (PySem.Str.join ⟨#[c]⟩ xs)=jn c (xs.map cl):=by
  intro xs
  induction xs with
  |nil=>rfl
  |cons a r ih=>
   cases r with
   |nil=>rfl
   |cons b r=>
    show cl (a++⟨#[c]⟩++PySem.Str.join ⟨#[c]⟩ (b::r))=cl a++c::jn c (cl b::r.map cl);rw[fJ,fJ,ih,Vy];rfl
 intro xs;unfold Txt.join;rw[Xi];exact go xs
theorem B1{c:Nat}:∀{a b X Y:List Nat},c ∉ a->c ∉ b->a++c::X=b++c::Y->a=b/\X=Y
 |[],[],X,Y,_,_,h=>by injection h with _ h;exact⟨rfl,h⟩
 |[],b::bs,X,Y,_,hb,h=>by injection h with h _;exact absurd (h▸Vu) hb
 |a::as,[],X,Y,ha,_,h=>by injection h with h _;exact absurd (h▸Vu) ha
 |a::as,b::bs,X,Y,ha,hb,h=>by injection h with h1 h2;obtain⟨r1,r2⟩:=B1 (fun z=>ha (Vq _ z)) (fun z=>hb (Vq _ z)) h2;exact⟨by rw[h1,r1],r2⟩
theorem GZ{c:Nat}:∀(ps qs:List (List Nat)),ps≠[]->qs≠[]->(∀p∈ps,c ∉ p)->(∀q∈qs,c ∉ q)->jn c ps=jn c qs->ps=qs
 |[],_,h,_,_,_,_=>absurd rfl h
 |_,[],_,h,_,_,_=>absurd rfl h
 |[a],[b],_,_,_,_,h=>by have:a=b:=h;rw[this]
 |[a],b::b'::r,_,_,ha,_,h=>by have h':a=b++c::jn c (b'::r):=h;exact absurd (show c∈a by rw[h'];simp) (ha a Vu)
 |a::a'::r,[b],_,_,_,hb,h=>by have h':a++c::jn c (a'::r)=b:=h;exact absurd (show c∈b by rw[<-h'];simp) (hb b Vu)
 |a::a'::r,b::b'::r',_,_,ha,hb,h=>by have h':a++c::jn c (a'::r)=b++c::jn c (b'::r'):=h;obtain⟨r1,r2⟩:=B1 (ha a Vu) (hb b Vu) h';rw[r1,GZ (a'::r) (b'::r') (by simp) (by simp) (fun p hp=>ha p (Vq _ hp)) (fun p hp=>hb p (Vq _ hp)) r2]
theorem yy(x y:PySem.Str):Txt.split x y≠[]:=by
 unfold Txt.split;split
 .simp
 .split
  .simp
  .unfold partsBetween;intro h;have:=W! List.length h;simp at this
theorem map_inj:∀{ps qs:List PySem.Str},ps.map cl=qs.map cl->ps=qs
 |[],[],_=>rfl
 |[],_::_,h=>by cases h
 |_::_,[],h=>by cases h
 |p::ps,q::qs,h=>by rw[Vp,Vp]at h;injection h with h1 h2;rw[fh h1,map_inj h2]
theorem mm{c:Nat}{ps:List PySem.Str}(hn:ps≠[])(hf:∀p∈ps,c ∉ cl p):Txt.split (Txt.join ⟨#[c]⟩ ps) ⟨#[c]⟩=ps:=by
 have h1:=YO (Txt.join ⟨#[c]⟩ ps) ⟨#[c]⟩;have h2:=StrLaws.split_free (Txt.join ⟨#[c]⟩ ps) c;have h3:=yy (Txt.join ⟨#[c]⟩ ps) ⟨#[c]⟩;generalize Txt.split (Txt.join ⟨#[c]⟩ ps) ⟨#[c]⟩=qs at h1 h2 h3;have h4:Txt.join ⟨#[c]⟩ qs=Txt.join ⟨#[c]⟩ ps:=by have:Txt.join ⟨#[c]⟩ qs=PySem.Str.join ⟨#[c]⟩ qs:=Xi _ _;rw[this,h1]
 have h5:=W! cl h4;rw[gI,gI]at h5;exact map_inj (GZ _ _ (by simpa using h3) (by simpa using hn) (fun p hp=>by
  obtain⟨q,hq,rfl⟩:=V0.mp hp;exact h2 q hq) (fun p hp=>by
  obtain⟨q,hq,rfl⟩:=V0.mp hp;exact hf q hq) h5)
theorem iz(x:PySem.Str){l u:Option Int}{a b:Nat}(hab:a<=b)(hb:b<=x.length)(e:strSliceIndices l u 1 x.length=strSliceIndices (some (a:Int)) (some (b:Int)) 1 x.length):cl (Txt.slice x l u)=((cl x).drop a).take (b-a):=by
 have p:=StrLaws.sliced_plain x hab hb;have q:=StrLaws.strSliceIndices_plain hab hb;unfold Txt.slice;rw[e];split
 .rename_i h;rw[q,Vt,V9]at h;have hl:b-a=x.length:=by simpa using h
  have ha:a=0:=by lia
  subst ha;rw[X',Wb (by rw[a_];lia)]
 .rw[p]
theorem iH(x:PySem.Str):cl (Txt.slice x (some 1) none)=(cl x).drop 1:=by
 by_cases h:x.length=0
 .have e:x=PySem.Str.empty:=fh (by have:=a_ x;rw[h]at this;rw[XA.mp this];rfl);subst e;rfl
 .have z:=iz x (l:=some 1) (u:=none) (a:=1) (b:=x.length) (by lia) (Vv _) (by
   have e1:max (0:Int) (min ((x.length:Nat):Int) ((x.length:Nat):Int))=(x.length:Int):=by lia
   have e2:¬ (((x.length:Nat):Int)<0):=by lia
   simp only[strSliceIndices,e2,W8,e1,show((1:Int)>0)=True from by simp,Xz];rfl)
  rw[z,Wb (by rw[WU,a_];lia)]
theorem mn(x:PySem.Str):cl (Txt.slice x none (some 1))=(cl x).take 1:=by
 by_cases h:x.length=0
 .have e:x=PySem.Str.empty:=fh (by have:=a_ x;rw[h]at this;rw[XA.mp this];rfl);subst e;rfl
 .have z:=iz x (l:=none) (u:=some 1) (a:=0) (b:=1) (by lia) (by lia) (by
   have e1:max (0:Int) (min ((0:Nat):Int) ((x.length:Nat):Int))=0:=by lia
   simp only[strSliceIndices,e1,show((1:Int)>0)=True from by simp,Xz];rfl)
  rw[z,X']
theorem sE(x:PySem.Str)(c:Nat):Txt.startswith x ⟨#[c]⟩=((cl x).take 1==[c]):=by
 unfold Txt.startswith
 rw[StrLaws.subAt_eq,X'];show(decide (0+1<=x.length)&&((cl x).take 1==[c]))=_;rw[<-a_];cases cl x with
 |nil=>rfl
 |cons a r=>simp
theorem AB(m:Nat):cl (PySem.Str.ofString (toString ((m:Nat):Int)))=(Nat.toDigits 10 m).map Char.toNat:=W.KIN.signs_num m
theorem AD(m:Nat):PySem.NumText.AllDigits (cl (PySem.Str.ofString (toString ((m:Nat):Int)))):=by intro c hc;rw[AB]at hc;obtain⟨ch,Ed,e⟩:=V0.mp hc;rw[<-e];exact PyProof.Rows.digit_range (Nat.isDigit_of_mem_toDigits (by decide) (by decide) Ed)
theorem OY(m:Nat):cl (PySem.Str.ofString (toString ((m:Nat):Int)))≠[]:=by rw[AB];intro e;have h:=PySem.toDigits_len_ge 10 m;rw[List.map_eq_nil_iff.mp e]at h;exact absurd h (by decide)
end TX
namespace PG
open PySem.Spec L2 MN
open PyProof.Rows hiding St kindOf
theorem iq(i:Int)(st:ao):PM.gO [.int i] st=.ok (.bl true) st:=rfl
def FP:_m:=[2,3,5,7,11,13,17,19,23,29,31]
def zL(n:Int):Bool:=FP.contains n || (decide (2<=n)&&decide (n<=997)&&FP.all fun p => !(n.fmod p==0))
theorem any_ints(n:Int)(ns:_m):(ns.map aw.int).any (fun y=>Iu y (.int n))=ns.contains n:=by
 induction ns with
 |nil=>rfl
 |cons m ns ih=>
  simp only[Vp,WX,List.contains_cons];rw[ih];congr 1;show(m==n)=(n==m);rw[W5,WT,WT];exact⟨ZE,ZE⟩
theorem KA(n:Int)(ns:_m)(st:ao):z? false (.int n) (.mt (ns.map aw.int)) st=.ok (.bl (ns.contains n)) st:=by
 have h1:(ns.map aw.int).all flat=true:=by rw[YI];exact Wa.mpr fun _ _=>rfl
 unfold z? FG;dsimp only;rw[Vs ⟨rfl,h1⟩,any_ints];rfl
theorem KC(ns:_m)(f:Int->Bool):jx ((ns.map aw.int).map fun v=>match v with|.int i=>.bl (f i)|_=>.cO)=some (ns.map f):=by
 induction ns with
 |nil=>rfl
 |cons m ns ih=>
  simp only[Vp,jx]at ih⊢;rw[ih];rfl
theorem lE(n:Int)(st:ao):∃g,PM.cP [.int n] st=.ok (.bl (zL n)) (st++g):=by
 have LK:z? false (.int n) PM.gr st=.ok (.bl (FP.contains n)) st:=KA n FP st;cases h1:FP.contains n with
 |true=>
  refine⟨[],?_⟩;rw[h1]at LK;simp only[PM.cP,aY,au,az,fE,bQ,a8,bR,a7,cH,dD,cY,bj,bh,av,aL,bF,b_,Vp,VO,VF,Nat.reduceSub,Vo,VI,Nat.reduceAdd,LK,VW,zL,h1,Zs]
 |false=>
  rw[h1]at LK;by_cases h2:n<2
  .refine⟨[],?_⟩;have e2:decide (n<2)=true:=VA h2;have e3:decide (2<=n)=false:=VE (by lia);simp only[PM.cP,aY,au,az,ax,fE,bQ,a8,bR,a7,ij,cH,dD,cE,cY,bj,bh,dC,av,c8,aL,bF,jy,b_,Vp,VO,VF,Nat.reduceSub,Vo,VI,Nat.reduceAdd,LK,e2,VW,zL,h1,e3,X2,Xu]
  .have e2:decide (n<2)=false:=VE h2;have e3:decide (2<=n)=true:=VA (by lia);by_cases h3:997<n
   .refine⟨[],?_⟩;have e4:decide (997<n)=true:=VA h3;have e5:decide (n<=997)=false:=VE (by lia);simp only[PM.cP,aY,au,az,ax,fE,bQ,a8,bR,a7,dS,cH,dD,cE,cY,bj,bh,dC,av,c8,aL,bF,jy,m?,b_,Vp,VO,VF,Nat.reduceSub,Vo,VI,Nat.reduceAdd,LK,e2,e4,VW,zL,h1,e3,e5,X2,Xu,XD]
   .have e4:decide (997<n)=false:=VE h3;have e5:decide (n<=997)=true:=VA (by lia)
    let f:aw->aw:=fun v=>match v with|.int i=>.bl (!(n.fmod i==0))|_=>.cO
    have hc:dR (fun _=>True) (aA 0) cT (ah gq (ah bf aO aD) (mC (aw.int 0))) (FP.map aw.int) (j! 1 [0] [some (aw.int n)]) st []=.ok ([]++((FP.map aw.int).filter fun _=>true).map f) st:=by
     refine e7 trivial (fun τ=>∃x,τ=[x,some (.int n)]) (fun _=>true) f (FP.map aw.int) _ [] ⟨none,rfl⟩ ?_;rintro u hu τ ⟨x,rfl⟩;obtain⟨i,hi,rfl⟩:=V0.mp hu;have Vf:¬ i=0:=by intro z;subst z;revert hi;decide
     refine⟨_,rfl,⟨_,rfl⟩,rfl,fun _=>?_⟩;simp only[au,a8,bR,a7,cY,lO,b_,cN,V1,cZ Vf,f]
    have hb:jx (((FP.map aw.int).filter fun _=>true).map f)=some (FP.map fun i => !(n.fmod i==0)):=by rw[Xt.mpr (fun _ _=>rfl)];exact KC FP fun i => !(n.fmod i==0)
    refine⟨[.lst (((FP.map aw.int).filter fun _=>true).map f)],?_⟩;have ha:oj [.loc st.length] (st++[.lst (((FP.map aw.int).filter fun _=>true).map f)])=.ok (.bl (zL n)) (st++[.lst (((FP.map aw.int).filter fun _=>true).map f)]):=by unfold oj;dsimp only;rw[aN];dsimp only;rw[hb];simp only[zL,h1,e3,e5,X2,XD,YI];rfl
    have hw:pL PM.gr st=.ok (FP.map aw.int,fun _=>True) st:=rfl;have hz:(FP.map aw.int).length=11:=rfl;rw[VG]at hc;simp only[PM.cP,aY,au,az,ax,bQ,a8,bR,a7,dS,bE,aZ,cH,cE,m_,jT,cY,bj,bh,dC,bS,aW,bU,av,c8,aL,bF,ik,fB,jy,m?,b_,Vp,VO,VH,VG,VF,Nat.reduceSub,Vo,VI,Nat.reduceAdd,VN,Nat.reduceLeDiff,↓reduceIte,LK,e2,e4,hw,hc,ha,hz]
end PG
namespace M03
end M03
namespace PG
open PySem.Spec L2 MN
open PyProof.Rows hiding St kindOf
def fR(n:Int):Bool:=n==0 || zL n
theorem yz(n:Int)(st:ao):∃g,PM.kY [.int n] st=.ok (.bl (fR n)) (st++g):=by
 cases h:n==0 with
 |true=>exact⟨[],by simp only[PM.kY,aY,au,az,bQ,a8,bR,a7,kZ,Oi,bE,aZ,cH,cY,l9,LR,bS,aW,bU,aL,fQ,b_,Vp,VO,VF,Nat.reduceSub,Vo,VI,Nat.reduceAdd,iq,h,fR,Zs,VW]⟩
 |false=>
  obtain⟨g,e⟩:=lE n st;exact⟨g,by simp only[PM.kY,aY,au,az,bQ,a8,bR,a7,kZ,Oj,bE,aZ,cH,cY,l9,LR,bS,aW,bU,aL,fQ,b_,Vp,VO,VH,VG,VF,Nat.reduceSub,Vo,VI,Nat.reduceAdd,iq,h,fR,X2,e]⟩
theorem jl{n:Int}(h:fR n=true)(st:ao):∃g,PM.dc [.int n] st=.ok .cO (st++g):=by obtain⟨g,e⟩:=yz n st;rw[h]at e;exact⟨g,by simp only[PM.dc,aY,au,az,Og,wg,bE,aZ,cE,bj,bh,k6,bS,aW,bU,c8,bF,b_,Vp,VO,VH,VG,VF,Nat.reduceSub,Vo,VI,Nat.reduceAdd,X1,e]⟩
theorem DF{p:Int}(h:zL p=true):2<=p/\p<=997:=by
 unfold zL at h;rw[YW]at h;rcases h with h|h
 .have:p∈FP:=by simpa using h
  simp only[FP,VJ,Zq,X4]at this;omega
 .simp only[V4,W6]at h;omega
theorem G0{p:Int}(hp:0<p)(i:Int):i.fmod p=i % p:=WJ i (by lia)
theorem G1{p:Int}(h:zL p=true):fR p=true:=by unfold fR;rw[h,Bool.or_true]
theorem AE{f o:Int}(h0:0<=f)(h1:f<2 ^ (31*i))(o0:0<=o)(o1:o<2147483647):0<=f*2147483647+o/\f*2147483647+o<2 ^ (31*(i+1)):=by
 have e:(2:Int) ^ (31*(i+1))=2 ^ (31*i)*2147483648:=by rw[Nat.mul_succ,Int.pow_add];rfl
 rw[e];lia
theorem KD{k:Int}(h0:0<=k)(h1:k<(ns.length:Int)):∃c:Int,L2.pF (ns.map aw.int) k=some (.int c):=by
 have hk:k.toNat<ns.length:=by lia
 refine⟨ns[k.toNat],?_⟩;have e:=L2.ft (xs:=ns.map aw.int) (j:=k.toNat) (v:=.int ns[k.toNat]) (by rw[VV,VD hk];rfl);rw[show((k.toNat:Nat):Int)=k by lia]at e;exact e
theorem gT{m:Int}(hm:0<m)(i:Int):0<=i.fmod m/\i.fmod m<m:=by rw[G0 hm];exact⟨Int.emod_nonneg _ (by lia),Int.emod_lt_of_pos _ hm⟩
theorem wz{k:Int}(h:aq st n=some (ns.map aw.int))(k0:0<=k)(k1:k<=1000000):
  ∃o,PM.aE [.loc n,.int k] st=.ok (.int o) st/\0<=o/\o<2 ^ 186:=by
 have len:((List.map aw.int ns).length:Int)=(ns.length:Int):=by rw[Vt]
 have loop:∀(c x:Int),0<=x->x<2147483647->∃μ' aF o,forL (fun _=>True) (aA 5) (ay (aB 3 (ah bf (ah aQ (ah dz (ah bf (ah dz ck ck) (mC (.int 2147483629))) (mC (.int 69621))) eR) eZ)) (aB 4 (ah aQ (ah dz fC eZ) ck))) (bD 0 6) [qL n, qI k, qI c, qI x, qI 0, qn] st=.nx μ' aF/\aF=st/\(∃y t,μ'=[qL n, qI k, qI c, y, qI o, t])/\0<=o/\o<2 ^ 186:=by
  intro c x x0 x1;obtain⟨μ',aF,e,rfl,o,f,t,rfl,o0,o1,f0,f1⟩:=et (g:=fun _=>True) (a:=aA 5) (body:=ay (aB 3 (ah bf (ah aQ (ah dz (ah bf (ah dz ck ck) (mC (.int 2147483629))) (mC (.int 69621))) eR) eZ)) (aB 4 (ah aQ (ah dz fC eZ) ck)))
   (fun i μ s=>s=st/\∃(o f:Int)(t:Option aw),μ=[qL n, qI k, qI c, qI o, qI f, t]/\0<=o/\o<2147483647/\0<=f/\f<2 ^ (31*i))
   (bD 0 6) 0 [qL n, qI k, qI c, qI x, qI 0, qn] st
   (by
    rintro i u μ s hu ⟨rfl,o,f,t,rfl,o0,o1,f0,f1⟩;refine⟨trivial,?_⟩;have hi:i<6:=by have:=gG hu;simpa[bD]using this
    have eu:u=.int (0+(i:Int)):=by simp only[bD,VV]at hu;rw[ZC hi]at hu;exact(V! hu).symm
    subst eu;have q1:=gT (m:=2147483629) (by decide) (o*o);have q2:=gT (m:=2147483647) (by decide) ((o*o).fmod 2147483629*69621+(0+(i:Int)));refine⟨_,rfl,[qL n, qI k, qI c, qI (((o*o).fmod 2147483629*69621+(0+(i:Int))).fmod 2147483647), qI (f*2147483647+((o*o).fmod 2147483629*69621+(0+(i:Int))).fmod 2147483647), qI (0+(i:Int))],s,.inl ?_,rfl,_,_,_,rfl,q2.1,q2.2,?_⟩
    .simp only[au,az,ax,a8,bR,a7,hJ,cY,av,eB,rT,b_,cN,V1,V?,ye (i:=o) (by lia) (by lia),cZ (j:=2147483629) (by decide),mul_r (j:=69621) (by decide) (by decide),cZ (j:=2147483647) (by decide),mul_r (j:=2147483647) (by decide) (by decide)]
    .rw[V_]at f1⊢;exact AE f0 f1 q2.1 q2.2) (fun _ _ _=>trivial)
   ⟨rfl,x,0,none,rfl,x0,x1,by decide,by decide⟩
  refine⟨_,_,f,e,rfl,⟨_,_,rfl⟩,f0,?_⟩;have:(bD 0 6).length=6:=rfl;rw[this]at f1;exact f1
 have fin:∀c:Int,((decide (k<((List.map aw.int ns).length:Int))=false/\c=0)\/(decide (k<((List.map aw.int ns).length:Int))=true/\L2.pF (ns.map aw.int) k=some (.int c)))->∃o,PM.aE [.loc n,.int k] st=.ok (.int o) st/\0<=o/\o<2 ^ 186:=by
  intro c hc;have q:=gT (m:=2147483647) (by decide) (c*48271+7919*k*k+104729*k+11);obtain⟨μ',aF,o,e,rfl,⟨y,t,rfl⟩,o0,o1⟩:=loop c _ q.1 q.2;refine⟨o,?_,o0,o1⟩;have r6:J_ [.int 6] aF=.ok (bD 0 6,fun _=>True) aF:=rfl;rcases hc with⟨h1,rfl⟩|⟨h1,h2⟩
  .simp only[PM.aE,aY,au,az,ax,bQ,a8,bR,a7,bE,aZ,cH,cE,hJ,gP,cY,bj,bh,bS,aW,bU,av,c8,aL,bF,eB,fF,qz,rT,jy,b_,lN,cN,Vp,VO,VH,VG,VT,VF,V1,V?,Nat.reduceSub,Vo,VI,Nat.reduceAdd,gu h,h1,mul_r (j:=48271) (by decide) (by decide),ye (i:=7919) (by decide) (by decide),mul_r (j:=k) (by lia) (by lia),cZ (j:=2147483647) (by decide),r6,e]
  .simp only[PM.aE,aY,au,az,ax,bQ,a8,bR,a7,bE,aZ,cH,dD,hJ,gP,cY,bj,bh,bS,aW,bU,av,aL,bF,eB,fF,qz,rT,jy,b_,lN,cN,Vp,VO,VH,VG,VT,VF,V1,V?,Nat.reduceSub,Vo,VI,Nat.reduceAdd,gu h,h1,gX h h2,mul_r (j:=48271) (by decide) (by decide),ye (i:=7919) (by decide) (by decide),mul_r (j:=k) (by lia) (by lia),cZ (j:=2147483647) (by decide),r6,e]
 by_cases hk:k<(ns.length:Int)
 .obtain⟨c,hc⟩:=KD k0 hk;exact fin c (.inr ⟨VA (by rw[len];exact hk),hc⟩)
 .exact fin 0 (.inl ⟨VE (by rw[len];exact hk),rfl⟩)
theorem lG(h:0<j)(h1:j<2 ^ 64):Dz j:=by refine Dz.of (k:=64) (by lia) ?_ (by decide);show j.natAbs<2 ^ 64;lia
theorem OZ{m:Int}(hm:0<m)(i:Int):i.fdiv m=i / m:=Y3 i (by lia)
def Th(n:Int)(u:aw):Bool:=match u with
 |.int b=>decide (b<n)&&(n.fmod b==0)
 |_=>false
def uo(n:Int):List aw:=(bD 2 30).filter (Th n)
theorem O0:∀k:Fin 998,2<=k.val->(uo (k.val:Int)).isEmpty=true->zL (k.val:Int)=true:=by decide +kernel
theorem KG:(uo 997).isEmpty=true:=by decide +kernel
theorem G4(n:Int)(x:Option aw)(st:ao):dR (fun _=>True) (aA 0) (i_ (aT (ah ltV aD aO)) (aT (ah cG (ah bf aO aD) bX))) aD (bD 2 30) [x,some (.int n)] st []=.ok (uo n) st:=by
 have:=e7 (a:=aA 0) (c:=i_ (aT (ah ltV aD aO)) (aT (ah cG (ah bf aO aD) bX))) (e:=aD) (g:=fun _=>True) (st:=st) trivial (fun τ=>∃x,τ=[x,some (.int n)]) (Th n) id (bD 2 30) [x,some (.int n)] [] ⟨x,rfl⟩ ?_
 .rw[this,VG,Zu];rfl
 .rintro u hu τ ⟨x,rfl⟩;simp only[bD,V0,XQ]at hu;obtain⟨i,hi,rfl⟩:=hu;have nz:¬ (2+(i:Int))=0:=by lia
  refine⟨_,rfl,⟨_,rfl⟩,?_,fun _=>rfl⟩;by_cases hb:2+(i:Int)<n
  .have e:decide (2+(i:Int)<n)=true:=VA hb;simp only[au,a8,bR,a7,m7,cY,bj,bh,jQ,jy,fQ,b_,cN,V1,e,cZ nz,Th,XD]
  .have e:decide (2+(i:Int)<n)=false:=VE hb;simp only[au,a8,bR,a7,m8,bj,bh,jQ,jy,b_,cN,V1,e,Th,Xu]
def Vg(μ:MN.Env):Nat:=match(μ[1]?:Option (Option aw)) with
 |some (some (aw.int n))=>(997-n).toNat
 |_=>0
theorem KH{c:Int}(h:0<=c)(st:ao):∃g p,PM.iy [.int c] st=.ok (.int p) (st++g)/\zL p=true:=by
 have d2:Dz 2:=lG (by decide) (by decide);cases hz:c.fmod 2==0 with
 |true=>
  have q:=gT (m:=6) (by decide) (c.fdiv 2);have R9:∀i:Int,0<=i->i<6->∃p,L2.pF ([.int 2,.int 3,.int 5,.int 7,.int 11,.int 13]:List aw) i=some (.int p)/\zL p=true:=by
   intro i i0 i1;have:i=0\/i=1\/i=2\/i=3\/i=4\/i=5:=by lia
   rcases this with rfl|rfl|rfl|rfl|rfl|rfl
   .exact⟨2,rfl,by decide⟩
   .exact⟨3,rfl,by decide⟩
   .exact⟨5,rfl,by decide⟩
   .exact⟨7,rfl,by decide⟩
   .exact⟨11,rfl,by decide⟩
   .exact⟨13,rfl,by decide⟩
  obtain⟨p,ep,hp⟩:=R9 _ q.1 q.2;refine⟨[.lst [.int 2,.int 3,.int 5,.int 7,.int 11,.int 13]],p,?_,hp⟩;simp only[PM.iy,aY,au,az,fE,bQ,a8,bR,a7,bE,aZ,vd,cH,dD,cY,bj,bh,bS,aW,oy,av,aL,bF,fQ,b_,Vp,VO,VH,VG,VT,VF,Nat.reduceSub,Vo,VI,Nat.reduceAdd,VN,Nat.reduceLeDiff,↓reduceIte,cZ (j:=2) (by decide),hz,div_ii d2,cZ (j:=6) (by decide),gX (aN st [.int 2,.int 3,.int 5,.int 7,.int 11,.int 13]) ep]
 |false=>
  have q:=gT (m:=996) (by decide) (c.fdiv 2);have r2:∀st,RJ [.int 2,.int 32] st=.ok (bD 2 30,fun _=>True) st:=fun _=>rfl;have rl:(bD 2 30).length=30:=rfl;have j3:∀(n:Int)(s:ao),aT (ah gq (eh 1 [1] (kX (ae fP (ae (mC (.int 32)) ak))) (aA 0) (i_ (aT (ah ltV aD aO)) (aT (ah cG (ah bf aO aD) bX))) aD) (bq ak)) [some (.int c),some (.int n)] s=.ok (!(uo n).isEmpty) (s++[.lst (uo n)]++[.lst []]):=by intro n s;have M_:j! 1 [1] [some (aw.int c),some (aw.int n)]=[none,some (.int n)]:=rfl;simp only[au,a8,bR,a7,bE,aZ,vd,m_,jT,cY,bj,bh,bS,aW,oy,ik,J!,VI,VN,Nat.reduceLeDiff,↓reduceIte,r2,rl,M_,G4,ne_nil (aC (aN s (uo n)) [.lst []]) (aN (s++[.lst (uo n)]) [])]
  obtain⟨μ',aF,e,g,rfl,n,rfl,n0,n1,em⟩:=Ag (t:=aT (ah gq (eh 1 [1] (kX (ae fP (ae (mC (.int 32)) ak))) (aA 0) (i_ (aT (ah ltV aD aO)) (aT (ah cG (ah bf aO aD) bX))) aD) (bq ak)))
   (body:=aB 1 (ah aQ aO bA))
   (fun μ s=>∃g,s=st++g/\∃n:Int,μ=[some (.int c),some (.int n)]/\2<=n/\n<=997) (fun μ _=>Vg μ)
   (fun μ s=>∃g,s=st++g/\∃n:Int,μ=[some (.int c),some (.int n)]/\2<=n/\n<=997/\(uo n).isEmpty=true)
   (by
    rintro μ s ⟨g,rfl,n,rfl,n0,n1⟩;have t:=j3 n (st++g);cases hd:(uo n).isEmpty with
    |true=>
     rw[hd]at t;exact .inl ⟨_,t,g++([.lst (uo n)]++[.lst []]),by simp only[Vy],n,rfl,n0,n1,hd⟩
    |false=>
     rw[hd]at t;have n2:n≠997:=fun z=>by rw[z,KG]at hd;cases hd
     refine .inr ⟨_,[some (.int c),some (.int (n+1))],_,t,.inl (by simp only[au,az,a8,bR,a7,hJ,cY,eB,rT,b_,cN,V1,V?];rfl),⟨g++([.lst (uo n)]++[.lst []]),by simp only[Vy],n+1,rfl,by lia,by lia⟩,?_⟩;show(997-(n+1)).toNat<(997-n).toNat;lia)
   [some (.int c),some (.int (2+(c.fdiv 2).fmod 996))] st ⟨[],by rw[VW],_,rfl,by lia,by lia⟩
  have hp:=O0 ⟨n.toNat,by lia⟩ (by show 2<=n.toNat;lia) (by show(uo ((n.toNat:Nat):Int)).isEmpty=true;rw[ZD (by lia)];exact em);have hp':zL n=true:=by have:zL ((n.toNat:Nat):Int)=true:=hp;rw[ZD (by lia)]at this;exact this
  refine⟨g,n,?_,hp'⟩;simp only[PM.iy,aY,au,az,ax,bQ,a8,bR,a7,cH,cE,hJ,cY,bj,bh,av,c8,aL,bF,eB,rT,fQ,b_,cN,Vp,VO,VH,VG,VT,VF,V1,V?,Nat.reduceSub,Vo,VI,Nat.reduceAdd,cZ (j:=2) (by decide),hz,div_ii d2,cZ (j:=996) (by decide),e]
theorem O1{c:Int}(h:0<=c)(st:ao):∃g p,PM.iE [.int c] st=.ok (.int p) (st++g)/\(p=0\/zL p=true):=by
 have d3:Dz 3:=lG (by decide) (by decide);cases hz:c.fmod 3==0 with
 |true=>exact⟨[],0,by simp only[PM.iE,aY,au,az,fE,bQ,a8,bR,a7,cH,dD,cY,bj,bh,av,aL,bF,fQ,b_,Vp,VO,VF,Nat.reduceSub,Vo,VI,Nat.reduceAdd,cZ (j:=3) (by decide),hz,VW],.inl rfl⟩
 |false=>
  obtain⟨g,p,e,hp⟩:=KH (c:=c.fdiv 3) (by rw[OZ (by decide)];exact Int.ediv_nonneg h (by decide)) st;exact⟨g,p,by simp only[PM.iE,aY,au,az,ax,bQ,a8,bR,a7,bE,aZ,cH,cE,cY,bj,bh,bS,aW,bU,av,c8,aL,bF,fQ,b_,Vp,VO,VH,VG,VF,Nat.reduceSub,Vo,VI,Nat.reduceAdd,cZ (j:=3) (by decide),hz,div_ii d3,e],.inr hp⟩
theorem B2{j:Nat}(h:j<n):L2.Bn n (j:Int)=some j:=by unfold L2.Bn;rw[Vs (by lia),Vs (by lia)];simp
abbrev bg:=List Int×Int
def tV(t:bg):aw:=.tup [a9 t.1,.int t.2]
def eD(t:bg):List eU×aw:=(iK t.1,.int t.2)
def c9(A:List bg)(k:_m):Int:=((A.find? fun p=>decide (p.1=k)).map (·.2)).getD 0
def jo(A:List bg)(k:_m)(v:Int):List bg:=if A.any (fun p=>decide (p.1=k))then A.map (fun p=>if p.1=k then(p.1,v)else p)else A++[(k,v)]
theorem G5(a k:_m):decide (iK a=iK k)=decide (a=k):=by
 by_cases h:a=k
 .rw[h,VA rfl,VA rfl]
 .rw[VE h,VE fun e=>h (Gx e)]
theorem B3(k:_m):∀A:List bg,v! (A.map eD) (iK k)=(A.find? fun p=>decide (p.1=k)).map fun p=>aw.int p.2
 |[]=>rfl
 |p::A=>by
  unfold v!;rw[Vp,W3,W3];show Option.map _ (match decide (iK p.1=iK k) with|true=>some (eD p)|false=>_)=_;rw[G5];cases decide (p.1=k) with
  |true=>rfl
  |false=>exact B3 k A
theorem G6(k:_m):∀A:List bg,((A.map eD).any fun kv=>decide (kv.1=iK k))=A.any fun p=>decide (p.1=k)
 |[]=>rfl
 |p::A=>by rw[Vp,WX,WX,G6 k A];show(decide (iK p.1=iK k) || _)=_;rw[G5]
theorem KI(A:List bg)(k:_m)(v:Int):Df (A.map eD) (iK k) (.int v)=(jo A k v).map eD:=by
 unfold Df jo;rw[G6];by_cases h:(A.any fun p=>decide (p.1=k))=true
 .rw[Vs h,Vs h,Wd,Wd];refine WB fun p _=>?_;show(if iK p.1=iK k then(iK p.1,aw.int v)else eD p)=eD (if p.1=k then(p.1,v)else p);by_cases e:p.1=k
  .rw[Vs e,Vs (by rw[e])];rfl
  .rw[Vx e,Vx fun z=>e (Gx z)]
 .rw[Vx h,Vx h,Wh];rfl
theorem vn(k:_m):oo (a9 k)=some (iK k):=by
 have h:∀k:_m,keysOf (k.map aw.int)=some (iK k):=by
  intro k
  induction k with
  |nil=>rfl
  |cons x k ih=>
   rw[Vp];unfold keysOf;show(match rN (aw.int x),keysOf (k.map aw.int) with|some a,some b=>some (a::b)|_,_=>none)=_;rw[ih];rfl
 show keysOf (k.map aw.int)=_;exact h k
theorem wA{A:List bg}(h:st[d]?=some (.dT (A.map eD)))(k:_m):m5 st (.loc d) (a9 k)=some ((A.find? fun p=>decide (p.1=k)).map fun p=>aw.int p.2):=by unfold m5;dsimp only;rw[h];dsimp only;rw[vn,Option.map_some,B3]
theorem vo{A:List bg}(h:st[d]?=some (.dT (A.map eD)))(hl:A.length<sizeLine)(k:_m)(v:Int):l7 st (.loc d) (a9 k) (.int v)=some (st.set d (.dT ((jo A k v).map eD))):=by unfold l7;dsimp only;rw[h];dsimp only;rw[Vs (by rw[Vt];exact hl),vn,Option.map_some,KI]
theorem vp(A:List bg)(k:_m):((A.find? fun p=>decide (p.1=k)).map fun p=>aw.int p.2).getD (.int 0)=.int (c9 A k):=by
 unfold c9;cases A.find? fun p=>decide (p.1=k) with
 |none=>rfl
 |some p=>rfl
theorem DG{A:List bg}{k:_m}{v:Int}:(jo A k v).map (·.1)=if A.any (fun p=>decide (p.1=k))then A.map (·.1)else A.map (·.1)++[k]:=by
 unfold jo;by_cases h:(A.any fun p=>decide (p.1=k))=true
 .rw[Vs h,Vs h,Wd];refine WB fun p _=>?_;show(if p.1=k then(p.1,v)else p).1=p.1;split<;>rfl
 .rw[Vx h,Vx h,Wh];rfl
theorem B4{A:List bg}{k:_m}:(A.any fun p=>decide (p.1=k))=true↔k∈A.map (·.1):=by
 rw[Xp,V0];constructor
 .rintro⟨p,hp,e⟩;exact⟨p,hp,Wj e⟩
 .rintro⟨p,hp,e⟩;exact⟨p,hp,VA e⟩
theorem AF{A:List bg}(h:(A.map (·.1)).Nodup)(k:_m)(v:Int):((jo A k v).map (·.1)).Nodup:=by
 rw[DG];by_cases c:(A.any fun p=>decide (p.1=k))=true
 .rw[Vs c];exact h
 .rw[Vx c];refine List.nodup_append.mpr ⟨h,Yn _ _,?_⟩;intro a ha b hb e;rw[VZ.mp hb]at e;exact c (B4.mpr (e▸ha))
theorem G7{A:List bg}{k:_m}{v:Int}:(jo A k v).length<=A.length+1:=by
 unfold jo;split
 .rw[Vt];lia
 .rw[Vz];exact Vv _
theorem sF{A:List bg}{k:_m}{v:Int}{t:bg}(h:t∈jo A k v):t∈A\/t=(k,v):=by
 unfold jo at h;split at h
 .obtain⟨p,hp,e⟩:=V0.mp h;by_cases c:p.1=k
  .rw[Vs c]at e;right;rw[<-e,c]
  .rw[Vx c]at e;left;rw[<-e];exact hp
 .rcases We.mp h with h|h
  .exact .inl h
  .exact .inr (VZ.mp h)
theorem yA{A:List bg}{k:_m}(h:k∈A.map (·.1)):(k,c9 A k)∈A:=by
 unfold c9;cases z:A.find? fun p=>decide (p.1=k) with
 |none=>
  rw[Y0]at z;obtain⟨p,hp,e⟩:=V0.mp h;exact absurd (VA e) (z p hp)
 |some p=>
  have e:=List.find?_some z;have m:=Yj z;have e':p.1=k:=Wj e;show(k,p.2)∈A;rw[<-e'];exact m
theorem AG{A:List bg}{k:_m}{b:Int}(b0:0<=b)(h:∀t∈A,-b<=t.2/\t.2<=b):-b<=c9 A k/\c9 A k<=b:=by
 unfold c9;cases z:A.find? fun p=>decide (p.1=k) with
 |none=>show -b<=0/\(0:Int)<=b;lia
 |some p=>exact h p (Yj z)
theorem set_dict(st:ao)(a b:List (List eU×aw)):(st++[aG.dT a]).set st.length (.dT b)=st++[.dT b]:=yf st _ _
theorem wB(st:ao)(a:List (List eU×aw)):(st++[aG.dT a])[st.length]?=some (.dT a):=by rw[VS (Vv _),Wy];rfl
def told(A:List bg):List bg:=((l? (A.map (·.1))).filter fun k=>c9 A k !=0).map fun k=>(k,c9 A k)
def PV:aw->_m
 |.tup us=>(kA us).getD []
 |_=>[]
theorem G8(k:_m):PV (a9 k)=k:=by show(kA (k.map aw.int)).getD []=k;rw[GD];rfl
theorem B5{s:ao}{A:List bg}{k:_m}(h:s[d]?=some (.dT (A.map eD)))(hk:k∈A.map (·.1)):i? (.loc d) (a9 k) s=.ok (.int (c9 A k)) s:=by
 unfold i?;rw[wA h k];unfold c9;cases z:A.find? fun p=>decide (p.1=k) with
 |none=>
  rw[Y0]at z;obtain⟨p,hp,e⟩:=V0.mp hk;exact absurd (VA e) (z p hp)
 |some p=>rfl
theorem yB{μ:MN.Env}:kz m μ st=(m μ st).ic GB:=kx
def G9:aw->bg
 |.tup [k,.int n]=>(PV k,n)
 |_=>([],0)
theorem B6(t:bg):G9 (tV t)=t:=by show(PV (a9 t.1),t.2)=t;rw[G8]
section
variable{μ:MN.Env}{s s2:ao}{a b:ME}{f:F2}{x y:aw}{r:c_ aw}{t u:MT}{c:Bool}{B:MB}
theorem aH(h1:a μ s=.ok x s1)(h2:b μ s1=.ok y s2):ah f a b μ s=f x y s2:=by show(a μ s).bind _=_;rw[h1];show(b μ s1).bind _=_;rw[h2]
theorem bu(h:a μ s=.ok (.bl c) s1):aT a μ s=.ok c s1:=by rw[bh,h];rfl
theorem B7(h1:t μ s=.ok false s1)(h2:u μ s1=.ok false s2):eY t u μ s=.ok false s2:=by rw[dC,h1,au,dS,h2]
theorem vq(h:t μ s=.ok true s1):dP t μ s=.ok false s1:=by rw[k6,h];rfl
theorem cI(h:t μ s=.ok false s1):cU t B aJ μ s=.nx μ s1:=by rw[bF,h,az,cE];rfl
theorem wC(h1:a μ s=.ok (.bl true) s1)(h2:b μ s1=r):mW a b μ s=r:=by rw[l9,h1,au,kZ,h2]
end
theorem O2(t:bg):fW 14 (tV t)=true:=by show(dE 12 (t.1.map aw.int)&&(true&&true))=true;rw[yg];rfl
theorem O3(D:List bg):dE 14 (D.map tV)=true:=oD fun u hu=>by obtain⟨t,_,rfl⟩:=V0.mp hu;exact O2 t
theorem d_{s:ao}{c:aG}(h:s[n]?=some c)(more:ao):(s++more)[n]?=some c:=by
 have:n<s.length:=by
  rcases WC n s.length with q|q
  .exact q
  .rw[V8 q]at h;cases h
 rw[V' this];exact h
theorem DH{s:ao}{A:List bg}{k:_m}{v:Int}(h:s[d]?=some (.dT (A.map eD)))(hl:A.length<sizeLine):
  PM.kB [.loc d,a9 k,.int v] s=.ok .cO (s.set d (.dT ((jo A k (c9 A k+v)).map eD))):=by
 have hd:wb s (.loc d)=true:=by unfold wb;dsimp only;rw[h]
 have e1:jO aD aO bX [qL d, some (a9 k), qI v] s=.ok (.int (c9 A k)) s:=by show(if wb s (.loc d)=true then(match m5 s (.loc d) (a9 k) with|some o=>c_.ok (o.getD (.int 0)) s|none=>.bad)else .bad)=_;rw[Vs hd,wA h k];show c_.ok (Option.getD _ (aw.int 0)) s=_;rw[vp]
 have e2:ah aQ (jO aD aO bX) bH [qL d, some (a9 k), qI v] s=.ok (.int (c9 A k+v)) s:=by unfold ah;rw[e1];rfl
 unfold PM.kB;rw[aY (np:=3) (us:=[aw.loc d,a9 k,.int v]) rfl];show(l8 aD aO (ah aQ (jO aD aO bX) bH) [qL d, some (a9 k), qI v] s).fin=_;unfold l8;rw[e2];show cD.fin (match l7 s (.loc d) (a9 k) (.int (c9 A k+v)) with|some lZ=>cD.nx _ lZ|none=>.bad)=_;rw[vo h hl];rfl
def dM(r n:Int):Int:=if r=0 then n else n.fmod r
theorem sG(r n:Int)(st:ao):PM.eT [.int r,.int n] st=.ok (.int (dM r n)) st:=by
 unfold dM;by_cases h:r=0
 .have e:(r==0)=true:=by rw[h];rfl
  rw[Vs h];simp only[PM.eT,aY,au,az,fE,bQ,a8,bR,a7,cH,dD,cY,bj,bh,av,aL,bF,fQ,b_,cN,Vp,VO,VH,VG,VF,Nat.reduceSub,Vo,VI,Nat.reduceAdd,e]
 .have e:(r==0)=false:=by simpa using h
  rw[Vx h];simp only[PM.eT,aY,au,az,ax,bQ,a8,bR,a7,cH,cE,cY,bj,bh,av,c8,aL,bF,fQ,b_,cN,Vp,VO,VH,VG,VF,Nat.reduceSub,Vo,VI,Nat.reduceAdd,e,cZ h]
def p5(A:List bg):List bg:=(l? (A.map (·.1))).map fun k=>(k,c9 A k)
def bI(r:Int)(A:List bg):List bg:=((p5 A).map fun t=>(t.1,dM r t.2)).filter fun t=>t.2 !=0
theorem KJ(r n:Int)(st:ao):PM.cj [.int r,.int n] st=.ok (.int (dM r n)) st:=by
 unfold dM;by_cases h:r=0
 .have e:(r==0)=true:=by rw[h];rfl
  rw[Vs h];simp only[PM.cj,aY,au,az,bQ,a8,bR,a7,jR,cH,cY,bj,bh,i',aL,fQ,b_,cN,Vp,VO,VH,VG,VF,Nat.reduceSub,Vo,VI,Nat.reduceAdd,e]
 .have e:(r==0)=false:=by simpa using h
  rw[Vx h];simp only[PM.cj,aY,au,az,bQ,a8,bR,a7,jS,cH,cY,bj,bh,i',aL,fQ,b_,cN,Vp,VO,VH,VG,VF,Nat.reduceSub,Vo,VI,Nat.reduceAdd,e,cZ h]
theorem AH{p:Nat}{L:List bg}(h:aq st p=some (L.map tV))(hl:L.length<=1000000):
  ∃c,PM.e? [.int r,.loc p] st=.ok (.loc (st.length+1)) (st++[c,.lst (((L.map fun t=>(t.1,dM r t.2)).filter fun t=>t.2 !=0).map tV)]):=by
 obtain⟨L',Vh⟩:∃L':List bg,L'=L.map fun t=>(t.1,dM r t.2):=⟨_,rfl⟩
 have cp:=e7 (a:=gN [aA 0,aA 1]) (c:=cT) (e:=fO (ae aD (ae (aj PM.cj (ae bH (ae aO ak))) ak))) (g:=fun aF=>aq aF p=some (L.map tV)) (st:=st) h (fun τ=>∃x y,τ=[x, y, qI r]) (fun _=>true) (fun v=>tV ((G9 v).1,dM r (G9 v).2)) (L.map tV) [qn, qn, qI r] [] ⟨_,_,rfl⟩ (by
  rintro u hu τ ⟨x,y,rfl⟩;obtain⟨t,ht,rfl⟩:=V0.mp hu;refine⟨[some (a9 t.1),some (.int t.2),some (.int r)],rfl,⟨_,_,rfl⟩,rfl,fun _=>?_⟩;have e0:aD [some (a9 t.1), qI t.2, qI r] st=.ok (a9 t.1) st:=rfl;have e1:aj PM.cj (ae bH (ae aO ak)) [some (a9 t.1), qI t.2, qI r] st=.ok (.int (dM r t.2)) st:=by show PM.cj [.int r,.int t.2] st=_;exact KJ _ _ _
  rw[B6,rR,aW,e0,au,bE,aW,e1,au,bE,bS,au,aZ,au,aZ,au,BM];exact Vs (by rw[VN];show 2<=16777216;decide))
 have e:(List.filter (fun _=>true) (L.map tV)).map (fun v=>tV ((G9 v).1,dM r (G9 v).2))=L'.map tV:=by rw[Xt.mpr fun _ _=>rfl,Wd,Vh,Wd];refine WB fun t _=>?_;show tV ((G9 (tV t)).1,dM r (G9 (tV t)).2)=_;rw[B6];rfl
 rw[e,VG]at cp;obtain⟨s,hs⟩:∃s,s=st++[aG.lst (L'.map tV)]:=⟨_,rfl⟩
 have ls:s.length=st.length+1:=by rw[hs,Vz];rfl
 have h2:aq s st.length=some (L'.map tV):=by rw[hs];exact aN st _
 have lL:L'.length=L.length:=by rw[Vh,Vt]
 have cp2:=e7 (a:=aA 0) (c:=aT (ah gq (ah bY aD bA) bX)) (e:=aD) (g:=fun aF=>aq aF st.length=some (L'.map tV)) (st:=s) h2 (fun τ=>∃x,τ=[x]) (fun v=>(G9 v).2 !=0) (fun v=>v) (L'.map tV) [none] [] ⟨_,rfl⟩ (by
  rintro u hu τ ⟨x,rfl⟩;obtain⟨t,ht,rfl⟩:=V0.mp hu;refine⟨[some (tV t)],rfl,⟨_,rfl⟩,?_,fun _=>rfl⟩;rw[B6];refine bu ?_;rw[aH (x:=.int t.2) (s1:=s) rfl (y:=.int 0) (s2:=s) rfl,lO];rfl)
 have e2:(List.filter (fun v=>(G9 v).2 !=0) (L'.map tV)).map (fun v=>v)=(L'.filter fun t=>t.2 !=0).map tV:=by
  rw[List.map_id',List.filter_map];have:((fun v=>(G9 v).2 !=0) ∘ tV)=fun t=>t.2 !=0:=by funext t;show((G9 (tV t)).2 !=0)=_;rw[B6]
  rw[this]
 rw[e2,VG]at cp2;refine⟨.lst (L'.map tV),?_⟩;have v1:aO [some (aw.int r), qL p, qn] st=.ok (.loc p) st:=rfl;have Ej:j! 2 [0] [some (aw.int r), qL p, qn]=[qn, qn, qI r]:=rfl;have comp:eh 2 [0] (d6 aO) (gN [aA 0,aA 1]) cT (fO (ae aD (ae (aj PM.cj (ae bH (ae aO ak))) ak))) [qI r, qL p, qn] st=.ok (.loc st.length) s:=by rw[ik,fB,v1,au,eG h,au,jT,Vs (by rw[Vt,VN];lia),Ej,cp,au,m_,hs]
 have v2:bH [some (aw.int r), qL p, qL st.length] s=.ok (.loc st.length) s:=rfl;have Vi:j! 1 [] [some (aw.int r), qL p, qL st.length]=[none]:=rfl;have R_:eh 1 [] (d6 bH) (aA 0) (aT (ah gq (ah bY aD bA) bX)) aD [qI r, qL p, qL st.length] s=.ok (.loc s.length) (s++[.lst ((L'.filter fun t=>t.2 !=0).map tV)]):=by rw[ik,fB,v2,au,eG h2,au,jT,Vs (by rw[Vt,VN];lia),Vi,cp2,au,m_]
 have first:aB 2 (eh 2 [0] (d6 aO) (gN [aA 0,aA 1]) cT (fO (ae aD (ae (aj PM.cj (ae bH (ae aO ak))) ak)))) [qI r, qL p, qn] st=.nx [qI r, qL p, qL st.length] s:=by rw[eB,comp,az];rfl
 have es:st++[aG.lst (L'.map tV),.lst ((L'.filter fun t=>t.2 !=0).map tV)]=s++[.lst ((L'.filter fun t=>t.2 !=0).map tV)]:=by rw[hs,Vy];rfl
 unfold PM.e?;rw[aY (np:=2) (us:=[aw.int r,.loc p]) rfl,<-Vh,es,<-ls];show(ay (aB 2 (eh 2 [0] (d6 aO) (gN [aA 0,aA 1]) cT (fO (ae aD (ae (aj PM.cj (ae bH (ae aO ak))) ak))))) (aP (eh 1 [] (d6 bH) (aA 0) (aT (ah gq (ah bY aD bA) bX)) aD)) [qI r, qL p, qn] st).fin=_;rw[av,first,ax,aL,R_,az];rfl
def b9(P:List bg):List bg:=P.foldl (fun A t=>jo A t.1 (c9 A t.1+t.2)) []
theorem vt(P:List bg)(t:bg):b9 (P++[t])=jo (b9 P) t.1 (c9 (b9 P) t.1+t.2):=by unfold b9;rw[Zx];rfl
theorem fold_all(K:List (_m)):∀(P A:List bg),(A.map (·.1)).Nodup->(∀t∈A,t.1∈K)->(∀t∈P,t.1∈K) ->
  ((P.foldl (fun A t=>jo A t.1 (c9 A t.1+t.2)) A).map (·.1)).Nodup/\(P.foldl (fun A t=>jo A t.1 (c9 A t.1+t.2)) A).length<=A.length+P.length/\∀t∈P.foldl (fun A t=>jo A t.1 (c9 A t.1+t.2)) A,t.1∈K
 |[],A,h1,h2,_=>⟨h1,by simp,h2⟩
 |t::P,A,h1,h2,h3=>by
  have ih:=fold_all K P (jo A t.1 (c9 A t.1+t.2)) (AF h1 _ _) (fun q hq=>by
   rcases sF hq with hq|rfl
   .exact h2 q hq
   .exact h3 t Vu) (fun q hq=>h3 q (Vq _ hq))
  refine⟨ih.1,VX ih.2.1 ?_,ih.2.2⟩;have:=G7 (A:=A) (k:=t.1) (v:=c9 A t.1+t.2);rw[Vo];lia
theorem jA(P:List bg):((b9 P).map (·.1)).Nodup/\(b9 P).length<=P.length/\∀t∈b9 P,t.1∈P.map (·.1):=by have:=fold_all (P.map (·.1)) P [] List.nodup_nil (fun t ht=>by cases ht) (fun t ht=>V0.mpr ⟨t,ht,rfl⟩);refine⟨this.1,?_,this.2.2⟩;have:=this.2.1;simp at this;exact this
abbrev Ti:MB:=cF (aj PM.kB (ae ck (ae fC (ae eR ak))))
theorem DJ{p:Nat}{P:List bg}(h:aq st p=some (P.map tV))(hl:P.length<1000000):
  ∃y4 y5,forL (fun aF=>aq aF p=some (P.map tV)) (gN [aA 4,aA 5]) Ti (P.map tV) [x0, x1, qL p, qL st.length, qn, qn] (st++[.dT []])=.nx [x0, x1, qL p, qL st.length, y4, y5] (st++[.dT ((b9 P).map eD)]):=by
 have hg:∀(A:List bg),aq (st++[.dT (A.map eD)]) p=some (P.map tV):=fun A=>aC h _;obtain⟨μ',aF,e,rfl,y4,y5,rfl⟩:=et (g:=fun aF=>aq aF p=some (P.map tV)) (a:=gN [aA 4,aA 5]) (body:=Ti)
  (fun i μ s'=>s'=st++[.dT ((b9 (P.take i)).map eD)]/\∃y4 y5,μ=[x0, x1, qL p, qL st.length, y4, y5])
  (P.map tV) 0 [x0, x1, qL p, qL st.length, qn, qn] (st++[.dT []])
  (by
   rintro i u μ s' hu ⟨rfl,y4,y5,rfl⟩;rw[V_];refine⟨hg _,?_⟩;rw[VV]at hu;have hi:i<P.length:=by
    rcases WC i P.length with q|q
    .exact q
    .rw[V8 q]at hu;cases hu
   rw[VD hi]at hu;obtain⟨t,ht⟩:∃t,t=P[i]:=⟨_,rfl⟩
   rw[<-ht]at hu;cases hu;have tk:P.take (i+1)=P.take i++[t]:=by rw[ZP,VD hi,<-ht];rfl
   have lA:=(jA (P.take i)).2.1;rw[Wq]at lA;have ad:=DH (k:=t.1) (v:=t.2) (wB st ((b9 (P.take i)).map eD)) (by rw[VN];lia);rw[set_dict,<-vt,<-tk]at ad;refine⟨[x0,x1,some (.loc p),some (.loc st.length),some (a9 t.1),some (.int t.2)],rfl,[x0, x1, qL p, qL st.length, some (a9 t.1), qI t.2],_,.inl ?_,rfl,_,_,rfl⟩;have q:aj PM.kB (ae ck (ae fC (ae eR ak))) [x0, x1, qL p, qL st.length, some (a9 t.1), qI t.2] (st++[.dT ((b9 (P.take i)).map eD)])=.ok .cO (st++[.dT ((b9 (P.take (i+1))).map eD)]):=by show PM.kB [.loc st.length,a9 t.1,.int t.2] _=_;exact ad
   show cF _ _ _=_;rw[fA,q,az];rfl)
  (fun μ s hp=>by obtain⟨rfl,_⟩:=hp;exact hg _)
  ⟨rfl,none,none,rfl⟩
 rw[V_,Vt,Wb (Vv _)]at e;exact⟨y4,y5,e⟩
abbrev Tj:ME:=fO (ae aD (ae (ah i? aO aD) ak))
theorem DK{s:ao}{A:List bg}(h:s[d]?=some (.dT (A.map eD)))(nd:(A.map (·.1)).Nodup)(hl:A.length<64)(ne:∀t∈A,t.1≠[]):
  ∃c1 c2 c3,PM.dw [.int r,.loc d] s=.ok (.loc (s.length+3)) (s++[c1,c2,c3,.lst ((bI r A).map tV)]):=by
 have G_:(A.map eD).map (·.1)=(A.map (·.1)).map iK:=by rw[Wd,Wd];rfl
 have Tn:=BZ (ks:=A.map (·.1)) h G_ (by rw[Vt];lia) (fun k hk=>by
  obtain⟨t,ht,rfl⟩:=V0.mp hk;exact ne t ht)
 obtain⟨s2,fq⟩:∃s2,s2=s++[aG.lst ((l? (A.map (·.1))).map a9)]:=⟨_,rfl⟩
 have hd2:s2[d]?=some (.dT (A.map eD)):=by rw[fq];exact d_ h _
 have hit:aq s2 s.length=some ((l? (A.map (·.1))).map a9):=by rw[fq];exact aN s _
 have lk:(l? (A.map (·.1))).length=A.length:=by rw[(gv _).length_eq,Vt]
 have cp:=e7 (a:=aA 0) (c:=cT) (e:=Tj) (g:=fun aF=>aq aF s.length=some ((l? (A.map (·.1))).map a9)) (st:=s2) hit (fun τ=>∃x,τ=[x,some (.loc d)]) (fun _=>true) (fun v=>.tup [v,.int (c9 A (PV v))]) ((l? (A.map (·.1))).map a9) [none,some (.loc d)] [] ⟨_,rfl⟩ (by
  rintro u hu τ ⟨x,rfl⟩;obtain⟨k,hk,rfl⟩:=V0.mp hu;have KL:=(gv _).mem_iff.mp hk;have e0:aD [some (a9 k),some (.loc d)] s2=.ok (a9 k) s2:=rfl;have e1:ah i? aO aD [some (a9 k),some (.loc d)] s2=.ok (.int (c9 A k)) s2:=by show i? (.loc d) (a9 k) s2=_;exact B5 hd2 KL
  refine⟨[some (a9 k),some (.loc d)],rfl,⟨_,rfl⟩,rfl,fun _=>?_⟩;rw[G8];unfold Tj;rw[rR,aW,e0,au,bE,aW,e1,au,bE,bS,au,aZ,au,aZ,au,BM];exact Vs (by rw[VN];show 2<=16777216;decide))
 have e:(List.filter (fun _=>true) ((l? (A.map (·.1))).map a9)).map (fun v=>aw.tup [v,.int (c9 A (PV v))])=(p5 A).map tV:=by rw[Xt.mpr fun _ _=>rfl,Wd];unfold p5;rw[Wd];refine WB fun k _=>?_;show aw.tup [a9 k,.int (c9 A (PV (a9 k)))]=_;rw[G8];rfl
 rw[e,VG]at cp;obtain⟨s3,iS⟩:∃s3,s3=s2++[aG.lst ((p5 A).map tV)]:=⟨_,rfl⟩
 have v1:aO [some (aw.int r),some (.loc d)] s=.ok (.loc d) s:=rfl;have Ej:j! 1 [1] [some (aw.int r),some (.loc d)]=[none,some (.loc d)]:=rfl;have comp:eh 1 [1] (d6 (kz aO)) (aA 0) cT Tj [some (.int r),some (.loc d)] s=.ok (.loc s2.length) s3:=by rw[ik,fB,yB,v1,au,Tn,<-fq,au,eG hit,au,jT,Vs (by rw[Vt,lk,VN];lia),Ej,cp,au,m_,iS]
 obtain⟨c3,se⟩:=AH (r:=r) (L:=p5 A) (p:=s2.length) (st:=s3) (by rw[iS];exact aN s2 _) (by unfold p5;rw[Vt,lk];lia);refine⟨.lst ((l? (A.map (·.1))).map a9),.lst ((p5 A).map tV),c3,?_⟩;have l3:s3.length=s.length+2:=by rw[iS,fq,Vz,Vz];rfl
 have es:s++[aG.lst ((l? (A.map (·.1))).map a9),.lst ((p5 A).map tV),c3,.lst ((bI r A).map tV)]=s3++[c3,.lst ((bI r A).map tV)]:=by rw[iS,fq,Vy,Vy];rfl
 have v0:aD [some (aw.int r),some (.loc d)] s=.ok (.int r) s:=rfl;unfold PM.dw;rw[aY (np:=2) (us:=[aw.int r,.loc d]) rfl,es];show(aP (aj PM.e? (ae aD (ae (eh 1 [1] (d6 (kz aO)) (aA 0) cT Tj) ak))) [some (.int r),some (.loc d)] s).fin=_;rw[aL,bU,aW,v0,au,bE,aW,comp,au,bE,bS,au,aZ,au,aZ,au,se,l3];rfl
abbrev PX:MB:=l8 bH (ah bY ck bX) (ah aQ (jO bH (ah bY ck bX) bX) (ah bY ck bA))
theorem G!{s:ao}{A:List bg}{t:bg}{x4 x5:Option aw}(h:s[d]?=some (.dT (A.map eD)))(hl:A.length<sizeLine):
  PX [x0, x1, qL d, some (tV t), x4, x5] s=.nx [x0, x1, qL d, some (tV t), x4, x5] (s.set d (.dT ((jo A t.1 (c9 A t.1+t.2)).map eD))):=by
 have hd:wb s (.loc d)=true:=by unfold wb;dsimp only;rw[h]
 have e1:jO bH (ah bY ck bX) bX [x0, x1, qL d, some (tV t), x4, x5] s=.ok (.int (c9 A t.1)) s:=by show(if wb s (.loc d)=true then(match m5 s (.loc d) (a9 t.1) with|some o=>c_.ok (o.getD (.int 0)) s|none=>.bad)else .bad)=_;rw[Vs hd,wA h t.1];show c_.ok (Option.getD _ (aw.int 0)) s=_;rw[vp]
 have i1:ah bY ck bA [x0, x1, qL d, some (tV t), x4, x5] s=.ok (.int t.2) s:=rfl;have e2:ah aQ (jO bH (ah bY ck bX) bX) (ah bY ck bA) [x0, x1, qL d, some (tV t), x4, x5] s=.ok (.int (c9 A t.1+t.2)) s:=by rw[aH e1 i1];rfl
 unfold PX l8;rw[e2];show(match l7 s (.loc d) (a9 t.1) (.int (c9 A t.1+t.2)) with|some lZ=>cD.nx _ lZ|none=>.bad)=_;rw[vo h hl]
def DM(r:Int)(A:List bg)(ks:List (_m)):List bg:=(ks.map fun k=>(k,dM r (c9 A k))).filter fun t=>t.2 !=0
theorem G?(r:Int)(A:List bg)(ks:List (_m))(k:_m):DM r A (ks++[k])=DM r A ks++(if dM r (c9 A k) !=0 then[(k,dM r (c9 A k))] else[]):=by
 unfold DM;rw[Wh,List.filter_append];congr 1;show List.filter _ [(k,dM r (c9 A k))]=_;by_cases h:(dM r (c9 A k) !=0)=true
 .rw[Vs h,_e (p:=fun t:bg=>t.2 !=0) h];rfl
 .rw[Vx h,_g (p:=fun t:bg=>t.2 !=0) h];rfl
theorem sH(r:Int)(A:List bg):DM r A (l? (A.map (·.1)))=bI r A:=by unfold DM bI p5;rw[Wd];rfl
theorem B8(r:Int)(A:List bg)(ks:List (_m)):(DM r A ks).length<=ks.length:=by unfold DM;refine VX (List.length_filter_le _ _) ?_;rw[Vt];exact Vv _
abbrev O4:ME:=aj PM.eT (ae aD (ae (ah i? bH eR) ak))
abbrev R!:MB:=cU (aT (ah gq O4 bX)) (cF (jk cL fC (ae (fO (ae eR (ae O4 ak))) ak))) aJ
theorem G'{s:ao}{A:List bg}{k:_m}{x3:Option aw}(h:s[d]?=some (.dT (A.map eD)))(hq:s[q]?=some (.lst ((DM r A ks).map tV)))(hl:ks.length<=1000000)(hk:k∈A.map (·.1)):
  R! [qI r, x1, qL d, x3, qL q, some (a9 k)] s=.nx [qI r, x1, qL d, x3, qL q, some (a9 k)] (s.set q (.lst ((DM r A (ks++[k])).map tV))):=by
 obtain⟨μ,hμ⟩:∃μ:MN.Env,μ=[qI r, x1, qL d, x3, qL q, some (a9 k)]:=⟨_,rfl⟩
 have v4:fC μ s=.ok (.loc q) s:=by rw[hμ];rfl
 have v5:eR μ s=.ok (a9 k) s:=by rw[hμ];rfl
 have v0:aD μ s=.ok (.int r) s:=by rw[hμ];rfl
 have dg:ah i? bH eR μ s=.ok (.int (c9 A k)) s:=by rw[hμ];show i? (.loc d) (a9 k) s=_;exact B5 h hk
 have sl:O4 μ s=.ok (.int (dM r (c9 A k))) s:=by unfold O4;rw[bU,aW,v0,au,bE,aW,dg,au,bE,bS,au,aZ,au,aZ,au];exact sG _ _ _
 have j3:aT (ah gq O4 bX) μ s=.ok (dM r (c9 A k) !=0) s:=by refine bu ?_;rw[aH sl (y:=.int 0) (s2:=s) rfl,lO];rfl
 rw[<-hμ,G?];show cU _ _ _ μ s=_;rw[bF,j3,az];cases c:dM r (c9 A k) !=0 with
 |true=>
  have ap:=k7 (v:=tV (k,dM r (c9 A k))) hq (by rw[Vt,VN];have:=B8 r A ks;lia);have arg:ae (fO (ae eR (ae O4 ak))) ak μ s=.ok [tV (k,dM r (c9 A k))] s:=by
   have tp:fO (ae eR (ae O4 ak)) μ s=.ok (tV (k,dM r (c9 A k))) s:=by rw[rR,aW,v5,au,bE,aW,sl,au,bE,bS,au,aZ,au,aZ,au,BM];exact Vs (by rw[VN];show 2<=16777216;decide)
   rw[aW,tp,au,bE,bS,au,aZ]
  rw[dD,fA,wm,v4,au,BR hq,arg,au,BS,ap,Vs rfl,Wh];rfl
 |false=>
  rw[cE,Vx (by decide),VW];have:s.set q (.lst ((DM r A ks).map tV))=s:=by
   apply W2;intro j;rw[List.getElem?_set];by_cases e:q=j
   .rw[Vs e];subst e;split
    .exact hq.symm
    .rw[V8 (by lia)]
   .rw[Vx e]
  rw[this];rfl
theorem Ha{p:Nat}{P:List bg}(h:aq st p=some (P.map tV))(hl:P.length<1000000):
  ∃y3,forL (fun aF=>aq aF p=some (P.map tV)) (aA 3) PX (P.map tV) [x0, qL p, qL st.length, qn, qn, qn] (st++[.dT []])=.nx [x0, qL p, qL st.length, y3, qn, qn] (st++[.dT ((b9 P).map eD)]):=by
 have hg:∀(A:List bg),aq (st++[.dT (A.map eD)]) p=some (P.map tV):=fun A=>aC h _;obtain⟨μ',aF,e,rfl,y3,rfl⟩:=et (g:=fun aF=>aq aF p=some (P.map tV)) (a:=aA 3) (body:=PX)
  (fun i μ s'=>s'=st++[.dT ((b9 (P.take i)).map eD)]/\∃y3,μ=[x0, qL p, qL st.length, y3, qn, qn])
  (P.map tV) 0 [x0, qL p, qL st.length, qn, qn, qn] (st++[.dT []])
  (by
   rintro i u μ s' hu ⟨rfl,y3,rfl⟩;rw[V_];refine⟨hg _,?_⟩;rw[VV]at hu;have hi:i<P.length:=by
    rcases WC i P.length with q|q
    .exact q
    .rw[V8 q]at hu;cases hu
   rw[VD hi]at hu;obtain⟨t,ht⟩:∃t,t=P[i]:=⟨_,rfl⟩
   rw[<-ht]at hu;cases hu;have tk:P.take (i+1)=P.take i++[t]:=by rw[ZP,VD hi,<-ht];rfl
   have lA:=(jA (P.take i)).2.1;rw[Wq]at lA;have ad:=G! (x0:=x0) (x1:=some (.loc p)) (x4:=none) (x5:=none) (t:=t) (wB st ((b9 (P.take i)).map eD)) (by rw[VN];lia);rw[set_dict,<-vt,<-tk]at ad;exact⟨_,rfl,_,_,.inl ad,rfl,_,rfl⟩)
  (fun μ s hp=>by obtain⟨rfl,_⟩:=hp;exact hg _)
  ⟨rfl,none,rfl⟩
 rw[V_,Vt,Wb (Vv _)]at e;exact⟨y3,e⟩
theorem Hb{A:List bg}{x3:Option aw}(hl:A.length<1000000):
  ∃y5,forL (fun aF=>aq aF (st.length+2)=some ((l? (A.map (·.1))).map a9)) (aA 5) R! ((l? (A.map (·.1))).map a9) [qI r, x1, qL st.length, x3, qL (st.length+1), qn] (st++[.dT (A.map eD),.lst [],.lst ((l? (A.map (·.1))).map a9)]) =
   .nx [qI r, x1, qL st.length, x3, qL (st.length+1), y5] (st++[.dT (A.map eD),.lst ((bI r A).map tV),.lst ((l? (A.map (·.1))).map a9)]):=by
 obtain⟨ks,RU⟩:∃ks,ks=l? (A.map (·.1)):=⟨_,rfl⟩
 have lk:ks.length=A.length:=by rw[RU,(gv _).length_eq,Vt]
 rw[<-sH,<-RU];have at0:∀(us:List aw),(st++[aG.dT (A.map eD),.lst us,.lst (ks.map a9)])[st.length]?=some (.dT (A.map eD)):=fun us=>by rw[VS (Vv _),Wy];rfl
 have at1:∀(us:List aw),(st++[aG.dT (A.map eD),.lst us,.lst (ks.map a9)])[st.length+1]?=some (.lst us):=fun us=>by rw[VS (by lia),show st.length+1-st.length=1 by lia];rfl
 have at2:∀(us:List aw),(st++[aG.dT (A.map eD),.lst us,.lst (ks.map a9)])[st.length+2]?=some (.lst (ks.map a9)):=fun us=>by rw[VS (by lia),show st.length+2-st.length=2 by lia];rfl
 have st1:∀(us ws:List aw),(st++[aG.dT (A.map eD),.lst us,.lst (ks.map a9)]).set (st.length+1) (.lst ws)=st++[aG.dT (A.map eD),.lst ws,.lst (ks.map a9)]:=fun us ws=>by rw[WR _ _ (by lia),show st.length+1-st.length=1 by lia];rfl
 obtain⟨μ',aF,e,rfl,y5,rfl⟩:=et (g:=fun aF=>aq aF (st.length+2)=some (ks.map a9)) (a:=aA 5) (body:=R!)
  (fun i μ s'=>s'=st++[.dT (A.map eD),.lst ((DM r A (ks.take i)).map tV),.lst (ks.map a9)]/\∃y5,μ=[qI r, x1, qL st.length, x3, qL (st.length+1), y5])
  (ks.map a9) 0 [qI r, x1, qL st.length, x3, qL (st.length+1), qn] (st++[.dT (A.map eD),.lst [],.lst (ks.map a9)])
  (by
   rintro i u μ s' hu ⟨rfl,y5,rfl⟩;rw[V_];refine⟨dU (at2 _),?_⟩;rw[VV]at hu;have hi:i<ks.length:=by
    rcases WC i ks.length with q|q
    .exact q
    .rw[V8 q]at hu;cases hu
   rw[VD hi]at hu;obtain⟨k,hk⟩:∃k,k=ks[i]:=⟨_,rfl⟩
   have mk:k∈A.map (·.1):=by refine(gv _).mem_iff.mp ?_;rw[<-RU,hk];exact Ws hi
   rw[<-hk]at hu;cases hu;have tk:ks.take (i+1)=ks.take i++[k]:=by rw[ZP,VD hi,<-hk];rfl
   have es:=G' (x1:=x1) (x3:=x3) (at0 _) (at1 ((DM r A (ks.take i)).map tV)) (by rw[Wq];lia) mk;rw[st1,<-tk]at es;exact⟨_,rfl,_,_,.inl es,rfl,_,rfl⟩)
  (fun μ s hp=>by obtain⟨rfl,_⟩:=hp;exact dU (at2 _))
  ⟨rfl,none,rfl⟩
 rw[V_,Vt,Wb (Vv _)]at e;exact⟨y5,e⟩
theorem gY{p:Nat}{P:List bg}(h:aq st p=some (P.map tV))(hl:P.length<64)(ne:∀t∈P,t.1≠[]):
  ∃c1 c3,PM.bB [.int r,.loc p] st=.ok (.loc (st.length+1)) (st++[c1,.lst ((bI r (b9 P)).map tV),c3]):=by
 obtain⟨A,hA⟩:∃A,A=b9 P:=⟨_,rfl⟩
 have ga:=jA P;rw[<-hA]at ga;obtain⟨y3,e1⟩:=Ha (x0:=some (.int r)) h (by lia);obtain⟨y5,e2⟩:=Hb (st:=st) (A:=A) (r:=r) (x1:=some (.loc p)) (x3:=y3) (by lia);rw[<-hA]at e1⊢;refine⟨.dT (A.map eD),.lst ((l? (A.map (·.1))).map a9),?_⟩;have s1:aB 2 ku [qI r, qL p, qn, qn, qn, qn] st=.nx [qI r, qL p, qL st.length, qn, qn, qn] (st++[.dT []]):=rfl;have v1:aO [some (aw.int r), qL p, qL st.length, qn, qn, qn] (st++[.dT []])=.ok (.loc p) (st++[.dT []]):=rfl;have s2:dQ (d6 aO) (aA 3) PX [qI r, qL p, qL st.length, qn, qn, qn] (st++[.dT []])=.nx [qI r, qL p, qL st.length, y3, qn, qn] (st++[.dT (A.map eD)]):=by rw[fF,fB,v1,au,eG (aC h _),az,gP];exact e1
 have ld:(st++[aG.dT (A.map eD)]).length=st.length+1:=by rw[Vz];rfl
 have s3:aB 4 (bq ak) [qI r, qL p, qL st.length, y3, qn, qn] (st++[.dT (A.map eD)])=.nx [qI r, qL p, qL st.length, y3, qL (st.length+1), qn] (st++[.dT (A.map eD),.lst []]):=by
  rw[<-ld];have q:bq ak [some (aw.int r), qL p, qL st.length, y3, qn, qn] (st++[.dT (A.map eD)])=.ok (.loc (st++[aG.dT (A.map eD)]).length) (st++[.dT (A.map eD)]++[.lst []]):=by simp only[au,vd,bS,oy,VI,VN,Nat.reduceLeDiff,↓reduceIte]
  rw[eB,q,az,Vy];rfl
 have hd:(st++[aG.dT (A.map eD),.lst []])[st.length]?=some (.dT (A.map eD)):=by rw[VS (Vv _),Wy];rfl
 have G_:(A.map eD).map (·.1)=(A.map (·.1)).map iK:=by rw[Wd,Wd];rfl
 have Tn:=BZ (ks:=A.map (·.1)) hd G_ (by rw[Vt];lia) (fun k hk=>by
  obtain⟨t,ht,rfl⟩:=V0.mp hk;obtain⟨q,hq,e⟩:=V0.mp (ga.2.2 t ht);rw[<-e];exact ne q hq)
 have l2:(st++[aG.dT (A.map eD),.lst []]).length=st.length+2:=by rw[Vz];rfl
 rw[l2,Vy]at Tn;have hit:aq (st++[aG.dT (A.map eD),.lst [],.lst ((l? (A.map (·.1))).map a9)]) (st.length+2)=some ((l? (A.map (·.1))).map a9):=by refine dU ?_;rw[VS (by lia),show st.length+2-st.length=2 by lia];rfl
 have v2:bH [some (aw.int r), qL p, qL st.length, y3, qL (st.length+1), qn] (st++[.dT (A.map eD),.lst []])=.ok (.loc st.length) (st++[.dT (A.map eD),.lst []]):=rfl;have s4:dQ (d6 (kz bH)) (aA 5) R! [qI r, qL p, qL st.length, y3, qL (st.length+1), qn] (st++[.dT (A.map eD),.lst []])=.nx [qI r, qL p, qL st.length, y3, qL (st.length+1), y5] (st++[.dT (A.map eD),.lst ((bI r A).map tV),.lst ((l? (A.map (·.1))).map a9)]):=by rw[fF,fB,yB,v2,au,Tn,au];show(pL (.loc (st.length+2)) (st++[aG.dT (A.map eD),.lst [],.lst ((l? (A.map (·.1))).map a9)])).zK _ _=_;rw[eG hit,az,gP];exact e2
 unfold PM.bB;rw[aY (np:=2) (us:=[aw.int r,.loc p]) rfl];show(ay (aB 2 ku) (ay (dQ (d6 aO) (aA 3) PX) (ay (aB 4 (bq ak)) (ay (dQ (d6 (kz bH)) (aA 5) R!) (aP fC)))) [qI r, qL p, qn, qn, qn, qn] st).fin=_;rw[av,s1,ax,av,s2,ax,av,s3,ax,av,s4,ax];rfl
theorem within_int(e lo hi:Int)(st:ao):PM.aU [.int e,.int lo,.int hi] st=.ok (.bl (decide (lo<=e)&&decide (e<=hi))) st:=by
 by_cases h:lo<=e
 .have z:decide (lo<=e)=true:=VA h;rw[z,XD];simp only[PM.aU,aY,au,az,bQ,a7,kZ,RD,LU,J8,bE,aZ,cH,l9,yd,bS,aW,bU,aL,LX,b_,cN,Vp,VO,VH,VG,VF,Nat.reduceSub,Vo,VI,Nat.reduceAdd,iq,z]
 .have z:decide (lo<=e)=false:=VE h;rw[z,Xu];simp only[PM.aU,aY,au,az,bQ,kZ,RD,LU,J9,bE,aZ,cH,l9,yd,bS,aW,bU,aL,LX,b_,cN,Vp,VO,VH,VG,VF,Nat.reduceSub,Vo,VI,Nat.reduceAdd,iq,z]
structure Good(af:Nat)(t:bg):Prop where
 len:t.1.length=af
 rg:∀e∈t.1,0<=e/\e<=99
theorem yC:∀us:_m,jx (us.map fun _=>aw.bl true)=some (us.map fun _=>true)
 |[]=>rfl
 |u::us=>by rw[Vp];unfold jx;rw[yC us];rfl
theorem O5{k:_m}(hl:k.length=af)(hm:af<=4)(hr:∀e∈k,0<=e/\e<=99)(st:ao):PM.dr [a9 k,.int (af:Int)] st=.ok (.bl true) (st++[.lst (k.map fun _=>aw.bl true)]):=by
 have cp:=e7 (a:=aA 0) (c:=cT) (e:=aj PM.aU (ae aD (ae bX (ae Fn ak)))) (g:=fun _=>True) (st:=st) trivial (fun τ=>∃x,τ=[x]) (fun _=>true) (fun _=>.bl true) (k.map aw.int) [none] [] ⟨_,rfl⟩ (by
  rintro u hu τ ⟨x,rfl⟩;obtain⟨e,he,rfl⟩:=V0.mp hu;refine⟨[some (.int e)],rfl,⟨_,rfl⟩,rfl,fun _=>?_⟩;show PM.aU [.int e,.int 0,.int 99] st=_;have:=hr e he;rw[within_int,VA this.1,VA this.2];rfl)
 rw[Xt.mpr fun _ _=>rfl,Wd,VG]at cp;have e0:((fun _=>aw.bl true) ∘ aw.int)=fun _:Int=>aw.bl true:=rfl;rw[e0]at cp;have v0:aD [some (a9 k),some (.int (af:Int))] st=.ok (a9 k) st:=rfl;have Ej:j! 1 [] [some (a9 k),some (.int (af:Int))]=[none]:=rfl;have comp:eh 1 [] (d6 aD) (aA 0) cT (aj PM.aU (ae aD (ae bX (ae Fn ak)))) [some (a9 k),some (.int (af:Int))] st=.ok (.loc st.length) (st++[.lst (k.map fun _=>aw.bl true)]):=by rw[ik,fB,v0,au];show((pL (.tup (k.map aw.int)) st).ic _)=_;rw[vf,au,jT,Vs (by rw[Vt,VN];lia),Ej,cp,au,m_]
 have al:oj [.loc st.length] (st++[.lst (k.map fun _=>aw.bl true)])=.ok (.bl true) (st++[.lst (k.map fun _=>aw.bl true)]):=by unfold oj;dsimp only;rw[aN];dsimp only;rw[yC];dsimp only;congr 2;rw[YI];exact Wa.mpr fun _ _=>rfl
 have c1:eY (dP (aT (uk "tuple" aD))) (aT (ah gq (aj bG (ae aD ak)) aO)) [some (a9 k),some (.int (af:Int))] st=.ok (!(((k.map aw.int).length:Int)==(af:Int))) st:=rfl;rw[Vt,hl,Wn]at c1;unfold PM.dr;rw[aY (np:=2) (us:=[a9 k,.int (af:Int)]) rfl];show(ay (cU (eY (dP (aT (uk "tuple" aD))) (aT (ah gq (aj bG (ae aD ak)) aO))) (aP (mC (.bl false))) aJ) (aP (aj oj (ae (eh 1 [] (d6 aD) (aA 0) cT (aj PM.aU (ae aD (ae bX (ae Fn ak))))) ak))) [some (a9 k),some (.int (af:Int))] st).fin=_;rw[av,cI c1,ax,aL,bU,aW,comp,au,bE,bS,au,aZ,au,al,az];rfl
theorem AI{t:bg}(G:Good af t)(hm:af<=4)(st:ao):PM.ja [tV t,.int (af:Int)] st=.ok (.bl true) (st++[.lst (t.1.map fun _=>aw.bl true)]):=by
 have ar:=O5 G.len hm G.rg st;have c1:eY (dP (aT (uk "tuple" aD))) (aT (ah gq (aj bG (ae aD ak)) fP)) [some (tV t),some (.int (af:Int))] st=.ok false st:=rfl;have q1:aj PM.dr (ae (ah bY aD bX) (ae aO ak)) [some (tV t),some (.int (af:Int))] st=.ok (.bl true) (st++[.lst (t.1.map fun _=>aw.bl true)]):=by show PM.dr [a9 t.1,.int (af:Int)] st=_;exact ar
 have q2:∀s:ao,aj PM.gO (ae (ah bY aD bA) ak) [some (tV t),some (.int (af:Int))] s=.ok (.bl true) s:=fun s=>rfl;unfold PM.ja;rw[aY (np:=2) (us:=[tV t,.int (af:Int)]) rfl];show(ay (cU (eY (dP (aT (uk "tuple" aD))) (aT (ah gq (aj bG (ae aD ak)) fP))) (aP (mC (.bl false))) aJ) (aP (mW (aj PM.dr (ae (ah bY aD bX) (ae aO ak))) (aj PM.gO (ae (ah bY aD bA) ak)))) [some (tV t),some (.int (af:Int))] st).fin=_;rw[av,cI c1,ax,aL,wC q1 (q2 _),az];rfl
abbrev cpB:MB:=cU (dP (aT (aj PM.ja (ae bH (ae aD ak))))) (fT "NoTerm" (ae (qs "a term is a tuple of exponents from 0 to 99, one for each unknown, and a whole number") ak)) aJ
theorem sJ{p:Nat}{P:List bg}(h:aq st p=some (P.map tV))(G:∀t∈P,Good af t)(hm:af<=4):∃g,PM.dX [.int (af:Int),.loc p] st=.ok .cO (st++g):=by
 obtain⟨μ',aF,e,g,rfl,y,rfl⟩:=et (g:=fun aF=>aq aF p=some (P.map tV)) (a:=aA 2) (body:=cpB)
  (fun _ μ s'=>∃g,s'=st++g/\∃y,μ=[qN af, qL p, y])
  (P.map tV) 0 [qN af, qL p, qn] st
  (by
   rintro i u μ s' hu ⟨g,rfl,y,rfl⟩;refine⟨aC h _,?_⟩;obtain⟨t,ht,rfl⟩:=V0.mp (WK hu);have ip:=AI (G t ht) hm (st++g);have q:aj PM.ja (ae bH (ae aD ak)) [qN af, qL p, some (tV t)] (st++g)=.ok (.bl true) (st++g++[.lst (t.1.map fun _=>aw.bl true)]):=by show PM.ja [tV t,.int (af:Int)] (st++g)=_;exact ip
   refine⟨[some (.int (af:Int)),some (.loc p),some (tV t)],rfl,[qN af, qL p, some (tV t)],st++g++[.lst (t.1.map fun _=>aw.bl true)],.inl ?_,g++[.lst (t.1.map fun _=>aw.bl true)],by rw[Vy],_,rfl⟩;show cU _ _ _ _ _=_;exact cI (vq (bu q)))
  (fun μ s hp=>by obtain⟨g,rfl,_⟩:=hp;exact aC h _)
  ⟨[],by rw[VW],none,rfl⟩
 refine⟨g,?_⟩;have v1:aO [some (aw.int (af:Int)), qL p, qn] st=.ok (.loc p) st:=rfl;unfold PM.dX;rw[aY (np:=2) (us:=[aw.int (af:Int),.loc p]) rfl];show(dQ (d6 aO) (aA 2) cpB [qN af, qL p, qn] st).fin=_;rw[fF,fB,v1,au,eG h,az,gP,e];rfl
theorem jc(h1:1<=af)(h4:af<=4)(st:ao):PM.bJ [.int (af:Int)] st=.ok .cO st:=by
 have q:aj PM.aU (ae aD (ae bA (ae kd ak))) [some (.int (af:Int))] st=.ok (.bl true) st:=by show PM.aU [.int (af:Int),.int 1,.int 4] st=_;rw[within_int,VA (by lia),VA (by lia)];rfl
 unfold PM.bJ;rw[aY (np:=1) (us:=[aw.int (af:Int)]) rfl];show(cU (dP (aT (aj PM.aU (ae aD (ae bA (ae kd ak)))))) _ aJ [some (.int (af:Int))] st).fin=_;rw[cI (vq (bu q))];rfl
theorem KN{p:Nat}{P:List bg}(hr:fR r=true)(h:aq st p=some (P.map tV))(hl:P.length<64)(G:∀t∈P,Good af t)(h1:1<=af)(h4:af<=4):
  ∃g k,PM.made [.int r,.int (af:Int),.loc p] st=.ok (.loc k) (st++g)/\st.length<=k/\(st++g)[k]?=some (.lst ((bI r (b9 P)).map tV)):=by
 obtain⟨g1,e1⟩:=jl hr st;obtain⟨s1,dI⟩:∃s1,s1=st++g1:=⟨_,rfl⟩
 rw[<-dI]at e1;have i1:aq s1 p=some (P.map tV):=by rw[dI];exact aC h _
 have e2:=jc h1 h4 s1;obtain⟨g3,e3⟩:=sJ i1 G h4;obtain⟨s3,iS⟩:∃s3,s3=s1++g3:=⟨_,rfl⟩
 rw[<-iS]at e3;have i3:aq s3 p=some (P.map tV):=by rw[iS];exact aC i1 _
 obtain⟨y4,y5,e4⟩:=DJ (x0:=some (.int r)) (x1:=some (.int (af:Int))) i3 (by lia);have ga:=jA P;obtain⟨s5,uD⟩:∃s5,s5=s3++[aG.dT ((b9 P).map eD)]:=⟨_,rfl⟩
 rw[<-uD]at e4;have d5:s5[s3.length]?=some (.dT ((b9 P).map eD)):=by rw[uD];exact wB s3 _
 obtain⟨c1,c2,c3,e5⟩:=DK (r:=r) d5 ga.1 (by lia) (fun t ht z=>by
  obtain⟨q,hq,e⟩:=V0.mp (ga.2.2 t ht);have:=(G q hq).len;rw[e,z]at this;simp at this;lia)
 have es:st++(g1++g3++[aG.dT ((b9 P).map eD)]++[c1,c2,c3,.lst ((bI r (b9 P)).map tV)])=s5++[c1,c2,c3,.lst ((bI r (b9 P)).map tV)]:=by rw[uD,iS,dI];simp only[Vy]
 refine⟨g1++g3++[aG.dT ((b9 P).map eD)]++[c1,c2,c3,.lst ((bI r (b9 P)).map tV)],s5.length+3,?_,?_,?_⟩
 .rw[es];have q1:aj PM.dc (ae aD ak) [qI r, qN af, qL p, qn, qn, qn] st=.ok .cO s1:=by show PM.dc [.int r] st=_;exact e1
  have q2:aj PM.bJ (ae aO ak) [qI r, qN af, qL p, qn, qn, qn] s1=.ok .cO s1:=by show PM.bJ [.int (af:Int)] s1=_;exact e2
  have q3:aj PM.dX (ae aO (ae bH ak)) [qI r, qN af, qL p, qn, qn, qn] s1=.ok .cO s3:=by show PM.dX [.int (af:Int),.loc p] s1=_;exact e3
  have x1:cF (aj PM.dc (ae aD ak)) [qI r, qN af, qL p, qn, qn, qn] st=.nx [qI r, qN af, qL p, qn, qn, qn] s1:=by rw[fA,q1,az];rfl
  have x2:cF (aj PM.bJ (ae aO ak)) [qI r, qN af, qL p, qn, qn, qn] s1=.nx [qI r, qN af, qL p, qn, qn, qn] s1:=by rw[fA,q2,az];rfl
  have x3:cF (aj PM.dX (ae aO (ae bH ak))) [qI r, qN af, qL p, qn, qn, qn] s1=.nx [qI r, qN af, qL p, qn, qn, qn] s3:=by rw[fA,q3,az];rfl
  have x4:aB 3 ku [qI r, qN af, qL p, qn, qn, qn] s3=.nx [qI r, qN af, qL p, qL s3.length, qn, qn] (s3++[.dT []]):=rfl;have v2:bH [some (aw.int r), qN af, qL p, qL s3.length, qn, qn] (s3++[.dT []])=.ok (.loc p) (s3++[.dT []]):=rfl;have x5:dQ (d6 bH) (gN [aA 4,aA 5]) Ti [qI r, qN af, qL p, qL s3.length, qn, qn] (s3++[.dT []])=.nx [qI r, qN af, qL p, qL s3.length, y4, y5] s5:=by rw[fF,fB,v2,au,eG (aC i3 _),az,gP];exact e4
  have q6:aj PM.dw (ae aD (ae ck ak)) [qI r, qN af, qL p, qL s3.length, y4, y5] s5=.ok (.loc (s5.length+3)) (s5++[c1,c2,c3,.lst ((bI r (b9 P)).map tV)]):=by show PM.dw [.int r,.loc s3.length] s5=_;exact e5
  unfold PM.made;rw[aY (np:=3) (us:=[aw.int r,.int (af:Int),.loc p]) rfl];show(ay (cF (aj PM.dc (ae aD ak))) (ay (cF (aj PM.bJ (ae aO ak))) (ay (cF (aj PM.dX (ae aO (ae bH ak)))) (ay (aB 3 ku) (ay (dQ (d6 bH) (gN [aA 4,aA 5]) Ti) (aP (aj PM.dw (ae aD (ae ck ak)))))))) [qI r, qN af, qL p, qn, qn, qn] st).fin=_;rw[av,x1,ax,av,x2,ax,av,x3,ax,av,x4,ax,av,x5,ax,aL,q6,az];rfl
 .rw[uD,iS,dI];simp only[Vz];lia
 .rw[es,VS (by lia),show s5.length+3-s5.length=3 by lia];rfl
abbrev B9:ME:=ah bY aD bH
abbrev Vj:MT:=eY (dP (aT (uk "tuple" B9))) (eY (aT (ah gq (aj bG (ae B9 ak)) fP)) (dP (aT (aj PM.gm (ae (ah bY B9 bA) ak)))))
abbrev To:ME:=eh 1 [] (d6 (ah bY B9 bX)) (aA 0) (dP (aT (aj PM.gm (ae aD ak)))) aD
abbrev Vk:MT:=eY (dP (aT (uk "tuple" (ah bY B9 bX)))) (aT (ah gq To (bq ak)))
abbrev Tp:MB:=ay (cU Vj (aP (mC (.bl false))) aJ) (cU Vk (aP (mC (.bl false))) aJ)
theorem KO{s:ao}{μ:MN.Env}{t:bg}(hX:B9 μ s=.ok (tV t) s)(hl:t.1.length<=1000000):Tp μ s=.nx μ (s++[.lst [],.lst []]):=by
 have ca:aT (uk "tuple" B9) μ s=.ok true s:=bu (by rw[Ga,hX,au];rfl);have Vl:aj bG (ae B9 ak) μ s=.ok (.int 2) s:=by rw[bU,aW,hX,au,bE,bS,au,aZ,au];rfl
 have cb:aT (ah gq (aj bG (ae B9 ak)) fP) μ s=.ok false s:=bu (by rw[aH Vl (y:=.int 2) (s2:=s) rfl];rfl);have x1:ah bY B9 bA μ s=.ok (.int t.2) s:=by rw[aH hX (y:=.int 1) (s2:=s) rfl];rfl
 have x0:ah bY B9 bX μ s=.ok (a9 t.1) s:=by rw[aH hX (y:=.int 0) (s2:=s) rfl];rfl
 have cc:aT (aj PM.gm (ae (ah bY B9 bA) ak)) μ s=.ok true s:=bu (by
  rw[bU,aW,x1,au,bE,bS,au,aZ,au];rfl)
 have cd:aT (uk "tuple" (ah bY B9 bX)) μ s=.ok true s:=bu (by rw[Ga,x0,au];rfl);have cp:=e7 (a:=aA 0) (c:=dP (aT (aj PM.gm (ae aD ak)))) (e:=aD) (g:=fun _=>True) (st:=s) trivial (fun τ=>∃x,τ=[x]) (fun _=>false) (fun v=>v) (t.1.map aw.int) [none] [] ⟨_,rfl⟩ (by
  rintro u hu τ ⟨x,rfl⟩;obtain⟨e,he,rfl⟩:=V0.mp hu;exact⟨[some (.int e)],rfl,⟨_,rfl⟩,rfl,fun z=>by cases z⟩)
 rw[List.filter_eq_nil_iff.mpr (fun _ _ z=>by cases z),VO,VW]at cp;have Ej:j! 1 [] μ=[none]:=rfl;have pc:To μ s=.ok (.loc s.length) (s++[.lst []]):=by unfold To;rw[ik,fB,x0,au];show((pL (.tup (t.1.map aw.int)) s).ic _)=_;rw[vf,au,jT,Vs (by rw[Vt,VN];lia),Ej,cp,au,m_]
 have pl:bq ak μ (s++[.lst []])=.ok (.loc (s++[aG.lst []]).length) (s++[.lst []]++[.lst []]):=by simp only[au,vd,bS,oy,VI,VN,Nat.reduceLeDiff,↓reduceIte]
 have ce:aT (ah gq To (bq ak)) μ s=.ok false (s++[.lst []]++[.lst []]):=bu (by
  rw[aH pc pl];exact ne_nil (aC (aN s []) _) (aN (s++[.lst []]) []))
 have es:s++[aG.lst [],.lst []]=s++[.lst []]++[.lst []]:=by rw[Vy];rfl
 unfold Tp;rw[av,cI (B7 (vq ca) (B7 cb (vq cc))),ax,cI (B7 (vq cd) ce),es]
theorem yD{a b:Nat}{D:List bg}(ha:st[a]?=some (.lst (D.map tV)))(hb:st[b]?=some (.lst (D.map tV)))(hl:D.length<=1000000)(hk:∀t∈D,t.1.length<=1000000):∃g,PM.gS [.loc a,.loc b] st=.ok (.bl true) (st++g):=by
 obtain⟨n,hn⟩:∃n:Int,n=((D.map tV).length:Int):=⟨_,rfl⟩
 have nD:n.toNat=D.length:=by rw[hn,Vt];simp
 have hrg:=BO (st:=st) (j:=n) (by lia) (by rw[Vt]at hn;lia);obtain⟨μ',aF,e,g,rfl,y,rfl⟩:=et (g:=fun _=>True) (a:=aA 2) (body:=Tp)
  (fun _ μ s'=>∃g,s'=st++g/\∃y,μ=[qL a, qL b, y])
  (bD 0 n.toNat) 0 [qL a, qL b, qn] st
  (by
   rintro i u μ s' hu ⟨g,rfl,y,rfl⟩;refine⟨trivial,?_⟩;have oI:=hu;unfold bD at oI;rw[VV]at oI;have hi:i<n.toNat:=by
    rcases WC i n.toNat with q|q
    .exact q
    .rw[V8 (by rw[V9];exact q)]at oI;cases oI
   rw[VD (by rw[V9];exact hi),W']at oI;have ue:u=.int ((i:Nat):Int):=by cases oI;show aw.int (0+(i:Int))=_;rw[Ya]
   subst ue;have hiD:i<D.length:=by lia
   have hat:L2.pF (D.map tV) (i:Int)=some (tV D[i]):=L2.ft (by rw[VV,VD hiD];rfl);have hX:B9 [qL a, qL b, qN i] (st++g)=.ok (tV D[i]) (st++g):=by show bY (.loc a) (.int (i:Int)) (st++g)=_;exact gX (aC (dU ha) _) hat
   exact⟨[some (.loc a),some (.loc b),some (.int (i:Int))],rfl,_,_,.inl (KO hX (hk _ (Ws hiD))),g++[.lst [],.lst []],by rw[Vy],_,rfl⟩)
  (fun _ _ _=>trivial) ⟨[],by rw[VW],none,rfl⟩
 refine⟨g,?_⟩;have la:=gu (dU ha);have lb:=gu (dU hb);rw[<-hn]at la lb;have first:cU (eY (dP (aT (uk "list" aD))) (aT (ah gq (aj bG (ae aD ak)) (aj bG (ae aO ak))))) (aP (mC (.bl false))) aJ [qL a, qL b, qn] st=.nx [qL a, qL b, qn] st:=by
  refine cI (B7 (s1:=st) (vq (bu ?_)) (bu ?_))
  .simp only[au,Ga,lN,is_list ha]
  .rw[aH (x:=.int n) (s1:=st) la (y:=.int n) (s2:=st) lb,lO,Wn];rfl
 have a1:cz (ae (aj bG (ae aO ak)) ak) [qL a, qL b, qn] st=.ok (bD 0 n.toNat,fun _=>True) st:=by simp only[au,bE,aZ,bS,aW,bU,qz,lN,cN,lb,hrg]
 have last:ah cG aD aO [qL a, qL b, y] (st++g)=.ok (.bl true) (st++g):=by show cG (.loc a) (.loc b) (st++g)=_;exact Gk (aC (dU ha) _) (aC (dU hb) _) (O3 D)
 unfold PM.gS;rw[aY (np:=2) (us:=[aw.loc a,.loc b]) rfl];show(ay (cU (eY (dP (aT (uk "list" aD))) (aT (ah gq (aj bG (ae aD ak)) (aj bG (ae aO ak))))) (aP (mC (.bl false))) aJ) (ay (dQ (cz (ae (aj bG (ae aO ak)) ak)) (aA 2) Tp) (aP (ah cG aD aO))) [qL a, qL b, qn] st).fin=_;rw[av,first,ax,av,fF,a1,az,gP,e,ax,aL,last,az];rfl
section
variable{μ:MN.Env}{s s2:ao}{o:Int}{t:MT}{B:MB}
theorem eM(h:m μ s=.ok (.int o) s1)(hj:¬ j=0):ah bf m (mC (.int j)) μ s=.ok (.int (o.fmod j)) s1:=by rw[aH h (y:=.int j) (s2:=s1) rfl];exact cZ hj
theorem iI(h:m μ s=.ok (.int o) s1)(hj:Dz j):ah bV m (mC (.int j)) μ s=.ok (.int (o.fdiv j)) s1:=by rw[aH h (y:=.int j) (s2:=s1) rfl];exact div_ii hj
theorem iJ(h:m μ s=.ok (.int o) s1):ah cG m (mC (.int j)) μ s=.ok (.bl (o==j)) s1:=by rw[aH h (y:=.int j) (s2:=s1) rfl];exact fQ
theorem bw(h:m μ s=.ok v s1):aB i m μ s=.nx (μ.set i (some v)) s1:=by rw[eB,h,az];rfl
theorem b6{C:MB}(h:t μ s=.ok true s1):cU t B C μ s=B μ s1:=by rw[bF,h,az,dD]
theorem d0(h:m μ s=.ok v s1):ae m ak μ s=.ok [v] s1:=by rw[aW,h,au,bE,bS,au,aZ]
theorem gg{m2:ME}{w:aw}(h:m μ s=.ok v s1)(h2:m2 μ s1=.ok w s2):ae m (ae m2 ak) μ s=.ok [v,w] s2:=by rw[aW,h,au,bE,d0 h2,au,aZ]
theorem hU{m2:MA}{ws:List aw}(h:m μ s=.ok v s1)(h2:m2 μ s1=.ok ws s2):ae m m2 μ s=.ok (v::ws) s2:=by rw[aW,h,au,bE,h2,au,aZ]
theorem aI{f:FN}{a:MA}{vs:List aw}(h:a μ s=.ok vs s1):aj f a μ s=f vs s1:=by rw[bU,h,au]
theorem mq{a:MA}{vs:List aw}(h:a μ s=.ok vs s1)(hl:vs.length<=1000):fO a μ s=.ok (.tup vs) s1:=by rw[rR,h,au,BM];exact Vs (by rw[VN];lia)
theorem eO{a:MA}{vs:List aw}(h:a μ s=.ok vs s1)(hl:vs.length<=1000):bq a μ s=.ok (.loc s1.length) (s1++[.lst vs]):=by rw[oy,h,au,vd];exact Vs (by rw[VN];lia)
theorem sM{a:MA}(h:a μ s=.ok [.int j] s1)(h1:-(2 ^ 62)<=j)(h2:j<2 ^ 62):cz a μ s=.ok (bD 0 j.toNat,fun _=>True) s1:=by rw[qz,h,au,BO h1 h2]
end
abbrev Vm:MB:=cU (i_ (aT (ah cG fC kd)) (aT (ah cG (ah bf (ah bV aD xT) z!) eR))) (aB 6 (ah bf (ah bV aD (mC (.int 2048))) (mC (.int 100)))) aJ
abbrev leB:MB:=ay (aB 6 (ah bf ck fC)) (ay (aB 3 (ah bV ck fC)) (ay Vm (cF (jk cL bH (ae jt ak)))))
theorem le_step{c rest W k:Int}{s:ao}{es:_m}(hW:W=4\/W=100)(h:s[n]?=some (.lst (es.map aw.int)))(hl:es.length<=1000000):
  ∃e r',leB [qI c, x1, qL n, qI rest, qI W, qI k, y6] s=.nx [qI c, x1, qL n, qI r', qI W, qI k, qI e] (s.set n (.lst ((es++[e]).map aw.int)))/\0<=e/\e<=99:=by
 have W0:¬ W=0:=by lia
 have dW:Dz W:=lG (by lia) (by lia);have qW:=gT (m:=W) (by lia) rest;obtain⟨e1,he1⟩:∃e1,e1=rest.fmod W:=⟨_,rfl⟩
 obtain⟨r',Tq⟩:∃r',r'=rest.fdiv W:=⟨_,rfl⟩
 have a1:aB 6 (ah bf ck fC) [qI c, x1, qL n, qI rest, qI W, qI k, y6] s=.nx [qI c, x1, qL n, qI rest, qI W, qI k, qI e1] s:=by refine bw (v:=.int e1) ?_;rw[he1];exact cZ W0
 have a2:aB 3 (ah bV ck fC) [qI c, x1, qL n, qI rest, qI W, qI k, qI e1] s=.nx [qI c, x1, qL n, qI r', qI W, qI k, qI e1] s:=by refine bw (v:=.int r') ?_;rw[Tq];exact div_ii dW
 obtain⟨e,a3,h0,h1⟩:∃e,Vm [qI c, x1, qL n, qI r', qI W, qI k, qI e1] s=.nx [qI c, x1, qL n, qI r', qI W, qI k, qI e] s/\0<=e/\e<=99:=by
  have t1:aT (ah cG fC kd) [qI c, x1, qL n, qI r', qI W, qI k, qI e1] s=.ok (W==4) s:=bu (iJ rfl);have dd:ah bV aD xT [qI c, x1, qL n, qI r', qI W, qI k, qI e1] s=.ok (.int (c.fdiv 256)) s:=iI rfl (lG (by decide) (by decide));have t2:aT (ah cG (ah bf (ah bV aD xT) z!) eR) [qI c, x1, qL n, qI r', qI W, qI k, qI e1] s=.ok ((c.fdiv 256).fmod 8==k) s:=bu (by
   rw[aH (eM dd (by decide)) (y:=.int k) (s2:=s) rfl];exact fQ)
  have tt:i_ (aT (ah cG fC kd)) (aT (ah cG (ah bf (ah bV aD xT) z!) eR)) [qI c, x1, qL n, qI r', qI W, qI k, qI e1] s=.ok ((W==4)&&((c.fdiv 256).fmod 8==k)) s:=by
   rw[jQ,t1,au];cases(W==4) with
   |true=>rw[m7,t2,XD]
   |false=>rw[m8,Xu]
  cases hb:((W==4)&&((c.fdiv 256).fmod 8==k)) with
  |false=>rw[hb]at tt;exact⟨e1,cI tt,by lia,by lia⟩
  |true=>
   rw[hb]at tt;have q:=gT (m:=100) (by decide) (c.fdiv 2048);refine⟨(c.fdiv 2048).fmod 100,?_,by lia,by lia⟩;unfold Vm;rw[b6 tt];exact bw (eM (iI rfl (lG (by decide) (by decide))) (by decide))
 refine⟨e,r',?_,h0,h1⟩;have ap:=k7 (v:=aw.int e) h (by rw[Vt,VN];lia);have a4:cF (jk cL bH (ae jt ak)) [qI c, x1, qL n, qI r', qI W, qI k, qI e] s=.nx [qI c, x1, qL n, qI r', qI W, qI k, qI e] (s.set n (.lst ((es++[e]).map aw.int))):=by have v2:bH [qI c, x1, qL n, qI r', qI W, qI k, qI e] s=.ok (.loc n) s:=rfl;have ar:ae jt ak [qI c, x1, qL n, qI r', qI W, qI k, qI e] s=.ok [.int e] s:=rfl;rw[fA,wm,v2,au,BR h,ar,au,BS,ap,Wh];rfl
 unfold leB;rw[av,a1,ax,av,a2,ax,av,a3,ax,a4]
theorem Hc(c:Int)(af:Nat)(st:ao):∃r0 W:Int,(W=4\/W=100)/\cU (aT (ah cG (ah bf aD lu) bX)) (ay (aB 3 (ah bV aD lu)) (aB 4 (mC (.int 100)))) aJ [qI c, qN af, qL st.length, qI c, qI 4, qn, qn] (st++[.lst []])=.nx [qI c, qN af, qL st.length, qI r0, qI W, qn, qn] (st++[.lst []]):=by
 have tt:aT (ah cG (ah bf aD lu) bX) [qI c, qN af, qL st.length, qI c, qI 4, qn, qn] (st++[.lst []])=.ok (c.fmod 3==0) (st++[.lst []]):=bu (iJ (eM rfl (by decide)));cases hb:c.fmod 3==0 with
 |false=>rw[hb]at tt;exact⟨c,4,.inl rfl,cI tt⟩
 |true=>
  rw[hb]at tt;refine⟨c.fdiv 3,100,.inr rfl,?_⟩;have a:aB 3 (ah bV aD lu) [qI c, qN af, qL st.length, qI c, qI 4, qn, qn] (st++[.lst []])=.nx [qI c, qN af, qL st.length, qI (c.fdiv 3), qI 4, qn, qn] (st++[.lst []]):=bw (iI rfl (lG (by decide) (by decide)));rw[b6 tt,av,a,ax];rfl
theorem oJ(c:Int)(hm:af<=4)(st:ao):∃g es,PM.d9 [.int c,.int (af:Int)] st=.ok (a9 es) (st++g)/\es.length=af/\∀e∈es,0<=e/\e<=99:=by
 obtain⟨r0,W,hW,s4⟩:=Hc c af st;obtain⟨μ',aF,e,es,le,hes,rfl,r',y5,y6,rfl⟩:=et (g:=fun _=>True) (a:=aA 5) (body:=leB)
  (fun i μ s'=>∃es:_m,es.length=i/\(∀e∈es,0<=e/\e<=99)/\s'=st++[.lst (es.map aw.int)]/\∃r' y5 y6,μ=[qI c, qN af, qL st.length, qI r', qI W, y5, y6])
  (bD 0 (af:Int).toNat) 0 [qI c, qN af, qL st.length, qI r0, qI W, qn, qn] (st++[.lst []])
  (by
   rintro i u μ s' hu ⟨es,le,hes,rfl,r',y5,y6,rfl⟩;refine⟨trivial,?_⟩;have oI:=hu;unfold bD at oI;rw[VV]at oI;have hi:i<(af:Int).toNat:=by
    rcases WC i (af:Int).toNat with q|q
    .exact q
    .rw[V8 (by rw[V9];exact q)]at oI;cases oI
   rw[VD (by rw[V9];exact hi),W']at oI;cases oI;have hi4:i<4:=by lia
   obtain⟨e,r2,eb,h0,h1⟩:=le_step (c:=c) (rest:=r') (k:=0+(i:Int)) (x1:=some (.int (af:Int))) (y6:=y6) hW (d8 st (es.map aw.int)) (by lia);refine⟨_,rfl,_,_,.inl eb,es++[e],by rw[Vz,le];rfl,?_,yf st _ _,r2,_,_,rfl⟩;intro x hx;rcases We.mp hx with hx|hx
   .exact hes x hx
   .rw[VZ.mp hx];exact⟨h0,h1⟩)
  (fun _ _ _=>trivial) ⟨[],rfl,fun _ h=>(by cases h),rfl,r0,none,none,rfl⟩
 refine⟨[.lst (es.map aw.int)],es,?_,by rw[le];unfold bD;rw[Vt,V9];lia,hes⟩;have a1:aB 2 (bq ak) [qI c, qN af, qn, qn, qn, qn, qn] st=.nx [qI c, qN af, qL st.length, qn, qn, qn, qn] (st++[.lst []]):=bw (eO (vs:=[]) rfl (VU _));have a2:aB 3 aD [qI c, qN af, qL st.length, qn, qn, qn, qn] (st++[.lst []])=.nx [qI c, qN af, qL st.length, qI c, qn, qn, qn] (st++[.lst []]):=rfl;have a3:aB 4 kd [qI c, qN af, qL st.length, qI c, qn, qn, qn] (st++[.lst []])=.nx [qI c, qN af, qL st.length, qI c, qI 4, qn, qn] (st++[.lst []]):=rfl;have a5:cz (ae aO ak) [qI c, qN af, qL st.length, qI r0, qI W, qn, qn] (st++[.lst []])=.ok (bD 0 (af:Int).toNat,fun _=>True) (st++[.lst []]):=sM rfl (by lia) (by lia);have v2:bH [qI c, qN af, qL st.length, qI r', qI W, y5, y6] (st++[.lst (es.map aw.int)])=.ok (.loc st.length) (st++[.lst (es.map aw.int)]):=rfl;unfold PM.d9;rw[aY (np:=2) (us:=[aw.int c,.int (af:Int)]) rfl];show(ay (aB 2 (bq ak)) (ay (aB 3 aD) (ay (aB 4 kd) (ay _ (ay (dQ (cz (ae aO ak)) (aA 5) leB) (aP (aj l6 (ae bH ak))))))) [qI c, qN af, qn, qn, qn, qn, qn] st).fin=_;rw[av,a1,ax,av,a2,ax,av,a3,ax,av,s4,ax,av,fF,a5,az,gP,e,ax,aL,aI (d0 v2),wj (aN _ _),az];rfl
theorem sN{μ:MN.Env}{s:ao}{o:ME}{a:MA}(ho:o μ s=.ok (.loc n) s)(h0:s[n]?=some (.lst us))(ha:a μ s=.ok [v] s1)(h:s1[n]?=some (.lst us))(hl:us.length<=1000):cF (jk cL o a) μ s=.nx μ (s1.set n (.lst (us++[v]))):=by rw[fA,wm,ho,au,BR h0,ha,au,BS,k7 h (by rw[VN];lia),az];rfl
abbrev L4:ME:=ah aQ aO (ah dz fP eR)
end PG
variable {t:PG.bg}
variable {D:List PG.bg}
namespace PG
open PySem.Spec L2 MN TX
open PyProof.Rows hiding St kindOf
section
variable{μ:MN.Env}{s:ao}
theorem kC{lo:MO}{l h:Option Int}(e:m μ s=.ok (.str x) s1)(hl:lo μ s1=.ok l s1)(hh:hi μ s1=.ok h s1)(sz:x.length<=sizeLine):cJ m lo hi μ s=.ok (.str (Txt.slice x l h)) s1:=by unfold cJ pZ;rw[e];show((lo μ s1).bind fun l st2=>_)=_;rw[hl];show((hi μ s1).bind fun l st2=>_)=_;rw[hh];show(if x.length<=sizeLine then _ else _)=_;rw[Vs sz]
theorem qC(e:m μ s=.ok (.str x) s1)(sz:x.length<=sizeLine)(hb:(y.length==0)=false/\(Builtin.Str.partsBetween x (Builtin.Str.occurrences x y 0 x.length (x.length+1)) y.length).length<=sizeLine/\(Txt.split x y).length<=sizeLine):
  eI m (mC (.str y)) μ s=.ok (.loc s1.length) (s1++[.lst ((Txt.split x y).map .str)]):=by
 unfold eI pZ;rw[e];show(if x.length<=sizeLine then _ else _)=_;rw[Vs sz];show(if(y.length==0)=false/\(Builtin.Str.partsBetween x (Builtin.Str.occurrences x y 0 x.length (x.length+1)) y.length).length<=sizeLine/\(Txt.split x y).length<=sizeLine then _ else _)=_;rw[Vs hb]
theorem oK{xs:_q}(e:me μ s=.ok (.loc n) s1)(hi:aq s1 n=some (xs.map .str))(hk:JoinOk y xs=true):fX (mC (.str y)) me μ s=.ok (.str (Txt.join y xs)) s1:=by unfold fX pZ;show((me μ s).bind fun v st2=>_)=_;rw[e];show(match aq s1 n with|some us=>_|none=>_)=_;rw[hi];show(match strsOf (xs.map .str) with|some xs=>_|none=>_)=_;rw[Dw];show(if JoinOk y xs=true then _ else _)=_;rw[Vs hk]
theorem Hd(e:m μ s=.ok (.str x) s1):jb m (mC (.str y)) μ s=.ok (.bl (Txt.startswith x y)) s1:=by unfold jb pZ;rw[e];rfl
theorem He{k:Int}(e:m μ s=.ok (.loc n) s1)(hk:mk μ s1=.ok (.int k) s1)(hi:aq s1 n=some us)(h0:0<k):il m mk μ s=.ok (.loc s1.length) (s1++[.lst (gx us k)]):=by unfold il;rw[e];show((mk μ s1).bind fun k st2=>_)=_;rw[hk];show qB (.loc n) (.int k) s1=_;unfold qB;dsimp only;rw[hi];dsimp only;rw[Vs h0]
theorem DN{ml:ME}{i k:Int}(e:m μ s=.ok (.loc n) s1)(hl:ml μ s1=.ok (.int i) s1)(hk:mk μ s1=.ok (.int k) s1)(hi:aq s1 n=some us)(Vf:0<=i)(h0:0<k):fY m ml mk μ s=.ok (.loc s1.length) (s1++[.lst (f? us i k)]):=by unfold fY;rw[e];show((ml μ s1).bind fun k st2=>_)=_;rw[hl];show((mk μ s1).bind fun k st2=>_)=_;rw[hk];show nj (.loc n) (.int i) (.int k) s1=_;unfold nj;dsimp only;rw[hi];dsimp only;rw[Vs ⟨Vf,h0⟩]
theorem R?{k z:Str}{i:Int}(ea:ma μ s=.ok (.str z) s1)(eb:mb μ s1=.ok (.int i) s1)(h1:z.length<=sizeLine)(h2:(z++k).length<=sizeLine)(h3:i.natAbs.log2<1920)(h4:(DB k z i).length<=sizeLine):Au k ma mb μ s=.ok (.str (DB k z i)) s1:=by unfold Au pZ;rw[ea];show(if z.length<=sizeLine/\(z++k).length<=sizeLine then _ else _)=_;rw[Vs ⟨h1,h2⟩];show((mb μ s1).bind fun v st2=>_)=_;rw[eb];show(if i.natAbs.log2<1920/\(DB k z i).length<=sizeLine then _ else _)=_;rw[Vs ⟨h3,h4⟩]
theorem Hf{g:ao->Prop}{a:AS}{c:MT}{e:ME}{y:aw}{τ τ1:MN.Env}{st1 st2:ao}{ys:List aw}(hg:g st)(h1:a u τ=some τ1)(hc:c τ1 st=.ok true st1)(h2:e τ1 st1=.ok y st2):dR g a c e (u::us) τ st ys=dR g a c e us τ1 st2 (ys++[y]):=by rw[dR,Vs hg,h1];dsimp only;rw[hc];dsimp only;rw[h2]
theorem O6{g:ao->Prop}{a:AS}{c:MT}{e:ME}{τ τ1:MN.Env}{st1:ao}{ys:List aw}(hg:g st)(h1:a u τ=some τ1)(hc:c τ1 st=.ok false st1):dR g a c e (u::us) τ st ys=dR g a c e us τ1 st1 ys:=by rw[dR,Vs hg,h1];dsimp only;rw[hc]
theorem L5{g:ao->Prop}{a:AS}{c:MT}{e:ME}{τ:MN.Env}{ys:List aw}(hg:g st):dR g a c e [] τ st ys=.ok ys st:=by rw[dR,Vs hg]
end
def bM(n:Int):Str:=PySem.Str.ofString (toString n)
def jV(i:Nat):Str:=(["x","y","z","w"]:_q).getD i ""
def mO(i:Nat)(e:Int):Str:=if e=1 then jV i else DB "^" (jV i) e
def bz:Nat->_m->_q
 |_,[]=>[]
 |i,e::es=>if e=0 then bz (i+1) es else mO i e::bz (i+1) es
def dJ(t:_m)(n:Int):_q:=if n=1/\bz 0 t≠[]then bz 0 t else bM n::bz 0 t
def cq(t:_m)(n:Int):Str:=Txt.join "*" (dJ t n)
def dn(b:Bool)(n:Int):Str:=if b then(if n<0 then "-" else "")else if n<0 then " - " else " + "
def cg(n:Int):Int:=if n<0 then -n else n
def dA:Bool->List bg->_q
 |_,[]=>[]
 |b,t::P=>dn b t.2::cq t.1 (cg t.2)::dA false P
def aR(P:List bg):Str:=if P=[]then "0" else Txt.join "" (dA true P)
structure Wr(t:bg):Prop where
 len:t.1.length<=4
 rg:∀e∈t.1,0<=e/\e<10 ^ 10
 nb:cg t.2<10 ^ 300
theorem nu(i:Nat):(jV i).length<=1:=by
 unfold jV;rcases i with _|_|_|_|i
 .decide +kernel
 .decide +kernel
 .decide +kernel
 .decide +kernel
 .exact(by decide +kernel:("":Str).length<=1)
theorem kD{n:Int}(h0:0<=n)(h1:n<10 ^ 300):(bM n).length<=300:=Wz h0 (by decide) h1
theorem B_{z:Str}{e:Int}(hz:z.length<=1)(h0:0<=e)(h1:e<10 ^ 10):(DB "^" z e).length<=12:=by
 have h:(PySem.Str.ofString (toString e)).length<=10:=Wz h0 (by decide) h1;have e2:(DB "^" z e).length=z.length+("^":Str).length+(PySem.Str.ofString (toString e)).length:=by unfold DB;rw[W?,W?]
 have e3:("^":Str).length=1:=by decide +kernel
 lia
theorem wF{e:Int}(h0:0<=e)(h1:e<2 ^ k)(hk:k<=1920)(k0:0<k):e.natAbs.log2<1920:=by
 obtain⟨m,rfl⟩:=X7 h0;show m.log2<1920;have hm:m<2 ^ k:=by exact_mod_cast h1
 by_cases z:m=0
 .subst z;decide
 .have:=(Yk z).mpr hm;lia
theorem O7{z:Str}{e:Int}(hz:z.length<=1)(h0:0<=e)(h1:e<10 ^ 10)(s:ao):PM.f' [.str z,.int e] s=.ok (.str (if e=1 then z else DB "^" z e)) s:=by
 have fl:=B_ hz h0 h1;have sl:sizeLine=16777216:=VN;have f:Au "^" aD aO [some (.str z),some (.int e)] s=.ok (.str (DB "^" z e)) s:=by
  refine R? (s1:=s) rfl rfl (by lia) ?_ (wF h0 (k:=40) (by lia) (by decide) (by decide)) (by lia);rw[W?];have e3:("^":Str).length=1:=by decide +kernel
  lia
 unfold PM.f';generalize Au "^" aD aO=Z at f⊢;by_cases h:e=1
 .have q:(e==1)=true:=by rw[h];rfl
  rw[Vs h];simp only[aY,au,az,bQ,a8,bR,a7,jR,cH,cY,bj,bh,i',aL,fQ,b_,e8,cN,Vp,VO,VH,VG,VF,Nat.reduceSub,Vo,VI,Nat.reduceAdd,q]
 .have q:(e==1)=false:=WD h;rw[Vx h];simp only[aY,au,az,bQ,a8,bR,a7,jS,cH,cY,bj,bh,i',aL,fQ,b_,cN,Vp,VO,VH,VG,VF,Nat.reduceSub,Vo,VI,Nat.reduceAdd,q,f]
abbrev pwC:ME:=eh 2 [] (wt (ae aD ak)) (gN [(aA 0),(aA 1)]) (aT (ah gq aO bX)) (aj PM.f' (ae (ah El (mC PM.f_) aD) (ae aO ak)))
theorem Hg(h:i<4)(s:ao):El PM.f_ (.int (i:Int)) s=.ok (.str (jV i)) s:=by
 rcases i with _|_|_|_|i
 .rfl
 .rfl
 .rfl
 .rfl
 .lia
theorem yE(st:ao):∀(t:_m)(k:Nat)(τ0 τ1:Option aw)(ys:List aw),k+t.length<=4->(∀e∈t,0<=e/\e<10 ^ 10) ->
  dR (fun _=>True) (gN [(aA 0),(aA 1)]) (aT (ah gq aO bX)) (aj PM.f' (ae (ah El (mC PM.f_) aD) (ae aO ak))) (m6 k (t.map aw.int)) [τ0,τ1] st ys=.ok (ys++(bz k t).map .str) st
 |[],k,τ0,τ1,ys,_,_=>by show dR _ _ _ _ [] _ _ _=_;rw[L5 trivial];simp[bz]
 |e::t,k,τ0,τ1,ys,hk,hr=>by
  have KL:k+(t.length+1)<=4:=hk;obtain⟨h0,h1⟩:=hr e Vu;have ih:=fun ys=>yE st t (k+1) (some (.int (k:Int))) (some (.int e)) ys (by lia) fun x hx=>hr x (Vq _ hx);show dR _ _ _ _ (.tup [.int (k:Int),.int e]::m6 (k+1) (t.map aw.int)) _ _ _=_;unfold bz;by_cases z:e=0
  .have q:(!(e==0))=false:=by rw[z];rfl
   rw[O6 (τ1:=[some (.int (k:Int)),some (.int e)]) (st1:=st) trivial rfl (by simp only[au,a8,bR,a7,cY,bj,bh,lO,b_,cN,q]),ih,Vs z]
  .have q:(!(e==0))=true:=by rw[WD z];rfl
   rw[Hf (y:=.str (mO k e)) (τ1:=[some (.int (k:Int)),some (.int e)]) (st1:=st) (st2:=st) trivial rfl (by simp only[au,a8,bR,a7,cY,bj,bh,lO,b_,cN,q]) (by
    have ix:ah El (mC PM.f_) aD [some (.int (k:Int)),some (.int e)] st=.ok (.str (jV k)) st:=by rw[aH (x:=PM.f_) (s1:=st) rfl (y:=.int (k:Int)) (s2:=st) rfl];exact Hg (by lia) st
    rw[aI (gg ix (w:=.int e) (s2:=st) rfl)];exact O7 (nu k) h0 h1 st),ih,Vx z,Vp,Vy]
   rfl
theorem nv{t:_m}{n:Int}(hl:t.length<=4)(ht:∀e∈t,0<=e/\e<10 ^ 10)(h0:0<=n)(h1:n<10 ^ 300):(∀y∈bz 0 t,y.length<=12)/\(∀y∈dJ t n,y.length<=300)/\(bz 0 t).length<=4/\(dJ t n).length<=5:=by
 have go:∀(t:_m)(k:Nat),(∀e∈t,0<=e/\e<10 ^ 10)->(∀y∈bz k t,y.length<=12)/\(bz k t).length<=t.length:=by
  intro t
  induction t with
  |nil=>exact fun _ _=>⟨fun y hy=>(by cases hy),Vv _⟩
  |cons e t ih=>
   intro k hr;obtain⟨i1,i2⟩:=ih (k+1) fun x hx=>hr x (Vq _ hx);unfold bz;split
   .exact⟨i1,Nat.le_succ_of_le i2⟩
   .refine⟨fun y hy=>?_,Nat.succ_le_succ i2⟩;rcases VJ.mp hy with rfl|hy
    .unfold mO;split
     .have:=nu k;lia
     .obtain⟨q0,q1⟩:=hr e Vu;have:=B_ (nu k) q0 q1;lia
    .exact i1 y hy
 obtain⟨g1,g2⟩:=go t 0 ht;refine⟨g1,?_,by lia,?_⟩
 .intro y hy;unfold dJ at hy;split at hy
  .have:=g1 y hy;lia
  .rcases VJ.mp hy with rfl|hy
   .exact kD h0 h1
   .have:=g1 y hy;lia
 .unfold dJ;split
  .lia
  .rw[Vo];lia
theorem joinOk_of{sep:Str}{xs:_q}{B N:Nat}(hB:∀y∈xs,y.length<=B)(hN:xs.length<=N)(hs:sep.length<=1)(h:N*B+N<=16777216):JoinOk sep xs=true:=by
 have:xs.length*B+xs.length*sep.length<=16777216:=by have h1:xs.length*B<=N*B:=WN _ hN;have h2:xs.length*sep.length<=N*1:=Nat.mul_le_mul hN hs;lia
 unfold JoinOk;rw[StrLaws.joinFits hB this];rfl
theorem KP{t:_m}{n:Int}(hl:t.length<=4)(ht:∀e∈t,0<=e/\e<10 ^ 10)(h0:0<=n)(h1:n<10 ^ 300)(st:ao):∃g,PM.gn [a9 t,.int n] st=.ok (.str (cq t n)) (st++g):=by
 obtain⟨b1,b2,b3,b4⟩:=nv hl ht h0 h1;have sl:sizeLine=16777216:=VN;have en:wt (ae aD ak) [some (a9 t), qI n, qn] st=.ok (m6 0 (t.map aw.int),fun _=>True) st:=rfl;have cp:pwC [some (a9 t), qI n, qn] st=.ok (.loc st.length) (st++[.lst ((bz 0 t).map .str)]):=by unfold pwC;rw[ik,en,au,jT,Vs (by rw[ow,Vt];lia)];show((dR _ _ _ _ _ [none,none] st []).ic Gd)=_;rw[yE st t 0 none none [] (by lia) ht,au,m_,VG]
 obtain⟨s1,dI⟩:∃s1,s1=st++[aG.lst ((bz 0 t).map .str)]:=⟨_,rfl⟩
 rw[<-dI]at cp;have l1:s1[st.length]?=some (.lst ((bz 0 t).map .str)):=by rw[dI];exact d8 _ _
 have i1:=dU l1;have ln:bG [.loc st.length] s1=.ok (.int ((bz 0 t).length:Int)) s1:=by rw[gu i1,Vt]
 have jn:∀x,fX (qs "*") bH [x, qI n, qL st.length] s1=.ok (.str (Txt.join "*" (bz 0 t))) s1:=fun x=>oK (n:=st.length) rfl i1 (joinOk_of (N:=4) b1 b3 (by decide +kernel) (by decide));have sI:iG [.int n] s1=.ok (.str (bM n)) s1:=by unfold iG;dsimp only;rw[Vs (wF h0 (k:=1000) (ZS h1 (by decide +kernel)) (by decide) (by decide))];rfl
 obtain⟨s2,fq⟩:∃s2,s2=s1++[aG.lst [.str (bM n)]]:=⟨_,rfl⟩
 have ad:aQ (.loc s1.length) (.loc st.length) s2=.ok (.loc s2.length) (s2++[.lst ((bM n::bz 0 t).map .str)]):=by
  have a1:s2[s1.length]?=some (.lst [.str (bM n)]):=by rw[fq];exact d8 _ _
  have a2:s2[st.length]?=some (.lst ((bz 0 t).map .str)):=by rw[fq];exact rY l1 _
  rw[l_ a1 a2 (by rw[Vt];show 1+_<=_;lia)];rfl
 have sL:bq (ae (aj iG (ae aO ak)) ak) [some (a9 t), qI n, qL st.length] s1=.ok (.loc s1.length) s2:=by
  have q:aj iG (ae aO ak) [some (a9 t), qI n, qL st.length] s1=.ok (.str (bM n)) s1:=by rw[aI (d0 (v:=.int n) (s1:=s1) rfl)];exact sI
  rw[fq];exact eO (d0 q) (by show 1<=1000;decide)
 have jn2:fX (qs "*") (ah aQ (bq (ae (aj iG (ae aO ak)) ak)) bH) [some (a9 t), qI n, qL st.length] s1=.ok (.str (Txt.join "*" (bM n::bz 0 t))) (s2++[.lst ((bM n::bz 0 t).map .str)]):=by
  refine oK (n:=s2.length) ?_ (aN _ _) (joinOk_of (B:=300) (N:=5) (fun y hy=>?_) (by rw[Vo];lia) (by decide +kernel) (by decide))
  .rw[aH sL (y:=.loc st.length) (s2:=s2) rfl];exact ad
  .rcases VJ.mp hy with rfl|hy
   .exact kD h0 h1
   .have:=b1 y hy;lia
 unfold cq dJ;have run:PM.gn [a9 t,.int n] st=(ay (cU (eY (aT (ah gq aO bA)) (aT (ah cG (aj bG (ae bH ak)) bX))) (aP (fX (qs "*") (ah aQ (bq (ae (aj iG (ae aO ak)) ak)) bH))) aJ) (aP (fX (qs "*") bH)) [some (a9 t), qI n, qL st.length] s1).fin:=by unfold PM.gn;rw[aY (np:=2) (us:=[a9 t,.int n]) rfl];show(ay (aB 2 pwC) _ [some (a9 t), qI n, qn] st).fin=_;rw[av,bw cp,ax];rfl
 rw[run];generalize fX (qs "*") (ah aQ (bq (ae (aj iG (ae aO ak)) ak)) bH)=Z2 at jn2⊢;generalize fX (qs "*") bH=Z1 at jn⊢;by_cases hn:n=1
 .have q1:(!(n==1))=false:=by rw[hn];rfl
  by_cases hp:bz 0 t=[]
  .have q2:(((bz 0 t).length:Int)==0)=true:=by rw[hp];rfl
   rw[Vx (fun z=>z.2 hp)];refine⟨[aG.lst ((bz 0 t).map .str)]++[aG.lst [.str (bM n)]]++[.lst ((bM n::bz 0 t).map .str)],?_⟩;rw[show st++([aG.lst ((bz 0 t).map .str)]++[aG.lst [.str (bM n)]]++[.lst ((bM n::bz 0 t).map .str)])=s2++[.lst ((bM n::bz 0 t).map .str)] by rw[fq,dI];simp only[Vy]];simp only[au,az,fE,bQ,a8,bR,a7,dS,bE,aZ,cH,dD,cY,bj,bh,dC,bS,aW,bU,av,aL,bF,fQ,lO,b_,lN,cN,Vp,q1,ln,q2,jn2]
  .have q2:(((bz 0 t).length:Int)==0)=false:=WD fun z=>hp (XA.mp (by lia));rw[Vs ⟨hn,hp⟩];refine⟨[aG.lst ((bz 0 t).map .str)],?_⟩;rw[<-dI];simp only[au,az,ax,bQ,a8,bR,a7,dS,bE,aZ,cH,cE,cY,bj,bh,dC,bS,aW,bU,av,c8,aL,bF,fQ,lO,b_,lN,cN,q1,ln,q2,jn]
 .have q1:(!(n==1))=true:=by rw[WD hn];rfl
  rw[Vx (fun z=>hn z.1)];refine⟨[aG.lst ((bz 0 t).map .str)]++[aG.lst [.str (bM n)]]++[.lst ((bM n::bz 0 t).map .str)],?_⟩;rw[show st++([aG.lst ((bz 0 t).map .str)]++[aG.lst [.str (bM n)]]++[.lst ((bM n::bz 0 t).map .str)])=s2++[.lst ((bM n::bz 0 t).map .str)] by rw[fq,dI];simp only[Vy]];simp only[au,az,fE,bQ,a8,bR,a7,ij,cH,dD,cY,bj,bh,dC,av,aL,bF,lO,b_,cN,Vp,q1,jn2]
theorem KQ(b:Bool)(n:Int)(s:ao):PM.fc [.bl b,.int n] s=.ok (.str (dn b n)) s:=by
 unfold dn;by_cases h:n<0
 .have q:decide (n<0)=true:=VA h;cases b with
  |true=>rw[Vs rfl,Vs h];simp only[PM.fc,aY,au,az,fE,bQ,a8,bR,a7,jR,cH,dD,cY,bj,bh,i',av,aL,bF,jy,b_,BN,cN,Vp,VO,VH,VG,VF,Nat.reduceSub,Vo,VI,Nat.reduceAdd,q]
  |false=>rw[Vx VC,Vs h];simp only[PM.fc,aY,au,az,ax,bQ,a8,bR,a7,jR,cH,cE,cY,bj,bh,i',av,c8,aL,bF,jy,b_,BN,cN,Vp,VO,VH,VG,VF,Nat.reduceSub,Vo,VI,Nat.reduceAdd,q]
 .have q:decide (n<0)=false:=VE h;cases b with
  |true=>rw[Vs rfl,Vx h];simp only[PM.fc,aY,au,az,fE,bQ,a8,bR,a7,jS,cH,dD,cY,bj,bh,i',av,aL,bF,jy,b_,BN,cN,Vp,VO,VH,VG,VF,Nat.reduceSub,Vo,VI,Nat.reduceAdd,q]
  |false=>rw[Vx VC,Vx h];simp only[PM.fc,aY,au,az,ax,bQ,a8,bR,a7,jS,cH,cE,cY,bj,bh,i',av,c8,aL,bF,jy,b_,BN,cN,Vp,VO,VH,VG,VF,Nat.reduceSub,Vo,VI,Nat.reduceAdd,q]
theorem e9(n:Int):0<=cg n:=by unfold cg;split<;>lia
theorem AJ(c:Nat):∀{ps:List (List Nat)},(jn c ps).length<=(ps.map List.length).sum+(ps.length-1)
 |[]=>VU _
 |[a]=>by show a.length<=a.length+0+0;lia
 |a::b::r=>by have h2:=AJ c (ps:=b::r);show(a++c::jn c (b::r)).length<=_;rw[Vz,Vo,Vp,WW];have e1:(b::r).length=r.length+1:=rfl;have e2:(a::b::r).length=r.length+2:=rfl;rw[e1]at h2;rw[e2];lia
theorem B!:∀{xs:_q}{B:Nat},(∀y∈xs,y.length<=B)->(xs.map fun y=>(cl y).length).sum<=xs.length*B
 |[],_,_=>VU _
 |x::xs,B,h=>by have i:=B! (xs:=xs) (B:=B) fun y hy=>h y (Vq _ hy);have hx:=h x Vu;rw[Vp,WW,Vo,Nat.add_mul,a_];lia
theorem ny{t:_m}{n:Int}(hl:t.length<=4)(ht:∀e∈t,0<=e/\e<10 ^ 10)(h0:0<=n)(h1:n<10 ^ 300):(cq t n).length<=352:=by
 obtain⟨b1,b2,b3,b4⟩:=nv hl ht h0 h1;have e:cl (cq t n)=jn 42 ((dJ t n).map cl):=gI 42 _;have z:=AJ 42 (ps:=(dJ t n).map cl);rw[<-e,a_,Vt,Wd]at z;have nl:=kD h0 h1;have sp:=B! b1;have sb:(bz 0 t).length*12<=4*12:=WN _ b3;have ss:((dJ t n).map (List.length ∘ cl)).sum<=300+48:=by
  unfold dJ;split
  .show((bz 0 t).map fun y=>(cl y).length).sum<=_;lia
  .rw[Vp,WW];show(cl (bM n)).length+((bz 0 t).map fun y=>(cl y).length).sum<=_;rw[a_];lia
 lia
theorem B?(b:Bool)(n:Int):(dn b n).length<=3:=by unfold dn;cases b<;>split<;>split<;>first|decide +kernel|(rename_i h;cases h)
theorem lh:∀(b:Bool)(P:List bg),(∀t∈P,Wr t)->(∀y∈dA b P,y.length<=352)/\(dA b P).length=2*P.length
 |_,[],_=>⟨fun y hy=>(by cases hy),rfl⟩
 |b,t::P,h=>by
  obtain⟨i1,i2⟩:=lh false P fun x hx=>h x (Vq _ hx);have w:=h t Vu;refine⟨fun y hy=>?_,by show(dA false P).length+1+1=2*(P.length+1);lia⟩;rcases VJ.mp hy with rfl|hy
  .have:=B? b t.2;lia
  .rcases VJ.mp hy with rfl|hy
   .exact ny w.len w.rg (e9 _) w.nb
   .exact i1 y hy
theorem sO:∀(b:Bool)(P:List bg)(t:bg),dA b (P++[t])=dA b P++[dn (b&&P.isEmpty) t.2,cq t.1 (cg t.2)]
 |b,[],t=>by simp[dA]
 |b,u::P,t=>by show _::_::dA false (P++[t])=_::_::(dA false P++_);rw[sO false P t];simp
abbrev O8:MB:=ay (cF (jk cL aO (ae (aj PM.fc (ae (ah cG (aj bG (ae aO ak)) bX) (ae ck ak))) ak))) (cF (jk cL aO (ae (aj PM.gn (ae bH (ae (aj ji (ae ck ak)) ak))) ak)))
theorem KR{p:Nat}{xs:_q}{s:ao}(w:Wr t)(hq:s[q]?=some (.lst (xs.map .str)))(hl:xs.length<=900):
  ∃g,O8 [qL p, qL q, some (a9 t.1), qI t.2] s=.nx [qL p, qL q, some (a9 t.1), qI t.2] ((s++g).set q (.lst ((xs++[dn xs.isEmpty t.2,cq t.1 (cg t.2)]).map .str))):=by
 obtain⟨μ,hμ⟩:∃μ:MN.Env,μ=[qL p, qL q, some (a9 t.1), qI t.2]:=⟨_,rfl⟩
 have v1:∀s,aO μ s=.ok (.loc q) s:=fun s=>by rw[hμ];rfl
 have v2:∀s,bH μ s=.ok (a9 t.1) s:=fun s=>by rw[hμ];rfl
 have v3:∀s,ck μ s=.ok (.int t.2) s:=fun s=>by rw[hμ];rfl
 have vy:q<s.length:=(VP.mp hq).1;have sg:aj PM.fc (ae (ah cG (aj bG (ae aO ak)) bX) (ae ck ak)) μ s=.ok (.str (dn xs.isEmpty t.2)) s:=by
  have l:aj bG (ae aO ak) μ s=.ok (.int ((xs.length:Nat):Int)) s:=by rw[aI (d0 (v1 s)),gu (dU hq),Vt]
  have e:ah cG (aj bG (ae aO ak)) bX μ s=.ok (.bl xs.isEmpty) s:=by
   rw[iJ l];have:(((xs.length:Nat):Int)==0)=xs.isEmpty:=by
    cases xs with
    |nil=>rfl
    |cons a r=>exact WD (by rw[Vo];lia)
   rw[this]
  rw[aI (gg e (v3 s))];exact KQ _ _ s
 have a1:=sN (v1 s) hq (d0 sg) hq (by rw[Vt];lia);obtain⟨s1,dI⟩:∃s1,s1=s.set q (.lst (xs.map .str++[.str (dn xs.isEmpty t.2)])):=⟨_,rfl⟩
 rw[<-dI]at a1;have h1:s1[q]?=some (.lst (xs.map .str++[.str (dn xs.isEmpty t.2)])):=by rw[dI,VY vy]
 obtain⟨g,tm⟩:=KP w.len w.rg (e9 t.2) w.nb s1;have tt:aj PM.gn (ae bH (ae (aj ji (ae ck ak)) ak)) μ s1=.ok (.str (cq t.1 (cg t.2))) (s1++g):=by
  have ab:aj ji (ae ck ak) μ s1=.ok (.int (cg t.2)) s1:=by rw[aI (d0 (v3 s1))];rfl
  rw[aI (gg (v2 s1) ab)];exact tm
 have a2:=sN (v1 s1) h1 (d0 tt) (d_ h1 g) (by rw[Vz,Vt];show _+1<=1000;lia);refine⟨g,?_⟩;rw[<-hμ];unfold O8;rw[av,a1,ax,a2];have es:(s1++g).set q (.lst (xs.map .str++[.str (dn xs.isEmpty t.2)]++[.str (cq t.1 (cg t.2))]))=(s++g).set q (.lst ((xs++[dn xs.isEmpty t.2,cq t.1 (cg t.2)]).map .str)):=by have sa:∀(a b:List aG)(n:Nat)(c:aG),n<a.length->(a++b).set n c=a.set n c++b:=fun a b n c h=>List.set_append_left n c h;have e1:(s1++g).set q (.lst (xs.map .str++[.str (dn xs.isEmpty t.2)]++[.str (cq t.1 (cg t.2))]))=s1.set q (.lst (xs.map .str++[.str (dn xs.isEmpty t.2)]++[.str (cq t.1 (cg t.2))]))++g:=sa s1 g q _ (by rw[dI,Wm];exact vy);have e2:(s++g).set q (.lst ((xs++[dn xs.isEmpty t.2,cq t.1 (cg t.2)]).map .str))=s.set q (.lst ((xs++[dn xs.isEmpty t.2,cq t.1 (cg t.2)]).map .str))++g:=sa s g q _ vy;rw[e1,e2,dI,Y?,Wh,Vy];rfl
 rw[es]
theorem Hh{p:Nat}{P:List bg}(h:aq st p=some (P.map tV))(hl:P.length<=400)(hw:∀t∈P,Wr t):∃g,PM.shown [.loc p] st=.ok (.str (aR P)) (st++g):=by
 have ln:bG [.loc p] st=.ok (.int ((P.length:Nat):Int)) st:=by rw[gu h,Vt]
 by_cases hP:P=[]
 .have q:(((P.length:Nat):Int)==0)=true:=by rw[hP];rfl
  refine⟨[],?_⟩;unfold aR;rw[Vs hP,VW];generalize hZ:dQ (d6 aD) (gN [(aA 2),(aA 3)]) O8=Z;have:PM.shown=gk 1 4 (ay (cU (aT (ah cG (aj bG (ae aD ak)) bX)) (aP (qs "0")) aJ) (ay (aB 1 (bq ak)) (ay Z (aP (fX (qs "") aO))))):=by rw[<-hZ];rfl
  rw[this];generalize fX (qs "") aO=Z2;simp only[aY,au,az,fE,bQ,a8,bR,a7,bE,aZ,cH,dD,cY,bj,bh,bS,aW,bU,av,aL,bF,fQ,lN,Vp,VO,VH,VG,VT,VF,Nat.reduceSub,Vo,VI,Nat.reduceAdd,ln,q]
 .have q:(((P.length:Nat):Int)==0)=false:=WD fun z=>hP (XA.mp (by lia));have pl:p<st.length:=by
   rcases WC p st.length with q|q
   .exact q
   .unfold aq at h;rw[V8 q]at h;cases h
  obtain⟨μ',aF,e,g,rfl,y2,y3,rfl⟩:=et (g:=fun s'=>aq s' p=some (P.map tV)) (a:=gN [(aA 2),(aA 3)]) (body:=O8)
   (fun i μ s'=>∃g,s'=st ++ .lst ((dA true (P.take i)).map .str)::g/\∃y2 y3,μ=[qL p, qL st.length, y2, y3])
   (P.map tV) 0 [qL p, qL st.length, qn, qn] (st++[.lst []])
   (by
    rintro i u μ s' hu ⟨g,rfl,y2,y3,rfl⟩;rw[V_]at *;refine⟨aC h _,?_⟩;rw[VV]at hu;cases z:P[i]? with
    |none=>rw[z]at hu;cases hu
    |some t=>
     rw[z]at hu;cases hu;have hi:i<P.length:=(VP.mp z).1;have PY:=lh true (P.take i) fun x hx=>hw x (XU hx);have pl3:(dA true (P.take i)).length<=800:=by rw[PY.2,Wq];lia
     obtain⟨g2,eb⟩:=KR (p:=p) (t:=t) (s:=st ++ .lst ((dA true (P.take i)).map .str)::g) (hw t (WK z)) (oz st _ g) (by lia);refine⟨[some (.loc p),some (.loc st.length),some (a9 t.1),some (.int t.2)],rfl,_,_,.inl eb,g++g2,?_,_,_,rfl⟩;rw[Vy];refine(qA st _ _ (g++g2)).trans ?_;have tk:P.take (i+1)=P.take i++[t]:=by rw[Y!,z];rfl
     rw[tk,sO];have em:(dA true (P.take i)).isEmpty=(true&&(P.take i).isEmpty):=by
      cases hh:P.take i with
      |nil=>rfl
      |cons a r=>rfl
     rw[em])
   (fun μ s'⟨g,e,_⟩=>by rw[e];exact aC h _) ⟨[],rfl,none,none,rfl⟩
  rw[V_,Vt,XO]at e;have PY:=lh true P hw;have loop:dQ (d6 aD) (gN [(aA 2),(aA 3)]) O8 [qL p, qL st.length, qn, qn] (st++[.lst []])=.nx [qL p, qL st.length, y2, y3] (st ++ .lst ((dA true P).map .str)::g):=by have v0:aD [qL p, qL st.length, qn, qn] (st++[.lst []])=.ok (.loc p) (st++[.lst []]):=rfl;rw[fF,fB,v0,au,eG (aC h _),az,gP];exact e
  have jn:fX (qs "") aO [qL p, qL st.length, y2, y3] (st ++ .lst ((dA true P).map .str)::g)=.ok (.str (Txt.join "" (dA true P))) (st ++ .lst ((dA true P).map .str)::g):=
   oK (n:=st.length) rfl (dU (oz st _ g)) (joinOk_of (B:=352) (N:=800) PY.1 (by lia) (by decide +kernel) (by decide))
  refine⟨.lst ((dA true P).map .str)::g,?_⟩;unfold aR;rw[Vx hP];have run:PM.shown=gk 1 4 (ay (cU (aT (ah cG (aj bG (ae aD ak)) bX)) (aP (qs "0")) aJ) (ay (aB 1 (bq ak)) (ay (dQ (d6 aD) (gN [(aA 2),(aA 3)]) O8) (aP (fX (qs "") aO))))):=rfl;rw[run];generalize dQ (d6 aD) (gN [(aA 2),(aA 3)]) O8=Z at loop⊢;generalize fX (qs "") aO=Z2 at jn⊢;simp only[aY,au,az,ax,bQ,a8,bR,a7,bE,aZ,vd,cH,cE,hJ,cY,bj,bh,bS,aW,oy,bU,av,c8,aL,bF,eB,fQ,lN,Vp,VO,VH,VG,VT,VF,V1,V?,Nat.reduceSub,Vo,VI,Nat.reduceAdd,VN,Nat.reduceLeDiff,↓reduceIte,ln,q,loop,jn]
theorem yF:∀(k:Nat)(es:_m)(e:Int),bz k (es++[e])=bz k es++(if e=0 then[] else[mO (k+es.length) e])
 |k,[],e=>by show(if e=0 then bz (k+1) []else mO k e::bz (k+1) [])=[]++_;split<;>rfl
 |k,a::es,e=>by have ih:=yF (k+1) es e;show(if a=0 then bz (k+1) (es++[e])else mO k a::bz (k+1) (es++[e]))=(if a=0 then bz (k+1) es else mO k a::bz (k+1) es)++_;rw[ih,show k+(a::es).length=k+1+es.length by rw[Vo];lia];split<;>simp
theorem KS(h:i<4)(s:ao):bY (.str "xyzw") (.int (i:Int)) s=.ok (.str (jV i)) s:=by
 have sz:("xyzw":Str).length<=sizeLine:=by decide +kernel
 unfold bY;dsimp only;rw[Vs sz];rcases i with _|_|_|_|i
 .rfl
 .rfl
 .rfl
 .rfl
 .lia
abbrev KU:ME:=ah bY (ah bY aD bX) bH
abbrev R':MB:=ay (cU (aT (ah cG KU bA)) (cF (jk cL aO (ae (ah bY (qs "xyzw") bH) ak))) aJ) (cU (aT (ah BC KU bA)) (cF (jk cL aO (ae (ah aQ (ah aQ (ah bY (qs "xyzw") bH) (qs "^")) (aj iG (ae KU ak))) ak))) aJ)
theorem KW{xs:_q}{e:Int}{s:ao}(he:t.1[i]?=some e)(hi:i<4)(h0:0<=e)(h1:e<10 ^ 10)(hq:s[q]?=some (.lst (xs.map .str)))(hl:xs.length<=4):
  R' [some (tV t), qL q, qN i] s=.nx [some (tV t), qL q, qN i] (s.set q (.lst ((xs++(if e=0 then[] else[mO i e])).map .str))):=by
 obtain⟨μ,hμ⟩:∃μ:MN.Env,μ=[some (tV t), qL q, qN i]:=⟨_,rfl⟩
 have vy:q<s.length:=(VP.mp hq).1;have v1:∀s,aO μ s=.ok (.loc q) s:=fun s=>by rw[hμ];rfl
 have v2:∀s,bH μ s=.ok (.int (i:Int)) s:=fun s=>by rw[hμ];rfl
 have v0:∀s,ah bY aD bX μ s=.ok (a9 t.1) s:=fun s=>by rw[hμ];rfl
 have ve:∀s,KU μ s=.ok (.int e) s:=fun s=>by unfold KU;rw[aH (v0 s) (v2 s)];exact vO (L2.ft (by rw[VV,he];rfl))
 have vx:∀s,ah bY (qs "xyzw") bH μ s=.ok (.str (jV i)) s:=fun s=>by rw[aH (x:=.str "xyzw") (s1:=s) rfl (v2 s)];exact KS hi s
 have t1:aT (ah cG KU bA) μ s=.ok (e==1) s:=bu (iJ (ve s));have t2:∀s,aT (ah BC KU bA) μ s=.ok (decide (1<e)) s:=fun s=>bu (by rw[aH (ve s) (y:=.int 1) (s2:=s) rfl];rfl);have sl:sizeLine=16777216:=VN;have vs:ah aQ (ah aQ (ah bY (qs "xyzw") bH) (qs "^")) (aj iG (ae KU ak)) μ s=.ok (.str (DB "^" (jV i) e)) s:=by
  have l1:=nu i;have l2:(PySem.Str.ofString (toString e)).length<=10:=Wz h0 (by decide) h1;have l3:("^":Str).length=1:=by decide +kernel
  have a1:ah aQ (ah bY (qs "xyzw") bH) (qs "^") μ s=.ok (.str (jV i ++ "^")) s:=by rw[aH (vx s) (y:=.str "^") (s2:=s) rfl];show(if(jV i).length+("^":Str).length<=sizeLine then _ else _)=_;rw[Vs (by lia)]
  have a2:aj iG (ae KU ak) μ s=.ok (.str (bM e)) s:=by rw[aI (d0 (ve s))];unfold iG;dsimp only;rw[Vs (wF h0 (k:=40) (by lia) (by decide) (by decide))];rfl
  rw[aH a1 a2];show(if(jV i ++ "^").length+(bM e).length<=sizeLine then _ else _)=_;have l2':(bM e).length<=10:=l2;rw[Vs (by rw[W?];lia)];rfl
 rw[<-hμ];unfold R';have same:∀c:aG,s[q]?=some c->s.set q c=s:=fun c h=>by
  apply W2;intro j;by_cases hj:q=j
  .subst hj;rw[VY vy,h]
  .rw[V6 hj]
 by_cases z0:e=0
 .have q1:(e==1)=false:=by rw[z0];rfl
  have q2:decide (1<e)=false:=VE (by lia);rw[q1]at t1;rw[av,cI t1,ax,cI (by rw[t2 s,q2]),Vs z0,VW,same _ hq]
 .rw[Vx z0];by_cases z1:e=1
  .have q1:(e==1)=true:=by rw[z1];rfl
   have q2:decide (1<e)=false:=VE (by lia);rw[q1]at t1;rw[av,b6 t1,sN (v1 s) hq (d0 (vx s)) hq (by rw[Vt];lia),ax,cI (by rw[t2 _,q2])];unfold mO;rw[Vs z1,Wh];rfl
  .have q1:(e==1)=false:=WD z1;have q2:decide (1<e)=true:=VA (by lia);rw[q1]at t1;rw[av,cI t1,ax,b6 (by rw[t2 s,q2]),sN (v1 s) hq (d0 vs) hq (by rw[Vt];lia)];unfold mO;rw[Vx z1,Wh];rfl
theorem pP(w:Wr t)(st:ao):∃g,PM.eJ [tV t] st=.ok (.str (cq t.1 (cg t.2))) (st++g):=by
 have hn:=e9 t.2;obtain⟨b1,b2,b3,b4⟩:=nv w.len w.rg hn w.nb;have sl:sizeLine=16777216:=VN;have wl:=w.len;obtain⟨μ',aF,e,rfl,y2,rfl⟩:=et (g:=fun _=>True) (a:=aA 2) (body:=R')
  (fun i μ s'=>s'=st++[.lst ((bz 0 (t.1.take i)).map .str)]/\∃y2,μ=[some (tV t), qL st.length, y2])
  (bD 0 t.1.length) 0 [some (tV t), qL st.length, qn] (st++[.lst []])
  (by
   rintro i u μ s' hu ⟨rfl,y2,rfl⟩;rw[V_]at *;refine⟨trivial,?_⟩;unfold bD at hu;rw[VV]at hu;have hi:i<t.1.length:=by
    rcases WC i t.1.length with q|q
    .exact q
    .rw[V8 (by rw[V9];exact q)]at hu;cases hu
   rw[VD (by rw[V9];exact hi),W']at hu;cases hu;have he:t.1[i]?=some t.1[i]:=VD hi;obtain⟨r0,r1⟩:=w.rg t.1[i] (Ws hi);have pl:=(nv (t:=t.1.take i) (n:=0) (by rw[Wq];lia) (fun e he=>w.rg e (XU he)) (by decide) (by decide)).2.2.1;have eb:=KW (t:=t) (q:=st.length) he (by lia) r0 r1 (d8 st _) pl;show ∃μ1,aA 2 (.int (0+(i:Int))) _=some μ1/\_;rw[Ya];refine⟨[some (tV t),some (.loc st.length),some (.int (i:Int))],rfl,_,_,.inl eb,?_,_,rfl⟩;refine(qA st _ _ []).trans ?_;have tk:t.1.take (i+1)=t.1.take i++[t.1[i]]:=by rw[Y!,he];rfl
   rw[tk,yF,Wq,V_,YT (X_ hi)])
  (fun _ _ _=>trivial) ⟨rfl,none,rfl⟩
 rw[V_,show(bD 0 t.1.length).length=t.1.length by unfold bD;rw[Vt,V9],XO]at e;obtain⟨s1,dI⟩:∃s1,s1=st++[aG.lst ((bz 0 t.1).map .str)]:=⟨_,rfl⟩
 rw[<-dI]at e;have l1:s1[st.length]?=some (.lst ((bz 0 t.1).map .str)):=by rw[dI];exact d8 _ _
 have loop:dQ (cz (ae (aj bG (ae (ah bY aD bX) ak)) ak)) (aA 2) R' [some (tV t), qL st.length, qn] (st++[.lst []])=.nx [some (tV t), qL st.length, y2] s1:=by
  have r:cz (ae (aj bG (ae (ah bY aD bX) ak)) ak) [some (tV t), qL st.length, qn] (st++[.lst []])=.ok (bD 0 ((t.1.length:Nat):Int).toNat,fun _=>True) (st++[.lst []]):=by refine sM (d0 (v:=.int ((t.1.length:Nat):Int)) ?_) (by lia) (by lia);rw[aI (d0 (v:=a9 t.1) (s1:=st++[.lst []]) rfl)];show bG [.tup (t.1.map aw.int)] _=_;rw[J?,Vt]
  rw[fF,r,az,gP];exact e
 have ab:∀s,aj ji (ae (ah bY aD bA) ak) [some (tV t), qL st.length, y2] s=.ok (.int (cg t.2)) s:=fun s=>by rw[aI (d0 (v:=.int t.2) (s1:=s) rfl)];rfl
 obtain⟨n,hnn⟩:∃n,n=cg t.2:=⟨_,rfl⟩
 have nb:=w.nb;rw[<-hnn]at ab hn b2 b4 nb;rw[<-hnn];have eN:aT (ah cG aO (bq ak)) [some (tV t), qL st.length, y2] s1=.ok (bz 0 t.1).isEmpty (s1++[.lst []]):=by refine bu ?_;rw[aH (x:=.loc st.length) (s1:=s1) rfl (eO (vs:=[]) (s1:=s1) rfl (by decide)),eq_nil (dU (rY l1 _)) (aN s1 [])];cases bz 0 t.1<;>rfl
 have Sa:∀g,∃g',aB 1 (ah aQ (bq (ae (aj iG (ae (aj ji (ae (ah bY aD bA) ak)) ak)) ak)) aO) [some (tV t), qL st.length, y2] (s1++g)=.nx [some (tV t), qL (s1++g++[aG.lst [.str (bM n)]]).length, y2] (s1++g')/\(s1++g')[(s1++g++[aG.lst [.str (bM n)]]).length]?=some (.lst ((bM n::bz 0 t.1).map .str)):=fun g=>by
  have sI:aj iG (ae (aj ji (ae (ah bY aD bA) ak)) ak) [some (tV t), qL st.length, y2] (s1++g)=.ok (.str (bM n)) (s1++g):=by rw[aI (d0 (ab (s1++g)))];unfold iG;dsimp only;rw[Vs (wF hn (k:=1000) (ZS nb (by decide +kernel)) (by decide) (by decide))];rfl
  have a1:(s1++g++[aG.lst [.str (bM n)]])[(s1++g).length]?=some (.lst [.str (bM n)]):=d8 _ _;have a2:(s1++g++[aG.lst [.str (bM n)]])[st.length]?=some (.lst ((bz 0 t.1).map .str)):=rY (rY l1 _) _;refine⟨g++[aG.lst [.str (bM n)]]++[.lst ((bM n::bz 0 t.1).map .str)],?_,?_⟩
  .rw[show s1++(g++[aG.lst [.str (bM n)]]++[.lst ((bM n::bz 0 t.1).map .str)])=s1++g++[aG.lst [.str (bM n)]]++[.lst ((bM n::bz 0 t.1).map .str)] by simp only[Vy]];have ad:ah aQ (bq (ae (aj iG (ae (aj ji (ae (ah bY aD bA) ak)) ak)) ak)) aO [some (tV t), qL st.length, y2] (s1++g)=.ok (.loc (s1++g++[aG.lst [.str (bM n)]]).length) (s1++g++[aG.lst [.str (bM n)]]++[.lst ((bM n::bz 0 t.1).map .str)]):=by rw[aH (eO (d0 sI) (by show 1<=1000;decide)) (y:=.loc st.length) (s2:=s1++g++[aG.lst [.str (bM n)]]) rfl,l_ a1 a2 (by rw[Vt];show 1+_<=_;lia)];rfl
   rw[bw ad];rfl
  .rw[show s1++(g++[aG.lst [.str (bM n)]]++[.lst ((bM n::bz 0 t.1).map .str)])=s1++g++[aG.lst [.str (bM n)]]++[.lst ((bM n::bz 0 t.1).map .str)] by simp only[Vy]];exact d8 _ _
 have head:∀g r,ay (cU (eY (aT (ah gq (aj ji (ae (ah bY aD bA) ak)) bA)) (aT (ah cG aO (bq ak)))) (aB 1 (ah aQ (bq (ae (aj iG (ae (aj ji (ae (ah bY aD bA) ak)) ak)) ak)) aO)) aJ) (aP (fX (qs "*") aO)) [some (tV t), qL st.length, y2] s1=.rt r (s1++g)->PM.eJ [tV t] st=.ok r (s1++g):=fun g r er=>by have run:PM.eJ=gk 1 3 (ay (aB 1 (bq ak)) (ay (dQ (cz (ae (aj bG (ae (ah bY aD bX) ak)) ak)) (aA 2) R') (ay (cU (eY (aT (ah gq (aj ji (ae (ah bY aD bA) ak)) bA)) (aT (ah cG aO (bq ak)))) (aB 1 (ah aQ (bq (ae (aj iG (ae (aj ji (ae (ah bY aD bA) ak)) ak)) ak)) aO)) aJ) (aP (fX (qs "*") aO))))):=rfl;rw[run,aY (np:=1) (us:=[tV t]) rfl];show(ay (aB 1 (bq ak)) _ [some (tV t),none,none] st).fin=_;have a1:aB 1 (bq ak) [some (tV t),none,none] st=.nx [some (tV t), qL st.length, qn] (st++[.lst []]):=bw (eO (vs:=[]) (s1:=st) rfl (by decide));rw[av,a1,ax,av,loop,ax,er];rfl
 have tN:∀b:Bool,(!(n==1))=b->aT (ah gq (aj ji (ae (ah bY aD bA) ak)) bA) [some (tV t), qL st.length, y2] s1=.ok b s1:=fun b hb=>by refine bu ?_;rw[aH (ab s1) (y:=.int 1) (s2:=s1) rfl,<-hb];exact lO
 unfold cq dJ;by_cases Iq:n=1
 .have q1:(!(n==1))=false:=by rw[Iq];rfl
  by_cases hp:bz 0 t.1=[]
  .have q2:(bz 0 t.1).isEmpty=true:=by rw[hp];rfl
   rw[Vx (fun z=>z.2 hp)];obtain⟨g',es,ls⟩:=Sa [.lst []];have jn:=oK (y:="*") (μ:=[some (tV t),some (.loc (s1++[aG.lst []]++[aG.lst [.str (bM n)]]).length),y2]) (me:=aO) (s:=s1++g') (s1:=s1++g') (n:=(s1++[aG.lst []]++[aG.lst [.str (bM n)]]).length) (xs:=bM n::bz 0 t.1) rfl (dU ls) (joinOk_of (B:=300) (N:=5) (fun y hy=>by
    rcases VJ.mp hy with rfl|hy
    .exact kD hn nb
    .have:=b1 y hy;lia) (by rw[Vo];lia) (by decide +kernel) (by decide))
   refine⟨[aG.lst ((bz 0 t.1).map .str)]++g',?_⟩;rw[<-Vy,<-dI];refine head g' _ ?_;have tt:eY (aT (ah gq (aj ji (ae (ah bY aD bA) ak)) bA)) (aT (ah cG aO (bq ak))) [some (tV t), qL st.length, y2] s1=.ok true (s1++[.lst []]):=by rw[dC,tN false q1,au,dS,eN,q2]
   rw[av,b6 tt,es,ax,aL,jn];rfl
  .have q2:(bz 0 t.1).isEmpty=false:=by
    cases hh:bz 0 t.1 with
    |nil=>exact absurd hh hp
    |cons a r=>rfl
   rw[Vs ⟨Iq,hp⟩];have jn:=oK (y:="*") (μ:=[some (tV t),some (.loc st.length),y2]) (me:=aO) (s:=s1++[.lst []]) (s1:=s1++[.lst []]) (n:=st.length) (xs:=bz 0 t.1) rfl (dU (rY l1 _)) (joinOk_of (N:=4) b1 b3 (by decide +kernel) (by decide));refine⟨[aG.lst ((bz 0 t.1).map .str)]++[.lst []],?_⟩;rw[<-Vy,<-dI];refine head [.lst []] _ ?_;have tt:eY (aT (ah gq (aj ji (ae (ah bY aD bA) ak)) bA)) (aT (ah cG aO (bq ak))) [some (tV t), qL st.length, y2] s1=.ok false (s1++[.lst []]):=by rw[dC,tN false q1,au,dS,eN,q2]
   rw[av,cI tt,ax,aL,jn];rfl
 .have q1:(!(n==1))=true:=by rw[WD Iq];rfl
  rw[Vx (fun z=>Iq z.1)];obtain⟨g',es,ls⟩:=Sa [];rw[VW]at es ls;have jn:=oK (y:="*") (μ:=[some (tV t),some (.loc (s1++[aG.lst [.str (bM n)]]).length),y2]) (me:=aO) (s:=s1++g') (s1:=s1++g') (n:=(s1++[aG.lst [.str (bM n)]]).length) (xs:=bM n::bz 0 t.1) rfl (dU ls) (joinOk_of (B:=300) (N:=5) (fun y hy=>by
   rcases VJ.mp hy with rfl|hy
   .exact kD hn nb
   .have:=b1 y hy;lia) (by rw[Vo];lia) (by decide +kernel) (by decide))
  refine⟨[aG.lst ((bz 0 t.1).map .str)]++g',?_⟩;rw[<-Vy,<-dI];refine head g' _ ?_;have tt:eY (aT (ah gq (aj ji (ae (ah bY aD bA) ak)) bA)) (aT (ah cG aO (bq ak))) [some (tV t), qL st.length, y2] s1=.ok true s1:=by rw[dC,tN true q1,au,ij]
  rw[av,b6 tt,es,ax,aL,jn];rfl
theorem jW:∀xs:_q,cl (Txt.join "" xs)=(xs.map cl).flatten:=by
 have go:∀xs:_q,cl (PySem.Str.join "" xs)=(xs.map cl).flatten:=by
  intro xs
  induction xs with
  |nil=>rfl
  |cons a r ih=>
   cases r with
   |nil=>show cl a=cl a++[];rw[VW]
   |cons b r=>
    show cl (a ++ "" ++ PySem.Str.join "" (b::r))=cl a++((b::r).map cl).flatten;rw[fJ,fJ,ih];show cl a++[]++_=_;rw[VW]
 intro xs;unfold Txt.join;rw[Xi];exact go xs
theorem Hi(xs:_q)(a b:Str):Txt.join "" (xs++[a,b])=Txt.join "" xs++a++b:=fh (by
 rw[jW,fJ,fJ,jW,Wh,List.flatten_append];simp[Vy])
theorem KY(a b:Str):Txt.join "" [a,b]=a++b:=fh (by
 rw[jW,fJ];simp)
theorem wG{xs:_q}{B:Nat}(h:∀y∈xs,y.length<=B):(Txt.join "" xs).length<=xs.length*B:=by
 rw[<-a_,jW]
 induction xs with
 |nil=>exact VU _
 |cons a r ih=>
  have h1:=h a Vu;have h2:=ih fun y hy=>h y (Vq _ hy);rw[Vp,Wu,Vz,a_,Vo,Nat.add_mul];lia
abbrev Sb:MB:=ay (aB 3 (qs " + ")) (ay (cU (aT (ah ltV (ah bY bH bA) bX)) (aB 3 (qs " - ")) aJ) (aB 1 (ah aQ (ah aQ aO ck) (aj PM.eJ (ae bH ak)))))
theorem KZ{p:Nat}{y3:Option aw}{s:ao}(w:Wr t)(hx:x.length<=1000000):∃g y,Sb [qL p, qS x, some (tV t), y3] s=.nx [qL p, qS (x++dn false t.2++cq t.1 (cg t.2)), some (tV t), y] (s++g):=by
 obtain⟨g,e⟩:=pP w s;have sl:sizeLine=16777216:=VN;have tl:=ny w.len w.rg (e9 t.2) w.nb;have sg:=B? false t.2;have f1:aB 3 (qs " + ") [qL p, qS x, some (tV t), y3] s=.nx [qL p, qS x, some (tV t), qS " + "] s:=rfl;have f2:cU (aT (ah ltV (ah bY bH bA) bX)) (aB 3 (qs " - ")) aJ [qL p, qS x, some (tV t), qS " + "] s=.nx [qL p, qS x, some (tV t), qS (dn false t.2)] s:=by
  have q:aT (ah ltV (ah bY bH bA) bX) [qL p, qS x, some (tV t), qS " + "] s=.ok (decide (t.2<0)) s:=rfl;unfold dn;rw[Vx VC];by_cases h:t.2<0
  .rw[VA h]at q;rw[b6 q,Vs h];rfl
  .rw[VE h]at q;rw[cI q,Vx h]
 have f3:ah aQ (ah aQ aO ck) (aj PM.eJ (ae bH ak)) [qL p, qS x, some (tV t), qS (dn false t.2)] s=.ok (.str (x++dn false t.2++cq t.1 (cg t.2))) (s++g):=by
  have a1:ah aQ aO ck [qL p, qS x, some (tV t), qS (dn false t.2)] s=.ok (.str (x++dn false t.2)) s:=by rw[aH (x:=.str x) (s1:=s) rfl (y:=.str (dn false t.2)) (s2:=s) rfl];show(if x.length+(dn false t.2).length<=sizeLine then _ else _)=_;rw[Vs (by lia)]
  have a2:aj PM.eJ (ae bH ak) [qL p, qS x, some (tV t), qS (dn false t.2)] s=.ok (.str (cq t.1 (cg t.2))) (s++g):=by rw[aI (d0 (v:=tV t) (s1:=s) rfl)];exact e
  rw[aH a1 a2];show(if(x++dn false t.2).length+(cq t.1 (cg t.2)).length<=sizeLine then _ else _)=_;rw[Vs (by rw[W?];lia)]
 refine⟨g,some (.str (dn false t.2)),?_⟩;unfold Sb;rw[av,f1,ax,av,f2,ax,bw f3];rfl
theorem Hj(h:1<=us.length):oq us (some 1) none=us.drop 1:=by have e:(some (1:Int))=some ((1:Nat):Int):=rfl;unfold oq;rw[e,HT.mR,HT.qt,show min 1 us.length=1 by lia,Wb (by rw[WU];lia)]
theorem iL{p:Nat}{P:List bg}(h:aq st p=some (P.map tV))(hl:P.length<=400)(hw:∀t∈P,Wr t):∃g,PM.b! [.loc p] st=.ok (.str (aR P)) (st++g):=by
 have sl:sizeLine=16777216:=VN;have run:PM.b!=gk 1 4 (ay (cU (aT (ah cG aD (bq ak))) (aP (qs "0")) aJ) (ay (aB 1 (aj PM.eJ (ae (ah bY aD bX) ak))) (ay (cU (aT (ah ltV (ah bY (ah bY aD bX) bA) bX)) (aB 1 (ah aQ (qs "-") aO)) aJ) (ay (dQ (d6 (zJ aD (ba bA) a!)) (aA 2) Sb) (aP aO))))):=rfl;have eN:aT (ah cG aD (bq ak)) [qL p, qn, qn, qn] st=.ok (P.map tV).isEmpty (st++[.lst []]):=by refine bu ?_;rw[aH (x:=.loc p) (s1:=st) rfl (eO (vs:=[]) (s1:=st) rfl (by decide)),eq_nil (aC h _) (aN st [])]
 cases P with
 |nil=>
  refine⟨[.lst []],?_⟩;rw[run,aY (np:=1) (us:=[.loc p]) rfl];show(ay (cU _ _ _) _ [qL p, qn, qn, qn] st).fin=_;rw[av,b6 eN];rfl
 |cons t Q=>
  have w:=hw t Vu;have hl':Q.length+1<=400:=hl;have i1:=aC h [.lst []];obtain⟨s1,dI⟩:∃s1,s1=st++[aG.lst []]:=⟨_,rfl⟩
  rw[<-dI]at eN i1;obtain⟨g1,e1⟩:=pP w s1;have i2:=aC i1 g1;obtain⟨s2,fq⟩:∃s2,s2=s1++g1:=⟨_,rfl⟩
  rw[<-fq]at e1 i2;have tl:=ny w.len w.rg (e9 t.2) w.nb;have f1:aB 1 (aj PM.eJ (ae (ah bY aD bX) ak)) [qL p, qn, qn, qn] s1=.nx [qL p, qS (cq t.1 (cg t.2)), qn, qn] s2:=by
   have ix:ah bY aD bX [qL p, qn, qn, qn] s1=.ok (tV t) s1:=by rw[aH (x:=.loc p) (s1:=s1) rfl (y:=.int 0) (s2:=s1) rfl];exact gX i1 (L2.ft (xs:=(t::Q).map tV) (j:=0) rfl)
   have c:aj PM.eJ (ae (ah bY aD bX) ak) [qL p, qn, qn, qn] s1=.ok (.str (cq t.1 (cg t.2))) s2:=by rw[aI (d0 ix)];exact e1
   rw[bw c];rfl
  have f2:cU (aT (ah ltV (ah bY (ah bY aD bX) bA) bX)) (aB 1 (ah aQ (qs "-") aO)) aJ [qL p, qS (cq t.1 (cg t.2)), qn, qn] s2=.nx [qL p, qS (Txt.join "" (dA true [t])), qn, qn] s2:=by
   have ix:ah bY aD bX [qL p, qS (cq t.1 (cg t.2)), qn, qn] s2=.ok (tV t) s2:=by rw[aH (x:=.loc p) (s1:=s2) rfl (y:=.int 0) (s2:=s2) rfl];exact gX i2 (L2.ft (xs:=(t::Q).map tV) (j:=0) rfl)
   have q:aT (ah ltV (ah bY (ah bY aD bX) bA) bX) [qL p, qS (cq t.1 (cg t.2)), qn, qn] s2=.ok (decide (t.2<0)) s2:=by
    have ix2:ah bY (ah bY aD bX) bA [qL p, qS (cq t.1 (cg t.2)), qn, qn] s2=.ok (.int t.2) s2:=by rw[aH ix (y:=.int 1) (s2:=s2) rfl];rfl
    exact bu (by rw[aH ix2 (y:=.int 0) (s2:=s2) rfl];rfl)
   show _=cD.nx [qL p, qS (Txt.join "" [dn true t.2,cq t.1 (cg t.2)]), qn, qn] s2;rw[KY];unfold dn;rw[Vs rfl];by_cases hn:t.2<0
   .rw[VA hn]at q;have a:ah aQ (qs "-") aO [qL p, qS (cq t.1 (cg t.2)), qn, qn] s2=.ok (.str ("-" ++ cq t.1 (cg t.2))) s2:=by
     rw[aH (x:=.str "-") (s1:=s2) rfl (y:=.str (cq t.1 (cg t.2))) (s2:=s2) rfl];have l3:("-":Str).length=1:=by decide +kernel
     show(if("-":Str).length+(cq t.1 (cg t.2)).length<=sizeLine then _ else _)=_;rw[Vs (by lia)]
    rw[b6 q,bw a,Vs hn];rfl
   .rw[VE hn]at q;have e0:("":Str)++cq t.1 (cg t.2)=cq t.1 (cg t.2):=fh (by rw[fJ];rfl);rw[cI q,Vx hn,e0]
  obtain⟨s3,iS⟩:∃s3,s3=s2++[aG.lst (Q.map tV)]:=⟨_,rfl⟩
  have i3:aq s3 s2.length=some (Q.map tV):=by rw[iS];exact aN _ _
  have sli:zJ aD (ba bA) a! [qL p, qS (Txt.join "" (dA true [t])), qn, qn] s2=.ok (.loc s2.length) s3:=by have v0:aD [qL p, qS (Txt.join "" (dA true [t])), qn, qn] s2=.ok (.loc p) s2:=rfl;have o1:ba bA [qL p, qS (Txt.join "" (dA true [t])), qn, qn] s2=.ok (some 1) s2:=rfl;rw[RM,v0,au,U2,o1,au,RN,Gg,au,RP,Oy i2,Hj (by rw[Vt,Vo];lia),iS];rfl
  obtain⟨μ',aF,e,g,rfl,y2,y3,rfl⟩:=et (g:=fun s'=>aq s' s2.length=some (Q.map tV)) (a:=aA 2) (body:=Sb)
   (fun i μ s'=>∃g,s'=s3++g/\∃y2 y3,μ=[qL p, qS (Txt.join "" (dA true (t::Q.take i))), y2, y3])
   (Q.map tV) 0 [qL p, qS (Txt.join "" (dA true [t])), qn, qn] s3
   (by
    rintro i u μ s' hu ⟨g,rfl,y2,y3,rfl⟩;rw[V_]at *;refine⟨aC i3 _,?_⟩;rw[VV]at hu;cases z:Q[i]? with
    |none=>rw[z]at hu;cases hu
    |some u=>
     rw[z]at hu;cases hu;have hi:i<Q.length:=(VP.mp z).1;have wu:=hw u (Vq _ (WK z));have PY:=lh true (t::Q.take i) fun x hx=>by
      rcases VJ.mp hx with rfl|hx
      .exact w
      .exact hw x (Vq _ (XU hx))
     have cl2:=wG PY.1;have le:(dA true (t::Q.take i)).length<=802:=by rw[PY.2,Vo,Wq];lia
     have le2:(dA true (t::Q.take i)).length*352<=802*352:=WN _ le;obtain⟨g2,y,eb⟩:=KZ (p:=p) (x:=Txt.join "" (dA true (t::Q.take i))) (y3:=y3) (s:=s3++g) wu (by lia);refine⟨[some (.loc p),some (.str (Txt.join "" (dA true (t::Q.take i)))),some (tV u),y3],rfl,_,_,.inl eb,g++g2,by rw[Vy],some (tV u),y,?_⟩;have tk:t::Q.take (i+1)=(t::Q.take i)++[u]:=by rw[Y!,z];rfl
     rw[tk,sO,Hi];rfl)
   (fun μ s'⟨g,e,_⟩=>by rw[e];exact aC i3 _) ⟨[],(VW _).symm,none,none,rfl⟩
  rw[V_,Vt,XO]at e;have loop:dQ (d6 (zJ aD (ba bA) a!)) (aA 2) Sb [qL p, qS (Txt.join "" (dA true [t])), qn, qn] s2=.nx [qL p, qS (Txt.join "" (dA true (t::Q))), y2, y3] (s3++g):=by rw[fF,fB,sli,au,eG i3,az,gP];exact e
  have shS:aR (t::Q)=Txt.join "" (dA true (t::Q)):=by unfold aR;rw[Vx (by simp)]
  refine⟨[aG.lst []]++g1++[aG.lst (Q.map tV)]++g,?_⟩;rw[show st++([aG.lst []]++g1++[aG.lst (Q.map tV)]++g)=s3++g by rw[iS,fq,dI];simp only[Vy],shS];rw[run,aY (np:=1) (us:=[.loc p]) rfl];show(ay (cU _ _ _) _ [qL p, qn, qn, qn] st).fin=_;rw[av,cI eN,ax,av,f1,ax,av,f2,ax,av,loop,ax];rfl
def asc(x:Str):Prop:=∀c∈cl x,c<128
def jX(c:Nat):Bool:=decide (48<=c)&&decide (c<=57)
def ir(x:Str):Bool:=decide (0<x.length)&&(cl x).all jX
def jY(x:Str):Int:=((PySem.NumText.digitsVal (cl x):Nat):Int)
theorem Ca(h:asc x):x.cps.all (· < 128)=true:=by rw[Array.all_eq_true'];intro c hc;exact VA (h c (Array.mem_def.mp hc))
theorem Cb(c:Nat):(!(Builtin.Str.occurrences ("0123456789":Str) ⟨#[c]⟩ 0 ("0123456789":Str).length 1).isEmpty)=jX c:=by
 rw[StrLaws.found_one];have e:("0123456789":Str).cps.toList=[48,49,50,51,52,53,54,55,56,57]:=by decide +kernel
 rw[e];unfold jX;rw[W5];simp only[W6,V4,VJ,XR,X4];omega
theorem Hk{α:Type}(f:α->Bool):∀us:List α,jx (us.map fun u=>aw.bl (f u))=some (us.map f)
 |[]=>rfl
 |u::us=>by rw[Vp,Vp];unfold jx;rw[Hk f us];rfl
theorem Cc(ha:asc x)(hl:x.length<=100000)(st:ao):∃g,PM.dY [.str x] st=.ok (.bl (ir x)) (st++g):=by
 have sz:x.length<=sizeLine:=by rw[VN];lia
 have ln:∀s,bG [.str x] s=.ok (.int (x.length:Int)) s:=fun s=>by unfold bG;dsimp only;rw[Vs sz]
 have v0:∀s,aD [some (aw.str x)] s=.ok (.str x) s:=fun _=>rfl;have cp:∀(l:List Nat)(y:Option aw)(ys:List aw),dR (fun _=>True) (aA 0) cT (ah R4 aD (qs "0123456789")) (l.map fun c=>aw.str ⟨#[c]⟩) [y] st ys=.ok (ys++l.map fun c=>aw.bl (jX c)) st:=by
  intro l
  induction l with
  |nil=>intro y ys;rw[VO,L5 trivial];simp
  |cons c l ih=>
   intro y ys;rw[Vp,Hf (y:=.bl (jX c)) (τ1:=[some (.str ⟨#[c]⟩)]) (st1:=st) (st2:=st) trivial rfl rfl (by
    show c_.ok (aw.bl (!(Builtin.Str.occurrences ("0123456789":Str) ⟨#[c]⟩ 0 ("0123456789":Str).length 1).isEmpty)) st=_;rw[Cb]),ih]
   simp
 have tx:jz aD [some (aw.str x)] st=.ok ((Kt x).map .str,fun _=>True) st:=by unfold jz;rw[v0];show(if x.cps.all (· < 128)=true then _ else _)=_;rw[Vs (Ca ha)]
 have ec:(Kt x).map aw.str=(cl x).map fun c=>aw.str ⟨#[c]⟩:=by unfold Kt;rw[Wd];rfl
 have comp:eh 1 [] (jz aD) (aA 0) cT (ah R4 aD (qs "0123456789")) [some (.str x)] st=.ok (.loc st.length) (st++[.lst ((cl x).map fun c=>aw.bl (jX c))]):=by rw[ik,tx,au,jT,ec,Vs (by rw[Vt,a_];exact sz)];show((dR _ _ _ _ _ [none] st []).ic Gd)=_;rw[cp,au,m_,VG]
 have al:oj [.loc st.length] (st++[.lst ((cl x).map fun c=>aw.bl (jX c))])=.ok (.bl ((cl x).all jX)) (st++[.lst ((cl x).map fun c=>aw.bl (jX c))]):=by unfold oj;dsimp only;rw[aN];dsimp only;rw[Hk];dsimp only;rw[YI];rfl
 unfold ir;cases q:decide (0<x.length) with
 |false=>
  have q':decide ((0:Int)<(x.length:Int))=false:=by rw[decide_eq_false_iff_not]at q⊢;lia
  exact⟨[],by rw[VW];simp only[PM.dY,aY,au,az,bQ,a8,bR,a7,J5,bE,aZ,cH,cY,l9,bS,aW,bU,aL,m?,e8,Vp,VO,VH,VG,VF,Nat.reduceSub,Vo,VI,Nat.reduceAdd,ln,q'];rfl⟩
 |true=>
  have q':decide ((0:Int)<(x.length:Int))=true:=by rw[W6]at q⊢;lia
  exact⟨[.lst ((cl x).map fun c=>aw.bl (jX c))],by
   unfold PM.dY;generalize eh 1 [] (jz aD) (aA 0) cT (ah R4 aD (qs "0123456789"))=Z at comp⊢;simp only[aY,au,az,bQ,a8,bR,a7,kZ,bE,aZ,cH,cY,l9,bS,aW,bU,aL,m?,e8,Vp,VO,VH,VG,VF,Nat.reduceSub,Vo,VI,Nat.reduceAdd,ln,q',comp,al];rfl⟩
theorem jB(h:ir x=true):PySem.NumText.AllDigits (cl x)/\cl x≠[]:=by
 unfold ir at h;rw[V4]at h;refine⟨fun c hc=>?_,fun z=>?_⟩
 .have:=Wa.mp h.2 c hc;unfold jX at this;simpa using this
 .have h1:=Wj h.1;rw[<-a_,z]at h1;exact absurd h1 (by decide)
theorem wH(h:ir x=true)(hl:x.length<=640)(s:ao):p4 [.str x] s=.ok (.int (jY x)) s:=by obtain⟨h1,h2⟩:=jB h;unfold p4;dsimp only;rw[Vs hl,PySem.intText_digits h1 h2 (by lia)];rfl
def jq(ks:List Nat)(x:Str):Option Nat:=ks.find? fun i=>jV i==x
abbrev Sd:MB:=cU (aT (ah cG (ah El (mC PM.f_) bH) aO)) (aP bH) aJ
theorem Cd{m:Int}{x:Str}{st:ao}:∀(ks:List Nat)(y:Option aw),(∀k∈ks,k<4)->∃y',forL (fun _=>True) (aA 2) Sd (ks.map fun(i:Nat)=>aw.int (i:Int)) [qI m, qS x, y] st=(match jq ks x with|some i=>.rt (.int (i:Int)) st|none=>.nx [qI m, qS x, y'] st)
 |[],y,_=>⟨y,by
  rw[VO];unfold forL;rw[Vs trivial];rfl⟩
 |k::ks,y,h=>by
  obtain⟨y',ih⟩:=Cd (m:=m) (x:=x) (st:=st) ks (some (.int (k:Int))) fun j hj=>h j (Vq _ hj);refine⟨y',?_⟩;have ix:ah El (mC PM.f_) bH [qI m, qS x, qN k] st=.ok (.str (jV k)) st:=by rw[aH (x:=PM.f_) (s1:=st) rfl (y:=.int (k:Int)) (s2:=st) rfl];exact Hg (h k Vu) st
  have t:aT (ah cG (ah El (mC PM.f_) bH) aO) [qI m, qS x, qN k] st=.ok (jV k==x) st:=bu (by
   rw[aH ix (y:=.str x) (s2:=st) rfl];exact iF)
  have a:aA 2 (.int (k:Int)) [qI m, qS x, y]=some [qI m, qS x, qN k]:=rfl;rw[Vp];unfold forL;rw[Vs trivial,a];dsimp only;unfold jq;rw[W3];cases q:jV k==x with
  |true=>
   rw[q]at t;unfold Sd;rw[b6 t];rfl
  |false=>
   rw[q]at t;have e:Sd [qI m, qS x, qN k] st=.nx [qI m, qS x, qN k] st:=by unfold Sd;rw[cI t]
   rw[e];exact ih
theorem ky(hm:af<=4)(x:Str)(st:ao):PM.dh [.int (af:Int),.str x] st=(match jq (List.range af) x with|some i=>.ok (.int (i:Int)) st|none=>.err "NotWritten" st):=by
 obtain⟨y',e⟩:=Cd (m:=(af:Int)) (x:=x) (st:=st) (List.range af) none fun k hk=>by rw[XQ]at hk;lia
 have r:cz (ae aD ak) [qN af, qS x, qn] st=.ok (bD 0 ((af:Nat):Int).toNat,fun _=>True) st:=sM (d0 (v:=.int (af:Int)) (s1:=st) rfl) (by lia) (by lia);have rl:bD 0 ((af:Nat):Int).toNat=(List.range af).map fun(i:Nat)=>aw.int (i:Int):=by unfold bD;show(List.range af).map (fun(i:Nat)=>aw.int (0+(i:Int)))=_;refine WB fun i _=>?_;rw[Ya]
 rw[rl]at r;unfold PM.dh;rw[aY (np:=2) (us:=[.int (af:Int),.str x]) rfl];show(ay (dQ (cz (ae aD ak)) (aA 2) Sd) (fT "NotWritten" (ae (qs "a term is of figures and of the letters of the unknowns") ak)) [qN af, qS x, qn] st).fin=_;rw[av,fF,r,az,gP,e];cases jq (List.range af) x with
 |some i=>rfl
 |none=>rfl
def cQ(x:Str):Str:=Txt.slice x (some 1) none
def jd(x:Str):Str:=Txt.slice x none (some 1)
def uE(x:Str):Option Int:=if x = "" then some 1 else if(cl x).head?=some 94/\ir (cQ x)=true/\(cQ x).length<=2 then some (jY (cQ x))else none
theorem sP(h:asc x):asc (cQ x):=fun c hc=>by unfold cQ at hc;rw[iH]at hc;exact h c (YF hc)
theorem sQ(x:Str):(cQ x).length<=x.length:=Xe x _ _
theorem str_beq:(x==y)=decide (x=y):=by
 by_cases h:x=y
 .rw[VA h,h,Wn]
 .rw[VE h,WD h]
theorem K0(ha:asc x)(hl:x.length<=100000)(st:ao):∃g,PM.bo [.str x] st=(match uE x with|some e=>.ok (.int e) (st++g)|none=>.err "NotWritten" (st++g)):=by
 have sl:sizeLine=16777216:=VN;have tl:=sQ x;unfold uE;by_cases h0:x = ""
 .have q0:(x==("":Str))=true:=by rw[str_beq,VA h0]
  rw[Vs h0];refine⟨[],?_⟩;rw[VW];unfold PM.bo;generalize cJ aD (ba bA) a!=Z;simp only[aY,au,az,fE,bQ,a8,bR,a7,cH,dD,cY,bj,bh,av,aL,bF,iF,e8,Vp,VO,VH,VG,VT,VF,Nat.reduceSub,Vo,VI,Nat.reduceAdd,q0]
 .have q0:(x==("":Str))=false:=by rw[str_beq,VE h0]
  rw[Vx h0];obtain⟨c,r,hc⟩:∃c r,cl x=c::r:=by
   cases hh:cl x with
   |nil=>exact absurd (fh hh) h0
   |cons c r=>exact⟨c,r,rfl⟩
  have s1:cJ aD (ba bA) a! [some (.str x),none] st=.ok (.str (cQ x)) st:=kC (l:=some 1) (h:=none) rfl rfl rfl (by lia);have ix:∀s,bY (.str x) (.int 0) s=.ok (.str ⟨#[c]⟩) s:=fun s=>by unfold bY;dsimp only;rw[Vs (by lia)];have:L2.pF x.cps.toList ((0:Nat):Int)=some c:=L2.ft (by show(cl x)[0]?=_;rw[hc];rfl);have Se:L2.pF x.cps.toList 0=some c:=this;rw[Se]
  have q1:(!((⟨#[c]⟩:Str)==("^":Str))) = !decide (c=94):=by
   rw[str_beq];congr 2;refine propext ⟨fun h=>?_,fun h=>?_⟩
   .have:=W! cl h;have e:cl ("^":Str)=[94]:=by decide +kernel
    rw[e]at this;injection this
   .subst h;exact fh (by decide +kernel)
  have hd:(cl x).head?=some 94↔c=94:=by rw[hc];simp
  obtain⟨g,f⟩:=Cc (sP ha) (by lia) st;have ln:∀s,bG [.str (cQ x)] s=.ok (.int ((cQ x).length:Int)) s:=fun s=>by unfold bG;dsimp only;rw[Vs (by lia)]
  by_cases K2:c=94
  .have Sf:(!((⟨#[c]⟩:Str)==("^":Str)))=false:=by rw[q1,VA K2];rfl
   by_cases hf:ir (cQ x)=true
   .rw[hf]at f;by_cases h2:(cQ x).length<=2
    .rw[Vs ⟨hd.mpr K2,hf,h2⟩];have q3:decide ((2:Int)<((cQ x).length:Int))=false:=VE (by lia);have it:=wH hf (by lia) (st++g);refine⟨g,?_⟩;unfold PM.bo;generalize cJ aD (ba bA) a!=Z at s1⊢;simp only[aY,au,az,ax,bQ,a8,bR,a7,dS,wg,bE,aZ,cH,cE,hJ,cY,bj,bh,dC,k6,bS,aW,bU,av,c8,aL,bF,eB,m?,iF,vg,e8,cN,Vp,VO,VH,VG,VT,VF,V1,V?,Nat.reduceSub,Vo,VI,Nat.reduceAdd,X1,q0,s1,ix,Sf,f,ln,q3,it]
    .rw[Vx (fun z=>h2 z.2.2)];have q3:decide ((2:Int)<((cQ x).length:Int))=true:=VA (by lia);refine⟨g,?_⟩;unfold PM.bo;generalize cJ aD (ba bA) a!=Z at s1⊢;simp only[aY,au,az,ax,rP,rQ,a8,bR,a7,dS,wg,bE,aZ,dD,cE,hJ,qy,cY,bj,bh,dC,k6,bS,aW,bU,av,c8,bF,eB,m9,m?,iF,vg,e8,cN,Vp,VO,VH,VG,VT,VF,V1,V?,Nat.reduceSub,Vo,VI,Nat.reduceAdd,X1,VN,Nat.reduceLeDiff,↓reduceIte,q0,s1,ix,Sf,f,ln,q3]
   .rw[Vx (fun z=>hf z.2.1)];have hf':ir (cQ x)=false:=by simpa using hf
    rw[hf']at f;refine⟨g,?_⟩;unfold PM.bo;generalize cJ aD (ba bA) a!=Z at s1⊢;simp only[aY,au,az,ax,rP,rQ,a8,bR,a7,ij,dS,wg,bE,aZ,dD,cE,hJ,qy,cY,bj,bh,dC,k6,bS,aW,bU,av,c8,bF,eB,m9,iF,vg,e8,cN,Vp,VO,VH,VG,VT,VF,V1,V?,Nat.reduceSub,Vo,VI,Nat.reduceAdd,Bool.not_false,VN,Nat.reduceLeDiff,↓reduceIte,q0,s1,ix,Sf,f]
  .have Sf:(!((⟨#[c]⟩:Str)==("^":Str)))=true:=by rw[q1,VE K2];rfl
   rw[Vx (fun z=>K2 (hd.mp z.1))];refine⟨[],?_⟩;rw[VW];unfold PM.bo;generalize cJ aD (ba bA) a!=Z at s1⊢;simp only[aY,au,az,ax,rP,rQ,a8,bR,a7,ij,bE,aZ,dD,cE,hJ,qy,cY,bj,bh,dC,bS,aW,av,c8,bF,eB,m9,iF,vg,e8,Vp,VO,VH,VG,VT,VF,V1,V?,Nat.reduceSub,Vo,VI,Nat.reduceAdd,VN,Nat.reduceLeDiff,↓reduceIte,q0,s1,ix,Sf]
end PG
namespace PG
open PySem.Spec L2 MN
open PyProof.Rows hiding St kindOf
def gF(A:List bg)(t:bg):List bg:=jo A t.1 (c9 A t.1+t.2)
theorem DO{A:List bg}{k:_m}(h:k ∉ A.map (·.1)):c9 A k=0:=by
 unfold c9;have:(A.find? fun p=>decide (p.1=k))=none:=by rw[Y0];intro p hp z;exact h (V0.mpr ⟨p,hp,Wj z⟩)
 rw[this];rfl
theorem Hl{A:List bg}{k:_m}(v:Int)(h:k ∉ A.map (·.1)):jo A k v=A++[(k,v)]:=by unfold jo;rw[Vx fun z=>h (B4.mp z)]
theorem O9{A P:List bg}(h:((A++t::P).map (·.1)).Nodup):t.1 ∉ A.map (·.1)/\((A++[t]++P).map (·.1)).Nodup:=by refine⟨?_,by rw[Vy];exact h⟩;rw[Wh,Vp,List.nodup_append]at h;exact fun m=>h.2.2 _ m _ Vu rfl
theorem vz:∀(P A:List bg),((A++P).map (·.1)).Nodup->P.foldl gF A=A++P
 |[],A,_=>by rw[VW];rfl
 |t::P,A,h=>by have n:=O9 h;show P.foldl gF (gF A t)=_;unfold gF;rw[DO n.1,Hl _ n.1,Ya];have:=vz P (A++[t]) n.2;rw[Vy]at this;exact this
theorem oM(h:(D.map (·.1)).Nodup):b9 D=D:=vz D [] h
def Sg(r:Int)(L:List bg):List bg:=(L.map fun t=>(t.1,dM r t.2)).filter fun t=>t.2 !=0
theorem K3(nd:(D.map (·.1)).Nodup)(ht:t∈D):c9 D t.1=t.2:=by
 have m:=yA (A:=D) (k:=t.1) (V0.mpr ⟨t,ht,rfl⟩);have:(t.1,c9 D t.1)=t:=by
  have inj:∀a∈D,∀b∈D,a.1=b.1->a=b:=by
   intro a ha b hb e;have p:=List.pairwise_map.mp nd;exact Classical.byContradiction fun ne=>by
    rcases YG.mp ha with⟨i,hi,rfl⟩
    rcases YG.mp hb with⟨j,hj,rfl⟩
    have q:=ZY.mp p;rcases ZW i j with c|c|c
    .exact q i j hi hj c e
    .subst c;exact ne rfl
    .exact q j i hj hi c e.symm
  exact inj _ m _ ht rfl
 exact W! (·.2) this
theorem oN(f:SO.gQ (D.map (·.1))):bI r D=Sg r D:=by
 have nd:=gR f;have e:l? (D.map (·.1))=D.map (·.1):=ym (gv _) (oF nd) f;have:p5 D=D:=by
  unfold p5;rw[e,Wd];have:D.map ((fun k=>(k,c9 D k)) ∘ fun t=>t.1)=D.map id:=WB fun t ht=>by show(t.1,c9 D t.1)=t;rw[K3 nd ht]
  rw[this,Zu]
 unfold bI Sg;rw[this]
theorem AK(r:Int){A:List bg}(nd:(A.map (·.1)).Nodup):SO.gQ ((bI r A).map (·.1)):=by
 rw[<-sH];unfold DM;rw[List.filter_map,Wd];have:(((l? (A.map (·.1))).filter ((fun t=>t.2 !=0) ∘ fun k=>(k,dM r (c9 A k)))).map ((fun t=>t.1) ∘ fun k=>(k,dM r (c9 A k))))=(l? (A.map (·.1))).filter ((fun t:bg=>t.2 !=0) ∘ fun k=>(k,dM r (c9 A k))):=by have:((fun t:bg=>t.1) ∘ fun k:_m=>(k,dM r (c9 A k)))=id:=rfl;rw[this,Zu]
 rw[this];exact List.Pairwise.sublist List.filter_sublist (oF nd)
theorem sR{B:Int}(b0:0<=B):∀(P A:List bg)(m:Nat),(∀t∈P,-B<=t.2/\t.2<=B)->(∀t∈A,-(m*B)<=t.2/\t.2<=m*B)->∀t∈P.foldl gF A,-((m+P.length:Nat)*B)<=t.2/\t.2<=(m+P.length:Nat)*B
 |[],A,m,_,h=>h
 |p::P,A,m,hp,h=>by
  have e:((m+1:Nat):Int)*B=m*B+B:=by rw[Int.natCast_add,Int.add_mul];simp
  have mb:0<=(m:Int)*B:=Int.mul_nonneg (Yu _) b0;have q:=hp p Vu;have ih:=sR b0 P (gF A p) (m+1) (fun t ht=>hp t (Vq _ ht)) (fun t ht=>by
   rw[e];rcases sF ht with ht|rfl
   .have:=h t ht;lia
   .have:=AG (k:=p.1) mb h;dsimp only;lia)
  intro t ht;have:=ih t ht;rw[Vo,show m+(P.length+1)=m+1+P.length by lia];exact this
theorem AL{B:Int}(b0:0<=B){P:List bg}(hp:∀t∈P,-B<=t.2/\t.2<=B):∀t∈b9 P,-(P.length*B)<=t.2/\t.2<=P.length*B:=by have:=sR b0 P [] 0 hp (fun t ht=>by cases ht);rw[V_]at this;exact this
theorem AM{n C:Int}(hr:0<=r)(hC:r<=C)(h:-C<=n/\n<=C):-C<=dM r n/\dM r n<=C:=by
 unfold dM;split
 .exact h
 .have:=gT (m:=r) (by lia) n;lia
theorem nA{A:List bg}(h:t∈bI r A):∃q∈A,t.1=q.1/\t.2=dM r q.2:=by unfold bI at h;obtain⟨u,hu,rfl⟩:=V0.mp (X0.mp h).1;unfold p5 at hu;obtain⟨k,hk,rfl⟩:=V0.mp hu;exact⟨_,yA ((gv _).mem_iff.mp hk),rfl,rfl⟩
theorem Hm(r:Int)(A:List bg):(bI r A).length<=A.length:=by rw[<-sH];refine VX (B8 _ _ _) ?_;rw[(gv _).length_eq,Vt];exact Vv _
structure Sms(af:Nat)(D:List bg)(C:Int):Prop where
 Hn:SO.gQ (D.map (·.1))
 len:∀t∈D,t.1.length=af
 big:∀t∈D,-C<=t.2/\t.2<=C
theorem Ce{B:Int}{P:List bg}(b0:0<=B)(hr:0<=r)(hl:∀t∈P,t.1.length=af)(hb:∀t∈P,-B<=t.2/\t.2<=B):Sms af (bI r (b9 P)) (P.length*B+r):=by
 have ga:=jA P;refine⟨AK r ga.1,fun t ht=>?_,fun t ht=>?_⟩
 .obtain⟨q,hq,e1,_⟩:=nA ht;obtain⟨w,hw,e⟩:=V0.mp (ga.2.2 q hq);rw[e1,<-e];exact hl w hw
 .obtain⟨q,hq,_,e2⟩:=nA ht;have:=AL b0 hb q hq;have pb:0<=(P.length:Int)*B:=Int.mul_nonneg (Yu _) b0;rw[e2];exact AM hr (by lia) (by lia)
theorem O_(h1:1<=af){k:_m}(h:k.length=af):k≠[]:=fun z=>by rw[z]at h;simp at h;lia
section
variable{p:Nat}{P:List bg}{C:Int}
end
def Tr(lo hi:Int):aw->Bool
 |.int e=>decide (lo<=e)&&decide (e<=hi)
 |_=>false
theorem AN(h:flat v=true)(lo hi:Int)(st:ao):PM.aU [v,.int lo,.int hi] st=.ok (.bl (Tr lo hi v)) st:=by
 cases v with
 |int e=>exact within_int e lo hi st
 |cO=>rfl
 |bl b=>cases b<;>rfl
 |str z=>rfl
 |_=>cases h
section
variable{s:ao}
end
section
variable{μ:MN.Env}{s:ao}{a:ME}{k:Int}{x:aw}
end
theorem nB(h:Fh v=false){μ:MN.Env}(hi:μ[i]?=some (some v))(s:ao):jw i μ s=.ok v s:=by unfold jw;rw[hi];cases v<;>first|rfl|cases h
theorem wI(h:flat v=true):Fh v=false:=by cases v<;>first|rfl|cases h
theorem yG(h:flat v=true)(hb:Tr 1 4 v=false)(st:ao):PM.bJ [v] st=.err "NoUnknowns" st:=by
 have v0:aD [some v] st=.ok v st:=nB (wI h) rfl st;have q:aj PM.aU (ae aD (ae bA (ae kd ak))) [some v] st=.ok (.bl false) st:=by rw[aI (hU v0 (gg (v:=.int 1) (s1:=st) rfl (w:=.int 4) (s2:=st) rfl)),AN h,hb]
 have t:dP (aT (aj PM.aU (ae aD (ae bA (ae kd ak))))) [some v] st=.ok true st:=by rw[k6,bu q];rfl
 unfold PM.bJ;rw[aY (np:=1) (us:=[v]) rfl];show(cU (dP (aT (aj PM.aU (ae aD (ae bA (ae kd ak)))))) _ aJ [some v] st).fin=_;rw[b6 t];rfl
theorem Ho(us:List aw)(k:Nat):oq us none (some (k:Int))=us.take k:=by
 unfold oq;rw[HT.mR,HT.qt,X',Nat.sub_zero];rcases Nat.le_total k us.length with h|h
 .rw[YT h]
 .rw[YC h,Wb h,Wb (Vv _)]
theorem Hq(h:k<=us.length):oq us (some (k:Int)) none=us.drop k:=by unfold oq;rw[HT.mR,HT.qt,YT h,Wb (by rw[WU];lia)]
section
variable{n C:Int}{p:Nat}{P:List bg}
end
section
variable{n C:Int}{p:Nat}{P:List bg}
theorem Sh{μ:MN.Env}{a:ME}{s:ao}{L:List bg}(ha:a μ s=.ok (.int r) s)(hm:m μ s=.ok (.loc k) s1)(h:aq s1 k=some (L.map tV))(hl:L.length<64)(ne:∀t∈L,t.1≠[]):
  ∃c1 c3,aj PM.bB (ae a (ae m ak)) μ s=.ok (.loc (s1.length+1)) (s1++[c1,.lst ((bI r (b9 L)).map tV),c3])/\(s1++[c1,.lst ((bI r (b9 L)).map tV),c3])[s1.length+1]?=some (.lst ((bI r (b9 L)).map tV)):=by
 obtain⟨c1,c3,e⟩:=gY (r:=r) h hl ne;refine⟨c1,c3,?_,?_⟩
 .rw[aI (gg ha hm),e]
 .rw[VS (by lia),show s1.length+1-s1.length=1 by lia];rfl
end
theorem Si:PM.gS=PM.gS:=rfl
theorem nC(r:Int)(L:List bg):(bI r (b9 L)).length<=L.length:=VX (Hm r _) (jA L).2.1
section
variable{n C:Int}{p:Nat}{P:List bg}
end
theorem O!(us:List aw)(k:Nat):oq us (some (k:Int)) none=us.drop k:=by
 rcases Nat.le_total k us.length with h|h
 .exact Hq h
 .unfold oq;rw[HT.mR,HT.qt,YC h,Wy,List.take_zero,List.drop_eq_nil_of_le h]
section
variable{x:aw}
end
theorem wJ(n:Int):dM 0 n=n:=Vs rfl
theorem Hr(h:0<r)(n:Int):dM r n=n % r:=by unfold dM;rw[Vx (by lia),WJ n (by lia)]
theorem wK(hr:fR r=true):r=0\/(2<=r/\r<=997):=by
 unfold fR at hr;rcases YW _ _ |>.mp hr with h|h
 .exact .inl (by simpa using h)
 .have:=DF h;exact .inr (by lia)
theorem oO{a b:Nat}{i:Int}(h:kj a i)(k:kj b j)(ha:a<=1000000)(hb:b<=1000000):MulOk i j:=.inl ⟨Sz.of h ha,Sz.of k hb⟩
section
variable{x:Int}{M:J4}
end
end PG
namespace PG
open PySem.Spec L2 MN TX
open PyProof.Rows hiding St kindOf
theorem mr:∀(cs:List Nat)(a:Nat),(∀c∈cs,48<=c/\c<=57)->cs.foldl (fun acc c=>acc*10+(c-48)) a+1<=(a+1)*10 ^ cs.length
 |[],a,_=>by simp
 |c::cs,a,h=>by have ih:=mr cs (a*10+(c-48)) fun d hd=>h d (Vq _ hd);have hc:=h c Vu;rw[X?,Vo,Nat.pow_succ,Nat.mul_comm (10 ^ cs.length) 10,<-Y9];exact VX ih (WN _ (by lia))
theorem Cf(h:ir x=true):kj (4*x.length) (jY x):=by
 obtain⟨h1,_⟩:=jB h;have z:=mr (cl x) 0 h1;rw[V_,XW,a_]at z;unfold kj jY;rw[ZQ];have e:(2:Nat) ^ (4*x.length)=16 ^ x.length:=by rw[Nat.pow_mul]
 rw[e];have:(10:Nat) ^ x.length<=16 ^ x.length:=Nat.pow_le_pow_left (by decide) _;exact VQ z this
theorem Hs(x:Str):0<=jY x:=Yu _
def sS(af:Nat)(a:bg)(f:Str):Option bg:=if ir f=true then some (a.1,a.2*jY f)else match uE (cQ f) with
 |some e=>match jq (List.range af) (jd f) with
  |some i=>some (a.1.set i e,a.2)
  |none=>none
 |none=>none
def kE(af:Nat):bg->_q->Option bg
 |a,[]=>some a
 |a,f::fs=>match sS af a f with
  |some b=>kE af b fs
  |none=>none
def pairF(af:Nat)(sg w:Str):Option bg:=if sg = "+" \/ sg = "-" then kE af (List.replicate af 0,if sg = "-" then -1 else 1) (Txt.split w "*")else none
abbrev Iw:MB:=cU (aT (aj PM.dY (ae eR ak))) (aB 3 (ah dz ck (aj p4 (ae eR ak)))) (lM fC (aj PM.dh (ae aD (ae (cJ eR a! (ba bA)) ak))) (aj PM.bo (ae (cJ eR (ba bA) a!) ak)))
theorem wL{a b:List aG}{c:aG}(h:n<a.length):(a++b).set n c=a.set n c++b:=List.set_append_left n c h
theorem K4{a:bg}{f:Str}{s:ao}(hm:af<=4)(hf:asc f)(hl:f.length<=640)(hq:s[q]?=some (.lst (a.1.map .int)))(la:a.1.length=af)(hb:kj k a.2)(hk:k<=900000):
  ∃g,match sS af a f with
   |some b=>Iw [qN af, x1, x2, qI a.2, qL q, qS f] s=.nx [qN af, x1, x2, qI b.2, qL q, qS f] ((s++g).set q (.lst (b.1.map .int)))/\b.1.length=af/\kj (k+4*f.length) b.2
   |none=>∃μ',Iw [qN af, x1, x2, qI a.2, qL q, qS f] s=.er "NotWritten" μ' (s++g):=by
 obtain⟨μ,hμ⟩:∃μ:MN.Env,μ=[qN af, x1, x2, qI a.2, qL q, qS f]:=⟨_,rfl⟩
 have sl:sizeLine=16777216:=VN;have v0:∀s,aD μ s=.ok (.int (af:Int)) s:=fun s=>by rw[hμ];rfl
 have v3:∀s,ck μ s=.ok (.int a.2) s:=fun s=>by rw[hμ];rfl
 have v4:∀s,fC μ s=.ok (.loc q) s:=fun s=>by rw[hμ];rfl
 have v5:∀s,eR μ s=.ok (.str f) s:=fun s=>by rw[hμ];rfl
 obtain⟨g,ff⟩:=Cc hf (by lia) s;have tf:aT (aj PM.dY (ae eR ak)) μ s=.ok (ir f) (s++g):=bu (by rw[aI (d0 (v5 s))];exact ff);have vy:q<s.length:=(VP.mp hq).1;unfold sS;rw[<-hμ];by_cases PZ:ir f=true
 .rw[Vs PZ];rw[PZ]at tf;have vb:=Cf PZ;have it:aj p4 (ae eR ak) μ (s++g)=.ok (.int (jY f)) (s++g):=by rw[aI (d0 (v5 _))];exact wH PZ hl _
  have mu:ah dz ck (aj p4 (ae eR ak)) μ (s++g)=.ok (.int (a.2*jY f)) (s++g):=by rw[aH (v3 _) it];exact rV (oO hb vb (by lia) (by lia))
  refine⟨g,?_,la,hb.mul vb⟩;unfold Iw;rw[b6 tf,bw mu];have e1:(s++g).set q (.lst (a.1.map .int))=s++g:=by
   rw[wL vy];congr 1;apply W2;intro j;by_cases hj:q=j
   .subst hj;rw[VY vy,hq]
   .rw[V6 hj]
  rw[e1,hμ];rfl
 .rw[Vx PZ];have aaa:ir f=false:=by simpa using PZ
  rw[aaa]at tf;obtain⟨g2,ex⟩:=K0 (sP hf) (VX (sQ f) (by lia)) (s++g);have st:cJ eR (ba bA) a! μ (s++g)=.ok (.str (cQ f)) (s++g):=kC (l:=some 1) (h:=none) (v5 _) rfl rfl (by lia);have sh:∀s,cJ eR a! (ba bA) μ s=.ok (.str (jd f)) s:=fun s=>kC (l:=none) (h:=some 1) (v5 _) rfl rfl (by lia);have cx:aj PM.bo (ae (cJ eR (ba bA) a!) ak) μ (s++g)=(match uE (cQ f) with|some e=>.ok (.int e) (s++g++g2)|none=>.err "NotWritten" (s++g++g2)):=by rw[aI (d0 st)];exact ex
  have cp:aj PM.dh (ae aD (ae (cJ eR a! (ba bA)) ak)) μ (s++g++g2)=(match jq (List.range af) (jd f) with|some i=>.ok (.int (i:Int)) (s++g++g2)|none=>.err "NotWritten" (s++g++g2)):=by rw[aI (gg (v0 _) (sh _))];exact ky hm _ _
  refine⟨g++g2,?_⟩;rw[<-Vy];unfold Iw;cases he:uE (cQ f) with
  |none=>
   rw[he]at cx;refine⟨μ,?_⟩;rw[bF,tf,az,cE,nh,cx];rfl
  |some e=>
   rw[he]at cx;dsimp only at cx⊢;cases hp:jq (List.range af) (jd f) with
   |none=>
    rw[hp]at cp;refine⟨μ,?_⟩;rw[bF,tf,az,cE,nh,cx,az,Ke,v4,az,BU,cp];rfl
   |some i=>
    rw[hp]at cp;dsimp only at cp⊢;have hi:i<af:=by unfold jq at hp;exact XQ.mp (Yj hp)
    have hq2:(s++g++g2)[q]?=some (.lst (a.1.map .int)):=d_ (d_ hq g) g2;have sf:=BV (v:=.int e) (k:=(i:Int)) (j:=i) hq2 (B2 (by rw[Vt,la];exact hi));refine⟨?_,by rw[Wm];exact la,hb.mono (by lia)⟩;rw[bF,tf,az,cE,nh,cx,az,Ke,v4,az,BU,cp,az,Gh,sf,rX,hμ,List.map_set]
def gp(fs:_q):Nat:=(fs.map (·.length)).sum
theorem yH{af q k:Nat}{x1 x2:Option aw}{F:_q}(hm:af<=4)(Sj:k≠q):∀(fs:_q)(a:bg)(y:Option aw)(s:ao)(b:Nat),(∀f∈fs,asc f/\f.length<=640)->s[q]?=some (.lst (a.1.map .int))->aq s k=some (F.map .str)->a.1.length=af->kj b a.2->b+4*gp fs<=900000 ->
  match kE af a fs with
  |some c=>∃g y',forL (fun s'=>aq s' k=some (F.map .str)) (aA 5) Iw (fs.map .str) [qN af, x1, x2, qI a.2, qL q, y] s=.nx [qN af, x1, x2, qI c.2, qL q, y'] ((s++g).set q (.lst (c.1.map .int)))/\c.1.length=af
  |none=>∃g z μ',forL (fun s'=>aq s' k=some (F.map .str)) (aA 5) Iw (fs.map .str) [qN af, x1, x2, qI a.2, qL q, y] s=.er "NotWritten" μ' ((s++g).set q z)
 |[],a,y,s,b,_,hq,hk,la,_,_=>by
  have vy:q<s.length:=(VP.mp hq).1;refine⟨[],y,?_,la⟩;rw[VO,VW];unfold forL;rw[Vs hk];congr 1;apply W2;intro j;by_cases hj:q=j
  .subst hj;rw[VY vy,hq]
  .rw[V6 hj]
 |f::fs,a,y,s,b,hf,hq,hk,la,hb,hs=>by
  have vy:q<s.length:=(VP.mp hq).1;obtain⟨f1,f2⟩:=hf f Vu;have ht:gp (f::fs)=f.length+gp fs:=by unfold gp;rw[Vp,WW]
  rw[ht]at hs;obtain⟨g,Ht⟩:=K4 (x1:=x1) (x2:=x2) (q:=q) hm f1 f2 hq la hb (by lia);have an:aA 5 (.str f) [qN af, x1, x2, qI a.2, qL q, y]=some [qN af, x1, x2, qI a.2, qL q, qS f]:=rfl;unfold kE;cases hc:sS af a f with
  |none=>
   rw[hc]at Ht;obtain⟨μ',e⟩:=Ht;dsimp only;have hqg:(s++g)[q]?=some (.lst (a.1.map .int)):=d_ hq g;refine⟨g,.lst (a.1.map .int),μ',?_⟩;rw[Vp];unfold forL;rw[Vs hk,an];dsimp only;rw[e];dsimp only;congr 1;apply W2;intro j;by_cases hj:q=j
   .subst hj;rw[VY (by rw[Vz];lia),hqg]
   .rw[V6 hj]
  |some c=>
   rw[hc]at Ht;obtain⟨e,lc,bc⟩:=Ht;dsimp only;obtain⟨s1,dI⟩:∃s1,s1=(s++g).set q (aG.lst (c.1.map .int)):=⟨_,rfl⟩
   have hq1:s1[q]?=some (.lst (c.1.map .int)):=by rw[dI,VY (by rw[Vz];lia)]
   have hk1:aq s1 k=some (F.map .str):=by rw[dI];unfold aq;rw[V6 (Xg Sj)];exact aC hk g
   have ih:=yH (x1:=x1) (x2:=x2) (F:=F) hm Sj fs c (some (.str f)) s1 (b+4*f.length) (fun z hz=>hf z (Vq _ hz)) hq1 hk1 lc bc (by lia);have step:∀r,forL (fun s'=>aq s' k=some (F.map .str)) (aA 5) Iw (fs.map .str) [qN af, x1, x2, qI c.2, qL q, qS f] s1=r->forL (fun s'=>aq s' k=some (F.map .str)) (aA 5) Iw ((f::fs).map .str) [qN af, x1, x2, qI a.2, qL q, y] s=r:=fun r hr=>by
    rw[Vp]
    conv=>lhs;unfold forL
    rw[Vs hk,an];dsimp only;rw[e,<-dI];exact hr
   have ss:∀(g2:ao)(z:aG),(s1++g2).set q z=(s++(g++g2)).set q z:=fun g2 z=>by
    rw[dI,<-Vy];have l1:q<((s++g).set q (aG.lst (c.1.map .int))).length:=by rw[Wm,Vz];lia
    have l2:q<(s++g).length:=by rw[Vz];lia
    have r1:((s++g).set q (aG.lst (c.1.map .int))++g2).set q z=((s++g).set q (aG.lst (c.1.map .int))).set q z++g2:=wL l1;have r2:(s++g++g2).set q z=(s++g).set q z++g2:=wL l2;rw[r1,r2,Y?]
   cases hr:kE af c fs with
   |none=>
    rw[hr]at ih;obtain⟨g2,z,μ',e2⟩:=ih;exact⟨g++g2,z,μ',by rw[step _ e2,ss]⟩
   |some d=>
    rw[hr]at ih;obtain⟨g2,y',e2,ld⟩:=ih;exact⟨g++g2,y',by rw[step _ e2,ss],ld⟩
structure aab(w:Str)(c:Nat):Prop where
 asc:∀f∈Txt.split w ⟨#[c]⟩,asc f
 Gm:gp (Txt.split w ⟨#[c]⟩)<=w.length
 len:(Txt.split w ⟨#[c]⟩).length<=w.length+1
theorem Hu(c:Nat):∀ps:List (List Nat),(jn c ps).length+1 ≥ (ps.map List.length).sum+ps.length/\∀p∈ps,∀x∈p,x∈jn c ps
 |[]=>⟨by simp[jn],fun p hp=>by cases hp⟩
 |[a]=>⟨by simp[jn],fun p hp x hx=>by rw[VZ.mp hp]at hx;exact hx⟩
 |a::b::r=>by
  obtain⟨i1,i2⟩:=Hu c (b::r);refine⟨?_,fun p hp x hx=>?_⟩
  .show(a++c::jn c (b::r)).length+1 ≥ _;rw[Vz,Vo,Vp,WW,Vo];lia
  .show x∈a++c::jn c (b::r);rcases VJ.mp hp with rfl|hp
   .exact WL _ hx
   .exact V2 _ (Vq _ (i2 p hp x hx))
theorem sT{w:Str}(c:Nat)(h:asc w):aab w c:=by
 have h1:=YO w ⟨#[c]⟩;have h4:Txt.join ⟨#[c]⟩ (Txt.split w ⟨#[c]⟩)=w:=by have:Txt.join ⟨#[c]⟩ (Txt.split w ⟨#[c]⟩)=PySem.Str.join ⟨#[c]⟩ (Txt.split w ⟨#[c]⟩):=Xi _ _;rw[this,h1]
 have h5:=W! cl h4;rw[gI]at h5;obtain⟨j1,j2⟩:=Hu c ((Txt.split w ⟨#[c]⟩).map cl);rw[h5,a_,Wd,Vt]at j1;have e:(Txt.split w ⟨#[c]⟩).map (List.length ∘ cl)=(Txt.split w ⟨#[c]⟩).map (·.length):=WB fun x _=>a_ x;rw[e]at j1;have ne:=yy w ⟨#[c]⟩;have l0:0<(Txt.split w ⟨#[c]⟩).length:=Xs.mpr ne;refine⟨fun f hf x hx=>?_,by unfold gp;lia,by lia⟩;have:=j2 (cl f) (V0.mpr ⟨f,hf,rfl⟩) x hx;rw[h5]at this;exact h x this
theorem wM:∀{fs:_q}{f:Str},f∈fs->f.length<=gp fs
 |g::fs,f,h=>by
  have e:gp (g::fs)=g.length+gp fs:=by unfold gp;rw[Vp,WW]
  rcases VJ.mp h with rfl|h
  .lia
  .have:=wM h;lia
theorem lj(x y:Str)(h:x.length<=100000):(Builtin.Str.partsBetween x (Builtin.Str.occurrences x y 0 x.length (x.length+1)) y.length).length<=sizeLine:=by unfold Builtin.Str.partsBetween;have:=StrLaws.occ_length_le x y 0 x.length (x.length+1);simp only[Vt,XG,Vo,Vz,VI];rw[VN];lia
theorem K5(h1:1<=af)(hm:af<=4){sg w:Str}(hw:asc w)(hl:w.length<=640)(st:ao):∃g,PM.dj [.int (af:Int),.str sg,.str w] st=(match pairF af sg w with|some c=>.ok (tV c) (st++g)|none=>.err "NotWritten" (st++g))/\∀c,pairF af sg w=some c->c.1.length=af:=by
 have sl:sizeLine=16777216:=VN;have inS:z? true (.str sg) PM.sk st=.ok (.bl (!decide (sg = "+" \/ sg = "-"))) st:=by
  unfold z?;have e1:FG st PM.sk=some [.str "+",.str "-"]:=rfl;rw[e1];dsimp only;rw[Vs ⟨rfl,rfl⟩];have e2:([aw.str "+",aw.str "-"].any fun y=>Iu y (.str sg))=decide (sg = "+" \/ sg = "-"):=by show((("+":Str)==sg) || ((("-":Str)==sg) || false))=_;rw[Bool.or_false,str_beq,str_beq,W5];simp only[YW,W6];exact⟨fun h=>h.imp ZE ZE,fun h=>h.imp ZE ZE⟩
  rw[Vs rfl,e2]
 have c0:aT (ah (z? true) aO (mC PM.sk)) [qN af, qS sg, qS w, qn, qn, qn] st=.ok (!decide (sg = "+" \/ sg = "-")) st:=bu (by rw[aH (x:=.str sg) (s1:=st) rfl (y:=PM.sk) (s2:=st) rfl,inS]);have run:PM.dj=gk 3 6 (ay (cU (aT (ah (z? true) aO (mC PM.sk))) (fT "NotWritten" (ae (qs "between two terms stands + or -") ak)) aJ) (ay (aB 3 (xR (aT (ah cG aO (qs "-"))) (l5 bA) bA)) (ay (aB 4 (ah dz (bq (ae bX ak)) aD)) (ay (dQ (d6 (eI bH (qs "*"))) (aA 5) Iw) (aP (fO (ae (aj l6 (ae fC ak)) (ae ck ak)))))))):=rfl;unfold pairF;by_cases hs:sg = "+" \/ sg = "-"
 .rw[VA hs]at c0;rw[Vs hs];obtain⟨n0,Ts⟩:∃n0:Int,n0=if sg = "-" then -1 else 1:=⟨_,rfl⟩
  rw[<-Ts];have f3:aB 3 (xR (aT (ah cG aO (qs "-"))) (l5 bA) bA) [qN af, qS sg, qS w, qn, qn, qn] st=.nx [qN af, qS sg, qS w, qI n0, qn, qn] st:=by
   by_cases z:sg = "-"
   .have q:(sg==("-":Str))=true:=by rw[str_beq,VA z]
    rw[Ts,Vs z];simp only[au,az,a8,bR,a7,jR,hJ,cY,bj,bh,i',rS,Ai,eB,iF,e8,cN,V1,V?,q]
   .have q:(sg==("-":Str))=false:=by rw[str_beq,VE z]
    rw[Ts,Vx z];simp only[au,az,a8,bR,a7,jS,hJ,cY,bj,bh,i',eB,iF,e8,cN,V1,V?,q]
  obtain⟨s1,dI⟩:∃s1,s1=st++[aG.lst [.int 0]]:=⟨_,rfl⟩
  obtain⟨s2,fq⟩:∃s2,s2=s1++[aG.lst ((List.replicate af (0:Int)).map .int)]:=⟨_,rfl⟩
  have rp:u5 ((af:Nat):Int).toNat [.int 0]=(List.replicate af (0:Int)).map .int:=by
   have:af=1\/af=2\/af=3\/af=4:=by lia
   rcases this with rfl|rfl|rfl|rfl<;>rfl
  have f4:aB 4 (ah dz (bq (ae bX ak)) aD) [qN af, qS sg, qS w, qI n0, qn, qn] st=.nx [qN af, qS sg, qS w, qI n0, qL s1.length, qn] s2:=by
   have l:bq (ae bX ak) [qN af, qS sg, qS w, qI n0, qn, qn] st=.ok (.loc st.length) s1:=by rw[dI];exact eO (vs:=[.int 0]) (s1:=st) rfl (by decide)
   have l0:s1[st.length]?=some (.lst [.int 0]):=by rw[dI];exact d8 _ _
   have m:ah dz (bq (ae bX ak)) aD [qN af, qS sg, qS w, qI n0, qn, qn] st=.ok (.loc s1.length) s2:=by rw[aH l (y:=.int (af:Int)) (s2:=s1) rfl,Gi l0 (by lia) (by lia) (by show 1*_<=_;lia),rp,fq]
   rw[bw m];rfl
  have sp:=sT 42 hw;have Gm:=sp.Gm;obtain⟨F,hF⟩:∃F,F=Txt.split w "*":=⟨_,rfl⟩
  have P0:Txt.split w ⟨#[42]⟩=F:=by rw[hF];rfl
  obtain⟨s3,iS⟩:∃s3,s3=s2++[aG.lst (F.map .str)]:=⟨_,rfl⟩
  have L6:eI bH (qs "*") [qN af, qS sg, qS w, qI n0, qL s1.length, qn] s2=.ok (.loc s2.length) s3:=by
   rw[qC (x:=w) (s1:=s2) rfl (by lia) ⟨by decide +kernel,lj w "*" (by lia),by
    have:=sp.len;rw[P0]at this;rw[<-hF];lia⟩,iS,hF]
  have n2:s2[s1.length]?=some (.lst ((List.replicate af (0:Int)).map .int)):=by rw[fq];exact d8 _ _
  have n3:s3[s1.length]?=some (.lst ((List.replicate af (0:Int)).map .int)):=by rw[iS];exact d_ n2 _
  have k3:aq s3 s2.length=some (F.map .str):=by rw[iS];exact aN _ _
  have lts:s1.length<s2.length:=(VP.mp n2).1;have n0b:kj 10 n0:=by rw[Ts];split<;>exact kj.small (by decide) (by decide) (by decide)
  rw[P0]at Gm;have lp:=yH (af:=af) (q:=s1.length) (k:=s2.length) (x1:=some (.str sg)) (x2:=some (.str w)) (F:=F) hm (by lia) F (List.replicate af 0,n0) none s3 10 (fun f hf=>⟨sp.asc f (by rw[P0];exact hf),VX (wM hf) (by lia)⟩) n3 k3 (V3 ..) n0b (by lia);have fin:∀(g:ao)(z:aG),∃g',(s3++g).set s1.length z=st++g':=fun g z=>by
   have l1:s1.length=st.length+1:=by rw[dI,Vz];rfl
   have sa:∀(a b:List aG)(n:Nat)(c:aG),a.length<=n->(a++b).set n c=a++b.set (n-a.length) c:=fun a b n c h=>WR n c h;have e:s3++g=st++([aG.lst [.int 0]]++[aG.lst ((List.replicate af (0:Int)).map .int)]++[aG.lst (F.map .str)]++g):=by rw[iS,fq,dI];simp only[Vy]
   rw[e];exact⟨_,sa st _ _ _ (by lia)⟩
  have head:∀r,forL (fun s'=>aq s' s2.length=some (F.map .str)) (aA 5) Iw (F.map .str) [qN af, qS sg, qS w, qI n0, qL s1.length, qn] s3=r->PM.dj [.int (af:Int),.str sg,.str w] st=(r.cR (aP (fO (ae (aj l6 (ae fC ak)) (ae ck ak))))).fin:=fun r hr=>by rw[run,aY (np:=3) (us:=[.int (af:Int),.str sg,.str w]) rfl];show(ay (cU _ _ _) _ [qN af, qS sg, qS w, qn, qn, qn] st).fin=_;rw[av,cI c0,ax,av,f3,ax,av,f4,ax,av,fF,fB,L6,au,eG k3,az,gP,hr]
  rw[<-hF];cases hr:kE af (List.replicate af 0,n0) F with
  |none=>
   rw[hr]at lp;obtain⟨g,z,μ',e⟩:=lp;obtain⟨g',eg⟩:=fin g z;refine⟨g',?_,fun c hc=>by cases hc⟩;rw[head _ e,eg];rfl
  |some c=>
   rw[hr]at lp;obtain⟨g,y',e,lc⟩:=lp;obtain⟨g',eg⟩:=fin g (.lst (c.1.map .int));refine⟨g',?_,fun d hd=>by cases hd;exact lc⟩;have hq:(st++g')[s1.length]?=some (.lst (c.1.map .int)):=by rw[<-eg,VY (by rw[Vz,iS,Vz];lia)]
   rw[head _ e,eg,ax,aL];have tp:aj l6 (ae fC ak) [qN af, qS sg, qS w, qI c.2, qL s1.length, y'] (st++g')=.ok (a9 c.1) (st++g'):=by rw[aI (d0 (v:=.loc s1.length) (s1:=st++g') rfl)];exact wj (dU hq)
   rw[mq (gg tp (w:=.int c.2) (s2:=st++g') rfl) (by show 2<=1000;decide)];rfl
 .rw[VE hs]at c0;rw[Vx hs];refine⟨[],?_,fun c hc=>by cases hc⟩;rw[VW,run,aY (np:=3) (us:=[.int (af:Int),.str sg,.str w]) rfl];show(ay (cU _ _ _) _ [qN af, qS sg, qS w, qn, qn, qn] st).fin=_;rw[av,b6 c0];rfl
theorem Sk{it:MI}{a:AS}{c:MT}{e:ME}{μ:MN.Env}{q:ao->Prop}(h:it μ st=.ok (us,q) s1)(hl:us.length<=sizeLine):mf k caps it a c e μ st=(gC q a c e us (j! k caps μ) s1 []).bind fun ys st2=>.ok (.loc st2.length) (st2++[.lst ys]):=by unfold mf;rw[h];show(if us.length<=sizeLine then _ else _)=_;rw[Vs hl]
def cV(x:Str):Str:=if Txt.startswith x "-" = true then "-" else "+"
def e!(x:Str):Str:=if Txt.startswith x "-" = true then cQ x else x
def b7(x:Str):_q:=Txt.split (e! x) " "
def iM(af:Nat):List (Str×Str)->Option (List bg)
 |[]=>some []
 |z::r=>match pairF af z.1 z.2 with
  |some c=>match iM af r with
   |some P=>some (c::P)
   |none=>none
  |none=>none
def sU(af:Nat)(x:Str):Option (List bg):=if(b7 x).length % 2=0 then none else iM af ((cV x::f? (b7 x) 1 2).zip (gx (b7 x) 2))
abbrev P_:ME:=aj PM.dj (ae bH (ae aD (ae aO ak)))
theorem yI{af:Nat}{g:ao->Prop}(h1:1<=af)(hm:af<=4)(hg:∀s more,g s->g (s++more)):∀(zs:List (Str×Str))(τ0 τ1:Option aw)(s:ao)(ys:List aw),(∀z∈zs,asc z.2/\z.2.length<=640)->g s ->
  ∃g',gC g (gN [(aA 0),(aA 1)]) cT P_ (zs.map fun z=>aw.tup [.str z.1,.str z.2]) [τ0,τ1,some (.int (af:Int))] s ys=(match iM af zs with|some P=>.ok (ys++P.map tV) (s++g')|none=>.err "NotWritten" (s++g'))
 |[],τ0,τ1,s,ys,_,hs=>⟨[],by
  rw[VO];unfold gC;rw[Vs hs];show c_.ok ys s=c_.ok (ys++[]) (s++[]);rw[VW,VW]⟩
 |z::zs,τ0,τ1,s,ys,hz,hs=>by
  obtain⟨w1,w2⟩:=hz z Vu;obtain⟨g1,e1,_⟩:=K5 h1 hm (sg:=z.1) w1 w2 s;have ep:P_ [qS z.1, qS z.2, qN af] s=(match pairF af z.1 z.2 with|some c=>.ok (tV c) (s++g1)|none=>.err "NotWritten" (s++g1)):=by unfold P_;rw[aI (vs:=[.int (af:Int),.str z.1,.str z.2]) (s1:=s) rfl];exact e1
  have a:gN [(aA 0),(aA 1)] (.tup [.str z.1,.str z.2]) [τ0,τ1,some (.int (af:Int))]=some [qS z.1, qS z.2, qN af]:=rfl;rw[Vp];unfold iM;cases hp:pairF af z.1 z.2 with
  |none=>
   rw[hp]at ep;refine⟨g1,?_⟩
   conv=>lhs;unfold gC
   rw[Vs hs,a];dsimp only[cT];rw[ep]
  |some c=>
   rw[hp]at ep;obtain⟨g2,e2⟩:=yI h1 hm hg zs (some (.str z.1)) (some (.str z.2)) (s++g1) (ys++[tV c]) (fun y hy=>hz y (Vq _ hy)) (hg _ _ hs);refine⟨g1++g2,?_⟩
   conv=>lhs;unfold gC
   rw[Vs hs,a];dsimp only[cT];rw[ep];dsimp only;rw[e2,<-Vy];cases iM af zs with
   |none=>rfl
   |some P=>simp
theorem sV(h:asc x):asc (e! x):=by
 unfold e!;split
 .exact sP h
 .exact h
theorem yJ(x:Str):(e! x).length<=x.length:=by
 unfold e!;split
 .exact sQ x
 .exact Vv _
theorem yK:∀(as bs:_q),rD (as.map aw.str) (bs.map aw.str)=(as.zip bs).map fun z=>aw.tup [.str z.1,.str z.2]
 |[],_=>rfl
 |_::_,[]=>rfl
 |a::as,b::bs=>by show aw.tup [.str a,.str b]::rD (as.map aw.str) (bs.map aw.str)=_;rw[yK as bs];rfl
theorem wN{α β:Type}(f:α->β)(xs:List α):∀is:List Nat,(is.filterMap fun i=>(xs.map f)[i]?)=(is.filterMap fun i=>xs[i]?).map f
 |[]=>rfl
 |i::is=>by
  rw[WO,WO,VV];cases xs[i]? with
  |none=>exact wN f xs is
  |some a=>
   show f a::_=f a::_;rw[wN f xs is]
theorem Hv(xs:_q)(k:Int):gx (xs.map aw.str) k=(gx xs k).map .str:=by unfold gx;rw[Vt,wN]
theorem Hw(xs:_q)(i k:Int):f? (xs.map aw.str) i k=(f? xs i k).map .str:=by unfold f?;rw[Vt,wN]
theorem yL{xs:_q}{k:Int}(h:x∈gx xs k):x∈xs:=by unfold gx at h;obtain⟨i,_,e⟩:=XI.mp h;exact WK e
theorem Hx(h1:1<=af)(hm:af<=4)(hx:asc x)(hl:x.length<=100000)(hw:∀w∈b7 x,w.length<=640)(st:ao):
  match sU af x with
  |some P=>∃g n,PM.c5 [.int (af:Int),.str x] st=.ok (.loc n) (st++g)/\aq (st++g) n=some (P.map tV)
  |none=>∃g,PM.c5 [.int (af:Int),.str x] st=.err "NotWritten" (st++g):=by
 have sl:sizeLine=16777216:=VN;have bl:=yJ x;obtain⟨μ0,aas⟩:∃μ0:MN.Env,μ0=[qN af, qS x, qn, qn, qn]:=⟨_,rfl⟩
 have f2:aB 2 (xR (aT (jb aO (qs "-"))) (qs "-") (qs "+")) [qN af, qS x, qn, qn, qn] st=.nx [qN af, qS x, qS (cV x), qn, qn] st:=by
  have t:=Hd (m:=aO) (y:="-") (μ:=[some (.int (af:Int)),some (.str x),none,none,none]) (s:=st) (s1:=st) (x:=x) rfl;unfold cV;generalize jb aO (qs "-")=Z at t⊢;cases q:Txt.startswith x "-" with
  |true=>rw[q]at t;rw[Vs rfl];simp only[au,az,jR,hJ,cY,bj,bh,i',eB,V1,V?,t]
  |false=>rw[q]at t;rw[Vx VC];simp only[au,az,jS,hJ,cY,bj,bh,i',eB,V1,V?,t]
 have mi:xR (aT (ah cG bH (qs "-"))) (cJ aO (ba bA) a!) aO [qN af, qS x, qS (cV x), qn, qn] st=.ok (.str (e! x)) st:=by
  have t:cJ aO (ba bA) a! [qN af, qS x, qS (cV x), qn, qn] st=.ok (.str (cQ x)) st:=kC (l:=some 1) (h:=none) rfl rfl rfl (by lia);generalize cJ aO (ba bA) a!=Z at t⊢;unfold cV e! at *;cases q:Txt.startswith x "-" with
  |true=>
   rw[q,Vs rfl]at t;rw[Vs rfl,Vs rfl];have q2:(("-":Str)==("-":Str))=true:=by decide
   simp only[au,a8,bR,a7,jR,cY,bj,bh,i',iF,e8,cN,q2,t]
  |false=>
   rw[Vx VC,Vx VC];have q2:(("+":Str)==("-":Str))=false:=by decide
   simp only[au,a8,bR,a7,jS,cY,bj,bh,i',iF,e8,cN,q2]
 obtain⟨W,hW⟩:∃W,W=b7 x:=⟨_,rfl⟩
 have sp:=sT 32 (sV hx);have eW:Txt.split (e! x) ⟨#[32]⟩=W:=by rw[hW];rfl
 have L6:=sp.len;have spa:=sp.asc;rw[eW]at L6 spa;obtain⟨s1,dI⟩:∃s1,s1=st++[aG.lst (W.map .str)]:=⟨_,rfl⟩
 have f3:aB 3 (eI (xR (aT (ah cG bH (qs "-"))) (cJ aO (ba bA) a!) aO) (qs " ")) [qN af, qS x, qS (cV x), qn, qn] st=.nx [qN af, qS x, qS (cV x), qL st.length, qn] s1:=by
  have t:=qC (y:=" ") mi (by lia) ⟨by decide +kernel,lj (e! x) " " (by lia),by
   show(b7 x).length<=sizeLine;rw[<-hW];lia⟩
  rw[bw t,dI,hW];rfl
 have i1:aq s1 st.length=some (W.map .str):=by rw[dI];exact aN _ _
 have ln:bG [.loc st.length] s1=.ok (.int ((W.length:Nat):Int)) s1:=by rw[gu i1,Vt]
 have run:PM.c5=gk 2 5 (ay (aB 2 (xR (aT (jb aO (qs "-"))) (qs "-") (qs "+"))) (ay (aB 3 (eI (xR (aT (ah cG bH (qs "-"))) (cJ aO (ba bA) a!) aO) (qs " "))) (ay (cU (aT (ah cG (ah bf (aj bG (ae ck ak)) fP) bX)) (fT "NotWritten" (ae (qs "terms have a sign between each two, and blanks only round it") ak)) aJ) (ay (aB 4 (ah aQ (bq (ae bH ak)) (fY ck bA fP))) (aP (mf 2 [0] (rE true true (ae fC (ae (il ck fP) ak))) (gN [(aA 0),(aA 1)]) cT P_)))))):=rfl;have tz:aT (ah cG (ah bf (aj bG (ae ck ak)) fP) bX) [qN af, qS x, qS (cV x), qL st.length, qn] s1=.ok (decide (W.length % 2=0)) s1:=by
  have l:aj bG (ae ck ak) [qN af, qS x, qS (cV x), qL st.length, qn] s1=.ok (.int ((W.length:Nat):Int)) s1:=by rw[aI (d0 (v:=.loc st.length) (s1:=s1) rfl)];exact ln
  have m:ah bf (aj bG (ae ck ak)) fP [qN af, qS x, qS (cV x), qL st.length, qn] s1=.ok (.int (((W.length:Nat):Int).fmod 2)) s1:=by rw[aH l (y:=.int 2) (s2:=s1) rfl];exact cZ (by decide)
  refine bu ?_;rw[iJ m];have:((((W.length:Nat):Int).fmod 2)==0)=decide (W.length % 2=0):=by
   rw[WJ _ (by decide)];by_cases z:W.length % 2=0
   .rw[VA z];have:((W.length:Nat):Int) % 2=0:=by lia
    rw[this];rfl
   .rw[VE z];exact WD (by lia)
  rw[this]
 have hd:∀r,(ay (cU (aT (ah cG (ah bf (aj bG (ae ck ak)) fP) bX)) (fT "NotWritten" (ae (qs "terms have a sign between each two, and blanks only round it") ak)) aJ) (ay (aB 4 (ah aQ (bq (ae bH ak)) (fY ck bA fP))) (aP (mf 2 [0] (rE true true (ae fC (ae (il ck fP) ak))) (gN [(aA 0),(aA 1)]) cT P_))) [qN af, qS x, qS (cV x), qL st.length, qn] s1).fin=r->PM.c5 [.int (af:Int),.str x] st=r:=fun r hr=>by rw[run,aY (np:=2) (us:=[.int (af:Int),.str x]) rfl];show(ay (aB 2 _) _ [qN af, qS x, qn, qn, qn] st).fin=_;rw[av,f2,ax,av,f3,ax,hr]
 unfold sU;rw[<-hW];by_cases hz:W.length % 2=0
 .rw[Vs hz];rw[VA hz]at tz;refine⟨[aG.lst (W.map .str)],hd _ ?_⟩;rw[av,b6 tz,<-dI];rfl
 .rw[Vx hz];rw[VE hz]at tz;obtain⟨s2,fq⟩:∃s2,s2=s1++[aG.lst [.str (cV x)]]:=⟨_,rfl⟩
  have i2:aq s2 st.length=some (W.map .str):=by rw[fq];exact aC i1 _
  obtain⟨s3,iS⟩:∃s3,s3=s2++[aG.lst ((f? W 1 2).map .str)]:=⟨_,rfl⟩
  have lF:=yo W 1 (k:=2) (by decide);obtain⟨s4,vA⟩:∃s4,s4=s3++[aG.lst ((cV x::f? W 1 2).map .str)]:=⟨_,rfl⟩
  have f4:aB 4 (ah aQ (bq (ae bH ak)) (fY ck bA fP)) [qN af, qS x, qS (cV x), qL st.length, qn] s1=.nx [qN af, qS x, qS (cV x), qL st.length, qL s3.length] s4:=by
   have l:bq (ae bH ak) [qN af, qS x, qS (cV x), qL st.length, qn] s1=.ok (.loc s1.length) s2:=by rw[fq];exact eO (vs:=[.str (cV x)]) (s1:=s1) rfl (by show 1<=1000;decide)
   have f:fY ck bA fP [qN af, qS x, qS (cV x), qL st.length, qn] s2=.ok (.loc s2.length) s3:=by rw[DN (n:=st.length) (i:=1) (k:=2) (s1:=s2) rfl rfl rfl i2 (by decide) (by decide),Hw,iS]
   have a1:s3[s1.length]?=some (.lst [.str (cV x)]):=by rw[iS];exact d_ (by rw[fq];exact d8 _ _) _
   have a2:s3[s2.length]?=some (.lst ((f? W 1 2).map .str)):=by rw[iS];exact d8 _ _
   have ad:ah aQ (bq (ae bH ak)) (fY ck bA fP) [qN af, qS x, qS (cV x), qL st.length, qn] s1=.ok (.loc s3.length) s4:=by rw[aH l f,l_ a1 a2 (by rw[Vt];show 1+_<=_;lia),vA];rfl
   rw[bw ad];rfl
  have i4:aq s4 st.length=some (W.map .str):=by rw[vA,iS];exact aC (aC i2 _) _
  have j4:aq s4 s3.length=some ((cV x::f? W 1 2).map .str):=by rw[vA];exact aN _ _
  obtain⟨s5,uD⟩:∃s5,s5=s4++[aG.lst ((gx W 2).map .str)]:=⟨_,rfl⟩
  have sd:il ck fP [qN af, qS x, qS (cV x), qL st.length, qL s3.length] s4=.ok (.loc s4.length) s5:=by rw[He (n:=st.length) (k:=2) (s1:=s4) rfl rfl i4 (by decide),Hv,uD]
  have i5:aq s5 s3.length=some ((cV x::f? W 1 2).map .str):=by rw[uD];exact aC j4 _
  have j5:aq s5 s4.length=some ((gx W 2).map .str):=by rw[uD];exact aN _ _
  have it:rE true true (ae fC (ae (il ck fP) ak)) [qN af, qS x, qS (cV x), qL st.length, qL s3.length] s4=.ok (((cV x::f? W 1 2).zip (gx W 2)).map fun z=>aw.tup [.str z.1,.str z.2],fun st2=>aq st2 s3.length=some ((cV x::f? W 1 2).map .str)/\aq st2 s4.length=some ((gx W 2).map .str)) s5:=by rw[Ot,gg (v:=.loc s3.length) (s1:=s4) rfl sd,au,OC i5 j5,yK]
  have zl:((cV x::f? W 1 2).zip (gx W 2)).length<=sizeLine:=by rw[XG,Vo];lia
  obtain⟨g,e⟩:=yI (af:=af) (g:=fun st2=>aq st2 s3.length=some ((cV x::f? W 1 2).map .str)/\aq st2 s4.length=some ((gx W 2).map .str)) h1 hm (fun s more h=>⟨aC h.1 _,aC h.2 _⟩) ((cV x::f? W 1 2).zip (gx W 2)) none none s5 [] (fun z hz=>by
   have S2:z.2∈W:=yL (X! hz).2;exact⟨spa z.2 S2,hw z.2 (hW▸S2)⟩) ⟨i5,j5⟩
  have cx:=Sk (k:=2) (caps:=[0]) (a:=gN [(aA 0),(aA 1)]) (c:=cT) (e:=P_) it (by rw[Vt];exact zl);have Ej:j! 2 [0] [some (aw.int (af:Int)), qS x, qS (cV x), qL st.length, qL s3.length]=[qn, qn, qN af]:=rfl;rw[Ej,e]at cx;have es:∀g':ao,s5++g'=st++([aG.lst (W.map .str)]++[aG.lst [.str (cV x)]]++[aG.lst ((f? W 1 2).map .str)]++[aG.lst ((cV x::f? W 1 2).map .str)]++[aG.lst ((gx W 2).map .str)]++g'):=fun g'=>by rw[uD,vA,iS,fq,dI];simp only[Vy]
  cases hr:iM af ((cV x::f? W 1 2).zip (gx W 2)) with
  |none=>
   rw[hr]at cx;obtain⟨g',iR⟩:∃g',s5++g=st++g':=⟨_,es g⟩
   refine⟨g',hd _ ?_⟩;rw[av,cI tz,ax,av,f4,ax,aL,cx,<-iR];rfl
  |some P=>
   rw[hr]at cx;obtain⟨g',iR⟩:∃g',s5++g++[aG.lst (P.map tV)]=st++g':=⟨_,by rw[Vy,es]⟩
   refine⟨g',(s5++g).length,hd _ ?_,?_⟩
   .rw[av,cI tz,ax,av,f4,ax,aL,cx,<-iR];rfl
   .rw[<-iR];exact aN _ _
theorem Cg(hr:fR r=true)(h1:1<=af)(hm:af<=4)(hx:asc x)(hl:x.length<=100000)(hw:∀w∈b7 x,w.length<=640)(hQ:∀Q,sU af x=some Q->Q.length<64/\(∀t∈Q,Good af t)/\(bI r (b9 Q)).length<=400/\∀t∈bI r (b9 Q),Wr t)(st:ao):
  match sU af x with
  |none=>∃g,PM.bZ [.int r,.int (af:Int),.str x] st=.err "NotWritten" (st++g)
  |some Q=>if aR (bI r (b9 Q))=x then ∃g k,PM.bZ [.int r,.int (af:Int),.str x] st=.ok (.loc k) (st++g)/\st.length<=k/\(st++g)[k]?=some (.lst ((bI r (b9 Q)).map tV))else ∃g,PM.bZ [.int r,.int (af:Int),.str x] st=.err "NotWritten" (st++g):=by
 obtain⟨g1,cr⟩:=jl hr st;obtain⟨s1,dI⟩:∃s1,s1=st++g1:=⟨_,rfl⟩
 rw[<-dI]at cr;have cu:=jc h1 hm s1;have pw:=Hx h1 hm hx hl hw s1;cases hp:sU af x with
 |none=>
  rw[hp]at pw;obtain⟨g2,e⟩:=pw;refine⟨g1++g2,?_⟩;rw[<-Vy,<-dI];simp only[PM.bZ,aY,au,qv,az,qw,ax,rP,rQ,bE,aZ,Aj,bS,aW,bU,av,fA,eB,b_,e8,cN,Vp,VO,VH,VG,VT,VF,Nat.reduceSub,Vo,VI,Nat.reduceAdd,cr,cu,e]
 |some Q=>
  rw[hp]at pw;obtain⟨q1,q2,q3,q4⟩:=hQ Q hp;obtain⟨g2,n,e,ei⟩:=pw;obtain⟨s2,fq⟩:∃s2,s2=s1++g2:=⟨_,rfl⟩
  rw[<-fq]at e ei;obtain⟨g3,k,md,hk,mk⟩:=KN hr ei q1 q2 h1 hm;obtain⟨s3,iS⟩:∃s3,s3=s2++g3:=⟨_,rfl⟩
  rw[<-iS]at md mk;obtain⟨g4,sh⟩:=Hh (dU mk) q3 q4;obtain⟨P,hP⟩:∃P,P=bI r (b9 Q):=⟨_,rfl⟩
  rw[<-hP]at mk sh;dsimp only;rw[<-hP];have es:s3++g4=st++(g1++g2++g3++g4):=by rw[iS,fq,dI];simp only[Vy]
  by_cases hz:aR P=x
  .rw[Vs hz];have ne:(!((aR P:Str)==x))=false:=by rw[str_beq,VA hz];rfl
   refine⟨g1++g2++g3++g4,k,?_,?_,?_⟩
   .rw[<-es];simp only[PM.bZ,aY,au,az,ax,bQ,a8,bR,a7,bE,aZ,Aj,cH,cE,hJ,bj,bh,bS,aW,bU,av,c8,fA,aL,bF,eB,vg,b_,e8,lN,cN,Vp,VO,VH,VG,VT,VF,V1,V?,Nat.reduceSub,Vo,VI,Nat.reduceAdd,cr,cu,e,md,sh,ne]
   .have:s2.length=st.length+g1.length+g2.length:=by rw[fq,dI,Vz,Vz]
    lia
   .rw[<-es];exact d_ mk g4
  .rw[Vx hz];have ne:(!((aR P:Str)==x))=true:=by rw[str_beq,VE hz];rfl
   refine⟨g1++g2++g3++g4,?_⟩;rw[<-es];simp only[PM.bZ,aY,au,az,ax,rP,rQ,a8,bR,a7,bE,aZ,Aj,dD,hJ,qy,cY,bj,bh,bS,aW,bU,av,fA,bF,eB,m9,vg,b_,e8,lN,cN,Vp,VO,VH,VG,VT,VF,V1,V?,Nat.reduceSub,Vo,VI,Nat.reduceAdd,VN,Nat.reduceLeDiff,↓reduceIte,cr,cu,e,md,sh,ne]
def sW(i:Nat):Nat:=[120,121,122,119].getD i 0
theorem AO(h:i<4):cl (jV i)=[sW i]:=by
 rcases i with _|_|_|_|i
 .decide +kernel
 .decide +kernel
 .decide +kernel
 .decide +kernel
 .lia
theorem wO(h:i<4):119<=sW i/\sW i<=122:=by
 rcases i with _|_|_|_|i
 .decide
 .decide
 .decide
 .decide
 .lia
theorem nE(h:i<4)(e:Int):cl (mO i e)=if e=1 then[sW i]else sW i::94::cl (bM e):=by
 unfold mO;split
 .exact AO h
 .have e1:cl ("^":Str)=[94]:=by decide +kernel
  unfold DB;rw[fJ,fJ,AO h,e1];rfl
theorem gJ{n:Int}(h:0<=n):(∀c∈cl (bM n),48<=c/\c<=57)/\cl (bM n)≠[]:=by obtain⟨m,rfl⟩:=X7 h;exact⟨AD m,OY m⟩
theorem qD{n:Int}(h:0<=n):ir (bM n)=true:=by
 obtain⟨h1,h2⟩:=gJ h;unfold ir;rw[V4];refine⟨VA ?_,Wa.mpr fun c hc=>?_⟩
 .rw[<-a_];exact Xs.mpr h2
 .obtain⟨q1,q2⟩:=h1 c hc;unfold jX;rw[VA q1,VA q2];rfl
theorem nF{n:Int}(h:0<=n):jY (bM n)=n:=by obtain⟨m,rfl⟩:=X7 h;unfold jY bM;rw[AB,W.KIN.val_back]
theorem nG{e:Int}(h:0<=e):(bM e).length<=2↔e<=99:=by
 constructor
 .intro hl;have z:=mr (cl (bM e)) 0 (gJ h).1;rw[V_,XW,a_]at z;have v:=nF h;unfold jY PySem.NumText.digitsVal at v;have p:(10:Nat) ^ (bM e).length<=10 ^ 2:=Wf (by decide) hl;have p2:(10:Nat) ^ 2=100:=by decide
  lia
 .intro hl;exact Wz h (by decide) (by lia)
theorem Hy(h:i<4)(e:Int):ir (mO i e)=false:=by
 have r:=wO h;have hd:jX (sW i)=false:=by unfold jX;rw[VE (by lia:¬ sW i<=57),Y6]
 unfold ir;rw[nE h];split<;>simp[hd]
theorem K6(h:i<4)(e:Int):jd (mO i e)=jV i:=fh (by
 unfold jd;rw[mn,nE h,AO h];split<;>rfl)
theorem K7(h:i<4)(e:Int):cl (cQ (mO i e))=if e=1 then[]else 94::cl (bM e):=by unfold cQ;rw[iH,nE h];split<;>rfl
theorem O?(h:i<4){e:Int}(h0:1<=e):uE (cQ (mO i e))=if e<=99 then some e else none:=by
 have t:=K7 h e;unfold uE;by_cases h1:e=1
 .rw[Vs h1]at t;rw[Vs (fh (by rw[t];decide +kernel)),Vs (by lia),h1]
 .rw[Vx h1]at t;have ne:cQ (mO i e) ≠ "":=fun z=>by
   rw[z]at t;have e0:cl ("":Str)=[]:=by decide +kernel
   rw[e0]at t;cases t
  have tt:cQ (cQ (mO i e))=bM e:=fh (by
   show cl (Txt.slice (cQ (mO i e)) (some 1) none)=_;rw[iH,t];rfl)
  rw[Vx ne,tt,qD (by lia),nF (by lia)];have hd:(cl (cQ (mO i e))).head?=some 94:=by rw[t];rfl
  by_cases h9:e<=99
  .rw[Vs ⟨hd,rfl,(nG (by lia)).mpr h9⟩,Vs h9]
  .rw[Vx fun z=>h9 ((nG (by lia)).mp z.2.2),Vx h9]
theorem DP:∀m:Fin 5,∀i:Fin 4,i.val<m.val->jq (List.range m.val) (jV i.val)=some i.val:=by decide +kernel
theorem O'(hm:af<=4)(hi:i<af)(a:bg){e:Int}(h0:1<=e):sS af a (mO i e)=if e<=99 then some (a.1.set i e,a.2)else none:=by
 have h4:i<4:=by lia
 have lp:=DP ⟨af,by lia⟩ ⟨i,h4⟩ hi;unfold sS;rw[Hy h4,Vx VC,O? h4 h0,K6 h4];dsimp only at lp;rw[lp];split
 .rename_i h;split at h
  .cases h;rename_i h9;rw[Vs h9]
  .cases h
 .rename_i h;split at h
  .cases h
  .rename_i h9;rw[Vx h9]
theorem yM{af:Nat}(hm:af<=4):∀(es pre:_m)(n:Int),pre.length+es.length=af->(∀e∈es,0<=e)->kE af (pre++List.replicate es.length 0,n) (bz pre.length es)=if(∀e∈es,e<=99)then some (pre++es,n)else none
 |[],pre,n,_,_=>by rw[Vs (fun e he=>by cases he)];rfl
 |e::es,pre,n,hl,hr=>by
  have hl':pre.length+(es.length+1)=af:=hl;have h0:=hr e Vu;have ih:=fun x=>yM hm es (pre++[x]) n (by rw[Vz,WG];lia) fun y hy=>hr y (Vq _ hy);have lp:∀x:Int,(pre++[x]).length=pre.length+1:=fun x=>by rw[Vz,WG]
  have e1:pre++List.replicate (e::es).length (0:Int)=pre++[0]++List.replicate es.length 0:=by rw[Vo,VT,Vy];rfl
  unfold bz;by_cases z:e=0
  .have i0:=ih 0;rw[lp]at i0;rw[Vs z,e1,i0];subst z;by_cases h:∀x∈es,x<=99
   .rw[Vs h,Vs (fun x hx=>by
     rcases VJ.mp hx with rfl|hx
     .decide
     .exact h x hx),Vy]
    rfl
   .rw[Vx h,Vx fun k=>h fun x hx=>k x (Vq _ hx)]
  .rw[Vx z];unfold kE;rw[O' hm (by lia) _ (by lia)];by_cases h9:e<=99
   .rw[Vs h9];dsimp only;have e2:(pre++List.replicate (e::es).length (0:Int)).set pre.length e=pre++[e]++List.replicate es.length 0:=by rw[WR _ _ (Vv _),Wy,Vo,VT,Vy];rfl
    have ie:=ih e;rw[lp]at ie;rw[e2,ie];by_cases h:∀x∈es,x<=99
    .rw[Vs h,Vs (fun x hx=>by
      rcases VJ.mp hx with rfl|hx
      .exact h9
      .exact h x hx),Vy]
     rfl
    .rw[Vx h,Vx fun k=>h fun x hx=>k x (Vq _ hx)]
   .rw[Vx h9,Vx fun k=>h9 (k e Vu)]
def okN(c:Nat):Prop:=(48<=c/\c<=57)\/(119<=c/\c<=122)\/c=94
theorem sX:∀(es:_m)(k:Nat),k+es.length<=4->(∀e∈es,0<=e)->∀f∈bz k es,∀c∈cl f,okN c
 |[],_,_,_,f,hf=>by cases hf
 |e::es,k,hk,hr,f,hf=>by
  have KL:k+(es.length+1)<=4:=hk;have ih:=sX es (k+1) (by lia) fun y hy=>hr y (Vq _ hy);unfold bz at hf;split at hf
  .exact ih f hf
  .rcases VJ.mp hf with rfl|hf
   .intro c hc;rw[nE (by lia)]at hc;have r:=wO (i:=k) (by lia);split at hc
    .rw[VZ]at hc;rw[hc];exact .inr (.inl r)
    .rcases VJ.mp hc with rfl|hc
     .exact .inr (.inl r)
     .rcases VJ.mp hc with rfl|hc
      .exact .inr (.inr rfl)
      .exact .inl ((gJ (hr e Vu)).1 c hc)
   .exact ih f hf
theorem oP{t:_m}{n:Int}(hl:t.length<=4)(hr:∀e∈t,0<=e)(hn:0<=n):∀f∈dJ t n,∀c∈cl f,okN c:=by
 intro f hf;unfold dJ at hf;split at hf
 .exact sX t 0 (by lia) hr f hf
 .rcases VJ.mp hf with rfl|hf
  .exact fun c hc=>.inl ((gJ hn).1 c hc)
  .exact sX t 0 (by lia) hr f hf
theorem wQ(t:_m)(n:Int):dJ t n≠[]:=by
 unfold dJ;split
 .rename_i h;exact h.2
 .simp
theorem DQ(hm:af<=4){t:_m}{n:Int}{sg:Str}(hs:sg = "+" \/ sg = "-")(hl:t.length=af)(hr:∀e∈t,0<=e)(hn:0<=n):pairF af sg (cq t n)=if(∀e∈t,e<=99)then some (t,(if sg = "-" then -1 else 1)*n)else none:=by
 have sp:Txt.split (cq t n) "*" = dJ t n:=mm (c:=42) (wQ t n) fun f hf hc=>by have:=oP (by lia) hr hn f hf 42 hc;unfold okN at this;lia
 have fp:=fun n0=>yM hm t [] n0 (by simpa using hl) hr;unfold pairF;rw[Vs hs,sp];have rp:List.replicate af (0:Int)=[]++List.replicate t.length 0:=by rw[hl];rfl
 generalize (if sg = "-" then(-1:Int)else 1)=n0;unfold dJ;by_cases h:n=1/\bz 0 t≠[]
 .rw[Vs h];have f1:=fp n0;rw[<-rp]at f1;rw[show bz 0 t=bz ([]:_m).length t from rfl,f1,h.1,Int.mul_one];rfl
 .rw[Vx h];have f1:=fp (n0*n);rw[<-rp]at f1;unfold kE;have ff:sS af (List.replicate af 0,n0) (bM n)=some (List.replicate af 0,n0*n):=by unfold sS;rw[Vs (qD hn),nF hn]
  rw[ff];dsimp only;rw[show bz 0 t=bz ([]:_m).length t from rfl,f1];rfl
def DR{α:Type}:List α->List α
 |[]=>[]
 |[a]=>[a]
 |a::_::r=>a::DR r
theorem oQ{α:Type}:∀xs:List α,(List.range ((xs.length+1) / 2)).filterMap (fun k=>xs[2*k]?)=DR xs
 |[]=>by simp[DR]
 |[a]=>by simp[DR,List.range_succ]
 |a::b::r=>by
  have e:(((a::b::r).length+1) / 2)=(r.length+1) / 2+1:=by rw[Vo,Vo];lia
  rw[e,Zo,WO];show a::_=a::DR r;rw[<-oQ r,Yt];congr 1
theorem yN(xs:List α):gx xs 2=DR xs:=by
 rw[<-oQ];unfold gx;have e:sliceRange 0 (xs.length:Int) 2=(List.range ((xs.length+1) / 2)).map fun k=>2*k:=by
  unfold sliceRange;have c:(if(2:Int)>0 then(if(0:Int)<(xs.length:Int) then((xs.length:Int)-0+2-1) / 2 else 0) else(if(0:Int)>(xs.length:Int) then(0-(xs.length:Int)-2-1) / (-2)else 0)).toNat=(xs.length+1) / 2:=by rw[Vs (by decide)];split<;>lia
  dsimp only;rw[c];refine WB fun k _=>?_;lia
 rw[e,Yt];rfl
theorem Hz(a:α)(xs:List α):f? (a::xs) 1 2=DR xs:=by
 rw[<-oQ];unfold f?;have e:sliceRange (max 0 (min 1 ((a::xs).length:Int))) ((a::xs).length:Int) 2=(List.range ((xs.length+1) / 2)).map fun k=>2*k+1:=by
  have s1:max 0 (min 1 ((a::xs).length:Int))=1:=by rw[Vo];lia
  rw[s1];unfold sliceRange;have c:(if(2:Int)>0 then(if(1:Int)<((a::xs).length:Int) then(((a::xs).length:Int)-1+2-1) / 2 else 0) else(if(1:Int)>((a::xs).length:Int) then(1-((a::xs).length:Int)-2-1) / (-2)else 0)).toNat=(xs.length+1) / 2:=by rw[Vs (by decide),Vo];split<;>lia
  dsimp only;rw[c];refine WB fun k _=>?_;lia
 rw[e,Yt];refine W! (fun f=>List.filterMap f (List.range ((xs.length+1) / 2))) (funext fun k=>?_);show(a::xs)[2*k+1]?=xs[2*k]?;rfl
def nS(n:Int):Str:=if n<0 then "-" else "+"
def gD(t:bg):Str:=cq t.1 (cg t.2)
def p6:List bg->_q
 |[]=>[]
 |t::Q=>nS t.2::gD t::p6 Q
theorem Ci:∀(a:Str)(Q:List bg),DR (a::p6 Q)=a::Q.map gD
 |a,[]=>rfl
 |a,t::Q=>by show a::DR (gD t::p6 Q)=a::gD t::Q.map gD;rw[Ci (gD t) Q]
theorem Cj:∀Q:List bg,DR (p6 Q)=Q.map fun t=>nS t.2
 |[]=>rfl
 |[t]=>rfl
 |t::u::Q=>by show nS t.2::DR (p6 (u::Q))=_;rw[Cj (u::Q)];rfl
theorem Ck:∀Q:List bg,(p6 Q).length=2*Q.length
 |[]=>rfl
 |t::Q=>by show(p6 Q).length+1+1=2*(Q.length+1);rw[Ck Q];lia
theorem HA(n:Int):cl (dn false n)=32::cl (nS n)++[32]/\(cl (nS n)=[45]\/cl (nS n)=[43]):=by
 unfold dn nS;rw[Vx VC];split
 .exact⟨by decide +kernel,.inl (by decide +kernel)⟩
 .exact⟨by decide +kernel,.inr (by decide +kernel)⟩
theorem Cm:∀(Q:List bg)(a:Str),cl (Txt.join "" (a::dA false Q))=jn 32 ((a::p6 Q).map cl)
 |[],a=>by rw[jW];simp[dA,p6,jn]
 |t::Q,a=>by have ih:=Cm Q (gD t);rw[jW]at ih⊢;show cl a++(cl (dn false t.2)++((gD t::dA false Q).map cl).flatten)=cl a++32::(cl (nS t.2)++32::jn 32 ((gD t::p6 Q).map cl));rw[ih,(HA t.2).1];simp
theorem qE(hl:t.1.length<=4)(hr:∀e∈t.1,0<=e):(∀c∈cl (gD t),okN c\/c=42)/\∃c r,cl (gD t)=c::r/\okN c:=by
 have fs:=oP hl hr (e9 t.2);have fn:=wQ t.1 (cg t.2);have e:cl (gD t)=jn 42 ((dJ t.1 (cg t.2)).map cl):=gI 42 _;have nz:∀f∈dJ t.1 (cg t.2),cl f≠[]:=by
  intro f hf;unfold dJ at hf;have pn:∀(es:_m)(k:Nat),k+es.length<=4->∀f∈bz k es,cl f≠[]:=by
   intro es
   induction es with
   |nil=>intro k _ f hf;cases hf
   |cons e es ih=>
    intro k hk f hf;have KL:k+(es.length+1)<=4:=hk;unfold bz at hf;split at hf
    .exact ih (k+1) (by lia) f hf
    .rcases VJ.mp hf with rfl|hf
     .rw[nE (by lia)];split<;>simp
     .exact ih (k+1) (by lia) f hf
  split at hf
  .exact pn t.1 0 (by lia) f hf
  .rcases VJ.mp hf with rfl|hf
   .exact(gJ (e9 t.2)).2
   .exact pn t.1 0 (by lia) f hf
 rw[e];generalize dJ t.1 (cg t.2)=F at fs fn nz;constructor
 .clear fn nz e
  induction F with
  |nil=>intro c hc;cases hc
  |cons a F ih=>
   cases F with
   |nil=>
    intro c hc;exact .inl (fs a Vu c hc)
   |cons b F=>
    intro c hc;have d4:c∈cl a++42::jn 42 ((b::F).map cl):=hc;rcases We.mp d4 with h|h
    .exact .inl (fs a Vu c h)
    .rcases VJ.mp h with h|h
     .exact .inr h
     .exact ih (fun f hf=>fs f (Vq _ hf)) c h
 .cases F with
  |nil=>exact absurd rfl fn
  |cons a F=>
   have na:=nz a Vu;cases ha:cl a with
   |nil=>exact absurd ha na
   |cons c r=>
    have oc:okN c:=fs a Vu c (by rw[ha];exact Vu);cases F with
    |nil=>exact⟨c,r,ha,oc⟩
    |cons b F=>
     refine⟨c,r++42::jn 42 ((b::F).map cl),?_,oc⟩;show cl a++_=_;rw[ha];rfl
theorem wU:∀{Q:List bg}{w:Str},w∈p6 Q->(∃t∈Q,w=gD t)\/(∃n,w=nS n)
 |t::Q,w,h=>by
  rcases VJ.mp h with rfl|h
  .exact .inr ⟨_,rfl⟩
  .rcases VJ.mp h with rfl|h
   .exact .inl ⟨t,Vu,rfl⟩
   .rcases wU h with⟨u,hu,e⟩|e
    .exact .inl ⟨u,Vq _ hu,e⟩
    .exact .inr e
theorem gU{Q:List bg}(hl:∀u∈t::Q,u.1.length<=4/\∀e∈u.1,0<=e):cV (aR (t::Q))=nS t.2/\b7 (aR (t::Q))=gD t::p6 Q/\asc (aR (t::Q)):=by
 obtain⟨l1,l2⟩:=hl t Vu;obtain⟨_,c,r,hc,oc⟩:=qE l1 l2;have eS:aR (t::Q)=Txt.join "" (dn true t.2::gD t::dA false Q):=by unfold aR;rw[Vx (by simp)];rfl
 have bc:=Cm Q (gD t);have xc:cl (aR (t::Q))=cl (dn true t.2)++jn 32 ((gD t::p6 Q).map cl):=by rw[eS,jW,Vp,Wu,<-bc,jW]
 have hd:∃r',jn 32 ((gD t::p6 Q).map cl)=c::r':=by
  cases hw:p6 Q with
  |nil=>exact⟨r,hc⟩
  |cons w W=>
   refine⟨r++32::jn 32 ((w::W).map cl),?_⟩;show cl (gD t)++_=_;rw[hc];rfl
 obtain⟨r',Tq⟩:=hd;have st:Txt.startswith (aR (t::Q)) "-" = decide (t.2<0)/\cl (e! (aR (t::Q)))=jn 32 ((gD t::p6 Q).map cl):=by
  have so:Txt.startswith (aR (t::Q)) "-" = ((cl (aR (t::Q))).take 1==[45]):=sE _ 45;unfold e!;rw[so,xc];unfold dn;rw[Vs rfl];by_cases h:t.2<0
  .have e1:cl ("-":Str)=[45]:=by decide +kernel
   rw[Vs h,e1,VA h];refine⟨by simp,?_⟩;rw[Vs (by simp)];show cl (Txt.slice (aR (t::Q)) (some 1) none)=_;rw[iH,xc];unfold dn;rw[Vs rfl,Vs h,e1];rfl
  .have e1:cl ("":Str)=[]:=by decide +kernel
   rw[Vx h,e1,VE h,VG,Tq];have ne:((c::r').take 1==[45])=false:=by show([c]==[45])=false;refine WD fun z=>?_;injection z with z _;unfold okN at oc;lia
   refine⟨ne,?_⟩;rw[ne,Vx VC,xc];unfold dn;rw[Vs rfl,Vx h,e1,VG,Tq]
 have free:∀w∈gD t::p6 Q,∀x∈cl w,okN x\/x=42\/x=43\/x=45:=by
  intro w hw x hx;rcases VJ.mp hw with rfl|hw
  .rcases(qE l1 l2).1 x hx with z|z
   .exact .inl z
   .exact .inr (.inl z)
  .rcases wU hw with⟨u,hu,rfl⟩|⟨n,rfl⟩
   .obtain⟨k1,k2⟩:=hl u (Vq _ hu);rcases(qE k1 k2).1 x hx with z|z
    .exact .inl z
    .exact .inr (.inl z)
   .rcases(HA n).2 with z|z
    .rw[z]at hx;exact .inr (.inr (.inr (VZ.mp hx)))
    .rw[z]at hx;exact .inr (.inr (.inl (VZ.mp hx)))
 refine⟨?_,?_,?_⟩
 .unfold cV nS;rw[st.1];by_cases h:t.2<0
  .rw[VA h,Vs rfl,Vs h]
  .rw[VE h,Vx VC,Vx h]
 .have eb:e! (aR (t::Q))=Txt.join ⟨#[32]⟩ (gD t::p6 Q):=fh (by rw[st.2,gI]);unfold b7;rw[eb];refine mm (c:=32) (by simp) fun w hw hc=>?_;have:=free w hw 32 hc;unfold okN at this;lia
 .intro x hx;rw[xc]at hx;rcases We.mp hx with hx|hx
  .have:cl (dn true t.2)=[45]\/cl (dn true t.2)=[]:=by
    unfold dn;rw[Vs rfl];split
    .exact .inl (by decide +kernel)
    .exact .inr (by decide +kernel)
   rcases this with z|z
   .rw[z]at hx;rw[VZ.mp hx];decide
   .rw[z]at hx;cases hx
  .have jm:∀(W:_q)(x:Nat),x∈jn 32 (W.map cl)->x=32\/∃w∈W,x∈cl w:=by
    intro W
    induction W with
    |nil=>intro x hx;cases hx
    |cons a W ih=>
     intro x hx;cases W with
     |nil=>exact .inr ⟨a,Vu,hx⟩
     |cons b W=>
      have hx':x∈cl a++32::jn 32 ((b::W).map cl):=hx;rcases We.mp hx' with h|h
      .exact .inr ⟨a,Vu,h⟩
      .rcases VJ.mp h with h|h
       .exact .inl h
       .rcases ih x h with z|⟨w,hw,z⟩
        .exact .inl z
        .exact .inr ⟨w,Vq _ hw,z⟩
   rcases jm _ x hx with z|⟨w,hw,z⟩
   .lia
   .have:=free w hw x z;unfold okN at this;lia
theorem pQ{af:Nat}(hm:af<=4):∀P:List bg,(∀t∈P,t.1.length=af/\∀e∈t.1,0<=e)->iM af (P.map fun t=>(nS t.2,gD t))=if(∀t∈P,∀e∈t.1,e<=99)then some P else none
 |[],_=>by rw[Vs (fun t ht=>by cases ht)];rfl
 |t::P,h=>by
  obtain⟨h1,h2⟩:=h t Vu;have ih:=pQ hm P fun u hu=>h u (Vq _ hu);have hs:nS t.2 = "+" \/ nS t.2 = "-":=by
   unfold nS;split
   .exact .inr rfl
   .exact .inl rfl
  have pt:=DQ hm hs h1 h2 (e9 t.2);have en:(if nS t.2 = "-" then(-1:Int)else 1)*cg t.2=t.2:=by
   unfold nS cg;by_cases z:t.2<0
   .rw[Vs z,Vs z,Vs rfl];lia
   .have ne:¬ (("+":Str) = "-"):=by decide
    rw[Vx z,Vx z,Vx ne];lia
  rw[en]at pt;rw[Vp];unfold iM;show(match pairF af (nS t.2) (cq t.1 (cg t.2)) with|some c=>_|none=>none)=_;rw[pt,ih];by_cases k1:∀e∈t.1,e<=99
  .rw[Vs k1];dsimp only;by_cases k2:∀u∈P,∀e∈u.1,e<=99
   .rw[Vs k2,Vs (fun u hu=>by
     rcases VJ.mp hu with rfl|hu
     .exact k1
     .exact k2 u hu)]
   .rw[Vx k2,Vx fun z=>k2 fun u hu=>z u (Vq _ hu)]
  .rw[Vx k1];dsimp only;rw[Vx (c:=∀u∈t::P,∀e∈u.1,e<=99) fun z=>k1 (z t Vu)]
theorem yO{α β γ:Type}(f:α->β)(g:α->γ):∀l:List α,(l.map f).zip (l.map g)=l.map fun x=>(f x,g x)
 |[]=>rfl
 |a::l=>by rw[Vp,Vp,List.zip_cons_cons,yO f g l,Vp]
theorem DS(hm:af<=4){Q:List bg}(h:∀u∈t::Q,u.1.length=af/\∀e∈u.1,0<=e):sU af (aR (t::Q))=if(∀u∈t::Q,∀e∈u.1,e<=99)then some (t::Q)else none:=by
 obtain⟨p1,p2,_⟩:=gU (t:=t) (Q:=Q) fun u hu=>⟨by have:=(h u hu).1;lia,(h u hu).2⟩
 unfold sU;rw[p1,p2,Hz,yN,Cj,Ci];have ln:¬ ((gD t::p6 Q).length % 2=0):=by rw[Vo,Ck];lia
 rw[Vx ln];have zp:(nS t.2::Q.map fun u=>nS u.2).zip (gD t::Q.map gD)=(t::Q).map fun u=>(nS u.2,gD u):=by show(((t::Q).map fun u=>nS u.2).zip ((t::Q).map gD))=_;exact yO _ _ _
 rw[zp];exact pQ hm (t::Q) h
end PG
namespace PG
open PySem.Spec L2 MN
open PyProof.Rows hiding St kindOf
section
variable{M:J4}{p:Nat}{es pt:_m}
end
section
variable{p:Nat}{pt:_m}
end
section
variable{p a:Nat}{k:_m}
end
section
variable{p a:Nat}
end
theorem yP:∀(P A:List bg)(t:bg),t∈P.foldl gF A->(∃u∈A,t.1=u.1)\/∃u∈P,t.1=u.1
 |[],A,t,h=>.inl ⟨t,h,rfl⟩
 |x::P,A,t,h=>by
  rcases yP P (gF A x) t h with⟨u,hu,e⟩|⟨u,hu,e⟩
  .rcases sF hu with hu|hu
   .exact .inl ⟨u,hu,e⟩
   .exact .inr ⟨x,Vu ..,by rw[e,hu]⟩
  .exact .inr ⟨u,Vq _ hu,e⟩
theorem yQ{P:List bg}(h:t∈bI r (b9 P)):∃u∈P,t.1=u.1:=by
 obtain⟨q,hq,e,_⟩:=nA h;rcases yP P [] q hq with⟨u,hu,_⟩|⟨u,hu,e2⟩
 .cases hu
 .exact⟨u,hu,e.trans e2⟩
end PG
namespace OX
open PySem.Spec L2 MN PG TX
open PyProof.Rows hiding St kindOf
def Nb(n:Int):Prop:=-(10 ^ 57)<=n/\n<=10 ^ 57
theorem AQ{c:Int}(h:0<=c)(st:ao):∃r,PM.cK [.int c] st=.ok (.int r) st/\Nb r:=by
 have d7:Dz 7:=lG (by decide) (by decide);have d14:Dz 14:=lG (by decide) (by decide);have cp:EC 10 57:=by decide
 have tn:Int.toNat 57=57:=rfl;cases hz:c.fmod 7==0 with
 |true=>
  have q:=gT (m:=2) (by decide) (c.fdiv 7);have q2:=gT (m:=10 ^ 57) (by decide) (c.fdiv 14);refine⟨(1-(c.fdiv 7).fmod 2*2)*(c.fdiv 14).fmod (10 ^ 57),?_,?_⟩
  .have nz:¬ (10:Int) ^ 57=0:=by decide
   simp only[PM.cK,aY,au,az,fE,bQ,a8,bR,a7,cH,dD,cY,bj,bh,av,aL,bF,Ak,fQ,b_,Vp,VO,VH,VG,VF,Nat.reduceSub,Vo,VI,Nat.reduceAdd,cZ (j:=7) (by decide),hz,div_ii d7,div_ii d14,cZ (j:=2) (by decide),mul_r (j:=2) (by decide) (by decide),Ou cp,tn,cZ nz,ye (i:=1-(c.fdiv 7).fmod 2*2) (by lia) (by lia)]
  .have hs:1-(c.fdiv 7).fmod 2*2=1\/1-(c.fdiv 7).fmod 2*2 = -1:=by lia
   unfold Nb;rcases hs with e|e
   .rw[e,Zy];lia
   .rw[e,_h];lia
 |false=>
  cases hy:decide (c.fmod 7<3) with
  |true=>
   have q:=gT (m:=3) (by decide) (c.fdiv 7);refine⟨(c.fdiv 7).fmod 3-1,?_,?_⟩
   .simp only[PM.cK,aY,au,az,ax,fE,bQ,a8,bR,a7,cH,dD,cE,cY,bj,bh,av,c8,aL,bF,Ak,jy,fQ,b_,Vp,VO,VH,VG,VF,Nat.reduceSub,Vo,VI,Nat.reduceAdd,cZ (j:=7) (by decide),hz,hy,div_ii d7,cZ (j:=3) (by decide)]
   .unfold Nb;lia
  |false=>
   have q:=gT (m:=19) (by decide) (c.fdiv 7);refine⟨(c.fdiv 7).fmod 19-9,?_,?_⟩
   .simp only[PM.cK,aY,au,az,ax,bQ,a8,bR,a7,cH,cE,cY,bj,bh,av,c8,aL,bF,Ak,jy,fQ,b_,Vp,VO,VH,VG,VF,Nat.reduceSub,Vo,VI,Nat.reduceAdd,cZ (j:=7) (by decide),hz,hy,div_ii d7,cZ (j:=19) (by decide)]
   .unfold Nb;lia
abbrev Cn:MB:=ay (aB 6 (aj PM.d9 (ae (aj PM.aE (ae aD (ae L4 ak))) (ae bH ak)))) (cF (jk cL fC (ae (fO (ae jt (ae (aj PM.cK (ae (aj PM.aE (ae aD (ae (ah aQ L4 bA) ak))) ak)) ak))) ak)))
theorem HB{place size k:Int}{P:List bg}{s:ao}(h:aq s n=some (ns.map aw.int))(hq:s[q]?=some (.lst (P.map tV)))(p0:0<=place)(p1:place<=1000)(k0:0<=k)(k1:k<=1000)(hm:af<=4)(hl:P.length<=64):
  ∃g t y,Cn [qL n, qI place, qN af, qI size, qL q, qI k, y6] s=.nx [qL n, qI place, qN af, qI size, qL q, qI k, y] ((s++g).set q (.lst ((P++[t]).map tV)))/\Good af t/\Nb t.2:=by
 have pl:∀(s:ao)(y:Option aw),L4 [qL n, qI place, qN af, qI size, qL q, qI k, y] s=.ok (.int (place+2*k)) s:=fun s y=>by have a:ah dz fP eR [qL n, qI place, qN af, qI size, qL q, qI k, y] s=.ok (.int (2*k)) s:=ye (i:=2) (by decide) (by decide);unfold L4;rw[aH (x:=.int place) (s1:=s) rfl a];rfl
 obtain⟨o,ho,o0,_⟩:=wz (k:=place+2*k) h (by lia) (by lia);obtain⟨g,es,ee,le,re⟩:=oJ o hm s;have a1:aB 6 (aj PM.d9 (ae (aj PM.aE (ae aD (ae L4 ak))) (ae bH ak))) [qL n, qI place, qN af, qI size, qL q, qI k, y6] s=.nx [qL n, qI place, qN af, qI size, qL q, qI k, some (a9 es)] (s++g):=by
  refine bw (v:=a9 es) ?_;rw[aI (gg (v:=.int o) (s1:=s) (w:=.int (af:Int)) (s2:=s) ?_ rfl)]
  .exact ee
  .rw[aI (gg (v:=.loc n) (s1:=s) rfl (pl s y6))];exact ho
 have h2:=aC h g;obtain⟨o2,ER,o20,_⟩:=wz (k:=place+2*k+1) h2 (by lia) (by lia);obtain⟨r,hr,br⟩:=AQ o20 (s++g);have num:aj PM.cK (ae (aj PM.aE (ae aD (ae (ah aQ L4 bA) ak))) ak) [qL n, qI place, qN af, qI size, qL q, qI k, some (a9 es)] (s++g)=.ok (.int r) (s++g):=by
  have ad:ah aQ L4 bA [qL n, qI place, qN af, qI size, qL q, qI k, some (a9 es)] (s++g)=.ok (.int (place+2*k+1)) (s++g):=by rw[aH (pl (s++g) _) (y:=.int 1) (s2:=s++g) rfl];rfl
  rw[aI (d0 (v:=.int o2) (s1:=s++g) ?_)]
  .exact hr
  .rw[aI (gg (v:=.loc n) (s1:=s++g) rfl ad)];exact ER
 refine⟨g,(es,r),some (a9 es),?_,⟨le,re⟩,br⟩;have ap:=sN (o:=fC) (a:=ae (fO (ae jt (ae (aj PM.cK (ae (aj PM.aE (ae aD (ae (ah aQ L4 bA) ak))) ak)) ak))) ak) (v:=tV (es,r)) (μ:=[some (.loc n),some (.int place),some (.int (af:Int)),some (.int size),some (.loc q),some (.int k),some (a9 es)]) (s:=s++g) (n:=q) rfl (d_ hq g) (d0 (mq (gg (v:=a9 es) (s1:=s++g) rfl num) (by show 2<=1000;decide))) (d_ hq g) (by rw[Vt];lia);unfold Cn;rw[av,a1,ax,ap,Wh];rfl
theorem jr{size:Nat}{place:Int}(h:aq st n=some (ns.map aw.int))(p0:0<=place)(p1:place<=1000)(hm:af<=4)(hs:size<=60):
  ∃(g:ao)(P:List bg),PM.dq [.loc n,.int place,.int (af:Int),.int (size:Int)] st=.ok (.loc st.length) (st ++ .lst (P.map tV)::g)/\P.length=size/\∀t∈P,Good af t/\Nb t.2:=by
 obtain⟨μ',aF,e,P,g,lP,hP,rfl,y5,y6,rfl⟩:=et (g:=fun _=>True) (a:=aA 5) (body:=Cn)
  (fun i μ s'=>∃(P:List bg)(g:ao),P.length=i/\(∀t∈P,Good af t/\Nb t.2)/\s'=st ++ .lst (P.map tV)::g/\∃y5 y6,μ=[qL n, qI place, qN af, qN size, qL st.length, y5, y6])
  (bD 0 (size:Int).toNat) 0 [qL n, qI place, qN af, qN size, qL st.length, qn, qn] (st++[.lst []])
  (by
   rintro i u μ s' hu ⟨P,g,lP,hP,rfl,y5,y6,rfl⟩;refine⟨trivial,?_⟩;have oI:=hu;unfold bD at oI;rw[VV]at oI;have hi:i<(size:Int).toNat:=by
    rcases WC i (size:Int).toNat with q|q
    .exact q
    .rw[V8 (by rw[V9];exact q)]at oI;cases oI
   rw[VD (by rw[V9];exact hi),W']at oI;cases oI;have hi4:i<60:=by lia
   obtain⟨g2,t,y,eb,gt,bt⟩:=HB (size:=(size:Int)) (k:=0+(i:Int)) (y6:=y6) (aC h (.lst (P.map tV)::g)) (oz st _ g) p0 p1 (by lia) (by lia) hm (by lia);refine⟨_,rfl,_,_,.inl eb,P++[t],g++g2,by rw[Vz,lP];rfl,?_,?_,_,_,rfl⟩
   .intro x hx;rcases We.mp hx with hx|hx
    .exact hP x hx
    .rw[VZ.mp hx];exact⟨gt,bt⟩
   .rw[Vy];exact qA st _ _ _)
  (fun _ _ _=>trivial) ⟨[],[],rfl,fun _ h=>(by cases h),rfl,none,none,rfl⟩
 refine⟨g,P,?_,by rw[lP];unfold bD;rw[Vt,V9];lia,hP⟩;have a1:aB 4 (bq ak) [qL n, qI place, qN af, qN size, qn, qn, qn] st=.nx [qL n, qI place, qN af, qN size, qL st.length, qn, qn] (st++[.lst []]):=bw (eO (vs:=[]) rfl (VU _));have a5:cz (ae ck ak) [qL n, qI place, qN af, qN size, qL st.length, qn, qn] (st++[.lst []])=.ok (bD 0 (size:Int).toNat,fun _=>True) (st++[.lst []]):=sM rfl (by lia) (by lia);unfold PM.dq;rw[aY (np:=4) (us:=[aw.loc n,.int place,.int (af:Int),.int (size:Int)]) rfl];show(ay (aB 4 (bq ak)) (ay (dQ (cz (ae ck ak)) (aA 5) Cn) (aP fC)) [qL n, qI place, qN af, qN size, qn, qn, qn] st).fin=_;rw[av,a1,ax,av,fF,a5,az,gP,e,ax];rfl
theorem vB(hr:fR r=true)(n:Int):dM r (dM r n)=dM r n:=by
 rcases wK hr with rfl|⟨h,_⟩
 .rw[wJ,wJ]
 .rw[Hr (by lia),Hr (by lia),Int.emod_emod]
theorem iu(f:SO.gQ (D.map (·.1)))(h:∀t∈D,dM r t.2=t.2/\t.2≠0):bI r (b9 D)=D:=by
 rw[oM (gR f),oN f];unfold Sg;have e:(D.map fun t=>(t.1,dM r t.2))=D:=by
  have:(D.map fun t=>(t.1,dM r t.2))=D.map id:=WB fun t ht=>by show(t.1,dM r t.2)=t;rw[(h t ht).1]
  rw[this,Zu]
 rw[e];exact Xt.mpr fun t ht=>by simpa using(h t ht).2
theorem mw:∀m:Fin 5,1<=m.val->aR [(List.replicate m.val 0,0)] = "0":=by decide +kernel
theorem kF(t:bg):SO.gQ ([t].map (·.1)):=Yn _ _
theorem Pa{Q:List bg}(hw:∀u∈t::Q,Wr u):∀w∈gD t::p6 Q,w.length<=640:=by
 have tl:∀u∈t::Q,(gD u).length<=640:=fun u hu=>by have w:=hw u hu;have:=ny w.len w.rg (e9 u.2) w.nb;show(cq u.1 (cg u.2)).length<=640;lia
 intro w h;rcases VJ.mp h with rfl|h
 .exact tl t Vu
 .rcases wU h with⟨u,hu,rfl⟩|⟨n,rfl⟩
  .exact tl u (Vq _ hu)
  .rw[<-a_];rcases(HA n).2 with z|z<;>(rw[z];decide)
theorem shown_le{P:List bg}(hw:∀u∈P,Wr u)(hn:P.length<=100):(aR P).length<=100000:=by
 unfold aR;split
 .decide +kernel
 .obtain⟨p1,p2⟩:=lh true P hw;have:=wG p1;rw[p2]at this;have:2*P.length*352<=200*352:=WN _ (by lia);lia
theorem vC(hr:fR r=true)(h1:1<=af)(hm:af<=4){Q:List bg}(hl:∀u∈t::Q,u.1.length=af)(hw:∀u∈t::Q,Wr u)(hn:(t::Q).length<=63)(hD:bI r (b9 (t::Q))=D)(wD:∀u∈D,Wr u)(sD:aR D=aR (t::Q))(st:ao):
  if(∀u∈t::Q,∀e∈u.1,e<=99)then ∃g k,PM.bZ [.int r,.int (af:Int),.str (aR (t::Q))] st=.ok (.loc k) (st++g)/\st.length<=k/\(st++g)[k]?=some (.lst (D.map tV))else ∃g,PM.bZ [.int r,.int (af:Int),.str (aR (t::Q))] st=.err "NotWritten" (st++g):=by
 have nn:∀u∈t::Q,u.1.length=af/\∀e∈u.1,0<=e:=fun u hu=>⟨hl u hu,fun e he=>((hw u hu).rg e he).1⟩
 obtain⟨_,p2,p3⟩:=gU (t:=t) (Q:=Q) fun u hu=>⟨(hw u hu).len,(nn u hu).2⟩
 have ps:=DS hm nn;have ld:D.length<=63:=by rw[<-hD];exact VX (nC r _) hn
 have rd:=Cg hr h1 hm p3 (shown_le hw (by lia)) (by rw[p2];exact Pa hw) (fun P hP=>by
  rw[ps]at hP;split at hP
  .rename_i k;cases hP;refine⟨by lia,fun u hu=>⟨hl u hu,fun e he=>⟨(nn u hu).2 e he,k u hu e he⟩⟩,by rw[hD];lia,by rw[hD];exact wD⟩
  .cases hP) st
 rw[ps]at rd;by_cases k:∀u∈t::Q,∀e∈u.1,e<=99
 .rw[Vs k]at rd⊢;dsimp only at rd;rw[hD,Vs sD]at rd;exact rd
 .rw[Vx k]at rd⊢;exact rd
theorem sY(hr:fR r=true)(h1:1<=af)(hm:af<=4){P:List bg}(ht:bI r (b9 P)=P)(hl:∀u∈P,u.1.length=af)(hw:∀u∈P,Wr u)(hn:P.length<=63)(st:ao):
  if(∀u∈P,∀e∈u.1,e<=99)then ∃g k,PM.bZ [.int r,.int (af:Int),.str (aR P)] st=.ok (.loc k) (st++g)/\st.length<=k/\(st++g)[k]?=some (.lst (P.map tV))else ∃g,PM.bZ [.int r,.int (af:Int),.str (aR P)] st=.err "NotWritten" (st++g):=by
 cases P with
 |cons t Q=>exact vC hr h1 hm hl hw hn ht hw rfl st
 |nil=>
  have z:=mw ⟨af,by lia⟩ h1;dsimp only at z;have hD:bI r (b9 [(List.replicate af (0:Int),(0:Int))])=[]:=by
   rw[oM (gR (kF _)),oN (kF _)];unfold Sg;have e:dM r 0=0:=by
    unfold dM;split
    .rfl
    .rw[Int.zero_fmod]
   rw[Vp,VO,e];rfl
  have rc:=vC (t:=(List.replicate af 0,0)) (Q:=[]) hr h1 hm (fun u hu=>by
   rw[VZ.mp hu];exact V3 ..) (fun u hu=>by
   rw[VZ.mp hu];refine⟨by rw[V3];exact hm,fun e he=>?_,by show cg 0<10 ^ 300;decide +kernel⟩;rw[WH he];decide) (by show 1<=63;decide) hD (fun u hu=>by cases hu) (by rw[z];rfl) st
  rw[Vs (fun u hu e he=>by
   rw[VZ.mp hu]at he;rw[WH he];decide),z]at rc
  rw[Vs (fun u hu=>by cases hu)];exact rc
end OX
namespace PG
open PySem.Spec L2 MN TX
open PyProof.Rows hiding St kindOf
theorem my:PM.b!=PM.b!:=rfl
def gy(x:Str)(m:Nat):Int:=if ir x=true/\x.length<=m then jY x else -1
abbrev L7:MB:=cU (aT (ah Ky bH (qs "0123456789"))) (aP (l5 bA)) aJ
theorem Co{x:Str}{m:Int}{st:ao}:∀(l:List Nat)(y:Option aw),∃y',forL (fun _=>True) (aA 2) L7 (l.map fun c=>aw.str ⟨#[c]⟩) [qS x, qI m, y] st=if l.all jX=true then .nx [qS x, qI m, y'] st else .rt (.int (-1)) st
 |[],y=>⟨y,by
  rw[VO];unfold forL;rw[Vs trivial];rfl⟩
 |c::l,y=>by
  obtain⟨y',ih⟩:=Co (x:=x) (m:=m) (st:=st) l (some (.str ⟨#[c]⟩));refine⟨y',?_⟩;have t:aT (ah Ky bH (qs "0123456789")) [qS x, qI m, qS ⟨#[c]⟩] st=.ok (!jX c) st:=bu (by
   show c_.ok (aw.bl (!(!(Builtin.Str.occurrences ("0123456789":Str) ⟨#[c]⟩ 0 ("0123456789":Str).length 1).isEmpty))) st=_;rw[Cb])
  have a:aA 2 (.str ⟨#[c]⟩) [qS x, qI m, y]=some [qS x, qI m, qS ⟨#[c]⟩]:=rfl;rw[Vp];unfold forL;rw[Vs trivial,a];dsimp only;rw[XT];cases q:jX c with
  |true=>
   rw[q]at t;have e:L7 [qS x, qI m, qS ⟨#[c]⟩] st=.nx [qS x, qI m, qS ⟨#[c]⟩] st:=by unfold L7;rw[cI t]
   rw[e];exact ih
  |false=>
   rw[q]at t;have e:L7 [qS x, qI m, qS ⟨#[c]⟩] st=.rt (.int (-1)) st:=by unfold L7;rw[b6 t];rfl
   rw[e];rfl
theorem kG(ha:asc x)(hl:x.length<=640)(m:Nat)(st:ao):PM.cm [.str x,.int (m:Int)] st=.ok (.int (gy x m)) st:=by
 have sl:sizeLine=16777216:=VN;have ln:∀s,bG [.str x] s=.ok (.int (x.length:Int)) s:=fun s=>by unfold bG;dsimp only;rw[Vs (by lia)]
 obtain⟨y',lp⟩:=Co (x:=x) (m:=(m:Int)) (st:=st) (cl x) none;have tx:jz aD [some (aw.str x), qN m, qn] st=.ok ((cl x).map fun c=>aw.str ⟨#[c]⟩,fun _=>True) st:=by
  unfold jz;show(if x.cps.all (· < 128)=true then _ else _)=_;rw[Vs (Ca ha)];have ec:(Kt x).map aw.str=(cl x).map fun c=>aw.str ⟨#[c]⟩:=by unfold Kt;rw[Wd];rfl
  rw[ec]
 have lf:dQ (jz aD) (aA 2) L7 [some (aw.str x), qN m, qn] st=if(cl x).all jX=true then .nx [qS x, qN m, y'] st else .rt (.int (-1)) st:=by rw[fF,tx,az,gP,lp]
 have run:PM.cm=gk 2 3 (ay (cU (eY (aT (ah cG aD (qs ""))) (aT (ah BC (aj bG (ae aD ak)) aO))) (aP (l5 bA)) aJ) (ay (dQ (jz aD) (aA 2) L7) (aP (aj p4 (ae aD ak))))):=rfl;rw[run];generalize dQ (jz aD) (aA 2) L7=Z at lf⊢;unfold gy;by_cases h0:x = ""
 .have q0:(x==("":Str))=true:=by rw[str_beq,VA h0]
  have hf:¬ (ir x=true/\x.length<=m):=fun z=>by have:=z.1;rw[h0]at this;exact absurd this (by decide +kernel)
  rw[Vx hf];simp only[aY,au,az,fE,bQ,a8,bR,a7,ij,cH,dD,cY,bj,bh,dC,rS,Ai,av,aL,bF,iF,e8,Vp,VO,VH,VG,VT,VF,Nat.reduceSub,Vo,VI,Nat.reduceAdd,q0]
 .have q0:(x==("":Str))=false:=by rw[str_beq,VE h0]
  have ne:cl x≠[]:=fun z=>h0 (fh z);by_cases h1:x.length<=m
  .have q1:decide ((m:Int)<(x.length:Int))=false:=VE (by lia);by_cases h2:(cl x).all jX=true
   .have hf:ir x=true:=by unfold ir;rw[h2,Zb];exact VA (by rw[<-a_];exact Xs.mpr ne)
    rw[Vs ⟨hf,h1⟩];rw[Vs h2]at lf;have it:=wH hf hl st;simp only[aY,au,az,ax,bQ,a8,bR,a7,dS,bE,aZ,cH,cE,cY,bj,bh,dC,bS,aW,bU,av,c8,aL,bF,m?,iF,b_,e8,cN,Vp,VO,VH,VG,VT,VF,Nat.reduceSub,Vo,VI,Nat.reduceAdd,q0,ln,q1,lf,it]
   .have hf:¬ (ir x=true/\x.length<=m):=fun z=>by have:=z.1;unfold ir at this;rw[V4]at this;exact h2 this.2
    rw[Vx hf];rw[Vx h2]at lf;simp only[aY,au,az,ax,fE,bQ,a8,bR,a7,dS,bE,aZ,cE,cY,bj,bh,dC,bS,aW,bU,av,c8,bF,m?,iF,b_,e8,cN,Vp,VO,VH,VG,VT,VF,Nat.reduceSub,Vo,VI,Nat.reduceAdd,q0,ln,q1,lf]
  .have q1:decide ((m:Int)<(x.length:Int))=true:=VA (by lia);rw[Vx fun z=>h1 z.2];simp only[aY,au,az,fE,bQ,a8,bR,a7,dS,bE,aZ,cH,dD,cY,bj,bh,dC,bS,aW,bU,rS,Ai,av,aL,bF,m?,iF,b_,e8,cN,Vp,VO,VH,VG,VT,VF,Nat.reduceSub,Vo,VI,Nat.reduceAdd,q0,ln,q1]
def HC(f:Str):Int:=Txt.find "xyzw" (jd f)
theorem at_of{f:Str}{c:Nat}{r:List Nat}(h:cl f=c::r):HC f=if c=120 then 0 else if c=121 then 1 else if c=122 then 2 else if c=119 then 3 else -1:=by
 have e:jd f=⟨#[c]⟩:=fh (by unfold jd;rw[mn,h];rfl);unfold HC;rw[e];by_cases h0:c=120
 .subst h0;decide +kernel
 .by_cases h1:c=121
  .subst h1;decide +kernel
  .by_cases h2:c=122
   .subst h2;decide +kernel
   .by_cases h3:c=119
    .subst h3;decide +kernel
    .rw[Vx h0,Vx h1,Vx h2,Vx h3];have fo:=StrLaws.found_one ("xyzw":Str) c;have cx:("xyzw":Str).cps.toList=[120,121,122,119]:=by decide +kernel
     have nm:¬ (c∈("xyzw":Str).cps.toList):=by rw[cx];simp[h0,h1,h2,h3]
     rw[VE nm]at fo;unfold Txt.find;cases ho:Builtin.Str.occurrences ("xyzw":Str) ⟨#[c]⟩ 0 ("xyzw":Str).length 1 with
     |nil=>rfl
     |cons i rest=>rw[ho]at fo;cases fo
theorem Cp(f:Nat->Int)(c:Int):∀j,SO.lD f j<c↔∃i,i<=j/\f i<c
 |0=>⟨fun h=>⟨0,Vv _,h⟩,fun⟨i,hi,h⟩=>by
  have:i=0:=by lia
  subst this;exact h⟩
 |j+1=>by
  have ih:=Cp f c j;unfold SO.lD;split
  .rename_i h;refine⟨fun z=>⟨j+1,Vv _,z⟩,fun⟨i,hi,z⟩=>?_⟩;by_cases e:i=j+1
   .subst e;exact z
   .have:=ih.mpr ⟨i,by lia,z⟩;lia
  .rename_i h;refine⟨fun z=>?_,fun⟨i,hi,z⟩=>?_⟩
   .obtain⟨i,hi,y⟩:=ih.mp z;exact⟨i,by lia,y⟩
   .by_cases e:i=j+1
    .subst e;lia
    .exact ih.mpr ⟨i,by lia,z⟩
theorem HD:∀a:_m,kA (a.map aw.int)=some a
 |[]=>rfl
 |x::a=>by rw[Vp];unfold kA;rw[HD a];rfl
def sZ(e:_m):Bool:=e.any fun x=>decide (x<0)
theorem Pb{e:_m}{s:ao}(h:e≠[])(hn:aq s n=some (e.map .int)):∃m,uC [.loc n] s=.ok (.int m) s/\decide (m<0)=sZ e:=by
 cases e with
 |nil=>exact absurd rfl h
 |cons a r=>
  refine⟨SO.lD (fun i=>(a::r).getD i 0) r.length,by
   unfold uC;dsimp only;rw[hn];dsimp only;rw[HD],?_⟩
  unfold sZ;rw[W5,W6,Xp];have mg:=Cp (fun i=>(a::r).getD i 0) 0 r.length;constructor
  .intro z;obtain⟨i,hi,y⟩:=mg.mp z;have hl:i<(a::r).length:=by rw[Vo];lia
   refine⟨(a::r)[i],Ws hl,VA ?_⟩;have:(a::r).getD i 0=(a::r)[i]:=by rw[Xo,VD hl];rfl
   rw[<-this];exact y
  .rintro⟨x,hx,y⟩;obtain⟨i,hi,rfl⟩:=YG.mp hx;refine mg.mpr ⟨i,by rw[Vo]at hi;lia,?_⟩;have:(a::r).getD i 0=(a::r)[i]:=by rw[Xo,VD hi];rfl
   show(a::r).getD i 0<0;rw[this];exact Wj y
def je(f:Str):Str:=Txt.slice f (some 2) none
theorem yR{f:Str}(h:2<=f.length):cl (je f)=(cl f).drop 2:=by
 have z:=iz f (l:=some 2) (u:=none) (a:=2) (b:=f.length) h (Vv _) (by
  have e1:max (0:Int) (min ((f.length:Nat):Int) ((f.length:Nat):Int))=(f.length:Int):=by lia
  have e2:¬ (((f.length:Nat):Int)<0):=by lia
  simp only[Builtin.Str.strSliceIndices,e2,W8,e1,show((1:Int)>0)=True from by simp,Xz];rfl)
 unfold je;rw[z,Wb (by rw[WU,a_];lia)]
theorem DT{f:Str}(ha:asc f)(h:2<=f.length):asc (je f):=fun c hc=>by rw[yR h]at hc;exact ha c (YF hc)
theorem DU(f:Str):(je f).length<=f.length:=Xe f _ _
def iN(af:Nat)(a:bg)(f:Str):bg:=if HC f<0 then(a.1,a.2*gy f 60)else if f.length=1 then(a.1.set (HC f).toNat 1,a.2) else(a.1.set (HC f).toNat (gy (je f) 2),a.2)
def kH(af:Nat)(a:bg)(f:Str):Option bg:=if f = "" \/ (af:Int)<=HC f then none else if(iN af a f).2<0\/sZ (iN af a f).1=true then none else some (iN af a f)
def gZ(af:Nat):bg->_q->Option bg
 |a,[]=>some a
 |a,f::fs=>match kH af a f with
  |some b=>gZ af b fs
  |none=>none
def fK(af:Nat)(w:Str)(sg:Int):Option bg:=match gZ af (List.replicate af 0,1) (Txt.split w "*") with
 |some c=>some (c.1,sg*c.2)
 |none=>none
abbrev ltB:MB:=ay (aB 6 (sq (qs "xyzw") (cJ eR a! (ba bA)))) (ay (cU (eY (aT (ah cG eR (qs ""))) (aT (ah Rn jt aD))) (aP (mC .cO)) aJ) (ay (cU (aT (ah ltV jt bX)) (aB 4 (ah dz fC (aj PM.cm (ae eR (ae Fl ak))))) (cU (aT (ah cG (aj bG (ae eR ak)) bA)) (lM ck jt bA) (lM ck jt (aj PM.cm (ae (cJ eR (ba fP) a!) (ae fP ak)))))) (cU (eY (aT (ah ltV fC bX)) (aT (ah ltV (aj uC (ae ck ak)) bX))) (aP (mC .cO)) aJ)))
theorem DV{m:Nat}:kj (4*x.length+10) (gy x m):=by
 unfold gy;split
 .rename_i h;exact(Cf h.1).mono (by lia)
 .exact kj.small (by lia) (by decide) (by decide)
theorem Sl(f:Str):-1<=HC f:=by
 unfold HC Txt.find;split
 .lia
 .lia
theorem K8{a:bg}{f:Str}{s:ao}(h1:1<=af)(hm:af<=4)(hf:asc f)(hl:f.length<=640)(hq:s[q]?=some (.lst (a.1.map .int)))(la:a.1.length=af)(hb:kj k a.2)(hk:k<=900000):
  match kH af a f with
   |some b=>∃y,ltB [qN af, x1, x2, qL q, qI a.2, qS f, y6] s=.nx [qN af, x1, x2, qL q, qI b.2, qS f, y] (s.set q (.lst (b.1.map .int)))/\b.1.length=af/\kj (k+(4*f.length+10)) b.2
   |none=>∃z,ltB [qN af, x1, x2, qL q, qI a.2, qS f, y6] s=.rt .cO (s.set q z):=by
 have sl:sizeLine=16777216:=VN;have vy:q<s.length:=(VP.mp hq).1;have same:s.set q (.lst (a.1.map .int))=s:=by
  apply W2;intro j;by_cases hj:q=j
  .subst hj;rw[VY vy,hq]
  .rw[V6 hj]
 obtain⟨i,hi⟩:∃i,i=HC f:=⟨_,rfl⟩
 have ig:=Sl f;rw[<-hi]at ig;have f6:aB 6 (sq (qs "xyzw") (cJ eR a! (ba bA))) [qN af, x1, x2, qL q, qI a.2, qS f, y6] s=.nx [qN af, x1, x2, qL q, qI a.2, qS f, qI i] s:=by
  have h:cJ eR a! (ba bA) [qN af, x1, x2, qL q, qI a.2, qS f, y6] s=.ok (.str (jd f)) s:=kC (l:=none) (h:=some 1) rfl rfl rfl (by lia);have c:sq (qs "xyzw") (cJ eR a! (ba bA)) [qN af, x1, x2, qL q, qI a.2, qS f, y6] s=.ok (.int i) s:=by unfold sq pZ;show((cJ eR a! (ba bA) _ s).bind fun v st2=>_)=_;rw[h,hi];rfl
  rw[bw c];rfl
 obtain⟨μ,hμ⟩:∃μ:MN.Env,μ=[qN af, x1, x2, qL q, qI a.2, qS f, qI i]:=⟨_,rfl⟩
 rw[<-hμ]at f6;have v0:∀s,aD μ s=.ok (.int (af:Int)) s:=fun s=>by rw[hμ];rfl
 have v3:∀s,ck μ s=.ok (.loc q) s:=fun s=>by rw[hμ];rfl
 have v4:∀s,fC μ s=.ok (.int a.2) s:=fun s=>by rw[hμ];rfl
 have v5:∀s,eR μ s=.ok (.str f) s:=fun s=>by rw[hμ];rfl
 have v6:∀s,jt μ s=.ok (.int i) s:=fun s=>by rw[hμ];rfl
 have t1:aT (ah cG eR (qs "")) μ s=.ok (decide (f = "")) s:=bu (by rw[aH (v5 s) (y:=.str "") (s2:=s) rfl,iF,str_beq]);have t2:aT (ah Rn jt aD) μ s=.ok (decide ((af:Int)<=i)) s:=bu (by rw[aH (v6 s) (v0 s)];rfl);have t3:aT (ah ltV jt bX) μ s=.ok (decide (i<0)) s:=bu (by rw[aH (v6 s) (y:=.int 0) (s2:=s) rfl];rfl);have Sm:eY (aT (ah cG eR (qs ""))) (aT (ah Rn jt aD)) μ s=.ok (decide (f = "" \/ (af:Int)<=i)) s:=by
  rw[dC,t1,au];by_cases z:f = ""
  .rw[VA z,ij,VA (Or.inl z)]
  .rw[VE z,dS,t2];congr 1;rw[decide_eq_decide];exact⟨fun y=>.inr y,fun y=>y.resolve_left z⟩
 unfold kH;rw[<-hi];by_cases c0:f = "" \/ (af:Int)<=i
 .rw[Vs c0];rw[VA c0]at Sm;refine⟨.lst (a.1.map .int),?_⟩;unfold ltB;rw[av,f6,ax,av,b6 Sm,same];rfl
 .rw[Vx c0];rw[VE c0]at Sm;have fne:f ≠ "":=fun z=>c0 (.inl z);have ilt:i<(af:Int):=by have:=fun z=>c0 (.inr z);lia
  have fl:1<=f.length:=by rw[<-a_];exact Xs.mpr fun z=>fne (fh z)
  obtain⟨b,uu⟩:∃b,b=iN af a f:=⟨_,rfl⟩
  rw[<-uu]
  -- Ec step itself
  have Ht:∃μ',cU (aT (ah ltV jt bX)) (aB 4 (ah dz fC (aj PM.cm (ae eR (ae Fl ak))))) (cU (aT (ah cG (aj bG (ae eR ak)) bA)) (lM ck jt bA) (lM ck jt (aj PM.cm (ae (cJ eR (ba fP) a!) (ae fP ak))))) μ s=.nx μ' (s.set q (.lst (b.1.map .int)))/\μ'=[qN af, x1, x2, qL q, qI b.2, qS f, qI i]/\b.1.length=af/\kj (k+(4*f.length+10)) b.2:=by
   unfold iN at uu;rw[<-hi]at uu;by_cases c1:i<0
   .rw[VA c1]at t3;rw[Vs c1]at uu;have fg:aj PM.cm (ae eR (ae Fl ak)) μ s=.ok (.int (gy f 60)) s:=by rw[aI (gg (v5 s) (w:=.int ((60:Nat):Int)) (s2:=s) rfl)];exact kG hf hl 60 s
    have fb:=DV (x:=f) (m:=60);have mu:ah dz fC (aj PM.cm (ae eR (ae Fl ak))) μ s=.ok (.int (a.2*gy f 60)) s:=by rw[aH (v4 s) fg];exact rV (oO hb fb (by lia) (by lia))
    refine⟨_,by rw[b6 t3,bw mu,uu,same],by rw[hμ,uu];rfl,by rw[uu];exact la,by rw[uu];exact hb.mul fb⟩
   .rw[VE c1]at t3;rw[Vx c1]at uu;have ix:L2.Bn (a.1.map aw.int).length i=some i.toNat:=by
     have:i=((i.toNat:Nat):Int):=by lia
     rw[this];exact B2 (by rw[Vt,la];lia)
    have sf:∀v,wc (.loc q) (.int i) (.int v) s=some (s.set q (.lst ((a.1.set i.toNat v).map .int))):=fun v=>by rw[BV (v:=.int v) (k:=i) (j:=i.toNat) hq ix,List.map_set]
    have t4:aT (ah cG (aj bG (ae eR ak)) bA) μ s=.ok (decide (f.length=1)) s:=by
     have l:aj bG (ae eR ak) μ s=.ok (.int (f.length:Int)) s:=by rw[aI (d0 (v5 s))];unfold bG;dsimp only;rw[Vs (by lia)]
     refine bu ?_;rw[iJ l];congr 2;by_cases z:f.length=1
     .rw[z];rfl
     .rw[VE z];exact WD (by lia)
    by_cases c2:f.length=1
    .rw[VA c2]at t4;rw[Vs c2]at uu;refine⟨μ,?_,by rw[uu];exact hμ,by rw[uu];show(a.1.set _ _).length=af;rw[Wm];exact la,by rw[uu];exact hb.mono (by lia)⟩;have cc:bA μ s=.ok (.int 1) s:=rfl;rw[bF,t3,az,cE,b6 t4,nh,cc,az,Ke,v3,az,BU,v6,az,Gh,sf 1,rX,uu]
    .rw[VE c2]at t4;rw[Vx c2]at uu;have sd:cJ eR (ba fP) a! μ s=.ok (.str (je f)) s:=kC (l:=some 2) (h:=none) (v5 s) rfl rfl (by lia);have fg:aj PM.cm (ae (cJ eR (ba fP) a!) (ae fP ak)) μ s=.ok (.int (gy (je f) 2)) s:=by rw[aI (gg sd (w:=.int ((2:Nat):Int)) (s2:=s) rfl)];exact kG (DT hf (by lia)) (VX (DU f) hl) 2 s
     refine⟨μ,?_,by rw[uu];exact hμ,by rw[uu];show(a.1.set _ _).length=af;rw[Wm];exact la,by rw[uu];exact hb.mono (by lia)⟩;rw[bF,t3,az,cE,bF,t4,az,cE,nh,fg,az,Ke,v3,az,BU,v6,az,Gh,sf _,rX,uu]
  obtain⟨μ',e',Pd,lb,bb⟩:=Ht;obtain⟨s1,dI⟩:∃s1,s1=s.set q (aG.lst (b.1.map .int)):=⟨_,rfl⟩
  rw[<-dI]at e';have q1:s1[q]?=some (.lst (b.1.map .int)):=by rw[dI,VY vy]
  obtain⟨m,em,dm⟩:=Pb (e:=b.1) (fun z=>by rw[z]at lb;simp at lb;lia) (dU q1);have t5:aT (ah ltV fC bX) μ' s1=.ok (decide (b.2<0)) s1:=by rw[Pd];rfl
  have t6:aT (ah ltV (aj uC (ae ck ak)) bX) μ' s1=.ok (sZ b.1) s1:=by
   have c:aj uC (ae ck ak) μ' s1=.ok (.int m) s1:=by rw[aI (d0 (v:=.loc q) (s1:=s1) (by rw[Pd];rfl))];exact em
   refine bu ?_;rw[aH c (y:=.int 0) (s2:=s1) rfl,<-dm];rfl
  have tr:eY (aT (ah ltV fC bX)) (aT (ah ltV (aj uC (ae ck ak)) bX)) μ' s1=.ok (decide (b.2<0\/sZ b.1=true)) s1:=by
   rw[dC,t5,au];by_cases z:b.2<0
   .rw[VA z,ij,VA (Or.inl z)]
   .rw[VE z,dS,t6];congr 1;cases hn:sZ b.1 with
    |true=>rw[VA (Or.inr rfl)]
    |false=>rw[VE];exact fun y=>y.elim z (fun y=>by cases y)
  by_cases c3:b.2<0\/sZ b.1=true
  .rw[Vs c3];rw[VA c3]at tr;refine⟨.lst (b.1.map .int),?_⟩;unfold ltB;rw[av,f6,ax,av,cI Sm,ax,av,e',ax,b6 tr,<-dI];rfl
  .rw[Vx c3];rw[VE c3]at tr;refine⟨some (.int i),?_,lb,bb⟩;unfold ltB;rw[av,f6,ax,av,cI Sm,ax,av,e',ax,cI tr,<-dI,Pd]
theorem Cq{af q k:Nat}{x1 x2:Option aw}{F:_q}(h1:1<=af)(hm:af<=4)(Sj:k≠q):∀(fs:_q)(a:bg)(y5 y6:Option aw)(s:ao)(b:Nat),(∀f∈fs,asc f/\f.length<=640)->s[q]?=some (.lst (a.1.map .int))->aq s k=some (F.map .str)->a.1.length=af->kj b a.2->b+(4*gp fs+10*fs.length)<=900000 ->
  match gZ af a fs with
  |some c=>∃y5' y6',forL (fun s'=>aq s' k=some (F.map .str)) (aA 5) ltB (fs.map .str) [qN af, x1, x2, qL q, qI a.2, y5, y6] s=.nx [qN af, x1, x2, qL q, qI c.2, y5', y6'] (s.set q (.lst (c.1.map .int)))/\c.1.length=af/\kj (b+(4*gp fs+10*fs.length)) c.2
  |none=>∃z,forL (fun s'=>aq s' k=some (F.map .str)) (aA 5) ltB (fs.map .str) [qN af, x1, x2, qL q, qI a.2, y5, y6] s=.rt .cO (s.set q z)
 |[],a,y5,y6,s,b,_,hq,hk,la,hb,_=>by
  have vy:q<s.length:=(VP.mp hq).1;refine⟨y5,y6,?_,la,hb.mono (by lia)⟩;rw[VO];unfold forL;rw[Vs hk];congr 1;apply W2;intro j;by_cases hj:q=j
  .subst hj;rw[VY vy,hq]
  .rw[V6 hj]
 |f::fs,a,y5,y6,s,b,hf,hq,hk,la,hb,hs=>by
  have vy:q<s.length:=(VP.mp hq).1;obtain⟨f1,f2⟩:=hf f Vu;have ht:gp (f::fs)=f.length+gp fs:=by unfold gp;rw[Vp,WW]
  have hlen:(f::fs).length=fs.length+1:=rfl;rw[ht,hlen]at hs⊢;have Ht:=K8 (x1:=x1) (x2:=x2) (y6:=y6) (q:=q) h1 hm f1 f2 hq la hb (by lia);have an:aA 5 (.str f) [qN af, x1, x2, qL q, qI a.2, y5, y6]=some [qN af, x1, x2, qL q, qI a.2, qS f, y6]:=rfl;unfold gZ;cases hc:kH af a f with
  |none=>
   rw[hc]at Ht;obtain⟨z,e⟩:=Ht;dsimp only;refine⟨z,?_⟩;rw[Vp];unfold forL;rw[Vs hk,an];dsimp only;rw[e]
  |some c=>
   rw[hc]at Ht;obtain⟨y,e,lc,bc⟩:=Ht;dsimp only;obtain⟨s1,dI⟩:∃s1,s1=s.set q (aG.lst (c.1.map .int)):=⟨_,rfl⟩
   have hq1:s1[q]?=some (.lst (c.1.map .int)):=by rw[dI,VY vy]
   have hk1:aq s1 k=some (F.map .str):=by rw[dI];unfold aq;rw[V6 (Xg Sj)];exact hk
   have ih:=Cq (x1:=x1) (x2:=x2) (F:=F) h1 hm Sj fs c (some (.str f)) y s1 (b+(4*f.length+10)) (fun z hz=>hf z (Vq _ hz)) hq1 hk1 lc bc (by lia);have step:∀r,forL (fun s'=>aq s' k=some (F.map .str)) (aA 5) ltB (fs.map .str) [qN af, x1, x2, qL q, qI c.2, qS f, y] s1=r->forL (fun s'=>aq s' k=some (F.map .str)) (aA 5) ltB ((f::fs).map .str) [qN af, x1, x2, qL q, qI a.2, y5, y6] s=r:=fun r hr=>by
    rw[Vp]
    conv=>lhs;unfold forL
    rw[Vs hk,an];dsimp only;rw[e,<-dI];exact hr
   have ss:∀z:aG,s1.set q z=s.set q z:=fun z=>by rw[dI,Y?]
   cases hr:gZ af c fs with
   |none=>
    rw[hr]at ih;obtain⟨z,e2⟩:=ih;exact⟨z,by rw[step _ e2,ss]⟩
   |some d=>
    rw[hr]at ih;obtain⟨y5',y6',e2,ld,bd⟩:=ih;exact⟨y5',y6',by rw[step _ e2,ss],ld,bd.mono (by lia)⟩
theorem yS(h1:1<=af)(hm:af<=4){w:Str}(hw:asc w)(hl:w.length<=640){sg:Int}(hs:sg=1\/sg = -1)(st:ao):∃g,PM.dZ [.int (af:Int),.str w,.int sg] st=.ok (match fK af w sg with|some c=>tV c|none=>.cO) (st++g):=by
 have sl:sizeLine=16777216:=VN;have run:PM.dZ=gk 3 7 (ay (aB 3 (ah dz (bq (ae bX ak)) aD)) (ay (aB 4 bA) (ay (dQ (d6 (eI aO (qs "*"))) (aA 5) ltB) (aP (fO (ae (aj l6 (ae ck ak)) (ae (ah dz bH fC) ak))))))):=rfl;obtain⟨s1,dI⟩:∃s1,s1=st++[aG.lst [.int 0]]:=⟨_,rfl⟩
 obtain⟨s2,fq⟩:∃s2,s2=s1++[aG.lst ((List.replicate af (0:Int)).map .int)]:=⟨_,rfl⟩
 have rp:u5 ((af:Nat):Int).toNat [.int 0]=(List.replicate af (0:Int)).map .int:=by
  have:af=1\/af=2\/af=3\/af=4:=by lia
  rcases this with rfl|rfl|rfl|rfl<;>rfl
 have f3:aB 3 (ah dz (bq (ae bX ak)) aD) [qN af, qS w, qI sg, qn, qn, qn, qn] st=.nx [qN af, qS w, qI sg, qL s1.length, qn, qn, qn] s2:=by
  have l:bq (ae bX ak) [qN af, qS w, qI sg, qn, qn, qn, qn] st=.ok (.loc st.length) s1:=by rw[dI];exact eO (vs:=[.int 0]) (s1:=st) rfl (by decide)
  have l0:s1[st.length]?=some (.lst [.int 0]):=by rw[dI];exact d8 _ _
  have m:ah dz (bq (ae bX ak)) aD [qN af, qS w, qI sg, qn, qn, qn, qn] st=.ok (.loc s1.length) s2:=by rw[aH l (y:=.int (af:Int)) (s2:=s1) rfl,Gi l0 (by lia) (by lia) (by show 1*_<=_;lia),rp,fq]
  rw[bw m];rfl
 have f4:aB 4 bA [qN af, qS w, qI sg, qL s1.length, qn, qn, qn] s2=.nx [qN af, qS w, qI sg, qL s1.length, qI 1, qn, qn] s2:=rfl;have sp:=sT 42 hw;have Gm:=sp.Gm;have L6:=sp.len;obtain⟨F,hF⟩:∃F,F=Txt.split w "*":=⟨_,rfl⟩
 have P0:Txt.split w ⟨#[42]⟩=F:=by rw[hF];rfl
 rw[P0]at Gm L6;obtain⟨s3,iS⟩:∃s3,s3=s2++[aG.lst (F.map .str)]:=⟨_,rfl⟩
 have spt:eI aO (qs "*") [qN af, qS w, qI sg, qL s1.length, qI 1, qn, qn] s2=.ok (.loc s2.length) s3:=by rw[qC (x:=w) (s1:=s2) rfl (by lia) ⟨by decide +kernel,lj w "*" (by lia),by rw[<-hF];lia⟩,iS,hF]
 have n2:s2[s1.length]?=some (.lst ((List.replicate af (0:Int)).map .int)):=by rw[fq];exact d8 _ _
 have n3:s3[s1.length]?=some (.lst ((List.replicate af (0:Int)).map .int)):=by rw[iS];exact d_ n2 _
 have k3:aq s3 s2.length=some (F.map .str):=by rw[iS];exact aN _ _
 have lts:s1.length<s2.length:=(VP.mp n2).1;have lt3:s1.length<s3.length:=(VP.mp n3).1;have lp:=Cq (af:=af) (q:=s1.length) (k:=s2.length) (x1:=some (.str w)) (x2:=some (.int sg)) (F:=F) h1 hm (by lia) F (List.replicate af 0,1) none none s3 10 (fun f hf=>⟨sp.asc f (by rw[P0];exact hf),VX (wM hf) (by lia)⟩) n3 k3 (V3 ..) (kj.small (i:=1) (by decide) (by decide) (by decide)) (by lia);have fin:∀z:aG,∃g',s3.set s1.length z=st++g':=fun z=>by
  have l1:s1.length=st.length+1:=by rw[dI,Vz];rfl
  have sa:∀(a b:List aG)(n:Nat)(c:aG),a.length<=n->(a++b).set n c=a++b.set (n-a.length) c:=fun a b n c h=>WR n c h;have e:s3=st++([aG.lst [.int 0]]++[aG.lst ((List.replicate af (0:Int)).map .int)]++[aG.lst (F.map .str)]):=by rw[iS,fq,dI];simp only[Vy]
  rw[e];exact⟨_,sa st _ _ _ (by lia)⟩
 have head:∀r,forL (fun s'=>aq s' s2.length=some (F.map .str)) (aA 5) ltB (F.map .str) [qN af, qS w, qI sg, qL s1.length, qI 1, qn, qn] s3=r->PM.dZ [.int (af:Int),.str w,.int sg] st=(r.cR (aP (fO (ae (aj l6 (ae ck ak)) (ae (ah dz bH fC) ak))))).fin:=fun r hr=>by rw[run,aY (np:=3) (us:=[.int (af:Int),.str w,.int sg]) rfl];show(ay (aB 3 _) _ [qN af, qS w, qI sg, qn, qn, qn, qn] st).fin=_;rw[av,f3,ax,av,f4,ax,av,fF,fB,spt,au,eG k3,az,gP,hr]
 unfold fK;rw[<-hF];cases hr:gZ af (List.replicate af 0,1) F with
 |none=>
  rw[hr]at lp;obtain⟨z,e⟩:=lp;obtain⟨g',eg⟩:=fin z;refine⟨g',?_⟩;rw[head _ e,eg];rfl
 |some c=>
  rw[hr]at lp;obtain⟨y5,y6,e,lc,bc⟩:=lp;obtain⟨g',eg⟩:=fin (.lst (c.1.map .int));refine⟨g',?_⟩;have hq:(st++g')[s1.length]?=some (.lst (c.1.map .int)):=by rw[<-eg,VY lt3]
  rw[head _ e,eg,ax,aL];have tp:aj l6 (ae ck ak) [qN af, qS w, qI sg, qL s1.length, qI c.2, y5, y6] (st++g')=.ok (a9 c.1) (st++g'):=by rw[aI (d0 (v:=.loc s1.length) (s1:=st++g') rfl)];exact wj (dU hq)
  have mu:ah dz bH fC [qN af, qS w, qI sg, qL s1.length, qI c.2, y5, y6] (st++g')=.ok (.int (sg*c.2)) (st++g'):=by rw[aH (x:=.int sg) (s1:=st++g') rfl (y:=.int c.2) (s2:=st++g') rfl];refine rV (oO (a:=10) (kj.small (by decide) (by lia) (by lia)) bc (by decide) (by lia))
  rw[mq (gg tp mu) (by show 2<=1000;decide)];rfl
theorem yT(x:Str)(m:Nat):-1<=gy x m/\gy x m<10 ^ (min m x.length)+1/\(gy x m).natAbs<=10 ^ x.length:=by
 unfold gy;split
 .rename_i h;obtain⟨h1,_⟩:=jB h.1;have z:=mr (cl x) 0 h1;rw[V_,XW,a_]at z;have nn:=Hs x;have e:min m x.length=x.length:=YC h.2;have v:jY x<((10 ^ x.length:Nat):Int):=by
   unfold jY PySem.NumText.digitsVal
   exact_mod_cast z
  rw[e];have p:((10 ^ x.length:Nat):Int)=(10:Int) ^ x.length:=by push_cast;rfl
  refine⟨by lia,by rw[<-p];lia,by lia⟩
 .have p:0<(10:Int) ^ (min m x.length):=Int.pow_pos (by decide);have p2:1<=10 ^ x.length:=YZ _ _ (by decide);refine⟨by lia,by lia,by simpa using p2⟩
theorem DW{a b:bg}{f:Str}(h:kH af a f=some b)(la:a.1.length=af)(ha:∀e∈a.1,e<=99):b.1.length=af/\(∀e∈b.1,0<=e/\e<=99)/\0<=b.2/\b.2.natAbs<=a.2.natAbs*10 ^ f.length:=by
 unfold kH at h;split at h
 .cases h
 .split at h
  .cases h
  .rename_i h2;cases h;have n2:¬ (iN af a f).2<0:=fun z=>h2 (.inl z);have n1:∀e∈(iN af a f).1,0<=e:=fun e he=>by
    by_cases z:e<0
    .exact absurd (Xp.mpr ⟨e,he,VA z⟩) (fun y=>h2 (.inr y))
    .lia
   have p1:1<=10 ^ f.length:=YZ _ _ (by decide);have key:(iN af a f).1.length=af/\(∀e∈(iN af a f).1,e<=99)/\(iN af a f).2.natAbs<=a.2.natAbs*10 ^ f.length:=by
    unfold iN;split
    .refine⟨la,ha,?_⟩;show(a.2*gy f 60).natAbs<=_;rw[Y2];exact ZA _ (yT f 60).2.2
    .have le:a.2.natAbs<=a.2.natAbs*10 ^ f.length:=Zg _ p1;split
     .refine⟨by show(a.1.set _ _).length=af;rw[Wm];exact la,fun e he=>?_,le⟩;rcases Xq he with z|z
      .exact ha e z
      .lia
     .refine⟨by show(a.1.set _ _).length=af;rw[Wm];exact la,fun e he=>?_,le⟩;rcases Xq he with z|z
      .exact ha e z
      .have u:=(yT (je f) 2).2.1;have p:(10:Int) ^ (min 2 (je f).length)<=10 ^ 2:=by
        have:(10:Nat) ^ (min 2 (je f).length)<=10 ^ 2:=Wf (by decide) (Nat.min_le_left _ _)
        exact_mod_cast this
       have u2:gy (je f) 2<=99:=by
        unfold gy;split
        .rename_i hh;obtain⟨g1,_⟩:=jB hh.1;have zz:=mr (cl (je f)) 0 g1;rw[V_,XW,a_]at zz;have pp:(10:Nat) ^ (je f).length<=10 ^ 2:=Wf (by decide) hh.2;have p2:(10:Nat) ^ 2=100:=by decide
         unfold jY PySem.NumText.digitsVal;lia
        .decide
       lia
   exact⟨key.1,fun e he=>⟨n1 e he,key.2.1 e he⟩,by lia,key.2.2⟩
theorem s_{af:Nat}:∀(fs:_q){a c:bg},gZ af a fs=some c->a.1.length=af->(∀e∈a.1,0<=e/\e<=99)->c.1.length=af/\(∀e∈c.1,0<=e/\e<=99)/\c.2.natAbs<=a.2.natAbs*10 ^ gp fs
 |[],a,c,h,la,ha=>by cases h;exact⟨la,ha,by unfold gp;simp⟩
 |f::fs,a,c,h,la,ha=>by
  unfold gZ at h;cases hb:kH af a f with
  |none=>rw[hb]at h;cases h
  |some b=>
   rw[hb]at h;obtain⟨g1,g2,_,g4⟩:=DW hb la fun e he=>(ha e he).2;obtain⟨i1,i2,i3⟩:=s_ fs h g1 g2;have ht:gp (f::fs)=f.length+gp fs:=by unfold gp;rw[Vp,WW]
   refine⟨i1,i2,VX i3 ?_⟩;rw[ht,Zw,<-Y9];exact WN _ g4
theorem s?{w:Str}(hw:asc w){sg:Int}(hs:sg=1\/sg = -1){c:bg}(h:fK af w sg=some c):Good af c/\c.2.natAbs<=10 ^ w.length:=by
 unfold fK at h;cases hr:gZ af (List.replicate af 0,1) (Txt.split w "*") with
 |none=>rw[hr]at h;cases h
 |some d=>
  rw[hr]at h;cases h;obtain⟨i1,i2,i3⟩:=s_ _ hr (V3 ..) (fun e he=>by rw[WH he];decide);have tt:gp (Txt.split w "*")<=w.length:=(sT 42 hw).Gm;refine⟨⟨i1,i2⟩,?_⟩;show(sg*d.2).natAbs<=_;have:(sg*d.2).natAbs=d.2.natAbs:=by
   rcases hs with rfl|rfl
   .rw[Zy]
   .rw[_h,Int.natAbs_neg]
  rw[this];have p:(10:Nat) ^ gp (Txt.split w "*")<=10 ^ w.length:=Wf (by decide) tt;have i3':d.2.natAbs<=1*10 ^ gp (Txt.split w "*"):=i3;lia
theorem Pe(h:i<4)(e:Int):HC (mO i e)=(i:Int):=by
 have hc:∃r,cl (mO i e)=sW i::r:=by
  rw[nE h];split
  .exact⟨_,rfl⟩
  .exact⟨_,rfl⟩
 obtain⟨r,hr⟩:=hc;rw[at_of hr];rcases i with _|_|_|_|i
 .decide
 .decide
 .decide
 .decide
 .lia
theorem HE{n:Int}(h:0<=n):HC (bM n) = -1:=by
 obtain⟨h1,h2⟩:=gJ h;cases hc:cl (bM n) with
 |nil=>exact absurd hc h2
 |cons c r=>
  have:=h1 c (by rw[hc];exact Vu);rw[at_of hc,Vx (by lia),Vx (by lia),Vx (by lia),Vx (by lia)]
theorem K9(hm:af<=4)(hi:i<af){a:bg}{e:Int}(h0:1<=e)(h9:e<=99)(la:a.1.length=af)(ha:∀x∈a.1,0<=x)(hn:0<=a.2):kH af a (mO i e)=some (a.1.set i e,a.2):=by
 have h4:i<4:=by lia
 have at_:=Pe h4 e;have pc:=nE h4 e;have ne:mO i e ≠ "":=fun z=>by
  rw[z]at pc;have e0:cl ("":Str)=[]:=by decide +kernel
  rw[e0]at pc;split at pc<;>cases pc
 have ls:iN af a (mO i e)=(a.1.set i e,a.2):=by
  unfold iN;rw[at_,Vx (by lia),WS];by_cases h1:e=1
  .rw[Vs h1]at pc;have l1:(mO i e).length=1:=by rw[<-a_,pc];rfl
   rw[Vs l1,h1]
  .rw[Vx h1]at pc;have hl:=W! List.length pc;rw[a_,Vo,Vo]at hl;have dp:je (mO i e)=bM e:=fh (by rw[yR (by lia),pc];rfl);have fl:gy (bM e) 2=e:=by unfold gy;rw[Vs ⟨qD (by lia),(nG (by lia)).mpr h9⟩,nF (by lia)]
   rw[Vx (by have:=(gJ (n:=e) (by lia)).2;have:=Xs.mpr this;lia),dp,fl]
 have ng:sZ (a.1.set i e)=false:=by
  unfold sZ;rw[Za];intro x hx;rcases Xq hx with z|z
  .have:=ha x z;simp;lia
  .simp;lia
 unfold kH;rw[Vx (fun z=>z.elim ne (by rw[at_];lia)),ls,ng,Vx (fun z=>z.elim (by show ¬ a.2<0;lia) (by simp))]
theorem vD{af:Nat}(hm:af<=4):∀(es pre:_m)(n:Int),pre.length+es.length=af->(∀e∈es,0<=e/\e<=99)->(∀e∈pre,0<=e)->0<=n->gZ af (pre++List.replicate es.length 0,n) (bz pre.length es)=some (pre++es,n)
 |[],pre,n,_,_,_,_=>rfl
 |e::es,pre,n,hl,hr,hp,hn=>by
  have hl':pre.length+(es.length+1)=af:=hl;obtain⟨h0,h9⟩:=hr e Vu;have ih:=fun x(hx:0<=x)=>vD hm es (pre++[x]) n (by rw[Vz,WG];lia) (fun y hy=>hr y (Vq _ hy)) (fun y hy=>by
   rcases We.mp hy with z|z
   .exact hp y z
   .rw[VZ.mp z];exact hx) hn
  have lp:∀x:Int,(pre++[x]).length=pre.length+1:=fun x=>by rw[Vz,WG]
  have e1:pre++List.replicate (e::es).length (0:Int)=pre++[0]++List.replicate es.length 0:=by rw[Vo,VT,Vy];rfl
  unfold bz;by_cases z:e=0
  .have i0:=ih 0 (by decide);rw[lp]at i0;rw[Vs z,e1,i0,z,Vy];rfl
  .rw[Vx z];unfold gZ;have la:(pre++List.replicate (e::es).length (0:Int)).length=af:=by rw[Vz,V3];exact hl
   rw[K9 hm (by lia) (a:=(pre++List.replicate (e::es).length 0,n)) (by lia) h9 la (fun x hx=>by
    rcases We.mp hx with y|y
    .exact hp x y
    .rw[WH y];decide) hn]
   dsimp only;have e2:(pre++List.replicate (e::es).length (0:Int)).set pre.length e=pre++[e]++List.replicate es.length 0:=by rw[WR _ _ (Vv _),Wy,Vo,VT,Vy];rfl
   have ie:=ih e h0;rw[lp]at ie;rw[e2,ie,Vy];rfl
theorem AR(hm:af<=4){t:_m}{n:Int}(sg:Int)(hl:t.length=af)(hr:∀e∈t,0<=e/\e<=99)(hn:0<=n)(hd:(bM n).length<=60):fK af (cq t n) sg=some (t,sg*n):=by
 have sp:Txt.split (cq t n) "*" = dJ t n:=mm (c:=42) (wQ t n) fun f hf hc=>by have:=oP (by lia) (fun e he=>(hr e he).1) hn f hf 42 hc;unfold okN at this;lia
 have fp:=fun n0(h:0<=n0)=>vD hm t [] n0 (by simpa using hl) hr (fun e he=>by cases he) h;unfold fK;rw[sp];have rp:List.replicate af (0:Int)=[]++List.replicate t.length 0:=by rw[hl];rfl
 unfold dJ;by_cases h:n=1/\bz 0 t≠[]
 .rw[Vs h];have f1:=fp 1 (by decide);rw[<-rp]at f1;rw[show bz 0 t=bz ([]:_m).length t from rfl,f1,h.1];rfl
 .rw[Vx h];have f1:=fp n hn;rw[<-rp]at f1;have ff:kH af (List.replicate af 0,1) (bM n)=some (List.replicate af 0,n):=by
   have ne:bM n ≠ "":=fun z=>by have:=(gJ hn).2;rw[z]at this;exact this (by decide +kernel)
   have ls:iN af (List.replicate af 0,1) (bM n)=(List.replicate af 0,n):=by unfold iN gy;rw[HE hn,Vs (by decide),Vs ⟨qD hn,hd⟩,nF hn,Zy]
   have ng:sZ (List.replicate af (0:Int))=false:=by unfold sZ;rw[Za];intro x hx;rw[WH hx];decide
   unfold kH;rw[Vx (fun z=>z.elim ne (by rw[HE hn];lia)),ls,ng,Vx (fun z=>z.elim (by show ¬ n<0;lia) (by simp))]
  unfold gZ;rw[ff];dsimp only;rw[show bz 0 t=bz ([]:_m).length t from rfl,f1];rfl
theorem Cr(n:Nat)(st:ao):∀a b:_m,ib (hG (n+1) st) (a.map aw.int) (b.map aw.int)=some (decide (a=b))
 |[],[]=>rfl
 |[],_::_=>rfl
 |_::_,[]=>rfl
 |x::a,y::b=>by have e:=Cr n st a b;show(match hG (n+1) st (.int x) (.int y),ib (hG (n+1) st) (a.map aw.int) (b.map aw.int) with|some a,some b=>some (a&&b)|_,_=>none)=_;rw[e];show some ((x==y)&&decide (a=b))=_;congr 1;by_cases h1:x=y<;>by_cases h2:a=b<;>simp[h1,h2]
theorem K_(st:ao)(t u:bg):hG 15 st (tV t) (tV u)=some (decide (t=u)):=by have e:=Cr 12 st t.1 u.1;show ib (hG 14 st) [a9 t.1,.int t.2] [a9 u.1,.int u.2]=_;show(match hG 14 st (a9 t.1) (a9 u.1),ib (hG 14 st) [.int t.2] [.int u.2] with|some a,some b=>some (a&&b)|_,_=>none)=_;have e1:hG 14 st (a9 t.1) (a9 u.1)=some (decide (t.1=u.1)):=e;rw[e1];show some (decide (t.1=u.1)&&((t.2==u.2)&&true))=_;congr 1;obtain⟨t1,t2⟩:=t;obtain⟨u1,u2⟩:=u;by_cases h1:t1=u1<;>by_cases h2:t2=u2<;>simp[h1,h2]
theorem yU(st:ao):∀P Q:List bg,ib (hG 15 st) (P.map tV) (Q.map tV)=some (decide (P=Q))
 |[],[]=>rfl
 |[],_::_=>rfl
 |_::_,[]=>rfl
 |x::a,y::b=>by have e:=yU st a b;show(match hG 15 st (tV x) (tV y),ib (hG 15 st) (a.map tV) (b.map tV) with|some a,some b=>some (a&&b)|_,_=>none)=_;rw[e,K_];show some (decide (x=y)&&decide (a=b))=_;congr 1;by_cases h1:x=y<;>by_cases h2:a=b<;>simp[h1,h2]
theorem HF{m:Nat}{P Q:List bg}(h1:aq st n=some (P.map tV))(h2:aq st m=some (Q.map tV)):gq (.loc n) (.loc m) st=.ok (.bl (!decide (P=Q))) st:=by
 have e:hG 16 st (.loc n) (.loc m)=some (decide (P=Q)):=by
  show(match vw st (.loc n),vw st (.loc m) with
   |some (.tup us),some (.tup ws)=>ib (hG 15 st) us ws
   |some (.lst us),some (.lst ws)=>ib (hG 15 st) us ws
   |some .mM,some .mM=>some (Iu (.loc n) (.loc m))
   |some _,some _=>some false
   |_,_=>none)=_
  have v1:vw st (.loc n)=some (.lst (P.map tV)):=by show(aq st n).map _=_;rw[h1];rfl
  have v2:vw st (.loc m)=some (.lst (Q.map tV)):=by show(aq st m).map _=_;rw[h2];rfl
  rw[v1,v2];exact yU st P Q
 unfold gq;rw[e]
def oV:Option bg->aw
 |some c=>tV c
 |none=>.cO
theorem K!(t:bg):fW 14 (tV t)=true:=by
 have h:∀(n:Nat)(a:_m),dE n (a.map aw.int)=true:=fun n a=>by
  induction a with
  |nil=>rfl
  |cons x a ih=>
   rw[Vp];unfold dE;rw[ih,Zb];cases n<;>rfl
 show dE 13 [a9 t.1,.int t.2]=true;have:fW 13 (a9 t.1)=true:=h 12 t.1;unfold dE;rw[this];rfl
theorem K?(o:Option bg):fW 14 (oV o)=true:=by
 cases o with
 |none=>rfl
 |some t=>exact K! t
theorem HG(st:ao)(o:Option bg):hG 15 st (oV o) .cO=some o.isNone:=by
 cases o with
 |none=>rfl
 |some t=>rfl
theorem K'{R:List (Option bg)}(h:aq st n=some (R.map oV)):Kp false .cO (.loc n) st=.ok (.bl (R.any Option.isNone)) st:=by
 unfold Kp;dsimp only;rw[h];dsimp only;rw[Vs ⟨rfl,Wa.mpr fun v hv=>by
  obtain⟨o,_,rfl⟩:=V0.mp hv;exact K? o,Wa.mpr fun v hv=>by
  obtain⟨o,_,rfl⟩:=V0.mp hv;rw[HG];rfl⟩]
 congr 2;show(R.map oV).any _=_;rw[List.any_map];congr 1;funext o;show(hG 15 st (oV o) .cO==some true)=_;rw[HG];cases o<;>rfl
def fL(af:Nat)(a:List (Option bg)×Int×Bool)(w:Str):List (Option bg)×Int×Bool:=if a.2.2=true then(a.1,if w = "-" then -1 else 1,false) else(a.1++[fK af w a.2.1],a.2.1,true)
structure DI(af i:Nat)(W:_q)(a:List (Option bg)×Int×Bool):Prop where
 par:a.2.2=decide (i % 2=1)
 sg:a.2.1=1\/a.2.1 = -1
 mem:∀o∈a.1,∃w∈W,∃s:Int,(s=1\/s = -1)/\o=fK af w s
 len:a.1.length<=(i+1) / 2
theorem DI.next{W:_q}{a:List (Option bg)×Int×Bool}(h:DI af i W a){w:Str}(hw:w∈W):DI af (i+1) W (fL af a w):=by
 have p:=h.par;unfold fL;by_cases z:i % 2=1
 .rw[Vs (by rw[p];exact VA z)];refine⟨?_,?_,h.mem,by have:=h.len;dsimp only;lia⟩
  .rw[VE (by lia)]
  .dsimp only;split
   .exact .inr rfl
   .exact .inl rfl
 .rw[Vx (by rw[p];simpa using z)];refine⟨?_,h.sg,fun o ho=>?_,?_⟩
  .rw[VA (by lia)]
  .rcases We.mp ho with ho|ho
   .exact h.mem o ho
   .exact⟨w,hw,a.2.1,h.sg,VZ.mp ho⟩
  .dsimp only;rw[Vz];have:=h.len;simp only[Vo,VI];lia
abbrev Pf:MB:=cU (aT (ah cG (ah bf jt fP) bX)) (cF (jk cL ck (ae (aj PM.dZ (ae aO (ae (ah bY eR jt) (ae fC ak)))) ak))) (ay (aB 4 bA) (cU (aT (ah cG (ah bY eR jt) (qs "-"))) (aB 4 (l5 bA)) aJ))
theorem La{p:Nat}{x7:Option aw}{W:_q}{a:List (Option bg)×Int×Bool}{w:Str}{s:ao}(h1:1<=af)(hm:af<=4)(h:DI af i W a)(hi:W[i]?=some w)(U4:i<=100000)(ha:asc w)(hl:w.length<=640)(hW:aq s p=some (W.map .str))(hq:s[q]?=some (.lst (a.1.map oV))):
  ∃g,Pf [x0, qN af, x2, qL q, qI a.2.1, qL p, qN i, x7] s=.nx [x0, qN af, x2, qL q, qI (fL af a w).2.1, qL p, qN i, x7] ((s++g).set q (.lst ((fL af a w).1.map oV))):=by
 have sl:sizeLine=16777216:=VN;have vy:q<s.length:=(VP.mp hq).1;have hiv:(W.map aw.str)[i]?=some (.str w):=by rw[VV,hi];rfl
 have pa:=h.par;have ln:=h.len;have ix:∀y4:Option aw,ah bY eR jt [x0, qN af, x2, qL q, y4, qL p, qN i, x7] s=.ok (.str w) s:=fun y4=>by rw[aH (x:=.loc p) (s1:=s) rfl (y:=.int (i:Int)) (s2:=s) rfl];exact gX hW (L2.ft hiv)
 obtain⟨μ,hμ⟩:∃μ:MN.Env,μ=[x0, qN af, x2, qL q, qI a.2.1, qL p, qN i, x7]:=⟨_,rfl⟩
 have md:aT (ah cG (ah bf jt fP) bX) μ s=.ok (((i:Int).fmod 2)==0) s:=bu (iJ (eM (o:=(i:Int)) (by rw[hμ];rfl) (by decide)));have fm:=gT (m:=2) (by decide) (i:Int);have fe:(i:Int).fmod 2=((i % 2:Nat):Int):=by rw[WJ _ (by decide)];lia
 by_cases z:i % 2=1
 .have e0:(((i:Int).fmod 2)==0)=false:=by rw[fe,z];rfl
  rw[e0]at md;have ds:fL af a w=(a.1,if w = "-" then -1 else 1,false):=by unfold fL;rw[Vs (by rw[pa];exact VA z)]
  have same:(s++[]).set q (.lst (a.1.map oV))=s:=by
   rw[VW];apply W2;intro j;by_cases hj:q=j
   .subst hj;rw[VY vy,hq]
   .rw[V6 hj]
  refine⟨[],?_⟩;rw[ds];dsimp only;rw[same,<-hμ];unfold Pf;rw[bF,md,az,cE,av,hμ];show(cD.nx [x0, qN af, x2, qL q, qI 1, qL p, qN i, x7] s).cR _=_;rw[ax];have eq:aT (ah cG (ah bY eR jt) (qs "-")) [x0, qN af, x2, qL q, qI 1, qL p, qN i, x7] s=.ok (decide (w = "-")) s:=by refine bu ?_;rw[aH (ix _) (y:=.str "-") (s2:=s) rfl];show c_.ok (aw.bl (w == "-")) s=_;congr 2
  by_cases h:w = "-"
  .rw[VA h]at eq;rw[b6 eq,Vs h];rfl
  .rw[VE h]at eq;rw[cI eq,Vx h]
 .have e0:(((i:Int).fmod 2)==0)=true:=by
   have:i % 2=0:=by lia
   rw[fe,this];rfl
  rw[e0]at md;have ds:fL af a w=(a.1++[fK af w a.2.1],a.2.1,true):=by unfold fL;rw[Vx (by rw[pa];simpa using z)]
  obtain⟨g,e⟩:=yS h1 hm ha hl h.sg s;have e':PM.dZ [.int (af:Int),.str w,.int a.2.1] s=.ok (oV (fK af w a.2.1)) (s++g):=by rw[e];cases fK af w a.2.1<;>rfl
  refine⟨g,?_⟩;rw[ds];dsimp only;rw[<-hμ];unfold Pf;rw[b6 md];have ar:ae (aj PM.dZ (ae aO (ae (ah bY eR jt) (ae fC ak)))) ak μ s=.ok [oV (fK af w a.2.1)] (s++g):=by
   refine d0 ?_;rw[aI (vs:=[.int (af:Int),.str w,.int a.2.1]) (s1:=s)]
   .exact e'
   .rw[hμ];exact hU (v:=.int (af:Int)) (s1:=s) rfl (gg (ix _) rfl)
  rw[fA,wm];have v3:ck μ s=.ok (.loc q) s:=by rw[hμ];rfl
  rw[v3,au,BR hq,ar,au,BS,k7 (d_ hq g) (by rw[VN,Vt];lia),az,Wh];rfl
def Em(x:Str):Int:=if Txt.startswith x "-" = true then -1 else 1
def Pg(af:Nat)(x:Str):List (Option bg)×Int×Bool:=(b7 x).foldl (fL af) ([],Em x,false)
def yV(af:Nat)(x:Str):List (Option bg):=(Pg af x).1
def uF(af:Nat)(x:Str):List bg:=bI 0 (b9 ((yV af x).filterMap id))
def uG(r:Int)(af:Nat)(x:Str):Option (List bg):=if(yV af x).any Option.isNone=true then none else if aR (uF af x)=x/\(r=0\/bI r (b9 (uF af x))=uF af x)then some (uF af x)else none
theorem wV{af:Nat}{W:_q}{s:Int}(hs:s=1\/s = -1):∀i,i<=W.length->DI af i W ((W.take i).foldl (fL af) ([],s,false))
 |0,_=>⟨rfl,hs,fun o ho=>(by cases ho),Vv _⟩
 |i+1,h=>by have ih:=wV (af:=af) (W:=W) hs i (by lia);have hi:i<W.length:=h;rw[Y_ hi,Zx];exact ih.next (Ws hi)
theorem HH(x:Str):Em x=1\/Em x = -1:=by
 unfold Em;split
 .exact .inr rfl
 .exact .inl rfl
theorem HI(af:Nat)(x:Str):DI af (b7 x).length (b7 x) (Pg af x):=by have h:=wV (af:=af) (W:=b7 x) (HH x) (b7 x).length (Vv _);rw[XO]at h;exact h
theorem Lb{p:Nat}{W:_q}{s0:Int}{g0:ao}(hs:s0=1\/s0 = -1)(h1:1<=af)(hm:af<=4)(hn:W.length<=100000)(hw:∀w∈W,asc w/\w.length<=640)(hp:p≠st.length)(hW:aq (st ++ .lst []::g0) p=some (W.map .str)):
  ∃g y4 y6,forL (fun _=>True) (aA 6) Pf (bD 0 ((W.length:Nat):Int).toNat) [x0, qN af, x2, qL st.length, qI s0, qL p, qn, qn] (st ++ .lst []::g0)=.nx [x0, qN af, x2, qL st.length, y4, qL p, y6, qn] (st ++ .lst ((W.foldl (fL af) ([],s0,false)).1.map oV)::g):=by
 have lr:(bD 0 ((W.length:Nat):Int).toNat).length=W.length:=by unfold bD;rw[Vt,V9];lia
 obtain⟨μ',aF,e,g,y6,rfl,hi,rfl⟩:=et (g:=fun _=>True) (a:=aA 6) (body:=Pf)
  (fun i μ s'=>∃(g:ao)(y6:Option aw),s'=st ++ .lst (((W.take i).foldl (fL af) ([],s0,false)).1.map oV)::g/\aq s' p=some (W.map .str)/\μ=[x0, qN af, x2, qL st.length, qI ((W.take i).foldl (fL af) ([],s0,false)).2.1, qL p, y6, qn])
  (bD 0 ((W.length:Nat):Int).toNat) 0 [x0, qN af, x2, qL st.length, qI s0, qL p, qn, qn] (st ++ .lst []::g0)
  (by
   rintro i u μ s' hu ⟨g,y6,rfl,hi,rfl⟩;refine⟨trivial,?_⟩;have oI:=hu;unfold bD at oI;rw[VV]at oI;have hil:i<W.length:=by
    rcases WC i ((W.length:Nat):Int).toNat with q|q
    .lia
    .rw[V8 (by rw[V9];exact q)]at oI;cases oI
   rw[VD (by rw[V9];lia),W']at oI;cases oI;rw[V_]at hi⊢;obtain⟨w1,w2⟩:=hw W[i] (Ws hil);obtain⟨g2,eb⟩:=La (x0:=x0) (x2:=x2) (x7:=none) (i:=i) h1 hm (wV hs i (by lia)) (VD hil) (by lia) w1 w2 hi (oz st _ g);have e0:(0:Int)+(i:Int)=(i:Int):=Ya _;dsimp only;rw[e0];have sm:∀c:aG,((st++aG.lst (((W.take i).foldl (fL af) ([],s0,false)).1.map oV)::g)++g2).set st.length c=st++c::(g++g2):=fun c=>by rw[Vy];exact qA st _ _ _
   rw[sm]at eb;have tk:(W.take (i+1)).foldl (fL af) ([],s0,false)=fL af ((W.take i).foldl (fL af) ([],s0,false)) W[i]:=by rw[Y_ hil,Zx];rfl
   refine⟨_,rfl,_,_,.inl eb,g++g2,_,by rw[tk],?_,by rw[tk]⟩;rw[<-sm];unfold aq;rw[V6 (Xg hp)];exact aC hi g2)
  (fun _ _ _=>trivial) ⟨g0,none,rfl,hW,rfl⟩
 rw[V_,lr,XO]at e;exact⟨g,_,y6,e⟩
theorem Lc{R:List (Option bg)}(h:R.any Option.isNone=false):R.map oV=(R.filterMap id).map tV:=by
 induction R with
 |nil=>rfl
 |cons o R ih=>
  rw[WX,Bool.or_eq_false_iff]at h;cases o with
  |none=>cases h.1
  |some t=>
   rw[Vp,ih h.2];rfl
theorem Ld{A:List bg}(h:t∈bI r A):t.2≠0:=by unfold bI at h;have:=(X0.mp h).2;simpa using this
structure Dg(af:Nat)(D:List bg):Prop where
 Hn:SO.gQ (D.map (·.1))
 len:∀t∈D,t.1.length=af
 rg:∀t∈D,∀e∈t.1,0<=e/\e<=99
 big:∀t∈D,cg t.2<10 ^ 300
 nz:∀t∈D,t.2≠0
theorem Dg.wr(h:Dg af D)(hm:af<=4):∀t∈D,Wr t:=fun t ht=>⟨by rw[h.len t ht];exact hm,fun e he=>by have:=h.rg t ht e he;lia,h.big t ht⟩
theorem Dg.of{L:List bg}(r0:0<=r)(r9:r<=997)(hl:L.length<=400)(hL:∀t∈L,Good af t/\t.2.natAbs<=10 ^ 290):Dg af (bI r (b9 L)):=by
 have p10:((10 ^ 290:Nat):Int)=10 ^ 290:=by decide +kernel
 have S:=Ce (r:=r) (B:=10 ^ 290) (af:=af) (P:=L) (by decide) r0 (fun t ht=>(hL t ht).1.len) (fun t ht=>by have:=(hL t ht).2;lia);refine⟨S.Hn,S.len,fun t ht e he=>?_,fun t ht=>?_,fun t ht=>Ld ht⟩
 .obtain⟨u,hu,eu⟩:=yQ ht;rw[eu]at he;exact(hL u hu).1.rg e he
 .have b:=S.big t ht;have:(L.length:Int)*10 ^ 290<=400*10 ^ 290:=YJ (by lia) (by decide);unfold cg;split<;>lia
theorem Cs(h:t∈(yV af x).filterMap id):∃w∈b7 x,∃s:Int,(s=1\/s = -1)/\fK af w s=some t:=by obtain⟨o,ho,e⟩:=XI.mp h;obtain⟨w,hw,s,hs,e2⟩:=(HI af x).mem o ho;exact⟨w,hw,s,hs,by rw[<-e2];exact e⟩
theorem oR(hx:asc x):∀w∈b7 x,asc w:=(sT 32 (sV hx)).asc
theorem wW(af:Nat)(x:Str):((yV af x).filterMap id).length<=((b7 x).length+1) / 2:=VX (Ys ..) (HI af x).len
theorem AU(hx:asc x)(hn:(b7 x).length<=400)(hw:∀w∈b7 x,w.length<=290):Dg af (uF af x):=by refine Dg.of (Int.le_refl _) (by decide) (VX (wW af x) (by lia)) fun t ht=>?_;obtain⟨w,Tt,s,hs,e⟩:=Cs ht;obtain⟨g1,g2⟩:=s? (oR hx w Tt) hs e;exact⟨g1,VX g2 (Wf (by decide) (hw w Tt))⟩
theorem tq(af:Nat)(x:Str):(uF af x).length<=((b7 x).length+1) / 2:=VX (nC 0 _) (wW af x)
theorem AV(x:Str):(jd x == "-")=Txt.startswith x "-":=by
 have h1:Txt.startswith x "-" = ((cl x).take 1==[45]):=sE x 45;rw[h1];have h2:cl (jd x)=(cl x).take 1:=mn x;have h3:cl ("-":Str)=[45]:=by decide +kernel
 rw[W5,WT,WT,<-h2,<-h3];exact⟨fun h=>by rw[h],fun h=>fh h⟩
abbrev Tu:MT:=eY (aT (ah gq (aj PM.b! (ae g? ak)) bH)) (i_ (aT (ah gq aD bX)) (aT (ah gq (aj PM.bB (ae aD (ae g? ak))) g?)))
theorem AW(h1:1<=af)(hm:af<=4)(hx:asc x)(hl:x.length<=100000)(hn:(b7 x).length<=91)(hw:∀w∈b7 x,w.length<=290)(st:ao):
  match uG r af x with
  |none=>∃g,PM.dF [.int r,.int (af:Int),.str x] st=.ok .cO (st++g)
  |some D=>∃g k,PM.dF [.int r,.int (af:Int),.str x] st=.ok (.loc k) (st++g)/\st.length<=k/\(st++g)[k]?=some (.lst (D.map tV)):=by
 have sl:sizeLine=16777216:=VN;have bl:=yJ x;have wa:=oR hx;have run:PM.dF=gk 3 8 (ay (aB 3 (bq ak)) (ay (aB 4 bA) (ay (aB 5 (eI bH (qs " "))) (ay (cU (aT (ah cG (cJ bH a! (ba bA)) (qs "-"))) (ay (aB 4 (l5 bA)) (aB 5 (eI (cJ bH (ba bA) a!) (qs " ")))) aJ) (ay (dQ (cz (ae (aj bG (ae eR ak)) ak)) (aA 6) Pf) (ay (cU (aT (ah (Kp false) (mC .cO) ck)) (aP (mC .cO)) aJ) (ay (aB 7 (aj PM.bB (ae bX (ae ck ak)))) (ay (cU Tu (aP (mC .cO)) aJ) (aP g?))))))))):=rfl;obtain⟨s1,dI⟩:∃s1,s1=st++[aG.lst []]:=⟨_,rfl⟩
 have f3:aB 3 (bq ak) [qI r, qN af, qS x, qn, qn, qn, qn, qn] st=.nx [qI r, qN af, qS x, qL st.length, qn, qn, qn, qn] s1:=by rw[dI];exact bw (eO (vs:=[]) rfl (VU _))
 have l1:s1.length=st.length+1:=by rw[dI,Vz];rfl
 have L6:∀y:Str,asc y->y.length<=100000->∀(m:ME)(μ:MN.Env)(s:ao),m μ s=.ok (.str y) s->eI m (qs " ") μ s=.ok (.loc s.length) (s++[aG.lst ((Txt.split y " ").map .str)]):=fun y ya yl m μ s e=>by have sp:=(sT 32 ya).len;have e2:Txt.split y " " = Txt.split y ⟨#[32]⟩:=rfl;rw[qC (x:=y) (s1:=s) e (by lia) ⟨by decide +kernel,lj y " " (by lia),by rw[e2];lia⟩]
 obtain⟨s2,fq⟩:∃s2,s2=s1++[aG.lst ((Txt.split x " ").map .str)]:=⟨_,rfl⟩
 have f5:aB 5 (eI bH (qs " ")) [qI r, qN af, qS x, qL st.length, qI 1, qn, qn, qn] s1=.nx [qI r, qN af, qS x, qL st.length, qI 1, qL s1.length, qn, qn] s2:=by rw[fq];exact bw (L6 x hx hl _ _ _ rfl)
 have l2:s2.length=st.length+2:=by rw[fq,Vz,l1];rfl
 have hd:aT (ah cG (cJ bH a! (ba bA)) (qs "-")) [qI r, qN af, qS x, qL st.length, qI 1, qL s1.length, qn, qn] s2=.ok (Txt.startswith x "-") s2:=by refine bu ?_;have t:cJ bH a! (ba bA) [qI r, qN af, qS x, qL st.length, qI 1, qL s1.length, qn, qn] s2=.ok (.str (jd x)) s2:=kC (l:=none) (h:=some 1) rfl rfl rfl (by lia);rw[aH t (y:=.str "-") (s2:=s2) rfl,<-AV];rfl
 have f6:∃g0 p,cU (aT (ah cG (cJ bH a! (ba bA)) (qs "-"))) (ay (aB 4 (l5 bA)) (aB 5 (eI (cJ bH (ba bA) a!) (qs " ")))) aJ [qI r, qN af, qS x, qL st.length, qI 1, qL s1.length, qn, qn] s2=.nx [qI r, qN af, qS x, qL st.length, qI (Em x), qL p, qn, qn] (st ++ .lst []::g0)/\p≠st.length/\aq (st ++ .lst []::g0) p=some ((b7 x).map .str):=by
  have e2:∀c:aG,s1++[c]=st++aG.lst []::[c]:=fun c=>by rw[dI,Vy];rfl
  cases q:Txt.startswith x "-" with
  |false=>
   rw[q]at hd;refine⟨[aG.lst ((Txt.split x " ").map .str)],s1.length,?_,by lia,?_⟩
   .rw[cI hd];unfold Em;rw[q,Vx VC,<-e2,fq]
   .rw[<-e2];have:b7 x=Txt.split x " ":=by unfold b7 e!;rw[q,Vx VC]
    rw[this];exact aN _ _
  |true=>
   rw[q]at hd;have wx:b7 x=Txt.split (cQ x) " ":=by unfold b7 e!;rw[q,Vs rfl]
   have bx:e! x=cQ x:=by unfold e!;rw[q,Vs rfl]
   have e3:s2++[aG.lst ((Txt.split (cQ x) " ").map .str)]=st++aG.lst []::[aG.lst ((Txt.split x " ").map .str),aG.lst ((Txt.split (cQ x) " ").map .str)]:=by rw[fq,dI,Vy,Vy];rfl
   refine⟨[aG.lst ((Txt.split x " ").map .str),aG.lst ((Txt.split (cQ x) " ").map .str)],s2.length,?_,by lia,?_⟩
   .rw[b6 hd,av];show(cD.nx [qI r, qN af, qS x, qL st.length, qI (-1), qL s1.length, qn, qn] s2).cR _=_;rw[ax,<-e3];unfold Em;rw[q,Vs rfl];exact bw (L6 (cQ x) (by rw[<-bx];exact sV hx) (by rw[<-bx];lia) _ _ _ (kC (l:=some 1) (h:=none) rfl rfl rfl (by lia)))
   .rw[<-e3,wx];exact aN _ _
 obtain⟨g0,p,f6,hp,hW⟩:=f6;obtain⟨g,y4,y6,lp⟩:=Lb (x0:=some (.int r)) (x2:=some (.str x)) (HH x) h1 hm (by lia) (fun w h=>⟨wa w h,by have:=hw w h;lia⟩) hp hW;have lpe:((b7 x).foldl (fL af) ([],Em x,false)).1=yV af x:=rfl;rw[lpe]at lp;obtain⟨R,hR⟩:∃R,R=yV af x:=⟨_,rfl⟩
 rw[<-hR]at lp;obtain⟨s4,vA⟩:∃s4,s4=st++aG.lst (R.map oV)::g:=⟨_,rfl⟩
 rw[<-vA]at lp;have at4:s4[st.length]?=some (.lst (R.map oV)):=by rw[vA];exact oz st _ g
 have f7:dQ (cz (ae (aj bG (ae eR ak)) ak)) (aA 6) Pf [qI r, qN af, qS x, qL st.length, qI (Em x), qL p, qn, qn] (st ++ .lst []::g0)=.nx [qI r, qN af, qS x, qL st.length, y4, qL p, y6, qn] s4:=by
  have ln:aj bG (ae eR ak) [qI r, qN af, qS x, qL st.length, qI (Em x), qL p, qn, qn] (st ++ .lst []::g0)=.ok (.int ((b7 x).length:Nat)) (st ++ .lst []::g0):=by rw[aI (d0 (v:=.loc p) (s1:=st ++ .lst []::g0) rfl),gu hW,Vt]
  rw[fF,sM (d0 ln) (by lia) (by lia),az,gP,lp]
 obtain⟨μ,hμ⟩:∃μ:MN.Env,μ=[qI r, qN af, qS x, qL st.length, y4, qL p, y6, qn]:=⟨_,rfl⟩
 rw[<-hμ]at f7;have f8:aT (ah (Kp false) (mC .cO) ck) μ s4=.ok (R.any Option.isNone) s4:=by refine bu ?_;rw[aH (x:=.cO) (s1:=s4) rfl (y:=.loc st.length) (s2:=s4) (by rw[hμ];rfl),K' (dU at4)]
 have head:PM.dF [.int r,.int (af:Int),.str x] st=(ay (cU (aT (ah (Kp false) (mC .cO) ck)) (aP (mC .cO)) aJ) (ay (aB 7 (aj PM.bB (ae bX (ae ck ak)))) (ay (cU Tu (aP (mC .cO)) aJ) (aP g?))) μ s4).fin:=by rw[run,aY (np:=3) (us:=[.int r,.int (af:Int),.str x]) rfl];show(ay (aB 3 _) _ [qI r, qN af, qS x, qn, qn, qn, qn, qn] st).fin=_;rw[av,f3,ax,av];show((cD.nx [qI r, qN af, qS x, qL st.length, qI 1, qn, qn, qn] s1).cR _).fin=_;rw[ax,av,f5,ax,av,f6,ax,av,f7,ax]
 have aac:s4=st++(aG.lst (R.map oV)::g):=vA;rw[head];unfold uG;rw[<-hR];cases ha:R.any Option.isNone with
 |true=>
  rw[ha]at f8;rw[Vs rfl];refine⟨aG.lst (R.map oV)::g,?_⟩;rw[<-aac,av,b6 f8];rfl
 |false=>
  rw[ha]at f8;rw[Vx VC,av,cI f8,ax];have rt:=Lc ha;obtain⟨P,hP⟩:∃P,P=R.filterMap id:=⟨_,rfl⟩
  rw[<-hP]at rt;have gd:=AU (af:=af) hx (by lia) hw;have fw:=tq af x;have pf:=wW af x;rw[<-hR,<-hP]at pf;have ePG:uF af x=bI 0 (b9 P):=by rw[hP,hR];rfl
  obtain⟨D,hD⟩:∃D,D=uF af x:=⟨_,rfl⟩
  rw[<-hD]at gd fw ePG⊢;have Pne:∀t∈P,t.1≠[]:=fun t ht=>by rw[hP,hR]at ht;obtain⟨w,Tt,s,hs,e⟩:=Cs ht;obtain⟨g1,_⟩:=s? (wa w Tt) hs e;have:=g1.len;intro z;rw[z]at this;simp at this;lia
  obtain⟨c1,c3,eg⟩:=gY (r:=0) (st:=s4) (P:=P) (p:=st.length) (by rw[dU at4,rt]) (by lia) Pne;rw[<-ePG]at eg;obtain⟨s5,uD⟩:∃s5,s5=s4++[c1,aG.lst (D.map tV),c3]:=⟨_,rfl⟩
  rw[<-uD]at eg;have at5:s5[s4.length+1]?=some (.lst (D.map tV)):=by
   rw[uD,VS (by lia)];have:s4.length+1-s4.length=1:=by lia
   rw[this];rfl
  have f9:aB 7 (aj PM.bB (ae bX (ae ck ak))) μ s4=.nx [qI r, qN af, qS x, qL st.length, y4, qL p, y6, qL (s4.length+1)] s5:=by
   have c:aj PM.bB (ae bX (ae ck ak)) μ s4=.ok (.loc (s4.length+1)) s5:=by rw[aI (gg (v:=.int 0) (s1:=s4) rfl (w:=.loc st.length) (s2:=s4) (by rw[hμ];rfl))];exact eg
   rw[bw c,hμ];rfl
  obtain⟨ν,hν⟩:∃ν:MN.Env,ν=[qI r, qN af, qS x, qL st.length, y4, qL p, y6, qL (s4.length+1)]:=⟨_,rfl⟩
  rw[<-hν]at f9;obtain⟨gw,ew⟩:=iL (dU at5) (by lia) (gd.wr hm);obtain⟨s6,hs6⟩:∃s6,s6=s5++gw:=⟨_,rfl⟩
  rw[<-hs6]at ew;have R9:s6[s4.length+1]?=some (.lst (D.map tV)):=by rw[hs6];exact d_ at5 _
  have t1:aT (ah gq (aj PM.b! (ae g? ak)) bH) ν s5=.ok (!decide (aR D=x)) s6:=by
   refine bu ?_;have c:aj PM.b! (ae g? ak) ν s5=.ok (.str (aR D)) s6:=by rw[aI (d0 (v:=.loc (s4.length+1)) (s1:=s5) (by rw[hν];rfl)),my];exact ew
   rw[aH c (y:=.str x) (s2:=s6) (by rw[hν];rfl)];show c_.ok (aw.bl (!(aR D==x))) s6=_;congr 2
  have Dne:∀t∈D,t.1≠[]:=fun t ht z=>by have:=gd.len t ht;rw[z]at this;simp at this;lia
  obtain⟨d1,d3,eg2⟩:=gY (r:=r) (st:=s6) (P:=D) (p:=s4.length+1) (dU R9) (by lia) Dne;obtain⟨s7,Tv⟩:∃s7,s7=s6++[d1,aG.lst ((bI r (b9 D)).map tV),d3]:=⟨_,rfl⟩
  rw[<-Tv]at eg2;have at7:s7[s6.length+1]?=some (.lst ((bI r (b9 D)).map tV)):=by
   rw[Tv,VS (by lia)];have:s6.length+1-s6.length=1:=by lia
   rw[this];rfl
  have aad:s7[s4.length+1]?=some (.lst (D.map tV)):=by rw[Tv];exact d_ R9 _
  have t2:aT (ah gq aD bX) ν s6=.ok (!decide (r=0)) s6:=by refine bu ?_;rw[aH (x:=.int r) (s1:=s6) (by rw[hν];rfl) (y:=.int 0) (s2:=s6) rfl];show c_.ok (aw.bl (!(r==0))) s6=_;congr 2
  have t3:aT (ah gq (aj PM.bB (ae aD (ae g? ak))) g?) ν s6=.ok (!decide (bI r (b9 D)=D)) s7:=by
   refine bu ?_;have c:aj PM.bB (ae aD (ae g? ak)) ν s6=.ok (.loc (s6.length+1)) s7:=by rw[aI (gg (v:=.int r) (s1:=s6) (by rw[hν];rfl) (w:=.loc (s4.length+1)) (s2:=s6) (by rw[hν];rfl))];exact eg2
   rw[aH c (y:=.loc (s4.length+1)) (s2:=s7) (by rw[hν];rfl),HF (dU at7) (dU aad)]
  have test:∃more,Tu ν s5=.ok (!decide (aR D=x/\(r=0\/bI r (b9 D)=D))) (s6++more):=by
   unfold Tu;by_cases z1:aR D=x
   .rw[VA z1]at t1;by_cases z2:r=0
    .rw[VA z2]at t2;refine⟨[],?_⟩;rw[dC,t1,au];show Dk _ _ false s6=_;rw[dS,jQ,t2,au];show yc _ _ false s6=_;rw[m8,VA ⟨z1,.inl z2⟩,VW];rfl
    .rw[VE z2]at t2;refine⟨[d1,aG.lst ((bI r (b9 D)).map tV),d3],?_⟩;rw[dC,t1,au];show Dk _ _ false s6=_;rw[dS,jQ,t2,au];show yc _ _ true s6=_;rw[m7,t3,<-Tv];by_cases z3:bI r (b9 D)=D
     .rw[VA z3,VA ⟨z1,.inr z3⟩]
     .rw[VE z3,VE fun h=>h.2.elim z2 z3]
   .rw[VE z1]at t1;refine⟨[],?_⟩;rw[dC,t1,au];show Dk _ _ true s6=_;rw[ij,VE fun h=>z1 h.1,VW];rfl
  obtain⟨more,test⟩:=test;have es:s6++more=st++(aG.lst (R.map oV)::g++[c1,aG.lst (D.map tV),c3]++gw++more):=by rw[hs6,uD,vA];simp only[Vy]
  rw[av,f9,ax,av];by_cases z:aR D=x/\(r=0\/bI r (b9 D)=D)
  .rw[VA z]at test;rw[Vs z];refine⟨aG.lst (R.map oV)::g++[c1,aG.lst (D.map tV),c3]++gw++more,s4.length+1,?_,?_,?_⟩
   .rw[<-es,cI test,ax,hν];rfl
   .rw[vA,Vz];lia
   .rw[<-es];exact d_ R9 _
  .rw[VE z]at test;rw[Vx z];refine⟨aG.lst (R.map oV)::g++[c1,aG.lst (D.map tV),c3]++gw++more,?_⟩;rw[<-es,b6 test];rfl
theorem Ph(h:ir x=true):(jY x).natAbs<=10 ^ x.length:=by obtain⟨h1,_⟩:=jB h;have z:=mr (cl x) 0 h1;rw[V_,XW,a_]at z;unfold jY PySem.NumText.digitsVal;rw[ZQ];lia
theorem Pj{e:Int}(h:uE x=some e):0<=e/\e<=99:=by
 unfold uE at h;split at h
 .cases h;decide
 .split at h
  .rename_i hh;cases h;refine⟨Hs _,?_⟩;obtain⟨g1,_⟩:=jB hh.2.1;have zz:=mr (cl (cQ x)) 0 g1;rw[V_,XW,a_]at zz;have pp:(10:Nat) ^ (cQ x).length<=10 ^ 2:=Wf (by decide) hh.2.2;have p2:(10:Nat) ^ 2=100:=by decide
   unfold jY PySem.NumText.digitsVal;lia
  .cases h
theorem HJ{a b:bg}{f:Str}(h:sS af a f=some b)(la:a.1.length=af)(ha:∀e∈a.1,0<=e/\e<=99):b.1.length=af/\(∀e∈b.1,0<=e/\e<=99)/\b.2.natAbs<=a.2.natAbs*10 ^ f.length:=by
 unfold sS at h;have p1:1<=10 ^ f.length:=YZ _ _ (by decide);split at h
 .rename_i hf;cases h;refine⟨la,ha,?_⟩;show(a.2*jY f).natAbs<=_;rw[Y2];exact ZA _ (Ph hf)
 .cases he:uE (cQ f) with
  |none=>rw[he]at h;cases h
  |some e=>
   rw[he]at h;dsimp only at h;cases hp:jq (List.range af) (jd f) with
   |none=>rw[hp]at h;cases h
   |some i=>
    rw[hp]at h;cases h;refine⟨by show(a.1.set _ _).length=af;rw[Wm];exact la,fun y hy=>?_,Zg _ p1⟩;rcases Xq hy with z|z
    .exact ha y z
    .rw[z];exact Pj he
theorem vE{af:Nat}:∀(fs:_q){a c:bg},kE af a fs=some c->a.1.length=af->(∀e∈a.1,0<=e/\e<=99)->c.1.length=af/\(∀e∈c.1,0<=e/\e<=99)/\c.2.natAbs<=a.2.natAbs*10 ^ gp fs
 |[],a,c,h,la,ha=>by cases h;exact⟨la,ha,by unfold gp;simp⟩
 |f::fs,a,c,h,la,ha=>by
  unfold kE at h;cases hb:sS af a f with
  |none=>rw[hb]at h;cases h
  |some b=>
   rw[hb]at h;obtain⟨g1,g2,g4⟩:=HJ hb la ha;obtain⟨i1,i2,i3⟩:=vE fs h g1 g2;have ht:gp (f::fs)=f.length+gp fs:=by unfold gp;rw[Vp,WW]
   refine⟨i1,i2,VX i3 ?_⟩;rw[ht,Zw,<-Y9];exact WN _ g4
theorem DX{sg w:Str}(hw:asc w){c:bg}(h:pairF af sg w=some c):Good af c/\c.2.natAbs<=10 ^ w.length:=by
 unfold pairF at h;split at h
 .obtain⟨i1,i2,i3⟩:=vE _ h (V3 ..) (fun e he=>by rw[WH he];decide);have tt:gp (Txt.split w "*")<=w.length:=(sT 42 hw).Gm;refine⟨⟨i1,i2⟩,VX i3 ?_⟩;have p:(10:Nat) ^ gp (Txt.split w "*")<=10 ^ w.length:=Wf (by decide) tt;have o:((if sg = "-" then -1 else 1:Int)).natAbs=1:=by split<;>rfl
  dsimp only;rw[o];lia
 .cases h
theorem tu{af:Nat}:∀(zs:List (Str×Str)){P:List bg},iM af zs=some P->P.length=zs.length/\∀t∈P,∃z∈zs,pairF af z.1 z.2=some t
 |[],P,h=>by cases h;exact⟨rfl,fun t ht=>by cases ht⟩
 |z::zs,P,h=>by
  unfold iM at h;cases hp:pairF af z.1 z.2 with
  |none=>rw[hp]at h;cases h
  |some c=>
   rw[hp]at h;dsimp only at h;cases hq:iM af zs with
   |none=>rw[hq]at h;cases h
   |some Q=>
    rw[hq]at h;cases h;obtain⟨i1,i2⟩:=tu zs hq;refine⟨by rw[Vo,Vo,i1],fun t ht=>?_⟩;rcases VJ.mp ht with rfl|ht
    .exact⟨z,Vu,hp⟩
    .obtain⟨y,hy,e⟩:=i2 t ht;exact⟨y,Vq _ hy,e⟩
theorem Ct{α:Type}:∀xs:List α,(DR xs).length<=(xs.length+1) / 2
 |[]=>VU _
 |[a]=>by show 1<=(1+1) / 2;decide
 |a::b::xs=>by have:=Ct xs;show(DR xs).length+1<=(xs.length+1+1+1) / 2;lia
theorem HK(hx:asc x)(hw:∀w∈b7 x,w.length<=290){Q:List bg}(h:sU af x=some Q):Q.length<=((b7 x).length+1) / 2/\∀t∈Q,Good af t/\t.2.natAbs<=10 ^ 290:=by
 unfold sU at h;split at h
 .cases h
 .obtain⟨i1,i2⟩:=tu _ h;refine⟨?_,fun t ht=>?_⟩
  .rw[i1,XG,yN];exact VX (Z9 _ _) (Ct _)
  .obtain⟨z,hz,e⟩:=i2 t ht;have hm:=yL (X! hz).2;obtain⟨g1,g2⟩:=DX (oR hx _ hm) e;exact⟨g1,VX g2 (Wf (by decide) (hw _ hm))⟩
theorem ll(n:Int):(nS n = "-")↔n<0:=by
 unfold nS;split
 .rename_i h;exact⟨fun _=>h,fun _=>rfl⟩
 .rename_i h;exact⟨fun z=>absurd z (by decide),fun z=>absurd z h⟩
def Lw(af:Nat)(u:bg):Prop:=u.1.length=af/\(∀e∈u.1,0<=e/\e<=99)/\(bM (cg u.2)).length<=60
theorem yW(hm:af<=4){u:bg}(h:Lw af u):fK af (gD u) (if u.2<0 then -1 else 1)=some u:=by
 have z:=AR hm (if u.2<0 then -1 else 1) h.1 h.2.1 (e9 u.2) h.2.2;show fK af (cq u.1 (cg u.2)) _=_;rw[z];have:(if u.2<0 then -1 else 1)*cg u.2=u.2:=by unfold cg;split<;>lia
 rw[this]
theorem yX{af:Nat}(hm:af<=4):∀(Q:List bg)(R:List (Option bg))(s:Int),(∀u∈Q,Lw af u)->∃s',(p6 Q).foldl (fL af) (R,s,true)=(R++Q.map some,s',true)
 |[],R,s,_=>⟨s,by simp[p6]⟩
 |u::Q,R,s,h=>by
  obtain⟨s',ih⟩:=yX hm Q (R++[some u]) (if u.2<0 then -1 else 1) fun v hv=>h v (Vq _ hv);refine⟨s',?_⟩;show((nS u.2)::gD u::p6 Q).foldl (fL af) (R,s,true)=_;rw[X?,X?];have d1:fL af (R,s,true) (nS u.2)=(R,if u.2<0 then -1 else 1,false):=by
   show(R,(if nS u.2 = "-" then(-1:Int)else 1),false)=_;by_cases z:u.2<0
   .rw[Vs z,Vs ((ll _).mpr z)]
   .rw[Vx z,Vx fun y=>z ((ll _).mp y)]
  have d2:fL af (R,if u.2<0 then -1 else 1,false) (gD u)=(R++[some u],if u.2<0 then -1 else 1,true):=by show(R++[fK af (gD u) (if u.2<0 then -1 else 1)],(if u.2<0 then(-1:Int)else 1),true)=_;rw[yW hm (h u Vu)]
  rw[d1,d2,ih,Vy];rfl
theorem vF(hm:af<=4){Q:List bg}(h:∀u∈t::Q,Lw af u):yV af (aR (t::Q))=(t::Q).map some:=by
 obtain⟨p1,p2,_⟩:=gU (t:=t) (Q:=Q) fun u hu=>⟨by rw[(h u hu).1];exact hm,fun e he=>((h u hu).2.1 e he).1⟩
 obtain⟨s',f⟩:=yX hm Q [some t] (if t.2<0 then -1 else 1) fun v hv=>h v (Vq _ hv);have s0:Em (aR (t::Q))=if t.2<0 then -1 else 1:=by
  unfold cV at p1;unfold Em;cases q:Txt.startswith (aR (t::Q)) "-" with
  |true=>
   rw[q,Vs rfl]at p1;rw[Vs rfl,Vs ((ll _).mp p1.symm)]
  |false=>
   rw[q,Vx VC]at p1;rw[Vx VC,Vx fun z=>by
    rw[(ll _).mpr z]at p1;exact absurd p1 (by decide)]
 unfold yV Pg;rw[p2,s0,X?];have d2:fL af ([],if t.2<0 then -1 else 1,false) (gD t)=([some t],if t.2<0 then -1 else 1,true):=by show([]++[fK af (gD t) (if t.2<0 then -1 else 1)],(if t.2<0 then(-1:Int)else 1),true)=_;rw[yW hm (h t Vu)];rfl
 rw[d2,f];rfl
theorem any_some(P:List bg):(P.map some).any Option.isNone=false:=by
 induction P with
 |nil=>rfl
 |cons a P ih=>rw[Vp,WX,ih];rfl
theorem Cu(P:List bg):(P.map some).filterMap id=P:=by
 induction P with
 |nil=>rfl
 |cons a P ih=>rw[Vp,WO];dsimp only[id];rw[ih]
def ke(c:Nat):Bool:=decide (48<=c)&&decide (c<=57)
def L8(c:Nat):Bool:=c !=32
def da(p:Nat->Bool)(M:Nat):Nat->List Nat->Bool
 |_,[]=>true
 |k,c::l=>if p c=true then decide (k+1<=M)&&da p M (k+1) l else da p M 0 l
def nH(N:Nat):Nat->Bool->List Nat->Bool
 |_,_,[]=>true
 |k,f,c::l=>if ke c=true then(!f&&decide (k+1<=N))&&nH N (k+1) false l else nH N 0 (decide (0<k)) l
theorem fj{p:Nat->Bool}{M c:Nat}{l:List Nat}(h:p c=true):da p M k (c::l)=true↔k+1<=M/\da p M (k+1) l=true:=by
 conv=>lhs;unfold da
 rw[Vs h,V4,W6]
theorem eQ{p:Nat->Bool}{M c:Nat}{l:List Nat}(h:p c=false):da p M k (c::l)=da p M 0 l:=by
 conv=>lhs;unfold da
 rw[Vx (by rw[h];exact VC)]
theorem tw{N c:Nat}{f:Bool}{l:List Nat}(h:ke c=true):nH N k f (c::l)=true↔(f=false/\k+1<=N)/\nH N (k+1) false l=true:=by
 conv=>lhs;unfold nH
 rw[Vs h,V4,V4,W6,XX]
theorem iO{N c:Nat}{f:Bool}{l:List Nat}(h:ke c=false):nH N k f (c::l)=nH N 0 (decide (0<k)) l:=by
 conv=>lhs;unfold nH
 rw[Vx (by rw[h];exact VC)]
theorem dB{p:Nat->Bool}{M M':Nat}:∀{l:List Nat}{j k a:Nat},j<=k+a->M+a<=M'->da p M k l=true->da p M' j l=true
 |[],_,_,_,_,_,_=>rfl
 |c::l,j,k,a,hj,hM,h=>by
  cases hc:p c with
  |true=>
   rw[fj hc]at h⊢;exact⟨by lia,dB (by lia) hM h.2⟩
  |false=>
   rw[eQ hc]at h⊢;exact dB (VU _) hM h
theorem tD{p:Nat->Bool}{M:Nat}:∀{A B:List Nat}{k:Nat},da p M k (A++B)=true->da p M k A=true
 |[],_,_,_=>rfl
 |c::A,B,k,h=>by
  rw[VH]at h;cases hc:p c with
  |true=>
   rw[fj hc]at h⊢;exact⟨h.1,tD h.2⟩
  |false=>
   rw[eQ hc]at h⊢;exact tD h
theorem gW{p:Nat->Bool}{M:Nat}:∀{A B:List Nat}{k:Nat},da p M k (A++B)=true->da p M 0 B=true
 |[],_,_,h=>dB (a:=0) (VU _) (Vv _) h
 |c::A,B,k,h=>by
  rw[VH]at h;cases hc:p c with
  |true=>exact gW ((fj hc).mp h).2
  |false=>
   rw[eQ hc]at h;exact gW h
theorem tF{p:Nat->Bool}{M:Nat}:∀{A:List Nat}{k:Nat},A≠[]->(∀c∈A,p c=true)->da p M k A=true->k+A.length<=M
 |[],_,hn,_,_=>absurd rfl hn
 |c::A,k,_,ha,h=>by
  obtain⟨h1,h2⟩:=(fj (ha c Vu)).mp h;cases A with
  |nil=>exact h1
  |cons d A=>
   have:=tF (by simp) (fun x hx=>ha x (Vq _ hx)) h2;rw[Vo];lia
theorem qF{p:Nat->Bool}{M c:Nat}:∀{ps:List (List Nat)}{k:Nat},da p M k (jn c ps)=true->∀q∈ps,da p M 0 q=true
 |[],_,_,q,hq=>by cases hq
 |[a],k,h,q,hq=>by rw[VZ.mp hq];exact dB (a:=0) (VU _) (Vv _) h
 |a::b::r,k,h,q,hq=>by
  have h':da p M k (a++(c::jn c (b::r)))=true:=h;rcases VJ.mp hq with rfl|hq
  .exact dB (a:=0) (VU _) (Vv _) (tD h')
  .have:=gW (A:=[c]) (B:=jn c (b::r)) (gW h');exact qF this q hq
theorem kI{p:Nat->Bool}{M:Nat}:∀{A B:List Nat}{k:Nat},(∀c∈A,p c=true)->k+A.length<=M->da p M (k+A.length) B=true->da p M k (A++B)=true
 |[],_,_,_,_,h=>h
 |c::A,B,k,ha,hl,h=>by
  rw[Vo]at hl h;rw[VH,fj (ha c Vu)];have e:k+1+A.length=k+(A.length+1):=by lia
  rw[<-e]at h;exact⟨by lia,kI (fun x hx=>ha x (Vq _ hx)) (by lia) h⟩
theorem AX{p:Nat->Bool}{N:Nat}(x:Nat):∀{A B:List Nat}{k:Nat},k<=N->da p N k (A++B)=true->da p (2*N+1) k (A++x::B)=true
 |[],B,k,hk,h=>by
  rw[VG]at h⊢;cases hx:p x with
  |true=>
   rw[fj hx];exact⟨by lia,dB (a:=1) (by lia) (by lia) h⟩
  |false=>
   rw[eQ hx];exact dB (a:=0) (VU _) (by lia) h
 |c::A,B,k,hk,h=>by
  rw[VH]at h⊢;cases hc:p c with
  |true=>
   rw[fj hc]at h⊢;exact⟨by lia,AX x h.1 h.2⟩
  |false=>
   rw[eQ hc]at h⊢;exact AX x (VU _) h
theorem tH{p:Nat->Bool}{N j:Nat}(hj:j<=N+1){l:List Nat}(h:da p N 0 l=true):da p (2*N+1) j l=true:=dB (a:=N+1) (by lia) (by lia) h
theorem AY{p:Nat->Bool}{N c:Nat}:∀{A B:List Nat}{k:Nat},k<=N->da p N k (A++c::B)=true->da p (2*N+1) k (A++B)=true
 |[],B,k,hk,h=>tH (by lia) (gW (A:=[c]) h)
 |d::A,B,k,hk,h=>by
  rw[VH]at h⊢;cases hc:p d with
  |true=>
   rw[fj hc]at h⊢;exact⟨by lia,AY h.1 h.2⟩
  |false=>
   rw[eQ hc]at h⊢;exact AY (VU _) h
theorem AZ{p:Nat->Bool}{N c:Nat}(x:Nat):∀{A B:List Nat}{k:Nat},k<=N->da p N k (A++c::B)=true->da p (2*N+1) k (A++x::B)=true
 |[],B,k,hk,h=>by
  have hB:da p N 0 B=true:=gW (A:=[c]) h;rw[VG];cases hx:p x with
  |true=>
   rw[fj hx];exact⟨by lia,tH (by lia) hB⟩
  |false=>
   rw[eQ hx];exact tH (VU _) hB
 |d::A,B,k,hk,h=>by
  rw[VH]at h⊢;cases hc:p d with
  |true=>
   rw[fj hc]at h⊢;exact⟨by lia,AZ x h.1 h.2⟩
  |false=>
   rw[eQ hc]at h⊢;exact AZ x (VU _) h
theorem gK{N:Nat}:∀{B:List Nat}{k j:Nat}{f:Bool},j<=k+1->nH N k f B=true->da ke (N+1) j B=true
 |[],_,_,_,_,_=>rfl
 |c::B,k,j,f,hj,h=>by
  cases hc:ke c with
  |true=>
   rw[tw hc]at h;rw[fj hc];exact⟨by lia,gK (by lia) h.2⟩
  |false=>
   rw[iO hc]at h;rw[eQ hc];exact gK (VU _) h
theorem wX{N:Nat}(x:Nat):∀{A B:List Nat}{k:Nat}{f:Bool},k<=N->nH N k f (A++B)=true->da ke (N+1) k (A++x::B)=true
 |[],B,k,f,hk,h=>by
  rw[VG]at h⊢;cases hx:ke x with
  |true=>
   rw[fj hx];exact⟨by lia,gK (Vv _) h⟩
  |false=>
   rw[eQ hx];exact gK (VU _) h
 |c::A,B,k,f,hk,h=>by
  rw[VH]at h⊢;cases hc:ke c with
  |true=>
   rw[tw hc]at h;rw[fj hc];exact⟨by lia,wX x h.1.2 h.2⟩
  |false=>
   rw[iO hc]at h;rw[eQ hc];exact wX x (VU _) h
theorem A0{N c j:Nat}{f:Bool}{B:List Nat}(hj:j<=k+1)(hk:k<=N)(h:nH N k f (c::B)=true):da ke (N+1) j B=true:=by
 cases hc:ke c with
 |true=>exact gK (by lia) ((tw hc).mp h).2
 |false=>
  rw[iO hc]at h;by_cases hz:k=0
  .exact gK (by lia) h
  .rw[VA (by lia)]at h;cases B with
   |nil=>rfl
   |cons b B=>
    cases hb:ke b with
    |true=>exact absurd ((tw hb).mp h).1.1 (by decide)
    |false=>
     rw[iO hb]at h;rw[eQ hb];exact gK (VU _) h
theorem A1{N c:Nat}:∀{A B:List Nat}{k:Nat}{f:Bool},k<=N->nH N k f (A++c::B)=true->da ke (N+1) k (A++B)=true
 |[],B,k,f,hk,h=>A0 (Nat.le_succ _) hk h
 |d::A,B,k,f,hk,h=>by
  rw[VH]at h⊢;cases hc:ke d with
  |true=>
   rw[tw hc]at h;rw[fj hc];exact⟨by lia,A1 h.1.2 h.2⟩
  |false=>
   rw[iO hc]at h;rw[eQ hc];exact A1 (VU _) h
theorem A2{N c:Nat}(x:Nat):∀{A B:List Nat}{k:Nat}{f:Bool},k<=N->nH N k f (A++c::B)=true->da ke (N+1) k (A++x::B)=true
 |[],B,k,f,hk,h=>by
  rw[VG]at h⊢;cases hx:ke x with
  |true=>
   rw[fj hx];exact⟨by lia,A0 (Vv _) hk h⟩
  |false=>
   rw[eQ hx];exact A0 (VU _) hk h
 |d::A,B,k,f,hk,h=>by
  rw[VH]at h⊢;cases hc:ke d with
  |true=>
   rw[tw hc]at h;rw[fj hc];exact⟨by lia,A2 x h.1.2 h.2⟩
  |false=>
   rw[iO hc]at h;rw[eQ hc];exact A2 x (VU _) h
structure jC(x:Str):Prop where
 asc:asc x
 len:x.length<=60000
 dig:da ke 60 0 (cl x)=true
 Pk:da L8 289 0 (cl x)=true
 Pl:(cl x).count 32<=90
structure Src(x:Str):Prop where
 asc:asc x
 len:x.length<=50000
 dig:nH 59 0 false (cl x)=true
 Pk:da L8 140 0 (cl x)=true
 Pl:(cl x).count 32<=60
theorem Src.Sn(h:Src x):jC x:=⟨h.asc,by have:=h.len;lia,gK (N:=59) (VU _) h.dig,dB (a:=0) (VU _) (by lia) h.Pk,by have:=h.Pl;lia⟩
theorem tJ(x:Str)(c:Nat):cl x=jn c ((Txt.split x ⟨#[c]⟩).map cl)/\∀w∈Txt.split x ⟨#[c]⟩,c ∉ cl w:=by
 have h1:=YO x ⟨#[c]⟩;have h4:Txt.join ⟨#[c]⟩ (Txt.split x ⟨#[c]⟩)=x:=by have:Txt.join ⟨#[c]⟩ (Txt.split x ⟨#[c]⟩)=PySem.Str.join ⟨#[c]⟩ (Txt.split x ⟨#[c]⟩):=Xi _ _;rw[this];exact h1
 refine⟨?_,StrLaws.split_free x c⟩;have:=gI c (Txt.split x ⟨#[c]⟩);rw[h4]at this;exact this
theorem yY{c:Nat}:∀{ps:List (List Nat)},(∀p∈ps,c ∉ p)->ps.length<=(jn c ps).count c+1
 |[],_=>VU _
 |[a],_=>by show 1<=_;lia
 |a::b::r,h=>by have ih:=yY (ps:=b::r) fun p hp=>h p (Vq _ hp);show(b::r).length+1<=(a++c::jn c (b::r)).count c+1;rw[Wv,YH];lia
theorem tK(x:Str):∃A,cl x=A++cl (e! x):=by
 unfold e!;split
 .refine⟨(cl x).take 1,?_⟩;have:cl (cQ x)=(cl x).drop 1:=iH x;rw[this,List.take_append_drop]
 .exact⟨[],rfl⟩
theorem lq(h:jC x):(b7 x).length<=91:=by
 obtain⟨A,hA⟩:=tK x;obtain⟨s1,s2⟩:=tJ (e! x) 32;have z:=yY (c:=32) (ps:=(Txt.split (e! x) ⟨#[32]⟩).map cl) fun p hp=>by obtain⟨w,hw,rfl⟩:=V0.mp hp;exact s2 w hw
 rw[<-s1,Vt]at z;have b:=h.Pl;rw[hA,Wv]at b;show(Txt.split (e! x) ⟨#[32]⟩).length<=91;lia
theorem kJ(h:jC x):∀w∈b7 x,w.length<=290:=fun w hw=>by
 obtain⟨A,hA⟩:=tK x;obtain⟨s1,s2⟩:=tJ (e! x) 32;have OK:w∈Txt.split (e! x) ⟨#[32]⟩:=hw;have r:=h.Pk;rw[hA]at r;have r2:=gW r;rw[s1]at r2;have r3:=qF r2 (cl w) (V0.mpr ⟨w,OK,rfl⟩);by_cases hn:cl w=[]
 .rw[<-a_,hn];decide
 .have:=tF hn (fun c hc=>by
   have:c≠32:=fun e=>s2 w OK (by rw[<-e];exact hc);unfold L8;exact ZJ.mpr this) r3
  rw[a_]at this;lia
theorem DY(h:jC x):∀w∈b7 x,da ke 60 0 (cl w)=true:=fun w hw=>by obtain⟨A,hA⟩:=tK x;obtain⟨s1,s2⟩:=tJ (e! x) 32;have OK:w∈Txt.split (e! x) ⟨#[32]⟩:=hw;have r:=h.dig;rw[hA]at r;have r2:=gW r;rw[s1]at r2;exact qF r2 (cl w) (V0.mpr ⟨w,OK,rfl⟩)
theorem A3{n:Int}(h:0<=n):∀c∈cl (bM n),ke c=true:=fun c hc=>by have:=(gJ h).1 c hc;unfold ke;rw[VA this.1,VA this.2];rfl
theorem DZ{u:bg}(hr:da ke 60 0 (cl (gD u))=true):(bM (cg u.2)).length<=60:=by
 have e:cl (gD u)=jn 42 ((dJ u.1 (cg u.2)).map cl):=gI 42 _;rw[e]at hr;have rj:=qF hr;unfold dJ at rj;split at rj
 .rename_i h;rw[h.1];decide +kernel
 .have:=tF (gJ (e9 u.2)).2 (A3 (e9 u.2)) (rj (cl (bM (cg u.2))) (by rw[Vp];exact Vu));rw[a_]at this;lia
theorem D0(hm:af<=4)(h:jC (aR D))(hl:∀u∈D,u.1.length=af)(hr:∀u∈D,∀e∈u.1,0<=e/\e<=99):∀u∈D,Lw af u:=fun u hu=>by
 refine⟨hl u hu,hr u hu,DZ ?_⟩;cases D with
 |nil=>cases hu
 |cons t Q=>
  obtain⟨_,p2,_⟩:=gU (t:=t) (Q:=Q) fun u hu=>⟨by rw[hl u hu];exact hm,fun e he=>(hr u hu e he).1⟩
  refine DY h (gD u) ?_;rw[p2];rcases VJ.mp hu with rfl|hu
  .exact Vu
  .refine Vq _ ?_;have go:∀Q:List bg,u∈Q->gD u∈p6 Q:=by
    intro Q
    induction Q with
    |nil=>intro h;cases h
    |cons v Q ih=>
     intro h;show gD u∈nS v.2::gD v::p6 Q;rcases VJ.mp h with rfl|h
     .exact Vq _ Vu
     .exact Vq _ (Vq _ (ih h))
   exact go Q hu
theorem yZ{A B:List Nat}{c:Nat}(h:Src x)(hx:cl x=A++B)(hy:cl y=A++c::B)(hc:c<128):jC y:=by
 have l:=h.len;rw[<-a_,hx,Vz]at l;refine⟨fun d hd=>?_,?_,?_,?_,?_⟩
 .rw[hy]at hd;rcases We.mp hd with z|z
  .exact h.asc d (by rw[hx];exact WL _ z)
  .rcases VJ.mp z with rfl|z
   .exact hc
   .exact h.asc d (by rw[hx];exact V2 _ z)
 .rw[<-a_,hy,Vz,Vo];lia
 .rw[hy];exact wX c (N:=59) (VU _) (by rw[<-hx];exact h.dig)
 .rw[hy];exact dB (a:=0) (Vv _) (by decide) (AX c (N:=140) (VU _) (by rw[<-hx];exact h.Pk))
 .have b:=h.Pl;rw[hx,Wv]at b;rw[hy,Wv];have:(c::B).count 32<=B.count 32+1:=by rw[Yw];split<;>lia
  lia
theorem HL{A B:List Nat}{c:Nat}(h:Src x)(hx:cl x=A++c::B)(hy:cl y=A++B):jC y:=by
 have l:=h.len;rw[<-a_,hx,Vz,Vo]at l;refine⟨fun d hd=>?_,?_,?_,?_,?_⟩
 .rw[hy]at hd;rcases We.mp hd with z|z
  .exact h.asc d (by rw[hx];exact WL _ z)
  .exact h.asc d (by rw[hx];exact V2 _ (Vq _ z))
 .rw[<-a_,hy,Vz];lia
 .rw[hy];exact A1 (N:=59) (c:=c) (VU _) (by rw[<-hx];exact h.dig)
 .rw[hy];exact dB (a:=0) (Vv _) (by decide) (AY (N:=140) (c:=c) (VU _) (by rw[<-hx];exact h.Pk))
 .have b:=h.Pl;rw[hx,Wv]at b;rw[hy,Wv];have:B.count 32<=(c::B).count 32:=by rw[Yw];split<;>lia
  lia
theorem HM{A B:List Nat}{c:Nat}(h:Src x)(hx:cl x=A++c::B)(hy:cl y=A++d::B)(hc:d<128):jC y:=by
 have l:=h.len;rw[<-a_,hx,Vz,Vo]at l;refine⟨fun e he=>?_,?_,?_,?_,?_⟩
 .rw[hy]at he;rcases We.mp he with z|z
  .exact h.asc e (by rw[hx];exact WL _ z)
  .rcases VJ.mp z with rfl|z
   .exact hc
   .exact h.asc e (by rw[hx];exact V2 _ (Vq _ z))
 .rw[<-a_,hy,Vz,Vo];lia
 .rw[hy];exact A2 (N:=59) (c:=c) d (VU _) (by rw[<-hx];exact h.dig)
 .rw[hy];exact dB (a:=0) (Vv _) (by decide) (AZ (N:=140) (c:=c) d (VU _) (by rw[<-hx];exact h.Pk))
 .have b:=h.Pl;rw[hx,Wv]at b;rw[hy,Wv];have:(d::B).count 32<=(c::B).count 32+1:=by rw[Yw,Yw];split<;>split<;>lia
  lia
theorem HN{A:List Nat}(h:Src x)(hy:cl y=A++cl x)(ha:∀c∈A,c<128/\c≠32)(hl:A.length<=2)(hd:da ke 1 0 A=true)(hz:A.length=2->da ke 1 0 (A.drop 1)=true/\∀l,da ke 60 0 (A++l)=da ke 60 0 l):jC y:=by
 have l:=h.len;rw[<-a_]at l;refine⟨fun e he=>?_,?_,?_,?_,?_⟩
 .rw[hy]at he;rcases We.mp he with z|z
  .exact(ha e z).1
  .exact h.asc e z
 .rw[<-a_,hy,Vz];lia
 .rw[hy];by_cases h2:A.length=2
  .rw[(hz h2).2];exact gK (N:=59) (VU _) h.dig
  .cases A with
   |nil=>exact gK (N:=59) (VU _) h.dig
   |cons a A=>
    have:A=[]:=by
     have:A.length=0:=by rw[Vo]at hl h2;lia
     exact WZ this
    subst this;exact wX (A:=[]) a (N:=59) (VU _) h.dig
 .rw[hy];refine kI (fun c hc=>ZJ.mpr (ha c hc).2) (by lia) ?_;exact dB (a:=2) (k:=0) (by lia) (by decide) h.Pk
 .have b:=h.Pl;rw[hy,Wv,Y1.mpr fun z=>(ha 32 z).2 rfl];lia
structure En(u:bg):Prop where
 len:u.1.length<=4
 rg:∀e∈u.1,0<=e/\e<=99
 nb:cg u.2<10 ^ 59
theorem En.wr{u:bg}(h:En u):Wr u:=⟨h.len,fun e he=>by have:=h.rg e he;lia,Int.lt_trans h.nb (by decide +kernel)⟩
theorem nI{N:Nat}:∀(d rest:List Nat)(k:Nat),(∀c∈d,ke c=true)->k+d.length<=N->nH N k false (d++rest)=nH N (k+d.length) false rest
 |[],rest,k,_,_=>rfl
 |c::d,rest,k,h,hl=>by
  rw[Vo]at hl;have ih:=nI (N:=N) d rest (k+1) (fun x hx=>h x (Vq _ hx)) (by lia);have e:k+(c::d).length=k+1+d.length:=by rw[Vo];lia
  rw[e,<-ih,VH];rw[W5,tw (h c Vu)];exact⟨fun z=>z.2,fun z=>⟨⟨rfl,by lia⟩,z⟩⟩
def Pc(l:List Nat):Prop:=∀f,∃k,∀rest,nH 59 0 f (l++rest)=nH 59 k false rest
theorem HP(h:i<4):ke (sW i)=false:=by have:=wO h;unfold ke;rw[VA (by lia),VE (by lia)];rfl
theorem So(h:i<4){e:Int}(h0:0<=e)(h9:e<=99):Pc (cl (mO i e)):=fun f=>by
 rw[nE h];by_cases h1:e=1
 .rw[Vs h1];refine⟨0,fun rest=>?_⟩;show nH 59 0 f (sW i::rest)=_;rw[iO (HP h)];rfl
 .rw[Vx h1];refine⟨0+(cl (bM e)).length,fun rest=>?_⟩;have l2:=(nG h0).mpr h9;show nH 59 0 f (sW i::94::(cl (bM e)++rest))=_;rw[iO (HP h),iO (by decide)];exact nI (cl (bM e)) rest 0 (A3 h0) (by rw[a_];lia)
theorem HQ:∀(es:_m)(k:Nat),k+es.length<=4->(∀e∈es,0<=e/\e<=99)->∀f∈bz k es,Pc (cl f)
 |[],_,_,_,f,hf=>by cases hf
 |e::es,k,hk,he,f,hf=>by
  have KL:k+(es.length+1)<=4:=hk;have ih:=HQ es (k+1) (by lia) fun x hx=>he x (Vq _ hx);unfold bz at hf;split at hf
  .exact ih f hf
  .rcases VJ.mp hf with rfl|hf
   .obtain⟨a,b⟩:=he e Vu;exact So (by lia) a b
   .exact ih f hf
theorem HR:∀{ps:List (List Nat)},ps≠[]->(∀p∈ps,Pc p)->Pc (jn 42 ps)
 |[],h,_=>absurd rfl h
 |[a],_,h=>h a Vu
 |a::b::r,_,h=>fun f=>by obtain⟨k,hk⟩:=h a Vu f;obtain⟨k2,L9⟩:=HR (ps:=b::r) (by simp) (fun p hp=>h p (Vq _ hp)) (decide (0<k));refine⟨k2,fun rest=>?_⟩;show nH 59 0 f ((a++42::jn 42 (b::r))++rest)=_;rw[Vy,hk,VH,iO (by decide),L9]
theorem HS{u:bg}(h:En u):∃k,∀rest,nH 59 0 false (cl (gD u)++rest)=nH 59 k false rest:=by
 have e:cl (gD u)=jn 42 ((dJ u.1 (cg u.2)).map cl):=gI 42 _;rw[e];have pc:∀p∈(bz 0 u.1).map cl,Pc p:=fun p hp=>by obtain⟨f,hf,rfl⟩:=V0.mp hp;exact HQ u.1 0 (by have:=h.len;lia) h.rg f hf
 unfold dJ;split
 .rename_i hh;exact HR (by simpa using hh.2) pc false
 .have nl:(bM (cg u.2)).length<=59:=Wz (e9 u.2) (by decide) h.nb;have nd:=A3 (e9 u.2);rw[Vp];cases hw:(bz 0 u.1).map cl with
  |nil=>
   refine⟨0+(cl (bM (cg u.2))).length,fun rest=>?_⟩;show nH 59 0 false (cl (bM (cg u.2))++rest)=_;exact nI _ rest 0 nd (by rw[a_];lia)
  |cons b r=>
   obtain⟨k2,L9⟩:=HR (ps:=b::r) (by simp) (fun p hp=>pc p (by rw[hw];exact hp)) (decide (0<0+(cl (bM (cg u.2))).length));refine⟨k2,fun rest=>?_⟩;show nH 59 0 false ((cl (bM (cg u.2))++42::jn 42 (b::r))++rest)=_;rw[Vy,nI _ _ 0 nd (by rw[a_];lia),VH,iO (by decide),L9]
theorem Cv{u:bg}(h:En u):∀c∈cl (gD u),L8 c=true:=fun c hc=>by have:=(qE h.len fun e he=>(h.rg e he).1).1 c hc;unfold L8;unfold okN at this;exact ZJ.mpr (by lia)
theorem Pn(h:i<4){e:Int}(h0:0<=e)(h9:e<=99):(mO i e).length<=4:=by
 have l2:=(nG h0).mpr h9;rw[<-a_,nE h];split
 .show 1<=4;decide
 .rw[Vo,Vo,a_];lia
theorem Cw:∀(es:_m)(k:Nat),k+es.length<=4->(∀e∈es,0<=e/\e<=99)->(((bz k es).map cl).map List.length).sum<=4*es.length/\(bz k es).length<=es.length
 |[],_,_,_=>⟨Vv _,Vv _⟩
 |e::es,k,hk,he=>by
  have KL:k+(es.length+1)<=4:=hk;obtain⟨i1,i2⟩:=Cw es (k+1) (by lia) fun x hx=>he x (Vq _ hx);rw[Vo];unfold bz;split
  .exact⟨by lia,by lia⟩
  .obtain⟨a,b⟩:=he e Vu;have:=Pn (i:=k) (by lia) a b;rw[Vp,Vp,WW,a_,Vo];exact⟨by lia,by lia⟩
theorem HU{u:bg}(h:En u):(gD u).length<=100:=by
 have e:cl (gD u)=jn 42 ((dJ u.1 (cg u.2)).map cl):=gI 42 _;obtain⟨p1,p2⟩:=Cw u.1 0 (by have:=h.len;lia) h.rg;have hl:=h.len;have z:=AJ 42 (ps:=(dJ u.1 (cg u.2)).map cl);rw[<-e,a_,Vt]at z;unfold dJ at z;split at z
 .lia
 .have nl:(bM (cg u.2)).length<=59:=Wz (e9 u.2) (by decide) h.nb;rw[Vp,Vp,WW,a_,Vo]at z;lia
theorem HV(n:Int):∃s,cl (dn false n)=[32,s,32]/\(s=43\/s=45):=by
 unfold dn;rw[Vx VC];split
 .exact⟨45,by decide +kernel,.inr rfl⟩
 .exact⟨43,by decide +kernel,.inl rfl⟩
theorem Cy:∀(P:List bg),(∀u∈P,En u)->(∀k,nH 59 k false ((dA false P).map cl).flatten=true)/\(∀k,da L8 140 k ((dA false P).map cl).flatten=true)/\((dA false P).map cl).flatten.count 32<=2*P.length
 |[],_=>⟨fun _=>rfl,fun _=>rfl,Vv _⟩
 |t::P,h=>by
  obtain⟨i1,i2,i3⟩:=Cy P fun x hx=>h x (Vq _ hx);have ht:=h t Vu;obtain⟨s,es,hs⟩:=HV t.2;have ds:ke s=false:=by rcases hs with rfl|rfl<;>rfl
  have ns:L8 s=true:=by rcases hs with rfl|rfl<;>rfl
  have fl:((dA false (t::P)).map cl).flatten=32::s::32::(cl (gD t)++((dA false P).map cl).flatten):=by show(cl (dn false t.2)::cl (gD t)::(dA false P).map cl).flatten=_;rw[Wu,Wu,es];rfl
  rw[fl];refine⟨fun k=>?_,fun k=>?_,?_⟩
  .obtain⟨k2,L9⟩:=HS ht;rw[iO (by decide),iO ds,iO (by decide)];show nH 59 0 false _=true;rw[L9];exact i1 k2
  .rw[eQ (by decide),fj ns];refine⟨by decide,?_⟩;rw[eQ (by decide)];have tl:=HU ht;exact kI (Cv ht) (by rw[a_];lia) (i2 _)
  .have c0:(cl (gD t)).count 32=0:=Y1.mpr fun z=>by have:=Cv ht 32 z;exact absurd this (by decide)
   have s32:¬ s=32:=by lia
   rw[YH,List.count_cons_of_ne s32,YH,Wv,c0,Vo];lia
theorem vG{P:List bg}(h:∀u∈P,En u)(hn:P.length<=30):Src (aR P):=by
 cases P with
 |nil=>
  refine⟨?_,?_,?_,?_,?_⟩
  .have e:aR [] = "0":=rfl;rw[e];intro c hc;have e0:cl ("0":Str)=[48]:=by decide +kernel
   rw[e0]at hc;rw[VZ.mp hc];decide
  .decide +kernel
  .decide +kernel
  .decide +kernel
  .decide +kernel
 |cons t Q=>
  have ht:=h t Vu;obtain⟨i1,i2,i3⟩:=Cy Q fun x hx=>h x (Vq _ hx);obtain⟨_,_,p3⟩:=gU (t:=t) (Q:=Q) fun u hu=>⟨(h u hu).len,fun e he=>((h u hu).rg e he).1⟩
  have fl:cl (aR (t::Q))=cl (dn true t.2)++(cl (gD t)++((dA false Q).map cl).flatten):=by
   have e:aR (t::Q)=Txt.join "" (dA true (t::Q)):=by unfold aR;rw[Vx (by simp)]
   rw[e,jW];show(cl (dn true t.2)::cl (gD t)::(dA false Q).map cl).flatten=_;rw[Wu,Wu]
  have sg:cl (dn true t.2)=[]\/cl (dn true t.2)=[45]:=by
   unfold dn;rw[Vs rfl];split
   .exact .inr (by decide +kernel)
   .exact .inl (by decide +kernel)
  obtain⟨k2,L9⟩:=HS ht;have tl:=HU ht;have c0:(cl (gD t)).count 32=0:=Y1.mpr fun z=>by have:=Cv ht 32 z;exact absurd this (by decide)
  rw[Vo]at hn;refine⟨p3,?_,?_,?_,?_⟩
  .have e:aR (t::Q)=Txt.join "" (dA true (t::Q)):=by unfold aR;rw[Vx (by simp)]
   obtain⟨q1,q2⟩:=lh true (t::Q) fun u hu=>(h u hu).wr;have:=wG q1;rw[q2,Vo]at this;rw[e];lia
  .rw[fl];rcases sg with e|e
   .rw[e,VG,L9];exact i1 k2
   .rw[e];show nH 59 0 false (45::(cl (gD t)++((dA false Q).map cl).flatten))=true;rw[iO (by decide)];show nH 59 0 false (cl (gD t)++((dA false Q).map cl).flatten)=true;rw[L9];exact i1 k2
  .rw[fl];refine kI (fun c hc=>?_) (by rcases sg with e|e<;>rw[e]<;>decide) (kI (Cv ht) (by rcases sg with e|e<;>rw[e,a_]<;>simp<;>lia) (i2 _));rcases sg with e|e
   .rw[e]at hc;cases hc
   .rw[e]at hc;rw[VZ.mp hc];decide
  .rw[fl,Wv,Wv,c0];have:(cl (dn true t.2)).count 32=0:=by rcases sg with e|e<;>rw[e]<;>decide
   lia
end PG
namespace GX
open PySem.Spec L2 MN PG TX
open PyProof.Rows hiding St kindOf
open OX (vB iu sY mw kF Nb jr)
theorem D2(r:Int)(af:Nat):bI r (b9 [(List.replicate af (0:Int),(0:Int))])=[]:=by
 rw[oM (gR (kF _)),oN (kF _)];unfold Sg;have e:dM r 0=0:=by
  unfold dM;split
  .rfl
  .rw[Int.zero_fmod]
 rw[Vp,VO,e];rfl
theorem D3(h1:1<=af)(hm:af<=4)(h:jC (aR D))(g:Dg af D)(ht:bI r (b9 D)=D):uG r af (aR D)=some D:=by
 have t0:bI 0 (b9 D)=D:=iu g.Hn fun t ht=>⟨wJ _,g.nz t ht⟩
 cases D with
 |cons t Q=>
  have ds:=vF hm (t:=t) (Q:=Q) (D0 hm h g.len g.rg);unfold uG uF;rw[ds,any_some,Vx VC,Cu,t0,Vs ⟨rfl,.inr ht⟩]
 |nil=>
  have z:=mw ⟨af,by lia⟩ h1;dsimp only at z;have ds:=vF (af:=af) hm (t:=(List.replicate af 0,0)) (Q:=[]) fun u hu=>by rw[VZ.mp hu];refine⟨V3 ..,fun e he=>?_,by show(bM (cg 0)).length<=60;decide +kernel⟩;rw[WH he];decide
  rw[z]at ds;have e0:aR ([]:List bg) = "0":=rfl;unfold uG uF;rw[e0,ds,any_some,Vx VC,Cu,D2,Vs ⟨rfl,.inr ht⟩]
theorem tM(hr:fR r=true)(h1:1<=af)(hm:af<=4)(h:jC x)(st:ao):
  match uG r af x with
  |none=>∃g,PM.bZ [.int r,.int (af:Int),.str x] st=.err "NotWritten" (st++g)
  |some D=>∃g k,PM.bZ [.int r,.int (af:Int),.str x] st=.ok (.loc k) (st++g)/\st.length<=k/\(st++g)[k]?=some (.lst (D.map tV)):=by
 have rr:=wK hr;have wf:=lq h;have ws:=kJ h;cases hd:uG r af x with
 |some D=>
  dsimp only;have gd:=AU (af:=af) h.asc (by lia) ws;have fw:=tq af x;unfold uG at hd;split at hd
  .cases hd
  .split at hd
   .rename_i hh;injection hd with hd;rw[hd]at hh gd fw;have t0:bI r (b9 D)=D:=by
     rcases hh.2 with e|e
     .rw[e];exact iu gd.Hn fun t ht=>⟨wJ _,gd.nz t ht⟩
     .exact e
    have rs:=sY hr h1 hm t0 gd.len (gd.wr hm) (by lia) st;rw[Vs fun u hu e he=>(gd.rg u hu e he).2,hh.1]at rs;exact rs
   .cases hd
 |none=>
  dsimp only;have pg:∀Q,sU af x=some Q->Dg af (bI r (b9 Q))/\Q.length<=46/\∀t∈Q,Good af t:=fun Q hq=>by obtain⟨p1,p2⟩:=HK h.asc ws hq;exact⟨Dg.of (by lia) (by lia) (by lia) p2,by lia,fun t ht=>(p2 t ht).1⟩
  have ro:=Cg hr h1 hm h.asc (by have:=h.len;lia) (fun w hw=>by have:=ws w hw;lia) (fun Q hq=>by
   obtain⟨a,b,c⟩:=pg Q hq;exact⟨by lia,c,VX (nC r Q) (by lia),a.wr hm⟩) st
  cases hp:sU af x with
  |none=>rw[hp]at ro;exact ro
  |some Q=>
   rw[hp]at ro;dsimp only at ro;obtain⟨a,_,_⟩:=pg Q hp;by_cases hz:aR (bI r (b9 Q))=x
   .have t0:bI r (b9 (bI r (b9 Q)))=bI r (b9 Q):=iu a.Hn fun t ht=>by refine⟨?_,a.nz t ht⟩;obtain⟨q,_,_,e⟩:=nA ht;rw[e,vB hr]
    have df:=D3 (r:=r) h1 hm (by rw[hz];exact h) a t0;rw[hz,hd]at df;cases df
   .rw[Vx hz]at ro;exact ro
end GX
namespace PG
open PySem.Spec L2 MN TX
open PyProof.Rows hiding St kindOf
theorem A4(x:Str)(h:k<=x.length):cl (Txt.slice x none (some (k:Int)))=(cl x).take k:=by
 have z:=iz x (l:=none) (u:=some (k:Int)) (a:=0) (b:=k) (VU _) h (by
  have e1:max (0:Int) (min ((0:Nat):Int) ((x.length:Nat):Int))=0:=by lia
  have e2:¬ ((((0:Nat):Int))<0):=by lia
  simp only[Builtin.Str.strSliceIndices,e2,W8,e1,show((1:Int)>0)=True from by simp,Xz])
 rw[z,X',Nat.sub_zero]
theorem tO(x:Str)(k:Nat):cl (Txt.slice x (some (k:Int)) none)=(cl x).drop k:=by
 by_cases h:k<=x.length
 .have z:=iz x (l:=some (k:Int)) (u:=none) (a:=k) (b:=x.length) h (Vv _) (by
   have e1:max (0:Int) (min ((x.length:Nat):Int) ((x.length:Nat):Int))=(x.length:Int):=by lia
   have e2:¬ (((x.length:Nat):Int)<0):=by lia
   simp only[Builtin.Str.strSliceIndices,e2,W8,e1,show((1:Int)>0)=True from by simp,Xz])
  rw[z,Wb (by rw[WU,a_];lia)]
 .have z:=iz x (l:=some (k:Int)) (u:=none) (a:=x.length) (b:=x.length) (Vv _) (Vv _) (by
   have e1:max (0:Int) (min ((x.length:Nat):Int) ((x.length:Nat):Int))=(x.length:Int):=by lia
   have e2:¬ (((x.length:Nat):Int)<0):=by lia
   have e3:¬ (((k:Nat):Int)<0):=by lia
   have e4:max (0:Int) (min ((k:Nat):Int) ((x.length:Nat):Int))=(x.length:Int):=by lia
   simp only[Builtin.Str.strSliceIndices,e2,e3,W8,e1,e4,show((1:Int)>0)=True from by simp,Xz])
  rw[z,Wy,List.take_zero,List.drop_of_length_le (by rw[a_];lia)]
theorem mz{p n:Int}(hn:0<n):∃k:Nat,p.fmod n=(k:Int)/\(k:Int)<n:=by have q:=gT hn p;exact⟨(p.fmod n).toNat,by lia,by lia⟩
def HW:Str:=" !\"#$&'()*+,-./0123456789:;<=>?@ABCDEFGHIJKLMNOPQRSTUVWXYZ[\\]^_`"
def Iy:Str:="abcdefghijklmnopqrstuvwxyz{|}~\n\t"
def Sq:Str:="0123456789xyzw^*+- "
theorem Cz:(HW++Iy).length=96/\(∀c∈cl (HW++Iy),c<128)/\HW.length<=1000/\Iy.length<=1000:=by decide +kernel
theorem Po:Sq.length=19/\∀c∈cl Sq,c<128:=by decide +kernel
theorem oS{a b:Str}(h:a.length+b.length<=1000000)(st:ao):aQ (.str a) (.str b) st=.ok (.str (a++b)) st:=Vs (by rw[VN];lia)
theorem L_{a:Str}(h:a.length<=1000000)(st:ao):bG [.str a] st=.ok (.int a.length) st:=Vs (by rw[VN];lia)
theorem y0{c:Int}(hc:0<=c)(st:ao):∃d:Nat,d<128/\PM.fG [.int c] st=.ok (.str ⟨#[d]⟩) st:=by
 have fin:∀S:Str,0<S.length->S.length<=1000->(∀c∈cl S,c<128)->∃d:Nat,d<128/\ah bY aO (ah bf (ah bV aD fP) (aj bG (ae aO ak))) [some (.int c),some (.str S)] st=.ok (.str ⟨#[d]⟩) st:=fun S h0 h1 ha=>by
  obtain⟨k,ek,hk⟩:=mz (p:=c.fdiv 2) (n:=(S.length:Int)) (by lia);have kl:k<(cl S).length:=by rw[a_];lia
  refine⟨(cl S)[k],ha _ (Ws kl),?_⟩;have ln:aj bG (ae aO ak) [some (.int c),some (.str S)] st=.ok (.int (S.length:Int)) st:=by rw[aI (d0 (v:=.str S) (s1:=st) rfl)];exact L_ (by lia) st
  have dv:ah bV aD fP [some (.int c),some (.str S)] st=.ok (.int (c.fdiv 2)) st:=iI rfl (lG (by decide) (by decide));have md:ah bf (ah bV aD fP) (aj bG (ae aO ak)) [some (.int c),some (.str S)] st=.ok (.int (k:Int)) st:=by rw[aH dv ln,cZ (by lia),ek]
  rw[aH (x:=.str S) (s1:=st) rfl md];have sz:S.length<=sizeLine:=by rw[VN];lia
  unfold bY;dsimp only;rw[Vs sz,L2.ft (xs:=S.cps.toList) (v:=(cl S)[k]) (VD kl)]
 have a2:aB 1 (ah aQ aO (mC (.str Iy))) [some (.int c),some (.str HW)] st=.nx [some (.int c),some (.str (HW++Iy))] st:=by refine bw ?_;rw[aH (x:=.str HW) (s1:=st) rfl (y:=.str Iy) (s2:=st) rfl];exact oS (by have:=Cz;lia) st
 have run:PM.fG [.int c] st=(ay (cU (aT (ah cG (ah bf aD fP) bA)) (aB 1 (mC (.str Sq))) aJ) (aP (ah bY aO (ah bf (ah bV aD fP) (aj bG (ae aO ak))))) [some (.int c),some (.str (HW++Iy))] st).fin:=by unfold PM.fG;rw[aY (np:=1) (us:=[.int c]) rfl];show(ay (aB 1 (mC (.str HW))) (ay (aB 1 (ah aQ aO (mC (.str Iy)))) _) [some (.int c),none] st).fin=_;rw[av];show((cD.nx [some (.int c),some (.str HW)] st).cR _).fin=_;rw[ax,av,a2,ax];rfl
 have j3:aT (ah cG (ah bf aD fP) bA) [some (.int c),some (.str (HW++Iy))] st=.ok (c.fmod 2==1) st:=bu (iJ (eM rfl (by decide)));rw[run];cases hz:c.fmod 2==1 with
 |true=>
  rw[hz]at j3;obtain⟨d,hd,e⟩:=fin Sq (by rw[Po.1];decide) (by rw[Po.1];decide) Po.2;refine⟨d,hd,?_⟩;rw[av,b6 j3];show((cD.nx [some (.int c),some (.str Sq)] st).cR _).fin=_;rw[ax,aL,e];rfl
 |false=>
  rw[hz]at j3;obtain⟨d,hd,e⟩:=fin (HW++Iy) (by rw[Cz.1];decide) (by rw[Cz.1];decide) Cz.2.1;refine⟨d,hd,?_⟩;rw[av,cI j3,ax,aL,e];rfl
theorem uH(hx:Src x){c p:Int}(hc:0<=c)(hp:0<=p)(st:ao):∃y,PM.fH [.str x,.int c,.int p] st=.ok (.str y) st/\jC y:=by
 have hl:=hx.len;have sl:sizeLine=16777216:=VN;obtain⟨k,ek,hk⟩:=mz (p:=p) (n:=(x.length:Int)+1) (by lia);have kl:k<=x.length:=by lia
 have tl:(cl x).length=x.length:=a_ x;obtain⟨d,d1,d2⟩:=y0 (c:=c.fdiv 3) (by rw[Y3 c (by decide)];lia) st;obtain⟨μ,hμ⟩:∃μ:MN.Env,μ=[qS x, qI c, qI p, qN k]:=⟨_,rfl⟩
 have f3:aB 3 (ah bf bH (ah aQ (aj bG (ae aD ak)) bA)) [qS x, qI c, qI p, qn] st=.nx μ st:=by
  have ln:aj bG (ae aD ak) [qS x, qI c, qI p, qn] st=.ok (.int (x.length:Int)) st:=by rw[aI (d0 (v:=.str x) (s1:=st) rfl)];exact L_ (by lia) st
  have ad:ah aQ (aj bG (ae aD ak)) bA [qS x, qI c, qI p, qn] st=.ok (.int ((x.length:Int)+1)) st:=by rw[aH ln (y:=.int 1) (s2:=st) rfl];rfl
  have md:ah bf bH (ah aQ (aj bG (ae aD ak)) bA) [qS x, qI c, qI p, qn] st=.ok (.int (k:Int)) st:=by rw[aH (x:=.int p) (s1:=st) rfl ad,cZ (by lia),ek]
  rw[bw md,hμ];rfl
 have sA:cJ aD a! (ba ck) μ st=.ok (.str (Txt.slice x none (some (k:Int)))) st:=by rw[hμ];exact kC (l:=none) (h:=some (k:Int)) rfl rfl rfl (by lia)
 have sB:cJ aD (ba ck) a! μ st=.ok (.str (Txt.slice x (some (k:Int)) none)) st:=by rw[hμ];exact kC (l:=some (k:Int)) (h:=none) rfl rfl rfl (by lia)
 have sC:cJ aD (ba (ah aQ ck bA)) a! μ st=.ok (.str (Txt.slice x (some ((k+1:Nat):Int)) none)) st:=by rw[hμ];exact kC (l:=some ((k+1:Nat):Int)) (h:=none) rfl rfl rfl (by lia)
 have lA:=Xe x none (some (k:Int));have lB:=Xe x (some (k:Int)) none;have lC:=Xe x (some ((k+1:Nat):Int)) none;have cA:=A4 x kl;have cB:=tO x k;have cC:=tO x (k+1);have sg:aj PM.fG (ae (ah bV aO lu) ak) μ st=.ok (.str ⟨#[d]⟩) st:=by rw[aI (d0 (iI (o:=c) (s1:=st) (by rw[hμ];rfl) (lG (by decide) (by decide))))];exact d2
 have dl:(⟨#[d]⟩:Str).length=1:=rfl;have aS:ah aQ (cJ aD a! (ba ck)) (aj PM.fG (ae (ah bV aO lu) ak)) μ st=.ok (.str (Txt.slice x none (some (k:Int))++⟨#[d]⟩)) st:=by rw[aH sA sg,oS (by rw[dl];lia)]
 have lS:(Txt.slice x none (some (k:Int))++(⟨#[d]⟩:Str)).length<=x.length+1:=by rw[<-a_,fJ,Vz,a_];show _+1<=_;lia
 obtain⟨t0,Le⟩:∃t0,aT (ah cG (ah bf aO lu) bX) μ st=.ok t0 st/\t0=(c.fmod 3==0):=⟨_,bu (iJ (eM (o:=c) (by rw[hμ];rfl) (by decide))),rfl⟩
 obtain⟨t1,L!⟩:∃t1,aT (ah cG (ah bf aO lu) bA) μ st=.ok t1 st/\t1=(c.fmod 3==1):=⟨_,bu (iJ (eM (o:=c) (by rw[hμ];rfl) (by decide))),rfl⟩
 have run:PM.fH [.str x,.int c,.int p] st=(ay (cU (aT (ah cG (ah bf aO lu) bX)) (aP (ah aQ (ah aQ (cJ aD a! (ba ck)) (aj PM.fG (ae (ah bV aO lu) ak))) (cJ aD (ba ck) a!))) aJ) (ay (cU (aT (ah cG (ah bf aO lu) bA)) (aP (ah aQ (cJ aD a! (ba ck)) (cJ aD (ba (ah aQ ck bA)) a!))) aJ) (aP (ah aQ (ah aQ (cJ aD a! (ba ck)) (aj PM.fG (ae (ah bV aO lu) ak))) (cJ aD (ba (ah aQ ck bA)) a!)))) μ st).fin:=by unfold PM.fH;rw[aY (np:=3) (us:=[.str x,.int c,.int p]) rfl];show(ay (aB 3 _) _ [qS x, qI c, qI p, qn] st).fin=_;rw[av,f3,ax]
 have whole:cl x=(cl x).take k++(cl x).drop k:=(List.take_append_drop k (cl x)).symm;have cut:k<x.length->cl x=(cl x).take k++(cl x)[k]!::(cl x).drop (k+1):=fun h=>by
  have KL:k<(cl x).length:=by lia
  have:(cl x).drop k=(cl x)[k]!::(cl x).drop (k+1):=by rw[WQ KL,getElem!_pos (cl x) k KL]
  rw[<-this];exact whole
 have Lf:¬ k<x.length->(cl x).take k=cl x/\(cl x).drop (k+1)=[]:=fun h=>⟨Wb (by lia),List.drop_of_length_le (by lia)⟩
 rw[run];cases hz:c.fmod 3==0 with
 |true=>
  rw[hz]at Le;rw[Le.2]at Le;refine⟨Txt.slice x none (some (k:Int))++⟨#[d]⟩++Txt.slice x (some (k:Int)) none,?_,?_⟩
  .rw[av,b6 Le.1,aL,aH aS sB,oS (by lia)];rfl
  .refine yZ (c:=d) hx whole ?_ d1;rw[fJ,fJ,cA,cB,Vy];rfl
 |false=>
  rw[hz]at Le;rw[Le.2]at Le;cases hy:c.fmod 3==1 with
  |true=>
   rw[hy]at L!;rw[L!.2]at L!;refine⟨Txt.slice x none (some (k:Int))++Txt.slice x (some ((k+1:Nat):Int)) none,?_,?_⟩
   .rw[av,cI Le.1,ax,av,b6 L!.1,aL,aH sA sC,oS (by lia)];rfl
   .have cy:cl (Txt.slice x none (some (k:Int))++Txt.slice x (some ((k+1:Nat):Int)) none)=(cl x).take k++(cl x).drop (k+1):=by rw[fJ,cA,cC]
    by_cases h:k<x.length
    .exact HL hx (cut h) cy
    .rw[(Lf h).1,(Lf h).2,VW]at cy;rw[fh cy];exact hx.Sn
  |false=>
   rw[hy]at L!;rw[L!.2]at L!;refine⟨Txt.slice x none (some (k:Int))++⟨#[d]⟩++Txt.slice x (some ((k+1:Nat):Int)) none,?_,?_⟩
   .rw[av,cI Le.1,ax,av,cI L!.1,ax,aL,aH aS sC,oS (by lia)];rfl
   .have cy:cl (Txt.slice x none (some (k:Int))++⟨#[d]⟩++Txt.slice x (some ((k+1:Nat):Int)) none)=(cl x).take k++d::(cl x).drop (k+1):=by rw[fJ,fJ,cA,cC,Vy];rfl
    by_cases h:k<x.length
    .exact HM hx (cut h) cy d1
    .rw[(Lf h).1,(Lf h).2]at cy;exact yZ (A:=cl x) (B:=[]) hx (by rw[VW]) cy d1
def CA(x:Str):Bool:=(cl x).all (fun c=>decide (c<128))&&decide (x.length<=60000)&&da ke 60 0 (cl x)&&da L8 289 0 (cl x)&&decide ((cl x).count 32<=90)
theorem kK(h:CA x=true):jC x:=by unfold CA at h;rw[V4,V4,V4,V4]at h;obtain⟨⟨⟨⟨h1,h2⟩,h3⟩,h4⟩,h5⟩:=h;exact⟨fun c hc=>Wj (Wa.mp h1 c hc),Wj h2,h3,h4,Wj h5⟩
def A5:_q:=["","0","-0","00","+1","1*x","-1*x","x^1","x^0","x*x","y*x","2*3","2*","*x","x*","x^","^2"]
def A6:_q:=["X","x + 0","0*x","x + x","1 + x","y + x","x +1","x+1"," x","x ","x  + 1","x + -1","--x"]
def HX:_q:=["x^100","x +","-","x y","x^1","2*x^1","x^1 + 1","-x^1"]
theorem Lg:(A5++A6++HX).all CA=true:=by decide +kernel
theorem Pp:(A5++A6++HX).length=38:=by decide +kernel
theorem y7{c:Int}(st:ao):∃g y,PM.gf [.int c] st=.ok (.str y) (st++g)/\jC y:=by
 obtain⟨k,ek,hk⟩:=mz (p:=c) (n:=38) (by decide);have kl:k<(A5++A6++HX).length:=by rw[Pp];lia
 have fy:=kK (Wa.mp Lg _ (Ws kl));obtain⟨s1,dI⟩:∃s1,s1=st++[aG.lst (A5.map .str)]:=⟨_,rfl⟩
 obtain⟨s2,fq⟩:∃s2,s2=s1++[aG.lst (A6.map .str)]:=⟨_,rfl⟩
 obtain⟨s3,iS⟩:∃s3,s3=s2++[aG.lst ((A5++A6).map .str)]:=⟨_,rfl⟩
 obtain⟨s4,vA⟩:∃s4,s4=s3++[aG.lst (HX.map .str)]:=⟨_,rfl⟩
 obtain⟨s5,uD⟩:∃s5,s5=s4++[aG.lst ((A5++A6++HX).map .str)]:=⟨_,rfl⟩
 have a1:∀l:MA,(∀μ s,l μ s=.ok (A5.map aw.str) s)->aB 1 (bq l) [some (.int c),none] st=.nx [some (.int c),some (.loc st.length)] s1:=fun l hl=>by rw[dI];exact bw (eO (hl _ _) (by decide))
 have a2:∀l:MA,(∀μ s,l μ s=.ok (A6.map aw.str) s)->aB 1 (ah aQ aO (bq l)) [some (.int c),some (.loc st.length)] s1=.nx [some (.int c),some (.loc s2.length)] s3:=fun l hl=>by
  have b:bq l [some (.int c),some (.loc st.length)] s1=.ok (.loc s1.length) s2:=by rw[fq];exact eO (hl _ _) (by decide)
  have h1:s2[st.length]?=some (.lst (A5.map .str)):=by rw[fq,dI];exact d_ (d8 _ _) _
  have h2:s2[s1.length]?=some (.lst (A6.map .str)):=by rw[fq];exact d8 _ _
  refine bw ?_;rw[aH (x:=.loc st.length) (s1:=s1) rfl b,MN.l_ h1 h2 (by rw[VN];decide),iS,Wh]
 have a3:∀l:MA,(∀μ s,l μ s=.ok (HX.map aw.str) s)->aB 1 (ah aQ aO (bq l)) [some (.int c),some (.loc s2.length)] s3=.nx [some (.int c),some (.loc s4.length)] s5:=fun l hl=>by
  have b:bq l [some (.int c),some (.loc s2.length)] s3=.ok (.loc s3.length) s4:=by rw[vA];exact eO (hl _ _) (by decide)
  have h1:s4[s2.length]?=some (.lst ((A5++A6).map .str)):=by rw[vA,iS];exact d_ (d8 _ _) _
  have h2:s4[s3.length]?=some (.lst (HX.map .str)):=by rw[vA];exact d8 _ _
  refine bw ?_;rw[aH (x:=.loc s2.length) (s1:=s3) rfl b,MN.l_ h1 h2 (by rw[VN];decide),uD,Wh (l₁:=A5++A6)]
 have a4:ah bY aO (ah bf aD (mC (.int 38))) [some (.int c),some (.loc s4.length)] s5=.ok (.str (A5++A6++HX)[k]) s5:=by
  have md:ah bf aD (mC (.int 38)) [some (.int c),some (.loc s4.length)] s5=.ok (.int (k:Int)) s5:=by rw[<-ek];exact eM rfl (by decide)
  rw[aH (x:=.loc s4.length) (s1:=s5) rfl md];refine gX (us:=(A5++A6++HX).map aw.str) (by rw[uD];exact aN _ _) (L2.ft ?_);rw[VV,VD kl];rfl
 obtain⟨G,es⟩:∃G,s5=st++G:=⟨[aG.lst (A5.map .str)]++[aG.lst (A6.map .str)]++[aG.lst ((A5++A6).map .str)]++[aG.lst (HX.map .str)]++[aG.lst ((A5++A6++HX).map .str)],by rw[uD,vA,iS,fq,dI];simp only[Vy]⟩
 refine⟨G,_,?_,fy⟩;rw[<-es];unfold PM.gf;rw[aY (np:=1) (us:=[.int c]) rfl];show(ay (aB 1 (bq _)) (ay (aB 1 (ah aQ aO (bq _))) (ay (aB 1 (ah aQ aO (bq _))) (aP _))) [some (.int c),none] st).fin=_;rw[av,a1,ax,av,a2,ax,av,a3,ax,aL,a4]
 .rfl
 .intro μ s;rfl
 .intro μ s;rfl
 .intro μ s;rfl
theorem tP{P:List bg}{p:Int}(h:aq st n=some (P.map tV))(h2:2<=P.length)(hn:P.length<=30)(hs:∀u∈P,En u):∃g y,PM.fI [.loc n,.int p] st=.ok (.str y) (st++g)/\Src y:=by
 have sl:sizeLine=16777216:=VN;obtain⟨k,ek,hk⟩:=mz (p:=p) (n:=(P.length:Int)-1) (by lia);have k1:k+1<P.length:=by lia
 obtain⟨Q,hQ⟩:∃Q,Q=P.take k++[P[k+1],P[k]]++P.drop (k+2):=⟨_,rfl⟩
 have mQ:∀u∈Q,En u:=fun u hu=>by
  rw[hQ]at hu;rcases We.mp hu with z|z
  .rcases We.mp z with z|z
   .exact hs u (XU z)
   .rcases VJ.mp z with rfl|z
    .exact hs _ (Ws _)
    .rw[VZ.mp z];exact hs _ (Ws _)
  .exact hs u (YF z)
 have lQ:Q.length<=30:=by rw[hQ,Vz,Vz,Wq,WU];simp only[Vo,VI];lia
 obtain⟨μ,hμ⟩:∃μ:MN.Env,μ=[qL n, qI p, qN k]:=⟨_,rfl⟩
 have lm:(P.map tV).length=P.length:=Vt ..;have f2:aB 2 (ah bf aO (ah uA (aj bG (ae aD ak)) bA)) [qL n, qI p, qn] st=.nx μ st:=by
  have ln:aj bG (ae aD ak) [qL n, qI p, qn] st=.ok (.int (P.length:Int)) st:=by rw[aI (d0 (v:=.loc n) (s1:=st) rfl),gu h,lm]
  have sb:ah uA (aj bG (ae aD ak)) bA [qL n, qI p, qn] st=.ok (.int ((P.length:Int)-1)) st:=by rw[aH ln (y:=.int 1) (s2:=st) rfl];rfl
  have md:ah bf aO (ah uA (aj bG (ae aD ak)) bA) [qL n, qI p, qn] st=.ok (.int (k:Int)) st:=by rw[aH (x:=.int p) (s1:=st) rfl sb,cZ (by lia),ek]
  rw[bw md,hμ];rfl
 obtain⟨s1,dI⟩:∃s1,s1=st++[aG.lst ((P.take k).map tV)]:=⟨_,rfl⟩
 obtain⟨s2,fq⟩:∃s2,s2=s1++[aG.lst [tV P[k+1],tV P[k]]]:=⟨_,rfl⟩
 obtain⟨s3,iS⟩:∃s3,s3=s2++[aG.lst ((P.take k++[P[k+1],P[k]]).map tV)]:=⟨_,rfl⟩
 obtain⟨s4,vA⟩:∃s4,s4=s3++[aG.lst ((P.drop (k+2)).map tV)]:=⟨_,rfl⟩
 obtain⟨s5,uD⟩:∃s5,s5=s4++[aG.lst (Q.map tV)]:=⟨_,rfl⟩
 have i1:aq s1 n=some (P.map tV):=by rw[dI];exact aC h _
 have i3:aq s3 n=some (P.map tV):=by rw[iS,fq];exact aC (aC i1 _) _
 have e1:zJ aD a! (ba bH) μ st=.ok (.loc st.length) s1:=by
  have q:zJ aD a! (ba bH) μ st=Ek none (some (k:Int)) (.loc n) st:=by rw[hμ];rfl
  rw[q];unfold Ek;dsimp only;rw[h];dsimp only;rw[Ho,<-List.map_take,dI]
 have e2:bq (ae (ah bY aD (ah aQ bH bA)) (ae (ah bY aD bH) ak)) μ s1=.ok (.loc s1.length) s2:=by
  have x1:ah bY aD (ah aQ bH bA) μ s1=.ok (tV P[k+1]) s1:=by
   have ad:ah aQ bH bA μ s1=.ok (.int ((k+1:Nat):Int)) s1:=by rw[hμ];rfl
   rw[aH (x:=.loc n) (s1:=s1) (by rw[hμ];rfl) ad];refine gX i1 (L2.ft ?_);rw[VV,VD k1];rfl
  have x2:ah bY aD bH μ s1=.ok (tV P[k]) s1:=by rw[aH (x:=.loc n) (s1:=s1) (by rw[hμ];rfl) (y:=.int (k:Int)) (s2:=s1) (by rw[hμ];rfl)];refine gX i1 (L2.ft ?_);rw[VV,VD (by lia)];rfl
  rw[fq];exact eO (gg x1 x2) (by show 2<=1000;decide)
 have e3:ah aQ (zJ aD a! (ba bH)) (bq (ae (ah bY aD (ah aQ bH bA)) (ae (ah bY aD bH) ak))) μ st=.ok (.loc s2.length) s3:=by
  have h1:s2[st.length]?=some (.lst ((P.take k).map tV)):=by rw[fq,dI];exact d_ (d8 _ _) _
  have h2:s2[s1.length]?=some (.lst [tV P[k+1],tV P[k]]):=by rw[fq];exact d8 _ _
  rw[aH e1 e2,MN.l_ h1 h2 (by rw[VN,Vt,Wq];show _+2<=_;lia),iS,Wh];rfl
 have e4:zJ aD (ba (ah aQ bH fP)) a! μ s3=.ok (.loc s3.length) s4:=by
  have q:zJ aD (ba (ah aQ bH fP)) a! μ s3=Ek (some ((k+2:Nat):Int)) none (.loc n) s3:=by rw[hμ];rfl
  rw[q];unfold Ek;dsimp only;rw[i3];dsimp only;rw[O!,<-List.map_drop,vA]
 have e5:ah aQ (ah aQ (zJ aD a! (ba bH)) (bq (ae (ah bY aD (ah aQ bH bA)) (ae (ah bY aD bH) ak)))) (zJ aD (ba (ah aQ bH fP)) a!) μ st=.ok (.loc s4.length) s5:=by
  have h1:s4[s2.length]?=some (.lst ((P.take k++[P[k+1],P[k]]).map tV)):=by rw[vA,iS];exact d_ (d8 _ _) _
  have h2:s4[s3.length]?=some (.lst ((P.drop (k+2)).map tV)):=by rw[vA];exact d8 _ _
  rw[aH e3 e4,MN.l_ h1 h2 (by
   rw[VN,Vt,Vt,Vz,Wq,WU];simp only[Vo,VI];lia),uD,hQ,Wh (l₁:=P.take k++[P[k+1],P[k]])]
 have i5:aq s5 s4.length=some (Q.map tV):=by rw[uD];exact aN _ _
 obtain⟨g,ew⟩:=iL i5 (by lia) fun u hu=>(mQ u hu).wr;obtain⟨G,es⟩:∃G,s5++g=st++G:=⟨[aG.lst ((P.take k).map tV)]++[aG.lst [tV P[k+1],tV P[k]]]++[aG.lst ((P.take k++[P[k+1],P[k]]).map tV)]++[aG.lst ((P.drop (k+2)).map tV)]++[aG.lst (Q.map tV)]++g,by rw[uD,vA,iS,fq,dI];simp only[Vy]⟩
 refine⟨G,aR Q,?_,vG mQ lQ⟩;rw[<-es];unfold PM.fI;rw[aY (np:=2) (us:=[.loc n,.int p]) rfl];show(ay (aB 2 _) _ [qL n, qI p, qn] st).fin=_;rw[av,f2,ax,aL,aI (d0 e5),my,ew];rfl
end PG
namespace GX
open PySem.Spec L2 MN PG TX
open PyProof.Rows hiding St kindOf
theorem kU:Iv kn "NoUnknowns" = true:=by decide +kernel
theorem kW:Iv kn "NotWritten" = true:=by decide +kernel
theorem sUU:gA tab "NoUnknowns" "NoUnknowns" = some true:=by decide +kernel
theorem sWU:gA tab "NotWritten" "NoUnknowns" = some false:=by decide +kernel
theorem sWW:gA tab "NotWritten" "NotWritten" = some true:=by decide +kernel
theorem sUA:gA tab "NoUnknowns" "AlgebraError" = some true:=by decide +kernel
theorem sWA:gA tab "NotWritten" "AlgebraError" = some true:=by decide +kernel
theorem sUV:gA tab "NoUnknowns" "ValueError" = some true:=by decide +kernel
theorem sWV:gA tab "NotWritten" "ValueError" = some true:=by decide +kernel
abbrev P!:ME:=fO (ae (v_ (qs "told")) (ae (aj PM.bZ (v_ (ae aD (ae aO (ae bH ak))))) ak))
abbrev Sr:MH:=kr (gA tab) "NoUnknowns" (aP (fO (ae (qs "no unknowns") (ae (bq ak) ak)))) (kr (gA tab) "NotWritten" (aP (fO (ae (qs "not written") (ae (bq ak) ak)))) F1)
theorem wY(hv:Fh v=false)(μ:MN.Env):v_ (ae aD (ae aO (ae bH ak))) (some (.int r)::some v::some (.str x)::μ) st=.ok [.int r,v,.str x] st:=by have v1:aO (some (.int r)::some v::some (.str x)::μ) st=.ok v st:=nB hv rfl st;rw[Ov,hU (v:=.int r) (s1:=st) rfl (gg v1 (w:=.str x) (s2:=st) rfl)];rfl
theorem y8{c:Str}(hv:Fh v=false)(h:PM.bZ [.int r,v,.str x] st=.err c s1):b5 [.int r,v,.str x] st=((cD.er c [qI r, some v, qS x] s1).Kb (Iv kn) Sr).Ka.fin:=by
 unfold b5;rw[aY (np:=3) (us:=[aw.int r,v,.str x]) rfl];show(m3 (rK (Iv kn) (aP P!) Sr) [qI r, some v, qS x] st).fin=_;have m:aj PM.bZ (v_ (ae aD (ae aO (ae bH ak)))) [qI r, some v, qS x] st=.err c s1:=by rw[aI (wY hv []),h]
 have b:aP P! [qI r, some v, qS x] st=.er c [qI r, some v, qS x] s1:=by have c0:v_ (qs "told") [qI r, some v, qS x] st=.ok (.str "told") st:=rfl;unfold P!;rw[aL,rR,aW,c0,au,bE,aW,m,qv,qv,qv,qw]
 rw[rW,Al,b]
theorem Lh(hv:Fh v=false)(h:PM.bZ [.int r,v,.str x] st=.err "NoUnknowns" s1):b5 [.int r,v,.str x] st=.ok (.tup [.str "no unknowns",.loc s1.length]) (s1++[.lst []]):=by rw[y8 hv h,wk kU];unfold Sr;rw[BQ sUU,aL,mq (gg (v:=.str "no unknowns") (s1:=s1) rfl (eO (vs:=[]) rfl (VU _))) (by show 2<=1000;decide),az];rfl
theorem Li(hv:Fh v=false)(h:PM.bZ [.int r,v,.str x] st=.err "NotWritten" s1):b5 [.int r,v,.str x] st=.ok (.tup [.str "not written",.loc s1.length]) (s1++[.lst []]):=by rw[y8 hv h,wk kW];unfold Sr;rw[Kc sWU,BQ sWW,aL,mq (gg (v:=.str "not written") (s1:=s1) rfl (eO (vs:=[]) rfl (VU _))) (by show 2<=1000;decide),az];rfl
theorem Lj(hv:Fh v=false)(h:PM.bZ [.int r,v,.str x] st=.ok (.loc k) s1):b5 [.int r,v,.str x] st=.ok (.tup [.str "told",.loc k]) s1:=by
 unfold b5;rw[aY (np:=3) (us:=[aw.int r,v,.str x]) rfl];show(m3 (rK (Iv kn) (aP P!) Sr) [qI r, some v, qS x] st).fin=_;have m:aj PM.bZ (v_ (ae aD (ae aO (ae bH ak)))) [qI r, some v, qS x] st=.ok (.loc k) s1:=by rw[aI (wY hv []),h]
 have b:aP P! [qI r, some v, qS x] st=.rt (.tup [.str "told",.loc k]) s1:=by have c0:v_ (qs "told") [qI r, some v, qS x] st=.ok (.str "told") st:=rfl;unfold P!;rw[aL,mq (gg c0 m) (by show 2<=1000;decide),az];rfl
 rw[rW,Al,b];rfl
theorem tQ{c:Str}(hv:Fh v=false)(h:PM.bZ [.int r,v,.str x] st=.err c s1)(hk:Iv kn c=true)(ha:gA tab c "AlgebraError" = some true)(hw:gA tab c "ValueError" = some true):dy [.int r,v,.str x] st=.ok (.bl true) s1:=by
 unfold dy;rw[aY (np:=3) (us:=[aw.int r,v,.str x]) rfl];show(ay (m3 (rK (Iv kn) (cF (aj PM.bZ (v_ (ae aD (ae aO (ae bH ak)))))) (N! (gA tab) "AlgebraError" 3 (aP (rL (gA tab) 3 "ValueError")) F1))) _ [qI r, some v, qS x, qn] st).fin=_;have m:aj PM.bZ (v_ (ae aD (ae aO (ae bH ak)))) [qI r, some v, qS x, qn] st=.err c s1:=by rw[aI (wY hv [none]),h]
 rw[av,rW,Al,fA,m,qw,wk hk,RK ha,aL];show((rH ((rL (gA tab) 3 "ValueError" [qI r, some v, qS x, some (.exc c)] s1).zK _ _)).Ka.cR _).fin=_;rw[Gf,Gf,Gf,RL hw,az];rfl
theorem CB(hr:fR r=true)(h:flat v=true)(hb:Tr 1 4 v=false)(st:ao):∃g,PM.bZ [.int r,v,.str x] st=.err "NoUnknowns" (st++g):=by
 obtain⟨g1,e1⟩:=jl hr st;have e2:=yG h hb (st++g1);refine⟨g1,?_⟩;have x1:cF (aj PM.dc (ae aD ak)) [qI r, some v, qS x, qn] st=.nx [qI r, some v, qS x, qn] (st++g1):=by rw[fA,aI (d0 (v:=.int r) (s1:=st) rfl),e1,az];rfl
 have v1:aO [qI r, some v, qS x, qn] (st++g1)=.ok v (st++g1):=nB (wI h) rfl _;have q2:aj PM.bJ (ae aO ak) [qI r, some v, qS x, qn] (st++g1)=.err "NoUnknowns" (st++g1):=by rw[aI (d0 v1),e2]
 unfold PM.bZ;rw[aY (np:=3) (us:=[aw.int r,v,.str x]) rfl];show(ay (cF (aj PM.dc (ae aD ak))) (ay (cF (aj PM.bJ (ae aO ak))) _) [qI r, some v, qS x, qn] st).fin=_;rw[av,x1,ax,av,fA,q2,qw];rfl
def A7:List aw:=[.int 0,.int 5,.int (-1),.bl true,.cO,.str "1",.int 99]
theorem Lk:∀b∈A7,flat b=true/\Tr 1 4 b=false:=by intro b hb;unfold A7 at hb;simp only[VJ,Zq,X4]at hb;rcases hb with rfl|rfl|rfl|rfl|rfl|rfl|rfl<;>exact⟨rfl,by decide⟩
end GX
namespace MN
open PySem.Spec L2
open PyProof.Rows hiding St kindOf
theorem dH{P:_q}(a:sc.kind=.function:=by rfl)(b:sc.isCoroutine=false:=by rfl)(c:sc.isGenerator=false:=by rfl)(d:N.Nodup:=by decide +kernel)(e:N.take P.length=P:=by rfl)(f:∀x∈P,sc.names.lookup x=some .local\/sc.names.lookup x=some .cell:=by decide +kernel)(g:∀y∈sc.names,y.2≠.free:=by decide +kernel):iW N P sc:=⟨a,b,c,d,e,f,g⟩
theorem lR{cl:List (Str×_t)}(xK:closureFor scope X.env=pure cl:=by rfl)(A:jN X scope cl caps:=by repeat first|exact .nil|refine .cons (by rfl) (by rfl) (by first|exact Or.inl rfl|exact Or.inr rfl) (by first|exact Or.inl rfl|exact Or.inr rfl) ?_)(has:((relabel scope X.env).names.all fun p => !(p.2 == .cell || p.2 == .free) || (cl.map (·.1)).contains p.1)=true:=by rfl)(n_:(scope.names.all fun p => !(p.2 == .cell))=true:=by rfl)(kind:scope.kind=.function:=by rfl)(names:(scope.names.all fun p => !(p.2 == .local) || scope.names.lookup p.1==some .local)=true:=by rfl)(len:N.length=k+caps.length:=by rfl)(hN:N.drop k=cl.map (·.1):=by rfl):pV X N scope cl k caps:=Rv xK A has n_ kind names len hN
def MgK(K:_l)(mg:_j):Prop:=∀x f,W.nsIn K mainGlobals x=some (some (.ref f))->mg x=some (.ref f)
theorem iT{x:Str}:∀{l:_q},Kr mg l->x∈l->mg x=none
 |y::l,h,hx=>by
  rcases VJ.mp hx with e|e
  .rw[e];exact h.1
  .exact iT h.2 e
theorem Ss{x:Str}:∀{l:_q},Ks K mg l->x∈l->F9 K mg x
 |y::l,h,hx=>by
  rcases VJ.mp hx with e|e
  .rw[e];exact h.1
  .exact Ss h.2 e
theorem FnAt.iU{st:Stmt}(F:dG K x st)(hm:MgK K mg)(S:iW N ps (bW st))
  (h:∀ (f:_t) (iw:_r) (A:_u) (outer:List PySem.Env) (s:_s) (H:Hp) (E:XK),N.Nodup->gL k (A.deeper (envOfC x (bW st) s.heap.objs.size f iw)) ->
   j' (hV (lI P w) P w K mg base N x (bW st) f iw A outer s H E) (fM st) (tS (hV (lI P w) P w K mg base N x (bW st) f iw A outer s H E) E body))
  (hb:∀ (kV doc pm:_r) (an:Option _t) (iw ct:_r) (us:_n),us.length=ps.length->bindArgs (W.fnOf x x (h_ st) (fM st) (bW st) .none kV doc pm an iw ct) ⟨us,[]⟩=pure (ps.zip us):=by
   first|exact fun _ _ _ _ _ _=>Ry fun _=>rfl|exact fun _ _ _ _ _ _=>Rz fun _ _=>rfl|exact fun _ _ _ _ _ _=>RA fun _ _ _=>rfl|exact fun _ _ _ _ _ _=>len0 rfl):FnAt P w K mg base x (k+1) (gk ps.length N.length body):=by
 obtain⟨f,fd,F,a⟩:=F;exact FnAt.mk F (hm _ _ a) S hb fun iw A outer s H E=>h f iw A outer s H E S.nd
end MN
namespace GX
open PySem.Spec L2 MN PG TX
open PyProof.Rows hiding St kindOf
open OX (Nb jr)
theorem jZ{s:ao}{μ:MN.Env}{k:Int}(h:aq s 0=some (ns.map aw.int))(k0:0<=k)(k1:k<=1000):∃o,aj PM.aE (ae aD (ae (mC (.int k)) ak)) (some (.loc 0)::μ) s=.ok (.int o) s/\0<=o:=by obtain⟨o,e,o0,_⟩:=wz h k0 (by lia);exact⟨o,e,o0⟩
abbrev EL(r sec thr:Int)(af:Nat)(x5 x6:Option aw)(x:Str)(x8 x9 x10 x11:Option aw):MN.Env:=[some (.loc 0),some (.int r),some (.int sec),some (.int thr),some (.int (af:Int)),x5,x6,some (.str x),x8,x9,x10,x11]
section
variable{sec thr:Int}{x5 x6 x8 x9:Option aw}
theorem ids(a b:Str)(μ:MN.Env)(s:ao)(m:ME)(h:m μ s=.ok (.str a) s):ah cG m (mC (.str b)) μ s=.ok (.bl (a==b)) s:=by rw[aH h (y:=.str b) (s2:=s) rfl];rfl
theorem Pq(hr:fR r=true)(h1:1<=af)(hm:af<=4)(h:jC x):∃aF,k_ (EL r sec thr af x5 x6 x x8 x9 none none) st=.rt (.bl true) aF:=by
 have du:=AW (r:=r) h1 hm h.asc (by have:=h.len;lia) (lq h) (kJ h) st;have ar:∀(y10 y11:Option aw)(s:ao),ae aO (ae fC (ae g? ak)) (EL r sec thr af x5 x6 x x8 x9 y10 y11) s=.ok [.int r,.int (af:Int),.str x] s:=fun y10 y11 s=>hU (v:=.int r) (s1:=s) rfl (gg (v:=.int (af:Int)) (s1:=s) rfl (w:=.str x) (s2:=s) rfl);cases hd:uG r af x with
 |none=>
  rw[hd]at du;obtain⟨g,ed⟩:=du;obtain⟨s1,dI⟩:∃s1,s1=st++g:=⟨_,rfl⟩
  rw[<-dI]at ed;have rd:=tM hr h1 hm h s1;rw[hd]at rd;obtain⟨g2,er⟩:=rd;have td:=Li rfl er;obtain⟨s2,fq⟩:∃s2,s2=s1++g2++[aG.lst []]:=⟨_,rfl⟩
  rw[<-fq]at td;have rd3:=tM hr h1 hm h s2;rw[hd]at rd3;obtain⟨g3,er3⟩:=rd3;have f10:aB 10 (aj PM.dF (ae aO (ae fC (ae g? ak)))) (EL r sec thr af x5 x6 x x8 x9 none none) st=.nx (EL r sec thr af x5 x6 x x8 x9 (some .cO) none) s1:=by
   have c:aj PM.dF (ae aO (ae fC (ae g? ak))) (EL r sec thr af x5 x6 x x8 x9 none none) st=.ok .cO s1:=by rw[aI (ar _ _ _)];exact ed
   rw[bw c];rfl
  have f11:aB 11 (aj b5 (ae aO (ae fC (ae g? ak)))) (EL r sec thr af x5 x6 x x8 x9 (some .cO) none) s1=.nx (EL r sec thr af x5 x6 x x8 x9 (some .cO) (some (.tup [.str "not written",.loc (s1++g2).length]))) s2:=by
   have c:aj b5 (ae aO (ae fC (ae g? ak))) (EL r sec thr af x5 x6 x x8 x9 (some .cO) none) s1=.ok (.tup [.str "not written",.loc (s1++g2).length]) s2:=by rw[aI (ar _ _ _)];exact td
   rw[bw c];rfl
  have j3:aT (ah (S9 false) Fj (mC .cO)) (EL r sec thr af x5 x6 x x8 x9 (some .cO) (some (.tup [.str "not written",.loc (s1++g2).length]))) s2=.ok true s2:=rfl;have e1:ah cG (ah bY C4 bX) (qs "not written") (EL r sec thr af x5 x6 x x8 x9 (some .cO) (some (.tup [.str "not written",.loc (s1++g2).length]))) s2=.ok (.bl true) s2:=by rw[ids "not written" "not written" _ _ _ rfl,Wn]
  have e2:aj dy (ae aO (ae fC (ae g? ak))) (EL r sec thr af x5 x6 x x8 x9 (some .cO) (some (.tup [.str "not written",.loc (s1++g2).length]))) s2=.ok (.bl true) (s2++g3):=by rw[aI (ar _ _ _)];exact tQ rfl er3 kW sWA sWV
  refine⟨s2++g3,?_⟩;unfold k_;rw[av,f10,ax];unfold oH;rw[av,f11,ax];unfold oG;rw[av,b6 j3,aL,wC e1 e2,az];rfl
 |some D=>
  rw[hd]at du;obtain⟨g,k,ed,hk,mk⟩:=du;obtain⟨s1,dI⟩:∃s1,s1=st++g:=⟨_,rfl⟩
  rw[<-dI]at ed mk;have rd:=tM hr h1 hm h s1;rw[hd]at rd;obtain⟨g2,j,er,hj,mj⟩:=rd;have td:=Lj rfl er;obtain⟨s2,fq⟩:∃s2,s2=s1++g2:=⟨_,rfl⟩
  rw[<-fq]at td mj;have mk2:s2[k]?=some (.lst (D.map tV)):=by rw[fq];exact d_ mk _
  have gd:Dg af D/\D.length<=91:=by
   have a:=AU (af:=af) h.asc (VX (lq h) (by decide)) (kJ h);have b:=tq af x;have c:=lq h;unfold uG at hd;split at hd
   .cases hd
   .split at hd
    .injection hd with hd;rw[hd]at a b;exact⟨a,by lia⟩
    .cases hd
  obtain⟨g3,es⟩:=yD mj mk2 (by lia) (fun t ht=>by rw[gd.1.len t ht];lia);have f10:aB 10 (aj PM.dF (ae aO (ae fC (ae g? ak)))) (EL r sec thr af x5 x6 x x8 x9 none none) st=.nx (EL r sec thr af x5 x6 x x8 x9 (some (.loc k)) none) s1:=by
   have c:aj PM.dF (ae aO (ae fC (ae g? ak))) (EL r sec thr af x5 x6 x x8 x9 none none) st=.ok (.loc k) s1:=by rw[aI (ar _ _ _)];exact ed
   rw[bw c];rfl
  have f11:aB 11 (aj b5 (ae aO (ae fC (ae g? ak)))) (EL r sec thr af x5 x6 x x8 x9 (some (.loc k)) none) s1=.nx (EL r sec thr af x5 x6 x x8 x9 (some (.loc k)) (some (.tup [.str "told",.loc j]))) s2:=by
   have c:aj b5 (ae aO (ae fC (ae g? ak))) (EL r sec thr af x5 x6 x x8 x9 (some (.loc k)) none) s1=.ok (.tup [.str "told",.loc j]) s2:=by rw[aI (ar _ _ _)];exact td
   rw[bw c];rfl
  have j3:aT (ah (S9 false) Fj (mC .cO)) (EL r sec thr af x5 x6 x x8 x9 (some (.loc k)) (some (.tup [.str "told",.loc j]))) s2=.ok false s2:=rfl;have e1:ah cG (ah bY C4 bX) (qs "told") (EL r sec thr af x5 x6 x x8 x9 (some (.loc k)) (some (.tup [.str "told",.loc j]))) s2=.ok (.bl true) s2:=by rw[ids "told" "told" _ _ _ rfl,Wn]
  have e2:aj PM.gS (ae (ah bY C4 bA) (ae Fj ak)) (EL r sec thr af x5 x6 x x8 x9 (some (.loc k)) (some (.tup [.str "told",.loc j]))) s2=.ok (.bl true) (s2++g3):=by rw[aI (gg (v:=.loc j) (s1:=s2) rfl (w:=.loc k) (s2:=s2) rfl),Si];exact es
  refine⟨s2++g3,?_⟩;unfold k_;rw[av,f10,ax];unfold oH;rw[av,f11,ax];unfold oG;rw[av,cI j3,ax];unfold vk;rw[aL,wC e1 e2,az];rfl
theorem HY(hr:fR r=true)(h1:1<=af)(hm:af<=4)(hi:aq st 0=some (ns.map aw.int))(h:jC x):∃aF,k! (EL r sec thr af x5 x6 x x8 none none none) st=.rt (.bl true) aF:=by
 have j3:aT (ah cG (ah bf (ah bV ck xS) z!) bA) (EL r sec thr af x5 x6 x x8 none none none) st=.ok ((thr.fdiv 10).fmod 8==1) st:=bu (iJ (eM (iI rfl (lG (by decide) (by decide))) (by decide)));cases hb:(thr.fdiv 10).fmod 8==1 with
 |false=>
  rw[hb]at j3;obtain⟨aF,e⟩:=Pq (st:=st) (sec:=sec) (thr:=thr) (x5:=x5) (x6:=x6) (x8:=x8) (x9:=none) hr h1 hm h;refine⟨aF,?_⟩;unfold k!;rw[av,cI j3,ax,e]
 |true=>
  rw[hb]at j3;obtain⟨s1,dI⟩:∃s1,s1=st++[aG.lst A7]:=⟨_,rfl⟩
  have i1:aq s1 0=some (ns.map aw.int):=by rw[dI];exact aC hi _
  obtain⟨o,eo,o0⟩:=jZ (μ:=[some (.int r),some (.int sec),some (.int thr),some (.int (af:Int)),x5,x6,some (.str x),x8,none,none,none]) (k:=5) i1 (by decide) (by decide);obtain⟨k,ek,hk⟩:=mz (p:=o) (n:=7) (by decide);have kl:k<A7.length:=by show k<7;lia
  obtain⟨cnt,hc⟩:∃cnt,cnt=A7[k]:=⟨_,rfl⟩
  obtain⟨cf,cw⟩:=Lk cnt (by rw[hc];exact Ws kl);have nx:=wI cf;have f9:∀l:MA,(∀μ s,l μ s=.ok A7 s)->aB 9 (ah bY (bq l) (ah bf (aj PM.aE (ae aD (ae Jz ak))) Ir)) (EL r sec thr af x5 x6 x x8 none none none) st=.nx (EL r sec thr af x5 x6 x x8 (some cnt) none none) s1:=fun l hl=>by
   have a:bq l (EL r sec thr af x5 x6 x x8 none none none) st=.ok (.loc st.length) s1:=by rw[dI];exact eO (hl _ _) (by decide)
   have b:ah bf (aj PM.aE (ae aD (ae Jz ak))) Ir (EL r sec thr af x5 x6 x x8 none none none) s1=.ok (.int (k:Int)) s1:=by rw[<-ek];exact eM eo (by decide)
   have c:ah bY (bq l) (ah bf (aj PM.aE (ae aD (ae Jz ak))) Ir) (EL r sec thr af x5 x6 x x8 none none none) st=.ok cnt s1:=by rw[aH a b];exact gX (us:=A7) (by rw[dI];exact aN _ _) (L2.ft (by rw[hc];exact VD kl))
   rw[bw c];rfl
  obtain⟨g2,e2⟩:=CB (x:=x) hr cf cw s1;have td:=Lh nx e2;obtain⟨s2,fq⟩:∃s2,s2=s1++g2++[aG.lst []]:=⟨_,rfl⟩
  rw[<-fq]at td;obtain⟨g3,e3⟩:=CB (x:=x) hr cf cw s2;have ar:∀(s:ao),ae aO (ae NU (ae g? ak)) (EL r sec thr af x5 x6 x x8 (some cnt) none none) s=.ok [.int r,cnt,.str x] s:=fun s=>hU (v:=.int r) (s1:=s) rfl (gg (v:=cnt) (s1:=s) (nB nx rfl s) (w:=.str x) (s2:=s) rfl);have c1:aj b5 (ae aO (ae NU (ae g? ak))) (EL r sec thr af x5 x6 x x8 (some cnt) none none) s1=.ok (.tup [.str "no unknowns",.loc (s1++g2).length]) s2:=by rw[aI (ar _)];exact td
  have c2:ah bY (aj b5 (ae aO (ae NU (ae g? ak)))) bX (EL r sec thr af x5 x6 x x8 (some cnt) none none) s1=.ok (.str "no unknowns") s2:=by rw[aH c1 (y:=.int 0) (s2:=s2) rfl];rfl
  have q1:ah cG (ah bY (aj b5 (ae aO (ae NU (ae g? ak)))) bX) (qs "no unknowns") (EL r sec thr af x5 x6 x x8 (some cnt) none none) s1=.ok (.bl true) s2:=by rw[aH c2 (y:=.str "no unknowns") (s2:=s2) rfl];show c_.ok (aw.bl (("no unknowns":Str) == "no unknowns")) s2=_;rw[Wn]
  have q2:aj dy (ae aO (ae NU (ae g? ak))) (EL r sec thr af x5 x6 x x8 (some cnt) none none) s2=.ok (.bl true) (s2++g3):=by rw[aI (ar _)];exact tQ nx e3 kU sUA sUV
  refine⟨s2++g3,?_⟩;unfold k!;rw[av,b6 j3,av,f9,ax,aL,wC q1 q2,az]
  .rfl
  .intro μ s;rfl
theorem HZ(hr:fR r=true)(h1:1<=af)(hm:af<=4)(hi:aq st 0=some (ns.map aw.int))(h:jC x):∃aF,k? (EL r sec thr af x5 x6 x x8 none none none) st=.rt (.bl true) aF:=by
 obtain⟨b,j3⟩:∃b,aT (ah (z? false) (ah bf ck xS) (fO (ae fP (ae kd (ae JA ak))))) (EL r sec thr af x5 x6 x x8 none none none) st=.ok b st:=by have md:ah bf ck xS (EL r sec thr af x5 x6 x x8 none none none) st=.ok (.int (thr.fmod 10)) st:=eM rfl (by decide);refine⟨_,bu (c:=[aw.int 2,.int 4,.int 6].any (fun y=>Iu y (.int (thr.fmod 10)))) ?_⟩;rw[aH md (y:=.tup [.int 2,.int 4,.int 6]) (s2:=st) (mq (vs:=[.int 2,.int 4,.int 6]) rfl (by show 3<=1000;decide))];rfl
 cases b with
 |false=>
  obtain⟨aF,e⟩:=HY (st:=st) (sec:=sec) (thr:=thr) (x5:=x5) (x6:=x6) (x8:=x8) hr h1 hm hi h;refine⟨aF,?_⟩;unfold k?;rw[av,cI j3,ax,e]
 |true=>
  obtain⟨o,eo,o0⟩:=jZ (μ:=[some (.int r),some (.int sec),some (.int thr),some (.int (af:Int)),x5,x6,some (.str x),x8,none,none,none]) (k:=3) hi (by decide) (by decide);obtain⟨g,y,ey,fy⟩:=y7 (c:=o) st;have f7:aB 7 (aj PM.gf (ae (aj PM.aE (ae aD (ae lu ak))) ak)) (EL r sec thr af x5 x6 x x8 none none none) st=.nx (EL r sec thr af x5 x6 y x8 none none none) (st++g):=by
   have c:aj PM.gf (ae (aj PM.aE (ae aD (ae lu ak))) ak) (EL r sec thr af x5 x6 x x8 none none none) st=.ok (.str y) (st++g):=by rw[aI (d0 eo)];exact ey
   rw[bw c];rfl
  obtain⟨aF,e⟩:=HY (st:=st++g) (sec:=sec) (thr:=thr) (x5:=x5) (x6:=x6) (x8:=x8) hr h1 hm (aC hi g) fy;refine⟨aF,?_⟩;unfold k?;rw[av,b6 j3,f7,ax,e]
def tR(x:Str):_q:=["1*x","-1*x","x^2 + 1*x","1*x^2 - 1","1*" ++ x,"0" ++ x,"-" ++ x,"x*" ++ x]
theorem D4:(["1*x","-1*x","x^2 + 1*x","1*x^2 - 1"]:_q).all CA=true:=by decide +kernel
theorem A8(h:Src x):∀y∈tR x,jC y:=by
 intro y hy;have f4:=Wa.mp D4;unfold tR at hy;have two:∀(A:List Nat)(z:Str),cl z=A->(∀c∈A,c<128/\c≠32)->A.length<=2->da ke 1 0 A=true->(A.length=2->da ke 1 0 (A.drop 1)=true/\∀l,da ke 60 0 (A++l)=da ke 60 0 l)->jC (z++x):=fun A z hz a b c d=>HN (A:=A) h (by rw[fJ,hz]) a b c d;simp only[VJ,Zq,X4]at hy;rcases hy with rfl|rfl|rfl|rfl|rfl|rfl|rfl|rfl
 .exact kK (f4 _ (by simp))
 .exact kK (f4 _ (by simp))
 .exact kK (f4 _ (by simp))
 .exact kK (f4 _ (by simp))
 .refine two [49,42] "1*" (by decide +kernel) (by decide) (by decide) (by decide) fun _=>⟨by decide,fun l=>?_⟩
  show da ke 60 0 (49::42::l)=_;rw[W5,fj (by decide),eQ (by decide)];exact⟨fun z=>z.2,fun z=>⟨by decide,z⟩⟩
 .exact two [48] "0" (by decide +kernel) (by decide) (by decide) (by decide) fun z=>absurd z (by decide)
 .exact two [45] "-" (by decide +kernel) (by decide) (by decide) (by decide) fun z=>absurd z (by decide)
 .refine two [120,42] "x*" (by decide +kernel) (by decide) (by decide) (by decide) fun _=>⟨by decide,fun l=>?_⟩
  show da ke 60 0 (120::42::l)=_;rw[eQ (by decide),eQ (by decide)]
theorem H9(hr:fR r=true)(h1:1<=af)(hm:af<=4)(hi:aq st 0=some (ns.map aw.int))(h:jC x)(hs:(thr.fmod 10==8)=true->Src x):∃aF,lg (EL r sec thr af x5 x6 x none none none none) st=.rt (.bl true) aF:=by
 have j3:aT (ah cG (ah bf ck xS) z!) (EL r sec thr af x5 x6 x none none none none) st=.ok (thr.fmod 10==8) st:=bu (iJ (eM rfl (by decide)));cases hb:thr.fmod 10==8 with
 |false=>
  rw[hb]at j3;obtain⟨aF,e⟩:=HZ (st:=st) (sec:=sec) (thr:=thr) (x5:=x5) (x6:=x6) (x8:=none) hr h1 hm hi h;refine⟨aF,?_⟩;unfold lg;rw[av,cI j3,ax,e]
 |true=>
  rw[hb]at j3;have sx:=hs hb;have xl:=sx.len;obtain⟨s1,dI⟩:∃s1,s1=st++[aG.lst ((tR x).map .str)]:=⟨_,rfl⟩
  have i1:aq s1 0=some (ns.map aw.int):=by rw[dI];exact aC hi _
  have ad:∀(z:Str),z.length<=10->ah aQ (mC (.str z)) g? (EL r sec thr af x5 x6 x none none none none) st=.ok (.str (z++x)) st:=fun z hz=>by rw[aH (x:=.str z) (s1:=st) rfl (y:=.str x) (s2:=st) rfl];exact oS (by lia) st
  have a1:=ad "1*" (by decide +kernel);have a2:=ad "0" (by decide +kernel);have a3:=ad "-" (by decide +kernel);have a4:=ad "x*" (by decide +kernel);obtain⟨o,eo,o0⟩:=jZ (μ:=[some (.int r),some (.int sec),some (.int thr),some (.int (af:Int)),x5,x6,some (.str x),some (.loc st.length),none,none,none]) (k:=3) i1 (by decide) (by decide);obtain⟨k,ek,hk⟩:=mz (p:=o) (n:=8) (by decide);have kl:k<(tR x).length:=by show k<8;lia
  obtain⟨y,hy⟩:∃y,y=(tR x)[k]:=⟨_,rfl⟩
  have fy:=A8 sx y (by rw[hy];exact Ws kl);have f8:aB 8 (bq (ae (qs "1*x") (ae (qs "-1*x") (ae (qs "x^2 + 1*x") (ae (qs "1*x^2 - 1") (ae (ah aQ (qs "1*") g?) (ae (ah aQ (qs "0") g?) (ae (ah aQ (qs "-") g?) (ae (ah aQ (qs "x*") g?) ak))))))))) (EL r sec thr af x5 x6 x none none none none) st=.nx (EL r sec thr af x5 x6 x (some (.loc st.length)) none none none) s1:=by
   have l:bq (ae (qs "1*x") (ae (qs "-1*x") (ae (qs "x^2 + 1*x") (ae (qs "1*x^2 - 1") (ae (ah aQ (qs "1*") g?) (ae (ah aQ (qs "0") g?) (ae (ah aQ (qs "-") g?) (ae (ah aQ (qs "x*") g?) ak)))))))) (EL r sec thr af x5 x6 x none none none none) st=.ok (.loc st.length) s1:=by rw[dI];exact eO (vs:=(tR x).map .str) (hU (v:=.str "1*x") (s1:=st) rfl (hU (v:=.str "-1*x") (s1:=st) rfl (hU (v:=.str "x^2 + 1*x") (s1:=st) rfl (hU (v:=.str "1*x^2 - 1") (s1:=st) rfl (hU a1 (hU a2 (gg a3 a4))))))) (by show 8<=1000;decide)
   rw[bw l];rfl
  have f7:aB 7 (ah bY (jw 8) (ah bf (aj PM.aE (ae aD (ae lu ak))) z!)) (EL r sec thr af x5 x6 x (some (.loc st.length)) none none none) s1=.nx (EL r sec thr af x5 x6 y (some (.loc st.length)) none none none) s1:=by
   have b:ah bf (aj PM.aE (ae aD (ae lu ak))) z! (EL r sec thr af x5 x6 x (some (.loc st.length)) none none none) s1=.ok (.int (k:Int)) s1:=by rw[<-ek];exact eM eo (by decide)
   have c:ah bY (jw 8) (ah bf (aj PM.aE (ae aD (ae lu ak))) z!) (EL r sec thr af x5 x6 x (some (.loc st.length)) none none none) s1=.ok (.str y) s1:=by rw[aH (x:=.loc st.length) (s1:=s1) rfl b];refine gX (us:=(tR x).map .str) (by rw[dI];exact aN _ _) (L2.ft ?_);rw[VV,VD kl,hy];rfl
   rw[bw c];rfl
  obtain⟨aF,e⟩:=HZ (st:=s1) (sec:=sec) (thr:=thr) (x5:=x5) (x6:=x6) (x8:=some (.loc st.length)) hr h1 hm i1 fy;refine⟨aF,?_⟩;unfold lg;rw[av,b6 j3,av,f8,ax,f7,ax,e]
theorem D5(h:(thr.fmod 2==1)=true):(thr.fmod 10==8)=false:=by
 have h2:thr.fmod 2=1:=by simpa using h
 rw[WJ _ (by decide)]at h2;have:¬ thr.fmod 10=8:=by rw[WJ _ (by decide)];lia
 simpa using this
theorem L?(hr:fR r=true)(h1:1<=af)(hm:af<=4)(hi:aq st 0=some (ns.map aw.int))(h:Src x):∃aF,nk (EL r sec thr af x5 x6 x none none none none) st=.rt (.bl true) aF:=by
 have j3:aT (ah cG (ah bf ck fP) bA) (EL r sec thr af x5 x6 x none none none none) st=.ok (thr.fmod 2==1) st:=bu (iJ (eM rfl (by decide)));cases hb:thr.fmod 2==1 with
 |false=>
  rw[hb]at j3;obtain⟨aF,e⟩:=H9 (st:=st) (sec:=sec) (thr:=thr) (x5:=x5) (x6:=x6) hr h1 hm hi h.Sn fun _=>h;refine⟨aF,?_⟩;unfold nk;rw[av,cI j3,ax,e]
 |true=>
  rw[hb]at j3;obtain⟨o,eo,o0⟩:=jZ (μ:=[some (.int r),some (.int sec),some (.int thr),some (.int (af:Int)),x5,x6,some (.str x),none,none,none,none]) (k:=3) hi (by decide) (by decide);obtain⟨q,eq,q0⟩:=jZ (μ:=[some (.int r),some (.int sec),some (.int thr),some (.int (af:Int)),x5,x6,some (.str x),none,none,none,none]) (k:=4) hi (by decide) (by decide);obtain⟨y,ey,fy⟩:=uH h o0 q0 st;have f7:aB 7 (aj PM.fH (ae g? (ae (aj PM.aE (ae aD (ae lu ak))) (ae (aj PM.aE (ae aD (ae kd ak))) ak)))) (EL r sec thr af x5 x6 x none none none none) st=.nx (EL r sec thr af x5 x6 y none none none none) st:=by
   have c:aj PM.fH (ae g? (ae (aj PM.aE (ae aD (ae lu ak))) (ae (aj PM.aE (ae aD (ae kd ak))) ak))) (EL r sec thr af x5 x6 x none none none none) st=.ok (.str y) st:=by rw[aI (hU (v:=.str x) (s1:=st) rfl (gg eo eq))];exact ey
   rw[bw c];rfl
  obtain⟨aF,e⟩:=H9 (st:=st) (sec:=sec) (thr:=thr) (x5:=x5) (x6:=x6) hr h1 hm hi fy fun z=>by rw[D5 hb]at z;cases z
  refine⟨aF,?_⟩;unfold nk;rw[av,b6 j3,f7,ax,e]
theorem Ma{p:Nat}(hr:fR r=true)(h1:1<=af)(hm:af<=4)(hi:aq st 0=some (ns.map aw.int))(hp:st[p]?=some (.lst (D.map tV)))(hD:∀u∈D,En u)(hn:D.length<=30):∃aF,nq [qL 0, qI r, qI sec, qI thr, qN af, x5, qL p, qn, qn, qn, qn, qn] st=.rt (.bl true) aF:=by
 obtain⟨g,ew⟩:=iL (dU hp) (by lia) fun u hu=>(hD u hu).wr;obtain⟨s1,dI⟩:∃s1,s1=st++g:=⟨_,rfl⟩
 rw[<-dI]at ew;have i1:aq s1 0=some (ns.map aw.int):=by rw[dI];exact aC hi _
 have p1:s1[p]?=some (.lst (D.map tV)):=by rw[dI];exact d_ hp _
 have f7:aB 7 (aj PM.b! (ae jt ak)) [qL 0, qI r, qI sec, qI thr, qN af, x5, qL p, qn, qn, qn, qn, qn] st=.nx (EL r sec thr af x5 (some (.loc p)) (aR D) none none none none) s1:=by
  have c:aj PM.b! (ae jt ak) [qL 0, qI r, qI sec, qI thr, qN af, x5, qL p, qn, qn, qn, qn, qn] st=.ok (.str (aR D)) s1:=by rw[aI (d0 (v:=.loc p) (s1:=st) rfl),my];exact ew
  rw[bw c];rfl
 have src:=vG hD hn;have ta:aT (ah cG (ah bf (ah bV bH Fm) z!) bA) (EL r sec thr af x5 (some (.loc p)) (aR D) none none none none) s1=.ok ((sec.fdiv 80).fmod 8==1) s1:=bu (iJ (eM (iI rfl (lG (by decide) (by decide))) (by decide)));have tb:aT (ah BC (aj bG (ae jt ak)) bA) (EL r sec thr af x5 (some (.loc p)) (aR D) none none none none) s1=.ok (decide ((D.length:Int)>1)) s1:=by
  refine bu ?_;have ln:aj bG (ae jt ak) (EL r sec thr af x5 (some (.loc p)) (aR D) none none none none) s1=.ok (.int (D.length:Int)) s1:=by rw[aI (d0 (v:=.loc p) (s1:=s1) rfl),gu (dU p1),Vt]
  rw[aH ln (y:=.int 1) (s2:=s1) rfl];rfl
 obtain⟨b,j3,S3⟩:∃b,i_ (aT (ah cG (ah bf (ah bV bH Fm) z!) bA)) (aT (ah BC (aj bG (ae jt ak)) bA)) (EL r sec thr af x5 (some (.loc p)) (aR D) none none none none) s1=.ok b s1/\(b=true->2<=D.length):=by
  cases hz:(sec.fdiv 80).fmod 8==1 with
  |false=>
   rw[hz]at ta;exact⟨false,by rw[jQ,ta,au,m8],fun z=>by cases z⟩
  |true=>
   rw[hz]at ta;refine⟨decide ((D.length:Int)>1),by rw[jQ,ta,au,m7,tb],fun z=>?_⟩;have:=Wj z;lia
 cases b with
 |false=>
  obtain⟨aF,e⟩:=L? (st:=s1) (sec:=sec) (thr:=thr) (x5:=x5) (x6:=some (.loc p)) hr h1 hm i1 src;refine⟨aF,?_⟩;unfold nq;rw[av,f7,ax];unfold su;rw[av,cI j3,ax,e]
 |true=>
  obtain⟨q,eq,q0⟩:=jZ (μ:=[some (.int r),some (.int sec),some (.int thr),some (.int (af:Int)),x5,some (.loc p),some (.str (aR D)),none,none,none,none]) (k:=4) i1 (by decide) (by decide);obtain⟨g2,y,ey,sy⟩:=tP (p:=q) (dU p1) (S3 rfl) hn hD;have f8:aB 7 (aj PM.fI (ae jt (ae (aj PM.aE (ae aD (ae kd ak))) ak))) (EL r sec thr af x5 (some (.loc p)) (aR D) none none none none) s1=.nx (EL r sec thr af x5 (some (.loc p)) y none none none none) (s1++g2):=by
   have c:aj PM.fI (ae jt (ae (aj PM.aE (ae aD (ae kd ak))) ak)) (EL r sec thr af x5 (some (.loc p)) (aR D) none none none none) s1=.ok (.str y) (s1++g2):=by rw[aI (gg (v:=.loc p) (s1:=s1) rfl eq)];exact ey
   rw[bw c];rfl
  obtain⟨aF,e⟩:=L? (st:=s1++g2) (sec:=sec) (thr:=thr) (x5:=x5) (x6:=some (.loc p)) hr h1 hm (aC i1 g2) sy;refine⟨aF,?_⟩;unfold nq;rw[av,f7,ax];unfold su;rw[av,b6 j3,f8,ax,e]
end
theorem Pr{o:Int}{L:List bg}(o0:0<=o)(o9:o<=997)(hm:af<=4)(hl:L.length<=12)(hL:∀t∈L,Good af t/\Nb t.2):(∀t∈bI o (b9 L),En t)/\(bI o (b9 L)).length<=30:=by
 have S:=Ce (r:=o) (B:=10 ^ 57) (af:=af) (P:=L) (by decide) o0 (fun t ht=>(hL t ht).1.len) (fun t ht=>(hL t ht).2);refine⟨fun t ht=>⟨by rw[S.len t ht];exact hm,fun e he=>?_,?_⟩,by have:=nC o L;lia⟩
 .obtain⟨u,hu,eu⟩:=yQ ht;rw[eu]at he;exact(hL u hu).1.rg e he
 .have b:=S.big t ht;have:(L.length:Int)*10 ^ 57<=12*10 ^ 57:=YJ (by lia) (by decide);unfold cg;split<;>lia
theorem H_:∀(c:aG)(ns:_m),ns.length<=63->aq [c] 0=some (ns.map aw.int)->∃aF,GY [.loc 0] [c]=.ok (.bl true) aF:=by
 intro c ns hl hi;obtain⟨s,hs⟩:∃s,[c]=s:=⟨_,rfl⟩
 rw[hs]at hi⊢;clear hs;obtain⟨o,eo,o0⟩:=jZ (μ:=[none,none,none,none,none,none,none,none,none,none,none]) (k:=0) hi (by decide) (by decide);obtain⟨g,r,er,hr⟩:=O1 o0 s;have hrB:fR r=true:=by
  rcases hr with rfl|h
  .rfl
  .exact G1 h
 obtain⟨s1,dI⟩:∃s1,s1=s++g:=⟨_,rfl⟩
 rw[<-dI]at er;have i1:aq s1 0=some (ns.map aw.int):=by rw[dI];exact aC hi _
 have x1:aB 1 (aj PM.iE (ae (aj PM.aE (ae aD (ae bX ak))) ak)) [qL 0, qn, qn, qn, qn, qn, qn, qn, qn, qn, qn, qn] s=.nx [qL 0, qI r, qn, qn, qn, qn, qn, qn, qn, qn, qn, qn] s1:=by refine bw (v:=.int r) ?_;rw[aI (d0 eo),er]
 obtain⟨sec,e2,s20⟩:=jZ (μ:=[some (.int r),none,none,none,none,none,none,none,none,none,none]) (k:=1) i1 (by decide) (by decide);have x2:aB 2 (aj PM.aE (ae aD (ae bA ak))) [qL 0, qI r, qn, qn, qn, qn, qn, qn, qn, qn, qn, qn] s1=.nx [qL 0, qI r, qI sec, qn, qn, qn, qn, qn, qn, qn, qn, qn] s1:=bw e2;obtain⟨thr,e3,t30⟩:=jZ (μ:=[some (.int r),some (.int sec),none,none,none,none,none,none,none,none,none]) (k:=2) i1 (by decide) (by decide);have x3:aB 3 (aj PM.aE (ae aD (ae fP ak))) [qL 0, qI r, qI sec, qn, qn, qn, qn, qn, qn, qn, qn, qn] s1=.nx [qL 0, qI r, qI sec, qI thr, qn, qn, qn, qn, qn, qn, qn, qn] s1:=bw e3;have q4:=gT (m:=4) (by decide) sec;obtain⟨af,Su⟩:∃af:Nat,(af:Int)=1+sec.fmod 4:=⟨(1+sec.fmod 4).toNat,by lia⟩
 obtain⟨μ,hμ⟩:∃μ:MN.Env,μ=[qL 0, qI r, qI sec, qI thr, qN af, qn, qn, qn, qn, qn, qn, qn]:=⟨_,rfl⟩
 have x4:aB 4 (ah aQ bA (ah bf bH kd)) [qL 0, qI r, qI sec, qI thr, qn, qn, qn, qn, qn, qn, qn, qn] s1=.nx μ s1:=by rw[hμ];refine bw (v:=.int (af:Int)) ?_;rw[aH (x:=.int 1) (s1:=s1) rfl (eM (o:=sec) (s1:=s1) rfl (by decide)),Su];rfl
 have h1:1<=af:=by lia
 have hm:af<=4:=by lia
 have rr:=wK hrB;obtain⟨s2,fq⟩:∃s2,s2=s1++[aG.lst [.int r,.int r,.int 0,.int 997]]:=⟨_,rfl⟩
 have i2:aq s2 0=some (ns.map aw.int):=by rw[fq];exact aC i1 _
 obtain⟨k,ek,hk⟩:=mz (p:=sec.fdiv 4) (n:=4) (by decide);obtain⟨ot,Q6,ot0,ot9⟩:∃ot:Int,([aw.int r,.int r,.int 0,.int 997])[k]?=some (.int ot)/\0<=ot/\ot<=997:=by
  have:k=0\/k=1\/k=2\/k=3:=by lia
  rcases this with rfl|rfl|rfl|rfl
  .exact⟨r,rfl,by lia,by lia⟩
  .exact⟨r,rfl,by lia,by lia⟩
  .exact⟨0,rfl,by decide,by decide⟩
  .exact⟨997,rfl,by decide,by decide⟩
 obtain⟨ν,hν⟩:∃ν:MN.Env,ν=[qL 0, qI r, qI sec, qI thr, qN af, qI ot, qn, qn, qn, qn, qn, qn]:=⟨_,rfl⟩
 have x5:aB 5 (ah bY (bq (ae aO (ae aO (ae bX (ae xU ak))))) (ah bf (ah bV bH kd) kd)) μ s1=.nx ν s2:=by
  have a:bq (ae aO (ae aO (ae bX (ae xU ak)))) μ s1=.ok (.loc s1.length) s2:=by rw[fq];exact eO (vs:=[.int r,.int r,.int 0,.int 997]) (hU (v:=.int r) (s1:=s1) (by rw[hμ];rfl) (hU (v:=.int r) (s1:=s1) (by rw[hμ];rfl) (gg (v:=.int 0) (s1:=s1) rfl (w:=.int 997) (s2:=s1) rfl))) (by show 4<=1000;decide)
  have b:ah bf (ah bV bH kd) kd μ s2=.ok (.int (k:Int)) s2:=by rw[<-ek];exact eM (iI (by rw[hμ];rfl) (lG (by decide) (by decide))) (by decide)
  have c:ah bY (bq (ae aO (ae aO (ae bX (ae xU ak))))) (ah bf (ah bV bH kd) kd) μ s1=.ok (.int ot) s2:=by rw[aH a b];exact gX (us:=[.int r,.int r,.int 0,.int 997]) (by rw[fq];exact aN _ _) (L2.ft Q6)
  rw[bw c,hμ,hν];rfl
 have pr:∀(m:ME)(z:Nat)(ξ:MN.Env)(s:ao),aq s 0=some (ns.map aw.int)->aD ξ s=.ok (.loc 0) s->fC ξ s=.ok (.int (af:Int)) s->(∀s',eR ξ s'=.ok (.int ot) s')->m ξ s=.ok (.int (z:Int)) s->z<=12->∃(g:ao)(p:Nat)(D:List bg),aj PM.bB (ae eR (ae (aj PM.dq (ae aD (ae JA (ae fC (ae m ak))))) ak)) ξ s=.ok (.loc p) (s++g)/\(s++g)[p]?=some (.lst (D.map tV))/\(∀u∈D,En u)/\D.length<=30:=fun m z ξ s i v0 v4 v5 vm hz=>by
  obtain⟨g5,L,e5,lL,hL⟩:=jr (af:=af) (size:=z) (place:=6) i (by decide) (by decide) hm (by lia);have w5:aj PM.dq (ae aD (ae JA (ae fC (ae m ak)))) ξ s=.ok (.loc s.length) (s ++ .lst (L.map tV)::g5):=by rw[aI (hU v0 (hU (v:=.int 6) (s1:=s) rfl (gg v4 vm))),e5]
  obtain⟨c1,c2,eg,ag⟩:=Sh (r:=ot) (a:=eR) (L:=L) (v5 s) w5 (dU (oz s _ g5)) (by lia) (fun t ht=>O_ h1 (hL t ht).1.len);obtain⟨sm,sn⟩:=Pr (o:=ot) ot0 ot9 hm (by lia) hL;refine⟨.lst (L.map tV)::g5++[c1,aG.lst ((bI ot (b9 L)).map tV),c2],(s++aG.lst (L.map tV)::g5).length+1,bI ot (b9 L),?_,?_,sm,sn⟩
  .rw[<-Vy];exact eg
  .rw[<-Vy];exact ag
 have q5:=gT (m:=5) (by decide) (sec.fdiv 16);obtain⟨z1,hz1⟩:∃z:Nat,(z:Int)=(sec.fdiv 16).fmod 5:=⟨((sec.fdiv 16).fmod 5).toNat,by lia⟩
 obtain⟨ga,pa,Da,ea,aa,sa,na⟩:=pr (ah bf (ah bV bH (mC (.int 16))) Jz) z1 ν s2 i2 (by rw[hν];rfl) (by rw[hν];rfl) (fun s'=>by rw[hν];rfl) (by rw[hz1];exact eM (iI (by rw[hν];rfl) (lG (by decide) (by decide))) (by decide)) (by lia);obtain⟨s3,iS⟩:∃s3,s3=s2++ga:=⟨_,rfl⟩
 rw[<-iS]at ea aa;have i3:aq s3 0=some (ns.map aw.int):=by rw[iS];exact aC i2 _
 obtain⟨ξ,hξ⟩:∃ξ:MN.Env,ξ=[qL 0, qI r, qI sec, qI thr, qN af, qI ot, qL pa, qn, qn, qn, qn, qn]:=⟨_,rfl⟩
 have x6:aB 6 (aj PM.bB (ae eR (ae (aj PM.dq (ae aD (ae JA (ae fC (ae (ah bf (ah bV bH (mC (.int 16))) Jz) ak))))) ak))) ν s2=.nx ξ s3:=by rw[bw ea,hν,hξ];rfl
 have j3:aT (ah cG (ah bf (ah bV bH Fm) kd) bA) ξ s3=.ok ((sec.fdiv 80).fmod 4==1) s3:=bu (iJ (eM (iI (by rw[hξ];rfl) (lG (by decide) (by decide))) (by decide)));have fin:∃aF,nr ξ s3=.rt (.bl true) aF:=by
  cases hb:(sec.fdiv 80).fmod 4==1 with
  |false=>
   rw[hb]at j3;obtain⟨aF,e⟩:=Ma (sec:=sec) (thr:=thr) (x5:=some (.int ot)) hrB h1 hm i3 aa sa na;refine⟨aF,?_⟩;unfold nr;rw[av,cI j3,ax,hξ,e]
  |true=>
   rw[hb]at j3;have q9:=gT (m:=9) (by decide) (sec.fdiv 320);obtain⟨z2,Td⟩:∃z:Nat,(z:Int)=4+(sec.fdiv 320).fmod 9:=⟨(4+(sec.fdiv 320).fmod 9).toNat,by lia⟩
   have ad:ah aQ kd (ah bf (ah bV bH (mC (.int 320))) (mC (.int 9))) ξ s3=.ok (.int (z2:Int)) s3:=by rw[aH (x:=.int 4) (s1:=s3) rfl (eM (iI (o:=sec) (s1:=s3) (by rw[hξ];rfl) (lG (by decide) (by decide))) (by decide)),Td];rfl
   obtain⟨gb,pb,Db,eb,ab,sb,nb⟩:=pr (ah aQ kd (ah bf (ah bV bH (mC (.int 320))) (mC (.int 9)))) z2 ξ s3 i3 (by rw[hξ];rfl) (by rw[hξ];rfl) (fun s'=>by rw[hξ];rfl) ad (by lia);have x7:=bw (i:=6) eb;obtain⟨aF,e⟩:=Ma (sec:=sec) (thr:=thr) (x5:=some (.int ot)) hrB h1 hm (aC i3 gb) ab sb nb;refine⟨aF,?_⟩;unfold nr;rw[av,b6 j3,x7,ax,hξ];exact e
 obtain⟨aF,e⟩:=fin;refine⟨aF,?_⟩;unfold GY;rw[aY (np:=1) (us:=[aw.loc 0]) rfl];show(ay _ sv [qL 0, qn, qn, qn, qn, qn, qn, qn, qn, qn, qn, qn] s).fin=_;rw[av,x1,ax];unfold sv;rw[av,x2,ax];unfold yx;rw[av,x3,ax];unfold yw;rw[av,x4,ax];unfold yu;rw[av,x5,ax];unfold yt;rw[av,x6,ax,e];rfl
end GX
namespace GX
open PySem.Spec L2 MN
open PyProof.Rows hiding St
def top(i:Nat):Stmt:=PySem.Challenge.pw_polyring_k11_read.main.body.getD i (.Pass ⟨0,0,0,0⟩)
structure Txt(P:_v)(w:World)(K:_l)(mg:_j)(base:Heap):Prop where
 gl:MgK K mg
 b:Kr mg ["ValueError","abs","all","bool","enumerate","int","isinstance","len","list","min","range","sorted","str","tuple","zip"]
 c:Ks K mg ["AlgebraError","NoRing","NoUnknowns","NoTerm","NotWritten"]
 y9:Glob K mg "MOST_RING" (.int 997)
 tU:Glob K mg "FIRST_PRIMES" PM.gr
 p7:Glob K mg "MOST_UNKNOWNS" (.int 4)
 kL:Glob K mg "MOST_MADE_EXPONENT" (.int 99)
 D6:Glob K mg "LETTERS" PM.f_
 Ll:Glob K mg "SIGNS" PM.sk
 D7:Glob K mg "FIGURES" (.str "0123456789")
 jD:Glob K mg "MOST_EXPONENT_FIGURES" (.int 2)
 sub:fU K mg tab
 qx:we K mg GX.kn
theorem Lm(hN:X.N.Nodup)(he:PE X e (tE X E m))(hi:X.N[i]?=some x:=by rfl)(hx:Loc X.env.scope x:=by first|exact Or.inl rfl|exact Or.inr rfl)(hs:swapsWith e (some (.Name x pos')) pos.line X.env=pure false:=by rfl)(hf:X.fn x=true\/X.env.scope.names.lookup x=some .local:=by first|exact .inl rfl|exact .inr rfl|assumption):PS X (.Assign [.Name x pos'] e pos) (tS X E (aB i m)):=N0 i hN he hi hx hs hf
section
variable{P:_v}{w:World}{K:_l}{mg:_j}{base:Heap}(T:Txt P w K mg base)
theorem H!:iW ["_law_script","_law_ring_here","_law_second","_law_third","_law_many","_law_other","_law_row","_law_line","_law_some","_law_count","_law_due_here","_law_found"] ["_law_script"] (bW (top 63)):=dH
seal L2.PE L2.PT L2.PA L2.PS L2.j' L2.PG L2.zO L2.PI L2.xq L2.u3 L2.C2 L2.PH
set_option hygiene false
local macro_rules|`(tactic|trivial)=>`(tactic|repeat' first|((with_reducible show PA _ (_::_) _);refine qu ?_ ?_)|with_reducible exact Fo|((with_reducible show PE _ (.Name ..) _);first|exact vZ _|exact iY (by rfl) T.y9|exact iY (by rfl) T.tU|exact iY (by rfl) T.p7|exact iY (by rfl) T.kL|exact iY (by rfl) T.D6|exact iY (by rfl) T.Ll|exact iY (by rfl) T.D7|exact iY (by rfl) T.jD)|((with_reducible show PE _ (.Constant ..) _);first|exact NI|exact Rg|exact NJ|exact NK)|((with_reducible show PE _ _ (tG _ _ _ (aj oj _)));refine mX (C8 hr.hd) (by rfl) (iT T.b (by decide +kernel)) PyProof.Rows.boot_all ?_)|((with_reducible show PE _ _ (tG _ _ _ (aj bG _)));refine mX C5 (by rfl) (iT T.b (by decide +kernel)) boot_len ?_)|((with_reducible show PE _ _ (tG _ _ _ (aj l6 _)));refine oh C7 (by rfl) (iT T.b (by decide +kernel)) Zf ?_)|((with_reducible show PE _ _ (tG _ _ _ (aj iG _)));refine oh DA (by rfl) (iT T.b (by decide +kernel)) PyProof.Rows.boot_str ?_)|((with_reducible show PE _ _ (tG _ _ _ (aj ji _)));refine mX C6 (by rfl) (iT T.b (by decide +kernel)) PyProof.Rows.boot_abs ?_)|((with_reducible show PE _ _ (tG _ _ _ (aj p4 _)));refine oh DE (by rfl) (iT T.b (by decide +kernel)) PyProof.Rows.Boot.«int» ?_)|((with_reducible show PE _ _ (tG _ _ _ (aj uC _)));refine mX (AA hr.hd) (by rfl) (iT T.b (by decide +kernel)) PyProof.Rows.Boot.«min» ?_)|((with_reducible show PE _ _ (tG _ _ _ (aj _ _)));refine LQ (by assumption) hr (by decide) (by rfl) (by first|exact E_|exact Rr|exact L3 bs_) ?_)|((with_reducible show PE _ _ (tG _ _ _ (ah bY _ _)));refine Oe ?_ ?_)|((with_reducible show PE _ _ (tG _ _ _ (ah i? _ _)));refine JX hr.units ?_ ?_)|((with_reducible show PE _ _ (tG _ _ _ (mW _ _)));refine NO ?_ ?_)|((with_reducible show PE _ _ (tG _ _ _ (S7 _ _)));refine Rh ?_ ?_)|((with_reducible show PE _ _ (tG _ _ _ (xR _ _ _)));refine Rj ?_ ?_ ?_)|((with_reducible show PE _ _ (tG _ _ _ (fO _)));refine NW ?_)|((with_reducible show PE _ _ (tG _ _ _ (bq _)));refine NX ?_)|((with_reducible show PE _ _ (tG _ _ _ (zJ _ _ _)));refine Rx ?_ ?_ ?_)|((with_reducible show PE _ _ (tG _ _ _ (il _ _)));refine Ds ?_ ?_)|((with_reducible show PE _ _ (tG _ _ _ (ku)));refine F!)|((with_reducible show PE _ _ (tG _ _ _ (jb _ _)));refine Dx ?_ ?_)|((with_reducible show PE _ _ (tG _ _ _ (eI _ _)));refine Dy ?_ ?_)|((with_reducible show PE _ _ (tG _ _ _ (fX _ _)));refine GI ?_ ?_)|((with_reducible show PE _ _ (tG _ _ _ (cJ _ _ _)));refine OS ?_ ?_ ?_)|((with_reducible show PE _ _ (tG _ _ _ (fY _ _ _)));refine Av ?_ ?_ ?_)|((with_reducible show PE _ _ (tG _ _ _ (Au _ _ _)));refine OU ?_ ?_)|((with_reducible show PE _ _ (tG _ _ _ (ah El _ _)));refine LM R5 ?_ ?_)|((with_reducible show PE _ _ (tG _ _ _ (sq _ _)));refine Kz ?_ ?_)|((with_reducible show PE _ (.BinOp ..) _);first|refine OP ?_ ?_|refine OO ?_ ?_|refine OL ?_ ?_|refine OM ?_ ?_|refine ON ?_ ?_|refine OQ ?_ ?_)|((with_reducible show PE _ (.Compare ..) _);first|refine R0 hr.units ?_ ?_|refine R3 hr.units ?_ ?_|refine iB Fw ?_ ?_|refine iB Fy ?_ ?_|refine iB FA ?_ ?_|refine iB FH ?_ ?_|refine iB u6 ?_ ?_|refine iB FJ ?_ ?_|refine iB GJ ?_ ?_|refine iB vj ?_ ?_|refine iB (GW hr.units) ?_ ?_)|((with_reducible show PE _ (.UnaryOp ..) _);first|refine N1 ?_|refine NP ?_)|((with_reducible show PE _ (.Call (.Attribute ..) ..) _);first|refine Di ?_ ?_|refine F? hr.units ?_ ?_ ?_)|((with_reducible show PE _ _ (tG _ _ _ (uk _ _)));first|refine v9 FO (by rfl) (iT T.b (by decide +kernel)) (by rfl) (iT T.b (by decide +kernel)) PyProof.Rows.boot_int ?_|refine v9 C9 (by rfl) (iT T.b (by decide +kernel)) (by rfl) (iT T.b (by decide +kernel)) PyProof.Rows.boot_bool ?_|refine v9 Ab (by rfl) (iT T.b (by decide +kernel)) (by rfl) (iT T.b (by decide +kernel)) Zf ?_|refine v9 C_ (by rfl) (iT T.b (by decide +kernel)) (by rfl) (iT T.b (by decide +kernel)) PyProof.Rows.boot_list ?_)|((with_reducible show PE _ _ (tG _ _ _ (rL _ _ _)));exact JW _ T.sub (iT T.b (by decide +kernel)) lK (by rfl) (iT T.b (by decide +kernel)) (by rfl))|((with_reducible show j' _ [_] _);refine Fp ?_)|((with_reducible show j' _ (_::_) _);refine BA ?_ ?_)|with_reducible exact NY|((with_reducible show PS _ (.Assign [.Name ..] ..) _);refine Lm (by assumption) ?_)|((with_reducible show PS _ (.Assign [.Subscript ..] ..) _);first|refine JZ hr.units ?_ ?_ ?_|refine J2 ?_ ?_ ?_)|((with_reducible show PS _ (.Return ..) _);refine NZ ?_)|((with_reducible show PS _ (.If ..) _);refine Rk ?_ ?_ ?_)|((with_reducible show PS _ (.Expr ..) _);refine JD ?_)|((with_reducible show PS _ (.While ..) _);refine FV xY ?_ ?_)|((with_reducible show PS _ (.For ..) _);refine N8 xY rfl ?_ ?_ ?_)|((with_reducible show PS _ (.Raise ..) _);refine De Ae rfl (Ss T.c (by decide +kernel)) (by rfl) ?_)|((with_reducible show PI _ _ _ (tG _ _ _ (d6 _)));refine N6 ?_)|((with_reducible show PI _ _ _ (tG _ _ _ (jz _)));refine Kv ?_)|((with_reducible show PI _ _ (.Call ..) _);first|refine C! (by rfl) (iT T.b (by decide +kernel)) ?_|refine C? (by rfl) (iT T.b (by decide +kernel)) ?_|refine N7 _ _ (by rfl) (iT T.b (by decide +kernel)) ?_|refine GO (by rfl) (iT T.b (by decide +kernel)) ?_)|((with_reducible show PG _ (.Name ..) _);exact JM _ (by assumption))|((with_reducible show PG _ (.Tuple ..) _);refine N3 rfl ?_)|((with_reducible show zO _ (_::_) _);refine FQ ?_ ?_)|with_reducible exact JN|((with_reducible show xq _ [] _);first|exact JP|exact GV)|((with_reducible show xq _ [_] _);refine JQ ?_)|((with_reducible show PT _ (.Compare ..) _);first|refine RY hr.units ?_ ?_|refine RZ hr.units ?_ ?_|refine RW ?_ ?_|refine RX ?_ ?_|refine iC FA ?_ ?_|refine iC FH ?_ ?_|refine iC u6 ?_ ?_|refine iC FJ ?_ ?_|refine iC GJ ?_ ?_|refine iC vj ?_ ?_|refine iC (GW hr.units) ?_ ?_)|((with_reducible show PT _ (.UnaryOp ..) _);refine NT ?_)|((with_reducible show PT _ (.BoolOp ..) _);refine UU ?_)|((with_reducible show PT _ _ (tG _ _ _ (aT _)));refine NL ?_)|refine J1 ?_|exact J0|refine Ri ?_ ?_|refine NQ ?_|refine NR ?_ ?_|refine Jy ?_|refine NN ?_|((with_reducible show j' _ _ _);first|refine Fp ?_|refine BA ?_ ?_))
include T
theorem y_(F:dG K "is_whole" (top 9)):FnAt P w K mg base "is_whole" 1 PM.gO:=
 FnAt.iU F T.gl (dH (N:=["thing"]) (P:=["thing"])) (fun _ _ _ _ s _ _ nd hr=>by
 trivial)
variable(mB:FnAt P w K mg base "is_whole" 1 PM.gO)
theorem mD(F:dG K "is_prime_within" (top 10)):FnAt P w K mg base "is_prime_within" 1 PM.cP:=
 FnAt.iU F T.gl (dH (N:=["number"]) (P:=["number"])) (fun _ _ _ _ s _ _ nd hr=>by
 have:(["prime","number"]:_q).Nodup:=by decide +kernel
 trivial
 .refine jM (N:=["prime","number"]) (k:=1) rfl rfl (lR (cl:=[("number",s.heap.objs.size+1)])) ?_ (fun _ _ _ _=>?_) (fun _ _ _ _=>?_) (fun _ _ _ _=>?_)<;>trivial)
variable(nJ:FnAt P w K mg base "is_prime_within" 1 PM.cP)
theorem p8(F:dG K "rest_in_ring" (top 13)):FnAt P w K mg base "rest_in_ring" 1 PM.cj:=
 FnAt.iU F T.gl (dH (N:=["ring","number"]) (P:=["ring","number"])) (fun _ _ _ _ s _ _ nd hr=>by
 trivial)
variable(tW:FnAt P w K mg base "rest_in_ring" 1 PM.cj)
theorem D8(F:dG K "add_to" (top 22)):FnAt P w K mg base "add_to" 1 PM.kB:=
 FnAt.iU F T.gl (dH (N:=["totals","exponents","number"]) (P:=["totals","exponents","number"])) (fun _ _ _ _ s _ _ nd hr=>by
 trivial)
variable(H?:FnAt P w K mg base "add_to" 1 PM.kB)
theorem wZ(F:dG K "sign_text" (top 32)):FnAt P w K mg base "sign_text" 1 PM.fc:=
 FnAt.iU F T.gl (dH (N:=["is_first","number"]) (P:=["is_first","number"])) (fun _ _ _ _ s _ _ nd hr=>by
 trivial)
variable(y!:FnAt P w K mg base "sign_text" 1 PM.fc)
theorem uI(F:dG K "power_text" (top 34)):FnAt P w K mg base "power_text" 1 PM.f':=
 FnAt.iU F T.gl (dH (N:=["letter","exponent"]) (P:=["letter","exponent"])) (fun _ _ _ _ s _ _ nd hr=>by
 trivial)
variable(w4:FnAt P w K mg base "power_text" 1 PM.f')
theorem tX(F:dG K "are_figures" (top 38)):FnAt P w K mg base "are_figures" 1 PM.dY:=
 FnAt.iU F T.gl (dH (N:=["text"]) (P:=["text"])) (fun _ _ _ _ s _ _ nd hr=>by
 have:(["sign"]:_q).Nodup:=by decide +kernel
 trivial
 .refine jM (N:=["sign"]) (k:=1) rfl rfl (lR (cl:=[])) ?_ (fun _ _ _ _=>?_) (fun _ _ _ _=>?_) (fun _ _ _ _=>?_)<;>trivial)
variable(lT:FnAt P w K mg base "are_figures" 1 PM.dY)
theorem mE(F:dG K "place_of_letter" (top 39)):FnAt P w K mg base "place_of_letter" 1 PM.dh:=
 FnAt.iU F T.gl (dH (N:=["many","letter","place"]) (P:=["many","letter"])) (fun _ _ _ _ s _ _ nd hr=>by
 trivial)
variable(nK:FnAt P w K mg base "place_of_letter" 1 PM.dh)
theorem uJ(F:dG K "_law_whole" (top 42)):FnAt P w K mg base "_law_whole" 1 PM.gm:=
 FnAt.iU F T.gl (dH (N:=["_law_found"]) (P:=["_law_found"])) (fun _ _ _ _ s _ _ nd hr=>by
 trivial)
variable(w6:FnAt P w K mg base "_law_whole" 1 PM.gm)
theorem p9(F:dG K "_law_cell_at" (top 43)):FnAt P w K mg base "_law_cell_at" 1 PM.aE:=
 FnAt.iU F T.gl (dH (N:=["_law_script","_law_k","_law_cell","_law_one","_law_found","_law_turn"]) (P:=["_law_script","_law_k"])) (fun _ _ _ _ s _ _ nd hr=>by
 trivial)
variable(kM:FnAt P w K mg base "_law_cell_at" 1 PM.aE)
theorem uK(F:dG K "_law_prime" (top 44)):FnAt P w K mg base "_law_prime" 1 PM.iy:=
 FnAt.iU F T.gl (dH (N:=["_law_cell","_law_number_here"]) (P:=["_law_cell"])) (fun _ _ _ _ s _ _ nd hr=>by
 have:(["_law_by","_law_number_here"]:_q).Nodup:=by decide +kernel
 trivial
 .refine jM (N:=["_law_by","_law_number_here"]) (k:=1) rfl rfl (lR (cl:=[("_law_number_here",s.heap.objs.size+1)])) ?_ (fun _ _ _ _=>?_) (fun _ _ _ _=>?_) (fun _ _ _ _=>?_)<;>trivial)
variable(w9:FnAt P w K mg base "_law_prime" 1 PM.iy)
theorem p_(F:dG K "_law_settled" (top 46)):FnAt P w K mg base "_law_settled" 1 PM.eT:=
 FnAt.iU F T.gl (dH (N:=["_law_ring_here","_law_number_here"]) (P:=["_law_ring_here","_law_number_here"])) (fun _ _ _ _ s _ _ nd hr=>by
 trivial)
variable(tY:FnAt P w K mg base "_law_settled" 1 PM.eT)
theorem tZ(F:dG K "_law_number" (top 49)):FnAt P w K mg base "_law_number" 1 PM.cK:=
 FnAt.iU F T.gl (dH (N:=["_law_cell"]) (P:=["_law_cell"])) (fun _ _ _ _ s _ _ nd hr=>by
 trivial)
variable(uL:FnAt P w K mg base "_law_number" 1 PM.cK)
theorem nL(F:dG K "_law_exponents" (top 50)):FnAt P w K mg base "_law_exponents" 1 PM.d9:=
 FnAt.iU F T.gl (dH (N:=["_law_cell","_law_many","_law_found","_law_rest","_law_wide","_law_k","_law_exponent"]) (P:=["_law_cell","_law_many"])) (fun _ _ _ _ s _ _ nd hr=>by
 trivial)
variable(oU:FnAt P w K mg base "_law_exponents" 1 PM.d9)
theorem w_(F:dG K "_law_word" (top 52)):FnAt P w K mg base "_law_word" 1 PM.eJ:=
 FnAt.iU F T.gl (dH (N:=["_law_term_here","_law_words","_law_k"]) (P:=["_law_term_here"])) (fun _ _ _ _ s _ _ nd hr=>by
 trivial)
variable(y?:FnAt P w K mg base "_law_word" 1 PM.eJ)
theorem p!(F:dG K "_law_figures" (top 54)):FnAt P w K mg base "_law_figures" 1 PM.cm:=
 FnAt.iU F T.gl (dH (N:=["_law_word_here","_law_most","_law_sign_here"]) (P:=["_law_word_here","_law_most"])) (fun _ _ _ _ s _ _ nd hr=>by
 trivial)
variable(t7:FnAt P w K mg base "_law_figures" 1 PM.cm)
theorem za(F:dG K "_law_odd" (top 57)):FnAt P w K mg base "_law_odd" 1 PM.gf:=
 FnAt.iU F T.gl (dH (N:=["_law_cell","_law_some"]) (P:=["_law_cell"])) (fun _ _ _ _ s _ _ nd hr=>by
 trivial)
variable(A9:FnAt P w K mg base "_law_odd" 1 PM.gf)
theorem w!(F:dG K "_law_sign" (top 58)):FnAt P w K mg base "_law_sign" 1 PM.fG:=
 FnAt.iU F T.gl (dH (N:=["_law_cell","_law_some"]) (P:=["_law_cell"])) (fun _ _ _ _ s _ _ nd hr=>by
 trivial)
variable(zd:FnAt P w K mg base "_law_sign" 1 PM.fG)
include mB nJ in
theorem A_(F:dG K "is_ring" (top 11)):FnAt P w K mg base "is_ring" 2 PM.kY:=
 FnAt.iU F T.gl (dH (N:=["thing"]) (P:=["thing"])) (fun _ _ _ _ s _ _ nd hr=>by
 trivial)
variable(D9:FnAt P w K mg base "is_ring" 2 PM.kY)
include mB in
theorem mF(F:dG K "is_whole_within" (top 17)):FnAt P w K mg base "is_whole_within" 2 PM.aU:=
 FnAt.iU F T.gl (dH (N:=["thing","lowest","highest"]) (P:=["thing","lowest","highest"])) (fun _ _ _ _ s _ _ nd hr=>by
 trivial
 .refine Fi Ft Fx Fx ?_ ?_ ?_<;>trivial)
variable(jf:FnAt P w K mg base "is_whole_within" 2 PM.aU)
include tW in
theorem oW(F:dG K "settled_terms" (top 23)):FnAt P w K mg base "settled_terms" 2 PM.e?:=
 FnAt.iU F T.gl (dH (N:=["ring","pairs","terms"]) (P:=["ring","pairs"])) (fun _ _ _ _ s _ _ nd hr=>by
 have:(["exponents","number","ring"]:_q).Nodup:=by decide +kernel
 have:(["term"]:_q).Nodup:=by decide +kernel
 trivial
 .refine MN.rG 2 (N:=["exponents","number","ring"]) (k:=2) nd rfl rfl (lR (cl:=[("ring",s.heap.objs.size+1)])) ?_ (fun _ _ _ _=>?_) (fun _ _ _ _=>?_) (fun _ _ _ _=>?_)<;>trivial
 .refine jM (N:=["term"]) (k:=1) rfl rfl (lR (cl:=[])) ?_ (fun _ _ _ _=>?_) (fun _ _ _ _=>?_) (fun _ _ _ _=>?_)<;>trivial)
variable(p?:FnAt P w K mg base "settled_terms" 2 PM.e?)
include w4 in
theorem w?(F:dG K "term_text" (top 33)):FnAt P w K mg base "term_text" 2 PM.gn:=
 FnAt.iU F T.gl (dH (N:=["exponents","size","powers"]) (P:=["exponents","size"])) (fun _ _ _ _ s _ _ nd hr=>by
 have:(["place","exponent"]:_q).Nodup:=by decide +kernel
 trivial
 .refine MN.rG 2 (N:=["place","exponent"]) (k:=2) nd rfl rfl (lR (cl:=[])) ?_ (fun _ _ _ _=>?_) (fun _ _ _ _=>?_) (fun _ _ _ _=>?_)<;>trivial)
variable(zf:FnAt P w K mg base "term_text" 2 PM.gn)
include lT in
theorem lH(F:dG K "exponent_written" (top 40)):FnAt P w K mg base "exponent_written" 2 PM.bo:=
 FnAt.iU F T.gl (dH (N:=["text","figures"]) (P:=["text"])) (fun _ _ _ _ s _ _ nd hr=>by
 trivial)
variable(mG:FnAt P w K mg base "exponent_written" 2 PM.bo)
include w9 in
theorem xa(F:dG K "_law_ring" (top 45)):FnAt P w K mg base "_law_ring" 2 PM.iE:=
 FnAt.iU F T.gl (dH (N:=["_law_cell"]) (P:=["_law_cell"])) (fun _ _ _ _ s _ _ nd hr=>by
 trivial)
variable(zg:FnAt P w K mg base "_law_ring" 2 PM.iE)
include tY in
theorem oX(F:dG K "_law_gathered" (top 47)):FnAt P w K mg base "_law_gathered" 2 PM.bB:=
 FnAt.iU F T.gl (dH (N:=["_law_ring_here","_law_pairs_here","_law_found","_law_pair","_law_rows","_law_exponents_here"]) (P:=["_law_ring_here","_law_pairs_here"])) (fun _ _ _ _ s _ _ nd hr=>by
 trivial
 .refine yn (by rfl) (by rfl) T.b.2.2.2.2.2.2.2.2.2.2.2.1 PyProof.Rows.Boot.«sorted» ?_<;>trivial)
variable(j6:FnAt P w K mg base "_law_gathered" 2 PM.bB)
include w6 in
theorem xb(F:dG K "_law_same" (top 48)):FnAt P w K mg base "_law_same" 2 PM.gS:=
 FnAt.iU F T.gl (dH (N:=["_law_found","_law_due_here","_law_k"]) (P:=["_law_found","_law_due_here"])) (fun _ _ _ _ s _ _ nd hr=>by
 have:(["_law_one"]:_q).Nodup:=by decide +kernel
 trivial
 .refine jM (N:=["_law_one"]) (k:=1) rfl rfl (lR (cl:=[])) ?_ (fun _ _ _ _=>?_) (fun _ _ _ _=>?_) (fun _ _ _ _=>?_)<;>trivial)
variable(zh:FnAt P w K mg base "_law_same" 2 PM.gS)
include kM uL oU in
theorem uM(F:dG K "_law_pairs" (top 51)):FnAt P w K mg base "_law_pairs" 2 PM.dq:=
 FnAt.iU F T.gl (dH (N:=["_law_script","_law_place","_law_many","_law_size","_law_pairs_here","_law_k","_law_exponents_here"]) (P:=["_law_script","_law_place","_law_many","_law_size"])) (fun _ _ _ _ s _ _ nd hr=>by
 trivial) (fun _ _ _ _ _ _=>UZ fun _ _ _ _=>rfl)
variable(xf:FnAt P w K mg base "_law_pairs" 2 PM.dq)
include y? in
theorem qa(F:dG K "_law_written" (top 53)):FnAt P w K mg base "_law_written" 2 PM.b!:=
 FnAt.iU F T.gl (dH (N:=["_law_row","_law_found","_law_term_here","_law_sign_here"]) (P:=["_law_row"])) (fun _ _ _ _ s _ _ nd hr=>by
 trivial)
variable(iP:FnAt P w K mg base "_law_written" 2 PM.b!)
include t7 in
theorem xg(F:dG K "_law_term" (top 55)):FnAt P w K mg base "_law_term" 2 PM.dZ:=
 FnAt.iU F T.gl (dH (N:=["_law_many","_law_text","_law_sign_here","_law_exponents_here","_law_number_here","_law_word_here","_law_at"]) (P:=["_law_many","_law_text","_law_sign_here"])) (fun _ _ _ _ s _ _ nd hr=>by
 trivial)
variable(zi:FnAt P w K mg base "_law_term" 2 PM.dZ)
include zd in
theorem t8(F:dG K "_law_turned" (top 60)):FnAt P w K mg base "_law_turned" 2 PM.fH:=
 FnAt.iU F T.gl (dH (N:=["_law_line","_law_cell","_law_spot","_law_place"]) (P:=["_law_line","_law_cell","_law_spot"])) (fun _ _ _ _ s _ _ nd hr=>by
 trivial)
variable(uN:FnAt P w K mg base "_law_turned" 2 PM.fH)
include D9 in
theorem uO(F:dG K "check_ring" (top 12)):FnAt P w K mg base "check_ring" 3 PM.dc:=
 FnAt.iU F T.gl (dH (N:=["ring"]) (P:=["ring"])) (fun _ _ _ _ s _ _ nd hr=>by
 trivial)
variable(nM:FnAt P w K mg base "check_ring" 3 PM.dc)
include jf in
theorem nN(F:dG K "check_unknowns" (top 18)):FnAt P w K mg base "check_unknowns" 3 PM.bJ:=
 FnAt.iU F T.gl (dH (N:=["many"]) (P:=["many"])) (fun _ _ _ _ s _ _ nd hr=>by
 trivial)
variable(jE:FnAt P w K mg base "check_unknowns" 3 PM.bJ)
include jf in
theorem oY(F:dG K "are_exponents" (top 19)):FnAt P w K mg base "are_exponents" 3 PM.dr:=
 FnAt.iU F T.gl (dH (N:=["thing","many"]) (P:=["thing","many"])) (fun _ _ _ _ s _ _ nd hr=>by
 have:(["exponent"]:_q).Nodup:=by decide +kernel
 trivial
 .refine jM (N:=["exponent"]) (k:=1) rfl rfl (lR (cl:=[])) ?_ (fun _ _ _ _=>?_) (fun _ _ _ _=>?_) (fun _ _ _ _=>?_)<;>trivial)
variable(qb:FnAt P w K mg base "are_exponents" 3 PM.dr)
include p? in
theorem oZ(F:dG K "sum_of_totals" (top 24)):FnAt P w K mg base "sum_of_totals" 3 PM.dw:=
 FnAt.iU F T.gl (dH (N:=["ring","totals"]) (P:=["ring","totals"])) (fun _ _ _ _ s _ _ nd hr=>by
 have:(["exponents","totals"]:_q).Nodup:=by decide +kernel
 trivial
 .refine jM (N:=["exponents","totals"]) (k:=1) rfl rfl (lR (cl:=[("totals",s.heap.objs.size+1)])) ?_ (fun _ _ _ _=>?_) (fun _ _ _ _=>?_) (fun _ _ _ _=>?_)
  .trivial
   .refine yn (by rfl) (by rfl) T.b.2.2.2.2.2.2.2.2.2.2.2.1 PyProof.Rows.Boot.«sorted» ?_<;>trivial
  .trivial
  .trivial
  .trivial)
variable(qc:FnAt P w K mg base "sum_of_totals" 3 PM.dw)
include y! zf in
theorem Ia(F:dG K "shown" (top 31)):FnAt P w K mg base "shown" 3 PM.shown:=
 FnAt.iU F T.gl (dH (N:=["row","pieces","exponents","number"]) (P:=["row"])) (fun _ _ _ _ s _ _ nd hr=>by
 trivial)
variable(Ln:FnAt P w K mg base "shown" 3 PM.shown)
include lT nK mG in
theorem qd(F:dG K "pair_written" (top 37)):FnAt P w K mg base "pair_written" 3 PM.dj:=
 FnAt.iU F T.gl (dH (N:=["many","sign","word","number","exponents","factor"]) (P:=["many","sign","word"])) (fun _ _ _ _ s _ _ nd hr=>by
 trivial)
variable(kN:FnAt P w K mg base "pair_written" 3 PM.dj)
include j6 iP zi in
theorem zj(F:dG K "_law_due" (top 56)):FnAt P w K mg base "_law_due" 3 PM.dF:=
 FnAt.iU F T.gl (dH (N:=["_law_ring_here","_law_many","_law_line","_law_row","_law_sign_here","_law_words","_law_k","_law_found"]) (P:=["_law_ring_here","_law_many","_law_line"])) (fun _ _ _ _ s _ _ nd hr=>by
 trivial)
variable(A!:FnAt P w K mg base "_law_due" 3 PM.dF)
include iP in
theorem qe(F:dG K "_law_swapped" (top 59)):FnAt P w K mg base "_law_swapped" 3 PM.fI:=
 FnAt.iU F T.gl (dH (N:=["_law_row","_law_spot","_law_at"]) (P:=["_law_row","_law_spot"])) (fun _ _ _ _ s _ _ nd hr=>by
 trivial)
variable(t9:FnAt P w K mg base "_law_swapped" 3 PM.fI)
include mB qb in
theorem A?(F:dG K "is_pair" (top 20)):FnAt P w K mg base "is_pair" 4 PM.ja:=
 FnAt.iU F T.gl (dH (N:=["thing","many"]) (P:=["thing","many"])) (fun _ _ _ _ s _ _ nd hr=>by
 trivial)
variable(D_:FnAt P w K mg base "is_pair" 4 PM.ja)
include kN in
theorem o_(F:dG K "pairs_written" (top 36)):FnAt P w K mg base "pairs_written" 4 PM.c5:=
 FnAt.iU F T.gl (dH (N:=["many","text","first_sign","words","signs"]) (P:=["many","text"])) (fun _ _ _ _ s _ _ nd hr=>by
 have:(["sign","word","many"]:_q).Nodup:=by decide +kernel
 trivial
 .refine GU (N:=["sign","word","many"]) (k:=2) rfl rfl (lR (cl:=[("many",s.heap.objs.size+1)])) ?_ (fun _ _ _ _=>?_) (fun _ _ _ _=>?_) (fun _ _ _ _ bs_=>(LQ kN hr (by decide) (by rfl) (L3 bs_) (qu (vZ 2) (qu (vZ 0) (qu (vZ 1) Fo)))))<;>trivial)
variable(qf:FnAt P w K mg base "pairs_written" 4 PM.c5)
include D_ in
theorem t_(F:dG K "check_pairs" (top 21)):FnAt P w K mg base "check_pairs" 5 PM.dX:=
 FnAt.iU F T.gl (dH (N:=["many","pairs","thing"]) (P:=["many","pairs"])) (fun _ _ _ _ s _ _ nd hr=>by
 trivial)
variable(uP:FnAt P w K mg base "check_pairs" 5 PM.dX)
include H? nM jE qc uP in
theorem Lo(F:dG K "made" (top 25)):FnAt P w K mg base "made" 6 PM.made:=
 FnAt.iU F T.gl (dH (N:=["ring","many","pairs","totals","exponents","number"]) (P:=["ring","many","pairs"])) (fun _ _ _ _ s _ _ nd hr=>by
 trivial)
variable(Pt:FnAt P w K mg base "made" 6 PM.made)
include nM jE Ln qf Pt in
theorem Lp(F:dG K "read" (top 35)):FnAt P w K mg base "read" 7 PM.bZ:=
 FnAt.iU F T.gl (dH (N:=["ring","many","text","row"]) (P:=["ring","many","text"])) (fun _ _ _ _ s _ _ nd hr=>by
 trivial)
variable(xh:FnAt P w K mg base "read" 7 PM.bZ)
include xh in
theorem xi(F:dG K "_law_told" (top 61)):FnAt P w K mg base "_law_told" 8 b5:=
 FnAt.iU F T.gl (dH (N:=["_law_ring_here","_law_many","_law_line"]) (P:=["_law_ring_here","_law_many","_law_line"])) (fun _ _ _ _ s _ _ nd hr=>by
 trivial
 .refine F6 T.qx.known ⟨fun _=>rfl,rfl,rfl⟩ ?_ ?_
  .refine BK ?_
   .refine JU ?_
    .refine JT ?_
     .refine xX ?_ ?_
      .refine FX fun _=>?_<;>trivial
      .refine xX ?_ ?_
       .refine F7 xh hr (by decide) (by rfl) (fun _=>rfl) (fun _=>?_)<;>trivial
       .exact JS
  .refine xZ T.sub T.c.2.2.1 (by rfl) (fun _ _=>?_) ?_
   .trivial
   .refine xZ T.sub T.c.2.2.2.2.1 (by rfl) (fun _ _=>?_) ?_
    .trivial
    .exact F4)
variable(zo:FnAt P w K mg base "_law_told" 8 b5)
include xh in
theorem qg(F:dG K "_law_refused" (top 62)):FnAt P w K mg base "_law_refused" 8 dy:=
 FnAt.iU F T.gl (dH (N:=["_law_ring_here","_law_many","_law_line","e"]) (P:=["_law_ring_here","_law_many","_law_line"])) (fun _ _ _ _ s _ _ nd hr=>by
 trivial
 .refine F6 T.qx.known ⟨fun _=>rfl,rfl,rfl⟩ ?_ ?_
  .refine BK ?_
   .refine F0 ?_
    .refine F7 xh hr (by decide) (by rfl) (fun _=>rfl) (fun _=>?_)<;>trivial
  .refine Od (i:=3) T.sub nd T.c.1 (by rfl) (fun _ _=>?_) ?_
   .trivial
   .exact F4)
variable(t!:FnAt P w K mg base "_law_refused" 8 dy)
include kM A9 zg j6 zh xf iP uN A! t9 zo t! in
theorem Pu{fd:FuncData}(F:Jf K "law" "law" (top 63) f fd):kg P w K mg base (lI P w) 9 f fd ["_law_script"] (NV ⟨K,mg,[]⟩ GY):=
 Fs F H! fun iw A outer s H E hr=>by
 have:=H!.nd;trivial
end
theorem all_mk{l:W.OpenLaw}(X:K.In h)(G:h.Ns mainGlobals mg)(hfa:mg "law" = some (.ref fa)){f45:_t}{aae Sv:Option _t}{aaf:Array (_o)}{aag Sw Sx Sy Pw SA:_r}{xj:Tok}{j7:_t}{qh:Option _t}{qi:Nat}{qj:Array (_o)}{o! o? pe ph pj pk pq px pz pA nO:Tok}{pB:Tok}{j?:Tok}{t?:_t}{Ba:Option _t}{Bb:Nat}{Bc:Array (_o)}{zr zt zu zx:Tok}{zy:_t}{Ib:Option _t}{Ic:Nat}{Ie:Array (_o)}{D! D?:Tok}{Bd:Tok}{js:Tok}(h0:dG K "is_whole" (top 9))(h1:dG K "is_prime_within" (top 10))(h2:dG K "rest_in_ring" (top 13))(h3:dG K "add_to" (top 22))(h4:dG K "sign_text" (top 32))(h5:dG K "power_text" (top 34))(h6:dG K "are_figures" (top 38))(h7:dG K "place_of_letter" (top 39))(h8:dG K "_law_whole" (top 42))(h9:dG K "_law_cell_at" (top 43))(h10:dG K "_law_prime" (top 44))(S4:dG K "_law_settled" (top 46))(h12:dG K "_law_number" (top 49))(h13:dG K "_law_exponents" (top 50))(h14:dG K "_law_word" (top 52))(h15:dG K "_law_figures" (top 54))(h16:dG K "_law_odd" (top 57))(h17:dG K "_law_sign" (top 58))(h18:dG K "is_ring" (top 11))(h19:dG K "is_whole_within" (top 17))(h20:dG K "settled_terms" (top 23))(h21:dG K "term_text" (top 33))(h22:dG K "exponent_written" (top 40))(h23:dG K "_law_ring" (top 45))(h24:dG K "_law_gathered" (top 47))(h25:dG K "_law_same" (top 48))(h26:dG K "_law_pairs" (top 51))(h27:dG K "_law_written" (top 53))(h28:dG K "_law_term" (top 55))(h29:dG K "_law_turned" (top 60))(h30:dG K "check_ring" (top 12))(h31:dG K "check_unknowns" (top 18))(h32:dG K "are_exponents" (top 19))(h33:dG K "sum_of_totals" (top 24))(h34:dG K "shown" (top 31))(h35:dG K "pair_written" (top 37))(h36:dG K "_law_due" (top 56))(h37:dG K "_law_swapped" (top 59))(h38:dG K "is_pair" (top 20))(h39:dG K "pairs_written" (top 36))(h40:dG K "check_pairs" (top 21))(h41:dG K "made" (top 25))(h42:dG K "read" (top 35))(h43:dG K "_law_told" (top 61))(h44:dG K "_law_refused" (top 62))(a45:W.nsIn K mainGlobals "law" = some (some (.ref f45)))(l45:K.lookup f45=some ⟨aag,aae,.func (W.fnOf "law" "law" (h_ (top 63)) (fM (top 63)) (bW (top 63)) .none Sw Sx Sy Sv Pw SA),aaf⟩)(c45:W.codeIn K Pw "law" = true)(k45:W.keepIn K (.ref f45)=true)(zb:Ap K ["ValueError","abs","all","bool","enumerate","int","isinstance","len","list","min","range","sorted","str","tuple","zip"])(zc:Aq K ["AlgebraError","NoRing","NoUnknowns","NoTerm","NotWritten"])(j0:W.nsIn K mainGlobals "MOST_RING" = some (some (.int 997 xj)))(g_:W.nsIn K mainGlobals "FIRST_PRIMES" = some (some (.ref j7)))(g!:K.lookup j7=some ⟨.type "tuple",qh,.seq #[.int 2 o!,.int 3 o?,.int 5 pe,.int 7 ph,.int 11 pj,.int 13 pk,.int 17 pq,.int 19 px,.int 23 pz,.int 29 pA,.int 31 nO] qi,qj⟩)(gE:W.nsIn K mainGlobals "MOST_UNKNOWNS" = some (some (.int 4 pB)))(fk:W.nsIn K mainGlobals "MOST_MADE_EXPONENT" = some (some (.int 99 j?)))(mH:W.nsIn K mainGlobals "LETTERS" = some (some (.ref t?)))(mI:K.lookup t?=some ⟨.type "tuple",Ba,.seq #[.str "x" zr,.str "y" zt,.str "z" zu,.str "w" zx] Bb,Bc⟩)(ua:W.nsIn K mainGlobals "SIGNS" = some (some (.ref zy)))(ub:K.lookup zy=some ⟨.type "tuple",Ib,.seq #[.str "+" D!,.str "-" D?] Ic,Ie⟩)(mJ:W.nsIn K mainGlobals "FIGURES" = some (some (.str "0123456789" Bd)))(d!:W.nsIn K mainGlobals "MOST_EXPONENT_FIGURES" = some (some (.int 2 js)))(zp:pO K R8)(zv:r? K ["NotWritten","NoRing","NoUnknowns","NoTerm"])(zw:W.nsIn K mainGlobals "ValueError" = some none)(zq:Ar K kn):
  ∃fd:FuncData,(∀(s:_s)(v:_r),BindsTo s fd ⟨[v],[]⟩ [("_law_script",v)])/\∀base:Heap,K.In base->base.Ns mainGlobals mg->kg l.prog w K mg base (lI l.prog w) 9 fa fd ["_law_script"] (BL K):=by
 have e:=hfa.symm.trans (Ww X G a45);cases e;refine⟨W.fnOf "law" "law" (h_ (top 63)) (fM (top 63)) (bW (top 63)) .none Sw Sx Sy Sv Pw SA,fun s v=>.of_eq rfl,fun base _ _=>?_⟩;have T:Txt l.prog w K mg base:=⟨fun _ _ h=>Ww X G h,zb.get X G,zc.get X G,Glob.int (Ww X G j0),Glob.ints (ns:=[2,3,5,7,11,13,17,19,23,29,31]) (Ww X G g_) g! rfl rfl (by simp[VN]) (.cons ⟨_,rfl⟩ (.cons ⟨_,rfl⟩ (.cons ⟨_,rfl⟩ (.cons ⟨_,rfl⟩ (.cons ⟨_,rfl⟩ (.cons ⟨_,rfl⟩ (.cons ⟨_,rfl⟩ (.cons ⟨_,rfl⟩ (.cons ⟨_,rfl⟩ (.cons ⟨_,rfl⟩ (.cons ⟨_,rfl⟩ (.nil)))))))))))),Glob.int (Ww X G gE),Glob.int (Ww X G fk),Glob.strs (ns:=["x","y","z","w"]) (Ww X G mH) mI rfl rfl (by simp[VN]) (.cons ⟨_,rfl⟩ (.cons ⟨_,rfl⟩ (.cons ⟨_,rfl⟩ (.cons ⟨_,rfl⟩ (.nil))))),Glob.strs (ns:=["+","-"]) (Ww X G ua) ub rfl rfl (by simp[VN]) (.cons ⟨_,rfl⟩ (.cons ⟨_,rfl⟩ (.nil))),Glob.str (Ww X G mJ),Glob.int (Ww X G d!),zp.get X G (zv.get X G zw),zq.get X G⟩
 have mK:=y_ T  h0;have nP:=mD T  h1;have uc:=p8 T  h2;have Ig:=D8 T  h3;have zA:=wZ T  h4;have xk:=uI T  h5;have lU:=tX T  h6;have nQ:=mE T  h7;have xm:=uJ T  h8;have kO:=p9 T  h9;have xn:=uK T  h10;have ud:=p_ T  S4;have uQ:=tZ T  h12;have pC:=nL T  h13;have zB:=w_ T  h14;have uf:=p! T  h15;have Be:=za T  h16;have zC:=w! T  h17;have Ea:=A_ T mK nP h18;have jg:=mF T mK h19;have qk:=oW T uc h20;have zD:=w? T xk h21;have mL:=lH T lU h22;have zE:=xa T xn h23;have j8:=oX T ud h24;have zF:=xb T xm h25;have xo:=uM T kO uQ pC h26;have iQ:=qa T zB h27;have zG:=xg T uf h28;have uR:=t8 T zC h29;have nR:=uO T Ea h30;have jF:=nN T jg h31;have ql:=oY T jg h32;have qm:=oZ T qk h33;have Lq:=Ia T zA zD h34;have ug:=qd T lU nQ mL h35;have Bf:=zj T j8 iQ zG h36;have uh:=qe T iQ h37;have Eb:=A? T mK ql h38;have qo:=o_ T ug h39;have uS:=t_ T Eb h40;have Px:=Lo T Ig nR jF qm uS h41;have Ih:=Lp T nR jF Lq qo Px h42;have zH:=xi T Ih h43;have ui:=qg T Ih h44;exact(Pu T kO Be zE j8 zF xo iQ uR Bf uh zH ui (EZ (st:=top 63) l45 c45 k45)).imp fun _ _ _ _ h=>Oc H_ h
end GX
namespace PySem.W.Fast
def tw7814607944178701881:=()
def tw10553604644420605982:=()
def tw7302397335388987714:=()
def tw17904561771729036057:=()
def tw13985659612599219043:=()
def tw16360025877684573048:=()
def tw15727697226305773746:=()
def tw13063307686490512799:=()
def tw15662691110282702873:=()
def tw17406737982322245917:=()
def tw9915056054935308831:=()
def tw4784665380445859240:=()
def tw7362915164447276604:=()
def tw17202391589403169748:=()
def tw6618590913732075545:=()
def tw12754912455858267039:=()
def tw15221839096623107143:=()
def tw17267282749816264627:=()
def tw8785495104213577450:=()
def tw16018319098861751783:=()
def tw15964054442571317616:=()
def tw4205851288887665302:=()
def tw7145408364440247653:=()
def tw6501320823870351415:=()
def tw751494650681124451:=()
def tw15465447638552675251:=()
def tw6921325583349179627:=()
def tw11213746806430600357:=()
def tw9003816111899438647:=()
def tw7495893609468408883:=()
def tw5245608147330167076:=()
def tw8320491546983664084:=()
def tw5745674687023127455:=()
def tw11301411950834408472:=()
def tw11379798395094982529:=()
def tw14103765616344094936:=()
end PySem.W.Fast
open PySem.W PyProof.Rows
set_option maxRecDepth 100000 in
set_option maxHeartbeats 0 in
theorem PySem.Challenge.cw_polyring_k11_read_holds : PySem.Challenge.rw_polyring_k11_read.Holds := by
 w_on;o_law;k_head;(case hw=>w_witness2)
 k_fill
 refine MN.F8 (l:=PySem.Challenge.rw_polyring_k11_read) (k:=9) (x:="_law_script") rfl rfl ⟨rfl,by decide,by decide⟩ (fun w h Y=>PySem.W.kIn_of Y) ?F
 case F=>
  intro w mg fa h KX G QR;refine' GX.all_mk KX G QR ?h0 ?h1 ?h2 ?h3 ?h4 ?h5 ?h6 ?h7 ?h8 ?h9 ?h10 ?S4 ?h12 ?h13 ?h14 ?h15 ?h16 ?h17 ?h18 ?h19 ?h20 ?h21 ?h22 ?h23 ?h24 ?h25 ?h26 ?h27 ?h28 ?h29 ?h30 ?h31 ?h32 ?h33 ?h34 ?h35 ?h36 ?h37 ?h38 ?h39 ?h40 ?h41 ?h42 ?h43 ?h44 ?a45 ?l45 ?c45 ?k45 ?zb ?zc ?j0 ?g_ ?g! ?gE ?fk ?mH ?mI ?ua ?ub ?mJ ?d! ?zp ?zv ?zw ?zq
  (case h0|h1|h2|h3|h4|h5|h6|h7|h8|h9|h10|S4|h12|h13|h14|h15|h16|h17|h18|h19|h20|h21|h22|h23|h24|h25|h26|h27|h28|h29|h30|h31|h32|h33|h34|h35|h36|h37|h38|h39|h40|h41|h42|h43|h44=>refine' MN.dG.mk ?a ?l ?c ?k;(case a=>k_is);(case l=>k_is);(case c=>k_is);(case k=>k_is);skip)
  (case a45=>k_is)
  (case l45=>k_is)
  (case c45=>k_is)
  (case k45=>k_is)
  case zb=>
   repeat (refine' MN.Ap.cons ?a ?_;(case a=>k_is);skip)
   exact .nil
  case zc=>
   repeat (refine' MN.Aq.cons ?a ?e ?s ?_;(case a=>k_is);(case e=>k_exc);(case s=>k_is);skip)
   exact .nil
  (case j0=>k_is)
  (case g_=>k_is)
  (case g!=>k_is)
  (case gE=>k_is)
  (case fk=>k_is)
  (case mH=>k_is)
  (case mI=>k_is)
  (case ua=>k_is)
  (case ub=>k_is)
  (case mJ=>k_is)
  (case d!=>k_is)
  case zp=>
   repeat (refine' MN.pO.cons ?a ?b ?c ?d ?e ?_;(case a=>k_is);(case b=>k_is);(case c=>k_is);(case d=>k_is);(case e=>first|k_is|kit_is);skip)
   exact .nil
  case zv=>
   repeat (refine' MN.r?.cons ?a ?e ?_;(case a=>k_is);(case e=>first|k_is|kit_is);skip)
   exact .nil
  (case zw=>k_is)
  case zq=>
   repeat (refine' MN.Ar.cons ?a ?e ?_;(case a=>k_is);(case e=>first|k_is|kit_is|rfl|decide +kernel);skip)
   exact .nil
