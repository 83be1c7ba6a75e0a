import PyProof.Rows.All
import Wide.All
import OpenK.AllK
import PySem.Challenge.RW_polyring_k23_not_factored
set_option Elab.async false
set_option linter.all false
set_option maxRecDepth 100000
set_option maxHeartbeats 4000000
set_option compiler.extract_closed false
set_option genSizeOf false
open PySem
noncomputable section
abbrev Z_:=Value->Shared->Prop
abbrev Z!:=Str->Option Value
abbrev Z?:=List (Addr×Obj)
abbrev Z':=W.Frag
abbrev _a:=List Int
abbrev _b:=List Value
abbrev _c:=Option Value
abbrev _d:=List Addr
abbrev _e:=List Str
abbrev _g:=Value
abbrev _h:=Shared
abbrev _i:=Addr
abbrev _j:=Around
abbrev _k:=Program
variable {κ α β:Type}
variable {o e tg iter value elt e₀:Expr}
variable {P q:Program}
variable {h h':Heap}
variable {ob oe:Obj}
variable {ae O!:List (Addr×Obj)}
variable {s s₀:Shared}
variable {t' i j m k1 k2 kt d ep:Nat}
variable {ch fp ρ ρ':List Addr}
variable {pos pos' pC apos p2 cy tp np q1 q2:Pos}
variable {rest es ifs elts:List Expr}
variable {vs aP:List Value}
variable {R B v1 as u0 u1 v0 U:_a}
variable {lo hi p g0 g1:Int}
variable {C dx f z i1 i2 l2 ea c' fa:Addr}
variable {op:CmpOp}
variable {name y:Str}
variable {doc pm fF oc cls:Value}
variable {an od:Option Addr}
variable {C7:Array (Option Value)}
variable {items xs ys:Array Value}
variable {loose:List Str}
variable {bE:List Nat}
variable {tn:Nat->Heap->Prop}
variable {b1 b2:Bool}
variable {newId:String}
variable {h₀:ExceptHandler}
variable {hs:List ExceptHandler}
variable {b₀:Stmt}
variable {lN:List Stmt}
variable {Gs:List (_a)}
def Vl:=@wpAny_bind
def Vm.{u}:=@List.length_cons.{u}
def Vn.{u}:=@List.set_cons_zero.{u}
def Vo:=@Heap.get?_push_of_some
def Vp.{u}:=@List.getElem?_eq_getElem.{u}
def Vq.{u,v}:=@List.length_map.{u,v}
def Vr.{u}:=@List.replicate_zero.{u}
def Vs.{u,v}:=@List.map_cons.{u,v}
def Vt.{u}:=@List.set_cons_succ.{u}
def Vu.{u}:=@List.nil_append.{u}
def Vv.{u}:=@List.length_append.{u}
def Vx.{u}:=@List.length_nil.{u}
def Vy.{u}:=@List.replicate_succ.{u}
def Vz.{u}:=@List.cons_append.{u}
def VA:=@wpAny_pure
def VB:=@sizeLine_eq
def VC.{u}:=@if_pos.{u}
def VD:=@Nat.le_refl
def VE.{u,v}:=@List.map_nil.{u,v}
def VF.{u}:=@List.getD_eq_getElem?_getD.{u}
def VG.{u}:=@List.size_toArray.{u}
def VH:=@Heap.lt_size
def VI.{u}:=@if_neg.{u}
def VJ.{u}:=@List.length_pos_iff.{u}
def VM.{u,v}:=@List.getElem?_map.{u,v}
def VN.{u}:=@List.mem_singleton.{u}
def VO:=@Nat.lt_of_lt_of_le
def VP.{u}:=@List.mem_cons_of_mem.{u}
def VQ:=@Bool.false_ne_true
def VR.{u}:=@Option.some.inj.{u}
def VS:=@Heap.get?_push_size
def VT:=@decide_eq_false
def VU.{u}:=@List.append_assoc.{u}
def VV.{u}:=@List.mem_cons_self.{u}
def VW:=@List.length_range
def VX.{u}:=@List.mem_append.{u}
def VY.{u}:=@List.length_replicate.{u}
def VZ:=@decide_eq_true
def V0:=@Nat.ne_of_lt
def V1.{u}:=@List.getElem?_eq_none.{u}
def V2.{u}:=@Array.length_toList.{u}
def V3.{u}:=@List.length_singleton.{u}
def V4.{u}:=@List.getElem?_append_right.{u}
def V5.{u}:=@List.mem_cons.{u}
def V6.{u}:=@List.getElem?_append_left.{u}
def V7.{u}:=@List.append_nil.{u}
def V8:=@Nat.zero_add
def V9:=@Int.emod_eq_of_lt
def V_.{u,v,w}:=@List.map_map.{u,v,w}
def V!.{u}:=@List.getElem?_eq_some_iff.{u}
def V?:=@Nat.le_trans
def Wa.{u}:=@List.mem_append_right.{u}
def Wb.{u,v}:=@List.mem_map.{u,v}
def Wc.{u}:=@List.mem_of_getElem?.{u}
def Wd:=@List.getElem?_range
def We:=@Nat.zero_le
def Wf:=@Nat.lt_irrefl
def Wg:=@Int.toNat_of_nonneg
def Wh.{u}:=@List.eq_nil_of_length_eq_zero.{u}
def Wi:=@Bool.not_true
def Wj:=@Heap.get?_update_other
def Wk.{u}:=@List.getElem?_set_self.{u}
def Wl:=@Int.emod_add_mul_ediv
def Wm:=@wpAny_mono
def Wn:=@Int.mul_zero
def Wq:=@wpAny_field
def Wr.{u}:=@List.all_eq_true.{u}
def Ws.{u,v}:=@List.map_append.{u,v}
def Wt.{u,v}:=@List.pairwise_map.{u,v}
def Wu.{u}:=@List.length_set.{u}
def Wv:=@wpAny_newObj_type
def Ww:=@W.kia_one
def Wx:=@Int.mul_assoc
def Wy:=@Bool.and_eq_true
def Wz.{u}:=@List.getElem?_replicate.{u}
def WA:=@mem_of_lookup
def WB.{u}:=@List.mem_append_left.{u}
def WC:=@Int.mul_le_mul_of_nonneg_left
def WD.{u}:=@beq_eq_false_iff_ne.{u}
def WE:=@F.slot_dict_keyiterator_next
def WG:=@Bool.false_eq_true
def WH:=@PyProof.Rows.callWith_type1
def WJ.{u}:=@Array.getElem?_toList.{u}
def WK:=@Obj.data_mapFields
def WL.{u}:=@Lean.Grind.Semiring.pow_succ.{u}
def WM:=@wpAny_callSpecial?_slot
def WN:=@of_decide_eq_true
def WO.{u}:=@beq_iff_eq.{u}
def WQ:=@Nat.lt_or_ge
def WR:=@Int.toNat_natCast
def WS.{u}:=@List.pairwise_append.{u}
def WT.{u}:=@List.getElem?_set_ne.{u}
def WU:=@Int.one_mul
def WV.{u}:=@List.drop_eq_getElem_cons.{u}
def WW:=@wpAny_call_entry
def WX:=@wpAny_holding
def WY:=@PyProof.Rows.listItems_at
def WZ.{u}:=@List.pairwise_singleton.{u}
def W2.{u}:=@Lean.Grind.Semiring.pow_zero.{u}
def W3:=@Int.emod_lt_of_pos
def W4:=@Int.natCast_mul
def W5:=@Nat.sub_self
def W6:=@Nat.ne_of_gt
def W7.{u,v}:=@List.mem_map_of_mem.{u,v}
def W8:=@Int.zero_mul
def W9:=@Int.mul_comm
def W_:=@Heap.get?_update_self
def W!:=@W.mg_of
def W?.{u}:=@Ne.symm.{u}
def W':=@Int.mul_le_mul_of_nonneg_right
def Xa.{u}:=@List.flatten_cons.{u}
def Xb.{u,v}:=@List.of_mem_zip.{u,v}
def Xc:=@Heap.SameBut.update
def Xd:=@wpAny_seqItems
def Xe:=@Int.emod_nonneg
def Xf.{u,v}:=@List.filterMap_cons_some.{u,v}
def Xg:=@wpAny_typeNameOfWhole_keyiter
def Xh:=@wpAny_setField_rec
def Xi:=@wpAny_Call_Name_kw
def Xj:=@wpAny_passesOwn
def Xk.{u}:=@List.drop_eq_nil_of_le.{u}
def Xl:=@Int.mul_one
def Xm:=@Int.mul_add
def Xn:=@Obj.isFreed_of_fields
def Xo.{u}:=@List.nodup_cons.{u}
def Xq:=@Int.add_zero
def Xr:=@wpAny_truthy_bool
def Xs.{u}:=@List.cons.inj.{u}
def Xt.{u}:=@List.all_cons.{u}
def Xu:=@wpAny_setField
def Xv:=@Int.zero_emod
def Xw:=@F.slot_tuple_iterator_next
def Xx:=@Int.natCast_add
def Xy:=@Int.dvd_of_emod_eq_zero
def Xz.{u}:=@beq_self_eq_true.{u}
def XA.{u}:=@List.length_drop.{u}
def XC.{u}:=@Array.getElem?_eq_getElem.{u}
def XD:=@wpAny_typeNameOf_keyiter
def XE:=@wpAny_attempt
def XG:=@decide_eq_true_eq
def XH:=@List.mem_range
def XI:=@Bool.not_false
def XJ:=@wpAny_execs_nil
def XM.{u}:=@if_false.{u}
def XN:=@PyProof.Rows.slot_tuple_getitem
def XO.{u}:=@List.any_cons.{u}
def XQ:=@MeetsSeq3.plain_eq_loop
def XR.{u}:=@List.find?_cons.{u}
def XS.{u}:=@List.filter_cons_of_pos.{u}
def XT.{u}:=@List.filter_cons_of_neg.{u}
def XU:=@codeAny_mono
def XW.{u,v}:=@List.filterMap_cons_none.{u,v}
def XX.{u,v}:=@List.length_zip.{u,v}
def XY:=@PyProof.Rows.boot_isinstance
def XZ:=@Int.natCast_one
def X0:=@W.hideAll_get
def X1:=@call_meets
def X2:=@Int.zero_add
def X3:=@Int.mul_emod
def X4:=@Int.lt_or_le
def X5.{u,v}:=@congrArg.{u,v}
def X6.{u}:=@List.getElem_mem.{u}
def X7:=@codeAny_builtin
def X8:=@Int.mul_neg
def X9:=@F.args_tuple_add_2
def X_.{u}:=@List.mem_filter.{u}
def X!:=@Bool.false_or
def X?.{u}:=@List.mergeSort_perm.{u}
def X':=@F.entry_tuple_add
def Ya:=@Heap.size_push
def Yb:=@W.cellsFrom_some
def Yc:=@F.slot_tuple_add
def Yd:=@Nat.succ.inj
def Ye:=@Nat.le_of_eq
def Yf:=@Nat.dvd_of_mod_eq_zero
def Yg:=@PyProof.Rows.get?_update_seq
def Yh.{u,v}:=@List.filterMap_cons.{u,v}
def Yi:=@wpAny_onRaise
def Yj.{u}:=@List.pairwise_iff_getElem.{u}
def Yk.{u}:=@List.getElem?_eq_none_iff.{u}
def Yl.{u}:=@List.ext_getElem?.{u}
def Ym:=@Nat.pow_le_pow_right
def Yn:=@Int.emod_emod_of_dvd
def Yo:=@Bool.false_and
def Yp:=@Bool.and_false
def Yq:=@wpAny_rule
def Yr:=@wpAny_call
def Ys:=@F.args_dict_keyiterator_next_1
def Yt.{u}:=@List.prefix_refl.{u}
def Yu.{u}:=@List.pairwise_mergeSort.{u}
def Yv.{u}:=@List.not_mem_nil.{u}
def Yw.{u}:=@List.length_eq_zero_iff.{u}
def Yx:=@SeqAt.EqAt.same
def Yy:=@F.entry_dict_keyiterator_next
def Yz:=@F.slot_zip_next
def YA:=@W.callWith_K
def YB:=@Nat.lt_of_le_of_lt
def YC:=@Nat.eq_zero_or_pos
def YD:=@wpAny_updateSeq_pair
def YE:=@or_false
def YF:=@Nat.min_self
def YG:=@Nat.lt_succ_of_lt
def YH:=@Nat.le_of_lt
def YI:=@Bool.not_eq_true'
def YJ.{u,v}:=@Option.map_eq_some_iff.{u,v}
def YK:=@Nat.lt_succ_self
def YL:=@Nat.le_of_not_lt
def YM:=@Nat.le_add_right
def YN.{u}:=@Array.toArray_toList.{u}
def YO:=@wpAny_standAt
def YQ:=@wpAny_newList
def YR.{u}:=@if_true.{u}
def YS:=@Nat.log2_lt
def YT:=@Int.neg_mul
def YU:=@Int.le_refl
def YV:=@Int.add_mul
def YW:=@SeqAt.EqAt.str_int
def YX:=@SeqAt.EqAt.int_str
def YY:=@Nat.not_lt_zero
def YZ:=@Int.ediv_nonneg
def Y0:=@Bool.or_eq_true
def Y1:=@F.attrBase_ValueError
def Y2:=@wpAny_pyIter_list
def Y3:=@wpAny_dictEntries
def Y4:=@slot_list_getitem
def Y5:=@seqIndex_neg
def Y6.{u}:=@List.pairwise_cons.{u}
def Y7.{u}:=@List.getElem?_drop.{u}
def Y8:=@Int.mul_nonneg
def Y9:=@Int.add_mul_emod_self_left
def Y_:=@Nat.eq_of_mul_eq_mul_left
def Y!:=@Classical.byContradiction
def Y?:=@wpAny_isInstance
def Y':=@wpAny_execs_cons
def Za:=@wpAny_eqBool_int
def Zb:=@noFill_tuple_add
def Zc:=@PyProof.noPylong_of_log2
def Zd:=@Bool.true_and
def Ze:=@wpAny_letGo
def Zf:=@seqIndex_of
def Zg:=@F.slot_list_index
def Zh:=@F.slot_list_count
def Zi:=@F.plainAttrs_list
def Zj:=@wpAny_dictEpoch
def Zk:=@PyProof.Rows.listUpdate_at
def Zl:=@F.slot_dict_iter
def Zm:=@Nat.mod_eq_zero_of_dvd
def Zn:=@Nat.lt_trans
def Zo.{u,v}:=@List.zip_cons_cons.{u,v}
def Zp.{u,v}:=@List.mem_filterMap.{u,v}
def Zq.{u}:=@List.length_take.{u}
def Zr.{u}:=@List.getElem_inj.{u}
def Zs.{u}:=@List.ext_getElem.{u}
def Zt.{u}:=@List.drop_length.{u}
def Zu:=@Int.dvd_refl
def Zv:=@F.args_tuple_iterator_next_1
def Zw:=@Bool.true_or
def Zx:=@F.entry_tuple_iterator_next
def Zy:=@wpAny_newFunctionEnv_cells
def Zz:=@Nat.le_succ
def ZA:=@Calls.Name_function_global
def ZC:=@Nat.mul_le_mul_left
def ZD:=@wpAny_getItem_list_slice
def ZE:=@wpAny_comprehension_free
def ZF:=@seq_tuple_add
def ZG:=@evalPart_none
def ZH:=@SeqAt.RcAt.lists_lengths
def ZI:=@W.of_hideAll
def ZJ:=@W.mg_none_of
def ZK:=@W.kitx_tuple
def ZL:=@W.codeRec_of
def ZM:=@Paired.length
def ZN:=@Int.natAbs_eq_zero
def ZO:=@list_append
def ZP:=@W.kitx_list
def ZQ:=@W.kitx_dict
def ZR:=@Nat.mul_mod_right
def ZS:=@Nat.lt_trichotomy
def ZT:=@MeetsSeq3.entry_eq_loop
def ZU:=@Int.mul_emod_left
def ZV:=@wpAny_pyNext_range_end
def ZW:=@wpAny_pyIter_rangeiter
def ZX:=@wpAny_getItem_list_neg
def ZY.{u,v,w}:=@getElem?_pos.{u,v,w}
def ZZ:=@concat_meets
def Z0:=@SeqAt.ne_of_list_tuple
def Z1:=@IsL.update
def Z2:=@Nat.lt_log2_self
def Z3.{u}:=@List.Perm.eq_of_pairwise.{u}
def Z4:=@Calls.callWith_builtin
def Z5.{u}:=@Array.size_setIfInBounds.{u}
def Z6:=@wpAny_isOneOf_keyiter
def Z7:=@codeAny_call_function
def Z8:=@W.kit_cls
def Z9.{u}:=@List.mem_singleton_self.{u}
namespace L2
open PySem.Spec PyProof.Rows
abbrev fe:=Sum Int Str
def wN:fe->_g->Bool
 |.inl k,v=>Value.isInt k v
 |.inr x,v=>Value.isStrOf x v
def aae(w:World):fe->Int
 |.inl k=>hashInt k
 |.inr x=>hashStr w x
theorem dE:∀{k:fe}{v:_g},wN k v=true->(∃i t,k=Sum.inl i/\v=Value.int i t)\/(∃x t,k=Sum.inr x/\v=Value.str x t)
 |.inl i,v,h=>by obtain⟨t,e⟩:=Value.isInt_shape (k:=i) (v:=v) h;exact .inl ⟨i,t,rfl,e⟩
 |.inr x,v,h=>by obtain⟨t,e⟩:=Value.isStrOf_shape (x:=x) (v:=v) h;exact .inr ⟨x,t,rfl,e⟩
theorem Ex(i:Int)(t:Tok):wN (.inl i) (.int i t)=true:=by simp[wN,Value.isInt]
theorem Ey(x:Str)(t:Tok):wN (.inr x) (.str x t)=true:=by simp[wN,Value.isStrOf]
theorem NY(a b:Int):decide ((Sum.inl a:fe)=Sum.inl b)=(a==b):=by
 by_cases e:a=b
 .subst e;simp
 .have h:¬ (Sum.inl a:fe)=Sum.inl b:=λq=>e (Sum.inl.inj q);rw[VT h];exact(WD.mpr e).symm
theorem NZ(a b:Str):decide ((Sum.inr a:fe)=Sum.inr b)=decide (a=b):=by
 by_cases e:a=b
 .subst e;simp
 .have h:¬ (Sum.inr a:fe)=Sum.inr b:=λq=>e (Sum.inr.inj q);rw[VT h,VT e]
theorem N0(a:Int)(b:Str):decide ((Sum.inl a:fe)=Sum.inr b)=false:=VT (λq=>nomatch q)
theorem N1(a:Str)(b:Int):decide ((Sum.inr a:fe)=Sum.inl b)=false:=VT (λq=>nomatch q)
def fM(prog:_k)(w:World):PySem.KeyKind prog w fe where
 is:=wN
 hash:=aae w
 inj:=λv a b ha hb=>by
  rcases dE ha with⟨i,t,rfl,rfl⟩|⟨x,t,rfl,rfl⟩
  .rcases dE hb with⟨j,u,rfl,e⟩|⟨y,u,rfl,e⟩
   .injection e with e1 _;rw[e1]
   .exact nomatch e
  .rcases dE hb with⟨j,u,rfl,e⟩|⟨y,u,rfl,e⟩
   .exact nomatch e
   .injection e with e1 _;rw[e1]
 byValue:=λk v h=>by rcases dE h with⟨i,t,rfl,rfl⟩|⟨x,t,rfl,rfl⟩<;>rfl
 pyHash:=λhv h=>by
  rcases dE hv with⟨i,t,rfl,rfl⟩|⟨x,t,rfl,rfl⟩
  .exact wpAny_pyHash_int h
  .exact wpAny_pyHash_str h
 eqBool:=λhu hv h=>by
  rcases dE hu with⟨i,t,rfl,rfl⟩|⟨x,t,rfl,rfl⟩
  .rcases dE hv with⟨j,u,rfl,rfl⟩|⟨y,u,rfl,rfl⟩
   .rw[NY]at h;exact Za h
   .rw[N0]at h;exact YX i t y u _ _ _ _ h
  .rcases dE hv with⟨j,u,rfl,rfl⟩|⟨y,u,rfl,rfl⟩
   .rw[N1]at h;exact YW x t j u _ _ _ _ h
   .rw[NZ]at h;exact wpAny_eqBool_str h
 «strs»:=λk x t v h=>by
  rcases dE h with⟨i,u,rfl,e⟩|⟨y,u,rfl,e⟩
  .exact nomatch e
  .injection e with e1 _;subst e1;cases v<;>rfl
theorem zJ(prog:_k)(w:World)(i:Int)(t:Tok):(fM prog w).is (.inl i) (.int i t)=true:=Ex i t
theorem zK(prog:_k)(w:World)(x:Str)(t:Tok):(fM prog w).is (.inr x) (.str x t)=true:=Ey x t
inductive V where
 |cH|bl (b:Bool)|int (i:Int)|str (x:Str)|byt (b:Array UInt8)|tM (b:UInt64)|ref (a:_i)|ty (n:String)
 deriving DecidableEq
def bJ:V->_g->Prop
 |.cH,u=>u=Value.none
 |.bl b,u=>u=Value.bool b
 |.int i,u=>∃t,u=Value.int i t
 |.str x,u=>∃t,u=Value.str x t
 |.byt b,u=>∃t,u=Value.bytes b t
 |.tM b,u=>∃t,u=Value.float b t
 |.ref a,u=>u=Value.ref a
 |.ty n,u=>u=Value.type n
abbrev bo:List V->_b->Prop:=Paired bJ
theorem bo.length{xs:List V}{us:_b}(r:bo xs us):xs.length=us.length:=ZM r
theorem bo.get:∀{xs:List V}{us:_b}{i:Nat}{x:V},bo xs us->xs[i]?=some x->∃u,us[i]?=some u/\bJ x u
 |_,_,_,_,.nil,e=>by simp at e
 |_,_,0,_,.cons r _,e=>by simp at e;subst e;exact⟨_,rfl,r⟩
 |_,_,i+1,x,.cons _ t,e=>by obtain⟨u,h1,h2⟩:=bo.get (i:=i) (x:=x) t (by simpa using e);exact⟨u,by simpa using h1,h2⟩
theorem bo.set{x:V}{u:_g}(r:bJ x u):∀{xs:List V}{us:_b}(i:Nat),bo xs us->bo (xs.set i x) (us.set i u)
 |_,_,_,.nil=>.nil
 |_,_,0,.cons _ t=>.cons r t
 |_,_,i+1,.cons q t=>.cons q (bo.set r i t)
theorem bo.append:∀{xs ys:List V}{us ws:_b},bo xs us->bo ys ws->bo (xs++ys) (us++ws)
 |_,_,_,_,.nil,s=>s
 |_,_,_,_,.cons r t,s=>.cons r (bo.append t s)
theorem bo.take:∀{xs:List V}{us:_b}(n:Nat),bo xs us->bo (xs.take n) (us.take n)
 |_,_,0,_=>.nil
 |_,_,_+1,.nil=>.nil
 |_,_,n+1,.cons r t=>.cons r (bo.take n t)
theorem bo.drop:∀{xs:List V}{us:_b}(n:Nat),bo xs us->bo (xs.drop n) (us.drop n)
 |_,_,0,r=>r
 |_,_,_+1,.nil=>.nil
 |_,_,n+1,.cons _ t=>bo.drop n t
def uh:Option V->_c->Prop
 |some v,some u=>bJ v u
 |none,none=>True
 |_,_=>False
def KV:List (κ×V)->List (κ×_g)->Prop:=Paired λ(p:κ×V)(q:κ×_g)=>p.1=q.1/\bJ p.2 q.2
def kV:fe->V
 |.inl i=>.int i
 |.inr x=>.str x
inductive HO where
  |lst (xs:List V)
  |tup (xs:List V)
  |dK (a8:List (fe×V))|dT (a8:List (List fe×V))
  |set (S:Int->Bool) (n:Nat)
  |ins (C dx:_i) (fs:List (Str×V))
  |own (x:_i)
  |xd (fs:List (Str×V))
  |met (f x:_i)
  |J5 (lo hi:Int)
  |j5 (o:Obj) (u:HO)
  |v? (ps:Array _g)
  |ext (φ:Heap->Prop)
abbrev Hp:=_i->Option HO
def upd(H:Hp)(a:_i)(o:HO):Hp:=λb=>if b=a then some o else H b
theorem b8{H:Hp}{a:_i}{o:HO}:upd H a o a=some o:=by unfold upd;rw[VC rfl]
theorem a7{H:Hp}{a b:_i}{o:HO}(h:b≠a):upd H a o b=H b:=by unfold upd;rw[VI h]
theorem R4{H:Hp}{a b:_i}{o u:HO}(h:H a=some o)(h':H b=some u)(d:o≠u):a≠b:=by intro e;subst e;rw[h]at h';exact d (VR h')
theorem bq{H:Hp}{a b:_i}{o:HO}(h:H a=some o)(h':H b=none):a≠b:=by intro e;subst e;rw[h]at h';cases h'
section
variable(P:_k)(w:World)
def cY(H:Hp)(h:Heap)(a:_i):HO->Prop
 |.lst xs=>xs.length<=sizeLine/\∃(aP:_b)(n:Nat),bo xs aP/\h.get? a=some {cls:=.type "list",data:=.seq aP.toArray n}
 |.tup xs=>xs.length<=sizeLine/\∃aP:_b,bo xs aP/\IsTup h a aP.toArray
 |.dK a8=>a8.length<=sizeLine/\(a==sysModules)=false/\∃vs,KV a8 vs/\h.DictOf (fM P w) a vs
 |.dT a8=>a8.length<=sizeLine/\(a==sysModules)=false/\∃xs:List (List fe×_i×_g),
   Paired (λ(p:List fe×V)(q:List fe×_i×_g)=>p.1=q.1/\H q.2.1=some (.tup (p.1.map kV))/\bJ p.2 q.2.2) a8 xs /\
   ∃o es ep,h.get? a=some o/\o.ExactDict/\o.data=.dict es ep/\es.toList=xs.map (entryOfKey (tupleKind (fM P w)))/\(xs.map (·.1)).Nodup
 |.set S n=>h.SetOf (intKind P w) a S n
 |.ins C dx fs=>H dx=some (.own a)/\fs.length<=1000/\dx≠a/\h.get? a=some (W.instObj C dx) /\
   ∃mA,h.Ns1 dx mA/\(∀f,uh (fs.lookup f) (mA f))/\PySem.Within mA (fs.map (·.1))
 |.own _=>∃o,h.get? a=some o
 |.xd fs=>∃mA,h.Ns1 a mA/\∀f,uh (fs.lookup f) (mA f)
 |.J5 lo hi=>∃t u v,h.get? a=some {cls:=.type "range",data:=.fields #[.int lo t,.int hi u,.int 1 v]}
 |.j5 o u=>h.get? a=some o/\cY H h a u
 |.v? ps=>h.get? a=some {cls:=.none,data:=.fields ps}
 |.met f x=>h.get? a=some (W.methodObj (.ref f) (.ref x))
 |.ext φ=>φ h/\(∃o,h.get? a=some o)/\∀h1 h2:Heap,φ h1->(∀o,h1.get? a=some o->h2.get? a=some o)->φ h2
def km(H:Hp)(h:Heap):Prop:=∀a o,H a=some o->cY P w H h a o
end
section
variable{w:World}{H H':Hp}{a:_i}{o:HO}
theorem cY.lt(x:cY P w H h a o):a<h.objs.size:=by
 cases o with
 |lst xs=>obtain⟨_,_,_,_,e⟩:=x;exact VH e
 |tup xs=>obtain⟨_,_,_,p⟩:=x;exact p.lt
 |dK a8=>obtain⟨_,_,_,_,o,_,_,e,_⟩:=x;exact VH e
 |dT a8=>obtain⟨_,_,_,_,o,_,_,e,_⟩:=x;exact VH e
 |set S n=>obtain⟨o,_,_,_,e,_⟩:=x;exact VH e
 |ins C dx fs=>obtain⟨_,_,_,e,_⟩:=x;exact VH e
 |own y=>obtain⟨_,e⟩:=x;exact VH e
 |xd fs=>obtain⟨_,⟨_,_,_,e,_⟩,_⟩:=x;exact VH e
 |J5 lo hi=>obtain⟨_,_,_,e⟩:=x;exact VH e
 |j5 ob u=>obtain⟨e,_⟩:=x;exact VH e
 |v? ps=>exact VH (show h.get? a=some _ from x)
 |met f y=>exact VH (show h.get? a=some _ from x)
 |ext φ=>obtain⟨_,⟨_,e⟩,_⟩:=x;exact VH e
theorem Paired.N2{F G:α->β->Prop}:∀{l₁:List α}{l₂:List β},Paired F l₁ l₂->(∀a b,F a b->G a b)->Paired G l₁ l₂
 |_,_,.nil,_=>.nil
 |_,_,.cons r t,f=>.cons (f _ _ r) (Paired.N2 t f)
theorem cY.pv(x:cY P w H h a o)(k:∀b u,(b=a\/H b=some (.own a))->h.get? b=some u->h'.get? b=some u)(ho:∀b,H b=some (.own a)->H' b=some (.own a))(ht:∀b xs,H b=some (.tup xs)->H' b=some (.tup xs)):cY P w H' h' a o:=by
 induction o with
 |lst xs=>obtain⟨z,aP,n,r,e⟩:=x;exact⟨z,aP,n,r,k _ _ (.inl rfl) e⟩
 |tup xs=>obtain⟨z,aP,r,ob,e,c⟩:=x;exact⟨z,aP,r,ob,k _ _ (.inl rfl) e,c⟩
 |dK a8=>obtain⟨z,y,vs,r,ob,es,ep,e,c⟩:=x;exact⟨z,y,vs,r,ob,es,ep,k _ _ (.inl rfl) e,c⟩
 |dT a8=>
  obtain⟨z,y,xs,r,ob,es,ep,e,c⟩:=x;exact⟨z,y,xs,Paired.N2 r λp q z=>⟨z.1,ht _ _ z.2.1,z.2.2⟩,ob,es,ep,k _ _ (.inl rfl) e,c⟩
 |set S n=>obtain⟨ob,es,ep,t,e,c⟩:=x;exact⟨ob,es,ep,t,k _ _ (.inl rfl) e,c⟩
 |ins C dx fs=>
  obtain⟨d,z,ne,e,mA,⟨od,es,ep,e2,c⟩,r⟩:=x;exact⟨ho _ d,z,ne,k _ _ (.inl rfl) e,mA,⟨od,es,ep,k _ _ (.inr d) e2,c⟩,r⟩
 |own y=>obtain⟨ob,e⟩:=x;exact⟨ob,k _ _ (.inl rfl) e⟩
 |xd fs=>obtain⟨mA,⟨od,es,ep,e,c⟩,r⟩:=x;exact⟨mA,⟨od,es,ep,k _ _ (.inl rfl) e,c⟩,r⟩
 |J5 lo hi=>obtain⟨t,u,v,e⟩:=x;exact⟨t,u,v,k _ _ (.inl rfl) e⟩
 |j5 ob u ih=>obtain⟨e,q⟩:=x;exact⟨k _ _ (.inl rfl) e,ih q⟩
 |v? ps=>
  have e:h.get? a=some {cls:=.none,data:=.fields ps}:=x;show h'.get? a=some {cls:=.none,data:=.fields ps};exact k a _ (.inl rfl) e
 |met f y=>
  have e:h.get? a=some (W.methodObj (.ref f) (.ref y)):=x;show h'.get? a=some (W.methodObj (.ref f) (.ref y));exact k a _ (.inl rfl) e
 |ext φ=>obtain⟨p,⟨o,e⟩,st⟩:=x;exact⟨st _ _ p λo q=>k _ _ (.inl rfl) q,⟨o,k _ _ (.inl rfl) e⟩,st⟩
theorem km.lt(x:km P w H h)(e:H a=some o):a<h.objs.size:=(x a o e).lt
theorem km.fresh(x:km P w H h)(e:h.objs.size<=a):H a=none:=by
 cases q:H a with
 |none=>rfl
 |some u=>exact absurd (VO (x.lt q) e) (Wf _)
theorem km.kept(x:km P w H h)(k:∀b u,h.get? b=some u->h'.get? b=some u):km P w H h':=λa o e=>
 (x a o e).pv (λb u _ q=>k b u q) (λ_ q=>q) λ_ _ q=>q
theorem km.laid(x:km P w H h)(k:∀b u,h.get? b=some u->h'.get? b=some u)(hp:h.objs.size<=a)(new:cY P w (upd H a o) h' a o):km P w (upd H a o) h':=λb u e=>by
 have hn:=x.fresh hp;by_cases hb:b=a
 .subst hb;rw[b8]at e;cases e;exact new
 .rw[a7 hb]at e;exact(x b u e).pv (λc v _ q=>k c v q) (λc q=>by rw[a7 (bq q hn)];exact q) λc xs q=>by rw[a7 (bq q hn)];exact q
end
def Rd(H:Hp)(a:_i)(u:HO):Prop:=H a=some u\/∃o,H a=some (.j5 o u)
theorem Rd.ok{w:World}{H:Hp}{a:_i}{u:HO}(r:Rd H a u)(x:km P w H h):cY P w H h a u:=by
 rcases r with r|⟨o,r⟩
 .exact x a u r
 .obtain⟨_,q⟩:=x a _ r;exact q
def R5:Option HO->Prop
 |some (.lst _)=>True
 |some (.dK _)=>True
 |some (.dT _)=>True
 |some (.set _ _)=>True
 |some (.ins _ _ _)=>True
 |some (.ext _)=>True
 |_=>False
section
variable{w:World}{H:Hp}{x e:_i}{o':HO}
theorem km.write(ok:km P w H h)(mu:R5 (H x))(he:e=x\/H e=some (.own x))(k:∀b u,b≠e->h.get? b=some u->h'.get? b=some u)(Rq:∃u,h'.get? e=some u)(new:cY P w (upd H x o') h' x o'):km P w (upd H x o') h':=λb u q=>by
 have R6:∀c y,H c=some (.own y)->c≠x:=λc y r z=>by subst z;rw[r]at mu;exact mu
 have aaf:∀c xs,H c=some (.tup xs)->c≠x:=λc xs r z=>by subst z;rw[r]at mu;exact mu
 by_cases hb:b=x
 .subst hb;rw[b8]at q;cases q;exact new
 .rw[a7 hb]at q;by_cases N3:b=e
  .have q':H b=some (.own x):=by
    rcases he with z|z
    .exact absurd (N3.trans z) hb
    .rw[N3];exact z
   rw[q]at q';cases q';obtain⟨v,hv⟩:=Rq;exact⟨v,by rw[N3];exact hv⟩
  .refine(ok b u q).pv (λc v hc r=>k c v ?_ r) (λc r=>by rw[a7 (R6 c b r)];exact r) λc xs r=>by rw[a7 (aaf c xs r)];exact r
   rcases hc with rfl|hc
   .exact N3
   .rintro rfl;rcases he with z|z
    .exact R6 c b hc z
    .rw[hc]at z;cases z;exact hb rfl
end
structure Un(fs ex:_d)(H H':Hp)(h h':Heap):Prop where
 keep:∀b o,h.get? b=some o->H b=none->b ∉ fs->b ∉ ex->h'.get? b=some o
 slot:∀b o,h.get? b=some o->H b=none->b∈fs->b ∉ ex->∃sl,h'.get? b=some {o with slots:=sl}
 free:∀b o,h.get? b=some o->H b=none->b ∉ ex->H' b=none
 there:∀b o,h.get? b=some o->b ∉ ex->∃o',h'.get? b=some o'
 mJ:∀b xs,H b=some (.tup xs)->H' b=some (.tup xs)
 l!:∀b o u,H b=some (.j5 o u)->H' b=some (.j5 o u)
 oq:∀b ps,H b=some (.v? ps)->∃more,H' b=some (.v? (ps++more))
section
variable{fs fs' ex ex':_d}{H H1 H2:Hp}{h1 h2:Heap}{a x e:_i}{o:HO}
theorem Un.any(u:Un fs ex H H1 h h1){b:_i}(q:h.get? b=some ob)(n:H b=none)(hx:b ∉ ex):∃sl,h1.get? b=some {ob with slots:=sl}:=by
 by_cases hb:b∈fs
 .exact u.slot b ob q n hb hx
 .exact⟨ob.slots,u.keep b ob q n hb hx⟩
theorem Un.kept(k:∀b u,h.get? b=some u->h'.get? b=some u):Un fs ex H H h h':=
 ⟨λb ob q _ _ _=>k b ob q,λb ob q _ _ _=>⟨ob.slots,k b ob q⟩,λ_ _ _ n _=>n,λb ob q _=>⟨ob,k b ob q⟩,λ_ _ q=>q,λ_ _ _ q=>q,λ_ ps q=>⟨#[],by rw[q];simp⟩⟩
theorem Un.refl:Un fs ex H H h h:=Un.kept λ_ _ q=>q
theorem Un.laid(k:∀b u,h.get? b=some u->h'.get? b=some u)(hp:h.objs.size<=a)(hn:H a=none):Un fs ex H (upd H a o) h h' where
 keep:=λb u q _ _ _=>k b u q
 slot:=λb u q _ _ _=>⟨u.slots,k b u q⟩
 free:=λb u q n _=>by rw[a7 (V0 (VO (VH q) hp))];exact n
 there:=λb u q _=>⟨u,k b u q⟩
 mJ:=λb xs q=>by rw[a7 (bq q hn)];exact q
 l!:=λb u xs q=>by rw[a7 (bq q hn)];exact q
 oq:=λb ps q=>⟨#[],by rw[a7 (bq q hn),q];simp⟩
theorem Un.write(mu:R5 (H x))(he:e=x\/H e=some (.own x))(k:∀b u,b≠e->h.get? b=some u->h'.get? b=some u)(Rq:∃u,h'.get? e=some u):Un fs ex H (upd H x o) h h':=by
 have hx:∀b,H b=none->b≠x:=λb n z=>by subst z;rw[n]at mu;exact mu
 have hb:∀b,H b=none->b≠e:=λb n z=>by
  subst z;rcases he with r|r
  .exact hx b n r
  .rw[n]at r;cases r
 have hm:∀b u,H b=some u->¬ R5 (some u)->b≠x:=λb u q nm z=>by subst z;rw[q]at mu;exact nm mu
 refine⟨λb u q n _ _=>k b u (hb b n) q,λb u q n _ _=>⟨u.slots,k b u (hb b n) q⟩,λb u q n _=>by rw[a7 (hx b n)];exact n,λb u q _=>?_,
  λb xs q=>by rw[a7 (hm b _ q λz=>z)];exact q,λb u xs q=>by rw[a7 (hm b _ q λz=>z)];exact q,λb ps q=>⟨#[],by rw[a7 (hm b _ q λz=>z),q];simp⟩⟩
 by_cases N3:b=e
 .subst N3;exact Rq
 .exact⟨u,k b u N3 q⟩
end
def zL(h:Heap)(H:Hp):_d:=(List.range h.objs.size).filter λa=>(H a).isSome
def wa(h:Heap)(H:Hp):Heap:=W.hideAll h (zL h H)
theorem Ez(h:Heap)(H:Hp):(wa h H).objs.size=h.objs.size:=W.hideAll_size _ _
theorem GG{H:Hp}{b:_i}{o:Obj}(e:h.get? b=some o)(n:H b=none):(wa h H).get? b=some o:=
 X0 _ e λhm=>by have q:(H b).isSome=true:=(X_.mp hm).2;rw[n]at q;simp at q
theorem Kl{H:Hp}{b:_i}{o:Obj}(e:(wa h H).get? b=some o):h.get? b=some o/\H b=none:=by
 have e':h.get? b=some o:=ZI (zL h H) e;refine⟨e',?_⟩;cases q:H b with
 |none=>rfl
 |some x=>
  have hm:b∈zL h H:=X_.mpr ⟨XH.mpr (VH e'),by simp[q]⟩;have z:(wa h H).get? b=none:=W.hideAll_none (zL h H) hm;rw[z]at e;cases e
structure Mod(K:Z')(mg:Z!)(base:Heap):Prop where
 MZ:K.In base
 glob:base.Ns mainGlobals mg
 blt:∃mb,base.Ns builtinsNs mb/\∀x:Str,x ≠ "__name__" -> mb x=bootBuiltins x
 nolimit:base.NoLimit
structure Cx where
 prog:_k
 w:World
 K:Z'
 mg:Str->_c
 base:Heap
 A:_j
 N:_e
 s₀:_h
 H₀:Hp
 env:Env
 outer:List Env
 stack:List Env
 ex:_d
 fn:Str->Bool
 calm:Bool
 pn:Z?
 xe:_g->_h->Prop
def iY(l:List Env):_d:=l.filterMap (·.frame)
abbrev Cx.fs(X:Cx):_d:=iY X.outer
def J7(sc:Scope)(x:Str):Prop:=sc.names.lookup x=some .local\/sc.names.lookup x=some .cell\/sc.names.lookup x=some .free
def Loc(sc:Scope)(x:Str):Prop:=sc.names.lookup x=some .local\/sc.names.lookup x=some .cell
def Look(env:Env)(h:Heap)(m:Z!)(x:Str)(u:_g):Prop:=
 (env.kindOf x=some .local/\m x=some u)\/((env.kindOf x=some .cell\/env.kindOf x=some .free)/\∃c,env.cells.lookup x=some c/\h.IsCell c (some u))
structure Cx.Ok(X:Cx):Prop where
 mod:Mod X.K X.mg X.base
 kind:X.env.scope.kind=.function
 glob:X.env.globals=mainGlobals
 blt:X.env.builtins=builtinsNs
 above:X.s₀.heap.objs.size<=X.env.locals
 inj:∀x y c,X.env.cells.lookup x=some c->X.env.cells.lookup y=some c->x=y
 has:∀x,(X.env.kindOf x=some .cell\/X.env.kindOf x=some .free)->∃c,X.env.cells.lookup x=some c
 M0:∀x c,X.fn x=true->X.env.cells.lookup x=some c->X.s₀.heap.objs.size<=c
 hd:X.calm=true->X.A.handled=none
 frames:X.A.frames=some X.stack
 J8:X.stack=X.outer\/(X.stack=X.env::X.outer/\X.env.frame=some X.env.locals)
 exf:∀b∈X.ex,b≠X.env.locals/\∀x c,X.env.cells.lookup x=some c->c≠b
 bs:∀b o,X.base.get? b=some o->X.s₀.heap.get? b=some o/\X.H₀ b=none
 Gu:X.base.objs.size<=X.s₀.heap.objs.size
 zM:∀b o,X.base.get? b=some o->b ∉ X.ex
 EA:∀b∈X.ex,b ∉ X.fs
 kq:X.s₀.heap.FunFrames X.base X.outer
 C1:∀b∈X.fs,X.H₀ b=none
structure aX(X:Cx)(ae:Z?)(σ:List (Option V))(H:Hp)(s:_h):Prop where
 ok:X.Ok
 os:s.os=X.s₀.os
 bare:AllBare s.gens
 base:Un X.fs X.ex X.H₀ H X.s₀.heap s.heap
 loc:∃m,s.heap.Ns X.env.locals m/\∀(i:Nat)(x:Str)(v:V),X.N[i]?=some x->σ[i]?=some (some v)->J7 X.env.scope x->∃u,bJ v u/\Look X.env s.heap m x u
 cell:∀x c,X.env.cells.lookup x=some c->∃v,s.heap.IsCell c v
 free:H X.env.locals=none
 iT:∀x c,X.env.cells.lookup x=some c->H c=none
 pin:∀p∈X.pn++ae,s.heap.get? p.1=some p.2/\H p.1=none/\p.1≠X.env.locals/\p.1 ∉ X.fs/\∀v,p.2.data≠.cell v
 cq:km X.prog X.w H s.heap
 len:σ.length=X.N.length
section
variable{X:Cx}{σ:List (Option V)}{H H':Hp}
theorem Cx.Ok.aag(ok:X.Ok){b:_i}{o:Obj}(e:X.base.get? b=some o):b ∉ X.fs:=λhb=>by have:=(ok.kq.mem hb).1;rw[e]at this;cases this
theorem aX.bs(I:aX X ae σ H s):∀b o,X.base.get? b=some o->s.heap.get? b=some o/\H b=none:=λb o e=>
 ⟨I.base.keep b o (I.ok.bs b o e).1 (I.ok.bs b o e).2 (I.ok.aag e) (I.ok.zM b o e),I.base.free b o (I.ok.bs b o e).1 (I.ok.bs b o e).2 (I.ok.zM b o e)⟩
theorem aX.bk(I:aX X ae σ H s):∀b o,X.base.get? b=some o->s.heap.get? b=some o:=λb o e=>(I.bs b o e).1
theorem aX.mod(I:aX X ae σ H s):Mod X.K X.mg X.base:=I.ok.mod
theorem aX.rY(I:aX X ae σ H s):X.K.In s.heap:=I.ok.mod.MZ.keeps I.bk
theorem aX.lt(I:aX X ae σ H s):X.env.locals<s.heap.objs.size:=let⟨_,hn,_⟩:=I.loc;hn.lt
theorem aX.sz(I:aX X ae σ H s):X.s₀.heap.objs.size<=s.heap.objs.size:=V? I.ok.above (YH I.lt)
theorem aX.aah(I:aX X ae σ H s){a:_i}(h:s.heap.objs.size<=a):a ∉ X.fs:=λhb=>by obtain⟨_,o,ho,_⟩:=I.ok.kq.mem hb;exact absurd (VO (VH ho) (V? I.sz h)) (Wf _)
theorem aX.J9(I:aX X ae σ H s):∀x c,X.env.cells.lookup x=some c->c≠X.env.locals:=λx c e z=>by obtain⟨v,o,ho,hd⟩:=I.cell x c e;obtain⟨m,⟨o',es,ep,tN,hd',_⟩,_⟩:=I.loc;rw[z,tN]at ho;cases ho;rw[hd']at hd;cases hd
theorem aX.kq(I:aX X ae σ H s):s.heap.FunFrames X.base X.outer:=by
 have all:∀(l:List Env),(∀b∈iY l,b∈X.fs)->X.s₀.heap.FunFrames X.base l->s.heap.FunFrames X.base l:=by
  intro l
  induction l with
  |nil=>intro _ _;trivial
  |cons env r ih=>
   intro hs hl;obtain⟨hk,⟨L,o,hf,hn,ho,hd⟩,hr⟩:=hl;have hL:L∈X.fs:=hs L (by unfold iY;rw[Yh,hf];exact VV);obtain⟨sl,e⟩:=I.base.slot L o ho (I.ok.C1 L hL) hL λz=>I.ok.EA L z hL;exact⟨hk,⟨L,_,hf,hn,e,hd⟩,ih (λb hb=>hs b (by unfold iY;rw[Yh,hf];exact VP _ hb)) hr⟩
 exact all X.outer (λ_ hb=>hb) I.ok.kq
theorem aX.stack(I:aX X ae σ H s):s.heap.FunFrames X.base X.stack:=by
 rcases I.ok.J8 with e|⟨e,hf⟩
 .rw[e];exact I.kq
 .rw[e];obtain⟨m,hn,_⟩:=I.loc;refine .cons (by rw[I.ok.kind];decide) hf hn ?_ I.kq;exact Heap.get?_none_of_le (V? I.ok.Gu I.ok.above)
theorem aX.qg(I:aX X ae σ H s):∀b∈iY X.stack,b∈X.env.locals::X.fs:=λb hb=>by
 rcases I.ok.J8 with e|⟨e,hf⟩
 .rw[e]at hb;exact VP _ hb
 .rw[e]at hb;unfold iY at hb;rw[Yh,hf]at hb;exact hb
theorem aX.xQ(I:aX X ae σ H s):∀b∈iY X.stack,H b=none:=λb hb=>by
 rcases V5.mp (I.qg b hb)with e|hb
 .rw[e];exact I.free
 .obtain⟨_,o,ho,_⟩:=I.ok.kq.mem hb;exact I.base.free b o ho (I.ok.C1 b hb) λz=>I.ok.EA b z hb
theorem aX.step{g':Array GenState}{t':Nat}{d':Drawn}(I:aX X ae σ H s)(J_:∀b∈ch,(b∈X.ex\/X.s₀.heap.objs.size<=b)/\b≠X.env.locals/\(∀x c,X.env.cells.lookup x=some c->c≠b)/\∀p∈X.pn++ae,p.1≠b)(keep:∀b o,b≠X.env.locals->b ∉ X.fs->b ∉ ch->s.heap.get? b=some o->H b=none->h'.get? b=some o)(slot:∀b o,b≠X.env.locals->b∈X.fs->b ∉ ch->s.heap.get? b=some o->H b=none->∃sl,h'.get? b=some {o with slots:=sl})(free:∀b o,b ∉ ch->s.heap.get? b=some o->H b=none->H' b=none)(there:∀b o,b ∉ ch->s.heap.get? b=some o->∃o',h'.get? b=some o')(mJ:∀b xs,H b=some (.tup xs)->H' b=some (.tup xs))(l!:∀b o u,H b=some (.j5 o u)->H' b=some (.j5 o u))(oq:∀b ps,H b=some (.v? ps)->∃more,H' b=some (.v? (ps++more)))(ns:∀m,s.heap.Ns X.env.locals m->h'.Ns X.env.locals m)(cq:km X.prog X.w H' h')(hg:AllBare g'):
  aX X ae σ H' {s with heap:=h',gens:=g',drawn:=d',toks:=t'}:=by
 have GH:∀b o,X.s₀.heap.get? b=some o->b≠X.env.locals:=λb o e=>V0 (VO (VH e) I.ok.above);have neC:∀b o,X.s₀.heap.get? b=some o->b ∉ X.ex->b ∉ ch:=λb o e hx hb=>by
  rcases(J_ b hb).1 with z|z
  .exact hx z
  .exact absurd (VO (VH e) z) (Wf _)
 have cellK:∀x c,X.env.cells.lookup x=some c->∀v,s.heap.IsCell c v->h'.IsCell c v:=λx c e v⟨o,ho,hd⟩=>by
  have R7:c ∉ ch:=λz=>(J_ c z).2.2.1 x c e rfl;by_cases hc:c∈X.fs
  .obtain⟨sl,q⟩:=slot c o (I.J9 x c e) hc R7 ho (I.iT x c e);exact⟨_,q,hd⟩
  .exact⟨o,keep c o (I.J9 x c e) hc R7 ho (I.iT x c e),hd⟩
 refine⟨I.ok,I.os,hg,⟨λb o e n hb hx=>?_,λb o e n hb hx=>?_,λb o e n hx=>?_,λb o e hx=>?_,λb xs e=>mJ b xs (I.base.mJ b xs e),λb o xs e=>l! b o xs (I.base.l! b o xs e),λb ps e=>?_⟩,?_,λx c e=>?_,?_,λx c e=>?_,λp hp=>?_,cq,I.len⟩
 .exact keep b o (GH b o e) hb (neC b o e hx) (I.base.keep b o e n hb hx) (I.base.free b o e n hx)
 .obtain⟨sl,e1⟩:=I.base.slot b o e n hb hx;obtain⟨M3,e2⟩:=slot b _ (GH b o e) hb (neC b o e hx) e1 (I.base.free b o e n hx);exact⟨M3,e2⟩
 .obtain⟨o',e1⟩:=I.base.there b o e hx;exact free b o' (neC b o e hx) e1 (I.base.free b o e n hx)
 .obtain⟨o',e1⟩:=I.base.there b o e hx;exact there b o' (neC b o e hx) e1
 .obtain⟨m1,e1⟩:=I.base.oq b ps e;obtain⟨m2,e2⟩:=oq b _ e1;exact⟨m1++m2,by rw[e2,Array.append_assoc]⟩
 .obtain⟨m,hn,hl⟩:=I.loc;refine⟨m,ns m hn,λi x v e1 e2 e3=>?_⟩;obtain⟨u,r,l⟩:=hl i x v e1 e2 e3;refine⟨u,r,?_⟩;rcases l with l|⟨k,c,e,z⟩
  .exact .inl l
  .exact .inr ⟨k,c,e,cellK x c e _ z⟩
 .obtain⟨v,z⟩:=I.cell x c e;exact⟨v,cellK x c e v z⟩
 .obtain⟨m,⟨o,_,_,ho,_⟩,_⟩:=I.loc;exact free _ o (λz=>(J_ _ z).2.1 rfl) ho I.free
 .obtain⟨v,o,ho,hd⟩:=I.cell x c e;exact free c o (λz=>(J_ c z).2.2.1 x c e rfl) ho (I.iT x c e)
 .obtain⟨e,n,ne,nf,d⟩:=I.pin p hp;have R7:p.1 ∉ ch:=λz=>(J_ p.1 z).2.2.2 p hp rfl;exact⟨keep p.1 p.2 ne nf R7 e n,free p.1 p.2 R7 e n,ne,nf,d⟩
theorem aX.un{t':Nat}(I:aX X ae σ H s)(u:Un X.fs [] H H' s.heap h')(cq:km X.prog X.w H' h'):aX X ae σ H' {s with heap:=h',toks:=t'}:=by
 obtain⟨m,⟨o,es,ep,ho,r⟩,_⟩:=id I.loc;obtain⟨sl,hL⟩:=u.any ho I.free (by simp);exact I.step (g':=s.gens) (d':=s.drawn) (ch:=[]) (λ_ z=>nomatch z) (λb o _ hb _ e n=>u.keep b o e n hb (by simp)) (λb o _ hb _ e n=>u.slot b o e n hb (by simp)) (λb o _ e n=>u.free b o e n (by simp)) (λb o _ e=>u.there b o e (by simp)) u.mJ u.l! u.oq (λm' hm=>by
  obtain⟨o',pf,ep',tN,r'⟩:=hm;rw[ho]at tN;cases tN;exact⟨_,pf,ep',hL,r'⟩) cq I.bare
theorem aX.call{g':Array GenState}{t':Nat}{d':Drawn}(I:aX X ae σ H s)(u:Un (iY X.stack) ch H H' s.heap h')(cq:km X.prog X.w H' h')(hg:AllBare g')(J_:∀b∈ch,(b∈X.ex\/X.s₀.heap.objs.size<=b)/\b≠X.env.locals/\(∀x c,X.env.cells.lookup x=some c->c≠b)/\∀p∈X.pn++ae,p.1≠b):
  aX X ae σ H' {s with heap:=h',gens:=g',drawn:=d',toks:=t'}:=by
 obtain⟨m,⟨o,es,ep,ho,r⟩,_⟩:=id I.loc;obtain⟨sl,hL⟩:=u.any ho I.free λz=>(J_ _ z).2.1 rfl;exact I.step (ch:=ch) J_ (λb o hL hb hc e n=>u.keep b o e n (λz=>(V5.mp (I.qg b z)).elim hL hb) hc) (λb o _ _ hc e n=>u.any e n hc) (λb o hc e n=>u.free b o e n hc) (λb o hc e=>u.there b o e hc) u.mJ u.l! u.oq (λm' hm=>by
  obtain⟨o',pf,ep',tN,r'⟩:=hm;rw[ho]at tN;cases tN;exact⟨_,pf,ep',hL,r'⟩) cq hg
theorem aX.turned{t':Nat}{it:_i}(I:aX X ae σ H s)(k:∀b o,b≠it->s.heap.get? b=some o->h'.get? b=some o)(hn:H it=none)(hL:it≠X.env.locals)(h1:it∈X.ex\/X.s₀.heap.objs.size<=it)(h2:∀x c,X.env.cells.lookup x=some c->c≠it)(h3:∀p∈X.pn++ae,p.1≠it):aX X ae σ H {s with heap:=h',toks:=t'}:=by
 have nit:∀b u,H b=some u->b≠it:=λb u e z=>by rw[z,hn]at e;cases e
 refine I.step (g':=s.gens) (d':=s.drawn) (ch:=[it]) (λb hb=>?_) (λb o _ _ hc e _=>k b o (λz=>hc (by simp[z])) e) (λb o _ _ hc e _=>⟨o.slots,k b o (λz=>hc (by simp[z])) e⟩) (λ_ _ _ _ n=>n)
  (λb o hc e=>⟨o,k b o (λz=>hc (by simp[z])) e⟩) (λ_ _ e=>e) (λ_ _ _ e=>e) (λb ps e=>⟨#[],by rw[e];simp⟩) (λm hm=>?_) (λb u e=>?_) I.bare
 .have e:b=it:=by simpa using hb
  subst e;exact⟨h1,hL,h2,h3⟩
 .obtain⟨o,es,ep,ho,r⟩:=hm;exact⟨o,es,ep,k _ o (W? hL) ho,r⟩
 .refine(I.cq b u e).pv (λc v hc q=>k c v ?_ q) (λ_ q=>q) λ_ _ q=>q;rcases hc with z|z
  .rw[z];exact nit b u e
  .exact nit c _ z
theorem aX.tok(I:aX X ae σ H s)(t:Nat):aX X ae σ H {s with toks:=t}:=I.un (h':=s.heap) (t':=t) Un.refl I.cq
theorem aX.kept{t':Nat}(I:aX X ae σ H s)(k:∀b u,s.heap.get? b=some u->h'.get? b=some u):aX X ae σ H {s with heap:=h',toks:=t'}:=I.un (Un.kept k) (I.cq.kept k)
theorem aX.laid{a:_i}{o:HO}{t':Nat}(I:aX X ae σ H s)(k:∀b u,s.heap.get? b=some u->h'.get? b=some u)(hp:s.heap.objs.size<=a)(new:cY X.prog X.w (upd H a o) h' a o):
  aX X ae σ (upd H a o) {s with heap:=h',toks:=t'}:=I.un (Un.laid k hp (I.cq.fresh hp)) (I.cq.laid k hp new)
theorem aX.write{x e:_i}{o:HO}{t':Nat}(I:aX X ae σ H s)(mu:R5 (H x))(he:e=x\/H e=some (.own x))(k:∀b u,b≠e->s.heap.get? b=some u->h'.get? b=some u)(Rq:∃u,h'.get? e=some u)(new:cY X.prog X.w (upd H x o) h' x o):aX X ae σ (upd H x o) {s with heap:=h',toks:=t'}:=I.un (Un.write mu he k Rq) (I.cq.write mu he k Rq new)
theorem aX.px{M4:Z?}(I:aX X ae σ H s)(h:∀p∈M4,s.heap.get? p.1=some p.2/\H p.1=none/\p.1≠X.env.locals/\p.1 ∉ X.fs/\∀v,p.2.data≠.cell v):aX X M4 σ H s:=
 ⟨I.ok,I.os,I.bare,I.base,I.loc,I.cell,I.free,I.iT,λp hp=>(VX.mp hp).elim (λz=>I.pin p (WB _ z)) (h p),I.cq,I.len⟩
theorem ui{N:_e}(hN:N.Nodup){x:Str}(a:N[i]?=some x)(b:N[j]?=some x):i=j:=by obtain⟨h1,e1⟩:=V!.mp a;obtain⟨h2,e2⟩:=V!.mp b;exact(Zr hN).mp (e1.trans e2.symm)
theorem qh{M:Model}{A:_j}{E:Z_}{x:Str}{v:V}{u:_g}{Q:Unit->_h->Prop}(I:aX X ae σ H s)(hN:X.N.Nodup)(hi:X.N[i]?=some x)(hx:Loc X.env.scope x)(r:bJ v u)(h:∀s',aX X ae (σ.set i (some v)) H s'->(∃a,Heap.SameBut a s.heap s'.heap/\(a=X.env.locals\/X.env.cells.lookup x=some a))->Q () s')(hf:X.fn x=true\/X.env.scope.names.lookup x=some .local:=by first|exact .inl rfl|exact .inr rfl|assumption):wpAny M A (storeName X.env x u) Q E s:=by
 obtain⟨m,hn,hl⟩:=id I.loc;have GI:(X.env.scope.kind == .class || (X.env.scope.kind == .module&&X.env.locals !=X.env.globals))=false:=by rw[I.ok.kind];rfl
 have R8:i<σ.length:=by rw[I.len];exact(V!.mp hi).1
 have J9:=I.J9;have tracked:∀{a:_i}{h':Heap},(∃o,s.heap.get? a=some o/\H a=none)->Heap.SameBut a s.heap h'->km X.prog X.w H h':=λ{a h'}ha hs b ob e=>by
  obtain⟨_,_,C2⟩:=ha;refine(I.cq b ob e).pv (λc w' hc q=>(hs.2 c ?_).trans q) (λ_ q=>q) λ_ _ q=>q;rintro rfl;rcases hc with rfl|hc
  .rw[C2]at e;cases e
  .rw[C2]at hc;cases hc
 rcases hx with hk|hk
 .refine wpAny_storeName_local hk hn (λh' Km hs=>?_) GI;obtain⟨oL,_,_,M5,_⟩:=id hn;refine h _ ⟨I.ok,I.os,I.bare,⟨λb o e n hb hx=>?_,λb o e n hb hx=>?_,I.base.free,λb o e hx=>?_,I.base.mJ,I.base.l!,I.base.oq⟩,⟨_,Km,λj y v' e1 e2 e3=>?_⟩,λy c e=>?_,I.free,I.iT,λp hp=>?_,tracked ⟨oL,M5,I.free⟩ hs,by simpa using I.len⟩ ⟨_,hs,.inl rfl⟩
  .exact(hs.2 b (V0 (VO (VH e) I.ok.above))).trans (I.base.keep b o e n hb hx)
  .obtain⟨sl,e1⟩:=I.base.slot b o e n hb hx;exact⟨sl,(hs.2 b (V0 (VO (VH e) I.ok.above))).trans e1⟩
  .obtain⟨o',e1⟩:=I.base.there b o e hx;exact⟨o',(hs.2 b (V0 (VO (VH e) I.ok.above))).trans e1⟩
  .by_cases hj:j=i
   .subst hj;rw[hi]at e1;cases e1;rw[Wk R8]at e2;cases e2;exact⟨u,r,.inl ⟨hk,by simp⟩⟩
   .rw[WT (W? hj)]at e2;obtain⟨u',r',q⟩:=hl j y v' e1 e2 e3;refine⟨u',r',?_⟩;rcases q with⟨k,e⟩|⟨k,c,e,z⟩
    .refine .inl ⟨k,?_⟩;have:y≠x:=λe=>hj (ui hN e1 (e▸hi));simp[this,e]
    .exact .inr ⟨k,c,e,z.sameBut hs (J9 y c e)⟩
  .obtain⟨w',z⟩:=I.cell y c e;exact⟨w',z.sameBut hs (J9 y c e)⟩
  .obtain⟨e,n,ne,nf,d⟩:=I.pin p hp;exact⟨(hs.2 p.1 ne).trans e,n,ne,nf,d⟩
 .have GJ:X.fn x=true:=by
   rcases hf with z|z
   .exact z
   .rw[z]at hk;cases hk
  obtain⟨c,hc⟩:=I.ok.has x (.inl hk);obtain⟨w',z⟩:=I.cell x c hc;refine wpAny_storeName_cell I.ok.kind hk hc z (λh' d7 hs=>?_);obtain⟨oc,R9,aai⟩:=id z;refine h {s with heap:=h'} ⟨I.ok,I.os,I.bare,⟨λb o e n hb hx=>?_,λb o e n hb hx=>?_,I.base.free,λb o e hx=>?_,I.base.mJ,I.base.l!,I.base.oq⟩,⟨m,hn.sameBut hs (W? (J9 x c hc)),λj y v' e1 e2 e3=>?_⟩,λy c' e=>?_,I.free,I.iT,λp hp=>?_,tracked ⟨oc,R9,I.iT x c hc⟩ hs,by simpa using I.len⟩ ⟨c,hs,.inr hc⟩
  .exact(hs.2 b (V0 (VO (VH e) (I.ok.M0 x c GJ hc)))).trans (I.base.keep b o e n hb hx)
  .obtain⟨sl,e1⟩:=I.base.slot b o e n hb hx;exact⟨sl,(hs.2 b (V0 (VO (VH e) (I.ok.M0 x c GJ hc)))).trans e1⟩
  .obtain⟨o',e1⟩:=I.base.there b o e hx;exact⟨o',(hs.2 b (V0 (VO (VH e) (I.ok.M0 x c GJ hc)))).trans e1⟩
  .by_cases hj:j=i
   .subst hj;rw[hi]at e1;cases e1;rw[Wk R8]at e2;cases e2;exact⟨u,r,.inr ⟨.inl hk,c,hc,d7⟩⟩
   .rw[WT (W? hj)]at e2;obtain⟨u',r',q⟩:=hl j y v' e1 e2 e3;refine⟨u',r',?_⟩;rcases q with q|⟨k,c',e,z'⟩
    .exact .inl q
    .refine .inr ⟨k,c',e,z'.sameBut hs ?_⟩;rintro rfl;exact hj (ui hN e1 (I.ok.inj _ _ _ e hc▸hi))
  .by_cases hcc:c'=c
   .subst hcc;exact⟨_,d7⟩
   .obtain⟨w2,z2⟩:=I.cell y c' e;exact⟨w2,z2.sameBut hs hcc⟩
  .obtain⟨e,n,ne,nf,d⟩:=I.pin p hp;refine⟨(hs.2 p.1 ?_).trans e,n,ne,nf,d⟩;intro q;rw[q,R9]at e;have q':oc=p.2:=VR e;exact d w' (by rw[<-q'];exact aai)
theorem pz{M:Model}{A:_j}{E:Z_}{x:Str}{v:V}{u:_g}{Q:Unit->_h->Prop}(I:aX X ae σ H s)(hN:X.N.Nodup)(hi:X.N[i]?=some x)(hx:Loc X.env.scope x)(r:bJ v u)(h:∀s',aX X ae (σ.set i (some v)) H s'->Q () s')(hf:X.fn x=true\/X.env.scope.names.lookup x=some .local:=by first|exact .inl rfl|exact .inr rfl|assumption):wpAny M A (storeName X.env x u) Q E s:=
 qh I hN hi hx r (λs' I' _=>h s' I') hf
theorem aX.zN{s':_h}(I:aX X ae σ H s)(ho:s'.os=s.os)(u:Un (iY X.stack) ch H H' s.heap s'.heap)(cq:km X.prog X.w H' s'.heap)(hg:AllBare s'.gens)(J_:∀b∈ch,(b∈X.ex\/X.s₀.heap.objs.size<=b)/\b≠X.env.locals/\(∀x c,X.env.cells.lookup x=some c->c≠b)/\∀p∈X.pn++ae,p.1≠b):aX X ae σ H' s':=by obtain⟨h',g',d',t',o'⟩:=s';have e:o'=s.os:=ho;subst e;exact I.call (g':=g') (t':=t') (d':=d') u cq hg J_
end
abbrev XK:=_g->Option _i->Hp->Prop
abbrev St:=List (Option V)
abbrev VK:=V->Hp->Prop
abbrev TE:=St->Hp->VK->Prop
abbrev TT:=St->Hp->(Bool->Hp->Prop)->Prop
abbrev TA:=St->Hp->(List V->Hp->Prop)->Prop
structure Ends where
 nx:St->Hp->Prop
 rt:VK
 bk:St->Hp->Prop:=λ_ _=>False
 ct:St->Hp->Prop:=λ_ _=>False
abbrev TS:=Ends->St->Hp->Prop
def EP(X:Cx)(ae:Z?)(σ:St)(Q:VK)(u:_g)(s':_h):Prop:=∃v H',aX X ae σ H' s'/\bJ v u/\Q v H'
def TP(X:Cx)(ae:Z?)(σ:St)(Q:Bool->Hp->Prop)(b:Bool)(s':_h):Prop:=∃H',aX X ae σ H' s'/\Q b H'
def AP(X:Cx)(ae:Z?)(σ:St)(Q:List V->Hp->Prop)(us:_b)(s':_h):Prop:=∃vs H',aX X ae σ H' s'/\bo vs us/\Q vs H'
def SP(X:Cx)(ae:Z?)(D:Ends)(f:Flow)(s':_h):Prop:=
 match f with
 |.next=>∃σ' H',aX X ae σ' H' s'/\D.nx σ' H'
 |.brk=>∃σ' H',aX X ae σ' H' s'/\D.bk σ' H'
 |.cont=>∃σ' H',aX X ae σ' H' s'/\D.ct σ' H'
 |.ret u=>∃v σ' H',aX X ae σ' H' s'/\bJ v u/\D.rt v H'
def PE(X:Cx)(e:Expr)(t:TE):Prop:=
 ∀(ae:Z?)(s:_h)(σ:St)(H:Hp)(Q:VK),aX X ae σ H s->t σ H Q->wpAny (model X.prog X.w) X.A (eval e X.env) (EP X ae σ Q) X.xe s
def PT(X:Cx)(e:Expr)(t:TT):Prop:=
 ∀(ae:Z?)(s:_h)(σ:St)(H:Hp)(Q:Bool->Hp->Prop),aX X ae σ H s->t σ H Q->wpAny (model X.prog X.w) X.A (isTrue e X.env (eval e X.env)) (TP X ae σ Q) X.xe s
def PW(X:Cx)(e:Expr)(t:TT):Prop:=
 ∀(whole:Sem _g)(ae:Z?)(s:_h)(σ:St)(H:Hp)(Q:Bool->Hp->Prop),aX X ae σ H s->t σ H Q->wpAny (model X.prog X.w) X.A (isTrue e X.env whole) (TP X ae σ Q) X.xe s
theorem PW.pt{X:Cx}{t:TT}(h:PW X e t):PT X e t:=h _
def PA(X:Cx)(es:List Expr)(t:TA):Prop:=
 ∀(pos:Pos)(ae:Z?)(s:_h)(σ:St)(H:Hp)(Q:List V->Hp->Prop),aX X ae σ H s->t σ H Q->wpAny (model X.prog X.w) X.A (spliced (backTo pos (starEach es X.env))) (AP X ae σ Q) X.xe s
def PS(X:Cx)(st:Stmt)(t:TS):Prop:=
 ∀(ae:Z?)(s:_h)(σ:St)(H:Hp)(D:Ends),aX X ae σ H s->t D σ H->wpAny (model X.prog X.w) X.A (exec st X.env) (SP X ae D) X.xe s
def l?(X:Cx)(st:List Stmt)(t:TS):Prop:=
 ∀(ae:Z?)(s:_h)(σ:St)(H:Hp)(D:Ends),aX X ae σ H s->t D σ H->wpAny (model X.prog X.w) X.A (execs st X.env) (SP X ae D) X.xe s
theorem dR{t:Sem α}{Q Q':α->_h->Prop}{M:Model}{A:_j}{E:Z_}(h:wpAny M A t Q E s)(hQ:∀a s,Q a s->Q' a s):wpAny M A t Q' E s:=Wm h hQ λ_ _ x=>x
section
variable{X:Cx}
def aaj(i:Nat):TE:=λσ H Q=>∃v,σ[i]?=some (some v)/\Q v H
def tC(v:V):TE:=λ_ H Q=>Q v H
theorem xR{x:Str}(hN:X.N[i]?=some x)(hv:J7 X.env.scope x)(hd:(x==("__debug__":Str))=false:=by decide)(qi:(x==("__classdict__":Str))=false:=by decide):PE X (.Name x pos) (aaj i):=by
 intro ae s σ H Q I h;obtain⟨v,e,h⟩:=h;obtain⟨m,hn,hl⟩:=I.loc;obtain⟨u,r,l⟩:=hl i x v hN e hv;have fin:EP X ae σ Q u s:=⟨v,H,I,r,h⟩
 rcases l with⟨hk,hm⟩|⟨hk,c,hc,C4⟩
 .exact wpAny_Name (wpAny_loadName_local I.ok.kind hk hn hm fin) hd
 .rcases hk with hk|hk
  .exact wpAny_Name (wpAny_loadName_cell I.ok.kind hk hc C4 fin) hd
  .exact wpAny_Name (wpAny_loadName_free I.ok.kind hk hc C4 fin qi) hd
theorem N4{i j pos}:PE X (.Constant (.int i) j pos) (tC (.int i)):=λ_ _ _ H _ I h=>wpAny_Constant_int ⟨.int i,H,I.tok _,⟨_,rfl⟩,h⟩
theorem R_{b j pos}:PE X (.Constant (.bool b) j pos) (tC (.bl b)):=λ_ _ _ H _ I h=>Constant_bool ⟨.bl b,H,I,rfl,h⟩
theorem N5{j pos}:PE X (.Constant .none j pos) (tC .cH):=λ_ _ _ H _ I h=>Constant_none ⟨.cH,H,I,rfl,h⟩
theorem N6{x j pos}:PE X (.Constant (.str x) j pos) (tC (.str x)):=λ_ _ _ H _ I h=>Calls.Constant_str ⟨.str x,H,I.tok _,⟨_,rfl⟩,h⟩
def Gl(X:Cx)(x:Str):Prop:=X.env.kindOf x=some .globalImplicit
theorem nM{E:Z_}{σ:St}{H:Hp}{x:Str}{u:_g}{Q:Z_}(I:aX X ae σ H s)(hg:Gl X x)(hm:X.mg x=some u)(h:Q u s)(hd:(x==("__debug__":Str))=false:=by decide):wpAny (model X.prog X.w) X.A (eval (.Name x pos) X.env) Q E s:=
 ZA I.ok.kind hg (Calls.loadGlobal_global (by rw[I.ok.glob];exact I.mod.glob.keeps I.bk) hm h) hd
theorem kr{E:Z_}{σ:St}{H:Hp}{x:Str}{u:_g}{Q:Z_}(I:aX X ae σ H s)(hg:Gl X x)(hm:X.mg x=none)(hv:bootBuiltins x=some u)(h:Q u s)(hn:x ≠ "__name__":=by decide)(hd:(x==("__debug__":Str))=false:=by decide):wpAny (model X.prog X.w) X.A (eval (.Name x pos) X.env) Q E s:=by obtain⟨mb,h1,h2⟩:=I.mod.blt;exact ZA I.ok.kind hg (Calls.loadGlobal_builtin (by rw[I.ok.glob];exact I.mod.glob.keeps I.bk) hm (by rw[I.ok.blt];exact h1.keeps I.bk) ((h2 x hn).trans hv) h) hd
theorem xS{x:Str}{v:V}{u:_g}(hg:Gl X x)(hm:X.mg x=some u)(r:bJ v u)(hd:(x==("__debug__":Str))=false:=by decide):PE X (.Name x pos) (tC v):=
 λ_ _ _ H _ I h=>nM I hg hm ⟨v,H,I,r,h⟩ hd
theorem C5{x:Str}{v:V}{u:_g}(hg:Gl X x)(hm:X.mg x=none)(hv:bootBuiltins x=some u)(r:bJ v u)(hn:x ≠ "__name__":=by decide)(hd:(x==("__debug__":Str))=false:=by decide):PE X (.Name x pos) (tC v):=
 λ_ _ _ H _ I h=>kr I hg hm hv ⟨v,H,I,r,h⟩ hn hd
variable{a b:Expr}{ta tb:TE}
def PC(X:Cx)(op:CmpOp)(a b:Expr)(t:TE):Prop:=
 ∀(ae:Z?)(s:_h)(σ:St)(H:Hp)(Q:VK),aX X ae σ H s->t σ H Q ->
  wpAny (model X.prog X.w) X.A (eval a X.env) (λv s₁=>wpAny (model X.prog X.w) X.A (eval b X.env) (λu s₂=>wpAny (model X.prog X.w) X.A (compareOp op v u) (EP X ae σ Q) X.xe s₂) X.xe s₁) X.xe s
def tB(t:TE):TT:=λσ H Q=>t σ H λx H1=>∃c,x=.bl c/\Q c H1
theorem N7{t:TE}(h:PE X e t)(he:∀whole,isTrue e X.env whole=(do let v <- whole;standAt e.pos;holding [v] (truthy v)):=by intro _;rfl):PT X e (tB t):=by intro ae s σ H Q I hw;refine isTrue_plain (dR (h ae s σ H _ I hw) λv s1⟨x,H1,I1,r1,q1⟩=>?_) (he _);obtain⟨d,rfl,q⟩:=q1;cases r1;exact Xr ⟨H1,I1,q⟩
variable{tA Kn:TT}
def aak(t u:TT):TT:=λσ H Q=>t σ H λc H1=>if c=true then u σ H1 Q else Q false H1
def tOr(t u:TT):TT:=λσ H Q=>t σ H λc H1=>if c=true then Q true H1 else u σ H1 Q
def aal(t:TT):TT:=λσ H Q=>t σ H λc H1=>Q (!c) H1
theorem Ko(ha:PT X a tA):PW X (.BoolOp .And [a] pos) tA:=by
 intro wh ae s σ H Q I h;refine isTrue_and (dR (ha ae s σ H Q I h) λc s1 e=>?_);cases c with
 |true=>exact isTrue_and_nil e
 |false=>exact e
theorem N8(ha:PT X a tA):PW X (.BoolOp .Or [a] pos) tA:=by
 intro wh ae s σ H Q I h;refine isTrue_or (dR (ha ae s σ H Q I h) λc s1 e=>?_);cases c with
 |false=>exact isTrue_or_nil e
 |true=>exact e
theorem N9(ha:PT X a tA)(hb:PW X (.BoolOp .And (b::rest) pos) Kn):PW X (.BoolOp .And (a::b::rest) pos) (aak tA Kn):=by
 intro wh ae s σ H Q I h;refine isTrue_and (dR (ha ae s σ H _ I h) λc s1⟨H1,I1,q1⟩=>?_);cases c with
 |true=>exact hb wh ae s1 σ H1 Q I1 q1
 |false=>exact⟨H1,I1,q1⟩
theorem R!(ha:PT X a tA)(hb:PW X (.BoolOp .Or (b::rest) pos) Kn):PW X (.BoolOp .Or (a::b::rest) pos) (tOr tA Kn):=by
 intro wh ae s σ H Q I h;refine isTrue_or (dR (ha ae s σ H _ I h) λc s1⟨H1,I1,q1⟩=>?_);cases c with
 |true=>exact⟨H1,I1,q1⟩
 |false=>exact hb wh ae s1 σ H1 Q I1 q1
theorem N_(ha:PT X a tA):PT X (.UnaryOp .Not a pos) (aal tA):=by intro ae s σ H Q I h;exact isTrue_not (ha ae s σ H (λc H1=>Q (!c) H1) I h)
def R?(ta tb:TE):TE:=λσ H Q=>ta σ H λx H1=>∃c,x=.bl c/\if c=true then tb σ H1 Q else Q (.bl false) H1
def aam(ta tb:TE):TE:=λσ H Q=>ta σ H λx H1=>∃c,x=.bl c/\if c=true then Q (.bl true) H1 else tb σ H1 Q
def Sa(ta:TE):TE:=λσ H Q=>ta σ H λx H1=>∃c,x=.bl c/\Q (.bl (!c)) H1
theorem N!{op}{t:TE}(h:PE X a t):PE X (.BoolOp op [a] pos) t:=λae s σ H Q I hw=>BoolOp_one (h ae s σ H Q I hw)
theorem N?(ha:PE X a ta)(hb:PE X (.BoolOp .And (b::rest) pos) tb):PE X (.BoolOp .And (a::b::rest) pos) (R? ta tb):=by
 intro ae s σ H Q I h;refine BoolOp_and (dR (ha ae s σ H _ I h) λv s1⟨x,H1,I1,r1,q1⟩=>?_);obtain⟨c,rfl,q1⟩:=q1;cases r1;refine Xr ?_;cases c with
 |true=>exact hb ae s1 σ H1 Q I1 q1
 |false=>exact⟨.bl false,H1,I1,rfl,q1⟩
theorem Sb(ha:PE X a ta)(hb:PE X (.BoolOp .Or (b::rest) pos) tb):PE X (.BoolOp .Or (a::b::rest) pos) (aam ta tb):=by
 intro ae s σ H Q I h;refine BoolOp_or (dR (ha ae s σ H _ I h) λv s1⟨x,H1,I1,r1,q1⟩=>?_);obtain⟨c,rfl,q1⟩:=q1;cases r1;refine Xr ?_;cases c with
 |false=>exact hb ae s1 σ H1 Q I1 q1
 |true=>exact⟨.bl true,H1,I1,rfl,q1⟩
theorem N'(ha:PE X a ta):PE X (.UnaryOp .Not a pos) (Sa ta):=by intro ae s σ H Q I h;refine UnaryOp_ (dR (ha ae s σ H _ I h) λv s1⟨x,H1,I1,r1,q1⟩=>?_);obtain⟨c,rfl,q1⟩:=q1;cases r1;exact not_of (Xr ⟨.bl (!c),H1,I1,rfl,q1⟩)
def tIf(t:TT)(ta tb:TE):TE:=λσ H Q=>t σ H λc H1=>if c=true then ta σ H1 Q else tb σ H1 Q
theorem GK{c:Expr}(hc:PT X c tA)(ha:PE X a ta)(hb:PE X b tb):PE X (.IfExp c a b pos) (tIf tA ta tb):=by
 intro ae s σ H Q I h;refine wpAny_IfExp (dR (hc ae s σ H _ I h) λd s1⟨H1,I1,q1⟩=>?_);cases d with
 |true=>exact ha ae s1 σ H1 Q I1 q1
 |false=>exact hb ae s1 σ H1 Q I1 q1
end
def nN(K:Z')(H:Hp)(a:_i)(xs:List V):Prop:=
 Rd H a (.lst xs) \/
  ∃(o:Obj)(aP:Array _g)(n:Nat),K.lookup a=some o/\o.cls=.type "list" /\ o.dict=none/\o.data=.seq aP n/\aP.size<=sizeLine/\bo xs aP.toList
def oC(K:Z')(H:Hp)(a:_i)(xs:List V):Prop:=
 Rd H a (.tup xs) \/
  ∃(o:Obj)(aP:Array _g)(n:Nat),K.lookup a=some o/\o.cls=.type "tuple" /\ o.data=.seq aP n/\aP.size<=sizeLine/\bo xs aP.toList
def aan:_g->Option V
 |.none=>some .cH
 |.bool b=>some (.bl b)
 |.int i _=>some (.int i)
 |.str x _=>some (.str x)
 |.bytes b _=>some (.byt b)
 |.float b _=>some (.tM b)
 |.ref a=>some (.ref a)
 |.type n=>some (.ty n)
 |_=>none
theorem bJ.abs{x:V}{u:_g}(r:bJ x u):aan u=some x:=by
 cases x with
 |cH=>cases r;rfl
 |bl _=>cases r;rfl
 |int _=>obtain⟨t,rfl⟩:=r;rfl
 |str _=>obtain⟨t,rfl⟩:=r;rfl
 |byt _=>obtain⟨t,rfl⟩:=r;rfl
 |tM _=>obtain⟨t,rfl⟩:=r;rfl
 |ref _=>cases r;rfl
 |ty _=>cases r;rfl
theorem bJ.inj{x y:V}{u:_g}(r:bJ x u)(q:bJ y u):x=y:=VR (r.abs.symm.trans q.abs)
theorem bo.inj{xs ys:List V}{us:_b}(p:bo xs us)(q:bo ys us):xs=ys:=by
 induction p generalizing ys with
 |nil=>cases q;rfl
 |cons r t ih=>
  cases q with
  |cons r' t'=>rw[r.inj r',ih t']
section
variable{X:Cx}{σ:St}{H:Hp}{a:_i}{xs ys:List V}
theorem nN.of{K:Z'}(h:H a=some (.lst xs)):nN K H a xs:=.inl (.inl h)
theorem oC.of{K:Z'}(h:H a=some (.tup xs)):oC K H a xs:=.inl (.inl h)
theorem aX.list(I:aX X ae σ H s)(h:nN X.K H a xs):∃aP:_b,bo xs aP/\PlainL s.heap a aP.toArray/\xs.length<=sizeLine:=by
 rcases h with h|⟨o,aP,n,hk,hc,hd,hs,hz,r⟩
 .obtain⟨z,aP,n,r,e⟩:=h.ok I.cq;exact⟨aP,r,⟨_,n,e,rfl,rfl,rfl⟩,z⟩
 .refine⟨aP.toList,r,⟨o,n,I.rY a o hk,hc,hd,by simpa using hs⟩,?_⟩;have e:=r.length;simp only[V2]at e;lia
theorem aX.tuple(I:aX X ae σ H s)(h:oC X.K H a xs):∃aP:_b,bo xs aP/\IsTup s.heap a aP.toArray/\xs.length<=sizeLine:=by
 rcases h with h|⟨o,aP,n,hk,hc,hs,hz,r⟩
 .obtain⟨z,aP,r,p⟩:=h.ok I.cq;exact⟨aP,r,p,z⟩
 .refine⟨aP.toList,r,⟨o,I.rY a o hk,hc,n,by simpa using hs⟩,?_⟩;have e:=r.length;simp only[V2]at e;lia
theorem aX.pA(I:aX X ae σ H s)(h:nN X.K H a xs)(h':nN X.K H a ys):xs=ys:=by
 obtain⟨aP,r,⟨o,n,e,_,_,d⟩,_⟩:=I.list h;obtain⟨its',r',⟨o',n',e',_,_,d'⟩,_⟩:=I.list h';rw[e]at e';cases e';rw[d]at d';injection d' with d1 _;have:aP=its':=by simpa using X5 Array.toList d1
 subst this;exact r.inj r'
theorem aX.qj(I:aX X ae σ H s)(h:oC X.K H a xs)(h':oC X.K H a ys):xs=ys:=by
 obtain⟨aP,r,⟨o,e,_,n,d⟩,_⟩:=I.tuple h;obtain⟨its',r',⟨o',e',_,n',d'⟩,_⟩:=I.tuple h';rw[e]at e';cases e';rw[d]at d';injection d' with d1 _;have:aP=its':=by simpa using X5 Array.toList d1
 subst this;exact r.inj r'
end
abbrev Cx.pB(X:Cx)(E:Z_):Cx:={X with xe:=E}
theorem Cx.Ok.pB{X:Cx}(ok:X.Ok)(E:Z_):(X.pB E).Ok:=
 ⟨ok.mod,ok.kind,ok.glob,ok.blt,ok.above,ok.inj,ok.has,ok.M0,ok.hd,ok.frames,ok.J8,ok.exf,ok.bs,ok.Gu,ok.zM,ok.EA,ok.kq,ok.C1⟩
theorem Cx.Ok.qk{X:Cx}{E:Z_}(ok:(X.pB E).Ok):X.Ok:=
 ⟨ok.mod,ok.kind,ok.glob,ok.blt,ok.above,ok.inj,ok.has,ok.M0,ok.hd,ok.frames,ok.J8,ok.exf,ok.bs,ok.Gu,ok.zM,ok.EA,ok.kq,ok.C1⟩
section
variable{X:Cx}{σ:St}{H:Hp}{E:Z_}
theorem aX.pB(I:aX X ae σ H s)(E:Z_):aX (X.pB E) ae σ H s:=⟨I.ok.pB E,I.os,I.bare,I.base,I.loc,I.cell,I.free,I.iT,I.pin,I.cq,I.len⟩
theorem aX.qk(I:aX (X.pB E) ae σ H s):aX X ae σ H s:=⟨I.ok.qk,I.os,I.bare,I.base,I.loc,I.cell,I.free,I.iT,I.pin,I.cq,I.len⟩
end
section
variable{X:Cx}{st:Stmt}{rest:List Stmt}{t u:TS}{te:TE}
def Sd:TS:=λD σ H=>D.nx σ H
def aao(t u:TS):TS:=λD σ H=>t {D with nx:=u D} σ H
theorem Kp:l? X [] Sd:=λ_ _ σ H _ I h=>XJ ⟨σ,H,I,h⟩
theorem GL(h1:PS X st t)(h2:l? X rest u):l? X (st::rest) (aao t u):=by
 intro ae s σ H D I h;refine Y' (dR (h1 ae s σ H {D with nx:=u D} I h) λf s1 q=>?_);cases f with
 |next=>
  obtain⟨σ',H',I',q⟩:=q;exact h2 ae s1 σ' H' D I' q
 |ret v=>exact q
 |brk=>exact q
 |cont=>exact q
theorem Kq(h1:PS X st t):l? X [st] t:=by
 intro ae s σ H D I h;refine Y' (dR (h1 ae s σ H D I h) λf s1 q=>?_);cases f with
 |next=>exact XJ q
 |ret v=>exact q
 |brk=>exact q
 |cont=>exact q
theorem aX.quiet{σ:St}{H:Hp}(I:aX X ae σ H s):interactive X.env=false:=by simp[interactive,I.ok.kind]
def Se(te:TE):TS:=λD σ H=>te σ H λ_ H1=>D.nx σ H1
theorem Kr(he:PE X e te)(hs:swapsWith e none pos.line X.env=pure false:=by rfl):PS X (.Expr e pos) (Se te):=by intro ae s σ H D I h;exact wpAny_Expr_any (dR (he ae s σ H _ I h) λv s1⟨x,H1,I1,r1,q1⟩=>⟨σ,H1,I1,q1⟩) I.quiet hs
def aap(te:TE):TS:=λD σ H=>te σ H D.rt
theorem Oa(he:PE X e te):PS X (.Return (some e) pos) (aap te):=by intro ae s σ H D I h;exact wpAny_Return_some (dR (he ae s σ H _ I h) λv s1⟨x,H1,I1,r1,q1⟩=>⟨x,σ,H1,I1,r1,q1⟩)
def aaq(c:TT)(t u:TS):TS:=λD σ H=>c σ H λb H1=>if b=true then t D σ H1 else u D σ H1
theorem Sf{c:Expr}{a b:List Stmt}{tc:TT}(hc:PT X c tc)(ha:l? X a t)(hb:l? X b u):PS X (.If c a b pos) (aaq tc t u):=by
 intro ae s σ H D I h;refine wpAny_If (dR (hc ae s σ H _ I h) λd s1⟨H1,I1,q1⟩=>?_);cases d with
 |true=>exact ha ae s1 σ H1 D I1 q1
 |false=>exact hb ae s1 σ H1 D I1 q1
end
abbrev TG:=V->St->Hp->(St->Hp->Prop)->Prop
abbrev Kt:=List V->St->Hp->(St->Hp->Prop)->Prop
def PG(X:Cx)(target:Expr)(t:TG):Prop:=
 ∀(ae:Z?)(s:_h)(σ:St)(H:Hp)(v:V)(u:_g)(Q:St->Hp->Prop),aX X ae σ H s->bJ v u->t v σ H Q ->
  wpAny (model X.prog X.w) X.A (assign target X.env u) (λ_ s'=>∃σ' H',aX X ae σ' H' s'/\Q σ' H') X.xe s
def Bs(X:Cx)(ts:List Expr)(t:Kt):Prop:=
 ∀(ae:Z?)(s:_h)(σ:St)(H:Hp)(vs:List V)(us:_b)(Q:St->Hp->Prop),aX X ae σ H s->bo vs us->t vs σ H Q ->
  wpAny (model X.prog X.w) X.A (assignInOrder ((assignEach ts X.env).map (·.2)) us) (λ_ s'=>∃σ' H',aX X ae σ' H' s'/\Q σ' H') X.xe s
abbrev GN:=V->V->V->Hp->(Hp->Prop)->Prop
def Ob(X:Cx)(t:GN):Prop:=
 ∀(ae:Z?)(s:_h)(σ:St)(H:Hp)(o i v:V)(ov iv u:_g)(Q:Hp->Prop),aX X ae σ H s->bJ o ov->bJ i iv->bJ v u->t o i v H Q ->
  wpAny (model X.prog X.w) X.A (setItem ov iv u) (λ_ s'=>∃H',aX X ae σ H' s'/\Q H') X.xe s
abbrev Sg:=V->V->Hp->VK->Prop
def PIp(X:Cx)(op:Operator)(t:Sg):Prop:=
 ∀(ae:Z?)(s:_h)(σ:St)(H:Hp)(x y:V)(v u:_g)(Q:VK),aX X ae σ H s->bJ x v->bJ y u->t x y H Q ->
  wpAny (model X.prog X.w) X.A (inplaceOp op v u) (EP X ae σ Q) X.xe s
section
variable{X:Cx}
def zO(i:Nat):TG:=λv σ H Q=>Q (σ.set i (some v)) H
theorem Ku{x:Str}(hN:X.N.Nodup)(hi:X.N[i]?=some x)(hx:Loc X.env.scope x)(hf:X.fn x=true\/X.env.scope.names.lookup x=some .local:=by first|exact .inl rfl|exact .inr rfl|assumption):PG X (.Name x pos) (zO i):=by intro ae s σ H v u Q I r h;exact wpAny_assign_Name (pz I hN hi hx r (λs' I'=>⟨_,H,I',h⟩) hf)
def aar:Kt:=λvs σ H Q=>vs=[]/\Q σ H
def Sh(t:TG)(u:Kt):Kt:=λvs σ H Q=>∃v r,vs=v::r/\t v σ H λσ' H'=>u r σ' H' Q
theorem Kv:Bs X [] aar:=by intro ae s σ H vs us Q I r h;obtain⟨e,h⟩:=h;subst e;cases r;exact assignInOrder_nil ⟨σ,H,I,h⟩
theorem GO{t:TG}{u:Kt}(h1:PG X e t)(h2:Bs X es u)(hs:(assignEach (e::es) X.env).map (·.2)=assign e X.env::(assignEach es X.env).map (·.2):=by rfl):Bs X (e::es) (Sh t u):=by
 intro ae s σ H vs us Q I r h;obtain⟨v,vr,e1,h⟩:=h;subst e1;cases r with
 |cons r rr=>
  rw[hs];refine assignInOrder_cons (dR (h1 ae s σ H _ _ _ I r h) λ_ s1⟨σ1,H1,I1,q1⟩=>?_);exact h2 ae s1 σ1 H1 _ _ Q I1 rr q1
def aas(K:Z')(n:Nat)(t:Kt):TG:=λv σ H Q=>∃a xs,v=.ref a/\oC K H a xs/\xs.length=n/\t xs σ H Q
theorem Oc{k:Nat}{t:Kt}{n:Nat}(hc:X.calm=true)(h:Bs X es t)(hn:(assignEach es X.env).length=n:=by rfl)(xT:(assignEach es X.env).findIdx? (·.1)=none:=by rfl):PG X (.Tuple es k pos) (aas X.K n t):=by intro ae s σ H v u Q I r hw;obtain⟨a,xs,e1,hq,hl,hw⟩:=hw;subst e1;cases r;obtain⟨aP,rv,ht,hz⟩:=I.tuple hq;refine assign_Tuple_tuple (I.ok.hd hc) ht (by simp[hn,<-hl,rv.length]) xT λh' hx=>?_;have I1:aX X ae σ H {s with heap:=h'}:=I.kept (t':=s.toks) λb o e=>hx b o (V0 (VH e)) e;exact h ae _ σ H xs _ Q I1 (by simpa using rv) hw
def aat(to ti:TE)(t:GN):TG:=λv σ H Q=>to σ H λo H1=>ti σ H1 λi H2=>t o i v H2 λH3=>Q σ H3
theorem Od{i:Expr}{to ti:TE}{t:GN}(ho:PE X o to)(hi:PE X i ti)(hs:Ob X t)
  (ha:∀ v,assign (.Subscript o i pos) X.env v=(do
   let ov <- holding [v] (eval o X.env)
   let iv <- holding [v,ov] (eval i X.env)
   standAt pos
   holding [v,ov,iv] (setItem ov iv v)
   release [v,ov,iv] []):=by intro _;rfl):PG X (.Subscript o i pos) (aat to ti t):=by
 intro ae s σ H v u Q I r h;rw[ha];refine Vl (WX (dR (ho ae s σ H _ I h) λov s1⟨x,H1,I1,r1,q1⟩=>?_));refine Vl (WX (dR (hi ae s1 σ H1 _ I1 q1) λiv s2⟨y,H2,I2,r2,q2⟩=>?_));refine Vl (YO (Vl (WX (dR (hs ae s2 σ H2 x y v ov iv u _ I2 r1 r2 r q2) λ_ s3⟨H3,I3,q3⟩=>?_))));exact wpAny_release ⟨σ,H3,I3,q3⟩
def Kw(te:TE)(g:TG):TS:=λD σ H=>te σ H λx H1=>g x σ H1 D.nx
theorem Oe{te:TE}{g:TG}(he:PE X e te)(hg:PG X tg g)(hs:swapsWithSole [tg] e pos.line X.env=pure false:=by rfl)(hw:swappedStores [tg] e X.env=pure none:=by rfl)(h1:(assignEach [tg] X.env).map (·.2)=[assign tg X.env]:=by rfl):PS X (.Assign [tg] e pos) (Kw te g):=by intro ae s σ H D I h;refine wpAny_Assign_stores (dR (he ae s σ H _ I h) λv s1⟨x,H1,I1,r1,q1⟩=>?_) hs hw;rw[h1];exact dR (hg ae s1 σ H1 x v _ I1 r1 q1) λ_ s2 q=>q
theorem Of{x:Str}{te:TE}(hN:X.N.Nodup)(hi:X.N[i]?=some x)(hx:Loc X.env.scope x)(he:PE X e te)(hs:swapsWith e (some (.Name x pos')) pos.line X.env=pure false:=by rfl)(hf:X.fn x=true\/X.env.scope.names.lookup x=some .local:=by first|exact .inl rfl|exact .inr rfl|assumption):
  PS X (.Assign [.Name x pos'] e pos) (Kw te (zO i)):=by
 intro ae s σ H D I h;refine wpAny_Assign_Name (dR (he ae s σ H _ I h) λv s1⟨y,H1,I1,r1,q1⟩=>?_) hs;exact pz I1 hN hi hx r1 (λs2 I2=>⟨_,H1,I2,q1⟩) hf
def aau(i:Nat)(te:TE)(ti:Sg):TS:=λD σ H=>∃x,σ[i]?=some (some x)/\te σ H λy H1=>ti x y H1 λz H2=>D.nx (σ.set i (some z)) H2
theorem Og{x:Str}{te:TE}{op:Operator}{ti:Sg}(hN:X.N.Nodup)(hi:X.N[i]?=some x)(hx:Loc X.env.scope x)(he:PE X e te)(ho:PIp X op ti)(hf:X.fn x=true\/X.env.scope.names.lookup x=some .local:=by first|exact .inl rfl|exact .inr rfl|assumption):
  PS X (.AugAssign (.Name x pos') op e pos) (aau i te ti):=by
 intro ae s σ H D I h;obtain⟨v,e1,h⟩:=h;obtain⟨m,hn,hl⟩:=I.loc;have vis:J7 X.env.scope x:=by rcases hx with k|k;exact .inl k;exact .inr (.inl k)
 obtain⟨u,r,l⟩:=hl i x v hi e1 vis;refine wpAny_AugAssign_Name ?_;have go:wpAny (model X.prog X.w) X.A (eval e X.env) (λw s₂=>wpAny (model X.prog X.w) X.A (inplaceOp op u w) (λr s₃=>wpAny (model X.prog X.w) X.A (storeName X.env x r) (λ_=>SP X ae D .next) X.xe s₃) X.xe s₂) X.xe s:=by refine dR (he ae s σ H _ I h) λw s1⟨y,H1,I1,r1,q1⟩=>?_;refine dR (ho ae s1 σ H1 v y u w _ I1 r r1 q1) λz s2⟨zv,H2,I2,r2,q2⟩=>?_;exact pz I2 hN hi hx r2 (λs3 I3=>⟨_,H2,I3,q2⟩) hf
 rcases l with⟨hk,hm⟩|⟨hk,c,hc,C4⟩
 .exact wpAny_loadName_local I.ok.kind hk hn hm go
 .rcases hk with hk|hk
  .exact wpAny_loadName_cell I.ok.kind hk hc C4 go
  .rcases hx with k|k
   .have:X.env.scope.names.lookup x=some .free:=hk;rw[k]at this;cases this
   .have:X.env.scope.names.lookup x=some .free:=hk;rw[k]at this;cases this
def Si(to ti te:TE)(Kx:V->V->Hp->VK->Prop)(tip:Sg)(Ky:GN):TS:=λD σ H=>to σ H λo H1=>ti σ H1 λi H2=>Kx o i H2 λx H3=>te σ H3 λy H4=>tip x y H4 λz H5=>Ky o i z H5 λH6=>D.nx σ H6
def Sj(X:Cx)(t:V->V->Hp->VK->Prop):Prop:=
 ∀(ae:Z?)(s:_h)(σ:St)(H:Hp)(o i:V)(ov iv:_g)(Q:VK),aX X ae σ H s->bJ o ov->bJ i iv->t o i H Q ->
  wpAny (model X.prog X.w) X.A (getItem ov iv) (EP X ae σ Q) X.xe s
theorem Kz{i:Expr}{to ti te:TE}{Kx:V->V->Hp->VK->Prop}{tip:Sg}{Ky:GN}{op:Operator}(ho:PE X o to)(hi:PE X i ti)(hg:Sj X Kx)(he:PE X e te)(hp:PIp X op tip)(hs:Ob X Ky)(ha:∀ov iv new,augStore i ov iv new=(do holding [new,ov,iv] (setItem ov iv new);release [new,ov,iv] [];pure .next):=by intros;rfl):PS X (.AugAssign (.Subscript o i pC) op e pos) (Si to ti te Kx tip Ky):=by intro ae s σ H D I h;refine wpAny_AugAssign_SubscriptAny (dR (ho ae s σ H _ I h) λov s1⟨x1,H1,I1,r1,q1⟩=>?_) ha;refine dR (hi ae s1 σ H1 _ I1 q1) λiv s2⟨x2,H2,I2,r2,q2⟩=>?_;refine dR (hg ae s2 σ H2 x1 x2 ov iv _ I2 r1 r2 q2) λold s3⟨x3,H3,I3,r3,q3⟩=>?_;refine dR (he ae s3 σ H3 _ I3 q3) λv s4⟨x4,H4,I4,r4,q4⟩=>?_;refine dR (hp ae s4 σ H4 x3 x4 old v _ I4 r3 r4 q4) λnew s5⟨x5,H5,I5,r5,q5⟩=>?_;exact dR (hs ae s5 σ H5 x1 x2 x5 ov iv new _ I5 r1 r2 r5 q5) λ_ s6⟨H6,I6,q6⟩=>⟨σ,H6,I6,q6⟩
end
section
variable{X:Cx}
def Oh(c:TT)(tb:TS):TS:=λD σ H=>∃W:Nat->St->Hp->Prop,(∃m,W m σ H)/\∀m σ H,W m σ H ->
 c σ H λb H1=>if b=true then ∃N:St->Hp->Prop,(∀σ' H',N σ' H'->∃m',m'<m/\W m' σ' H')/\tb {D with nx:=N,ct:=N,bk:=D.nx} σ H1 else D.nx σ H1
theorem GP{c:Expr}{body:List Stmt}{tc:TT}{tb:TS}(hp:PassesOwn (model X.prog X.w) X.A X.env X.xe)(hc:PT X c tc)(hb:l? X body tb):PS X (.While c body [] pos) (Oh tc tb):=by
 intro ae s σ H D I h;obtain⟨W,⟨m0,w0⟩,turn⟩:=h;refine wpAny_While (codeAny_whileLoop (λn s'=>∃σ' H',aX X ae σ' H' s'/\W n σ' H') ?_ m0 ⟨σ,H,I,w0⟩);rintro n s1 ⟨σ1,H1,I1,w1⟩;refine Xj hp (dR (hc ae s1 σ1 H1 _ I1 (turn n σ1 H1 w1)) λb s2⟨H2,I2,q2⟩=>?_);cases b with
 |true=>
  obtain⟨N,hN,q2⟩:=q2;rw[VC rfl];refine Xj hp (dR (hb ae s2 σ1 H2 _ I2 q2) λf s3 q3=>?_);cases f with
  |next=>
   obtain⟨σ3,H3,I3,n3⟩:=q3;obtain⟨m',hm,w3⟩:=hN σ3 H3 n3;exact⟨m',hm,σ3,H3,I3,w3⟩
  |cont=>
   obtain⟨σ3,H3,I3,n3⟩:=q3;obtain⟨m',hm,w3⟩:=hN σ3 H3 n3;exact⟨m',hm,σ3,H3,I3,w3⟩
  |brk=>exact q3
  |ret v=>exact q3
 |false=>
  rw[VI VQ];exact XJ ⟨σ1,H2,I2,q2⟩
end
structure It where
 go:Nat->Hp->Prop
 Rr:Nat->Hp->V->Hp->Prop
 stop:Nat->Hp->Prop
def kx(X:Cx)(ae:Z?)(H:Hp)(b:_i):Prop:=
 H b=none/\b≠X.env.locals/\b ∉ X.fs/\(b∈X.ex\/X.s₀.heap.objs.size<=b)/\(∀x c,X.env.cells.lookup x=some c->c≠b)/\∀p∈X.pn++ae,p.1≠b
theorem aX.zP{X:Cx}{σ:St}{H H':Hp}{b:_i}(I:aX X ae σ H s)(hb:s.heap.objs.size<=b)(hn:H' b=none):kx X ae H' b:=by
 refine⟨hn,W6 (VO I.lt hb),I.aah hb,.inr (V? I.sz hb),λx c e z=>?_,λp hp z=>?_⟩
 .obtain⟨v,q⟩:=I.cell x c e;exact absurd (VO q.lt (by rw[z];exact hb)) (Wf _)
 .exact absurd (VO (VH (I.pin p hp).1) (by rw[z];exact hb)) (Wf _)
structure Turn(P:_k)(w:World)(K:Z')(tg:Expr)(J:It)(fp:_d)(it:_i)(tn:Nat->Heap->Prop):Prop where
 mem:it∈fp
 obj:∀i h,tn i h->∀b∈fp,∃o,h.get? b=some o/\∀v,o.data≠.cell v
 keep:∀i h h',tn i h->(∀b∈fp,∀o,h.get? b=some o->h'.get? b=some o)->tn i h'
 item:∀(X:Cx),X.prog=P->X.w=w->X.K=K->X.calm=true->∀(i:Nat)(ae:Z?)(s:_h)(σ:St)(H:Hp)(E:Z_),aX X ae σ H s->(∀b∈fp,kx X ae H b)->tn i s.heap->J.go i H ->
  wpAny (model P w) X.A (pyNext (.ref it)) (λr s1=>∃u,r=some u /\
   wpAny (model P w) X.A (letOwnedTupleGo tg (.ref it) u) (λ_ s2=>∃x H',aX X ae σ H' s2/\bJ x u/\J.Rr i H x H'/\tn (i+1) s2.heap/\∀b∈fp,H' b=none) E s1) E s
 done:∀(X:Cx),X.prog=P->X.w=w->X.K=K->X.calm=true->∀(i:Nat)(ae:Z?)(s:_h)(σ:St)(H:Hp)(E:Z_),aX X ae σ H s->(∀b∈fp,kx X ae H b)->tn i s.heap->J.stop i H ->
  wpAny (model P w) X.A (pyNext (.ref it)) (λr s1=>r=none/\aX X ae σ H s1) E s
 self:∀(A:_j)(i:Nat)(s:_h)(Q:Z_)(E:Z_),tn i s.heap->Q (.ref it) s->wpAny (model P w) A (pyIter (.ref it)) Q E s
abbrev TI:=St->Hp->(It->Hp->Prop)->Prop
def PIE(X:Cx)(ae:Z?)(σ:St)(tg:Expr)(R:It->Hp->Prop)(itv:_g)(s2:_h):Prop:=
 ∃(it:_i)(fp:_d)(tn:Nat->Heap->Prop)(J:It)(H':Hp),itv=.ref it/\aX X ae σ H' s2/\Turn X.prog X.w X.K tg J fp it tn/\tn 0 s2.heap/\(∀b∈fp,kx X ae H' b)/\R J H'
def PI(X:Cx)(tg iter:Expr)(wi:TI):Prop:=
 ∀(ae:Z?)(s:_h)(σ:St)(H:Hp)(R:It->Hp->Prop),aX X ae σ H s->wi σ H R ->
  wpAny (model X.prog X.w) X.A (eval iter X.env) (λv s1=>wpAny (model X.prog X.w) X.A (pyIter v) (PIE X ae σ tg R) X.xe s1) X.xe s
theorem C6{M:Model}{A:_j}{E:Z_}{it:_i}{u:_g}{o:Obj}{n:String}{vs:Array _g}{Q:Unit->_h->Prop}(ho:s.heap.get? it=some o)(hc:o.cls=.type n)(hd:o.data=.fields vs)(hn:["enumerate","zip","dict_itemiterator","dict_reverseitemiterator","odict_iterator","itertools.zip_longest","itertools.pairwise"].contains n=false)(hQ:Q () s):wpAny M A (letOwnedTupleGo tg (.ref it) u) Q E s:=by
  unfold letOwnedTupleGo;cases tg<;>first
    |exact VA hQ
    |(cases u<;>first
        |exact VA hQ
        | (refine Vl (wpAny_load ho ?_)
           rw[hc,hd];show wpAny M A (if(["enumerate","zip","dict_itemiterator","dict_reverseitemiterator","odict_iterator","itertools.zip_longest","itertools.pairwise"].contains n&&vs[0]?==some (rawInt _))=true then _ else _) Q E s;rw[VI (by intro h;rw[hn,Yo]at h;cases h)];exact VA hQ))
def Itl(K:Z')(a:_i):It:=
 ⟨λi H=>∃xs x,nN K H a xs/\xs[i]?=some x,λi H x H'=>H'=H/\∀xs,nN K H a xs->xs[i]?=some x,λi H=>∃xs,nN K H a xs/\xs.length<=i⟩
def Itt(K:Z')(a:_i):It:=
 ⟨λi H=>∃xs x,oC K H a xs/\xs[i]?=some x,λi H x H'=>H'=H/\∀xs,oC K H a xs->xs[i]?=some x,λi H=>∃xs,oC K H a xs/\xs.length<=i⟩
def Sk(lo:Int)(n:Nat):It:=⟨λi _=>i<n,λi H x H'=>H'=H/\x=.int (lo+i),λi _=>n<=i⟩
theorem EB{w:World}{K:Z'}(a it:_i):Turn P w K tg (Itl K a) [it] it (λi h=>h.IsListIter it a i) where
 mem:=by simp
 obj:=λi h st b hb=>by
  have e:b=it:=by simpa using hb
  subst e;obtain⟨o,e,c,d⟩:=st;exact⟨o,e,λv z=>by rw[d]at z;cases z⟩
 keep:=λi h h' st k=>st.at λo e=>k it (by simp) o e
 item:=by intro X hP hw hK hc i ae s σ H E I hf st hg;subst hP hw hK;obtain⟨xs,x,hq,hx⟩:=hg;obtain⟨aP,rv,p,hz⟩:=I.list hq;obtain⟨u,hu,ru⟩:=rv.get hx;obtain⟨f0,f1,f2,f3,f4,f5⟩:=hf it (by simp);refine wpAny_pyNext_list_item st p.isList (x:=u) (by simpa using hu) λh' aC sb=>?_;have I1:aX X ae σ H {s with heap:=h'}:=I.turned (t':=s.toks) (λb o hb e=>(sb.2 b hb).trans e) f0 f1 f3 f4 f5;obtain⟨o,e,c,d⟩:=id aC;exact⟨u,rfl,C6 (s:={s with heap:=h'}) e c d (by decide) ⟨x,H,I1,ru,⟨rfl,λys hy=>by rw[I.pA hy hq];exact hx⟩,aC,λb hb=>(hf b hb).1⟩⟩
 done:=by intro X hP hw hK hc i ae s σ H E I hf st hg;subst hP hw hK;obtain⟨xs,hq,hx⟩:=hg;obtain⟨aP,rv,p,hz⟩:=I.list hq;obtain⟨f0,f1,f2,f3,f4,f5⟩:=hf it (by simp);have hl:=rv.length;exact wpAny_pyNext_list_end (I.ok.hd hc) st p.isList (by simp;lia) λh' eb=>⟨rfl,I.turned (t':=s.toks) (λb o hb e=>eb b o hb e) f0 f1 f3 f4 f5⟩
 self:=λ_ _ _ _ _ st h=>wpAny_pyIter_listiter st h
theorem Bt{w:World}{K:Z'}(a it:_i):Turn P w K tg (Itt K a) [it] it (λi h=>h.IsTupleIter it a i) where
 mem:=by simp
 obj:=λi h st b hb=>by
  have e:b=it:=by simpa using hb
  subst e;obtain⟨o,e,c,d⟩:=st;exact⟨o,e,λv z=>by rw[d]at z;cases z⟩
 keep:=λi h h' st k=>st.at λo e=>k it (by simp) o e
 item:=by intro X hP hw hK hc i ae s σ H E I hf st hg;subst hP hw hK;obtain⟨xs,x,hq,hx⟩:=hg;obtain⟨aP,rv,p,hz⟩:=I.tuple hq;obtain⟨u,hu,ru⟩:=rv.get hx;obtain⟨f0,f1,f2,f3,f4,f5⟩:=hf it (by simp);refine wpAny_pyNext_tuple_item st (show s.heap.IsTuple a aP.toArray from p) (x:=u) (by simpa using hu) λh' aC sb=>?_;have I1:aX X ae σ H {s with heap:=h'}:=I.turned (t':=s.toks) (λb o hb e=>(sb.2 b hb).trans e) f0 f1 f3 f4 f5;obtain⟨o,e,c,d⟩:=id aC;exact⟨u,rfl,C6 (s:={s with heap:=h'}) e c d (by decide) ⟨x,H,I1,ru,⟨rfl,λys hy=>by rw[I.qj hy hq];exact hx⟩,aC,λb hb=>(hf b hb).1⟩⟩
 done:=by intro X hP hw hK hc i ae s σ H E I hf st hg;subst hP hw hK;obtain⟨xs,hq,hx⟩:=hg;obtain⟨aP,rv,p,hz⟩:=I.tuple hq;obtain⟨f0,f1,f2,f3,f4,f5⟩:=hf it (by simp);have hl:=rv.length;exact wpAny_pyNext_tuple_end (I.ok.hd hc) st (show s.heap.IsTuple a aP.toArray from p) (by simp;lia) λh' eb=>⟨rfl,I.turned (t':=s.toks) (λb o hb e=>eb b o hb e) f0 f1 f3 f4 f5⟩
 self:=λ_ _ _ _ _ st h=>wpAny_pyIter_tupleiter st h
theorem Bu{w:World}{K:Z'}(it:_i)(lo:Int)(n:Nat):Turn P w K tg (Sk lo n) [it] it (λi h=>IsRangeIter h it (lo+(i:Nat)*1) ((n:Int)-(i:Nat)) 1) where
 mem:=by simp
 obj:=λi h st b hb=>by
  have e:b=it:=by simpa using hb
  subst e;exact⟨_,st,λv z=>by
   have z':Data.fields _=Data.cell v:=z;cases z'⟩
 keep:=λi h h' st k=>k it (by simp) _ st
 item:=by intro X hP hw hK hc i ae s σ H E I hf st hg;subst hP hw hK;obtain⟨f0,f1,f2,f3,f4,f5⟩:=hf it (by simp);have W:=Walks.range (prog:=X.prog) (w:=X.w) (I.ok.hd hc) it lo 1 n;refine W.item i s _ _ hg st λv h' tk hv aC kk=>?_;obtain⟨t,rfl⟩:=hv;have I1:aX X ae σ H {s with heap:=h',toks:=tk}:=I.turned (λb o hb e=>kk b o (by simpa using hb) e) f0 f1 f3 f4 f5;refine⟨_,rfl,C6 (s:={s with heap:=h',toks:=tk}) (n:="range_iterator") aC rfl rfl (by decide) ⟨.int (lo+i),H,I1,⟨t,?_⟩,⟨rfl,rfl⟩,aC,λb hb=>(hf b hb).1⟩⟩;rw[Xl]
 done:=by intro X hP hw hK hc i ae s σ H E I hf st hg;subst hP hw hK;obtain⟨f0,f1,f2,f3,f4,f5⟩:=hf it (by simp);exact ZV (I.ok.hd hc) st (by have:n<=i:=hg;lia) λh' eb=>⟨rfl,I.turned (t':=s.toks) (λb o hb e=>eb b o hb e) f0 f1 f3 f4 f5⟩
 self:=λ_ _ _ _ _ st h=>ZW st h
section
variable{X:Cx}
theorem zQ{σ:St}{H:Hp}{R:It->Hp->Prop}{E:Z_}{t u v:Tok}{tk:Nat}(I:aX X ae σ H s)(h1:-(2 ^ 62)<=lo)(h2:lo<2 ^ 62)(h3:-(2 ^ 62)<=hi)(h4:hi<2 ^ 62)(q:R (Sk lo (hi-lo).toNat) H):wpAny (model X.prog X.w) X.A (pyIter (.ref s.heap.objs.size)) (PIE X ae σ tg R) E {s with heap:=s.heap.push {cls:=.type "range",data:=.fields #[.int lo t,.int hi u,.int 1 v]},toks:=tk}:=by
 refine wpAny_pyIter_range (IsRange.new ..) (small_one h1 h2 h3 h4) ?_;have I1:aX X ae σ H {s with heap:=s.heap.push {cls:=.type "range",data:=.fields #[.int lo t,.int hi u,.int 1 v]},toks:=tk}:=I.kept λb o e=>Vo _ e;refine⟨(s.heap.push {cls:=.type "range",data:=.fields #[.int lo t,.int hi u,.int 1 v]}).objs.size,[(s.heap.push {cls:=.type "range",data:=.fields #[.int lo t,.int hi u,.int 1 v]}).objs.size],_,_,H,rfl,
  I1.kept (t':=tk) λb o e=>Vo _ e,Bu _ lo (hi-lo).toNat,?_,λb hb=>?_,q⟩
 .have e1:lo+((0:Nat):Int)*1=lo:=by simp
  have e2:(((hi-lo).toNat:Nat):Int)-((0:Nat):Int)=Builtin.Range.rangeSize lo hi 1:=by rw[rangeSize_one];split<;>lia
  show IsRangeIter _ _ (lo+((0:Nat):Int)*1) ((((hi-lo).toNat:Nat):Int)-((0:Nat):Int)) 1;rw[e1,e2];exact VS _ rfl
 .have e:b=(s.heap.push {cls:=.type "range",data:=.fields #[.int lo t,.int hi u,.int 1 v]}).objs.size:=by simpa using hb
  subst e;exact I1.zP (VD _) (I1.cq.fresh (VD _))
def Sl(ta:TA):TI:=λσ H R=>ta σ H λvs H1=>∃j:Int,vs=[.int j]/\-(2 ^ 62)<=j/\j<2 ^ 62/\R (Sk 0 j.toNat) H1
def Sn(ta:TA):TI:=λσ H R=>ta σ H λvs H1=>∃i j:Int,vs=[.int i,.int j]/\(-(2 ^ 62)<=i/\i<2 ^ 62/\-(2 ^ 62)<=j/\j<2 ^ 62)/\R (Sk i (j-i).toNat) H1
theorem EC{a:Expr}{ta:TA}{p:Pos}(hg:Gl X "range")(hm:X.mg "range" = none)(ha:PA X [a] ta)(hs:starEach [a] X.env=[(false,eval a X.env)]:=by rfl):PI X tg (.Call (.Name "range" p) [a] [] pos) (Sl ta):=by
 intro ae s σ H R I h;refine Call_ (kr I hg hm boot_range (WH (dR (ha pos ae s σ H _ I h) λus s1⟨vs,H1,I1,r1,q1⟩=>?_) hs rfl));obtain⟨j,e,q1,q2,q⟩:=q1;subst e;cases r1 with
 |cons r rr=>
  cases rr;obtain⟨t,rfl⟩:=r;exact call_range_1 (zQ I1 (by lia) (by lia) q1 q2 (by simpa using q))
theorem ED{a b:Expr}{ta:TA}{p:Pos}(hg:Gl X "range")(hm:X.mg "range" = none)(ha:PA X [a,b] ta)(hs:starEach [a,b] X.env=[(false,eval a X.env),(false,eval b X.env)]:=by rfl)(jR:starEach [b] X.env=[(false,eval b X.env)]:=by rfl):
  PI X tg (.Call (.Name "range" p) [a,b] [] pos) (Sn ta):=by
 intro ae s σ H R I h;refine Call_ (kr I hg hm boot_range (WH (dR (ha pos ae s σ H _ I h) λus s1⟨vs,H1,I1,r1,q1⟩=>?_) (by rw[hs,jR]) (by rw[jR];rfl)));obtain⟨i,j,e,⟨q1,q2,q3,q4⟩,q⟩:=q1;subst e;cases r1 with
 |cons r rr=>
  cases rr with
  |cons r' rr=>
   cases rr;obtain⟨t,rfl⟩:=r;obtain⟨t',rfl⟩:=r';exact call_range_2 (zQ I1 q1 q2 q3 q4 q)
def aav(wi:TI)(g:TG)(tb:TS):TS:=λD σ H=>wi σ H λJ H1=>∃W:Nat->Nat->St->Hp->Prop,(∃m,W 0 m σ H1)/\∀i m σ H,W i m σ H ->
 (J.stop i H/\D.nx σ H)\/(J.go i H/\∃N:St->Hp->Prop,(∀σ' H',N σ' H'->∃m',m'<m/\W (i+1) m' σ' H')/\∀x H',J.Rr i H x H'->g x σ H' λσ2 H2=>tb {D with nx:=N,ct:=N,bk:=D.nx} σ2 H2)
def uj(fp:_d)(h:Heap):Z?:=fp.filterMap λb=>(h.get? b).map λo=>(b,o)
theorem ky{b:_i}{o:Obj}(hb:b∈fp)(e:h.get? b=some o):(b,o)∈uj fp h:=Zp.mpr ⟨b,hb,by rw[e];rfl⟩
theorem EE{p:_i×Obj}(hp:p∈uj fp h):p.1∈fp/\h.get? p.1=some p.2:=by
 obtain⟨b,hb,e⟩:=Zp.mp hp;cases q:h.get? b with
 |none=>rw[q]at e;cases e
 |some o=>
  rw[q]at e;have e':(b,o)=p:=VR e;subst e';exact⟨hb,q⟩
theorem aX.pinned{σ:St}{H:Hp}(I:aX X ae σ H s)(hf:∀b∈fp,kx X ae H b)(ho:∀b∈fp,∃o,s.heap.get? b=some o/\∀v,o.data≠.cell v):aX X (ae++uj fp s.heap) σ H s:=
 I.px λp hp=>(VX.mp hp).elim (λz=>I.pin p (Wa _ z)) λz=>by obtain⟨hb,e⟩:=EE z;obtain⟨f0,f1,f2,_⟩:=hf p.1 hb;obtain⟨o,e',d⟩:=ho p.1 hb;rw[e]at e';cases e';exact⟨e,f0,f1,f2,d⟩
theorem aX.pE{pl:Z?}{σ:St}{H:Hp}(I:aX X (ae++pl) σ H s):aX X ae σ H s:=I.px λp hp=>I.pin p (Wa _ (WB _ hp))
theorem Oi{body:List Stmt}{wi:TI}{g:TG}{tb:TS}(hp:PassesOwn (model X.prog X.w) X.A X.env X.xe)(hc:X.calm=true)(hi:PI X tg iter wi)(hg:PG X tg g)(hb:l? X body tb)(hs:∀x,foldedSetIterable iter X.env x=pure x:=by intro _;rfl):PS X (.For tg iter body [] pos) (aav wi g tb):=by
 intro ae s σ H D I h;refine wpAny_For (dR (hi ae s σ H _ I h) λv s1 h1=>dR h1 λitv s2 h2=>?_) hs;obtain⟨it,fp,tn,J,H2,e,I2,T,bX,f2,W,⟨m0,w0⟩,turn⟩:=h2;subst e
 -- So stays true of J0 Oj objects through J0 loop
 have Bv:∀{H':Hp},(∀b∈fp,H' b=none)->∀b∈fp,kx X ae H' b:=λhn b hb=>⟨hn b hb,(f2 b hb).2⟩
 refine codeAny_forLoop_any (λn s'=>∃i σ' H',aX X ae σ' H' s'/\tn i s'.heap/\(∀b∈fp,H' b=none)/\W i n σ' H') ?_ m0 ⟨0,σ,H2,I2,bX,λb hb=>(f2 b hb).1,w0⟩;rintro n s3 ⟨i,σ3,H3,I3,oD,Sq,w3⟩;rcases turn i n σ3 H3 w3 with⟨stop,qn⟩|⟨go,N,hN,step⟩
 .refine Xj hp (dR (T.done X rfl rfl rfl hc i ae s3 σ3 H3 X.xe I3 (Bv Sq) oD stop) λr s4⟨hr,I4⟩=>?_);subst hr;exact XJ ⟨σ3,H3,I4,qn⟩
 .refine Xj hp (dR (T.item X rfl rfl rfl hc i ae s3 σ3 H3 X.xe I3 (Bv Sq) oD go) λr s4⟨u,hr,h4⟩=>?_);subst hr;refine Xj hp (dR h4 λ_ s5⟨x,H5,I5,r5,y5,J!,fr5⟩=>?_);have I5':=I5.pinned (Bv fr5) (T.obj _ _ J!);refine Xj hp (dR (hg _ s5 σ3 H5 x u _ I5' r5 (step x H5 y5)) λ_ s6⟨σ6,H6,I6,q6⟩=>?_);refine Xj hp (dR (hb _ s6 σ6 H6 _ I6 q6) λf s7 q7=>?_);have again:∀{σ7:St}{H7:Hp},aX X (ae++uj fp s5.heap) σ7 H7 s7->N σ7 H7->∃m,m<n/\∃i σ' H',aX X ae σ' H' s7/\tn i s7.heap/\(∀b∈fp,H' b=none)/\W i m σ' H':=λ{σ7 H7}I7 n7=>by obtain⟨m',hm,w7⟩:=hN σ7 H7 n7;refine⟨m',hm,i+1,σ7,H7,I7.pE,T.keep _ _ _ J! λb hb o e=>(I7.pin (b,o) (Wa _ (Wa _ (ky hb e)))).1,λb hb=>?_,w7⟩;obtain⟨o,e,d⟩:=T.obj _ _ J! b hb;exact(I7.pin (b,o) (Wa _ (Wa _ (ky hb e)))).2.1
  cases f with
  |next=>obtain⟨σ7,H7,I7,n7⟩:=q7;exact again I7 n7
  |cont=>obtain⟨σ7,H7,I7,n7⟩:=q7;exact again I7 n7
  |brk=>obtain⟨σ7,H7,I7,q7⟩:=q7;exact⟨σ7,H7,I7.pE,q7⟩
  |ret v=>obtain⟨x7,σ7,H7,I7,r7,q7⟩:=q7;exact⟨x7,σ7,H7,I7.pE,r7,q7⟩
end
abbrev R2:=V->V->Hp->VK->Prop
def f9(X:Cx)(f:_g->_g->Sem _g)(r:R2):Prop:=
 ∀(ae:Z?)(s:_h)(σ:St)(H:Hp)(x y:V)(v u:_g)(Q:VK),aX X ae σ H s->bJ x v->bJ y u->r x y H Q ->
  wpAny (model X.prog X.w) X.A (f v u) (EP X ae σ Q) X.xe s
def UnR(X:Cx)(f:_g->Sem _g)(r:V->Hp->VK->Prop):Prop:=
 ∀(ae:Z?)(s:_h)(σ:St)(H:Hp)(x:V)(v:_g)(Q:VK),aX X ae σ H s->bJ x v->r x H Q ->
  wpAny (model X.prog X.w) X.A (f v) (EP X ae σ Q) X.xe s
def b7(X:Cx)(f:_g)(r:List V->Hp->VK->Prop):Prop:=
 ∀(ae:Z?)(s:_h)(σ:St)(H:Hp)(xs:List V)(us:_b)(Q:VK),aX X ae σ H s->bo xs us->r xs H Q ->
  wpAny (model X.prog X.w) X.A (call f us) (EP X ae σ Q) X.xe s
def Rt(r:R2)(ta tb:TE):TE:=λσ H Q=>ta σ H λx H1=>tb σ H1 λy H2=>r x y H2 Q
def tUn(r:V->Hp->VK->Prop)(ta:TE):TE:=λσ H Q=>ta σ H λx H1=>r x H1 Q
def rI(C:Int->Int->Prop)(g:Int->Int->V):R2:=λx y H Q=>∃i j,x=.int i/\y=.int j/\C i j/\Q (g i j) H
def M6(g:Int->Int->V):R2:=λx y H Q=>∃i j,x=.int i/\y=.int j/\Q (g i j) H
def rU(g:Int->V):V->Hp->VK->Prop:=λx H Q=>∃i,x=.int i/\Q (g i) H
section
variable{X:Cx}{a b c:Expr}{ta tb tc:TE}
theorem Ol(ha:PE X a ta)(hb:PE X b tb){σ:St}{H:Hp}{R:V->V->Hp->Prop}(I:aX X ae σ H s)(h:ta σ H λx H1=>tb σ H1 λy H2=>R x y H2){Q:Z_}{f:_g->_g->Sem _g}(hf:∀v u s2 x y H2,aX X ae σ H2 s2->bJ x v->bJ y u->R x y H2->wpAny (model X.prog X.w) X.A (f v u) Q X.xe s2):
  wpAny (model X.prog X.w) X.A (eval a X.env) (λv s₁=>wpAny (model X.prog X.w) X.A (eval b X.env) (λu s₂=>wpAny (model X.prog X.w) X.A (f v u) Q X.xe s₂) X.xe s₁) X.xe s:=by
 refine dR (ha ae s σ H _ I h) λv s1⟨x,H1,I1,r1,q1⟩=>?_;refine dR (hb ae s1 σ H1 _ I1 q1) λu s2⟨y,H2,I2,r2,q2⟩=>?_;exact hf v u s2 x y H2 I2 r1 r2 q2
theorem Sr{op:Operator}{r:R2}(ho:f9 X (binaryOp op) r)(ha:PE X a ta)(hb:PE X b tb):PE X (.BinOp a op b pos) (Rt r ta tb):=by intro ae s σ H Q I h;exact wpAny_BinOp (Ol ha hb I h λv u s2 x y H2 I2 rx ry q=>ho ae s2 σ H2 x y v u Q I2 rx ry q)
theorem Ss{op:UnaryOp}{r:V->Hp->VK->Prop}(ho:UnR X (unaryOp op) r)(ha:PE X a ta):PE X (.UnaryOp op a pos) (tUn r ta):=by intro ae s σ H Q I h;exact UnaryOp_ (dR (ha ae s σ H _ I h) λv s1⟨x,H1,I1,r1,q1⟩=>ho ae s1 σ H1 x v Q I1 r1 q1)
theorem Su{f:_g->_g->Sem _g}{C:Int->Int->Prop}{g:Int->Int->Int}(rule:∀(i j:Int)(t u:Tok)(s:_h)(Q:Z_)(E:Z_),C i j->Q (.int (g i j) s.toks) {s with toks:=s.toks+1}->wpAny (model X.prog X.w) X.A (f (.int i t) (.int j u)) Q E s):
  f9 X f (rI C λi j=>.int (g i j)):=by
 intro ae s σ H x y v u Q I rx ry h;obtain⟨i,j,rfl,rfl,hc,q⟩:=h;obtain⟨t,rfl⟩:=rx;obtain⟨t',rfl⟩:=ry;exact rule i j t t' s _ _ hc ⟨.int (g i j),H,I.tok _,⟨_,rfl⟩,q⟩
theorem KA{f:_g->_g->Sem _g}{g:Int->Int->Int}(rule:∀(i j:Int)(t u:Tok)(s:_h)(Q:Z_)(E:Z_),Q (.int (g i j) s.toks) {s with toks:=s.toks+1}->wpAny (model X.prog X.w) X.A (f (.int i t) (.int j u)) Q E s):
  f9 X f (M6 λi j=>.int (g i j)):=by
 intro ae s σ H x y v u Q I rx ry h;obtain⟨i,j,rfl,rfl,q⟩:=h;obtain⟨t,rfl⟩:=rx;obtain⟨t',rfl⟩:=ry;exact rule i j t t' s _ _ ⟨.int (g i j),H,I.tok _,⟨_,rfl⟩,q⟩
theorem Sv{f:_g->_g->Sem _g}{g:Int->Int->Bool}(rule:∀(i j:Int)(t u:Tok)(s:_h)(Q:Z_)(E:Z_),Q (.bool (g i j)) s->wpAny (model X.prog X.w) X.A (f (.int i t) (.int j u)) Q E s):
  f9 X f (M6 λi j=>.bl (g i j)):=by
 intro ae s σ H x y v u Q I rx ry h;obtain⟨i,j,rfl,rfl,q⟩:=h;obtain⟨t,rfl⟩:=rx;obtain⟨t',rfl⟩:=ry;exact rule i j t t' s _ _ ⟨.bl (g i j),H,I,rfl,q⟩
def EF(i j:Int):Prop:=0<=j/\j<=1000000/\i.natAbs<2 ^ 64
def GQ(i j:Int):Prop:=(-(2 ^ 64)<i/\i<2 ^ 64)\/(-(2 ^ 64)<j/\j<2 ^ 64)
theorem GQ.ok{i j:Int}(h:GQ i j):IntMulOk i j:=by
 rcases h with⟨h1,h2⟩|⟨h1,h2⟩
 .exact .of_left (intBits_le_64 h1 h2)
 .exact .of_right (intBits_le_64 h1 h2)
theorem Om:f9 X (binaryOp .Add) (M6 λi j=>.int (i+j)):=KA λ_ _ _ _ _ _ _ q=>add_int q
theorem Oo:f9 X (binaryOp .Sub) (M6 λi j=>.int (i-j)):=KA λ_ _ _ _ _ _ _ q=>sub_int q
theorem Oq:f9 X (binaryOp .Mult) (rI GQ λi j=>.int (i*j)):=Su λ_ _ _ _ _ _ _ hc q=>mul_int q hc.ok
theorem KC:f9 X (binaryOp .Mod) (rI (λ_ j=>j≠0) λi j=>.int (i.fmod j)):=Su λ_ _ _ _ _ _ _ hc q=>mod_int' hc q
theorem Ot:f9 X (binaryOp .Pow) (rI EF λi j=>.int (i ^ j.toNat)):=Su λ_ _ _ _ _ _ _ hc q=>pow_int_small hc.1 hc.2.1 hc.2.2 q
theorem KD:f9 X (inplaceOp .Add) (M6 λi j=>.int (i+j)):=KA λ_ _ _ _ _ _ _ q=>iadd_int q
theorem KG:f9 X (inplaceOp .Sub) (M6 λi j=>.int (i-j)):=KA λ_ _ _ _ _ _ _ q=>isub_int q
theorem unI{f:_g->Sem _g}{g:Int->Int}(rule:∀(i:Int)(t:Tok)(s:_h)(Q:Z_)(E:Z_),Q (.int (g i) s.toks) {s with toks:=s.toks+1}->wpAny (model X.prog X.w) X.A (f (.int i t)) Q E s):
  UnR X f (rU λi=>.int (g i)):=by
 intro ae s σ H x v Q I rx h;obtain⟨i,rfl,q⟩:=h;obtain⟨t,rfl⟩:=rx;exact rule i t s _ _ ⟨.int (g i),H,I.tok _,⟨_,rfl⟩,q⟩
theorem Ou:UnR X (unaryOp .USub) (rU λi=>.int (-i)):=unI λ_ _ _ _ _ q=>neg_int q
end
section
variable{X:Cx}{a b c:Expr}{ta tb tc:TE}
theorem Ow{σ:St}{H:Hp}{Q:VK}{k k':Bool}(I:aX X ae σ H s)(q:Q (.bl k) H)(e:k=k'):EP X ae σ Q (.bool k') s:=by subst e;exact⟨.bl k,H,I,rfl,q⟩
theorem Sw:f9 X (compareOp .Lt) (M6 λi j=>.bl (decide (i<j))):=Sv λ_ _ _ _ _ _ _ q=>lt_int q
theorem Sx:f9 X (compareOp .Gt) (M6 λi j=>.bl (decide (j<i))):=Sv λ_ _ _ _ _ _ _ q=>gt_int q
theorem Ox:f9 X (compareOp .Is) (λx y H Q=>y=.cH/\Q (.bl (decide (x=.cH))) H):=by
 intro ae s σ H x y v u Q I rx ry h;obtain⟨rfl,q⟩:=h;cases ry;refine is_none_gen (Ow I q ?_);cases x<;>first
  |(cases rx;rfl)
  |(obtain⟨t,rfl⟩:=rx;rfl)
theorem f9.or{f:_g->_g->Sem _g}{r r':R2}(h:f9 X f r)(h':f9 X f r'):f9 X f (λx y H Q=>r x y H Q\/r' x y H Q):=by
 intro ae s σ H x y v u Q I rx ry q;rcases q with q|q
 .exact h ae s σ H x y v u Q I rx ry q
 .exact h' ae s σ H x y v u Q I rx ry q
theorem GR(b:Expr)(h:op≠.In:=by decide)(h2:op≠.NotIn:=by decide):behindInMarks op b=false:=by
 have e1:(op==CmpOp.In)=false:=by cases op<;>first|rfl|exact absurd rfl h
 have e2:(op==CmpOp.NotIn)=false:=by cases op<;>first|rfl|exact absurd rfl h2
 cases b<;>simp[behindInMarks,e1,e2]
theorem KH{r:R2}(ho:f9 X (compareOp op) r)(ha:PE X a ta)(hb:PE X b tb)(hm:behindInMarks op b=false):PE X (.Compare a [op] [b] pos) (Rt r ta tb):=by intro ae s σ H Q I h;exact wpAny_Compare1 (Ol ha hb I h λv u s2 x y H2 I2 rx ry q=>ho ae s2 σ H2 x y v u Q I2 rx ry q) hm
def Sy(t:TE):TT:=λσ H Q=>t σ H λx H'=>∃k,x=.bl k/\Q k H'
theorem KI{r:R2}(ho:f9 X (compareOp op) r)(ha:PE X a ta)(hb:PE X b tb)(hm:behindInMarks op b=false):PT X (.Compare a [op] [b] pos) (Sy (Rt r ta tb)):=by
 intro ae s σ H Q I h;refine wpAny_isTrue_Compare1 (dR (ha ae s σ H _ I h) λv s1⟨x,H1,I1,r1,q1⟩=>dR (hb ae s1 σ H1 _ I1 q1) λu s2⟨y,H2,I2,r2,q2⟩=>
  dR (ho ae s2 σ H2 x y v u _ I2 r1 r2 q2) λc s3⟨z,H3,I3,r3,k,e,q3⟩=>?_) hm
 subst e;cases r3;exact Xr ⟨H3,I3,q3⟩
theorem oR:(sizeLine:Nat)<2 ^ 63:=by rw[VB];decide
theorem Bw:f9 X (binaryOp .Add) (λx y H Q=>∃i j,x=.str i/\y=.str j/\i.length+j.length<=sizeLine/\Q (.str (i++j)) H):=by intro ae s σ H x y v u Q I rx ry h;obtain⟨i,j,rfl,rfl,hz,q⟩:=h;obtain⟨t,rfl⟩:=rx;obtain⟨t',rfl⟩:=ry;exact add_str (λt' tk=>⟨.str (i++j),H,I.tok _,⟨_,rfl⟩,q⟩) hz
theorem vals1{x:V}{us:_b}(r:bo [x] us):∃u,us=[u]/\bJ x u:=by
 cases r with
 |cons r1 r2=>cases r2;exact⟨_,rfl,r1⟩
theorem vals2{x y:V}{us:_b}(r:bo [x,y] us):∃u w',us=[u,w']/\bJ x u/\bJ y w':=by
 cases r with
 |cons r1 r2=>
  cases r2 with
  |cons r3 r4=>cases r4;exact⟨_,_,rfl,r1,r3⟩
theorem GS:b7 X (.builtin "abs") (λxs H Q=>∃i,xs=[.int i]/\Q (.int (if i<0 then -i else i)) H):=by intro ae s σ H xs us Q I r h;obtain⟨i,rfl,q⟩:=h;obtain⟨u,rfl,t,rfl⟩:=vals1 r;exact call_abs_int λu tk=>⟨.int (if i<0 then -i else i),H,I.tok _,⟨_,rfl⟩,q⟩
end
structure Oy(h:Heap)(x dx C:_i)(mA:Z!):Prop where
 obj:h.get? x=some (W.instObj C dx)
 ns:h.Ns1 dx mA
 ne:dx≠x
theorem EG{mA:Z!}(n:h.Ns1 dx mA):∃od,h.get? dx=some od/\∀name,W.lookIn name od=some (mA name):=by
 obtain⟨o,es,ep,ho,hd,hk,_,hm⟩:=n;refine⟨o,ho,λname=>?_⟩;have e:=hm name;unfold nsFind findBy at e;rw[<-Array.find?_toList]at e;unfold W.lookIn;rw[hd];dsimp only;split
 .rename_i y q;rw[q]at e;exact X5 some e
 .rename_i q;rw[q]at e;have a:es.toList.any (·.refKey)=false:=by rw[List.any_eq_false];intro y hy;obtain⟨z,t,aaw⟩:=hk y (Array.mem_toList_iff.mp hy);simp[DictEntry.refKey,aaw]
  have a':¬ es.toList.any (·.refKey)=true:=by rw[a];exact VQ
  rw[VI a'];exact X5 some e
theorem Oy.look{x:_i}{mA:Z!}(I:Oy h x dx C mA):∃od,W.InstAt h x (W.instObj C dx) C (some od)/\∀name,W.lookIn name od=some (mA name):=
 let⟨od,ho,hl⟩:=EG I.ns
 ⟨od,⟨I.obj,rfl,rfl,ho⟩,hl⟩
theorem uh.some_of{v:V}{o:_c}(r:uh (some v) o):∃u,o=some u/\bJ v u:=by
 cases o with
 |none=>exact(show False from r).elim
 |some u=>exact⟨u,rfl,r⟩
section
variable{w:World}{H H':Hp}{a:_i}{fs fs':List (Str×V)}
theorem KJ(cq:km P w H h)(e:H a=some (.ins C dx fs)):∃mA,Oy h a dx C mA/\(∀f,uh (fs.lookup f) (mA f))/\PySem.Within mA (fs.map (·.1))/\fs.length<=1000/\H dx=some (.own a):=by
 obtain⟨d,z,ne,ob,mA,n,r,q⟩:=(show cY P w H h a (.ins C dx fs)from cq a _ e)
 exact⟨mA,⟨ob,n,ne⟩,r,q,z,d⟩
end
structure Cls(K:Z')(C:_i):Prop where
 pg:W.plainGet K C Str.empty=true
 hd:W.hasDictIn K C=true
 po:W.plainOver K C=true
 sa:W.findIn K (.ref C) "__setattr__" = some (some (.builtin "object.__setattr__"))
theorem Cls.get{K:Z'}(c:Cls K C)(f:Str):W.plainGet K C f=true:=c.pg
section
variable{X:Cx}{σ:St}{H:Hp}{A:_j}{E:Z_}{Q:Z_}{c:_g}{b:Bool}
inductive sD(K:Z')(H:Hp):V->_g->Prop where
 |cH:sD K H .cH (.type "NoneType")
 |bl (x:Bool):sD K H (.bl x) (.type "bool")
 |int (i:Int):sD K H (.int i) (.type "int")
 |str (x:Str):sD K H (.str x) (.type "str")
 |tM (x:UInt64):sD K H (.tM x) (.type "float")
 |lst {a:_i} {xs:List V} (e:H a=some (.lst xs)):sD K H (.ref a) (.type "list")
 |j5 {a:_i} {o:Obj} {xs:List V} (e:H a=some (.j5 o (.lst xs))):sD K H (.ref a) (.type "list")
 |tup {a:_i} {xs:List V} (e:H a=some (.tup xs)):sD K H (.ref a) (.type "tuple")
 |dK {a:_i} {a8:List (fe×V)} (e:H a=some (.dK a8)):sD K H (.ref a) (.type "dict")
 |dT {a:_i} {a8:List (List fe×V)} (e:H a=some (.dT a8)):sD K H (.ref a) (.type "dict")
 |ins {a C dx:_i} {fs:List (Str×V)} (e:H a=some (.ins C dx fs)) (cl:Cls K C) (ha:W.findIn K (.ref C) "__class__" = some (some (.builtin "object.__class__")))
   (hn:W.specialIn K (.builtin "object.__class__") "__get__" = some (some (.builtin "getset_descriptor.__get__"))) (htk:W.takesIn K (.builtin "object.__class__")=some true)
   (hm:W.mroIn K C (.type "object")=some true):sD K H (.ref a) (.ref C)
theorem gI{x:V}{u t:_g}(I:aX X ae σ H s)(rx:bJ x u)(ty:sD X.K H x t)(e:W.kitOne X.K t c=some b)(h:∀tk,Q (.bool b) {s with toks:=tk}):
  wpAny (model X.prog X.w) A (call (.builtin "isinstance") [u,c]) Q E s:=by
 cases ty with
 |cH=>cases(show u=Value.none from rx);exact Ww W.kitx_none I.rY True.intro e (λz=>nomatch z) h
 |bl y=>cases(show u=Value.bool y from rx);exact Ww W.kitx_bool I.rY True.intro e (λz=>nomatch z) h
 |int i=>obtain⟨t,q⟩:=(show ∃t,u=Value.int i t from rx);cases q;exact Ww W.kitx_int I.rY True.intro e (λz=>nomatch z) h
 |str y=>obtain⟨t,q⟩:=(show ∃t,u=Value.str y t from rx);cases q;exact Ww W.kitx_str I.rY True.intro e (λz=>nomatch z) h
 |tM y=>obtain⟨t,q⟩:=(show ∃t,u=Value.float y t from rx);cases q;exact Ww W.kitx_float I.rY True.intro e (λz=>nomatch z) h
 | @lst a xs ea=>
  cases(show u=Value.ref a from rx);obtain⟨_,_,n,_,h1⟩:=(show cY X.prog X.w H s.heap a (.lst xs)from I.cq a _ ea)
  exact Ww ZP I.rY ⟨_,h1,rfl⟩ e (λz=>nomatch z) h
 | @j5 a ob xs ea=>
  cases(show u=Value.ref a from rx);obtain⟨_,_,_,n,_,h1⟩:=(show cY X.prog X.w H s.heap a (.j5 ob (.lst xs))from I.cq a _ ea)
  exact Ww ZP I.rY ⟨_,h1,rfl⟩ e (λz=>nomatch z) h
 | @tup a xs ea=>
  cases(show u=Value.ref a from rx);obtain⟨_,_,_,p⟩:=(show cY X.prog X.w H s.heap a (.tup xs)from I.cq a _ ea)
  obtain⟨o,h1,h2,_⟩:=p;exact Ww ZK I.rY ⟨o,h1,h2⟩ e (λz=>nomatch z) h
 | @dK a a8 ea=>
  cases(show u=Value.ref a from rx);obtain⟨_,_,vs,_,p⟩:=(show cY X.prog X.w H s.heap a (.dK a8)from I.cq a _ ea)
  obtain⟨o,es,ep,h1,h2,_⟩:=p;exact Ww ZQ I.rY ⟨o,h1,h2.1⟩ e (λz=>nomatch z) h
 | @dT a a8 ea=>
  cases(show u=Value.ref a from rx);obtain⟨_,_,xs,_,o,es,ep,h1,h2,_⟩:=(show cY X.prog X.w H s.heap a (.dT a8)from I.cq a _ ea)
  exact Ww ZQ I.rY ⟨o,h1,h2.1⟩ e (λz=>nomatch z) h
 | @ins a C dx fs ea cl ha hn htk hm=>
  cases(show u=Value.ref a from rx);obtain⟨mA,O,_⟩:=KJ I.cq ea;obtain⟨od,J,_⟩:=O.look;exact Ww (W.kitx_own (cl.get _) cl.hd ha hn htk hm) I.rY J e (λz=>nomatch z) h
end
structure fj(k:Nat)(A:_j):Prop where
 hd:A.handled=none
 dp:A.depth+3*k+5<recursionLimit
 un:A.units+16*k+200<cLine
theorem fj.mono{k:Nat}{A:_j}(r:fj k A)(h:j<=k):fj j A:=⟨r.hd,by have:=r.dp;lia,by have:=r.un;lia⟩
theorem fj.deeper{k:Nat}{A:_j}(r:fj (k+1) A)(env:Env):fj k (A.deeper env):=
 ⟨r.hd,by have:=r.dp;show A.depth+1+3*k+5<_;lia,by have:=r.un;show A.units+3+16*k+200<_;lia⟩
theorem fj.in1{k:Nat}{A:_j}(r:fj (k+1) A):fj k A.in1:=
 ⟨r.hd,by have:=r.dp;show A.depth+3*k+5<_;lia,by have:=r.un;show A.units+1+16*k+200<_;lia⟩
theorem fj.depth{k:Nat}{A:_j}(r:fj k A):A.depth<recursionLimit:=by have:=r.dp;lia
theorem fj.units{k:Nat}{A:_j}(r:fj k A):A.units+64<cLine:=by have:=r.un;lia
def SD:TA:=λ_ H Q=>Q [] H
def M7(ta:TE)(tr:TA):TA:=λσ H Q=>ta σ H λx H1=>tr σ H1 λxs H2=>Q (x::xs) H2
section
variable{X:Cx}{te:TE}{t:TA}
theorem ql:PA X [] SD:=λ_ _ _ _ H Q I h=>Calls.spliced_nil ⟨[],H,I,.nil,h⟩
theorem iZ(ha:PE X e te)(hr:PA X es t)(hs:starEach (e::es) X.env=(false,eval e X.env)::starEach es X.env:=by rfl):PA X (e::es) (M7 te t):=by intro pos ae s σ H Q I h;rw[hs];show wpAny _ _ (spliced ((false,eval e X.env)::backTo pos (starEach es X.env))) _ _ s;refine Calls.spliced_cons (dR (ha ae s σ H _ I h) λu s1⟨x,H1,I1,r1,q1⟩=>?_);exact dR (hr pos ae s1 σ H1 _ I1 q1) λus s2⟨xs,H2,I2,r2,q2⟩=>⟨x::xs,H2,I2,.cons r1 r2,q2⟩
def aax(t:TA):TE:=λσ H Q=>t σ H λxs H1=>xs.length<=sizeLine/\∀p,H1 p=none->Q (.ref p) (upd H1 p (.tup xs))
def aay(t:TA):TE:=λσ H Q=>t σ H λxs H1=>xs.length<=sizeLine/\∀p,H1 p=none->Q (.ref p) (upd H1 p (.lst xs))
theorem Oz{x1}(h:PA X es t):PE X (.Tuple es x1 pos) (aax t):=by intro ae s σ H Q I hq;refine wpAny_Tuple_spliced (dR (h pos ae s σ H _ I hq) λus s1⟨xs,H1,I1,r,z,q⟩=>⟨by rw[<-r.length];exact z,?_⟩);have hf:H1 s1.heap.objs.size=none:=I1.cq.fresh (VD _);refine⟨.ref s1.heap.objs.size,upd H1 s1.heap.objs.size (.tup xs),I1.laid (t':=s1.toks) (λb u e=>Vo _ e) (VD _) ?_,rfl,q _ hf⟩;exact⟨z,us,r,⟨_,VS _ rfl,rfl,_,rfl⟩⟩
theorem OA(h:PA X es t):PE X (.List es pos) (aay t):=by intro ae s σ H Q I hq;refine wpAny_List_spliced (dR (h pos ae s σ H _ I hq) λus s1⟨xs,H1,I1,r,z,q⟩=>⟨by rw[<-r.length];exact z,?_⟩);have hf:H1 s1.heap.objs.size=none:=I1.cq.fresh (VD _);refine⟨.ref s1.heap.objs.size,upd H1 s1.heap.objs.size (.lst xs),I1.laid (t':=s1.toks) (λb u e=>Vo _ e) (VD _) ?_,rfl,q _ hf⟩;exact⟨z,us,0,r,VS _ rfl⟩
end
abbrev Sp:=List V->Hp->VK->XK->Prop
abbrev EI:=List Env->Hp->_h->XK->_g->_h->Prop
structure wb(P:_k)(w:World)(K:Z')(mg:Z!)(base:Heap)(A:_j)(outer:List Env)(s:_h)(H:Hp):Prop where
 frames:A.frames=some outer
 mod:Mod K mg base
 bs:∀b o,base.get? b=some o->s.heap.get? b=some o/\H b=none
 Gu:base.objs.size<=s.heap.objs.size
 kq:s.heap.FunFrames base outer
 C1:∀b∈iY outer,H b=none
 cq:km P w H s.heap
 bare:AllBare s.gens
def CE(outer:List Env)(P:_k)(w:World)(H:Hp)(s:_h)(Q:VK)(u:_g)(s':_h):Prop:=
 ∃v H',s'.os=s.os/\AllBare s'.gens/\Un (iY outer) [] H H' s.heap s'.heap/\km P w H' s'.heap/\bJ v u/\Q v H'
def CR(CX:EI)(outer:List Env)(P:_k)(w:World)(H:Hp)(s:_h)(Q:VK)(E:XK)(r:Result)(s':_h):Prop:=
 match r with
 |.ok (.ret u)=>CE outer P w H s Q u s'
 |.ok _=>False
 |.error e=>CX outer H s E e s'
structure qm(P:_k)(w:World)(K:Z')(mg:Z!)(base:Heap)(CX:EI)(k:Nat)(f:_i)(fd:FuncData)(ps:_e)(sp:Sp):Prop where
 len:∀vs H Q E,sp vs H Q E->vs.length=ps.length
 run:∀(A:_j)(outer:List Env)(s:_h)(H:Hp)(args:Args)(us:_b)(vs:List V)(Q:VK)(E:XK),fj k A->wb P w K mg base A outer s H->BindsTo s fd args (ps.zip us)->bo vs us->sp vs H Q E ->
  codeAny (model P w) A (.call (.ref f) args) (CR CX outer P w H s Q E) s
section
variable{X:Cx}{σ:St}{H:Hp}{s':_h}
theorem aX.KL(I:aX X ae σ H s):wb X.prog X.w X.K X.mg X.base X.A X.stack s H:=
 ⟨I.ok.frames,I.ok.mod,I.bs,V? I.ok.Gu I.sz,I.stack,I.xQ,I.cq,I.bare⟩
theorem aX.after{Q:VK}{u:_g}(I:aX X ae σ H s)(h:CE X.stack X.prog X.w H s Q u s'):EP X ae σ Q u s':=by obtain⟨v,H',os,bare,un,cq,r,q⟩:=h;obtain⟨hh,g,d,t,os'⟩:=s';obtain rfl:os'=s.os:=os;exact⟨v,H',I.call (h':=hh) (g':=g) (d':=d) (t':=t) (ch:=[]) un cq bare (λb z=>absurd z (by simp)),r,q⟩
end
def SE(sp:Sp)(xU:List V)(E:XK)(t:TA):TE:=λσ H Q=>t σ H λvs H1=>sp (vs++xU) H1 Q E
def Binds(K:Z')(fd:FuncData)(ps:_e)(ds:_b):Prop:=
 ∀(s:_h)(us:_b),K.In s.heap->(us++ds).length=ps.length->BindsTo s fd ⟨us,[]⟩ (ps.zip (us++ds))
theorem Binds.all{K:Z'}{fd:FuncData}{ps:_e}(h:∀us:_b,us.length=ps.length->bindArgs fd ⟨us,[]⟩=pure (ps.zip us)):Binds K fd ps []:=λs us _ hl=>by rw[V7]at hl⊢;exact .of_eq (h us hl)
def Passes(CX:EI)(X:Cx)(E:XK):Prop:=∀(ae:Z?)(σ:St)(H:Hp)(s:_h)(e:_g)(s':_h),aX X ae σ H s->CX X.stack H s E e s'->X.xe e s'
section
variable{X:Cx}{CX:EI}{k:Nat}{fd:FuncData}{ps:_e}{sp:Sp}{xU:List V}{ds:_b}{E:XK}{x m:Str}{p:Pos}{ta:TE}{t:TA}
theorem OB{σ:St}{H:Hp}{Q:VK}{us:_b}{vs:List V}(F:qm X.prog X.w X.K X.mg X.base CX k f fd ps sp)(hr:fj k X.A)(hb:Binds X.K fd ps ds)(hd:bo xU ds)(hx:Passes CX X E)(I:aX X ae σ H s)(r:bo vs us)(h:sp (vs++xU) H Q E):wpAny (model X.prog X.w) X.A (call (.ref f) us) (EP X ae σ Q) X.xe s:=by
 have r2:bo (vs++xU) (us++ds):=r.append hd;have hl:(us++ds).length=ps.length:=by rw[<-r2.length];exact F.len _ _ _ _ h
 refine Yr (XU (F.run X.A X.stack s H ⟨us,[]⟩ (us++ds) (vs++xU) Q E hr I.KL (hb s us I.rY hl) r2 h) λr s' hq=>?_);cases r with
 |error e=>exact hx ae σ H s e s' I hq
 |ok fl=>
  cases fl with
  |ret u=>exact I.after hq
  |next=>exact False.elim hq
  |brk=>exact False.elim hq
  |cont=>exact False.elim hq
theorem KN(F:qm X.prog X.w X.K X.mg X.base CX k f fd ps sp)(hr:fj k X.A)(hg:Gl X x)(hm:X.mg x=some (.ref f))(hk:W.keepIn X.K (.ref f)=true)(hb:Binds X.K fd ps ds)(hd:bo xU ds)(hx:Passes CX X E)(ha:PA X (e::es) t)(sE:(x==("__debug__":Str))=false:=by decide)(he:starEach (e::es) X.env=(false,eval e X.env)::starEach es X.env:=by rfl)(ko:(backTo pos (starEach es X.env)).any (·.1)=false:=by rfl):
  PE X (.Call (.Name x p) (e::es) [] pos) (SE sp xU E t):=by
 intro ae s σ H Q I h;refine Xi (nM I hg hm ?_ sE);refine YA (h₀:=X.base) I.ok.mod.MZ hk (dR (ha pos ae s σ H _ I h) λus s1⟨vs,H1,I1,r,q⟩=>⟨I1.rY,?_⟩) he ko;exact OB F hr hb hd hx I1 r q
end
def PK(X:Cx)(GU:List Keyword)(t:TA):Prop:=
 ∀(pos:Pos)(ae:Z?)(s:_h)(σ:St)(H:Hp)(Q:List V->Hp->Prop),aX X ae σ H s->t σ H Q->wpAny (model X.prog X.w) X.A (evalAll ((backToKw pos (keywordEach GU X.env)).map (·.2))) (AP X ae σ Q) X.xe s
section
variable{X:Cx}{CX:EI}{k:Nat}{fd:FuncData}{ps ks:_e}{sp:Sp}{E:XK}{x m:Str}{p aaz:Pos}{GU:List Keyword}{te ta:TE}{t tk:TA}{nm:Option Str}
theorem OC:PK X [] SD:=λ_ _ _ _ H Q I h=>wpAny_evalAll_nil ⟨[],H,I,.nil,h⟩
theorem KO(ha:PE X e te)(hr:PK X GU t):PK X (⟨nm,e,aaz⟩::GU) (M7 te t):=by intro pos ae s σ H Q I h;show wpAny _ _ (evalAll ((do let v <- eval e X.env;standAt pos;pure v)::(backToKw pos (keywordEach GU X.env)).map (·.2))) _ _ s;refine wpAny_evalAll_cons (Vl (dR (ha ae s σ H _ I h) λu s1⟨x,H1,I1,r1,q1⟩=>Vl (YO (VA ?_))));exact dR (hr pos ae s1 σ H1 _ I1 q1) λus s2⟨xs,H2,I2,r2,q2⟩=>⟨x::xs,H2,I2,.cons r1 r2,q2⟩
variable{g:_b->_b->_b}{gV:List V->List V->List V}
end
structure fN(N P:_e)(sc:Scope):Prop where
 kind:sc.kind=.function
 co:sc.isCoroutine=false
 gen:sc.isGenerator=false
 nd:N.Nodup
 pre:N.take P.length=P
 par:∀x∈P,sc.names.lookup x=some .local\/sc.names.lookup x=some .cell
 xV:∀y∈sc.names,y.2≠.free
theorem wO{kindOf:Str->Option NameKind}{x:Str}:∀{binds:List (Str×_g)}{m:Z!},(∀v,(x,v) ∉ binds)->bindL kindOf binds m x=m x
 |[],_,_=>rfl
 |(n,v)::r,m,h=>by
  unfold bindL;rw[wO λw hw=>h w (VP _ hw)];split
  .have:x≠n:=by rintro rfl;exact h v VV
   simp[this]
  .rfl
theorem wQ{kindOf:Str->Option NameKind}{x:Str}:∀{binds:List (Str×_g)}{m:Z!},(∀v,(x,v) ∉ binds)->bindC kindOf binds m x=m x
 |[],_,_=>rfl
 |(n,v)::r,m,h=>by
  unfold bindC;rw[wQ λw hw=>h w (VP _ hw)];split
  .rfl
  .have:x≠n:=by rintro rfl;exact h v VV
   simp[this]
theorem wU{kindOf:Str->Option NameKind}{x:Str}{v:_g}:∀{P:_e}{vs:_b}{i:Nat}{m:Z!},P.Nodup->P[i]?=some x->vs[i]?=some v->kindOf x=some .local ->
  bindL kindOf (P.zip vs) m x=some v
 |[],_,_,_,_,h,_,_=>by simp at h
 |_::_,[],_,_,_,_,h,_=>by simp at h
 |p::P,w::vs,0,m,nd,h1,h2,hk=>by simp at h1 h2;subst h1;subst h2;show bindL kindOf ((p,w)::P.zip vs) m p=_;unfold bindL;rw[wO λv hv=>(Xo.mp nd).1 (Xb hv).1,VC hk];simp
 |p::P,w::vs,i+1,m,nd,h1,h2,hk=>by show bindL kindOf ((p,w)::P.zip vs) m x=_;unfold bindL;exact wU (i:=i) (Xo.mp nd).2 (by simpa using h1) (by simpa using h2) hk
theorem wV{kindOf:Str->Option NameKind}{x:Str}{v:_g}:∀{P:_e}{vs:_b}{i:Nat}{m:Z!},P.Nodup->P[i]?=some x->vs[i]?=some v->kindOf x≠some .local ->
  bindC kindOf (P.zip vs) m x=some v
 |[],_,_,_,_,h,_,_=>by simp at h
 |_::_,[],_,_,_,_,h,_=>by simp at h
 |p::P,w::vs,0,m,nd,h1,h2,hk=>by simp at h1 h2;subst h1;subst h2;show bindC kindOf ((p,w)::P.zip vs) m p=_;unfold bindC;rw[wQ λv hv=>(Xo.mp nd).1 (Xb hv).1,VI hk];simp
 |p::P,w::vs,i+1,m,nd,h1,h2,hk=>by show bindC kindOf ((p,w)::P.zip vs) m x=_;unfold bindC;exact wV (i:=i) (Xo.mp nd).2 (by simpa using h1) (by simpa using h2) hk
def start(N:_e)(vs:List V):St:=vs.map some++List.replicate (N.length-vs.length) none
def iI(CX:EI)(P:_k)(w:World)(K:Z')(mg:Z!)(base:Heap)(N:_e)(qual:Str)(scope:Scope)(f:_i)(cd:_g)(A:_j)(outer:List Env)(s:_h)(H:Hp)(E:XK):Cx where
 prog:=P
 w:=w
 K:=K
 mg:=mg
 base:=base
 A:=A.deeper (envOfC qual scope s.heap.objs.size f cd)
 N:=N
 s₀:=s
 H₀:=H
 env:=envOfC qual scope s.heap.objs.size f cd
 outer:=outer
 stack:=envOfC qual scope s.heap.objs.size f cd::outer
 ex:=[]
 calm:=true
 fn:=λ_=>true
 pn:=[]
 xe:=λe s'=>wpAny (model P w) (A.deeper (envOfC qual scope s.heap.objs.size f cd)) (leaving (envOfC qual scope s.heap.objs.size f cd) e) (λ_ kz=>CX outer H s E e kz) (λe' kz=>CX outer H s E e' kz) s'
theorem zR{sc:Scope}{n:Nat}{x:Str}(h:sc.names.lookup x=some .cell):∃c,(cellsFrom n sc.names []).lookup x=some c:=by have q:=Yb sc.names n [] (.inl h);exact Option.isSome_iff_exists.mp q
theorem wW{CX:EI}{w:World}{K:Z'}{mg:Z!}{base:Heap}{N ps:_e}{qual:Str}{scope:Scope}{cd:_g}{A:_j}{outer:List Env}{s1:_h}{H:Hp}{E:XK}{us:_b}{vs:List V}(S:fN N ps scope)(hd:A.handled=none)(e0:wb P w K mg base A outer s H)(hl:vs.length=ps.length)(r:bo vs us)(x:InCallC s s.heap.objs.size (bindL (envOfC qual scope s.heap.objs.size f cd).kindOf (ps.zip us) λ_=>none) (cellsFrom (s.heap.objs.size+1) scope.names []) (bindC (envOfC qual scope s.heap.objs.size f cd).kindOf (ps.zip us) λ_=>none) s1):
  aX (iI CX P w K mg base N qual scope f cd A outer s H E) [] (start N vs) H s1:=by
 have ko:ps.length<=N.length:=by have:=X5 List.length S.pre;rw[Zq]at this;lia
 obtain⟨h1,tk,rfl,hk⟩:=x.done;have Ru:∀b:_i,b ∉ (iI CX P w K mg base N qual scope f cd A outer s H E).ex:=λb z=>absurd (show b∈([]:_d)from z) (by simp);refine⟨⟨e0.mod,S.kind,rfl,rfl,VD _,λy z c h1 h2=>?_,λy hy=>?_,λy c _ h=>?_,λ_=>hd,Around.frames_deeper e0.frames,.inr ⟨rfl,rfl⟩,λb z=>absurd z (Ru b),e0.bs,e0.Gu,λb _ _=>Ru b,λb z=>absurd z (Ru b),e0.kq,e0.C1⟩,
  rfl,e0.bare,Un.kept hk,⟨_,x.toInCall.ns,λi y v h1 h2 h3=>?_⟩,λy c h=>⟨_,x.cell y c h⟩,e0.cq.fresh (VD _),λy c h=>?_,λp hp=>absurd (show p∈([]:Z?)from hp) (by simp),e0.cq.kept hk,?_⟩
 .exact name_of_addr x.apart (WA h1) (WA h2)
 .have hy:scope.names.lookup y=some .cell\/scope.names.lookup y=some .free:=hy;rcases hy with hy|hy
  .exact zR hy
  .exact absurd rfl (S.xV _ (WA hy))
 .exact YH (x.above y c (WA h))
 .have hi:i<vs.length:=by
   unfold start at h2;by_cases hi:i<vs.length
   .exact hi
   .rw[V4 (by simpa using hi)]at h2;rw[Wz]at h2;split at h2<;>cases h2
  have ha:vs[i]?=some v:=by
   unfold start at h2;rw[V6 (by simpa using hi),VM]at h2;cases e:vs[i]? with
   |none=>rw[e]at h2;cases h2
   |some a=>rw[e]at h2;cases h2;rfl
  obtain⟨u,hu,rv⟩:=r.get ha;have hp:ps[i]?=some y:=by rw[<-S.pre,List.getElem?_take_of_lt (by lia)];exact h1
  have ndP:ps.Nodup:=by rw[<-S.pre];exact S.nd.sublist (List.take_sublist _ _)
  refine⟨u,rv,?_⟩;rcases S.par y (Wc hp)with k|k
  .exact .inl ⟨k,wU ndP hp hu k⟩
  .obtain⟨c,e⟩:=zR (n:=s.heap.objs.size+1) k;refine .inr ⟨.inl k,c,e,?_⟩;have q:=x.cell y c e;rw[wV ndP hp hu (by show scope.names.lookup y≠_;rw[k];decide)]at q;exact q
 .exact e0.cq.fresh (YH (x.above y c (WA h)))
 .unfold start;show _=N.length;rw[Vv,Vq,VY];lia
theorem M8{CX:EI}{w:World}{K:Z'}{mg:Z!}{base:Heap}{k:Nat}{qual:Str}{params:Arguments}{body:List Stmt}{scope:Scope}{dV kV ct:_g}{N ps:_e}{sp:Sp}(lk:K.lookup f=some ⟨oc,od,.func (W.fnOf name qual params body scope dV kV doc pm an fF ct),C7⟩)(qi:W.codeIn K fF qual=true)(S:fN N ps scope)(len:∀vs H Q E,sp vs H Q E->vs.length=ps.length)
  (zS:∀ (A:_j) (outer:List Env) (s:_h) (H:Hp) (vs:List V) (Q:VK) (E:XK),fj k (A.deeper (envOfC qual scope s.heap.objs.size f fF))->sp vs H Q E ->
   ∃t,l? (iI CX P w K mg base N qual scope f fF A outer s H E) body t/\t {nx:=λ_ H'=>Q .cH H',rt:=Q} (start N vs) H):
  qm P w K mg base CX (k+1) f (W.fnOf name qual params body scope dV kV doc pm an fF ct) ps sp:=by
 refine⟨len,λA outer s H args us vs Q E hr e0 hb r Rv=>?_⟩;have hl:=len _ _ _ _ Rv;have KX:K.In s.heap:=e0.mod.MZ.keeps λb o e=>(e0.bs b o e).1;have lim:s.heap.NoLimit:=e0.mod.nolimit.keeps λb o e=>(e0.bs b o e).1;have GV:∀y∈ps.zip us,scope.names.lookup y.1=some .local\/(scope.names.lookup y.1=some .cell/\((cellsFrom (s.heap.objs.size+1) scope.names []).lookup y.1).isSome=true):=λ⟨n,v⟩hy=>by
  rcases S.par n (Xb hy).1 with q|q
  .exact .inl q
  .exact .inr ⟨q,Yb _ _ _ (.inl q)⟩
 refine Z7 hr.depth (KX _ _ lk) rfl S.co S.gen rfl (ZL KX qi) (hb _ _ _ _ ?_);refine Zy S.kind GV λenv he s1 x=>?_;subst he;refine⟨lim.keeps x.toInCall.keep,codeAny_func ?_⟩;obtain⟨t,ht,hq⟩:=zS A outer s H vs Q E (hr.deeper _) Rv;have I:aX (iI CX P w K mg base N qual scope f fF A outer s H E) [] (start N vs) H s1:=wW S hr.hd e0 hl r x;refine Wm (ht [] s1 (start N vs) H _ I hq) (λfl s' hs=>?_) λe s' hs=>hs;have fin:∀{σ':St}{H':Hp}{v:V}{u:_g},aX (iI CX P w K mg base N qual scope f fF A outer s H E) [] σ' H' s'->bJ v u->Q v H'->CE outer P w H s Q u s':=
  λ{σ' H' v u}J rv q=>⟨v,H',J.os,J.bare,J.base,J.cq,rv,q⟩
 cases fl with
 |ret u=>
  obtain⟨v,σ',H',J,rv,q⟩:=hs;exact fin J rv q
 |next=>
  obtain⟨σ',H',J,q⟩:=hs;exact fin (v:=V.cH) (u:=Value.none) J rfl q
 |brk=>
  obtain⟨_,_,_,q⟩:=hs;exact False.elim q
 |cont=>
  obtain⟨_,_,_,q⟩:=hs;exact False.elim q
section
variable{X:Cx}{x:Str}{p:Pos}{t:TA}{id T:String}{r:List V->Hp->VK->Prop}
def tCB(r:List V->Hp->VK->Prop)(t:TA):TE:=λσ H Q=>t σ H λvs H1=>r vs H1 Q
theorem pF(hc:b7 X (.builtin id) r)(hg:Gl X x)(hm:X.mg x=none)(hv:bootBuiltins x=some (.builtin id))(ha:PA X (e::es) t)(hn:x ≠ "__name__":=by decide)(sE:(x==("__debug__":Str))=false:=by decide)(he:starEach (e::es) X.env=(false,eval e X.env)::starEach es X.env:=by rfl)(ko:(backTo pos (starEach es X.env)).any (·.1)=false:=by rfl):PE X (.Call (.Name x p) (e::es) [] pos) (tCB r t):=by intro ae s σ H Q I h;refine Xi (kr I hg hm hv ?_ hn sE);exact PyProof.Rows.callWith_builtin1 (dR (ha pos ae s σ H _ I h) λus s1⟨vs,H1,I1,r1,q1⟩=>hc ae s1 σ H1 vs us Q I1 r1 q1) he ko
theorem EJ(hc:b7 X (.type T) r)(hg:Gl X x)(hm:X.mg x=none)(hv:bootBuiltins x=some (.type T))(ha:PA X (e::es) t)(hn:x ≠ "__name__":=by decide)(sE:(x==("__debug__":Str))=false:=by decide)(he:starEach (e::es) X.env=(false,eval e X.env)::starEach es X.env:=by rfl)(ko:(backTo pos (starEach es X.env)).any (·.1)=false:=by rfl):PE X (.Call (.Name x p) (e::es) [] pos) (tCB r t):=by intro ae s σ H Q I h;refine Xi (kr I hg hm hv ?_ hn sE);exact WH (dR (ha pos ae s σ H _ I h) λus s1⟨vs,H1,I1,r1,q1⟩=>hc ae s1 σ H1 vs us Q I1 r1 q1) he ko
end
end L2
variable {H H' H₀:L2.Hp}
variable {w:World}
variable {X:L2.Cx}
variable {N:List Str}
variable {A:Around}
variable {E:L2.XK}
variable {Q:L2.VK}
variable {σ:L2.St}
variable {te td:L2.TE}
variable {wi:L2.TI}
variable {prog:Program}
variable {CX:L2.EI}
variable {sp:L2.Sp}
variable {base:Heap}
variable {tt:L2.TT}
variable {J:L2.It}
variable {D:L2.Ends}
variable {ns bs:_a}
namespace HT
open PyProof.Rows
section
variable{E:Z_}
theorem KP{t b:_i}{ws:_b}{Q:Z_}(ht:IsTup s.heap t vs.toArray)(hb:IsTup s.heap b ws.toArray)(hv:vs≠[])(h1:ws=[]->Q (.ref t) s)(h2:ws≠[]->Q (.ref s.heap.objs.size) {s with heap:=s.heap.push {cls:=.type "tuple",data:=.seq (vs++ws).toArray} })(hsz:vs.length+ws.length<=sizeLine):wpAny (model prog w) A (binaryOp .Add (.ref t) (.ref b)) Q E s:=by
 obtain⟨⟨cls,dd,data,sl⟩,ho,hc,n,hd⟩:=id ht;obtain⟨⟨aaA,dd2,data2,SF⟩,Gv,zT,n2,hd2⟩:=id hb;simp only at hc hd zT hd2;subst hc hd zT hd2;have e:vs.toArray++ws.toArray=(vs++ws).toArray:=by simp
 by_cases hw:ws=[]
 .exact ZZ ⟨_,ho,rfl⟩ ⟨_,Gv,rfl⟩ Zb ZF Yc X' (X9 _ _)
   (tuple_addW1 t b vs.toArray ws.toArray n n2 dd dd2 sl SF (by simpa using hv) (by simp[hw])) ⟨ho,Gv,h1 hw⟩
 .refine ZZ ⟨_,ho,rfl⟩ ⟨_,Gv,rfl⟩ Zb ZF Yc X' (X9 _ _)
   (tuple_addW2 t b vs.toArray ws.toArray n n2 dd dd2 sl SF (by simpa using hv) (by simpa using hw) (by rw[VG,VG];exact hsz)) ⟨ho,Gv,?_⟩
  rw[e];exact h2 hw
def gM(n d:Nat):Option Int->Nat
 |none=>d
 |some v=>if v<0 then(v+(n:Int)).toNat else min v.toNat n
theorem uk(n d:Nat):gM n d none=d:=rfl
theorem xW(n d k:Nat):gM n d (some (k:Int))=min k n:=by show(if(k:Int)<0 then((k:Int)+(n:Int)).toNat else min (k:Int).toNat n)=min k n;rw[VI (by lia),WR]
theorem OD(n d:Nat)(hd:d<=n)(o:Option Int):gM n d o<=n:=by
 cases o with
 |none=>exact hd
 |some v=>
  show(if v<0 then(v+(n:Int)).toNat else min v.toNat n)<=n;by_cases hv:v<0
  .rw[VC hv];lia
  .rw[VI hv];exact Nat.min_le_right _ _
theorem C8(v:Int)(n d:Nat):(if v<0 then max (v+(n:Int)) 0 else min v (n:Int))=((gM n d (some v):Nat):Int):=by
 show(if v<0 then max (v+(n:Int)) 0 else min v (n:Int))=(((if v<0 then(v+(n:Int)).toNat else min v.toNat n):Nat):Int);by_cases hv:v<0
 .simp only[VC hv];lia
 .simp only[VI hv];lia
theorem Bx(lo hi:Option Int)(n:Nat):Builtin.Slice.sliceAdjust lo hi 1 (n:Int)=(((gM n 0 lo:Nat):Int),((gM n n hi:Nat):Int)):=by
 have h1:¬ ((1:Int)<0):=by lia
 unfold Builtin.Slice.sliceAdjust;simp only[h1,XM];refine Prod.ext ?_ ?_
 .cases lo with
  |none=>rfl
  |some v=>exact C8 v n 0
 .cases hi with
  |none=>rfl
  |some v=>exact C8 v n n
theorem By(i j:Nat):Builtin.Slice.slicePlaces (i:Int) (j:Int) 1=j-i:=by
 unfold Builtin.Slice.slicePlaces;have h1:(1:Int)>0:=by lia
 simp only[h1,YR,Int.ediv_one];split<;>lia
theorem um{v:_g}{o:Option Int}{Q:Option Int->_h->Prop}(p:IsPart v o)(h:Q o s):wpAny (model prog w) A (Builtin.Slice.slicePartIndex v) Q E s:=by
 cases p with
 |none=>exact slicePart_none h
 |int i t=>exact slicePart_int h
theorem qo{sl:_i}{vl vu:_g}{lo hi:Option Int}{n:Nat}{Q:Int×Int×Nat->_h->Prop}(hs:s.heap.IsSliceOf sl vl vu .none)(pl:IsPart vl lo)(pu:IsPart vu hi)(h:Q (((gM n 0 lo:Nat):Int),1,gM n n hi-gM n 0 lo) s):wpAny (model prog w) A (Builtin.Slice.sliceApplied (.ref sl) (pure (n:Int))) Q E s:=by obtain⟨os,SG,Rw,hds⟩:=id hs;unfold Builtin.Slice.sliceApplied Builtin.Slice.sliceFields;refine Vl (Vl (Wq SG hds (x:=vl) rfl (Vl (Wq SG hds (x:=vu) rfl (Vl (Wq SG hds (x:=.none) rfl (VA ?_)))))));refine Vl (slicePart_none ?_);show wpAny _ _ (if((1:Int)==0)=true then _ else _) _ _ s;rw[VI (by decide)];refine Vl (um pl (Vl (um pu (Vl (VA ?_)))));show wpAny _ _ (match Builtin.Slice.sliceAdjust lo hi 1 (n:Int) with|(lo,hi)=>pure (lo,(1:Int),Builtin.Slice.slicePlaces lo hi 1)) _ _ s;rw[Bx lo hi n];show wpAny _ _ (pure (((gM n 0 lo:Nat):Int),(1:Int),Builtin.Slice.slicePlaces ((gM n 0 lo:Nat):Int) ((gM n n hi:Nat):Int) 1)) _ _ s;rw[By];exact VA h
theorem GW(xs:Array _g)(i k:Nat):((List.range k).filterMap λ(m:Nat)=>xs[((i:Int)+(m:Int)*1).toNat]?).toArray=((xs.toList.drop i).take k).toArray:=by
 have e:(λ(m:Nat)=>xs[((i:Int)+(m:Int)*1).toNat]?)=λm=>xs[i+m]?:=by
  funext m;have:((i:Int)+(m:Int)*1).toNat=i+m:=by lia
  rw[this]
 rw[e];have:=pick_run xs i k;rw[List.filterMap_map]at this;have e2:((λx=>xs[x]?) ∘ λx=>i+x)=λm=>xs[i+m]?:=rfl;rw[e2]at this;rw[this]
theorem pG{t sl:_i}{vl vu:_g}{lo hi:Option Int}{Q:Z_}(ht:IsTup s.heap t items)(hs:s.heap.IsSliceOf sl vl vu .none)(pl:IsPart vl lo)(pu:IsPart vu hi)(hw:¬ (gM items.size 0 lo=0/\gM items.size items.size hi=items.size))(h:Q (.ref s.heap.objs.size) {s with heap:=s.heap.push {cls:=.type "tuple",data:=.seq ((items.toList.drop (gM items.size 0 lo)).take (gM items.size items.size hi-gM items.size 0 lo)).toArray} })(hsz:items.size<=sizeLine):wpAny (model prog w) A (getItem (.ref t) (.ref sl)) Q E s:=by
 have C_:sizeOk (.seq ((items.toList.drop (gM items.size 0 lo)).take (gM items.size items.size hi-gM items.size 0 lo)).toArray):=by show((items.toList.drop (gM items.size 0 lo)).take (gM items.size items.size hi-gM items.size 0 lo)).toArray.size<=sizeLine;rw[VG,Zq,XA,V2];lia
 have hj:gM items.size items.size hi<=items.size:=OD _ _ (VD _) hi;obtain⟨os,SG,Rw,hds⟩:=id hs;have hTs:s.TypeIs (.ref sl) "slice":=⟨os,SG,Rw⟩
 unfold getItem
 try with_reducible refine WX ?_
 first|refine Vl (VA ?_)|skip
 refine Vl (wpAny_sequenceKey ht.typeIs (by decide) ?_);refine Vl (WM (name:=Str.ofString "__getitem__") ht.typeIs XN
  (WW XN ht.typeIs entry_tuple_getitem ?_ (args_tuple_getitem _ _)))
 show wpAny _ _ (Builtin.Tuple.tupleItemsOf (.ref t) >>= _) _ _ s;refine Vl (tupleItemsOf_ ht ?_);refine Vl (wpAny_typeOf hTs ?_);rw[VC (by decide)];refine Vl (qo hs pl pu ?_);have SH:¬ ((((gM items.size 0 lo:Nat):Int)==0&&(1:Int)==1&&(gM items.size items.size hi-gM items.size 0 lo)==items.size)=true):=by intro q;rw[Wy,Wy]at q;have q1:((gM items.size 0 lo:Nat):Int)=0:=eq_of_beq q.1.1;have q2:gM items.size items.size hi-gM items.size 0 lo=items.size:=eq_of_beq q.2;exact hw ⟨by lia,by lia⟩
 show wpAny _ _ (if(((gM items.size 0 lo:Nat):Int)==0&&(1:Int)==1&&(gM items.size items.size hi-gM items.size 0 lo)==items.size)=true then _ else _) _ _ s;rw[VI SH,GW]
 first
  |exact Vl (m:=Builtin.Tuple.tupleExact _) (Wv (VA ⟨_,rfl,VA h⟩) C_)
  |exact Vl (m:=Builtin.Tuple.tupleExact _) (Wv (Vl (VA (VA ⟨_,rfl,VA h⟩))) C_)
  |exact Vl (Vl (m:=Builtin.Tuple.tupleExact _) (Wv (VA (VA ⟨_,rfl,VA h⟩)) C_))
  |exact Vl (Vl (m:=Builtin.Tuple.tupleExact _) (Wv (VA ⟨_,rfl,VA h⟩) C_))
end
end HT
namespace L2
open PySem.Spec PyProof.Rows
abbrev TO:=St->Hp->(Option Int->Hp->Prop)->Prop
def PO(X:Cx)(e:Option Expr)(t:TO):Prop:=
 ∀(ae:Z?)(s:_h)(σ:St)(H:Hp)(Q:Option Int->Hp->Prop),aX X ae σ H s->t σ H Q ->
  wpAny (model X.prog X.w) X.A (evalPart e X.env) (λu s'=>∃o H',aX X ae σ H' s'/\IsPart u o/\Q o H') X.xe s
def KQ:TO:=λ_ H Q=>Q none H
def SI(t:TE):TO:=λσ H Q=>t σ H λx H1=>∃i,x=.int i/\Q (some i) H1
section
variable{lo hi:Option Expr}{tl th:TO}
theorem KR:PO X none KQ:=by intro ae s σ H Q I h;rw[ZG];exact VA ⟨none,H,I,.none,h⟩
theorem KS(h:PE X e te):PO X (some e) (SI te):=by intro ae s σ H Q I hw;rw[evalPart_some];refine dR (h ae s σ H _ I hw) λu s1⟨x,H1,I1,r1,q1⟩=>?_;obtain⟨i,rfl,q⟩:=q1;obtain⟨t,rfl⟩:=r1;exact⟨some i,H1,I1,.int i t,q⟩
def M9(X:Cx)(r:V->Option Int->Option Int->Hp->VK->Prop):Prop:=
 ∀(ae:Z?)(s:_h)(σ:St)(H:Hp)(x:V)(v vl vu:_g)(lo hi:Option Int)(sl:_i)(Q:VK),aX X ae σ H s->bJ x v->s.heap.IsSliceOf sl vl vu .none->IsPart vl lo->IsPart vu hi->r x lo hi H Q ->
  ∃T id,typeLookup (.type T) "__getitem__" = pure (some (.builtin id))/\s.TypeIs v T/\wpAny (model X.prog X.w) X.A (getItem v (.ref sl)) (EP X ae σ Q) X.xe s
theorem M9.or{r r':V->Option Int->Option Int->Hp->VK->Prop}(h:M9 X r)(h':M9 X r'):M9 X (λx lo hi H Q=>r x lo hi H Q\/r' x lo hi H Q):=by
 intro ae s σ H x v vl vu lo hi sl Q I rx hs pl pu q;rcases q with q|q
 .exact h ae s σ H x v vl vu lo hi sl Q I rx hs pl pu q
 .exact h' ae s σ H x v vl vu lo hi sl Q I rx hs pl pu q
def tSl(r:V->Option Int->Option Int->Hp->VK->Prop)(te:TE)(tl th:TO):TE:=λσ H Q=>te σ H λx H1=>tl σ H1 λl H2=>th σ H2 λu H3=>r x l u H3 Q
theorem GX{r:V->Option Int->Option Int->Hp->VK->Prop}(hr:M9 X r)(he:PE X e te)(hl:PO X lo tl)(hu:PO X hi th):PE X (.Subscript e (.Slice lo hi none p2) pos) (tSl r te tl th):=by intro ae s σ H Q I h;refine Subscript_ (dR (he ae s σ H _ I h) λv s1⟨x,H1,I1,r1,q1⟩=>?_);refine wpAny_Slice (dR (hl ae s1 σ H1 _ I1 q1) λvl s2⟨l,H2,I2,pl,q2⟩=>dR (hu ae s2 σ H2 _ I2 q2) λvu s3⟨u,H3,I3,pu,q3⟩=>?_);rw[ZG];refine VA ?_;have I4:aX X ae σ H3 {s3 with heap:=s3.heap.push {cls:=.type "slice",data:=.fields #[vl,vu,.none]} }:=I3.kept (t':=s3.toks) λb ob q=>Vo _ q;obtain⟨T,id,hT,ht,hg⟩:=hr ae {s3 with heap:=s3.heap.push {cls:=.type "slice",data:=.fields #[vl,vu,.none]} } σ H3 x v vl vu l u s3.heap.objs.size Q I4 r1 (Heap.IsSliceOf.new ..) pl pu q3;show wpAny (model X.prog X.w) X.A (subscriptTail e (.Slice lo hi none p2) v (.ref s3.heap.objs.size)) (EP X ae σ Q) X.xe {s3 with heap:=s3.heap.push {cls:=.type "slice",data:=.fields #[vl,vu,.none]} };exact tail_any (ops:=[.ref s3.heap.objs.size,v]) ht hT hg (by with_unfolding_all rfl)
def xX(xs:List V)(lo hi:Option Int):List V:=(xs.drop (HT.gM xs.length 0 lo)).take (HT.gM xs.length xs.length hi-HT.gM xs.length 0 lo)
theorem rZ(xs:List V)(lo hi:Option Int):(xX xs lo hi).length<=xs.length:=by unfold xX;rw[Zq,XA];lia
def aaB(K:Z'):V->Option Int->Option Int->Hp->VK->Prop:=λx lo hi H Q=>∃a xs,x=.ref a/\oC K H a xs /\
 ¬ (HT.gM xs.length 0 lo=0/\HT.gM xs.length xs.length hi=xs.length)/\∀p,H p=none->Q (.ref p) (upd H p (.tup (xX xs lo hi)))
theorem OE:M9 X (aaB X.K):=by
 intro ae s σ H x v vl vu lo hi sl Q I rx hs pl pu h;obtain⟨a,xs,rfl,hx,hw,q⟩:=h;cases rx;obtain⟨aP,r,ht,hz⟩:=I.tuple hx;have hlen:aP.toArray.size=xs.length:=by rw[VG];exact r.length.symm
 refine⟨"tuple",_,XN.lookup,ht.typeIs,?_⟩;refine HT.pG ht hs pl pu (by rw[hlen];exact hw) ?_ (by rw[hlen];exact hz);rw[hlen];refine⟨.ref s.heap.objs.size,_,I.laid (t':=s.toks) (o:=.tup (xX xs lo hi)) (λb ob q=>Vo _ q) (VD _) ?_,rfl,q _ (I.cq.fresh (VD _))⟩;exact⟨V? (rZ xs lo hi) hz,_,(r.drop (HT.gM xs.length 0 lo)).take (HT.gM xs.length xs.length hi-HT.gM xs.length 0 lo),IsTup.new _ _⟩
def SJ(K:Z'):R2:=λx y H Q=>∃a b xs ys,x=.ref a/\y=.ref b/\oC K H a xs/\oC K H b ys/\xs≠[]/\xs.length+ys.length<=sizeLine /\
 (ys=[]->Q (.ref a) H)/\(ys≠[]->∀p,H p=none->Q (.ref p) (upd H p (.tup (xs++ys))))
theorem bo.xY{xs:List V}{us:_b}(r:bo xs us):us=[]↔xs=[]:=by
 cases r with
 |nil=>simp
 |cons _ _=>simp
theorem KU:f9 X (binaryOp .Add) (SJ X.K):=by intro ae s σ H x y v u Q I rx ry h;obtain⟨a,b,xs,ys,rfl,rfl,ha,hb,hx,hz,q1,q2⟩:=h;cases rx;cases ry;obtain⟨aP,r1,p1,_⟩:=I.tuple ha;obtain⟨eI,r2,p2,_⟩:=I.tuple hb;refine HT.KP p1 p2 (λz=>hx (r1.xY.mp z)) (λz=>⟨.ref a,H,I,rfl,q1 (r2.xY.mp z)⟩) (λz=>?_) (by rw[<-r1.length,<-r2.length];exact hz);refine⟨.ref s.heap.objs.size,_,I.laid (t':=s.toks) (o:=.tup (xs++ys)) (λb ob q=>Vo _ q) (VD _) ?_,rfl,q2 (λw=>z (r2.xY.mpr w)) _ (I.cq.fresh (VD _))⟩;exact⟨by rw[Vv];exact hz,_,r1.append r2,IsTup.new _ _⟩
end
def zU(n:Nat)(i:Int):Option Nat:=if 0<=i then(if i<n then some i.toNat else none)else if -(n:Int)<=i then some (i+n).toNat else none
def lM(xs:List α)(i:Int):Option α:=(zU xs.length i).bind λj=>xs[j]?
theorem C!{n:Nat}{i:Int}(h:zU n i=some j):seqIndex? i n=some j/\j<n/\-(n:Int)<=i/\i<n:=by
 unfold zU at h;by_cases h0:0<=i
 .rw[VC h0]at h;by_cases h1:i<n
  .rw[VC h1]at h;have e:i.toNat=j:=VR h;exact⟨by rw[Zf h0 h1,e],by lia,by lia,h1⟩
  .rw[VI h1]at h;cases h
 .rw[VI h0]at h;by_cases h1:-(n:Int)<=i
  .rw[VC h1]at h;have e:(i+n).toNat=j:=VR h;exact⟨by rw[Y5 (by lia) h1,e],by lia,h1,by lia⟩
  .rw[VI h1]at h;cases h
theorem tO{xs:List α}{i:Int}{v:α}(h:lM xs i=some v):∃j,seqIndex? i xs.length=some j/\xs[j]?=some v/\j<xs.length/\-(xs.length:Int)<=i/\i<xs.length:=by
 unfold lM at h;cases e:zU xs.length i with
 |none=>rw[e]at h;cases h
 |some j=>
  rw[e]at h;obtain⟨h1,h2,h3,h4⟩:=C! e;exact⟨j,h1,h,h2,h3,h4⟩
theorem i_{xs:List α}{v:α}(h:xs[j]?=some v):lM xs (j:Int)=some v:=by
 have hj:j<xs.length:=(V!.mp h).1;have e:zU xs.length (j:Int)=some j:=by unfold zU;rw[VC (by lia),VC (by lia)];simp
 unfold lM;rw[e];exact h
theorem GY(xs:List α)(v:α):lM (xs++[v]) (-1)=some v:=by
 have hl:(xs++[v]).length=xs.length+1:=by simp
 have e:zU (xs++[v]).length (-1)=some xs.length:=by unfold zU;rw[hl,VI (by decide),VC (by lia)];congr 1;lia
 unfold lM;rw[e];show(xs++[v])[xs.length]?=some v;simp
def xZ(b:Expr):Prop:=∀o i,subscripted b false o i=operate [o,i] (getItem o i)
def Bj(X:Cx)(r:R2):Prop:=
 ∀(value slice:Expr)(ae:Z?)(s:_h)(σ:St)(H:Hp)(x y:V)(v u:_g)(Q:VK),aX X ae σ H s->bJ x v->bJ y u->r x y H Q ->
  subscripted slice false v u=operate [v,u] (getItem v u)->wpAny (model X.prog X.w) X.A (subscriptTail value slice v u) (EP X ae σ Q) X.xe s
def MtR(X:Cx)(id:String)(r:V->List V->Hp->VK->Prop):Prop:=
 ∀(ae:Z?)(s:_h)(σ:St)(H:Hp)(x:V)(xs:List V)(v:_g)(us:_b)(Q:VK),aX X ae σ H s->bJ x v->bo xs us->r x xs H Q ->
  wpAny (model X.prog X.w) X.A (call (.builtin id) (v::us)) (EP X ae σ Q) X.xe s
section
variable{a b:Expr}{ta tb:TE}
theorem Bj.or{r r':R2}(h:Bj X r)(h':Bj X r'):Bj X (λx y H Q=>r x y H Q\/r' x y H Q):=by
 intro value slice ae s σ H x y v u Q I rx ry q hs;rcases q with q|q
 .exact h value slice ae s σ H x y v u Q I rx ry q hs
 .exact h' value slice ae s σ H x y v u Q I rx ry q hs
theorem SK{r:R2}(hr:Bj X r)(ha:PE X a ta)(hb:PE X b tb)(hs:xZ b):PE X (.Subscript a b pos) (Rt r ta tb):=by intro ae s σ H Q I h;exact Subscript_ (Ol ha hb I h λv u s2 x y H2 I2 rx ry q=>hr a b ae s2 σ H2 x y v u Q I2 rx ry q (hs _ _))
def SM(K:Z'):R2:=λx y H Q=>∃p xs i v,x=.ref p/\y=.int i/\nN K H p xs/\lM xs i=some v/\Q v H
def aaC(K:Z'):R2:=λx y H Q=>∃p xs i v,x=.ref p/\y=.int i/\oC K H p xs/\lM xs i=some v/\Q v H
def aaD:R2:=λx y H Q=>∃z i c,x=.str z/\y=.int i/\z.length<=sizeLine/\lM z.cps.toList i=some c/\Q (.str ⟨#[c]⟩) H
theorem KW:Bj X (SM X.K):=by
 intro value slice ae s σ H x y v u Q I rx ry h hs;obtain⟨p,xs,i,z,rfl,rfl,hq,he,q⟩:=h;cases rx;obtain⟨t,rfl⟩:=ry;obtain⟨aP,r,pl,hz⟩:=I.list hq;obtain⟨j,h1,h2,h3,h4,h5⟩:=tO he;obtain⟨w,ew,x_⟩:=r.get h2;have hl:=r.length;have hn:=oR;have fin:EP X ae σ Q w s:=⟨z,H,I,x_,q⟩
 by_cases h0:0<=i
 .have hj:i.toNat=j:=by rw[Zf h0 h5]at h1;exact VR h1
  exact item_listR pl.isList h0 (by lia) (by rw[hj];simpa using ew) fin hs
 .have hj:(i+(aP.toArray.size:Int)).toNat=j:=by rw[Y5 (by lia) h4]at h1;rw[VG,<-hl];exact VR h1
  exact subscriptTail_builtinR (x:=w) pl.isList.typeIs Y4.lookup
   (ZX (Q:=λr s'=>r=w/\EP X ae σ Q r s') pl.isList (by lia) (by rw[VG]<;>lia) (by lia) (by rw[hj];simpa using ew) ⟨rfl,fin⟩) hs
theorem bK:Bj X (aaC X.K):=by
 intro value slice ae s σ H x y v u Q I rx ry h hs;obtain⟨p,xs,i,z,rfl,rfl,hq,he,q⟩:=h;cases rx;obtain⟨t,rfl⟩:=ry;obtain⟨aP,r,pl,hz⟩:=I.tuple hq;obtain⟨j,h1,h2,h3,h4,h5⟩:=tO he;obtain⟨w,ew,x_⟩:=r.get h2;have hl:=r.length;have hn:=oR;have fin:EP X ae σ Q w s:=⟨z,H,I,x_,q⟩
 exact subscriptTail_builtinR (x:=w) pl.typeIs slot_tuple_getitem.lookup
  (getItem_tuple (j:=j) (Q:=λr s'=>r=w/\EP X ae σ Q r s') pl (by lia) (by lia) (by rw[VG,<-hl];exact h1) (by simpa using ew) ⟨rfl,fin⟩) hs
theorem OF:Bj X aaD:=by
 intro value slice ae s σ H x y v u Q I rx ry h hs;obtain⟨z,i,c,rfl,rfl,hz,he,q⟩:=h;obtain⟨t,rfl⟩:=rx;obtain⟨t',rfl⟩:=ry;obtain⟨j,h1,h2,h3,h4,h5⟩:=tO he;have hl:z.cps.toList.length=z.length:=by simp[Str.length]
 rw[hl]at h1 h4 h5;have hn:=oR;exact tail_any (typeIs_str s z t) slot_str_getitem.lookup (getItem_str (c:=c) (by
  have e1:decide (i < -(2 ^ 63:Int))=false:=VT (by lia);have e2:decide (i ≥ 2 ^ 63)=false:=VT (by lia);rw[e1,e2,Bool.or_false]) (by rw[h1];simpa using h2) ⟨.str ⟨#[c]⟩,H,I.tok _,⟨_,rfl⟩,q⟩) hs
theorem Bz(aP:_b)(n j:Nat)(u:_g):Obj.mapSeq (·.setIfInBounds j u) {cls:=.type "list",data:=.seq aP.toArray n} = {cls:=.type "list",data:=.seq (aP.set j u).toArray n}:=by simp[Obj.mapSeq]
theorem aX.lst{ae:Z?}{σ:St}{H:Hp}{s:_h}{p:_i}{xs:List V}(I:aX X ae σ H s)(h:H p=some (.lst xs)):
  ∃(aP:_b)(n:Nat),bo xs aP/\s.heap.get? p=some {cls:=.type "list",data:=.seq aP.toArray n}/\xs.length<=sizeLine:=by
 obtain⟨z,aP,n,r,e⟩:=I.cq p _ h;exact⟨aP,n,r,e,z⟩
theorem aX.OG{p:_i}{xs ys:List V}{its':_b}{n n':Nat}{f:Obj->Obj}(I:aX X ae σ H s)(h:H p=some (.lst xs))(ho:s.heap.get? p=some {cls:=.type "list",data:=.seq aP.toArray n})(hf:f {cls:=.type "list",data:=.seq aP.toArray n} = {cls:=.type "list",data:=.seq its'.toArray n'})(r:bo ys its')(hz:ys.length<=sizeLine)(t:Nat):
  aX X ae σ (upd H p (.lst ys)) {s with heap:=s.heap.update p f,toks:=t}:=by
 have e:(s.heap.update p f).get? p=some {cls:=.type "list",data:=.seq its'.toArray n'}:=by rw[W_ f ho (by rw[hf]<;>rfl),hf]
 refine I.write (x:=p) (e:=p) (by rw[h];trivial) (.inl rfl) (λb u hb q=>(Wj _ _ (W? hb)).trans q) ⟨_,e⟩ ?_;exact⟨hz,its',n',r,e⟩
def M_:V->V->V->Hp->(Hp->Prop)->Prop:=λo i v H Q=>∃p xs k j,o=.ref p/\i=.int k/\H p=some (.lst xs)/\zU xs.length k=some j/\Q (upd H p (.lst (xs.set j v)))
theorem set_list:Ob X M_:=by
 intro ae s σ H o i v ov iv u Q I ro ri rv h;obtain⟨p,xs,k,j,rfl,rfl,hp,hj,q⟩:=h;cases ro;obtain⟨t,rfl⟩:=ri;obtain⟨aP,n,r,ho,hz⟩:=I.lst hp;obtain⟨h1,h2,h3,h4⟩:=C! hj;have hl:=r.length;have hn:=oR;have I':aX X ae σ (upd H p (.lst (xs.set j v))) {s with heap:=s.heap.update p (Obj.mapSeq (·.setIfInBounds j u))}:=
  I.OG hp ho (Bz aP n j u) (r.set rv j) (by rw[Wu];exact hz) s.toks
 by_cases h0:0<=k
 .have hk:k.toNat=j:=by rw[Zf h0 h4]at h1;exact VR h1
  exact W.ki_setAt ho h0 (by lia) (by rw[VG,<-hl];exact h4) (by rw[hk];exact⟨_,I',q⟩)
 .have hk:(k+(aP.toArray.size:Int)).toNat=j:=by rw[Y5 (by lia) h3]at h1;rw[VG,<-hl];exact VR h1
  exact W.ki_setBack ho (by lia) (by rw[VG,<-hl];exact h3) (by lia) (by rw[hk];exact⟨_,I',q⟩)
theorem x!(lo hi:Option Int)(n:Nat):(sliceBounds lo hi none n).1=((HT.gM n 0 lo:Nat):Int)/\(sliceBounds lo hi none n).2.1=((HT.gM n n hi:Nat):Int)/\(sliceBounds lo hi none n).2.2=1:=by
 refine⟨?_,?_,rfl⟩
 .cases lo with
  |none=>simp[sliceBounds,HT.gM]
  |some i=>
   simp only[sliceBounds,HT.gM,Option.getD_none,show(1:Int)>0 by decide,YR];by_cases h:i<0
   .simp only[h,YR]<;>lia
   .simp only[h,XM]<;>lia
 .cases hi with
  |none=>simp[sliceBounds,HT.gM]
  |some i=>
   simp only[sliceBounds,HT.gM,Option.getD_none,show(1:Int)>0 by decide,YR];by_cases h:i<0
   .simp only[h,YR]<;>lia
   .simp only[h,XM]<;>lia
theorem wc(aP:_b)(lo hi:Option Int):slicePick aP.toArray lo hi none=((aP.drop (HT.gM aP.length 0 lo)).take (HT.gM aP.length aP.length hi-HT.gM aP.length 0 lo)).toArray:=by obtain⟨h1,h2,h3⟩:=x! lo hi aP.toArray.size;unfold slicePick;rw[h1,h2,h3];simp only[sliceRange_one,pick_run,VG]<;>rfl
def aaE(K:Z'):V->Option Int->Option Int->Hp->VK->Prop:=λx lo hi H Q=>∃a xs,x=.ref a/\nN K H a xs/\∀p,H p=none->Q (.ref p) (upd H p (.lst (xX xs lo hi)))
theorem KY:M9 X (aaE X.K):=by intro ae s σ H x v vl vu lo hi sl Q I rx hs pl pu h;obtain⟨a,xs,rfl,hx,q⟩:=h;cases rx;obtain⟨aP,r,ht,hz⟩:=I.list hx;have hlen:=r.length;refine⟨"list",_,Y4.lookup,ht.isList.typeIs,?_⟩;refine ZD ht.isList hs pl pu .none (by simp) ?_ (by rw[VG]<;>lia);rw[wc,<-hlen];refine⟨.ref s.heap.objs.size,_,I.laid (t':=s.toks) (o:=.lst (xX xs lo hi)) (λb ob q=>Vo _ q) (VD _) ?_,rfl,q _ (I.cq.fresh (VD _))⟩;exact⟨V? (rZ xs lo hi) hz,_,0,(r.drop (HT.gM xs.length 0 lo)).take (HT.gM xs.length xs.length hi-HT.gM xs.length 0 lo),VS _ rfl⟩
def iz:V->Bool
 |.cH=>true
 |.bl _=>true
 |.int _=>true
 |.str _=>true
 |_=>false
def x?:V->V->Bool
 |.cH,.cH=>true
 |.bl a,.bl b=>a==b
 |.bl a,.int b=>(if a then 1 else 0)==b
 |.int a,.bl b=>a==(if b then 1 else 0)
 |.int a,.int b=>a==b
 |.str a,.str b=>a==b
 |_,_=>false
theorem OH{y x:V}{u v:_g}(ry:bJ y u)(rx:bJ x v)(fy:iz y=true)(fx:iz x=true):SeqAt.EqAt A s u v (x? y x):=by
 cases y with
 |cH=>
  cases ry;cases x with
  |cH=>cases rx;exact Yx _
  |bl b=>cases rx;exact SeqAt.EqAt.none_bool b
  |int b=>obtain⟨t,rfl⟩:=rx;exact SeqAt.EqAt.none_int b t
  |str b=>obtain⟨t,rfl⟩:=rx;exact SeqAt.EqAt.none_str b t
  |_=>exact absurd (show false=true from fx) VQ
 |bl a=>
  cases ry;cases x with
  |cH=>cases rx;exact SeqAt.EqAt.bool_none a
  |bl b=>cases rx;exact SeqAt.EqAt.bool_bool a b
  |int b=>obtain⟨t,rfl⟩:=rx;exact SeqAt.EqAt.bool_int a b t
  |str b=>obtain⟨t,rfl⟩:=rx;exact SeqAt.EqAt.bool_str a b t
  |_=>exact absurd (show false=true from fx) VQ
 |int a=>
  obtain⟨t',rfl⟩:=ry;cases x with
  |cH=>cases rx;exact SeqAt.EqAt.int_none a t'
  |bl b=>cases rx;exact SeqAt.EqAt.int_bool a t' b
  |int b=>obtain⟨t,rfl⟩:=rx;exact SeqAt.EqAt.int_int a t' b t
  |str b=>obtain⟨t,rfl⟩:=rx;exact YX a t' b t
  |_=>exact absurd (show false=true from fx) VQ
 |str a=>
  obtain⟨t',rfl⟩:=ry;cases x with
  |cH=>cases rx;exact SeqAt.EqAt.str_none a t'
  |bl b=>cases rx;exact SeqAt.EqAt.str_bool a t' b
  |int b=>obtain⟨t,rfl⟩:=rx;exact YW a t' b t
  |str b=>obtain⟨t,rfl⟩:=rx;exact SeqAt.EqAt.str_str a t' b t
  |_=>exact absurd (show false=true from fx) VQ
 |_=>exact absurd (show false=true from fy) VQ
def EL(x:V)(u:_g):Bool:=match u with
 |.none=>x? .cH x
 |.bool b=>x? (.bl b) x
 |.int i _=>x? (.int i) x
 |.str z _=>x? (.str z) x
 |_=>false
theorem ya{x y:V}{u:_g}(r:bJ y u)(f:iz y=true):EL x u=x? y x:=by
 cases y with
 |cH=>cases r;rfl
 |bl b=>cases r;rfl
 |int i=>obtain⟨t,rfl⟩:=r;rfl
 |str z=>obtain⟨t,rfl⟩:=r;rfl
 |_=>exact absurd (show false=true from f) VQ
theorem yb{x:V}:∀{xs:List V}{us:_b},bo xs us->xs.all iz=true->us.any (EL x)=xs.any λy=>x? y x
 |_,_,.nil,_=>rfl
 |y::xs,u::us,.cons r t,f=>by rw[Xt,Wy]at f;rw[XO,XO,ya r f.1,yb t f.2]
theorem mK{A:_j}{s:_h}{x:V}{v:_g}(rx:bJ x v)(fx:iz x=true):∀{xs:List V}{us:_b},bo xs us->xs.all iz=true->∀u∈us,SeqAt.EqAt A s u v (EL x u)
 |_,_,.nil,_=>λu hu=>by cases hu
 |y::xs,u::us,.cons r t,f=>λu' hu=>by
  rw[Xt,Wy]at f;rcases V5.mp hu with rfl|hu
  .rw[ya r f.1];exact OH r rx f.1 fx
  .exact mK rx fx t f.2 u' hu
def inV(x:V)(xs:List V):Bool:=xs.any λy=>x? y x
def rIn(K:Z')(neg:Bool):R2:=λx y H Q=>∃p xs,y=.ref p/\(nN K H p xs\/oC K H p xs)/\iz x=true/\xs.all iz=true/\Q (.bl (if neg then !inV x xs else inV x xs)) H
theorem EM:f9 X (compareOp .In) (rIn X.K false):=by
 intro ae s σ H x y v u Q I rx ry h;obtain⟨p,xs,rfl,hq,fx,fs,q⟩:=h;cases ry;rcases hq with hq|hq
 .obtain⟨aP,r,pl,hz⟩:=I.list hq;refine SeqAt.in_listAt (EL x) pl.isList (λw hw=>mK rx fx r fs w (by simpa using hw)) ⟨.bl _,H,I,rfl,?_⟩;rw[show aP.toArray.any (EL x)=aP.any (EL x) by simp,yb r fs];exact q
 .obtain⟨aP,r,pl,hz⟩:=I.tuple hq;refine SeqAt.in_tupleAt (EL x) pl (λw hw=>mK rx fx r fs w (by simpa using hw)) ⟨.bl _,H,I,rfl,?_⟩;rw[show aP.toArray.any (EL x)=aP.any (EL x) by simp,yb r fs];exact q
theorem yc:b7 X (.builtin "len") (λxs H Q=>∃p ys,xs=[.ref p]/\(nN X.K H p ys\/oC X.K H p ys)/\Q (.int ys.length) H):=by
 intro ae s σ H xs us Q I r h;obtain⟨p,ys,rfl,hq,q⟩:=h;obtain⟨u,rfl,rx⟩:=vals1 r;cases rx;have hn:=oR;rcases hq with hq|hq
 .obtain⟨aP,r',pl,hz⟩:=I.list hq;have hlen:=r'.length;exact Calls.call_len_list pl.isList (by simp only[VG]<;>lia) ⟨.int ys.length,H,I.tok _,⟨s.toks+1,by rw[VG,hlen]⟩,q⟩
 .obtain⟨aP,r',pl,hz⟩:=I.tuple hq;have hlen:=r'.length;exact len_tuple pl (by simp only[VG]<;>lia) ⟨.int ys.length,H,I.tok _,⟨s.toks+1,by rw[VG,hlen]⟩,q⟩
theorem yd:b7 X (.builtin "len") (λxs H Q=>∃z,xs=[.str z]/\z.length<=sizeLine/\Q (.int z.length) H):=by intro ae s σ H xs us Q I r h;obtain⟨z,rfl,hz,q⟩:=h;obtain⟨u,rfl,t,rfl⟩:=vals1 r;have hn:=oR;exact len_str (by lia) ⟨.int z.length,H,I.tok _,⟨_,rfl⟩,q⟩
theorem b7.or{f:_g}{r r':List V->Hp->VK->Prop}(h:b7 X f r)(h':b7 X f r'):b7 X f (λxs H Q=>r xs H Q\/r' xs H Q):=by
 intro ae s σ H xs us Q I rs q;rcases q with q|q
 .exact h ae s σ H xs us Q I rs q
 .exact h' ae s σ H xs us Q I rs q
theorem ye:b7 X (.type "list") (λxs H Q=>∃p ys,xs=[.ref p]/\(nN X.K H p ys\/oC X.K H p ys)/\∀l,H l=none->Q (.ref l) (upd H l (.lst ys))):=by
 intro ae s σ H xs us Q I r h;obtain⟨p,ys,rfl,hq,q⟩:=h;obtain⟨u,rfl,rx⟩:=vals1 r;cases rx;have fin:∀(aP:_b),bo ys aP->ys.length<=sizeLine->∀(h':Heap)(c':Nat),(∀b o',s.heap.get? b=some o'->h'.get? b=some o') ->
   h'.get? s.heap.objs.size=some {cls:=.type "list",dict:=none,data:=.seq aP.toArray c',slots:=#[]}->EP X ae σ Q (.ref s.heap.objs.size) {s with heap:=h'}:=λaP r' hz h' c' kp e=>
  ⟨.ref s.heap.objs.size,_,I.laid (t':=s.toks) kp (VD _) (show cY X.prog X.w _ h' _ (.lst ys) from⟨hz,aP,c',r',e⟩),rfl,q _ (I.cq.fresh (VD _))⟩
 rcases hq with hq|hq
 .obtain⟨aP,r',pl,hz⟩:=I.list hq;have hlen:=r'.length;obtain⟨o,ho,hc,n,hd⟩:=pl.isList;exact call_list_seq p (.inl rfl) ho hc hd (λh' c' kp e=>fin aP r' hz h' c' kp e) (by simp only[VG]<;>lia)
 .obtain⟨aP,r',pl,hz⟩:=I.tuple hq;have hlen:=r'.length;obtain⟨o,ho,hc,n,hd⟩:=pl;exact call_list_seq p (.inr rfl) ho hc hd (λh' c' kp e=>fin aP r' hz h' c' kp e) (by simp only[VG]<;>lia)
theorem wd:b7 X (.type "tuple") (λxs H Q=>∃p ys,xs=[.ref p]/\((nN X.K H p ys/\∀l,H l=none->Q (.ref l) (upd H l (.tup ys)))\/(oC X.K H p ys/\Q (.ref p) H))):=by
 intro ae s σ H xs us Q I r h;obtain⟨p,ys,rfl,h⟩:=h;obtain⟨u,rfl,rx⟩:=vals1 r;cases rx;rcases h with⟨hq,q⟩|⟨hq,q⟩
 .obtain⟨aP,r',pl,hz⟩:=I.list hq;have hlen:=r'.length;refine call_tuple_list pl.isList (λh' kp=>?_) (by simp only[VG]<;>lia);have I1:aX X ae σ H {s with heap:=h'}:=I.kept (t':=s.toks) kp;have I2:aX X ae σ (upd H h'.objs.size (.tup ys)) {s with heap:=h'.push {cls:=.type "tuple",data:=.seq aP.toArray} }:=
   I1.laid (t':=s.toks) (λb o e=>Vo _ e) (VD _) (show cY X.prog X.w _ _ _ (.tup ys) from⟨hz,aP,r',IsTup.new _ _⟩)
  exact⟨.ref h'.objs.size,_,I2,rfl,q _ (I1.cq.fresh (VD _))⟩
 .obtain⟨aP,r',pl,hz⟩:=I.tuple hq;exact call_tuple_same pl ⟨.ref p,H,I,rfl,q⟩
def tyV(K:Z')(T:String)(x:V)(H:Hp):Prop:=match x with
 |.str _=>T = "str"
 |.int _=>T = "int"
 |.ref p=>(T = "list" /\ ∃xs,nN K H p xs)\/(T = "tuple" /\ ∃o,K.lookup p=some o/\o.cls=.type "tuple" /\ o.dict=none) \/
   (T = "dict" /\ ((∃a8,H p=some (.dK a8))\/∃a8,H p=some (.dT a8)))\/(T = "set" /\ ∃S n,H p=some (.set S n))
 |_=>False
theorem GZ{T:String}{x:V}{v:_g}(I:aX X ae σ H s)(r:bJ x v)(ty:tyV X.K T x H):
  s.TypeIs v T/\∀a,v=.ref a->∃ob,s.heap.get? a=some ob/\ob.dict=none:=by
 cases x with
 |str z=>
  obtain⟨t,rfl⟩:=r;cases(show T = "str" from ty);exact⟨typeIs_str s z t,λ_ e=>nomatch e⟩
 |int i=>
  obtain⟨t,rfl⟩:=r;cases(show T = "int" from ty);exact⟨typeIs_int s i t,λ_ e=>nomatch e⟩
 |ref p=>
  cases r;rcases ty with⟨rfl,xs,hq⟩|⟨rfl,o,hk,hc,hd⟩|⟨rfl,hk⟩|⟨rfl,S,n,hk⟩
  .obtain⟨aP,_,pl,_⟩:=I.list hq;refine⟨pl.isList.typeIs,λa e=>?_⟩;cases e;obtain⟨o,n,e,c,hd,_⟩:=pl;exact⟨o,e,hd⟩
  .refine⟨⟨o,I.rY p o hk,hc⟩,λa e=>?_⟩;cases e;exact⟨o,I.rY _ o hk,hd⟩
  .have z:∃o,s.heap.get? p=some o/\o.ExactDict:=by
    rcases hk with⟨a8,hk⟩|⟨a8,hk⟩
    .obtain⟨_,_,_,_,o,_,_,e,ex,_⟩:=I.cq p _ hk;exact⟨o,e,ex⟩
    .obtain⟨_,_,_,_,o,_,_,e,ex,_⟩:=I.cq p _ hk;exact⟨o,e,ex⟩
   obtain⟨o,e,ex⟩:=z;refine⟨⟨o,e,ex.1⟩,λa e2=>?_⟩;cases e2;exact⟨o,e,ex.2.1⟩
  .obtain⟨o,_,_,_,e,ex,_⟩:=I.cq p _ hk;refine⟨⟨o,e,ex.1⟩,λa e2=>?_⟩;cases e2;exact⟨o,e,ex.2.1⟩
 |_=>exact False.elim ty
def aaF(K:Z')(T:String)(r:V->List V->Hp->VK->Prop)(to:TE):TE:=λσ H Q=>to σ H λx H1=>tyV K T x H1/\r x [] H1 Q
def tBM(K:Z')(T:String)(r:V->List V->Hp->VK->Prop)(to:TE)(t:TA):TE:=λσ H Q=>to σ H λx H1=>tyV K T x H1/\t σ H1 λxs H2=>r x xs H2 Q
variable{to:TE}{t:TA}{T id:String}{r:V->List V->Hp->VK->Prop}
theorem OI(pa:PlainAttrs T)(slot:Slot T name id)(KZ:typeOf (.builtin id)=pure (.type "method_descriptor"))(hm:MtR X id r)(ho:PE X o to)(iA:attributeBase o name X.env (eval o X.env)=eval o X.env:=by rfl)(iB:(apos.endLine==cy.line)=true:=by rfl):PE X (.Call (.Attribute o name apos) [] [] cy) (aaF X.K T r to):=by intro ae s σ H Q I h;refine wpAny_Call_method0_late iA iB (dR (ho ae s σ H _ I h) λv s1⟨x,H1,I1,r1,ty,q1⟩=>?_);obtain⟨h1,h2⟩:=GZ I1 r1 ty;exact⟨T,id,pa,slot,KZ,h1,h2,Z4 rfl (PySem.evalArgs_none (hm ae s1 σ H1 x [] v [] Q I1 r1 .nil q1))⟩
theorem SN(pa:PlainAttrs T)(slot:Slot T name id)(KZ:typeOf (.builtin id)=pure (.type "method_descriptor"))(hm:MtR X id r)(ho:PE X o to)(ha:PA X (e::es) t)(iA:attributeBase o name X.env (eval o X.env)=eval o X.env:=by rfl)
  (uo:((backTo cy (starEach (e::es) X.env)).all (λx => !x.1)&&(backToKw cy (keywordEach [] X.env)).all (λx=>x.1.isSome)
   && decide ((e::es).length+([]:List Keyword).length+(if([]:List Keyword).isEmpty then 0 else 1)<30))=true:=by rfl)
  (iB:(apos.endLine==cy.line)=true:=by rfl) (hs:starEach (e::es) X.env=(false,eval e X.env)::starEach es X.env:=by rfl) (jc:(backTo cy (starEach es X.env)).any (·.1)=false:=by rfl):
  PE X (.Call (.Attribute o name apos) (e::es) [] cy) (tBM X.K T r to t):=by
 intro ae s σ H Q I h;refine wpAny_Call_method_late iA uo iB rfl (dR (ho ae s σ H _ I h) λv s1⟨x,H1,I1,r1,ty,q1⟩=>?_);obtain⟨h1,h2⟩:=GZ I1 r1 ty;refine⟨T,id,pa,slot,KZ,h1,h2,?_⟩;have hA:=ha cy ae s1 σ H1 _ I1 q1;rw[hs]at hA⊢;refine Z4 (by show(false || (backTo cy (starEach es X.env)).any (·.1))=false;rw[jc]<;>rfl) (Calls.evalArgs_plain ?_);exact dR hA λus s2⟨vs,H2,I2,r2,q2⟩=>hm ae s2 σ H2 x vs v us Q I2 r1 r2 q2
end
def wX(X:Cx)(id:String)(r:V->List V->Hp->VK->Prop):Prop:=
 ∀(ae:Z?)(s:_h)(σ:St)(H:Hp)(x:V)(xs:List V)(v:_g)(us:_b)(Q:VK),aX X ae σ H s->bJ x v->bo xs us->r x xs H Q ->
  wpAny (model X.prog X.w) X.A (call (.builtin id) (v::us)) (EP X ae σ Q) X.xe s
theorem bo.one{x:V}{us:_b}(p:bo [x] us):∃u,us=[u]/\bJ x u:=by
 cases p with
 |cons r t=>cases t;exact⟨_,rfl,r⟩
theorem bo.two{x y:V}{us:_b}(p:bo [x,y] us):∃u v,us=[u,v]/\bJ x u/\bJ y v:=by
 cases p with
 |cons r t=>
  obtain⟨v,z,q⟩:=bo.one t;rw[z];exact⟨_,v,rfl,r,q⟩
theorem bo.zero:∀{us:_b},bo [] us->us=[]
 |_,.nil=>rfl
theorem bo.dropLast{xs:List V}{us:_b}(h:bo xs us):bo xs.dropLast us.dropLast:=by
 induction h with
 |nil=>exact .nil
 |cons r t ih=>
  cases t with
  |nil=>exact .nil
  |cons q t'=>exact .cons r ih
theorem bo.rep{xs:List V}{us:_b}(h:bo xs us):∀k:Nat,bo (List.replicate k xs).flatten (List.replicate k us).flatten
 |0=>.nil
 |k+1=>by rw[Vy,Vy,Xa,Xa];exact bo.append h (bo.rep h k)
theorem BA(l:List α):l.eraseIdx (l.length-1)=l.dropLast:=by
 induction l with
 |nil=>rfl
 |cons a r ih=>
  cases r with
  |nil=>rfl
  |cons b r=>
   have e:(a::b::r).length-1=((b::r).length-1)+1:=by have h1:(a::b::r).length=r.length+2:=rfl;have h2:(b::r).length=r.length+1:=rfl;lia
   rw[e,List.eraseIdx_cons_succ,ih]
   all_goals rfl
theorem foldl_rep(aP:_b):∀(k:Nat)(acc:_b),
  List.foldl (λx1 x2=>x1++x2) acc.toArray (List.replicate k aP.toArray)=(acc++(List.replicate k aP).flatten).toArray
 |0,acc=>by simp
 |k+1,acc=>by
  have e:acc.toArray++aP.toArray=(acc++aP).toArray:=by simp
  have e2:(acc++aP)++(List.replicate k aP).flatten=acc++(List.replicate (k+1) aP).flatten:=by rw[Vy,Xa,VU]
  rw[<-e2,<-foldl_rep aP k (acc++aP),<-e,Vy,List.foldl_cons]
section
variable{l b:_i}{xs ys zs:List V}
theorem aX.OJ{its':_b}{n:Nat}{f:Array _g->Array _g}{t':Nat}(I:aX X ae σ H s)(hH:H l=some (.lst xs))(e:s.heap.get? l=some {cls:=.type "list",data:=.seq aP.toArray n})(hf:f aP.toArray=its'.toArray)(hv:bo ys its')(hz:ys.length<=sizeLine):
  aX X ae σ (upd H l (.lst ys)) {s with heap:=s.heap.update l (Obj.mapSeq f),toks:=t'}:=by
 have q:=Z1 e f;rw[hf]at q;refine I.write (x:=l) (e:=l) (by rw[hH];exact trivial) (.inl rfl) (λb' u hb hu=>(Wj s.heap (Obj.mapSeq f) (W? hb)).trans hu) ⟨_,q⟩ ?_;exact⟨hz,its',_,hv,q⟩
theorem aX.SQ{t':Nat}(I:aX X ae σ H s)(hv:bo ys aP)(hz:ys.length<=sizeLine):
  aX X ae σ (upd H s.heap.objs.size (.lst ys)) {s with heap:=s.heap.push {cls:=.type "list",data:=.seq aP.toArray},toks:=t'}:=
 I.laid (λ_ _ q=>Vo _ q) (VD _) ⟨hz,aP,0,hv,VS _ rfl⟩
theorem aX.fresh(I:aX X ae σ H s):H s.heap.objs.size=none:=I.cq.fresh (VD _)
theorem aX.yf(I:aX X ae σ H s)(hH:H l=some (.lst xs)):xs.length<=sizeLine/\∃(aP:_b)(n:Nat),bo xs aP/\xs.length=aP.length/\s.heap.get? l=some {cls:=.type "list",data:=.seq aP.toArray n}:=by obtain⟨z,aP,n,r,e⟩:=I.cq l _ hH;exact⟨z,aP,n,r,r.length,e⟩
theorem zW{n:Nat}(h:n<=sizeLine):Builtin.List.listTooLong n=false:=by unfold Builtin.List.listTooLong;exact VT (by lia)
end
def K0:V->List V->Hp->VK->Prop:=λx vs H Q=>∃l xs y,x=.ref l/\vs=[y]/\H l=some (.lst xs)/\xs.length<sizeLine/\Q .cH (upd H l (.lst (xs++[y])))
theorem EN:wX X "list.append" K0:=by intro ae s σ H x vs v us Q I rx rv h;obtain⟨l,xs,y,rfl,rfl,hH,hz,q⟩:=h;cases rx;obtain⟨u,rfl,ru⟩:=rv.one;obtain⟨z,aP,n,r,hl,e⟩:=I.yf hH;refine X1 F.slot_list_append ⟨_,e,rfl⟩ F.entry_list_append (F.args_list_append_2 _ _) (ZO l aP.toArray n u (by rw[VG];lia)) ⟨e,?_⟩;refine⟨.cH,_,I.OJ (its':=aP++[u]) hH e (by simp) (r.append (.cons ru .nil)) ?_,rfl,q⟩;rw[Vv,V3];lia
def K2:V->List V->Hp->VK->Prop:=λx vs H Q=>∃l b xs zs,x=.ref l/\vs=[.ref b]/\H l=some (.lst xs)/\H b=some (.lst zs)/\xs.length+zs.length<=sizeLine/\Q .cH (upd H l (.lst (xs++zs)))
theorem EO:wX X "list.extend" K2:=by
 intro ae s σ H x vs v us Q I rx rv h;obtain⟨l,b,xs,zs,rfl,rfl,hH,hB,hz,q⟩:=h;cases rx;obtain⟨u,rfl,ru⟩:=rv.one;cases ru;obtain⟨z,aP,n,r,hl,e⟩:=I.yf hH;obtain⟨z2,eI,n2,r2,tP,e2⟩:=I.yf hB;have hsz:aP.toArray.size+eI.toArray.size<=sizeLine:=by rw[VG,VG];lia
 have G0:¬ (!aP.toArray.isEmpty&&Builtin.List.listTooLong (aP.toArray.size+eI.toArray.size))=true:=by rw[zW hsz,Yp];exact VQ
 refine X1 F.slot_list_extend ⟨_,e,rfl⟩ F.entry_list_extend (F.args_list_extend_2 _ _)
  (AutoSeq1.list_extend_list_list_0 l aP.toArray n b eI.toArray n2 G0 (by rw[VG];lia) (by lia)) ⟨e,e2,?_⟩
 refine⟨.cH,_,I.OJ (its':=aP++eI) hH e (by simp) (r.append r2) ?_,rfl,q⟩;rw[Vv];lia
def aaG:V->List V->Hp->VK->Prop:=λx vs H Q=>∃l xs y,x=.ref l/\vs=[]/\H l=some (.lst xs)/\xs[xs.length-1]?=some y/\Q y (upd H l (.lst xs.dropLast))
theorem OK:wX X "list.pop" aaG:=by
 intro ae s σ H x vs v us Q I rx rv h;obtain⟨l,xs,y,rfl,rfl,hH,hy,q⟩:=h;cases rx;have hus:=rv.zero;subst hus;obtain⟨z,aP,n,r,hl,e⟩:=I.yf hH;obtain⟨u,hu,ru⟩:=r.get hy;have hy':aP.toArray[aP.toArray.size-1]?=some u:=by show aP.toArray[aP.length-1]?=some u;rw[<-WJ,<-hl];exact hu
 refine X1 F.slot_list_pop ⟨_,e,rfl⟩ F.entry_list_pop (F.args_list_pop_1 _) (MeetsSeq.list_pop_last l aP.toArray n u hy' (by rw[VG];lia)) ⟨e,?_⟩;refine⟨y,_,I.OJ (its':=aP.dropLast) hH e ?_ r.dropLast ?_,ru,q⟩
 .show aP.toArray.eraseIdxIfInBounds (aP.toArray.size-1)=aP.dropLast.toArray;rw[VG,List.eraseIdxIfInBounds_toArray,BA]
 .rw[List.length_dropLast];lia
def aaH:R2:=λx y H Q=>∃l b xs zs,x=.ref l/\y=.ref b/\H l=some (.lst xs)/\H b=some (.lst zs)/\xs.length+zs.length<=sizeLine/\∀p,H p=none->Q (.ref p) (upd H p (.lst (xs++zs)))
theorem OL:f9 X (binaryOp .Add) aaH:=by
 intro ae s σ H x y v u Q I rx ry h;obtain⟨l,b,xs,zs,rfl,rfl,hH,hB,hz,q⟩:=h;cases rx;cases ry;obtain⟨z,aP,n,r,hl,e⟩:=I.yf hH;obtain⟨z2,eI,n2,r2,tP,e2⟩:=I.yf hB;refine PySem.P.add_list e e2 ?_ (by rw[VG,VG];lia);have ea:aP.toArray++eI.toArray=(aP++eI).toArray:=by simp
 rw[ea];exact⟨.ref _,_,I.SQ (t':=s.toks) (r.append r2) (by rw[Vv];lia),rfl,q _ I.fresh⟩
def aaI:R2:=λx y H Q=>∃l k xs,x=.ref l/\y=.int k/\H l=some (.lst xs)/\-(2 ^ 63)<=k/\k<2 ^ 63/\xs.length*k.toNat<=sizeLine /\
 ∀p,H p=none->Q (.ref p) (upd H p (.lst (List.replicate k.toNat xs).flatten))
theorem len_rep(xs:List α)(k:Nat):(List.replicate k xs).flatten.length=k*xs.length:=by
 induction k with
 |zero=>simp
 |succ k ih=>rw[Vy,Xa,Vv,ih,Nat.succ_mul,Nat.add_comm]
theorem OM:f9 X (binaryOp .Mult) aaI:=by
 intro ae s σ H x y v u Q I rx ry h;obtain⟨l,k,xs,rfl,rfl,hH,h1,h2,hz,q⟩:=h;cases rx;obtain⟨t,rfl⟩:=ry;obtain⟨z,aP,n,r,hl,e⟩:=I.yf hH;have hlen:aP.toArray.size*k.toNat<=sizeLine:=by rw[VG,<-hl];exact hz
 have gz:¬ aP.toArray.size*k.toNat>(2 ^ 63-1) / 8:=by
  have:(sizeLine:Nat)<=(2 ^ 63-1) / 8:=by decide
  lia
 have aaJ:¬ (!Builtin.List.listFitsIndex k)=true:=by rw[fitsIndex_both h1 h2];exact VQ
 have G0:¬ Builtin.List.listTooLong (aP.toArray.size*k.toNat)=true:=by rw[zW hlen];exact VQ
 have aaK:List.foldl (λx1 x2=>x1++x2) #[] (List.replicate (if aP.toArray.isEmpty=true then 0 else k.toNat) aP.toArray)=(List.replicate k.toNat aP).flatten.toArray:=by
  have f0:∀m:Nat,List.foldl (λx1 x2=>x1++x2) #[] (List.replicate m aP.toArray)=(List.replicate m aP).flatten.toArray:=λm=>by have:=foldl_rep aP m [];rw[Vu]at this;exact this
  rw[f0];cases aP with
  |nil=>simp
  |cons a r'=>rw[VI (by simp)]
 refine wpAny_binaryOp_repeat_ref (T:="list") (U:="int") (by decide) ⟨_,e,rfl⟩ (λs'=>typeIs_int s' k t) noFill_list_mul F.fills_int_mul F.slot_int_rmul repeat_list F.slot_int_index.lookup
  (X1 F.slot_int_rmul (typeIs_int s k t) F.entry_int_rmul (F.args_int_rmul_2 _ _) (int___rmul___int_list k t l aP.toArray n)
   ⟨e,rfl,⟨_,e,rfl⟩,X1 F.slot_list_mul ⟨_,e,rfl⟩ F.entry_list_mul (F.args_list_mul_2 _ _) (AutoListH.list___mul___list_int_3 l aP.toArray n k t aaJ gz G0) ⟨e,?_⟩⟩)
 rw[aaK];exact⟨.ref _,_,I.SQ (t':=s.toks) (r.rep k.toNat) (by rw[len_rep,Nat.mul_comm];exact hz),rfl,q _ I.fresh⟩
end L2
namespace Att
open PySem.W PySem.Calls PyProof.Rows
theorem sF{P:Params}:∀(ns:_a)(vs:_b),WellAll P h vs (ns.map WData.int)->IntsAre vs ns:=by
 intro ns
 induction ns with
 |nil=>
  intro vs w;rw[VE]at w;cases w;exact .nil
 |cons n ns ih=>
  intro vs w;rw[Vs]at w;cases w with
  |cons a b=>
   cases a;exact .cons _ _ (ih _ b)
theorem ER{l:OpenLaw}{n:Nat}(hn:l.most=some n){P:Params}{args:List WData}{vals:_b}(K3:l.row.toRowW.claim.pre args=true)(hwl:WellAll P h vals args):
  ∃a vs ns,vals=[Value.ref a]/\args=[WData.list (ns.map WData.int)]/\h.get? a=some {cls:=.type "list",data:=.seq vs.toArray}/\IntsAre vs ns/\ns.length<=n:=by
 have hsh:WShape.hasAll [] args [.list .int]=true:=(pre_splitW K3).1;have hc:l.pre.holds [] {args:=args} = true:=(pre_splitW K3).2;obtain⟨d,r,rfl,h1,h2⟩:=hasAllW_cons hsh;obtain rfl:=hasAllW_nil h2;obtain⟨xs,rfl,h3⟩:=hasW_list h1;obtain⟨ns,rfl⟩:=items_int h3;have hlen:ns.length<=n:=by
  unfold OpenLaw.pre at hc;have h4:(WTm.not (.lt (.lit (.int (n:Int))) (.len (.arg 0)))).holds [] {args:=[.list (ns.map .int)]} = true:=by have h4:=(holds_andW hc).1;rw[hn]at h4;exact h4
  have h5:=condW_of h4 (w_not (w_lt w_lit (w_len_list (w_arg rfl))));rw[Vq]at h5;refine YL λq=>?_;have q':(n:Int)<((ns.length:Nat):Int):=by lia
  first
   |(rw[VZ q']at h5;exact absurd h5 (by decide))
   |(simp at h5;lia)
 cases hwl with
 |cons w1 w2=>
  cases w2;cases w1 with
  |list ho ON=>exact⟨_,_,ns,rfl,rfl,ho,sF ns _ ON,hlen⟩
theorem ES(l:OpenLaw)(args:List WData):l.row.toRowW.claim.post args (.bool true) args=true:=
 postW_of (r:=l.row.toRowW) (X:=(true==true))
  (show WShape.has [] (.bool true) .bool=true by first|rfl|decide|simp[WShape.has,WShape.arms,WShape.armsAll])
  (show(WTm.eq .res (.lit (.bool true))).value [] {args:=args,res:=some (.bool true),after:=args} = some (.bool (true==true))from w_eq_bool (w_res rfl) w_lit) rfl
theorem zX{l:OpenLaw}{n:Nat}{XP:(Z!)->Heap->Prop}{YP:World->Heap->Prop}{d:DefRec}(hn:l.most=some n)(SS:d.params.defaults=[])
  (call:∀ (w:World) (s₀ s₁:_h) (mg mb:Z!) (fa:_i) (o:Obj) (pm cd doc:_g) (a:_i) (vs:_b) (ns:_a),
   Ground q loose [] XP w s₀ mg mb s₁.heap->YP w s₁.heap ->
   s₁.heap.get? fa=some o->o.data=.func (docDef d.name d.params d.body d.scope pm cd doc)->s₁.heap.CodeRec cd d.name->mg d.name=some (.ref fa) ->
   s₁.heap.get? a=some {cls:=.type "list",data:=.seq vs.toArray}->IntsAre vs ns->ns.length<=n->s₁.gens = #[] ->
   codeAny (model l.prog w) callerA (.call (.ref fa) ⟨[.ref a],[]⟩) (λr s'=>r=.ok (.ret (.bool true))/\OldK s₁.heap s'.heap/\s'.os=s₁.os/\AllBare s'.gens) s₁):
  WalkO q loose XP YP l.row.toRowW d [] (λf vs=>PySem.call f vs):=by
 intro w s₀ s₁ mg mb G Y fa o pm cd doc dV kV ho hd qi hD SU hg args vals as K3 abE hrd hwl hlo;obtain rfl:dV=.none:=Dflts.none hD SS;obtain rfl:kV=.none:=Dflts.noKw hD;obtain⟨a,vs,ns,rfl,rfl,OO,hints,hlen⟩:=ER hn K3 hwl;refine enter_call (XU (call w s₀ s₁ mg mb fa o pm cd doc a vs ns G Y ho (fd_plain hd) qi SU OO hints hlen hg) λr s' hq=>?_);obtain⟨rfl,h2,h3,h4⟩:=hq;exact⟨.inl ⟨.bool true,.bool true,[],rfl,λ_=>rfl,.bool true,ES l _,λ_=>⟨List.Pairwise.nil,λ_ hm=>(nomatch hm)⟩⟩,h2,h3,h4⟩
end Att
namespace L2
open PySem.Spec PyProof.Rows
theorem wY:∀{vs:_b}{ns:_a},IntsAre vs ns->bo (ns.map V.int) vs
 |_,_,.nil=>.nil
 |_,_,.cons n t h=>.cons ⟨t,rfl⟩ (wY h)
def gw(s:Stmt):Arguments:=match s with
 |.FunctionDef _ a _ _ _ _ _ _ _ _=>a
 |_ => {posonlyargs:=[],args:=[],vararg:=none,kwonlyargs:=[],kw_defaults:=[],kwarg:=none,defaults:=[]}
def dg(s:Stmt):List Stmt:=match s with
 |.FunctionDef _ _ b _ _ _ _ _ _ _=>b
 |_=>[]
def aY(s:Stmt):Scope:=match s with
 |.FunctionDef _ _ _ _ _ _ sc _ _ _=>sc
 |_ => {kind:=.function,names:=[],isGenerator:=false,isCoroutine:=false}
abbrev E0:XK:=λ_ _ _=>False
structure Gw(K:Z')(x qual:Str)(st:Stmt)(f:_i)(fd:FuncData):Prop where
 ex:∃(oc:_g)(od:Option _i)(kV doc pm:_g)(an:Option _i)(fF ct:_g)(C7:Array (_c)),
  fd=W.fnOf x qual (gw st) (dg st) (aY st) .none kV doc pm an fF ct/\K.lookup f=some ⟨oc,od,.func fd,C7⟩/\W.codeIn K fF qual=true
 kp:W.keepIn K (.ref f)=true
section
variable{K:Z'}{mg:Z!}
theorem Gw.binds{x qual:Str}{st:Stmt}{fd:FuncData}{ps:_e}(F:Gw K x qual st f fd)(h:∀(kV doc pm:_g)(an:Option _i)(fF ct:_g)(us:_b),us.length=ps.length->bindArgs (W.fnOf x qual (gw st) (dg st) (aY st) .none kV doc pm an fF ct) ⟨us,[]⟩=pure (ps.zip us)):Binds K fd ps []:=by obtain⟨oc,od,kV,doc,pm,an,fF,ct,C7,rfl,lk,qi⟩:=F.ex;exact .all (h kV doc pm an fF ct)
theorem BB{x qual:Str}{st:Stmt}{kV ct:_g}(l:K.lookup f=some ⟨oc,od,.func (W.fnOf x qual (gw st) (dg st) (aY st) .none kV doc pm an fF ct),C7⟩)(c:W.codeIn K fF qual=true)(k:W.keepIn K (.ref f)=true):Gw K x qual st f (W.fnOf x qual (gw st) (dg st) (aY st) .none kV doc pm an fF ct):=⟨⟨oc,od,kV,doc,pm,an,fF,ct,C7,rfl,l,c⟩,k⟩
end
def qp(H H':Hp):Prop:=∀b o,H b=some o->H' b=some o
theorem qp.refl(H:Hp):qp H H:=λ_ _ h=>h
end L2
variable {kp:Pos}
namespace L2
open PySem.Spec PyProof.Rows
open Sem (wp)
def mM{α:Type}:Sem α->Prop
 |.pure _=>True
 |.raise _=>True
 |.unsupported _=>True
 |.register _ _=>True
 |.load _ _ k=>∀o,mM (k o)
 |.update _ _ _ k=>mM (k ())
 |.alloc _ k=>∀a,mM (k a)
 |.stack k=>∀l,mM (k l)
 |_=>False
theorem bO{f:α->Sem β}(k:∀a,mM (f a)):∀{t:Sem α},mM t->mM (t >>= f):=by
 intro t
 induction t with
 |pure a=>exact λ_=>k a
 |raise|unsupported|register=>exact λ_=>trivial
 |load a o g ih=>exact λh x=>ih x (h x)
 |update a o f g ih=>exact λh=>ih () h
 |alloc o g ih=>exact λh x=>ih x (h x)
 |stack g ih=>exact λh x=>ih x (h x)
 |_=>exact λh=>h.elim
theorem K4{M:Model}{Γ:PySem.Ctx}{Q1 Q2:α->Pos->_h->Prop}{E1 E2:_g->Pos->_h->Prop}{p:Pos}(t:Sem α):∀{s:_h},mM t->wp M Γ t Q1 E1 p s->wp M Γ t Q2 E2 p s->wp M Γ t (λa p s=>Q1 a p s/\Q2 a p s) E1 p s:=by
 induction t with
 |load a o k ih=>
  intro s z h1 h2;rw[Sem.wp_load]at h1 h2⊢;obtain⟨x,a1,b1⟩:=h1;obtain⟨y,a2,b2⟩:=h2;rw[a1]at a2;cases a2;exact⟨x,a1,ih _ (z _) b1 b2⟩
 |update a o f k ih=>intro s z h1 h2;rw[Sem.wp_update]at h1 h2⊢;exact⟨h1.1,ih _ z h1.2 h2.2⟩
 |pure a=>exact λ_ h1 h2=>⟨h1,h2⟩
 |raise a=>exact λ_ h1 _=>h1
 |unsupported|register=>exact λ_ h1 _=>h1.elim
 |alloc o k ih=>exact λz h1 h2=>ih _ (z _) h1 h2
 |stack k ih=>exact λz h1 h2=>ih _ (z _) h1 h2
 |_=>exact λz=>z.elim
theorem jd{M:Model}{t:Sem α}{Q1 Q2 Q:α->_h->Prop}{E:Z_}(z:mM t)(h1:wpAny M A t Q1 E s)(h2:wpAny M A t Q2 E s)(h:∀a s',Q1 a s'->Q2 a s'->Q a s'):wpAny M A t Q E s:=by have z:wpAny M A t (λa s=>Q1 a s/\Q2 a s) E s:=λΓ p k=>K4 t z (h1 Γ p k) (h2 Γ p k);exact Wm z (λa s' q=>h a s' q.1 q.2) λ_ _ q=>q
theorem pH(v:_g)(i:Nat):mM (field v i):=by
 unfold field;refine bO (λa=>?_) ?_
 .split<;>trivial
 .unfold fieldsOf;cases v with
  |ref a=>
   refine bO (λo=>?_) (λ_=>trivial);split<;>trivial
  |_=>trivial
theorem BC(v:_g)(i:Nat)(x:_g):mM (setField v i x):=by
 unfold setField;cases v with
 |ref a=>
  refine bO (λo=>?_) (λ_=>trivial);split
  .split
   .exact trivial
   .exact trivial
  .exact trivial
 |_=>trivial
theorem zY:∀l:List Env,mM (readyFrames l)
 |[]=>trivial
 |env::outer=>by
  unfold readyFrames;split
  .refine bO (λo=>?_) (λ_=>trivial);split
   .exact trivial
   .refine bO (λb=>bO (λv=>bO (λ_=>zY outer) ?_) ?_) ?_
    .exact trivial
    .unfold keptBack;split
     .split
      .exact trivial
      .exact λ_=>trivial
     .exact trivial
    .unfold behindIsImport;split
     .exact trivial
     .split
      .exact trivial
      .refine bO (λ_=>?_) (pH _ _);exact trivial
  .exact trivial
theorem G1(env:Env):mM (PySem.frameOf env):=by
 unfold PySem.frameOf;refine bO (λl=>bO (λv=>?_) ?_) (λ_=>trivial)
 .split<;>trivial
 .unfold frameObject;split
  .exact trivial
  .refine bO (λ_=>?_) (zY _);exact trivial
theorem qq(v:_g)(f:Option _i):mM (setFlight v f):=by
 unfold setFlight;refine bO (λt=>?_) (pH _ _);split
 .exact BC _ _ _
 .exact trivial
theorem C?(v:_g)(env:Env):mM (noteFrame v env):=by
 unfold noteFrame;split
 .rename_i f _;have go:∀h b,mM (do setField v 1 (<-EntryCells.newEntry h (<-PySem.frameOf env) .none (rawInt f) .none (<-entryPlaceOf f b))):=λh b=>by
   refine bO (λa=>bO (λl=>bO (λ_=>BC _ _ _) ?_) ?_) (G1 env)
   .unfold EntryCells.newEntry newFields newObj;dsimp only;split<;>split
    .exact trivial
    .exact λ_=>trivial
    .exact trivial
    .exact λ_=>trivial
   .unfold entryPlaceOf;refine bO (λ_=>?_) (λ_=>trivial);split<;>trivial
  refine bO (λt=>?_) (pH _ _);split
  .refine bO (λx=>?_) (pH _ _);split
   .exact trivial
   .exact bO (λ_=>go _ _) (BC _ _ _)
  .exact go _ _
 .exact trivial
theorem zZ(v:_g)(env:Env):mM (leaving env v):=bO (λ_=>qq _ _) (C? _ _)
def SV(oe:Obj):Prop:=∃vs,oe.data=.fields vs/\vs[2]?=some Value.none
def uq(h:Heap)(e:_i):Prop:=∃oe vs,h.get? e=some oe/\oe.data=.fields vs/\vs[2]?=some Value.none/\(vs[1]?=some Value.none\/∃T oT ts,vs[1]?=some (Value.ref T)/\T≠e/\h.get? T=some oT/\oT.data=.fields ts/\3<ts.size)
theorem uq.ctx{e:_i}(t:uq h e)(he:h.get? e=some oe):SV oe:=by obtain⟨o,vs,h1,h2,h3,_⟩:=t;rw[he]at h1;cases h1;exact⟨vs,h2,h3⟩
section
variable{M:Model}{E:Z_}{env:PySem.Env}{outer:List PySem.Env}{L e:_i}
theorem oS(h:uq s.heap e):wpAny M A (setFlight (.ref e) none) (λ_ s'=>uq s'.heap e) E s:=by
 obtain⟨oe,vs,he,hd,h2,h1⟩:=h;unfold setFlight;rcases h1 with h1|⟨T,oT,ts,h1,ne,hT,dT,h3⟩
 .refine Vl (Wq he hd h1 ?_);rw[VI (by decide)];exact VA ⟨oe,vs,he,hd,h2,.inl h1⟩
 .refine Vl (Wq he hd h1 ?_);rw[VC (show(Value.ref T !=Value.none)=true from rfl)];refine Xu hT dT h3 ⟨oe,vs,(Wj _ _ ne).trans he,hd,h2,.inr ⟨T,_,_,h1,ne,W_ _ hT (Xn (WK dT _)),WK dT _,by rw[Z5];exact h3⟩⟩
theorem z8(zC:A.frames=some (env::outer))(hl:s.heap.FunFrames base (env::outer))(hf:env.frame=some L)(h:uq s.heap e):wpAny M A (noteFrame (.ref e) env) (λ_ s'=>uq s'.heap e) E s:=by
 have go:∀(s1:_h)(head:_g)(b:Bool),s1.heap.FunFrames base (env::outer)->uq s1.heap e->wpAny M A (do setField (.ref e) 1 (<-EntryCells.newEntry head (<-frameOf env) .none (rawInt L) .none (<-entryPlaceOf L b))) (λ_ s'=>uq s'.heap e) E s1:=by
  rintro s1 head b hl ⟨oe,vs,he,hd,h2,h1⟩;have z1:1<vs.size:=by rcases h1 with q|⟨_,_,_,q,_⟩<;>exact(Array.getElem?_eq_some_iff.mp q).1
  have aaL:e ∉ (env::outer).filterMap (·.frame):=λhm=>by obtain⟨_,o,ho,ET⟩:=hl.mem hm;rw[he]at ho;cases ho;exact ET vs hd
  refine Vl (wpAny_frameOf_fun zC hl hf λh₁ SW=>?_);refine Vl (wpAny_entryPlaceOf λpl ko=>?_);unfold EntryCells.newEntry newFields;refine Vl (Wv ?_ (ko.sizeOk5 _ _ _ _ _));have G4:h₁.get? e=some oe:=(SW.2.1 e aaL).trans he;refine Xu (Vo _ G4) hd z1 ?_;have ne:h₁.objs.size≠e:=W6 (VH G4);have d3:=WK hd (·.setIfInBounds 1 (Value.ref h₁.objs.size));refine⟨_,_,W_ _ (Vo _ G4) (Xn d3),d3,by rw[Array.getElem?_setIfInBounds_ne (by decide)];exact h2,.inr ⟨h₁.objs.size,_,_,by simp[z1],ne,(Wj _ _ (W? ne)).trans (VS h₁ rfl),rfl,by simp only[VG,Vv,Vm,Vx];lia⟩⟩
 unfold noteFrame;simp only[hf];obtain⟨oe,vs,he,hd,h2,h1⟩:=id h;rcases h1 with h1|⟨T,oT,ts,h1,ne,hT,dT,h3⟩
 .refine Vl (Wq he hd h1 ?_);rw[VI (by decide)];exact go s _ _ hl h
 .refine Vl (Wq he hd h1 ?_);rw[VC (show(Value.ref T !=Value.none)=true from rfl)];refine Vl (Wq hT dT (x:=ts[3]) (by simp[h3]) ?_);split
  .exact VA h
  .refine Vl (Xu hT dT h3 ?_);have J?:∀b,b≠T->(s.heap.update T (Obj.mapFields (·.setIfInBounds 3 Value.none))).get? b=s.heap.get? b:=λb hb=>Wj _ _ (W? hb);refine go _ _ _ (hl.of_keeps λb o hb ET=>⟨o,(J? b λq=>?_).trans hb,rfl⟩) ⟨oe,vs,(J? e (W? ne)).trans he,hd,h2,.inr ⟨T,_,_,h1,ne,W_ _ hT (Xn (WK dT _)),WK dT _,by rw[Z5];exact h3⟩⟩;rw[q,hT]at hb;cases hb;exact ET ts dT
theorem r6(zC:A.frames=some (env::outer))(hl:s.heap.FunFrames base (env::outer))(hf:env.frame=some L)(h:uq s.heap e):wpAny M A (leaving env (.ref e)) (λ_ s'=>uq s'.heap e) E s:=
 Vl (Wm (z8 zC hl hf h) (λ_ _ q=>oS q) λ_ _ q=>q)
variable{a0:_g}{Q:Unit->_h->Prop}
theorem G5{args:_b}(hx:Heap.MadeExcOf h s.heap e cls args):uq s.heap e:=by obtain⟨t,he,_⟩:=hx.there;exact⟨_,_,he,rfl,rfl,.inl rfl⟩
theorem yg{args:_b}(zC:A.frames=some (env::outer))(hf:env.frame=some L)(hkb:base.StaysIn h)(hl:h.FunFrames base (env::outer))(hx:Heap.MadeExcOf h s.heap e cls args)(hQ:∀h' t,Heap.FlyingW base outer e cls (.ref t) h'->s.heap.UpToSlots h'->uq h' e->Q () {s with heap:=h'}):wpAny M A (leaving env (.ref e)) Q E s:=
 jd (zZ _ _) (wpAny_leaves_madeW (Q:=λ_ s'=>∃h' t,s' = {s with heap:=h'}/\Heap.FlyingW base outer e cls (.ref t) h'/\s.heap.UpToSlots h') zC hf hkb hl hx λh' t a _ _ d=>⟨h',t,rfl,a,d⟩) (r6 zC (hl.of_keeps λb o hb _=>⟨o,hx.keeps b o hb,rfl⟩) hf (G5 hx))
  λ_ _⟨h',t,z,a,d⟩q=>by subst z;exact hQ h' t a d q
theorem BD(zC:A.frames=some (env::outer))(hf:env.frame=some L)(SX:Heap.FlyingW base (env::outer) e cls a0 s.heap)(ht:uq s.heap e)(hQ:∀h',Heap.FlyingW base outer e cls a0 h'->s.heap.UpToSlots h'->uq h' e->Q () {s with heap:=h'}):wpAny M A (leaving env (.ref e)) Q E s:=
 jd (zZ _ _) (wpAny_leaves_onW (Q:=λ_ s'=>∃h',s' = {s with heap:=h'}/\Heap.FlyingW base outer e cls a0 h'/\s.heap.UpToSlots h') zC hf SX λh' a d=>⟨h',rfl,a,d⟩) (r6 zC SX.2.2.1 hf ht)
  λ_ _⟨h',z,a,d⟩q=>by subst z;exact hQ h' a d q
theorem EU(zC:A.frames=some (env::outer))(hf:env.frame=some L)(SX:Heap.FlyingW base (env::outer) e cls a0 s.heap)(ht:uq s.heap e)(hQ:∀h',Heap.HeldW base (env::outer) e cls a0 L h'->s.heap.UpToSlots h'->uq h' e->Q () {s with heap:=h'}):wpAny M A (noteFrame (.ref e) env) Q E s:=
 jd (C? _ _) (wpAny_looks_onW (Q:=λ_ s'=>∃h',s' = {s with heap:=h'}/\Heap.HeldW base (env::outer) e cls a0 L h'/\s.heap.UpToSlots h') zC hf SX λh' a d=>⟨h',rfl,a,d⟩) (z8 zC SX.2.2.1 hf ht)
  λ_ _⟨h',z,a,d⟩q=>by subst z;exact hQ h' a d q
theorem OP{l:List PySem.Env}(hh:Heap.HeldW base l e cls a0 L s.heap)(ht:uq s.heap e)(hQ:∀h',Heap.FlyingW base l e cls a0 h'->s.heap.UpToSlots h'->uq h' e->Q () {s with heap:=h'}):wpAny M A (setFlight (.ref e) none) Q E s:=
 jd (qq _ _) (wpAny_landsW (Q:=λ_ s'=>∃h',s' = {s with heap:=h'}/\Heap.FlyingW base l e cls a0 h'/\s.heap.UpToSlots h') hh λh' a d=>⟨h',rfl,a,d⟩) (oS ht)
  λ_ _⟨h',z,a,d⟩q=>by subst z;exact hQ h' a d q
theorem yh{l:List PySem.Env}(hh:Heap.FlyingW base l e cls a0 s.heap)(ht:uq s.heap e)(hQ:∀h',Heap.FlyingW base l e cls a0 h'->s.heap.UpToSlots h'->uq h' e->Q () {s with heap:=h'}):wpAny M A (setFlight (.ref e) none) Q E s:=
 jd (qq _ _) (lands_againW (Q:=λ_ s'=>∃h',s' = {s with heap:=h'}/\Heap.FlyingW base l e cls a0 h'/\s.heap.UpToSlots h') hh λh' a d=>⟨h',rfl,a,d⟩) (oS ht)
  λ_ _⟨h',z,a,d⟩q=>by subst z;exact hQ h' a d q
end
section
variable[DecidableEq κ]
def kC(a8:List (κ×V))(k:κ):Option V:=(a8.find? λkv=>decide (kv.1=k)).map (·.2)
def putK(a8:List (κ×V))(k:κ)(v:V):List (κ×V):=
 if(a8.any λkv=>decide (kv.1=k))=true then a8.map (λkv=>if kv.1=k then(kv.1,v)else kv)else a8++[(k,v)]
theorem ur{p:κ×V}{r:List (κ×V)}{k:κ}(e:p.1=k):kC (p::r) k=some p.2:=by simp[kC,XR,e]
theorem uu{p:κ×V}{r:List (κ×V)}{k:κ}(e:¬ p.1=k):kC (p::r) k=kC r k:=by simp[kC,XR,e]
theorem z_(k:κ):∀a8:List (κ×V),(a8.any λkv=>decide (kv.1=k))=(kC a8 k).isSome
 |[]=>rfl
 |p::r=>by
  rw[XO];by_cases e:p.1=k
  .simp only[ur e,VZ e,Zw,Option.isSome_some]
  .rw[uu e,VT e,X!];exact z_ k r
theorem r9(a8:List (κ×V))(k:κ)(v:V):(putK a8 k v).length<=a8.length+1:=by
 unfold putK;split
 .rw[Vq];lia
 .rw[Vv,Vm,Vx];lia
theorem uh.EV{o:Option V}{u:_c}(r:uh o u):o.isSome=u.isSome:=by
 cases o with
 |none=>cases u with
  |none=>rfl
  |some _=>exact(show False from r).elim
 |some _=>cases u with
  |none=>exact(show False from r).elim
  |some _=>rfl
theorem KV.val{a8:List (κ×V)}{vs:List (κ×_g)}(r:KV a8 vs)(k:κ):uh (kC a8 k) (valueAt vs k):=by
 unfold KV at r
 induction r with
 |nil=>exact True.intro
 | @cons p q ps qs h t ih=>
  obtain⟨h1,h2⟩:=h;by_cases e:p.1=k
  .have e':q.1=k:=h1.symm.trans e;have b:valueAt (q::qs) k=some q.2:=by simp[valueAt,XR,e']
   rw[ur e,b];exact h2
  .have e':¬ q.1=k:=λz=>e (h1.trans z);have b:valueAt (q::qs) k=valueAt qs k:=by simp[valueAt,XR,e']
   rw[uu e,b];exact ih
theorem KV.any{a8:List (κ×V)}{vs:List (κ×_g)}(r:KV a8 vs)(k:κ):(a8.any λkv=>decide (kv.1=k))=vs.any λkv=>decide (kv.1=k):=by
 unfold KV at r
 induction r with
 |nil=>rfl
 |cons h t ih=>rw[XO,XO,ih,h.1]
theorem KV.BE{a8:List (κ×V)}{vs:List (κ×_g)}(r:KV a8 vs)(k:κ){y:V}{u:_g}(ry:bJ y u):
  KV (a8.map λkv=>if kv.1=k then(kv.1,y)else kv) (vs.map λkv=>if kv.1=k then(kv.1,u)else kv):=by
 unfold KV at r⊢
 induction r with
 |nil=>exact .nil
 | @cons p q ps qs h t ih=>
  rw[Vs,Vs];refine .cons ?_ ih;obtain⟨h1,h2⟩:=h;by_cases e:p.1=k
  .rw[VC e,VC (h1.symm.trans e)];exact⟨h1,ry⟩
  .rw[VI e,VI (λz=>e (h1.trans z))];exact⟨h1,h2⟩
theorem KV.put{a8:List (κ×V)}{vs:List (κ×_g)}(r:KV a8 vs)(k:κ){y:V}{u:_g}(ry:bJ y u):KV (putK a8 k y) (stored vs k u):=by
 unfold putK stored;rw[r.any k];by_cases e:(vs.any λkv=>decide (kv.1=k))=true
 .rw[VC e,VC e];exact r.BE k ry
 .rw[VI e,VI e];exact Paired.snoc r ⟨rfl,ry⟩
theorem KV.length{a8:List (κ×V)}{vs:List (κ×_g)}(r:KV a8 vs):a8.length=vs.length:=ZM r
end
theorem G6{k:fe}{u:_g}(r:bJ (kV k) u):(fM P w).is k u=true:=by
 cases k with
 |inl i=>obtain⟨t,e⟩:=(show ∃t,u=Value.int i t from r);subst e;exact zJ P w i t
 |inr x=>obtain⟨t,e⟩:=(show ∃t,u=Value.str x t from r);subst e;exact zK P w x t
theorem wZ{P:_k}{w:World}:∀{ks:List fe}{us:_b},bo (ks.map kV) us->ItemsAre (fM P w) ks us
 |[],_,r=>by rw[VE]at r;cases r;exact .nil
 |k::ks,_,r=>by
  rw[Vs]at r;cases r with
  |cons h t=>exact .cons (G6 h) (wZ t)
abbrev KT(H:Hp):List (List fe×V)->List (List fe×_i×_g)->Prop:=Paired λp q=>p.1=q.1/\H q.2.1=some (.tup (p.1.map kV))/\bJ p.2 q.2.2
theorem KT.val{a8:List (List fe×V)}{xs:List (List fe×_i×_g)}(r:KT H a8 xs)(k:List fe):uh (kC a8 k) ((atKey xs k).map (·.2)):=by
 induction r with
 |nil=>exact True.intro
 | @cons p q ps qs h t ih=>
  obtain⟨h1,_,h2⟩:=h;by_cases e:p.1=k
  .have e':q.1=k:=h1.symm.trans e;have b:atKey (q::qs) k=some q.2:=by simp[atKey,XR,e']
   rw[ur e,b];exact h2
  .have e':¬ q.1=k:=λz=>e (h1.trans z);have b:atKey (q::qs) k=atKey qs k:=by simp[atKey,XR,e']
   rw[uu e,b];exact ih
theorem KT.BE{a8:List (List fe×V)}{xs:List (List fe×_i×_g)}(r:KT H a8 xs)(k:List fe){y:V}{u:_g}(ry:bJ y u):
  KT H (a8.map λkv=>if kv.1=k then(kv.1,y)else kv) (xs.map (putAt k u)):=by
 induction r with
 |nil=>exact .nil
 | @cons p q ps qs h t ih=>
  rw[Vs,Vs];refine .cons ?_ ih;obtain⟨h1,h2,h3⟩:=h;unfold putAt;by_cases e:p.1=k
  .rw[VC e,VC (h1.symm.trans e)];exact⟨h1,h2,ry⟩
  .rw[VI e,VI (λz=>e (h1.trans z))];exact⟨h1,h2,h3⟩
theorem KT.put{a8:List (List fe×V)}{xs:List (List fe×_i×_g)}(r:KT H a8 xs)(k:List fe){b:_i}{y:V}{u:_g}(hb:H b=some (.tup (k.map kV)))(ry:bJ y u):
  KT H (putK a8 k y) (storedH xs k b u):=by
 have e:(a8.any λkv=>decide (kv.1=k))=(atKey xs k).isSome:=by rw[z_,(r.val k).EV,Option.isSome_map]
 unfold putK storedH;rw[e];by_cases q:(atKey xs k).isSome=true
 .rw[VC q,VC q];exact r.BE k ry
 .rw[VI q,VI q];exact Paired.snoc r ⟨rfl,hb,ry⟩
theorem KT.keeps{a8:List (List fe×V)}{xs:List (List fe×_i×_g)}(r:KT H a8 xs)(ht:∀b ys,H b=some (.tup ys)->H' b=some (.tup ys)):KT H' a8 xs:=
 Paired.N2 r λ_ _ z=>⟨z.1,ht _ _ z.2.1,z.2.2⟩
section
variable{a:_i}
theorem M!{u:HO}(ok:km P w H h)(e:Rd H a u):cY P w H h a u:=e.ok ok
theorem Dc{a8:List (fe×V)}(ok:km P w H h)(e:Rd H a (.dK a8)):a8.length<=sizeLine/\(a==sysModules)=false/\∃vs,KV a8 vs/\h.DictOf (fM P w) a vs:=
 show cY P w H h a (.dK a8)from M! ok e
theorem SY{a8:List (fe×V)}(ok:km P w H h)(e:H a=some (.dK a8)):a8.length<=sizeLine/\(a==sysModules)=false/\∃vs,KV a8 vs/\h.DictOf (fM P w) a vs:=Dc ok (.inl e)
theorem BF{ks:List fe}(ok:km P w H h)(e:H a=some (.tup (ks.map kV))):(tupleKind (fM P w)).is h ks a:=by
 obtain⟨_,aP,r,o,h1,h2,n,h3⟩:=(show cY P w H h a (.tup (ks.map kV))from ok a _ e)
 exact⟨o,aP.toArray,n,h1,h2,h3,by simpa using wZ r⟩
theorem G7{a8:List (List fe×V)}(ok:km P w H h)(e:Rd H a (.dT a8)):a8.length<=sizeLine/\(a==sysModules)=false /\
  ∃xs,KT H a8 xs/\h.DictOfH (tupleKind (fM P w)) a xs:=by
 obtain⟨z,y,xs,r,o,es,ep,h1,h2,h3,h4,h5⟩:=(show cY P w H h a (.dT a8)from M! ok e)
 refine⟨z,y,xs,r,o,es,ep,h1,h2,h3,h4,λx hx=>?_,h5⟩;have all:∀{l:List (List fe×V)}{m:List (List fe×_i×_g)},KT H l m->∀x∈m,(tupleKind (fM P w)).is h x.1 x.2.1:=by
  intro l m q
  induction q with
  |nil=>intro x hx;exact nomatch hx
  | @cons p q ps qs hq t ih=>
   intro x hx;rcases V5.mp hx with e|hx
   .subst e;exact BF ok (by rw[<-hq.1];exact hq.2.1)
   .exact ih x hx
 exact all r x hx
theorem S0{a8:List (List fe×V)}(ok:km P w H h)(e:H a=some (.dT a8)):a8.length<=sizeLine/\(a==sysModules)=false /\
  ∃xs,KT H a8 xs/\h.DictOfH (tupleKind (fM P w)) a xs:=G7 ok (.inl e)
end
def we(H:Hp)(a:_i)(y:V)(r:Option V):Prop:=
 (∃a8 k,Rd H a (.dK a8)/\y=kV k/\r=kC a8 k)\/∃a8 k b,Rd H a (.dT a8)/\y=.ref b/\H b=some (.tup (k.map kV))/\r=kC a8 k
def yi(H:Hp)(a:_i)(y v:V)(H':Hp):Prop:=
 (∃a8 k,H a=some (.dK a8)/\y=kV k/\a8.length<sizeLine/\H'=upd H a (.dK (putK a8 k v))) \/
 ∃a8 k b,H a=some (.dT a8)/\y=.ref b/\H b=some (.tup (k.map kV))/\a8.length<sizeLine/\H'=upd H a (.dT (putK a8 k v))
theorem we.k{H:Hp}{a:_i}{a8:List (fe×V)}{k:fe}(e:H a=some (.dK a8)):we H a (kV k) (kC a8 k):=.inl ⟨a8,k,.inl e,rfl,rfl⟩
theorem we.t{a b:_i}{a8:List (List fe×V)}{k:List fe}(e:H a=some (.dT a8))(eb:H b=some (.tup (k.map kV))):we H a (.ref b) (kC a8 k):=.inr ⟨a8,k,b,.inl e,rfl,eb,rfl⟩
theorem yi.k{H:Hp}{a:_i}{a8:List (fe×V)}{k:fe}{v:V}(e:H a=some (.dK a8))(hl:a8.length<sizeLine):yi H a (kV k) v (upd H a (.dK (putK a8 k v))):=.inl ⟨a8,k,e,rfl,hl,rfl⟩
theorem yi.t{a b:_i}{a8:List (List fe×V)}{k:List fe}{v:V}(e:H a=some (.dT a8))(eb:H b=some (.tup (k.map kV)))(hl:a8.length<sizeLine):
  yi H a (.ref b) v (upd H a (.dT (putK a8 k v))):=.inr ⟨a8,k,b,e,rfl,eb,hl,rfl⟩
section
variable{a:_i}{y v:V}{u r:_g}{o:Option V}{E:Z_}
theorem aX.big(I:aX X ae σ H s):sysModules<s.heap.objs.size:=by have h:mainGlobals<s.heap.objs.size:=(I.mod.glob.keeps I.bk).lt;exact Zn (by decide) h
theorem EW{Q:Z_}(hu:A.units+1<cLine)(I:aX X ae σ H s)(g:we H a y (some v))(ry:bJ y u)(h:∀w' s',aX X ae σ H s'->bJ v w'->Q w' s'):
  wpAny (model X.prog X.w) A (getItem (.ref a) u) Q E s:=by
 rcases g with⟨a8,k,e,ey,l⟩|⟨a8,k,b,e,ey,eb,l⟩
 .subst ey;obtain⟨z,hd,vs,rel,dd⟩:=Dc I.cq e;obtain⟨w',hw,x_⟩:=uh.some_of (v:=v) (o:=valueAt vs k) (by rw[l];exact rel.val k);exact wpAny_getItem_of (G6 ry) dd.mapOf hw (h w' _ (I.tok _) x_)
 .subst ey;cases(show u=Value.ref b from ry);obtain⟨z,hd,xs,rel,dd⟩:=G7 I.cq e;obtain⟨w',hw,x_⟩:=uh.some_of (v:=v) (o:=(atKey xs k).map (·.2)) (by rw[l];exact rel.val k);obtain⟨p,hp,hp2⟩:=YJ.mp hw;refine wpAny_getItem_heap (tupleKind_room_in1 hu) (BF I.cq eb) dd hp ?_;rw[hp2];exact h w' _ (I.tok _) x_
theorem Dd{t':Nat}{ob:HO}(I:aX X ae σ H s)(mu:R5 (H a))(hs:Heap.SameBut a s.heap h')(he:∃q,h'.get? a=some q)(new:cY X.prog X.w (upd H a ob) h' a ob):
  aX X ae σ (upd H a ob) {s with heap:=h',toks:=t'}:=
 I.write (x:=a) (e:=a) mu (.inl rfl) (λb q hb z=>(hs.2 b hb).trans z) he new
theorem OQ{a8:List (fe×V)}{vs:List (fe×_g)}(z:a8.length<=sizeLine)(hd:(a==sysModules)=false)(rel:KV a8 vs)(dd:h'.DictOf (fM P w) a vs):
  cY P w H' h' a (.dK a8):=⟨z,hd,vs,rel,dd⟩
theorem EY{Q:Unit->_h->Prop}(hu:A.units+1<cLine)(I:aX X ae σ H s)(g:yi H a y v H')(ry:bJ y u)(rv:bJ v r)(h:∀s',aX X ae σ H' s'->Q () s'):
  wpAny (model X.prog X.w) A (setItem (.ref a) u r) Q E s:=by
 rcases g with⟨a8,k,e,ey,l,eH⟩|⟨a8,k,b,e,ey,eb,l,eH⟩
 .subst ey eH;obtain⟨z,hd,vs,rel,dd⟩:=SY I.cq e;have hz:vs.length<=sizeLine:=by rw[<-rel.length];exact z
  have hl:(putK a8 k v).length<=sizeLine:=by have:=r9 a8 k v;lia
  refine wpAny_setItem_pairs (hsz:=hz) (G6 ry) dd λh' dd' hs=>h _ ?_;have he:∃q,h'.get? a=some q:=let⟨q,_,_,hq,_⟩:=dd';⟨q,hq⟩
  exact Dd I (by rw[e];exact True.intro) hs he (OQ hl hd (rel.put k rv) dd')
 .subst ey eH;cases(show u=Value.ref b from ry);obtain⟨z,hd,xs,rel,dd⟩:=S0 I.cq e;have hz:xs.length<=sizeLine:=by rw[<-ZM rel];exact z
  have hl:(putK a8 k v).length<=sizeLine:=by have:=r9 a8 k v;lia
  refine wpAny_setItem_heap (hsz:=hz) (tupleKind_room_in1 hu) (BF I.cq eb) dd λh' dd' hs=>h _ ?_;obtain⟨q,es,ep,hq,h2,h3,h4,_,h5⟩:=dd';refine Dd I (by rw[e];exact True.intro) hs ⟨q,hq⟩ ⟨hl,hd,_,(rel.put k eb rv).keeps λc ys ec=>?_,q,es,ep,hq,h2,h3,h4,h5⟩;rw[a7 (R4 ec e (λz=>nomatch z))];exact ec
end
def OR(i:Expr):Prop:=∀ov iv,subscripted i false ov iv=operate [ov,iv] (getItem ov iv)
theorem K5{E:Z_}{env:Env}{slice:Expr}{T id:String}{Q:Z_}(hl:typeLookup (.type T) "__getitem__" = pure (some (.builtin id)))(hs:OR slice)(h:wpAny (model prog w) A (eval value env) (λo s₁=>wpAny (model prog w) A (eval slice env) (λi s₂=>s₂.TypeIs o T/\wpAny (model prog w) A (getItem o i) Q E s₂) E s₁) E s):
  wpAny (model prog w) A (eval (.Subscript value slice pos) env) Q E s:=by
 refine Subscript_ (Wm h (λo s₁ h₁=>Wm h₁ (λi s₂ h₂=>?_) λ_ _ x=>x) λ_ _ x=>x);obtain⟨hT,h₂⟩:=h₂;unfold subscriptTail;refine Vl ?_;rw[getitemInPython_of_ne hT.not_modules];refine Vl (wpAny_specialOf hT hl ?_);have fin:wpAny (model prog w) A (subscripted slice false o i) (λr s₃=>wpAny (model prog w) A (letTemporaryGo value o r >>= λ_=>pure r) Q E s₃) E s₂:=by rw[hs o i];exact wpAny_operating (Wm h₂ (λr s₃ h₃=>Vl (wpAny_letTemporaryGo (VA h₃))) λ_ _ x=>x)
 first
  |exact VA (Vl fin)
  |exact Vl (VA (Vl fin))
  |exact Vl fin
theorem z!{a:_i}{y:V}{o:Option V}(I:aX X ae σ H s)(g:we H a y o):s.TypeIs (.ref a) "dict":=by
 rcases g with⟨a8,k,e,_,_⟩|⟨a8,k,b,e,_,_,_⟩
 .obtain⟨_,_,vs,_,dd⟩:=Dc I.cq e;exact dd.typeIs
 .obtain⟨_,_,xs,_,dd⟩:=G7 I.cq e;exact dd.typeIs
def S4(td ty:TE):TE:=λσ H Q=>td σ H λx H1=>ty σ H1 λy H2=>∃a v,x=.ref a/\we H2 a y (some v)/\Q v H2
def S5(td ty tv:TE):TS:=λD σ H=>tv σ H λv H1=>td σ H1 λx H2=>ty σ H2 λy H3=>∃a H4,x=.ref a/\yi H3 a y v H4/\D.nx σ H4
section
variable{i:Expr}{ty tv:TE}
theorem K6(hu:X.A.units+1<cLine)(ho:PE X o td)(hi:PE X i ty)(hs:OR i):PE X (.Subscript o i pos) (S4 td ty):=by intro ae s σ H Q I h;refine K5 PySem.F.slot_dict_getitem.lookup hs (dR (ho ae s σ H _ I h) λu s1⟨x,H1,I1,rx,q1⟩=>dR (hi ae s1 σ H1 _ I1 q1) λiv s2⟨y,H2,I2,ry,a,v,ex,g,q2⟩=>?_);subst ex;obtain rfl:u=Value.ref a:=rx;exact⟨z! I2 g,EW hu I2 g ry λw' s3 I3 x_=>⟨v,H2,I3,x_,q2⟩⟩
theorem K7(hu:X.A.units+1<cLine)(ho:PE X o td)(hi:PE X i ty)(hv:PE X value tv)(hs:swapsWith value (some (.Subscript o i pos')) pos.line X.env=pure false):
  PS X (.Assign [.Subscript o i pos'] value pos) (S5 td ty tv):=by
 intro ae s σ H D I h;refine wpAny_Assign_Subscript (dR (hv ae s σ H _ I h) λr s1⟨v,H1,I1,rv,q1⟩=>dR (ho ae s1 σ H1 _ I1 q1) λu s2⟨x,H2,I2,rx,q2⟩=>dR (hi ae s2 σ H2 _ I2 q2) λiv s3⟨y,H3,I3,ry,a,H4,ex,g,q3⟩=>?_) hs;subst ex;obtain rfl:u=Value.ref a:=rx;exact EY hu I3 g ry rv λs4 I4=>⟨σ,H4,I4,q3⟩
end
theorem G8(h:Heap)(hb:sysModules<h.objs.size):cY P w H (h.push {cls:=.type "dict",data:=.dict #[]}) h.objs.size (.dK []):=
 ⟨We _,WD.mpr (W? (V0 hb)),[],.nil,Heap.DictOf.new h⟩
def OS:TE:=λ_ H Q=>∀p,H p=none->Q (.ref p) (upd H p (.dK []))
theorem G9:PE X (.Dict [] [] pos) OS:=λae s σ H Q I h=>
 wpAny_Dict_empty ⟨.ref s.heap.objs.size,_,I.laid (a:=s.heap.objs.size) (o:=.dK []) (t':=s.toks) (λ_ _ q=>Vo _ q) (VD _) (G8 s.heap I.big),rfl,h _ (I.cq.fresh (VD _))⟩
def IsD(H:Hp)(a:_i):Prop:=(∃a8,Rd H a (.dK a8))\/∃a8,Rd H a (.dT a8)
theorem qp.upd{H H':Hp}{p:_i}{o:HO}(e:qp H H')(h:H' p=none):qp H (upd H' p o):=λb u q=>by rw[a7 (bq (e b u q) h)];exact e b u q
def sG(k:Nat)(i:Int):Prop:=i.natAbs<2 ^ k
theorem sG.bits{k:Nat}{i:Int}(h:sG k i):Builtin.Int.intBits i<=k:=by
 unfold Builtin.Int.intBits;by_cases hz:(i==0)=true
 .rw[VC hz];exact We _
 .rw[VI hz];have h0:i.natAbs≠0:=by intro e;apply hz;have:i=0:=ZN.mp e;simp[this]
  have:=(YS h0).mpr h;lia
theorem sG.le{k:Nat}{i j:Int}(h:sG k j)(e:i.natAbs<=j.natAbs):sG k i:=YB e h
theorem sG.small{k:Nat}{i:Int}(hk:10<=k)(h0:-1000<i)(h1:i<1000):sG k i:=by show i.natAbs<2 ^ k;have:2 ^ 10<=2 ^ k:=Ym (by decide) hk;lia
def De(i j:Int):Prop:=∃a b,sG a i/\sG b j/\a<=2 ^ 20/\b<=2 ^ 20
theorem De.ok{i j:Int}(h:De i j):IntMulOk i j:=by obtain⟨a,b,h1,h2,h3,h4⟩:=h;exact IntMulOk.of_bits (V? h1.bits h3) (V? h2.bits h4)
def Df(i j:Int):Prop:=j≠0/\sG 9000 j
theorem Df.ok{i j:Int}(h:Df i j):Builtin.divisionGoesByPylong i j=false:=
 Zc ((YS (by intro e;exact h.1 (ZN.mp e))).mpr h.2)
theorem K8:f9 X (binaryOp .Mult) (rI De λi j=>.int (i*j)):=Su λ_ _ _ _ _ _ _ hc q=>PyProof.Rows.mul_int q hc.ok
theorem G_:f9 X (binaryOp .FloorDiv) (rI Df λi j=>.int (i.fdiv j)):=Su λ_ _ _ _ _ _ _ hc q=>floordiv_int hc.1 q (.inl hc.ok)
def Dg(X:Cx)(ifs:List Expr)(t:TT):Prop:=
 ∀(ae:Z?)(s:_h)(σ:St)(H:Hp)(Q:Bool->Hp->Prop),aX X ae σ H s->t σ H Q ->
  wpAny (model X.prog X.w) X.A (forIn ifs true λc r=>if r=true then do let ok <- isTrue c X.env (eval c X.env);pure (ForInStep.yield ok)else pure (ForInStep.yield r)) (TP X ae σ Q) X.xe s
def S6:TT:=λ_ H Q=>Q true H
theorem K9:Dg X [] S6:=λ_ _ _ H _ I h=>wpAny_tests_nil ⟨H,I,h⟩
theorem K_{c:Expr}{t:TT}(h:PT X c t):Dg X [c] t:=λae s σ H Q I hw=>wpAny_tests_one (h ae s σ H Q I hw)
theorem km.Dh{a:_i}{o:HO}(x:km P w H h)(hn:H a=none)(new:cY P w (upd H a o) h a o):km P w (upd H a o) h:=λb u e=>by
 by_cases hb:b=a
 .subst hb;rw[b8]at e;cases e;exact new
 .rw[a7 hb]at e;exact(x b u e).pv (λc v _ q=>q) (λc q=>by rw[a7 (bq q hn)];exact q) λc xs q=>by rw[a7 (bq q hn)];exact q
def v5(X:Cx)(N:_e)(scope:Scope)(cl:List (Str×_i))(C:_i)(fp:_d)(s:_h)(H:Hp):Cx:=
 {X with N:=N,s₀:=s,H₀:=H,env:=compEnvC scope cl C X.env,outer:=X.stack,stack:=X.stack,ex:=fp,fn:=λ_=>false,pn:=[],xe:=λ_ _=>False}
def sH(k:Nat)(bE:List Nat)(σ:St):St:=List.replicate k none++bE.map λj=>(σ[j]?).getD none
structure uv(X:Cx)(N:_e)(scope:Scope)(cl:List (Str×_i))(k:Nat)(bE:List Nat):Prop where
 sI:closureFor scope X.env=pure cl
 sub:∀x c,cl.lookup x=some c->X.env.cells.lookup x=some c
 has:∀x,((relabel scope X.env).names.lookup x=some .cell\/(relabel scope X.env).names.lookup x=some .free)->∃c,cl.lookup x=some c
 gA:∀x∈scope.names,x.2≠.cell
 kind:scope.kind=.function
 names:∀x∈scope.names,x.2=.local->scope.names.lookup x.1=some .local
 len:N.length=k+bE.length
 at_:∀i j x,bE[i]?=some j->N[k+i]?=some x->X.N[j]?=some x/\(X.env.kindOf x=some .cell\/X.env.kindOf x=some .free)/\((relabel scope X.env).names.lookup x=some .cell\/(relabel scope X.env).names.lookup x=some .free)
def w6(J:It)(k:Nat)(bE:List Nat)(g:TG)(tt:TT)(te:TE)(σ:St)(H1:Hp)(Q:VK):Prop:=
 ∃W:Nat->Nat->List V->St->Hp->Prop,(∃m,W 0 m [] (sH k bE σ) H1)/\∀i m ys τ H,W i m ys τ H ->
  (J.stop i H/\ys.length<=sizeLine/\∀p,H p=none->Q (.ref p) (upd H p (.lst ys))) \/
  (J.go i H/\ys.length<sizeLine/\∀x H',J.Rr i H x H'->g x τ H' λτ2 H2=>tt τ2 H2 λb H3=>if b=true then te τ2 H3 λy H4=>∃m',m'<m/\W (i+1) m' (ys++[y]) τ2 H4 else ∃m',m'<m/\W (i+1) m' ys τ2 H3)
@[irreducible] def uw(k:Nat)(bE:List Nat)(wi:TI)(g:TG)(tt:TT)(te:TE):TE:=λσ H Q=>wi σ H λJ H1=>w6 J k bE g tt te σ H1 Q
theorem G!{k:Nat}{g:TG}(h:wi σ H λJ H1=>w6 J k bE g tt te σ H1 Q):uw k bE wi g tt te σ H Q:=by unfold uw;exact h
theorem w9{k:Nat}{g:TG}(h:uw k bE wi g tt te σ H Q):wi σ H λJ H1=>w6 J k bE g tt te σ H1 Q:=by unfold uw at h;exact h
theorem K!{k:Nat}{σ:St}{v:V}(h:(sH k bE σ)[i]?=some (some v)):∃j,k<=i/\bE[i-k]?=some j/\σ[j]?=some (some v):=by
 unfold sH at h;by_cases hi:i<k
 .rw[V6 (by simpa using hi),Wz]at h;split at h<;>cases h
 .rw[V4 (by simpa using YL hi),VY,VM]at h;cases e:bE[i-k]? with
  |none=>rw[e]at h;cases h
  |some j=>
   rw[e]at h;refine⟨j,YL hi,rfl,?_⟩;have h':(σ[j]?).getD none=some v:=by simpa using h
   cases q:σ[j]? with
   |none=>rw[q]at h';cases h'
   |some o=>rw[q]at h';exact X5 some h'
theorem aX.block{scope:Scope}{cl:List (Str×_i)}{k:Nat}{t':Nat}{m':Z!}(I:aX X ae σ H s)(B:uv X N scope cl k bE)(hf:∀b∈fp,kx X ae H b)(hC:s.heap.objs.size<=C)(S7:∀b∈fp,∃o,s.heap.get? b=some o)(kp:∀b o,s.heap.get? b=some o->h'.get? b=some o)(ns:h'.Ns C m'):aX (v5 X N scope cl C fp s H) [] (sH k bE σ) H {s with heap:=h',toks:=t'}:=by
 have below:∀{b:_i}{o:Obj},s.heap.get? b=some o->b≠C:=λe=>V0 (VO (VH e) hC);have S8:∀x c,cl.lookup x=some c->∃v,s.heap.IsCell c v:=λx c e=>I.cell x c (B.sub x c e);refine⟨⟨I.ok.mod,?_,I.ok.glob,I.ok.blt,hC,λx y c h1 h2=>I.ok.inj x y c (B.sub x c h1) (B.sub y c h2),λx hx=>B.has x hx,λx c h1 _=>?_,I.ok.hd,I.ok.frames,.inl rfl,λb hb=>⟨?_,λx c e=>?_⟩,I.bs,V? I.ok.Gu I.sz,λb o e hb=>?_,λb hb=>?_,I.stack,I.xQ⟩,
  rfl,I.bare,Un.kept kp,⟨m',ns,λi x v h1 h2 h3=>?_⟩,λx c e=>?_,?_,λx c e=>I.iT x c (B.sub x c e),λp hp=>absurd (show p∈([]:Z?)from hp) (by simp),I.cq.kept kp,?_⟩
 .exact B.kind
 .exact absurd h1 (by simp[v5])
 .obtain⟨o,e⟩:=S7 b hb;exact below e
 .exact(hf b hb).2.2.2.2.1 x c (B.sub x c e)
 .obtain⟨_,_,_,h4,_⟩:=hf b hb;rcases h4 with z|z
  .exact I.ok.zM b o e z
  .exact absurd (VO (VH (I.ok.bs b o e).1) z) (Wf _)
 .intro z;rcases V5.mp (I.qg b z)with e|e
  .exact(hf b hb).2.1 e
  .exact(hf b hb).2.2.1 e
 .obtain⟨j,hk,hj,hσ⟩:=K! h2;have hN:N[k+(i-k)]?=some x:=by rw[Nat.add_sub_cancel' hk];exact h1
  obtain⟨a1,a2,a3⟩:=B.at_ (i-k) j x hj hN;obtain⟨m,hn,hl⟩:=I.loc;have vis:J7 X.env.scope x:=by
   rcases a2 with z|z
   .exact .inr (.inl z)
   .exact .inr (.inr z)
  obtain⟨u,r,l⟩:=hl j x v a1 hσ vis;refine⟨u,r,.inr ⟨a3,?_⟩⟩;rcases l with⟨z,_⟩|⟨_,c,e,cc⟩
  .rcases a2 with y|y<;>(rw[z]at y;cases y)
  .obtain⟨c',e'⟩:=B.has x a3;have:X.env.cells.lookup x=some c':=B.sub x c' e';rw[e]at this;cases this;obtain⟨o,ho,hd⟩:=cc;exact⟨c,e',o,kp c o ho,hd⟩
 .obtain⟨v,o,ho,hd⟩:=S8 x c e;exact⟨v,o,kp c o ho,hd⟩
 .exact I.cq.fresh hC
 .show(sH k bE σ).length=N.length;unfold sH;rw[Vv,VY,Vq,B.len]
def z?(X:Cx)(ae:Z?)(σ:St)(s:_h)(Q:VK)(acc:_g)(C:_i)(s':_h):Prop:=
 ∃D H',acc=.ref D/\s.heap.objs.size<=C/\aX X ae σ H' s'/\H' C=none/\(∃m,s'.heap.Ns C m)/\Q (.ref D) H'
structure M?(C:Cx->Prop)(P:_k)(w:World)(K:Z')(tg:Expr)(J:It)(fp:_d)(it:_i)(tn:Nat->Heap->Prop):Prop where
 obj:∀i h,tn i h->∀b∈fp,∃o,h.get? b=some o/\∀v,o.data≠.cell v
 keep:∀i h h',tn i h->(∀b∈fp,∀o,h.get? b=some o->h'.get? b=some o)->tn i h'
 item:∀(X:Cx),X.prog=P->X.w=w->X.K=K->C X->∀(i:Nat)(ae:Z?)(s:_h)(σ:St)(H:Hp)(E:Z_),aX X ae σ H s->(∀b∈fp,kx X ae H b)->tn i s.heap->J.go i H ->
  wpAny (model P w) X.A (pyNext (.ref it)) (λr s1=>∃u,r=some u/\wpAny (model P w) X.A (letOwnedTupleGo tg (.ref it) u) (λ_ s2=>∃x H',aX X ae σ H' s2/\bJ x u/\J.Rr i H x H'/\tn (i+1) s2.heap/\∀b∈fp,H' b=none) E s1) E s
 done:∀(X:Cx),X.prog=P->X.w=w->X.K=K->C X->∀(i:Nat)(ae:Z?)(s:_h)(σ:St)(H:Hp)(E:Z_),aX X ae σ H s->(∀b∈fp,kx X ae H b)->tn i s.heap->J.stop i H ->
  wpAny (model P w) X.A (pyNext (.ref it)) (λr s1=>r=none/\aX X ae σ H s1) E s
 self:∀(A:_j)(i:Nat)(s:_h)(Q:Z_)(E:Z_),tn i s.heap->Q (.ref it) s->wpAny (model P w) A (pyIter (.ref it)) Q E s
theorem Turn.c{K:Z'}{it:_i}(T:Turn P w K tg J fp it tn):M? (λX=>X.calm=true) P w K tg J fp it tn:=⟨T.obj,T.keep,T.item,T.done,T.self⟩
def S9(X:Cx)(N:_e)(scope:Scope)(cl:List (Str×_i))(C:_i)(fp:_d)(s:_h)(H:Hp)(xe:_i->_g->_h->Prop):Cx:={v5 X N scope cl C fp s H with xe:=xe C}
theorem aX.xe{X:Cx}{ae:Z?}{σ:St}{H:Hp}{s:_h}(I:aX X ae σ H s)(x:Z_):aX {X with xe:=x} ae σ H s:=by obtain⟨⟨o1,o2,o3,o4,o5,o6,o7,o8,o9,o10,o11,o12,o13,o14,o15,o16,o17,o18⟩,i2,i3,i4,i5,i6,i7,i8,i9,i10,i11⟩:=I;exact⟨⟨o1,o2,o3,o4,o5,o6,o7,o8,o9,o10,o11,o12,o13,o14,o15,o16,o17,o18⟩,i2,i3,i4,i5,i6,i7,i8,i9,i10,i11⟩
def OT(X:Cx)(fp:_d)(C:_i)(s:_h)(H:Hp):Prop:=∃ae σ,aX X ae σ H s/\(∀b∈fp,kx X ae H b)/\s.heap.objs.size<=C
theorem OU{M:Model}{m:Sem α}{Q Q':α->_h->Prop}{E E':Z_}{s:_h}(he:∀x s',E x s'->E' x s')(h:wpAny M A m Q E s)(k:∀a s',Q a s'->Q' a s'):wpAny M A m Q' E' s:=Wm h k he
theorem wg{s:_h}{target:Expr}{scope:Scope}{it acc:_g}{env:Env}{R:Result->_h->Prop}(I:Nat->_h->Prop)
  (turn:∀ n s,I n s->wpAny (model prog w) A (pyNext it) (λr s₁=>match r with
   |none=>R (.ok .next) s₁
   |some v=>wpAny (model prog w) A (letOwnedTupleGo target it v) (λ_ M'=>wpAny (model prog w) A (assign target env v) (λ_ s₂=>
     wpAny (model prog w) A (forIn ifs true λc r=>if r=true then do let ok <- isTrue c env (eval c env);pure (ForInStep.yield ok)else pure (ForInStep.yield r)) (λok s₃=>
      if ok=true then wpAny (model prog w) A (eval elt env) (λx s₄=>
       wpAny (model prog w) A (call (.builtin "list.append") [acc,x]) (λ_ s₅=>∃m,m<n/\I m s₅) (notedBy (model prog w) A env λx s'=>R (.error x) s') s₄) (notedBy (model prog w) A env λx s'=>R (.error x) s') s₃
      else ∃m,m<n/\I m s₃) (notedBy (model prog w) A env λx s'=>R (.error x) s') s₂) (notedBy (model prog w) A env λx s'=>R (.error x) s') M') (notedBy (model prog w) A env λx s'=>R (.error x) s') s₁) (notedBy (model prog w) A env λx s'=>R (.error x) s') s)
  (n:Nat) (h:I n s):codeAny (model prog w) A (.compLoop (.ListComp elt [⟨target,iter,ifs,0⟩] scope pos) 0 it acc env) R s:=by
 refine codeAny_loop rfl I (λn s hI=>?_) n h;show wpAny _ A ((compTurn (.ListComp elt [⟨target,iter,ifs,0⟩] scope pos) 0 it acc env).onRaise (λx=>do noteFrame x env;theTreesLotGoes x)) _ _ s;refine wpAny_noted ?_;rw[compTurn_list];refine Vl (YO (Vl (Wm (turn n s hI) (λr s₁ h₁=>?_) λ_ _ h'=>h')));cases r with
 |none=>exact VA h₁
 |some v=>
  refine Vl (Wm h₁ (λ_ M' S_=>?_) λ_ _ h'=>h');refine Vl (Wm S_ (λ_ s₂ h₂=>Vl (Wm h₂ (λok s₃ h₃=>?_) λ_ _ h'=>h')) λ_ _ h'=>h');cases ok with
  |false=>exact VA ⟨rfl,h₃⟩
  |true=>exact Vl (Vl (Wm h₃ (λx s₄ h₄=>Vl (Wm h₄ (λ_ s₅ h₅=>VA (VA ⟨rfl,h₅⟩)) λ_ _ h'=>h')) λ_ _ h'=>h'))
theorem BG{scope:Scope}{cl:List (Str×_i)}{k:Nat}{g:TG}{it:_i}{RR:_g->Env->Result->_h->Prop}{E:Z_}{xe:_i->_g->_h->Prop}{Cd:Cx->Prop}(hc:∀D,Cd (S9 X N scope cl D fp s H xe))(B:uv X N scope cl k bE)(hg:∀C fp s H,PG (S9 X N scope cl C fp s H xe) tg g)(hi:∀C fp s H,Dg (S9 X N scope cl C fp s H xe) ifs tt)(he:∀C fp s H,OT X fp C s H->PE (S9 X N scope cl C fp s H xe) elt te)(I:aX X ae σ H s)(T:M? Cd X.prog X.w X.K tg J fp it tn)(st:tn 0 s.heap)(hf:∀b∈fp,kx X ae H b)(h:w6 J k bE g tt te σ H Q)(hRR:∀acc C s',z? X ae σ s Q acc C s'->RR acc (compEnvC scope cl C X.env) (.ok .next) s')(mon:∀acc C x s',xe C x s'->notedBy (model X.prog X.w) X.A (compEnvC scope cl C X.env) (λx s'=>RR acc (compEnvC scope cl C X.env) (.error x) s') x s'):
  wpAny (model X.prog X.w) X.A (newList []) (λacc s₃=>wpAny (model X.prog X.w) X.A (newFunctionEnv scope X.env.globals cl [] X.env.qual none .none (some X.env)) (λG? s₄=>
   codeAny (model X.prog X.w) X.A (.compStart (.ListComp elt [⟨tg,iter,ifs,0⟩] scope pos) 0 (.ref it) acc {G? with scope:=relabel scope X.env}) (RR acc {G? with scope:=relabel scope X.env}) s₄) E s₃) E s:=by
 obtain⟨W,⟨m0,w0⟩,turn⟩:=h;refine Wv (wpAny_newFunctionEnv B.gA (by intro y hy;simp at hy) (λh₁ BH yj=>?_) B.kind);dsimp only at BH yj⊢;generalize hH2:s.heap.push {cls:=.type "list",dict:=none,data:=.seq ([]:_b).toArray} = H2 at BH yj⊢;have hC:H2.objs.size=s.heap.objs.size+1:=by rw[<-hH2,Ya]
 have S!:s.heap.objs.size<=H2.objs.size:=by rw[hC];exact Zz _
 have hDC:s.heap.objs.size≠H2.objs.size:=by rw[hC];exact V0 (YK _)
 have old:∀b o,s.heap.get? b=some o->h₁.get? b=some o:=λb o e=>yj.extBut b o (V0 (VO (VH e) S!)) (Vo _ (hH2▸Vo _ e));have OW:h₁.get? s.heap.objs.size=some {cls:=.type "list",data:=.seq ([]:_b).toArray 0}:=yj.extBut _ _ hDC (Vo _ (hH2▸VS _ rfl));have aaM:=T.obj 0 _ st;have S7:∀b∈fp,∃o,s.heap.get? b=some o:=λb hb=>let⟨o,e,_⟩:=aaM b hb;⟨o,e⟩
 have hDf:∀b∈fp,b≠s.heap.objs.size:=λb hb z=>by obtain⟨o,e⟩:=S7 b hb;exact absurd (VH e) (by rw[z];exact Wf _)
 have hD0:H s.heap.objs.size=none:=I.cq.fresh (VD _);have Na:tn 0 h₁:=T.keep 0 _ _ st λb _ o e=>old b o e;have S?:∀x c,cl.lookup x=some c->c≠s.heap.objs.size:=λx c e z=>by obtain⟨v,o,ho,_⟩:=I.cell x c (B.sub x c e);exact absurd (VH ho) (by rw[z];exact Wf _)
 have nfs:∀b∈iY X.stack,b≠s.heap.objs.size:=λb hb z=>by obtain⟨_,o,ho,_⟩:=I.stack.mem hb;exact absurd (VH ho) (by rw[z];exact Wf _)
 have loop:∀s₃:_h,s₃ = {s with heap:=h₁,toks:=s.toks+([]:List (Str×_g)).length} ->
   codeAny (model X.prog X.w) X.A (.compLoop (.ListComp elt [⟨tg,iter,ifs,0⟩] scope pos) 0 (.ref it) (.ref s.heap.objs.size) (compEnvC scope cl H2.objs.size X.env)) (RR (.ref s.heap.objs.size) (compEnvC scope cl H2.objs.size X.env)) s₃:=by
  rintro s₃ rfl;generalize Bk:S9 X N scope cl H2.objs.size fp s H xe=XB;have eP:XB.prog=X.prog:=by rw[<-Bk];rfl
  have eW:XB.w=X.w:=by rw[<-Bk];rfl
  have eK:XB.K=X.K:=by rw[<-Bk];rfl
  have eA:XB.A=X.A:=by rw[<-Bk];rfl
  have eE:XB.env=compEnvC scope cl H2.objs.size X.env:=by rw[<-Bk];rfl
  have eL:XB.env.locals=H2.objs.size:=by rw[eE];rfl
  have eF:XB.fs=iY X.stack:=by rw[<-Bk];rfl
  have eX:XB.ex=fp:=by rw[<-Bk];rfl
  have eN:XB.pn=[]:=by rw[<-Bk];rfl
  have e0:XB.s₀=s:=by rw[<-Bk];rfl
  have eC:Cd XB:=by rw[<-Bk];exact hc _
  have ecl:XB.env.cells=cl:=by rw[eE];rfl
  have exe:XB.xe=xe H2.objs.size:=by rw[<-Bk];rfl
  have mon:=mon (.ref s.heap.objs.size) H2.objs.size;have v9:PG XB tg g:=by rw[<-Bk];exact hg _ _ _ _
  have Ha:Dg XB ifs tt:=by rw[<-Bk];exact hi _ _ _ _
  have he':PE XB elt te:=by rw[<-Bk];exact he _ _ _ _ ⟨ae,σ,I,hf,S!⟩
  have I0:aX XB [] (sH k bE σ) H {s with heap:=h₁,toks:=s.toks+([]:List (Str×_g)).length}:=by rw[<-Bk];exact(I.block B hf S! S7 old BH).xe _
  -- J0 Nb pinned
  have aaN:∀{τ:St}{H':Hp}{s':_h}{aP:_b}{nn:Nat},aX XB [] τ H' s'->s'.heap.get? s.heap.objs.size=some {cls:=.type "list",data:=.seq aP.toArray nn}->H' s.heap.objs.size=none ->
    aX XB [(s.heap.objs.size,{cls:=.type "list",data:=.seq aP.toArray nn})] τ H' s':=λ{τ H' s' aP nn}J hd hn=>J.px λp hp=>by
   obtain rfl:p=_:=VN.mp hp;refine⟨hd,hn,by rw[eL];exact hDC,by rw[eF];exact λz=>nfs _ z rfl,λv z=>?_⟩;have z':Data.seq aP.toArray nn=Data.cell v:=z;cases z'
  have Bv:∀{H':Hp}{o:Obj},(∀b∈fp,H' b=none)->∀b∈fp,kx XB [(s.heap.objs.size,o)] H' b:=λ{H' o}hn b hb=>by
   obtain⟨_,f1,f2,f3,f4,f5⟩:=hf b hb;refine⟨hn b hb,?_,?_,.inl (by rw[eX];exact hb),λx c e=>f4 x c (B.sub x c (by rw[<-ecl];exact e)),λp hp=>?_⟩
   .rw[eL];obtain⟨o,e⟩:=S7 b hb;exact V0 (VO (VH e) S!)
   .rw[eF];intro z;rcases V5.mp (I.qg b z)with e|e
    .exact f1 e
    .exact f2 e
   .rw[eN]at hp;obtain rfl:p=_:=VN.mp (by simpa using hp);exact W? (hDf b hb)
  refine wg (λn s'=>∃i ys aP nn τ H',aX XB [] τ H' s'/\s'.heap.get? s.heap.objs.size=some {cls:=.type "list",data:=.seq aP.toArray nn}/\H' s.heap.objs.size=none/\bo ys aP/\tn i s'.heap/\(∀b∈fp,H' b=none)/\W i n ys τ H') ?_ m0
   ⟨0,[],[],0,sH k bE σ,H,I0,OW,hD0,.nil,Na,λb hb=>(hf b hb).1,w0⟩
  rintro n s3 ⟨i,ys,aP,nn,τ,H3,I3,hd3,hn3,rv3,oD,Sq,w3⟩;have I3':=aaN I3 hd3 hn3;rcases turn i n ys τ H3 w3 with⟨stop,hz,qn⟩|⟨go,hz,step⟩
  .have D1:=T.done XB eP eW eK eC i _ s3 τ H3 (notedBy (model X.prog X.w) X.A (compEnvC scope cl H2.objs.size X.env) λx s'=>RR (.ref s.heap.objs.size) (compEnvC scope cl H2.objs.size X.env) (.error x) s') I3' (Bv Sq) oD stop;rw[eA]at D1;refine dR D1 λr s4⟨hr,I4⟩=>?_;subst hr;refine hRR _ _ s4 ?_;obtain⟨pd,Ta,_⟩:=I4.pin (s.heap.objs.size,{cls:=.type "list",data:=.seq aP.toArray nn}) (by rw[eN];exact Wa _ (VN.mpr rfl));have K?:Un (iY X.stack) fp H H3 s.heap s4.heap:=by have:=I4.base;rw[<-Bk]at this;exact this
   have new:cY X.prog X.w (upd H3 s.heap.objs.size (.lst ys)) s4.heap s.heap.objs.size (.lst ys):=⟨hz,aP,nn,rv3,pd⟩
   have aaO:km X.prog X.w H3 s4.heap:=by have:=I4.cq;rw[eP,eW]at this;exact this
   have cq:km X.prog X.w (upd H3 s.heap.objs.size (.lst ys)) s4.heap:=aaO.Dh Ta new;have os4:s4.os=s.os:=by have:=I4.os;rw[e0]at this;exact this
   have un:Un (iY X.stack) fp H (upd H3 s.heap.objs.size (.lst ys)) s.heap s4.heap:=
    ⟨K?.keep,K?.slot,λb o e n hx=>by rw[a7 (V0 (VH e))];exact K?.free b o e n hx,K?.there,
     λb xs e=>by rw[a7 (bq (K?.mJ b xs e) Ta)];exact K?.mJ b xs e,λb o u e=>by rw[a7 (bq (K?.l! b o u e) Ta)];exact K?.l! b o u e,
     λb ps e=>by
      obtain⟨more,q⟩:=K?.oq b ps e;exact⟨more,by rw[a7 (bq q Ta)];exact q⟩⟩
   have I5:aX X ae σ (upd H3 s.heap.objs.size (.lst ys)) s4:=I.zN os4 un cq I4.bare λb hb=>⟨(hf b hb).2.2.2.1,(hf b hb).2.1,(hf b hb).2.2.2.2.1,(hf b hb).2.2.2.2.2⟩
   have hC4:H3 H2.objs.size=none:=by have:=I4.free;rw[eL]at this;exact this
   refine⟨s.heap.objs.size,_,rfl,S!,I5,by rw[a7 (W? hDC)];exact hC4,?_,qn _ Ta⟩;obtain⟨m4,ns4,_⟩:=I4.loc;rw[eL]at ns4;exact⟨m4,ns4⟩
  .have D1:=T.item XB eP eW eK eC i _ s3 τ H3 (notedBy (model X.prog X.w) X.A (compEnvC scope cl H2.objs.size X.env) λx s'=>RR (.ref s.heap.objs.size) (compEnvC scope cl H2.objs.size X.env) (.error x) s') I3' (Bv Sq) oD go;rw[eA]at D1;refine dR D1 λr s4⟨u,hr,h4⟩=>?_;subst hr;refine dR h4 λ_ s5⟨x,H5,I5,r5,y5,J!,fr5⟩=>?_;have I5':=I5.pinned (Bv fr5) (T.obj _ _ J!);have G:=v9 _ s5 τ H5 x u _ I5' r5 (step x H5 y5);rw[eP,eW,eA,eE,exe]at G;refine OU mon G λ_ s6⟨τ6,H6,I6,q6⟩=>?_;have G2:=Ha _ s6 τ6 H6 _ I6 q6;rw[eP,eW,eA,eE,exe]at G2;refine OU mon G2 λok s7⟨H7,I7,q7⟩=>?_
   -- So J0 ae give back
   have back:∀{τ8:St}{H8:Hp}{s8:_h},aX XB ([(s.heap.objs.size,({cls:=.type "list",data:=.seq aP.toArray nn}:Obj))]++uj fp s5.heap) τ8 H8 s8 ->
     aX XB [] τ8 H8 s8/\s8.heap.get? s.heap.objs.size=some {cls:=.type "list",data:=.seq aP.toArray nn}/\H8 s.heap.objs.size=none/\tn (i+1) s8.heap/\∀b∈fp,H8 b=none:=λ{τ8 H8 s8}J=>by
    obtain⟨p1,p2,_⟩:=J.pin (s.heap.objs.size,{cls:=.type "list",data:=.seq aP.toArray nn}) (Wa _ (WB _ (VN.mpr rfl)));refine⟨J.px λp hp=>absurd (show p∈([]:Z?)from hp) (by simp),p1,p2,T.keep _ _ _ J! λb hb o e=>(J.pin (b,o) (Wa _ (Wa _ (ky hb e)))).1,λb hb=>?_⟩;obtain⟨o,e,d⟩:=T.obj _ _ J! b hb;exact(J.pin (b,o) (Wa _ (Wa _ (ky hb e)))).2.1
   cases ok with
   |false=>
    rw[VI VQ]at q7⊢;obtain⟨m',hm,w7⟩:=q7;obtain⟨J,a1,a2,a3,a4⟩:=back I7;exact⟨m',hm,i+1,ys,aP,nn,τ6,H7,J,a1,a2,rv3,a3,a4,w7⟩
   |true=>
    rw[VC rfl]at q7⊢;have G3:=he' _ s7 τ6 H7 _ I7 q7;rw[eP,eW,eA,eE,exe]at G3;refine OU mon G3 λv s8⟨y,H8,I8,r8,m',hm,w8⟩=>?_;obtain⟨J,a1,a2,a3,a4⟩:=back I8;have hlen:=rv3.length;refine X1 F.slot_list_append ⟨_,a1,rfl⟩ F.entry_list_append (F.args_list_append_2 _ _) (ZO s.heap.objs.size aP.toArray nn v (by rw[VG];lia)) ⟨a1,?_⟩;have q:=Z1 a1 (λz=>z.push v);have other:∀b o,b≠s.heap.objs.size->s8.heap.get? b=some o->(s8.heap.update s.heap.objs.size (Obj.mapSeq λz=>z.push v)).get? b=some o:=λb o hb e=>(Wj s8.heap (Obj.mapSeq λz=>z.push v) (W? hb)).trans e;have J':aX XB [] τ6 H8 {s8 with heap:=s8.heap.update s.heap.objs.size (Obj.mapSeq λz=>z.push v)}:=
     J.turned (t':=s8.toks) (it:=s.heap.objs.size) other a2 (by rw[eL];exact hDC) (.inr (by rw[e0];exact VD _)) (λx c e=>S? x c (by rw[<-ecl];exact e)) λp hp=>absurd (show p∈([]:Z?) by rw[eN]at hp;exact hp) (by simp)
    obtain⟨n2,q2⟩:∃n2,(s8.heap.update s.heap.objs.size (Obj.mapSeq λz=>z.push v)).get? s.heap.objs.size=some {cls:=.type "list",data:=.seq (aP++[v]).toArray n2}:=by
     have e1:aP.toArray.push v=(aP++[v]).toArray:=by simp
     rw[<-e1];exact⟨_,q⟩
    exact⟨m',hm,i+1,ys++[y],aP++[v],n2,τ6,H8,J',q2,a2,rv3.append (.cons r8 .nil),T.keep _ _ _ a3 λb hb o e=>other b o (hDf b hb) e,a4,w8⟩
 exact codeAny_compStart_list (loop _ rfl) (T.self X.A 0 _ _ _ Na (loop _ rfl))
theorem w_{scope:Scope}{cl:List (Str×_i)}{k:Nat}{g:TG}{it:_i}{RR:_g->_i->Result->_h->Prop}{E:Z_}(hc:X.calm=true)(B:uv X N scope cl k bE)(hg:∀C fp s H,PG (v5 X N scope cl C fp s H) tg g)(hi:∀C fp s H,Dg (v5 X N scope cl C fp s H) ifs tt)(he:∀C fp s H,PE (v5 X N scope cl C fp s H) elt te)(I:aX X ae σ H s)(T:Turn X.prog X.w X.K tg J fp it tn)(st:tn 0 s.heap)(hf:∀b∈fp,kx X ae H b)(h:w6 J k bE g tt te σ H Q)(hRR:∀acc C s',z? X ae σ s Q acc C s'->RR acc C (.ok .next) s'):
  wpAny (model X.prog X.w) X.A (newList []) (λacc s₃=>wpAny (model X.prog X.w) X.A (newFunctionEnv scope X.env.globals cl [] X.env.qual none .none (some X.env)) (λG? s₄=>
   codeAny (model X.prog X.w) X.A (.compStart (.ListComp elt [⟨tg,iter,ifs,0⟩] scope pos) 0 (.ref it) acc {G? with scope:=relabel scope X.env}) (RR acc G?.locals) s₄) E s₃) E s:=by
 have z:=BG (xe:=λ_ _ _=>False) (RR:=λacc en=>RR acc en.locals) (E:=E) (iter:=iter) (pos:=pos) (Cd:=λX=>X.calm=true) (λ_=>hc) B hg hi (λC fp s H _=>he C fp s H) I T.c st hf h hRR λ_ _ _ _ q=>q.elim;exact z
section
variable{scope:Scope}{Hb:Pos}{cl:List (Str×_i)}{k:Nat}{g:TG}
theorem aX.w!{σ':St}{s':_h}(I:aX X ae σ H s)(hC:s.heap.objs.size<=C)(I':aX X ae σ' H' s')(hn:H' C=none)(sb:Heap.SameBut C s'.heap h'):
  aX X ae σ' H' {s' with heap:=h'}:=by
 refine I'.turned (t':=s'.toks) (it:=C) (λb o hb e=>(sb.2 b hb).trans e) hn (W6 (VO I.lt hC)) (.inr (V? I.sz hC)) (λx c e=>?_) λp hp=>?_
 .obtain⟨v,o,ho,_⟩:=I.cell x c e;exact V0 (VO (VH ho) hC)
 .exact V0 (VO (VH (I.pin p hp).1) hC)
theorem K'(hc:X.calm=true)(B:uv X N scope cl k bE)(hi:PI X tg iter wi)(hg:∀C fp s H,PG (v5 X N scope cl C fp s H) tg g)(OX:∀C fp s H,Dg (v5 X N scope cl C fp s H) ifs tt)(he:∀C fp s H,PE (v5 X N scope cl C fp s H) elt te)(hs:∀x,foldedSetIterable iter X.env x=pure x:=by intro _;rfl):PE X (.ListComp elt [⟨tg,iter,ifs,0⟩] scope pos) (uw k bE wi g tt te):=by intro ae s σ H Q I h;rw[eval_ListComp];refine ZE (use:=none) rfl hs B.sI B.kind B.names (dR (hi ae s σ H _ I (w9 h)) λxv s₁ h₁=>dR h₁ λitv s₂ h₂=>?_);obtain⟨it,fp,tn,J,H2,e,I2,T,bX,f2,hW⟩:=h₂;subst e;refine w_ (RR:=λacc C=>compPost (model X.prog X.w) X.A X.xe none (EP X ae σ Q) acc C) hc B hg OX he I2 T bX f2 hW ?_;rintro acc C s' ⟨D,H',rfl,hC,I',hn,⟨m,ns⟩,q⟩;exact⟨m,ns,λh' sb=>⟨.ref D,H',I2.w! hC I' hn sb,rfl,q⟩⟩
theorem BI{py:Pos}(hN:X.N.Nodup)(hy:X.N[i]?=some y)(hx:Loc X.env.scope y)(hc:X.calm=true)(B:uv X N scope cl k bE)(hi:PI X tg iter wi)(hg:∀C fp s H,PG (v5 X N scope cl C fp s H) tg g)(OX:∀C fp s H,Dg (v5 X N scope cl C fp s H) ifs tt)(he:∀C fp s H,PE (v5 X N scope cl C fp s H) elt te)(hsw:swapsWith (.ListComp elt [⟨tg,iter,ifs,0⟩] scope pos) (some (.Name y py)) Hb.line X.env=pure true:=by rfl)(hs:∀x,foldedSetIterable iter X.env x=pure x:=by intro _;rfl)(hf:X.fn y=true\/X.env.scope.names.lookup y=some .local:=by first|exact .inl rfl|exact .inr rfl|assumption):
  PS X (.Assign [.Name y py] (.ListComp elt [⟨tg,iter,ifs,0⟩] scope pos) Hb) (Kw (uw k bE wi g tt te) (zO i)):=by
 intro ae s σ H D I h;rw[exec_Assign_Name_used _ _ _ _ hsw];refine Vl (YO (Vl ?_));show wpAny _ X.A (do let _ <- comprehension (.ListComp elt [⟨tg,iter,ifs,0⟩] scope pos) scope X.env _ (newList []) false (eval iter X.env) (some (assign (.Name y py) X.env))) _ _ s;refine Vl (Wm (ZE (use:=some (assign (.Name y py) X.env)) (Q:=λ_ s'=>SP X ae D .next s') rfl hs B.sI B.kind B.names (dR (hi ae s σ H _ I (w9 h)) λxv s₁ h₁=>dR h₁ λitv s₂ h₂=>?_)) (λ_ s' hq=>VA (VA hq)) λ_ _ e=>e);obtain⟨it,fp,tn,J,H2,e,I2,T,bX,f2,hW⟩:=h₂;subst e;refine w_ (Q:=λv H'=>zO i v σ H' D.nx) (RR:=λacc C=>compPost (model X.prog X.w) X.A X.xe (some (assign (.Name y py) X.env)) (λ_ s'=>SP X ae D .next s') acc C) hc B hg OX he I2 T bX f2 hW ?_;rintro acc C s' ⟨D',H',rfl,hC,I',hn,⟨m,ns⟩,q⟩;show wpAny _ _ (assign (.Name y py) X.env (.ref D')) _ _ s';refine wpAny_assign_Name (qh I' hN hy hx (v:=.ref D') rfl (λkz I''⟨a,sb,ha⟩=>?_) hf);have hCa:C≠a:=by
  rcases ha with e|e
  .rw[e];exact W6 (VO I2.lt hC)
  .obtain⟨v,o,ho,_⟩:=I2.cell y a e;exact W6 (VO (VH ho) hC)
 exact⟨m,ns.sameBut sb hCa,λh' sb'=>⟨_,H',I2.w! hC I'' hn sb',q⟩⟩
end
section
variable{K:Z'}{g:TG}
theorem La{k:Nat}(n:Nat)(hn:n<=sizeLine)(Pv:Nat->List V->St->Hp->Prop)(h0:Pv 0 [] (sH k bE σ) H)(hgo:∀i ys τ H,i<n->Pv i ys τ H->J.go i H)(xT:∀ys τ H,Pv n ys τ H->J.stop n H)(hl:∀i ys τ H,Pv i ys τ H->ys.length<=i)(hs:∀i ys τ H x H',i<n->Pv i ys τ H->J.Rr i H x H'->∀K1:List V->St->Hp->Prop,(∀ys τ H,Pv (i+1) ys τ H->K1 ys τ H)->g x τ H' λτ2 H2=>tt τ2 H2 λb H3=>if b=true then te τ2 H3 λy H4=>K1 (ys++[y]) τ2 H4 else K1 ys τ2 H3)(hd:∀ys τ H p,Pv n ys τ H->H p=none->Q (.ref p) (upd H p (.lst ys))):w6 J k bE g tt te σ H Q:=by
 refine⟨λi m ys τ H=>m=n-i/\i<=n/\Pv i ys τ H,⟨n,by simp,We _,h0⟩,?_⟩;rintro i m ys τ H ⟨rfl,hi,p⟩;have hy:=hl i ys τ H p;by_cases sJ:i<n
 .refine .inr ⟨hgo i ys τ H sJ p,by lia,λx H' y=>?_⟩;exact hs i ys τ H x H' sJ p y (λys τ H=>∃m',m'<n-i/\m'=n-(i+1)/\i+1<=n/\Pv (i+1) ys τ H) λys τ H q=>⟨n-(i+1),by lia,rfl,sJ,q⟩
 .have e:i=n:=by lia
  subst e;exact .inl ⟨xT ys τ H p,by lia,λq hq=>hd ys τ H q p hq⟩
end
def eg(b:Bool)(h:Heap)(i l:_i)(k:Nat):Prop:=match b with|true=>h.IsListIter i l k|false=>h.IsTupleIter i l k
def jS(b:Bool)(h:Heap)(l:_i)(xs:Array _g):Prop:=match b with|true=>h.IsList l xs|false=>h.IsTuple l xs
theorem eg.keep{b:Bool}{i l:_i}{k:Nat}(x:eg b h i l k)(e:∀o,h.get? i=some o->h'.get? i=some o):eg b h' i l k:=by
 cases b with
 |true=>exact Heap.IsListIter.at x e
 |false=>exact Heap.IsTupleIter.at x e
theorem jS.keep{b:Bool}{l:_i}(x:jS b h l xs)(e:∀o,h.get? l=some o->h'.get? l=some o):jS b h' l xs:=by
 cases b with
 |true=>exact Heap.IsList.at x e
 |false=>obtain⟨o,ho,r⟩:=(show h.IsTuple l xs from x);exact⟨o,e _ ho,r⟩
theorem eg.there{b:Bool}{i l:_i}{k:Nat}(x:eg b h i l k):∃o n vs,h.get? i=some o/\o.cls=.type n/\o.data=.fields vs:=by
 cases b with
 |true=>obtain⟨o,h1,h2,h3⟩:=(show h.IsListIter i l k from x);exact⟨o,_,_,h1,h2,h3⟩
 |false=>obtain⟨o,h1,h2,h3⟩:=(show h.IsTupleIter i l k from x);exact⟨o,_,_,h1,h2,h3⟩
section
variable{E:Z_}
theorem uz{it t:_i}{x:_g}{Q:Z_}(hit:s.heap.IsTupleIter it t i)(ht:s.heap.IsTuple t items)(hx:items[i]?=some x)(hQ:∀h',h'.IsTupleIter it t (i+1)->Heap.SameBut it s.heap h'->Q x {s with heap:=h'}):wpAny (model prog w) A (Builtin.SmallTypes.nextOf (.ref it)) Q E s:=by obtain⟨oi,Nc,ci,di⟩:=id hit;obtain⟨ot,hot,_,nt,dt⟩:=ht;unfold Builtin.SmallTypes.nextOf;refine Vl (WM (name:=Str.ofString "__next__") hit.typeIs Xw (WW Xw hit.typeIs Zx ?_ (Zv _)));show wpAny _ _ (field (.ref it) 0 >>= _) _ _ s;refine Vl (Wq Nc di (x:=.ref t) rfl ?_);show wpAny _ _ (if(Value.ref t==Value.none)=true then _ else _) _ _ s;rw[VI (show ¬ ((Value.ref t==Value.none)=true)from VQ)];show wpAny _ _ (field (.ref it) 1 >>= _) _ _ s;refine Vl (Wq Nc di (x:=.int i 0) rfl ?_);show wpAny _ _ (seqItems? (.ref t) >>= _) _ _ s;refine Vl (Xd hot dt ?_);simp only[WR,hx];refine Vl (Xu Nc di (by simp) (VA ⟨x,rfl,VA (hQ _ ?_ (Xc ..))⟩));exact⟨_,W_ _ Nc (Xn (WK di _)),(Obj.cls_mapFields ..).trans ci,by rw[WK di];simp[rawInt]⟩
theorem wj{it t:_i}{Q:Z_}(hh:A.handled=none)(hit:s.heap.IsTupleIter it t i)(ht:s.heap.IsTuple t items)(hx:items[i]?=none)(hE:∀h' e,Heap.ExtBut it s.heap h'->(∃o,h'.get? e=some o/\o.cls=.type "StopIteration")->E (.ref e) {s with heap:=h'}):wpAny (model prog w) A (Builtin.SmallTypes.nextOf (.ref it)) Q E s:=by
 obtain⟨oi,Nc,ci,di⟩:=id hit;obtain⟨ot,hot,_,nt,dt⟩:=ht;unfold Builtin.SmallTypes.nextOf;refine Vl (WM (name:=Str.ofString "__next__") hit.typeIs Xw (WW Xw hit.typeIs Zx ?_ (Zv _)));show wpAny _ _ (field (.ref it) 0 >>= _) _ _ s;refine Vl (Wq Nc di (x:=.ref t) rfl ?_);show wpAny _ _ (if(Value.ref t==Value.none)=true then _ else _) _ _ s;rw[VI (show ¬ ((Value.ref t==Value.none)=true)from VQ)];show wpAny _ _ (field (.ref it) 1 >>= _) _ _ s;refine Vl (Wq Nc di (x:=.int i 0) rfl ?_);show wpAny _ _ (seqItems? (.ref t) >>= _) _ _ s;refine Vl (Xd hot dt ?_);simp only[WR,hx];refine Vl (Yq (Vl (Xu Nc di (by simp) ?_)));show wpAny _ _ (newExc (.type "StopIteration") [] >>= _) _ _ _;refine Vl ?_;simp only[newExc,newTuple];refine Vl (Wv ?_ (by size_fits));refine Vl (m:=firstArgMember _ _) (wpAny_of_eq (a:=Value.none) (by first|rfl|(simp only[firstArgMember];rfl)) ?_);refine Wv ?_ (by size_fits);simp only[raiseNew];refine Vl (wpAny_handled ?_)
 first|rw[show A.in1.handled=none from hh]|rw[hh]
 refine Vl (VA (wpAny_throw ?_));exact hE _ _ (((Xc ..).extBut.push _).push _) ⟨_,VS _ rfl,rfl⟩
theorem kD{b:Bool}{it t:_i}{x:_g}{Q:Z_}(hit:eg b s.heap it t i)(ht:jS b s.heap t items)(hx:items[i]?=some x)(hQ:∀h',eg b h' it t (i+1)->Heap.SameBut it s.heap h'->Q x {s with heap:=h'}):wpAny (model prog w) A (Builtin.SmallTypes.nextOf (.ref it)) Q E s:=by
 cases b with
 |true=>exact wpAny_nextOf_list_item hit ht hx hQ
 |false=>exact uz hit ht hx hQ
theorem r_{b:Bool}{it t:_i}{Q:Z_}(hh:A.handled=none)(hit:eg b s.heap it t i)(ht:jS b s.heap t items)(hx:items[i]?=none)(hE:∀h' e,Heap.ExtBut it s.heap h'->(∃o,h'.get? e=some o/\o.cls=.type "StopIteration")->E (.ref e) {s with heap:=h'}):wpAny (model prog w) A (Builtin.SmallTypes.nextOf (.ref it)) Q E s:=by
 cases b with
 |true=>exact wpAny_nextOf_list_end hh hit ht hx hE
 |false=>exact wj hh hit ht hx hE
end
abbrev uA(b:Bool)(l:_i):Obj:={cls:=.type (match b with|true => "list_iterator"|false => "tuple_iterator"),data:=.fields #[.ref l,.int 0 0]}
section
variable{E:Z_}
theorem eg.new(b:Bool){i l:_i}(e:h.get? i=some (uA b l)):eg b h i l 0:=by
 cases b with
 |true=>exact⟨_,e,rfl,rfl⟩
 |false=>exact⟨_,e,rfl,rfl⟩
theorem uB{b:Bool}{l:_i}{Q:Z_}(h:jS b s.heap l xs)(hQ:Q (.ref s.heap.objs.size) {s with heap:=s.heap.push (uA b l)}):wpAny (model prog w) A (pyIter (.ref l)) Q E s:=by
 cases b with
 |true=>exact Y2 h hQ
 |false=>exact wpAny_pyIter_tuple h hQ
theorem Lb{TI TO l1:_i}{x y a b:_g}{Q:Z_}(D:ZipApart z TI TO i1 i2 l1 l2)(hz:IsZip s.heap z TI TO .none)(yk:IsPair s.heap TI (.ref i1) (.ref i2))(zD:IsPair s.heap TO a b)(h1:eg b1 s.heap i1 l1 k1)(h2:eg b2 s.heap i2 l2 k2)(sL:jS b1 s.heap l1 xs)(tP:jS b2 s.heap l2 ys)(hx:xs[k1]?=some x)(hy:ys[k2]?=some y)
  (hQ:∀ h',IsZip h' z TI TO (rawInt s.heap.objs.size)->IsPair h' TO x y->eg b1 h' i1 l1 (k1+1)->eg b2 h' i2 l2 (k2+1)->IsPair h' s.heap.objs.size x y ->
   (∀c o,c≠z->c≠TO->c≠i1->c≠i2->s.heap.get? c=some o->h'.get? c=some o)->Q (.ref s.heap.objs.size) {s with heap:=h'}):
  wpAny (model prog w) A (Builtin.«zip.__next__» ⟨[.ref z],[]⟩) (λfin s'=>∃v,fin=.done (.ret v)/\Q v s') E s:=by
 show wpAny _ _ (field (.ref z) 2 >>= _) _ _ _;refine Vl (Wq hz rfl (x:=.bool false) rfl ?_);show wpAny _ _ (field (.ref z) 3 >>= _) _ _ _;refine Vl (Wq hz rfl (x:=.ref TI) rfl (Vl (Xd yk rfl ?_)));show wpAny _ _ (Builtin.SmallTypes.ownedTupleIsFree (.ref z) >>= _) _ _ _;refine Vl ?_;unfold Builtin.SmallTypes.ownedTupleIsFree;refine Vl (Wq hz rfl (x:=.none) rfl (VA ?_));simp only[YR];refine Vl (Yq (Vl (Wq hz rfl (x:=.ref TO) rfl (Vl (Xh hz (by simp) λg₁ r! s₁=>?_)))));replace r!:IsZip g₁ z TI TO .ellipsis:=r!;refine Vl ?_;simp only[List.zipIdx_cons,List.zipIdx_nil,List.forIn_cons,List.forIn_nil];refine Vl (Vl (Yi ?_));show wpAny _ _ (Builtin.SmallTypes.nextOf (.ref i1) >>= _) _ _ _;refine Vl (kD (b:=b1) (h1.keep λo e=>s₁.extBut _ o D.i1z e) (sL.keep λo e=>s₁.extBut _ o D.l1z e) hx λg₂ q₁ s₂=>VA ?_);have t₂:IsPair g₂ TO a b:=s₂.extBut _ _ D.TOi1 (s₁.extBut _ _ D.TOz zD);refine Vl (Xd t₂ rfl (Vl (YD t₂ λg₃ t₃ s₃=>?_)));replace t₃:IsPair g₃ TO x b:=t₃;refine Vl (Ze (VA (Vl (Vl (Yi ?_)))));show wpAny _ _ (Builtin.SmallTypes.nextOf (.ref i2) >>= _) _ _ _;refine Vl (kD (b:=b2) (h2.keep λo e=>s₃.extBut _ o D.TOi2.symm (s₂.extBut _ o D.i12.symm (s₁.extBut _ o D.i2z e))) (tP.keep λo e=>s₃.extBut _ o D.l2TO (s₂.extBut _ o D.l2i1 (s₁.extBut _ o D.l2z e))) hy λg₄ q₂ s₄=>VA ?_);have t₄:IsPair g₄ TO x b:=s₄.extBut _ _ D.TOi2 t₃;refine Vl (Xd t₄ rfl (Vl (YD t₄ λg₅ t₅ s₅=>?_)));replace t₅:IsPair g₅ TO x y:=t₅;refine Vl (Ze (VA (VA (Vl (Xd t₅ rfl (Vl (wpAny_newTuple ?_)))))));have sz:g₅.objs.size=s.heap.objs.size:=by rw[s₅.1,s₄.1,s₃.1,s₂.1,s₁.1]
 have z₅:IsZip g₅ z TI TO .ellipsis:=s₅.extBut _ _ D.TOz.symm (s₄.extBut _ _ D.i2z.symm (s₃.extBut _ _ D.TOz.symm (s₂.extBut _ _ D.i1z.symm r!)));have kp:∀c o,c≠z->c≠TO->c≠i1->c≠i2->s.heap.get? c=some o->g₅.get? c=some o:=λc o n1 n2 n3 n4 e=>s₅.extBut _ _ n2 (s₄.extBut _ _ n4 (s₃.extBut _ _ n2 (s₂.extBut _ _ n3 (s₁.extBut _ _ n1 e))));have p₁:eg b1 g₅ i1 l1 (k1+1):=q₁.keep λo e=>s₅.extBut _ o D.TOi1.symm (s₄.extBut _ o D.i12 (s₃.extBut _ o D.TOi1.symm e));have p₂:eg b2 g₅ i2 l2 (k2+1):=q₂.keep λo e=>s₅.extBut _ o D.TOi2.symm e;have zlt:z<g₅.objs.size:=VH z₅;show wpAny _ _ (Builtin.SmallTypes.ownedTupleHandOut (.ref z) (.ref g₅.objs.size) >>= _) _ _ _;refine Vl ?_;unfold Builtin.SmallTypes.ownedTupleHandOut;have z₆:IsZip (g₅.push {cls:=.type "tuple",data:=.seq #[x,y]}) z TI TO .ellipsis:=Vo _ z₅;refine Vl (Xh z₆ (by simp) λg₇ z₇ s₇=>?_);replace z₇:IsZip g₇ z TI TO (rawInt g₅.objs.size):=z₇;refine Xh z₇ (by simp) λg₈ z₈ s₈=>?_;replace z₈:IsZip g₈ z TI TO (rawInt g₅.objs.size):=z₈;have up:∀c o,c≠z->g₅.get? c=some o->g₈.get? c=some o:=λc o n e=>s₈.extBut _ _ n (s₇.extBut _ _ n (Vo _ e));have t₈:IsPair g₈ g₅.objs.size x y:=s₈.extBut _ _ (W6 zlt) (s₇.extBut _ _ (W6 zlt) (VS _ rfl));rw[sz]at z₈ t₈;refine VA ⟨_,rfl,?_⟩;show Q (.ref g₅.objs.size) _;rw[sz];exact hQ g₈ z₈ (up _ _ D.TOz t₅) (p₁.keep λo e=>up _ o D.i1z e) (p₂.keep λo e=>up _ o D.i2z e) t₈ λc o n1 n2 n3 n4 e=>up c o n1 (kp c o n1 n2 n3 n4 e)
theorem OY{TI TO l1:_i}{a b:_g}{Q:Fin->_h->Prop}(hh:A.handled=none)(D:ZipApart z TI TO i1 i2 l1 l2)(hz:IsZip s.heap z TI TO .none)(yk:IsPair s.heap TI (.ref i1) (.ref i2))(zD:IsPair s.heap TO a b)(h1:eg b1 s.heap i1 l1 k1)(h2:eg b2 s.heap i2 l2 k2)(sL:jS b1 s.heap l1 xs)(tP:jS b2 s.heap l2 ys)(he:xs[k1]?=none\/ys[k2]?=none)(hE:∀h' e,(∀c o,c≠z->c≠TO->c≠i1->c≠i2->s.heap.get? c=some o->h'.get? c=some o)->(∃o,h'.get? e=some o/\o.cls=.type "StopIteration")->E (.ref e) {s with heap:=h'}):
  wpAny (model prog w) A (Builtin.«zip.__next__» ⟨[.ref z],[]⟩) Q E s:=by
 show wpAny _ _ (field (.ref z) 2 >>= _) _ _ _;refine Vl (Wq hz rfl (x:=.bool false) rfl ?_);show wpAny _ _ (field (.ref z) 3 >>= _) _ _ _;refine Vl (Wq hz rfl (x:=.ref TI) rfl (Vl (Xd yk rfl ?_)));show wpAny _ _ (Builtin.SmallTypes.ownedTupleIsFree (.ref z) >>= _) _ _ _;refine Vl ?_;unfold Builtin.SmallTypes.ownedTupleIsFree;refine Vl (Wq hz rfl (x:=.none) rfl (VA ?_));simp only[YR];refine Vl (Yq (Vl (Wq hz rfl (x:=.ref TO) rfl (Vl (Xh hz (by simp) λg₁ r! s₁=>?_)))));replace r!:IsZip g₁ z TI TO .ellipsis:=r!;refine Vl ?_;simp only[List.zipIdx_cons,List.zipIdx_nil,List.forIn_cons,List.forIn_nil];refine Vl (Vl (Yi ?_));show wpAny _ _ (Builtin.SmallTypes.nextOf (.ref i1) >>= _) _ _ _;cases hx:xs[k1]? with
 |none=>
  refine Vl (r_ (b:=b1) hh (h1.keep λo e=>s₁.extBut _ o D.i1z e) (sL.keep λo e=>s₁.extBut _ o D.l1z e) hx λg₂ e s₂⟨oe,Lc,ce⟩=>?_);have z₂:IsZip g₂ z TI TO .ellipsis:=s₂ _ _ D.i1z.symm r!;have nez:e≠z:=λq=>by subst q;rw[z₂]at Lc;cases Lc;simp at ce
  exact Xh z₂ (by simp) λg₃ _ s₃=>hE g₃ e (λc o n1 _ n3 _ q=>s₃.extBut _ _ n1 (s₂ _ _ n3 (s₁.extBut _ _ n1 q))) ⟨oe,s₃.extBut _ _ nez Lc,ce⟩
 |some x=>
  have hy:ys[k2]?=none:=by
   rcases he with q|q
   .rw[hx]at q;cases q
   .exact q
  refine Vl (kD (b:=b1) (h1.keep λo e=>s₁.extBut _ o D.i1z e) (sL.keep λo e=>s₁.extBut _ o D.l1z e) hx λg₂ q₁ s₂=>VA ?_);have t₂:IsPair g₂ TO a b:=s₂.extBut _ _ D.TOi1 (s₁.extBut _ _ D.TOz zD);refine Vl (Xd t₂ rfl (Vl (YD t₂ λg₃ t₃ s₃=>?_)));refine Vl (Ze (VA (Vl (Vl (Yi ?_)))));show wpAny _ _ (Builtin.SmallTypes.nextOf (.ref i2) >>= _) _ _ _;refine Vl (r_ (b:=b2) hh (h2.keep λo e=>s₃.extBut _ o D.TOi2.symm (s₂.extBut _ o D.i12.symm (s₁.extBut _ o D.i2z e))) (tP.keep λo e=>s₃.extBut _ o D.l2TO (s₂.extBut _ o D.l2i1 (s₁.extBut _ o D.l2z e))) hy λg₄ e s₄⟨oe,Lc,ce⟩=>?_);have z₄:IsZip g₄ z TI TO .ellipsis:=s₄ _ _ D.i2z.symm (s₃.extBut _ _ D.TOz.symm (s₂.extBut _ _ D.i1z.symm r!));have nez:e≠z:=λq=>by subst q;rw[z₄]at Lc;cases Lc;simp at ce
  exact Xh z₄ (by simp) λg₅ _ s₅=>hE g₅ e (λc o n1 n2 n3 n4 q=>s₅.extBut _ _ n1 (s₄ _ _ n4 (s₃.extBut _ _ n2 (s₂.extBut _ _ n3 (s₁.extBut _ _ n1 q))))) ⟨oe,s₅.extBut _ _ nez Lc,ce⟩
theorem EZ{TI TO l1:_i}{x y a b:_g}{Q:_c->_h->Prop}(D:ZipApart z TI TO i1 i2 l1 l2)(hz:IsZip s.heap z TI TO .none)(yk:IsPair s.heap TI (.ref i1) (.ref i2))(zD:IsPair s.heap TO a b)(h1:eg b1 s.heap i1 l1 k1)(h2:eg b2 s.heap i2 l2 k2)(sL:jS b1 s.heap l1 xs)(tP:jS b2 s.heap l2 ys)(hx:xs[k1]?=some x)(hy:ys[k2]?=some y)
  (hQ:∀ h',IsZip h' z TI TO (rawInt s.heap.objs.size)->IsPair h' TO x y->eg b1 h' i1 l1 (k1+1)->eg b2 h' i2 l2 (k2+1)->IsPair h' s.heap.objs.size x y ->
   (∀c o,c≠z->c≠TO->c≠i1->c≠i2->s.heap.get? c=some o->h'.get? c=some o)->Q (some (.ref s.heap.objs.size)) {s with heap:=h'}):wpAny (model prog w) A (pyNext (.ref z)) Q E s:=by
 have tz:s.TypeIs (.ref z) "zip":=⟨_,hz,rfl⟩
 unfold pyNext;exact Vl (XE (WM (name:=Str.ofString "__next__") tz Yz
  (WW Yz tz F.entry_zip_next (Lb (b1:=b1) (b2:=b2) D hz yk zD h1 h2 sL tP hx hy λh' a1 a2 a3 a4 a5 a6=>VA (hQ h' a1 a2 a3 a4 a5 a6)) (F.args_zip_next_1 _))))
theorem Hc{TI TO l1:_i}{a b:_g}{Q:_c->_h->Prop}(hh:A.handled=none)(D:ZipApart z TI TO i1 i2 l1 l2)(hz:IsZip s.heap z TI TO .none)(yk:IsPair s.heap TI (.ref i1) (.ref i2))(zD:IsPair s.heap TO a b)(h1:eg b1 s.heap i1 l1 k1)(h2:eg b2 s.heap i2 l2 k2)(sL:jS b1 s.heap l1 xs)(tP:jS b2 s.heap l2 ys)(he:xs[k1]?=none\/ys[k2]?=none)(hQ:∀h',(∀c o,c≠z->c≠TO->c≠i1->c≠i2->s.heap.get? c=some o->h'.get? c=some o)->Q none {s with heap:=h'}):wpAny (model prog w) A (pyNext (.ref z)) Q E s:=by
 have tz:s.TypeIs (.ref z) "zip":=⟨_,hz,rfl⟩
 unfold pyNext;refine Vl (XE (WM (name:=Str.ofString "__next__") tz Yz
  (WW Yz tz F.entry_zip_next (OY (b1:=b1) (b2:=b2) hh D hz yk zD h1 h2 sL tP he λh' e hk he=>?_) (F.args_zip_next_1 _))))
 obtain⟨o,ho,hc⟩:=he;exact Vl (Y? (T:="StopIteration") (b:=true) ⟨o,ho,hc⟩ isSubtype_stop (VA (hQ _ hk)))
abbrev zH1(b1:Bool)(h:Heap)(l1:_i):Heap:=h.push (uA b1 l1)
abbrev zH2(b1 b2:Bool)(h:Heap)(l1 l2:_i):Heap:=(zH1 b1 h l1).push (uA b2 l2)
abbrev zH3(b1 b2:Bool)(h:Heap)(l1 l2:_i):Heap:=(zH2 b1 b2 h l1 l2).push {cls:=.type "tuple",data:=.seq #[.ref h.objs.size,.ref (zH1 b1 h l1).objs.size]}
abbrev zH4(b1 b2:Bool)(h:Heap)(l1 l2:_i):Heap:=(zH3 b1 b2 h l1 l2).push {cls:=.type "tuple",data:=.seq #[.none,.none]}
abbrev Rx(b1 b2:Bool)(h:Heap)(l1 l2:_i):Heap:=(zH4 b1 b2 h l1 l2).push {cls:=.type "zip",data:=.fields #[.none,.bool false,.bool false,.ref (zH2 b1 b2 h l1 l2).objs.size,.ref (zH3 b1 b2 h l1 l2).objs.size]}
theorem Hd(b1 b2:Bool)(l1 l2:_i)(xs ys:Array _g):
  Meets (Builtin.«zip.__new__» ⟨[.type "zip",.ref l1,.ref l2],[]⟩) (λ_ R s=>jS b1 s.heap l1 xs/\jS b2 s.heap l2 ys/\R (.ok (.ret (.ref (zH4 b1 b2 s.heap l1 l2).objs.size))) {s with heap:=Rx b1 b2 s.heap l1 l2}):=
 .of_wp λprog w A R s h=>by
  obtain⟨hp,g,d,tk,os⟩:=s;obtain⟨q1,q2,h⟩:=h;have Tb:=sub_zip;have w1:jS b1 (Shared.heap ⟨hp,g,d,tk,os⟩) l1 xs:=q1;have w2:jS b2 (Shared.heap ⟨hp.push (uA b1 l1),g,d,tk,os⟩) l2 ys:=q2.keep λo e=>Vo _ e
  wp_walk using uB w1,uB w2
  exact⟨_,rfl,h⟩
theorem He{l1:_i}{Q:Z_}(sL:jS b1 s.heap l1 xs)(tP:jS b2 s.heap l2 ys)
  (h:∀ h',IsZip h' (s.heap.objs.size+4) (s.heap.objs.size+2) (s.heap.objs.size+3) .none->IsPair h' (s.heap.objs.size+2) (.ref s.heap.objs.size) (.ref (s.heap.objs.size+1))->IsPair h' (s.heap.objs.size+3) .none .none ->
   eg b1 h' s.heap.objs.size l1 0->eg b2 h' (s.heap.objs.size+1) l2 0->(∀c o,s.heap.get? c=some o->h'.get? c=some o)->Q (.ref (s.heap.objs.size+4)) {s with heap:=h'}):
  wpAny (model prog w) A (call (.type "zip") [.ref l1,.ref l2]) Q E s:=by
 refine callType_new F.called_zip (by decide) (F.typeCall_zip_2 _ _) (F.newCall_zip_2 _ _) (λobj=>F.args_object_init_3 obj _ _) F.entry_zip_new (Hd b1 b2 l1 l2 xs ys) ⟨sL,tP,?_⟩;have z1:(zH1 b1 s.heap l1).objs.size=s.heap.objs.size+1:=Ya ..;have z2:(zH2 b1 b2 s.heap l1 l2).objs.size=s.heap.objs.size+2:=by rw[Ya,z1]
 have z3:(zH3 b1 b2 s.heap l1 l2).objs.size=s.heap.objs.size+3:=by rw[Ya,z2]
 have z4:(zH4 b1 b2 s.heap l1 l2).objs.size=s.heap.objs.size+4:=by rw[Ya,z3]
 have g5:(Rx b1 b2 s.heap l1 l2).get? (zH4 b1 b2 s.heap l1 l2).objs.size=some _:=VS _ rfl;have g4:(Rx b1 b2 s.heap l1 l2).get? (zH3 b1 b2 s.heap l1 l2).objs.size=some _:=Vo _ (VS _ rfl);have g3:(Rx b1 b2 s.heap l1 l2).get? (zH2 b1 b2 s.heap l1 l2).objs.size=some _:=Vo _ (Vo _ (VS _ rfl));have g2:(Rx b1 b2 s.heap l1 l2).get? (zH1 b1 s.heap l1).objs.size=some (uA b2 l2):=Vo _ (Vo _ (Vo _ (VS _ rfl)));have g1:(Rx b1 b2 s.heap l1 l2).get? s.heap.objs.size=some (uA b1 l1):=Vo _ (Vo _ (Vo _ (Vo _ (VS _ rfl))));show _/\_;rw[z2,z3,z4]at g5;rw[z1,z2]at g3;rw[z3]at g4;rw[z1]at g2;rw[z4];exact⟨⟨_,g5,rfl⟩,h _ g5 g3 g4 (.new b1 g1) (.new b2 g2) λc o x=>Vo _ (Vo _ (Vo _ (Vo _ (Vo _ x))))⟩
end
def BJ(b:Bool)(K:Z')(H:Hp)(a:_i)(xs:List V):Prop:=match b with|true=>nN K H a xs|false=>oC K H a xs
theorem aX.Ry{b:Bool}{a:_i}{xs:List V}(I:aX X ae σ H s)(h:BJ b X.K H a xs):∃aP:_b,bo xs aP/\jS b s.heap a aP.toArray/\xs.length<=sizeLine:=by
 cases b with
 |true=>obtain⟨aP,r,p,z⟩:=I.list h;exact⟨aP,r,p.isList,z⟩
 |false=>obtain⟨aP,r,p,z⟩:=I.tuple h;exact⟨aP,r,p,z⟩
theorem aX.Di{b:Bool}{a:_i}{xs ys:List V}(I:aX X ae σ H s)(h:BJ b X.K H a xs)(h':BJ b X.K H a ys):xs=ys:=by
 cases b with
 |true=>exact I.pA h h'
 |false=>exact I.qj h h'
theorem aX.Nd{b:Bool}{l c:_i}{zs:List V}(I:aX X ae σ H s)(hs:BJ b X.K H l zs)(f:kx X ae H c):l≠c:=by
 intro q;have mo:∀o,X.K.lookup l=some o->False:=λo hk=>by
  have e:=I.mod.MZ l o hk;rcases f.2.2.2.1 with z|z
  .exact I.ok.zM l o e (by rw[q];exact z)
  .exact absurd (VO (VH (I.ok.bs l o e).1) (by rw[q];exact z)) (Wf _)
 have tr:∀o,H l=some o->False:=λo e=>by rw[q,f.1]at e;cases e
 cases b with
 |true=>
  rcases(show nN X.K H l zs from hs) with(r|⟨o,r⟩)|⟨o,aP,n,hk,_⟩
  .exact tr _ r
  .exact tr _ r
  .exact mo o hk
 |false=>
  rcases(show oC X.K H l zs from hs) with(r|⟨o,r⟩)|⟨o,aP,n,hk,_⟩
  .exact tr _ r
  .exact tr _ r
  .exact mo o hk
def Itz(K:Z')(b1 b2:Bool)(a b:_i):It:=
 ⟨λi H=>∃xs ys x y,BJ b1 K H a xs/\BJ b2 K H b ys/\xs[i]?=some x/\ys[i]?=some y,
  λi H v H'=>∃p x y,v=.ref p/\H p=none/\H'=upd H p (.tup [x,y])/\(∀xs,BJ b1 K H a xs->xs[i]?=some x)/\∀ys,BJ b2 K H b ys->ys[i]?=some y,
  λi H=>∃xs ys,BJ b1 K H a xs/\BJ b2 K H b ys/\(xs.length<=i\/ys.length<=i)⟩
theorem Hf{K:Z'}{TI TO:_i}(a b:_i)(ne:z≠TI/\z≠TO/\z≠i1/\z≠i2/\TI≠TO/\TI≠i1/\TI≠i2/\TO≠i1/\TO≠i2/\i1≠i2):
  Turn P w K (.Tuple elts kt tp) (Itz K b1 b2 a b) [z,TI,TO,i1,i2] z (λi h=>IsZip h z TI TO .none/\IsPair h TI (.ref i1) (.ref i2)/\(∃u v,IsPair h TO u v)/\eg b1 h i1 a i/\eg b2 h i2 b i) where
 mem:=by simp
 obj:=λi h⟨hz,yk,⟨u,v,zD⟩,h1,h2⟩c hc=>by
  have d7:c=z\/c=TI\/c=TO\/c=i1\/c=i2:=by simpa using hc
  rcases d7 with rfl|rfl|rfl|rfl|rfl
  .exact⟨_,hz,λv q=>by have q':Data.fields _=Data.cell v:=q;cases q'⟩
  .exact⟨_,yk,λv q=>by have q':Data.seq _ _=Data.cell v:=q;cases q'⟩
  .exact⟨_,zD,λv q=>by have q':Data.seq _ _=Data.cell v:=q;cases q'⟩
  .obtain⟨o,n,vs,e,_,d⟩:=h1.there;exact⟨o,e,λv q=>by rw[d]at q;cases q⟩
  .obtain⟨o,n,vs,e,_,d⟩:=h2.there;exact⟨o,e,λv q=>by rw[d]at q;cases q⟩
 keep:=λi h h'⟨hz,yk,⟨u,v,zD⟩,h1,h2⟩k=>⟨k z (by simp) _ hz,k TI (by simp) _ yk,⟨u,v,k TO (by simp) _ zD⟩,h1.keep λo e=>k i1 (by simp) o e,h2.keep λo e=>k i2 (by simp) o e⟩
 item:=by
  intro X hP hw hK hc i ae s σ H E I hf st hg;subst hP hw hK;obtain⟨hz,yk,⟨u,v,zD⟩,h1,h2⟩:=st;obtain⟨xs,ys,x,y,sx,sy,ex,ey⟩:=hg;obtain⟨aP,rv,p,_⟩:=I.Ry sx;obtain⟨eI,Rz,p2,_⟩:=I.Ry sy;obtain⟨ux,eux,rx⟩:=rv.get ex;obtain⟨uy,euy,ry⟩:=Rz.get ey;obtain⟨n1,n2,n3,n4,n5,n6,n7,n8,n9,n10⟩:=ne;have fz:=hf z (by simp);have iC:∀{b:Bool}{l:_i}{zs:List V},BJ b X.K H l zs->∀c∈[z,TI,TO,i1,i2],l≠c:=λ{b l zs}hs c d7=>I.Nd hs (hf c d7);have D:ZipApart z TI TO i1 i2 a b:=⟨n1.symm,n2.symm,n3.symm,n4.symm,n5,n6,n7,n8,n9,n10,iC sx z (by simp),iC sx TO (by simp),iC sx i1 (by simp),iC sx i2 (by simp),iC sy z (by simp),iC sy TO (by simp),iC sy i1 (by simp),iC sy i2 (by simp)⟩
  refine EZ (b1:=b1) (b2:=b2) D hz yk zD h1 h2 p p2 (x:=ux) (y:=uy) (by simpa using eux) (by simpa using euy) λh' a1 a2 a3 a4 a5 a6=>⟨_,rfl,?_⟩
  have hT:H s.heap.objs.size=none:=I.cq.fresh (VD _);have Tc:∀c∈[z,TO,i1,i2],H c=none:=λc d7=>(hf c (by simp at d7⊢;rcases d7 with q|q|q|q<;>simp[q])).1;have kp:∀c o,c ∉ [z,TO,i1,i2]->s.heap.get? c=some o->h'.get? c=some o:=λc o d7 e=>a6 c o (λq=>d7 (by simp[q])) (λq=>d7 (by simp[q])) (λq=>d7 (by simp[q])) (λq=>d7 (by simp[q])) e;have zL:∀c o,H c=some o->c ∉ [z,TO,i1,i2]:=λc o e d7=>by rw[Tc c d7]at e;cases e
  have cq:km X.prog X.w (upd H s.heap.objs.size (.tup [x,y])) h':=λc o e=>by
   by_cases Td:c=s.heap.objs.size
   .subst Td;rw[b8]at e;cases e;exact⟨by show 2<=sizeLine;decide,[ux,uy],.cons rx (.cons ry .nil),_,a5,rfl,_,rfl⟩
   .rw[a7 Td]at e;refine(I.cq c o e).pv (λd v hd q=>kp d v ?_ q) (λd q=>by rw[a7 (bq q hT)];exact q) λd zs q=>by rw[a7 (bq q hT)];exact q
    rcases hd with q'|q'
    .rw[q'];exact zL c o e
    .exact zL d _ q'
  have un:Un (iY X.stack) [z,TO,i1,i2] H (upd H s.heap.objs.size (.tup [x,y])) s.heap h':=
   ⟨λc o e n _ d7=>kp c o d7 e,λc o e n _ d7=>⟨o.slots,kp c o d7 e⟩,λc o e n d7=>by rw[a7 (V0 (VH e))];exact n,λc o e d7=>⟨o,kp c o d7 e⟩,
    λc zs e=>by rw[a7 (bq e hT)];exact e,λc o u e=>by rw[a7 (bq e hT)];exact e,λc ps e=>⟨#[],by rw[a7 (bq e hT),e];simp⟩⟩
  have I1:aX X ae σ (upd H s.heap.objs.size (.tup [x,y])) {s with heap:=h'}:=I.zN rfl un cq I.bare λc d7=>by obtain⟨f0,f1,f2,f3,f4,f5⟩:=hf c (by simp at d7⊢;rcases d7 with q|q|q|q<;>simp[q]);exact⟨f3,f1,f4,f5⟩
  have fpT:∀c∈[z,TI,TO,i1,i2],c≠s.heap.objs.size:=λc d7 q=>by
   have sJ:c<s.heap.objs.size:=by
    have OZ:c=z\/c=TI\/c=TO\/c=i1\/c=i2:=by simpa using d7
    rcases OZ with r|r|r|r|r
    .rw[r];exact VH hz
    .rw[r];exact VH yk
    .rw[r];exact VH zD
    .obtain⟨o,_,_,e,_⟩:=h1.there;rw[r];exact VH e
    .obtain⟨o,_,_,e,_⟩:=h2.there;rw[r];exact VH e
   exact absurd sJ (by rw[q];exact Wf _)
  have Te:∀c∈[z,TI,TO,i1,i2],(upd H s.heap.objs.size (.tup [x,y])) c=none:=λc d7=>by rw[a7 (fpT c d7)];exact(hf c d7).1
  refine wpAny_letOwnedTupleGo_zip a1 λLd aaP sb=>?_;obtain⟨f0,f1,f2,f3,f4,f5⟩:=fz;have I2:aX X ae σ (upd H s.heap.objs.size (.tup [x,y])) {s with heap:=Ld}:=I1.turned (s:={s with heap:=h'}) (t':=s.toks) (it:=z) (λc o d7 e=>(sb.2 c d7).trans e) (Te z (by simp)) f1 f3 f4 f5;refine⟨.ref s.heap.objs.size,_,I2,rfl,⟨_,x,y,rfl,hT,rfl,λzs hs=>by rw[I.Di hs sx];exact ex,λzs hs=>by rw[I.Di hs sy];exact ey⟩,⟨aaP,?_,⟨_,_,sb.extBut _ _ n2.symm a2⟩,a3.keep λo e=>sb.extBut _ o n3.symm e,a4.keep λo e=>sb.extBut _ o n4.symm e⟩,Te⟩;exact sb.extBut _ _ n1.symm (a6 _ _ n1.symm n5 n6 n7 yk)
 done:=by
  intro X hP hw hK hc i ae s σ H E I hf st hg;subst hP hw hK;obtain⟨hz,yk,⟨u,v,zD⟩,h1,h2⟩:=st;obtain⟨xs,ys,sx,sy,hl⟩:=hg;obtain⟨aP,rv,p,_⟩:=I.Ry sx;obtain⟨eI,Rz,p2,_⟩:=I.Ry sy;have l1:=rv.length;have l2:=Rz.length;obtain⟨n1,n2,n3,n4,n5,n6,n7,n8,n9,n10⟩:=ne;have iC:∀{b:Bool}{l:_i}{zs:List V},BJ b X.K H l zs->∀c∈[z,TI,TO,i1,i2],l≠c:=λ{b l zs}hs c d7=>I.Nd hs (hf c d7);have D:ZipApart z TI TO i1 i2 a b:=⟨n1.symm,n2.symm,n3.symm,n4.symm,n5,n6,n7,n8,n9,n10,iC sx z (by simp),iC sx TO (by simp),iC sx i1 (by simp),iC sx i2 (by simp),iC sy z (by simp),iC sy TO (by simp),iC sy i1 (by simp),iC sy i2 (by simp)⟩
  refine Hc (b1:=b1) (b2:=b2) (I.ok.hd hc) D hz yk zD h1 h2 p p2 (by rcases hl with q|q;exact .inl (by simp;lia);exact .inr (by simp;lia)) λh' a6=>⟨rfl,?_⟩
  have Tc:∀c∈[z,TO,i1,i2],H c=none:=λc d7=>(hf c (by simp at d7⊢;rcases d7 with q|q|q|q<;>simp[q])).1;have kp:∀c o,c ∉ [z,TO,i1,i2]->s.heap.get? c=some o->h'.get? c=some o:=λc o d7 e=>a6 c o (λq=>d7 (by simp[q])) (λq=>d7 (by simp[q])) (λq=>d7 (by simp[q])) (λq=>d7 (by simp[q])) e;have zL:∀c o,H c=some o->c ∉ [z,TO,i1,i2]:=λc o e d7=>by rw[Tc c d7]at e;cases e
  have cq:km X.prog X.w H h':=λc o e=>by
   refine(I.cq c o e).pv (λd v hd q=>kp d v ?_ q) (λd q=>q) λd zs q=>q;rcases hd with q'|q'
   .rw[q'];exact zL c o e
   .exact zL d _ q'
  have un:Un (iY X.stack) [z,TO,i1,i2] H H s.heap h':=
   ⟨λc o e n _ d7=>kp c o d7 e,λc o e n _ d7=>⟨o.slots,kp c o d7 e⟩,λc o e n d7=>n,λc o e d7=>⟨o,kp c o d7 e⟩,λc zs e=>e,λc o u e=>e,λc ps e=>⟨#[],by rw[e];simp⟩⟩
  exact I.zN rfl un cq I.bare λc d7=>by obtain⟨f0,f1,f2,f3,f4,f5⟩:=hf c (by simp at d7⊢;rcases d7 with q|q|q|q<;>simp[q]);exact⟨f3,f1,f4,f5⟩
 self:=λ_ _ _ _ _ st h=>wpAny_pyIter_zip st.1 h
section
variable{p:Pos}
def aaQ(K:Z')(b1 b2:Bool)(ta:TA):TI:=λσ H R=>ta σ H λvs H1=>∃a b,vs=[.ref a,.ref b]/\(∃xs,BJ b1 K H1 a xs)/\(∃ys,BJ b2 K H1 b ys)/\R (Itz K b1 b2 a b) H1
theorem O0(b1 b2:Bool){ea eb:Expr}{ta:TA}(hg:Gl X "zip")(hm:X.mg "zip" = none)(ha:PA X [ea,eb] ta)(hs:starEach [ea,eb] X.env=[(false,eval ea X.env),(false,eval eb X.env)]:=by rfl)(jR:starEach [eb] X.env=[(false,eval eb X.env)]:=by rfl):
  PI X (.Tuple elts kt tp) (.Call (.Name "zip" p) [ea,eb] [] pos) (aaQ X.K b1 b2 ta):=by
 intro ae s σ H R I h;refine Call_ (kr I hg hm boot_zip (WH (dR (ha pos ae s σ H _ I h) λus s1⟨vs,H1,I1,r1,q1⟩=>?_) (by rw[hs,jR]) (by rw[jR];rfl)));obtain⟨a,b,e,⟨xs,sx⟩,⟨ys,sy⟩,q⟩:=q1;subst e;obtain⟨u,u2,rfl,ru,O1⟩:=vals2 r1;cases ru;cases O1;obtain⟨aP,rv,p1,_⟩:=I1.Ry sx;obtain⟨eI,Rz,p2,_⟩:=I1.Ry sy;refine He (b1:=b1) (b2:=b2) p1 p2 λh' hz yk zD g1 g2 kp=>wpAny_pyIter_zip hz ?_;have I2:aX X ae σ H1 {s1 with heap:=h'}:=I1.kept (t':=s1.toks) kp;refine⟨_,[s1.heap.objs.size+4,s1.heap.objs.size+2,s1.heap.objs.size+3,s1.heap.objs.size,s1.heap.objs.size+1],_,_,H1,rfl,I2,Hf (b1:=b1) (b2:=b2) a b ?_,⟨hz,yk,⟨_,_,zD⟩,g1,g2⟩,λc hc=>?_,q⟩
 .refine⟨?_,?_,?_,?_,?_,?_,?_,?_,?_,?_⟩<;>(intro z;have z':(_:Nat)=_:=z;lia)
 .have hle:s1.heap.objs.size<=c:=by
   have d7:c=s1.heap.objs.size+4\/c=s1.heap.objs.size+2\/c=s1.heap.objs.size+3\/c=s1.heap.objs.size\/c=s1.heap.objs.size+1:=by simpa using hc
   rcases d7 with r|r|r|r|r<;>(rw[r];first|exact VD _|exact YM _ _)
  exact I1.zP hle (I1.cq.fresh hle)
end
theorem cY.there{a:_i}{o:HO}(x:cY P w H h a o):∃ob,h.get? a=some ob:=by
 cases o with
 |lst xs=>obtain⟨_,_,_,_,e⟩:=x;exact⟨_,e⟩
 |tup xs=>obtain⟨_,_,_,ob,e,_⟩:=x;exact⟨_,e⟩
 |dK a8=>obtain⟨_,_,_,_,o,_,_,e,_⟩:=x;exact⟨_,e⟩
 |dT a8=>obtain⟨_,_,_,_,o,_,_,e,_⟩:=x;exact⟨_,e⟩
 |set S n=>obtain⟨o,_,_,_,e,_⟩:=x;exact⟨_,e⟩
 |ins C dx fs=>obtain⟨_,_,_,e,_⟩:=x;exact⟨_,e⟩
 |own y=>obtain⟨_,e⟩:=x;exact⟨_,e⟩
 |xd fs=>obtain⟨_,⟨_,_,_,e,_⟩,_⟩:=x;exact⟨_,e⟩
 |J5 lo hi=>obtain⟨_,_,_,e⟩:=x;exact⟨_,e⟩
 |j5 ob u=>obtain⟨e,_⟩:=x;exact⟨_,e⟩
 |v? ps=>exact⟨_,(show h.get? a=some _ from x)⟩
 |met f y=>exact⟨_,(show h.get? a=some _ from x)⟩
 |ext φ=>obtain⟨_,e,_⟩:=x;exact e
structure Fly(P:_k)(w:World)(l:List Env)(H H':Hp)(s s':_h)(ea:_i)(cls:_g):Prop where
 os:s'.os=s.os
 bare:AllBare s'.gens
 un:Un (iY l) [] H H' s.heap s'.heap
 cq:km P w H' s'.heap
 fl:∃(B:Heap)(t:_i),Heap.FlyingW B l ea cls (.ref t) s'.heap/\(∀b,H' b≠none->∃o,B.get? b=some o)/\(∀b o,s.heap.get? b=some o->b ∉ iY l->∃o',B.get? b=some o')
 tr:uq s'.heap ea
def nO(P:_k)(w:World):EI:=λouter H s E e s'=>∃ea cls H',e=.ref ea/\Fly P w outer H H' s s' ea cls/\E cls none H'
section
variable{K:Z'}{mg:Z!}{qual:Str}{scope:Scope}{cd:_g}{outer:List Env}
theorem Aa{env:Env}{L:_i}(hf:env.frame=some L)(l:List Env):iY (env::l)=L::iY l:=by unfold iY;rw[Yh,hf]
theorem E3{e:_i}(I:aX (iI (nO P w) P w K mg base N qual scope f cd A outer s₀ H₀ E) ae σ H s)(hx:Heap.MadeExcOf s.heap h' e cls vs)(hE:E cls none H):(iI (nO P w) P w K mg base N qual scope f cd A outer s₀ H₀ E).xe (.ref e) {s with heap:=h'}:=by
 have xT:=I.stack;have C2:=I.xQ;have zC:(A.deeper (envOfC qual scope s₀.heap.objs.size f cd)).frames=some (envOfC qual scope s₀.heap.objs.size f cd::outer):=I.ok.frames;have E4:iY (envOfC qual scope s₀.heap.objs.size f cd::outer)=s₀.heap.objs.size::iY outer:=Aa rfl outer;have Nf:∀env∈(envOfC qual scope s₀.heap.objs.size f cd::outer),∀b,env.frame=some b->b∈iY (envOfC qual scope s₀.heap.objs.size f cd::outer):=λenv he b hb=>Zp.mpr ⟨env,he,hb⟩;have Ng:∀b o,s₀.heap.get? b=some o->b ∉ iY outer->b ∉ iY (envOfC qual scope s₀.heap.objs.size f cd::outer):=λb o q hb hm=>by
  rw[E4]at hm;rcases V5.mp hm with z|z
  .exact absurd (VH q) (by rw[z];exact Wf _)
  .exact hb z
 refine yg (base:=W.hideAll s.heap (iY (envOfC qual scope s₀.heap.objs.size f cd::outer))) (h:=s.heap) zC rfl (λb o q=>ZI _ q) (W.funFrames_hide xT Nf) hx λLd t fl up tr=>?_;have stays:∀b o,s.heap.get? b=some o->b ∉ iY (envOfC qual scope s₀.heap.objs.size f cd::outer)->Ld.get? b=some o:=λb o q hb=>fl.1 b o (X0 _ q hb);have zL:∀b u,H b=some u->b ∉ iY (envOfC qual scope s₀.heap.objs.size f cd::outer):=λb u q hb=>by rw[C2 b hb]at q;cases q
 have slot:∀b o,s₀.heap.get? b=some o->H₀ b=none->b∈iY outer->∃sl,Ld.get? b=some {o with slots:=sl}:=λb o q n hb=>by obtain⟨sl,e1⟩:=I.base.slot b o q n hb (by intro z;cases z);obtain⟨_,o',tN,ET⟩:=xT.mem (show b∈iY (envOfC qual scope s₀.heap.objs.size f cd::outer) by rw[E4];exact VP _ hb);rw[e1]at tN;cases tN;obtain⟨M3,e2⟩:=up b _ (hx.keeps _ _ e1) ET;exact⟨M3,e2⟩
 have nil:∀b:_i,b ∉ (iI (nO P w) P w K mg base N qual scope f cd A outer s₀ H₀ E).ex:=λb z=>by cases z
 refine⟨e,cls,H,rfl,⟨I.os,I.bare,⟨λb o q n hb _=>stays b o (I.base.keep b o q n hb (nil b)) (Ng b o q hb),λb o q n hb _=>slot b o q n hb,λb o q n _=>I.base.free b o q n (nil b),λb o q _=>?_,I.base.mJ,I.base.l!,I.base.oq⟩,λb u q=>?_,⟨W.hideAll s.heap (iY (envOfC qual scope s₀.heap.objs.size f cd::outer)),⟨t,fl,λb hb=>?_,λb o q hb=>?_⟩⟩,tr⟩,hE⟩
 .by_cases hb:b∈iY outer
  .obtain⟨sl,e1⟩:=slot b o q (I.ok.C1 b hb) hb;exact⟨_,e1⟩
  .obtain⟨o',e1⟩:=I.base.there b o q (nil b);exact⟨o',stays b o' e1 (Ng b o q hb)⟩
 .refine(I.cq b u q).pv (λc v hc z=>stays c v z ?_) (λ_ z=>z) λ_ _ z=>z;rcases hc with z'|z'
  .rw[z'];exact zL b u q
  .exact zL c _ z'
 .cases q:H b with
  |none=>exact absurd q hb
  |some u=>
   obtain⟨o,e1⟩:=(I.cq b u q).there;exact⟨o,X0 _ e1 (zL b u q)⟩
 .obtain⟨o',e1⟩:=I.base.there b o q (nil b);exact⟨o',X0 _ e1 (Ng b o q hb)⟩
theorem Hg:Passes (nO P w) (iI (nO P w) P w K mg base N qual scope f cd A outer s₀ H₀ E) E:=by
 rintro ae σ H s e s' I ⟨ea,cls,H',rfl,Z,hE⟩;obtain⟨B,t,fl,ct,cs⟩:=Z.fl;have zC:(A.deeper (envOfC qual scope s₀.heap.objs.size f cd)).frames=some (envOfC qual scope s₀.heap.objs.size f cd::outer):=I.ok.frames;have E4:iY (envOfC qual scope s₀.heap.objs.size f cd::outer)=s₀.heap.objs.size::iY outer:=Aa rfl outer;have Ng:∀b o,s₀.heap.get? b=some o->b ∉ iY outer->b ∉ iY (envOfC qual scope s₀.heap.objs.size f cd::outer):=λb o q hb hm=>by
  rw[E4]at hm;rcases V5.mp hm with z|z
  .exact absurd (VH q) (by rw[z];exact Wf _)
  .exact hb z
 have sub:∀b,b∈iY outer->b∈iY (envOfC qual scope s₀.heap.objs.size f cd::outer):=λb hb=>by rw[E4];exact VP _ hb
 have nil:∀b:_i,b ∉ (iI (nO P w) P w K mg base N qual scope f cd A outer s₀ H₀ E).ex:=λb z=>by cases z
 refine BD zC rfl fl Z.tr λLd fl2 up tr=>?_;have E5:∀b o,s'.heap.get? b=some o->(∃o',B.get? b=some o')->Ld.get? b=some o:=λb o q⟨o',z⟩=>by have q':=fl.1 b o' z;rw[q]at q';cases q';exact fl2.1 b o z
 have slot:∀b o,s₀.heap.get? b=some o->H₀ b=none->b∈iY outer->∃sl,Ld.get? b=some {o with slots:=sl}:=λb o q n hb=>by obtain⟨sl,e1⟩:=I.base.slot b o q n hb (nil b);obtain⟨SF,e2⟩:=Z.un.slot b _ e1 (I.base.free b o q n (nil b)) (sub b hb) (by intro z;cases z);obtain⟨_,o',tN,ET⟩:=fl.2.2.1.mem (sub b hb);rw[e2]at tN;cases tN;obtain⟨M3,e3⟩:=up b _ e2 ET;exact⟨M3,e3⟩
 refine⟨ea,cls,H',rfl,⟨Z.os.trans I.os,Z.bare,⟨λb o q n hb _=>?_,λb o q n hb _=>slot b o q n hb,λb o q n _=>?_,λb o q _=>?_,λb xs q=>Z.un.mJ b xs (I.base.mJ b xs q),λb o u q=>Z.un.l! b o u (I.base.l! b o u q),λb ps q=>?_⟩,λb u q=>?_,⟨B,t,fl2,ct,λb o q hb=>?_⟩,tr⟩,hE⟩
 .have e1:=I.base.keep b o q n hb (nil b);have n1:=I.base.free b o q n (nil b);have nf:=Ng b o q hb;exact E5 b o (Z.un.keep b o e1 n1 nf (by intro z;cases z)) (cs b o e1 nf)
 .obtain⟨o',e1⟩:=I.base.there b o q (nil b);exact Z.un.free b o' e1 (I.base.free b o q n (nil b)) (by intro z;cases z)
 .by_cases hb:b∈iY outer
  .obtain⟨sl,e1⟩:=slot b o q (I.ok.C1 b hb) hb;exact⟨_,e1⟩
  .obtain⟨o',e1⟩:=I.base.there b o q (nil b);obtain⟨o2,e2⟩:=cs b o' e1 (Ng b o q hb);exact⟨o2,fl2.1 b o2 e2⟩
 .obtain⟨m1,e1⟩:=I.base.oq b ps q;obtain⟨m2,e2⟩:=Z.un.oq b _ e1;exact⟨m1++m2,by rw[e2,Array.append_assoc]⟩
 .refine(Z.cq b u q).pv (λc v hc z=>E5 c v z (ct c ?_)) (λ_ z=>z) λ_ _ z=>z;rcases hc with z'|z'
  .rw[z',q];simp
  .rw[z'];simp
 .obtain⟨o',e1⟩:=I.base.there b o q (nil b);exact cs b o' e1 (Ng b o q hb)
theorem Gw.okX{x:Str}{st:Stmt}{fd:FuncData}{ps:_e}{k:Nat}(F:Gw K x qual st f fd)(S:fN N ps (aY st))(len:∀vs H Q E,sp vs H Q E->vs.length=ps.length)
  (zS:∀ (fF:_g) (A:_j) (outer:List Env) (s:_h) (H:Hp) (vs:List V) (Q:VK) (E:XK),fj k (A.deeper (envOfC qual (aY st) s.heap.objs.size f fF))->sp vs H Q E ->
   ∃t,l? (iI (nO P w) P w K mg base N qual (aY st) f fF A outer s H E) (dg st) t/\t {nx:=λ_ H'=>Q .cH H',rt:=Q} (start N vs) H):qm P w K mg base (nO P w) (k+1) f fd ps sp:=by
 obtain⟨oc,od,kV,doc,pm,an,fF,ct,C7,rfl,lk,qi⟩:=F.ex;exact M8 lk qi S len λA outer s H vs Q E hr Rv=>zS fF A outer s H vs Q E hr Rv
end
theorem E6{K:Z'}{mg:Z!}{x:Str}{bmB:_b}(X:K.In h)(hb:mg x=some (.ref C))(q:W.excIn K C bmB newId=true):OwnCls x C bmB newId mg h:=by
 refine⟨hb,?_⟩;unfold W.excIn at q;split at q
 .rename_i dd cd sl ho;split at q
  .rename_i C' bm k0 k1 k2 k3 n k5 hm hs;simp only[Wy,WO,YI]at q;obtain⟨⟨⟨⟨⟨rfl,rfl⟩,Tf⟩,ht⟩,cq⟩,hni⟩:=q;obtain⟨nm,bs,mro,ns,qn,hd,sn,sub,ab,col,del⟩:=cd;dsimp only at hm Tf cq hni;subst hm Tf;have O2:sl = #[k0,k1,k2,k3,some (.builtin n),k5]:=by obtain⟨l⟩:=sl;simp only at hs;rw[hs]
   subst O2;exact⟨bm,ns,nm,qn,bs,hd,sn,sub,ab,col,dd,k0,k1,k2,k3,k5,_,X _ _ ho,.of_isNs (W.isNs_of_in X cq),W.nsMap_none_of_in X cq hni,W.tail_of_in X ht⟩
  .cases q
 .cases q
def O3(E:XK)(C:_i)(t:TA):TS:=λ_ σ H=>t σ H λvs H1=>vs.length<=sizeLine/\E (.ref C) none H1
def Raises(X:Cx)(E:XK):Prop:=∀(ae:Z?)(σ:St)(H:Hp)(s:_h)(h':Heap)(e:_i)(cls:_g)(vs:_b),aX X ae σ H s->Heap.MadeExcOf s.heap h' e cls vs->E cls none H->X.xe (.ref e) {s with heap:=h'}
theorem Hh{x:Str}{B BK:String}{bm:_b}{t:TA}(hX:Raises X E)(hc:X.calm=true)(hm:X.mg x=some (.ref C))(hq:W.excIn X.K C bm newId=true)(FB:ExcBaseFacts B newId BK bm)(hg:Gl X x)(ha:PA X (e₀::rest) t)(he:starEach (e₀::rest) X.env=(false,eval e₀ X.env)::starEach rest X.env:=by rfl)(ko:(backTo cy (starEach rest X.env)).any (·.1)=false:=by rfl)(hd:(x==("__debug__":Str))=false:=by decide):
  PS X (.Raise (some (.Call (.Name x np) (e₀::rest) [] cy)) none pos) (O3 E C t):=by
 intro ae s σ H D I h;obtain⟨tl,NS,nm,q,bs,hdct,sn,sub,ab,col,dd,k0,k1,k2,k3,k5,mN,hC,hN,hni,T⟩:=(E6 I.mod.MZ hm hq).obj;refine wpAny_Raise_call_subT (C:=C) (nm:=nm) (q:=q) (N:=NS) (bs:=bs) (bm:=tl) (hdct:=hdct) (sn:=sn) (sub:=sub) (ab:=ab) (col:=col) (dd:=dd) (k0:=k0) (k1:=k1) (k2:=k2) (k3:=k3) (k5:=k5)
  FB (mN:=mN) (T.hasType FB.hasBase) (I.ok.hd hc) (by rw[he];show(false || (backTo cy (starEach rest X.env)).any (·.1))=false;rw[ko];rfl) hni (nM I hg hm ⟨rfl,?_⟩ hd)
 have hA:=ha cy ae s σ H _ I h;rw[he]at hA⊢;exact Calls.evalArgs_plain (dR hA λus s2⟨vs,H2,I2,r2,z,q2⟩=>⟨rfl,by rw[<-r2.length];exact z,I2.bk _ _ hC,hN.keeps I2.bk,T.keeps I2.bk,λh' e hm2=>hX ae σ H2 s2 h' e _ _ I2 hm2 q2⟩)
structure DefX(X:Cx):Prop where
 fn:∀y,X.fn y=true
 J8:X.stack=X.env::X.outer
 fr:X.env.frame=some X.env.locals
structure Ab(X:Cx)(ae:Z?)(σ:St)(H:Hp)(s:_h)(ea:_i)(cls:_g):Prop where
 inv:aX X ae σ H s
 fl:∃(B:Heap)(t:_i),Heap.FlyingW B X.stack ea cls (.ref t) s.heap/\(∀b,H b≠none->∃o,B.get? b=some o)/\(∀b o,X.s₀.heap.get? b=some o->b ∉ iY X.stack->b ∉ X.ex->∃o',B.get? b=some o')/\(∀p∈X.pn++ae,∃o',B.get? p.1=some o')/\(∀x c,X.env.cells.lookup x=some c->∃o,B.get? c=some o)
 tr:uq s.heap ea
section
variable{s':_h}
theorem aX.Le(I:aX X ae σ H s){b:_i}(h1:b≠X.env.locals)(h2:b ∉ X.fs):b ∉ iY X.stack:=λz=>(V5.mp (I.qg b z)).elim h1 h2
theorem aX.slots{B h':Heap}(I:aX X ae σ H s)(sB:B.StaysIn s.heap)(c1:∀b,H b≠none->∃o,B.get? b=some o)(c2:∀b o,X.s₀.heap.get? b=some o->b ∉ iY X.stack->b ∉ X.ex->∃o',B.get? b=some o')(c3:∀p∈X.pn++ae,∃o',B.get? p.1=some o')(c4:∀x c,X.env.cells.lookup x=some c->∃o,B.get? c=some o)(k1:B.StaysIn h')(k2:s.heap.UpToSlots h'):aX X ae σ H {s with heap:=h'}:=by
 have E5:∀b o,s.heap.get? b=some o->(∃o',B.get? b=some o')->h'.get? b=some o:=λb o q⟨o',z⟩=>by have q':=sB b o' z;rw[q]at q';cases q';exact k1 b o z
 have GH:∀b o,X.s₀.heap.get? b=some o->b≠X.env.locals:=λb o e=>V0 (VO (VH e) I.ok.above);have slot:∀b o,X.s₀.heap.get? b=some o->X.H₀ b=none->b∈X.fs->b ∉ X.ex->∃sl,h'.get? b=some {o with slots:=sl}:=λb o q n hb hx=>by obtain⟨sl,e1⟩:=I.base.slot b o q n hb hx;obtain⟨_,o',tN,ET⟩:=I.kq.mem hb;rw[e1]at tN;cases tN;obtain⟨M3,e2⟩:=k2 b _ e1 ET;exact⟨M3,e2⟩
 refine⟨I.ok,I.os,I.bare,⟨λb o q n hb hx=>?_,slot,I.base.free,λb o q hx=>?_,I.base.mJ,I.base.l!,I.base.oq⟩,?_,λx c e=>?_,I.free,I.iT,λp hp=>?_,λb u q=>?_,I.len⟩
 .exact E5 b o (I.base.keep b o q n hb hx) (c2 b o q (I.Le (GH b o q) hb) hx)
 .by_cases hb:b∈X.fs
  .obtain⟨sl,e1⟩:=slot b o q (I.ok.C1 b hb) hb hx;exact⟨_,e1⟩
  .obtain⟨o',e1⟩:=I.base.there b o q hx;exact⟨o',E5 b o' e1 (c2 b o q (I.Le (GH b o q) hb) hx)⟩
 .obtain⟨m,hn,hl⟩:=I.loc;refine⟨m,k2.ns hn,λi x v e1 e2 e3=>?_⟩;obtain⟨u,r,l⟩:=hl i x v e1 e2 e3;refine⟨u,r,?_⟩;rcases l with l|⟨k,c,e,o,ho,hd⟩
  .exact .inl l
  .exact .inr ⟨k,c,e,o,E5 c o ho (c4 x c e),hd⟩
 .obtain⟨v,o,ho,hd⟩:=I.cell x c e;exact⟨v,o,E5 c o ho (c4 x c e),hd⟩
 .obtain⟨e,n,ne,nf,d⟩:=I.pin p hp;exact⟨E5 p.1 p.2 e (c3 p hp),n,ne,nf,d⟩
 .refine(I.cq b u q).pv (λc v hc z=>E5 c v z (c1 c ?_)) (λ_ z=>z) λ_ _ z=>z;rcases hc with z'|z'
  .rw[z',q];simp
  .rw[z'];simp
theorem Ab.slots(J:Ab X ae σ H s ea cls):∃(B:Heap)(t:_i),Heap.FlyingW B X.stack ea cls (.ref t) s.heap/\H ea=none/\∀h',Heap.FlyingW B X.stack ea cls (.ref t) h'->s.heap.UpToSlots h'->uq h' ea->Ab X ae σ H {s with heap:=h'} ea cls:=by
 obtain⟨B,t,fl,c1,c2,c3,c4⟩:=J.fl;refine⟨B,t,fl,?_,λh' f2 up tr=>⟨J.inv.slots fl.1 c1 c2 c3 c4 f2.1 up,⟨B,t,f2,c1,c2,c3,c4⟩,tr⟩⟩;cases q:H ea with
 |none=>rfl
 |some u=>
  obtain⟨o,e⟩:=c1 ea (by rw[q];simp);rw[fl.2.1]at e;cases e
theorem aX.flew(I:aX X ae σ H s)(GJ:∀y,X.fn y=true)(Z:Fly X.prog X.w X.stack H H' s s' ea cls):Ab X ae σ H' s' ea cls:=by
 obtain⟨B,t,fl,ct,cs⟩:=Z.fl;have cl:∀x c,X.env.cells.lookup x=some c->c ∉ iY X.stack:=λx c e=>I.Le (I.J9 x c e) λhb=>by obtain⟨_,o,ho,_⟩:=I.ok.kq.mem hb;exact absurd (VO (VH ho) (I.ok.M0 x c (GJ x) e)) (Wf _)
 refine⟨I.zN Z.os Z.un Z.cq Z.bare λb z=>absurd z (by simp),⟨B,t,fl,ct,λb o q hb hx=>?_,λp hp=>?_,λx c e=>?_⟩,Z.tr⟩
 .obtain⟨o',e1⟩:=I.base.there b o q hx;exact cs b o' e1 hb
 .obtain⟨e,n,ne,nf,d⟩:=I.pin p hp;exact cs p.1 p.2 e (I.Le ne nf)
 .obtain⟨v,o,ho,_⟩:=I.cell x c e;exact cs c o ho (cl x c e)
end
abbrev EK:=_g->_i->St->Hp->Prop
abbrev EH:=_g->_i->Hp->Prop
abbrev Tg:=St->Hp->VK->EH->Prop
abbrev Nh:=Ends->EK->St->Hp->Prop
def XP(X:Cx)(ae:Z?)(EX:EK)(e:_g)(s':_h):Prop:=∃ea cls σ' H',e=.ref ea/\Ab X ae σ' H' s' ea cls/\EX cls ea σ' H'
abbrev atS(σ:St)(EX:EH):EK:=λcls ea σ' H'=>σ'=σ/\EX cls ea H'
def Ka(X:Cx)(e:Expr)(t:Tg):Prop:=
 ∀(ae:Z?)(s:_h)(σ:St)(H:Hp)(Q:VK)(EX:EH),aX X ae σ H s->t σ H Q EX->wpAny (model X.prog X.w) X.A (eval e X.env) (EP X ae σ Q) (XP X ae (atS σ EX)) s
def Gx(X:Cx)(st:Stmt)(t:Nh):Prop:=
 ∀(ae:Z?)(s:_h)(σ:St)(H:Hp)(D:Ends)(EX:EK),aX X ae σ H s->t D EX σ H->wpAny (model X.prog X.w) X.A (exec st X.env) (SP X ae D) (XP X ae EX) s
def wk(X:Cx)(st:List Stmt)(t:Nh):Prop:=
 ∀(ae:Z?)(s:_h)(σ:St)(H:Hp)(D:Ends)(EX:EK),aX X ae σ H s->t D EX σ H->wpAny (model X.prog X.w) X.A (execs st X.env) (SP X ae D) (XP X ae EX) s
theorem XP.at{EX:EK}{e:_g}{s':_h}(h:XP X ae (atS σ λcls ea H'=>EX cls ea σ H') e s'):XP X ae EX e s':=by obtain⟨ea,cls,σ',H',rfl,J,rfl,q⟩:=h;exact⟨ea,cls,_,H',rfl,J,q⟩
def O4(sp:Sp)(t:TA):Tg:=λσ H Q EX=>t σ H λvs H1=>sp vs H1 Q λcls _ H'=>∀ea,EX cls ea H'
theorem Hi{k:Nat}{fd:FuncData}{ps:_e}{x:Str}{p:Pos}{t:TA}(F:qm X.prog X.w X.K X.mg X.base (nO X.prog X.w) k f fd ps sp)(hr:fj k X.A)(hg:Gl X x)(hm:X.mg x=some (.ref f))(hk:PySem.W.keepIn X.K (.ref f)=true)(hb:Binds X.K fd ps [])(GJ:∀y,X.fn y=true)(ha:∀W,PA (X.pB W) (e::es) t)(sE:(x==("__debug__":Str))=false:=by decide)(he:starEach (e::es) X.env=(false,eval e X.env)::starEach es X.env:=by rfl)(ko:(backTo pos (starEach es X.env)).any (·.1)=false:=by rfl):
  Ka X (.Call (.Name x p) (e::es) [] pos) (O4 sp t):=by
 intro ae s σ H Q EX I h;refine Xi (nM I hg hm ?_ sE);refine YA (h₀:=X.base) I.ok.mod.MZ hk (dR (ha (XP X ae (atS σ EX)) pos ae s σ H _ (I.pB _) h) λus s1⟨vs,H1,I1,r,q⟩=>⟨I1.qk.rY,?_⟩) he ko;have I2:=I1.qk;have hl:(us++[]).length=ps.length:=by rw[V7,<-r.length];exact F.len _ _ _ _ q
 have hb2:=hb s1 us I2.rY hl;rw[V7]at hb2;refine Yr (XU (F.run X.A X.stack s1 H1 ⟨us,[]⟩ us vs Q _ hr I2.KL hb2 r q) λr s' hq=>?_);cases r with
 |error e=>
  obtain⟨ea,cls,H',rfl,Z,hE⟩:=hq;exact⟨ea,cls,σ,H',rfl,I2.flew GJ Z,rfl,hE ea⟩
 |ok fl=>
  cases fl with
  |ret u=>exact I2.after hq
  |next=>exact False.elim hq
  |brk=>exact False.elim hq
  |cont=>exact False.elim hq
theorem Hj{te:Tg}(he:Ka X e te)(hs:swapsWith e none pos.line X.env=pure false:=by rfl):Gx X (.Expr e pos) (λD EX σ H=>te σ H (λ_ H1=>D.nx σ H1) λcls ea H'=>EX cls ea σ H'):=by intro ae s σ H D EX I h;exact wpAny_Expr_any (Wm (he ae s σ H _ _ I h) (λv s1⟨x,H1,I1,r1,q1⟩=>⟨σ,H1,I1,q1⟩) λ_ _ q=>q.at) I.quiet hs
theorem Hk{st:Stmt}{t:Nh}(h1:Gx X st t):wk X [st] t:=by
 intro ae s σ H D EX I h;refine Y' (dR (h1 ae s σ H D EX I h) λf s1 q=>?_);cases f with
 |next=>exact XJ q
 |ret v=>exact q
 |brk=>exact q
 |cont=>exact q
theorem O5{c:Expr}{a b:List Stmt}{tc:TT}{t u:Nh}(hc:∀W,PT (X.pB W) c tc)(ha:wk X a t)(hb:wk X b u):Gx X (.If c a b pos) (λD EX σ H=>tc σ H λk H1=>if k=true then t D EX σ H1 else u D EX σ H1):=by
 intro ae s σ H D EX I h;refine wpAny_If (dR (hc (XP X ae EX) ae s σ H _ (I.pB _) h) λd s1⟨H1,I1,q1⟩=>?_);cases d with
 |true=>exact ha ae s1 σ H1 D EX I1.qk q1
 |false=>exact hb ae s1 σ H1 D EX I1.qk q1
abbrev Lf:=Ends->EK->_g->_i->St->Hp->Prop
def PH(X:Cx)(hs:List ExceptHandler)(th:Lf):Prop:=
 ∀(ae:Z?)(s:_h)(σ:St)(H:Hp)(D:Ends)(EX:EK)(ea:_i)(cls:_g),Ab X ae σ H s ea cls->th D EX cls ea σ H->wpAny (model X.prog X.w) X.A (handleBy (.ref ea) X.env hs) (SP X ae D) (XP X ae EX) s
def O6:Lf:=λ_ _ _ _ _ _=>False
theorem O7:PH X [] O6:=λ_ _ _ _ _ _ _ _ _ h=>h.elim
theorem Lg{body:List Stmt}{tb:Nh}{th:Lf}(dx:DefX X)(hb:wk X body tb)(hh:PH X (h₀::hs) th):Gx X (.Try body (h₀::hs) [] [] pos) (λD EX σ H=>tb D (λcls ea σ' H'=>th D EX cls ea σ' H') σ H):=by
 intro ae s σ H D EX I h;refine wpAny_Try_except (Wm (hb ae s σ H D _ I h) (λf s1 q=>?_) λe s1 q=>?_)
 .cases f with
  |next=>exact XJ q
  |ret v=>exact q
  |brk=>exact q
  |cont=>exact q
 .obtain⟨ea,cls,σ',H',rfl,J,hE⟩:=q;obtain⟨B,t,fl,hn,go⟩:=J.slots;have zC:X.A.frames=some (X.env::X.outer):=by rw[<-dx.J8];exact J.inv.ok.frames
  refine EU zC dx.fr (by rw[<-dx.J8];exact fl) J.tr λh4 held up4 tr4=>?_;refine OP held tr4 λh5 fl5 up5 tr5=>?_;exact hh ae _ σ' H' D EX ea cls (go h5 (by rw[dx.J8];exact fl5) (up4.trans up5) tr5) hE
theorem O8{body:List Stmt}{tb:Nh}{th:Lf}(dx:DefX X)(hb:wk X body tb)(hh:PH X (h₀::hs) th):
  PS X (.Try body (h₀::hs) [] [] pos) (λD σ H=>tb D (λcls ea σ' H'=>th D (λ_ _ _ _=>False) cls ea σ' H') σ H):=by
 intro ae s σ H D I h;exact Wm (Lg dx hb hh ae s σ H D (λ_ _ _ _=>False) I h) (λ_ _ q=>q) λ_ _⟨_,_,_,_,_,_,z⟩=>z.elim
def BL(X:Cx)(ea:_i)(oe:Obj):Cx:={X with A:=X.A.mark (some (.ref ea)),calm:=false,pn:=(ea,oe)::X.pn,xe:=λ_ _=>False}
theorem Ab.BL(J:Ab X ae σ H s ea cls):∃oe,s.heap.get? ea=some oe/\oe.cls=cls/\SV oe/\aX (L2.BL X ea oe) ae σ H s:=by
 obtain⟨B,t,fl,hn,_⟩:=J.slots;obtain⟨oe,vs,he,hc,hd,_⟩:=fl.first;have I:=J.inv;have Ng:∀b∈iY X.stack,ea≠b:=λb hb z=>by obtain⟨_,o,ho,ET⟩:=I.stack.mem hb;rw[<-z,he]at ho;cases ho;exact ET vs hd
 have GH:ea≠X.env.locals:=λz=>by obtain⟨m,⟨o,es,ep,ho,hdd,_⟩,_⟩:=I.loc;rw[<-z,he]at ho;cases ho;rw[hd]at hdd;cases hdd
 have nfs:ea ∉ X.fs:=λhb=>by obtain⟨_,o,ho,ET⟩:=I.kq.mem hb;rw[he]at ho;cases ho;exact ET vs hd
 refine⟨oe,he,hc,J.tr.ctx he,⟨⟨I.ok.mod,I.ok.kind,I.ok.glob,I.ok.blt,I.ok.above,I.ok.inj,I.ok.has,I.ok.M0,λz=>(by cases z),I.ok.frames,I.ok.J8,I.ok.exf,I.ok.bs,I.ok.Gu,I.ok.zM,I.ok.EA,I.ok.kq,I.ok.C1⟩,I.os,I.bare,I.base,I.loc,I.cell,I.free,I.iT,λp hp=>?_,I.cq,I.len⟩⟩;rcases V5.mp (show p∈(ea,oe)::(X.pn++ae)from hp)with z|z
 .rw[z];exact⟨he,hn,GH,nfs,λv q=>by rw[hd]at q;cases q⟩
 .exact I.pin p z
theorem aX.aaR(ok:X.Ok)(I:aX (L2.BL X ea oe) ae σ H s):aX X ae σ H s:=
 ⟨ok,I.os,I.bare,I.base,I.loc,I.cell,I.free,I.iT,λp hp=>I.pin p (VP _ hp),I.cq,I.len⟩
theorem E7{M:Model}{E:Z_}{K:Z'}{b:Bool}{Q:Bool->_h->Prop}(KX:K.In s.heap)(he:s.heap.get? ea=some oe)(h1:W.kitCls K oe.cls (.ref C)=some b)(h2:W.subIn K (.ref C) (.type "BaseException")=some true)(q:Q b s):
  wpAny M A (excMatches (.ref ea) (.ref C)) Q E s:=by
 obtain⟨l1,l2,l3⟩:=Z8 (M:=M) KX h1;have l4:=W.looks_subIn (M:=M) KX h2;obtain⟨hp,g,d,tk,os⟩:=s;have lt:W.Looks M hp (isInstance (.ref C) (.type "tuple")) false:=l1.andThen (.of_pure tc_notTuple);have lx:W.Looks M hp (isExcClass (.ref C)) true:=λA' Q' E' s' k z=>by unfold isExcClass;refine Vl (l2 A' _ E' s' k ?_);rw[VC rfl];exact l4 A' Q' E' s' k z
 have ly:W.Looks M hp (typeOf (.ref ea)) oe.cls:=λA' Q' E' s' k z=>by unfold typeOf;exact Vl (wpAny_loadPart (k _ _ he) (VA z))
 unfold excMatches;refine Vl (lt.here ?_);simp only[WG,XM,pure_bind,List.forIn_cons,List.forIn_nil,bind_assoc];refine Vl (lx.here ?_);simp only[Wi,WG,XM,pure_bind];refine Vl (ly.here ?_);refine Vl (l3.here ?_);cases b with
 |true=>exact VA q
 |false=>exact VA q
theorem r?{E:Z_}{K:Z'}{c:_g}{Q:Z_}(KX:K.In s.heap)(he:s.heap.get? ea=some oe)(e:W.kitOne K oe.cls c=some true)(h:Q (.bool true) s):
  wpAny (model prog w) A (call (.builtin "isinstance") [.ref ea,c]) Q E s:=by
 have ly:W.Looks (model prog w) s.heap (typeOf (.ref ea)) oe.cls:=λA' Q' E' s' k z=>by unfold typeOf;exact Vl (wpAny_loadPart (k _ _ he) (VA z))
 refine PyProof.Rows.call_isinstance_of ?_ (by intro z;cases z);unfold W.kitOne at e;unfold Builtin.«isinstance.nested»;refine Vl (ly.here ?_);by_cases q:(oe.cls==c)=true
 .rw[VC q]
  first
   |exact Vl (Yq h)
   |exact Vl (Yq (VA h))
   |exact VA h
 .rw[VI q]at e;rw[VI q];obtain⟨KZ,his,Tb⟩:=Z8 (M:=model prog w) KX e;have LI:W.Looks (model prog w) s.heap (isInstance (.ref ea) c) true:=ly.andThen Tb;refine Vl (KZ.here ?_);rw[VC (by decide)]
  k_delta "plainIsInstance"
  refine Vl (Vl (his.here ?_));simp only[Wi,WG,XM];refine Vl (LI.here ?_)
  first
   |exact VA (VA h)
   |(simp only[YR];first|exact VA (VA h)|exact VA h|exact Vl (VA (VA h)))
theorem ym:b7 X (.builtin "isinstance") (λxs H Q=>∃ea oe c,(xs=[.ref ea,.ref c]/\W.kitOne X.K oe.cls (.ref c)=some true\/∃n,xs=[.ref ea,.ty n]/\W.kitOne X.K oe.cls (.type n)=some true)/\(ea,oe)∈X.pn/\Q (.bl true) H):=by
 intro ae s σ H xs us Q I r h;obtain⟨ea,oe,c,hx,hp,q⟩:=h;have he:=(I.pin (ea,oe) (WB _ hp)).1;rcases hx with⟨rfl,e⟩|⟨n,rfl,e⟩
 .obtain⟨u,u2,rfl,ru,O1⟩:=vals2 r;cases ru;cases O1;exact r? I.rY he e ⟨.bl true,H,I,rfl,q⟩
 .obtain⟨u,u2,rfl,ru,O1⟩:=vals2 r;cases ru;cases O1;exact r? I.rY he e ⟨.bl true,H,I,rfl,q⟩
theorem aX.Lh{n:Str}{u:_c}{m:Z!}(I:aX X ae σ H s)(hN:X.N.Nodup)(hi:X.N[i]?=some n)(hx:X.env.kindOf n=some .local)(hn:s.heap.Ns X.env.locals m)(hl:∀(j:Nat)(x:Str)(v:V),X.N[j]?=some x->σ[j]?=some (some v)->J7 X.env.scope x->∃u,bJ v u/\Look X.env s.heap m x u)(Km:h'.Ns X.env.locals (λx=>if x=n then u else m x))(sb:Heap.SameBut X.env.locals s.heap h'):aX X ae (σ.set i none) H {s with heap:=h'}:=by
 have iσ:i<σ.length:=by rw[I.len];exact(V!.mp hi).1
 have J?:∀b o,b≠X.env.locals->s.heap.get? b=some o->h'.get? b=some o:=λb o hb e=>(sb.2 b hb).trans e;have GH:∀b o,X.s₀.heap.get? b=some o->b≠X.env.locals:=λb o e=>V0 (VO (VH e) I.ok.above);refine⟨I.ok,I.os,I.bare,⟨λb o q nn hb hx=>J? b o (GH b o q) (I.base.keep b o q nn hb hx),λb o q nn hb hx=>?_,I.base.free,λb o q hx=>?_,I.base.mJ,I.base.l!,I.base.oq⟩,⟨_,Km,λj x v e1 e2 e3=>?_⟩,λx c e=>?_,I.free,I.iT,λp hp=>?_,λb w q=>?_,by rw[Wu];exact I.len⟩
 .obtain⟨sl,e1⟩:=I.base.slot b o q nn hb hx;exact⟨sl,J? b _ (GH b o q) e1⟩
 .obtain⟨o',e1⟩:=I.base.there b o q hx;exact⟨o',J? b o' (GH b o q) e1⟩
 .by_cases hj:j=i
  .subst hj;rw[Wk iσ]at e2;cases e2
  .rw[WT (W? hj)]at e2;obtain⟨u',r,l⟩:=hl j x v e1 e2 e3;have nx:x≠n:=λz=>hj (ui hN e1 (z▸hi));refine⟨u',r,?_⟩;rcases l with⟨k,e⟩|⟨k,c,e,o,ho,hd⟩
   .exact .inl ⟨k,by simp[nx,e]⟩
   .exact .inr ⟨k,c,e,o,J? c o (I.J9 x c e) ho,hd⟩
 .obtain⟨v,o,ho,hd⟩:=I.cell x c e;exact⟨v,o,J? c o (I.J9 x c e) ho,hd⟩
 .obtain⟨e,z,ne,nf,d⟩:=I.pin p hp;exact⟨J? p.1 p.2 ne e,z,ne,nf,d⟩
 .refine(I.cq b w q).pv (λc v hc z=>J? c v ?_ z) (λ_ z=>z) λ_ _ z=>z;intro z';rcases hc with r|r
  .rw[<-r,z',I.free]at q;cases q
  .rw[z',I.free]at r;cases r
def aaS(K:Z')(C:_i)(i:Nat)(ts:_i->Obj->TS)(tr:Lf):Lf:=λD EX cls ea σ H=>∃b,W.kitCls K cls (.ref C)=some b/\if b=true then ∀oe,oe.cls=cls->ts ea oe {nx:=λσ' H'=>D.nx (σ'.set i none) H',rt:=D.rt,bk:=λσ' H'=>D.bk (σ'.set i none) H',ct:=λσ' H'=>D.ct (σ'.set i none) H'} (σ.set i (some (.ref ea))) H else tr D EX cls ea σ H
theorem Th{x n:Str}{rest:List ExceptHandler}{ts:_i->Obj->TS}{tr:Lf}(hN:X.N.Nodup)(hi:X.N[i]?=some n)(hl:X.env.scope.names.lookup n=some .local)(hg:Gl X x)(hm:X.mg x=some (.ref C))(hB:W.subIn X.K (.ref C) (.type "BaseException")=some true)(hs:∀ea oe,l? (L2.BL X ea oe) (b₀::lN) (ts ea oe))(hr:PH X rest tr)(hd:(x==("__debug__":Str))=false:=by decide):PH X (.ExceptHandler (some (.Name x np)) (some n) (b₀::lN) pos::rest) (aaS X.K C i ts tr):=by
 intro ae s σ H D EX ea cls J h;obtain⟨b,hb,h⟩:=h;obtain⟨oe,he,hc,_,I⟩:=J.BL;refine wpAny_handleBy_cons (codeAny_handlers_test (nM I (show Gl (L2.BL X ea oe) x from hg) (show(L2.BL X ea oe).mg x=some (.ref C)from hm) ?_ hd)) (by intro z;cases z);refine E7 I.rY he (by rw[hc];exact hb) hB ?_;cases b with
 |false=>exact hr ae s σ H D EX ea cls J (by simpa using h)
 |true=>
  obtain⟨B,t,fl,hn,go⟩:=J.slots;have h':∀oe,oe.cls=cls->ts ea oe {nx:=λσ' H'=>D.nx (σ'.set i none) H',rt:=D.rt,bk:=λσ' H'=>D.bk (σ'.set i none) H',ct:=λσ' H'=>D.ct (σ'.set i none) H'} (σ.set i (some (.ref ea))) H:=by simpa using h
  refine codeAny_handlers_suite_as (yh fl J.tr λh6 fl6 up6 tr6=>?_);have J6:=go h6 fl6 up6 tr6;obtain⟨oe6,he6,hc6,cx6,I6⟩:=J6.BL;refine pz (X:=L2.BL X ea oe6) (v:=.ref ea) I6 hN hi (Or.inl hl) rfl (λs7 I7=>?_) (Or.inr hl);refine Wm (hs ea oe6 ae s7 _ H _ I7 (h' oe6 hc6)) (λf s8 q=>?_) λ_ _ z=>z.elim
  -- J0 name is let go
  have letGo:∀{σ8:St}{H8:Hp}{R:_h->Prop},aX (L2.BL X ea oe6) ae σ8 H8 s8->(∀s9,aX X ae (σ8.set i none) H8 s9->R s9) ->
    wpAny (model X.prog X.w) X.A (do bindName X.env n .none;unbindBehindTheSuite X.env n pos) (λ_ s9=>R s9) (XP X ae EX) s8:=λ{σ8 H8 R}I8 k=>by
   have I9:=I8.aaR J.inv.ok;refine Vl (wpAny_bindName (qh I9 hN hi (Or.inl hl) (v:=.cH) rfl (λs9 I10⟨a,sb,ha⟩=>?_) (Or.inr hl)));obtain⟨m,ns,hlk⟩:=I10.loc;have iσ:i<σ8.length:=by rw[I9.len];exact(V!.mp hi).1
   obtain⟨u,ru,lk⟩:=hlk i n .cH hi (Wk iσ) (Or.inl hl);have hmn:m n=some u:=by
    rcases lk with⟨_,e⟩|⟨k',_⟩
    .exact e
    .exfalso;rcases k' with z|z
     .have z':X.env.scope.names.lookup n=some .cell:=z;rw[hl]at z';cases z'
     .have z':X.env.scope.names.lookup n=some .free:=z;rw[hl]at z';cases z'
   unfold unbindBehindTheSuite;refine Yi (wpAny_unbindName_local hl ns hmn (by rw[I10.ok.kind];rfl) λh11 u' Bl sb'=>?_);have I11:=I10.Lh hN hi hl ns hlk Bl sb';rw[List.set_set]at I11;exact k _ I11
  cases f with
  |next=>
   obtain⟨σ8,H8,I8,q8⟩:=q;exact letGo I8 λs9 I9=>⟨_,H8,I9,q8⟩
  |brk=>
   obtain⟨σ8,H8,I8,q8⟩:=q;exact letGo I8 λs9 I9=>⟨_,H8,I9,q8⟩
  |cont=>
   obtain⟨σ8,H8,I8,q8⟩:=q;exact letGo I8 λs9 I9=>⟨_,H8,I9,q8⟩
  |ret v=>
   obtain⟨x8,σ8,H8,I8,r8,q8⟩:=q;exact letGo I8 λs9 I9=>⟨x8,_,H8,I9,r8,q8⟩
def Itd(lo:Int)(n:Nat):It:=⟨λi _=>i<n,λi H x H'=>H'=H/\x=.int (lo-i),λi _=>n<=i⟩
theorem E8{K:Z'}(it:_i)(lo:Int)(n:Nat):Turn P w K tg (Itd lo n) [it] it (λi h=>IsRangeIter h it (lo+(i:Nat)*(-1)) ((n:Int)-(i:Nat)) (-1)) where
 mem:=by simp
 obj:=λi h st b hb=>by
  have e:b=it:=by simpa using hb
  subst e;exact⟨_,st,λv z=>by
   have z':Data.fields _=Data.cell v:=z;cases z'⟩
 keep:=λi h h' st k=>k it (by simp) _ st
 item:=by intro X hP hw hK hc i ae s σ H E I hf st hg;subst hP hw hK;obtain⟨f0,f1,f2,f3,f4,f5⟩:=hf it (by simp);have W:=Walks.range (prog:=X.prog) (w:=X.w) (I.ok.hd hc) it lo (-1) n;refine W.item i s _ _ hg st λv h' tk hv aC kk=>?_;obtain⟨t,rfl⟩:=hv;have I1:aX X ae σ H {s with heap:=h',toks:=tk}:=I.turned (λb o hb e=>kk b o (by simpa using hb) e) f0 f1 f3 f4 f5;refine⟨_,rfl,C6 (s:={s with heap:=h',toks:=tk}) (n:="range_iterator") aC rfl rfl (by decide) ⟨.int (lo-i),H,I1,⟨t,?_⟩,⟨rfl,rfl⟩,aC,λb hb=>(hf b hb).1⟩⟩;rw[show lo+(i:Int)*(-1)=lo-(i:Int) by lia]
 done:=by intro X hP hw hK hc i ae s σ H E I hf st hg;subst hP hw hK;obtain⟨f0,f1,f2,f3,f4,f5⟩:=hf it (by simp);exact ZV (I.ok.hd hc) st (by have:n<=i:=hg;lia) λh' eb=>⟨rfl,I.turned (t':=s.toks) (λb o hb e=>eb b o hb e) f0 f1 f3 f4 f5⟩
 self:=λ_ _ _ _ _ st h=>ZW st h
theorem Li{R:It->Hp->Prop}{E:Z_}{t u v:Tok}{tk:Nat}(I:aX X ae σ H s)(h1:-(2 ^ 62)<=lo)(h2:lo<2 ^ 62)(h3:-(2 ^ 62)<=hi)(h4:hi<2 ^ 62)(q:R (Itd lo (lo-hi).toNat) H):wpAny (model X.prog X.w) X.A (pyIter (.ref s.heap.objs.size)) (PIE X ae σ tg R) E {s with heap:=s.heap.push {cls:=.type "range",data:=.fields #[.int lo t,.int hi u,.int (-1) v]},toks:=tk}:=by
 refine wpAny_pyIter_range (IsRange.new ..) (W.small_down h1 h2 h3 h4) ?_;have I1:aX X ae σ H {s with heap:=s.heap.push {cls:=.type "range",data:=.fields #[.int lo t,.int hi u,.int (-1) v]},toks:=tk}:=I.kept λb o e=>Vo _ e;refine⟨(s.heap.push {cls:=.type "range",data:=.fields #[.int lo t,.int hi u,.int (-1) v]}).objs.size,[(s.heap.push {cls:=.type "range",data:=.fields #[.int lo t,.int hi u,.int (-1) v]}).objs.size],_,_,H,rfl,
  I1.kept (t':=tk) λb o e=>Vo _ e,E8 _ lo (lo-hi).toNat,?_,λb hb=>?_,q⟩
 .have e1:lo+((0:Nat):Int)*(-1)=lo:=by simp
  have e2:(((lo-hi).toNat:Nat):Int)-((0:Nat):Int)=Builtin.Range.rangeSize lo hi (-1):=by rw[W.rangeSize_downNat];lia
  show IsRangeIter _ _ (lo+((0:Nat):Int)*(-1)) ((((lo-hi).toNat:Nat):Int)-((0:Nat):Int)) (-1);rw[e1,e2];exact VS _ rfl
 .have e:b=(s.heap.push {cls:=.type "range",data:=.fields #[.int lo t,.int hi u,.int (-1) v]}).objs.size:=by simpa using hb
  subst e;exact I1.zP (VD _) (I1.cq.fresh (VD _))
def Ti(ta:TA):TI:=λσ H R=>ta σ H λvs H1=>∃i j:Int,vs=[.int i,.int j,.int (-1)]/\(-(2 ^ 62)<=i/\i<2 ^ 62/\-(2 ^ 62)<=j/\j<2 ^ 62)/\R (Itd i (i-j).toNat) H1
theorem Lj{a b c:Expr}{ta:TA}{p:Pos}(hg:Gl X "range")(hm:X.mg "range" = none)(ha:PA X [a,b,c] ta)(hs:starEach [a,b,c] X.env=[(false,eval a X.env),(false,eval b X.env),(false,eval c X.env)]:=by rfl)(jR:starEach [b,c] X.env=[(false,eval b X.env),(false,eval c X.env)]:=by rfl):
  PI X tg (.Call (.Name "range" p) [a,b,c] [] pos) (Ti ta):=by
 intro ae s σ H R I h;refine Call_ (kr I hg hm boot_range (WH (dR (ha pos ae s σ H _ I h) λus s1⟨vs,H1,I1,r1,q1⟩=>?_) (by rw[hs,jR]) (by rw[jR];rfl)));obtain⟨i,j,e,⟨q1,q2,q3,q4⟩,q⟩:=q1;subst e;cases r1 with
 |cons r rr=>
  cases rr with
  |cons r' rr=>
   cases rr with
   |cons r'' rr=>
    cases rr;obtain⟨t,rfl⟩:=r;obtain⟨t',rfl⟩:=r';obtain⟨t'',rfl⟩:=r'';refine call_range_3 (by decide) (Li I1 q1 q2 q3 q4 q) (.inl (Zc (by decide +kernel)))
def Ite(K:Z')(a:_i):It:=
 ⟨λi H=>∃xs x,nN K H a xs/\xs[i]?=some x,
  λi H v H'=>∃p x,v=.ref p/\H p=none/\H'=upd H p (.tup [.int i,x])/\∀xs,nN K H a xs->xs[i]?=some x,
  λi H=>∃xs,nN K H a xs/\xs.length<=i⟩
theorem E9{K:Z'}{e it:_i}(a:_i)(ne:e≠it):
  Turn P w K (.Tuple elts kt tp) (Ite K a) [e,it] e (λi h=>(∃old,IsEnum h e it (i:Int) old)/\h.IsListIter it a i) where
 mem:=by simp
 obj:=λi h⟨⟨old,he⟩,hi⟩c hc=>by
  have d7:c=e\/c=it:=by simpa using hc
  rcases d7 with rfl|rfl
  .exact⟨_,he,λv q=>by have q':Data.fields _=Data.cell v:=q;cases q'⟩
  .obtain⟨o,e',c,d⟩:=hi;exact⟨o,e',λv z=>by rw[d]at z;cases z⟩
 keep:=λi h h'⟨⟨old,he⟩,hi⟩k=>⟨⟨old,k e (by simp) _ he⟩,hi.at λo e'=>k it (by simp) o e'⟩
 item:=by
  intro X hP hw hK hc i ae s σ H E I hf st hg;subst hP hw hK;obtain⟨⟨old,he⟩,hi⟩:=st;obtain⟨xs,x,sx,ex⟩:=hg;obtain⟨aP,rv,p,_⟩:=I.list sx;obtain⟨ux,eux,rx⟩:=rv.get ex;have fz:=hf e (by simp);refine wpAny_pyNext_enum_item he hi p.isList (x:=ux) (by simpa using eux) ne λh' a1 a2 a3 a4 a5=>⟨_,rfl,?_⟩
  have hT:H s.heap.objs.size=none:=I.cq.fresh (VD _);have Tc:∀c∈[e,it],H c=none:=λc d7=>(hf c d7).1;have kp:∀c o,c ∉ [e,it]->s.heap.get? c=some o->h'.get? c=some o:=λc o d7 q=>a5 c o (λz=>d7 (by simp[z])) (λz=>d7 (by simp[z])) q;have zL:∀c o,H c=some o->c ∉ [e,it]:=λc o q d7=>by rw[Tc c d7]at q;cases q
  have cq:km X.prog X.w (upd H s.heap.objs.size (.tup [.int i,x])) h':=λc o q=>by
   by_cases Td:c=s.heap.objs.size
   .subst Td;rw[b8]at q;cases q;exact⟨by show 2<=sizeLine;decide,[.int i s.toks,ux],.cons ⟨_,rfl⟩ (.cons rx .nil),_,a3,rfl,_,rfl⟩
   .rw[a7 Td]at q;refine(I.cq c o q).pv (λd v hd z=>kp d v ?_ z) (λd z=>by rw[a7 (bq z hT)];exact z) λd zs z=>by rw[a7 (bq z hT)];exact z
    rcases hd with q'|q'
    .rw[q'];exact zL c o q
    .exact zL d _ q'
  have un:Un (iY X.stack) [e,it] H (upd H s.heap.objs.size (.tup [.int i,x])) s.heap h':=
   ⟨λc o q n _ d7=>kp c o d7 q,λc o q n _ d7=>⟨o.slots,kp c o d7 q⟩,λc o q n d7=>by rw[a7 (V0 (VH q))];exact n,λc o q d7=>⟨o,kp c o d7 q⟩,
    λc zs q=>by rw[a7 (bq q hT)];exact q,λc o u q=>by rw[a7 (bq q hT)];exact q,λc ps q=>⟨#[],by rw[a7 (bq q hT),q];simp⟩⟩
  have I1:aX X ae σ (upd H s.heap.objs.size (.tup [.int i,x])) {s with heap:=h',toks:=s.toks+1}:=I.zN rfl un cq I.bare λc d7=>by obtain⟨f0,f1,f2,f3,f4,f5⟩:=hf c d7;exact⟨f3,f1,f4,f5⟩
  have fpT:∀c∈[e,it],c≠s.heap.objs.size:=λc d7 q=>by
   have sJ:c<s.heap.objs.size:=by
    have OZ:c=e\/c=it:=by simpa using d7
    rcases OZ with r|r
    .rw[r];exact VH he
    .obtain⟨o,e',_⟩:=hi;rw[r];exact VH e'
   exact absurd sJ (by rw[q];exact Wf _)
  have Te:∀c∈[e,it],(upd H s.heap.objs.size (.tup [.int i,x])) c=none:=λc d7=>by rw[a7 (fpT c d7)];exact(hf c d7).1
  refine wpAny_letOwnedTupleGo_enum a1 λLd aaT sb=>?_;obtain⟨f0,f1,f2,f3,f4,f5⟩:=fz;have I2:aX X ae σ (upd H s.heap.objs.size (.tup [.int i,x])) {s with heap:=Ld,toks:=s.toks+1}:=I1.turned (s:={s with heap:=h',toks:=s.toks+1}) (t':=s.toks+1) (it:=e) (λc o d7 q=>(sb.2 c d7).trans q) (Te e (by simp)) f1 f3 f4 f5;refine⟨.ref s.heap.objs.size,_,I2,rfl,⟨_,x,rfl,hT,rfl,λzs hs=>by rw[I.pA hs sx];exact ex⟩,⟨⟨_,aaT⟩,a2.at λo q=>sb.extBut _ o ne.symm q⟩,Te⟩
 done:=by intro X hP hw hK hc i ae s σ H E I hf st hg;subst hP hw hK;obtain⟨⟨old,he⟩,hi⟩:=st;obtain⟨xs,sx,hl⟩:=hg;obtain⟨aP,rv,p,_⟩:=I.list sx;have l1:=rv.length;obtain⟨f0,f1,f2,f3,f4,f5⟩:=hf it (by simp);exact wpAny_pyNext_enum_end (I.ok.hd hc) he hi p.isList (by simp;lia) λh' eb=>⟨rfl,I.turned (t':=s.toks) (λb o hb q=>eb b o hb q) f0 f1 f3 f4 f5⟩
 self:=λ_ _ _ _ _ st h=>by obtain⟨⟨old,he⟩,hi⟩:=st;exact wpAny_pyIter_enum he h
section
variable{p:Pos}
def Tj(K:Z')(ta:TA):TI:=λσ H R=>ta σ H λvs H1=>∃a xs,vs=[.ref a]/\nN K H1 a xs/\R (Ite K a) H1
theorem Lk{a:Expr}{ta:TA}(hg:Gl X "enumerate")(hm:X.mg "enumerate" = none)(hv:bootBuiltins "enumerate" = some (.type "enumerate"))(ha:PA X [a] ta)(hs:starEach [a] X.env=[(false,eval a X.env)]:=by rfl):
  PI X (.Tuple elts kt tp) (.Call (.Name "enumerate" p) [a] [] pos) (Tj X.K ta):=by
 intro ae s σ H R I h;refine Call_ (kr I hg hm hv (WH (dR (ha pos ae s σ H _ I h) λus s1⟨vs,H1,I1,r1,q1⟩=>?_) hs rfl));obtain⟨b,xs,e,hq,q⟩:=q1;subst e;obtain⟨u,rfl,ru⟩:=bo.one r1;cases ru;obtain⟨aP,rv,pl,hz⟩:=I1.list hq;refine call_enumerate_list pl.isList λh' he hi hsz kp=>?_;have I2:aX X ae σ H1 {s1 with heap:=h'}:=I1.kept (t':=s1.toks) kp;have ne:s1.heap.objs.size+1≠s1.heap.objs.size:=by lia
 have T:=E9 (P:=X.prog) (w:=X.w) (K:=X.K) (elts:=elts) (kt:=kt) (tp:=tp) (e:=s1.heap.objs.size+1) (it:=s1.heap.objs.size) b ne;refine T.self X.A 0 {s1 with heap:=h'} _ _ ⟨⟨_,he⟩,hi⟩ ?_;refine⟨s1.heap.objs.size+1,[s1.heap.objs.size+1,s1.heap.objs.size],_,_,H1,rfl,I2,T,⟨⟨_,he⟩,hi⟩,λc hc=>?_,q⟩;have hle:s1.heap.objs.size<=c:=by
  have d7:c=s1.heap.objs.size+1\/c=s1.heap.objs.size:=by simpa using hc
  rcases d7 with r|r<;>(rw[r];first|exact VD _|exact YM _ _)
 exact I1.zP hle (I1.cq.fresh hle)
end
theorem E_(hh:X.A.handled=none):b7 X (.builtin "max") (λxs H Q=>∃i j,xs=[.int i,.int j]/\Q (.int (if j>i then j else i)) H):=by
 rintro ae s σ H xs ws Q I r ⟨i,j,rfl,q⟩;obtain⟨u,v,rfl,ru,rv⟩:=bo.two r;obtain⟨t,rfl⟩:=ru;obtain⟨t',rfl⟩:=rv;refine max_two_ints hh λh' tk hk=>?_;refine⟨.int (if j>i then j else i),H,I.kept hk,?_,q⟩;by_cases c:j>i
 .rw[VC c,VC c];exact⟨_,rfl⟩
 .rw[VI c,VI c];exact⟨_,rfl⟩
theorem E!:b7 X (.type "int") (λxs H Q=>∃b,xs=[.bl b]/\Q (.int (if b then 1 else 0)) H):=by rintro ae s σ H xs ws Q I r ⟨b,rfl,q⟩;obtain⟨u,rfl,ru⟩:=bo.one r;cases ru;exact call_int_bool ⟨.int (if b then 1 else 0),H,I.tok _,⟨_,rfl⟩,q⟩
theorem Hl:Sj X (SM X.K):=by
 intro ae s σ H o i ov iv Q I ro ri h;obtain⟨p,xs,k,z,rfl,rfl,hq,he,q⟩:=h;cases ro;obtain⟨t,rfl⟩:=ri;obtain⟨aP,r,pl,hz⟩:=I.list hq;obtain⟨j,h1,h2,h3,h4,h5⟩:=tO he;obtain⟨w,ew,x_⟩:=r.get h2;have hl:=r.length;have hn:=oR;have fin:EP X ae σ Q w s:=⟨z,H,I,x_,q⟩
 by_cases h0:0<=k
 .have hj:k.toNat=j:=by rw[Zf h0 h5]at h1;exact VR h1
  exact wpAny_getItem_list pl.isList h0 (by lia) (by rw[hj];simpa using ew) fin
 .have hj:(k+(aP.toArray.size:Int)).toNat=j:=by rw[Y5 (by lia) h4]at h1;rw[VG,<-hl];exact VR h1
  exact ZX pl.isList (by lia) (by rw[VG]<;>lia) (by lia) (by rw[hj];simpa using ew) fin
structure gr where
 qual:Str
 params:Arguments
 body:Expr
 scope:Scope
 ps:_e
 x:Str
abbrev Fz(H:Hp)(a:_i)(o:Obj):Prop:=H a=some (.j5 o (.own 0))
structure Clo(L:gr)(H:Hp)(f c c':_i)(v:V):Prop where
 fn:∃pm Bm,Fz H f (W.kla_obj "<lambda>" L.qual L.params L.body L.scope [(L.x,c)] pm c' Bm)
 cd:∃oc vs t,Fz H c' oc/\oc.data=.fields vs/\vs[1]?=some (.str L.qual t)
 ce:∃oc u,Fz H c oc/\oc.data=.cell (some u)/\bJ v u
def back(H H':Hp)(c:_i):Hp:=λb=>if b=c then H b else H' b
theorem Dj:∀{ps:_e}{us:_b}{i:Nat}{y:Str}{u:_g},ps.Nodup->ps[i]?=some y->us[i]?=some u->(ps.zip us).reverse.lookup y=some u
 |[],_,_,_,_,_,h,_=>by cases h
 |_::_,[],_,_,_,_,_,h=>by cases h
 |p::ps,w::us,i,y,u,nd,h1,h2=>by
  have n:=Xo.mp nd;rw[Zo,List.reverse_cons,List.lookup_append];cases i with
  |zero=>
   cases h1;cases h2;have:(ps.zip us).reverse.lookup p=none:=by
    rw[List.lookup_eq_none_iff];intro q hq;have:=(Xb (List.mem_reverse.mp hq)).1;have ne:p≠q.1:=by intro z;apply n.1;rw[z];exact this
    first|exact WD.mpr ne|exact WD.mpr (W? ne)|simpa using ne|simpa using(W? ne)
   rw[this];simp
  |succ i=>
   rw[Dj n.2 (show ps[i]?=some y from h1) (show us[i]?=some u from h2)];rfl
def Tab(H:Hp)(T:_i)(line col:Nat)(qual:Str):Prop:=H T=some (.v? #[]) \/
 ∃c' oc vs t,H T=some (.v? #[rawInt line,rawInt col,.ref c'])/\Fz H c' oc/\oc.data=.fields vs/\vs[1]?=some (.str qual t)
structure Hm(X:Cx)(L:gr)(pos:Pos)(cd T:_i)(cs:List (Str×_i)):Prop where
 code:X.env.code=.ref cd
 hd:W.CodeHd X.base cd T
 cl:closureFor L.scope X.env=pure cs
 qual:L.qual=X.env.qual ++ "<lambda>"
 dflt:defaultsOf L.params X.env=([],[])
 blt:X.base.BuiltinsAt X.mg T
 gT:mainGlobals≠T
structure Dk(L:gr)(H H':Hp)(T:_i)(cs:List (Str×_i))(f c':_i)(pos:Pos):Prop where
 fn:∃pm Bm,Fz H' f (W.kla_obj "<lambda>" L.qual L.params L.body L.scope cs pm c' Bm)
 cd:∃oc vs t,Fz H' c' oc/\oc.data=.fields vs/\vs[1]?=some (.str L.qual t)
 tab:Tab H' T pos.line pos.col L.qual
 old:∀b o,b≠T->H b=some o->H' b=some o
def Tn(L:gr)(T:_i)(cs:List (Str×_i))(pos:Pos):TE:=λ_ H Q=>Tab H T pos.line pos.col L.qual/\∀f c' H',Dk L H H' T cs f c' pos->Q (.ref f) H'
theorem E?:codeAmong pos (#[]:Array _g).toList=none:=rfl
section
variable{L:gr}{cd T c:_i}
theorem Ll{cs:List (Str×_i)}(A:Hm X L pos cd T cs):PE X (.Lambda L.params L.body L.scope pos) (Tn L T cs pos):=by
 intro ae s σ H Q I h;obtain⟨tb,q⟩:=h;have C:W.CodeHd s.heap cd T:=A.hd.keeps I.bk;have G:s.heap.Ns mainGlobals X.mg:=I.ok.mod.glob.keeps I.bk;have B:s.heap.BuiltinsAt X.mg T:=by obtain⟨bm,o,h1,h2,h3,h4,h5,h6⟩:=A.blt;exact⟨bm,o,h1,h2,h3,h4,I.bk _ _ h5,h6⟩
 refine W.kla_eval A.dflt ?_;rw[<-A.qual];rcases tb with tb|⟨c',oc,vs,t,tb,hc,hd,hv⟩
 .have hT:s.heap.get? T=some (W.tabObj #[]):=I.cq T _ tb;refine W.kla_makeFunction (ps:=#[]) A.cl I.ok.glob G A.code C hT trivial E? A.gT B λc' Bm h' tk hx To sJ aaU htb=>?_;obtain⟨c2,oc,vs,t,e2,R9,hd,hv⟩:=aaU;cases e2;obtain⟨ob,eo⟩:∃ob,ob=W.kla_obj "<lambda>" L.qual L.params L.body L.scope cs ((X.mg "__name__").getD .none) c' Bm:=⟨_,rfl⟩
  obtain⟨ps,eps⟩:∃ps:Array _g,ps = #[rawInt pos.line,rawInt pos.col,.ref c']:=⟨_,rfl⟩
  have Tp:h'.get? T=some (W.tabObj ps):=by rw[htb,eps];rfl
  rw[<-eo];have lT:T<s.heap.objs.size:=VH hT;have nc:H c'=none:=I.cq.fresh To;have nf:H h'.objs.size=none:=I.cq.fresh (by lia);have tr:∀b x,H b=some x->b<s.heap.objs.size:=λb x q=>by obtain⟨o,e⟩:=(I.cq b x q).there;exact VH e
  obtain⟨H',eH⟩:∃H',H'=upd (upd (upd H T (.v? ps)) c' (.j5 oc (.own 0))) h'.objs.size (.j5 ob (.own 0)):=⟨_,rfl⟩
  have hf':H' h'.objs.size=some (.j5 ob (.own 0)):=by rw[eH];exact b8
  have d7:H' c'=some (.j5 oc (.own 0)):=by rw[eH,a7 (V0 sJ)];exact b8
  have Tq:H' T=some (.v? ps):=by rw[eH,a7 (V0 (Zn lT (YB To sJ))),a7 (V0 (VO lT To))];exact b8
  have tN:∀b,b≠T->b<s.heap.objs.size->H' b=H b:=λb h1 h2=>by rw[eH,a7 (V0 (Zn h2 (YB To sJ))),a7 (V0 (VO h2 To)),a7 h1]
  have nT:∀b x,H b=some x->(∀ps,x≠.v? ps)->b≠T:=λb x q z e=>by rw[e,tb]at q;exact z _ (VR q).symm
  have n0:∀b,H b=none->b≠T:=λb q e=>by rw[e,tb]at q;cases q
  have kp:∀b o,b≠T->s.heap.get? b=some o->(h'.push ob).get? b=some o:=λb o h1 h2=>Vo _ (hx b o h1 h2);have un:Un X.fs [] H H' s.heap (h'.push ob):=by
   refine⟨λb o q n _ _=>kp b o (n0 b n) q,λb o q n _ _=>⟨o.slots,kp b o (n0 b n) q⟩,λb o q n _=>?_,λb o q _=>?_,λb xs q=>?_,λb o u q=>?_,λb O9 q=>?_⟩
   .rw[tN b (n0 b n) (VH q)];exact n
   .by_cases e:b=T
    .rw[e];exact⟨_,Vo _ Tp⟩
    .exact⟨o,kp b o e q⟩
   .rw[tN b (nT b _ q λ_ z=>by cases z) (tr b _ q)];exact q
   .rw[tN b (nT b _ q λ_ z=>by cases z) (tr b _ q)];exact q
   .by_cases e:b=T
    .rw[e,tb]at q;cases q;exact⟨ps,by rw[e,Tq];simp⟩
    .exact⟨#[],by rw[tN b e (tr b _ q),q];simp⟩
  have ok:km X.prog X.w H' (h'.push ob):=λb x q=>by
   by_cases e1:b=h'.objs.size
   .rw[e1,hf']at q;cases q;rw[e1];have g:(h'.push ob).get? h'.objs.size=some ob:=VS _ (by rw[eo];rfl);exact⟨g,ob,g⟩
   .by_cases e2:b=c'
    .rw[e2,d7]at q;cases q;rw[e2];exact⟨Vo _ R9,oc,Vo _ R9⟩
    .by_cases e3:b=T
     .rw[e3,Tq]at q;cases q;rw[e3];exact Vo _ Tp
     .rw[eH,a7 e1,a7 e2,a7 e3]at q;refine(I.cq b x q).pv (λa u ha z=>kp a u ?_ z) (λa z=>?_) λa xs z=>?_
      .rcases ha with rfl|ha
       .exact e3
       .exact nT a _ ha λ_ z=>by cases z
      .rw[tN a (nT a _ z λ_ z=>by cases z) (tr a _ z)];exact z
      .rw[tN a (nT a _ z λ_ z=>by cases z) (tr a _ z)];exact z
  refine⟨.ref h'.objs.size,H',I.un (t':=tk) un ok,rfl,q h'.objs.size c' H' ⟨⟨(X.mg "__name__").getD .none,Bm,by show H' _=some _;rw[hf',eo]⟩,⟨oc,vs,t,d7,hd,hv⟩,.inr ⟨c',oc,vs,t,by rw[Tq,eps],d7,hd,hv⟩,λb o h1 h2=>?_⟩⟩;rw[tN b h1 (tr b _ h2)];exact h2
 .have hT:s.heap.get? T=some (W.tabObj #[rawInt pos.line,rawInt pos.col,.ref c']):=I.cq T _ tb;refine W.kla_makeFunctionHit (cv:=.ref c') A.cl I.ok.glob G A.code C hT trivial ?_ B λBm h' tk hk hsz=>?_
  .show codeAmong pos [rawInt pos.line,rawInt pos.col,.ref c']=_;unfold rawInt codeAmong;rw[VC (by simp)]
  .obtain⟨ob,eo⟩:∃ob,ob=W.kla_obj "<lambda>" L.qual L.params L.body L.scope cs ((X.mg "__name__").getD .none) c' Bm:=⟨_,rfl⟩
   have g:(h'.push ob).get? h'.objs.size=some ob:=VS _ (by rw[eo];rfl);have nf:H h'.objs.size=none:=I.cq.fresh hsz;have zT:H c'=some (.j5 oc (.own 0)):=hc;have e1:c'≠h'.objs.size:=λz=>by rw[z,nf]at zT;cases zT
   have hc3:∀o,upd H h'.objs.size o c'=some (.j5 oc (.own 0)):=λo=>by rw[a7 e1];exact zT
   have e2:T≠h'.objs.size:=λz=>by rw[z,nf]at tb;cases tb
   have J:=I.laid (a:=h'.objs.size) (o:=.j5 ob (.own 0)) (t':=tk) (h':=h'.push ob) (λb u e=>Vo _ (hk b u e)) hsz ⟨g,ob,g⟩;rw[eo]at J;refine⟨.ref h'.objs.size,_,J,rfl,q _ c' _ ⟨⟨_,Bm,b8⟩,⟨oc,vs,t,hc3 _,hd,hv⟩,.inr ⟨c',oc,vs,t,by rw[a7 e2];exact tb,hc3 _,hd,hv⟩,λb o h1 h2=>?_⟩⟩;rw[a7 (λz=>by rw[z,nf]at h2;cases h2)];exact h2
end
theorem Clo.mono{L:gr}{c:_i}{v:V}(C:Clo L H f c c' v)(k:∀b o u,H b=some (.j5 o u)->H' b=some (.j5 o u)):Clo L H' f c c' v:=by obtain⟨⟨pm,Bm,h1⟩,⟨oc,vs,t,h2,h3⟩,⟨o2,u,h4,h5⟩⟩:=C;exact⟨⟨pm,Bm,k _ _ _ h1⟩,⟨oc,vs,t,k _ _ _ h2,h3⟩,⟨o2,u,k _ _ _ h4,h5⟩⟩
def XF:XK:=λ_ _ _=>False
end L2
variable {x qual:Str}
variable {k:Nat}
variable {ps:List Str}
variable {scope:Scope}
variable {L:L2.gr}
variable {cl:List (Str×Addr)}
variable {EX:L2.EK}
namespace MN
open PySem.Spec L2
open PyProof.Rows hiding St
inductive ah where
 |cH|bl (b:Bool)|int (i:Int)|str (x:Str)|tup (vs:List ah)|loc (n:Nat)|exc (c:Str)|fn (L:gr) (u:ah)|mt (vs:List ah)
inductive aS where
 |lst (vs:List ah)|O_ (vs:List ah)|mod (vs:List ah)|dK (a8:List (fe×ah))|dT (a8:List (List fe×ah))|tab (x:Str) (line col:Nat) (qual:Str)|ins (c:Str) (fs:List (Str×ah))|fd (a8:List (fe×ah))
abbrev af:=List aS
abbrev Env:=List (Option ah)
inductive cz(α:Type) where
 |ok (a:α) (st:af)|err (c:Str) (st:af)|bad
inductive bY where
 |nx (μ:Env) (st:af)|rt (v:ah) (st:af)|bk (μ:Env) (st:af)|ct (μ:Env) (st:af)|er (c:Str) (μ:Env) (st:af)|bad
@[reducible] def cz.bind(r:cz α)(k:α->af->cz β):cz β:=match r with
 |.ok a st=>k a st
 |.err c st=>.err c st
 |.bad=>.bad
structure Wo where
 K:Z'
 mg:Str->_c
 pn:Z?
abbrev wo(X:Cx):Wo:=⟨X.K,X.mg,X.pn⟩
mutual
def Rl(K:Z')(ρ:_d)(H:Hp):ah->V->Prop
 |.cH,v=>v=.cH
 |.bl b,v=>v=.bl b
 |.int i,v=>v=.int i
 |.str x,v=>v=.str x
 |.tup us,v=>∃a vs,v=.ref a/\H a=some (.tup vs)/\bt K ρ H us vs
 |.mt us,v=>∃a vs,v=.ref a/\oC K H a vs/\bt K ρ H us vs
 |.loc n,v=>∃a,v=.ref a/\ρ[n]?=some a
 |.exc _,_=>False
 |.fn _ _,_=>False
def bt(K:Z')(ρ:_d)(H:Hp):List ah->List V->Prop
 |[],vs=>vs=[]
 |u::us,vs=>∃v r,vs=v::r/\Rl K ρ H u v/\bt K ρ H us r
end
structure aW(ρ:_d)(H:Hp)(ρ':_d)(H':Hp):Prop where
 pre:ρ <+: ρ'
 tup:∀b xs,H b=some (.tup xs)->H' b=some (.tup xs)
 j5:∀b o u,H b=some (.j5 o u)->H' b=some (.j5 o u)
theorem aW.refl(ρ:_d)(H:Hp):aW ρ H ρ H:=⟨Yt ρ,λ_ _ h=>h,λ_ _ _ h=>h⟩
theorem aW.trans{ρ1 ρ2:_d}{H1 H2:Hp}(a:aW ρ H ρ1 H1)(b:aW ρ1 H1 ρ2 H2):aW ρ H ρ2 H2:=
 ⟨a.pre.trans b.pre,λ_ _ h=>b.tup _ _ (a.tup _ _ h),λ_ _ _ h=>b.j5 _ _ _ (a.j5 _ _ _ h)⟩
theorem aW.same(e:qp H H'):aW ρ H ρ H':=⟨Yt ρ,λ_ _ h=>e _ _ h,λ_ _ _ h=>e _ _ h⟩
theorem aW.snoc(p:_i)(e:qp H H'):aW ρ H (ρ++[p]) H':=⟨List.prefix_append ρ [p],λ_ _ h=>e _ _ h,λ_ _ _ h=>e _ _ h⟩
theorem aW.at_(e:aW ρ H ρ' H'){n:Nat}{a:_i}(h:ρ[n]?=some a):ρ'[n]?=some a:=by
 obtain⟨t,rfl⟩:=e.pre;have hl:n<ρ.length:=by
  rcases WQ n ρ.length with q|q
  .exact q
  .rw[V1 q]at h;cases h
 rw[V6 hl,h]
theorem aW.sqT{K:Z'}(e:aW ρ H ρ' H'){a:_i}{xs:List V}(h:oC K H a xs):oC K H' a xs:=by
 rcases h with(h|⟨o,h⟩)|h
 .exact .inl (.inl (e.tup _ _ h))
 .exact .inl (.inr ⟨o,e.j5 _ _ _ h⟩)
 .exact .inr h
mutual
theorem Rl.mono{K:Z'}(e:aW ρ H ρ' H'):∀(u:ah)(v:V),Rl K ρ H u v->Rl K ρ' H' u v
 |.cH,_,h=>h
 |.bl _,_,h=>h
 |.int _,_,h=>h
 |.str _,_,h=>h
 |.tup us,v,h=>by unfold Rl at h⊢;obtain⟨a,vs,h1,h2,h3⟩:=h;exact⟨a,vs,h1,e.tup _ _ h2,bt.mono e us vs h3⟩
 |.mt us,v,h=>by unfold Rl at h⊢;obtain⟨a,vs,h1,h2,h3⟩:=h;exact⟨a,vs,h1,e.sqT h2,bt.mono e us vs h3⟩
 |.loc n,v,h=>by unfold Rl at h⊢;obtain⟨a,h1,h2⟩:=h;exact⟨a,h1,e.at_ h2⟩
 |.exc c,v,h=>h
 |.fn _ _,_,h=>h
theorem bt.mono{K:Z'}(e:aW ρ H ρ' H'):∀(us:List ah)(vs:List V),bt K ρ H us vs->bt K ρ' H' us vs
 |[],_,h=>h
 |u::us,vs,h=>by unfold bt at h⊢;obtain⟨v,r,h1,h2,h3⟩:=h;exact⟨v,r,h1,Rl.mono e u v h2,bt.mono e us r h3⟩
end
section
variable{K:Z'}
theorem bt.nil:bt K ρ H [] []:=by unfold bt;rfl
theorem bt.cons{u:ah}{us:List ah}{v:V}{vs:List V}(h:Rl K ρ H u v)(hs:bt K ρ H us vs):bt K ρ H (u::us) (v::vs):=by unfold bt;exact⟨v,vs,rfl,h,hs⟩
theorem bt.cN{u:ah}{us:List ah}{vs:List V}(h:bt K ρ H (u::us) vs):∃v r,vs=v::r/\Rl K ρ H u v/\bt K ρ H us r:=by unfold bt at h;exact h
theorem bt.gg{vs:List V}(h:bt K ρ H [] vs):vs=[]:=by unfold bt at h;exact h
theorem bt.length:∀{us:List ah}{vs:List V},bt K ρ H us vs->us.length=vs.length
 |[],vs,h=>by rw[h.gg];rfl
 |u::us,vs,h=>by obtain⟨v,r,rfl,_,h3⟩:=h.cN;rw[Vm,Vm,h3.length]
theorem bt.get:∀{us:List ah}{vs:List V}{i:Nat}{u:ah},bt K ρ H us vs->us[i]?=some u->∃v,vs[i]?=some v/\Rl K ρ H u v
 |[],_,_,_,_,e=>by cases e
 |w::us,vs,0,u,h,e=>by obtain⟨v,r,rfl,h2,_⟩:=h.cN;cases e;exact⟨v,rfl,h2⟩
 |w::us,vs,i+1,u,h,e=>by obtain⟨v,r,rfl,_,h3⟩:=h.cN;exact bt.get (i:=i) h3 e
theorem bt.append:∀{us ws:List ah}{vs xs:List V},bt K ρ H us vs->bt K ρ H ws xs->bt K ρ H (us++ws) (vs++xs)
 |[],_,vs,_,h,k=>by rw[h.gg];exact k
 |u::us,ws,vs,xs,h,k=>by obtain⟨v,r,rfl,h2,h3⟩:=h.cN;exact bt.cons h2 (h3.append k)
theorem bt.drop:∀(n:Nat){us:List ah}{vs:List V},bt K ρ H us vs->bt K ρ H (us.drop n) (vs.drop n)
 |0,_,_,h=>h
 |_+1,[],vs,h=>by rw[h.gg];exact bt.nil
 |n+1,u::us,vs,h=>by obtain⟨v,r,rfl,h2,h3⟩:=h.cN;exact bt.drop n h3
theorem bt.take:∀(n:Nat){us:List ah}{vs:List V},bt K ρ H us vs->bt K ρ H (us.take n) (vs.take n)
 |0,_,_,_=>bt.nil
 |_+1,[],vs,h=>by rw[h.gg];exact bt.nil
 |n+1,u::us,vs,h=>by obtain⟨v,r,rfl,h2,h3⟩:=h.cN;exact bt.cons h2 (bt.take n h3)
theorem bt.set{u:ah}{v:V}(hu:Rl K ρ H u v):∀(n:Nat){us:List ah}{vs:List V},bt K ρ H us vs->bt K ρ H (us.set n u) (vs.set n v)
 |_,[],vs,h=>by rw[h.gg];exact bt.nil
 |0,w::us,vs,h=>by obtain⟨x,r,rfl,h2,h3⟩:=h.cN;exact bt.cons hu h3
 |n+1,w::us,vs,h=>by obtain⟨x,r,rfl,h2,h3⟩:=h.cN;exact bt.cons h2 (bt.set hu n h3)
theorem bt.one{u:ah}{v:V}(h:Rl K ρ H u v):bt K ρ H [u] [v]:=bt.cons h bt.nil
theorem bt.zE{u:ah}{vs:List V}(h:bt K ρ H [u] vs):∃v,vs=[v]/\Rl K ρ H u v:=by obtain⟨v,r,rfl,h2,h3⟩:=h.cN;rw[h3.gg];exact⟨v,rfl,h2⟩
theorem bt.Tr{u w:ah}{vs:List V}(h:bt K ρ H [u,w] vs):∃v x,vs=[v,x]/\Rl K ρ H u v/\Rl K ρ H w x:=by obtain⟨v,r,rfl,h2,h3⟩:=h.cN;obtain⟨x,rfl,h4⟩:=h3.zE;exact⟨v,x,rfl,h2,h4⟩
theorem bt.ints:∀(ns:_a),bt K ρ H (ns.map ah.int) (ns.map V.int)
 |[]=>bt.nil
 |n::ns=>bt.cons (by unfold Rl;rfl) (bt.ints ns)
theorem Rl.cP{i:Int}{v:V}(h:Rl K ρ H (.int i) v):v=.int i:=by unfold Rl at h;exact h
theorem Rl.v_{b:Bool}{v:V}(h:Rl K ρ H (.bl b) v):v=.bl b:=by unfold Rl at h;exact h
theorem Rl.mj{v:V}(h:Rl K ρ H (.str x) v):v=.str x:=by unfold Rl at h;exact h
theorem Rl.mm{v:V}(h:Rl K ρ H .cH v):v=.cH:=by unfold Rl at h;exact h
theorem Rl.Ts{us:List ah}{v:V}(h:Rl K ρ H (.tup us) v):∃a vs,v=.ref a/\H a=some (.tup vs)/\bt K ρ H us vs:=by unfold Rl at h;exact h
theorem Rl.i!{us:List ah}{v:V}(h:Rl K ρ H (.tup us) v):∃a vs,v=.ref a/\oC K H a vs/\bt K ρ H us vs:=let⟨a,vs,h1,h2,h3⟩:=h.Ts;⟨a,vs,h1,oC.of h2,h3⟩
theorem Rl.mt_{us:List ah}{v:V}(h:Rl K ρ H (.mt us) v):∃a vs,v=.ref a/\oC K H a vs/\bt K ρ H us vs:=by unfold Rl at h;exact h
theorem Rl.aaV{us:List ah}{a:_i}{vs:List V}(h:oC K H a vs)(r:bt K ρ H us vs):Rl K ρ H (.mt us) (.ref a):=by unfold Rl;exact⟨a,vs,rfl,h,r⟩
theorem Rl.ff{n:Nat}{v:V}(h:Rl K ρ H (.loc n) v):∃a,v=.ref a/\ρ[n]?=some a:=by unfold Rl at h;exact h
theorem Rl.mkInt(i:Int):Rl K ρ H (.int i) (.int i):=by unfold Rl;rfl
theorem Rl.Hn(b:Bool):Rl K ρ H (.bl b) (.bl b):=by unfold Rl;rfl
theorem Rl.mkStr(x:Str):Rl K ρ H (.str x) (.str x):=by unfold Rl;rfl
theorem Rl.w?:Rl K ρ H .cH .cH:=by unfold Rl;rfl
theorem Rl.xa{us:List ah}{a:_i}{vs:List V}(h:H a=some (.tup vs))(r:bt K ρ H us vs):Rl K ρ H (.tup us) (.ref a):=by unfold Rl;exact⟨a,vs,rfl,h,r⟩
theorem Rl.Ho{n:Nat}{a:_i}(h:ρ[n]?=some a):Rl K ρ H (.loc n) (.ref a):=by unfold Rl;exact⟨a,rfl,h⟩
end
def jD(K:Z')(ρ:_d)(H:Hp)(a8:List (κ×ah))(iD:List (κ×V)):Prop:=a8.map (·.1)=iD.map (·.1)/\bt K ρ H (a8.map (·.2)) (iD.map (·.2))
def lO:Option aS->Bool
 |some (.mod _)=>true
 |_=>false
def aaW(K:Z')(a:_i)(vs:List V):Prop:=∃(o:Obj)(aP:Array _g)(n:Nat),K.lookup a=some o/\o.cls=.type "list" /\ o.dict=none/\o.data=.seq aP n/\aP.size<=sizeLine/\bo vs aP.toList
def iE(K:Z')(ρ:_d)(H:Hp):aS->_i->Prop
 |.lst us,a=>∃vs,H a=some (.lst vs)/\bt K ρ H us vs
 |.O_ us,a=>∃o vs,H a=some (.j5 o (.lst vs))/\bt K ρ H us vs
 |.mod us,a=>∃vs,aaW K a vs/\bt K ρ H us vs
 |.dK a8,a=>∃iD,H a=some (.dK iD)/\jD K ρ H a8 iD
 |.dT a8,a=>∃iD,H a=some (.dT iD)/\jD K ρ H a8 iD
 |.fd a8,a=>∃o iD,H a=some (.j5 o (.dK iD))/\jD K ρ H a8 iD
 |.tab x l c q,a=>(∃cd,W.tabIn K x=some (cd,a))/\Tab H a l c q
 |.ins c fs,a=>∃C dx gs,H a=some (.ins C dx gs)/\W.nsIn K mainGlobals c=some (some (.ref C))/\jD K ρ H fs gs
structure SR(K:Z')(ρ:_d)(st:af)(H:Hp):Prop where
 len:ρ.length=st.length
 nd:∀(n m:Nat)a,ρ[n]?=some a->ρ[m]?=some a->lO st[n]?=false->lO st[m]?=false->n=m
 cell:∀(n:Nat)c a,st[n]?=some c->ρ[n]?=some a->iE K ρ H c a
theorem bx{l:List α}{n:Nat}{x:α}(h:l[n]?=some x):n<l.length:=by
 rcases WQ n l.length with q|q
 .exact q
 .rw[V1 q]at h;cases h
section
variable{K:Z'}{st:af}
theorem iE.there{c:aS}{a:_i}(h:iE K ρ H c a)(hn:lO (some c)=false):∃o,H a=some o/\∀xs,o≠.tup xs:=by
 cases c with
 |lst us=>obtain⟨vs,h,_⟩:=h;exact⟨_,h,λxs e=>by cases e⟩
 |O_ us=>obtain⟨o,vs,h,_⟩:=h;exact⟨_,h,λxs e=>by cases e⟩
 |fd us=>obtain⟨o,vs,h,_⟩:=h;exact⟨_,h,λxs e=>by cases e⟩
 |mod us=>cases hn
 |dK a8=>obtain⟨vs,h,_⟩:=h;exact⟨_,h,λxs e=>by cases e⟩
 |dT a8=>obtain⟨vs,h,_⟩:=h;exact⟨_,h,λxs e=>by cases e⟩
 |tab x l c q=>rcases h.2 with h|⟨_,_,_,_,h,_⟩<;>exact⟨_,h,λxs e=>by cases e⟩
 |ins c fs=>obtain⟨_,_,_,h,_⟩:=h;exact⟨_,h,λxs e=>by cases e⟩
theorem iE.mono{c:aS}{a:_i}(h:iE K ρ H c a)(e:aW ρ H ρ' H')(ha:lO (some c)=true\/H' a=H a):iE K ρ' H' c a:=by
 cases c with
 |mod us=>obtain⟨vs,h,r⟩:=h;exact⟨vs,h,bt.mono e _ _ r⟩
 |lst us=>rcases ha with ha|ha<;>first|cases ha;done|(obtain⟨vs,h,r⟩:=h;exact⟨vs,ha.trans h,bt.mono e _ _ r⟩)
 |O_ us=>rcases ha with ha|ha<;>first|cases ha;done|(obtain⟨o,vs,h,r⟩:=h;exact⟨o,vs,ha.trans h,bt.mono e _ _ r⟩)
 |dK a8=>rcases ha with ha|ha<;>first|cases ha;done|(obtain⟨vs,h,r⟩:=h;exact⟨vs,ha.trans h,r.1,bt.mono e _ _ r.2⟩)
 |dT a8=>rcases ha with ha|ha<;>first|cases ha;done|(obtain⟨vs,h,r⟩:=h;exact⟨vs,ha.trans h,r.1,bt.mono e _ _ r.2⟩)
 |fd a8=>rcases ha with ha|ha<;>first|cases ha;done|(obtain⟨o,vs,h,r⟩:=h;exact⟨o,vs,ha.trans h,r.1,bt.mono e _ _ r.2⟩)
 |ins c fs=>rcases ha with ha|ha<;>first|cases ha;done|(obtain⟨C,dx,gs,h,hn,r⟩:=h;exact⟨C,dx,gs,ha.trans h,hn,r.1,bt.mono e _ _ r.2⟩)
 |tab x l c q=>
  refine⟨h.1,?_⟩;rcases ha with ha|ha
  .cases ha
  .rcases h.2 with h|⟨c',oc,vs,t,h,h2,h3⟩
   .exact .inl (ha.trans h)
   .exact .inr ⟨c',oc,vs,t,ha.trans h,e.j5 _ _ _ h2,h3⟩
theorem iE.grow{c:aS}{a:_i}(h:iE K ρ H c a)(e:aW ρ H ρ' H')(s:qp H H'):iE K ρ' H' c a:=by
 cases z:lO (some c) with
 |true=>exact h.mono e (.inl z)
 |false=>
  obtain⟨o,ho,_⟩:=h.there z;exact h.mono e (.inr (by rw[ho];exact s _ _ ho))
theorem SR.there(s:SR K ρ st H){n:Nat}{a:_i}(h:ρ[n]?=some a):∃c,st[n]?=some c/\iE K ρ H c a:=by
 have hn:=bx h;have Km:n<st.length:=by rw[<-s.len];exact hn
 exact⟨st[n],Vp Km,s.cell n _ a (Vp Km) h⟩
theorem SR.addr(s:SR K ρ st H){n:Nat}{c:aS}(h:st[n]?=some c):∃a,ρ[n]?=some a/\iE K ρ H c a:=by
 have hn:=bx h;have Km:n<ρ.length:=by rw[s.len];exact hn
 exact⟨ρ[n],Vp Km,s.cell n c _ h (Vp Km)⟩
theorem SR.grow(s:SR K ρ st H)(e:qp H H'):SR K ρ st H':=
 ⟨s.len,s.nd,λn c a h1 h2=>(s.cell n c a h1 h2).grow (aW.same e) e⟩
theorem SR.Ni(s:SR K ρ st H){p:_i}(hp:H p=none){n:Nat}(h:ρ[n]?=some p)(hm:lO st[n]?=false):False:=by obtain⟨c,hc,k⟩:=s.there h;rw[hc]at hm;obtain⟨o,ho,_⟩:=k.there hm;rw[hp]at ho;cases ho
theorem eJ{p:_i}{o:HO}(hp:H p=none):qp H (upd H p o):=qp.upd (qp.refl H) hp
theorem SR.alloc(s:SR K ρ st H){p:_i}{o:HO}{c:aS}(hp:H p=none)(k:iE K (ρ++[p]) (upd H p o) c p):SR K (ρ++[p]) (st++[c]) (upd H p o):=by
 have e:qp H (upd H p o):=eJ hp;have at_:∀(n:Nat)(a:_i),(ρ++[p])[n]?=some a->(n<st.length/\ρ[n]?=some a/\(st++[c])[n]?=st[n]?)\/(n=st.length/\a=p/\(st++[c])[n]?=some c):=by
  intro n a h;rcases ZS n st.length with q|q|q
  .rw[V6 (by rw[s.len];exact q)]at h;exact .inl ⟨q,h,V6 q⟩
  .subst q;rw[V4 (by rw[s.len];exact VD _),s.len,W5]at h;cases h;refine .inr ⟨rfl,rfl,?_⟩;rw[V4 (VD _),W5];rfl
  .rw[V1 (by rw[Vv,V3,s.len];lia)]at h;cases h
 refine⟨by rw[Vv,Vv,s.len];rfl,λn m a h1 h2 m1 m2=>?_,λn c' a h1 h2=>?_⟩
 .rcases at_ n a h1 with⟨q1,q2,q3⟩|⟨q1,q2,q3⟩<;>rcases at_ m a h2 with⟨r1,r2,r3⟩|⟨r1,r2,r3⟩
  .rw[q3]at m1;rw[r3]at m2;exact s.nd n m a q2 r2 m1 m2
  .subst r2;rw[q3]at m1;exact(s.Ni hp q2 m1).elim
  .subst q2;rw[r3]at m2;exact(s.Ni hp r2 m2).elim
  .rw[q1,r1]
 .rcases at_ n a h2 with⟨q1,q2,q3⟩|⟨q1,q2,q3⟩
  .rw[q3]at h1;exact(s.cell n c' a h1 q2).grow (aW.snoc p e) e
  .rw[q3]at h1;cases h1;subst q2;exact k
theorem aW.put{a:_i}{o o':HO}(h:H a=some o)(h1:∀xs,o≠.tup xs)(h2:∀x u,o≠.j5 x u):aW ρ H ρ (upd H a o'):=by
 refine⟨Yt ρ,λb xs e=>?_,λb x u e=>?_⟩
 .rw[a7 (λz=>?_)]
  .exact e
  .subst z;rw[h]at e;exact h1 _ (VR e)
 .rw[a7 (λz=>?_)]
  .exact e
  .subst z;rw[h]at e;exact h2 _ _ (VR e)
theorem SR.set(s:SR K ρ st H){n:Nat}{a:_i}{o o':HO}{c c':aS}(h:st[n]?=some c)(hc:lO (some c)=false)(d7:lO (some c')=false)(ha:ρ[n]?=some a)(ho:H a=some o)(h1:∀xs,o≠.tup xs)(h2:∀x u,o≠.j5 x u)(k:iE K ρ (upd H a o') c' a):SR K ρ (st.set n c') (upd H a o'):=by
 have hn:n<st.length:=bx h;have at_:∀(m:Nat),lO (st.set n c')[m]?=lO st[m]?:=λm=>by
  by_cases z:m=n
  .subst z;rw[Wk hn,h,hc,d7]
  .rw[WT (λy=>z y.symm)]
 refine⟨by rw[Wu];exact s.len,λi m b q1 q2 m1 m2=>s.nd i m b q1 q2 (by rw[<-at_];exact m1) (by rw[<-at_];exact m2),λm d b q1 q2=>?_⟩;by_cases z:m=n
 .subst z;rw[ha]at q2;cases q2;rw[Wk hn]at q1;cases q1;exact k
 .rw[WT (λy=>z y.symm)]at q1;have kb:=s.cell m d b q1 q2;cases zm:lO (some d) with
  |true=>exact kb.mono (aW.put ho h1 h2) (.inl zm)
  |false=>
   have hb:b≠a:=λy=>z (s.nd m n a (by rw[<-y];exact q2) ha (by rw[q1];exact zm) (by rw[h];exact hc));exact kb.mono (aW.put ho h1 h2) (.inr (a7 hb))
end
def Dl(W:Wo)(ρ:_d)(H:Hp)(u:ah)(v:V):Prop:=match u with
 |.exc c=>∃a oe C,v=.ref a/\(a,oe)∈W.pn/\W.mg c=some (.ref C)/\oe.cls=.ref C
 |.fn L u=>∃f c c' cv,v=.ref f/\Clo L H f c c' cv/\Rl W.K ρ H u cv
 |u=>Rl W.K ρ H u v
theorem Dl.mono{W:Wo}{u:ah}{v:V}(h:Dl W ρ H u v)(e:aW ρ H ρ' H'):Dl W ρ' H' u v:=by
 cases u with
 |exc c=>exact h
 |fn L u=>obtain⟨f,c,c',cv,h1,C,r⟩:=h;exact⟨f,c,c',cv,h1,C.mono (λb o u q=>e.j5 b o u q),Rl.mono e _ _ r⟩
 |_=>exact Rl.mono e _ _ h
theorem Dl.of{W:Wo}{u:ah}{v:V}(h:Rl W.K ρ H u v):Dl W ρ H u v:=by
 cases u with
 |exc c=>unfold Rl at h;exact h.elim
 |fn L u=>unfold Rl at h;exact h.elim
 |_=>exact h
structure RS(W:Wo)(ρ:_d)(H:Hp)(μ:Env)(σ:St):Prop where
 len:μ.length=σ.length
 at_:∀(i:Nat)u,μ[i]?=some (some u)->∃v,σ[i]?=some (some v)/\Dl W ρ H u v
section
variable{W:Wo}{μ:Env}
theorem RS.mono(r:RS W ρ H μ σ)(e:aW ρ H ρ' H'):RS W ρ' H' μ σ:=⟨r.len,λi u h=>let⟨v,h1,h2⟩:=r.at_ i u h;⟨v,h1,h2.mono e⟩⟩
theorem RS.Tt(r:RS W ρ H μ σ)(i:Nat){u:ah}{v:V}(h:Dl W ρ H u v):RS W ρ H (μ.set i (some u)) (σ.set i (some v)):=by
 refine⟨by rw[Wu,Wu];exact r.len,λj w e=>?_⟩;by_cases z:j=i
 .subst z;have hj:=bx e;rw[Wu]at hj;rw[Wk hj]at e;cases e;exact⟨v,Wk (by rw[<-r.len];exact hj),h⟩
 .rw[WT (λy=>z y.symm)]at e⊢;exact r.at_ j w e
theorem RS.set(r:RS W ρ H μ σ)(i:Nat){u:ah}{v:V}(h:Rl W.K ρ H u v):RS W ρ H (μ.set i (some u)) (σ.set i (some v)):=r.Tt i (Dl.of h)
end
abbrev ME:=Env->af->cz ah
abbrev MT:=Env->af->cz Bool
abbrev MA:=Env->af->cz (List ah)
abbrev MB:=Env->af->bY
def wR(W:Wo)(E:XK)(R:_d->Hp->α->β->Prop)(ρ:_d)(H:Hp)(Q:β->Hp->Prop):cz α->Prop
 |.ok u aC=>∀ρ' H' v,aW ρ H ρ' H'->SR W.K ρ' aC H'->R ρ' H' u v->Q v H'
 |.err c aC=>∃C,W.mg c=some (.ref C)/\∀ρ' H',aW ρ H ρ' H'->SR W.K ρ' aC H'->E (.ref C) none H'
 |.bad=>False
theorem wR.mono{W:Wo}{R:_d->Hp->α->β->Prop}{Q:β->Hp->Prop}{r:cz α}(h:wR W E R ρ H Q r)(e:aW ρ H ρ' H'):wR W E R ρ' H' Q r:=by
 cases r with
 |ok u st=>exact λρ2 H2 v e2 s r=>h ρ2 H2 v (e.trans e2) s r
 |err c st=>obtain⟨C,h1,h2⟩:=h;exact⟨C,h1,λρ2 H2 e2 s=>h2 ρ2 H2 (e.trans e2) s⟩
 |bad=>exact h
theorem wR.pn{K:Z'}{mg:Z!}{pn:Z?}{R:_d->Hp->α->β->Prop}{Q:β->Hp->Prop}{r:cz α}(h:wR ⟨K,mg,pn⟩ E R ρ H Q r):wR ⟨K,mg,O!⟩ E R ρ H Q r:=by cases r<;>exact h
def tG(W:Wo)(E:XK)(R:_d->Hp->α->β->Prop)(m:Env->af->cz α):St->Hp->(β->Hp->Prop)->Prop:=
 λσ H Q=>∃μ ρ st,RS W ρ H μ σ/\SR W.K ρ st H/\wR W E R ρ H Q (m μ st)
abbrev RB:_d->Hp->Bool->Bool->Prop:=λ_ _ b c=>c=b
abbrev tE(X:Cx)(E:XK)(m:ME):TE:=tG (wo X) E (Rl X.K) m
abbrev tT(X:Cx)(E:XK)(m:MT):TT:=tG (wo X) E RB m
abbrev tL(X:Cx)(E:XK)(m:MA):TA:=tG (wo X) E (bt X.K) m
theorem go{γ δ:Type}{W:Wo}{R1:_d->Hp->α->β->Prop}{R2:_d->Hp->γ->δ->Prop}{m:Env->af->cz α}{k:α->af->cz γ}{Q:δ->Hp->Prop}{Q':β->Hp->Prop}(μ:Env)(ρ:_d)(st:af)(rs:RS W ρ H μ σ)(sr:SR W.K ρ st H)(h:wR W E R2 ρ H Q ((m μ st).bind k))(c:∀u st1 ρ1 H1 x,aW ρ H ρ1 H1->SR W.K ρ1 st1 H1->R1 ρ1 H1 u x->wR W E R2 ρ1 H1 Q (k u st1)->Q' x H1):tG W E R1 m σ H Q':=by
 refine⟨μ,ρ,st,rs,sr,?_⟩;cases e:m μ st with
 |ok u st1=>
  rw[e]at h;intro ρ1 H1 x e1 cC r1;exact c u st1 ρ1 H1 x e1 cC r1 (wR.mono h e1)
 |err c st1=>rw[e]at h;exact h
 |bad=>rw[e]at h;exact h
theorem PE.imp{t t':TE}(h:PE X e t)(k:∀σ H Q,t' σ H Q->t σ H Q):PE X e t':=λae s σ H Q I q=>h ae s σ H Q I (k σ H Q q)
theorem PT.imp{t t':TT}(h:PT X e t)(k:∀σ H Q,t' σ H Q->t σ H Q):PT X e t':=λae s σ H Q I q=>h ae s σ H Q I (k σ H Q q)
theorem PW.imp{t t':TT}(h:PW X e t)(k:∀σ H Q,t' σ H Q->t σ H Q):PW X e t':=λw ae s σ H Q I q=>h w ae s σ H Q I (k σ H Q q)
theorem PA.imp{e:List Expr}{t t':TA}(h:PA X e t)(k:∀σ H Q,t' σ H Q->t σ H Q):PA X e t':=λp ae s σ H Q I q=>h p ae s σ H Q I (k σ H Q q)
theorem PS.imp{e:Stmt}{t t':TS}(h:PS X e t)(k:∀D σ H,t' D σ H->t D σ H):PS X e t':=λae s σ H D I q=>h ae s σ H D I (k D σ H q)
theorem l?.imp{e:List Stmt}{t t':TS}(h:l? X e t)(k:∀D σ H,t' D σ H->t D σ H):l? X e t':=λae s σ H D I q=>h ae s σ H D I (k D σ H q)
theorem PG.imp{t t':TG}(h:PG X e t)(k:∀v σ H Q,t' v σ H Q->t v σ H Q):PG X e t':=λae s σ H v u Q I r q=>h ae s σ H v u Q I r (k v σ H Q q)
theorem f9.imp{f:_g->_g->Sem _g}{t t':R2}(h:f9 X f t)(k:∀x y H Q,t' x y H Q->t x y H Q):f9 X f t':=λae s σ H x y v u Q I rx ry q=>h ae s σ H x y v u Q I rx ry (k x y H Q q)
theorem b7.imp{f:_g}{t t':List V->Hp->VK->Prop}(h:b7 X f t)(k:∀xs H Q,t' xs H Q->t xs H Q):b7 X f t':=λae s σ H xs us Q I r q=>h ae s σ H xs us Q I r (k xs H Q q)
theorem Bj.imp{t t':R2}(h:Bj X t)(k:∀x y H Q,t' x y H Q->t x y H Q):Bj X t':=λva sl ae s σ H x y v u Q I rx ry q e=>h va sl ae s σ H x y v u Q I rx ry (k x y H Q q) e
def Kb:ah->Bool
 |.exc _=>true
 |.fn _ _=>true
 |_=>false
def iJ(i:Nat):ME:=λμ st=>match μ[i]? with
 |some (some v)=>if Kb v=true then .bad else .ok v st
 |_=>.bad
theorem Dl.un{W:Wo}{u:ah}{v:V}(h:Dl W ρ H u v)(n:¬ Kb u=true):Rl W.K ρ H u v:=by
 cases u with
 |exc c=>exact absurd rfl n
 |fn L u=>exact absurd rfl n
 |_=>exact h
def mC(v:ah):ME:=λ_ st=>.ok v st
theorem BM(i:Nat)(hN:X.N[i]?=some x:=by rfl)(hv:J7 X.env.scope x:=by first|exact Or.inl rfl|exact Or.inr (Or.inl rfl)|exact Or.inr (Or.inr rfl))(hd:(x==("__debug__":Str))=false:=by decide)(qi:(x==("__classdict__":Str))=false:=by decide):PE X (.Name x pos) (tE X E (iJ i)):=by
 refine PE.imp (xR hN hv hd qi) ?_;rintro σ H Q ⟨μ,ρ,st,rs,sr,h⟩;unfold iJ at h;split at h
 .rename_i v e;obtain⟨w,e',r⟩:=rs.at_ i v e;split at h
  .exact h.elim
  .rename_i n;exact⟨w,e',h ρ H w (aW.refl _ _) sr (r.un n)⟩
 .exact h.elim
theorem Ac{v:V}{c:ah}(h:PE X e (tC v))(r:∀ρ H,Rl X.K ρ H c v):PE X e (tE X E (mC c)):=by refine PE.imp h ?_;rintro σ H Q ⟨μ,ρ,st,rs,sr,h⟩;exact h ρ H v (aW.refl _ _) sr (r ρ H)
theorem BN{i j}:PE X (.Constant (.int i) j pos) (tE X E (mC (.int i))):=Ac N4 λ_ _=>Rl.mkInt i
theorem Tu{b j}:PE X (.Constant (.bool b) j pos) (tE X E (mC (.bl b))):=Ac R_ λ_ _=>Rl.Hn b
theorem O?{j}:PE X (.Constant .none j pos) (tE X E (mC .cH)):=Ac N5 λ_ _=>Rl.w?
theorem O'{x j}:PE X (.Constant (.str x) j pos) (tE X E (mC (.str x))):=Ac N6 λ_ _=>Rl.mkStr x
structure Glob(K:Z')(mg:Z!)(x:Str)(c:ah):Prop where
 at_:∃(u:_g)(v:V),mg x=some u/\bJ v u/\∀ρ H,Rl K ρ H c v
theorem Dm{c:ah}(hg:Gl X x)(h:Glob X.K X.mg x c)(hd:(x==("__debug__":Str))=false:=by decide):PE X (.Name x pos) (tE X E (mC c)):=by obtain⟨u,v,h1,h2,h3⟩:=h.at_;exact Ac (xS hg h1 h2 hd) h3
abbrev F2:=ah->ah->af->cz ah
def rM(W:Wo)(E:XK)(f:F2):R2:=λx y H Q=>∃ρ st u w,SR W.K ρ st H/\Rl W.K ρ H u x/\Rl W.K ρ H w y/\wR W E (Rl W.K) ρ H Q (f u w st)
def ag(f:F2)(a b:ME):ME:=λμ st=>(a μ st).bind λx st1=>(b μ st1).bind λy bX=>f x y bX
section
variable{a b c:Expr}{ma mb mc:ME}{f g:F2}
theorem pI(h:tE X E (ag f ma mb) σ H Q):Rt (rM (wo X) E f) (tE X E ma) (tE X E mb) σ H Q:=by obtain⟨μ,ρ,st,rs,sr,h⟩:=h;refine go μ ρ st rs sr h λu st1 ρ1 H1 x e1 cC r1 h1=>?_;refine go μ ρ1 st1 (rs.mono e1) cC h1 λw bX ρ2 H2 y e2 pJ r2 h2=>?_;exact⟨ρ2,bX,u,w,pJ,Rl.mono e2 _ _ r1,r2,h2⟩
theorem qr{op:Operator}(ho:f9 X (binaryOp op) (rM (wo X) E f))(ha:PE X a (tE X E ma))(hb:PE X b (tE X E mb)):PE X (.BinOp a op b pos) (tE X E (ag f ma mb)):=
 PE.imp (Sr ho ha hb) λ_ _ _ h=>pI h
theorem qt(ho:f9 X (compareOp op) (rM (wo X) E f))(ha:PE X a (tE X E ma))(hb:PE X b (tE X E mb))(hm:behindInMarks op b=false:=by first|exact GR _|(with_unfolding_all rfl)):PE X (.Compare a [op] [b] pos) (tE X E (ag f ma mb)):=
 PE.imp (KH ho ha hb hm) λ_ _ _ h=>pI h
def dY(m:ME):MT:=λμ st=>(m μ st).bind λv aC=>match v with
 |.bl b=>.ok b aC
 |_=>.bad
theorem Ad{m:ME}{Q:Bool->Hp->Prop}(h:tT X E (dY m) σ H Q):tE X E m σ H λx H'=>∃k,x=.bl k/\Q k H':=by
 obtain⟨μ,ρ,st,rs,sr,h⟩:=h;refine go μ ρ st rs sr h λu st1 ρ1 H1 x e1 cC r1 h1=>?_;cases u with
 |bl b=>exact⟨b,r1.v_,h1 ρ1 H1 b (aW.refl _ _) cC rfl⟩
 |_=>exact h1.elim
theorem qu(ho:f9 X (compareOp op) (rM (wo X) E f))(ha:PE X a (tE X E ma))(hb:PE X b (tE X E mb))(hm:behindInMarks op b=false:=by first|exact GR _|(with_unfolding_all rfl)):PT X (.Compare a [op] [b] pos) (tT X E (dY (ag f ma mb))):=
 PT.imp (KI ho ha hb hm) λσ H Q h=>by show Rt (rM (wo X) E f) (tE X E ma) (tE X E mb) σ H _;exact pI (Ad h)
theorem Pa{m:ME}(h:PE X a (tE X E m))(he:∀whole,isTrue a X.env whole=(do let v <- whole;standAt a.pos;holding [v] (truthy v)):=by intro _;rfl):PT X a (tT X E (dY m)):=
 PT.imp (N7 h he) λσ H Q h=>Ad h
def Pb(f g:F2)(a b c:ME):ME:=λμ st=>(a μ st).bind λx st1=>(b μ st1).bind λy bX=>(f x y bX).bind λz oD=>match z with
 |.bl true=>(c μ oD).bind λw ph=>g y w ph
 |.bl false=>.ok (.bl false) oD
 |_=>.bad
def Ae(a b:ME):ME:=λμ st=>(a μ st).bind λx st1=>match x with
 |.bl true=>b μ st1
 |.bl false=>.ok (.bl false) st1
 |_=>.bad
def mOr(a b:ME):ME:=λμ st=>(a μ st).bind λx st1=>match x with
 |.bl true=>.ok (.bl true) st1
 |.bl false=>b μ st1
 |_=>.bad
def Pc(a:ME):ME:=λμ st=>(a μ st).bind λx st1=>match x with
 |.bl b=>.ok (.bl (!b)) st1
 |_=>.bad
def j6(a b:MT):MT:=λμ st=>(a μ st).bind λx st1=>match x with
 |true=>b μ st1
 |false=>.ok false st1
def Af(a b:MT):MT:=λμ st=>(a μ st).bind λx st1=>match x with
 |true=>.ok true st1
 |false=>b μ st1
def uC(a:MT):MT:=λμ st=>(a μ st).bind λx st1=>.ok (!x) st1
def Kd(t:MT)(a b:ME):ME:=λμ st=>(t μ st).bind λx st1=>match x with
 |true=>a μ st1
 |false=>b μ st1
variable{tA Kn:MT}
theorem Pd{op}{m:ME}(h:PE X a (tE X E m)):PE X (.BoolOp op [a] pos) (tE X E m):=N! h
theorem Pe(ha:PE X a (tE X E ma))(hb:PE X (.BoolOp .And (b::rest) pos) (tE X E mb)):PE X (.BoolOp .And (a::b::rest) pos) (tE X E (Ae ma mb)):=by
 refine PE.imp (N? ha hb) ?_;rintro σ H Q ⟨μ,ρ,st,rs,sr,h⟩;refine go μ ρ st rs sr h λu st1 ρ1 H1 x e1 cC r1 h1=>?_;cases u with
 |bl k=>
  refine⟨k,r1.v_,?_⟩;cases k with
  |true=>rw[VC rfl];exact⟨μ,ρ1,st1,rs.mono e1,cC,h1⟩
  |false=>rw[VI VQ];exact h1 ρ1 H1 _ (aW.refl _ _) cC (Rl.Hn false)
 |_=>exact h1.elim
theorem Tv(ha:PE X a (tE X E ma))(hb:PE X (.BoolOp .Or (b::rest) pos) (tE X E mb)):PE X (.BoolOp .Or (a::b::rest) pos) (tE X E (mOr ma mb)):=by
 refine PE.imp (Sb ha hb) ?_;rintro σ H Q ⟨μ,ρ,st,rs,sr,h⟩;refine go μ ρ st rs sr h λu st1 ρ1 H1 x e1 cC r1 h1=>?_;cases u with
 |bl k=>
  refine⟨k,r1.v_,?_⟩;cases k with
  |true=>rw[VC rfl];exact h1 ρ1 H1 _ (aW.refl _ _) cC (Rl.Hn true)
  |false=>rw[VI VQ];exact⟨μ,ρ1,st1,rs.mono e1,cC,h1⟩
 |_=>exact h1.elim
theorem Pf(ha:PE X a (tE X E ma)):PE X (.UnaryOp .Not a pos) (tE X E (Pc ma)):=by
 refine PE.imp (N' ha) ?_;rintro σ H Q ⟨μ,ρ,st,rs,sr,h⟩;refine go μ ρ st rs sr h λu st1 ρ1 H1 x e1 cC r1 h1=>?_;cases u with
 |bl k=>exact⟨k,r1.v_,h1 ρ1 H1 _ (aW.refl _ _) cC (Rl.Hn _)⟩
 |_=>exact h1.elim
theorem Lm(ha:PT X a (tT X E tA)):PW X (.BoolOp .And [a] pos) (tT X E tA):=Ko ha
theorem Pg(ha:PT X a (tT X E tA)):PW X (.BoolOp .Or [a] pos) (tT X E tA):=N8 ha
theorem Ph(ha:PT X a (tT X E tA))(hb:PW X (.BoolOp .And (b::rest) pos) (tT X E Kn)):PW X (.BoolOp .And (a::b::rest) pos) (tT X E (j6 tA Kn)):=by
 refine PW.imp (N9 ha hb) ?_;rintro σ H Q ⟨μ,ρ,st,rs,sr,h⟩;refine go (R1:=RB) μ ρ st rs sr h λu st1 ρ1 H1 x e1 cC r1 h1=>?_;cases r1;cases u with
 |true=>rw[VC rfl];exact⟨μ,ρ1,st1,rs.mono e1,cC,h1⟩
 |false=>rw[VI VQ];exact h1 ρ1 H1 _ (aW.refl _ _) cC rfl
theorem Tw(ha:PT X a (tT X E tA))(hb:PW X (.BoolOp .Or (b::rest) pos) (tT X E Kn)):PW X (.BoolOp .Or (a::b::rest) pos) (tT X E (Af tA Kn)):=by
 refine PW.imp (R! ha hb) ?_;rintro σ H Q ⟨μ,ρ,st,rs,sr,h⟩;refine go (R1:=RB) μ ρ st rs sr h λu st1 ρ1 H1 x e1 cC r1 h1=>?_;cases r1;cases u with
 |true=>rw[VC rfl];exact h1 ρ1 H1 _ (aW.refl _ _) cC rfl
 |false=>rw[VI VQ];exact⟨μ,ρ1,st1,rs.mono e1,cC,h1⟩
theorem aaX{t:MT}(h:PW X e (tT X E t)):PT X e (tT X E t):=h.pt
theorem Pj(ha:PT X a (tT X E tA)):PT X (.UnaryOp .Not a pos) (tT X E (uC tA)):=by refine PT.imp (N_ ha) ?_;rintro σ H Q ⟨μ,ρ,st,rs,sr,h⟩;refine go (R1:=RB) μ ρ st rs sr h λu st1 ρ1 H1 x e1 cC r1 h1=>?_;cases r1;exact h1 ρ1 H1 _ (aW.refl _ _) cC rfl
theorem Tx(hc:PT X c (tT X E tA))(ha:PE X a (tE X E ma))(hb:PE X b (tE X E mb)):PE X (.IfExp c a b pos) (tE X E (Kd tA ma mb)):=by
 refine PE.imp (GK hc ha hb) ?_;rintro σ H Q ⟨μ,ρ,st,rs,sr,h⟩;refine go (R1:=RB) μ ρ st rs sr h λu st1 ρ1 H1 x e1 cC r1 h1=>?_;cases r1;cases u with
 |true=>rw[VC rfl];exact⟨μ,ρ1,st1,rs.mono e1,cC,h1⟩
 |false=>rw[VI VQ];exact⟨μ,ρ1,st1,rs.mono e1,cC,h1⟩
end
def ai:MA:=λ_ st=>.ok [] st
def aa(a:ME)(r:MA):MA:=λμ st=>(a μ st).bind λx st1=>(r μ st1).bind λxs bX=>.ok (x::xs) bX
abbrev bg: ME := iJ 0
abbrev bG: ME := iJ 1
abbrev cQ: ME := iJ 2
abbrev dJ: ME := iJ 3
abbrev fT: ME := iJ 4
abbrev j4: ME := iJ 5
abbrev nW: ME := iJ 6
abbrev uD: ME := iJ 7
abbrev Hq: ME := iJ 8
abbrev Bn: ME := iJ 9
abbrev cT: ME := mC (.int 0)
abbrev cI: ME := mC (.int 1)
abbrev yn: ME := mC (.int 2)
abbrev RC: ME := mC (.int 3)
abbrev Tz: ME := mC (.int 5)
abbrev Hr: ME := mC (.int 10)
abbrev fm: ME := mC (.int 2147483647)
abbrev qs(x : Str): ME := mC (.str x)
abbrev qI(i : Int): Option ah := some (.int i)
abbrev qN(n : Nat): Option ah := some (.int n)
abbrev qS(x : Str): Option ah := some (.str x)
abbrev qL(n : Nat): Option ah := some (.loc n)
abbrev qn: Option ah := none
def gB(a:MA):ME:=λμ st=>(a μ st).bind λxs st1=>if xs.length<=sizeLine then .ok (.tup xs) st1 else .bad
def a_(a:MA):ME:=λμ st=>(a μ st).bind λxs st1=>if xs.length<=sizeLine then .ok (.loc st1.length) (st1++[.lst xs])else .bad
abbrev FN:=List ah->af->cz ah
def ak(f:FN)(a:MA):ME:=λμ st=>(a μ st).bind λxs st1=>f xs st1
def Nj(W:Wo)(f:FN):Sp:=λvs H Q E=>∃us ρ st,bt W.K ρ H us vs/\SR W.K ρ st H/\wR W E (Rl W.K) ρ H Q (f us st)
def cM(W:Wo)(E:XK)(f:FN):List V->Hp->VK->Prop:=λxs H Q=>∃ρ st us,SR W.K ρ st H/\bt W.K ρ H us xs/\wR W E (Rl W.K) ρ H Q (f us st)
section
variable{p:Pos}{m:ME}{ms:MA}{f:FN}
theorem BO:PA X [] (tL X E ai):=PA.imp ql λσ H Q⟨μ,ρ,st,rs,sr,h⟩=>h ρ H [] (aW.refl _ _) sr bt.nil
theorem tQ(ha:PE X e (tE X E m))(hr:PA X es (tL X E ms))(hs:starEach (e::es) X.env=(false,eval e X.env)::starEach es X.env:=by rfl):PA X (e::es) (tL X E (aa m ms)):=by refine PA.imp (iZ ha hr hs) ?_;rintro σ H Q ⟨μ,ρ,st,rs,sr,h⟩;refine go μ ρ st rs sr h λu st1 ρ1 H1 x e1 cC r1 h1=>?_;refine go (R1:=bt X.K) μ ρ1 st1 (rs.mono e1) cC h1 λw bX ρ2 H2 y e2 pJ r2 h2=>?_;exact h2 ρ2 H2 _ (aW.refl _ _) pJ (bt.cons (Rl.mono e2 _ _ r1) r2)
theorem Ht{k}(h:PA X es (tL X E ms)):PE X (.Tuple es k pos) (tE X E (gB ms)):=by
 refine PE.imp (Oz h) ?_;rintro σ H Q ⟨μ,ρ,st,rs,sr,h⟩;refine go (R1:=bt X.K) μ ρ st rs sr h λus st1 ρ1 H1 xs e1 cC r1 h1=>?_;by_cases hz:us.length<=sizeLine
 .rw[VC hz]at h1;refine⟨by rw[<-r1.length];exact hz,λp hp=>?_⟩;have s:=eJ (o:=.tup xs) hp;exact h1 ρ1 _ _ (aW.same s) (cC.grow s) (Rl.xa b8 (bt.mono (aW.same s) _ _ r1))
 .rw[VI hz]at h1;exact h1.elim
theorem il{K:Z'}{st:af}{us:List ah}{xs:List V}(sr:SR K ρ st H)(r:bt K ρ H us xs){p:_i}(hp:H p=none):
  aW ρ H (ρ++[p]) (upd H p (.lst xs))/\SR K (ρ++[p]) (st++[.lst us]) (upd H p (.lst xs))/\Rl K (ρ++[p]) (upd H p (.lst xs)) (.loc st.length) (.ref p):=by
 have s:=eJ (o:=.lst xs) hp;refine⟨aW.snoc p s,sr.alloc hp ⟨xs,b8,bt.mono (aW.snoc p s) _ _ r⟩,Rl.Ho ?_⟩;rw[<-sr.len,V4 (VD _),W5];rfl
theorem Pk(h:PA X es (tL X E ms)):PE X (.List es pos) (tE X E (a_ ms)):=by
 refine PE.imp (OA h) ?_;rintro σ H Q ⟨μ,ρ,st,rs,sr,h⟩;refine go (R1:=bt X.K) μ ρ st rs sr h λus st1 ρ1 H1 xs e1 cC r1 h1=>?_;by_cases hz:us.length<=sizeLine
 .rw[VC hz]at h1;refine⟨by rw[<-r1.length];exact hz,λp hp=>?_⟩;obtain⟨a,b,c⟩:=il cC r1 hp;exact h1 _ _ _ a b c
 .rw[VI hz]at h1;exact h1.elim
theorem Ln{fd:FuncData}(F:qm X.prog X.w X.K X.mg X.base CX k fa fd ps (Nj ⟨X.K,X.mg,[]⟩ f))(hr:fj k X.A)(hg:Gl X x)(hm:X.mg x=some (.ref fa))(hk:W.keepIn X.K (.ref fa)=true)(hb:Binds X.K fd ps [])(hx:Passes CX X E)(ha:PA X (e::es) (tL X E ms))(sE:(x==("__debug__":Str))=false:=by decide)(he:starEach (e::es) X.env=(false,eval e X.env)::starEach es X.env:=by rfl)(ko:(backTo pos (starEach es X.env)).any (·.1)=false:=by rfl):
  PE X (.Call (.Name x p) (e::es) [] pos) (tE X E (ak f ms)):=by
 refine PE.imp (KN F hr hg hm hk hb .nil hx ha sE he ko) ?_;rintro σ H Q ⟨μ,ρ,st,rs,sr,h⟩;refine go (R1:=bt X.K) μ ρ st rs sr h λus st1 ρ1 H1 xs e1 cC r1 h1=>?_;rw[V7];exact⟨us,ρ1,st1,r1,cC,wR.pn h1⟩
theorem j7{id:String}(hc:b7 X (.builtin id) (cM (wo X) E f))(hg:Gl X x)(hm:X.mg x=none)(hv:bootBuiltins x=some (.builtin id))(ha:PA X (e::es) (tL X E ms))(hn:x ≠ "__name__":=by decide)(sE:(x==("__debug__":Str))=false:=by decide)(he:starEach (e::es) X.env=(false,eval e X.env)::starEach es X.env:=by rfl)(ko:(backTo pos (starEach es X.env)).any (·.1)=false:=by rfl):PE X (.Call (.Name x p) (e::es) [] pos) (tE X E (ak f ms)):=by refine PE.imp (pF hc hg hm hv ha hn sE he ko) ?_;rintro σ H Q ⟨μ,ρ,st,rs,sr,h⟩;exact go (R1:=bt X.K) μ ρ st rs sr h λus st1 ρ1 H1 xs e1 cC r1 h1=>⟨ρ1,st1,us,cC,r1,h1⟩
theorem qv{T:String}(hc:b7 X (.type T) (cM (wo X) E f))(hg:Gl X x)(hm:X.mg x=none)(hv:bootBuiltins x=some (.type T))(ha:PA X (e::es) (tL X E ms))(hn:x ≠ "__name__":=by decide)(sE:(x==("__debug__":Str))=false:=by decide)(he:starEach (e::es) X.env=(false,eval e X.env)::starEach es X.env:=by rfl)(ko:(backTo pos (starEach es X.env)).any (·.1)=false:=by rfl):PE X (.Call (.Name x p) (e::es) [] pos) (tE X E (ak f ms)):=by refine PE.imp (EJ hc hg hm hv ha hn sE he ko) ?_;rintro σ H Q ⟨μ,ρ,st,rs,sr,h⟩;exact go (R1:=bt X.K) μ ρ st rs sr h λus st1 ρ1 H1 xs e1 cC r1 h1=>⟨ρ1,st1,us,cC,r1,h1⟩
end
section
variable{a b:Expr}{ma mb:ME}{f:F2}
theorem TB(hr:Bj X (rM (wo X) E f))(ha:PE X a (tE X E ma))(hb:PE X b (tE X E mb))(hs:xZ b:=by exact λ_ _=>rfl):PE X (.Subscript a b pos) (tE X E (ag f ma mb)):=
 PE.imp (SK hr ha hb hs) λ_ _ _ h=>pI h
end
def wS(W:Wo)(E:XK)(ρ:_d)(H:Hp)(D:Ends):bY->Prop
 |.nx μ st=>∀ρ' H' σ',aW ρ H ρ' H'->SR W.K ρ' st H'->RS W ρ' H' μ σ'->D.nx σ' H'
 |.rt v st=>∀ρ' H' x,aW ρ H ρ' H'->SR W.K ρ' st H'->Rl W.K ρ' H' v x->D.rt x H'
 |.bk μ st=>∀ρ' H' σ',aW ρ H ρ' H'->SR W.K ρ' st H'->RS W ρ' H' μ σ'->D.bk σ' H'
 |.ct μ st=>∀ρ' H' σ',aW ρ H ρ' H'->SR W.K ρ' st H'->RS W ρ' H' μ σ'->D.ct σ' H'
 |.er c _ st=>∃C,W.mg c=some (.ref C)/\∀ρ' H',aW ρ H ρ' H'->SR W.K ρ' st H'->E (.ref C) none H'
 |.bad=>False
theorem wS.mono{W:Wo}{r:bY}(h:wS W E ρ H D r)(e:aW ρ H ρ' H'):wS W E ρ' H' D r:=by
 cases r with
 |nx μ st=>exact λρ2 H2 σ2 e2 s r=>h ρ2 H2 σ2 (e.trans e2) s r
 |rt v st=>exact λρ2 H2 x e2 s r=>h ρ2 H2 x (e.trans e2) s r
 |bk μ st=>exact λρ2 H2 σ2 e2 s r=>h ρ2 H2 σ2 (e.trans e2) s r
 |ct μ st=>exact λρ2 H2 σ2 e2 s r=>h ρ2 H2 σ2 (e.trans e2) s r
 |er c μ st=>obtain⟨C,h1,h2⟩:=h;exact⟨C,h1,λρ2 H2 e2 s=>h2 ρ2 H2 (e.trans e2) s⟩
 |bad=>exact h
def tS(X:Cx)(E:XK)(m:MB):TS:=λD σ H=>∃μ ρ st,RS (wo X) ρ H μ σ/\SR X.K ρ st H/\wS (wo X) E ρ H D (m μ st)
@[reducible] def cz.sb(r:cz α)(μ:Env)(k:α->af->bY):bY:=match r with
 |.ok a st=>k a st
 |.err c st=>.er c μ st
 |.bad=>.bad
theorem Bo{W:Wo}{R1:_d->Hp->α->β->Prop}{m:Env->af->cz α}{k:α->af->bY}{Q':β->Hp->Prop}(μ:Env)(ρ:_d)(st:af)(rs:RS W ρ H μ σ)(sr:SR W.K ρ st H)(h:wS W E ρ H D ((m μ st).sb μ k))(c:∀u st1 ρ1 H1 x,aW ρ H ρ1 H1->SR W.K ρ1 st1 H1->R1 ρ1 H1 u x->wS W E ρ1 H1 D (k u st1)->Q' x H1):tG W E R1 m σ H Q':=by
 refine⟨μ,ρ,st,rs,sr,?_⟩;cases e:m μ st with
 |ok u st1=>
  rw[e]at h;intro ρ1 H1 x e1 cC r1;exact c u st1 ρ1 H1 x e1 cC r1 (wS.mono h e1)
 |err c st1=>rw[e]at h;exact h
 |bad=>rw[e]at h;exact h
def dh:MB:=λμ st=>.nx μ st
def aA(a b:MB):MB:=λμ st=>match a μ st with
 |.nx μ' aC=>b μ' aC
 |r=>r
def fg(m:ME):MB:=λμ st=>(m μ st).sb μ λ_ aC=>.nx μ aC
def bM(m:ME):MB:=λμ st=>(m μ st).sb μ λv aC=>.rt v aC
def mz(t:MT)(a b:MB):MB:=λμ st=>(t μ st).sb μ λk aC=>match k with
 |true=>a μ aC
 |false=>b μ aC
def aM(i:Nat)(m:ME):MB:=λμ st=>(m μ st).sb μ λv aC=>.nx (μ.set i (some v)) aC
def kE(c:Str)(m:MA):MB:=λμ st=>(m μ st).sb μ λvs aC=>if vs.length<=sizeLine then .er c μ aC else .bad
section
variable{s1:Stmt}{rest:List Stmt}{m:ME}{a b:MB}
theorem Pl:l? X [] (tS X E dh):=l?.imp Kp λD σ H⟨μ,ρ,st,rs,sr,h⟩=>h ρ H σ (aW.refl _ _) sr rs
theorem Dn(h1:PS X s1 (tS X E a))(h2:l? X rest (tS X E b)):l? X (s1::rest) (tS X E (aA a b)):=by
 refine l?.imp (GL h1 h2) ?_;rintro D σ H ⟨μ,ρ,st,rs,sr,h⟩;refine⟨μ,ρ,st,rs,sr,?_⟩;unfold aA at h;cases e:a μ st with
 |nx μ' aC=>
  rw[e]at h;intro ρ1 H1 σ1 e1 cC RD;exact⟨μ',ρ1,aC,RD,cC,wS.mono h e1⟩
 |rt v aC=>rw[e]at h;exact h
 |bk μ' aC=>rw[e]at h;exact h
 |ct μ' aC=>rw[e]at h;exact h
 |er c μ' aC=>rw[e]at h;exact h
 |bad=>rw[e]at h;exact h
theorem Hu(h1:PS X s1 (tS X E a)):l? X [s1] (tS X E a):=Kq h1
theorem Lo(he:PE X e (tE X E m))(hs:swapsWith e none pos.line X.env=pure false:=by rfl):PS X (.Expr e pos) (tS X E (fg m)):=by refine PS.imp (Kr he hs) ?_;rintro D σ H ⟨μ,ρ,st,rs,sr,h⟩;exact Bo μ ρ st rs sr h λu st1 ρ1 H1 x e1 cC r1 h1=>h1 ρ1 H1 σ (aW.refl _ _) cC (rs.mono e1)
theorem Pn(he:PE X e (tE X E m)):PS X (.Return (some e) pos) (tS X E (bM m)):=by refine PS.imp (Oa he) ?_;rintro D σ H ⟨μ,ρ,st,rs,sr,h⟩;exact Bo μ ρ st rs sr h λu st1 ρ1 H1 x e1 cC r1 h1=>h1 ρ1 H1 x (aW.refl _ _) cC r1
theorem TC{c:Expr}{sa sb:List Stmt}{t:MT}(hc:PT X c (tT X E t))(ha:l? X sa (tS X E a))(hb:l? X sb (tS X E b)):PS X (.If c sa sb pos) (tS X E (mz t a b)):=by
 refine PS.imp (Sf hc ha hb) ?_;rintro D σ H ⟨μ,ρ,st,rs,sr,h⟩;refine Bo (R1:=RB) μ ρ st rs sr h λu st1 ρ1 H1 x e1 cC r1 h1=>?_;cases r1;cases u with
 |true=>rw[VC rfl];exact⟨μ,ρ1,st1,rs.mono e1,cC,h1⟩
 |false=>rw[VI VQ];exact⟨μ,ρ1,st1,rs.mono e1,cC,h1⟩
theorem Ag(h:tS X E (aM i m) D σ H):Kw (tE X E m) (zO i) D σ H:=by obtain⟨μ,ρ,st,rs,sr,h⟩:=h;exact Bo μ ρ st rs sr h λu st1 ρ1 H1 x e1 cC r1 h1=>h1 ρ1 H1 _ (aW.refl _ _) cC ((rs.mono e1).set i r1)
theorem Po(i:Nat)(hN:X.N.Nodup)(he:PE X e (tE X E m))(hi:X.N[i]?=some x:=by rfl)(hx:Loc X.env.scope x:=by first|exact Or.inl rfl|exact Or.inr rfl)(hs:swapsWith e (some (.Name x pos')) pos.line X.env=pure false:=by rfl)(hf:X.fn x=true\/X.env.scope.names.lookup x=some .local:=by first|exact .inl rfl|exact .inr rfl|assumption):PS X (.Assign [.Name x pos'] e pos) (tS X E (aM i m)):=
 PS.imp (Of hN hi hx he hs hf) λ_ _ _ h=>Ag h
theorem Hv{B BK:String}{bm:_b}{ms:MA}(hX:Raises X E)(hc:X.calm=true)(hm:X.mg x=some (.ref C))(hq:W.excIn X.K C bm newId=true)(FB:ExcBaseFacts B newId BK bm)(hg:Gl X x)(ha:PA X (e₀::es) (tL X E ms))(he:starEach (e₀::es) X.env=(false,eval e₀ X.env)::starEach es X.env:=by rfl)(ko:(backTo cy (starEach es X.env)).any (·.1)=false:=by rfl)(hd:(x==("__debug__":Str))=false:=by decide):
  PS X (.Raise (some (.Call (.Name x np) (e₀::es) [] cy)) none pos) (tS X E (kE x ms)):=by
 refine PS.imp (Hh (E:=E) hX hc hm hq FB hg ha he ko hd) ?_;rintro D σ H ⟨μ,ρ,st,rs,sr,h⟩;refine Bo (R1:=bt X.K) μ ρ st rs sr h λus st1 ρ1 H1 xs e1 cC r1 h1=>?_;by_cases hz:us.length<=sizeLine
 .rw[VC hz]at h1;obtain⟨C',q1,q2⟩:=h1;have e:C'=C:=by have:=q1.symm.trans hm;injection this with this;injection this
  subst e;exact⟨by rw[<-r1.length];exact hz,q2 ρ1 H1 (aW.refl _ _) cC⟩
 .rw[VI hz]at h1;exact h1.elim
end
def g_(np n:Nat)(body:MB):FN:=λus st=>if us.length=np then(match body (us.map some++List.replicate (n-np) none) st with
 |.nx _ aC=>.ok .cH aC
 |.rt v aC=>.ok v aC
 |.er c _ aC=>.err c aC
 |_=>.bad)else .bad
theorem RS.start{W:Wo}{us:List ah}{vs:List V}(r:bt W.K ρ H us vs):RS W ρ H (us.map some++List.replicate (N.length-us.length) none) (L2.start N vs):=by
 have hl:=r.length;refine⟨by simp[L2.start,hl],λi u e=>?_⟩;rcases WQ i us.length with q|q
 .rw[V6 (by rw[Vq];exact q),VM]at e;have e':us[i]?=some u:=by
   cases z:us[i]? with
   |none=>rw[z]at e;cases e
   |some w=>rw[z]at e;exact X5 _ (VR (VR e))
  obtain⟨v,h1,h2⟩:=r.get e';refine⟨v,?_,Dl.of h2⟩;unfold L2.start;rw[V6 (by rw[Vq,<-hl];exact q),VM,h1];rfl
 .rw[V4 (by rw[Vq];exact q)]at e;rw[Wz]at e;split at e
  .cases e
  .cases e
section
variable{K:Z'}{mg:Z!}
theorem Hw{st:Stmt}{fd:FuncData}{body:MB}(F:Gw K x qual st f fd)(S:fN N ps (aY st))
  (h:∀ (fF:_g) (A:_j) (outer:List PySem.Env) (s:_h) (H:Hp) (E:XK),fj k (A.deeper (envOfC qual (aY st) s.heap.objs.size f fF)) ->
   l? (iI (nO P w) P w K mg base N qual (aY st) f fF A outer s H E) (dg st) (tS (iI (nO P w) P w K mg base N qual (aY st) f fF A outer s H E) E body)):
  qm P w K mg base (nO P w) (k+1) f fd ps (Nj ⟨K,mg,[]⟩ (g_ ps.length N.length body)):=by
 refine F.okX S (λvs H Q E q=>?_) (λfF A outer s H vs Q E hr q=>⟨_,h fF A outer s H E hr,?_⟩)
 .obtain⟨us,ρ,st,r,sr,q⟩:=q;by_cases hl:us.length=ps.length
  .rw[<-r.length];exact hl
  .unfold g_ at q;rw[VI hl]at q;exact q.elim
 .obtain⟨us,ρ,aC,r,sr,q⟩:=q;unfold g_ at q;by_cases hl:us.length=ps.length
  .rw[VC hl,<-hl]at q;refine⟨_,ρ,aC,RS.start r,sr,?_⟩;revert q;cases body (us.map some++List.replicate (N.length-us.length) none) aC with
   |nx μ bX=>exact λq ρ' H' σ' e s _=>q ρ' H' .cH e s Rl.w?
   |rt v bX=>exact λq=>q
   |er c μ bX=>exact λq=>q
   |bk μ bX=>exact λq=>q.elim
   |ct μ bX=>exact λq=>q.elim
   |bad=>exact λq=>q.elim
  .rw[VI hl]at q;exact q.elim
end
def Sz(i:Int):Prop:=i.natAbs.log2<1000000
instance (i:Int):Decidable (Sz i):=inferInstanceAs (Decidable (_<_))
theorem Sz.big{i:Int}(h:Sz i):sG 1000001 i:=by show _<_;have h1:i.natAbs<2 ^ (i.natAbs.log2+1):=Z2;exact VO h1 (Ym (by decide) (by have:i.natAbs.log2<1000000:=h;lia))
theorem Sz.of{i:Int}(h:sG k i)(hk:k<=1000000):Sz i:=by
 show i.natAbs.log2<1000000;have h':i.natAbs<2 ^ k:=h;by_cases z:i.natAbs=0
 .rw[z];decide
 .exact VO ((YS z).mpr h') hk
theorem Sz.mul{i j:Int}(h:Sz i)(k:Sz j):De i j:=⟨_,_,h.big,k.big,by decide,by decide⟩
def Dz(i:Int):Prop:=i≠0/\i.natAbs.log2<8000
instance (i:Int):Decidable (Dz i):=inferInstanceAs (Decidable (_/\_))
theorem Dz.ok{i j:Int}(h:Dz j):Df i j:=by refine⟨h.1,?_⟩;show _<_;have h1:j.natAbs<2 ^ (j.natAbs.log2+1):=Z2;exact VO h1 (Ym (by decide) (by have:=h.2;lia))
theorem Dz.of{i:Int}(h0:i≠0)(h:sG k i)(hk:k<=8000):Dz i:=by refine⟨h0,?_⟩;have h':i.natAbs<2 ^ k:=h;exact VO ((YS (by lia)).mpr h') hk
def MulOk(i j:Int):Prop:=(Sz i/\Sz j)\/GQ i j
instance (i j:Int):Decidable (GQ i j):=inferInstanceAs (Decidable (_\/_))
instance (i j:Int):Decidable (MulOk i j):=inferInstanceAs (Decidable (_\/_))
instance (i j:Int):Decidable (EF i j):=inferInstanceAs (Decidable (_/\_/\_))
def xb(k:Nat)(us:List ah):List ah:=(List.replicate k us).flatten
def cU:F2
 |.int i,.int j,st=>.ok (.int (i+j)) st
 |.str a,.str b,st=>if a.length+b.length<=sizeLine then .ok (.str (a++b)) st else .bad
 |.tup us,.tup ws,st=>if us.length+ws.length<=sizeLine then .ok (.tup (us++ws)) st else .bad
 |.loc n,.loc m,st=>match st[n]?,st[m]? with
  |some (.lst us),some (.lst ws)=>if us.length+ws.length<=sizeLine then .ok (.loc st.length) (st++[.lst (us++ws)])else .bad
  |_,_=>.bad
 |_,_,_=>.bad
def sM(g:Int->Int->af->cz ah):F2
 |.int i,.int j,st=>g i j st
 |_,_,_=>.bad
theorem Lp(g:Int->Int->af->cz ah)(u w:ah)(st:af):(∃i j,u=.int i/\w=.int j)\/sM g u w st=.bad:=by
 cases u with
 |int i=>
  cases w with
  |int j=>exact .inl ⟨i,j,rfl,rfl⟩
  |_=>exact .inr rfl
 |_=>exact .inr rfl
theorem jE{g:Int->Int->af->cz ah}{W:Wo}{st:af}{u w:ah}(h:wR W E (Rl W.K) ρ H Q (sM g u w st)):∃i j,u=.int i/\w=.int j/\wR W E (Rl W.K) ρ H Q (g i j st):=by
 rcases Lp g u w st with⟨i,j,rfl,rfl⟩|z
 .exact⟨i,j,rfl,rfl,h⟩
 .rw[z]at h;exact h.elim
def iF:F2:=sM λi j st=>.ok (.int (i-j)) st
def bZ:F2
 |.int i,.int j,st=>if MulOk i j then .ok (.int (i*j)) st else .bad
 |.loc n,.int k,st=>match st[n]? with
  |some (.lst us)=>if -(2 ^ 63)<=k/\k<2 ^ 63/\us.length*k.toNat<=sizeLine then .ok (.loc st.length) (st++[.lst (xb k.toNat us)])else .bad
  |_=>.bad
 |_,_,_=>.bad
def jF:F2:=sM λi j st=>if Dz j then .ok (.int (i.fdiv j)) st else .bad
def dX:F2:=sM λi j st=>if j=0 then .bad else .ok (.int (i.fmod j)) st
def Fb:F2:=sM λi j st=>if EF i j then .ok (.int (i ^ j.toNat)) st else .bad
def ltV:F2:=sM λi j st=>.ok (.bl (decide (i<j))) st
def leV:F2:=sM λi j st=>.ok (.bl (decide (i<=j))) st
def sO:F2:=sM λi j st=>.ok (.bl (decide (j<i))) st
def geV:F2:=sM λi j st=>.ok (.bl (decide (j<=i))) st
theorem eh{W:Wo}{st:af}{i:Int}(sr:SR W.K ρ st H)(h:wR W E (Rl W.K) ρ H Q (.ok (.int i) st)):Q (.int i) H:=h ρ H _ (aW.refl _ _) sr (Rl.mkInt i)
theorem gP{W:Wo}{st:af}{i:Bool}(sr:SR W.K ρ st H)(h:wR W E (Rl W.K) ρ H Q (.ok (.bl i) st)):Q (.bl i) H:=h ρ H _ (aW.refl _ _) sr (Rl.Hn i)
theorem bt.TF{K:Z'}{us:List ah}{xs:List V}(r:bt K ρ H us xs):∀k:Nat,bt K ρ H (xb k us) (List.replicate k xs).flatten
 |0=>bt.nil
 |k+1=>by unfold xb;rw[Vy,Vy,Xa,Xa];exact r.append (bt.TF r k)
theorem Hx:f9 X (binaryOp .Add) (λx y H Q=>∃a b ys,x=.ref a/\y=.ref b/\oC X.K H a []/\oC X.K H b ys/\Q (.ref b) H):=by
 intro ae s σ H x y v u Q I rx ry h;obtain⟨a,b,ys,rfl,rfl,ha,hb,q⟩:=h;cases rx;cases ry;obtain⟨aP,r1,p1,_⟩:=I.tuple ha;obtain⟨eI,r2,p2,_⟩:=I.tuple hb;cases r1;obtain⟨⟨cls,dd,data,sl⟩,ho,hc,n,hd⟩:=id p1;obtain⟨⟨aaA,dd2,data2,SF⟩,Gv,zT,n2,hd2⟩:=id p2;simp only at hc hd zT hd2;subst hc hd zT hd2;exact ZZ ⟨_,ho,rfl⟩ ⟨_,Gv,rfl⟩ Zb ZF Yc X' (X9 _ _)
  (tuple_addW0 a b #[] eI.toArray n n2 dd dd2 sl SF (by simp)) ⟨ho,Gv,⟨.ref b,H,I,rfl,q⟩⟩
theorem Lq:f9 X (binaryOp .Add) (rM (wo X) E cU):=by
 refine f9.imp (f9.or Om (f9.or Bw (f9.or OL (f9.or KU Hx)))) ?_;rintro x y H Q ⟨ρ,st,u,w,sr,r1,r2,h⟩;cases u<;>cases w<;>try exact h.elim
 case int.int i j=>exact .inl ⟨i,j,r1.cP,r2.cP,eh sr h⟩
 case str.str a b=>
  unfold cU at h;dsimp only at h;split at h
  .rename_i hz;exact .inr (.inl ⟨a,b,r1.mj,r2.mj,hz,h ρ H _ (aW.refl _ _) sr (Rl.mkStr _)⟩)
  .exact h.elim
 case tup.tup us ws=>
  unfold cU at h;dsimp only at h;split at h
  .rename_i hz;obtain⟨a,xs,rfl,ha,ra⟩:=r1.i!;obtain⟨b,ys,rfl,hb,rb⟩:=r2.i!;by_cases hx:xs=[]
   .subst hx;have hu:us=[]:=Wh ra.length;subst hu;exact .inr (.inr (.inr (.inr ⟨a,b,ys,rfl,rfl,ha,hb,h ρ H _ (aW.refl _ _) sr r2⟩)))
   .refine .inr (.inr (.inr (.inl ⟨a,b,xs,ys,rfl,rfl,ha,hb,hx,by rw[<-ra.length,<-rb.length];exact hz,λhy=>?_,λhy p hp=>?_⟩)))
    .subst hy;have hw:ws=[]:=Wh rb.length;subst hw;rw[V7]at h;exact h ρ H _ (aW.refl _ _) sr r1
    .have s:=eJ (o:=.tup (xs++ys)) hp;exact h ρ _ _ (aW.same s) (sr.grow s) (Rl.xa b8 (bt.mono (aW.same s) _ _ (ra.append rb)))
  .exact h.elim
 case loc.loc n m=>
  unfold cU at h;dsimp only at h;split at h
  .rename_i us ws e1 e2;split at h
   .rename_i hz;obtain⟨a,rfl,ha⟩:=r1.ff;obtain⟨b,rfl,hb⟩:=r2.ff;obtain⟨xs,h1,q1⟩:=sr.cell n _ a e1 ha;obtain⟨ys,h2,q2⟩:=sr.cell m _ b e2 hb;refine .inr (.inr (.inl ⟨a,b,xs,ys,rfl,rfl,h1,h2,by rw[<-q1.length,<-q2.length];exact hz,λp hp=>?_⟩));obtain⟨k1,k2,k3⟩:=il sr (q1.append q2) hp;exact h _ _ _ k1 k2 k3
   .exact h.elim
  .exact h.elim
theorem Lr:f9 X (binaryOp .Sub) (rM (wo X) E iF):=by refine f9.imp Oo ?_;rintro x y H Q ⟨ρ,st,u,w,sr,r1,r2,h⟩;obtain⟨i,j,rfl,rfl,q⟩:=jE h;exact⟨i,j,r1.cP,r2.cP,eh sr q⟩
theorem Ls:f9 X (binaryOp .Mult) (rM (wo X) E bZ):=by
 refine f9.imp (f9.or K8 (f9.or Oq OM)) ?_;rintro x y H Q ⟨ρ,st,u,w,sr,r1,r2,h⟩;cases u<;>cases w<;>try exact h.elim
 case int.int i j=>
  unfold bZ at h;dsimp only at h;split at h
  .rename_i hz;rcases hz with hz|hz
   .exact .inl ⟨i,j,r1.cP,r2.cP,hz.1.mul hz.2,eh sr h⟩
   .exact .inr (.inl ⟨i,j,r1.cP,r2.cP,hz,eh sr h⟩)
  .exact h.elim
 case loc.int n k=>
  unfold bZ at h;dsimp only at h;split at h
  .rename_i us e1;split at h
   .rename_i hz;obtain⟨a,rfl,ha⟩:=r1.ff;obtain⟨xs,h1,q1⟩:=sr.cell n _ a e1 ha;refine .inr (.inr ⟨a,k,xs,rfl,r2.cP,h1,hz.1,hz.2.1,by rw[<-q1.length];exact hz.2.2,λp hp=>?_⟩);obtain⟨k1,k2,k3⟩:=il sr (q1.TF k.toNat) hp;exact h _ _ _ k1 k2 k3
   .exact h.elim
  .exact h.elim
theorem Hy:f9 X (binaryOp .FloorDiv) (rM (wo X) E jF):=by
 refine f9.imp G_ ?_;rintro x y H Q ⟨ρ,st,u,w,sr,r1,r2,h⟩;obtain⟨i,j,rfl,rfl,h0⟩:=jE h;clear h;have h:=h0;clear h0
 .split at h
  .rename_i hz;exact⟨i,j,r1.cP,r2.cP,hz.ok,eh sr h⟩
  .exact h.elim
theorem Lu:f9 X (binaryOp .Mod) (rM (wo X) E dX):=by
 refine f9.imp KC ?_;rintro x y H Q ⟨ρ,st,u,w,sr,r1,r2,h⟩;obtain⟨i,j,rfl,rfl,h0⟩:=jE h;clear h;have h:=h0;clear h0
 .split at h
  .exact h.elim
  .rename_i hz;exact⟨i,j,r1.cP,r2.cP,hz,eh sr h⟩
theorem Lw:f9 X (binaryOp .Pow) (rM (wo X) E Fb):=by
 refine f9.imp Ot ?_;rintro x y H Q ⟨ρ,st,u,w,sr,r1,r2,h⟩;obtain⟨i,j,rfl,rfl,h0⟩:=jE h;clear h;have h:=h0;clear h0
 .split at h
  .rename_i hz;exact⟨i,j,r1.cP,r2.cP,hz,eh sr h⟩
  .exact h.elim
theorem Hz:f9 X (compareOp .Lt) (rM (wo X) E ltV):=by refine f9.imp Sw ?_;rintro x y H Q ⟨ρ,st,u,w,sr,r1,r2,h⟩;obtain⟨i,j,rfl,rfl,q⟩:=jE h;exact⟨i,j,r1.cP,r2.cP,gP sr q⟩
theorem HA:f9 X (compareOp .Gt) (rM (wo X) E sO):=by refine f9.imp Sx ?_;rintro x y H Q ⟨ρ,st,u,w,sr,r1,r2,h⟩;obtain⟨i,j,rfl,rfl,q⟩:=jE h;exact⟨i,j,r1.cP,r2.cP,gP sr q⟩
def iK(m:ME):ME:=λμ st=>(m μ st).bind λv aC=>match v with
 |.int i=>.ok (.int (-i)) aC
 |_=>.bad
theorem Pp{a:Expr}{m:ME}(h:PE X a (tE X E m)):PE X (.UnaryOp .USub a pos) (tE X E (iK m)):=by
 refine PE.imp (Ss Ou h) ?_;rintro σ H Q ⟨μ,ρ,st,rs,sr,h⟩;refine go μ ρ st rs sr h λu st1 ρ1 H1 x e1 cC r1 h1=>?_;cases u with
 |int i=>exact⟨i,r1.cP,eh cC h1⟩
 |_=>exact h1.elim
def flat:ah->Bool
 |.cH=>true
 |.bl _=>true
 |.int _=>true
 |.str _=>true
 |_=>false
def Dp:ah->ah->Bool
 |.cH,.cH=>true
 |.bl a,.bl b=>a==b
 |.bl a,.int b=>(if a then 1 else 0)==b
 |.int a,.bl b=>a==(if b then 1 else 0)
 |.int a,.int b=>a==b
 |.str a,.str b=>a==b
 |_,_=>false
def ao(st:af)(n:Nat):Option (List ah):=match st[n]? with
 |some (.lst us)=>some us
 |some (.O_ us)=>some us
 |some (.mod us)=>some us
 |_=>none
inductive Vw where
 |lst (us:List ah)|tup (us:List ah)|tM
def vw(st:af):ah->Option Vw
 |.tup us=>some (.tup us)
 |.loc n=>(ao st n).map .lst
 |.cH=>some .tM
 |.bl _=>some .tM
 |.int _=>some .tM
 |.str _=>some .tM
 |_=>none
def mE(f:ah->ah->Option Bool):List ah->List ah->Option Bool
 |[],[]=>some true
 |x::xs,y::ys=>match f x y,mE f xs ys with
  |some a,some b=>some (a&&b)
  |_,_=>none
 |[],_::_=>some false
 |_::_,[]=>some false
def pj:Nat->af->ah->ah->Option Bool
 |0,_,_,_=>none
 |n+1,st,u,w=>match vw st u,vw st w with
  |some (.tup us),some (.tup ws)=>mE (pj n st) us ws
  |some (.lst us),some (.lst ws)=>mE (pj n st) us ws
  |some .tM,some .tM=>some (Dp u w)
  |some _,some _=>some false
  |_,_=>none
theorem uE{f:ah->ah->Option Bool}:∀{us ws:List ah}{b:Bool},mE f us ws=some b->us.length≠ws.length->b=false
 |[],[],_,_,h=>absurd rfl h
 |[],_::_,b,e,_=>by injection e with e;exact e.symm
 |_::_,[],b,e,_=>by injection e with e;exact e.symm
 |x::xs,y::ys,b,e,h=>by
  unfold mE at e;split at e
  .rename_i a c h1 h2;injection e with e;rw[<-e,uE h2 (λz=>h (by simp[z])),Yp]
  .cases e
theorem Dq{f:ah->ah->Option Bool}:∀{us ws:List ah}{b:Bool},mE f us ws=some b->∀(j:Nat)(u w:ah),us[j]?=some u->ws[j]?=some w->∃c,f u w=some c
 |[],_,_,_,j,u,w,h1,_=>by cases h1
 |_::_,[],_,_,j,u,w,_,h2=>by cases h2
 |x::xs,y::ys,b,e,j,u,w,h1,h2=>by
  unfold mE at e;split at e
  .rename_i a c q1 q2;cases j with
   |zero=>cases h1;cases h2;exact⟨a,q1⟩
   |succ j=>exact Dq q2 j u w h1 h2
  .cases e
def eqJ(f:ah->ah->Option Bool)(us ws:List ah)(j:Nat):Bool:=match us[j]?,ws[j]? with
 |some u,some w=>(f u w).getD true
 |_,_=>true
theorem uF{f:ah->ah->Option Bool}:∀{us ws:List ah}{b:Bool},mE f us ws=some b->us.length=ws.length->(List.range us.length).all (eqJ f us ws)=b
 |[],[],b,e,_=>by injection e
 |[],_::_,_,_,h=>by simp at h
 |_::_,[],_,_,h=>by simp at h
 |x::xs,y::ys,b,e,h=>by
  have h':xs.length=ys.length:=by simpa using h
  unfold mE at e;split at e
  .rename_i a c q1 q2;injection e with e;rw[Vm,List.range_succ_eq_map,Xt,List.all_map,<-e,<-uF q2 h'];congr 1;show(f x y).getD true=a;rw[q1];rfl
  .cases e
section
variable{st:af}
theorem bw(sr:SR X.K ρ st H){n:Nat}{us:List ah}{a:_i}(h:ao st n=some us)(ha:ρ[n]?=some a):∃vs,nN X.K H a vs/\bt X.K ρ H us vs:=by
 unfold ao at h;split at h
 .rename_i ws e;cases h;obtain⟨vs,h1,h2⟩:=sr.cell n _ a e ha;exact⟨vs,nN.of h1,h2⟩
 .rename_i ws e;cases h;obtain⟨o,vs,h1,h2⟩:=sr.cell n _ a e ha;exact⟨vs,.inl (.inr ⟨o,h1⟩),h2⟩
 .rename_i ws e;cases h;obtain⟨vs,h1,h2⟩:=sr.cell n _ a e ha;exact⟨vs,.inr h1,h2⟩
 .cases h
theorem Dr(I:aX X ae σ H s)(sr:SR X.K ρ st H):∀(n:Nat)(u w:ah)(x:V)(b:Bool),Rl X.K ρ H u x->Rl X.K ρ H w x->pj n st u w=some b->b=true
 |0,_,_,_,_,_,_,e=>by cases e
 |n+1,u,w,x,b,r1,r2,e=>by
  have lst:∀(us ws:List ah)(vs:List V)(b:Bool),bt X.K ρ H us vs->bt X.K ρ H ws vs->mE (pj n st) us ws=some b->b=true:=by
   intro us
   induction us with
   |nil=>
    intro ws vs b h1 h2 e;have:=h1.gg;subst this;have hw:ws=[]:=Wh h2.length;subst hw;injection e with e;exact e.symm
   |cons u us ih=>
    intro ws vs b h1 h2 e;obtain⟨v,r,rfl,q1,q2⟩:=h1.cN;cases ws with
    |nil=>have:=h2.gg;cases this
    |cons w ws=>
     obtain⟨v',r',e',q3,q4⟩:=h2.cN;cases e';unfold mE at e;split at e
     .rename_i a c z1 z2;injection e with e;rw[<-e,Dr I sr n u w v a q1 q3 z1,ih ws r c q2 q4 z2];rfl
     .cases e
  unfold pj at e;cases u<;>cases w<;>dsimp only[vw]at e<;>try (cases e;done)
  all_goals first
   |(have z1:=Rl.cP r1;subst z1;have z2:=Rl.cP r2;cases z2;injection e with e;rw[<-e];exact Xz _)
   |(have z1:=Rl.v_ r1;subst z1;have z2:=Rl.v_ r2;cases z2;injection e with e;rw[<-e];exact Xz _)
   |(have z1:=Rl.mj r1;subst z1;have z2:=Rl.mj r2;cases z2;injection e with e;rw[<-e];exact Xz _)
   |(have z1:=Rl.mm r1;subst z1;injection e with e;exact e.symm)
   |skip
  case tup.tup us ws=>
   obtain⟨a,vs,rfl,ha,ra⟩:=r1.i!;obtain⟨a',Pq,ea,hb,rb⟩:=r2.i!;cases ea;have:=I.qj ha hb;subst this;exact lst us ws vs b ra rb e
  case loc.loc i j=>
   obtain⟨a,rfl,ha⟩:=r1.ff;obtain⟨a',ea,hb⟩:=r2.ff;cases ea;cases z:ao st i with
   |none=>rw[z]at e;cases e
   |some us=>
    cases z2:ao st j with
    |none=>rw[z,z2]at e;cases e
    |some ws=>
     rw[z,z2]at e;obtain⟨vs,s1,rv⟩:=bw sr z ha;obtain⟨Pq,s2,rv'⟩:=bw sr z2 hb;have:=I.pA s1 s2;subst this;exact lst us ws vs b rv rv' e
  all_goals (exfalso;first
   |(have z1:=Rl.cP r1;subst z1;first|(have z2:=Rl.v_ r2;cases z2;done)|(have z2:=Rl.mj r2;cases z2;done)|(have z2:=Rl.mm r2;cases z2;done)|(obtain⟨_,_,z2,_⟩:=r2.i!;cases z2;done)|(obtain⟨_,z2,_⟩:=r2.ff;cases z2;done))
   |(have z1:=Rl.v_ r1;subst z1;first|(have z2:=Rl.cP r2;cases z2;done)|(have z2:=Rl.mj r2;cases z2;done)|(have z2:=Rl.mm r2;cases z2;done)|(obtain⟨_,_,z2,_⟩:=r2.i!;cases z2;done)|(obtain⟨_,z2,_⟩:=r2.ff;cases z2;done))
   |(have z1:=Rl.mj r1;subst z1;first|(have z2:=Rl.cP r2;cases z2;done)|(have z2:=Rl.v_ r2;cases z2;done)|(have z2:=Rl.mm r2;cases z2;done)|(obtain⟨_,_,z2,_⟩:=r2.i!;cases z2;done)|(obtain⟨_,z2,_⟩:=r2.ff;cases z2;done))
   |(have z1:=Rl.mm r1;subst z1;first|(have z2:=Rl.cP r2;cases z2;done)|(have z2:=Rl.v_ r2;cases z2;done)|(have z2:=Rl.mj r2;cases z2;done)|(obtain⟨_,_,z2,_⟩:=r2.i!;cases z2;done)|(obtain⟨_,z2,_⟩:=r2.ff;cases z2;done))
   |(obtain⟨_,_,z1,_⟩:=r1.i!;subst z1;first|(have z2:=Rl.cP r2;cases z2;done)|(have z2:=Rl.v_ r2;cases z2;done)|(have z2:=Rl.mj r2;cases z2;done)|(have z2:=Rl.mm r2;cases z2;done))
   |(obtain⟨_,z1,_⟩:=r1.ff;subst z1;first|(have z2:=Rl.cP r2;cases z2;done)|(have z2:=Rl.v_ r2;cases z2;done)|(have z2:=Rl.mj r2;cases z2;done)|(have z2:=Rl.mm r2;cases z2;done))
   |skip)
  case tup.loc us j=>
   obtain⟨a,vs,rfl,ha,ra⟩:=r1.i!;obtain⟨a',ea,hb⟩:=r2.ff;cases ea;cases z:ao st j with
   |none=>rw[z]at e;cases e
   |some us'=>
    obtain⟨ws,hw,_⟩:=bw sr z hb;obtain⟨_,_,p1,_⟩:=I.tuple ha;obtain⟨_,_,p2,_⟩:=I.list hw;exact Z0 p2.isList p1 rfl
  case loc.tup i us=>
   obtain⟨a,rfl,ha⟩:=r1.ff;obtain⟨a',vs,ea,hb,rb⟩:=r2.i!;cases ea;cases z:ao st i with
   |none=>rw[z]at e;cases e
   |some us'=>
    obtain⟨ws,hw,_⟩:=bw sr z ha;obtain⟨_,_,p1,_⟩:=I.tuple hb;obtain⟨_,_,p2,_⟩:=I.list hw;exact Z0 p2.isList p1 rfl
  all_goals (cases z:ao st _<;>rw[z]at e<;>cases e)
def HB(X:Cx)(ρ:_d)(H:Hp)(s:_h):Vw->ah->_g->Prop
 |.tup us,_,v=>∃a aP vs,v=.ref a/\s.heap.IsTuple a (List.toArray aP)/\bo vs aP/\bt X.K ρ H us vs
 |.lst us,_,v=>∃a aP vs,v=.ref a/\s.heap.IsList a (List.toArray aP)/\bo vs aP/\bt X.K ρ H us vs
 |.tM,u,v=>(u=.cH/\v=.none)\/(∃b,u=.bl b/\v=.bool b)\/(∃i t,u=.int i/\v=.int i t)\/(∃z t,u=.str z/\v=.str z t)
theorem seen(I:aX X ae σ H s)(sr:SR X.K ρ st H){u:ah}{x:V}{v:_g}{k:Vw}(r:Rl X.K ρ H u x)(q:bJ x v)(h:vw st u=some k):HB X ρ H s k u v:=by
 cases u with
 |cH=>cases h;have:=r.mm;subst this;exact .inl ⟨rfl,q⟩
 |bl b=>cases h;have:=r.v_;subst this;exact .inr (.inl ⟨b,rfl,q⟩)
 |int i=>cases h;have:=r.cP;subst this;obtain⟨t,q⟩:=q;exact .inr (.inr (.inl ⟨i,t,rfl,q⟩))
 |str z=>cases h;have:=r.mj;subst this;obtain⟨t,q⟩:=q;exact .inr (.inr (.inr ⟨z,t,rfl,q⟩))
 |tup us=>
  cases h;obtain⟨a,vs,rfl,ha,ra⟩:=r.i!;obtain⟨aP,r1,p1,_⟩:=I.tuple ha;exact⟨a,aP,vs,q,p1,r1,ra⟩
 |loc n=>
  obtain⟨a,rfl,ha⟩:=r.ff;cases z:ao st n with
  |none=>simp only[vw,z]at h;cases h
  |some us=>
   simp only[vw,z]at h;cases h;obtain⟨vs,hs,rv⟩:=bw sr z ha;obtain⟨aP,r1,p1,_⟩:=I.list hs;exact⟨a,aP,vs,q,p1.isList,r1,rv⟩
 |exc c=>cases h
 |fn k c=>cases h
 |mt us=>cases h
theorem HC{f:ah->ah->Option Bool}{us ws:List ah}{xs ys:List V}{eI:_b}{b:Bool}(e:mE f us ws=some b)(ra:bt X.K ρ H us xs)(rb:bt X.K ρ H ws ys)(va:bo xs aP)(vb:bo ys eI)(ih:∀u w x y vu vw c,Rl X.K ρ H u x->bJ x vu->Rl X.K ρ H w y->bJ y vw->f u w=some c->SeqAt.EqAt A s vu vw c):
  ∀j(h1:j<aP.toArray.size)(h2:j<eI.toArray.size),SeqAt.EqAt A s aP.toArray[j] eI.toArray[j] (eqJ f us ws j):=by
 intro j h1 h2;have l1:=va.length;have l2:=vb.length;have l3:=ra.length;have l4:=rb.length;simp only[VG]at h1 h2;have e1:us[j]?=some us[j]:=Vp (by lia);have e2:ws[j]?=some ws[j]:=Vp (by lia);obtain⟨x,hx,rx⟩:=ra.get e1;obtain⟨y,hy,ry⟩:=rb.get e2;obtain⟨u,hu,ru⟩:=va.get hx;obtain⟨v,hv,rv⟩:=vb.get hy;have q1:aP.toArray[j]=u:=by obtain⟨_,e⟩:=V!.mp hu;simpa using e
 have q2:eI.toArray[j]=v:=by obtain⟨_,e⟩:=V!.mp hv;simpa using e
 obtain⟨c,hc⟩:=Dq e j _ _ e1 e2;rw[q1,q2];unfold eqJ;rw[e1,e2];dsimp only;rw[hc];exact ih _ _ _ _ _ _ c rx ru ry rv hc
theorem in1_units(A:_j):A.in1.units=A.units+1:=by rfl
theorem Pr(I:aX X ae σ H s)(sr:SR X.K ρ st H)(n:Nat)(ih:∀u w x y vu vw c,Rl X.K ρ H u x->bJ x vu->Rl X.K ρ H w y->bJ y vw->pj n st u w=some c->SeqAt.EqAt A.in1 s vu vw c)(hu:A.units<cLine){u w:ah}{x y:V}{v1 v2:_g}{b:Bool}(r1:Rl X.K ρ H u x)(q1:bJ x v1)(r2:Rl X.K ρ H w y)(q2:bJ y v2)(e:pj (n+1) st u w=some b):SeqAt.RcAt A s v1 v2 b/\SeqAt.RcNeAt A s v1 v2 (!b):=by
 unfold pj at e;cases z1:vw st u with
 |none=>rw[z1]at e;cases e
 |some k1=>
  cases z2:vw st w with
  |none=>rw[z1,z2]at e;cases k1<;>cases e
  |some k2=>
   rw[z1,z2]at e;have s1:=seen I sr r1 q1 z1;have s2:=seen I sr r2 q2 z2;cases k1 with
   |tup us=>
    obtain⟨a,aP,xs,rfl,p1,va,ra⟩:=s1;cases k2 with
    |tup ws=>
     obtain⟨a2,eI,ys,rfl,p2,vb,rb⟩:=s2;have el:=HC e ra rb va vb ih;have l1:=va.length;have l2:=vb.length;have l3:=ra.length;have l4:=rb.length;have hb:((List.range (min aP.toArray.size eI.toArray.size)).all (eqJ (pj n st) us ws)&&aP.toArray.size==eI.toArray.size)=b:=by
      by_cases hl:us.length=ws.length
      .rw[show min aP.toArray.size eI.toArray.size=us.length by simp only[VG];lia,uF e hl,show(aP.toArray.size==eI.toArray.size)=true by simp only[VG,WO];lia,Bool.and_true]
      .rw[show(aP.toArray.size==eI.toArray.size)=false by simp only[VG,WD];lia,Yp];exact(uE e hl).symm
     have g1:=SeqAt.RcAt.tuples p1 p2 hu el;have g2:=SeqAt.RcNeAt.tuples p1 p2 hu el;rw[hb]at g1 g2;exact⟨g1,g2⟩
    |lst ws=>
     obtain⟨a2,eI,ys,rfl,p2,vb,rb⟩:=s2;cases e;exact⟨SeqAt.RcAt.tuple_list p1 p2 hu,SeqAt.RcNeAt.tuple_list p1 p2 hu⟩
    |tM=>
     cases e;rcases s2 with⟨_,rfl⟩|⟨k,_,rfl⟩|⟨k,t,_,rfl⟩|⟨k,t,_,rfl⟩
     .exact⟨SeqAt.RcAt.tuple_none p1 hu,SeqAt.RcNeAt.tuple_none p1 hu⟩
     .exact⟨SeqAt.RcAt.tuple_bool _ p1 hu,SeqAt.RcNeAt.tuple_bool _ p1 hu⟩
     .exact⟨SeqAt.RcAt.tuple_int _ _ p1 hu,SeqAt.RcNeAt.tuple_int _ _ p1 hu⟩
     .exact⟨SeqAt.RcAt.tuple_str _ _ p1 hu,SeqAt.RcNeAt.tuple_str _ _ p1 hu⟩
   |lst us=>
    obtain⟨a,aP,xs,rfl,p1,va,ra⟩:=s1;cases k2 with
    |tup ws=>
     obtain⟨a2,eI,ys,rfl,p2,vb,rb⟩:=s2;cases e;exact⟨SeqAt.RcAt.list_tuple p1 p2 hu,SeqAt.RcNeAt.list_tuple p1 p2 hu⟩
    |lst ws=>
     obtain⟨a2,eI,ys,rfl,p2,vb,rb⟩:=s2;have l1:=va.length;have l2:=vb.length;have l3:=ra.length;have l4:=rb.length;by_cases hl:us.length=ws.length
     .have hs:aP.toArray.size=eI.toArray.size:=by simp only[VG];lia
      have el:=HC e ra rb va vb ih;have g1:=SeqAt.RcAt.lists p1 p2 hs hu el;have g2:=SeqAt.RcNeAt.lists p1 p2 hs hu el;rw[show aP.toArray.size=us.length by simp only[VG];lia,uF e hl]at g1 g2;exact⟨g1,g2⟩
     .have hs:(aP.toArray.size !=eI.toArray.size)=true:=by simp only[VG,bne_iff_ne];lia
      rw[uE e hl];exact⟨ZH p1 p2 hs hu,SeqAt.RcNeAt.lists_lengths p1 p2 hs hu⟩
    |tM=>
     cases e;rcases s2 with⟨_,rfl⟩|⟨k,_,rfl⟩|⟨k,t,_,rfl⟩|⟨k,t,_,rfl⟩
     .exact⟨SeqAt.RcAt.list_none p1 hu,SeqAt.RcNeAt.list_none p1 hu⟩
     .exact⟨SeqAt.RcAt.list_bool _ p1 hu,SeqAt.RcNeAt.list_bool _ p1 hu⟩
     .exact⟨SeqAt.RcAt.list_int _ _ p1 hu,SeqAt.RcNeAt.list_int _ _ p1 hu⟩
     .exact⟨SeqAt.RcAt.list_str _ _ p1 hu,SeqAt.RcNeAt.list_str _ _ p1 hu⟩
   |tM=>
    cases k2 with
    |tup ws=>
     obtain⟨a2,eI,ys,rfl,p2,vb,rb⟩:=s2;cases e;rcases s1 with⟨_,rfl⟩|⟨k,_,rfl⟩|⟨k,t,_,rfl⟩|⟨k,t,_,rfl⟩
     .exact⟨SeqAt.RcAt.none_tuple p2 hu,SeqAt.RcNeAt.none_tuple p2 hu⟩
     .exact⟨SeqAt.RcAt.bool_tuple _ p2 hu,SeqAt.RcNeAt.bool_tuple _ p2 hu⟩
     .exact⟨SeqAt.RcAt.int_tuple _ _ p2 hu,SeqAt.RcNeAt.int_tuple _ _ p2 hu⟩
     .exact⟨SeqAt.RcAt.str_tuple _ _ p2 hu,SeqAt.RcNeAt.str_tuple _ _ p2 hu⟩
    |lst ws=>
     obtain⟨a2,eI,ys,rfl,p2,vb,rb⟩:=s2;cases e;rcases s1 with⟨_,rfl⟩|⟨k,_,rfl⟩|⟨k,t,_,rfl⟩|⟨k,t,_,rfl⟩
     .exact⟨SeqAt.RcAt.none_list p2 hu,SeqAt.RcNeAt.none_list p2 hu⟩
     .exact⟨SeqAt.RcAt.bool_list _ p2 hu,SeqAt.RcNeAt.bool_list _ p2 hu⟩
     .exact⟨SeqAt.RcAt.int_list _ _ p2 hu,SeqAt.RcNeAt.int_list _ _ p2 hu⟩
     .exact⟨SeqAt.RcAt.str_list _ _ p2 hu,SeqAt.RcNeAt.str_list _ _ p2 hu⟩
    |tM=>
     injection e with e;subst e;rcases s1 with⟨rfl,rfl⟩|⟨i,rfl,rfl⟩|⟨i,t,rfl,rfl⟩|⟨i,t,rfl,rfl⟩<;>rcases s2 with⟨rfl,rfl⟩|⟨j,rfl,rfl⟩|⟨j,t',rfl,rfl⟩|⟨j,t',rfl,rfl⟩
     .exact⟨SeqAt.RcAt.none_none,SeqAt.RcNeAt.none_none⟩
     .exact⟨SeqAt.RcAt.none_bool _,SeqAt.RcNeAt.none_bool _⟩
     .exact⟨SeqAt.RcAt.none_int _ _,SeqAt.RcNeAt.none_int _ _⟩
     .exact⟨SeqAt.RcAt.none_str _ _,SeqAt.RcNeAt.none_str _ _⟩
     .exact⟨SeqAt.RcAt.bool_none _,SeqAt.RcNeAt.bool_none _⟩
     .exact⟨SeqAt.RcAt.bool_bool _ _,SeqAt.RcNeAt.bool_bool _ _⟩
     .exact⟨SeqAt.RcAt.bool_int _ _ _,SeqAt.RcNeAt.bool_int _ _ _⟩
     .exact⟨SeqAt.RcAt.bool_str _ _ _,SeqAt.RcNeAt.bool_str _ _ _⟩
     .exact⟨SeqAt.RcAt.int_none _ _,SeqAt.RcNeAt.int_none _ _⟩
     .exact⟨SeqAt.RcAt.int_bool _ _ _,SeqAt.RcNeAt.int_bool _ _ _⟩
     .exact⟨SeqAt.RcAt.int_int _ _ _ _,SeqAt.RcNeAt.int_int _ _ _ _⟩
     .exact⟨SeqAt.RcAt.int_str _ _ _ _,SeqAt.RcNeAt.int_str _ _ _ _⟩
     .exact⟨SeqAt.RcAt.str_none _ _,SeqAt.RcNeAt.str_none _ _⟩
     .exact⟨SeqAt.RcAt.str_bool _ _ _,SeqAt.RcNeAt.str_bool _ _ _⟩
     .exact⟨SeqAt.RcAt.str_int _ _ _ _,SeqAt.RcNeAt.str_int _ _ _ _⟩
     .exact⟨SeqAt.RcAt.str_str _ _ _ _,SeqAt.RcNeAt.str_str _ _ _ _⟩
theorem Lx{u w:ah}{v1 v2:_g}(s1:HB X ρ H s .tM u v1)(s2:HB X ρ H s .tM w v2):SeqAt.EqAt A s v1 v2 (Dp u w):=by
 rcases s1 with⟨rfl,rfl⟩|⟨i,rfl,rfl⟩|⟨i,t,rfl,rfl⟩|⟨i,t,rfl,rfl⟩<;>rcases s2 with⟨rfl,rfl⟩|⟨j,rfl,rfl⟩|⟨j,t',rfl,rfl⟩|⟨j,t',rfl,rfl⟩
 .exact Yx _
 .exact SeqAt.EqAt.none_bool _
 .exact SeqAt.EqAt.none_int _ _
 .exact SeqAt.EqAt.none_str _ _
 .exact SeqAt.EqAt.bool_none _
 .exact SeqAt.EqAt.bool_bool _ _
 .exact SeqAt.EqAt.bool_int _ _ _
 .exact SeqAt.EqAt.bool_str _ _ _
 .exact SeqAt.EqAt.int_none _ _
 .exact SeqAt.EqAt.int_bool _ _ _
 .exact SeqAt.EqAt.int_int _ _ _ _
 .exact YX _ _ _ _
 .exact SeqAt.EqAt.str_none _ _
 .exact SeqAt.EqAt.str_bool _ _ _
 .exact YW _ _ _ _
 .exact SeqAt.EqAt.str_str _ _ _ _
theorem BP(I:aX X ae σ H s)(sr:SR X.K ρ st H):∀(n:Nat)(A:_j),A.units+n<cLine->∀(u w:ah)(x y:V)(v1 v2:_g)(b:Bool),Rl X.K ρ H u x->bJ x v1->Rl X.K ρ H w y->bJ y v2->pj n st u w=some b->SeqAt.EqAt A s v1 v2 b
 |0,_,_,_,_,_,_,_,_,_,_,_,_,_,e=>by cases e
 |n+1,A,hu,u,w,x,y,v1,v2,b,r1,q1,r2,q2,e=>by
  have rc:=(Pr I sr n (λu w x y vu vw c a1 a2 a3 a4 a5=>BP I sr n A.in1 (by rw[in1_units];lia) u w x y vu vw c a1 a2 a3 a4 a5) (by lia) r1 q1 r2 q2 e).1;have refs:∀a a2,v1=.ref a->v2=.ref a2->SeqAt.EqAt A s v1 v2 b:=by
   intro a a2 e1 e2;subst e1 e2;by_cases hn:a=a2
   .subst hn;have hx:x=y:=q1.inj q2;subst hx;rw[Dr I sr (n+1) u w x b r1 r2 e];exact Yx _
   .exact SeqAt.EqAt.of_refs hn rc
  cases z1:vw st u with
  |none=>unfold pj at e;rw[z1]at e;cases e
  |some k1=>
   cases z2:vw st w with
   |none=>unfold pj at e;rw[z1,z2]at e;cases k1<;>cases e
   |some k2=>
    have s1:=seen I sr r1 q1 z1;have s2:=seen I sr r2 q2 z2;unfold pj at e;rw[z1,z2]at e;cases k1 with
    |tup us=>
     obtain⟨a,aP,xs,rfl,p1,va,ra⟩:=s1;cases k2 with
     |tup ws=>obtain⟨a2,eI,ys,rfl,p2,vb,rb⟩:=s2;exact refs a a2 rfl rfl
     |lst ws=>obtain⟨a2,eI,ys,rfl,p2,vb,rb⟩:=s2;exact refs a a2 rfl rfl
     |tM=>
      cases e;rcases s2 with⟨_,rfl⟩|⟨k,_,rfl⟩|⟨k,t,_,rfl⟩|⟨k,t,_,rfl⟩
      .exact SeqAt.EqAt.tuple_none p1 (by lia)
      .exact SeqAt.EqAt.tuple_bool _ p1 (by lia)
      .exact SeqAt.EqAt.tuple_int _ _ p1 (by lia)
      .exact SeqAt.EqAt.tuple_str _ _ p1 (by lia)
    |lst us=>
     obtain⟨a,aP,xs,rfl,p1,va,ra⟩:=s1;cases k2 with
     |tup ws=>obtain⟨a2,eI,ys,rfl,p2,vb,rb⟩:=s2;exact refs a a2 rfl rfl
     |lst ws=>obtain⟨a2,eI,ys,rfl,p2,vb,rb⟩:=s2;exact refs a a2 rfl rfl
     |tM=>
      cases e;rcases s2 with⟨_,rfl⟩|⟨k,_,rfl⟩|⟨k,t,_,rfl⟩|⟨k,t,_,rfl⟩
      .exact SeqAt.EqAt.list_none p1 (by lia)
      .exact SeqAt.EqAt.list_bool _ p1 (by lia)
      .exact SeqAt.EqAt.list_int _ _ p1 (by lia)
      .exact SeqAt.EqAt.list_str _ _ p1 (by lia)
    |tM=>
     cases k2 with
     |tup ws=>
      obtain⟨a2,eI,ys,rfl,p2,vb,rb⟩:=s2;cases e;rcases s1 with⟨_,rfl⟩|⟨k,_,rfl⟩|⟨k,t,_,rfl⟩|⟨k,t,_,rfl⟩
      .exact SeqAt.EqAt.none_tuple p2 (by lia)
      .exact SeqAt.EqAt.bool_tuple _ p2 (by lia)
      .exact SeqAt.EqAt.int_tuple _ _ p2 (by lia)
      .exact SeqAt.EqAt.str_tuple _ _ p2 (by lia)
     |lst ws=>
      obtain⟨a2,eI,ys,rfl,p2,vb,rb⟩:=s2;cases e;rcases s1 with⟨_,rfl⟩|⟨k,_,rfl⟩|⟨k,t,_,rfl⟩|⟨k,t,_,rfl⟩
      .exact SeqAt.EqAt.none_list p2 (by lia)
      .exact SeqAt.EqAt.bool_list _ p2 (by lia)
      .exact SeqAt.EqAt.int_list _ _ p2 (by lia)
      .exact SeqAt.EqAt.str_list _ _ p2 (by lia)
     |tM=>
      injection e with e;subst e;exact Lx s1 s2
def jC:F2:=λu w st=>match pj 16 st u w with
 |some b=>.ok (.bl b) st
 |none=>.bad
def pk:F2:=λu w st=>match pj 16 st u w with
 |some b=>.ok (.bl (!b)) st
 |none=>.bad
theorem HD(hu:X.A.units+64<cLine):f9 X (compareOp .Eq) (rM (wo X) E jC):=by
 intro ae s σ H x y v u Q I rx ry h;obtain⟨ρ,st,u1,w1,sr,r1,r2,h⟩:=h;unfold jC at h;split at h
 .rename_i b e;exact(Pr I sr 15 (BP I sr 15 X.A.in1 (by rw[in1_units];lia)) (by lia) r1 rx r2 ry e).1 X.prog X.w X.xe (EP X ae σ Q) ⟨.bl b,H,I,rfl,gP sr h⟩
 .exact h.elim
theorem HE(hu:X.A.units+64<cLine):f9 X (compareOp .NotEq) (rM (wo X) E pk):=by
 intro ae s σ H x y v u Q I rx ry h;obtain⟨ρ,st,u1,w1,sr,r1,r2,h⟩:=h;unfold pk at h;split at h
 .rename_i b e;exact(Pr I sr 15 (BP I sr 15 X.A.in1 (by rw[in1_units];lia)) (by lia) r1 rx r2 ry e).2 X.prog X.w X.xe (EP X ae σ Q) ⟨.bl (!b),H,I,rfl,gP sr h⟩
 .exact h.elim
def Nk(st:af):ah->Option (List ah)
 |.tup us=>some us
 |.mt us=>some us
 |.loc n=>ao st n
 |_=>none
def Pt(neg:Bool):F2:=λu w st=>match Nk st w with
 |some us=>if flat u=true/\us.all flat=true then .ok (.bl (if neg then !us.any (λy=>Dp y u)else us.any (λy=>Dp y u))) st else .bad
 |none=>.bad
theorem je{K:Z'}{u w:ah}{x y:V}(f1:flat u=true)(f2:flat w=true)(r1:Rl K ρ H u x)(r2:Rl K ρ H w y):iz x=true/\iz y=true/\x? x y=Dp u w:=by
 cases u<;>(try cases f1)<;>cases w<;>(try cases f2)<;>
  (first|(have z1:=Rl.cP r1;subst z1)|(have z1:=Rl.v_ r1;subst z1)|(have z1:=Rl.mj r1;subst z1)|(have z1:=Rl.mm r1;subst z1))<;>
  (first|(have z2:=Rl.cP r2;subst z2)|(have z2:=Rl.v_ r2;subst z2)|(have z2:=Rl.mj r2;subst z2)|(have z2:=Rl.mm r2;subst z2))<;>exact⟨rfl,rfl,rfl⟩
theorem pK{K:Z'}{u:ah}{x:V}(f:flat u=true)(r:Rl K ρ H u x):∀{us:List ah}{vs:List V},us.all flat=true->bt K ρ H us vs->vs.all iz=true/\inV x vs=us.any λy=>Dp y u
 |[],vs,_,h=>by rw[h.gg];exact⟨rfl,rfl⟩
 |w::us,vs,hf,h=>by obtain⟨v,r',rfl,h2,h3⟩:=h.cN;rw[Xt,Wy]at hf;obtain⟨a,b,c⟩:=je hf.1 f h2 r;obtain⟨d,e⟩:=pK f r hf.2 h3;refine⟨by rw[Xt,a,d];rfl,?_⟩;show(x? v x || inV x r')=_;rw[c,e];rfl
theorem Ly{neg:Bool}{x y:V}{H:Hp}(h:rM (wo X) E (Pt neg) x y H Q):rIn X.K neg x y H Q:=by
 obtain⟨ρ,st,u,w,sr,r1,r2,h⟩:=h;unfold Pt at h;split at h
 .rename_i us e;split at h
  .rename_i hz;cases w with
   |tup ws=>
    cases e;obtain⟨a,vs,rfl,ha,ra⟩:=r2.i!;obtain⟨q1,q2⟩:=pK hz.1 r1 hz.2 ra;refine⟨a,vs,rfl,.inr ha,(je hz.1 hz.1 r1 r1).1,q1,?_⟩;rw[q2];exact gP sr h
   |mt ws=>
    cases e;obtain⟨a,vs,rfl,ha,ra⟩:=r2.mt_;obtain⟨q1,q2⟩:=pK hz.1 r1 hz.2 ra;refine⟨a,vs,rfl,.inr ha,(je hz.1 hz.1 r1 r1).1,q1,?_⟩;rw[q2];exact gP sr h
   |loc n=>
    obtain⟨a,rfl,ha⟩:=r2.ff;obtain⟨vs,hs,ra⟩:=bw sr e ha;obtain⟨q1,q2⟩:=pK hz.1 r1 hz.2 ra;refine⟨a,vs,rfl,.inl hs,(je hz.1 hz.1 r1 r1).1,q1,?_⟩;rw[q2];exact gP sr h
   |_=>cases e
  .exact h.elim
 .exact h.elim
theorem HF:f9 X (compareOp .In) (rM (wo X) E (Pt false)):=f9.imp EM λ_ _ _ _ h=>Ly h
def Pu(neg:Bool):F2
 |.cH,.cH,st=>.ok (.bl (!neg)) st
 |.bl a,.bl b,st=>.ok (.bl (if neg then a !=b else a==b)) st
 |.int _,.cH,st=>.ok (.bl neg) st
 |.bl _,.cH,st=>.ok (.bl neg) st
 |.str _,.cH,st=>.ok (.bl neg) st
 |.tup _,.cH,st=>.ok (.bl neg) st
 |.loc _,.cH,st=>.ok (.bl neg) st
 |_,_,_=>.bad
theorem HG:f9 X (compareOp .Is) (λx y H Q=>∃a b,x=.bl a/\y=.bl b/\Q (.bl (a==b)) H):=by rintro ae s σ H x y v u Q I rx ry ⟨a,b,rfl,rfl,q⟩;cases rx;cases ry;exact is_bool ⟨.bl _,H,I,rfl,q⟩
theorem HH:f9 X (compareOp .Is) (rM (wo X) E (Pu false)):=by
 refine f9.imp (f9.or Ox HG) ?_;rintro x y H Q ⟨ρ,st,u,w,sr,r1,r2,h⟩;cases u<;>cases w<;>try exact h.elim
 case bl.bl a b=>exact .inr ⟨a,b,r1.v_,r2.v_,gP sr h⟩
 case cH.cH=>exact .inl ⟨r2.mm,by rw[r1.mm];exact gP sr h⟩
 case int.cH i=>exact .inl ⟨r2.mm,by rw[r1.cP];exact gP sr h⟩
 case bl.cH i=>exact .inl ⟨r2.mm,by rw[r1.v_];exact gP sr h⟩
 case str.cH i=>exact .inl ⟨r2.mm,by rw[r1.mj];exact gP sr h⟩
 case tup.cH i=>obtain⟨a,vs,rfl,_⟩:=r1.i!;exact .inl ⟨r2.mm,gP sr h⟩
 case loc.cH i=>obtain⟨a,rfl,_⟩:=r1.ff;exact .inl ⟨r2.mm,gP sr h⟩
end
def bQ:F2
 |.tup us,.int i,st=>match lM us i with
  |some v=>.ok v st
  |none=>.bad
 |.loc n,.int i,st=>match ao st n with
  |some us=>match lM us i with
   |some v=>.ok v st
   |none=>.bad
  |none=>.bad
 |.str z,.int i,st=>if z.length<=sizeLine then(match lM z.cps.toList i with
   |some c=>.ok (.str ⟨#[c]⟩) st
   |none=>.bad)else .bad
 |_,_,_=>.bad
theorem bt.lM{K:Z'}{us:List ah}{vs:List V}{i:Int}{u:ah}(r:bt K ρ H us vs)(h:lM us i=some u):∃v,L2.lM vs i=some v/\Rl K ρ H u v:=by
 unfold L2.lM at h⊢;rw[<-r.length];cases z:zU us.length i with
 |none=>rw[z]at h;cases h
 |some j=>
  rw[z]at h;obtain⟨v,h1,h2⟩:=r.get (show us[j]?=some u from h);exact⟨v,h1,h2⟩
theorem aaY:Bj X (rM (wo X) E bQ):=by
 refine Bj.imp (Bj.or KW (Bj.or bK OF)) ?_;rintro x y H Q ⟨ρ,st,u,w,sr,r1,r2,h⟩;cases u<;>cases w<;>try exact h.elim
 case tup.int us i=>
  unfold bQ at h;dsimp only at h;split at h
  .rename_i v e;obtain⟨a,vs,rfl,ha,ra⟩:=r1.i!;obtain⟨z,h1,h2⟩:=ra.lM e;exact .inr (.inl ⟨a,vs,i,z,rfl,r2.cP,ha,h1,h ρ H z (aW.refl _ _) sr h2⟩)
  .exact h.elim
 case loc.int n i=>
  unfold bQ at h;dsimp only at h;split at h
  .rename_i us e;split at h
   .rename_i v e';obtain⟨a,rfl,ha⟩:=r1.ff;obtain⟨vs,hs,rv⟩:=bw sr e ha;obtain⟨z,h1,h2⟩:=rv.lM e';exact .inl ⟨a,vs,i,z,rfl,r2.cP,hs,h1,h ρ H z (aW.refl _ _) sr h2⟩
   .exact h.elim
  .exact h.elim
 case str.int z i=>
  unfold bQ at h;dsimp only at h;split at h
  .rename_i hz;split at h
   .rename_i c e;exact .inr (.inr ⟨z,i,c,r1.mj,r2.cP,hz,e,h ρ H _ (aW.refl _ _) sr (Rl.mkStr _)⟩)
   .exact h.elim
  .exact h.elim
def bF:FN
 |[.tup us],st=>.ok (.int us.length) st
 |[.loc n],st=>match ao st n with
  |some us=>.ok (.int us.length) st
  |none=>.bad
 |[.str z],st=>if z.length<=sizeLine then .ok (.int z.length) st else .bad
 |_,_=>.bad
theorem xc:b7 X (.builtin "len") (cM (wo X) E bF):=by
 refine b7.imp (b7.or yc yd) ?_;rintro xs H Q ⟨ρ,st,us,sr,r,h⟩
 match us,r,h with
 |[],_,h=>exact h.elim
 |[.tup ws],r,h=>
  obtain⟨v,rfl,r1⟩:=r.zE;obtain⟨a,vs,rfl,ha,ra⟩:=r1.i!;refine .inl ⟨a,vs,rfl,.inr ha,?_⟩;rw[<-ra.length];exact eh sr h
 |[.loc n],r,h=>
  obtain⟨v,rfl,r1⟩:=r.zE;obtain⟨a,rfl,ha⟩:=r1.ff;unfold bF at h;dsimp only at h;split at h
  .rename_i ws e;obtain⟨vs,hs,rv⟩:=bw sr e ha;refine .inl ⟨a,vs,rfl,.inl hs,?_⟩;rw[<-rv.length];exact eh sr h
  .exact h.elim
 |[.str z],r,h=>
  obtain⟨v,rfl,r1⟩:=r.zE;unfold bF at h;dsimp only at h;split at h
  .rename_i hz;exact .inr ⟨z,by rw[r1.mj],hz,eh sr h⟩
  .exact h.elim
 |[.cH],_,h=>exact h.elim
 |[.bl _],_,h=>exact h.elim
 |[.int _],_,h=>exact h.elim
 |[.exc _],_,h=>exact h.elim
 |[.fn _ _],_,h=>exact h.elim
 |[.mt _],_,h=>exact h.elim
 |x::y::r,_,h=>cases x<;>exact h.elim
def Ah:FN
 |[.int i],st=>.ok (.int (if i<0 then -i else i)) st
 |_,_=>.bad
theorem Fc:b7 X (.builtin "abs") (cM (wo X) E Ah):=by
 refine b7.imp GS ?_;rintro xs H Q ⟨ρ,st,us,sr,r,h⟩;unfold Ah at h;split at h
 .rename_i i;obtain⟨v,rfl,r1⟩:=r.zE;exact⟨i,by rw[r1.cP],eh sr h⟩
 .exact h.elim
def BQ:FN
 |[.tup us],st=>.ok (.tup us) st
 |[.loc n],st=>match ao st n with
  |some us=>.ok (.tup us) st
  |none=>.bad
 |_,_=>.bad
theorem Fd:b7 X (.type "tuple") (cM (wo X) E BQ):=by
 refine b7.imp wd ?_;rintro xs H Q ⟨ρ,st,us,sr,r,h⟩;unfold BQ at h;split at h
 .rename_i ws;obtain⟨v,rfl,r1⟩:=r.zE;obtain⟨a,vs,rfl,ha,ra⟩:=r1.i!;exact⟨a,vs,rfl,.inr ⟨ha,h ρ H _ (aW.refl _ _) sr r1⟩⟩
 .rename_i n;obtain⟨v,rfl,r1⟩:=r.zE;obtain⟨a,rfl,ha⟩:=r1.ff;split at h
  .rename_i ws e;obtain⟨vs,hs,rv⟩:=bw sr e ha;refine⟨a,vs,rfl,.inl ⟨hs,λl hl=>?_⟩⟩;have s:=eJ (o:=.tup vs) hl;exact h ρ _ _ (aW.same s) (sr.grow s) (Rl.xa b8 (bt.mono (aW.same s) _ _ rv))
  .exact h.elim
 .exact h.elim
def uG:FN
 |[.tup us],st=>.ok (.loc st.length) (st++[.lst us])
 |[.loc n],st=>match ao st n with
  |some us=>.ok (.loc st.length) (st++[.lst us])
  |none=>.bad
 |_,_=>.bad
theorem Fe:b7 X (.type "list") (cM (wo X) E uG):=by
 refine b7.imp ye ?_;rintro xs H Q ⟨ρ,st,us,sr,r,h⟩;unfold uG at h;split at h
 .rename_i ws;obtain⟨v,rfl,r1⟩:=r.zE;obtain⟨a,vs,rfl,ha,ra⟩:=r1.i!;refine⟨a,vs,rfl,.inr ha,λl hl=>?_⟩;obtain⟨k1,k2,k3⟩:=il sr ra hl;exact h _ _ _ k1 k2 k3
 .rename_i n;obtain⟨v,rfl,r1⟩:=r.zE;obtain⟨a,rfl,ha⟩:=r1.ff;split at h
  .rename_i ws e;obtain⟨vs,hs,rv⟩:=bw sr e ha;refine⟨a,vs,rfl,.inl hs,λl hl=>?_⟩;obtain⟨k1,k2,k3⟩:=il sr rv hl;exact h _ _ _ k1 k2 k3
  .exact h.elim
 .exact h.elim
def oE:List ah->Option (List Bool)
 |[]=>some []
 |.bl b::r=>(oE r).map (b :: ·)
 |_=>none
theorem xf{K:Z'}{ρ:_d}{H:Hp}:∀{us:List ah}{bs:List Bool}{vs:List V}{aP:_b},oE us=some bs->bt K ρ H us vs->bo vs aP->LSm.BoolsAre aP bs
 |[],bs,vs,aP,h,r,v=>by cases h;have:=r.gg;subst this;cases v;exact .nil
 |u::us,bs,vs,aP,h,r,v=>by
  cases u with
  |bl b=>
   simp only[oE]at h;cases z:oE us with
   |none=>rw[z]at h;cases h
   |some bs'=>
    rw[z]at h;cases h;obtain⟨x,r',rfl,h2,h3⟩:=r.cN;have:=h2.v_;subst this;cases v with
    |cons q1 q2=>
     cases q1;exact .cons b (xf z h3 q2)
  |_=>cases h
theorem uH(hh:X.A.handled=none):b7 X (.builtin "all") (λxs H Q=>∃a ρ us vs bs,xs=[.ref a]/\nN X.K H a vs/\bt X.K ρ H us vs/\oE us=some bs/\Q (.bl (bs.all id)) H):=by
 rintro ae s σ H xs ws Q I r ⟨a,ρ,us,vs,bs,rfl,hs,rv,hb,q⟩;obtain⟨u,rfl,ru⟩:=vals1 r;cases ru;obtain⟨aP,r1,p1,_⟩:=I.list hs;have B:=xf hb rv r1;have hl:=p1.isList;have sJ:a<s.heap.objs.size:=by obtain⟨_,e,_⟩:=hl;exact VH e
 refine call_all_walk (Y2 hl ?_);refine⟨s.heap.objs.size,[s.heap.objs.size,a],[s.heap.objs.size],aP.toArray.size,_,_,λi=>(bs[i]?).getD true,rfl,Walks.list (A:=X.A.in1) hh _ a (V0 sJ) aP.toArray,
  ⟨⟨_,VS _ rfl,rfl,rfl⟩,hl.push _⟩,λi v s' Q' E' hP hQ=>?_,λh' tk hk=>?_⟩
 .obtain⟨b,e,rfl⟩:=B.get i v (by simpa using hP);simp only[e,Option.getD_some]at hQ;exact Xr hQ
 .have e:((List.range aP.toArray.size).all λi=>(bs[i]?).getD true)=bs.all id:=by rw[VG,B.length];exact LSm.range_all bs
  rw[e];exact⟨.bl _,H,I.kept (LSm.kept_iter hk),rfl,q⟩
def BR:FN
 |[.loc n],st=>match ao st n with
  |some us=>match oE us with
   |some bs=>.ok (.bl (bs.all id)) st
   |none=>.bad
  |none=>.bad
 |_,_=>.bad
theorem Lz(hc:b7 X (.builtin "all") (λxs H Q=>∃a ρ us vs bs,xs=[.ref a]/\nN X.K H a vs/\bt X.K ρ H us vs/\oE us=some bs/\Q (.bl (bs.all id)) H)):b7 X (.builtin "all") (cM (wo X) E BR):=by
 refine b7.imp hc ?_;rintro xs H Q ⟨ρ,st,us,sr,r,h⟩;unfold BR at h;split at h
 .rename_i n;obtain⟨v,rfl,r1⟩:=r.zE;obtain⟨a,rfl,ha⟩:=r1.ff;split at h
  .rename_i ws e;split at h
   .rename_i bs hb;obtain⟨vs,hs,rv⟩:=bw sr e ha;exact⟨a,ρ,ws,vs,bs,rfl,hs,rv,hb,gP sr h⟩
   .exact h.elim
  .exact h.elim
 .exact h.elim
theorem Ff(hh:X.A.handled=none):b7 X (.builtin "all") (cM (wo X) E BR):=Lz (uH hh)
def kindOf(st:af):ah->Option String
 |.cH=>some "NoneType"
 |.bl _=>some "bool"
 |.int _=>some "int"
 |.str _=>some "str"
 |.tup _=>some "tuple"
 |.loc n=>match st[n]? with
  |some (.lst _)=>some "list"
  |some (.O_ _)=>some "list"
  |some (.mod _)=>none
  |some (.dK _)=>some "dict"
  |some (.dT _)=>some "dict"
  |_=>none
 |_=>none
def RE(T:String)(st:af)(v:ah):Option Bool:=(kindOf st v).map λk=>k==T || (k == "bool" && T == "int")
def TH(T:String)(m:ME):ME:=λμ st=>(m μ st).bind λv aC=>match RE T aC v with
 |some b=>.ok (.bl b) aC
 |none=>.bad
def Pw(K:Z')(T:String):Prop:=∀k∈["NoneType","bool","int","str","tuple","list","dict"],W.kitOne K (.type k) (.type T)=some (k==T || (k == "bool" && T == "int"))
theorem BS{st:af}{v:ah}{k:String}(h:kindOf st v=some k):k∈["NoneType","bool","int","str","tuple","list","dict"]:=by
 unfold kindOf at h;split at h
 all_goals first
  |(cases h;decide)
  |(split at h<;>first|(cases h;decide)|cases h)
  |cases h
theorem HI{E:Z_}{Q:Z_}{c:_g}{b:Bool}{st:af}{u:ah}{x:V}{v:_g}{k:String}(I:aX X ae σ H s)(sr:SR X.K ρ st H)(r:Rl X.K ρ H u x)(q:bJ x v)(hk:kindOf st u=some k)(e:W.kitOne X.K (.type k) c=some b)(h:∀tk,Q (.bool b) {s with toks:=tk}):
  wpAny (model X.prog X.w) A (call (.builtin "isinstance") [v,c]) Q E s:=by
 cases u with
 |cH=>cases hk;have:=r.mm;subst this;exact gI I q .cH e h
 |bl y=>cases hk;have:=r.v_;subst this;exact gI I q (.bl y) e h
 |int i=>cases hk;have:=r.cP;subst this;exact gI I q (.int i) e h
 |str y=>cases hk;have:=r.mj;subst this;exact gI I q (.str y) e h
 |tup us=>
  cases hk;obtain⟨a,vs,rfl,ha,ra⟩:=r.i!;cases q;obtain⟨aP,r1,⟨o,h1,h2,_⟩,_⟩:=I.tuple ha;exact Ww ZK I.rY ⟨o,h1,h2⟩ e (λz=>nomatch z) h
 |loc n=>
  obtain⟨a,rfl,ha⟩:=r.ff;obtain⟨cl,hc,kc⟩:=sr.there ha;simp only[kindOf,hc]at hk;cases cl with
  |lst us=>cases hk;obtain⟨vs,h1,_⟩:=kc;exact gI I q (.lst h1) e h
  |O_ us=>cases hk;obtain⟨o,vs,h1,_⟩:=kc;exact gI I q (.j5 h1) e h
  |mod us=>cases hk
  |dK us=>cases hk;obtain⟨vs,h1,_⟩:=kc;exact gI I q (.dK h1) e h
  |dT us=>cases hk;obtain⟨vs,h1,_⟩:=kc;exact gI I q (.dT h1) e h
  |tab _ _ _ _=>cases hk
  |ins _ _=>cases hk
  |fd _=>cases hk
 |exc c=>cases hk
 |fn k c=>cases hk
 |mt us=>cases hk
theorem HJ{T:String}{m:ME}{p q:Pos}(hK:Pw X.K T)(hg:Gl X "isinstance")(hm:X.mg "isinstance" = none)(hgT:Gl X x)(hmT:X.mg x=none)(hvT:bootBuiltins x=some (.type T))(he:PE X e (tE X E m))(hn:x ≠ "__name__":=by decide)(hd:(x==("__debug__":Str))=false:=by decide)(hs:starEach [e,.Name x q] X.env=(false,eval e X.env)::starEach [.Name x q] X.env:=by rfl)(jR:starEach [.Name x q] X.env=(false,eval (.Name x q) X.env)::starEach [] X.env:=by rfl)(ko:(backTo pos (starEach [.Name x q] X.env)).any (·.1)=false:=by rfl):PE X (.Call (.Name "isinstance" p) [e,.Name x q] [] pos) (tE X E (TH T m)):=by
 have hc:b7 X (.builtin "isinstance") (λxs H Q=>∃y ρ st u k b,xs=[y,.ty T]/\SR X.K ρ st H/\Rl X.K ρ H u y/\kindOf st u=some k/\W.kitOne X.K (.type k) (.type T)=some b/\Q (.bl b) H):=by rintro ae s σ H xs us Q I r ⟨y,ρ,st,u,k,b,rfl,sr,r1,h1,h2,h3⟩;obtain⟨v1,v2,rfl,q1,q2⟩:=vals2 r;cases q2;exact HI I sr r1 q1 h1 h2 λtk=>⟨.bl b,H,I.tok tk,rfl,h3⟩
 refine PE.imp (pF hc hg hm XY (iZ he (iZ (C5 (v:=.ty T) hgT hmT hvT rfl hn hd) ql jR) hs) (by decide) (by decide) hs ko) ?_;rintro σ H Q ⟨μ,ρ,st,rs,sr,h⟩;refine go μ ρ st rs sr h λu st1 ρ1 H1 x e1 cC r1 h1=>?_;cases z:kindOf st1 u with
 |none=>simp only[RE,z]at h1;exact h1.elim
 |some k=>
  simp only[RE,z]at h1;exact⟨x,ρ1,st1,u,k,_,rfl,cC,r1,z,hK k (BS z),gP cC h1⟩
theorem HK{K:Z'}:Pw K "int":=by intro k hk;simp only[V5,List.mem_nil_iff,YE]at hk;rcases hk with rfl|rfl|rfl|rfl|rfl|rfl|rfl<;>first|rfl|kernel_rfl
theorem Fg{K:Z'}:Pw K "bool":=by intro k hk;simp only[V5,List.mem_nil_iff,YE]at hk;rcases hk with rfl|rfl|rfl|rfl|rfl|rfl|rfl<;>first|rfl|kernel_rfl
abbrev AS:=ah->Env->Option Env
def aF(i:Nat):AS:=λv μ=>some (μ.set i (some v))
def xg:List AS->List ah->Env->Option Env
 |[],[],μ=>some μ
 |a::as,v::vs,μ=>(a v μ).bind λμ'=>xg as vs μ'
 |_,_,_=>none
def iL(l:List AS):AS:=λv μ=>match v with
 |.tup vs=>xg l vs μ
 |_=>none
def tA(W:Wo)(a:AS):TG:=λv σ H Q=>∃μ ρ u μ',RS W ρ H μ σ/\Rl W.K ρ H u v/\a u μ=some μ'/\∀σ',RS W ρ H μ' σ'->Q σ' H
def tAs(W:Wo)(l:List AS):Kt:=λvs σ H Q=>∃μ ρ us μ',RS W ρ H μ σ/\bt W.K ρ H us vs/\xg l us μ=some μ'/\∀σ',RS W ρ H μ' σ'->Q σ' H
theorem Bs.imp{e:List Expr}{t t':Kt}(h:Bs X e t)(k:∀v σ H Q,t' v σ H Q->t v σ H Q):Bs X e t':=λae s σ H v u Q I r q=>h ae s σ H v u Q I r (k v σ H Q q)
theorem LC(i:Nat)(hN:X.N.Nodup)(hi:X.N[i]?=some x:=by rfl)(hx:Loc X.env.scope x:=by first|exact Or.inl rfl|exact Or.inr rfl)(hf:X.fn x=true\/X.env.scope.names.lookup x=some .local:=by first|exact .inl rfl|exact .inr rfl|assumption):PG X (.Name x pos) (tA (wo X) (aF i)):=by refine PG.imp (Ku hN hi hx hf) ?_;rintro v σ H Q ⟨μ,ρ,u,μ',rs,r,e,q⟩;cases e;exact q _ (rs.set i r)
theorem LD:Bs X [] (tAs (wo X) []):=by
 refine Bs.imp Kv ?_;rintro vs σ H Q ⟨μ,ρ,us,μ',rs,r,e,q⟩;cases us with
 |nil=>cases e;exact⟨r.gg,q σ rs⟩
 |cons=>cases e
theorem HL{a:AS}{as:List AS}(h1:PG X e (tA (wo X) a))(h2:Bs X es (tAs (wo X) as))(hs:(assignEach (e::es) X.env).map (·.2)=assign e X.env::(assignEach es X.env).map (·.2):=by rfl):Bs X (e::es) (tAs (wo X) (a::as)):=by
 refine Bs.imp (GO h1 h2 hs) ?_;rintro vs σ H Q ⟨μ,ρ,us,μ',rs,r,e,q⟩;cases us with
 |nil=>cases e
 |cons u us=>
  obtain⟨v,r',rfl,ru,rr⟩:=r.cN;unfold xg at e;cases z:a u μ with
  |none=>rw[z]at e;cases e
  |some μ1=>
   rw[z]at e;exact⟨v,r',rfl,μ,ρ,u,μ1,rs,ru,z,λσ1 RD=>⟨μ1,ρ,us,μ',RD,rr,e,q⟩⟩
theorem Px{l:List AS}(hc:X.calm=true)(h:Bs X es (tAs (wo X) l))(hn:(assignEach es X.env).length=l.length:=by rfl)(xT:(assignEach es X.env).findIdx? (·.1)=none:=by rfl):PG X (.Tuple es k pos) (tA (wo X) (iL l)):=by
 refine PG.imp (Oc hc h hn xT) ?_;rintro v σ H Q ⟨μ,ρ,u,μ',rs,r,e,q⟩;cases u with
 |tup us=>
  obtain⟨a,vs,rfl,ha,ra⟩:=r.i!;have len:∀(l:List AS)(us:List ah)(μ:Env),xg l us μ=some μ'->us.length=l.length:=by
   intro l
   induction l with
   |nil=>intro us μ e;cases us with|nil=>rfl|cons=>cases e
   |cons a l ih=>
    intro us μ e;cases us with
    |nil=>cases e
    |cons u us=>
     unfold xg at e;cases z:a u μ with
     |none=>rw[z]at e;cases e
     |some μ1=>rw[z]at e;rw[Vm,Vm,ih us μ1 e]
  exact⟨a,vs,rfl,ha,by rw[<-ra.length];exact len _ _ _ e,μ,ρ,us,μ',rs,ra,e,q⟩
 |_=>cases e
def abF(a:AS)(m:ME):MB:=λμ st=>(m μ st).sb μ λv aC=>match a v μ with
 |some μ'=>.nx μ' aC
 |none=>.bad
abbrev Itm:=List ah×(af->Prop)
abbrev MI:=Env->af->cz Itm
def Py(K:Z')(ρ0:_d)(H0:Hp)(p:Itm)(J:It):Prop:=
 ∀ρ st H,aW ρ0 H0 ρ H->SR K ρ st H->p.2 st->∀i:Nat,
  (∀u,p.1[i]?=some u->J.go i H/\∀x H',J.Rr i H x H'->aW ρ H ρ H'/\SR K ρ st H'/\Rl K ρ H' u x)/\(p.1.length<=i->J.stop i H)
abbrev tI(X:Cx)(E:XK)(m:MI):TI:=tG (wo X) E (Py X.K) m
section
variable{p:Pos}
theorem PI.imp{it:Expr}{t t':TI}(h:PI X tg it t)(k:∀σ H Q,t' σ H Q->t σ H Q):PI X tg it t':=λae s σ H R I q=>h ae s σ H R I (k σ H R q)
theorem Pz{l:Expr}{tl:TE}(hl:PE X l tl):PI X tg l (λσ H R=>tl σ H λx H1=>∃a,x=.ref a/\(((∃xs,nN X.K H1 a xs)/\R (Itl X.K a) H1)\/((∃xs,oC X.K H1 a xs)/\R (Itt X.K a) H1))):=by
 intro ae s σ H R I h;refine dR (hl ae s σ H _ I h) λv s1⟨x,H1,I1,r1,q1⟩=>?_;obtain⟨a,e,q⟩:=q1;subst e;cases r1;rcases q with⟨⟨xs,hq⟩,q⟩|⟨⟨xs,hq⟩,q⟩
 .obtain⟨aP,rv,p,hz⟩:=I1.list hq;refine Y2 p.isList ?_;refine⟨s1.heap.objs.size,[s1.heap.objs.size],_,_,H1,rfl,I1.kept (t':=s1.toks) λb o e=>Vo _ e,EB a _,⟨_,VS _ rfl,rfl,rfl⟩,λb hb=>?_,q⟩;have e:b=s1.heap.objs.size:=by simpa using hb
  subst e;exact I1.zP (VD _) (I1.cq.fresh (VD _))
 .obtain⟨aP,rv,p,hz⟩:=I1.tuple hq;refine wpAny_pyIter_tuple (show s1.heap.IsTuple a aP.toArray from p) ?_;refine⟨s1.heap.objs.size,[s1.heap.objs.size],_,_,H1,rfl,I1.kept (t':=s1.toks) λb o e=>Vo _ e,Bt a _,⟨_,VS _ rfl,rfl,rfl⟩,λb hb=>?_,q⟩;have e:b=s1.heap.objs.size:=by simpa using hb
  subst e;exact I1.zP (VD _) (I1.cq.fresh (VD _))
def uI(st:af):ah->Option Itm
 |.tup us=>some (us,λ_=>True)
 |.mt us=>some (us,λ_=>True)
 |.loc n=>(ao st n).map λus=>(us,λaC=>ao aC n=some us)
 |_=>none
def gN(m:ME):MI:=λμ st=>(m μ st).bind λv aC=>match uI aC v with
 |some p=>.ok p aC
 |none=>.bad
theorem HM{K:Z'}{n:Nat}{us:List ah}{a:_i}(ha:ρ[n]?=some a)(hsq:∀{ρ':_d}{aC:af}{H':Hp},SR K ρ' aC H'->ao aC n=some us->ρ'[n]?=some a->∃vs,nN K H' a vs/\bt K ρ' H' us vs):
  Py K ρ H (us,λaC=>ao aC n=some us) (Itl K a):=by
 intro ρ' aC H' e sr g i;obtain⟨vs,hs,rv⟩:=hsq sr g (e.at_ ha);refine⟨λu hu=>?_,λhi=>⟨vs,hs,by rw[<-rv.length];exact hi⟩⟩;obtain⟨v,hv,ru⟩:=rv.get hu;refine⟨⟨vs,v,hs,hv⟩,λx TJ y=>?_⟩;obtain⟨rfl,y⟩:=y;have e:=(y vs hs).symm.trans hv;cases e;exact⟨aW.refl _ _,sr,ru⟩
theorem Ds{K:Z'}{us:List ah}{a:_i}{vs:List V}(ha:oC K H a vs)(ra:bt K ρ H us vs):Py K ρ H (us,λ_=>True) (Itt K a):=by intro ρ' aC H' e sr g i;have TK:oC K H' a vs:=e.sqT ha;have rv:=bt.mono e _ _ ra;refine⟨λu hu=>?_,λhi=>⟨vs,TK,by rw[<-rv.length];exact hi⟩⟩;obtain⟨v,hv,ru⟩:=rv.get hu;refine⟨⟨vs,v,TK,hv⟩,λx TJ y=>?_⟩;obtain⟨rfl,y⟩:=y;have e:=(y vs TK).symm.trans hv;cases e;exact⟨aW.refl _ _,sr,ru⟩
theorem PB{l:Expr}{m:ME}(hl:PE X l (tE X E m)):PI X tg l (tI X E (gN m)):=by
 refine PI.imp (Pz hl) ?_;rintro σ H R ⟨μ,ρ,st,rs,sr,h⟩;refine go μ ρ st rs sr h λu st1 ρ1 H1 x e1 cC r1 h1=>?_;cases u with
 |tup us=>
  obtain⟨a,vs,rfl,ha,ra⟩:=r1.i!;exact⟨a,rfl,.inr ⟨⟨vs,ha⟩,h1 ρ1 H1 _ (aW.refl _ _) cC (Ds ha ra)⟩⟩
 |mt us=>
  obtain⟨a,vs,rfl,ha,ra⟩:=r1.mt_;exact⟨a,rfl,.inr ⟨⟨vs,ha⟩,h1 ρ1 H1 _ (aW.refl _ _) cC (Ds ha ra)⟩⟩
 |loc n=>
  obtain⟨a,rfl,ha⟩:=r1.ff;cases z:ao st1 n with
  |none=>simp only[uI,z]at h1;exact h1.elim
  |some us=>
   simp only[uI,z]at h1;obtain⟨vs,hs,rv⟩:=bw cC z ha;exact⟨a,rfl,.inl ⟨⟨vs,hs⟩,h1 ρ1 H1 _ (aW.refl _ _) cC (HM ha λs g h=>bw s g h)⟩⟩
 |_=>exact h1.elim
def cO(lo:Int)(n:Nat):List ah:=(List.range n).map λ(i:Nat)=>ah.int (lo+(i:Int))
theorem xh{K:Z'}(lo:Int)(n:Nat):Py K ρ H (cO lo n,λ_=>True) (Sk lo n):=by
 intro ρ' aC H' e sr g i;refine⟨λu hu=>?_,λhi=>?_⟩
 .have hi:i<n:=by have:=bx hu;simpa[cO]using this
  refine⟨hi,λx TJ y=>?_⟩;obtain⟨rfl,rfl⟩:=y;have e:u=ah.int (lo+(i:Int)):=by simp only[cO,VM]at hu;rw[Wd hi]at hu;exact(VR hu).symm
  subst e;exact⟨aW.refl _ _,sr,Rl.mkInt _⟩
 .show n<=i;simpa[cO]using hi
def ip(m:MA):MI:=λμ st=>(m μ st).bind λvs aC=>match vs with
 |[.int j]=>if -(2 ^ 62)<=j/\j<2 ^ 62 then .ok (cO 0 j.toNat,λ_=>True) aC else .bad
 |_=>.bad
def gQ(m:MA):MI:=λμ st=>(m μ st).bind λvs aC=>match vs with
 |[.int i,.int j]=>if -(2 ^ 62)<=i/\i<2 ^ 62/\-(2 ^ 62)<=j/\j<2 ^ 62 then .ok (cO i (j-i).toNat,λ_=>True) aC else .bad
 |_=>.bad
theorem Fh{a:Expr}{m:MA}(hg:Gl X "range")(hm:X.mg "range" = none)(ha:PA X [a] (tL X E m))(hs:starEach [a] X.env=[(false,eval a X.env)]:=by rfl):PI X tg (.Call (.Name "range" p) [a] [] pos) (tI X E (ip m)):=by
 refine PI.imp (EC hg hm ha hs) ?_;rintro σ H R ⟨μ,ρ,st,rs,sr,h⟩;refine go (R1:=bt X.K) μ ρ st rs sr h λus st1 ρ1 H1 xs e1 cC r1 h1=>?_;split at h1
 .rename_i j;obtain⟨v,rfl,rv⟩:=r1.zE;split at h1
  .rename_i hz;exact⟨j,by rw[rv.cP],hz.1,hz.2,h1 ρ1 H1 _ (aW.refl _ _) cC (xh 0 j.toNat)⟩
  .exact h1.elim
 .exact h1.elim
theorem Fi{a b:Expr}{m:MA}(hg:Gl X "range")(hm:X.mg "range" = none)(ha:PA X [a,b] (tL X E m))(hs:starEach [a,b] X.env=[(false,eval a X.env),(false,eval b X.env)]:=by rfl)(jR:starEach [b] X.env=[(false,eval b X.env)]:=by rfl):
  PI X tg (.Call (.Name "range" p) [a,b] [] pos) (tI X E (gQ m)):=by
 refine PI.imp (ED hg hm ha hs jR) ?_;rintro σ H R ⟨μ,ρ,st,rs,sr,h⟩;refine go (R1:=bt X.K) μ ρ st rs sr h λus st1 ρ1 H1 xs e1 cC r1 h1=>?_;split at h1
 .rename_i i j;obtain⟨v,w,rfl,rv,x_⟩:=r1.Tr;split at h1
  .rename_i hz;exact⟨i,j,by rw[rv.cP,x_.cP],hz,h1 ρ1 H1 _ (aW.refl _ _) cC (xh i _)⟩
  .exact h1.elim
 .exact h1.elim
def jf(st:af):ah->Option (Bool×Itm)
 |.tup us=>some (false,us,λ_=>True)
 |.loc n=>(ao st n).map λus=>(true,us,λaC=>ao aC n=some us)
 |_=>none
def mH:List ah->List ah->List ah
 |x::xs,y::ys=>.tup [x,y]::mH xs ys
 |_,_=>[]
theorem Dt:∀(us ws:List ah)(i:Nat),(∀z,(mH us ws)[i]?=some z->∃u w,us[i]?=some u/\ws[i]?=some w/\z=.tup [u,w])/\((mH us ws).length<=i->us.length<=i\/ws.length<=i)
 |[],_,i=>⟨λz h=>(by cases h),λ_=>.inl (We _)⟩
 |_::_,[],i=>⟨λz h=>(by cases h),λ_=>.inr (We _)⟩
 |u::us,w::ws,0=>⟨λz h=>(by cases h;exact⟨u,w,rfl,rfl,rfl⟩),λh=>(by simp[mH]at h)⟩
 |u::us,w::ws,i+1=>by
  obtain⟨a,b⟩:=Dt us ws i;refine⟨λz h=>a z h,λh=>?_⟩;have h':(mH us ws).length<=i:=by simpa[mH]using h
  rcases b h' with q|q
  .exact .inl (by rw[Vm];lia)
  .exact .inr (by rw[Vm];lia)
def uJ(b1 b2:Bool)(m:MA):MI:=λμ st=>(m μ st).bind λvs aC=>match vs with
 |[u,w]=>match jf aC u,jf aC w with
  |some (c1,us,g1),some (c2,ws,g2)=>if c1=b1/\c2=b2 then .ok (mH us ws,λbX=>g1 bX/\g2 bX) aC else .bad
  |_,_=>.bad
 |_=>.bad
theorem Du{K:Z'}{st:af}{u:ah}{x:V}{c:Bool}{us:List ah}{g:af->Prop}(sr:SR K ρ st H)(r:Rl K ρ H u x)(h:jf st u=some (c,us,g))(hsq:∀{ρ':_d}{aC:af}{H':Hp}{n a},SR K ρ' aC H'->ao aC n=some us->ρ'[n]?=some a->∃vs,nN K H' a vs/\bt K ρ' H' us vs):
  ∃a,x=.ref a/\∀ρ' aC H',aW ρ H ρ' H'->SR K ρ' aC H'->g aC->∃vs,BJ c K H' a vs/\bt K ρ' H' us vs:=by
 cases u with
 |tup ws=>
  cases h;obtain⟨a,vs,rfl,ha,ra⟩:=r.i!;exact⟨a,rfl,λρ' aC H' e _ _=>⟨vs,e.sqT ha,bt.mono e _ _ ra⟩⟩
 |loc n=>
  obtain⟨a,rfl,ha⟩:=r.ff;cases z:ao st n with
  |none=>simp only[jf,z]at h;cases h
  |some ws=>
   simp only[jf,z]at h;cases h;exact⟨a,rfl,λρ' aC H' e s g=>hsq s g (e.at_ ha)⟩
 |_=>cases h
theorem HN{st:af}{u:ah}{c:Bool}{us:List ah}{g:af->Prop}(h:jf st u=some (c,us,g)):g st:=by
 cases u with
 |tup ws=>cases h;exact True.intro
 |loc n=>
  cases z:ao st n with
  |none=>simp only[jf,z]at h;cases h
  |some ws=>simp only[jf,z]at h;cases h;exact z
 |_=>cases h
theorem PD(b1 b2:Bool){ea eb:Expr}{m:MA}(hg:Gl X "zip")(hm:X.mg "zip" = none)(ha:PA X [ea,eb] (tL X E m))(hs:starEach [ea,eb] X.env=[(false,eval ea X.env),(false,eval eb X.env)]:=by rfl)(jR:starEach [eb] X.env=[(false,eval eb X.env)]:=by rfl):
  PI X (.Tuple elts kt tp) (.Call (.Name "zip" p) [ea,eb] [] pos) (tI X E (uJ b1 b2 m)):=by
 refine PI.imp (O0 b1 b2 hg hm ha hs jR) ?_;rintro σ H R ⟨μ,ρ,st,rs,sr,h⟩;refine go (R1:=bt X.K) μ ρ st rs sr h λus st1 ρ1 H1 xs e1 cC r1 h1=>?_;split at h1
 .rename_i u w;obtain⟨x,y,rfl,rx,ry⟩:=r1.Tr;split at h1
  .rename_i c1 us1 g1 c2 us2 g2 z1 z2;split at h1
   .rename_i hc;obtain⟨rfl,rfl⟩:=hc;obtain⟨a,rfl,ka⟩:=Du cC rx z1 λs g h=>bw s g h;obtain⟨b,rfl,kb⟩:=Du cC ry z2 λs g h=>bw s g h;obtain⟨v1,q1,_⟩:=ka ρ1 st1 H1 (aW.refl _ _) cC (HN z1);obtain⟨v2,q2,_⟩:=kb ρ1 st1 H1 (aW.refl _ _) cC (HN z2);refine⟨a,b,rfl,⟨v1,q1⟩,⟨v2,q2⟩,h1 ρ1 H1 _ (aW.refl _ _) cC ?_⟩;intro ρ' aC H' e s g i;obtain⟨w1,s1,t1⟩:=ka ρ' aC H' e s g.1;obtain⟨w2,s2,t2⟩:=kb ρ' aC H' e s g.2;obtain⟨k1,k2⟩:=Dt us1 us2 i;refine⟨λz hz=>?_,λhi=>⟨w1,w2,s1,s2,?_⟩⟩
    .obtain⟨u',w',e1',e2',rfl⟩:=k1 z hz;obtain⟨p1,p2,p3⟩:=t1.get e1';obtain⟨o1,o2,o3⟩:=t2.get e2';refine⟨⟨w1,w2,p1,o1,s1,s2,p2,o2⟩,λx' TJ y'=>?_⟩;obtain⟨pp,x1,y1,rfl,hp,rfl,f1,f2⟩:=y';have c1:=(f1 w1 s1).symm.trans p2;have c2:=(f2 w2 s2).symm.trans o2;cases c1;cases c2;exact⟨aW.same (eJ hp),s.grow (eJ hp),Rl.xa b8 (bt.mono (aW.same (eJ hp)) _ _ (bt.cons p3 (bt.one o3)))⟩
    .rw[<-t1.length,<-t2.length];exact k2 hi
   .exact h1.elim
  .exact h1.elim
 .exact h1.elim
end
open Classical in
def forL(g:af->Prop)(a:AS)(body:MB):List ah->MB
 |[],μ,st=>if g st then .nx μ st else .bad
 |u::us,μ,st=>if g st then(match a u μ with
  |some μ1=>match body μ1 st with
   |.nx μ' aC=>forL g a body us μ' aC
   |.ct μ' aC=>forL g a body us μ' aC
   |.bk μ' aC=>.nx μ' aC
   |.rt v aC=>.rt v aC
   |.er c μ' aC=>.er c μ' aC
   |.bad=>.bad
  |none=>.bad)else .bad
def iM(it:MI)(a:AS)(body:MB):MB:=λμ st=>(it μ st).sb μ λp aC=>forL p.2 a body p.1 μ aC
section
variable{p:Pos}
theorem PF{sb:List Stmt}{it:MI}{a:AS}{body:MB}(hp:PassesOwn (model X.prog X.w) X.A X.env X.xe)(hc:X.calm=true)(hi:PI X tg iter (tI X E it))(hg:PG X tg (tA (wo X) a))(hb:l? X sb (tS X E body))(hs:∀x,foldedSetIterable iter X.env x=pure x:=by intro _;rfl):PS X (.For tg iter sb [] pos) (tS X E (iM it a body)):=by
 refine PS.imp (Oi hp hc hi hg hb hs) ?_;rintro D σ H ⟨μ,ρ,st,rs,sr,h⟩;refine Bo (R1:=Py X.K) μ ρ st rs sr h λpr st1 ρ1 H1 J e1 cC rJ h1=>?_;obtain⟨us,g⟩:=pr;refine⟨λi m σ' H'=>m=us.length-i/\i<=us.length/\∃μ' ρ' aC,aW ρ1 H1 ρ' H'/\RS (wo X) ρ' H' μ' σ'/\SR X.K ρ' aC H'/\wS (wo X) E ρ' H' D (forL g a body (us.drop i) μ' aC),
  ⟨us.length,by simp,We _,μ,ρ1,st1,aW.refl _ _,rs.mono e1,cC,h1⟩,?_⟩
 rintro i m σ' H' ⟨rfl,hi,μ',ρ',aC,e',xi,Dv,h'⟩;by_cases sJ:i<us.length
 .rw[WV sJ]at h';unfold forL at h';by_cases v9:g aC
  .rw[VC v9]at h';obtain⟨k1,k2⟩:=rJ ρ' aC H' e' Dv v9 i;obtain⟨go',yl⟩:=k1 _ (Vp sJ);refine .inr ⟨go',λσ2 H2=>i+1<=us.length/\∃μ2 ρ2 bX,aW ρ1 H1 ρ2 H2/\RS (wo X) ρ2 H2 μ2 σ2/\SR X.K ρ2 bX H2/\wS (wo X) E ρ2 H2 D (forL g a body (us.drop (i+1)) μ2 bX),λσ2 H2 n=>⟨us.length-(i+1),by lia,rfl,n.1,n.2⟩,λx H2 y=>?_⟩;obtain⟨e2,pJ,r2⟩:=yl x H2 y;cases z:a us[i] μ' with
   |none=>rw[z]at h';exact h'.elim
   |some μ1=>
    rw[z]at h';dsimp only at h';refine⟨μ',ρ',us[i],μ1,xi.mono e2,r2,z,λσ3 Ke=>⟨μ1,ρ',aC,Ke,pJ,?_⟩⟩;cases zb:body μ1 aC with
    |nx μ4 ph=>
     rw[zb]at h';intro ρ4 H4 σ4 e4 sP BU;exact⟨by lia,μ4,ρ4,ph,(e'.trans e2).trans e4,BU,sP,wS.mono h' (e2.trans e4)⟩
    |ct μ4 ph=>
     rw[zb]at h';intro ρ4 H4 σ4 e4 sP BU;exact⟨by lia,μ4,ρ4,ph,(e'.trans e2).trans e4,BU,sP,wS.mono h' (e2.trans e4)⟩
    |bk μ4 ph=>rw[zb]at h';exact λρ4 H4 σ4 e4 sP BU=>h' ρ4 H4 σ4 (e2.trans e4) sP BU
    |rt v ph=>rw[zb]at h';exact λρ4 H4 σ4 e4 sP BU=>h' ρ4 H4 σ4 (e2.trans e4) sP BU
    |er c μ4 ph=>rw[zb]at h';obtain⟨C,q1,q2⟩:=h';exact⟨C,q1,λρ4 H4 e4 sP=>q2 ρ4 H4 (e2.trans e4) sP⟩
    |bad=>rw[zb]at h';exact h'
  .rw[VI v9]at h';exact h'.elim
 .have Ha:i=us.length:=by lia
  subst Ha;rw[Zt]at h';unfold forL at h';by_cases v9:g aC
  .rw[VC v9]at h';exact .inl ⟨(rJ ρ' aC H' e' Dv v9 us.length).2 (VD _),h' ρ' H' σ' (aW.refl _ _) Dv xi⟩
  .rw[VI v9]at h';exact h'.elim
end
def g!(t:MT)(body:MB):Nat->Env->af->Option bY
 |0,_,_=>none
 |n+1,μ,st=>match t μ st with
  |.ok true st1=>match body μ st1 with
   |.nx μ' aC=>g! t body n μ' aC
   |.ct μ' aC=>g! t body n μ' aC
   |.bk μ' aC=>some (.nx μ' aC)
   |.rt v aC=>some (.rt v aC)
   |.er c μ' aC=>some (.er c μ' aC)
   |.bad=>some .bad
  |.ok false st1=>some (.nx μ st1)
  |.err c st1=>some (.er c μ st1)
  |.bad=>some .bad
open Classical in
def dM(t:MT)(body:MB):MB:=λμ st=>if h:∃n r,g! t body n μ st=some r then h.choose_spec.choose else .bad
theorem mO{t:MT}{body:MB}:∀{n m:Nat}{μ:Env}{st:af}{r r':bY},g! t body n μ st=some r->g! t body m μ st=some r'->r=r'
 |0,_,_,_,_,_,h,_=>by cases h
 |_+1,0,_,_,_,_,_,h=>by cases h
 |n+1,m+1,μ,st,r,r',h,h'=>by
  unfold g! at h h';split at h
  .rename_i st1 e;rw[e]at h';dsimp only at h';split at h
   all_goals (rename_i eb;rw[eb]at h';dsimp only at h')
   .exact mO h h'
   .exact mO h h'
   all_goals (cases h;cases h';rfl)
  all_goals (rename_i e;rw[e]at h';dsimp only at h';cases h;cases h';rfl)
theorem Fj{t:MT}{body:MB}{n:Nat}{μ:Env}{st:af}{r:bY}(h:g! t body n μ st=some r):dM t body μ st=r:=by
 have hx:∃n r,g! t body n μ st=some r:=⟨n,r,h⟩
 unfold dM;rw[dif_pos hx];exact mO hx.choose_spec.choose_spec h
theorem HP{c:Expr}{sb:List Stmt}{t:MT}{body:MB}(hp:PassesOwn (model X.prog X.w) X.A X.env X.xe)(hc:PT X c (tT X E t))(hb:l? X sb (tS X E body)):PS X (.While c sb [] pos) (tS X E (dM t body)):=by
 refine PS.imp (GP hp hc hb) ?_;rintro D σ H ⟨μ,ρ,st,rs,sr,h⟩;unfold dM at h;split at h
 .rename_i hx;have hr:=hx.choose_spec.choose_spec;refine⟨λm σ' H'=>∃μ' ρ' aC r,aW ρ H ρ' H'/\RS (wo X) ρ' H' μ' σ'/\SR X.K ρ' aC H'/\g! t body m μ' aC=some r/\wS (wo X) E ρ' H' D r,⟨_,μ,ρ,st,_,aW.refl _ _,rs,sr,hr,h⟩,?_⟩;rintro m σ' H' ⟨μ',ρ',aC,r,e',xi,Dv,hw,hq⟩;cases m with
  |zero=>cases hw
  |succ m=>
   unfold g! at hw;refine⟨μ',ρ',aC,xi,Dv,?_⟩;cases z:t μ' aC with
   |ok k st1=>
    rw[z]at hw;intro ρ1 H1 k' e1 cC ek;cases ek;cases k with
    |true=>
     dsimp only at hw;rw[VC rfl];refine⟨λσ2 H2=>∃μ2 ρ2 bX r2,aW ρ H ρ2 H2/\RS (wo X) ρ2 H2 μ2 σ2/\SR X.K ρ2 bX H2/\g! t body m μ2 bX=some r2/\wS (wo X) E ρ2 H2 D r2,λσ2 H2 n=>⟨m,YK m,n⟩,μ',ρ1,st1,xi.mono e1,cC,?_⟩;cases zb:body μ' st1 with
     |nx μ4 ph=>
      rw[zb]at hw;intro ρ4 H4 σ4 e4 sP BU;exact⟨μ4,ρ4,ph,r,(e'.trans e1).trans e4,BU,sP,hw,wS.mono hq (e1.trans e4)⟩
     |ct μ4 ph=>
      rw[zb]at hw;intro ρ4 H4 σ4 e4 sP BU;exact⟨μ4,ρ4,ph,r,(e'.trans e1).trans e4,BU,sP,hw,wS.mono hq (e1.trans e4)⟩
     |bk μ4 ph=>rw[zb]at hw;cases hw;exact λρ4 H4 σ4 e4 sP BU=>hq ρ4 H4 σ4 (e1.trans e4) sP BU
     |rt v ph=>rw[zb]at hw;cases hw;exact λρ4 H4 σ4 e4 sP BU=>hq ρ4 H4 σ4 (e1.trans e4) sP BU
     |er c μ4 ph=>rw[zb]at hw;cases hw;obtain⟨C,q1,q2⟩:=hq;exact⟨C,q1,λρ4 H4 e4 sP=>q2 ρ4 H4 (e1.trans e4) sP⟩
     |bad=>rw[zb]at hw;cases hw;exact hq
    |false=>
     cases hw;rw[VI VQ];exact hq ρ1 H1 σ' e1 cC (xi.mono e1)
   |err c st1=>rw[z]at hw;cases hw;exact hq
   |bad=>rw[z]at hw;cases hw;exact hq
 .exact h.elim
def iN(k:Nat)(bE:List Nat)(μ:Env):Env:=List.replicate k none++bE.map λj=>(μ[j]?).getD none
theorem RS.cap{W:Wo}{μ:Env}{σ:L2.St}(r:RS W ρ H μ σ)(k:Nat)(bE:List Nat):RS W ρ H (iN k bE μ) (sH k bE σ):=by
 refine⟨by simp[iN,sH],λi u e=>?_⟩;unfold iN at e;rcases WQ i k with q|q
 .rw[V6 (by rw[VY];exact q),Wz,VC q]at e;cases e
 .rw[V4 (by rw[VY];exact q),VY,VM]at e;cases z:bE[i-k]? with
  |none=>rw[z]at e;cases e
  |some j=>
   rw[z]at e;have e':(μ[j]?).getD none=some u:=VR e;have e2:μ[j]?=some (some u):=by
    cases y:μ[j]? with
    |none=>rw[y]at e';cases e'
    |some w=>rw[y]at e';exact X5 _ e'
   obtain⟨v,h1,h2⟩:=r.at_ j u e2;refine⟨v,?_,h2⟩;unfold sH;rw[V4 (by rw[VY];exact q),VY,VM,z];show some ((σ[j]?).getD none)=_;rw[h1];rfl
open Classical in
def dZ(g:af->Prop)(a:AS)(c:MT)(e:ME):List ah->Env->af->List ah->cz (List ah)
 |[],_,st,ys=>if g st then .ok ys st else .bad
 |u::us,τ,st,ys=>if g st then(match a u τ with
  |some τ1=>match c τ1 st with
   |.ok true st1=>match e τ1 st1 with
    |.ok y bX=>dZ g a c e us τ1 bX (ys++[y])
    |.err _ _=>.bad
    |.bad=>.bad
   |.ok false st1=>dZ g a c e us τ1 st1 ys
   |.err _ _=>.bad
   |.bad=>.bad
  |none=>.bad)else .bad
def c_(k:Nat)(bE:List Nat)(it:MI)(a:AS)(c:MT)(e:ME):ME:=λμ st=>(it μ st).bind λp st1=>
 if p.1.length<=sizeLine then(dZ p.2 a c e p.1 (iN k bE μ) st1 []).bind λys bX=>.ok (.loc bX.length) (bX++[.lst ys])else .bad
def bI:MT:=λ_ st=>.ok true st
abbrev W0(X:Cx):Wo:=⟨X.K,X.mg,[]⟩
section
variable{Hb:Pos}{it:MI}{a:AS}{c:MT}{e:ME}
theorem xj(Nl:X.pn=[]){σ:L2.St}(h:tE X E (c_ k bE it a c e) σ H Q):uw k bE (tI X E it) (tA (W0 X) a) (tG (W0 X) E0 RB c) (tG (W0 X) E0 (Rl X.K) e) σ H Q:=by
 obtain⟨μ,ρ,st,rs,sr,h⟩:=h;refine G! (go (R1:=Py X.K) μ ρ st rs sr h λpr st1 ρ1 H1 J e1 cC rJ h1=>?_);obtain⟨us,g⟩:=pr;have ew:wo X=W0 X:=by show Wo.mk _ _ _=_;rw[Nl]
 have RD:=rs.mono e1;rw[ew]at RD h1;dsimp only at h1;split at h1
 .rename_i hz;refine La us.length hz (λi ys τ H'=>∃μτ ρ' aC yv,aW ρ1 H1 ρ' H'/\RS (W0 X) ρ' H' μτ τ/\SR X.K ρ' aC H'/\bt X.K ρ' H' yv ys/\yv.length<=i/\wR (W0 X) E (Rl X.K) ρ' H' Q ((dZ g a c e (us.drop i) μτ aC yv).bind λ(zs:List ah)(bX:af)=>cz.ok (ah.loc bX.length) (bX++[aS.lst zs])))
   ⟨iN k bE μ,ρ1,st1,[],aW.refl _ _,RD.cap k bE,cC,bt.nil,VD _,h1⟩ ?_ ?_ ?_ ?_ ?_
  .rintro i ys τ H' hi ⟨μτ,ρ',aC,yv,e',xi,Dv,ry,hl,hq⟩;rw[WV hi]at hq;unfold dZ at hq;by_cases v9:g aC
   .exact((rJ ρ' aC H' e' Dv v9 i).1 _ (Vp hi)).1
   .rw[VI v9]at hq;exact hq.elim
  .rintro ys τ H' ⟨μτ,ρ',aC,yv,e',xi,Dv,ry,hl,hq⟩;rw[Zt]at hq;unfold dZ at hq;by_cases v9:g aC
   .exact(rJ ρ' aC H' e' Dv v9 us.length).2 (VD _)
   .rw[VI v9]at hq;exact hq.elim
  .rintro i ys τ H' ⟨μτ,ρ',aC,yv,e',xi,Dv,ry,hl,hq⟩;rw[<-ry.length];exact hl
  .rintro i ys τ H' x H2 hi ⟨μτ,ρ',aC,yv,e',xi,Dv,ry,hl,hq⟩ y K1 hK;rw[WV hi]at hq;unfold dZ at hq;by_cases v9:g aC
   .rw[VC v9]at hq;obtain⟨e2,pJ,r2⟩:=((rJ ρ' aC H' e' Dv v9 i).1 _ (Vp hi)).2 x H2 y;cases z:a us[i] μτ with
    |none=>rw[z]at hq;exact hq.elim
    |some τ1=>
     rw[z]at hq;dsimp only at hq;refine⟨μτ,ρ',us[i],τ1,xi.mono e2,r2,z,λσ3 Ke=>⟨τ1,ρ',aC,Ke,pJ,?_⟩⟩;cases zc:c τ1 aC with
     |ok b oD=>
      rw[zc]at hq;intro ρ3 H3 b' e3 Gy eb;cases eb;cases b with
      |true=>
       dsimp only at hq;rw[VC rfl];refine⟨τ1,ρ3,oD,Ke.mono e3,Gy,?_⟩;cases ze:e τ1 oD with
       |ok v ph=>
        rw[ze]at hq;intro ρ4 H4 y4 e4 sP r4;exact hK _ _ _ ⟨τ1,ρ4,ph,yv++[v],((e'.trans e2).trans e3).trans e4,(Ke.mono e3).mono e4,sP,(bt.mono ((e2.trans e3).trans e4) _ _ ry).append (bt.one r4),by rw[Vv,V3];lia,wR.mono hq ((e2.trans e3).trans e4)⟩
       |err c' ph=>rw[ze]at hq;exact hq.elim
       |bad=>rw[ze]at hq;exact hq.elim
      |false=>
       dsimp only at hq;rw[VI VQ];exact hK _ _ _ ⟨τ1,ρ3,oD,yv,(e'.trans e2).trans e3,Ke.mono e3,Gy,bt.mono (e2.trans e3) _ _ ry,by lia,wR.mono hq (e2.trans e3)⟩
     |err c' oD=>rw[zc]at hq;exact hq.elim
     |bad=>rw[zc]at hq;exact hq.elim
   .rw[VI v9]at hq;exact hq.elim
  .rintro ys τ H' p ⟨μτ,ρ',aC,yv,e',xi,Dv,ry,hl,hq⟩ hp;rw[Zt]at hq;unfold dZ at hq;by_cases v9:g aC
   .rw[VC v9]at hq;obtain⟨k1,k2,k3⟩:=il Dv ry hp;exact hq _ _ _ k1 k2 k3
   .rw[VI v9]at hq;exact hq.elim
 .exact h1.elim
theorem fO(hc:X.calm=true)(Nl:X.pn=[])(B:uv X N scope cl k bE)(hi:PI X tg iter (tI X E it))(hg:∀C fp s H,PG (v5 X N scope cl C fp s H) tg (tA (W0 X) a))(OX:∀C fp s H,Dg (v5 X N scope cl C fp s H) ifs (tG (W0 X) E0 RB c))(he:∀C fp s H,PE (v5 X N scope cl C fp s H) elt (tG (W0 X) E0 (Rl X.K) e))(hs:∀x,foldedSetIterable iter X.env x=pure x:=by intro _;rfl):PE X (.ListComp elt [⟨tg,iter,ifs,0⟩] scope pos) (tE X E (c_ k bE it a c e)):=
 PE.imp (K' hc B hi hg OX he hs) λ_ _ _ h=>xj Nl h
theorem jg(i:Nat){py:Pos}(hN:X.N.Nodup)(hc:X.calm=true)(Nl:X.pn=[])(B:uv X N scope cl k bE)(hi:PI X tg iter (tI X E it))(hg:∀C fp s H,PG (v5 X N scope cl C fp s H) tg (tA (W0 X) a))(OX:∀C fp s H,Dg (v5 X N scope cl C fp s H) ifs (tG (W0 X) E0 RB c))(he:∀C fp s H,PE (v5 X N scope cl C fp s H) elt (tG (W0 X) E0 (Rl X.K) e))(hy:X.N[i]?=some y:=by rfl)(hx:Loc X.env.scope y:=by first|exact Or.inl rfl|exact Or.inr rfl)(hsw:swapsWith (.ListComp elt [⟨tg,iter,ifs,0⟩] scope pos) (some (.Name y py)) Hb.line X.env=pure true:=by rfl)(hs:∀x,foldedSetIterable iter X.env x=pure x:=by intro _;rfl)(hf:X.fn y=true\/X.env.scope.names.lookup y=some .local:=by first|exact .inl rfl|exact .inr rfl|assumption):
  PS X (.Assign [.Name y py] (.ListComp elt [⟨tg,iter,ifs,0⟩] scope pos) Hb) (tS X E (aM i (c_ k bE it a c e))):=
 PS.imp (L2.BI hN hy hx hc B hi hg OX he hsw hs hf) λ_ _ _ h=>xj Nl (Ag h)
theorem LF{C fp s H}:Dg (v5 X N scope cl C fp s H) [] (tG (W0 X) E0 RB bI):=by intro ae s' σ H' Q I q;refine K9 ae s' σ H' Q I ?_;obtain⟨μ,ρ,st,rs,sr,h⟩:=q;exact h ρ H' true (aW.refl _ _) sr rfl
theorem LG{cc:Expr}{C fp s H}(h:PT (v5 X N scope cl C fp s H) cc (tG (W0 X) E0 RB c)):Dg (v5 X N scope cl C fp s H) [cc] (tG (W0 X) E0 RB c):=K_ h
theorem TL{C fp s H}:Passes (nO P w) (v5 X N scope cl C fp s H) E0:=by rintro ae σ H' s' e s2 I ⟨ea,cls,H2,_,_,q⟩;exact q.elim
end
abbrev FM:=ah->List ah->af->cz ah
def PJ(W:Wo)(E:XK)(f:FM):V->List V->Hp->VK->Prop:=λx xs H Q=>∃ρ st u us,SR W.K ρ st H/\Rl W.K ρ H u x/\bt W.K ρ H us xs/\wR W E (Rl W.K) ρ H Q (f u us st)
def sd(st:af):ah->Bool
 |.loc n=>match st[n]? with
  |some (.lst _)=>true
  |_=>false
 |_=>false
def g6(f:FM)(o:ME)(a:MA):ME:=λμ st=>(o μ st).bind λx st1=>if sd st1 x=true then(a μ st1).bind λxs bX=>f x xs bX else .bad
def dS:FM
 |.loc n,[v],st=>match st[n]? with
  |some (.lst us)=>if us.length<sizeLine then .ok .cH (st.set n (.lst (us++[v])))else .bad
  |_=>.bad
 |_,_,_=>.bad
section
variable{mo:ME}{ms:MA}{f:FM}
theorem wX.imp{id:String}{r r':V->List V->Hp->VK->Prop}(h:wX X id r)(k:∀x xs H Q,r' x xs H Q->r x xs H Q):wX X id r':=λae s σ H x xs v us Q I rx rs q=>h ae s σ H x xs v us Q I rx rs (k x xs H Q q)
theorem tR{K:Z'}{st:af}{n:Nat}{us us':List ah}{a:_i}{vs Pq:List V}(sr:SR K ρ st H)(h:st[n]?=some (.lst us))(ha:ρ[n]?=some a)(hH:H a=some (.lst vs))(r:bt K ρ H us' Pq):
  aW ρ H ρ (upd H a (.lst Pq))/\SR K ρ (st.set n (.lst us')) (upd H a (.lst Pq)):=by
 have e:aW ρ H ρ (upd H a (.lst Pq)):=aW.put hH (λ_ z=>by cases z) (λ_ _ z=>by cases z);exact⟨e,sr.set h rfl rfl ha hH (λ_ z=>by cases z) (λ_ _ z=>by cases z) ⟨Pq,b8,bt.mono e _ _ r⟩⟩
theorem BV:wX X "list.append" (PJ (wo X) E dS):=by
 refine wX.imp EN ?_;rintro x xs H Q ⟨ρ,st,u,us,sr,r1,r2,h⟩;unfold dS at h;split at h
 .rename_i n v;obtain⟨a,rfl,ha⟩:=r1.ff;obtain⟨y,rfl,ry⟩:=r2.zE;split at h
  .rename_i ws hw;split at h
   .rename_i hz;obtain⟨vs,hH,rv⟩:=sr.cell n _ a hw ha;refine⟨a,vs,y,rfl,rfl,hH,by rw[<-rv.length];exact hz,?_⟩;obtain⟨k1,k2⟩:=tR sr hw ha hH (rv.append (bt.one ry));exact h ρ _ _ k1 k2 Rl.w?
   .exact h.elim
  .exact h.elim
 .exact h.elim
theorem Ai{K:Z'}{st:af}{u:ah}{x:V}(sr:SR K ρ st H)(r:Rl K ρ H u x)(h:sd st u=true):tyV K "list" x H:=by
 cases u with
 |loc n=>
  obtain⟨a,rfl,ha⟩:=r.ff;obtain⟨c,hc,kc⟩:=sr.there ha;simp only[sd,hc]at h;cases c with
  |lst us=>obtain⟨vs,h1,_⟩:=kc;exact .inl ⟨rfl,vs,nN.of h1⟩
  |_=>cases h
 |_=>cases h
theorem yo{id:String}(slot:Slot "list" name id)(KZ:typeOf (.builtin id)=pure (.type "method_descriptor"))(hm:wX X id (PJ (wo X) E f))(ho:PE X o (tE X E mo))(ha:PA X (e::es) (tL X E ms))(iA:attributeBase o name X.env (eval o X.env)=eval o X.env:=by rfl)
  (uo:((backTo cy (starEach (e::es) X.env)).all (λx => !x.1)&&(backToKw cy (keywordEach [] X.env)).all (λx=>x.1.isSome)
   && decide ((e::es).length+([]:List Keyword).length+(if([]:List Keyword).isEmpty then 0 else 1)<30))=true:=by rfl)
  (iB:(apos.endLine==cy.line)=true:=by rfl) (hs:starEach (e::es) X.env=(false,eval e X.env)::starEach es X.env:=by rfl) (jc:(backTo cy (starEach es X.env)).any (·.1)=false:=by rfl):
  PE X (.Call (.Attribute o name apos) (e::es) [] cy) (tE X E (g6 f mo ms)):=by
 refine PE.imp (SN Zi slot KZ hm ho ha iA uo iB hs jc) ?_;rintro σ H Q ⟨μ,ρ,st,rs,sr,h⟩;refine go μ ρ st rs sr h λu st1 ρ1 H1 x e1 cC r1 h1=>?_;split at h1
 .rename_i hz;refine⟨Ai cC r1 hz,?_⟩;refine go (R1:=bt X.K) μ ρ1 st1 (rs.mono e1) cC h1 λus bX ρ2 H2 xs e2 pJ r2 h2=>?_;exact⟨ρ2,bX,u,us,pJ,Rl.mono e2 _ _ r1,r2,h2⟩
 .exact h1.elim
end
def RF(W:Wo)(R:_d->Hp->α->β->Prop)(ρ:_d)(H:Hp)(Q:β->Hp->Prop)(EX:EH):cz α->Prop
 |.ok u aC=>∀ρ' H' v,aW ρ H ρ' H'->SR W.K ρ' aC H'->R ρ' H' u v->Q v H'
 |.err c aC=>∃C,W.mg c=some (.ref C)/\∀ρ' H' ea,aW ρ H ρ' H'->SR W.K ρ' aC H'->EX (.ref C) ea H'
 |.bad=>False
theorem RF.mono{W:Wo}{R:_d->Hp->α->β->Prop}{Q:β->Hp->Prop}{EX:EH}{r:cz α}(h:RF W R ρ H Q EX r)(e:aW ρ H ρ' H'):RF W R ρ' H' Q EX r:=by
 cases r with
 |ok u st=>exact λρ2 H2 v e2 s r=>h ρ2 H2 v (e.trans e2) s r
 |err c st=>obtain⟨C,h1,h2⟩:=h;exact⟨C,h1,λρ2 H2 ea e2 s=>h2 ρ2 H2 ea (e.trans e2) s⟩
 |bad=>exact h
def tEE(X:Cx)(m:ME):Tg:=λσ H Q EX=>∃μ ρ st,RS (wo X) ρ H μ σ/\SR X.K ρ st H/\RF (wo X) (Rl X.K) ρ H Q EX (m μ st)
def Kf(W:Wo)(ρ:_d)(H:Hp)(D:Ends)(EX:EK):bY->Prop
 |.nx μ st=>∀ρ' H' σ',aW ρ H ρ' H'->SR W.K ρ' st H'->RS W ρ' H' μ σ'->D.nx σ' H'
 |.rt v st=>∀ρ' H' x,aW ρ H ρ' H'->SR W.K ρ' st H'->Rl W.K ρ' H' v x->D.rt x H'
 |.bk μ st=>∀ρ' H' σ',aW ρ H ρ' H'->SR W.K ρ' st H'->RS W ρ' H' μ σ'->D.bk σ' H'
 |.ct μ st=>∀ρ' H' σ',aW ρ H ρ' H'->SR W.K ρ' st H'->RS W ρ' H' μ σ'->D.ct σ' H'
 |.er c μ st=>∃C,W.mg c=some (.ref C)/\∀ρ' H' σ' ea,aW ρ H ρ' H'->SR W.K ρ' st H'->RS W ρ' H' μ σ'->EX (.ref C) ea σ' H'
 |.bad=>False
theorem Kf.mono{W:Wo}{r:bY}(h:Kf W ρ H D EX r)(e:aW ρ H ρ' H'):Kf W ρ' H' D EX r:=by
 cases r with
 |nx μ st=>exact λρ2 H2 σ2 e2 s r=>h ρ2 H2 σ2 (e.trans e2) s r
 |rt v st=>exact λρ2 H2 x e2 s r=>h ρ2 H2 x (e.trans e2) s r
 |bk μ st=>exact λρ2 H2 σ2 e2 s r=>h ρ2 H2 σ2 (e.trans e2) s r
 |ct μ st=>exact λρ2 H2 σ2 e2 s r=>h ρ2 H2 σ2 (e.trans e2) s r
 |er c μ st=>obtain⟨C,h1,h2⟩:=h;exact⟨C,h1,λρ2 H2 σ2 ea e2 s r=>h2 ρ2 H2 σ2 ea (e.trans e2) s r⟩
 |bad=>exact h
def LH(X:Cx)(m:MB):Nh:=λD EX σ H=>∃μ ρ st,RS (wo X) ρ H μ σ/\SR X.K ρ st H/\Kf (wo X) ρ H D EX (m μ st)
def Kg(m:Env->af->cz α):Env->af->cz α:=λμ st=>match m μ st with
 |.ok v aC=>.ok v aC
 |.err _ _=>.bad
 |.bad=>.bad
section
variable{p:Pos}{m:ME}{ms:MA}{f:FN}
theorem Ka.imp{t t':Tg}(h:Ka X e t)(k:∀σ H Q EX,t' σ H Q EX->t σ H Q EX):Ka X e t':=λae s σ H Q EX I q=>h ae s σ H Q EX I (k σ H Q EX q)
theorem Gx.imp{st:Stmt}{t t':Nh}(h:Gx X st t)(k:∀D EX σ H,t' D EX σ H->t D EX σ H):Gx X st t':=λae s σ H D EX I q=>h ae s σ H D EX I (k D EX σ H q)
theorem HQ{fd:FuncData}(F:qm X.prog X.w X.K X.mg X.base (nO X.prog X.w) k fa fd ps (Nj ⟨X.K,X.mg,[]⟩ f))(hr:fj k X.A)(hg:Gl X x)(hm:X.mg x=some (.ref fa))(hk:PySem.W.keepIn X.K (.ref fa)=true)(hb:Binds X.K fd ps [])(GJ:∀y,X.fn y=true)(ha:∀W,PA (X.pB W) (e::es) (tL X E0 ms))(sE:(x==("__debug__":Str))=false:=by decide)(he:starEach (e::es) X.env=(false,eval e X.env)::starEach es X.env:=by rfl)(ko:(backTo pos (starEach es X.env)).any (·.1)=false:=by rfl):
  Ka X (.Call (.Name x p) (e::es) [] pos) (tEE X (ak f (Kg ms))):=by
 refine Ka.imp (Hi F hr hg hm hk hb GJ ha sE he ko) ?_;rintro σ H Q EX ⟨μ,ρ,st,rs,sr,h⟩;refine⟨μ,ρ,st,rs,sr,?_⟩;unfold ak Kg at h;cases z:ms μ st with
 |ok us st1=>
  rw[z]at h;intro ρ1 H1 vs e1 cC r1;refine⟨us,ρ1,st1,r1,cC,?_⟩;have h':RF (wo X) (Rl X.K) ρ1 H1 Q EX (f us st1):=RF.mono h e1;revert h';cases f us st1 with
  |ok u bX=>exact λq=>q
  |err c bX=>exact λ⟨C,q1,q2⟩=>⟨C,q1,λρ2 H2 e2 s2 ea=>q2 ρ2 H2 ea e2 s2⟩
  |bad=>exact λq=>q
 |err c aC=>rw[z]at h;exact h.elim
 |bad=>rw[z]at h;exact h
theorem PL{σ:L2.St}{k:ah->af->bY}{μ:Env}{st:af}(rs:RS (wo X) ρ H μ σ)(sr:SR X.K ρ st H)(h:Kf (wo X) ρ H D EX ((m μ st).sb μ k))(c:∀u st1 ρ1 H1 x,aW ρ H ρ1 H1->SR X.K ρ1 st1 H1->Rl X.K ρ1 H1 u x->Kf (wo X) ρ1 H1 D EX (k u st1)->Q x H1):tEE X m σ H Q λcls ea H'=>EX cls ea σ H':=by
 refine⟨μ,ρ,st,rs,sr,?_⟩;cases z:m μ st with
 |ok u st1=>rw[z]at h;exact λρ1 H1 x e1 cC r1=>c u st1 ρ1 H1 x e1 cC r1 (Kf.mono h e1)
 |err c' st1=>rw[z]at h;obtain⟨C,q1,q2⟩:=h;exact⟨C,q1,λρ2 H2 ea e2 s2=>q2 ρ2 H2 σ ea e2 s2 (rs.mono e2)⟩
 |bad=>rw[z]at h;exact h
theorem Aj(he:Ka X e (tEE X m))(hs:swapsWith e none pos.line X.env=pure false:=by rfl):Gx X (.Expr e pos) (LH X (fg m)):=by refine Gx.imp (Hj he hs) ?_;rintro D EX σ H ⟨μ,ρ,st,rs,sr,h⟩;exact PL rs sr h λu st1 ρ1 H1 x e1 cC r1 h1=>h1 ρ1 H1 σ (aW.refl _ _) cC (rs.mono e1)
theorem yp{s1:Stmt}{a:MB}(h:Gx X s1 (LH X a)):wk X [s1] (LH X a):=Hk h
theorem PN{c:Expr}{sa sb:List Stmt}{t:MT}{a b:MB}(hc:∀W,PT (X.pB W) c (tT X E0 t))(ha:wk X sa (LH X a))(hb:wk X sb (LH X b)):Gx X (.If c sa sb pos) (LH X (mz (Kg t) a b)):=by
 refine Gx.imp (O5 hc ha hb) ?_;rintro D EX σ H ⟨μ,ρ,st,rs,sr,h⟩;refine⟨μ,ρ,st,rs,sr,?_⟩;unfold mz Kg at h;cases z:t μ st with
 |ok k st1=>
  rw[z]at h;intro ρ1 H1 k' e1 cC ek;cases ek;have h':=Kf.mono h e1;cases k with
  |true=>rw[VC rfl];exact⟨μ,ρ1,st1,rs.mono e1,cC,h'⟩
  |false=>rw[VI VQ];exact⟨μ,ρ1,st1,rs.mono e1,cC,h'⟩
 |err c aC=>rw[z]at h;exact h.elim
 |bad=>rw[z]at h;exact h
abbrev MH:=Str->MB
def TM:MH:=λ_ _ _=>.bad
def yq:bY->bY
 |.rt v st=>.rt v st
 |_=>.bad
def abB(sub:Str->Str->Option Bool)(x:Str)(lN:MB)(rest:MH):MH:=λc μ st=>match sub c x with
 |some true=>yq (lN μ st)
 |some false=>rest c μ st
 |none=>.bad
def RG(sub:Str->Str->Option Bool)(x:Str)(i:Nat)(lN:MB)(rest:MH):MH:=λc μ st=>match sub c x with
 |some true=>yq (lN (μ.set i (some (.exc c))) st)
 |some false=>rest c μ st
 |none=>.bad
def BW(kn:Str->Bool)(body:MB)(h:MH):MB:=λμ st=>match body μ st with
 |.er c μ' aC=>if kn c=true then h c μ' aC else .bad
 |.nx μ' aC=>.nx μ' aC
 |.rt v aC=>.rt v aC
 |.bk μ' aC=>.bk μ' aC
 |.ct μ' aC=>.ct μ' aC
 |.bad=>.bad
def PQ(X:Cx)(h:MH):Lf:=λD EX cls ea σ H=>∃c C μ ρ st,X.mg c=some (.ref C)/\cls=.ref C/\RS (wo X) ρ H μ σ/\SR X.K ρ st H/\Kf (wo X) ρ H D EX (h c μ st)
theorem PH.imp{t t':Lf}(h:PH X hs t)(k:∀D EX cls ea σ H,t' D EX cls ea σ H->t D EX cls ea σ H):PH X hs t':=λae s σ H D EX ea cls J q=>h ae s σ H D EX ea cls J (k D EX cls ea σ H q)
theorem PR:PH X [] (PQ X TM):=PH.imp O7 λD EX cls ea σ H q=>by obtain⟨c,C,μ,ρ,st,_,_,_,_,h⟩:=q;exact h
def TN(K:Z')(mg:Z!)(sub:Str->Str->Option Bool):Prop:=∀c x b C D,sub c x=some b->mg c=some (.ref C)->mg x=some (.ref D)->W.kitCls K (.ref C) (.ref D)=some b
theorem Dl.pn{K:Z'}{mg:Z!}{pn:Z?}(hp:∀q∈pn,q∈O!){u:ah}{v:V}(h:Dl ⟨K,mg,pn⟩ ρ H u v):Dl ⟨K,mg,O!⟩ ρ H u v:=by
 cases u with
 |exc c=>obtain⟨a,oe,C,h1,h2,h3⟩:=h;exact⟨a,oe,C,h1,hp _ h2,h3⟩
 |_=>exact h
theorem RS.pn{K:Z'}{mg:Z!}{pn:Z?}(hp:∀q∈pn,q∈O!){μ:Env}{σ:L2.St}(h:RS ⟨K,mg,pn⟩ ρ H μ σ):RS ⟨K,mg,O!⟩ ρ H μ σ:=
 ⟨h.len,λi u e=>let⟨v,h1,h2⟩:=h.at_ i u e;⟨v,h1,h2.pn hp⟩⟩
theorem TQ{n:Str}{rest:List ExceptHandler}{sub:Str->Str->Option Bool}{s:MB}{r:MH}(hS:TN X.K X.mg sub)(hN:X.N.Nodup)(hi:X.N[i]?=some n)(hl:X.env.scope.names.lookup n=some .local)(hg:Gl X x)(hm:X.mg x=some (.ref C))(hB:W.subIn X.K (.ref C) (.type "BaseException")=some true)(hs:∀ea oe,l? (L2.BL X ea oe) (b₀::lN) (tS (L2.BL X ea oe) E0 s))(hr:PH X rest (PQ X r))(hd:(x==("__debug__":Str))=false:=by decide):
  PH X (.ExceptHandler (some (.Name x np)) (some n) (b₀::lN) pos::rest) (PQ X (RG sub x i s r)):=by
 refine PH.imp (Th hN hi hl hg hm hB hs hr hd) ?_;rintro D EX cls ea σ H ⟨c,C',μ,ρ,st,h1,rfl,rs,sr,h⟩;unfold RG at h;split at h
 .rename_i e;refine⟨true,hS c x true C' C e h1 hm,?_⟩;rw[VC rfl];intro oe Lc;have xi:RS (wo (L2.BL X ea oe)) ρ H (μ.set i (some (.exc c))) (σ.set i (some (.ref ea))):=
   (RS.pn (λq hq=>VP _ hq) rs).Tt i ⟨ea,oe,C',rfl,VV,h1,Lc⟩
  refine⟨_,ρ,st,xi,sr,?_⟩;revert h;cases s (μ.set i (some (.exc c))) st with
  |rt v aC=>exact λq=>q
  |_=>exact λq=>q.elim
 .rename_i e;refine⟨false,hS c x false C' C e h1 hm,?_⟩;rw[VI VQ];exact⟨c,C',μ,ρ,st,h1,rfl,rs,sr,h⟩
 .exact h.elim
def Known(mg:Z!)(kn:Str->Bool):Prop:=∀c,kn c=true->∃C,mg c=some (.ref C)
theorem HR{kn:Str->Bool}{b:MB}{h:MH}(hk:Known X.mg kn){σ:L2.St}(q:LH X (BW kn b h) D EX σ H):LH X b D (λcls ea σ' H'=>PQ X h D EX cls ea σ' H') σ H:=by
 obtain⟨μ,ρ,st,rs,sr,q⟩:=q;refine⟨μ,ρ,st,rs,sr,?_⟩;unfold BW at q;cases z:b μ st with
 |er c μ' aC=>
  rw[z]at q;dsimp only at q;split at q
  .rename_i hc;obtain⟨C,hC⟩:=hk c hc;exact⟨C,hC,λρ' H' σ' ea e s r=>⟨c,C,μ',ρ',aC,hC,rfl,r,s,Kf.mono q e⟩⟩
  .exact q.elim
 |_=>rw[z]at q;exact q
def Ak(m:MB):MB:=λμ st=>match m μ st with
 |.er _ _ _=>.bad
 |.nx μ' aC=>.nx μ' aC
 |.rt v aC=>.rt v aC
 |.bk μ' aC=>.bk μ' aC
 |.ct μ' aC=>.ct μ' aC
 |.bad=>.bad
theorem PU{kn:Str->Bool}{body:List Stmt}{b:MB}{h:MH}(hk:Known X.mg kn)(dx:DefX X)(hb:wk X body (LH X b))(hh:PH X (h₀::hs) (PQ X h)):PS X (.Try body (h₀::hs) [] [] pos) (tS X E (Ak (BW kn b h))):=by
 refine PS.imp (O8 dx hb hh) ?_;rintro D σ H ⟨μ,ρ,st,rs,sr,q⟩;refine HR (EX:=λ_ _ _ _=>False) hk ⟨μ,ρ,st,rs,sr,?_⟩;unfold Ak at q;revert q;cases BW kn b h μ st with
 |er c μ' aC=>exact λq=>q.elim
 |_=>exact λq=>q
def yr(sub:Str->Str->Option Bool)(i:Nat)(x:Str):ME:=λμ st=>match μ[i]? with
 |some (some (.exc c))=>(match sub c x with
  |some true=>.ok (.bl true) st
  |_=>.bad)
 |_=>.bad
inductive ClsAt(X:Cx)(x:Str):_g->V->Prop
 |own {C:_i} (hm:X.mg x=some (.ref C)):ClsAt X x (.ref C) (.ref C)
 |blt {n:String} (hm:X.mg x=none) (hv:bootBuiltins x=some (.type n)) (hn:x ≠ "__name__"):ClsAt X x (.type n) (.ty n)
def TR(K:Z')(mg:Z!)(sub:Str->Str->Option Bool)(x:Str)(cv:_g):Prop:=∀c C,sub c x=some true->mg c=some (.ref C)->W.kitOne K (.ref C) cv=some true
theorem PV{sub:Str->Str->Option Bool}{n:Str}{cv:_g}{v:V}(hc:ClsAt X x cv v)(hS:TR X.K X.mg sub x cv)(hg:Gl X "isinstance")(hm:X.mg "isinstance" = none)(RH:Gl X x)(hN:X.N[i]?=some n)(hv:J7 X.env.scope n)(hd:(n==("__debug__":Str))=false)(qi:(n==("__classdict__":Str))=false)(RI:(x==("__debug__":Str))=false)(hs:starEach [.Name n q1,.Name x q2] X.env=(false,eval (.Name n q1) X.env)::starEach [.Name x q2] X.env:=by rfl)(jR:starEach [.Name x q2] X.env=(false,eval (.Name x q2) X.env)::starEach [] X.env:=by rfl)(ko:(backTo pos (starEach [.Name x q2] X.env)).any (·.1)=false:=by rfl):PE X (.Call (.Name "isinstance" p) [.Name n q1,.Name x q2] [] pos) (tE X E (yr sub i x)):=by
 have hx:PE X (.Name x q2) (tC v):=by
  cases hc with
  |own h=>exact xS RH h rfl RI
  |blt h1 h2 h3=>exact C5 RH h1 h2 rfl h3 RI
 refine PE.imp (pF ym hg hm XY (iZ (xR (i:=i) hN hv hd qi) (iZ hx ql jR) hs) (by decide) (by decide) hs ko) ?_;rintro σ H Q ⟨μ,ρ,st,rs,sr,h⟩;unfold yr at h;split at h
 .rename_i c e;split at h
  .rename_i es;obtain⟨w,e',a,oe,C,rfl,hp,hC,ho⟩:=rs.at_ i _ e;have hk:=hS c C es hC;rw[<-ho]at hk;cases hc with
   |own h'=>exact⟨_,e',a,oe,_,.inl ⟨rfl,hk⟩,hp,gP sr h⟩
   |blt h1 h2 h3=>exact⟨_,e',a,oe,0,.inr ⟨_,rfl,hk⟩,hp,gP sr h⟩
  .exact h.elim
 .exact h.elim
end
inductive g?(X:Cx)(scope:Scope):List (Str×_i)->List Nat->Prop
 |nil:g? X scope [] []
 |cons {y:Str} {c:_i} {j:Nat} {cl:List (Str×_i)} {bE:List Nat} (sub:X.env.cells.lookup y=some c) (hX:X.N[j]?=some y) (hk:X.env.kindOf y=some .cell\/X.env.kindOf y=some .free)
   (hr:(relabel scope X.env).names.lookup y=some .cell\/(relabel scope X.env).names.lookup y=some .free) (r:g? X scope cl bE):g? X scope ((y,c)::cl) (j::bE)
theorem g?.sub{X:Cx}{scope:Scope}{cl:List (Str×_i)}{bE:List Nat}(A:g? X scope cl bE):∀x c,cl.lookup x=some c->X.env.cells.lookup x=some c:=by
 induction A with
 |nil=>intro x c h;cases h
 | @cons y c0 _ _ _ sub _ _ _ _ ih=>
  intro x c h;rw[List.lookup_cons]at h;by_cases e:x=y
  .rw[WO.mpr e]at h;rw[e];exact sub.trans h
  .rw[WD.mpr e]at h;exact ih x c h
theorem g?.at_(A:g? X scope cl bE):∀(i j:Nat)(x:Str),bE[i]?=some j->(cl.map (·.1))[i]?=some x ->
  X.N[j]?=some x/\(X.env.kindOf x=some .cell\/X.env.kindOf x=some .free)/\((relabel scope X.env).names.lookup x=some .cell\/(relabel scope X.env).names.lookup x=some .free):=by
 induction A with
 |nil=>intro i j x h;cases h
 |cons _ hX hk hr _ ih=>
  intro i j x h h2;cases i with
  |zero=>cases h;cases h2;exact⟨hX,hk,hr⟩
  |succ i=>exact ih i j x h h2
theorem jT:∀{cl:List (Str×_i)}{x:Str},x∈cl.map (·.1)->∃c,cl.lookup x=some c
 |[],x,h=>by simp at h
 |(y,c)::cl,x,h=>by
  by_cases e:x=y
  .exact⟨c,by simp[e]⟩
  .have e':(x==y)=false:=by simpa using e
   rw[Vs,V5]at h;rcases h with h|h
   .exact absurd h e
   .obtain⟨d,hd⟩:=jT h;exact⟨d,by simp only[List.lookup_cons,e'];exact hd⟩
theorem TU(sI:closureFor scope X.env=pure cl)(A:g? X scope cl bE)(has:((relabel scope X.env).names.all λp => !(p.2 == .cell || p.2 == .free) || (cl.map (·.1)).contains p.1)=true)(gA:(scope.names.all λp => !(p.2 == .cell))=true)(kind:scope.kind=.function)(names:(scope.names.all λp => !(p.2 == .local) || scope.names.lookup p.1==some .local)=true)(len:N.length=k+bE.length)(hN:N.drop k=cl.map (·.1)):uv X N scope cl k bE where
 sI:=sI
 sub:=A.sub
 has:=λx h=>by
  have m:x∈cl.map (·.1):=by rcases h with h|h<;>(have m:=WA h;have z:=Wr.mp has _ m;simpa using z)
  exact jT m
 gA:=λx hx h=>by have z:=Wr.mp gA x hx;simp[h]at z
 kind:=kind
 names:=λx hx h=>by have z:=Wr.mp names x hx;simpa[h]using z
 len:=len
 at_:=λi j x h1 h2=>A.at_ i j x h1 (by rw[<-hN,Y7];exact h2)
def FnAt(P:_k)(w:World)(K:Z')(mg:Z!)(base:Heap)(x:Str)(k:Nat)(f:FN):Prop:=
 ∃fa fd ps,qm P w K mg base (nO P w) k fa fd ps (Nj ⟨K,mg,[]⟩ f)/\mg x=some (.ref fa)/\W.keepIn K (.ref fa)=true/\Binds K fd ps []
section
variable{p:Pos}{ms:MA}{f:FN}
theorem TV(G:FnAt X.prog X.w X.K X.mg X.base x k f)(hr:fj j X.A)(hk:k<=j)(hg:Gl X x)(hx:Passes (nO X.prog X.w) X E)(ha:PA X (e::es) (tL X E ms))(sE:(x==("__debug__":Str))=false:=by decide)(he:starEach (e::es) X.env=(false,eval e X.env)::starEach es X.env:=by rfl)(ko:(backTo pos (starEach es X.env)).any (·.1)=false:=by rfl):PE X (.Call (.Name x p) (e::es) [] pos) (tE X E (ak f ms)):=by obtain⟨fa,fd,ps,F,hm,kp,b⟩:=G;exact Ln F (hr.mono hk) hg hm kp b hx ha sE he ko
theorem HS(G:FnAt X.prog X.w X.K X.mg X.base x k f)(hr:fj j X.A)(hk:k<=j)(hg:Gl X x)(GJ:∀y,X.fn y=true)(ha:∀W,PA (X.pB W) (e::es) (tL X E0 ms))(sE:(x==("__debug__":Str))=false:=by decide)(he:starEach (e::es) X.env=(false,eval e X.env)::starEach es X.env:=by rfl)(ko:(backTo pos (starEach es X.env)).any (·.1)=false:=by rfl):Ka X (.Call (.Name x p) (e::es) [] pos) (tEE X (ak f (Kg ms))):=by obtain⟨fa,fd,ps,F,hm,kp,b⟩:=G;exact HQ F (hr.mono hk) hg hm kp b GJ ha sE he ko
end
section
variable{K:Z'}{mg:Z!}
theorem FnAt.mk{st:Stmt}{fd:FuncData}{body:MB}(F:Gw K x x st f fd)(hm:mg x=some (.ref f))(S:fN N ps (aY st))(hb:∀(kV doc pm:_g)(an:Option _i)(fF ct:_g)(us:_b),us.length=ps.length->bindArgs (W.fnOf x x (gw st) (dg st) (aY st) .none kV doc pm an fF ct) ⟨us,[]⟩=pure (ps.zip us))
  (h:∀ (fF:_g) (A:_j) (outer:List PySem.Env) (s:_h) (H:Hp) (E:XK),fj k (A.deeper (envOfC x (aY st) s.heap.objs.size f fF)) ->
   l? (iI (nO P w) P w K mg base N x (aY st) f fF A outer s H E) (dg st) (tS (iI (nO P w) P w K mg base N x (aY st) f fF A outer s H E) E body)):FnAt P w K mg base x (k+1) (g_ ps.length N.length body):=
 ⟨f,fd,ps,Hw F S h,hm,F.kp,F.binds hb⟩
theorem Al{cd:_g}{outer:List PySem.Env}:PassesOwn (model P w) (A.deeper (envOfC qual scope s₀.heap.objs.size f cd)) (envOfC qual scope s₀.heap.objs.size f cd) (iI (nO P w) P w K mg base N qual scope f cd A outer s₀ H₀ E).xe:=
 PassesOwn.leaving
theorem BX{cd:_g}{outer:List PySem.Env}:Raises (iI (nO P w) P w K mg base N qual scope f cd A outer s₀ H₀ E) E:=
 λae σ H s h' e cls vs I hx hE=>E3 I hx hE
theorem Glob.int{i:Int}{t:Tok}(h:mg x=some (.int i t)):Glob K mg x (.int i):=⟨_,.int i,h,⟨t,rfl⟩,λ_ _=>Rl.mkInt i⟩
theorem Glob.ints{a:_i}{o:Obj}{aP:Array _g}{n:Nat}(h:mg x=some (.ref a))(l:K.lookup a=some o)(hc:o.cls=.type "tuple")(hd:o.data=.seq aP n)(hz:aP.size<=sizeLine)(hv:bo (ns.map V.int) aP.toList):Glob K mg x (.mt (ns.map .int)):=
 ⟨_,.ref a,h,rfl,λρ H=>Rl.aaV (.inr ⟨o,aP,n,l,hc,hd,hz,hv⟩) (bt.ints ns)⟩
end
theorem oF:bootBuiltins "ValueError" = some (.type "ValueError"):=by decide +kernel
abbrev bmV:_b:=[.type "ValueError",.type "Exception",.type "BaseException",.type "object"]
def HU(K:Z')(mg:Z!)(x:Str):Prop:=∃C,mg x=some (.ref C)/\W.excIn K C bmV "ValueError.__new__" = true/\W.subIn K (.ref C) (.type "BaseException")=some true
theorem Fl{K:Z'}{D:_i}{t:_g}{cd:ClassData}{b:Bool}(h1:W.clsIn K D=some cd)(h2:W.typeIn K (.ref D)=some (.type "type"))(h3:W.subIn K t (.ref D)=some b):W.kitCls K t (.ref D)=some b:=by show(if((W.clsIn K D).isSome&&W.typeIn K (.ref D)==some (.type "type"))=true then W.subIn K t (.ref D)else none)=some b;rw[h1,h2,h3];rfl
inductive gj(K:Z')(mg:Z!):List (Str×Str×Bool)->Prop
 |nil:gj K mg []
 |own {c x:Str} {b:Bool} {C D:_i} {r:List (Str×Str×Bool)} (h1:mg c=some (.ref C)) (h2:mg x=some (.ref D)) (h3:W.kitCls K (.ref C) (.ref D)=some b) (hr:gj K mg r):gj K mg ((c,x,b)::r)
 |blt {c x:Str} {n:String} {C:_i} {r:List (Str×Str×Bool)} (h1:mg c=some (.ref C)) (h2:mg x=none) (Kh:bootBuiltins x=some (.type n)) (h3:W.kitOne K (.ref C) (.type n)=some true) (hr:gj K mg r):gj K mg ((c,x,true)::r)
def eM(tab:List (Str×Str×Bool))(c x:Str):Option Bool:=match tab with
 |[]=>none
 |(c',x',b)::r=>if c'=c/\x'=x then some b else eM r c x
section
variable{K:Z'}{mg:Z!}
theorem gj.TX{tab:List (Str×Str×Bool)}(S:gj K mg tab):TN K mg (eM tab):=by
 induction S with
 |nil=>intro c x b C D h;cases h
 | @own c' x' _ _ _ _ h1 h2 h3 _ ih=>
  intro c x b C D h e1 e2;rw[eM]at h;by_cases z:c'=c/\x'=x
  .rw[VC z]at h;cases h;rw[z.1,e1]at h1;cases h1;rw[z.2,e2]at h2;cases h2;exact h3
  .rw[VI z]at h;exact ih c x b C D h e1 e2
 | @blt c' x' _ _ _ h1 h2 _ _ _ ih=>
  intro c x b C D h e1 e2;rw[eM]at h;by_cases z:c'=c/\x'=x
  .rw[z.2,e2]at h2;cases h2
  .rw[VI z]at h;exact ih c x b C D h e1 e2
theorem gj.aaZ{tab:List (Str×Str×Bool)}(S:gj K mg tab):∀(x:Str)(cv:_g),(∃D,cv=.ref D/\mg x=some (.ref D))\/(∃n,cv=.type n/\bootBuiltins x=some (.type n)/\mg x=none)->TR K mg (eM tab) x cv:=by
 induction S with
 |nil=>intro x cv _ c C h;cases h
 | @own c' x' _ _ _ _ h1 h2 h3 _ ih=>
  intro x cv hx c C h e1;rw[eM]at h;by_cases z:c'=c/\x'=x
  .rw[VC z]at h;cases h;rw[z.1,e1]at h1;cases h1;rw[z.2]at h2;rcases hx with⟨D,rfl,e2⟩|⟨n,rfl,_,e2⟩
   .rw[h2]at e2;cases e2;unfold W.kitOne;split
    .rfl
    .exact h3
   .rw[h2]at e2;cases e2
  .rw[VI z]at h;exact ih x cv hx c C h e1
 | @blt c' x' _ _ _ h1 h2 Kh h3 _ ih=>
  intro x cv hx c C h e1;rw[eM]at h;by_cases z:c'=c/\x'=x
  .rw[VC z]at h;cases h;rw[z.1,e1]at h1;cases h1;rw[z.2]at h2 Kh;rcases hx with⟨D,rfl,e2⟩|⟨n,rfl,e2,_⟩
   .rw[h2]at e2;cases e2
   .rw[Kh]at e2;cases e2;exact h3
  .rw[VI z]at h;exact ih x cv hx c C h e1
def knL(l:_e)(c:Str):Bool:=l.contains c
end
section
variable{p:Pos}{n:Str}{ms:MA}{rest:List ExceptHandler}{tab:List (Str×Str×Bool)}{s:MB}{r:MH}
theorem Fm(hX:Raises X E)(hc:X.calm=true)(h:HU X.K X.mg x)(hg:Gl X x)(ha:PA X (e₀::es) (tL X E ms))(he:starEach (e₀::es) X.env=(false,eval e₀ X.env)::starEach es X.env:=by rfl)(ko:(backTo cy (starEach es X.env)).any (·.1)=false:=by rfl)(hd:(x==("__debug__":Str))=false:=by decide):
  PS X (.Raise (some (.Call (.Name x np) (e₀::es) [] cy)) none pos) (tS X E (kE x ms)):=by
 obtain⟨C,hm,hq,_⟩:=h;exact Hv hX hc hm hq PySem.F.excBase_ValueError hg ha he ko hd
theorem PX(hS:gj X.K X.mg tab)(hN:X.N.Nodup)(h:HU X.K X.mg x)(hg:Gl X x)(hs:∀ea oe,l? (L2.BL X ea oe) (b₀::lN) (tS (L2.BL X ea oe) E0 s))(hr:PH X rest (PQ X r))(hi:X.N[i]?=some n:=by rfl)(hl:X.env.scope.names.lookup n=some .local:=by rfl)(hd:(x==("__debug__":Str))=false:=by decide):
  PH X (.ExceptHandler (some (.Name x np)) (some n) (b₀::lN) pos::rest) (PQ X (RG (eM tab) x i s r)):=by
 obtain⟨C,hm,_,hB⟩:=h;exact TQ hS.TX hN hi hl hg hm hB hs hr hd
theorem LJ(i:Nat){T:String}(hS:gj X.K X.mg tab)(hmx:X.mg x=none)(hb:bootBuiltins x=some (.type T))(hg:Gl X "isinstance")(hm:X.mg "isinstance" = none)(RH:Gl X x)(hN:X.N[i]?=some n:=by rfl)(hv:J7 X.env.scope n:=by first|exact Or.inl rfl|exact Or.inr (Or.inl rfl))(hn:x ≠ "__name__":=by decide)(hd:(n==("__debug__":Str))=false:=by decide)(qi:(n==("__classdict__":Str))=false:=by decide)(RI:(x==("__debug__":Str))=false:=by decide)(hs:starEach [.Name n q1,.Name x q2] X.env=(false,eval (.Name n q1) X.env)::starEach [.Name x q2] X.env:=by rfl)(jR:starEach [.Name x q2] X.env=(false,eval (.Name x q2) X.env)::starEach [] X.env:=by rfl)(ko:(backTo pos (starEach [.Name x q2] X.env)).any (·.1)=false:=by rfl):PE X (.Call (.Name "isinstance" p) [.Name n q1,.Name x q2] [] pos) (tE X E (yr (eM tab) i x)):=
 PV (.blt hmx hb hn) (hS.aaZ x _ (.inr ⟨T,rfl,hb,hmx⟩)) hg hm RH hN hv hd qi RI hs jR ko
end
section
variable[DecidableEq κ]
def qw(a8:List (κ×ah))(k:κ):Option ah:=(a8.find? λkv=>decide (kv.1=k)).map (·.2)
def yt(a8:List (κ×ah))(k:κ)(v:ah):List (κ×ah):=
 if(a8.any λkv=>decide (kv.1=k))=true then a8.map (λkv=>if kv.1=k then(kv.1,v)else kv)else a8++[(k,v)]
variable{K:Z'}
theorem jD.nil:jD K ρ H ([]:List (κ×ah)) []:=⟨rfl,bt.nil⟩
theorem jD.cons{k:κ}{u:ah}{v:V}{a8:List (κ×ah)}{iD:List (κ×V)}(r:Rl K ρ H u v)(p:jD K ρ H a8 iD):jD K ρ H ((k,u)::a8) ((k,v)::iD):=
 ⟨by simp only[Vs,p.1],bt.cons r p.2⟩
theorem jD.cN{k:κ}{u:ah}{a8:List (κ×ah)}{l:List (κ×V)}(p:jD K ρ H ((k,u)::a8) l):∃v iD,l=(k,v)::iD/\Rl K ρ H u v/\jD K ρ H a8 iD:=by
 obtain⟨h1,h2⟩:=p;cases l with
 |nil=>simp at h1
 |cons x l=>
  obtain⟨k',v⟩:=x;simp only[Vs,List.cons.injEq]at h1 h2;obtain⟨rfl,h1⟩:=h1;obtain⟨v',r,e,q1,q2⟩:=h2.cN;simp only[List.cons.injEq]at e;obtain⟨rfl,rfl⟩:=e;exact⟨v,l,rfl,q1,h1,q2⟩
theorem jD.gg{l:List (κ×V)}(p:jD K ρ H ([]:List (κ×ah)) l):l=[]:=by
 have:=p.1;cases l with
 |nil=>rfl
 |cons=>simp at this
theorem jD.mono{a8:List (κ×ah)}{l:List (κ×V)}(p:jD K ρ H a8 l)(e:aW ρ H ρ' H'):jD K ρ' H' a8 l:=⟨p.1,bt.mono e _ _ p.2⟩
theorem jD.length{a8:List (κ×ah)}{l:List (κ×V)}(p:jD K ρ H a8 l):a8.length=l.length:=by have:=X5 List.length p.1;simpa using this
theorem jD.val(k:κ):∀{a8:List (κ×ah)}{l:List (κ×V)},jD K ρ H a8 l->(qw a8 k=none/\kC l k=none)\/∃u v,qw a8 k=some u/\kC l k=some v/\Rl K ρ H u v
 |[],l,p=>by rw[p.gg];exact .inl ⟨rfl,rfl⟩
 |(k',u)::a8,l,p=>by
  obtain⟨v,l',rfl,r,p'⟩:=p.cN;by_cases e:k'=k
  .exact .inr ⟨u,v,by simp[qw,e],by simp[kC,e],r⟩
  .rcases jD.val k p' with⟨h1,h2⟩|⟨u',v',h1,h2,h3⟩
   .exact .inl ⟨by simpa[qw,e]using h1,by simpa[kC,e]using h2⟩
   .exact .inr ⟨u',v',by simpa[qw,e]using h1,by simpa[kC,e]using h2,h3⟩
theorem jD.any(k:κ):∀{a8:List (κ×ah)}{l:List (κ×V)},jD K ρ H a8 l->(a8.any λkv=>decide (kv.1=k))=l.any λkv=>decide (kv.1=k)
 |[],l,p=>by rw[p.gg];rfl
 |(k',u)::a8,l,p=>by obtain⟨v,l',rfl,r,p'⟩:=p.cN;simp only[XO,jD.any k p']
theorem jD.BE(k:κ){u:ah}{v:V}(r:Rl K ρ H u v):∀{a8:List (κ×ah)}{l:List (κ×V)},jD K ρ H a8 l->jD K ρ H (a8.map λkv=>if kv.1=k then(kv.1,u)else kv) (l.map λkv=>if kv.1=k then(kv.1,v)else kv)
 |[],l,p=>by rw[p.gg];exact jD.nil
 |(k',u')::a8,l,p=>by
  obtain⟨v',l',rfl,r',p'⟩:=p.cN;simp only[Vs];by_cases e:k'=k
  .rw[VC e,VC e];exact jD.cons r (jD.BE k r p')
  .rw[VI e,VI e];exact jD.cons r' (jD.BE k r p')
theorem jD.snoc{k:κ}{u:ah}{v:V}(r:Rl K ρ H u v):∀{a8:List (κ×ah)}{l:List (κ×V)},jD K ρ H a8 l->jD K ρ H (a8++[(k,u)]) (l++[(k,v)])
 |[],l,p=>by rw[p.gg];exact jD.cons r jD.nil
 |(k',u')::a8,l,p=>by obtain⟨v',l',rfl,r',p'⟩:=p.cN;exact jD.cons r' (jD.snoc r p')
theorem jD.put(k:κ){u:ah}{v:V}(r:Rl K ρ H u v){a8:List (κ×ah)}{l:List (κ×V)}(p:jD K ρ H a8 l):jD K ρ H (yt a8 k u) (putK l k v):=by
 unfold yt putK;rw[p.any k];split
 .exact p.BE k r
 .exact p.snoc r
end
def uK:ah->Option fe
 |.int i=>some (.inl i)
 |.str x=>some (.inr x)
 |_=>none
def keysOf:List ah->Option (List fe)
 |[]=>some []
 |u::us=>match uK u,keysOf us with
  |some k,some ks=>some (k::ks)
  |_,_=>none
def uL:ah->Option (List fe)
 |.tup us=>keysOf us
 |_=>none
section
variable{K:Z'}
theorem yu{u:ah}{v:V}{k:fe}(r:Rl K ρ H u v)(h:uK u=some k):v=kV k:=by
 cases u with
 |int i=>cases h;exact r.cP
 |str x=>cases h;exact r.mj
 |_=>cases h
theorem Am:∀{us:List ah}{vs:List V}{ks:List fe},bt K ρ H us vs->keysOf us=some ks->vs=ks.map kV
 |[],vs,ks,r,h=>by cases h;exact r.gg
 |u::us,vs,ks,r,h=>by
  obtain⟨v,r',rfl,h2,h3⟩:=r.cN;unfold keysOf at h;split at h
  .rename_i k ks' e1 e2;cases h;rw[yu h2 e1,Am h3 e2];rfl
  .cases h
theorem An{u:ah}{v:V}{ks:List fe}(r:Rl K ρ H u v)(h:uL u=some ks):∃b,v=.ref b/\H b=some (.tup (ks.map kV)):=by
 cases u with
 |tup us=>
  obtain⟨b,vs,rfl,hb,rb⟩:=r.Ts;rw[Am rb h]at hb;exact⟨b,rfl,hb⟩
 |_=>cases h
end
def Dw(st:af)(d k:ah):Option (Option ah):=match d with
 |.loc n=>match st[n]? with
  |some (.dK a8)=>(uK k).map λq=>qw a8 q
  |some (.dT a8)=>(uL k).map λq=>qw a8 q
  |_=>none
 |_=>none
def qz(st:af)(d k v:ah):Option af:=match d with
 |.loc n=>match st[n]? with
  |some (.dK a8)=>if a8.length<sizeLine then(uK k).map λq=>st.set n (.dK (yt a8 q v))else none
  |some (.dT a8)=>if a8.length<sizeLine then(uL k).map λq=>st.set n (.dT (yt a8 q v))else none
  |_=>none
 |_=>none
theorem Fn{K:Z'}{st:af}{d k:ah}{x y:V}{o:Option ah}(sr:SR K ρ st H)(rd:Rl K ρ H d x)(rk:Rl K ρ H k y)(h:Dw st d k=some o):
  ∃a o',x=.ref a/\we H a y o'/\IsD H a/\((o=none/\o'=none)\/∃u v,o=some u/\o'=some v/\Rl K ρ H u v):=by
 cases d with
 |loc n=>
  obtain⟨a,rfl,ha⟩:=rd.ff;unfold Dw at h;dsimp only at h;split at h
  .rename_i a8 e;obtain⟨l,hl,p⟩:=sr.cell n _ a e ha;cases z:uK k with
   |none=>rw[z]at h;cases h
   |some q=>
    rw[z]at h;cases h;have:=yu rk z;subst this;exact⟨a,kC l q,rfl,we.k hl,.inl ⟨l,.inl hl⟩,p.val q⟩
  .rename_i a8 e;obtain⟨l,hl,p⟩:=sr.cell n _ a e ha;cases z:uL k with
   |none=>rw[z]at h;cases h
   |some q=>
    rw[z]at h;cases h;obtain⟨b,rfl,hb⟩:=An rk z;exact⟨a,kC l q,rfl,we.t hl hb,.inr ⟨l,.inl hl⟩,p.val q⟩
  .cases h
 |_=>cases h
theorem BY{K:Z'}{st aC:af}{d k v:ah}{x y z:V}(sr:SR K ρ st H)(rd:Rl K ρ H d x)(rk:Rl K ρ H k y)(rv:Rl K ρ H v z)(h:qz st d k v=some aC):
  ∃a H',x=.ref a/\yi H a y z H'/\aW ρ H ρ H'/\SR K ρ aC H':=by
 cases d with
 |loc n=>
  obtain⟨a,rfl,ha⟩:=rd.ff;unfold qz at h;dsimp only at h;split at h
  .rename_i a8 e;obtain⟨l,hl,p⟩:=sr.cell n _ a e ha;split at h
   .rename_i hz;cases zk:uK k with
    |none=>rw[zk]at h;cases h
    |some q=>
     rw[zk]at h;cases h;have:=yu rk zk;subst this;have st1:aW ρ H ρ (upd H a (.dK (putK l q z))):=aW.put hl (λ_ z=>by cases z) (λ_ _ z=>by cases z);exact⟨a,_,rfl,yi.k hl (by rw[<-p.length];exact hz),st1,sr.set e rfl rfl ha hl (λ_ z=>by cases z) (λ_ _ z=>by cases z) ⟨_,b8,(p.put q rv).mono st1⟩⟩
   .cases h
  .rename_i a8 e;obtain⟨l,hl,p⟩:=sr.cell n _ a e ha;split at h
   .rename_i hz;cases zk:uL k with
    |none=>rw[zk]at h;cases h
    |some q=>
     rw[zk]at h;cases h;obtain⟨b,rfl,hb⟩:=An rk zk;have st1:aW ρ H ρ (upd H a (.dT (putK l q z))):=aW.put hl (λ_ z=>by cases z) (λ_ _ z=>by cases z);exact⟨a,_,rfl,yi.t hl hb (by rw[<-p.length];exact hz),st1,sr.set e rfl rfl ha hl (λ_ z=>by cases z) (λ_ _ z=>by cases z) ⟨_,b8,(p.put q rv).mono st1⟩⟩
   .cases h
  .cases h
 |_=>cases h
def yw:ME:=λ_ st=>.ok (.loc st.length) (st++[.dK []])
def se:F2:=λd k st=>match Dw st d k with
 |some (some v)=>.ok v st
 |_=>.bad
def yx(d k v:ME):MB:=λμ st=>(v μ st).sb μ λvv st1=>(d μ st1).sb μ λdv bX=>(k μ bX).sb μ λkv oD=>match qz oD dv kv vv with
 |some ph=>.nx μ ph
 |none=>.bad
section
variable{i f:Expr}{md mk mv mx:ME}
theorem HV{K:Z'}{st:af}(sr:SR K ρ st H){p:_i}(hp:H p=none){ob:HO}{c:aS}(k:iE K (ρ++[p]) (upd H p ob) c p):
  aW ρ H (ρ++[p]) (upd H p ob)/\SR K (ρ++[p]) (st++[c]) (upd H p ob)/\Rl K (ρ++[p]) (upd H p ob) (.loc st.length) (.ref p):=by
 refine⟨aW.snoc p (eJ hp),sr.alloc hp k,Rl.Ho ?_⟩;rw[<-sr.len,V4 (VD _),W5];rfl
theorem HW:PE X (.Dict [] [] pos) (tE X E yw):=by refine PE.imp G9 ?_;rintro σ H Q ⟨μ,ρ,st,rs,sr,h⟩ p hp;obtain⟨k1,k2,k3⟩:=HV (c:=.dK []) sr hp ⟨[],b8,jD.nil⟩;exact h _ _ _ k1 k2 k3
theorem LK(hu:X.A.units+64<cLine)(ho:PE X o (tE X E md))(hi:PE X i (tE X E mk))(hs:OR i:=by exact λ_ _=>rfl):PE X (.Subscript o i pos) (tE X E (ag se md mk)):=by
 refine PE.imp (K6 (by lia) ho hi hs) ?_;rintro σ H Q ⟨μ,ρ,st,rs,sr,h⟩;refine go μ ρ st rs sr h λd st1 ρ1 H1 x e1 cC r1 h1=>?_;refine go μ ρ1 st1 (rs.mono e1) cC h1 λk bX ρ2 H2 y e2 pJ r2 h2=>?_;unfold se at h2;split at h2
 .rename_i u hl;obtain⟨a,o',rfl,hd,_,hv⟩:=Fn pJ (Rl.mono e2 _ _ r1) r2 hl;rcases hv with⟨z,_⟩|⟨u',v,z,rfl,rv⟩
  .cases z
  .cases z;exact⟨a,v,rfl,hd,h2 ρ2 H2 v (aW.refl _ _) pJ rv⟩
 .exact h2.elim
theorem LL(hu:X.A.units+64<cLine)(ho:PE X o (tE X E md))(hi:PE X i (tE X E mk))(hv:PE X value (tE X E mv))(hs:swapsWith value (some (.Subscript o i pos')) pos.line X.env=pure false:=by rfl):
  PS X (.Assign [.Subscript o i pos'] value pos) (tS X E (yx md mk mv)):=by
 refine PS.imp (K7 (by lia) ho hi hv hs) ?_;rintro D σ H ⟨μ,ρ,st,rs,sr,h⟩;refine Bo μ ρ st rs sr h λv st1 ρ1 H1 z e1 cC r1 h1=>?_;refine Bo μ ρ1 st1 (rs.mono e1) cC h1 λd bX ρ2 H2 x e2 pJ r2 h2=>?_;refine Bo μ ρ2 bX ((rs.mono e1).mono e2) pJ h2 λk oD ρ3 H3 y e3 Gy r3 h3=>?_;split at h3
 .rename_i ph xT;obtain⟨a,H4,rfl,hd,s4,sP⟩:=BY Gy (Rl.mono e3 _ _ r2) r3 (Rl.mono (e2.trans e3) _ _ r1) xT;exact⟨a,H4,rfl,hd,h3 ρ3 H4 σ s4 sP ((((rs.mono e1).mono e2).mono e3).mono s4)⟩
 .exact h3.elim
end
section
variable{ms:MA}
theorem BZ{a b:Expr}{ma mb:ME}(ha:PE X a (tE X E ma))(hb:PE X b (tE X E mb))(hs:xZ b:=by exact λ_ _=>rfl):PE X (.Subscript a b pos) (tE X E (ag bQ ma mb)):=TB aaY ha hb hs
end
def wm(us:List ah)(lo hi:Option Int):List ah:=(us.drop (HT.gM us.length 0 lo)).take (HT.gM us.length us.length hi-HT.gM us.length 0 lo)
theorem bt.cut{K:Z'}{us:List ah}{vs:List V}(r:bt K ρ H us vs)(lo hi:Option Int):bt K ρ H (wm us lo hi) (xX vs lo hi):=by unfold wm xX;rw[r.length];exact bt.take _ (bt.drop _ r)
abbrev MO:=Env->af->cz (Option Int)
abbrev RO:_d->Hp->Option Int->Option Int->Prop:=λ_ _ a b=>b=a
abbrev tOo(X:Cx)(E:XK)(m:MO):TO:=tG (wo X) E RO m
def jG:MO:=λ_ st=>.ok none st
def jH(m:ME):MO:=λμ st=>(m μ st).bind λv aC=>match v with
 |.int i=>.ok (some i) aC
 |_=>.bad
def HX(lo hi:Option Int):ah->af->cz ah
 |.tup us,st=>if HT.gM us.length 0 lo=0/\HT.gM us.length us.length hi=us.length then .bad else .ok (.tup (wm us lo hi)) st
 |.loc n,st=>match ao st n with
  |some us=>.ok (.loc st.length) (st++[.lst (wm us lo hi)])
  |none=>.bad
 |_,_=>.bad
def B0(a:ME)(lo hi:MO):ME:=λμ st=>(a μ st).bind λx st1=>(lo μ st1).bind λl bX=>(hi μ bX).bind λh oD=>HX l h x oD
section
variable{m:ME}
theorem PO.imp{e:Option Expr}{t t':TO}(h:PO X e t)(k:∀σ H Q,t' σ H Q->t σ H Q):PO X e t':=λae s σ H Q I q=>h ae s σ H Q I (k σ H Q q)
theorem LM:PO X none (tOo X E jG):=PO.imp KR λσ H Q⟨μ,ρ,st,rs,sr,h⟩=>h ρ H none (aW.refl _ _) sr rfl
theorem LN(h:PE X e (tE X E m)):PO X (some e) (tOo X E (jH m)):=by
 refine PO.imp (KS h) ?_;rintro σ H Q ⟨μ,ρ,st,rs,sr,h⟩;refine go μ ρ st rs sr h λu st1 ρ1 H1 x e1 cC r1 h1=>?_;cases u with
 |int i=>exact⟨i,r1.cP,h1 ρ1 H1 (some i) (aW.refl _ _) cC rfl⟩
 |_=>exact h1.elim
theorem TY{lo hi:Option Expr}{ml mh:MO}(he:PE X e (tE X E m))(hl:PO X lo (tOo X E ml))(hh:PO X hi (tOo X E mh)):PE X (.Subscript e (.Slice lo hi none p2) pos) (tE X E (B0 m ml mh)):=by
 refine PE.imp (GX (M9.or KY OE) he hl hh) ?_;rintro σ H Q ⟨μ,ρ,st,rs,sr,h⟩;refine go μ ρ st rs sr h λu st1 ρ1 H1 x e1 cC r1 h1=>?_;refine go (R1:=RO) μ ρ1 st1 (rs.mono e1) cC h1 λl bX ρ2 H2 l' e2 pJ r2 h2=>?_;cases r2;refine go (R1:=RO) μ ρ2 bX ((rs.mono e1).mono e2) pJ h2 λk oD ρ3 H3 k' e3 Gy r3 h3=>?_;cases r3;have ru:=Rl.mono e3 _ _ (Rl.mono e2 _ _ r1);cases u with
 |tup us=>
  obtain⟨a,vs,rfl,ha,ra⟩:=ru.i!;unfold HX at h3;dsimp only at h3;split at h3
  .exact h3.elim
  .rename_i hz;refine .inr ⟨a,vs,rfl,ha,by rw[<-ra.length];exact hz,λp hp=>?_⟩;have s:=eJ (o:=.tup (xX vs l k)) hp;exact h3 ρ3 _ _ (aW.same s) (Gy.grow s) (Rl.xa b8 (bt.mono (aW.same s) _ _ (ra.cut l k)))
 |loc n=>
  obtain⟨a,rfl,ha⟩:=ru.ff;cases z:ao oD n with
  |none=>simp only[HX,z]at h3;exact h3.elim
  |some us=>
   simp only[HX,z]at h3;obtain⟨vs,hs,rv⟩:=bw Gy z ha;refine .inl ⟨a,vs,rfl,hs,λp hp=>?_⟩;obtain⟨k1,k2,k3⟩:=il Gy (rv.cut l k) hp;exact h3 _ _ _ k1 k2 k3
 |_=>exact h3.elim
end
def HY(f:FM)(o:ME):ME:=λμ st=>(o μ st).bind λx st1=>if sd st1 x=true then f x [] st1 else .bad
def B1:FM
 |.loc n,[],st=>match st[n]? with
  |some (.lst us)=>match us[us.length-1]? with
   |some u=>.ok u (st.set n (.lst us.dropLast))
   |none=>.bad
  |_=>.bad
 |_,_,_=>.bad
def i?:FM
 |.loc n,[.loc m],st=>match st[n]?,st[m]? with
  |some (.lst us),some (.lst ws)=>if us.length+ws.length<=sizeLine then .ok .cH (st.set n (.lst (us++ws)))else .bad
  |_,_=>.bad
 |_,_,_=>.bad
theorem bt.dropLast{K:Z'}{us:List ah}{vs:List V}(r:bt K ρ H us vs):bt K ρ H us.dropLast vs.dropLast:=by rw[List.dropLast_eq_take,List.dropLast_eq_take,r.length];exact bt.take _ r
section
variable{mo:ME}{f:FM}
theorem LQ:wX X "list.pop" (PJ (wo X) E B1):=by
 refine wX.imp OK ?_;rintro x xs H Q ⟨ρ,st,u,us,sr,r1,r2,h⟩;unfold B1 at h;split at h
 .rename_i n;obtain⟨a,rfl,ha⟩:=r1.ff;have hx:=r2.gg;subst hx;split at h
  .rename_i ws hw;split at h
   .rename_i y hy;obtain⟨vs,hH,rv⟩:=sr.cell n _ a hw ha;obtain⟨v,hv,ry⟩:=rv.get hy;refine⟨a,vs,v,rfl,rfl,hH,by rw[<-rv.length];exact hv,?_⟩;obtain⟨k1,k2⟩:=tR sr hw ha hH rv.dropLast;exact h ρ _ _ k1 k2 (Rl.mono k1 _ _ ry)
   .exact h.elim
  .exact h.elim
 .exact h.elim
theorem B2:wX X "list.extend" (PJ (wo X) E i?):=by
 refine wX.imp EO ?_;rintro x xs H Q ⟨ρ,st,u,us,sr,r1,r2,h⟩;unfold i? at h;split at h
 .rename_i n m;obtain⟨a,rfl,ha⟩:=r1.ff;obtain⟨y,rfl,ry⟩:=r2.zE;obtain⟨b,rfl,hb⟩:=ry.ff;split at h
  .rename_i us ws hw hw2;split at h
   .rename_i hz;obtain⟨vs,hH,rv⟩:=sr.cell n _ a hw ha;obtain⟨zs,hZ,rz⟩:=sr.cell m _ b hw2 hb;refine⟨a,b,vs,zs,rfl,rfl,hH,hZ,by rw[<-rv.length,<-rz.length];exact hz,?_⟩;obtain⟨k1,k2⟩:=tR sr hw ha hH (rv.append rz);exact h ρ _ _ k1 k2 Rl.w?
   .exact h.elim
  .exact h.elim
 .exact h.elim
theorem PY{id:String}(slot:Slot "list" name id)(KZ:typeOf (.builtin id)=pure (.type "method_descriptor"))(hm:wX X id (PJ (wo X) E f))(ho:PE X o (tE X E mo))(iA:attributeBase o name X.env (eval o X.env)=eval o X.env:=by rfl)(iB:(apos.endLine==cy.line)=true:=by rfl):
  PE X (.Call (.Attribute o name apos) [] [] cy) (tE X E (HY f mo)):=by
 refine PE.imp (OI Zi slot KZ hm ho iA iB) ?_;rintro σ H Q ⟨μ,ρ,st,rs,sr,h⟩;refine go μ ρ st rs sr h λu st1 ρ1 H1 x e1 cC r1 h1=>?_;split at h1
 .rename_i hz;exact⟨Ai cC r1 hz,ρ1,st1,u,[],cC,r1,bt.nil,h1⟩
 .exact h1.elim
end
def qC(o i v:ah)(st:af):Option af:=match o,i with
 |.loc n,.int k=>match st[n]? with
  |some (.lst us)=>(L2.zU us.length k).map λj=>st.set n (.lst (us.set j v))
  |_=>none
 |_,_=>none
def Nm(μ:Env):Option af->bY
 |some st=>.nx μ st
 |none=>.bad
def sf(o i v:ME):MB:=λμ st=>(v μ st).sb μ λx st1=>(o μ st1).sb μ λy bX=>(i μ bX).sb μ λz oD=>Nm μ (qC y z x oD)
def Fo:F2:=sM λi j st=>.ok (.int (i+j)) st
def LR:F2:=sM λi j st=>.ok (.int (i-j)) st
def Nn:F2
 |.loc n,.int i,st=>match ao st n with
  |some us=>match L2.lM us i with
   |some v=>.ok v st
   |none=>.bad
  |none=>.bad
 |_,_,_=>.bad
def xk(f:F2)(o i e:ME):MB:=λμ st=>(o μ st).sb μ λy st1=>(i μ st1).sb μ λz bX=>(Nn y z bX).sb μ λx oD=>(e μ oD).sb μ λw ph=>(f x w ph).sb μ λr J!=>Nm μ (qC y z r J!)
def HZ(k:Nat)(f:F2)(e:ME):MB:=λμ st=>(iJ k μ st).sb μ λx st1=>(e μ st1).sb μ λw bX=>(f x w bX).sb μ λr oD=>.nx (μ.set k (some r)) oD
section
variable{i v:Expr}{mo mi mv:ME}{f:F2}
theorem xl{st aC:af}{u z w:ah}{x y q:V}{Q:Hp->Prop}(sr:SR X.K ρ st H)(ru:Rl X.K ρ H u x)(rz:Rl X.K ρ H z y)(x_:Rl X.K ρ H w q)(h:qC u z w st=some aC)(k:∀H',aW ρ H ρ H'->SR X.K ρ aC H'->Q H'):M_ x y q H Q:=by
 unfold qC at h;split at h
 .rename_i n j;split at h
  .rename_i us hu;obtain⟨a,rfl,ha⟩:=ru.ff;obtain⟨vs,hH,rv⟩:=sr.cell n _ a hu ha;cases hj:L2.zU us.length j with
   |none=>rw[hj]at h;cases h
   |some jj=>
    rw[hj]at h;cases h;refine⟨a,vs,j,jj,rfl,rz.cP,hH,by rw[<-rv.length];exact hj,?_⟩;obtain⟨k1,k2⟩:=tR sr hu ha hH (bt.set x_ jj rv);exact k _ k1 k2
  .cases h
 .cases h
theorem LS(ho:PE X o (tE X E mo))(hi:PE X i (tE X E mi))(hv:PE X v (tE X E mv))
  (ha:∀ u,assign (.Subscript o i pC) X.env u=(do
   let ov <- holding [u] (eval o X.env)
   let iv <- holding [u,ov] (eval i X.env)
   standAt pC
   holding [u,ov,iv] (setItem ov iv u)
   release [u,ov,iv] []):=by intro _;rfl)
  (hs:swapsWithSole [.Subscript o i pC] v pos.line X.env=pure false:=by rfl) (hw:swappedStores [.Subscript o i pC] v X.env=pure none:=by rfl) (h1:(assignEach [.Subscript o i pC] X.env).map (·.2)=[assign (.Subscript o i pC) X.env]:=by rfl):
  PS X (.Assign [.Subscript o i pC] v pos) (tS X E (sf mo mi mv)):=by
 refine PS.imp (Oe hv (Od ho hi set_list ha) hs hw h1) ?_;rintro D σ H ⟨μ,ρ,st,rs,sr,h⟩;refine Bo μ ρ st rs sr h λu st1 ρ1 H1 x e1 cC r1 h1=>?_;refine Bo μ ρ1 st1 (rs.mono e1) cC h1 λw bX ρ2 H2 y e2 pJ r2 h2=>?_;refine Bo μ ρ2 bX ((rs.mono e1).mono e2) pJ h2 λz oD ρ3 H3 q e3 Gy r3 h3=>?_;cases hz:qC w z u oD with
 |none=>rw[hz]at h3;exact h3.elim
 |some ph=>
  rw[hz]at h3;exact xl Gy (Rl.mono e3 _ _ r2) r3 (Rl.mono e3 _ _ (Rl.mono e2 _ _ r1)) hz λH' k1 k2=>h3 ρ3 H' σ k1 k2 ((((rs.mono e1).mono e2).mono e3).mono k1)
theorem Dx:f9 X (inplaceOp .Add) (rM (wo X) E Fo):=by refine f9.imp KD ?_;rintro x y H Q ⟨ρ,st,u,w,sr,r1,r2,h⟩;obtain⟨i,j,rfl,rfl,h⟩:=jE h;exact⟨i,j,r1.cP,r2.cP,eh sr h⟩
theorem LW:f9 X (inplaceOp .Sub) (rM (wo X) E LR):=by refine f9.imp KG ?_;rintro x y H Q ⟨ρ,st,u,w,sr,r1,r2,h⟩;obtain⟨i,j,rfl,rfl,h⟩:=jE h;exact⟨i,j,r1.cP,r2.cP,eh sr h⟩
theorem Dy{op:Operator}(hf:f9 X (inplaceOp op) (rM (wo X) E f))(ho:PE X o (tE X E mo))(hi:PE X i (tE X E mi))(hv:PE X v (tE X E mv))(ha:∀ov iv new,augStore i ov iv new=(do holding [new,ov,iv] (setItem ov iv new);release [new,ov,iv] [];pure .next):=by intros;rfl):
  PS X (.AugAssign (.Subscript o i pC) op v pos) (tS X E (xk f mo mi mv)):=by
 refine PS.imp (Kz ho hi Hl hv (λae s σ H x y v u Q I rx ry q=>hf ae s σ H x y v u Q I rx ry q) set_list ha) ?_;rintro D σ H ⟨μ,ρ,st,rs,sr,h⟩;refine Bo μ ρ st rs sr h λu st1 ρ1 H1 x e1 cC r1 h1=>?_;refine Bo μ ρ1 st1 (rs.mono e1) cC h1 λw bX ρ2 H2 y e2 pJ r2 h2=>?_;have ru:=Rl.mono e2 _ _ r1;have rs2:=(rs.mono e1).mono e2;cases u with
 |loc n=>
  cases w with
  |int j=>
   obtain⟨a,rfl,ha⟩:=ru.ff;cases z:ao bX n with
   |none=>simp only[Nn,z]at h2;exact h2.elim
   |some us=>
    cases zi:L2.lM us j with
    |none=>simp only[Nn,z,zi]at h2;exact h2.elim
    |some g=>
     simp only[Nn,z,zi]at h2;obtain⟨vs,hs,rv⟩:=bw pJ z ha;obtain⟨g',hg,rg⟩:=rv.lM zi;refine⟨a,vs,j,g',rfl,r2.cP,hs,hg,?_⟩;refine Bo μ ρ2 bX rs2 pJ h2 λt oD ρ3 H3 b e3 Gy r3 h3=>?_;refine⟨ρ3,oD,g,t,Gy,Rl.mono e3 _ _ rg,r3,?_⟩;cases zf:f g t oD with
     |ok c ph=>
      rw[zf]at h3;intro ρ4 H4 d e4 sP r4;have h4:wS (wo X) E ρ4 H4 D (Nm μ (qC (.loc n) (.int j) c ph)):=wS.mono h3 e4;cases hz:qC (.loc n) (.int j) c ph with
      |none=>rw[hz]at h4;exact h4.elim
      |some J!=>
       rw[hz]at h4;exact xl sP (Rl.mono e4 _ _ (Rl.mono e3 _ _ ru)) (Rl.mono e4 _ _ (Rl.mono e3 _ _ r2)) r4 hz λH' k1 k2=>h4 ρ4 H' σ k1 k2 (((rs2.mono e3).mono e4).mono k1)
     |err c ph=>rw[zf]at h3;exact h3
     |bad=>rw[zf]at h3;exact h3
  |_=>exact h2.elim
 |_=>exact h2.elim
theorem PZ{op:Operator}(hf:f9 X (inplaceOp op) (rM (wo X) E f))(hN:X.N.Nodup)(hv:PE X v (tE X E mv))(hi:X.N[k]?=some x:=by rfl)(hx:Loc X.env.scope x:=by first|exact Or.inl rfl|exact Or.inr rfl)(hn:X.fn x=true\/X.env.scope.names.lookup x=some .local:=by first|exact .inl rfl|exact .inr rfl|assumption):PS X (.AugAssign (.Name x pC) op v pos) (tS X E (HZ k f mv)):=by
 refine PS.imp (Og hN hi hx hv (λae s σ H x y v u Q I rx ry q=>hf ae s σ H x y v u Q I rx ry q) hn) ?_;rintro D σ H ⟨μ,ρ,st,rs,sr,h⟩;unfold HZ iJ at h;split at h
 .rename_i g e;obtain⟨w,e',r⟩:=rs.at_ k g e;split at h
  .exact h.elim
  .rename_i n;have rg:=r.un n;refine⟨w,e',?_⟩;refine Bo μ ρ st rs sr h λt st1 ρ1 H1 y e1 cC r1 h1=>?_;refine⟨ρ1,st1,g,t,cC,Rl.mono e1 _ _ rg,r1,?_⟩;cases zf:f g t st1 with
   |ok c bX=>
    rw[zf]at h1;intro ρ2 H2 d e2 pJ r2;exact(wS.mono h1 e2) ρ2 H2 _ (aW.refl _ _) pJ (((rs.mono e1).mono e2).set k r2)
   |err c bX=>rw[zf]at h1;exact h1
   |bad=>rw[zf]at h1;exact h1
 .exact h.elim
end
def lW(hi:Int)(n:Nat):List ah:=(List.range n).map λ(i:Nat)=>ah.int (hi-(i:Int))
theorem H9{K:Z'}(lo:Int)(n:Nat):Py K ρ H (lW lo n,λ_=>True) (Itd lo n):=by
 intro ρ' aC H' e sr g i;refine⟨λu hu=>?_,λhi=>?_⟩
 .have hi:i<n:=by have:=bx hu;simpa[lW]using this
  refine⟨hi,λx TJ y=>?_⟩;obtain⟨rfl,rfl⟩:=y;have e:u=ah.int (lo-(i:Int)):=by simp only[lW,VM]at hu;rw[Wd hi]at hu;exact(VR hu).symm
  subst e;exact⟨aW.refl _ _,sr,Rl.mkInt _⟩
 .show n<=i;simpa[lW]using hi
def H_(vs:List ah)(aC:af):cz Itm:=match vs with
 |[.int i,.int j,.int k]=>if k = -1/\-(2 ^ 62)<=i/\i<2 ^ 62/\-(2 ^ 62)<=j/\j<2 ^ 62 then .ok (lW i (i-j).toNat,λ_=>True) aC else .bad
 |_=>.bad
def yy(m:MA):MI:=λμ st=>(m μ st).bind H_
def abG(vs:List ah)(aC:af):cz Itm:=match vs with
 |[.loc n]=>match ao aC n with
  |some us=>.ok (us.reverse,λbX=>ao bX n=some us) aC
  |none=>.bad
 |_=>.bad
def iU:Nat->List ah->List ah
 |_,[]=>[]
 |i,u::us=>.tup [.int i,u]::iU (i+1) us
theorem jh:∀(us:List ah)(k i:Nat)(z:ah),(iU k us)[i]?=some z->∃u,us[i]?=some u/\z=.tup [.int ((k+i:Nat):Int),u]
 |[],_,_,_,h=>by cases h
 |u::us,k,0,z,h=>by cases h;exact⟨u,rfl,rfl⟩
 |u::us,k,i+1,z,h=>by obtain⟨w,h1,h2⟩:=jh us (k+1) i z h;exact⟨w,h1,by rw[h2,show k+1+i=k+(i+1) by lia]⟩
theorem h_:∀(us:List ah)(k:Nat),(iU k us).length=us.length
 |[],_=>rfl
 |_::us,k=>by simp only[iU,Vm,h_ us]
def H!(vs:List ah)(aC:af):cz Itm:=match vs with
 |[.loc n]=>match ao aC n with
  |some us=>.ok (iU 0 us,λbX=>ao bX n=some us) aC
  |none=>.bad
 |_=>.bad
def jU(m:MA):MI:=λμ st=>(m μ st).bind H!
section
variable{p:Pos}
theorem LX{a b c:Expr}{m:MA}(hg:Gl X "range")(hm:X.mg "range" = none)(ha:PA X [a,b,c] (tL X E m))(hs:starEach [a,b,c] X.env=[(false,eval a X.env),(false,eval b X.env),(false,eval c X.env)]:=by rfl)(jR:starEach [b,c] X.env=[(false,eval b X.env),(false,eval c X.env)]:=by rfl):
  PI X tg (.Call (.Name "range" p) [a,b,c] [] pos) (tI X E (yy m)):=by
 refine PI.imp (Lj hg hm ha hs jR) ?_;rintro σ H R ⟨μ,ρ,st,rs,sr,h⟩;refine go (R1:=bt X.K) μ ρ st rs sr h λus st1 ρ1 H1 xs e1 cC r1 h1=>?_;unfold H_ at h1;split at h1
 .rename_i i j k;obtain⟨v,r',rfl,rv,rr⟩:=r1.cN;obtain⟨w,z,rfl,x_,rz⟩:=rr.Tr;split at h1
  .rename_i hz;obtain⟨rfl,hz⟩:=hz;exact⟨i,j,by rw[rv.cP,x_.cP,rz.cP],hz,h1 ρ1 H1 _ (aW.refl _ _) cC (H9 i _)⟩
  .exact h1.elim
 .exact h1.elim
theorem LY{a:Expr}{m:MA}(hg:Gl X "enumerate")(hm:X.mg "enumerate" = none)(ha:PA X [a] (tL X E m))(hs:starEach [a] X.env=[(false,eval a X.env)]:=by rfl):PI X (.Tuple elts kt tp) (.Call (.Name "enumerate" p) [a] [] pos) (tI X E (jU m)):=by
 refine PI.imp (Lk hg hm PyProof.Rows.Boot.«enumerate» ha hs) ?_;rintro σ H R ⟨μ,ρ,st,rs,sr,h⟩;refine go (R1:=bt X.K) μ ρ st rs sr h λus st1 ρ1 H1 xs e1 cC r1 h1=>?_;unfold H! at h1;split at h1
 .rename_i n;obtain⟨v,rfl,rv⟩:=r1.zE;obtain⟨b,rfl,hb⟩:=rv.ff;split at h1
  .rename_i ws hw;obtain⟨vs,LZ,rvs⟩:=bw cC hw hb;refine⟨b,vs,rfl,LZ,h1 ρ1 H1 _ (aW.refl _ _) cC ?_⟩;intro ρ' aC H' e s g i;obtain⟨w1,s1,t1⟩:=bw s g (e.at_ hb);refine⟨λz hz=>?_,λhi=>⟨w1,s1,?_⟩⟩
   .obtain⟨u,hu,rfl⟩:=jh ws 0 i z hz;obtain⟨y,hy,ry⟩:=t1.get hu;refine⟨⟨w1,y,s1,hy⟩,λx' TJ y'=>?_⟩;obtain⟨pp,x1,rfl,hp,rfl,f1⟩:=y';have c1:=(f1 w1 s1).symm.trans hy;cases c1;rw[V8];exact⟨aW.same (eJ hp),s.grow (eJ hp),Rl.xa b8 (bt.mono (aW.same (eJ hp)) _ _ (bt.cons (Rl.mkInt _) (bt.one ry)))⟩
   .have Ha:(iU 0 ws).length<=i:=hi;rw[h_]at Ha;rw[<-t1.length];exact Ha
  .exact h1.elim
 .exact h1.elim
end
def Fp:FN
 |[.int i,.int j],st=>.ok (.int (if j>i then j else i)) st
 |_,_=>.bad
def B3:FN
 |[.bl b],st=>.ok (.int (if b then 1 else 0)) st
 |_,_=>.bad
theorem Fq(hh:X.A.handled=none):b7 X (.builtin "max") (cM (wo X) E Fp):=by
 refine b7.imp (E_ hh) ?_;rintro xs H Q ⟨ρ,st,us,sr,r,h⟩;unfold Fp at h;split at h
 .rename_i i j;obtain⟨v,w,rfl,r1,r2⟩:=r.Tr;exact⟨i,j,by rw[r1.cP,r2.cP],eh sr h⟩
 .exact h.elim
theorem Fs:b7 X (.type "int") (cM (wo X) E B3):=by
 refine b7.imp E! ?_;rintro xs H Q ⟨ρ,st,us,sr,r,h⟩;unfold B3 at h;split at h
 .rename_i b;obtain⟨v,rfl,r1⟩:=r.zE;exact⟨b,by rw[r1.v_],eh sr h⟩
 .exact h.elim
section
variable{mo:ME}{ms:MA}
theorem Ft(ho:PE X o (tE X E mo))(ha:PA X (e::es) (tL X E ms))(iA:attributeBase o "append" X.env (eval o X.env)=eval o X.env:=by rfl)
  (uo:((backTo cy (starEach (e::es) X.env)).all (λx => !x.1)&&(backToKw cy (keywordEach [] X.env)).all (λx=>x.1.isSome)
   && decide ((e::es).length+([]:List Keyword).length+(if([]:List Keyword).isEmpty then 0 else 1)<30))=true:=by rfl)
  (iB:(apos.endLine==cy.line)=true:=by rfl) (hs:starEach (e::es) X.env=(false,eval e X.env)::starEach es X.env:=by rfl) (jc:(backTo cy (starEach es X.env)).any (·.1)=false:=by rfl):
  PE X (.Call (.Attribute o "append" apos) (e::es) [] cy) (tE X E (g6 dS mo ms)):=yo PySem.F.slot_list_append PySem.F.type_list_append BV ho ha iA uo iB hs jc
theorem Fu(ho:PE X o (tE X E mo))(ha:PA X (e::es) (tL X E ms))(iA:attributeBase o "extend" X.env (eval o X.env)=eval o X.env:=by rfl)
  (uo:((backTo cy (starEach (e::es) X.env)).all (λx => !x.1)&&(backToKw cy (keywordEach [] X.env)).all (λx=>x.1.isSome)
   && decide ((e::es).length+([]:List Keyword).length+(if([]:List Keyword).isEmpty then 0 else 1)<30))=true:=by rfl)
  (iB:(apos.endLine==cy.line)=true:=by rfl) (hs:starEach (e::es) X.env=(false,eval e X.env)::starEach es X.env:=by rfl) (jc:(backTo cy (starEach es X.env)).any (·.1)=false:=by rfl):
  PE X (.Call (.Attribute o "extend" apos) (e::es) [] cy) (tE X E (g6 i? mo ms)):=yo PySem.F.slot_list_extend PySem.F.type_list_extend B2 ho ha iA uo iB hs jc
theorem L4(ho:PE X o (tE X E mo))(iA:attributeBase o "pop" X.env (eval o X.env)=eval o X.env:=by rfl)(iB:(apos.endLine==cy.line)=true:=by rfl):
  PE X (.Call (.Attribute o "pop" apos) [] [] cy) (tE X E (HY B1 mo)):=PY PySem.F.slot_list_pop PySem.F.type_list_pop LQ ho iA iB
end
theorem TZ{cl':List (Str×_i)}{caps':List Nat}(sI:closureFor scope X.env=pure cl')(A:g? X scope cl bE)(B:g? X scope cl' caps')(has:((relabel scope X.env).names.all λp => !(p.2 == .cell || p.2 == .free) || (cl'.map (·.1)).contains p.1)=true)(gA:(scope.names.all λp => !(p.2 == .cell))=true)(kind:scope.kind=.function)(names:(scope.names.all λp => !(p.2 == .local) || scope.names.lookup p.1==some .local)=true)(len:N.length=k+bE.length)(hN:N.drop k=cl.map (·.1)):uv X N scope cl' k bE where
 sI:=sI
 sub:=B.sub
 has:=λx h=>by
  have m:x∈cl'.map (·.1):=by rcases h with h|h<;>(have m:=WA h;have z:=Wr.mp has _ m;simpa using z)
  exact jT m
 gA:=λx hx h=>by have z:=Wr.mp gA x hx;simp[h]at z
 kind:=kind
 names:=λx hx h=>by have z:=Wr.mp names x hx;simpa[h]using z
 len:=len
 at_:=λi j x h1 h2=>A.at_ i j x h1 (by rw[<-hN,Y7];exact h2)
theorem len0{C:_b->Prop}(h:C [])(us:_b)(hl:us.length=0):C us:=by rw[Wh hl];exact h
theorem L5{C:_b->Prop}{n:Nat}(h:∀a(r:_b),r.length=n->C (a::r))(us:_b)(hl:us.length=n+1):C us:=by
 cases us with
 |nil=>cases hl
 |cons a r=>exact h a r (Yd hl)
theorem wq{C:_b->Prop}(h:∀a,C [a]):∀us:_b,us.length=1->C us:=L5 λa=>len0 (C:=λr=>C (a::r)) (h a)
theorem P0{C:_b->Prop}(h:∀a b,C [a,b]):∀us:_b,us.length=2->C us:=L5 λa=>wq (C:=λr=>C (a::r)) (h a)
theorem T3{C:_b->Prop}(h:∀a b c,C [a,b,c]):∀us:_b,us.length=3->C us:=L5 λa=>P0 (C:=λr=>C (a::r)) (h a)
theorem P_{C:_b->Prop}(h:∀a b c d,C [a,b,c,d]):∀us:_b,us.length=4->C us:=L5 λa=>T3 (C:=λr=>C (a::r)) (h a)
end MN
variable {us ws:List MN.ah}
variable {u v:MN.ah}
variable {s' st:MN.af}
variable {K:Z'}
variable {body:MN.MB}
variable {fd:FuncData}
variable {mg:Str->Option Value}
variable {ms:MN.MA}
variable {md m2:MN.ME}
variable {a8:List (L2.fe×MN.ah)}
variable {x6 x0 x1 x4 x5:Option MN.ah}
namespace L2
open PySem.Spec PyProof.Rows PySem.W Builtin Builtin.ObjectAttr Builtin.Getset_descriptor PySem.Calls
def yz(K:Z')(C:_i):Bool:=findIn K (.ref C) "__getattribute__" == some (some (.builtin "BaseException.__getattribute__"))&&(findIn K (.ref C) "__getattr__" == some none)&&(findIn K (.ref C) "__class__" == some (some (.builtin "object.__class__"))) &&
 (mroIn K C (.type "object")==some true)&&(mroIn K C (.type "BaseException")==some true)&&(specialIn K (.builtin "object.__class__") "__get__" == some (some (.builtin "getset_descriptor.__get__")))&&(takesIn K (.builtin "object.__class__")==some true)&&(kitCls K (.ref C) (.ref C)==some true)
structure mQ(K:Z')(C:_i):Prop where
 ga:findIn K (.ref C) "__getattribute__" = some (some (.builtin "BaseException.__getattribute__"))
 gh:findIn K (.ref C) "__getattr__" = some none
 gc:findIn K (.ref C) "__class__" = some (some (.builtin "object.__class__"))
 mo:mroIn K C (.type "object")=some true
 mb:mroIn K C (.type "BaseException")=some true
 sg:specialIn K (.builtin "object.__class__") "__get__" = some (some (.builtin "getset_descriptor.__get__"))
 tk:takesIn K (.builtin "object.__class__")=some true
 kc:kitCls K (.ref C) (.ref C)=some true
theorem Fv(h:yz K C=true):mQ K C:=by unfold yz at h;simp only[Wy]at h;obtain⟨⟨⟨⟨⟨⟨⟨a,b⟩,c⟩,d⟩,e⟩,f⟩,g⟩,i⟩:=h;exact⟨WO.mp a,WO.mp b,WO.mp c,WO.mp d,WO.mp e,WO.mp f,WO.mp g,WO.mp i⟩
section
variable{E:Z_}{x:_i}{ox:Obj}{R:Result->_h->Prop}
theorem DA{M:Model}(hx:h.get? x=some ox)(hc:ox.cls=.ref C):Looks M h (typeOf (.ref x)) (.ref C):=hc▸(Looks.ld hx).andThen .now
theorem B4{tp:_g}(X:K.In s.heap)(hx:s.heap.get? x=some ox)(hc:ox.cls=.ref C)(hm:mroIn K C (.type "object")=some true)(h:R (.ok (.ret (.ref C))) s):codeAny (model prog w) A (.call (.builtin "getset_descriptor.__get__") ⟨[.builtin "object.__class__",.ref x,tp],[]⟩) R s:=by
 obtain⟨hh,g,dr,t,os⟩:=s;have L0:=DA (M:=model prog w) hx hc;have L1:=looks_mroIn (M:=model prog w) X hm;refine codeAny_call_builtin KF.slot_gs.plain KF.entry_gs (KF.slot_gs.check _ _ _ _ _ _ _ _ KF.type_class (KF.args_gs _ _ _) ?_);unfold Builtin.«getset_descriptor.__get__» descrGet;rw[dga_obj];refine Vl (VA ?_);unfold descrGetter descrCheckInstance descrNameAndClass isInstance;simp only[KF.owner_class]
 repeat lk
 refine⟨Code.quiet_builtin _ (by decide +kernel),X7 KF.entry_class ?_⟩;unfold Builtin.«object.__class__» shownTypeOf
 repeat lk
 exact h
theorem Ao{M:Model}(X:K.In h)(q:mQ K C):Looks M h (find (.ref x) (.ref C) "__class__") (.bind (.builtin "getset_descriptor.__get__") (.builtin "object.__class__")):=by have L1:=looks_findIn (M:=M) X q.gc;have L2:Looks M h (getOf (some (.builtin "object.__class__"))) (some (.builtin "getset_descriptor.__get__")):=looks_specialIn X q.sg;have L3:=looks_takesIn (M:=M) X q.tk;refine L1.andThen (L2.andThen ?_);exact(show Looks M h (dataDescriptor? (some (.builtin "object.__class__")) (some (.builtin "getset_descriptor.__get__"))) (some (.builtin "getset_descriptor.__get__",.builtin "object.__class__"))from L3.andThen .now).andThen (Looks.tag .now)
theorem Ap{tk:Tok}(X:K.In s.heap)(hx:s.heap.get? x=some ox)(hc:ox.cls=.ref C)(q:mQ K C)(h:R (.ok (.ret (.ref C))) s):
  codeAny (model prog w) A (.call (.builtin "BaseException.__getattribute__") ⟨[.ref x,.str "__class__" tk],[]⟩) R s:=by
 obtain⟨hh,g,dr,t,os⟩:=s;have L0:=DA (M:=model prog w) hx hc;have L1:=looks_mroIn (M:=model prog w) X q.mb;have L2:=Ao (M:=model prog w) (x:=x) X q;refine codeAny_call_builtin Y1.ga.plain PySem.F.entry_bexc_ga ?_;have hk:builtinKind "BaseException.__getattribute__" = some .slot:=by decide +kernel
 have P!:splitId "BaseException.__getattribute__" = some ("BaseException","__getattribute__"):=by decide +kernel
 have ha:=PySem.F.args_bexc_ga (.ref x) (.str "__class__" tk);simp only[checkBuiltinCall,hk,P!];refine Vl ?_;unfold isInstance;refine Vl (L0.at (L1.at ?_));simp only[Wi,WG,XM];unfold argsOk at ha;generalize Manifest.signature? "BaseException.__getattribute__" = sg at ha⊢;cases sg
 all_goals (try (dsimp only at ha⊢;rw[ha]))
 all_goals refine VA ?_
 all_goals unfold Builtin.«object.__getattribute__»
 all_goals (refine Vl (VA ?_))
 all_goals (refine Vl (VA ?_))
 all_goals (refine Vl (L0.at (Vl (L2.at ?_))))
 all_goals (unfold bindTo)
 all_goals (dsimp only)
 all_goals (refine Vl (WX ?_))
 all_goals (refine Yr (B4 X hx hc q.mo ?_))
 all_goals (exact VA h)
theorem Fw{tk:Tok}{Q:Z_}(X:K.In s.heap)(hx:s.heap.get? x=some ox)(hc:ox.cls=.ref C)(q:mQ K C)(h:Q (.ref C) s):wpAny (model prog w) A (getAttrBy (.ref x) (.str "__class__" tk) false) Q E s:=by
 obtain⟨hh,g,dr,t,os⟩:=s;have L0:=DA (M:=model prog w) hx hc;have L1:=looks_findIn (M:=model prog w) X q.ga;have L2:=looks_findIn (M:=model prog w) X q.gh;unfold getAttrBy;refine WX (Vl (L0.at (Vl (L1.at ?_))));have hx2:(Value.builtin "BaseException.__getattribute__" == Value.builtin "object.__getattribute__")=false:=by decide +kernel
 have hx1:(onTheHeap (Value.ref C)&&Value.builtin "BaseException.__getattribute__" == Value.builtin "object.__getattribute__")=false:=by rw[hx2];rfl
 dsimp only;rw[VI (by rw[hx1];decide)];unfold getAttrByItsOwn;refine Vl ?_;have L3:Looks (model prog w) hh (hookBefore (.ref C)) none:=looks_hook X (by rw[VC (by rfl)];exact q.gh);refine L3.at (Vl (XE (WX ?_)));unfold callGetattribute;rw[VI (by simp)];unfold boundAndCalled;rw[Y1.ga.bind (.ref x)];refine Vl (VA ?_);refine Yr (Ap X hx hc q ?_);exact handed_on rfl h
theorem Aq{Q:_c->_h->Prop}(X:K.In s.heap)(hx:s.heap.get? x=some ox)(hc:ox.cls=.ref C)(q:mQ K C)(h:Q (some (.ref C)) {s with toks:=s.toks+1}):wpAny (model prog w) A (getAttr? (.ref x) "__class__") Q E s:=by unfold getAttr? getAttrBy?;refine Vl (wpAny_mkText (Vl (XE (Fw X hx hc q ?_))));exact VA h
end
theorem H?{x:_i}{ox:Obj}(hc:ox.cls=.ref C)(q:mQ K C):KitX K (.ref x) (.ref C) (λh=>h.get? x=some ox) where
 ty:=λ_ _ _ hx=>DA hx hc
 it:=λM h X _=>(kit_cls (M:=M) X q.kc).2.1
 ne:=λh tp dd aP n sl X e=>Bool.eq_false_iff.mpr λz=>by
  have z:=WO.mp z;cases z;have kc:=q.kc;unfold kitCls at kc;dsimp only at kc;split at kc
  .rename_i z;rw[Wy]at z;have z0:=z.1;unfold clsIn at z0;split at z0
   .rename_i c' d' cd' M3 ho;rw[X _ _ ho]at e;cases e
   .cases z0
  .cases kc
 ca:=λX hx k=>Aq X hx hc q k
end L2
variable {mb mo:MN.ME}
namespace MN
open PySem.Spec L2
open PyProof.Rows hiding St
inductive wt(K:Z')(mg:Z!):_e->Prop
 |nil:wt K mg []
 |cons {x:Str} {C:_i} {r:_e} (hm:mg x=some (.ref C)) (hq:yz K C=true) (hr:wt K mg r):wt K mg (x::r)
theorem wt.at_{c:Str}:∀{qs:_e},wt K mg qs->qs.contains c=true->∃C,mg c=some (.ref C)/\mQ K C
 |_,.nil,h=>by simp at h
 |_,.cons (x:=x) hm hq hr,h=>by
  by_cases e:c=x
  .subst e;exact⟨_,hm,Fv hq⟩
  .exact hr.at_ (by simpa[e]using h)
section
variable{c:_i}{o:Obj}
theorem SR.P?{H':Hp}{T:_i}{cs:List (Str×_i)}(s:SR K ρ st H)(hj:st[j]?=some (.tab x pos.line pos.col L.qual))(hT:ρ[j]?=some T)(N:Dk L H H' T cs f c' pos):SR K ρ st H'/\aW ρ H ρ H':=by
 have k:=s.cell j _ T hj hT;have tT:∃ps,H T=some (.v? ps):=by rcases k.2 with h|⟨_,_,_,_,h,_⟩<;>exact⟨_,h⟩
 obtain⟨ps,tT⟩:=tT;have aC:aW ρ H ρ H':=by refine⟨Yt ρ,λb xs h=>N.old b _ (λz=>?_) h,λb x u h=>N.old b _ (λz=>?_) h⟩<;>(rw[z,tT]at h;cases h)
 refine⟨⟨s.len,s.nd,λn d a h1 h2=>?_⟩,aC⟩;by_cases z:n=j
 .subst z;rw[hj]at h1;rw[hT]at h2;cases h1;cases h2;exact⟨k.1,N.tab⟩
 .have kb:=s.cell n d a h1 h2;cases zm:lO (some d) with
  |true=>exact kb.mono aC (.inl zm)
  |false=>
   have hb:a≠T:=λy=>z (s.nd n j T (by rw[<-y];exact h2) hT (by rw[h1];exact zm) (by rw[hj];rfl));obtain⟨o,ho,_⟩:=kb.there zm;exact kb.mono aC (.inr (by rw[ho];exact N.old a _ hb ho))
end
structure P'(K:Z')(mg:Z!)(base:Heap)(x:Str)(cd T:_i):Prop where
 tab:W.tabIn K x=some (cd,T)
 hd:W.CodeHd base cd T
 blt:base.BuiltinsAt mg T
 gT:mainGlobals≠T
theorem FnAt.mkT{st:Stmt}{cd T:_i}(B:P' K mg base x cd T)(F:Gw K x x st f fd)(hn:W.nsIn K mainGlobals x=some (some (.ref f)))(hm:mg x=some (.ref f))(S:fN N ps (aY st))(hb:∀(kV doc pm:_g)(an:Option _i)(fF ct:_g)(us:_b),us.length=ps.length->bindArgs (W.fnOf x x (gw st) (dg st) (aY st) .none kV doc pm an fF ct) ⟨us,[]⟩=pure (ps.zip us))
  (h:∀ (A:_j) (outer:List PySem.Env) (s:_h) (H:Hp) (E:XK),fj k (A.deeper (envOfC x (aY st) s.heap.objs.size f (.ref cd))) ->
   l? (iI (nO P w) P w K mg base N x (aY st) f (.ref cd) A outer s H E) (dg st) (tS (iI (nO P w) P w K mg base N x (aY st) f (.ref cd) A outer s H E) E body)):FnAt P w K mg base x (k+1) (g_ ps.length N.length body):=by
 refine⟨f,fd,ps,?_,hm,F.kp,F.binds hb⟩;obtain⟨oc,od,kV,doc,pm,an,fF,ct,C7,e,lk,qi⟩:=F.ex;have ec:fF=.ref cd:=by
  have t:=B.tab;unfold W.tabIn at t;rw[hn]at t;simp only[lk]at t;rw[e]at t;simp only[W.fnOf]at t;split at t
  .rename_i c hc;split at t
   .split at t
    .cases t;rfl
    .cases t
   .cases t
  .cases t
 subst ec;have h':∀(fF:_g)(A:_j)(outer:List PySem.Env)(s:_h)(H:Hp)(E:XK),fF=.ref cd->fj k (A.deeper (envOfC x (aY st) s.heap.objs.size f fF)) ->
   l? (iI (nO P w) P w K mg base N x (aY st) f fF A outer s H E) (dg st) (tS (iI (nO P w) P w K mg base N x (aY st) f fF A outer s H E) E body):=λfF A outer s H E e=>by subst e;exact h A outer s H E
 subst e;refine M8 lk qi S (λvs H Q E q=>?_) λA outer s H vs Q E hr q=>⟨_,h A outer s H E hr,?_⟩
 .obtain⟨us,ρ,st,r,sr,q⟩:=q;by_cases hl:us.length=ps.length
  .rw[<-r.length];exact hl
  .unfold g_ at q;rw[VI hl]at q;exact q.elim
 .obtain⟨us,ρ,aC,r,sr,q⟩:=q;unfold g_ at q;by_cases hl:us.length=ps.length
  .rw[VC hl,<-hl]at q;refine⟨_,ρ,aC,RS.start r,sr,?_⟩;revert q;cases body (us.map some++List.replicate (N.length-us.length) none) aC with
   |nx μ bX=>exact λq ρ' H' σ' e s _=>q ρ' H' .cH e s Rl.w?
   |rt v bX=>exact λq=>q
   |er c μ bX=>exact λq=>q
   |bk μ bX=>exact λq=>q.elim
   |ct μ bX=>exact λq=>q.elim
   |bad=>exact λq=>q.elim
  .rw[VI hl]at q;exact q.elim
def Qa:cz ah->cz ah
 |.ok v st=>.ok v st
 |_=>.bad
def jV(st:af)(x:Str)(l c:Nat)(q:Str):Prop:=∃j:Nat,st[j]?=some (.tab x l c q)
structure ji where
 S:gr
 own:Str
 line:Nat
 col:Nat
abbrev DB(mg:Z!)(base:Heap)(ts:List (_i×_i)):Prop:=∀q∈ts,W.CodeHd base q.1 q.2/\base.BuiltinsAt mg q.2/\mainGlobals≠q.2
def ou(a:_i)(o:Option HO)(ts:List (_i×_i)):Hp:=λb=>if b∈ts.map (·.2)then some (.v? #[])else if b=a then o else none
theorem Fx{mb:Z!}{a:_i}{s₁:_h}{ts:List (_i×_i)}(KX:K.In s₁.heap)(Np:s₁.heap.Ns mainGlobals mg)(hb:s₁.heap.Ns builtinsNs mb)(hbb:∀x:Str,x ≠ "__name__" -> mb x=bootBuiltins x)(aa0:s₁.heap.NoLimit)(hg:s₁.gens = #[])(hbm:∃bm ob,mg "__builtins__" = some (.ref bm)/\bm≠builtinsNs/\s₁.heap.get? bm=some ob/\ob.cls=.type "module" /\ ob.dict=some builtinsNs/\ob.data=.plain)(hT:W.TabsAt ts s₁.heap)(hK0:W.noTabs K=true)(ha:s₁.heap.get? a=some {cls:=.type "list",data:=.seq vs.toArray})(hi:IntsAre vs ns)(hl:ns.length<=sizeLine)(hr:fj k callerA)(F:∀base:Heap,K.In base->base.Ns mainGlobals mg->DB mg base ts->qm P w K mg base (nO P w) k fa fd [x] sp)(T4:∀(s:_h)(u:_g),BindsTo s fd ⟨[u],[]⟩ [(x,u)])(Rv:∀H:Hp,(∀b xs,H b≠some (.lst xs))->nN K H a (ns.map V.int)->(∀q∈ts,H q.2=some (.v? #[]))->a ∉ ts.map (·.2)->sp [.ref a] H (λv _=>v=.bl true) λ_ _ _=>False):
  codeAny (model P w) callerA (.call (.ref fa) ⟨[.ref a],[]⟩) (λr s'=>r=.ok (.ret (.bool true))/\OldK s₁.heap s'.heap/\s'.os=s₁.os/\AllBare s'.gens) s₁:=by
 have rv:=wY hi;have aa1:=hi.length;have tabs:∀b,b∈ts.map (·.2)->s₁.heap.get? b=some (W.tabObj #[]):=λb hb=>by obtain⟨q,hq,rfl⟩:=Wb.mp hb;exact(hT q hq).2
 have aT:a ∉ ts.map (·.2):=λz=>by have:=tabs a z;rw[ha]at this;cases this
 have core:∀o:Option HO,(∀x,o=some x->∃ob xs,x=.j5 ob (.lst xs))->nN K (ou a o ts) a (ns.map V.int)->km P w (ou a o ts) s₁.heap->(o≠none->K.lookup a=none) ->
   codeAny (model P w) callerA (.call (.ref fa) ⟨[.ref a],[]⟩) (λr s'=>r=.ok (.ret (.bool true))/\OldK s₁.heap s'.heap/\s'.os=s₁.os/\AllBare s'.gens) s₁:=by
  intro o hO hS cq hK;have H_T:∀b,b∈ts.map (·.2)->ou a o ts b=some (.v? #[]):=λb hb=>VC hb;have H_a:ou a o ts a=o:=by unfold ou;rw[VI aT,VC rfl]
  have RJ:∀b,ou a o ts b=none\/(b=a/\ou a o ts b=o)\/(b∈ts.map (·.2)/\ou a o ts b=some (.v? #[])):=λb=>by
   by_cases h1:b∈ts.map (·.2)
   .exact .inr (.inr ⟨h1,H_T b h1⟩)
   .by_cases h2:b=a
    .subst h2;exact .inr (.inl ⟨rfl,H_a⟩)
    .exact .inl (by unfold ou;rw[VI h1,VI h2])
  obtain⟨H,eH⟩:∃H,H=ou a o ts:=⟨_,rfl⟩
  rw[<-eH]at hS cq H_T H_a RJ;have tU:∀{b:_i}{ob:Obj},s₁.heap.get? b=some ob->H b=none->(wa s₁.heap H).get? b=some ob:=λe n=>GG e n;have Ru:∀{b:_i}{ob:Obj},s₁.heap.get? b=some ob->ob.cls≠.type "list" -> ob.cls≠.none->H b=none:=λ{b ob}e d d2=>by
   rcases RJ b with h|⟨h,_⟩|⟨h,_⟩
   .exact h
   .subst h;rw[ha]at e;cases e;exact absurd rfl d
   .rw[tabs b h]at e;cases e;exact absurd rfl d2
  have noD:∀{b:_i}{ob:Obj}{es:Array DictEntry}{ep:Nat},s₁.heap.get? b=some ob->ob.data=.dict es ep->H b=none:=λ{b ob es ep}e d=>by
   rcases RJ b with h|⟨h,_⟩|⟨h,_⟩
   .exact h
   .subst h;rw[ha]at e;cases e;have d':Data.seq vs.toArray _=Data.dict es ep:=d;cases d'
   .rw[tabs b h]at e;cases e;cases d
  have nsK:∀{b:_i}{m:Z!},s₁.heap.Ns b m->(wa s₁.heap H).Ns b m:=λ{b m}⟨ob,es,ep,e,d,r⟩=>⟨ob,es,ep,tU e (noD e d),d,r⟩
  have hKb:K.In (wa s₁.heap H):=λb ob e=>tU (KX b ob e) (by
   rcases RJ b with h|⟨h,h2⟩|⟨h,_⟩
   .exact h
   .subst h;cases q:o with
    |none=>rw[h2,q]
    |some u=>rw[hK (by rw[q];simp)]at e;cases e
   .have h1:=KX b ob e;rw[tabs b h]at h1;cases h1;have h2:=Wr.mp hK0 _ (W.mem_of_lookupK e);exact absurd (show false=true from h2) VQ)
  have hM:Mod K mg (wa s₁.heap H):=⟨hKb,nsK Np,⟨mb,nsK hb,hbb⟩,let⟨mc,h1,h2⟩:=aa0;⟨mc,nsK h1,h2⟩⟩
  have e0:wb P w K mg (wa s₁.heap H) callerA [] s₁ H:=⟨rfl,hM,λb o e=>Kl e,Ye (Ez _ _),trivial,λb hb=>absurd (show b∈([]:_d)from hb) (by simp),cq,.of_eq hg⟩
  have hBT:DB mg (wa s₁.heap H) ts:=by
   intro q hq;obtain⟨h1,h2⟩:=hT q hq;refine⟨?_,?_,?_⟩
   .obtain⟨oc,ws,file,tf,flags,tg,inF,text,tt,e1,r1,r⟩:=h1;exact⟨oc,ws,file,tf,flags,tg,inF,text,tt,tU e1 (Ru e1 (by rw[r1];decide) (by rw[r1];intro z;cases z)),r1,r⟩
   .obtain⟨bm,ob,b1,b2,b3,b4,b5,b6⟩:=hbm;refine⟨bm,ob,b1,b2,λz=>?_,λz=>?_,tU b3 (Ru b3 (by rw[b4];decide) (by rw[b4];intro z;cases z)),b4,b5,b6⟩
    .obtain⟨o',es,ep,e,hd,_⟩:=Np;rw[z,e]at b3;cases b3;rw[hd]at b6;cases b6
    .rw[z,h2]at b3;cases b3;cases b4
   .intro z;obtain⟨o',es,ep,e,hd,_⟩:=Np;rw[z,h2]at e;cases e;cases hd
  refine XU ((F _ hKb (nsK Np) hBT).run callerA [] s₁ H ⟨[.ref a],[]⟩ [.ref a] [.ref a] _ _ hr e0 (T4 s₁ (.ref a)) (.cons rfl .nil) (Rv H (λb xs z=>?_) hS (λq hq=>H_T _ (W7 hq)) aT)) λr s' h=>?_
  .rcases RJ b with h|⟨_,h2⟩|⟨_,h2⟩
   .rw[h]at z;cases z
   .rw[h2]at z;obtain⟨_,_,e⟩:=hO _ z;cases e
   .rw[h2]at z;cases z
  cases r with
  |error e=>obtain⟨_,_,_,_,_,z⟩:=h;exact z.elim
  |ok fl=>
   cases fl with
   |next=>exact False.elim h
   |brk=>exact False.elim h
   |cont=>exact False.elim h
   |ret u=>
    obtain⟨v,H',os,bare,un,T5,r',q⟩:=h;have q':v=.bl true:=q;subst q';obtain rfl:u=Value.bool true:=r';have there:∀b ob,s₁.heap.get? b=some ob->(s'.heap.get? b=some ob)\/(isCodeTable s₁.heap b/\ob=W.tabObj #[]/\∃ps,s'.heap.get? b=some (W.tabObj ps)):=λb ob e=>by
     rcases RJ b with h|⟨h,h2⟩|⟨h,h2⟩
     .exact .inl (un.keep b ob e h (by intro z;exact absurd (show b∈([]:_d)from z) (by simp)) (by simp))
     .cases q:o with
      |none=>rw[q]at h2;exact .inl (un.keep b ob e h2 (by intro z;exact absurd (show b∈([]:_d)from z) (by simp)) (by simp))
      |some u=>
       obtain⟨o2,xs,eu⟩:=hO u q;rw[q,eu]at h2;have z2:=un.l! b o2 _ h2;obtain⟨e1,_⟩:=cq b _ h2;obtain⟨e2,_⟩:=T5 b _ z2;rw[e]at e1;cases e1;exact .inl e2
     .obtain⟨m,hm⟩:=un.oq b _ h2;obtain⟨q,hq,rfl⟩:=Wb.mp h;have e1:=tabs _ h;rw[e]at e1;exact .inr ⟨((hT q hq).1.tab (hT q hq).2).isCodeTable,VR e1,_,T5 _ _ hm⟩
    refine⟨rfl,⟨λb ob e=>?_,λb ob e=>?_⟩,os,bare⟩
    .rcases there b ob e with h|⟨ht,rfl,ps,hP⟩
     .exact .inl h
     .exact .inr (.inl ⟨ht,rfl,#[],ps,rfl,by rw[Array.empty_append];exact hP⟩)
    .rcases there b ob e with h|⟨ht,rfl,ps,hP⟩
     .exact⟨_,h⟩
     .exact⟨_,hP⟩
 have T6:∀(o:Option HO)b,b∈ts.map (·.2)->∀u,ou a o ts b=some u->cY P w (ou a o ts) s₁.heap b u:=λo b hb u z=>by rw[show ou a o ts b=some (.v? #[])from VC hb]at z;cases z;exact tabs b hb
 cases hk:K.lookup a with
 |some o=>
  have e:=KX a o hk;rw[ha]at e;cases e;refine core none (λ_ z=>by cases z) (.inr ⟨_,vs.toArray,_,hk,rfl,rfl,rfl,by rw[VG,aa1];exact hl,by simpa using rv⟩) (λb u z=>?_) λz=>absurd rfl z;by_cases hb:b∈ts.map (·.2)
  .exact T6 _ b hb u z
  .unfold ou at z;rw[VI hb]at z;split at z<;>cases z
 |none=>
  refine core (some (.j5 {cls:=.type "list",data:=.seq vs.toArray} (.lst (ns.map V.int)))) (λx z=>by cases z;exact⟨_,_,rfl⟩) (.inl (.inr ⟨{cls:=.type "list",data:=.seq vs.toArray},?_⟩)) (λb u z=>?_) λ_=>hk
  .unfold ou;rw[VI aT,VC rfl]
  .by_cases hb:b∈ts.map (·.2)
   .exact T6 _ b hb u z
   .have z0:=z;unfold ou at z;rw[VI hb]at z;split at z
    .rename_i hba;cases z;subst hba;exact⟨ha,by rw[Vq];exact hl,vs,_,rv,ha⟩
    .cases z
inductive sQ(q:_k)(K:Z'):List aS->List (_i×_i)->Prop
 |nil:sQ q K [] []
 |cons {x qn:Str} {l c:Nat} {cs:List aS} {cd T:_i} {ts:List (_i×_i)} {d:DefRec} (hd:(recsOf q).find? (λe=>e.name==x)=some d) (ht:W.tabIn K x=some (cd,T)) (r:sQ q K cs ts):sQ q K (.tab x l c qn::cs) ((cd,T)::ts)
theorem sQ.at_{aa2:ExcName->_c}{mb:Z!}(T:Top q loose aa2 mg mb h)(X:K.In h):∀{cs:List aS}{ts:List (_i×_i)},sQ q K cs ts->W.TabsAt ts h
 |_,_,.nil=>λ_ z=>nomatch z
 |_,_,.cons hd ht r=>List.forall_mem_cons.mpr ⟨W.tab_of T X hd ht,r.at_ T X⟩
theorem sQ.len:∀{cs:List aS}{ts:List (_i×_i)},sQ q K cs ts->ts.length=cs.length
 |_,_,.nil=>rfl
 |_,_,.cons _ _ r=>by rw[Vm,Vm,r.len]
theorem sQ.cell:∀{cs:List aS}{ts:List (_i×_i)},sQ q K cs ts->(∀p∈ts,H p.2=some (.v? #[]))->∀(n:Nat)(c:aS)(a:_i),cs[n]?=some c->(ts.map (·.2))[n]?=some a->iE K ρ H c a
 |_,_,.nil,_,n,c,a,h,_=>by simp at h
 |_,_,.cons (cd:=cd) hd ht r,k,0,c,a,h1,h2=>by cases h1;cases h2;exact⟨⟨cd,ht⟩,.inl (k _ (.head _))⟩
 |_,_,.cons hd ht r,k,n+1,c,a,h1,h2=>r.cell (λp hp=>k p (.tail _ hp)) n c a h1 h2
theorem L6{a:_i}{c:aS}{cs:List aS}{ts:List (_i×_i)}(L:sQ q K cs ts)(nd:(ts.map (·.2)).Nodup)(na:a ∉ ts.map (·.2))(hH:∀p∈ts,H p.2=some (.v? #[]))(k:iE K (a::ts.map (·.2)) H c a):SR K (a::ts.map (·.2)) (c::cs) H:=by
 refine⟨by rw[Vm,Vm,Vq,L.len],λn m b h1 h2 _ _=>?_,λn d b h1 h2=>?_⟩
 .have N:(a::ts.map (·.2)).Nodup:=Xo.mpr ⟨na,nd⟩;have l1:=bx h1;have l2:=bx h2;rw[Vp l1]at h1;rw[Vp l2]at h2;have e:=VR (h1.trans h2.symm);rcases ZS n m with z|z|z
  .exact absurd e (Yj.mp N n m l1 l2 z)
  .exact z
  .exact absurd e.symm (Yj.mp N m n l2 l1 z)
 .cases n with
  |zero=>cases h1;cases h2;exact k
  |succ n=>exact L.cell hH n d b h1 h2
theorem Fy{l:W.OpenLaw}{XP:(Z!)->Heap->Prop}{YP:World->Heap->Prop}{d:DefRec}{K:Params->Z'}{cs:List aS}{f:FN}(hn:l.most=some 63)(SS:d.params.defaults=[])(hr:fj k callerA)(hf:∀(c:aS)(ns:_a),ns.length<=63->ao (c::cs) 0=some (ns.map ah.int)->∃aC,f [.loc 0] (c::cs)=.ok (.bl true) aC)(hY:∀(w:World)(h:Heap),YP w h->(K w.params).In h)
  (F:∀ (w:World) (mg:Z!) (fa:_i) (h:Heap),(K w.params).In h->h.Ns mainGlobals mg->mg d.name=some (.ref fa) ->
   ∃(fd:FuncData)(ts:List (_i×_i)),sQ q (K w.params) cs ts/\(ts.map (·.2)).Nodup/\W.noTabs (K w.params)=true/\(∀(s:_h)(u:_g),BindsTo s fd ⟨[u],[]⟩ [(x,u)]) /\
    ∀base:Heap,(K w.params).In base->base.Ns mainGlobals mg->DB mg base ts->qm l.prog w (K w.params) mg base (nO l.prog w) k fa fd [x] (Nj ⟨K w.params,mg,[]⟩ f)):
  W.WalkO q loose XP YP l.row.toRowW d [] (λf vs=>PySem.call f vs):=by
 refine Att.zX hn SS λw s₀ s₁ mg mb fa o pm cd doc a vs ns G Y ho hd qi SU OO hints hlen hg=>?_;have KX:=hY w _ Y;obtain⟨fd,ts,L,nd,nt,hb,hF⟩:=F w mg fa _ KX G.T.g SU;refine Fx KX G.T.g G.T.b G.T.builtins G.T.nolimit hg G.T.bmain (L.at_ G.T KX) nt OO hints (V? hlen (by decide)) hr hF hb λH hO hS hH na=>?_;have fin:∀c:aS,iE (K w.params) (a::ts.map (·.2)) H c a->ao (c::cs) 0=some (ns.map ah.int)->Nj ⟨K w.params,mg,[]⟩ f [.ref a] H (λv _=>v=.bl true) λ_ _ _=>False:=by intro c k hi;obtain⟨aC,e⟩:=hf c ns hlen hi;refine⟨[.loc 0],a::ts.map (·.2),c::cs,bt.one (Rl.Ho rfl),L6 L nd na hH k,?_⟩;rw[e];intro ρ' H' v _ _ r;exact r.v_
 rcases hS with(h|⟨o,h⟩)|h
 .exact absurd h (hO a _)
 .exact fin (.O_ (ns.map .int)) ⟨o,_,h,bt.ints ns⟩ rfl
 .exact fin (.mod (ns.map .int)) ⟨_,h,bt.ints ns⟩ rfl
def T7:List Stmt->Option Expr
 |[]=>none
 |[.Return (some (.Call _ (e::_) _ _)) _]=>some e
 |_::r=>T7 r
def T8(e:Option Expr)(qual:Str)(ps:_e)(x:Str):gr:=match e with
 |some (.Lambda params body scope _)=>⟨qual,params,body,scope,ps,x⟩
 |_=>⟨qual,{posonlyargs:=[],args:=[],vararg:=none,kwonlyargs:=[],kw_defaults:=[],kwarg:=none,defaults:=[]},.Constant .none 0 ⟨0,0,0,0⟩,{kind:=.function,names:=[],isGenerator:=false,isCoroutine:=false},ps,x⟩
theorem Qb{cd T:_i}{o2:_g}{d2:Option _i}{sl s2:Array (_c)}{vs:Array _g}(a:W.nsIn K mainGlobals x=some (some (.ref f)))(l:K.lookup f=some ⟨oc,od,.func fd,sl⟩)(hc:fd.code=.ref cd)(lc:K.lookup cd=some ⟨o2,d2,.fields vs,s2⟩)(hv:(vs[11]?:_c)=some (.ref T)):W.tabIn K x=some (cd,T):=by unfold W.tabIn;simp only[a,l,hc,lc,hv]
end MN
namespace PM
open PySem.Spec L2 MN
open PyProof.Rows hiding St
def gR:ah:=.mt ([2,3,5,7,11,13,17,19,23,29,31].map ah.int)
def jk:FN:=g_ 1 1 (bM (Ae (TH "int" bg) (Pc (TH "bool" bg))))
def cJ:FN:=g_ 1 1 (aA (mz (dY (ag (Pt false) bg (mC PM.gR))) (bM (mC (.bl true))) dh) (aA (mz (Af (dY (ag ltV bg yn)) (dY (ag sO bg (mC (.int 997))))) (bM (mC (.bl false))) dh) (bM (ak BR (aa (c_ 1 [0] (gN (mC PM.gR)) (aF 0) bI (ag pk (ag dX bG bg) cT)) ai)))))
def fU:FN:=g_ 1 1 (bM (Kd (dY (ag ltV bg cT)) (iK cI) cI))
def jW:FN:=g_ 1 1 (aA (mz (dY (ag pk (ak Ah (aa bg ai)) cI)) (kE "NoInverse" (aa (qs "only 1 and -1 have an inverse among the whole numbers") ai)) dh) (bM bg))
def iq:FN:=g_ 1 1 (bM (Ae (ak PM.jk (aa bg ai)) (mOr (ag jC bg cT) (ak PM.cJ (aa bg ai)))))
def shared:FN:=g_ 2 6 (aA (aM 2 (gB (aa (ak Ah (aa bg ai)) (aa (ak PM.fU (aa bg ai)) (aa cT ai))))) (aA (aM 3 (gB (aa (ak Ah (aa bG ai)) (aa cT (aa (ak PM.fU (aa bG ai)) ai))))) (aA (dM (dY (ag pk (ag bQ dJ cT) cT)) (aA (aM 4 (ag jF (ag bQ cQ cT) (ag bQ dJ cT))) (aA (aM 5 (ak BQ (aa (c_ 2 [4] (uJ false false (aa cQ (aa dJ ai))) (iL [(aF 0),(aF 1)]) bI (ag iF bg (ag bZ cQ bG))) ai))) (aA (aM 2 dJ) (aM 3 j4))))) (bM cQ))))
def jl:FN:=g_ 1 1 (mz (uC (dY (ak PM.iq (aa bg ai)))) (kE "NoRing" (aa (qs "a ring is 0 or a prime from 2 to 997") ai)) dh)
def inverse:FN:=g_ 2 2 (aA (fg (ak PM.jl (aa bg ai))) (aA (mz (dY (ag jC bg cT)) (bM (ak PM.jW (aa bG ai))) dh) (aA (mz (dY (ag jC (ag dX bG bg) cT)) (kE "NoInverse" (aa (qs "a multiple of the prime has no inverse") ai)) dh) (bM (ag dX (ag bQ (ak PM.shared (aa (ag dX bG bg) (aa bg ai))) cI) bg)))))
def cF:FN:=g_ 2 3 (aA (aM 2 (c_ 1 [0] (gN bG) (aF 0) bI (ag dX bg bG))) (aA (dM (j6 (dY (ag sO (ak bF (aa cQ ai)) cT)) (dY (ag jC (ag bQ cQ (iK cI)) cT))) (fg (HY B1 cQ))) (bM cQ)))
def bA:FN:=g_ 2 5 (aA (aM 2 cT) (aA (mz (dY (ag ltV bG (ak bF (aa bg ai)))) (aM 2 (ag bQ bg bG)) dh) (aA (mz (dY (ag sO (ak Ah (aa cQ ai)) (ag Fb Hr (mC (.int 9))))) (bM cQ) dh) (aA (aM 3 (ag dX (ag cU (ag cU (ag cU (ag bZ cQ (mC (.int 48271))) (ag bZ (ag bZ (mC (.int 7919)) bG) bG)) (ag bZ (mC (.int 104729)) bG)) (mC (.int 11))) fm)) (aA (aM 4 (ag dX (ag bZ (ag dX (ag bZ dJ dJ) (mC (.int 2147483629))) (mC (.int 69621))) fm)) (bM (ag cU (ag bZ (ag dX (ag bZ fT fT) (mC (.int 2147483587))) fm) fT)))))))
def d9:FN:=g_ 1 1 (mz (Af (uC (dY (ak PM.iq (aa bg ai)))) (dY (ag jC bg cT))) (kE "NoPrime" (aa (qs "a prime is one from 2 to 997") ai)) dh)
def d_:FN:=g_ 2 2 (bM (ag cU (ak uG (aa bg ai)) (ag bZ (a_ (aa cT ai)) (ag iF bG (ak bF (aa bg ai))))))
def pL:FN:=g_ 1 2 (aA (aM 1 (ak bF (aa bg ai))) (aA (dM (j6 (dY (ag sO bG cT)) (dY (ag jC (ag bQ bg (ag iF bG cI)) cT))) (aM 1 (ag iF bG cI))) (bM (B0 bg jG (jH bG)))))
def bB:FN:=g_ 4 6 (aA (aM 4 (ak Fp (aa (ak bF (aa bG ai)) (aa (ak bF (aa cQ ai)) ai)))) (aA (aM 5 (ak PM.d_ (aa bG (aa fT ai)))) (bM (ak PM.cF (aa bg (aa (c_ 2 [3] (uJ true true (aa j4 (aa (ak PM.d_ (aa cQ (aa fT ai))) ai))) (iL [(aF 0),(aF 1)]) bI (ag cU bg (ag bZ cQ bG))) ai))))))
def c!:FN:=g_ 3 8 (aA (mz (Af (dY (ag jC (ak bF (aa bG ai)) cT)) (dY (ag jC (ak bF (aa cQ ai)) cT))) (bM (a_ ai)) dh) (aA (aM 3 (ag bZ (a_ (aa cT ai)) (ag iF (ag cU (ak bF (aa bG ai)) (ak bF (aa cQ ai))) cI))) (aA (iM (jU (aa bG ai)) (iL [(aF 4),(aF 5)]) (iM (jU (aa cQ ai)) (iL [(aF 6),(aF 7)]) (xk Fo dJ (ag cU fT nW) (ag bZ j4 uD)))) (bM (ak PM.cF (aa bg (aa dJ ai)))))))
def dB:FN:=g_ 3 3 (bM (ak PM.cF (aa bg (aa (c_ 1 [2] (gN bG) (aF 0) bI (ag bZ bg bG)) ai))))
def fo:FN:=g_ 2 2 (bM (ak PM.cF (aa bg (aa (c_ 1 [1] (gQ (aa cI (aa (ak bF (aa bG ai)) ai))) (aF 0) bI (ag bZ bg (ag bQ bG bg))) ai))))
def j8:FN:=g_ 3 6 (aA (aM 3 (a_ ai)) (aA (iM (ip (aa cQ ai)) (aF 4) (aA (aM 5 (ag dX (ag cU bG (ag bZ (mC (.int 7919)) fT)) fm)) (aA (aM 5 (ag dX (ag bZ (ag dX (ag bZ j4 j4) (mC (.int 2147483629))) (mC (.int 48271))) fm)) (fg (g6 dS dJ (aa (ag dX (ag jF j4 (ag cU cI fT)) bg) ai)))))) (bM (ak PM.pL (aa dJ ai)))))
def parted:FN:=g_ 3 11 (aA (aM 3 (ak uG (aa bG ai))) (aA (aM 4 (ak PM.inverse (aa bg (aa (ag bQ cQ (iK cI)) ai)))) (aA (aM 5 (ak Fp (aa cT (aa (ag cU (ag iF (ak bF (aa bG ai)) (ak bF (aa cQ ai))) cI) ai)))) (aA (aM 6 (ag bZ (a_ (aa cT ai)) j4)) (aA (iM (yy (aa (ag iF j4 cI) (aa (iK cI) (aa (iK cI) ai)))) (aF 7) (aA (aM 8 (ag dX (ag bZ (ag bQ dJ (ag iF (ag cU uD (ak bF (aa cQ ai))) cI)) fT) bg)) (aA (sf nW uD Hq) (iM (jU (aa cQ ai)) (iL [(aF 9),(aF 10)]) (xk LR dJ (ag cU uD Bn) (ag bZ Hq (iJ 10))))))) (bM (gB (aa (ak PM.cF (aa bg (aa nW ai))) (aa (ak PM.cF (aa bg (aa dJ ai))) ai)))))))))
def f_:FN:=g_ 3 5 (aA (aM 3 (ak PM.parted (aa bg (aa (ag bQ bG cT) (aa (ag bQ cQ cT) ai))))) (aA (aM 4 (c_ 1 [2,3,0] (gN (gB (aa cI (aa yn ai)))) (aF 0) bI (ak PM.c! (aa dJ (aa (ag bQ cQ cT) (aa (ag bQ bG bg) ai)))))) (bM (gB (aa (ag bQ dJ cI) (aa (ak PM.bB (aa bg (aa (ag bQ bG cI) (aa (ag bQ fT cT) (aa (iK cI) ai))))) (aa (ak PM.bB (aa bg (aa (ag bQ bG yn) (aa (ag bQ fT cI) (aa (iK cI) ai))))) ai)))))))
def met:FN:=g_ 3 10 (aA (aM 3 (gB (aa bG (aa (a_ (aa cI ai)) (aa (a_ ai) ai))))) (aA (aM 4 (gB (aa cQ (aa (a_ ai) (aa (a_ (aa cI ai)) ai))))) (aA (dM (dY (ag sO (ak bF (aa (ag bQ fT cT) ai)) cT)) (aA (aM 5 (ak PM.f_ (aa bg (aa dJ (aa fT ai))))) (aA (aM 3 fT) (aM 4 j4)))) (aA (aM 6 (ak PM.inverse (aa bg (aa (ag bQ (ag bQ dJ cT) (iK cI)) ai)))) (aA (aM 7 (ak PM.dB (aa bg (aa (ag bQ dJ cT) (aa nW ai))))) (aA (aM 8 (ag bQ (ak PM.parted (aa bg (aa bG (aa uD ai)))) cT)) (aA (aM 9 (ag bQ (ak PM.parted (aa bg (aa cQ (aa uD ai)))) cT)) (bM (gB (aa uD (aa Hq (aa Bn (aa (ak PM.dB (aa bg (aa (ag bQ dJ cI) (aa nW ai)))) (aa (ak PM.dB (aa bg (aa (ag bQ dJ yn) (aa nW ai)))) ai))))))))))))))
end PM
namespace MN
open PySem.Spec L2
open PyProof.Rows hiding St
theorem dN{g:af->Prop}{a:AS}{body:MB}(P:Nat->Env->af->Prop):∀(us:List ah)(k:Nat)(μ:Env)(st:af),
  (∀(i:Nat)(u:ah)(μ:Env)(st:af),us[i]?=some u->P (k+i) μ st->g st/\∃μ1,a u μ=some μ1/\∃μ' aC,(body μ1 st=.nx μ' aC\/body μ1 st=.ct μ' aC)/\P (k+i+1) μ' aC) ->
  (∀μ st,P (k+us.length) μ st->g st)->P k μ st->∃μ' aC,forL g a body us μ st=.nx μ' aC/\P (k+us.length) μ' aC
 |[],k,μ,st,_,he,h=>by refine⟨μ,st,?_,h⟩;unfold forL;rw[VC (he μ st h)]
 |u::us,k,μ,st,hs,he,h=>by
  obtain⟨hg,μ1,ha,μ',aC,hb,hP⟩:=hs 0 u μ st rfl h;have ih:=dN (a:=a) (body:=body) P us (k+1) μ' aC (λi v μ2 bX hv hp=>by
   have:=hs (i+1) v μ2 bX hv (by rw[show k+(i+1)=k+1+i by lia];exact hp);rw[show k+(i+1)+1=k+1+i+1 by lia]at this;exact this) (λμ2 bX hp=>he μ2 bX (by rw[Vm,show k+(us.length+1)=k+1+us.length by lia];exact hp)) hP
  obtain⟨μ2,bX,e2,p2⟩:=ih;refine⟨μ2,bX,?_,by rw[Vm,show k+(us.length+1)=k+1+us.length by lia];exact p2⟩;unfold forL;rw[VC hg,ha];rcases hb with hb|hb<;>(dsimp only;rw[hb];exact e2)
theorem h!{g:af->Prop}{a:AS}{c:MT}{e:ME}{st:af}(hg:g st)(I:Env->Prop)(p:ah->Bool)(f:ah->ah):∀(us:List ah)(τ:Env)(ys:List ah),I τ ->
  (∀u∈us,∀τ,I τ->∃τ1,a u τ=some τ1/\I τ1/\c τ1 st=.ok (p u) st/\(p u=true->e τ1 st=.ok (f u) st))->dZ g a c e us τ st ys=.ok (ys++(us.filter p).map f) st
 |[],τ,ys,_,_=>by unfold dZ;rw[VC hg];simp
 |u::us,τ,ys,hI,hs=>by
  obtain⟨τ1,h1,h2,h3,h4⟩:=hs u VV τ hI;have LZ:=λv hv=>hs v (VP u hv);unfold dZ;rw[VC hg,h1];dsimp only;rw[h3];cases z:p u with
  |true=>
   dsimp only;rw[h4 z];dsimp only;rw[h! hg I p f us τ1 _ h2 LZ,XS z];simp
  |false=>
   dsimp only;rw[h! hg I p f us τ1 _ h2 LZ,XT (by rw[z];simp)]
theorem bV(st:af)(us:List ah):ao (st++[.lst us]) st.length=some us:=by unfold ao;rw[V4 (VD _),W5];rfl
theorem bP{n:Nat}(h:ao st n=some us)(more:af):ao (st++more) n=some us:=by
 have hn:n<st.length:=by
  rcases WQ n st.length with q|q
  .exact q
  .unfold ao at h;rw[V1 q]at h;cases h
 unfold ao at h⊢;rw[V6 hn];exact h
theorem uM{t:MT}{body:MB}(P:Env->af->Prop)(M:Env->af->Nat)(Q:Env->af->Prop)(hs:∀μ st,P μ st->(∃st1,t μ st=.ok false st1/\Q μ st1)\/∃st1 μ' aC,t μ st=.ok true st1/\(body μ st1=.nx μ' aC\/body μ st1=.ct μ' aC)/\P μ' aC/\M μ' aC<M μ st):
  ∀(n:Nat)(μ:Env)(st:af),M μ st<n->P μ st->∃μ' aC,g! t body n μ st=some (.nx μ' aC)/\Q μ' aC
 |0,μ,st,h,_=>absurd h (YY _)
 |n+1,μ,st,h,hp=>by
  unfold g!;rcases hs μ st hp with⟨st1,e,q⟩|⟨st1,μ',aC,e,hb,p',lt⟩
  .rw[e];exact⟨μ,st1,rfl,q⟩
  .rw[e];dsimp only;obtain⟨μ2,bX,e2,q2⟩:=uM P M Q hs n μ' aC (by lia) p';rcases hb with hb|hb<;>(rw[hb];exact⟨μ2,bX,e2,q2⟩)
theorem gC{t:MT}(P:Env->af->Prop)(M:Env->af->Nat)(Q:Env->af->Prop)(hs:∀μ st,P μ st->(∃st1,t μ st=.ok false st1/\Q μ st1)\/∃st1 μ' aC,t μ st=.ok true st1/\(body μ st1=.nx μ' aC\/body μ st1=.ct μ' aC)/\P μ' aC/\M μ' aC<M μ st)(μ:Env)(st:af)(hp:P μ st):∃μ' aC,dM t body μ st=.nx μ' aC/\Q μ' aC:=by obtain⟨μ',aC,e,q⟩:=uM P M Q hs (M μ st+1) μ st (YK _) hp;exact⟨μ',aC,Fj e,q⟩
def cz.iV(r:cz α)(k:α->af->cz β):cz β:=match r with
 |.ok a st=>k a st
 |.err c st=>.err c st
 |.bad=>.bad
def cz.pM(r:cz α)(μ:Env)(k:α->af->bY):bY:=match r with
 |.ok a st=>k a st
 |.err c st=>.er c μ st
 |.bad=>.bad
def bY.dR(r:bY)(k:MB):bY:=match r with
 |.nx μ st=>k μ st
 |.rt v st=>.rt v st
 |.bk μ st=>.bk μ st
 |.ct μ st=>.ct μ st
 |.er c μ st=>.er c μ st
 |.bad=>.bad
def bY.fin(r:bY):cz ah:=match r with
 |.nx _ aC=>.ok .cH aC
 |.rt v aC=>.ok v aC
 |.er c _ aC=>.err c aC
 |_=>.bad
section
variable{μ:Env}
theorem aj{a:α}{k:α->af->cz β}:(cz.ok a st).iV k=k a st:=rfl
theorem DC{c:Str}{k:α->af->cz β}:(cz.err c st:cz α).iV k=.err c st:=rfl
theorem DD{k:α->af->cz β}:(cz.bad:cz α).iV k=.bad:=rfl
theorem ax{a:α}{k:α->af->bY}:(cz.ok a st).pM μ k=k a st:=rfl
theorem kG{c:Str}{k:α->af->bY}:(cz.err c st:cz α).pM μ k=.er c μ st:=rfl
theorem DE{k:α->af->bY}:(cz.bad:cz α).pM μ k=.bad:=rfl
theorem aL{k:MB}:(bY.nx μ st).dR k=k μ st:=rfl
theorem gS{v:ah}{k:MB}:(bY.rt v st).dR k=.rt v st:=rfl
theorem Ia{k:MB}:(bY.bk μ st).dR k=.bk μ st:=rfl
theorem Ib{k:MB}:(bY.ct μ st).dR k=.ct μ st:=rfl
theorem oU{c:Str}{k:MB}:(bY.er c μ st).dR k=.er c μ st:=rfl
theorem yA:(bY.nx μ st).fin=.ok .cH st:=rfl
theorem a9{v:ah}:(bY.rt v st).fin=.ok v st:=rfl
theorem kH{c:Str}:(bY.er c μ st).fin=.err c st:=rfl
theorem j9{r:cz α}{k:α->af->cz β}:r.bind k=r.iV k:=by cases r<;>rfl
variable{a b c:ME}{f g:F2}{t u:MT}{s1 s2:MB}
theorem b?{r:cz α}{k k':α->af->cz β}(h:∀a st,k a st=k' a st):r.bind k=r.iV k':=by cases r<;>first|exact h _ _|rfl
theorem fV{r:cz α}{k k':α->af->bY}(h:∀a st,k a st=k' a st):r.sb μ k=r.pM μ k':=by cases r<;>first|exact h _ _|rfl
def Ar(f:F2)(x:ah):ah->af->cz ah:=λy st=>f x y st
def T9(f:F2)(b:ME)(μ:Env):ah->af->cz ah:=λx st=>(b μ st).iV (Ar f x)
theorem av:ag f a b μ st=(a μ st).iV (T9 f b μ):=b? λ_ _=>b? λ_ _=>rfl
theorem aH{x:ah}:T9 f b μ x st=(b μ st).iV (Ar f x):=rfl
theorem aw{x y:ah}:Ar f x y st=f x y st:=rfl
theorem bj:mC v μ st=.ok v st:=rfl
def asB:ah->af->cz Bool
 |.bl b,st=>.ok b st
 |_,_=>.bad
theorem aR{b:Bool}:asB (.bl b) st=.ok b st:=rfl
theorem aQ:dY a μ st=(a μ st).iV asB:=b? λx _=>by cases x<;>rfl
def Qc(b:ME)(μ:Env):ah->af->cz ah
 |.bl true,st=>b μ st
 |.bl false,st=>.ok (.bl false) st
 |_,_=>.bad
theorem jm:Ae a b μ st=(a μ st).iV (Qc b μ):=b? λx _=>by
 cases x<;>try rfl
 rename_i k;cases k<;>rfl
theorem jI:Qc b μ (.bl true) st=b μ st:=rfl
theorem pN:Qc b μ (.bl false) st=.ok (.bl false) st:=rfl
def kOr(b:ME)(μ:Env):ah->af->cz ah
 |.bl true,st=>.ok (.bl true) st
 |.bl false,st=>b μ st
 |_,_=>.bad
theorem DF:mOr a b μ st=(a μ st).iV (kOr b μ):=b? λx _=>by
 cases x<;>try rfl
 rename_i k;cases k<;>rfl
theorem B5:kOr b μ (.bl true) st=.ok (.bl true) st:=rfl
theorem B6:kOr b μ (.bl false) st=b μ st:=rfl
def T_:ah->af->cz ah
 |.bl k,st=>.ok (.bl (!k)) st
 |_,_=>.bad
theorem B7:Pc a μ st=(a μ st).iV T_:=b? λx _=>by cases x<;>rfl
theorem k_not{k:Bool}:T_ (.bl k) st=.ok (.bl (!k)) st:=rfl
def Ic(u:MT)(μ:Env):Bool->af->cz Bool
 |true,st=>u μ st
 |false,st=>.ok false st
theorem iu:j6 t u μ st=(t μ st).iV (Ic u μ):=b? λx _=>by cases x<;>rfl
theorem j_:Ic u μ true st=u μ st:=rfl
theorem mR:Ic u μ false st=.ok false st:=rfl
def Qd(u:MT)(μ:Env):Bool->af->cz Bool
 |true,st=>.ok true st
 |false,st=>u μ st
theorem fW:Af t u μ st=(t μ st).iV (Qd u μ):=b? λx _=>by cases x<;>rfl
theorem pO:Qd u μ true st=.ok true st:=rfl
theorem f?:Qd u μ false st=u μ st:=rfl
def Nq:Bool->af->cz Bool:=λk st=>.ok (!k) st
theorem kI:uC t μ st=(t μ st).iV Nq:=b? λ_ _=>rfl
theorem qD{k:Bool}:Nq k st=.ok (!k) st:=rfl
def Qe(a b:ME)(μ:Env):Bool->af->cz ah
 |true,st=>a μ st
 |false,st=>b μ st
theorem lX:Kd t a b μ st=(t μ st).iV (Qe a b μ):=b? λx _=>by cases x<;>rfl
theorem kJ:Qe a b μ true st=a μ st:=rfl
theorem kK:Qe a b μ false st=b μ st:=rfl
def L7(g:F2)(c:ME)(μ:Env)(y:ah):ah->af->cz ah
 |.bl true,st=>(c μ st).iV (Ar g y)
 |.bl false,st=>.ok (.bl false) st
 |_,_=>.bad
def Qf(f g:F2)(c:ME)(μ:Env)(x:ah):ah->af->cz ah:=λy st=>(f x y st).iV (L7 g c μ y)
def kCh(f g:F2)(b c:ME)(μ:Env):ah->af->cz ah:=λx st=>(b μ st).iV (Qf f g c μ x)
theorem As:Pb f g a b c μ st=(a μ st).iV (kCh f g b c μ):=b? λ_ _=>b? λ_ _=>b? λz _=>by
 cases z<;>try rfl
 rename_i k;cases k
 .rfl
 .exact b? λ_ _=>rfl
theorem T!{x:ah}:kCh f g b c μ x st=(b μ st).iV (Qf f g c μ x):=rfl
theorem Nr{x y:ah}:Qf f g c μ x y st=(f x y st).iV (L7 g c μ y):=rfl
theorem DG{y:ah}:L7 g c μ y (.bl true) st=(c μ st).iV (Ar g y):=rfl
theorem DH{y:ah}:L7 g c μ y (.bl false) st=.ok (.bl false) st:=rfl
theorem az:ai μ st=.ok [] st:=rfl
def B8(x:ah):List ah->af->cz (List ah):=λxs st=>.ok (x::xs) st
def Nt(ms:MA)(μ:Env):ah->af->cz (List ah):=λx st=>(ms μ st).iV (B8 x)
theorem aq:aa a ms μ st=(a μ st).iV (Nt ms μ):=b? λ_ _=>b? λ_ _=>rfl
theorem ay{x:ah}:Nt ms μ x st=(ms μ st).iV (B8 x):=rfl
theorem ar{x:ah}{xs:List ah}:B8 x xs st=.ok (x::xs) st:=rfl
def T?:List ah->af->cz ah:=λxs st=>if xs.length<=sizeLine then .ok (.tup xs) st else .bad
theorem fX:gB ms μ st=(ms μ st).iV T?:=b? λ_ _=>rfl
theorem iG{xs:List ah}:T? xs st=if xs.length<=sizeLine then .ok (.tup xs) st else .bad:=rfl
def Ua:List ah->af->cz ah:=λxs st=>if xs.length<=sizeLine then .ok (.loc st.length) (st++[.lst xs])else .bad
theorem ic:a_ ms μ st=(ms μ st).iV Ua:=b? λ_ _=>rfl
theorem j!{xs:List ah}:Ua xs st=if xs.length<=sizeLine then .ok (.loc st.length) (st++[.lst xs])else .bad:=rfl
theorem au{h:FN}:ak h ms μ st=(ms μ st).iV h:=b? λ_ _=>rfl
def Ub:ah->af->cz ah
 |.int i,st=>.ok (.int (-i)) st
 |_,_=>.bad
theorem dz{i:Int}:Ub (.int i) st=.ok (.int (-i)) st:=rfl
theorem gk:iK a μ st=(a μ st).iV Ub:=b? λx _=>by cases x<;>rfl
def B9(T:String)(v:ah)(st:af):cz ah:=match RE T st v with
 |some b=>.ok (.bl b) st
 |none=>.bad
theorem DI{T:String}:TH T a μ st=(a μ st).iV (B9 T):=b? λ_ _=>rfl
theorem aG:aA s1 s2 μ st=(s1 μ st).dR s2:=by unfold aA;cases s1 μ st<;>rfl
theorem bN:dh μ st=.nx μ st:=rfl
def Nu(μ:Env):ah->af->bY:=λ_ st=>.nx μ st
theorem b!:fg a μ st=(a μ st).pM μ (Nu μ):=fV λ_ _=>rfl
theorem eO:Nu μ v st=.nx μ st:=rfl
def Uc:ah->af->bY:=λv st=>.rt v st
theorem aZ:bM a μ st=(a μ st).pM μ Uc:=fV λ_ _=>rfl
theorem bu:Uc v st=.rt v st:=rfl
def kIf(s1 s2:MB)(μ:Env):Bool->af->bY
 |true,st=>s1 μ st
 |false,st=>s2 μ st
theorem bh:mz t s1 s2 μ st=(t μ st).pM μ (kIf s1 s2 μ):=fV λx _=>by cases x<;>rfl
theorem dC:kIf s1 s2 μ true st=s1 μ st:=rfl
theorem bS:kIf s1 s2 μ false st=s2 μ st:=rfl
def Ud(i:Nat)(μ:Env):ah->af->bY:=λv st=>.nx (μ.set i (some v)) st
theorem a!:aM i a μ st=(a μ st).pM μ (Ud i μ):=fV λ_ _=>rfl
theorem bH:Ud i μ v st=.nx (μ.set i (some v)) st:=rfl
def Ie(x:Str)(μ:Env):List ah->af->bY:=λvs st=>if vs.length<=sizeLine then .er x μ st else .bad
theorem jn{x:Str}:kE x ms μ st=(ms μ st).pM μ (Ie x μ):=fV λ_ _=>rfl
theorem kM{x:Str}{vs:List ah}:Ie x μ vs st=if vs.length<=sizeLine then .er x μ st else .bad:=rfl
def kFor(as:AS)(s1:MB)(μ:Env):Itm->af->bY:=λp st=>forL p.2 as s1 p.1 μ st
theorem gm{it:MI}{as:AS}:iM it as s1 μ st=(it μ st).pM μ (kFor as s1 μ):=fV λ_ _=>rfl
theorem iW{as:AS}{us:List ah}{q:af->Prop}:kFor as s1 μ (us,q) st=forL q as s1 us μ st:=rfl
def Qg:List ah->af->cz ah:=λys st=>.ok (.loc st.length) (st++[.lst ys])
theorem gJ{ys:List ah}:Qg ys st=.ok (.loc st.length) (st++[.lst ys]):=rfl
def Ig(k:Nat)(bE:List Nat)(as:AS)(t:MT)(a:ME)(μ:Env):Itm->af->cz ah:=λp st=>if p.1.length<=sizeLine then(dZ p.2 as t a p.1 (iN k bE μ) st []).iV Qg else .bad
theorem dj{k:Nat}{bE:List Nat}{it:MI}{as:AS}:c_ k bE it as t a μ st=(it μ st).iV (Ig k bE as t a μ):=b? λp st1=>by
 unfold Ig;split
 .exact b? λ_ _=>rfl
 .rfl
theorem eR{k:Nat}{bE:List Nat}{as:AS}{us:List ah}{q:af->Prop}:Ig k bE as t a μ (us,q) st=if us.length<=sizeLine then(dZ q as t a us (iN k bE μ) st []).iV Qg else .bad:=rfl
theorem bb{np n:Nat}{us:List ah}(h:us.length=np):g_ np n s1 us st=(s1 (us.map some++List.replicate (n-np) none) st).fin:=by unfold g_;rw[VC h];cases s1 (us.map some++List.replicate (n-np) none) st<;>rfl
theorem uN(h:μ[i]?=some (some v))(hx:Kb v=false):iJ i μ st=.ok v st:=by unfold iJ;rw[h];simp[hx]
theorem Ih{μ:Env}(hx:Kb v=false):bg (some v::μ) st=.ok v st:=uN rfl hx
theorem aD{x:Option ah}{μ:Env}:iJ (i+1) (x::μ) st=iJ i μ st:=rfl
theorem aK{μ:Env}{j:Int}:bg (some (.int j)::μ) st=.ok (.int j) st:=rfl
theorem DJ{μ:Env}{j:Bool}:bg (some (.bl j)::μ) st=.ok (.bl j) st:=rfl
theorem Ii{μ:Env}{j:Str}:bg (some (.str j)::μ) st=.ok (.str j) st:=rfl
theorem fP{μ:Env}{j:List ah}:bg (some (.tup j)::μ) st=.ok (.tup j) st:=rfl
theorem aU{μ:Env}{j:Nat}:bg (some (.loc j)::μ) st=.ok (.loc j) st:=rfl
theorem DK{μ:Env}:bg (some .cH::μ) st=.ok .cH st:=rfl
def xm(v:ah)(st:af):cz Itm:=match uI st v with
 |some p=>.ok p st
 |none=>.bad
theorem ej:gN a μ st=(a μ st).iV xm:=by unfold gN;rw[j9];rfl
theorem qE{us:List ah}:xm (.tup us) st=.ok (us,λ_=>True) st:=rfl
theorem dG{n:Nat}(h:ao st n=some us):xm (.loc n) st=.ok (us,λaC=>ao aC n=some us) st:=by simp only[xm,uI,h];rfl
def L8(vs:List ah)(aC:af):cz Itm:=match vs with
 |[.int j]=>if -(2 ^ 62)<=j/\j<2 ^ 62 then .ok (cO 0 j.toNat,λ_=>True) aC else .bad
 |_=>.bad
def FA(vs:List ah)(aC:af):cz Itm:=match vs with
 |[.int i,.int j]=>if -(2 ^ 62)<=i/\i<2 ^ 62/\-(2 ^ 62)<=j/\j<2 ^ 62 then .ok (cO i (j-i).toNat,λ_=>True) aC else .bad
 |_=>.bad
theorem kN:ip ms μ st=(ms μ st).iV L8:=by unfold ip;rw[j9];rfl
theorem nX:gQ ms μ st=(ms μ st).iV FA:=by unfold gQ;rw[j9];rfl
theorem DM{j:Int}(h1:-(2 ^ 62)<=j)(h2:j<2 ^ 62):L8 [.int j] st=.ok (cO 0 j.toNat,λ_=>True) st:=by unfold L8;dsimp only;rw[VC ⟨h1,h2⟩]
theorem yB{i j:Int}(h1:-(2 ^ 62)<=i)(h2:i<2 ^ 62)(h3:-(2 ^ 62)<=j)(h4:j<2 ^ 62):FA [.int i,.int j] st=.ok (cO i (j-i).toNat,λ_=>True) st:=by unfold FA;dsimp only;rw[VC ⟨h1,h2,h3,h4⟩]
def L9(b1 b2:Bool)(vs:List ah)(aC:af):cz Itm:=match vs with
 |[u,w]=>match jf aC u,jf aC w with
  |some (c1,us,g1),some (c2,ws,g2)=>if c1=b1/\c2=b2 then .ok (mH us ws,λbX=>g1 bX/\g2 bX) aC else .bad
  |_,_=>.bad
 |_=>.bad
theorem uO{b1 b2:Bool}:uJ b1 b2 ms μ st=(ms μ st).iV (L9 b1 b2):=by unfold uJ;rw[j9];rfl
theorem yC{us ws:List ah}:L9 false false [.tup us,.tup ws] st=.ok (mH us ws,λ_=>True/\True) st:=rfl
theorem L_{n:Nat}(h1:ao st n=some us):BQ [.loc n] st=.ok (.tup us) st:=by unfold BQ;dsimp only;rw[h1]
theorem gE{i j:Int}:cU (.int i) (.int j) st=.ok (.int (i+j)) st:=rfl
theorem fI{i j:Int}:iF (.int i) (.int j) st=.ok (.int (i-j)) st:=rfl
theorem B_{i j:Int}(h:MulOk i j):bZ (.int i) (.int j) st=.ok (.int (i*j)) st:=by unfold bZ;dsimp only;rw[VC h]
theorem B!{i j:Int}(h:Sz i/\Sz j):bZ (.int i) (.int j) st=.ok (.int (i*j)) st:=B_ (.inl h)
theorem jo{i j:Int}(h1:-(2 ^ 64)<i)(h2:i<2 ^ 64):bZ (.int i) (.int j) st=.ok (.int (i*j)) st:=B_ (.inr (.inl ⟨h1,h2⟩))
theorem mul_r{i j:Int}(h1:-(2 ^ 64)<j)(h2:j<2 ^ 64):bZ (.int i) (.int j) st=.ok (.int (i*j)) st:=B_ (.inr (.inr ⟨h1,h2⟩))
theorem div_ii{i j:Int}(h:Dz j):jF (.int i) (.int j) st=.ok (.int (i.fdiv j)) st:=VC h
theorem cj{i j:Int}(h:¬ j=0):dX (.int i) (.int j) st=.ok (.int (i.fmod j)) st:=VI h
theorem uP{i j:Int}(h:EF i j):Fb (.int i) (.int j) st=.ok (.int (i ^ j.toNat)) st:=VC h
theorem gK{i j:Int}:ltV (.int i) (.int j) st=.ok (.bl (decide (i<j))) st:=rfl
theorem Nv{i j:Int}:leV (.int i) (.int j) st=.ok (.bl (decide (i<=j))) st:=rfl
theorem fi{i j:Int}:sO (.int i) (.int j) st=.ok (.bl (decide (j<i))) st:=rfl
theorem Nw{i j:Int}:geV (.int i) (.int j) st=.ok (.bl (decide (j<=i))) st:=rfl
theorem dc{i j:Int}:jC (.int i) (.int j) st=.ok (.bl (i==j)) st:=rfl
theorem oG{i j:Int}:pk (.int i) (.int j) st=.ok (.bl (!(i==j))) st:=rfl
theorem Nx{i j:Bool}:jC (.bl i) (.bl j) st=.ok (.bl (i==j)) st:=rfl
theorem Ny{i j:Bool}:pk (.bl i) (.bl j) st=.ok (.bl (!(i==j))) st:=rfl
theorem DN{i j:Str}:jC (.str i) (.str j) st=.ok (.bl (i==j)) st:=rfl
theorem Au{i j:Str}:pk (.str i) (.str j) st=.ok (.bl (!(i==j))) st:=rfl
theorem bK{i:Int}{v:ah}(h:L2.lM us i=some v):bQ (.tup us) (.int i) st=.ok v st:=by unfold bQ;dsimp only;rw[h]
theorem bT{n:Nat}{i:Int}{v:ah}(h1:ao st n=some us)(h:L2.lM us i=some v):bQ (.loc n) (.int i) st=.ok v st:=by unfold bQ;dsimp only;rw[h1];dsimp only;rw[h]
theorem bc{n:Nat}(h1:ao st n=some us):bF [.loc n] st=.ok (.int us.length) st:=by unfold bF;dsimp only;rw[h1]
theorem DO{us:List ah}:bF [.tup us] st=.ok (.int us.length) st:=rfl
theorem uQ{i:Int}:Ah [.int i] st=.ok (.int (if i<0 then -i else i)) st:=rfl
theorem uR{i:Int}:B9 "int" (.int i) st=.ok (.bl true) st:=rfl
theorem sh{i:Int}:B9 "bool" (.int i) st=.ok (.bl false) st:=rfl
theorem DP{n:Nat}(h1:ao st n=some us)(h2:ao st m=some []):pj 16 st (.loc n) (.loc m)=some us.isEmpty:=by unfold pj;simp only[vw,h1,h2];show mE _ us []=_;cases us<;>rfl
theorem eq_nil{n:Nat}(h1:ao st n=some us)(h2:ao st m=some []):jC (.loc n) (.loc m) st=.ok (.bl us.isEmpty) st:=by unfold jC;rw[DP h1 h2]
theorem ne_nil{n:Nat}(h1:ao st n=some us)(h2:ao st m=some []):pk (.loc n) (.loc m) st=.ok (.bl (!us.isEmpty)) st:=by unfold pk;rw[DP h1 h2]
def cz.noe(r:cz α):cz α:=match r with
 |.ok v aC=>.ok v aC
 |.err _ _=>.bad
 |.bad=>.bad
theorem qF{m:Env->af->cz α}:Kg m μ st=(m μ st).noe:=by unfold Kg cz.noe;cases m μ st<;>rfl
theorem qG{a:α}:(cz.ok a st).noe=.ok a st:=rfl
def bY.L!(r:bY):bY:=match r with
 |.er _ _ _=>.bad
 |.nx μ' aC=>.nx μ' aC
 |.rt v aC=>.rt v aC
 |.bk μ' aC=>.bk μ' aC
 |.ct μ' aC=>.ct μ' aC
 |.bad=>.bad
theorem j?:Ak s1 μ st=(s1 μ st).L!:=by unfold Ak bY.L!;cases s1 μ st<;>rfl
theorem tV:(bY.nx μ st).L!=.nx μ st:=rfl
theorem tW:(bY.rt v st).L!=.rt v st:=rfl
def bY.Ij(r:bY)(kn:Str->Bool)(h:MH):bY:=match r with
 |.er c μ' aC=>if kn c=true then h c μ' aC else .bad
 |.nx μ' aC=>.nx μ' aC
 |.rt v aC=>.rt v aC
 |.bk μ' aC=>.bk μ' aC
 |.ct μ' aC=>.ct μ' aC
 |.bad=>.bad
theorem qH{kn:Str->Bool}{h:MH}:BW kn s1 h μ st=(s1 μ st).Ij kn h:=by unfold BW bY.Ij;cases s1 μ st<;>rfl
theorem tX{kn:Str->Bool}{h:MH}:(bY.nx μ st).Ij kn h=.nx μ st:=rfl
theorem DQ{kn:Str->Bool}{h:MH}:(bY.rt v st).Ij kn h=.rt v st:=rfl
theorem DR{kn:Str->Bool}{h:MH}{c:Str}(hk:kn c=true):(bY.er c μ st).Ij kn h=h c μ st:=by show(if kn c=true then h c μ st else .bad)=_;rw[VC hk]
theorem Nz{sub:Str->Str->Option Bool}{c:Str}{r:MH}(h:sub c x=some true):RG sub x i s1 r c μ st=yq (s1 (μ.set i (some (.exc c))) st):=by unfold RG;rw[h]
theorem nY:yq (.rt v st)=.rt v st:=rfl
theorem NA{sub:Str->Str->Option Bool}{y:Option ah}{μ:Env}:yr sub (i+1) x (y::μ) st=yr sub i x μ st:=rfl
end
open PyProof.Rows hiding St kindOf
theorem evs:(((((((type_of% @bb)/\((type_of% @aj)/\(type_of% @DC)))/\(((type_of% @DD)/\(type_of% @ax))/\((type_of% @kG)/\(type_of% @DE))))/\((((type_of% @aL)/\(type_of% @gS))/\((type_of% @oU)/\(type_of% @Ia)))/\(((type_of% @Ib)/\(type_of% @yA))/\((type_of% @a9)/\(type_of% @kH)))))/\(((((type_of% @av)/\(type_of% @aH))/\((type_of% @aw)/\(type_of% @jI)))/\(((type_of% @pN)/\(type_of% @B5))/\((type_of% @B6)/\(type_of% @k_not))))/\((((type_of% @j_)/\(type_of% @mR))/\((type_of% @pO)/\(type_of% @f?)))/\(((type_of% @qD)/\(type_of% @kJ))/\((type_of% @kK)/\(type_of% @T!))))))/\((((((type_of% @Nr)/\(type_of% @DG))/\((type_of% @DH)/\(type_of% @ay)))/\(((type_of% @ar)/\(type_of% @iG))/\((type_of% @j!)/\(type_of% @eO))))/\((((type_of% @bu)/\(type_of% @dC))/\((type_of% @bS)/\(type_of% @bH)))/\(((type_of% @kM)/\(type_of% @iW))/\((type_of% @gJ)/\(type_of% @eR)))))/\(((((type_of% @bj)/\(type_of% @aR))/\((type_of% @aQ)/\(type_of% @jm)))/\(((type_of% @DF)/\(type_of% @B7))/\((type_of% @iu)/\(type_of% @fW))))/\((((type_of% @kI)/\(type_of% @lX))/\((type_of% @As)/\(type_of% @az)))/\(((type_of% @aq)/\(type_of% @fX))/\((type_of% @ic)/\(type_of% @au)))))))/\(((((((type_of% @dz)/\(type_of% @gk))/\((type_of% @DI)/\(type_of% @aG)))/\(((type_of% @bN)/\(type_of% @b!))/\((type_of% @aZ)/\(type_of% @bh))))/\((((type_of% @a!)/\(type_of% @jn))/\((type_of% @gm)/\(type_of% @dj)))/\(((type_of% @ej)/\(type_of% @kN))/\((type_of% @nX)/\(type_of% @qE)))))/\(((((type_of% @uO)/\(type_of% @yC))/\((type_of% @qF)/\(type_of% @qG)))/\(((type_of% @j?)/\(type_of% @tV))/\((type_of% @tW)/\(type_of% @qH))))/\((((type_of% @tX)/\(type_of% @DQ))/\((type_of% @nY)/\(type_of% @MN.NA)))/\(((type_of% @gE)/\(type_of% @fI))/\((type_of% @gK)/\(type_of% @Nv))))))/\((((((type_of% @fi)/\(type_of% @Nw))/\((type_of% @dc)/\(type_of% @oG)))/\(((type_of% @Nx)/\(type_of% @Ny))/\((type_of% @DN)/\(type_of% @Au))))/\((((type_of% @DO)/\(type_of% @uQ))/\((type_of% @uR)/\(type_of% @sh)))/\(((type_of% @aK)/\(type_of% @DJ))/\((type_of% @Ii)/\(type_of% @fP)))))/\(((((type_of% @aU)/\(type_of% @DK))/\((type_of% @aD)/\(type_of% @Vs.{0,0})))/\(((type_of% @VE.{0,0})/\(type_of% @Vz.{0}))/\((type_of% @Vu.{0})/\(type_of% @Vy.{0}))))/\((((type_of% @Vr.{0})/\(type_of% @Vn.{0}))/\((type_of% @Vt.{0})/\(type_of% @Vm.{0})))/\(((type_of% @Vx.{0})/\(type_of% @Wi))/\((type_of% @XI)/\(type_of% @VB)))))))):=⟨⟨⟨⟨⟨⟨@bb,⟨@aj,@DC⟩⟩,⟨⟨@DD,@ax⟩,⟨@kG,@DE⟩⟩⟩,⟨⟨⟨@aL,@gS⟩,⟨@oU,@Ia⟩⟩,⟨⟨@Ib,@yA⟩,⟨@a9,@kH⟩⟩⟩⟩,⟨⟨⟨⟨@av,@aH⟩,⟨@aw,@jI⟩⟩,⟨⟨@pN,@B5⟩,⟨@B6,@k_not⟩⟩⟩,⟨⟨⟨@j_,@mR⟩,⟨@pO,@f?⟩⟩,⟨⟨@qD,@kJ⟩,⟨@kK,@T!⟩⟩⟩⟩⟩,⟨⟨⟨⟨⟨@Nr,@DG⟩,⟨@DH,@ay⟩⟩,⟨⟨@ar,@iG⟩,⟨@j!,@eO⟩⟩⟩,⟨⟨⟨@bu,@dC⟩,⟨@bS,@bH⟩⟩,⟨⟨@kM,@iW⟩,⟨@gJ,@eR⟩⟩⟩⟩,⟨⟨⟨⟨@bj,@aR⟩,⟨@aQ,@jm⟩⟩,⟨⟨@DF,@B7⟩,⟨@iu,@fW⟩⟩⟩,⟨⟨⟨@kI,@lX⟩,⟨@As,@az⟩⟩,⟨⟨@aq,@fX⟩,⟨@ic,@au⟩⟩⟩⟩⟩⟩,⟨⟨⟨⟨⟨⟨@dz,@gk⟩,⟨@DI,@aG⟩⟩,⟨⟨@bN,@b!⟩,⟨@aZ,@bh⟩⟩⟩,⟨⟨⟨@a!,@jn⟩,⟨@gm,@dj⟩⟩,⟨⟨@ej,@kN⟩,⟨@nX,@qE⟩⟩⟩⟩,⟨⟨⟨⟨@uO,@yC⟩,⟨@qF,@qG⟩⟩,⟨⟨@j?,@tV⟩,⟨@tW,@qH⟩⟩⟩,⟨⟨⟨@tX,@DQ⟩,⟨@nY,@MN.NA⟩⟩,⟨⟨@gE,@fI⟩,⟨@gK,@Nv⟩⟩⟩⟩⟩,⟨⟨⟨⟨⟨@fi,@Nw⟩,⟨@dc,@oG⟩⟩,⟨⟨@Nx,@Ny⟩,⟨@DN,@Au⟩⟩⟩,⟨⟨⟨@DO,@uQ⟩,⟨@uR,@sh⟩⟩,⟨⟨@aK,@DJ⟩,⟨@Ii,@fP⟩⟩⟩⟩,⟨⟨⟨⟨@aU,@DK⟩,⟨@aD,@Vs.{0,0}⟩⟩,⟨⟨@VE.{0,0},@Vz.{0}⟩,⟨@Vu.{0},@Vy.{0}⟩⟩⟩,⟨⟨⟨@Vr.{0},@Vn.{0}⟩,⟨@Vt.{0},@Vm.{0}⟩⟩,⟨⟨@Vx.{0},@Wi⟩,⟨@XI,@VB⟩⟩⟩⟩⟩⟩⟩
section
variable{μ:Env}{a b c o:ME}{f:F2}{g:FM}{w:ah}{n:Nat}
def Qh(x:ah)(l:Option Int):Option Int->af->cz ah:=λh st=>HX l h x st
def Qi(hi:MO)(μ:Env)(x:ah):Option Int->af->cz ah:=λl st=>(hi μ st).iV (Qh x l)
def kSl(lo hi:MO)(μ:Env):ah->af->cz ah:=λx st=>(lo μ st).iV (Qi hi μ x)
theorem Av{lo hi:MO}:B0 a lo hi μ st=(a μ st).iV (kSl lo hi μ):=b? λx st1=>b? λl bX=>b? λh oD=>rfl
theorem Ik{lo hi:MO}:kSl lo hi μ v st=(lo μ st).iV (Qi hi μ v):=rfl
theorem Aw{hi:MO}{l:Option Int}:Qi hi μ v l st=(hi μ st).iV (Qh v l):=rfl
theorem Ax{l h:Option Int}:Qh v l h st=HX l h v st:=rfl
theorem mT:jG μ st=.ok none st:=rfl
def kO:ah->af->cz (Option Int)
 |.int i,st=>.ok (some i) st
 |_,_=>.bad
theorem mW:jH a μ st=(a μ st).iV kO:=b? λx _=>by cases x<;>rfl
theorem Il{j:Int}:kO (.int j) st=.ok (some j) st:=rfl
theorem yD{l h:Option Int}(e:ao st n=some us):HX l h (.loc n) st=.ok (.loc st.length) (st++[.lst (wm us l h)]):=by simp only[HX,e]
def Qj(g:FM)(x:ah):List ah->af->cz ah:=λxs st=>g x xs st
def L?(g:FM)(ms:MA)(μ:Env):ah->af->cz ah:=λx st=>if sd st x=true then(ms μ st).iV (Qj g x)else .bad
theorem kQ:g6 g o ms μ st=(o μ st).iV (L? g ms μ):=b? λx st1=>by
 unfold L?;split
 .exact b? λ_ _=>rfl
 .rfl
theorem oH(h:st[n]?=some (.lst us)):L? g ms μ (.loc n) st=(ms μ st).iV (Qj g (.loc n)):=by unfold L?;rw[VC (by unfold sd;dsimp only;rw[h])]
theorem uS{xs:List ah}:Qj g v xs st=g v xs st:=rfl
def Qk(g:FM):ah->af->cz ah:=λx st=>if sd st x=true then g x [] st else .bad
theorem Ql:HY g o μ st=(o μ st).iV (Qk g):=b? λ_ _=>rfl
theorem Ue(h:st[n]?=some (.lst us)):Qk g (.loc n) st=g (.loc n) [] st:=by unfold Qk;rw[VC (by unfold sd;dsimp only;rw[h])]
theorem ja(h:st[n]?=some (.lst us))(hl:us.length<sizeLine):dS (.loc n) [v] st=.ok .cH (st.set n (.lst (us++[v]))):=by simp only[dS,h];rw[VC hl]
theorem Qm(h:st[n]?=some (.lst (us++[v]))):B1 (.loc n) [] st=.ok v (st.set n (.lst us)):=by
 simp only[B1,h];have e:(us++[v])[(us++[v]).length-1]?=some v:=by rw[Vv,V3,Nat.add_sub_cancel,V4 (VD _),W5];rfl
 rw[e,List.dropLast_concat]
def Qn(μ:Env)(x y:ah):ah->af->bY:=λz st=>Nm μ (qC y z x st)
def Qo(b:ME)(μ:Env)(x:ah):ah->af->bY:=λy st=>(b μ st).pM μ (Qn μ x y)
def kSI(a b:ME)(μ:Env):ah->af->bY:=λx st=>(a μ st).pM μ (Qo b μ x)
theorem DS:sf a b c μ st=(c μ st).pM μ (kSI a b μ):=fV λ_ _=>fV λ_ _=>fV λ_ _=>rfl
theorem Ug:kSI a b μ v st=(a μ st).pM μ (Qo b μ v):=rfl
theorem NB:Qo b μ v w st=(b μ st).pM μ (Qn μ v w):=rfl
theorem NC{x:ah}:Qn μ v w x st=Nm μ (qC w x v st):=rfl
theorem tY{k:Int}(h:st[n]?=some (.lst us))(hj:L2.zU us.length k=some j):qC (.loc n) (.int k) v st=some (st.set n (.lst (us.set j v))):=by simp only[qC,h,hj];rfl
theorem pP:Nm μ (some st)=.nx μ st:=rfl
def Qp(μ:Env)(y z:ah):ah->af->bY:=λr st=>Nm μ (qC y z r st)
def Qq(f:F2)(μ:Env)(y z x:ah):ah->af->bY:=λw st=>(f x w st).pM μ (Qp μ y z)
def Qr(f:F2)(c:ME)(μ:Env)(y z:ah):ah->af->bY:=λx st=>(c μ st).pM μ (Qq f μ y z x)
def Qs(f:F2)(c:ME)(μ:Env)(y:ah):ah->af->bY:=λz st=>(Nn y z st).pM μ (Qr f c μ y z)
def kAI(f:F2)(b c:ME)(μ:Env):ah->af->bY:=λy st=>(b μ st).pM μ (Qs f c μ y)
theorem DT:xk f a b c μ st=(a μ st).pM μ (kAI f b c μ):=fV λ_ _=>fV λ_ _=>fV λ_ _=>fV λ_ _=>fV λ_ _=>rfl
theorem Uh:kAI f b c μ v st=(b μ st).pM μ (Qs f c μ v):=rfl
theorem ND:Qs f c μ v w st=(Nn v w st).pM μ (Qr f c μ v w):=rfl
theorem NF{x:ah}:Qr f c μ v w x st=(c μ st).pM μ (Qq f μ v w x):=rfl
theorem NG{x y:ah}:Qq f μ v w x y st=(f x y st).pM μ (Qp μ v w):=rfl
theorem NH{x:ah}:Qp μ v w x st=Nm μ (qC v w x st):=rfl
theorem Im{k:Int}(e:ao st n=some us)(h:L2.lM us k=some v):Nn (.loc n) (.int k) st=.ok v st:=by simp only[Nn,e,h]
theorem Io{j k:Int}:Fo (.int j) (.int k) st=.ok (.int (j+k)) st:=rfl
theorem Qt{j k:Int}:LR (.int j) (.int k) st=.ok (.int (j-k)) st:=rfl
def Qu(k:Nat)(μ:Env):ah->af->bY:=λr st=>.nx (μ.set k (some r)) st
def Qv(k:Nat)(f:F2)(μ:Env)(x:ah):ah->af->bY:=λw st=>(f x w st).pM μ (Qu k μ)
def kAu(k:Nat)(f:F2)(a:ME)(μ:Env):ah->af->bY:=λx st=>(a μ st).pM μ (Qv k f μ x)
theorem Qw:HZ k f a μ st=(iJ k μ st).pM μ (kAu k f a μ):=fV λ_ _=>fV λ_ _=>fV λ_ _=>rfl
theorem aa3:kAu k f a μ v st=(a μ st).pM μ (Qv k f μ v):=rfl
theorem Ui:Qv k f μ v w st=(f v w st).pM μ (Qu k μ):=rfl
theorem Uj:Qu k μ v st=.nx (μ.set k (some v)) st:=rfl
theorem L':yy ms μ st=(ms μ st).iV H_:=by unfold yy;rw[j9]
theorem pQ:jU ms μ st=(ms μ st).iV H!:=by unfold jU;rw[j9]
theorem Qx{j k:Int}(h1:-(2 ^ 62)<=j)(h2:j<2 ^ 62)(h3:-(2 ^ 62)<=k)(h4:k<2 ^ 62):H_ [.int j,.int k,.int (-1)] st=.ok (lW j (j-k).toNat,λ_=>True) st:=by unfold H_;dsimp only;rw[VC ⟨rfl,h1,h2,h3,h4⟩]
theorem uT(e:ao st n=some us):H! [.loc n] st=.ok (iU 0 us,λbX=>ao bX n=some us) st:=by simp only[H!,e]
theorem Ip(e1:ao st n=some us)(e2:ao st m=some ws):L9 true true [.loc n,.loc m] st=.ok (mH us ws,λbX=>ao bX n=some us/\ao bX m=some ws) st:=by unfold L9;dsimp only;unfold jf;dsimp only;rw[e1,e2];rfl
theorem Iq{j k:Int}:Fp [.int j,.int k] st=.ok (.int (if k>j then k else j)) st:=rfl
theorem DU{x:Bool}:B3 [.bl x] st=.ok (.int (if x then 1 else 0)) st:=rfl
theorem tZ(e:ao st n=some us):uG [.loc n] st=.ok (.loc st.length) (st++[.lst us]):=by simp only[uG,e]
theorem oV(h1:st[n]?=some (.lst us))(h2:st[m]?=some (.lst ws))(hl:us.length+ws.length<=sizeLine):cU (.loc n) (.loc m) st=.ok (.loc st.length) (st++[.lst (us++ws)]):=by simp only[cU,h1,h2];rw[VC hl]
theorem uU{k:Int}(h1:st[n]?=some (.lst us))(h2:-(2 ^ 63)<=k)(h3:k<2 ^ 63)(h4:us.length*k.toNat<=sizeLine):bZ (.loc n) (.int k) st=.ok (.loc st.length) (st++[.lst (xb k.toNat us)]):=by simp only[bZ,h1];rw[VC ⟨h2,h3,h4⟩]
theorem aB(h:st[n]?=some (.lst us)):ao st n=some us:=by unfold ao;rw[h]
theorem bf(st:af)(us:List ah):(st++[aS.lst us])[st.length]?=some (.lst us):=by rw[V4 (VD _),W5];rfl
theorem cR{k:aS}(h:st[n]?=some k)(g:af):(st++g)[n]?=some k:=by rw[V6 (bx h)];exact h
theorem iw{k k':aS}(h:st[n]?=some k):(st.set n k')[n]?=some k':=Wk (bx h)
theorem g9{k k':aS}(h:st[n]?=some k)(hn:m≠n):(st.set m k')[n]?=some k:=by rw[WT hn];exact h
theorem NI(h:ao st n=some us):n<st.length:=by
 rcases WQ n st.length with q|q
 .exact q
 .unfold ao at h;rw[V1 q]at h;cases h
theorem uV(st:af)(k k':aS):(st++[k]).set st.length k'=st++[k']:=by rw[List.set_append_right _ _ (VD _),W5];rfl
end
mutual
def DV:Nat->ah->Bool
 |_,.cH=>true
 |_,.bl _=>true
 |_,.int _=>true
 |_,.str _=>true
 |0,.tup _=>false
 |n+1,.tup us=>jX n us
 |_,_=>false
def jX:Nat->List ah->Bool
 |_,[]=>true
 |n,u::us=>DV n u&&jX n us
end
mutual
theorem Ay(st:af):∀(n:Nat)(v:ah),DV n v=true->pj (n+1) st v v=some true
 |_,.cH,_=>rfl
 |_,.bl b,_=>by show some (b==b)=_;rw[Xz]
 |_,.int i,_=>by show some (i==i)=_;rw[Xz]
 |_,.str x,_=>by show some (x==x)=_;rw[Xz]
 |0,.tup _,h=>by cases h
 |n+1,.tup us,h=>by show mE (pj (n+1) st) us us=some true;exact nZ st n us h
 |n,.loc _,h=>by cases n<;>cases h
 |n,.exc _,h=>by cases n<;>cases h
 |n,.fn _ _,h=>by cases n<;>cases h
 |n,.mt _,h=>by cases n<;>cases h
theorem nZ(st:af):∀(n:Nat)(us:List ah),jX n us=true->mE (pj (n+1) st) us us=some true
 |_,[],_=>rfl
 |n,u::us,h=>by
  have h':DV n u=true/\jX n us=true:=by simpa[jX]using h
  show(match pj (n+1) st u u,mE (pj (n+1) st) us us with|some a,some b=>some (a&&b)|_,_=>none)=_;rw[Ay st n u h'.1,nZ st n us h'.2];rfl
end
theorem xn{n:Nat}:∀{us:List ah},(∀u∈us,DV n u=true)->jX n us=true
 |[],_=>rfl
 |u::us,h=>by unfold jX;rw[h u VV,xn λw hw=>h w (VP u hw)];rfl
theorem si(n:Nat)(ns:_a):jX n (ns.map ah.int)=true:=xn λu hu=>by obtain⟨i,_,rfl⟩:=Wb.mp hu;cases n<;>rfl
section
variable{n:Nat}
theorem FC(h1:ao st n=some us)(h2:ao st m=some us)(hp:jX 14 us=true):pj 16 st (.loc n) (.loc m)=some true:=by unfold pj;simp only[vw,h1,h2];exact nZ st 14 us hp
theorem Ir(h1:ao st n=some us)(h2:ao st m=some us)(hp:jX 14 us=true):jC (.loc n) (.loc m) st=.ok (.bl true) st:=by unfold jC;rw[FC h1 h2 hp]
end
end MN
namespace SO
open PySem.W PyProof.Rows
abbrev g(p:Array Nat)(i:Nat):Nat:=p.getD i 0
theorem yE(p:Array Nat)(i:Nat):g p i=(p[i]?).getD 0:=Array.getD_eq_getD_getElem?
def Ok(L:Nat->Nat->Bool)(n:Nat){α:Type}(P:α->Prop):KasT α->Prop
 |.ret a=>P a
 |.ask i j k=>i<n/\j<n/\Ok L n P (k (L i j))
theorem Ok.bind{L:Nat->Nat->Bool}{n:Nat}{P:α->Prop}{Q:β->Prop}{f:α->KasT β}(hf:∀a,P a->Ok L n Q (f a)):∀{t:KasT α},Ok L n P t->Ok L n Q (t.bind f)
 |.ret a,h=>hf a h
 |.ask _ _ _,h=>⟨h.1,h.2.1,Ok.bind hf h.2.2⟩
theorem Ok.imp{L:Nat->Nat->Bool}{n:Nat}{P Q:α->Prop}(hf:∀a,P a->Q a):∀{t:KasT α},Ok L n P t->Ok L n Q t
 |.ret a,h=>hf a h
 |.ask _ _ _,h=>⟨h.1,h.2.1,Ok.imp hf h.2.2⟩
theorem Ok.wp{L:Nat->Nat->Bool}{n:Nat}{P:α->Prop}{cmp:Nat->Nat->(Bool->_h->Prop)->_h->Prop}{R:_h->Prop}{Q:α->_h->Prop}(ha:∀i j s(C:Bool->_h->Prop),i<n->j<n->R s->(∀s',R s'->C (L i j) s')->cmp i j C s)(hq:∀a s,P a->R s->Q a s):∀{t:KasT α}{s:_h},Ok L n P t->R s->t.kasWp cmp Q s
 |.ret a,s,h,r=>hq a s h r
 |.ask i j k,s,h,r=>ha i j s _ h.1 h.2.1 r λs' r'=>Ok.wp ha hq h.2.2 r'
structure Ord(L:Nat->Nat->Bool)(n:Nat):Prop where
 tr:∀i j k,i<n->j<n->k<n->L i j=true->L j k=true->L i k=true
 tot:∀i j,i<n->j<n->i≠j->L i j=false->L j i=true
 aa4:∀i j,i<n->j<n->L i j=true->L j i=false
def Pm(n:Nat)(p:Array Nat):Prop:=p.Perm (List.toArray (List.range n))
section
variable{n:Nat}{p:Array Nat}
theorem Pm.list(h:Pm n p):p.toList.Perm (List.range n):=Array.perm_iff_toList_perm.mp h
theorem Pm.size(h:Pm n p):p.size=n:=by have:=h.list.length_eq;rw[VW]at this;exact this
theorem Pm.get(h:Pm n p)(hi:i<n):p[i]?=some (g p i):=by
 have hz:i<p.size:=by rw[h.size];exact hi
 rw[yE,ZY p i hz];rfl
theorem Pm.lt(h:Pm n p)(hi:i<n):g p i<n:=by
 have hz:i<p.size:=by rw[h.size];exact hi
 have e:g p i=p.toList[i]'hz:=by rw[yE,ZY p i hz];rfl
 have m:g p i∈p.toList:=by rw[e];exact X6 _
 exact XH.mp (h.list.mem_iff.mp m)
theorem Pm.inj(h:Pm n p)(hi:i<n)(hj:j<n)(e:g p i=g p j):i=j:=by
 have hz:i<p.size:=by rw[h.size];exact hi
 have RK:j<p.size:=by rw[h.size];exact hj
 have nd:p.toList.Nodup:=h.list.nodup_iff.mpr List.nodup_range;have e1:g p i=p.toList[i]'hz:=by rw[yE,ZY p i hz];rfl
 have e2:g p j=p.toList[j]'RK:=by rw[yE,ZY p j RK];rfl
 rw[e1,e2]at e;exact(Zr nd).mp e
theorem Pm.start(n:Nat):Pm n (List.toArray (List.range n)):=Array.Perm.refl _
theorem Pm.rev(h:Pm n p)(i j:Nat):Pm n (kas_rev p i j):=(mirror_perm p i j _).trans h
theorem Pm.bub(h:Pm n p)(i j:Nat):Pm n (bubble p i j):=(bubble_perm p i j).trans h
theorem NJ(h:Pm n p)(hm:m<=n)(hi:i<m):g (kas_rev p 0 m) i=g p (m-1-i):=by rw[yE,yE];unfold kas_rev;rw[getElem?_mirror_all (by rw[h.size];exact hm),VC ⟨We _,hi⟩,V8]
theorem NK(h:Pm n p){l:Nat}(hk:k<n)(hl:l<=k):g (bubble p k (k-l)) i=if i=l then g p k else if l<i/\i<=k then g p (i-1)else g p i:=by
 have e:k-(k-l)=l:=by lia
 rw[yE,getElem?_bubble (by rw[h.size];exact hk) (k-l) (by lia),e];split
 .rw[yE]
 .split<;>rw[yE]
end
section
variable{L:Nat->Nat->Bool}{n:Nat}(O:Ord L n)
include O
def xo(L:Nat->Nat->Bool)(p:Array Nat)(m:Nat):Prop:=∀i,i+1<m->L (g p i) (g p (i+1))=true
def Qy(L:Nat->Nat->Bool)(p:Array Nat)(m:Nat):Prop:=∀i,i+1<m->L (g p (i+1)) (g p i)=true
theorem other{p:Array Nat}(h:Pm n p)(hi:i<n)(hj:j<n)(hn:i≠j)(e:L (g p i) (g p j)=false):L (g p j) (g p i)=true:=
 O.tot _ _ (h.lt hi) (h.lt hj) (λz=>hn (h.inj hi hj z)) e
theorem xo.sj{p:Array Nat}(h:Pm n p)(hm:m<=n)(a:xo L p m):∀d:Nat,i+d+1<m->L (g p i) (g p (i+d+1))=true
 |0,hd=>a i hd
 |d+1,hd=>O.tr _ _ _ (h.lt (by lia)) (h.lt (by lia)) (h.lt (by lia)) (xo.sj h hm a d (by lia)) (a (i+d+1) hd)
theorem xo.lt{p:Array Nat}(h:Pm n p)(hm:m<=n)(a:xo L p m)(hij:i<j)(hj:j<m):L (g p i) (g p j)=true:=by have:=xo.sj O h hm a (i:=i) (j-i-1) (by lia);rwa [show i+(j-i-1)+1=j by lia]at this
theorem B?{p:Array Nat}(h:Pm n p):∀(f k:Nat),1<=k->k+f<=n->xo L p k->Ok L n (λm=>k<=m/\m<=k+f/\xo L p m/\(m<k+f->L (g p m) (g p (m-1))=true)) (kas_asc p f k)
 |0,k,_,_,a=>⟨VD _,VD _,a,λz=>absurd z (Wf _)⟩
 |f+1,k,h1,hk,a=>by
  refine⟨h.lt (by lia),h.lt (by lia),?_⟩;show Ok L n _ (if L (g p k) (g p (k-1))=true then .ret k else kas_asc p f (k+1));by_cases c:L (g p k) (g p (k-1))=true
  .rw[VC c];exact⟨VD _,by lia,a,λ_=>c⟩
  .rw[VI c];have c':L (g p k) (g p (k-1))=false:=by simpa using c
   have z:=other O h (by lia) (by lia) (by lia) c';refine Ok.imp (λm hm=>?_) (B? h f (k+1) (by lia) (by lia) (λi hi=>?_))
   .exact⟨by lia,by lia,hm.2.2.1,λq=>hm.2.2.2 (by lia)⟩
   .by_cases e:i+1<k
    .exact a i e
    .have:i=k-1:=by lia
     subst this;rw[show k-1+1=k by lia];exact z
theorem DW{p:Array Nat}(h:Pm n p):∀(f k:Nat),1<=k->k+f<=n->Qy L p k->Ok L n (λr=>r.1=p/\r.2.2=0/\k<=r.2.1/\r.2.1<=k+f/\Qy L p r.2.1) (kas_desc f p k 0)
 |0,k,_,_,a=>⟨rfl,rfl,VD _,VD _,a⟩
 |f+1,k,h1,hk,a=>by
  refine⟨h.lt (by lia),h.lt (by lia),?_⟩;show Ok L n _ (if L (g p k) (g p (k-1))=true then(if 0>0 then kas_desc f (kas_rev p (k-(0+1)) k) (k+1) 0 else kas_desc f p (k+1) 0)else .ask (g p (k-1)) (g p k) λd=>if d=true then .ret (p,k,0)else kas_desc f p (k+1) (0+1));by_cases c:L (g p k) (g p (k-1))=true
  .rw[VC c,VI (Wf _)];refine Ok.imp (λr hr=>⟨hr.1,hr.2.1,by lia,by lia,hr.2.2.2.2⟩) (DW h f (k+1) (by lia) (by lia) (λi hi=>?_));by_cases e:i+1<k
   .exact a i e
   .have:i=k-1:=by lia
    subst this;rw[show k-1+1=k by lia];exact c
  .rw[VI c];have c':L (g p k) (g p (k-1))=false:=by simpa using c
   have z:=other O h (by lia) (by lia) (by lia) c';refine⟨h.lt (by lia),h.lt (by lia),?_⟩;show Ok L n _ (if L (g p (k-1)) (g p k)=true then .ret (p,k,0)else kas_desc f p (k+1) (0+1));rw[VC z];exact⟨rfl,rfl,VD _,YM _ _,a⟩
def Part(L:Nat->Nat->Bool)(n:Nat)(r:Nat×Array Nat):Prop:=1<=r.1/\r.1<=n/\Pm n r.2/\xo L r.2 r.1
theorem t6{p:Array Nat}(h:Pm n p)(h1:1<=m)(hm:m<=n)(a:Qy L p m):Ok L n (Part L n) (kas_tail3 m n p):=by
 have b:xo L (kas_rev p 0 m) m:=by intro i hi;rw[NJ h hm (by lia),NJ h hm hi];have:=a (m-1-(i+1)) (by lia);rwa [show m-1-(i+1)+1=m-1-i by lia]at this
 refine Ok.bind (λk hk=>?_) (B? O (h.rev 0 m) (n-m) m h1 (by lia) b);exact⟨by lia,by lia,h.rev 0 m,hk.2.2.1⟩
theorem Iu{p:Array Nat}(h:Pm n p)(hn:1<=n):Ok L n (Part L n) (kas_count n p):=by
 refine Ok.bind (λk hk=>?_) (B? O h (n-1) 1 (VD _) (by lia) (λi hi=>absurd hi (by lia)));obtain⟨k1,k2,ka,kl⟩:=hk;have FD:Part L n (k,p):=⟨k1,by show k<=n;lia,h,ka⟩
 by_cases e:(k==n)=true
 .rw[VC e];exact FD
 .rw[VI e];have e':k≠n:=λz=>e (by simpa using z);by_cases e1:k>1
  .rw[VC e1];refine⟨h.lt (by lia),h.lt (by lia),?_⟩;show Ok L n _ (if L (g p 0) (g p (k-1))=true then .ret (k,p)else _);rw[VC (xo.lt O h (by lia) ka (by lia) (by lia))];exact FD
  .rw[VI e1];have:k=1:=by lia
   subst this;have z:=kl (by lia);refine Ok.bind (λr hr=>?_) (DW O h (n-(1+1)) (1+1) (by lia) (by lia) (λi hi=>?_))
   .obtain⟨r1,r2,r3⟩:=r;obtain⟨q1,q2,q3,q4,q5⟩:=hr;dsimp only at q1 q2 q3 q4 q5;subst q1 q2;show Ok L n _ (if 0>0 then _ else kas_tail3 r2 n r1);rw[VI (Wf _)];exact t6 O h (by lia) (by lia) q5
   .have:i=0:=by lia
    subst this;exact z
theorem uW{p:Array Nat}(h:Pm n p){k:Nat}(hk:k<n)(a:xo L p k):∀(f l r:Nat),l<=r->r<=k->r-l<=f->(∀i,i<l->L (g p i) (g p k)=true)->(∀i,r<=i->i<k->L (g p k) (g p i)=true) ->
  Ok L n (λm=>m<=k/\(∀i,i<m->L (g p i) (g p k)=true)/\∀i,m<=i->i<k->L (g p k) (g p i)=true) (kas_place p k f l r)
 |0,l,r,h1,h2,h3,lo,hi=>⟨by lia,lo,λi q=>hi i (by lia)⟩
 |f+1,l,r,h1,h2,h3,lo,hi=>by
  show Ok L n _ (if l ≥ r then .ret l else .ask (g p k) (g p ((l+r) / 2)) λc=>if c=true then kas_place p k f l ((l+r) / 2)else kas_place p k f ((l+r) / 2+1) r);by_cases e:l ≥ r
  .rw[VC e];exact⟨by lia,lo,λi q=>hi i (by lia)⟩
  .rw[VI e];obtain⟨m,hm⟩:∃m,m=(l+r) / 2:=⟨_,rfl⟩
   rw[<-hm];have m1:l<=m:=by lia
   have m2:m<r:=by lia
   refine⟨h.lt hk,h.lt (by lia),?_⟩;show Ok L n _ (if L (g p k) (g p m)=true then kas_place p k f l m else kas_place p k f (m+1) r);by_cases c:L (g p k) (g p m)=true
   .rw[VC c];refine uW h hk a f l m m1 (by lia) (by lia) lo λi q1 q2=>?_;by_cases q:i=m
    .rw[q];exact c
    .exact O.tr _ _ _ (h.lt hk) (h.lt (by lia)) (h.lt (by lia)) c (xo.lt O h (by lia) a (by lia) q2)
   .rw[VI c];have c':L (g p k) (g p m)=false:=by simpa using c
    have z:=other O h hk (by lia) (by lia) c';refine uW h hk a f (m+1) r (by lia) h2 (by lia) (λi q=>?_) hi;by_cases q1:i=m
    .rw[q1];exact z
    .exact O.tr _ _ _ (h.lt (by lia)) (h.lt (by lia)) (h.lt hk) (xo.lt O h (by lia) a (show i<m by lia) (by lia)) z
theorem Iv:∀(f:Nat)(p:Array Nat)(k:Nat),Pm n p->k+f=n->xo L p k->Ok L n (λq=>Pm n q/\xo L q n) (kas_bin f p k)
 |0,p,k,h,hk,a=>⟨h,by rw[<-hk];exact a⟩
 |f+1,p,k,h,hk,a=>by
  refine Ok.bind (λl hl=>?_) (uW O h (k:=k) (by lia) a k 0 k (We _) (VD _) (by lia) (λi q=>absurd q (YY _)) (λi q1 q2=>absurd q1 (by lia)));obtain⟨l1,lo,hi⟩:=hl;refine Iv f _ (k+1) (h.bub _ _) (by lia) λi Ha=>?_;rw[NK h (by lia) l1,NK h (by lia) l1];by_cases c1:i=l
  .rw[VC c1,VI (by lia),VC (by lia)];exact hi _ (by lia) (by lia)
  .rw[VI c1];by_cases c2:i+1=l
   .rw[VC c2,VI (by lia)];exact lo i (by lia)
   .rw[VI c2];by_cases c3:l<i
    .rw[VC ⟨c3,by lia⟩,VC ⟨by lia,by lia⟩];have:=a (i-1) (by lia);rwa [show i-1+1=i+1-1 by lia]at this
    .rw[VI (by lia),VI (by lia)];exact a i (by lia)
theorem Ma(hn:1<=n):Ok L n (λq=>Pm n q/\xo L q n) (kas_sort n):=by
 refine Ok.bind (λr hr=>?_) (Iu O (Pm.start n) hn);obtain⟨k,p⟩:=r;obtain⟨h1,h2,h3,h4⟩:=hr;dsimp only at h1 h2 h3 h4;show Ok L n _ (if k<n then kas_bin (n-max k 1) p (max k 1)else .ret p);have e:max k 1=k:=by lia
 rw[e];by_cases c:k<n
 .rw[VC c];exact Iv O (n-k) p k h3 (by lia) h4
 .rw[VI c];have:k=n:=by lia
  subst this;exact⟨h3,h4⟩
end
def pR(h:Heap)(d:_i)(es:Array DictEntry)(ep:Nat):Prop:=∃o,h.get? d=some o/\o.cls=.type "dict" /\ o.data=.dict es ep
section
variable{E:Z_}{d it:_i}{es:Array DictEntry}
theorem pR.ty(x:pR s.heap d es ep):s.TypeIs (.ref d) "dict":=by obtain⟨o,ho,hc,_⟩:=x;exact⟨o,ho,hc⟩
theorem pR.lt(x:pR h d es ep):d<h.objs.size:=by obtain⟨o,ho,_⟩:=x;exact VH ho
theorem pR.to(x:pR h d es ep)(hk:∀o,h.get? d=some o->h'.get? d=some o):pR h' d es ep:=by obtain⟨o,ho,r⟩:=x;exact⟨o,hk o ho,r⟩
theorem Iw{Q:Z_}(hd:(d==sysModules)=false)(x:pR s.heap d es ep)(hQ:Q (.ref s.heap.objs.size) {s with heap:=s.heap.push {cls:=.type "dict_keyiterator",data:=.fields #[.ref d,.int 0 0,.int es.size 0,.int ep 0]} }):wpAny (model prog w) A (pyIter (.ref d)) Q E s:=by obtain⟨o,go,gc,gd⟩:=id x;have T:=x.ty;refine wpAny_pyIter_slot T Zl (WW Zl T PySem.F.entry_dict_iter ?_ (PySem.F.args_dict_iter_1 _));unfold Builtin.«dict.__iter__»;refine Vl ?_;unfold Builtin.Dict.dictSlotNone;refine Vl (wpAny_notOrdered_dict T ?_);show wpAny _ _ (pure (Value.ref d)) _ _ s;refine VA ?_;show wpAny _ _ (Builtin.Dict.showsAll d >>= _) _ _ s;unfold Builtin.Dict.showsAll;rw[VI (by rw[hd];exact VQ)];refine Vl (VA ?_);refine Vl (Y3 go gd ?_);refine Vl (Zj go gd ?_);refine Vl (Wv (VA ⟨_,rfl,"dict_keyiterator",_,⟨_,VS _ rfl,rfl⟩,WE.lookup,?_⟩));simpa[rawInt]using hQ
theorem Iy{Q:_c->_h->Prop}(hit:s.heap.IsKeyIter it d i es.size ep)(x:pR s.heap d es ep)(hi:i<es.size)(hQ:∀h',h'.IsKeyIter it d (i+1) es.size ep->Heap.SameBut it s.heap h'->Q (some es[i].key) {s with heap:=h'}):wpAny (model prog w) A (pyNext (.ref it)) Q E s:=by
 obtain⟨o,ho,hc,hf⟩:=id hit;obtain⟨od,go,gc,gd⟩:=id x;have T:=hit.typeIs;unfold pyNext;refine Vl (XE (WM (name:=Str.ofString "__next__") T WE (WW WE T Yy ?_ (Ys _))));refine Vl (VA ?_);refine Vl ?_;refine Vl ?_
 first|refine Vl (Xg T (VA ?_))|refine Vl (XD T (VA ?_))
 refine Vl (wpAny_fieldsOf ho hf ?_);have no:Builtin.Dict_items.ownsTuple "dict_keyiterator" = false:=by decide
 simp only[no,WG,XM];show wpAny _ _ (if(Value.ref d==Value.none)=true then _ else _) _ _ s;rw[VI (show ¬ ((Value.ref d==Value.none)=true)from VQ)];refine Vl (VA ?_);refine Vl (Y3 go gd ?_);rw[VI (by simp)];refine Vl (VA ?_);refine Vl (Zj go gd ?_);rw[VI (by simp)];refine VA ?_;simp only[show ¬ ((i:Int)<0)from by lia,XM,WR,XC hi];refine Vl ?_
 first|refine Vl (Xg T (VA ?_))|refine Vl (XD T (VA ?_))
 refine Vl (Z6 T ?_);show wpAny _ _ (setField (.ref it) 1 (rawInt ((i:Int)+1)) >>= _) _ _ s;refine Vl (Xu ho hf (by simp) ?_);have go2:(s.heap.update it (Obj.mapFields (·.setIfInBounds 1 (rawInt ((i:Int)+1))))).IsKeyIter it d (i+1) es.size ep:=
  ⟨_,W_ _ ho (Xn (WK hf _)),(Obj.cls_mapFields ..).trans hc,by rw[WK hf];simp[rawInt]⟩
 refine Vl (WX ?_);refine Vl (Z6 (s:={s with heap:=s.heap.update it (Obj.mapFields (·.setIfInBounds 1 (rawInt ((i:Int)+1))))}) go2.typeIs ?_);show wpAny _ _ (pure es[i].key) _ _ _;exact VA (VA ⟨_,rfl,VA (hQ _ go2 (Xc ..))⟩)
theorem Mb{Q:_c->_h->Prop}(hh:A.handled=none)(hit:s.heap.IsKeyIter it d i es.size ep)(x:pR s.heap d es ep)(hi:es.size<=i)(hQ:∀h',Heap.ExtBut it s.heap h'->Q none {s with heap:=h'}):wpAny (model prog w) A (pyNext (.ref it)) Q E s:=by
 obtain⟨o,ho,hc,hf⟩:=id hit;obtain⟨od,go,gc,gd⟩:=id x;have T:=hit.typeIs;unfold pyNext;refine Vl (XE (WM (name:=Str.ofString "__next__") T WE (WW WE T Yy ?_ (Ys _))));refine Vl (VA ?_);refine Vl ?_;refine Vl ?_
 first|refine Vl (Xg T (VA ?_))|refine Vl (XD T (VA ?_))
 refine Vl (wpAny_fieldsOf ho hf ?_);have no:Builtin.Dict_items.ownsTuple "dict_keyiterator" = false:=by decide
 simp only[no,WG,XM];show wpAny _ _ (if(Value.ref d==Value.none)=true then _ else _) _ _ s;rw[VI (show ¬ ((Value.ref d==Value.none)=true)from VQ)];refine Vl (VA ?_);refine Vl (Y3 go gd ?_);rw[VI (by simp)];refine Vl (VA ?_);refine Vl (Zj go gd ?_);rw[VI (by simp)];refine VA ?_;simp only[show ¬ ((i:Int)<0)from by lia,XM,WR,Array.getElem?_eq_none hi];refine Vl ?_
 first|refine Vl (Xg T (VA ?_))|refine Vl (XD T (VA ?_))
 show wpAny _ _ (setField (.ref it) 0 .none >>= _) _ _ s;refine Vl (Xu ho hf (by simp) ?_);show wpAny _ _ (newExc (.type "StopIteration") [] >>= _) _ _ _;refine Vl ?_;simp only[newExc,newTuple];refine Vl (Wv ?_ (by size_fits));refine Vl (m:=firstArgMember _ _) (wpAny_of_eq (a:=Value.none) (by first|rfl|(simp only[firstArgMember];rfl)) ?_);refine Wv ?_ (by size_fits);simp only[raiseNew];refine Vl (wpAny_handled ?_);rw[show A.in1.handled=none from hh];refine Vl (VA (wpAny_throw ?_));refine Vl (Y? (T:="StopIteration") (b:=true) ⟨_,VS _ rfl,rfl⟩ isSubtype_stop ?_);exact VA (hQ _ (((Xc ..).extBut.push _).push _))
def Iz(es:Array DictEntry)(i:Nat)(v:_g):Prop:=∃h:i<es.size,v=es[i].key
theorem FE(hh:A.handled=none)(I:_i)(hne:d≠I):Walks prog w A I [I,d] [I] es.size (Iz es) (λi h=>h.IsKeyIter I d i es.size ep/\pR h d es ep) where
 sub:=λb hb=>by rw[VN]at hb;rw[hb];exact VV
 frame:=λ_ _ _ st hk=>⟨st.1.at λo e=>hk I VV o e,st.2.to λo e=>hk d (VP _ VV) o e⟩
 item:=λi s Q E hi st hQ=>Iy st.1 st.2 hi λh' k1 k2=>
  hQ _ h' s.toks ⟨hi,rfl⟩ ⟨k1,st.2.to λo e=>k2.extBut d o hne e⟩ λb o hb e=>k2.extBut b o (λz=>hb (by rw[z];exact Z9 _)) e
 done:=λs Q E st hQ=>Mb hh st.1 st.2 (VD _) λh' k=>hQ h' s.toks λb o hb e=>k b o (λz=>hb (by rw[z];exact Z9 _)) e
 self:=λ_ _ _ _ st hQ=>wpAny_pyIter_keyiter st.1 hQ
theorem Mc(lo:(d==sysModules)=false):KdlSrc prog w "dict" d d es.size (Iz es) (λh=>pR h d es ep) where
 type:=λ_ x=>x.ty
 there:=λ_ x=>⟨x.lt,x.lt⟩
 keep:=λ_ _ x hk=>x.to λo e=>hk d (.inl rfl) o e
 notList:=by decide
 notTuple:=by decide
 hint:=λ_ _ _ _ x q=>kdl_hint_dict x.ty q
 iter:=λ_ _ hh x=>⟨_,_,(λ_ _ q=>Iw lo x q),FE hh _ (V0 x.lt),⟨⟨_,VS _ rfl,rfl,rfl⟩,x.to λo e=>Vo _ e⟩⟩
end
section
variable{E:Z_}{d it:_i}{es:Array DictEntry}
theorem Md{acc:Array _g}(h:ItemsOf (Iz es) acc es.size):acc.toList=es.toList.map (·.key):=by
 apply Zs
 .rw[V2,Vq,V2];exact h.1
 .intro i h1 h2;have hi:i<acc.size:=by rw[V2]at h1;exact h1
  obtain⟨hz,e⟩:=h.2 i acc[i] (XC hi);rw[Array.getElem_toList,List.getElem_map,Array.getElem_toList,e]
theorem Az{Q:_b->_h->Prop}(hh:A.handled=none)(lo:(d==sysModules)=false)(x:pR s.heap d es ep)(hn:es.size<=sizeLine)(h:∀h' tk,s.heap.objs.size<h'.objs.size->(∀b o,s.heap.get? b=some o->h'.get? b=some o)->Q (es.toList.map (·.key)) {s with heap:=h',toks:=tk}):wpAny (model prog w) A (collect (.ref d)) Q E s:=by
 unfold collect;refine Vl (wpAny_runValue (XU (R:=λr s'=>r=.ok (.ret (.ref s.heap.objs.size))/\wpAny (model prog w) A (do
  let u <- load s.heap.objs.size
  match u.data with
  |.seq xs _=>pure xs.toList
  |_=>unsupported "internal:collect") Q E s') ?_ λr s' q=>?_))
 .refine X7 entry_proto_collect' ?_;show wpAny _ _ (do again (.builtin "list.__iadd__" ⟨[<-newList [],.ref d],[]⟩)) _ _ s;refine Vl (YQ (VA ⟨Code.quiet_builtin _ (by decide +kernel),X7 entry_list_iadd' ?_⟩) (We _));have ne:=W6 x.lt;refine kdl_extend (R:=λr s'=>r=.ok (.ret (.ref s.heap.objs.size))/\wpAny (model prog w) A (do
   let u <- load s.heap.objs.size
   match u.data with
   |.seq xs _=>pure xs.toList
   |_=>unsupported "internal:collect") Q E s') (s:={s with heap:=s.heap.push (seqObj "list" #[] 0)}) (Mc (es:=es) (ep:=ep) lo) hh (x.to λo e=>Vo _ e) s.heap.objs.size ne ne (.ref s.heap.objs.size) 0 (VS _ rfl) (λh' tk acc c hk hS OW=>⟨rfl,?_⟩) hn
  refine Vl (wpAny_load hS ?_);show wpAny _ _ (pure acc.toList) Q E _;rw[Md OW];exact VA (h h' tk (VH hS) λb o e=>hk b o (V0 (VH e)) (Vo _ e))
 .obtain⟨rfl,q⟩:=q;exact q
end
def lexLt:_a->_a->Bool
 |_,[]=>false
 |[],_::_=>true
 |x::xs,y::ys=>if x=y then lexLt xs ys else decide (x<y)
theorem qJ:∀xs:_a,lexLt xs xs=false
 |[]=>rfl
 |x::xs=>by show(if x=x then lexLt xs xs else _)=false;rw[VC rfl];exact qJ xs
theorem uX:∀{xs ys zs:_a},lexLt xs ys=true->lexLt ys zs=true->lexLt xs zs=true:=by
 intro xs
 induction xs with
 |nil=>
  intro ys zs h1 h2;cases zs with
  |nil=>cases ys<;>cases h2
  |cons z zs=>rfl
 |cons x xs ih=>
  intro ys zs h1 h2;cases ys with
  |nil=>cases h1
  |cons y ys=>
   cases zs with
   |nil=>cases h2
   |cons z zs=>
    replace h1:(if x=y then lexLt xs ys else decide (x<y))=true:=h1;replace h2:(if y=z then lexLt ys zs else decide (y<z))=true:=h2;show(if x=z then lexLt xs zs else decide (x<z))=true;by_cases e1:x=y
    .rw[VC e1]at h1;subst e1;by_cases e2:x=z
     .rw[VC e2]at h2⊢;exact ih h1 h2
     .rw[VI e2]at h2⊢;exact h2
    .rw[VI e1]at h1;have Qz:=WN h1;by_cases e2:y=z
     .subst e2;rw[VI e1];exact h1
     .rw[VI e2]at h2;have Kh:=WN h2;rw[VI (by lia)];exact VZ (by lia)
theorem n_:∀{xs ys:_a},xs≠ys->lexLt xs ys=false->lexLt ys xs=true:=by
 intro xs
 induction xs with
 |nil=>
  intro ys h1 h2;cases ys with
  |nil=>exact absurd rfl h1
  |cons y ys=>cases h2
 |cons x xs ih=>
  intro ys h1 h2;cases ys with
  |nil=>rfl
  |cons y ys=>
   replace h2:(if x=y then lexLt xs ys else decide (x<y))=false:=h2;show(if y=x then lexLt ys xs else decide (y<x))=true;by_cases e:x=y
   .subst e;rw[VC rfl]at h2⊢;exact ih (λz=>h1 (by rw[z])) h2
   .rw[VI e]at h2;rw[VI (λz=>e z.symm)];have:=of_decide_eq_false h2;exact VZ (by lia)
theorem kR{xs ys:_a}(h:lexLt xs ys=true):lexLt ys xs=false:=by
 cases z:lexLt ys xs with
 |false=>rfl
 |true=>
  have:=uX h z;rw[qJ]at this;cases this
end SO
namespace TS
section
variable(r:α->Nat)
def FD(xs:Array α)(i j:Nat):List α:=(xs.toList.drop i).take (j-i)
variable{r}{xs ys:Array α}
theorem IA:(FD xs i j)[k]?=if k<j-i then xs[i+k]? else none:=by unfold FD;rw[List.getElem?_take,Y7,WJ]
theorem AA{x:α}(h:xs[i]?=some x):FD xs i (i+1)=[x]:=by
 apply Yl;intro n;rw[IA];cases n with
 |zero=>rw[VC (by lia)];exact h
 |succ n=>rw[VI (by lia)];rfl
end
end TS
namespace SO
open PySem.W PyProof.Rows
section
variable{xs:List (_a)}
def nOf:_g->Int
 |.int n _=>n
 |_=>0
def uK(h:Heap):_g->_a
 |.ref a=>match h.get? a with
  |some o=>match o.data with
   |.seq aP _=>aP.toList.map nOf
   |_=>[]
  |none=>[]
 |_=>[]
theorem IB{us:_b}(h:IntsAre us ns):us.map nOf=ns:=by
 induction h with
 |nil=>rfl
 |cons n t _ ih=>rw[Vs,ih];rfl
end
end SO
namespace L2
open PySem.Spec PyProof.Rows
def IC(X:Cx)(f:_g)(ks:_e)(r:List V->List V->Hp->VK->Prop):Prop:=
 ∀(ae:Z?)(s:_h)(σ:St)(H:Hp)(xs zs:List V)(us ws:_b)(Q:VK),aX X ae σ H s->bo xs us->bo zs ws->r xs zs H Q ->
  wpAny (model X.prog X.w) X.A (call f us (ks.zip ws)) (EP X ae σ Q) X.xe s
def tCK(r:List V->List V->Hp->VK->Prop)(t tk:TA):TE:=λσ H Q=>t σ H λvs H1=>tk σ H1 λzs H2=>r vs zs H2 Q
section
variable{id:String}{ks:_e}{r:List V->List V->Hp->VK->Prop}{p:Pos}{GU:List Keyword}{t tk:TA}
theorem FF(hc:IC X (.builtin id) ks r)(hg:Gl X x)(hm:X.mg x=none)(hv:bootBuiltins x=some (.builtin id))(ha:PA X (e::es) t)(hkw:PK X GU tk)(hks:(backToKw pos (keywordEach GU X.env)).filterMap (·.1)=ks:=by rfl)(hn:x ≠ "__name__":=by decide)(sE:(x==("__debug__":Str))=false:=by decide)(he:backTo pos (starEach (e::es) X.env)=(false,eval e X.env)::backTo pos (starEach es X.env):=by rfl)(ko:(backTo pos (starEach (e::es) X.env)).any (·.1)=false:=by rfl)(ON:(backToKw pos (keywordEach GU X.env)).all (·.1.isSome)=true:=by rfl)(SH:(backToKw pos (keywordEach GU X.env)).any (·.1.isNone)=false:=by rfl):PE X (.Call (.Name x p) (e::es) GU pos) (tCK r t tk):=by intro ae s σ H Q I h;refine Xi (kr I hg hm hv ?_ hn sE);refine callWith_kw (dR (ha pos ae s σ H _ I h) λus s1 q1=>?_) he ko ON SH;obtain⟨vs,H1,I1,r1,q1⟩:=q1;refine dR (hkw pos ae s1 σ H1 _ I1 q1) λws s2 q2=>?_;obtain⟨zs,H2,I2,r2,q2⟩:=q2;rw[hks];exact hc ae s2 σ H2 vs zs us ws Q I2 r1 r2 q2
end
theorem ID{xs:_a}{us:_b}(h:bo (xs.map V.int) us):IntsAre us xs:=by
 induction xs generalizing us with
 |nil=>cases h;exact .nil
 |cons x xs ih=>
  cases h with
  |cons a b=>
   obtain⟨t,rfl⟩:=a;exact .cons x t (ih b)
end L2
namespace MN
open PySem.Spec L2
open PyProof.Rows hiding St kindOf
def geK(a b:_a):Bool:=!(SO.lexLt a b)
def srt(ks:List (_a)):List (_a):=ks.mergeSort geK
def uY:List ah->Option (_a)
 |[]=>some []
 |.int i::r=>(uY r).map (i :: ·)
 |_::_=>none
theorem FG:∀{us:List ah}{a:_a},uY us=some a->us=a.map ah.int:=by
 intro us
 induction us with
 |nil=>intro a h;cases h;rfl
 |cons u r ih=>
  intro a h;cases u with
  |int i=>
   replace h:(uY r).map (i :: ·)=some a:=h;cases z:uY r with
   |none=>rw[z]at h;cases h
   |some b=>rw[z]at h;cases h;rw[ih z];rfl
  |_=>cases h
theorem IE(a:_a):uY (a.map ah.int)=some a:=by
 induction a with
 |nil=>rfl
 |cons x a ih=>show(uY (a.map ah.int)).map (x :: ·)=_;rw[ih];rfl
theorem bt.Me:∀{a:_a}{vs:List V},bt K ρ H (a.map ah.int) vs->vs=a.map V.int:=by
 intro a
 induction a with
 |nil=>intro vs h;exact h.gg
 |cons x a ih=>
  intro vs h;obtain⟨v,r,rfl,q1,q2⟩:=bt.cN h;rw[Rl.cP q1,ih q2];rfl
end MN
namespace L2
open PySem.Spec PyProof.Rows
structure jq(k:Nat)(A:_j):Prop where
 dp:A.depth+3*k+5<recursionLimit
 un:A.units+16*k+200<cLine
theorem jq.room(r:jq k A):fj k {A with handled:=none}:=⟨rfl,r.dp,r.un⟩
theorem jq.mono(r:jq k A)(h:j<=k):jq j A:=⟨by have:=r.dp;lia,by have:=r.un;lia⟩
theorem jq.units(r:jq k A):A.units+64<cLine:=by have:=r.un;lia
theorem jq.mark(r:fj k A)(v:_c):jq k (A.mark v):=⟨r.dp,r.un⟩
structure Uk(ea:_i)(oe:Obj)(outer:List Env)(H:Hp)(s:_h):Prop where
 get:s.heap.get? ea=some oe
 no:H ea=none
 out:ea ∉ iY outer
 dat:∀v,oe.data≠.cell v
def RL(CX:EI)(P:_k)(w:World)(K:Z')(mg:Z!)(base:Heap)(N:_e)(qual:Str)(scope:Scope)(f:_i)(cd:_g)(A:_j)(outer:List Env)(s:_h)(H:Hp)(E:XK)(ea:_i)(oe:Obj):Cx:=
 {iI CX P w K mg base N qual scope f cd A outer s H E with calm:=false,pn:=[(ea,oe)]}
theorem QA{params:Arguments}{body:List Stmt}{dV kV ct:_g}(lk:K.lookup f=some ⟨oc,od,.func (W.fnOf name qual params body scope dV kV doc pm an fF ct),C7⟩)(qi:W.codeIn K fF qual=true)(S:fN N ps scope){outer:List Env}{args:Args}{us:_b}{vs:List V}(hr:jq (k+1) A)(e0:wb P w K mg base A outer s H)(hb:BindsTo s (W.fnOf name qual params body scope dV kV doc pm an fF ct) args (ps.zip us))(r:bo vs us)(hl:vs.length=ps.length)(hx:Uk ea oe outer H s)(zS:∃t,l? (RL CX P w K mg base N qual scope f fF A outer s H E ea oe) body t/\t {nx:=λ_ H'=>Q .cH H',rt:=Q} (start N vs) H):
  codeAny (model P w) A (.call (.ref f) args) (CR CX outer P w H s Q E) s:=by
 have KX:K.In s.heap:=e0.mod.MZ.keeps λb o e=>(e0.bs b o e).1;have lim:s.heap.NoLimit:=e0.mod.nolimit.keeps λb o e=>(e0.bs b o e).1;have GV:∀y∈ps.zip us,scope.names.lookup y.1=some .local\/(scope.names.lookup y.1=some .cell/\((cellsFrom (s.heap.objs.size+1) scope.names []).lookup y.1).isSome=true):=λ⟨n,v⟩hy=>by
  rcases S.par n (Xb hy).1 with q|q
  .exact .inl q
  .exact .inr ⟨q,Yb _ _ _ (.inl q)⟩
 refine Z7 (A:=A) (show _ from hr.room.depth) (KX _ _ lk) rfl S.co S.gen rfl (ZL KX qi) (hb _ _ _ _ ?_);refine Zy S.kind GV λenv he s1 x=>?_;subst he;refine⟨lim.keeps x.toInCall.keep,codeAny_func ?_⟩;obtain⟨t,ht,hq⟩:=zS;have e1:wb P w K mg base {A with handled:=none} outer s H:=⟨e0.frames,e0.mod,e0.bs,e0.Gu,e0.kq,e0.C1,e0.cq,e0.bare⟩
 have I0:aX (iI CX P w K mg base N qual scope f fF {A with handled:=none} outer s H E) [] (start N vs) H s1:=wW S rfl e1 hl r x;have I:aX (RL CX P w K mg base N qual scope f fF A outer s H E ea oe) [] (start N vs) H s1:=by
  refine⟨⟨I0.ok.mod,I0.ok.kind,I0.ok.glob,I0.ok.blt,I0.ok.above,I0.ok.inj,I0.ok.has,I0.ok.M0,λh=>(by cases h),I0.ok.frames,I0.ok.J8,I0.ok.exf,I0.ok.bs,I0.ok.Gu,I0.ok.zM,I0.ok.EA,I0.ok.kq,I0.ok.C1⟩,I0.os,I0.bare,I0.base,I0.loc,I0.cell,I0.free,I0.iT,λp hp=>?_,I0.cq,I0.len⟩;have hp':p=(ea,oe):=by simpa[RL]using hp
  subst hp';refine⟨x.toInCall.keep _ _ hx.get,hx.no,?_,hx.out,hx.dat⟩;exact V0 (VH hx.get)
 refine Wm (ht [] s1 (start N vs) H _ I hq) (λfl s' hs=>?_) λe s' hs=>hs;have fin:∀{σ':St}{H':Hp}{v:V}{u:_g},aX (RL CX P w K mg base N qual scope f fF A outer s H E ea oe) [] σ' H' s'->bJ v u->Q v H'->CE outer P w H s Q u s':=
  λ{σ' H' v u}J rv q=>⟨v,H',J.os,J.bare,J.base,J.cq,rv,q⟩
 cases fl with
 |ret u=>
  obtain⟨v,σ',H',J,rv,q⟩:=hs;exact fin J rv q
 |next=>
  obtain⟨σ',H',J,q⟩:=hs;exact fin (v:=V.cH) (u:=Value.none) J rfl q
 |brk=>
  obtain⟨_,_,_,q⟩:=hs;exact False.elim q
 |cont=>
  obtain⟨_,_,_,q⟩:=hs;exact False.elim q
end L2
namespace MN
open PySem.Spec L2
open PyProof.Rows hiding St
def pU(P:_k)(w:World)(K:Z')(mg:Z!)(base:Heap)(x:Str)(k:Nat)(F:Str->af->cz ah):Prop:=
 ∃(fa:_i)(fd:FuncData)(ps:_e),mg x=some (.ref fa)/\W.keepIn K (.ref fa)=true/\Binds K fd ps []/\ps.length=1 /\
  ∀(A:_j)(outer:List PySem.Env)(s:_h)(H:Hp)(ea:_i)(oe:Obj)(C:_i)(c:Str)(Q:VK)(args:Args),jq k A->wb P w K mg base A outer s H->BindsTo s fd args (ps.zip [.ref ea])->Uk ea oe outer H s->mg c=some (.ref C)->oe.cls=.ref C ->
   (∃ρ st,SR K ρ st H/\wR ⟨K,mg,[]⟩ E0 (Rl K) ρ H Q (F c st))->codeAny (model P w) A (.call (.ref fa) args) (CR (nO P w) outer P w H s Q E0) s
def fnN(n:Nat)(body:MB):Str->af->cz ah:=λc st=>(body (some (.exc c)::List.replicate n none) st).fin
theorem pU.mk{p:Str}{st:Stmt}(F:Gw K x x st f fd)(hm:mg x=some (.ref f))(S:fN (p::N) [p] (aY st))(hb:∀(kV doc pm:_g)(an:Option _i)(fF ct:_g)(us:_b),us.length=1->bindArgs (W.fnOf x x (gw st) (dg st) (aY st) .none kV doc pm an fF ct) ⟨us,[]⟩=pure ([p].zip us))
  (h:∀ (fF:_g) (A:_j) (outer:List PySem.Env) (s:_h) (H:Hp) (ea:_i) (oe:Obj),jq k (A.deeper (envOfC x (aY st) s.heap.objs.size f fF)) ->
   l? (RL (nO P w) P w K mg base (p::N) x (aY st) f fF A outer s H E0 ea oe) (dg st) (tS (RL (nO P w) P w K mg base (p::N) x (aY st) f fF A outer s H E0 ea oe) E0 body)):
  pU P w K mg base x (k+1) (fnN N.length body):=by
 refine⟨f,fd,[p],hm,F.kp,F.binds hb,rfl,λA outer s H ea oe C c Q args hr e0 hbt hx hc GI q=>?_⟩;obtain⟨ρ,aC,sr,q⟩:=q;obtain⟨oc,od,kV,doc,pm,an,fF,ct,C7,rfl,lk,qi⟩:=F.ex;have hr2:jq k (A.deeper (envOfC x (aY st) s.heap.objs.size f fF)):=by have:=(hr.room).deeper (envOfC x (aY st) s.heap.objs.size f fF);exact⟨this.dp,this.un⟩
 refine QA (vs:=[V.ref ea]) (E:=E0) lk qi S hr e0 hbt (.cons rfl .nil) rfl hx ⟨_,h fF A outer s H ea oe hr2,some (.exc c)::List.replicate N.length none,ρ,aC,?_,sr,?_⟩
 .refine⟨by simp[L2.start],λi u e=>?_⟩;cases i with
  |zero=>
   cases e;exact⟨.ref ea,rfl,ea,oe,C,rfl,VN.mpr rfl,hc,GI⟩
  |succ i=>
   rw[List.getElem?_cons_succ,Wz]at e;split at e<;>cases e
 .unfold fnN at q;revert q;cases body (some (.exc c)::List.replicate N.length none) aC with
  |nx μ bX=>exact λq ρ' H' σ' e s _=>q ρ' H' .cH e s Rl.w?
  |rt v bX=>exact λq=>q
  |er c μ bX=>exact λq=>q
  |bk μ bX=>exact λq=>q.elim
  |ct μ bX=>exact λq=>q.elim
  |bad=>exact λq=>q.elim
def oW(i:Nat)(F:Str->af->cz ah):ME:=λμ st=>match μ[i]? with
 |some (some (.exc c))=>Qa (F c st)
 |_=>.bad
section
variable{p:Pos}{n:Str}{F:Str->af->cz ah}
theorem AB(i:Nat)(G:pU X.prog X.w X.K X.mg X.base x k F)(hr:jq k X.A)(hg:Gl X x)(hN:X.N[i]?=some n:=by rfl)(hv:J7 X.env.scope n:=by first|exact Or.inl rfl|exact Or.inr (Or.inl rfl))(hd:(n==("__debug__":Str))=false:=by decide)(qi:(n==("__classdict__":Str))=false:=by decide)(sE:(x==("__debug__":Str))=false:=by decide)(he:starEach [.Name n q1] X.env=(false,eval (.Name n q1) X.env)::starEach [] X.env:=by rfl)(ko:(backTo pos (starEach [] X.env)).any (·.1)=false:=by rfl):
  PE X (.Call (.Name x p) [.Name n q1] [] pos) (tE X E (oW i F)):=by
 obtain⟨fa,fd,ps,hm,hk,hb,yF,run⟩:=G;intro ae s σ H Q I h;obtain⟨μ,ρ,st,rs,sr,h⟩:=h;unfold oW at h;split at h
 .rename_i c hμ;obtain⟨v,hσ,ea,oe,C,rfl,Nl,hmc,GI⟩:=rs.at_ i _ hμ;have pin:=I.pin (ea,oe) (WB _ Nl);refine Xi (nM I hg hm ?_ sE);refine YA (h₀:=X.base) I.ok.mod.MZ hk (dR ((iZ (xR hN hv hd qi) ql he) pos ae s σ H (λvs H1=>vs=[.ref ea]/\H1=H) I ⟨_,hσ,rfl,rfl⟩) λus s1⟨vs,H1,I1,r,e1,e2⟩=>⟨I1.rY,?_⟩) he ko;subst e1 e2;obtain⟨u,rfl,ru⟩:=vals1 r;cases ru;have IF:=I1.pin (ea,oe) (WB _ Nl);have hbs:=hb s1 [.ref ea] I1.rY (by rw[V7,yF];rfl);rw[V7]at hbs;refine Yr (XU (run X.A X.stack s1 H1 ea oe C c Q ⟨[.ref ea],[]⟩ hr I1.KL hbs ⟨IF.1,IF.2.1,λhb=>(V5.mp (I1.qg ea hb)).elim IF.2.2.1 IF.2.2.2.1,IF.2.2.2.2⟩ hmc GI ⟨ρ,st,sr,?_⟩) λr s' hq=>?_)
  .revert h;cases F c st with
   |ok y bX=>exact λh=>h
   |err c bX=>exact λh=>h.elim
   |bad=>exact λh=>h.elim
  .cases r with
   |error e=>obtain⟨_,_,_,_,_,z⟩:=hq;exact z.elim
   |ok fl=>
    cases fl with
    |ret u=>exact I1.after hq
    |next=>exact False.elim hq
    |brk=>exact False.elim hq
    |cont=>exact False.elim hq
 .exact h.elim
end
end MN
namespace L2
open PySem.Spec PyProof.Rows
theorem xq{x:V}:∀{xs:List V}{us:_b},bo xs us->xs.all iz=true->us.countP (EL x)=xs.countP λy=>x? y x
 |_,_,.nil,_=>rfl
 |y::xs,u::us,.cons r t,f=>by rw[Xt,Wy]at f;rw[List.countP_cons,List.countP_cons,ya r f.1,xq t f.2]
def QB:V->List V->Hp->VK->Prop:=λx vs H Q=>∃l xs y,x=.ref l/\vs=[y]/\H l=some (.lst xs)/\iz y=true/\xs.all iz=true/\Q (.int ((xs.countP λz=>x? z y:Nat):Int)) H
theorem IG:wX X "list.count" QB:=by intro ae s σ H x vs v us Q I rx rv h;obtain⟨l,xs,y,rfl,rfl,hH,fy,fs,q⟩:=h;cases rx;obtain⟨u,rfl,ru⟩:=rv.one;obtain⟨z,aP,n,r,hl,e⟩:=I.yf hH;refine X1 Zh ⟨_,e,rfl⟩ PySem.F.entry_list_count (PySem.F.args_list_count_2 _ _) (SeqAt.list_countAt l aP.toArray n none #[] u (EL y)) ⟨e,λw hw=>mK ru fy r fs w (by simpa using hw),?_⟩;refine⟨.int _,H,I.tok _,⟨_,rfl⟩,?_⟩;rw[show aP.toArray.toList=aP from rfl,xq r fs];exact q
def QC:V->List V->Hp->VK->Prop:=λx vs H Q=>∃l xs y j,x=.ref l/\vs=[y]/\H l=some (.lst xs)/\iz y=true/\xs.all iz=true/\(∃z,xs[j]?=some z/\x? z y=true)/\(∀m z,m<j->xs[m]?=some z->x? z y=false)/\Q (.int ((j:Nat):Int)) H
theorem IH:wX X "list.index" QC:=by
 intro ae s σ H x vs v us Q I rx rv h;obtain⟨l,xs,y,j,rfl,rfl,hH,fy,fs,⟨z,hz,ez⟩,SH,q⟩:=h;cases rx;obtain⟨u,rfl,ru⟩:=rv.one;obtain⟨hsz,aP,n,r,hl,e⟩:=I.yf hH;have at_:∀(m:Nat)(hm:m<aP.toArray.size),∃z,xs[m]?=some z/\EL y aP.toArray[m]=x? z y:=by
  intro m hm;have hm':m<aP.length:=by simpa using hm
  obtain⟨z,hz⟩:∃z,xs[m]?=some z:=⟨_,Vp (by lia)⟩
  obtain⟨w,hw,x_⟩:=r.get hz;have e1:aP.toArray[m]=w:=by have:=Vp hm';rw[this]at hw;simpa using hw
  refine⟨z,hz,?_⟩;rw[e1,ya x_ (Wr.mp fs z (Wc hz))]
 have hj:j<aP.toArray.size:=by have:=(V!.mp hz).1;simp;lia
 have aa5:(j:Int)<2 ^ 63-1:=by have:=(V!.mp hz).1;rw[VB]at hsz;lia
 refine X1 Zg ⟨_,e,rfl⟩ PySem.F.entry_list_index (PySem.F.args_list_index_2 _ _) (SeqAt.list_indexAt l aP.toArray n none #[] u (EL y) j hj aa5 ?_ ?_) ⟨e,λw hw=>mK ru fy r fs w (by simpa using hw),?_⟩
 .obtain⟨z',h1,h2⟩:=at_ j hj;rw[h2];rw[hz]at h1;cases h1;exact ez
 .intro m hm hmj;obtain⟨z',h1,h2⟩:=at_ m hm;rw[h2];exact SH m z' hmj h1
 .exact⟨.int _,H,I.tok _,⟨_,rfl⟩,q⟩
end L2
namespace MN
open PySem.Spec L2
open PyProof.Rows hiding St
def mX:FM
 |.loc n,[u],st=>match st[n]? with
  |some (.lst us)=>if flat u=true/\us.all flat=true then .ok (.int ((us.countP λy=>Dp y u:Nat):Int)) st else .bad
  |_=>.bad
 |_,_,_=>.bad
def mY:FM
 |.loc n,[u],st=>match st[n]? with
  |some (.lst us)=>if flat u=true/\us.all flat=true then(match us.findIdx? (λy=>Dp y u) with|some j=>.ok (.int ((j:Nat):Int)) st|none=>.bad)else .bad
  |_=>.bad
 |_,_,_=>.bad
theorem uZ{K:Z'}{ρ:_d}{H:Hp}{u:ah}{x:V}(f:flat u=true)(r:Rl K ρ H u x):∀{us:List ah}{vs:List V},us.all flat=true->bt K ρ H us vs->vs.all iz=true/\(vs.map λy=>x? y x)=us.map λy=>Dp y u
 |[],vs,_,h=>by rw[h.gg];exact⟨rfl,rfl⟩
 |w::us,vs,hf,h=>by obtain⟨v,r',rfl,h2,h3⟩:=h.cN;rw[Xt,Wy]at hf;obtain⟨a,b,c⟩:=je hf.1 f h2 r;obtain⟨d,e⟩:=uZ f r hf.2 h3;exact⟨by rw[Xt,a,d];rfl,by rw[Vs,Vs,c,e]⟩
theorem sk(f:α->Bool)(l:List α):l.countP f=(l.map f).countP id:=by rw[List.countP_map];rfl
theorem FH:wX X "list.count" (PJ (wo X) E mX):=by
 refine wX.imp IG ?_;rintro x xs H Q ⟨ρ,st,u,us,sr,r1,r2,h⟩;unfold mX at h;split at h
 .rename_i n v;obtain⟨a,rfl,ha⟩:=r1.ff;obtain⟨y,rfl,ry⟩:=r2.zE;split at h
  .rename_i ws hw;split at h
   .rename_i hz;obtain⟨vs,hH,rv⟩:=sr.cell n _ a hw ha;obtain⟨q1,q2⟩:=uZ hz.1 ry hz.2 rv;refine⟨a,vs,y,rfl,rfl,hH,(je hz.1 hz.1 ry ry).1,q1,?_⟩;rw[sk (λz=>x? z y),q2,<-sk];exact h ρ _ _ (aW.refl _ _) sr (Rl.mkInt _)
   .exact h.elim
  .exact h.elim
 .exact h.elim
theorem FJ:wX X "list.index" (PJ (wo X) E mY):=by
 refine wX.imp IH ?_;rintro x xs H Q ⟨ρ,st,u,us,sr,r1,r2,h⟩;unfold mY at h;split at h
 .rename_i n v;obtain⟨a,rfl,ha⟩:=r1.ff;obtain⟨y,rfl,ry⟩:=r2.zE;split at h
  .rename_i ws hw;split at h
   .rename_i hz;obtain⟨vs,hH,rv⟩:=sr.cell n _ a hw ha;obtain⟨q1,q2⟩:=uZ hz.1 ry hz.2 rv;split at h
    .rename_i j hj;have at_:∀(m:Nat)(z:V),vs[m]?=some z->∃w,ws[m]?=some w/\x? z y=Dp w v:=by
      intro m z RM;have e:(vs.map λy'=>x? y' y)[m]?=(ws.map λy'=>Dp y' v)[m]?:=by rw[q2]
      rw[VM,VM,RM]at e;cases NL:ws[m]? with
      |none=>rw[NL]at e;cases e
      |some w=>rw[NL]at e;exact⟨w,rfl,VR e⟩
     obtain⟨hjl,hjt,hjn⟩:=List.findIdx?_eq_some_iff_getElem.mp hj;have hl:=rv.length;refine⟨a,vs,y,j,rfl,rfl,hH,(je hz.1 hz.1 ry ry).1,q1,?_,?_,h ρ _ _ (aW.refl _ _) sr (Rl.mkInt _)⟩
     .obtain⟨z,RM⟩:∃z,vs[j]?=some z:=⟨_,Vp (by lia)⟩
      obtain⟨w,NL,e⟩:=at_ j z RM;refine⟨z,RM,?_⟩;rw[Vp hjl]at NL;cases NL;rw[e];exact hjt
     .intro m z hm RM;obtain⟨w,NL,e⟩:=at_ m z RM;rw[Vp (by lia)]at NL;cases NL;rw[e];simpa using hjn m hm
    .exact h.elim
   .exact h.elim
  .exact h.elim
 .exact h.elim
theorem II(ho:PE X o (tE X E mo))(ha:PA X (e::es) (tL X E ms))(iA:attributeBase o "count" X.env (eval o X.env)=eval o X.env:=by rfl)
  (uo:((backTo cy (starEach (e::es) X.env)).all (λx => !x.1)&&(backToKw cy (keywordEach [] X.env)).all (λx=>x.1.isSome)
   && decide ((e::es).length+([]:List Keyword).length+(if([]:List Keyword).isEmpty then 0 else 1)<30))=true:=by rfl)
  (iB:(apos.endLine==cy.line)=true:=by rfl) (hs:starEach (e::es) X.env=(false,eval e X.env)::starEach es X.env:=by rfl) (jc:(backTo cy (starEach es X.env)).any (·.1)=false:=by rfl):
  PE X (.Call (.Attribute o "count" apos) (e::es) [] cy) (tE X E (g6 mX mo ms)):=yo Zh PySem.F.type_list_count FH ho ha iA uo iB hs jc
theorem IJ(ho:PE X o (tE X E mo))(ha:PA X (e::es) (tL X E ms))(iA:attributeBase o "index" X.env (eval o X.env)=eval o X.env:=by rfl)
  (uo:((backTo cy (starEach (e::es) X.env)).all (λx => !x.1)&&(backToKw cy (keywordEach [] X.env)).all (λx=>x.1.isSome)
   && decide ((e::es).length+([]:List Keyword).length+(if([]:List Keyword).isEmpty then 0 else 1)<30))=true:=by rfl)
  (iB:(apos.endLine==cy.line)=true:=by rfl) (hs:starEach (e::es) X.env=(false,eval e X.env)::starEach es X.env:=by rfl) (jc:(backTo cy (starEach es X.env)).any (·.1)=false:=by rfl):
  PE X (.Call (.Attribute o "index" apos) (e::es) [] cy) (tE X E (g6 mY mo ms)):=yo Zg PySem.F.type_list_index FJ ho ha iA uo iB hs jc
end MN
namespace L2
open PySem.Spec PyProof.Rows PySem.W
theorem wu:b7 X (.builtin "isinstance") (λxs H Q=>∃(ea:_i)(oe:Obj)(C D:_i)(b:Bool),xs=[.ref ea,.ref D]/\(ea,oe)∈X.pn/\oe.cls=.ref C/\mQ X.K C/\kitOne X.K (.ref C) (.ref D)=some b/\Q (.bl b) H):=by intro ae s σ H xs us Q I r h;obtain⟨ea,oe,C,D,b,rfl,hp,hc,hq,hk,q⟩:=h;have he:=(I.pin (ea,oe) (WB _ hp)).1;obtain⟨u,u2,rfl,ru,O1⟩:=vals2 r;cases ru;cases O1;exact kia_one (H? hc hq) I.rY he hk (by intro z;cases z) λtk=>⟨.bl b,H,I.tok tk,rfl,q⟩
end L2
namespace MN
open PySem.Spec L2
open PyProof.Rows hiding St
def fG(sub:Str->Str->Option Bool)(qs:_e)(i:Nat)(x:Str):ME:=λμ st=>match μ[i]? with
 |some (some (.exc c))=>if qs.contains c then(match sub c x with
  |some b=>.ok (.bl b) st
  |none=>.bad)else .bad
 |_=>.bad
section
variable{p:Pos}{n:Str}{tab:List (Str×Str×Bool)}{qs:_e}
theorem Mf(i:Nat)(hS:gj X.K X.mg tab)(hQ:wt X.K X.mg qs)(h:HU X.K X.mg x)(hg:Gl X "isinstance")(hm:X.mg "isinstance" = none)(RH:Gl X x)(hN:X.N[i]?=some n:=by rfl)(hv:J7 X.env.scope n:=by first|exact Or.inl rfl|exact Or.inr (Or.inl rfl))(hd:(n==("__debug__":Str))=false:=by decide)(qi:(n==("__classdict__":Str))=false:=by decide)(RI:(x==("__debug__":Str))=false:=by decide)(hs:starEach [.Name n q1,.Name x q2] X.env=(false,eval (.Name n q1) X.env)::starEach [.Name x q2] X.env:=by rfl)(jR:starEach [.Name x q2] X.env=(false,eval (.Name x q2) X.env)::starEach [] X.env:=by rfl)(ko:(backTo pos (starEach [.Name x q2] X.env)).any (·.1)=false:=by rfl):PE X (.Call (.Name "isinstance" p) [.Name n q1,.Name x q2] [] pos) (tE X E (fG (eM tab) qs i x)):=by
 obtain⟨D,hD,_,_⟩:=h;refine PE.imp (pF wu hg hm XY (iZ (xR (i:=i) hN hv hd qi) (iZ (xS (v:=.ref D) RH hD rfl RI) ql jR) hs) (by decide) (by decide) hs ko) ?_;rintro σ H Q ⟨μ,ρ,st,rs,sr,h⟩;unfold fG at h;split at h
 .rename_i c e;split at h
  .rename_i hqs;split at h
   .rename_i b eb;obtain⟨w,e',a,oe,C,rfl,hp,hC,ho⟩:=rs.at_ i _ e;obtain⟨C',hC',hq⟩:=hQ.at_ hqs;have hC:X.mg c=some (.ref C):=hC;rw[hC]at hC';cases hC';refine⟨_,e',a,oe,C,D,b,rfl,hp,ho,hq,?_,gP sr h⟩;have k:=hS.TX c x b C D eb hC hD;unfold W.kitOne;split
    .rename_i z;have z:=WO.mp z;cases z;rw[hq.kc]at k;exact k
    .exact k
   .exact h.elim
  .exact h.elim
 .exact h.elim
end
def dW(K:Z')(x:Str)(st:Stmt):Prop:=∃(f:_i)(fd:FuncData),Gw K x x st f fd/\W.nsIn K mainGlobals x=some (some (.ref f))
theorem dW.mk{st:Stmt}{kV ct:_g}(a:W.nsIn K mainGlobals x=some (some (.ref f)))(l:K.lookup f=some ⟨oc,od,.func (W.fnOf x x (gw st) (dg st) (aY st) .none kV doc pm an fF ct),C7⟩)(c:W.codeIn K fF x=true)(k:W.keepIn K (.ref f)=true):dW K x st:=⟨f,_,BB l c k,a⟩
inductive Ca(K:Z'):_e->Prop
 |nil:Ca K []
 |cons {x:Str} {r:_e} (a:W.nsIn K mainGlobals x=some none) (t:Ca K r):Ca K (x::r)
@[reducible] def Mg(mg:Z!):_e->Prop
 |[]=>True
 |x::r=>mg x=none/\Mg mg r
theorem Ca.get(X:K.In h)(G:h.Ns mainGlobals mg):∀{l:_e},Ca K l->Mg mg l
 |_,.nil=>trivial
 |_,.cons a t=>⟨ZJ X G a,t.get X G⟩
inductive Cb(K:Z'):_e->Prop
 |nil:Cb K []
 |cons {x:Str} {r:_e} {C:_i} (a:W.nsIn K mainGlobals x=some (some (.ref C))) (e:W.excIn K C bmV "ValueError.__new__" = true) (s:W.subIn K (.ref C) (.type "BaseException")=some true) (t:Cb K r):Cb K (x::r)
@[reducible] def Mh(K:Z')(mg:Z!):_e->Prop
 |[]=>True
 |x::r=>HU K mg x/\Mh K mg r
theorem Cb.get(X:K.In h)(G:h.Ns mainGlobals mg):∀{l:_e},Cb K l->Mh K mg l
 |_,.nil=>trivial
 |_,.cons a e s t=>⟨⟨_,W! X G a,e,s⟩,t.get X G⟩
inductive su(K:Z'):List (Str×Str×Bool)->Prop
 |nil:su K []
 |cons {c x:Str} {b:Bool} {C D:_i} {cd:ClassData} {r:List (Str×Str×Bool)} (h1:W.nsIn K mainGlobals c=some (some (.ref C))) (h2:W.nsIn K mainGlobals x=some (some (.ref D))) (h3:W.clsIn K D=some cd) (h4:W.typeIn K (.ref D)=some (.type "type")) (h5:W.subIn K (.ref C) (.ref D)=some b) (t:su K r):su K ((c,x,b)::r)
inductive u3(K:Z'):_e->Prop
 |nil:u3 K []
 |cons {c:Str} {C:_i} {r:_e} (h1:W.nsIn K mainGlobals c=some (some (.ref C))) (h3:W.kitOne K (.ref C) (.type "ValueError")=some true) (t:u3 K r):u3 K (c::r)
def Ul(l:_e):List (Str×Str×Bool):=l.map λc=>(c,"ValueError",true)
theorem u3.get(X:K.In h)(G:h.Ns mainGlobals mg)(n:PySem.W.nsIn K mainGlobals "ValueError" = some none):∀{l:_e},u3 K l->gj K mg (Ul l)
 |_,.nil=>.nil
 |_,.cons h1 h3 t=>.blt (W! X G h1) (ZJ X G n) oF h3 (t.get X G n)
theorem su.get(X:K.In h)(G:h.Ns mainGlobals mg){l':List (Str×Str×Bool)}(S:gj K mg l'):∀{l:List (Str×Str×Bool)},su K l->gj K mg (l++l')
 |_,.nil=>S
 |_,.cons h1 h2 h3 h4 h5 t=>.own (W! X G h1) (W! X G h2) (Fl h3 h4 h5) (t.get X G S)
inductive Cc(K:Z'):_e->Prop
 |nil:Cc K []
 |cons {x:Str} {r:_e} {C:_i} (a:W.nsIn K mainGlobals x=some (some (.ref C))) (q:L2.yz K C=true) (t:Cc K r):Cc K (x::r)
theorem Cc.get(X:K.In h)(G:h.Ns mainGlobals mg):∀{l:_e},Cc K l->wt K mg l
 |_,.nil=>.nil
 |_,.cons a q t=>.cons (W! X G a) q (t.get X G)
theorem wt.known{l:_e}(Q:wt K mg l):Known mg (knL l):=λc hc=>let⟨C,h,_⟩:=Q.at_ hc;⟨C,h⟩
section
variable{a b:Expr}{ma:ME}
theorem QD(ha:PE X a (tE X E ma))(hb:PE X b (tE X E mb)):PE X (.BinOp a .Add b pos) (tE X E (ag cU ma mb)):=qr Lq ha hb
theorem QE(ha:PE X a (tE X E ma))(hb:PE X b (tE X E mb)):PE X (.BinOp a .Sub b pos) (tE X E (ag iF ma mb)):=qr Lr ha hb
theorem QF(ha:PE X a (tE X E ma))(hb:PE X b (tE X E mb)):PE X (.BinOp a .Mult b pos) (tE X E (ag bZ ma mb)):=qr Ls ha hb
theorem QG(ha:PE X a (tE X E ma))(hb:PE X b (tE X E mb)):PE X (.BinOp a .FloorDiv b pos) (tE X E (ag jF ma mb)):=qr Hy ha hb
theorem QH(ha:PE X a (tE X E ma))(hb:PE X b (tE X E mb)):PE X (.BinOp a .Mod b pos) (tE X E (ag dX ma mb)):=qr Lu ha hb
theorem QI(ha:PE X a (tE X E ma))(hb:PE X b (tE X E mb)):PE X (.BinOp a .Pow b pos) (tE X E (ag Fb ma mb)):=qr Lw ha hb
theorem Um(ha:PE X a (tE X E ma))(hb:PE X b (tE X E mb)):PT X (.Compare a [.Lt] [b] pos) (tT X E (dY (ag ltV ma mb))):=qu Hz ha hb
theorem Uo(ha:PE X a (tE X E ma))(hb:PE X b (tE X E mb)):PT X (.Compare a [.Gt] [b] pos) (tT X E (dY (ag sO ma mb))):=qu HA ha hb
theorem Uq(hu:X.A.units+64<cLine)(ha:PE X a (tE X E ma))(hb:PE X b (tE X E mb)):PT X (.Compare a [.Eq] [b] pos) (tT X E (dY (ag jC ma mb))):=qu (HD hu) ha hb
theorem Ur(hu:X.A.units+64<cLine)(ha:PE X a (tE X E ma))(hb:PE X b (tE X E mb)):PT X (.Compare a [.NotEq] [b] pos) (tT X E (dY (ag pk ma mb))):=qu (HE hu) ha hb
theorem Us(hu:X.A.units+64<cLine)(ha:PE X a (tE X E ma))(hb:PE X b (tE X E mb)):PE X (.Compare a [.Eq] [b] pos) (tE X E (ag jC ma mb)):=qt (HD hu) ha hb
theorem Ut(hu:X.A.units+64<cLine)(ha:PE X a (tE X E ma))(hb:PE X b (tE X E mb)):PE X (.Compare a [.NotEq] [b] pos) (tE X E (ag pk ma mb)):=qt (HE hu) ha hb
end
end MN
namespace DL
section
variable{E:Z_}
variable{K:Type}[DecidableEq K]{knd:KeyKind prog w K}
def su(knd:KeyKind prog w K)(h:Heap)(u:_g)(q:K×_g):Prop:=
 ∃a o aP n key,u=.ref a/\h.get? a=some o/\o.cls=.type "tuple" /\ o.data=.seq aP n/\aP.toList=[key,q.2]/\knd.is q.1 key=true
end
end DL
namespace MN
open PySem.Spec L2
open PyProof.Rows hiding St kindOf
def QJ:fe->ah
 |.inl i=>.int i
 |.inr x=>.str x
def FK(st:af)(n:Nat):Option (List (fe×ah)):=match st[n]? with
 |some (.dK a8)=>some a8
 |some (.fd a8)=>some a8
 |_=>none
theorem Mi{n:Nat}{a:_i}(sr:SR K ρ st H)(h:FK st n=some a8)(ha:ρ[n]?=some a):∃iD,Rd H a (.dK iD)/\jD K ρ H a8 iD:=by
 unfold FK at h;split at h
 .rename_i z;cases h;obtain⟨iD,h1,h2⟩:=sr.cell n _ a z ha;exact⟨iD,.inl h1,h2⟩
 .rename_i z;cases h;obtain⟨o,iD,h1,h2⟩:=sr.cell n _ a z ha;exact⟨iD,.inr ⟨o,h1⟩,h2⟩
 .cases h
def abH:FN
 |[.loc n],st=>match FK st n with
  |some a8=>.ok (.int a8.length) st
  |none=>.bad
 |_,_=>.bad
def u4:List fe->Option (_a)
 |[]=>some []
 |.inl i::r=>(u4 r).map (i :: ·)
 |.inr _::_=>none
theorem FL:∀{l:List fe}{a:_a},u4 l=some a->l=a.map Sum.inl:=by
 intro l
 induction l with
 |nil=>intro a h;cases h;rfl
 |cons x r ih=>
  intro a h;cases x with
  |inl i=>
   replace h:(u4 r).map (i :: ·)=some a:=h;cases z:u4 r with
   |none=>rw[z]at h;cases h
   |some b=>rw[z]at h;cases h;rw[ih z];rfl
  |inr x=>cases h
def itK(a8:List (fe×ah)):List ah:=a8.map λp=>.tup [QJ p.1,p.2]
def Uu(n:Nat)(a8:List (fe×ah)):Itm:=(itK a8,λbX=>bX[n]?=some (.fd a8))
def aa6(m:ME):MI:=λμ st=>(m μ st).bind λv aC=>match v with
 |.loc n=>match aC[n]? with
  |some (.dK a8)=>.ok (Uu n a8) (aC.set n (.fd a8))
  |some (.fd a8)=>.ok (Uu n a8) aC
  |_=>.bad
 |_=>.bad
def IK(v:ah)(st:af):cz ah:=match v with
 |.loc n=>match ao st n with
  |some []=>.ok (.loc st.length) (st++[.lst []])
  |_=>.bad
 |_=>.bad
end MN
namespace SO
open PySem.W PyProof.Rows
section
variable{E:Z_}
theorem AD{d:_i}{es:Array DictEntry}{Q:Z_}(hh:A.handled=none)(lo:(d==sysModules)=false)(x:pR s.heap d es ep)(t:IntsAre (es.toList.map (·.key)) ns)(hz:es.size<64)
  (h:∀ (h':Heap) (tk:Nat) (l:_i) (c:Nat) (out:_b) (Bl:_a),(∀ b o,s.heap.get? b=some o->h'.get? b=some o)->s.heap.objs.size<=l->IntsAre out Bl->Bl.Perm ns->Bl.Pairwise (·<=·) ->
   h'.get? l=some (seqObj "list" out.toArray c)->Q (.ref l) {s with heap:=h',toks:=tk}):
  wpAny (model prog w) A (call (.builtin "sorted") [.ref d]) Q E s:=by
 refine Calls.call_function_entry kind_sorted plain_sorted entry_sorted (args_sorted1 _) ?_;unfold Builtin.«sorted»;refine Vl (m:=checkCount "sorted" 1 1 _) (VA ?_);obtain⟨vs,ev⟩:∃vs,vs=es.toList.map (·.key):=⟨_,rfl⟩
 have lv:vs.length=es.size:=by rw[ev,Vq,V2]
 refine Vl (Az hh lo x (by rw[VB];lia) λh1 tk k0 k1=>?_);rw[<-ev]at t⊢;refine Vl (YQ ?_ (by show vs.length<=_;rw[VB];lia));have gl:(h1.push (seqObj "list" vs.toArray 0)).get? h1.objs.size=some (seqObj "list" vs.toArray 0):=VS _ rfl;show wpAny _ _ _ _ _ {s with heap:=h1.push (seqObj "list" vs.toArray 0),toks:=tk};refine Vl (WX (WW slot_list_sort ⟨_,gl,rfl⟩ entry_list_sort (list_sort_tree gl t (by lia) λout Bl a1 a2 a3=>⟨_,rfl,?_⟩) (args_list_sort _)));obtain⟨c,gc⟩:∃c,(sortedHeap (h1.push (seqObj "list" vs.toArray 0)) h1.objs.size vs out).get? h1.objs.size=some (seqObj "list" out.toList.toArray c):=
  ⟨_,by unfold sortedHeap;exact Yg (Vo _ (Vo _ (Yg gl λ_ => #[]))) λ_=>out.toList.toArray⟩
 refine VA ⟨_,rfl,h _ tk h1.objs.size c out.toList Bl (λb o e=>?_) (YH k0) a1 a2 a3 gc⟩;have e1:=k1 b o e;have ne:h1.objs.size≠b:=W6 (VH e1);unfold sortedHeap;exact(Wj _ _ ne).trans (Vo _ (Vo _ ((Wj _ _ ne).trans (Vo _ e1))))
end
end SO
namespace L2
open PySem.Spec PyProof.Rows
theorem FO:∀{es:List DictEntry}{a8:List (fe×_g)}{ns:_a},Pairs (fM P w) es a8->a8.map (·.1)=ns.map Sum.inl->IntsAre (es.map (·.key)) ns:=by
 intro es a8 ns p
 induction p generalizing ns with
 |nil=>
  intro e;cases ns with
  |nil=>exact .nil
  |cons=>cases e
 | @cons e kv es a8 h1 h2 _ ih=>
  intro q;cases ns with
  |nil=>cases q
  |cons n ns=>
   injection q with q1 q2;replace q1:kv.1=Sum.inl n:=q1;rw[q1]at h1;rcases dE (k:=.inl n) (v:=e.key) h1 with⟨i,t,a,b⟩|⟨x,t,a,b⟩
   .injection a with a;rw[Vs,b,<-a];exact .cons n t (ih q2)
   .cases a
theorem FQ:∀{us:_b}{ns:_a},IntsAre us ns->bo (ns.map V.int) us:=by
 intro us ns h
 induction h with
 |nil=>exact .nil
 |cons n t _ ih=>exact .cons ⟨t,rfl⟩ ih
theorem Ce(hh:X.A.handled=none):b7 X (.builtin "sorted") (λxs H Q=>∃(d:_i)(a8:List (fe×V))(ns:_a),xs=[.ref d]/\Rd H d (.dK a8)/\a8.map (·.1)=ns.map Sum.inl/\ns.length<64 /\
  ∀(l:_i)(Bl:_a),H l=none->Bl.Perm ns->Bl.Pairwise (·<=·)->Q (.ref l) (upd H l (.lst (Bl.map V.int)))):=by
 rintro ae s σ H xs ws Q I r ⟨d,a8,ns,rfl,hd,hk,hn,q⟩;obtain⟨u,rfl,ru⟩:=vals1 r;cases ru;obtain⟨z,lo,vs,rel,dd⟩:=Dc I.cq hd;obtain⟨ep,hat⟩:=dd.dictAt;have e:vs.map (·.1)=a8.map (·.1):=by
  have:∀{a:List (fe×V)}{b:List (fe×_g)},KV a b->b.map (·.1)=a.map (·.1):=by
   intro a b r
   induction r with
   |nil=>rfl
   |cons h _ ih=>rw[Vs,Vs,ih,h.1]
  exact this rel
 obtain⟨o,es,h1,h2,h3,h4,h5,h6⟩:=hat;have ia:=FO h5 (e.trans hk);have le:es.size=ns.length:=by have:=ia.length;rw[Vq,V2]at this;exact this
 refine SO.AD hh lo ⟨o,h1,h2.1,h3⟩ ia (by lia) λh' tk l c out Bl kp hl io pm pw g=>?_;have lz:(Bl.map V.int).length<=sizeLine:=by rw[Vq,pm.length_eq,VB];lia
 exact⟨.ref l,_,I.laid (t':=tk) kp hl (show cY X.prog X.w _ h' _ (.lst (Bl.map V.int)) from⟨lz,_,c,FQ io,g⟩),rfl,q l Bl (I.cq.fresh hl) pm pw⟩
def gn(xs:List α)(k:Int):List α:=(sliceRange 0 xs.length k).filterMap λi=>xs[i]?
theorem qK:∀(is:List Nat){xs:List V}{us:_b},bo xs us->bo (is.filterMap λi=>xs[i]?) (is.filterMap λi=>us[i]?)
 |[],_,_,_=>.nil
 |i::is,xs,us,r=>by
  cases z:xs[i]? with
  |none=>
   have:us[i]?=none:=by rw[Yk]at z⊢;rw[<-r.length];exact z
   rw[XW z,XW this];exact qK is r
  |some x=>
   obtain⟨u,hu,ru⟩:=r.get z;rw[Xf z,Xf hu];exact .cons ru (qK is r)
theorem IL(xs:List α){k:Int}(hk:0<k):(gn xs k).length<=xs.length:=by unfold gn;refine V? (List.length_filterMap_le _ _) ?_;have:=sliceRange_len_le 0 (xs.length:Int) k (by lia);rw[VC hk]at this;simpa using this
theorem FR{es:Expr}{ts:TE}(he:PE X e te)(hs:PE X es ts):
  PE X (.Subscript e (.Slice none none (some es) p2) pos) (λσ H Q=>te σ H λx H1=>ts σ H1 λy H2=>∃a xs k,x=.ref a/\y=.int k/\0<k/\nN X.K H2 a xs/\∀p,H2 p=none->Q (.ref p) (upd H2 p (.lst (gn xs k)))):=by
 intro ae s σ H Q I h;refine Subscript_ (dR (he ae s σ H _ I h) λv s1⟨x,H1,I1,r1,q1⟩=>?_);refine wpAny_Slice ?_;rw[ZG];refine VA ?_;refine VA ?_;rw[evalPart_some];refine dR (hs ae s1 σ H1 _ I1 q1) λv3 s3⟨y,H2,I3,r3,a,xs,k,e1,e2,hk,hx,q⟩=>?_;subst e1 e2;cases r1;obtain⟨tk,rfl⟩:=r3;have I4:aX X ae σ H2 {s3 with heap:=s3.heap.push {cls:=.type "slice",data:=.fields #[.none,.none,.int k tk]} }:=I3.kept (t':=s3.toks) λb ob q=>Vo _ q;show wpAny (model X.prog X.w) X.A (subscriptTail e (.Slice none none (some es) p2) (.ref a) (.ref s3.heap.objs.size)) (EP X ae σ Q) X.xe {s3 with heap:=s3.heap.push {cls:=.type "slice",data:=.fields #[.none,.none,.int k tk]} };obtain⟨aP,r,ht,hz⟩:=I4.list hx;have hlen:aP.toArray.size=xs.length:=by rw[VG];exact r.length.symm
 refine tail_any (ops:=[.ref a,.ref s3.heap.objs.size]) ht.isList.typeIs Y4.lookup ?_ (by with_unfolding_all rfl);refine ZD ht.isList (Heap.IsSliceOf.new ..) .none .none (.int k tk) (by intro z;injection z with z;lia) ?_ (by rw[hlen];exact hz);have ep:slicePick aP.toArray none none (some k)=(gn aP k).toArray:=by
  have b1:(sliceBounds none none (some k) aP.toArray.size).1=0:=by show(if k>0 then(0:Int)else _)=0;rw[VC hk]
  have b2:(sliceBounds none none (some k) aP.toArray.size).2.1=(aP.length:Int):=by show(if k>0 then((aP.toArray.size:Nat):Int)else _)=_;rw[VC hk,VG]
  have b3:(sliceBounds none none (some k) aP.toArray.size).2.2=k:=rfl;unfold slicePick gn;rw[b1,b2,b3];simp only[List.getElem?_toArray]
 rw[ep];refine⟨.ref _,_,I4.laid (t':=s3.toks) (o:=.lst (gn xs k)) (λb ob q=>Vo _ q) (VD _) ?_,rfl,q _ (I4.cq.fresh (VD _))⟩;refine⟨V? (IL xs hk) hz,_,0,?_,VS _ rfl⟩;unfold gn;rw[show aP.length=xs.length from r.length.symm];exact qK _ r
end L2
namespace MN
open PySem.Spec L2
open PyProof.Rows hiding St kindOf
def IM(ns:_a):_a:=ns.mergeSort λa b=>decide (a<=b)
theorem xr(ns:_a):(IM ns).Perm ns:=X? ns _
theorem DX(ns:_a):(IM ns).Pairwise (·<=·):=by
 have h:=Yu (le:=λ(a b:Int)=>decide (a<=b)) (λa b c h1 h2=>VZ (by have:=WN h1;have:=WN h2;lia)) (λa b=>by
  rw[Y0,XG,XG];lia) ns
 exact h.imp λh=>WN h
theorem up_eq{a b:_a}(p:a.Perm b)(ha:a.Pairwise (·<=·))(hb:b.Pairwise (·<=·)):a=b:=
 Z3 (λx y _ _ h1 h2=>by lia) ha hb p
def pV:FN
 |[.loc n],st=>match FK st n with
  |some a8=>match u4 (a8.map (·.1)) with
   |some ns=>if ns.length<64 then .ok (.loc st.length) (st++[.lst ((IM ns).map .int)])else .bad
   |none=>.bad
  |none=>.bad
 |_,_=>.bad
def t7(v k:ah)(st:af):cz ah:=match v,k with
 |.loc n,.int k=>match ao st n with
  |some us=>if 0<k then .ok (.loc st.length) (st++[.lst (gn us k)])else .bad
  |none=>.bad
 |_,_=>.bad
def t8(m mk:ME):ME:=λμ st=>(m μ st).bind λv st1=>(mk μ st1).bind λk bX=>t7 v k bX
theorem AE(hh:X.A.handled=none):b7 X (.builtin "sorted") (cM (wo X) E pV):=by
 refine b7.imp (Ce hh) ?_;rintro xs H Q ⟨ρ,st,us,sr,r,h⟩;unfold pV at h;split at h
 .rename_i n;obtain⟨v,rfl,r1⟩:=r.zE;obtain⟨a,rfl,ha⟩:=r1.ff;split at h
  .rename_i a8 e;split at h
   .rename_i ns z;split at h
    .rename_i hn;obtain⟨iD,h1,h2⟩:=Mi sr e ha;refine⟨a,iD,ns,rfl,h1,by rw[<-h2.1];exact FL z,hn,λl Bl hl pm pw=>?_⟩;rw[up_eq (pm.trans (xr ns).symm) pw (DX ns)];obtain⟨k1,k2,k3⟩:=il sr (bt.ints (IM ns)) hl;exact h _ _ _ k1 k2 k3
    .exact h.elim
   .exact h.elim
  .exact h.elim
 .exact h.elim
theorem u5{K:Z'}{ρ:_d}{H:Hp}:∀(is:List Nat){us:List ah}{xs:List V},bt K ρ H us xs->bt K ρ H (is.filterMap λi=>us[i]?) (is.filterMap λi=>xs[i]?)
 |[],_,_,_=>bt.nil
 |i::is,us,xs,r=>by
  cases z:us[i]? with
  |none=>
   have:xs[i]?=none:=by rw[Yk]at z⊢;rw[<-r.length];exact z
   rw[XW z,XW this];exact u5 is r
  |some x=>
   obtain⟨u,hu,ru⟩:=r.get z;rw[Xf z,Xf hu];exact bt.cons ru (u5 is r)
theorem FT{es:Expr}{m mk:ME}(he:PE X e (tE X E m))(hs:PE X es (tE X E mk)):PE X (.Subscript e (.Slice none none (some es) p2) pos) (tE X E (t8 m mk)):=by
 refine PE.imp (FR he hs) ?_;rintro σ H Q ⟨μ,ρ,st,rs,sr,h⟩;refine go μ ρ st rs sr h λu st1 ρ1 H1 x e1 cC r1 h1=>?_;refine go μ ρ1 st1 (rs.mono e1) cC h1 λk bX ρ2 H2 z e2 pJ r2 h2=>?_;have r1':=Rl.mono e2 _ _ r1;cases u with
 |loc n=>
  cases k with
  |int k=>
   unfold t7 at h2;dsimp only at h2;cases hn:ao bX n with
   |none=>rw[hn]at h2;exact h2.elim
   |some us=>
    rw[hn]at h2;dsimp only at h2;by_cases hk:0<k
    .rw[VC hk]at h2;obtain⟨a,rfl,ha⟩:=r1'.ff;obtain⟨vs,h3,rv⟩:=bw pJ hn ha;refine⟨a,vs,k,rfl,by rw[r2.cP],hk,h3,λp hp=>?_⟩;have rr:bt X.K ρ2 H2 (gn us k) (gn vs k):=by unfold gn;rw[show us.length=vs.length from rv.length];exact u5 _ rv
     obtain⟨k1,k2,k3⟩:=il pJ rr hp;exact h2 _ _ _ k1 k2 k3
    .rw[VI hk]at h2;exact h2.elim
  |_=>exact h2.elim
 |_=>exact h2.elim
end MN
namespace PM
open PySem.Spec L2 MN
open PyProof.Rows hiding St
def gL:FN:=g_ 1 2 (aA (aM 1 (ag cU yn (ag dX (ag jF bg yn) (mC (.int 996))))) (aA (mz (dY (ag jC (ag dX bg yn) cT)) (bM (ag bZ (ag cU yn (ag dX (ag jF bg yn) (mC (.int 30)))) (ag cU yn (ag dX (ag jF bg (mC (.int 60))) (mC (.int 30)))))) dh) (aA (mz (dY (ag pk (c_ 1 [1] (gQ (aa yn (aa (mC (.int 32)) ai))) (aF 0) (j6 (dY (ag ltV bg bG)) (dY (ag jC (ag dX bG bg) cT))) bg) (a_ ai))) (bM bG) dh) (bM (ag bZ (mC (.int 4)) (ag cU cI (ag dX (ag jF bg yn) (mC (.int 249)))))))))
def ie:FN:=g_ 1 3 (aA (aM 1 (ag jF bg Hr)) (aA (aM 2 (a_ (aa cT (aa cI (aa (ag iF (iK cI) (ag dX bG (ag Fb Hr (mC (.int 12))))) (aa (ak PM.gL (aa bG ai)) (aa (mC (.int 1009)) (aa (ag cU (mC (.int 998)) (ag dX bG (ag Fb Hr (mC (.int 12))))) ai)))))))) (bM (ag bQ (ag cU cQ (a_ (aa (mC (.bl true)) (aa (mC .cH) (aa (qs "7") (aa (gB (aa Tz ai)) ai)))))) (ag dX bg Hr)))))
def eY:FN:=g_ 2 2 (bM (ak PM.dB (aa bg (aa bG (aa (ak PM.inverse (aa bg (aa (ag bQ bG (iK cI)) ai))) ai)))))
def cV:FN:=g_ 3 6 (aA (aM 3 bG) (aA (aM 4 cQ) (aA (dM (dY (ag sO (ak bF (aa fT ai)) cT)) (aA (aM 5 (ag bQ (ak PM.parted (aa bg (aa dJ (aa fT ai)))) cI)) (aA (aM 3 fT) (aM 4 j4)))) (bM (ak PM.eY (aa bg (aa dJ ai)))))))
def gu:FN:=g_ 2 10 (aA (aM 2 yw) (aA (aM 3 cI) (aA (aM 4 bG) (aA (dM (dY (ag sO (ak bF (aa fT ai)) cI)) (aA (aM 5 (ak PM.cV (aa bg (aa fT (aa (ak PM.fo (aa bg (aa fT ai))) ai))))) (aA (aM 6 (ag bQ (ak PM.parted (aa bg (aa fT (aa j4 ai)))) cT)) (aA (aM 7 dJ) (aA (dM (dY (ag sO (ak bF (aa nW ai)) cI)) (aA (aM 8 (ak PM.cV (aa bg (aa nW (aa j4 ai))))) (aA (aM 9 (ag bQ (ak PM.parted (aa bg (aa nW (aa Hq ai)))) cT)) (aA (mz (dY (ag sO (ak bF (aa Bn ai)) cI)) (yx cQ uD Bn) dh) (aA (aM 6 Hq) (aA (aM 5 (ag bQ (ak PM.parted (aa bg (aa j4 (aa Hq ai)))) cT)) (HZ 7 Fo dJ))))))) (aA (aM 4 (t8 j4 bg)) (aM 3 (ag bZ dJ bg)))))))) (bM cQ)))))
def ft:FN:=g_ 2 3 (aA (mz (dY (ag jC (ak bF (aa bG ai)) cT)) (bM (mC .cH)) dh) (aA (aM 2 (ak PM.met (aa bg (aa bG (aa (ak PM.fo (aa bg (aa bG ai))) ai))))) (bM (Kd (dY (ag jC (ak bF (aa (ag bQ cQ cT) ai)) cI)) (gB (aa (ag bQ cQ RC) (aa (ag bQ cQ (mC (.int 4))) ai))) (mC .cH)))))
def gb:FN:=g_ 2 3 (aA (mz (dY (ag jC (ak bF (aa bG ai)) cT)) (kE "NoParts" (aa (qs "nought has no parts") ai)) dh) (aA (aM 2 (ak PM.gu (aa bg (aa (ak PM.eY (aa bg (aa bG ai))) ai)))) (bM (gB (aa (ag bQ bG (iK cI)) (aa (c_ 1 [2] (gN (ak pV (aa cQ ai))) (aF 0) bI (gB (aa (ag se bG bg) (aa bg ai)))) ai))))))
end PM
namespace L2
open PySem.Spec PyProof.Rows
structure gr.NM(L:gr):Prop where
 kind:L.scope.kind=.function
 co:L.scope.isCoroutine=false
 gen:L.scope.isGenerator=false
 gA:∀y∈L.scope.names,y.2≠.cell
 xV:∀y∈L.scope.names,y.2≠.free
 par:∀p∈L.ps,L.scope.names.lookup p=some .local
 nd:L.ps.Nodup
 bind:∀(pm cd ct:_g)(cl:List (Str×_i))(us:_b),us.length=L.ps.length->bindArgs (W.kla_fn "<lambda>" L.qual L.params L.body L.scope cl pm cd ct) ⟨us,[]⟩=pure (L.ps.zip us)
structure FU(L:gr)(H:Hp)(f c':_i):Prop where
 fn:∃pm Bm,Fz H f (W.kla_obj "<lambda>" L.qual L.params L.body L.scope [] pm c' Bm)
 cd:∃oc vs t,Fz H c' oc/\oc.data=.fields vs/\vs[1]?=some (.str L.qual t)
theorem FU.mono(C:FU L H f c')(k:∀b o u,H b=some (.j5 o u)->H' b=some (.j5 o u)):FU L H' f c':=by obtain⟨⟨pm,Bm,h1⟩,oc,vs,t,h2,h3⟩:=C;exact⟨⟨pm,Bm,k _ _ _ h1⟩,oc,vs,t,k _ _ _ h2,h3⟩
def u6(P:_k)(w:World)(K:Z')(mg:Z!)(base:Heap)(L:gr)(f c':_i)(A:_j)(outer:List Env)(s:_h)(H:Hp):Cx where
 prog:=P
 w:=w
 K:=K
 mg:=mg
 base:=base
 A:=A.deeper (W.envX L.qual L.scope s.heap.objs.size f (.ref c') [])
 N:=L.ps
 s₀:=s
 H₀:=H
 env:=W.envX L.qual L.scope s.heap.objs.size f (.ref c') []
 outer:=outer
 stack:=W.envX L.qual L.scope s.heap.objs.size f (.ref c') []::outer
 ex:=[]
 calm:=true
 fn:=λ_=>true
 pn:=[]
 xe:=λ_ _=>False
section
variable{outer:List Env}{s1:_h}{us:_b}{vs:List V}
theorem Ci(LO:L.NM)(hd:A.handled=none)(e0:wb P w K mg base A outer s H)(hl:vs.length=L.ps.length)(r:bo vs us){h1:Heap}{tk:Nat}(Np:h1.Ns s.heap.objs.size (λy=>(L.ps.zip us).reverse.lookup y))(hk:∀b o,s.heap.get? b=some o->h1.get? b=some o):
  aX (u6 P w K mg base L f c' A outer s H) [] (vs.map some) H {s with heap:=h1,toks:=tk}:=by
 refine⟨⟨e0.mod,LO.kind,rfl,rfl,VD _,(λy z a h1 _=>by cases h1),λy hy=>?_,(λy a _ h2=>by cases h2),λ_=>hd,Around.frames_deeper e0.frames,.inr ⟨rfl,rfl⟩,(λb z=>by cases z),λb o e=>⟨(e0.bs b o e).1,(e0.bs b o e).2⟩,e0.Gu,(λb _ _ z=>by cases z),(λb z=>by cases z),e0.kq,λb hb=>e0.C1 b hb⟩,
  rfl,e0.bare,Un.kept hk,⟨_,Np,λi y v' h1 h2 h3=>?_⟩,(λy a h=>by cases h),e0.cq.fresh (VD _),(λy a h=>by cases h),(λq hq=>by cases hq),e0.cq.kept hk,?_⟩
 .have hy:L.scope.names.lookup y=some .cell\/L.scope.names.lookup y=some .free:=hy;rcases hy with hy|hy
  .exact absurd rfl (LO.gA _ (WA hy))
  .exact absurd rfl (LO.xV _ (WA hy))
 .have h1:L.ps[i]?=some y:=h1;rw[VM]at h2;have ha:vs[i]?=some v':=by
   cases e:vs[i]? with
   |none=>rw[e]at h2;cases h2
   |some a=>rw[e]at h2;cases h2;rfl
  obtain⟨u',hu,rv'⟩:=r.get ha;exact⟨u',rv',.inl ⟨LO.par y (Wc h1),Dj LO.nd h1 hu⟩⟩
 .show(vs.map some).length=L.ps.length;rw[Vq,hl]
theorem IP(LO:L.NM)(C:FU L H f c')(hr:fj (k+1) A)(e0:wb P w K mg base A outer s H)(hl:vs.length=L.ps.length)(r:bo vs us)(h:∃t,PE (u6 P w K mg base L f c' A outer s H) L.body t/\t (vs.map some) H Q):
  codeAny (model P w) A (.call (.ref f) ⟨us,[]⟩) (CR (nO P w) outer P w H s Q E) s:=by
 obtain⟨pm,Bm,hf⟩:=C.fn;obtain⟨oc,ws,t,qi,hd,hq⟩:=C.cd;have hlu:us.length=L.ps.length:=by rw[<-r.length];exact hl
 have lim:s.heap.NoLimit:=e0.mod.nolimit.keeps λb o e=>(e0.bs b o e).1;refine W.kla_callFunE hr.depth (e0.cq f _ hf).1 rfl LO.co LO.gen rfl ⟨c',oc,ws,t,rfl,(e0.cq c' _ qi).1,hd,hq⟩ ?_;rw[LO.bind _ _ _ _ us hlu];refine VA (wpAny_newFunctionEnv LO.gA (λy hy=>LO.par y.1 (Xb (show(y.1,y.2)∈L.ps.zip us from hy)).1) (λh1 Np hsb=>?_) LO.kind);have hk:∀b o,s.heap.get? b=some o->h1.get? b=some o:=λb o e=>hsb.extBut b o (V0 (VH e)) (Vo _ e);refine⟨lim.keeps hk,?_⟩;show codeAny _ _ (.expr L.body (W.envX L.qual L.scope s.heap.objs.size f (.ref c') [])) _ _;obtain⟨tr,pe,ht⟩:=h;have I:=Ci (f:=f) (c':=c') (tk:=s.toks+(L.ps.zip us).length) LO hr.hd e0 hl r Np hk;refine W.kla_codeExpr (Wm (pe [] _ _ _ _ I ht) (λy s' hy=>?_) λ_ _ z=>z.elim);obtain⟨y',H',J,ry,qy⟩:=hy;exact⟨y',H',J.os,J.bare,J.base,J.cq,ry,qy⟩
end
end L2
namespace SO
open PySem.W PyProof.Rows
section
variable{E:Z_}
theorem ints_get{us:_b}{xs:_a}(h:IntsAre us xs):∀(i:Nat),(us[i]?=none/\xs[i]?=none)\/∃n t,us[i]?=some (.int n t)/\xs[i]?=some n:=by
 induction h with
 |nil=>exact λi=>.inl ⟨rfl,rfl⟩
 |cons n t r ih=>
  intro i;cases i with
  |zero=>exact .inr ⟨n,t,rfl,rfl⟩
  |succ i=>exact ih i
theorem Mj{a b:_i}{oa:Obj}{us vs:Array _g}{n:Nat}{xs ys:_a}(ha:s.heap.get? a=some oa)(da:oa.data=.seq us n)(hb:s.heap.get? b=some ob)(db:ob.data=.seq vs m)(ia:IntsAre us.toList xs)(ib:IntsAre vs.toList ys){R:Result->_h->Prop}(h:R (.ok (.ret (.bool (lexLt xs ys)))) s):
  ∀(k i:Nat),xs.length-i=k->i<=xs.length->i<=ys.length->lexLt (xs.drop i) (ys.drop i)=lexLt xs ys->codeAny (model prog w) A (.builtin "list.__eq__.loop" ⟨[.ref a,.ref b,rawInt i,rawInt 0],[]⟩) R s:=by
 have la:us.size=xs.length:=by rw[<-V2];exact ia.length
 have lb:vs.size=ys.length:=by rw[<-V2];exact ib.length
 intro k
 induction k with
 |zero=>
  intro i hk h1 h2 e;have ga:us[i]?=none:=Array.getElem?_eq_none (by lia);refine X7 ZT ?_;rw[Around.under_plainId XQ _];show wpAny _ _ (Builtin.List.listItems (.ref a) >>= _) _ _ s;refine Vl (WY ha da (Vl (WY hb db ?_)));rw[WR,ga];refine Vl (WY ha da (Vl (WY hb db (VA ?_))));show R (.ok (.ret (.bool (decide (us.size<vs.size))))) s;rw[la,lb];rw[Xk (by lia)]at e;have:lexLt [] (ys.drop i)=decide (xs.length<ys.length):=by
   cases z:ys.drop i with
   |nil=>
    have:=List.drop_eq_nil_iff.mp z;show false=_;exact(VT (by lia)).symm
   |cons y r=>
    have:i<ys.length:=by
     rcases WQ i ys.length with q|q
     .exact q
     .rw[Xk q]at z;cases z
    exact(VZ (by lia)).symm
  rw[<-this,e];exact h
 |succ k ih=>
  intro i hk h1 h2 e;have hi:i<xs.length:=by lia
  refine X7 ZT ?_;rw[Around.under_plainId XQ _];show wpAny _ _ (Builtin.List.listItems (.ref a) >>= _) _ _ s;refine Vl (WY ha da (Vl (WY hb db ?_)));rw[WR];rcases ints_get ia i with⟨_,z⟩|⟨x,t,gx,ex⟩
  .rw[Vp hi]at z;cases z
  rw[WJ]at gx;have dx:xs.drop i=x::xs.drop (i+1):=by rw[Vp hi]at ex;rw[WV hi,VR ex]
  rcases ints_get ib i with⟨gy,z⟩|⟨y,u,gy,ey⟩
  .rw[WJ]at gy;have hy:=Yk.mp z;rw[gx,gy];refine Vl (WY ha da (Vl (WY hb db (VA ?_))));show R (.ok (.ret (.bool (decide (us.size<vs.size))))) s;rw[la,lb,VT (by lia)];rw[dx,Xk hy]at e;have e:false=lexLt xs ys:=e;rw[e];exact h
  .rw[WJ]at gy;have hy:i<ys.length:=(V!.mp ey).1;have dy:ys.drop i=y::ys.drop (i+1):=by rw[Vp hy]at ey;rw[WV hy,VR ey]
   rw[dx,dy]at e;have e:(if x=y then lexLt (xs.drop (i+1)) (ys.drop (i+1))else decide (x<y))=lexLt xs ys:=e;rw[gx,gy];refine Vl (Za ?_);by_cases q:x=y
   .rw[VC q]at e;rw[WO.mpr q,VC rfl];refine VA ⟨plainId_quiet XQ _,?_⟩;have:=ih (i+1) (by lia) (by lia) (by lia) e;rw[Xx]at this;exact this
   .rw[VI q]at e;rw[WD.mpr q,VI (by decide)];refine Vl (WY ha da (Vl (WY hb db ?_)));rw[gx,gy];dsimp only;refine Vl (show wpAny _ _ (compareOp .Lt (.int x t) (.int y u)) _ _ s from lt_int (VA ?_));show R (.ok (.ret (.bool (decide (x<y))))) s;rw[e];exact h
theorem IQ{a b:_i}{oa:Obj}{us vs:Array _g}{n:Nat}{xs ys:_a}{Q:Z_}(hu:A.units<cLine)(ha:s.heap.get? a=some oa)(ca:oa.cls=.type "list")(da:oa.data=.seq us n)(hb:s.heap.get? b=some ob)(cb:ob.cls=.type "list")(db:ob.data=.seq vs m)(ia:IntsAre us.toList xs)(ib:IntsAre vs.toList ys)(h:Q (.bool (lexLt xs ys)) s):
  wpAny (model prog w) A (compareOp .Lt (.ref a) (.ref b)) Q E s:=by
 show wpAny (model prog w) A (richCompare .Lt (.ref a) (.ref b)) Q E s;refine PySem.richCompare_meets_room (op:=.Lt) ⟨oa,ha,ca⟩ ⟨ob,hb,cb⟩ PySem.F.slot_list_lt PySem.F.entry_list_lt (PySem.F.args_list_lt_2 _ _) (S:=λ_ R s'=>s'=s/\R (.ok (.ret (.bool (lexLt xs ys)))) s) (λprog w A R s' h=>?_) ⟨rfl,(λe=>nomatch e),h⟩ hu
 .obtain⟨rfl,h⟩:=h;show wpAny _ _ (isInstance (.ref b) (.type "list") >>= _) _ _ _;refine Vl (Y? (T:="list") (b:=true) ⟨ob,hb,cb⟩ (by first|exact IS _|(rw[isSubtype_type];kernel_rfl)) ?_);exact VA ⟨plainId_quiet XQ _,Mj ha da hb db ia ib h _ 0 rfl (We _) (We _) rfl⟩
theorem Mk{a b:_i}{us vs:Array _g}{xs ys:_a}(hu:A.units<cLine)(ha:s.heap.IsList a us)(hb:s.heap.IsList b vs)(ia:IntsAre us.toList xs)(ib:IntsAre vs.toList ys):SeqAt.EqAt A s (.ref a) (.ref b) (decide (xs=ys)):=by
 have la:us.size=xs.length:=by rw[<-V2];exact ia.length
 have lb:vs.size=ys.length:=by rw[<-V2];exact ib.length
 by_cases hab:a=b
 .subst hab;obtain⟨o,ho,_,n,hd⟩:=ha;obtain⟨o2,Gv,_,n2,hd2⟩:=hb;rw[ho]at Gv;cases Gv;rw[hd]at hd2;cases hd2;have:xs=ys:=by rw[<-IB ia,<-IB ib]
  rw[VZ this];exact Yx _
 .refine SeqAt.EqAt.of_refs hab ?_;by_cases hs:us.size=vs.size
  .have:=SeqAt.RcAt.lists (A:=A) (s:=s) (e:=λj=>decide (xs[j]?=ys[j]?)) ha hb hs hu (λj h1 h2=>by
    rcases ints_get ia j with⟨_,z⟩|⟨x,t,gx,ex⟩
    .rw[Vp (by lia)]at z;cases z
    .rcases ints_get ib j with⟨_,z⟩|⟨y,u,gy,ey⟩
     .rw[Vp (by lia)]at z;cases z
     .rw[WJ,XC h1]at gx;rw[WJ,XC h2]at gy;rw[VR gx,VR gy,ex,ey];have e:decide (some x=some y)=(x==y):=by
       by_cases q:x=y
       .rw[q];simp
       .rw[WD.mpr q];simp[q]
      rw[e];exact(PySem.MeetsSeq.EqGives.int x y t u).at _ _)
   have e:((List.range us.size).all λj=>decide (xs[j]?=ys[j]?))=decide (xs=ys):=by
    by_cases q:xs=ys
    .rw[q];simp
    .rw[VT q];rw[List.all_eq_false];refine Y! λz=>q ?_;refine Yl λi=>?_;rcases WQ i us.size with w|w
     .refine Y! λn=>z ⟨i,XH.mpr w,by simp[n]⟩
     .rw[V1 (by lia),V1 (by lia)]
   rw[e]at this;exact this
  .have q:¬ xs=ys:=λz=>hs (by rw[la,lb,z]);rw[VT q];exact ZH ha hb (by simp[hs]) hu
def IT(h:Heap)(v:_g)(k:_a):Prop:=∃a o aP n l t r us row,v=.ref a/\h.get? a=some o/\o.cls=.type "tuple" /\ o.data=.seq aP n/\aP.toList=[.int l t,.ref r]/\h.IsList r us/\IntsAre us.toList row/\k=l::row
theorem QK{Q:Bool->_h->Prop}{x y:_g}{k1 k2:_a}(hu:A.units<cLine)(h1:IT s.heap x k1)(h2:IT s.heap y k2)(h:Q (lexLt k1 k2) s):wpAny (model prog w) A (keyLt' (tuples' true) x y) Q E s:=by
 obtain⟨a,o,aP,n,l,t,r,us,row,rfl,ho,hc,hd,ht,hr,ir,rfl⟩:=h1;obtain⟨a2,o2,eI,n2,l2,t2,r2,us2,Uv,rfl,Gv,zT,hd2,ht2,hr2,ir2,rfl⟩:=h2;replace h:Q (if l=l2 then lexLt row Uv else decide (l<l2)) s:=h;refine kat_lt ho hd Gv hd2 ?_;rw[ht,ht2];refine kat_cons (Za ?_);by_cases e:l=l2
 .rw[VC e]at h;rw[WO.mpr e];refine kat_yes (kat_cons (Mk hu hr hr2 ir ir2 prog w _ _ ?_));by_cases q:row=Uv
  .rw[VZ q];refine kat_yes (kat_nil ?_);rw[q,qJ]at h;have z1:aP.size=2:=by rw[<-V2,ht];rfl
   have z2:eI.size=2:=by rw[<-V2,ht2];rfl
   rw[z1,z2];exact h
  .rw[VT q];refine kat_no ?_;obtain⟨ob,hob,cb,m,db⟩:=hr;obtain⟨ob2,aa7,cb2,m2,db2⟩:=hr2;exact kat_one _ _ (IQ hu hob cb db aa7 cb2 db2 ir ir2 h)
 .rw[VI e]at h;rw[WD.mpr e];exact kat_no (oneLt_int h)
end
def mZ(xs:List (_a)):Prop:=xs.Pairwise λa b=>lexLt a b=true
inductive lY(h:Heap):_b->List (_a)->Prop
 |nil:lY h [] []
 |cons {v:_g} {x:_a} {vs:_b} {xs:List (_a)}:IT h v x->lY h vs xs->lY h (v::vs) (x::xs)
theorem lY.length{xs:List (_a)}(t:lY h vs xs):vs.length=xs.length:=by
 induction t with
 |nil=>rfl
 |cons _ _ ih=>rw[Vm,Vm,ih]
theorem lY.at_{xs:List (_a)}(t:lY h vs xs):∀i,i<vs.length->IT h (vs.getD i .none) (xs.getD i []):=by
 induction t with
 |nil=>exact λi hi=>absurd hi (YY i)
 |cons a _ ih=>
  intro i hi;cases i with
  |zero=>exact a
  |succ i=>exact ih i (Nat.lt_of_succ_lt_succ hi)
theorem lY.kat{xs:List (_a)}(t:lY h vs xs):∃fs,KatTups h vs fs/\fs.length=vs.length/\∀v∈fs,∃n u,v=.int n u:=by
 induction t with
 |nil=>exact⟨[],.nil,rfl,λv m=>by cases m⟩
 |cons a _ ih=>
  obtain⟨fs,k,l,al⟩:=ih;obtain⟨a,o,aP,n,l',t,r,us,row,rfl,ho,hc,hd,ht,hr,ir,rfl⟩:=a;obtain⟨aP⟩:=aP;have ht:aP=[.int l' t,.ref r]:=ht;subst ht;refine⟨_,KatTups.cons ho hc hd rfl k,by rw[Vm,Vm,l],λv mv=>?_⟩;rcases V5.mp mv with rfl|mv
  .exact⟨l',t,rfl⟩
  .exact al v mv
theorem gdL{l:List α}(d:α)(h:i<l.length):l.getD i d=l[i]:=by rw[VF,Vp h];rfl
def QL(xs:List (_a))(i j:Nat):Bool:=lexLt (xs.getD i []) (xs.getD j [])
theorem DY{xs:List (_a)}(nd:xs.Nodup):Ord (QL xs) xs.length where
 tr:=λ_ _ _ _ _ _ h1 h2=>uX h1 h2
 tot:=λi j hi hj ne h=>n_ (λe=>ne (by
  rw[gdL _ hi,gdL _ hj]at e;exact(Zr nd).mp e)) h
 aa4:=λ_ _ _ _ h=>kR h
theorem Ml:∀{vs:_b}{xs:List (_a)},vs.length=xs.length->(List.range xs.length).map (λi=>(vs.getD i Value.none,xs.getD i []))=vs.zip xs:=by
 intro vs xs hl;apply Zs
 .rw[Vq,VW,XX,hl,YF]
 .intro i h1 h2;rw[Vq,VW]at h1;rw[List.getElem_map,List.getElem_range,List.getElem_zip,gdL _ (by rw[hl];exact h1),gdL _ h1]
section
variable{E:Z_}{ks:List (_a)}{D kS:_i}{kA:Array _g}{e1 c:Nat}{P:PySem.Fin->_h->Prop}
theorem FV(hu:A.units<cLine)(hD:s.heap.get? D=some (seqObj "list" #[] e1))(hk:s.heap.get? kS=some (seqObj "list" kA c))(ne:kS≠D)(t:lY s.heap kA.toList ks)(hl:kA.size=vs.length)(nd:ks.Nodup)(hz:vs.length<64)(h:∀(h1 h':Heap)(c':Nat)(zs:List (_g×List Int)),zs.Perm (vs.zip ks)->mZ (zs.map (·.2))->(∀b o,b≠kS->s.heap.get? b=some o->h1.get? b=some o)->(∀b o,b≠D->h1.get? b=some o->h'.get? b=some o)->h'.get? D=some (seqObj "list" (zs.map (·.1)).toArray c')->P (.done (.ret .none)) {s with heap:=h'}):
  wpAny (model prog w) A (ksk_end D false vs.toArray e1 (.ref kS) kA) P E s:=by
 have lks:kA.toList.length=ks.length:=t.length;have lka:kA.toList.length=vs.length:=by rw[V2];exact hl
 have lv:vs.length=ks.length:=by lia
 have tail:∀(aC:SortSt)(zs:List (_g×List Int)),(arrOf aC).map (·.2)=(zs.map (·.1)).toArray->failedOf aC=none->zs.Perm (vs.zip ks)->mZ (zs.map (·.2))->wpAny (model prog w) A (ksk_tail D false e1 (.ref kS) aC) P E s:=by
  intro aC zs ez hf z1 z2;have lz:zs.length=vs.length:=by rw[z1.length_eq,XX,lv,YF]
  have s1:=Xc s.heap kS (Obj.mapSeq λ_=>(#[]:Array _g));have Uw:(s.heap.update kS (Obj.mapSeq λ_=>(#[]:Array _g))).get? D=some (seqObj "list" #[] e1):=(s1.2 D ne.symm).trans hD;have s2:=Xc (s.heap.update kS (Obj.mapSeq λ_=>(#[]:Array _g))) D (Obj.mapSeq λ_=>(zs.map (·.1)).toArray);obtain⟨c2,zT⟩:∃c2,((s.heap.update kS (Obj.mapSeq λ_=>(#[]:Array _g))).update D (Obj.mapSeq λ_=>(zs.map (·.1)).toArray)).get? D=some (seqObj "list" (zs.map (·.1)).toArray c2):=⟨_,Yg Uw λ_=>(zs.map (·.1)).toArray⟩
  unfold ksk_tail;dsimp only;rw[ez,hf];refine Vl (Zk hk rfl ?_ (by rw[hl,VB];lia) (We _));refine Vl (Ze ?_);refine Vl (seqEpoch_at Uw rfl ?_);refine Vl (Zk Uw rfl ?_ (We _) (by
   show((zs.map (·.1)).toArray).size<=_;rw[VG,Vq,lz,VB];lia))
  simp only[bne_self_eq_false,WG,XM];exact VA (h _ _ c2 zs z1 z2 (λb o h1 q=>(s1.2 b h1).trans q) (λb o h1 q=>(s2.2 b h1).trans q) zT)
 unfold ksk_end;dsimp only;rw[VI VQ,VI VQ];by_cases h2:vs.toArray.size<2
 .rw[VC h2,VC h2];refine Vl (VA ?_);rw[StateT.run_pure];refine Vl (VA ?_);refine tail _ (vs.zip ks) ?_ rfl (.refl _) ?_
  .show(kA.zip vs.toArray).map (·.2)=_;apply Array.toList_inj.mp;rw[Array.toList_map,Array.toList_zip,List.map_snd_zip (show vs.length<=kA.toList.length by lia),List.map_fst_zip (by lia)]
  .unfold mZ;rw[List.map_snd_zip (by lia)];rw[VG,lv]at h2
   match ks,h2 with
   |[],_=>exact .nil
   |[_],_=>exact WZ _ _
 .rw[VI h2,VI h2];have l2:2<=vs.length:=by rw[VG]at h2;lia
  have kd:∀{Q:SortKind->_h->Prop},Q (tuples' true) s->wpAny (model prog w) A (keyKind' kA) Q E s:=λ{Q}q=>by
   obtain⟨fs,k,l,al⟩:=t.kat;have:=kat_kind (M:=model prog w) (A:=A) (E:=E) (s:=s) (Q:=Q) (T:=.type "int") k (by rw[l];lia) (λv m=>by
    obtain⟨n,u,rfl⟩:=al v m;exact Looks.of_pure rfl) (by decide) q
   rw[YN]at this;exact this
  refine Vl (kd ?_);have run:=kat_run (E:=E) (prog:=prog) (w:=w) (A:=A) (κ:=tuples' true) (s:=s) (ks:=kA.toList) (vs:=vs) (Q:=λaC s'=>∃p:Array Nat,arrOf aC=p.map (kas_item (kA.toList.toArray.zip vs.toArray))/\failedOf aC=none/\Pm ks.length p/\xo (QL ks) p ks.length/\s'=s)
   (G:=λp s'=>Pm ks.length p/\xo (QL ks) p ks.length/\s'=s) lka l2 hz (λp aC s' _ a2 a3 a4=>⟨p,a2,a3,a4⟩) (by
    rw[lv];refine Ok.wp (R:=λs'=>s'=s) (λi j s' C hi hj hs hC=>?_) (λp s' hp hs=>⟨hp.1,hp.2,hs⟩) (Ma (DY nd) (by lia)) rfl;subst hs;exact QK hu (t.at_ i (by lia)) (t.at_ j (by lia)) (hC _ rfl))
  rw[YN]at run;refine Vl (Wm run ?_ λ_ _ e=>e);rintro⟨⟨⟩,aC⟩ s' ⟨p,har,hf,hp,TK,rfl⟩;refine tail aC (p.toList.map λi=>(vs.getD i Value.none,ks.getD i [])) ?_ hf ?_ ?_
  .have aa8:arrOf aC=p.map (kas_item (kA.toList.toArray.zip vs.toArray)):=by rw[YN];exact har
   rw[kat_snds lka aa8,V_];rfl
  .rw[<-Ml lv];exact List.Perm.map _ hp.list
  .unfold mZ;rw[V_,Wt,Yj];intro i j hi hj hij;rw[V2,hp.size]at hi hj;have:=xo.lt (DY nd) hp (VD _) TK hij hj;have e:∀{i:Nat}(hi:i<ks.length),g p i=p.toList[i]'(by rw[V2,hp.size];exact hi):=λ{i}hi=>by have:=hp.get hi;rw[<-WJ,Vp (by rw[V2,hp.size];exact hi)]at this;exact(VR this).symm
   rw[e hi,e hj]at this;exact this
end
end SO
namespace L2
open PySem.Spec PyProof.Rows
open SO (mZ IT lY)
section
variable{x:V}{u:_g}{E:Z_}
theorem aX.Dh{D:_i}{o:HO}(I:aX X ae σ H s)(fd:kx X ae H D)(new:cY X.prog X.w (upd H D o) s.heap D o):aX X ae σ (upd H D o) s:=by
 obtain⟨d0,d1,d2,d3,d4,d5⟩:=fd;have nb:∀b o,X.s₀.heap.get? b=some o->b ∉ X.ex->b≠D:=λb o e hx z=>by
  rw[z]at e hx;rcases d3 with q|q
  .exact hx q
  .exact absurd (VH e) (Nat.not_lt.mpr q)
 refine⟨I.ok,I.os,I.bare,⟨I.base.keep,I.base.slot,λb o e n hx=>by rw[a7 (nb b o e hx)];exact I.base.free b o e n hx,I.base.there,λb xs e=>by rw[a7 (bq (I.base.mJ b xs e) d0)];exact I.base.mJ b xs e,λb o u e=>by rw[a7 (bq (I.base.l! b o u e) d0)];exact I.base.l! b o u e,λb ps e=>by
  obtain⟨more,q⟩:=I.base.oq b ps e;exact⟨more,by rw[a7 (bq q d0)];exact q⟩⟩,I.loc,I.cell,by rw[a7 d1.symm];exact I.free,λy c e=>by rw[a7 (d4 y c e)];exact I.iT y c e,λp hp=>?_,I.cq.Dh d0 new,I.len⟩
 obtain⟨p1,p2,p3⟩:=I.pin p hp;exact⟨p1,by rw[a7 (d5 p hp)];exact p2,p3⟩
def IU(X:Cx)(L:gr)(f c':_i)(x:V)(H:Hp)(Q:VK):Prop:=
 [x].length=L.ps.length/\FU L H f c'/\∀s:_h,∃t,PE (u6 X.prog X.w X.K X.mg X.base L f c' X.A.in1.in1 X.stack s H) L.body t/\t [some x] H Q
theorem FW(LO:L.NM)(hr:fj (k+3) X.A)(I:aX X ae σ H s)(r:bJ x u)(q:IU X L f c' x H Q):wpAny (model X.prog X.w) X.A.in1.in1 (call (.ref f) [u]) (EP X ae σ Q) E s:=by
 obtain⟨hl,C,ht⟩:=q;have e0:=I.KL;have e1:wb X.prog X.w X.K X.mg X.base X.A.in1.in1 X.stack s H:=⟨e0.frames,e0.mod,e0.bs,e0.Gu,e0.kq,e0.C1,e0.cq,e0.bare⟩
 refine Yr (XU (IP (E:=XF) (k:=k) LO C ((hr.in1).in1) e1 hl (.cons r .nil) (ht s)) λr s' hq=>?_);cases r with
 |error e=>obtain⟨_,_,_,_,_,z⟩:=hq;exact z.elim
 |ok fl=>
  cases fl with
  |ret u=>exact I.after hq
  |next=>exact False.elim hq
  |brk=>exact False.elim hq
  |cont=>exact False.elim hq
def Ux(Kc:V->Hp->VK->Prop)(fin:List V->Hp->Prop):List V->List V->Hp->Prop
 |[],ys,H=>fin ys H
 |x::r,ys,H=>Kc x H λy H1=>Ux Kc fin r (ys++[y]) H1
inductive u7(K:Z')(H:Hp):List V->List (_a)->Prop
 |nil:u7 K H [] []
 |cons {a r:_i} {l:Int} {row:_a} {ys:List V} {ks:List (_a)}:oC K H a [.int l,.ref r]->nN K H r (row.map V.int)->u7 K H ys ks->u7 K H (.ref a::ys) ((l::row)::ks)
theorem u7.at_{ys:List V}{ks:List (_a)}{us:_b}(h:u7 X.K H ys ks)(I:aX X ae σ H s)(r:bo ys us):lY s.heap us ks:=by
 induction h generalizing us with
 |nil=>cases r;exact .nil
 |cons h1 h2 _ ih=>
  cases r with
  |cons r1 r2=>
   cases r1;refine .cons ?_ (ih r2);obtain⟨aP,rv,⟨o,ho,hc,n,hd⟩,_⟩:=I.tuple h1;obtain⟨eI,Rz,pl,_⟩:=I.list h2;cases rv with
   |cons q1 q2=>
    obtain⟨t,rfl⟩:=q1;cases q2 with
    |cons q3 q4=>
     cases q3;cases q4;exact⟨_,o,_,n,_,t,_,eI.toArray,_,rfl,ho,hc,hd,rfl,pl.isList,ID Rz,rfl⟩
end
theorem xt{g:α->β}{l b:List β}(h:l.Perm b):∀T:List α,T.map g=b->∃T':List α,T'.Perm T/\T'.map g=l:=by
 induction h with
 |nil=>intro T e;exact⟨T,.refl _,e⟩
 |cons x _ ih=>
  intro T e;cases T with
  |nil=>cases e
  |cons t T=>
   obtain⟨T',p,q⟩:=ih T (Xs e).2;exact⟨t::T',p.cons t,by rw[Vs,q,(Xs e).1]⟩
 |swap x y l=>
  intro T e
  match T,e with
  |t::u::T,e=>
   have e1:=(Xs e).1;have e2:=(Xs (Xs e).2).1;have e3:=(Xs (Xs e).2).2;exact⟨u::t::T,.swap t u T,by rw[Vs,Vs,e1,e2,e3]⟩
 |trans _ _ i1 i2=>
  intro T e;obtain⟨T2,p2,q2⟩:=i2 T e;obtain⟨T1,p1,q1⟩:=i1 T2 q2;exact⟨T1,p1.trans p2,q1⟩
section
variable{E:Z_}{xs:List V}{D kS:_i}{e1:Nat}{P:PySem.Fin->_h->Prop}
def Mm(X:Cx)(xs:List V)(Q:VK)(ys:List V)(H:Hp):Prop:=∃ks:List (_a),u7 X.K H ys ks/\ks.Nodup/\∀zs:List (V×List Int),zs.Perm (xs.zip ks)->mZ (zs.map (·.2))->∀D,H D=none->Q (.ref D) (upd H D (.lst (zs.map (·.1))))
theorem AF:∀{xs:List V}{vs:_b},bo xs vs->∀p∈xs.zip vs,bJ p.1 p.2
 |_,_,.nil,p,m=>by cases m
 |_,_,.cons r t,p,m=>by
  rcases V5.mp m with rfl|m
  .exact r
  .exact AF t p m
theorem DZ:∀{l:List (V×_g)},(∀p∈l,bJ p.1 p.2)->bo (l.map (·.1)) (l.map (·.2))
 |[],_=>.nil
 |p::l,h=>.cons (h p (VV ..)) (DZ λq m=>h q (VP _ m))
theorem IV{α β γ:Type}:∀{xs:List α}{vs:List β}(ks:List γ),xs.length=vs.length->((xs.zip vs).zip ks).map (λq=>(q.1.2,q.2))=vs.zip ks/\((xs.zip vs).zip ks).map (λq=>(q.1.1,q.2))=xs.zip ks
 |[],[],_,_=>⟨rfl,rfl⟩
 |[],_::_,_,h=>by cases h
 |_::_,[],_,h=>by cases h
 |x::xs,v::vs,[],h=>⟨rfl,rfl⟩
 |x::xs,v::vs,k::ks,h=>by obtain⟨h1,h2⟩:=IV (xs:=xs) (vs:=vs) ks (Yd h);simp only[Zo,Vs];exact⟨by rw[h1],by rw[h2]⟩
theorem Cj(LO:L.NM)(hr:fj (k+3) X.A)(rv:bo xs vs)(hz:vs.length<64)(ne:kS≠D)(I:aX X ae σ H s)(fD:kx X ae H D)(fS:kx X ae H kS)(hD:s.heap.get? D=some (seqObj "list" #[] e1))(hk:s.heap.get? kS=some (seqObj "list" #[] 0))(g:Ux (IU X L f c') (Mm X xs Q) xs [] H)(h:∀s',EP X ae σ Q (.ref D) s'->P (.done (.ret .none)) s'):
  wpAny (model X.prog X.w) X.A.in1.in1 (ksk_rest D (.ref f) false vs.toArray e1 (.ref kS)) P E s:=by
 unfold ksk_rest;refine Vl (Yq ?_);rw[List.forIn_toArray];refine Vl (ksk_fold (λi s'=>∃H' ys kA c,aX X ae σ H' s'/\H' D=none/\H' kS=none/\s'.heap.get? D=some (seqObj "list" #[] e1)/\s'.heap.get? kS=some (seqObj "list" kA c)/\bo ys kA.toList/\ys.length=i/\Ux (IU X L f c') (Mm X xs Q) (xs.drop i) ys H') vs 0 s
  ⟨H,[],#[],0,I,fD.1,fS.1,hD,hk,.nil,rfl,g⟩ ?step ?done)
 case step=>
  rintro j u s' hu ⟨H',ys,kA,c,I',nD,nS,hD',hk',rk,lj,g'⟩;rw[V8]at lj g'⊢;have hj:j<vs.length:=(V!.mp hu).1;have hx:j<xs.length:=by rw[rv.length];exact hj
  obtain⟨u',hu',ru⟩:=rv.get (Vp hx);rw[hu]at hu';cases hu';rw[WV hx]at g';obtain⟨_,d1,d2,d3,d4,d5⟩:=id fD;obtain⟨_,t1,t2,t3,t4,t5⟩:=id fS;have J:aX X (ae++[(D,seqObj "list" #[] e1),(kS,seqObj "list" kA c)]) σ H' s':=I'.px λp hp=>by
   rcases VX.mp hp with z|z
   .exact I'.pin p (Wa _ z)
   .rcases V5.mp z with rfl|z
    .exact⟨hD',nD,d1,d2,λv z=>by cases z⟩
    .rw[VN.mp z];exact⟨hk',nS,t1,t2,λv z=>by cases z⟩
  refine Vl (XE (Wm (FW (E:=λ_ _=>False) LO hr J ru g') (λv s2 hv=>?_) λ_ _ z=>z.elim));obtain⟨y2,H2,J3,ry,g2⟩:=hv;have pD:=J3.pin (D,seqObj "list" #[] e1) (by simp);have pS:=J3.pin (kS,seqObj "list" kA c) (by simp);have J4:=J3.pE;dsimp only;have RK:kA.size<=1000:=by rw[<-V2,<-rk.length];lia
  obtain⟨c2,zT⟩:∃c2,(s2.heap.update kS (Obj.mapSeq (·.push v))).get? kS=some (seqObj "list" (kA.push v) c2):=⟨_,Yg pS.1 (·.push v)⟩
  refine Vl (Zk pS.1 rfl ?_ (by rw[VB];lia) (V? (Ye (Array.size_push ..)) (by rw[VB];lia)));refine VA ⟨rfl,H2,ys++[y2],kA.push v,c2,J4.turned (t':=s2.toks) (λb o hb e=>(Wj _ _ (W? hb)).trans e) pS.2.1 t1 t3 t4 t5,pD.2.1,pS.2.1,(Wj _ _ ne).trans pD.1,zT,?_,by rw[Vv,lj];rfl,g2⟩;rw[Array.toList_push];exact rk.append (.cons ry .nil)
 case done=>
  rintro s' ⟨H',ys,kA,c,I',nD,nS,hD',hk',rk,lj,g'⟩;rw[V8,Xk (by rw[rv.length];exact VD _)]at g';obtain⟨ks,kv,nd,q⟩:=g';refine Vl (WY hk' rfl ?_);have t:=kv.at_ I' rk;have lk:kA.size=vs.length:=by rw[<-V2,<-rk.length,lj,V8]
  refine SO.FV (by have:=hr.un;show X.A.units+1+1<_;lia) hD' hk' ne t lk nd hz λh1 h' c' zs z1 z2 z3 z4 z5=>h _ ?_;obtain⟨_,d1,d2,d3,d4,d5⟩:=id fD;obtain⟨_,t1,t2,t3,t4,t5⟩:=id fS;have J1:aX X ae σ H' {s' with heap:=h1}:=I'.turned (t':=s'.toks) z3 nS t1 t3 t4 t5;have J2:aX X ae σ H' {s' with heap:=h'}:=J1.turned (t':=s'.toks) z4 nD d1 d3 d4 d5
  -- J0 values abI abC for J0 items
  obtain⟨e2,e3⟩:=IV ks rv.length;obtain⟨T,pT,eT⟩:=xt (g:=λq:(V×_g)×List Int=>(q.1.2,q.2)) z1 _ e2;have zv:(T.map λq=>(q.1.1,q.2)).Perm (xs.zip ks):=by rw[<-e3];exact pT.map _
  have zr:mZ ((T.map λq=>(q.1.1,q.2)).map (·.2)):=by rw[<-eT,V_]at z2;rw[V_];exact z2
  have vz:bo ((T.map λq=>(q.1.1,q.2)).map (·.1)) (zs.map (·.1)):=by
   rw[<-eT,V_,V_];have:=DZ (l:=T.map (·.1)) (λq m=>by
    obtain⟨w,mw,rfl⟩:=Wb.mp m;exact AF rv _ (Xb (show(w.1,w.2)∈_ from pT.mem_iff.mp mw)).1)
   rw[V_,V_]at this;exact this
  obtain⟨zV,hzV⟩:∃zV,zV=T.map λq=>(q.1.1,q.2):=⟨_,rfl⟩
  rw[<-hzV]at zv zr vz;have ok:cY X.prog X.w (upd H' D (.lst (zV.map (·.1)))) h' D (.lst (zV.map (·.1))):=by
   refine⟨?_,zs.map (·.1),c',vz,z5⟩;have Uy:=t.length;have hk3:kA.toList.length=vs.length:=by rw[V2];exact lk
   have:(zV.map (·.1)).length=vs.length:=by rw[Vq,zv.length_eq,XX,rv.length,<-Uy,hk3];exact YF _
   rw[this,VB];lia
  exact⟨.ref D,_,J2.Dh (o:=.lst (zV.map (·.1))) ⟨nD,d1,d2,d3,d4,d5⟩ ok,rfl,q zV zv zr D nD⟩
end
def QM(X:Cx)(L:gr):List V->List V->Hp->VK->Prop:=λxs zs H Q=>∃a f c' vs,xs=[.ref a]/\zs=[.ref f]/\nN X.K H a vs/\vs.length<64/\Ux (IU X L f c') (Mm X vs Q) vs [] H
theorem AG(LO:L.NM)(hr:fj (k+3) X.A):IC X (.builtin "sorted") ["key"] (QM X L):=by
 intro ae s σ H xs zs us ws Q I rx rz h;obtain⟨a,f,c',vs,rfl,rfl,hq,hz,g⟩:=h;obtain⟨u,rfl,r1⟩:=vals1 rx;obtain⟨z,rfl,r2⟩:=vals1 rz;cases r1;cases r2;obtain⟨aP,rv,pl,_⟩:=I.list hq;have hi:aP.length<64:=by rw[<-rv.length];exact hz
 have hs:aP.toArray.size<=sizeLine:=by rw[VG,VB];lia
 show wpAny _ _ (call (.builtin "sorted") [.ref a] [(Str.ofString "key",.ref f)]) _ _ s;refine call_function_entry_kw kind_sorted plain_sorted entry_sorted (ksk_s1 _ _) ?_;unfold Builtin.«sorted»;refine Vl (m:=checkCount "sorted" 1 1 _) (VA ?_);refine Vl (collect_list pl.isList ?_ (by rw[VB];lia));refine Vl (YQ ?_ (by rw[VB];lia));have hsz:((s.heap.push (seqObj "list" #[] 0)).update s.heap.objs.size (Obj.mapSeq (· ++ aP.toArray))).objs.size=s.heap.objs.size+1:=by rw[Heap.size_update,size_push']
 obtain⟨h1,e1⟩:∃h1,h1=((s.heap.push (seqObj "list" #[] 0)).update s.heap.objs.size (Obj.mapSeq (· ++ aP.toArray))).push (seqObj "list" aP.toArray 0):=⟨_,rfl⟩
 have k1:∀b o,s.heap.get? b=some o->h1.get? b=some o:=λb o q=>by have sJ:b<s.heap.objs.size:=VH q;rw[e1,Heap.get?_push_ne _ _ _ (by rw[hsz];exact V0 (YG sJ)),Heap.get?_update_ne _ _ _ _ (V0 sJ),Heap.get?_push_ne _ _ _ (V0 sJ)];exact q
 have M5:h1.get? (s.heap.objs.size+1)=some (seqObj "list" aP.toArray 0):=by rw[e1,<-hsz];exact VS _ rfl
 show wpAny _ _ _ _ _ {s with heap:=((s.heap.push (seqObj "list" #[] 0)).update s.heap.objs.size (Obj.mapSeq (· ++ aP.toArray))).push (seqObj "list" aP.toArray 0)};rw[hsz,<-e1];obtain⟨D,eD⟩:∃D,D=s.heap.objs.size+1:=⟨_,rfl⟩
 rw[<-eD]at M5⊢;refine Vl (WX (wpAny_call_entry_kw slot_list_sort ⟨_,M5,rfl⟩ entry_list_sort ?body (ksk_l1 _ _)))
 case body=>
  show wpAny (model X.prog X.w) X.A.in1.in1 (Builtin.«list.sort» ⟨[.ref D],[(Str.ofString "key",.ref f)]⟩) _ _ _;rw[ksk_t1];unfold ksk_tree;obtain⟨c1,Uz⟩:∃e1,(h1.update D (Obj.mapSeq λ_=>(#[]:Array _g))).get? D=some (seqObj "list" #[] e1):=⟨_,Yg M5 λ_ => #[]⟩
  refine Vl (WY M5 rfl ?_);refine Vl (Zk M5 rfl ?_ hs (We _));refine Vl (seqEpoch_at Uz rfl ?_);refine Vl (wpAny_newTuple ?_ (by show aP.length<=_;rw[VB];lia));refine Vl (YQ ?_ (We _));refine WX ?_;have Uw:D<h1.objs.size:=VH M5;have hkS:((h1.update D (Obj.mapSeq λ_=>(#[]:Array _g))).push (seqObj "tuple" aP.toArray 0)).objs.size=h1.objs.size+1:=by rw[size_push',Heap.size_update]
  have nD:H D=none:=I.cq.fresh (by rw[eD];exact Zz _);have fD:kx X ae H D:=I.zP (by rw[eD];exact Zz _) nD;have lS:s.heap.objs.size<=h1.objs.size+1:=by lia
  have fS:kx X ae H (h1.objs.size+1):=I.zP lS (I.cq.fresh lS);obtain⟨h2,e2⟩:∃h2,h2=((h1.update D (Obj.mapSeq λ_=>(#[]:Array _g))).push (seqObj "tuple" aP.toArray 0)).push (seqObj "list" #[] 0):=⟨_,rfl⟩
  have k2:∀b o,s.heap.get? b=some o->h2.get? b=some o:=λb o q=>by have sJ:b<s.heap.objs.size:=VH q;rw[e2];refine Vo _ (Vo _ ?_);rw[Heap.get?_update_ne _ _ _ _ (by rw[eD];exact V0 (YG sJ))];exact k1 b o q
  show wpAny _ _ (ksk_rest D (.ref f) false aP.toArray _ (.ref ((h1.update D (Obj.mapSeq λ_=>(#[]:Array _g))).push (seqObj "tuple" aP.toArray 0)).objs.size)) _ _ {s with heap:=((h1.update D (Obj.mapSeq λ_=>(#[]:Array _g))).push (seqObj "tuple" aP.toArray 0)).push (seqObj "list" #[] 0)};have Uy:h2.get? (h1.objs.size+1)=some (seqObj "list" #[] 0):=by rw[e2,<-hkS];exact VS _ rfl
  rw[hkS,<-e2];refine Cj (s:={s with heap:=h2}) LO hr rv hi (W6 (YG Uw)) (I.kept (t':=s.toks) k2) fD fS (by rw[e2];exact Vo _ (Vo _ Uz)) Uy g λs' q=>⟨_,rfl,?_⟩
  exact VA ⟨_,rfl,q⟩
end L2
namespace MN
open PySem.Spec L2
open PyProof.Rows hiding St
def t9(P:_k)(w:World)(K:Z')(mg:Z!)(base:Heap)(L:gr)(k:Nat)(mb:ME):Prop:=
 L.NM/\∀(f c':_i)(A:_j)(outer:List PySem.Env)(s:_h)(H:Hp),fj k (A.deeper (W.envX L.qual L.scope s.heap.objs.size f (.ref c') [])) ->
  PE (u6 P w K mg base L f c' A outer s H) L.body (tE (u6 P w K mg base L f c' A outer s H) E0 mb)
def Ck(mb:ME):List ah->List ah->af->cz (List ah)
 |[],ys,st=>.ok ys st
 |x::r,ys,st=>match mb [some x] st with
  |.ok y st1=>Ck mb r (ys++[y]) st1
  |_=>.bad
def kW(st:af):List ah->Option (List (_a))
 |[]=>some []
 |.tup [.int l,.loc r]::ys=>match ao st r with
  |some us=>match uY us,kW st ys with
   |some row,some ks=>some ((l::row)::ks)
   |_,_=>none
  |none=>none
 |_=>none
def Gz(a b:ah×List Int):Bool:=!(SO.lexLt b.2 a.2)
open Classical in
def IW(us:List ah)(ys:List ah)(st:af):cz ah:=match kW st ys with
 |some ks=>if ks.Nodup then .ok (.loc st.length) (st++[.lst (((us.zip ks).mergeSort Gz).map (·.1))])else .bad
 |none=>.bad
open Classical in
def qM(L:ji)(mb:ME)(m:ME):ME:=λμ st=>(m μ st).bind λv st1=>match v with
 |.loc n=>if jV st1 L.own L.line L.col L.S.qual/\L.S.ps.length=1 then(match ao st1 n with
   |some us=>if us.length<64 then(Ck mb us [] st1).bind (IW us)else .bad
   |none=>.bad)else .bad
 |_=>.bad
theorem FX(sr:SR X.K ρ st H):∀{ys:List ah}{yV:List V}{ks:List (_a)},bt X.K ρ H ys yV->kW st ys=some ks->u7 X.K H yV ks:=by
 intro ys
 induction ys with
 |nil=>
  intro yV ks r h;cases h;rw[r.gg];exact .nil
 |cons y ys ih=>
  intro yV ks r h;unfold kW at h;split at h
  .rename_i e;cases e
  .rename_i l r' ys' e;cases e;split at h
   .rename_i us hi;split at h
    .rename_i row ks' h1 h2;cases h;obtain⟨v,yV,rfl,ra,rb⟩:=r.cN;obtain⟨a,vs,rfl,hs,rv⟩:=ra.i!;obtain⟨v1,v2,rfl,r1,r2⟩:=rv.Tr;obtain⟨a2,rfl,ha⟩:=r2.ff;obtain⟨ws,hw,rw⟩:=bw (X:=X) sr hi ha;rw[FG h1]at rw;rw[bt.Me rw]at hw;rw[Rl.cP r1]at hs;exact .cons hs hw (ih rb h2)
    .cases h
   .cases h
  .cases h
theorem FY{l:List (ah×List Int)}(nd:(l.map (·.2)).Nodup):SO.mZ ((l.mergeSort Gz).map (·.2)):=by
 have h1:(l.mergeSort Gz).Pairwise λa b=>Gz a b=true:=by
  refine Yu (λa b c h1 h2=>?_) (λa b=>?_) l
  .unfold Gz at h1 h2⊢;rw[YI]at h1 h2⊢;by_cases e1:b.2=a.2
   .rw[<-e1];exact h2
   .by_cases e2:c.2=b.2
    .rw[e2];exact h1
    .exact SO.kR (SO.uX (SO.n_ e1 h1) (SO.n_ e2 h2))
  .unfold Gz;cases z:SO.lexLt b.2 a.2 with
   |false=>rfl
   |true=>rw[SO.kR z];rfl
 have h2:((l.mergeSort Gz).map (·.2)).Nodup:=((X? l Gz).map _).nodup_iff.mpr nd;have h3:=Wt.mp h2;refine Wt.mpr (List.Pairwise.imp (λ{a b}h=>?_) (h1.and h3));have z:SO.lexLt b.2 a.2=false:=by have:=h.1;unfold Gz at this;rwa [YI]at this
 exact SO.n_ (W? h.2) z
theorem IX{a b:List (ah×List Int)}(p:a.Perm b)(fa:SO.mZ (a.map (·.2)))(fb:SO.mZ (b.map (·.2))):a=b:=
 Z3 (λx y _ _ h1 h2=>by rw[SO.kR h1]at h2;cases h2) (Wt.mp fa) (Wt.mp fb) p
theorem AH{ρ:_d}{H:Hp}:∀{us:List ah}{vs:List V},bt X.K ρ H us vs->∀p∈us.zip vs,Rl X.K ρ H p.1 p.2
 |[],_,_,p,m=>by cases m
 |u::us,vs,r,p,m=>by
  obtain⟨v,vs,rfl,r1,r2⟩:=r.cN;rcases V5.mp m with rfl|m
  .exact r1
  .exact AH r2 p m
theorem D0{ρ:_d}{H:Hp}:∀{l:List (ah×V)},(∀p∈l,Rl X.K ρ H p.1 p.2)->bt X.K ρ H (l.map (·.1)) (l.map (·.2))
 |[],_=>bt.nil
 |p::l,h=>bt.cons (h p (VV ..)) (D0 λq m=>h q (VP _ m))
theorem D3{α β:Type}:∀(us:List α)(ks:List β),((us.zip ks).map (·.2)).Sublist ks
 |[],ks=>List.nil_sublist ks
 |_::_,[]=>List.nil_sublist _
 |_::us,k::ks=>(D3 us ks).cons_cons k
theorem Mn(S:t9 X.prog X.w X.K X.mg X.base L k mb)(yF:L.ps.length=1)(hr:fj (k+3) X.A){vs:List V}:∀(r:List ah)(rV:List V)(ys:List ah)(yV:List V)(ρ:_d)(st:af)(H:Hp),FU L H f c'->SR X.K ρ st H->bt X.K ρ H us vs->bt X.K ρ H r rV->bt X.K ρ H ys yV ->
  wR (wo X) E (Rl X.K) ρ H Q ((Ck mb r ys st).bind (IW us))->Ux (IU X L f c') (Mm X vs Q) rV yV H:=by
 intro r
 induction r with
 |nil=>
  intro rV ys yV ρ st H C sr ru rr ry h;rw[rr.gg];replace h:wR (wo X) E (Rl X.K) ρ H Q (IW us ys st):=h;unfold IW at h;split at h
  .rename_i ks hk;split at h
   .rename_i nd;refine⟨ks,FX sr ry hk,nd,λzs z1 z2 D hD=>?_⟩;obtain⟨e2,e3⟩:=IV ks ru.length;obtain⟨T,pT,eT⟩:=xt (g:=λq:(ah×V)×List Int=>(q.1.2,q.2)) z1 _ e2;have zv:(T.map λq=>(q.1.1,q.2)).Perm (us.zip ks):=by rw[<-e3];exact pT.map _
    have zr:SO.mZ ((T.map λq=>(q.1.1,q.2)).map (·.2)):=by rw[<-eT,V_]at z2;rw[V_];exact z2
    have ndz:((us.zip ks).map (·.2)).Nodup:=List.Pairwise.sublist (D3 us ks) nd;have eq:=IX (zv.trans (X? _ Gz).symm) zr (FY ndz);have vz:bt X.K ρ H (((us.zip ks).mergeSort Gz).map (·.1)) (zs.map (·.1)):=by
     rw[<-eq,<-eT,V_,V_];have:=D0 (X:=X) (ρ:=ρ) (H:=H) (l:=T.map (·.1)) (λq m=>by
      obtain⟨w,mw,rfl⟩:=Wb.mp m;exact AH ru _ (Xb (show(w.1,w.2)∈_ from pT.mem_iff.mp mw)).1)
     rw[V_,V_]at this;exact this
    obtain⟨k1,k2,k3⟩:=il sr vz hD;exact h _ _ _ k1 k2 k3
   .exact h.elim
  .exact h.elim
 |cons x r ih=>
  intro rV ys yV ρ st H C sr ru rr ry h;obtain⟨v,rV,rfl,rx,rr⟩:=rr.cN;unfold Ck at h;cases hb:mb [some x] st with
  |ok y st1=>
   rw[hb]at h;refine⟨by rw[yF];rfl,C,λs=>⟨_,S.2 f c' X.A.in1.in1 X.stack s H (hr.in1.in1.deeper _),[some x],ρ,st,?_,sr,?_⟩⟩
   .exact RS.start (N:=[""]) (bt.one rx)
   .rw[hb];intro ρ1 H1 vy e1 cC r1;exact ih rV (ys++[y]) (yV++[vy]) ρ1 st1 H1 (C.mono λb o u q=>e1.j5 b o u q) cC (bt.mono e1 _ _ ru) (bt.mono e1 _ _ rr) (bt.append (bt.mono e1 _ _ ry) (bt.one r1)) (wR.mono h e1)
  |err c st1=>rw[hb]at h;exact h.elim
  |bad=>rw[hb]at h;exact h.elim
section
variable{p lp:Pos}{m:ME}{L:ji}{cd T:_i}
theorem IY(S:t9 X.prog X.w X.K X.mg X.base L.S k mb)(B:P' X.K X.mg X.base L.own cd T)(hr:fj (k+3) X.A)(hg:Gl X x)(hm:X.mg x=none)(hv:bootBuiltins x=some (.builtin "sorted"))(ha:PE X e (tE X E m))(UA:X.env.code=.ref cd:=by rfl)(hcl:closureFor L.S.scope X.env=pure []:=by rfl)(hq:L.S.qual=X.env.qual ++ "<lambda>":=by rfl)(SS:defaultsOf L.S.params X.env=([],[]):=by rfl)(sL:lp.line=L.line:=by rfl)(tP:lp.col=L.col:=by rfl)(hn:x ≠ "__name__":=by decide)(sE:(x==("__debug__":Str))=false:=by decide)(he:starEach [e] X.env=(false,eval e X.env)::starEach [] X.env:=by rfl):
  PE X (.Call (.Name x p) [e] [⟨some "key",.Lambda L.S.params L.S.body L.S.scope lp,kp⟩] pos) (tE X E (qM L mb m)):=by
 have A:Hm X L.S lp cd T []:=⟨UA,B.hd,hcl,hq,SS,B.blt,B.gT⟩
 refine PE.imp (FF (AG S.1 hr) hg hm hv (iZ ha ql he) (KO (Ll A) OC) (by rfl) hn sE (by rw[he];rfl) (by rw[he];rfl)) ?_;rintro σ H Q ⟨μ,ρ,st,rs,sr,h⟩;unfold qM at h;refine go μ ρ st rs sr h λw st1 ρ1 H1 va e1 cC r1 h1=>?_;cases w with
 |loc n=>
  dsimp only at h1;split at h1
  .rename_i hT;obtain⟨⟨jt,hj⟩,yF⟩:=hT;rw[<-sL,<-tP]at hj;split at h1
   .rename_i us hi;split at h1
    .rename_i hle;obtain⟨T',Tq,kT⟩:=cC.addr hj;have eT:T'=T:=by obtain⟨cd',h1⟩:=kT.1;have:=h1.symm.trans B.tab;cases this;rfl
     subst eT;refine⟨kT.2,λfa' c' H2 N=>?_⟩;obtain⟨pJ,e2⟩:=cC.P? hj Tq N;obtain⟨a,rfl,ha⟩:=r1.ff;obtain⟨vs,hq,rv⟩:=bw (X:=X) pJ hi (e2.at_ ha);exact⟨a,fa',c',vs,rfl,rfl,hq,by rw[<-rv.length];exact hle,Mn S yF hr us vs [] [] ρ1 st1 H2 ⟨N.fn,N.cd⟩ pJ rv rv bt.nil (wR.mono h1 e2)⟩
    .exact h1.elim
   .exact h1.elim
  .exact h1.elim
 |_=>exact h1.elim
end
def IZ:List Stmt->Option Expr
 |[]=>none
 |[.Return (some (.Tuple [_,.Call _ _ (⟨_,e,_⟩::_) _] _ _)) _]=>some e
 |_::r=>IZ r
theorem gr.aa9(h1:L.scope.kind=.function)(h2:L.scope.isCoroutine=false)(h3:L.scope.isGenerator=false)(h4:(L.scope.names.all λp => !(p.2 == .cell) && !(p.2 == .free))=true)(h5:(L.ps.all λp=>L.scope.names.lookup p==some .local)=true)(h8:L.ps.Nodup)(h9:∀(pm cd ct:_g)(cl:List (Str×_i))(us:_b),us.length=L.ps.length->bindArgs (W.kla_fn "<lambda>" L.qual L.params L.body L.scope cl pm cd ct) ⟨us,[]⟩=pure (L.ps.zip us)):L.NM where
 kind:=h1
 co:=h2
 gen:=h3
 gA:=λy hy h=>by have z:=Wr.mp h4 y hy;simp[h]at z
 xV:=λy hy h=>by have z:=Wr.mp h4 y hy;simp[h]at z
 par:=λp hp=>by have z:=Wr.mp h5 p hp;simpa using z
 nd:=h8
 bind:=h9
end MN
namespace PM
open PySem.Spec L2 MN
open PyProof.Rows hiding St
def eZ:FN:=g_ 4 5 (aA (aM 4 (ag bQ bG dJ)) (bM (c_ 2 [4,0] (uJ true true (aa bG (aa cQ ai))) (iL [(aF 0),(aF 1)]) bI (ag dX (ag iF bg (ag bZ cQ bG)) dJ))))
def j':FN:=g_ 2 2 (bM (c_ 1 [0] (ip (aa bG ai)) (aF 0) bI (Kd (dY (ag jC bg bG)) cI cT)))
def gW:FN:=g_ 1 1 (bM (ag bQ (a_ (aa yn (aa RC (aa Tz (aa (mC (.int 7)) (aa yn (aa RC (aa Tz (aa (mC (.int 11)) (aa (mC (.int 13)) (aa (mC (.int 17)) (aa (mC (.int 19)) (aa (mC (.int 23)) (aa (mC (.int 29)) (aa (mC (.int 31)) ai))))))))))))))) (ag dX bg (mC (.int 14)))))
def cleared:FN:=g_ 4 4 (bM (c_ 1 [3,0,2] (gN bG) (aF 0) bI (ak PM.eZ (aa cQ (aa bg (aa dJ (aa bG ai)))))))
def ig:FN:=g_ 1 1 (bM (c_ 2 [0] (jU (aa bg ai)) (iL [(aF 0),(aF 1)]) bI (ag cU (ak uG (aa bG ai)) (ak PM.j' (aa bg (aa (ak bF (aa cQ ai)) ai))))))
def b9:FN:=g_ 3 6 (aA (aM 3 (a_ ai)) (aA (iM (gQ (aa cQ (aa (ak bF (aa bG ai)) ai))) (aF 4) (aA (aM 5 (ak PM.bB (aa bg (aa (ag bQ bG fT) (aa (ag cU (ag bZ (a_ (aa cT ai)) fT) (a_ (aa cI ai))) (aa (iK cI) ai)))))) (fg (g6 dS dJ (aa (ak PM.d_ (aa j4 (aa (ak bF (aa bG ai)) ai))) ai))))) (bM dJ)))
def n!:FN:=g_ 3 10 (aA (aM 3 (a_ ai)) (aA (aM 4 bG) (aA (aM 5 (a_ ai)) (aA (iM (ip (aa cQ ai)) (aF 6) (aA (aM 7 (c_ 1 [6] (gN fT) (aF 0) (dY (ag pk (ag bQ bg bG) cT)) bg)) (mz (dY (ag sO (ak bF (aa uD ai)) cT)) (aA (aM 8 (ak PM.inverse (aa bg (aa (ag bQ (ag bQ uD cT) nW) ai)))) (aA (aM 9 (c_ 1 [8,0] (gN (ag bQ uD cT)) (aF 0) bI (ag dX (ag bZ bg bG) cQ))) (aA (aM 4 (ak PM.cleared (aa bg (aa (ag cU (B0 uD (jH cI) jG) (c_ 1 [6] (gN fT) (aF 0) (dY (ag jC (ag bQ bg bG) cT)) bg)) (aa Bn (aa nW ai)))))) (aA (aM 3 (ag cU (ak PM.cleared (aa bg (aa dJ (aa Bn (aa nW ai))))) (a_ (aa Bn ai)))) (fg (g6 dS j4 (aa nW ai))))))) dh))) (bM (gB (aa (ag cU dJ fT) (aa j4 ai))))))))
def fY:FN:=g_ 3 4 (aA (aM 3 (ak PM.n! (aa bg (aa (ak PM.ig (aa bG ai)) (aa cQ ai))))) (bM (c_ 1 [2] (gN (B0 (ag bQ dJ cT) (jH (ak bF (aa (ag bQ dJ cI) ai))) jG)) (aF 0) bI (B0 bg (jH bG) jG))))
def e8:FN:=g_ 3 7 (aA (aM 3 (ak PM.n! (aa bg (aa (ak PM.ig (aa bG ai)) (aa cQ ai))))) (aA (mz (dY (ag ltV (ak bF (aa (ag bQ dJ cI) ai)) (ak bF (aa bG ai)))) (bM (mC .cH)) dh) (aA (aM 4 (c_ 1 [1] (ip (aa cQ ai)) (aF 0) bI (ag bZ (a_ (aa cT ai)) (ak bF (aa bG ai))))) (aA (iM (jU (aa (ag bQ dJ cI) ai)) (iL [(aF 5),(aF 6)]) (sf fT nW (B0 (ag bQ (ag bQ dJ cT) j4) (jH cQ) jG))) (bM fT)))))
def d8:FN:=g_ 2 7 (aA (aM 2 (a_ (aa (a_ ai) ai))) (aA (aM 3 (a_ (aa (a_ (aa cI ai)) ai))) (aA (iM (gQ (aa cI (aa (ag iF (ak bF (aa bG ai)) cI) ai))) (aF 4) (aA (aM 5 (Kd (dY (ag jC fT cI)) (ag cU (ag bZ (a_ (aa cT ai)) bg) (a_ (aa cI ai))) (ak PM.c! (aa bg (aa (ag bQ dJ (ag iF fT cI)) (aa (ag bQ dJ cI) ai)))))) (aA (aM 6 (ak PM.parted (aa bg (aa j4 (aa bG ai))))) (aA (fg (g6 dS cQ (aa (ag bQ nW cT) ai))) (fg (g6 dS dJ (aa (ag bQ nW cI) ai))))))) (bM (gB (aa cQ (aa dJ ai)))))))
def dH:FN:=g_ 3 7 (aA (aM 3 (ag bQ (ak PM.parted (aa bg (aa (ak PM.cF (aa bg (aa cQ ai))) (aa bG ai)))) cI)) (aA (aM 4 (a_ ai)) (aA (iM (ip (aa bg ai)) (aF 5) (aA (aM 6 (ak PM.cV (aa bg (aa bG (aa (ak PM.bB (aa bg (aa dJ (aa (a_ (aa j4 ai)) (aa (iK cI) ai))))) ai))))) (mz (dY (ag sO (ak bF (aa nW ai)) cI)) (fg (g6 dS fT (aa nW ai))) dh))) (bM fT))))
def jr:FN:=g_ 3 5 (aA (aM 3 (a_ ai)) (aA (iM (gN bG) (aF 4) (fg (g6 i? dJ (aa (ak PM.dH (aa bg (aa fT (aa cQ ai)))) ai)))) (bM dJ)))
def fu:FN:=g_ 2 5 (aA (aM 2 (ag bQ (ak PM.d8 (aa bg (aa bG ai))) cI)) (aA (aM 3 (a_ (aa bG ai))) (aA (iM (gN (ak PM.fY (aa bg (aa (ak PM.b9 (aa bg (aa cQ (aa cT ai)))) (aa (ag iF (ak bF (aa bG ai)) cI) ai))))) (aF 4) (aM 3 (ak PM.jr (aa bg (aa dJ (aa fT ai)))))) (bM dJ))))
def fQ:FN:=g_ 2 5 (aA (fg (ak PM.d9 (aa bg ai))) (aA (mz (Af (dY (ag ltV (ak bF (aa bG ai)) yn)) (dY (ag pk (ag bQ bG (iK cI)) cI))) (kE "NotPlain" (aa (qs "only a plain row of the power 1 or more can be whole") ai)) dh) (aA (aM 2 (ak PM.ft (aa bg (aa bG ai)))) (aA (mz (dY (ag (Pu false) cQ (mC .cH))) (bM (mC .cH)) dh) (aA (aM 3 (ak PM.d8 (aa bg (aa bG ai)))) (aA (aM 4 (ak PM.e8 (aa bg (aa (ak PM.b9 (aa bg (aa (ag bQ dJ cI) (aa cI ai)))) (aa (ag iF (ak bF (aa bG ai)) cI) ai))))) (bM (Kd (dY (ag (Pu false) fT (mC .cH))) (mC .cH) (gB (aa (ag bQ cQ cT) (aa (ag bQ cQ cI) (aa (ag bQ dJ cT) (aa (ag bQ dJ cI) (aa fT ai))))))))))))))
def cW:ME:=(gB (aa (ak bF (aa (ag bQ bg cT) ai)) (aa (ag bQ bg cT) ai)))
def fR(M:ji):FN:=g_ 2 6 (aA (fg (ak PM.d9 (aa bg ai))) (aA (aM 2 (ak PM.gb (aa bg (aa bG ai)))) (aA (aM 3 (a_ ai)) (aA (iM (gN (ag bQ cQ cI)) (iL [(aF 4),(aF 5)]) (fg (g6 i? dJ (aa (c_ 1 [5] (gN (ak PM.fu (aa bg (aa fT ai)))) (aF 0) bI (gB (aa bg (aa bG ai)))) ai)))) (bM (gB (aa (ag bQ cQ cT) (aa (qM M PM.cW dJ) ai))))))))
end PM
namespace u9
open PySem.Spec L2 MN
open PyProof.Rows hiding St
def UB:List (Str×Str×Bool):=[(("NoInverse":Str),("ByNought":Str),false),(("NoInverse":Str),("NoCount":Str),false),(("NoInverse":Str),("NoInverse":Str),true),(("NoInverse":Str),("NoLead":Str),false),(("NoInverse":Str),("NoMeet":Str),false),(("NoInverse":Str),("NoOrder":Str),false),(("NoInverse":Str),("NoParts":Str),false),(("NoInverse":Str),("NoPrime":Str),false),(("NoInverse":Str),("NoRing":Str),false),(("NoInverse":Str),("NoSums":Str),false),(("NoInverse":Str),("NoTerm":Str),false),(("NoInverse":Str),("NoUnknowns":Str),false),(("NoInverse":Str),("NotPlain":Str),false),(("NoInverse":Str),("NotWhole":Str),false),(("NoInverse":Str),("NotWritten":Str),false),(("NoInverse":Str),("AlgebraError":Str),true),(("NoRing":Str),("ByNought":Str),false),(("NoRing":Str),("NoCount":Str),false),(("NoRing":Str),("NoInverse":Str),false),(("NoRing":Str),("NoLead":Str),false),(("NoRing":Str),("NoMeet":Str),false),(("NoRing":Str),("NoOrder":Str),false),(("NoRing":Str),("NoParts":Str),false),(("NoRing":Str),("NoPrime":Str),false),(("NoRing":Str),("NoRing":Str),true),(("NoRing":Str),("NoSums":Str),false),(("NoRing":Str),("NoTerm":Str),false),(("NoRing":Str),("NoUnknowns":Str),false),(("NoRing":Str),("NotPlain":Str),false),(("NoRing":Str),("NotWhole":Str),false),(("NoRing":Str),("NotWritten":Str),false),(("NoRing":Str),("AlgebraError":Str),true),(("NoPrime":Str),("ByNought":Str),false),(("NoPrime":Str),("NoCount":Str),false),(("NoPrime":Str),("NoInverse":Str),false),(("NoPrime":Str),("NoLead":Str),false),(("NoPrime":Str),("NoMeet":Str),false),(("NoPrime":Str),("NoOrder":Str),false),(("NoPrime":Str),("NoParts":Str),false),(("NoPrime":Str),("NoPrime":Str),true),(("NoPrime":Str),("NoRing":Str),false),(("NoPrime":Str),("NoSums":Str),false),(("NoPrime":Str),("NoTerm":Str),false),(("NoPrime":Str),("NoUnknowns":Str),false),(("NoPrime":Str),("NotPlain":Str),false),(("NoPrime":Str),("NotWhole":Str),false),(("NoPrime":Str),("NotWritten":Str),false),(("NoPrime":Str),("AlgebraError":Str),true),(("NoParts":Str),("ByNought":Str),false),(("NoParts":Str),("NoCount":Str),false),(("NoParts":Str),("NoInverse":Str),false),(("NoParts":Str),("NoLead":Str),false),(("NoParts":Str),("NoMeet":Str),false),(("NoParts":Str),("NoOrder":Str),false),(("NoParts":Str),("NoParts":Str),true),(("NoParts":Str),("NoPrime":Str),false),(("NoParts":Str),("NoRing":Str),false),(("NoParts":Str),("NoSums":Str),false),(("NoParts":Str),("NoTerm":Str),false),(("NoParts":Str),("NoUnknowns":Str),false),(("NoParts":Str),("NotPlain":Str),false),(("NoParts":Str),("NotWhole":Str),false),(("NoParts":Str),("NotWritten":Str),false),(("NoParts":Str),("AlgebraError":Str),true),(("NotPlain":Str),("ByNought":Str),false),(("NotPlain":Str),("NoCount":Str),false),(("NotPlain":Str),("NoInverse":Str),false),(("NotPlain":Str),("NoLead":Str),false),(("NotPlain":Str),("NoMeet":Str),false),(("NotPlain":Str),("NoOrder":Str),false),(("NotPlain":Str),("NoParts":Str),false),(("NotPlain":Str),("NoPrime":Str),false),(("NotPlain":Str),("NoRing":Str),false),(("NotPlain":Str),("NoSums":Str),false),(("NotPlain":Str),("NoTerm":Str),false),(("NotPlain":Str),("NoUnknowns":Str),false),(("NotPlain":Str),("NotPlain":Str),true),(("NotPlain":Str),("NotWhole":Str),false),(("NotPlain":Str),("NotWritten":Str),false),(("NotPlain":Str),("AlgebraError":Str),true)]
def tab:List (Str×Str×Bool):=UB++Ul ["NoInverse","NoRing","NoPrime","NoParts","NotPlain"]
def kn:_e:=["NoInverse","NoRing","NoPrime","NoParts","NotPlain"]
def fZ:Str->af->cz ah:=fnN 1 (aA (aM 1 (a_ (aa (fG (eM tab) kn 0 "ByNought") (aa (fG (eM tab) kn 0 "NoCount") (aa (fG (eM tab) kn 0 "NoInverse") (aa (fG (eM tab) kn 0 "NoLead") ai)))))) (aA (aM 1 (ag cU bG (a_ (aa (fG (eM tab) kn 0 "NoMeet") (aa (fG (eM tab) kn 0 "NoOrder") (aa (fG (eM tab) kn 0 "NoParts") (aa (fG (eM tab) kn 0 "NoPrime") ai))))))) (aA (aM 1 (ag cU bG (a_ (aa (fG (eM tab) kn 0 "NoRing") (aa (fG (eM tab) kn 0 "NoSums") (aa (fG (eM tab) kn 0 "NoTerm") (aa (fG (eM tab) kn 0 "NoUnknowns") ai))))))) (bM (ag cU bG (a_ (aa (fG (eM tab) kn 0 "NotPlain") (aa (fG (eM tab) kn 0 "NotWhole") (aa (fG (eM tab) kn 0 "NotWritten") ai)))))))))
def dF:Str->af->cz ah:=fnN 2 (aA (aM 1 (oW 0 fZ)) (aA (mz (Af (dY (ag pk (g6 mX bG (aa (mC (.bl true)) ai)) cI)) (uC (dY (yr (eM tab) 0 "ValueError")))) (bM (qs "several")) dh) (aA (aM 2 (a_ (aa (qs "nought") (aa (qs "count") (aa (qs "inverse") (aa (qs "lead") (aa (qs "meet") (aa (qs "order") (aa (qs "parts") (aa (qs "prime") (aa (qs "ring") (aa (qs "sums") (aa (qs "term") ai))))))))))))) (bM (ag bQ (ag cU cQ (a_ (aa (qs "unknowns") (aa (qs "plain") (aa (qs "whole") (aa (qs "written") ai)))))) (g6 mY bG (aa (mC (.bl true)) ai)))))))
def bU(M:ji):FN:=g_ 3 4 (aA (Ak (BW (knL kn) (mz (Kg (dY (ag jC bg cT))) (fg (ak (PM.fR M) (Kg (aa bG (aa cQ ai))))) (fg (ak PM.fQ (Kg (aa bG (aa cQ ai)))))) (RG (eM tab) "AlgebraError" 3 (bM (oW 3 dF)) TM))) (bM (qs "told")))
def AI(M:ji):MB:=(bM (Ae (ag jC (ak (bU M) (aa cI (aa bG (aa dJ ai)))) (ag bQ (a_ (aa (qs "plain") (aa (qs "told") ai))) (ak B3 (aa j4 ai)))) (ag jC dJ cQ)))
def AJ(M:ji):MB:=(aA (aM 5 (Ae (ag sO (ak bF (aa cQ ai)) cI) (ag jC (ag bQ cQ (iK cI)) cI))) (AI M))
def AK(M:ji):MB:=(aA (mz (j6 (dY (ag jC (ak bF (aa cQ ai)) cI)) (dY (ag pk (ak (PM.fR M) (aa bG (aa dJ ai))) (gB (aa (ag bQ cQ cT) (aa (a_ ai) ai)))))) (bM (mC (.bl false))) dh) (AJ M))
def m5(M:ji):MB:=(aA (mz (dY (ag pk (ak (bU M) (aa cT (aa bG (aa dJ ai)))) (ag bQ (a_ (aa (qs "told") (aa (qs "parts") ai))) (ak B3 (aa (ag jC cQ (a_ ai)) ai))))) (bM (mC (.bl false))) dh) (AK M))
def AL(M:ji):MB:=(aA (iM (gN (a_ (aa cT (aa cI ai)))) (aF 4) (mz (dY (ag pk (ak (bU M) (aa fT (aa (ak PM.ie (aa (ak PM.bA (aa bg (aa RC ai))) ai)) (aa dJ ai)))) (qs "prime"))) (bM (mC (.bl false))) dh)) (m5 M))
def m6(M:ji):MB:=(aA (aM 3 (ak uG (aa cQ ai))) (AL M))
def m7(M:ji):MB:=(aA (mz (dY (ag jC (ag dX (ag jF (ak PM.bA (aa bg (aa yn ai))) Tz) RC) cI)) (aM 2 (ag cU cQ (a_ (aa cI ai)))) dh) (m6 M))
def AM(M:ji):MB:=(aA (aM 2 (ak PM.j8 (aa bG (aa (ak PM.bA (aa bg (aa cI ai))) (aa (ag dX (ak PM.bA (aa bg (aa yn ai))) Tz) ai))))) (m7 M))
def xu(M:ji):FN:=g_ 1 6 (aA (aM 1 (ak PM.gW (aa (ak PM.bA (aa bg (aa cT ai))) ai))) (AM M))
end u9
namespace PG
open PySem.Spec L2 MN
open PyProof.Rows hiding St kindOf
theorem pW(i:Int)(st:af):PM.jk [.int i] st=.ok (.bl true) st:=rfl
def FP:_a:=[2,3,5,7,11,13,17,19,23,29,31]
def fJ(n:Int):Bool:=FP.contains n || (decide (2<=n)&&decide (n<=997)&&FP.all λp => !(n.fmod p==0))
theorem any_ints(n:Int)(ns:_a):(ns.map ah.int).any (λy=>Dp y (.int n))=ns.contains n:=by
 induction ns with
 |nil=>rfl
 |cons m ns ih=>
  simp only[Vs,XO,List.contains_cons];rw[ih];congr 1;show(m==n)=(n==m);rw[Bool.eq_iff_iff,WO,WO];exact⟨Eq.symm,Eq.symm⟩
theorem Mo(n:Int)(ns:_a)(st:af):Pt false (.int n) (.mt (ns.map ah.int)) st=.ok (.bl (ns.contains n)) st:=by
 have h1:(ns.map ah.int).all flat=true:=by rw[List.all_map];exact Wr.mpr λ_ _=>rfl
 unfold Pt Nk;dsimp only;rw[VC ⟨rfl,h1⟩,any_ints];rfl
theorem Mp(ns:_a)(f:Int->Bool):oE ((ns.map ah.int).map λv=>match v with|.int i=>.bl (f i)|_=>.cH)=some (ns.map f):=by
 induction ns with
 |nil=>rfl
 |cons m ns ih=>
  simp only[Vs,oE]at ih⊢;rw[ih];rfl
theorem ow(n:Int)(st:af):∃g,PM.cJ [.int n] st=.ok (.bl (fJ n)) (st++g):=by
 have Nf:Pt false (.int n) PM.gR st=.ok (.bl (FP.contains n)) st:=Mo n FP st;cases h1:FP.contains n with
 |true=>
  refine⟨[],?_⟩;rw[h1]at Nf;simp only[PM.cJ,bb,aj,ax,gS,a9,av,aH,aw,bu,dC,bj,aR,aQ,aG,aZ,bh,aK,Vs,VE,Vr,Nat.reduceSub,Vm,Vx,Nat.reduceAdd,Nf,V7,fJ,h1,Zw]
 |false=>
  rw[h1]at Nf;by_cases h2:n<2
  .refine⟨[],?_⟩;have e2:decide (n<2)=true:=VZ h2;have e3:decide (2<=n)=false:=VT (by lia);simp only[PM.cJ,bb,aj,ax,aL,gS,a9,av,aH,aw,pO,bu,dC,bS,bj,aR,aQ,fW,aG,bN,aZ,bh,gK,aK,Vs,VE,Vr,Nat.reduceSub,Vm,Vx,Nat.reduceAdd,Nf,e2,V7,fJ,h1,e3,X!,Yo]
  .have e2:decide (n<2)=false:=VT h2;have e3:decide (2<=n)=true:=VZ (by lia);by_cases h3:997<n
   .refine⟨[],?_⟩;have e4:decide (997<n)=true:=VZ h3;have e5:decide (n<=997)=false:=VT (by lia);simp only[PM.cJ,bb,aj,ax,aL,gS,a9,av,aH,aw,f?,bu,dC,bS,bj,aR,aQ,fW,aG,bN,aZ,bh,gK,fi,aK,Vs,VE,Vr,Nat.reduceSub,Vm,Vx,Nat.reduceAdd,Nf,e2,e4,V7,fJ,h1,e3,e5,X!,Yo,Zd]
   .have e4:decide (997<n)=false:=VT h3;have e5:decide (n<=997)=true:=VZ (by lia)
    let f:ah->ah:=λv=>match v with|.int i=>.bl (!(n.fmod i==0))|_=>.cH
    have hc:dZ (λ_=>True) (aF 0) bI (ag pk (ag dX bG bg) (mC (ah.int 0))) (FP.map ah.int) (iN 1 [0] [some (ah.int n)]) st []=.ok ([]++((FP.map ah.int).filter λ_=>true).map f) st:=by
     refine h! trivial (λτ=>∃x,τ=[x,some (.int n)]) (λ_=>true) f (FP.map ah.int) _ [] ⟨none,rfl⟩ ?_;rintro u hu τ ⟨x,rfl⟩;obtain⟨i,hi,rfl⟩:=Wb.mp hu;have hi0:¬ i=0:=by intro z;subst z;revert hi;decide
     refine⟨_,rfl,⟨_,rfl⟩,rfl,λ_=>?_⟩;simp only[aj,av,aH,aw,bj,oG,aK,aD,Vn,cj hi0,f]
    have hb:oE (((FP.map ah.int).filter λ_=>true).map f)=some (FP.map λi => !(n.fmod i==0)):=by rw[List.filter_eq_self.mpr (λ_ _=>rfl)];exact Mp FP λi => !(n.fmod i==0)
    refine⟨[.lst (((FP.map ah.int).filter λ_=>true).map f)],?_⟩;have ha:BR [.loc st.length] (st++[.lst (((FP.map ah.int).filter λ_=>true).map f)])=.ok (.bl (fJ n)) (st++[.lst (((FP.map ah.int).filter λ_=>true).map f)]):=by unfold BR;dsimp only;rw[bV];dsimp only;rw[hb];simp only[fJ,h1,e3,e5,X!,Zd,List.all_map];rfl
    have hw:xm PM.gR st=.ok (FP.map ah.int,λ_=>True) st:=rfl;have hz:(FP.map ah.int).length=11:=rfl;rw[Vu]at hc;simp only[PM.cJ,bb,aj,ax,aL,a9,av,aH,aw,f?,ay,ar,bu,bS,gJ,eR,bj,aR,aQ,fW,az,aq,au,aG,bN,aZ,bh,dj,ej,gK,fi,aK,Vs,VE,Vz,Vu,Vr,Nat.reduceSub,Vm,Vx,Nat.reduceAdd,VB,Nat.reduceLeDiff,↓reduceIte,Nf,e2,e4,hw,hc,ha,hz]
end PG
namespace FZ
def Mq(u0 u1 g0 g1 M:Int):Prop:=∃e x0 x1:Int,(e=1\/e = -1)/\0<=x0/\0<=x1/\u0=e*x0/\u1 = -(e*x1)/\x1*g0+x0*g1=M/\x0<=M+1/\x1<=M+1
theorem u_{x g:Int}(hx:0<=x)(hg:1<=g):x<=x*g:=by have:=WC hg hx;simpa using this
theorem Mq.step{u0 u1 M q:Int}(h:Mq u0 u1 g0 g1 M)(hq:0<=q)(h1:1<=g1)(h2:0<=g0-q*g1):Mq u1 (u0-q*u1) g1 (g0-q*g1) M:=by
 obtain⟨e,x0,x1,he,p0,p1,r0,r1,hM,b0,b1⟩:=h;have p2:0<=x0+q*x1:=by have:=Y8 hq p1;lia
 have eq:(x0+q*x1)*g1+x1*(g0-q*g1)=M:=by rw[<-hM];grind
 refine⟨-e,x1,x0+q*x1,?_,p1,p2,?_,?_,eq,b1,?_⟩
 .rcases he with rfl|rfl<;>simp
 .rw[r1];grind
 .rw[r0,r1];grind
 .have k1:=u_ p2 h1;have k2:=Y8 p1 h2;lia
theorem Mq.bound{u0 u1 M:Int}(h:Mq u0 u1 g0 g1 M):u0.natAbs<=(M+1).natAbs/\u1.natAbs<=(M+1).natAbs:=by obtain⟨e,x0,x1,he,p0,p1,r0,r1,hM,b0,b1⟩:=h;rcases he with rfl|rfl<;>(subst r0 r1;constructor<;>lia)
theorem Mq.UC{u0 u1 M q:Int}(h:Mq u0 u1 g0 g1 M)(hq:0<=q)(h1:1<=g1)(h2:0<=g0-q*g1):q<=g0:=by have:=u_ hq h1;lia
structure aX(a b:Int)(g0 u0 v0 g1 u1 v1:Int):Prop where
 n0:0<=g0
 n1:0<=g1
 c0:u0*a+v0*b=g0
 c1:u1*a+v1*b=g1
 cu:Mq u0 u1 g0 g1 (b.natAbs:Int)
 cv:Mq v0 v1 g0 g1 (a.natAbs:Int)
 m0:g0<=(a.natAbs:Int)+(b.natAbs:Int)
 m1:g1<=(a.natAbs:Int)+(b.natAbs:Int)
 da:∃p q:Int,a=p*g0+q*g1
 db:∃p q:Int,b=p*g0+q*g1
def sgn(n:Int):Int:=if n<0 then -1 else 1
def u!(n:Int):Int:=if n<0 then -n else n
theorem n?(n:Int):u! n=(n.natAbs:Int):=by unfold u!;split<;>lia
theorem sgn_mul(n:Int):sgn n*n=u! n:=by unfold sgn u!;split<;>lia
theorem D4(n:Int):n=sgn n*u! n:=by unfold sgn u!;split<;>lia
theorem I_(n:Int):sgn n=1\/sgn n = -1:=by unfold sgn;split<;>simp
theorem aX.start(a b:Int):aX a b (u! a) (sgn a) 0 (u! b) 0 (sgn b):=by
 refine⟨by rw[n?];lia,by rw[n?];lia,by rw[sgn_mul];lia,by rw[sgn_mul];lia,?_,?_,by rw[n?];lia,by rw[n?];lia,⟨sgn a,0,?_⟩,⟨0,sgn b,?_⟩⟩
 .refine⟨sgn a,1,0,I_ a,by decide,by decide,by simp,by simp,by rw[n? b];lia,by lia,by lia⟩
 .refine⟨-(sgn b),0,1,?_,by decide,by decide,by simp,by simp,by rw[n? a];lia,by lia,by lia⟩;rcases I_ b with h|h<;>simp[h]
 .have:=D4 a;lia
 .have:=D4 b;lia
theorem aX.turn{a b u0 v0 u1 v1:Int}(h:aX a b g0 u0 v0 g1 u1 v1)(h1:g1≠0):aX a b g1 u1 v1 (g0-g0.fdiv g1*g1) (u0-g0.fdiv g1*u1) (v0-g0.fdiv g1*v1)/\(g0-g0.fdiv g1*g1).toNat<g1.toNat/\0<=g0.fdiv g1/\g0.fdiv g1<=g0:=by
 have p1:1<=g1:=by have:=h.n1;lia
 have ef:g0.fdiv g1=g0 / g1:=Int.fdiv_eq_ediv_of_nonneg g0 (by lia);have em:g0-g0.fdiv g1*g1=g0 % g1:=by have:=Wl g0 g1;rw[ef,W9];lia
 have q0:0<=g0.fdiv g1:=by rw[ef];exact YZ h.n0 (by lia)
 have r0:0<=g0-g0.fdiv g1*g1:=by rw[em];exact Xe _ h1
 have r1:g0-g0.fdiv g1*g1<g1:=by rw[em];exact W3 _ (by lia)
 generalize hq:g0.fdiv g1=q at *;have m1:=h.m1;obtain⟨p,r,ea⟩:=h.da;obtain⟨p',r',eb⟩:=h.db;refine⟨⟨h.n1,r0,h.c1,?_,h.cu.step q0 p1 r0,h.cv.step q0 p1 r0,h.m1,by lia,⟨p*q+r,p,?_⟩,⟨p'*q+r',p',?_⟩⟩,by lia,q0,h.cu.UC q0 p1 r0⟩
 .have e0:=h.c0;have e1:=h.c1
  grind
 .grind
 .grind
end FZ
namespace PG
open PySem.Spec L2 MN
open PyProof.Rows hiding St kindOf
def gX(n:Int):Bool:=n==0 || fJ n
theorem jJ(n:Int)(st:af):∃g,PM.iq [.int n] st=.ok (.bl (gX n)) (st++g):=by
 cases h:n==0 with
 |true=>exact⟨[],by simp only[PM.iq,bb,aj,ax,a9,av,aH,aw,jI,B5,ay,ar,bu,bj,jm,DF,az,aq,au,aZ,dc,aK,Vs,VE,Vr,Nat.reduceSub,Vm,Vx,Nat.reduceAdd,pW,h,gX,Zw,V7]⟩
 |false=>
  obtain⟨g,e⟩:=ow n st;exact⟨g,by simp only[PM.iq,bb,aj,ax,a9,av,aH,aw,jI,B6,ay,ar,bu,bj,jm,DF,az,aq,au,aZ,dc,aK,Vs,VE,Vz,Vu,Vr,Nat.reduceSub,Vm,Vx,Nat.reduceAdd,pW,h,gX,X!,e]⟩
theorem wx{n:Int}(h:gX n=true)(st:af):∃g,PM.jl [.int n] st=.ok .cH (st++g):=by obtain⟨g,e⟩:=jJ n st;rw[h]at e;exact⟨g,by simp only[PM.jl,bb,aj,ax,yA,qD,ay,ar,bS,aR,aQ,kI,az,aq,au,bN,bh,aK,Vs,VE,Vz,Vu,Vr,Nat.reduceSub,Vm,Vx,Nat.reduceAdd,Wi,e]⟩
theorem wy(n:Int)(st:af):PM.fU [.int n] st=.ok (.int (FZ.sgn n)) st:=by
 unfold FZ.sgn;by_cases h:n<0
 .have e:decide (n<0)=true:=VZ h;simp only[PM.fU,bb,aj,ax,a9,av,aH,aw,kJ,bu,bj,aR,aQ,lX,dz,gk,aZ,gK,aK,Vs,VE,Vz,Vu,Vr,Nat.reduceSub,Vm,Vx,Nat.reduceAdd,e,VC h]
 .have e:decide (n<0)=false:=VT h;simp only[PM.fU,bb,aj,ax,a9,av,aH,aw,kK,bu,bj,aR,aQ,lX,aZ,gK,aK,Vs,VE,Vz,Vu,Vr,Nat.reduceSub,Vm,Vx,Nat.reduceAdd,e,VI h]
def Bp(g u v:Int):ah:=.tup [.int g,.int u,.int v]
theorem bounds{a b u0 v0 u1 v1:Int}(h:FZ.aX a b g0 u0 v0 g1 u1 v1)(ha:sG 400 a)(hb:sG 400 b):sG 402 g0/\sG 402 u0/\sG 402 v0/\sG 402 g1/\sG 402 u1/\sG 402 v1:=by
 have e:(2:Nat) ^ 402=4*2 ^ 400:=by decide +kernel
 have pos:0<(2:Nat) ^ 400:=by decide +kernel
 have a':a.natAbs<2 ^ 400:=ha;have b':b.natAbs<2 ^ 400:=hb;obtain⟨k1,k2⟩:=h.cu.bound;obtain⟨k3,k4⟩:=h.cv.bound;have m0:=h.m0;have m1:=h.m1;have n0:=h.n0;have n1:=h.n1;refine⟨?_,?_,?_,?_,?_,?_⟩<;>(show _<2 ^ 402;rw[e];lia)
def msr(μ:MN.Env):Nat:=match(μ[3]?:Option (Option ah)) with
 |some (some (ah.tup (ah.int g::_)))=>g.toNat
 |_=>0
def NN(q:Int)(v:ah):ah:=match v with
 |.tup [.int x,.int y]=>.int (x-q*y)
 |_=>.cH
theorem yG{q x y:Int}:NN q (.tup [.int x,.int y])=.int (x-q*y):=rfl
theorem UD{q u0 v0 u1 v1:Int}(hq:Sz q)(h1:Sz g1)(h2:Sz u1)(h3:Sz v1)(st:af)(g:af->Prop)(hg:g st)(x:Option ah)(y:Option ah):
  dZ g (iL [aF 0,aF 1]) bI (ag iF bg (ag bZ cQ bG)) (mH [.int g0,.int u0,.int v0] [.int g1,.int u1,.int v1]) [x, y, qI q] st []=.ok [.int (g0-q*g1),.int (u0-q*u1),.int (v0-q*v1)] st:=by
 have:=h! (a:=iL [aF 0,aF 1]) (c:=bI) (e:=ag iF bg (ag bZ cQ bG)) hg (λτ=>∃x y,τ=[x, y, qI q]) (λ_=>true) (NN q) (mH [.int g0,.int u0,.int v0] [.int g1,.int u1,.int v1]) [x, y, qI q] [] ⟨x,y,rfl⟩ ?_
 .exact this
 .rintro u hu τ ⟨x,y,rfl⟩;simp only[mH,V5,Yv,YE]at hu;rcases hu with rfl|rfl|rfl
  .exact⟨_,rfl,⟨_,_,rfl⟩,rfl,λ_=>by simp only[aj,av,aH,aw,fI,aK,aD,Vn,Vt,B! ⟨hq,h1⟩,yG]⟩
  .exact⟨_,rfl,⟨_,_,rfl⟩,rfl,λ_=>by simp only[aj,av,aH,aw,fI,aK,aD,Vn,Vt,B! ⟨hq,h2⟩,yG]⟩
  .exact⟨_,rfl,⟨_,_,rfl⟩,rfl,λ_=>by simp only[aj,av,aH,aw,fI,aK,aD,Vn,Vt,B! ⟨hq,h3⟩,yG]⟩
theorem t_{x:ah}{r:List ah}:L2.lM (x::r) 0=some x:=by unfold L2.lM zU;simp
theorem F_{a b:Int}(ha:sG 400 a)(hb:sG 400 b)(st:af):∃gs g u v u1 v1,PM.shared [.int a,.int b] st=.ok (Bp g u v) (st++gs)/\FZ.aX a b g u v 0 u1 v1:=by
 obtain⟨μ',aC,e,gs,rfl,g0,u0,v0,g1,u1,v1,o,f,rfl,J,z⟩:=gC (t:=dY (ag pk (ag bQ dJ cT) cT))
  (body:=aA (aM 4 (ag jF (ag bQ cQ cT) (ag bQ dJ cT))) (aA (aM 5 (ak BQ (aa (c_ 2 [4] (uJ false false (aa cQ (aa dJ ai))) (iL [(aF 0),(aF 1)]) bI (ag iF bg (ag bZ cQ bG))) ai))) (aA (aM 2 dJ) (aM 3 j4))))
  (λμ s=>∃gs,s=st++gs/\∃g0 u0 v0 g1 u1 v1 o f,μ=[qI a, qI b, some (Bp g0 u0 v0), some (Bp g1 u1 v1), o, f]/\FZ.aX a b g0 u0 v0 g1 u1 v1)
  (λμ _=>msr μ)
  (λμ s=>∃gs,s=st++gs/\∃g0 u0 v0 g1 u1 v1 o f,μ=[qI a, qI b, some (Bp g0 u0 v0), some (Bp g1 u1 v1), o, f]/\FZ.aX a b g0 u0 v0 g1 u1 v1/\g1=0)
  (by
   rintro μ s ⟨gs,rfl,g0,u0,v0,g1,u1,v1,o,f,rfl,J⟩;cases hz:g1==0 with
   |true=>
    have z:g1=0:=by simpa using hz
    refine .inl ⟨st++gs,?_,gs,rfl,g0,u0,v0,g1,u1,v1,o,f,rfl,J,z⟩;simp only[Bp,aj,av,aH,aw,bj,aR,aQ,oG,fP,aD,Wi,bK t_,hz]
   |false=>
    have z:¬ g1=0:=by simpa using hz
    obtain⟨b1,b2,b3,b4,b5,b6⟩:=bounds J ha hb;obtain⟨J',lt,q0,q1⟩:=J.turn z;have n0:=J.n0;have hD:Dz g1:=Dz.of z b4 (by decide);have sq:Sz (g0.fdiv g1):=Sz.of (b1.le (by lia)) (by decide);have s4:Sz g1:=Sz.of b4 (by decide);have s5:Sz u1:=Sz.of b5 (by decide);have s6:Sz v1:=Sz.of b6 (by decide);refine .inr ⟨st++gs,[qI a, qI b, some (Bp g1 u1 v1), some (Bp (g0-g0.fdiv g1*g1) (u0-g0.fdiv g1*u1) (v0-g0.fdiv g1*v1)), qI (g0.fdiv g1), some (Bp (g0-g0.fdiv g1*g1) (u0-g0.fdiv g1*u1) (v0-g0.fdiv g1*v1))],st++gs++[.lst [.int (g0-g0.fdiv g1*g1),.int (u0-g0.fdiv g1*u1),.int (v0-g0.fdiv g1*v1)]],?_,.inl ?_,⟨gs++[.lst [.int (g0-g0.fdiv g1*g1),.int (u0-g0.fdiv g1*u1),.int (v0-g0.fdiv g1*v1)]],by rw[VU],g1,u1,v1,_,_,_,_,_,rfl,J'⟩,?_⟩
    .simp only[Bp,aj,av,aH,aw,bj,aR,aQ,oG,fP,aD,XI,bK t_,hz]
    .have hzl:(mH [ah.int g0,ah.int u0,ah.int v0] [ah.int g1,ah.int u1,ah.int v1]).length=3:=rfl;have gz:iN 2 [4] [some (ah.int a), some (ah.int b), some (.tup [.int g0,.int u0,.int v0]), some (.tup [.int g1,.int u1,.int v1]), qI (g0.fdiv g1), f]=[qn, qn, qI (g0.fdiv g1)]:=rfl;simp only[Bp,aj,ax,aL,av,aH,aw,ay,ar,bH,gJ,eR,bj,az,aq,au,aG,a!,dj,uO,yC,fP,aD,Vn,Vt,VB,Nat.reduceLeDiff,↓reduceIte,bK t_,div_ii hD,gz,UD sq s4 s5 s6 _ (λ_=>True/\True) ⟨trivial,trivial⟩,hzl,L_ (bV _ _)]
    .show(g0-g0.fdiv g1*g1).toNat<g1.toNat;exact lt)
  [qI a, qI b, some (Bp (FZ.u! a) (FZ.sgn a) 0), some (Bp (FZ.u! b) 0 (FZ.sgn b)), qn, qn] st
  ⟨[],by rw[V7],_,_,_,_,_,_,_,_,rfl,FZ.aX.start a b⟩
 subst z;refine⟨gs,g0,u0,v0,u1,v1,?_,J⟩;have aa_:∀n:Int,(if n<0 then -n else n)=FZ.u! n:=λn=>rfl;simp only[Bp]at e;simp only[PM.shared,Bp,bb,aj,ax,aL,a9,ay,ar,iG,bu,bH,bj,az,aq,fX,au,aG,aZ,a!,uQ,aK,fP,aD,Vs,VE,Vz,Vu,Vy,Vr,Vn,Vt,Nat.reduceSub,Vm,Vx,Nat.reduceAdd,VB,Nat.reduceLeDiff,↓reduceIte,wy,aa_,e]
theorem F!:∀k:Fin 998,fJ (k.val:Int)=true->2<=k.val/\∀d:Fin 32,2<=d.val->d.val<k.val->k.val % d.val≠0:=by decide +kernel
theorem aJ(h:fJ p=true):2<=p/\p<=997:=by
 unfold fJ at h;rw[Y0]at h;rcases h with h|h
 .have:p∈FP:=by simpa using h
  simp only[FP,V5,Yv,YE]at this;omega
 .simp only[Wy,XG]at h;omega
theorem F?(h:fJ p=true){d:Int}(h2:2<=d)(hd:d<p):¬ p % d=0:=by
 obtain⟨r1,r2⟩:=aJ h;have key:=(F! ⟨p.toNat,by lia⟩ (by show fJ ((p.toNat:Nat):Int)=true;rw[Wg (by lia)];exact h)).2;have small:∀e:Int,2<=e->e<=31->e<p->¬ p % e=0:=by
  intro e e2 e3 e4 z;have:=key ⟨e.toNat,by lia⟩ (by show 2<=e.toNat;lia) (by show e.toNat<p.toNat;lia);apply this;show p.toNat % e.toNat=0;have:((p.toNat % e.toNat:Nat):Int)=0:=by rw[Int.natCast_emod,Wg (by lia),Wg (by lia)];exact z
  lia
 intro z;by_cases hs:d<=31
 .exact small d h2 hs hd z
 .obtain⟨m,hm⟩:=Xy z;have m2:2<=m:=by
   rcases X4 m 2 with q|q
   .have:d*m<=d*1:=WC (by lia) (by lia);lia
   .exact q
  have m3:m<=31:=by
   rcases X4 31 m with q|q
   .have:32*32<=d*m:=Int.mul_le_mul (by lia) (by lia) (by lia) (by lia);lia
   .exact q
  have m4:m<p:=by have:2*m<=d*m:=W' h2 (by lia);lia
  exact small m m2 m3 m4 (by rw[hm];exact ZU _ _)
theorem dA(hp:0<p)(i:Int):i.fmod p=i % p:=Int.fmod_eq_emod_of_nonneg i (by lia)
theorem xw{i:Int}(h0:0<=i)(h1:i<1000):sG 400 i:=sG.small (by decide) (by lia) h1
theorem I!(h:fJ p=true):gX p=true:=by unfold gX;rw[h,Bool.or_true]
theorem Bq{x y:ah}{r:List ah}:L2.lM (x::y::r) 1=some y:=L2.i_ (xs:=x::y::r) (j:=1) rfl
theorem fv{n:Int}(h:fJ p=true)(hn:¬ n % p=0)(st:af):∃g t,PM.inverse [.int p,.int n] st=.ok (.int t) (st++g)/\0<t/\t<p/\(t*n) % p=1:=by
 obtain⟨r1,r2⟩:=aJ h;obtain⟨g1,e⟩:=wx (I! h) st;have hp:¬ p=0:=by lia
 have e0:(p==0)=false:=by simpa using hp
 have e1:(n.fmod p==0)=false:=by rw[dA (by lia)];simpa using hn
 have a0:=Xe n hp;have a1:=W3 n (show 0<p by lia);obtain⟨g2,g,u,v,u1,v1,es,J⟩:=F_ (a:=n % p) (b:=p) (xw a0 (by lia)) (xw (by lia) (by lia)) (st++g1);have hg:g=1:=by
  obtain⟨x,_,ex⟩:=J.da;obtain⟨y,_,ey⟩:=J.db;rw[Wn,Xq]at ex ey;have n0:=J.n0;rcases X4 g 2 with q|q
  .rcases X4 g 1 with q'|q'
   .have:g=0:=by lia
    rw[this,Wn]at ey;lia
   .lia
  .have gl:g<=n % p:=by
    have xp:1<=x:=by
     rcases X4 x 1 with z|z
     .have:x*g<=0*g:=W' (by lia) (by lia);lia
     .exact z
    have:1*g<=x*g:=W' xp (by lia);lia
   exact absurd (by rw[ey];exact ZU _ _) (F? h q (by lia))
 subst hg;have t0:=Xe u hp;have t1:=W3 u (show 0<p by lia);have tn:(u % p*n) % p=1:=by
  have c:=J.c0;have k1:(u*(n % p)) % p=1:=by
   have:u*(n % p)=1+p*(-v):=by rw[X8,W9 p v];lia
   rw[this,Y9];exact V9 (by lia) (by lia)
  rw[X3,Yn u (Zu p)];rw[X3,Yn n (Zu p)]at k1;exact k1
 refine⟨g1++g2,u % p,?_,?_,t1,tn⟩
 .simp only[Bp]at es;rw[<-dA (show 0<p by lia)]at es;simp only[PM.inverse,bb,aj,ax,aL,a9,av,aH,aw,ay,ar,eO,bu,bS,bj,aR,aQ,az,aq,au,aG,bN,b!,aZ,bh,dc,aK,aD,Vs,VE,Vz,Vu,Vr,Nat.reduceSub,Vm,Vx,Nat.reduceAdd,e,e0,cj hp,e1,es,bK Bq,VU];rw[dA (by lia)]
 .rcases X4 0 (u % p)with q|q
  .exact q
  .have:u % p=0:=by lia
   rw[this,W8]at tn;simp at tn
theorem Mr{k:Int}(h0:0<=k)(h1:k<(ns.length:Int)):∃c:Int,L2.lM (ns.map ah.int) k=some (.int c):=by
 have hk:k.toNat<ns.length:=by lia
 refine⟨ns[k.toNat],?_⟩;have e:=L2.i_ (xs:=ns.map ah.int) (j:=k.toNat) (v:=.int ns[k.toNat]) (by rw[VM,Vp hk];rfl);rw[show((k.toNat:Nat):Int)=k by lia]at e;exact e
theorem jK{m:Int}(hm:0<m)(i:Int):0<=i.fmod m/\i.fmod m<m:=by rw[dA hm];exact⟨Xe _ (by lia),W3 _ hm⟩
theorem I?{j:Int}(h:0<j)(h1:j<2 ^ 64):Dz j:=by refine Dz.of (k:=64) (by lia) ?_ (by decide);show j.natAbs<2 ^ 64;lia
def dvP(n:Int)(u:ah):Bool:=match u with
 |.int b=>decide (b<n)&&(n.fmod b==0)
 |_=>false
def xU(n:Int):List ah:=(cO 2 30).filter (dvP n)
theorem Ja(n:Int)(x:Option ah)(st:af):dZ (λ_=>True) (aF 0) (j6 (dY (ag ltV bg bG)) (dY (ag jC (ag dX bG bg) cT))) bg (cO 2 30) [x,some (.int n)] st []=.ok (xU n) st:=by
 have:=h! (a:=aF 0) (c:=j6 (dY (ag ltV bg bG)) (dY (ag jC (ag dX bG bg) cT))) (e:=bg) (g:=λ_=>True) (st:=st) trivial (λτ=>∃x,τ=[x,some (.int n)]) (dvP n) id (cO 2 30) [x,some (.int n)] [] ⟨x,rfl⟩ ?_
 .rw[this,Vu,List.map_id];rfl
 .rintro u hu τ ⟨x,rfl⟩;simp only[cO,Wb,XH]at hu;obtain⟨i,hi,rfl⟩:=hu;have nz:¬ (2+(i:Int))=0:=by lia
  refine⟨_,rfl,⟨_,rfl⟩,?_,λ_=>rfl⟩;by_cases hb:2+(i:Int)<n
  .have e:decide (2+(i:Int)<n)=true:=VZ hb;simp only[aj,av,aH,aw,j_,bj,aR,aQ,iu,gK,dc,aK,aD,Vn,e,cj nz,dvP,Zd]
  .have e:decide (2+(i:Int)<n)=false:=VT hb;simp only[aj,av,aH,aw,mR,aR,aQ,iu,gK,aK,aD,Vn,e,dvP,Yo]
theorem m8{n:Nat}{k:Int}(h:ao st n=some (ns.map ah.int))(k0:0<=k)(k1:k<=1000000):
  ∃o,PM.bA [.loc n,.int k] st=.ok (.int o) st:=by
 have len:((List.map ah.int ns).length:Int)=(ns.length:Int):=by rw[Vq]
 have cp:EF 10 9:=by decide
 have tn:(10:Int) ^ Int.toNat 9=1000000000:=by decide
 have fin:∀c:Int,((decide (k<((List.map ah.int ns).length:Int))=false/\c=0)\/(decide (k<((List.map ah.int ns).length:Int))=true/\L2.lM (ns.map ah.int) k=some (.int c)))->∃o,PM.bA [.loc n,.int k] st=.ok (.int o) st:=by
  intro c hc;by_cases hb:(1000000000:Int)<(if c<0 then -c else c)
  .have e1:decide ((1000000000:Int)<(if c<0 then -c else c))=true:=VZ hb;refine⟨c,?_⟩;rcases hc with⟨h1,rfl⟩|⟨h1,h2⟩
   .simp only[PM.bA,bb,aj,ax,aL,gS,a9,av,aH,aw,ay,ar,bu,dC,bS,bH,bj,aR,aQ,az,aq,au,aG,bN,aZ,bh,a!,gK,fi,uQ,aK,aU,aD,Vs,VE,Vz,Vu,Vy,Vr,Vn,Vt,Nat.reduceSub,Vm,Vx,Nat.reduceAdd,bc h,h1,uP cp,tn,e1]
   .simp only[PM.bA,bb,aj,ax,aL,gS,a9,av,aH,aw,ay,ar,bu,dC,bH,bj,aR,aQ,az,aq,au,aG,aZ,bh,a!,gK,fi,uQ,aK,aU,aD,Vs,VE,Vz,Vu,Vy,Vr,Vn,Vt,Nat.reduceSub,Vm,Vx,Nat.reduceAdd,bc h,h1,bT h h2,uP cp,tn,e1]
  .have e1:decide ((1000000000:Int)<(if c<0 then -c else c))=false:=VT hb;have q1:=jK (m:=2147483647) (by decide) (c*48271+7919*k*k+104729*k+11);generalize hx:(c*48271+7919*k*k+104729*k+11).fmod 2147483647=x at q1;have q2:=jK (m:=2147483629) (by decide) (x*x);have q3:=jK (m:=2147483647) (by decide) ((x*x).fmod 2147483629*69621);generalize hy:((x*x).fmod 2147483629*69621).fmod 2147483647=y at q3;refine⟨(y*y).fmod 2147483587*2147483647+y,?_⟩;have m1:∀s,bZ (.int x) (.int x) s=.ok (.int (x*x)) s:=λs=>jo (by lia) (by lia);have m2:∀s,bZ (.int y) (.int y) s=.ok (.int (y*y)) s:=λs=>jo (by lia) (by lia);rcases hc with⟨h1,rfl⟩|⟨h1,h2⟩
   .simp only[PM.bA,bb,aj,ax,aL,a9,av,aH,aw,ay,ar,bu,bS,bH,bj,aR,aQ,az,aq,au,aG,bN,aZ,bh,a!,gE,gK,fi,uQ,aK,aU,aD,Vs,VE,Vz,Vu,Vy,Vr,Vn,Vt,Nat.reduceSub,Vm,Vx,Nat.reduceAdd,bc h,h1,uP cp,tn,e1,mul_r (j:=48271) (by decide) (by decide),jo (i:=7919) (by decide) (by decide),mul_r (j:=k) (by lia) (by lia),cj (j:=2147483647) (by decide),hx,m1,cj (j:=2147483629) (by decide),mul_r (j:=69621) (by decide) (by decide),hy,m2,cj (j:=2147483587) (by decide),mul_r (j:=2147483647) (by decide) (by decide)]
   .simp only[PM.bA,bb,aj,ax,aL,a9,av,aH,aw,ay,ar,bu,dC,bS,bH,bj,aR,aQ,az,aq,au,aG,bN,aZ,bh,a!,gE,gK,fi,uQ,aK,aU,aD,Vs,VE,Vz,Vu,Vy,Vr,Vn,Vt,Nat.reduceSub,Vm,Vx,Nat.reduceAdd,bc h,h1,bT h h2,uP cp,tn,e1,mul_r (j:=48271) (by decide) (by decide),jo (i:=7919) (by decide) (by decide),mul_r (j:=k) (by lia) (by lia),cj (j:=2147483647) (by decide),hx,m1,cj (j:=2147483629) (by decide),mul_r (j:=69621) (by decide) (by decide),hy,m2,cj (j:=2147483587) (by decide),mul_r (j:=2147483647) (by decide) (by decide)]
 by_cases hk:k<(ns.length:Int)
 .obtain⟨c,hc⟩:=Mr k0 hk;exact fin c (.inr ⟨VZ (by rw[len];exact hk),hc⟩)
 .exact fin 0 (.inl ⟨VT (by rw[len];exact hk),rfl⟩)
def UE(μ:MN.Env):Nat:=match(μ[1]?:Option (Option ah)) with
 |some (some (ah.int n))=>n.toNat
 |_=>0
theorem gF{g:af->Prop}{a:AS}{e:ME}{st:af}(hg:g st)(I:MN.Env->Prop)(f:Int->ah):∀(ns:_a)(τ:MN.Env)(ys:List ah),I τ ->
  (∀i∈ns,∀τ,I τ->∃τ1,a (.int i) τ=some τ1/\I τ1/\e τ1 st=.ok (f i) st)->dZ g a bI e (ns.map ah.int) τ st ys=.ok (ys++ns.map f) st
 |[],τ,ys,_,_=>by rw[VE];unfold dZ;rw[VC hg];simp
 |n::ns,τ,ys,hI,hs=>by obtain⟨τ1,h1,h2,h3⟩:=hs n VV τ hI;have ih:=gF hg I f ns τ1 (ys++[f n]) h2 λi hi=>hs i (VP n hi);rw[Vs];unfold dZ;rw[VC hg,h1];dsimp only[bI];rw[h3];dsimp only;rw[ih];simp
def fw(lo:Int)(n:Nat):_a:=(List.range n).map λ(i:Nat)=>lo+(i:Int)
theorem m9(lo:Int)(n:Nat):cO lo n=(fw lo n).map ah.int:=by unfold cO fw;rw[V_];rfl
theorem AN{i:Int}{n:Nat}(h:i∈fw lo n):lo<=i/\i<lo+n:=by obtain⟨j,hj,rfl⟩:=Wb.mp h;have:=XH.mp hj;lia
theorem aI(ns:_a):(ns.map ah.int).length=ns.length:=Vq ..
theorem at_getD{i:Int}(h0:0<=i)(h1:i<(ns.length:Int)):L2.lM (ns.map ah.int) i=some (.int (ns.getD i.toNat 0)):=by
 have hk:i.toNat<ns.length:=by lia
 have e:=L2.i_ (xs:=ns.map ah.int) (j:=i.toNat) (v:=.int ns[i.toNat]) (by rw[VM,Vp hk];rfl);rw[show((i.toNat:Nat):Int)=i by lia]at e;rw[e,VF,Vp hk];rfl
theorem iO(hp:fJ p=true):¬ p=0:=by have:=aJ hp;lia
theorem gY(hp:fJ p=true)(st:af):∃g,PM.d9 [.int p] st=.ok .cH (st++g):=by
 obtain⟨g,e⟩:=jJ p st;have hr:gX p=true:=by unfold gX;rw[hp,Bool.or_true]
 rw[hr]at e;have hz:(p==0)=false:=by simpa using iO hp
 exact⟨g,by simp only[PM.d9,bb,aj,ax,yA,av,aH,aw,f?,qD,ay,ar,bS,bj,aR,aQ,fW,kI,az,aq,au,bN,bh,dc,aK,Vs,VE,Vz,Vu,Vr,Nat.reduceSub,Vm,Vx,Nat.reduceAdd,Wi,e,hz]⟩
def cm(ns:_a):_a:=(ns.reverse.dropWhile (· == 0)).reverse
theorem js(ns:_a):cm (ns++[0])=cm ns:=by simp[cm]
theorem ij{n:Int}(h:(n==0)=false)(ns:_a):cm (ns++[n])=ns++[n]:=by simp[cm,List.dropWhile_cons,h]
def Cut(ns:_a):Prop:=cm ns=ns
theorem ju(ns:_a):ns=[]\/∃ms x,ns=ms++[x]:=by
 rcases List.eq_nil_or_concat ns with h|⟨ms,x,h⟩
 .exact .inl h
 .exact .inr ⟨ms,x,by rw[h,List.concat_eq_append]⟩
theorem t!:∀(k:Nat)(ns:_a),ns.length=k->(cm ns).length<=k/\Cut (cm ns)/\(∀P:Int->Prop,(∀n∈ns,P n)->∀n∈cm ns,P n)
 |0,ns,h=>by have:ns=[]:=Wh h;subst this;exact⟨VD _,rfl,λP hP=>hP⟩
 |k+1,ns,h=>by
  rcases ju ns with rfl|⟨ms,x,rfl⟩
  .exact⟨We _,rfl,λP hP=>hP⟩
  .have hm:ms.length=k:=by rw[Vv,V3]at h;lia
   cases hx:x==0 with
   |true=>
    have:x=0:=by simpa using hx
    subst this;rw[js];obtain⟨h1,h2,h3⟩:=t! k ms hm;exact⟨by lia,h2,λP hP=>h3 P λn hn=>hP n (WB _ hn)⟩
   |false=>
    rw[ij hx];exact⟨by lia,by unfold Cut;rw[ij hx],λP hP=>hP⟩
theorem gZ(ns:_a):(cm ns).length<=ns.length:=(t! _ ns rfl).1
theorem yH(ns:_a):Cut (cm ns):=(t! _ ns rfl).2.1
theorem D5{P:Int->Prop}(h:∀n∈ns,P n):∀n∈cm ns,P n:=(t! _ ns rfl).2.2 P h
def gv(L:Nat)(s:af):Nat:=((ao s L).getD []).length
abbrev rrT:MT:=j6 (dY (ag sO (ak bF (aa cQ ai)) cT)) (dY (ag jC (ag bQ cQ (iK cI)) cT))
abbrev rrB:MB:=fg (HY B1 cQ)
theorem Ms(x y:Option ah)(st:af)(ns:_a):∃μ' aC,dM rrT rrB [x, y, qL st.length] (st++[.lst (ns.map ah.int)])=.nx μ' aC/\μ'=[x, y, qL st.length]/\aC=st++[.lst ((cm ns).map ah.int)]:=by
 obtain⟨μ',aC,e,rfl,ms,rfl,hm⟩:=gC (t:=rrT) (body:=rrB)
  (λμ s=>μ=[x, y, qL st.length]/\∃ms:_a,s=st++[.lst (ms.map ah.int)]/\cm ms=cm ns) (λ_ s=>gv st.length s)
  (λμ s=>μ=[x, y, qL st.length]/\∃ms:_a,s=st++[.lst (ms.map ah.int)]/\ms=cm ns)
  (by
   rintro μ s ⟨rfl,ms,rfl,hm⟩;rcases ju ms with rfl|⟨ks,k,rfl⟩
   .have h0:decide ((0:Int)<(([]:List ah).length:Int))=false:=rfl;refine .inl ⟨_,?_,rfl,[],rfl,hm⟩;simp only[aj,av,aH,aw,ay,ar,bj,aR,aQ,iu,az,aq,au,fi,aU,aD,VE,Vx,bc (bV st []),h0];rfl
   .have em:(ks++[k]).map ah.int=ks.map ah.int++[.int k]:=by simp
    rw[em];have h0:decide ((0:Int)<((ks.map ah.int++[ah.int k]).length:Int))=true:=VZ (by rw[Vv,V3];lia);have hix:=bT (bV st (ks.map ah.int++[.int k])) (L2.GY (ks.map ah.int) (.int k));have D6:rrT [x, y, qL st.length] (st++[.lst (ks.map ah.int++[.int k])])=.ok (k==0) (st++[.lst (ks.map ah.int++[.int k])]):=by simp only[aj,av,aH,aw,j_,ay,ar,bj,aR,aQ,iu,az,aq,au,dz,gk,fi,dc,aU,aD,bc (bV st (ks.map ah.int++[.int k])),h0,hix]
    cases hk:k==0 with
    |false=>
     rw[hk]at D6;rw[ij hk]at hm;exact .inl ⟨_,D6,rfl,ks++[k],by rw[em],hm⟩
    |true=>
     rw[hk]at D6;have hk0:k=0:=by simpa using hk
     subst hk0;rw[js]at hm;refine .inr ⟨_,_,st++[.lst (ks.map ah.int)],D6,.inl ?_,⟨rfl,ks,rfl,hm⟩,?_⟩
     .simp only[aj,ax,eO,b!,aU,aD,Ql,Ue (bf st _),Qm (bf st _),uV]
     .unfold gv;rw[bV,bV];show(ks.map ah.int).length<(ks.map ah.int++[ah.int 0]).length;rw[Vv,V3];lia)
  [x, y, qL st.length] (st++[.lst (ns.map ah.int)]) ⟨rfl,ns,rfl,rfl⟩
 exact⟨_,_,e,rfl,by rw[hm]⟩
theorem dq(hp:¬ p=0){n:Nat}(h:ao st n=some (ns.map ah.int))(hl:ns.length<=sizeLine):
  PM.cF [.int p,.loc n] st=.ok (.loc st.length) (st++[.lst ((cm (ns.map (·.fmod p))).map ah.int)]):=by
 have hc:=gF (g:=λaC=>ao aC n=some (ns.map ah.int)) (a:=aF 0) (e:=ag dX bg bG) (st:=st) h (λτ=>∃z,τ=[z,some (.int p)]) (λi=>.int (i.fmod p)) ns [none,some (.int p)] [] ⟨_,rfl⟩ (by
  rintro i _ τ ⟨z,rfl⟩;exact⟨_,rfl,⟨_,rfl⟩,by simp only[aj,av,aH,aw,aK,aD,Vn,cj hp]⟩)
 rw[Vu,show(ns.map λi=>ah.int (i.fmod p))=(ns.map (·.fmod p)).map ah.int from by rw[V_];rfl]at hc;have gz:iN 1 [0] [some (ah.int p),some (ah.loc n),none]=[none,some (.int p)]:=rfl;have hz:(ns.map ah.int).length<=sizeLine:=by rw[aI];exact hl
 rw[VB]at hz;obtain⟨μ',aC,e,rfl,rfl⟩:=Ms (some (.int p)) (some (.loc n)) st (ns.map (·.fmod p));simp only[PM.cF,bb,aj,ax,aL,a9,bu,bH,gJ,eR,aG,aZ,a!,dj,ej,aU,aD,Vs,VE,Vz,Vu,Vy,Vr,Vn,Vt,Nat.reduceSub,Vm,Vx,Nat.reduceAdd,VB,dG h,gz,hc,VC hz,e]
theorem t?{n:Nat}(h:j<n):L2.zU n (j:Int)=some j:=by unfold L2.zU;rw[VC (by lia),VC (by lia)];simp
def Cg(p a b:Int):Prop:=∃k,a=b+p*k
theorem Cg.refl(p a:Int):Cg p a a:=⟨0,by rw[Wn,Xq]⟩
theorem Cg.symm{a b:Int}(h:Cg p a b):Cg p b a:=by obtain⟨k,rfl⟩:=h;exact⟨-k,by rw[X8];lia⟩
theorem Cg.trans{a b c:Int}(h:Cg p a b)(h':Cg p b c):Cg p a c:=by obtain⟨k,rfl⟩:=h;obtain⟨l,rfl⟩:=h';exact⟨l+k,by rw[Xm];lia⟩
theorem Cg.add{a b c d:Int}(h:Cg p a b)(h':Cg p c d):Cg p (a+c) (b+d):=by obtain⟨k,rfl⟩:=h;obtain⟨l,rfl⟩:=h';exact⟨k+l,by rw[Xm];lia⟩
theorem Cg.Jb{a b:Int}(h:Cg p a b)(c:Int):Cg p (a*c) (b*c):=by obtain⟨k,rfl⟩:=h;exact⟨k*c,by rw[YV,Wx]⟩
theorem Cg.Cm{a b:Int}(h:Cg p a b)(c:Int):Cg p (c*a) (c*b):=by rw[W9 c a,W9 c b];exact h.Jb c
theorem Cg.neg{a b:Int}(h:Cg p a b):Cg p (-a) (-b):=by obtain⟨k,rfl⟩:=h;exact⟨-k,by rw[X8];lia⟩
theorem Cg.mod(hp:0<p)(a:Int):Cg p (a.fmod p) a:=by refine⟨-(a / p),?_⟩;rw[dA hp,X8];have:=Wl a p;lia
theorem Cg.eq{a b:Int}(hp:0<p)(h:Cg p a b):a.fmod p=b.fmod p:=by obtain⟨k,rfl⟩:=h;rw[dA hp,dA hp,Y9]
theorem d?{a:Int}(h0:0<=a)(h1:a<p):a.fmod p=a:=by rw[dA (by lia)];exact V9 h0 h1
def Mt(ns:_a)(lo hi:Option Int):_a:=(ns.drop (HT.gM ns.length 0 lo)).take (HT.gM ns.length ns.length hi-HT.gM ns.length 0 lo)
theorem Ga(ns:_a)(lo hi:Option Int):wm (ns.map ah.int) lo hi=(Mt ns lo hi).map ah.int:=by unfold wm Mt;rw[aI,List.map_take,List.map_drop]
theorem og{α:Type}{g:af->Prop}{a:AS}{e:ME}{st:af}(hg:g st)(I:MN.Env->Prop)(enc f:α->ah):∀(xs:List α)(τ:MN.Env)(ys:List ah),I τ ->
  (∀x∈xs,∀τ,I τ->∃τ1,a (enc x) τ=some τ1/\I τ1/\e τ1 st=.ok (f x) st)->dZ g a bI e (xs.map enc) τ st ys=.ok (ys++xs.map f) st
 |[],τ,ys,_,_=>by rw[VE];unfold dZ;rw[VC hg];simp
 |n::ns,τ,ys,hI,hs=>by obtain⟨τ1,h1,h2,h3⟩:=hs n VV τ hI;have ih:=og hg I enc f ns τ1 (ys++[f n]) h2 λi hi=>hs i (VP n hi);rw[Vs];unfold dZ;rw[VC hg,h1];dsimp only[bI];rw[h3];dsimp only;rw[ih];simp
def pr(q:Int×Int):ah:=.tup [.int q.1,.int q.2]
theorem qO:∀(as bs:_a),mH (as.map ah.int) (bs.map ah.int)=(as.zip bs).map pr
 |[],_=>by simp[mH]
 |_::_,[]=>by simp[mH]
 |a::as,b::bs=>by simp only[Vs,mH,Zo,qO as bs];rfl
theorem D7(k:Nat):xb k [ah.int 0]=(List.replicate k (0:Int)).map ah.int:=by
 unfold xb
 induction k with
 |zero=>rfl
 |succ k ih=>rw[Vy,Vy,Xa,ih];rfl
theorem qP(ns:_a)(k j:Nat):(ns++List.replicate k 0).getD j 0=ns.getD j 0:=by
 rw[VF,VF];by_cases h:j<ns.length
 .rw[V6 h]
 .rw[V4 (by lia),V1 (l:=ns) (by lia),Wz];split<;>rfl
theorem iP{n:Nat}{L:Int}(h:ao st n=some (ns.map ah.int))(h0:(ns.length:Int)<=L)(h1:L<=1000000):
  ∃g k,PM.d_ [.loc n,.int L] st=.ok (.loc k) (st++g)/\st.length<=k/\(st++g)[k]?=some (.lst ((ns++List.replicate (L-ns.length).toNat 0).map ah.int)):=by
 have c1:=tZ h;have h2:=bP (bP h [.lst (ns.map ah.int)]) [.lst [.int 0]];have m1:=uU (st:=st++[.lst (ns.map ah.int)]++[.lst [.int 0]]) (n:=(st++[aS.lst (ns.map ah.int)]).length) (us:=[.int 0]) (k:=L-ns.length) (bf _ _) (by lia) (by lia) (by rw[VB];simp;lia);rw[D7]at m1;have a1:=oV (st:=st++[aS.lst (ns.map ah.int)]++[aS.lst [.int 0]]++[aS.lst ((List.replicate (L-ns.length).toNat (0:Int)).map ah.int)]) (n:=st.length) (m:=(st++[aS.lst (ns.map ah.int)]++[aS.lst [.int 0]]).length)
  (us:=ns.map ah.int) (ws:=(List.replicate (L-ns.length).toNat (0:Int)).map ah.int) (cR (cR (bf st (ns.map ah.int)) _) _) (bf _ _) (by rw[aI,aI,VY,VB];lia)
 rw[<-Ws]at a1;refine⟨[.lst (ns.map ah.int)]++[.lst [.int 0]]++[.lst ((List.replicate (L-ns.length).toNat (0:Int)).map ah.int)]++[.lst ((ns++List.replicate (L-ns.length).toNat 0).map ah.int)],(st++[aS.lst (ns.map ah.int)]++[aS.lst [.int 0]]++[aS.lst ((List.replicate (L-ns.length).toNat (0:Int)).map ah.int)]).length,?_,by simp only[Vv];lia,?_⟩
 .simp only[PM.d_,bb,aj,ax,a9,av,aH,aw,ay,ar,j!,bu,bj,az,aq,ic,au,aZ,fI,aK,aU,aD,Vs,VE,Vz,Vu,Vr,Nat.reduceSub,Vm,Vx,Nat.reduceAdd,VB,Nat.reduceLeDiff,↓reduceIte,c1,bc h2,aI,m1,a1];simp only[VU,Vz,Vu]
 .simp only[<-VU];exact bf _ _
def i'(as bs:_a)(f:Int):_a:=(fw 0 (max as.length bs.length)).map λk=>as.getD k.toNat 0+f*bs.getD k.toNat 0
theorem QN(as bs:_a)(f:Int){l:Nat}(hk:as.length+k=max as.length bs.length)(hl:bs.length+l=max as.length bs.length):
  ((as++List.replicate k 0).zip (bs++List.replicate l 0)).map (λ(q:Int×Int)=>q.1+f*q.2)=i' as bs f:=by
 refine Yl λj=>?_;unfold i' fw;rw[V_,VM,VM];by_cases hj:j<max as.length bs.length
 .rw[Wd hj];have e1:(as++List.replicate k 0)[j]?=some ((as++List.replicate k 0).getD j 0):=by rw[VF,Vp (by rw[Vv,VY];lia)];rfl
  have e2:(bs++List.replicate l 0)[j]?=some ((bs++List.replicate l 0).getD j 0):=by rw[VF,Vp (by rw[Vv,VY];lia)];rfl
  have e3:((as++List.replicate k 0).zip (bs++List.replicate l 0))[j]?=some ((as++List.replicate k 0).getD j 0,(bs++List.replicate l 0).getD j 0):=by rw[List.getElem?_zip_eq_some];exact⟨e1,e2⟩
  rw[e3,qP,qP];show some (as.getD j 0+f*bs.getD j 0)=some (as.getD (0+(j:Int)).toNat 0+f*bs.getD (0+(j:Int)).toNat 0);rw[show(0+(j:Int)).toNat=j by lia]
 .rw[V1 (l:=List.range _) (by rw[VW];lia),V1 (by rw[XX,Vv,Vv,VY,VY];lia)];rfl
theorem u?(as bs:_a)(f:Int):(i' as bs f).length=max as.length bs.length:=by unfold i' fw;rw[Vq,Vq,VW]
theorem m_{f:Int}(hp:¬ p=0){n:Nat}(h1:ao st n=some (as.map ah.int))(h2:ao st m=some (bs.map ah.int))(sL:as.length<=100000)(tP:bs.length<=100000)(f0:-(2 ^ 64)<f)(f1:f<2 ^ 64):
  ∃g k,PM.bB [.int p,.loc n,.loc m,.int f] st=.ok (.loc k) (st++g)/\st.length<=k/\(st++g)[k]?=some (.lst ((cm ((i' as bs f).map (·.fmod p))).map ah.int)):=by
 have mx:(if(bs.length:Int)>(as.length:Int) then(bs.length:Int) else(as.length:Int))=((max as.length bs.length:Nat):Int):=by split<;>lia
 obtain⟨g1,k1,e1,o1,q1⟩:=iP (L:=((max as.length bs.length:Nat):Int)) h1 (by lia) (by lia);obtain⟨g2,k2,e2,o2,q2⟩:=iP (L:=((max as.length bs.length:Nat):Int)) (bP h2 g1) (by lia) (by lia);have q1:=cR q1 g2;revert e2 q1 q2;generalize jR:st++g1++g2=s2;intro e2 q2 q1;have hk:as.length+(((max as.length bs.length:Nat):Int)-as.length).toNat=max as.length bs.length:=by lia
 have hl:bs.length+(((max as.length bs.length:Nat):Int)-bs.length).toNat=max as.length bs.length:=by lia
 have le:=QN as bs f hk hl;have zz:=Ip (aB q1) (aB q2);rw[qO]at zz;generalize (as++List.replicate (((max as.length bs.length:Nat):Int)-as.length).toNat 0)=A at q1 q2 zz le;generalize (bs++List.replicate (((max as.length bs.length:Nat):Int)-bs.length).toNat 0)=B at q1 q2 zz le;have hc:=og (g:=λbX=>ao bX k1=some (A.map ah.int)/\ao bX k2=some (B.map ah.int)) (a:=iL [aF 0,aF 1]) (e:=ag cU bg (ag bZ cQ bG)) (st:=s2) ⟨aB q1,aB q2⟩ (λτ=>∃x y,τ=[x, y, qI f]) pr (λ(q:Int×Int)=>.int (q.1+f*q.2)) (A.zip B) [qn, qn, qI f] [] ⟨_,_,rfl⟩ (by
  rintro⟨a,b⟩ _ τ ⟨x,y,rfl⟩;exact⟨_,rfl,⟨_,_,rfl⟩,by simp only[aj,av,aH,aw,gE,aK,aD,Vn,Vt,jo (i:=f) f0 f1]⟩)
 rw[Vu,show((A.zip B).map λ(q:Int×Int)=>ah.int (q.1+f*q.2))=((A.zip B).map λ(q:Int×Int)=>q.1+f*q.2).map ah.int from by rw[V_];rfl,le]at hc;have gz:∀x y z w:Option ah,iN 2 [3] [x, y, z, qI f, w, qL k1]=[qn, qn, qI f]:=λ_ _ _ _=>rfl;have hz:((A.zip B).map pr).length<=sizeLine:=by have e:=X5 List.length le;rw[Vq,u?]at e;rw[Vq,e,VB];lia
 rw[VB]at hz;have rr:=dq hp (st:=s2++[.lst ((i' as bs f).map ah.int)]) (bV s2 _) (by rw[u?,VB];lia);refine⟨g1++g2++[.lst ((i' as bs f).map ah.int)]++[.lst ((cm ((i' as bs f).map (·.fmod p))).map ah.int)],(s2++[aS.lst ((i' as bs f).map ah.int)]).length,?_,by rw[<-jR];simp only[Vv];lia,?_⟩
 .rw[show st++(g1++g2++[aS.lst ((i' as bs f).map ah.int)]++[.lst ((cm ((i' as bs f).map (·.fmod p))).map ah.int)])=s2++[aS.lst ((i' as bs f).map ah.int)]++[.lst ((cm ((i' as bs f).map (·.fmod p))).map ah.int)]from by rw[<-jR];simp only[VU]];simp only[PM.bB,bb,aj,ax,aL,a9,ay,ar,bu,bH,gJ,eR,az,aq,au,aG,aZ,a!,dj,uO,aK,aU,aD,Vs,VE,Vz,Vu,Vy,Vr,Vn,Vt,Nat.reduceSub,Vm,Vx,Nat.reduceAdd,VB,Iq,bc h1,bc h2,aI,mx,e1,e2,zz,gz,hc,VC hz,rr]
 .rw[show st++(g1++g2++[aS.lst ((i' as bs f).map ah.int)]++[.lst ((cm ((i' as bs f).map (·.fmod p))).map ah.int)])=s2++[aS.lst ((i' as bs f).map ah.int)]++[.lst ((cm ((i' as bs f).map (·.fmod p))).map ah.int)]from by rw[<-jR];simp only[VU]];exact bf _ _
def oy(as bs:_a):Nat->Nat->Int
 |0,_=>0
 |i+1,k=>oy as bs i k+(if i<=k then as.getD i 0*bs.getD (k-i) 0 else 0)
theorem m?(h:ns.length<=k):ns.getD k 0=0:=by rw[VF,V1 h];rfl
theorem AO(as bs:_a)(k:Nat):∀i,i+bs.length<=k+1->oy as bs i k=0
 |0,_=>rfl
 |i+1,h=>by show oy as bs i k+(if i<=k then as.getD i 0*bs.getD (k-i) 0 else 0)=0;rw[AO as bs k i (by lia),m? (ns:=bs) (by lia),Wn];split<;>rfl
theorem AQ(bs:_a)(k:Nat):∀i,oy [] bs i k=0
 |0=>rfl
 |i+1=>by show oy [] bs i k+(if i<=k then([]:_a).getD i 0*bs.getD (k-i) 0 else 0)=0;rw[AQ bs k i,m? (ns:=[]) (We _),W8];split<;>rfl
def bW(as bs:_a):_a:=(fw 0 (as.length+bs.length-1)).map λk=>oy as bs as.length k.toNat
theorem xx(as bs:_a):(bW as bs).length=as.length+bs.length-1:=by unfold bW fw;rw[Vq,Vq,VW]
theorem D8{n:Nat}{f:Nat->Int}(hl:R.length=n)(h:∀k,k<n->R.getD k 0=f k):R=(fw 0 n).map λk=>f k.toNat:=by
 refine Yl λj=>?_;unfold fw;rw[V_,VM];by_cases hj:j<n
 .rw[Wd hj,Vp (by lia)];have:=h j hj;rw[VF,Vp (by lia)]at this;show some _=some (f (0+(j:Int)).toNat);rw[show(0+(j:Int)).toNat=j by lia,<-this];rfl
 .rw[V1 (by lia),V1 (by rw[VW];lia)];rfl
theorem ve{v:Int}(hk:k<R.length)(j:Nat):(R.set k v).getD j 0=if j=k then v else R.getD j 0:=by
 rw[VF,VF];by_cases h:j=k
 .subst h;rw[Wk hk,VC rfl];rfl
 .rw[WT (λz=>h z.symm),VI h]
theorem iy{i:Int}(hi:i=(k:Int))(hk:k<R.length):L2.lM (R.map ah.int) i=some (.int (R.getD k 0)):=by subst hi;have:=at_getD (ns:=R) (i:=(k:Int)) (by lia) (by lia);rw[WR]at this;exact this
abbrev E5:MB:=xk Fo dJ (ag cU fT nW) (ag bZ j4 uD)
theorem Cn{n L:Nat}{R0:_a}{a:Int}{s:af}{x7:Option ah}(hm:ao (s++[.lst (R0.map ah.int)]) m=some (bs.map ah.int))(hms:m<s.length)(hL:L=s.length)(ha:-(2 ^ 64)<a/\a<2 ^ 64)(hl:i+bs.length<=R0.length):
  ∃(R:_a)(x6' x7':Option ah),forL (λbX=>ao bX m=some (bs.map ah.int)) (iL [aF 6,aF 7]) E5 (iU 0 (bs.map ah.int)) [qI p, qL n, qL m, qL L, qI i, qI a, x6, x7] (s++[.lst (R0.map ah.int)])
   = .nx [qI p, qL n, qL m, qL L, qI i, qI a, x6', x7'] (s++[.lst (R.map ah.int)])/\R.length=R0.length/\∀k,R.getD k 0=R0.getD k 0+(if i<=k then a*bs.getD (k-i) 0 else 0):=by
 subst hL;have hmm:∀R:_a,ao (s++[.lst (R.map ah.int)]) m=some (bs.map ah.int):=λR=>by have h:=hm;unfold ao at h⊢;rw[V6 hms]at h⊢;exact h
 obtain⟨μ',aC,e,R,rfl,⟨y6,y7,rfl⟩,hR,hv⟩:=dN (g:=λbX=>ao bX m=some (bs.map ah.int)) (a:=iL [aF 6,aF 7]) (body:=E5)
  (λj μ s'=>∃R:_a,s'=s++[.lst (R.map ah.int)]/\(∃x6 x7,μ=[qI p, qL n, qL m, qL s.length, qI i, qI a, x6, x7])/\R.length=R0.length/\∀k,R.getD k 0=R0.getD k 0+(if i<=k/\k<i+j then a*bs.getD (k-i) 0 else 0))
  (iU 0 (bs.map ah.int)) 0 [qI p, qL n, qL m, qL s.length, qI i, qI a, x6, x7] (s++[.lst (R0.map ah.int)])
  (by
   rintro j u μ s' hu ⟨R,rfl,⟨x6,x7,rfl⟩,hR,hv⟩;rw[V8]at hv⊢;refine⟨hmm R,?_⟩;obtain⟨w,hw,rfl⟩:=jh _ 0 j u hu;rw[V8];have hj:j<bs.length:=by have:=bx hw;rw[aI]at this;exact this
   have ew:w=.int (bs.getD j 0):=by rw[VM,Vp hj]at hw;rw[<-VR hw,VF,Vp hj];rfl
   subst ew;have hk:i+j<R.length:=by lia
   have gx:=Im (aB (bf s (R.map ah.int))) (iy (R:=R) (i:=(i:Int)+(j:Int)) (k:=i+j) (by lia) hk);have sx:=tY (v:=.int (R.getD (i+j) 0+a*bs.getD j 0)) (k:=(i:Int)+(j:Int)) (j:=i+j) (bf s (R.map ah.int)) (by rw[aI];have:=t? hk;rw[show(i:Int)+(j:Int)=((i+j:Nat):Int) by lia];exact this);rw[uV,<-List.map_set]at sx;refine⟨[some (.int p),some (.loc n),some (.loc m),some (.loc s.length),some (.int i),some (.int a),some (.int j),some (.int (bs.getD j 0))],rfl,[qI p, qL n, qL m, qL s.length, qI i, qI a, qI j, qI (bs.getD j 0)],s++[.lst ((R.set (i+j) (R.getD (i+j) 0+a*bs.getD j 0)).map ah.int)],.inl ?_,R.set (i+j) (R.getD (i+j) 0+a*bs.getD j 0),rfl,⟨_,_,rfl⟩,by rw[Wu];exact hR,λk=>?_⟩
   .simp only[aj,ax,av,aH,aw,gE,aK,aU,aD,pP,DT,Uh,ND,NF,NG,NH,Io,gx,jo (i:=a) ha.1 ha.2,sx]
   .rw[ve hk];by_cases UG:k=i+j
    .subst UG;rw[VC rfl,hv,VI (by lia),VC (by lia),show i+j-i=j by lia];lia
    .rw[VI UG,hv];congr 1;by_cases h1:i<=k/\k<i+j
     .rw[VC h1,VC (by lia)]
     .rw[VI h1,VI (by lia)])
  (λμ s'⟨R,hs,_⟩=>by rw[hs];exact hmm R)
  ⟨R0,rfl,⟨_,_,rfl⟩,rfl,λk=>by rw[VI (by lia),Xq]⟩
 refine⟨R,y6,y7,e,hR,λk=>?_⟩;rw[hv,V8,h_,aI];congr 1;by_cases h1:i<=k
 .by_cases h2:k<i+bs.length
  .rw[VC ⟨h1,h2⟩,VC h1]
  .rw[VI (by lia),VC h1,m? (by lia),Wn]
 .rw[VI (by lia),VI h1]
theorem vf(hp:¬ p=0){n:Nat}(h1:ao st n=some (as.map ah.int))(h2:ao st m=some (bs.map ah.int))(sL:as.length<=100000)(tP:bs.length<=100000)(ha:∀a∈as,-(2 ^ 64)<a/\a<2 ^ 64):
  ∃g k,PM.c! [.int p,.loc n,.loc m] st=.ok (.loc k) (st++g)/\st.length<=k/\(st++g)[k]?=some (.lst ((if as=[]\/bs=[] then[]else cm ((bW as bs).map (·.fmod p))).map ah.int)):=by
 by_cases hea:as=[]
 .subst hea;refine⟨[.lst []],st.length,?_,VD _,?_⟩
  .have z:((([]:_a).length:Int)==0)=true:=rfl;simp only[PM.c!,bb,aj,av,aH,aw,ay,ar,bj,aR,aQ,fW,az,aq,au,aG,bh,dc,aU,aD,Vs,VE,Vz,Vu,Vy,Vr,Nat.reduceSub,Vm,Vx,Nat.reduceAdd,bc h1,aI,z];rfl
  .rw[VC (.inl rfl)];exact bf st []
 have ha0:0<as.length:=by
  rcases YC as.length with z|z
  .exact absurd (Wh z) hea
  .exact z
 have za:((as.length:Int)==0)=false:=by simp;lia
 by_cases heb:bs=[]
 .subst heb;refine⟨[.lst []],st.length,?_,VD _,?_⟩
  .have z:((([]:_a).length:Int)==0)=true:=rfl;simp only[PM.c!,bb,aj,ax,av,aH,aw,f?,ay,ar,bj,aR,aQ,fW,az,aq,au,aG,bh,dc,aU,aD,Vs,VE,Vz,Vu,Vy,Vr,Nat.reduceSub,Vm,Vx,Nat.reduceAdd,bc h1,bc h2,aI,za,z];rfl
  .rw[VC (.inr rfl)];exact bf st []
 have QO:0<bs.length:=by
  rcases YC bs.length with z|z
  .exact absurd (Wh z) heb
  .exact z
 have zb:((bs.length:Int)==0)=false:=by simp;lia
 rw[VI (by rintro(z|z);exact hea z;exact heb z)];have m1:=uU (st:=st++[.lst [.int 0]]) (n:=st.length) (us:=[.int 0]) (k:=(as.length:Int)+(bs.length:Int)-1) (bf _ _) (by lia) (by lia) (by rw[VB];simp;lia);rw[D7,show((as.length:Int)+(bs.length:Int)-1).toNat=as.length+bs.length-1 by lia]at m1;have Qz:=bP h1 [.lst [.int 0]];have Kh:=bP h2 [.lst [.int 0]];have q1:=NI Qz;have q2:=NI Kh;have xT:st++[aS.lst [.int 0]]=st++[aS.lst [.int 0]]:=rfl;revert m1 Qz Kh q1 q2;generalize hs:st++[aS.lst [.int 0]]=s;intro m1 Qz Kh q1 q2;have k1:=bc (bP h1 [.lst [.int 0]]);have k2:=bc (bP h2 [.lst [.int 0]]);rw[hs]at k1 k2;obtain⟨μ',aC,e,R,rfl,⟨y4,y5,y6,y7,rfl⟩,hR,hv⟩:=dN (g:=λbX=>ao bX n=some (as.map ah.int)) (a:=iL [aF 4,aF 5]) (body:=iM (jU (aa cQ ai)) (iL [aF 6,aF 7]) E5)
  (λi μ s'=>∃R:_a,s'=s++[.lst (R.map ah.int)]/\(∃x4 x5 x6 x7,μ=[qI p, qL n, qL m, qL s.length, x4, x5, x6, x7])/\R.length=as.length+bs.length-1/\∀k,R.getD k 0=oy as bs i k)
  (iU 0 (as.map ah.int)) 0 [qI p, qL n, qL m, qL s.length, qn, qn, qn, qn] (s++[.lst ((List.replicate (as.length+bs.length-1) (0:Int)).map ah.int)])
  (by
   rintro i u μ s' hu ⟨R,rfl,⟨x4,x5,x6,x7,rfl⟩,hR,hv⟩;rw[V8]at hv⊢;refine⟨bP Qz _,?_⟩;obtain⟨w,hw,rfl⟩:=jh _ 0 i u hu;rw[V8];have hi:i<as.length:=by have:=bx hw;rw[aI]at this;exact this
   have ew:w=.int (as.getD i 0):=by rw[VM,Vp hi]at hw;rw[<-VR hw,VF,Vp hi];rfl
   subst ew;have hai:as.getD i 0∈as:=by rw[VF,Vp hi];exact X6 hi
   obtain⟨R',z6,z7,e',hR',hv'⟩:=Cn (p:=p) (n:=n) (m:=m) (L:=s.length) (bs:=bs) (R0:=R) (i:=i) (a:=as.getD i 0) (s:=s) (x6:=x6) (x7:=x7) (bP Kh _) q2 rfl (ha _ hai) (by lia);refine⟨[some (.int p),some (.loc n),some (.loc m),some (.loc s.length),some (.int i),some (.int (as.getD i 0)),x6,x7],rfl,[qI p, qL n, qL m, qL s.length, qI i, qI (as.getD i 0), z6, z7],s++[.lst (R'.map ah.int)],.inl ?_,R',rfl,⟨_,_,_,_,rfl⟩,by lia,λk=>?_⟩
   .simp only[aj,ax,ay,ar,iW,az,aq,gm,aU,aD,pQ,uT (bP Kh [.lst (R.map ah.int)]),e']
   .rw[hv',hv];rfl)
  (λμ s'⟨R,LZ,_⟩=>by rw[LZ];exact bP Qz _)
  ⟨List.replicate (as.length+bs.length-1) 0,rfl,⟨_,_,_,_,rfl⟩,VY,λk=>by
   rw[VF,Wz];split<;>rfl⟩
 rw[V8,h_,aI]at hv;have hRe:R=bW as bs:=D8 hR λk _=>hv k;subst hRe;have rr:=dq hp (st:=s++[.lst ((bW as bs).map ah.int)]) (bV s _) (by rw[xx,VB];lia);refine⟨[.lst [.int 0]]++[.lst ((bW as bs).map ah.int)]++[.lst ((cm ((bW as bs).map (·.fmod p))).map ah.int)],(s++[aS.lst ((bW as bs).map ah.int)]).length,?_,by rw[<-hs];simp only[Vv];lia,?_⟩
 .rw[show st++([aS.lst [.int 0]]++[.lst ((bW as bs).map ah.int)]++[.lst ((cm ((bW as bs).map (·.fmod p))).map ah.int)])=s++[aS.lst ((bW as bs).map ah.int)]++[.lst ((cm ((bW as bs).map (·.fmod p))).map ah.int)]from by rw[<-hs];simp only[VU]];simp only[PM.c!,bb,aj,ax,aL,a9,av,aH,aw,f?,ay,ar,j!,bu,bS,bH,iW,bj,aR,aQ,fW,az,aq,ic,au,aG,bN,aZ,bh,a!,gm,gE,fI,dc,aK,aU,aD,Vs,VE,Vz,Vu,Vy,Vr,Vn,Vt,Nat.reduceSub,Vm,Vx,Nat.reduceAdd,VB,Nat.reduceLeDiff,↓reduceIte,pQ,bc h1,bc h2,aI,za,zb,hs,k1,k2,m1,uT (bP Qz _),e,rr]
 .rw[show st++([aS.lst [.int 0]]++[.lst ((bW as bs).map ah.int)]++[.lst ((cm ((bW as bs).map (·.fmod p))).map ah.int)])=s++[aS.lst ((bW as bs).map ah.int)]++[.lst ((cm ((bW as bs).map (·.fmod p))).map ah.int)]from by rw[<-hs];simp only[VU]];exact bf _ _
theorem sR{f:Int}(hp:¬ p=0){n:Nat}(h:ao st n=some (as.map ah.int))(hl:as.length<=100000)(ha:∀a∈as,-(2 ^ 64)<a/\a<2 ^ 64):
  ∃g k,PM.dB [.int p,.loc n,.int f] st=.ok (.loc k) (st++g)/\st.length<=k/\(st++g)[k]?=some (.lst ((cm ((as.map (· * f)).map (·.fmod p))).map ah.int)):=by
 have hc:=gF (g:=λaC=>ao aC n=some (as.map ah.int)) (a:=aF 0) (e:=ag bZ bg bG) (st:=st) h (λτ=>∃z,τ=[z,some (.int f)]) (λi=>.int (i*f)) as [none,some (.int f)] [] ⟨_,rfl⟩ (by
  rintro i hi τ ⟨z,rfl⟩;exact⟨_,rfl,⟨_,rfl⟩,by simp only[aj,av,aH,aw,aK,aD,Vn,jo (i:=i) (ha i hi).1 (ha i hi).2]⟩)
 rw[Vu,show(as.map λi=>ah.int (i*f))=(as.map (· * f)).map ah.int from by rw[V_];rfl]at hc;have gz:iN 1 [2] [some (ah.int p), some (ah.loc n), qI f]=[none,some (.int f)]:=rfl;have hz:(as.map ah.int).length<=sizeLine:=by rw[aI,VB];lia
 rw[VB]at hz;have rr:=dq hp (st:=st++[.lst ((as.map (· * f)).map ah.int)]) (bV st _) (by rw[Vq,VB];lia);refine⟨[.lst ((as.map (· * f)).map ah.int)]++[.lst ((cm ((as.map (· * f)).map (·.fmod p))).map ah.int)],(st++[aS.lst ((as.map (· * f)).map ah.int)]).length,?_,by simp only[Vv];lia,?_⟩
 .rw[<-VU];simp only[PM.dB,bb,aj,ax,a9,ay,ar,bu,gJ,eR,az,aq,au,aZ,dj,ej,aK,aU,aD,Vs,VE,Vz,Vu,Vr,Nat.reduceSub,Vm,Vx,Nat.reduceAdd,VB,dG h,gz,hc,VC hz,rr]
 .rw[<-VU];exact bf _ _
def dD(as:_a):_a:=(fw 1 (as.length-1)).map λk=>k*as.getD k.toNat 0
theorem lZ(hp:¬ p=0){n:Nat}(h:ao st n=some (as.map ah.int))(hl:as.length<=100000):
  ∃g k,PM.fo [.int p,.loc n] st=.ok (.loc k) (st++g)/\st.length<=k/\(st++g)[k]?=some (.lst ((cm ((dD as).map (·.fmod p))).map ah.int)):=by
 have UH:=yB (st:=st) (i:=1) (j:=(as.length:Int)) (by decide) (by decide) (by lia) (by lia);rw[show((as.length:Int)-1).toNat=as.length-1 by lia,m9]at UH;have hc:=gF (g:=λ_=>True) (a:=aF 0) (e:=ag bZ bg (ag bQ bG bg)) (st:=st) trivial (λτ=>∃z,τ=[z,some (.loc n)]) (λi=>.int (i*as.getD i.toNat 0)) (fw 1 (as.length-1)) [none,some (.loc n)] [] ⟨_,rfl⟩ (by
  rintro i hi τ ⟨z,rfl⟩;have hm:=AN hi;exact⟨_,rfl,⟨_,rfl⟩,by simp only[aj,av,aH,aw,aK,aU,aD,Vn,bT h (at_getD (ns:=as) (i:=i) (by lia) (by lia)),jo (i:=i) (by lia) (by lia)]⟩)
 rw[Vu,show((fw 1 (as.length-1)).map λi=>ah.int (i*as.getD i.toNat 0))=(dD as).map ah.int from by unfold dD;rw[V_];rfl]at hc;have kl:=bc h;rw[aI]at kl;obtain⟨L,hL⟩:∃L:Int,L=(as.length:Int):=⟨_,rfl⟩
 rw[<-hL]at kl UH;have gz:iN 1 [1] [some (ah.int p),some (ah.loc n)]=[none,some (.loc n)]:=rfl;have O2:(dD as).length=as.length-1:=by unfold dD fw;rw[Vq,Vq,VW]
 have hz:((fw 1 (as.length-1)).map ah.int).length<=16777216:=by rw[aI];unfold fw;rw[Vq,VW];lia
 have rr:=dq hp (st:=st++[.lst ((dD as).map ah.int)]) (bV st _) (by rw[O2,VB];lia);refine⟨[.lst ((dD as).map ah.int)]++[.lst ((cm ((dD as).map (·.fmod p))).map ah.int)],(st++[aS.lst ((dD as).map ah.int)]).length,?_,by simp only[Vv];lia,?_⟩
 .rw[<-VU];simp only[PM.fo,bb,aj,ax,a9,ay,ar,bu,gJ,eR,bj,az,aq,au,aZ,dj,nX,aK,aU,aD,Vs,VE,Vz,Vu,Vr,Nat.reduceSub,Vm,Vx,Nat.reduceAdd,VB,kl,UH,gz,hc,VC hz,rr]
 .rw[<-VU];exact bf _ _
abbrev Cf:=Nat->Int
def cf(as:_a):Cf:=λk=>as.getD k 0
def gO(h:Cf):Cf
 |0=>0
 |k+1=>h k
def mF:_a->Cf->Cf
 |[],_=>λ_=>0
 |a::as,g=>λk=>a*g k+gO (mF as g) k
theorem fB(k:Nat):cf [] k=0:=by simp[cf]
theorem b_(a:Int)(as:_a)(k:Nat):cf (a::as) (k+1)=cf as k:=by simp[cf]
theorem yI(f g:Cf)(k:Nat):gO (λj=>f j+g j) k=gO f k+gO g k:=by cases k<;>simp[gO]
theorem D9(c:Int)(f:Cf)(k:Nat):gO (λj=>c*f j) k=c*gO f k:=by cases k<;>simp[gO]
theorem dI{f g:Cf}(h:∀k,f k=g k)(k:Nat):gO f k=gO g k:=by cases k<;>simp[gO,h]
theorem bR{f g:Cf}(h:∀k,f k=g k):∀(as:_a)(k:Nat),mF as f k=mF as g k
 |[],_=>rfl
 |a::as,k=>by unfold mF;rw[h k,dI (bR h as)]
theorem nh(f g:Cf):∀(as:_a)(k:Nat),mF as (λj=>f j+g j) k=mF as f k+mF as g k
 |[],_=>by simp[mF]
 |a::as,k=>by unfold mF;rw[dI (nh f g as),yI,Xm];lia
theorem vg(c:Int)(f:Cf):∀(as:_a)(k:Nat),mF as (λj=>c*f j) k=c*mF as f k
 |[],_=>by simp[mF]
 |a::as,k=>by unfold mF;rw[dI (vg c f as),D9,Xm,<-Wx,<-Wx,W9 a c]
theorem Jc(f:Cf):∀(as:_a)(k:Nat),mF as (gO f) k=gO (mF as f) k
 |[],k=>by cases k<;>simp[mF,gO]
 |a::as,k=>by
  have h:=Jc f as;cases k with
  |zero=>simp[mF,gO]
  |succ k=>
   show a*f k+gO (mF as (gO f)) (k+1)=a*f k+gO (mF as f) k;rw[dI h];rfl
theorem kX(g:Cf):∀(as bs:_a)(k:Nat),mF as (mF bs g) k=mF bs (mF as g) k
 |[],bs,k=>by
  have h:∀(bs:_a)(k:Nat),mF bs (λ_=>0) k=0:=λbs=>by
   induction bs with
   |nil=>intro k;rfl
   |cons b bs ih=>
    intro k;unfold mF;rw[dI ih];cases k<;>simp[gO]
  exact(h bs k).symm
 |a::as,bs,k=>by show a*mF bs g k+gO (mF as (mF bs g)) k=mF bs (λk=>a*g k+gO (mF as g) k) k;rw[nh (λk=>a*g k) (gO (mF as g)),vg,Jc,dI (kX g as bs)]
def one:Cf:=cf [1]
theorem e_:∀(as:_a)(k:Nat),mF as one k=cf as k
 |[],k=>(fB k).symm
 |a::as,k=>by
  unfold mF;rw[dI (e_ as)];cases k with
  |zero=>simp[gO,one,cf]
  |succ k=>rw[b_];simp[gO,one,cf]
theorem de(as bs:_a)(k:Nat):mF as (cf bs) k=mF bs (cf as) k:=by rw[<-bR (e_ bs),<-bR (e_ as) bs];exact kX one as bs k
theorem xy(a:Int)(as bs:_a)(k:Nat):∀i,oy (a::as) bs (i+1) k=a*bs.getD k 0+gO (λj=>oy as bs i j) k
 |0=>by show oy (a::as) bs 0 k+(if 0<=k then _ else _)=_;rw[VC (We _)];cases k<;>simp[oy,gO]
 |i+1=>by
  show oy (a::as) bs (i+1) k+(if i+1<=k then(a::as).getD (i+1) 0*bs.getD (k-(i+1)) 0 else 0)=_;rw[xy a as bs k i,Int.add_assoc];congr 1;cases k with
  |zero=>simp[gO]
  |succ k=>
   show oy as bs i k+_=oy as bs i k+(if i<=k then as.getD i 0*bs.getD (k-i) 0 else 0);congr 1;by_cases h:i<=k
   .rw[VC (by lia),VC h,show k+1-(i+1)=k-i by lia];simp
   .rw[VI (by lia),VI h]
theorem yJ:∀(as bs:_a)(k:Nat),oy as bs as.length k=mF as (cf bs) k
 |[],bs,k=>AQ bs k 0
 |a::as,bs,k=>by rw[Vm,xy];show _=a*cf bs k+gO (mF as (cf bs)) k;rw[dI (yJ as bs)];rfl
theorem D_:∀(n:Nat)(ns:_a),ns.length=n->∀k,cf (cm ns) k=cf ns k
 |0,ns,h,k=>by rw[Wh h];rfl
 |n+1,ns,h,k=>by
  rcases ju ns with rfl|⟨ms,x,rfl⟩
  .rfl
  .by_cases hx:x=0
   .subst hx;rw[js];have hl:ms.length=n:=by simpa using h
    rw[D_ n ms hl];unfold cf;exact(qP ms 1 k).symm
   .rw[ij (by simpa using hx)]
theorem Co(ns:_a)(k:Nat):cf (cm ns) k=cf ns k:=D_ _ ns rfl k
theorem fK(h:ns.length<=k):cf ns k=0:=m? h
theorem AR(h:Cut ns)(hn:ns≠[]):cf ns (ns.length-1)≠0:=by
 rcases ju ns with rfl|⟨ms,x,rfl⟩
 .exact absurd rfl hn
 .intro z;have hx:x=0:=by simpa[cf]using z
  subst hx;have h':cm (ms++[0])=ms++[0]:=h;rw[js]at h';have:=gZ ms;rw[h',Vv,V3]at this;lia
theorem jv(h:Cut ns){n:Nat}(hz:∀k,n<=k->cf ns k=0):ns.length<=n:=by
 rcases WQ n ns.length with q|q
 .exfalso;refine AR h (λz=>by rw[z]at q;simp at q) (hz _ (by lia))
 .exact q
theorem Mu(ha:Cut as)(hb:Cut bs)(h:∀k,cf as k=cf bs k):as=bs:=by
 have h1:=jv ha (n:=bs.length) λk hk=>by rw[h];exact fK hk
 have h2:=jv hb (n:=as.length) λk hk=>by rw[<-h];exact fK hk
 refine Zs (by lia) λi hi hj=>?_;have:=h i;unfold cf at this;rw[VF,Vp hi,VF,Vp hj]at this;exact this
theorem qQ(f:Int->Int)(hf:f 0=0)(ns:_a)(k:Nat):cf (ns.map f) k=f (cf ns k):=by
 unfold cf;rw[VF,VM,VF];cases ns[k]? with
 |none=>exact hf.symm
 |some v=>rfl
theorem Cp(n:Nat)(f:Nat->Int)(k:Nat):cf ((fw 0 n).map λk=>f k.toNat) k=if k<n then f k else 0:=by
 unfold cf fw;rw[VF,VM,VM];by_cases h:k<n
 .rw[VC h,Wd h];simp
 .rw[VI h,V1 (by rw[VW];lia)];rfl
def ba(p:Int)(f g:Cf):Prop:=∀k,Cg p (f k) (g k)
theorem ba.refl(p:Int)(f:Cf):ba p f f:=λk=>Cg.refl p _
theorem ba.symm{f g:Cf}(h:ba p f g):ba p g f:=λk=>(h k).symm
theorem ba.trans{f g e:Cf}(h:ba p f g)(h':ba p g e):ba p f e:=λk=>(h k).trans (h' k)
theorem ba.of_eq{f g:Cf}(h:∀k,f k=g k):ba p f g:=λk=>by rw[h];exact Cg.refl p _
theorem ba.add{f g f' g':Cf}(h:ba p f g)(h':ba p f' g'):ba p (λk=>f k+f' k) (λk=>g k+g' k):=λk=>(h k).add (h' k)
theorem ba.gO{p:Int}{f g:Cf}(h:ba p f g):ba p (gO f) (gO g):=λk=>by
 cases k with
 |zero=>exact Cg.refl p _
 |succ k=>exact h k
theorem ba.mF{p:Int}{f g:Cf}(h:ba p f g):∀as:_a,ba p (mF as f) (mF as g)
 |[]=>ba.refl p _
 |a::as=>λk=>((h k).Cm a).add ((h.mF as).gO k)
theorem ba.mFl{RN:_a}(h:ba p (cf as) (cf RN))(bs:_a):ba p (PG.mF as (cf bs)) (PG.mF RN (cf bs)):=
 (ba.of_eq (de as bs)).trans ((h.mF bs).trans (ba.of_eq (de bs RN)))
structure Row(p:Int)(as:_a):Prop where
 cut:Cut as
 J5:∀a∈as,0<=a/\a<p
theorem Row.nil(p:Int):Row p []:=⟨rfl,λa h=>by simp at h⟩
theorem Row.GA(h:Row p as)(hp:0<p)(k:Nat):0<=cf as k/\cf as k<p:=by
 unfold cf;rw[VF];cases e:as[k]? with
 |none=>exact⟨YU _,hp⟩
 |some v=>exact h.J5 v (Wc e)
theorem Row.of(hp:0<p)(ns:_a):Row p (cm (ns.map (·.fmod p))):=⟨yH _,D5 (P:=λa=>0<=a/\a<p) λn hn=>by
 obtain⟨m,_,rfl⟩:=Wb.mp hn;rw[dA hp];exact⟨Xe _ (by lia),W3 _ hp⟩⟩
theorem Row.cg(hp:0<p)(ns:_a):ba p (cf (cm (ns.map (·.fmod p)))) (cf ns):=λk=>by rw[Co,qQ _ (by rw[dA hp];exact Xv p)];exact Cg.mod hp _
theorem Row.ext(hp:0<p)(ha:Row p as)(hb:Row p bs)(h:ba p (cf as) (cf bs)):as=bs:=Mu ha.cut hb.cut λk=>by have:=Cg.eq hp (h k);rw[d? (ha.GA hp k).1 (ha.GA hp k).2,d? (hb.GA hp k).1 (hb.GA hp k).2]at this;exact this
theorem take_snoc(h:k<ns.length):ns.take (k+1)=ns.take k++[ns.getD k 0]:=by rw[List.take_succ,Vp h,VF,Vp h];rfl
theorem Gb(h:k<=ns.length):Mt ns none (some (k:Int))=ns.take k:=by unfold Mt;rw[HT.uk,HT.xW,List.drop_zero,show min k ns.length-0=k by lia]
abbrev lcT:MT:=j6 (dY (ag sO bG cT)) (dY (ag jC (ag bQ bg (ag iF bG cI)) cT))
abbrev lcB:MB:=aM 1 (ag iF bG cI)
theorem Cq{n:Nat}(h:ao st n=some (ns.map ah.int)):PM.pL [.loc n] st=.ok (.loc st.length) (st++[.lst ((cm ns).map ah.int)]):=by
 obtain⟨μ',aC,e,rfl,k,hk,rfl,hc⟩:=gC (t:=lcT) (body:=lcB)
  (λμ s=>s=st/\∃k:Nat,k<=ns.length/\μ=[some (.loc n),some (.int k)]/\cm (ns.take k)=cm ns) (λμ _=>UE μ)
  (λμ s=>s=st/\∃k:Nat,k<=ns.length/\μ=[some (.loc n),some (.int k)]/\ns.take k=cm ns)
  (by
   rintro μ s ⟨rfl,k,hk,rfl,hc⟩;cases k with
   |zero=>
    have z:decide ((0:Int)<((0:Nat):Int))=false:=rfl;refine .inl ⟨s,?_,rfl,0,hk,rfl,?_⟩
    .simp only[aj,av,aH,aw,mR,bj,aR,aQ,iu,fi,aK,aD,z]
    .rw[List.take_zero]at hc⊢;exact hc
   |succ k=>
    have z:decide ((0:Int)<((k+1:Nat):Int))=true:=VZ (by lia);have hx:=bT (i:=((k+1:Nat):Int)-1) h (iy (R:=ns) (k:=k) (by lia) (by lia));rw[take_snoc (by lia)]at hc;have D6:lcT [some (.loc n),some (.int ((k+1:Nat):Int))] s=.ok (ns.getD k 0==0) s:=by simp only[aj,av,aH,aw,j_,bj,aR,aQ,iu,fI,fi,dc,aK,aU,aD,z,hx]
    cases hz:ns.getD k 0==0 with
    |true=>
     rw[hz]at D6;have:ns.getD k 0=0:=by simpa using hz
     rw[this,js]at hc;refine .inr ⟨s,[some (.loc n),some (.int (k:Int))],s,D6,.inl ?_,⟨rfl,k,by lia,rfl,hc⟩,?_⟩
     .simp only[aj,ax,av,aH,aw,bH,bj,a!,fI,aK,aD,Vn,Vt];rw[show((k+1:Nat):Int)-1=(k:Int) by lia]
     .show((k:Int)).toNat<(((k+1:Nat):Int)).toNat;lia
    |false=>
     rw[hz]at D6;rw[ij hz]at hc;exact .inl ⟨s,D6,rfl,k+1,hk,rfl,by rw[take_snoc (by lia)];exact hc⟩)
  [some (.loc n),some (.int ns.length)] st ⟨rfl,ns.length,VD _,rfl,by rw[List.take_length]⟩
 have sl:=yD (l:=none) (h:=some (k:Int)) h;rw[Ga,Gb hk,hc]at sl;simp only[PM.pL,bb,aj,ax,aL,a9,ay,ar,bu,bH,az,aq,au,aG,aZ,a!,aK,aU,aD,Vs,VE,Vz,Vu,Vy,Vr,Vn,Vt,Nat.reduceSub,Vm,Vx,Nat.reduceAdd,Av,Ik,Aw,Ax,mT,mW,Il,bc h,aI,e,sl]
def Sm(ns:_a):Prop:=∀n∈ns,-(2 ^ 64)<n/\n<2 ^ 64
theorem wz(hp:fJ p=true)(c:Int){z:Int}(z0:0<=z)(z1:z<=1000)(st:af):
  ∃g k D,PM.j8 [.int p,.int c,.int z] st=.ok (.loc k) (st++g)/\st.length<=k/\(st++g)[k]?=some (.lst (D.map ah.int))/\D.length<=z.toNat/\(∀d∈D,0<=d/\d<p)/\Cut D:=by
 have hr:=aJ hp;have UH:=DM (st:=st++[.lst []]) (j:=z) (by lia) (by lia);obtain⟨μ',aC,e,R,rfl,⟨y4,y5,rfl⟩,hR,hb⟩:=dN (g:=λ_=>True) (a:=aF 4) (body:=aA (aM 5 (ag dX (ag cU bG (ag bZ (mC (.int 7919)) fT)) fm)) (aA (aM 5 (ag dX (ag bZ (ag dX (ag bZ j4 j4) (mC (.int 2147483629))) (mC (.int 48271))) fm)) (fg (g6 dS dJ (aa (ag dX (ag jF j4 (ag cU cI fT)) bg) ai)))))
  (λi μ s'=>∃R:_a,s'=st++[.lst (R.map ah.int)]/\(∃x4 x5,μ=[qI p, qI c, qI z, qL st.length, x4, x5])/\R.length=i/\∀d∈R,0<=d/\d<p)
  (cO 0 z.toNat) 0 [qI p, qI c, qI z, qL st.length, qn, qn] (st++[.lst []])
  (by
   rintro i u μ s' hu ⟨R,rfl,⟨x4,x5,rfl⟩,hR,hb⟩;rw[V8]at hR⊢;refine⟨trivial,?_⟩;rw[m9]at hu;obtain⟨k,hk,rfl⟩:=Wb.mp (Wc hu);have hm:=AN hk;have hi:i<z.toNat:=by have:=bx hu;rw[Vq]at this;unfold fw at this;rw[Vq,VW]at this;exact this
   have dk:Dz (1+k):=I? (by lia) (by lia);have q1:=jK (m:=2147483647) (by decide) (c+7919*k);generalize hx:(c+7919*k).fmod 2147483647=x at q1;have q2:=jK (m:=2147483629) (by decide) (x*x);generalize hy:((x*x).fmod 2147483629*48271).fmod 2147483647=y;have q3:=jK (m:=p) (by lia) (y.fdiv (1+k));have ap:=ja (v:=.int ((y.fdiv (1+k)).fmod p)) (bf st (R.map ah.int)) (by rw[aI,VB];lia);rw[uV,show R.map ah.int++[.int ((y.fdiv (1+k)).fmod p)]=(R++[(y.fdiv (1+k)).fmod p]).map ah.int from by simp]at ap;refine⟨[some (.int p),some (.int c),some (.int z),some (.loc st.length),some (.int k),x5],rfl,[qI p, qI c, qI z, qL st.length, qI k, qI y],st++[.lst ((R++[(y.fdiv (1+k)).fmod p]).map ah.int)],.inl ?_,R++[(y.fdiv (1+k)).fmod p],rfl,⟨_,_,rfl⟩,by rw[Vv,hR];rfl,λd hd=>?_⟩
   .simp only[aj,ax,aL,av,aH,aw,ay,ar,eO,bH,bj,az,aq,aG,b!,a!,gE,aK,aU,aD,Vn,Vt,kQ,uS,jo (i:=7919) (by decide) (by decide),cj (j:=2147483647) (by decide),hx,jo (i:=x) (by lia) (by lia),cj (j:=2147483629) (by decide),mul_r (j:=48271) (by decide) (by decide),hy,oH (bf st (R.map ah.int)),div_ii dk,cj (iO hp),ap]
   .rcases VX.mp hd with hd|hd
    .exact hb d hd
    .rw[VN.mp hd];exact q3)
  (λ_ _ _=>trivial) ⟨[],rfl,⟨_,_,rfl⟩,rfl,λd hd=>by cases hd⟩
 have lc:=Cq (aB (bf st (R.map ah.int)));have hR':R.length<=z.toNat:=by rw[hR];unfold cO;rw[Vq,VW];lia
 refine⟨[.lst (R.map ah.int)]++[.lst ((cm R).map ah.int)],(st++[aS.lst (R.map ah.int)]).length,cm R,?_,by simp only[Vv];lia,by rw[<-VU];exact bf _ _,V? (gZ R) hR',D5 hb,yH R⟩;rw[<-VU];simp only[PM.j8,bb,aj,ax,aL,a9,ay,ar,j!,bu,bH,iW,az,aq,ic,au,aG,aZ,a!,gm,kN,aK,aU,aD,Vs,VE,Vz,Vu,Vy,Vr,Vn,Vt,Nat.reduceSub,Vm,Vx,Nat.reduceAdd,VB,Nat.reduceLeDiff,↓reduceIte,UH,e,lc]
theorem xA{g:af->Prop}{a:AS}{e:ME}{y:ah}{τ τ1:MN.Env}{st1:af}{ys:List ah}(hg:g st)(h1:a u τ=some τ1)(h2:e τ1 st=.ok y st1):dZ g a bI e (u::us) τ st ys=dZ g a bI e us τ1 st1 (ys++[y]):=by rw[dZ];rw[VC hg,h1];dsimp only[bI];rw[h2]
theorem xB{g:af->Prop}{a:AS}{c:MT}{e:ME}{τ:MN.Env}{ys:List ah}(hg:g st):dZ g a c e [] τ st ys=.ok ys st:=by rw[dZ,VC hg]
abbrev aV(R:_a):aS:=.lst (R.map ah.int)
def qR(s:af)(ls:List Nat)(Rs:List (_a)):Prop:=ls.length=Rs.length/\∀(i l:Nat)(R:_a),ls[i]?=some l->Rs[i]?=some R->s[l]?=some (aV R)
def Fr(st s:af):Prop:=∀(m:Nat)(c:aS),st[m]?=some c->s[m]?=some c
theorem Fr.refl(st:af):Fr st st:=λ_ _ h=>h
theorem Fr.trans{a b c:af}(h:Fr a b)(h':Fr b c):Fr a c:=λm k q=>h' m k (h m k q)
theorem Fr.app(st g:af):Fr st (st++g):=λ_ _ h=>cR h g
theorem Fr.more{a b:af}(h:Fr a b)(g:af):Fr a (b++g):=h.trans (Fr.app b g)
theorem Fr.set{a b:af}(h:Fr a b){L:Nat}(hL:a.length<=L)(c:aS):Fr a (b.set L c):=λm k q=>g9 (h m k q) (by have:=bx q;lia)
theorem Fr.it{a b:af}(h:Fr a b){n:Nat}(hi:ao a n=some us):ao b n=some us:=by
 unfold ao at hi⊢;cases z:a[n]? with
 |none=>rw[z]at hi;cases hi
 |some c=>rw[z]at hi;rw[h n c z];exact hi
theorem Fr.len{a b:af}(h:Fr a b):a.length<=b.length:=by
 rcases YC a.length with z|z
 .lia
 .have:=bx (h (a.length-1) _ (Vp (by lia)));lia
open Classical in
def Mv(p n:Int):Int:=if h:∃t:Int,0<t/\t<p/\(t*n) % p=1 then h.choose else 0
theorem Jd{n t u:Int}(hp:0<p)(h1:0<t/\t<p/\(t*n) % p=1)(h2:0<u/\u<p/\(u*n) % p=1):t=u:=by
 obtain⟨a1,a2,a3⟩:=h1;obtain⟨b1,b2,b3⟩:=h2;have c1:Cg p (t*n) 1:=⟨t*n / p,by have:=Wl (t*n) p;lia⟩
 have c2:Cg p (u*n) 1:=⟨u*n / p,by have:=Wl (u*n) p;lia⟩
 have c3:Cg p t u:=by
  have e1:Cg p (t*(u*n)) (t*1):=c2.Cm t;have e2:Cg p (u*(t*n)) (u*1):=c1.Cm u;have e3:t*(u*n)=u*(t*n):=by rw[<-Wx,<-Wx,W9 t u]
  rw[e3,Xl]at e1;rw[Xl]at e2;exact e1.symm.trans e2
 have:=Cg.eq hp c3;rwa [d? (by lia) a2,d? (by lia) b2]at this
theorem D!{n t:Int}(hp:0<p)(h:0<t/\t<p/\(t*n) % p=1):Mv p n=t:=by unfold Mv;rw[dif_pos ⟨t,h⟩];exact Jd hp (Exists.choose_spec (p:=λt:Int=>0<t/\t<p/\(t*n) % p=1) ⟨t,h⟩) h
def aO(bs:_a):Int:=bs.getD (bs.length-1) 0
def oI(bs:_a)(s:Nat)(o:Int)(R:_a):_a:=(fw 0 R.length).map λk=>R.getD k.toNat 0-(if s<=k.toNat then o*bs.getD (k.toNat-s) 0 else 0)
def dv(p c:Int)(as bs:_a)(steps:Nat):Nat->List Int×List Int
 |0=>(List.replicate steps 0,as)
 |i+1=>((dv p c as bs steps i).1.set (steps-1-i) (((dv p c as bs steps i).2.getD (steps-1-i+bs.length-1) 0*c).fmod p),oI bs (steps-1-i) (((dv p c as bs steps i).2.getD (steps-1-i+bs.length-1) 0*c).fmod p) (dv p c as bs steps i).2)
theorem xC(bs:_a)(s:Nat)(o:Int)(R:_a):(oI bs s o R).length=R.length:=by unfold oI fw;rw[Vq,Vq,VW]
theorem Je(bs:_a)(s:Nat)(o:Int)(R:_a)(k:Nat):cf (oI bs s o R) k=if k<R.length then cf R k-(if s<=k then o*cf bs (k-s)else 0)else 0:=by unfold oI;rw[Cp R.length (λk=>R.getD k 0-(if s<=k then o*bs.getD (k-s) 0 else 0))];rfl
theorem yK(p c:Int)(as bs:_a)(steps:Nat):∀i,(dv p c as bs steps i).1.length=steps/\(dv p c as bs steps i).2.length=as.length
 |0=>⟨VY,rfl⟩
 |i+1=>by have h:=yK p c as bs steps i;unfold dv;exact⟨by rw[Wu];exact h.1,by rw[xC];exact h.2⟩
theorem Jf:∀(Q:_a)(s:Nat)(o:Int)(g:Cf)(k:Nat),s<Q.length->cf Q s=0->mF (Q.set s o) g k=mF Q g k+(if s<=k then o*g (k-s)else 0)
 |[],s,_,_,_,h,_=>by simp at h
 |q::Q,0,o,g,k,_,h0=>by have:q=0:=h0;subst this;rw[Vn,VC (We _)];show o*g k+gO (mF Q g) k=0*g k+gO (mF Q g) k+o*g (k-0);rw[W8,Nat.sub_zero];lia
 |q::Q,s+1,o,g,k,h,h0=>by
  rw[Vt];show q*g k+gO (mF (Q.set s o) g) k=q*g k+gO (mF Q g) k+_;rw[b_]at h0;have ih:=Jf Q s o g;cases k with
  |zero=>rw[VI (by lia)];simp[gO]
  |succ k=>
   show q*g (k+1)+mF (Q.set s o) g k=q*g (k+1)+mF Q g k+_;rw[ih k (by simpa using h) h0];by_cases z:s<=k
   .rw[VC z,VC (by lia),show k+1-(s+1)=k-s by lia];lia
   .rw[VI z,VI (by lia)];lia
theorem AU(g:Cf):∀(n k:Nat),mF (List.replicate n 0) g k=0
 |0,_=>rfl
 |n+1,k=>by rw[Vy];unfold mF;rw[dI (AU g n)];cases k<;>simp[gO]
theorem AV(n k:Nat):cf (List.replicate n 0) k=0:=by unfold cf;rw[VF,Wz];split<;>rfl
theorem Jg{Q:_a}{s:Nat}(h:s<Q.length)(o:Int)(k:Nat):cf (Q.set s o) k=if k=s then o else cf Q k:=ve h k
structure aa!(p:Int)(as bs:_a)(steps i:Nat)(Q R:_a):Prop where
 QP:Q.length=steps
 QQ:R.length=as.length
 zero:∀s,s<steps-i->cf Q s=0
 J5:∀s,0<=cf Q s/\cf Q s<p
 eq:∀k,cf as k=mF Q (cf bs) k+cf R k
 gone:∀k,steps-i+bs.length-1<=k->Cg p (cf R k) 0
theorem NO{p c:Int}(hp:0<p){as bs:_a}(hb:bs≠[])(hc:(c*aO bs) % p=1){steps:Nat}(hs:steps=as.length+1-bs.length):∀i,i<=steps->aa! p as bs steps i (dv p c as bs steps i).1 (dv p c as bs steps i).2
 |0,_=>⟨VY,rfl,λs _=>AV _ _,λs=>by show 0<=cf (List.replicate steps 0) s/\_;rw[show(dv p c as bs steps 0).1=List.replicate steps 0 from rfl,AV];exact⟨YU _,hp⟩,λk=>by
   rw[show(dv p c as bs steps 0).1=List.replicate steps 0 from rfl,AU,X2];rfl,λk hk=>by
   have QO:0<bs.length:=VJ.mpr hb;rw[show(dv p c as bs steps 0).2=as from rfl,fK (by lia)];exact Cg.refl p _⟩
 |i+1,hi=>by
  have ih:=NO hp hb hc hs i (by lia);obtain⟨Q,hQ⟩:∃Q,(dv p c as bs steps i).1=Q:=⟨_,rfl⟩
  obtain⟨R,hR⟩:∃R,(dv p c as bs steps i).2=R:=⟨_,rfl⟩
  obtain⟨o,ho⟩:∃o,(R.getD (steps-1-i+bs.length-1) 0*c).fmod p=o:=⟨_,rfl⟩
  obtain⟨s,RP⟩:∃s,steps-1-i=s:=⟨_,rfl⟩
  rw[hQ,hR]at ih;have e1:(dv p c as bs steps (i+1)).1=Q.set s o:=by unfold dv;rw[hQ,hR,ho,RP]
  have e2:(dv p c as bs steps (i+1)).2=oI bs s o R:=by unfold dv;rw[hR,ho,RP]
  rw[e1,e2];have QO:0<bs.length:=VJ.mpr hb;have O2:s<Q.length:=by rw[ih.QP];lia
  have Uz:0<=o/\o<p:=by rw[<-ho,dA hp];exact⟨Xe _ (by lia),W3 _ hp⟩
  have aa?:∀k,as.length<=k->cf R k=0:=λk hk=>fK (by rw[ih.QQ];exact hk);have Rcf:∀k,cf (oI bs s o R) k=cf R k-(if s<=k then o*cf bs (k-s)else 0):=λk=>by
   rw[Je];split
   .rfl
   .rename_i q;rw[ih.QQ]at q;rw[aa? k (by lia)];split
    .rw[fK (by lia)];simp
    .rfl
  refine⟨by rw[Wu];exact ih.QP,by rw[xC];exact ih.QQ,λt ht=>?_,λt=>?_,λk=>?_,λk hk=>?_⟩
  .rw[Jg O2,VI (by lia)];exact ih.zero t (by lia)
  .rw[Jg O2];split
   .exact Uz
   .exact ih.J5 t
  .rw[Jf Q s o (cf bs) k O2 (ih.zero s (by lia)),Rcf,ih.eq k];lia
  .rw[Rcf];by_cases Uy:k=s+bs.length-1
   .subst Uy;rw[VC (by lia),show s+bs.length-1-s=bs.length-1 by lia];have co:Cg p o (cf R (s+bs.length-1)*c):=by rw[<-ho,RP];exact Cg.mod hp _
    have cl:Cg p (c*aO bs) 1:=⟨c*aO bs / p,by have:=Wl (c*aO bs) p;lia⟩
    have c1:Cg p (o*cf bs (bs.length-1)) (cf R (s+bs.length-1)):=by have z:=(co.Jb (aO bs)).trans (by rw[Wx];exact cl.Cm (cf R (s+bs.length-1)));rw[Xl]at z;exact z
    have c2:=(Cg.refl p (cf R (s+bs.length-1))).add c1.neg;rw[show cf R (s+bs.length-1) + -cf R (s+bs.length-1)=0 by lia]at c2;rw[show cf R (s+bs.length-1)-o*cf bs (bs.length-1)=cf R (s+bs.length-1) + -(o*cf bs (bs.length-1)) by lia];exact c2
   .rw[show(if s<=k then o*cf bs (k-s)else 0)=0 from by rw[VC (by lia),fK (by lia),Wn],Int.sub_zero];exact ih.gone k (by lia)
def cS(p:Int)(as bs:_a):_a:=cm ((dv p (Mv p (aO bs)) as bs (as.length+1-bs.length) (as.length+1-bs.length)).1.map (·.fmod p))
def kY(p:Int)(as bs:_a):_a:=cm ((dv p (Mv p (aO bs)) as bs (as.length+1-bs.length) (as.length+1-bs.length)).2.map (·.fmod p))
theorem fH(hp:fJ p=true)(hb:bs≠[])(hl:¬ aO bs % p=0):
  Row p (cS p as bs)/\Row p (kY p as bs)/\(kY p as bs).length<bs.length/\ba p (cf as) (λk=>mF (cS p as bs) (cf bs) k+cf (kY p as bs) k)/\(cS p as bs).length<=as.length+1-bs.length:=by
 have hr:=aJ hp;have fL:0<p:=by lia
 obtain⟨g,t,_,h1,h2,h3⟩:=fv hp hl [];have ei:=D! fL ⟨h1,h2,h3⟩;have D:=NO (c:=t) fL (as:=as) hb h3 (steps:=as.length+1-bs.length) rfl (as.length+1-bs.length) (VD _);unfold cS kY;rw[ei];revert D;generalize (dv p t as bs (as.length+1-bs.length) (as.length+1-bs.length)).1=Q;generalize (dv p t as bs (as.length+1-bs.length) (as.length+1-bs.length)).2=R;intro D;have QO:0<bs.length:=VJ.mpr hb;refine⟨Row.of fL Q,Row.of fL R,?_,?_,?_⟩
 .have:=jv (yH (R.map (·.fmod p))) (n:=bs.length-1) λk hk=>by rw[Co,qQ _ (by rw[dA fL];exact Xv p)];have z:=Cg.eq fL (D.gone k (by lia));rw[z,dA fL];exact Xv p
  lia
 .refine(ba.of_eq D.eq).trans (ba.add ?_ ?_)
  .exact(ba.mFl (Row.cg fL Q) bs).symm
  .exact(Row.cg fL R).symm
 .refine V? (gZ _) ?_;rw[Vq,D.QP];exact VD _
theorem kZ(hb:bs≠[]):L2.lM (bs.map ah.int) (-1)=some (.int (aO bs)):=by have QO:0<bs.length:=VJ.mpr hb;unfold L2.lM L2.zU;rw[aI,VI (by decide),VC (by lia),Option.bind_some,show(-1+(bs.length:Int)).toNat=bs.length-1 by lia,VM,Vp (by lia)];unfold aO;rw[VF,Vp (by lia)];rfl
def zF(a b:Nat)(st s:af):Prop:=st.length=s.length/\∀(m:Nat)(c:aS),m≠a->m≠b->st[m]?=some c->s[m]?=some c
theorem zF.refl(a b:Nat)(st:af):zF a b st st:=⟨rfl,λ_ _ _ _ h=>h⟩
theorem zF.trans{a b:Nat}{x y z:af}(h:zF a b x y)(h':zF a b y z):zF a b x z:=⟨h.1.trans h'.1,λm c h1 h2 h3=>h'.2 m c h1 h2 (h.2 m c h1 h2 h3)⟩
theorem zF.aa'{a b:Nat}{x y:af}(h:zF a b x y)(c:aS):zF a b x (y.set a c):=⟨by rw[Wu];exact h.1,λm k h1 h2 h3=>g9 (h.2 m k h1 h2 h3) (λz=>h1 z.symm)⟩
theorem zF.aba{a b:Nat}{x y:af}(h:zF a b x y)(c:aS):zF a b x (y.set b c):=⟨by rw[Wu];exact h.1,λm k h1 h2 h3=>g9 (h.2 m k h1 h2 h3) (λz=>h2 z.symm)⟩
abbrev QR:MB:=xk LR dJ (ag cU uD Bn) (ag bZ Hq (iJ 10))
theorem Cs{L K:Nat}{R0:_a}{s:Nat}{o:Int}{x9 x10:Option ah}(lm:st[m]?=some (aV bs))(lL:st[L]?=some (aV R0))(UI:m≠L)(RQ:m≠K)(hLK:L≠K)(ho:-(2 ^ 64)<o/\o<2 ^ 64)(hl:s+bs.length<=R0.length):
  ∃(aC:af)(y9 Gd:Option ah),forL (λbX=>ao bX m=some (bs.map ah.int)) (iL [aF 9,aF 10]) QR (iU 0 (bs.map ah.int)) [x0, x1, qL m, qL L, x4, x5, x6, qI s, qI o, x9, x10] st
   = .nx [x0, x1, qL m, qL L, x4, x5, x6, qI s, qI o, y9, Gd] aC/\aC[L]?=some (aV (oI bs s o R0))/\zF L K st aC/\∀c,st[K]?=some c->aC[K]?=some c:=by
 obtain⟨μ',aC,e,R,lR,⟨y9,Gd,rfl⟩,hR,hv,hF,hK⟩:=dN (g:=λbX=>ao bX m=some (bs.map ah.int)) (a:=iL [aF 9,aF 10]) (body:=QR)
  (λj μ s'=>∃R:_a,s'[L]?=some (aV R)/\(∃x9 x10,μ=[x0, x1, qL m, qL L, x4, x5, x6, qI s, qI o, x9, x10])/\R.length=R0.length/\(∀k,R.getD k 0=R0.getD k 0-(if s<=k/\k<s+j then o*bs.getD (k-s) 0 else 0))/\zF L K st s'/\∀c,st[K]?=some c->s'[K]?=some c)
  (iU 0 (bs.map ah.int)) 0 [x0, x1, qL m, qL L, x4, x5, x6, qI s, qI o, x9, x10] st
  (by
   rintro j u μ s' hu ⟨R,lR,⟨x9,x10,rfl⟩,hR,hv,hF,hK⟩;rw[V8]at hv⊢;refine⟨aB (hF.2 m _ UI RQ lm),?_⟩;obtain⟨w,hw,rfl⟩:=jh _ 0 j u hu;rw[V8];have hj:j<bs.length:=by have:=bx hw;rw[aI]at this;exact this
   have ew:w=.int (bs.getD j 0):=by rw[VM,Vp hj]at hw;rw[<-VR hw,VF,Vp hj];rfl
   subst ew;have hk:s+j<R.length:=by lia
   have gx:=Im (aB lR) (iy (R:=R) (i:=(s:Int)+(j:Int)) (k:=s+j) (by lia) hk);have sx:=tY (v:=.int (R.getD (s+j) 0-o*bs.getD j 0)) (k:=(s:Int)+(j:Int)) (j:=s+j) lR (by rw[aI];have:=t? hk;rw[show(s:Int)+(j:Int)=((s+j:Nat):Int) by lia];exact this);rw[<-List.map_set]at sx;refine⟨[x0,x1,some (.loc m),some (.loc L),x4,x5,x6,some (.int s),some (.int o),some (.int j),some (.int (bs.getD j 0))],rfl,[x0, x1, qL m, qL L, x4, x5, x6, qI s, qI o, qI j, qI (bs.getD j 0)],s'.set L (aV (R.set (s+j) (R.getD (s+j) 0-o*bs.getD j 0))),.inl ?_,R.set (s+j) (R.getD (s+j) 0-o*bs.getD j 0),iw lR,⟨_,_,rfl⟩,by rw[Wu];exact hR,λk=>?_,hF.aa' _,λc hc=>g9 (hK c hc) hLK⟩
   .simp only[aj,ax,av,aH,aw,gE,aK,aU,aD,pP,DT,Uh,ND,NF,NG,NH,Qt,gx,jo (i:=o) ho.1 ho.2,sx]
   .rw[ve hk];by_cases UG:k=s+j
    .subst UG;rw[VC rfl,hv,VI (by lia),VC (by lia),show s+j-s=j by lia];lia
    .rw[VI UG,hv];congr 1;by_cases h1:s<=k/\k<s+j
     .rw[VC h1,VC (by lia)]
     .rw[VI h1,VI (by lia)])
  (λμ s'⟨R,_,_,_,_,hF,_⟩=>aB (hF.2 m _ UI RQ lm))
  ⟨R0,lL,⟨_,_,rfl⟩,rfl,λk=>by rw[VI (by lia),Int.sub_zero],zF.refl _ _ _,λ_ h=>h⟩
 refine⟨aC,y9,Gd,e,?_,hF,hK⟩;have:R=oI bs s o R0:=by
  rw[D8 (f:=λk=>R0.getD k 0-(if s<=k then o*bs.getD (k-s) 0 else 0)) hR λk hk=>?_]
  .rfl
  .rw[hv,V8,h_,aI];congr 1;by_cases h1:s<=k
   .by_cases h2:k<s+bs.length
    .rw[VC ⟨h1,h2⟩,VC h1]
    .rw[VI (by lia),VC h1,m? (by lia),Wn]
   .rw[VI (by lia),VI h1]
 rw[<-this];exact lR
abbrev NP:MB:=aA (aM 8 (ag dX (ag bZ (ag bQ dJ (ag iF (ag cU uD (ak bF (aa cQ ai))) cI)) fT) bg)) (aA (sf nW uD Hq) (iM (jU (aa cQ ai)) (iL [(aF 9),(aF 10)]) QR))
theorem Jh{n:Nat}(h:(lW hi n)[i]?=some u):i<n/\u=.int (hi-(i:Int)):=by unfold lW at h;have Ha:=bx h;rw[Vq,VW]at Ha;rw[VM,Wd Ha]at h;exact⟨Ha,(VR h).symm⟩
theorem Ge(hi:Int)(n:Nat):(lW hi n).length=n:=by unfold lW;rw[Vq,VW]
theorem Ct{c:Int}(hp:fJ p=true)(hc:0<c/\c<p){n L K:Nat}{steps:Nat}(hs:steps=as.length+1-bs.length)(hb:bs≠[])(lm:st[m]?=some (aV bs))(lL:st[L]?=some (aV as))(lK:st[K]?=some (aV (List.replicate steps 0)))(UI:m≠L)(RQ:m≠K)(hLK:L≠K)(sL:as.length<=100000)(tP:bs.length<=100000):
  ∃(aC:af)(y7 y8 y9 Gd:Option ah),forL (λ_=>True) (aF 7) NP (lW ((steps:Int)-1) steps) [qI p, qL n, qL m, qL L, qI c, x5, qL K, qn, qn, qn, qn] st
   = .nx [qI p, qL n, qL m, qL L, qI c, x5, qL K, y7, y8, y9, Gd] aC/\zF L K st aC/\aC[K]?=some (aV (dv p c as bs steps steps).1)/\aC[L]?=some (aV (dv p c as bs steps steps).2):=by
 have hr:=aJ hp;have hz:=iO hp;have QO:0<bs.length:=VJ.mpr hb;obtain⟨μ',aC,e,⟨y7,y8,y9,Gd,rfl⟩,hF,h1,h2⟩:=dN (g:=λ_=>True) (a:=aF 7) (body:=NP)
  (λi μ s'=>(∃y7 y8 y9 Gd,μ=[qI p, qL n, qL m, qL L, qI c, x5, qL K, y7, y8, y9, Gd])/\zF L K st s'/\s'[K]?=some (aV (dv p c as bs steps i).1)/\s'[L]?=some (aV (dv p c as bs steps i).2))
  (lW ((steps:Int)-1) steps) 0 [qI p, qL n, qL m, qL L, qI c, x5, qL K, qn, qn, qn, qn] st
  (by
   rintro i u μ s' hu ⟨⟨y7,y8,y9,Gd,rfl⟩,hF,lQ,lR⟩;rw[V8]at lQ lR⊢;obtain⟨hi,rfl⟩:=Jh hu;refine⟨trivial,?_⟩;obtain⟨lq,lr⟩:=yK p c as bs steps i;obtain⟨Q,hQ⟩:∃Q,(dv p c as bs steps i).1=Q:=⟨_,rfl⟩
   obtain⟨R,hR⟩:∃R,(dv p c as bs steps i).2=R:=⟨_,rfl⟩
   obtain⟨s,RP⟩:∃s,steps-1-i=s:=⟨_,rfl⟩
   obtain⟨o,ho⟩:∃o,(R.getD (s+bs.length-1) 0*c).fmod p=o:=⟨_,rfl⟩
   have e1:(dv p c as bs steps (i+1)).1=Q.set s o:=by unfold dv;rw[hQ,hR,RP,ho]
   have e2:(dv p c as bs steps (i+1)).2=oI bs s o R:=by unfold dv;rw[hR,RP,ho]
   rw[hQ]at lQ lq;rw[hR]at lR lr;rw[e1,e2];have es:(steps:Int)-1-(i:Int)=(s:Int):=by lia
   rw[es];have Uz:0<=o/\o<p:=by rw[<-ho,dA (by lia)];exact⟨Xe _ (by lia),W3 _ (by lia)⟩
   have lm':=hF.2 m _ UI RQ lm;obtain⟨LB,hLB⟩:∃L:Int,L=(bs.length:Int):=⟨_,rfl⟩
   have kl:bF [.loc m] s'=.ok (.int LB) s':=by rw[bc (aB lm'),aI,hLB]
   have gx:=bT (aB lR) (iy (R:=R) (i:=(s:Int)+LB-1) (k:=s+bs.length-1) (by lia) (by lia));have sx:=tY (v:=.int o) (k:=(s:Int)) (j:=s) lQ (by rw[aI];exact t? (by lia));rw[<-List.map_set]at sx;have lm2:(s'.set K (aV (Q.set s o)))[m]?=some (aV bs):=g9 lm' (λz=>RQ z.symm);have lR2:(s'.set K (aV (Q.set s o)))[L]?=some (aV R):=g9 lR (λz=>hLK z.symm);have lQ2:(s'.set K (aV (Q.set s o)))[K]?=some (aV (Q.set s o)):=iw lQ;obtain⟨bX,z9,z10,e3,lR3,hF3,hK3⟩:=Cs (m:=m) (L:=L) (K:=K) (bs:=bs) (R0:=R) (s:=s) (o:=o) (x0:=some (.int p)) (x1:=some (.loc n)) (x4:=some (.int c)) (x5:=x5) (x6:=some (.loc K)) (x9:=y9) (x10:=Gd) lm2 lR2 UI RQ hLK (by lia) (by lia);refine⟨[some (.int p),some (.loc n),some (.loc m),some (.loc L),some (.int c),x5,some (.loc K),some (.int s),y8,y9,Gd],rfl,[qI p, qL n, qL m, qL L, qI c, x5, qL K, qI s, qI o, z9, z10],bX,.inl ?_,⟨_,_,_,_,rfl⟩,(hF.aba _).trans hF3,hK3 _ lQ2,lR3⟩;have en:=uT (aB lm2);simp only[aj,ax,aL,av,aH,aw,ay,ar,bH,iW,bj,az,aq,au,aG,a!,gm,gE,fI,aK,aU,aD,Vn,Vt,DS,Ug,NB,NC,pP,pQ,kl,gx,mul_r (j:=c) (by lia) (by lia),cj hz,ho,sx,en,e3])
  (λ_ _ _=>trivial)
  ⟨⟨_,_,_,_,rfl⟩,zF.refl _ _ _,lK,lL⟩
 rw[V8,Ge]at h1 h2;exact⟨aC,y7,y8,y9,Gd,e,hF,h1,h2⟩
theorem gf(hp:fJ p=true){n:Nat}(h1:ao st n=some (as.map ah.int))(lm:st[m]?=some (aV bs))(hb:bs≠[])(hl:¬ aO bs % p=0)(sL:as.length<=100000)(tP:bs.length<=100000):
  ∃aC k1 k2,PM.parted [.int p,.loc n,.loc m] st=.ok (.tup [.loc k1,.loc k2]) aC/\Fr st aC/\st.length<=k1/\st.length<=k2/\k1≠k2/\aC[k1]?=some (aV (cS p as bs))/\aC[k2]?=some (aV (kY p as bs)):=by
 have hr:=aJ hp;have hz:=iO hp;have fL:0<p:=by lia
 have QO:0<bs.length:=VJ.mpr hb;have c1:=tZ h1;have hm:=bx lm;obtain⟨g,t,ei,t1,t2,t3⟩:=fv hp hl (st++[aV as]);have et:=D! fL ⟨t1,t2,t3⟩;have lm1:=cR lm [aV as];have gx:=bT (aB lm1) (kZ hb);have F2:Fr st (st++[aV as]++g):=(Fr.app st _).more g;have lL2:=cR (bf st (as.map ah.int)) g;have F2l:=F2.len;have h2l:st.length<(st++[aV as]++g).length:=by rw[Vv,Vv];simp;lia
 obtain⟨s2,jR⟩:∃s,st++[aV as]++g=s:=⟨_,rfl⟩
 rw[jR]at ei F2 lL2 F2l h2l;obtain⟨LA,hLA⟩:∃L:Int,L=(as.length:Int):=⟨_,rfl⟩
 obtain⟨LB,hLB⟩:∃L:Int,L=(bs.length:Int):=⟨_,rfl⟩
 have k1:bF [.loc n] s2=.ok (.int LA) s2:=by rw[bc (F2.it h1),aI,hLA]
 have k2:bF [.loc m] s2=.ok (.int LB) s2:=by rw[bc (aB (F2 _ _ lm)),aI,hLB]
 obtain⟨steps,xT⟩:∃s,s=as.length+1-bs.length:=⟨_,rfl⟩
 have emx:(if LA-LB+1>0 then LA-LB+1 else 0)=(steps:Int):=by split<;>lia
 obtain⟨S,hS⟩:∃S:Int,S=(steps:Int):=⟨_,rfl⟩
 rw[<-hS]at emx;have m1:=uU (st:=s2++[aS.lst [.int 0]]) (n:=s2.length) (us:=[.int 0]) (k:=S) (bf _ _) (by lia) (by lia) (by rw[VB];simp;lia);rw[D7,show S.toNat=steps by lia]at m1;have F3:Fr s2 (s2++[aS.lst [.int 0]]++[aV (List.replicate steps 0)]):=(Fr.app s2 _).more _;have lK3:=bf (s2++[aS.lst [.int 0]]) ((List.replicate steps 0).map ah.int);have hKl:s2.length<(s2++[aS.lst [.int 0]]).length:=by rw[Vv];simp
 obtain⟨K,hK⟩:∃K,(s2++[aS.lst [.int 0]]).length=K:=⟨_,rfl⟩
 have F3':=F2.trans F3;have lm3:=F3' _ _ lm;have lL3:=F3 _ _ lL2;rw[hK]at m1 lK3 hKl;obtain⟨s3,v!⟩:∃s,s2++[aS.lst [.int 0]]++[aV (List.replicate steps 0)]=s:=⟨_,rfl⟩
 have m1':bZ (.loc s2.length) (.int S) (s2++[aS.lst [.int 0]])=.ok (.loc K) s3:=by rw[<-v!];exact m1
 rw[v!]at F3 F3' lK3 lm3 lL3;obtain⟨s4,y7,y8,y9,Gd,el,hF4,lQ,lR⟩:=Ct (n:=n) (x5:=some (.int S)) hp ⟨t1,t2⟩ xT hb lm3 lL3 lK3 (by lia) (by lia) (by lia) sL tP;have dw:=Qx (st:=s3) (j:=S-1) (k:=-1) (by lia) (by lia) (by decide) (by decide);rw[show(S-1 - -1).toNat=steps by lia]at dw;rw[<-hS]at el;obtain⟨lq,lr⟩:=yK p t as bs steps steps;have r1:=dq hz (aB lQ) (by rw[lq,VB];lia);have r2:=dq hz (aB (cR lR [aS.lst ((cm ((dv p t as bs steps steps).1.map (·.fmod p))).map ah.int)])) (by rw[lr,VB];lia);have GB:s2.length<=s4.length:=by rw[<-hF4.1];exact F3.len
 refine⟨s4++[aV (cS p as bs)]++[aV (kY p as bs)],s4.length,(s4++[aS.lst ((cm ((dv p t as bs steps steps).1.map (·.fmod p))).map ah.int)]).length,?_,?_,by lia,by rw[Vv];lia,by rw[Vv];simp,?_,?_⟩
 .unfold cS kY;rw[et,<-xT];simp only[PM.parted,bb,aj,ax,aL,a9,av,aH,aw,ay,ar,iG,j!,bu,bH,iW,bj,az,aq,fX,ic,au,dz,gk,aG,aZ,a!,gm,gE,fI,aK,aU,aD,Vs,VE,Vz,Vu,Vy,Vr,Vn,Vt,Nat.reduceSub,Vm,Vx,Nat.reduceAdd,VB,Nat.reduceLeDiff,↓reduceIte,L',Iq,c1,gx,jR,ei,k1,k2,emx,m1',dw,el,r1,r2]
 .intro a c ha;have:=bx ha;exact cR (cR (hF4.2 a c (by lia) (by lia) (F3' _ _ ha)) _) _
 .unfold cS;rw[et,<-xT];exact cR (bf _ _) _
 .unfold cS kY;rw[et,<-xT];exact bf _ _
theorem Row.sm(hp:fJ p=true)(h:Row p as):Sm as:=λa ha=>by have:=h.J5 a ha;have:=aJ hp;lia
theorem yL(as bs:_a)(f:Int)(k:Nat):cf (i' as bs f) k=cf as k+f*cf bs k:=by
 unfold i';rw[Cp (max as.length bs.length) (λk=>as.getD k 0+f*bs.getD k 0)];split
 .rfl
 .rw[fK (ns:=as) (by lia),fK (ns:=bs) (by lia),Wn];rfl
theorem Ji{a b:Nat}(h1:st[a]?=some (aV R))(h2:st[b]?=some (aV R)):pj 15 st (.loc a) (.loc b)=some true:=by unfold pj;simp only[vw,aB h1,aB h2];exact nZ st 13 _ (si 13 R)
theorem qR.nil(st:af):qR st [] []:=⟨rfl,λi l R h _=>by simp at h⟩
theorem qR.cons{st:af}{l:Nat}{ls:List Nat}{R:_a}{Rs:List (_a)}(h:st[l]?=some (aV R))(r:qR st ls Rs):qR st (l::ls) (R::Rs):=⟨by rw[Vm,Vm,r.1],λi l' R' h1 h2=>by
 cases i with
 |zero=>cases h1;cases h2;exact h
 |succ i=>exact r.2 i l' R' h1 h2⟩
theorem Jj(h:as.length+bs.length<=k+1):mF as (cf bs) k=0:=by rw[<-yJ];exact AO as bs k as.length h
theorem bC(as bs:_a)(k:Nat):cf (bW as bs) k=mF as (cf bs) k:=by
 unfold bW;rw[Cp (as.length+bs.length-1) (λk=>oy as bs as.length k),yJ];split
 .rfl
 .rw[Jj (by lia)]
def pX(p:Int)(as bs:_a):_a:=if as=[]\/bs=[] then[]else cm ((bW as bs).map (·.fmod p))
theorem k_(f:Cf)(k:Nat):mF [] f k=0:=rfl
theorem D?(as:_a)(k:Nat):mF as (cf []) k=0:=by rw[de];rfl
theorem Ea(hp:0<p)(as bs:_a):ba p (cf (pX p as bs)) (mF as (cf bs)):=by
 unfold pX;split
 .rename_i h;rcases h with rfl|rfl
  .exact ba.of_eq λk=>by rw[fB,k_]
  .exact ba.of_eq λk=>by rw[fB,D?]
 .exact(Row.cg hp _).trans (ba.of_eq (bC as bs))
theorem pY(p:Int)(as bs:_a):(pX p as bs).length<=as.length+bs.length-1/\(as=[]->(pX p as bs).length=0):=by
 unfold pX;split
 .exact⟨by simp,λ_=>rfl⟩
 .rename_i h;refine⟨?_,λz=>absurd (.inl z) h⟩;refine V? (gZ _) ?_;rw[Vq,xx];exact VD _
def mI(p:Int)(as bs:_a):_a:=cm ((i' as bs (-1)).map (·.fmod p))
theorem yM(hp:0<p)(as bs:_a):ba p (cf (mI p as bs)) (λk=>cf as k-cf bs k):=(Row.cg hp _).trans (ba.of_eq λk=>by rw[yL];lia)
theorem vh(p:Int)(as bs:_a):(mI p as bs).length<=max as.length bs.length:=by refine V? (gZ _) ?_;rw[Vq,u?];exact VD _
def mulR(p f:Int)(as:_a):_a:=cm ((as.map (· * f)).map (·.fmod p))
theorem yN(hp:0<p)(f:Int)(as:_a):ba p (cf (mulR p f as)) (λk=>f*cf as k):=(Row.cg hp _).trans (ba.of_eq λk=>by rw[qQ (· * f) (W8 f),W9])
theorem ni(p f:Int)(as:_a):(mulR p f as).length<=as.length:=by refine V? (gZ _) ?_;rw[Vq,Vq];exact VD _
theorem ba.sub{f g f' g':Cf}(h:ba p f g)(h':ba p f' g'):ba p (λk=>f k-f' k) (λk=>g k-g' k):=λk=>by have:=(h k).add (h' k).neg;rw[show f k + -f' k=f k-f' k by lia,show g k + -g' k=g k-g' k by lia]at this;exact this
theorem ba.smul{f g:Cf}(c:Int)(h:ba p f g):ba p (λk=>c*f k) (λk=>c*g k):=λk=>(h k).Cm c
theorem Cu(f g:Cf)(as:_a)(k:Nat):mF as (λj=>f j-g j) k=mF as f k-mF as g k:=by have h1:=nh f (λj => -1*g j) as k;rw[vg,bR (g:=λj=>f j-g j) (λj=>by show f j + -1*g j=f j-g j;lia)]at h1;lia
theorem xD{u q:_a}(h:ba p (cf u) (λk=>cf u0 k-mF q (cf u1) k))(A:_a):ba p (mF u (cf A)) (λk=>mF u0 (cf A) k-mF q (mF u1 (cf A)) k):=by refine(ba.of_eq (de u A)).trans ((h.mF A).trans (ba.of_eq λk=>?_));rw[Cu,de A u0,kX (cf u1) A q,bR (de A u1)]
theorem Gf{u:_a}(h:ba p (cf u) (λk=>cf u0 k+cf u1 k))(A:_a):ba p (mF u (cf A)) (λk=>mF u0 (cf A) k+mF u1 (cf A) k):=by refine(ba.of_eq (de u A)).trans ((h.mF A).trans (ba.of_eq λk=>?_));rw[nh,de A u0,de A u1]
theorem qT{c:Int}{u:_a}(h:ba p (cf u) (λk=>c*cf u0 k))(A:_a):ba p (mF u (cf A)) (λk=>c*mF u0 (cf A) k):=by refine(ba.of_eq (de u A)).trans ((h.mF A).trans (ba.of_eq λk=>?_));rw[vg,de A u0]
theorem fC(x q A:_a)(k:Nat):mF (bW x q) (cf A) k=mF x (mF q (cf A)) k:=by rw[de,bR (bC x q),kX (cf q) A x,bR (de A q)]
theorem yO:∀(as bs:_a),as≠[]->bs≠[]->mF as (cf bs) (as.length-1+(bs.length-1))=aO as*aO bs
 |[],_,h,_=>absurd rfl h
 |[a],bs,_,hb=>by
  show a*cf bs (0+(bs.length-1))+gO (λ_=>0) (0+(bs.length-1))=a*aO bs;rw[V8];have:gO (λ_=>(0:Int)) (bs.length-1)=0:=by cases bs.length-1<;>rfl
  rw[this,Xq];rfl
 |a::a'::as,bs,_,hb=>by have QO:0<bs.length:=VJ.mpr hb;have ih:=yO (a'::as) bs (by simp) hb;show a*cf bs ((a::a'::as).length-1+(bs.length-1))+gO (mF (a'::as) (cf bs)) ((a::a'::as).length-1+(bs.length-1))=_;rw[show(a::a'::as).length-1+(bs.length-1)=((a'::as).length-1+(bs.length-1))+1 by simp;lia];show a*cf bs _+mF (a'::as) (cf bs) ((a'::as).length-1+(bs.length-1))=_;rw[ih,fK (by simp;lia),Wn,X2];rfl
theorem Row.last(hp:0<p)(h:Row p as)(hn:as≠[]):0<aO as/\aO as<p:=by have h1:=AR h.cut hn;have h2:=h.GA hp (as.length-1);have e:aO as=cf as (as.length-1):=rfl;rw[e];lia
theorem nj(hp:0<p){r x G:_a}(hr:Row p r)(hG:G≠[])(h1:aO G=1)(hl:r.length<G.length)(h:ba p (cf r) (mF x (cf G))):r=[]:=by
 have hG0:0<G.length:=VJ.mpr hG;have hX:=Row.of hp x;have cX:=Row.cg hp x;have h':ba p (cf r) (mF (cm (x.map (·.fmod p))) (cf G)):=h.trans (ba.mFl cX G).symm;revert hX h';generalize cm (x.map (·.fmod p))=X;intro hX h';by_cases hXe:X=[]
 .subst hXe;exact Row.ext hp hr (Row.nil p) (h'.trans (ba.of_eq λk=>by rw[fB,k_]))
 .exfalso;have t:=yO X G hXe hG;rw[h1,Xl]at t;have q:=h' (X.length-1+(G.length-1));rw[t,fK (by lia)]at q;have e:=Cg.eq hp q;have l:=hX.last hp hXe;rw[d? (by lia) l.2,d? (YU _) hp]at e;lia
structure iQ(p:Int)(A B:_a)(N:Nat)(g0 u0 v0 g1 u1 v1:_a):Prop where
 r0:Row p g0
 ru0:Row p u0
 rv0:Row p v0
 r1:Row p g1
 ru1:Row p u1
 rv1:Row p v1
 c0:ba p (cf g0) (λk=>mF u0 (cf A) k+mF v0 (cf B) k)
 c1:ba p (cf g1) (λk=>mF u1 (cf A) k+mF v1 (cf B) k)
 ne:g0≠[]\/g1≠[]
 mA:∃x0 x1,ba p (cf A) (λk=>mF x0 (cf g0) k+mF x1 (cf g1) k)
 mB:∃x0 x1,ba p (cf B) (λk=>mF x0 (cf g0) k+mF x1 (cf g1) k)
 QS:u1.length+g0.length<=N
 lv1:v1.length+g0.length<=N
 UJ:u0.length+g1.length<=N
 lv0:v0.length+g1.length<=N
theorem yP(hp:2<=p):Row p [1]:=⟨rfl,λa h=>by rw[VN.mp h];lia⟩
theorem iQ.start(hp:2<=p){A:_a}(hA:Row p A)(hB:Row p B)(hn:A≠[]\/B≠[]):iQ p A B (A.length+B.length+1) A [1] [] B [] [1] where
 r0:=hA
 ru0:=yP hp
 rv0:=Row.nil p
 r1:=hB
 ru1:=Row.nil p
 rv1:=yP hp
 c0:=ba.of_eq λk=>by rw[k_,de];show _=mF A one k+0;rw[e_];lia
 c1:=ba.of_eq λk=>by rw[k_,de];show _=0+mF B one k;rw[e_];lia
 ne:=hn
 mA:=⟨[1],[],ba.of_eq λk=>by rw[k_,de];show _=mF A one k+0;rw[e_];lia⟩
 mB:=⟨[],[1],ba.of_eq λk=>by rw[k_,de];show _=0+mF B one k;rw[e_];lia⟩
 QS:=by simp;lia
 lv1:=by simp;lia
 UJ:=by simp;lia
 lv0:=by simp;lia
theorem comb{C g0 q g1 r x0 x1:_a}(h:ba p (cf C) (λk=>mF x0 (cf g0) k+mF x1 (cf g1) k))(hd:ba p (cf g0) (λk=>mF q (cf g1) k+cf r k)):∃y0 y1,ba p (cf C) (λk=>mF y0 (cf g1) k+mF y1 (cf r) k):=by refine⟨i' (bW x0 q) x1 1,x0,h.trans ?_⟩;have e1:ba p (mF x0 (cf g0)) (λk=>mF x0 (mF q (cf g1)) k+mF x0 (cf r) k):=(hd.mF x0).trans (ba.of_eq λk=>by rw[nh]);have e2:ba p (mF (i' (bW x0 q) x1 1) (cf g1)) (λk=>mF (bW x0 q) (cf g1) k+mF x1 (cf g1) k):=Gf (ba.of_eq λk=>by rw[yL];lia) g1;refine(ba.add e1 (ba.refl p _)).trans ?_;refine ba.trans ?_ (ba.add e2 (ba.refl p _)).symm;refine ba.of_eq λk=>?_;show mF x0 (mF q (cf g1)) k+mF x0 (cf r) k+mF x1 (cf g1) k=mF (bW x0 q) (cf g1) k+mF x1 (cf g1) k+mF x0 (cf r) k;rw[fC];lia
theorem Jk(p:Int)(as bs:_a):(kY p as bs).length<=as.length:=by unfold kY;refine V? (gZ _) ?_;rw[Vq,(yK _ _ _ _ _ _).2];exact VD _
theorem iQ.step(hp:fJ p=true){A:_a}{N:Nat}{g0 g1:_a}(h:iQ p A B N g0 u0 v0 g1 u1 v1)(hg:g1≠[]):
  iQ p A B N g1 u1 v1 (kY p g0 g1) (mI p u0 (pX p (cS p g0 g1) u1)) (mI p v0 (pX p (cS p g0 g1) v1)):=by
 have hr:=aJ hp;have fL:0<p:=by lia
 have hl:¬ aO g1 % p=0:=by have:=h.r1.last fL hg;rw[V9 (by lia) this.2];lia
 obtain⟨sq,sr,slt,sc,sl⟩:=fH hp (as:=g0) hg hl;have srl:=Jk p g0 g1;obtain⟨Q,hQ⟩:∃Q,cS p g0 g1=Q:=⟨_,rfl⟩
 obtain⟨R,hR⟩:∃R,kY p g0 g1=R:=⟨_,rfl⟩
 rw[hQ]at sq sc sl⊢;rw[hR]at sr slt sc srl⊢;have cu:ba p (cf (mI p u0 (pX p Q u1))) (λk=>cf u0 k-mF Q (cf u1) k):=(yM fL _ _).trans (ba.sub (ba.refl p _) (Ea fL Q u1));have cv:ba p (cf (mI p v0 (pX p Q v1))) (λk=>cf v0 k-mF Q (cf v1) k):=(yM fL _ _).trans (ba.sub (ba.refl p _) (Ea fL Q v1));have len:∀(w0 w1:_a),w1.length+g0.length<=N->w0.length+g1.length<=N->(mI p w0 (pX p Q w1)).length+g1.length<=N:=λw0 w1 i1 i2=>by
  have a1:=vh p w0 (pX p Q w1);have a2:=pY p Q w1;by_cases hQe:Q=[]
  .have:=a2.2 hQe;lia
  .have:0<Q.length:=VJ.mpr hQe;have:=a2.1;lia
 refine⟨h.r1,h.ru1,h.rv1,sr,Row.of fL _,Row.of fL _,h.c1,?_,.inl hg,?_,?_,len u0 u1 h.QS h.UJ,len v0 v1 h.lv1 h.lv0,?_,?_⟩
 ·-- J0 rest
  have e:ba p (cf R) (λk=>cf g0 k-mF Q (cf g1) k):=λk=>by have:=(sc k).symm.add (Cg.refl p (-(mF Q (cf g1) k)));rw[show mF Q (cf g1) k+cf R k + -mF Q (cf g1) k=cf R k by lia,show cf g0 k + -mF Q (cf g1) k=cf g0 k-mF Q (cf g1) k by lia]at this;exact this
  refine e.trans ((ba.sub h.c0 (h.c1.mF Q)).trans ?_);refine ba.trans ?_ (ba.add (xD cu A) (xD cv B)).symm;refine ba.of_eq λk=>?_;show mF u0 (cf A) k+mF v0 (cf B) k-mF Q (λk=>mF u1 (cf A) k+mF v1 (cf B) k) k=mF u0 (cf A) k-mF Q (mF u1 (cf A)) k+(mF v0 (cf B) k-mF Q (mF v1 (cf B)) k);rw[nh];lia
 .obtain⟨x0,x1,hx⟩:=h.mA;exact comb hx sc
 .obtain⟨x0,x1,hx⟩:=h.mB;exact comb hx sc
 .have:=h.QS;lia
 .have:=h.lv1;lia
theorem vi{t:Int}(hp:2<=p){g:_a}(hg:Row p g)(hn:g≠[])(ht:(t*aO g) % p=1):Row p (mulR p t g)/\mulR p t g≠[]/\aO (mulR p t g)=1/\(mulR p t g).length=g.length:=by
 have fL:0<p:=by lia
 have hg0:0<g.length:=VJ.mpr hn;have r:=Row.of fL (g.map (· * t));have c:cf (mulR p t g) (g.length-1)=1:=by unfold mulR;rw[Co,qQ _ (by rw[dA fL];exact Xv p),qQ (· * t) (W8 t),dA fL,W9];exact ht
 have l1:=ni p t g;have l2:¬ (mulR p t g).length<=g.length-1:=λz=>by rw[fK z]at c;lia
 have l:(mulR p t g).length=g.length:=by lia
 refine⟨r,λz=>by rw[z]at l;simp at l;lia,?_,l⟩;show cf (mulR p t g) ((mulR p t g).length-1)=1;rw[l];exact c
theorem iQ.done{t:Int}(hp:fJ p=true){A:_a}{N:Nat}{g u v:_a}(h:iQ p A B N g u v [] u1 v1)(hA:Row p A)(hB:Row p B)(ht:(t*aO g) % p=1):
  Row p (mulR p t g)/\mulR p t g≠[]/\aO (mulR p t g)=1/\ba p (cf A) (mF (cS p A (mulR p t g)) (cf (mulR p t g)))/\ba p (cf B) (mF (cS p B (mulR p t g)) (cf (mulR p t g))) /\
   ba p (cf (mulR p t g)) (λk=>mF (mulR p t u) (cf A) k+mF (mulR p t v) (cf B) k):=by
 have hr:=aJ hp;have fL:0<p:=by lia
 have hg:g≠[]:=by rcases h.ne with z|z;exact z;exact absurd rfl z
 obtain⟨rG,nG,lG,leG⟩:=vi hr.1 h.r0 hg ht;have cG:=yN fL t g;have hl:¬ aO (mulR p t g) % p=0:=by rw[lG,V9 (by lia) (by lia)];lia
 have one:∀C:_a,Row p C->(∃x0 x1,ba p (cf C) (λk=>mF x0 (cf g) k+mF x1 (cf []) k))->ba p (cf C) (mF (cS p C (mulR p t g)) (cf (mulR p t g))):=λC hC hx=>by
  obtain⟨x0,x1,hx⟩:=hx;obtain⟨sq,sr,slt,sc,sl⟩:=fH hp (as:=C) nG hl
  -- g is a UK of J0 plain one
  have cg:ba p (cf g) (λk=>aO g*cf (mulR p t g) k):=λk=>by
   have c1:Cg p (t*aO g) 1:=⟨t*aO g / p,by have:=Wl (t*aO g) p;lia⟩
   have c2:=(cG k).Cm (aO g);have c3:=c1.Jb (cf g k);rw[WU,show t*aO g*cf g k=aO g*(t*cf g k) by rw[<-Wx,W9 (aO g) t]]at c3;exact(c2.trans c3).symm
  have cx:ba p (cf C) (mF (x0.map (aO g * ·)) (cf (mulR p t g))):=by refine hx.trans ?_;have e1:ba p (mF x0 (cf g)) (λk=>aO g*mF x0 (cf (mulR p t g)) k):=(cg.mF x0).trans (ba.of_eq λk=>by rw[vg]);have e2:ba p (mF (x0.map (aO g * ·)) (cf (mulR p t g))) (λk=>aO g*mF x0 (cf (mulR p t g)) k):=qT (ba.of_eq λk=>by rw[qQ (aO g * ·) (Wn _)]) _;refine ba.trans ?_ e2.symm;refine ba.trans ?_ e1;exact ba.of_eq λk=>by show mF x0 (cf g) k+mF x1 (cf []) k=_;rw[D?,Xq]
  have cr:ba p (cf (kY p C (mulR p t g))) (mF (i' (x0.map (aO g * ·)) (cS p C (mulR p t g)) (-1)) (cf (mulR p t g))):=by
   have e3:ba p (mF (i' (x0.map (aO g * ·)) (cS p C (mulR p t g)) (-1)) (cf (mulR p t g))) (λk=>mF (x0.map (aO g * ·)) (cf (mulR p t g)) k-mF (cS p C (mulR p t g)) (cf (mulR p t g)) k):=by refine(ba.of_eq (de _ _)).trans (ba.of_eq λk=>?_);rw[bR (g:=λj=>cf (x0.map (aO g * ·)) j-cf (cS p C (mulR p t g)) j) (λj=>by rw[yL];lia),Cu,de _ (x0.map _),de _ (cS p C _)]
   refine ba.trans (λk=>?_) e3.symm;have:=((sc k).symm.trans (cx k)).add (Cg.refl p (-(mF (cS p C (mulR p t g)) (cf (mulR p t g)) k)));rw[show mF (cS p C (mulR p t g)) (cf (mulR p t g)) k+cf (kY p C (mulR p t g)) k + -mF (cS p C (mulR p t g)) (cf (mulR p t g)) k=cf (kY p C (mulR p t g)) k by lia]at this;show Cg p _ (mF (x0.map (aO g * ·)) (cf (mulR p t g)) k-mF (cS p C (mulR p t g)) (cf (mulR p t g)) k);rw[show mF (x0.map (aO g * ·)) (cf (mulR p t g)) k-mF (cS p C (mulR p t g)) (cf (mulR p t g)) k=mF (x0.map (aO g * ·)) (cf (mulR p t g)) k + -mF (cS p C (mulR p t g)) (cf (mulR p t g)) k by lia];exact this
  have z:=nj fL sr nG lG slt cr;rw[z]at sc;exact sc.trans (ba.of_eq λk=>by show mF _ _ k+cf [] k=_;rw[fB,Xq])
 refine⟨rG,nG,lG,one A hA h.mA,one B hB h.mB,?_⟩;refine cG.trans ((h.c0.smul t).trans ?_);refine ba.trans ?_ (ba.add (qT (yN fL t u) A) (qT (yN fL t v) B)).symm;exact ba.of_eq λk=>by show t*(mF u (cf A) k+mF v (cf B) k)=_;rw[Xm]
def iH(f:Cf):Cf:=λk=>((k:Int)+1)*f (k+1)
theorem QT(h:Cf)(k:Nat):iH (gO h) k=h k+gO (iH h) k:=by
 unfold iH;cases k with
 |zero=>simp[gO]
 |succ k=>
  show(((k+1:Nat):Int)+1)*h (k+1)=h (k+1)+((k:Int)+1)*h (k+1);rw[YV,WU]
  push_cast
  lia
def qV:_a->_a->_a
 |[],bs=>bs
 |a::as,[]=>a::as
 |a::as,b::bs=>(a+b)::qV as bs
theorem jL(g:Cf):∀(as bs:_a)(k:Nat),mF (qV as bs) g k=mF as g k+mF bs g k
 |[],bs,k=>by show mF bs g k=mF [] g k+mF bs g k;rw[k_,X2]
 |a::as,[],k=>by show mF (a::as) g k=mF (a::as) g k+mF [] g k;rw[k_,Xq]
 |a::as,b::bs,k=>by show(a+b)*g k+gO (mF (qV as bs) g) k=(a*g k+gO (mF as g) k)+(b*g k+gO (mF bs g) k);rw[dI (jL g as bs),yI,YV];lia
theorem pZ(g:Cf)(c:Int):∀(as:_a)(k:Nat),mF (as.map (c * ·)) g k=c*mF as g k
 |[],k=>by show(0:Int)=c*0;rw[Wn]
 |a::as,k=>by show(c*a)*g k+gO (mF (as.map (c * ·)) g) k=c*(a*g k+gO (mF as g) k);rw[dI (pZ g c as),D9,Xm,Wx]
def dL:_a->_a
 |[]=>[]
 |_::as=>qV as (0::dL as)
theorem AW(g:Cf):∀(as:_a)(k:Nat),iH (mF as g) k=mF as (iH g) k+mF (dL as) g k
 |[],k=>by show((k:Int)+1)*0=0+0;rw[Wn];rfl
 |a::as,k=>by
  have e1:iH (mF (a::as) g) k=a*iH g k+iH (gO (mF as g)) k:=by show((k:Int)+1)*(a*g (k+1)+gO (mF as g) (k+1))=a*(((k:Int)+1)*g (k+1))+((k:Int)+1)*gO (mF as g) (k+1);rw[Xm,<-Wx,<-Wx,W9 _ a]
  rw[e1,QT,dI (AW g as),yI];show a*iH g k+(mF as g k+(gO (mF as (iH g)) k+gO (mF (dL as) g) k))=(a*iH g k+gO (mF as (iH g)) k)+mF (qV as (0::dL as)) g k;rw[jL];show _=_+(mF as g k+(0*g k+gO (mF (dL as) g) k));rw[W8];lia
theorem Mw(c:Int)(f:Cf)(k:Nat):mF [c] f k=c*f k:=by show c*f k+gO (mF [] f) k=_;cases k<;>simp[gO,mF]
theorem ba.iH{f g:Cf}(h:ba p f g):ba p (PG.iH f) (PG.iH g):=λk=>(h (k+1)).Cm _
theorem nk(as:_a)(k:Nat):cf (dD as) k=iH (cf as) k:=by
 unfold dD iH cf fw;rw[VF,VM,VM];by_cases h:k<as.length-1
 .rw[Wd h];show(1+(k:Int))*as.getD (1+(k:Int)).toNat 0=((k:Int)+1)*as.getD (k+1) 0;rw[show(1+(k:Int)).toNat=k+1 by lia,Int.add_comm]
 .rw[V1 (by rw[VW];lia)];show(0:Int)=((k:Int)+1)*as.getD (k+1) 0;rw[VF,V1 (by lia)];show(0:Int)=((k:Int)+1)*0;rw[Wn]
def Dvd(p:Int)(U:_a)(f:Cf):Prop:=∃x:_a,ba p f (mF x (cf U))
section
variable{f g:Cf}
theorem Dvd.cg(h:Dvd p U f)(e:ba p g f):Dvd p U g:=let⟨x,hx⟩:=h;⟨x,e.trans hx⟩
theorem Dvd.add(h:Dvd p U f)(k:Dvd p U g):Dvd p U (λj=>f j+g j):=by obtain⟨x,hx⟩:=h;obtain⟨y,hy⟩:=k;exact⟨qV x y,(hx.add hy).trans (ba.of_eq λj=>(jL (cf U) x y j).symm)⟩
theorem Dvd.mul(h:Dvd p U f)(y:_a):Dvd p U (mF y f):=by obtain⟨x,hx⟩:=h;exact⟨bW y x,(hx.mF y).trans (ba.of_eq λj=>(fC y x U j).symm)⟩
theorem Dvd.neg(h:Dvd p U f):Dvd p U (λj => -1*f j):=by obtain⟨x,hx⟩:=h;exact⟨x.map ((-1) * ·),(hx.smul (-1)).trans (ba.of_eq λj=>(pZ (cf U) (-1) x j).symm)⟩
theorem Dvd.self(y:_a):Dvd p U (mF y (cf U)):=⟨y,ba.refl _ _⟩
theorem Dvd.sub(h:Dvd p U (λj=>f j+g j))(k:Dvd p U g):Dvd p U f:=(h.add k.neg).cg (ba.of_eq λj=>by lia)
end
theorem Mx(hp:0<p){F z:_a}(hF:F≠[])(h1:aO F=1)(h:ba p (mF F (cf z)) (λ_=>0)):ba p (cf z) (λ_=>0):=by
 obtain⟨r,hr⟩:∃r,r=cm (z.map (·.fmod p)):=⟨_,rfl⟩
 have R:Row p r:=by rw[hr];exact Row.of hp z
 have e:ba p (cf r) (cf z):=by rw[hr];exact Row.cg hp z
 by_cases hz:r=[]
 .rw[hz]at e;exact e.symm.trans (ba.of_eq λk=>fB k)
 .exfalso;have t:=yO F r hF hz;have c:=((e.mF F).trans h) (F.length-1+(r.length-1))
  rw[t,h1,WU]at c;have lr:=R.last hp hz;obtain⟨k,hk⟩:=c;have:k=0:=by
   rcases Int.lt_trichotomy k 0 with q|q|q
   .have:=WC (show k<=-1 by lia) (Int.le_of_lt hp);lia
   .exact q
   .have:=WC (show 1<=k by lia) (Int.le_of_lt hp);lia
  rw[this]at hk;lia
theorem yQ(hp:0<p){F y z:_a}(hF:F≠[])(h1:aO F=1)(h:ba p (mF F (cf y)) (mF F (cf z))):ba p (cf y) (cf z):=by
 obtain⟨w,hw⟩:∃w,w=qV y (z.map ((-1) * ·)):=⟨_,rfl⟩
 have cw:∀k,cf w k=cf y k-cf z k:=λk=>by have:=jL one y (z.map ((-1) * ·)) k;rw[pZ,e_,e_,e_,<-hw]at this;rw[this];lia
 have h0:ba p (mF F (cf w)) (λ_=>0):=by refine(ba.of_eq (bR cw F)).trans ((ba.of_eq λk=>Cu (cf y) (cf z) F k).trans ?_);exact(h.sub (ba.refl p (mF F (cf z)))).trans (ba.of_eq λk=>by lia)
 have e:=Mx hp hF h1 h0;intro k;have:=e k;rw[cw]at this;obtain⟨j,hj⟩:=this;have hj:cf y k-cf z k=0+p*j:=hj;exact⟨j,by lia⟩
theorem Jl{f S W:_a}(h1:ba p (cf f) (mF S (cf U)))(h2:ba p (iH (cf f)) (mF W (cf U))):Dvd p U (mF S (iH (cf U))):=by have e:ba p (mF W (cf U)) (λk=>mF S (iH (cf U)) k+mF (dL S) (cf U) k):=h2.symm.trans (h1.iH.trans (ba.of_eq λk=>AW (cf U) S k));exact Dvd.sub ((Dvd.self W).cg e.symm) (Dvd.self (dL S))
theorem ba.mFL{RN:_a}(h:ba p (cf as) (cf RN))(z:_a):ba p (PG.mF as (cf z)) (PG.mF RN (cf z)):=h.mFl z
theorem My(hp:0<p){S F P V a b:_a}(hF:F≠[])(l1:aO F=1)(hS:ba p (cf S) (mF P (cf F)))(hU:ba p (cf U) (mF V (cf F)))(hB:ba p (cf F) (λk=>mF a (cf S) k+mF b (cf U) k))(h:Dvd p U (mF S (iH (cf U)))):Dvd p V (mF F (iH (cf V))):=by
 obtain⟨D,hD⟩:∃D,D=dD V:=⟨_,rfl⟩
 have cD:∀k,cf D k=iH (cf V) k:=λk=>by rw[hD];exact nk V k
 -- U is F times V,and aP UL
 have hU':ba p (cf U) (mF F (cf V)):=hU.trans (ba.of_eq λk=>de V F k);have hd:ba p (iH (cf U)) (λk=>mF F (cf D) k+mF (dL F) (cf V) k):=hU'.iH.trans (ba.of_eq λk=>by rw[AW,bR cD]);obtain⟨E,hE⟩:∃E,E=qV (bW F D) (bW (dL F) V):=⟨_,rfl⟩
 have cE:∀k,cf E k=mF F (cf D) k+mF (dL F) (cf V) k:=λk=>by have:=jL one (bW F D) (bW (dL F) V) k;rw[e_,e_,e_,<-hE,bC,bC]at this;exact this
 have hdE:ba p (iH (cf U)) (cf E):=hd.trans (ba.of_eq λk=>(cE k).symm);obtain⟨x,hx⟩:=h
 -- F times (P times E) is F times (x times V)
 have hSP:ba p (cf S) (cf (bW P F)):=hS.trans (ba.of_eq λk=>(bC P F k).symm);have e1:ba p (mF S (iH (cf U))) (mF F (cf (bW P E))):=by refine(hdE.mF S).trans ((hSP.mFL E).trans (ba.of_eq λk=>?_));rw[fC P F E,kX (cf E) P F,bR (λj=>(bC P E j).symm) F]
 have e2:ba p (mF x (cf U)) (mF F (cf (bW x V))):=by refine(hU'.mF x).trans (ba.of_eq λk=>?_);rw[kX (cf V) x F,bR (λj=>(bC x V j).symm) F]
 have e3:ba p (cf (bW P E)) (cf (bW x V)):=yQ hp hF l1 (e1.symm.trans (hx.trans e2))
 -- so V divides P times F times V's UL
 have e4:ba p (λk=>mF P (mF F (cf D)) k+mF P (mF (dL F) (cf V)) k) (mF x (cf V)):=by refine ba.trans (ba.of_eq λk=>?_) (e3.trans (ba.of_eq λk=>bC x V k));rw[bC,bR cE P,nh]
 have d1:Dvd p V (mF P (mF F (cf D))):=Dvd.sub ((Dvd.self x).cg e4) ((Dvd.self (dL F)).mul P)
 -- one of P and V
 have e5:ba p (cf [1]) (cf (qV (bW a P) (bW b V))):=by
  refine yQ hp hF l1 ?_;have q:ba p (cf F) (λk=>mF a (mF P (cf F)) k+mF b (mF V (cf F)) k):=hB.trans ((hS.mF a).add (hU.mF b));refine ba.trans (ba.of_eq λk=>de F [1] k) (ba.trans (ba.of_eq λk=>?_) (q.trans (ba.of_eq λk=>?_)))
  .rw[Mw,WU]
  .rw[de F,jL,fC,fC]
 have e6:ba p (mF F (cf D)) (λk=>mF a (mF P (mF F (cf D))) k+mF b (mF V (mF F (cf D))) k):=by
  obtain⟨Z,hZ⟩:∃Z,Z=bW F D:=⟨_,rfl⟩
  have cZ:∀k,cf Z k=mF F (cf D) k:=λk=>by rw[hZ];exact bC F D k
  have q:=e5.mFL Z;refine ba.trans (ba.of_eq λk=>?_) (q.trans (ba.of_eq λk=>?_))
  .rw[<-cZ,Mw,WU]
  .rw[jL,fC,fC];have c1:∀(y:_a)(j:Nat),mF y (cf Z) j=mF y (mF F (cf D)) j:=λy j=>bR cZ y j;rw[bR (c1 P) a,bR (c1 V) b]
 have d2:Dvd p V (mF V (mF F (cf D))):=by refine⟨bW F D,ba.of_eq λk=>?_⟩;rw[fC F D V,kX (cf D) V F];exact bR (λj=>de V D j) F k
 have d3:=(d1.mul a).add (d2.mul b);exact(d3.cg e6).cg (ba.of_eq λk=>(bR cD F k).symm)
theorem QU{c:Int}(hp:fJ p=true)(hU:Row p U)(nU:U≠[])(l1:aO U=1)(hc:¬ c % p=0)(h:Dvd p U (mF [c] (iH (cf U)))):((U.length:Int)-1) % p=0:=by
 have hr:=aJ hp;have fL:0<p:=by lia
 obtain⟨_,t,_,_,_,ht⟩:=fv hp hc [];obtain⟨r,hrr⟩:∃r,r=cm ((dD U).map (·.fmod p)):=⟨_,rfl⟩
 have R:Row p r:=by rw[hrr];exact Row.of fL _
 have cr:ba p (cf r) (iH (cf U)):=by rw[hrr];exact(Row.cg fL _).trans (ba.of_eq (nk U))
 have lu:0<U.length:=VJ.mpr nU;have lr:r.length<U.length:=by
  have h1:=gZ ((dD U).map (·.fmod p));have h2:(dD U).length=U.length-1:=by unfold dD fw;rw[Vq,Vq,VW]
  rw[<-hrr,Vq]at h1;lia
 obtain⟨x,hx⟩:=h;have e1:ba p (λk=>t*(c*iH (cf U) k)) (mF (x.map (t * ·)) (cf U)):=(ba.smul t (ba.trans (ba.of_eq λk=>(Mw c (iH (cf U)) k).symm) hx)).trans (ba.of_eq λk=>(pZ (cf U) t x k).symm);have e2:ba p (iH (cf U)) (λk=>t*(c*iH (cf U) k)):=λk=>by
  have q:Cg p (t*c) 1:=⟨(t*c) / p,by have:=Wl (t*c) p;lia⟩
  have:=q.Jb (iH (cf U) k);rw[WU,Wx]at this;exact this.symm
 have rn:=nj fL R nU l1 lr (cr.trans (e2.trans e1));rw[rn]at cr;by_cases hU1:U.length=1
 .rw[hU1];rfl
 .have q:=cr (U.length-2);rw[fB]at q;have e3:iH (cf U) (U.length-2)=((U.length:Int)-1)*aO U:=by show(((U.length-2:Nat):Int)+1)*cf U (U.length-2+1)=_;rw[show U.length-2+1=U.length-1 by lia];have:cf U (U.length-1)=aO U:=rfl;rw[this,show(((U.length-2:Nat):Int)+1)=(U.length:Int)-1 by lia]
  rw[e3,l1,Xl]at q;obtain⟨k,hk⟩:=q;have:(U.length:Int)-1=p*(-k):=by rw[X8];lia
  rw[this];exact Int.mul_emod_right p (-k)
end PG
namespace SA
section
variable{R:Type}[Lean.Grind.CommRing R]{d:R->R}
theorem UM(dm:∀a b,d (a*b)=d a*b+a*d b){S D S1 z T U W V c a b:R}(hS:S=D*S1)(hz:d S=D*z)(hT:T*U=S*d U)(hb:a*D+b*T=1)(hW:D*d W=c*W*d D)(hU:U=W*V)(cn:∀x y:R,W*x=W*y->x=y):∃V',V=D*V':=by
 have h1:T*V=D*(c*(z-d S1)*V+S1*d V):=by
  apply cn;have e1:d S=d D*S1+D*d S1:=by rw[hS,dm]
  have e2:d U=d W*V+W*d V:=by rw[hU,dm]
  grind
 exact⟨a*V+b*(c*(z-d S1)*V+S1*d V),by grind⟩
theorem abb(dm:∀a b,d (a*b)=d a*b+a*d b){D W c:R}(hW:D*d W=c*W*d D):D*d (D*W)=(1+c)*(D*W)*d D:=by rw[dm];grind
end
section
variable{R:Type}[Lean.Grind.CommRing R]{d:R->R}
def ee(a b:R):Prop:=∃x y,x*a+y*b=1
theorem ee.symm{a b:R}(h:ee a b):ee b a:=by obtain⟨x,y,h⟩:=h;exact⟨y,x,by grind⟩
theorem ee.mul{a b c:R}(h:ee a b)(k:ee a c):ee a (b*c):=by obtain⟨x,y,h⟩:=h;obtain⟨z,w,k⟩:=k;exact⟨x*z*a+x*w*c+y*b*z,y*w,by grind⟩
theorem ee.QV{a b c:R}(h:ee a (b*c)):ee a b:=by obtain⟨x,y,h⟩:=h;exact⟨x,y*c,by grind⟩
theorem ee.one{a:R}:ee a 1:=⟨0,1,by grind⟩
theorem Mz(dm:∀a b,d (a*b)=d a*b+a*d b){P F:R}(h:ee (P*F) (d (P*F))):ee P F/\ee P (d P)/\ee F (d F):=by obtain⟨x,y,h⟩:=h;rw[dm]at h;exact⟨⟨x*F+y*d F,y*d P,by grind⟩,⟨x*F+y*d F,y*F,by grind⟩,⟨x*P+y*d P,y*P,by grind⟩⟩
theorem Eb{a b c x y:R}(h:ee a b)(h1:a=c*x)(h2:b=c*y):∃z,c*z=1:=by obtain⟨u,v,h⟩:=h;exact⟨u*x+v*y,by grind⟩
theorem Jm{P F U S a b:R}(hS:S=P*F)(hF:F=a*S+b*U)(hPF:ee P F):ee P U:=by obtain⟨x,y,h⟩:=hPF;exact⟨x+y*a*F,y*b,by grind⟩
end
end SA
namespace PG
open PySem.Spec L2 MN
open PyProof.Rows hiding St kindOf
def UN(p:Int):Setoid (_a):=⟨λa b=>ba p (cf a) (cf b),⟨λa=>ba.refl p _,λh=>h.symm,λh k=>h.trans k⟩⟩
def aE(p:Int):Type:=Quotient (UN p)
def aN(a:_a):aE p:=Quotient.mk (UN p) a
theorem mk_eq{a b:_a}(h:ba p (cf a) (cf b)):(aN a:aE p)=aN b:=Quotient.sound h
theorem NQ{a b:_a}(h:(aN a:aE p)=aN b):ba p (cf a) (cf b):=Quotient.exact h
theorem dO{P:aE p->Prop}(h:∀a,P (aN a)):∀x,P x:=λx=>Quotient.inductionOn x h
theorem d!(a b:_a)(k:Nat):cf (qV a b) k=cf a k+cf b k:=by rw[<-e_ (qV a b) k,jL,e_,e_]
theorem oh(c:Int)(a:_a)(k:Nat):cf (a.map (c * ·)) k=c*cf a k:=by rw[<-e_ (a.map (c * ·)) k,pZ,e_]
instance:Add (aE p):=⟨λx y=>Quotient.liftOn₂ x y (λa b=>aN (qV a b)) λa b a' b' h k=>mk_eq (((ba.of_eq (d! a b)).trans (ba.add h k)).trans (ba.of_eq (d! a' b')).symm)⟩
theorem UO{a b a' b':_a}(h:ba p (cf a) (cf a'))(k:ba p (cf b) (cf b')):ba p (cf (bW a b)) (cf (bW a' b')):=
 ((ba.of_eq (bC a b)).trans ((k.mF a).trans (h.mFl b'))).trans (ba.of_eq (bC a' b')).symm
instance:Mul (aE p):=⟨λx y=>Quotient.liftOn₂ x y (λa b=>aN (bW a b)) λa b a' b' h k=>mk_eq (UO h k)⟩
instance:Neg (aE p):=⟨λx=>Quotient.liftOn x (λa=>aN (a.map (-1 * ·))) λa b h=>mk_eq (((ba.of_eq (oh (-1) a)).trans (h.smul (-1))).trans (ba.of_eq (oh (-1) b)).symm)⟩
instance:Sub (aE p):=⟨λx y=>x + -y⟩
instance:NatCast (aE p):=⟨λn=>aN [(n:Int)]⟩
instance (n:Nat):OfNat (aE p) n:=⟨aN [(n:Int)]⟩
instance:IntCast (aE p):=⟨λn=>aN [n]⟩
instance:SMul Nat (aE p):=⟨λn x=>aN [(n:Int)]*x⟩
instance:SMul Int (aE p):=⟨λn x=>aN [n]*x⟩
def UP(x:aE p):Nat->aE p
 |0=>aN [1]
 |n+1=>UP x n*x
instance:HPow (aE p) Nat (aE p):=⟨UP⟩
theorem QW(a b:_a):(aN a:aE p)+aN b=aN (qV a b):=rfl
theorem Cv(a b:_a):(aN a:aE p)*aN b=aN (bW a b):=rfl
theorem QX(a:_a):-(aN a:aE p)=aN (a.map (-1 * ·)):=rfl
theorem iX{a b:_a}(h:∀k,cf a k=cf b k):(aN a:aE p)=aN b:=mk_eq (ba.of_eq h)
theorem k!(c:Int)(k:Nat):cf [c] k=c*one k:=by
 cases k with
 |zero=>show c=c*1;lia
 |succ k=>rw[b_,fB];show 0=c*cf [1] (k+1);rw[b_,fB,Wn]
theorem vj(c:Int)(f:Cf)(k:Nat):mF [c] f k=c*f k:=Mw c f k
theorem cK(x y:aE p):x*y=y*x:=by revert x;refine dO λa=>?_;revert y;refine dO λb=>?_;rw[Cv,Cv];exact iX λk=>by rw[bC,bC,de]
theorem AX(x y:aE p):x+y=y+x:=by revert x;refine dO λa=>?_;revert y;refine dO λb=>?_;exact iX λk=>by rw[d!,d!];lia
theorem yR(x y z:aE p):x+y+z=x+(y+z):=by revert x;refine dO λa=>?_;revert y;refine dO λb=>?_;revert z;refine dO λc=>?_;exact iX λk=>by rw[d!,d!,d!,d!];lia
theorem fE(x y z:aE p):x*y*z=x*(y*z):=by
 revert x;refine dO λa=>?_;revert y;refine dO λb=>?_;revert z;refine dO λc=>?_;exact iX λk=>by rw[bC,bC,fC];exact bR (λj=>(bC b c j).symm) a k
theorem vk(x y z:aE p):x*(y+z)=x*y+x*z:=by
 revert x;refine dO λa=>?_;revert y;refine dO λb=>?_;revert z;refine dO λc=>?_;exact iX λk=>by rw[bC,d!,bC,bC,<-nh];exact bR (λj=>d! b c j) a k
theorem vm(x:aE p):(aN [1]:aE p)*x=x:=by revert x;refine dO λa=>?_;exact iX λk=>by rw[bC,vj,WU]
theorem oj(k:Nat):cf [0] k=0:=by rw[k!,W8]
theorem sv(x:aE p):(aN [0]:aE p)*x=aN [0]:=by revert x;refine dO λa=>?_;exact iX λk=>by rw[bC,vj,W8,oj]
theorem AY(x:aE p):x+(aN [0]:aE p)=x:=by revert x;refine dO λa=>?_;exact iX λk=>by rw[d!,oj,Xq]
theorem p4(a b:Int):(aN [a+b]:aE p)=aN [a]+aN [b]:=iX λk=>by rw[d!,k!,k!,k!,YV]
instance:Lean.Grind.CommRing (aE p) where
 natCast:=inferInstance
 ofNat:=inferInstance
 nsmul:=inferInstance
 npow:=inferInstance
 add_zero:=AY
 add_comm:=AX
 add_assoc:=yR
 mul_assoc:=fE
 mul_one x:=(cK _ _).trans (vm x)
 one_mul:=vm
 left_distrib:=vk
 right_distrib x y z:=by rw[cK,vk,cK z x,cK z y]
 zero_mul:=sv
 mul_zero x:=(cK _ _).trans (sv x)
 pow_zero _:=rfl
 pow_succ _ _:=rfl
 ofNat_succ n:=p4 n 1
 neg_add_cancel x:=by revert x;refine dO λa=>?_;exact iX λk=>by rw[d!,oh];show _=cf [0] k;rw[oj];lia
 sub_eq_add_neg _ _:=rfl
 intCast:=inferInstance
 zsmul:=inferInstance
 neg_zsmul i x:=by
  revert x;refine dO λa=>?_;exact iX λk=>by rw[oh,bC,bC,vj,vj,YT,YT,WU]
 intCast_neg i:=iX λk=>by rw[oh,k!,k!,YT,YT,WU]
 mul_comm:=cK
theorem AZ(a:_a)(k:Nat):cf (dL a) k=iH (cf a) k:=by
 have h:=AW one a k;have z:∀j,iH one j=0:=λj=>by show((j:Int)+1)*cf [1] (j+1)=0;rw[b_,fB,Wn]
 have e1:iH (mF a one) k=iH (cf a) k:=by show((k:Int)+1)*mF a one (k+1)=((k:Int)+1)*cf a (k+1);rw[e_]
 have e2:mF a (iH one) k=0:=by rw[bR (g:=cf []) (λj=>by rw[z,fB]) a k,de];rfl
 rw[e1,e2,e_]at h;lia
def dP(x:aE p):aE p:=Quotient.liftOn x (λa=>aN (dL a)) λa b h=>mk_eq (((ba.of_eq (AZ a)).trans (ba.iH h)).trans (ba.of_eq (AZ b)).symm)
theorem oX(x y:aE p):dP (x*y)=dP x*y+x*dP y:=by
 revert x;refine dO λa=>?_;revert y;refine dO λb=>?_;refine iX λk=>?_;rw[AZ,d!,bC,bC];have e:iH (cf (bW a b)) k=iH (mF a (cf b)) k:=by show((k:Int)+1)*cf (bW a b) (k+1)=((k:Int)+1)*mF a (cf b) (k+1);rw[bC]
 rw[e,AW,bR (λj=>(AZ b j).symm) a k];lia
theorem Jn(a:_a):dP (aN a:aE p)=aN (dD a):=iX λk=>by rw[AZ,nk]
theorem at2{x y z:ah}{r:List ah}:L2.lM (x::y::z::r) 2=some z:=L2.i_ (xs:=x::y::z::r) (j:=2) rfl
theorem at3{x y z w:ah}{r:List ah}:L2.lM (x::y::z::w::r) 3=some w:=L2.i_ (xs:=x::y::z::w::r) (j:=3) rfl
theorem at4{x y z w:ah}{r:List ah}:L2.lM (x::y::z::w::v::r) 4=some v:=L2.i_ (xs:=x::y::z::w::v::r) (j:=4) rfl
theorem jx(hp:fJ p=true){n:Nat}(l1:st[n]?=some (aV as))(l2:st[m]?=some (aV bs))(ha:Row p as)(sL:as.length<=100000)(tP:bs.length<=100000):
  ∃aC k,PM.c! [.int p,.loc n,.loc m] st=.ok (.loc k) aC/\Fr st aC/\st.length<=k/\aC[k]?=some (aV (pX p as bs)):=by
 obtain⟨g,k,e,o,l⟩:=vf (iO hp) (aB l1) (aB l2) sL tP (ha.sm hp);exact⟨st++g,k,e,Fr.app _ _,o,l⟩
theorem k?(hp:fJ p=true){n:Nat}(l1:st[n]?=some (aV as))(l2:st[m]?=some (aV bs))(sL:as.length<=100000)(tP:bs.length<=100000):
  ∃aC k,PM.bB [.int p,.loc n,.loc m,.int (-1)] st=.ok (.loc k) aC/\Fr st aC/\st.length<=k/\aC[k]?=some (aV (mI p as bs)):=by
 obtain⟨g,k,e,o,l⟩:=m_ (f:=-1) (iO hp) (aB l1) (aB l2) sL tP (by decide) (by decide);exact⟨st++g,k,e,Fr.app _ _,o,l⟩
theorem lH(hp:fJ p=true)(t:Int){n:Nat}(l1:st[n]?=some (aV as))(ha:Row p as)(sL:as.length<=100000):
  ∃aC k,PM.dB [.int p,.loc n,.int t] st=.ok (.loc k) aC/\Fr st aC/\st.length<=k/\aC[k]?=some (aV (mulR p t as)):=by
 obtain⟨g,k,e,o,l⟩:=sR (f:=t) (iO hp) (aB l1) sL (ha.sm hp);exact⟨st++g,k,e,Fr.app _ _,o,l⟩
theorem Gg(hp:fJ p=true){A:_a}{N:Nat}{g0 g1:_a}(h:iQ p A B N g0 u0 v0 g1 u1 v1)(hN:N<=50000)(hg:g1≠[]){a0 a1 a2 b0 b1 b2:Nat}(UQ:st[a0]?=some (aV g0))(RT:st[a1]?=some (aV u0))(la2:st[a2]?=some (aV v0))(RU:st[b0]?=some (aV g1))(lb1:st[b1]?=some (aV u1))(lb2:st[b2]?=some (aV v1)):
  ∃aC c0 c1 c2,PM.f_ [.int p,.tup [.loc a0,.loc a1,.loc a2],.tup [.loc b0,.loc b1,.loc b2]] st=.ok (.tup [.loc c0,.loc c1,.loc c2]) aC/\Fr st aC /\
   aC[c0]?=some (aV (kY p g0 g1))/\aC[c1]?=some (aV (mI p u0 (pX p (cS p g0 g1) u1)))/\aC[c2]?=some (aV (mI p v0 (pX p (cS p g0 g1) v1))):=by
 have hr:=aJ hp;have fL:0<p:=by lia
 have hl:¬ aO g1 % p=0:=by have:=h.r1.last fL hg;rw[V9 (by lia) this.2];lia
 have i1:=h.QS;have i2:=h.lv1;have i3:=h.UJ;have i4:=h.lv0;obtain⟨s1,k1,k2,e1,F1,_,_,_,m1,m2⟩:=gf hp (aB UQ) RU hg hl (by lia) (by lia);obtain⟨sq,sr,slt,sc,sl⟩:=fH hp (as:=g0) hg hl;obtain⟨s2,t1,e2,F2,_,n1⟩:=jx hp m1 (F1 _ _ lb1) sq (by lia) (by lia);obtain⟨s3,t2,e3,F3,_,n2⟩:=jx hp (F2 _ _ m1) (F2 _ _ (F1 _ _ lb2)) sq (by lia) (by lia);have q1:=(pY p (cS p g0 g1) u1).1;have q2:=(pY p (cS p g0 g1) v1).1;have hc:dZ (λ_=>True) (aF 0) bI (ak PM.c! (aa dJ (aa (ag bQ cQ cT) (aa (ag bQ bG bg) ai)))) [.int 1,.int 2] [qn, some (.tup [.loc b0,.loc b1,.loc b2]), some (.tup [.loc k1,.loc k2]), qI p] s1 []=.ok [.loc t1,.loc t2] s3:=by
  rw[xA (u:=.int 1) (y:=.loc t1) (τ1:=[some (.int 1),some (.tup [.loc b0,.loc b1,.loc b2]),some (.tup [.loc k1,.loc k2]),some (.int p)]) (st1:=s2) trivial rfl (by simp only[aj,av,aH,aw,ay,ar,bj,az,aq,au,aK,fP,aD,bK t_,bK Bq,e2]),
   xA (u:=.int 2) (y:=.loc t2) (τ1:=[some (.int 2),some (.tup [.loc b0,.loc b1,.loc b2]),some (.tup [.loc k1,.loc k2]),some (.int p)]) (st1:=s3) trivial rfl (by simp only[aj,av,aH,aw,ay,ar,bj,az,aq,au,aK,fP,aD,bK t_,bK at2,e3]),xB trivial]
  rfl
 have gz:iN 1 [2,3,0] [qI p, some (.tup [.loc a0,.loc a1,.loc a2]), some (.tup [.loc b0,.loc b1,.loc b2]), some (.tup [.loc k1,.loc k2]), qn]=[qn, some (.tup [.loc b0,.loc b1,.loc b2]), some (.tup [.loc k1,.loc k2]), qI p]:=rfl;have F13:=F1.trans (F2.trans F3);have F4:=Fr.app s3 [aS.lst [.loc t1,.loc t2]];have lt:=bV s3 [.loc t1,.loc t2];obtain⟨s4,GB⟩:∃s,s3++[aS.lst [.loc t1,.loc t2]]=s:=⟨_,rfl⟩
 obtain⟨k4,hk4⟩:∃k,s3.length=k:=⟨_,rfl⟩
 rw[GB]at F4 lt;rw[hk4]at lt;obtain⟨s5,c1,e5,F5,_,x1⟩:=k? hp (F4 _ _ (F13 _ _ RT)) (F4 _ _ (F3 _ _ n1)) (by lia) (by lia);obtain⟨s6,c2,e6,F6,_,x2⟩:=k? hp (F5 _ _ (F4 _ _ (F13 _ _ la2))) (F5 _ _ (F4 _ _ n2)) (by lia) (by lia);have g1':=bT lt (t_ (x:=.loc t1) (r:=[.loc t2]));have g2':=bT (F5.it lt) (Bq (x:=.loc t1) (y:=.loc t2) (r:=[]));refine⟨s6,k2,c1,c2,?_,F13.trans (F4.trans (F5.trans F6)),F6 _ _ (F5 _ _ (F4 _ _ (F3 _ _ (F2 _ _ m2)))),F6 _ _ x1,x2⟩;simp only[PM.f_,bb,aj,ax,aL,a9,av,aH,aw,ay,ar,iG,bu,bH,gJ,eR,bj,az,aq,fX,au,dz,gk,aG,aZ,a!,dj,ej,qE,aK,fP,aU,aD,Vs,VE,Vz,Vu,Vy,Vr,Vn,Vt,Nat.reduceSub,Vm,Vx,Nat.reduceAdd,VB,Nat.reduceLeDiff,↓reduceIte,bK t_,bK Bq,bK at2,e1,gz,hc,GB,hk4,g1',e5,g2',e6]
abbrev QY:MT:=dY (ag sO (ak bF (aa (ag bQ fT cT) ai)) cT)
abbrev QZ:MB:=aA (aM 5 (ak PM.f_ (aa bg (aa dJ (aa fT ai))))) (aA (aM 3 fT) (aM 4 j4))
def qW(a b c:Nat):Option ah:=some (.tup [.loc a,.loc b,.loc c])
def abc(μ:MN.Env)(s:af):Nat:=match(μ[4]?:Option (Option ah)) with
 |some (some (.tup (.loc k::_)))=>gv k s
 |_=>0
structure A0(p:Int)(A B:_a)(N:Nat)(n m:Nat)(st:af)(μ:MN.Env)(s:af)(a0 a1 a2 b0 b1 b2:Nat)(g0 u0 v0 g1 u1 v1:_a):Prop where
 env:∃x5,μ=[some (.int p),some (.loc n),some (.loc m),qW a0 a1 a2,qW b0 b1 b2,x5,none,none,none,none]
 fr:Fr st s
 inv:iQ p A B N g0 u0 v0 g1 u1 v1
 UQ:s[a0]?=some (aV g0)
 RT:s[a1]?=some (aV u0)
 la2:s[a2]?=some (aV v0)
 RU:s[b0]?=some (aV g1)
 lb1:s[b1]?=some (aV u1)
 lb2:s[b2]?=some (aV v1)
theorem Jo(hp:fJ p=true){A:_a}{N n:Nat}(hN:N<=50000){μ:MN.Env}{s:af}{a0 a1 a2 b0 b1 b2:Nat}{g0 g1:_a}(h:A0 p A B N n m st μ s a0 a1 a2 b0 b1 b2 g0 u0 v0 g1 u1 v1):
  ∃μ' s' a0 a1 a2 b0 b1 b2 g u v u1 v1,dM QY QZ μ s=.nx μ' s'/\A0 p A B N n m st μ' s' a0 a1 a2 b0 b1 b2 g u v [] u1 v1:=by
 obtain⟨μ',s',e,a0,a1,a2,b0,b1,b2,g,u,v,u1,v1,hq⟩:=gC (t:=QY) (body:=QZ)
  (λμ s=>∃a0 a1 a2 b0 b1 b2 g0 u0 v0 g1 u1 v1,A0 p A B N n m st μ s a0 a1 a2 b0 b1 b2 g0 u0 v0 g1 u1 v1) abc
  (λμ s=>∃a0 a1 a2 b0 b1 b2 g u v u1 v1,A0 p A B N n m st μ s a0 a1 a2 b0 b1 b2 g u v [] u1 v1)
  (by
   rintro μ s ⟨a0,a1,a2,b0,b1,b2,g0,u0,v0,g1,u1,v1,h⟩;obtain⟨x5,rfl⟩:=h.env;obtain⟨L,hL⟩:∃L:Int,L=(g1.length:Int):=⟨_,rfl⟩
   have kl:bF [.loc b0] s=.ok (.int L) s:=by rw[bc (aB h.RU),aI,hL]
   by_cases hg:g1=[]
   .subst hg;have h0:decide ((0:Int)<L)=false:=VT (by rw[hL];simp);refine .inl ⟨s,?_,a0,a1,a2,b0,b1,b2,g0,u0,v0,u1,v1,h⟩;simp only[qW,aj,av,aH,aw,ay,ar,bj,aR,aQ,az,aq,au,fi,fP,aD,bK t_,kl,h0]
   .have hg0:0<g1.length:=VJ.mpr hg;have h0:decide ((0:Int)<L)=true:=VZ (by lia);obtain⟨s',c0,c1,c2,e,F,l0,l1,l2⟩:=Gg hp h.inv hN hg h.UQ h.RT h.la2 h.RU h.lb1 h.lb2;have hl:¬ aO g1 % p=0:=by have:=h.inv.r1.last (by have:=aJ hp;lia) hg;rw[V9 (by lia) this.2];lia
    have slt:=(fH hp (as:=g0) hg hl).2.2.1;refine .inr ⟨s,[some (.int p),some (.loc n),some (.loc m),qW b0 b1 b2,qW c0 c1 c2,qW c0 c1 c2,none,none,none,none],s',?_,.inl ?_,⟨b0,b1,b2,c0,c1,c2,g1,u1,v1,_,_,_,⟨_,rfl⟩,h.fr.trans F,h.inv.step hp hg,F _ _ h.RU,F _ _ h.lb1,F _ _ h.lb2,l0,l1,l2⟩,?_⟩
    .simp only[qW,aj,av,aH,aw,ay,ar,bj,aR,aQ,az,aq,au,fi,fP,aD,bK t_,kl,h0]
    .simp only[qW,aj,ax,aL,ay,ar,bH,az,aq,au,aG,a!,aK,fP,aD,Vn,Vt,e]
    .show gv c0 s'<gv b0 s;unfold gv;rw[aB l0,aB h.RU];show((kY p g0 g1).map ah.int).length<(g1.map ah.int).length;rw[aI,aI];exact slt)
  μ s ⟨a0,a1,a2,b0,b1,b2,g0,u0,v0,g1,u1,v1,h⟩
 exact⟨μ',s',a0,a1,a2,b0,b1,b2,g,u,v,u1,v1,e,hq⟩
structure Q0(p:Int)(A B G S T U V:_a):Prop where
 rG:Row p G
 rS:Row p S
 rT:Row p T
 rU:Row p U
 rV:Row p V
 nG:G≠[]
 lG:aO G=1
 cA:ba p (cf A) (mF S (cf G))
 cB:ba p (cf B) (mF T (cf G))
 cG:ba p (cf G) (λk=>mF U (cf A) k+mF V (cf B) k)
 abJ:G.length<=50000/\S.length<=50000/\T.length<=50000/\U.length<=50000/\V.length<=50000
theorem Q3(hp:fJ p=true){n:Nat}{A:_a}(ln:st[n]?=some (aV A))(lm:st[m]?=some (aV B))(hA:Row p A)(hB:Row p B)(hn:A≠[]\/B≠[])(sL:A.length<=5000)(tP:B.length<=5000):
  ∃aC k1 k2 k3 k4 k5 G S T U V,PM.met [.int p,.loc n,.loc m] st=.ok (.tup [.loc k1,.loc k2,.loc k3,.loc k4,.loc k5]) aC/\Fr st aC/\Q0 p A B G S T U V/\qR aC [k1,k2,k3,k4,k5] [G,S,T,U,V]/\[k1,k2,k3,k4,k5].Nodup/\(∀k∈[k1,k2,k3,k4,k5],st.length<=k):=by
 have hr:=aJ hp;have fL:0<p:=by lia
 have l1:=cR (cR (cR (bf st [.int 1]) [aS.lst []]) [aS.lst []]) [aS.lst [.int 1]];have l2:=cR (cR (bf (st++[aS.lst [.int 1]]) []) [aS.lst []]) [aS.lst [.int 1]];have l3:=cR (bf (st++[aS.lst [.int 1]]++[aS.lst []]) []) [aS.lst [.int 1]];have l4:=bf (st++[aS.lst [.int 1]]++[aS.lst []]++[aS.lst []]) [.int 1];have F0:Fr st (st++[aS.lst [.int 1]]++[aS.lst []]++[aS.lst []]++[aS.lst [.int 1]]):=(((Fr.app st _).more _).more _).more _;obtain⟨i1,RV⟩:∃i,st.length=i:=⟨_,rfl⟩
 obtain⟨i2,Q4⟩:∃i,(st++[aS.lst [.int 1]]).length=i:=⟨_,rfl⟩
 obtain⟨i3,hi3⟩:∃i,(st++[aS.lst [.int 1]]++[aS.lst []]).length=i:=⟨_,rfl⟩
 obtain⟨i4,hi4⟩:∃i,(st++[aS.lst [.int 1]]++[aS.lst []]++[aS.lst []]).length=i:=⟨_,rfl⟩
 obtain⟨s0,GC⟩:∃s,st++[aS.lst [.int 1]]++[aS.lst []]++[aS.lst []]++[aS.lst [.int 1]]=s:=⟨_,rfl⟩
 rw[RV,GC]at l1;rw[Q4,GC]at l2;rw[hi3,GC]at l3;rw[hi4,GC]at l4;rw[GC]at F0;have start:A0 p A B (A.length+B.length+1) n m s0 [some (.int p),some (.loc n),some (.loc m),qW n i1 i2,qW m i3 i4,none,none,none,none,none] s0 n i1 i2 m i3 i4 A [1] [] B [] [1]:=
  ⟨⟨_,rfl⟩,Fr.refl _,iQ.start hr.1 hA hB hn,F0 _ _ ln,l1,l2,F0 _ _ lm,l3,l4⟩
 obtain⟨μ',s1,a0,a1,a2,b0,b1,b2,g,u,v,u1,v1,ew,hq⟩:=Jo hp (by lia) start;obtain⟨x5,rfl⟩:=hq.env;have hg:g≠[]:=by rcases hq.inv.ne with z|z;exact z;exact absurd rfl z
 have hlg:=hq.inv.r0.last fL hg;obtain⟨gi,t,ei,t1,t2,t3⟩:=fv hp (n:=aO g) (by rw[V9 (by lia) hlg.2];lia) s1;obtain⟨rG,nG,lG,cA,cB,cG⟩:=hq.inv.done hp hA hB t3;have F2:=Fr.app s1 gi;obtain⟨s2,jR⟩:∃s,s1++gi=s:=⟨_,rfl⟩
 rw[jR]at ei F2;have j1:=hq.inv.QS;have j2:=hq.inv.UJ;have j3:=hq.inv.lv0;have gx:=bT (aB hq.UQ) (kZ hg);obtain⟨s3,k1,e3,F3,o1,y1⟩:=lH hp t (F2 _ _ hq.UQ) hq.inv.r0 (by lia);have hGl:=ni p t g;have zG:¬ aO (mulR p t g) % p=0:=by rw[lG,V9 (by lia) (by lia)];lia
 have sA:=F0.trans (hq.fr.trans (F2.trans F3));obtain⟨s4,k2,z2,e4,F4,o2,_,_,y2,_⟩:=gf hp (aB (sA _ _ ln)) y1 nG zG (by lia) (by lia);obtain⟨s5,k3,z3,e5,F5,o3,_,_,y3,_⟩:=gf hp (aB (F4 _ _ (sA _ _ lm))) (F4 _ _ y1) nG zG (by lia) (by lia);have RW:=F2.trans (F3.trans (F4.trans F5));obtain⟨s6,k4,e6,F6,o4,y4⟩:=lH hp t (RW _ _ hq.RT) hq.inv.ru0 (by lia);obtain⟨s7,k5,e7,F7,o5,y5⟩:=lH hp t (F6 _ _ (RW _ _ hq.la2)) hq.inv.rv0 (by lia);have F37:=F4.trans (F5.trans (F6.trans F7));have UR:=sA.trans F37;obtain⟨qA,_,_,_,qlA⟩:=fH hp (as:=A) nG zG;obtain⟨qB,_,_,_,qlB⟩:=fH hp (as:=B) nG zG;have lu:=ni p t u;have lv:=ni p t v;have w1:=bx y1;have w2:=bx y2;have w3:=bx y3;have w4:=bx y4;have w5:=bx y5;have n3:st.length<=s2.length:=(F0.trans (hq.fr.trans F2)).len;have f4:=F4.len;have f5:=F5.len;have f6:=F6.len;have f3:=F3.len;refine⟨s7,k1,k2,k3,k4,k5,mulR p t g,cS p A (mulR p t g),cS p B (mulR p t g),mulR p t u,mulR p t v,?_,UR,⟨rG,qA,qB,Row.of fL _,Row.of fL _,nG,lG,cA,cB,cG,by lia⟩,?_,?_,?_⟩
 .have ew':dM QY QZ [qI p, qL n, qL m, some (.tup [.loc n,.loc i1,.loc i2]), some (.tup [.loc m,.loc i3,.loc i4]), qn, qn, qn, qn, qn] s0=.nx [some (.int p),some (.loc n),some (.loc m),qW a0 a1 a2,qW b0 b1 b2,x5,none,none,none,none] s1:=ew;simp only[PM.met,bb,aj,ax,aL,a9,av,aH,aw,ay,ar,iG,j!,bu,bH,bj,az,aq,fX,ic,au,dz,gk,aG,aZ,a!,aK,fP,aU,aD,Vs,VE,Vz,Vu,Vy,Vr,Vn,Vt,Nat.reduceSub,Vm,Vx,Nat.reduceAdd,VB,Nat.reduceLeDiff,↓reduceIte,RV,Q4,hi3,hi4,GC,ew',qW,bK t_,bK Bq,bK at2,gx,ei,e3,e4,e5,e6,e7]
 .exact .cons (F37 _ _ y1) (.cons ((F5.trans (F6.trans F7)) _ _ y2) (.cons ((F6.trans F7) _ _ y3) (.cons (F7 _ _ y4) (.cons y5 (.nil _)))))
 .simp only[Xo,V5,Yv,YE,not_or,List.nodup_nil,and_true,not_false_eq_true];lia
 .intro k hk;simp only[V5,Yv,YE]at hk;lia
abbrev Trm:=List Int×Int
def US(A:List Trm)(k:_a):Int:=((A.find? λp=>decide (p.1=k)).map (·.2)).getD 0
def told(A:List Trm):List Trm:=((srt (A.map (·.1))).filter λk=>US A k !=0).map λk=>(k,US A k)
section
variable{μ:MN.Env}{s s1 s2:af}{a b:ME}{f:F2}{x y:ah}{r:cz ah}{t u:MT}{c:Bool}{B:MB}
theorem gH(h1:a μ s=.ok x s1)(h2:b μ s1=.ok y s2):ag f a b μ s=f x y s2:=by show(a μ s).bind _=_;rw[h1];show(b μ s1).bind _=_;rw[h2]
theorem vn(h:a μ s=.ok (.bl c) s1):dY a μ s=.ok c s1:=by rw[aQ,h];rfl
theorem UT(h1:t μ s=.ok false s1)(h2:u μ s1=.ok false s2):Af t u μ s=.ok false s2:=by rw[fW,h1,aj,f?,h2]
theorem UU(h:t μ s=.ok true s1):uC t μ s=.ok false s1:=by rw[kI,h];rfl
theorem UW(h:t μ s=.ok false s1):mz t B dh μ s=.nx μ s1:=by rw[bh,h,ax,bS];rfl
end
theorem qX{s:af}{n:Nat}{c:aS}(h:s[n]?=some c)(more:af):(s++more)[n]?=some c:=by
 have:n<s.length:=by
  rcases WQ n s.length with q|q
  .exact q
  .rw[V1 q]at h;cases h
 rw[V6 this];exact h
theorem NR{s:af}{n:Nat}{c:aS}(h:s[n]?=some c):n<s.length:=by
 rcases WQ n s.length with q|q
 .exact q
 .rw[V1 q]at h;cases h
section
variable{μ:MN.Env}{s s1 s2:af}{m:ME}{o j:Int}{t:MT}{B:MB}
theorem jy(h:m μ s=.ok v s1):aM i m μ s=.nx (μ.set i (some v)) s1:=by rw[a!,h,ax];rfl
theorem A1(h:m μ s=.ok v s1):aa m ai μ s=.ok [v] s1:=by rw[aq,h,aj,ay,az,aj,ar]
theorem MC{w:ah}(h:m μ s=.ok v s1)(h2:m2 μ s1=.ok w s2):aa m (aa m2 ai) μ s=.ok [v,w] s2:=by rw[aq,h,aj,ay,A1 h2,aj,ar]
theorem Jp{m2:MA}(h:m μ s=.ok v s1)(h2:m2 μ s1=.ok ws s2):aa m m2 μ s=.ok (v::ws) s2:=by rw[aq,h,aj,ay,h2,aj,ar]
theorem jM{f:FN}{a:MA}{vs:List ah}(h:a μ s=.ok vs s1):ak f a μ s=f vs s1:=by rw[au,h,aj]
theorem du{a:MA}{vs:List ah}(h:a μ s=.ok vs s1)(hl:vs.length<=1000):a_ a μ s=.ok (.loc s1.length) (s1++[.lst vs]):=by rw[ic,h,aj,j!];exact VC (by rw[VB];lia)
end
section
variable{n:Nat}{A:_a}
theorem A2(hp:fJ p=true)(ln:st[n]?=some (aV A))(hA:Row p A)(nA:A≠[])(hl:A.length<=100000):
  ∃aC k t,PM.eY [.int p,.loc n] st=.ok (.loc k) aC/\Fr st aC/\st.length<=k/\aC[k]?=some (aV (mulR p t A))/\(t*aO A) % p=1:=by
 have hr:=aJ hp;have la:=hA.last (by lia) nA;have nz:¬ aO A % p=0:=by rw[V9 (by lia) la.2];lia
 obtain⟨g,t,e1,_,_,t3⟩:=fv hp nz st;obtain⟨s',k,e2,F,lk,ck⟩:=lH hp t (show(st++g)[n]?=some (aV A)from Fr.app st g _ _ ln) hA hl;refine⟨s',k,t,?_,(Fr.app st g).trans F,by have:=lk;rw[Vv]at this;lia,ck,t3⟩;have ix:ag bQ bG (iK cI) [some (.int p),some (.loc n)] st=.ok (.int (aO A)) st:=by rw[gH (x:=.loc n) (s1:=st) rfl (y:=.int (-1)) (s2:=st) rfl];exact bT (aB ln) (kZ nA)
 unfold PM.eY;rw[bb (np:=2) (us:=[ah.int p,.loc n]) rfl];show(bM _ [some (.int p),some (.loc n)] st).fin=_;rw[aZ,jM (Jp (v:=.int p) (s1:=st) rfl (MC (v:=.loc n) (s1:=st) rfl (w:=.int t) (s2:=st++g) (by rw[jM (MC (v:=.int p) (s1:=st) rfl ix),e1]))),e2,ax];rfl
structure UX(p:Int)(A B G:_a):Prop where
 r:Row p G
 n:G≠[]
 l:aO G=1
 a:ba p (cf A) (mF (cS p A G) (cf G))
 b:ba p (cf B) (mF (cS p B G) (cf G))
 c:∃u v,ba p (cf G) (λk=>mF u (cf A) k+mF v (cf B) k)
def abd(μ:MN.Env)(s:af):Nat:=match(μ[4]?:Option (Option ah)) with
 |some (some (.loc k))=>gv k s
 |_=>0
structure Ec(p:Int)(A B:_a)(N:Nat)(st:af)(x1 x2:Option ah)(μ:MN.Env)(s:af)(a b:Nat)(g0 u0 v0 g1 u1 v1:_a):Prop where
 env:∃x5,μ=[qI p, x1, x2, qL a, qL b, x5]
 fr:Fr st s
 inv:iQ p A B N g0 u0 v0 g1 u1 v1
 la:s[a]?=some (aV g0)
 lb:s[b]?=some (aV g1)
abbrev UY:MT:=dY (ag sO (ak bF (aa fT ai)) cT)
abbrev grB:MB:=aA (aM 5 (ag bQ (ak PM.parted (aa bg (aa dJ (aa fT ai)))) cI)) (aA (aM 3 fT) (aM 4 j4))
theorem MD(hp:fJ p=true){N:Nat}(hN:N<=50000){x2:Option ah}{μ:MN.Env}{s:af}{a b:Nat}{g0 g1:_a}(h:Ec p A B N st x1 x2 μ s a b g0 u0 v0 g1 u1 v1):
  ∃μ' s',dM UY grB μ s=.nx μ' s'/\∃a b g u v u1 v1,Ec p A B N st x1 x2 μ' s' a b g u v [] u1 v1:=by
 refine gC (t:=UY) (body:=grB) (λμ s=>∃a b g0 u0 v0 g1 u1 v1,Ec p A B N st x1 x2 μ s a b g0 u0 v0 g1 u1 v1) abd (λμ s=>∃a b g u v u1 v1,Ec p A B N st x1 x2 μ s a b g u v [] u1 v1) ?_ μ s ⟨a,b,g0,u0,v0,g1,u1,v1,h⟩;rintro μ s ⟨a,b,g0,u0,v0,g1,u1,v1,h⟩;obtain⟨x5,rfl⟩:=h.env;have D6:UY [qI p, x1, x2, qL a, qL b, x5] s=.ok (decide ((0:Int)<(g1.length:Int))) s:=by refine vn ?_;rw[gH (x:=.int ((g1.map ah.int).length:Int)) (s1:=s) (by rw[jM (A1 (v:=.loc b) (s1:=s) rfl),bc (aB h.lb)]) (y:=.int 0) (s2:=s) rfl,Vq];rfl
 by_cases hg:g1=[]
 .subst hg;exact .inl ⟨s,by rw[D6];rfl,a,b,g0,u0,v0,u1,v1,h⟩
 .have hg0:0<g1.length:=VJ.mpr hg;have hr:=aJ hp;have RT:=h.inv.r1.last (by lia) hg;have nz:¬ aO g1 % p=0:=by rw[V9 (by lia) RT.2];lia
  have l0:=h.inv.QS;have l1:=h.inv.UJ;obtain⟨s',k1,k2,e,F,_,_,_,c1,c2⟩:=gf hp (aB h.la) h.lb hg nz (by lia) (by lia);refine .inr ⟨s,[qI p, x1, x2, qL b, qL k2, qL k2],s',by rw[D6,VZ (by lia)],.inl ?_,⟨b,k2,g1,u1,v1,_,_,_,⟨_,rfl⟩,h.fr.trans F,h.inv.step hp hg,F _ _ h.lb,c2⟩,?_⟩
  .show aA _ _ _ s=_;rw[aG,jy (v:=.loc k2) (s1:=s') (by rw[gH (x:=.tup [.loc k1,.loc k2]) (s1:=s') (by rw[jM (vs:=[.int p,.loc a,.loc b]) (s1:=s) rfl,e]) (y:=.int 1) (s2:=s') rfl];rfl),aL];rfl
  .show gv k2 s'<gv b s;unfold gv;rw[aB c2,aB h.lb];show((kY p g0 g1).map ah.int).length<(g1.map ah.int).length;rw[Vq,Vq];exact(fH hp (as:=g0) hg nz).2.2.1
theorem yS(hp:fJ p=true)(ln:st[n]?=some (aV A))(lm:st[m]?=some (aV B))(hA:Row p A)(hB:Row p B)(hn:A≠[]\/B≠[])(sL:A.length<=5000)(tP:B.length<=5000):
  ∃aC k G,PM.cV [.int p,.loc n,.loc m] st=.ok (.loc k) aC/\Fr st aC/\st.length<=k/\aC[k]?=some (aV G)/\UX p A B G/\G.length<=20000:=by
 have hr:=aJ hp;obtain⟨μ',s',ew,a,b,g,u,v,u1,v1,H⟩:=MD (A:=A) (B:=B) (st:=st) hp (N:=A.length+B.length+1) (by lia) (x1:=some (.loc n)) (x2:=some (.loc m)) (μ:=[some (.int p),some (.loc n),some (.loc m),some (.loc n),some (.loc m),none]) (s:=st) (a:=n) (b:=m) ⟨⟨_,rfl⟩,Fr.refl st,iQ.start (by lia) hA hB hn,ln,lm⟩;obtain⟨x5,rfl⟩:=H.env;have ng:g≠[]:=by rcases H.inv.ne with z|z;exact z;exact absurd rfl z
 have lg:=H.inv.QS;obtain⟨s2,k,t,e2,F2,lk,ck,ht⟩:=A2 hp H.la H.inv.r0 ng (by lia);obtain⟨rG,nG,lG,cA,cB,cG⟩:=H.inv.done hp hA hB ht;refine⟨s2,k,mulR p t g,?_,H.fr.trans F2,by have:=H.fr.len;lia,ck,⟨rG,nG,lG,cA,cB,_,_,cG⟩,by have:=ni p t g;lia⟩;unfold PM.cV;rw[bb (np:=3) (us:=[ah.int p,.loc n,.loc m]) rfl];show(aA (aM 3 bG) (aA (aM 4 cQ) (aA (dM UY grB) (bM _))) [qI p, qL n, qL m, qn, qn, qn] st).fin=_;rw[aG,jy (v:=.loc n) (s1:=st) rfl,aL,aG,jy (v:=.loc m) (s1:=st) rfl,aL];show(aA (dM UY grB) (bM _) [qI p, qL n, qL m, qL n, qL m, qn] st).fin=_;rw[aG,ew,aL,aZ,jM (vs:=[.int p,.loc a]) (s1:=s') rfl,e2,ax];rfl
end
theorem uc(hp:0<p){A Q G:_a}(hA:Row p A)(nA:A≠[])(hQ:Row p Q)(nG:G≠[])(lG:aO G=1)(h:ba p (cf A) (mF Q (cf G))):Q≠[]/\A.length+1=Q.length+G.length/\aO A=aO Q:=by
 have nQ:Q≠[]:=by intro z;rw[z]at h;exact nA (Row.ext hp hA (Row.nil p) (h.trans (ba.of_eq λk=>by rw[k_,fB])))
 have lq:=hQ.last hp nQ;have q0:0<Q.length:=VJ.mpr nQ;have g0:0<G.length:=VJ.mpr nG;obtain⟨N,hN⟩:∃N,N=Q.length-1+(G.length-1):=⟨_,rfl⟩
 have t:=yO Q G nQ nG;rw[<-hN,lG,Xl]at t;have c:=Cg.eq hp (h N);rw[t,d? (hA.GA hp N).1 (hA.GA hp N).2,d? (by lia) lq.2]at c;have l1:A.length<=N+1:=jv hA.cut λk hk=>by have c:=Cg.eq hp (h k);rw[Jj (as:=Q) (bs:=G) (by lia),d? (hA.GA hp k).1 (hA.GA hp k).2,d? (YU 0) hp]at c;exact c
 have l2:N<A.length:=by
  rcases WQ N A.length with z|z
  .exact z
  .rw[fK z]at c;lia
 refine⟨nQ,by lia,?_⟩;rw[<-c];show cf A (A.length-1)=_;rw[show A.length-1=N by lia]
theorem Ed(hp:0<p)(h:(U.length:Int)=p*m+1):gn U p=(List.range (m+1)).map λj=>U.getD (p.toNat*j) 0:=by
 have cnt:(if p>0 then(if(0:Int)<(U.length:Int) then((U.length:Int)-0+p-1) / p else 0) else(if(0:Int)>(U.length:Int) then(0-(U.length:Int)-p-1) / (-p)else 0)).toNat=m+1:=by rw[VC hp,h];have m0:0<=p*(m:Int):=Y8 (by lia) (by lia);rw[VC (by lia),show p*(m:Int)+1-0+p-1=p*((m:Int)+1) by rw[Xm,Xl];lia,Int.mul_ediv_cancel_left _ (by lia)];lia
 unfold gn sliceRange;simp only[];rw[cnt,List.filterMap_map];have:∀l:List Nat,(∀j∈l,j<=m)->l.filterMap ((λi=>U[i]?) ∘ λk:Nat=>(0+p*(k:Int)).toNat)=l.map λj=>U.getD (p.toNat*j) 0:=by
  intro l
  induction l with
  |nil=>intro _;rfl
  |cons j l ih=>
   intro hj;have e:(0+p*(j:Int)).toNat=p.toNat*j:=by
    have:((p.toNat*j:Nat):Int)=p*(j:Int):=by rw[W4,Wg (by lia)]
    lia
   have lt:p.toNat*j<U.length:=by
    have h1:p.toNat*j<=p.toNat*m:=ZC _ (hj j (VV ..));have h2:((p.toNat*m:Nat):Int)=p*(m:Int):=by rw[W4,Wg (by lia)]
    lia
   rw[Vs,<-ih λi hi=>hj i (VP _ hi),Xf (b:=U.getD (p.toNat*j) 0)];show U[(0+p*(j:Int)).toNat]?=_;rw[e,Vp lt,VF,Vp lt];rfl
 exact this _ λj hj=>by have:=XH.mp hj;lia
theorem Jq(f:α->β)(xs:List α)(k:Int):gn (xs.map f) k=(gn xs k).map f:=by unfold gn;rw[Vq,List.map_filterMap];congr 1;funext i;rw[VM]
theorem MF(hp:2<=p)(hU:Row p U)(nU:U≠[])(l1:aO U=1)(hm:((U.length:Int)-1) % p=0):
  Row p (gn U p)/\gn U p≠[]/\aO (gn U p)=1/\(gn U p).length<=U.length/\(1<U.length->(gn U p).length<U.length):=by
 have u0:0<U.length:=VJ.mpr nU;obtain⟨m,h⟩:∃m:Nat,(U.length:Int)=p*m+1:=by have h1:=Wl ((U.length:Int)-1) p;have h2:0<=((U.length:Int)-1) / p:=YZ (by lia) (by lia);refine⟨(((U.length:Int)-1) / p).toNat,?_⟩;rw[Wg h2];lia
 have e:=Ed (by lia) h;have len:(gn U p).length=m+1:=by rw[e,Vq,VW]
 have hpm:((p.toNat*m:Nat):Int)=p*(m:Int):=by rw[W4,Wg (by lia)]
 have la:aO (gn U p)=1:=by unfold aO at l1⊢;rw[len,e,show m+1-1=m by lia,VF,VM,Wd (by lia)];show U.getD (p.toNat*m) 0=1;rw[show p.toNat*m=U.length-1 by lia];exact l1
 have ne:gn U p≠[]:=λz=>by rw[z]at len;simp at len
 have hmp:2*(m:Int)<=p*m:=W' hp (by lia);refine⟨⟨?_,?_⟩,ne,la,by lia,λh1=>by lia⟩
 .rcases ju (gn U p)with z|⟨ms,x,z⟩
  .exact absurd z ne
  .unfold Cut;rw[z];refine ij ?_ ms;have:aO (gn U p)=x:=by rw[z];unfold aO;simp
   rw[la]at this;rw[<-this];rfl
 .intro a ha;rw[e]at ha;obtain⟨j,_,rfl⟩:=Wb.mp ha;exact hU.GA (by lia) (p.toNat*j)
structure jY(p:Int)(A:_a):Prop where
 row:Row p A
 ne:A≠[]
 l1:aO A=1
theorem jY.cancel(hp:0<p){F:_a}(h:jY p F)(x y:aE p)(e:aN F*x=aN F*y):x=y:=by revert e;revert x;refine dO λa=>?_;revert y;refine dO λb=>?_;intro e;have:=NQ e;exact mk_eq (yQ hp h.ne h.l1 (((ba.of_eq (bC F a)).symm.trans this).trans (ba.of_eq (bC F b))))
theorem Q5(hp:0<p)(x:aE p):∃r,Row p r/\x=aN r:=by revert x;refine dO λa=>?_;exact⟨cm (a.map (·.fmod p)),Row.of hp a,mk_eq (Row.cg hp a).symm⟩
theorem qY(hp:0<p){A G:_a}(hA:Row p A)(nA:A≠[])(hG:jY p G){x:aE p}(h:aN A=aN G*x):∃Q,Row p Q/\x=aN Q/\Q≠[]/\A.length+1=Q.length+G.length:=by obtain⟨Q,hQ,rfl⟩:=Q5 hp x;have e:=NQ (h.trans (cK _ _));obtain⟨n,l,_⟩:=uc hp hA nA hQ hG.ne hG.l1 (e.trans (ba.of_eq (bC Q G)));exact⟨Q,hQ,rfl,n,l⟩
theorem A3(hp:0<p){D U:_a}(hD:jY p D)(lD:2<=D.length){S1 z T a b:aE p}(hz:dP (aN D*S1)=aN D*z)(hT:T*aN U=(aN D*S1)*dP (aN U))(hb:a*aN D+b*T=1):∀(m:Nat)(V:_a)(W c:aE p),V.length<=m->Row p V->V≠[]->aN U=W*aN V->aN D*dP W=c*W*dP (aN D)->(∀x y:aE p,W*x=W*y->x=y)->False
 |0,V,_,_,hl,_,nV,_,_,_=>nV (Yw.mp (by lia))
 |m+1,V,W,c,hl,hV,nV,hU,hW,cn=>by
  obtain⟨V',e⟩:=SA.UM (d:=dP) oX (S:=aN D*S1) rfl hz hT hb hW hU cn;obtain⟨Q,hQ,eQ,nQ,lQ⟩:=qY hp hV nV hD e;refine A3 hp hD lD hz hT hb m Q (aN D*W) (1+c) (by lia) hQ nQ ?_ (SA.abb oX hW) λx y h=>cn x y (hD.cancel hp _ _ ?_)
  .rw[hU,e,eQ];grind
  .rw[<-fE,<-fE];exact h
theorem UZ(hp:2<=p){D S:_a}(hD:jY p D)(hU:jY p U)(hS:jY p S){f w a b a2 b2 S1 z:aE p}(hf:f=aN S*aN U)(hw:dP f=aN U*w)(hg:aN U=a*f+b*dP f)(e1:aN S=aN D*S1)(e2:dP (aN S)=aN D*z):D=[1]:=by
 have fL:0<p:=by lia
 have df:dP f=dP (aN S)*aN U+aN S*dP (aN U):=by rw[hf,oX]
 by_cases lD:2<=D.length
 .exfalso;have h1:a*aN S+b*w=1:=by
   refine hU.cancel fL _ _ ?_
   grind
  refine A3 fL hD lD (U:=U) (S1:=S1) (z:=z) (T:=w-dP (aN S)) (a:=a*S1+b*z) (b:=b) (by rw[<-e1];exact e2) (by rw[<-e1];grind) (by grind) U.length U 1 0 (VD _) hU.row hU.ne (by grind) ?_ (λx y h=>by grind);have:dP (1:aE p)=0:=by
   have h:=oX (1:aE p) 1
   grind
  rw[this];grind
 .cases hh:D with
  |nil=>exact absurd hh hD.ne
  |cons x l=>
   have l0:l=[]:=by rw[hh,Vm]at lD;exact Yw.mp (by lia)
   have:=hD.l1;rw[hh,l0]at this;rw[l0];rw[show x=1 from this]
end PG
variable {n:Nat}
namespace SA
section
variable{R:Type}[Lean.Grind.CommRing R]{d:R->R}
theorem ee.pow{a b:R}(h:ee a b):∀n:Nat,ee a (b ^ n)
 |0=>by rw[W2];exact ee.one
 |n+1=>by rw[WL];exact(ee.pow h n).mul h
theorem ee.of_dvd{a b c:R}(h:ee a b){x:R}(e:b=c*x):ee a c:=by rw[e]at h;exact h.QV
theorem ee.unit{a b:R}(h:ee a b){x:R}(e:b=a*x):∃z,a*z=1:=Eb h (c:=a) (x:=1) (y:=x) (by grind) e
def cst:Nat->R
 |0=>0
 |n+1=>cst n+1
theorem U0(dm:∀a b,d (a*b)=d a*b+a*d b)(P:R):∀n:Nat,P*d (P ^ n)=cst n*P ^ n*d P
 |0=>by
  have h:d (1:R)=0:=by have:=dm (1:R) 1;grind
  rw[W2,h];show P*0=0*1*d P
  grind
 |n+1=>by
  have ih:=U0 dm P n;rw[WL,dm];show _=(cst n+1)*(P ^ n*P)*d P;generalize P ^ n=w at *;generalize (cst n:R)=c at *
  grind
theorem mul_pow(P G:R):∀m:Nat,(P*G) ^ m=P ^ m*G ^ m
 |0=>by rw[W2,W2,W2];grind
 |n+1=>by
  rw[WL,WL,WL,mul_pow P G n];generalize P ^ n=w;generalize G ^ n=v
  grind
theorem AA(dm:∀a b,d (a*b)=d a*b+a*d b){P W Q F S U x a b:R}(hF:F=W*Q)(hW:d W=0)(hFS:F=S*U)(hg:U=a*F+b*d F)(hS:S=P*x)(hc:ee P Q)(cn:∀x y:R,W*x=W*y->x=y):∃z,P*z=1:=by
 have e1:d F=W*d Q:=by rw[hF,dm,hW];grind
 have e2:Q=P*(x*(a*Q+b*d Q)):=by
  apply cn
  grind
 exact hc.unit e2
theorem step_eq{F Q S U P G V:R}(hF:F=Q*S ^ m*U)(hS:S=P*G)(hU:U=G*V):F=(Q*P ^ m)*G ^ (m+1)*V:=by
 rw[hF,hS,mul_pow,hU,WL];generalize P ^ m=w;generalize G ^ m=v
 grind
theorem Jr(dm:∀a b,d (a*b)=d a*b+a*d b){S U P G V a b:R}(hS:S=P*G)(hU:U=G*V)(hG:G=a*S+b*U)(hs:ee S (d S)):ee P G/\ee P (d P)/\ee G (d G)/\ee P U/\ee P V:=by rw[hS]at hs;obtain⟨h1,h2,h3⟩:=Mz dm hs;have h4:=Jm hS hG h1;exact⟨h1,h2,h3,h4,h4.of_dvd (x:=G) (by grind)⟩
theorem Js{T S U P G V:R}(hS:S=P*G)(hU:U=G*V)(h1:ee T S)(h2:ee T U):ee T P/\ee T G/\ee T V:=⟨h1.of_dvd hS,h1.of_dvd (x:=P) (by grind),h2.of_dvd (x:=G) (by grind)⟩
end
end SA
namespace PG
open PySem.Spec L2 MN
open PyProof.Rows hiding St kindOf
def qZ:_a->_a->_a
 |a::as,b::bs=>(a+b)::qZ as bs
 |_,_=>[]
theorem vo:∀{as bs:_a},as.length=bs.length->(qZ as bs).length=as.length
 |[],[],_=>rfl
 |a::as,b::bs,h=>by show(qZ as bs).length+1=as.length+1;rw[vo (Yd h)]
def br:Nat->_a
 |0=>[1]
 |n+1=>qZ (br n++[0]) (0::br n)
theorem vp:∀n,(br n).length=n+1
 |0=>rfl
 |n+1=>by have h:=vp n;show(qZ (br n++[0]) (0::br n)).length=_;rw[vo (by rw[Vv,Vm];rfl),Vv,h];rfl
theorem yT:∀{as bs:_a},as.length=bs.length->∀k,cf (qZ as bs) k=cf as k+cf bs k
 |[],[],_,k=>by show cf [] k=cf [] k+cf [] k;rw[fB];rfl
 |a::as,b::bs,h,0=>rfl
 |a::as,b::bs,h,k+1=>by show cf ((a+b)::qZ as bs) (k+1)=_;rw[b_,b_,b_];exact yT (Yd h) k
theorem vq:∀(as:_a)(k:Nat),cf (as++[0]) k=cf as k
 |[],k=>by show cf [0] k=cf [] k;rw[oj,fB]
 |a::as,0=>rfl
 |a::as,k+1=>by show cf (a::(as++[0])) (k+1)=_;rw[b_,b_];exact vq as k
theorem vt(n k:Nat):cf (br (n+1)) (k+1)=cf (br n) (k+1)+cf (br n) k:=by show cf (qZ (br n++[0]) (0::br n)) (k+1)=_;rw[yT (by rw[Vv,Vm];rfl),vq,b_]
theorem ud:∀n,cf (br n) 0=1
 |0=>rfl
 |n+1=>by show cf (qZ (br n++[0]) (0::br n)) 0=_;rw[yT (by rw[Vv,Vm];rfl),vq,ud n];rfl
theorem ue:∀(n k:Nat),((k:Int)+1)*cf (br (n+1)) (k+1)=((n:Int)+1)*cf (br n) k
 |0,0=>by decide
 |0,k+1=>by rw[vt];have e1:cf (br 0) (k+1+1)=0:=fK (by rw[vp];lia);have e2:cf (br 0) (k+1)=0:=fK (by rw[vp];lia);rw[e1,e2,Wn];show((k+1:Nat)+1:Int)*(0+0)=0;lia
 |n+1,0=>by have h:=ue n 0;rw[vt,ud];rw[ud]at h;have e:((0:Nat):Int)+1=1:=rfl;rw[e]at h⊢;rw[WU]at h⊢;rw[h];lia
 |n+1,k+1=>by
  have h1:=ue n (k+1);have h2:=ue n k;have r:=vt n k;rw[vt (n+1) (k+1)];rw[Xx,XZ]at h1⊢;rw[Xx,XZ];generalize cf (br (n+1)) (k+1+1)=A at *;generalize cf (br (n+1)) (k+1)=B at *;generalize cf (br n) (k+1)=C at *;generalize cf (br n) k=E at *
  grind
def hm(a b:aE p):_a->aE p
 |[]=>0
 |c::l=>aN [c]*b ^ l.length+a*hm a b l
theorem GD(x:aE p):x ^ 0=1:=rfl
theorem zH(x:aE p)(n:Nat):x ^ (n+1)=x ^ n*x:=rfl
theorem mk0:(aN [0]:aE p)=0:=rfl
theorem MG:(aN [1]:aE p)=1:=rfl
theorem Ee(a b:aE p):∀l:_a,hm a b (l++[0])=b*hm a b l
 |[]=>by show aN [0]*b ^ 0+a*0=b*0;rw[mk0,GD];grind
 |c::l=>by
  show aN [c]*b ^ (l++[0]).length+a*hm a b (l++[0])=b*(aN [c]*b ^ l.length+a*hm a b l);rw[Ee a b l,Vv,show([0]:_a).length=1 from rfl,zH];generalize b ^ l.length=w;generalize hm a b l=v
  grind
theorem Jt(a b:aE p):∀{as bs:_a},as.length=bs.length->hm a b (qZ as bs)=hm a b as+hm a b bs
 |[],[],_=>by show(0:aE p)=0+0;grind
 |x::as,y::bs,h=>by
  have l:=Yd h;show aN [x+y]*b ^ (qZ as bs).length+a*hm a b (qZ as bs)=(aN [x]*b ^ as.length+a*hm a b as)+(aN [y]*b ^ bs.length+a*hm a b bs);rw[Jt a b l,vo l,p4,<-l];generalize b ^ as.length=w;generalize hm a b as=v;generalize hm a b bs=u
  grind
theorem Ju(a b:aE p):∀n,(a+b) ^ n=hm a b (br n)
 |0=>by show 1=aN [1]*b ^ 0+a*0;rw[GD,MG];grind
 |n+1=>by
  rw[zH,Ju a b n];show _=hm a b (qZ (br n++[0]) (0::br n));rw[Jt a b (by rw[Vv,Vm];rfl),Ee];show _=b*hm a b (br n)+(aN [0]*b ^ (br n).length+a*hm a b (br n));rw[mk0];generalize hm a b (br n)=v;generalize b ^ (br n).length=w
  grind
theorem NT{n:Int}(h:fJ p=true)(hn:¬ n % p=0):∃t,(t*n) % p=1:=let⟨_,t,_,_,_,e⟩:=fv h hn [];⟨t,e⟩
theorem xE{n c:Int}(h:fJ p=true)(hn:¬ n % p=0)(e:(n*c) % p=0):c % p=0:=by
 obtain⟨t,ht⟩:=NT h hn;have e1:(t*n*c) % p=c % p:=by rw[X3,ht,WU,Yn _ (Zu p)]
 rw[<-e1,Wx,X3,e,Wn,Xv]
theorem Jv:∀n,cf (br n) n=1
 |0=>rfl
 |n+1=>by rw[vt,Jv n,fK (by rw[vp];lia)];rfl
theorem Q6(h:fJ p=true)(hn:p=(n:Int)+1)(hk:k<n):cf (br (n+1)) (k+1) % p=0:=by
 have e:=ue n k;refine xE h (n:=(k:Int)+1) ?_ ?_
 .rw[V9 (by lia) (by lia)];lia
 .rw[e,<-hn,X3,Int.emod_self,W8,Xv]
theorem Jw{c:Int}(h:c % p=0):(aN [c]:aE p)=0:=by refine mk_eq λk=>?_;show Cg p (cf [c] k) (cf [0] k);rw[oj,k!];obtain⟨q,hq⟩:=Xy h;exact⟨q*one k,by rw[hq,Wx];lia⟩
theorem hmz(a b:aE p):∀(l:_a),l≠[]->(∀k,k+1<l.length->cf l k % p=0)->hm a b l=aN [cf l (l.length-1)]*a ^ (l.length-1)
 |[],h,_=>absurd rfl h
 |[c],_,_=>by show aN [c]*b ^ 0+a*0=aN [c]*a ^ 0;rw[GD,GD];grind
 |c::x::l,_,h=>by
  have ih:=hmz a b (x::l) (List.cons_ne_nil _ _) λk hk=>by have:=h (k+1) (by rw[Vm];lia);rw[b_]at this;exact this
  have h0:=h 0 (by rw[Vm,Vm];lia);show aN [c]*b ^ (x::l).length+a*hm a b (x::l)=aN [cf (c::x::l) (l.length+1)]*a ^ (l.length+1);rw[Jw (show c % p=0 from h0),ih,b_,zH];show 0*_+a*(aN [cf (x::l) l.length]*a ^ l.length)=_;generalize a ^ l.length=w;generalize b ^ (x::l).length=v;generalize (aN [cf (x::l) l.length]:aE p)=u
  grind
theorem U2(h:fJ p=true)(a b:aE p):(a+b) ^ p.toNat=a ^ p.toNat+b ^ p.toNat:=by
 have hr:=aJ h;obtain⟨n,hn⟩:∃n:Nat,p=(n:Int)+1:=⟨(p-1).toNat,by lia⟩
 have ep:p.toNat=n+1:=by lia
 rw[ep,Ju];have hl:=vp (n+1);cases hb:br (n+1) with
 |nil=>rw[hb]at hl;cases hl
 |cons c l=>
  have ll:l.length=n+1:=by rw[hb,Vm]at hl;lia
  have c1:c=1:=by have:=ud (n+1);rw[hb]at this;exact this
  have z:=hmz a b l (λz=>by rw[z]at ll;cases ll) λk hk=>by have:=Q6 h hn (k:=k) (by lia);rw[hb,b_]at this;exact this
  have t:=Jv (n+1);rw[hb,b_]at t;show aN [c]*b ^ l.length+a*hm a b l=_;rw[z,ll,show n+1-1=n from rfl,t,c1,MG,zH a n];generalize a ^ n=w;generalize b ^ (n+1)=v
  grind
def Xp:aE p:=aN [0,1]
theorem yU(c:Int)(l:_a):(aN (c::l):aE p)=aN [c]+Xp*aN l:=by
 refine iX λk=>?_;rw[d!,bC];have e:mF [0,1] (cf l) k=gO (cf l) k:=by show 0*cf l k+gO (mF [1] (cf l)) k=_;rw[dI (λj=>by rw[vj,WU]) k];lia
 rw[e];cases k with
 |zero=>show c=c+0;lia
 |succ k=>
  rw[b_,b_,fB];show _=0+cf l k;lia
theorem A4(m:_a):∀n:Nat,(aN (List.replicate n 0++m):aE p)=Xp ^ n*aN m
 |0=>by rw[GD];show aN m=1*aN m;grind
 |n+1=>by
  rw[Vy,Vz,yU,A4 m n,mk0,zH];generalize (Xp:aE p) ^ n=w
  grind
theorem one_pow:∀n:Nat,(1:aE p) ^ n=1
 |0=>rfl
 |n+1=>by rw[zH,one_pow n];grind
theorem Ef(h:fJ p=true):∀n:Nat,(aN [(n:Int)]:aE p) ^ p.toNat=aN [(n:Int)]
 |0=>by
  have hr:=aJ h;obtain⟨n,hn⟩:∃n:Nat,p.toNat=n+1:=⟨p.toNat-1,by lia⟩
  show(0:aE p) ^ p.toNat=0;rw[hn,zH];grind
 |n+1=>by rw[Xx,XZ,p4,U2 h,Ef h n,MG,one_pow]
def U3(P:Nat):_a->_a
 |[]=>[]
 |c::l=>c::(List.replicate (P-1) 0++U3 P l)
theorem Eg(h:fJ p=true):∀L:_a,(∀c∈L,0<=c)->(aN L:aE p) ^ p.toNat=aN (U3 p.toNat L)
 |[],_=>by
  have hr:=aJ h;obtain⟨n,hn⟩:∃n:Nat,p.toNat=n+1:=⟨p.toNat-1,by lia⟩
  have z:(aN []:aE p)=0:=iX λk=>by rw[fB];exact(oj k).symm
  show(aN []:aE p) ^ p.toNat=aN [];rw[hn,zH,z];grind
 |c::l,hc=>by
  have hr:=aJ h;obtain⟨n,hn⟩:∃n:Nat,p.toNat=n+1:=⟨p.toNat-1,by lia⟩
  obtain⟨m,hm⟩:∃m:Nat,c=(m:Int):=⟨c.toNat,by have:=hc c VV;lia⟩
  show _=aN (c::(List.replicate (p.toNat-1) 0++U3 p.toNat l));rw[yU,yU c (_++_),U2 h,A4,SA.mul_pow,<-Eg h l λx m=>hc x (VP _ m),hm,Ef h,hn,show n+1-1=n from rfl,zH Xp n];generalize (Xp:aE p) ^ n=w;generalize (aN l:aE p) ^ (n+1)=v
  grind
theorem Q7(n:Nat)(m:_a):∀k,cf (List.replicate n 0++m) k=if k<n then 0 else cf m (k-n):=by
 induction n with
 |zero=>intro k;rw[VI (by lia)];rfl
 |succ n ih=>
  intro k;rw[Vy,Vz];cases k with
  |zero=>rw[VC (by lia)];rfl
  |succ k=>
   rw[b_,ih];by_cases z:k<n
   .rw[VC z,VC (by lia)]
   .rw[VI z,VI (by lia),show k+1-(n+1)=k-n by lia]
theorem Jx{P:Nat}(hP:0<P):∀(L:_a)(k:Nat),cf (U3 P L) k=if k % P=0 then cf L (k / P)else 0
 |[],k=>by show cf [] k=_;rw[fB,fB];split<;>rfl
 |c::l,0=>by rw[VC (Nat.zero_mod P),Nat.zero_div];rfl
 |c::l,k+1=>by
  show cf (c::(List.replicate (P-1) 0++U3 P l)) (k+1)=_;rw[b_,Q7];by_cases z:k<P-1
  .rw[VC z,Nat.mod_eq_of_lt (by lia),VI (by lia)]
  .rw[VI z,Jx hP l,show k-(P-1)=k+1-P by lia];have e1:(k+1) % P=(k+1-P) % P:=Nat.mod_eq_sub_mod (by lia);have e2:(k+1) / P=(k+1-P) / P+1:=Nat.div_eq_sub_div hP (by lia);rw[e1,e2];by_cases y:(k+1-P) % P=0
   .rw[VC y,VC y,b_]
   .rw[VI y,VI y]
theorem Jy(h:fJ p=true)(hU:Row p U)(nU:U≠[])(hm:((U.length:Int)-1) % p=0)(hd:∀k,¬ k % p.toNat=0->cf U k % p=0):(aN (gn U p):aE p) ^ p.toNat=aN U:=by
 have hr:=aJ h;have u0:0<U.length:=VJ.mpr nU;obtain⟨m,hmm⟩:∃m:Nat,(U.length:Int)=p*m+1:=by have h1:=Wl ((U.length:Int)-1) p;have h2:0<=((U.length:Int)-1) / p:=YZ (by lia) (by lia);refine⟨(((U.length:Int)-1) / p).toNat,?_⟩;rw[Wg h2];lia
 have e:=Ed (by lia) hmm;rw[Eg h (gn U p) (λc mc=>by
  rw[e]at mc;obtain⟨j,_,rfl⟩:=Wb.mp mc;exact(hU.GA (by lia) _).1)]
 refine mk_eq λk=>?_;rw[Jx (by lia)];by_cases z:k % p.toNat=0
 .rw[VC z];have ek:p.toNat*(k / p.toNat)=k:=Nat.mul_div_cancel' (Yf z);have:cf (gn U p) (k / p.toNat)=cf U k:=by
   rw[e];by_cases y:k / p.toNat<m+1
   .show((List.range (m+1)).map λj=>U.getD (p.toNat*j) 0).getD (k / p.toNat) 0=_;rw[VF,VM,Wd y];show U.getD (p.toNat*(k / p.toNat)) 0=_;rw[ek];rfl
   .rw[fK (by rw[Vq,VW];lia),fK ?_];have h3:p.toNat*(m+1)<=p.toNat*(k / p.toNat):=ZC _ (by lia);rw[ek,Nat.mul_add]at h3;have h4:((p.toNat*m:Nat):Int)=p*m:=by rw[W4,Wg (by lia)]
    lia
  rw[this];exact Cg.refl p _
 .rw[VI z];obtain⟨q,hq⟩:=Xy (hd k z);exact⟨-q,by rw[hq,X8];lia⟩
open SA (ee)
theorem q9{A G:_a}(h:UX p A B G):jY p G/\(aN A:aE p)=aN G*aN (cS p A G)/\(aN B:aE p)=aN G*aN (cS p B G)/\∃u v:aE p,aN G=u*aN A+v*aN B:=by
 have q:∀C:_a,ba p (cf C) (mF (cS p C G) (cf G))->(aN C:aE p)=aN G*aN (cS p C G):=λC e=>by rw[cK];exact mk_eq (e.trans (ba.of_eq (bC _ _)).symm)
 obtain⟨u,v,e⟩:=h.c;exact⟨⟨h.r,h.n,h.l⟩,q A h.a,q B h.b,aN u,aN v,mk_eq (e.trans (ba.of_eq λk=>by rw[d!,bC,bC]))⟩
theorem wq{P:_a}(h:jY p P)(l:P.length=1):P=[1]:=by obtain⟨x,rfl⟩:=List.length_eq_one_iff.mp l;rw[show x=1 from h.l1]
theorem A5(hp:2<=p){P:_a}(h:jY p P){z:aE p}(e:aN P*z=1):P=[1]:=by obtain⟨Q,_,_,nQ,l⟩:=qY (by lia) (yP hp) (List.cons_ne_nil _ _) h (x:=z) (by rw[MG,e]);have:=VJ.mpr nQ;have:=VJ.mpr h.ne;exact wq h (by rw[show[(1:Int)].length=1 from rfl]at l;lia)
def oz:List (Nat×List Int)->aE p
 |[]=>1
 |q::l=>aN q.2 ^ q.1*oz l
theorem yW:∀(a b:List (Nat×List Int)),(oz (a++b):aE p)=oz a*oz b
 |[],b=>by show oz b=1*oz b;grind
 |q::a,b=>by
  show aN q.2 ^ q.1*oz (a++b)=aN q.2 ^ q.1*oz a*oz b;rw[yW a b];generalize (aN q.2:aE p) ^ q.1=w
  grind
theorem Eh{x:aE p}:∀{ps:List (Nat×List Int)},(∀q∈ps,ee x (aN q.2))->ee x (oz ps)
 |[],_=>ee.one
 |q::l,h=>((h q VV).pow q.1).mul (Eh λr m=>h r (VP _ m))
theorem Jz:∀n:Nat,(SA.cst n:aE p)=aN [(n:Int)]
 |0=>rfl
 |n+1=>by show SA.cst n+1=_;rw[Jz n,Xx,XZ,p4,MG]
theorem jY.vA(hp:0<p){P:_a}(h:jY p P):∀(n:Nat)(x y:aE p),aN P ^ n*x=aN P ^ n*y->x=y
 |0,x,y,e=>by rw[GD]at e;grind
 |n+1,x,y,e=>by rw[zH,fE,fE]at e;exact h.cancel hp _ _ (jY.vA hp h n _ _ e)
structure Lv(p:Int)(F S1 U1:aE p)(m:Nat)(S U:_a)(ps:List (Nat×List Int)):Prop where
 mS:jY p S
 mU:jY p U
 eq:F=oz ps*aN S ^ m*aN U
 sq:ee (aN S:aE p) (dP (aN S))
 c1:∀q∈ps,ee (aN q.2:aE p) (aN S)/\ee (aN q.2:aE p) (aN U)/\ee (aN q.2:aE p) (dP (aN q.2))
 c2:ps.Pairwise λa b=>ee (aN a.2:aE p) (aN b.2)
 lt:∀q∈ps,1<=q.1/\q.1<m/\¬ q.1 % p.toNat=0
 mn:∀q∈ps,jY p q.2/\2<=q.2.length
 inc:ps.Pairwise λa b=>a.1<b.1
 dv:∃x,S1=aN S*x
 m1:1<=m
theorem Lv.step(hp:fJ p=true){F S1 U1 a b:aE p}{S G P V:_a}{ps:List (Nat×List Int)}(L:Lv p F S1 U1 m S U ps)(hF:F=S1*U1)(hg:U1=a*F+b*dP F)(g:UX p S U G)(hP:jY p P)(hV:jY p V)(eP:(aN S:aE p)=aN G*aN P)(eV:(aN U:aE p)=aN G*aN V):
  Lv p F S1 U1 (m+1) G V (if 1<P.length then ps++[(m,P)]else ps)/\(1<P.length->¬ m % p.toNat=0):=by
 have hr:=aJ hp;obtain⟨mG,_,_,u,v,eG⟩:=q9 g;have eS:(aN S:aE p)=aN P*aN G:=by rw[eP,cK]
 obtain⟨k1,k2,k3,k4,k5⟩:=SA.Jr (d:=dP) oX eS eV eG L.sq;have kk:∀q∈ps,ee (aN q.2:aE p) (aN P)/\ee (aN q.2:aE p) (aN G)/\ee (aN q.2:aE p) (aN V):=λq mq=>SA.Js eS eV (L.c1 q mq).1 (L.c1 q mq).2.1;have e1:=SA.step_eq L.eq eS eV;obtain⟨x,ex⟩:=L.dv;have dvG:∃y,S1=aN G*y:=⟨aN P*x,by rw[ex,eP];grind⟩
 have np:1<P.length->¬ m % p.toNat=0:=λlP z=>by
  have m0:(SA.cst m:aE p)=0:=by rw[Jz];refine Jw ?_;obtain⟨q,hq⟩:=Yf z;rw[hq,W4,Wg (by lia),X3,Int.emod_self,W8,Xv]
  have d0:dP (aN P ^ m:aE p)=0:=by
   refine hP.cancel (by lia) _ _ ?_;rw[SA.U0 oX,m0];generalize (aN P:aE p) ^ m=w
   grind
  obtain⟨y,hy⟩:=SA.AA (d:=dP) oX (P:=aN P) (W:=aN P ^ m) (Q:=oz ps*aN G ^ (m+1)*aN V) (F:=F) (S:=S1) (U:=U1) (x:=aN G*x) (a:=a) (b:=b) (by
   rw[e1];generalize (aN P:aE p) ^ m=w;generalize (aN G:aE p) ^ (m+1)=t
   grind) d0 hF hg (by rw[ex,eS];grind) (((Eh λq mq=>(kk q mq).1.symm).mul (k1.pow _)).mul k5) (hP.vA (by lia) m)
  rw[A5 (by lia) hP hy]at lP;exact absurd lP (by decide)
 refine⟨?_,np⟩;by_cases lP:1<P.length
 .rw[VC lP];refine⟨mG,hV,?_,k3,λq mq=>?_,?_,λq mq=>?_,λq mq=>?_,?_,dvG,by lia⟩
  .rw[e1,yW];show _=oz ps*(aN P ^ m*1)*_*_;generalize (aN P:aE p) ^ m=w;generalize (aN G:aE p) ^ (m+1)=t
   grind
  .rcases VX.mp mq with mq|mq
   .exact⟨(kk q mq).2.1,(kk q mq).2.2,(L.c1 q mq).2.2⟩
   .rw[VN.mp mq];exact⟨k1,k5,k2⟩
  .refine WS.mpr ⟨L.c2,WZ _ _,λq mq r mr=>?_⟩;rw[VN.mp mr];exact(kk q mq).1
  .rcases VX.mp mq with mq|mq
   .have:=L.lt q mq;exact⟨this.1,by lia,this.2.2⟩
   .rw[VN.mp mq];exact⟨L.m1,by show m<m+1;lia,np lP⟩
  .rcases VX.mp mq with mq|mq
   .exact L.mn q mq
   .rw[VN.mp mq];exact⟨hP,lP⟩
  .refine WS.mpr ⟨L.inc,WZ _ _,λq mq r mr=>?_⟩;rw[VN.mp mr];exact(L.lt q mq).2.1
 .rw[VI lP];have p1:P=[1]:=wq hP (by have:=VJ.mpr hP.ne;lia);refine⟨mG,hV,?_,k3,λq mq=>⟨(kk q mq).2.1,(kk q mq).2.2,(L.c1 q mq).2.2⟩,L.c2,λq mq=>?_,L.mn,L.inc,dvG,by lia⟩
  .rw[e1,p1,MG,one_pow];generalize (aN G:aE p) ^ (m+1)=t
   grind
  .have:=L.lt q mq;exact⟨this.1,by lia,this.2.2⟩
theorem Q8(hp:fJ p=true){A:_a}(hA:Row p A)(hB:Row p B)(nA:A≠[])(l1:A.length<=5000)(l2:B.length<=5000):∃G,UX p A B G:=by obtain⟨_,_,G,_,_,_,_,g,_⟩:=yS hp (st:=[aV A,aV B]) (n:=0) (m:=1) rfl rfl hA hB (.inl nA) l1 l2;exact⟨G,g⟩
def nu(p:Int)(A:_a):_a:=cm ((dD A).map (·.fmod p))
theorem vB(hp:0<p)(A:_a):Row p (nu p A):=Row.of hp _
theorem xF(hp:0<p)(A:_a):(aN (nu p A):aE p)=dP (aN A):=by rw[Jn];exact mk_eq (Row.cg hp _)
theorem vC(A:_a):(nu p A).length<=A.length-1:=by refine V? (gZ _) ?_;unfold dD fw;rw[Vq,Vq,Vq,VW];lia
theorem Lv.start(hp:fJ p=true){F S:_a}(hS:jY p S)(gU:UX p F (nu p F) U)(eS:(aN F:aE p)=aN U*aN S)(l1:S.length<=5000):
  Lv p (aN F) (aN S) (aN U) 1 S U []/\∃a b:aE p,aN U=a*aN F+b*dP (aN F):=by
 have hr:=aJ hp;have fL:0<p:=by lia
 have eF:=xF fL F;have rS:=vB fL S;have eD:=xF fL S;have l2:(nu p S).length<=5000:=by have:=vC (p:=p) S;lia
 obtain⟨mU,_,e2,a,b,e3⟩:=q9 gU;rw[eF]at e2 e3;obtain⟨D,gD⟩:=Q8 hp hS.row rS hS.ne l1 l2;obtain⟨mD,d1,d2,u,v,d3⟩:=q9 gD;rw[eD]at d2 d3;have d0:D=[1]:=UZ (by lia) mD mU hS (f:=aN F) (w:=aN (cS p (nu p F) U)) (a:=a) (b:=b) (a2:=0) (b2:=0) (by rw[eS,cK]) e2 e3 d1 d2;rw[d0,MG]at d3;refine⟨⟨hS,mU,?_,⟨u,v,d3.symm⟩,(λq m=>by cases m),.nil,(λq m=>by cases m),(λq m=>by cases m),.nil,⟨1,by grind⟩,VD _⟩,a,b,e3⟩;show aN F=1*aN S ^ (0+1)*aN U;rw[zH,GD,eS]
 grind
theorem Cw(hp:0<p)(h:jY p U)(e:Dvd p U (iH (cf U))):ba p (iH (cf U)) (λ_=>0):=by
 obtain⟨x,hx⟩:=e;obtain⟨r,hr⟩:∃r,r=cm ((dD U).map (·.fmod p)):=⟨_,rfl⟩
 have rr:Row p r:=by rw[hr];exact Row.of hp _
 have cg:ba p (cf r) (iH (cf U)):=by rw[hr];exact(Row.cg hp _).trans (ba.of_eq (nk U))
 have u0:=VJ.mpr h.ne;have lr:r.length<U.length:=by
  have:r.length<=U.length-1:=jv rr.cut λk hk=>by
   have c:=cg k;have z:iH (cf U) k=0:=by show((k:Int)+1)*cf U (k+1)=0;rw[fK (by lia),Wn]
   rw[z]at c;have q:=rr.GA hp k;obtain⟨y,hy⟩:=c;by_cases w:y=0
   .rw[w]at hy;lia
   .exfalso;rcases Int.lt_or_gt_of_ne w with w|w
    .have:=WC (show y<=-1 by lia) (show 0<=p by lia);lia
    .have:=WC (show 1<=y by lia) (show 0<=p by lia);lia
  lia
 have:=nj hp rr h.ne h.l1 lr (cg.trans hx);rw[this]at cg;exact cg.symm.trans (ba.of_eq λk=>fB k)
theorem JA(x:aE p)(m:Nat):∀n:Nat,x ^ (m+n)=x ^ m*x ^ n
 |0=>by rw[GD,Nat.add_zero];grind
 |n+1=>by
  rw[<-Nat.add_assoc,zH,zH,JA x m n];generalize x ^ m=a;generalize x ^ n=b
  grind
theorem Cy(x:aE p)(m:Nat):∀s:Nat,x ^ (s*m)=(x ^ m) ^ s
 |0=>by rw[Nat.zero_mul,GD,GD]
 |s+1=>by rw[Nat.add_mul,Nat.one_mul,JA,Cy x m s,zH]
def MJ(st:Nat)(qs:List (Nat×List Int)):List (Nat×List Int):=qs.map λq=>(st*q.1,q.2)
theorem Ei(st:Nat):∀qs:List (Nat×List Int),(oz (MJ st qs):aE p)=oz qs ^ st
 |[]=>(one_pow st).symm
 |q::l=>by show aN q.2 ^ (st*q.1)*oz (MJ st l)=(aN q.2 ^ q.1*oz l) ^ st;rw[Ei st l,SA.mul_pow,Cy]
theorem uf{q:Nat×List Int}:∀{ps:List (Nat×List Int)},q∈ps->1<=q.1->∃x,(oz ps:aE p)=aN q.2*x
 |r::l,m,h=>by
  rcases V5.mp m with rfl|m
  .obtain⟨n,hn⟩:∃n,q.1=n+1:=⟨q.1-1,by lia⟩
   refine⟨aN q.2 ^ n*oz l,?_⟩;show aN q.2 ^ q.1*oz l=_;rw[hn,zH];generalize (aN q.2:aE p) ^ n=w
   grind
  .obtain⟨x,e⟩:=uf m h;refine⟨aN r.2 ^ r.1*x,?_⟩;show aN r.2 ^ r.1*oz l=_;rw[e];generalize (aN r.2:aE p) ^ r.1=w
   grind
structure Ov(p:Int)(F:aE p)(st:Nat)(L:_a)(ps:List (Nat×List Int)):Prop where
 mL:jY p L
 eq:F=oz ps*aN L ^ st
 c1:∀q∈ps,ee (aN q.2:aE p) (aN L)/\ee (aN q.2:aE p) (dP (aN q.2))
 c2:ps.Pairwise λa b=>ee (aN a.2:aE p) (aN b.2)
 lt:∀q∈ps,1<=q.1/\¬ q.1 % st=0
 mn:∀q∈ps,jY p q.2/\2<=q.2.length
 ne:ps.Pairwise λa b=>a.1≠b.1
 s1:1<=st
theorem Ov.step(hp:fJ p=true){F S1 U1:aE p}{st:Nat}{L L2:_a}{ps qs:List (Nat×List Int)}(O:Ov p F st L ps)(V:Lv p (aN L) S1 U1 m [1] U qs)(hL:jY p L2)(eU:(aN L2:aE p) ^ p.toNat=aN U):Ov p F (st*p.toNat) L2 (ps++MJ st qs):=by
 have hr:=aJ hp;obtain⟨n,hn⟩:∃n:Nat,p.toNat=n+1:=⟨p.toNat-1,by lia⟩
 have e1:(aN L:aE p)=oz qs*aN U:=by rw[V.eq,MG,one_pow];grind
 have s1:=O.s1;have dU:∃x,(aN U:aE p)=aN L2*x:=⟨aN L2 ^ n,by rw[<-eU,hn,zH];exact cK _ _⟩
 obtain⟨x,ex⟩:=dU;have cL:∀q∈ps,ee (aN q.2:aE p) (aN L2)/\∀r∈qs,ee (aN q.2:aE p) (aN r.2):=λq mq=>by have c:=(O.c1 q mq).1;refine⟨c.of_dvd (x:=x*oz qs) (by rw[e1,ex];grind),λr mr=>?_⟩;obtain⟨y,ey⟩:=uf (p:=p) mr (V.lt r mr).1;exact c.of_dvd (x:=y*aN U) (by rw[e1,ey];grind)
 have ms:∀{q},q∈MJ st qs->∃r∈qs,q=(st*r.1,r.2):=λ{q}mq=>by obtain⟨r,mr,e⟩:=Wb.mp mq;exact⟨r,mr,e.symm⟩
 have nd:∀r∈qs,¬ (st*r.1) % (st*p.toNat)=0:=λr mr z=>by
  rw[Nat.mul_mod_mul_left]at z;rcases Nat.mul_eq_zero.mp z with z|z
  .lia
  .exact(V.lt r mr).2.2 z
 have ns:∀q∈ps,∀r∈qs,q.1≠st*r.1:=λq mq r mr e=>(O.lt q mq).2 (by rw[e,ZR]);refine⟨hL,?_,λq mq=>?_,?_,λq mq=>?_,λq mq=>?_,?_,Nat.mul_pos s1 (by lia)⟩
 .rw[yW,Ei,O.eq,e1,SA.mul_pow,<-eU,Cy];generalize (oz qs:aE p) ^ st=w;generalize ((aN L2:aE p) ^ p.toNat) ^ st=v
  grind
 .rcases VX.mp mq with mq|mq
  .exact⟨(cL q mq).1,(O.c1 q mq).2⟩
  .obtain⟨r,mr,rfl⟩:=ms mq;exact⟨(V.c1 r mr).2.1.of_dvd ex,(V.c1 r mr).2.2⟩
 .refine WS.mpr ⟨O.c2,Wt.mpr V.c2,λq mq r mr=>?_⟩;obtain⟨r',mr',rfl⟩:=ms mr;exact(cL q mq).2 r' mr'
 .rcases VX.mp mq with mq|mq
  .refine⟨(O.lt q mq).1,λz=>(O.lt q mq).2 ?_⟩;exact Zm (Nat.dvd_trans (Nat.dvd_mul_right st p.toNat) (Yf z))
  .obtain⟨r,mr,rfl⟩:=ms mq;exact⟨Nat.mul_pos s1 (V.lt r mr).1,nd r mr⟩
 .rcases VX.mp mq with mq|mq
  .exact O.mn q mq
  .obtain⟨r,mr,rfl⟩:=ms mq;exact V.mn r mr
 .refine WS.mpr ⟨O.ne,Wt.mpr (V.inc.imp λ{a b}h e=>?_),λq mq r mr=>?_⟩
  .have:=Y_ s1 e;lia
  .obtain⟨r',mr',rfl⟩:=ms mr;exact ns q mq r' mr'
abbrev pbT:MT:=dY (ag sO (ak bF (aa nW ai)) cI)
abbrev pbI:MB:=mz (dY (ag sO (ak bF (aa Bn ai)) cI)) (yx cQ uD Bn) dh
abbrev pbB:MB:=aA (aM 8 (ak PM.cV (aa bg (aa nW (aa j4 ai))))) (aA (aM 9 (ag bQ (ak PM.parted (aa bg (aa nW (aa Hq ai)))) cT)) (aA pbI (aA (aM 6 Hq) (aA (aM 5 (ag bQ (ak PM.parted (aa bg (aa j4 (aa Hq ai)))) cT)) (HZ 7 Fo dJ)))))
theorem jN{s:af}(h1:s[n]?=some (.lst us))(h2:s[d]?=some (.dK a8)):d≠n:=by intro z;rw[z,h1]at h2;cases h2
def abe(μ:MN.Env)(s:af):Nat:=match(μ[5]?:Option (Option ah)),(μ[6]?:Option (Option ah)) with
 |some (some (.loc k)),some (some (.loc j))=>gv k s+gv j s
 |_,_=>0
theorem jb{s:af}{A:_a}(h:s[k]?=some (aV A)):gv k s=A.length:=by unfold gv;rw[aB h];exact aI A
abbrev En:=Nat×Nat×List Int
def wA(e:En):fe×ah:=(.inl (e.1:Int),.loc e.2.1)
theorem JB{k:fe}(h:∀kv∈a8,kv.1≠k):yt a8 k v=a8++[(k,v)]:=by unfold yt;rw[VI];intro z;obtain⟨kv,m,e⟩:=List.any_eq_true.mp z;exact h kv m (WN e)
structure PbL(p:Int)(D:Nat)(st:af)(d:Nat)(x1 x4:Option ah)(sN:Nat)(F S1 U1:aE p)(es0:List En)(m:Nat)(μ:MN.Env)(s:af)(kS kU:Nat)(S U:_a)(es:List En)(qs:List (Nat×List Int)):Prop where
 env:∃x8 x9,μ=[qI p, x1, qL d, qI (sN:Int), x4, qL kU, qL kS, qI ((sN:Int)*(m:Int)), x8, x9]
 fr:Fr st s
 hd:st.length<=d
 dk:s[d]?=some (.dK ((es0++es).map wA))
 re:∀e∈es0++es,s[e.2.1]?=some (aV e.2.2)
 eq_:es.map (λe=>(e.1,e.2.2))=MJ sN qs
 ct:(es0++es).length+(S.length-1)+(U.length-1)<=D
 lS:s[kS]?=some (aV S)
 lU:s[kU]?=some (aV U)
 dv:Dvd p U (mF S (iH (cf U)))
 lv:Lv p F S1 U1 m S U qs
 ap:(es0++es).Pairwise λa b=>a.2.1<b.2.1
 fh:∀e∈es0++es,st.length<=e.2.1
section
variable{D:Nat}{sN:Nat}{F S1 U1 a b:aE p}{es0:List En}
theorem JC(hp:fJ p=true)(hD:D<=2000)(s1:1<=sN)(n0:∀e∈es0,¬ e.1 % sN=0)(hF:F=S1*U1)(hg:U1=a*F+b*dP F){μ:MN.Env}{s:af}{kS kU:Nat}{S:_a}{es:List En}{qs:List (Nat×List Int)}(h:PbL p D st d x1 x4 sN F S1 U1 es0 m μ s kS kU S U es qs):
  ∃μ' s',dM pbT pbB μ s=.nx μ' s'/\∃m kS kU U' es qs,U'.length<=U.length/\PbL p D st d x1 x4 sN F S1 U1 es0 m μ' s' kS kU [1] U' es qs:=by
 have hr:=aJ hp;have fL:0<p:=by lia
 refine gC (t:=pbT) (body:=pbB) (λμ s=>∃m kS kU S U' es qs,U'.length<=U.length/\PbL p D st d x1 x4 sN F S1 U1 es0 m μ s kS kU S U' es qs) abe (λμ s=>∃m kS kU U' es qs,U'.length<=U.length/\PbL p D st d x1 x4 sN F S1 U1 es0 m μ s kS kU [1] U' es qs) ?_ μ s ⟨m,kS,kU,S,U,es,qs,VD _,h⟩;clear h;obtain⟨LU,hLU⟩:∃L,L=U.length:=⟨_,rfl⟩
 rw[<-hLU];clear hLU;rintro μ s ⟨m,kS,kU,S,U,es,qs,hle,h⟩;obtain⟨x8,x9,rfl⟩:=h.env;obtain⟨L,hL⟩:∃L:Int,L=(S.length:Int):=⟨_,rfl⟩
 have kl:bF [.loc kS] s=.ok (.int L) s:=by rw[bc (aB h.lS),aI,hL]
 have s0:0<S.length:=VJ.mpr h.lv.mS.ne;have u0:0<U.length:=VJ.mpr h.lv.mU.ne;have ct:=h.ct;by_cases h1:S.length=1
 .have e:=wq h.lv.mS h1;have h0:decide ((1:Int)<L)=false:=VT (by rw[hL,h1];decide);rw[e]at h;exact .inl ⟨s,by simp only[aj,av,aH,aw,ay,ar,bj,aR,aQ,az,aq,au,fi,aU,aD,kl,h0],m,kS,kU,U,es,qs,hle,h⟩
 .have h0:decide ((1:Int)<L)=true:=VZ (by lia);obtain⟨s1',kF,G,e1,F1,_,lF,gG,_⟩:=yS hp h.lS h.lU h.lv.mS.row h.lv.mU.row (.inl h.lv.mS.ne) (by lia) (by lia);have zG:¬ aO G % p=0:=by rw[gG.l,V9 (by lia) (by lia)];lia
  obtain⟨qS,_,_,_,qlS⟩:=fH hp (as:=S) gG.n zG;obtain⟨qU,_,_,_,qlU⟩:=fH hp (as:=U) gG.n zG;obtain⟨nP,eP,lP1⟩:=uc fL h.lv.mS.row h.lv.mS.ne qS gG.n gG.l gG.a;obtain⟨nV,eV,lV⟩:=uc fL h.lv.mU.row h.lv.mU.ne qU gG.n gG.l gG.b;have g0:0<G.length:=VJ.mpr gG.n;have p0:0<(cS p S G).length:=VJ.mpr nP;have v0:0<(cS p U G).length:=VJ.mpr nV;obtain⟨mG,g1,g2,_⟩:=q9 gG;have mP:jY p (cS p S G):=⟨qS,nP,by rw[<-lP1];exact h.lv.mS.l1⟩
  have mV:jY p (cS p U G):=⟨qU,nV,by rw[<-lV];exact h.lv.mU.l1⟩
  obtain⟨LV,_⟩:=h.lv.step hp hF hg gG mP mV g1 g2;obtain⟨s2,kP,z2,e2,F2,lkP,_,_,lP,_⟩:=gf hp (aB (F1 _ _ h.lS)) lF gG.n zG (by lia) (by lia);have zI:=F1.trans F2;have Q_:=zI _ _ h.dk;obtain⟨LP,hLP⟩:∃L:Int,L=((cS p S G).length:Int):=⟨_,rfl⟩
  have kp:bF [.loc kP] s2=.ok (.int LP) s2:=by rw[bc (aB lP),aI,hLP]
  obtain⟨oY,xG⟩:∃oY:Int,oY=(sN:Int)*(m:Int):=⟨_,rfl⟩
  rw[<-xG];obtain⟨s3,pf,ei,dk3,F3,re3,q3,c3,lF3,lU3,ap3,fh3⟩:∃s3 pf,pbI [qI p, x1, qL d, qI (sN:Int), x4, qL kU, qL kS, qI oY, qL kF, qL kP] s2=.nx [qI p, x1, qL d, qI (sN:Int), x4, qL kU, qL kS, qI oY, qL kF, qL kP] s3/\s3[d]?=some (.dK ((es0++pf).map wA))/\Fr st s3/\(∀e∈es0++pf,s3[e.2.1]?=some (aV e.2.2))/\pf.map (λe=>(e.1,e.2.2))=MJ sN (if 1<(cS p S G).length then qs++[(m,cS p S G)]else qs)/\(es0++pf).length+(G.length-1)+((cS p U G).length-1)<=D/\s3[kF]?=some (aV G)/\s3[kU]?=some (aV U)/\((es0++pf).Pairwise λa b=>a.2.1<b.2.1)/\∀e∈es0++pf,st.length<=e.2.1:=by
   by_cases hq:1<(cS p S G).length
   .have hq0:decide ((1:Int)<LP)=true:=VZ (by lia);have nw:∀kv∈(es0++es).map wA,kv.1≠.inl oY:=λkv mk e=>by
     obtain⟨x,mx,rfl⟩:=Wb.mp mk;have ex:(x.1:Int)=oY:=by injection e
     rw[xG,<-W4]at ex;have ex':x.1=sN*m:=by lia
     rcases VX.mp mx with mx|mx
     .exact n0 x mx (by rw[ex',ZR])
     .have:(x.1,x.2.2)∈MJ sN qs:=by rw[<-h.eq_];exact W7 mx
      obtain⟨q,mq,eq⟩:=Wb.mp this;have e3:sN*q.1=x.1:=X5 Prod.fst eq;rw[ex']at e3;have:=Y_ s1 e3;have:=(h.lv.lt q mq).2.1;lia
    have pn:=JB (v:=.loc kP) nw;have ek:(es0++es).map wA++[(.inl oY,.loc kP)]=(es0++(es++[(sN*m,kP,cS p S G)])).map wA:=by rw[<-VU,Ws (l₁:=es0++es)];show _=_++[((.inl ((sN*m:Nat):Int):fe),ah.loc kP)];rw[W4,xG]
    refine⟨s2.set d (.dK (yt ((es0++es).map wA) (.inl oY) (.loc kP))),es++[(sN*m,kP,cS p S G)],?_,by rw[iw Q_,pn,ek],(h.fr.trans zI).set h.hd _,λe me=>?_,?_,?_,g9 (F2 _ _ lF) (jN (F2 _ _ lF) Q_),g9 (zI _ _ h.lU) (jN (zI _ _ h.lU) Q_),by
     rw[<-VU];refine WS.mpr ⟨h.ap,WZ _ _,λx mx y my=>?_⟩;rw[VN.mp my];have:=NR (F1 _ _ (h.re x mx));show x.2.1<kP;lia,λe me=>by
     rw[<-VU]at me;rcases VX.mp me with me|me
     .exact h.fh e me
     .rw[VN.mp me];have:=(h.fr.trans F1).len;show st.length<=kP;lia⟩
    .have ep:yx cQ uD Bn [qI p, x1, qL d, qI (sN:Int), x4, qL kU, qL kS, qI oY, qL kF, qL kP] s2=.nx [qI p, x1, qL d, qI (sN:Int), x4, qL kU, qL kS, qI oY, qL kF, qL kP] (s2.set d (.dK (yt ((es0++es).map wA) (.inl oY) (.loc kP)))):=by
      have pf:qz s2 (.loc d) (.int oY) (.loc kP)=some (s2.set d (.dK (yt ((es0++es).map wA) (.inl oY) (.loc kP)))):=by unfold qz;dsimp only;rw[Q_];dsimp only;rw[VC (by rw[Vq,VB];lia)];rfl
      show(match qz s2 (.loc d) (.int oY) (.loc kP) with
       |some ph=>bY.nx _ ph
       |none=>.bad)=_
      rw[pf]
     simp only[aj,ax,av,aH,aw,ay,ar,dC,bj,aR,aQ,az,aq,au,bh,fi,aU,aD,kp,hq0,ep]
    .rw[<-VU]at me;rcases VX.mp me with me|me
     .have:=zI _ _ (h.re e me);exact g9 this (jN this Q_)
     .rw[VN.mp me];exact g9 lP (jN lP Q_)
    .rw[VC hq,Ws,h.eq_];unfold MJ;rw[Ws];rfl
    .rw[<-VU,Vv];show(es0++es).length+1+_+_<=D;lia
   .have hq0:decide ((1:Int)<LP)=false:=VT (by lia);exact⟨s2,es,by simp only[aj,ax,av,aH,aw,ay,ar,bS,bj,aR,aQ,az,aq,au,bN,bh,fi,aU,aD,kp,hq0],Q_,h.fr.trans zI,λe me=>zI _ _ (h.re e me),by rw[VI hq];exact h.eq_,by lia,F2 _ _ lF,zI _ _ h.lU,h.ap,h.fh⟩
  obtain⟨s4,kV,z4,e4,F4,_,_,_,lV4,_⟩:=gf hp (aB lU3) lF3 gG.n zG (by lia) (by lia);obtain⟨a',b',hB⟩:=gG.c;refine .inr ⟨s,[qI p, x1, qL d, qI (sN:Int), x4, qL kV, qL kF, qI (oY+(sN:Int)), qL kF, qL kP],s4,?_,.inl ?_,⟨m+1,kF,kV,G,cS p U G,pf,_,by lia,⟨_,_,by rw[xG,Xx,XZ,Xm,Xl]⟩,F3.trans F4,h.hd,F4 _ _ dk3,λe me=>F4 _ _ (re3 e me),q3,c3,F4 _ _ lF3,lV4,My fL gG.n gG.l gG.a gG.b hB h.dv,LV,ap3,fh3⟩,?_⟩
  .simp only[aj,av,aH,aw,ay,ar,bj,aR,aQ,az,aq,au,fi,aU,aD,kl,h0]
  .rw[pbB];generalize pbI=I at ei⊢;simp only[aj,ax,aL,av,aH,aw,ay,ar,bH,bj,az,aq,au,aG,a!,aK,aU,aD,Vn,Vt,Io,Qw,aa3,Ui,Uj,e1,e2,bK t_,ei,e4]
  .show gv kV s4+gv kF s4<gv kU s+gv kS s;rw[jb lV4,jb (F4 _ _ lF3),jb h.lU,jb h.lS];lia
end
abbrev poT:MT:=dY (ag sO (ak bF (aa fT ai)) cI)
abbrev poW:MB:=dM pbT pbB
abbrev poX:ME:=t8 j4 bg
abbrev U4:MB:=aA (aM 5 (ak PM.cV (aa bg (aa fT (aa (ak PM.fo (aa bg (aa fT ai))) ai))))) (aA (aM 6 (ag bQ (ak PM.parted (aa bg (aa fT (aa j4 ai)))) cT)) (aA (aM 7 dJ) (aA poW (aA (aM 4 poX) (aM 3 (ag bZ dJ bg))))))
def abf(μ:MN.Env)(s:af):Nat:=match(μ[4]?:Option (Option ah)) with
 |some (some (.loc k))=>gv k s
 |_=>0
def JD(es:List En):List (Nat×List Int):=es.map λe=>(e.1,e.2.2)
structure PoL(p:Int)(D:Nat)(st:af)(d:Nat)(x1:Option ah)(F:aE p)(sN:Nat)(μ:MN.Env)(s:af)(kL:Nat)(L:_a)(es:List En):Prop where
 env:∃x5 x6 x7 x8 x9,μ=[qI p, x1, qL d, qI (sN:Int), qL kL, x5, x6, x7, x8, x9]
 fr:Fr st s
 hd:st.length<=d
 dk:s[d]?=some (.dK (es.map wA))
 re:∀e∈es,s[e.2.1]?=some (aV e.2.2)
 ct:es.length+(L.length-1)<=D
 lL:s[kL]?=some (aV L)
 ov:Ov p F sN L (JD es)
 ap:es.Pairwise λa b=>a.2.1<b.2.1
 fh:∀e∈es,st.length<=e.2.1
section
variable{D:Nat}{F:aE p}
theorem JE(hp:fJ p=true)(h:jY p U)(e:Dvd p U (mF [1] (iH (cf U)))):∀k,¬ k % p.toNat=0->cf U k % p=0:=by
 have hr:=aJ hp;have z:=Cw (by lia) h (e.cg (ba.of_eq λk=>by rw[vj,WU]));intro k hk;cases k with
 |zero=>exact absurd (Nat.zero_mod _) hk
 |succ k=>
  have c:=z k;refine xE hp (n:=(k:Int)+1) (λy=>hk ?_) ?_
  .obtain⟨q,hq⟩:=Xy y;have:((p.toNat:Int)) ∣ ((k+1:Nat):Int):=⟨q,by rw[Wg (by lia),<-hq];lia⟩
   exact Zm (Int.natCast_dvd_natCast.mp this)
  .have c':Cg p (((k:Int)+1)*cf U (k+1)) 0:=c;obtain⟨y,hy⟩:=c';exact Int.emod_eq_zero_of_dvd ⟨y,hy.trans (X2 _)⟩
theorem JF(hp:fJ p=true)(hD:D<=2000){sN:Nat}{μ:MN.Env}{s:af}{kL:Nat}{L:_a}{es:List En}(h:PoL p D st d x1 F sN μ s kL L es):
  ∃μ' s',dM poT U4 μ s=.nx μ' s'/\∃sN kL es,PoL p D st d x1 F sN μ' s' kL [1] es:=by
 have hr:=aJ hp;have fL:0<p:=by lia
 refine gC (t:=poT) (body:=U4) (λμ s=>∃sN kL L es,PoL p D st d x1 F sN μ s kL L es) abf (λμ s=>∃sN kL es,PoL p D st d x1 F sN μ s kL [1] es) ?_ μ s ⟨sN,kL,L,es,h⟩;clear h;rintro μ s ⟨sN,kL,L,es,h⟩;obtain⟨x5,x6,x7,x8,x9,rfl⟩:=h.env;obtain⟨N,hN⟩:∃N:Int,N=(L.length:Int):=⟨_,rfl⟩
 have kl:bF [.loc kL] s=.ok (.int N) s:=by rw[bc (aB h.lL),aI,hN]
 have mL:=h.ov.mL;have s0:0<L.length:=VJ.mpr mL.ne;have ct:=h.ct;by_cases h1:L.length=1
 .have h0:decide ((1:Int)<N)=false:=VT (by rw[hN,h1];decide);have e:=wq mL h1;rw[e]at h;exact .inl ⟨s,by simp only[aj,av,aH,aw,ay,ar,bj,aR,aQ,az,aq,au,fi,aU,aD,kl,h0],sN,kL,es,h⟩
 .have h0:decide ((1:Int)<N)=true:=VZ (by lia);obtain⟨g,kB,e0,_,lB⟩:=lZ (iO hp) (aB h.lL) (by lia);have F0:=Fr.app s g;have lB':(s++g)[kB]?=some (aV (nu p L)):=lB;have rB:=vB fL L;have cB:ba p (cf (nu p L)) (iH (cf L)):=(Row.cg fL _).trans (ba.of_eq (nk L));have bL:=vC (p:=p) L;obtain⟨s1,kU,U,e1,F1,_,lU,gU,_⟩:=yS hp (F0 _ _ h.lL) lB' mL.row rB (.inl mL.ne) (by lia) (by lia);have zG:¬ aO U % p=0:=by rw[gU.l,V9 (by lia) (by lia)];lia
  obtain⟨qS,_,_,_,_⟩:=fH hp (as:=L) gU.n zG;obtain⟨nS,eS,lS1⟩:=uc fL mL.row mL.ne qS gU.n gU.l gU.a;have u0:0<U.length:=VJ.mpr gU.n;have q0:0<(cS p L U).length:=VJ.mpr nS;have mS:jY p (cS p L U):=⟨qS,nS,by rw[<-lS1];exact mL.l1⟩
  obtain⟨_,g1,_,_⟩:=q9 gU;obtain⟨LV,a,b,hg⟩:=Lv.start hp mS gU g1 (by lia);obtain⟨s2,kS,z2,e2,F2,_,_,_,lS,_⟩:=gf hp (aB (F1 _ _ (F0 _ _ h.lL))) lU gU.n zG (by lia) (by lia);have zI:=F0.trans (F1.trans F2);have dv:Dvd p U (mF (cS p L U) (iH (cf U))):=Jl gU.a (cB.symm.trans gU.b);have em:(sN:Int)*((1:Nat):Int)=(sN:Int):=by lia
  obtain⟨μ',s3,ew,m',kS',kU',U',es1,qs,hle,H⟩:=JC (D:=D) (st:=st) (d:=d) (x1:=x1) (x4:=some (.loc kL)) (sN:=sN) (es0:=es) (m:=1) (μ:=[some (.int p),x1,some (.loc d),some (.int (sN:Int)),some (.loc kL),some (.loc kU),some (.loc kS),some (.int (sN:Int)),x8,x9]) (s:=s2) (kS:=kS) (kU:=kU) (S:=cS p L U) (U:=U) (es:=[]) (qs:=[]) hp hD h.ov.s1 (λe me=>(h.ov.lt (e.1,e.2.2) (W7 me)).2) (g1.trans (cK _ _)) hg ⟨⟨x8,x9,by rw[em]⟩,h.fr.trans zI,h.hd,by rw[V7];exact zI _ _ h.dk,λe me=>by rw[V7]at me;exact zI _ _ (h.re e me),rfl,by rw[V7];lia,lS,F2 _ _ lU,dv,LV,by rw[V7];exact h.ap,by rw[V7];exact h.fh⟩;obtain⟨y8,y9,rfl⟩:=H.env;have mU:=H.lv.mU;have hm:=QU hp mU.row mU.ne mU.l1 (c:=1) (by rw[V9 (by lia) (by lia)];lia) H.dv;obtain⟨rR,nR,lR,leR,ltR⟩:=MF hr.1 mU.row mU.ne mU.l1 hm;have u1:0<U'.length:=VJ.mpr mU.ne;have eU:=Jy hp mU.row mU.ne hm (JE hp mU H.dv);have OV:=h.ov.step hp H.lv ⟨rR,nR,lR⟩ eU;have eps:JD es++MJ sN qs=JD (es++es1):=by unfold JD;rw[Ws,<-H.eq_]
  rw[eps]at OV;obtain⟨Ej,xG⟩:∃Ej:Int,Ej=(sN:Int)*(m':Int):=⟨_,rfl⟩
  rw[<-xG]at ew;have ex:poX [qI p, x1, qL d, qI (sN:Int), qL kL, qL kU', qL kS', qI Ej, y8, y9] s3=.ok (.loc s3.length) (s3++[aV (gn U' p)]):=by show t7 (.loc kU') (.int p) s3=_;unfold t7;dsimp only;rw[aB H.lU];dsimp only;rw[VC fL,Jq]
  have hct:=H.ct;rw[show([1]:_a).length=1 from rfl]at hct;obtain⟨Q9,U5⟩:∃Q9:Int,Q9=(sN:Int):=⟨_,rfl⟩
  rw[<-U5]at ew ex⊢;refine .inr ⟨s,[qI p, x1, qL d, qI (Q9*p), qL s3.length, qL kU', qL kS', qI Ej, y8, y9],s3++[aV (gn U' p)],?_,.inl ?_,⟨sN*p.toNat,s3.length,gn U' p,es++es1,⟨_,_,_,_,_,by rw[U5,W4,Wg (by lia)]⟩,H.fr.more _,H.hd,cR H.dk _,λe me=>cR (H.re e me) _,by lia,bf _ _,OV,H.ap,H.fh⟩,?_⟩
  .simp only[aj,av,aH,aw,ay,ar,bj,aR,aQ,az,aq,au,fi,aU,aD,kl,h0]
  .rw[U4];generalize poX=Z at ex⊢;have ew':poW [qI p, x1, qL d, qI Q9, qL kL, qL kU, qL kS, qI Q9, x8, x9] s2=_:=ew;generalize poW=W at ew'⊢;simp only[aj,ax,aL,av,aH,aw,ay,ar,bH,bj,az,aq,au,aG,a!,aK,aU,aD,Vn,Vt,e0,e1,e2,bK t_,ew',ex,mul_r (i:=Q9) (j:=p) (by lia) (by lia)]
  .show gv s3.length _<gv kL s;rw[jb (bf s3 ((gn U' p).map ah.int)),jb h.lL];by_cases hu:1<U'.length
   .have:=ltR hu;lia
   .lia
end
structure MK(p:Int)(A:_a)(ps:List (Nat×List Int)):Prop where
 eq:(aN A:aE p)=oz ps
 sq:∀q∈ps,ee (aN q.2:aE p) (dP (aN q.2))
 c2:ps.Pairwise λa b=>ee (aN a.2:aE p) (aN b.2)
 p1:∀q∈ps,1<=q.1
 mn:∀q∈ps,jY p q.2/\2<=q.2.length
 ne:ps.Pairwise λa b=>a.1≠b.1
theorem oZ(hp:fJ p=true){A:_a}(ln:st[n]?=some (aV A))(hA:jY p A)(hl:A.length<=1000):
  ∃aC d es,PM.gu [.int p,.loc n] st=.ok (.loc d) aC/\Fr st aC/\st.length<=d/\aC[d]?=some (.dK (es.map wA))/\(∀e∈es,aC[e.2.1]?=some (aV e.2.2))/\es.length<1000/\MK p A (JD es)/\(es.Pairwise λa b=>a.2.1<b.2.1)/\∀e∈es,st.length<=e.2.1:=by
 have a0:0<A.length:=VJ.mpr hA.ne;have dn:(st++[aS.dK []])[st.length]?=some (.dK []):=by rw[V4 (VD _),W5];rfl
 obtain⟨μ',s',ew,sN,kL,es,H⟩:=JF (D:=999) (st:=st) (d:=st.length) (x1:=some (.loc n)) (F:=(aN A:aE p)) hp (by lia) (sN:=1) (μ:=[some (.int p),some (.loc n),some (.loc st.length),some (.int 1),some (.loc n),none,none,none,none,none]) (s:=st++[aS.dK []]) (kL:=n) (L:=A) (es:=[]) ⟨⟨_,_,_,_,_,rfl⟩,Fr.app _ _,VD _,dn,(λ_ h=>by cases h),(by show 0+(A.length-1)<=999;lia),cR ln _,⟨hA,by show aN A=1*aN A ^ (0+1);rw[zH,GD];grind,(λ_ h=>by cases h),.nil,(λ_ h=>by cases h),(λ_ h=>by cases h),.nil,VD _⟩,.nil,λ_ h=>by cases h⟩;obtain⟨x5,x6,x7,x8,x9,rfl⟩:=H.env;refine⟨s',st.length,es,?_,H.fr,VD _,H.dk,H.re,by have:=H.ct;lia,⟨?_,λq m=>(H.ov.c1 q m).2,H.ov.c2,λq m=>(H.ov.lt q m).1,H.ov.mn,H.ov.ne⟩,H.ap,H.fh⟩
 .unfold PM.gu;rw[bb (np:=2) (us:=[ah.int p,.loc n]) rfl];show(aA (aM 2 yw) (aA (aM 3 cI) (aA (aM 4 bG) (aA (dM poT U4) (bM cQ)))) [qI p, qL n, qn, qn, qn, qn, qn, qn, qn, qn] st).fin=_;rw[aG,jy (v:=.loc st.length) (s1:=st++[aS.dK []]) rfl,aL,aG,jy (v:=.int 1) (s1:=st++[aS.dK []]) rfl,aL,aG,jy (v:=.loc n) (s1:=st++[aS.dK []]) rfl,aL];show(aA (dM poT U4) (bM cQ) [qI p, qL n, qL st.length, qI 1, qL n, qn, qn, qn, qn, qn] (st++[aS.dK []])).fin=_;rw[aG,ew,aL];rfl
 .rw[H.ov.eq,MG,one_pow]
  grind
theorem JG{a b:List (Nat×List Int)}(h:a.Perm b):(oz a:aE p)=oz b:=by
 induction h with
 |nil=>rfl
 |cons x _ ih=>show aN x.2 ^ x.1*oz _=aN x.2 ^ x.1*oz _;rw[ih]
 |swap x y l=>
  show aN y.2 ^ y.1*(aN x.2 ^ x.1*oz l)=aN x.2 ^ x.1*(aN y.2 ^ y.1*oz l);generalize (aN y.2:aE p) ^ y.1=w;generalize (aN x.2:aE p) ^ x.1=v
  grind
 |trans _ _ h1 h2=>exact h1.trans h2
theorem MK.perm{A:_a}{ps qs:List (Nat×List Int)}(h:MK p A ps)(e:ps.Perm qs):MK p A qs:=
 ⟨h.eq.trans (JG e),λq m=>h.sq q (e.mem_iff.mpr m),(e.pairwise_iff λ{x y}c=>ee.symm c).mp h.c2,λq m=>h.p1 q (e.mem_iff.mpr m),λq m=>h.mn q (e.mem_iff.mpr m),(e.pairwise_iff λ{x y}c z=>c z.symm).mp h.ne⟩
section
variable{A:_a}
abbrev prE:ME:=gB (aa (ag se bG bg) (aa bg ai))
abbrev prC:ME:=c_ 1 [2] (gN (ak pV (aa cQ ai))) (aF 0) bI prE
theorem JH(hp:fJ p=true)(ln:st[n]?=some (aV A))(hA:Row p A)(hl:A.length<=4000):
  ∃aC v,PM.ft [.int p,.loc n] st=.ok v aC/\Fr st aC/\(v=.cH\/∃a b,v=.tup [.loc a,.loc b]):=by
 have hr:=aJ hp;have fL:0<p:=by lia
 obtain⟨L,hL⟩:∃L:Int,L=(A.length:Int):=⟨_,rfl⟩
 have kl:bF [.loc n] st=.ok (.int L) st:=by rw[bc (aB ln),aI,hL]
 by_cases nA:A=[]
 .have z:(L==0)=true:=by rw[hL,nA];rfl
  exact⟨st,.cH,by simp only[PM.ft,bb,aj,ax,gS,a9,av,aH,aw,ay,ar,bu,dC,bj,aR,aQ,az,aq,au,aG,aZ,bh,dc,aU,aD,Vs,VE,Vz,Vu,Vy,Vr,Nat.reduceSub,Vm,Vx,Nat.reduceAdd,kl,z],Fr.refl st,.inl rfl⟩
 .have a0:0<A.length:=VJ.mpr nA;have z:(L==0)=false:=by simp;lia
  obtain⟨g,kB,e0,_,lB⟩:=lZ (iO hp) (aB ln) (by lia);have bL:(cm ((dD A).map (·.fmod p))).length<=A.length:=by
   have h1:=gZ ((dD A).map (·.fmod p));have h2:(dD A).length=A.length-1:=by unfold dD fw;rw[Vq,Vq,VW]
   rw[Vq]at h1;lia
  obtain⟨s',k1,k2,k3,k4,k5,G,S,T,U,V,e1,F,ho,abg,_,_⟩:=Q3 hp (cR ln g) lB hA (Row.of fL _) (.inl nA) (by lia) (by lia);have lG:s'[k1]?=some (aV G):=abg.2 0 k1 G rfl rfl;obtain⟨N,hN⟩:∃N:Int,N=(G.length:Int):=⟨_,rfl⟩
  have kg:bF [.loc k1] s'=.ok (.int N) s':=by rw[bc (aB lG),aI,hN]
  cases q:(N==1) with
  |true=>exact⟨s',.tup [.loc k4,.loc k5],by simp only[PM.ft,bb,aj,ax,aL,a9,av,aH,aw,kJ,ay,ar,iG,bu,bS,bH,bj,aR,aQ,lX,az,aq,fX,au,aG,bN,aZ,bh,a!,dc,aK,fP,aU,aD,Vs,VE,Vz,Vu,Vy,Vr,Vn,Vt,Nat.reduceSub,Vm,Vx,Nat.reduceAdd,VB,Nat.reduceLeDiff,↓reduceIte,kl,z,e0,e1,bK t_,bK at3,bK at4,kg,q],(Fr.app st g).trans F,.inr ⟨_,_,rfl⟩⟩
  |false=>exact⟨s',.cH,by simp only[PM.ft,bb,aj,ax,aL,a9,av,aH,aw,kK,ay,ar,bu,bS,bH,bj,aR,aQ,lX,az,aq,au,aG,bN,aZ,bh,a!,dc,aK,fP,aU,aD,Vs,VE,Vz,Vu,Vy,Vr,Vn,Vt,Nat.reduceSub,Vm,Vx,Nat.reduceAdd,kl,z,e0,e1,bK t_,kg,q],(Fr.app st g).trans F,.inl rfl⟩
end
theorem Ek(hp:0<p){P:_a}(hP:jY p P)(l2:2<=P.length):∀(n:Nat){A:_a}{y:aE p},Row p A->A≠[]->(aN A:aE p)=aN P ^ n*y->∃Q,Row p Q/\Q≠[]/\y=aN Q/\Q.length+n<=A.length
 |0,A,y,hA,nA,e=>⟨A,hA,nA,by rw[GD]at e;grind,VD _⟩
 |n+1,A,y,hA,nA,e=>by obtain⟨B,hB,eB,nB,lB⟩:=qY hp hA nA hP (x:=aN P ^ n*y) (by rw[e,zH];generalize (aN P:aE p) ^ n=w;grind);obtain⟨Q,hQ,nQ,eQ,lQ⟩:=Ek hp hP l2 n hB nB eB.symm;exact⟨Q,hQ,nQ,eQ,by lia⟩
def yX:List (Nat×List Int)->Nat
 |[]=>0
 |q::ps=>q.1+yX ps
theorem yY(hp:0<p):∀{ps:List (Nat×List Int)}{A:_a},(∀q∈ps,jY p q.2/\2<=q.2.length)->Row p A->A≠[]->(aN A:aE p)=oz ps->yX ps+1<=A.length
 |[],A,_,hA,nA,_=>VJ.mpr nA
 |q::ps,A,h,hA,nA,e=>by obtain⟨m1,m2⟩:=h q (VV ..);obtain⟨Q,hQ,nQ,eQ,lQ⟩:=Ek hp m1 m2 q.1 hA nA e;have:=yY hp (λr m=>h r (VP _ m)) hQ nQ eQ.symm;show q.1+yX ps+1<=A.length;lia
theorem JI:∀{ps:List (Nat×List Int)},(∀q∈ps,1<=q.1)->(ps.Pairwise λa b=>a.1≠b.1)->2*ps.length<=yX ps+1/\((∀q∈ps,q.1≠1)->2*ps.length<=yX ps)
 |[],_,_=>⟨We _,λ_=>We _⟩
 |q::ps,h,hn=>by
  obtain⟨n1,n2⟩:=Y6.mp hn;obtain⟨i1,i2⟩:=JI (λr m=>h r (VP _ m)) n2;have h1:=h q (VV ..);have e:yX (q::ps)=q.1+yX ps:=rfl;rw[e,Vm];by_cases z:q.1=1
  .have:=i2 λr m w=>n1 r m (by rw[z,w]);exact⟨by lia,λk=>absurd z (k q (VV ..))⟩
  .exact⟨by lia,λk=>by have:=i2 λr m=>k r (VP _ m);lia⟩
theorem MK.GF(hp:0<p){A:_a}{ps:List (Nat×List Int)}(h:MK p A ps)(hA:Row p A)(nA:A≠[]):2*ps.length<=A.length:=by have h1:=yY hp h.mn hA nA h.eq;have h2:=(JI h.p1 h.ne).1;lia
theorem El:∀{ps:List (Nat×List Int)}{q:Nat×List Int},q∈ps->q.1<=yX ps
 |r::ps,q,m=>by
  show q.1<=r.1+yX ps;rcases V5.mp m with e|m
  .rw[e];lia
  .have:=El m;lia
theorem MK.bd(hp:0<p){A:_a}{ps:List (Nat×List Int)}(h:MK p A ps)(hA:Row p A)(nA:A≠[]){q:Nat×List Int}(m:q∈ps):q.1<A.length/\q.2.length<=A.length:=by have h1:=yY hp h.mn hA nA h.eq;have h2:=El m;obtain⟨x,hx⟩:=uf (p:=p) m (h.p1 q m);obtain⟨Q,_,_,nQ,lQ⟩:=qY hp hA nA (h.mn q m).1 (h.eq.trans hx);have:=VJ.mpr nQ;exact⟨by lia,by lia⟩
def NU(e:En):ah:=.tup [.loc e.2.1,.int (e.1:Int)]
theorem A6:∀es:List En,u4 ((es.map wA).map (·.1))=some (es.map λe=>(e.1:Int))
 |[]=>rfl
 |e::es=>by show(u4 ((es.map wA).map (·.1))).map ((e.1:Int):: ·)=_;rw[A6 es];rfl
theorem yZ:∀{es:List En},(es.Pairwise λa b=>a.1≠b.1)->∀e∈es,qw (es.map wA) (.inl (e.1:Int))=some (.loc e.2.1)
 |x::es,hn,e,m=>by
  obtain⟨n1,n2⟩:=Y6.mp hn;unfold qw;rcases V5.mp m with z|m
  .rw[z,Vs,List.find?_cons_of_pos (by simp[wA])];rfl
  .have:x.1≠e.1:=n1 e m;rw[Vs,List.find?_cons_of_neg (by simp[wA];lia)];exact yZ n2 e m
def IK(es:List En):List En:=es.mergeSort λa b=>decide (a.1<=b.1)
theorem xH(es:List En):(IK es).Perm es:=X? es _
theorem Em(es:List En):(IK es).Pairwise λa b=>a.1<=b.1:=by
 have h:=Yu (le:=λ(a b:En)=>decide (a.1<=b.1)) (λa b c h1 h2=>VZ (V? (WN h1) (WN h2))) (λa b=>by
  rw[Y0,XG,XG];lia) es
 exact h.imp λh=>WN h
theorem Gh(es:List En):IM (es.map λe=>(e.1:Int))=(IK es).map λe=>(e.1:Int):=
 up_eq ((xr _).trans ((xH es).symm.map _)) (DX _) (Wt.mpr ((Em es).imp λh=>Int.ofNat_le.mpr h))
structure abh(p:Int)(A:_a)(st aC:af)(kl:Nat)(es:List En):Prop where
 fr:Fr st aC
 fk:st.length<=kl
 lk:aC[kl]?=some (.lst (es.map NU))
 re:∀e∈es,st.length<=e.2.1/\e.2.1<kl/\aC[e.2.1]?=some (aV e.2.2)
 nd:es.Pairwise λa b=>a.2.1≠b.2.1
 pr:∃t,(t*aO A) % p=1/\MK p (mulR p t A) (JD es)
 up:es.Pairwise λa b=>a.1<b.1
 ln:es.length<64
section
variable{A:_a}
theorem p5(hp:fJ p=true)(ln:st[n]?=some (aV A))(hA:Row p A)(nA:A≠[])(hl:A.length<=120):
  ∃aC kl es,PM.gb [.int p,.loc n] st=.ok (.tup [.int (aO A),.loc kl]) aC/\abh p A st aC kl es:=by
 have hr:=aJ hp;have a0:0<A.length:=VJ.mpr nA;obtain⟨s1,k1,t,e1,F1,_,l1,ht⟩:=A2 hp ln hA nA (by lia);obtain⟨rG,nG,lG,eG⟩:=vi hr.1 hA nA ht;obtain⟨s2,d,es,e2,F2,hd,dk,re,el,pr,ap,fh⟩:=oZ hp l1 ⟨rG,nG,lG⟩ (by lia);have GF:=pr.GF (by lia) rG nG;have lps:(JD es).length=es.length:=Vq ..;have ne:es.Pairwise λa b=>a.1≠b.1:=by have:=pr.ne;unfold JD at this;rw[Wt]at this;exact this
 obtain⟨pf,hes⟩:∃pf,pf=IK es:=⟨_,rfl⟩
 have pm:pf.Perm es:=by rw[hes];exact xH es
 have ed:FK s2 d=some (es.map wA):=by unfold FK;rw[dk]
 obtain⟨s3,v!⟩:∃s3,s3=s2++[aS.lst ((pf.map λe=>(e.1:Int)).map ah.int)]:=⟨_,rfl⟩
 have esr:pV [.loc d] s2=.ok (.loc s2.length) s3:=by unfold pV;dsimp only;rw[ed];dsimp only;rw[A6];dsimp only;rw[VC (by rw[Vq];lia),Gh,v!,hes]
 have hit:ao s3 s2.length=some ((pf.map λe=>(e.1:Int)).map ah.int):=by rw[v!];exact aB (bf _ _)
 have dk3:s3[d]?=some (.dK (es.map wA)):=by rw[v!];exact cR dk _
 have cp:=gF (a:=aF 0) (e:=prE) (g:=λaC=>ao aC s2.length=some ((pf.map λe=>(e.1:Int)).map ah.int)) (st:=s3) hit (λτ=>∃x,τ=[x,some (.loc d)]) (λi=>.tup [(qw (es.map wA) (.inl i)).getD .cH,.int i]) (pf.map λe=>(e.1:Int)) [none,some (.loc d)] [] ⟨_,rfl⟩ (by
  rintro i hi τ ⟨x,rfl⟩;obtain⟨e,me,rfl⟩:=Wb.mp hi;have hk:=yZ ne e (pm.mem_iff.mp me);obtain⟨i,hie⟩:∃i,i=(e.1:Int):=⟨_,rfl⟩
  rw[<-hie]at hk⊢;refine⟨[some (.int i),some (.loc d)],rfl,⟨_,rfl⟩,?_⟩;have e0:bg [some (.int i),some (.loc d)] s3=.ok (.int i) s3:=rfl;have e1:ag se bG bg [some (.int i),some (.loc d)] s3=.ok (.loc e.2.1) s3:=by
   show se (.loc d) (.int i) s3=_;unfold se Dw;dsimp only;rw[dk3];show(match(some (qw (es.map wA) (.inl i)):Option (Option ah)) with
    |some (some v)=>cz.ok v s3
    |_=>.bad)=_
   rw[hk]
  rw[hk];unfold prE;rw[fX,aq,e1,aj,ay,aq,e0,aj,ay,az,aj,ar,aj,ar,aj,iG];exact VC (by rw[VB];show 2<=16777216;decide))
 have evs:((pf.map λe=>(e.1:Int)).map λi=>ah.tup [(qw (es.map wA) (.inl i)).getD .cH,.int i])=pf.map NU:=by rw[V_];refine List.map_congr_left λe me=>?_;show ah.tup [(qw (es.map wA) (.inl (e.1:Int))).getD .cH,.int (e.1:Int)]=NU e;rw[yZ ne e (pm.mem_iff.mp me)];rfl
 rw[Vu,evs]at cp;have comp:prC [qI p, qL n, qL d] s2=.ok (.loc s3.length) (s3++[aS.lst (pf.map NU)]):=by
  show c_ 1 [2] (gN (ak pV (aa cQ ai))) (aF 0) bI prE [qI p, qL n, qL d] s2=_;have e0:ak pV (aa cQ ai) [qI p, qL n, qL d] s2=.ok (.loc s2.length) s3:=by rw[jM (A1 (v:=.loc d) (s1:=s2) rfl),esr]
  rw[dj,ej,e0,aj,dG hit,aj,eR,VC (by rw[Vq,Vq,pm.length_eq,VB];lia),show iN 1 [2] [qI p, qL n, qL d]=[none,some (.loc d)]from rfl,cp,aj,gJ]
 have Ki:=F1.trans F2;have F3:Fr s2 (s3++[aS.lst (pf.map NU)]):=by rw[v!];exact(Fr.app s2 _).more _
 have gx:ag bQ bG (iK cI) [qI p, qL n, qL d] s2=.ok (.int (aO A)) s2:=by rw[gH (x:=.loc n) (s1:=s2) rfl (y:=.int (-1)) (s2:=s2) rfl];exact bT (aB (F2 _ _ (F1 _ _ ln))) (kZ nA)
 have l3:s3.length=s2.length+1:=by rw[v!,Vv];rfl
 have f1:=F1.len;have f2:=F2.len;refine⟨s3++[aS.lst (pf.map NU)],s3.length,pf,?_,Ki.trans F3,by lia,bf _ _,λe me=>?_,?_,⟨t,ht,pr.perm (pm.symm.map _)⟩,?_,by rw[pm.length_eq];lia⟩
 .obtain⟨L,hL⟩:∃L:Int,L=(A.length:Int):=⟨_,rfl⟩
  have kl:bF [.loc n] st=.ok (.int L) st:=by rw[bc (aB ln),aI,hL]
  have z:(L==0)=false:=by simp;lia
  unfold PM.gb;rw[bb (np:=2) (us:=[ah.int p,.loc n]) rfl];show(aA _ (aA _ (bM (gB (aa (ag bQ bG (iK cI)) (aa prC ai))))) [qI p, qL n, qn] st).fin=_;generalize prC=C at comp⊢;generalize ag bQ bG (iK cI)=X at gx⊢;simp only[aj,ax,aL,a9,av,aH,aw,ay,ar,iG,bu,bS,bH,bj,aR,aQ,az,aq,fX,au,aG,bN,aZ,bh,a!,dc,aK,aU,aD,Vn,Vt,Vm,Vx,Nat.reduceAdd,VB,Nat.reduceLeDiff,↓reduceIte,kl,z,e1,e2,gx,comp]
 .have me':=pm.mem_iff.mp me;have h1:=fh e me';have h2:=re e me';have:=NR h2;exact⟨by lia,by lia,F3 _ _ h2⟩
 .exact(pm.pairwise_iff λ{x y}h z=>h z.symm).mpr (ap.imp λh=>by lia)
 .have h1:pf.Pairwise λa b=>a.1<=b.1:=by rw[hes];exact Em es
  have h2:pf.Pairwise λa b=>a.1≠b.1:=(pm.pairwise_iff λ{x y}h z=>h z.symm).mpr ne;exact(h1.and h2).imp λh=>by lia
end
def lI(p:Int)(w:Nat)(Q:Nat->Prop)(s:af)(v:ah):Prop:=∃k R,v=.loc k/\Q k/\s[k]?=some (aV R)/\R.length=w/\∀x∈R,0<=x/\x<p
def wB(_:Nat):Prop:=True
section
variable{w:Nat}{Q Q':Nat->Prop}{s:af}
theorem lI.mono(h:lI p w Q s v)(F:Fr s s'):lI p w Q s' v:=by obtain⟨k,R,e,q,l,r⟩:=h;exact⟨k,R,e,q,F _ _ l,r⟩
theorem lI.imp(h:lI p w Q s v)(f:∀k,Q k->Q' k):lI p w Q' s v:=by obtain⟨k,R,e,q,l,r⟩:=h;exact⟨k,R,e,f k q,l,r⟩
theorem lI.any(h:lI p w Q s v):lI p w wB s v:=h.imp λ_ _=>trivial
theorem lI.set(h:lI p w Q s v){L:Nat}(f:∀k,Q k->k≠L)(c:aS):lI p w Q (s.set L c) v:=by obtain⟨k,R,e,q,l,r⟩:=h;exact⟨k,R,e,q,g9 l (W? (f k q)),r⟩
end
theorem ik{g:af->Prop}{a:AS}{c:MT}{e:ME}{s0:af}(hg:∀s,Fr s0 s->g s)(I:MN.Env->Prop)(keep:ah->Bool)(G:af->ah->Prop)(mono:∀s s' y,Fr s s'->G s y->G s' y):∀(us:List ah)(τ:MN.Env)(s:af)(ys:List ah),I τ->Fr s0 s ->
  (∀u∈us,∀τ s,I τ->Fr s0 s->∃τ1,a u τ=some τ1/\I τ1/\c τ1 s=.ok (keep u) s/\(keep u=true->∃y s',e τ1 s=.ok y s'/\Fr s s'/\G s' y)) ->
  ∃zs s',dZ g a c e us τ s ys=.ok (ys++zs) s'/\Fr s s'/\zs.length=(us.filter keep).length/\∀y∈zs,G s' y
 |[],τ,s,ys,_,F,_=>⟨[],s,by rw[xB (hg s F),V7],Fr.refl s,rfl,λy m=>by cases m⟩
 |u::us,τ,s,ys,hI,F,hs=>by
  obtain⟨τ1,h1,h2,h3,h4⟩:=hs u VV τ s hI F;have LZ:=λv hv=>hs v (VP u hv);unfold dZ;rw[VC (hg s F),h1];dsimp only;rw[h3];cases z:keep u with
  |true=>
   obtain⟨y,s1,e1,F1,g1⟩:=h4 z;dsimp only;rw[e1];dsimp only;obtain⟨zs,s2,e2,F2,l2,g2⟩:=ik hg I keep G mono us τ1 s1 (ys++[y]) h2 (F.trans F1) LZ;refine⟨y::zs,s2,by rw[e2,VU];rfl,F1.trans F2,by rw[XS z,Vm,l2];rfl,λx m=>?_⟩;rcases V5.mp m with rfl|m
   .exact mono _ _ _ F2 g1
   .exact g2 x m
  |false=>
   dsimp only;obtain⟨zs,s2,e2,F2,l2,g2⟩:=ik hg I keep G mono us τ1 s ys h2 F LZ;exact⟨zs,s2,e2,F2,by rw[XT (by rw[z];simp)];exact l2,g2⟩
theorem jO(l:List α):l.filter (λ_=>true)=l:=List.filter_eq_self.mpr λ_ _=>rfl
section
variable{w:Nat}{S:_a}{s:af}
theorem A7(hp:0<p)(x:Int):0<=x.fmod p/\x.fmod p<p:=⟨Int.fmod_nonneg_of_pos x hp,Int.fmod_lt_of_pos x hp⟩
theorem Cz(hp:fJ p=true)(lR:s[n]?=some (aV R))(lS:s[m]?=some (aV S))(wR:R.length=w)(wS:S.length=w)(rR:∀x∈R,0<=x/\x<p)(hw:w<=1000)(hj:j<w):
  ∃v s',PM.eZ [.int p,.loc n,.loc m,.int (j:Int)] s=.ok v s'/\Fr s s'/\lI p w (s.length<=·) s' v:=by
 have hr:=aJ hp;have fL:0<p:=by lia
 have gx:=bT (aB lR) (iy (R:=R) (i:=(j:Int)) rfl (by lia));obtain⟨f,hf⟩:∃f,f=R.getD j 0:=⟨_,rfl⟩
 have rf:0<=f/\f<p:=by
  have:R.getD j 0∈R:=by rw[VF,Vp (by lia)];exact X6 _
  rw[hf];exact rR _ this
 rw[<-hf]at gx;have zz:=Ip (aB lR) (aB lS);rw[qO]at zz;have hc:=og (g:=λbX=>ao bX n=some (R.map ah.int)/\ao bX m=some (S.map ah.int)) (a:=iL [aF 0,aF 1]) (e:=ag dX (ag iF bg (ag bZ cQ bG)) dJ) (st:=s) ⟨aB lR,aB lS⟩ (λτ=>∃x y,τ=[x, y, qI f, qI p]) pr (λ(q:Int×Int)=>.int ((q.1-f*q.2).fmod p)) (R.zip S) [qn, qn, qI f, qI p] [] ⟨_,_,rfl⟩ (by
  rintro⟨a,b⟩ _ τ ⟨x,y,rfl⟩;exact⟨_,rfl,⟨_,_,rfl⟩,by simp only[aj,av,aH,aw,fI,aK,aD,Vn,Vt,jo (i:=f) (by lia) (by lia),cj (iO hp)]⟩)
 obtain⟨T,hT⟩:∃T,T=(R.zip S).map λ(q:Int×Int)=>(q.1-f*q.2).fmod p:=⟨_,rfl⟩
 have lT:T.length=w:=by rw[hT,Vq,XX,wR,wS,YF]
 rw[Vu,show((R.zip S).map λ(q:Int×Int)=>ah.int ((q.1-f*q.2).fmod p))=T.map ah.int from by rw[hT,V_];rfl]at hc;have gz:∀x y z:Option ah,iN 2 [4,0] [qI p, x, y, z, qI f]=[qn, qn, qI f, qI p]:=λ_ _ _=>rfl;have hz:((R.zip S).map pr).length<=16777216:=by rw[Vq,XX];lia
 refine⟨.loc s.length,s++[aV T],?_,Fr.app _ _,s.length,T,rfl,VD _,bf _ _,lT,λx mx=>?_⟩
 .simp only[PM.eZ,bb,aj,ax,aL,a9,av,aH,aw,ay,ar,bu,bH,gJ,eR,az,aq,aG,aZ,a!,dj,uO,aK,aU,aD,Vs,VE,Vz,Vu,Vy,Vr,Vn,Vt,Nat.reduceSub,Vm,Vx,Nat.reduceAdd,VB,gx,zz,gz,hc,VC hz]
 .rw[hT]at mx;obtain⟨q,_,rfl⟩:=Wb.mp mx;exact A7 fL _
theorem vD(hp:fJ p=true){vs:List ah}(ln:s[n]?=some (.lst vs))(hv:∀v∈vs,lI p w wB s v)(lS:s[m]?=some (aV S))(wS:S.length=w)(hw:w<=1000)(hl:vs.length<=1000)(hj:j<w):
  ∃k zs s',PM.cleared [.int p,.loc n,.loc m,.int (j:Int)] s=.ok (.loc k) s'/\Fr s s'/\s.length<=k/\s'[k]?=some (.lst zs)/\zs.length=vs.length/\∀v∈zs,lI p w (s.length<=·) s' v:=by
 obtain⟨J,hJ⟩:∃J:Int,J=(j:Int):=⟨_,rfl⟩
 obtain⟨zs,s1,ec,F1,l1,g1⟩:=ik (g:=λbX=>ao bX n=some vs) (a:=aF 0) (c:=bI) (e:=ak PM.eZ (aa cQ (aa bg (aa dJ (aa bG ai))))) (s0:=s) (λs' F=>aB (F _ _ ln)) (λτ=>∃x,τ=[x, qI J, qI p, qL m]) (λ_=>true) (λs' y=>lI p w (s.length<=·) s' y) (λs' kz y F h=>h.mono F) vs [qn, qI J, qI p, qL m] s [] ⟨_,rfl⟩ (Fr.refl s) (by
  rintro u mu τ s' ⟨x,rfl⟩ F;obtain⟨k,R,rfl,_,lR,wR,rR⟩:=hv u mu;obtain⟨v,kz,e,F',h⟩:=Cz hp (F _ _ lR) (F _ _ lS) wR wS rR hw hj;rw[<-hJ]at e;exact⟨_,rfl,⟨_,rfl⟩,rfl,λ_=>⟨v,kz,by simp only[aj,ay,ar,az,aq,au,aK,aU,aD,Vn,e],F',h.imp λk h=>V? F.len h⟩⟩)
 rw[Vu]at ec;rw[jO]at l1;have gz:∀x:Option ah,iN 1 [3,0,2] [qI p, x, qL m, qI J]=[qn, qI J, qI p, qL m]:=λ_=>rfl;have hz:vs.length<=16777216:=by lia
 refine⟨s1.length,zs,s1++[.lst zs],?_,F1.more _,F1.len,bf _ _,l1,λv mv=>(g1 v mv).mono (Fr.app _ _)⟩;rw[<-hJ];simp only[PM.cleared,bb,aj,ax,a9,bu,gJ,eR,aZ,dj,ej,aU,aD,Vs,VE,Vz,Vu,Vr,Nat.reduceSub,Vm,Vx,Nat.reduceAdd,VB,dG (aB ln),gz,ec,VC hz]
theorem ML{s:af}{L:Int}{n:Nat}(h:L=(n:Int))(hn:n<=100000):L8 [.int L] s=.ok ((fw 0 n).map ah.int,λ_=>True) s:=by subst h;rw[DM (by lia) (by lia),WR,m9]
theorem ke(lo:Int)(n:Nat):(fw lo n).length=n:=by unfold fw;rw[Vq,VW]
theorem MM{L:Nat}(h2:2<=p)(hL:L<=1000)(s:af):∃T,PM.j' [.int (i:Int),.int (L:Int)] s=.ok (.loc s.length) (s++[aV T])/\T.length=L/\∀x∈T,0<=x/\x<p:=by
 obtain⟨I,hI⟩:∃I:Int,I=(i:Int):=⟨_,rfl⟩
 obtain⟨N,hN⟩:∃N:Int,N=(L:Int):=⟨_,rfl⟩
 have hc:=gF (a:=aF 0) (e:=Kd (dY (ag jC bg bG)) cI cT) (g:=λ_=>True) (st:=s) trivial (λτ=>∃x,τ=[x,some (.int I)]) (λk=>.int (if k=I then 1 else 0)) (fw 0 L) [none,some (.int I)] [] ⟨_,rfl⟩ (by
  rintro k _ τ ⟨x,rfl⟩;refine⟨_,rfl,⟨_,rfl⟩,?_⟩;by_cases h:k=I
  .have z:(k==I)=true:=by simp[h]
   rw[VC h];simp only[aj,av,aH,aw,kJ,bj,aR,aQ,lX,dc,aK,aD,Vn,z]
  .have z:(k==I)=false:=by simp[h]
   rw[VI h];simp only[aj,av,aH,aw,kK,bj,aR,aQ,lX,dc,aK,aD,Vn,z])
 rw[Vu,show((fw 0 L).map λk=>ah.int (if k=I then 1 else 0))=((fw 0 L).map λk=>if k=I then 1 else 0).map ah.int from by rw[V_];rfl]at hc;have gz:∀x:Option ah,iN 1 [0] [some (.int I),x]=[none,some (.int I)]:=λ_=>rfl;have hz:((fw 0 L).map ah.int).length<=16777216:=by rw[Vq,ke];lia
 refine⟨(fw 0 L).map λk=>if k=I then 1 else 0,?_,by rw[Vq,ke],λx mx=>?_⟩
 .rw[<-hI,<-hN];simp only[PM.j',bb,aj,ax,a9,ay,ar,bu,gJ,eR,az,aq,aZ,dj,kN,aK,aD,Vs,VE,Vz,Vu,Vr,Nat.reduceSub,Vm,Vx,Nat.reduceAdd,VB,ML hN (by lia),gz,hc,VC hz]
 .obtain⟨k,_,rfl⟩:=Wb.mp mx;split<;>lia
theorem Gi{z:ah}(h:z∈iU 0 us):∃(i:Nat)(u:ah),us[i]?=some u/\z=.tup [.int (i:Int),u]:=by obtain⟨i,hi⟩:=List.getElem?_of_mem h;obtain⟨u,hu,e⟩:=jh us 0 i z hi;rw[V8]at e;exact⟨i,u,hu,e⟩
theorem oJ(h2:2<=p){vs:List ah}(ln:s[n]?=some (.lst vs))(hv:∀v∈vs,lI p w wB s v)(hw:w<=1000)(hl:vs.length<=1000):
  ∃k zs s',PM.ig [.loc n] s=.ok (.loc k) s'/\Fr s s'/\s.length<=k/\s'[k]?=some (.lst zs)/\zs.length=vs.length/\∀v∈zs,lI p (w+vs.length) (s.length<=·) s' v:=by
 obtain⟨N,hN⟩:∃N:Int,N=(vs.length:Int):=⟨_,rfl⟩
 obtain⟨zs,s1,ec,F1,l1,g1⟩:=ik (g:=λbX=>ao bX n=some vs) (a:=iL [aF 0,aF 1]) (c:=bI) (e:=ag cU (ak uG (aa bG ai)) (ak PM.j' (aa bg (aa (ak bF (aa cQ ai)) ai)))) (s0:=s) (λs' F=>aB (F _ _ ln)) (λτ=>∃x y,τ=[x, y, qL n]) (λ_=>true) (λs' y=>lI p (w+vs.length) (s.length<=·) s' y) (λs' kz y F h=>h.mono F) (iU 0 vs) [qn, qn, qL n] s [] ⟨_,_,rfl⟩ (Fr.refl s) (by
  rintro u mu τ s' ⟨x,y,rfl⟩ F;obtain⟨i,u,hu,rfl⟩:=Gi mu;obtain⟨k,R,rfl,_,lR,wR,rR⟩:=hv u (Wc hu);have c1:=tZ (aB (F _ _ lR));have c2:bF [.loc n] (s'++[aV R])=.ok (.int N) (s'++[aV R]):=by rw[bc (aB (cR (F _ _ ln) _)),hN]
  obtain⟨T,e3,lT,rT⟩:=MM (i:=i) (L:=vs.length) h2 hl (s'++[aV R]);rw[<-hN]at e3;have c4:=oV (st:=s'++[aV R]++[aV T]) (n:=s'.length) (m:=(s'++[aV R]).length) (us:=R.map ah.int) (ws:=T.map ah.int) (cR (bf s' _) _) (bf _ _) (by rw[aI,aI,VB];lia);rw[<-Ws]at c4;obtain⟨I,hI⟩:∃I:Int,I=(i:Int):=⟨_,rfl⟩
  rw[<-hI]at e3⊢;refine⟨_,rfl,⟨_,_,rfl⟩,rfl,λ_=>⟨_,_,by simp only[aj,av,aH,aw,ay,ar,az,aq,au,aK,aU,aD,Vn,Vt,c1,c2,e3];exact c4,((Fr.app s' _).more _).more _,_,R++T,rfl,?_,bf _ _,by rw[Vv,wR,lT],λx mx=>?_⟩⟩
  .have:=F.len;simp only[Vv];lia
  .rcases VX.mp mx with mx|mx
   .exact rR x mx
   .exact rT x mx)
 rw[Vu]at ec;rw[jO,h_]at l1;have gz:iN 2 [0] [some (.loc n)]=[qn, qn, qL n]:=rfl;have hz:(iU 0 vs).length<=16777216:=by rw[h_];lia
 refine⟨s1.length,zs,s1++[.lst zs],?_,F1.more _,F1.len,bf _ _,l1,λv mv=>(g1 v mv).mono (Fr.app _ _)⟩;simp only[PM.ig,bb,aj,ax,a9,ay,ar,bu,gJ,eR,az,aq,aZ,dj,aU,Vs,VE,Vz,Vu,Vr,Nat.reduceSub,Vm,Vx,Nat.reduceAdd,VB,pQ,uT (aB ln),gz,ec,VC hz]
end
theorem cutD(us:List ah)(k:Nat):wm us (some (k:Int)) none=us.drop k:=by
 unfold wm;rcases Nat.le_total k us.length with h|h
 .rw[HT.uk,HT.xW,Nat.min_eq_left h];exact List.take_of_length_le (by rw[XA];exact VD _)
 .rw[HT.uk,HT.xW,Nat.min_eq_right h,W5,List.take_zero,Xk h]
def nv(s:af)(j:Int)(u:ah):Int:=match bQ u (.int j) s with
 |.ok (.int i) _=>i
 |_=>0
theorem JJ{w:Nat}{Q:Nat->Prop}{s:af}(h:lI p w Q s u)(hj:j<w):bQ u (.int (j:Int)) s=.ok (.int (nv s (j:Int) u)) s/\0<=nv s (j:Int) u/\nv s (j:Int) u<p:=by
 obtain⟨k,R,rfl,_,l,wR,rR⟩:=h;have gx:=bT (aB l) (iy (R:=R) (i:=(j:Int)) rfl (by lia));have:nv s (j:Int) (.loc k)=R.getD j 0:=by unfold nv;rw[gx]
 rw[this];refine⟨gx,rR _ ?_⟩;rw[VF,Vp (by lia)];exact X6 _
theorem sC{α:Type}(f:α->Bool):∀l:List α,(l.filter λx => !f x).length+(l.filter f).length=l.length
 |[]=>rfl
 |x::l=>by
  have:=sC f l;cases h:f x with
  |true=>rw[XS (p:=f) h,XT (p:=λx => !f x) (by rw[h];decide),Vm,Vm];lia
  |false=>rw[XS (p:=λx => !f x) (by rw[h];rfl),XT (p:=f) (by rw[h];decide),Vm,Vm];lia
abbrev stC(t:MT):ME:=c_ 1 [6] (gN fT) (aF 0) t bg
abbrev stN:MT:=dY (ag pk (ag bQ bg bG) cT)
abbrev stZ:MT:=dY (ag jC (ag bQ bg bG) cT)
abbrev stS:ME:=c_ 1 [8,0] (gN (ag bQ uD cT)) (aF 0) bI (ag dX (ag bZ bg bG) cQ)
abbrev stX:MB:=aA (aM 8 (ak PM.inverse (aa bg (aa (ag bQ (ag bQ uD cT) nW) ai)))) (aA (aM 9 stS) (aA (aM 4 (ak PM.cleared (aa bg (aa (ag cU (B0 uD (jH cI) jG) (stC stZ)) (aa Bn (aa nW ai)))))) (aA (aM 3 (ag cU (ak PM.cleared (aa bg (aa dJ (aa Bn (aa nW ai))))) (a_ (aa Bn ai)))) (fg (g6 dS j4 (aa nW ai))))))
abbrev Q!:MB:=aA (aM 7 (stC stN)) (mz (dY (ag sO (ak bF (aa uD ai)) cT)) stX dh)
section
variable{w W N:Nat}
theorem JK{Q:Nat->Prop}{s:af}{l:Nat}{ls:List ah}(ll:s[l]?=some (.lst ls))(hv:∀v∈ls,lI p w Q s v)(hn:ls.length<=1000)(hj:j<w){J:Int}(hJ:J=(j:Int)){x2 x3 x7 x8 x9:Option ah}:
  stC stN [x0, x1, x2, x3, qL l, x5, qI J, x7, x8, x9] s=.ok (.loc s.length) (s++[.lst (ls.filter λu => !(nv s J u==0))]) /\
  stC stZ [x0, x1, x2, x3, qL l, x5, qI J, x7, x8, x9] s=.ok (.loc s.length) (s++[.lst (ls.filter λu=>nv s J u==0)]):=by
 have hz:ls.length<=16777216:=by lia
 have go:∀(t:MT)(f:ah->Bool),(∀u∈ls,t [some u,some (.int J)] s=.ok (f u) s)->stC t [x0, x1, x2, x3, qL l, x5, qI J, x7, x8, x9] s=.ok (.loc s.length) (s++[.lst (ls.filter f)]):=by
  intro t f ht;have hc:=h! (g:=λbX=>ao bX l=some ls) (a:=aF 0) (c:=t) (e:=bg) (st:=s) (aB ll) (λτ=>∃x,τ=[x,some (.int J)]) f (λu=>u) ls [none,some (.int J)] [] ⟨_,rfl⟩ (by
   rintro u mu τ ⟨x,rfl⟩;obtain⟨k,R,rfl,_⟩:=hv u mu;exact⟨_,rfl,⟨_,rfl⟩,ht _ mu,λ_=>rfl⟩)
  rw[Vu,List.map_id']at hc;have gz:iN 1 [6] [x0, x1, x2, x3, qL l, x5, qI J, x7, x8, x9]=[none,some (.int J)]:=rfl;show c_ 1 [6] (gN fT) (aF 0) t bg _ s=_;rw[dj,ej,show fT [x0, x1, x2, x3, qL l, x5, qI J, x7, x8, x9] s=.ok (.loc l) s from rfl,aj,dG (aB ll),aj,eR,VC (by rw[VB];exact hz),gz,hc,aj,gJ]
 have e1:∀u∈ls,ag bQ bg bG [some u,some (.int J)] s=.ok (.int (nv s J u)) s:=λu mu=>by have:=(JJ (hv u mu) hj).1;rw[<-hJ]at this;obtain⟨k,R,rfl,_⟩:=hv u mu;rw[gH (x:=.loc k) (s1:=s) rfl (y:=.int J) (s2:=s) rfl,this]
 refine⟨go _ _ λu mu=>vn ?_,go _ _ λu mu=>vn ?_⟩
 .rw[gH (e1 u mu) (y:=.int 0) (s2:=s) rfl];exact oG
 .rw[gH (e1 u mu) (y:=.int 0) (s2:=s) rfl];exact dc
theorem Q?{Q:Nat->Prop}{s:af}(h:lI p w Q s u)(F:Fr s s')(hj:j<w):nv s' (j:Int) u=nv s (j:Int) u:=by obtain⟨k,R,rfl,_,l,wR,rR⟩:=h;have g1:=bT (aB l) (iy (R:=R) (i:=(j:Int)) rfl (by lia));have g2:=bT (aB (F _ _ l)) (iy (R:=R) (i:=(j:Int)) rfl (by lia));unfold nv;rw[g1,g2]
theorem bD{s:af}(us:List ah):∃s',s'=s++[aS.lst us]/\Fr s s'/\s'[s.length]?=some (.lst us)/\s'.length=s.length+1:=⟨_,rfl,Fr.app _ _,bf _ _,by rw[Vv];rfl⟩
structure StI(p:Int)(w W N:Nat)(st:af)(μ:MN.Env)(s:af)(d l pl:Nat)(ds ls:List ah)(cs:_a):Prop where
 env:∃x1 x6 x7 x8 x9,μ=[qI p, x1, qI (W:Int), qL d, qL l, qL pl, x6, x7, x8, x9]
 fr:Fr st s
 hp:st.length<=pl
 nd:d≠pl
 nl:l≠pl
 ld:s[d]?=some (.lst ds)
 ll:s[l]?=some (.lst ls)
 lp:s[pl]?=some (aV cs)
 vd:∀v∈ds,lI p w (·≠pl) s v
 vl:∀v∈ls,lI p w (·≠pl) s v
 ct:ds.length+ls.length=N
 cc:cs.length=ds.length
 cr:∀c∈cs,0<=c/\c<(W:Int)
theorem MP(hp:fJ p=true)(hw:w<=1000)(hN:N<=1000)(hW:W<=w){μ:MN.Env}{s:af}{l pl:Nat}{ds ls:List ah}{cs:_a}(h:StI p w W N st μ s d l pl ds ls cs)(hj:j<W){J:Int}(hJ:J=(j:Int)):
  ∃μ' s',Q! (μ.set 6 (some (.int J))) s=.nx μ' s'/\∃d l pl ds ls cs,StI p w W N st μ' s' d l pl ds ls cs:=by
 have hr:=aJ hp;have fL:0<p:=by lia
 obtain⟨x1,x6,x7,x8,x9,rfl⟩:=h.env;have ct:=h.ct;have cc:=h.cc;have jw:j<w:=by lia
 show ∃μ' s',Q! [qI p, x1, qI (W:Int), qL d, qL l, qL pl, qI J, x7, x8, x9] s=.nx μ' s'/\_;obtain⟨WI,CA⟩:∃WI:Int,WI=(W:Int):=⟨_,rfl⟩
 rw[<-CA];have c1:=(JK h.ll h.vl (by lia) jw hJ (x0:=some (.int p)) (x1:=x1) (x2:=some (.int WI)) (x3:=some (.loc d)) (x5:=some (.loc pl)) (x7:=x7) (x8:=x8) (x9:=x9)).1;obtain⟨fs,hfs⟩:∃fs,fs=ls.filter λu => !(nv s J u==0):=⟨_,rfl⟩
 rw[<-hfs]at c1;obtain⟨s1,e1,F1,l1,n1⟩:=bD (s:=s) fs;rw[<-e1]at c1;obtain⟨L,hL⟩:∃L:Int,L=(fs.length:Int):=⟨_,rfl⟩
 have kl:bF [.loc s.length] s1=.ok (.int L) s1:=by rw[bc (aB l1),hL]
 obtain⟨f,hf⟩:∃f,f=s.length:=⟨_,rfl⟩
 rw[<-hf]at c1 kl l1;have pls:=bx h.lp;cases E4:fs with
 |nil=>
  have z:decide ((0:Int)<L)=false:=VT (by rw[hL,E4];decide);refine⟨[some (.int p),x1,some (.int WI),some (.loc d),some (.loc l),some (.loc pl),some (.int J),some (.loc f),x8,x9],s1,?_,d,l,pl,ds,ls,cs,⟨_,_,_,_,_,by rw[CA]⟩,h.fr.trans F1,h.hp,h.nd,h.nl,F1 _ _ h.ld,F1 _ _ h.ll,F1 _ _ h.lp,λv m=>(h.vd v m).mono F1,λv m=>(h.vl v m).mono F1,h.ct,h.cc,h.cr⟩;unfold Q!;generalize stC stN=C at c1⊢;generalize stX=X;simp only[aj,ax,aL,av,aH,aw,ay,ar,bS,bH,bj,aR,aQ,az,aq,au,aG,bN,bh,a!,fi,aU,aD,Vn,Vt,c1,kl,z]
 |cons u0 us=>
  have z:decide ((0:Int)<L)=true:=VZ (by rw[hL,E4,Vm];lia);have m0:u0∈ls/\(!(nv s J u0==0))=true:=by
   have:u0∈fs:=by rw[E4];exact VV
   rw[hfs]at this;exact X_.mp this
  have mus:∀u∈us,u∈ls:=λu m=>by
   have:u∈fs:=by rw[E4];exact VP _ m
   rw[hfs]at this;exact(X_.mp this).1
  obtain⟨cx,cx1,cx2⟩:=JJ (h.vl u0 m0.1) jw;obtain⟨c,hc⟩:∃c,c=nv s (j:Int) u0:=⟨_,rfl⟩
  rw[<-hc]at cx cx1 cx2;have c0:¬ c=0:=λq=>by have:=m0.2;rw[hJ,<-hc,q]at this;exact absurd this (by decide)
  rw[<-hJ]at cx;have cp:¬ c % p=0:=by rw[V9 cx1 cx2];exact c0
  obtain⟨k0,R0,rfl,nk0,lk0,wR0,rR0⟩:=h.vl u0 m0.1;have cx':bQ (.loc k0) (.int J) s1=.ok (.int c) s1:=by have g1:=bT (aB lk0) (iy (R:=R0) (i:=J) hJ (by lia));have g2:=bT (aB (F1 _ _ lk0)) (iy (R:=R0) (i:=J) hJ (by lia));rw[g1]at cx;cases cx;exact g2
  have ix0:∀{s':af},s'[f]?=some (.lst fs)->bQ (.loc f) (.int 0) s'=.ok (.loc k0) s':=λq=>bT (aB q) (by rw[E4];exact t_);obtain⟨g2,tt,e2,_,_,_⟩:=fv hp cp s1;obtain⟨s2,jR⟩:∃s2,s2=s1++g2:=⟨_,rfl⟩
  have F2:Fr s1 s2:=by rw[jR];exact Fr.app _ _
  rw[<-jR]at e2;have lk2:=F2 _ _ (F1 _ _ lk0);have Rw:=gF (g:=λaC=>ao aC k0=some (R0.map ah.int)) (a:=aF 0) (e:=ag dX (ag bZ bg bG) cQ) (st:=s2) (aB lk2) (λτ=>∃z,τ=[z, qI tt, qI p]) (λi=>.int ((i*tt).fmod p)) R0 [qn, qI tt, qI p] [] ⟨_,rfl⟩ (by
   rintro i mi τ ⟨z,rfl⟩;have:=rR0 i mi;exact⟨_,rfl,⟨_,rfl⟩,by simp only[aj,av,aH,aw,aK,aD,Vn,jo (i:=i) (by lia) (by lia),cj (iO hp)]⟩)
  obtain⟨T,hT⟩:∃T,T=R0.map λi=>(i*tt).fmod p:=⟨_,rfl⟩
  have wT:T.length=w:=by rw[hT,Vq,wR0]
  have rT:∀x∈T,0<=x/\x<p:=λx mx=>by rw[hT]at mx;obtain⟨i,_,rfl⟩:=Wb.mp mx;exact A7 fL _
  rw[Vu,show(R0.map λi=>ah.int ((i*tt).fmod p))=T.map ah.int from by rw[hT,V_];rfl]at Rw;obtain⟨s3,e3,F3,l3,n3⟩:=bD (s:=s2) (T.map ah.int);have c3:stS [qI p, x1, qI WI, qL d, qL l, qL pl, qI J, qL f, qI tt, x9] s2=.ok (.loc s2.length) s3:=by have gz:iN 1 [8,0] [qI p, x1, qI WI, qL d, qL l, qL pl, qI J, qL f, qI tt, x9]=[qn, qI tt, qI p]:=rfl;show c_ 1 [8,0] (gN (ag bQ uD cT)) (aF 0) bI (ag dX (ag bZ bg bG) cQ) _ s2=_;rw[dj,ej,gH (x:=.loc f) (s1:=s2) rfl (y:=.int 0) (s2:=s2) rfl,ix0 (F2 _ _ l1),aj,dG (aB lk2),aj,eR,VC (by rw[Vq,VB];lia),gz,Rw,aj,gJ,e3]
  obtain⟨m,hm⟩:∃m,m=s2.length:=⟨_,rfl⟩
  rw[<-hm]at c3 l3 n3;obtain⟨s4,e4,F4,l4,n4⟩:=bD (s:=s3) us;have c4:HX (some 1) none (.loc f) s3=.ok (.loc s3.length) s4:=by rw[yD (aB (F3 _ _ (F2 _ _ l1))),show wm fs (some 1) none=us from by rw[E4];exact cutD _ 1,e4]
  have CB:=F1.trans (F2.trans (F3.trans F4));have c5:=(JK (CB _ _ h.ll) (λv m=>(h.vl v m).mono CB) (by lia) jw hJ (x0:=some (.int p)) (x1:=x1) (x2:=some (.int WI)) (x3:=some (.loc d)) (x5:=some (.loc pl)) (x7:=some (.loc f)) (x8:=some (.int tt)) (x9:=some (.loc m))).2;obtain⟨zs,hzs⟩:∃zs,zs=ls.filter λu=>nv s4 J u==0:=⟨_,rfl⟩
  rw[<-hzs]at c5;have lz:zs.length+us.length+1=ls.length:=by
   have a:=sC (λu=>nv s J u==0) ls;have b:zs=ls.filter λu=>nv s J u==0:=by rw[hzs];refine List.filter_congr λu mu=>?_;rw[hJ,Q? (h.vl u mu) CB jw]
   rw[<-b,<-hfs,E4,Vm]at a;lia
  have mzs:∀u∈zs,u∈ls:=λu m=>by rw[hzs]at m;exact(X_.mp m).1
  obtain⟨s5,e5,F5,l5,n5⟩:=bD (s:=s4) zs;rw[<-e5]at c5;have c6:=oV (st:=s5) (F5 _ _ l4) l5 (by rw[VB];lia);obtain⟨s6,e6,F6,l6,n6⟩:=bD (s:=s5) (us++zs);rw[<-e6]at c6;have RX:=CB.trans (F5.trans F6);have F36:=F4.trans (F5.trans F6);obtain⟨k6,U6,s7,c7,F7,k7,l7,n7,v7⟩:=vD (w:=w) (j:=j) hp l6 (λv mv=>by
   rcases VX.mp mv with mv|mv
   .exact((h.vl v (mus v mv)).mono RX).any
   .exact((h.vl v (mzs v mv)).mono RX).any) (F36 _ _ l3) wT hw (by rw[Vv];lia) jw
  have UR:=RX.trans F7;obtain⟨k8,ds',s8,c8,F8,k9,l8,n8,v8⟩:=vD (w:=w) (j:=j) hp (UR _ _ h.ld) (λv mv=>((h.vd v mv).mono UR).any) (F7 _ _ (F36 _ _ l3)) wT hw (by lia) jw;rw[<-hJ]at c7 c8;obtain⟨s9,e9,F9,l9,n9⟩:=bD (s:=s8) [.loc m];have c10:=oV (st:=s9) (F9 _ _ l8) l9 (by rw[VB,V3];lia);obtain⟨RY,e10,U7,l10,n10⟩:=bD (s:=s9) (ds'++[.loc m]);rw[<-e10]at c10;have F0:=UR.trans (F8.trans (F9.trans U7));have lpA:=F0 _ _ h.lp;have c11:=ja (v:=.int J) lpA (by rw[aI,VB];lia);have g1:=F1.len;have g2':=F2.len;have g3:=F3.len;have g4:=F4.len;have g7:=F7.len;have g8:=F8.len;have q4:s4.length=s3.length+1:=n4;refine⟨[some (.int p),x1,some (.int WI),some (.loc s9.length),some (.loc k6),some (.loc pl),some (.int J),some (.loc f),some (.int tt),some (.loc m)],RY.set pl (aV (cs++[J])),?_,s9.length,k6,pl,ds'++[.loc m],U6,cs++[J],⟨_,_,_,_,_,by rw[CA]⟩,(h.fr.trans F0).set h.hp _,h.hp,by lia,by lia,g9 l10 (by lia),g9 (U7 _ _ (F9 _ _ (F8 _ _ l7))) (by lia),iw lpA,λv mv=>?_,λv mv=>?_,by rw[Vv,V3,n8,n7,Vv];lia,by rw[Vv,Vv,n8,cc];rfl,λx mx=>?_⟩
  .have c9:a_ (aa Bn ai) [qI p, x1, qI WI, qL d, qL k6, qL pl, qI J, qL f, qI tt, qL m] s8=.ok (.loc s8.length) s9:=by rw[du (A1 (v:=.loc m) (s1:=s8) rfl) (by show 1<=1000;decide),e9]
   have abi:dS (.loc pl) [.int J] RY=.ok .cH (RY.set pl (aV (cs++[J]))):=by rw[c11];show _=cz.ok ah.cH (RY.set pl (.lst ((cs++[J]).map ah.int)));rw[Ws];rfl
   unfold Q! stX;generalize stC stN=C at c1⊢;generalize stC stZ=C' at c5⊢;generalize stS=C3 at c3⊢;generalize a_ (aa Bn ai)=C9 at c9⊢;simp only[aj,ax,aL,av,aH,aw,ay,ar,eO,dC,bH,bj,aR,aQ,az,aq,au,aG,b!,bh,a!,fi,aK,aU,aD,Vn,Vt,Av,Ik,Aw,Ax,mT,mW,Il,kQ,uS,c1,kl,z,ix0 l1,cx',e2,c3,c4,c5,c6,c7,c8,c9,c10,oH lpA,abi]
  .have:lI p w (·≠pl) RY v:=by
    rcases VX.mp mv with mv|mv
    .exact((v8 v mv).mono (F9.trans U7)).imp λk hk=>by lia
    .rw[VN.mp mv];exact⟨m,T,rfl,by lia,U7 _ _ (F9 _ _ (F8 _ _ (F7 _ _ (F36 _ _ l3)))),wT,rT⟩
   exact this.set (λk hk=>hk) _
  .have:lI p w (·≠pl) RY v:=((v7 v mv).mono (F8.trans (F9.trans U7))).imp λk hk=>by lia
   exact this.set (λk hk=>hk) _
  .rcases VX.mp mx with mx|mx
   .exact h.cr x mx
   .rw[VN.mp mx];lia
end
section
variable{w W:Nat}{s:af}
theorem vE(hp:fJ p=true){vs:List ah}(ln:s[n]?=some (.lst vs))(hv:∀v∈vs,lI p w wB s v)(hw:w<=1000)(hl:vs.length<=1000)(hW:W<=w):
  ∃a b zs cs s',PM.n! [.int p,.loc n,.int (W:Int)] s=.ok (.tup [.loc a,.loc b]) s'/\Fr s s'/\s.length<=a/\s'[a]?=some (.lst zs)/\s'[b]?=some (aV cs)/\cs.length<=zs.length/\zs.length=vs.length/\(∀v∈zs,lI p w wB s' v)/\∀c∈cs,0<=c/\c<(W:Int):=by
 obtain⟨s1,e1,F1,l1,n1⟩:=bD (s:=s) [];obtain⟨s2,e2,F2,l2,n2⟩:=bD (s:=s1) [];have F:=F1.trans F2;have hn:=bx ln;have I0:StI p w W vs.length s [qI p, qL n, qI (W:Int), qL s.length, qL n, qL s1.length, qn, qn, qn, qn] s2 s.length n s1.length [] vs []:=
  ⟨⟨_,_,_,_,_,rfl⟩,F,F1.len,by lia,by lia,F2 _ _ l1,F _ _ ln,l2,(λv m=>by cases m),(λv m=>by
   obtain⟨k,R,e,_,l,r⟩:=hv v m;have:=bx l;exact⟨k,R,e,by lia,F _ _ l,r⟩),by simp,rfl,(λc m=>by cases m)⟩
 obtain⟨WI,CA⟩:∃WI:Int,WI=(W:Int):=⟨_,rfl⟩
 obtain⟨μ',s',ef,d,l,pl,ds,ls,cs,H⟩:=dN (g:=λ_=>True) (a:=aF 6) (body:=Q!) (λ_ μ s'=>∃d l pl ds ls cs,StI p w W vs.length s μ s' d l pl ds ls cs) ((fw 0 W).map ah.int) 0 [qI p, qL n, qI (W:Int), qL s.length, qL n, qL s1.length, qn, qn, qn, qn] s2 (by
  rintro i u μ s' hu ⟨d,l,pl,ds,ls,cs,H⟩;have hi:i<W:=by have:=bx hu;rw[aI,ke]at this;exact this
  have eu:u=.int (i:Int):=by rw[VM]at hu;unfold fw at hu;rw[VM,Wd hi]at hu;have:=VR hu;rw[<-this];show ah.int (0+(i:Int))=_;rw[X2]
  subst eu;refine⟨trivial,μ.set 6 (some (.int (i:Int))),?_,?_⟩
  .obtain⟨x1,x6,x7,x8,x9,rfl⟩:=H.env;rfl
  .obtain⟨μ',kz,e,H'⟩:=MP hp hw hl hW H hi (J:=(i:Int)) rfl;exact⟨μ',kz,.inl e,H'⟩) (λ_ _ _=>trivial) ⟨_,_,_,_,_,_,I0⟩
 obtain⟨x1,x6,x7,x8,x9,rfl⟩:=H.env;have ct:=H.ct;have cc:=H.cc;have c1:=oV H.ld H.ll (by rw[VB];lia);obtain⟨s4,e4,F4,l4,n4⟩:=bD (s:=s') (ds++ls);rw[<-e4]at c1;have hr:=aJ hp;rw[<-CA]at ef⊢;refine⟨s'.length,pl,ds++ls,cs,s4,?_,H.fr.trans F4,H.fr.len,l4,F4 _ _ H.lp,by rw[Vv];lia,by rw[Vv];exact ct,λv mv=>?_,by rw[CA];exact H.cr⟩
 .have a1:a_ ai [qI p, qL n, qI WI, qn, qn, qn, qn, qn, qn, qn] s=.ok (.loc s.length) s1:=by rw[du (vs:=[]) (s1:=s) rfl (by decide),e1]
  have a2:a_ ai [qI p, qL n, qI WI, qL s.length, qL n, qn, qn, qn, qn, qn] s1=.ok (.loc s1.length) s2:=by rw[du (vs:=[]) (s1:=s1) rfl (by decide),e2]
  unfold PM.n!;rw[bb (np:=3) (us:=[ah.int p,.loc n,.int WI]) rfl];show(aA (aM 3 (a_ ai)) (aA (aM 4 bG) (aA (aM 5 (a_ ai)) (aA (iM (ip (aa cQ ai)) (aF 6) Q!) (bM (gB (aa (ag cU dJ fT) (aa j4 ai))))))) [qI p, qL n, qI WI, qn, qn, qn, qn, qn, qn, qn] s).fin=_;generalize Q!=B at ef⊢;generalize a_ ai=M at a1 a2⊢;simp only[aj,ax,aL,a9,av,aH,aw,ay,ar,iG,bu,bH,iW,az,aq,fX,aG,aZ,a!,gm,kN,aK,aU,aD,Vn,Vt,Vm,Vx,Nat.reduceAdd,VB,Nat.reduceLeDiff,↓reduceIte,a1,a2,ML CA (by lia),ef,c1]
 .rcases VX.mp mv with mv|mv
  .exact((H.vd v mv).mono F4).any
  .exact((H.vl v mv).mono F4).any
theorem A8{Q:Nat->Prop}{s:af}(h:lI p w Q s v)(hW:W<=w):∃s',HX (some (W:Int)) none v s=.ok (.loc s.length) s'/\Fr s s'/\lI p (w-W) (s.length<=·) s' (.loc s.length):=by obtain⟨k,R,rfl,_,l,wR,rR⟩:=h;refine⟨s++[aV (R.drop W)],?_,Fr.app _ _,s.length,R.drop W,rfl,VD _,bf _ _,by rw[XA,wR],λx mx=>rR x (List.mem_of_mem_drop mx)⟩;rw[yD (aB l),cutD,<-List.map_drop]
theorem MQ(hp:fJ p=true){vs:List ah}(ln:s[n]?=some (.lst vs))(hv:∀v∈vs,lI p w wB s v)(hw:w<=500)(hl:vs.length<=500):
  ∃a zs s',PM.fY [.int p,.loc n,.int (w:Int)] s=.ok (.loc a) s'/\Fr s s'/\s.length<=a/\s'[a]?=some (.lst zs)/\zs.length<=vs.length/\∀v∈zs,lI p vs.length (s.length<=·) s' v:=by
 have hr:=aJ hp;obtain⟨k1,zs1,s1,c1,F1,_,l1,n1,v1⟩:=oJ (p:=p) (by lia) ln hv (by lia) (by lia);obtain⟨a,b,Ra,cs,s2,c2,F2,ga,la,lb,n2,n3,v2,_⟩:=vE (w:=w+vs.length) (W:=w) hp l1 (λv m=>(v1 v m).any) (by lia) (by lia) (by lia);obtain⟨WI,CA⟩:∃WI:Int,WI=(w:Int):=⟨_,rfl⟩
 rw[<-CA]at c2;have c3:bF [.loc b] s2=.ok (.int (cs.length:Int)) s2:=by rw[bc (aB lb),aI]
 obtain⟨CL,hCL⟩:∃CL:Int,CL=(cs.length:Int):=⟨_,rfl⟩
 rw[<-hCL]at c3;have c4:HX (some CL) none (.loc a) s2=.ok (.loc s2.length) (s2++[.lst (Ra.drop cs.length)]):=by rw[yD (aB la),hCL,cutD]
 obtain⟨s3,e3,F3,l3,_⟩:=bD (s:=s2) (Ra.drop cs.length);rw[<-e3]at c4;have sA:=F1.trans (F2.trans F3);obtain⟨zs,s4,ec,F4,l4,g4⟩:=ik (g:=λbX=>ao bX s2.length=some (Ra.drop cs.length)) (a:=aF 0) (c:=bI) (e:=B0 bg (jH bG) jG) (s0:=s3) (λs' F=>aB (F _ _ l3)) (λτ=>∃x,τ=[x,some (.int WI)]) (λ_=>true) (λs' y=>lI p vs.length (s.length<=·) s' y) (λs' kz y F h=>h.mono F) (Ra.drop cs.length) [none,some (.int WI)] s3 [] ⟨_,rfl⟩ (Fr.refl _) (by
  rintro u mu τ s' ⟨x,rfl⟩ F;have hu:=(v2 u (List.mem_of_mem_drop mu)).mono (F3.trans F);obtain⟨kz,e,F',h⟩:=A8 hu (W:=w) (by lia);obtain⟨k,R,rfl,_⟩:=hu;rw[<-CA]at e;refine⟨_,rfl,⟨_,rfl⟩,rfl,λ_=>⟨.loc s'.length,kz,by simp only[aj,aK,aU,aD,Vn,Av,Ik,Aw,Ax,mT,mW,Il,e],F',?_⟩⟩;rw[Nat.add_sub_cancel_left]at h;exact h.imp λk hk=>V? (sA.trans F).len hk)
 rw[Vu]at ec;rw[jO,XA]at l4;have gz:∀x y z:Option ah,iN 1 [2] [x, y, qI WI, z]=[none,some (.int WI)]:=λ_ _ _=>rfl;have hz:(Ra.drop cs.length).length<=16777216:=by rw[XA];lia
 refine⟨s4.length,zs,s4++[.lst zs],?_,(sA.trans F4).more _,(sA.trans F4).len,bf _ _,by lia,λv mv=>(g4 v mv).mono (Fr.app _ _)⟩;rw[<-CA];simp only[PM.fY,bb,aj,ax,aL,a9,av,aH,aw,ay,ar,bu,bH,gJ,eR,bj,az,aq,au,aG,aZ,a!,dj,ej,aK,fP,aU,aD,Vs,VE,Vz,Vu,Vy,Vr,Vn,Vt,Nat.reduceSub,Vm,Vx,Nat.reduceAdd,VB,Av,Ik,Aw,Ax,mT,mW,Il,c1,c2,bK t_,bK Bq,c3,c4,dG (aB l3),gz,ec,VC hz]
theorem JL(hp:fJ p=true){vs:List ah}(ln:s[n]?=some (.lst vs))(hv:∀v∈vs,lI p w wB s v)(hw:w<=500)(hl:vs.length<=500):
  ∃v s',PM.e8 [.int p,.loc n,.int (w:Int)] s=.ok v s'/\Fr s s'/\(v=.cH\/∃t,v=.loc t):=by
 have hr:=aJ hp;obtain⟨k1,zs1,s1,c1,F1,_,l1,n1,v1⟩:=oJ (p:=p) (by lia) ln hv (by lia) (by lia);obtain⟨a,b,Ra,cs,s2,c2,F2,ga,la,lb,n2,n3,v2,rc⟩:=vE (w:=w+vs.length) (W:=w) hp l1 (λv m=>(v1 v m).any) (by lia) (by lia) (by lia);obtain⟨WI,CA⟩:∃WI:Int,WI=(w:Int):=⟨_,rfl⟩
 rw[<-CA]at c2 rc⊢;have zI:=F1.trans F2;obtain⟨CL,hCL⟩:∃CL:Int,CL=(cs.length:Int):=⟨_,rfl⟩
 obtain⟨VL,hVL⟩:∃VL:Int,VL=(vs.length:Int):=⟨_,rfl⟩
 have c3:bF [.loc b] s2=.ok (.int CL) s2:=by rw[bc (aB lb),aI,hCL]
 have c4:bF [.loc n] s2=.ok (.int VL) s2:=by rw[bc (aB (zI _ _ ln)),hVL]
 by_cases sJ:CL<VL
 .have z:decide (CL<VL)=true:=VZ sJ;exact⟨.cH,s2,by simp only[PM.e8,bb,aj,ax,aL,gS,a9,av,aH,aw,ay,ar,bu,dC,bH,bj,aR,aQ,az,aq,au,aG,aZ,bh,a!,gK,aK,fP,aU,aD,Vs,VE,Vz,Vu,Vy,Vr,Vn,Vt,Nat.reduceSub,Vm,Vx,Nat.reduceAdd,c1,c2,bK Bq,c3,c4,z],zI,.inl rfl⟩
 have z:decide (CL<VL)=false:=VT sJ;obtain⟨us,s4,ec,F4,l4,_⟩:=ik (g:=λ_=>True) (a:=aF 0) (c:=bI) (e:=ag bZ (a_ (aa cT ai)) (ak bF (aa bG ai))) (s0:=s2) (λ_ _=>trivial) (λτ=>∃x,τ=[x,some (.loc n)]) (λ_=>true) (λ_ _=>True) (λ_ _ _ _ _=>trivial) ((fw 0 w).map ah.int) [none,some (.loc n)] s2 [] ⟨_,rfl⟩ (Fr.refl _) (by
  rintro u mu τ s' ⟨x,rfl⟩ F;obtain⟨i,_,rfl⟩:=Wb.mp mu;have b1:a_ (aa cT ai) [some (.int i),some (.loc n)] s'=.ok (.loc s'.length) (s'++[.lst [.int 0]]):=du (vs:=[.int 0]) (s1:=s') rfl (by decide);have b2:bF [.loc n] (s'++[.lst [.int 0]])=.ok (.int VL) (s'++[.lst [.int 0]]):=by rw[bc (aB (cR (F _ _ (zI _ _ ln)) _)),hVL]
  have b3:=uU (st:=s'++[.lst [.int 0]]) (k:=VL) (bf s' [.int 0]) (by lia) (by lia) (by rw[VB,V3];lia);refine⟨[some (.int i),some (.loc n)],rfl,⟨_,rfl⟩,rfl,λ_=>⟨_,_,by rw[gH b1 (y:=.int VL) (s2:=s'++[.lst [.int 0]]) (by rw[jM (A1 (v:=.loc n) (s1:=s'++[.lst [.int 0]]) rfl),b2])];exact b3,(Fr.app s' _).more _,trivial⟩⟩)
 rw[Vu]at ec;rw[jO,aI,ke]at l4;obtain⟨s5,e5,F5,l5,n5⟩:=bD (s:=s4) us;have gz:∀x y z t u v:Option ah,iN 1 [1] [x, qL n, y, z, t, u, v]=[none,some (.loc n)]:=λ_ _ _ _ _ _=>rfl;have hz:((fw 0 w).map ah.int).length<=16777216:=by rw[aI,ke];lia
 have RW:=F4.trans F5;have f4:=F4.len;have hb:=bx lb;have ha:=bx la;have hpp:=zI.len;obtain⟨t,ht⟩:∃t,t=s4.length:=⟨_,rfl⟩
 rw[<-ht]at l5;obtain⟨μ',s6,ef,tb,F6,l6,n6,x5,x6,rfl⟩:=dN (g:=λbX=>ao bX b=some (cs.map ah.int)) (a:=iL [aF 5,aF 6]) (body:=sf fT nW (B0 (ag bQ (ag bQ dJ cT) j4) (jH cQ) jG)) (λ_ μ s'=>∃tb,Fr s2 s'/\s'[t]?=some (.lst tb)/\tb.length=w/\∃x5 x6,μ=[qI p, qL n, qI WI, some (.tup [.loc a,.loc b]), qL t, x5, x6]) (iU 0 (cs.map ah.int)) 0 [qI p, qL n, qI WI, some (.tup [.loc a,.loc b]), qL t, qn, qn] s5 (by
  rintro i u μ s' hu ⟨tb,F,lt,nt,x5,x6,rfl⟩;obtain⟨q,hq,rfl⟩:=jh _ 0 i u hu;rw[V8];have hi:i<cs.length:=by have:=bx hq;rw[aI]at this;exact this
  rw[VM,Vp hi]at hq;have eq:=(VR hq).symm;obtain⟨r0,r1⟩:=rc _ (X6 hi);generalize cs[i]=c at eq r0 r1;subst eq;obtain⟨cn,hcn⟩:∃cn:Nat,c=(cn:Int):=⟨c.toNat,by lia⟩
  obtain⟨z2,RK⟩:∃z2,Ra[i]?=some z2:=⟨_,Vp (by lia)⟩
  have b1:=bT (aB (F _ _ la)) (L2.i_ RK);obtain⟨I,hI⟩:∃I:Int,I=(i:Int):=⟨_,rfl⟩
  rw[<-hI]at b1⊢;have hM:=(v2 z2 (Wc RK)).mono F;obtain⟨kz,b2,F',_⟩:=A8 hM (W:=w) (by lia);rw[<-CA]at b2;have lt':=F' _ _ lt;have b3:=tY (v:=.loc s'.length) (k:=c) (j:=cn) lt' (by rw[nt,hcn];exact t? (by lia));have bz:B0 (ag bQ (ag bQ dJ cT) j4) (jH cQ) jG [qI p, qL n, qI WI, some (.tup [.loc a,.loc b]), qL t, qI I, qI c] s'=.ok (.loc s'.length) kz:=by obtain⟨k,R,rfl,_⟩:=hM;simp only[aj,av,aH,aw,bj,aK,fP,aD,Av,Ik,Aw,Ax,mT,mW,Il,bK t_,b1,b2]
  refine⟨(F.it (aB lb)),_,rfl,[qI p, qL n, qI WI, some (.tup [.loc a,.loc b]), qL t, qI I, qI c],kz.set t (.lst (tb.set cn (.loc s'.length))),.inl ?_,tb.set cn (.loc s'.length),(F.trans F').set (by lia) _,iw lt',by rw[Wu];exact nt,_,_,rfl⟩;show sf fT nW (B0 (ag bQ (ag bQ dJ cT) j4) (jH cQ) jG) [qI p, qL n, qI WI, some (.tup [.loc a,.loc b]), qL t, qI I, qI c] s'=_;generalize B0 (ag bQ (ag bQ dJ cT) j4) (jH cQ) jG=X at bz⊢;simp only[ax,aK,aU,aD,DS,Ug,NB,NC,pP,bz,b3]) (λ_ s'⟨_,F,_⟩=>F.it (aB lb)) ⟨us,RW,l5,l4,_,_,rfl⟩
 refine⟨.loc t,s6,?_,zI.trans F6,.inr ⟨_,rfl⟩⟩;have hZ:xm (.loc b) s5=.ok ((cs.map ah.int),λaC=>ao aC b=some (cs.map ah.int)) s5:=dG (RW.it (aB lb));have he:=uT (RW.it (aB lb));unfold PM.e8;rw[bb (np:=3) (us:=[ah.int p,.loc n,.int WI]) rfl];generalize sf fT nW (B0 (ag bQ (ag bQ dJ cT) j4) (jH cQ) jG)=B at ef⊢;generalize ag bZ (a_ (aa cT ai)) (ak bF (aa bG ai))=M at ec⊢;rw[e5]at ef;rw[e5]at he;simp only[aj,ax,aL,a9,av,aH,aw,ay,ar,bu,bS,bH,iW,gJ,eR,bj,aR,aQ,az,aq,au,aG,bN,aZ,bh,a!,gm,dj,kN,gK,aK,fP,aU,aD,Vs,VE,Vz,Vu,Vy,Vr,Vn,Vt,Nat.reduceSub,VB,pQ,c1,c2,bK Bq,c3,c4,z,ML CA (by lia),gz,ec,VC hz,he,ef,<-ht]
end
structure Br(p:Int)(A:_a)(Gs:List (_a)):Prop where
 mn:∀G∈Gs,jY p G/\2<=G.length
 dv:∀G∈Gs,∃x:aE p,aN A=aN G*x
 cp:Gs.Pairwise λa b=>ee (aN a:aE p) (aN b)
def NV:List (_a)->aE p
 |[]=>1
 |G::l=>aN G*NV l
theorem Eo{x:aE p}:∀{l:List (_a)},(∀G∈l,ee x (aN G))->ee x (NV l)
 |[],_=>ee.one
 |G::l,h=>(h G (VV ..)).mul (Eo λH m=>h H (VP _ m))
theorem Ep{a:aE p}:∀{l:List (_a)},(∀G∈l,∃x:aE p,a=aN G*x)->(l.Pairwise λa b=>ee (aN a:aE p) (aN b))->∃y,a=NV l*y
 |[],_,_=>⟨a,by show a=1*a;grind⟩
 |G::l,h,c=>by
  obtain⟨x,hx⟩:=h G (VV ..);obtain⟨c1,c2⟩:=Y6.mp c;obtain⟨y,hy⟩:=Ep (λH m=>h H (VP _ m)) c2;obtain⟨u,v,e⟩:=Eo c1;refine⟨u*y+v*x,?_⟩;show a=aN G*NV l*(u*y+v*x);generalize (NV l:aE p)=P at hy e⊢;generalize (aN G:aE p)=g at hx e⊢
  grind
theorem Er(hp:0<p):∀{l:List (_a)}{A:_a}{y:aE p},(∀G∈l,jY p G/\2<=G.length)->Row p A->A≠[]->aN A=NV l*y->l.length<A.length
 |[],A,y,_,_,nA,_=>VJ.mpr nA
 |G::l,A,y,h,hA,nA,e=>by obtain⟨m1,m2⟩:=h G (VV ..);obtain⟨Q,hQ,eQ,nQ,lQ⟩:=qY hp hA nA m1 (x:=NV l*y) (by rw[e];show aN G*NV l*y=_;exact fE _ _ _);have:=Er hp (λH m=>h H (VP _ m)) hQ nQ eQ.symm;rw[Vm];lia
theorem Br.GF(hp:0<p){A:_a}(h:Br p A Gs)(hA:Row p A)(nA:A≠[]):Gs.length<A.length:=by obtain⟨y,e⟩:=Ep h.dv h.cp;exact Er hp h.mn hA nA e
theorem Br.len(hp:0<p){A:_a}(h:Br p A Gs)(hA:Row p A)(nA:A≠[]):∀G∈Gs,G.length<=A.length:=λG m=>by obtain⟨x,e⟩:=h.dv G m;obtain⟨Q,_,_,nQ,lQ⟩:=qY hp hA nA (h.mn G m).1 e;have:=VJ.mpr nQ;lia
theorem Br.nodup(hp:2<=p){A:_a}(h:Br p A Gs):Gs.Nodup:=by
 have h1:Gs.Pairwise λa b=>(jY p a/\2<=a.length)/\ee (aN a:aE p) (aN b):=
  List.Pairwise.imp_of_mem (λ{a b}ma _ c=>⟨h.mn a ma,c⟩) h.cp
 refine h1.imp λ{a b}q e=>?_;obtain⟨⟨m1,m2⟩,c⟩:=q;subst e;obtain⟨z,ez⟩:=SA.Eb c (c:=aN a) (x:=1) (y:=1) (by grind) (by grind);rw[A5 hp m1 ez]at m2;exact absurd m2 (by decide)
theorem Br.self{A:_a}(h:jY p A)(l:2<=A.length):Br p A [A]:=⟨λG m=>by rw[VN.mp m];exact⟨h,l⟩,λG m=>⟨1,by rw[VN.mp m];grind⟩,WZ ..⟩
structure JM(p:Int)(Gs:List (_a))(i:Nat)(Hs:List (_a)):Prop where
 mn:∀H∈Hs,jY p H/\2<=H.length
 dv:∀H∈Hs,∃G∈Gs.take i,∃x:aE p,aN G=aN H*x
 cp:Hs.Pairwise λa b=>ee (aN a:aE p) (aN b)
theorem JM.nil:JM p Gs 0 []:=⟨(λ_ m=>by cases m),(λ_ m=>by cases m),.nil⟩
theorem JM.put{Hs Ks:List (_a)}{G:_a}(h:JM p Gs i Hs)(hi:Gs[i]?=some G)(c:Gs.Pairwise λa b=>ee (aN a:aE p) (aN b))(f:Br p G Ks):JM p Gs (i+1) (Hs++Ks):=by
 have et:Gs.take (i+1)=Gs.take i++[G]:=by rw[List.take_add_one,hi];rfl
 refine⟨λH m=>?_,λH m=>?_,WS.mpr ⟨h.cp,f.cp,λa ma b mb=>?_⟩⟩
 .rcases VX.mp m with m|m
  .exact h.mn H m
  .exact f.mn H m
 .rw[et];rcases VX.mp m with m|m
  .obtain⟨G',mG,x,e⟩:=h.dv H m;exact⟨G',WB _ mG,x,e⟩
  .obtain⟨x,e⟩:=f.dv H m;exact⟨G,Wa _ (VN.mpr rfl),x,e⟩
 .obtain⟨G',mG,x,e⟩:=h.dv a ma;obtain⟨y,e'⟩:=f.dv b mb;have cc:ee (aN G':aE p) (aN G):=by have:(Gs.take (i+1)).Pairwise λa b=>ee (aN a:aE p) (aN b):=List.Pairwise.sublist (List.take_sublist _ _) c;rw[et]at this;exact(WS.mp this).2.2 G' mG G (VN.mpr rfl)
  exact((cc.of_dvd e').symm.of_dvd e).symm
theorem JM.fct{A:_a}{Hs:List (_a)}(h:JM p Gs i Hs)(f:∀G∈Gs,∃x:aE p,aN A=aN G*x):Br p A Hs:=⟨h.mn,λH m=>by
  obtain⟨G,mG,x,e⟩:=h.dv H m;obtain⟨y,e'⟩:=f G (List.mem_of_mem_take mG);exact⟨x*y,by rw[e',e];exact fE _ _ _⟩,h.cp⟩
theorem Rb(hp:0<p)(B:_a)(a:Int):(aN (mI p B [a]):aE p)=aN B-aN [a]:=by show _=(aN B:aE p) + -(aN [a]);rw[QX,QW];exact mk_eq ((yM hp B [a]).trans (ba.of_eq λk=>by rw[d!,oh];lia))
theorem JN(hp:fJ p=true){G H:_a}{a b:Int}(a0:0<=a)(ab:a<b)(bp:b<p){x y:aE p}(e1:(aN (mI p B [a]):aE p)=aN G*x)(e2:(aN (mI p B [b]):aE p)=aN H*y):ee (aN G:aE p) (aN H):=by
 have hr:=aJ hp;have fL:0<p:=by lia
 rw[Rb fL]at e1 e2;obtain⟨t,ht⟩:=NT (p:=p) (n:=b-a) hp (by rw[V9 (by lia) (by lia)];lia);have eu:(aN [t]:aE p)*(aN [b]-aN [a])=1:=by
  have h1:(aN [b]:aE p)=aN [b-a]+aN [a]:=by rw[<-p4];congr 2;lia
  have h2:(aN [t]:aE p)*aN [b-a]=1:=by rw[Cv];show _=(aN [1]:aE p);refine mk_eq ?_;refine(ba.of_eq λk=>by rw[bC,vj,k!]).trans ?_;intro k;rw[k!];show Cg p (t*((b-a)*one k)) (1*one k);rw[<-Wx];exact Cg.Jb ⟨(t*(b-a)) / p,by have:=Wl (t*(b-a)) p;lia⟩ _
  grind
 exact⟨aN [t]*x,-(aN [t]*y),by grind⟩
def Kj(p:Int)(N:Nat)(s:af)(v:ah):Prop:=∃k R,v=.loc k/\s[k]?=some (aV R)/\Row p R/\R.length<=N
theorem Rc{s:af}{L z:Nat}{t:List ah}(h1:s[k]?=some (aV R))(h2:s[L]?=some (.lst (.loc z::t))):L≠k:=by
 rintro rfl;rw[h1]at h2;cases R with
 |nil=>cases h2
 |cons x R=>cases h2
section
variable{N:Nat}{s:af}
theorem Kj.mono(h:Kj p N s v)(F:Fr s s'):Kj p N s' v:=by obtain⟨k,R,e,l,r⟩:=h;exact⟨k,R,e,F _ _ l,r⟩
theorem Kj.set{L z:Nat}{t:List ah}{c:aS}(h:Kj p N s v)(h2:s[L]?=some (.lst (.loc z::t))):Kj p N (s.set L c) v:=by obtain⟨k,R,e,l,r⟩:=h;exact⟨k,R,e,g9 l (Rc l h2),r⟩
abbrev RZ(i:Nat):ME:=ag cU (ag bZ (a_ (aa cT ai)) (iJ i)) (a_ (aa cI ai))
theorem NW{μ:MN.Env}{K:Int}(h:∀s,iJ i μ s=.ok (.int K) s)(k0:0<=K)(k1:K<=1000)(s:af):∃k s',RZ i μ s=.ok (.loc k) s'/\Fr s s'/\s.length<=k/\s'[k]?=some (aV (List.replicate K.toNat 0++[1])):=by
 obtain⟨s1,e1,F1,l1,_⟩:=bD (s:=s) [.int 0];have b1:a_ (aa cT ai) μ s=.ok (.loc s.length) s1:=by rw[du (vs:=[.int 0]) (s1:=s) rfl (by decide),e1]
 have m1:=uU (k:=K) l1 (by lia) (by lia) (by rw[VB,V3];lia);rw[D7]at m1;obtain⟨s2,e2,F2,l2,_⟩:=bD (s:=s1) ((List.replicate K.toNat (0:Int)).map ah.int);rw[<-e2]at m1;obtain⟨s3,e3,F3,l3,_⟩:=bD (s:=s2) [.int 1];have b3:a_ (aa cI ai) μ s2=.ok (.loc s2.length) s3:=by rw[du (vs:=[.int 1]) (s1:=s2) rfl (by decide),e3]
 have a4:=oV (F3 _ _ l2) l3 (by rw[aI,VY,V3,VB];lia);have F:=F1.trans (F2.trans F3);refine⟨s3.length,s3++[aV (List.replicate K.toNat 0++[1])],?_,F.more _,F.len,bf _ _⟩;show ag cU (ag bZ (a_ (aa cT ai)) (iJ i)) (a_ (aa cI ai)) μ s=_;rw[gH (a:=ag bZ (a_ (aa cT ai)) (iJ i)) (by rw[gH b1 (h s1)];exact m1) b3,a4];show _=cz.ok _ (s3++[aS.lst ((List.replicate K.toNat (0:Int)++[1]).map ah.int)]);rw[Ws];rfl
abbrev U8:ME:=Kd (dY (ag jC fT cI)) (RZ 0) (ak PM.c! (aa bg (aa (ag bQ dJ (ag iF fT cI)) (aa (ag bQ dJ cI) ai))))
abbrev R3:MB:=aA (aM 5 U8) (aA (aM 6 (ak PM.parted (aa bg (aa j4 (aa bG ai))))) (aA (fg (g6 dS cQ (aa (ag bQ nW cT) ai))) (fg (g6 dS dJ (aa (ag bQ nW cI) ai)))))
structure PwI(p:Int)(N n:Nat)(s:af)(i:Nat)(μ:MN.Env)(s':af):Prop where
 ex:∃q r zq zr tq tr x4 x5 x6,μ=[qI p, qL n, qL q, qL r, x4, x5, x6]/\Fr s s'/\s.length<=q/\s.length<=r/\q≠r/\s'[q]?=some (.lst (.loc zq::tq))/\s'[r]?=some (.lst (.loc zr::tr))/\tq.length=i/\tr.length=i/\∀v∈ah.loc zr::tr,Kj p N s' v
theorem MR(hp:fJ p=true){A:_a}(ln:s[n]?=some (aV A))(hA:jY p A)(hN:A.length=N+1)(hl:N<=100)(hi:i<N){μ:MN.Env}(h:PwI p N n s i μ s'):
  ∃μ' kz,R3 (μ.set 4 (some (.int (1+(i:Int))))) s'=.nx μ' kz/\PwI p N n s (i+1) μ' kz:=by
 have hr:=aJ hp;have fL:0<p:=by lia
 have zG:¬ aO A % p=0:=by rw[hA.l1,V9 (by lia) (by lia)];lia
 obtain⟨q,r,zq,zr,tq,tr,x4,x5,x6,rfl,F,fq,fr,nqr,lq,lr,nq,nr,hv⟩:=h.ex;obtain⟨K,hK⟩:∃K:Int,K=1+(i:Int):=⟨_,rfl⟩
 rw[<-hK];show ∃μ' kz,R3 [qI p, qL n, qL q, qL r, qI K, x5, x6] s'=.nx μ' kz/\_
 -- So is parted
 obtain⟨ku,U,s1,e1,F1,l1,n1⟩:∃ku U s1,U8 [qI p, qL n, qL q, qL r, qI K, x5, x6] s'=.ok (.loc ku) s1/\Fr s' s1/\s1[ku]?=some (aV U)/\U.length<=100000:=by
  by_cases h1:i=0
  .obtain⟨k,s1,e,F1,_,l⟩:=NW (μ:=[some (.int p),some (.loc n),some (.loc q),some (.loc r),some (.int K),x5,x6]) (i:=0) (K:=p) (λ_=>rfl) (by lia) (by lia) s';have z:(K==1)=true:=by simp;lia
   refine⟨k,_,s1,?_,F1,l,by rw[Vv,VY];simp;lia⟩;unfold U8;generalize RZ 0=X at e⊢;simp only[aj,av,aH,aw,kJ,bj,aR,aQ,lX,dc,aK,aD,z,e]
  .have z:(K==1)=false:=by simp;lia
   have g:∀j:Nat,j<(ah.loc zr::tr).length->∃k R,bQ (.loc r) (.int (j:Int)) s'=.ok (.loc k) s'/\s'[k]?=some (aV R)/\Row p R/\R.length<=N:=λj hj=>by
    obtain⟨v,hw⟩:∃v,(ah.loc zr::tr)[j]?=some v:=⟨_,Vp hj⟩
    obtain⟨k,R,rfl,l,rw1,rl⟩:=hv v (Wc hw);exact⟨k,R,bT (aB lr) (L2.i_ hw),l,rw1,rl⟩
   obtain⟨k1,R1,g1,l1,rr1,rl1⟩:=g i (by rw[Vm];lia);obtain⟨k2,R2,g2,l2,rr2,rl2⟩:=g 1 (by rw[Vm];lia);have g1':bQ (.loc r) (.int (K-1)) s'=.ok (.loc k1) s':=by rw[show K-1=(i:Int) by lia];exact g1
   have g2':bQ (.loc r) (.int 1) s'=.ok (.loc k2) s':=g2;obtain⟨s1,k,e,F1,_,l⟩:=jx hp l1 l2 rr1 (by lia) (by lia);refine⟨k,_,s1,?_,F1,l,by have:=pY p R1 R2;lia⟩;unfold U8;generalize RZ 0=X;simp only[aj,av,aH,aw,kK,ay,ar,bj,aR,aQ,lX,az,aq,au,fI,dc,aK,aU,aD,z,g1',g2',e]
 obtain⟨s2,k1,k2,e2,F2,o1,o2,n12,c1,c2⟩:=gf hp (aB l1) (F1 _ _ (F _ _ ln)) hA.ne zG n1 (by lia);obtain⟨_,sr,slt,_,_⟩:=fH hp (as:=U) hA.ne zG;have Ki:=F1.trans F2;have lq2:=Ki _ _ lq;have lr2:=Ki _ _ lr;have a1:=ja (v:=.loc k1) lq2 (by rw[Vm,VB];lia);rw[Vz]at a1;have lr3:(s2.set q (.lst (.loc zq::(tq++[.loc k1]))))[r]?=some (.lst (.loc zr::tr)):=g9 lr2 nqr;have a2:=ja (v:=.loc k2) lr3 (by rw[Vm,VB];lia);rw[Vz]at a2;refine⟨[some (.int p),some (.loc n),some (.loc q),some (.loc r),some (.int K),some (.loc ku),some (.tup [.loc k1,.loc k2])],(s2.set q (.lst (.loc zq::(tq++[.loc k1])))).set r (.lst (.loc zr::(tr++[.loc k2]))),?_,q,r,zq,zr,tq++[.loc k1],tr++[.loc k2],_,_,_,rfl,((F.trans Ki).set fq _).set fr _,fq,fr,nqr,g9 (iw lq2) (W? nqr),iw lr3,by rw[Vv,nq];rfl,by rw[Vv,nr];rfl,λv mv=>?_⟩
 .unfold R3;generalize U8=X at e1⊢;simp only[aj,ax,aL,av,aH,aw,ay,ar,eO,bH,bj,az,aq,au,aG,b!,a!,aK,fP,aU,aD,Vn,Vt,kQ,uS,e1,e2,bK t_,bK Bq,oH lq2,a1,oH lr3,a2]
 .have:Kj p N s2 v:=by
   rcases VX.mp (show v∈(ah.loc zr::tr)++[.loc k2]from mv)with m|m
   .exact(hv v m).mono Ki
   .rw[VN.mp m];exact⟨k2,_,rfl,c2,sr,by lia⟩
  exact(this.set lq2).set lr3
theorem xI(hp:fJ p=true){A:_a}(ln:s[n]?=some (aV A))(hA:jY p A)(hN:A.length=N+1)(n1:1<=N)(hl:N<=100):
  ∃q r rs s',PM.d8 [.int p,.loc n] s=.ok (.tup [.loc q,.loc r]) s'/\Fr s s'/\s'[r]?=some (.lst rs)/\rs.length=N/\∀v∈rs,Kj p N s' v:=by
 have hr:=aJ hp;obtain⟨s1,e1,F1,l1,_⟩:=bD (s:=s) [];obtain⟨s2,e2,F2,l2,m2⟩:=bD (s:=s1) [.loc s.length];obtain⟨s3,e3,F3,l3,m3⟩:=bD (s:=s2) [.int 1];obtain⟨s4,e4,F4,l4,m4⟩:=bD (s:=s3) [.loc s2.length];have F:=F1.trans (F2.trans (F3.trans F4));have f1:=F1.len;obtain⟨L,hL⟩:∃L:Int,L=(A.length:Int):=⟨_,rfl⟩
 have kl:bF [.loc n] s4=.ok (.int L) s4:=by rw[bc (aB (F _ _ ln)),aI,hL]
 have rg:FA [.int 1,.int (L-1)] s4=.ok (cO 1 (N-1),λ_=>True) s4:=by rw[yB (by lia) (by lia) (by lia) (by lia),show(L-1-1).toNat=N-1 by lia]
 have I0:PwI p N n s 0 [qI p, qL n, qL s1.length, qL s3.length, qn, qn, qn] s4:=
  ⟨s1.length,s3.length,s.length,s2.length,[],[],none,none,none,rfl,F,f1,by lia,by lia,F4 _ _ (F3 _ _ l2),l4,rfl,rfl,λv mv=>by
   rw[VN.mp mv];exact⟨s2.length,[1],rfl,F4 _ _ l3,⟨rfl,λa ma=>by rw[VN.mp ma];lia⟩,n1⟩⟩
 obtain⟨μ',s5,ef,H⟩:=dN (g:=λ_=>True) (a:=aF 4) (body:=R3) (λi μ s'=>PwI p N n s i μ s') (cO 1 (N-1)) 0 _ s4 (by
  intro i u μ s' hu H;rw[V8]at H⊢;unfold cO at hu;have hi:i<N-1:=by have:=bx hu;rw[Vq,VW]at this;exact this
  rw[VM,Wd hi]at hu;have eu:=(VR hu).symm;subst eu;obtain⟨μ',kz,e,H'⟩:=MR hp ln hA hN hl (by lia) H;refine⟨trivial,μ.set 4 (some (.int (1+(i:Int)))),?_,μ',kz,.inl e,H'⟩;obtain⟨q,r,zq,zr,tq,tr,x4,x5,x6,rfl,_⟩:=H.ex;rfl) (λ_ _ _=>trivial) I0
 rw[V8]at H;unfold cO at H;rw[Vq,VW]at H;obtain⟨q,r,zq,zr,tq,tr,x4,x5,x6,rfl,F',fq,fr,nqr,lq,lr,nq,nr,hv⟩:=H.ex;refine⟨q,r,.loc zr::tr,s5,?_,F',lr,by rw[Vm];lia,hv⟩;have a1:a_ (aa (a_ ai) ai) [qI p, qL n, qn, qn, qn, qn, qn] s=.ok (.loc s1.length) s2:=by rw[du (A1 (v:=.loc s.length) (s1:=s1) (by rw[du (vs:=[]) (s1:=s) rfl (by decide),e1])) (by show 1<=1000;decide),e2]
 have a2:a_ (aa (a_ (aa cI ai)) ai) [qI p, qL n, qL s1.length, qn, qn, qn, qn] s2=.ok (.loc s3.length) s4:=by rw[du (A1 (v:=.loc s2.length) (s1:=s3) (by rw[du (vs:=[.int 1]) (s1:=s2) rfl (by decide),e3])) (by show 1<=1000;decide),e4]
 unfold PM.d8;rw[bb (np:=2) (us:=[ah.int p,.loc n]) rfl];show(aA (aM 2 (a_ (aa (a_ ai) ai))) (aA (aM 3 (a_ (aa (a_ (aa cI ai)) ai))) (aA (iM (gQ (aa cI (aa (ag iF (ak bF (aa bG ai)) cI) ai))) (aF 4) R3) (bM (gB (aa cQ (aa dJ ai)))))) [qI p, qL n, qn, qn, qn, qn, qn] s).fin=_;generalize R3=B at ef⊢;generalize a_ (aa (a_ ai) ai)=M1 at a1⊢;generalize a_ (aa (a_ (aa cI ai)) ai)=M2 at a2⊢;simp only[aj,ax,aL,a9,av,aH,aw,ay,ar,iG,bu,bH,iW,bj,az,aq,fX,au,aG,aZ,a!,gm,nX,fI,aU,aD,Vn,Vt,Vm,Vx,Nat.reduceAdd,VB,Nat.reduceLeDiff,↓reduceIte,a1,a2,kl,rg,ef]
abbrev U9:MB:=aA (aM 5 (ak PM.bB (aa bg (aa (ag bQ bG fT) (aa (RZ 4) (aa (iK cI) ai)))))) (fg (g6 dS dJ (aa (ak PM.d_ (aa j4 (aa (ak bF (aa bG ai)) ai))) ai)))
theorem vF(hp:fJ p=true){r:Nat}{rs:List ah}(lr:s[r]?=some (.lst rs))(nr:rs.length=N)(hv:∀v∈rs,Kj p N s v)(hl:N<=100){f:Nat}(hf:f<=N):
  ∃c cs s',PM.b9 [.int p,.loc r,.int (f:Int)] s=.ok (.loc c) s'/\Fr s s'/\s'[c]?=some (.lst cs)/\cs.length=N-f/\∀v∈cs,lI p N wB s' v:=by
 have hr:=aJ hp;have fL:0<p:=by lia
 obtain⟨s1,e1,F1,l1,_⟩:=bD (s:=s) [];obtain⟨c,hc⟩:∃c,c=s.length:=⟨_,rfl⟩
 rw[<-hc]at l1;obtain⟨L,hL⟩:∃L:Int,L=(N:Int):=⟨_,rfl⟩
 obtain⟨FI,hFI⟩:∃FI:Int,FI=(f:Int):=⟨_,rfl⟩
 rw[<-hFI];have kl:∀{s'},Fr s s'->bF [.loc r] s'=.ok (.int L) s':=λF=>by rw[bc (aB (F _ _ lr)),nr,hL]
 have rg:FA [.int FI,.int L] s1=.ok (cO FI (N-f),λ_=>True) s1:=by rw[yB (by lia) (by lia) (by lia) (by lia),show(L-FI).toNat=N-f by lia]
 obtain⟨μ',s2,ef,cs,F2,l2,n2,v2,x4,x5,rfl⟩:=dN (g:=λ_=>True) (a:=aF 4) (body:=U9) (λi μ s'=>∃cs,Fr s s'/\s'[c]?=some (.lst cs)/\cs.length=i/\(∀v∈cs,lI p N (·≠c) s' v)/\∃x4 x5,μ=[qI p, qL r, qI FI, qL c, x4, x5]) (cO FI (N-f)) 0 [qI p, qL r, qI FI, qL c, qn, qn] s1 (by
  rintro i u μ s' hu ⟨cs,F,lc,nc,vc,x4,x5,rfl⟩;rw[V8]at nc⊢;unfold cO at hu;have hi:i<N-f:=by have:=bx hu;rw[Vq,VW]at this;exact this
  rw[VM,Wd hi]at hu;have eu:=(VR hu).symm;dsimp only at eu;subst eu;obtain⟨K,hK⟩:∃K:Int,K=FI+(i:Int):=⟨_,rfl⟩
  rw[<-hK];obtain⟨j,hj⟩:∃j:Nat,K=(j:Int):=⟨f+i,by lia⟩
  obtain⟨v,hw⟩:∃v,rs[j]?=some v:=⟨_,Vp (by lia)⟩
  obtain⟨k,R,rfl,l,rR,wR⟩:=hv v (Wc hw);have b1:bQ (.loc r) (.int K) s'=.ok (.loc k) s':=bT (aB (F _ _ lr)) (by rw[hj];exact L2.i_ hw);obtain⟨ku,s3,b2,F3,_,l3⟩:=NW (μ:=[some (.int p),some (.loc r),some (.int FI),some (.loc c),some (.int K),x5]) (i:=4) (K:=K) (λ_=>rfl) (by lia) (by lia) s';have lU:(List.replicate K.toNat (0:Int)++[1]).length<=N:=by rw[Vv,VY,V3];lia
  generalize List.replicate K.toNat (0:Int)++[1]=U at l3 lU;obtain⟨s4,k4,b4,F4,_,l4⟩:=k? hp (F3 _ _ (F _ _ l)) l3 (by lia) (by lia);have lC:(mI p R U).length<=N:=by have:=vh p R U;lia
  have rC:Row p (mI p R U):=Row.of fL _;have CB:=F.trans (F3.trans F4);obtain⟨g5,k5,b5,o5,l5⟩:=iP (L:=L) (aB l4) (by lia) (by lia);obtain⟨s5,hs5⟩:∃s5,s5=s4++g5:=⟨_,rfl⟩
  have F5:Fr s4 s5:=by rw[hs5];exact Fr.app _ _
  rw[<-hs5]at b5 l5;have F05:=F3.trans (F4.trans F5);have lc5:=F05 _ _ lc;have a6:=ja (v:=.loc k5) lc5 (by rw[VB];lia);have Rw:=bx lc;have f34:=(F3.trans F4).len;refine⟨trivial,_,rfl,[qI p, qL r, qI FI, qL c, qI K, qL k4],s5.set c (.lst (cs++[.loc k5])),.inl ?_,cs++[.loc k5],(F.trans F05).set (by lia) _,iw lc5,by rw[Vv,nc];rfl,λv mv=>?_,_,_,rfl⟩
  .show U9 [qI p, qL r, qI FI, qL c, qI K, x5] s'=_;unfold U9;have lcA:=F3.trans F4 _ _ lc;generalize RZ 4=X at b2⊢;simp only[aj,ax,aL,av,aH,aw,ay,ar,eO,bH,bj,az,aq,au,dz,gk,aG,b!,a!,aK,aU,aD,Vn,Vt,kQ,uS,b1,b2,b4,kl CB,oH lcA,b5,a6]
  .have:lI p N (·≠c) s5 v:=by
    rcases VX.mp mv with m|m
    .exact(vc v m).mono F05
    .rw[VN.mp m];refine⟨k5,_,rfl,by lia,l5,by rw[Vv,VY];lia,λx mx=>?_⟩;rcases VX.mp mx with mx|mx
     .exact rC.J5 x mx
     .rw[(List.mem_replicate.mp mx).2];lia
   exact this.set (λ_ h=>h) _) (λ_ _ _=>trivial) ⟨[],F1,l1,rfl,(λv m=>by cases m),_,_,rfl⟩
 rw[V8]at n2;unfold cO at n2;rw[Vq,VW]at n2;refine⟨c,cs,s2,?_,F2,l2,n2,λv mv=>(v2 v mv).any⟩;have a1:a_ ai [qI p, qL r, qI FI, qn, qn, qn] s=.ok (.loc c) s1:=by rw[du (vs:=[]) (s1:=s) rfl (by decide),e1,hc]
 unfold PM.b9;rw[bb (np:=3) (us:=[ah.int p,.loc r,.int FI]) rfl];show(aA (aM 3 (a_ ai)) (aA (iM (gQ (aa cQ (aa (ak bF (aa bG ai)) ai))) (aF 4) U9) (bM dJ)) [qI p, qL r, qI FI, qn, qn, qn] s).fin=_;generalize U9=B at ef⊢;generalize a_ ai=M1 at a1⊢;simp only[aj,ax,aL,a9,ay,ar,bu,bH,iW,az,aq,au,aG,aZ,a!,gm,nX,aK,aU,aD,Vn,Vt,a1,kl F1,rg,ef]
end
abbrev Cr:=Nat×List Int
def y_(q:Cr):ah:=.loc q.1
structure CC(s:af)(c:Nat)(ps:List Cr):Prop where
 l:s[c]?=some (.lst (ps.map y_))
 r:∀q∈ps,s[q.1]?=some (aV q.2)
theorem CC.mono{s:af}{c:Nat}{ps:List Cr}(h:CC s c ps)(F:Fr s s'):CC s' c ps:=⟨F _ _ h.l,λq m=>F _ _ (h.r q m)⟩
theorem CC.ne{s:af}{c:Nat}{ps:List Cr}(h:CC s c ps)(hk:s[k]?=some (aV R))(nR:R≠[]):c≠k:=by
 rintro rfl;have:=h.l;rw[hk]at this;cases R with
 |nil=>exact nR rfl
 |cons x R=>
  cases ps with
  |nil=>cases this
  |cons q ps=>cases this
theorem CC.put{s:af}{c:Nat}{ps qs:List Cr}(h:CC s c ps)(hq:∀q∈qs,s[q.1]?=some (aV q.2))(n:∀q∈ps++qs,q.2≠[]):CC (s.set c (.lst ((ps++qs).map y_))) c (ps++qs):=
 ⟨iw h.l,λq m=>by
  have hr:s[q.1]?=some (aV q.2):=by
   rcases VX.mp m with m|m
   .exact h.r q m
   .exact hq q m
  exact g9 hr (h.ne hr (n q m))⟩
theorem JO{s:af}(h1:s[n]?=some (.lst us))(h2:s[m]?=some (.lst ws))(hl:us.length+ws.length<=1000):i? (.loc n) [.loc m] s=.ok .cH (s.set n (.lst (us++ws))):=by
 have hl':us.length+ws.length<=sizeLine:=by rw[VB];lia
 simp only[i?,h1,h2,VC hl']
section
variable{N:Nat}{s:af}
abbrev paB:MB:=aA (aM 6 (ak PM.cV (aa bg (aa bG (aa (ak PM.bB (aa bg (aa dJ (aa (a_ (aa j4 ai)) (aa (iK cI) ai))))) ai))))) (mz (dY (ag sO (ak bF (aa nW ai)) cI)) (fg (g6 dS fT (aa nW ai))) dh)
structure PaI(p:Int)(A B:_a)(s:af)(c:Nat)(i:Nat)(s':af)(ps:List Cr):Prop where
 fr:Fr s s'
 rs:CC s' c ps
 ln:ps.length<=i
 mn:∀q∈ps,jY p q.2/\2<=q.2.length
 dv:∀q∈ps,∃x:aE p,aN A=aN q.2*x
 nm:∀q∈ps,∃a:Nat,a<i/\∃x:aE p,aN (mI p B [(a:Int)])=aN q.2*x
 cp:ps.Pairwise λa b=>ee (aN a.2:aE p) (aN b.2)
theorem MS(hp:fJ p=true){A:_a}{b c:Nat}(ln:s[n]?=some (aV A))(hA:jY p A)(hl:A.length<=1000)(lb:s[b]?=some (aV B))(lB:B.length<=1000)(fc:s.length<=c)(hi:(i:Int)<p){ps:List Cr}(h:PaI p A B s c i s' ps){x5:Option ah}:
  ∃y6 kz O9,paB [qI p, qL n, qL m, qL b, qL c, qI (i:Int), x6] s'=.nx [qI p, qL n, qL m, qL b, qL c, qI (i:Int), y6] kz/\PaI p A B s c (i+1) kz O9:=by
 have hr:=aJ hp;have fL:0<p:=by lia
 obtain⟨K,hK⟩:∃K:Int,K=(i:Int):=⟨_,rfl⟩
 rw[<-hK];obtain⟨s1,e1,F1,l1,_⟩:=bD (s:=s') [.int K];obtain⟨s2,k2,b2,F2,_,l2⟩:=k? hp (F1 _ _ (h.fr _ _ lb)) (show s1[s'.length]?=some (aV [K])from l1) (by lia) (by show 1<=100000;decide);have lD:(mI p B [K]).length<=1001:=by have:=vh p B [K];rw[V3]at this;lia
 obtain⟨s3,k3,G,b3,F3,_,l3,gG,_⟩:=yS hp (F2 _ _ (F1 _ _ (h.fr _ _ ln))) l2 hA.row (Row.of fL _) (.inl hA.ne) (by lia) (by lia);obtain⟨mG,d1,d2,_⟩:=q9 gG;have F:=F1.trans (F2.trans F3);obtain⟨L,hL⟩:∃L:Int,L=(G.length:Int):=⟨_,rfl⟩
 have kl:bF [.loc k3] s3=.ok (.int L) s3:=by rw[bc (aB l3),aI,hL]
 have nm1:∀q∈ps,∃a:Nat,a<i+1/\∃x:aE p,aN (mI p B [(a:Int)])=aN q.2*x:=λq mq=>by obtain⟨a,ha,x⟩:=h.nm q mq;exact⟨a,by lia,x⟩
 have ln1:=h.ln;by_cases hg:1<G.length
 .have z:decide ((1:Int)<L)=true:=VZ (by lia);have Ke:=h.rs.mono F;have a4:=ja (v:=.loc k3) Ke.l (by rw[Vq,VB];lia);have e4:ps.map y_++[.loc k3]=(ps++[(k3,G)]).map y_:=by rw[Ws];rfl
  rw[e4]at a4;have mn1:∀q∈ps++[(k3,G)],jY p q.2/\2<=q.2.length:=λq mq=>by
   rcases VX.mp mq with mq|mq
   .exact h.mn q mq
   .rw[VN.mp mq];exact⟨mG,hg⟩
  refine⟨some (.loc k3),_,ps++[(k3,G)],by simp only[aj,ax,aL,av,aH,aw,ay,ar,j!,eO,dC,bH,bj,aR,aQ,az,aq,ic,au,dz,gk,aG,b!,bh,a!,fi,aK,aU,aD,Vn,Vt,Vm,Vx,Nat.reduceAdd,VB,Nat.reduceLeDiff,↓reduceIte,kQ,uS,<-e1,b2,b3,kl,z,oH Ke.l,a4],(h.fr.trans F).set fc _,Ke.put (λq mq=>by rw[VN.mp mq];exact l3) λq mq=>(mn1 q mq).1.ne,by rw[Vv,V3];lia,mn1,λq mq=>?_,λq mq=>?_,?_⟩
  .rcases VX.mp mq with mq|mq
   .exact h.dv q mq
   .rw[VN.mp mq];exact⟨_,d1⟩
  .rcases VX.mp mq with mq|mq
   .exact nm1 q mq
   .rw[VN.mp mq];exact⟨i,by lia,_,by rw[<-hK];exact d2⟩
  .refine WS.mpr ⟨h.cp,WZ ..,λq mq r mr=>?_⟩;rw[VN.mp mr];obtain⟨a,ha,x,e⟩:=h.nm q mq;exact JN hp (a:=(a:Int)) (b:=K) (by lia) (by lia) (by lia) e d2
 .have z:decide ((1:Int)<L)=false:=VT (by lia);exact⟨some (.loc k3),s3,ps,by simp only[aj,ax,aL,av,aH,aw,ay,ar,j!,bS,bH,bj,aR,aQ,az,aq,ic,au,dz,gk,aG,bN,bh,a!,fi,aK,aU,aD,Vn,Vt,Vm,Vx,Nat.reduceAdd,VB,Nat.reduceLeDiff,↓reduceIte,<-e1,b2,b3,kl,z],h.fr.trans F,h.rs.mono F,by lia,h.mn,h.dv,nm1,h.cp⟩
theorem A9(hp:fJ p=true){A:_a}(ln:s[n]?=some (aV A))(hA:jY p A)(hl:A.length<=1000)(hm:lI p N wB s (.loc m))(hN:N<=1000):
  ∃c ps s',PM.dH [.int p,.loc n,.loc m] s=.ok (.loc c) s'/\Fr s s'/\CC s' c ps/\Br p A (ps.map (·.2)):=by
 have hr:=aJ hp;have fL:0<p:=by lia
 have zG:¬ aO A % p=0:=by rw[hA.l1,V9 (by lia) (by lia)];lia
 obtain⟨k,R,ek,_,lR,wR,_⟩:=hm;cases ek;have c1:=dq (iO hp) (aB lR) (by rw[VB];lia);obtain⟨C,hC⟩:∃C,C=cm (R.map (·.fmod p)):=⟨_,rfl⟩
 have lC:C.length<=N:=by have:=gZ (R.map (·.fmod p));rw[Vq]at this;rw[hC];lia
 rw[<-hC]at c1;obtain⟨s1,e1,F1,l1,_⟩:=bD (s:=s) (C.map ah.int);rw[<-e1]at c1;obtain⟨s2,q1,b,c2,F2,_,_,_,_,lb⟩:=gf hp (aB l1) (F1 _ _ ln) hA.ne zG (by lia) (by lia);have lB:=(fH hp (as:=C) hA.ne zG).2.2.1;obtain⟨B,hB⟩:∃B,B=kY p C A:=⟨_,rfl⟩
 rw[<-hB]at lb lB;obtain⟨s3,e3,F3,l3,_⟩:=bD (s:=s2) [];have F:=F1.trans (F2.trans F3);have Ki:=F1.trans F2;obtain⟨c,hc⟩:∃c,c=s2.length:=⟨_,rfl⟩
 rw[<-hc]at l3;obtain⟨P,hP⟩:∃P:Nat,p=(P:Int):=⟨p.toNat,by lia⟩
 obtain⟨μ',s4,ef,ps,H,x5,x6,rfl⟩:=dN (g:=λ_=>True) (a:=aF 5) (body:=paB) (λi μ s'=>∃ps,PaI p A B s2 c i s' ps/\∃x5 x6,μ=[qI p, qL n, qL m, qL b, qL c, x5, x6]) ((fw 0 P).map ah.int) 0 [qI p, qL n, qL m, qL b, qL c, qn, qn] s3 (by
  rintro i u μ s' hu ⟨ps,H,x5,x6,rfl⟩;rw[V8]at H⊢;have hi:i<P:=by have:=bx hu;rw[aI,ke]at this;exact this
  have eu:u=.int (i:Int):=by rw[VM]at hu;unfold fw at hu;rw[VM,Wd hi]at hu;rw[<-VR hu];show ah.int (0+(i:Int))=_;rw[X2]
  subst eu;obtain⟨y6,kz,O9,e,H'⟩:=MS (m:=m) (x5:=x5) (x6:=x6) hp (Ki _ _ ln) hA hl lb (by lia) (Ye hc.symm) (by lia) H;exact⟨trivial,_,rfl,_,kz,.inl e,O9,H',_,_,rfl⟩) (λ_ _ _=>trivial) ⟨[],⟨F3,⟨l3,λq m=>by cases m⟩,VD _,(λq m=>by cases m),(λq m=>by cases m),(λq m=>by cases m),.nil⟩,_,_,rfl⟩
 refine⟨c,ps,s4,?_,Ki.trans H.fr,H.rs,λG mG=>?_,λG mG=>?_,Wt.mpr H.cp⟩
 .have a3:a_ ai [qI p, qL n, qL m, qL b, qn, qn, qn] s2=.ok (.loc c) s3:=by rw[du (vs:=[]) (s1:=s2) rfl (by decide),e3,hc]
  unfold PM.dH;rw[bb (np:=3) (us:=[ah.int p,.loc n,.loc m]) rfl];show(aA _ (aA (aM 4 (a_ ai)) (aA (iM (ip (aa bg ai)) (aF 5) paB) (bM fT))) [qI p, qL n, qL m, qn, qn, qn, qn] s).fin=_;generalize paB=B' at ef⊢;generalize a_ ai=M1 at a3⊢;simp only[aj,ax,aL,a9,av,aH,aw,ay,ar,bu,bH,iW,bj,az,aq,au,aG,aZ,a!,gm,kN,aK,aU,aD,Vn,Vt,c1,c2,bK Bq,a3,ML hP (by lia),ef]
 .obtain⟨q,mq,rfl⟩:=Wb.mp mG;exact H.mn q mq
 .obtain⟨q,mq,rfl⟩:=Wb.mp mG;exact H.dv q mq
end
section
variable{N:Nat}{s:af}{A:_a}
abbrev spB:MB:=fg (g6 i? dJ (aa (ak PM.dH (aa bg (aa fT (aa cQ ai)))) ai))
theorem JP(hp:fJ p=true)(hA:Row p A)(nA:A≠[])(hl:A.length<=500){ps:List Cr}(hr:CC s n ps)(hf:Br p A (ps.map (·.2)))(hm:lI p N wB s (.loc m))(hN:N<=1000):
  ∃c qs s',PM.jr [.int p,.loc n,.loc m] s=.ok (.loc c) s'/\Fr s s'/\CC s' c qs/\Br p A (qs.map (·.2)):=by
 have hpr:=aJ hp;have fL:0<p:=by lia
 obtain⟨s1,e1,F1,l1,_⟩:=bD (s:=s) [];obtain⟨c,hc⟩:∃c,c=s.length:=⟨_,rfl⟩
 rw[<-hc]at l1;obtain⟨μ',s2,ef,qs,F2,r2,S2,x4,rfl⟩:=dN (g:=λaC=>ao aC n=some (ps.map y_)) (a:=aF 4) (body:=spB) (λi μ s'=>∃qs,Fr s s'/\CC s' c qs/\JM p (ps.map (·.2)) i (qs.map (·.2))/\∃x4,μ=[qI p, qL n, qL m, qL c, x4]) (ps.map y_) 0 [qI p, qL n, qL m, qL c, qn] s1 (by
  rintro i u μ s' hu ⟨qs,F,rs,S,x4,rfl⟩;rw[V8]at S⊢;rw[VM]at hu;obtain⟨q,hq,rfl⟩:=YJ.mp hu;have mq:=Wc hq;have hG:(ps.map (·.2))[i]?=some q.2:=by rw[VM,hq];rfl
  have mG:q.2∈ps.map (·.2):=Wc hG;have lq:=hf.len fL hA nA _ mG;obtain⟨c',O9,kz,b1,F',r',f'⟩:=A9 (N:=N) hp (F _ _ (hr.r q mq)) (hf.mn _ mG).1 (by lia) (hm.mono F) hN;have S':=S.put hG hf.cp f';rw[<-Ws]at S';have fA:=S'.fct (A:=A) hf.dv;have GF:=fA.GF fL hA nA;rw[Vq,Vv]at GF;have xi:=rs.mono F';have a1:=JO xi.l r'.l (by rw[Vq,Vq];lia);rw[<-Ws]at a1;have U6:=rs.l;refine⟨aB (F _ _ hr.l),_,rfl,[qI p, qL n, qL m, qL c, qL q.1],kz.set c (.lst ((qs++O9).map y_)),.inl ?_,qs++O9,(F.trans F').set (Ye hc.symm) _,xi.put r'.r (λx mx=>(S'.mn _ (W7 mx)).1.ne),S',_,rfl⟩;show spB [qI p, qL n, qL m, qL c, qL q.1] s'=_;simp only[aj,ax,ay,ar,eO,az,aq,au,b!,aK,aU,aD,kQ,uS,oH U6,b1,a1]) (λ_ s'⟨_,F,_⟩=>aB (F _ _ hr.l)) ⟨[],F1,⟨l1,λq m=>by cases m⟩,JM.nil,_,rfl⟩
 refine⟨c,qs,s2,?_,F2,r2,S2.fct hf.dv⟩;have a3:a_ ai [qI p, qL n, qL m, qn, qn] s=.ok (.loc c) s1:=by rw[du (vs:=[]) (s1:=s) rfl (by decide),e1,hc]
 unfold PM.jr;rw[bb (np:=3) (us:=[ah.int p,.loc n,.loc m]) rfl];show(aA (aM 3 (a_ ai)) (aA (iM (gN bG) (aF 4) spB) (bM dJ)) [qI p, qL n, qL m, qn, qn] s).fin=_;generalize spB=B' at ef⊢;generalize a_ ai=M1 at a3⊢;simp only[aj,ax,aL,a9,bu,bH,iW,aG,aZ,a!,gm,ej,aU,aD,Vn,Vt,a3,dG (aB (F1 _ _ hr.l)),ef]
theorem JQ(hp:fJ p=true)(ln:s[n]?=some (aV A))(hA:jY p A)(hN:A.length=N+1)(n1:1<=N)(hl:N<=100):
  ∃c qs s',PM.fu [.int p,.loc n] s=.ok (.loc c) s'/\Fr s s'/\CC s' c qs/\Br p A (qs.map (·.2)):=by
 have hpr:=aJ hp;obtain⟨q,r,rs,s1,b1,F1,l1,m1,v1⟩:=xI hp ln hA hN n1 hl;obtain⟨s2,e2,F2,l2,_⟩:=bD (s:=s1) [.loc n];obtain⟨c3,cs,s3,b3,F3,l3,m3,v3⟩:=vF (f:=0) hp (F2 _ _ l1) m1 (λv mv=>(v1 v mv).mono F2) hl (We _);obtain⟨a4,zs,s4,b4,F4,_,l4,m4,v4⟩:=MQ hp l3 v3 (by lia) (by lia);obtain⟨L,hL⟩:∃L:Int,L=(A.length:Int):=⟨_,rfl⟩
 have sA:=F1.trans (F2.trans F3);have CB:=sA.trans F4;have kl:bF [.loc n] s3=.ok (.int L) s3:=by rw[bc (aB (sA _ _ ln)),aI,hL]
 rw[show((N:Nat):Int)=L-1 by lia]at b4;have b3':PM.b9 [.int p,.loc r,.int 0] s2=.ok (.loc c3) s3:=b3;obtain⟨c2,zT⟩:∃c2,c2=s1.length:=⟨_,rfl⟩
 rw[<-zT]at l2;obtain⟨μ',s5,ef,c,qs,F5,r5,f5,x4,rfl⟩:=dN (g:=λaC=>ao aC a4=some zs) (a:=aF 4) (body:=aM 3 (ak PM.jr (aa bg (aa dJ (aa fT ai))))) (λi μ s'=>∃c qs,Fr s4 s'/\CC s' c qs/\Br p A (qs.map (·.2))/\∃x4,μ=[qI p, qL n, qL r, qL c, x4]) zs 0 [qI p, qL n, qL r, qL c2, qn] s4 (by
  rintro i u μ s' hu ⟨c,qs,F,rs,f,x4,rfl⟩;have hM:=(v4 u (Wc hu)).any.mono F;obtain⟨k,R,rfl,hR⟩:=hM;obtain⟨c',qs',kz,b,F',r',f'⟩:=JP hp hA.row hA.ne (by lia) rs f ⟨k,R,rfl,hR⟩ (by lia);exact⟨aB (F _ _ l4),_,rfl,[qI p, qL n, qL r, qL c', qL k],kz,.inl (by simp only[aj,ax,ay,ar,bH,az,aq,au,a!,aK,aU,aD,Vn,Vt,b]),c',qs',F.trans F',r',f',_,rfl⟩) (λ_ s'⟨_,_,F,_⟩=>aB (F _ _ l4)) ⟨c2,[(n,A)],Fr.refl _,⟨F4 _ _ (F3 _ _ l2),λq mq=>by rw[VN.mp mq];exact CB _ _ ln⟩,Br.self hA (by lia),_,rfl⟩
 refine⟨c,qs,s5,?_,CB.trans F5,r5,f5⟩;have a2:a_ (aa bG ai) [qI p, qL n, qL r, qn, qn] s1=.ok (.loc c2) s2:=by rw[du (A1 (v:=.loc n) (s1:=s1) rfl) (by show 1<=1000;decide),e2,zT]
 unfold PM.fu;rw[bb (np:=2) (us:=[ah.int p,.loc n]) rfl];generalize aM 3 (ak PM.jr (aa bg (aa dJ (aa fT ai))))=B' at ef⊢;generalize a_ (aa bG ai)=M1 at a2⊢;simp only[aj,ax,aL,a9,av,aH,aw,ay,ar,bu,bH,iW,bj,az,aq,au,aG,aZ,a!,gm,ej,fI,aK,aU,aD,Vs,VE,Vz,Vu,Vy,Vr,Vn,Vt,Nat.reduceSub,b1,bK Bq,a2,b3',kl,b4,dG (aB l4),ef]
end
abbrev Fa:=Cr×Int
def vG(f:Fa):ah:=.tup [.loc f.1.1,.int f.2]
structure Kk(s:af)(c:Nat)(fs:List Fa):Prop where
 l:s[c]?=some (.lst (fs.map vG))
 r:∀f∈fs,s[f.1.1]?=some (aV f.1.2)
theorem Kk.mono{s:af}{c:Nat}{fs:List Fa}(h:Kk s c fs)(F:Fr s s'):Kk s' c fs:=⟨F _ _ h.l,λq m=>F _ _ (h.r q m)⟩
theorem Kk.ne{s:af}{c:Nat}{fs:List Fa}(h:Kk s c fs)(hk:s[k]?=some (aV R))(nR:R≠[]):c≠k:=by
 rintro rfl;have:=h.l;rw[hk]at this;cases R with
 |nil=>exact nR rfl
 |cons x R=>
  cases fs with
  |nil=>cases this
  |cons q fs=>cases this
theorem Kk.put{s:af}{c:Nat}{fs gs:List Fa}(h:Kk s c fs)(hq:∀f∈gs,s[f.1.1]?=some (aV f.1.2))(n:∀f∈fs++gs,f.1.2≠[]):Kk (s.set c (.lst ((fs++gs).map vG))) c (fs++gs):=
 ⟨iw h.l,λq m=>by
  have hr:s[q.1.1]?=some (aV q.1.2):=by
   rcases VX.mp m with m|m
   .exact h.r q m
   .exact hq q m
  exact g9 hr (h.ne hr (n q m))⟩
section
variable{s:af}{A:_a}{M:ji}
def kyV(f:Fa):ah:=.tup [.int (f.1.2.length:Int),.loc f.1.1]
theorem Rf{fs:List Fa}(h:∀f∈fs,s[f.1.1]?=some (aV f.1.2))(ys:List ah):Ck PM.cW (fs.map vG) ys s=.ok (ys++fs.map kyV) s:=by
 induction fs generalizing ys with
 |nil=>rw[VE,VE,V7];rfl
 |cons f fs ih=>
  have l:=h f (VV ..);obtain⟨L,hL⟩:∃L:Int,L=(f.1.2.length:Int):=⟨_,rfl⟩
  have kl:bF [.loc f.1.1] s=.ok (.int L) s:=by rw[bc (aB l),aI,hL]
  have e:PM.cW [some (.tup [.loc f.1.1,.int f.2])] s=.ok (.tup [.int L,.loc f.1.1]) s:=by simp only[PM.cW,aj,av,aH,aw,ay,ar,iG,bj,az,aq,fX,au,fP,Vm,Vx,Nat.reduceAdd,VB,Nat.reduceLeDiff,↓reduceIte,bK t_,kl]
  rw[Vs,Vs];unfold Ck;show(match PM.cW [some (.tup [.loc f.1.1,.int f.2])] s with
   |.ok y st1=>Ck PM.cW (fs.map vG) (ys++[y]) st1
   |_=>.bad)=_
  rw[e];dsimp only;rw[ih (λg m=>h g (VP _ m)),VU];rw[hL];rfl
theorem MU{fs:List Fa}(h:∀f∈fs,s[f.1.1]?=some (aV f.1.2)):kW s (fs.map kyV)=some (fs.map λf=>(f.1.2.length:Int)::f.1.2):=by
 induction fs with
 |nil=>rfl
 |cons f fs ih=>
  have l:=h f (VV ..);rw[Vs,Vs];show kW s (.tup [.int (f.1.2.length:Int),.loc f.1.1]::fs.map kyV)=_;unfold kW;rw[aB l];dsimp only;rw[IE,ih (λg m=>h g (VP _ m))]
theorem JR{c:Nat}{fs:List Fa}{μ:MN.Env}{m:ME}(hm:m μ s=.ok (.loc c) s)(h:Kk s c fs)(nd:(fs.map (·.1.2)).Nodup)(hl:fs.length<64)(hT:jV s M.own M.line M.col M.S.qual)(yF:M.S.ps.length=1):∃s',qM M PM.cW m μ s=.ok (.loc s.length) s'/\Fr s s'/\(fs=[]->s'[s.length]?=some (.lst [])):=by
 refine⟨s++[.lst ((((fs.map vG).zip (fs.map λf=>(f.1.2.length:Int)::f.1.2)).mergeSort Gz).map (·.1))],?_,Fr.app _ _,λe=>by rw[e,VE,VE,List.zip_nil_left,List.mergeSort_nil];exact bf s []⟩;unfold qM;rw[hm];dsimp only[cz.bind];rw[VC ⟨hT,yF⟩,aB h.l];dsimp only;rw[VC (by rw[Vq];exact hl),Rf h.r,Vu];dsimp only[cz.bind];unfold IW;rw[MU h.r];dsimp only;rw[VC];have:(fs.map λf=>(f.1.2.length:Int)::f.1.2)=(fs.map (·.1.2)).map λR=>(R.length:Int)::R:=by rw[V_];rfl
 rw[this];exact Wt.mpr (nd.imp λh e=>h (Xs e).2)
abbrev faB:MB:=fg (g6 i? dJ (aa (c_ 1 [5] (gN (ak PM.fu (aa bg (aa fT ai)))) (aF 0) bI (gB (aa bg (aa bG ai)))) ai))
theorem vH(hp:fJ p=true)(ln:s[n]?=some (aV A))(hA:Row p A)(nA:A≠[])(hl:A.length<=60)(hT:jV s M.own M.line M.col M.S.qual)(yF:M.S.ps.length=1):
  ∃c s',PM.fR M [.int p,.loc n] s=.ok (.tup [.int (aO A),.loc c]) s'/\Fr s s'/\(A.length=1->s'[c]?=some (.lst [])):=by
 have hpr:=aJ hp;have fL:0<p:=by lia
 obtain⟨g0,b0⟩:=gY hp s;obtain⟨s0,GC⟩:∃s0,s0=s++g0:=⟨_,rfl⟩
 have F0:Fr s s0:=by rw[GC];exact Fr.app _ _
 rw[<-GC]at b0;obtain⟨s1,kl,es,b1,O⟩:=p5 hp (F0 _ _ ln) hA nA (by lia);obtain⟨t,ht,P⟩:=O.pr;obtain⟨rG,nG,lG,eG⟩:=vi (by lia) hA nA ht;obtain⟨A',hA'⟩:∃A',A'=mulR p t A:=⟨_,rfl⟩
 rw[<-hA']at P rG nG lG eG;obtain⟨s2,e2,F2,l2,_⟩:=bD (s:=s1) [];obtain⟨c,hc⟩:∃c,c=s1.length:=⟨_,rfl⟩
 rw[<-hc]at l2;have dvA:∀G∈es.map (·.2.2),∃x:aE p,aN A'=aN G*x:=λG mG=>by obtain⟨e,me,rfl⟩:=Wb.mp mG;have mp:(e.1,e.2.2)∈JD es:=W7 me;obtain⟨x,hx⟩:=uf (p:=p) mp (P.p1 _ mp);exact⟨x,P.eq.trans hx⟩
 have cpA:(es.map (·.2.2)).Pairwise λa b=>ee (aN a:aE p) (aN b):=by have:=P.c2;unfold JD at this;rw[Wt]at this⊢;exact this
 have Ki:=O.fr.trans F2;obtain⟨μ',s3,ef,fs,F3,r3,S3,x4,x5,rfl⟩:=dN (g:=λaC=>ao aC kl=some (es.map NU)) (a:=iL [aF 4,aF 5]) (body:=faB) (λi μ s'=>∃fs,Fr s1 s'/\Kk s' c fs/\JM p (es.map (·.2.2)) i (fs.map (·.1.2))/\∃x4 x5,μ=[qI p, qL n, some (.tup [.int (aO A),.loc kl]), qL c, x4, x5]) (es.map NU) 0 [qI p, qL n, some (.tup [.int (aO A),.loc kl]), qL c, qn, qn] s2 (by
  rintro i u μ s' hu ⟨fs,F,rs,S,x4,x5,rfl⟩;rw[V8]at S⊢;rw[VM]at hu;obtain⟨e,he,rfl⟩:=YJ.mp hu;have me:=Wc he;have hG:(es.map (·.2.2))[i]?=some e.2.2:=by rw[VM,he];rfl
  have mp:(e.1,e.2.2)∈JD es:=W7 me;obtain⟨mG,lG2⟩:=P.mn _ mp;have lE:=(P.bd fL rG nG mp).2;obtain⟨N,hN⟩:∃N,e.2.2.length=N+1:=⟨e.2.2.length-1,by show e.2.2.length=e.2.2.length-1+1;have:2<=e.2.2.length:=lG2;lia⟩
  have l2':2<=e.2.2.length:=lG2;have lE':e.2.2.length<=A'.length:=lE;obtain⟨cw,qs,kz,b,F',r',f'⟩:=JQ hp (F _ _ (O.re e me).2.2) mG hN (by lia) (by lia);obtain⟨Y,hY⟩:∃Y:Int,Y=(e.1:Int):=⟨_,rfl⟩
  have U_:=og (g:=λaC=>ao aC cw=some (qs.map y_)) (a:=aF 0) (e:=gB (aa bg (aa bG ai))) (st:=kz) (aB r'.l) (λτ=>∃z,τ=[z,some (.int Y)]) y_ (λq=>vG (q,Y)) qs [none,some (.int Y)] [] ⟨_,rfl⟩ (by
   rintro q mq τ ⟨z,rfl⟩;exact⟨[some (.loc q.1),some (.int Y)],rfl,⟨_,rfl⟩,by simp only[aj,ay,ar,iG,az,aq,fX,aK,aU,aD,Vm,Vx,Nat.reduceAdd,VB,Nat.reduceLeDiff,↓reduceIte,vG]⟩)
  obtain⟨gs,hgs⟩:∃gs:List Fa,gs=qs.map λq=>(q,Y):=⟨_,rfl⟩
  rw[Vu,show(qs.map λq=>vG (q,Y))=gs.map vG from by rw[hgs,V_];rfl]at U_;have gsr:gs.map (·.1.2)=qs.map (·.2):=by rw[hgs,V_];rfl
  have S':=S.put hG cpA f';rw[<-gsr,<-Ws]at S';have GF:=(S'.fct (A:=A') dvA).GF fL rG nG;rw[Vq,Vv]at GF;obtain⟨s4,e4,F4,l4,_⟩:=bD (s:=kz) (gs.map vG);have xi:=rs.mono (F'.trans F4);have a1:=JO xi.l l4 (by rw[Vq,Vq];lia);rw[<-Ws]at a1;have lq:qs.length=gs.length:=by rw[hgs,Vq]
  have ec:c_ 1 [5] (gN (ak PM.fu (aa bg (aa fT ai)))) (aF 0) bI (gB (aa bg (aa bG ai))) [qI p, qL n, some (.tup [.int (aO A),.loc kl]), qL c, qL e.2.1, qI Y] s'=.ok (.loc kz.length) s4:=by
   have e0:ak PM.fu (aa bg (aa fT ai)) [qI p, qL n, some (.tup [.int (aO A),.loc kl]), qL c, qL e.2.1, qI Y] s'=.ok (.loc cw) kz:=by rw[jM (MC (v:=.int p) (s1:=s') rfl (w:=.loc e.2.1) (s2:=s') rfl),b]
   rw[dj,ej,e0,aj,dG (aB r'.l),aj,eR,VC (by rw[Vq,VB];lia),show iN 1 [5] [qI p, qL n, some (.tup [.int (aO A),.loc kl]), qL c, qL e.2.1, qI Y]=[none,some (.int Y)]from rfl,U_,aj,gJ,e4]
  have U6:=rs.l;refine⟨aB (F _ _ O.lk),[qI p, qL n, some (.tup [.int (aO A),.loc kl]), qL c, qL e.2.1, qI Y],by rw[hY];rfl,[qI p, qL n, some (.tup [.int (aO A),.loc kl]), qL c, qL e.2.1, qI Y],s4.set c (.lst ((fs++gs).map vG)),.inl ?_,fs++gs,(F.trans (F'.trans F4)).set (Ye hc.symm) _,xi.put (λf mf=>?_) (λx mx=>(S'.mn _ (W7 mx)).1.ne),S',_,_,rfl⟩
  .unfold faB;generalize c_ 1 [5] (gN (ak PM.fu (aa bg (aa fT ai)))) (aF 0) bI (gB (aa bg (aa bG ai)))=C at ec⊢;simp only[aj,ax,ay,ar,eO,az,aq,b!,aU,aD,kQ,uS,oH U6,ec,a1]
  .rw[hgs]at mf;obtain⟨q,mq,rfl⟩:=Wb.mp mf;exact F4 _ _ (r'.r q mq)) (λ_ s'⟨_,F,_⟩=>aB (F _ _ O.lk)) ⟨[],F2,⟨l2,λq m=>by cases m⟩,JM.nil,_,_,rfl⟩
 have fA:=S3.fct (A:=A') dvA;have GF:=fA.GF fL rG nG;rw[Vq]at GF;have sA:=F0.trans (O.fr.trans F3);have hT3:jV s3 M.own M.line M.col M.S.qual:=by obtain⟨j,hj⟩:=hT;exact⟨j,sA _ _ hj⟩
 obtain⟨s4,b4,F4,z4⟩:=JR (M:=M) (m:=dJ) (μ:=[some (.int p),some (.loc n),some (.tup [.int (aO A),.loc kl]),some (.loc c),x4,x5]) rfl r3 (fA.nodup (by lia)) (by lia) hT3 yF;refine⟨s3.length,s4,?_,sA.trans F4,λh1=>z4 (Yw.mp (by lia))⟩;have a2:a_ ai [qI p, qL n, some (.tup [.int (aO A),.loc kl]), qn, qn, qn] s1=.ok (.loc c) s2:=by rw[du (vs:=[]) (s1:=s1) rfl (by decide),e2,hc]
 unfold PM.fR;rw[bb (np:=2) (us:=[ah.int p,.loc n]) rfl];show(aA _ (aA _ (aA (aM 3 (a_ ai)) (aA (iM _ _ faB) _))) [qI p, qL n, qn, qn, qn, qn] s).fin=_;generalize faB=B' at ef⊢;generalize a_ ai=M1 at a2⊢;generalize qM M PM.cW dJ=K at b4⊢;simp only[aj,ax,aL,a9,av,aH,aw,ay,ar,iG,eO,bu,bH,iW,bj,az,aq,fX,au,aG,b!,aZ,a!,gm,ej,aK,fP,aU,aD,Vn,Vt,Vm,Vx,Nat.reduceAdd,VB,Nat.reduceLeDiff,↓reduceIte,b0,b1,a2,bK Bq,bK t_,dG (aB (F2 _ _ O.lk)),ef,b4]
end
def JS(v:ah)(st:af):Prop:=Kb v=false/\∃k,kindOf st v=some k/\(k == "int" || (k == "bool"))=(k == "bool")
theorem CD{k:String}(h:kindOf st v=some k)(g:af):kindOf (st++g) v=some k:=by
 cases v with
 |loc n=>
  rcases WQ n st.length with q|q
  .unfold kindOf at h⊢;dsimp only at h⊢;rw[V6 q];exact h
  .unfold kindOf at h;dsimp only at h;rw[V1 q]at h;cases h
 |_=>exact h
theorem JS.old(h:JS v st)(g:af):JS v (st++g):=⟨h.1,h.2.choose,CD h.2.choose_spec.1 g,h.2.choose_spec.2⟩
theorem y!(h:JS v st):PM.jk [v] st=.ok (.bl false) st:=by
 obtain⟨hx,k,hk,hb⟩:=h;have vx:bg [some v] st=.ok v st:=Ih hx;have e1:B9 "int" v st=.ok (.bl (k == "bool")) st:=by
  unfold B9 RE;rw[hk];have hb':(k == "int" || (k == "bool" && ("int" == "int")))=(k == "bool"):=by rw[show(("int":String) == "int")=true from rfl,Bool.and_true];exact hb
  simp only[Option.map_some,hb']
 have e2:B9 "bool" v st=.ok (.bl (k == "bool")) st:=by
  unfold B9 RE;rw[hk];have hb':(k == "bool" || (k == "bool" && (("bool":String) == "int")))=(k == "bool"):=by rw[show(("bool":String) == "int")=false by decide,Yp,Bool.or_false]
  simp only[Option.map_some,hb']
 cases hkb:k == "bool" with
 |true=>rw[hkb]at e1 e2;simp only[PM.jk,bb,aj,ax,a9,jI,k_not,bu,jm,B7,DI,aZ,Vs,VE,Vz,Vu,Vr,Nat.reduceSub,Vm,Vx,Nat.reduceAdd,Wi,vx,e1,e2]
 |false=>rw[hkb]at e1 e2;simp only[PM.jk,bb,aj,ax,a9,pN,bu,jm,DI,aZ,Vs,VE,Vz,Vu,Vr,Nat.reduceSub,Vm,Vx,Nat.reduceAdd,vx,e1,e2]
def MV(v:ah)(st:af):Prop:=Kb v=false/\∀g,∃g',PM.iq [v] (st++g)=.ok (.bl false) (st++g++g')
theorem MV.odd(h:JS v st):MV v st:=⟨h.1,λg=>by
 have vx:bg [some v] (st++g)=.ok v (st++g):=Ih h.1;exact⟨[],by simp only[PM.iq,bb,aj,ax,a9,pN,ay,ar,bu,jm,az,aq,au,aZ,Vs,VE,Vr,Nat.reduceSub,Vm,Vx,Nat.reduceAdd,vx,y! (h.old g),V7]⟩⟩
theorem MV.int{n:Int}(h:gX n=false)(st:af):MV (.int n) st:=⟨rfl,λg=>by
 obtain⟨g',e⟩:=jJ n (st++g);rw[h]at e;exact⟨g',e⟩⟩
theorem MV.is(h:MV v st):∃g',PM.iq [v] st=.ok (.bl false) (st++g'):=by obtain⟨g',e⟩:=h.2 [];rw[V7]at e;exact⟨g',e⟩
end PG
namespace u9
open PySem.Spec L2 MN PG
open PyProof.Rows hiding St kindOf
def JT(v:ah):Prop:=Kb v=false/\∀st,∃g,PM.d9 [v] st=.err "NoPrime" (st++g)
theorem NX(h:∀st,MV v st):JT v:=by refine⟨(h []).1,λst=>?_⟩;obtain⟨g,e⟩:=(h st).is;have vx:bg [some v] st=.ok v st:=Ih (h st).1;exact⟨g,by simp only[PM.d9,bb,aj,ax,kH,pO,qD,ay,ar,dC,kM,bj,aR,aQ,fW,kI,az,aq,au,bh,jn,Vs,VE,Vz,Vu,Vr,Nat.reduceSub,Vm,Vx,Nat.reduceAdd,XI,VB,Nat.reduceLeDiff,↓reduceIte,vx,e]⟩
theorem U!:JT (.int 0):=by refine⟨rfl,λst=>?_⟩;obtain⟨g,e⟩:=jJ 0 st;have z:((0:Int)==0)=true:=rfl;have r:gX 0=true:=rfl;rw[r]at e;exact⟨g,by simp only[PM.d9,bb,aj,ax,kH,av,aH,aw,f?,qD,ay,ar,dC,kM,bj,aR,aQ,fW,kI,az,aq,au,bh,jn,dc,aK,Vs,VE,Vz,Vu,Vr,Nat.reduceSub,Vm,Vx,Nat.reduceAdd,Wi,VB,Nat.reduceLeDiff,↓reduceIte,e,z]⟩
theorem Es{n:Int}(h:gX n=false):JT (.int n):=NX λst=>MV.int h st
theorem p6{n:Int}(h:n<2\/997<n):JT (.int n):=by
 by_cases z:n=0
 .rw[z];exact U!
 .refine Es ?_;unfold gX;cases q:fJ n with
  |true=>have:=aJ q;lia
  |false=>simp[z]
theorem Rg:∀a b:Fin 30,gX ((2+(a.val:Int))*(2+(b.val:Int)))=false:=by decide +kernel
theorem Rh:∀n:Fin 996,(xU (2+(n.val:Int))).isEmpty=false->gX (2+(n.val:Int))=false:=by decide +kernel
theorem MW:∀n:Fin 249,gX (4*(1+(n.val:Int)))=false:=by decide +kernel
theorem y?{P:Int->Prop}(h:∀a:Fin m,P (a.val:Int)){i:Int}(h0:0<=i)(h1:i<(m:Int)):P i:=by have:=h ⟨i.toNat,by lia⟩;rwa [show((i.toNat:Nat):Int)=i by lia]at this
theorem CF(sj:Int)(st:af):∃g n,PM.gL [.int sj] st=.ok (.int n) (st++g)/\JT (.int n):=by
 have d2:Dz 2:=I? (by decide) (by decide);have d60:Dz 60:=I? (by decide) (by decide);have q1:=jK (m:=996) (by decide) (sj.fdiv 2);have q2:=jK (m:=30) (by decide) (sj.fdiv 2);have q3:=jK (m:=30) (by decide) (sj.fdiv 60);have q4:=jK (m:=249) (by decide) (sj.fdiv 2);have r2:∀st,FA [.int 2,.int 32] st=.ok (cO 2 30,λ_=>True) st:=λ_=>rfl;have rl:(cO 2 30).length=30:=rfl;have D6:∀(n:Int)(s:af),dY (ag pk (c_ 1 [1] (gQ (aa yn (aa (mC (.int 32)) ai))) (aF 0) (j6 (dY (ag ltV bg bG)) (dY (ag jC (ag dX bG bg) cT))) bg) (a_ ai)) [some (.int sj),some (.int n)] s=.ok (!(xU n).isEmpty) (s++[.lst (xU n)]++[.lst []]):=by intro n s;have gz:iN 1 [1] [some (ah.int sj),some (ah.int n)]=[none,some (.int n)]:=rfl;simp only[aj,av,aH,aw,ay,ar,j!,gJ,eR,bj,aR,aQ,az,aq,ic,dj,nX,Vx,VB,Nat.reduceLeDiff,↓reduceIte,r2,rl,gz,Ja,ne_nil (bP (bV s (xU n)) [.lst []]) (bV (s++[.lst (xU n)]) [])]
 cases e:(sj.fmod 2==0) with
 |true=>
  refine⟨[],(2+(sj.fdiv 2).fmod 30)*(2+(sj.fdiv 60).fmod 30),?_,Es (y? (P:=λi=>gX ((2+i)*(2+(sj.fdiv 60).fmod 30))=false) (λa=>y? (P:=λj=>gX ((2+(a.val:Int))*(2+j))=false) (Rg a) q3.1 q3.2) q2.1 q2.2)⟩;rw[V7];simp only[PM.gL,bb,aj,ax,aL,gS,a9,av,aH,aw,bu,dC,bH,bj,aR,aQ,aG,aZ,bh,a!,gE,dc,aK,Vs,VE,Vz,Vu,Vy,Vr,Vn,Vt,Nat.reduceSub,Vm,Vx,Nat.reduceAdd,div_ii d2,div_ii d60,cj (j:=996) (by decide),cj (j:=2) (by decide),cj (j:=30) (by decide),e,jo (i:=2+(sj.fdiv 2).fmod 30) (by lia) (by lia)]
 |false=>
  have t:=D6 (2+(sj.fdiv 2).fmod 996) st;unfold PM.gL;generalize dY (ag pk (c_ 1 [1] (gQ (aa yn (aa (mC (.int 32)) ai))) (aF 0) (j6 (dY (ag ltV bg bG)) (dY (ag jC (ag dX bG bg) cT))) bg) (a_ ai))=T at t⊢;cases z:(xU (2+(sj.fdiv 2).fmod 996)).isEmpty with
  |true=>
   rw[z]at t;refine⟨[.lst (xU (2+(sj.fdiv 2).fmod 996))]++[.lst []],4*(1+(sj.fdiv 2).fmod 249),?_,Es (y? (P:=λi=>gX (4*(1+i))=false) MW q4.1 q4.2)⟩;rw[<-VU];simp only[bb,aj,ax,aL,a9,av,aH,aw,bu,bS,bH,bj,aR,aQ,aG,bN,aZ,bh,a!,gE,dc,aK,Vs,VE,Vz,Vu,Vy,Vr,Vn,Vt,Nat.reduceSub,Vm,Vx,Nat.reduceAdd,Wi,div_ii d2,cj (j:=996) (by decide),cj (j:=2) (by decide),cj (j:=249) (by decide),e,t,jo (i:=4) (by decide) (by decide)]
  |false=>
   rw[z]at t;refine⟨[.lst (xU (2+(sj.fdiv 2).fmod 996))]++[.lst []],2+(sj.fdiv 2).fmod 996,?_,Es (y? (P:=λi=>(xU (2+i)).isEmpty=false->gX (2+i)=false) Rh q1.1 q1.2 z)⟩;rw[<-VU];simp only[bb,aj,ax,aL,gS,a9,av,aH,aw,bu,dC,bS,bH,bj,aR,aQ,aG,bN,aZ,bh,a!,gE,dc,aK,aD,Vs,VE,Vz,Vu,Vy,Vr,Vn,Vt,Nat.reduceSub,Vm,Vx,Nat.reduceAdd,XI,div_ii d2,cj (j:=996) (by decide),cj (j:=2) (by decide),e,t]
theorem ug{k:String}(h1:Kb v=false)(h2:∀st,kindOf st v=some k)(h3:(k == "int" || (k == "bool"))=(k == "bool")):JT v:=NX λst=>MV.odd ⟨h1,k,h2 st,h3⟩
theorem Gj(c:Int)(st:af):∃g v,PM.ie [.int c] st=.ok v (st++g)/\JT v:=by
 have d10:Dz 10:=I? (by decide) (by decide);have cp:EF 10 12:=by decide
 have tn:(10:Int) ^ Int.toNat 12=1000000000000:=by decide
 obtain⟨sj,hf⟩:∃f,f=c.fdiv 10:=⟨_,rfl⟩
 have q:=jK (m:=1000000000000) (by decide) sj;have w:=jK (m:=10) (by decide) c;obtain⟨g1,n,e1,hn⟩:=CF sj st;obtain⟨W,hW⟩:∃W:List ah,W=[.int 0,.int 1,.int (-1-sj.fmod 1000000000000),.int n,.int 1009,.int (998+sj.fmod 1000000000000)]:=⟨_,rfl⟩
 obtain⟨s1,CG⟩:∃s1,s1=st++g1:=⟨_,rfl⟩
 rw[<-CG]at e1;obtain⟨s2,jR⟩:∃s2,s2=s1++[aS.lst W]:=⟨_,rfl⟩
 obtain⟨s3,v!⟩:∃s3,s3=s2++[aS.lst [ah.bl true,.cH,.str "7",.tup [.int 5]]]:=⟨_,rfl⟩
 obtain⟨s4,GB⟩:∃s4,s4=s3++[aS.lst (W++[ah.bl true,.cH,.str "7",.tup [.int 5]])]:=⟨_,rfl⟩
 have l2:s3[s1.length]?=some (.lst W):=by rw[v!,jR];exact qX (bf _ _) _
 have l3:s3[s2.length]?=some (.lst [ah.bl true,.cH,.str "7",.tup [.int 5]]):=by rw[v!];exact bf _ _
 have l4:s4[s3.length]?=some (.lst (W++[ah.bl true,.cH,.str "7",.tup [.int 5]])):=by rw[GB];exact bf _ _
 have ad:cU (.loc s1.length) (.loc s2.length) s3=.ok (.loc s3.length) s4:=by show(match s3[s1.length]?,s3[s2.length]? with|some (.lst us),some (.lst ws)=>if us.length+ws.length<=sizeLine then cz.ok (ah.loc s3.length) (s3++[aS.lst (us++ws)])else .bad|_,_=>.bad)=_;rw[l2,l3];dsimp only;rw[VC (by rw[VB,hW];show 10<=16777216;decide),GB]
 have hWl:W.length<=16777216:=by rw[hW];show 6<=16777216;decide
 have abj:∀i:Int,0<=i->i<10->∃v,L2.lM (W++[ah.bl true,.cH,.str "7",.tup [.int 5]]) i=some v/\JT v:=by
  intro i i0 i1;rw[hW];have:i=0\/i=1\/i=2\/i=3\/i=4\/i=5\/i=6\/i=7\/i=8\/i=9:=by lia
  rcases this with rfl|rfl|rfl|rfl|rfl|rfl|rfl|rfl|rfl|rfl
  .exact⟨_,rfl,p6 (by lia)⟩
  .exact⟨_,rfl,p6 (by lia)⟩
  .exact⟨_,rfl,p6 (by lia)⟩
  .exact⟨_,rfl,hn⟩
  .exact⟨_,rfl,p6 (by lia)⟩
  .exact⟨_,rfl,p6 (by lia)⟩
  .exact⟨_,rfl,ug (k:="bool") rfl (λ_=>rfl) (by decide)⟩
  .exact⟨_,rfl,ug (k:="NoneType") rfl (λ_=>rfl) (by decide)⟩
  .exact⟨_,rfl,ug (k:="str") rfl (λ_=>rfl) (by decide)⟩
  .exact⟨_,rfl,ug (k:="tuple") rfl (λ_=>rfl) (by decide)⟩
 obtain⟨v,ev,hv⟩:=abj _ w.1 w.2;have ix:bQ (.loc s3.length) (.int (c.fmod 10)) s4=.ok v s4:=bT (aB l4) ev;refine⟨g1++[aS.lst W]++[aS.lst [ah.bl true,.cH,.str "7",.tup [.int 5]]]++[aS.lst (W++[ah.bl true,.cH,.str "7",.tup [.int 5]])],v,?_,hv⟩;have es:st++(g1++[aS.lst W]++[aS.lst [ah.bl true,.cH,.str "7",.tup [.int 5]]]++[aS.lst (W++[ah.bl true,.cH,.str "7",.tup [.int 5]])])=s4:=by rw[GB,v!,jR,CG];simp only[VU]
 rw[es];simp only[PM.ie,bb,aj,ax,aL,a9,av,aH,aw,ay,ar,iG,j!,bu,bH,bj,az,aq,fX,ic,au,dz,gk,aG,aZ,a!,gE,fI,aK,aU,aD,Vs,VE,Vz,Vu,Vy,Vr,Vn,Vt,Nat.reduceSub,Vm,Vx,Nat.reduceAdd,VB,Nat.reduceLeDiff,↓reduceIte,div_ii d10,<-hf,uP cp,tn,cj (j:=1000000000000) (by decide),e1,<-hW,hWl,<-jR,<-v!,ad,cj (j:=10) (by decide),ix]
theorem isq{μ:MN.Env}{s:af}{c:Str}{b:Bool}(h:μ[0]?=some (some (.exc c)))(hk:kn.contains c=true)(hs:eM tab c x=some b):fG (eM tab) kn 0 x μ s=.ok (.bl b) s:=by unfold fG;rw[h];dsimp only;rw[VC hk,hs]
theorem add_lists{e:Option ah}{s:af}{vs:List ah}{a:MA}{r:MN.Env}(h:s[n]?=some (.lst us))(ha:a (e::some (.loc n)::r) s=.ok vs s)(hl:us.length<=100)(hv:vs.length<=100):
  ∃m s',ag cU bG (a_ a) (e::some (.loc n)::r) s=.ok (.loc m) s'/\(∃g,s'=s++g)/\s'[m]?=some (.lst (us++vs)):=by
 obtain⟨s1,CG⟩:∃s1,s1=s++[aS.lst vs]:=⟨_,rfl⟩
 have h1:s1[n]?=some (.lst us):=by rw[CG];exact qX h _
 have h2:s1[s.length]?=some (.lst vs):=by rw[CG];exact bf s _
 refine⟨s1.length,s1++[.lst (us++vs)],?_,⟨[.lst vs,.lst (us++vs)],by rw[CG,VU];rfl⟩,bf s1 _⟩;rw[gH (x:=.loc n) (s1:=s) rfl (du ha (by lia)),<-CG];show(match s1[n]?,s1[s.length]? with|some (.lst us),some (.lst ws)=>if us.length+ws.length<=sizeLine then cz.ok (ah.loc s1.length) (s1++[aS.lst (us++ws)])else .bad|_,_=>.bad)=_;rw[h1,h2];dsimp only;rw[VC (by rw[VB];lia)]
theorem U?{μ:MN.Env}{s:af}{m1 m3:ME}{w:ah}(h1:m1 μ s=.ok u s)(h2:m2 μ s=.ok v s)(h3:m3 μ s=.ok w s):aa m1 (aa m2 (aa m3 ai)) μ s=.ok [u,v,w] s:=Jp h1 (MC h2 h3)
theorem Ri{μ:MN.Env}{s:af}{m1 m3 m4:ME}{w x:ah}(h1:m1 μ s=.ok u s)(h2:m2 μ s=.ok v s)(h3:m3 μ s=.ok w s)(h4:m4 μ s=.ok x s):aa m1 (aa m2 (aa m3 (aa m4 ai))) μ s=.ok [u,v,w,x] s:=Jp h1 (U? h2 h3 h4)
def nms:_e:=["ByNought","NoCount","NoInverse","NoLead","NoMeet","NoOrder","NoParts","NoPrime","NoRing","NoSums","NoTerm","NoUnknowns","NotPlain","NotWhole","NotWritten"]
def Va(c:Str):List ah:=nms.map λx=>.bl (x==c)
theorem JU{c:Str}(hk:kn.contains c=true)(h:∀x∈nms,eM tab c x=some (x==c))(st:af):∃g m,fZ c st=.ok (.loc m) (st++g)/\(st++g)[m]?=some (.lst (Va c)):=by
 have q:∀{x:Str}{y:Option ah}{s:af},x∈nms->fG (eM tab) kn 0 x [some (.exc c),y] s=.ok (.bl (x==c)) s:=λ{x y s}hx=>isq rfl hk (h x hx);obtain⟨s1,CG⟩:∃s1,s1=st++[aS.lst [ah.bl ("ByNought" == c),.bl ("NoCount" == c),.bl ("NoInverse" == c),.bl ("NoLead" == c)]]:=⟨_,rfl⟩
 have f1:aM 1 (a_ (aa (fG (eM tab) kn 0 "ByNought") (aa (fG (eM tab) kn 0 "NoCount") (aa (fG (eM tab) kn 0 "NoInverse") (aa (fG (eM tab) kn 0 "NoLead") ai))))) [some (.exc c),none] st=.nx [some (.exc c),some (.loc st.length)] s1:=by rw[jy (du (Ri (q (by decide)) (q (by decide)) (q (by decide)) (q (by decide))) (by show 4<=1000;decide)),CG];rfl
 have a1:s1[st.length]?=some (.lst [ah.bl ("ByNought" == c),.bl ("NoCount" == c),.bl ("NoInverse" == c),.bl ("NoLead" == c)]):=by rw[CG];exact bf st _
 obtain⟨m2,s2,f2,⟨g2,e2⟩,a2⟩:=add_lists (e:=some (.exc c)) (r:=[]) a1 (Ri (q (x:="NoMeet") (by decide)) (q (x:="NoOrder") (by decide)) (q (x:="NoParts") (by decide)) (q (x:="NoPrime") (by decide))) (by show 4<=100;decide) (by show 4<=100;decide);obtain⟨m3,s3,f3,⟨g3,e3⟩,a3⟩:=add_lists (e:=some (.exc c)) (r:=[]) a2 (Ri (q (x:="NoRing") (by decide)) (q (x:="NoSums") (by decide)) (q (x:="NoTerm") (by decide)) (q (x:="NoUnknowns") (by decide))) (by show 8<=100;decide) (by show 4<=100;decide);obtain⟨m4,s4,f4,⟨g4,e4⟩,a4⟩:=add_lists (e:=some (.exc c)) (r:=[]) a3 (U? (q (x:="NotPlain") (by decide)) (q (x:="NotWhole") (by decide)) (q (x:="NotWritten") (by decide))) (by show 12<=100;decide) (by show 3<=100;decide);refine⟨[aS.lst [ah.bl ("ByNought" == c),.bl ("NoCount" == c),.bl ("NoInverse" == c),.bl ("NoLead" == c)]]++g2++g3++g4,m4,?_,?_⟩
 .have es:st++([aS.lst [ah.bl ("ByNought" == c),.bl ("NoCount" == c),.bl ("NoInverse" == c),.bl ("NoLead" == c)]]++g2++g3++g4)=s4:=by rw[e4,e3,e2,CG];simp only[VU]
  rw[es];show(aA _ _ [some (.exc c),none] st).fin=_;rw[aG,f1,aL,aG,jy f2,aL];show(aA _ _ [some (.exc c),some (.loc m2)] s2).fin=_;rw[aG,jy f3,aL];show(bM _ [some (.exc c),some (.loc m3)] s3).fin=_;rw[aZ,f4,ax];rfl
 .have es:st++([aS.lst [ah.bl ("ByNought" == c),.bl ("NoCount" == c),.bl ("NoInverse" == c),.bl ("NoLead" == c)]]++g2++g3++g4)=s4:=by rw[e4,e3,e2,CG];simp only[VU]
  rw[es];exact a4
def Vb:List ah:=[.str "nought",.str "count",.str "inverse",.str "lead",.str "meet",.str "order",.str "parts",.str "prime",.str "ring",.str "sums",.str "term",.str "unknowns",.str "plain",.str "whole",.str "written"]
theorem vI{c w:Str}(hk:kn.contains c=true)(h:∀x∈nms,eM tab c x=some (x==c))(hV:eM tab c "ValueError" = some true)(hc:(Va c).countP (λy=>Dp y (.bl true))=1)(hj:(Va c).findIdx? (λy=>Dp y (.bl true))=some j)(hw:L2.lM Vb (j:Int)=some (.str w))(st:af):
  ∃g,dF c st=.ok (.str w) (st++g):=by
 obtain⟨g1,m,e1,a1⟩:=JU hk h st;obtain⟨s1,CG⟩:∃s1,s1=st++g1:=⟨_,rfl⟩
 rw[<-CG]at e1 a1;have fl:(Va c).all flat=true:=Wr.mpr λx hx=>by obtain⟨b,_,rfl⟩:=Wb.mp hx;rfl
 have f1:aM 1 (oW 0 fZ) [some (.exc c), qn, qn] st=.nx [some (.exc c), qL m, qn] s1:=by
  have:oW 0 fZ [some (.exc c), qn, qn] st=.ok (.loc m) s1:=by show Qa (fZ c st)=_;rw[e1];rfl
  rw[jy this];rfl
 have v1:∀x s,bG [some (.exc c), qL m, x] s=.ok (.loc m) s:=λ_ _=>rfl;have cnt:g6 mX bG (aa (mC (.bl true)) ai) [some (.exc c), qL m, qn] s1=.ok (.int 1) s1:=by rw[kQ,v1,aj,oH a1];show mX (.loc m) [.bl true] s1=_;unfold mX;dsimp only;rw[a1];dsimp only;rw[VC ⟨rfl,fl⟩,hc];rfl
 have tC:dY (ag pk (g6 mX bG (aa (mC (.bl true)) ai)) cI) [some (.exc c), qL m, qn] s1=.ok false s1:=by refine vn ?_;rw[gH cnt (y:=.int 1) (s2:=s1) rfl];rfl
 have abk:yr (eM tab) 0 "ValueError" [some (.exc c), qL m, qn] s1=.ok (.bl true) s1:=by show(match eM tab c "ValueError" with|some true=>cz.ok (ah.bl true) s1|_=>.bad)=_;rw[hV]
 have tV':uC (dY (yr (eM tab) 0 "ValueError")) [some (.exc c), qL m, qn] s1=.ok false s1:=UU (vn abk);have f2:=UW (B:=bM (qs "several")) (UT tC tV')
 -- J0 words
 obtain⟨W1,hW1⟩:∃W:List ah,W=[.str "nought",.str "count",.str "inverse",.str "lead",.str "meet",.str "order",.str "parts",.str "prime",.str "ring",.str "sums",.str "term"]:=⟨_,rfl⟩
 obtain⟨s2,jR⟩:∃s2,s2=s1++[aS.lst W1]:=⟨_,rfl⟩
 obtain⟨s3,v!⟩:∃s3,s3=s2++[aS.lst [ah.str "unknowns",.str "plain",.str "whole",.str "written"]]:=⟨_,rfl⟩
 have l2:s3[s1.length]?=some (.lst W1):=by rw[v!,jR];exact qX (bf _ _) _
 have l3:s3[s2.length]?=some (.lst [ah.str "unknowns",.str "plain",.str "whole",.str "written"]):=by rw[v!];exact bf _ _
 obtain⟨s4,GB⟩:∃s4,s4=s3++[aS.lst Vb]:=⟨_,rfl⟩
 have a4:s4[m]?=some (.lst (Va c)):=by rw[GB,v!,jR];exact qX (qX (qX a1 _) _) _
 have w4:s4[s3.length]?=some (.lst Vb):=by rw[GB];exact bf _ _
 have f3:aM 2 (a_ (aa (qs "nought") (aa (qs "count") (aa (qs "inverse") (aa (qs "lead") (aa (qs "meet") (aa (qs "order") (aa (qs "parts") (aa (qs "prime") (aa (qs "ring") (aa (qs "sums") (aa (qs "term") ai)))))))))))) [some (.exc c), qL m, qn] s1=.nx [some (.exc c), qL m, qL s1.length] s2:=by rw[jy (du (vs:=W1) (s1:=s1) (by rw[hW1];rfl) (by rw[hW1];show 11<=1000;decide)),jR];rfl
 have ad:ag cU cQ (a_ (aa (qs "unknowns") (aa (qs "plain") (aa (qs "whole") (aa (qs "written") ai))))) [some (.exc c), qL m, qL s1.length] s2=.ok (.loc s3.length) s4:=by rw[gH (x:=.loc s1.length) (s1:=s2) rfl (du (vs:=[ah.str "unknowns",.str "plain",.str "whole",.str "written"]) (s1:=s2) rfl (by decide)),<-v!];show(match s3[s1.length]?,s3[s2.length]? with|some (.lst us),some (.lst ws)=>if us.length+ws.length<=sizeLine then cz.ok (ah.loc s3.length) (s3++[aS.lst (us++ws)])else .bad|_,_=>.bad)=_;rw[l2,l3];dsimp only;rw[VC (by rw[VB,hW1];show 15<=16777216;decide),GB,hW1];rfl
 have idx:g6 mY bG (aa (mC (.bl true)) ai) [some (.exc c), qL m, qL s1.length] s4=.ok (.int (j:Int)) s4:=by rw[kQ,v1,aj,oH a4];show mY (.loc m) [.bl true] s4=_;unfold mY;dsimp only;rw[a4];dsimp only;rw[VC ⟨rfl,fl⟩,hj]
 have fin:ag bQ (ag cU cQ (a_ (aa (qs "unknowns") (aa (qs "plain") (aa (qs "whole") (aa (qs "written") ai)))))) (g6 mY bG (aa (mC (.bl true)) ai)) [some (.exc c), qL m, qL s1.length] s2=.ok (.str w) s4:=by rw[gH ad idx];exact bT (aB w4) hw
 refine⟨g1++[aS.lst W1]++[aS.lst [ah.str "unknowns",.str "plain",.str "whole",.str "written"]]++[aS.lst Vb],?_⟩;have es:st++(g1++[aS.lst W1]++[aS.lst [ah.str "unknowns",.str "plain",.str "whole",.str "written"]]++[aS.lst Vb])=s4:=by rw[GB,v!,jR,CG];simp only[VU]
 rw[es];show(aA _ _ [some (.exc c), qn, qn] st).fin=_;rw[aG,f1,aL,aG,f2,aL,aG,f3,aL,aZ,fin,ax];rfl
theorem A_(st:af):∃g,dF "NoPrime" st=.ok (.str "prime") (st++g):=vI (j:=7) (by decide +kernel) (by decide +kernel) (by decide +kernel) (by decide +kernel) (by decide +kernel) rfl st
theorem A!(st:af):∃g,dF "NoParts" st=.ok (.str "parts") (st++g):=vI (j:=6) (by decide +kernel) (by decide +kernel) (by decide +kernel) (by decide +kernel) (by decide +kernel) rfl st
theorem A?(st:af):∃g,dF "NotPlain" st=.ok (.str "plain") (st++g):=vI (j:=12) (by decide +kernel) (by decide +kernel) (by decide +kernel) (by decide +kernel) (by decide +kernel) rfl st
section
variable{s:af}{A:_a}{M:ji}
theorem Ba(h:JT v):∃g,PM.fR M [v,.loc n] s=.err "NoPrime" (s++g):=by obtain⟨g,e⟩:=h.2 s;have v0:∀r,bg (some v::r) s=.ok v s:=λr=>uN rfl h.1;exact⟨g,by simp only[PM.fR,bb,aj,kG,oU,kH,ay,ar,az,aq,au,aG,b!,Vs,VE,Vz,Vu,Vy,Vr,Nat.reduceSub,Vm,Vx,Nat.reduceAdd,v0,e]⟩
theorem Bb(h:JT v):∃g,PM.fQ [v,.loc n] s=.err "NoPrime" (s++g):=by obtain⟨g,e⟩:=h.2 s;have v0:∀r,bg (some v::r) s=.ok v s:=λr=>uN rfl h.1;exact⟨g,by simp only[PM.fQ,bb,aj,kG,oU,kH,ay,ar,az,aq,au,aG,b!,Vs,VE,Vz,Vu,Vy,Vr,Nat.reduceSub,Vm,Vx,Nat.reduceAdd,v0,e]⟩
theorem CH(hp:fJ p=true)(ln:s[n]?=some (aV [])):∃g,PM.fR M [.int p,.loc n] s=.err "NoParts" (s++g):=by
 obtain⟨g,e⟩:=gY hp s;have ka:bF [.loc n] (s++g)=.ok (.int 0) (s++g):=by rw[bc (aB (cR ln g))];rfl
 have z:((0:Int)==0)=true:=rfl;exact⟨g,by simp only[PM.fR,PM.gb,bb,aj,ax,kG,aL,oU,kH,av,aH,aw,ay,ar,eO,dC,kM,bj,aR,aQ,az,aq,au,aG,b!,bh,a!,jn,dc,aK,aU,aD,Vs,VE,Vz,Vu,Vy,Vr,Nat.reduceSub,Vm,Vx,Nat.reduceAdd,VB,Nat.reduceLeDiff,↓reduceIte,e,ka,z]⟩
theorem CI(hp:fJ p=true)(ln:s[n]?=some (aV A))(h:¬ (2<=A.length/\aO A=1)):∃g,PM.fQ [.int p,.loc n] s=.err "NotPlain" (s++g):=by
 obtain⟨g,e⟩:=gY hp s;obtain⟨L,hL⟩:∃L:Int,L=(A.length:Int):=⟨_,rfl⟩
 have ka:bF [.loc n] (s++g)=.ok (.int L) (s++g):=by rw[bc (aB (cR ln g)),aI,hL]
 by_cases h2:2<=A.length
 .have z:decide (L<2)=false:=VT (by lia);have nA:A≠[]:=λq=>by rw[q]at h2;exact absurd h2 (by decide)
  have gx:=bT (aB (cR ln g)) (kZ nA);have q:(aO A==1)=false:=by have:¬ aO A=1:=λq=>h ⟨h2,q⟩;simpa using this
  exact⟨g,by simp only[PM.fQ,bb,aj,ax,aL,oU,kH,av,aH,aw,f?,ay,ar,eO,dC,kM,bj,aR,aQ,fW,az,aq,au,dz,gk,aG,b!,bh,jn,gK,oG,aK,aU,aD,Vs,VE,Vz,Vu,Vy,Vr,Nat.reduceSub,Vm,Vx,Nat.reduceAdd,XI,VB,Nat.reduceLeDiff,↓reduceIte,e,ka,z,gx,q]⟩
 .have z:decide (L<2)=true:=VZ (by lia);exact⟨g,by simp only[PM.fQ,bb,aj,ax,aL,oU,kH,av,aH,aw,pO,ay,ar,eO,dC,kM,bj,aR,aQ,fW,az,aq,au,aG,b!,bh,jn,gK,aK,aU,aD,Vs,VE,Vz,Vu,Vy,Vr,Nat.reduceSub,Vm,Vx,Nat.reduceAdd,VB,Nat.reduceLeDiff,↓reduceIte,e,ka,z]⟩
theorem CJ(hp:fJ p=true)(ln:s[n]?=some (aV A))(hA:Row p A)(h2:2<=A.length)(h1:aO A=1)(hl:A.length<=100):∃u s',PM.fQ [.int p,.loc n] s=.ok u s'/\Fr s s':=by
 obtain⟨g,e⟩:=gY hp s;obtain⟨s0,GC⟩:∃s0,s0=s++g:=⟨_,rfl⟩
 have F0:Fr s s0:=by rw[GC];exact Fr.app _ _
 rw[<-GC]at e;obtain⟨L,hL⟩:∃L:Int,L=(A.length:Int):=⟨_,rfl⟩
 have nA:A≠[]:=λq=>by rw[q]at h2;exact absurd h2 (by decide)
 have ka:∀{s'},Fr s s'->bF [.loc n] s'=.ok (.int L) s':=λF=>by rw[bc (aB (F _ _ ln)),aI,hL]
 have z:decide (L<2)=false:=VT (by lia);have gx:=bT (aB (F0 _ _ ln)) (kZ nA);have q:(aO A==1)=true:=by rw[h1];rfl
 obtain⟨s1,v,b1,F1,hv⟩:=JH hp (F0 _ _ ln) hA (by lia);have F01:=F0.trans F1;rcases hv with rfl|⟨a,b,rfl⟩
 .have i1:Pu false .cH .cH s1=.ok (.bl true) s1:=rfl;exact⟨.cH,s1,by simp only[PM.fQ,bb,aj,ax,aL,gS,a9,av,aH,aw,f?,ay,ar,eO,bu,dC,bS,bH,bj,aR,aQ,fW,az,aq,au,dz,gk,aG,bN,b!,aZ,bh,a!,gK,oG,aK,aU,DK,aD,Vs,VE,Vz,Vu,Vy,Vr,Vn,Vt,Nat.reduceSub,Vm,Vx,Nat.reduceAdd,Wi,e,ka F0,z,gx,q,b1,i1],F01⟩
 .have i1:Pu false (.tup [.loc a,.loc b]) .cH s1=.ok (.bl false) s1:=rfl;obtain⟨N,hN⟩:∃N,A.length=N+1:=⟨A.length-1,by lia⟩
  obtain⟨pq,pr,rs,s2,b2,F2,l2,m2,v2⟩:=xI hp (F01 _ _ ln) ⟨hA,nA,h1⟩ hN (by lia) (by lia);obtain⟨c3,cs,s3,b3,F3,l3,m3,v3⟩:=vF (f:=1) hp l2 m2 v2 (by lia) (by lia);obtain⟨u,s4,b4,F4,hu⟩:=JL hp l3 v3 (by lia) (by lia);have sA:=F01.trans (F2.trans F3);rw[show((N:Nat):Int)=L-1 by lia]at b4;have b3':PM.b9 [.int p,.loc pr,.int 1] s2=.ok (.loc c3) s3:=b3;rcases hu with rfl|⟨t,rfl⟩
  .have i4:Pu false .cH .cH s4=.ok (.bl true) s4:=rfl;exact⟨.cH,s4,by simp only[PM.fQ,bb,aj,ax,aL,a9,av,aH,aw,f?,kJ,ay,ar,eO,bu,bS,bH,bj,aR,aQ,fW,lX,az,aq,au,dz,gk,aG,bN,b!,aZ,bh,a!,fI,gK,oG,aK,fP,aU,DK,aD,Vs,VE,Vz,Vu,Vy,Vr,Vn,Vt,Nat.reduceSub,Vm,Vx,Nat.reduceAdd,Wi,e,ka F0,z,gx,q,b1,i1,b2,bK Bq,b3',ka sA,b4,i4],sA.trans F4⟩
  .have i4:Pu false (.loc t) .cH s4=.ok (.bl false) s4:=rfl;exact⟨.tup [.loc a,.loc b,.loc pq,.loc pr,.loc t],s4,by simp only[PM.fQ,bb,aj,ax,aL,a9,av,aH,aw,f?,kK,ay,ar,iG,eO,bu,bS,bH,bj,aR,aQ,fW,lX,az,aq,fX,au,dz,gk,aG,bN,b!,aZ,bh,a!,fI,gK,oG,aK,fP,aU,aD,Vs,VE,Vz,Vu,Vy,Vr,Vn,Vt,Nat.reduceSub,Vm,Vx,Nat.reduceAdd,Wi,VB,Nat.reduceLeDiff,↓reduceIte,e,ka F0,z,gx,q,b1,i1,b2,bK Bq,bK t_,b3',ka sA,b4,i4],sA.trans F4⟩
def Gk(M:ji)(w:Int):FN:=if w=0 then PM.fR M else PM.fQ
theorem Et{w:Int}(hv:Kb v=false)(h:Gk M w [v,.loc n] s=.ok u s'):bU M [.int w,v,.loc n] s=.ok (.str "told") s':=by
 have v1:∀x0 r,bG (x0::some v::r) s=.ok v s:=λx0 r=>uN rfl hv;unfold Gk at h;by_cases z:w=0
 .rw[VC z]at h;have q:(w==0)=true:=by simpa using z
  simp only[bU,bb,aj,ax,aL,a9,av,aH,aw,ay,ar,eO,bu,dC,bj,aR,aQ,az,aq,au,aG,b!,aZ,bh,qF,qG,j?,tV,qH,tX,dc,aK,aU,aD,Vs,VE,Vz,Vu,Vy,Vr,Nat.reduceSub,Vm,Vx,Nat.reduceAdd,q,v1,h]
 .rw[VI z]at h;have q:(w==0)=false:=by simpa using z
  simp only[bU,bb,aj,ax,aL,a9,av,aH,aw,ay,ar,eO,bu,bS,bj,aR,aQ,az,aq,au,aG,b!,aZ,bh,qF,qG,j?,tV,qH,tX,dc,aK,aU,aD,Vs,VE,Vz,Vu,Vy,Vr,Nat.reduceSub,Vm,Vx,Nat.reduceAdd,q,v1,h]
theorem vJ{w:Int}{c:Str}(hv:Kb v=false)(hk:knL kn c=true)(hA:eM tab c "AlgebraError" = some true)(h:Gk M w [v,.loc n] s=.err c s')(hn:∀st,∃g,dF c st=.ok (.str x) (st++g)):∃g,bU M [.int w,v,.loc n] s=.ok (.str x) (s'++g):=by
 obtain⟨g,e⟩:=hn s';refine⟨g,?_⟩;have v1:∀x0 r,bG (x0::some v::r) s=.ok v s:=λx0 r=>uN rfl hv;have cx:∀x0 x1 x2,oW 3 dF [x0, x1, x2, some (.exc c)] s'=.ok (.str x) (s'++g):=λx0 x1 x2=>by show Qa (dF c s')=_;rw[e];rfl
 unfold Gk at h;by_cases z:w=0
 .rw[VC z]at h;have q:(w==0)=true:=by simpa using z
  simp only[bU,bb,aj,ax,kG,gS,a9,av,aH,aw,ay,ar,bu,dC,bj,aR,aQ,az,aq,au,aG,b!,aZ,bh,qF,qG,j?,tW,qH,nY,dc,aK,aU,aD,Vs,VE,Vz,Vu,Vy,Vr,Vn,Vt,Nat.reduceSub,Vm,Vx,Nat.reduceAdd,q,v1,h,DR hk,Nz hA,cx]
 .rw[VI z]at h;have q:(w==0)=false:=by simpa using z
  simp only[bU,bb,aj,ax,kG,gS,a9,av,aH,aw,ay,ar,bu,bS,bj,aR,aQ,az,aq,au,aG,b!,aZ,bh,qF,qG,j?,tW,qH,nY,dc,aK,aU,aD,Vs,VE,Vz,Vu,Vy,Vr,Vn,Vt,Nat.reduceSub,Vm,Vx,Nat.reduceAdd,q,v1,h,DR hk,Nz hA,cx]
end
def Vc:_a:=[2,3,5,7,2,3,5,11,13,17,19,23,29,31]
theorem Rj:∀i:Fin 14,fJ (Vc.getD i.val 0)=true:=by decide +kernel
theorem JV(o:Int)(s:af):∃g p,PM.gW [.int o] s=.ok (.int p) (s++g)/\fJ p=true:=by have w:=jK (m:=14) (by decide) o;have gx:=bT (aB (bf s (Vc.map ah.int))) (at_getD (ns:=Vc) (i:=o.fmod 14) w.1 (by exact w.2));have hp:=Rj ⟨(o.fmod 14).toNat,by lia⟩;generalize Vc.getD (o.fmod 14).toNat 0=p at gx hp;rw[show Vc.map ah.int=[.int 2,.int 3,.int 5,.int 7,.int 2,.int 3,.int 5,.int 11,.int 13,.int 17,.int 19,.int 23,.int 29,.int 31]from rfl]at gx;exact⟨[.lst [.int 2,.int 3,.int 5,.int 7,.int 2,.int 3,.int 5,.int 11,.int 13,.int 17,.int 19,.int 23,.int 29,.int 31]],p,by simp only[PM.gW,bb,aj,ax,a9,av,aH,aw,ay,ar,j!,bu,bj,az,aq,ic,aZ,aK,Vs,VE,Vz,Vu,Vr,Nat.reduceSub,Vm,Vx,Nat.reduceAdd,VB,Nat.reduceLeDiff,↓reduceIte,cj (j:=14) (by decide),gx],hp⟩
section
variable{a h:Nat}{s:af}{A:_a}{M:ji}
theorem Vd(hp:fJ p=true)(ln:s[n]?=some (aV A))(hA:Row p A)(lA:A.length<=5)(hT:jV s M.own M.line M.col M.S.qual)(yF:M.S.ps.length=1):∃s',bU M [.int 0,.int p,.loc n] s=.ok (.str (if A=[]then "parts" else "told")) s'/\Fr s s':=by
 by_cases nA:A=[]
 .rw[VC nA];subst nA;obtain⟨g,e⟩:=CH (M:=M) hp ln;obtain⟨g',e'⟩:=vJ (M:=M) (w:=0) rfl (by decide +kernel) (by decide +kernel) e A!;exact⟨_,e',(Fr.app s g).more g'⟩
 .rw[VI nA];obtain⟨c,s',e,F,_⟩:=vH (M:=M) hp ln hA nA (by lia) hT yF;exact⟨s',Et (M:=M) (w:=0) rfl e,F⟩
theorem Ve(hp:fJ p=true)(ln:s[n]?=some (aV A))(hA:Row p A)(lA:A.length<=5):∃s',bU M [.int 1,.int p,.loc n] s=.ok (.str (if 2<=A.length/\aO A=1 then "told" else "plain")) s'/\Fr s s':=by
 by_cases q:2<=A.length/\aO A=1
 .rw[VC q];obtain⟨u,s',e,F⟩:=CJ hp ln hA q.1 q.2 (by lia);exact⟨s',Et (M:=M) (w:=1) rfl e,F⟩
 .rw[VI q];obtain⟨g,e⟩:=CI hp ln q;obtain⟨g',e'⟩:=vJ (M:=M) (w:=1) rfl (by decide +kernel) (by decide +kernel) e A?;exact⟨_,e',(Fr.app s g).more g'⟩
theorem Vf(hv:JT v)(w:Int):∃s',bU M [.int w,v,.loc n] s=.ok (.str "prime") s'/\Fr s s':=by
 obtain⟨g,e⟩:∃g,Gk M w [v,.loc n] s=.err "NoPrime" (s++g):=by
  unfold Gk;split
  .exact Ba hv
  .exact Bb hv
 obtain⟨g',e'⟩:=vJ (M:=M) (w:=w) hv.1 (by decide +kernel) (by decide +kernel) e A_;exact⟨_,e',(Fr.app s g).more g'⟩
theorem Eu{s:af}(h:jV s M.own M.line M.col M.S.qual)(F:Fr s s'):jV s' M.own M.line M.col M.S.qual:=by obtain⟨j,hj⟩:=h;exact⟨j,F _ _ hj⟩
theorem emp{A:_a}:(A.map ah.int).isEmpty=decide (A=[]):=by cases A<;>rfl
theorem Vg(hp:fJ p=true)(la:s[a]?=some (aV A))(lh:s[h]?=some (aV A))(hA:Row p A)(lA:A.length<=5)(hT:jV s M.own M.line M.col M.S.qual)(yF:M.S.ps.length=1):∃s',m5 M [x0, qI p, qL a, qL h, x4, qn] s=.rt (.bl true) s':=by
 have hr:=aJ hp;obtain⟨L,hL⟩:∃L:Int,L=(A.length:Int):=⟨_,rfl⟩
 have kl:∀{s'},Fr s s'->bF [.loc a] s'=.ok (.int L) s':=λF=>by rw[bc (aB (F _ _ la)),aI,hL]
 -- fR
 obtain⟨s1,b1,F1⟩:=Vd (M:=M) hp lh hA lA hT yF;obtain⟨W,hW⟩:∃W:Str,W=if A=[] then("parts":Str) else("told":Str):=⟨_,rfl⟩
 rw[<-hW]at b1;obtain⟨s2,e2,F2,l2,_⟩:=bD (s:=s1) [.str "told",.str "parts"];obtain⟨s3,e3,F3,l3,_⟩:=bD (s:=s2) [];have sA:=F1.trans (F2.trans F3);have q3:=eq_nil (aB (sA _ _ la)) (aB l3);rw[emp]at q3;have f5:mz (dY (ag pk (ak (bU M) (aa cT (aa bG (aa dJ ai)))) (ag bQ (a_ (aa (qs "told") (aa (qs "parts") ai))) (ak B3 (aa (ag jC cQ (a_ ai)) ai))))) (bM (mC (.bl false))) dh [x0, qI p, qL a, qL h, x4, qn] s=.nx [x0, qI p, qL a, qL h, x4, qn] s3:=by
  have d1:a_ (aa (qs "told") (aa (qs "parts") ai)) [x0, qI p, qL a, qL h, x4, qn] s1=.ok (.loc s1.length) s2:=by rw[du (vs:=[.str "told",.str "parts"]) (s1:=s1) rfl (by show 2<=1000;decide),e2]
  have d2:a_ ai [x0, qI p, qL a, qL h, x4, qn] s2=.ok (.loc s2.length) s3:=by rw[du (vs:=[]) (s1:=s2) rfl (by decide),e3]
  generalize a_ (aa (qs "told") (aa (qs "parts") ai))=D1 at d1⊢;generalize a_ ai=D2 at d2⊢;by_cases nA:A=[]
  .rw[VC nA]at hW;rw[VZ nA]at q3;have i3:bQ (.loc s1.length) (.int 1) s3=.ok (.str "parts") s3:=bT (aB (F3 _ _ l2)) Bq;have z:(W==("parts":Str))=true:=by rw[hW];decide
   simp only[aj,ax,av,aH,aw,ay,ar,bS,bj,aR,aQ,az,aq,au,bN,bh,Au,aK,aU,aD,Wi,↓reduceIte,DU,b1,d1,d2,q3,i3,z]
  .rw[VI nA]at hW;rw[VT nA]at q3;have i3:bQ (.loc s1.length) (.int 0) s3=.ok (.str "told") s3:=bT (aB (F3 _ _ l2)) t_;have z:(W==("told":Str))=true:=by rw[hW];decide
   simp only[aj,ax,av,aH,aw,ay,ar,bS,bj,aR,aQ,az,aq,au,bN,bh,Au,aK,aU,aD,Wi,↓reduceIte,DU,b1,d1,d2,q3,i3,z,WG]
 -- a number alone
 obtain⟨s4,F4,f6⟩:∃s4,Fr s3 s4/\mz (j6 (dY (ag jC (ak bF (aa cQ ai)) cI)) (dY (ag pk (ak (PM.fR M) (aa bG (aa dJ ai))) (gB (aa (ag bQ cQ cT) (aa (a_ ai) ai)))))) (bM (mC (.bl false))) dh [x0, qI p, qL a, qL h, x4, qn] s3=.nx [x0, qI p, qL a, qL h, x4, qn] s4:=by
  by_cases h1:A.length=1
  .have z:(L==1)=true:=by simp;lia
   have nA:A≠[]:=λq=>by rw[q]at h1;exact absurd h1 (by decide)
   obtain⟨c,s4,b4,F4,l4⟩:=vH (M:=M) hp (sA _ _ lh) hA nA (by lia) (Eu hT sA) yF;obtain⟨s5,e5,F5,l5,_⟩:=bD (s:=s4) [];obtain⟨x,rfl⟩:∃x,A=[x]:=by
    match A,h1 with
    |[x],_=>exact⟨x,rfl⟩
   have d5:a_ ai [x0, qI p, qL a, qL h, x4, qn] s4=.ok (.loc s4.length) s5:=by rw[du (vs:=[]) (s1:=s4) rfl (by decide),e5]
   have i4:bQ (.loc a) (.int 0) s4=.ok (.int x) s4:=bT (aB (F4 _ _ (sA _ _ la))) t_;have n5:pk (.tup [.int x,.loc c]) (.tup [.int x,.loc s4.length]) s5=.ok (.bl false) s5:=by
    have e1:pj 15 s5 (.int x) (.int x)=some true:=Ay s5 14 (.int x) rfl;have e2:pj 15 s5 (.loc c) (.loc s4.length)=some true:=Ji (R:=[]) (F5 _ _ (l4 rfl)) l5;have e3:pj 16 s5 (.tup [.int x,.loc c]) (.tup [.int x,.loc s4.length])=some true:=by show mE (pj 15 s5) [.int x,.loc c] [.int x,.loc s4.length]=_;simp only[mE,e1,e2,Bool.and_self]
    unfold pk;rw[e3];rfl
   refine⟨s5,F4.trans F5,?_⟩;have b4':PM.fR M [.int p,.loc h] s3=.ok (.tup [.int x,.loc c]) s4:=b4;generalize a_ ai=D2 at d5⊢;simp only[aj,ax,av,aH,aw,j_,ay,ar,iG,bS,bj,aR,aQ,iu,az,aq,fX,au,bN,bh,dc,aK,aU,aD,Vm,Vx,Nat.reduceAdd,VB,Nat.reduceLeDiff,↓reduceIte,kl sA,z,b4',i4,d5,n5]
  .have z:(L==1)=false:=by simp;lia
   exact⟨s3,Fr.refl _,by simp only[aj,ax,av,aH,aw,mR,ay,ar,bS,bj,aR,aQ,iu,az,aq,au,bN,bh,dc,aU,aD,kl sA,z]⟩
 have CB:=sA.trans F4
 -- fQ
 obtain⟨s5,b5,F5⟩:=Ve (M:=M) hp (CB _ _ lh) hA lA;obtain⟨U,hU⟩:∃U:Str,U=if 2<=A.length/\aO A=1 then("told":Str) else("plain":Str):=⟨_,rfl⟩
 rw[<-hU]at b5;obtain⟨s6,e6,F6,l6,_⟩:=bD (s:=s5) [.str "plain",.str "told"];have RX:=CB.trans (F5.trans F6);have qe:=Ir (aB (RX _ _ lh)) (aB (RX _ _ la)) (si _ A);obtain⟨B,f7,hB⟩:∃B:Bool,aM 5 (Ae (ag sO (ak bF (aa cQ ai)) cI) (ag jC (ag bQ cQ (iK cI)) cI)) [x0, qI p, qL a, qL h, x4, qn] s4=.nx [x0, qI p, qL a, qL h, x4, some (.bl B)] s4/\(B=true↔2<=A.length/\aO A=1):=by
  by_cases h2:2<=A.length
  .have z:decide ((1:Int)<L)=true:=VZ (by lia);have nA:A≠[]:=λq=>by rw[q]at h2;exact absurd h2 (by decide)
   have gx:=bT (aB (CB _ _ la)) (kZ nA);exact⟨aO A==1,by simp only[aj,ax,av,aH,aw,jI,ay,ar,bH,bj,jm,az,aq,au,dz,gk,a!,fi,dc,aU,aD,Vn,Vt,kl CB,z,gx],by simp[h2]⟩
  .have z:decide ((1:Int)<L)=false:=VT (by lia);exact⟨false,by simp only[aj,ax,av,aH,aw,pN,ay,ar,bH,bj,jm,az,aq,au,a!,fi,aU,aD,Vn,Vt,kl CB,z],by simp;lia⟩
 refine⟨s6,?_⟩;unfold m5;rw[aG,f5,aL];unfold AK;rw[aG,f6,aL];unfold AJ;rw[aG,f7,aL];unfold AI;have d6:a_ (aa (qs "plain") (aa (qs "told") ai)) [x0, qI p, qL a, qL h, x4, some (.bl B)] s5=.ok (.loc s5.length) s6:=by rw[du (vs:=[.str "plain",.str "told"]) (s1:=s5) rfl (by show 2<=1000;decide),e6]
 generalize a_ (aa (qs "plain") (aa (qs "told") ai))=D at d6⊢;cases B with
 |true=>
  have q:=hB.mp rfl;rw[VC q]at hU;have i6:bQ (.loc s5.length) (.int 1) s6=.ok (.str "told") s6:=bT (aB l6) Bq;have z:(U==("told":Str))=true:=by rw[hU];decide
  simp only[aj,ax,av,aH,aw,jI,ay,ar,bu,bj,jm,az,aq,au,aZ,DN,aK,DJ,aU,aD,↓reduceIte,DU,b5,d6,i6,z,qe]
 |false=>
  have q:¬ (2<=A.length/\aO A=1):=λq=>by have:=hB.mpr q;cases this
  rw[VI q]at hU;have i6:bQ (.loc s5.length) (.int 0) s6=.ok (.str "plain") s6:=bT (aB l6) t_;have z:(U==("plain":Str))=true:=by rw[hU];decide
  simp only[aj,ax,av,aH,aw,jI,ay,ar,bu,bj,jm,az,aq,au,aZ,DN,aK,DJ,aU,aD,↓reduceIte,DU,b5,d6,i6,z,qe,WG]
end
end u9
namespace MN
open PySem.Spec L2
open PyProof.Rows hiding St kindOf
theorem dQ{P:_e}{sc:Scope}(a:sc.kind=.function:=by rfl)(b:sc.isCoroutine=false:=by rfl)(c:sc.isGenerator=false:=by rfl)(d:N.Nodup:=by decide +kernel)(e:N.take P.length=P:=by rfl)(f:∀x∈P,sc.names.lookup x=some .local\/sc.names.lookup x=some .cell:=by decide +kernel)(g:∀y∈sc.names,y.2≠.free:=by decide +kernel):fN N P sc:=⟨a,b,c,d,e,f,g⟩
theorem jz(sI:closureFor scope X.env=pure cl:=by rfl)(A:g? X scope cl bE:=by repeat first|exact .nil|refine .cons (by rfl) (by rfl) (by first|exact Or.inl rfl|exact Or.inr rfl) (by first|exact Or.inl rfl|exact Or.inr rfl) ?_)(has:((relabel scope X.env).names.all λp => !(p.2 == .cell || p.2 == .free) || (cl.map (·.1)).contains p.1)=true:=by rfl)(gA:(scope.names.all λp => !(p.2 == .cell))=true:=by rfl)(kind:scope.kind=.function:=by rfl)(names:(scope.names.all λp => !(p.2 == .local) || scope.names.lookup p.1==some .local)=true:=by rfl)(len:N.length=k+bE.length:=by rfl)(hN:N.drop k=cl.map (·.1):=by rfl):uv X N scope cl k bE:=TU sI A has gA kind names len hN
theorem Ew{cl':List (Str×_i)}{caps':List Nat}(sI:closureFor scope X.env=pure cl':=by rfl)(A:g? X scope cl bE:=by repeat first|exact .nil|refine .cons (by rfl) (by rfl) (by first|exact Or.inl rfl|exact Or.inr rfl) (by first|exact Or.inl rfl|exact Or.inr rfl) ?_)(B:g? X scope cl' caps':=by repeat first|exact .nil|refine .cons (by rfl) (by rfl) (by first|exact Or.inl rfl|exact Or.inr rfl) (by first|exact Or.inl rfl|exact Or.inr rfl) ?_)(has:((relabel scope X.env).names.all λp => !(p.2 == .cell || p.2 == .free) || (cl'.map (·.1)).contains p.1)=true:=by rfl)(gA:(scope.names.all λp => !(p.2 == .cell))=true:=by rfl)(kind:scope.kind=.function:=by rfl)(names:(scope.names.all λp => !(p.2 == .local) || scope.names.lookup p.1==some .local)=true:=by rfl)(len:N.length=k+bE.length:=by rfl)(hN:N.drop k=cl.map (·.1):=by rfl):uv X N scope cl' k bE:=TZ sI A B has gA kind names len hN
def MgK(K:Z')(mg:Z!):Prop:=∀x f,W.nsIn K mainGlobals x=some (some (.ref f))->mg x=some (.ref f)
theorem jZ{x:Str}:∀{l:_e},Mg mg l->x∈l->mg x=none
 |y::l,h,hx=>by
  rcases V5.mp hx with e|e
  .rw[e];exact h.1
  .exact jZ h.2 e
theorem Rk{x:Str}:∀{l:_e},Mh K mg l->x∈l->HU K mg x
 |y::l,h,hx=>by
  rcases V5.mp hx with e|e
  .rw[e];exact h.1
  .exact Rk h.2 e
theorem FnAt.j0{st:Stmt}(F:dW K x st)(hm:MgK K mg)(S:fN N ps (aY st))
  (h:∀ (f:_i) (fF:_g) (A:_j) (outer:List PySem.Env) (s:_h) (H:Hp) (E:XK),N.Nodup->fj k (A.deeper (envOfC x (aY st) s.heap.objs.size f fF)) ->
   l? (iI (nO P w) P w K mg base N x (aY st) f fF A outer s H E) (dg st) (tS (iI (nO P w) P w K mg base N x (aY st) f fF A outer s H E) E body))
  (hb:∀ (kV doc pm:_g) (an:Option _i) (fF ct:_g) (us:_b),us.length=ps.length->bindArgs (W.fnOf x x (gw st) (dg st) (aY st) .none kV doc pm an fF ct) ⟨us,[]⟩=pure (ps.zip us):=by
   first|exact λ_ _ _ _ _ _=>wq λ_=>rfl|exact λ_ _ _ _ _ _=>P0 λ_ _=>rfl|exact λ_ _ _ _ _ _=>T3 λ_ _ _=>rfl|exact λ_ _ _ _ _ _=>len0 rfl):FnAt P w K mg base x (k+1) (g_ ps.length N.length body):=by
 obtain⟨f,fd,F,a⟩:=F;exact FnAt.mk F (hm _ _ a) S hb λfF A outer s H E=>h f fF A outer s H E S.nd
end MN
namespace u9
open PySem.Spec L2 MN PG
open PyProof.Rows hiding St kindOf
section
variable{a:Nat}{s:af}{A:_a}{M:ji}
abbrev loB(M:ji):MB:=mz (dY (ag pk (ak (bU M) (aa fT (aa (ak PM.ie (aa (ak PM.bA (aa bg (aa RC ai))) ai)) (aa dJ ai)))) (qs "prime"))) (bM (mC (.bl false))) dh
theorem t6(hi:ao s 0=some (ns.map ah.int))(hp:fJ p=true)(la:s[a]?=some (aV A))(hA:Row p A)(lA:A.length<=5)(hT:jV s M.own M.line M.col M.S.qual)(yF:M.S.ps.length=1):∃s',m6 M [qL 0, qI p, qL a, qn, qn, qn] s=.rt (.bl true) s':=by
 have c1:=tZ (aB la);obtain⟨s1,e1,F1,l1,_⟩:=bD (s:=s) (A.map ah.int);rw[<-e1]at c1;obtain⟨h,hh⟩:∃h,h=s.length:=⟨_,rfl⟩
 rw[<-hh]at c1 l1;obtain⟨s2,e2,F2,l2,_⟩:=bD (s:=s1) [.int 0,.int 1];obtain⟨μ',s3,ef,F3,x4,rfl⟩:=dN (g:=λaC=>ao aC s1.length=some [.int 0,.int 1]) (a:=aF 4) (body:=loB M) (λ_ μ s'=>Fr s2 s'/\∃x4,μ=[qL 0, qI p, qL a, qL h, x4, qn]) [.int 0,.int 1] 0 [qL 0, qI p, qL a, qL h, qn, qn] s2 (by
  rintro i u μ s' hu ⟨F,x4,rfl⟩;obtain⟨w,rfl⟩:∃w,u=.int w:=by
   rcases V5.mp (Wc hu)with rfl|m
   .exact⟨0,rfl⟩
   .rw[VN.mp m];exact⟨1,rfl⟩
  obtain⟨o,eo⟩:=m8 (k:=3) ((F1.trans (F2.trans F)).it hi) (by decide) (by decide);obtain⟨g,v,eb,hv⟩:=Gj o s';obtain⟨kz,ew,F'⟩:=Vf (M:=M) (n:=h) (s:=s'++g) hv w;have z:(("prime":Str) == "prime")=true:=by decide
  exact⟨aB (F _ _ l2),_,rfl,[qL 0, qI p, qL a, qL h, qI w, qn],kz,.inl (by simp only[aj,ax,av,aH,aw,ay,ar,bS,bj,aR,aQ,az,aq,au,bN,bh,Au,aK,aU,aD,Vn,Vt,Wi,eo,eb,ew,z]),(F.trans (Fr.app s' g)).trans F',_,rfl⟩) (λ_ s'⟨F,_⟩=>aB (F _ _ l2)) ⟨Fr.refl _,_,rfl⟩
 have F:=F1.trans (F2.trans F3);obtain⟨s',e'⟩:=Vg (M:=M) (x0:=some (.loc 0)) (x4:=x4) hp (F _ _ la) (F3 _ _ (F2 _ _ l1)) hA lA (Eu hT F) yF;refine⟨s',?_⟩;have d2:a_ (aa cT (aa cI ai)) [qL 0, qI p, qL a, qL h, qn, qn] s1=.ok (.loc s1.length) s2:=by rw[du (vs:=[.int 0,.int 1]) (s1:=s1) rfl (by decide),e2]
 unfold m6 AL;show aA (aM 3 (ak uG (aa cQ ai))) (aA (iM (gN (a_ (aa cT (aa cI ai)))) (aF 4) (loB M)) (m5 M)) _ s=_;generalize m5 M=T at e'⊢;generalize loB M=B at ef⊢;generalize a_ (aa cT (aa cI ai))=D at d2⊢;simp only[aj,ax,aL,ay,ar,bH,iW,az,aq,au,aG,a!,gm,ej,aU,aD,Vn,Vt,c1,d2,dG (aB l2),ef,e']
end
theorem JW(M:ji)(yF:M.S.ps.length=1):∀(c:aS)(ns:_a),ns.length<=63->ao [c,.tab M.own M.line M.col M.S.qual] 0=some (ns.map ah.int)->∃aC,xu M [.loc 0] [c,.tab M.own M.line M.col M.S.qual]=.ok (.bl true) aC:=by
 intro c ns hl hi;obtain⟨st,xT⟩:∃st,[c,aS.tab M.own M.line M.col M.S.qual]=st:=⟨_,rfl⟩
 have hT:jV st M.own M.line M.col M.S.qual:=⟨1,by rw[<-xT];rfl⟩
 rw[xT]at hi⊢;obtain⟨o0,e0⟩:=m8 (k:=0) hi (by decide) (by decide);obtain⟨g1,p,ep,hp⟩:=JV o0 st;have hr:=aJ hp;have RV:=bP hi g1;obtain⟨o1,e1⟩:=m8 (k:=1) RV (by decide) (by decide);obtain⟨o2,e2⟩:=m8 (k:=2) RV (by decide) (by decide);have w2:=jK (m:=5) (by decide) o2;obtain⟨g2,a,A,ea,_,la,lA,rA,cA⟩:=wz hp o1 (z:=o2.fmod 5) w2.1 (by lia) (st++g1);have Q4:=bP RV g2;obtain⟨s3,v!⟩:∃t,st++g1++g2=t:=⟨_,rfl⟩
 have F3:Fr st s3:=by rw[<-v!];exact(Fr.app st g1).more g2
 rw[v!]at ea Q4 la;obtain⟨o3,e3⟩:=m8 (k:=2) Q4 (by decide) (by decide);have RA:Row p A:=⟨cA,rA⟩
 have d5:jF (.int o3) (.int 5) s3=.ok (.int (o3.fdiv 5)) s3:=div_ii (I? (by decide) (by decide));have head:∀r,m7 M [qL 0, qI p, qL a, qn, qn, qn] s3=r->xu M [.loc 0] st=r.fin:=λr er=>by rw[<-er];generalize hQ:m7 M=T;simp only[xu,AM,bb,aj,ax,aL,av,aH,aw,ay,ar,bH,bj,az,aq,au,aG,a!,aK,aU,aD,Vs,VE,Vz,Vu,Vy,Vr,Vn,Vt,Nat.reduceSub,Vm,Vx,Nat.reduceAdd,hQ,e0,ep,e1,e2,cj (j:=5) (by decide),ea]
 cases q:((o3.fdiv 5).fmod 3==1) with
 |true=>
  obtain⟨s4,e4,F4,l4,_⟩:=bD (s:=s3) [.int 1];have c4:=oV (F4 _ _ la) l4 (by rw[aI,V3,VB];lia);obtain⟨s5,e5,F5,l5,_⟩:=bD (s:=s4) (A.map ah.int++[.int 1]);rw[<-e5]at c4;have l5':s5[s4.length]?=some (aV (A++[1])):=by rw[l5];show _=some (aS.lst ((A++[1]).map ah.int));rw[Ws];rfl
  have F35:=F4.trans F5;obtain⟨s',e'⟩:=t6 (M:=M) (A:=A++[1]) (F35.it Q4) hp l5' ⟨ij rfl A,λx mx=>by
   rcases VX.mp mx with mx|mx
   .exact rA x mx
   .rw[VN.mp mx];lia⟩ (by rw[Vv,V3];lia) (Eu hT (F3.trans F35)) yF
  refine⟨s',?_⟩;rw[head (.rt (.bl true) s')]
  .rfl
  .rw[<-e'];have d4:a_ (aa cI ai) [qL 0, qI p, qL a, qn, qn, qn] s3=.ok (.loc s3.length) s4:=by rw[du (vs:=[.int 1]) (s1:=s3) rfl (by decide),e4]
   unfold m7;generalize m6 M=T;generalize a_ (aa cI ai)=D at d4⊢;simp only[aj,ax,aL,av,aH,aw,ay,ar,dC,bH,bj,aR,aQ,az,aq,au,aG,bh,a!,dc,aU,aD,Vn,Vt,e3,d5,cj (j:=3) (by decide),q,d4,c4]
 |false=>
  obtain⟨s',e'⟩:=t6 (M:=M) Q4 hp la RA (by lia) (Eu hT F3) yF;refine⟨s',?_⟩;rw[head (.rt (.bl true) s')]
  .rfl
  .rw[<-e'];unfold m7;generalize m6 M=T;simp only[aj,ax,aL,av,aH,aw,ay,ar,bS,bj,aR,aQ,az,aq,au,aG,bN,bh,dc,aU,e3,d5,cj (j:=3) (by decide),q]
open PySem.Spec L2 MN
open PyProof.Rows hiding St
def top(i:Nat):Stmt:=PySem.Challenge.pw_polyring_k23_not_factored.main.body.getD i (.Pass ⟨0,0,0,0⟩)
structure Txt(P:_k)(w:World)(K:Z')(mg:Z!)(base:Heap):Prop where
 gl:MgK K mg
 b:Mg mg ["ValueError","abs","all","bool","enumerate","int","isinstance","len","list","max","range","sorted","tuple","zip"]
 c:Mh K mg ["AlgebraError","NoRing","NoPrime","NoInverse","NotWhole","NoUnknowns","NoTerm","NoCount","NoLead","NoOrder","NotWritten","ByNought","NoMeet","NoParts","NotPlain","NoSums"]
 Bc:Glob K mg "MOST_RING" (.int 997)
 vK:Glob K mg "FIRST_PRIMES" PM.gR
 sub:gj K mg tab
 qx:wt K mg u9.kn
theorem MX{m:ME}(hN:X.N.Nodup)(he:PE X e (tE X E m))(hi:X.N[i]?=some x:=by rfl)(hx:Loc X.env.scope x:=by first|exact Or.inl rfl|exact Or.inr rfl)(hs:swapsWith e (some (.Name x pos')) pos.line X.env=pure false:=by rfl)(hf:X.fn x=true\/X.env.scope.names.lookup x=some .local:=by first|exact .inl rfl|exact .inr rfl|assumption):PS X (.Assign [.Name x pos'] e pos) (tS X E (aM i m)):=Po i hN he hi hx hs hf
section
variable{P:_k}{w:World}{K:Z'}{mg:Z!}{base:Heap}(T:Txt P w K mg base)
theorem oK:fN ["_law_e","_law_marks_here"] ["_law_e"] (aY (top 69)):=dQ
theorem oM:fN ["_law_e","_law_marks_here","_law_names"] ["_law_e"] (aY (top 70)):=dQ
def abl:Option Expr:=IZ (dg (top 55))
def M:ji:=⟨T8 abl "factors.<locals>.<lambda>" ["entry"] "","factors",208,39⟩
theorem abm:M.S.NM:=gr.aa9 rfl rfl rfl rfl rfl (by decide +kernel) (λ_ _ _ _=>wq λ_=>rfl)
theorem vL:fN ["prime","row","pair","found","part","many"] ["prime","row"] (aY (top 55)):=dQ
theorem JX:fN ["_law_script","_law_prime","_law_row","_law_handed","_law_way","_law_fit"] ["_law_script"] (aY (top 72)):=dQ
seal L2.PE L2.PT L2.PA L2.PS L2.l? L2.PG L2.Bs L2.PI L2.Dg L2.Ka L2.wk L2.PH
set_option hygiene false
local macro_rules|`(tactic|trivial)=>`(tactic|repeat' first|((with_reducible show PA _ (_::_) _);refine tQ ?_ ?_)|with_reducible exact BO|((with_reducible show PE _ (.Name ..) _);first|exact BM _|exact Dm (by rfl) T.Bc|exact Dm (by rfl) T.vK)|((with_reducible show PE _ (.Constant ..) _);first|exact BN|exact Tu|exact O?|exact O')|((with_reducible show PE _ _ (tG _ _ _ (ak BR _)));refine j7 (Ff hr.hd) (by rfl) (jZ T.b (by decide +kernel)) PyProof.Rows.boot_all ?_)|((with_reducible show PE _ _ (tG _ _ _ (ak Ah _)));refine j7 Fc (by rfl) (jZ T.b (by decide +kernel)) PyProof.Rows.boot_abs ?_)|((with_reducible show PE _ _ (tG _ _ _ (ak bF _)));refine j7 xc (by rfl) (jZ T.b (by decide +kernel)) boot_len ?_)|((with_reducible show PE _ _ (tG _ _ _ (ak uG _)));refine qv Fe (by rfl) (jZ T.b (by decide +kernel)) PyProof.Rows.boot_list ?_)|((with_reducible show PE _ _ (tG _ _ _ (ak BQ _)));refine qv Fd (by rfl) (jZ T.b (by decide +kernel)) PyProof.Rows.boot_tuple ?_)|((with_reducible show PE _ _ (tG _ _ _ (ak Fp _)));refine j7 (Fq hr.hd) (by rfl) (jZ T.b (by decide +kernel)) PyProof.Rows.Boot.«max» ?_)|((with_reducible show PE _ _ (tG _ _ _ (ak pV _)));refine j7 (AE hr.hd) (by rfl) (jZ T.b (by decide +kernel)) PyProof.Rows.Boot.«sorted» ?_)|((with_reducible show PE _ _ (tG _ _ _ (ak B3 _)));refine qv Fs (by rfl) (jZ T.b (by decide +kernel)) PyProof.Rows.Boot.«int» ?_)|((with_reducible show PE _ _ (tG _ _ _ (ak _ _)));refine TV (by assumption) hr (by decide) (by rfl) (by first|exact Hg|exact TL) ?_)|((with_reducible show PE _ _ (tG _ _ _ (ag bQ _ _)));refine BZ ?_ ?_)|((with_reducible show PE _ _ (tG _ _ _ (ag se _ _)));refine LK hr.units ?_ ?_)|((with_reducible show PE _ _ (tG _ _ _ (Ae _ _)));refine Pe ?_ ?_)|((with_reducible show PE _ _ (tG _ _ _ (mOr _ _)));refine Tv ?_ ?_)|((with_reducible show PE _ _ (tG _ _ _ (Kd _ _ _)));refine Tx ?_ ?_ ?_)|((with_reducible show PE _ _ (tG _ _ _ (gB _)));refine Ht ?_)|((with_reducible show PE _ _ (tG _ _ _ (a_ _)));refine Pk ?_)|((with_reducible show PE _ _ (tG _ _ _ (B0 _ _ _)));refine TY ?_ ?_ ?_)|((with_reducible show PE _ _ (tG _ _ _ (t8 _ _)));refine FT ?_ ?_)|((with_reducible show PE _ _ (tG _ _ _ (yw)));refine HW)|((with_reducible show PE _ (.BinOp ..) _);first|refine QH ?_ ?_|refine QG ?_ ?_|refine QD ?_ ?_|refine QE ?_ ?_|refine QF ?_ ?_|refine QI ?_ ?_)|((with_reducible show PE _ (.Compare ..) _);first|refine Us hr.units ?_ ?_|refine Ut hr.units ?_ ?_|refine qt Hz ?_ ?_|refine qt HA ?_ ?_|refine qt HF ?_ ?_|refine qt HH ?_ ?_)|((with_reducible show PE _ (.UnaryOp ..) _);first|refine Pp ?_|refine Pf ?_)|((with_reducible show PE _ (.Call (.Attribute ..) ..) _);first|refine Ft ?_ ?_|refine Fu ?_ ?_|refine II ?_ ?_|refine IJ ?_ ?_|refine L4 ?_)|((with_reducible show PE _ _ (tG _ _ _ (TH _ _)));first|refine HJ HK (by rfl) (jZ T.b (by decide +kernel)) (by rfl) (jZ T.b (by decide +kernel)) PyProof.Rows.boot_int ?_|refine HJ Fg (by rfl) (jZ T.b (by decide +kernel)) (by rfl) (jZ T.b (by decide +kernel)) PyProof.Rows.boot_bool ?_)|((with_reducible show PE _ _ (tG _ _ _ (fG _ _ _ _)));refine Mf _ T.sub T.qx (Rk T.c (by decide +kernel)) (by rfl) (jZ T.b (by decide +kernel)) (by rfl))|((with_reducible show PE _ _ (tG _ _ _ (yr _ _ _)));exact LJ _ T.sub (jZ T.b (by decide +kernel)) oF (by rfl) (jZ T.b (by decide +kernel)) (by rfl))|((with_reducible show l? _ [_] _);refine Hu ?_)|((with_reducible show l? _ (_::_) _);refine Dn ?_ ?_)|with_reducible exact Pl|((with_reducible show PS _ (.Assign [.Name ..] ..) _);refine MX (by assumption) ?_)|((with_reducible show PS _ (.Assign [.Subscript ..] ..) _);first|refine LL hr.units ?_ ?_ ?_|refine LS ?_ ?_ ?_)|((with_reducible show PS _ (.Return ..) _);refine Pn ?_)|((with_reducible show PS _ (.If ..) _);refine TC ?_ ?_ ?_)|((with_reducible show PS _ (.Expr ..) _);refine Lo ?_)|((with_reducible show PS _ (.While ..) _);refine HP Al ?_ ?_)|((with_reducible show PS _ (.For ..) _);refine PF Al rfl ?_ ?_ ?_)|((with_reducible show PS _ (.Raise ..) _);refine Fm BX rfl (Rk T.c (by decide +kernel)) (by rfl) ?_)|((with_reducible show PI _ _ _ (tG _ _ _ (gN _)));refine PB ?_)|((with_reducible show PI _ _ (.Call ..) _);first|refine Fh (by rfl) (jZ T.b (by decide +kernel)) ?_|refine Fi (by rfl) (jZ T.b (by decide +kernel)) ?_|refine LX (by rfl) (jZ T.b (by decide +kernel)) ?_|refine PD _ _ (by rfl) (jZ T.b (by decide +kernel)) ?_|refine LY (by rfl) (jZ T.b (by decide +kernel)) ?_)|((with_reducible show PG _ (.Name ..) _);exact LC _ (by assumption))|((with_reducible show PG _ (.Tuple ..) _);refine Px rfl ?_)|((with_reducible show Bs _ (_::_) _);refine HL ?_ ?_)|with_reducible exact LD|((with_reducible show Dg _ [] _);exact LF)|((with_reducible show Dg _ [_] _);refine LG ?_)|((with_reducible show PT _ (.Compare ..) _);first|refine Uq hr.units ?_ ?_|refine Ur hr.units ?_ ?_|refine Um ?_ ?_|refine Uo ?_ ?_|refine qu HF ?_ ?_|refine qu HH ?_ ?_)|((with_reducible show PT _ (.UnaryOp ..) _);refine Pj ?_)|((with_reducible show PT _ (.BoolOp ..) _);refine aaX ?_)|((with_reducible show PT _ _ (tG _ _ _ (dY _)));refine Pa ?_)|refine LN ?_|exact LM|refine Tw ?_ ?_|refine Pg ?_|refine Ph ?_ ?_|refine Lm ?_|refine Pd ?_|((with_reducible show l? _ _ _);first|refine Hu ?_|refine Dn ?_ ?_))
include T
theorem Bd(F:dW K "is_whole" (top 20)):FnAt P w K mg base "is_whole" 1 PM.jk:=
 FnAt.j0 F T.gl (dQ (N:=["thing"]) (P:=["thing"])) (λ_ _ _ _ s _ _ nd hr=>by
 trivial)
variable(CK:FnAt P w K mg base "is_whole" 1 PM.jk)
theorem o_(F:dW K "is_prime_within" (top 21)):FnAt P w K mg base "is_prime_within" 1 PM.cJ:=
 FnAt.j0 F T.gl (dQ (N:=["number"]) (P:=["number"])) (λ_ _ _ _ s _ _ nd hr=>by
 have:(["prime","number"]:_e).Nodup:=by decide +kernel
 trivial
 .refine fO (N:=["prime","number"]) (k:=1) rfl rfl (jz (cl:=[("number",s.heap.objs.size+1)])) ?_ (λ_ _ _ _=>?_) (λ_ _ _ _=>?_) (λ_ _ _ _=>?_)<;>trivial)
variable(p7:FnAt P w K mg base "is_prime_within" 1 PM.cJ)
theorem vM(F:dW K "signed_unit" (top 25)):FnAt P w K mg base "signed_unit" 1 PM.fU:=
 FnAt.j0 F T.gl (dQ (N:=["number"]) (P:=["number"])) (λ_ _ _ _ s _ _ nd hr=>by
 trivial)
variable(wC:FnAt P w K mg base "signed_unit" 1 PM.fU)
theorem q_(F:dW K "whole_inverse" (top 28)):FnAt P w K mg base "whole_inverse" 1 PM.jW:=
 FnAt.j0 F T.gl (dQ (N:=["number"]) (P:=["number"])) (λ_ _ _ _ s _ _ nd hr=>by
 trivial)
variable(sS:FnAt P w K mg base "whole_inverse" 1 PM.jW)
theorem sT(F:dW K "row_of_rests" (top 30)):FnAt P w K mg base "row_of_rests" 1 PM.cF:=
 FnAt.j0 F T.gl (dQ (N:=["prime","numbers","row"]) (P:=["prime","numbers"])) (λ_ _ _ _ s _ _ nd hr=>by
 have:(["number","prime"]:_e).Nodup:=by decide +kernel
 trivial
 .refine MN.jg 2 (N:=["number","prime"]) (k:=1) nd rfl rfl (jz (cl:=[("prime",s.heap.objs.size+1)])) ?_ (λ_ _ _ _=>?_) (λ_ _ _ _=>?_) (λ_ _ _ _=>?_)<;>trivial)
variable(e!:FnAt P w K mg base "row_of_rests" 1 PM.cF)
theorem sU(F:dW K "with_noughts" (top 32)):FnAt P w K mg base "with_noughts" 1 PM.d_:=
 FnAt.j0 F T.gl (dQ (N:=["row","length"]) (P:=["row","length"])) (λ_ _ _ _ s _ _ nd hr=>by
 trivial)
variable(ny:FnAt P w K mg base "with_noughts" 1 PM.d_)
theorem p8(F:dW K "without_column" (top 45)):FnAt P w K mg base "without_column" 1 PM.eZ:=
 FnAt.j0 F T.gl (dQ (N:=["prime","row","step","column","factor"]) (P:=["prime","row","step","column"])) (λ_ _ _ _ s _ _ nd hr=>by
 have:(["one","other","factor","prime"]:_e).Nodup:=by decide +kernel
 trivial
 .refine fO (N:=["one","other","factor","prime"]) (k:=2) rfl rfl (Ew (cl:=[("factor",s.heap.objs.size+2),("prime",s.heap.objs.size+1)]) (cl':=[("prime",s.heap.objs.size+1),("factor",s.heap.objs.size+2)]) (caps':=[0,4])) ?_ (λ_ _ _ _=>?_) (λ_ _ _ _=>?_) (λ_ _ _ _=>?_)<;>trivial) (λ_ _ _ _ _ _=>P_ λ_ _ _ _=>rfl)
variable(q!:FnAt P w K mg base "without_column" 1 PM.eZ)
theorem Be(F:dW K "unit_row" (top 47)):FnAt P w K mg base "unit_row" 1 PM.j':=
 FnAt.j0 F T.gl (dQ (N:=["place","length"]) (P:=["place","length"])) (λ_ _ _ _ s _ _ nd hr=>by
 have:(["k","place"]:_e).Nodup:=by decide +kernel
 trivial
 .refine fO (N:=["k","place"]) (k:=1) rfl rfl (jz (cl:=[("place",s.heap.objs.size+1)])) ?_ (λ_ _ _ _=>?_) (λ_ _ _ _=>?_) (λ_ _ _ _=>?_)<;>trivial)
variable(CM:FnAt P w K mg base "unit_row" 1 PM.j')
theorem sV(F:dW K "_law_cell_at" (top 63)):FnAt P w K mg base "_law_cell_at" 1 PM.bA:=
 FnAt.j0 F T.gl (dQ (N:=["_law_script","_law_k","_law_cell","_law_one","_law_two"]) (P:=["_law_script","_law_k"])) (λ_ _ _ _ s _ _ nd hr=>by
 trivial)
variable(vN:FnAt P w K mg base "_law_cell_at" 1 PM.bA)
theorem q?(F:dW K "_law_prime_to" (top 64)):FnAt P w K mg base "_law_prime_to" 1 PM.gW:=
 FnAt.j0 F T.gl (dQ (N:=["_law_cell"]) (P:=["_law_cell"])) (λ_ _ _ _ s _ _ nd hr=>by
 trivial)
variable(sW:FnAt P w K mg base "_law_prime_to" 1 PM.gW)
theorem Bf(F:dW K "_law_cut" (top 65)):FnAt P w K mg base "_law_cut" 1 PM.pL:=
 FnAt.j0 F T.gl (dQ (N:=["_law_numbers","_law_many"]) (P:=["_law_numbers"])) (λ_ _ _ _ s _ _ nd hr=>by
 trivial)
variable(CN:FnAt P w K mg base "_law_cut" 1 PM.pL)
theorem sX(F:dW K "_law_product" (top 67)):FnAt P w K mg base "_law_product" 1 PM.gL:=
 FnAt.j0 F T.gl (dQ (N:=["_law_far","_law_number"]) (P:=["_law_far"])) (λ_ _ _ _ s _ _ nd hr=>by
 have:(["_law_k","_law_number"]:_e).Nodup:=by decide +kernel
 trivial
 .refine fO (N:=["_law_k","_law_number"]) (k:=1) rfl rfl (jz (cl:=[("_law_number",s.heap.objs.size+1)])) ?_ (λ_ _ _ _=>?_) (λ_ _ _ _=>?_) (λ_ _ _ _=>?_)<;>trivial)
variable(vO:FnAt P w K mg base "_law_product" 1 PM.gL)
theorem wD(F:dW K "_law_marks" (top 69)):pU P w K mg base "_law_marks" 1 fZ:=let⟨_,_,F,a⟩:=F
 pU.mk F (T.gl _ _ a) oK (λ_ _ _ _ _ _=>wq λ_=>rfl) λfF A outer s H ea oe hr=>by
 have:=oK.nd;trivial
variable(p9:pU P w K mg base "_law_marks" 1 fZ)
include CK p7 in
theorem CO(F:dW K "is_ring" (top 22)):FnAt P w K mg base "is_ring" 2 PM.iq:=
 FnAt.j0 F T.gl (dQ (N:=["thing"]) (P:=["thing"])) (λ_ _ _ _ s _ _ nd hr=>by
 trivial)
variable(xJ:FnAt P w K mg base "is_ring" 2 PM.iq)
include wC in
theorem Gm(F:dW K "shared" (top 26)):FnAt P w K mg base "shared" 2 PM.shared:=
 FnAt.j0 F T.gl (dQ (N:=["one","other","upper","lower","often","following"]) (P:=["one","other"])) (λ_ _ _ _ s _ _ nd hr=>by
 have:(["high","low","often"]:_e).Nodup:=by decide +kernel
 trivial
 .refine fO (N:=["high","low","often"]) (k:=2) rfl rfl (jz (cl:=[("often",s.heap.objs.size+1)])) ?_ (λ_ _ _ _=>?_) (λ_ _ _ _=>?_) (λ_ _ _ _=>?_)<;>trivial)
variable(JY:FnAt P w K mg base "shared" 2 PM.shared)
include e! ny in
theorem nC(F:dW K "row_with_multiple" (top 31)):FnAt P w K mg base "row_with_multiple" 2 PM.bB:=
 FnAt.j0 F T.gl (dQ (N:=["prime","ones","others","factor","length","longer"]) (P:=["prime","ones","others","factor"])) (λ_ _ _ _ s _ _ nd hr=>by
 have:(["one","other","factor"]:_e).Nodup:=by decide +kernel
 trivial
 .refine fO (N:=["one","other","factor"]) (k:=2) rfl rfl (jz (cl:=[("factor",s.heap.objs.size+1)])) ?_ (λ_ _ _ _=>?_) (λ_ _ _ _=>?_) (λ_ _ _ _=>?_)<;>trivial) (λ_ _ _ _ _ _=>P_ λ_ _ _ _=>rfl)
variable(gp:FnAt P w K mg base "row_with_multiple" 2 PM.bB)
include e! in
theorem vP(F:dW K "row_product" (top 33)):FnAt P w K mg base "row_product" 2 PM.c!:=
 FnAt.j0 F T.gl (dQ (N:=["prime","ones","others","numbers","power","number","more","other"]) (P:=["prime","ones","others"])) (λ_ _ _ _ s _ _ nd hr=>by
 trivial
 .refine Dy Dx ?_ ?_ ?_<;>trivial)
variable(oN:FnAt P w K mg base "row_product" 2 PM.c!)
include e! in
theorem sY(F:dW K "row_multiple" (top 34)):FnAt P w K mg base "row_multiple" 2 PM.dB:=
 FnAt.j0 F T.gl (dQ (N:=["prime","row","factor"]) (P:=["prime","row","factor"])) (λ_ _ _ _ s _ _ nd hr=>by
 have:(["number","factor"]:_e).Nodup:=by decide +kernel
 trivial
 .refine fO (N:=["number","factor"]) (k:=1) rfl rfl (jz (cl:=[("factor",s.heap.objs.size+1)])) ?_ (λ_ _ _ _=>?_) (λ_ _ _ _=>?_) (λ_ _ _ _=>?_)<;>trivial)
variable(nE:FnAt P w K mg base "row_multiple" 2 PM.dB)
include e! in
theorem sZ(F:dW K "slope_of_row" (top 35)):FnAt P w K mg base "slope_of_row" 2 PM.fo:=
 FnAt.j0 F T.gl (dQ (N:=["prime","row"]) (P:=["prime","row"])) (λ_ _ _ _ s _ _ nd hr=>by
 have:(["power","row"]:_e).Nodup:=by decide +kernel
 trivial
 .refine fO (N:=["power","row"]) (k:=1) rfl rfl (jz (cl:=[("row",s.heap.objs.size+1)])) ?_ (λ_ _ _ _=>?_) (λ_ _ _ _=>?_) (λ_ _ _ _=>?_)<;>trivial)
variable(nF:FnAt P w K mg base "slope_of_row" 2 PM.fo)
include q! in
theorem CP(F:dW K "cleared" (top 44)):FnAt P w K mg base "cleared" 2 PM.cleared:=
 FnAt.j0 F T.gl (dQ (N:=["prime","rows","step","column"]) (P:=["prime","rows","step","column"])) (λ_ _ _ _ s _ _ nd hr=>by
 have:(["row","column","prime","step"]:_e).Nodup:=by decide +kernel
 trivial
 .refine fO (N:=["row","column","prime","step"]) (k:=1) rfl rfl (Ew (cl:=[("column",s.heap.objs.size+3),("prime",s.heap.objs.size+1),("step",s.heap.objs.size+2)]) (cl':=[("step",s.heap.objs.size+2),("prime",s.heap.objs.size+1),("column",s.heap.objs.size+3)]) (caps':=[2,0,3])) ?_ (λ_ _ _ _=>?_) (λ_ _ _ _=>?_) (λ_ _ _ _=>?_)<;>trivial) (λ_ _ _ _ _ _=>P_ λ_ _ _ _=>rfl)
variable(Gn:FnAt P w K mg base "cleared" 2 PM.cleared)
include CM in
theorem wF(F:dW K "with_units" (top 46)):FnAt P w K mg base "with_units" 2 PM.ig:=
 FnAt.j0 F T.gl (dQ (N:=["rows"]) (P:=["rows"])) (λ_ _ _ _ s _ _ nd hr=>by
 have:(["place","row","rows"]:_e).Nodup:=by decide +kernel
 trivial
 .refine fO (N:=["place","row","rows"]) (k:=2) rfl rfl (jz (cl:=[("rows",s.heap.objs.size+1)])) ?_ (λ_ _ _ _=>?_) (λ_ _ _ _=>?_) (λ_ _ _ _=>?_)<;>trivial)
variable(p_:FnAt P w K mg base "with_units" 2 PM.ig)
include CN in
theorem wG(F:dW K "_law_drawn" (top 66)):FnAt P w K mg base "_law_drawn" 2 PM.j8:=
 FnAt.j0 F T.gl (dQ (N:=["_law_prime","_law_cell","_law_size","_law_numbers","_law_k","_law_mixed"]) (P:=["_law_prime","_law_cell","_law_size"])) (λ_ _ _ _ s _ _ nd hr=>by
 trivial)
variable(zd:FnAt P w K mg base "_law_drawn" 2 PM.j8)
include vO in
theorem vQ(F:dW K "_law_bad_by" (top 68)):FnAt P w K mg base "_law_bad_by" 2 PM.ie:=
 FnAt.j0 F T.gl (dQ (N:=["_law_cell","_law_far","_law_some"]) (P:=["_law_cell"])) (λ_ _ _ _ s _ _ nd hr=>by
 trivial)
variable(wH:FnAt P w K mg base "_law_bad_by" 2 PM.ie)
include p9 in
theorem wI(F:dW K "_law_named" (top 70)):pU P w K mg base "_law_named" 2 dF:=let⟨_,_,F,a⟩:=F
 pU.mk F (T.gl _ _ a) oM (λ_ _ _ _ _ _=>wq λ_=>rfl) λfF A outer s H ea oe hr=>by
 have:=oM.nd;trivial
 .exact(AB 0 p9 (hr.mono (by decide)) (by rfl))
variable(p!:pU P w K mg base "_law_named" 2 dF)
include xJ in
theorem wJ(F:dW K "check_ring" (top 23)):FnAt P w K mg base "check_ring" 3 PM.jl:=
 FnAt.j0 F T.gl (dQ (N:=["ring"]) (P:=["ring"])) (λ_ _ _ _ s _ _ nd hr=>by
 trivial)
variable(zg:FnAt P w K mg base "check_ring" 3 PM.jl)
include xJ in
theorem vR(F:dW K "check_prime" (top 24)):FnAt P w K mg base "check_prime" 3 PM.d9:=
 FnAt.j0 F T.gl (dQ (N:=["prime"]) (P:=["prime"])) (λ_ _ _ _ s _ _ nd hr=>by
 trivial)
variable(oO:FnAt P w K mg base "check_prime" 3 PM.d9)
include ny gp in
theorem oA(F:dW K "changes_by_prime" (top 60)):FnAt P w K mg base "changes_by_prime" 3 PM.b9:=
 FnAt.j0 F T.gl (dQ (N:=["prime","rests","first","changes","place","change"]) (P:=["prime","rests","first"])) (λ_ _ _ _ s _ _ nd hr=>by
 trivial)
variable(jA:FnAt P w K mg base "changes_by_prime" 3 PM.b9)
include sS JY zg in
theorem CQ(F:dW K "inverse" (top 27)):FnAt P w K mg base "inverse" 4 PM.inverse:=
 FnAt.j0 F T.gl (dQ (N:=["ring","number"]) (P:=["ring","number"])) (λ_ _ _ _ s _ _ nd hr=>by
 trivial)
variable(om:FnAt P w K mg base "inverse" 4 PM.inverse)
include e! om in
theorem Gp(F:dW K "parted" (top 37)):FnAt P w K mg base "parted" 5 PM.parted:=
 FnAt.j0 F T.gl (dQ (N:=["prime","row","by","rest","back","steps","numbers","shift","often","power","number"]) (P:=["prime","row","by"])) (λ_ _ _ _ s _ _ nd hr=>by
 trivial
 .refine Dy LW ?_ ?_ ?_<;>trivial)
variable(kf:FnAt P w K mg base "parted" 5 PM.parted)
include nE om in
theorem p?(F:dW K "plain_multiple" (top 38)):FnAt P w K mg base "plain_multiple" 5 PM.eY:=
 FnAt.j0 F T.gl (dQ (N:=["prime","row"]) (P:=["prime","row"])) (λ_ _ _ _ s _ _ nd hr=>by
 trivial)
variable(kh:FnAt P w K mg base "plain_multiple" 5 PM.eY)
include Gn om in
theorem CS(F:dW K "stepped" (top 43)):FnAt P w K mg base "stepped" 5 PM.n!:=
 FnAt.j0 F T.gl (dQ (N:=["prime","rows","width","done","left","places","column","found","back","step"]) (P:=["prime","rows","width"])) (λ_ _ _ _ s _ _ nd hr=>by
 have:(["row","column"]:_e).Nodup:=by decide +kernel
 have:(["number","back","prime"]:_e).Nodup:=by decide +kernel
 trivial
 .refine MN.jg 7 (N:=["row","column"]) (k:=1) nd rfl rfl (jz (cl:=[("column",s.heap.objs.size+2)])) ?_ (λ_ _ _ _=>?_) (λ_ _ _ _=>?_) (λ_ _ _ _=>?_)<;>trivial
 .refine MN.jg 9 (N:=["number","back","prime"]) (k:=1) nd rfl rfl (Ew (cl:=[("back",s.heap.objs.size+3),("prime",s.heap.objs.size+1)]) (cl':=[("prime",s.heap.objs.size+1),("back",s.heap.objs.size+3)]) (caps':=[0,8])) ?_ (λ_ _ _ _=>?_) (λ_ _ _ _=>?_) (λ_ _ _ _=>?_)<;>trivial
 .refine fO (N:=["row","column"]) (k:=1) rfl rfl (jz (cl:=[("column",s.heap.objs.size+2)])) ?_ (λ_ _ _ _=>?_) (λ_ _ _ _=>?_) (λ_ _ _ _=>?_)<;>trivial)
variable(xK:FnAt P w K mg base "stepped" 5 PM.n!)
include kf kh in
theorem s_(F:dW K "greatest_row" (top 39)):FnAt P w K mg base "greatest_row" 6 PM.cV:=
 FnAt.j0 F T.gl (dQ (N:=["prime","ones","others","upper","lower","rest"]) (P:=["prime","ones","others"])) (λ_ _ _ _ s _ _ nd hr=>by
 trivial)
variable(nH:FnAt P w K mg base "greatest_row" 6 PM.cV)
include gp oN kf in
theorem s?(F:dW K "triple_below" (top 41)):FnAt P w K mg base "triple_below" 6 PM.f_:=
 FnAt.j0 F T.gl (dQ (N:=["prime","upper","lower","pair","taken"]) (P:=["prime","upper","lower"])) (λ_ _ _ _ s _ _ nd hr=>by
 have:(["place","lower","pair","prime"]:_e).Nodup:=by decide +kernel
 trivial
 .refine MN.jg 4 (N:=["place","lower","pair","prime"]) (k:=1) nd rfl rfl (Ew (cl:=[("lower",s.heap.objs.size+2),("pair",s.heap.objs.size+3),("prime",s.heap.objs.size+1)]) (cl':=[("prime",s.heap.objs.size+1),("pair",s.heap.objs.size+3),("lower",s.heap.objs.size+2)]) (caps':=[0,3,2])) ?_ (λ_ _ _ _=>?_) (λ_ _ _ _=>?_) (λ_ _ _ _=>?_)<;>trivial)
variable(vS:FnAt P w K mg base "triple_below" 6 PM.f_)
include p_ xK in
theorem qa(F:dW K "ways_to_nought" (top 48)):FnAt P w K mg base "ways_to_nought" 6 PM.fY:=
 FnAt.j0 F T.gl (dQ (N:=["prime","rows","width","answer"]) (P:=["prime","rows","width"])) (λ_ _ _ _ s _ _ nd hr=>by
 have:(["row","width"]:_e).Nodup:=by decide +kernel
 trivial
 .refine fO (N:=["row","width"]) (k:=1) rfl rfl (jz (cl:=[("width",s.heap.objs.size+1)])) ?_ (λ_ _ _ _=>?_) (λ_ _ _ _=>?_) (λ_ _ _ _=>?_)<;>trivial)
variable(rh:FnAt P w K mg base "ways_to_nought" 6 PM.fY)
include p_ xK in
theorem qb(F:dW K "table_to_units" (top 49)):FnAt P w K mg base "table_to_units" 6 PM.e8:=
 FnAt.j0 F T.gl (dQ (N:=["prime","rows","width","answer","table","place","column"]) (P:=["prime","rows","width"])) (λ_ _ _ _ s _ _ nd hr=>by
 have:(["column","rows"]:_e).Nodup:=by decide +kernel
 trivial
 .refine MN.jg 4 (N:=["column","rows"]) (k:=1) nd rfl rfl (jz (cl:=[("rows",s.heap.objs.size+1)])) ?_ (λ_ _ _ _=>?_) (λ_ _ _ _=>?_) (λ_ _ _ _=>?_)<;>trivial)
variable(rj:FnAt P w K mg base "table_to_units" 6 PM.e8)
include oN kf in
theorem o!(F:dW K "powers_of_prime" (top 59)):FnAt P w K mg base "powers_of_prime" 6 PM.d8:=
 FnAt.j0 F T.gl (dQ (N:=["prime","row","quotients","rests","k","upper","pair"]) (P:=["prime","row"])) (λ_ _ _ _ s _ _ nd hr=>by
 trivial)
variable(jP:FnAt P w K mg base "powers_of_prime" 6 PM.d8)
include nE om kf vS in
theorem Rm(F:dW K "met" (top 40)):FnAt P w K mg base "met" 7 PM.met:=
 FnAt.j0 F T.gl (dQ (N:=["prime","ones","others","upper","lower","following","back","greatest","one_part","other_part"]) (P:=["prime","ones","others"])) (λ_ _ _ _ s _ _ nd hr=>by
 trivial)
variable(Vh:FnAt P w K mg base "met" 7 PM.met)
include nF kf nH in
theorem rm(F:dW K "parts_by_many" (top 53)):FnAt P w K mg base "parts_by_many" 7 PM.gu:=
 FnAt.j0 F T.gl (dQ (N:=["prime","row","found","step","left","unseen","seen","many","further","part"]) (P:=["prime","row"])) (λ_ _ _ _ s _ _ nd hr=>by
 trivial
 .refine PZ Dx nd ?_<;>trivial)
variable(tj:FnAt P w K mg base "parts_by_many" 7 PM.gu)
include e! gp kf nH in
theorem oB(F:dW K "parts_at_numbers" (top 58)):FnAt P w K mg base "parts_at_numbers" 7 PM.dH:=
 FnAt.j0 F T.gl (dQ (N:=["prime","row","even","below","found","number","part"]) (P:=["prime","row","even"])) (λ_ _ _ _ s _ _ nd hr=>by
 trivial)
variable(o?:FnAt P w K mg base "parts_at_numbers" 7 PM.dH)
include nF Vh in
theorem tm(F:dW K "paper_of_row" (top 51)):FnAt P w K mg base "paper_of_row" 8 PM.ft:=
 FnAt.j0 F T.gl (dQ (N:=["prime","row","found"]) (P:=["prime","row"])) (λ_ _ _ _ s _ _ nd hr=>by
 trivial)
variable(vT:FnAt P w K mg base "paper_of_row" 8 PM.ft)
include kh tj in
theorem tu(F:dW K "parts_of_row" (top 52)):FnAt P w K mg base "parts_of_row" 8 PM.gb:=
 FnAt.j0 F T.gl (dQ (N:=["prime","row","found"]) (P:=["prime","row"])) (λ_ _ _ _ s _ _ nd hr=>by
 have:(["many","found"]:_e).Nodup:=by decide +kernel
 trivial
 .refine fO (N:=["many","found"]) (k:=1) rfl rfl (jz (cl:=[("found",s.heap.objs.size+1)])) ?_ (λ_ _ _ _=>?_) (λ_ _ _ _=>?_) (λ_ _ _ _=>?_)<;>trivial)
variable(vU:FnAt P w K mg base "parts_of_row" 8 PM.gb)
include o? in
theorem Bg(F:dW K "split_by" (top 57)):FnAt P w K mg base "split_by" 8 PM.jr:=
 FnAt.j0 F T.gl (dQ (N:=["prime","rows","even","answer","row"]) (P:=["prime","rows","even"])) (λ_ _ _ _ s _ _ nd hr=>by
 trivial)
variable(CT:FnAt P w K mg base "split_by" 8 PM.jr)
include jA rh jP CT in
theorem wK(F:dW K "whole_rows" (top 56)):FnAt P w K mg base "whole_rows" 9 PM.fu:=
 FnAt.j0 F T.gl (dQ (N:=["prime","row","rests","found","ways"]) (P:=["prime","row"])) (λ_ _ _ _ s _ _ nd hr=>by
 trivial)
variable(zh:FnAt P w K mg base "whole_rows" 9 PM.fu)
include oO jA rj jP vT in
theorem CU(F:dW K "unsplit" (top 61)):FnAt P w K mg base "unsplit" 9 PM.fQ:=
 FnAt.j0 F T.gl (dQ (N:=["prime","row","paper","pair","table"]) (P:=["prime","row"])) (λ_ _ _ _ s _ _ nd hr=>by
 trivial)
variable(xM:FnAt P w K mg base "unsplit" 9 PM.fQ)
theorem MY:t9 P w K mg base M.S 0 PM.cW:=
 ⟨abm,λf c' A outer s H hr=>by
 refine Ht ?_;refine tQ ?_ ?_
 .refine j7 ?_ (by rfl) T.b.2.2.2.2.2.2.2.1 boot_len ?_
  .exact xc
  refine tQ ?_ BO;exact(BZ (BM 0) BN)
 refine tQ ?_ BO;exact(BZ (BM 0) BN)⟩
include oO vU zh in
theorem CV{Rn tT:_i}(B:P' K mg base "factors" Rn tT)(F:Gw K "factors" "factors" (top 55) f fd)(hn:W.nsIn K mainGlobals "factors" = some (some (.ref f)))(S:t9 P w K mg base M.S 0 PM.cW):FnAt P w K mg base "factors" 10 (PM.fR M):=
 FnAt.mkT B F hn (T.gl _ _ hn) vL (λ_ _ _ _ _ _=>P0 λ_ _=>rfl) λA outer s H E hr=>by
 have:=vL.nd;have:(["factor","many"]:_e).Nodup:=by decide +kernel
 trivial
 .refine fO (N:=["factor","many"]) (k:=1) rfl rfl (jz (cl:=[("many",s.heap.objs.size+1)])) ?_ (λ_ _ _ _=>?_) (λ_ _ _ _=>?_) (λ_ _ _ _=>?_)<;>trivial
 .refine IY (L:=M) S B (hr.mono (by decide)) (by rfl) T.b.2.2.2.2.2.2.2.2.2.2.2.1 PyProof.Rows.Boot.«sorted» ?_<;>trivial
variable(rp:FnAt P w K mg base "factors" 10 (PM.fR M))
include p! xM rp in
theorem zj(F:dW K "_law_word" (top 71)):FnAt P w K mg base "_law_word" 11 (bU M):=
 FnAt.j0 F T.gl (dQ (N:=["_law_way","_law_prime","_law_row","_law_e"]) (P:=["_law_way","_law_prime","_law_row"])) (λ_ _ _ _ s _ _ nd hr=>by
 trivial
 .refine PU T.qx.known ⟨λ_=>rfl,rfl,rfl⟩ ?_ ?_
  .refine yp ?_
   .refine PN (λ_=>?_) ?_ ?_
    .trivial
    .refine yp ?_
     .refine Aj ?_
      .refine HS rp hr (by decide) (by rfl) (λ_=>rfl) (λ_=>?_)<;>trivial
    .refine yp ?_
     .refine Aj ?_
      .refine HS xM hr (by decide) (by rfl) (λ_=>rfl) (λ_=>?_)<;>trivial
  .refine PX (i:=3) T.sub nd T.c.1 (by rfl) (λ_ _=>?_) ?_
   .trivial
    .exact(AB 3 p! ((jq.mark hr _).mono (by decide)) (by rfl))
   .exact PR)
variable(Bh:FnAt P w K mg base "_law_word" 11 (bU M))
include vN sW zd wH rp Bh in
theorem Ro(F:Gw K "law" "law" (top 72) f fd):qm P w K mg base (nO P w) 12 f fd ["_law_script"] (Nj ⟨K,mg,[]⟩ (xu M)):=
 Hw F JX λfF A outer s H E hr=>by
 have:=JX.nd;trivial
end
theorem all_mk{l:PySem.W.OpenLaw}(X:K.In h)(G:h.Ns mainGlobals mg)(hfa:mg "law" = some (.ref fa)){f44:_i}{abn abo:Option _i}{abp:Array (_c)}{abq abr abt abu abv:_g}{Rn:_i}{f46:_i}{abw Vi:Option _i}{abx:Array (_c)}{aby Vj Vk aaa Rp aab:_g}{zl:Tok}{l_:_i}{tw:Option _i}{tD:Nat}{tF:Array (_c)}{rq rD rE rF rH rK rL rN rO rP qc:Tok}{d:DefRec}{tT:_i}{toc:_g}{tod:Option _i}{tsl:Array (_c)}{tvs:Array _g}(h0:dW K "is_whole" (top 20))(h1:dW K "is_prime_within" (top 21))(h2:dW K "signed_unit" (top 25))(h3:dW K "whole_inverse" (top 28))(h4:dW K "row_of_rests" (top 30))(h5:dW K "with_noughts" (top 32))(h6:dW K "without_column" (top 45))(h7:dW K "unit_row" (top 47))(h8:dW K "_law_cell_at" (top 63))(h9:dW K "_law_prime_to" (top 64))(h10:dW K "_law_cut" (top 65))(h11:dW K "_law_product" (top 67))(h12:dW K "_law_marks" (top 69))(h13:dW K "is_ring" (top 22))(h14:dW K "shared" (top 26))(h15:dW K "row_with_multiple" (top 31))(h16:dW K "row_product" (top 33))(h17:dW K "row_multiple" (top 34))(h18:dW K "slope_of_row" (top 35))(h19:dW K "cleared" (top 44))(h20:dW K "with_units" (top 46))(h21:dW K "_law_drawn" (top 66))(h22:dW K "_law_bad_by" (top 68))(h23:dW K "_law_named" (top 70))(h24:dW K "check_ring" (top 23))(h25:dW K "check_prime" (top 24))(h26:dW K "changes_by_prime" (top 60))(h27:dW K "inverse" (top 27))(h28:dW K "parted" (top 37))(h29:dW K "plain_multiple" (top 38))(h30:dW K "stepped" (top 43))(h31:dW K "greatest_row" (top 39))(h32:dW K "triple_below" (top 41))(h33:dW K "ways_to_nought" (top 48))(h34:dW K "table_to_units" (top 49))(h35:dW K "powers_of_prime" (top 59))(h36:dW K "met" (top 40))(h37:dW K "parts_by_many" (top 53))(h38:dW K "parts_at_numbers" (top 58))(h39:dW K "paper_of_row" (top 51))(h40:dW K "parts_of_row" (top 52))(h41:dW K "split_by" (top 57))(h42:dW K "whole_rows" (top 56))(h43:dW K "unsplit" (top 61))(a44:PySem.W.nsIn K mainGlobals "factors" = some (some (.ref f44)))(l44:K.lookup f44=some ⟨abq,abn,.func (PySem.W.fnOf "factors" "factors" (gw (top 55)) (dg (top 55)) (aY (top 55)) .none abr abt abu abo (.ref Rn) abv),abp⟩)(c44:PySem.W.codeIn K (.ref Rn) "factors" = true)(k44:PySem.W.keepIn K (.ref f44)=true)(h45:dW K "_law_word" (top 71))(a46:PySem.W.nsIn K mainGlobals "law" = some (some (.ref f46)))(l46:K.lookup f46=some ⟨aby,abw,.func (PySem.W.fnOf "law" "law" (gw (top 72)) (dg (top 72)) (aY (top 72)) .none Vj Vk aaa Vi Rp aab),abx⟩)(c46:PySem.W.codeIn K Rp "law" = true)(k46:PySem.W.keepIn K (.ref f46)=true)(zb:Ca K ["ValueError","abs","all","bool","enumerate","int","isinstance","len","list","max","range","sorted","tuple","zip"])(zc:Cb K ["AlgebraError","NoRing","NoPrime","NoInverse","NotWhole","NoUnknowns","NoTerm","NoCount","NoLead","NoOrder","NotWritten","ByNought","NoMeet","NoParts","NotPlain","NoSums"])(lJ:PySem.W.nsIn K mainGlobals "MOST_RING" = some (some (.int 997 zl)))(iR:PySem.W.nsIn K mainGlobals "FIRST_PRIMES" = some (some (.ref l_)))(iS:K.lookup l_=some ⟨.type "tuple",tw,.seq #[.int 2 rq,.int 3 rD,.int 5 rE,.int 7 rF,.int 11 rH,.int 13 rK,.int 17 rL,.int 19 rN,.int 23 rO,.int 29 rP,.int 31 qc] tD,tF⟩)(zp:su K UB)(zv:u3 K ["NoInverse","NoRing","NoPrime","NoParts","NotPlain"])(zw:PySem.W.nsIn K mainGlobals "ValueError" = some none)(zq:Cc K kn)(zr:(recsOf q).find? (λe=>e.name==("factors":Str))=some d)(zk:K.lookup Rn=some ⟨toc,tod,.fields tvs,tsl⟩)(zx:tvs[11]?=some (.ref tT))(zn:PySem.W.noTabs K=true):
  ∃(fd:FuncData)(ts:List (_i×_i)),sQ q K [.tab M.own M.line M.col M.S.qual] ts/\(ts.map (·.2)).Nodup/\PySem.W.noTabs K=true/\(∀(s:_h)(v:_g),BindsTo s fd ⟨[v],[]⟩ [("_law_script",v)])/\∀base:Heap,K.In base->base.Ns mainGlobals mg->DB mg base ts->qm l.prog w K mg base (nO l.prog w) 12 fa fd ["_law_script"] (Nj ⟨K,mg,[]⟩ (xu M)):=by
 have e:=hfa.symm.trans (W! X G a46);cases e;have zt:PySem.W.tabIn K "factors" = some (Rn,tT):=Qb a44 l44 rfl zk zx;refine⟨PySem.W.fnOf "law" "law" (gw (top 72)) (dg (top 72)) (aY (top 72)) .none Vj Vk aaa Vi Rp aab,[(Rn,tT)],.cons zr zt .nil,by simp,zn,λs v=>.of_eq rfl,λbase _ _ hB=>?_⟩;have T:Txt l.prog w K mg base:=⟨λ_ _ h=>W! X G h,zb.get X G,zc.get X G,Glob.int (W! X G lJ),Glob.ints (ns:=[2,3,5,7,11,13,17,19,23,29,31]) (W! X G iR) iS rfl rfl (by simp[VB]) (.cons ⟨_,rfl⟩ (.cons ⟨_,rfl⟩ (.cons ⟨_,rfl⟩ (.cons ⟨_,rfl⟩ (.cons ⟨_,rfl⟩ (.cons ⟨_,rfl⟩ (.cons ⟨_,rfl⟩ (.cons ⟨_,rfl⟩ (.cons ⟨_,rfl⟩ (.cons ⟨_,rfl⟩ (.cons ⟨_,rfl⟩ (.nil)))))))))))),zp.get X G (zv.get X G zw),zq.get X G⟩
 have CW:=Bd T  h0;have qd:=o_ T  h1;have wL:=vM T  h2;have tH:=q_ T  h3;have e?:=sT T  h4;have nI:=sU T  h5;have rQ:=p8 T  h6;have CY:=Be T  h7;have vV:=sV T  h8;have tJ:=q? T  h9;have CZ:=Bf T  h10;have vW:=sX T  h11;have zo:=wD T  h12;have xN:=CO T CW qd h13;have JZ:=Gm T wL h14;have gq:=nC T e? nI h15;have oP:=vP T e? h16;have nJ:=sY T e? h17;have nK:=sZ T e? h18;have Gq:=CP T rQ h19;have qf:=wF T CY h20;have zu:=wG T CZ h21;have wM:=vQ T vW h22;have zy:=wI T zo h23;have zA:=wJ T xN h24;have oQ:=vR T xN h25;have jB:=oA T nI gq h26;have oo:=CQ T tH JZ zA h27;have ki:=Gp T e? oo h28;have kj:=p? T nJ oo h29;have xO:=CS T Gq oo h30;have nL:=s_ T ki kj h31;have vX:=s? T gq oP ki h32;have rW:=qa T qf xO h33;have rX:=qb T qf xO h34;have jQ:=o! T oP ki h35;have aac:=Rm T nJ oo ki vX h36;have tK:=rm T nK ki nL h37;have pb:=oB T e? gq ki nL h38;have vY:=tm T nK aac h39;have vZ:=tu T kj tK h40;have C0:=Bg T pb h41;have zB:=wK T jB rW jQ C0 h42;have Gr:=CU T oQ jB rX jQ vY h43;have xP:=CV T oQ vZ zB ⟨zt,(hB _ (.head _)).1,(hB _ (.head _)).2.1,(hB _ (.head _)).2.2⟩ (BB (st:=top 55) l44 c44 k44) a44 (MY T );have Bi:=zj T zy Gr xP h45;exact Ro T vV tJ zu wM xP Bi (BB (st:=top 72) l46 c46 k46)
end u9
namespace PySem.W.Fast
def tw12499774349407290163:=()
def tw15243414795338693979:=()
def tw2055784606213812098:=()
def tw14212223679470296628:=()
def tw5922725630779202889:=()
def tw4320413151068568731:=()
def tw152153908879892857:=()
def tw15027646342716087567:=()
def tw1843765064948327670:=()
def tw18032828257483922844:=()
def tw6206210885881266577:=()
def tw11149732892713489811:=()
def tw10067245362612315206:=()
def tw9233512089295006660:=()
def tw4677329180666830254:=()
def tw14797880811183906315:=()
def tw5931217418943077927:=()
def tw4144703540817477562:=()
def tw2315350792794204478:=()
def tw1390904273043649246:=()
def tw2835587394191283321:=()
def tw15685309140506959191:=()
def tw15100582676140687014:=()
def tw3395120817011882282:=()
def tw297452756267980240:=()
def tw9044253379964149626:=()
def tw13004531090479123640:=()
def tw4649024811414608144:=()
def tw12007967681573570732:=()
def tw5081996379733463339:=()
def tw11894476788033702489:=()
def tw8175712948967072160:=()
def tw10048152785079279553:=()
def tw5337937226329775804:=()
def tw11359051001404981711:=()
def tw1151418131616266508:=()
def tw1199199152836547516:=()
def tw1958325254905116329:=()
def tw7508545171912656522:=()
def tw16858845132077001764:=()
def tw10727810180586895405:=()
def tw12886636790952956994:=()
def tw223192699619355980:=()
def tw4082231938935943361:=()
def tw8539649842429209700:=()
def tw17641963513326798781:=()
def tw2469383883728079270:=()
def tw2636109455411807139:=()
def tw5655635237715533649:=()
def tw5319736711869814720:=()
def tw11457794876127671344:=()
def tw4159101052309297220:=()
def tw1526881435502910523:=()
def tw8776361055122019753:=()
def tw9005368171965338026:=()
def tw8174920561993061460:=()
def tw2180381548078213823:=()
def tw2434010756398358282:=()
def tw1863753975369044474:=()
def tw4557135595282691140:=()
def tw6442787121936085822:=()
def tw13077679589110410748:=()
def tw12980821319827092021:=()
def tw12779204633890699953:=()
def tw12770542893320818165:=()
def tw14611548072151126352:=()
def tw16905861086714414688:=()
def tw12739583150449289579:=()
def tw3547979136087347252:=()
def tw17254221579500540776:=()
def tw1104899455587418296:=()
def tw759582341606469650:=()
def tw5044407001222751751:=()
def tw13440254606030871494:=()
def tw9900233931251855169:=()
def tw15841782984305285546:=()
def tw3776622523911905460:=()
def tw7732407271600317990:=()
def tw11748011369409197338:=()
def tw13937227558322709190:=()
def tw529965665127741633:=()
def tw9443313082354811945:=()
def tw1029790093488811999:=()
def tw10106069169466135974:=()
def tw12300038272659480570:=()
def tw9484237839708138068:=()
def tw10048006866047644651:=()
def tw9763879664033737085:=()
def tw9937554715036984112:=()
def tw14109711755499186761:=()
def tw18022403609510006673:=()
def tw16606148644585476191:=()
def tw6742955570709884913:=()
def tw4258402924093153086:=()
def tw16787653744188404827:=()
def tw7622721321136425669:=()
def tw6720662696336906316:=()
def tw6343502859818599862:=()
def tw3613766901638216367:=()
def tw9891137571358896497:=()
def tw776135535095522842:=()
def tw14454747803783164425:=()
def tw3158377675081547661:=()
def tw11655745250671708503:=()
def tw6276876466969434884:=()
def tw13899340887908300899:=()
def tw52432996510122031:=()
def tw17745899321304534658:=()
def tw6472598320066543160:=()
def tw8945074609556067363:=()
def tw5831361774417389144:=()
def tw12265888893812595664:=()
def tw14462189540379883223:=()
def tw12834384954989559859:=()
def tw1888193337323132080:=()
def tw12315113998764389136:=()
def tw13694703182299940098:=()
def tw14902711758689583243:=()
def tw5906222559535443176:=()
def tw11848432295102177762:=()
def tw13459801860188291290:=()
def tw14514833399472374740:=()
def tw9792949691823066701:=()
def tw5542817210391331723:=()
def tw16290085056031041284:=()
end PySem.W.Fast
open PySem.W PyProof.Rows
set_option maxRecDepth 100000 in
set_option maxHeartbeats 0 in
theorem PySem.Challenge.cw_polyring_k23_not_factored_holds : PySem.Challenge.rw_polyring_k23_not_factored.Holds := by
 w_on;o_law;k_head;(case hw=>w_witness2)
 k_fill
 refine MN.Fy (f:=(u9.xu u9.M)) (cs:=[.tab u9.M.own u9.M.line u9.M.col u9.M.S.qual]) (l:=PySem.Challenge.rw_polyring_k23_not_factored) (k:=12) (x:="_law_script") rfl rfl ⟨rfl,by decide,by decide⟩ (u9.JW u9.M rfl) (λw h Y=>PySem.W.km_in_of Y) ?F
 case F=>
  intro w mg fa h KX G SU;refine' u9.all_mk KX G SU ?h0 ?h1 ?h2 ?h3 ?h4 ?h5 ?h6 ?h7 ?h8 ?h9 ?h10 ?h11 ?h12 ?h13 ?h14 ?h15 ?h16 ?h17 ?h18 ?h19 ?h20 ?h21 ?h22 ?h23 ?h24 ?h25 ?h26 ?h27 ?h28 ?h29 ?h30 ?h31 ?h32 ?h33 ?h34 ?h35 ?h36 ?h37 ?h38 ?h39 ?h40 ?h41 ?h42 ?h43 ?a44 ?l44 ?c44 ?k44 ?h45 ?a46 ?l46 ?c46 ?k46 ?zb ?zc ?lJ ?iR ?iS ?zp ?zv ?zw ?zq ?zr ?zk ?zx ?zn
  (case h0|h1|h2|h3|h4|h5|h6|h7|h8|h9|h10|h11|h12|h13|h14|h15|h16|h17|h18|h19|h20|h21|h22|h23|h24|h25|h26|h27|h28|h29|h30|h31|h32|h33|h34|h35|h36|h37|h38|h39|h40|h41|h42|h43|h45=>refine' MN.dW.mk ?a ?l ?c ?k;(case a=>k_is);(case l=>k_is);(case c=>k_is);(case k=>k_is);skip)
  (case a44=>k_is)
  (case l44=>k_is)
  (case c44=>k_is)
  (case k44=>k_is)
  (case a46=>k_is)
  (case l46=>k_is)
  (case c46=>k_is)
  (case k46=>k_is)
  case zb=>
   repeat (refine' MN.Ca.cons ?a ?_;(case a=>k_is);skip)
   exact .nil
  case zc=>
   repeat (refine' MN.Cb.cons ?a ?e ?s ?_;(case a=>k_is);(case e=>k_exc);(case s=>k_is);skip)
   exact .nil
  (case lJ=>k_is)
  (case iR=>k_is)
  (case iS=>k_is)
  case zp=>
   repeat (refine' MN.su.cons ?a ?b ?c ?d ?e ?_;(case a=>k_is);(case b=>k_is);(case c=>k_is);(case d=>k_is);(case e=>first|k_is|kit_is);skip)
   exact .nil
  case zv=>
   repeat (refine' MN.u3.cons ?a ?e ?_;(case a=>k_is);(case e=>first|k_is|kit_is);skip)
   exact .nil
  (case zw=>k_is)
  case zq=>
   repeat (refine' MN.Cc.cons ?a ?e ?_;(case a=>k_is);(case e=>first|k_is|kit_is|rfl|decide +kernel);skip)
   exact .nil
  (case zr=>rfl)
  (case zk=>k_is)
  (case zx=>rfl)
  (case zn=>first|k_is|kernel_rfl)
