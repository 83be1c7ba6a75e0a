import PyProof.Rows.All
import Wide.All
import OpenK.AllK
import Wide.FinOn
import Lean
import PyProof.EqAt
import PyProof.EqKinds
import PyProof.TupleCall
import PyProof.NeKinds
import PyProof.ZipIter
import PyProof.FitsBits
import KE.KRevIter
import KE.KStateDown
import PyProof.Rows.Range3
import PyProof.EnumFor
import PyProof.EnumMake
import PyProof.EnumStmt
import PyProof.Rows.SumAny
import PyProof.ListIndex
import PyProof.ListIndexNeg
import PyProof.WalkInts
import PyProof.Conv_int_bool
import PyProof.SumAny
import KE.KLam
import PyProof.Rows.FactsN_abs
import PyProof.ExcBaseAll.ValueError
import KE.KIsAll
import PyProof.ExcAttrAll.ValueError
import PyProof.Rows.SortRuns
import KE.KSortTup
import KE.KDictList
import KE.KDictOf
import PyProof.AttrMissHeap
import PyProof.DictRoadsH
import PyProof.Seq
import PySem.Challenge.RW_polyring_k09_orders
set_option Elab.async false
set_option linter.all false
set_option maxRecDepth 100000
set_option maxHeartbeats 4000000
set_option compiler.extract_closed false
set_option genSizeOf false
-- LQ: SJ Q1 module here,as HD last of Q2 rows
namespace L2
open PySem PySem.Spec PyProof.Rows
noncomputable abbrev Key:=Sum Int Str
noncomputable def pD:Key → Value → Bool
 | .inl k,v => Value.isInt k v
 | .inr x,v => Value.isStrOf x v
noncomputable def LR (w:World):Key → Int
 | .inl k => hashInt k
 | .inr x => hashStr w x
theorem cm:∀ {k:Key} {v:Value},pD k v = true → (∃ i t,k = Sum.inl i ∧ v = Value.int i t) ∨ (∃ x t,k = Sum.inr x ∧ v = Value.str x t)
 | .inl i,v,h => by
  obtain ⟨t,e⟩:=Value.isInt_shape (k:=i) (v:=v) h
  exact .inl ⟨i,t,rfl,e⟩
 | .inr x,v,h => by
  obtain ⟨t,e⟩:=Value.isStrOf_shape (x:=x) (v:=v) h
  exact .inr ⟨x,t,rfl,e⟩
theorem wG (i:Int) (t:Tok):pD (.inl i) (.int i t) = true:=by simp [pD,Value.isInt]
theorem wH (x:Str) (t:Tok):pD (.inr x) (.str x t) = true:=by simp [pD,Value.isStrOf]
theorem EO (a b:Int):decide ((Sum.inl a:Key) = Sum.inl b) = (a == b):=by
 by_cases e:a = b
 ·subst e; simp
 ·have h:¬ (Sum.inl a:Key) = Sum.inl b:=fun q => e (Sum.inl.inj q)
  rw [decide_eq_false h]
  exact (beq_eq_false_iff_ne.mpr e).symm
theorem ER (a b:Str):decide ((Sum.inr a:Key) = Sum.inr b) = decide (a = b):=by
 by_cases e:a = b
 ·subst e; simp
 ·have h:¬ (Sum.inr a:Key) = Sum.inr b:=fun q => e (Sum.inr.inj q)
  rw [decide_eq_false h,decide_eq_false e]
theorem ES (a:Int) (b:Str):decide ((Sum.inl a:Key) = Sum.inr b) = false:=decide_eq_false (fun q => nomatch q)
theorem ET (a:Str) (b:Int):decide ((Sum.inr a:Key) = Sum.inl b) = false:=decide_eq_false (fun q => nomatch q)
noncomputable def cL (prog:Program) (w:World):PySem.KeyKind prog w Key where
 is:=pD
 hash:=LR w
 inj:=fun v a b ha hb => by
  rcases cm ha with ⟨i,t,rfl,rfl⟩ | ⟨x,t,rfl,rfl⟩
  ·rcases cm hb with ⟨j,u,rfl,e⟩ | ⟨y,u,rfl,e⟩
   ·injection e with e1 _; rw [e1]
   ·exact nomatch e
  ·rcases cm hb with ⟨j,u,rfl,e⟩ | ⟨y,u,rfl,e⟩
   ·exact nomatch e
   ·injection e with e1 _; rw [e1]
 byValue:=fun k v h => by
  rcases cm h with ⟨i,t,rfl,rfl⟩ | ⟨x,t,rfl,rfl⟩ <;> rfl
 pyHash:=fun hv h => by
  rcases cm hv with ⟨i,t,rfl,rfl⟩ | ⟨x,t,rfl,rfl⟩
  ·exact wpAny_pyHash_int h
  ·exact wpAny_pyHash_str h
 eqBool:=fun hu hv h => by
  rcases cm hu with ⟨i,t,rfl,rfl⟩ | ⟨x,t,rfl,rfl⟩
  ·rcases cm hv with ⟨j,u,rfl,rfl⟩ | ⟨y,u,rfl,rfl⟩
   ·rw [EO] at h; exact wpAny_eqBool_int h
   ·rw [ES] at h; exact SeqAt.EqAt.int_str i t y u _ _ _ _ h
  ·rcases cm hv with ⟨j,u,rfl,rfl⟩ | ⟨y,u,rfl,rfl⟩
   ·rw [ET] at h; exact SeqAt.EqAt.str_int x t j u _ _ _ _ h
   ·rw [ER] at h; exact wpAny_eqBool_str h
 «strs»:=fun k x t v h => by
  rcases cm h with ⟨i,u,rfl,e⟩ | ⟨y,u,rfl,e⟩
  ·exact nomatch e
  ·injection e with e1 _
   subst e1
   cases v <;> rfl
theorem rZ (prog:Program) (w:World) (i:Int) (t:Tok):(cL prog w).is (.inl i) (.int i t) = true:=wG i t
theorem r9 (prog:Program) (w:World) (x:Str) (t:Tok):(cL prog w).is (.inr x) (.str x t) = true:=wH x t
end L2
namespace L2
open PySem PySem.Spec PyProof.Rows
inductive V where
 | da | bl (b:Bool) | int (i:Int) | str (x:Str) | LS (b:Array UInt8) | kj (b:UInt64) | ref (a:Addr) | ty (n:String)
 deriving DecidableEq
noncomputable def RelV:V → Value → Prop
 | .da,u => u = Value.none
 | .bl b,u => u = Value.bool b
 | .int i,u => ∃ t,u = Value.int i t
 | .str x,u => ∃ t,u = Value.str x t
 | .LS b,u => ∃ t,u = Value.bytes b t
 | .kj b,u => ∃ t,u = Value.float b t
 | .ref a,u => u = Value.ref a
 | .ty n,u => u = Value.type n
noncomputable abbrev Vals:List V → List Value → Prop:=Paired RelV
theorem Vals.length {xs:List V} {us:List Value} (r:Vals xs us):xs.length = us.length:=Paired.length r
theorem Vals.get:∀ {xs:List V} {us:List Value} {i:Nat} {x:V},Vals xs us → xs[i]? = some x → ∃ u,us[i]? = some u ∧ RelV x u
 | _,_,_,_,.nil,e => by simp at e
 | _,_,0,_,.cons r _,e => by simp at e; subst e; exact ⟨_,rfl,r⟩
 | _,_,i + 1,x,.cons _ t,e => by
  obtain ⟨u,h1,h2⟩:=Vals.get (i:=i) (x:=x) t (by simpa using e)
  exact ⟨u,by simpa using h1,h2⟩
theorem Vals.append:∀ {xs ys:List V} {us ws:List Value},Vals xs us → Vals ys ws → Vals (xs ++ ys) (us ++ ws)
 | _,_,_,_,.nil,s => s
 | _,_,_,_,.cons r t,s => .cons r (Vals.append t s)
theorem Vals.take:∀ {xs:List V} {us:List Value} (n:Nat),Vals xs us → Vals (xs.take n) (us.take n)
 | _,_,0,_ => .nil
 | _,_,_ + 1,.nil => .nil
 | _,_,n + 1,.cons r t => .cons r (Vals.take n t)
theorem Vals.drop:∀ {xs:List V} {us:List Value} (n:Nat),Vals xs us → Vals (xs.drop n) (us.drop n)
 | _,_,0,r => r
 | _,_,_ + 1,.nil => .nil
 | _,_,n + 1,.cons _ t => Vals.drop n t
noncomputable def kq:Option V → Option Value → Prop
 | some v,some u => RelV v u
 | none,none => True
 | _,_ => False
noncomputable def KV {κ:Type}:List (κ × V) → List (κ × Value) → Prop:=Paired fun (p:κ × V) (q:κ × Value) => p.1 = q.1 ∧ RelV p.2 q.2
noncomputable def kV:Key → V
 | .inl i => .int i
 | .inr x => .str x
inductive HO where
  | lst (xs:List V)
  | tup (xs:List V)
  | dK (aI:List (Key × V)) | dT (aI:List (List Key × V))
  | set (S:Int → Bool) (n:Nat)
  | ins (C dx:Addr) (fs:List (Str × V))
  | own (x:Addr)
  | xd (fs:List (Str × V))
  | met (f x:Addr)
  | KS (lo hi:Int)
  | d0 (o:Obj) (u:HO)
  | o5 (ps:Array Value)
  | ext (φ:Heap → Prop)
noncomputable abbrev Hp:=Addr → Option HO
noncomputable def upd (H:Hp) (a:Addr) (o:HO):Hp:=fun b => if b = a then some o else H b
theorem aZ {H:Hp} {a:Addr} {o:HO}:upd H a o a = some o:=by unfold upd; rw [if_pos rfl]
theorem aD {H:Hp} {a b:Addr} {o:HO} (h:b ≠ a):upd H a o b = H b:=by unfold upd; rw [if_neg h]
theorem H_ {H:Hp} {a b:Addr} {o u:HO} (h:H a = some o) (h':H b = some u) (d:o ≠ u):a ≠ b:=by
 intro e; subst e; rw [h] at h'; exact d (Option.some.inj h')
theorem bo {H:Hp} {a b:Addr} {o:HO} (h:H a = some o) (h':H b = none):a ≠ b:=by
 intro e; subst e; rw [h] at h'; cases h'
section
variable (P:Program) (w:World)
noncomputable def bL (H:Hp) (h:Heap) (a:Addr):HO → Prop
 | .lst xs => xs.length ≤ sizeLine ∧ ∃ (aE:List Value) (n:Nat),Vals xs aE ∧ h.get? a = some { cls:=.type "list",data:=.seq aE.toArray n }
 | .tup xs => xs.length ≤ sizeLine ∧ ∃ aE:List Value,Vals xs aE ∧ IsTup h a aE.toArray
 | .dK aI => aI.length ≤ sizeLine ∧ (a == sysModules) = false ∧ ∃ vs,KV aI vs ∧ h.DictOf (cL P w) a vs
 | .dT aI => aI.length ≤ sizeLine ∧ (a == sysModules) = false ∧ ∃ xs:List (List Key × Addr × Value),
   Paired (fun (p:List Key × V) (q:List Key × Addr × Value) => p.1 = q.1 ∧ H q.2.1 = some (.tup (p.1.map kV)) ∧ RelV p.2 q.2.2) aI xs ∧
   ∃ o es ep,h.get? a = some o ∧ o.ExactDict ∧ o.data = .dict es ep ∧ es.toList = xs.map (entryOfKey (tupleKind (cL P w))) ∧ (xs.map (·.1)).Nodup
 | .set S n => h.SetOf (intKind P w) a S n
 | .ins C dx fs => H dx = some (.own a) ∧ fs.length ≤ 1000 ∧ dx ≠ a ∧ h.get? a = some (PySem.W.instObj C dx) ∧
   ∃ mA,h.Ns1 dx mA ∧ (∀ f,kq (fs.lookup f) (mA f)) ∧ PySem.Within mA (fs.map (·.1))
 | .own _ => ∃ o,h.get? a = some o
 | .xd fs => ∃ mA,h.Ns1 a mA ∧ ∀ f,kq (fs.lookup f) (mA f)
 | .KS lo hi => ∃ t u v,h.get? a = some { cls:=.type "range",data:=.fields #[.int lo t,.int hi u,.int 1 v] }
 | .d0 o u => h.get? a = some o ∧ bL H h a u
 | .o5 ps => h.get? a = some { cls:=.none,data:=.fields ps }
 | .met f x => h.get? a = some (PySem.W.methodObj (.ref f) (.ref x))
 | .ext φ => φ h ∧ (∃ o,h.get? a = some o) ∧ ∀ h1 h2:Heap,φ h1 → (∀ o,h1.get? a = some o → h2.get? a = some o) → φ h2
noncomputable def fQ (H:Hp) (h:Heap):Prop:=∀ a o,H a = some o → bL P w H h a o
end
section
variable {P:Program} {w:World} {H H':Hp} {h h':Heap} {a:Addr} {o:HO}
theorem bL.lt (x:bL P w H h a o):a < h.objs.size:=by
 cases o with
 | lst xs => obtain ⟨_,_,_,_,e⟩:=x; exact Heap.lt_size e
 | tup xs => obtain ⟨_,_,_,p⟩:=x; exact p.lt
 | dK aI => obtain ⟨_,_,_,_,o,_,_,e,_⟩:=x; exact Heap.lt_size e
 | dT aI => obtain ⟨_,_,_,_,o,_,_,e,_⟩:=x; exact Heap.lt_size e
 | set S n => obtain ⟨o,_,_,_,e,_⟩:=x; exact Heap.lt_size e
 | ins C dx fs => obtain ⟨_,_,_,e,_⟩:=x; exact Heap.lt_size e
 | own y => obtain ⟨_,e⟩:=x; exact Heap.lt_size e
 | xd fs => obtain ⟨_,⟨_,_,_,e,_⟩,_⟩:=x; exact Heap.lt_size e
 | KS lo hi => obtain ⟨_,_,_,e⟩:=x; exact Heap.lt_size e
 | d0 ob u => obtain ⟨e,_⟩:=x; exact Heap.lt_size e
 | o5 ps => exact Heap.lt_size (show h.get? a = some _ from x)
 | met f y => exact Heap.lt_size (show h.get? a = some _ from x)
 | ext φ => obtain ⟨_,⟨_,e⟩,_⟩:=x; exact Heap.lt_size e
theorem Paired.EU {α β:Type} {F G:α → β → Prop}:∀ {l₁:List α} {l₂:List β},Paired F l₁ l₂ → (∀ a b,F a b → G a b) → Paired G l₁ l₂
 | _,_,.nil,_ => .nil
 | _,_,.cons r t,f => .cons (f _ _ r) (Paired.EU t f)
theorem bL.iT (x:bL P w H h a o) (k:∀ b u,(b = a ∨ H b = some (.own a)) → h.get? b = some u → h'.get? b = some u)
  (ho:∀ b,H b = some (.own a) → H' b = some (.own a)) (ht:∀ b xs,H b = some (.tup xs) → H' b = some (.tup xs)):bL P w H' h' a o:=by
 induction o with
 | lst xs => obtain ⟨z,aE,n,r,e⟩:=x; exact ⟨z,aE,n,r,k _ _ (.inl rfl) e⟩
 | tup xs => obtain ⟨z,aE,r,ob,e,c⟩:=x; exact ⟨z,aE,r,ob,k _ _ (.inl rfl) e,c⟩
 | dK aI => obtain ⟨z,y,vs,r,ob,es,ep,e,c⟩:=x; exact ⟨z,y,vs,r,ob,es,ep,k _ _ (.inl rfl) e,c⟩
 | dT aI =>
  obtain ⟨z,y,xs,r,ob,es,ep,e,c⟩:=x
  exact ⟨z,y,xs,Paired.EU r fun p q z => ⟨z.1,ht _ _ z.2.1,z.2.2⟩,ob,es,ep,k _ _ (.inl rfl) e,c⟩
 | set S n => obtain ⟨ob,es,ep,t,e,c⟩:=x; exact ⟨ob,es,ep,t,k _ _ (.inl rfl) e,c⟩
 | ins C dx fs =>
  obtain ⟨d,z,ne,e,mA,⟨od,es,ep,e2,c⟩,r⟩:=x
  exact ⟨ho _ d,z,ne,k _ _ (.inl rfl) e,mA,⟨od,es,ep,k _ _ (.inr d) e2,c⟩,r⟩
 | own y => obtain ⟨ob,e⟩:=x; exact ⟨ob,k _ _ (.inl rfl) e⟩
 | xd fs => obtain ⟨mA,⟨od,es,ep,e,c⟩,r⟩:=x; exact ⟨mA,⟨od,es,ep,k _ _ (.inl rfl) e,c⟩,r⟩
 | KS lo hi => obtain ⟨t,u,v,e⟩:=x; exact ⟨t,u,v,k _ _ (.inl rfl) e⟩
 | d0 ob u ih => obtain ⟨e,q⟩:=x; exact ⟨k _ _ (.inl rfl) e,ih q⟩
 | o5 ps =>
  have e:h.get? a = some { cls:=.none,data:=.fields ps }:=x
  show h'.get? a = some { cls:=.none,data:=.fields ps }
  exact k a _ (.inl rfl) e
 | met f y =>
  have e:h.get? a = some (PySem.W.methodObj (.ref f) (.ref y)):=x
  show h'.get? a = some (PySem.W.methodObj (.ref f) (.ref y))
  exact k a _ (.inl rfl) e
 | ext φ => obtain ⟨p,⟨o,e⟩,st⟩:=x; exact ⟨st _ _ p fun o q => k _ _ (.inl rfl) q,⟨o,k _ _ (.inl rfl) e⟩,st⟩
theorem fQ.lt (x:fQ P w H h) (e:H a = some o):a < h.objs.size:=(x a o e).lt
theorem fQ.fresh (x:fQ P w H h) (e:h.objs.size ≤ a):H a = none:=by
 cases q:H a with
 | none => rfl
 | some u => exact absurd (Nat.lt_of_lt_of_le (x.lt q) e) (Nat.lt_irrefl _)
theorem fQ.kept (x:fQ P w H h) (k:∀ b u,h.get? b = some u → h'.get? b = some u):fQ P w H h':=fun a o e =>
 (x a o e).iT (fun b u _ q => k b u q) (fun _ q => q) fun _ _ q => q
theorem fQ.laid (x:fQ P w H h) (k:∀ b u,h.get? b = some u → h'.get? b = some u) (hp:h.objs.size ≤ a) (new:bL P w (upd H a o) h' a o):fQ P w (upd H a o) h':=fun b u e => by
 have hn:=x.fresh hp
 by_cases hb:b = a
 ·subst hb; rw [aZ] at e; cases e; exact new
 ·rw [aD hb] at e
  exact (x b u e).iT (fun c v _ q => k c v q) (fun c q => by rw [aD (bo q hn)]; exact q) fun c xs q => by rw [aD (bo q hn)]; exact q
end
noncomputable def Rd (H:Hp) (a:Addr) (u:HO):Prop:=H a = some u ∨ ∃ o,H a = some (.d0 o u)
theorem Rd.ok {P:Program} {w:World} {H:Hp} {h:Heap} {a:Addr} {u:HO} (r:Rd H a u) (x:fQ P w H h):bL P w H h a u:=by
 rcases r with r | ⟨o,r⟩
 ·exact x a u r
 ·obtain ⟨_,q⟩:=x a _ r
  exact q
noncomputable def Ia:Option HO → Prop
 | some (.lst _) => True
 | some (.dK _) => True
 | some (.dT _) => True
 | some (.set _ _) => True
 | some (.ins _ _ _) => True
 | some (.ext _) => True
 | _ => False
section
variable {P:Program} {w:World} {H:Hp} {h h':Heap} {x e:Addr} {o':HO}
theorem fQ.write (ok:fQ P w H h) (mu:Ia (H x)) (he:e = x ∨ H e = some (.own x)) (k:∀ b u,b ≠ e → h.get? b = some u → h'.get? b = some u) (HE:∃ u,h'.get? e = some u)
  (new:bL P w (upd H x o') h' x o'):fQ P w (upd H x o') h':=fun b u q => by
 have Ib:∀ c y,H c = some (.own y) → c ≠ x:=fun c y r z => by subst z; rw [r] at mu; exact mu
 have LU:∀ c xs,H c = some (.tup xs) → c ≠ x:=fun c xs r z => by subst z; rw [r] at mu; exact mu
 by_cases hb:b = x
 ·subst hb; rw [aZ] at q; cases q; exact new
 ·rw [aD hb] at q
  by_cases EV:b = e
  ·have q':H b = some (.own x):=by
    rcases he with z | z
    ·exact absurd (EV.trans z) hb
    ·rw [EV]; exact z
   rw [q] at q'; cases q'
   obtain ⟨v,hv⟩:=HE
   exact ⟨v,by rw [EV]; exact hv⟩
  ·refine (ok b u q).iT (fun c v hc r => k c v ?_ r) (fun c r => by rw [aD (Ib c b r)]; exact r) fun c xs r => by rw [aD (LU c xs r)]; exact r
   rcases hc with rfl | hc
   ·exact EV
   ·rintro rfl
    rcases he with z | z
    ·exact Ib c b hc z
    ·rw [hc] at z; cases z; exact hb rfl
end
structure Un (fs ex:List Addr) (H H':Hp) (h h':Heap):Prop where
 keep:∀ b o,h.get? b = some o → H b = none → b ∉ fs → b ∉ ex → h'.get? b = some o
 slot:∀ b o,h.get? b = some o → H b = none → b ∈ fs → b ∉ ex → ∃ sl,h'.get? b = some { o with slots:=sl }
 free:∀ b o,h.get? b = some o → H b = none → b ∉ ex → H' b = none
 there:∀ b o,h.get? b = some o → b ∉ ex → ∃ o',h'.get? b = some o'
 h_:∀ b xs,H b = some (.tup xs) → H' b = some (.tup xs)
 gK:∀ b o u,H b = some (.d0 o u) → H' b = some (.d0 o u)
 ie:∀ b ps,H b = some (.o5 ps) → ∃ more,H' b = some (.o5 (ps ++ more))
section
variable {fs SK ex Ww:List Addr} {H H1 H2:Hp} {h h1 h2 h':Heap} {a x e:Addr} {o:HO}
theorem Un.any (u:Un fs ex H H1 h h1) {b:Addr} {ob:Obj} (q:h.get? b = some ob) (n:H b = none) (hx:b ∉ ex):∃ sl,h1.get? b = some { ob with slots:=sl }:=by
 by_cases hb:b ∈ fs
 ·exact u.slot b ob q n hb hx
 ·exact ⟨ob.slots,u.keep b ob q n hb hx⟩
theorem Un.kept (k:∀ b u,h.get? b = some u → h'.get? b = some u):Un fs ex H H h h' :=
 ⟨fun b ob q _ _ _ => k b ob q,fun b ob q _ _ _ => ⟨ob.slots,k b ob q⟩,fun _ _ _ n _ => n,fun b ob q _ => ⟨ob,k b ob q⟩,fun _ _ q => q,fun _ _ _ q => q,fun _ ps q => ⟨#[],by rw [q]; simp⟩⟩
theorem Un.refl:Un fs ex H H h h:=Un.kept fun _ _ q => q
theorem Un.laid (k:∀ b u,h.get? b = some u → h'.get? b = some u) (hp:h.objs.size ≤ a) (hn:H a = none):Un fs ex H (upd H a o) h h' where
 keep:=fun b u q _ _ _ => k b u q
 slot:=fun b u q _ _ _ => ⟨u.slots,k b u q⟩
 free:=fun b u q n _ => by rw [aD (Nat.ne_of_lt (Nat.lt_of_lt_of_le (Heap.lt_size q) hp))]; exact n
 there:=fun b u q _ => ⟨u,k b u q⟩
 h_:=fun b xs q => by rw [aD (bo q hn)]; exact q
 gK:=fun b u xs q => by rw [aD (bo q hn)]; exact q
 ie:=fun b ps q => ⟨#[],by rw [aD (bo q hn),q]; simp⟩
theorem Un.write (mu:Ia (H x)) (he:e = x ∨ H e = some (.own x)) (k:∀ b u,b ≠ e → h.get? b = some u → h'.get? b = some u) (HE:∃ u,h'.get? e = some u):Un fs ex H (upd H x o) h h':=by
 have hx:∀ b,H b = none → b ≠ x:=fun b n z => by subst z; rw [n] at mu; exact mu
 have hb:∀ b,H b = none → b ≠ e:=fun b n z => by
  subst z
  rcases he with r | r
  ·exact hx b n r
  ·rw [n] at r; cases r
 have hm:∀ b u,H b = some u → ¬ Ia (some u) → b ≠ x:=fun b u q nm z => by subst z; rw [q] at mu; exact nm mu
 refine ⟨fun b u q n _ _ => k b u (hb b n) q,fun b u q n _ _ => ⟨u.slots,k b u (hb b n) q⟩,fun b u q n _ => by rw [aD (hx b n)]; exact n,fun b u q _ => ?_,
  fun b xs q => by rw [aD (hm b _ q fun z => z)]; exact q,fun b u xs q => by rw [aD (hm b _ q fun z => z)]; exact q,fun b ps q => ⟨#[],by rw [aD (hm b _ q fun z => z),q]; simp⟩⟩
 by_cases EV:b = e
 ·subst EV; exact HE
 ·exact ⟨u,k b u EV q⟩
end
noncomputable def vF (h:Heap) (H:Hp):List Addr:=(List.range h.objs.size).filter fun a => (H a).isSome
noncomputable def o6 (h:Heap) (H:Hp):Heap:=PySem.W.hideAll h (vF h H)
theorem wI (h:Heap) (H:Hp):(o6 h H).objs.size = h.objs.size:=PySem.W.hideAll_size _ _
theorem yt {h:Heap} {H:Hp} {b:Addr} {o:Obj} (e:h.get? b = some o) (n:H b = none):(o6 h H).get? b = some o :=
 PySem.W.hideAll_get _ e fun hm => by
  have q:(H b).isSome = true:=(List.mem_filter.mp hm).2
  rw [n] at q; simp at q
theorem BE {h:Heap} {H:Hp} {b:Addr} {o:Obj} (e:(o6 h H).get? b = some o):h.get? b = some o ∧ H b = none:=by
 have e':h.get? b = some o:=PySem.W.of_hideAll (vF h H) e
 refine ⟨e',?_⟩
 cases q:H b with
 | none => rfl
 | some x =>
  have hm:b ∈ vF h H:=List.mem_filter.mpr ⟨List.mem_range.mpr (Heap.lt_size e'),by simp [q]⟩
  have z:(o6 h H).get? b = none:=PySem.W.hideAll_none (vF h H) hm
  rw [z] at e; cases e
end L2
namespace L2
open PySem PySem.Spec PyProof.Rows
structure Mod (K:PySem.W.Frag) (mg:Str → Option Value) (base:Heap):Prop where
 HF:K.In base
 glob:base.Ns mainGlobals mg
 blt:∃ mb,base.Ns builtinsNs mb ∧ ∀ x:Str,x ≠ "__name__" → mb x = bootBuiltins x
 nolimit:base.NoLimit
structure Cx where
 prog:Program
 w:World
 K:PySem.W.Frag
 mg:Str → Option Value
 base:Heap
 A:Around
 N:List Str
 s₀:Shared
 H₀:Hp
 env:Env
 outer:List Env
 stack:List Env
 ex:List Addr
 fn:Str → Bool
 calm:Bool
 pn:List (Addr × Obj)
 xe:Value → Shared → Prop
noncomputable def fw (l:List Env):List Addr:=l.filterMap (·.frame)
noncomputable abbrev Cx.fs (X:Cx):List Addr:=fw X.outer
noncomputable def EW (sc:Scope) (x:Str):Prop:=sc.names.lookup x = some .local ∨ sc.names.lookup x = some .cell ∨ sc.names.lookup x = some .free
noncomputable def Loc (sc:Scope) (x:Str):Prop:=sc.names.lookup x = some .local ∨ sc.names.lookup x = some .cell
noncomputable def Look (env:Env) (h:Heap) (m:Str → Option Value) (x:Str) (u:Value):Prop :=
 (env.kindOf x = some .local ∧ m x = some u) ∨ ((env.kindOf x = some .cell ∨ env.kindOf x = some .free) ∧ ∃ c,env.cells.lookup x = some c ∧ h.IsCell c (some u))
structure Cx.Ok (X:Cx):Prop where
 mod:Mod X.K X.mg X.base
 kind:X.env.scope.kind = .function
 glob:X.env.globals = mainGlobals
 blt:X.env.builtins = builtinsNs
 above:X.s₀.heap.objs.size ≤ X.env.locals
 inj:∀ x y c,X.env.cells.lookup x = some c → X.env.cells.lookup y = some c → x = y
 has:∀ x,(X.env.kindOf x = some .cell ∨ X.env.kindOf x = some .free) → ∃ c,X.env.cells.lookup x = some c
 yu:∀ x c,X.fn x = true → X.env.cells.lookup x = some c → X.s₀.heap.objs.size ≤ c
 hd:X.calm = true → X.A.handled = none
 frames:X.A.frames = some X.stack
 BF:X.stack = X.outer ∨ (X.stack = X.env :: X.outer ∧ X.env.frame = some X.env.locals)
 LV:∀ b ∈ X.ex,b ≠ X.env.locals ∧ ∀ x c,X.env.cells.lookup x = some c → c ≠ b
 bs:∀ b o,X.base.get? b = some o → X.s₀.heap.get? b = some o ∧ X.H₀ b = none
 yw:X.base.objs.size ≤ X.s₀.heap.objs.size
 uz:∀ b o,X.base.get? b = some o → b ∉ X.ex
 yx:∀ b ∈ X.ex,b ∉ X.fs
 hR:X.s₀.heap.FunFrames X.base X.outer
 wJ:∀ b ∈ X.fs,X.H₀ b = none
structure Inv (X:Cx) (pins:List (Addr × Obj)) (σ:List (Option V)) (H:Hp) (s:Shared):Prop where
 ok:X.Ok
 os:s.os = X.s₀.os
 bare:AllBare s.gens
 base:Un X.fs X.ex X.H₀ H X.s₀.heap s.heap
 loc:∃ m,s.heap.Ns X.env.locals m ∧ ∀ (i:Nat) (x:Str) (v:V),X.N[i]? = some x → σ[i]? = some (some v) → EW X.env.scope x → ∃ u,RelV v u ∧ Look X.env s.heap m x u
 cell:∀ x c,X.env.cells.lookup x = some c → ∃ v,s.heap.IsCell c v
 free:H X.env.locals = none
 fH:∀ x c,X.env.cells.lookup x = some c → H c = none
 pin:∀ p ∈ X.pn ++ pins,s.heap.get? p.1 = some p.2 ∧ H p.1 = none ∧ p.1 ≠ X.env.locals ∧ p.1 ∉ X.fs ∧ ∀ v,p.2.data ≠ .cell v
 bz:fQ X.prog X.w H s.heap
 len:σ.length = X.N.length
section
variable {X:Cx} {pins:List (Addr × Obj)} {σ:List (Option V)} {H H':Hp} {s:Shared} {h':Heap}
theorem Cx.Ok.LW (ok:X.Ok) {b:Addr} {o:Obj} (e:X.base.get? b = some o):b ∉ X.fs:=fun hb => by
 have:=(ok.hR.mem hb).1
 rw [e] at this; cases this
theorem Inv.bs (I:Inv X pins σ H s):∀ b o,X.base.get? b = some o → s.heap.get? b = some o ∧ H b = none:=fun b o e =>
 ⟨I.base.keep b o (I.ok.bs b o e).1 (I.ok.bs b o e).2 (I.ok.LW e) (I.ok.uz b o e),I.base.free b o (I.ok.bs b o e).1 (I.ok.bs b o e).2 (I.ok.uz b o e)⟩
theorem Inv.bk (I:Inv X pins σ H s):∀ b o,X.base.get? b = some o → s.heap.get? b = some o:=fun b o e => (I.bs b o e).1
theorem Inv.mod (I:Inv X pins σ H s):Mod X.K X.mg X.base:=I.ok.mod
theorem Inv.mU (I:Inv X pins σ H s):X.K.In s.heap:=I.ok.mod.HF.keeps I.bk
theorem Inv.lt (I:Inv X pins σ H s):X.env.locals < s.heap.objs.size:=let ⟨_,hn,_⟩:=I.loc; hn.lt
theorem Inv.sz (I:Inv X pins σ H s):X.s₀.heap.objs.size ≤ s.heap.objs.size:=Nat.le_trans I.ok.above (Nat.le_of_lt I.lt)
theorem Inv.LX (I:Inv X pins σ H s) {a:Addr} (h:s.heap.objs.size ≤ a):a ∉ X.fs:=fun hb => by
 obtain ⟨_,o,ho,_⟩:=I.ok.hR.mem hb
 exact absurd (Nat.lt_of_lt_of_le (Heap.lt_size ho) (Nat.le_trans I.sz h)) (Nat.lt_irrefl _)
theorem Inv.yy (I:Inv X pins σ H s):∀ x c,X.env.cells.lookup x = some c → c ≠ X.env.locals:=fun x c e z => by
 obtain ⟨v,o,ho,hd⟩:=I.cell x c e
 obtain ⟨m,⟨o',es,ep,lK,LY,_⟩,_⟩:=I.loc
 rw [z,lK] at ho; cases ho; rw [LY] at hd; cases hd
theorem Inv.hR (I:Inv X pins σ H s):s.heap.FunFrames X.base X.outer:=by
 have all:∀ (l:List Env),(∀ b ∈ fw l,b ∈ X.fs) → X.s₀.heap.FunFrames X.base l → s.heap.FunFrames X.base l:=by
  intro l
  induction l with
  | nil => intro _ _; trivial
  | cons env r ih =>
   intro hs hl
   obtain ⟨hk,⟨L,o,hf,hn,ho,hd⟩,hr⟩:=hl
   have hL:L ∈ X.fs:=hs L (by unfold fw; rw [List.filterMap_cons,hf]; exact List.mem_cons_self)
   obtain ⟨sl,e⟩:=I.base.slot L o ho (I.ok.wJ L hL) hL fun z => I.ok.yx L z hL
   exact ⟨hk,⟨L,_,hf,hn,e,hd⟩,ih (fun b hb => hs b (by unfold fw; rw [List.filterMap_cons,hf]; exact List.mem_cons_of_mem _ hb)) hr⟩
 exact all X.outer (fun _ hb => hb) I.ok.hR
theorem Inv.stack (I:Inv X pins σ H s):s.heap.FunFrames X.base X.stack:=by
 rcases I.ok.BF with e | ⟨e,hf⟩
 ·rw [e]; exact I.hR
 ·rw [e]
  obtain ⟨m,hn,_⟩:=I.loc
  refine .cons (by rw [I.ok.kind]; decide) hf hn ?_ I.hR
  exact Heap.get?_none_of_le (Nat.le_trans I.ok.yw I.ok.above)
theorem Inv.ku (I:Inv X pins σ H s):∀ b ∈ fw X.stack,b ∈ X.env.locals :: X.fs:=fun b hb => by
 rcases I.ok.BF with e | ⟨e,hf⟩
 ·rw [e] at hb; exact List.mem_cons_of_mem _ hb
 ·rw [e] at hb
  unfold fw at hb
  rw [List.filterMap_cons,hf] at hb
  exact hb
theorem Inv.qw (I:Inv X pins σ H s):∀ b ∈ fw X.stack,H b = none:=fun b hb => by
 rcases List.mem_cons.mp (I.ku b hb) with e | hb
 ·rw [e]; exact I.free
 ·obtain ⟨_,o,ho,_⟩:=I.ok.hR.mem hb
  exact I.base.free b o ho (I.ok.wJ b hb) fun z => I.ok.yx b z hb
theorem Inv.step {g':Array GenState} {t':Nat} {d':Drawn} {ch:List Addr} (I:Inv X pins σ H s)
  (Bv:∀ b ∈ ch,(b ∈ X.ex ∨ X.s₀.heap.objs.size ≤ b) ∧ b ≠ X.env.locals ∧ (∀ x c,X.env.cells.lookup x = some c → c ≠ b) ∧ ∀ p ∈ X.pn ++ pins,p.1 ≠ b)
  (keep:∀ b o,b ≠ X.env.locals → b ∉ X.fs → b ∉ ch → s.heap.get? b = some o → H b = none → h'.get? b = some o)
  (slot:∀ b o,b ≠ X.env.locals → b ∈ X.fs → b ∉ ch → s.heap.get? b = some o → H b = none → ∃ sl,h'.get? b = some { o with slots:=sl }) (free:∀ b o,b ∉ ch → s.heap.get? b = some o → H b = none → H' b = none)
  (there:∀ b o,b ∉ ch → s.heap.get? b = some o → ∃ o',h'.get? b = some o')
  (h_:∀ b xs,H b = some (.tup xs) → H' b = some (.tup xs)) (gK:∀ b o u,H b = some (.d0 o u) → H' b = some (.d0 o u)) (ie:∀ b ps,H b = some (.o5 ps) → ∃ more,H' b = some (.o5 (ps ++ more)))
  (ns:∀ m,s.heap.Ns X.env.locals m → h'.Ns X.env.locals m) (bz:fQ X.prog X.w H' h') (hg:AllBare g') :
  Inv X pins σ H' { s with heap:=h',gens:=g',drawn:=d',toks:=t' }:=by
 have yz:∀ b o,X.s₀.heap.get? b = some o → b ≠ X.env.locals:=fun b o e => Nat.ne_of_lt (Nat.lt_of_lt_of_le (Heap.lt_size e) I.ok.above)
 have KU:∀ b o,X.s₀.heap.get? b = some o → b ∉ X.ex → b ∉ ch:=fun b o e hx hb => by
  rcases (Bv b hb).1 with z | z
  ·exact hx z
  ·exact absurd (Nat.lt_of_lt_of_le (Heap.lt_size e) z) (Nat.lt_irrefl _)
 have cellK:∀ x c,X.env.cells.lookup x = some c → ∀ v,s.heap.IsCell c v → h'.IsCell c v:=fun x c e v ⟨o,ho,hd⟩ => by
  have Ic:c ∉ ch:=fun z => (Bv c z).2.2.1 x c e rfl
  by_cases hc:c ∈ X.fs
  ·obtain ⟨sl,q⟩:=slot c o (I.yy x c e) hc Ic ho (I.fH x c e)
   exact ⟨_,q,hd⟩
  ·exact ⟨o,keep c o (I.yy x c e) hc Ic ho (I.fH x c e),hd⟩
 refine ⟨I.ok,I.os,hg,⟨fun b o e n hb hx => ?_,fun b o e n hb hx => ?_,fun b o e n hx => ?_,fun b o e hx => ?_,fun b xs e => h_ b xs (I.base.h_ b xs e),fun b o xs e => gK b o xs (I.base.gK b o xs e),fun b ps e => ?_⟩,?_,fun x c e => ?_,?_,fun x c e => ?_,fun p hp => ?_,bz,I.len⟩
 ·exact keep b o (yz b o e) hb (KU b o e hx) (I.base.keep b o e n hb hx) (I.base.free b o e n hx)
 ·obtain ⟨sl,e1⟩:=I.base.slot b o e n hb hx
  obtain ⟨EY,e2⟩:=slot b _ (yz b o e) hb (KU b o e hx) e1 (I.base.free b o e n hx)
  exact ⟨EY,e2⟩
 ·obtain ⟨o',e1⟩:=I.base.there b o e hx
  exact free b o' (KU b o e hx) e1 (I.base.free b o e n hx)
 ·obtain ⟨o',e1⟩:=I.base.there b o e hx
  exact there b o' (KU b o e hx) e1
 ·obtain ⟨m1,e1⟩:=I.base.ie b ps e
  obtain ⟨m2,e2⟩:=ie b _ e1
  exact ⟨m1 ++ m2,by rw [e2,Array.append_assoc]⟩
 ·obtain ⟨m,hn,hl⟩:=I.loc
  refine ⟨m,ns m hn,fun i x v e1 e2 e3 => ?_⟩
  obtain ⟨u,r,l⟩:=hl i x v e1 e2 e3
  refine ⟨u,r,?_⟩
  rcases l with l | ⟨k,c,e,z⟩
  ·exact .inl l
  ·exact .inr ⟨k,c,e,cellK x c e _ z⟩
 ·obtain ⟨v,z⟩:=I.cell x c e
  exact ⟨v,cellK x c e v z⟩
 ·obtain ⟨m,⟨o,_,_,ho,_⟩,_⟩:=I.loc
  exact free _ o (fun z => (Bv _ z).2.1 rfl) ho I.free
 ·obtain ⟨v,o,ho,hd⟩:=I.cell x c e
  exact free c o (fun z => (Bv c z).2.2.1 x c e rfl) ho (I.fH x c e)
 ·obtain ⟨e,n,ne,nf,d⟩:=I.pin p hp
  have Ic:p.1 ∉ ch:=fun z => (Bv p.1 z).2.2.2 p hp rfl
  exact ⟨keep p.1 p.2 ne nf Ic e n,free p.1 p.2 Ic e n,ne,nf,d⟩
theorem Inv.un {t':Nat} (I:Inv X pins σ H s) (u:Un X.fs [] H H' s.heap h') (bz:fQ X.prog X.w H' h'):Inv X pins σ H' { s with heap:=h',toks:=t' }:=by
 obtain ⟨m,⟨o,es,ep,ho,r⟩,_⟩:=id I.loc
 obtain ⟨sl,hL⟩:=u.any ho I.free (by simp)
 exact I.step (g':=s.gens) (d':=s.drawn) (ch:=[]) (fun _ z => nomatch z) (fun b o _ hb _ e n => u.keep b o e n hb (by simp)) (fun b o _ hb _ e n => u.slot b o e n hb (by simp)) (fun b o _ e n => u.free b o e n (by simp)) (fun b o _ e => u.there b o e (by simp)) u.h_ u.gK u.ie (fun m' hm => by
  obtain ⟨o',LZ,L0,lK,r'⟩:=hm
  rw [ho] at lK; cases lK
  exact ⟨_,LZ,L0,hL,r'⟩) bz I.bare
theorem Inv.call {g':Array GenState} {t':Nat} {d':Drawn} {ch:List Addr} (I:Inv X pins σ H s) (u:Un (fw X.stack) ch H H' s.heap h') (bz:fQ X.prog X.w H' h') (hg:AllBare g')
  (Bv:∀ b ∈ ch,(b ∈ X.ex ∨ X.s₀.heap.objs.size ≤ b) ∧ b ≠ X.env.locals ∧ (∀ x c,X.env.cells.lookup x = some c → c ≠ b) ∧ ∀ p ∈ X.pn ++ pins,p.1 ≠ b) :
  Inv X pins σ H' { s with heap:=h',gens:=g',drawn:=d',toks:=t' }:=by
 obtain ⟨m,⟨o,es,ep,ho,r⟩,_⟩:=id I.loc
 obtain ⟨sl,hL⟩:=u.any ho I.free fun z => (Bv _ z).2.1 rfl
 exact I.step (ch:=ch) Bv (fun b o hL hb hc e n => u.keep b o e n (fun z => (List.mem_cons.mp (I.ku b z)).elim hL hb) hc) (fun b o _ _ hc e n => u.any e n hc) (fun b o hc e n => u.free b o e n hc) (fun b o hc e => u.there b o e hc) u.h_ u.gK u.ie (fun m' hm => by
  obtain ⟨o',LZ,L0,lK,r'⟩:=hm
  rw [ho] at lK; cases lK
  exact ⟨_,LZ,L0,hL,r'⟩) bz hg
theorem Inv.turned {t':Nat} {it:Addr} (I:Inv X pins σ H s) (k:∀ b o,b ≠ it → s.heap.get? b = some o → h'.get? b = some o) (hn:H it = none) (hL:it ≠ X.env.locals)
  (h1:it ∈ X.ex ∨ X.s₀.heap.objs.size ≤ it) (h2:∀ x c,X.env.cells.lookup x = some c → c ≠ it) (h3:∀ p ∈ X.pn ++ pins,p.1 ≠ it):Inv X pins σ H { s with heap:=h',toks:=t' }:=by
 have Q3:∀ b u,H b = some u → b ≠ it:=fun b u e z => by rw [z,hn] at e; cases e
 refine I.step (g':=s.gens) (d':=s.drawn) (ch:=[it]) (fun b hb => ?_) (fun b o _ _ hc e _ => k b o (fun z => hc (by simp [z])) e) (fun b o _ _ hc e _ => ⟨o.slots,k b o (fun z => hc (by simp [z])) e⟩) (fun _ _ _ _ n => n)
  (fun b o hc e => ⟨o,k b o (fun z => hc (by simp [z])) e⟩) (fun _ _ e => e) (fun _ _ _ e => e) (fun b ps e => ⟨#[],by rw [e]; simp⟩) (fun m hm => ?_) (fun b u e => ?_) I.bare
 ·have e:b = it:=by simpa using hb
  subst e
  exact ⟨h1,hL,h2,h3⟩
 ·obtain ⟨o,es,ep,ho,r⟩:=hm
  exact ⟨o,es,ep,k _ o (Ne.symm hL) ho,r⟩
 ·refine (I.bz b u e).iT (fun c v hc q => k c v ?_ q) (fun _ q => q) fun _ _ q => q
  rcases hc with z | z
  ·rw [z]; exact Q3 b u e
  ·exact Q3 c _ z
theorem Inv.tok (I:Inv X pins σ H s) (t:Nat):Inv X pins σ H { s with toks:=t }:=I.un (h':=s.heap) (t':=t) Un.refl I.bz
theorem Inv.kept {t':Nat} (I:Inv X pins σ H s) (k:∀ b u,s.heap.get? b = some u → h'.get? b = some u):Inv X pins σ H { s with heap:=h',toks:=t' }:=I.un (Un.kept k) (I.bz.kept k)
theorem Inv.laid {a:Addr} {o:HO} {t':Nat} (I:Inv X pins σ H s) (k:∀ b u,s.heap.get? b = some u → h'.get? b = some u) (hp:s.heap.objs.size ≤ a) (new:bL X.prog X.w (upd H a o) h' a o) :
  Inv X pins σ (upd H a o) { s with heap:=h',toks:=t' }:=I.un (Un.laid k hp (I.bz.fresh hp)) (I.bz.laid k hp new)
theorem Inv.write {x e:Addr} {o:HO} {t':Nat} (I:Inv X pins σ H s) (mu:Ia (H x)) (he:e = x ∨ H e = some (.own x)) (k:∀ b u,b ≠ e → s.heap.get? b = some u → h'.get? b = some u) (HE:∃ u,h'.get? e = some u)
  (new:bL X.prog X.w (upd H x o) h' x o):Inv X pins σ (upd H x o) { s with heap:=h',toks:=t' }:=I.un (Un.write mu he k HE) (I.bz.write mu he k HE new)
theorem Inv.jy {D7:List (Addr × Obj)} (I:Inv X pins σ H s) (h:∀ p ∈ D7,s.heap.get? p.1 = some p.2 ∧ H p.1 = none ∧ p.1 ≠ X.env.locals ∧ p.1 ∉ X.fs ∧ ∀ v,p.2.data ≠ .cell v):Inv X D7 σ H s :=
 ⟨I.ok,I.os,I.bare,I.base,I.loc,I.cell,I.free,I.fH,fun p hp => (List.mem_append.mp hp).elim (fun z => I.pin p (List.mem_append_left _ z)) (h p),I.bz,I.len⟩
theorem mZ {N:List Str} (hN:N.Nodup) {i j:Nat} {x:Str} (a:N[i]? = some x) (b:N[j]? = some x):i = j:=by
 obtain ⟨h1,e1⟩:=List.getElem?_eq_some_iff.mp a
 obtain ⟨h2,e2⟩:=List.getElem?_eq_some_iff.mp b
 exact (List.getElem_inj hN).mp (e1.trans e2.symm)
theorem kA {M:Model} {A:Around} {E:Value → Shared → Prop} {i:Nat} {x:Str} {v:V} {u:Value} {Q:Unit → Shared → Prop} (I:Inv X pins σ H s) (hN:X.N.Nodup) (hi:X.N[i]? = some x) (hx:Loc X.env.scope x) (r:RelV v u)
  (h:∀ s',Inv X pins (σ.set i (some v)) H s' → (∃ a,Heap.SameBut a s.heap s'.heap ∧ (a = X.env.locals ∨ X.env.cells.lookup x = some a)) → Q () s') (hf:X.fn x = true ∨ X.env.scope.names.lookup x = some .local:=by first | exact .inl rfl | exact .inr rfl | assumption):wpAny M A (storeName X.env x u) Q E s:=by
 obtain ⟨m,hn,hl⟩:=id I.loc
 have L3:(X.env.scope.kind == .class || (X.env.scope.kind == .module && X.env.locals != X.env.globals)) = false:=by rw [I.ok.kind]; rfl
 have Ie:i < σ.length:=by rw [I.len]; exact (List.getElem?_eq_some_iff.mp hi).1
 have yy:=I.yy
 have tracked:∀ {a:Addr} {h':Heap},(∃ o,s.heap.get? a = some o ∧ H a = none) → Heap.SameBut a s.heap h' → fQ X.prog X.w H h':=fun {a h'} ha hs b ob e => by
  obtain ⟨_,_,vG⟩:=ha
  refine (I.bz b ob e).iT (fun c w' hc q => (hs.2 c ?_).trans q) (fun _ q => q) fun _ _ q => q
  rintro rfl
  rcases hc with rfl | hc
  ·rw [vG] at e; cases e
  ·rw [vG] at hc; cases hc
 rcases hx with hk | hk
 ·refine wpAny_storeName_local hk hn (fun h' BG hs => ?_) L3
  obtain ⟨oL,_,_,SM,_⟩:=id hn
  refine h _ ⟨I.ok,I.os,I.bare,⟨fun b o e n hb hx => ?_,fun b o e n hb hx => ?_,I.base.free,fun b o e hx => ?_,I.base.h_,I.base.gK,I.base.ie⟩,⟨_,BG,fun j y v' e1 e2 e3 => ?_⟩,fun y c e => ?_,I.free,I.fH,fun p hp => ?_,tracked ⟨oL,SM,I.free⟩ hs,by simpa using I.len⟩ ⟨_,hs,.inl rfl⟩
  ·exact (hs.2 b (Nat.ne_of_lt (Nat.lt_of_lt_of_le (Heap.lt_size e) I.ok.above))).trans (I.base.keep b o e n hb hx)
  ·obtain ⟨sl,e1⟩:=I.base.slot b o e n hb hx
   exact ⟨sl,(hs.2 b (Nat.ne_of_lt (Nat.lt_of_lt_of_le (Heap.lt_size e) I.ok.above))).trans e1⟩
  ·obtain ⟨o',e1⟩:=I.base.there b o e hx
   exact ⟨o',(hs.2 b (Nat.ne_of_lt (Nat.lt_of_lt_of_le (Heap.lt_size e) I.ok.above))).trans e1⟩
  ·by_cases hj:j = i
   ·subst hj
    rw [hi] at e1; cases e1
    rw [List.getElem?_set_self Ie] at e2
    cases e2
    exact ⟨u,r,.inl ⟨hk,by simp⟩⟩
   ·rw [List.getElem?_set_ne (Ne.symm hj)] at e2
    obtain ⟨u',r',q⟩:=hl j y v' e1 e2 e3
    refine ⟨u',r',?_⟩
    rcases q with ⟨k,e⟩ | ⟨k,c,e,z⟩
    ·refine .inl ⟨k,?_⟩
     have:y ≠ x:=fun e => hj (mZ hN e1 (e ▸ hi))
     simp [this,e]
    ·exact .inr ⟨k,c,e,z.sameBut hs (yy y c e)⟩
  ·obtain ⟨w',z⟩:=I.cell y c e
   exact ⟨w',z.sameBut hs (yy y c e)⟩
  ·obtain ⟨e,n,ne,nf,d⟩:=I.pin p hp
   exact ⟨(hs.2 p.1 ne).trans e,n,ne,nf,d⟩
 ·have o7:X.fn x = true:=by
   rcases hf with z | z
   ·exact z
   ·rw [z] at hk; cases hk
  obtain ⟨c,hc⟩:=I.ok.has x (.inl hk)
  obtain ⟨w',z⟩:=I.cell x c hc
  refine wpAny_storeName_cell I.ok.kind hk hc z (fun h' dE hs => ?_)
  obtain ⟨oc,Ig,L4⟩:=id z
  refine h { s with heap:=h' } ⟨I.ok,I.os,I.bare,⟨fun b o e n hb hx => ?_,fun b o e n hb hx => ?_,I.base.free,fun b o e hx => ?_,I.base.h_,I.base.gK,I.base.ie⟩,⟨m,hn.sameBut hs (Ne.symm (yy x c hc)),fun j y v' e1 e2 e3 => ?_⟩,fun y c' e => ?_,I.free,I.fH,fun p hp => ?_,tracked ⟨oc,Ig,I.fH x c hc⟩ hs,by simpa using I.len⟩ ⟨c,hs,.inr hc⟩
  ·exact (hs.2 b (Nat.ne_of_lt (Nat.lt_of_lt_of_le (Heap.lt_size e) (I.ok.yu x c o7 hc)))).trans (I.base.keep b o e n hb hx)
  ·obtain ⟨sl,e1⟩:=I.base.slot b o e n hb hx
   exact ⟨sl,(hs.2 b (Nat.ne_of_lt (Nat.lt_of_lt_of_le (Heap.lt_size e) (I.ok.yu x c o7 hc)))).trans e1⟩
  ·obtain ⟨o',e1⟩:=I.base.there b o e hx
   exact ⟨o',(hs.2 b (Nat.ne_of_lt (Nat.lt_of_lt_of_le (Heap.lt_size e) (I.ok.yu x c o7 hc)))).trans e1⟩
  ·by_cases hj:j = i
   ·subst hj
    rw [hi] at e1; cases e1
    rw [List.getElem?_set_self Ie] at e2
    cases e2
    exact ⟨u,r,.inr ⟨.inl hk,c,hc,dE⟩⟩
   ·rw [List.getElem?_set_ne (Ne.symm hj)] at e2
    obtain ⟨u',r',q⟩:=hl j y v' e1 e2 e3
    refine ⟨u',r',?_⟩
    rcases q with q | ⟨k,c',e,z'⟩
    ·exact .inl q
    ·refine .inr ⟨k,c',e,z'.sameBut hs ?_⟩
     rintro rfl
     exact hj (mZ hN e1 (I.ok.inj _ _ _ e hc ▸ hi))
  ·by_cases HG:c' = c
   ·subst HG; exact ⟨_,dE⟩
   ·obtain ⟨w2,z2⟩:=I.cell y c' e
    exact ⟨w2,z2.sameBut hs HG⟩
  ·obtain ⟨e,n,ne,nf,d⟩:=I.pin p hp
   refine ⟨(hs.2 p.1 ?_).trans e,n,ne,nf,d⟩
   intro q
   rw [q,Ig] at e
   have q':oc = p.2:=Option.some.inj e
   exact d w' (by rw [← q']; exact L4)
theorem m5 {M:Model} {A:Around} {E:Value → Shared → Prop} {i:Nat} {x:Str} {v:V} {u:Value} {Q:Unit → Shared → Prop} (I:Inv X pins σ H s) (hN:X.N.Nodup) (hi:X.N[i]? = some x) (hx:Loc X.env.scope x) (r:RelV v u)
  (h:∀ s',Inv X pins (σ.set i (some v)) H s' → Q () s') (hf:X.fn x = true ∨ X.env.scope.names.lookup x = some .local:=by first | exact .inl rfl | exact .inr rfl | assumption):wpAny M A (storeName X.env x u) Q E s :=
 kA I hN hi hx r (fun s' I' _ => h s' I') hf
theorem Inv.vH {s':Shared} {ch:List Addr} (I:Inv X pins σ H s) (ho:s'.os = s.os) (u:Un (fw X.stack) ch H H' s.heap s'.heap) (bz:fQ X.prog X.w H' s'.heap) (hg:AllBare s'.gens)
  (Bv:∀ b ∈ ch,(b ∈ X.ex ∨ X.s₀.heap.objs.size ≤ b) ∧ b ≠ X.env.locals ∧ (∀ x c,X.env.cells.lookup x = some c → c ≠ b) ∧ ∀ p ∈ X.pn ++ pins,p.1 ≠ b):Inv X pins σ H' s':=by
 obtain ⟨h',g',d',t',o'⟩:=s'
 have e:o' = s.os:=ho
 subst e
 exact I.call (g':=g') (t':=t') (d':=d') u bz hg Bv
end
noncomputable abbrev XK:=Value → Option Addr → Hp → Prop
noncomputable abbrev St:=List (Option V)
noncomputable abbrev VK:=V → Hp → Prop
noncomputable abbrev TE:=St → Hp → VK → Prop
noncomputable abbrev TT:=St → Hp → (Bool → Hp → Prop) → Prop
noncomputable abbrev TA:=St → Hp → (List V → Hp → Prop) → Prop
structure Ends where
 nx:St → Hp → Prop
 rt:VK
 bk:St → Hp → Prop:=fun _ _ => False
 ct:St → Hp → Prop:=fun _ _ => False
noncomputable abbrev TS:=Ends → St → Hp → Prop
noncomputable def EP (X:Cx) (pins:List (Addr × Obj)) (σ:St) (Q:VK) (u:Value) (s':Shared):Prop:=∃ v H',Inv X pins σ H' s' ∧ RelV v u ∧ Q v H'
noncomputable def TP (X:Cx) (pins:List (Addr × Obj)) (σ:St) (Q:Bool → Hp → Prop) (b:Bool) (s':Shared):Prop:=∃ H',Inv X pins σ H' s' ∧ Q b H'
noncomputable def AP (X:Cx) (pins:List (Addr × Obj)) (σ:St) (Q:List V → Hp → Prop) (us:List Value) (s':Shared):Prop:=∃ vs H',Inv X pins σ H' s' ∧ Vals vs us ∧ Q vs H'
noncomputable def SP (X:Cx) (pins:List (Addr × Obj)) (D:Ends) (f:Flow) (s':Shared):Prop :=
 match f with
 | .next => ∃ σ' H',Inv X pins σ' H' s' ∧ D.nx σ' H'
 | .brk => ∃ σ' H',Inv X pins σ' H' s' ∧ D.bk σ' H'
 | .cont => ∃ σ' H',Inv X pins σ' H' s' ∧ D.ct σ' H'
 | .ret u => ∃ v σ' H',Inv X pins σ' H' s' ∧ RelV v u ∧ D.rt v H'
noncomputable def PE (X:Cx) (e:Expr) (t:TE):Prop :=
 ∀ (pins:List (Addr × Obj)) (s:Shared) (σ:St) (H:Hp) (Q:VK),Inv X pins σ H s → t σ H Q → wpAny (model X.prog X.w) X.A (eval e X.env) (EP X pins σ Q) X.xe s
noncomputable def PT (X:Cx) (e:Expr) (t:TT):Prop :=
 ∀ (pins:List (Addr × Obj)) (s:Shared) (σ:St) (H:Hp) (Q:Bool → Hp → Prop),Inv X pins σ H s → t σ H Q → wpAny (model X.prog X.w) X.A (isTrue e X.env (eval e X.env)) (TP X pins σ Q) X.xe s
noncomputable def PW (X:Cx) (e:Expr) (t:TT):Prop :=
 ∀ (whole:Sem Value) (pins:List (Addr × Obj)) (s:Shared) (σ:St) (H:Hp) (Q:Bool → Hp → Prop),Inv X pins σ H s → t σ H Q → wpAny (model X.prog X.w) X.A (isTrue e X.env whole) (TP X pins σ Q) X.xe s
theorem PW.pt {X:Cx} {e:Expr} {t:TT} (h:PW X e t):PT X e t:=h _
noncomputable def PA (X:Cx) (es:List Expr) (t:TA):Prop :=
 ∀ (pos:Pos) (pins:List (Addr × Obj)) (s:Shared) (σ:St) (H:Hp) (Q:List V → Hp → Prop),Inv X pins σ H s → t σ H Q → wpAny (model X.prog X.w) X.A (spliced (backTo pos (starEach es X.env))) (AP X pins σ Q) X.xe s
noncomputable def PS (X:Cx) (st:Stmt) (t:TS):Prop :=
 ∀ (pins:List (Addr × Obj)) (s:Shared) (σ:St) (H:Hp) (D:Ends),Inv X pins σ H s → t D σ H → wpAny (model X.prog X.w) X.A (exec st X.env) (SP X pins D) X.xe s
noncomputable def i_ (X:Cx) (st:List Stmt) (t:TS):Prop :=
 ∀ (pins:List (Addr × Obj)) (s:Shared) (σ:St) (H:Hp) (D:Ends),Inv X pins σ H s → t D σ H → wpAny (model X.prog X.w) X.A (execs st X.env) (SP X pins D) X.xe s
theorem cb {α:Type} {t:Sem α} {Q Q':α → Shared → Prop} {M:Model} {A:Around} {E:Value → Shared → Prop} {s:Shared} (h:wpAny M A t Q E s) (hQ:∀ a s,Q a s → Q' a s):wpAny M A t Q' E s:=wpAny_mono h hQ fun _ _ x => x
end L2
namespace L2
open PySem PySem.Spec PyProof.Rows
section
variable {X:Cx}
noncomputable def L5 (i:Nat):TE:=fun σ H Q => ∃ v,σ[i]? = some (some v) ∧ Q v H
noncomputable def tC (v:V):TE:=fun _ H Q => Q v H
theorem yA {i:Nat} {x:Str} {pos:Pos} (hN:X.N[i]? = some x) (hv:EW X.env.scope x) (hd:(x == ("__debug__":Str)) = false:=by decide) (m6:(x == ("__classdict__":Str)) = false:=by decide):PE X (.Name x pos) (L5 i):=by
 intro pins s σ H Q I h
 obtain ⟨v,e,h⟩:=h
 obtain ⟨m,hn,hl⟩:=I.loc
 obtain ⟨u,r,l⟩:=hl i x v hN e hv
 have fin:EP X pins σ Q u s:=⟨v,H,I,r,h⟩
 rcases l with ⟨hk,hm⟩ | ⟨hk,c,hc,vI⟩
 ·exact wpAny_Name (wpAny_loadName_local I.ok.kind hk hn hm fin) hd
 ·rcases hk with hk | hk
  ·exact wpAny_Name (wpAny_loadName_cell I.ok.kind hk hc vI fin) hd
  ·exact wpAny_Name (wpAny_loadName_free I.ok.kind hk hc vI fin m6) hd
theorem yB {i j pos}:PE X (.Constant (.int i) j pos) (tC (.int i)):=fun _ _ _ H _ I h => wpAny_Constant_int ⟨.int i,H,I.tok _,⟨_,rfl⟩,h⟩
theorem D8 {b j pos}:PE X (.Constant (.bool b) j pos) (tC (.bl b)):=fun _ _ _ H _ I h => Constant_bool ⟨.bl b,H,I,rfl,h⟩
theorem EZ {j pos}:PE X (.Constant .none j pos) (tC .da):=fun _ _ _ H _ I h => Constant_none ⟨.da,H,I,rfl,h⟩
theorem E1 {x j pos}:PE X (.Constant (.str x) j pos) (tC (.str x)):=fun _ _ _ H _ I h => Calls.Constant_str ⟨.str x,H,I.tok _,⟨_,rfl⟩,h⟩
noncomputable def Gl (X:Cx) (x:Str):Prop:=X.env.kindOf x = some .globalImplicit
theorem iF {E:Value → Shared → Prop} {pins:List (Addr × Obj)} {s:Shared} {σ:St} {H:Hp} {x:Str} {u:Value} {pos:Pos} {Q:Value → Shared → Prop} (I:Inv X pins σ H s) (hg:Gl X x) (hm:X.mg x = some u) (h:Q u s)
  (hd:(x == ("__debug__":Str)) = false:=by decide):wpAny (model X.prog X.w) X.A (eval (.Name x pos) X.env) Q E s :=
 Calls.Name_function_global I.ok.kind hg (Calls.loadGlobal_global (by rw [I.ok.glob]; exact I.mod.glob.keeps I.bk) hm h) hd
theorem ja {E:Value → Shared → Prop} {pins:List (Addr × Obj)} {s:Shared} {σ:St} {H:Hp} {x:Str} {u:Value} {pos:Pos} {Q:Value → Shared → Prop} (I:Inv X pins σ H s) (hg:Gl X x) (hm:X.mg x = none) (hv:bootBuiltins x = some u) (h:Q u s)
  (hn:x ≠ "__name__":=by decide) (hd:(x == ("__debug__":Str)) = false:=by decide):wpAny (model X.prog X.w) X.A (eval (.Name x pos) X.env) Q E s:=by
 obtain ⟨mb,h1,h2⟩:=I.mod.blt
 exact Calls.Name_function_global I.ok.kind hg (Calls.loadGlobal_builtin (by rw [I.ok.glob]; exact I.mod.glob.keeps I.bk) hm (by rw [I.ok.blt]; exact h1.keeps I.bk) ((h2 x hn).trans hv) h) hd
theorem vJ {x:Str} {v:V} {u:Value} {pos:Pos} (hg:Gl X x) (hm:X.mg x = some u) (r:RelV v u) (hd:(x == ("__debug__":Str)) = false:=by decide):PE X (.Name x pos) (tC v) :=
 fun _ _ _ H _ I h => iF I hg hm ⟨v,H,I,r,h⟩ hd
theorem vK {x:Str} {v:V} {u:Value} {pos:Pos} (hg:Gl X x) (hm:X.mg x = none) (hv:bootBuiltins x = some u) (r:RelV v u) (hn:x ≠ "__name__":=by decide) (hd:(x == ("__debug__":Str)) = false:=by decide):PE X (.Name x pos) (tC v) :=
 fun _ _ _ H _ I h => ja I hg hm hv ⟨v,H,I,r,h⟩ hn hd
variable {a b:Expr} {ta tb:TE} {pos:Pos}
noncomputable def PC (X:Cx) (op:CmpOp) (a b:Expr) (t:TE):Prop :=
 ∀ (pins:List (Addr × Obj)) (s:Shared) (σ:St) (H:Hp) (Q:VK),Inv X pins σ H s → t σ H Q →
  wpAny (model X.prog X.w) X.A (eval a X.env) (fun v s₁ => wpAny (model X.prog X.w) X.A (eval b X.env) (fun u s₂ => wpAny (model X.prog X.w) X.A (compareOp op v u) (EP X pins σ Q) X.xe s₂) X.xe s₁) X.xe s
noncomputable def tB (t:TE):TT:=fun σ H Q => t σ H fun x H1 => ∃ c,x = .bl c ∧ Q c H1
theorem E2 {e:Expr} {t:TE} (h:PE X e t) (he:∀ whole,isTrue e X.env whole = (do let v ← whole; standAt e.pos; holding [v] (truthy v)):=by intro _; rfl):PT X e (tB t):=by
 intro pins s σ H Q I hw
 refine isTrue_plain (cb (h pins s σ H _ I hw) fun v s1 ⟨x,H1,I1,r1,q1⟩ => ?_) (he _)
 obtain ⟨d,rfl,q⟩:=q1
 cases r1
 exact wpAny_truthy_bool ⟨H1,I1,q⟩
variable {tA BH:TT} {rest:List Expr}
noncomputable def L6 (t u:TT):TT:=fun σ H Q => t σ H fun c H1 => if c = true then u σ H1 Q else Q false H1
noncomputable def SN (t u:TT):TT:=fun σ H Q => t σ H fun c H1 => if c = true then Q true H1 else u σ H1 Q
noncomputable def L7 (t:TT):TT:=fun σ H Q => t σ H fun c H1 => Q (!c) H1
theorem BI (ha:PT X a tA):PW X (.BoolOp .And [a] pos) tA:=by
 intro wh pins s σ H Q I h
 refine isTrue_and (cb (ha pins s σ H Q I h) fun c s1 e => ?_)
 cases c with
 | true => exact isTrue_and_nil e
 | false => exact e
theorem E3 (ha:PT X a tA):PW X (.BoolOp .Or [a] pos) tA:=by
 intro wh pins s σ H Q I h
 refine isTrue_or (cb (ha pins s σ H Q I h) fun c s1 e => ?_)
 cases c with
 | false => exact isTrue_or_nil e
 | true => exact e
theorem E5 (ha:PT X a tA) (hb:PW X (.BoolOp .And (b :: rest) pos) BH):PW X (.BoolOp .And (a :: b :: rest) pos) (L6 tA BH):=by
 intro wh pins s σ H Q I h
 refine isTrue_and (cb (ha pins s σ H _ I h) fun c s1 ⟨H1,I1,q1⟩ => ?_)
 cases c with
 | true => exact hb wh pins s1 σ H1 Q I1 q1
 | false => exact ⟨H1,I1,q1⟩
theorem Ih (ha:PT X a tA) (hb:PW X (.BoolOp .Or (b :: rest) pos) BH):PW X (.BoolOp .Or (a :: b :: rest) pos) (SN tA BH):=by
 intro wh pins s σ H Q I h
 refine isTrue_or (cb (ha pins s σ H _ I h) fun c s1 ⟨H1,I1,q1⟩ => ?_)
 cases c with
 | true => exact ⟨H1,I1,q1⟩
 | false => exact hb wh pins s1 σ H1 Q I1 q1
theorem E7 (ha:PT X a tA):PT X (.UnaryOp .Not a pos) (L7 tA):=by
 intro pins s σ H Q I h
 exact isTrue_not (ha pins s σ H (fun c H1 => Q (!c) H1) I h)
noncomputable def Ii (ta tb:TE):TE:=fun σ H Q => ta σ H fun x H1 => ∃ c,x = .bl c ∧ if c = true then tb σ H1 Q else Q (.bl false) H1
noncomputable def Ij (ta:TE):TE:=fun σ H Q => ta σ H fun x H1 => ∃ c,x = .bl c ∧ Q (.bl (!c)) H1
theorem E8 {op} {t:TE} (h:PE X a t):PE X (.BoolOp op [a] pos) t:=fun pins s σ H Q I hw => BoolOp_one (h pins s σ H Q I hw)
theorem E9 (ha:PE X a ta) (hb:PE X (.BoolOp .And (b :: rest) pos) tb):PE X (.BoolOp .And (a :: b :: rest) pos) (Ii ta tb):=by
 intro pins s σ H Q I h
 refine BoolOp_and (cb (ha pins s σ H _ I h) fun v s1 ⟨x,H1,I1,r1,q1⟩ => ?_)
 obtain ⟨c,rfl,q1⟩:=q1
 cases r1
 refine wpAny_truthy_bool ?_
 cases c with
 | true => exact hb pins s1 σ H1 Q I1 q1
 | false => exact ⟨.bl false,H1,I1,rfl,q1⟩
theorem E_ (ha:PE X a ta):PE X (.UnaryOp .Not a pos) (Ij ta):=by
 intro pins s σ H Q I h
 refine UnaryOp_ (cb (ha pins s σ H _ I h) fun v s1 ⟨x,H1,I1,r1,q1⟩ => ?_)
 obtain ⟨c,rfl,q1⟩:=q1
 cases r1
 exact not_of (wpAny_truthy_bool ⟨.bl (!c),H1,I1,rfl,q1⟩)
noncomputable def SQ (t:TT) (ta tb:TE):TE:=fun σ H Q => t σ H fun c H1 => if c = true then ta σ H1 Q else tb σ H1 Q
theorem yC {c:Expr} (hc:PT X c tA) (ha:PE X a ta) (hb:PE X b tb):PE X (.IfExp c a b pos) (SQ tA ta tb):=by
 intro pins s σ H Q I h
 refine wpAny_IfExp (cb (hc pins s σ H _ I h) fun d s1 ⟨H1,I1,q1⟩ => ?_)
 cases d with
 | true => exact ha pins s1 σ H1 Q I1 q1
 | false => exact hb pins s1 σ H1 Q I1 q1
end
end L2
namespace L2
open PySem PySem.Spec PyProof.Rows
noncomputable def jb (K:PySem.W.Frag) (H:Hp) (a:Addr) (xs:List V):Prop :=
 Rd H a (.lst xs) ∨
  ∃ (o:Obj) (aE:Array Value) (n:Nat),K.lookup a = some o ∧ o.cls = .type "list" ∧ o.dict = none ∧ o.data = .seq aE n ∧ aE.size ≤ sizeLine ∧ Vals xs aE.toList
noncomputable def gp (K:PySem.W.Frag) (H:Hp) (a:Addr) (xs:List V):Prop :=
 Rd H a (.tup xs) ∨
  ∃ (o:Obj) (aE:Array Value) (n:Nat),K.lookup a = some o ∧ o.cls = .type "tuple" ∧ o.data = .seq aE n ∧ aE.size ≤ sizeLine ∧ Vals xs aE.toList
noncomputable def L8:Value → Option V
 | .none => some .da
 | .bool b => some (.bl b)
 | .int i _ => some (.int i)
 | .str x _ => some (.str x)
 | .bytes b _ => some (.LS b)
 | .float b _ => some (.kj b)
 | .ref a => some (.ref a)
 | .type n => some (.ty n)
 | _ => none
theorem RelV.abs {x:V} {u:Value} (r:RelV x u):L8 u = some x:=by
 cases x with
 | da => cases r; rfl
 | bl _ => cases r; rfl
 | int _ => obtain ⟨t,rfl⟩:=r; rfl
 | str _ => obtain ⟨t,rfl⟩:=r; rfl
 | LS _ => obtain ⟨t,rfl⟩:=r; rfl
 | kj _ => obtain ⟨t,rfl⟩:=r; rfl
 | ref _ => cases r; rfl
 | ty _ => cases r; rfl
theorem RelV.inj {x y:V} {u:Value} (r:RelV x u) (q:RelV y u):x = y:=Option.some.inj (r.abs.symm.trans q.abs)
theorem Vals.inj {xs ys:List V} {us:List Value} (p:Vals xs us) (q:Vals ys us):xs = ys:=by
 induction p generalizing ys with
 | nil => cases q; rfl
 | cons r t ih =>
  cases q with
  | cons r' t' => rw [r.inj r',ih t']
section
variable {X:Cx} {pins:List (Addr × Obj)} {σ:St} {H:Hp} {s:Shared} {a:Addr} {xs ys:List V}
theorem jb.of {K:PySem.W.Frag} (h:H a = some (.lst xs)):jb K H a xs:=.inl (.inl h)
theorem gp.of {K:PySem.W.Frag} (h:H a = some (.tup xs)):gp K H a xs:=.inl (.inl h)
theorem Inv.list (I:Inv X pins σ H s) (h:jb X.K H a xs):∃ aE:List Value,Vals xs aE ∧ PlainL s.heap a aE.toArray ∧ xs.length ≤ sizeLine:=by
 rcases h with h | ⟨o,aE,n,hk,hc,hd,hs,hz,r⟩
 ·obtain ⟨z,aE,n,r,e⟩:=h.ok I.bz
  exact ⟨aE,r,⟨_,n,e,rfl,rfl,rfl⟩,z⟩
 ·refine ⟨aE.toList,r,⟨o,n,I.mU a o hk,hc,hd,by simpa using hs⟩,?_⟩
  have e:=r.length
  simp only [Array.length_toList] at e
  lia
theorem Inv.tuple (I:Inv X pins σ H s) (h:gp X.K H a xs):∃ aE:List Value,Vals xs aE ∧ IsTup s.heap a aE.toArray ∧ xs.length ≤ sizeLine:=by
 rcases h with h | ⟨o,aE,n,hk,hc,hs,hz,r⟩
 ·obtain ⟨z,aE,r,p⟩:=h.ok I.bz
  exact ⟨aE,r,p,z⟩
 ·refine ⟨aE.toList,r,⟨o,I.mU a o hk,hc,n,by simpa using hs⟩,?_⟩
  have e:=r.length
  simp only [Array.length_toList] at e
  lia
theorem Inv.m7 (I:Inv X pins σ H s) (h:jb X.K H a xs) (h':jb X.K H a ys):xs = ys:=by
 obtain ⟨aE,r,⟨o,n,e,_,_,d⟩,_⟩:=I.list h
 obtain ⟨its',r',⟨o',n',e',_,_,d'⟩,_⟩:=I.list h'
 rw [e] at e'; cases e'
 rw [d] at d'
 injection d' with d1 _
 have:aE = its':=by simpa using congrArg Array.toList d1
 subst this
 exact r.inj r'
theorem Inv.kB (I:Inv X pins σ H s) (h:gp X.K H a xs) (h':gp X.K H a ys):xs = ys:=by
 obtain ⟨aE,r,⟨o,e,_,n,d⟩,_⟩:=I.tuple h
 obtain ⟨its',r',⟨o',e',_,n',d'⟩,_⟩:=I.tuple h'
 rw [e] at e'; cases e'
 rw [d] at d'
 injection d' with d1 _
 have:aE = its':=by simpa using congrArg Array.toList d1
 subst this
 exact r.inj r'
end
noncomputable abbrev Cx.jz (X:Cx) (E:Value → Shared → Prop):Cx:={ X with xe:=E }
theorem Cx.Ok.jz {X:Cx} (ok:X.Ok) (E:Value → Shared → Prop):(X.jz E).Ok :=
 ⟨ok.mod,ok.kind,ok.glob,ok.blt,ok.above,ok.inj,ok.has,ok.yu,ok.hd,ok.frames,ok.BF,ok.LV,ok.bs,ok.yw,ok.uz,ok.yx,ok.hR,ok.wJ⟩
theorem Cx.Ok.m8 {X:Cx} {E:Value → Shared → Prop} (ok:(X.jz E).Ok):X.Ok :=
 ⟨ok.mod,ok.kind,ok.glob,ok.blt,ok.above,ok.inj,ok.has,ok.yu,ok.hd,ok.frames,ok.BF,ok.LV,ok.bs,ok.yw,ok.uz,ok.yx,ok.hR,ok.wJ⟩
section
variable {X:Cx} {pins:List (Addr × Obj)} {σ:St} {H:Hp} {s:Shared} {E:Value → Shared → Prop}
theorem Inv.jz (I:Inv X pins σ H s) (E:Value → Shared → Prop):Inv (X.jz E) pins σ H s:=⟨I.ok.jz E,I.os,I.bare,I.base,I.loc,I.cell,I.free,I.fH,I.pin,I.bz,I.len⟩
theorem Inv.m8 (I:Inv (X.jz E) pins σ H s):Inv X pins σ H s:=⟨I.ok.m8,I.os,I.bare,I.base,I.loc,I.cell,I.free,I.fH,I.pin,I.bz,I.len⟩
end
section
variable {X:Cx} {st:Stmt} {rest:List Stmt} {t u:TS} {e:Expr} {te:TE} {pos:Pos}
noncomputable def Ik:TS:=fun D σ H => D.nx σ H
noncomputable def L9 (t u:TS):TS:=fun D σ H => t { D with nx:=u D } σ H
theorem BJ:i_ X [] Ik:=fun _ _ σ H _ I h => wpAny_execs_nil ⟨σ,H,I,h⟩
theorem yD (h1:PS X st t) (h2:i_ X rest u):i_ X (st :: rest) (L9 t u):=by
 intro pins s σ H D I h
 refine wpAny_execs_cons (cb (h1 pins s σ H { D with nx:=u D } I h) fun f s1 q => ?_)
 cases f with
 | next =>
  obtain ⟨σ',H',I',q⟩:=q
  exact h2 pins s1 σ' H' D I' q
 | ret v => exact q
 | brk => exact q
 | cont => exact q
theorem BK (h1:PS X st t):i_ X [st] t:=by
 intro pins s σ H D I h
 refine wpAny_execs_cons (cb (h1 pins s σ H D I h) fun f s1 q => ?_)
 cases f with
 | next => exact wpAny_execs_nil q
 | ret v => exact q
 | brk => exact q
 | cont => exact q
theorem Inv.quiet {pins:List (Addr × Obj)} {σ:St} {H:Hp} {s:Shared} (I:Inv X pins σ H s):interactive X.env = false:=by simp [interactive,I.ok.kind]
noncomputable def Il (te:TE):TS:=fun D σ H => te σ H fun _ H1 => D.nx σ H1
theorem BL (he:PE X e te) (hs:swapsWith e none pos.line X.env = pure false:=by rfl):PS X (.Expr e pos) (Il te):=by
 intro pins s σ H D I h
 exact wpAny_Expr_any (cb (he pins s σ H _ I h) fun v s1 ⟨x,H1,I1,r1,q1⟩ => ⟨σ,H1,I1,q1⟩) I.quiet hs
noncomputable def L_ (te:TE):TS:=fun D σ H => te σ H D.rt
theorem Fb (he:PE X e te):PS X (.Return (some e) pos) (L_ te):=by
 intro pins s σ H D I h
 exact wpAny_Return_some (cb (he pins s σ H _ I h) fun v s1 ⟨x,H1,I1,r1,q1⟩ => ⟨x,σ,H1,I1,r1,q1⟩)
noncomputable def Ma (c:TT) (t u:TS):TS:=fun D σ H => c σ H fun b H1 => if b = true then t D σ H1 else u D σ H1
theorem Im {c:Expr} {a b:List Stmt} {tc:TT} (hc:PT X c tc) (ha:i_ X a t) (hb:i_ X b u):PS X (.If c a b pos) (Ma tc t u):=by
 intro pins s σ H D I h
 refine wpAny_If (cb (hc pins s σ H _ I h) fun d s1 ⟨H1,I1,q1⟩ => ?_)
 cases d with
 | true => exact ha pins s1 σ H1 D I1 q1
 | false => exact hb pins s1 σ H1 D I1 q1
end
noncomputable abbrev TG:=V → St → Hp → (St → Hp → Prop) → Prop
noncomputable abbrev BM:=List V → St → Hp → (St → Hp → Prop) → Prop
noncomputable def PG (X:Cx) (target:Expr) (t:TG):Prop :=
 ∀ (pins:List (Addr × Obj)) (s:Shared) (σ:St) (H:Hp) (v:V) (u:Value) (Q:St → Hp → Prop),Inv X pins σ H s → RelV v u → t v σ H Q →
  wpAny (model X.prog X.w) X.A (assign target X.env u) (fun _ s' => ∃ σ' H',Inv X pins σ' H' s' ∧ Q σ' H') X.xe s
noncomputable def wK (X:Cx) (ts:List Expr) (t:BM):Prop :=
 ∀ (pins:List (Addr × Obj)) (s:Shared) (σ:St) (H:Hp) (vs:List V) (us:List Value) (Q:St → Hp → Prop),Inv X pins σ H s → Vals vs us → t vs σ H Q →
  wpAny (model X.prog X.w) X.A (assignInOrder ((assignEach ts X.env).map (·.2)) us) (fun _ s' => ∃ σ' H',Inv X pins σ' H' s' ∧ Q σ' H') X.xe s
section
variable {X:Cx} {pos:Pos}
noncomputable def r_ (i:Nat):TG:=fun v σ H Q => Q (σ.set i (some v)) H
theorem BN {i:Nat} {x:Str} (hN:X.N.Nodup) (hi:X.N[i]? = some x) (hx:Loc X.env.scope x) (hf:X.fn x = true ∨ X.env.scope.names.lookup x = some .local:=by first | exact .inl rfl | exact .inr rfl | assumption):PG X (.Name x pos) (r_ i):=by
 intro pins s σ H v u Q I r h
 exact wpAny_assign_Name (m5 I hN hi hx r (fun s' I' => ⟨_,H,I',h⟩) hf)
noncomputable def Mb:BM:=fun vs σ H Q => vs = [] ∧ Q σ H
noncomputable def Io (t:TG) (u:BM):BM:=fun vs σ H Q => ∃ v r,vs = v :: r ∧ t v σ H fun σ' H' => u r σ' H' Q
theorem BO:wK X [] Mb:=by
 intro pins s σ H vs us Q I r h
 obtain ⟨e,h⟩:=h
 subst e
 cases r
 exact assignInOrder_nil ⟨σ,H,I,h⟩
theorem yE {e:Expr} {es:List Expr} {t:TG} {u:BM} (h1:PG X e t) (h2:wK X es u)
  (hs:(assignEach (e :: es) X.env).map (·.2) = assign e X.env :: (assignEach es X.env).map (·.2):=by rfl):wK X (e :: es) (Io t u):=by
 intro pins s σ H vs us Q I r h
 obtain ⟨v,vr,e1,h⟩:=h
 subst e1
 cases r with
 | cons r rr =>
  rw [hs]
  refine assignInOrder_cons (cb (h1 pins s σ H _ _ _ I r h) fun _ s1 ⟨σ1,H1,I1,q1⟩ => ?_)
  exact h2 pins s1 σ1 H1 _ _ Q I1 rr q1
noncomputable def Mc (K:PySem.W.Frag) (n:Nat) (t:BM):TG:=fun v σ H Q => ∃ a xs,v = .ref a ∧ gp K H a xs ∧ xs.length = n ∧ t xs σ H Q
theorem Fc {es:List Expr} {k:Nat} {t:BM} {n:Nat} (hc:X.calm = true) (h:wK X es t)
  (hn:(assignEach es X.env).length = n:=by rfl) (Bw:(assignEach es X.env).findIdx? (·.1) = none:=by rfl):PG X (.Tuple es k pos) (Mc X.K n t):=by
 intro pins s σ H v u Q I r hw
 obtain ⟨a,xs,e1,hq,hl,hw⟩:=hw
 subst e1
 cases r
 obtain ⟨aE,rv,ht,hz⟩:=I.tuple hq
 refine assign_Tuple_tuple (I.ok.hd hc) ht (by simp [hn,← hl,rv.length]) Bw fun h' hx => ?_
 have I1:Inv X pins σ H { s with heap:=h' }:=I.kept (t':=s.toks) fun b o e => hx b o (Nat.ne_of_lt (Heap.lt_size e)) e
 exact h pins _ σ H xs _ Q I1 (by simpa using rv) hw
noncomputable def Fd (te:TE) (g:TG):TS:=fun D σ H => te σ H fun x H1 => g x σ H1 D.nx
theorem Fe {i:Nat} {x:Str} {e:Expr} {te:TE} {pos':Pos} (hN:X.N.Nodup) (hi:X.N[i]? = some x) (hx:Loc X.env.scope x) (he:PE X e te) (hs:swapsWith e (some (.Name x pos')) pos.line X.env = pure false:=by rfl) (hf:X.fn x = true ∨ X.env.scope.names.lookup x = some .local:=by first | exact .inl rfl | exact .inr rfl | assumption) :
  PS X (.Assign [.Name x pos'] e pos) (Fd te (r_ i)):=by
 intro pins s σ H D I h
 refine wpAny_Assign_Name (cb (he pins s σ H _ I h) fun v s1 ⟨y,H1,I1,r1,q1⟩ => ?_) hs
 exact m5 I1 hN hi hx r1 (fun s2 I2 => ⟨_,H1,I2,q1⟩) hf
end
section
variable {X:Cx} {pos:Pos}
end
structure It where
 go:Nat → Hp → Prop
 Ip:Nat → Hp → V → Hp → Prop
 stop:Nat → Hp → Prop
noncomputable def iU (X:Cx) (pins:List (Addr × Obj)) (H:Hp) (b:Addr):Prop :=
 H b = none ∧ b ≠ X.env.locals ∧ b ∉ X.fs ∧ (b ∈ X.ex ∨ X.s₀.heap.objs.size ≤ b) ∧ (∀ x c,X.env.cells.lookup x = some c → c ≠ b) ∧ ∀ p ∈ X.pn ++ pins,p.1 ≠ b
theorem Inv.wL {X:Cx} {pins:List (Addr × Obj)} {σ:St} {H H':Hp} {s:Shared} {b:Addr} (I:Inv X pins σ H s) (hb:s.heap.objs.size ≤ b) (hn:H' b = none):iU X pins H' b:=by
 refine ⟨hn,Nat.ne_of_gt (Nat.lt_of_lt_of_le I.lt hb),I.LX hb,.inr (Nat.le_trans I.sz hb),fun x c e z => ?_,fun p hp z => ?_⟩
 ·obtain ⟨v,q⟩:=I.cell x c e
  exact absurd (Nat.lt_of_lt_of_le q.lt (by rw [z]; exact hb)) (Nat.lt_irrefl _)
 ·exact absurd (Nat.lt_of_lt_of_le (Heap.lt_size (I.pin p hp).1) (by rw [z]; exact hb)) (Nat.lt_irrefl _)
structure Turn (P:Program) (w:World) (K:PySem.W.Frag) (tg:Expr) (J:It) (fp:List Addr) (it:Addr) (tn:Nat → Heap → Prop):Prop where
 mem:it ∈ fp
 obj:∀ i h,tn i h → ∀ b ∈ fp,∃ o,h.get? b = some o ∧ ∀ v,o.data ≠ .cell v
 keep:∀ i h h',tn i h → (∀ b ∈ fp,∀ o,h.get? b = some o → h'.get? b = some o) → tn i h'
 item:∀ (X:Cx),X.prog = P → X.w = w → X.K = K → X.calm = true → ∀ (i:Nat) (pins:List (Addr × Obj)) (s:Shared) (σ:St) (H:Hp) (E:Value → Shared → Prop),Inv X pins σ H s → (∀ b ∈ fp,iU X pins H b) → tn i s.heap → J.go i H →
  wpAny (model P w) X.A (pyNext (.ref it)) (fun r s1 => ∃ u,r = some u ∧
   wpAny (model P w) X.A (letOwnedTupleGo tg (.ref it) u) (fun _ s2 => ∃ x H',Inv X pins σ H' s2 ∧ RelV x u ∧ J.Ip i H x H' ∧ tn (i + 1) s2.heap ∧ ∀ b ∈ fp,H' b = none) E s1) E s
 done:∀ (X:Cx),X.prog = P → X.w = w → X.K = K → X.calm = true → ∀ (i:Nat) (pins:List (Addr × Obj)) (s:Shared) (σ:St) (H:Hp) (E:Value → Shared → Prop),Inv X pins σ H s → (∀ b ∈ fp,iU X pins H b) → tn i s.heap → J.stop i H →
  wpAny (model P w) X.A (pyNext (.ref it)) (fun r s1 => r = none ∧ Inv X pins σ H s1) E s
 self:∀ (A:Around) (i:Nat) (s:Shared) (Q:Value → Shared → Prop) (E:Value → Shared → Prop),tn i s.heap → Q (.ref it) s → wpAny (model P w) A (pyIter (.ref it)) Q E s
noncomputable abbrev TI:=St → Hp → (It → Hp → Prop) → Prop
noncomputable def Q4 (X:Cx) (pins:List (Addr × Obj)) (σ:St) (tg:Expr) (R:It → Hp → Prop) (KW:Value) (s2:Shared):Prop :=
 ∃ (it:Addr) (fp:List Addr) (tn:Nat → Heap → Prop) (J:It) (H':Hp),KW = .ref it ∧ Inv X pins σ H' s2 ∧ Turn X.prog X.w X.K tg J fp it tn ∧ tn 0 s2.heap ∧ (∀ b ∈ fp,iU X pins H' b) ∧ R J H'
noncomputable def PI (X:Cx) (tg iter:Expr) (wi:TI):Prop :=
 ∀ (pins:List (Addr × Obj)) (s:Shared) (σ:St) (H:Hp) (R:It → Hp → Prop),Inv X pins σ H s → wi σ H R →
  wpAny (model X.prog X.w) X.A (eval iter X.env) (fun v s1 => wpAny (model X.prog X.w) X.A (pyIter v) (Q4 X pins σ tg R) X.xe s1) X.xe s
theorem yF {M:Model} {A:Around} {E:Value → Shared → Prop} {s:Shared} {tg:Expr} {it:Addr} {u:Value} {o:Obj} {n:String} {vs:Array Value} {Q:Unit → Shared → Prop} (ho:s.heap.get? it = some o) (hc:o.cls = .type n) (hd:o.data = .fields vs)
    (hn:["enumerate","zip","dict_itemiterator","dict_reverseitemiterator","odict_iterator","itertools.zip_longest","itertools.pairwise"].contains n = false) (hQ:Q () s):wpAny M A (letOwnedTupleGo tg (.ref it) u) Q E s:=by
  unfold letOwnedTupleGo
  cases tg <;> first
    | exact wpAny_pure hQ
    | (cases u <;> first
        | exact wpAny_pure hQ
        | (refine wpAny_bind (wpAny_load ho ?_)
           rw [hc,hd]
           show wpAny M A (if (["enumerate","zip","dict_itemiterator","dict_reverseitemiterator","odict_iterator","itertools.zip_longest","itertools.pairwise"].contains n && vs[0]? == some (rawInt _)) = true then _ else _) Q E s
           rw [if_neg (by intro h; rw [hn,Bool.false_and] at h; cases h)]
           exact wpAny_pure hQ))
noncomputable def Md (K:PySem.W.Frag) (a:Addr):It :=
 ⟨fun i H => ∃ xs x,jb K H a xs ∧ xs[i]? = some x,fun i H x H' => H' = H ∧ ∀ xs,jb K H a xs → xs[i]? = some x,fun i H => ∃ xs,jb K H a xs ∧ xs.length ≤ i⟩
noncomputable def Me (K:PySem.W.Frag) (a:Addr):It :=
 ⟨fun i H => ∃ xs x,gp K H a xs ∧ xs[i]? = some x,fun i H x H' => H' = H ∧ ∀ xs,gp K H a xs → xs[i]? = some x,fun i H => ∃ xs,gp K H a xs ∧ xs.length ≤ i⟩
noncomputable def KY (lo:Int) (n:Nat):It:=⟨fun i _ => i < n,fun i H x H' => H' = H ∧ x = .int (lo + i),fun i _ => n ≤ i⟩
theorem wM {P:Program} {w:World} {K:PySem.W.Frag} {tg:Expr} (a it:Addr):Turn P w K tg (Md K a) [it] it (fun i h => h.IsListIter it a i) where
 mem:=by simp
 obj:=fun i h st b hb => by
  have e:b = it:=by simpa using hb
  subst e
  obtain ⟨o,e,c,d⟩:=st
  exact ⟨o,e,fun v z => by rw [d] at z; cases z⟩
 keep:=fun i h h' st k => st.at fun o e => k it (by simp) o e
 item:=by
  intro X hP hw hK hc i pins s σ H E I hf st hg
  subst hP hw hK
  obtain ⟨xs,x,hq,hx⟩:=hg
  obtain ⟨aE,rv,p,hz⟩:=I.list hq
  obtain ⟨u,hu,ru⟩:=rv.get hx
  obtain ⟨f0,f1,f2,f3,f4,f5⟩:=hf it (by simp)
  refine wpAny_pyNext_list_item st p.isList (x:=u) (by simpa using hu) fun h' av sb => ?_
  have I1:Inv X pins σ H { s with heap:=h' }:=I.turned (t':=s.toks) (fun b o hb e => (sb.2 b hb).trans e) f0 f1 f3 f4 f5
  obtain ⟨o,e,c,d⟩:=id av
  exact ⟨u,rfl,yF (s:={ s with heap:=h' }) e c d (by decide) ⟨x,H,I1,ru,⟨rfl,fun ys hy => by rw [I.m7 hy hq]; exact hx⟩,av,fun b hb => (hf b hb).1⟩⟩
 done:=by
  intro X hP hw hK hc i pins s σ H E I hf st hg
  subst hP hw hK
  obtain ⟨xs,hq,hx⟩:=hg
  obtain ⟨aE,rv,p,hz⟩:=I.list hq
  obtain ⟨f0,f1,f2,f3,f4,f5⟩:=hf it (by simp)
  have hl:=rv.length
  exact wpAny_pyNext_list_end (I.ok.hd hc) st p.isList (by simp; lia) fun h' eb => ⟨rfl,I.turned (t':=s.toks) (fun b o hb e => eb b o hb e) f0 f1 f3 f4 f5⟩
 self:=fun _ _ _ _ _ st h => wpAny_pyIter_listiter st h
theorem uA {P:Program} {w:World} {K:PySem.W.Frag} {tg:Expr} (a it:Addr):Turn P w K tg (Me K a) [it] it (fun i h => h.IsTupleIter it a i) where
 mem:=by simp
 obj:=fun i h st b hb => by
  have e:b = it:=by simpa using hb
  subst e
  obtain ⟨o,e,c,d⟩:=st
  exact ⟨o,e,fun v z => by rw [d] at z; cases z⟩
 keep:=fun i h h' st k => st.at fun o e => k it (by simp) o e
 item:=by
  intro X hP hw hK hc i pins s σ H E I hf st hg
  subst hP hw hK
  obtain ⟨xs,x,hq,hx⟩:=hg
  obtain ⟨aE,rv,p,hz⟩:=I.tuple hq
  obtain ⟨u,hu,ru⟩:=rv.get hx
  obtain ⟨f0,f1,f2,f3,f4,f5⟩:=hf it (by simp)
  refine wpAny_pyNext_tuple_item st (show s.heap.IsTuple a aE.toArray from p) (x:=u) (by simpa using hu) fun h' av sb => ?_
  have I1:Inv X pins σ H { s with heap:=h' }:=I.turned (t':=s.toks) (fun b o hb e => (sb.2 b hb).trans e) f0 f1 f3 f4 f5
  obtain ⟨o,e,c,d⟩:=id av
  exact ⟨u,rfl,yF (s:={ s with heap:=h' }) e c d (by decide) ⟨x,H,I1,ru,⟨rfl,fun ys hy => by rw [I.kB hy hq]; exact hx⟩,av,fun b hb => (hf b hb).1⟩⟩
 done:=by
  intro X hP hw hK hc i pins s σ H E I hf st hg
  subst hP hw hK
  obtain ⟨xs,hq,hx⟩:=hg
  obtain ⟨aE,rv,p,hz⟩:=I.tuple hq
  obtain ⟨f0,f1,f2,f3,f4,f5⟩:=hf it (by simp)
  have hl:=rv.length
  exact wpAny_pyNext_tuple_end (I.ok.hd hc) st (show s.heap.IsTuple a aE.toArray from p) (by simp; lia) fun h' eb => ⟨rfl,I.turned (t':=s.toks) (fun b o hb e => eb b o hb e) f0 f1 f3 f4 f5⟩
 self:=fun _ _ _ _ _ st h => wpAny_pyIter_tupleiter st h
theorem uB {P:Program} {w:World} {K:PySem.W.Frag} {tg:Expr} (it:Addr) (lo:Int) (n:Nat):Turn P w K tg (KY lo n) [it] it (fun i h => IsRangeIter h it (lo + (i:Nat) * 1) ((n:Int) - (i:Nat)) 1) where
 mem:=by simp
 obj:=fun i h st b hb => by
  have e:b = it:=by simpa using hb
  subst e
  exact ⟨_,st,fun v z => by
   have z':Data.fields _ = Data.cell v:=z
   cases z'⟩
 keep:=fun i h h' st k => k it (by simp) _ st
 item:=by
  intro X hP hw hK hc i pins s σ H E I hf st hg
  subst hP hw hK
  obtain ⟨f0,f1,f2,f3,f4,f5⟩:=hf it (by simp)
  have W:=Walks.range (prog:=X.prog) (w:=X.w) (I.ok.hd hc) it lo 1 n
  refine W.item i s _ _ hg st fun v h' tk hv av kk => ?_
  obtain ⟨t,rfl⟩:=hv
  have I1:Inv X pins σ H { s with heap:=h',toks:=tk }:=I.turned (fun b o hb e => kk b o (by simpa using hb) e) f0 f1 f3 f4 f5
  refine ⟨_,rfl,yF (s:={ s with heap:=h',toks:=tk }) (n:="range_iterator") av rfl rfl (by decide) ⟨.int (lo + i),H,I1,⟨t,?_⟩,⟨rfl,rfl⟩,av,fun b hb => (hf b hb).1⟩⟩
  rw [Int.mul_one]
 done:=by
  intro X hP hw hK hc i pins s σ H E I hf st hg
  subst hP hw hK
  obtain ⟨f0,f1,f2,f3,f4,f5⟩:=hf it (by simp)
  exact wpAny_pyNext_range_end (I.ok.hd hc) st (by have:n ≤ i:=hg; lia) fun h' eb => ⟨rfl,I.turned (t':=s.toks) (fun b o hb e => eb b o hb e) f0 f1 f3 f4 f5⟩
 self:=fun _ _ _ _ _ st h => wpAny_pyIter_rangeiter st h
end L2
namespace L2
open PySem PySem.Spec PyProof.Rows
section
variable {X:Cx} {tg:Expr}
theorem yG {pins:List (Addr × Obj)} {σ:St} {H:Hp} {s:Shared} {R:It → Hp → Prop} {E:Value → Shared → Prop} {lo hi:Int} {t u v:Tok} {tk:Nat} (I:Inv X pins σ H s) (h1:-(2 ^ 62) ≤ lo) (h2:lo < 2 ^ 62) (h3:-(2 ^ 62) ≤ hi) (h4:hi < 2 ^ 62)
  (q:R (KY lo (hi - lo).toNat) H):wpAny (model X.prog X.w) X.A (pyIter (.ref s.heap.objs.size)) (Q4 X pins σ tg R) E { s with heap:=s.heap.push { cls:=.type "range",data:=.fields #[.int lo t,.int hi u,.int 1 v] },toks:=tk }:=by
 refine wpAny_pyIter_range (IsRange.new ..) (small_one h1 h2 h3 h4) ?_
 have I1:Inv X pins σ H { s with heap:=s.heap.push { cls:=.type "range",data:=.fields #[.int lo t,.int hi u,.int 1 v] },toks:=tk }:=I.kept fun b o e => Heap.get?_push_of_some _ e
 refine ⟨(s.heap.push { cls:=.type "range",data:=.fields #[.int lo t,.int hi u,.int 1 v] }).objs.size,[(s.heap.push { cls:=.type "range",data:=.fields #[.int lo t,.int hi u,.int 1 v] }).objs.size],_,_,H,rfl,
  I1.kept (t':=tk) fun b o e => Heap.get?_push_of_some _ e,uB _ lo (hi - lo).toNat,?_,fun b hb => ?_,q⟩
 ·have e1:lo + ((0:Nat):Int) * 1 = lo:=by simp
  have e2:(((hi - lo).toNat:Nat):Int) - ((0:Nat):Int) = Builtin.Range.rangeSize lo hi 1:=by rw [rangeSize_one]; split <;> lia
  show IsRangeIter _ _ (lo + ((0:Nat):Int) * 1) ((((hi - lo).toNat:Nat):Int) - ((0:Nat):Int)) 1
  rw [e1,e2]
  exact Heap.get?_push_size _ rfl
 ·have e:b = (s.heap.push { cls:=.type "range",data:=.fields #[.int lo t,.int hi u,.int 1 v] }).objs.size:=by simpa using hb
  subst e
  exact I1.wL (Nat.le_refl _) (I1.bz.fresh (Nat.le_refl _))
noncomputable def Iq (ta:TA):TI:=fun σ H R => ta σ H fun vs H1 => ∃ j:Int,vs = [.int j] ∧ -(2 ^ 62) ≤ j ∧ j < 2 ^ 62 ∧ R (KY 0 j.toNat) H1
theorem wN {a:Expr} {ta:TA} {p pos:Pos} (hg:Gl X "range") (hm:X.mg "range" = none) (ha:PA X [a] ta) (hs:starEach [a] X.env = [(false,eval a X.env)]:=by rfl):PI X tg (.Call (.Name "range" p) [a] [] pos) (Iq ta):=by
 intro pins s σ H R I h
 refine Call_ (ja I hg hm boot_range (PyProof.Rows.callWith_type1 (cb (ha pos pins s σ H _ I h) fun us s1 ⟨vs,H1,I1,r1,q1⟩ => ?_) hs rfl))
 obtain ⟨j,e,q1,q2,q⟩:=q1
 subst e
 cases r1 with
 | cons r rr =>
  cases rr
  obtain ⟨t,rfl⟩:=r
  exact call_range_1 (yG I1 (by lia) (by lia) q1 q2 (by simpa using q))
noncomputable def Mf (wi:TI) (g:TG) (tb:TS):TS:=fun D σ H => wi σ H fun J H1 => ∃ W:Nat → Nat → St → Hp → Prop,(∃ m,W 0 m σ H1) ∧ ∀ i m σ H,W i m σ H →
 (J.stop i H ∧ D.nx σ H) ∨ (J.go i H ∧ ∃ N:St → Hp → Prop,(∀ σ' H',N σ' H' → ∃ m',m' < m ∧ W (i + 1) m' σ' H') ∧ ∀ x H',J.Ip i H x H' → g x σ H' fun σ2 H2 => tb { D with nx:=N,ct:=N,bk:=D.nx } σ2 H2)
noncomputable def m9 (fp:List Addr) (h:Heap):List (Addr × Obj):=fp.filterMap fun b => (h.get? b).map fun o => (b,o)
theorem gL {fp:List Addr} {h:Heap} {b:Addr} {o:Obj} (hb:b ∈ fp) (e:h.get? b = some o):(b,o) ∈ m9 fp h:=List.mem_filterMap.mpr ⟨b,hb,by rw [e]; rfl⟩
theorem wO {fp:List Addr} {h:Heap} {p:Addr × Obj} (hp:p ∈ m9 fp h):p.1 ∈ fp ∧ h.get? p.1 = some p.2:=by
 obtain ⟨b,hb,e⟩:=List.mem_filterMap.mp hp
 cases q:h.get? b with
 | none => rw [q] at e; cases e
 | some o =>
  rw [q] at e
  have e':(b,o) = p:=Option.some.inj e
  subst e'
  exact ⟨hb,q⟩
theorem Inv.pinned {pins:List (Addr × Obj)} {σ:St} {H:Hp} {s:Shared} {fp:List Addr} (I:Inv X pins σ H s) (hf:∀ b ∈ fp,iU X pins H b) (ho:∀ b ∈ fp,∃ o,s.heap.get? b = some o ∧ ∀ v,o.data ≠ .cell v):Inv X (pins ++ m9 fp s.heap) σ H s :=
 I.jy fun p hp => (List.mem_append.mp hp).elim (fun z => I.pin p (List.mem_append_right _ z)) fun z => by
  obtain ⟨hb,e⟩:=wO z
  obtain ⟨f0,f1,f2,_⟩:=hf p.1 hb
  obtain ⟨o,e',d⟩:=ho p.1 hb
  rw [e] at e'; cases e'
  exact ⟨e,f0,f1,f2,d⟩
theorem Inv.jA {pins pl:List (Addr × Obj)} {σ:St} {H:Hp} {s:Shared} (I:Inv X (pins ++ pl) σ H s):Inv X pins σ H s:=I.jy fun p hp => I.pin p (List.mem_append_right _ (List.mem_append_left _ hp))
theorem Ff {iter:Expr} {body:List Stmt} {wi:TI} {g:TG} {tb:TS} {pos:Pos} (hp:PassesOwn (model X.prog X.w) X.A X.env X.xe) (hc:X.calm = true) (hi:PI X tg iter wi) (hg:PG X tg g) (hb:i_ X body tb)
  (hs:∀ x,foldedSetIterable iter X.env x = pure x:=by intro _; rfl):PS X (.For tg iter body [] pos) (Mf wi g tb):=by
 intro pins s σ H D I h
 refine wpAny_For (cb (hi pins s σ H _ I h) fun v s1 h1 => cb h1 fun KW s2 h2 => ?_) hs
 obtain ⟨it,fp,tn,J,H2,e,I2,T,cg,f2,W,⟨m0,w0⟩,turn⟩:=h2
 subst e
 -- Ir stays true of HD Fg objects through HD loop
 have uC:∀ {H':Hp},(∀ b ∈ fp,H' b = none) → ∀ b ∈ fp,iU X pins H' b:=fun hn b hb => ⟨hn b hb,(f2 b hb).2⟩
 refine codeAny_forLoop_any (fun n s' => ∃ i σ' H',Inv X pins σ' H' s' ∧ tn i s'.heap ∧ (∀ b ∈ fp,H' b = none) ∧ W i n σ' H') ?_ m0 ⟨0,σ,H2,I2,cg,fun b hb => (f2 b hb).1,w0⟩
 rintro n s3 ⟨i,σ3,H3,I3,iY,Iu,w3⟩
 rcases turn i n σ3 H3 w3 with ⟨stop,qn⟩ | ⟨go,N,hN,step⟩
 ·refine wpAny_passesOwn hp (cb (T.done X rfl rfl rfl hc i pins s3 σ3 H3 X.xe I3 (uC Iu) iY stop) fun r s4 ⟨hr,I4⟩ => ?_)
  subst hr
  exact wpAny_execs_nil ⟨σ3,H3,I4,qn⟩
 ·refine wpAny_passesOwn hp (cb (T.item X rfl rfl rfl hc i pins s3 σ3 H3 X.xe I3 (uC Iu) iY go) fun r s4 ⟨u,hr,h4⟩ => ?_)
  subst hr
  refine wpAny_passesOwn hp (cb h4 fun _ s5 ⟨x,H5,I5,r5,y5,Fh,Mg⟩ => ?_)
  have Mi:=I5.pinned (uC Mg) (T.obj _ _ Fh)
  refine wpAny_passesOwn hp (cb (hg _ s5 σ3 H5 x u _ Mi r5 (step x H5 y5)) fun _ s6 ⟨σ6,H6,I6,q6⟩ => ?_)
  refine wpAny_passesOwn hp (cb (hb _ s6 σ6 H6 _ I6 q6) fun f s7 q7 => ?_)
  have again:∀ {σ7:St} {H7:Hp},Inv X (pins ++ m9 fp s5.heap) σ7 H7 s7 → N σ7 H7 → ∃ m,m < n ∧ ∃ i σ' H',Inv X pins σ' H' s7 ∧ tn i s7.heap ∧ (∀ b ∈ fp,H' b = none) ∧ W i m σ' H':=fun {σ7 H7} I7 n7 => by
   obtain ⟨m',hm,w7⟩:=hN σ7 H7 n7
   refine ⟨m',hm,i + 1,σ7,H7,I7.jA,T.keep _ _ _ Fh fun b hb o e => (I7.pin (b,o) (List.mem_append_right _ (List.mem_append_right _ (gL hb e)))).1,fun b hb => ?_,w7⟩
   obtain ⟨o,e,d⟩:=T.obj _ _ Fh b hb
   exact (I7.pin (b,o) (List.mem_append_right _ (List.mem_append_right _ (gL hb e)))).2.1
  cases f with
  | next => obtain ⟨σ7,H7,I7,n7⟩:=q7; exact again I7 n7
  | cont => obtain ⟨σ7,H7,I7,n7⟩:=q7; exact again I7 n7
  | brk => obtain ⟨σ7,H7,I7,q7⟩:=q7; exact ⟨σ7,H7,I7.jA,q7⟩
  | ret v => obtain ⟨x7,σ7,H7,I7,r7,q7⟩:=q7; exact ⟨x7,σ7,H7,I7.jA,r7,q7⟩
end
end L2
namespace L2
open PySem PySem.Spec PyProof.Rows
noncomputable abbrev R2:=V → V → Hp → VK → Prop
noncomputable def dz (X:Cx) (f:Value → Value → Sem Value) (r:R2):Prop :=
 ∀ (pins:List (Addr × Obj)) (s:Shared) (σ:St) (H:Hp) (x y:V) (v u:Value) (Q:VK),Inv X pins σ H s → RelV x v → RelV y u → r x y H Q →
  wpAny (model X.prog X.w) X.A (f v u) (EP X pins σ Q) X.xe s
noncomputable def Mj (X:Cx) (f:Value → Sem Value) (r:V → Hp → VK → Prop):Prop :=
 ∀ (pins:List (Addr × Obj)) (s:Shared) (σ:St) (H:Hp) (x:V) (v:Value) (Q:VK),Inv X pins σ H s → RelV x v → r x H Q →
  wpAny (model X.prog X.w) X.A (f v) (EP X pins σ Q) X.xe s
noncomputable def bZ (X:Cx) (f:Value) (r:List V → Hp → VK → Prop):Prop :=
 ∀ (pins:List (Addr × Obj)) (s:Shared) (σ:St) (H:Hp) (xs:List V) (us:List Value) (Q:VK),Inv X pins σ H s → Vals xs us → r xs H Q →
  wpAny (model X.prog X.w) X.A (call f us) (EP X pins σ Q) X.xe s
noncomputable def HH (r:R2) (ta tb:TE):TE:=fun σ H Q => ta σ H fun x H1 => tb σ H1 fun y H2 => r x y H2 Q
noncomputable def SS (r:V → Hp → VK → Prop) (ta:TE):TE:=fun σ H Q => ta σ H fun x H1 => r x H1 Q
noncomputable def rI (C:Int → Int → Prop) (g:Int → Int → V):R2:=fun x y H Q => ∃ i j,x = .int i ∧ y = .int j ∧ C i j ∧ Q (g i j) H
noncomputable def Fi (g:Int → Int → V):R2:=fun x y H Q => ∃ i j,x = .int i ∧ y = .int j ∧ Q (g i j) H
noncomputable def rU (g:Int → V):V → Hp → VK → Prop:=fun x H Q => ∃ i,x = .int i ∧ Q (g i) H
section
variable {X:Cx} {a b c:Expr} {ta tb tc:TE} {pos:Pos}
theorem Fj (ha:PE X a ta) (hb:PE X b tb) {pins:List (Addr × Obj)} {s:Shared} {σ:St} {H:Hp} {R:V → V → Hp → Prop} (I:Inv X pins σ H s)
  (h:ta σ H fun x H1 => tb σ H1 fun y H2 => R x y H2) {Q:Value → Shared → Prop} {f:Value → Value → Sem Value}
  (hf:∀ v u s2 x y H2,Inv X pins σ H2 s2 → RelV x v → RelV y u → R x y H2 → wpAny (model X.prog X.w) X.A (f v u) Q X.xe s2) :
  wpAny (model X.prog X.w) X.A (eval a X.env) (fun v s₁ => wpAny (model X.prog X.w) X.A (eval b X.env) (fun u s₂ => wpAny (model X.prog X.w) X.A (f v u) Q X.xe s₂) X.xe s₁) X.xe s:=by
 refine cb (ha pins s σ H _ I h) fun v s1 ⟨x,H1,I1,r1,q1⟩ => ?_
 refine cb (hb pins s1 σ H1 _ I1 q1) fun u s2 ⟨y,H2,I2,r2,q2⟩ => ?_
 exact hf v u s2 x y H2 I2 r1 r2 q2
theorem Iv {op:Operator} {r:R2} (ho:dz X (binaryOp op) r) (ha:PE X a ta) (hb:PE X b tb):PE X (.BinOp a op b pos) (HH r ta tb):=by
 intro pins s σ H Q I h
 exact wpAny_BinOp (Fj ha hb I h fun v u s2 x y H2 I2 rx ry q => ho pins s2 σ H2 x y v u Q I2 rx ry q)
theorem Iw {op:UnaryOp} {r:V → Hp → VK → Prop} (ho:Mj X (unaryOp op) r) (ha:PE X a ta):PE X (.UnaryOp op a pos) (SS r ta):=by
 intro pins s σ H Q I h
 exact UnaryOp_ (cb (ha pins s σ H _ I h) fun v s1 ⟨x,H1,I1,r1,q1⟩ => ho pins s1 σ H1 x v Q I1 r1 q1)
theorem Iy {f:Value → Value → Sem Value} {C:Int → Int → Prop} {g:Int → Int → Int}
  (rule:∀ (i j:Int) (t u:Tok) (s:Shared) (Q:Value → Shared → Prop) (E:Value → Shared → Prop),C i j → Q (.int (g i j) s.toks) { s with toks:=s.toks + 1 } → wpAny (model X.prog X.w) X.A (f (.int i t) (.int j u)) Q E s) :
  dz X f (rI C fun i j => .int (g i j)):=by
 intro pins s σ H x y v u Q I rx ry h
 obtain ⟨i,j,rfl,rfl,hc,q⟩:=h
 obtain ⟨t,rfl⟩:=rx
 obtain ⟨t',rfl⟩:=ry
 exact rule i j t t' s _ _ hc ⟨.int (g i j),H,I.tok _,⟨_,rfl⟩,q⟩
theorem Iz {f:Value → Value → Sem Value} {g:Int → Int → Int}
  (rule:∀ (i j:Int) (t u:Tok) (s:Shared) (Q:Value → Shared → Prop) (E:Value → Shared → Prop),Q (.int (g i j) s.toks) { s with toks:=s.toks + 1 } → wpAny (model X.prog X.w) X.A (f (.int i t) (.int j u)) Q E s) :
  dz X f (Fi fun i j => .int (g i j)):=by
 intro pins s σ H x y v u Q I rx ry h
 obtain ⟨i,j,rfl,rfl,q⟩:=h
 obtain ⟨t,rfl⟩:=rx
 obtain ⟨t',rfl⟩:=ry
 exact rule i j t t' s _ _ ⟨.int (g i j),H,I.tok _,⟨_,rfl⟩,q⟩
theorem Fl {f:Value → Value → Sem Value} {g:Int → Int → Bool}
  (rule:∀ (i j:Int) (t u:Tok) (s:Shared) (Q:Value → Shared → Prop) (E:Value → Shared → Prop),Q (.bool (g i j)) s → wpAny (model X.prog X.w) X.A (f (.int i t) (.int j u)) Q E s) :
  dz X f (Fi fun i j => .bl (g i j)):=by
 intro pins s σ H x y v u Q I rx ry h
 obtain ⟨i,j,rfl,rfl,q⟩:=h
 obtain ⟨t,rfl⟩:=rx
 obtain ⟨t',rfl⟩:=ry
 exact rule i j t t' s _ _ ⟨.bl (g i j),H,I,rfl,q⟩
noncomputable def yH (i j:Int):Prop:=0 ≤ j ∧ j ≤ 1000000 ∧ i.natAbs < 2 ^ 64
noncomputable def yI (i j:Int):Prop:=(-(2 ^ 64) < i ∧ i < 2 ^ 64) ∨ (-(2 ^ 64) < j ∧ j < 2 ^ 64)
theorem yI.ok {i j:Int} (h:yI i j):IntMulOk i j:=by
 rcases h with ⟨h1,h2⟩ | ⟨h1,h2⟩
 ·exact .of_left (intBits_le_64 h1 h2)
 ·exact .of_right (intBits_le_64 h1 h2)
theorem Fm:dz X (binaryOp .Add) (Fi fun i j => .int (i + j)):=Iz fun _ _ _ _ _ _ _ q => add_int q
theorem Fn:dz X (binaryOp .Sub) (Fi fun i j => .int (i - j)):=Iz fun _ _ _ _ _ _ _ q => sub_int q
theorem Fo:dz X (binaryOp .Mult) (rI yI fun i j => .int (i * j)):=Iy fun _ _ _ _ _ _ _ hc q => mul_int q hc.ok
theorem BP:dz X (binaryOp .Mod) (rI (fun _ j => j ≠ 0) fun i j => .int (i.fmod j)):=Iy fun _ _ _ _ _ _ _ hc q => mod_int' hc q
theorem Fp:dz X (binaryOp .Pow) (rI yH fun i j => .int (i ^ j.toNat)):=Iy fun _ _ _ _ _ _ _ hc q => pow_int_small hc.1 hc.2.1 hc.2.2 q
theorem SU {f:Value → Sem Value} {g:Int → Int}
  (rule:∀ (i:Int) (t:Tok) (s:Shared) (Q:Value → Shared → Prop) (E:Value → Shared → Prop),Q (.int (g i) s.toks) { s with toks:=s.toks + 1 } → wpAny (model X.prog X.w) X.A (f (.int i t)) Q E s) :
  Mj X f (rU fun i => .int (g i)):=by
 intro pins s σ H x v Q I rx h
 obtain ⟨i,rfl,q⟩:=h
 obtain ⟨t,rfl⟩:=rx
 exact rule i t s _ _ ⟨.int (g i),H,I.tok _,⟨_,rfl⟩,q⟩
theorem Fq:Mj X (unaryOp .USub) (rU fun i => .int (-i)):=SU fun _ _ _ _ _ q => neg_int q
end
section
variable {X:Cx} {a b c:Expr} {ta tb tc:TE} {pos:Pos}
theorem IA:dz X (compareOp .Lt) (Fi fun i j => .bl (decide (i < j))):=Fl fun _ _ _ _ _ _ _ q => lt_int q
theorem IB:dz X (compareOp .LtE) (Fi fun i j => .bl (decide (i ≤ j))):=Fl fun _ _ _ _ _ _ _ q => le_int q
theorem IC:dz X (compareOp .Gt) (Fi fun i j => .bl (decide (j < i))):=Fl fun _ _ _ _ _ _ _ q => gt_int q
theorem dz.or {f:Value → Value → Sem Value} {r r':R2} (h:dz X f r) (h':dz X f r'):dz X f (fun x y H Q => r x y H Q ∨ r' x y H Q):=by
 intro pins s σ H x y v u Q I rx ry q
 rcases q with q | q
 ·exact h pins s σ H x y v u Q I rx ry q
 ·exact h' pins s σ H x y v u Q I rx ry q
theorem yJ (b:Expr) {op:CmpOp} (h:op ≠ .In:=by decide) (h2:op ≠ .NotIn:=by decide):behindInMarks op b = false:=by
 have e1:(op == CmpOp.In) = false:=by cases op <;> first | rfl | exact absurd rfl h
 have e2:(op == CmpOp.NotIn) = false:=by cases op <;> first | rfl | exact absurd rfl h2
 cases b <;> simp [behindInMarks,e1,e2]
theorem BQ {op:CmpOp} {r:R2} (ho:dz X (compareOp op) r) (ha:PE X a ta) (hb:PE X b tb) (hm:behindInMarks op b = false):PE X (.Compare a [op] [b] pos) (HH r ta tb):=by
 intro pins s σ H Q I h
 exact wpAny_Compare1 (Fj ha hb I h fun v u s2 x y H2 I2 rx ry q => ho pins s2 σ H2 x y v u Q I2 rx ry q) hm
noncomputable def ID (t:TE):TT:=fun σ H Q => t σ H fun x H' => ∃ k,x = .bl k ∧ Q k H'
theorem BS {op:CmpOp} {r:R2} (ho:dz X (compareOp op) r) (ha:PE X a ta) (hb:PE X b tb) (hm:behindInMarks op b = false):PT X (.Compare a [op] [b] pos) (ID (HH r ta tb)):=by
 intro pins s σ H Q I h
 refine wpAny_isTrue_Compare1 (cb (ha pins s σ H _ I h) fun v s1 ⟨x,H1,I1,r1,q1⟩ => cb (hb pins s1 σ H1 _ I1 q1) fun u s2 ⟨y,H2,I2,r2,q2⟩ =>
  cb (ho pins s2 σ H2 x y v u _ I2 r1 r2 q2) fun c s3 ⟨z,H3,I3,r3,k,e,q3⟩ => ?_) hm
 subst e
 cases r3
 exact wpAny_truthy_bool ⟨H3,I3,q3⟩
theorem m_:(sizeLine:Nat) < 2 ^ 63:=by rw [sizeLine_eq]; decide
theorem uD:dz X (binaryOp .Add) (fun x y H Q => ∃ i j,x = .str i ∧ y = .str j ∧ i.length + j.length ≤ sizeLine ∧ Q (.str (i ++ j)) H):=by
 intro pins s σ H x y v u Q I rx ry h
 obtain ⟨i,j,rfl,rfl,hz,q⟩:=h
 obtain ⟨t,rfl⟩:=rx
 obtain ⟨t',rfl⟩:=ry
 exact add_str (fun t' tk => ⟨.str (i ++ j),H,I.tok _,⟨_,rfl⟩,q⟩) hz
theorem vals1 {x:V} {us:List Value} (r:Vals [x] us):∃ u,us = [u] ∧ RelV x u:=by
 cases r with
 | cons r1 r2 => cases r2; exact ⟨_,rfl,r1⟩
theorem vals2 {x y:V} {us:List Value} (r:Vals [x,y] us):∃ u w',us = [u,w'] ∧ RelV x u ∧ RelV y w':=by
 cases r with
 | cons r1 r2 =>
  cases r2 with
  | cons r3 r4 => cases r4; exact ⟨_,_,rfl,r1,r3⟩
end
end L2
namespace L2
open PySem PySem.Spec PyProof.Rows
structure Fs (h:Heap) (x dx C:Addr) (mA:Str → Option Value):Prop where
 obj:h.get? x = some (PySem.W.instObj C dx)
 ns:h.Ns1 dx mA
 ne:dx ≠ x
theorem wQ {h:Heap} {dx:Addr} {mA:Str → Option Value} (n:h.Ns1 dx mA):∃ od,h.get? dx = some od ∧ ∀ name,PySem.W.lookIn name od = some (mA name):=by
 obtain ⟨o,es,ep,ho,hd,hk,_,hm⟩:=n
 refine ⟨o,ho,fun name => ?_⟩
 have e:=hm name
 unfold nsFind findBy at e
 rw [← Array.find?_toList] at e
 unfold PySem.W.lookIn
 rw [hd]
 dsimp only
 split
 ·rename_i y q
  rw [q] at e
  exact congrArg some e
 ·rename_i q
  rw [q] at e
  have a:es.toList.any (·.refKey) = false:=by
   rw [List.any_eq_false]
   intro y hy
   obtain ⟨z,t,Mk⟩:=hk y (Array.mem_toList_iff.mp hy)
   simp [DictEntry.refKey,Mk]
  have a':¬ es.toList.any (·.refKey) = true:=by rw [a]; exact Bool.false_ne_true
  rw [if_neg a']
  exact congrArg some e
theorem Fs.look {h:Heap} {x dx C:Addr} {mA:Str → Option Value} (I:Fs h x dx C mA):∃ od,PySem.W.InstAt h x (PySem.W.instObj C dx) C (some od) ∧ ∀ name,PySem.W.lookIn name od = some (mA name) :=
 let ⟨od,ho,hl⟩:=wQ I.ns
 ⟨od,⟨I.obj,rfl,rfl,ho⟩,hl⟩
section
variable {prog:Program} {w:World} {A:Around} {E:Value → Shared → Prop} {s:Shared} {K:PySem.W.Frag} {x dx C f:Addr} {mA:Str → Option Value} {name:Str} {v:Value}
end
theorem kq.some_of {v:V} {o:Option Value} (r:kq (some v) o):∃ u,o = some u ∧ RelV v u:=by
 cases o with
 | none => exact (show False from r).elim
 | some u => exact ⟨u,rfl,r⟩
section
variable {P:Program} {w:World} {H H':Hp} {h h':Heap} {a C dx:Addr} {fs SK:List (Str × V)}
theorem BU (bz:fQ P w H h) (e:H a = some (.ins C dx fs)):∃ mA,Fs h a dx C mA ∧ (∀ f,kq (fs.lookup f) (mA f)) ∧ PySem.Within mA (fs.map (·.1)) ∧ fs.length ≤ 1000 ∧ H dx = some (.own a):=by
 obtain ⟨d,z,ne,ob,mA,n,r,q⟩:=(show bL P w H h a (.ins C dx fs) from bz a _ e)
 exact ⟨mA,⟨ob,n,ne⟩,r,q,z,d⟩
end
structure Ml (K:PySem.W.Frag) (C:Addr):Prop where
 pg:PySem.W.plainGet K C Str.empty = true
 hd:PySem.W.hasDictIn K C = true
 po:PySem.W.plainOver K C = true
 sa:PySem.W.findIn K (.ref C) "__setattr__" = some (some (.builtin "object.__setattr__"))
theorem Ml.get {K:PySem.W.Frag} {C:Addr} (c:Ml K C) (f:Str):PySem.W.plainGet K C f = true:=c.pg
section
variable {X:Cx} {pins:List (Addr × Obj)} {σ:St} {H:Hp} {s:Shared} {a C dx:Addr} {fs:List (Str × V)} {f:Str} {v:V} {A:Around} {E:Value → Shared → Prop}
end
section
variable {X:Cx} {o e value:Expr} {f:Str} {pos pos' Ft:Pos} {ta tv:TE}
end
section
variable {X:Cx} {pins:List (Addr × Obj)} {σ:St} {H:Hp} {s:Shared} {A:Around} {E:Value → Shared → Prop} {Q:Value → Shared → Prop} {c:Value} {b:Bool}
inductive mr (K:PySem.W.Frag) (H:Hp):V → Value → Prop where
 | da:mr K H .da (.type "NoneType")
 | bl (x:Bool):mr K H (.bl x) (.type "bool")
 | int (i:Int):mr K H (.int i) (.type "int")
 | str (x:Str):mr K H (.str x) (.type "str")
 | kj (x:UInt64):mr K H (.kj x) (.type "float")
 | lst {a:Addr} {xs:List V} (e:H a = some (.lst xs)):mr K H (.ref a) (.type "list")
 | d0 {a:Addr} {o:Obj} {xs:List V} (e:H a = some (.d0 o (.lst xs))):mr K H (.ref a) (.type "list")
 | tup {a:Addr} {xs:List V} (e:H a = some (.tup xs)):mr K H (.ref a) (.type "tuple")
 | dK {a:Addr} {aI:List (Key × V)} (e:H a = some (.dK aI)):mr K H (.ref a) (.type "dict")
 | dT {a:Addr} {aI:List (List Key × V)} (e:H a = some (.dT aI)):mr K H (.ref a) (.type "dict")
 | ins {a C dx:Addr} {fs:List (Str × V)} (e:H a = some (.ins C dx fs)) (cl:Ml K C) (ha:PySem.W.findIn K (.ref C) "__class__" = some (some (.builtin "object.__class__")))
   (hn:PySem.W.specialIn K (.builtin "object.__class__") "__get__" = some (some (.builtin "getset_descriptor.__get__"))) (Q5:PySem.W.takesIn K (.builtin "object.__class__") = some true)
   (hm:PySem.W.mroIn K C (.type "object") = some true):mr K H (.ref a) (.ref C)
theorem dM {x:V} {u t:Value} (I:Inv X pins σ H s) (rx:RelV x u) (ty:mr X.K H x t) (e:PySem.W.kitOne X.K t c = some b) (h:∀ tk,Q (.bool b) { s with toks:=tk }) :
  wpAny (model X.prog X.w) A (call (.builtin "isinstance") [u,c]) Q E s:=by
 cases ty with
 | da => cases (show u = Value.none from rx); exact PySem.W.kia_one PySem.W.kitx_none I.mU True.intro e (fun z => nomatch z) h
 | bl y => cases (show u = Value.bool y from rx); exact PySem.W.kia_one PySem.W.kitx_bool I.mU True.intro e (fun z => nomatch z) h
 | int i => obtain ⟨t,q⟩:=(show ∃ t,u = Value.int i t from rx); cases q; exact PySem.W.kia_one PySem.W.kitx_int I.mU True.intro e (fun z => nomatch z) h
 | str y => obtain ⟨t,q⟩:=(show ∃ t,u = Value.str y t from rx); cases q; exact PySem.W.kia_one PySem.W.kitx_str I.mU True.intro e (fun z => nomatch z) h
 | kj y => obtain ⟨t,q⟩:=(show ∃ t,u = Value.float y t from rx); cases q; exact PySem.W.kia_one PySem.W.kitx_float I.mU True.intro e (fun z => nomatch z) h
 | @lst a xs ea =>
  cases (show u = Value.ref a from rx)
  obtain ⟨_,_,n,_,h1⟩:=(show bL X.prog X.w H s.heap a (.lst xs) from I.bz a _ ea)
  exact PySem.W.kia_one PySem.W.kitx_list I.mU ⟨_,h1,rfl⟩ e (fun z => nomatch z) h
 | @d0 a ob xs ea =>
  cases (show u = Value.ref a from rx)
  obtain ⟨_,_,_,n,_,h1⟩:=(show bL X.prog X.w H s.heap a (.d0 ob (.lst xs)) from I.bz a _ ea)
  exact PySem.W.kia_one PySem.W.kitx_list I.mU ⟨_,h1,rfl⟩ e (fun z => nomatch z) h
 | @tup a xs ea =>
  cases (show u = Value.ref a from rx)
  obtain ⟨_,_,_,p⟩:=(show bL X.prog X.w H s.heap a (.tup xs) from I.bz a _ ea)
  obtain ⟨o,h1,h2,_⟩:=p
  exact PySem.W.kia_one PySem.W.kitx_tuple I.mU ⟨o,h1,h2⟩ e (fun z => nomatch z) h
 | @dK a aI ea =>
  cases (show u = Value.ref a from rx)
  obtain ⟨_,_,vs,_,p⟩:=(show bL X.prog X.w H s.heap a (.dK aI) from I.bz a _ ea)
  obtain ⟨o,es,ep,h1,h2,_⟩:=p
  exact PySem.W.kia_one PySem.W.kitx_dict I.mU ⟨o,h1,h2.1⟩ e (fun z => nomatch z) h
 | @dT a aI ea =>
  cases (show u = Value.ref a from rx)
  obtain ⟨_,_,xs,_,o,es,ep,h1,h2,_⟩:=(show bL X.prog X.w H s.heap a (.dT aI) from I.bz a _ ea)
  exact PySem.W.kia_one PySem.W.kitx_dict I.mU ⟨o,h1,h2.1⟩ e (fun z => nomatch z) h
 | @ins a C dx fs ea cl ha hn Q5 hm =>
  cases (show u = Value.ref a from rx)
  obtain ⟨mA,O,_⟩:=BU I.bz ea
  obtain ⟨od,J,_⟩:=O.look
  exact PySem.W.kia_one (PySem.W.kitx_own (cl.get _) cl.hd ha hn Q5 hm) I.mU J e (fun z => nomatch z) h
end
end L2
namespace L2
open PySem PySem.Spec PyProof.Rows
structure cY (k:Nat) (A:Around):Prop where
 hd:A.handled = none
 dp:A.depth + 3 * k + 5 < recursionLimit
 un:A.units + 16 * k + 200 < cLine
theorem cY.mono {j k:Nat} {A:Around} (r:cY k A) (h:j ≤ k):cY j A:=⟨r.hd,by have:=r.dp; lia,by have:=r.un; lia⟩
theorem cY.deeper {k:Nat} {A:Around} (r:cY (k + 1) A) (env:Env):cY k (A.deeper env) :=
 ⟨r.hd,by have:=r.dp; show A.depth + 1 + 3 * k + 5 < _; lia,by have:=r.un; show A.units + 3 + 16 * k + 200 < _; lia⟩
theorem cY.in1 {k:Nat} {A:Around} (r:cY (k + 1) A):cY k A.in1 :=
 ⟨r.hd,by have:=r.dp; show A.depth + 3 * k + 5 < _; lia,by have:=r.un; show A.units + 1 + 16 * k + 200 < _; lia⟩
theorem cY.depth {k:Nat} {A:Around} (r:cY k A):A.depth < recursionLimit:=by have:=r.dp; lia
theorem cY.units {k:Nat} {A:Around} (r:cY k A):A.units + 64 < cLine:=by have:=r.un; lia
noncomputable def BV:TA:=fun _ H Q => Q [] H
noncomputable def vL (ta:TE) (tr:TA):TA:=fun σ H Q => ta σ H fun x H1 => tr σ H1 fun xs H2 => Q (x :: xs) H2
section
variable {X:Cx} {e:Expr} {es:List Expr} {te:TE} {t:TA} {pos:Pos}
theorem ng:PA X [] BV:=fun _ _ _ _ H Q I h => Calls.spliced_nil ⟨[],H,I,.nil,h⟩
theorem gM (ha:PE X e te) (hr:PA X es t) (hs:starEach (e :: es) X.env = (false,eval e X.env) :: starEach es X.env:=by rfl):PA X (e :: es) (vL te t):=by
 intro pos pins s σ H Q I h
 rw [hs]
 show wpAny _ _ (spliced ((false,eval e X.env) :: backTo pos (starEach es X.env))) _ _ s
 refine Calls.spliced_cons (cb (ha pins s σ H _ I h) fun u s1 ⟨x,H1,I1,r1,q1⟩ => ?_)
 exact cb (hr pos pins s1 σ H1 _ I1 q1) fun us s2 ⟨xs,H2,I2,r2,q2⟩ => ⟨x :: xs,H2,I2,.cons r1 r2,q2⟩
noncomputable def Mn (t:TA):TE:=fun σ H Q => t σ H fun xs H1 => xs.length ≤ sizeLine ∧ ∀ p,H1 p = none → Q (.ref p) (upd H1 p (.tup xs))
noncomputable def Mo (t:TA):TE:=fun σ H Q => t σ H fun xs H1 => xs.length ≤ sizeLine ∧ ∀ p,H1 p = none → Q (.ref p) (upd H1 p (.lst xs))
theorem Fu {x1} (h:PA X es t):PE X (.Tuple es x1 pos) (Mn t):=by
 intro pins s σ H Q I hq
 refine wpAny_Tuple_spliced (cb (h pos pins s σ H _ I hq) fun us s1 ⟨xs,H1,I1,r,z,q⟩ => ⟨by rw [← r.length]; exact z,?_⟩)
 have hf:H1 s1.heap.objs.size = none:=I1.bz.fresh (Nat.le_refl _)
 refine ⟨.ref s1.heap.objs.size,upd H1 s1.heap.objs.size (.tup xs),I1.laid (t':=s1.toks) (fun b u e => Heap.get?_push_of_some _ e) (Nat.le_refl _) ?_,rfl,q _ hf⟩
 exact ⟨z,us,r,⟨_,Heap.get?_push_size _ rfl,rfl,_,rfl⟩⟩
theorem Fv (h:PA X es t):PE X (.List es pos) (Mo t):=by
 intro pins s σ H Q I hq
 refine wpAny_List_spliced (cb (h pos pins s σ H _ I hq) fun us s1 ⟨xs,H1,I1,r,z,q⟩ => ⟨by rw [← r.length]; exact z,?_⟩)
 have hf:H1 s1.heap.objs.size = none:=I1.bz.fresh (Nat.le_refl _)
 refine ⟨.ref s1.heap.objs.size,upd H1 s1.heap.objs.size (.lst xs),I1.laid (t':=s1.toks) (fun b u e => Heap.get?_push_of_some _ e) (Nat.le_refl _) ?_,rfl,q _ hf⟩
 exact ⟨z,us,0,r,Heap.get?_push_size _ rfl⟩
end
noncomputable abbrev Sp:=List V → Hp → VK → XK → Prop
noncomputable abbrev yK:=List Env → Hp → Shared → XK → Value → Shared → Prop
structure uE (P:Program) (w:World) (K:PySem.W.Frag) (mg:Str → Option Value) (base:Heap) (A:Around) (outer:List Env) (s:Shared) (H:Hp):Prop where
 frames:A.frames = some outer
 mod:Mod K mg base
 bs:∀ b o,base.get? b = some o → s.heap.get? b = some o ∧ H b = none
 yw:base.objs.size ≤ s.heap.objs.size
 hR:s.heap.FunFrames base outer
 wJ:∀ b ∈ fw outer,H b = none
 bz:fQ P w H s.heap
 bare:AllBare s.gens
noncomputable def CE (outer:List Env) (P:Program) (w:World) (H:Hp) (s:Shared) (Q:VK) (u:Value) (s':Shared):Prop :=
 ∃ v H',s'.os = s.os ∧ AllBare s'.gens ∧ Un (fw outer) [] H H' s.heap s'.heap ∧ fQ P w H' s'.heap ∧ RelV v u ∧ Q v H'
noncomputable def CR (CX:yK) (outer:List Env) (P:Program) (w:World) (H:Hp) (s:Shared) (Q:VK) (E:XK) (r:Result) (s':Shared):Prop :=
 match r with
 | .ok (.ret u) => CE outer P w H s Q u s'
 | .ok _ => False
 | .error e => CX outer H s E e s'
structure kC (P:Program) (w:World) (K:PySem.W.Frag) (mg:Str → Option Value) (base:Heap) (CX:yK) (k:Nat) (f:Addr) (fd:FuncData) (ps:List Str) (sp:Sp):Prop where
 len:∀ vs H Q E,sp vs H Q E → vs.length = ps.length
 run:∀ (A:Around) (outer:List Env) (s:Shared) (H:Hp) (args:Args) (us:List Value) (vs:List V) (Q:VK) (E:XK),cY k A → uE P w K mg base A outer s H → BindsTo s fd args (ps.zip us) → Vals vs us → sp vs H Q E →
  codeAny (model P w) A (.call (.ref f) args) (CR CX outer P w H s Q E) s
section
variable {X:Cx} {pins:List (Addr × Obj)} {σ:St} {H:Hp} {s s':Shared}
theorem Inv.Fw (I:Inv X pins σ H s):uE X.prog X.w X.K X.mg X.base X.A X.stack s H :=
 ⟨I.ok.frames,I.ok.mod,I.bs,Nat.le_trans I.ok.yw I.sz,I.stack,I.qw,I.bz,I.bare⟩
theorem Inv.after {Q:VK} {u:Value} (I:Inv X pins σ H s) (h:CE X.stack X.prog X.w H s Q u s'):EP X pins σ Q u s':=by
 obtain ⟨v,H',os,bare,un,bz,r,q⟩:=h
 obtain ⟨hh,g,d,t,SV⟩:=s'
 obtain rfl:SV = s.os:=os
 exact ⟨v,H',I.call (h':=hh) (g':=g) (d':=d) (t':=t) (ch:=[]) un bz bare (fun b z => absurd z (by simp)),r,q⟩
end
noncomputable def IE (sp:Sp) (BW:List V) (E:XK) (t:TA):TE:=fun σ H Q => t σ H fun vs H1 => sp (vs ++ BW) H1 Q E
noncomputable def Binds (K:PySem.W.Frag) (fd:FuncData) (ps:List Str) (ds:List Value):Prop :=
 ∀ (s:Shared) (us:List Value),K.In s.heap → (us ++ ds).length = ps.length → BindsTo s fd ⟨us,[]⟩ (ps.zip (us ++ ds))
theorem Binds.all {K:PySem.W.Frag} {fd:FuncData} {ps:List Str} (h:∀ us:List Value,us.length = ps.length → bindArgs fd ⟨us,[]⟩ = pure (ps.zip us)):Binds K fd ps []:=fun s us _ hl => by
 rw [List.append_nil] at hl ⊢
 exact .of_eq (h us hl)
noncomputable def Passes (CX:yK) (X:Cx) (E:XK):Prop:=∀ (pins:List (Addr × Obj)) (σ:St) (H:Hp) (s:Shared) (e:Value) (s':Shared),Inv X pins σ H s → CX X.stack H s E e s' → X.xe e s'
section
variable {X:Cx} {CX:yK} {k:Nat} {f C:Addr} {fd:FuncData} {ps:List Str} {sp:Sp} {BW:List V} {ds:List Value} {E:XK} {x m:Str} {p pos apos:Pos} {e o:Expr} {es:List Expr} {ta:TE} {t:TA}
theorem Fx {pins:List (Addr × Obj)} {σ:St} {H:Hp} {s:Shared} {Q:VK} {us:List Value} {vs:List V} (F:kC X.prog X.w X.K X.mg X.base CX k f fd ps sp) (hr:cY k X.A) (hb:Binds X.K fd ps ds) (hd:Vals BW ds) (hx:Passes CX X E)
  (I:Inv X pins σ H s) (r:Vals vs us) (h:sp (vs ++ BW) H Q E):wpAny (model X.prog X.w) X.A (call (.ref f) us) (EP X pins σ Q) X.xe s:=by
 have r2:Vals (vs ++ BW) (us ++ ds):=r.append hd
 have hl:(us ++ ds).length = ps.length:=by rw [← r2.length]; exact F.len _ _ _ _ h
 refine wpAny_call (codeAny_mono (F.run X.A X.stack s H ⟨us,[]⟩ (us ++ ds) (vs ++ BW) Q E hr I.Fw (hb s us I.mU hl) r2 h) fun r s' hq => ?_)
 cases r with
 | error e => exact hx pins σ H s e s' I hq
 | ok fl =>
  cases fl with
  | ret u => exact I.after hq
  | next => exact False.elim hq
  | brk => exact False.elim hq
  | cont => exact False.elim hq
theorem BX (F:kC X.prog X.w X.K X.mg X.base CX k f fd ps sp) (hr:cY k X.A) (hg:Gl X x) (hm:X.mg x = some (.ref f)) (hk:PySem.W.keepIn X.K (.ref f) = true) (hb:Binds X.K fd ps ds) (hd:Vals BW ds) (hx:Passes CX X E)
  (ha:PA X (e :: es) t) (jB:(x == ("__debug__":Str)) = false:=by decide) (he:starEach (e :: es) X.env = (false,eval e X.env) :: starEach es X.env:=by rfl) (iG:(backTo pos (starEach es X.env)).any (·.1) = false:=by rfl) :
  PE X (.Call (.Name x p) (e :: es) [] pos) (IE sp BW E t):=by
 intro pins s σ H Q I h
 refine wpAny_Call_Name_kw (iF I hg hm ?_ jB)
 refine PySem.W.callWith_K (h₀:=X.base) I.ok.mod.HF hk (cb (ha pos pins s σ H _ I h) fun us s1 ⟨vs,H1,I1,r,q⟩ => ⟨I1.mU,?_⟩) he iG
 exact Fx F hr hb hd hx I1 r q
end
noncomputable def PK (X:Cx) (yL:List Keyword) (t:TA):Prop :=
 ∀ (pos:Pos) (pins:List (Addr × Obj)) (s:Shared) (σ:St) (H:Hp) (Q:List V → Hp → Prop),Inv X pins σ H s → t σ H Q → wpAny (model X.prog X.w) X.A (evalAll ((backToKw pos (keywordEach yL X.env)).map (·.2))) (AP X pins σ Q) X.xe s
section
variable {X:Cx} {CX:yK} {k:Nat} {f C:Addr} {fd:FuncData} {ps ks:List Str} {sp:Sp} {E:XK} {x m:Str} {p pos apos kpos:Pos} {e o:Expr} {es:List Expr} {yL:List Keyword} {te ta:TE} {t tk:TA} {nm:Option Str}
theorem yM:PK X [] BV:=fun _ _ _ _ H Q I h => wpAny_evalAll_nil ⟨[],H,I,.nil,h⟩
theorem vM (ha:PE X e te) (hr:PK X yL t):PK X (⟨nm,e,kpos⟩ :: yL) (vL te t):=by
 intro pos pins s σ H Q I h
 show wpAny _ _ (evalAll ((do let v ← eval e X.env; standAt pos; pure v) :: (backToKw pos (keywordEach yL X.env)).map (·.2))) _ _ s
 refine wpAny_evalAll_cons (wpAny_bind (cb (ha pins s σ H _ I h) fun u s1 ⟨x,H1,I1,r1,q1⟩ => wpAny_bind (wpAny_standAt (wpAny_pure ?_))))
 exact cb (hr pos pins s1 σ H1 _ I1 q1) fun us s2 ⟨xs,H2,I2,r2,q2⟩ => ⟨x :: xs,H2,I2,.cons r1 r2,q2⟩
variable {g:List Value → List Value → List Value} {gV:List V → List V → List V}
end
structure bc (N P:List Str) (sc:Scope):Prop where
 kind:sc.kind = .function
 co:sc.isCoroutine = false
 gen:sc.isGenerator = false
 nd:N.Nodup
 pre:N.take P.length = P
 par:∀ x ∈ P,sc.names.lookup x = some .local ∨ sc.names.lookup x = some .cell
 Fy:∀ y ∈ sc.names,y.2 ≠ .free
theorem pE {kindOf:Str → Option NameKind} {x:Str}:∀ {binds:List (Str × Value)} {m:Str → Option Value},(∀ v,(x,v) ∉ binds) → bindL kindOf binds m x = m x
 | [],_,_ => rfl
 | (n,v) :: r,m,h => by
  unfold bindL
  rw [pE fun w hw => h w (List.mem_cons_of_mem _ hw)]
  split
  ·have:x ≠ n:=by rintro rfl; exact h v List.mem_cons_self
   simp [this]
  ·rfl
theorem pF {kindOf:Str → Option NameKind} {x:Str}:∀ {binds:List (Str × Value)} {m:Str → Option Value},(∀ v,(x,v) ∉ binds) → bindC kindOf binds m x = m x
 | [],_,_ => rfl
 | (n,v) :: r,m,h => by
  unfold bindC
  rw [pF fun w hw => h w (List.mem_cons_of_mem _ hw)]
  split
  ·rfl
  ·have:x ≠ n:=by rintro rfl; exact h v List.mem_cons_self
   simp [this]
theorem pG {kindOf:Str → Option NameKind} {x:Str} {v:Value}:∀ {P:List Str} {vs:List Value} {i:Nat} {m:Str → Option Value},P.Nodup → P[i]? = some x → vs[i]? = some v → kindOf x = some .local →
  bindL kindOf (P.zip vs) m x = some v
 | [],_,_,_,_,h,_,_ => by simp at h
 | _ :: _,[],_,_,_,_,h,_ => by simp at h
 | p :: P,w :: vs,0,m,nd,h1,h2,hk => by
  simp at h1 h2; subst h1; subst h2
  show bindL kindOf ((p,w) :: P.zip vs) m p = _
  unfold bindL
  rw [pE fun v hv => (List.nodup_cons.mp nd).1 (List.of_mem_zip hv).1,if_pos hk]
  simp
 | p :: P,w :: vs,i + 1,m,nd,h1,h2,hk => by
  show bindL kindOf ((p,w) :: P.zip vs) m x = _
  unfold bindL
  exact pG (i:=i) (List.nodup_cons.mp nd).2 (by simpa using h1) (by simpa using h2) hk
theorem pH {kindOf:Str → Option NameKind} {x:Str} {v:Value}:∀ {P:List Str} {vs:List Value} {i:Nat} {m:Str → Option Value},P.Nodup → P[i]? = some x → vs[i]? = some v → kindOf x ≠ some .local →
  bindC kindOf (P.zip vs) m x = some v
 | [],_,_,_,_,h,_,_ => by simp at h
 | _ :: _,[],_,_,_,_,h,_ => by simp at h
 | p :: P,w :: vs,0,m,nd,h1,h2,hk => by
  simp at h1 h2; subst h1; subst h2
  show bindC kindOf ((p,w) :: P.zip vs) m p = _
  unfold bindC
  rw [pF fun v hv => (List.nodup_cons.mp nd).1 (List.of_mem_zip hv).1,if_neg hk]
  simp
 | p :: P,w :: vs,i + 1,m,nd,h1,h2,hk => by
  show bindC kindOf ((p,w) :: P.zip vs) m x = _
  unfold bindC
  exact pH (i:=i) (List.nodup_cons.mp nd).2 (by simpa using h1) (by simpa using h2) hk
noncomputable def start (N:List Str) (vs:List V):St:=vs.map some ++ List.replicate (N.length - vs.length) none
noncomputable def f_ (CX:yK) (P:Program) (w:World) (K:PySem.W.Frag) (mg:Str → Option Value) (base:Heap) (N:List Str) (qual:Str) (scope:Scope) (f:Addr) (cd:Value) (A:Around) (outer:List Env) (s:Shared) (H:Hp) (E:XK):Cx where
 prog:=P
 w:=w
 K:=K
 mg:=mg
 base:=base
 A:=A.deeper (envOfC qual scope s.heap.objs.size f cd)
 N:=N
 s₀:=s
 H₀:=H
 env:=envOfC qual scope s.heap.objs.size f cd
 outer:=outer
 stack:=envOfC qual scope s.heap.objs.size f cd :: outer
 ex:=[]
 calm:=true
 fn:=fun _ => true
 pn:=[]
 xe:=fun e s' => wpAny (model P w) (A.deeper (envOfC qual scope s.heap.objs.size f cd)) (leaving (envOfC qual scope s.heap.objs.size f cd) e) (fun _ KZ => CX outer H s E e KZ) (fun e' KZ => CX outer H s E e' KZ) s'
theorem sd {sc:Scope} {n:Nat} {x:Str} (h:sc.names.lookup x = some .cell):∃ c,(cellsFrom n sc.names []).lookup x = some c:=by
 have q:=PySem.W.cellsFrom_some sc.names n [] (.inl h)
 exact Option.isSome_iff_exists.mp q
theorem wU {CX:yK} {P:Program} {w:World} {K:PySem.W.Frag} {mg:Str → Option Value} {base:Heap} {N ps:List Str} {qual:Str} {scope:Scope} {f:Addr} {cd:Value} {A:Around} {outer:List Env} {s s1:Shared} {H:Hp} {E:XK} {us:List Value} {vs:List V}
  (S:bc N ps scope) (hd:A.handled = none) (e0:uE P w K mg base A outer s H) (hl:vs.length = ps.length) (r:Vals vs us)
  (x:InCallC s s.heap.objs.size (bindL (envOfC qual scope s.heap.objs.size f cd).kindOf (ps.zip us) fun _ => none) (cellsFrom (s.heap.objs.size + 1) scope.names []) (bindC (envOfC qual scope s.heap.objs.size f cd).kindOf (ps.zip us) fun _ => none) s1) :
  Inv (f_ CX P w K mg base N qual scope f cd A outer s H E) [] (start N vs) H s1:=by
 have iG:ps.length ≤ N.length:=by have:=congrArg List.length S.pre; rw [List.length_take] at this; lia
 obtain ⟨h1,tk,rfl,hk⟩:=x.done
 have HI:∀ b:Addr,b ∉ (f_ CX P w K mg base N qual scope f cd A outer s H E).ex:=fun b z => absurd (show b ∈ ([]:List Addr) from z) (by simp)
 refine ⟨⟨e0.mod,S.kind,rfl,rfl,Nat.le_refl _,fun y z c h1 h2 => ?_,fun y hy => ?_,fun y c _ h => ?_,fun _ => hd,Around.frames_deeper e0.frames,.inr ⟨rfl,rfl⟩,fun b z => absurd z (HI b),e0.bs,e0.yw,fun b _ _ => HI b,fun b z => absurd z (HI b),e0.hR,e0.wJ⟩,
  rfl,e0.bare,Un.kept hk,⟨_,x.toInCall.ns,fun i y v h1 h2 h3 => ?_⟩,fun y c h => ⟨_,x.cell y c h⟩,e0.bz.fresh (Nat.le_refl _),fun y c h => ?_,fun p hp => absurd (show p ∈ ([]:List (Addr × Obj)) from hp) (by simp),e0.bz.kept hk,?_⟩
 ·exact name_of_addr x.apart (PySem.mem_of_lookup h1) (PySem.mem_of_lookup h2)
 ·have hy:scope.names.lookup y = some .cell ∨ scope.names.lookup y = some .free:=hy
  rcases hy with hy | hy
  ·exact sd hy
  ·exact absurd rfl (S.Fy _ (PySem.mem_of_lookup hy))
 ·exact Nat.le_of_lt (x.above y c (PySem.mem_of_lookup h))
 ·have hi:i < vs.length:=by
   unfold start at h2
   by_cases hi:i < vs.length
   ·exact hi
   ·rw [List.getElem?_append_right (by simpa using hi)] at h2
    rw [List.getElem?_replicate] at h2
    split at h2 <;> cases h2
  have ha:vs[i]? = some v:=by
   unfold start at h2
   rw [List.getElem?_append_left (by simpa using hi),List.getElem?_map] at h2
   cases e:vs[i]? with
   | none => rw [e] at h2; cases h2
   | some a => rw [e] at h2; cases h2; rfl
  obtain ⟨u,hu,rv⟩:=r.get ha
  have hp:ps[i]? = some y:=by
   rw [← S.pre,List.getElem?_take_of_lt (by lia)]; exact h1
  have K0:ps.Nodup:=by rw [← S.pre]; exact S.nd.sublist (List.take_sublist _ _)
  refine ⟨u,rv,?_⟩
  rcases S.par y (List.mem_of_getElem? hp) with k | k
  ·exact .inl ⟨k,pG K0 hp hu k⟩
  ·obtain ⟨c,e⟩:=sd (n:=s.heap.objs.size + 1) k
   refine .inr ⟨.inl k,c,e,?_⟩
   have q:=x.cell y c e
   rw [pH K0 hp hu (by show scope.names.lookup y ≠ _; rw [k]; decide)] at q
   exact q
 ·exact e0.bz.fresh (Nat.le_of_lt (x.above y c (PySem.mem_of_lookup h)))
 ·unfold start
  show _ = N.length
  rw [List.length_append,List.length_map,List.length_replicate]
  lia
theorem D9 {CX:yK} {P:Program} {w:World} {K:PySem.W.Frag} {mg:Str → Option Value} {base:Heap} {k:Nat} {f:Addr} {name qual:Str} {params:Arguments} {body:List Stmt} {scope:Scope} {dV kV doc pm dk ct oc:Value} {an od:Option Addr}
  {BY:Array (Option Value)} {N ps:List Str} {sp:Sp} (lk:K.lookup f = some ⟨oc,od,.func (PySem.W.fnOf name qual params body scope dV kV doc pm an dk ct),BY⟩) (m6:PySem.W.codeIn K dk qual = true) (S:bc N ps scope)
  (len:∀ vs H Q E,sp vs H Q E → vs.length = ps.length)
  (yN:∀ (A:Around) (outer:List Env) (s:Shared) (H:Hp) (vs:List V) (Q:VK) (E:XK),cY k (A.deeper (envOfC qual scope s.heap.objs.size f dk)) → sp vs H Q E →
   ∃ t,i_ (f_ CX P w K mg base N qual scope f dk A outer s H E) body t ∧ t { nx:=fun _ H' => Q .da H',rt:=Q } (start N vs) H) :
  kC P w K mg base CX (k + 1) f (PySem.W.fnOf name qual params body scope dV kV doc pm an dk ct) ps sp:=by
 refine ⟨len,fun A outer s H args us vs Q E hr e0 hb r HJ => ?_⟩
 have hl:=len _ _ _ _ HJ
 have KX:K.In s.heap:=e0.mod.HF.keeps fun b o e => (e0.bs b o e).1
 have lim:s.heap.NoLimit:=e0.mod.nolimit.keeps fun b o e => (e0.bs b o e).1
 have IF:∀ y ∈ ps.zip us,scope.names.lookup y.1 = some .local ∨ (scope.names.lookup y.1 = some .cell ∧ ((cellsFrom (s.heap.objs.size + 1) scope.names []).lookup y.1).isSome = true):=fun ⟨n,v⟩ hy => by
  rcases S.par n (List.of_mem_zip hy).1 with q | q
  ·exact .inl q
  ·exact .inr ⟨q,PySem.W.cellsFrom_some _ _ _ (.inl q)⟩
 refine codeAny_call_function hr.depth (KX _ _ lk) rfl S.co S.gen rfl (PySem.W.codeRec_of KX m6) (hb _ _ _ _ ?_)
 refine wpAny_newFunctionEnv_cells S.kind IF fun env he s1 x => ?_
 subst he
 refine ⟨lim.keeps x.toInCall.keep,codeAny_func ?_⟩
 obtain ⟨t,ht,hq⟩:=yN A outer s H vs Q E (hr.deeper _) HJ
 have I:Inv (f_ CX P w K mg base N qual scope f dk A outer s H E) [] (start N vs) H s1:=wU S hr.hd e0 hl r x
 refine wpAny_mono (ht [] s1 (start N vs) H _ I hq) (fun fl s' hs => ?_) fun e s' hs => hs
 have fin:∀ {σ':St} {H':Hp} {v:V} {u:Value},Inv (f_ CX P w K mg base N qual scope f dk A outer s H E) [] σ' H' s' → RelV v u → Q v H' → CE outer P w H s Q u s' :=
  fun {σ' H' v u} J rv q => ⟨v,H',J.os,J.bare,J.base,J.bz,rv,q⟩
 cases fl with
 | ret u =>
  obtain ⟨v,σ',H',J,rv,q⟩:=hs
  exact fin J rv q
 | next =>
  obtain ⟨σ',H',J,q⟩:=hs
  exact fin (v:=V.da) (u:=Value.none) J rfl q
 | brk =>
  obtain ⟨_,_,_,q⟩:=hs
  exact False.elim q
 | cont =>
  obtain ⟨_,_,_,q⟩:=hs
  exact False.elim q
end L2
namespace L2
open PySem PySem.Spec PyProof.Rows
section
variable {X:Cx} {x:Str} {p pos:Pos} {e:Expr} {es:List Expr} {t:TA} {id T:String} {r:List V → Hp → VK → Prop}
noncomputable def Q6 (r:List V → Hp → VK → Prop) (t:TA):TE:=fun σ H Q => t σ H fun vs H1 => r vs H1 Q
theorem nh (hc:bZ X (.builtin id) r) (hg:Gl X x) (hm:X.mg x = none) (hv:bootBuiltins x = some (.builtin id)) (ha:PA X (e :: es) t) (hn:x ≠ "__name__":=by decide) (jB:(x == ("__debug__":Str)) = false:=by decide)
  (he:starEach (e :: es) X.env = (false,eval e X.env) :: starEach es X.env:=by rfl) (iG:(backTo pos (starEach es X.env)).any (·.1) = false:=by rfl):PE X (.Call (.Name x p) (e :: es) [] pos) (Q6 r t):=by
 intro pins s σ H Q I h
 refine wpAny_Call_Name_kw (ja I hg hm hv ?_ hn jB)
 exact PyProof.Rows.callWith_builtin1 (cb (ha pos pins s σ H _ I h) fun us s1 ⟨vs,H1,I1,r1,q1⟩ => hc pins s1 σ H1 vs us Q I1 r1 q1) he iG
theorem wV (hc:bZ X (.type T) r) (hg:Gl X x) (hm:X.mg x = none) (hv:bootBuiltins x = some (.type T)) (ha:PA X (e :: es) t) (hn:x ≠ "__name__":=by decide) (jB:(x == ("__debug__":Str)) = false:=by decide)
  (he:starEach (e :: es) X.env = (false,eval e X.env) :: starEach es X.env:=by rfl) (iG:(backTo pos (starEach es X.env)).any (·.1) = false:=by rfl):PE X (.Call (.Name x p) (e :: es) [] pos) (Q6 r t):=by
 intro pins s σ H Q I h
 refine wpAny_Call_Name_kw (ja I hg hm hv ?_ hn jB)
 exact PyProof.Rows.callWith_type1 (cb (ha pos pins s σ H _ I h) fun us s1 ⟨vs,H1,I1,r1,q1⟩ => hc pins s1 σ H1 vs us Q I1 r1 q1) he iG
end
end L2
namespace HT
open PySem PyProof.Rows
section
open PySem.SeqAt
open PySem.AutoSeq1 (wpAny_loadPart')
open PySem.MeetsSeq PySem.MeetsSeq2 PySem.MeetsSeq3
end
section
variable {prog:Program} {w:World} {A:Around} {E:Value → Shared → Prop} {s:Shared}
theorem BZ {t b:Addr} {vs ws:List Value} {Q:Value → Shared → Prop} (ht:IsTup s.heap t vs.toArray) (hb:IsTup s.heap b ws.toArray) (hv:vs ≠ [])
  (h1:ws = [] → Q (.ref t) s) (h2:ws ≠ [] → Q (.ref s.heap.objs.size) { s with heap:=s.heap.push { cls:=.type "tuple",data:=.seq (vs ++ ws).toArray } })
  (hsz:vs.length + ws.length ≤ sizeLine):wpAny (model prog w) A (binaryOp .Add (.ref t) (.ref b)) Q E s:=by
 obtain ⟨⟨cls,dd,data,sl⟩,ho,hc,n,hd⟩:=id ht
 obtain ⟨⟨Mp,K2,data2,FA⟩,rV,pJ,n2,hd2⟩:=id hb
 simp only at hc hd pJ hd2
 subst hc hd pJ hd2
 have e:vs.toArray ++ ws.toArray = (vs ++ ws).toArray:=by simp
 by_cases hw:ws = []
 ·exact concat_meets ⟨_,ho,rfl⟩ ⟨_,rV,rfl⟩ noFill_tuple_add seq_tuple_add PySem.F.slot_tuple_add PySem.F.entry_tuple_add (PySem.F.args_tuple_add_2 _ _)
   (tuple_addW1 t b vs.toArray ws.toArray n n2 dd K2 sl FA (by simpa using hv) (by simp [hw])) ⟨ho,rV,h1 hw⟩
 ·refine concat_meets ⟨_,ho,rfl⟩ ⟨_,rV,rfl⟩ noFill_tuple_add seq_tuple_add PySem.F.slot_tuple_add PySem.F.entry_tuple_add (PySem.F.args_tuple_add_2 _ _)
   (tuple_addW2 t b vs.toArray ws.toArray n n2 dd K2 sl FA (by simpa using hv) (by simpa using hw) (by rw [List.size_toArray,List.size_toArray]; exact hsz)) ⟨ho,rV,?_⟩
  rw [e]
  exact h2 hw
noncomputable def cN (n d:Nat):Option Int → Nat
 | none => d
 | some v => if v < 0 then (v + (n:Int)).toNat else min v.toNat n
theorem se (n d:Nat):cN n d none = d:=rfl
theorem jC (n d k:Nat):cN n d (some (k:Int)) = min k n:=by
 show (if (k:Int) < 0 then ((k:Int) + (n:Int)).toNat else min (k:Int).toNat n) = min k n
 rw [if_neg (by lia),Int.toNat_natCast]
theorem FC (n d:Nat) (hd:d ≤ n) (o:Option Int):cN n d o ≤ n:=by
 cases o with
 | none => exact hd
 | some v =>
  show (if v < 0 then (v + (n:Int)).toNat else min v.toNat n) ≤ n
  by_cases hv:v < 0
  ·rw [if_pos hv]; lia
  ·rw [if_neg hv]; exact Nat.min_le_right _ _
theorem vN (v:Int) (n d:Nat):(if v < 0 then max (v + (n:Int)) 0 else min v (n:Int)) = ((cN n d (some v):Nat):Int):=by
 show (if v < 0 then max (v + (n:Int)) 0 else min v (n:Int)) = (((if v < 0 then (v + (n:Int)).toNat else min v.toNat n):Nat):Int)
 by_cases hv:v < 0
 ·simp only [if_pos hv]; lia
 ·simp only [if_neg hv]; lia
theorem uF (lo hi:Option Int) (n:Nat):Builtin.Slice.sliceAdjust lo hi 1 (n:Int) = (((cN n 0 lo:Nat):Int),((cN n n hi:Nat):Int)):=by
 have h1:¬ ((1:Int) < 0):=by lia
 unfold Builtin.Slice.sliceAdjust
 simp only [h1,if_false]
 refine Prod.ext ?_ ?_
 ·cases lo with
  | none => rfl
  | some v => exact vN v n 0
 ·cases hi with
  | none => rfl
  | some v => exact vN v n n
theorem uG (i j:Nat):Builtin.Slice.slicePlaces (i:Int) (j:Int) 1 = j - i:=by
 unfold Builtin.Slice.slicePlaces
 have h1:(1:Int) > 0:=by lia
 simp only [h1,if_true,Int.ediv_one]
 split <;> lia
theorem jc {v:Value} {o:Option Int} {Q:Option Int → Shared → Prop} (p:IsPart v o) (h:Q o s):wpAny (model prog w) A (Builtin.Slice.slicePartIndex v) Q E s:=by
 cases p with
 | none => exact slicePart_none h
 | int i t => exact slicePart_int h
theorem gs {sl:Addr} {vl vu:Value} {lo hi:Option Int} {n:Nat} {Q:Int × Int × Nat → Shared → Prop} (hs:s.heap.IsSliceOf sl vl vu .none) (pl:IsPart vl lo) (pu:IsPart vu hi)
  (h:Q (((cN n 0 lo:Nat):Int),1,cN n n hi - cN n 0 lo) s):wpAny (model prog w) A (Builtin.Slice.sliceApplied (.ref sl) (pure (n:Int))) Q E s:=by
 obtain ⟨os,yj,HK,B0⟩:=id hs
 unfold Builtin.Slice.sliceApplied Builtin.Slice.sliceFields
 refine wpAny_bind (wpAny_bind (wpAny_field yj B0 (x:=vl) rfl (wpAny_bind (wpAny_field yj B0 (x:=vu) rfl (wpAny_bind (wpAny_field yj B0 (x:=.none) rfl (wpAny_pure ?_)))))))
 refine wpAny_bind (slicePart_none ?_)
 show wpAny _ _ (if ((1:Int) == 0) = true then _ else _) _ _ s
 rw [if_neg (by decide)]
 refine wpAny_bind (jc pl (wpAny_bind (jc pu (wpAny_bind (wpAny_pure ?_)))))
 show wpAny _ _ (match Builtin.Slice.sliceAdjust lo hi 1 (n:Int) with | (lo,hi) => pure (lo,(1:Int),Builtin.Slice.slicePlaces lo hi 1)) _ _ s
 rw [uF lo hi n]
 show wpAny _ _ (pure (((cN n 0 lo:Nat):Int),(1:Int),Builtin.Slice.slicePlaces ((cN n 0 lo:Nat):Int) ((cN n n hi:Nat):Int) 1)) _ _ s
 rw [uG]
 exact wpAny_pure h
theorem yO (xs:Array Value) (i k:Nat):((List.range k).filterMap fun (m:Nat) => xs[((i:Int) + (m:Int) * 1).toNat]?).toArray = ((xs.toList.drop i).take k).toArray:=by
 have e:(fun (m:Nat) => xs[((i:Int) + (m:Int) * 1).toNat]?) = fun m => xs[i + m]?:=by
  funext m
  have:((i:Int) + (m:Int) * 1).toNat = i + m:=by lia
  rw [this]
 rw [e]
 have:=pick_run xs i k
 rw [List.filterMap_map] at this
 have e2:((fun x => xs[x]?) ∘ fun x => i + x) = fun m => xs[i + m]?:=rfl
 rw [e2] at this
 rw [this]
theorem jD {t sl:Addr} {items:Array Value} {vl vu:Value} {lo hi:Option Int} {Q:Value → Shared → Prop} (ht:IsTup s.heap t items) (hs:s.heap.IsSliceOf sl vl vu .none) (pl:IsPart vl lo) (pu:IsPart vu hi)
  (hw:¬ (cN items.size 0 lo = 0 ∧ cN items.size items.size hi = items.size))
  (h:Q (.ref s.heap.objs.size) { s with heap:=s.heap.push { cls:=.type "tuple",data:=.seq ((items.toList.drop (cN items.size 0 lo)).take (cN items.size items.size hi - cN items.size 0 lo)).toArray } })
  (hsz:items.size ≤ sizeLine):wpAny (model prog w) A (getItem (.ref t) (.ref sl)) Q E s:=by
 have jE:sizeOk (.seq ((items.toList.drop (cN items.size 0 lo)).take (cN items.size items.size hi - cN items.size 0 lo)).toArray):=by
  show ((items.toList.drop (cN items.size 0 lo)).take (cN items.size items.size hi - cN items.size 0 lo)).toArray.size ≤ sizeLine
  rw [List.size_toArray,List.length_take,List.length_drop,Array.length_toList]
  lia
 have hj:cN items.size items.size hi ≤ items.size:=FC _ _ (Nat.le_refl _) hi
 obtain ⟨os,yj,HK,B0⟩:=id hs
 have IG:s.TypeIs (.ref sl) "slice":=⟨os,yj,HK⟩
 unfold getItem
 try with_reducible refine wpAny_holding ?_
 first | refine wpAny_bind (wpAny_pure ?_) | skip
 refine wpAny_bind (wpAny_sequenceKey ht.typeIs (by decide) ?_)
 refine wpAny_bind (wpAny_callSpecial?_slot (name:=Str.ofString "__getitem__") ht.typeIs PyProof.Rows.slot_tuple_getitem
  (wpAny_call_entry PyProof.Rows.slot_tuple_getitem ht.typeIs entry_tuple_getitem ?_ (args_tuple_getitem _ _)))
 show wpAny _ _ (Builtin.Tuple.tupleItemsOf (.ref t) >>= _) _ _ s
 refine wpAny_bind (tupleItemsOf_ ht ?_)
 refine wpAny_bind (wpAny_typeOf IG ?_)
 rw [if_pos (by decide)]
 refine wpAny_bind (gs hs pl pu ?_)
 have FD:¬ ((((cN items.size 0 lo:Nat):Int) == 0 && (1:Int) == 1 && (cN items.size items.size hi - cN items.size 0 lo) == items.size) = true):=by
  intro q
  rw [Bool.and_eq_true,Bool.and_eq_true] at q
  have q1:((cN items.size 0 lo:Nat):Int) = 0:=eq_of_beq q.1.1
  have q2:cN items.size items.size hi - cN items.size 0 lo = items.size:=eq_of_beq q.2
  exact hw ⟨by lia,by lia⟩
 show wpAny _ _ (if (((cN items.size 0 lo:Nat):Int) == 0 && (1:Int) == 1 && (cN items.size items.size hi - cN items.size 0 lo) == items.size) = true then _ else _) _ _ s
 rw [if_neg FD,yO]
 first
  | exact wpAny_bind (m:=Builtin.Tuple.tupleExact _) (wpAny_newObj_type (wpAny_pure ⟨_,rfl,wpAny_pure h⟩) jE)
  | exact wpAny_bind (m:=Builtin.Tuple.tupleExact _) (wpAny_newObj_type (wpAny_bind (wpAny_pure (wpAny_pure ⟨_,rfl,wpAny_pure h⟩))) jE)
  | exact wpAny_bind (wpAny_bind (m:=Builtin.Tuple.tupleExact _) (wpAny_newObj_type (wpAny_pure (wpAny_pure ⟨_,rfl,wpAny_pure h⟩)) jE))
  | exact wpAny_bind (wpAny_bind (m:=Builtin.Tuple.tupleExact _) (wpAny_newObj_type (wpAny_pure ⟨_,rfl,wpAny_pure h⟩) jE))
end
end HT
namespace L2
open PySem PySem.Spec PyProof.Rows
noncomputable abbrev TO:=St → Hp → (Option Int → Hp → Prop) → Prop
noncomputable def PO (X:Cx) (e:Option Expr) (t:TO):Prop :=
 ∀ (pins:List (Addr × Obj)) (s:Shared) (σ:St) (H:Hp) (Q:Option Int → Hp → Prop),Inv X pins σ H s → t σ H Q →
  wpAny (model X.prog X.w) X.A (evalPart e X.env) (fun u s' => ∃ o H',Inv X pins σ H' s' ∧ IsPart u o ∧ Q o H') X.xe s
noncomputable def B3:TO:=fun _ H Q => Q none H
noncomputable def IH (t:TE):TO:=fun σ H Q => t σ H fun x H1 => ∃ i,x = .int i ∧ Q (some i) H1
theorem intsAre_of {ns:List Int}:∀ {us:List Value},Vals (ns.map V.int) us → IntsAre us ns:=by
 induction ns with
 | nil => intro us r; rw [List.map_nil] at r; cases r; exact .nil
 | cons n ns ih =>
  intro us r
  rw [List.map_cons] at r
  cases r with
  | cons r1 r2 =>
   obtain ⟨t,e⟩:=r1
   subst e
   exact .cons n t (ih r2)
section
variable {X:Cx} {e:Expr} {te:TE} {lo hi:Option Expr} {tl th:TO} {pos p2:Pos}
theorem B4:PO X none B3:=by
 intro pins s σ H Q I h
 rw [evalPart_none]
 exact wpAny_pure ⟨none,H,I,.none,h⟩
theorem B5 (h:PE X e te):PO X (some e) (IH te):=by
 intro pins s σ H Q I hw
 rw [evalPart_some]
 refine cb (h pins s σ H _ I hw) fun u s1 ⟨x,H1,I1,r1,q1⟩ => ?_
 obtain ⟨i,rfl,q⟩:=q1
 obtain ⟨t,rfl⟩:=r1
 exact ⟨some i,H1,I1,.int i t,q⟩
noncomputable def Bx (X:Cx) (r:V → Option Int → Option Int → Hp → VK → Prop):Prop :=
 ∀ (pins:List (Addr × Obj)) (s:Shared) (σ:St) (H:Hp) (x:V) (v vl vu:Value) (lo hi:Option Int) (sl:Addr) (Q:VK),Inv X pins σ H s → RelV x v → s.heap.IsSliceOf sl vl vu .none → IsPart vl lo → IsPart vu hi → r x lo hi H Q →
  ∃ T id,typeLookup (.type T) "__getitem__" = pure (some (.builtin id)) ∧ s.TypeIs v T ∧ wpAny (model X.prog X.w) X.A (getItem v (.ref sl)) (EP X pins σ Q) X.xe s
theorem Bx.or {r r':V → Option Int → Option Int → Hp → VK → Prop} (h:Bx X r) (h':Bx X r'):Bx X (fun x lo hi H Q => r x lo hi H Q ∨ r' x lo hi H Q):=by
 intro pins s σ H x v vl vu lo hi sl Q I rx hs pl pu q
 rcases q with q | q
 ·exact h pins s σ H x v vl vu lo hi sl Q I rx hs pl pu q
 ·exact h' pins s σ H x v vl vu lo hi sl Q I rx hs pl pu q
noncomputable def SW (r:V → Option Int → Option Int → Hp → VK → Prop) (te:TE) (tl th:TO):TE:=fun σ H Q => te σ H fun x H1 => tl σ H1 fun l H2 => th σ H2 fun u H3 => r x l u H3 Q
theorem yP {r:V → Option Int → Option Int → Hp → VK → Prop} (hr:Bx X r) (he:PE X e te) (hl:PO X lo tl) (hu:PO X hi th):PE X (.Subscript e (.Slice lo hi none p2) pos) (SW r te tl th):=by
 intro pins s σ H Q I h
 refine Subscript_ (cb (he pins s σ H _ I h) fun v s1 ⟨x,H1,I1,r1,q1⟩ => ?_)
 refine wpAny_Slice (cb (hl pins s1 σ H1 _ I1 q1) fun vl s2 ⟨l,H2,I2,pl,q2⟩ => cb (hu pins s2 σ H2 _ I2 q2) fun vu s3 ⟨u,H3,I3,pu,q3⟩ => ?_)
 rw [evalPart_none]
 refine wpAny_pure ?_
 have I4:Inv X pins σ H3 { s3 with heap:=s3.heap.push { cls:=.type "slice",data:=.fields #[vl,vu,.none] } }:=I3.kept (t':=s3.toks) fun b ob q => Heap.get?_push_of_some _ q
 obtain ⟨T,id,hT,ht,hg⟩:=hr pins { s3 with heap:=s3.heap.push { cls:=.type "slice",data:=.fields #[vl,vu,.none] } } σ H3 x v vl vu l u s3.heap.objs.size Q I4 r1 (Heap.IsSliceOf.new ..) pl pu q3
 show wpAny (model X.prog X.w) X.A (subscriptTail e (.Slice lo hi none p2) v (.ref s3.heap.objs.size)) (EP X pins σ Q) X.xe { s3 with heap:=s3.heap.push { cls:=.type "slice",data:=.fields #[vl,vu,.none] } }
 exact tail_any (ops:=[.ref s3.heap.objs.size,v]) ht hT hg (by with_unfolding_all rfl)
noncomputable def qx (xs:List V) (lo hi:Option Int):List V:=(xs.drop (HT.cN xs.length 0 lo)).take (HT.cN xs.length xs.length hi - HT.cN xs.length 0 lo)
theorem lM (xs:List V) (lo hi:Option Int):(qx xs lo hi).length ≤ xs.length:=by
 unfold qx
 rw [List.length_take,List.length_drop]
 lia
noncomputable def Mq (K:PySem.W.Frag):V → Option Int → Option Int → Hp → VK → Prop:=fun x lo hi H Q => ∃ a xs,x = .ref a ∧ gp K H a xs ∧
 ¬ (HT.cN xs.length 0 lo = 0 ∧ HT.cN xs.length xs.length hi = xs.length) ∧ ∀ p,H p = none → Q (.ref p) (upd H p (.tup (qx xs lo hi)))
theorem FE:Bx X (Mq X.K):=by
 intro pins s σ H x v vl vu lo hi sl Q I rx hs pl pu h
 obtain ⟨a,xs,rfl,hx,hw,q⟩:=h
 cases rx
 obtain ⟨aE,r,ht,hz⟩:=I.tuple hx
 have hlen:aE.toArray.size = xs.length:=by rw [List.size_toArray]; exact r.length.symm
 refine ⟨"tuple",_,PyProof.Rows.slot_tuple_getitem.lookup,ht.typeIs,?_⟩
 refine HT.jD ht hs pl pu (by rw [hlen]; exact hw) ?_ (by rw [hlen]; exact hz)
 rw [hlen]
 refine ⟨.ref s.heap.objs.size,_,I.laid (t':=s.toks) (o:=.tup (qx xs lo hi)) (fun b ob q => Heap.get?_push_of_some _ q) (Nat.le_refl _) ?_,rfl,q _ (I.bz.fresh (Nat.le_refl _))⟩
 exact ⟨Nat.le_trans (lM xs lo hi) hz,_,(r.drop (HT.cN xs.length 0 lo)).take (HT.cN xs.length xs.length hi - HT.cN xs.length 0 lo),IsTup.new _ _⟩
noncomputable def II (K:PySem.W.Frag):R2:=fun x y H Q => ∃ a b xs ys,x = .ref a ∧ y = .ref b ∧ gp K H a xs ∧ gp K H b ys ∧ xs ≠ [] ∧ xs.length + ys.length ≤ sizeLine ∧
 (ys = [] → Q (.ref a) H) ∧ (ys ≠ [] → ∀ p,H p = none → Q (.ref p) (upd H p (.tup (xs ++ ys))))
theorem Vals.qz {xs:List V} {us:List Value} (r:Vals xs us):us = [] ↔ xs = []:=by
 cases r with
 | nil => simp
 | cons _ _ => simp
theorem B6:dz X (binaryOp .Add) (II X.K):=by
 intro pins s σ H x y v u Q I rx ry h
 obtain ⟨a,b,xs,ys,rfl,rfl,ha,hb,hx,hz,q1,q2⟩:=h
 cases rx
 cases ry
 obtain ⟨aE,r1,p1,_⟩:=I.tuple ha
 obtain ⟨cU,r2,p2,_⟩:=I.tuple hb
 refine HT.BZ p1 p2 (fun z => hx (r1.qz.mp z)) (fun z => ⟨.ref a,H,I,rfl,q1 (r2.qz.mp z)⟩) (fun z => ?_) (by rw [← r1.length,← r2.length]; exact hz)
 refine ⟨.ref s.heap.objs.size,_,I.laid (t':=s.toks) (o:=.tup (xs ++ ys)) (fun b ob q => Heap.get?_push_of_some _ q) (Nat.le_refl _) ?_,rfl,q2 (fun w => z (r2.qz.mpr w)) _ (I.bz.fresh (Nat.le_refl _))⟩
 exact ⟨by rw [List.length_append]; exact hz,_,r1.append r2,IsTup.new _ _⟩
end
end L2
namespace L2
open PySem PySem.Spec PyProof.Rows
noncomputable def FF (n:Nat) (i:Int):Option Nat:=if 0 ≤ i then (if i < n then some i.toNat else none) else if -(n:Int) ≤ i then some (i + n).toNat else none
noncomputable def ni {α:Type} (xs:List α) (i:Int):Option α:=(FF xs.length i).bind fun j => xs[j]?
theorem B7 {n:Nat} {i:Int} {j:Nat} (h:FF n i = some j):seqIndex? i n = some j ∧ j < n ∧ -(n:Int) ≤ i ∧ i < n:=by
 unfold FF at h
 by_cases h0:0 ≤ i
 ·rw [if_pos h0] at h
  by_cases h1:i < n
  ·rw [if_pos h1] at h
   have e:i.toNat = j:=Option.some.inj h
   exact ⟨by rw [seqIndex_of h0 h1,e],by lia,by lia,h1⟩
  ·rw [if_neg h1] at h; cases h
 ·rw [if_neg h0] at h
  by_cases h1:-(n:Int) ≤ i
  ·rw [if_pos h1] at h
   have e:(i + n).toNat = j:=Option.some.inj h
   exact ⟨by rw [seqIndex_neg (by lia) h1,e],by lia,h1,by lia⟩
  ·rw [if_neg h1] at h; cases h
theorem qA {α:Type} {xs:List α} {i:Int} {v:α} (h:ni xs i = some v):∃ j,seqIndex? i xs.length = some j ∧ xs[j]? = some v ∧ j < xs.length ∧ -(xs.length:Int) ≤ i ∧ i < xs.length:=by
 unfold ni at h
 cases e:FF xs.length i with
 | none => rw [e] at h; cases h
 | some j =>
  rw [e] at h
  obtain ⟨h1,h2,h3,h4⟩:=B7 e
  exact ⟨j,h1,h,h2,h3,h4⟩
theorem qB {α:Type} {xs:List α} {j:Nat} {v:α} (h:xs[j]? = some v):ni xs (j:Int) = some v:=by
 have hj:j < xs.length:=(List.getElem?_eq_some_iff.mp h).1
 have e:FF xs.length (j:Int) = some j:=by
  unfold FF
  rw [if_pos (by lia),if_pos (by lia)]; simp
 unfold ni; rw [e]; exact h
noncomputable def qC (b:Expr):Prop:=∀ o i,subscripted b false o i = operate [o,i] (getItem o i)
noncomputable def uq (X:Cx) (r:R2):Prop :=
 ∀ (value slice:Expr) (pins:List (Addr × Obj)) (s:Shared) (σ:St) (H:Hp) (x y:V) (v u:Value) (Q:VK),Inv X pins σ H s → RelV x v → RelV y u → r x y H Q →
  subscripted slice false v u = operate [v,u] (getItem v u) → wpAny (model X.prog X.w) X.A (subscriptTail value slice v u) (EP X pins σ Q) X.xe s
noncomputable def SX (X:Cx) (id:String) (r:V → List V → Hp → VK → Prop):Prop :=
 ∀ (pins:List (Addr × Obj)) (s:Shared) (σ:St) (H:Hp) (x:V) (xs:List V) (v:Value) (us:List Value) (Q:VK),Inv X pins σ H s → RelV x v → Vals xs us → r x xs H Q →
  wpAny (model X.prog X.w) X.A (call (.builtin id) (v :: us)) (EP X pins σ Q) X.xe s
section
variable {X:Cx} {a b:Expr} {ta tb:TE} {pos:Pos}
theorem uq.or {r r':R2} (h:uq X r) (h':uq X r'):uq X (fun x y H Q => r x y H Q ∨ r' x y H Q):=by
 intro value slice pins s σ H x y v u Q I rx ry q hs
 rcases q with q | q
 ·exact h value slice pins s σ H x y v u Q I rx ry q hs
 ·exact h' value slice pins s σ H x y v u Q I rx ry q hs
theorem IJ {r:R2} (hr:uq X r) (ha:PE X a ta) (hb:PE X b tb) (hs:qC b):PE X (.Subscript a b pos) (HH r ta tb):=by
 intro pins s σ H Q I h
 exact Subscript_ (Fj ha hb I h fun v u s2 x y H2 I2 rx ry q => hr a b pins s2 σ H2 x y v u Q I2 rx ry q (hs _ _))
noncomputable def Mr (K:PySem.W.Frag):R2:=fun x y H Q => ∃ p xs i v,x = .ref p ∧ y = .int i ∧ jb K H p xs ∧ ni xs i = some v ∧ Q v H
noncomputable def Ms (K:PySem.W.Frag):R2:=fun x y H Q => ∃ p xs i v,x = .ref p ∧ y = .int i ∧ gp K H p xs ∧ ni xs i = some v ∧ Q v H
noncomputable def Mt:R2:=fun x y H Q => ∃ z i c,x = .str z ∧ y = .int i ∧ z.length ≤ sizeLine ∧ ni z.cps.toList i = some c ∧ Q (.str ⟨#[c]⟩) H
theorem B8:uq X (Mr X.K):=by
 intro value slice pins s σ H x y v u Q I rx ry h hs
 obtain ⟨p,xs,i,z,rfl,rfl,hq,he,q⟩:=h
 cases rx
 obtain ⟨t,rfl⟩:=ry
 obtain ⟨aE,r,pl,hz⟩:=I.list hq
 obtain ⟨j,h1,h2,h3,h4,h5⟩:=qA he
 obtain ⟨w,ew,qD⟩:=r.get h2
 have hl:=r.length
 have hn:=m_
 have fin:EP X pins σ Q w s:=⟨z,H,I,qD,q⟩
 by_cases h0:0 ≤ i
 ·have hj:i.toNat = j:=by
   rw [seqIndex_of h0 h5] at h1
   exact Option.some.inj h1
  exact item_listR pl.isList h0 (by lia) (by rw [hj]; simpa using ew) fin hs
 ·have hj:(i + (aE.toArray.size:Int)).toNat = j:=by
   rw [seqIndex_neg (by lia) h4] at h1
   rw [List.size_toArray,← hl]
   exact Option.some.inj h1
  exact subscriptTail_builtinR (x:=w) pl.isList.typeIs slot_list_getitem.lookup
   (wpAny_getItem_list_neg (Q:=fun r s' => r = w ∧ EP X pins σ Q r s') pl.isList (by lia) (by rw [List.size_toArray] <;> lia) (by lia) (by rw [hj]; simpa using ew) ⟨rfl,fin⟩) hs
theorem uH:uq X (Ms X.K):=by
 intro value slice pins s σ H x y v u Q I rx ry h hs
 obtain ⟨p,xs,i,z,rfl,rfl,hq,he,q⟩:=h
 cases rx
 obtain ⟨t,rfl⟩:=ry
 obtain ⟨aE,r,pl,hz⟩:=I.tuple hq
 obtain ⟨j,h1,h2,h3,h4,h5⟩:=qA he
 obtain ⟨w,ew,qD⟩:=r.get h2
 have hl:=r.length
 have hn:=m_
 have fin:EP X pins σ Q w s:=⟨z,H,I,qD,q⟩
 exact subscriptTail_builtinR (x:=w) pl.typeIs slot_tuple_getitem.lookup
  (getItem_tuple (j:=j) (Q:=fun r s' => r = w ∧ EP X pins σ Q r s') pl (by lia) (by lia) (by rw [List.size_toArray,← hl]; exact h1) (by simpa using ew) ⟨rfl,fin⟩) hs
theorem FG:uq X Mt:=by
 intro value slice pins s σ H x y v u Q I rx ry h hs
 obtain ⟨z,i,c,rfl,rfl,hz,he,q⟩:=h
 obtain ⟨t,rfl⟩:=rx
 obtain ⟨t',rfl⟩:=ry
 obtain ⟨j,h1,h2,h3,h4,h5⟩:=qA he
 have hl:z.cps.toList.length = z.length:=by simp [Str.length]
 rw [hl] at h1 h4 h5
 have hn:=m_
 exact tail_any (typeIs_str s z t) slot_str_getitem.lookup (getItem_str (c:=c) (by
  have e1:decide (i < -(2 ^ 63:Int)) = false:=decide_eq_false (by lia)
  have e2:decide (i ≥ 2 ^ 63) = false:=decide_eq_false (by lia)
  rw [e1,e2,Bool.or_false]) (by rw [h1]; simpa using h2) ⟨.str ⟨#[c]⟩,H,I.tok _,⟨_,rfl⟩,q⟩) hs
theorem qE (lo hi:Option Int) (n:Nat):(sliceBounds lo hi none n).1 = ((HT.cN n 0 lo:Nat):Int) ∧ (sliceBounds lo hi none n).2.1 = ((HT.cN n n hi:Nat):Int) ∧ (sliceBounds lo hi none n).2.2 = 1:=by
 refine ⟨?_,?_,rfl⟩
 ·cases lo with
  | none => simp [sliceBounds,HT.cN]
  | some i =>
   simp only [sliceBounds,HT.cN,Option.getD_none,show (1:Int) > 0 by decide,if_true]
   by_cases h:i < 0
   ·simp only [h,if_true] <;> lia
   ·simp only [h,if_false] <;> lia
 ·cases hi with
  | none => simp [sliceBounds,HT.cN]
  | some i =>
   simp only [sliceBounds,HT.cN,Option.getD_none,show (1:Int) > 0 by decide,if_true]
   by_cases h:i < 0
   ·simp only [h,if_true] <;> lia
   ·simp only [h,if_false] <;> lia
theorem o8 (aE:List Value) (lo hi:Option Int):slicePick aE.toArray lo hi none = ((aE.drop (HT.cN aE.length 0 lo)).take (HT.cN aE.length aE.length hi - HT.cN aE.length 0 lo)).toArray:=by
 obtain ⟨h1,h2,h3⟩:=qE lo hi aE.toArray.size
 unfold slicePick
 rw [h1,h2,h3]
 simp only [sliceRange_one,pick_run,List.size_toArray] <;> rfl
noncomputable def Mu (K:PySem.W.Frag):V → Option Int → Option Int → Hp → VK → Prop:=fun x lo hi H Q => ∃ a xs,x = .ref a ∧ jb K H a xs ∧ ∀ p,H p = none → Q (.ref p) (upd H p (.lst (qx xs lo hi)))
theorem B9:Bx X (Mu X.K):=by
 intro pins s σ H x v vl vu lo hi sl Q I rx hs pl pu h
 obtain ⟨a,xs,rfl,hx,q⟩:=h
 cases rx
 obtain ⟨aE,r,ht,hz⟩:=I.list hx
 have hlen:=r.length
 refine ⟨"list",_,slot_list_getitem.lookup,ht.isList.typeIs,?_⟩
 refine wpAny_getItem_list_slice ht.isList hs pl pu .none (by simp) ?_ (by rw [List.size_toArray] <;> lia)
 rw [o8,← hlen]
 refine ⟨.ref s.heap.objs.size,_,I.laid (t':=s.toks) (o:=.lst (qx xs lo hi)) (fun b ob q => Heap.get?_push_of_some _ q) (Nat.le_refl _) ?_,rfl,q _ (I.bz.fresh (Nat.le_refl _))⟩
 exact ⟨Nat.le_trans (lM xs lo hi) hz,_,0,(r.drop (HT.cN xs.length 0 lo)).take (HT.cN xs.length xs.length hi - HT.cN xs.length 0 lo),Heap.get?_push_size _ rfl⟩
noncomputable def ig:V → Bool
 | .da => true
 | .bl _ => true
 | .int _ => true
 | .str _ => true
 | _ => false
noncomputable def By:V → V → Bool
 | .da,.da => true
 | .bl a,.bl b => a == b
 | .bl a,.int b => (if a then 1 else 0) == b
 | .int a,.bl b => a == (if b then 1 else 0)
 | .int a,.int b => a == b
 | .str a,.str b => a == b
 | _,_ => false
theorem FH {A:Around} {s:Shared} {y x:V} {u v:Value} (ry:RelV y u) (rx:RelV x v) (fy:ig y = true) (fx:ig x = true):SeqAt.EqAt A s u v (By y x):=by
 cases y with
 | da =>
  cases ry
  cases x with
  | da => cases rx; exact SeqAt.EqAt.same _
  | bl b => cases rx; exact SeqAt.EqAt.none_bool b
  | int b => obtain ⟨t,rfl⟩:=rx; exact SeqAt.EqAt.none_int b t
  | str b => obtain ⟨t,rfl⟩:=rx; exact SeqAt.EqAt.none_str b t
  | _ => exact absurd (show false = true from fx) Bool.false_ne_true
 | bl a =>
  cases ry
  cases x with
  | da => cases rx; exact SeqAt.EqAt.bool_none a
  | bl b => cases rx; exact SeqAt.EqAt.bool_bool a b
  | int b => obtain ⟨t,rfl⟩:=rx; exact SeqAt.EqAt.bool_int a b t
  | str b => obtain ⟨t,rfl⟩:=rx; exact SeqAt.EqAt.bool_str a b t
  | _ => exact absurd (show false = true from fx) Bool.false_ne_true
 | int a =>
  obtain ⟨t',rfl⟩:=ry
  cases x with
  | da => cases rx; exact SeqAt.EqAt.int_none a t'
  | bl b => cases rx; exact SeqAt.EqAt.int_bool a t' b
  | int b => obtain ⟨t,rfl⟩:=rx; exact SeqAt.EqAt.int_int a t' b t
  | str b => obtain ⟨t,rfl⟩:=rx; exact SeqAt.EqAt.int_str a t' b t
  | _ => exact absurd (show false = true from fx) Bool.false_ne_true
 | str a =>
  obtain ⟨t',rfl⟩:=ry
  cases x with
  | da => cases rx; exact SeqAt.EqAt.str_none a t'
  | bl b => cases rx; exact SeqAt.EqAt.str_bool a t' b
  | int b => obtain ⟨t,rfl⟩:=rx; exact SeqAt.EqAt.str_int a t' b t
  | str b => obtain ⟨t,rfl⟩:=rx; exact SeqAt.EqAt.str_str a t' b t
  | _ => exact absurd (show false = true from fx) Bool.false_ne_true
 | _ => exact absurd (show false = true from fy) Bool.false_ne_true
noncomputable def B_ (x:V) (u:Value):Bool:=match u with
 | .none => By .da x
 | .bool b => By (.bl b) x
 | .int i _ => By (.int i) x
 | .str z _ => By (.str z) x
 | _ => false
theorem yQ {x y:V} {u:Value} (r:RelV y u) (f:ig y = true):B_ x u = By y x:=by
 cases y with
 | da => cases r; rfl
 | bl b => cases r; rfl
 | int i => obtain ⟨t,rfl⟩:=r; rfl
 | str z => obtain ⟨t,rfl⟩:=r; rfl
 | _ => exact absurd (show false = true from f) Bool.false_ne_true
theorem qF {x:V}:∀ {xs:List V} {us:List Value},Vals xs us → xs.all ig = true → us.any (B_ x) = xs.any fun y => By y x
 | _,_,.nil,_ => rfl
 | y :: xs,u :: us,.cons r t,f => by
  rw [List.all_cons,Bool.and_eq_true] at f
  rw [List.any_cons,List.any_cons,yQ r f.1,qF t f.2]
theorem nk {A:Around} {s:Shared} {x:V} {v:Value} (rx:RelV x v) (fx:ig x = true):∀ {xs:List V} {us:List Value},Vals xs us → xs.all ig = true → ∀ u ∈ us,SeqAt.EqAt A s u v (B_ x u)
 | _,_,.nil,_ => fun u hu => by cases hu
 | y :: xs,u :: us,.cons r t,f => fun u' hu => by
  rw [List.all_cons,Bool.and_eq_true] at f
  rcases List.mem_cons.mp hu with rfl | hu
  ·rw [yQ r f.1]; exact FH r rx f.1 fx
  ·exact nk rx fx t f.2 u' hu
noncomputable def K3 (x:V) (xs:List V):Bool:=xs.any fun y => By y x
noncomputable def Q7 (K:PySem.W.Frag) (neg:Bool):R2:=fun x y H Q => ∃ p xs,y = .ref p ∧ (jb K H p xs ∨ gp K H p xs) ∧ ig x = true ∧ xs.all ig = true ∧ Q (.bl (if neg then !K3 x xs else K3 x xs)) H
theorem wW:dz X (compareOp .In) (Q7 X.K false):=by
 intro pins s σ H x y v u Q I rx ry h
 obtain ⟨p,xs,rfl,hq,fx,fs,q⟩:=h
 cases ry
 rcases hq with hq | hq
 ·obtain ⟨aE,r,pl,hz⟩:=I.list hq
  refine SeqAt.in_listAt (B_ x) pl.isList (fun w hw => nk rx fx r fs w (by simpa using hw)) ⟨.bl _,H,I,rfl,?_⟩
  rw [show aE.toArray.any (B_ x) = aE.any (B_ x) by simp,qF r fs]
  exact q
 ·obtain ⟨aE,r,pl,hz⟩:=I.tuple hq
  refine SeqAt.in_tupleAt (B_ x) pl (fun w hw => nk rx fx r fs w (by simpa using hw)) ⟨.bl _,H,I,rfl,?_⟩
  rw [show aE.toArray.any (B_ x) = aE.any (B_ x) by simp,qF r fs]
  exact q
theorem qG:bZ X (.builtin "len") (fun xs H Q => ∃ p ys,xs = [.ref p] ∧ (jb X.K H p ys ∨ gp X.K H p ys) ∧ Q (.int ys.length) H):=by
 intro pins s σ H xs us Q I r h
 obtain ⟨p,ys,rfl,hq,q⟩:=h
 obtain ⟨u,rfl,rx⟩:=vals1 r
 cases rx
 have hn:=m_
 rcases hq with hq | hq
 ·obtain ⟨aE,r',pl,hz⟩:=I.list hq
  have hlen:=r'.length
  exact Calls.call_len_list pl.isList (by simp only [List.size_toArray] <;> lia) ⟨.int ys.length,H,I.tok _,⟨s.toks + 1,by rw [List.size_toArray,hlen]⟩,q⟩
 ·obtain ⟨aE,r',pl,hz⟩:=I.tuple hq
  have hlen:=r'.length
  exact len_tuple pl (by simp only [List.size_toArray] <;> lia) ⟨.int ys.length,H,I.tok _,⟨s.toks + 1,by rw [List.size_toArray,hlen]⟩,q⟩
theorem qH:bZ X (.builtin "len") (fun xs H Q => ∃ z,xs = [.str z] ∧ z.length ≤ sizeLine ∧ Q (.int z.length) H):=by
 intro pins s σ H xs us Q I r h
 obtain ⟨z,rfl,hz,q⟩:=h
 obtain ⟨u,rfl,t,rfl⟩:=vals1 r
 have hn:=m_
 exact len_str (by lia) ⟨.int z.length,H,I.tok _,⟨_,rfl⟩,q⟩
theorem bZ.or {f:Value} {r r':List V → Hp → VK → Prop} (h:bZ X f r) (h':bZ X f r'):bZ X f (fun xs H Q => r xs H Q ∨ r' xs H Q):=by
 intro pins s σ H xs us Q I rs q
 rcases q with q | q
 ·exact h pins s σ H xs us Q I rs q
 ·exact h' pins s σ H xs us Q I rs q
theorem qI:bZ X (.type "list") (fun xs H Q => ∃ p ys,xs = [.ref p] ∧ (jb X.K H p ys ∨ gp X.K H p ys) ∧ ∀ l,H l = none → Q (.ref l) (upd H l (.lst ys))):=by
 intro pins s σ H xs us Q I r h
 obtain ⟨p,ys,rfl,hq,q⟩:=h
 obtain ⟨u,rfl,rx⟩:=vals1 r
 cases rx
 have fin:∀ (aE:List Value),Vals ys aE → ys.length ≤ sizeLine → ∀ (h':Heap) (c':Nat),(∀ b o',s.heap.get? b = some o' → h'.get? b = some o') →
   h'.get? s.heap.objs.size = some { cls:=.type "list",dict:=none,data:=.seq aE.toArray c',slots:=#[] } → EP X pins σ Q (.ref s.heap.objs.size) { s with heap:=h' }:=fun aE r' hz h' c' kp e =>
  ⟨.ref s.heap.objs.size,_,I.laid (t':=s.toks) kp (Nat.le_refl _) (show bL X.prog X.w _ h' _ (.lst ys) from ⟨hz,aE,c',r',e⟩),rfl,q _ (I.bz.fresh (Nat.le_refl _))⟩
 rcases hq with hq | hq
 ·obtain ⟨aE,r',pl,hz⟩:=I.list hq
  have hlen:=r'.length
  obtain ⟨o,ho,hc,n,hd⟩:=pl.isList
  exact call_list_seq p (.inl rfl) ho hc hd (fun h' c' kp e => fin aE r' hz h' c' kp e) (by simp only [List.size_toArray] <;> lia)
 ·obtain ⟨aE,r',pl,hz⟩:=I.tuple hq
  have hlen:=r'.length
  obtain ⟨o,ho,hc,n,hd⟩:=pl
  exact call_list_seq p (.inr rfl) ho hc hd (fun h' c' kp e => fin aE r' hz h' c' kp e) (by simp only [List.size_toArray] <;> lia)
theorem o9:bZ X (.type "tuple") (fun xs H Q => ∃ p ys,xs = [.ref p] ∧ ((jb X.K H p ys ∧ ∀ l,H l = none → Q (.ref l) (upd H l (.tup ys))) ∨ (gp X.K H p ys ∧ Q (.ref p) H))):=by
 intro pins s σ H xs us Q I r h
 obtain ⟨p,ys,rfl,h⟩:=h
 obtain ⟨u,rfl,rx⟩:=vals1 r
 cases rx
 rcases h with ⟨hq,q⟩ | ⟨hq,q⟩
 ·obtain ⟨aE,r',pl,hz⟩:=I.list hq
  have hlen:=r'.length
  refine call_tuple_list pl.isList (fun h' kp => ?_) (by simp only [List.size_toArray] <;> lia)
  have I1:Inv X pins σ H { s with heap:=h' }:=I.kept (t':=s.toks) kp
  have I2:Inv X pins σ (upd H h'.objs.size (.tup ys)) { s with heap:=h'.push { cls:=.type "tuple",data:=.seq aE.toArray } } :=
   I1.laid (t':=s.toks) (fun b o e => Heap.get?_push_of_some _ e) (Nat.le_refl _) (show bL X.prog X.w _ _ _ (.tup ys) from ⟨hz,aE,r',IsTup.new _ _⟩)
  exact ⟨.ref h'.objs.size,_,I2,rfl,q _ (I1.bz.fresh (Nat.le_refl _))⟩
 ·obtain ⟨aE,r',pl,hz⟩:=I.tuple hq
  exact call_tuple_same pl ⟨.ref p,H,I,rfl,q⟩
noncomputable def Mv (K:PySem.W.Frag) (T:String) (x:V) (H:Hp):Prop:=match x with
 | .str _ => T = "str"
 | .int _ => T = "int"
 | .ref p => (T = "list" ∧ ∃ xs,jb K H p xs) ∨ (T = "tuple" ∧ ∃ o,K.lookup p = some o ∧ o.cls = .type "tuple" ∧ o.dict = none) ∨
   (T = "dict" ∧ ((∃ aI,H p = some (.dK aI)) ∨ ∃ aI,H p = some (.dT aI))) ∨ (T = "set" ∧ ∃ S n,H p = some (.set S n))
 | _ => False
theorem FI {pins:List (Addr × Obj)} {σ:St} {H:Hp} {s:Shared} {T:String} {x:V} {v:Value} (I:Inv X pins σ H s) (r:RelV x v) (ty:Mv X.K T x H) :
  s.TypeIs v T ∧ ∀ a,v = .ref a → ∃ ob,s.heap.get? a = some ob ∧ ob.dict = none:=by
 cases x with
 | str z =>
  obtain ⟨t,rfl⟩:=r
  cases (show T = "str" from ty)
  exact ⟨typeIs_str s z t,fun _ e => nomatch e⟩
 | int i =>
  obtain ⟨t,rfl⟩:=r
  cases (show T = "int" from ty)
  exact ⟨typeIs_int s i t,fun _ e => nomatch e⟩
 | ref p =>
  cases r
  rcases ty with ⟨rfl,xs,hq⟩ | ⟨rfl,o,hk,hc,hd⟩ | ⟨rfl,hk⟩ | ⟨rfl,S,n,hk⟩
  ·obtain ⟨aE,_,pl,_⟩:=I.list hq
   refine ⟨pl.isList.typeIs,fun a e => ?_⟩
   cases e
   obtain ⟨o,n,e,c,hd,_⟩:=pl
   exact ⟨o,e,hd⟩
  ·refine ⟨⟨o,I.mU p o hk,hc⟩,fun a e => ?_⟩
   cases e
   exact ⟨o,I.mU _ o hk,hd⟩
  ·have z:∃ o,s.heap.get? p = some o ∧ o.ExactDict:=by
    rcases hk with ⟨aI,hk⟩ | ⟨aI,hk⟩
    ·obtain ⟨_,_,_,_,o,_,_,e,ex,_⟩:=I.bz p _ hk
     exact ⟨o,e,ex⟩
    ·obtain ⟨_,_,_,_,o,_,_,e,ex,_⟩:=I.bz p _ hk
     exact ⟨o,e,ex⟩
   obtain ⟨o,e,ex⟩:=z
   refine ⟨⟨o,e,ex.1⟩,fun a e2 => ?_⟩
   cases e2
   exact ⟨o,e,ex.2.1⟩
  ·obtain ⟨o,_,_,_,e,ex,_⟩:=I.bz p _ hk
   refine ⟨⟨o,e,ex.1⟩,fun a e2 => ?_⟩
   cases e2
   exact ⟨o,e,ex.2.1⟩
 | _ => exact False.elim ty
noncomputable def SY (K:PySem.W.Frag) (T:String) (r:V → List V → Hp → VK → Prop) (to:TE) (t:TA):TE:=fun σ H Q => to σ H fun x H1 => Mv K T x H1 ∧ t σ H1 fun xs H2 => r x xs H2 Q
variable {o e:Expr} {es:List Expr} {to:TE} {t:TA} {name:Str} {apos cu:Pos} {T id:String} {r:V → List V → Hp → VK → Prop}
theorem IK (pa:PlainAttrs T) (slot:Slot T name id) (IL:typeOf (.builtin id) = pure (.type "method_descriptor")) (hm:SX X id r) (ho:PE X o to) (ha:PA X (e :: es) t)
  (sf:attributeBase o name X.env (eval o X.env) = eval o X.env:=by rfl)
  (yR:((backTo cu (starEach (e :: es) X.env)).all (fun x => !x.1) && (backToKw cu (keywordEach [] X.env)).all (fun x => x.1.isSome)
   && decide ((e :: es).length + ([]:List Keyword).length + (if ([]:List Keyword).isEmpty then 0 else 1) < 30)) = true:=by rfl)
  (sg:(apos.endLine == cu.line) = true:=by rfl) (hs:starEach (e :: es) X.env = (false,eval e X.env) :: starEach es X.env:=by rfl) (nq:(backTo cu (starEach es X.env)).any (·.1) = false:=by rfl) :
  PE X (.Call (.Attribute o name apos) (e :: es) [] cu) (SY X.K T r to t):=by
 intro pins s σ H Q I h
 refine wpAny_Call_method_late sf yR sg rfl (cb (ho pins s σ H _ I h) fun v s1 ⟨x,H1,I1,r1,ty,q1⟩ => ?_)
 obtain ⟨h1,h2⟩:=FI I1 r1 ty
 refine ⟨T,id,pa,slot,IL,h1,h2,?_⟩
 have hA:=ha cu pins s1 σ H1 _ I1 q1
 rw [hs] at hA ⊢
 refine Calls.callWith_builtin (by show (false || (backTo cu (starEach es X.env)).any (·.1)) = false; rw [nq] <;> rfl) (Calls.evalArgs_plain ?_)
 exact cb hA fun us s2 ⟨vs,H2,I2,r2,q2⟩ => hm pins s2 σ H2 x vs v us Q I2 r1 r2 q2
end
end L2
namespace L2
open PySem PySem.Spec PyProof.Rows
noncomputable def FJ (X:Cx) (id:String) (r:V → List V → Hp → VK → Prop):Prop :=
 ∀ (pins:List (Addr × Obj)) (s:Shared) (σ:St) (H:Hp) (x:V) (xs:List V) (v:Value) (us:List Value) (Q:VK),Inv X pins σ H s → RelV x v → Vals xs us → r x xs H Q →
  wpAny (model X.prog X.w) X.A (call (.builtin id) (v :: us)) (EP X pins σ Q) X.xe s
theorem Vals.one {x:V} {us:List Value} (p:Vals [x] us):∃ u,us = [u] ∧ RelV x u:=by
 cases p with
 | cons r t => cases t; exact ⟨_,rfl,r⟩
theorem Vals.two {x y:V} {us:List Value} (p:Vals [x,y] us):∃ u v,us = [u,v] ∧ RelV x u ∧ RelV y v:=by
 cases p with
 | cons r t =>
  obtain ⟨v,z,q⟩:=Vals.one t
  rw [z]
  exact ⟨_,v,rfl,r,q⟩
theorem Vals.reverse {xs:List V} {us:List Value} (h:Vals xs us):Vals xs.reverse us.reverse:=by
 induction h with
 | nil => exact .nil
 | cons r t ih => rw [List.reverse_cons,List.reverse_cons]; exact Vals.append ih (.cons r .nil)
theorem Vals.rep {xs:List V} {us:List Value} (h:Vals xs us):∀ k:Nat,Vals (List.replicate k xs).flatten (List.replicate k us).flatten
 | 0 => .nil
 | k + 1 => by
  rw [List.replicate_succ,List.replicate_succ,List.flatten_cons,List.flatten_cons]
  exact Vals.append h (Vals.rep h k)
theorem foldl_rep (aE:List Value):∀ (k:Nat) (acc:List Value),
  List.foldl (fun x1 x2 => x1 ++ x2) acc.toArray (List.replicate k aE.toArray) = (acc ++ (List.replicate k aE).flatten).toArray
 | 0,acc => by simp
 | k + 1,acc => by
  have e:acc.toArray ++ aE.toArray = (acc ++ aE).toArray:=by simp
  have e2:(acc ++ aE) ++ (List.replicate k aE).flatten = acc ++ (List.replicate (k + 1) aE).flatten:=by
   rw [List.replicate_succ,List.flatten_cons,List.append_assoc]
  rw [← e2,← foldl_rep aE k (acc ++ aE),← e,List.replicate_succ,List.foldl_cons]
section
variable {X:Cx} {pins:List (Addr × Obj)} {σ:St} {H:Hp} {s:Shared} {l b:Addr} {xs ys zs:List V}
theorem Inv.Mw {aE its':List Value} {n:Nat} {f:Array Value → Array Value} {t':Nat} (I:Inv X pins σ H s) (hH:H l = some (.lst xs))
  (e:s.heap.get? l = some { cls:=.type "list",data:=.seq aE.toArray n }) (hf:f aE.toArray = its'.toArray) (hv:Vals ys its') (hz:ys.length ≤ sizeLine) :
  Inv X pins σ (upd H l (.lst ys)) { s with heap:=s.heap.update l (Obj.mapSeq f),toks:=t' }:=by
 have q:=PySem.IsL.update e f
 rw [hf] at q
 refine I.write (x:=l) (e:=l) (by rw [hH]; exact trivial) (.inl rfl) (fun b' u hb hu => (Heap.get?_update_other s.heap (Obj.mapSeq f) (Ne.symm hb)).trans hu) ⟨_,q⟩ ?_
 exact ⟨hz,its',_,hv,q⟩
theorem Inv.IM {aE:List Value} {t':Nat} (I:Inv X pins σ H s) (hv:Vals ys aE) (hz:ys.length ≤ sizeLine) :
  Inv X pins σ (upd H s.heap.objs.size (.lst ys)) { s with heap:=s.heap.push { cls:=.type "list",data:=.seq aE.toArray },toks:=t' } :=
 I.laid (fun _ _ q => Heap.get?_push_of_some _ q) (Nat.le_refl _) ⟨hz,aE,0,hv,Heap.get?_push_size _ rfl⟩
theorem Inv.fresh (I:Inv X pins σ H s):H s.heap.objs.size = none:=I.bz.fresh (Nat.le_refl _)
theorem Inv.Ca (I:Inv X pins σ H s) (hH:H l = some (.lst xs)):xs.length ≤ sizeLine ∧ ∃ (aE:List Value) (n:Nat),Vals xs aE ∧ xs.length = aE.length ∧ s.heap.get? l = some { cls:=.type "list",data:=.seq aE.toArray n }:=by
 obtain ⟨z,aE,n,r,e⟩:=I.bz l _ hH
 exact ⟨z,aE,n,r,r.length,e⟩
theorem yS {n:Nat} (h:n ≤ sizeLine):Builtin.List.listTooLong n = false:=by
 unfold Builtin.List.listTooLong
 exact decide_eq_false (by lia)
end
section
variable {X:Cx}
noncomputable def Cb:V → List V → Hp → VK → Prop:=fun x vs H Q => ∃ l xs y,x = .ref l ∧ vs = [y] ∧ H l = some (.lst xs) ∧ xs.length < sizeLine ∧ Q .da (upd H l (.lst (xs ++ [y])))
theorem wX:FJ X "list.append" Cb:=by
 intro pins s σ H x vs v us Q I rx rv h
 obtain ⟨l,xs,y,rfl,rfl,hH,hz,q⟩:=h
 cases rx
 obtain ⟨u,rfl,ru⟩:=rv.one
 obtain ⟨z,aE,n,r,hl,e⟩:=I.Ca hH
 refine call_meets F.slot_list_append ⟨_,e,rfl⟩ F.entry_list_append (F.args_list_append_2 _ _) (PySem.list_append l aE.toArray n u (by rw [List.size_toArray]; lia)) ⟨e,?_⟩
 refine ⟨.da,_,I.Mw (its':=aE ++ [u]) hH e (by simp) (r.append (.cons ru .nil)) ?_,rfl,q⟩
 rw [List.length_append,List.length_singleton]
 lia
noncomputable def K4:V → List V → Hp → VK → Prop:=fun x vs H Q => ∃ l b xs zs,x = .ref l ∧ vs = [.ref b] ∧ H l = some (.lst xs) ∧ H b = some (.lst zs) ∧ xs.length + zs.length ≤ sizeLine ∧ Q .da (upd H l (.lst (xs ++ zs)))
noncomputable def Mx:R2:=fun x y H Q => ∃ l b xs zs,x = .ref l ∧ y = .ref b ∧ H l = some (.lst xs) ∧ H b = some (.lst zs) ∧ xs.length + zs.length ≤ sizeLine ∧ ∀ p,H p = none → Q (.ref p) (upd H p (.lst (xs ++ zs)))
theorem FK:dz X (binaryOp .Add) Mx:=by
 intro pins s σ H x y v u Q I rx ry h
 obtain ⟨l,b,xs,zs,rfl,rfl,hH,hB,hz,q⟩:=h
 cases rx
 cases ry
 obtain ⟨z,aE,n,r,hl,e⟩:=I.Ca hH
 obtain ⟨z2,cU,n2,r2,wY,e2⟩:=I.Ca hB
 refine PySem.P.add_list e e2 ?_ (by rw [List.size_toArray,List.size_toArray]; lia)
 have ea:aE.toArray ++ cU.toArray = (aE ++ cU).toArray:=by simp
 rw [ea]
 exact ⟨.ref _,_,I.IM (t':=s.toks) (r.append r2) (by rw [List.length_append]; lia),rfl,q _ I.fresh⟩
noncomputable def My:R2:=fun x y H Q => ∃ l k xs,x = .ref l ∧ y = .int k ∧ H l = some (.lst xs) ∧ -(2 ^ 63) ≤ k ∧ k < 2 ^ 63 ∧ xs.length * k.toNat ≤ sizeLine ∧
 ∀ p,H p = none → Q (.ref p) (upd H p (.lst (List.replicate k.toNat xs).flatten))
theorem len_rep {α:Type} (xs:List α) (k:Nat):(List.replicate k xs).flatten.length = k * xs.length:=by
 induction k with
 | zero => simp
 | succ k ih => rw [List.replicate_succ,List.flatten_cons,List.length_append,ih,Nat.succ_mul,Nat.add_comm]
theorem FL:dz X (binaryOp .Mult) My:=by
 intro pins s σ H x y v u Q I rx ry h
 obtain ⟨l,k,xs,rfl,rfl,hH,h1,h2,hz,q⟩:=h
 cases rx
 obtain ⟨t,rfl⟩:=ry
 obtain ⟨z,aE,n,r,hl,e⟩:=I.Ca hH
 have hlen:aE.toArray.size * k.toNat ≤ sizeLine:=by rw [List.size_toArray,← hl]; exact hz
 have Mz:¬ aE.toArray.size * k.toNat > (2 ^ 63 - 1) / 8:=by
  have:(sizeLine:Nat) ≤ (2 ^ 63 - 1) / 8:=by decide
  lia
 have MC:¬ (!Builtin.List.listFitsIndex k) = true:=by
  rw [fitsIndex_both h1 h2]
  exact Bool.false_ne_true
 have IP:¬ Builtin.List.listTooLong (aE.toArray.size * k.toNat) = true:=by
  rw [yS hlen]
  exact Bool.false_ne_true
 have MD:List.foldl (fun x1 x2 => x1 ++ x2) #[] (List.replicate (if aE.toArray.isEmpty = true then 0 else k.toNat) aE.toArray) = (List.replicate k.toNat aE).flatten.toArray:=by
  have f0:∀ m:Nat,List.foldl (fun x1 x2 => x1 ++ x2) #[] (List.replicate m aE.toArray) = (List.replicate m aE).flatten.toArray:=fun m => by
   have:=foldl_rep aE m []
   rw [List.nil_append] at this
   exact this
  rw [f0]
  cases aE with
  | nil => simp
  | cons a r' => rw [if_neg (by simp)]
 refine wpAny_binaryOp_repeat_ref (T:="list") (U:="int") (by decide) ⟨_,e,rfl⟩ (fun s' => typeIs_int s' k t) noFill_list_mul F.fills_int_mul F.slot_int_rmul repeat_list F.slot_int_index.lookup
  (call_meets F.slot_int_rmul (typeIs_int s k t) F.entry_int_rmul (F.args_int_rmul_2 _ _) (int___rmul___int_list k t l aE.toArray n)
   ⟨e,rfl,⟨_,e,rfl⟩,call_meets F.slot_list_mul ⟨_,e,rfl⟩ F.entry_list_mul (F.args_list_mul_2 _ _) (AutoListH.list___mul___list_int_3 l aE.toArray n k t MC Mz IP) ⟨e,?_⟩⟩)
 rw [MD]
 exact ⟨.ref _,_,I.IM (t':=s.toks) (r.rep k.toNat) (by rw [len_rep,Nat.mul_comm]; exact hz),rfl,q _ I.fresh⟩
end
section
variable {prog:Program} {w:World} {A:Around} {E:Value → Shared → Prop} {s:Shared}
set_option maxRecDepth 100000 in
end
section
variable {X:Cx}
end
end L2
namespace Q8
open PySem PySem.W PySem.Calls PyProof.Rows
theorem mw {P:Params} {h:Heap}:∀ (ns:List Int) (vs:List Value),WellAll P h vs (ns.map WData.int) → IntsAre vs ns:=by
 intro ns
 induction ns with
 | nil =>
  intro vs w
  rw [List.map_nil] at w
  cases w
  exact .nil
 | cons n ns ih =>
  intro vs w
  rw [List.map_cons] at w
  cases w with
  | cons a b =>
   cases a
   exact .cons _ _ (ih _ b)
theorem wZ {l:OpenLaw} {n:Nat} (hn:l.most = some n) {P:Params} {h:Heap} {args:List WData} {vals:List Value}
  (Cc:l.row.toRowW.claim.pre args = true) (MF:WellAll P h vals args) :
  ∃ a vs ns,vals = [Value.ref a] ∧ args = [WData.list (ns.map WData.int)] ∧ h.get? a = some { cls:=.type "list",data:=.seq vs.toArray } ∧ IntsAre vs ns ∧ ns.length ≤ n:=by
 have S0:WShape.hasAll [] args [.list .int] = true:=(pre_splitW Cc).1
 have hc:l.pre.holds [] { args:=args } = true:=(pre_splitW Cc).2
 obtain ⟨d,r,rfl,h1,h2⟩:=hasAllW_cons S0
 obtain rfl:=hasAllW_nil h2
 obtain ⟨xs,rfl,h3⟩:=hasW_list h1
 obtain ⟨ns,rfl⟩:=items_int h3
 have hlen:ns.length ≤ n:=by
  unfold OpenLaw.pre at hc
  have h4:(WTm.not (.lt (.lit (.int (n:Int))) (.len (.arg 0)))).holds [] { args:=[.list (ns.map .int)] } = true:=by
   have h4:=(holds_andW hc).1
   rw [hn] at h4
   exact h4
  have h5:=condW_of h4 (w_not (w_lt w_lit (w_len_list (w_arg rfl))))
  rw [List.length_map] at h5
  refine Nat.le_of_not_lt fun q => ?_
  have q':(n:Int) < ((ns.length:Nat):Int):=by lia
  first
   | (rw [decide_eq_true q'] at h5; exact absurd h5 (by decide))
   | (simp at h5; lia)
 cases MF with
 | cons w1 w2 =>
  cases w2
  cases w1 with
  | list ho FO => exact ⟨_,_,ns,rfl,rfl,ho,mw ns _ FO,hlen⟩
theorem w4 (l:OpenLaw) (args:List WData):l.row.toRowW.claim.post args (.bool true) args = true :=
 postW_of (r:=l.row.toRowW) (X:=(true == true))
  (show WShape.has [] (.bool true) .bool = true by first | rfl | decide | simp [WShape.has,WShape.arms,WShape.armsAll])
  (show (WTm.eq .res (.lit (.bool true))).value [] { args:=args,res:=some (.bool true),after:=args } = some (.bool (true == true)) from w_eq_bool (w_res rfl) w_lit) rfl
theorem sh {l:OpenLaw} {n:Nat} {q:Program} {loose:List Str} {XP:(Str → Option Value) → Heap → Prop} {YP:World → Heap → Prop} {d:DefRec}
  (hn:l.most = some n) (IQ:d.params.defaults = [])
  (call:∀ (w:World) (s₀ s₁:Shared) (mg mb:Str → Option Value) (fa:Addr) (o:Obj) (pm cd doc:Value) (a:Addr) (vs:List Value) (ns:List Int),
   Ground q loose [] XP w s₀ mg mb s₁.heap → YP w s₁.heap →
   s₁.heap.get? fa = some o → o.data = .func (docDef d.name d.params d.body d.scope pm cd doc) → s₁.heap.CodeRec cd d.name → mg d.name = some (.ref fa) →
   s₁.heap.get? a = some { cls:=.type "list",data:=.seq vs.toArray } → IntsAre vs ns → ns.length ≤ n → s₁.gens = #[] →
   codeAny (model l.prog w) callerA (.call (.ref fa) ⟨[.ref a],[]⟩) (fun r s' => r = .ok (.ret (.bool true)) ∧ OldK s₁.heap s'.heap ∧ s'.os = s₁.os ∧ AllBare s'.gens) s₁) :
  WalkO q loose XP YP l.row.toRowW d [] (fun f vs => PySem.call f vs):=by
 intro w s₀ s₁ mg mb G Y fa o pm cd doc dV kV ho hd m6 hD IS hg args vals as Cc S1 Wx MF HL
 obtain rfl:dV = .none:=Dflts.none hD IQ
 obtain rfl:kV = .none:=Dflts.noKw hD
 obtain ⟨a,vs,ns,rfl,rfl,FP,hints,hlen⟩:=wZ hn Cc MF
 refine enter_call (codeAny_mono (call w s₀ s₁ mg mb fa o pm cd doc a vs ns G Y ho (fd_plain hd) m6 IS FP hints hlen hg) fun r s' hq => ?_)
 obtain ⟨rfl,h2,h3,h4⟩:=hq
 exact ⟨.inl ⟨.bool true,.bool true,[],rfl,fun _ => rfl,.bool true,w4 l _,fun _ => ⟨List.Pairwise.nil,fun _ hm => (nomatch hm)⟩⟩,h2,h3,h4⟩
section
variable {prog:Program} {w:World} {A:Around} {E:Value → Shared → Prop} {s:Shared} {K:Frag}
end
end Q8
namespace L2
open PySem PySem.Spec PyProof.Rows
theorem pK:∀ {vs:List Value} {ns:List Int},IntsAre vs ns → Vals (ns.map V.int) vs
 | _,_,.nil => .nil
 | _,_,.cons n t h => .cons ⟨t,rfl⟩ (pK h)
end L2
namespace L2
open PySem PySem.Spec PyProof.Rows
end L2
namespace L2
open PySem PySem.Spec PyProof.Rows
noncomputable def bb (s:Stmt):Arguments:=match s with
 | .FunctionDef _ a _ _ _ _ _ _ _ _ => a
 | _ => { posonlyargs:=[],args:=[],vararg:=none,kwonlyargs:=[],kw_defaults:=[],kwarg:=none,defaults:=[] }
noncomputable def aO (s:Stmt):List Stmt:=match s with
 | .FunctionDef _ _ b _ _ _ _ _ _ _ => b
 | _ => []
noncomputable def aq (s:Stmt):Scope:=match s with
 | .FunctionDef _ _ _ _ _ _ sc _ _ _ => sc
 | _ => { kind:=.function,names:=[],isGenerator:=false,isCoroutine:=false }
noncomputable abbrev E0:XK:=fun _ _ _ => False
structure jw (K:PySem.W.Frag) (x qual:Str) (st:Stmt) (f:Addr) (fd:FuncData):Prop where
 ex:∃ (oc:Value) (od:Option Addr) (kV doc pm:Value) (an:Option Addr) (dk ct:Value) (BY:Array (Option Value)),
  fd = PySem.W.fnOf x qual (bb st) (aO st) (aq st) .none kV doc pm an dk ct ∧ K.lookup f = some ⟨oc,od,.func fd,BY⟩ ∧ PySem.W.codeIn K dk qual = true
 kp:PySem.W.keepIn K (.ref f) = true
section
variable {P:Program} {w:World} {K:PySem.W.Frag} {mg:Str → Option Value} {base:Heap}
theorem jw.binds {x qual:Str} {st:Stmt} {f:Addr} {fd:FuncData} {ps:List Str} (F:jw K x qual st f fd)
  (h:∀ (kV doc pm:Value) (an:Option Addr) (dk ct:Value) (us:List Value),us.length = ps.length → bindArgs (PySem.W.fnOf x qual (bb st) (aO st) (aq st) .none kV doc pm an dk ct) ⟨us,[]⟩ = pure (ps.zip us)):Binds K fd ps []:=by
 obtain ⟨oc,od,kV,doc,pm,an,dk,ct,BY,rfl,lk,m6⟩:=F.ex
 exact .all (h kV doc pm an dk ct)
theorem cj {x qual:Str} {st:Stmt} {f:Addr} {oc:Value} {od an:Option Addr} {BY:Array (Option Value)} {kV doc pm dk ct:Value} (l:K.lookup f = some ⟨oc,od,.func (PySem.W.fnOf x qual (bb st) (aO st) (aq st) .none kV doc pm an dk ct),BY⟩)
  (c:PySem.W.codeIn K dk qual = true) (k:PySem.W.keepIn K (.ref f) = true):jw K x qual st f (PySem.W.fnOf x qual (bb st) (aO st) (aq st) .none kV doc pm an dk ct):=⟨⟨oc,od,kV,doc,pm,an,dk,ct,BY,rfl,l,c⟩,k⟩
end
section
variable {X:Cx}
end
noncomputable def jd (H H':Hp):Prop:=∀ b o,H b = some o → H' b = some o
theorem jd.refl (H:Hp):jd H H:=fun _ _ h => h
end L2
namespace L2
open PySem PySem.Spec PyProof.Rows
section
variable {κ:Type} [DecidableEq κ]
noncomputable def gN (aI:List (κ × V)) (k:κ):Option V:=(aI.find? fun kv => decide (kv.1 = k)).map (·.2)
noncomputable def putK (aI:List (κ × V)) (k:κ) (v:V):List (κ × V) :=
 if (aI.any fun kv => decide (kv.1 = k)) = true then aI.map (fun kv => if kv.1 = k then (kv.1,v) else kv) else aI ++ [(k,v)]
theorem nr {p:κ × V} {r:List (κ × V)} {k:κ} (e:p.1 = k):gN (p :: r) k = some p.2:=by simp [gN,List.find?_cons,e]
theorem nu {p:κ × V} {r:List (κ × V)} {k:κ} (e:¬ p.1 = k):gN (p :: r) k = gN r k:=by simp [gN,List.find?_cons,e]
theorem si (k:κ):∀ aI:List (κ × V),(aI.any fun kv => decide (kv.1 = k)) = (gN aI k).isSome
 | [] => rfl
 | p :: r => by
  rw [List.any_cons]
  by_cases e:p.1 = k
  ·simp only [nr e,decide_eq_true e,Bool.true_or,Option.isSome_some]
  ·rw [nu e,decide_eq_false e,Bool.false_or]; exact si k r
theorem lN (aI:List (κ × V)) (k:κ) (v:V):(putK aI k v).length ≤ aI.length + 1:=by
 unfold putK
 split
 ·rw [List.length_map]; lia
 ·rw [List.length_append,List.length_cons,List.length_nil]; lia
theorem kq.w6 {o:Option V} {u:Option Value} (r:kq o u):o.isSome = u.isSome:=by
 cases o with
 | none => cases u with
  | none => rfl
  | some _ => exact (show False from r).elim
 | some _ => cases u with
  | none => exact (show False from r).elim
  | some _ => rfl
theorem kq.getD {o:Option V} {u:Option Value} {d:V} {d':Value} (r:kq o u) (rd:RelV d d'):RelV (o.getD d) (u.getD d'):=by
 cases o with
 | none => cases u with
  | none => exact rd
  | some _ => exact (show False from r).elim
 | some _ => cases u with
  | none => exact (show False from r).elim
  | some _ => exact r
theorem KV.val {aI:List (κ × V)} {vs:List (κ × Value)} (r:KV aI vs) (k:κ):kq (gN aI k) (valueAt vs k):=by
 unfold KV at r
 induction r with
 | nil => exact True.intro
 | @cons p q ps qs h t ih =>
  obtain ⟨h1,h2⟩:=h
  by_cases e:p.1 = k
  ·have e':q.1 = k:=h1.symm.trans e
   have b:valueAt (q :: qs) k = some q.2:=by simp [valueAt,List.find?_cons,e']
   rw [nr e,b]; exact h2
  ·have e':¬ q.1 = k:=fun z => e (h1.trans z)
   have b:valueAt (q :: qs) k = valueAt qs k:=by simp [valueAt,List.find?_cons,e']
   rw [nu e,b]; exact ih
theorem KV.any {aI:List (κ × V)} {vs:List (κ × Value)} (r:KV aI vs) (k:κ):(aI.any fun kv => decide (kv.1 = k)) = vs.any fun kv => decide (kv.1 = k):=by
 unfold KV at r
 induction r with
 | nil => rfl
 | cons h t ih => rw [List.any_cons,List.any_cons,ih,h.1]
theorem KV.qJ {aI:List (κ × V)} {vs:List (κ × Value)} (r:KV aI vs) (k:κ) {y:V} {u:Value} (ry:RelV y u) :
  KV (aI.map fun kv => if kv.1 = k then (kv.1,y) else kv) (vs.map fun kv => if kv.1 = k then (kv.1,u) else kv):=by
 unfold KV at r ⊢
 induction r with
 | nil => exact .nil
 | @cons p q ps qs h t ih =>
  rw [List.map_cons,List.map_cons]
  refine .cons ?_ ih
  obtain ⟨h1,h2⟩:=h
  by_cases e:p.1 = k
  ·rw [if_pos e,if_pos (h1.symm.trans e)]; exact ⟨h1,ry⟩
  ·rw [if_neg e,if_neg (fun z => e (h1.trans z))]; exact ⟨h1,h2⟩
theorem KV.put {aI:List (κ × V)} {vs:List (κ × Value)} (r:KV aI vs) (k:κ) {y:V} {u:Value} (ry:RelV y u):KV (putK aI k y) (stored vs k u):=by
 unfold putK stored
 rw [r.any k]
 by_cases e:(vs.any fun kv => decide (kv.1 = k)) = true
 ·rw [if_pos e,if_pos e]; exact r.qJ k ry
 ·rw [if_neg e,if_neg e]; exact Paired.snoc r ⟨rfl,ry⟩
theorem KV.length {aI:List (κ × V)} {vs:List (κ × Value)} (r:KV aI vs):aI.length = vs.length:=Paired.length r
end
theorem vO {P:Program} {w:World} {k:Key} {u:Value} (r:RelV (kV k) u):(cL P w).is k u = true:=by
 cases k with
 | inl i => obtain ⟨t,e⟩:=(show ∃ t,u = Value.int i t from r); subst e; exact rZ P w i t
 | inr x => obtain ⟨t,e⟩:=(show ∃ t,u = Value.str x t from r); subst e; exact r9 P w x t
theorem pL {P:Program} {w:World}:∀ {ks:List Key} {us:List Value},Vals (ks.map kV) us → ItemsAre (cL P w) ks us
 | [],_,r => by rw [List.map_nil] at r; cases r; exact .nil
 | k :: ks,_,r => by
  rw [List.map_cons] at r
  cases r with
  | cons h t => exact .cons (vO h) (pL t)
noncomputable abbrev KT (H:Hp):List (List Key × V) → List (List Key × Addr × Value) → Prop:=Paired fun p q => p.1 = q.1 ∧ H q.2.1 = some (.tup (p.1.map kV)) ∧ RelV p.2 q.2.2
theorem KT.val {H:Hp} {aI:List (List Key × V)} {xs:List (List Key × Addr × Value)} (r:KT H aI xs) (k:List Key):kq (gN aI k) ((atKey xs k).map (·.2)):=by
 induction r with
 | nil => exact True.intro
 | @cons p q ps qs h t ih =>
  obtain ⟨h1,_,h2⟩:=h
  by_cases e:p.1 = k
  ·have e':q.1 = k:=h1.symm.trans e
   have b:atKey (q :: qs) k = some q.2:=by simp [atKey,List.find?_cons,e']
   rw [nr e,b]; exact h2
  ·have e':¬ q.1 = k:=fun z => e (h1.trans z)
   have b:atKey (q :: qs) k = atKey qs k:=by simp [atKey,List.find?_cons,e']
   rw [nu e,b]; exact ih
theorem KT.qJ {H:Hp} {aI:List (List Key × V)} {xs:List (List Key × Addr × Value)} (r:KT H aI xs) (k:List Key) {y:V} {u:Value} (ry:RelV y u) :
  KT H (aI.map fun kv => if kv.1 = k then (kv.1,y) else kv) (xs.map (putAt k u)):=by
 induction r with
 | nil => exact .nil
 | @cons p q ps qs h t ih =>
  rw [List.map_cons,List.map_cons]
  refine .cons ?_ ih
  obtain ⟨h1,h2,h3⟩:=h
  unfold putAt
  by_cases e:p.1 = k
  ·rw [if_pos e,if_pos (h1.symm.trans e)]; exact ⟨h1,h2,ry⟩
  ·rw [if_neg e,if_neg (fun z => e (h1.trans z))]; exact ⟨h1,h2,h3⟩
theorem KT.put {H:Hp} {aI:List (List Key × V)} {xs:List (List Key × Addr × Value)} (r:KT H aI xs) (k:List Key) {b:Addr} {y:V} {u:Value} (hb:H b = some (.tup (k.map kV))) (ry:RelV y u) :
  KT H (putK aI k y) (storedH xs k b u):=by
 have e:(aI.any fun kv => decide (kv.1 = k)) = (atKey xs k).isSome:=by
  rw [si,(r.val k).w6,Option.isSome_map]
 unfold putK storedH
 rw [e]
 by_cases q:(atKey xs k).isSome = true
 ·rw [if_pos q,if_pos q]; exact r.qJ k ry
 ·rw [if_neg q,if_neg q]; exact Paired.snoc r ⟨rfl,hb,ry⟩
theorem KT.keeps {H H':Hp} {aI:List (List Key × V)} {xs:List (List Key × Addr × Value)} (r:KT H aI xs) (ht:∀ b ys,H b = some (.tup ys) → H' b = some (.tup ys)):KT H' aI xs :=
 Paired.EU r fun _ _ z => ⟨z.1,ht _ _ z.2.1,z.2.2⟩
section
variable {P:Program} {w:World} {H:Hp} {h:Heap} {a:Addr}
theorem D_ {u:HO} (ok:fQ P w H h) (e:Rd H a u):bL P w H h a u:=e.ok ok
theorem sj {aI:List (Key × V)} (ok:fQ P w H h) (e:Rd H a (.dK aI)):aI.length ≤ sizeLine ∧ (a == sysModules) = false ∧ ∃ vs,KV aI vs ∧ h.DictOf (cL P w) a vs :=
 show bL P w H h a (.dK aI) from D_ ok e
theorem IT {aI:List (Key × V)} (ok:fQ P w H h) (e:H a = some (.dK aI)):aI.length ≤ sizeLine ∧ (a == sysModules) = false ∧ ∃ vs,KV aI vs ∧ h.DictOf (cL P w) a vs:=sj ok (.inl e)
theorem qK {ks:List Key} (ok:fQ P w H h) (e:H a = some (.tup (ks.map kV))):(tupleKind (cL P w)).is h ks a:=by
 obtain ⟨_,aE,r,o,h1,h2,n,h3⟩:=(show bL P w H h a (.tup (ks.map kV)) from ok a _ e)
 exact ⟨o,aE.toArray,n,h1,h2,h3,by simpa using pL r⟩
theorem sk {aI:List (List Key × V)} (ok:fQ P w H h) (e:Rd H a (.dT aI)):aI.length ≤ sizeLine ∧ (a == sysModules) = false ∧
  ∃ xs,KT H aI xs ∧ h.DictOfH (tupleKind (cL P w)) a xs:=by
 obtain ⟨z,y,xs,r,o,es,ep,h1,h2,h3,h4,h5⟩:=(show bL P w H h a (.dT aI) from D_ ok e)
 refine ⟨z,y,xs,r,o,es,ep,h1,h2,h3,h4,fun x hx => ?_,h5⟩
 have all:∀ {l:List (List Key × V)} {m:List (List Key × Addr × Value)},KT H l m → ∀ x ∈ m,(tupleKind (cL P w)).is h x.1 x.2.1:=by
  intro l m q
  induction q with
  | nil => intro x hx; exact nomatch hx
  | @cons p q ps qs hq t ih =>
   intro x hx
   rcases List.mem_cons.mp hx with e | hx
   ·subst e
    exact qK ok (by rw [← hq.1]; exact hq.2.1)
   ·exact ih x hx
 exact all r x hx
theorem IU {aI:List (List Key × V)} (ok:fQ P w H h) (e:H a = some (.dT aI)):aI.length ≤ sizeLine ∧ (a == sysModules) = false ∧
  ∃ xs,KT H aI xs ∧ h.DictOfH (tupleKind (cL P w)) a xs:=sk ok (.inl e)
end
noncomputable def mB (H:Hp) (a:Addr) (y:V) (r:Option V):Prop :=
 (∃ aI k,Rd H a (.dK aI) ∧ y = kV k ∧ r = gN aI k) ∨ ∃ aI k b,Rd H a (.dT aI) ∧ y = .ref b ∧ H b = some (.tup (k.map kV)) ∧ r = gN aI k
noncomputable def qL (H:Hp) (a:Addr) (y v:V) (H':Hp):Prop :=
 (∃ aI k,H a = some (.dK aI) ∧ y = kV k ∧ aI.length < sizeLine ∧ H' = upd H a (.dK (putK aI k v))) ∨
 ∃ aI k b,H a = some (.dT aI) ∧ y = .ref b ∧ H b = some (.tup (k.map kV)) ∧ aI.length < sizeLine ∧ H' = upd H a (.dT (putK aI k v))
theorem mB.k {H:Hp} {a:Addr} {aI:List (Key × V)} {k:Key} (e:H a = some (.dK aI)):mB H a (kV k) (gN aI k):=.inl ⟨aI,k,.inl e,rfl,rfl⟩
theorem mB.t {H:Hp} {a b:Addr} {aI:List (List Key × V)} {k:List Key} (e:H a = some (.dT aI)) (eb:H b = some (.tup (k.map kV))):mB H a (.ref b) (gN aI k):=.inr ⟨aI,k,b,.inl e,rfl,eb,rfl⟩
theorem qL.k {H:Hp} {a:Addr} {aI:List (Key × V)} {k:Key} {v:V} (e:H a = some (.dK aI)) (hl:aI.length < sizeLine):qL H a (kV k) v (upd H a (.dK (putK aI k v))):=.inl ⟨aI,k,e,rfl,hl,rfl⟩
theorem qL.t {H:Hp} {a b:Addr} {aI:List (List Key × V)} {k:List Key} {v:V} (e:H a = some (.dT aI)) (eb:H b = some (.tup (k.map kV))) (hl:aI.length < sizeLine) :
  qL H a (.ref b) v (upd H a (.dT (putK aI k v))):=.inr ⟨aI,k,b,e,rfl,eb,hl,rfl⟩
section
variable {X:Cx} {pins:List (Addr × Obj)} {σ:St} {H:Hp} {s:Shared} {a:Addr} {y v:V} {u r:Value} {o:Option V} {A:Around} {E:Value → Shared → Prop}
theorem Inv.big (I:Inv X pins σ H s):sysModules < s.heap.objs.size:=by
 have h:mainGlobals < s.heap.objs.size:=(I.mod.glob.keeps I.bk).lt
 exact Nat.lt_trans (by decide) h
theorem w9 {Q:Value → Shared → Prop} (hu:A.units + 1 < cLine) (I:Inv X pins σ H s) (g:mB H a y (some v)) (ry:RelV y u) (h:∀ w' s',Inv X pins σ H s' → RelV v w' → Q w' s') :
  wpAny (model X.prog X.w) A (getItem (.ref a) u) Q E s:=by
 rcases g with ⟨aI,k,e,ey,l⟩ | ⟨aI,k,b,e,ey,eb,l⟩
 ·subst ey
  obtain ⟨z,hd,vs,rel,dd⟩:=sj I.bz e
  obtain ⟨w',hw,qD⟩:=kq.some_of (v:=v) (o:=valueAt vs k) (by rw [l]; exact rel.val k)
  exact wpAny_getItem_of (vO ry) dd.mapOf hw (h w' _ (I.tok _) qD)
 ·subst ey
  cases (show u = Value.ref b from ry)
  obtain ⟨z,hd,xs,rel,dd⟩:=sk I.bz e
  obtain ⟨w',hw,qD⟩:=kq.some_of (v:=v) (o:=(atKey xs k).map (·.2)) (by rw [l]; exact rel.val k)
  obtain ⟨p,hp,Ea⟩:=Option.map_eq_some_iff.mp hw
  refine wpAny_getItem_heap (tupleKind_room_in1 hu) (qK I.bz eb) dd hp ?_
  rw [Ea]
  exact h w' _ (I.tok _) qD
theorem vP {h':Heap} {t':Nat} {ob:HO} (I:Inv X pins σ H s) (mu:Ia (H a)) (hs:Heap.SameBut a s.heap h') (he:∃ q,h'.get? a = some q) (new:bL X.prog X.w (upd H a ob) h' a ob) :
  Inv X pins σ (upd H a ob) { s with heap:=h',toks:=t' } :=
 I.write (x:=a) (e:=a) mu (.inl rfl) (fun b q hb z => (hs.2 b hb).trans z) he new
theorem FQ {P:Program} {w:World} {H':Hp} {h':Heap} {aI:List (Key × V)} {vs:List (Key × Value)} (z:aI.length ≤ sizeLine) (hd:(a == sysModules) = false) (rel:KV aI vs) (dd:h'.DictOf (cL P w) a vs) :
  bL P w H' h' a (.dK aI):=⟨z,hd,vs,rel,dd⟩
theorem w_ {H':Hp} {Q:Unit → Shared → Prop} (hu:A.units + 1 < cLine) (I:Inv X pins σ H s) (g:qL H a y v H') (ry:RelV y u) (rv:RelV v r) (h:∀ s',Inv X pins σ H' s' → Q () s') :
  wpAny (model X.prog X.w) A (setItem (.ref a) u r) Q E s:=by
 rcases g with ⟨aI,k,e,ey,l,eH⟩ | ⟨aI,k,b,e,ey,eb,l,eH⟩
 ·subst ey eH
  obtain ⟨z,hd,vs,rel,dd⟩:=IT I.bz e
  have hz:vs.length ≤ sizeLine:=by rw [← rel.length]; exact z
  have hl:(putK aI k v).length ≤ sizeLine:=by have:=lN aI k v; lia
  refine wpAny_setItem_pairs (hsz:=hz) (vO ry) dd fun h' K5 hs => h _ ?_
  have he:∃ q,h'.get? a = some q:=let ⟨q,_,_,hq,_⟩:=K5; ⟨q,hq⟩
  exact vP I (by rw [e]; exact True.intro) hs he (FQ hl hd (rel.put k rv) K5)
 ·subst ey eH
  cases (show u = Value.ref b from ry)
  obtain ⟨z,hd,xs,rel,dd⟩:=IU I.bz e
  have hz:xs.length ≤ sizeLine:=by rw [← Paired.length rel]; exact z
  have hl:(putK aI k v).length ≤ sizeLine:=by have:=lN aI k v; lia
  refine wpAny_setItem_heap (hsz:=hz) (tupleKind_room_in1 hu) (qK I.bz eb) dd fun h' K5 hs => h _ ?_
  obtain ⟨q,es,ep,hq,h2,h3,h4,_,h5⟩:=K5
  refine vP I (by rw [e]; exact True.intro) hs ⟨q,hq⟩ ⟨hl,hd,_,(rel.put k eb rv).keeps fun c ys ec => ?_,q,es,ep,hq,h2,h3,h4,h5⟩
  rw [aD (H_ ec e (fun z => nomatch z))]
  exact ec
end
section
variable {X:Cx} {pins:List (Addr × Obj)} {σ:St} {H:Hp} {s:Shared} {a:Addr} {aI:List (Key × V)} {k:Key} {u:Value} {A:Around} {E:Value → Shared → Prop}
end
noncomputable def FR (i:Expr):Prop:=∀ ov iv,subscripted i false ov iv = operate [ov,iv] (getItem ov iv)
theorem Cd {prog:Program} {w:World} {A:Around} {E:Value → Shared → Prop} {s:Shared} {env:Env} {value slice:Expr} {pos:Pos} {T id:String} {Q:Value → Shared → Prop}
  (hl:typeLookup (.type T) "__getitem__" = pure (some (.builtin id))) (hs:FR slice)
  (h:wpAny (model prog w) A (eval value env) (fun o s₁ => wpAny (model prog w) A (eval slice env) (fun i s₂ => s₂.TypeIs o T ∧ wpAny (model prog w) A (getItem o i) Q E s₂) E s₁) E s) :
  wpAny (model prog w) A (eval (.Subscript value slice pos) env) Q E s:=by
 refine Subscript_ (wpAny_mono h (fun o s₁ h₁ => wpAny_mono h₁ (fun i s₂ h₂ => ?_) fun _ _ x => x) fun _ _ x => x)
 obtain ⟨hT,h₂⟩:=h₂
 unfold subscriptTail
 refine wpAny_bind ?_
 rw [getitemInPython_of_ne hT.not_modules]
 refine wpAny_bind (wpAny_specialOf hT hl ?_)
 have fin:wpAny (model prog w) A (subscripted slice false o i) (fun r s₃ => wpAny (model prog w) A (letTemporaryGo value o r >>= fun _ => pure r) Q E s₃) E s₂:=by
  rw [hs o i]
  exact wpAny_operating (wpAny_mono h₂ (fun r s₃ h₃ => wpAny_bind (wpAny_letTemporaryGo (wpAny_pure h₃))) fun _ _ x => x)
 first
  | exact wpAny_pure (wpAny_bind fin)
  | exact wpAny_bind (wpAny_pure (wpAny_bind fin))
  | exact wpAny_bind fin
theorem sm {X:Cx} {pins:List (Addr × Obj)} {σ:St} {H:Hp} {s:Shared} {a:Addr} {y:V} {o:Option V} (I:Inv X pins σ H s) (g:mB H a y o):s.TypeIs (.ref a) "dict":=by
 rcases g with ⟨aI,k,e,_,_⟩ | ⟨aI,k,b,e,_,_,_⟩
 ·obtain ⟨_,_,vs,_,dd⟩:=sj I.bz e
  exact dd.typeIs
 ·obtain ⟨_,_,xs,_,dd⟩:=sk I.bz e
  exact dd.typeIs
noncomputable def IV (td ty:TE):TE:=fun σ H Q => td σ H fun x H1 => ty σ H1 fun y H2 => ∃ a v,x = .ref a ∧ mB H2 a y (some v) ∧ Q v H2
noncomputable def IW (td ty tv:TE):TS:=fun D σ H => tv σ H fun v H1 => td σ H1 fun x H2 => ty σ H2 fun y H3 => ∃ a H4,x = .ref a ∧ qL H3 a y v H4 ∧ D.nx σ H4
section
variable {X:Cx} {o i e value:Expr} {pos pos' Ft:Pos} {td ty tv:TE}
theorem Ce (hu:X.A.units + 1 < cLine) (ho:PE X o td) (hi:PE X i ty) (hs:FR i):PE X (.Subscript o i pos) (IV td ty):=by
 intro pins s σ H Q I h
 refine Cd PySem.F.slot_dict_getitem.lookup hs (cb (ho pins s σ H _ I h) fun u s1 ⟨x,H1,I1,rx,q1⟩ => cb (hi pins s1 σ H1 _ I1 q1) fun iv s2 ⟨y,H2,I2,ry,a,v,ex,g,q2⟩ => ?_)
 subst ex
 obtain rfl:u = Value.ref a:=rx
 exact ⟨sm I2 g,w9 hu I2 g ry fun w' s3 I3 qD => ⟨v,H2,I3,qD,q2⟩⟩
theorem Cf (hu:X.A.units + 1 < cLine) (ho:PE X o td) (hi:PE X i ty) (hv:PE X value tv) (hs:swapsWith value (some (.Subscript o i pos')) pos.line X.env = pure false) :
  PS X (.Assign [.Subscript o i pos'] value pos) (IW td ty tv):=by
 intro pins s σ H D I h
 refine wpAny_Assign_Subscript (cb (hv pins s σ H _ I h) fun r s1 ⟨v,H1,I1,rv,q1⟩ => cb (ho pins s1 σ H1 _ I1 q1) fun u s2 ⟨x,H2,I2,rx,q2⟩ => cb (hi pins s2 σ H2 _ I2 q2) fun iv s3 ⟨y,H3,I3,ry,a,H4,ex,g,q3⟩ => ?_) hs
 subst ex
 obtain rfl:u = Value.ref a:=rx
 exact w_ hu I3 g ry rv fun s4 I4 => ⟨σ,H4,I4,q3⟩
end
theorem yT {P:Program} {w:World} {H:Hp} (h:Heap) (hb:sysModules < h.objs.size):bL P w H (h.push { cls:=.type "dict",data:=.dict #[] }) h.objs.size (.dT []) :=
 ⟨Nat.zero_le _,beq_eq_false_iff_ne.mpr (Ne.symm (Nat.ne_of_lt hb)),[],.nil,_,#[],0,Heap.get?_push_size _ rfl,⟨rfl,rfl,rfl⟩,rfl,rfl,List.nodup_nil⟩
noncomputable def FT:TE:=fun _ H Q => ∀ p,H p = none → Q (.ref p) (upd H p (.dT []))
section
variable {X:Cx} {pos:Pos}
theorem yU:PE X (.Dict [] [] pos) FT:=fun pins s σ H Q I h =>
 wpAny_Dict_empty ⟨.ref s.heap.objs.size,_,I.laid (a:=s.heap.objs.size) (o:=.dT []) (t':=s.toks) (fun _ _ q => Heap.get?_push_of_some _ q) (Nat.le_refl _) (yT s.heap I.big),rfl,h _ (I.bz.fresh (Nat.le_refl _))⟩
end
structure M2 (X:Cx) (o:Expr) (m:Str) (apos:Pos) (e f:Expr) (cu:Pos):Prop where
 base:attributeBase o m X.env (eval o X.env) = eval o X.env
 IX:((backTo cu (starEach [e,f] X.env)).all (fun x => !x.1) && (backToKw cu (keywordEach [] X.env)).all (fun x => x.1.isSome)
  && decide (([e,f]:List Expr).length + ([]:List Keyword).length + (if ([]:List Keyword).isEmpty then 0 else 1) < 30)) = true
 line:(apos.endLine == cu.line) = true
 trees:backTo cu (starEach [e,f] X.env) = [(false,eval e X.env),(false,eval f X.env)]
noncomputable def K6 (H:Hp) (a:Addr):Prop:=(∃ aI,Rd H a (.dK aI)) ∨ ∃ aI,Rd H a (.dT aI)
theorem FU {X:Cx} {pins:List (Addr × Obj)} {σ:St} {H:Hp} {s:Shared} {a:Addr} (I:Inv X pins σ H s) (d:K6 H a) :
  s.TypeIs (.ref a) "dict" ∧ (∀ b,Value.ref a = .ref b → ∃ ob,s.heap.get? b = some ob ∧ ob.dict = none) ∧ (a == sysModules) = false:=by
 rcases d with ⟨aI,e⟩ | ⟨aI,e⟩
 ·obtain ⟨_,hd,vs,_,dd⟩:=sj I.bz e
  refine ⟨dd.typeIs,fun b q => ?_,hd⟩
  cases q
  obtain ⟨ob,_,_,h1,h2,_⟩:=dd
  exact ⟨ob,h1,h2.2.1⟩
 ·obtain ⟨_,hd,xs,_,dd⟩:=sk I.bz e
  refine ⟨dd.typeIs,fun b q => ?_,hd⟩
  cases q
  obtain ⟨ob,_,_,h1,h2,_⟩:=dd
  exact ⟨ob,h1,h2.2.1⟩
section
variable {X:Cx} {pins:List (Addr × Obj)} {σ:St} {H:Hp} {s:Shared} {a:Addr} {y d:V} {u r:Value} {o:Option V} {A:Around} {E:Value → Shared → Prop}
theorem FV {Q:Value → Shared → Prop} (hu:A.units + 1 < cLine) (I:Inv X pins σ H s) (g:mB H a y o) (ry:RelV y u) (rd:RelV d r) (h:∀ w' s',Inv X pins σ H s' → RelV (o.getD d) w' → Q w' s') :
  wpAny (model X.prog X.w) A (call (.builtin "dict.get") [.ref a,u,r]) Q E s:=by
 rcases g with ⟨aI,k,e,ey,l⟩ | ⟨aI,k,b,e,ey,eb,l⟩
 ·subst ey
  obtain ⟨z,hd,vs,rel,dd⟩:=sj I.bz e
  refine call_meetsIn PySem.F.slot_dict_get dd.typeIs PySem.F.entry_dict_get (PySem.F.args_dict_get_3 _ _ _) (meets_dict_get_default (cL X.prog X.w) a (vO ry) hd r) ⟨_,dd.mapOf,h _ _ (I.tok _) ?_⟩
  rw [l]
  exact (rel.val k).getD rd
 ·subst ey
  cases (show u = Value.ref b from ry)
  obtain ⟨z,hd,xs,rel,dd⟩:=sk I.bz e
  refine call_meetsIn PySem.F.slot_dict_get dd.typeIs PySem.F.entry_dict_get (PySem.F.args_dict_get_3 _ _ _) (meetsH_dict_get_default (tupleKind (cL X.prog X.w)) a b hd r) ⟨tupleKind_room_in1 hu,k,xs,qK I.bz eb,dd,h _ _ (I.tok _) ?_⟩
  rw [l]
  exact (rel.val k).getD rd
end
noncomputable def FW (td ty tx:TE):TE:=fun σ H Q => td σ H fun x H1 => ∃ a,x = .ref a ∧ K6 H1 a ∧ ty σ H1 fun y H2 => tx σ H2 fun z H3 => ∃ o,mB H3 a y o ∧ Q (o.getD z) H3
section
variable {X:Cx} {o e f:Expr} {apos cu:Pos} {td ty tx:TE}
theorem yV (hu:X.A.units + 1 < cLine) (ho:PE X o td) (he:PE X e ty) (hf:PE X f tx) (m:M2 X o "get" apos e f cu):PE X (.Call (.Attribute o "get" apos) [e,f] [] cu) (FW td ty tx):=by
 intro pins s σ H Q I h
 refine wpAny_Call_method m.base m.IX m.line PySem.F.plainAttrs_dict PySem.F.slot_dict_get PySem.F.type_dict_get (cb (ho pins s σ H _ I h) fun u s1 ⟨x,H1,I1,rx,a,ex,d,q1⟩ => ?_)
 subst ex
 obtain rfl:u = Value.ref a:=rx
 obtain ⟨t1,t2,_⟩:=FU I1 d
 refine ⟨t1,t2,?_⟩
 rw [m.trees]
 refine Calls.callWith_builtin rfl (Calls.evalArgs_plain (Calls.spliced_cons (cb (he pins s1 σ H1 _ I1 q1) fun iv s2 ⟨y,H2,I2,ry,q2⟩ =>
  Calls.spliced_cons (cb (hf pins s2 σ H2 _ I2 q2) fun fv s3 ⟨z,H3,I3,rz,ov,g,q3⟩ => Calls.spliced_nil ?_))))
 exact FV hu I3 g ry rz fun w' s4 I4 qD => ⟨_,H3,I4,qD,q3⟩
end
section
variable {X:Cx} {pins:List (Addr × Obj)} {σ:St} {H:Hp} {s:Shared} {a:Addr} {aI:List (Key × V)} {A:Around} {E:Value → Shared → Prop}
end
section
variable {X:Cx} {pins:List (Addr × Obj)} {σ:St} {H:Hp} {s:Shared} {a:Addr} {y:V} {u:Value} {A:Around} {E:Value → Shared → Prop}
end
section
variable {κ:Type} [DecidableEq κ]
end
end L2
namespace L2
open PySem PySem.Spec PyProof.Rows
theorem jd.upd {H H':Hp} {p:Addr} {o:HO} (e:jd H H') (h:H' p = none):jd H (upd H' p o):=fun b u q => by
 rw [aD (bo (e b u q) h)]
 exact e b u q
noncomputable def rW (k:Nat) (i:Int):Prop:=i.natAbs < 2 ^ k
theorem rW.bits {k:Nat} {i:Int} (h:rW k i):Builtin.Int.intBits i ≤ k:=by
 unfold Builtin.Int.intBits
 by_cases hz:(i == 0) = true
 ·rw [if_pos hz]; exact Nat.zero_le _
 ·rw [if_neg hz]
  have h0:i.natAbs ≠ 0:=by
   intro e
   apply hz
   have:i = 0:=Int.natAbs_eq_zero.mp e
   simp [this]
  have:=(Nat.log2_lt h0).mpr h
  lia
theorem rW.small {k:Nat} {i:Int} (hk:10 ≤ k) (h0:-1000 < i) (h1:i < 1000):rW k i:=by
 show i.natAbs < 2 ^ k
 have:2 ^ 10 ≤ 2 ^ k:=Nat.pow_le_pow_right (by decide) hk
 lia
noncomputable def vQ (i j:Int):Prop:=∃ a b,rW a i ∧ rW b j ∧ a ≤ 2 ^ 20 ∧ b ≤ 2 ^ 20
theorem vQ.ok {i j:Int} (h:vQ i j):IntMulOk i j:=by
 obtain ⟨a,b,h1,h2,h3,h4⟩:=h
 exact IntMulOk.of_bits (Nat.le_trans h1.bits h3) (Nat.le_trans h2.bits h4)
noncomputable def vR (i j:Int):Prop:=j ≠ 0 ∧ rW 9000 j
theorem vR.ok {i j:Int} (h:vR i j):Builtin.divisionGoesByPylong i j = false :=
 PyProof.noPylong_of_log2 ((Nat.log2_lt (by intro e; exact h.1 (Int.natAbs_eq_zero.mp e))).mpr h.2)
section
variable {X:Cx}
theorem Cg:dz X (binaryOp .Mult) (rI vQ fun i j => .int (i * j)):=Iy fun _ _ _ _ _ _ _ hc q => PyProof.Rows.mul_int q hc.ok
theorem yW:dz X (binaryOp .FloorDiv) (rI vR fun i j => .int (i.fdiv j)):=Iy fun _ _ _ _ _ _ _ hc q => floordiv_int hc.1 q (.inl hc.ok)
end
end L2
namespace L2
open PySem PySem.Spec PyProof.Rows
theorem qM {prog:Program} {w:World} {A:Around} {s:Shared} {elt target iter:Expr} {ifs:List Expr} {scope:Scope} {pos:Pos} {it acc:Value} {env:Env} {R:Result → Shared → Prop} (I:Nat → Shared → Prop)
  (turn:∀ n s,I n s → wpAny (model prog w) A (pyNext it) (fun r s₁ => match r with
   | none => R (.ok .next) s₁
   | some v => wpAny (model prog w) A (letOwnedTupleGo target it v) (fun _ Eb => wpAny (model prog w) A (assign target env v) (fun _ s₂ =>
     wpAny (model prog w) A (forIn ifs true fun c r => if r = true then do let ok ← isTrue c env (eval c env); pure (ForInStep.yield ok) else pure (ForInStep.yield r)) (fun ok s₃ =>
      if ok = true then wpAny (model prog w) A (eval elt env) (fun x s₄ =>
       wpAny (model prog w) A (call (.builtin "list.append") [acc,x]) (fun _ s₅ => ∃ m,m < n ∧ I m s₅) (fun _ _ => False) s₄) (fun _ _ => False) s₃
      else ∃ m,m < n ∧ I m s₃) (fun _ _ => False) s₂) (fun _ _ => False) Eb) (fun _ _ => False) s₁) (fun _ _ => False) s)
  (n:Nat) (h:I n s):codeAny (model prog w) A (.compLoop (.ListComp elt [⟨target,iter,ifs,0⟩] scope pos) 0 it acc env) R s:=by
 refine codeAny_loop rfl I (fun n s hI => ?_) n h
 show wpAny _ A ((compTurn (.ListComp elt [⟨target,iter,ifs,0⟩] scope pos) 0 it acc env).onRaise (fun x => do noteFrame x env; theTreesLotGoes x)) _ _ s
 refine wpAny_noted ?_
 rw [compTurn_list]
 refine wpAny_bind (wpAny_standAt (wpAny_bind (wpAny_mono (turn n s hI) (fun r s₁ h₁ => ?_) fun _ _ h' => h'.elim)))
 cases r with
 | none => exact wpAny_pure h₁
 | some v =>
  refine wpAny_bind (wpAny_mono h₁ (fun _ Eb IY => ?_) fun _ _ h' => h'.elim)
  refine wpAny_bind (wpAny_mono IY (fun _ s₂ h₂ => wpAny_bind (wpAny_mono h₂ (fun ok s₃ h₃ => ?_) fun _ _ h' => h'.elim)) fun _ _ h' => h'.elim)
  cases ok with
  | false => exact wpAny_pure ⟨rfl,h₃⟩
  | true => exact wpAny_bind (wpAny_bind (wpAny_mono h₃ (fun x s₄ h₄ => wpAny_bind (wpAny_mono h₄ (fun _ s₅ h₅ => wpAny_pure (wpAny_pure ⟨rfl,h₅⟩)) fun _ _ h' => h'.elim)) fun _ _ h' => h'.elim))
noncomputable def Bz (X:Cx) (ifs:List Expr) (t:TT):Prop :=
 ∀ (pins:List (Addr × Obj)) (s:Shared) (σ:St) (H:Hp) (Q:Bool → Hp → Prop),Inv X pins σ H s → t σ H Q →
  wpAny (model X.prog X.w) X.A (forIn ifs true fun c r => if r = true then do let ok ← isTrue c X.env (eval c X.env); pure (ForInStep.yield ok) else pure (ForInStep.yield r)) (TP X pins σ Q) X.xe s
noncomputable def IZ:TT:=fun _ H Q => Q true H
theorem Ci {X:Cx}:Bz X [] IZ:=fun _ _ _ H _ I h => wpAny_tests_nil ⟨H,I,h⟩
theorem Cj {X:Cx} {c:Expr} {t:TT} (h:PT X c t):Bz X [c] t:=fun pins s σ H Q I hw => wpAny_tests_one (h pins s σ H Q I hw)
theorem fQ.I_ {P:Program} {w:World} {H:Hp} {h:Heap} {a:Addr} {o:HO} (x:fQ P w H h) (hn:H a = none) (new:bL P w (upd H a o) h a o):fQ P w (upd H a o) h:=fun b u e => by
 by_cases hb:b = a
 ·subst hb; rw [aZ] at e; cases e; exact new
 ·rw [aD hb] at e
  exact (x b u e).iT (fun c v _ q => q) (fun c q => by rw [aD (bo q hn)]; exact q) fun c xs q => by rw [aD (bo q hn)]; exact q
noncomputable def oW (X:Cx) (N:List Str) (scope:Scope) (cl:List (Str × Addr)) (C:Addr) (fp:List Addr) (s:Shared) (H:Hp):Cx :=
 { X with N:=N,s₀:=s,H₀:=H,env:=compEnvC scope cl C X.env,outer:=X.stack,stack:=X.stack,ex:=fp,fn:=fun _ => false,pn:=[],xe:=fun _ _ => False }
noncomputable def mD (k:Nat) (caps:List Nat) (σ:St):St:=List.replicate k none ++ caps.map fun j => (σ[j]?).getD none
structure sq (X:Cx) (N:List Str) (scope:Scope) (cl:List (Str × Addr)) (k:Nat) (caps:List Nat):Prop where
 su:closureFor scope X.env = pure cl
 sub:∀ x c,cl.lookup x = some c → X.env.cells.lookup x = some c
 has:∀ x,((relabel scope X.env).names.lookup x = some .cell ∨ (relabel scope X.env).names.lookup x = some .free) → ∃ c,cl.lookup x = some c
 fJ:∀ x ∈ scope.names,x.2 ≠ .cell
 kind:scope.kind = .function
 names:∀ x ∈ scope.names,x.2 = .local → scope.names.lookup x.1 = some .local
 len:N.length = k + caps.length
 at_:∀ i j x,caps[i]? = some j → N[k + i]? = some x → X.N[j]? = some x ∧ (X.env.kindOf x = some .cell ∨ X.env.kindOf x = some .free) ∧ ((relabel scope X.env).names.lookup x = some .cell ∨ (relabel scope X.env).names.lookup x = some .free)
noncomputable def sv (J:It) (k:Nat) (caps:List Nat) (g:TG) (tt:TT) (te:TE) (σ:St) (H1:Hp) (Q:VK):Prop :=
 ∃ W:Nat → Nat → List V → St → Hp → Prop,(∃ m,W 0 m [] (mD k caps σ) H1) ∧ ∀ i m ys τ H,W i m ys τ H →
  (J.stop i H ∧ ys.length ≤ sizeLine ∧ ∀ p,H p = none → Q (.ref p) (upd H p (.lst ys))) ∨
  (J.go i H ∧ ys.length < sizeLine ∧ ∀ x H',J.Ip i H x H' → g x τ H' fun τ2 H2 => tt τ2 H2 fun b H3 => if b = true then te τ2 H3 fun y H4 => ∃ m',m' < m ∧ W (i + 1) m' (ys ++ [y]) τ2 H4 else ∃ m',m' < m ∧ W (i + 1) m' ys τ2 H3)
@[irreducible] def nv (k:Nat) (caps:List Nat) (wi:TI) (g:TG) (tt:TT) (te:TE):TE:=fun σ H Q => wi σ H fun J H1 => sv J k caps g tt te σ H1 Q
theorem yX {k:Nat} {caps:List Nat} {wi:TI} {g:TG} {tt:TT} {te:TE} {σ:St} {H:Hp} {Q:VK} (h:wi σ H fun J H1 => sv J k caps g tt te σ H1 Q):nv k caps wi g tt te σ H Q:=by
 unfold nv
 exact h
theorem pM {k:Nat} {caps:List Nat} {wi:TI} {g:TG} {tt:TT} {te:TE} {σ:St} {H:Hp} {Q:VK} (h:nv k caps wi g tt te σ H Q):wi σ H fun J H1 => sv J k caps g tt te σ H1 Q:=by
 unfold nv at h
 exact h
section
variable {X:Cx} {pins:List (Addr × Obj)} {σ:St} {H:Hp} {s:Shared}
theorem Ck {k:Nat} {caps:List Nat} {σ:St} {i:Nat} {v:V} (h:(mD k caps σ)[i]? = some (some v)):∃ j,k ≤ i ∧ caps[i - k]? = some j ∧ σ[j]? = some (some v):=by
 unfold mD at h
 by_cases hi:i < k
 ·rw [List.getElem?_append_left (by simpa using hi),List.getElem?_replicate] at h
  split at h <;> cases h
 ·rw [List.getElem?_append_right (by simpa using Nat.le_of_not_lt hi),List.length_replicate,List.getElem?_map] at h
  cases e:caps[i - k]? with
  | none => rw [e] at h; cases h
  | some j =>
   rw [e] at h
   refine ⟨j,Nat.le_of_not_lt hi,rfl,?_⟩
   have h':(σ[j]?).getD none = some v:=by simpa using h
   cases q:σ[j]? with
   | none => rw [q] at h'; cases h'
   | some o => rw [q] at h'; exact congrArg some h'
theorem Inv.block {N:List Str} {scope:Scope} {cl:List (Str × Addr)} {k:Nat} {caps:List Nat} {fp:List Addr} {C:Addr} {h':Heap} {t':Nat} {m':Str → Option Value}
  (I:Inv X pins σ H s) (B:sq X N scope cl k caps) (hf:∀ b ∈ fp,iU X pins H b) (hC:s.heap.objs.size ≤ C) (Ja:∀ b ∈ fp,∃ o,s.heap.get? b = some o)
  (kp:∀ b o,s.heap.get? b = some o → h'.get? b = some o) (ns:h'.Ns C m'):Inv (oW X N scope cl C fp s H) [] (mD k caps σ) H { s with heap:=h',toks:=t' }:=by
 have below:∀ {b:Addr} {o:Obj},s.heap.get? b = some o → b ≠ C:=fun e => Nat.ne_of_lt (Nat.lt_of_lt_of_le (Heap.lt_size e) hC)
 have Jb:∀ x c,cl.lookup x = some c → ∃ v,s.heap.IsCell c v:=fun x c e => I.cell x c (B.sub x c e)
 refine ⟨⟨I.ok.mod,?_,I.ok.glob,I.ok.blt,hC,fun x y c h1 h2 => I.ok.inj x y c (B.sub x c h1) (B.sub y c h2),fun x hx => B.has x hx,fun x c h1 _ => ?_,I.ok.hd,I.ok.frames,.inl rfl,fun b hb => ⟨?_,fun x c e => ?_⟩,I.bs,Nat.le_trans I.ok.yw I.sz,fun b o e hb => ?_,fun b hb => ?_,I.stack,I.qw⟩,
  rfl,I.bare,Un.kept kp,⟨m',ns,fun i x v h1 h2 h3 => ?_⟩,fun x c e => ?_,?_,fun x c e => I.fH x c (B.sub x c e),fun p hp => absurd (show p ∈ ([]:List (Addr × Obj)) from hp) (by simp),I.bz.kept kp,?_⟩
 ·exact B.kind
 ·exact absurd h1 (by simp [oW])
 ·obtain ⟨o,e⟩:=Ja b hb
  exact below e
 ·exact (hf b hb).2.2.2.2.1 x c (B.sub x c e)
 ·obtain ⟨_,_,_,h4,_⟩:=hf b hb
  rcases h4 with z | z
  ·exact I.ok.uz b o e z
  ·exact absurd (Nat.lt_of_lt_of_le (Heap.lt_size (I.ok.bs b o e).1) z) (Nat.lt_irrefl _)
 ·intro z
  rcases List.mem_cons.mp (I.ku b z) with e | e
  ·exact (hf b hb).2.1 e
  ·exact (hf b hb).2.2.1 e
 ·obtain ⟨j,hk,hj,hσ⟩:=Ck h2
  have hN:N[k + (i - k)]? = some x:=by rw [Nat.add_sub_cancel' hk]; exact h1
  obtain ⟨a1,a2,a3⟩:=B.at_ (i - k) j x hj hN
  obtain ⟨m,hn,hl⟩:=I.loc
  have S2:EW X.env.scope x:=by
   rcases a2 with z | z
   ·exact .inr (.inl z)
   ·exact .inr (.inr z)
  obtain ⟨u,r,l⟩:=hl j x v a1 hσ S2
  refine ⟨u,r,.inr ⟨a3,?_⟩⟩
  rcases l with ⟨z,_⟩ | ⟨_,c,e,cc⟩
  ·rcases a2 with y | y <;> (rw [z] at y; cases y)
  ·obtain ⟨c',e'⟩:=B.has x a3
   have:X.env.cells.lookup x = some c':=B.sub x c' e'
   rw [e] at this
   cases this
   obtain ⟨o,ho,hd⟩:=cc
   exact ⟨c,e',o,kp c o ho,hd⟩
 ·obtain ⟨v,o,ho,hd⟩:=Jb x c e
  exact ⟨v,o,kp c o ho,hd⟩
 ·exact I.bz.fresh hC
 ·show (mD k caps σ).length = N.length
  unfold mD
  rw [List.length_append,List.length_replicate,List.length_map,B.len]
noncomputable def yY (X:Cx) (pins:List (Addr × Obj)) (σ:St) (s:Shared) (Q:VK) (acc:Value) (C:Addr) (s':Shared):Prop :=
 ∃ D H',acc = .ref D ∧ s.heap.objs.size ≤ C ∧ Inv X pins σ H' s' ∧ H' C = none ∧ (∃ m,s'.heap.Ns C m) ∧ Q (.ref D) H'
theorem pN {tg elt iter:Expr} {ifs:List Expr} {scope:Scope} {pos:Pos} {N:List Str} {cl:List (Str × Addr)} {k:Nat} {caps:List Nat} {g:TG} {tt:TT} {te:TE} {it:Addr} {fp:List Addr} {tn:Nat → Heap → Prop} {J:It} {Q:VK} {RR:Value → Addr → Result → Shared → Prop} {E:Value → Shared → Prop}
  (hc:X.calm = true) (B:sq X N scope cl k caps) (hg:∀ C fp s H,PG (oW X N scope cl C fp s H) tg g) (hi:∀ C fp s H,Bz (oW X N scope cl C fp s H) ifs tt) (he:∀ C fp s H,PE (oW X N scope cl C fp s H) elt te)
  (I:Inv X pins σ H s) (T:Turn X.prog X.w X.K tg J fp it tn) (st:tn 0 s.heap) (hf:∀ b ∈ fp,iU X pins H b)
  (h:sv J k caps g tt te σ H Q)
  (S3:∀ acc C s',yY X pins σ s Q acc C s' → RR acc C (.ok .next) s') :
  wpAny (model X.prog X.w) X.A (newList []) (fun acc s₃ => wpAny (model X.prog X.w) X.A (newFunctionEnv scope X.env.globals cl [] X.env.qual none .none (some X.env)) (fun Jc s₄ =>
   codeAny (model X.prog X.w) X.A (.compStart (.ListComp elt [⟨tg,iter,ifs,0⟩] scope pos) 0 (.ref it) acc { Jc with scope:=relabel scope X.env }) (RR acc Jc.locals) s₄) E s₃) E s:=by
 obtain ⟨W,⟨m0,w0⟩,turn⟩:=h
 refine wpAny_newObj_type (wpAny_newFunctionEnv B.fJ (by intro y hy; simp at hy) (fun h₁ uI qN => ?_) B.kind)
 dsimp only at uI qN ⊢
 generalize MG:s.heap.push { cls:=.type "list",dict:=none,data:=.seq ([]:List Value).toArray } = H2 at uI qN ⊢
 have hC:H2.objs.size = s.heap.objs.size + 1:=by rw [← MG,Heap.size_push]
 have K7:s.heap.objs.size ≤ H2.objs.size:=by rw [hC]; exact Nat.le_succ _
 have K8:s.heap.objs.size ≠ H2.objs.size:=by rw [hC]; exact Nat.ne_of_lt (Nat.lt_succ_self _)
 have old:∀ b o,s.heap.get? b = some o → h₁.get? b = some o:=fun b o e => qN.extBut b o (Nat.ne_of_lt (Nat.lt_of_lt_of_le (Heap.lt_size e) K7)) (Heap.get?_push_of_some _ (MG ▸ Heap.get?_push_of_some _ e))
 have FX:h₁.get? s.heap.objs.size = some { cls:=.type "list",data:=.seq ([]:List Value).toArray 0 }:=qN.extBut _ _ K8 (Heap.get?_push_of_some _ (MG ▸ Heap.get?_push_size _ rfl))
 have MJ:=T.obj 0 _ st
 have Ja:∀ b ∈ fp,∃ o,s.heap.get? b = some o:=fun b hb => let ⟨o,e,_⟩:=MJ b hb; ⟨o,e⟩
 have Q9:∀ b ∈ fp,b ≠ s.heap.objs.size:=fun b hb z => by
  obtain ⟨o,e⟩:=Ja b hb
  exact absurd (Heap.lt_size e) (by rw [z]; exact Nat.lt_irrefl _)
 have S4:H s.heap.objs.size = none:=I.bz.fresh (Nat.le_refl _)
 have Ec:tn 0 h₁:=T.keep 0 _ _ st fun b _ o e => old b o e
 have Jd:∀ x c,cl.lookup x = some c → c ≠ s.heap.objs.size:=fun x c e z => by
  obtain ⟨v,o,ho,_⟩:=I.cell x c (B.sub x c e)
  exact absurd (Heap.lt_size ho) (by rw [z]; exact Nat.lt_irrefl _)
 have MK:∀ b ∈ fw X.stack,b ≠ s.heap.objs.size:=fun b hb z => by
  obtain ⟨_,o,ho,_⟩:=I.stack.mem hb
  exact absurd (Heap.lt_size ho) (by rw [z]; exact Nat.lt_irrefl _)
 have loop:∀ s₃:Shared,s₃ = { s with heap:=h₁,toks:=s.toks + ([]:List (Str × Value)).length } →
   codeAny (model X.prog X.w) X.A (.compLoop (.ListComp elt [⟨tg,iter,ifs,0⟩] scope pos) 0 (.ref it) (.ref s.heap.objs.size) (compEnvC scope cl H2.objs.size X.env)) (RR (.ref s.heap.objs.size) H2.objs.size) s₃:=by
  rintro s₃ rfl
  generalize ur:oW X N scope cl H2.objs.size fp s H = XB
  have eP:XB.prog = X.prog:=by rw [← ur]; rfl
  have eW:XB.w = X.w:=by rw [← ur]; rfl
  have eK:XB.K = X.K:=by rw [← ur]; rfl
  have eA:XB.A = X.A:=by rw [← ur]; rfl
  have eE:XB.env = compEnvC scope cl H2.objs.size X.env:=by rw [← ur]; rfl
  have eL:XB.env.locals = H2.objs.size:=by rw [eE]; rfl
  have eF:XB.fs = fw X.stack:=by rw [← ur]; rfl
  have eX:XB.ex = fp:=by rw [← ur]; rfl
  have eN:XB.pn = []:=by rw [← ur]; rfl
  have e0:XB.s₀ = s:=by rw [← ur]; rfl
  have eC:XB.calm = true:=by rw [← ur]; exact hc
  have Q_:XB.env.cells = cl:=by rw [eE]; rfl
  have ML:XB.xe = fun _ _ => False:=by rw [← ur]; rfl
  have oX:PG XB tg g:=by rw [← ur]; exact hg _ _ _ _
  have yZ:Bz XB ifs tt:=by rw [← ur]; exact hi _ _ _ _
  have S5:PE XB elt te:=by rw [← ur]; exact he _ _ _ _
  have I0:Inv XB [] (mD k caps σ) H { s with heap:=h₁,toks:=s.toks + ([]:List (Str × Value)).length }:=by rw [← ur]; exact I.block B hf K7 Ja old uI
  -- HD Ed pinned
  have MM:∀ {τ:St} {H':Hp} {s':Shared} {aE:List Value} {nn:Nat},Inv XB [] τ H' s' → s'.heap.get? s.heap.objs.size = some { cls:=.type "list",data:=.seq aE.toArray nn } → H' s.heap.objs.size = none →
    Inv XB [(s.heap.objs.size,{ cls:=.type "list",data:=.seq aE.toArray nn })] τ H' s':=fun {τ H' s' aE nn} J hd hn => J.jy fun p hp => by
   obtain rfl:p = _:=List.mem_singleton.mp hp
   refine ⟨hd,hn,by rw [eL]; exact K8,by rw [eF]; exact fun z => MK _ z rfl,fun v z => ?_⟩
   have z':Data.seq aE.toArray nn = Data.cell v:=z
   cases z'
  have uC:∀ {H':Hp} {o:Obj},(∀ b ∈ fp,H' b = none) → ∀ b ∈ fp,iU XB [(s.heap.objs.size,o)] H' b:=fun {H' o} hn b hb => by
   obtain ⟨_,f1,f2,f3,f4,f5⟩:=hf b hb
   refine ⟨hn b hb,?_,?_,.inl (by rw [eX]; exact hb),fun x c e => f4 x c (B.sub x c (by rw [← Q_]; exact e)),fun p hp => ?_⟩
   ·rw [eL]
    obtain ⟨o,e⟩:=Ja b hb
    exact Nat.ne_of_lt (Nat.lt_of_lt_of_le (Heap.lt_size e) K7)
   ·rw [eF]
    intro z
    rcases List.mem_cons.mp (I.ku b z) with e | e
    ·exact f1 e
    ·exact f2 e
   ·rw [eN] at hp
    obtain rfl:p = _:=List.mem_singleton.mp (by simpa using hp)
    exact Ne.symm (Q9 b hb)
  refine qM (fun n s' => ∃ i ys aE nn τ H',Inv XB [] τ H' s' ∧ s'.heap.get? s.heap.objs.size = some { cls:=.type "list",data:=.seq aE.toArray nn } ∧ H' s.heap.objs.size = none ∧ Vals ys aE ∧ tn i s'.heap ∧ (∀ b ∈ fp,H' b = none) ∧ W i n ys τ H') ?_ m0
   ⟨0,[],[],0,mD k caps σ,H,I0,FX,S4,.nil,Ec,fun b hb => (hf b hb).1,w0⟩
  rintro n s3 ⟨i,ys,aE,nn,τ,H3,I3,S6,S7,K9,iY,Iu,w3⟩
  have Ra:=MM I3 S6 S7
  rcases turn i n ys τ H3 w3 with ⟨stop,hz,qn⟩ | ⟨go,hz,step⟩
  ·have D1:=T.done XB eP eW eK eC i _ s3 τ H3 (fun _ _ => False) Ra (uC Iu) iY stop
   rw [eA] at D1
   refine cb D1 fun r s4 ⟨hr,I4⟩ => ?_
   subst hr
   refine S3 _ _ s4 ?_
   obtain ⟨pd,Je,_⟩:=I4.pin (s.heap.objs.size,{ cls:=.type "list",data:=.seq aE.toArray nn }) (by rw [eN]; exact List.mem_append_right _ (List.mem_singleton.mpr rfl))
   have Cm:Un (fw X.stack) fp H H3 s.heap s4.heap:=by
    have:=I4.base
    rw [← ur] at this
    exact this
   have new:bL X.prog X.w (upd H3 s.heap.objs.size (.lst ys)) s4.heap s.heap.objs.size (.lst ys):=⟨hz,aE,nn,K9,pd⟩
   have MP:fQ X.prog X.w H3 s4.heap:=by
    have:=I4.bz
    rw [eP,eW] at this
    exact this
   have bz:fQ X.prog X.w (upd H3 s.heap.objs.size (.lst ys)) s4.heap:=MP.I_ Je new
   have S8:s4.os = s.os:=by
    have:=I4.os
    rw [e0] at this
    exact this
   have un:Un (fw X.stack) fp H (upd H3 s.heap.objs.size (.lst ys)) s.heap s4.heap :=
    ⟨Cm.keep,Cm.slot,fun b o e n hx => by rw [aD (Nat.ne_of_lt (Heap.lt_size e))]; exact Cm.free b o e n hx,Cm.there,
     fun b xs e => by rw [aD (bo (Cm.h_ b xs e) Je)]; exact Cm.h_ b xs e,fun b o u e => by rw [aD (bo (Cm.gK b o u e) Je)]; exact Cm.gK b o u e,
     fun b ps e => by
      obtain ⟨more,q⟩:=Cm.ie b ps e
      exact ⟨more,by rw [aD (bo q Je)]; exact q⟩⟩
   have I5:Inv X pins σ (upd H3 s.heap.objs.size (.lst ys)) s4:=I.vH S8 un bz I4.bare fun b hb => ⟨(hf b hb).2.2.2.1,(hf b hb).2.1,(hf b hb).2.2.2.2.1,(hf b hb).2.2.2.2.2⟩
   have S9:H3 H2.objs.size = none:=by
    have:=I4.free
    rw [eL] at this
    exact this
   refine ⟨s.heap.objs.size,_,rfl,K7,I5,by rw [aD (Ne.symm K8)]; exact S9,?_,qn _ Je⟩
   obtain ⟨m4,Rb,_⟩:=I4.loc
   rw [eL] at Rb
   exact ⟨m4,Rb⟩
  ·have D1:=T.item XB eP eW eK eC i _ s3 τ H3 (fun _ _ => False) Ra (uC Iu) iY go
   rw [eA] at D1
   refine cb D1 fun r s4 ⟨u,hr,h4⟩ => ?_
   subst hr
   refine cb h4 fun _ s5 ⟨x,H5,I5,r5,y5,Fh,Mg⟩ => ?_
   have Mi:=I5.pinned (uC Mg) (T.obj _ _ Fh)
   have G:=oX _ s5 τ H5 x u _ Mi r5 (step x H5 y5)
   rw [eP,eW,eA,eE,ML] at G
   refine cb G fun _ s6 ⟨τ6,H6,I6,q6⟩ => ?_
   have G2:=yZ _ s6 τ6 H6 _ I6 q6
   rw [eP,eW,eA,eE,ML] at G2
   refine cb G2 fun ok s7 ⟨H7,I7,q7⟩ => ?_
   -- Ir HD pins give back
   have back:∀ {τ8:St} {H8:Hp} {s8:Shared},Inv XB ([(s.heap.objs.size,({ cls:=.type "list",data:=.seq aE.toArray nn }:Obj))] ++ m9 fp s5.heap) τ8 H8 s8 →
     Inv XB [] τ8 H8 s8 ∧ s8.heap.get? s.heap.objs.size = some { cls:=.type "list",data:=.seq aE.toArray nn } ∧ H8 s.heap.objs.size = none ∧ tn (i + 1) s8.heap ∧ ∀ b ∈ fp,H8 b = none:=fun {τ8 H8 s8} J => by
    obtain ⟨p1,p2,_⟩:=J.pin (s.heap.objs.size,{ cls:=.type "list",data:=.seq aE.toArray nn }) (List.mem_append_right _ (List.mem_append_left _ (List.mem_singleton.mpr rfl)))
    refine ⟨J.jy fun p hp => absurd (show p ∈ ([]:List (Addr × Obj)) from hp) (by simp),p1,p2,T.keep _ _ _ Fh fun b hb o e => (J.pin (b,o) (List.mem_append_right _ (List.mem_append_right _ (gL hb e)))).1,fun b hb => ?_⟩
    obtain ⟨o,e,d⟩:=T.obj _ _ Fh b hb
    exact (J.pin (b,o) (List.mem_append_right _ (List.mem_append_right _ (gL hb e)))).2.1
   cases ok with
   | false =>
    rw [if_neg Bool.false_ne_true] at q7 ⊢
    obtain ⟨m',hm,w7⟩:=q7
    obtain ⟨J,a1,a2,a3,a4⟩:=back I7
    exact ⟨m',hm,i + 1,ys,aE,nn,τ6,H7,J,a1,a2,K9,a3,a4,w7⟩
   | true =>
    rw [if_pos rfl] at q7 ⊢
    have G3:=S5 _ s7 τ6 H7 _ I7 q7
    rw [eP,eW,eA,eE,ML] at G3
    refine cb G3 fun v s8 ⟨y,H8,I8,r8,m',hm,w8⟩ => ?_
    obtain ⟨J,a1,a2,a3,a4⟩:=back I8
    have hlen:=K9.length
    refine call_meets F.slot_list_append ⟨_,a1,rfl⟩ F.entry_list_append (F.args_list_append_2 _ _) (PySem.list_append s.heap.objs.size aE.toArray nn v (by rw [List.size_toArray]; lia)) ⟨a1,?_⟩
    have q:=PySem.IsL.update a1 (fun z => z.push v)
    have other:∀ b o,b ≠ s.heap.objs.size → s8.heap.get? b = some o → (s8.heap.update s.heap.objs.size (Obj.mapSeq fun z => z.push v)).get? b = some o:=fun b o hb e => (Heap.get?_update_other s8.heap (Obj.mapSeq fun z => z.push v) (Ne.symm hb)).trans e
    have J':Inv XB [] τ6 H8 { s8 with heap:=s8.heap.update s.heap.objs.size (Obj.mapSeq fun z => z.push v) } :=
     J.turned (t':=s8.toks) (it:=s.heap.objs.size) other a2 (by rw [eL]; exact K8) (.inr (by rw [e0]; exact Nat.le_refl _)) (fun x c e => Jd x c (by rw [← Q_]; exact e)) fun p hp => absurd (show p ∈ ([]:List (Addr × Obj)) by rw [eN] at hp; exact hp) (by simp)
    obtain ⟨n2,q2⟩:∃ n2,(s8.heap.update s.heap.objs.size (Obj.mapSeq fun z => z.push v)).get? s.heap.objs.size = some { cls:=.type "list",data:=.seq (aE ++ [v]).toArray n2 }:=by
     have e1:aE.toArray.push v = (aE ++ [v]).toArray:=by simp
     rw [← e1]
     exact ⟨_,q⟩
    exact ⟨m',hm,i + 1,ys ++ [y],aE ++ [v],n2,τ6,H8,J',q2,a2,K9.append (.cons r8 .nil),T.keep _ _ _ a3 fun b hb o e => other b o (Q9 b hb) e,a4,w8⟩
 exact codeAny_compStart_list (loop _ rfl) (T.self X.A 0 _ _ _ Ec (loop _ rfl))
end
end L2
namespace L2
open PySem PySem.Spec PyProof.Rows
section
variable {X:Cx} {tg elt iter:Expr} {ifs:List Expr} {scope:Scope} {pos y7:Pos} {N:List Str} {cl:List (Str × Addr)} {k:Nat} {caps:List Nat} {wi:TI} {g:TG} {tt:TT} {te:TE}
theorem Inv.pO {pins:List (Addr × Obj)} {σ σ':St} {H H':Hp} {s s':Shared} {C:Addr} {h':Heap} (I:Inv X pins σ H s) (hC:s.heap.objs.size ≤ C) (I':Inv X pins σ' H' s') (hn:H' C = none) (sb:Heap.SameBut C s'.heap h') :
  Inv X pins σ' H' { s' with heap:=h' }:=by
 refine I'.turned (t':=s'.toks) (it:=C) (fun b o hb e => (sb.2 b hb).trans e) hn (Nat.ne_of_gt (Nat.lt_of_lt_of_le I.lt hC)) (.inr (Nat.le_trans I.sz hC)) (fun x c e => ?_) fun p hp => ?_
 ·obtain ⟨v,o,ho,_⟩:=I.cell x c e
  exact Nat.ne_of_lt (Nat.lt_of_lt_of_le (Heap.lt_size ho) hC)
 ·exact Nat.ne_of_lt (Nat.lt_of_lt_of_le (Heap.lt_size (I.pin p hp).1) hC)
theorem Cn (hc:X.calm = true) (B:sq X N scope cl k caps) (hi:PI X tg iter wi) (hg:∀ C fp s H,PG (oW X N scope cl C fp s H) tg g) (FY:∀ C fp s H,Bz (oW X N scope cl C fp s H) ifs tt)
  (he:∀ C fp s H,PE (oW X N scope cl C fp s H) elt te) (hs:∀ x,foldedSetIterable iter X.env x = pure x:=by intro _; rfl):PE X (.ListComp elt [⟨tg,iter,ifs,0⟩] scope pos) (nv k caps wi g tt te):=by
 intro pins s σ H Q I h
 rw [eval_ListComp]
 refine wpAny_comprehension_free (use:=none) rfl hs B.su B.kind B.names (cb (hi pins s σ H _ I (pM h)) fun xv s₁ h₁ => cb h₁ fun KW s₂ h₂ => ?_)
 obtain ⟨it,fp,tn,J,H2,e,I2,T,cg,f2,hW⟩:=h₂
 subst e
 refine pN (RR:=fun acc C => compPost (model X.prog X.w) X.A X.xe none (EP X pins σ Q) acc C) hc B hg FY he I2 T cg f2 hW ?_
 rintro acc C s' ⟨D,H',rfl,hC,I',hn,⟨m,ns⟩,q⟩
 exact ⟨m,ns,fun h' sb => ⟨.ref D,H',I2.pO hC I' hn sb,rfl,q⟩⟩
theorem uJ {i:Nat} {y:Str} {py:Pos} (hN:X.N.Nodup) (hy:X.N[i]? = some y) (hx:Loc X.env.scope y) (hc:X.calm = true) (B:sq X N scope cl k caps) (hi:PI X tg iter wi) (hg:∀ C fp s H,PG (oW X N scope cl C fp s H) tg g)
  (FY:∀ C fp s H,Bz (oW X N scope cl C fp s H) ifs tt) (he:∀ C fp s H,PE (oW X N scope cl C fp s H) elt te) (MQ:swapsWith (.ListComp elt [⟨tg,iter,ifs,0⟩] scope pos) (some (.Name y py)) y7.line X.env = pure true:=by rfl)
  (hs:∀ x,foldedSetIterable iter X.env x = pure x:=by intro _; rfl) (hf:X.fn y = true ∨ X.env.scope.names.lookup y = some .local:=by first | exact .inl rfl | exact .inr rfl | assumption) :
  PS X (.Assign [.Name y py] (.ListComp elt [⟨tg,iter,ifs,0⟩] scope pos) y7) (Fd (nv k caps wi g tt te) (r_ i)):=by
 intro pins s σ H D I h
 rw [exec_Assign_Name_used _ _ _ _ MQ]
 refine wpAny_bind (wpAny_standAt (wpAny_bind ?_))
 show wpAny _ X.A (do let _ ← comprehension (.ListComp elt [⟨tg,iter,ifs,0⟩] scope pos) scope X.env _ (newList []) false (eval iter X.env) (some (assign (.Name y py) X.env))) _ _ s
 refine wpAny_bind (wpAny_mono (wpAny_comprehension_free (use:=some (assign (.Name y py) X.env)) (Q:=fun _ s' => SP X pins D .next s') rfl hs B.su B.kind B.names (cb (hi pins s σ H _ I (pM h)) fun xv s₁ h₁ => cb h₁ fun KW s₂ h₂ => ?_)) (fun _ s' hq => wpAny_pure (wpAny_pure hq)) fun _ _ e => e)
 obtain ⟨it,fp,tn,J,H2,e,I2,T,cg,f2,hW⟩:=h₂
 subst e
 refine pN (Q:=fun v H' => r_ i v σ H' D.nx) (RR:=fun acc C => compPost (model X.prog X.w) X.A X.xe (some (assign (.Name y py) X.env)) (fun _ s' => SP X pins D .next s') acc C) hc B hg FY he I2 T cg f2 hW ?_
 rintro acc C s' ⟨D',H',rfl,hC,I',hn,⟨m,ns⟩,q⟩
 show wpAny _ _ (assign (.Name y py) X.env (.ref D')) _ _ s'
 refine wpAny_assign_Name (kA I' hN hy hx (v:=.ref D') rfl (fun KZ S_ ⟨a,sb,ha⟩ => ?_) hf)
 have Ta:C ≠ a:=by
  rcases ha with e | e
  ·rw [e]; exact Nat.ne_of_gt (Nat.lt_of_lt_of_le I2.lt hC)
  ·obtain ⟨v,o,ho,_⟩:=I2.cell y a e
   exact Nat.ne_of_gt (Nat.lt_of_lt_of_le (Heap.lt_size ho) hC)
 exact ⟨m,ns.sameBut sb Ta,fun h' MR => ⟨_,H',I2.pO hC S_ hn MR,q⟩⟩
end
section
variable {K:PySem.W.Frag} {g:TG} {tt:TT} {te:TE} {Q:VK}
theorem Co {J:It} {k:Nat} {caps:List Nat} {σ:St} {H:Hp} (n:Nat) (hn:n ≤ sizeLine) (Pv:Nat → List V → St → Hp → Prop) (h0:Pv 0 [] (mD k caps σ) H) (Tb:∀ i ys τ H,i < n → Pv i ys τ H → J.go i H) (Bw:∀ ys τ H,Pv n ys τ H → J.stop n H)
  (hl:∀ i ys τ H,Pv i ys τ H → ys.length ≤ i)
  (hs:∀ i ys τ H x H',i < n → Pv i ys τ H → J.Ip i H x H' → ∀ K1:List V → St → Hp → Prop,(∀ ys τ H,Pv (i + 1) ys τ H → K1 ys τ H) → g x τ H' fun τ2 H2 => tt τ2 H2 fun b H3 => if b = true then te τ2 H3 fun y H4 => K1 (ys ++ [y]) τ2 H4 else K1 ys τ2 H3)
  (hd:∀ ys τ H p,Pv n ys τ H → H p = none → Q (.ref p) (upd H p (.lst ys))):sv J k caps g tt te σ H Q:=by
 refine ⟨fun i m ys τ H => m = n - i ∧ i ≤ n ∧ Pv i ys τ H,⟨n,by simp,Nat.zero_le _,h0⟩,?_⟩
 rintro i m ys τ H ⟨rfl,hi,p⟩
 have hy:=hl i ys τ H p
 by_cases sA:i < n
 ·refine .inr ⟨Tb i ys τ H sA p,by lia,fun x H' y => ?_⟩
  exact hs i ys τ H x H' sA p y (fun ys τ H => ∃ m',m' < n - i ∧ m' = n - (i + 1) ∧ i + 1 ≤ n ∧ Pv (i + 1) ys τ H) fun ys τ H q => ⟨n - (i + 1),by lia,rfl,sA,q⟩
 ·have e:i = n:=by lia
  subst e
  exact .inl ⟨Bw ys τ H p,by lia,fun q hq => hd ys τ H q p hq⟩
end
noncomputable def cz (b:Bool) (h:Heap) (i l:Addr) (k:Nat):Prop:=match b with | true => h.IsListIter i l k | false => h.IsTupleIter i l k
noncomputable def gb (b:Bool) (h:Heap) (l:Addr) (xs:Array Value):Prop:=match b with | true => h.IsList l xs | false => h.IsTuple l xs
theorem cz.keep {b:Bool} {h h':Heap} {i l:Addr} {k:Nat} (x:cz b h i l k) (e:∀ o,h.get? i = some o → h'.get? i = some o):cz b h' i l k:=by
 cases b with
 | true => exact Heap.IsListIter.at x e
 | false => exact Heap.IsTupleIter.at x e
theorem gb.keep {b:Bool} {h h':Heap} {l:Addr} {xs:Array Value} (x:gb b h l xs) (e:∀ o,h.get? l = some o → h'.get? l = some o):gb b h' l xs:=by
 cases b with
 | true => exact Heap.IsList.at x e
 | false => obtain ⟨o,ho,r⟩:=(show h.IsTuple l xs from x); exact ⟨o,e _ ho,r⟩
theorem cz.there {b:Bool} {h:Heap} {i l:Addr} {k:Nat} (x:cz b h i l k):∃ o n vs,h.get? i = some o ∧ o.cls = .type n ∧ o.data = .fields vs:=by
 cases b with
 | true => obtain ⟨o,h1,h2,h3⟩:=(show h.IsListIter i l k from x); exact ⟨o,_,_,h1,h2,h3⟩
 | false => obtain ⟨o,h1,h2,h3⟩:=(show h.IsTupleIter i l k from x); exact ⟨o,_,_,h1,h2,h3⟩
section
variable {prog:Program} {w:World} {A:Around} {E:Value → Shared → Prop} {s:Shared}
theorem ny {it t:Addr} {i:Nat} {items:Array Value} {x:Value} {Q:Value → Shared → Prop} (hit:s.heap.IsTupleIter it t i) (ht:s.heap.IsTuple t items) (hx:items[i]? = some x)
  (hQ:∀ h',h'.IsTupleIter it t (i + 1) → Heap.SameBut it s.heap h' → Q x { s with heap:=h' }):wpAny (model prog w) A (Builtin.SmallTypes.nextOf (.ref it)) Q E s:=by
 obtain ⟨oi,Ee,ci,di⟩:=id hit
 obtain ⟨ot,MS,_,nt,dt⟩:=ht
 unfold Builtin.SmallTypes.nextOf
 refine wpAny_bind (wpAny_callSpecial?_slot (name:=Str.ofString "__next__") hit.typeIs F.slot_tuple_iterator_next (wpAny_call_entry F.slot_tuple_iterator_next hit.typeIs F.entry_tuple_iterator_next ?_ (F.args_tuple_iterator_next_1 _)))
 show wpAny _ _ (field (.ref it) 0 >>= _) _ _ s
 refine wpAny_bind (wpAny_field Ee di (x:=.ref t) rfl ?_)
 show wpAny _ _ (if (Value.ref t == Value.none) = true then _ else _) _ _ s
 rw [if_neg (show ¬ ((Value.ref t == Value.none) = true) from Bool.false_ne_true)]
 show wpAny _ _ (field (.ref it) 1 >>= _) _ _ s
 refine wpAny_bind (wpAny_field Ee di (x:=.int i 0) rfl ?_)
 show wpAny _ _ (seqItems? (.ref t) >>= _) _ _ s
 refine wpAny_bind (wpAny_seqItems MS dt ?_)
 simp only [Int.toNat_natCast,hx]
 refine wpAny_bind (wpAny_setField Ee di (by simp) (wpAny_pure ⟨x,rfl,wpAny_pure (hQ _ ?_ (Heap.SameBut.update ..))⟩))
 exact ⟨_,Heap.get?_update_self _ Ee (Obj.isFreed_of_fields (Obj.data_mapFields di _)),(Obj.cls_mapFields ..).trans ci,by rw [Obj.data_mapFields di]; simp [rawInt]⟩
theorem o_ {it t:Addr} {i:Nat} {items:Array Value} {Q:Value → Shared → Prop} (hh:A.handled = none) (hit:s.heap.IsTupleIter it t i) (ht:s.heap.IsTuple t items) (hx:items[i]? = none)
  (hE:∀ h' e,Heap.ExtBut it s.heap h' → (∃ o,h'.get? e = some o ∧ o.cls = .type "StopIteration") → E (.ref e) { s with heap:=h' }):wpAny (model prog w) A (Builtin.SmallTypes.nextOf (.ref it)) Q E s:=by
 obtain ⟨oi,Ee,ci,di⟩:=id hit
 obtain ⟨ot,MS,_,nt,dt⟩:=ht
 unfold Builtin.SmallTypes.nextOf
 refine wpAny_bind (wpAny_callSpecial?_slot (name:=Str.ofString "__next__") hit.typeIs F.slot_tuple_iterator_next (wpAny_call_entry F.slot_tuple_iterator_next hit.typeIs F.entry_tuple_iterator_next ?_ (F.args_tuple_iterator_next_1 _)))
 show wpAny _ _ (field (.ref it) 0 >>= _) _ _ s
 refine wpAny_bind (wpAny_field Ee di (x:=.ref t) rfl ?_)
 show wpAny _ _ (if (Value.ref t == Value.none) = true then _ else _) _ _ s
 rw [if_neg (show ¬ ((Value.ref t == Value.none) = true) from Bool.false_ne_true)]
 show wpAny _ _ (field (.ref it) 1 >>= _) _ _ s
 refine wpAny_bind (wpAny_field Ee di (x:=.int i 0) rfl ?_)
 show wpAny _ _ (seqItems? (.ref t) >>= _) _ _ s
 refine wpAny_bind (wpAny_seqItems MS dt ?_)
 simp only [Int.toNat_natCast,hx]
 refine wpAny_bind (wpAny_rule (wpAny_bind (wpAny_setField Ee di (by simp) ?_)))
 show wpAny _ _ (newExc (.type "StopIteration") [] >>= _) _ _ _
 refine wpAny_bind ?_
 simp only [newExc,newTuple]
 refine wpAny_bind (wpAny_newObj_type ?_ (by size_fits))
 refine wpAny_bind (m:=firstArgMember _ _) (wpAny_of_eq (a:=Value.none) (by first | rfl | (simp only [firstArgMember]; rfl)) ?_)
 refine wpAny_newObj_type ?_ (by size_fits)
 simp only [raiseNew]
 refine wpAny_bind (wpAny_handled ?_)
 first | rw [show A.in1.handled = none from hh] | rw [hh]
 refine wpAny_bind (wpAny_pure (wpAny_throw ?_))
 exact hE _ _ (((Heap.SameBut.update ..).extBut.push _).push _) ⟨_,Heap.get?_push_size _ rfl,rfl⟩
theorem gO {b:Bool} {it t:Addr} {i:Nat} {items:Array Value} {x:Value} {Q:Value → Shared → Prop} (hit:cz b s.heap it t i) (ht:gb b s.heap t items) (hx:items[i]? = some x)
  (hQ:∀ h',cz b h' it t (i + 1) → Heap.SameBut it s.heap h' → Q x { s with heap:=h' }):wpAny (model prog w) A (Builtin.SmallTypes.nextOf (.ref it)) Q E s:=by
 cases b with
 | true => exact wpAny_nextOf_list_item hit ht hx hQ
 | false => exact ny hit ht hx hQ
theorem lO {b:Bool} {it t:Addr} {i:Nat} {items:Array Value} {Q:Value → Shared → Prop} (hh:A.handled = none) (hit:cz b s.heap it t i) (ht:gb b s.heap t items) (hx:items[i]? = none)
  (hE:∀ h' e,Heap.ExtBut it s.heap h' → (∃ o,h'.get? e = some o ∧ o.cls = .type "StopIteration") → E (.ref e) { s with heap:=h' }):wpAny (model prog w) A (Builtin.SmallTypes.nextOf (.ref it)) Q E s:=by
 cases b with
 | true => exact wpAny_nextOf_list_end hh hit ht hx hE
 | false => exact o_ hh hit ht hx hE
end
end L2
namespace L2
open PySem PySem.Spec PyProof.Rows
noncomputable abbrev nA (b:Bool) (l:Addr):Obj:={ cls:=.type (match b with | true => "list_iterator" | false => "tuple_iterator"),data:=.fields #[.ref l,.int 0 0] }
section
variable {prog:Program} {w:World} {A:Around} {E:Value → Shared → Prop} {s:Shared}
theorem cz.new (b:Bool) {h:Heap} {i l:Addr} (e:h.get? i = some (nA b l)):cz b h i l 0:=by
 cases b with
 | true => exact ⟨_,e,rfl,rfl⟩
 | false => exact ⟨_,e,rfl,rfl⟩
theorem nB {b:Bool} {l:Addr} {xs:Array Value} {Q:Value → Shared → Prop} (h:gb b s.heap l xs) (hQ:Q (.ref s.heap.objs.size) { s with heap:=s.heap.push (nA b l) }):wpAny (model prog w) A (pyIter (.ref l)) Q E s:=by
 cases b with
 | true => exact wpAny_pyIter_list h hQ
 | false => exact wpAny_pyIter_tuple h hQ
theorem Cp {b1 b2:Bool} {z TI TO i1 i2 l1 l2:Addr} {k1 k2:Nat} {xs ys:Array Value} {x y a b:Value} {Q:Value → Shared → Prop} (D:ZipApart z TI TO i1 i2 l1 l2)
  (hz:IsZip s.heap z TI TO .none) (qO:IsPair s.heap TI (.ref i1) (.ref i2)) (rX:IsPair s.heap TO a b) (h1:cz b1 s.heap i1 l1 k1) (h2:cz b2 s.heap i2 l2 k2) (yk:gb b1 s.heap l1 xs) (wY:gb b2 s.heap l2 ys) (hx:xs[k1]? = some x) (hy:ys[k2]? = some y)
  (hQ:∀ h',IsZip h' z TI TO (rawInt s.heap.objs.size) → IsPair h' TO x y → cz b1 h' i1 l1 (k1 + 1) → cz b2 h' i2 l2 (k2 + 1) → IsPair h' s.heap.objs.size x y →
   (∀ c o,c ≠ z → c ≠ TO → c ≠ i1 → c ≠ i2 → s.heap.get? c = some o → h'.get? c = some o) → Q (.ref s.heap.objs.size) { s with heap:=h' }) :
  wpAny (model prog w) A (Builtin.«zip.__next__» ⟨[.ref z],[]⟩) (fun fin s' => ∃ v,fin = .done (.ret v) ∧ Q v s') E s:=by
 show wpAny _ _ (field (.ref z) 2 >>= _) _ _ _
 refine wpAny_bind (wpAny_field hz rfl (x:=.bool false) rfl ?_)
 show wpAny _ _ (field (.ref z) 3 >>= _) _ _ _
 refine wpAny_bind (wpAny_field hz rfl (x:=.ref TI) rfl (wpAny_bind (wpAny_seqItems qO rfl ?_)))
 show wpAny _ _ (Builtin.SmallTypes.ownedTupleIsFree (.ref z) >>= _) _ _ _
 refine wpAny_bind ?_
 unfold Builtin.SmallTypes.ownedTupleIsFree
 refine wpAny_bind (wpAny_field hz rfl (x:=.none) rfl (wpAny_pure ?_))
 simp only [if_true]
 refine wpAny_bind (wpAny_rule (wpAny_bind (wpAny_field hz rfl (x:=.ref TO) rfl (wpAny_bind (wpAny_setField_rec hz (by simp) fun g₁ lQ s₁ => ?_)))))
 replace lQ:IsZip g₁ z TI TO .ellipsis:=lQ
 refine wpAny_bind ?_
 simp only [List.zipIdx_cons,List.zipIdx_nil,List.forIn_cons,List.forIn_nil]
 refine wpAny_bind (wpAny_bind (wpAny_onRaise ?_))
 show wpAny _ _ (Builtin.SmallTypes.nextOf (.ref i1) >>= _) _ _ _
 refine wpAny_bind (gO (b:=b1) (h1.keep fun o e => s₁.extBut _ o D.i1z e) (yk.keep fun o e => s₁.extBut _ o D.l1z e) hx fun g₂ q₁ s₂ => wpAny_pure ?_)
 have t₂:IsPair g₂ TO a b:=s₂.extBut _ _ D.TOi1 (s₁.extBut _ _ D.TOz rX)
 refine wpAny_bind (wpAny_seqItems t₂ rfl (wpAny_bind (wpAny_updateSeq_pair t₂ fun g₃ t₃ s₃ => ?_)))
 replace t₃:IsPair g₃ TO x b:=t₃
 refine wpAny_bind (wpAny_letGo (wpAny_pure (wpAny_bind (wpAny_bind (wpAny_onRaise ?_)))))
 show wpAny _ _ (Builtin.SmallTypes.nextOf (.ref i2) >>= _) _ _ _
 refine wpAny_bind (gO (b:=b2) (h2.keep fun o e => s₃.extBut _ o D.TOi2.symm (s₂.extBut _ o D.i12.symm (s₁.extBut _ o D.i2z e))) (wY.keep fun o e => s₃.extBut _ o D.l2TO (s₂.extBut _ o D.l2i1 (s₁.extBut _ o D.l2z e))) hy fun g₄ q₂ s₄ => wpAny_pure ?_)
 have t₄:IsPair g₄ TO x b:=s₄.extBut _ _ D.TOi2 t₃
 refine wpAny_bind (wpAny_seqItems t₄ rfl (wpAny_bind (wpAny_updateSeq_pair t₄ fun g₅ t₅ s₅ => ?_)))
 replace t₅:IsPair g₅ TO x y:=t₅
 refine wpAny_bind (wpAny_letGo (wpAny_pure (wpAny_pure (wpAny_bind (wpAny_seqItems t₅ rfl (wpAny_bind (wpAny_newTuple ?_)))))))
 have sz:g₅.objs.size = s.heap.objs.size:=by rw [s₅.1,s₄.1,s₃.1,s₂.1,s₁.1]
 have z₅:IsZip g₅ z TI TO .ellipsis:=s₅.extBut _ _ D.TOz.symm (s₄.extBut _ _ D.i2z.symm (s₃.extBut _ _ D.TOz.symm (s₂.extBut _ _ D.i1z.symm lQ)))
 have kp:∀ c o,c ≠ z → c ≠ TO → c ≠ i1 → c ≠ i2 → s.heap.get? c = some o → g₅.get? c = some o:=fun c o n1 n2 n3 n4 e => s₅.extBut _ _ n2 (s₄.extBut _ _ n4 (s₃.extBut _ _ n2 (s₂.extBut _ _ n3 (s₁.extBut _ _ n1 e))))
 have p₁:cz b1 g₅ i1 l1 (k1 + 1):=q₁.keep fun o e => s₅.extBut _ o D.TOi1.symm (s₄.extBut _ o D.i12 (s₃.extBut _ o D.TOi1.symm e))
 have p₂:cz b2 g₅ i2 l2 (k2 + 1):=q₂.keep fun o e => s₅.extBut _ o D.TOi2.symm e
 have Rc:z < g₅.objs.size:=Heap.lt_size z₅
 show wpAny _ _ (Builtin.SmallTypes.ownedTupleHandOut (.ref z) (.ref g₅.objs.size) >>= _) _ _ _
 refine wpAny_bind ?_
 unfold Builtin.SmallTypes.ownedTupleHandOut
 have z₆:IsZip (g₅.push { cls:=.type "tuple",data:=.seq #[x,y] }) z TI TO .ellipsis:=Heap.get?_push_of_some _ z₅
 refine wpAny_bind (wpAny_setField_rec z₆ (by simp) fun g₇ z₇ s₇ => ?_)
 replace z₇:IsZip g₇ z TI TO (rawInt g₅.objs.size):=z₇
 refine wpAny_setField_rec z₇ (by simp) fun g₈ z₈ s₈ => ?_
 replace z₈:IsZip g₈ z TI TO (rawInt g₅.objs.size):=z₈
 have up:∀ c o,c ≠ z → g₅.get? c = some o → g₈.get? c = some o:=fun c o n e => s₈.extBut _ _ n (s₇.extBut _ _ n (Heap.get?_push_of_some _ e))
 have t₈:IsPair g₈ g₅.objs.size x y:=s₈.extBut _ _ (Nat.ne_of_gt Rc) (s₇.extBut _ _ (Nat.ne_of_gt Rc) (Heap.get?_push_size _ rfl))
 rw [sz] at z₈ t₈
 refine wpAny_pure ⟨_,rfl,?_⟩
 show Q (.ref g₅.objs.size) _
 rw [sz]
 exact hQ g₈ z₈ (up _ _ D.TOz t₅) (p₁.keep fun o e => up _ o D.i1z e) (p₂.keep fun o e => up _ o D.i2z e) t₈ fun c o n1 n2 n3 n4 e => up c o n1 (kp c o n1 n2 n3 n4 e)
theorem FZ {b1 b2:Bool} {z TI TO i1 i2 l1 l2:Addr} {k1 k2:Nat} {xs ys:Array Value} {a b:Value} {Q:Fin → Shared → Prop} (hh:A.handled = none) (D:ZipApart z TI TO i1 i2 l1 l2)
  (hz:IsZip s.heap z TI TO .none) (qO:IsPair s.heap TI (.ref i1) (.ref i2)) (rX:IsPair s.heap TO a b) (h1:cz b1 s.heap i1 l1 k1) (h2:cz b2 s.heap i2 l2 k2) (yk:gb b1 s.heap l1 xs) (wY:gb b2 s.heap l2 ys) (he:xs[k1]? = none ∨ ys[k2]? = none)
  (hE:∀ h' e,(∀ c o,c ≠ z → c ≠ TO → c ≠ i1 → c ≠ i2 → s.heap.get? c = some o → h'.get? c = some o) → (∃ o,h'.get? e = some o ∧ o.cls = .type "StopIteration") → E (.ref e) { s with heap:=h' }) :
  wpAny (model prog w) A (Builtin.«zip.__next__» ⟨[.ref z],[]⟩) Q E s:=by
 show wpAny _ _ (field (.ref z) 2 >>= _) _ _ _
 refine wpAny_bind (wpAny_field hz rfl (x:=.bool false) rfl ?_)
 show wpAny _ _ (field (.ref z) 3 >>= _) _ _ _
 refine wpAny_bind (wpAny_field hz rfl (x:=.ref TI) rfl (wpAny_bind (wpAny_seqItems qO rfl ?_)))
 show wpAny _ _ (Builtin.SmallTypes.ownedTupleIsFree (.ref z) >>= _) _ _ _
 refine wpAny_bind ?_
 unfold Builtin.SmallTypes.ownedTupleIsFree
 refine wpAny_bind (wpAny_field hz rfl (x:=.none) rfl (wpAny_pure ?_))
 simp only [if_true]
 refine wpAny_bind (wpAny_rule (wpAny_bind (wpAny_field hz rfl (x:=.ref TO) rfl (wpAny_bind (wpAny_setField_rec hz (by simp) fun g₁ lQ s₁ => ?_)))))
 replace lQ:IsZip g₁ z TI TO .ellipsis:=lQ
 refine wpAny_bind ?_
 simp only [List.zipIdx_cons,List.zipIdx_nil,List.forIn_cons,List.forIn_nil]
 refine wpAny_bind (wpAny_bind (wpAny_onRaise ?_))
 show wpAny _ _ (Builtin.SmallTypes.nextOf (.ref i1) >>= _) _ _ _
 cases hx:xs[k1]? with
 | none =>
  refine wpAny_bind (lO (b:=b1) hh (h1.keep fun o e => s₁.extBut _ o D.i1z e) (yk.keep fun o e => s₁.extBut _ o D.l1z e) hx fun g₂ e s₂ ⟨oe,BA,ce⟩ => ?_)
  have z₂:IsZip g₂ z TI TO .ellipsis:=s₂ _ _ D.i1z.symm lQ
  have MU:e ≠ z:=fun q => by subst q; rw [z₂] at BA; cases BA; simp at ce
  exact wpAny_setField_rec z₂ (by simp) fun g₃ _ s₃ => hE g₃ e (fun c o n1 _ n3 _ q => s₃.extBut _ _ n1 (s₂ _ _ n3 (s₁.extBut _ _ n1 q))) ⟨oe,s₃.extBut _ _ MU BA,ce⟩
 | some x =>
  have hy:ys[k2]? = none:=by
   rcases he with q | q
   ·rw [hx] at q; cases q
   ·exact q
  refine wpAny_bind (gO (b:=b1) (h1.keep fun o e => s₁.extBut _ o D.i1z e) (yk.keep fun o e => s₁.extBut _ o D.l1z e) hx fun g₂ q₁ s₂ => wpAny_pure ?_)
  have t₂:IsPair g₂ TO a b:=s₂.extBut _ _ D.TOi1 (s₁.extBut _ _ D.TOz rX)
  refine wpAny_bind (wpAny_seqItems t₂ rfl (wpAny_bind (wpAny_updateSeq_pair t₂ fun g₃ t₃ s₃ => ?_)))
  refine wpAny_bind (wpAny_letGo (wpAny_pure (wpAny_bind (wpAny_bind (wpAny_onRaise ?_)))))
  show wpAny _ _ (Builtin.SmallTypes.nextOf (.ref i2) >>= _) _ _ _
  refine wpAny_bind (lO (b:=b2) hh (h2.keep fun o e => s₃.extBut _ o D.TOi2.symm (s₂.extBut _ o D.i12.symm (s₁.extBut _ o D.i2z e))) (wY.keep fun o e => s₃.extBut _ o D.l2TO (s₂.extBut _ o D.l2i1 (s₁.extBut _ o D.l2z e))) hy fun g₄ e s₄ ⟨oe,BA,ce⟩ => ?_)
  have z₄:IsZip g₄ z TI TO .ellipsis:=s₄ _ _ D.i2z.symm (s₃.extBut _ _ D.TOz.symm (s₂.extBut _ _ D.i1z.symm lQ))
  have MU:e ≠ z:=fun q => by subst q; rw [z₄] at BA; cases BA; simp at ce
  exact wpAny_setField_rec z₄ (by simp) fun g₅ _ s₅ => hE g₅ e (fun c o n1 n2 n3 n4 q => s₅.extBut _ _ n1 (s₄ _ _ n4 (s₃.extBut _ _ n2 (s₂.extBut _ _ n3 (s₁.extBut _ _ n1 q))))) ⟨oe,s₅.extBut _ _ MU BA,ce⟩
theorem xa {b1 b2:Bool} {z TI TO i1 i2 l1 l2:Addr} {k1 k2:Nat} {xs ys:Array Value} {x y a b:Value} {Q:Option Value → Shared → Prop} (D:ZipApart z TI TO i1 i2 l1 l2)
  (hz:IsZip s.heap z TI TO .none) (qO:IsPair s.heap TI (.ref i1) (.ref i2)) (rX:IsPair s.heap TO a b) (h1:cz b1 s.heap i1 l1 k1) (h2:cz b2 s.heap i2 l2 k2) (yk:gb b1 s.heap l1 xs) (wY:gb b2 s.heap l2 ys) (hx:xs[k1]? = some x) (hy:ys[k2]? = some y)
  (hQ:∀ h',IsZip h' z TI TO (rawInt s.heap.objs.size) → IsPair h' TO x y → cz b1 h' i1 l1 (k1 + 1) → cz b2 h' i2 l2 (k2 + 1) → IsPair h' s.heap.objs.size x y →
   (∀ c o,c ≠ z → c ≠ TO → c ≠ i1 → c ≠ i2 → s.heap.get? c = some o → h'.get? c = some o) → Q (some (.ref s.heap.objs.size)) { s with heap:=h' }):wpAny (model prog w) A (pyNext (.ref z)) Q E s:=by
 have tz:s.TypeIs (.ref z) "zip":=⟨_,hz,rfl⟩
 unfold pyNext
 exact wpAny_bind (wpAny_attempt (wpAny_callSpecial?_slot (name:=Str.ofString "__next__") tz F.slot_zip_next
  (wpAny_call_entry F.slot_zip_next tz F.entry_zip_next (Cp (b1:=b1) (b2:=b2) D hz qO rX h1 h2 yk wY hx hy fun h' a1 a2 a3 a4 a5 a6 => wpAny_pure (hQ h' a1 a2 a3 a4 a5 a6)) (F.args_zip_next_1 _))))
theorem y8 {b1 b2:Bool} {z TI TO i1 i2 l1 l2:Addr} {k1 k2:Nat} {xs ys:Array Value} {a b:Value} {Q:Option Value → Shared → Prop} (hh:A.handled = none) (D:ZipApart z TI TO i1 i2 l1 l2)
  (hz:IsZip s.heap z TI TO .none) (qO:IsPair s.heap TI (.ref i1) (.ref i2)) (rX:IsPair s.heap TO a b) (h1:cz b1 s.heap i1 l1 k1) (h2:cz b2 s.heap i2 l2 k2) (yk:gb b1 s.heap l1 xs) (wY:gb b2 s.heap l2 ys) (he:xs[k1]? = none ∨ ys[k2]? = none)
  (hQ:∀ h',(∀ c o,c ≠ z → c ≠ TO → c ≠ i1 → c ≠ i2 → s.heap.get? c = some o → h'.get? c = some o) → Q none { s with heap:=h' }):wpAny (model prog w) A (pyNext (.ref z)) Q E s:=by
 have tz:s.TypeIs (.ref z) "zip":=⟨_,hz,rfl⟩
 unfold pyNext
 refine wpAny_bind (wpAny_attempt (wpAny_callSpecial?_slot (name:=Str.ofString "__next__") tz F.slot_zip_next
  (wpAny_call_entry F.slot_zip_next tz F.entry_zip_next (FZ (b1:=b1) (b2:=b2) hh D hz qO rX h1 h2 yk wY he fun h' e hk he => ?_) (F.args_zip_next_1 _))))
 obtain ⟨o,ho,hc⟩:=he
 exact wpAny_bind (wpAny_isInstance (T:="StopIteration") (b:=true) ⟨o,ho,hc⟩ isSubtype_stop (wpAny_pure (hQ _ hk)))
noncomputable abbrev K_ (b1:Bool) (h:Heap) (l1:Addr):Heap:=h.push (nA b1 l1)
noncomputable abbrev La (b1 b2:Bool) (h:Heap) (l1 l2:Addr):Heap:=(K_ b1 h l1).push (nA b2 l2)
noncomputable abbrev Lb (b1 b2:Bool) (h:Heap) (l1 l2:Addr):Heap:=(La b1 b2 h l1 l2).push { cls:=.type "tuple",data:=.seq #[.ref h.objs.size,.ref (K_ b1 h l1).objs.size] }
noncomputable abbrev Lc (b1 b2:Bool) (h:Heap) (l1 l2:Addr):Heap:=(Lb b1 b2 h l1 l2).push { cls:=.type "tuple",data:=.seq #[.none,.none] }
noncomputable abbrev HM (b1 b2:Bool) (h:Heap) (l1 l2:Addr):Heap:=(Lc b1 b2 h l1 l2).push { cls:=.type "zip",data:=.fields #[.none,.bool false,.bool false,.ref (La b1 b2 h l1 l2).objs.size,.ref (Lb b1 b2 h l1 l2).objs.size] }
theorem y9 (b1 b2:Bool) (l1 l2:Addr) (xs ys:Array Value) :
  Meets (Builtin.«zip.__new__» ⟨[.type "zip",.ref l1,.ref l2],[]⟩) (fun _ R s => gb b1 s.heap l1 xs ∧ gb b2 s.heap l2 ys ∧ R (.ok (.ret (.ref (Lc b1 b2 s.heap l1 l2).objs.size))) { s with heap:=HM b1 b2 s.heap l1 l2 }) :=
 .of_wp fun prog w A R s h => by
  obtain ⟨hp,g,d,tk,os⟩:=s
  obtain ⟨q1,q2,h⟩:=h
  have Jf:=sub_zip
  have w1:gb b1 (Shared.heap ⟨hp,g,d,tk,os⟩) l1 xs:=q1
  have w2:gb b2 (Shared.heap ⟨hp.push (nA b1 l1),g,d,tk,os⟩) l2 ys:=q2.keep fun o e => Heap.get?_push_of_some _ e
  wp_walk using nB w1,nB w2
  exact ⟨_,rfl,h⟩
theorem y_ {b1 b2:Bool} {l1 l2:Addr} {xs ys:Array Value} {Q:Value → Shared → Prop} (yk:gb b1 s.heap l1 xs) (wY:gb b2 s.heap l2 ys)
  (h:∀ h',IsZip h' (s.heap.objs.size + 4) (s.heap.objs.size + 2) (s.heap.objs.size + 3) .none → IsPair h' (s.heap.objs.size + 2) (.ref s.heap.objs.size) (.ref (s.heap.objs.size + 1)) → IsPair h' (s.heap.objs.size + 3) .none .none →
   cz b1 h' s.heap.objs.size l1 0 → cz b2 h' (s.heap.objs.size + 1) l2 0 → (∀ c o,s.heap.get? c = some o → h'.get? c = some o) → Q (.ref (s.heap.objs.size + 4)) { s with heap:=h' }) :
  wpAny (model prog w) A (call (.type "zip") [.ref l1,.ref l2]) Q E s:=by
 refine callType_new F.called_zip (by decide) (F.typeCall_zip_2 _ _) (F.newCall_zip_2 _ _) (fun obj => F.args_object_init_3 obj _ _) F.entry_zip_new (y9 b1 b2 l1 l2 xs ys) ⟨yk,wY,?_⟩
 have z1:(K_ b1 s.heap l1).objs.size = s.heap.objs.size + 1:=Heap.size_push ..
 have z2:(La b1 b2 s.heap l1 l2).objs.size = s.heap.objs.size + 2:=by rw [Heap.size_push,z1]
 have z3:(Lb b1 b2 s.heap l1 l2).objs.size = s.heap.objs.size + 3:=by rw [Heap.size_push,z2]
 have z4:(Lc b1 b2 s.heap l1 l2).objs.size = s.heap.objs.size + 4:=by rw [Heap.size_push,z3]
 have g5:(HM b1 b2 s.heap l1 l2).get? (Lc b1 b2 s.heap l1 l2).objs.size = some _:=Heap.get?_push_size _ rfl
 have g4:(HM b1 b2 s.heap l1 l2).get? (Lb b1 b2 s.heap l1 l2).objs.size = some _:=Heap.get?_push_of_some _ (Heap.get?_push_size _ rfl)
 have g3:(HM b1 b2 s.heap l1 l2).get? (La b1 b2 s.heap l1 l2).objs.size = some _:=Heap.get?_push_of_some _ (Heap.get?_push_of_some _ (Heap.get?_push_size _ rfl))
 have g2:(HM b1 b2 s.heap l1 l2).get? (K_ b1 s.heap l1).objs.size = some (nA b2 l2):=Heap.get?_push_of_some _ (Heap.get?_push_of_some _ (Heap.get?_push_of_some _ (Heap.get?_push_size _ rfl)))
 have g1:(HM b1 b2 s.heap l1 l2).get? s.heap.objs.size = some (nA b1 l1):=Heap.get?_push_of_some _ (Heap.get?_push_of_some _ (Heap.get?_push_of_some _ (Heap.get?_push_of_some _ (Heap.get?_push_size _ rfl))))
 show _ ∧ _
 rw [z2,z3,z4] at g5
 rw [z1,z2] at g3
 rw [z3] at g4
 rw [z1] at g2
 rw [z4]
 exact ⟨⟨_,g5,rfl⟩,h _ g5 g3 g4 (.new b1 g1) (.new b2 g2) fun c o x => Heap.get?_push_of_some _ (Heap.get?_push_of_some _ (Heap.get?_push_of_some _ (Heap.get?_push_of_some _ (Heap.get?_push_of_some _ x))))⟩
end
noncomputable def uK (b:Bool) (K:PySem.W.Frag) (H:Hp) (a:Addr) (xs:List V):Prop:=match b with | true => jb K H a xs | false => gp K H a xs
theorem Inv.HN {X:Cx} {pins:List (Addr × Obj)} {σ:St} {H:Hp} {s:Shared} {b:Bool} {a:Addr} {xs:List V} (I:Inv X pins σ H s) (h:uK b X.K H a xs):∃ aE:List Value,Vals xs aE ∧ gb b s.heap a aE.toArray ∧ xs.length ≤ sizeLine:=by
 cases b with
 | true => obtain ⟨aE,r,p,z⟩:=I.list h; exact ⟨aE,r,p.isList,z⟩
 | false => obtain ⟨aE,r,p,z⟩:=I.tuple h; exact ⟨aE,r,p,z⟩
theorem Inv.vS {X:Cx} {pins:List (Addr × Obj)} {σ:St} {H:Hp} {s:Shared} {b:Bool} {a:Addr} {xs ys:List V} (I:Inv X pins σ H s) (h:uK b X.K H a xs) (h':uK b X.K H a ys):xs = ys:=by
 cases b with
 | true => exact I.m7 h h'
 | false => exact I.kB h h'
theorem Inv.Ef {X:Cx} {pins:List (Addr × Obj)} {σ:St} {H:Hp} {s:Shared} {b:Bool} {l c:Addr} {zs:List V} (I:Inv X pins σ H s) (hs:uK b X.K H l zs) (f:iU X pins H c):l ≠ c:=by
 intro q
 have mo:∀ o,X.K.lookup l = some o → False:=fun o hk => by
  have e:=I.mod.HF l o hk
  rcases f.2.2.2.1 with z | z
  ·exact I.ok.uz l o e (by rw [q]; exact z)
  ·exact absurd (Nat.lt_of_lt_of_le (Heap.lt_size (I.ok.bs l o e).1) (by rw [q]; exact z)) (Nat.lt_irrefl _)
 have tr:∀ o,H l = some o → False:=fun o e => by rw [q,f.1] at e; cases e
 cases b with
 | true =>
  rcases (show jb X.K H l zs from hs) with (r | ⟨o,r⟩) | ⟨o,aE,n,hk,_⟩
  ·exact tr _ r
  ·exact tr _ r
  ·exact mo o hk
 | false =>
  rcases (show gp X.K H l zs from hs) with (r | ⟨o,r⟩) | ⟨o,aE,n,hk,_⟩
  ·exact tr _ r
  ·exact tr _ r
  ·exact mo o hk
noncomputable def Rf (K:PySem.W.Frag) (b1 b2:Bool) (a b:Addr):It :=
 ⟨fun i H => ∃ xs ys x y,uK b1 K H a xs ∧ uK b2 K H b ys ∧ xs[i]? = some x ∧ ys[i]? = some y,
  fun i H v H' => ∃ p x y,v = .ref p ∧ H p = none ∧ H' = upd H p (.tup [x,y]) ∧ (∀ xs,uK b1 K H a xs → xs[i]? = some x) ∧ ∀ ys,uK b2 K H b ys → ys[i]? = some y,
  fun i H => ∃ xs ys,uK b1 K H a xs ∧ uK b2 K H b ys ∧ (xs.length ≤ i ∨ ys.length ≤ i)⟩
theorem zd {P:Program} {w:World} {K:PySem.W.Frag} {elts:List Expr} {kt:Nat} {tp:Pos} {b1 b2:Bool} {z TI TO i1 i2:Addr} (a b:Addr) (ne:z ≠ TI ∧ z ≠ TO ∧ z ≠ i1 ∧ z ≠ i2 ∧ TI ≠ TO ∧ TI ≠ i1 ∧ TI ≠ i2 ∧ TO ≠ i1 ∧ TO ≠ i2 ∧ i1 ≠ i2) :
  Turn P w K (.Tuple elts kt tp) (Rf K b1 b2 a b) [z,TI,TO,i1,i2] z (fun i h => IsZip h z TI TO .none ∧ IsPair h TI (.ref i1) (.ref i2) ∧ (∃ u v,IsPair h TO u v) ∧ cz b1 h i1 a i ∧ cz b2 h i2 b i) where
 mem:=by simp
 obj:=fun i h ⟨hz,qO,⟨u,v,rX⟩,h1,h2⟩ c hc => by
  have dE:c = z ∨ c = TI ∨ c = TO ∨ c = i1 ∨ c = i2:=by simpa using hc
  rcases dE with rfl | rfl | rfl | rfl | rfl
  ·exact ⟨_,hz,fun v q => by have q':Data.fields _ = Data.cell v:=q; cases q'⟩
  ·exact ⟨_,qO,fun v q => by have q':Data.seq _ _ = Data.cell v:=q; cases q'⟩
  ·exact ⟨_,rX,fun v q => by have q':Data.seq _ _ = Data.cell v:=q; cases q'⟩
  ·obtain ⟨o,n,vs,e,_,d⟩:=h1.there
   exact ⟨o,e,fun v q => by rw [d] at q; cases q⟩
  ·obtain ⟨o,n,vs,e,_,d⟩:=h2.there
   exact ⟨o,e,fun v q => by rw [d] at q; cases q⟩
 keep:=fun i h h' ⟨hz,qO,⟨u,v,rX⟩,h1,h2⟩ k => ⟨k z (by simp) _ hz,k TI (by simp) _ qO,⟨u,v,k TO (by simp) _ rX⟩,h1.keep fun o e => k i1 (by simp) o e,h2.keep fun o e => k i2 (by simp) o e⟩
 item:=by
  intro X hP hw hK hc i pins s σ H E I hf st hg
  subst hP hw hK
  obtain ⟨hz,qO,⟨u,v,rX⟩,h1,h2⟩:=st
  obtain ⟨xs,ys,x,y,sx,sy,ex,ey⟩:=hg
  obtain ⟨aE,rv,p,_⟩:=I.HN sx
  obtain ⟨cU,Ld,p2,_⟩:=I.HN sy
  obtain ⟨ux,Tc,rx⟩:=rv.get ex
  obtain ⟨uy,Td,ry⟩:=Ld.get ey
  obtain ⟨n1,n2,n3,n4,n5,n6,n7,n8,n9,MV⟩:=ne
  have fz:=hf z (by simp)
  have e9:∀ {b:Bool} {l:Addr} {zs:List V},uK b X.K H l zs → ∀ c ∈ [z,TI,TO,i1,i2],l ≠ c:=fun {b l zs} hs c dE => I.Ef hs (hf c dE)
  have D:ZipApart z TI TO i1 i2 a b:=⟨n1.symm,n2.symm,n3.symm,n4.symm,n5,n6,n7,n8,n9,MV,e9 sx z (by simp),e9 sx TO (by simp),e9 sx i1 (by simp),e9 sx i2 (by simp),e9 sy z (by simp),e9 sy TO (by simp),e9 sy i1 (by simp),e9 sy i2 (by simp)⟩
  refine xa (b1:=b1) (b2:=b2) D hz qO rX h1 h2 p p2 (x:=ux) (y:=uy) (by simpa using Tc) (by simpa using Td) fun h' a1 a2 a3 a4 a5 a6 => ⟨_,rfl,?_⟩
  have hT:H s.heap.objs.size = none:=I.bz.fresh (Nat.le_refl _)
  have MW:∀ c ∈ [z,TO,i1,i2],H c = none:=fun c dE => (hf c (by simp at dE ⊢; rcases dE with q | q | q | q <;> simp [q])).1
  have kp:∀ c o,c ∉ [z,TO,i1,i2] → s.heap.get? c = some o → h'.get? c = some o:=fun c o dE e => a6 c o (fun q => dE (by simp [q])) (fun q => dE (by simp [q])) (fun q => dE (by simp [q])) (fun q => dE (by simp [q])) e
  have vF:∀ c o,H c = some o → c ∉ [z,TO,i1,i2]:=fun c o e dE => by rw [MW c dE] at e; cases e
  have bz:fQ X.prog X.w (upd H s.heap.objs.size (.tup [x,y])) h':=fun c o e => by
   by_cases Rg:c = s.heap.objs.size
   ·subst Rg
    rw [aZ] at e
    cases e
    exact ⟨by show 2 ≤ sizeLine; decide,[ux,uy],.cons rx (.cons ry .nil),_,a5,rfl,_,rfl⟩
   ·rw [aD Rg] at e
    refine (I.bz c o e).iT (fun d v hd q => kp d v ?_ q) (fun d q => by rw [aD (bo q hT)]; exact q) fun d zs q => by rw [aD (bo q hT)]; exact q
    rcases hd with q' | q'
    ·rw [q']; exact vF c o e
    ·exact vF d _ q'
  have un:Un (fw X.stack) [z,TO,i1,i2] H (upd H s.heap.objs.size (.tup [x,y])) s.heap h' :=
   ⟨fun c o e n _ dE => kp c o dE e,fun c o e n _ dE => ⟨o.slots,kp c o dE e⟩,fun c o e n dE => by rw [aD (Nat.ne_of_lt (Heap.lt_size e))]; exact n,fun c o e dE => ⟨o,kp c o dE e⟩,
    fun c zs e => by rw [aD (bo e hT)]; exact e,fun c o u e => by rw [aD (bo e hT)]; exact e,fun c ps e => ⟨#[],by rw [aD (bo e hT),e]; simp⟩⟩
  have I1:Inv X pins σ (upd H s.heap.objs.size (.tup [x,y])) { s with heap:=h' }:=I.vH rfl un bz I.bare fun c dE => by
   obtain ⟨f0,f1,f2,f3,f4,f5⟩:=hf c (by simp at dE ⊢; rcases dE with q | q | q | q <;> simp [q])
   exact ⟨f3,f1,f4,f5⟩
  have Te:∀ c ∈ [z,TI,TO,i1,i2],c ≠ s.heap.objs.size:=fun c dE q => by
   have sA:c < s.heap.objs.size:=by
    have MX:c = z ∨ c = TI ∨ c = TO ∨ c = i1 ∨ c = i2:=by simpa using dE
    rcases MX with r | r | r | r | r
    ·rw [r]; exact Heap.lt_size hz
    ·rw [r]; exact Heap.lt_size qO
    ·rw [r]; exact Heap.lt_size rX
    ·obtain ⟨o,_,_,e,_⟩:=h1.there; rw [r]; exact Heap.lt_size e
    ·obtain ⟨o,_,_,e,_⟩:=h2.there; rw [r]; exact Heap.lt_size e
   exact absurd sA (by rw [q]; exact Nat.lt_irrefl _)
  have Rh:∀ c ∈ [z,TI,TO,i1,i2],(upd H s.heap.objs.size (.tup [x,y])) c = none:=fun c dE => by rw [aD (Te c dE)]; exact (hf c dE).1
  refine wpAny_letOwnedTupleGo_zip a1 fun F0 MY sb => ?_
  obtain ⟨f0,f1,f2,f3,f4,f5⟩:=fz
  have I2:Inv X pins σ (upd H s.heap.objs.size (.tup [x,y])) { s with heap:=F0 }:=I1.turned (s:={ s with heap:=h' }) (t':=s.toks) (it:=z) (fun c o dE e => (sb.2 c dE).trans e) (Rh z (by simp)) f1 f3 f4 f5
  refine ⟨.ref s.heap.objs.size,_,I2,rfl,⟨_,x,y,rfl,hT,rfl,fun zs hs => by rw [I.vS hs sx]; exact ex,fun zs hs => by rw [I.vS hs sy]; exact ey⟩,⟨MY,?_,⟨_,_,sb.extBut _ _ n2.symm a2⟩,a3.keep fun o e => sb.extBut _ o n3.symm e,a4.keep fun o e => sb.extBut _ o n4.symm e⟩,Rh⟩
  exact sb.extBut _ _ n1.symm (a6 _ _ n1.symm n5 n6 n7 qO)
 done:=by
  intro X hP hw hK hc i pins s σ H E I hf st hg
  subst hP hw hK
  obtain ⟨hz,qO,⟨u,v,rX⟩,h1,h2⟩:=st
  obtain ⟨xs,ys,sx,sy,hl⟩:=hg
  obtain ⟨aE,rv,p,_⟩:=I.HN sx
  obtain ⟨cU,Ld,p2,_⟩:=I.HN sy
  have l1:=rv.length
  have l2:=Ld.length
  obtain ⟨n1,n2,n3,n4,n5,n6,n7,n8,n9,MV⟩:=ne
  have e9:∀ {b:Bool} {l:Addr} {zs:List V},uK b X.K H l zs → ∀ c ∈ [z,TI,TO,i1,i2],l ≠ c:=fun {b l zs} hs c dE => I.Ef hs (hf c dE)
  have D:ZipApart z TI TO i1 i2 a b:=⟨n1.symm,n2.symm,n3.symm,n4.symm,n5,n6,n7,n8,n9,MV,e9 sx z (by simp),e9 sx TO (by simp),e9 sx i1 (by simp),e9 sx i2 (by simp),e9 sy z (by simp),e9 sy TO (by simp),e9 sy i1 (by simp),e9 sy i2 (by simp)⟩
  refine y8 (b1:=b1) (b2:=b2) (I.ok.hd hc) D hz qO rX h1 h2 p p2 (by rcases hl with q | q; exact .inl (by simp; lia); exact .inr (by simp; lia)) fun h' a6 => ⟨rfl,?_⟩
  have MW:∀ c ∈ [z,TO,i1,i2],H c = none:=fun c dE => (hf c (by simp at dE ⊢; rcases dE with q | q | q | q <;> simp [q])).1
  have kp:∀ c o,c ∉ [z,TO,i1,i2] → s.heap.get? c = some o → h'.get? c = some o:=fun c o dE e => a6 c o (fun q => dE (by simp [q])) (fun q => dE (by simp [q])) (fun q => dE (by simp [q])) (fun q => dE (by simp [q])) e
  have vF:∀ c o,H c = some o → c ∉ [z,TO,i1,i2]:=fun c o e dE => by rw [MW c dE] at e; cases e
  have bz:fQ X.prog X.w H h':=fun c o e => by
   refine (I.bz c o e).iT (fun d v hd q => kp d v ?_ q) (fun d q => q) fun d zs q => q
   rcases hd with q' | q'
   ·rw [q']; exact vF c o e
   ·exact vF d _ q'
  have un:Un (fw X.stack) [z,TO,i1,i2] H H s.heap h' :=
   ⟨fun c o e n _ dE => kp c o dE e,fun c o e n _ dE => ⟨o.slots,kp c o dE e⟩,fun c o e n dE => n,fun c o e dE => ⟨o,kp c o dE e⟩,fun c zs e => e,fun c o u e => e,fun c ps e => ⟨#[],by rw [e]; simp⟩⟩
  exact I.vH rfl un bz I.bare fun c dE => by
   obtain ⟨f0,f1,f2,f3,f4,f5⟩:=hf c (by simp at dE ⊢; rcases dE with q | q | q | q <;> simp [q])
   exact ⟨f3,f1,f4,f5⟩
 self:=fun _ _ _ _ _ st h => wpAny_pyIter_zip st.1 h
section
variable {X:Cx} {elts:List Expr} {kt:Nat} {tp p pos:Pos}
noncomputable def MZ (K:PySem.W.Frag) (b1 b2:Bool) (ta:TA):TI:=fun σ H R => ta σ H fun vs H1 => ∃ a b,vs = [.ref a,.ref b] ∧ (∃ xs,uK b1 K H1 a xs) ∧ (∃ ys,uK b2 K H1 b ys) ∧ R (Rf K b1 b2 a b) H1
theorem F1 (b1 b2:Bool) {ea eb:Expr} {ta:TA} (hg:Gl X "zip") (hm:X.mg "zip" = none) (ha:PA X [ea,eb] ta) (hs:starEach [ea,eb] X.env = [(false,eval ea X.env),(false,eval eb X.env)]:=by rfl) (gP:starEach [eb] X.env = [(false,eval eb X.env)]:=by rfl) :
  PI X (.Tuple elts kt tp) (.Call (.Name "zip" p) [ea,eb] [] pos) (MZ X.K b1 b2 ta):=by
 intro pins s σ H R I h
 refine Call_ (ja I hg hm boot_zip (PyProof.Rows.callWith_type1 (cb (ha pos pins s σ H _ I h) fun us s1 ⟨vs,H1,I1,r1,q1⟩ => ?_) (by rw [hs,gP]) (by rw [gP]; rfl)))
 obtain ⟨a,b,e,⟨xs,sx⟩,⟨ys,sy⟩,q⟩:=q1
 subst e
 obtain ⟨u,u2,rfl,ru,Jg⟩:=vals2 r1
 cases ru
 cases Jg
 obtain ⟨aE,rv,p1,_⟩:=I1.HN sx
 obtain ⟨cU,Ld,p2,_⟩:=I1.HN sy
 refine y_ (b1:=b1) (b2:=b2) p1 p2 fun h' hz qO rX g1 g2 kp => wpAny_pyIter_zip hz ?_
 have I2:Inv X pins σ H1 { s1 with heap:=h' }:=I1.kept (t':=s1.toks) kp
 refine ⟨_,[s1.heap.objs.size + 4,s1.heap.objs.size + 2,s1.heap.objs.size + 3,s1.heap.objs.size,s1.heap.objs.size + 1],_,_,H1,rfl,I2,zd (b1:=b1) (b2:=b2) a b ?_,⟨hz,qO,⟨_,_,rX⟩,g1,g2⟩,fun c hc => ?_,q⟩
 ·refine ⟨?_,?_,?_,?_,?_,?_,?_,?_,?_,?_⟩ <;> (intro z; have z':(_:Nat) = _:=z; lia)
 ·have hle:s1.heap.objs.size ≤ c:=by
   have dE:c = s1.heap.objs.size + 4 ∨ c = s1.heap.objs.size + 2 ∨ c = s1.heap.objs.size + 3 ∨ c = s1.heap.objs.size ∨ c = s1.heap.objs.size + 1:=by simpa using hc
   rcases dE with r | r | r | r | r <;> (rw [r]; first | exact Nat.le_refl _ | exact Nat.le_add_right _ _)
  exact I1.wL hle (I1.bz.fresh hle)
end
end L2
namespace L2
open PySem PySem.Spec PyProof.Rows
theorem bL.there {P:Program} {w:World} {H:Hp} {h:Heap} {a:Addr} {o:HO} (x:bL P w H h a o):∃ ob,h.get? a = some ob:=by
 cases o with
 | lst xs => obtain ⟨_,_,_,_,e⟩:=x; exact ⟨_,e⟩
 | tup xs => obtain ⟨_,_,_,ob,e,_⟩:=x; exact ⟨_,e⟩
 | dK aI => obtain ⟨_,_,_,_,o,_,_,e,_⟩:=x; exact ⟨_,e⟩
 | dT aI => obtain ⟨_,_,_,_,o,_,_,e,_⟩:=x; exact ⟨_,e⟩
 | set S n => obtain ⟨o,_,_,_,e,_⟩:=x; exact ⟨_,e⟩
 | ins C dx fs => obtain ⟨_,_,_,e,_⟩:=x; exact ⟨_,e⟩
 | own y => obtain ⟨_,e⟩:=x; exact ⟨_,e⟩
 | xd fs => obtain ⟨_,⟨_,_,_,e,_⟩,_⟩:=x; exact ⟨_,e⟩
 | KS lo hi => obtain ⟨_,_,_,e⟩:=x; exact ⟨_,e⟩
 | d0 ob u => obtain ⟨e,_⟩:=x; exact ⟨_,e⟩
 | o5 ps => exact ⟨_,(show h.get? a = some _ from x)⟩
 | met f y => exact ⟨_,(show h.get? a = some _ from x)⟩
 | ext φ => obtain ⟨_,e,_⟩:=x; exact e
structure Ri (P:Program) (w:World) (l:List Env) (H H':Hp) (s s':Shared) (ea:Addr) (cls:Value):Prop where
 os:s'.os = s.os
 bare:AllBare s'.gens
 un:Un (fw l) [] H H' s.heap s'.heap
 bz:fQ P w H' s'.heap
 fl:∃ (B:Heap) (t:Addr),Heap.FlyingW B l ea cls (.ref t) s'.heap ∧ (∀ b,H' b ≠ none → ∃ o,B.get? b = some o) ∧ (∀ b o,s.heap.get? b = some o → b ∉ fw l → ∃ o',B.get? b = some o')
noncomputable def jx (P:Program) (w:World):yK:=fun outer H s E e s' => ∃ ea cls H',e = .ref ea ∧ Ri P w outer H H' s s' ea cls ∧ E cls none H'
section
variable {P:Program} {w:World} {K:PySem.W.Frag} {mg:Str → Option Value} {base:Heap} {N:List Str} {qual:Str} {scope:Scope} {f:Addr} {cd:Value} {A:Around} {outer:List Env} {s₀:Shared} {H₀:Hp} {E:XK}
theorem sC {env:Env} {L:Addr} (hf:env.frame = some L) (l:List Env):fw (env :: l) = L :: fw l:=by
 unfold fw
 rw [List.filterMap_cons,hf]
theorem xb {pins:List (Addr × Obj)} {σ:St} {H:Hp} {s:Shared} {h':Heap} {e:Addr} {cls:Value} {vs:List Value} (I:Inv (f_ (jx P w) P w K mg base N qual scope f cd A outer s₀ H₀ E) pins σ H s)
  (hx:Heap.MadeExcOf s.heap h' e cls vs) (hE:E cls none H):(f_ (jx P w) P w K mg base N qual scope f cd A outer s₀ H₀ E).xe (.ref e) { s with heap:=h' }:=by
 have Bw:=I.stack
 have vG:=I.qw
 have Jh:(A.deeper (envOfC qual scope s₀.heap.objs.size f cd)).frames = some (envOfC qual scope s₀.heap.objs.size f cd :: outer):=I.ok.frames
 have Ji:fw (envOfC qual scope s₀.heap.objs.size f cd :: outer) = s₀.heap.objs.size :: fw outer:=sC rfl outer
 have Tf:∀ env ∈ (envOfC qual scope s₀.heap.objs.size f cd :: outer),∀ b,env.frame = some b → b ∈ fw (envOfC qual scope s₀.heap.objs.size f cd :: outer):=fun env he b hb => List.mem_filterMap.mpr ⟨env,he,hb⟩
 have Eg:∀ b o,s₀.heap.get? b = some o → b ∉ fw outer → b ∉ fw (envOfC qual scope s₀.heap.objs.size f cd :: outer):=fun b o q hb hm => by
  rw [Ji] at hm
  rcases List.mem_cons.mp hm with z | z
  ·exact absurd (Heap.lt_size q) (by rw [z]; exact Nat.lt_irrefl _)
  ·exact hb z
 refine wpAny_leaves_madeW (base:=PySem.W.hideAll s.heap (fw (envOfC qual scope s₀.heap.objs.size f cd :: outer))) (h:=s.heap) Jh rfl (fun b o q => PySem.W.of_hideAll _ q) (PySem.W.funFrames_hide Bw Tf) hx fun F0 t fl _ _ up => ?_
 have stays:∀ b o,s.heap.get? b = some o → b ∉ fw (envOfC qual scope s₀.heap.objs.size f cd :: outer) → F0.get? b = some o:=fun b o q hb => fl.1 b o (PySem.W.hideAll_get _ q hb)
 have vF:∀ b u,H b = some u → b ∉ fw (envOfC qual scope s₀.heap.objs.size f cd :: outer):=fun b u q hb => by rw [vG b hb] at q; cases q
 have slot:∀ b o,s₀.heap.get? b = some o → H₀ b = none → b ∈ fw outer → ∃ sl,F0.get? b = some { o with slots:=sl }:=fun b o q n hb => by
  obtain ⟨sl,e1⟩:=I.base.slot b o q n hb (by intro z; cases z)
  obtain ⟨_,o',lK,Cq⟩:=Bw.mem (show b ∈ fw (envOfC qual scope s₀.heap.objs.size f cd :: outer) by rw [Ji]; exact List.mem_cons_of_mem _ hb)
  rw [e1] at lK
  cases lK
  obtain ⟨EY,e2⟩:=up b _ (hx.keeps _ _ e1) Cq
  exact ⟨EY,e2⟩
 have nil:∀ b:Addr,b ∉ (f_ (jx P w) P w K mg base N qual scope f cd A outer s₀ H₀ E).ex:=fun b z => by cases z
 refine ⟨e,cls,H,rfl,⟨I.os,I.bare,⟨fun b o q n hb _ => stays b o (I.base.keep b o q n hb (nil b)) (Eg b o q hb),fun b o q n hb _ => slot b o q n hb,fun b o q n _ => I.base.free b o q n (nil b),fun b o q _ => ?_,I.base.h_,I.base.gK,I.base.ie⟩,fun b u q => ?_,PySem.W.hideAll s.heap (fw (envOfC qual scope s₀.heap.objs.size f cd :: outer)),t,fl,fun b hb => ?_,fun b o q hb => ?_⟩,hE⟩
 ·by_cases hb:b ∈ fw outer
  ·obtain ⟨sl,e1⟩:=slot b o q (I.ok.wJ b hb) hb
   exact ⟨_,e1⟩
  ·obtain ⟨o',e1⟩:=I.base.there b o q (nil b)
   exact ⟨o',stays b o' e1 (Eg b o q hb)⟩
 ·refine (I.bz b u q).iT (fun c v hc z => stays c v z ?_) (fun _ z => z) fun _ _ z => z
  rcases hc with z' | z'
  ·rw [z']; exact vF b u q
  ·exact vF c _ z'
 ·cases q:H b with
  | none => exact absurd q hb
  | some u =>
   obtain ⟨o,e1⟩:=(I.bz b u q).there
   exact ⟨o,PySem.W.hideAll_get _ e1 (vF b u q)⟩
 ·obtain ⟨o',e1⟩:=I.base.there b o q (nil b)
  exact ⟨o',PySem.W.hideAll_get _ e1 (Eg b o q hb)⟩
theorem aF:Passes (jx P w) (f_ (jx P w) P w K mg base N qual scope f cd A outer s₀ H₀ E) E:=by
 rintro pins σ H s e s' I ⟨ea,cls,H',rfl,Z,hE⟩
 obtain ⟨B,t,fl,ct,cs⟩:=Z.fl
 have Jh:(A.deeper (envOfC qual scope s₀.heap.objs.size f cd)).frames = some (envOfC qual scope s₀.heap.objs.size f cd :: outer):=I.ok.frames
 have Ji:fw (envOfC qual scope s₀.heap.objs.size f cd :: outer) = s₀.heap.objs.size :: fw outer:=sC rfl outer
 have Eg:∀ b o,s₀.heap.get? b = some o → b ∉ fw outer → b ∉ fw (envOfC qual scope s₀.heap.objs.size f cd :: outer):=fun b o q hb hm => by
  rw [Ji] at hm
  rcases List.mem_cons.mp hm with z | z
  ·exact absurd (Heap.lt_size q) (by rw [z]; exact Nat.lt_irrefl _)
  ·exact hb z
 have sub:∀ b,b ∈ fw outer → b ∈ fw (envOfC qual scope s₀.heap.objs.size f cd :: outer):=fun b hb => by rw [Ji]; exact List.mem_cons_of_mem _ hb
 have nil:∀ b:Addr,b ∉ (f_ (jx P w) P w K mg base N qual scope f cd A outer s₀ H₀ E).ex:=fun b z => by cases z
 refine wpAny_leaves_onW Jh rfl fl fun F0 M3 up => ?_
 have Cr:∀ b o,s'.heap.get? b = some o → (∃ o',B.get? b = some o') → F0.get? b = some o:=fun b o q ⟨o',z⟩ => by
  have q':=fl.1 b o' z
  rw [q] at q'
  cases q'
  exact M3.1 b o z
 have slot:∀ b o,s₀.heap.get? b = some o → H₀ b = none → b ∈ fw outer → ∃ sl,F0.get? b = some { o with slots:=sl }:=fun b o q n hb => by
  obtain ⟨sl,e1⟩:=I.base.slot b o q n hb (nil b)
  obtain ⟨FA,e2⟩:=Z.un.slot b _ e1 (I.base.free b o q n (nil b)) (sub b hb) (by intro z; cases z)
  obtain ⟨_,o',lK,Cq⟩:=fl.2.2.1.mem (sub b hb)
  rw [e2] at lK
  cases lK
  obtain ⟨EY,e3⟩:=up b _ e2 Cq
  exact ⟨EY,e3⟩
 refine ⟨ea,cls,H',rfl,⟨Z.os.trans I.os,Z.bare,⟨fun b o q n hb _ => ?_,fun b o q n hb _ => slot b o q n hb,fun b o q n _ => ?_,fun b o q _ => ?_,fun b xs q => Z.un.h_ b xs (I.base.h_ b xs q),fun b o u q => Z.un.gK b o u (I.base.gK b o u q),fun b ps q => ?_⟩,fun b u q => ?_,B,t,M3,ct,fun b o q hb => ?_⟩,hE⟩
 ·have e1:=I.base.keep b o q n hb (nil b)
  have n1:=I.base.free b o q n (nil b)
  have nf:=Eg b o q hb
  exact Cr b o (Z.un.keep b o e1 n1 nf (by intro z; cases z)) (cs b o e1 nf)
 ·obtain ⟨o',e1⟩:=I.base.there b o q (nil b)
  exact Z.un.free b o' e1 (I.base.free b o q n (nil b)) (by intro z; cases z)
 ·by_cases hb:b ∈ fw outer
  ·obtain ⟨sl,e1⟩:=slot b o q (I.ok.wJ b hb) hb
   exact ⟨_,e1⟩
  ·obtain ⟨o',e1⟩:=I.base.there b o q (nil b)
   obtain ⟨o2,e2⟩:=cs b o' e1 (Eg b o q hb)
   exact ⟨o2,M3.1 b o2 e2⟩
 ·obtain ⟨m1,e1⟩:=I.base.ie b ps q
  obtain ⟨m2,e2⟩:=Z.un.ie b _ e1
  exact ⟨m1 ++ m2,by rw [e2,Array.append_assoc]⟩
 ·refine (Z.bz b u q).iT (fun c v hc z => Cr c v z (ct c ?_)) (fun _ z => z) fun _ _ z => z
  rcases hc with z' | z'
  ·rw [z',q]; simp
  ·rw [z']; simp
 ·obtain ⟨o',e1⟩:=I.base.there b o q (nil b)
  exact cs b o' e1 (Eg b o q hb)
theorem jw.Tg {x:Str} {st:Stmt} {fd:FuncData} {ps:List Str} {k:Nat} {sp:Sp} (F:jw K x qual st f fd) (S:bc N ps (aq st)) (len:∀ vs H Q E,sp vs H Q E → vs.length = ps.length)
  (yN:∀ (dk:Value) (A:Around) (outer:List Env) (s:Shared) (H:Hp) (vs:List V) (Q:VK) (E:XK),cY k (A.deeper (envOfC qual (aq st) s.heap.objs.size f dk)) → sp vs H Q E →
   ∃ t,i_ (f_ (jx P w) P w K mg base N qual (aq st) f dk A outer s H E) (aO st) t ∧ t { nx:=fun _ H' => Q .da H',rt:=Q } (start N vs) H):kC P w K mg base (jx P w) (k + 1) f fd ps sp:=by
 obtain ⟨oc,od,kV,doc,pm,an,dk,ct,BY,rfl,lk,m6⟩:=F.ex
 exact D9 lk m6 S len fun A outer s H vs Q E hr HJ => yN dk A outer s H vs Q E hr HJ
end
theorem xc {K:PySem.W.Frag} {h:Heap} {mg:Str → Option Value} {x:Str} {C:Addr} {Rj:List Value} {newId:String} (X:K.In h) (hb:mg x = some (.ref C)) (q:PySem.W.excIn K C Rj newId = true):OwnCls x C Rj newId mg h:=by
 refine ⟨hb,?_⟩
 unfold PySem.W.excIn at q
 split at q
 ·rename_i dd cd sl ho
  split at q
  ·rename_i C' bm k0 k1 k2 k3 n k5 hm hs
   simp only [Bool.and_eq_true,beq_iff_eq,Bool.not_eq_true'] at q
   obtain ⟨⟨⟨⟨⟨rfl,rfl⟩,Jj⟩,ht⟩,bz⟩,Le⟩:=q
   obtain ⟨nm,bs,mro,ns,qn,hd,sn,sub,ab,col,del⟩:=cd
   dsimp only at hm Jj bz Le
   subst hm Jj
   have Th:sl = #[k0,k1,k2,k3,some (.builtin n),k5]:=by
    obtain ⟨l⟩:=sl
    simp only at hs
    rw [hs]
   subst Th
   exact ⟨bm,ns,nm,qn,bs,hd,sn,sub,ab,col,dd,k0,k1,k2,k3,k5,_,X _ _ ho,.of_isNs (PySem.W.isNs_of_in X bz),PySem.W.nsMap_none_of_in X bz Le,PySem.W.tail_of_in X ht⟩
  ·cases q
 ·cases q
noncomputable def F3 (E:XK) (C:Addr) (t:TA):TS:=fun _ σ H => t σ H fun vs H1 => vs.length ≤ sizeLine ∧ E (.ref C) none H1
noncomputable def Raises (X:Cx) (E:XK):Prop:=∀ (pins:List (Addr × Obj)) (σ:St) (H:Hp) (s:Shared) (h':Heap) (e:Addr) (cls:Value) (vs:List Value),Inv X pins σ H s → Heap.MadeExcOf s.heap h' e cls vs → E cls none H → X.xe (.ref e) { s with heap:=h' }
theorem zg {X:Cx} {E:XK} {x:Str} {C:Addr} {B newId uL:String} {bm:List Value} {np cu pos:Pos} {e₀:Expr} {rest:List Expr} {t:TA} (hX:Raises X E) (hc:X.calm = true) (hm:X.mg x = some (.ref C)) (hq:PySem.W.excIn X.K C bm newId = true) (FB:ExcBaseFacts B newId uL bm) (hg:Gl X x) (ha:PA X (e₀ :: rest) t)
  (he:starEach (e₀ :: rest) X.env = (false,eval e₀ X.env) :: starEach rest X.env:=by rfl) (iG:(backTo cu (starEach rest X.env)).any (·.1) = false:=by rfl) (hd:(x == ("__debug__":Str)) = false:=by decide) :
  PS X (.Raise (some (.Call (.Name x np) (e₀ :: rest) [] cu)) none pos) (F3 E C t):=by
 intro pins s σ H D I h
 obtain ⟨tl,NS,nm,q,bs,hdct,sn,sub,ab,col,dd,k0,k1,k2,k3,k5,mN,hC,hN,Le,T⟩:=(xc I.mod.HF hm hq).obj
 refine wpAny_Raise_call_subT (C:=C) (nm:=nm) (q:=q) (N:=NS) (bs:=bs) (bm:=tl) (hdct:=hdct) (sn:=sn) (sub:=sub) (ab:=ab) (col:=col) (dd:=dd) (k0:=k0) (k1:=k1) (k2:=k2) (k3:=k3) (k5:=k5)
  FB (mN:=mN) (T.hasType FB.hasBase) (I.ok.hd hc) (by rw [he]; show (false || (backTo cu (starEach rest X.env)).any (·.1)) = false; rw [iG]; rfl) Le (iF I hg hm ⟨rfl,?_⟩ hd)
 have hA:=ha cu pins s σ H _ I h
 rw [he] at hA ⊢
 exact Calls.evalArgs_plain (cb hA fun us s2 ⟨vs,H2,I2,r2,z,q2⟩ => ⟨rfl,by rw [← r2.length]; exact z,I2.bk _ _ hC,hN.keeps I2.bk,T.keeps I2.bk,fun h' e M4 => hX pins σ H2 s2 h' e _ _ I2 M4 q2⟩)
end L2
namespace L2
open PySem PySem.Spec PyProof.Rows
structure DefX (X:Cx):Prop where
 fn:∀ y,X.fn y = true
 BF:X.stack = X.env :: X.outer
 fr:X.env.frame = some X.env.locals
structure sD (X:Cx) (pins:List (Addr × Obj)) (σ:St) (H:Hp) (s:Shared) (ea:Addr) (cls:Value):Prop where
 inv:Inv X pins σ H s
 fl:∃ (B:Heap) (t:Addr),Heap.FlyingW B X.stack ea cls (.ref t) s.heap ∧ (∀ b,H b ≠ none → ∃ o,B.get? b = some o) ∧ (∀ b o,X.s₀.heap.get? b = some o → b ∉ fw X.stack → b ∉ X.ex → ∃ o',B.get? b = some o') ∧ (∀ p ∈ X.pn ++ pins,∃ o',B.get? p.1 = some o') ∧ (∀ x c,X.env.cells.lookup x = some c → ∃ o,B.get? c = some o)
section
variable {X:Cx} {pins:List (Addr × Obj)} {σ:St} {H H':Hp} {s s':Shared} {ea:Addr} {cls:Value}
theorem Inv.Cs (I:Inv X pins σ H s) {b:Addr} (h1:b ≠ X.env.locals) (h2:b ∉ X.fs):b ∉ fw X.stack:=fun z => (List.mem_cons.mp (I.ku b z)).elim h1 h2
theorem Inv.slots {B h':Heap} (I:Inv X pins σ H s) (sB:B.StaysIn s.heap) (c1:∀ b,H b ≠ none → ∃ o,B.get? b = some o) (c2:∀ b o,X.s₀.heap.get? b = some o → b ∉ fw X.stack → b ∉ X.ex → ∃ o',B.get? b = some o') (c3:∀ p ∈ X.pn ++ pins,∃ o',B.get? p.1 = some o')
  (c4:∀ x c,X.env.cells.lookup x = some c → ∃ o,B.get? c = some o) (k1:B.StaysIn h') (k2:s.heap.UpToSlots h'):Inv X pins σ H { s with heap:=h' }:=by
 have Cr:∀ b o,s.heap.get? b = some o → (∃ o',B.get? b = some o') → h'.get? b = some o:=fun b o q ⟨o',z⟩ => by
  have q':=sB b o' z
  rw [q] at q'
  cases q'
  exact k1 b o z
 have yz:∀ b o,X.s₀.heap.get? b = some o → b ≠ X.env.locals:=fun b o e => Nat.ne_of_lt (Nat.lt_of_lt_of_le (Heap.lt_size e) I.ok.above)
 have slot:∀ b o,X.s₀.heap.get? b = some o → X.H₀ b = none → b ∈ X.fs → b ∉ X.ex → ∃ sl,h'.get? b = some { o with slots:=sl }:=fun b o q n hb hx => by
  obtain ⟨sl,e1⟩:=I.base.slot b o q n hb hx
  obtain ⟨_,o',lK,Cq⟩:=I.hR.mem hb
  rw [e1] at lK
  cases lK
  obtain ⟨EY,e2⟩:=k2 b _ e1 Cq
  exact ⟨EY,e2⟩
 refine ⟨I.ok,I.os,I.bare,⟨fun b o q n hb hx => ?_,slot,I.base.free,fun b o q hx => ?_,I.base.h_,I.base.gK,I.base.ie⟩,?_,fun x c e => ?_,I.free,I.fH,fun p hp => ?_,fun b u q => ?_,I.len⟩
 ·exact Cr b o (I.base.keep b o q n hb hx) (c2 b o q (I.Cs (yz b o q) hb) hx)
 ·by_cases hb:b ∈ X.fs
  ·obtain ⟨sl,e1⟩:=slot b o q (I.ok.wJ b hb) hb hx
   exact ⟨_,e1⟩
  ·obtain ⟨o',e1⟩:=I.base.there b o q hx
   exact ⟨o',Cr b o' e1 (c2 b o q (I.Cs (yz b o q) hb) hx)⟩
 ·obtain ⟨m,hn,hl⟩:=I.loc
  refine ⟨m,k2.ns hn,fun i x v e1 e2 e3 => ?_⟩
  obtain ⟨u,r,l⟩:=hl i x v e1 e2 e3
  refine ⟨u,r,?_⟩
  rcases l with l | ⟨k,c,e,o,ho,hd⟩
  ·exact .inl l
  ·exact .inr ⟨k,c,e,o,Cr c o ho (c4 x c e),hd⟩
 ·obtain ⟨v,o,ho,hd⟩:=I.cell x c e
  exact ⟨v,o,Cr c o ho (c4 x c e),hd⟩
 ·obtain ⟨e,n,ne,nf,d⟩:=I.pin p hp
  exact ⟨Cr p.1 p.2 e (c3 p hp),n,ne,nf,d⟩
 ·refine (I.bz b u q).iT (fun c v hc z => Cr c v z (c1 c ?_)) (fun _ z => z) fun _ _ z => z
  rcases hc with z' | z'
  ·rw [z',q]; simp
  ·rw [z']; simp
theorem sD.slots (J:sD X pins σ H s ea cls):∃ (B:Heap) (t:Addr),Heap.FlyingW B X.stack ea cls (.ref t) s.heap ∧ H ea = none ∧ ∀ h',Heap.FlyingW B X.stack ea cls (.ref t) h' → s.heap.UpToSlots h' → sD X pins σ H { s with heap:=h' } ea cls:=by
 obtain ⟨B,t,fl,c1,c2,c3,c4⟩:=J.fl
 refine ⟨B,t,fl,?_,fun h' f2 up => ⟨J.inv.slots fl.1 c1 c2 c3 c4 f2.1 up,B,t,f2,c1,c2,c3,c4⟩⟩
 cases q:H ea with
 | none => rfl
 | some u =>
  obtain ⟨o,e⟩:=c1 ea (by rw [q]; simp)
  rw [fl.2.1] at e
  cases e
theorem Inv.flew (I:Inv X pins σ H s) (o7:∀ y,X.fn y = true) (Z:Ri X.prog X.w X.stack H H' s s' ea cls):sD X pins σ H' s' ea cls:=by
 obtain ⟨B,t,fl,ct,cs⟩:=Z.fl
 have cl:∀ x c,X.env.cells.lookup x = some c → c ∉ fw X.stack:=fun x c e => I.Cs (I.yy x c e) fun hb => by
  obtain ⟨_,o,ho,_⟩:=I.ok.hR.mem hb
  exact absurd (Nat.lt_of_lt_of_le (Heap.lt_size ho) (I.ok.yu x c (o7 x) e)) (Nat.lt_irrefl _)
 refine ⟨I.vH Z.os Z.un Z.bz Z.bare fun b z => absurd z (by simp),B,t,fl,ct,fun b o q hb hx => ?_,fun p hp => ?_,fun x c e => ?_⟩
 ·obtain ⟨o',e1⟩:=I.base.there b o q hx
  exact cs b o' e1 hb
 ·obtain ⟨e,n,ne,nf,d⟩:=I.pin p hp
  exact cs p.1 p.2 e (I.Cs ne nf)
 ·obtain ⟨v,o,ho,_⟩:=I.cell x c e
  exact cs c o ho (cl x c e)
end
noncomputable abbrev EK:=Value → Addr → St → Hp → Prop
noncomputable abbrev EH:=Value → Addr → Hp → Prop
noncomputable abbrev Ct:=St → Hp → VK → EH → Prop
noncomputable abbrev Cu:=St → Hp → (List V → Hp → Prop) → EH → Prop
noncomputable abbrev F4:=Ends → EK → St → Hp → Prop
noncomputable def XP (X:Cx) (pins:List (Addr × Obj)) (EX:EK) (e:Value) (s':Shared):Prop:=∃ ea cls σ' H',e = .ref ea ∧ sD X pins σ' H' s' ea cls ∧ EX cls ea σ' H'
noncomputable abbrev atS (σ:St) (EX:EH):EK:=fun cls ea σ' H' => σ' = σ ∧ EX cls ea H'
noncomputable def qP (X:Cx) (e:Expr) (t:Ct):Prop :=
 ∀ (pins:List (Addr × Obj)) (s:Shared) (σ:St) (H:Hp) (Q:VK) (EX:EH),Inv X pins σ H s → t σ H Q EX → wpAny (model X.prog X.w) X.A (eval e X.env) (EP X pins σ Q) (XP X pins (atS σ EX)) s
noncomputable def xf (X:Cx) (es:List Expr) (t:Cu):Prop :=
 ∀ (pos:Pos) (pins:List (Addr × Obj)) (s:Shared) (σ:St) (H:Hp) (Q:List V → Hp → Prop) (EX:EH),Inv X pins σ H s → t σ H Q EX → wpAny (model X.prog X.w) X.A (spliced (backTo pos (starEach es X.env))) (AP X pins σ Q) (XP X pins (atS σ EX)) s
noncomputable def ym (X:Cx) (st:Stmt) (t:F4):Prop :=
 ∀ (pins:List (Addr × Obj)) (s:Shared) (σ:St) (H:Hp) (D:Ends) (EX:EK),Inv X pins σ H s → t D EX σ H → wpAny (model X.prog X.w) X.A (exec st X.env) (SP X pins D) (XP X pins EX) s
noncomputable def zh (X:Cx) (st:List Stmt) (t:F4):Prop :=
 ∀ (pins:List (Addr × Obj)) (s:Shared) (σ:St) (H:Hp) (D:Ends) (EX:EK),Inv X pins σ H s → t D EX σ H → wpAny (model X.prog X.w) X.A (execs st X.env) (SP X pins D) (XP X pins EX) s
section
variable {X:Cx}
theorem F5 {e:Expr} {t:TE} (h:∀ W,PE (X.jz W) e t):qP X e (fun σ H Q _ => t σ H Q):=fun pins s σ H Q EX I hw =>
 cb (h (XP X pins (atS σ EX)) pins s σ H Q (I.jz _) hw) fun _ _ ⟨v,H',I',r,q⟩ => ⟨v,H',I'.m8,r,q⟩
theorem XP.at {pins:List (Addr × Obj)} {σ:St} {EX:EK} {e:Value} {s':Shared} (h:XP X pins (atS σ fun cls ea H' => EX cls ea σ H') e s'):XP X pins EX e s':=by
 obtain ⟨ea,cls,σ',H',rfl,J,rfl,q⟩:=h
 exact ⟨ea,cls,_,H',rfl,J,q⟩
noncomputable def F6 (sp:Sp) (t:TA):Ct:=fun σ H Q EX => t σ H fun vs H1 => sp vs H1 Q fun cls _ H' => ∀ ea,EX cls ea H'
theorem zi {k:Nat} {f:Addr} {fd:FuncData} {ps:List Str} {sp:Sp} {x:Str} {p pos:Pos} {e:Expr} {es:List Expr} {t:TA} (F:kC X.prog X.w X.K X.mg X.base (jx X.prog X.w) k f fd ps sp) (hr:cY k X.A) (hg:Gl X x) (hm:X.mg x = some (.ref f)) (hk:PySem.W.keepIn X.K (.ref f) = true) (hb:Binds X.K fd ps []) (o7:∀ y,X.fn y = true)
  (ha:∀ W,PA (X.jz W) (e :: es) t) (jB:(x == ("__debug__":Str)) = false:=by decide) (he:starEach (e :: es) X.env = (false,eval e X.env) :: starEach es X.env:=by rfl) (iG:(backTo pos (starEach es X.env)).any (·.1) = false:=by rfl) :
  qP X (.Call (.Name x p) (e :: es) [] pos) (F6 sp t):=by
 intro pins s σ H Q EX I h
 refine wpAny_Call_Name_kw (iF I hg hm ?_ jB)
 refine PySem.W.callWith_K (h₀:=X.base) I.ok.mod.HF hk (cb (ha (XP X pins (atS σ EX)) pos pins s σ H _ (I.jz _) h) fun us s1 ⟨vs,H1,I1,r,q⟩ => ⟨I1.m8.mU,?_⟩) he iG
 have I2:=I1.m8
 have hl:(us ++ []).length = ps.length:=by rw [List.append_nil,← r.length]; exact F.len _ _ _ _ q
 have Rk:=hb s1 us I2.mU hl
 rw [List.append_nil] at Rk
 refine wpAny_call (codeAny_mono (F.run X.A X.stack s1 H1 ⟨us,[]⟩ us vs Q _ hr I2.Fw Rk r q) fun r s' hq => ?_)
 cases r with
 | error e =>
  obtain ⟨ea,cls,H',rfl,Z,hE⟩:=hq
  exact ⟨ea,cls,σ,H',rfl,I2.flew o7 Z,rfl,hE ea⟩
 | ok fl =>
  cases fl with
  | ret u => exact I2.after hq
  | next => exact False.elim hq
  | brk => exact False.elim hq
  | cont => exact False.elim hq
noncomputable def Jk:Cu:=fun _ H Q _ => Q [] H
noncomputable def F7 (ta:Ct) (tr:Cu):Cu:=fun σ H Q EX => ta σ H (fun x H1 => tr σ H1 (fun xs H2 => Q (x :: xs) H2) EX) EX
theorem Cv:xf X [] Jk:=fun _ _ _ _ H Q _ I h => Calls.spliced_nil ⟨[],H,I,.nil,h⟩
theorem zj {e:Expr} {es:List Expr} {te:Ct} {t:Cu} (ha:qP X e te) (hr:xf X es t) (hs:starEach (e :: es) X.env = (false,eval e X.env) :: starEach es X.env:=by rfl):xf X (e :: es) (F7 te t):=by
 intro pos pins s σ H Q EX I h
 rw [hs]
 show wpAny _ _ (spliced ((false,eval e X.env) :: backTo pos (starEach es X.env))) _ _ s
 refine Calls.spliced_cons (cb (ha pins s σ H _ EX I h) fun u s1 ⟨x,H1,I1,r1,q1⟩ => ?_)
 exact cb (hr pos pins s1 σ H1 _ EX I1 q1) fun us s2 ⟨xs,H2,I2,r2,q2⟩ => ⟨x :: xs,H2,I2,.cons r1 r2,q2⟩
noncomputable def Jl (t:Cu):Ct:=fun σ H Q EX => t σ H (fun xs H1 => xs.length ≤ sizeLine ∧ ∀ p,H1 p = none → Q (.ref p) (upd H1 p (.tup xs))) EX
theorem Cw {es:List Expr} {t:Cu} {x1} {pos:Pos} (h:xf X es t):qP X (.Tuple es x1 pos) (Jl t):=by
 intro pins s σ H Q EX I hq
 refine wpAny_Tuple_spliced (cb (h pos pins s σ H _ EX I hq) fun us s1 ⟨xs,H1,I1,r,z,q⟩ => ⟨by rw [← r.length]; exact z,?_⟩)
 have hf:H1 s1.heap.objs.size = none:=I1.bz.fresh (Nat.le_refl _)
 refine ⟨.ref s1.heap.objs.size,upd H1 s1.heap.objs.size (.tup xs),I1.laid (t':=s1.toks) (fun b u e => Heap.get?_push_of_some _ e) (Nat.le_refl _) ?_,rfl,q _ hf⟩
 exact ⟨z,us,r,⟨_,Heap.get?_push_size _ rfl,rfl,_,rfl⟩⟩
theorem zo {e:Expr} {te:Ct} {pos:Pos} (he:qP X e te) (hs:swapsWith e none pos.line X.env = pure false:=by rfl):ym X (.Expr e pos) (fun D EX σ H => te σ H (fun _ H1 => D.nx σ H1) fun cls ea H' => EX cls ea σ H'):=by
 intro pins s σ H D EX I h
 exact wpAny_Expr_any (wpAny_mono (he pins s σ H _ _ I h) (fun v s1 ⟨x,H1,I1,r1,q1⟩ => ⟨σ,H1,I1,q1⟩) fun _ _ q => q.at) I.quiet hs
theorem Cy {e:Expr} {te:Ct} {pos:Pos} (he:qP X e te):ym X (.Return (some e) pos) (fun D EX σ H => te σ H D.rt fun cls ea H' => EX cls ea σ H'):=by
 intro pins s σ H D EX I h
 exact wpAny_Return_some (wpAny_mono (he pins s σ H _ _ I h) (fun v s1 ⟨x,H1,I1,r1,q1⟩ => ⟨x,σ,H1,I1,r1,q1⟩) fun _ _ q => q.at)
theorem zq {st:Stmt} {t:F4} (h1:ym X st t):zh X [st] t:=by
 intro pins s σ H D EX I h
 refine wpAny_execs_cons (cb (h1 pins s σ H D EX I h) fun f s1 q => ?_)
 cases f with
 | next => exact wpAny_execs_nil q
 | ret v => exact q
 | brk => exact q
 | cont => exact q
noncomputable abbrev yn:=Ends → EK → Value → Addr → St → Hp → Prop
noncomputable def PH (X:Cx) (hs:List ExceptHandler) (th:yn):Prop :=
 ∀ (pins:List (Addr × Obj)) (s:Shared) (σ:St) (H:Hp) (D:Ends) (EX:EK) (ea:Addr) (cls:Value),sD X pins σ H s ea cls → th D EX cls ea σ H → wpAny (model X.prog X.w) X.A (handleBy (.ref ea) X.env hs) (SP X pins D) (XP X pins EX) s
noncomputable def F8:yn:=fun _ _ _ _ _ _ => False
theorem F9:PH X [] F8:=fun _ _ _ _ _ _ _ _ _ h => h.elim
theorem Cz {body:List Stmt} {h₀:ExceptHandler} {hs:List ExceptHandler} {tb:F4} {th:yn} {pos:Pos} (dx:DefX X) (hb:zh X body tb) (hh:PH X (h₀ :: hs) th):ym X (.Try body (h₀ :: hs) [] [] pos) (fun D EX σ H => tb D (fun cls ea σ' H' => th D EX cls ea σ' H') σ H):=by
 intro pins s σ H D EX I h
 refine wpAny_Try_except (wpAny_mono (hb pins s σ H D _ I h) (fun f s1 q => ?_) fun e s1 q => ?_)
 ·cases f with
  | next => exact wpAny_execs_nil q
  | ret v => exact q
  | brk => exact q
  | cont => exact q
 ·obtain ⟨ea,cls,σ',H',rfl,J,hE⟩:=q
  obtain ⟨B,t,fl,hn,go⟩:=J.slots
  have Jh:X.A.frames = some (X.env :: X.outer):=by rw [← dx.BF]; exact J.inv.ok.frames
  refine wpAny_looks_onW Jh dx.fr (by rw [← dx.BF]; exact fl) fun h4 held Ti => ?_
  refine wpAny_landsW held fun h5 Tj Tn => ?_
  exact hh pins _ σ' H' D EX ea cls (go h5 (by rw [dx.BF]; exact Tj) (Ti.trans Tn)) hE
theorem F_ {body:List Stmt} {h₀:ExceptHandler} {hs:List ExceptHandler} {tb:F4} {th:yn} {pos:Pos} (dx:DefX X) (hb:zh X body tb) (hh:PH X (h₀ :: hs) th) :
  PS X (.Try body (h₀ :: hs) [] [] pos) (fun D σ H => tb D (fun cls ea σ' H' => th D (fun _ _ _ _ => False) cls ea σ' H') σ H):=by
 intro pins s σ H D I h
 exact wpAny_mono (Cz dx hb hh pins s σ H D (fun _ _ _ _ => False) I h) (fun _ _ q => q) fun _ _ ⟨_,_,_,_,_,_,z⟩ => z.elim
noncomputable def mE (X:Cx) (ea:Addr) (oe:Obj):Cx:={ X with A:=X.A.mark (some (.ref ea)),calm:=false,pn:=(ea,oe) :: X.pn,xe:=fun _ _ => False }
theorem sD.mE {pins:List (Addr × Obj)} {σ:St} {H:Hp} {s:Shared} {ea:Addr} {cls:Value} (J:sD X pins σ H s ea cls):∃ oe,s.heap.get? ea = some oe ∧ oe.cls = cls ∧ Inv (L2.mE X ea oe) pins σ H s:=by
 obtain ⟨B,t,fl,hn,_⟩:=J.slots
 obtain ⟨oe,vs,he,hc,hd,_⟩:=fl.first
 have I:=J.inv
 have Eg:∀ b ∈ fw X.stack,ea ≠ b:=fun b hb z => by
  obtain ⟨_,o,ho,Cq⟩:=I.stack.mem hb
  rw [← z,he] at ho
  cases ho
  exact Cq vs hd
 have yz:ea ≠ X.env.locals:=fun z => by
  obtain ⟨m,⟨o,es,ep,ho,Rm,_⟩,_⟩:=I.loc
  rw [← z,he] at ho
  cases ho
  rw [hd] at Rm
  cases Rm
 have MK:ea ∉ X.fs:=fun hb => by
  obtain ⟨_,o,ho,Cq⟩:=I.hR.mem hb
  rw [he] at ho
  cases ho
  exact Cq vs hd
 refine ⟨oe,he,hc,⟨⟨I.ok.mod,I.ok.kind,I.ok.glob,I.ok.blt,I.ok.above,I.ok.inj,I.ok.has,I.ok.yu,fun z => (by cases z),I.ok.frames,I.ok.BF,I.ok.LV,I.ok.bs,I.ok.yw,I.ok.uz,I.ok.yx,I.ok.hR,I.ok.wJ⟩,I.os,I.bare,I.base,I.loc,I.cell,I.free,I.fH,fun p hp => ?_,I.bz,I.len⟩⟩
 rcases List.mem_cons.mp (show p ∈ (ea,oe) :: (X.pn ++ pins) from hp) with z | z
 ·rw [z]
  exact ⟨he,hn,yz,MK,fun v q => by rw [hd] at q; cases q⟩
 ·exact I.pin p z
theorem Inv.uM {pins:List (Addr × Obj)} {σ:St} {H:Hp} {s:Shared} {ea:Addr} {oe:Obj} (ok:X.Ok) (I:Inv (L2.mE X ea oe) pins σ H s):Inv X pins σ H s :=
 ⟨ok,I.os,I.bare,I.base,I.loc,I.cell,I.free,I.fH,fun p hp => I.pin p (List.mem_cons_of_mem _ hp),I.bz,I.len⟩
theorem SP.uM {pins:List (Addr × Obj)} {ea:Addr} {oe:Obj} {D:Ends} {f:Flow} {s':Shared} (ok:X.Ok) (h:SP (L2.mE X ea oe) pins D f s'):SP X pins D f s':=by
 cases f with
 | next => obtain ⟨σ',H',I,q⟩:=h; exact ⟨σ',H',I.uM ok,q⟩
 | brk => obtain ⟨σ',H',I,q⟩:=h; exact ⟨σ',H',I.uM ok,q⟩
 | cont => obtain ⟨σ',H',I,q⟩:=h; exact ⟨σ',H',I.uM ok,q⟩
 | ret u => obtain ⟨v,σ',H',I,r,q⟩:=h; exact ⟨v,σ',H',I.uM ok,r,q⟩
end
theorem pP {M:Model} {A:Around} {E:Value → Shared → Prop} {s:Shared} {K:PySem.W.Frag} {ea C:Addr} {oe:Obj} {b:Bool} {Q:Bool → Shared → Prop} (KX:K.In s.heap) (he:s.heap.get? ea = some oe) (h1:PySem.W.kitCls K oe.cls (.ref C) = some b) (h2:PySem.W.subIn K (.ref C) (.type "BaseException") = some true) (q:Q b s) :
  wpAny M A (excMatches (.ref ea) (.ref C)) Q E s:=by
 obtain ⟨l1,l2,l3⟩:=PySem.W.kit_cls (M:=M) KX h1
 have l4:=PySem.W.looks_subIn (M:=M) KX h2
 obtain ⟨hp,g,d,tk,os⟩:=s
 have lt:PySem.W.Looks M hp (isInstance (.ref C) (.type "tuple")) false:=l1.andThen (.of_pure tc_notTuple)
 have lx:PySem.W.Looks M hp (isExcClass (.ref C)) true:=fun A' Q' E' s' k z => by
  unfold isExcClass
  refine wpAny_bind (l2 A' _ E' s' k ?_)
  rw [if_pos rfl]
  exact l4 A' Q' E' s' k z
 have ly:PySem.W.Looks M hp (typeOf (.ref ea)) oe.cls:=fun A' Q' E' s' k z => by
  unfold typeOf
  exact wpAny_bind (wpAny_loadPart (k _ _ he) (wpAny_pure z))
 unfold excMatches
 refine wpAny_bind (lt.here ?_)
 simp only [Bool.false_eq_true,if_false,pure_bind,List.forIn_cons,List.forIn_nil,bind_assoc]
 refine wpAny_bind (lx.here ?_)
 simp only [Bool.not_true,Bool.false_eq_true,if_false,pure_bind]
 refine wpAny_bind (ly.here ?_)
 refine wpAny_bind (l3.here ?_)
 cases b with
 | true => exact wpAny_pure q
 | false => exact wpAny_pure q
theorem lR {prog:Program} {w:World} {A:Around} {E:Value → Shared → Prop} {s:Shared} {K:PySem.W.Frag} {ea:Addr} {oe:Obj} {c:Value} {Q:Value → Shared → Prop} (KX:K.In s.heap) (he:s.heap.get? ea = some oe) (e:PySem.W.kitOne K oe.cls c = some true) (h:Q (.bool true) s) :
  wpAny (model prog w) A (call (.builtin "isinstance") [.ref ea,c]) Q E s:=by
 have ly:PySem.W.Looks (model prog w) s.heap (typeOf (.ref ea)) oe.cls:=fun A' Q' E' s' k z => by
  unfold typeOf
  exact wpAny_bind (wpAny_loadPart (k _ _ he) (wpAny_pure z))
 refine PyProof.Rows.call_isinstance_of ?_ (by intro z; cases z)
 unfold PySem.W.kitOne at e
 unfold Builtin.«isinstance.nested»
 refine wpAny_bind (ly.here ?_)
 by_cases q:(oe.cls == c) = true
 ·rw [if_pos q]
  first
   | exact wpAny_bind (wpAny_rule h)
   | exact wpAny_bind (wpAny_rule (wpAny_pure h))
   | exact wpAny_pure h
 ·rw [if_neg q] at e
  rw [if_neg q]
  obtain ⟨IL,To,Jf⟩:=PySem.W.kit_cls (M:=model prog w) KX e
  have LI:PySem.W.Looks (model prog w) s.heap (isInstance (.ref ea) c) true:=ly.andThen Jf
  refine wpAny_bind (IL.here ?_)
  rw [if_pos (by decide)]
  k_delta "plainIsInstance"
  refine wpAny_bind (wpAny_bind (To.here ?_))
  simp only [Bool.not_true,Bool.false_eq_true,if_false]
  refine wpAny_bind (LI.here ?_)
  first
   | exact wpAny_pure (wpAny_pure h)
   | (simp only [if_true]; first | exact wpAny_pure (wpAny_pure h) | exact wpAny_pure h | exact wpAny_bind (wpAny_pure (wpAny_pure h)))
section
variable {X:Cx}
theorem qQ:bZ X (.builtin "isinstance") (fun xs H Q => ∃ ea oe c,(xs = [.ref ea,.ref c] ∧ PySem.W.kitOne X.K oe.cls (.ref c) = some true ∨ ∃ n,xs = [.ref ea,.ty n] ∧ PySem.W.kitOne X.K oe.cls (.type n) = some true) ∧ (ea,oe) ∈ X.pn ∧ Q (.bl true) H):=by
 intro pins s σ H xs us Q I r h
 obtain ⟨ea,oe,c,hx,hp,q⟩:=h
 have he:=(I.pin (ea,oe) (List.mem_append_left _ hp)).1
 rcases hx with ⟨rfl,e⟩ | ⟨n,rfl,e⟩
 ·obtain ⟨u,u2,rfl,ru,Jg⟩:=vals2 r
  cases ru
  cases Jg
  exact lR I.mU he e ⟨.bl true,H,I,rfl,q⟩
 ·obtain ⟨u,u2,rfl,ru,Jg⟩:=vals2 r
  cases ru
  cases Jg
  exact lR I.mU he e ⟨.bl true,H,I,rfl,q⟩
noncomputable def Ga (K:PySem.W.Frag) (C:Addr) (ts:Addr → Obj → TS) (tr:yn):yn:=fun D EX cls ea σ H => ∃ b,PySem.W.kitCls K cls (.ref C) = some b ∧ if b = true then ∀ oe,oe.cls = cls → ts ea oe D σ H else tr D EX cls ea σ H
theorem CA {x:Str} {C:Addr} {np pos:Pos} {b₀:Stmt} {dN:List Stmt} {rest:List ExceptHandler} {ts:Addr → Obj → TS} {tr:yn} (hg:Gl X x) (hm:X.mg x = some (.ref C)) (hB:PySem.W.subIn X.K (.ref C) (.type "BaseException") = some true) (hs:∀ ea oe,i_ (L2.mE X ea oe) (b₀ :: dN) (ts ea oe)) (hr:PH X rest tr)
  (hd:(x == ("__debug__":Str)) = false:=by decide):PH X (.ExceptHandler (some (.Name x np)) none (b₀ :: dN) pos :: rest) (Ga X.K C ts tr):=by
 intro pins s σ H D EX ea cls J h
 obtain ⟨b,hb,h⟩:=h
 obtain ⟨oe,he,hc,I⟩:=J.mE
 refine wpAny_handleBy_cons (codeAny_handlers_test (iF I (show Gl (L2.mE X ea oe) x from hg) (show (L2.mE X ea oe).mg x = some (.ref C) from hm) ?_ hd)) (by intro z; cases z)
 refine pP I.mU he (by rw [hc]; exact hb) hB ?_
 cases b with
 | false => exact hr pins s σ H D EX ea cls J (by simpa using h)
 | true =>
  obtain ⟨B,t,fl,hn,go⟩:=J.slots
  refine codeAny_handlers_suite (lands_againW fl fun h6 M5 M6 => ?_)
  have J6:=go h6 M5 M6
  obtain ⟨Gb,Tp,M7,I6⟩:=J6.mE
  have h':∀ oe,oe.cls = cls → ts ea oe D σ H:=by simpa using h
  exact wpAny_mono (hs ea Gb pins _ σ H D I6 (h' Gb M7)) (fun f s2 q => q.uM J.inv.ok) fun _ _ z => z.elim
theorem Inv.CB {pins:List (Addr × Obj)} {σ:St} {H:Hp} {s:Shared} {i:Nat} {n:Str} {u:Option Value} {h':Heap} {m:Str → Option Value} (I:Inv X pins σ H s) (hN:X.N.Nodup) (hi:X.N[i]? = some n) (hx:X.env.kindOf n = some .local) (hn:s.heap.Ns X.env.locals m)
  (hl:∀ (j:Nat) (x:Str) (v:V),X.N[j]? = some x → σ[j]? = some (some v) → EW X.env.scope x → ∃ u,RelV v u ∧ Look X.env s.heap m x u)
  (BG:h'.Ns X.env.locals (fun x => if x = n then u else m x)) (sb:Heap.SameBut X.env.locals s.heap h'):Inv X pins (σ.set i none) H { s with heap:=h' }:=by
 have iσ:i < σ.length:=by rw [I.len]; exact (List.getElem?_eq_some_iff.mp hi).1
 have Gd:∀ b o,b ≠ X.env.locals → s.heap.get? b = some o → h'.get? b = some o:=fun b o hb e => (sb.2 b hb).trans e
 have yz:∀ b o,X.s₀.heap.get? b = some o → b ≠ X.env.locals:=fun b o e => Nat.ne_of_lt (Nat.lt_of_lt_of_le (Heap.lt_size e) I.ok.above)
 refine ⟨I.ok,I.os,I.bare,⟨fun b o q nn hb hx => Gd b o (yz b o q) (I.base.keep b o q nn hb hx),fun b o q nn hb hx => ?_,I.base.free,fun b o q hx => ?_,I.base.h_,I.base.gK,I.base.ie⟩,⟨_,BG,fun j x v e1 e2 e3 => ?_⟩,fun x c e => ?_,I.free,I.fH,fun p hp => ?_,fun b w q => ?_,by rw [List.length_set]; exact I.len⟩
 ·obtain ⟨sl,e1⟩:=I.base.slot b o q nn hb hx
  exact ⟨sl,Gd b _ (yz b o q) e1⟩
 ·obtain ⟨o',e1⟩:=I.base.there b o q hx
  exact ⟨o',Gd b o' (yz b o q) e1⟩
 ·by_cases hj:j = i
  ·subst hj
   rw [List.getElem?_set_self iσ] at e2
   cases e2
  ·rw [List.getElem?_set_ne (Ne.symm hj)] at e2
   obtain ⟨u',r,l⟩:=hl j x v e1 e2 e3
   have nx:x ≠ n:=fun z => hj (mZ hN e1 (z ▸ hi))
   refine ⟨u',r,?_⟩
   rcases l with ⟨k,e⟩ | ⟨k,c,e,o,ho,hd⟩
   ·exact .inl ⟨k,by simp [nx,e]⟩
   ·exact .inr ⟨k,c,e,o,Gd c o (I.yy x c e) ho,hd⟩
 ·obtain ⟨v,o,ho,hd⟩:=I.cell x c e
  exact ⟨v,o,Gd c o (I.yy x c e) ho,hd⟩
 ·obtain ⟨e,z,ne,nf,d⟩:=I.pin p hp
  exact ⟨Gd p.1 p.2 ne e,z,ne,nf,d⟩
 ·refine (I.bz b w q).iT (fun c v hc z => Gd c v ?_ z) (fun _ z => z) fun _ _ z => z
  intro z'
  rcases hc with r | r
  ·rw [← r,z',I.free] at q
   cases q
  ·rw [z',I.free] at r
   cases r
noncomputable def M8 (K:PySem.W.Frag) (C:Addr) (i:Nat) (ts:Addr → Obj → TS) (tr:yn):yn:=fun D EX cls ea σ H => ∃ b,PySem.W.kitCls K cls (.ref C) = some b ∧ if b = true then ∀ oe,oe.cls = cls → ts ea oe { nx:=fun σ' H' => D.nx (σ'.set i none) H',rt:=D.rt,bk:=fun σ' H' => D.bk (σ'.set i none) H',ct:=fun σ' H' => D.ct (σ'.set i none) H' } (σ.set i (some (.ref ea))) H else tr D EX cls ea σ H
theorem Jm {x n:Str} {i:Nat} {C:Addr} {np pos:Pos} {b₀:Stmt} {dN:List Stmt} {rest:List ExceptHandler} {ts:Addr → Obj → TS} {tr:yn} (hN:X.N.Nodup) (hi:X.N[i]? = some n) (hl:X.env.scope.names.lookup n = some .local) (hg:Gl X x) (hm:X.mg x = some (.ref C)) (hB:PySem.W.subIn X.K (.ref C) (.type "BaseException") = some true) (hs:∀ ea oe,i_ (L2.mE X ea oe) (b₀ :: dN) (ts ea oe)) (hr:PH X rest tr)
  (hd:(x == ("__debug__":Str)) = false:=by decide):PH X (.ExceptHandler (some (.Name x np)) (some n) (b₀ :: dN) pos :: rest) (M8 X.K C i ts tr):=by
 intro pins s σ H D EX ea cls J h
 obtain ⟨b,hb,h⟩:=h
 obtain ⟨oe,he,hc,I⟩:=J.mE
 refine wpAny_handleBy_cons (codeAny_handlers_test (iF I (show Gl (L2.mE X ea oe) x from hg) (show (L2.mE X ea oe).mg x = some (.ref C) from hm) ?_ hd)) (by intro z; cases z)
 refine pP I.mU he (by rw [hc]; exact hb) hB ?_
 cases b with
 | false => exact hr pins s σ H D EX ea cls J (by simpa using h)
 | true =>
  obtain ⟨B,t,fl,hn,go⟩:=J.slots
  have h':∀ oe,oe.cls = cls → ts ea oe { nx:=fun σ' H' => D.nx (σ'.set i none) H',rt:=D.rt,bk:=fun σ' H' => D.bk (σ'.set i none) H',ct:=fun σ' H' => D.ct (σ'.set i none) H' } (σ.set i (some (.ref ea))) H:=by simpa using h
  refine codeAny_handlers_suite_as (lands_againW fl fun h6 M5 M6 => ?_)
  have J6:=go h6 M5 M6
  obtain ⟨Gb,Tp,M7,I6⟩:=J6.mE
  refine m5 (X:=L2.mE X ea Gb) (v:=.ref ea) I6 hN hi (Or.inl hl) rfl (fun s7 I7 => ?_) (Or.inr hl)
  refine wpAny_mono (hs ea Gb pins s7 _ H _ I7 (h' Gb M7)) (fun f s8 q => ?_) fun _ _ z => z.elim
  -- HD name is let go
  have letGo:∀ {σ8:St} {H8:Hp} {R:Shared → Prop},Inv (L2.mE X ea Gb) pins σ8 H8 s8 → (∀ s9,Inv X pins (σ8.set i none) H8 s9 → R s9) →
    wpAny (model X.prog X.w) X.A (do bindName X.env n .none; unbindBehindTheSuite X.env n pos) (fun _ s9 => R s9) (XP X pins EX) s8:=fun {σ8 H8 R} I8 k => by
   have I9:=I8.uM J.inv.ok
   refine wpAny_bind (wpAny_bindName (kA I9 hN hi (Or.inl hl) (v:=.da) rfl (fun s9 M9 ⟨a,sb,ha⟩ => ?_) (Or.inr hl)))
   obtain ⟨m,ns,Rn⟩:=M9.loc
   have iσ:i < σ8.length:=by rw [I9.len]; exact (List.getElem?_eq_some_iff.mp hi).1
   obtain ⟨u,ru,lk⟩:=Rn i n .da hi (List.getElem?_set_self iσ) (Or.inl hl)
   have Tq:m n = some u:=by
    rcases lk with ⟨_,e⟩ | ⟨k',_⟩
    ·exact e
    ·exfalso
     rcases k' with z | z
     ·have z':X.env.scope.names.lookup n = some .cell:=z
      rw [hl] at z'; cases z'
     ·have z':X.env.scope.names.lookup n = some .free:=z
      rw [hl] at z'; cases z'
   unfold unbindBehindTheSuite
   refine wpAny_onRaise (wpAny_unbindName_local hl ns Tq (by rw [M9.ok.kind]; rfl) fun Wy u' Tr MR => ?_)
   have Ro:=M9.CB hN hi hl ns Rn Tr MR
   rw [List.set_set] at Ro
   exact k _ Ro
  cases f with
  | next =>
   obtain ⟨σ8,H8,I8,q8⟩:=q
   exact letGo I8 fun s9 I9 => ⟨_,H8,I9,q8⟩
  | brk =>
   obtain ⟨σ8,H8,I8,q8⟩:=q
   exact letGo I8 fun s9 I9 => ⟨_,H8,I9,q8⟩
  | cont =>
   obtain ⟨σ8,H8,I8,q8⟩:=q
   exact letGo I8 fun s9 I9 => ⟨_,H8,I9,q8⟩
  | ret v =>
   obtain ⟨x8,σ8,H8,I8,r8,q8⟩:=q
   exact letGo I8 fun s9 I9 => ⟨x8,_,H8,I9,r8,q8⟩
end
end L2
namespace L2
open PySem PySem.Spec PyProof.Rows
section
variable {X:Cx} {tg:Expr}
end
section
variable {X:Cx} {tg:Expr}
end
section
variable {X:Cx} {elts:List Expr} {kt:Nat} {tp p pos:Pos}
end
section
variable {X:Cx}
theorem xg (hh:X.A.handled = none):bZ X (.builtin "max") (fun xs H Q => ∃ i j,xs = [.int i,.int j] ∧ Q (.int (if j > i then j else i)) H):=by
 rintro pins s σ H xs ws Q I r ⟨i,j,rfl,q⟩
 obtain ⟨u,v,rfl,ru,rv⟩:=Vals.two r
 obtain ⟨t,rfl⟩:=ru
 obtain ⟨t',rfl⟩:=rv
 refine max_two_ints hh fun h' tk hk => ?_
 refine ⟨.int (if j > i then j else i),H,I.kept hk,?_,q⟩
 by_cases c:j > i
 ·rw [if_pos c,if_pos c]; exact ⟨_,rfl⟩
 ·rw [if_neg c,if_neg c]; exact ⟨_,rfl⟩
end
end L2
namespace L2
open PySem PySem.Spec PyProof.Rows
structure e_ where
 qual:Str
 params:Arguments
 body:Expr
 scope:Scope
 ps:List Str
 x:Str
structure e_.Ok (L:e_):Prop where
 kind:L.scope.kind = .function
 co:L.scope.isCoroutine = false
 gen:L.scope.isGenerator = false
 fJ:∀ y ∈ L.scope.names,y.2 ≠ .cell
 par:∀ p ∈ L.ps,L.scope.names.lookup p = some .local
 fr:L.scope.names.lookup L.x = some .free
 free:∀ y,L.scope.names.lookup y = some .free → y = L.x
 nd:(L.ps ++ [L.x]).Nodup
 bind:∀ (pm cd ct:Value) (cl:List (Str × Addr)) (us:List Value),us.length = L.ps.length → bindArgs (PySem.W.kla_fn "<lambda>" L.qual L.params L.body L.scope cl pm cd ct) ⟨us,[]⟩ = pure (L.ps.zip us)
noncomputable abbrev Fz (H:Hp) (a:Addr) (o:Obj):Prop:=H a = some (.d0 o (.own 0))
structure Eh (L:e_) (H:Hp) (f c c':Addr) (v:V):Prop where
 fn:∃ pm oY,Fz H f (PySem.W.kla_obj "<lambda>" L.qual L.params L.body L.scope [(L.x,c)] pm c' oY)
 cd:∃ oc vs t,Fz H c' oc ∧ oc.data = .fields vs ∧ vs[1]? = some (.str L.qual t)
 ce:∃ oc u,Fz H c oc ∧ oc.data = .cell (some u) ∧ RelV v u
noncomputable def hide (H:Hp) (c:Addr):Hp:=fun b => if b = c then none else H b
noncomputable def back (H H':Hp) (c:Addr):Hp:=fun b => if b = c then H b else H' b
theorem hide_ne {H:Hp} {b c:Addr} (h:b ≠ c):hide H c b = H b:=if_neg h
theorem hide_self {H:Hp} {c:Addr}:hide H c c = none:=if_pos rfl
theorem fA {H H':Hp} {b c:Addr} (h:b ≠ c):back H H' c b = H' b:=if_neg h
theorem iH {H H':Hp} {c:Addr}:back H H' c c = H c:=if_pos rfl
noncomputable def pQ (P:Program) (w:World) (K:PySem.W.Frag) (mg:Str → Option Value) (base:Heap) (L:e_) (f c c':Addr) (A:Around) (outer:List Env) (s:Shared) (H:Hp):Cx where
 prog:=P
 w:=w
 K:=K
 mg:=mg
 base:=base
 A:=A.deeper (PySem.W.envX L.qual L.scope s.heap.objs.size f (.ref c') [(L.x,c)])
 N:=L.ps ++ [L.x]
 s₀:=s
 H₀:=hide H c
 env:=PySem.W.envX L.qual L.scope s.heap.objs.size f (.ref c') [(L.x,c)]
 outer:=outer
 stack:=PySem.W.envX L.qual L.scope s.heap.objs.size f (.ref c') [(L.x,c)] :: outer
 ex:=[]
 calm:=true
 fn:=fun y => !(y == L.x)
 pn:=[]
 xe:=fun _ _ => False
theorem vT:∀ {ps:List Str} {us:List Value} {i:Nat} {y:Str} {u:Value},ps.Nodup → ps[i]? = some y → us[i]? = some u → (ps.zip us).reverse.lookup y = some u
 | [],_,_,_,_,_,h,_ => by cases h
 | _ :: _,[],_,_,_,_,_,h => by cases h
 | p :: ps,w :: us,i,y,u,nd,h1,h2 => by
  have n:=List.nodup_cons.mp nd
  rw [List.zip_cons_cons,List.reverse_cons,List.lookup_append]
  cases i with
  | zero =>
   cases h1
   cases h2
   have:(ps.zip us).reverse.lookup p = none:=by
    rw [List.lookup_eq_none_iff]
    intro q hq
    have:=(List.of_mem_zip (List.mem_reverse.mp hq)).1
    have ne:p ≠ q.1:=by
     intro z
     apply n.1
     rw [z]; exact this
    first | exact beq_eq_false_iff_ne.mpr ne | exact beq_eq_false_iff_ne.mpr (Ne.symm ne) | simpa using ne | simpa using (Ne.symm ne)
   rw [this]
   simp
  | succ i =>
   rw [vT n.2 (show ps[i]? = some y from h1) (show us[i]? = some u from h2)]
   rfl
section
variable {P:Program} {w:World} {K:PySem.W.Frag} {mg:Str → Option Value} {base:Heap} {L:e_} {f c c':Addr} {A:Around} {outer:List Env} {s s1:Shared} {H:Hp} {us:List Value} {vs:List V} {v:V}
theorem sE {h h':Heap} {o:Obj} (x:fQ P w H h) (hc:Fz H c o) (k:∀ b u,h.get? b = some u → h'.get? b = some u):fQ P w (hide H c) h':=fun a ob e => by
 have ne:a ≠ c:=fun z => by rw [z,hide_self] at e; cases e
 rw [hide_ne ne] at e
 refine (x a ob e).iT (fun b u _ q => k b u q) (fun b q => ?_) fun b xs q => ?_
 ·have n2:b ≠ c:=by
   intro z
   rw [z,hc] at q
   cases q
  rw [hide_ne n2]; exact q
 ·have n2:b ≠ c:=by
   intro z
   rw [z,hc] at q
   cases q
  rw [hide_ne n2]; exact q
theorem xh (LO:L.Ok) (C:Eh L H f c c' v) (hd:A.handled = none) (e0:uE P w K mg base A outer s H) (hl:vs.length = L.ps.length) (r:Vals vs us) {h1:Heap} {tk:Nat}
  (Ei:h1.Ns s.heap.objs.size (fun y => (L.ps.zip us).reverse.lookup y)) (hk:∀ b o,s.heap.get? b = some o → h1.get? b = some o) :
  Inv (pQ P w K mg base L f c c' A outer s H) [] (vs.map some ++ [some v]) (hide H c) { s with heap:=h1,toks:=tk }:=by
 obtain ⟨oc,u,hc,m6,rv⟩:=C.ce
 have gc:s.heap.get? c = some oc:=(e0.bz c _ hc).1
 have ic:h1.IsCell c (some u):=⟨oc,hk _ _ gc,m6⟩
 have sF:∀ y z,([(L.x,c)]:List (Str × Addr)).lookup y = some z → y = L.x ∧ z = c:=fun y z h => by
  rw [List.lookup_cons] at h
  split at h
  ·rename_i e
   exact ⟨by simpa using e,(Option.some.inj h).symm⟩
  ·cases h
 have Ej:([(L.x,c)]:List (Str × Addr)).lookup L.x = some c:=by
  rw [List.lookup_cons,beq_self_eq_true]
 have M_:∀ b,H b = none → hide H c b = none:=fun b h => by
  unfold hide
  split
  ·rfl
  ·exact h
 have K0:L.ps.Nodup:=(List.nodup_append.mp LO.nd).1
 refine ⟨⟨e0.mod,LO.kind,rfl,rfl,Nat.le_refl _,fun y z a h1 h2 => (sF y a h1).1.trans (sF z a h2).1.symm,fun y hy => ?_,fun y a h1 h2 => ?_,fun _ => hd,Around.frames_deeper e0.frames,.inr ⟨rfl,rfl⟩,(fun b z => by cases z),fun b o e => ⟨(e0.bs b o e).1,M_ b (e0.bs b o e).2⟩,e0.yw,(fun b _ _ z => by cases z),(fun b z => by cases z),e0.hR,fun b hb => M_ b (e0.wJ b hb)⟩,
  rfl,e0.bare,Un.kept hk,⟨_,Ei,fun i y v' h1 h2 h3 => ?_⟩,(fun y a h => ⟨some u,by rw [(sF y a h).2]; exact ic⟩),M_ _ (e0.bz.fresh (Nat.le_refl _)),(fun y a h => by rw [(sF y a h).2]; exact hide_self),(fun q hq => by cases hq),sE e0.bz hc hk,?_⟩
 ·have hy:L.scope.names.lookup y = some .cell ∨ L.scope.names.lookup y = some .free:=hy
  rcases hy with hy | hy
  ·exact absurd rfl (LO.fJ _ (PySem.mem_of_lookup hy))
  ·exact ⟨c,by rw [LO.free y hy]; exact Ej⟩
 ·have:=(sF y a h2).1
  subst this
  have h1:(!(L.x == L.x)) = true:=h1
  rw [beq_self_eq_true] at h1
  cases h1
 ·have h1:(L.ps ++ [L.x])[i]? = some y:=h1
  rcases Nat.lt_or_ge i L.ps.length with q | q
  ·rw [List.getElem?_append_left q] at h1
   rw [List.getElem?_append_left (by rw [List.length_map,hl]; exact q),List.getElem?_map] at h2
   have ha:vs[i]? = some v':=by
    cases e:vs[i]? with
    | none => rw [e] at h2; cases h2
    | some a => rw [e] at h2; cases h2; rfl
   obtain ⟨u',hu,Na⟩:=r.get ha
   exact ⟨u',Na,.inl ⟨LO.par y (List.mem_of_getElem? h1),vT K0 h1 hu⟩⟩
  ·rw [List.getElem?_append_right q] at h1
   rw [List.getElem?_append_right (by rw [List.length_map,hl]; exact q),List.length_map,hl] at h2
   cases z:i - L.ps.length with
   | zero =>
    rw [z] at h1 h2
    cases h1
    cases h2
    exact ⟨u,rv,.inr ⟨.inr LO.fr,c,Ej,ic⟩⟩
   | succ k => rw [z] at h1; cases h1
 ·show (vs.map some ++ [some v]).length = (L.ps ++ [L.x]).length
  rw [List.length_append,List.length_append,List.length_map,hl]; rfl
theorem CC {H':Hp} {o:Obj} {fs:List Addr} {h h':Heap} (hc:Fz H c o) (Nb:c ∉ fs) (ok:fQ P w H h) (u:Un fs [] (hide H c) H' h h') (Lf:fQ P w H' h'):Un fs [] H (back H H' c) h h' ∧ fQ P w (back H H' c) h':=by
 have gc:h.get? c = some o:=(ok c _ hc).1
 have Jn:h'.get? c = some o:=u.keep c o gc hide_self Nb (by simp)
 have fc:H' c = none:=u.free c o gc hide_self (by simp)
 have nc:∀ b x,H b = some x → (∀ o u,x ≠ .d0 o u) → b ≠ c:=fun b x q z e => by
  rw [e,hc] at q
  exact z _ _ (Option.some.inj q).symm
 have n0:∀ b,H b = none → b ≠ c:=fun b q e => by
  rw [e,hc] at q
  cases q
 refine ⟨⟨fun b ob q n hb _ => u.keep b ob q (by rw [hide_ne (n0 b n)]; exact n) hb (by simp),fun b ob q n hb _ => u.slot b ob q (by rw [hide_ne (n0 b n)]; exact n) hb (by simp),fun b ob q n _ => ?_,fun b ob q _ => u.there b ob q (by simp),fun b xs q => ?_,fun b ob x q => ?_,fun b ps q => ?_⟩,fun b x q => ?_⟩
 ·rw [fA (n0 b n)]
  exact u.free b ob q (by rw [hide_ne (n0 b n)]; exact n) (by simp)
 ·have ne:=nc b _ q fun _ _ z => by cases z
  rw [fA ne]
  exact u.h_ b xs (by rw [hide_ne ne]; exact q)
 ·by_cases ne:b = c
  ·rw [ne,iH,← ne]; exact q
  ·rw [fA ne]
   exact u.gK b ob x (by rw [hide_ne ne]; exact q)
 ·have ne:=nc b _ q fun _ _ z => by cases z
  rw [fA ne]
  exact u.ie b ps (by rw [hide_ne ne]; exact q)
 ·by_cases ne:b = c
  ·rw [ne,iH,hc] at q
   cases q
   rw [ne]
   exact ⟨Jn,o,Jn⟩
  ·rw [fA ne] at q
   have up:∀ a y,H' a = some y → back H H' c a = some y:=fun a y z => by
    rw [fA (fun e => by rw [e,fc] at z; cases z)]; exact z
   exact (Lf b x q).iT (fun _ _ _ z => z) (fun a z => up a _ z) fun a xs z => up a _ z
theorem CD {k:Nat} {Q:VK} {E:XK} (LO:L.Ok) (C:Eh L H f c c' v) (hr:cY (k + 1) A) (e0:uE P w K mg base A outer s H) (hl:vs.length = L.ps.length) (r:Vals vs us)
  (h:∃ t,PE (pQ P w K mg base L f c c' A outer s H) L.body t ∧ t (vs.map some ++ [some v]) (hide H c) fun y H' => H' c = none → Q y (back H H' c)) :
  codeAny (model P w) A (.call (.ref f) ⟨us,[]⟩) (CR (jx P w) outer P w H s Q E) s:=by
 obtain ⟨pm,oY,hf⟩:=C.fn
 obtain ⟨oc,ws,t,m6,hd,hq⟩:=C.cd
 obtain ⟨Wz,u0,Nc,_⟩:=C.ce
 have Ts:us.length = L.ps.length:=by rw [← r.length]; exact hl
 have lim:s.heap.NoLimit:=e0.mod.nolimit.keeps fun b o e => (e0.bs b o e).1
 refine PySem.W.kla_callFunE hr.depth (e0.bz f _ hf).1 rfl LO.co LO.gen rfl ⟨c',oc,ws,t,rfl,(e0.bz c' _ m6).1,hd,hq⟩ ?_
 rw [LO.bind _ _ _ _ us Ts]
 refine wpAny_pure (wpAny_newFunctionEnv LO.fJ (fun y hy => LO.par y.1 (List.of_mem_zip (show (y.1,y.2) ∈ L.ps.zip us from hy)).1) (fun h1 Ei Tt => ?_) LO.kind)
 have hk:∀ b o,s.heap.get? b = some o → h1.get? b = some o:=fun b o e => Tt.extBut b o (Nat.ne_of_lt (Heap.lt_size e)) (Heap.get?_push_of_some _ e)
 refine ⟨lim.keeps hk,?_⟩
 show codeAny _ _ (.expr L.body (PySem.W.envX L.qual L.scope s.heap.objs.size f (.ref c') [(L.x,c)])) _ _
 obtain ⟨tr,pe,ht⟩:=h
 have I:=xh (tk:=s.toks + (L.ps.zip us).length) LO C hr.hd e0 hl r Ei hk
 refine PySem.W.kla_codeExpr (wpAny_mono (pe [] _ _ _ _ I ht) (fun y s' hy => ?_) fun _ _ z => z.elim)
 obtain ⟨y',H',J,ry,qy⟩:=hy
 have Nb:c ∉ fw outer:=fun z => by
  have:=e0.wJ c z
  rw [Nc] at this
  cases this
 obtain ⟨un,ok⟩:=CC Nc Nb e0.bz J.base J.bz
 exact ⟨y',back H H' c,J.os,J.bare,un,ok,ry,qy (J.base.free c _ (e0.bz c _ Nc).1 hide_self (by simp [pQ]))⟩
end
end L2
namespace L2
open PySem PySem.Spec PyProof.Rows
noncomputable def Tab (H:Hp) (T:Addr) (line col:Nat) (qual:Str):Prop:=H T = some (.o5 #[]) ∨
 ∃ c' oc vs t,H T = some (.o5 #[rawInt line,rawInt col,.ref c']) ∧ Fz H c' oc ∧ oc.data = .fields vs ∧ vs[1]? = some (.str qual t)
structure Ek (X:Cx) (L:e_) (pos:Pos) (cd T c:Addr):Prop where
 code:X.env.code = .ref cd
 hd:PySem.W.CodeHd X.base cd T
 cl:closureFor L.scope X.env = pure [(L.x,c)]
 qual:L.qual = X.env.qual ++ "<lambda>"
 dflt:defaultsOf L.params X.env = ([],[])
 blt:X.base.BuiltinsAt X.mg T
 gT:mainGlobals ≠ T
structure zu (L:e_) (H H':Hp) (T c f c':Addr) (pos:Pos):Prop where
 fn:∃ pm oY,Fz H' f (PySem.W.kla_obj "<lambda>" L.qual L.params L.body L.scope [(L.x,c)] pm c' oY)
 cd:∃ oc vs t,Fz H' c' oc ∧ oc.data = .fields vs ∧ vs[1]? = some (.str L.qual t)
 tab:Tab H' T pos.line pos.col L.qual
 old:∀ b o,b ≠ T → H b = some o → H' b = some o
noncomputable def Nd (L:e_) (T c:Addr) (pos:Pos):TE:=fun _ H Q => Tab H T pos.line pos.col L.qual ∧ ∀ f c' H',zu L H H' T c f c' pos → Q (.ref f) H'
theorem xi {pos:Pos}:codeAmong pos (#[]:Array Value).toList = none:=rfl
section
variable {X:Cx} {L:e_} {pos:Pos} {cd T c:Addr}
theorem Ge (A:Ek X L pos cd T c):PE X (.Lambda L.params L.body L.scope pos) (Nd L T c pos):=by
 intro pins s σ H Q I h
 obtain ⟨tb,q⟩:=h
 have C:PySem.W.CodeHd s.heap cd T:=A.hd.keeps I.bk
 have G:s.heap.Ns mainGlobals X.mg:=I.ok.mod.glob.keeps I.bk
 have B:s.heap.BuiltinsAt X.mg T:=by
  obtain ⟨bm,o,h1,h2,h3,h4,h5,h6⟩:=A.blt
  exact ⟨bm,o,h1,h2,h3,h4,I.bk _ _ h5,h6⟩
 refine PySem.W.kla_eval A.dflt ?_
 rw [← A.qual]
 rcases tb with tb | ⟨c',oc,vs,t,tb,hc,hd,hv⟩
 ·have hT:s.heap.get? T = some (PySem.W.tabObj #[]):=I.bz T _ tb
  refine PySem.W.kla_makeFunction (ps:=#[]) A.cl I.ok.glob G A.code C hT trivial xi A.gT B fun c' oY h' tk hx Jo sA Nf Tu => ?_
  obtain ⟨c2,oc,vs,t,e2,Ig,hd,hv⟩:=Nf
  cases e2
  obtain ⟨ob,eo⟩:∃ ob,ob = PySem.W.kla_obj "<lambda>" L.qual L.params L.body L.scope [(L.x,c)] ((X.mg "__name__").getD .none) c' oY:=⟨_,rfl⟩
  obtain ⟨ps,Rp⟩:∃ ps:Array Value,ps = #[rawInt pos.line,rawInt pos.col,.ref c']:=⟨_,rfl⟩
  have Jp:h'.get? T = some (PySem.W.tabObj ps):=by rw [Tu,Rp]; rfl
  rw [← eo]
  have lT:T < s.heap.objs.size:=Heap.lt_size hT
  have nc:H c' = none:=I.bz.fresh Jo
  have nf:H h'.objs.size = none:=I.bz.fresh (by lia)
  have tr:∀ b x,H b = some x → b < s.heap.objs.size:=fun b x q => by
   obtain ⟨o,e⟩:=(I.bz b x q).there
   exact Heap.lt_size e
  obtain ⟨H',eH⟩:∃ H',H' = upd (upd (upd H T (.o5 ps)) c' (.d0 oc (.own 0))) h'.objs.size (.d0 ob (.own 0)):=⟨_,rfl⟩
  have Rq:H' h'.objs.size = some (.d0 ob (.own 0)):=by rw [eH]; exact aZ
  have dE:H' c' = some (.d0 oc (.own 0)):=by rw [eH,aD (Nat.ne_of_lt sA)]; exact aZ
  have Jq:H' T = some (.o5 ps):=by rw [eH,aD (Nat.ne_of_lt (Nat.lt_trans lT (Nat.lt_of_le_of_lt Jo sA))),aD (Nat.ne_of_lt (Nat.lt_of_lt_of_le lT Jo))]; exact aZ
  have lK:∀ b,b ≠ T → b < s.heap.objs.size → H' b = H b:=fun b h1 h2 => by rw [eH,aD (Nat.ne_of_lt (Nat.lt_trans h2 (Nat.lt_of_le_of_lt Jo sA))),aD (Nat.ne_of_lt (Nat.lt_of_lt_of_le h2 Jo)),aD h1]
  have nT:∀ b x,H b = some x → (∀ ps,x ≠ .o5 ps) → b ≠ T:=fun b x q z e => by
   rw [e,tb] at q
   exact z _ (Option.some.inj q).symm
  have n0:∀ b,H b = none → b ≠ T:=fun b q e => by
   rw [e,tb] at q
   cases q
  have kp:∀ b o,b ≠ T → s.heap.get? b = some o → (h'.push ob).get? b = some o:=fun b o h1 h2 => Heap.get?_push_of_some _ (hx b o h1 h2)
  have un:Un X.fs [] H H' s.heap (h'.push ob):=by
   refine ⟨fun b o q n _ _ => kp b o (n0 b n) q,fun b o q n _ _ => ⟨o.slots,kp b o (n0 b n) q⟩,fun b o q n _ => ?_,fun b o q _ => ?_,fun b xs q => ?_,fun b o u q => ?_,fun b WA q => ?_⟩
   ·rw [lK b (n0 b n) (Heap.lt_size q)]; exact n
   ·by_cases e:b = T
    ·rw [e]; exact ⟨_,Heap.get?_push_of_some _ Jp⟩
    ·exact ⟨o,kp b o e q⟩
   ·rw [lK b (nT b _ q fun _ z => by cases z) (tr b _ q)]; exact q
   ·rw [lK b (nT b _ q fun _ z => by cases z) (tr b _ q)]; exact q
   ·by_cases e:b = T
    ·rw [e,tb] at q
     cases q
     exact ⟨ps,by rw [e,Jq]; simp⟩
    ·exact ⟨#[],by rw [lK b e (tr b _ q),q]; simp⟩
  have ok:fQ X.prog X.w H' (h'.push ob):=fun b x q => by
   by_cases e1:b = h'.objs.size
   ·rw [e1,Rq] at q
    cases q
    rw [e1]
    have g:(h'.push ob).get? h'.objs.size = some ob:=Heap.get?_push_size _ (by rw [eo]; rfl)
    exact ⟨g,ob,g⟩
   ·by_cases e2:b = c'
    ·rw [e2,dE] at q
     cases q
     rw [e2]
     exact ⟨Heap.get?_push_of_some _ Ig,oc,Heap.get?_push_of_some _ Ig⟩
    ·by_cases e3:b = T
     ·rw [e3,Jq] at q
      cases q
      rw [e3]
      exact Heap.get?_push_of_some _ Jp
     ·rw [eH,aD e1,aD e2,aD e3] at q
      refine (I.bz b x q).iT (fun a u ha z => kp a u ?_ z) (fun a z => ?_) fun a xs z => ?_
      ·rcases ha with rfl | ha
       ·exact e3
       ·exact nT a _ ha fun _ z => by cases z
      ·rw [lK a (nT a _ z fun _ z => by cases z) (tr a _ z)]; exact z
      ·rw [lK a (nT a _ z fun _ z => by cases z) (tr a _ z)]; exact z
  refine ⟨.ref h'.objs.size,H',I.un (t':=tk) un ok,rfl,q h'.objs.size c' H' ⟨⟨(X.mg "__name__").getD .none,oY,by show H' _ = some _; rw [Rq,eo]⟩,⟨oc,vs,t,dE,hd,hv⟩,.inr ⟨c',oc,vs,t,by rw [Jq,Rp],dE,hd,hv⟩,fun b o h1 h2 => ?_⟩⟩
  rw [lK b h1 (tr b _ h2)]; exact h2
 ·have hT:s.heap.get? T = some (PySem.W.tabObj #[rawInt pos.line,rawInt pos.col,.ref c']):=I.bz T _ tb
  refine PySem.W.kla_makeFunctionHit (cv:=.ref c') A.cl I.ok.glob G A.code C hT trivial ?_ B fun oY h' tk hk hsz => ?_
  ·show codeAmong pos [rawInt pos.line,rawInt pos.col,.ref c'] = _
   unfold rawInt codeAmong
   rw [if_pos (by simp)]
  ·obtain ⟨ob,eo⟩:∃ ob,ob = PySem.W.kla_obj "<lambda>" L.qual L.params L.body L.scope [(L.x,c)] ((X.mg "__name__").getD .none) c' oY:=⟨_,rfl⟩
   have g:(h'.push ob).get? h'.objs.size = some ob:=Heap.get?_push_size _ (by rw [eo]; rfl)
   have nf:H h'.objs.size = none:=I.bz.fresh hsz
   have pJ:H c' = some (.d0 oc (.own 0)):=hc
   have e1:c' ≠ h'.objs.size:=fun z => by rw [z,nf] at pJ; cases pJ
   have Rr:∀ o,upd H h'.objs.size o c' = some (.d0 oc (.own 0)):=fun o => by rw [aD e1]; exact pJ
   have e2:T ≠ h'.objs.size:=fun z => by rw [z,nf] at tb; cases tb
   have J:=I.laid (a:=h'.objs.size) (o:=.d0 ob (.own 0)) (t':=tk) (h':=h'.push ob) (fun b u e => Heap.get?_push_of_some _ (hk b u e)) hsz ⟨g,ob,g⟩
   rw [eo] at J
   refine ⟨.ref h'.objs.size,_,J,rfl,q _ c' _ ⟨⟨_,oY,aZ⟩,⟨oc,vs,t,Rr _,hd,hv⟩,.inr ⟨c',oc,vs,t,by rw [aD e2]; exact tb,Rr _,hd,hv⟩,fun b o h1 h2 => ?_⟩⟩
   rw [aD (fun z => by rw [z,nf] at h2; cases h2)]; exact h2
end
end L2
namespace L2
open PySem PySem.Spec PyProof.Rows
theorem Eh.mono {L:e_} {H H':Hp} {f c c':Addr} {v:V} (C:Eh L H f c c' v) (k:∀ b o u,H b = some (.d0 o u) → H' b = some (.d0 o u)):Eh L H' f c c' v:=by
 obtain ⟨⟨pm,oY,h1⟩,⟨oc,vs,t,h2,h3⟩,⟨o2,u,h4,h5⟩⟩:=C
 exact ⟨⟨pm,oY,k _ _ _ h1⟩,⟨oc,vs,t,k _ _ _ h2,h3⟩,⟨o2,u,k _ _ _ h4,h5⟩⟩
noncomputable def XF:XK:=fun _ _ _ => False
section
variable {X:Cx} {L:e_} {i:Nat} {x:Str} {f c c':Addr} {v:V} {k:Nat} {e:Expr} {es:List Expr} {t:TA} {p pos:Pos}
end
section
variable {P:Program} {w:World} {H H':Hp} {c:Addr} {o:Obj} {fs:List Addr} {h h':Heap}
theorem CF (hn:H c = none) (gc:h.get? c = some o) (u:Un fs [] (upd H c (.d0 o (.own 0))) H' h h') (Lf:fQ P w H' h'):Un fs [] H (hide H' c) h h' ∧ fQ P w (hide H' c) h':=by
 have fc:H' c = some (.d0 o (.own 0)):=u.gK c o _ aZ
 have Jn:h'.get? c = some o:=(Lf c _ fc).1
 have ne:∀ b x,H b = some x → b ≠ c:=fun b x q e => by rw [e,hn] at q; cases q
 refine ⟨⟨fun b ob q n hb _ => ?_,fun b ob q n hb _ => ?_,fun b ob q n _ => ?_,fun b ob q _ => u.there b ob q (by simp),fun b xs q => ?_,fun b ob x q => ?_,fun b ps q => ?_⟩,sE Lf fc fun _ _ z => z⟩
 ·by_cases e:b = c
  ·rw [e] at q ⊢
   rw [gc] at q
   cases q
   exact Jn
  ·exact u.keep b ob q (by rw [aD e]; exact n) hb (by simp)
 ·by_cases e:b = c
  ·rw [e] at q ⊢
   rw [gc] at q
   cases q
   exact ⟨o.slots,Jn⟩
  ·exact u.slot b ob q (by rw [aD e]; exact n) hb (by simp)
 ·by_cases e:b = c
  ·rw [e]; exact hide_self
  ·rw [hide_ne e]
   exact u.free b ob q (by rw [aD e]; exact n) (by simp)
 ·rw [hide_ne (ne b _ q)]
  exact u.h_ b xs (by rw [aD (ne b _ q)]; exact q)
 ·rw [hide_ne (ne b _ q)]
  exact u.gK b ob x (by rw [aD (ne b _ q)]; exact q)
 ·rw [hide_ne (ne b _ q)]
  exact u.ie b ps (by rw [aD (ne b _ q)]; exact q)
end
section
variable {X:Cx} {CX:yK} {k:Nat} {f:Addr} {fd:FuncData} {ps:List Str} {sp:Sp} {x y:Str} {i:Nat} {c:Addr} {p pos:Pos} {e:Expr} {es:List Expr} {t:TA}
end
end L2
namespace MN
open PySem PySem.Spec L2
open PyProof.Rows hiding St
inductive Val where
 | da | bl (b:Bool) | int (i:Int) | str (x:Str) | tup (vs:List Val) | loc (n:Nat) | exc (c:Str) | fn (L:e_) (u:Val) | mt (vs:List Val)
inductive Cell where
 | lst (vs:List Val) | El (vs:List Val) | mod (vs:List Val) | dK (aI:List (Key × Val)) | dT (aI:List (List Key × Val)) | tab (x:Str) (line col:Nat) (qual:Str)
noncomputable abbrev ai:=List Cell
noncomputable abbrev Env:=List (Option Val)
inductive Res (α:Type) where
 | ok (a:α) (st:ai) | err (c:Str) (st:ai) | bad
inductive bU where
 | nx (μ:Env) (st:ai) | rt (v:Val) (st:ai) | bk (μ:Env) (st:ai) | ct (μ:Env) (st:ai) | er (c:Str) (μ:Env) (st:ai) | bad
@[reducible] def Res.bind {α β:Type} (r:Res α) (k:α → ai → Res β):Res β:=match r with
 | .ok a st => k a st
 | .err c st => .err c st
 | .bad => .bad
structure Wo where
 K:PySem.W.Frag
 mg:Str → Option Value
 pn:List (Addr × Obj)
noncomputable abbrev wo (X:Cx):Wo:=⟨X.K,X.mg,X.pn⟩
mutual
noncomputable def Rl (K:PySem.W.Frag) (ρ:List Addr) (H:Hp):Val → V → Prop
 | .da,v => v = .da
 | .bl b,v => v = .bl b
 | .int i,v => v = .int i
 | .str x,v => v = .str x
 | .tup us,v => ∃ a vs,v = .ref a ∧ H a = some (.tup vs) ∧ aN K ρ H us vs
 | .mt us,v => ∃ a vs,v = .ref a ∧ gp K H a vs ∧ aN K ρ H us vs
 | .loc n,v => ∃ a,v = .ref a ∧ ρ[n]? = some a
 | .exc _,_ => False
 | .fn _ _,_ => False
noncomputable def aN (K:PySem.W.Frag) (ρ:List Addr) (H:Hp):List Val → List V → Prop
 | [],vs => vs = []
 | u :: us,vs => ∃ v r,vs = v :: r ∧ Rl K ρ H u v ∧ aN K ρ H us r
end
structure Step (ρ:List Addr) (H:Hp) (ρ':List Addr) (H':Hp):Prop where
 pre:ρ <+: ρ'
 tup:∀ b xs,H b = some (.tup xs) → H' b = some (.tup xs)
 d0:∀ b o u,H b = some (.d0 o u) → H' b = some (.d0 o u)
theorem Step.refl (ρ:List Addr) (H:Hp):Step ρ H ρ H:=⟨List.prefix_refl ρ,fun _ _ h => h,fun _ _ _ h => h⟩
theorem Step.trans {ρ ρ1 ρ2:List Addr} {H H1 H2:Hp} (a:Step ρ H ρ1 H1) (b:Step ρ1 H1 ρ2 H2):Step ρ H ρ2 H2 :=
 ⟨a.pre.trans b.pre,fun _ _ h => b.tup _ _ (a.tup _ _ h),fun _ _ _ h => b.d0 _ _ _ (a.d0 _ _ _ h)⟩
theorem Step.same {ρ:List Addr} {H H':Hp} (e:jd H H'):Step ρ H ρ H':=⟨List.prefix_refl ρ,fun _ _ h => e _ _ h,fun _ _ _ h => e _ _ h⟩
theorem Step.snoc {ρ:List Addr} {H H':Hp} (p:Addr) (e:jd H H'):Step ρ H (ρ ++ [p]) H':=⟨List.prefix_append ρ [p],fun _ _ h => e _ _ h,fun _ _ _ h => e _ _ h⟩
theorem Step.at_ {ρ ρ':List Addr} {H H':Hp} (e:Step ρ H ρ' H') {n:Nat} {a:Addr} (h:ρ[n]? = some a):ρ'[n]? = some a:=by
 obtain ⟨t,rfl⟩:=e.pre
 have hl:n < ρ.length:=by
  rcases Nat.lt_or_ge n ρ.length with q | q
  ·exact q
  ·rw [List.getElem?_eq_none q] at h; cases h
 rw [List.getElem?_append_left hl,h]
theorem Step.Ng {K:PySem.W.Frag} {ρ ρ':List Addr} {H H':Hp} (e:Step ρ H ρ' H') {a:Addr} {xs:List V} (h:gp K H a xs):gp K H' a xs:=by
 rcases h with (h | ⟨o,h⟩) | h
 ·exact .inl (.inl (e.tup _ _ h))
 ·exact .inl (.inr ⟨o,e.d0 _ _ _ h⟩)
 ·exact .inr h
mutual
theorem Rl.mono {K:PySem.W.Frag} {ρ ρ':List Addr} {H H':Hp} (e:Step ρ H ρ' H'):∀ (u:Val) (v:V),Rl K ρ H u v → Rl K ρ' H' u v
 | .da,_,h => h
 | .bl _,_,h => h
 | .int _,_,h => h
 | .str _,_,h => h
 | .tup us,v,h => by
  unfold Rl at h ⊢
  obtain ⟨a,vs,h1,h2,h3⟩:=h
  exact ⟨a,vs,h1,e.tup _ _ h2,aN.mono e us vs h3⟩
 | .mt us,v,h => by
  unfold Rl at h ⊢
  obtain ⟨a,vs,h1,h2,h3⟩:=h
  exact ⟨a,vs,h1,e.Ng h2,aN.mono e us vs h3⟩
 | .loc n,v,h => by
  unfold Rl at h ⊢
  obtain ⟨a,h1,h2⟩:=h
  exact ⟨a,h1,e.at_ h2⟩
 | .exc c,v,h => h
 | .fn _ _,_,h => h
theorem aN.mono {K:PySem.W.Frag} {ρ ρ':List Addr} {H H':Hp} (e:Step ρ H ρ' H'):∀ (us:List Val) (vs:List V),aN K ρ H us vs → aN K ρ' H' us vs
 | [],_,h => h
 | u :: us,vs,h => by
  unfold aN at h ⊢
  obtain ⟨v,r,h1,h2,h3⟩:=h
  exact ⟨v,r,h1,Rl.mono e u v h2,aN.mono e us r h3⟩
end
section
variable {K:PySem.W.Frag} {ρ ρ':List Addr} {H H':Hp}
theorem aN.nil:aN K ρ H [] []:=by unfold aN; rfl
theorem aN.cons {u:Val} {us:List Val} {v:V} {vs:List V} (h:Rl K ρ H u v) (hs:aN K ρ H us vs):aN K ρ H (u :: us) (v :: vs):=by
 unfold aN; exact ⟨v,vs,rfl,h,hs⟩
theorem aN.bM {u:Val} {us:List Val} {vs:List V} (h:aN K ρ H (u :: us) vs):∃ v r,vs = v :: r ∧ Rl K ρ H u v ∧ aN K ρ H us r:=by
 unfold aN at h; exact h
theorem aN.dO {vs:List V} (h:aN K ρ H [] vs):vs = []:=by unfold aN at h; exact h
theorem aN.length:∀ {us:List Val} {vs:List V},aN K ρ H us vs → us.length = vs.length
 | [],vs,h => by rw [h.dO]; rfl
 | u :: us,vs,h => by
  obtain ⟨v,r,rfl,_,h3⟩:=h.bM
  rw [List.length_cons,List.length_cons,h3.length]
theorem aN.get:∀ {us:List Val} {vs:List V} {i:Nat} {u:Val},aN K ρ H us vs → us[i]? = some u → ∃ v,vs[i]? = some v ∧ Rl K ρ H u v
 | [],_,_,_,_,e => by cases e
 | w :: us,vs,0,u,h,e => by
  obtain ⟨v,r,rfl,h2,_⟩:=h.bM
  cases e
  exact ⟨v,rfl,h2⟩
 | w :: us,vs,i + 1,u,h,e => by
  obtain ⟨v,r,rfl,_,h3⟩:=h.bM
  exact aN.get (i:=i) h3 e
theorem aN.append:∀ {us ws:List Val} {vs xs:List V},aN K ρ H us vs → aN K ρ H ws xs → aN K ρ H (us ++ ws) (vs ++ xs)
 | [],_,vs,_,h,k => by rw [h.dO]; exact k
 | u :: us,ws,vs,xs,h,k => by
  obtain ⟨v,r,rfl,h2,h3⟩:=h.bM
  exact aN.cons h2 (h3.append k)
theorem aN.drop:∀ (n:Nat) {us:List Val} {vs:List V},aN K ρ H us vs → aN K ρ H (us.drop n) (vs.drop n)
 | 0,_,_,h => h
 | _ + 1,[],vs,h => by rw [h.dO]; exact aN.nil
 | n + 1,u :: us,vs,h => by
  obtain ⟨v,r,rfl,h2,h3⟩:=h.bM
  exact aN.drop n h3
theorem aN.take:∀ (n:Nat) {us:List Val} {vs:List V},aN K ρ H us vs → aN K ρ H (us.take n) (vs.take n)
 | 0,_,_,_ => aN.nil
 | _ + 1,[],vs,h => by rw [h.dO]; exact aN.nil
 | n + 1,u :: us,vs,h => by
  obtain ⟨v,r,rfl,h2,h3⟩:=h.bM
  exact aN.cons h2 (aN.take n h3)
theorem aN.one {u:Val} {v:V} (h:Rl K ρ H u v):aN K ρ H [u] [v]:=aN.cons h aN.nil
theorem aN.yo {u:Val} {vs:List V} (h:aN K ρ H [u] vs):∃ v,vs = [v] ∧ Rl K ρ H u v:=by
 obtain ⟨v,r,rfl,h2,h3⟩:=h.bM
 rw [h3.dO]
 exact ⟨v,rfl,h2⟩
theorem aN.Lg {u w:Val} {vs:List V} (h:aN K ρ H [u,w] vs):∃ v x,vs = [v,x] ∧ Rl K ρ H u v ∧ Rl K ρ H w x:=by
 obtain ⟨v,r,rfl,h2,h3⟩:=h.bM
 obtain ⟨x,rfl,h4⟩:=h3.yo
 exact ⟨v,x,rfl,h2,h4⟩
theorem aN.ints:∀ (ns:List Int),aN K ρ H (ns.map Val.int) (ns.map V.int)
 | [] => aN.nil
 | n :: ns => aN.cons (by unfold Rl; rfl) (aN.ints ns)
theorem Rl.cA {i:Int} {v:V} (h:Rl K ρ H (.int i) v):v = .int i:=by unfold Rl at h; exact h
theorem Rl.sG {b:Bool} {v:V} (h:Rl K ρ H (.bl b) v):v = .bl b:=by unfold Rl at h; exact h
theorem Rl.ij {x:Str} {v:V} (h:Rl K ρ H (.str x) v):v = .str x:=by unfold Rl at h; exact h
theorem Rl.nC {v:V} (h:Rl K ρ H .da v):v = .da:=by unfold Rl at h; exact h
theorem Rl.Jr {us:List Val} {v:V} (h:Rl K ρ H (.tup us) v):∃ a vs,v = .ref a ∧ H a = some (.tup vs) ∧ aN K ρ H us vs:=by unfold Rl at h; exact h
theorem Rl.d3 {us:List Val} {v:V} (h:Rl K ρ H (.tup us) v):∃ a vs,v = .ref a ∧ gp K H a vs ∧ aN K ρ H us vs:=let ⟨a,vs,h1,h2,h3⟩:=h.Jr; ⟨a,vs,h1,gp.of h2,h3⟩
theorem Rl.Rt {us:List Val} {v:V} (h:Rl K ρ H (.mt us) v):∃ a vs,v = .ref a ∧ gp K H a vs ∧ aN K ρ H us vs:=by unfold Rl at h; exact h
theorem Rl.Nh {us:List Val} {a:Addr} {vs:List V} (h:gp K H a vs) (r:aN K ρ H us vs):Rl K ρ H (.mt us) (.ref a):=by unfold Rl; exact ⟨a,vs,rfl,h,r⟩
theorem Rl.dF {n:Nat} {v:V} (h:Rl K ρ H (.loc n) v):∃ a,v = .ref a ∧ ρ[n]? = some a:=by unfold Rl at h; exact h
theorem Rl.mkInt (i:Int):Rl K ρ H (.int i) (.int i):=by unfold Rl; rfl
theorem Rl.CG (b:Bool):Rl K ρ H (.bl b) (.bl b):=by unfold Rl; rfl
theorem Rl.mkStr (x:Str):Rl K ρ H (.str x) (.str x):=by unfold Rl; rfl
theorem Rl.vU:Rl K ρ H .da .da:=by unfold Rl; rfl
theorem Rl.lS {us:List Val} {a:Addr} {vs:List V} (h:H a = some (.tup vs)) (r:aN K ρ H us vs):Rl K ρ H (.tup us) (.ref a):=by unfold Rl; exact ⟨a,vs,rfl,h,r⟩
theorem Rl.zw {n:Nat} {a:Addr} (h:ρ[n]? = some a):Rl K ρ H (.loc n) (.ref a):=by unfold Rl; exact ⟨a,rfl,h⟩
end
noncomputable def gq {κ:Type} (K:PySem.W.Frag) (ρ:List Addr) (H:Hp) (aI:List (κ × Val)) (iV:List (κ × V)):Prop:=aI.map (·.1) = iV.map (·.1) ∧ aN K ρ H (aI.map (·.2)) (iV.map (·.2))
noncomputable def g9:Option Cell → Bool
 | some (.mod _) => true
 | _ => false
noncomputable def Ni (K:PySem.W.Frag) (a:Addr) (vs:List V):Prop:=∃ (o:Obj) (aE:Array Value) (n:Nat),K.lookup a = some o ∧ o.cls = .type "list" ∧ o.dict = none ∧ o.data = .seq aE n ∧ aE.size ≤ sizeLine ∧ Vals vs aE.toList
noncomputable def dP (K:PySem.W.Frag) (ρ:List Addr) (H:Hp):Cell → Addr → Prop
 | .lst us,a => ∃ vs,H a = some (.lst vs) ∧ aN K ρ H us vs
 | .El us,a => ∃ o vs,H a = some (.d0 o (.lst vs)) ∧ aN K ρ H us vs
 | .mod us,a => ∃ vs,Ni K a vs ∧ aN K ρ H us vs
 | .dK aI,a => ∃ iV,H a = some (.dK iV) ∧ gq K ρ H aI iV
 | .dT aI,a => ∃ iV,H a = some (.dT iV) ∧ gq K ρ H aI iV
 | .tab x l c q,a => (∃ cd,PySem.W.tabIn K x = some (cd,a)) ∧ Tab H a l c q
structure SR (K:PySem.W.Frag) (ρ:List Addr) (st:ai) (H:Hp):Prop where
 len:ρ.length = st.length
 nd:∀ (n m:Nat) a,ρ[n]? = some a → ρ[m]? = some a → g9 st[n]? = false → g9 st[m]? = false → n = m
 cell:∀ (n:Nat) c a,st[n]? = some c → ρ[n]? = some a → dP K ρ H c a
theorem fB {α:Type} {l:List α} {n:Nat} {x:α} (h:l[n]? = some x):n < l.length:=by
 rcases Nat.lt_or_ge n l.length with q | q
 ·exact q
 ·rw [List.getElem?_eq_none q] at h; cases h
section
variable {K:PySem.W.Frag} {ρ ρ':List Addr} {H H':Hp} {st:ai}
theorem dP.there {c:Cell} {a:Addr} (h:dP K ρ H c a) (hn:g9 (some c) = false):∃ o,H a = some o ∧ ∀ xs,o ≠ .tup xs:=by
 cases c with
 | lst us => obtain ⟨vs,h,_⟩:=h; exact ⟨_,h,fun xs e => by cases e⟩
 | El us => obtain ⟨o,vs,h,_⟩:=h; exact ⟨_,h,fun xs e => by cases e⟩
 | mod us => cases hn
 | dK aI => obtain ⟨vs,h,_⟩:=h; exact ⟨_,h,fun xs e => by cases e⟩
 | dT aI => obtain ⟨vs,h,_⟩:=h; exact ⟨_,h,fun xs e => by cases e⟩
 | tab x l c q => rcases h.2 with h | ⟨_,_,_,_,h,_⟩ <;> exact ⟨_,h,fun xs e => by cases e⟩
theorem dP.mono {c:Cell} {a:Addr} (h:dP K ρ H c a) (e:Step ρ H ρ' H') (ha:g9 (some c) = true ∨ H' a = H a):dP K ρ' H' c a:=by
 cases c with
 | mod us => obtain ⟨vs,h,r⟩:=h; exact ⟨vs,h,aN.mono e _ _ r⟩
 | lst us => rcases ha with ha | ha <;> first | cases ha; done | (obtain ⟨vs,h,r⟩:=h; exact ⟨vs,ha.trans h,aN.mono e _ _ r⟩)
 | El us => rcases ha with ha | ha <;> first | cases ha; done | (obtain ⟨o,vs,h,r⟩:=h; exact ⟨o,vs,ha.trans h,aN.mono e _ _ r⟩)
 | dK aI => rcases ha with ha | ha <;> first | cases ha; done | (obtain ⟨vs,h,r⟩:=h; exact ⟨vs,ha.trans h,r.1,aN.mono e _ _ r.2⟩)
 | dT aI => rcases ha with ha | ha <;> first | cases ha; done | (obtain ⟨vs,h,r⟩:=h; exact ⟨vs,ha.trans h,r.1,aN.mono e _ _ r.2⟩)
 | tab x l c q =>
  refine ⟨h.1,?_⟩
  rcases ha with ha | ha
  ·cases ha
  ·rcases h.2 with h | ⟨c',oc,vs,t,h,h2,h3⟩
   ·exact .inl (ha.trans h)
   ·exact .inr ⟨c',oc,vs,t,ha.trans h,e.d0 _ _ _ h2,h3⟩
theorem dP.grow {c:Cell} {a:Addr} (h:dP K ρ H c a) (e:Step ρ H ρ' H') (s:jd H H'):dP K ρ' H' c a:=by
 cases z:g9 (some c) with
 | true => exact h.mono e (.inl z)
 | false =>
  obtain ⟨o,ho,_⟩:=h.there z
  exact h.mono e (.inr (by rw [ho]; exact s _ _ ho))
theorem SR.there (s:SR K ρ st H) {n:Nat} {a:Addr} (h:ρ[n]? = some a):∃ c,st[n]? = some c ∧ dP K ρ H c a:=by
 have hn:=fB h
 have BG:n < st.length:=by rw [← s.len]; exact hn
 exact ⟨st[n],List.getElem?_eq_getElem BG,s.cell n _ a (List.getElem?_eq_getElem BG) h⟩
theorem SR.addr (s:SR K ρ st H) {n:Nat} {c:Cell} (h:st[n]? = some c):∃ a,ρ[n]? = some a ∧ dP K ρ H c a:=by
 have hn:=fB h
 have BG:n < ρ.length:=by rw [s.len]; exact hn
 exact ⟨ρ[n],List.getElem?_eq_getElem BG,s.cell n c _ h (List.getElem?_eq_getElem BG)⟩
theorem SR.grow (s:SR K ρ st H) (e:jd H H'):SR K ρ st H' :=
 ⟨s.len,s.nd,fun n c a h1 h2 => (s.cell n c a h1 h2).grow (Step.same e) e⟩
theorem SR.Em (s:SR K ρ st H) {p:Addr} (hp:H p = none) {n:Nat} (h:ρ[n]? = some p) (hm:g9 st[n]? = false):False:=by
 obtain ⟨c,hc,k⟩:=s.there h
 rw [hc] at hm
 obtain ⟨o,ho,_⟩:=k.there hm
 rw [hp] at ho
 cases ho
theorem cD {p:Addr} {o:HO} (hp:H p = none):jd H (upd H p o):=jd.upd (jd.refl H) hp
theorem SR.alloc (s:SR K ρ st H) {p:Addr} {o:HO} {c:Cell} (hp:H p = none) (k:dP K (ρ ++ [p]) (upd H p o) c p):SR K (ρ ++ [p]) (st ++ [c]) (upd H p o):=by
 have e:jd H (upd H p o):=cD hp
 have at_:∀ (n:Nat) (a:Addr),(ρ ++ [p])[n]? = some a → (n < st.length ∧ ρ[n]? = some a ∧ (st ++ [c])[n]? = st[n]?) ∨ (n = st.length ∧ a = p ∧ (st ++ [c])[n]? = some c):=by
  intro n a h
  rcases Nat.lt_trichotomy n st.length with q | q | q
  ·rw [List.getElem?_append_left (by rw [s.len]; exact q)] at h
   exact .inl ⟨q,h,List.getElem?_append_left q⟩
  ·subst q
   rw [List.getElem?_append_right (by rw [s.len]; exact Nat.le_refl _),s.len,Nat.sub_self] at h
   cases h
   refine .inr ⟨rfl,rfl,?_⟩
   rw [List.getElem?_append_right (Nat.le_refl _),Nat.sub_self]; rfl
  ·rw [List.getElem?_eq_none (by rw [List.length_append,List.length_singleton,s.len]; lia)] at h
   cases h
 refine ⟨by rw [List.length_append,List.length_append,s.len]; rfl,fun n m a h1 h2 m1 m2 => ?_,fun n c' a h1 h2 => ?_⟩
 ·rcases at_ n a h1 with ⟨q1,q2,q3⟩ | ⟨q1,q2,q3⟩ <;> rcases at_ m a h2 with ⟨r1,r2,r3⟩ | ⟨r1,r2,r3⟩
  ·rw [q3] at m1; rw [r3] at m2; exact s.nd n m a q2 r2 m1 m2
  ·subst r2; rw [q3] at m1; exact (s.Em hp q2 m1).elim
  ·subst q2; rw [r3] at m2; exact (s.Em hp r2 m2).elim
  ·rw [q1,r1]
 ·rcases at_ n a h2 with ⟨q1,q2,q3⟩ | ⟨q1,q2,q3⟩
  ·rw [q3] at h1
   exact (s.cell n c' a h1 q2).grow (Step.snoc p e) e
  ·rw [q3] at h1
   cases h1
   subst q2
   exact k
theorem Step.put {a:Addr} {o o':HO} (h:H a = some o) (h1:∀ xs,o ≠ .tup xs) (h2:∀ x u,o ≠ .d0 x u):Step ρ H ρ (upd H a o'):=by
 refine ⟨List.prefix_refl ρ,fun b xs e => ?_,fun b x u e => ?_⟩
 ·rw [aD (fun z => ?_)]
  ·exact e
  ·subst z; rw [h] at e; exact h1 _ (Option.some.inj e)
 ·rw [aD (fun z => ?_)]
  ·exact e
  ·subst z; rw [h] at e; exact h2 _ _ (Option.some.inj e)
theorem SR.set (s:SR K ρ st H) {n:Nat} {a:Addr} {o o':HO} {c c':Cell} (h:st[n]? = some c) (hc:g9 (some c) = false) (dE:g9 (some c') = false) (ha:ρ[n]? = some a) (ho:H a = some o) (h1:∀ xs,o ≠ .tup xs) (h2:∀ x u,o ≠ .d0 x u)
  (k:dP K ρ (upd H a o') c' a):SR K ρ (st.set n c') (upd H a o'):=by
 have hn:n < st.length:=fB h
 have at_:∀ (m:Nat),g9 (st.set n c')[m]? = g9 st[m]?:=fun m => by
  by_cases z:m = n
  ·subst z; rw [List.getElem?_set_self hn,h,hc,dE]
  ·rw [List.getElem?_set_ne (fun y => z y.symm)]
 refine ⟨by rw [List.length_set]; exact s.len,fun i m b q1 q2 m1 m2 => s.nd i m b q1 q2 (by rw [← at_]; exact m1) (by rw [← at_]; exact m2),fun m d b q1 q2 => ?_⟩
 by_cases z:m = n
 ·subst z
  rw [ha] at q2
  cases q2
  rw [List.getElem?_set_self hn] at q1
  cases q1
  exact k
 ·rw [List.getElem?_set_ne (fun y => z y.symm)] at q1
  have kb:=s.cell m d b q1 q2
  cases zm:g9 (some d) with
  | true => exact kb.mono (Step.put ho h1 h2) (.inl zm)
  | false =>
   have hb:b ≠ a:=fun y => z (s.nd m n a (by rw [← y]; exact q2) ha (by rw [q1]; exact zm) (by rw [h]; exact hc))
   exact kb.mono (Step.put ho h1 h2) (.inr (aD hb))
end
noncomputable def uu (W:Wo) (ρ:List Addr) (H:Hp) (u:Val) (v:V):Prop:=match u with
 | .exc c => ∃ a oe C,v = .ref a ∧ (a,oe) ∈ W.pn ∧ W.mg c = some (.ref C) ∧ oe.cls = .ref C
 | .fn L u => ∃ f c c' cv,v = .ref f ∧ Eh L H f c c' cv ∧ Rl W.K ρ H u cv
 | u => Rl W.K ρ H u v
theorem uu.mono {W:Wo} {ρ ρ':List Addr} {H H':Hp} {u:Val} {v:V} (h:uu W ρ H u v) (e:Step ρ H ρ' H'):uu W ρ' H' u v:=by
 cases u with
 | exc c => exact h
 | fn L u => obtain ⟨f,c,c',cv,h1,C,r⟩:=h; exact ⟨f,c,c',cv,h1,C.mono (fun b o u q => e.d0 b o u q),Rl.mono e _ _ r⟩
 | _ => exact Rl.mono e _ _ h
theorem uu.of {W:Wo} {ρ:List Addr} {H:Hp} {u:Val} {v:V} (h:Rl W.K ρ H u v):uu W ρ H u v:=by
 cases u with
 | exc c => unfold Rl at h; exact h.elim
 | fn L u => unfold Rl at h; exact h.elim
 | _ => exact h
structure RS (W:Wo) (ρ:List Addr) (H:Hp) (μ:Env) (σ:St):Prop where
 len:μ.length = σ.length
 at_:∀ (i:Nat) u,μ[i]? = some (some u) → ∃ v,σ[i]? = some (some v) ∧ uu W ρ H u v
section
variable {W:Wo} {ρ ρ':List Addr} {H H':Hp} {μ:Env} {σ:St}
theorem RS.mono (r:RS W ρ H μ σ) (e:Step ρ H ρ' H'):RS W ρ' H' μ σ:=⟨r.len,fun i u h => let ⟨v,h1,h2⟩:=r.at_ i u h; ⟨v,h1,h2.mono e⟩⟩
theorem RS.Js (r:RS W ρ H μ σ) (i:Nat) {u:Val} {v:V} (h:uu W ρ H u v):RS W ρ H (μ.set i (some u)) (σ.set i (some v)):=by
 refine ⟨by rw [List.length_set,List.length_set]; exact r.len,fun j w e => ?_⟩
 by_cases z:j = i
 ·subst z
  have hj:=fB e
  rw [List.length_set] at hj
  rw [List.getElem?_set_self hj] at e
  cases e
  exact ⟨v,List.getElem?_set_self (by rw [← r.len]; exact hj),h⟩
 ·rw [List.getElem?_set_ne (fun y => z y.symm)] at e ⊢
  exact r.at_ j w e
theorem RS.set (r:RS W ρ H μ σ) (i:Nat) {u:Val} {v:V} (h:Rl W.K ρ H u v):RS W ρ H (μ.set i (some u)) (σ.set i (some v)):=r.Js i (uu.of h)
end
end MN
namespace MN
open PySem PySem.Spec L2
open PyProof.Rows hiding St
noncomputable abbrev ME:=Env → ai → Res Val
noncomputable abbrev MT:=Env → ai → Res Bool
noncomputable abbrev MA:=Env → ai → Res (List Val)
noncomputable abbrev MB:=Env → ai → bU
noncomputable def wR {α β:Type} (W:Wo) (E:XK) (R:List Addr → Hp → α → β → Prop) (ρ:List Addr) (H:Hp) (Q:β → Hp → Prop):Res α → Prop
 | .ok u av => ∀ ρ' H' v,Step ρ H ρ' H' → SR W.K ρ' av H' → R ρ' H' u v → Q v H'
 | .err c av => ∃ C,W.mg c = some (.ref C) ∧ ∀ ρ' H',Step ρ H ρ' H' → SR W.K ρ' av H' → E (.ref C) none H'
 | .bad => False
theorem wR.mono {α β:Type} {W:Wo} {E:XK} {R:List Addr → Hp → α → β → Prop} {ρ ρ':List Addr} {H H':Hp} {Q:β → Hp → Prop} {r:Res α} (h:wR W E R ρ H Q r) (e:Step ρ H ρ' H'):wR W E R ρ' H' Q r:=by
 cases r with
 | ok u st => exact fun ρ2 H2 v e2 s r => h ρ2 H2 v (e.trans e2) s r
 | err c st => obtain ⟨C,h1,h2⟩:=h; exact ⟨C,h1,fun ρ2 H2 e2 s => h2 ρ2 H2 (e.trans e2) s⟩
 | bad => exact h
theorem wR.pn {α β:Type} {K:PySem.W.Frag} {mg:Str → Option Value} {pn Gf:List (Addr × Obj)} {E:XK} {R:List Addr → Hp → α → β → Prop} {ρ:List Addr} {H:Hp} {Q:β → Hp → Prop} {r:Res α} (h:wR ⟨K,mg,pn⟩ E R ρ H Q r):wR ⟨K,mg,Gf⟩ E R ρ H Q r:=by
 cases r <;> exact h
noncomputable def tG {α β:Type} (W:Wo) (E:XK) (R:List Addr → Hp → α → β → Prop) (m:Env → ai → Res α):St → Hp → (β → Hp → Prop) → Prop :=
 fun σ H Q => ∃ μ ρ st,RS W ρ H μ σ ∧ SR W.K ρ st H ∧ wR W E R ρ H Q (m μ st)
noncomputable abbrev RB:List Addr → Hp → Bool → Bool → Prop:=fun _ _ b c => c = b
noncomputable abbrev tE (X:Cx) (E:XK) (m:ME):TE:=tG (wo X) E (Rl X.K) m
noncomputable abbrev tT (X:Cx) (E:XK) (m:MT):TT:=tG (wo X) E RB m
noncomputable abbrev tL (X:Cx) (E:XK) (m:MA):TA:=tG (wo X) E (aN X.K) m
theorem go {α β γ δ:Type} {W:Wo} {E:XK} {R1:List Addr → Hp → α → β → Prop} {R2:List Addr → Hp → γ → δ → Prop} {m:Env → ai → Res α} {k:α → ai → Res γ} {σ:St} {H:Hp} {Q:δ → Hp → Prop} {Q':β → Hp → Prop}
  (μ:Env) (ρ:List Addr) (st:ai) (rs:RS W ρ H μ σ) (sr:SR W.K ρ st H) (h:wR W E R2 ρ H Q ((m μ st).bind k))
  (c:∀ u aX ρ1 H1 x,Step ρ H ρ1 H1 → SR W.K ρ1 aX H1 → R1 ρ1 H1 u x → wR W E R2 ρ1 H1 Q (k u aX) → Q' x H1):tG W E R1 m σ H Q':=by
 refine ⟨μ,ρ,st,rs,sr,?_⟩
 cases e:m μ st with
 | ok u aX =>
  rw [e] at h
  intro ρ1 H1 x e1 bR r1
  exact c u aX ρ1 H1 x e1 bR r1 (wR.mono h e1)
 | err c aX => rw [e] at h; exact h
 | bad => rw [e] at h; exact h
section
variable {X:Cx}
theorem PE.imp {e:Expr} {t t':TE} (h:PE X e t) (k:∀ σ H Q,t' σ H Q → t σ H Q):PE X e t':=fun pins s σ H Q I q => h pins s σ H Q I (k σ H Q q)
theorem PT.imp {e:Expr} {t t':TT} (h:PT X e t) (k:∀ σ H Q,t' σ H Q → t σ H Q):PT X e t':=fun pins s σ H Q I q => h pins s σ H Q I (k σ H Q q)
theorem PW.imp {e:Expr} {t t':TT} (h:PW X e t) (k:∀ σ H Q,t' σ H Q → t σ H Q):PW X e t':=fun w pins s σ H Q I q => h w pins s σ H Q I (k σ H Q q)
theorem PA.imp {e:List Expr} {t t':TA} (h:PA X e t) (k:∀ σ H Q,t' σ H Q → t σ H Q):PA X e t':=fun p pins s σ H Q I q => h p pins s σ H Q I (k σ H Q q)
theorem PS.imp {e:Stmt} {t t':TS} (h:PS X e t) (k:∀ D σ H,t' D σ H → t D σ H):PS X e t':=fun pins s σ H D I q => h pins s σ H D I (k D σ H q)
theorem i_.imp {e:List Stmt} {t t':TS} (h:i_ X e t) (k:∀ D σ H,t' D σ H → t D σ H):i_ X e t':=fun pins s σ H D I q => h pins s σ H D I (k D σ H q)
theorem PG.imp {e:Expr} {t t':TG} (h:PG X e t) (k:∀ v σ H Q,t' v σ H Q → t v σ H Q):PG X e t':=fun pins s σ H v u Q I r q => h pins s σ H v u Q I r (k v σ H Q q)
theorem dz.imp {f:Value → Value → Sem Value} {t t':R2} (h:dz X f t) (k:∀ x y H Q,t' x y H Q → t x y H Q):dz X f t':=fun pins s σ H x y v u Q I rx ry q => h pins s σ H x y v u Q I rx ry (k x y H Q q)
theorem bZ.imp {f:Value} {t t':List V → Hp → VK → Prop} (h:bZ X f t) (k:∀ xs H Q,t' xs H Q → t xs H Q):bZ X f t':=fun pins s σ H xs us Q I r q => h pins s σ H xs us Q I r (k xs H Q q)
theorem uq.imp {t t':R2} (h:uq X t) (k:∀ x y H Q,t' x y H Q → t x y H Q):uq X t':=fun va sl pins s σ H x y v u Q I rx ry q e => h va sl pins s σ H x y v u Q I rx ry (k x y H Q q) e
end
noncomputable def xj:Val → Bool
 | .exc _ => true
 | .fn _ _ => true
 | _ => false
noncomputable def ae (i:Nat):ME:=fun μ st => match μ[i]? with
 | some (some v) => if xj v = true then .bad else .ok v st
 | _ => .bad
theorem uu.un {W:Wo} {ρ:List Addr} {H:Hp} {u:Val} {v:V} (h:uu W ρ H u v) (n:¬ xj u = true):Rl W.K ρ H u v:=by
 cases u with
 | exc c => exact absurd rfl n
 | fn L u => exact absurd rfl n
 | _ => exact h
noncomputable def mC (v:Val):ME:=fun _ st => .ok v st
section
variable {X:Cx} {E:XK} {pos:Pos}
theorem af (i:Nat) {x:Str} (hN:X.N[i]? = some x:=by rfl) (hv:EW X.env.scope x:=by first | exact Or.inl rfl | exact Or.inr (Or.inl rfl) | exact Or.inr (Or.inr rfl)) (hd:(x == ("__debug__":Str)) = false:=by decide)
  (m6:(x == ("__classdict__":Str)) = false:=by decide):PE X (.Name x pos) (tE X E (ae i)):=by
 refine PE.imp (yA hN hv hd m6) ?_
 rintro σ H Q ⟨μ,ρ,st,rs,sr,h⟩
 unfold ae at h
 split at h
 ·rename_i v e
  obtain ⟨w,e',r⟩:=rs.at_ i v e
  split at h
  ·exact h.elim
  ·rename_i n
   exact ⟨w,e',h ρ H w (Step.refl _ _) sr (r.un n)⟩
 ·exact h.elim
theorem sH {e:Expr} {v:V} {c:Val} (h:PE X e (tC v)) (r:∀ ρ H,Rl X.K ρ H c v):PE X e (tE X E (mC c)):=by
 refine PE.imp h ?_
 rintro σ H Q ⟨μ,ρ,st,rs,sr,h⟩
 exact h ρ H v (Step.refl _ _) sr (r ρ H)
theorem aw {i j}:PE X (.Constant (.int i) j pos) (tE X E (mC (.int i))):=sH yB fun _ _ => Rl.mkInt i
theorem jF {b j}:PE X (.Constant (.bool b) j pos) (tE X E (mC (.bl b))):=sH D8 fun _ _ => Rl.CG b
theorem Gg {j}:PE X (.Constant .none j pos) (tE X E (mC .da)):=sH EZ fun _ _ => Rl.vU
theorem je {x j}:PE X (.Constant (.str x) j pos) (tE X E (mC (.str x))):=sH E1 fun _ _ => Rl.mkStr x
structure Glob (K:PySem.W.Frag) (mg:Str → Option Value) (x:Str) (c:Val):Prop where
 at_:∃ (u:Value) (v:V),mg x = some u ∧ RelV v u ∧ ∀ ρ H,Rl K ρ H c v
theorem CH {x:Str} {c:Val} (hg:Gl X x) (h:Glob X.K X.mg x c) (hd:(x == ("__debug__":Str)) = false:=by decide):PE X (.Name x pos) (tE X E (mC c)):=by
 obtain ⟨u,v,h1,h2,h3⟩:=h.at_
 exact sH (vJ hg h1 h2 hd) h3
end
noncomputable abbrev F2:=Val → Val → ai → Res Val
noncomputable def rM (W:Wo) (E:XK) (f:F2):R2:=fun x y H Q => ∃ ρ st u w,SR W.K ρ st H ∧ Rl W.K ρ H u x ∧ Rl W.K ρ H w y ∧ wR W E (Rl W.K) ρ H Q (f u w st)
noncomputable def ah (f:F2) (a b:ME):ME:=fun μ st => (a μ st).bind fun x aX => (b μ aX).bind fun y cg => f x y cg
section
variable {X:Cx} {E:XK} {pos:Pos} {a b c:Expr} {ma mb mc:ME} {f g:F2}
theorem jG {σ:St} {H:Hp} {Q:VK} (h:tE X E (ah f ma mb) σ H Q):HH (rM (wo X) E f) (tE X E ma) (tE X E mb) σ H Q:=by
 obtain ⟨μ,ρ,st,rs,sr,h⟩:=h
 refine go μ ρ st rs sr h fun u aX ρ1 H1 x e1 bR r1 h1 => ?_
 refine go μ ρ1 aX (rs.mono e1) bR h1 fun w cg ρ2 H2 y e2 mF r2 h2 => ?_
 exact ⟨ρ2,cg,u,w,mF,Rl.mono e2 _ _ r1,r2,h2⟩
theorem ay {op:Operator} (ho:dz X (binaryOp op) (rM (wo X) E f)) (ha:PE X a (tE X E ma)) (hb:PE X b (tE X E mb)):PE X (.BinOp a op b pos) (tE X E (ah f ma mb)) :=
 PE.imp (Iv ho ha hb) fun _ _ _ h => jG h
theorem fK {op:CmpOp} (ho:dz X (compareOp op) (rM (wo X) E f)) (ha:PE X a (tE X E ma)) (hb:PE X b (tE X E mb)) (hm:behindInMarks op b = false:=by first | exact yJ _ | (with_unfolding_all rfl)):PE X (.Compare a [op] [b] pos) (tE X E (ah f ma mb)) :=
 PE.imp (BQ ho ha hb hm) fun _ _ _ h => jG h
noncomputable def b8 (m:ME):MT:=fun μ st => (m μ st).bind fun v av => match v with
 | .bl b => .ok b av
 | _ => .bad
theorem sI {m:ME} {σ:St} {H:Hp} {Q:Bool → Hp → Prop} (h:tT X E (b8 m) σ H Q):tE X E m σ H fun x H' => ∃ k,x = .bl k ∧ Q k H':=by
 obtain ⟨μ,ρ,st,rs,sr,h⟩:=h
 refine go μ ρ st rs sr h fun u aX ρ1 H1 x e1 bR r1 h1 => ?_
 cases u with
 | bl b => exact ⟨b,r1.sG,h1 ρ1 H1 b (Step.refl _ _) bR rfl⟩
 | _ => exact h1.elim
theorem b7 {op:CmpOp} (ho:dz X (compareOp op) (rM (wo X) E f)) (ha:PE X a (tE X E ma)) (hb:PE X b (tE X E mb)) (hm:behindInMarks op b = false:=by first | exact yJ _ | (with_unfolding_all rfl)):PT X (.Compare a [op] [b] pos) (tT X E (b8 (ah f ma mb))) :=
 PT.imp (BS ho ha hb hm) fun σ H Q h => by
  show HH (rM (wo X) E f) (tE X E ma) (tE X E mb) σ H _
  exact jG (sI h)
theorem jf {m:ME} (h:PE X a (tE X E m)) (he:∀ whole,isTrue a X.env whole = (do let v ← whole; standAt a.pos; holding [v] (truthy v)):=by intro _; rfl):PT X a (tT X E (b8 m)) :=
 PT.imp (E2 h he) fun σ H Q h => sI h
noncomputable def Nj (f g:F2) (a b c:ME):ME:=fun μ st => (a μ st).bind fun x aX => (b μ aX).bind fun y cg => (f x y cg).bind fun z iY => match z with
 | .bl true => (c μ iY).bind fun w uw => g y w uw
 | .bl false => .ok (.bl false) iY
 | _ => .bad
noncomputable def jH (a b:ME):ME:=fun μ st => (a μ st).bind fun x aX => match x with
 | .bl true => b μ aX
 | .bl false => .ok (.bl false) aX
 | _ => .bad
noncomputable def Jt (a:ME):ME:=fun μ st => (a μ st).bind fun x aX => match x with
 | .bl b => .ok (.bl (!b)) aX
 | _ => .bad
noncomputable def lU (a b:MT):MT:=fun μ st => (a μ st).bind fun x aX => match x with
 | true => b μ aX
 | false => .ok false aX
noncomputable def pb (a b:MT):MT:=fun μ st => (a μ st).bind fun x aX => match x with
 | true => .ok true aX
 | false => b μ aX
noncomputable def d4 (a:MT):MT:=fun μ st => (a μ st).bind fun x aX => .ok (!x) aX
noncomputable def Lh (t:MT) (a b:ME):ME:=fun μ st => (t μ st).bind fun x aX => match x with
 | true => a μ aX
 | false => b μ aX
variable {rest:List Expr} {tA BH:MT}
theorem kE {op} {m:ME} (h:PE X a (tE X E m)):PE X (.BoolOp op [a] pos) (tE X E m):=E8 h
theorem ik (ha:PE X a (tE X E ma)) (hb:PE X (.BoolOp .And (b :: rest) pos) (tE X E mb)):PE X (.BoolOp .And (a :: b :: rest) pos) (tE X E (jH ma mb)):=by
 refine PE.imp (E9 ha hb) ?_
 rintro σ H Q ⟨μ,ρ,st,rs,sr,h⟩
 refine go μ ρ st rs sr h fun u aX ρ1 H1 x e1 bR r1 h1 => ?_
 cases u with
 | bl k =>
  refine ⟨k,r1.sG,?_⟩
  cases k with
  | true => rw [if_pos rfl]; exact ⟨μ,ρ1,aX,rs.mono e1,bR,h1⟩
  | false => rw [if_neg Bool.false_ne_true]; exact h1 ρ1 H1 _ (Step.refl _ _) bR (Rl.CG false)
 | _ => exact h1.elim
theorem Gh (ha:PE X a (tE X E ma)):PE X (.UnaryOp .Not a pos) (tE X E (Jt ma)):=by
 refine PE.imp (E_ ha) ?_
 rintro σ H Q ⟨μ,ρ,st,rs,sr,h⟩
 refine go μ ρ st rs sr h fun u aX ρ1 H1 x e1 bR r1 h1 => ?_
 cases u with
 | bl k => exact ⟨k,r1.sG,h1 ρ1 H1 _ (Step.refl _ _) bR (Rl.CG _)⟩
 | _ => exact h1.elim
theorem vV (ha:PT X a (tT X E tA)):PW X (.BoolOp .And [a] pos) (tT X E tA):=BI ha
theorem uN (ha:PT X a (tT X E tA)):PW X (.BoolOp .Or [a] pos) (tT X E tA):=E3 ha
theorem zx (ha:PT X a (tT X E tA)) (hb:PW X (.BoolOp .And (b :: rest) pos) (tT X E BH)):PW X (.BoolOp .And (a :: b :: rest) pos) (tT X E (lU tA BH)):=by
 refine PW.imp (E5 ha hb) ?_
 rintro σ H Q ⟨μ,ρ,st,rs,sr,h⟩
 refine go (R1:=RB) μ ρ st rs sr h fun u aX ρ1 H1 x e1 bR r1 h1 => ?_
 cases r1
 cases u with
 | true => rw [if_pos rfl]; exact ⟨μ,ρ1,aX,rs.mono e1,bR,h1⟩
 | false => rw [if_neg Bool.false_ne_true]; exact h1 ρ1 H1 _ (Step.refl _ _) bR rfl
theorem sJ (ha:PT X a (tT X E tA)) (hb:PW X (.BoolOp .Or (b :: rest) pos) (tT X E BH)):PW X (.BoolOp .Or (a :: b :: rest) pos) (tT X E (pb tA BH)):=by
 refine PW.imp (Ih ha hb) ?_
 rintro σ H Q ⟨μ,ρ,st,rs,sr,h⟩
 refine go (R1:=RB) μ ρ st rs sr h fun u aX ρ1 H1 x e1 bR r1 h1 => ?_
 cases r1
 cases u with
 | true => rw [if_pos rfl]; exact h1 ρ1 H1 _ (Step.refl _ _) bR rfl
 | false => rw [if_neg Bool.false_ne_true]; exact ⟨μ,ρ1,aX,rs.mono e1,bR,h1⟩
theorem zy {e:Expr} {t:MT} (h:PW X e (tT X E t)):PT X e (tT X E t):=h.pt
theorem kF (ha:PT X a (tT X E tA)):PT X (.UnaryOp .Not a pos) (tT X E (d4 tA)):=by
 refine PT.imp (E7 ha) ?_
 rintro σ H Q ⟨μ,ρ,st,rs,sr,h⟩
 refine go (R1:=RB) μ ρ st rs sr h fun u aX ρ1 H1 x e1 bR r1 h1 => ?_
 cases r1
 exact h1 ρ1 H1 _ (Step.refl _ _) bR rfl
theorem Ju (hc:PT X c (tT X E tA)) (ha:PE X a (tE X E ma)) (hb:PE X b (tE X E mb)):PE X (.IfExp c a b pos) (tE X E (Lh tA ma mb)):=by
 refine PE.imp (yC hc ha hb) ?_
 rintro σ H Q ⟨μ,ρ,st,rs,sr,h⟩
 refine go (R1:=RB) μ ρ st rs sr h fun u aX ρ1 H1 x e1 bR r1 h1 => ?_
 cases r1
 cases u with
 | true => rw [if_pos rfl]; exact ⟨μ,ρ1,aX,rs.mono e1,bR,h1⟩
 | false => rw [if_neg Bool.false_ne_true]; exact ⟨μ,ρ1,aX,rs.mono e1,bR,h1⟩
end
noncomputable def ak:MA:=fun _ st => .ok [] st
noncomputable def aa (a:ME) (r:MA):MA:=fun μ st => (a μ st).bind fun x aX => (r μ aX).bind fun xs cg => .ok (x :: xs) cg
noncomputable def d5 (a:MA):ME:=fun μ st => (a μ st).bind fun xs aX => if xs.length ≤ sizeLine then .ok (.tup xs) aX else .bad
noncomputable def dG (a:MA):ME:=fun μ st => (a μ st).bind fun xs aX => if xs.length ≤ sizeLine then .ok (.loc aX.length) (aX ++ [.lst xs]) else .bad
noncomputable abbrev FN:=List Val → ai → Res Val
noncomputable def ao (f:FN) (a:MA):ME:=fun μ st => (a μ st).bind fun xs aX => f xs aX
noncomputable def En (W:Wo) (f:FN):Sp:=fun vs H Q E => ∃ us ρ st,aN W.K ρ H us vs ∧ SR W.K ρ st H ∧ wR W E (Rl W.K) ρ H Q (f us st)
noncomputable def cM (W:Wo) (E:XK) (f:FN):List V → Hp → VK → Prop:=fun xs H Q => ∃ ρ st us,SR W.K ρ st H ∧ aN W.K ρ H us xs ∧ wR W E (Rl W.K) ρ H Q (f us st)
section
variable {X:Cx} {E:XK} {pos p:Pos} {e:Expr} {es:List Expr} {m:ME} {ms:MA} {f:FN} {x:Str}
theorem au:PA X [] (tL X E ak):=PA.imp ng fun σ H Q ⟨μ,ρ,st,rs,sr,h⟩ => h ρ H [] (Step.refl _ _) sr aN.nil
theorem aj (ha:PE X e (tE X E m)) (hr:PA X es (tL X E ms)) (hs:starEach (e :: es) X.env = (false,eval e X.env) :: starEach es X.env:=by rfl):PA X (e :: es) (tL X E (aa m ms)):=by
 refine PA.imp (gM ha hr hs) ?_
 rintro σ H Q ⟨μ,ρ,st,rs,sr,h⟩
 refine go μ ρ st rs sr h fun u aX ρ1 H1 x e1 bR r1 h1 => ?_
 refine go (R1:=aN X.K) μ ρ1 aX (rs.mono e1) bR h1 fun w cg ρ2 H2 y e2 mF r2 h2 => ?_
 exact h2 ρ2 H2 _ (Step.refl _ _) mF (aN.cons (Rl.mono e2 _ _ r1) r2)
theorem gQ {k} (h:PA X es (tL X E ms)):PE X (.Tuple es k pos) (tE X E (d5 ms)):=by
 refine PE.imp (Fu h) ?_
 rintro σ H Q ⟨μ,ρ,st,rs,sr,h⟩
 refine go (R1:=aN X.K) μ ρ st rs sr h fun us aX ρ1 H1 xs e1 bR r1 h1 => ?_
 by_cases hz:us.length ≤ sizeLine
 ·rw [if_pos hz] at h1
  refine ⟨by rw [← r1.length]; exact hz,fun p hp => ?_⟩
  have s:=cD (o:=.tup xs) hp
  exact h1 ρ1 _ _ (Step.same s) (bR.grow s) (Rl.lS aZ (aN.mono (Step.same s) _ _ r1))
 ·rw [if_neg hz] at h1; exact h1.elim
theorem fW {K:PySem.W.Frag} {ρ:List Addr} {st:ai} {H:Hp} {us:List Val} {xs:List V} (sr:SR K ρ st H) (r:aN K ρ H us xs) {p:Addr} (hp:H p = none) :
  Step ρ H (ρ ++ [p]) (upd H p (.lst xs)) ∧ SR K (ρ ++ [p]) (st ++ [.lst us]) (upd H p (.lst xs)) ∧ Rl K (ρ ++ [p]) (upd H p (.lst xs)) (.loc st.length) (.ref p):=by
 have s:=cD (o:=.lst xs) hp
 refine ⟨Step.snoc p s,sr.alloc hp ⟨xs,aZ,aN.mono (Step.snoc p s) _ _ r⟩,Rl.zw ?_⟩
 rw [← sr.len,List.getElem?_append_right (Nat.le_refl _),Nat.sub_self]
 rfl
theorem gR (h:PA X es (tL X E ms)):PE X (.List es pos) (tE X E (dG ms)):=by
 refine PE.imp (Fv h) ?_
 rintro σ H Q ⟨μ,ρ,st,rs,sr,h⟩
 refine go (R1:=aN X.K) μ ρ st rs sr h fun us aX ρ1 H1 xs e1 bR r1 h1 => ?_
 by_cases hz:us.length ≤ sizeLine
 ·rw [if_pos hz] at h1
  refine ⟨by rw [← r1.length]; exact hz,fun p hp => ?_⟩
  obtain ⟨a,b,c⟩:=fW bR r1 hp
  exact h1 _ _ _ a b c
 ·rw [if_neg hz] at h1; exact h1.elim
theorem CI {k:Nat} {fa:Addr} {fd:FuncData} {ps:List Str} {CX:yK} (F:kC X.prog X.w X.K X.mg X.base CX k fa fd ps (En ⟨X.K,X.mg,[]⟩ f)) (hr:cY k X.A) (hg:Gl X x) (hm:X.mg x = some (.ref fa)) (hk:PySem.W.keepIn X.K (.ref fa) = true)
  (hb:Binds X.K fd ps []) (hx:Passes CX X E) (ha:PA X (e :: es) (tL X E ms)) (jB:(x == ("__debug__":Str)) = false:=by decide)
  (he:starEach (e :: es) X.env = (false,eval e X.env) :: starEach es X.env:=by rfl) (iG:(backTo pos (starEach es X.env)).any (·.1) = false:=by rfl) :
  PE X (.Call (.Name x p) (e :: es) [] pos) (tE X E (ao f ms)):=by
 refine PE.imp (BX F hr hg hm hk hb .nil hx ha jB he iG) ?_
 rintro σ H Q ⟨μ,ρ,st,rs,sr,h⟩
 refine go (R1:=aN X.K) μ ρ st rs sr h fun us aX ρ1 H1 xs e1 bR r1 h1 => ?_
 rw [List.append_nil]
 exact ⟨us,ρ1,aX,r1,bR,wR.pn h1⟩
theorem dc {id:String} (hc:bZ X (.builtin id) (cM (wo X) E f)) (hg:Gl X x) (hm:X.mg x = none) (hv:bootBuiltins x = some (.builtin id)) (ha:PA X (e :: es) (tL X E ms)) (hn:x ≠ "__name__":=by decide) (jB:(x == ("__debug__":Str)) = false:=by decide)
  (he:starEach (e :: es) X.env = (false,eval e X.env) :: starEach es X.env:=by rfl) (iG:(backTo pos (starEach es X.env)).any (·.1) = false:=by rfl):PE X (.Call (.Name x p) (e :: es) [] pos) (tE X E (ao f ms)):=by
 refine PE.imp (nh hc hg hm hv ha hn jB he iG) ?_
 rintro σ H Q ⟨μ,ρ,st,rs,sr,h⟩
 exact go (R1:=aN X.K) μ ρ st rs sr h fun us aX ρ1 H1 xs e1 bR r1 h1 => ⟨ρ1,aX,us,bR,r1,h1⟩
theorem dQ {T:String} (hc:bZ X (.type T) (cM (wo X) E f)) (hg:Gl X x) (hm:X.mg x = none) (hv:bootBuiltins x = some (.type T)) (ha:PA X (e :: es) (tL X E ms)) (hn:x ≠ "__name__":=by decide) (jB:(x == ("__debug__":Str)) = false:=by decide)
  (he:starEach (e :: es) X.env = (false,eval e X.env) :: starEach es X.env:=by rfl) (iG:(backTo pos (starEach es X.env)).any (·.1) = false:=by rfl):PE X (.Call (.Name x p) (e :: es) [] pos) (tE X E (ao f ms)):=by
 refine PE.imp (wV hc hg hm hv ha hn jB he iG) ?_
 rintro σ H Q ⟨μ,ρ,st,rs,sr,h⟩
 exact go (R1:=aN X.K) μ ρ st rs sr h fun us aX ρ1 H1 xs e1 bR r1 h1 => ⟨ρ1,aX,us,bR,r1,h1⟩
end
section
variable {X:Cx} {E:XK} {pos:Pos} {a b:Expr} {ma mb:ME} {f:F2}
theorem Jv (hr:uq X (rM (wo X) E f)) (ha:PE X a (tE X E ma)) (hb:PE X b (tE X E mb)) (hs:qC b:=by exact fun _ _ => rfl):PE X (.Subscript a b pos) (tE X E (ah f ma mb)) :=
 PE.imp (IJ hr ha hb hs) fun _ _ _ h => jG h
end
noncomputable def wS (W:Wo) (E:XK) (ρ:List Addr) (H:Hp) (D:Ends):bU → Prop
 | .nx μ st => ∀ ρ' H' σ',Step ρ H ρ' H' → SR W.K ρ' st H' → RS W ρ' H' μ σ' → D.nx σ' H'
 | .rt v st => ∀ ρ' H' x,Step ρ H ρ' H' → SR W.K ρ' st H' → Rl W.K ρ' H' v x → D.rt x H'
 | .bk μ st => ∀ ρ' H' σ',Step ρ H ρ' H' → SR W.K ρ' st H' → RS W ρ' H' μ σ' → D.bk σ' H'
 | .ct μ st => ∀ ρ' H' σ',Step ρ H ρ' H' → SR W.K ρ' st H' → RS W ρ' H' μ σ' → D.ct σ' H'
 | .er c _ st => ∃ C,W.mg c = some (.ref C) ∧ ∀ ρ' H',Step ρ H ρ' H' → SR W.K ρ' st H' → E (.ref C) none H'
 | .bad => False
theorem wS.mono {W:Wo} {E:XK} {ρ ρ':List Addr} {H H':Hp} {D:Ends} {r:bU} (h:wS W E ρ H D r) (e:Step ρ H ρ' H'):wS W E ρ' H' D r:=by
 cases r with
 | nx μ st => exact fun ρ2 H2 σ2 e2 s r => h ρ2 H2 σ2 (e.trans e2) s r
 | rt v st => exact fun ρ2 H2 x e2 s r => h ρ2 H2 x (e.trans e2) s r
 | bk μ st => exact fun ρ2 H2 σ2 e2 s r => h ρ2 H2 σ2 (e.trans e2) s r
 | ct μ st => exact fun ρ2 H2 σ2 e2 s r => h ρ2 H2 σ2 (e.trans e2) s r
 | er c μ st => obtain ⟨C,h1,h2⟩:=h; exact ⟨C,h1,fun ρ2 H2 e2 s => h2 ρ2 H2 (e.trans e2) s⟩
 | bad => exact h
noncomputable def tS (X:Cx) (E:XK) (m:MB):TS:=fun D σ H => ∃ μ ρ st,RS (wo X) ρ H μ σ ∧ SR X.K ρ st H ∧ wS (wo X) E ρ H D (m μ st)
@[reducible] def Res.sb {α:Type} (r:Res α) (μ:Env) (k:α → ai → bU):bU:=match r with
 | .ok a st => k a st
 | .err c st => .er c μ st
 | .bad => .bad
theorem CJ {α β:Type} {W:Wo} {E:XK} {R1:List Addr → Hp → α → β → Prop} {m:Env → ai → Res α} {k:α → ai → bU} {σ:St} {H:Hp} {D:Ends} {Q':β → Hp → Prop}
  (μ:Env) (ρ:List Addr) (st:ai) (rs:RS W ρ H μ σ) (sr:SR W.K ρ st H) (h:wS W E ρ H D ((m μ st).sb μ k))
  (c:∀ u aX ρ1 H1 x,Step ρ H ρ1 H1 → SR W.K ρ1 aX H1 → R1 ρ1 H1 u x → wS W E ρ1 H1 D (k u aX) → Q' x H1):tG W E R1 m σ H Q':=by
 refine ⟨μ,ρ,st,rs,sr,?_⟩
 cases e:m μ st with
 | ok u aX =>
  rw [e] at h
  intro ρ1 H1 x e1 bR r1
  exact c u aX ρ1 H1 x e1 bR r1 (wS.mono h e1)
 | err c aX => rw [e] at h; exact h
 | bad => rw [e] at h; exact h
noncomputable def bx:MB:=fun μ st => .nx μ st
noncomputable def aK (a b:MB):MB:=fun μ st => match a μ st with
 | .nx μ' av => b μ' av
 | r => r
noncomputable def dr (m:ME):MB:=fun μ st => (m μ st).sb μ fun _ av => .nx μ av
noncomputable def bC (m:ME):MB:=fun μ st => (m μ st).sb μ fun v av => .rt v av
noncomputable def gr (t:MT) (a b:MB):MB:=fun μ st => (t μ st).sb μ fun k av => match k with
 | true => a μ av
 | false => b μ av
noncomputable def aL (i:Nat) (m:ME):MB:=fun μ st => (m μ st).sb μ fun v av => .nx (μ.set i (some v)) av
noncomputable def jg (c:Str) (m:MA):MB:=fun μ st => (m μ st).sb μ fun vs av => if vs.length ≤ sizeLine then .er c μ av else .bad
section
variable {X:Cx} {E:XK} {pos:Pos} {s1:Stmt} {rest:List Stmt} {e:Expr} {m:ME} {a b:MB}
theorem cE:i_ X [] (tS X E bx):=i_.imp BJ fun D σ H ⟨μ,ρ,st,rs,sr,h⟩ => h ρ H σ (Step.refl _ _) sr rs
theorem ax (h1:PS X s1 (tS X E a)) (h2:i_ X rest (tS X E b)):i_ X (s1 :: rest) (tS X E (aK a b)):=by
 refine i_.imp (yD h1 h2) ?_
 rintro D σ H ⟨μ,ρ,st,rs,sr,h⟩
 refine ⟨μ,ρ,st,rs,sr,?_⟩
 unfold aK at h
 cases e:a μ st with
 | nx μ' av =>
  rw [e] at h
  intro ρ1 H1 σ1 e1 bR HP
  exact ⟨μ',ρ1,av,HP,bR,wS.mono h e1⟩
 | rt v av => rw [e] at h; exact h
 | bk μ' av => rw [e] at h; exact h
 | ct μ' av => rw [e] at h; exact h
 | er c μ' av => rw [e] at h; exact h
 | bad => rw [e] at h; exact h
theorem aJ (h1:PS X s1 (tS X E a)):i_ X [s1] (tS X E a):=BK h1
theorem jI (he:PE X e (tE X E m)) (hs:swapsWith e none pos.line X.env = pure false:=by rfl):PS X (.Expr e pos) (tS X E (dr m)):=by
 refine PS.imp (BL he hs) ?_
 rintro D σ H ⟨μ,ρ,st,rs,sr,h⟩
 exact CJ μ ρ st rs sr h fun u aX ρ1 H1 x e1 bR r1 h1 => h1 ρ1 H1 σ (Step.refl _ _) bR (rs.mono e1)
theorem bh (he:PE X e (tE X E m)):PS X (.Return (some e) pos) (tS X E (bC m)):=by
 refine PS.imp (Fb he) ?_
 rintro D σ H ⟨μ,ρ,st,rs,sr,h⟩
 exact CJ μ ρ st rs sr h fun u aX ρ1 H1 x e1 bR r1 h1 => h1 ρ1 H1 x (Step.refl _ _) bR r1
theorem dR {c:Expr} {sa sb:List Stmt} {t:MT} (hc:PT X c (tT X E t)) (ha:i_ X sa (tS X E a)) (hb:i_ X sb (tS X E b)):PS X (.If c sa sb pos) (tS X E (gr t a b)):=by
 refine PS.imp (Im hc ha hb) ?_
 rintro D σ H ⟨μ,ρ,st,rs,sr,h⟩
 refine CJ (R1:=RB) μ ρ st rs sr h fun u aX ρ1 H1 x e1 bR r1 h1 => ?_
 cases r1
 cases u with
 | true => rw [if_pos rfl]; exact ⟨μ,ρ1,aX,rs.mono e1,bR,h1⟩
 | false => rw [if_neg Bool.false_ne_true]; exact ⟨μ,ρ1,aX,rs.mono e1,bR,h1⟩
theorem sL {i:Nat} {D:Ends} {σ:St} {H:Hp} (h:tS X E (aL i m) D σ H):Fd (tE X E m) (r_ i) D σ H:=by
 obtain ⟨μ,ρ,st,rs,sr,h⟩:=h
 exact CJ μ ρ st rs sr h fun u aX ρ1 H1 x e1 bR r1 h1 => h1 ρ1 H1 _ (Step.refl _ _) bR ((rs.mono e1).set i r1)
theorem Gi (i:Nat) {x:Str} {pos':Pos} (hN:X.N.Nodup) (he:PE X e (tE X E m)) (hi:X.N[i]? = some x:=by rfl) (hx:Loc X.env.scope x:=by first | exact Or.inl rfl | exact Or.inr rfl) (hs:swapsWith e (some (.Name x pos')) pos.line X.env = pure false:=by rfl)
  (hf:X.fn x = true ∨ X.env.scope.names.lookup x = some .local:=by first | exact .inl rfl | exact .inr rfl | assumption):PS X (.Assign [.Name x pos'] e pos) (tS X E (aL i m)) :=
 PS.imp (Fe hN hi hx he hs hf) fun _ _ _ h => sL h
theorem zz {x:Str} {C:Addr} {B newId uL:String} {bm:List Value} {np cu:Pos} {e₀:Expr} {es:List Expr} {ms:MA} (hX:Raises X E) (hc:X.calm = true) (hm:X.mg x = some (.ref C)) (hq:PySem.W.excIn X.K C bm newId = true) (FB:ExcBaseFacts B newId uL bm) (hg:Gl X x) (ha:PA X (e₀ :: es) (tL X E ms))
  (he:starEach (e₀ :: es) X.env = (false,eval e₀ X.env) :: starEach es X.env:=by rfl) (iG:(backTo cu (starEach es X.env)).any (·.1) = false:=by rfl) (hd:(x == ("__debug__":Str)) = false:=by decide) :
  PS X (.Raise (some (.Call (.Name x np) (e₀ :: es) [] cu)) none pos) (tS X E (jg x ms)):=by
 refine PS.imp (zg (E:=E) hX hc hm hq FB hg ha he iG hd) ?_
 rintro D σ H ⟨μ,ρ,st,rs,sr,h⟩
 refine CJ (R1:=aN X.K) μ ρ st rs sr h fun us aX ρ1 H1 xs e1 bR r1 h1 => ?_
 by_cases hz:us.length ≤ sizeLine
 ·rw [if_pos hz] at h1
  obtain ⟨C',q1,q2⟩:=h1
  have e:C' = C:=by
   have:=q1.symm.trans hm
   injection this with this
   injection this
  subst e
  exact ⟨by rw [← r1.length]; exact hz,q2 ρ1 H1 (Step.refl _ _) bR⟩
 ·rw [if_neg hz] at h1; exact h1.elim
end
noncomputable def iI (np n:Nat) (body:MB):FN:=fun us st => if us.length = np then (match body (us.map some ++ List.replicate (n - np) none) st with
 | .nx _ av => .ok .da av
 | .rt v av => .ok v av
 | .er c _ av => .err c av
 | _ => .bad) else .bad
theorem RS.start {W:Wo} {ρ:List Addr} {H:Hp} {N:List Str} {us:List Val} {vs:List V} (r:aN W.K ρ H us vs):RS W ρ H (us.map some ++ List.replicate (N.length - us.length) none) (L2.start N vs):=by
 have hl:=r.length
 refine ⟨by simp [L2.start,hl],fun i u e => ?_⟩
 rcases Nat.lt_or_ge i us.length with q | q
 ·rw [List.getElem?_append_left (by rw [List.length_map]; exact q),List.getElem?_map] at e
  have e':us[i]? = some u:=by
   cases z:us[i]? with
   | none => rw [z] at e; cases e
   | some w => rw [z] at e; exact congrArg _ (Option.some.inj (Option.some.inj e))
  obtain ⟨v,h1,h2⟩:=r.get e'
  refine ⟨v,?_,uu.of h2⟩
  unfold L2.start
  rw [List.getElem?_append_left (by rw [List.length_map,← hl]; exact q),List.getElem?_map,h1]
  rfl
 ·rw [List.getElem?_append_right (by rw [List.length_map]; exact q)] at e
  rw [List.getElem?_replicate] at e
  split at e
  ·cases e
  ·cases e
section
variable {P:Program} {w:World} {K:PySem.W.Frag} {mg:Str → Option Value} {base:Heap}
theorem zA {x qual:Str} {st:Stmt} {f:Addr} {fd:FuncData} {N ps:List Str} {k:Nat} {body:MB} (F:jw K x qual st f fd) (S:bc N ps (aq st))
  (h:∀ (dk:Value) (A:Around) (outer:List PySem.Env) (s:Shared) (H:Hp) (E:XK),cY k (A.deeper (envOfC qual (aq st) s.heap.objs.size f dk)) →
   i_ (f_ (jx P w) P w K mg base N qual (aq st) f dk A outer s H E) (aO st) (tS (f_ (jx P w) P w K mg base N qual (aq st) f dk A outer s H E) E body)) :
  kC P w K mg base (jx P w) (k + 1) f fd ps (En ⟨K,mg,[]⟩ (iI ps.length N.length body)):=by
 refine F.Tg S (fun vs H Q E q => ?_) (fun dk A outer s H vs Q E hr q => ⟨_,h dk A outer s H E hr,?_⟩)
 ·obtain ⟨us,ρ,st,r,sr,q⟩:=q
  by_cases hl:us.length = ps.length
  ·rw [← r.length]; exact hl
  ·unfold iI at q; rw [if_neg hl] at q; exact q.elim
 ·obtain ⟨us,ρ,av,r,sr,q⟩:=q
  unfold iI at q
  by_cases hl:us.length = ps.length
  ·rw [if_pos hl,← hl] at q
   refine ⟨_,ρ,av,RS.start r,sr,?_⟩
   revert q
   cases body (us.map some ++ List.replicate (N.length - us.length) none) av with
   | nx μ cg => exact fun q ρ' H' σ' e s _ => q ρ' H' .da e s Rl.vU
   | rt v cg => exact fun q => q
   | er c μ cg => exact fun q => q
   | bk μ cg => exact fun q => q.elim
   | ct μ cg => exact fun q => q.elim
   | bad => exact fun q => q.elim
  ·rw [if_neg hl] at q; exact q.elim
end
end MN
namespace MN
open PySem PySem.Spec L2
open PyProof.Rows hiding St
noncomputable def Sz (i:Int):Prop:=i.natAbs.log2 < 1000000
noncomputable instance (i:Int):Decidable (Sz i):=inferInstanceAs (Decidable (_ < _))
theorem Sz.big {i:Int} (h:Sz i):rW 1000001 i:=by
 show _ < _
 have h1:i.natAbs < 2 ^ (i.natAbs.log2 + 1):=Nat.lt_log2_self
 exact Nat.lt_of_lt_of_le h1 (Nat.pow_le_pow_right (by decide) (by have:i.natAbs.log2 < 1000000:=h; lia))
theorem Sz.mul {i j:Int} (h:Sz i) (k:Sz j):vQ i j:=⟨_,_,h.big,k.big,by decide,by decide⟩
noncomputable def Dz (i:Int):Prop:=i ≠ 0 ∧ i.natAbs.log2 < 8000
noncomputable instance (i:Int):Decidable (Dz i):=inferInstanceAs (Decidable (_ ∧ _))
theorem Dz.ok {i j:Int} (h:Dz j):vR i j:=by
 refine ⟨h.1,?_⟩
 show _ < _
 have h1:j.natAbs < 2 ^ (j.natAbs.log2 + 1):=Nat.lt_log2_self
 exact Nat.lt_of_lt_of_le h1 (Nat.pow_le_pow_right (by decide) (by have:=h.2; lia))
theorem Dz.of {k:Nat} {i:Int} (h0:i ≠ 0) (h:rW k i) (hk:k ≤ 8000):Dz i:=by
 refine ⟨h0,?_⟩
 have h':i.natAbs < 2 ^ k:=h
 exact Nat.lt_of_lt_of_le ((Nat.log2_lt (by lia)).mpr h') hk
noncomputable def MulOk (i j:Int):Prop:=(Sz i ∧ Sz j) ∨ yI i j
noncomputable instance (i j:Int):Decidable (yI i j):=inferInstanceAs (Decidable (_ ∨ _))
noncomputable instance (i j:Int):Decidable (MulOk i j):=inferInstanceAs (Decidable (_ ∨ _))
noncomputable instance (i j:Int):Decidable (yH i j):=inferInstanceAs (Decidable (_ ∧ _ ∧ _))
noncomputable def zB (k:Nat) (us:List Val):List Val:=(List.replicate k us).flatten
noncomputable def bS:F2
 | .int i,.int j,st => .ok (.int (i + j)) st
 | .str a,.str b,st => if a.length + b.length ≤ sizeLine then .ok (.str (a ++ b)) st else .bad
 | .tup us,.tup ws,st => if us.length + ws.length ≤ sizeLine then .ok (.tup (us ++ ws)) st else .bad
 | .loc n,.loc m,st => match st[n]?,st[m]? with
  | some (.lst us),some (.lst ws) => if us.length + ws.length ≤ sizeLine then .ok (.loc st.length) (st ++ [.lst (us ++ ws)]) else .bad
  | _,_ => .bad
 | _,_,_ => .bad
noncomputable def sM (g:Int → Int → ai → Res Val):F2
 | .int i,.int j,st => g i j st
 | _,_,_ => .bad
theorem CK (g:Int → Int → ai → Res Val) (u w:Val) (st:ai):(∃ i j,u = .int i ∧ w = .int j) ∨ sM g u w st = .bad:=by
 cases u with
 | int i =>
  cases w with
  | int j => exact .inl ⟨i,j,rfl,rfl⟩
  | _ => exact .inr rfl
 | _ => exact .inr rfl
theorem iJ {g:Int → Int → ai → Res Val} {W:Wo} {E:XK} {ρ:List Addr} {st:ai} {H:Hp} {Q:VK} {u w:Val} (h:wR W E (Rl W.K) ρ H Q (sM g u w st)):∃ i j,u = .int i ∧ w = .int j ∧ wR W E (Rl W.K) ρ H Q (g i j st):=by
 rcases CK g u w st with ⟨i,j,rfl,rfl⟩ | z
 ·exact ⟨i,j,rfl,rfl,h⟩
 ·rw [z] at h; exact h.elim
noncomputable def sN:F2:=sM fun i j st => .ok (.int (i - j)) st
noncomputable def cO:F2
 | .int i,.int j,st => if MulOk i j then .ok (.int (i * j)) st else .bad
 | .loc n,.int k,st => match st[n]? with
  | some (.lst us) => if -(2 ^ 63) ≤ k ∧ k < 2 ^ 63 ∧ us.length * k.toNat ≤ sizeLine then .ok (.loc st.length) (st ++ [.lst (zB k.toNat us)]) else .bad
  | _ => .bad
 | _,_,_ => .bad
noncomputable def bp:F2:=sM fun i j st => if Dz j then .ok (.int (i.fdiv j)) st else .bad
noncomputable def bG:F2:=sM fun i j st => if j = 0 then .bad else .ok (.int (i.fmod j)) st
noncomputable def Gj:F2:=sM fun i j st => if yH i j then .ok (.int (i ^ j.toNat)) st else .bad
noncomputable def ltV:F2:=sM fun i j st => .ok (.bl (decide (i < j))) st
noncomputable def Li:F2:=sM fun i j st => .ok (.bl (decide (i ≤ j))) st
section
variable {X:Cx} {E:XK}
theorem dA {W:Wo} {ρ:List Addr} {st:ai} {H:Hp} {Q:VK} {i:Int} (sr:SR W.K ρ st H) (h:wR W E (Rl W.K) ρ H Q (.ok (.int i) st)):Q (.int i) H:=h ρ H _ (Step.refl _ _) sr (Rl.mkInt i)
theorem fL {W:Wo} {ρ:List Addr} {st:ai} {H:Hp} {Q:VK} {i:Bool} (sr:SR W.K ρ st H) (h:wR W E (Rl W.K) ρ H Q (.ok (.bl i) st)):Q (.bl i) H:=h ρ H _ (Step.refl _ _) sr (Rl.CG i)
theorem aN.Jw {K:PySem.W.Frag} {ρ:List Addr} {H:Hp} {us:List Val} {xs:List V} (r:aN K ρ H us xs):∀ k:Nat,aN K ρ H (zB k us) (List.replicate k xs).flatten
 | 0 => aN.nil
 | k + 1 => by
  unfold zB
  rw [List.replicate_succ,List.replicate_succ,List.flatten_cons,List.flatten_cons]
  exact r.append (aN.Jw r k)
theorem zC:dz X (binaryOp .Add) (fun x y H Q => ∃ a b ys,x = .ref a ∧ y = .ref b ∧ gp X.K H a [] ∧ gp X.K H b ys ∧ Q (.ref b) H):=by
 intro pins s σ H x y v u Q I rx ry h
 obtain ⟨a,b,ys,rfl,rfl,ha,hb,q⟩:=h
 cases rx
 cases ry
 obtain ⟨aE,r1,p1,_⟩:=I.tuple ha
 obtain ⟨cU,r2,p2,_⟩:=I.tuple hb
 cases r1
 obtain ⟨⟨cls,dd,data,sl⟩,ho,hc,n,hd⟩:=id p1
 obtain ⟨⟨Mp,K2,data2,FA⟩,rV,pJ,n2,hd2⟩:=id p2
 simp only at hc hd pJ hd2
 subst hc hd pJ hd2
 exact concat_meets ⟨_,ho,rfl⟩ ⟨_,rV,rfl⟩ noFill_tuple_add seq_tuple_add PySem.F.slot_tuple_add PySem.F.entry_tuple_add (PySem.F.args_tuple_add_2 _ _)
  (tuple_addW0 a b #[] cU.toArray n n2 dd K2 sl FA (by simp)) ⟨ho,rV,⟨.ref b,H,I,rfl,q⟩⟩
theorem cn:dz X (binaryOp .Add) (rM (wo X) E bS):=by
 refine dz.imp (dz.or Fm (dz.or uD (dz.or FK (dz.or B6 zC)))) ?_
 rintro x y H Q ⟨ρ,st,u,w,sr,r1,r2,h⟩
 cases u <;> cases w <;> try exact h.elim
 case int.int i j => exact .inl ⟨i,j,r1.cA,r2.cA,dA sr h⟩
 case str.str a b =>
  unfold bS at h
  dsimp only at h
  split at h
  ·rename_i hz
   exact .inr (.inl ⟨a,b,r1.ij,r2.ij,hz,h ρ H _ (Step.refl _ _) sr (Rl.mkStr _)⟩)
  ·exact h.elim
 case tup.tup us ws =>
  unfold bS at h
  dsimp only at h
  split at h
  ·rename_i hz
   obtain ⟨a,xs,rfl,ha,ra⟩:=r1.d3
   obtain ⟨b,ys,rfl,hb,rb⟩:=r2.d3
   by_cases hx:xs = []
   ·subst hx
    have hu:us = []:=List.eq_nil_of_length_eq_zero ra.length
    subst hu
    exact .inr (.inr (.inr (.inr ⟨a,b,ys,rfl,rfl,ha,hb,h ρ H _ (Step.refl _ _) sr r2⟩)))
   ·refine .inr (.inr (.inr (.inl ⟨a,b,xs,ys,rfl,rfl,ha,hb,hx,by rw [← ra.length,← rb.length]; exact hz,fun hy => ?_,fun hy p hp => ?_⟩)))
    ·subst hy
     have hw:ws = []:=List.eq_nil_of_length_eq_zero rb.length
     subst hw
     rw [List.append_nil] at h
     exact h ρ H _ (Step.refl _ _) sr r1
    ·have s:=cD (o:=.tup (xs ++ ys)) hp
     exact h ρ _ _ (Step.same s) (sr.grow s) (Rl.lS aZ (aN.mono (Step.same s) _ _ (ra.append rb)))
  ·exact h.elim
 case loc.loc n m =>
  unfold bS at h
  dsimp only at h
  split at h
  ·rename_i us ws e1 e2
   split at h
   ·rename_i hz
    obtain ⟨a,rfl,ha⟩:=r1.dF
    obtain ⟨b,rfl,hb⟩:=r2.dF
    obtain ⟨xs,h1,q1⟩:=sr.cell n _ a e1 ha
    obtain ⟨ys,h2,q2⟩:=sr.cell m _ b e2 hb
    refine .inr (.inr (.inl ⟨a,b,xs,ys,rfl,rfl,h1,h2,by rw [← q1.length,← q2.length]; exact hz,fun p hp => ?_⟩))
    obtain ⟨k1,k2,k3⟩:=fW sr (q1.append q2) hp
    exact h _ _ _ k1 k2 k3
   ·exact h.elim
  ·exact h.elim
theorem mV:dz X (binaryOp .Sub) (rM (wo X) E sN):=by
 refine dz.imp Fn ?_
 rintro x y H Q ⟨ρ,st,u,w,sr,r1,r2,h⟩
 obtain ⟨i,j,rfl,rfl,q⟩:=iJ h
 exact ⟨i,j,r1.cA,r2.cA,dA sr q⟩
theorem cZ:dz X (binaryOp .Mult) (rM (wo X) E cO):=by
 refine dz.imp (dz.or Cg (dz.or Fo FL)) ?_
 rintro x y H Q ⟨ρ,st,u,w,sr,r1,r2,h⟩
 cases u <;> cases w <;> try exact h.elim
 case int.int i j =>
  unfold cO at h
  dsimp only at h
  split at h
  ·rename_i hz
   rcases hz with hz | hz
   ·exact .inl ⟨i,j,r1.cA,r2.cA,hz.1.mul hz.2,dA sr h⟩
   ·exact .inr (.inl ⟨i,j,r1.cA,r2.cA,hz,dA sr h⟩)
  ·exact h.elim
 case loc.int n k =>
  unfold cO at h
  dsimp only at h
  split at h
  ·rename_i us e1
   split at h
   ·rename_i hz
    obtain ⟨a,rfl,ha⟩:=r1.dF
    obtain ⟨xs,h1,q1⟩:=sr.cell n _ a e1 ha
    refine .inr (.inr ⟨a,k,xs,rfl,r2.cA,h1,hz.1,hz.2.1,by rw [← q1.length]; exact hz.2.2,fun p hp => ?_⟩)
    obtain ⟨k1,k2,k3⟩:=fW sr (q1.Jw k.toNat) hp
    exact h _ _ _ k1 k2 k3
   ·exact h.elim
  ·exact h.elim
theorem b_:dz X (binaryOp .FloorDiv) (rM (wo X) E bp):=by
 refine dz.imp yW ?_
 rintro x y H Q ⟨ρ,st,u,w,sr,r1,r2,h⟩
 obtain ⟨i,j,rfl,rfl,h0⟩:=iJ h
 clear h
 have h:=h0
 clear h0
 ·split at h
  ·rename_i hz
   exact ⟨i,j,r1.cA,r2.cA,hz.ok,dA sr h⟩
  ·exact h.elim
theorem bF:dz X (binaryOp .Mod) (rM (wo X) E bG):=by
 refine dz.imp BP ?_
 rintro x y H Q ⟨ρ,st,u,w,sr,r1,r2,h⟩
 obtain ⟨i,j,rfl,rfl,h0⟩:=iJ h
 clear h
 have h:=h0
 clear h0
 ·split at h
  ·exact h.elim
  ·rename_i hz
   exact ⟨i,j,r1.cA,r2.cA,hz,dA sr h⟩
theorem CL:dz X (binaryOp .Pow) (rM (wo X) E Gj):=by
 refine dz.imp Fp ?_
 rintro x y H Q ⟨ρ,st,u,w,sr,r1,r2,h⟩
 obtain ⟨i,j,rfl,rfl,h0⟩:=iJ h
 clear h
 have h:=h0
 clear h0
 ·split at h
  ·rename_i hz
   exact ⟨i,j,r1.cA,r2.cA,hz,dA sr h⟩
  ·exact h.elim
theorem Gk:dz X (compareOp .Lt) (rM (wo X) E ltV):=by
 refine dz.imp IA ?_
 rintro x y H Q ⟨ρ,st,u,w,sr,r1,r2,h⟩
 obtain ⟨i,j,rfl,rfl,q⟩:=iJ h
 exact ⟨i,j,r1.cA,r2.cA,fL sr q⟩
theorem Gm:dz X (compareOp .LtE) (rM (wo X) E Li):=by
 refine dz.imp IB ?_
 rintro x y H Q ⟨ρ,st,u,w,sr,r1,r2,h⟩
 obtain ⟨i,j,rfl,rfl,q⟩:=iJ h
 exact ⟨i,j,r1.cA,r2.cA,fL sr q⟩
end
noncomputable def flat:Val → Bool
 | .da => true
 | .bl _ => true
 | .int _ => true
 | .str _ => true
 | _ => false
noncomputable def Gn:Val → Val → Bool
 | .da,.da => true
 | .bl a,.bl b => a == b
 | .bl a,.int b => (if a then 1 else 0) == b
 | .int a,.bl b => a == (if b then 1 else 0)
 | .int a,.int b => a == b
 | .str a,.str b => a == b
 | _,_ => false
noncomputable def itemsOf (st:ai) (n:Nat):Option (List Val):=match st[n]? with
 | some (.lst us) => some us
 | some (.El us) => some us
 | some (.mod us) => some us
 | _ => none
inductive Vw where
 | lst (us:List Val) | tup (us:List Val) | kj
noncomputable def vw (st:ai):Val → Option Vw
 | .tup us => some (.tup us)
 | .loc n => (itemsOf st n).map .lst
 | .da => some .kj
 | .bl _ => some .kj
 | .int _ => some .kj
 | .str _ => some .kj
 | _ => none
noncomputable def gu (f:Val → Val → Option Bool):List Val → List Val → Option Bool
 | [],[] => some true
 | x :: xs,y :: ys => match f x y,gu f xs ys with
  | some a,some b => some (a && b)
  | _,_ => none
 | [],_ :: _ => some false
 | _ :: _,[] => some false
noncomputable def fR:Nat → ai → Val → Val → Option Bool
 | 0,_,_,_ => none
 | n + 1,st,u,w => match vw st u,vw st w with
  | some (.tup us),some (.tup ws) => gu (fR n st) us ws
  | some (.lst us),some (.lst ws) => gu (fR n st) us ws
  | some .kj,some .kj => some (Gn u w)
  | some _,some _ => some false
  | _,_ => none
theorem nD {f:Val → Val → Option Bool}:∀ {us ws:List Val} {b:Bool},gu f us ws = some b → us.length ≠ ws.length → b = false
 | [],[],_,_,h => absurd rfl h
 | [],_ :: _,b,e,_ => by injection e with e; exact e.symm
 | _ :: _,[],b,e,_ => by injection e with e; exact e.symm
 | x :: xs,y :: ys,b,e,h => by
  unfold gu at e
  split at e
  ·rename_i a c h1 h2
   injection e with e
   rw [← e,nD h2 (fun z => h (by simp [z])),Bool.and_false]
  ·cases e
theorem vW {f:Val → Val → Option Bool}:∀ {us ws:List Val} {b:Bool},gu f us ws = some b → ∀ (j:Nat) (u w:Val),us[j]? = some u → ws[j]? = some w → ∃ c,f u w = some c
 | [],_,_,_,j,u,w,h1,_ => by cases h1
 | _ :: _,[],_,_,j,u,w,_,h2 => by cases h2
 | x :: xs,y :: ys,b,e,j,u,w,h1,h2 => by
  unfold gu at e
  split at e
  ·rename_i a c q1 q2
   cases j with
   | zero => cases h1; cases h2; exact ⟨a,q1⟩
   | succ j => exact vW q2 j u w h1 h2
  ·cases e
noncomputable def Lj (f:Val → Val → Option Bool) (us ws:List Val) (j:Nat):Bool:=match us[j]?,ws[j]? with
 | some u,some w => (f u w).getD true
 | _,_ => true
theorem nE {f:Val → Val → Option Bool}:∀ {us ws:List Val} {b:Bool},gu f us ws = some b → us.length = ws.length → (List.range us.length).all (Lj f us ws) = b
 | [],[],b,e,_ => by injection e
 | [],_ :: _,_,_,h => by simp at h
 | _ :: _,[],_,_,h => by simp at h
 | x :: xs,y :: ys,b,e,h => by
  have h':xs.length = ys.length:=by simpa using h
  unfold gu at e
  split at e
  ·rename_i a c q1 q2
   injection e with e
   rw [List.length_cons,List.range_succ_eq_map,List.all_cons,List.all_map,← e,← nE q2 h']
   congr 1
   show (f x y).getD true = a
   rw [q1]; rfl
  ·cases e
section
variable {X:Cx} {pins:List (Addr × Obj)} {σ:St} {H:Hp} {s:Shared} {ρ:List Addr} {st:ai}
theorem aR (sr:SR X.K ρ st H) {n:Nat} {us:List Val} {a:Addr} (h:itemsOf st n = some us) (ha:ρ[n]? = some a):∃ vs,jb X.K H a vs ∧ aN X.K ρ H us vs:=by
 unfold itemsOf at h
 split at h
 ·rename_i ws e
  cases h
  obtain ⟨vs,h1,h2⟩:=sr.cell n _ a e ha
  exact ⟨vs,jb.of h1,h2⟩
 ·rename_i ws e
  cases h
  obtain ⟨o,vs,h1,h2⟩:=sr.cell n _ a e ha
  exact ⟨vs,.inl (.inr ⟨o,h1⟩),h2⟩
 ·rename_i ws e
  cases h
  obtain ⟨vs,h1,h2⟩:=sr.cell n _ a e ha
  exact ⟨vs,.inr h1,h2⟩
 ·cases h
theorem vX (I:Inv X pins σ H s) (sr:SR X.K ρ st H):∀ (n:Nat) (u w:Val) (x:V) (b:Bool),Rl X.K ρ H u x → Rl X.K ρ H w x → fR n st u w = some b → b = true
 | 0,_,_,_,_,_,_,e => by cases e
 | n + 1,u,w,x,b,r1,r2,e => by
  have lst:∀ (us ws:List Val) (vs:List V) (b:Bool),aN X.K ρ H us vs → aN X.K ρ H ws vs → gu (fR n st) us ws = some b → b = true:=by
   intro us
   induction us with
   | nil =>
    intro ws vs b h1 h2 e
    have:=h1.dO
    subst this
    have hw:ws = []:=List.eq_nil_of_length_eq_zero h2.length
    subst hw
    injection e with e; exact e.symm
   | cons u us ih =>
    intro ws vs b h1 h2 e
    obtain ⟨v,r,rfl,q1,q2⟩:=h1.bM
    cases ws with
    | nil => have:=h2.dO; cases this
    | cons w ws =>
     obtain ⟨v',r',e',q3,q4⟩:=h2.bM
     cases e'
     unfold gu at e
     split at e
     ·rename_i a c z1 z2
      injection e with e
      rw [← e,vX I sr n u w v a q1 q3 z1,ih ws r c q2 q4 z2]; rfl
     ·cases e
  unfold fR at e
  cases u <;> cases w <;> dsimp only [vw] at e <;> try (cases e; done)
  all_goals first
   | (have z1:=Rl.cA r1; subst z1; have z2:=Rl.cA r2; cases z2; injection e with e; rw [← e]; exact beq_self_eq_true _)
   | (have z1:=Rl.sG r1; subst z1; have z2:=Rl.sG r2; cases z2; injection e with e; rw [← e]; exact beq_self_eq_true _)
   | (have z1:=Rl.ij r1; subst z1; have z2:=Rl.ij r2; cases z2; injection e with e; rw [← e]; exact beq_self_eq_true _)
   | (have z1:=Rl.nC r1; subst z1; injection e with e; exact e.symm)
   | skip
  case tup.tup us ws =>
   obtain ⟨a,vs,rfl,ha,ra⟩:=r1.d3
   obtain ⟨a',uO,ea,hb,rb⟩:=r2.d3
   cases ea
   have:=I.kB ha hb
   subst this
   exact lst us ws vs b ra rb e
  case loc.loc i j =>
   obtain ⟨a,rfl,ha⟩:=r1.dF
   obtain ⟨a',ea,hb⟩:=r2.dF
   cases ea
   cases z:itemsOf st i with
   | none => rw [z] at e; cases e
   | some us =>
    cases z2:itemsOf st j with
    | none => rw [z,z2] at e; cases e
    | some ws =>
     rw [z,z2] at e
     obtain ⟨vs,s1,rv⟩:=aR sr z ha
     obtain ⟨uO,s2,Na⟩:=aR sr z2 hb
     have:=I.m7 s1 s2
     subst this
     exact lst us ws vs b rv Na e
  all_goals (exfalso; first
   | (have z1:=Rl.cA r1; subst z1; first | (have z2:=Rl.sG r2; cases z2; done) | (have z2:=Rl.ij r2; cases z2; done) | (have z2:=Rl.nC r2; cases z2; done) | (obtain ⟨_,_,z2,_⟩:=r2.d3; cases z2; done) | (obtain ⟨_,z2,_⟩:=r2.dF; cases z2; done))
   | (have z1:=Rl.sG r1; subst z1; first | (have z2:=Rl.cA r2; cases z2; done) | (have z2:=Rl.ij r2; cases z2; done) | (have z2:=Rl.nC r2; cases z2; done) | (obtain ⟨_,_,z2,_⟩:=r2.d3; cases z2; done) | (obtain ⟨_,z2,_⟩:=r2.dF; cases z2; done))
   | (have z1:=Rl.ij r1; subst z1; first | (have z2:=Rl.cA r2; cases z2; done) | (have z2:=Rl.sG r2; cases z2; done) | (have z2:=Rl.nC r2; cases z2; done) | (obtain ⟨_,_,z2,_⟩:=r2.d3; cases z2; done) | (obtain ⟨_,z2,_⟩:=r2.dF; cases z2; done))
   | (have z1:=Rl.nC r1; subst z1; first | (have z2:=Rl.cA r2; cases z2; done) | (have z2:=Rl.sG r2; cases z2; done) | (have z2:=Rl.ij r2; cases z2; done) | (obtain ⟨_,_,z2,_⟩:=r2.d3; cases z2; done) | (obtain ⟨_,z2,_⟩:=r2.dF; cases z2; done))
   | (obtain ⟨_,_,z1,_⟩:=r1.d3; subst z1; first | (have z2:=Rl.cA r2; cases z2; done) | (have z2:=Rl.sG r2; cases z2; done) | (have z2:=Rl.ij r2; cases z2; done) | (have z2:=Rl.nC r2; cases z2; done))
   | (obtain ⟨_,z1,_⟩:=r1.dF; subst z1; first | (have z2:=Rl.cA r2; cases z2; done) | (have z2:=Rl.sG r2; cases z2; done) | (have z2:=Rl.ij r2; cases z2; done) | (have z2:=Rl.nC r2; cases z2; done))
   | skip)
  case tup.loc us j =>
   obtain ⟨a,vs,rfl,ha,ra⟩:=r1.d3
   obtain ⟨a',ea,hb⟩:=r2.dF
   cases ea
   cases z:itemsOf st j with
   | none => rw [z] at e; cases e
   | some zD =>
    obtain ⟨ws,hw,_⟩:=aR sr z hb
    obtain ⟨_,_,p1,_⟩:=I.tuple ha
    obtain ⟨_,_,p2,_⟩:=I.list hw
    exact SeqAt.ne_of_list_tuple p2.isList p1 rfl
  case loc.tup i us =>
   obtain ⟨a,rfl,ha⟩:=r1.dF
   obtain ⟨a',vs,ea,hb,rb⟩:=r2.d3
   cases ea
   cases z:itemsOf st i with
   | none => rw [z] at e; cases e
   | some zD =>
    obtain ⟨ws,hw,_⟩:=aR sr z ha
    obtain ⟨_,_,p1,_⟩:=I.tuple hb
    obtain ⟨_,_,p2,_⟩:=I.list hw
    exact SeqAt.ne_of_list_tuple p2.isList p1 rfl
  all_goals (cases z:itemsOf st _ <;> rw [z] at e <;> cases e)
noncomputable def zE (X:Cx) (ρ:List Addr) (H:Hp) (s:Shared):Vw → Val → Value → Prop
 | .tup us,_,v => ∃ a aE vs,v = .ref a ∧ s.heap.IsTuple a (List.toArray aE) ∧ Vals vs aE ∧ aN X.K ρ H us vs
 | .lst us,_,v => ∃ a aE vs,v = .ref a ∧ s.heap.IsList a (List.toArray aE) ∧ Vals vs aE ∧ aN X.K ρ H us vs
 | .kj,u,v => (u = .da ∧ v = .none) ∨ (∃ b,u = .bl b ∧ v = .bool b) ∨ (∃ i t,u = .int i ∧ v = .int i t) ∨ (∃ z t,u = .str z ∧ v = .str z t)
theorem seen (I:Inv X pins σ H s) (sr:SR X.K ρ st H) {u:Val} {x:V} {v:Value} {k:Vw} (r:Rl X.K ρ H u x) (q:RelV x v) (h:vw st u = some k):zE X ρ H s k u v:=by
 cases u with
 | da => cases h; have:=r.nC; subst this; exact .inl ⟨rfl,q⟩
 | bl b => cases h; have:=r.sG; subst this; exact .inr (.inl ⟨b,rfl,q⟩)
 | int i => cases h; have:=r.cA; subst this; obtain ⟨t,q⟩:=q; exact .inr (.inr (.inl ⟨i,t,rfl,q⟩))
 | str z => cases h; have:=r.ij; subst this; obtain ⟨t,q⟩:=q; exact .inr (.inr (.inr ⟨z,t,rfl,q⟩))
 | tup us =>
  cases h
  obtain ⟨a,vs,rfl,ha,ra⟩:=r.d3
  obtain ⟨aE,r1,p1,_⟩:=I.tuple ha
  exact ⟨a,aE,vs,q,p1,r1,ra⟩
 | loc n =>
  obtain ⟨a,rfl,ha⟩:=r.dF
  cases z:itemsOf st n with
  | none => simp only [vw,z] at h; cases h
  | some us =>
   simp only [vw,z] at h
   cases h
   obtain ⟨vs,hs,rv⟩:=aR sr z ha
   obtain ⟨aE,r1,p1,_⟩:=I.list hs
   exact ⟨a,aE,vs,q,p1.isList,r1,rv⟩
 | exc c => cases h
 | fn k c => cases h
 | mt us => cases h
theorem zF {A:Around} {f:Val → Val → Option Bool} {us ws:List Val} {xs ys:List V} {aE cU:List Value} {b:Bool} (e:gu f us ws = some b) (ra:aN X.K ρ H us xs) (rb:aN X.K ρ H ws ys) (va:Vals xs aE) (vb:Vals ys cU)
  (ih:∀ u w x y vu vw c,Rl X.K ρ H u x → RelV x vu → Rl X.K ρ H w y → RelV y vw → f u w = some c → SeqAt.EqAt A s vu vw c) :
  ∀ j (h1:j < aE.toArray.size) (h2:j < cU.toArray.size),SeqAt.EqAt A s aE.toArray[j] cU.toArray[j] (Lj f us ws j):=by
 intro j h1 h2
 have l1:=va.length
 have l2:=vb.length
 have l3:=ra.length
 have l4:=rb.length
 simp only [List.size_toArray] at h1 h2
 have e1:us[j]? = some us[j]:=List.getElem?_eq_getElem (by lia)
 have e2:ws[j]? = some ws[j]:=List.getElem?_eq_getElem (by lia)
 obtain ⟨x,hx,rx⟩:=ra.get e1
 obtain ⟨y,hy,ry⟩:=rb.get e2
 obtain ⟨u,hu,ru⟩:=va.get hx
 obtain ⟨v,hv,rv⟩:=vb.get hy
 have q1:aE.toArray[j] = u:=by
  obtain ⟨_,e⟩:=List.getElem?_eq_some_iff.mp hu
  simpa using e
 have q2:cU.toArray[j] = v:=by
  obtain ⟨_,e⟩:=List.getElem?_eq_some_iff.mp hv
  simpa using e
 obtain ⟨c,hc⟩:=vW e j _ _ e1 e2
 rw [q1,q2]
 unfold Lj
 rw [e1,e2]
 dsimp only
 rw [hc]
 exact ih _ _ _ _ _ _ c rx ru ry rv hc
theorem in1_units (A:Around):A.in1.units = A.units + 1:=by rfl
theorem Gp {A:Around} (I:Inv X pins σ H s) (sr:SR X.K ρ st H) (n:Nat) (ih:∀ u w x y vu vw c,Rl X.K ρ H u x → RelV x vu → Rl X.K ρ H w y → RelV y vw → fR n st u w = some c → SeqAt.EqAt A.in1 s vu vw c) (hu:A.units < cLine)
  {u w:Val} {x y:V} {v1 v2:Value} {b:Bool} (r1:Rl X.K ρ H u x) (q1:RelV x v1) (r2:Rl X.K ρ H w y) (q2:RelV y v2) (e:fR (n + 1) st u w = some b):SeqAt.RcAt A s v1 v2 b ∧ SeqAt.RcNeAt A s v1 v2 (!b):=by
 unfold fR at e
 cases z1:vw st u with
 | none => rw [z1] at e; cases e
 | some k1 =>
  cases z2:vw st w with
  | none => rw [z1,z2] at e; cases k1 <;> cases e
  | some k2 =>
   rw [z1,z2] at e
   have s1:=seen I sr r1 q1 z1
   have s2:=seen I sr r2 q2 z2
   cases k1 with
   | tup us =>
    obtain ⟨a,aE,xs,rfl,p1,va,ra⟩:=s1
    cases k2 with
    | tup ws =>
     obtain ⟨a2,cU,ys,rfl,p2,vb,rb⟩:=s2
     have el:=zF e ra rb va vb ih
     have l1:=va.length
     have l2:=vb.length
     have l3:=ra.length
     have l4:=rb.length
     have hb:((List.range (min aE.toArray.size cU.toArray.size)).all (Lj (fR n st) us ws) && aE.toArray.size == cU.toArray.size) = b:=by
      by_cases hl:us.length = ws.length
      ·rw [show min aE.toArray.size cU.toArray.size = us.length by simp only [List.size_toArray]; lia,nE e hl,show (aE.toArray.size == cU.toArray.size) = true by simp only [List.size_toArray,beq_iff_eq]; lia,Bool.and_true]
      ·rw [show (aE.toArray.size == cU.toArray.size) = false by simp only [List.size_toArray,beq_eq_false_iff_ne]; lia,Bool.and_false]
       exact (nD e hl).symm
     have g1:=SeqAt.RcAt.tuples p1 p2 hu el
     have g2:=SeqAt.RcNeAt.tuples p1 p2 hu el
     rw [hb] at g1 g2
     exact ⟨g1,g2⟩
    | lst ws =>
     obtain ⟨a2,cU,ys,rfl,p2,vb,rb⟩:=s2
     cases e
     exact ⟨SeqAt.RcAt.tuple_list p1 p2 hu,SeqAt.RcNeAt.tuple_list p1 p2 hu⟩
    | kj =>
     cases e
     rcases s2 with ⟨_,rfl⟩ | ⟨k,_,rfl⟩ | ⟨k,t,_,rfl⟩ | ⟨k,t,_,rfl⟩
     ·exact ⟨SeqAt.RcAt.tuple_none p1 hu,SeqAt.RcNeAt.tuple_none p1 hu⟩
     ·exact ⟨SeqAt.RcAt.tuple_bool _ p1 hu,SeqAt.RcNeAt.tuple_bool _ p1 hu⟩
     ·exact ⟨SeqAt.RcAt.tuple_int _ _ p1 hu,SeqAt.RcNeAt.tuple_int _ _ p1 hu⟩
     ·exact ⟨SeqAt.RcAt.tuple_str _ _ p1 hu,SeqAt.RcNeAt.tuple_str _ _ p1 hu⟩
   | lst us =>
    obtain ⟨a,aE,xs,rfl,p1,va,ra⟩:=s1
    cases k2 with
    | tup ws =>
     obtain ⟨a2,cU,ys,rfl,p2,vb,rb⟩:=s2
     cases e
     exact ⟨SeqAt.RcAt.list_tuple p1 p2 hu,SeqAt.RcNeAt.list_tuple p1 p2 hu⟩
    | lst ws =>
     obtain ⟨a2,cU,ys,rfl,p2,vb,rb⟩:=s2
     have l1:=va.length
     have l2:=vb.length
     have l3:=ra.length
     have l4:=rb.length
     by_cases hl:us.length = ws.length
     ·have hs:aE.toArray.size = cU.toArray.size:=by simp only [List.size_toArray]; lia
      have el:=zF e ra rb va vb ih
      have g1:=SeqAt.RcAt.lists p1 p2 hs hu el
      have g2:=SeqAt.RcNeAt.lists p1 p2 hs hu el
      rw [show aE.toArray.size = us.length by simp only [List.size_toArray]; lia,nE e hl] at g1 g2
      exact ⟨g1,g2⟩
     ·have hs:(aE.toArray.size != cU.toArray.size) = true:=by simp only [List.size_toArray,bne_iff_ne]; lia
      rw [nD e hl]
      exact ⟨SeqAt.RcAt.lists_lengths p1 p2 hs hu,SeqAt.RcNeAt.lists_lengths p1 p2 hs hu⟩
    | kj =>
     cases e
     rcases s2 with ⟨_,rfl⟩ | ⟨k,_,rfl⟩ | ⟨k,t,_,rfl⟩ | ⟨k,t,_,rfl⟩
     ·exact ⟨SeqAt.RcAt.list_none p1 hu,SeqAt.RcNeAt.list_none p1 hu⟩
     ·exact ⟨SeqAt.RcAt.list_bool _ p1 hu,SeqAt.RcNeAt.list_bool _ p1 hu⟩
     ·exact ⟨SeqAt.RcAt.list_int _ _ p1 hu,SeqAt.RcNeAt.list_int _ _ p1 hu⟩
     ·exact ⟨SeqAt.RcAt.list_str _ _ p1 hu,SeqAt.RcNeAt.list_str _ _ p1 hu⟩
   | kj =>
    cases k2 with
    | tup ws =>
     obtain ⟨a2,cU,ys,rfl,p2,vb,rb⟩:=s2
     cases e
     rcases s1 with ⟨_,rfl⟩ | ⟨k,_,rfl⟩ | ⟨k,t,_,rfl⟩ | ⟨k,t,_,rfl⟩
     ·exact ⟨SeqAt.RcAt.none_tuple p2 hu,SeqAt.RcNeAt.none_tuple p2 hu⟩
     ·exact ⟨SeqAt.RcAt.bool_tuple _ p2 hu,SeqAt.RcNeAt.bool_tuple _ p2 hu⟩
     ·exact ⟨SeqAt.RcAt.int_tuple _ _ p2 hu,SeqAt.RcNeAt.int_tuple _ _ p2 hu⟩
     ·exact ⟨SeqAt.RcAt.str_tuple _ _ p2 hu,SeqAt.RcNeAt.str_tuple _ _ p2 hu⟩
    | lst ws =>
     obtain ⟨a2,cU,ys,rfl,p2,vb,rb⟩:=s2
     cases e
     rcases s1 with ⟨_,rfl⟩ | ⟨k,_,rfl⟩ | ⟨k,t,_,rfl⟩ | ⟨k,t,_,rfl⟩
     ·exact ⟨SeqAt.RcAt.none_list p2 hu,SeqAt.RcNeAt.none_list p2 hu⟩
     ·exact ⟨SeqAt.RcAt.bool_list _ p2 hu,SeqAt.RcNeAt.bool_list _ p2 hu⟩
     ·exact ⟨SeqAt.RcAt.int_list _ _ p2 hu,SeqAt.RcNeAt.int_list _ _ p2 hu⟩
     ·exact ⟨SeqAt.RcAt.str_list _ _ p2 hu,SeqAt.RcNeAt.str_list _ _ p2 hu⟩
    | kj =>
     injection e with e
     subst e
     rcases s1 with ⟨rfl,rfl⟩ | ⟨i,rfl,rfl⟩ | ⟨i,t,rfl,rfl⟩ | ⟨i,t,rfl,rfl⟩ <;> rcases s2 with ⟨rfl,rfl⟩ | ⟨j,rfl,rfl⟩ | ⟨j,t',rfl,rfl⟩ | ⟨j,t',rfl,rfl⟩
     ·exact ⟨SeqAt.RcAt.none_none,SeqAt.RcNeAt.none_none⟩
     ·exact ⟨SeqAt.RcAt.none_bool _,SeqAt.RcNeAt.none_bool _⟩
     ·exact ⟨SeqAt.RcAt.none_int _ _,SeqAt.RcNeAt.none_int _ _⟩
     ·exact ⟨SeqAt.RcAt.none_str _ _,SeqAt.RcNeAt.none_str _ _⟩
     ·exact ⟨SeqAt.RcAt.bool_none _,SeqAt.RcNeAt.bool_none _⟩
     ·exact ⟨SeqAt.RcAt.bool_bool _ _,SeqAt.RcNeAt.bool_bool _ _⟩
     ·exact ⟨SeqAt.RcAt.bool_int _ _ _,SeqAt.RcNeAt.bool_int _ _ _⟩
     ·exact ⟨SeqAt.RcAt.bool_str _ _ _,SeqAt.RcNeAt.bool_str _ _ _⟩
     ·exact ⟨SeqAt.RcAt.int_none _ _,SeqAt.RcNeAt.int_none _ _⟩
     ·exact ⟨SeqAt.RcAt.int_bool _ _ _,SeqAt.RcNeAt.int_bool _ _ _⟩
     ·exact ⟨SeqAt.RcAt.int_int _ _ _ _,SeqAt.RcNeAt.int_int _ _ _ _⟩
     ·exact ⟨SeqAt.RcAt.int_str _ _ _ _,SeqAt.RcNeAt.int_str _ _ _ _⟩
     ·exact ⟨SeqAt.RcAt.str_none _ _,SeqAt.RcNeAt.str_none _ _⟩
     ·exact ⟨SeqAt.RcAt.str_bool _ _ _,SeqAt.RcNeAt.str_bool _ _ _⟩
     ·exact ⟨SeqAt.RcAt.str_int _ _ _ _,SeqAt.RcNeAt.str_int _ _ _ _⟩
     ·exact ⟨SeqAt.RcAt.str_str _ _ _ _,SeqAt.RcNeAt.str_str _ _ _ _⟩
theorem CM {A:Around} {u w:Val} {v1 v2:Value} (s1:zE X ρ H s .kj u v1) (s2:zE X ρ H s .kj w v2):SeqAt.EqAt A s v1 v2 (Gn u w):=by
 rcases s1 with ⟨rfl,rfl⟩ | ⟨i,rfl,rfl⟩ | ⟨i,t,rfl,rfl⟩ | ⟨i,t,rfl,rfl⟩ <;> rcases s2 with ⟨rfl,rfl⟩ | ⟨j,rfl,rfl⟩ | ⟨j,t',rfl,rfl⟩ | ⟨j,t',rfl,rfl⟩
 ·exact SeqAt.EqAt.same _
 ·exact SeqAt.EqAt.none_bool _
 ·exact SeqAt.EqAt.none_int _ _
 ·exact SeqAt.EqAt.none_str _ _
 ·exact SeqAt.EqAt.bool_none _
 ·exact SeqAt.EqAt.bool_bool _ _
 ·exact SeqAt.EqAt.bool_int _ _ _
 ·exact SeqAt.EqAt.bool_str _ _ _
 ·exact SeqAt.EqAt.int_none _ _
 ·exact SeqAt.EqAt.int_bool _ _ _
 ·exact SeqAt.EqAt.int_int _ _ _ _
 ·exact SeqAt.EqAt.int_str _ _ _ _
 ·exact SeqAt.EqAt.str_none _ _
 ·exact SeqAt.EqAt.str_bool _ _ _
 ·exact SeqAt.EqAt.str_int _ _ _ _
 ·exact SeqAt.EqAt.str_str _ _ _ _
theorem qR (I:Inv X pins σ H s) (sr:SR X.K ρ st H):∀ (n:Nat) (A:Around),A.units + n < cLine → ∀ (u w:Val) (x y:V) (v1 v2:Value) (b:Bool),Rl X.K ρ H u x → RelV x v1 → Rl X.K ρ H w y → RelV y v2 → fR n st u w = some b → SeqAt.EqAt A s v1 v2 b
 | 0,_,_,_,_,_,_,_,_,_,_,_,_,_,e => by cases e
 | n + 1,A,hu,u,w,x,y,v1,v2,b,r1,q1,r2,q2,e => by
  have rc:=(Gp I sr n (fun u w x y vu vw c a1 a2 a3 a4 a5 => qR I sr n A.in1 (by rw [in1_units]; lia) u w x y vu vw c a1 a2 a3 a4 a5) (by lia) r1 q1 r2 q2 e).1
  have refs:∀ a a2,v1 = .ref a → v2 = .ref a2 → SeqAt.EqAt A s v1 v2 b:=by
   intro a a2 e1 e2
   subst e1 e2
   by_cases hn:a = a2
   ·subst hn
    have hx:x = y:=q1.inj q2
    subst hx
    rw [vX I sr (n + 1) u w x b r1 r2 e]
    exact SeqAt.EqAt.same _
   ·exact SeqAt.EqAt.of_refs hn rc
  cases z1:vw st u with
  | none => unfold fR at e; rw [z1] at e; cases e
  | some k1 =>
   cases z2:vw st w with
   | none => unfold fR at e; rw [z1,z2] at e; cases k1 <;> cases e
   | some k2 =>
    have s1:=seen I sr r1 q1 z1
    have s2:=seen I sr r2 q2 z2
    unfold fR at e
    rw [z1,z2] at e
    cases k1 with
    | tup us =>
     obtain ⟨a,aE,xs,rfl,p1,va,ra⟩:=s1
     cases k2 with
     | tup ws => obtain ⟨a2,cU,ys,rfl,p2,vb,rb⟩:=s2; exact refs a a2 rfl rfl
     | lst ws => obtain ⟨a2,cU,ys,rfl,p2,vb,rb⟩:=s2; exact refs a a2 rfl rfl
     | kj =>
      cases e
      rcases s2 with ⟨_,rfl⟩ | ⟨k,_,rfl⟩ | ⟨k,t,_,rfl⟩ | ⟨k,t,_,rfl⟩
      ·exact SeqAt.EqAt.tuple_none p1 (by lia)
      ·exact SeqAt.EqAt.tuple_bool _ p1 (by lia)
      ·exact SeqAt.EqAt.tuple_int _ _ p1 (by lia)
      ·exact SeqAt.EqAt.tuple_str _ _ p1 (by lia)
    | lst us =>
     obtain ⟨a,aE,xs,rfl,p1,va,ra⟩:=s1
     cases k2 with
     | tup ws => obtain ⟨a2,cU,ys,rfl,p2,vb,rb⟩:=s2; exact refs a a2 rfl rfl
     | lst ws => obtain ⟨a2,cU,ys,rfl,p2,vb,rb⟩:=s2; exact refs a a2 rfl rfl
     | kj =>
      cases e
      rcases s2 with ⟨_,rfl⟩ | ⟨k,_,rfl⟩ | ⟨k,t,_,rfl⟩ | ⟨k,t,_,rfl⟩
      ·exact SeqAt.EqAt.list_none p1 (by lia)
      ·exact SeqAt.EqAt.list_bool _ p1 (by lia)
      ·exact SeqAt.EqAt.list_int _ _ p1 (by lia)
      ·exact SeqAt.EqAt.list_str _ _ p1 (by lia)
    | kj =>
     cases k2 with
     | tup ws =>
      obtain ⟨a2,cU,ys,rfl,p2,vb,rb⟩:=s2
      cases e
      rcases s1 with ⟨_,rfl⟩ | ⟨k,_,rfl⟩ | ⟨k,t,_,rfl⟩ | ⟨k,t,_,rfl⟩
      ·exact SeqAt.EqAt.none_tuple p2 (by lia)
      ·exact SeqAt.EqAt.bool_tuple _ p2 (by lia)
      ·exact SeqAt.EqAt.int_tuple _ _ p2 (by lia)
      ·exact SeqAt.EqAt.str_tuple _ _ p2 (by lia)
     | lst ws =>
      obtain ⟨a2,cU,ys,rfl,p2,vb,rb⟩:=s2
      cases e
      rcases s1 with ⟨_,rfl⟩ | ⟨k,_,rfl⟩ | ⟨k,t,_,rfl⟩ | ⟨k,t,_,rfl⟩
      ·exact SeqAt.EqAt.none_list p2 (by lia)
      ·exact SeqAt.EqAt.bool_list _ p2 (by lia)
      ·exact SeqAt.EqAt.int_list _ _ p2 (by lia)
      ·exact SeqAt.EqAt.str_list _ _ p2 (by lia)
     | kj =>
      injection e with e
      subst e
      exact CM s1 s2
noncomputable def dB:F2:=fun u w st => match fR 16 st u w with
 | some b => .ok (.bl b) st
 | none => .bad
noncomputable def lV:F2:=fun u w st => match fR 16 st u w with
 | some b => .ok (.bl (!b)) st
 | none => .bad
theorem cP {E:XK} (hu:X.A.units + 64 < cLine):dz X (compareOp .Eq) (rM (wo X) E dB):=by
 intro pins s σ H x y v u Q I rx ry h
 obtain ⟨ρ,st,u1,w1,sr,r1,r2,h⟩:=h
 unfold dB at h
 split at h
 ·rename_i b e
  exact (Gp I sr 15 (qR I sr 15 X.A.in1 (by rw [in1_units]; lia)) (by lia) r1 rx r2 ry e).1 X.prog X.w X.xe (EP X pins σ Q) ⟨.bl b,H,I,rfl,fL sr h⟩
 ·exact h.elim
theorem jh {E:XK} (hu:X.A.units + 64 < cLine):dz X (compareOp .NotEq) (rM (wo X) E lV):=by
 intro pins s σ H x y v u Q I rx ry h
 obtain ⟨ρ,st,u1,w1,sr,r1,r2,h⟩:=h
 unfold lV at h
 split at h
 ·rename_i b e
  exact (Gp I sr 15 (qR I sr 15 X.A.in1 (by rw [in1_units]; lia)) (by lia) r1 rx r2 ry e).2 X.prog X.w X.xe (EP X pins σ Q) ⟨.bl (!b),H,I,rfl,fL sr h⟩
 ·exact h.elim
noncomputable def Jx (st:ai):Val → Option (List Val)
 | .tup us => some us
 | .mt us => some us
 | .loc n => itemsOf st n
 | _ => none
noncomputable def Gq (neg:Bool):F2:=fun u w st => match Jx st w with
 | some us => if flat u = true ∧ us.all flat = true then .ok (.bl (if neg then !us.any (fun y => Gn y u) else us.any (fun y => Gn y u))) st else .bad
 | none => .bad
theorem jJ {K:PySem.W.Frag} {u w:Val} {x y:V} (f1:flat u = true) (f2:flat w = true) (r1:Rl K ρ H u x) (r2:Rl K ρ H w y):ig x = true ∧ ig y = true ∧ By x y = Gn u w:=by
 cases u <;> (try cases f1) <;> cases w <;> (try cases f2) <;>
  (first | (have z1:=Rl.cA r1; subst z1) | (have z1:=Rl.sG r1; subst z1) | (have z1:=Rl.ij r1; subst z1) | (have z1:=Rl.nC r1; subst z1)) <;>
  (first | (have z2:=Rl.cA r2; subst z2) | (have z2:=Rl.sG r2; subst z2) | (have z2:=Rl.ij r2; subst z2) | (have z2:=Rl.nC r2; subst z2)) <;> exact ⟨rfl,rfl,rfl⟩
theorem jK {K:PySem.W.Frag} {u:Val} {x:V} (f:flat u = true) (r:Rl K ρ H u x):∀ {us:List Val} {vs:List V},us.all flat = true → aN K ρ H us vs → vs.all ig = true ∧ K3 x vs = us.any fun y => Gn y u
 | [],vs,_,h => by rw [h.dO]; exact ⟨rfl,rfl⟩
 | w :: us,vs,hf,h => by
  obtain ⟨v,r',rfl,h2,h3⟩:=h.bM
  rw [List.all_cons,Bool.and_eq_true] at hf
  obtain ⟨a,b,c⟩:=jJ hf.1 f h2 r
  obtain ⟨d,e⟩:=jK f r hf.2 h3
  refine ⟨by rw [List.all_cons,a,d]; rfl,?_⟩
  show (By v x || K3 x r') = _
  rw [c,e]; rfl
theorem CN {E:XK} {neg:Bool} {x y:V} {H:Hp} {Q:VK} (h:rM (wo X) E (Gq neg) x y H Q):Q7 X.K neg x y H Q:=by
 obtain ⟨ρ,st,u,w,sr,r1,r2,h⟩:=h
 unfold Gq at h
 split at h
 ·rename_i us e
  split at h
  ·rename_i hz
   cases w with
   | tup ws =>
    cases e
    obtain ⟨a,vs,rfl,ha,ra⟩:=r2.d3
    obtain ⟨q1,q2⟩:=jK hz.1 r1 hz.2 ra
    refine ⟨a,vs,rfl,.inr ha,(jJ hz.1 hz.1 r1 r1).1,q1,?_⟩
    rw [q2]
    exact fL sr h
   | mt ws =>
    cases e
    obtain ⟨a,vs,rfl,ha,ra⟩:=r2.Rt
    obtain ⟨q1,q2⟩:=jK hz.1 r1 hz.2 ra
    refine ⟨a,vs,rfl,.inr ha,(jJ hz.1 hz.1 r1 r1).1,q1,?_⟩
    rw [q2]
    exact fL sr h
   | loc n =>
    obtain ⟨a,rfl,ha⟩:=r2.dF
    obtain ⟨vs,hs,ra⟩:=aR sr e ha
    obtain ⟨q1,q2⟩:=jK hz.1 r1 hz.2 ra
    refine ⟨a,vs,rfl,.inl hs,(jJ hz.1 hz.1 r1 r1).1,q1,?_⟩
    rw [q2]
    exact fL sr h
   | _ => cases e
  ·exact h.elim
 ·exact h.elim
theorem zG {E:XK}:dz X (compareOp .In) (rM (wo X) E (Gq false)):=dz.imp wW fun _ _ _ _ h => CN h
end
end MN
namespace MN
open PySem PySem.Spec L2
open PyProof.Rows hiding St
section
variable {X:Cx} {E:XK} {pos:Pos}
noncomputable def bK:F2
 | .tup us,.int i,st => match ni us i with
  | some v => .ok v st
  | none => .bad
 | .loc n,.int i,st => match itemsOf st n with
  | some us => match ni us i with
   | some v => .ok v st
   | none => .bad
  | none => .bad
 | .str z,.int i,st => if z.length ≤ sizeLine then (match ni z.cps.toList i with
   | some c => .ok (.str ⟨#[c]⟩) st
   | none => .bad) else .bad
 | _,_,_ => .bad
theorem aN.ni {K:PySem.W.Frag} {ρ:List Addr} {H:Hp} {us:List Val} {vs:List V} {i:Int} {u:Val} (r:aN K ρ H us vs) (h:ni us i = some u):∃ v,L2.ni vs i = some v ∧ Rl K ρ H u v:=by
 unfold L2.ni at h ⊢
 rw [← r.length]
 cases z:FF us.length i with
 | none => rw [z] at h; cases h
 | some j =>
  rw [z] at h
  obtain ⟨v,h1,h2⟩:=r.get (show us[j]? = some u from h)
  exact ⟨v,h1,h2⟩
theorem Nk:uq X (rM (wo X) E bK):=by
 refine uq.imp (uq.or B8 (uq.or uH FG)) ?_
 rintro x y H Q ⟨ρ,st,u,w,sr,r1,r2,h⟩
 cases u <;> cases w <;> try exact h.elim
 case tup.int us i =>
  unfold bK at h
  dsimp only at h
  split at h
  ·rename_i v e
   obtain ⟨a,vs,rfl,ha,ra⟩:=r1.d3
   obtain ⟨z,h1,h2⟩:=ra.ni e
   exact .inr (.inl ⟨a,vs,i,z,rfl,r2.cA,ha,h1,h ρ H z (Step.refl _ _) sr h2⟩)
  ·exact h.elim
 case loc.int n i =>
  unfold bK at h
  dsimp only at h
  split at h
  ·rename_i us e
   split at h
   ·rename_i v e'
    obtain ⟨a,rfl,ha⟩:=r1.dF
    obtain ⟨vs,hs,rv⟩:=aR sr e ha
    obtain ⟨z,h1,h2⟩:=rv.ni e'
    exact .inl ⟨a,vs,i,z,rfl,r2.cA,hs,h1,h ρ H z (Step.refl _ _) sr h2⟩
   ·exact h.elim
  ·exact h.elim
 case str.int z i =>
  unfold bK at h
  dsimp only at h
  split at h
  ·rename_i hz
   split at h
   ·rename_i c e
    exact .inr (.inr ⟨z,i,c,r1.ij,r2.cA,hz,e,h ρ H _ (Step.refl _ _) sr (Rl.mkStr _)⟩)
   ·exact h.elim
  ·exact h.elim
noncomputable def gS:FN
 | [.tup us],st => .ok (.int us.length) st
 | [.loc n],st => match itemsOf st n with
  | some us => .ok (.int us.length) st
  | none => .bad
 | [.str z],st => if z.length ≤ sizeLine then .ok (.int z.length) st else .bad
 | _,_ => .bad
theorem kG:bZ X (.builtin "len") (cM (wo X) E gS):=by
 refine bZ.imp (bZ.or qG qH) ?_
 rintro xs H Q ⟨ρ,st,us,sr,r,h⟩
 match us,r,h with
 | [],_,h => exact h.elim
 | [.tup ws],r,h =>
  obtain ⟨v,rfl,r1⟩:=r.yo
  obtain ⟨a,vs,rfl,ha,ra⟩:=r1.d3
  refine .inl ⟨a,vs,rfl,.inr ha,?_⟩
  rw [← ra.length]; exact dA sr h
 | [.loc n],r,h =>
  obtain ⟨v,rfl,r1⟩:=r.yo
  obtain ⟨a,rfl,ha⟩:=r1.dF
  unfold gS at h
  dsimp only at h
  split at h
  ·rename_i ws e
   obtain ⟨vs,hs,rv⟩:=aR sr e ha
   refine .inl ⟨a,vs,rfl,.inl hs,?_⟩
   rw [← rv.length]; exact dA sr h
  ·exact h.elim
 | [.str z],r,h =>
  obtain ⟨v,rfl,r1⟩:=r.yo
  unfold gS at h
  dsimp only at h
  split at h
  ·rename_i hz
   exact .inr ⟨z,by rw [r1.ij],hz,dA sr h⟩
  ·exact h.elim
 | [.da],_,h => exact h.elim
 | [.bl _],_,h => exact h.elim
 | [.int _],_,h => exact h.elim
 | [.exc _],_,h => exact h.elim
 | [.fn _ _],_,h => exact h.elim
 | [.mt _],_,h => exact h.elim
 | x :: y :: r,_,h => cases x <;> exact h.elim
noncomputable def il:FN
 | [.tup us],st => .ok (.tup us) st
 | [.loc n],st => match itemsOf st n with
  | some us => .ok (.tup us) st
  | none => .bad
 | _,_ => .bad
theorem fD:bZ X (.type "tuple") (cM (wo X) E il):=by
 refine bZ.imp o9 ?_
 rintro xs H Q ⟨ρ,st,us,sr,r,h⟩
 unfold il at h
 split at h
 ·rename_i ws
  obtain ⟨v,rfl,r1⟩:=r.yo
  obtain ⟨a,vs,rfl,ha,ra⟩:=r1.d3
  exact ⟨a,vs,rfl,.inr ⟨ha,h ρ H _ (Step.refl _ _) sr r1⟩⟩
 ·rename_i n
  obtain ⟨v,rfl,r1⟩:=r.yo
  obtain ⟨a,rfl,ha⟩:=r1.dF
  split at h
  ·rename_i ws e
   obtain ⟨vs,hs,rv⟩:=aR sr e ha
   refine ⟨a,vs,rfl,.inl ⟨hs,fun l hl => ?_⟩⟩
   have s:=cD (o:=.tup vs) hl
   exact h ρ _ _ (Step.same s) (sr.grow s) (Rl.lS aZ (aN.mono (Step.same s) _ _ rv))
  ·exact h.elim
 ·exact h.elim
noncomputable def nF:FN
 | [.tup us],st => .ok (.loc st.length) (st ++ [.lst us])
 | [.loc n],st => match itemsOf st n with
  | some us => .ok (.loc st.length) (st ++ [.lst us])
  | none => .bad
 | _,_ => .bad
theorem pR:bZ X (.type "list") (cM (wo X) E nF):=by
 refine bZ.imp qI ?_
 rintro xs H Q ⟨ρ,st,us,sr,r,h⟩
 unfold nF at h
 split at h
 ·rename_i ws
  obtain ⟨v,rfl,r1⟩:=r.yo
  obtain ⟨a,vs,rfl,ha,ra⟩:=r1.d3
  refine ⟨a,vs,rfl,.inr ha,fun l hl => ?_⟩
  obtain ⟨k1,k2,k3⟩:=fW sr ra hl
  exact h _ _ _ k1 k2 k3
 ·rename_i n
  obtain ⟨v,rfl,r1⟩:=r.yo
  obtain ⟨a,rfl,ha⟩:=r1.dF
  split at h
  ·rename_i ws e
   obtain ⟨vs,hs,rv⟩:=aR sr e ha
   refine ⟨a,vs,rfl,.inl hs,fun l hl => ?_⟩
   obtain ⟨k1,k2,k3⟩:=fW sr rv hl
   exact h _ _ _ k1 k2 k3
  ·exact h.elim
 ·exact h.elim
noncomputable def lW:List Val → Option (List Bool)
 | [] => some []
 | .bl b :: r => (lW r).map (b :: ·)
 | _ => none
theorem pT {K:PySem.W.Frag} {ρ:List Addr} {H:Hp}:∀ {us:List Val} {bs:List Bool} {vs:List V} {aE:List Value},lW us = some bs → aN K ρ H us vs → Vals vs aE → LSm.BoolsAre aE bs
 | [],bs,vs,aE,h,r,v => by
  cases h
  have:=r.dO
  subst this
  cases v
  exact .nil
 | u :: us,bs,vs,aE,h,r,v => by
  cases u with
  | bl b =>
   simp only [lW] at h
   cases z:lW us with
   | none => rw [z] at h; cases h
   | some WB =>
    rw [z] at h
    cases h
    obtain ⟨x,r',rfl,h2,h3⟩:=r.bM
    have:=h2.sG
    subst this
    cases v with
    | cons q1 q2 =>
     cases q1
     exact .cons b (pT z h3 q2)
  | _ => cases h
theorem nG (hh:X.A.handled = none):bZ X (.builtin "all") (fun xs H Q => ∃ a ρ us vs bs,xs = [.ref a] ∧ jb X.K H a vs ∧ aN X.K ρ H us vs ∧ lW us = some bs ∧ Q (.bl (bs.all id)) H):=by
 rintro pins s σ H xs ws Q I r ⟨a,ρ,us,vs,bs,rfl,hs,rv,hb,q⟩
 obtain ⟨u,rfl,ru⟩:=vals1 r
 cases ru
 obtain ⟨aE,r1,p1,_⟩:=I.list hs
 have B:=pT hb rv r1
 have hl:=p1.isList
 have sA:a < s.heap.objs.size:=by obtain ⟨_,e,_⟩:=hl; exact Heap.lt_size e
 refine call_all_walk (wpAny_pyIter_list hl ?_)
 refine ⟨s.heap.objs.size,[s.heap.objs.size,a],[s.heap.objs.size],aE.toArray.size,_,_,fun i => (bs[i]?).getD true,rfl,Walks.list (A:=X.A.in1) hh _ a (Nat.ne_of_lt sA) aE.toArray,
  ⟨⟨_,Heap.get?_push_size _ rfl,rfl,rfl⟩,hl.push _⟩,fun i v s' Q' E' hP hQ => ?_,fun h' tk hk => ?_⟩
 ·obtain ⟨b,e,rfl⟩:=B.get i v (by simpa using hP)
  simp only [e,Option.getD_some] at hQ
  exact wpAny_truthy_bool hQ
 ·have e:((List.range aE.toArray.size).all fun i => (bs[i]?).getD true) = bs.all id:=by
   rw [List.size_toArray,B.length]; exact LSm.range_all bs
  rw [e]
  exact ⟨.bl _,H,I.kept (LSm.kept_iter hk),rfl,q⟩
noncomputable def xk:FN
 | [.loc n],st => match itemsOf st n with
  | some us => match lW us with
   | some bs => .ok (.bl (bs.all id)) st
   | none => .bad
  | none => .bad
 | _,_ => .bad
theorem xn (hh:X.A.handled = none):bZ X (.builtin "all") (cM (wo X) E xk):=by
 refine bZ.imp (nG hh) ?_
 rintro xs H Q ⟨ρ,st,us,sr,r,h⟩
 unfold xk at h
 split at h
 ·rename_i n
  obtain ⟨v,rfl,r1⟩:=r.yo
  obtain ⟨a,rfl,ha⟩:=r1.dF
  split at h
  ·rename_i ws e
   split at h
   ·rename_i bs hb
    obtain ⟨vs,hs,rv⟩:=aR sr e ha
    exact ⟨a,ρ,ws,vs,bs,rfl,hs,rv,hb,fL sr h⟩
   ·exact h.elim
  ·exact h.elim
 ·exact h.elim
noncomputable def kindOf (st:ai):Val → Option String
 | .da => some "NoneType"
 | .bl _ => some "bool"
 | .int _ => some "int"
 | .str _ => some "str"
 | .tup _ => some "tuple"
 | .loc n => match st[n]? with
  | some (.lst _) => some "list"
  | some (.El _) => some "list"
  | some (.mod _) => none
  | some (.dK _) => some "dict"
  | some (.dT _) => some "dict"
  | _ => none
 | _ => none
noncomputable def Nl (T:String) (st:ai) (v:Val):Option Bool:=(kindOf st v).map fun k => k == T || (k == "bool" && T == "int")
noncomputable def vY (T:String) (m:ME):ME:=fun μ st => (m μ st).bind fun v av => match Nl T av v with
 | some b => .ok (.bl b) av
 | none => .bad
noncomputable def zH (K:PySem.W.Frag) (T:String):Prop:=∀ k ∈ ["NoneType","bool","int","str","tuple","list","dict"],PySem.W.kitOne K (.type k) (.type T) = some (k == T || (k == "bool" && T == "int"))
theorem uP {st:ai} {v:Val} {k:String} (h:kindOf st v = some k):k ∈ ["NoneType","bool","int","str","tuple","list","dict"]:=by
 unfold kindOf at h
 split at h
 all_goals first
  | (cases h; decide)
  | (split at h <;> first | (cases h; decide) | cases h)
  | cases h
theorem zI {pins:List (Addr × Obj)} {σ:St} {H:Hp} {s:Shared} {A:Around} {E:Value → Shared → Prop} {Q:Value → Shared → Prop} {c:Value} {b:Bool} {ρ:List Addr} {st:ai} {u:Val} {x:V} {v:Value} {k:String}
  (I:Inv X pins σ H s) (sr:SR X.K ρ st H) (r:Rl X.K ρ H u x) (q:RelV x v) (hk:kindOf st u = some k) (e:PySem.W.kitOne X.K (.type k) c = some b) (h:∀ tk,Q (.bool b) { s with toks:=tk }) :
  wpAny (model X.prog X.w) A (call (.builtin "isinstance") [v,c]) Q E s:=by
 cases u with
 | da => cases hk; have:=r.nC; subst this; exact dM I q .da e h
 | bl y => cases hk; have:=r.sG; subst this; exact dM I q (.bl y) e h
 | int i => cases hk; have:=r.cA; subst this; exact dM I q (.int i) e h
 | str y => cases hk; have:=r.ij; subst this; exact dM I q (.str y) e h
 | tup us =>
  cases hk
  obtain ⟨a,vs,rfl,ha,ra⟩:=r.d3
  cases q
  obtain ⟨aE,r1,⟨o,h1,h2,_⟩,_⟩:=I.tuple ha
  exact PySem.W.kia_one PySem.W.kitx_tuple I.mU ⟨o,h1,h2⟩ e (fun z => nomatch z) h
 | loc n =>
  obtain ⟨a,rfl,ha⟩:=r.dF
  obtain ⟨cl,hc,kc⟩:=sr.there ha
  simp only [kindOf,hc] at hk
  cases cl with
  | lst us => cases hk; obtain ⟨vs,h1,_⟩:=kc; exact dM I q (.lst h1) e h
  | El us => cases hk; obtain ⟨o,vs,h1,_⟩:=kc; exact dM I q (.d0 h1) e h
  | mod us => cases hk
  | dK us => cases hk; obtain ⟨vs,h1,_⟩:=kc; exact dM I q (.dK h1) e h
  | dT us => cases hk; obtain ⟨vs,h1,_⟩:=kc; exact dM I q (.dT h1) e h
  | tab _ _ _ _ => cases hk
 | exc c => cases hk
 | fn k c => cases hk
 | mt us => cases hk
theorem ji {T:String} {x:Str} {e:Expr} {m:ME} {p q:Pos} (hK:zH X.K T) (hg:Gl X "isinstance") (hm:X.mg "isinstance" = none) (Tv:Gl X x) (Tw:X.mg x = none) (Tx:bootBuiltins x = some (.type T)) (he:PE X e (tE X E m))
  (hn:x ≠ "__name__":=by decide) (hd:(x == ("__debug__":Str)) = false:=by decide)
  (hs:starEach [e,.Name x q] X.env = (false,eval e X.env) :: starEach [.Name x q] X.env:=by rfl) (gP:starEach [.Name x q] X.env = (false,eval (.Name x q) X.env) :: starEach [] X.env:=by rfl)
  (iG:(backTo pos (starEach [.Name x q] X.env)).any (·.1) = false:=by rfl):PE X (.Call (.Name "isinstance" p) [e,.Name x q] [] pos) (tE X E (vY T m)):=by
 have hc:bZ X (.builtin "isinstance") (fun xs H Q => ∃ y ρ st u k b,xs = [y,.ty T] ∧ SR X.K ρ st H ∧ Rl X.K ρ H u y ∧ kindOf st u = some k ∧ PySem.W.kitOne X.K (.type k) (.type T) = some b ∧ Q (.bl b) H):=by
  rintro pins s σ H xs us Q I r ⟨y,ρ,st,u,k,b,rfl,sr,r1,h1,h2,h3⟩
  obtain ⟨v1,v2,rfl,q1,q2⟩:=vals2 r
  cases q2
  exact zI I sr r1 q1 h1 h2 fun tk => ⟨.bl b,H,I.tok tk,rfl,h3⟩
 refine PE.imp (nh hc hg hm PyProof.Rows.boot_isinstance (gM he (gM (vK (v:=.ty T) Tv Tw Tx rfl hn hd) ng gP) hs) (by decide) (by decide) hs iG) ?_
 rintro σ H Q ⟨μ,ρ,st,rs,sr,h⟩
 refine go μ ρ st rs sr h fun u aX ρ1 H1 x e1 bR r1 h1 => ?_
 cases z:kindOf aX u with
 | none => simp only [Nl,z] at h1; exact h1.elim
 | some k =>
  simp only [Nl,z] at h1
  exact ⟨x,ρ1,aX,u,k,_,rfl,bR,r1,z,hK k (uP z),fL bR h1⟩
end
theorem zJ {K:PySem.W.Frag}:zH K "int":=by
 intro k hk
 simp only [List.mem_cons,List.mem_nil_iff,or_false] at hk
 rcases hk with rfl | rfl | rfl | rfl | rfl | rfl | rfl <;> first | rfl | kernel_rfl
theorem kH {K:PySem.W.Frag}:zH K "bool":=by
 intro k hk
 simp only [List.mem_cons,List.mem_nil_iff,or_false] at hk
 rcases hk with rfl | rfl | rfl | rfl | rfl | rfl | rfl <;> first | rfl | kernel_rfl
theorem nJ {K:PySem.W.Frag}:zH K "tuple":=by
 intro k hk
 simp only [List.mem_cons,List.mem_nil_iff,or_false] at hk
 rcases hk with rfl | rfl | rfl | rfl | rfl | rfl | rfl <;> first | rfl | kernel_rfl
theorem zK {K:PySem.W.Frag}:zH K "str":=by
 intro k hk
 simp only [List.mem_cons,List.mem_nil_iff,or_false] at hk
 rcases hk with rfl | rfl | rfl | rfl | rfl | rfl | rfl <;> first | rfl | kernel_rfl
end MN
namespace MN
open PySem PySem.Spec L2
open PyProof.Rows hiding St
noncomputable abbrev AS:=Val → Env → Option Env
noncomputable def aName (i:Nat):AS:=fun v μ => some (μ.set i (some v))
noncomputable def pU:List AS → List Val → Env → Option Env
 | [],[],μ => some μ
 | a :: as,v :: vs,μ => (a v μ).bind fun μ' => pU as vs μ'
 | _,_,_ => none
noncomputable def qS (l:List AS):AS:=fun v μ => match v with
 | .tup vs => pU l vs μ
 | _ => none
noncomputable def tA (W:Wo) (a:AS):TG:=fun v σ H Q => ∃ μ ρ u μ',RS W ρ H μ σ ∧ Rl W.K ρ H u v ∧ a u μ = some μ' ∧ ∀ σ',RS W ρ H μ' σ' → Q σ' H
noncomputable def Lk (W:Wo) (l:List AS):BM:=fun vs σ H Q => ∃ μ ρ us μ',RS W ρ H μ σ ∧ aN W.K ρ H us vs ∧ pU l us μ = some μ' ∧ ∀ σ',RS W ρ H μ' σ' → Q σ' H
section
variable {X:Cx} {pos:Pos}
theorem wK.imp {e:List Expr} {t t':BM} (h:wK X e t) (k:∀ v σ H Q,t' v σ H Q → t v σ H Q):wK X e t':=fun pins s σ H v u Q I r q => h pins s σ H v u Q I r (k v σ H Q q)
theorem bT (i:Nat) {x:Str} (hN:X.N.Nodup) (hi:X.N[i]? = some x:=by rfl) (hx:Loc X.env.scope x:=by first | exact Or.inl rfl | exact Or.inr rfl) (hf:X.fn x = true ∨ X.env.scope.names.lookup x = some .local:=by first | exact .inl rfl | exact .inr rfl | assumption):PG X (.Name x pos) (tA (wo X) (aName i)):=by
 refine PG.imp (BN hN hi hx hf) ?_
 rintro v σ H Q ⟨μ,ρ,u,μ',rs,r,e,q⟩
 cases e
 exact q _ (rs.set i r)
theorem qT:wK X [] (Lk (wo X) []):=by
 refine wK.imp BO ?_
 rintro vs σ H Q ⟨μ,ρ,us,μ',rs,r,e,q⟩
 cases us with
 | nil => cases e; exact ⟨r.dO,q σ rs⟩
 | cons => cases e
theorem gv {e:Expr} {es:List Expr} {a:AS} {as:List AS} (h1:PG X e (tA (wo X) a)) (h2:wK X es (Lk (wo X) as)) (hs:(assignEach (e :: es) X.env).map (·.2) = assign e X.env :: (assignEach es X.env).map (·.2):=by rfl):wK X (e :: es) (Lk (wo X) (a :: as)):=by
 refine wK.imp (yE h1 h2 hs) ?_
 rintro vs σ H Q ⟨μ,ρ,us,μ',rs,r,e,q⟩
 cases us with
 | nil => cases e
 | cons u us =>
  obtain ⟨v,r',rfl,ru,rr⟩:=r.bM
  unfold pU at e
  cases z:a u μ with
  | none => rw [z] at e; cases e
  | some μ1 =>
   rw [z] at e
   exact ⟨v,r',rfl,μ,ρ,u,μ1,rs,ru,z,fun σ1 HP => ⟨μ1,ρ,us,μ',HP,rr,e,q⟩⟩
theorem uQ {es:List Expr} {k:Nat} {l:List AS} (hc:X.calm = true) (h:wK X es (Lk (wo X) l)) (hn:(assignEach es X.env).length = l.length:=by rfl) (Bw:(assignEach es X.env).findIdx? (·.1) = none:=by rfl):PG X (.Tuple es k pos) (tA (wo X) (qS l)):=by
 refine PG.imp (Fc hc h hn Bw) ?_
 rintro v σ H Q ⟨μ,ρ,u,μ',rs,r,e,q⟩
 cases u with
 | tup us =>
  obtain ⟨a,vs,rfl,ha,ra⟩:=r.d3
  have len:∀ (l:List AS) (us:List Val) (μ:Env),pU l us μ = some μ' → us.length = l.length:=by
   intro l
   induction l with
   | nil => intro us μ e; cases us with | nil => rfl | cons => cases e
   | cons a l ih =>
    intro us μ e
    cases us with
    | nil => cases e
    | cons u us =>
     unfold pU at e
     cases z:a u μ with
     | none => rw [z] at e; cases e
     | some μ1 => rw [z] at e; rw [List.length_cons,List.length_cons,ih us μ1 e]
  exact ⟨a,vs,rfl,ha,by rw [← ra.length]; exact len _ _ _ e,μ,ρ,us,μ',rs,ra,e,q⟩
 | _ => cases e
noncomputable def Tz (a:AS) (m:ME):MB:=fun μ st => (m μ st).sb μ fun v av => match a v μ with
 | some μ' => .nx μ' av
 | none => .bad
end
noncomputable abbrev Itm:=List Val × (ai → Prop)
noncomputable abbrev MI:=Env → ai → Res Itm
noncomputable def HQ (K:PySem.W.Frag) (ρ0:List Addr) (H0:Hp) (p:Itm) (J:It):Prop :=
 ∀ ρ st H,Step ρ0 H0 ρ H → SR K ρ st H → p.2 st → ∀ i:Nat,
  (∀ u,p.1[i]? = some u → J.go i H ∧ ∀ x H',J.Ip i H x H' → Step ρ H ρ H' ∧ SR K ρ st H' ∧ Rl K ρ H' u x) ∧ (p.1.length ≤ i → J.stop i H)
noncomputable abbrev tI (X:Cx) (E:XK) (m:MI):TI:=tG (wo X) E (HQ X.K) m
section
variable {X:Cx} {E:XK} {tg:Expr} {pos p:Pos}
theorem PI.imp {it:Expr} {t t':TI} (h:PI X tg it t) (k:∀ σ H Q,t' σ H Q → t σ H Q):PI X tg it t':=fun pins s σ H R I q => h pins s σ H R I (k σ H R q)
theorem Gr {l:Expr} {tl:TE} (hl:PE X l tl):PI X tg l (fun σ H R => tl σ H fun x H1 => ∃ a,x = .ref a ∧ (((∃ xs,jb X.K H1 a xs) ∧ R (Md X.K a) H1) ∨ ((∃ xs,gp X.K H1 a xs) ∧ R (Me X.K a) H1))):=by
 intro pins s σ H R I h
 refine cb (hl pins s σ H _ I h) fun v s1 ⟨x,H1,I1,r1,q1⟩ => ?_
 obtain ⟨a,e,q⟩:=q1
 subst e
 cases r1
 rcases q with ⟨⟨xs,hq⟩,q⟩ | ⟨⟨xs,hq⟩,q⟩
 ·obtain ⟨aE,rv,p,hz⟩:=I1.list hq
  refine wpAny_pyIter_list p.isList ?_
  refine ⟨s1.heap.objs.size,[s1.heap.objs.size],_,_,H1,rfl,I1.kept (t':=s1.toks) fun b o e => Heap.get?_push_of_some _ e,wM a _,⟨_,Heap.get?_push_size _ rfl,rfl,rfl⟩,fun b hb => ?_,q⟩
  have e:b = s1.heap.objs.size:=by simpa using hb
  subst e
  exact I1.wL (Nat.le_refl _) (I1.bz.fresh (Nat.le_refl _))
 ·obtain ⟨aE,rv,p,hz⟩:=I1.tuple hq
  refine wpAny_pyIter_tuple (show s1.heap.IsTuple a aE.toArray from p) ?_
  refine ⟨s1.heap.objs.size,[s1.heap.objs.size],_,_,H1,rfl,I1.kept (t':=s1.toks) fun b o e => Heap.get?_push_of_some _ e,uA a _,⟨_,Heap.get?_push_size _ rfl,rfl,rfl⟩,fun b hb => ?_,q⟩
  have e:b = s1.heap.objs.size:=by simpa using hb
  subst e
  exact I1.wL (Nat.le_refl _) (I1.bz.fresh (Nat.le_refl _))
noncomputable def nK (st:ai):Val → Option Itm
 | .tup us => some (us,fun _ => True)
 | .mt us => some (us,fun _ => True)
 | .loc n => (itemsOf st n).map fun us => (us,fun av => itemsOf av n = some us)
 | _ => none
noncomputable def fT (m:ME):MI:=fun μ st => (m μ st).bind fun v av => match nK av v with
 | some p => .ok p av
 | none => .bad
theorem zL {K:PySem.W.Frag} {ρ:List Addr} {H:Hp} {n:Nat} {us:List Val} {a:Addr} (ha:ρ[n]? = some a) (Nm:∀ {ρ':List Addr} {av:ai} {H':Hp},SR K ρ' av H' → itemsOf av n = some us → ρ'[n]? = some a → ∃ vs,jb K H' a vs ∧ aN K ρ' H' us vs) :
  HQ K ρ H (us,fun av => itemsOf av n = some us) (Md K a):=by
 intro ρ' av H' e sr g i
 obtain ⟨vs,hs,rv⟩:=Nm sr g (e.at_ ha)
 refine ⟨fun u hu => ?_,fun hi => ⟨vs,hs,by rw [← rv.length]; exact hi⟩⟩
 obtain ⟨v,hv,ru⟩:=rv.get hu
 refine ⟨⟨vs,v,hs,hv⟩,fun x Nn y => ?_⟩
 obtain ⟨rfl,y⟩:=y
 have e:=(y vs hs).symm.trans hv
 cases e
 exact ⟨Step.refl _ _,sr,ru⟩
theorem vZ {K:PySem.W.Frag} {ρ:List Addr} {H:Hp} {us:List Val} {a:Addr} {vs:List V} (ha:gp K H a vs) (ra:aN K ρ H us vs):HQ K ρ H (us,fun _ => True) (Me K a):=by
 intro ρ' av H' e sr g i
 have Eo:gp K H' a vs:=e.Ng ha
 have rv:=aN.mono e _ _ ra
 refine ⟨fun u hu => ?_,fun hi => ⟨vs,Eo,by rw [← rv.length]; exact hi⟩⟩
 obtain ⟨v,hv,ru⟩:=rv.get hu
 refine ⟨⟨vs,v,Eo,hv⟩,fun x Nn y => ?_⟩
 obtain ⟨rfl,y⟩:=y
 have e:=(y vs Eo).symm.trans hv
 cases e
 exact ⟨Step.refl _ _,sr,ru⟩
theorem nL {l:Expr} {m:ME} (hl:PE X l (tE X E m)):PI X tg l (tI X E (fT m)):=by
 refine PI.imp (Gr hl) ?_
 rintro σ H R ⟨μ,ρ,st,rs,sr,h⟩
 refine go μ ρ st rs sr h fun u aX ρ1 H1 x e1 bR r1 h1 => ?_
 cases u with
 | tup us =>
  obtain ⟨a,vs,rfl,ha,ra⟩:=r1.d3
  exact ⟨a,rfl,.inr ⟨⟨vs,ha⟩,h1 ρ1 H1 _ (Step.refl _ _) bR (vZ ha ra)⟩⟩
 | mt us =>
  obtain ⟨a,vs,rfl,ha,ra⟩:=r1.Rt
  exact ⟨a,rfl,.inr ⟨⟨vs,ha⟩,h1 ρ1 H1 _ (Step.refl _ _) bR (vZ ha ra)⟩⟩
 | loc n =>
  obtain ⟨a,rfl,ha⟩:=r1.dF
  cases z:itemsOf aX n with
  | none => simp only [nK,z] at h1; exact h1.elim
  | some us =>
   simp only [nK,z] at h1
   obtain ⟨vs,hs,rv⟩:=aR bR z ha
   exact ⟨a,rfl,.inl ⟨⟨vs,hs⟩,h1 ρ1 H1 _ (Step.refl _ _) bR (zL ha fun s g h => aR s g h)⟩⟩
 | _ => exact h1.elim
noncomputable def a_ (lo:Int) (n:Nat):List Val:=(List.range n).map fun (i:Nat) => Val.int (lo + (i:Int))
theorem xo {K:PySem.W.Frag} {ρ:List Addr} {H:Hp} (lo:Int) (n:Nat):HQ K ρ H (a_ lo n,fun _ => True) (KY lo n):=by
 intro ρ' av H' e sr g i
 refine ⟨fun u hu => ?_,fun hi => ?_⟩
 ·have hi:i < n:=by
   have:=fB hu
   simpa [a_] using this
  refine ⟨hi,fun x Nn y => ?_⟩
  obtain ⟨rfl,rfl⟩:=y
  have e:u = Val.int (lo + (i:Int)):=by
   simp only [a_,List.getElem?_map] at hu
   rw [List.getElem?_range hi] at hu
   exact (Option.some.inj hu).symm
  subst e
  exact ⟨Step.refl _ _,sr,Rl.mkInt _⟩
 ·show n ≤ i
  simpa [a_] using hi
noncomputable def bf (m:MA):MI:=fun μ st => (m μ st).bind fun vs av => match vs with
 | [.int j] => if -(2 ^ 62) ≤ j ∧ j < 2 ^ 62 then .ok (a_ 0 j.toNat,fun _ => True) av else .bad
 | _ => .bad
theorem dh {a:Expr} {m:MA} (hg:Gl X "range") (hm:X.mg "range" = none) (ha:PA X [a] (tL X E m)) (hs:starEach [a] X.env = [(false,eval a X.env)]:=by rfl):PI X tg (.Call (.Name "range" p) [a] [] pos) (tI X E (bf m)):=by
 refine PI.imp (wN hg hm ha hs) ?_
 rintro σ H R ⟨μ,ρ,st,rs,sr,h⟩
 refine go (R1:=aN X.K) μ ρ st rs sr h fun us aX ρ1 H1 xs e1 bR r1 h1 => ?_
 split at h1
 ·rename_i j
  obtain ⟨v,rfl,rv⟩:=r1.yo
  split at h1
  ·rename_i hz
   exact ⟨j,by rw [rv.cA],hz.1,hz.2,h1 ρ1 H1 _ (Step.refl _ _) bR (xo 0 j.toNat)⟩
  ·exact h1.elim
 ·exact h1.elim
noncomputable def gf (st:ai):Val → Option (Bool × Itm)
 | .tup us => some (false,us,fun _ => True)
 | .loc n => (itemsOf st n).map fun us => (true,us,fun av => itemsOf av n = some us)
 | _ => none
noncomputable def jL:List Val → List Val → List Val
 | x :: xs,y :: ys => .tup [x,y] :: jL xs ys
 | _,_ => []
theorem v3:∀ (us ws:List Val) (i:Nat),(∀ z,(jL us ws)[i]? = some z → ∃ u w,us[i]? = some u ∧ ws[i]? = some w ∧ z = .tup [u,w]) ∧ ((jL us ws).length ≤ i → us.length ≤ i ∨ ws.length ≤ i)
 | [],_,i => ⟨fun z h => (by cases h),fun _ => .inl (Nat.zero_le _)⟩
 | _ :: _,[],i => ⟨fun z h => (by cases h),fun _ => .inr (Nat.zero_le _)⟩
 | u :: us,w :: ws,0 => ⟨fun z h => (by cases h; exact ⟨u,w,rfl,rfl,rfl⟩),fun h => (by simp [jL] at h)⟩
 | u :: us,w :: ws,i + 1 => by
  obtain ⟨a,b⟩:=v3 us ws i
  refine ⟨fun z h => a z h,fun h => ?_⟩
  have h':(jL us ws).length ≤ i:=by simpa [jL] using h
  rcases b h' with q | q
  ·exact .inl (by rw [List.length_cons]; lia)
  ·exact .inr (by rw [List.length_cons]; lia)
noncomputable def iZ (b1 b2:Bool) (m:MA):MI:=fun μ st => (m μ st).bind fun vs av => match vs with
 | [u,w] => match gf av u,gf av w with
  | some (c1,us,g1),some (c2,ws,g2) => if c1 = b1 ∧ c2 = b2 then .ok (jL us ws,fun cg => g1 cg ∧ g2 cg) av else .bad
  | _,_ => .bad
 | _ => .bad
theorem v7 {K:PySem.W.Frag} {ρ:List Addr} {st:ai} {H:Hp} {u:Val} {x:V} {c:Bool} {us:List Val} {g:ai → Prop} (sr:SR K ρ st H) (r:Rl K ρ H u x) (h:gf st u = some (c,us,g)) (Nm:∀ {ρ':List Addr} {av:ai} {H':Hp} {n a},SR K ρ' av H' → itemsOf av n = some us → ρ'[n]? = some a → ∃ vs,jb K H' a vs ∧ aN K ρ' H' us vs) :
  ∃ a,x = .ref a ∧ ∀ ρ' av H',Step ρ H ρ' H' → SR K ρ' av H' → g av → ∃ vs,uK c K H' a vs ∧ aN K ρ' H' us vs:=by
 cases u with
 | tup ws =>
  cases h
  obtain ⟨a,vs,rfl,ha,ra⟩:=r.d3
  exact ⟨a,rfl,fun ρ' av H' e _ _ => ⟨vs,e.Ng ha,aN.mono e _ _ ra⟩⟩
 | loc n =>
  obtain ⟨a,rfl,ha⟩:=r.dF
  cases z:itemsOf st n with
  | none => simp only [gf,z] at h; cases h
  | some ws =>
   simp only [gf,z] at h
   cases h
   exact ⟨a,rfl,fun ρ' av H' e s g => Nm s g (e.at_ ha)⟩
 | _ => cases h
theorem zM {st:ai} {u:Val} {c:Bool} {us:List Val} {g:ai → Prop} (h:gf st u = some (c,us,g)):g st:=by
 cases u with
 | tup ws => cases h; exact True.intro
 | loc n =>
  cases z:itemsOf st n with
  | none => simp only [gf,z] at h; cases h
  | some ws => simp only [gf,z] at h; cases h; exact z
 | _ => cases h
theorem uR (b1 b2:Bool) {elts:List Expr} {kt:Nat} {tp:Pos} {ea eb:Expr} {m:MA} (hg:Gl X "zip") (hm:X.mg "zip" = none) (ha:PA X [ea,eb] (tL X E m)) (hs:starEach [ea,eb] X.env = [(false,eval ea X.env),(false,eval eb X.env)]:=by rfl) (gP:starEach [eb] X.env = [(false,eval eb X.env)]:=by rfl) :
  PI X (.Tuple elts kt tp) (.Call (.Name "zip" p) [ea,eb] [] pos) (tI X E (iZ b1 b2 m)):=by
 refine PI.imp (F1 b1 b2 hg hm ha hs gP) ?_
 rintro σ H R ⟨μ,ρ,st,rs,sr,h⟩
 refine go (R1:=aN X.K) μ ρ st rs sr h fun us aX ρ1 H1 xs e1 bR r1 h1 => ?_
 split at h1
 ·rename_i u w
  obtain ⟨x,y,rfl,rx,ry⟩:=r1.Lg
  split at h1
  ·rename_i c1 Np g1 c2 TB g2 z1 z2
   split at h1
   ·rename_i hc
    obtain ⟨rfl,rfl⟩:=hc
    obtain ⟨a,rfl,ka⟩:=v7 bR rx z1 fun s g h => aR s g h
    obtain ⟨b,rfl,kb⟩:=v7 bR ry z2 fun s g h => aR s g h
    obtain ⟨v1,q1,_⟩:=ka ρ1 aX H1 (Step.refl _ _) bR (zM z1)
    obtain ⟨v2,q2,_⟩:=kb ρ1 aX H1 (Step.refl _ _) bR (zM z2)
    refine ⟨a,b,rfl,⟨v1,q1⟩,⟨v2,q2⟩,h1 ρ1 H1 _ (Step.refl _ _) bR ?_⟩
    intro ρ' av H' e s g i
    obtain ⟨w1,s1,t1⟩:=ka ρ' av H' e s g.1
    obtain ⟨w2,s2,t2⟩:=kb ρ' av H' e s g.2
    obtain ⟨k1,k2⟩:=v3 Np TB i
    refine ⟨fun z hz => ?_,fun hi => ⟨w1,w2,s1,s2,?_⟩⟩
    ·obtain ⟨u',w',TC,TF,rfl⟩:=k1 z hz
     obtain ⟨p1,p2,p3⟩:=t1.get TC
     obtain ⟨o1,o2,o3⟩:=t2.get TF
     refine ⟨⟨w1,w2,p1,o1,s1,s2,p2,o2⟩,fun x' Nn y' => ?_⟩
     obtain ⟨pp,x1,y1,rfl,hp,rfl,f1,f2⟩:=y'
     have c1:=(f1 w1 s1).symm.trans p2
     have c2:=(f2 w2 s2).symm.trans o2
     cases c1
     cases c2
     exact ⟨Step.same (cD hp),s.grow (cD hp),Rl.lS aZ (aN.mono (Step.same (cD hp)) _ _ (aN.cons p3 (aN.one o3)))⟩
    ·rw [← t1.length,← t2.length]; exact k2 hi
   ·exact h1.elim
  ·exact h1.elim
 ·exact h1.elim
end
open Classical in
noncomputable def forL (g:ai → Prop) (a:AS) (body:MB):List Val → MB
 | [],μ,st => if g st then .nx μ st else .bad
 | u :: us,μ,st => if g st then (match a u μ with
  | some μ1 => match body μ1 st with
   | .nx μ' av => forL g a body us μ' av
   | .ct μ' av => forL g a body us μ' av
   | .bk μ' av => .nx μ' av
   | .rt v av => .rt v av
   | .er c μ' av => .er c μ' av
   | .bad => .bad
  | none => .bad) else .bad
noncomputable def hU (it:MI) (a:AS) (body:MB):MB:=fun μ st => (it μ st).sb μ fun p av => forL p.2 a body p.1 μ av
section
variable {X:Cx} {E:XK} {tg:Expr} {pos p:Pos}
theorem kI {iter:Expr} {sb:List Stmt} {it:MI} {a:AS} {body:MB} (hp:PassesOwn (model X.prog X.w) X.A X.env X.xe) (hc:X.calm = true) (hi:PI X tg iter (tI X E it)) (hg:PG X tg (tA (wo X) a)) (hb:i_ X sb (tS X E body))
  (hs:∀ x,foldedSetIterable iter X.env x = pure x:=by intro _; rfl):PS X (.For tg iter sb [] pos) (tS X E (hU it a body)):=by
 refine PS.imp (Ff hp hc hi hg hb hs) ?_
 rintro D σ H ⟨μ,ρ,st,rs,sr,h⟩
 refine CJ (R1:=HQ X.K) μ ρ st rs sr h fun pr aX ρ1 H1 J e1 bR rJ h1 => ?_
 obtain ⟨us,g⟩:=pr
 refine ⟨fun i m σ' H' => m = us.length - i ∧ i ≤ us.length ∧ ∃ μ' ρ' av,Step ρ1 H1 ρ' H' ∧ RS (wo X) ρ' H' μ' σ' ∧ SR X.K ρ' av H' ∧ wS (wo X) E ρ' H' D (forL g a body (us.drop i) μ' av),
  ⟨us.length,by simp,Nat.zero_le _,μ,ρ1,aX,Step.refl _ _,rs.mono e1,bR,h1⟩,?_⟩
 rintro i m σ' H' ⟨rfl,hi,μ',ρ',av,e',BB,yp,h'⟩
 by_cases sA:i < us.length
 ·rw [List.drop_eq_getElem_cons sA] at h'
  unfold forL at h'
  by_cases oX:g av
  ·rw [if_pos oX] at h'
   obtain ⟨k1,k2⟩:=rJ ρ' av H' e' yp oX i
   obtain ⟨go',yl⟩:=k1 _ (List.getElem?_eq_getElem sA)
   refine .inr ⟨go',fun σ2 H2 => i + 1 ≤ us.length ∧ ∃ μ2 ρ2 cg,Step ρ1 H1 ρ2 H2 ∧ RS (wo X) ρ2 H2 μ2 σ2 ∧ SR X.K ρ2 cg H2 ∧ wS (wo X) E ρ2 H2 D (forL g a body (us.drop (i + 1)) μ2 cg),fun σ2 H2 n => ⟨us.length - (i + 1),by lia,rfl,n.1,n.2⟩,fun x H2 y => ?_⟩
   obtain ⟨e2,mF,r2⟩:=yl x H2 y
   cases z:a us[i] μ' with
   | none => rw [z] at h'; exact h'.elim
   | some μ1 =>
    rw [z] at h'
    dsimp only at h'
    refine ⟨μ',ρ',us[i],μ1,BB.mono e2,r2,z,fun σ3 HR => ⟨μ1,ρ',av,HR,mF,?_⟩⟩
    cases zb:body μ1 av with
    | nx μ4 uw =>
     rw [zb] at h'
     intro ρ4 H4 σ4 e4 xp Gu
     exact ⟨by lia,μ4,ρ4,uw,(e'.trans e2).trans e4,Gu,xp,wS.mono h' (e2.trans e4)⟩
    | ct μ4 uw =>
     rw [zb] at h'
     intro ρ4 H4 σ4 e4 xp Gu
     exact ⟨by lia,μ4,ρ4,uw,(e'.trans e2).trans e4,Gu,xp,wS.mono h' (e2.trans e4)⟩
    | bk μ4 uw => rw [zb] at h'; exact fun ρ4 H4 σ4 e4 xp Gu => h' ρ4 H4 σ4 (e2.trans e4) xp Gu
    | rt v uw => rw [zb] at h'; exact fun ρ4 H4 σ4 e4 xp Gu => h' ρ4 H4 σ4 (e2.trans e4) xp Gu
    | er c μ4 uw => rw [zb] at h'; obtain ⟨C,q1,q2⟩:=h'; exact ⟨C,q1,fun ρ4 H4 e4 xp => q2 ρ4 H4 (e2.trans e4) xp⟩
    | bad => rw [zb] at h'; exact h'
  ·rw [if_neg oX] at h'; exact h'.elim
 ·have yZ:i = us.length:=by lia
  subst yZ
  rw [List.drop_length] at h'
  unfold forL at h'
  by_cases oX:g av
  ·rw [if_pos oX] at h'
   exact .inl ⟨(rJ ρ' av H' e' yp oX us.length).2 (Nat.le_refl _),h' ρ' H' σ' (Step.refl _ _) yp BB⟩
  ·rw [if_neg oX] at h'; exact h'.elim
end
section
variable {X:Cx} {E:XK} {pos:Pos}
end
end MN
namespace MN
open PySem PySem.Spec L2
open PyProof.Rows hiding St
noncomputable def mG (k:Nat) (caps:List Nat) (μ:Env):Env:=List.replicate k none ++ caps.map fun j => (μ[j]?).getD none
theorem RS.TH {W:Wo} {ρ:List Addr} {H:Hp} {μ:Env} {σ:L2.St} (r:RS W ρ H μ σ) (k:Nat) (caps:List Nat):RS W ρ H (mG k caps μ) (mD k caps σ):=by
 refine ⟨by simp [mG,mD],fun i u e => ?_⟩
 unfold mG at e
 rcases Nat.lt_or_ge i k with q | q
 ·rw [List.getElem?_append_left (by rw [List.length_replicate]; exact q),List.getElem?_replicate,if_pos q] at e
  cases e
 ·rw [List.getElem?_append_right (by rw [List.length_replicate]; exact q),List.length_replicate,List.getElem?_map] at e
  cases z:caps[i - k]? with
  | none => rw [z] at e; cases e
  | some j =>
   rw [z] at e
   have e':(μ[j]?).getD none = some u:=Option.some.inj e
   have e2:μ[j]? = some (some u):=by
    cases y:μ[j]? with
    | none => rw [y] at e'; cases e'
    | some w => rw [y] at e'; exact congrArg _ e'
   obtain ⟨v,h1,h2⟩:=r.at_ j u e2
   refine ⟨v,?_,h2⟩
   unfold mD
   rw [List.getElem?_append_right (by rw [List.length_replicate]; exact q),List.length_replicate,List.getElem?_map,z]
   show some ((σ[j]?).getD none) = _
   rw [h1]
   rfl
open Classical in
noncomputable def d6 (g:ai → Prop) (a:AS) (c:MT) (e:ME):List Val → Env → ai → List Val → Res (List Val)
 | [],_,st,ys => if g st then .ok ys st else .bad
 | u :: us,τ,st,ys => if g st then (match a u τ with
  | some τ1 => match c τ1 st with
   | .ok true aX => match e τ1 aX with
    | .ok y cg => d6 g a c e us τ1 cg (ys ++ [y])
    | .err _ _ => .bad
    | .bad => .bad
   | .ok false aX => d6 g a c e us τ1 aX ys
   | .err _ _ => .bad
   | .bad => .bad
  | none => .bad) else .bad
noncomputable def bI (k:Nat) (caps:List Nat) (it:MI) (a:AS) (c:MT) (e:ME):ME:=fun μ st => (it μ st).bind fun p aX =>
 if p.1.length ≤ sizeLine then (d6 p.2 a c e p.1 (mG k caps μ) aX []).bind fun ys cg => .ok (.loc cg.length) (cg ++ [.lst ys]) else .bad
noncomputable def bE:MT:=fun _ st => .ok true st
noncomputable abbrev W0 (X:Cx):Wo:=⟨X.K,X.mg,[]⟩
section
variable {X:Cx} {E:XK} {tg elt iter:Expr} {ifs:List Expr} {scope:Scope} {pos y7:Pos} {N:List Str} {cl:List (Str × Addr)} {k:Nat} {caps:List Nat} {it:MI} {a:AS} {c:MT} {e:ME}
theorem pV (Jy:X.pn = []) {σ:L2.St} {H:Hp} {Q:VK} (h:tE X E (bI k caps it a c e) σ H Q):nv k caps (tI X E it) (tA (W0 X) a) (tG (W0 X) E0 RB c) (tG (W0 X) E0 (Rl X.K) e) σ H Q:=by
 obtain ⟨μ,ρ,st,rs,sr,h⟩:=h
 refine yX (go (R1:=HQ X.K) μ ρ st rs sr h fun pr aX ρ1 H1 J e1 bR rJ h1 => ?_)
 obtain ⟨us,g⟩:=pr
 have ew:wo X = W0 X:=by show Wo.mk _ _ _ = _; rw [Jy]
 have HP:=rs.mono e1
 rw [ew] at HP h1
 dsimp only at h1
 split at h1
 ·rename_i hz
  refine Co us.length hz (fun i ys τ H' => ∃ μτ ρ' av yv,Step ρ1 H1 ρ' H' ∧ RS (W0 X) ρ' H' μτ τ ∧ SR X.K ρ' av H' ∧ aN X.K ρ' H' yv ys ∧ yv.length ≤ i ∧ wR (W0 X) E (Rl X.K) ρ' H' Q ((d6 g a c e (us.drop i) μτ av yv).bind fun (zs:List Val) (cg:ai) => Res.ok (Val.loc cg.length) (cg ++ [Cell.lst zs])))
   ⟨mG k caps μ,ρ1,aX,[],Step.refl _ _,HP.TH k caps,bR,aN.nil,Nat.le_refl _,h1⟩ ?_ ?_ ?_ ?_ ?_
  ·rintro i ys τ H' hi ⟨μτ,ρ',av,yv,e',BB,yp,ry,hl,hq⟩
   rw [List.drop_eq_getElem_cons hi] at hq
   unfold d6 at hq
   by_cases oX:g av
   ·exact ((rJ ρ' av H' e' yp oX i).1 _ (List.getElem?_eq_getElem hi)).1
   ·rw [if_neg oX] at hq; exact hq.elim
  ·rintro ys τ H' ⟨μτ,ρ',av,yv,e',BB,yp,ry,hl,hq⟩
   rw [List.drop_length] at hq
   unfold d6 at hq
   by_cases oX:g av
   ·exact (rJ ρ' av H' e' yp oX us.length).2 (Nat.le_refl _)
   ·rw [if_neg oX] at hq; exact hq.elim
  ·rintro i ys τ H' ⟨μτ,ρ',av,yv,e',BB,yp,ry,hl,hq⟩
   rw [← ry.length]; exact hl
  ·rintro i ys τ H' x H2 hi ⟨μτ,ρ',av,yv,e',BB,yp,ry,hl,hq⟩ y K1 hK
   rw [List.drop_eq_getElem_cons hi] at hq
   unfold d6 at hq
   by_cases oX:g av
   ·rw [if_pos oX] at hq
    obtain ⟨e2,mF,r2⟩:=((rJ ρ' av H' e' yp oX i).1 _ (List.getElem?_eq_getElem hi)).2 x H2 y
    cases z:a us[i] μτ with
    | none => rw [z] at hq; exact hq.elim
    | some τ1 =>
     rw [z] at hq
     dsimp only at hq
     refine ⟨μτ,ρ',us[i],τ1,BB.mono e2,r2,z,fun σ3 HR => ⟨τ1,ρ',av,HR,mF,?_⟩⟩
     cases zc:c τ1 av with
     | ok b iY =>
      rw [zc] at hq
      intro ρ3 H3 b' e3 xq eb
      cases eb
      cases b with
      | true =>
       dsimp only at hq
       rw [if_pos rfl]
       refine ⟨τ1,ρ3,iY,HR.mono e3,xq,?_⟩
       cases ze:e τ1 iY with
       | ok v uw =>
        rw [ze] at hq
        intro ρ4 H4 y4 e4 xp r4
        exact hK _ _ _ ⟨τ1,ρ4,uw,yv ++ [v],((e'.trans e2).trans e3).trans e4,(HR.mono e3).mono e4,xp,(aN.mono ((e2.trans e3).trans e4) _ _ ry).append (aN.one r4),by rw [List.length_append,List.length_singleton]; lia,wR.mono hq ((e2.trans e3).trans e4)⟩
       | err c' uw => rw [ze] at hq; exact hq.elim
       | bad => rw [ze] at hq; exact hq.elim
      | false =>
       dsimp only at hq
       rw [if_neg Bool.false_ne_true]
       exact hK _ _ _ ⟨τ1,ρ3,iY,yv,(e'.trans e2).trans e3,HR.mono e3,xq,aN.mono (e2.trans e3) _ _ ry,by lia,wR.mono hq (e2.trans e3)⟩
     | err c' iY => rw [zc] at hq; exact hq.elim
     | bad => rw [zc] at hq; exact hq.elim
   ·rw [if_neg oX] at hq; exact hq.elim
  ·rintro ys τ H' p ⟨μτ,ρ',av,yv,e',BB,yp,ry,hl,hq⟩ hp
   rw [List.drop_length] at hq
   unfold d6 at hq
   by_cases oX:g av
   ·rw [if_pos oX] at hq
    obtain ⟨k1,k2,k3⟩:=fW yp ry hp
    exact hq _ _ _ k1 k2 k3
   ·rw [if_neg oX] at hq; exact hq.elim
 ·exact h1.elim
theorem eZ (hc:X.calm = true) (Jy:X.pn = []) (B:sq X N scope cl k caps) (hi:PI X tg iter (tI X E it)) (hg:∀ C fp s H,PG (oW X N scope cl C fp s H) tg (tA (W0 X) a)) (FY:∀ C fp s H,Bz (oW X N scope cl C fp s H) ifs (tG (W0 X) E0 RB c))
  (he:∀ C fp s H,PE (oW X N scope cl C fp s H) elt (tG (W0 X) E0 (Rl X.K) e)) (hs:∀ x,foldedSetIterable iter X.env x = pure x:=by intro _; rfl):PE X (.ListComp elt [⟨tg,iter,ifs,0⟩] scope pos) (tE X E (bI k caps it a c e)) :=
 PE.imp (Cn hc B hi hg FY he hs) fun _ _ _ h => pV Jy h
theorem uS (i:Nat) {y:Str} {py:Pos} (hN:X.N.Nodup) (hc:X.calm = true) (Jy:X.pn = []) (B:sq X N scope cl k caps) (hi:PI X tg iter (tI X E it)) (hg:∀ C fp s H,PG (oW X N scope cl C fp s H) tg (tA (W0 X) a)) (FY:∀ C fp s H,Bz (oW X N scope cl C fp s H) ifs (tG (W0 X) E0 RB c))
  (he:∀ C fp s H,PE (oW X N scope cl C fp s H) elt (tG (W0 X) E0 (Rl X.K) e)) (hy:X.N[i]? = some y:=by rfl) (hx:Loc X.env.scope y:=by first | exact Or.inl rfl | exact Or.inr rfl) (MQ:swapsWith (.ListComp elt [⟨tg,iter,ifs,0⟩] scope pos) (some (.Name y py)) y7.line X.env = pure true:=by rfl)
  (hs:∀ x,foldedSetIterable iter X.env x = pure x:=by intro _; rfl) (hf:X.fn y = true ∨ X.env.scope.names.lookup y = some .local:=by first | exact .inl rfl | exact .inr rfl | assumption) :
  PS X (.Assign [.Name y py] (.ListComp elt [⟨tg,iter,ifs,0⟩] scope pos) y7) (tS X E (aL i (bI k caps it a c e))) :=
 PS.imp (L2.uJ hN hy hx hc B hi hg FY he MQ hs hf) fun _ _ _ h => pV Jy (sL h)
theorem fX {C fp s H}:Bz (oW X N scope cl C fp s H) [] (tG (W0 X) E0 RB bE):=by
 intro pins s' σ H' Q I q
 refine Ci pins s' σ H' Q I ?_
 obtain ⟨μ,ρ,st,rs,sr,h⟩:=q
 exact h ρ H' true (Step.refl _ _) sr rfl
theorem qU {cc:Expr} {C fp s H} (h:PT (oW X N scope cl C fp s H) cc (tG (W0 X) E0 RB c)):Bz (oW X N scope cl C fp s H) [cc] (tG (W0 X) E0 RB c):=Cj h
theorem v8 {P:Program} {w:World} {C fp s H}:Passes (jx P w) (oW X N scope cl C fp s H) E0:=by
 rintro pins σ H' s' e s2 I ⟨ea,cls,H2,_,_,q⟩
 exact q.elim
end
noncomputable abbrev FM:=Val → List Val → ai → Res Val
noncomputable def Ru (W:Wo) (E:XK) (f:FM):V → List V → Hp → VK → Prop:=fun x xs H Q => ∃ ρ st u us,SR W.K ρ st H ∧ Rl W.K ρ H u x ∧ aN W.K ρ H us xs ∧ wR W E (Rl W.K) ρ H Q (f u us st)
noncomputable def sO (st:ai):Val → Bool
 | .loc n => match st[n]? with
  | some (.lst _) => true
  | _ => false
 | _ => false
noncomputable def mH (f:FM) (o:ME) (a:MA):ME:=fun μ st => (o μ st).bind fun x aX => if sO aX x = true then (a μ aX).bind fun xs cg => f x xs cg else .bad
noncomputable def c_:FM
 | .loc n,[v],st => match st[n]? with
  | some (.lst us) => if us.length < sizeLine then .ok .da (st.set n (.lst (us ++ [v]))) else .bad
  | _ => .bad
 | _,_,_ => .bad
section
variable {X:Cx} {E:XK} {o e:Expr} {es:List Expr} {mo:ME} {ms:MA} {apos cu:Pos} {f:FM}
theorem FJ.imp {id:String} {r r':V → List V → Hp → VK → Prop} (h:FJ X id r) (k:∀ x xs H Q,r' x xs H Q → r x xs H Q):FJ X id r':=fun pins s σ H x xs v us Q I rx rs q => h pins s σ H x xs v us Q I rx rs (k x xs H Q q)
theorem CO {K:PySem.W.Frag} {ρ:List Addr} {st:ai} {H:Hp} {n:Nat} {us zD:List Val} {a:Addr} {vs uO:List V} (sr:SR K ρ st H) (h:st[n]? = some (.lst us)) (ha:ρ[n]? = some a) (hH:H a = some (.lst vs)) (r:aN K ρ H zD uO) :
  Step ρ H ρ (upd H a (.lst uO)) ∧ SR K ρ (st.set n (.lst zD)) (upd H a (.lst uO)):=by
 have e:Step ρ H ρ (upd H a (.lst uO)):=Step.put hH (fun _ z => by cases z) (fun _ _ z => by cases z)
 exact ⟨e,sr.set h rfl rfl ha hH (fun _ z => by cases z) (fun _ _ z => by cases z) ⟨uO,aZ,aN.mono e _ _ r⟩⟩
theorem uT:FJ X "list.append" (Ru (wo X) E c_):=by
 refine FJ.imp wX ?_
 rintro x xs H Q ⟨ρ,st,u,us,sr,r1,r2,h⟩
 unfold c_ at h
 split at h
 ·rename_i n v
  obtain ⟨a,rfl,ha⟩:=r1.dF
  obtain ⟨y,rfl,ry⟩:=r2.yo
  split at h
  ·rename_i ws hw
   split at h
   ·rename_i hz
    obtain ⟨vs,hH,rv⟩:=sr.cell n _ a hw ha
    refine ⟨a,vs,y,rfl,rfl,hH,by rw [← rv.length]; exact hz,?_⟩
    obtain ⟨k1,k2⟩:=CO sr hw ha hH (rv.append (aN.one ry))
    exact h ρ _ _ k1 k2 Rl.vU
   ·exact h.elim
  ·exact h.elim
 ·exact h.elim
theorem zN {K:PySem.W.Frag} {ρ:List Addr} {st:ai} {H:Hp} {u:Val} {x:V} (sr:SR K ρ st H) (r:Rl K ρ H u x) (h:sO st u = true):Mv K "list" x H:=by
 cases u with
 | loc n =>
  obtain ⟨a,rfl,ha⟩:=r.dF
  obtain ⟨c,hc,kc⟩:=sr.there ha
  simp only [sO,hc] at h
  cases c with
  | lst us => obtain ⟨vs,h1,_⟩:=kc; exact .inl ⟨rfl,vs,jb.of h1⟩
  | _ => cases h
 | _ => cases h
theorem Gv {name:Str} {id:String} (slot:Slot "list" name id) (IL:typeOf (.builtin id) = pure (.type "method_descriptor")) (hm:FJ X id (Ru (wo X) E f)) (ho:PE X o (tE X E mo)) (ha:PA X (e :: es) (tL X E ms))
  (sf:attributeBase o name X.env (eval o X.env) = eval o X.env:=by rfl)
  (yR:((backTo cu (starEach (e :: es) X.env)).all (fun x => !x.1) && (backToKw cu (keywordEach [] X.env)).all (fun x => x.1.isSome)
   && decide ((e :: es).length + ([]:List Keyword).length + (if ([]:List Keyword).isEmpty then 0 else 1) < 30)) = true:=by rfl)
  (sg:(apos.endLine == cu.line) = true:=by rfl) (hs:starEach (e :: es) X.env = (false,eval e X.env) :: starEach es X.env:=by rfl) (nq:(backTo cu (starEach es X.env)).any (·.1) = false:=by rfl) :
  PE X (.Call (.Attribute o name apos) (e :: es) [] cu) (tE X E (mH f mo ms)):=by
 refine PE.imp (IK PySem.F.plainAttrs_list slot IL hm ho ha sf yR sg hs nq) ?_
 rintro σ H Q ⟨μ,ρ,st,rs,sr,h⟩
 refine go μ ρ st rs sr h fun u aX ρ1 H1 x e1 bR r1 h1 => ?_
 split at h1
 ·rename_i hz
  refine ⟨zN bR r1 hz,?_⟩
  refine go (R1:=aN X.K) μ ρ1 aX (rs.mono e1) bR h1 fun us cg ρ2 H2 xs e2 mF r2 h2 => ?_
  exact ⟨ρ2,cg,u,us,mF,Rl.mono e2 _ _ r1,r2,h2⟩
 ·exact h1.elim
end
end MN
namespace MN
open PySem PySem.Spec L2
open PyProof.Rows hiding St
noncomputable def Ep {α β:Type} (W:Wo) (R:List Addr → Hp → α → β → Prop) (ρ:List Addr) (H:Hp) (Q:β → Hp → Prop) (EX:EH):Res α → Prop
 | .ok u av => ∀ ρ' H' v,Step ρ H ρ' H' → SR W.K ρ' av H' → R ρ' H' u v → Q v H'
 | .err c av => ∃ C,W.mg c = some (.ref C) ∧ ∀ ρ' H' ea,Step ρ H ρ' H' → SR W.K ρ' av H' → EX (.ref C) ea H'
 | .bad => False
theorem Ep.mono {α β:Type} {W:Wo} {R:List Addr → Hp → α → β → Prop} {ρ ρ':List Addr} {H H':Hp} {Q:β → Hp → Prop} {EX:EH} {r:Res α} (h:Ep W R ρ H Q EX r) (e:Step ρ H ρ' H'):Ep W R ρ' H' Q EX r:=by
 cases r with
 | ok u st => exact fun ρ2 H2 v e2 s r => h ρ2 H2 v (e.trans e2) s r
 | err c st => obtain ⟨C,h1,h2⟩:=h; exact ⟨C,h1,fun ρ2 H2 ea e2 s => h2 ρ2 H2 ea (e.trans e2) s⟩
 | bad => exact h
noncomputable def Er (X:Cx) (m:ME):Ct:=fun σ H Q EX => ∃ μ ρ st,RS (wo X) ρ H μ σ ∧ SR X.K ρ st H ∧ Ep (wo X) (Rl X.K) ρ H Q EX (m μ st)
noncomputable def Ll (X:Cx) (m:MA):Cu:=fun σ H Q EX => ∃ μ ρ st,RS (wo X) ρ H μ σ ∧ SR X.K ρ st H ∧ Ep (wo X) (aN X.K) ρ H Q EX (m μ st)
noncomputable def CP (W:Wo) (ρ:List Addr) (H:Hp) (D:Ends) (EX:EK):bU → Prop
 | .nx μ st => ∀ ρ' H' σ',Step ρ H ρ' H' → SR W.K ρ' st H' → RS W ρ' H' μ σ' → D.nx σ' H'
 | .rt v st => ∀ ρ' H' x,Step ρ H ρ' H' → SR W.K ρ' st H' → Rl W.K ρ' H' v x → D.rt x H'
 | .bk μ st => ∀ ρ' H' σ',Step ρ H ρ' H' → SR W.K ρ' st H' → RS W ρ' H' μ σ' → D.bk σ' H'
 | .ct μ st => ∀ ρ' H' σ',Step ρ H ρ' H' → SR W.K ρ' st H' → RS W ρ' H' μ σ' → D.ct σ' H'
 | .er c μ st => ∃ C,W.mg c = some (.ref C) ∧ ∀ ρ' H' σ' ea,Step ρ H ρ' H' → SR W.K ρ' st H' → RS W ρ' H' μ σ' → EX (.ref C) ea σ' H'
 | .bad => False
theorem CP.mono {W:Wo} {ρ ρ':List Addr} {H H':Hp} {D:Ends} {EX:EK} {r:bU} (h:CP W ρ H D EX r) (e:Step ρ H ρ' H'):CP W ρ' H' D EX r:=by
 cases r with
 | nx μ st => exact fun ρ2 H2 σ2 e2 s r => h ρ2 H2 σ2 (e.trans e2) s r
 | rt v st => exact fun ρ2 H2 x e2 s r => h ρ2 H2 x (e.trans e2) s r
 | bk μ st => exact fun ρ2 H2 σ2 e2 s r => h ρ2 H2 σ2 (e.trans e2) s r
 | ct μ st => exact fun ρ2 H2 σ2 e2 s r => h ρ2 H2 σ2 (e.trans e2) s r
 | er c μ st => obtain ⟨C,h1,h2⟩:=h; exact ⟨C,h1,fun ρ2 H2 σ2 ea e2 s r => h2 ρ2 H2 σ2 ea (e.trans e2) s r⟩
 | bad => exact h
noncomputable def Gw (X:Cx) (m:MB):F4:=fun D EX σ H => ∃ μ ρ st,RS (wo X) ρ H μ σ ∧ SR X.K ρ st H ∧ CP (wo X) ρ H D EX (m μ st)
noncomputable def zO {α:Type} (m:Env → ai → Res α):Env → ai → Res α:=fun μ st => match m μ st with
 | .ok v av => .ok v av
 | .err _ _ => .bad
 | .bad => .bad
section
variable {X:Cx} {pos p:Pos} {e:Expr} {es:List Expr} {m:ME} {ms:MA} {f:FN} {x:Str}
theorem qP.imp {t t':Ct} (h:qP X e t) (k:∀ σ H Q EX,t' σ H Q EX → t σ H Q EX):qP X e t':=fun pins s σ H Q EX I q => h pins s σ H Q EX I (k σ H Q EX q)
theorem xf.imp {t t':Cu} (h:xf X es t) (k:∀ σ H Q EX,t' σ H Q EX → t σ H Q EX):xf X es t':=fun p pins s σ H Q EX I q => h p pins s σ H Q EX I (k σ H Q EX q)
theorem ym.imp {st:Stmt} {t t':F4} (h:ym X st t) (k:∀ D EX σ H,t' D EX σ H → t D EX σ H):ym X st t':=fun pins s σ H D EX I q => h pins s σ H D EX I (k D EX σ H q)
theorem zP (h:∀ W,PE (X.jz W) e (tE X E0 m)):qP X e (Er X (zO m)):=by
 refine qP.imp (F5 h) ?_
 rintro σ H Q EX ⟨μ,ρ,st,rs,sr,h⟩
 refine ⟨μ,ρ,st,rs,sr,?_⟩
 unfold zO at h
 cases z:m μ st with
 | ok v av => rw [z] at h; exact h
 | err c av => rw [z] at h; exact h.elim
 | bad => rw [z] at h; exact h
theorem zQ {k:Nat} {fa:Addr} {fd:FuncData} {ps:List Str} (F:kC X.prog X.w X.K X.mg X.base (jx X.prog X.w) k fa fd ps (En ⟨X.K,X.mg,[]⟩ f)) (hr:cY k X.A) (hg:Gl X x) (hm:X.mg x = some (.ref fa)) (hk:PySem.W.keepIn X.K (.ref fa) = true) (hb:Binds X.K fd ps []) (o7:∀ y,X.fn y = true) (ha:∀ W,PA (X.jz W) (e :: es) (tL X E0 ms))
  (jB:(x == ("__debug__":Str)) = false:=by decide) (he:starEach (e :: es) X.env = (false,eval e X.env) :: starEach es X.env:=by rfl) (iG:(backTo pos (starEach es X.env)).any (·.1) = false:=by rfl) :
  qP X (.Call (.Name x p) (e :: es) [] pos) (Er X (ao f (zO ms))):=by
 refine qP.imp (zi F hr hg hm hk hb o7 ha jB he iG) ?_
 rintro σ H Q EX ⟨μ,ρ,st,rs,sr,h⟩
 refine ⟨μ,ρ,st,rs,sr,?_⟩
 unfold ao zO at h
 cases z:ms μ st with
 | ok us aX =>
  rw [z] at h
  intro ρ1 H1 vs e1 bR r1
  refine ⟨us,ρ1,aX,r1,bR,?_⟩
  have h':Ep (wo X) (Rl X.K) ρ1 H1 Q EX (f us aX):=Ep.mono h e1
  revert h'
  cases f us aX with
  | ok u cg => exact fun q => q
  | err c cg => exact fun ⟨C,q1,q2⟩ => ⟨C,q1,fun ρ2 H2 e2 s2 ea => q2 ρ2 H2 ea e2 s2⟩
  | bad => exact fun q => q
 | err c av => rw [z] at h; exact h.elim
 | bad => rw [z] at h; exact h
theorem CQ:xf X [] (Ll X ak):=xf.imp Cv fun σ H Q EX ⟨μ,ρ,st,rs,sr,h⟩ => h ρ H [] (Step.refl _ _) sr aN.nil
theorem sP (ha:qP X e (Er X m)) (hr:xf X es (Ll X ms)) (hs:starEach (e :: es) X.env = (false,eval e X.env) :: starEach es X.env:=by rfl):xf X (e :: es) (Ll X (aa m ms)):=by
 refine xf.imp (zj ha hr hs) ?_
 rintro σ H Q EX ⟨μ,ρ,st,rs,sr,h⟩
 refine ⟨μ,ρ,st,rs,sr,?_⟩
 unfold aa at h
 cases z:m μ st with
 | ok u aX =>
  rw [z] at h
  intro ρ1 H1 v e1 bR r1
  have h':=Ep.mono h e1
  refine ⟨μ,ρ1,aX,rs.mono e1,bR,?_⟩
  dsimp only [Res.bind] at h'
  cases z2:ms μ aX with
  | ok us cg =>
   rw [z2] at h'
   exact fun ρ2 H2 vs e2 mF r2 => h' ρ2 H2 _ e2 mF (aN.cons (Rl.mono e2 _ _ r1) r2)
  | err c cg => rw [z2] at h'; exact h'
  | bad => rw [z2] at h'; exact h'
 | err c av => rw [z] at h; exact h
 | bad => rw [z] at h; exact h
theorem CS {k} (h:xf X es (Ll X ms)):qP X (.Tuple es k pos) (Er X (d5 ms)):=by
 refine qP.imp (Cw h) ?_
 rintro σ H Q EX ⟨μ,ρ,st,rs,sr,h⟩
 refine ⟨μ,ρ,st,rs,sr,?_⟩
 unfold d5 at h
 cases z:ms μ st with
 | ok us aX =>
  rw [z] at h
  dsimp only [Res.bind] at h
  split at h
  ·rename_i hz
   intro ρ1 H1 xs e1 bR r1
   refine ⟨by rw [← r1.length]; exact hz,fun p hp => ?_⟩
   have s:=cD (o:=.tup xs) hp
   exact h ρ1 _ _ (e1.trans (Step.same s)) (bR.grow s) (Rl.lS aZ (aN.mono (Step.same s) _ _ r1))
  ·exact h.elim
 | err c av => rw [z] at h; exact h
 | bad => rw [z] at h; exact h
theorem zR {σ:L2.St} {H:Hp} {D:Ends} {EX:EK} {k:Val → ai → bU} {μ:Env} {ρ:List Addr} {st:ai} (rs:RS (wo X) ρ H μ σ) (sr:SR X.K ρ st H) (h:CP (wo X) ρ H D EX ((m μ st).sb μ k)) {Q:VK}
  (c:∀ u aX ρ1 H1 x,Step ρ H ρ1 H1 → SR X.K ρ1 aX H1 → Rl X.K ρ1 H1 u x → CP (wo X) ρ1 H1 D EX (k u aX) → Q x H1):Er X m σ H Q fun cls ea H' => EX cls ea σ H':=by
 refine ⟨μ,ρ,st,rs,sr,?_⟩
 cases z:m μ st with
 | ok u aX => rw [z] at h; exact fun ρ1 H1 x e1 bR r1 => c u aX ρ1 H1 x e1 bR r1 (CP.mono h e1)
 | err c' aX => rw [z] at h; obtain ⟨C,q1,q2⟩:=h; exact ⟨C,q1,fun ρ2 H2 ea e2 s2 => q2 ρ2 H2 σ ea e2 s2 (rs.mono e2)⟩
 | bad => rw [z] at h; exact h
theorem sQ (he:qP X e (Er X m)) (hs:swapsWith e none pos.line X.env = pure false:=by rfl):ym X (.Expr e pos) (Gw X (dr m)):=by
 refine ym.imp (zo he hs) ?_
 rintro D EX σ H ⟨μ,ρ,st,rs,sr,h⟩
 exact zR rs sr h fun u aX ρ1 H1 x e1 bR r1 h1 => h1 ρ1 H1 σ (Step.refl _ _) bR (rs.mono e1)
theorem CT (he:qP X e (Er X m)):ym X (.Return (some e) pos) (Gw X (bC m)):=by
 refine ym.imp (Cy he) ?_
 rintro D EX σ H ⟨μ,ρ,st,rs,sr,h⟩
 exact zR rs sr h fun u aX ρ1 H1 x e1 bR r1 h1 => h1 ρ1 H1 x (Step.refl _ _) bR r1
theorem qV {s1:Stmt} {a:MB} (h:ym X s1 (Gw X a)):zh X [s1] (Gw X a):=zq h
noncomputable abbrev MH:=Str → MB
noncomputable def CU:MH:=fun _ _ _ => .bad
noncomputable def nM:bU → bU
 | .rt v st => .rt v st
 | _ => .bad
noncomputable def i4 (sub:Str → Str → Option Bool) (x:Str) (dN:MB) (rest:MH):MH:=fun c μ st => match sub c x with
 | some true => nM (dN μ st)
 | some false => rest c μ st
 | none => .bad
noncomputable def HS (sub:Str → Str → Option Bool) (x:Str) (i:Nat) (dN:MB) (rest:MH):MH:=fun c μ st => match sub c x with
 | some true => nM (dN (μ.set i (some (.exc c))) st)
 | some false => rest c μ st
 | none => .bad
noncomputable def qX (kn:Str → Bool) (body:MB) (h:MH):MB:=fun μ st => match body μ st with
 | .er c μ' av => if kn c = true then h c μ' av else .bad
 | .nx μ' av => .nx μ' av
 | .rt v av => .rt v av
 | .bk μ' av => .bk μ' av
 | .ct μ' av => .ct μ' av
 | .bad => .bad
noncomputable def zS (X:Cx) (h:MH):yn:=fun D EX cls ea σ H => ∃ c C μ ρ st,X.mg c = some (.ref C) ∧ cls = .ref C ∧ RS (wo X) ρ H μ σ ∧ SR X.K ρ st H ∧ CP (wo X) ρ H D EX (h c μ st)
theorem PH.imp {hs:List ExceptHandler} {t t':yn} (h:PH X hs t) (k:∀ D EX cls ea σ H,t' D EX cls ea σ H → t D EX cls ea σ H):PH X hs t':=fun pins s σ H D EX ea cls J q => h pins s σ H D EX ea cls J (k D EX cls ea σ H q)
theorem uU:PH X [] (zS X CU):=PH.imp F9 fun D EX cls ea σ H q => by
 obtain ⟨c,C,μ,ρ,st,_,_,_,_,h⟩:=q
 exact h
noncomputable def Gx (K:PySem.W.Frag) (mg:Str → Option Value) (sub:Str → Str → Option Bool):Prop:=∀ c x b C D,sub c x = some b → mg c = some (.ref C) → mg x = some (.ref D) → PySem.W.kitCls K (.ref C) (.ref D) = some b
theorem uu.pn {K:PySem.W.Frag} {mg:Str → Option Value} {pn Gf:List (Addr × Obj)} (hp:∀ q ∈ pn,q ∈ Gf) {ρ:List Addr} {H:Hp} {u:Val} {v:V} (h:uu ⟨K,mg,pn⟩ ρ H u v):uu ⟨K,mg,Gf⟩ ρ H u v:=by
 cases u with
 | exc c => obtain ⟨a,oe,C,h1,h2,h3⟩:=h; exact ⟨a,oe,C,h1,hp _ h2,h3⟩
 | _ => exact h
theorem RS.pn {K:PySem.W.Frag} {mg:Str → Option Value} {pn Gf:List (Addr × Obj)} (hp:∀ q ∈ pn,q ∈ Gf) {ρ:List Addr} {H:Hp} {μ:Env} {σ:L2.St} (h:RS ⟨K,mg,pn⟩ ρ H μ σ):RS ⟨K,mg,Gf⟩ ρ H μ σ :=
 ⟨h.len,fun i u e => let ⟨v,h1,h2⟩:=h.at_ i u e; ⟨v,h1,h2.pn hp⟩⟩
theorem CV {C:Addr} {np:Pos} {b₀:Stmt} {dN:List Stmt} {rest:List ExceptHandler} {sub:Str → Str → Option Bool} {s:MB} {r:MH} (hS:Gx X.K X.mg sub) (hg:Gl X x) (hm:X.mg x = some (.ref C)) (hB:PySem.W.subIn X.K (.ref C) (.type "BaseException") = some true)
  (hs:∀ ea oe,i_ (L2.mE X ea oe) (b₀ :: dN) (tS (L2.mE X ea oe) E0 s)) (hr:PH X rest (zS X r)) (hd:(x == ("__debug__":Str)) = false:=by decide):PH X (.ExceptHandler (some (.Name x np)) none (b₀ :: dN) pos :: rest) (zS X (i4 sub x s r)):=by
 refine PH.imp (CA hg hm hB hs hr hd) ?_
 rintro D EX cls ea σ H ⟨c,C',μ,ρ,st,h1,rfl,rs,sr,h⟩
 unfold i4 at h
 split at h
 ·rename_i e
  refine ⟨true,hS c x true C' C e h1 hm,?_⟩
  rw [if_pos rfl]
  intro oe BA
  refine ⟨μ,ρ,st,RS.pn (fun q hq => List.mem_cons_of_mem _ hq) rs,sr,?_⟩
  revert h
  cases s μ st with
  | rt v av => exact fun q => q
  | _ => exact fun q => q.elim
 ·rename_i e
  refine ⟨false,hS c x false C' C e h1 hm,?_⟩
  rw [if_neg Bool.false_ne_true]
  exact ⟨c,C',μ,ρ,st,h1,rfl,rs,sr,h⟩
 ·exact h.elim
theorem Jz {n:Str} {i:Nat} {C:Addr} {np:Pos} {b₀:Stmt} {dN:List Stmt} {rest:List ExceptHandler} {sub:Str → Str → Option Bool} {s:MB} {r:MH} (hS:Gx X.K X.mg sub) (hN:X.N.Nodup) (hi:X.N[i]? = some n) (hl:X.env.scope.names.lookup n = some .local) (hg:Gl X x) (hm:X.mg x = some (.ref C))
  (hB:PySem.W.subIn X.K (.ref C) (.type "BaseException") = some true) (hs:∀ ea oe,i_ (L2.mE X ea oe) (b₀ :: dN) (tS (L2.mE X ea oe) E0 s)) (hr:PH X rest (zS X r)) (hd:(x == ("__debug__":Str)) = false:=by decide) :
  PH X (.ExceptHandler (some (.Name x np)) (some n) (b₀ :: dN) pos :: rest) (zS X (HS sub x i s r)):=by
 refine PH.imp (Jm hN hi hl hg hm hB hs hr hd) ?_
 rintro D EX cls ea σ H ⟨c,C',μ,ρ,st,h1,rfl,rs,sr,h⟩
 unfold HS at h
 split at h
 ·rename_i e
  refine ⟨true,hS c x true C' C e h1 hm,?_⟩
  rw [if_pos rfl]
  intro oe BA
  have BB:RS (wo (L2.mE X ea oe)) ρ H (μ.set i (some (.exc c))) (σ.set i (some (.ref ea))) :=
   (RS.pn (fun q hq => List.mem_cons_of_mem _ hq) rs).Js i ⟨ea,oe,C',rfl,List.mem_cons_self,h1,BA⟩
  refine ⟨_,ρ,st,BB,sr,?_⟩
  revert h
  cases s (μ.set i (some (.exc c))) st with
  | rt v av => exact fun q => q
  | _ => exact fun q => q.elim
 ·rename_i e
  refine ⟨false,hS c x false C' C e h1 hm,?_⟩
  rw [if_neg Bool.false_ne_true]
  exact ⟨c,C',μ,ρ,st,h1,rfl,rs,sr,h⟩
 ·exact h.elim
noncomputable def Known (mg:Str → Option Value) (kn:Str → Bool):Prop:=∀ c,kn c = true → ∃ C,mg c = some (.ref C)
theorem zT {kn:Str → Bool} {b:MB} {h:MH} (hk:Known X.mg kn) {D:Ends} {EX:EK} {σ:L2.St} {H:Hp} (q:Gw X (qX kn b h) D EX σ H):Gw X b D (fun cls ea σ' H' => zS X h D EX cls ea σ' H') σ H:=by
 obtain ⟨μ,ρ,st,rs,sr,q⟩:=q
 refine ⟨μ,ρ,st,rs,sr,?_⟩
 unfold qX at q
 cases z:b μ st with
 | er c μ' av =>
  rw [z] at q
  dsimp only at q
  split at q
  ·rename_i hc
   obtain ⟨C,hC⟩:=hk c hc
   exact ⟨C,hC,fun ρ' H' σ' ea e s r => ⟨c,C,μ',ρ',av,hC,rfl,r,s,CP.mono q e⟩⟩
  ·exact q.elim
 | _ => rw [z] at q; exact q
noncomputable def nN (m:MB):MB:=fun μ st => match m μ st with
 | .er _ _ _ => .bad
 | .nx μ' av => .nx μ' av
 | .rt v av => .rt v av
 | .bk μ' av => .bk μ' av
 | .ct μ' av => .ct μ' av
 | .bad => .bad
theorem uV {E:XK} {kn:Str → Bool} {body:List Stmt} {h₀:ExceptHandler} {hs:List ExceptHandler} {b:MB} {h:MH} (hk:Known X.mg kn) (dx:DefX X) (hb:zh X body (Gw X b)) (hh:PH X (h₀ :: hs) (zS X h)):PS X (.Try body (h₀ :: hs) [] [] pos) (tS X E (nN (qX kn b h))):=by
 refine PS.imp (F_ dx hb hh) ?_
 rintro D σ H ⟨μ,ρ,st,rs,sr,q⟩
 refine zT (EX:=fun _ _ _ _ => False) hk ⟨μ,ρ,st,rs,sr,?_⟩
 unfold nN at q
 revert q
 cases qX kn b h μ st with
 | er c μ' av => exact fun q => q.elim
 | _ => exact fun q => q
noncomputable def xr (sub:Str → Str → Option Bool) (i:Nat) (x:Str):ME:=fun μ st => match μ[i]? with
 | some (some (.exc c)) => (match sub c x with
  | some true => .ok (.bl true) st
  | _ => .bad)
 | _ => .bad
inductive ClsAt (X:Cx) (x:Str):Value → V → Prop
 | own {C:Addr} (hm:X.mg x = some (.ref C)):ClsAt X x (.ref C) (.ref C)
 | blt {n:String} (hm:X.mg x = none) (hv:bootBuiltins x = some (.type n)) (hn:x ≠ "__name__"):ClsAt X x (.type n) (.ty n)
noncomputable def JA (K:PySem.W.Frag) (mg:Str → Option Value) (sub:Str → Str → Option Bool) (x:Str) (cv:Value):Prop:=∀ c C,sub c x = some true → mg c = some (.ref C) → PySem.W.kitOne K (.ref C) cv = some true
theorem Gy {E:XK} {sub:Str → Str → Option Bool} {i:Nat} {n:Str} {cv:Value} {v:V} {q1 q2:Pos} (hc:ClsAt X x cv v) (hS:JA X.K X.mg sub x cv) (hg:Gl X "isinstance") (hm:X.mg "isinstance" = none) (Lm:Gl X x)
  (hN:X.N[i]? = some n) (hv:EW X.env.scope n) (hd:(n == ("__debug__":Str)) = false) (m6:(n == ("__classdict__":Str)) = false) (Ln:(x == ("__debug__":Str)) = false)
  (hs:starEach [.Name n q1,.Name x q2] X.env = (false,eval (.Name n q1) X.env) :: starEach [.Name x q2] X.env:=by rfl) (gP:starEach [.Name x q2] X.env = (false,eval (.Name x q2) X.env) :: starEach [] X.env:=by rfl)
  (iG:(backTo pos (starEach [.Name x q2] X.env)).any (·.1) = false:=by rfl):PE X (.Call (.Name "isinstance" p) [.Name n q1,.Name x q2] [] pos) (tE X E (xr sub i x)):=by
 have hx:PE X (.Name x q2) (tC v):=by
  cases hc with
  | own h => exact vJ Lm h rfl Ln
  | blt h1 h2 h3 => exact vK Lm h1 h2 rfl h3 Ln
 refine PE.imp (nh qQ hg hm PyProof.Rows.boot_isinstance (gM (yA (i:=i) hN hv hd m6) (gM hx ng gP) hs) (by decide) (by decide) hs iG) ?_
 rintro σ H Q ⟨μ,ρ,st,rs,sr,h⟩
 unfold xr at h
 split at h
 ·rename_i c e
  split at h
  ·rename_i es
   obtain ⟨w,e',a,oe,C,rfl,hp,hC,ho⟩:=rs.at_ i _ e
   have hk:=hS c C es hC
   rw [← ho] at hk
   cases hc with
   | own h' => exact ⟨_,e',a,oe,_,.inl ⟨rfl,hk⟩,hp,fL sr h⟩
   | blt h1 h2 h3 => exact ⟨_,e',a,oe,0,.inr ⟨_,rfl,hk⟩,hp,fL sr h⟩
  ·exact h.elim
 ·exact h.elim
end
end MN
namespace MN
open PySem PySem.Spec L2
open PyProof.Rows hiding St
inductive gg (X:Cx) (scope:Scope):List (Str × Addr) → List Nat → Prop
 | nil:gg X scope [] []
 | cons {y:Str} {c:Addr} {j:Nat} {cl:List (Str × Addr)} {caps:List Nat} (sub:X.env.cells.lookup y = some c) (hX:X.N[j]? = some y) (hk:X.env.kindOf y = some .cell ∨ X.env.kindOf y = some .free)
   (hr:(relabel scope X.env).names.lookup y = some .cell ∨ (relabel scope X.env).names.lookup y = some .free) (r:gg X scope cl caps):gg X scope ((y,c) :: cl) (j :: caps)
theorem gg.sub {X:Cx} {scope:Scope} {cl:List (Str × Addr)} {caps:List Nat} (A:gg X scope cl caps):∀ x c,cl.lookup x = some c → X.env.cells.lookup x = some c:=by
 induction A with
 | nil => intro x c h; cases h
 | @cons y c0 _ _ _ sub _ _ _ _ ih =>
  intro x c h
  rw [List.lookup_cons] at h
  by_cases e:x = y
  ·rw [beq_iff_eq.mpr e] at h
   rw [e]; exact sub.trans h
  ·rw [beq_eq_false_iff_ne.mpr e] at h
   exact ih x c h
theorem gg.at_ {X:Cx} {scope:Scope} {cl:List (Str × Addr)} {caps:List Nat} (A:gg X scope cl caps):∀ (i j:Nat) (x:Str),caps[i]? = some j → (cl.map (·.1))[i]? = some x →
  X.N[j]? = some x ∧ (X.env.kindOf x = some .cell ∨ X.env.kindOf x = some .free) ∧ ((relabel scope X.env).names.lookup x = some .cell ∨ (relabel scope X.env).names.lookup x = some .free):=by
 induction A with
 | nil => intro i j x h; cases h
 | cons _ hX hk hr _ ih =>
  intro i j x h h2
  cases i with
  | zero => cases h; cases h2; exact ⟨hX,hk,hr⟩
  | succ i => exact ih i j x h h2
theorem gh:∀ {cl:List (Str × Addr)} {x:Str},x ∈ cl.map (·.1) → ∃ c,cl.lookup x = some c
 | [],x,h => by simp at h
 | (y,c) :: cl,x,h => by
  by_cases e:x = y
  ·exact ⟨c,by simp [e]⟩
  ·have e':(x == y) = false:=by simpa using e
   rw [List.map_cons,List.mem_cons] at h
   rcases h with h | h
   ·exact absurd h e
   ·obtain ⟨d,hd⟩:=gh h
    exact ⟨d,by simp only [List.lookup_cons,e']; exact hd⟩
theorem sR {X:Cx} {N:List Str} {scope:Scope} {k:Nat} {cl:List (Str × Addr)} {caps:List Nat} (su:closureFor scope X.env = pure cl) (A:gg X scope cl caps) (has:((relabel scope X.env).names.all fun p => !(p.2 == .cell || p.2 == .free) || (cl.map (·.1)).contains p.1) = true)
  (fJ:(scope.names.all fun p => !(p.2 == .cell)) = true) (kind:scope.kind = .function) (names:(scope.names.all fun p => !(p.2 == .local) || scope.names.lookup p.1 == some .local) = true) (len:N.length = k + caps.length) (hN:N.drop k = cl.map (·.1)):sq X N scope cl k caps where
 su:=su
 sub:=A.sub
 has:=fun x h => by
  have m:x ∈ cl.map (·.1):=by
   rcases h with h | h <;> (have m:=PySem.mem_of_lookup h; have z:=List.all_eq_true.mp has _ m; simpa using z)
  exact gh m
 fJ:=fun x hx h => by
  have z:=List.all_eq_true.mp fJ x hx
  simp [h] at z
 kind:=kind
 names:=fun x hx h => by
  have z:=List.all_eq_true.mp names x hx
  simpa [h] using z
 len:=len
 at_:=fun i j x h1 h2 => A.at_ i j x h1 (by rw [← hN,List.getElem?_drop]; exact h2)
noncomputable def FnAt (P:Program) (w:World) (K:PySem.W.Frag) (mg:Str → Option Value) (base:Heap) (x:Str) (k:Nat) (f:FN):Prop :=
 ∃ fa fd ps,kC P w K mg base (jx P w) k fa fd ps (En ⟨K,mg,[]⟩ f) ∧ mg x = some (.ref fa) ∧ PySem.W.keepIn K (.ref fa) = true ∧ Binds K fd ps []
section
variable {X:Cx} {E:XK} {pos p:Pos} {e:Expr} {es:List Expr} {ms:MA} {f:FN} {x:Str} {k j:Nat}
theorem bq (G:FnAt X.prog X.w X.K X.mg X.base x k f) (hr:cY j X.A) (hk:k ≤ j) (hg:Gl X x) (hx:Passes (jx X.prog X.w) X E) (ha:PA X (e :: es) (tL X E ms)) (jB:(x == ("__debug__":Str)) = false:=by decide)
  (he:starEach (e :: es) X.env = (false,eval e X.env) :: starEach es X.env:=by rfl) (iG:(backTo pos (starEach es X.env)).any (·.1) = false:=by rfl):PE X (.Call (.Name x p) (e :: es) [] pos) (tE X E (ao f ms)):=by
 obtain ⟨fa,fd,ps,F,hm,kp,b⟩:=G
 exact CI F (hr.mono hk) hg hm kp b hx ha jB he iG
theorem uW (G:FnAt X.prog X.w X.K X.mg X.base x k f) (hr:cY j X.A) (hk:k ≤ j) (hg:Gl X x) (o7:∀ y,X.fn y = true) (ha:∀ W,PA (X.jz W) (e :: es) (tL X E0 ms)) (jB:(x == ("__debug__":Str)) = false:=by decide)
  (he:starEach (e :: es) X.env = (false,eval e X.env) :: starEach es X.env:=by rfl) (iG:(backTo pos (starEach es X.env)).any (·.1) = false:=by rfl):qP X (.Call (.Name x p) (e :: es) [] pos) (Er X (ao f (zO ms))):=by
 obtain ⟨fa,fd,ps,F,hm,kp,b⟩:=G
 exact zQ F (hr.mono hk) hg hm kp b o7 ha jB he iG
end
section
variable {P:Program} {w:World} {K:PySem.W.Frag} {mg:Str → Option Value} {base:Heap}
theorem FnAt.mk {x:Str} {st:Stmt} {f:Addr} {fd:FuncData} {N ps:List Str} {k:Nat} {body:MB} (F:jw K x x st f fd) (hm:mg x = some (.ref f)) (S:bc N ps (aq st))
  (hb:∀ (kV doc pm:Value) (an:Option Addr) (dk ct:Value) (us:List Value),us.length = ps.length → bindArgs (PySem.W.fnOf x x (bb st) (aO st) (aq st) .none kV doc pm an dk ct) ⟨us,[]⟩ = pure (ps.zip us))
  (h:∀ (dk:Value) (A:Around) (outer:List PySem.Env) (s:Shared) (H:Hp) (E:XK),cY k (A.deeper (envOfC x (aq st) s.heap.objs.size f dk)) →
   i_ (f_ (jx P w) P w K mg base N x (aq st) f dk A outer s H E) (aO st) (tS (f_ (jx P w) P w K mg base N x (aq st) f dk A outer s H E) E body)):FnAt P w K mg base x (k + 1) (iI ps.length N.length body) :=
 ⟨f,fd,ps,zA F S h,hm,F.kp,F.binds hb⟩
theorem gw {N:List Str} {qual:Str} {scope:Scope} {f:Addr} {cd:Value} {A:Around} {outer:List PySem.Env} {s₀:Shared} {H₀:Hp} {E:XK}:PassesOwn (model P w) (A.deeper (envOfC qual scope s₀.heap.objs.size f cd)) (envOfC qual scope s₀.heap.objs.size f cd) (f_ (jx P w) P w K mg base N qual scope f cd A outer s₀ H₀ E).xe :=
 PassesOwn.leaving
theorem nO {N:List Str} {qual:Str} {scope:Scope} {f:Addr} {cd:Value} {A:Around} {outer:List PySem.Env} {s₀:Shared} {H₀:Hp} {E:XK}:Raises (f_ (jx P w) P w K mg base N qual scope f cd A outer s₀ H₀ E) E :=
 fun pins σ H s h' e cls vs I hx hE => xb I hx hE
theorem Glob.str {x z:Str} {t:Tok} (h:mg x = some (.str z t)):Glob K mg x (.str z):=⟨_,.str z,h,⟨t,rfl⟩,fun _ _ => Rl.mkStr z⟩
end
end MN
namespace MN
open PySem PySem.Spec L2
open PyProof.Rows hiding St
theorem gi:bootBuiltins "ValueError" = some (.type "ValueError"):=by decide +kernel
abbrev Lo:List Value:=[.type "ValueError",.type "Exception",.type "BaseException",.type "object"]
noncomputable def uX (K:PySem.W.Frag) (mg:Str → Option Value) (x:Str):Prop:=∃ C,mg x = some (.ref C) ∧ PySem.W.excIn K C Lo "ValueError.__new__" = true ∧ PySem.W.subIn K (.ref C) (.type "BaseException") = some true
theorem fE {K:PySem.W.Frag} {D:Addr} {t:Value} {cd:ClassData} {b:Bool} (h1:PySem.W.clsIn K D = some cd) (h2:PySem.W.typeIn K (.ref D) = some (.type "type")) (h3:PySem.W.subIn K t (.ref D) = some b):PySem.W.kitCls K t (.ref D) = some b:=by
 show (if ((PySem.W.clsIn K D).isSome && PySem.W.typeIn K (.ref D) == some (.type "type")) = true then PySem.W.subIn K t (.ref D) else none) = some b
 rw [h1,h2,h3]
 rfl
inductive eO (K:PySem.W.Frag) (mg:Str → Option Value):List (Str × Str × Bool) → Prop
 | nil:eO K mg []
 | own {c x:Str} {b:Bool} {C D:Addr} {r:List (Str × Str × Bool)} (h1:mg c = some (.ref C)) (h2:mg x = some (.ref D)) (h3:PySem.W.kitCls K (.ref C) (.ref D) = some b) (hr:eO K mg r):eO K mg ((c,x,b) :: r)
 | blt {c x:Str} {n:String} {C:Addr} {r:List (Str × Str × Bool)} (h1:mg c = some (.ref C)) (h2:mg x = none) (Lp:bootBuiltins x = some (.type n)) (h3:PySem.W.kitOne K (.ref C) (.type n) = some true) (hr:eO K mg r):eO K mg ((c,x,true) :: r)
noncomputable def fU (tab:List (Str × Str × Bool)) (c x:Str):Option Bool:=match tab with
 | [] => none
 | (c',x',b) :: r => if c' = c ∧ x' = x then some b else fU r c x
section
variable {K:PySem.W.Frag} {mg:Str → Option Value}
theorem eO.JB {tab:List (Str × Str × Bool)} (S:eO K mg tab):Gx K mg (fU tab):=by
 induction S with
 | nil => intro c x b C D h; cases h
 | @own c' x' _ _ _ _ h1 h2 h3 _ ih =>
  intro c x b C D h e1 e2
  rw [fU] at h
  by_cases z:c' = c ∧ x' = x
  ·rw [if_pos z] at h
   cases h
   rw [z.1,e1] at h1; cases h1
   rw [z.2,e2] at h2; cases h2
   exact h3
  ·rw [if_neg z] at h
   exact ih c x b C D h e1 e2
 | @blt c' x' _ _ _ h1 h2 _ _ _ ih =>
  intro c x b C D h e1 e2
  rw [fU] at h
  by_cases z:c' = c ∧ x' = x
  ·rw [z.2,e2] at h2; cases h2
  ·rw [if_neg z] at h
   exact ih c x b C D h e1 e2
theorem eO.Nq {tab:List (Str × Str × Bool)} (S:eO K mg tab):∀ (x:Str) (cv:Value),(∃ D,cv = .ref D ∧ mg x = some (.ref D)) ∨ (∃ n,cv = .type n ∧ bootBuiltins x = some (.type n) ∧ mg x = none) → JA K mg (fU tab) x cv:=by
 induction S with
 | nil => intro x cv _ c C h; cases h
 | @own c' x' _ _ _ _ h1 h2 h3 _ ih =>
  intro x cv hx c C h e1
  rw [fU] at h
  by_cases z:c' = c ∧ x' = x
  ·rw [if_pos z] at h
   cases h
   rw [z.1,e1] at h1; cases h1
   rw [z.2] at h2
   rcases hx with ⟨D,rfl,e2⟩ | ⟨n,rfl,_,e2⟩
   ·rw [h2] at e2; cases e2
    unfold PySem.W.kitOne
    split
    ·rfl
    ·exact h3
   ·rw [h2] at e2; cases e2
  ·rw [if_neg z] at h
   exact ih x cv hx c C h e1
 | @blt c' x' _ _ _ h1 h2 Lp h3 _ ih =>
  intro x cv hx c C h e1
  rw [fU] at h
  by_cases z:c' = c ∧ x' = x
  ·rw [if_pos z] at h
   cases h
   rw [z.1,e1] at h1; cases h1
   rw [z.2] at h2 Lp
   rcases hx with ⟨D,rfl,e2⟩ | ⟨n,rfl,e2,_⟩
   ·rw [h2] at e2; cases e2
   ·rw [Lp] at e2; cases e2; exact h3
  ·rw [if_neg z] at h
   exact ih x cv hx c C h e1
noncomputable def Es (l:List Str) (c:Str):Bool:=l.contains c
theorem zU {l:List Str} (h:∀ c ∈ l,uX K mg c):Known mg (Es l):=fun c hc => by
 have:c ∈ l:=by simpa [Es] using hc
 obtain ⟨C,h1,_⟩:=h c this
 exact ⟨C,h1⟩
end
section
variable {X:Cx} {E:XK} {pos np cu p q1 q2:Pos} {x n:Str} {e₀:Expr} {es:List Expr} {ms:MA} {i:Nat} {b₀:Stmt} {dN:List Stmt} {rest:List ExceptHandler} {tab:List (Str × Str × Bool)} {s:MB} {r:MH}
theorem pW (hX:Raises X E) (hc:X.calm = true) (h:uX X.K X.mg x) (hg:Gl X x) (ha:PA X (e₀ :: es) (tL X E ms))
  (he:starEach (e₀ :: es) X.env = (false,eval e₀ X.env) :: starEach es X.env:=by rfl) (iG:(backTo cu (starEach es X.env)).any (·.1) = false:=by rfl) (hd:(x == ("__debug__":Str)) = false:=by decide) :
  PS X (.Raise (some (.Call (.Name x np) (e₀ :: es) [] cu)) none pos) (tS X E (jg x ms)):=by
 obtain ⟨C,hm,hq,_⟩:=h
 exact zz hX hc hm hq PySem.F.excBase_ValueError hg ha he iG hd
theorem nP (hS:eO X.K X.mg tab) (h:uX X.K X.mg x) (hg:Gl X x) (hs:∀ ea oe,i_ (L2.mE X ea oe) (b₀ :: dN) (tS (L2.mE X ea oe) E0 s)) (hr:PH X rest (zS X r)) (hd:(x == ("__debug__":Str)) = false:=by decide) :
  PH X (.ExceptHandler (some (.Name x np)) none (b₀ :: dN) pos :: rest) (zS X (i4 (fU tab) x s r)):=by
 obtain ⟨C,hm,_,hB⟩:=h
 exact CV hS.JB hg hm hB hs hr hd
theorem Gz (hS:eO X.K X.mg tab) (hN:X.N.Nodup) (h:uX X.K X.mg x) (hg:Gl X x) (hs:∀ ea oe,i_ (L2.mE X ea oe) (b₀ :: dN) (tS (L2.mE X ea oe) E0 s)) (hr:PH X rest (zS X r)) (hi:X.N[i]? = some n:=by rfl) (hl:X.env.scope.names.lookup n = some .local:=by rfl) (hd:(x == ("__debug__":Str)) = false:=by decide) :
  PH X (.ExceptHandler (some (.Name x np)) (some n) (b₀ :: dN) pos :: rest) (zS X (HS (fU tab) x i s r)):=by
 obtain ⟨C,hm,_,hB⟩:=h
 exact Jz hS.JB hN hi hl hg hm hB hs hr hd
theorem CW (i:Nat) {T:String} (hS:eO X.K X.mg tab) (Rv:X.mg x = none) (hb:bootBuiltins x = some (.type T)) (hg:Gl X "isinstance") (hm:X.mg "isinstance" = none) (Lm:Gl X x) (hN:X.N[i]? = some n:=by rfl) (hv:EW X.env.scope n:=by first | exact Or.inl rfl | exact Or.inr (Or.inl rfl)) (hn:x ≠ "__name__":=by decide)
  (hd:(n == ("__debug__":Str)) = false:=by decide) (m6:(n == ("__classdict__":Str)) = false:=by decide) (Ln:(x == ("__debug__":Str)) = false:=by decide)
  (hs:starEach [.Name n q1,.Name x q2] X.env = (false,eval (.Name n q1) X.env) :: starEach [.Name x q2] X.env:=by rfl) (gP:starEach [.Name x q2] X.env = (false,eval (.Name x q2) X.env) :: starEach [] X.env:=by rfl)
  (iG:(backTo pos (starEach [.Name x q2] X.env)).any (·.1) = false:=by rfl):PE X (.Call (.Name "isinstance" p) [.Name n q1,.Name x q2] [] pos) (tE X E (xr (fU tab) i x)) :=
 Gy (.blt Rv hb hn) (hS.Nq x _ (.inr ⟨T,rfl,hb,Rv⟩)) hg hm Lm hN hv hd m6 Ln hs gP iG
end
end MN
namespace MN
open PySem PySem.Spec L2
open PyProof.Rows hiding St
section
variable {κ:Type} [DecidableEq κ]
noncomputable def qY (aI:List (κ × Val)) (k:κ):Option Val:=(aI.find? fun kv => decide (kv.1 = k)).map (·.2)
noncomputable def xt (aI:List (κ × Val)) (k:κ) (v:Val):List (κ × Val) :=
 if (aI.any fun kv => decide (kv.1 = k)) = true then aI.map (fun kv => if kv.1 = k then (kv.1,v) else kv) else aI ++ [(k,v)]
variable {K:PySem.W.Frag} {ρ ρ':List Addr} {H H':Hp}
theorem gq.nil:gq K ρ H ([]:List (κ × Val)) []:=⟨rfl,aN.nil⟩
theorem gq.cons {k:κ} {u:Val} {v:V} {aI:List (κ × Val)} {iV:List (κ × V)} (r:Rl K ρ H u v) (p:gq K ρ H aI iV):gq K ρ H ((k,u) :: aI) ((k,v) :: iV) :=
 ⟨by simp only [List.map_cons,p.1],aN.cons r p.2⟩
theorem gq.bM {k:κ} {u:Val} {aI:List (κ × Val)} {l:List (κ × V)} (p:gq K ρ H ((k,u) :: aI) l):∃ v iV,l = (k,v) :: iV ∧ Rl K ρ H u v ∧ gq K ρ H aI iV:=by
 obtain ⟨h1,h2⟩:=p
 cases l with
 | nil => simp at h1
 | cons x l =>
  obtain ⟨k',v⟩:=x
  simp only [List.map_cons,List.cons.injEq] at h1 h2
  obtain ⟨rfl,h1⟩:=h1
  obtain ⟨v',r,e,q1,q2⟩:=h2.bM
  simp only [List.cons.injEq] at e
  obtain ⟨rfl,rfl⟩:=e
  exact ⟨v,l,rfl,q1,h1,q2⟩
theorem gq.dO {l:List (κ × V)} (p:gq K ρ H ([]:List (κ × Val)) l):l = []:=by
 have:=p.1
 cases l with
 | nil => rfl
 | cons => simp at this
theorem gq.mono {aI:List (κ × Val)} {l:List (κ × V)} (p:gq K ρ H aI l) (e:Step ρ H ρ' H'):gq K ρ' H' aI l:=⟨p.1,aN.mono e _ _ p.2⟩
theorem gq.length {aI:List (κ × Val)} {l:List (κ × V)} (p:gq K ρ H aI l):aI.length = l.length:=by
 have:=congrArg List.length p.1
 simpa using this
theorem gq.val (k:κ):∀ {aI:List (κ × Val)} {l:List (κ × V)},gq K ρ H aI l → (qY aI k = none ∧ gN l k = none) ∨ ∃ u v,qY aI k = some u ∧ gN l k = some v ∧ Rl K ρ H u v
 | [],l,p => by rw [p.dO]; exact .inl ⟨rfl,rfl⟩
 | (k',u) :: aI,l,p => by
  obtain ⟨v,l',rfl,r,p'⟩:=p.bM
  by_cases e:k' = k
  ·exact .inr ⟨u,v,by simp [qY,e],by simp [gN,e],r⟩
  ·rcases gq.val k p' with ⟨h1,h2⟩ | ⟨u',v',h1,h2,h3⟩
   ·exact .inl ⟨by simpa [qY,e] using h1,by simpa [gN,e] using h2⟩
   ·exact .inr ⟨u',v',by simpa [qY,e] using h1,by simpa [gN,e] using h2,h3⟩
theorem gq.any (k:κ):∀ {aI:List (κ × Val)} {l:List (κ × V)},gq K ρ H aI l → (aI.any fun kv => decide (kv.1 = k)) = l.any fun kv => decide (kv.1 = k)
 | [],l,p => by rw [p.dO]; rfl
 | (k',u) :: aI,l,p => by
  obtain ⟨v,l',rfl,r,p'⟩:=p.bM
  simp only [List.any_cons,gq.any k p']
theorem gq.qJ (k:κ) {u:Val} {v:V} (r:Rl K ρ H u v):∀ {aI:List (κ × Val)} {l:List (κ × V)},gq K ρ H aI l → gq K ρ H (aI.map fun kv => if kv.1 = k then (kv.1,u) else kv) (l.map fun kv => if kv.1 = k then (kv.1,v) else kv)
 | [],l,p => by rw [p.dO]; exact gq.nil
 | (k',u') :: aI,l,p => by
  obtain ⟨v',l',rfl,r',p'⟩:=p.bM
  simp only [List.map_cons]
  by_cases e:k' = k
  ·rw [if_pos e,if_pos e]; exact gq.cons r (gq.qJ k r p')
  ·rw [if_neg e,if_neg e]; exact gq.cons r' (gq.qJ k r p')
theorem gq.snoc {k:κ} {u:Val} {v:V} (r:Rl K ρ H u v):∀ {aI:List (κ × Val)} {l:List (κ × V)},gq K ρ H aI l → gq K ρ H (aI ++ [(k,u)]) (l ++ [(k,v)])
 | [],l,p => by rw [p.dO]; exact gq.cons r gq.nil
 | (k',u') :: aI,l,p => by
  obtain ⟨v',l',rfl,r',p'⟩:=p.bM
  exact gq.cons r' (gq.snoc r p')
theorem gq.put (k:κ) {u:Val} {v:V} (r:Rl K ρ H u v) {aI:List (κ × Val)} {l:List (κ × V)} (p:gq K ρ H aI l):gq K ρ H (xt aI k u) (putK l k v):=by
 unfold xt putK
 rw [p.any k]
 split
 ·exact p.qJ k r
 ·exact p.snoc r
end
noncomputable def keyOf:Val → Option Key
 | .int i => some (.inl i)
 | .str x => some (.inr x)
 | _ => none
noncomputable def keysOf:List Val → Option (List Key)
 | [] => some []
 | u :: us => match keyOf u,keysOf us with
  | some k,some ks => some (k :: ks)
  | _,_ => none
noncomputable def kJ:Val → Option (List Key)
 | .tup us => keysOf us
 | _ => none
section
variable {K:PySem.W.Frag} {ρ:List Addr} {H:Hp}
theorem qZ {u:Val} {v:V} {k:Key} (r:Rl K ρ H u v) (h:keyOf u = some k):v = kV k:=by
 cases u with
 | int i => cases h; exact r.cA
 | str x => cases h; exact r.ij
 | _ => cases h
theorem sS:∀ {us:List Val} {vs:List V} {ks:List Key},aN K ρ H us vs → keysOf us = some ks → vs = ks.map kV
 | [],vs,ks,r,h => by cases h; exact r.dO
 | u :: us,vs,ks,r,h => by
  obtain ⟨v,r',rfl,h2,h3⟩:=r.bM
  unfold keysOf at h
  split at h
  ·rename_i k WC e1 e2
   cases h
   rw [qZ h2 e1,sS h3 e2]; rfl
  ·cases h
theorem sT {u:Val} {v:V} {ks:List Key} (r:Rl K ρ H u v) (h:kJ u = some ks):∃ b,v = .ref b ∧ H b = some (.tup (ks.map kV)):=by
 cases u with
 | tup us =>
  obtain ⟨b,vs,rfl,hb,rb⟩:=r.Jr
  rw [sS rb h] at hb
  exact ⟨b,rfl,hb⟩
 | _ => cases h
end
noncomputable def lX (st:ai) (d k:Val):Option (Option Val):=match d with
 | .loc n => match st[n]? with
  | some (.dK aI) => (keyOf k).map fun q => qY aI q
  | some (.dT aI) => (kJ k).map fun q => qY aI q
  | _ => none
 | _ => none
noncomputable def kK (st:ai) (d k v:Val):Option ai:=match d with
 | .loc n => match st[n]? with
  | some (.dK aI) => if aI.length < sizeLine then (keyOf k).map fun q => st.set n (.dK (xt aI q v)) else none
  | some (.dT aI) => if aI.length < sizeLine then (kJ k).map fun q => st.set n (.dT (xt aI q v)) else none
  | _ => none
 | _ => none
theorem pX {K:PySem.W.Frag} {ρ:List Addr} {st:ai} {H:Hp} {d k:Val} {x y:V} {o:Option Val} (sr:SR K ρ st H) (rd:Rl K ρ H d x) (rk:Rl K ρ H k y) (h:lX st d k = some o) :
  ∃ a o',x = .ref a ∧ mB H a y o' ∧ K6 H a ∧ ((o = none ∧ o' = none) ∨ ∃ u v,o = some u ∧ o' = some v ∧ Rl K ρ H u v):=by
 cases d with
 | loc n =>
  obtain ⟨a,rfl,ha⟩:=rd.dF
  unfold lX at h
  dsimp only at h
  split at h
  ·rename_i aI e
   obtain ⟨l,hl,p⟩:=sr.cell n _ a e ha
   cases z:keyOf k with
   | none => rw [z] at h; cases h
   | some q =>
    rw [z] at h
    cases h
    have:=qZ rk z
    subst this
    exact ⟨a,gN l q,rfl,mB.k hl,.inl ⟨l,.inl hl⟩,p.val q⟩
  ·rename_i aI e
   obtain ⟨l,hl,p⟩:=sr.cell n _ a e ha
   cases z:kJ k with
   | none => rw [z] at h; cases h
   | some q =>
    rw [z] at h
    cases h
    obtain ⟨b,rfl,hb⟩:=sT rk z
    exact ⟨a,gN l q,rfl,mB.t hl hb,.inr ⟨l,.inl hl⟩,p.val q⟩
  ·cases h
 | _ => cases h
theorem uZ {K:PySem.W.Frag} {ρ:List Addr} {st av:ai} {H:Hp} {d k v:Val} {x y z:V} (sr:SR K ρ st H) (rd:Rl K ρ H d x) (rk:Rl K ρ H k y) (rv:Rl K ρ H v z) (h:kK st d k v = some av) :
  ∃ a H',x = .ref a ∧ qL H a y z H' ∧ Step ρ H ρ H' ∧ SR K ρ av H':=by
 cases d with
 | loc n =>
  obtain ⟨a,rfl,ha⟩:=rd.dF
  unfold kK at h
  dsimp only at h
  split at h
  ·rename_i aI e
   obtain ⟨l,hl,p⟩:=sr.cell n _ a e ha
   split at h
   ·rename_i hz
    cases zk:keyOf k with
    | none => rw [zk] at h; cases h
    | some q =>
     rw [zk] at h
     cases h
     have:=qZ rk zk
     subst this
     have aX:Step ρ H ρ (upd H a (.dK (putK l q z))):=Step.put hl (fun _ z => by cases z) (fun _ _ z => by cases z)
     exact ⟨a,_,rfl,qL.k hl (by rw [← p.length]; exact hz),aX,sr.set e rfl rfl ha hl (fun _ z => by cases z) (fun _ _ z => by cases z) ⟨_,aZ,(p.put q rv).mono aX⟩⟩
   ·cases h
  ·rename_i aI e
   obtain ⟨l,hl,p⟩:=sr.cell n _ a e ha
   split at h
   ·rename_i hz
    cases zk:kJ k with
    | none => rw [zk] at h; cases h
    | some q =>
     rw [zk] at h
     cases h
     obtain ⟨b,rfl,hb⟩:=sT rk zk
     have aX:Step ρ H ρ (upd H a (.dT (putK l q z))):=Step.put hl (fun _ z => by cases z) (fun _ _ z => by cases z)
     exact ⟨a,_,rfl,qL.t hl hb (by rw [← p.length]; exact hz),aX,sr.set e rfl rfl ha hl (fun _ z => by cases z) (fun _ _ z => by cases z) ⟨_,aZ,(p.put q rv).mono aX⟩⟩
   ·cases h
  ·cases h
 | _ => cases h
noncomputable def nQ:ME:=fun _ st => .ok (.loc st.length) (st ++ [.dT []])
noncomputable def ip:F2:=fun d k st => match lX st d k with
 | some (some v) => .ok v st
 | _ => .bad
noncomputable def TJ (neg:Bool):F2:=fun k d st => match lX st d k with
 | some o => .ok (.bl (if neg then !o.isSome else o.isSome)) st
 | none => .bad
noncomputable def xu (st:ai):Val → Bool
 | .loc n => match st[n]? with
  | some (.dK _) => true
  | some (.dT _) => true
  | _ => false
 | _ => false
noncomputable def kL (d k x:ME):ME:=fun μ st => (d μ st).bind fun dv aX => if xu aX dv = true then (k μ aX).bind fun kv cg => (x μ cg).bind fun xv iY => match lX iY dv kv with
 | some o => .ok (o.getD xv) iY
 | none => .bad else .bad
noncomputable def nR (d k v:ME):MB:=fun μ st => (v μ st).sb μ fun vv aX => (d μ aX).sb μ fun dv cg => (k μ cg).sb μ fun kv iY => match kK iY dv kv vv with
 | some uw => .nx μ uw
 | none => .bad
section
variable {X:Cx} {E:XK} {pos pos' apos cu:Pos} {o i e f value:Expr} {md mk mv mx:ME}
theorem zV {K:PySem.W.Frag} {ρ:List Addr} {st:ai} {H:Hp} (sr:SR K ρ st H) {p:Addr} (hp:H p = none) {ob:HO} {c:Cell} (k:dP K (ρ ++ [p]) (upd H p ob) c p) :
  Step ρ H (ρ ++ [p]) (upd H p ob) ∧ SR K (ρ ++ [p]) (st ++ [c]) (upd H p ob) ∧ Rl K (ρ ++ [p]) (upd H p ob) (.loc st.length) (.ref p):=by
 refine ⟨Step.snoc p (cD hp),sr.alloc hp k,Rl.zw ?_⟩
 rw [← sr.len,List.getElem?_append_right (Nat.le_refl _),Nat.sub_self]
 rfl
theorem zW:PE X (.Dict [] [] pos) (tE X E nQ):=by
 refine PE.imp yU ?_
 rintro σ H Q ⟨μ,ρ,st,rs,sr,h⟩ p hp
 obtain ⟨k1,k2,k3⟩:=zV (c:=.dT []) sr hp ⟨[],aZ,gq.nil⟩
 exact h _ _ _ k1 k2 k3
theorem v9 (hu:X.A.units + 64 < cLine) (ho:PE X o (tE X E md)) (hi:PE X i (tE X E mk)) (hs:FR i:=by exact fun _ _ => rfl):PE X (.Subscript o i pos) (tE X E (ah ip md mk)):=by
 refine PE.imp (Ce (by lia) ho hi hs) ?_
 rintro σ H Q ⟨μ,ρ,st,rs,sr,h⟩
 refine go μ ρ st rs sr h fun d aX ρ1 H1 x e1 bR r1 h1 => ?_
 refine go μ ρ1 aX (rs.mono e1) bR h1 fun k cg ρ2 H2 y e2 mF r2 h2 => ?_
 unfold ip at h2
 split at h2
 ·rename_i u hl
  obtain ⟨a,o',rfl,hd,_,hv⟩:=pX mF (Rl.mono e2 _ _ r1) r2 hl
  rcases hv with ⟨z,_⟩ | ⟨u',v,z,rfl,rv⟩
  ·cases z
  ·cases z
   exact ⟨a,v,rfl,hd,h2 ρ2 H2 v (Step.refl _ _) mF rv⟩
 ·exact h2.elim
theorem CY {K:PySem.W.Frag} {ρ:List Addr} {st:ai} {H:Hp} {d:Val} {x:V} (sr:SR K ρ st H) (r:Rl K ρ H d x) (h:xu st d = true):∃ a,x = .ref a ∧ K6 H a:=by
 cases d with
 | loc n =>
  obtain ⟨a,rfl,ha⟩:=r.dF
  obtain ⟨c,hc,kc⟩:=sr.there ha
  simp only [xu,hc] at h
  cases c with
  | dK aI => obtain ⟨l,hl,_⟩:=kc; exact ⟨a,rfl,.inl ⟨l,.inl hl⟩⟩
  | dT aI => obtain ⟨l,hl,_⟩:=kc; exact ⟨a,rfl,.inr ⟨l,.inl hl⟩⟩
  | _ => cases h
 | _ => cases h
theorem zZ (hu:X.A.units + 64 < cLine) (ho:PE X o (tE X E md)) (he:PE X e (tE X E mk)) (hf:PE X f (tE X E mx)) (m:M2 X o "get" apos e f cu:=by exact ⟨rfl,rfl,rfl,rfl⟩):PE X (.Call (.Attribute o "get" apos) [e,f] [] cu) (tE X E (kL md mk mx)):=by
 refine PE.imp (yV (by lia) ho he hf m) ?_
 rintro σ H Q ⟨μ,ρ,st,rs,sr,h⟩
 refine go μ ρ st rs sr h fun d aX ρ1 H1 x e1 bR r1 h1 => ?_
 split at h1
 ·rename_i hd
  obtain ⟨a,rfl,ia⟩:=CY bR r1 hd
  refine ⟨a,rfl,ia,?_⟩
  refine go μ ρ1 aX (rs.mono e1) bR h1 fun k cg ρ2 H2 y e2 mF r2 h2 => ?_
  refine go μ ρ2 cg ((rs.mono e1).mono e2) mF h2 fun xv iY ρ3 H3 z e3 xq r3 h3 => ?_
  split at h3
  ·rename_i ov hl
   obtain ⟨a',o',ea,LY,_,hv⟩:=pX xq (Rl.mono (e2.trans e3) _ _ r1) (Rl.mono e3 _ _ r2) hl
   cases ea
   refine ⟨o',LY,?_⟩
   rcases hv with ⟨rfl,rfl⟩ | ⟨u,v,rfl,rfl,rv⟩
   ·exact h3 ρ3 H3 z (Step.refl _ _) xq r3
   ·exact h3 ρ3 H3 v (Step.refl _ _) xq rv
  ·exact h3.elim
 ·exact h1.elim
theorem CZ (hu:X.A.units + 64 < cLine) (ho:PE X o (tE X E md)) (hi:PE X i (tE X E mk)) (hv:PE X value (tE X E mv)) (hs:swapsWith value (some (.Subscript o i pos')) pos.line X.env = pure false:=by rfl) :
  PS X (.Assign [.Subscript o i pos'] value pos) (tS X E (nR md mk mv)):=by
 refine PS.imp (Cf (by lia) ho hi hv hs) ?_
 rintro D σ H ⟨μ,ρ,st,rs,sr,h⟩
 refine CJ μ ρ st rs sr h fun v aX ρ1 H1 z e1 bR r1 h1 => ?_
 refine CJ μ ρ1 aX (rs.mono e1) bR h1 fun d cg ρ2 H2 x e2 mF r2 h2 => ?_
 refine CJ μ ρ2 cg ((rs.mono e1).mono e2) mF h2 fun k iY ρ3 H3 y e3 xq r3 h3 => ?_
 split at h3
 ·rename_i uw Bw
  obtain ⟨a,H4,rfl,hd,s4,xp⟩:=uZ xq (Rl.mono e3 _ _ r2) r3 (Rl.mono (e2.trans e3) _ _ r1) Bw
  exact ⟨a,H4,rfl,hd,h3 ρ3 H4 σ s4 xp ((((rs.mono e1).mono e2).mono e3).mono s4)⟩
 ·exact h3.elim
end
section
variable {X:Cx} {E:XK} {es:List Expr} {ms:MA} {pos:Pos}
theorem dH {i j} (hr:PA X es (tL X E ms)):PA X (.Constant (.int i) j pos :: es) (tL X E (aa (mC (.int i)) ms)):=aj aw hr
theorem JC {b j} (hr:PA X es (tL X E ms)):PA X (.Constant (.bool b) j pos :: es) (tL X E (aa (mC (.bl b)) ms)):=aj jF hr
theorem u3 {j} (hr:PA X es (tL X E ms)):PA X (.Constant .none j pos :: es) (tL X E (aa (mC .da) ms)):=aj Gg hr
theorem fM {x j} (hr:PA X es (tL X E ms)):PA X (.Constant (.str x) j pos :: es) (tL X E (aa (mC (.str x)) ms)):=aj je hr
theorem bw {a b:Expr} {ma mb:ME} (ha:PE X a (tE X E ma)) (hb:PE X b (tE X E mb)) (hs:qC b:=by exact fun _ _ => rfl):PE X (.Subscript a b pos) (tE X E (ah bK ma mb)):=Jv Nk ha hb hs
end
end MN
namespace MN
open PySem PySem.Spec L2
open PyProof.Rows hiding St
noncomputable def mI (us:List Val) (lo hi:Option Int):List Val:=(us.drop (HT.cN us.length 0 lo)).take (HT.cN us.length us.length hi - HT.cN us.length 0 lo)
theorem aN.cut {K:PySem.W.Frag} {ρ:List Addr} {H:Hp} {us:List Val} {vs:List V} (r:aN K ρ H us vs) (lo hi:Option Int):aN K ρ H (mI us lo hi) (qx vs lo hi):=by
 unfold mI qx
 rw [r.length]
 exact aN.take _ (aN.drop _ r)
noncomputable abbrev MO:=Env → ai → Res (Option Int)
noncomputable abbrev RO:List Addr → Hp → Option Int → Option Int → Prop:=fun _ _ a b => b = a
noncomputable abbrev Lq (X:Cx) (E:XK) (m:MO):TO:=tG (wo X) E RO m
noncomputable def ft:MO:=fun _ st => .ok none st
noncomputable def fu (m:ME):MO:=fun μ st => (m μ st).bind fun v av => match v with
 | .int i => .ok (some i) av
 | _ => .bad
noncomputable def Lr (lo hi:Option Int):Val → ai → Res Val
 | .tup us,st => if HT.cN us.length 0 lo = 0 ∧ HT.cN us.length us.length hi = us.length then .bad else .ok (.tup (mI us lo hi)) st
 | .loc n,st => match itemsOf st n with
  | some us => .ok (.loc st.length) (st ++ [.lst (mI us lo hi)])
  | none => .bad
 | _,_ => .bad
section
variable {X:Cx} {E:XK} {pos p2:Pos} {e:Expr} {m:ME}
theorem PO.imp {e:Option Expr} {t t':TO} (h:PO X e t) (k:∀ σ H Q,t' σ H Q → t σ H Q):PO X e t':=fun pins s σ H Q I q => h pins s σ H Q I (k σ H Q q)
theorem jM:PO X none (Lq X E ft):=PO.imp B4 fun σ H Q ⟨μ,ρ,st,rs,sr,h⟩ => h ρ H none (Step.refl _ _) sr rfl
theorem jN (h:PE X e (tE X E m)):PO X (some e) (Lq X E (fu m)):=by
 refine PO.imp (B5 h) ?_
 rintro σ H Q ⟨μ,ρ,st,rs,sr,h⟩
 refine go μ ρ st rs sr h fun u aX ρ1 H1 x e1 bR r1 h1 => ?_
 cases u with
 | int i => exact ⟨i,r1.cA,h1 ρ1 H1 (some i) (Step.refl _ _) bR rfl⟩
 | _ => exact h1.elim
end
noncomputable def TK:FM
 | .loc n,[],st => match st[n]? with
  | some (.lst us) => match us[us.length - 1]? with
   | some u => .ok u (st.set n (.lst us.dropLast))
   | none => .bad
  | _ => .bad
 | _,_,_ => .bad
noncomputable def Ls:FM
 | .loc n,[.loc m],st => match st[n]?,st[m]? with
  | some (.lst us),some (.lst ws) => if us.length + ws.length ≤ sizeLine then .ok .da (st.set n (.lst (us ++ ws))) else .bad
  | _,_ => .bad
 | _,_,_ => .bad
section
variable {X:Cx} {E:XK} {o:Expr} {mo:ME} {apos cu:Pos} {f:FM}
end
section
variable {X:Cx} {E:XK} {o i v:Expr} {mo mi mv:ME} {pos Ft:Pos} {f:F2}
end
section
variable {X:Cx} {E:XK} {tg:Expr} {pos p:Pos}
end
noncomputable def xw:FN
 | [.int i,.int j],st => .ok (.int (if j > i then j else i)) st
 | _,_ => .bad
section
variable {X:Cx} {E:XK}
theorem pZ (hh:X.A.handled = none):bZ X (.builtin "max") (cM (wo X) E xw):=by
 refine bZ.imp (xg hh) ?_
 rintro xs H Q ⟨ρ,st,us,sr,r,h⟩
 unfold xw at h
 split at h
 ·rename_i i j
  obtain ⟨v,w,rfl,r1,r2⟩:=r.Lg
  exact ⟨i,j,by rw [r1.cA,r2.cA],dA sr h⟩
 ·exact h.elim
end
section
variable {X:Cx} {E:XK} {o e:Expr} {es:List Expr} {mo:ME} {ms:MA} {apos cu:Pos}
theorem kM (ho:PE X o (tE X E mo)) (ha:PA X (e :: es) (tL X E ms))
  (sf:attributeBase o "append" X.env (eval o X.env) = eval o X.env:=by rfl)
  (yR:((backTo cu (starEach (e :: es) X.env)).all (fun x => !x.1) && (backToKw cu (keywordEach [] X.env)).all (fun x => x.1.isSome)
   && decide ((e :: es).length + ([]:List Keyword).length + (if ([]:List Keyword).isEmpty then 0 else 1) < 30)) = true:=by rfl)
  (sg:(apos.endLine == cu.line) = true:=by rfl) (hs:starEach (e :: es) X.env = (false,eval e X.env) :: starEach es X.env:=by rfl) (nq:(backTo cu (starEach es X.env)).any (·.1) = false:=by rfl) :
  PE X (.Call (.Attribute o "append" apos) (e :: es) [] cu) (tE X E (mH c_ mo ms)):=Gv PySem.F.slot_list_append PySem.F.type_list_append uT ho ha sf yR sg hs nq
end
end MN
namespace MN
open PySem PySem.Spec L2
open PyProof.Rows hiding St
theorem p4 {X:Cx} {N:List Str} {scope:Scope} {k:Nat} {cl cl':List (Str × Addr)} {caps caps':List Nat} (su:closureFor scope X.env = pure cl') (A:gg X scope cl caps) (B:gg X scope cl' caps') (has:((relabel scope X.env).names.all fun p => !(p.2 == .cell || p.2 == .free) || (cl'.map (·.1)).contains p.1) = true)
  (fJ:(scope.names.all fun p => !(p.2 == .cell)) = true) (kind:scope.kind = .function) (names:(scope.names.all fun p => !(p.2 == .local) || scope.names.lookup p.1 == some .local) = true) (len:N.length = k + caps.length) (hN:N.drop k = cl.map (·.1)):sq X N scope cl' k caps where
 su:=su
 sub:=B.sub
 has:=fun x h => by
  have m:x ∈ cl'.map (·.1):=by
   rcases h with h | h <;> (have m:=PySem.mem_of_lookup h; have z:=List.all_eq_true.mp has _ m; simpa using z)
  exact gh m
 fJ:=fun x hx h => by
  have z:=List.all_eq_true.mp fJ x hx
  simp [h] at z
 kind:=kind
 names:=fun x hx h => by
  have z:=List.all_eq_true.mp names x hx
  simpa [h] using z
 len:=len
 at_:=fun i j x h1 h2 => A.at_ i j x h1 (by rw [← hN,List.getElem?_drop]; exact h2)
theorem len0 {C:List Value → Prop} (h:C []) (us:List Value) (hl:us.length = 0):C us:=by
 rw [List.eq_nil_of_length_eq_zero hl]
 exact h
theorem C0 {C:List Value → Prop} {n:Nat} (h:∀ a (r:List Value),r.length = n → C (a :: r)) (us:List Value) (hl:us.length = n + 1):C us:=by
 cases us with
 | nil => cases hl
 | cons a r => exact h a r (Nat.succ.inj hl)
theorem xx {C:List Value → Prop} (h:∀ a,C [a]):∀ us:List Value,us.length = 1 → C us:=C0 fun a => len0 (C:=fun r => C (a :: r)) (h a)
theorem jO {C:List Value → Prop} (h:∀ a b,C [a,b]):∀ us:List Value,us.length = 2 → C us:=C0 fun a => xx (C:=fun r => C (a :: r)) (h a)
theorem C1 {C:List Value → Prop} (h:∀ a b c,C [a,b,c]):∀ us:List Value,us.length = 3 → C us:=C0 fun a => jO (C:=fun r => C (a :: r)) (h a)
theorem Nr {C:List Value → Prop} (h:∀ a b c d,C [a,b,c,d]):∀ us:List Value,us.length = 4 → C us:=C0 fun a => C1 (C:=fun r => C (a :: r)) (h a)
end MN
namespace L2
open PySem PySem.Spec PyProof.Rows PySem.W Builtin Builtin.ObjectAttr Builtin.Getset_descriptor PySem.Calls
section
variable {prog:Program} {w:World} {A:Around} {E:Value → Shared → Prop} {s:Shared} {K:PySem.W.Frag} {x C:Addr} {ox:Obj} {R:Result → Shared → Prop}
end
section
variable {X:Cx}
end
end L2
namespace MN
open PySem PySem.Spec L2
open PyProof.Rows hiding St
section
variable {X:Cx} {E:XK} {pos p q1 Ft:Pos} {n:Str} {i:Nat} {tab:List (Str × Str × Bool)} {qs xs:List Str} {es:List Expr} {cx:Nat}
end
end MN
namespace MN
open PySem PySem.Spec L2
open PyProof.Rows hiding St
section
variable {K:PySem.W.Frag} {ρ ρ':List Addr} {H H':Hp} {c:Addr} {o:Obj}
theorem z5 (hc:Fz H c o) {a:Addr} {vs:List V} (h:gp K H a vs):gp K (hide H c) a vs:=by
 rcases h with (h | ⟨o',h⟩) | h
 ·exact .inl (.inl (by rw [hide_ne (fun z => by rw [z,hc] at h; cases h)]; exact h))
 ·exact .inl (.inr ⟨o',by rw [hide_ne (fun z => by rw [z,hc] at h; cases h)]; exact h⟩)
 ·exact .inr h
mutual
theorem Rl.hide (hc:Fz H c o):∀ (u:Val) (v:V),Rl K ρ H u v → Rl K ρ (hide H c) u v
 | .da,_,h => h
 | .bl _,_,h => h
 | .int _,_,h => h
 | .str _,_,h => h
 | .tup us,v,h => by
  unfold Rl at h ⊢
  obtain ⟨a,vs,h1,h2,h3⟩:=h
  exact ⟨a,vs,h1,by rw [hide_ne (fun z => by rw [z,hc] at h2; cases h2)]; exact h2,aN.hide hc us vs h3⟩
 | .mt us,v,h => by
  unfold Rl at h ⊢
  obtain ⟨a,vs,h1,h2,h3⟩:=h
  exact ⟨a,vs,h1,z5 hc h2,aN.hide hc us vs h3⟩
 | .loc n,v,h => by
  unfold Rl at h ⊢
  exact h
 | .exc c,v,h => h
 | .fn _ _,_,h => h
theorem aN.hide (hc:Fz H c o):∀ (us:List Val) (vs:List V),aN K ρ H us vs → aN K ρ (hide H c) us vs
 | [],_,h => h
 | u :: us,vs,h => by
  unfold aN at h ⊢
  obtain ⟨v,r,h1,h2,h3⟩:=h
  exact ⟨v,r,h1,Rl.hide hc u v h2,aN.hide hc us r h3⟩
end
theorem dP.hide (hc:Fz H c o) (hd:∃ x,o.data = .cell x) {k:Cell} {a:Addr} (h:dP K ρ H k a):dP K ρ (hide H c) k a:=by
 have ne:∀ {b:Addr} {x:HO},H b = some x → (∀ o,x ≠ .d0 o (.own 0)) → L2.hide H c b = some x:=fun {b x} q z => by
  rw [hide_ne (fun e => by rw [e,hc] at q; exact z _ (Option.some.inj q).symm)]; exact q
 cases k with
 | lst us => obtain ⟨vs,h,r⟩:=h; exact ⟨vs,ne h (fun _ z => by cases z),aN.hide hc _ _ r⟩
 | El us => obtain ⟨x,vs,h,r⟩:=h; exact ⟨x,vs,ne h (fun _ z => by cases z),aN.hide hc _ _ r⟩
 | mod us => obtain ⟨vs,h,r⟩:=h; exact ⟨vs,h,aN.hide hc _ _ r⟩
 | dK us => obtain ⟨vs,h,r1,r2⟩:=h; exact ⟨vs,ne h (fun _ z => by cases z),r1,aN.hide hc _ _ r2⟩
 | dT us => obtain ⟨vs,h,r1,r2⟩:=h; exact ⟨vs,ne h (fun _ z => by cases z),r1,aN.hide hc _ _ r2⟩
 | tab x l cl q =>
  refine ⟨h.1,?_⟩
  rcases h.2 with h | ⟨c',oc,vs,t,h,h2,h3,h4⟩
  ·exact .inl (ne h (fun _ z => by cases z))
  ·refine .inr ⟨c',oc,vs,t,ne h (fun _ z => by cases z),?_,h3,h4⟩
   have n2:c' ≠ c:=fun z => by
    have h2:H c' = _:=h2
    rw [z,hc] at h2
    cases h2
    obtain ⟨x,hx⟩:=hd
    rw [hx] at h3
    cases h3
   show L2.hide H c c' = _
   rw [hide_ne n2]; exact h2
theorem SR.hide {st:ai} (hc:Fz H c o) (hd:∃ x,o.data = .cell x) (s:SR K ρ st H):SR K ρ st (hide H c) :=
 ⟨s.len,s.nd,fun n k a h1 h2 => (s.cell n k a h1 h2).hide hc hd⟩
theorem Step.Nt (hn:H c = none) (e:Step ρ (upd H c (.d0 o (.own 0))) ρ' H'):Step ρ H ρ' (hide H' c):=by
 have ne:∀ {b:Addr} {x:HO},H b = some x → b ≠ c:=fun {b x} q z => by rw [z,hn] at q; cases q
 refine ⟨e.pre,fun b xs h => ?_,fun b x u h => ?_⟩
 ·rw [hide_ne (ne h)]; exact e.tup b xs (by rw [aD (ne h)]; exact h)
 ·rw [hide_ne (ne h)]; exact e.d0 b x u (by rw [aD (ne h)]; exact h)
theorem Step.back (hc:Fz H c o) (e:Step ρ (hide H c) ρ' H'):Step ρ H ρ' (back H H' c):=by
 refine ⟨e.pre,fun b xs h => ?_,fun b x u h => ?_⟩
 ·have n:b ≠ c:=fun z => by rw [z,hc] at h; cases h
  rw [fA n]; exact e.tup b xs (by rw [hide_ne n]; exact h)
 ·by_cases n:b = c
  ·rw [n,iH,← n]; exact h
  ·rw [fA n]; exact e.d0 b x u (by rw [hide_ne n]; exact h)
theorem p5 (h:H' c = none):jd H' (back H H' c):=fun b x q => by
 rw [fA (fun z => by rw [z,h] at q; cases q)]; exact q
theorem SR.GA {st:ai} {L:e_} {H':Hp} {T c f c':Addr} {pos:Pos} {x:Str} {j:Nat} (s:SR K ρ st H) (hj:st[j]? = some (.tab x pos.line pos.col L.qual)) (hT:ρ[j]? = some T) (N:zu L H H' T c f c' pos):SR K ρ st H' ∧ Step ρ H ρ H':=by
 have k:=s.cell j _ T hj hT
 have tT:∃ ps,H T = some (.o5 ps):=by
  rcases k.2 with h | ⟨_,_,_,_,h,_⟩ <;> exact ⟨_,h⟩
 obtain ⟨ps,tT⟩:=tT
 have av:Step ρ H ρ H':=by
  refine ⟨List.prefix_refl ρ,fun b xs h => N.old b _ (fun z => ?_) h,fun b x u h => N.old b _ (fun z => ?_) h⟩ <;> (rw [z,tT] at h; cases h)
 refine ⟨⟨s.len,s.nd,fun n d a h1 h2 => ?_⟩,av⟩
 by_cases z:n = j
 ·subst z
  rw [hj] at h1
  rw [hT] at h2
  cases h1
  cases h2
  exact ⟨k.1,N.tab⟩
 ·have kb:=s.cell n d a h1 h2
  cases zm:g9 (some d) with
  | true => exact kb.mono av (.inl zm)
  | false =>
   have hb:a ≠ T:=fun y => z (s.nd n j T (by rw [← y]; exact h2) hT (by rw [h1]; exact zm) (by rw [hj]; rfl))
   obtain ⟨o,ho,_⟩:=kb.there zm
   exact kb.mono av (.inr (by rw [ho]; exact N.old a _ hb ho))
end
theorem JD {P:Program} {w:World} {X:Cx}:Passes (jx P w) X E0:=by
 rintro pins σ H s e s' I ⟨_,_,_,_,_,z⟩
 exact z.elim
noncomputable def nU (P:Program) (w:World) (K:PySem.W.Frag) (mg:Str → Option Value) (base:Heap) (L:e_) (k:Nat) (mb:ME):Prop :=
 L.Ok ∧ ∀ (f c c':Addr) (A:Around) (outer:List PySem.Env) (s:Shared) (H:Hp),cY k (A.deeper (PySem.W.envX L.qual L.scope s.heap.objs.size f (.ref c') [(L.x,c)])) →
  PE (pQ P w K mg base L f c c' A outer s H) L.body (tE (pQ P w K mg base L f c c' A outer s H) E0 mb)
section
variable {X:Cx} {E:XK} {pos p:Pos} {e:Expr} {es:List Expr} {ms:MA} {x:Str} {L:e_} {k:Nat} {mb:ME}
theorem RS.lam {W:Wo} {ρ:List Addr} {H:Hp} {us:List Val} {vs:List V} {u:Val} {v:V} (r:aN W.K ρ H us vs) (h:Rl W.K ρ H u v):RS W ρ H (us.map some ++ [some u]) (vs.map some ++ [some v]):=by
 have hl:=r.length
 refine ⟨by simp [hl],fun i w e => ?_⟩
 rcases Nat.lt_or_ge i us.length with q | q
 ·rw [List.getElem?_append_left (by rw [List.length_map]; exact q),List.getElem?_map] at e
  have e':us[i]? = some w:=by
   cases z:us[i]? with
   | none => rw [z] at e; cases e
   | some w => rw [z] at e; exact congrArg _ (Option.some.inj (Option.some.inj e))
  obtain ⟨v,h1,h2⟩:=r.get e'
  refine ⟨v,?_,uu.of h2⟩
  rw [List.getElem?_append_left (by rw [List.length_map,← hl]; exact q),List.getElem?_map,h1]
  rfl
 ·rw [List.getElem?_append_right (by rw [List.length_map]; exact q),List.length_map] at e
  cases z:i - us.length with
  | zero =>
   rw [z] at e
   cases e
   refine ⟨v,?_,uu.of h⟩
   rw [List.getElem?_append_right (by rw [List.length_map,← hl]; exact q),List.length_map,← hl,z]
   rfl
  | succ n => rw [z] at e; cases e
end
section
variable {P:Program} {w:World} {K:PySem.W.Frag} {mg:Str → Option Value} {base:Heap}
structure GB (K:PySem.W.Frag) (mg:Str → Option Value) (base:Heap) (x:Str) (cd T:Addr):Prop where
 tab:PySem.W.tabIn K x = some (cd,T)
 hd:PySem.W.CodeHd base cd T
 blt:base.BuiltinsAt mg T
 gT:mainGlobals ≠ T
theorem FnAt.TL {x:Str} {st:Stmt} {f:Addr} {fd:FuncData} {N ps:List Str} {k:Nat} {body:MB} {cd T:Addr} (B:GB K mg base x cd T) (F:jw K x x st f fd) (hn:PySem.W.nsIn K mainGlobals x = some (some (.ref f))) (hm:mg x = some (.ref f)) (S:bc N ps (aq st))
  (hb:∀ (kV doc pm:Value) (an:Option Addr) (dk ct:Value) (us:List Value),us.length = ps.length → bindArgs (PySem.W.fnOf x x (bb st) (aO st) (aq st) .none kV doc pm an dk ct) ⟨us,[]⟩ = pure (ps.zip us))
  (h:∀ (A:Around) (outer:List PySem.Env) (s:Shared) (H:Hp) (E:XK),cY k (A.deeper (envOfC x (aq st) s.heap.objs.size f (.ref cd))) →
   i_ (f_ (jx P w) P w K mg base N x (aq st) f (.ref cd) A outer s H E) (aO st) (tS (f_ (jx P w) P w K mg base N x (aq st) f (.ref cd) A outer s H E) E body)):FnAt P w K mg base x (k + 1) (iI ps.length N.length body):=by
 refine ⟨f,fd,ps,?_,hm,F.kp,F.binds hb⟩
 obtain ⟨oc,od,kV,doc,pm,an,dk,ct,BY,e,lk,m6⟩:=F.ex
 have ec:dk = .ref cd:=by
  have t:=B.tab
  unfold PySem.W.tabIn at t
  rw [hn] at t
  simp only [lk] at t
  rw [e] at t
  simp only [PySem.W.fnOf] at t
  split at t
  ·rename_i c hc
   split at t
   ·split at t
    ·cases t; rfl
    ·cases t
   ·cases t
  ·cases t
 subst ec
 have h':∀ (dk:Value) (A:Around) (outer:List PySem.Env) (s:Shared) (H:Hp) (E:XK),dk = .ref cd → cY k (A.deeper (envOfC x (aq st) s.heap.objs.size f dk)) →
   i_ (f_ (jx P w) P w K mg base N x (aq st) f dk A outer s H E) (aO st) (tS (f_ (jx P w) P w K mg base N x (aq st) f dk A outer s H E) E body):=fun dk A outer s H E e => by subst e; exact h A outer s H E
 subst e
 refine D9 lk m6 S (fun vs H Q E q => ?_) fun A outer s H vs Q E hr q => ⟨_,h A outer s H E hr,?_⟩
 ·obtain ⟨us,ρ,st,r,sr,q⟩:=q
  by_cases hl:us.length = ps.length
  ·rw [← r.length]; exact hl
  ·unfold iI at q; rw [if_neg hl] at q; exact q.elim
 ·obtain ⟨us,ρ,av,r,sr,q⟩:=q
  unfold iI at q
  by_cases hl:us.length = ps.length
  ·rw [if_pos hl,← hl] at q
   refine ⟨_,ρ,av,RS.start r,sr,?_⟩
   revert q
   cases body (us.map some ++ List.replicate (N.length - us.length) none) av with
   | nx μ cg => exact fun q ρ' H' σ' e s _ => q ρ' H' .da e s Rl.vU
   | rt v cg => exact fun q => q
   | er c μ cg => exact fun q => q
   | bk μ cg => exact fun q => q.elim
   | ct μ cg => exact fun q => q.elim
   | bad => exact fun q => q.elim
  ·rw [if_neg hl] at q; exact q.elim
end
noncomputable def d8 (st:ai) (x:Str) (l c:Nat) (q:Str):Prop:=∃ j:Nat,st[j]? = some (.tab x l c q)
structure cQ where
 S:e_
 own:Str
 line:Nat
 col:Nat
section
variable {X:Cx} {E:XK} {pos p lp:Pos} {e:Expr} {es:List Expr} {ms:MA} {x y:Str} {L:cQ} {k j:Nat} {f:Val → FN} {c cd T:Addr}
end
end MN
namespace MN
open PySem PySem.Spec L2
open PyProof.Rows hiding St
noncomputable abbrev cV (mg:Str → Option Value) (base:Heap) (ts:List (Addr × Addr)):Prop:=∀ q ∈ ts,PySem.W.CodeHd base q.1 q.2 ∧ base.BuiltinsAt mg q.2 ∧ mainGlobals ≠ q.2
noncomputable def iW (a:Addr) (o:Option HO) (ts:List (Addr × Addr)):Hp:=fun b => if b ∈ ts.map (·.2) then some (.o5 #[]) else if b = a then o else none
theorem xy {P:Program} {w:World} {K:PySem.W.Frag} {mg mb:Str → Option Value} {k:Nat} {fa a:Addr} {fd:FuncData} {x:Str} {sp:Sp} {s₁:Shared} {vs:List Value} {ns:List Int} {ts:List (Addr × Addr)}
  (KX:K.In s₁.heap) (Ei:s₁.heap.Ns mainGlobals mg) (hb:s₁.heap.Ns builtinsNs mb) (TM:∀ x:Str,x ≠ "__name__" → mb x = bootBuiltins x) (Nu:s₁.heap.NoLimit) (hg:s₁.gens = #[])
  (TN:∃ bm ob,mg "__builtins__" = some (.ref bm) ∧ bm ≠ builtinsNs ∧ s₁.heap.get? bm = some ob ∧ ob.cls = .type "module" ∧ ob.dict = some builtinsNs ∧ ob.data = .plain)
  (hT:PySem.W.TabsAt ts s₁.heap) (TQ:PySem.W.noTabs K = true)
  (ha:s₁.heap.get? a = some { cls:=.type "list",data:=.seq vs.toArray }) (hi:IntsAre vs ns) (hl:ns.length ≤ sizeLine) (hr:cY k callerA)
  (F:∀ base:Heap,K.In base → base.Ns mainGlobals mg → cV mg base ts → kC P w K mg base (jx P w) k fa fd [x] sp) (JE:∀ (s:Shared) (u:Value),BindsTo s fd ⟨[u],[]⟩ [(x,u)])
  (HJ:∀ H:Hp,(∀ b xs,H b ≠ some (.lst xs)) → jb K H a (ns.map V.int) → (∀ q ∈ ts,H q.2 = some (.o5 #[])) → a ∉ ts.map (·.2) → sp [.ref a] H (fun v _ => v = .bl true) fun _ _ _ => False) :
  codeAny (model P w) callerA (.call (.ref fa) ⟨[.ref a],[]⟩) (fun r s' => r = .ok (.ret (.bool true)) ∧ OldK s₁.heap s'.heap ∧ s'.os = s₁.os ∧ AllBare s'.gens) s₁:=by
 have rv:=pK hi
 have Nv:=hi.length
 have tabs:∀ b,b ∈ ts.map (·.2) → s₁.heap.get? b = some (PySem.W.tabObj #[]):=fun b hb => by
  obtain ⟨q,hq,rfl⟩:=List.mem_map.mp hb
  exact (hT q hq).2
 have aT:a ∉ ts.map (·.2):=fun z => by
  have:=tabs a z
  rw [ha] at this
  cases this
 have core:∀ o:Option HO,(∀ x,o = some x → ∃ ob xs,x = .d0 ob (.lst xs)) → jb K (iW a o ts) a (ns.map V.int) → fQ P w (iW a o ts) s₁.heap → (o ≠ none → K.lookup a = none) →
   codeAny (model P w) callerA (.call (.ref fa) ⟨[.ref a],[]⟩) (fun r s' => r = .ok (.ret (.bool true)) ∧ OldK s₁.heap s'.heap ∧ s'.os = s₁.os ∧ AllBare s'.gens) s₁:=by
  intro o hO hS bz hK
  have Nw:∀ b,b ∈ ts.map (·.2) → iW a o ts b = some (.o5 #[]):=fun b hb => if_pos hb
  have Rx:iW a o ts a = o:=by unfold iW; rw [if_neg aT,if_pos rfl]
  have HU:∀ b,iW a o ts b = none ∨ (b = a ∧ iW a o ts b = o) ∨ (b ∈ ts.map (·.2) ∧ iW a o ts b = some (.o5 #[])):=fun b => by
   by_cases h1:b ∈ ts.map (·.2)
   ·exact .inr (.inr ⟨h1,Nw b h1⟩)
   ·by_cases h2:b = a
    ·subst h2; exact .inr (.inl ⟨rfl,Rx⟩)
    ·exact .inl (by unfold iW; rw [if_neg h1,if_neg h2])
  obtain ⟨H,eH⟩:∃ H,H = iW a o ts:=⟨_,rfl⟩
  rw [← eH] at hS bz Nw Rx HU
  have mW:∀ {b:Addr} {ob:Obj},s₁.heap.get? b = some ob → H b = none → (o6 s₁.heap H).get? b = some ob:=fun e n => yt e n
  have HI:∀ {b:Addr} {ob:Obj},s₁.heap.get? b = some ob → ob.cls ≠ .type "list" → ob.cls ≠ .none → H b = none:=fun {b ob} e d d2 => by
   rcases HU b with h | ⟨h,_⟩ | ⟨h,_⟩
   ·exact h
   ·subst h; rw [ha] at e; cases e; exact absurd rfl d
   ·rw [tabs b h] at e; cases e; exact absurd rfl d2
  have TR:∀ {b:Addr} {ob:Obj} {es:Array DictEntry} {ep:Nat},s₁.heap.get? b = some ob → ob.data = .dict es ep → H b = none:=fun {b ob es ep} e d => by
   rcases HU b with h | ⟨h,_⟩ | ⟨h,_⟩
   ·exact h
   ·subst h; rw [ha] at e; cases e; have d':Data.seq vs.toArray _ = Data.dict es ep:=d; cases d'
   ·rw [tabs b h] at e; cases e; cases d
  have Lu:∀ {b:Addr} {m:Str → Option Value},s₁.heap.Ns b m → (o6 s₁.heap H).Ns b m:=fun {b m} ⟨ob,es,ep,e,d,r⟩ => ⟨ob,es,ep,mW e (TR e d),d,r⟩
  have Ry:K.In (o6 s₁.heap H):=fun b ob e => mW (KX b ob e) (by
   rcases HU b with h | ⟨h,h2⟩ | ⟨h,_⟩
   ·exact h
   ·subst h
    cases q:o with
    | none => rw [h2,q]
    | some u => rw [hK (by rw [q]; simp)] at e; cases e
   ·have h1:=KX b ob e
    rw [tabs b h] at h1
    cases h1
    have h2:=List.all_eq_true.mp TQ _ (PySem.W.mem_of_lookupK e)
    exact absurd (show false = true from h2) Bool.false_ne_true)
  have hM:Mod K mg (o6 s₁.heap H):=⟨Ry,Lu Ei,⟨mb,Lu hb,TM⟩,let ⟨mc,h1,h2⟩:=Nu; ⟨mc,Lu h1,h2⟩⟩
  have e0:uE P w K mg (o6 s₁.heap H) callerA [] s₁ H:=⟨rfl,hM,fun b o e => BE e,Nat.le_of_eq (wI _ _),trivial,fun b hb => absurd (show b ∈ ([]:List Addr) from hb) (by simp),bz,.of_eq hg⟩
  have TU:cV mg (o6 s₁.heap H) ts:=by
   intro q hq
   obtain ⟨h1,h2⟩:=hT q hq
   refine ⟨?_,?_,?_⟩
   ·obtain ⟨oc,ws,file,tf,flags,tg,TV,text,tt,e1,r1,r⟩:=h1
    exact ⟨oc,ws,file,tf,flags,tg,TV,text,tt,mW e1 (HI e1 (by rw [r1]; decide) (by rw [r1]; intro z; cases z)),r1,r⟩
   ·obtain ⟨bm,ob,b1,b2,b3,b4,b5,b6⟩:=TN
    refine ⟨bm,ob,b1,b2,fun z => ?_,fun z => ?_,mW b3 (HI b3 (by rw [b4]; decide) (by rw [b4]; intro z; cases z)),b4,b5,b6⟩
    ·obtain ⟨o',es,ep,e,hd,_⟩:=Ei
     rw [z,e] at b3
     cases b3
     rw [hd] at b6; cases b6
    ·rw [z,h2] at b3
     cases b3
     cases b4
   ·intro z
    obtain ⟨o',es,ep,e,hd,_⟩:=Ei
    rw [z,h2] at e
    cases e
    cases hd
  refine codeAny_mono ((F _ Ry (Lu Ei) TU).run callerA [] s₁ H ⟨[.ref a],[]⟩ [.ref a] [.ref a] _ _ hr e0 (JE s₁ (.ref a)) (.cons rfl .nil) (HJ H (fun b xs z => ?_) hS (fun q hq => Nw _ (List.mem_map_of_mem hq)) aT)) fun r s' h => ?_
  ·rcases HU b with h | ⟨_,h2⟩ | ⟨_,h2⟩
   ·rw [h] at z; cases z
   ·rw [h2] at z
    obtain ⟨_,_,e⟩:=hO _ z
    cases e
   ·rw [h2] at z; cases z
  cases r with
  | error e => obtain ⟨_,_,_,_,_,z⟩:=h; exact z.elim
  | ok fl =>
   cases fl with
   | next => exact False.elim h
   | brk => exact False.elim h
   | cont => exact False.elim h
   | ret u =>
    obtain ⟨v,H',os,bare,un,JF,r',q⟩:=h
    have q':v = .bl true:=q
    subst q'
    obtain rfl:u = Value.bool true:=r'
    have there:∀ b ob,s₁.heap.get? b = some ob → (s'.heap.get? b = some ob) ∨ (isCodeTable s₁.heap b ∧ ob = PySem.W.tabObj #[] ∧ ∃ ps,s'.heap.get? b = some (PySem.W.tabObj ps)):=fun b ob e => by
     rcases HU b with h | ⟨h,h2⟩ | ⟨h,h2⟩
     ·exact .inl (un.keep b ob e h (by intro z; exact absurd (show b ∈ ([]:List Addr) from z) (by simp)) (by simp))
     ·cases q:o with
      | none => rw [q] at h2; exact .inl (un.keep b ob e h2 (by intro z; exact absurd (show b ∈ ([]:List Addr) from z) (by simp)) (by simp))
      | some u =>
       obtain ⟨o2,xs,eu⟩:=hO u q
       rw [q,eu] at h2
       have z2:=un.gK b o2 _ h2
       obtain ⟨e1,_⟩:=bz b _ h2
       obtain ⟨e2,_⟩:=JF b _ z2
       rw [e] at e1; cases e1
       exact .inl e2
     ·obtain ⟨m,hm⟩:=un.ie b _ h2
      obtain ⟨q,hq,rfl⟩:=List.mem_map.mp h
      have e1:=tabs _ h
      rw [e] at e1
      exact .inr ⟨((hT q hq).1.tab (hT q hq).2).isCodeTable,Option.some.inj e1,_,JF _ _ hm⟩
    refine ⟨rfl,⟨fun b ob e => ?_,fun b ob e => ?_⟩,os,bare⟩
    ·rcases there b ob e with h | ⟨ht,rfl,ps,hP⟩
     ·exact .inl h
     ·exact .inr (.inl ⟨ht,rfl,#[],ps,rfl,by rw [Array.empty_append]; exact hP⟩)
    ·rcases there b ob e with h | ⟨ht,rfl,ps,hP⟩
     ·exact ⟨_,h⟩
     ·exact ⟨_,hP⟩
 have JG:∀ (o:Option HO) b,b ∈ ts.map (·.2) → ∀ u,iW a o ts b = some u → bL P w (iW a o ts) s₁.heap b u:=fun o b hb u z => by
  rw [show iW a o ts b = some (.o5 #[]) from if_pos hb] at z
  cases z
  exact tabs b hb
 cases hk:K.lookup a with
 | some o =>
  have e:=KX a o hk
  rw [ha] at e
  cases e
  refine core none (fun _ z => by cases z) (.inr ⟨_,vs.toArray,_,hk,rfl,rfl,rfl,by rw [List.size_toArray,Nv]; exact hl,by simpa using rv⟩) (fun b u z => ?_) fun z => absurd rfl z
  by_cases hb:b ∈ ts.map (·.2)
  ·exact JG _ b hb u z
  ·unfold iW at z; rw [if_neg hb] at z; split at z <;> cases z
 | none =>
  refine core (some (.d0 { cls:=.type "list",data:=.seq vs.toArray } (.lst (ns.map V.int)))) (fun x z => by cases z; exact ⟨_,_,rfl⟩) (.inl (.inr ⟨{ cls:=.type "list",data:=.seq vs.toArray },?_⟩)) (fun b u z => ?_) fun _ => hk
  ·unfold iW; rw [if_neg aT,if_pos rfl]
  ·by_cases hb:b ∈ ts.map (·.2)
   ·exact JG _ b hb u z
   ·have z0:=z
    unfold iW at z
    rw [if_neg hb] at z
    split at z
    ·rename_i TX
     cases z
     subst TX
     exact ⟨ha,by rw [List.length_map]; exact hl,vs,_,rv,ha⟩
    ·cases z
inductive mJ (q:Program) (K:PySem.W.Frag):List Cell → List (Addr × Addr) → Prop
 | nil:mJ q K [] []
 | cons {x qn:Str} {l c:Nat} {cs:List Cell} {cd T:Addr} {ts:List (Addr × Addr)} {d:DefRec} (hd:(recsOf q).find? (fun e => e.name == x) = some d) (ht:PySem.W.tabIn K x = some (cd,T)) (r:mJ q K cs ts):mJ q K (.tab x l c qn :: cs) ((cd,T) :: ts)
theorem mJ.at_ {q:Program} {K:PySem.W.Frag} {loose:List Str} {Nx:ExcName → Option Value} {mg mb:Str → Option Value} {h:Heap} (T:Top q loose Nx mg mb h) (X:K.In h):∀ {cs:List Cell} {ts:List (Addr × Addr)},mJ q K cs ts → PySem.W.TabsAt ts h
 | _,_,.nil => fun _ z => nomatch z
 | _,_,.cons hd ht r => List.forall_mem_cons.mpr ⟨PySem.W.tab_of T X hd ht,r.at_ T X⟩
theorem mJ.len {q:Program} {K:PySem.W.Frag}:∀ {cs:List Cell} {ts:List (Addr × Addr)},mJ q K cs ts → ts.length = cs.length
 | _,_,.nil => rfl
 | _,_,.cons _ _ r => by rw [List.length_cons,List.length_cons,r.len]
theorem mJ.cell {q:Program} {K:PySem.W.Frag} {ρ:List Addr} {H:Hp}:∀ {cs:List Cell} {ts:List (Addr × Addr)},mJ q K cs ts → (∀ p ∈ ts,H p.2 = some (.o5 #[])) → ∀ (n:Nat) (c:Cell) (a:Addr),cs[n]? = some c → (ts.map (·.2))[n]? = some a → dP K ρ H c a
 | _,_,.nil,_,n,c,a,h,_ => by simp at h
 | _,_,.cons (cd:=cd) hd ht r,k,0,c,a,h1,h2 => by
  cases h1
  cases h2
  exact ⟨⟨cd,ht⟩,.inl (k _ (.head _))⟩
 | _,_,.cons hd ht r,k,n + 1,c,a,h1,h2 => r.cell (fun p hp => k p (.tail _ hp)) n c a h1 h2
theorem C2 {q:Program} {K:PySem.W.Frag} {H:Hp} {a:Addr} {c:Cell} {cs:List Cell} {ts:List (Addr × Addr)} (L:mJ q K cs ts) (nd:(ts.map (·.2)).Nodup) (na:a ∉ ts.map (·.2)) (hH:∀ p ∈ ts,H p.2 = some (.o5 #[])) (k:dP K (a :: ts.map (·.2)) H c a):SR K (a :: ts.map (·.2)) (c :: cs) H:=by
 refine ⟨by rw [List.length_cons,List.length_cons,List.length_map,L.len],fun n m b h1 h2 _ _ => ?_,fun n d b h1 h2 => ?_⟩
 ·have N:(a :: ts.map (·.2)).Nodup:=List.nodup_cons.mpr ⟨na,nd⟩
  have l1:=fB h1
  have l2:=fB h2
  rw [List.getElem?_eq_getElem l1] at h1
  rw [List.getElem?_eq_getElem l2] at h2
  have e:=Option.some.inj (h1.trans h2.symm)
  rcases Nat.lt_trichotomy n m with z | z | z
  ·exact absurd e (List.pairwise_iff_getElem.mp N n m l1 l2 z)
  ·exact z
  ·exact absurd e.symm (List.pairwise_iff_getElem.mp N m n l2 l1 z)
 ·cases n with
  | zero => cases h1; cases h2; exact k
  | succ n => exact L.cell hH n d b h1 h2
theorem xA {l:PySem.W.OpenLaw} {q:Program} {loose:List Str} {XP:(Str → Option Value) → Heap → Prop} {YP:World → Heap → Prop} {d:DefRec} {K:Params → PySem.W.Frag} {x:Str} {k:Nat} {cs:List Cell} {f:FN} (hn:l.most = some 63) (IQ:d.params.defaults = []) (hr:cY k callerA)
  (hf:∀ (c:Cell) (ns:List Int),ns.length ≤ 63 → itemsOf (c :: cs) 0 = some (ns.map Val.int) → ∃ av,f [.loc 0] (c :: cs) = .ok (.bl true) av)
  (hY:∀ (w:World) (h:Heap),YP w h → (K w.params).In h)
  (F:∀ (w:World) (mg:Str → Option Value) (fa:Addr) (h:Heap),(K w.params).In h → h.Ns mainGlobals mg → mg d.name = some (.ref fa) →
   ∃ (fd:FuncData) (ts:List (Addr × Addr)),mJ q (K w.params) cs ts ∧ (ts.map (·.2)).Nodup ∧ PySem.W.noTabs (K w.params) = true ∧ (∀ (s:Shared) (u:Value),BindsTo s fd ⟨[u],[]⟩ [(x,u)]) ∧
    ∀ base:Heap,(K w.params).In base → base.Ns mainGlobals mg → cV mg base ts → kC l.prog w (K w.params) mg base (jx l.prog w) k fa fd [x] (En ⟨K w.params,mg,[]⟩ f)) :
  PySem.W.WalkO q loose XP YP l.row.toRowW d [] (fun f vs => PySem.call f vs):=by
 refine Q8.sh hn IQ fun w s₀ s₁ mg mb fa o pm cd doc a vs ns G Y ho hd m6 IS FP hints hlen hg => ?_
 have KX:=hY w _ Y
 obtain ⟨fd,ts,L,nd,nt,hb,hF⟩:=F w mg fa _ KX G.T.g IS
 refine xy KX G.T.g G.T.b G.T.builtins G.T.nolimit hg G.T.bmain (L.at_ G.T KX) nt FP hints (Nat.le_trans hlen (by decide)) hr hF hb fun H hO hS hH na => ?_
 have fin:∀ c:Cell,dP (K w.params) (a :: ts.map (·.2)) H c a → itemsOf (c :: cs) 0 = some (ns.map Val.int) → En ⟨K w.params,mg,[]⟩ f [.ref a] H (fun v _ => v = .bl true) fun _ _ _ => False:=by
  intro c k hi
  obtain ⟨av,e⟩:=hf c ns hlen hi
  refine ⟨[.loc 0],a :: ts.map (·.2),c :: cs,aN.one (Rl.zw rfl),C2 L nd na hH k,?_⟩
  rw [e]
  intro ρ' H' v _ _ r
  exact r.sG
 rcases hS with (h | ⟨o,h⟩) | h
 ·exact absurd h (hO a _)
 ·exact fin (.El (ns.map .int)) ⟨o,_,h,aN.ints ns⟩ rfl
 ·exact fin (.mod (ns.map .int)) ⟨_,h,aN.ints ns⟩ rfl
end MN
namespace L2
open PySem PySem.Spec PyProof.Rows
section
variable {X:Cx}
end
end L2
namespace MN
open PySem PySem.Spec L2
open PyProof.Rows hiding St
section
variable {X:Cx} {E:XK} {o:Expr} {mo:ME} {apos cu:Pos}
end
end MN
namespace MN
open PySem PySem.Spec L2
open PyProof.Rows hiding St
noncomputable def JH:List Stmt → Option Expr
 | [] => none
 | [.Return (some (.Call _ (e :: _) _ _)) _] => some e
 | _ :: r => JH r
noncomputable def JI (e:Option Expr) (qual:Str) (ps:List Str) (x:Str):e_:=match e with
 | some (.Lambda params body scope _) => ⟨qual,params,body,scope,ps,x⟩
 | _ => ⟨qual,{ posonlyargs:=[],args:=[],vararg:=none,kwonlyargs:=[],kw_defaults:=[],kwarg:=none,defaults:=[] },.Constant .none 0 ⟨0,0,0,0⟩,{ kind:=.function,names:=[],isGenerator:=false,isCoroutine:=false },ps,x⟩
theorem e_.TY {L:e_} (h1:L.scope.kind = .function) (h2:L.scope.isCoroutine = false) (h3:L.scope.isGenerator = false) (h4:(L.scope.names.all fun p => !(p.2 == .cell)) = true) (h5:(L.ps.all fun p => L.scope.names.lookup p == some .local) = true)
  (h6:L.scope.names.lookup L.x = some .free) (h7:(L.scope.names.all fun p => !(p.2 == .free) || p.1 == L.x) = true) (h8:(L.ps ++ [L.x]).Nodup)
  (h9:∀ (pm cd ct:Value) (cl:List (Str × Addr)) (us:List Value),us.length = L.ps.length → bindArgs (PySem.W.kla_fn "<lambda>" L.qual L.params L.body L.scope cl pm cd ct) ⟨us,[]⟩ = pure (L.ps.zip us)):L.Ok where
 kind:=h1
 co:=h2
 gen:=h3
 fJ:=fun y hy h => by
  have z:=List.all_eq_true.mp h4 y hy
  simp [h] at z
 par:=fun p hp => by
  have z:=List.all_eq_true.mp h5 p hp
  simpa using z
 fr:=h6
 free:=fun y h => by
  have z:=List.all_eq_true.mp h7 _ (PySem.mem_of_lookup h)
  simpa using z
 nd:=h8
 bind:=h9
theorem GC {K:PySem.W.Frag} {x:Str} {f cd T:Addr} {oc o2:Value} {od d2:Option Addr} {sl s2:Array (Option Value)} {fd:FuncData} {vs:Array Value} (a:PySem.W.nsIn K mainGlobals x = some (some (.ref f))) (l:K.lookup f = some ⟨oc,od,.func fd,sl⟩) (hc:fd.code = .ref cd)
  (lc:K.lookup cd = some ⟨o2,d2,.fields vs,s2⟩) (hv:(vs[11]?:Option Value) = some (.ref T)):PySem.W.tabIn K x = some (cd,T):=by
 unfold PySem.W.tabIn
 simp only [a,l,hc,lc,hv]
end MN
namespace PM
open PySem PySem.Spec L2 MN
open PyProof.Rows hiding St
noncomputable def aB:FN:=iI 2 6 (aK (aL 2 (mC (.int 0))) (aK (gr (b8 (ah ltV (ae 1) (ao gS (aa (ae 0) ak)))) (aL 2 (ah bK (ae 0) (ae 1))) bx) (aK (aL 3 (ah bG (ah bS (ah bS (ah bS (ah cO (ae 2) (mC (.int 48271))) (ah cO (ah cO (mC (.int 7919)) (ae 1)) (ae 1))) (ah cO (mC (.int 104729)) (ae 1))) (mC (.int 11))) (mC (.int 2147483647)))) (aK (aL 4 (mC (.int 0))) (aK (hU (bf (aa (mC (.int 6)) ak)) (aName 5) (aK (aL 3 (ah bG (ah bS (ah cO (ah bG (ah cO (ae 3) (ae 3)) (mC (.int 2147483629))) (mC (.int 69621))) (ae 5)) (mC (.int 2147483647)))) (aL 4 (ah bS (ah cO (ae 4) (mC (.int 2147483647))) (ae 3))))) (bC (ae 4)))))))
noncomputable def eQ:FN:=iI 1 1 (bC (jH (vY "int" (ae 0)) (Jt (vY "bool" (ae 0)))))
noncomputable def bH:FN:=iI 1 1 (aK (gr (b8 (ah dB (ah bG (ae 0) (mC (.int 7))) (mC (.int 0)))) (bC (ah cO (ah sN (mC (.int 1)) (ah cO (ah bG (ah bp (ae 0) (mC (.int 7))) (mC (.int 2))) (mC (.int 2)))) (ah bG (ah bp (ae 0) (mC (.int 14))) (ah Gj (mC (.int 10)) (mC (.int 40)))))) bx) (bC (ah sN (ah bG (ah bp (ae 0) (mC (.int 7))) (mC (.int 19))) (mC (.int 9)))))
end PM
namespace PM
open PySem PySem.Spec L2 MN
open PyProof.Rows hiding St
end PM
namespace PM
open PySem PySem.Spec L2 MN
open PyProof.Rows hiding St
end PM
namespace MN
open PySem PySem.Spec L2
open PyProof.Rows hiding St
theorem gx {g:ai → Prop} {a:AS} {body:MB} (P:Nat → Env → ai → Prop):∀ (us:List Val) (k:Nat) (μ:Env) (st:ai),
  (∀ (i:Nat) (u:Val) (μ:Env) (st:ai),us[i]? = some u → P (k + i) μ st → g st ∧ ∃ μ1,a u μ = some μ1 ∧ ∃ μ' av,(body μ1 st = .nx μ' av ∨ body μ1 st = .ct μ' av) ∧ P (k + i + 1) μ' av) →
  (∀ μ st,P (k + us.length) μ st → g st) → P k μ st → ∃ μ' av,forL g a body us μ st = .nx μ' av ∧ P (k + us.length) μ' av
 | [],k,μ,st,_,he,h => by
  refine ⟨μ,st,?_,h⟩
  unfold forL
  rw [if_pos (he μ st h)]
 | u :: us,k,μ,st,hs,he,h => by
  obtain ⟨hg,μ1,ha,μ',av,hb,hP⟩:=hs 0 u μ st rfl h
  have ih:=gx (a:=a) (body:=body) P us (k + 1) μ' av (fun i v μ2 cg hv hp => by
   have:=hs (i + 1) v μ2 cg hv (by rw [show k + (i + 1) = k + 1 + i by lia]; exact hp)
   rw [show k + (i + 1) + 1 = k + 1 + i + 1 by lia] at this
   exact this) (fun μ2 cg hp => he μ2 cg (by rw [List.length_cons,show k + (us.length + 1) = k + 1 + us.length by lia]; exact hp)) hP
  obtain ⟨μ2,cg,e2,p2⟩:=ih
  refine ⟨μ2,cg,?_,by rw [List.length_cons,show k + (us.length + 1) = k + 1 + us.length by lia]; exact p2⟩
  unfold forL
  rw [if_pos hg,ha]
  rcases hb with hb | hb <;> (dsimp only; rw [hb]; exact e2)
theorem dJ {g:ai → Prop} {a:AS} {c:MT} {e:ME} {st:ai} (hg:g st) (I:Env → Prop) (p:Val → Bool) (f:Val → Val):∀ (us:List Val) (τ:Env) (ys:List Val),I τ →
  (∀ u ∈ us,∀ τ,I τ → ∃ τ1,a u τ = some τ1 ∧ I τ1 ∧ c τ1 st = .ok (p u) st ∧ (p u = true → e τ1 st = .ok (f u) st)) → d6 g a c e us τ st ys = .ok (ys ++ (us.filter p).map f) st
 | [],τ,ys,_,_ => by
  unfold d6
  rw [if_pos hg]; simp
 | u :: us,τ,ys,hI,hs => by
  obtain ⟨τ1,h1,h2,h3,h4⟩:=hs u List.mem_cons_self τ hI
  have Lv:=fun v hv => hs v (List.mem_cons_of_mem u hv)
  unfold d6
  rw [if_pos hg,h1]
  dsimp only
  rw [h3]
  cases z:p u with
  | true =>
   dsimp only
   rw [h4 z]
   dsimp only
   rw [dJ hg I p f us τ1 _ h2 Lv,List.filter_cons_of_pos z]
   simp
  | false =>
   dsimp only
   rw [dJ hg I p f us τ1 _ h2 Lv,List.filter_cons_of_neg (by rw [z]; simp)]
theorem ba (st:ai) (us:List Val):itemsOf (st ++ [.lst us]) st.length = some us:=by
 unfold itemsOf
 rw [List.getElem?_append_right (Nat.le_refl _),Nat.sub_self]; rfl
theorem aP {st:ai} {n:Nat} {us:List Val} (h:itemsOf st n = some us) (more:ai):itemsOf (st ++ more) n = some us:=by
 have hn:n < st.length:=by
  rcases Nat.lt_or_ge n st.length with q | q
  ·exact q
  ·unfold itemsOf at h; rw [List.getElem?_eq_none q] at h; cases h
 unfold itemsOf at h ⊢
 rw [List.getElem?_append_left hn]; exact h
end MN
namespace MN
open PySem PySem.Spec L2
open PyProof.Rows hiding St
noncomputable def Res.i6 {α β:Type} (r:Res α) (k:α → ai → Res β):Res β:=match r with
 | .ok a st => k a st
 | .err c st => .err c st
 | .bad => .bad
noncomputable def Res.BC {α:Type} (r:Res α) (μ:Env) (k:α → ai → bU):bU:=match r with
 | .ok a st => k a st
 | .err c st => .er c μ st
 | .bad => .bad
noncomputable def bU.cb (r:bU) (k:MB):bU:=match r with
 | .nx μ st => k μ st
 | .rt v st => .rt v st
 | .bk μ st => .bk μ st
 | .ct μ st => .ct μ st
 | .er c μ st => .er c μ st
 | .bad => .bad
noncomputable def bU.fin (r:bU):Res Val:=match r with
 | .nx _ av => .ok .da av
 | .rt v av => .ok v av
 | .er c _ av => .err c av
 | _ => .bad
section
variable {α β:Type} {μ:Env} {st:ai}
theorem aA {a:α} {k:α → ai → Res β}:(Res.ok a st).i6 k = k a st:=rfl
theorem v_ {c:Str} {k:α → ai → Res β}:(Res.err c st:Res α).i6 k = .err c st:=rfl
theorem aV {a:α} {k:α → ai → bU}:(Res.ok a st).BC μ k = k a st:=rfl
theorem jP {c:Str} {k:α → ai → bU}:(Res.err c st:Res α).BC μ k = .er c μ st:=rfl
theorem aH {k:MB}:(bU.nx μ st).cb k = k μ st:=rfl
theorem nV {v:Val} {k:MB}:(bU.rt v st).cb k = .rt v st:=rfl
theorem fg {v:Val}:(bU.rt v st).fin = .ok v st:=rfl
theorem jQ {r:Res α} {k:α → ai → Res β}:r.bind k = r.i6 k:=by cases r <;> rfl
variable {a b c:ME} {f g:F2} {t u:MT} {s1 s2:MB} {ms:MA} {i:Nat} {v:Val}
theorem de {r:Res α} {k k':α → ai → Res β} (h:∀ a st,k a st = k' a st):r.bind k = r.i6 k':=by cases r <;> first | exact h _ _ | rfl
theorem kN {r:Res α} {k k':α → ai → bU} (h:∀ a st,k a st = k' a st):r.sb μ k = r.BC μ k':=by cases r <;> first | exact h _ _ | rfl
noncomputable def z6 (f:F2) (x:Val):Val → ai → Res Val:=fun y st => f x y st
noncomputable def JJ (f:F2) (b:ME) (μ:Env):Val → ai → Res Val:=fun x st => (b μ st).i6 (z6 f x)
theorem jj:ah f a b μ st = (a μ st).i6 (JJ f b μ):=de fun _ _ => de fun _ _ => rfl
theorem nW {x:Val}:JJ f b μ x st = (b μ st).i6 (z6 f x):=rfl
theorem jk {x y:Val}:z6 f x y st = f x y st:=rfl
theorem nX:mC v μ st = .ok v st:=rfl
noncomputable def Rz:Val → ai → Res Bool
 | .bl b,st => .ok b st
 | _,_ => .bad
theorem kO {b:Bool}:Rz (.bl b) st = .ok b st:=rfl
theorem jl:b8 a μ st = (a μ st).i6 Rz:=de fun x _ => by cases x <;> rfl
noncomputable def JK (b:ME) (μ:Env):Val → ai → Res Val
 | .bl true,st => b μ st
 | .bl false,st => .ok (.bl false) st
 | _,_ => .bad
theorem GD:jH a b μ st = (a μ st).i6 (JK b μ):=de fun x _ => by
 cases x <;> try rfl
 rename_i k; cases k <;> rfl
theorem C3:JK b μ (.bl true) st = b μ st:=rfl
noncomputable def z7 (u:MT) (μ:Env):Bool → ai → Res Bool
 | true,st => u μ st
 | false,st => .ok false st
theorem wa:lU t u μ st = (t μ st).i6 (z7 u μ):=de fun x _ => by cases x <;> rfl
theorem sU:z7 u μ true st = u μ st:=rfl
theorem sV:z7 u μ false st = .ok false st:=rfl
noncomputable def JL (u:MT) (μ:Env):Bool → ai → Res Bool
 | true,st => .ok true st
 | false,st => u μ st
theorem GF:pb t u μ st = (t μ st).i6 (JL u μ):=de fun x _ => by cases x <;> rfl
theorem C4:JL u μ false st = u μ st:=rfl
noncomputable def JM:Bool → ai → Res Bool:=fun k st => .ok (!k) st
theorem wb:d4 t μ st = (t μ st).i6 JM:=de fun _ _ => rfl
noncomputable def GG (a b:ME) (μ:Env):Bool → ai → Res Val
 | true,st => a μ st
 | false,st => b μ st
theorem Et:Lh t a b μ st = (t μ st).i6 (GG a b μ):=de fun x _ => by cases x <;> rfl
theorem C5:GG a b μ true st = a μ st:=rfl
theorem C6:GG a b μ false st = b μ st:=rfl
theorem eR:ak μ st = .ok [] st:=rfl
noncomputable def u4 (x:Val):List Val → ai → Res (List Val):=fun xs st => .ok (x :: xs) st
noncomputable def Eu (ms:MA) (μ:Env):Val → ai → Res (List Val):=fun x st => (ms μ st).i6 (u4 x)
theorem cB:aa a ms μ st = (a μ st).i6 (Eu ms μ):=de fun _ _ => de fun _ _ => rfl
theorem dm {x:Val}:Eu ms μ x st = (ms μ st).i6 (u4 x):=rfl
theorem cC {x:Val} {xs:List Val}:u4 x xs st = .ok (x :: xs) st:=rfl
noncomputable def JN:List Val → ai → Res Val:=fun xs st => if xs.length ≤ sizeLine then .ok (.tup xs) st else .bad
theorem nY:d5 ms μ st = (ms μ st).i6 JN:=de fun _ _ => rfl
theorem sW {xs:List Val}:JN xs st = if xs.length ≤ sizeLine then .ok (.tup xs) st else .bad:=rfl
noncomputable def JO:List Val → ai → Res Val:=fun xs st => if xs.length ≤ sizeLine then .ok (.loc st.length) (st ++ [.lst xs]) else .bad
theorem z8:dG ms μ st = (ms μ st).i6 JO:=de fun _ _ => rfl
theorem Ew {xs:List Val}:JO xs st = if xs.length ≤ sizeLine then .ok (.loc st.length) (st ++ [.lst xs]) else .bad:=rfl
theorem e7 {h:FN}:ao h ms μ st = (ms μ st).i6 h:=de fun _ _ => rfl
noncomputable def TZ:Val → ai → Res Val
 | .int i,st => .ok (.int (-i)) st
 | _,_ => .bad
theorem az:aK s1 s2 μ st = (s1 μ st).cb s2:=by
 unfold aK; cases s1 μ st <;> rfl
theorem q0:bx μ st = .nx μ st:=rfl
noncomputable def JP (μ:Env):Val → ai → bU:=fun _ st => .nx μ st
theorem d9:dr a μ st = (a μ st).BC μ (JP μ):=kN fun _ _ => rfl
noncomputable def JQ:Val → ai → bU:=fun v st => .rt v st
theorem bN:bC a μ st = (a μ st).BC μ JQ:=kN fun _ _ => rfl
theorem g_:JQ v st = .rt v st:=rfl
noncomputable def Ny (s1 s2:MB) (μ:Env):Bool → ai → bU
 | true,st => s1 μ st
 | false,st => s2 μ st
theorem gU:gr t s1 s2 μ st = (t μ st).BC μ (Ny s1 s2 μ):=kN fun x _ => by cases x <;> rfl
theorem nZ:Ny s1 s2 μ true st = s1 μ st:=rfl
theorem n_:Ny s1 s2 μ false st = s2 μ st:=rfl
noncomputable def JR (i:Nat) (μ:Env):Val → ai → bU:=fun v st => .nx (μ.set i (some v)) st
theorem og:aL i a μ st = (a μ st).BC μ (JR i μ):=kN fun _ _ => rfl
theorem z9:JR i μ v st = .nx (μ.set i (some v)) st:=rfl
noncomputable def z_ (x:Str) (μ:Env):List Val → ai → bU:=fun vs st => if vs.length ≤ sizeLine then .er x μ st else .bad
theorem sZ {x:Str}:jg x ms μ st = (ms μ st).BC μ (z_ x μ):=kN fun _ _ => rfl
theorem wc {x:Str} {vs:List Val}:z_ x μ vs st = if vs.length ≤ sizeLine then .er x μ st else .bad:=rfl
noncomputable def kFor (as:AS) (s1:MB) (μ:Env):Itm → ai → bU:=fun p st => forL p.2 as s1 p.1 μ st
theorem jm {it:MI} {as:AS}:hU it as s1 μ st = (it μ st).BC μ (kFor as s1 μ):=kN fun _ _ => rfl
theorem oh {as:AS} {us:List Val} {q:ai → Prop}:kFor as s1 μ (us,q) st = forL q as s1 us μ st:=rfl
noncomputable def Aa:List Val → ai → Res Val:=fun ys st => .ok (.loc st.length) (st ++ [.lst ys])
theorem p6 {ys:List Val}:Aa ys st = .ok (.loc st.length) (st ++ [.lst ys]):=rfl
noncomputable def Ab (k:Nat) (caps:List Nat) (as:AS) (t:MT) (a:ME) (μ:Env):Itm → ai → Res Val:=fun p st => if p.1.length ≤ sizeLine then (d6 p.2 as t a p.1 (mG k caps μ) st []).i6 Aa else .bad
theorem iL {k:Nat} {caps:List Nat} {it:MI} {as:AS}:bI k caps it as t a μ st = (it μ st).i6 (Ab k caps as t a μ):=de fun p aX => by
 unfold Ab
 split
 ·exact de fun _ _ => rfl
 ·rfl
theorem kP {k:Nat} {caps:List Nat} {as:AS} {us:List Val} {q:ai → Prop}:Ab k caps as t a μ (us,q) st = if us.length ≤ sizeLine then (d6 q as t a us (mG k caps μ) st []).i6 Aa else .bad:=rfl
theorem cf {np n:Nat} {us:List Val} (h:us.length = np):iI np n s1 us st = (s1 (us.map some ++ List.replicate (n - np) none) st).fin:=by
 unfold iI; rw [if_pos h]; cases s1 (us.map some ++ List.replicate (n - np) none) st <;> rfl
theorem kQ (h:μ[i]? = some (some v)) (hx:xj v = false):ae i μ st = .ok v st:=by
 unfold ae; rw [h]; simp [hx]
theorem iq {x:Option Val} {μ:Env}:ae (i + 1) (x :: μ) st = ae i μ st:=rfl
theorem oj {μ:Env} {j:Int}:ae 0 (some (.int j) :: μ) st = .ok (.int j) st:=rfl
theorem JS {μ:Env} {j:List Val}:ae 0 (some (.tup j) :: μ) st = .ok (.tup j) st:=rfl
theorem om {μ:Env} {j:Nat}:ae 0 (some (.loc j) :: μ) st = .ok (.loc j) st:=rfl
noncomputable def s_ (v:Val) (st:ai):Res Itm:=match nK st v with
 | some p => .ok p st
 | none => .bad
theorem jR:fT a μ st = (a μ st).i6 s_:=by unfold fT; rw [jQ]; rfl
theorem xB {us:List Val}:s_ (.tup us) st = .ok (us,fun _ => True) st:=rfl
theorem iM {n:Nat} {us:List Val} (h:itemsOf st n = some us):s_ (.loc n) st = .ok (us,fun av => itemsOf av n = some us) st:=by
 simp only [s_,nK,h]; rfl
noncomputable def C7 (vs:List Val) (av:ai):Res Itm:=match vs with
 | [.int j] => if -(2 ^ 62) ≤ j ∧ j < 2 ^ 62 then .ok (a_ 0 j.toNat,fun _ => True) av else .bad
 | _ => .bad
theorem q9:bf ms μ st = (ms μ st).i6 C7:=by unfold bf; rw [jQ]; rfl
theorem C8 {j:Int} (h1:-(2 ^ 62) ≤ j) (h2:j < 2 ^ 62):C7 [.int j] st = .ok (a_ 0 j.toNat,fun _ => True) st:=by unfold C7; dsimp only; rw [if_pos ⟨h1,h2⟩]
noncomputable def GH (b1 b2:Bool) (vs:List Val) (av:ai):Res Itm:=match vs with
 | [u,w] => match gf av u,gf av w with
  | some (c1,us,g1),some (c2,ws,g2) => if c1 = b1 ∧ c2 = b2 then .ok (jL us ws,fun cg => g1 cg ∧ g2 cg) av else .bad
  | _,_ => .bad
 | _ => .bad
theorem GI {b1 b2:Bool}:iZ b1 b2 ms μ st = (ms μ st).i6 (GH b1 b2):=by unfold iZ; rw [jQ]; rfl
theorem C9 {us ws:List Val}:GH false false [.tup us,.tup ws] st = .ok (jL us ws,fun _ => True ∧ True) st:=rfl
theorem q_ {n:Nat} {us:List Val} (h1:itemsOf st n = some us):il [.loc n] st = .ok (.tup us) st:=by unfold il; dsimp only; rw [h1]
theorem rf {i j:Int}:bS (.int i) (.int j) st = .ok (.int (i + j)) st:=rfl
theorem u5 {i j:Int}:sN (.int i) (.int j) st = .ok (.int (i - j)) st:=rfl
theorem Ac {i j:Int} (h:MulOk i j):cO (.int i) (.int j) st = .ok (.int (i * j)) st:=by unfold cO; dsimp only; rw [if_pos h]
theorem lY {i j:Int} (h1:-(2 ^ 64) < i) (h2:i < 2 ^ 64):cO (.int i) (.int j) st = .ok (.int (i * j)) st:=Ac (.inr (.inl ⟨h1,h2⟩))
theorem mul_r {i j:Int} (h1:-(2 ^ 64) < j) (h2:j < 2 ^ 64):cO (.int i) (.int j) st = .ok (.int (i * j)) st:=Ac (.inr (.inr ⟨h1,h2⟩))
theorem div_ii {i j:Int} (h:Dz j):bp (.int i) (.int j) st = .ok (.int (i.fdiv j)) st:=if_pos h
theorem fh {i j:Int} (h:¬ j = 0):bG (.int i) (.int j) st = .ok (.int (i.fmod j)) st:=if_neg h
theorem GJ {i j:Int} (h:yH i j):Gj (.int i) (.int j) st = .ok (.int (i ^ j.toNat)) st:=if_pos h
theorem Ex {i j:Int}:ltV (.int i) (.int j) st = .ok (.bl (decide (i < j))) st:=rfl
theorem p7 {i j:Int}:dB (.int i) (.int j) st = .ok (.bl (i == j)) st:=rfl
theorem Ad {i j:Int}:lV (.int i) (.int j) st = .ok (.bl (!(i == j))) st:=rfl
theorem Ey {i j:Bool}:lV (.bl i) (.bl j) st = .ok (.bl (!(i == j))) st:=rfl
theorem wd {i j:Str}:dB (.str i) (.str j) st = .ok (.bl (i == j)) st:=rfl
theorem JT {i j:Str}:lV (.str i) (.str j) st = .ok (.bl (!(i == j))) st:=rfl
theorem uH {us:List Val} {i:Int} {v:Val} (h:L2.ni us i = some v):bK (.tup us) (.int i) st = .ok v st:=by unfold bK; dsimp only; rw [h]
theorem rh {n:Nat} {us:List Val} {i:Int} {v:Val} (h1:itemsOf st n = some us) (h:L2.ni us i = some v):bK (.loc n) (.int i) st = .ok v st:=by unfold bK; dsimp only; rw [h1]; dsimp only; rw [h]
theorem mX {n:Nat} {us:List Val} (h1:itemsOf st n = some us):gS [.loc n] st = .ok (.int us.length) st:=by unfold gS; dsimp only; rw [h1]
theorem C_ {us:List Val}:gS [.tup us] st = .ok (.int us.length) st:=rfl
theorem Dc {n m:Nat} {us:List Val} (h1:itemsOf st n = some us) (h2:itemsOf st m = some []):fR 16 st (.loc n) (.loc m) = some us.isEmpty:=by
 unfold fR
 simp only [vw,h1,h2]
 show gu _ us [] = _
 cases us <;> rfl
theorem eq_nil {n m:Nat} {us:List Val} (h1:itemsOf st n = some us) (h2:itemsOf st m = some []):dB (.loc n) (.loc m) st = .ok (.bl us.isEmpty) st:=by unfold dB; rw [Dc h1 h2]
noncomputable def Res.Nz (r:Res α):Res α:=match r with
 | .ok v av => .ok v av
 | .err _ _ => .bad
 | .bad => .bad
theorem kR {m:Env → ai → Res α}:zO m μ st = (m μ st).Nz:=by unfold zO Res.Nz; cases m μ st <;> rfl
theorem kS {a:α}:(Res.ok a st).Nz = .ok a st:=rfl
noncomputable def bU.GK (r:bU):bU:=match r with
 | .er _ _ _ => .bad
 | .nx μ' av => .nx μ' av
 | .rt v av => .rt v av
 | .bk μ' av => .bk μ' av
 | .ct μ' av => .ct μ' av
 | .bad => .bad
theorem gy:nN s1 μ st = (s1 μ st).GK:=by unfold nN bU.GK; cases s1 μ st <;> rfl
theorem iN:(bU.rt v st).GK = .rt v st:=rfl
noncomputable def bU.Dd (r:bU) (kn:Str → Bool) (h:MH):bU:=match r with
 | .er c μ' av => if kn c = true then h c μ' av else .bad
 | .nx μ' av => .nx μ' av
 | .rt v av => .rt v av
 | .bk μ' av => .bk μ' av
 | .ct μ' av => .ct μ' av
 | .bad => .bad
theorem kU {kn:Str → Bool} {h:MH}:qX kn s1 h μ st = (s1 μ st).Dd kn h:=by unfold qX bU.Dd; cases s1 μ st <;> rfl
theorem De {kn:Str → Bool} {h:MH}:(bU.rt v st).Dd kn h = .rt v st:=rfl
theorem jS {kn:Str → Bool} {h:MH} {c:Str} (hk:kn c = true):(bU.er c μ st).Dd kn h = h c μ st:=by
 show (if kn c = true then h c μ st else .bad) = _
 rw [if_pos hk]
theorem rj {sub:Str → Str → Option Bool} {x c:Str} {r:MH} (h:sub c x = some true):i4 sub x s1 r c μ st = nM (s1 μ st):=by unfold i4; rw [h]
theorem Df {sub:Str → Str → Option Bool} {x c:Str} {r:MH} (h:sub c x = some false):i4 sub x s1 r c μ st = r c μ st:=by unfold i4; rw [h]
theorem Ez {sub:Str → Str → Option Bool} {x c:Str} {r:MH} (h:sub c x = some true):HS sub x i s1 r c μ st = nM (s1 (μ.set i (some (.exc c))) st):=by unfold HS; rw [h]
theorem gz:nM (.rt v st) = .rt v st:=rfl
end
end MN
namespace MN
open PySem PySem.Spec L2
open PyProof.Rows hiding St kindOf
end MN
namespace MN
open PySem PySem.Spec L2
open PyProof.Rows hiding St kindOf
section
variable {μ:Env} {st:ai} {a b c o:ME} {ms:MA} {f:F2} {g:FM} {v w:Val} {i n m:Nat} {us ws:List Val}
noncomputable def GL (g:FM) (x:Val):List Val → ai → Res Val:=fun xs st => g x xs st
noncomputable def Dg (g:FM) (ms:MA) (μ:Env):Val → ai → Res Val:=fun x st => if sO st x = true then (ms μ st).i6 (GL g x) else .bad
theorem u6:mH g o ms μ st = (o μ st).i6 (Dg g ms μ):=de fun x aX => by
 unfold Dg
 split
 ·exact de fun _ _ => rfl
 ·rfl
theorem Ae (h:st[n]? = some (.lst us)):Dg g ms μ (.loc n) st = (ms μ st).i6 (GL g (.loc n)):=by
 unfold Dg
 rw [if_pos (by unfold sO; dsimp only; rw [h])]
theorem Af {xs:List Val}:GL g v xs st = g v xs st:=rfl
theorem kW (h:st[n]? = some (.lst us)) (hl:us.length < sizeLine):c_ (.loc n) [v] st = .ok .da (st.set n (.lst (us ++ [v]))):=by
 simp only [c_,h]
 rw [if_pos hl]
theorem we (e:itemsOf st n = some us):nF [.loc n] st = .ok (.loc st.length) (st ++ [.lst us]):=by
 simp only [nF,e]
theorem Ag (h:st[n]? = some (.lst us)):itemsOf st n = some us:=by unfold itemsOf; rw [h]
theorem Ah (st:ai) (us:List Val):(st ++ [Cell.lst us])[st.length]? = some (.lst us):=by
 rw [List.getElem?_append_right (Nat.le_refl _),Nat.sub_self]; rfl
theorem ti (st:ai) (k k':Cell):(st ++ [k]).set st.length k' = st ++ [k']:=by
 rw [List.set_append_right _ _ (Nat.le_refl _),Nat.sub_self]; rfl
theorem wg (st:ai) (k k':Cell) (g:ai):(st ++ k :: g).set st.length k' = st ++ k' :: g:=by
 rw [List.set_append_right _ _ (Nat.le_refl _),Nat.sub_self]; rfl
theorem GN (st:ai) (k:Cell) (g:ai):(st ++ k :: g)[st.length]? = some k:=by
 rw [List.getElem?_append_right (Nat.le_refl _),Nat.sub_self]; rfl
end
mutual
noncomputable def d_:Nat → Val → Bool
 | _,.da => true
 | _,.bl _ => true
 | _,.int _ => true
 | _,.str _ => true
 | 0,.tup _ => false
 | n + 1,.tup us => cR n us
 | _,_ => false
noncomputable def cR:Nat → List Val → Bool
 | _,[] => true
 | n,u :: us => d_ n u && cR n us
end
mutual
theorem oo (st:ai):∀ (n:Nat) (v:Val),d_ n v = true → fR (n + 1) st v v = some true
 | _,.da,_ => rfl
 | _,.bl b,_ => by show some (b == b) = _; rw [beq_self_eq_true]
 | _,.int i,_ => by show some (i == i) = _; rw [beq_self_eq_true]
 | _,.str x,_ => by show some (x == x) = _; rw [beq_self_eq_true]
 | 0,.tup _,h => by cases h
 | n + 1,.tup us,h => by
  show gu (fR (n + 1) st) us us = some true
  exact kX st n us h
 | n,.loc _,h => by cases n <;> cases h
 | n,.exc _,h => by cases n <;> cases h
 | n,.fn _ _,h => by cases n <;> cases h
 | n,.mt _,h => by cases n <;> cases h
theorem kX (st:ai):∀ (n:Nat) (us:List Val),cR n us = true → gu (fR (n + 1) st) us us = some true
 | _,[],_ => rfl
 | n,u :: us,h => by
  have h':d_ n u = true ∧ cR n us = true:=by simpa [cR] using h
  show (match fR (n + 1) st u u,gu (fR (n + 1) st) us us with | some a,some b => some (a && b) | _,_ => none) = _
  rw [oo st n u h'.1,kX st n us h'.2]; rfl
end
theorem kY {n:Nat}:∀ {us:List Val},(∀ u ∈ us,d_ n u = true) → cR n us = true
 | [],_ => rfl
 | u :: us,h => by
  unfold cR
  rw [h u List.mem_cons_self,kY fun w hw => h w (List.mem_cons_of_mem u hw)]; rfl
theorem lZ (n:Nat) (ns:List Int):cR n (ns.map Val.int) = true:=kY fun u hu => by
 obtain ⟨i,_,rfl⟩:=List.mem_map.mp hu
 cases n <;> rfl
section
variable {st:ai} {n m:Nat} {us:List Val}
theorem xC (h1:itemsOf st n = some us) (h2:itemsOf st m = some us) (hp:cR 14 us = true):fR 16 st (.loc n) (.loc m) = some true:=by
 unfold fR
 simp only [vw,h1,h2]
 exact kX st 14 us hp
theorem Ai (h1:itemsOf st n = some us) (h2:itemsOf st m = some us) (hp:cR 14 us = true):lV (.loc n) (.loc m) st = .ok (.bl false) st:=by unfold lV; rw [xC h1 h2 hp]; rfl
end
end MN
namespace MN
open PySem PySem.Spec L2
open PyProof.Rows hiding St kindOf
end MN
namespace PG
open PySem PySem.Spec L2 MN
open PyProof.Rows hiding St kindOf
end PG
namespace T1
end T1
namespace PG
open PySem PySem.Spec L2 MN
open PyProof.Rows hiding St kindOf
end PG
namespace PG
open PySem PySem.Spec L2 MN
open PyProof.Rows hiding St kindOf
theorem Aj {p:Int} (hp:0 < p) (i:Int):i.fmod p = i % p:=Int.fmod_eq_emod_of_nonneg i (by lia)
end PG
namespace PG
open PySem PySem.Spec L2 MN
open PyProof.Rows hiding St kindOf
theorem u7 {i:Nat} {f o:Int} (h0:0 ≤ f) (h1:f < 2 ^ (31 * i)) (o0:0 ≤ o) (o1:o < 2147483647):0 ≤ f * 2147483647 + o ∧ f * 2147483647 + o < 2 ^ (31 * (i + 1)):=by
 have e:(2:Int) ^ (31 * (i + 1)) = 2 ^ (31 * i) * 2147483648:=by rw [Nat.mul_succ,Int.pow_add]; rfl
 rw [e]
 lia
theorem Dh {ns:List Int} {k:Int} (h0:0 ≤ k) (h1:k < (ns.length:Int)):∃ c:Int,L2.ni (ns.map Val.int) k = some (.int c):=by
 have hk:k.toNat < ns.length:=by lia
 refine ⟨ns[k.toNat],?_⟩
 have e:=L2.qB (xs:=ns.map Val.int) (j:=k.toNat) (v:=.int ns[k.toNat]) (by rw [List.getElem?_map,List.getElem?_eq_getElem hk]; rfl)
 rw [show ((k.toNat:Nat):Int) = k by lia] at e
 exact e
theorem gA {m:Int} (hm:0 < m) (i:Int):0 ≤ i.fmod m ∧ i.fmod m < m:=by
 rw [Aj hm]; exact ⟨Int.emod_nonneg _ (by lia),Int.emod_lt_of_pos _ hm⟩
theorem rl {n:Nat} {ns:List Int} {k:Int} {st:ai} (h:itemsOf st n = some (ns.map Val.int)) (k0:0 ≤ k) (k1:k ≤ 1000000) :
  ∃ o,PM.aB [.loc n,.int k] st = .ok (.int o) st ∧ 0 ≤ o ∧ o < 2 ^ 186:=by
 have len:((List.map Val.int ns).length:Int) = (ns.length:Int):=by rw [List.length_map]
 have loop:∀ (c x:Int),0 ≤ x → x < 2147483647 → ∃ μ' av o,forL (fun _ => True) (aName 5) (aK (aL 3 (ah bG (ah bS (ah cO (ah bG (ah cO (ae 3) (ae 3)) (mC (.int 2147483629))) (mC (.int 69621))) (ae 5)) (mC (.int 2147483647)))) (aL 4 (ah bS (ah cO (ae 4) (mC (.int 2147483647))) (ae 3)))) (a_ 0 6) [some (.loc n),some (.int k),some (.int c),some (.int x),some (.int 0),none] st = .nx μ' av ∧ av = st ∧ (∃ y t,μ' = [some (.loc n),some (.int k),some (.int c),y,some (.int o),t]) ∧ 0 ≤ o ∧ o < 2 ^ 186:=by
  intro c x x0 x1
  obtain ⟨μ',av,e,rfl,o,f,t,rfl,o0,o1,f0,f1⟩:=gx (g:=fun _ => True) (a:=aName 5) (body:=aK (aL 3 (ah bG (ah bS (ah cO (ah bG (ah cO (ae 3) (ae 3)) (mC (.int 2147483629))) (mC (.int 69621))) (ae 5)) (mC (.int 2147483647)))) (aL 4 (ah bS (ah cO (ae 4) (mC (.int 2147483647))) (ae 3))))
   (fun i μ s => s = st ∧ ∃ (o f:Int) (t:Option Val),μ = [some (.loc n),some (.int k),some (.int c),some (.int o),some (.int f),t] ∧ 0 ≤ o ∧ o < 2147483647 ∧ 0 ≤ f ∧ f < 2 ^ (31 * i))
   (a_ 0 6) 0 [some (.loc n),some (.int k),some (.int c),some (.int x),some (.int 0),none] st
   (by
    rintro i u μ s hu ⟨rfl,o,f,t,rfl,o0,o1,f0,f1⟩
    refine ⟨trivial,?_⟩
    have hi:i < 6:=by have:=fB hu; simpa [a_] using this
    have eu:u = .int (0 + (i:Int)):=by
     simp only [a_,List.getElem?_map] at hu
     rw [List.getElem?_range hi] at hu
     exact (Option.some.inj hu).symm
    subst eu
    have q1:=gA (m:=2147483629) (by decide) (o * o)
    have q2:=gA (m:=2147483647) (by decide) ((o * o).fmod 2147483629 * 69621 + (0 + (i:Int)))
    refine ⟨_,rfl,[some (.loc n),some (.int k),some (.int c),some (.int (((o * o).fmod 2147483629 * 69621 + (0 + (i:Int))).fmod 2147483647)),some (.int (f * 2147483647 + ((o * o).fmod 2147483629 * 69621 + (0 + (i:Int))).fmod 2147483647)),some (.int (0 + (i:Int)))],s,.inl ?_,rfl,_,_,_,rfl,q2.1,q2.2,?_⟩
    ·simp only [aA,aV,aH,jj,nW,jk,z9,nX,az,og,rf,oj,iq,List.set_cons_zero,List.set_cons_succ,lY (i:=o) (by lia) (by lia),fh (j:=2147483629) (by decide),mul_r (j:=69621) (by decide) (by decide),fh (j:=2147483647) (by decide),mul_r (j:=2147483647) (by decide) (by decide)]
    ·rw [Nat.zero_add] at f1 ⊢
     exact u7 f0 f1 q2.1 q2.2) (fun _ _ _ => trivial)
   ⟨rfl,x,0,none,rfl,x0,x1,by decide,by decide⟩
  refine ⟨_,_,f,e,rfl,⟨_,_,rfl⟩,f0,?_⟩
  have:(a_ 0 6).length = 6:=rfl
  rw [this] at f1
  exact f1
 have fin:∀ c:Int,((decide (k < ((List.map Val.int ns).length:Int)) = false ∧ c = 0) ∨ (decide (k < ((List.map Val.int ns).length:Int)) = true ∧ L2.ni (ns.map Val.int) k = some (.int c))) → ∃ o,PM.aB [.loc n,.int k] st = .ok (.int o) st ∧ 0 ≤ o ∧ o < 2 ^ 186:=by
  intro c hc
  have q:=gA (m:=2147483647) (by decide) (c * 48271 + 7919 * k * k + 104729 * k + 11)
  obtain ⟨μ',av,o,e,rfl,⟨y,t,rfl⟩,o0,o1⟩:=loop c _ q.1 q.2
  refine ⟨o,?_,o0,o1⟩
  have r6:C7 [.int 6] av = .ok (a_ 0 6,fun _ => True) av:=rfl
  rcases hc with ⟨h1,rfl⟩ | ⟨h1,h2⟩
  ·simp only [PM.aB,cf,aA,aV,aH,fg,jj,nW,jk,dm,cC,g_,n_,z9,oh,nX,kO,jl,eR,cB,e7,az,q0,bN,gU,og,jm,q9,rf,Ex,oj,om,iq,List.map_cons,List.map_nil,List.cons_append,List.nil_append,List.replicate_succ,List.replicate_zero,List.set_cons_zero,List.set_cons_succ,Nat.reduceSub,List.length_cons,List.length_nil,Nat.reduceAdd,mX h,h1,mul_r (j:=48271) (by decide) (by decide),lY (i:=7919) (by decide) (by decide),mul_r (j:=k) (by lia) (by lia),fh (j:=2147483647) (by decide),r6,e]
  ·simp only [PM.aB,cf,aA,aV,aH,fg,jj,nW,jk,dm,cC,g_,nZ,z9,oh,nX,kO,jl,eR,cB,e7,az,bN,gU,og,jm,q9,rf,Ex,oj,om,iq,List.map_cons,List.map_nil,List.cons_append,List.nil_append,List.replicate_succ,List.replicate_zero,List.set_cons_zero,List.set_cons_succ,Nat.reduceSub,List.length_cons,List.length_nil,Nat.reduceAdd,mX h,h1,rh h h2,mul_r (j:=48271) (by decide) (by decide),lY (i:=7919) (by decide) (by decide),mul_r (j:=k) (by lia) (by lia),fh (j:=2147483647) (by decide),r6,e]
 by_cases hk:k < (ns.length:Int)
 ·obtain ⟨c,hc⟩:=Dh k0 hk
  exact fin c (.inr ⟨decide_eq_true (by rw [len]; exact hk),hc⟩)
 ·exact fin 0 (.inl ⟨decide_eq_false (by rw [len]; exact hk),rfl⟩)
end PG
namespace PG
open PySem PySem.Spec L2 MN
open PyProof.Rows hiding St kindOf
theorem jT {j:Int} (h:0 < j) (h1:j < 2 ^ 64):Dz j:=by
 refine Dz.of (k:=64) (by lia) ?_ (by decide)
 show j.natAbs < 2 ^ 64
 lia
theorem Ak {s x:Int} (hs:s = 1 ∨ s = -1) (h0:0 ≤ x) (h1:x < (10:Int) ^ 40):rW 134 (s * x):=by
 show (s * x).natAbs < 2 ^ 134
 have e:(10:Int) ^ 40 = 10000000000000000000000000000000000000000:=by decide
 rw [e] at h1
 rcases hs with rfl | rfl
 ·rw [Int.one_mul]; lia
 ·rw [Int.neg_one_mul]; lia
theorem tj {c:Int} (h:0 ≤ c) (st:ai):∃ r,PM.bH [.int c] st = .ok (.int r) st ∧ rW 134 r:=by
 have d7:Dz 7:=jT (by decide) (by decide)
 have T2:Dz 14:=jT (by decide) (by decide)
 have cp:yH 10 40:=by decide
 have tn:Int.toNat 40 = 40:=rfl
 cases hz:c.fmod 7 == 0 with
 | true =>
  have q:=gA (m:=2) (by decide) (c.fdiv 7)
  have q2:=gA (m:=10 ^ 40) (by decide) (c.fdiv 14)
  refine ⟨(1 - (c.fdiv 7).fmod 2 * 2) * (c.fdiv 14).fmod (10 ^ 40),?_,Ak (by lia) q2.1 q2.2⟩
  have nz:¬ (10:Int) ^ 40 = 0:=by decide
  simp only [PM.bH,cf,aA,aV,nV,fg,jj,nW,jk,g_,nZ,nX,kO,jl,az,bN,gU,u5,p7,oj,List.map_cons,List.map_nil,List.cons_append,List.nil_append,List.replicate_zero,Nat.reduceSub,List.length_cons,List.length_nil,Nat.reduceAdd,fh (j:=7) (by decide),hz,div_ii d7,div_ii T2,fh (j:=2) (by decide),mul_r (j:=2) (by decide) (by decide),GJ cp,tn,fh nz,lY (i:=1 - (c.fdiv 7).fmod 2 * 2) (by lia) (by lia)]
 | false =>
  have q:=gA (m:=19) (by decide) (c.fdiv 7)
  refine ⟨(c.fdiv 7).fmod 19 - 9,?_,rW.small (by decide) (by lia) (by lia)⟩
  simp only [PM.bH,cf,aA,aV,aH,fg,jj,nW,jk,g_,n_,nX,kO,jl,az,q0,bN,gU,u5,p7,oj,List.map_cons,List.map_nil,List.cons_append,List.nil_append,List.replicate_zero,Nat.reduceSub,List.length_cons,List.length_nil,Nat.reduceAdd,fh (j:=7) (by decide),hz,div_ii d7,fh (j:=19) (by decide)]
noncomputable def T3 (n:Int) (u:Val):Bool:=match u with
 | .int b => decide (b < n) && (n.fmod b == 0)
 | _ => false
noncomputable def BW (n:Int):List Val:=(a_ 2 30).filter (T3 n)
end PG
namespace PG
open PySem PySem.Spec L2 MN
open PyProof.Rows hiding St kindOf
end PG
namespace PG
open PySem PySem.Spec L2 MN
open PyProof.Rows hiding St kindOf
theorem Al (ns:List Int):(ns.map Val.int).length = ns.length:=List.length_map ..
theorem at_getD {ns:List Int} {i:Int} (h0:0 ≤ i) (h1:i < (ns.length:Int)):L2.ni (ns.map Val.int) i = some (.int (ns.getD i.toNat 0)):=by
 have hk:i.toNat < ns.length:=by lia
 have e:=L2.qB (xs:=ns.map Val.int) (j:=i.toNat) (v:=.int ns[i.toNat]) (by rw [List.getElem?_map,List.getElem?_eq_getElem hk]; rfl)
 rw [show ((i.toNat:Nat):Int) = i by lia] at e
 rw [e,List.getD_eq_getElem?_getD,List.getElem?_eq_getElem hk]; rfl
end PG
namespace PG
open PySem PySem.Spec L2 MN
open PyProof.Rows hiding St kindOf
noncomputable def xD (ns:List Int) (lo hi:Option Int):List Int:=(ns.drop (HT.cN ns.length 0 lo)).take (HT.cN ns.length ns.length hi - HT.cN ns.length 0 lo)
theorem p8 (ns:List Int) (lo hi:Option Int):mI (ns.map Val.int) lo hi = (xD ns lo hi).map Val.int:=by
 unfold mI xD
 rw [Al,List.map_take,List.map_drop]
end PG
namespace PG
open PySem PySem.Spec L2 MN
open PyProof.Rows hiding St kindOf
end PG
namespace PG
open PySem PySem.Spec L2 MN
open PyProof.Rows hiding St kindOf
end PG
namespace PG
open PySem PySem.Spec L2 MN
open PyProof.Rows hiding St kindOf
theorem xE {ns:List Int} {k:Nat} (h:k ≤ ns.length):xD ns none (some (k:Int)) = ns.take k:=by
 unfold xD
 rw [HT.se,HT.jC,List.drop_zero,show min k ns.length - 0 = k by lia]
theorem xF {ns:List Int} {k:Nat} (h:k ≤ ns.length):xD ns (some (k:Int)) none = ns.drop k:=by
 unfold xD
 rw [HT.se,HT.jC,show min k ns.length = k by lia,List.take_of_length_le (by rw [List.length_drop]; lia)]
end PG
namespace TS
section
variable {α:Type} (le:α → α → Prop)
noncomputable def BD (l:List α):Prop:=l.Pairwise le
structure xG (Am out A B:List α):Prop where
 pm:(out ++ (A ++ B)).Perm Am
 so:BD le out
 sa:BD le A
 sb:BD le B
 oa:∀ x ∈ out,∀ y ∈ A,le x y
 ob:∀ x ∈ out,∀ y ∈ B,le x y
variable {le} {Am out A B:List α}
theorem xG.swap (h:xG le Am out A B):xG le Am out B A :=
 ⟨(List.Perm.append_left _ List.perm_append_comm).trans h.pm,h.so,h.sb,h.sa,h.ob,h.oa⟩
theorem xG.a {A1 A2:List α} (h:xG le Am out (A1 ++ A2) B) (l:∀ x ∈ A1,∀ y ∈ B,le x y):xG le Am (out ++ A1) A2 B:=by
 have sa:=List.pairwise_append.mp h.sa
 refine ⟨?_,List.pairwise_append.mpr ⟨h.so,sa.1,fun x hx y hy => h.oa x hx y (List.mem_append_left _ hy)⟩,sa.2.1,h.sb,fun x hx y hy => ?_,fun x hx y hy => ?_⟩
 ·have:=h.pm
  rwa [List.append_assoc,← List.append_assoc out A1] at this
 ·rcases List.mem_append.mp hx with hx | hx
  ·exact h.oa x hx y (List.mem_append_right _ hy)
  ·exact sa.2.2 x hx y hy
 ·rcases List.mem_append.mp hx with hx | hx
  ·exact h.ob x hx y hy
  ·exact l x hx y hy
theorem xG.b {B1 B2:List α} (h:xG le Am out A (B1 ++ B2)) (l:∀ x ∈ B1,∀ y ∈ A,le x y):xG le Am (out ++ B1) A B2:=(h.swap.a l).swap
theorem xG.fin (h:xG le Am out A B) (l:∀ x ∈ A,∀ y ∈ B,le x y):(out ++ A ++ B).Perm Am ∧ BD le (out ++ A ++ B):=by
 refine ⟨by rw [List.append_assoc]; exact h.pm,?_⟩
 rw [List.append_assoc]
 refine List.pairwise_append.mpr ⟨h.so,List.pairwise_append.mpr ⟨h.sa,h.sb,l⟩,fun x hx y hy => ?_⟩
 rcases List.mem_append.mp hy with hy | hy
 ·exact h.oa x hx y hy
 ·exact h.ob x hx y hy
end
section
variable {α:Type} (r:α → Nat)
noncomputable def K (xs:Array α) (i:Nat):Nat:=(xs[i]?).elim 0 r
noncomputable def Up (xs:Array α) (lo hi:Nat):Prop:=∀ i j,lo ≤ i → i < j → j < hi → K r xs i ≤ K r xs j
noncomputable def Dn (xs:Array α) (lo hi:Nat):Prop:=∀ i j,lo ≤ i → i < j → j < hi → K r xs j ≤ K r xs i
noncomputable abbrev Lw:α → α → Prop:=fun x y => r x ≤ r y
noncomputable abbrev RA:α → α → Prop:=fun x y => r y ≤ r x
noncomputable def part (xs:Array α) (i j:Nat):List α:=(xs.toList.drop i).take (j - i)
variable {r} {xs ys:Array α}
theorem eU {i:Nat} {x:α} (h:xs[i]? = some x):K r xs i = r x:=by unfold K; rw [h]; rfl
theorem ir {i j:Nat} (hj:j ≤ xs.size):(part xs i j).length = j - i:=by
 unfold part; rw [List.length_take,List.length_drop,Array.length_toList]; lia
theorem fe {i j k:Nat}:(part xs i j)[k]? = if k < j - i then xs[i + k]? else none:=by
 unfold part; rw [List.getElem?_take,List.getElem?_drop,Array.getElem?_toList]
theorem bj {i j:Nat} {x:α} (h:x ∈ part xs i j):∃ k,i ≤ k ∧ k < j ∧ xs[k]? = some x:=by
 obtain ⟨k,hk⟩:=List.getElem?_of_mem h
 rw [fe] at hk
 split at hk
 ·exact ⟨i + k,by lia,by lia,hk⟩
 ·cases hk
theorem bV {i j k:Nat} (h1:i ≤ j) (h2:j ≤ k) (hk:k ≤ xs.size):part xs i k = part xs i j ++ part xs j k:=by
 apply List.ext_getElem?
 intro n
 rw [List.getElem?_append,ir (by lia),fe,fe,fe]
 by_cases c:n < j - i
 ·rw [if_pos c,if_pos (by lia),if_pos c]
 ·rw [if_neg c]
  by_cases d:n < k - i
  ·rw [if_pos d,if_pos (by lia)]; congr 1; lia
  ·rw [if_neg d,if_neg (by lia)]
theorem jU {i:Nat} {x:α} (h:xs[i]? = some x):part xs i (i + 1) = [x]:=by
 apply List.ext_getElem?
 intro n
 rw [fe]
 cases n with
 | zero => rw [if_pos (by lia)]; exact h
 | succ n => rw [if_neg (by lia)]; rfl
theorem tm {i j:Nat} (h:j ≤ i):part xs i j = []:=by unfold part; rw [show j - i = 0 by lia]; rfl
theorem du:part xs 0 xs.size = xs.toList:=by
 unfold part; rw [List.drop_zero,Nat.sub_zero,← Array.length_toList,List.take_length]
theorem aG {i j:Nat}:(xs.extract i j).toList = part xs i j:=by
 rw [Array.toList_extract]
 unfold part
 rw [List.extract_eq_take_drop]
theorem Up.kZ {lo hi:Nat} (h:Up r xs lo hi):BD (Lw r) (part xs lo hi):=by
 unfold BD
 rw [List.pairwise_iff_getElem]
 intro i j h1 h2 WD
 have e1:=List.getElem?_eq_getElem h1
 have e2:=List.getElem?_eq_getElem h2
 rw [fe] at e1 e2
 split at e1
 ·split at e2
  ·have:=h (lo + i) (lo + j) (by lia) (by lia) (by lia)
   rw [eU e1,eU e2] at this
   exact this
  ·cases e2
 ·cases e1
theorem GO {lo hi:Nat} (h:BD (Lw r) (part xs lo hi)) (hz:hi ≤ xs.size):Up r xs lo hi:=by
 intro i j h1 h2 h3
 have q1:i - lo < (part xs lo hi).length:=by rw [ir hz]; lia
 have q2:j - lo < (part xs lo hi).length:=by rw [ir hz]; lia
 have:=(List.pairwise_iff_getElem.mp h) (i - lo) (j - lo) q1 q2 (by lia)
 have e1:=List.getElem?_eq_getElem q1
 have e2:=List.getElem?_eq_getElem q2
 rw [fe,if_pos (by lia),show lo + (i - lo) = i by lia] at e1
 rw [fe,if_pos (by lia),show lo + (j - lo) = j by lia] at e2
 rw [eU e1,eU e2]
 exact this
theorem Up.le {lo hi i j:Nat} (h:Up r xs lo hi) (h1:lo ≤ i) (h2:i ≤ j) (h3:j < hi):K r xs i ≤ K r xs j:=by
 rcases Nat.lt_or_ge i j with q | q
 ·exact h i j h1 q h3
 ·rw [show i = j by lia]; exact Nat.le_refl _
theorem Up.sub {lo hi RC yZ:Nat} (h:Up r xs lo hi) (h1:lo ≤ RC) (h2:yZ ≤ hi):Up r xs RC yZ:=fun i j a b c => h i j (by lia) b (by lia)
theorem Up.rev {lo hi:Nat} (h:Up r xs lo hi):BD (RA r) (part xs lo hi).reverse:=List.pairwise_reverse.mpr h.kZ
theorem tq:∀ (m:List α) (k sa:Nat) (xs:Array α),sa + k + m.length ≤ xs.size →
  ((m.zipIdx k).foldl (fun a (q:α × Nat) => a.setIfInBounds (sa + q.2) q.1) xs).toList = xs.toList.take (sa + k) ++ m ++ xs.toList.drop (sa + k + m.length)
 | [],k,sa,xs,_ => by
  show xs.toList = _
  rw [List.append_nil]; exact (List.take_append_drop _ _).symm
 | x :: m,k,sa,xs,h => by
  rw [List.zipIdx_cons,List.foldl_cons,tq m (k + 1) sa _ (by rw [Array.size_setIfInBounds]; simp only [List.length_cons] at h; lia)]
  simp only [List.length_cons] at h ⊢
  rw [Array.toList_setIfInBounds,← Nat.add_assoc,List.take_set,List.drop_set_of_lt (by lia)]
  have hl:sa + k < xs.toList.length:=by rw [Array.length_toList]; lia
  rw [List.take_succ_eq_append_getElem hl]
  have e:(xs.toList.take (sa + k)).length = sa + k:=by rw [List.length_take]; lia
  rw [List.set_append_right _ _ (by lia),e,Nat.sub_self]
  simp only [List.set_cons_zero,List.append_assoc,List.singleton_append,List.cons_append,List.nil_append]
  rw [show sa + k + 1 + m.length = sa + k + (m.length + 1) by lia]
theorem An {m:List α} {sa:Nat} {xs:Array α} (h:sa + m.length ≤ xs.size) :
  ((m.zipIdx).foldl (fun a (q:α × Nat) => a.setIfInBounds (sa + q.2) q.1) xs).toList = xs.toList.take sa ++ m ++ xs.toList.drop (sa + m.length):=tq m 0 sa xs h
theorem xH {i:Nat}:xs.toList.take i = part xs 0 i:=by unfold part; rw [List.drop_zero,Nat.sub_zero]
theorem xI {i:Nat}:xs.toList.drop i = part xs i xs.size:=by
 unfold part
 rw [List.take_of_length_le]
 rw [List.length_drop,Array.length_toList]; exact Nat.le_refl _
end
end TS
namespace TS
open PySem PyProof.Rows
noncomputable def wj:Bool → Keyed → Array Keyed → Nat → Nat → Nat → StateT SortSt Sem (Option Nat):=sortPriv% PySem.Builtin.gallop
noncomputable def tu:Array Keyed → Array Keyed → StateT SortSt Sem (Array Keyed):=sortPriv% PySem.Builtin.mergeLo
noncomputable def tw:Array Keyed → Array Keyed → StateT SortSt Sem (Array Keyed):=sortPriv% PySem.Builtin.mergeHi
section
variable {prog:Program} {w:World} {A:Around} {E:Value → Shared → Prop} {s:Shared} {κ:SortKind} {S:Keyed → Prop} {r:Keyed → Nat} {st:SortSt}
noncomputable def xJ (prog:Program) (w:World) (A:Around) (s:Shared) (κ:SortKind) (S:Keyed → Prop) (r:Keyed → Nat):Prop :=
 ∀ (x y:Keyed) (Q:Bool → Shared → Prop),S x → S y → Q (decide (r x < r y)) s → wpAny (model prog w) A (keyLt' κ x.1 y.1) Q (fun _ _ => False) s
theorem JU (C:xJ prog w A s κ S r) {x y:Keyed} {Q:Option Bool → SortSt → Prop} (hk:kindOf st = κ) (hx:S x) (hy:S y) (h:Q (some (decide (r x < r y))) st) :
  wpS (model prog w) A E s (lt' x y) Q st:=by
 rw [lt'_eq]
 refine wpS_bind (wpS_get ?_)
 rw [hk]
 refine wpS_bind (wpS_lift (wpAny_attempt (wpAny_mono (C x y (fun c s' => c = decide (r x < r y) ∧ s' = s) hx hy ⟨rfl,rfl⟩) (fun c s' q => ⟨q.2,?_⟩) fun _ _ q => q.elim)))
 rw [q.1]
 exact wpS_pure h
theorem df {xs:Array Keyed} {i:Nat} {x:Keyed} {Q:Keyed → SortSt → Prop} (e:xs[i]? = some x) (h:Q x st):wpS (model prog w) A E s (elem' xs i) Q st:=by
 rw [elem'_eq,e]
 exact wpS_pure h
theorem JV (C:xJ prog w A s κ S r) {i j:Nat} {x y:Keyed} {Q:Option Bool → SortSt → Prop} (hk:kindOf st = κ) (e1:(arrOf st)[i]? = some x) (e2:(arrOf st)[j]? = some y) (hx:S x) (hy:S y) (h:Q (some (decide (r x < r y))) st) :
  wpS (model prog w) A E s (ltAt' i j) Q st:=by
 rw [ltAt'_eq]
 exact wpS_bind (wpS_get (wpS_bind (df e1 (wpS_bind (df e2 (JU C hk hx hy h))))))
noncomputable def oZ (left:Bool) (k n:Nat):Bool:=if left then decide (n < k) else !(decide (k < n))
theorem Ao {left:Bool} {k n m:Nat} (h:n ≤ m) (hb:oZ left k m = true):oZ left k n = true:=by
 unfold oZ at *
 cases left
 ·simp at hb ⊢; lia
 ·simp at hb ⊢; lia
theorem GP {left:Bool} {k n m:Nat} (h:n ≤ m) (hb:oZ left k n = false):oZ left k m = false:=by
 cases z:oZ left k m with
 | false => rfl
 | true => rw [Ao h z] at hb; cases hb
theorem at_of {xs:Array Keyed} {i:Nat} (h:i < xs.size):∃ x,xs[i]? = some x ∧ x ∈ xs ∧ K r xs i = r x:=⟨xs[i],getElem?_pos xs i h,Array.getElem_mem h,eU (getElem?_pos xs i h)⟩
theorem NA (C:xJ prog w A s κ S r) {left:Bool} {key:Keyed} {xs:Array Keyed} {i:Nat} {Q:Option Bool → SortSt → Prop} (hk:kindOf st = κ) (hS:∀ x ∈ xs,S x) (hy:S key) (hi:i < xs.size) (h:Q (some (oZ left (r key) (K r xs i))) st) :
  wpS (model prog w) A E s (elem' xs i >>= fun y => if left = true then lt' y key else lt' key y >>= fun c => pure (c.map (!·))) Q st:=by
 obtain ⟨x,e,m,ek⟩:=at_of (r:=r) hi
 rw [ek] at h
 refine wpS_bind (df e ?_)
 cases left with
 | true => exact JU C hk (hS x m) hy h
 | false => exact wpS_bind (JU C hk hy (hS x m) (wpS_pure h))
theorem iO (C:xJ prog w A s κ S r) {left:Bool} {key:Keyed} {xs:Array Keyed} {base n hint:Nat} {Q:Option Nat → SortSt → Prop} (hk:kindOf st = κ) (hS:∀ x ∈ xs,S x) (hy:S key) (hz:base + n ≤ xs.size) (hh:hint < n) (up:Up r xs base (base + n))
  (h:∀ k,k ≤ n → (∀ i,i < k → oZ left (r key) (K r xs (base + i)) = true) → (∀ i,k ≤ i → i < n → oZ left (r key) (K r xs (base + i)) = false) → Q (some k) st) :
  wpS (model prog w) A E s (wj left key xs base n hint) Q st:=by
 obtain ⟨b,eb⟩:∃ b:Nat → Bool,∀ i,b i = oZ left (r key) (K r xs (base + i)):=⟨_,fun _ => rfl⟩
 have Lx:∀ i j,i ≤ j → j < n → b j = true → b i = true:=fun i j a c d => by
  rw [eb] at d ⊢
  exact Ao (up.le (by lia) (by lia) (by lia)) d
 have Ly:∀ i j,i ≤ j → j < n → b i = false → b j = false:=fun i j a c d => by
  rw [eb] at d ⊢
  exact GP (up.le (by lia) (by lia) (by lia)) d
 have ask:∀ {i:Nat} {Q:Option Bool → SortSt → Prop},i < n → Q (some (b i)) st → wpS (model prog w) A E s (elem' xs (base + i) >>= fun y => if left = true then lt' y key else lt' key y >>= fun c => pure (c.map (!·))) Q st:=by
  intro i Q hi q
  rw [eb] at q
  exact NA C hk hS hy (by lia) q
 simp only [← eb] at h
 unfold wj
 refine wpS_bind (ask hh ?_)
 dsimp only
 cases c:b hint with
 | true =>
  rw [if_pos rfl]
  refine wpS_bind (wpS_mono (wpS_forRange (I:=fun x z av => av = st ∧ ∃ l o,z = (none,l,o) ∧ x + 1 ≤ o ∧ l < o ∧ hint + l < n ∧ b (hint + l) = true) (Q:=fun z av => av = st ∧ ∃ l o,z = (none,l,o) ∧ l < o ∧ hint + l < n ∧ b (hint + l) = true ∧ (o < n - hint → b (hint + o) = false)) ?_ ?_ ⟨rfl,0,1,rfl,by lia,by lia,by lia,c⟩) ?_)
  ·rintro x z av _ hx ⟨e,l,o,rfl,h1,h2,h3,h4⟩
   rw [e]
   dsimp only
   by_cases q:o ≥ n - hint
   ·rw [if_pos q]
    exact wpS_pure ⟨rfl,l,o,rfl,h2,h3,h4,fun z => absurd z (by lia)⟩
   ·rw [if_neg q]
    refine wpS_bind (ask (by lia) ?_)
    dsimp only
    cases d:b (hint + o) with
    | true => exact wpS_pure ⟨rfl,o,2 * o + 1,rfl,by lia,by lia,by lia,d⟩
    | false => exact wpS_pure ⟨rfl,l,o,rfl,h2,h3,h4,fun _ => d⟩
  ·rintro z av ⟨e,l,o,rfl,h1,h2,h3,h4⟩
   exact ⟨e,l,o,rfl,h2,h3,h4,fun z => absurd z (by lia)⟩
  ·rintro z av ⟨e,l,o,rfl,h2,h3,h4,h5⟩
   rw [e]
   dsimp only
   obtain ⟨lo,HL⟩:∃ lo,lo = hint + l + 1:=⟨_,rfl⟩
   obtain ⟨hi,JW⟩:∃ hi,hi = hint + min o (n - hint):=⟨_,rfl⟩
   rw [← HL,← JW]
   have g1:lo ≤ hi:=by lia
   have g2:hi ≤ n:=by lia
   have g3:∀ i,i < lo → b i = true:=fun i q => Lx i (hint + l) (by lia) h3 h4
   have g4:∀ i,hi ≤ i → i < n → b i = false:=fun i q q2 => Ly (hint + o) i (by lia) q2 (h5 (by lia))
   clear HL JW
   refine wpS_bind (wpS_mono (wpS_forRange (I:=fun x z av => av = st ∧ ∃ lo hi,z = (none,lo,hi) ∧ lo ≤ hi ∧ hi ≤ n ∧ hi - lo + x ≤ n ∧ (∀ i,i < lo → b i = true) ∧ ∀ i,hi ≤ i → i < n → b i = false) (Q:=fun z av => av = st ∧ ∃ k,z = (none,k,k) ∧ k ≤ n ∧ (∀ i,i < k → b i = true) ∧ ∀ i,k ≤ i → i < n → b i = false) ?_ ?_ ⟨rfl,lo,hi,rfl,g1,g2,by lia,g3,g4⟩) ?_)
   ·rintro x z av _ hx ⟨e,lo,hi,rfl,h1,h2,h3,h4,h5⟩
    rw [e]
    dsimp only
    by_cases q:lo ≥ hi
    ·rw [if_pos q]
     have:lo = hi:=by lia
     subst this
     exact wpS_pure ⟨rfl,lo,rfl,h2,h4,h5⟩
    ·rw [if_neg q]
     refine wpS_bind (ask (by lia) ?_)
     dsimp only
     cases d:b (lo + (hi - lo) / 2) with
     | true => exact wpS_pure ⟨rfl,_,hi,rfl,by lia,h2,by lia,fun i q => Lx i _ (by lia) (by lia) d,h5⟩
     | false => exact wpS_pure ⟨rfl,lo,_,rfl,by lia,by lia,by lia,h4,fun i q q2 => Ly _ i q q2 d⟩
   ·rintro z av ⟨e,lo,hi,rfl,h1,h2,h3,h4,h5⟩
    have:lo = hi:=by lia
    subst this
    exact ⟨e,lo,rfl,h2,h4,h5⟩
   ·rintro z av ⟨e,k,rfl,h1,h2,h3⟩
    rw [e]
    exact wpS_pure (h k h1 h2 h3)
 | false =>
  rw [if_neg Bool.false_ne_true]
  refine wpS_bind (wpS_mono (wpS_forRange (I:=fun x z av => av = st ∧ ∃ l o,z = (none,l,o) ∧ x + 1 ≤ o ∧ l < o ∧ l ≤ hint ∧ b (hint - l) = false) (Q:=fun z av => av = st ∧ ∃ l o,z = (none,l,o) ∧ l < o ∧ l ≤ hint ∧ b (hint - l) = false ∧ (o < hint + 1 → b (hint - o) = true)) ?_ ?_ ⟨rfl,0,1,rfl,by lia,by lia,by lia,c⟩) ?_)
  ·rintro x z av _ hx ⟨e,l,o,rfl,h1,h2,h3,h4⟩
   rw [e]
   dsimp only
   by_cases q:o ≥ hint + 1
   ·rw [if_pos q]
    exact wpS_pure ⟨rfl,l,o,rfl,h2,h3,h4,fun z => absurd z (by lia)⟩
   ·rw [if_neg q]
    refine wpS_bind (ask (by lia) ?_)
    dsimp only
    cases d:b (hint - o) with
    | true => exact wpS_pure ⟨rfl,l,o,rfl,h2,h3,h4,fun _ => d⟩
    | false => exact wpS_pure ⟨rfl,o,2 * o + 1,rfl,by lia,by lia,by lia,d⟩
  ·rintro z av ⟨e,l,o,rfl,h1,h2,h3,h4⟩
   exact ⟨e,l,o,rfl,h2,h3,h4,fun z => absurd z (by lia)⟩
  ·rintro z av ⟨e,l,o,rfl,h2,h3,h4,h5⟩
   rw [e]
   dsimp only
   obtain ⟨lo,HL⟩:∃ lo,lo = hint + 1 - min o (hint + 1):=⟨_,rfl⟩
   obtain ⟨hi,JW⟩:∃ hi,hi = hint - l:=⟨_,rfl⟩
   rw [← HL,← JW]
   have g1:lo ≤ hi:=by lia
   have g2:hi ≤ n:=by lia
   have g3:∀ i,i < lo → b i = true:=fun i q => Lx i (hint - o) (by lia) (by lia) (h5 (by lia))
   have g4:∀ i,hi ≤ i → i < n → b i = false:=fun i q q2 => Ly (hint - l) i (by lia) q2 h4
   clear HL JW
   refine wpS_bind (wpS_mono (wpS_forRange (I:=fun x z av => av = st ∧ ∃ lo hi,z = (none,lo,hi) ∧ lo ≤ hi ∧ hi ≤ n ∧ hi - lo + x ≤ n ∧ (∀ i,i < lo → b i = true) ∧ ∀ i,hi ≤ i → i < n → b i = false) (Q:=fun z av => av = st ∧ ∃ k,z = (none,k,k) ∧ k ≤ n ∧ (∀ i,i < k → b i = true) ∧ ∀ i,k ≤ i → i < n → b i = false) ?_ ?_ ⟨rfl,lo,hi,rfl,g1,g2,by lia,g3,g4⟩) ?_)
   ·rintro x z av _ hx ⟨e,lo,hi,rfl,h1,h2,h3,h4,h5⟩
    rw [e]
    dsimp only
    by_cases q:lo ≥ hi
    ·rw [if_pos q]
     have:lo = hi:=by lia
     subst this
     exact wpS_pure ⟨rfl,lo,rfl,h2,h4,h5⟩
    ·rw [if_neg q]
     refine wpS_bind (ask (by lia) ?_)
     dsimp only
     cases d:b (lo + (hi - lo) / 2) with
     | true => exact wpS_pure ⟨rfl,_,hi,rfl,by lia,h2,by lia,fun i q => Lx i _ (by lia) (by lia) d,h5⟩
     | false => exact wpS_pure ⟨rfl,lo,_,rfl,by lia,by lia,by lia,h4,fun i q q2 => Ly _ i q q2 d⟩
   ·rintro z av ⟨e,lo,hi,rfl,h1,h2,h3,h4,h5⟩
    have:lo = hi:=by lia
    subst this
    exact ⟨e,lo,rfl,h2,h4,h5⟩
   ·rintro z av ⟨e,k,rfl,h1,h2,h3⟩
    rw [e]
    exact wpS_pure (h k h1 h2 h3)
end
end TS
namespace TS
open PySem PyProof.Rows
section
variable {prog:Program} {w:World} {A:Around} {E:Value → Shared → Prop} {s:Shared} {κ:SortKind} {S:Keyed → Prop} {r:Keyed → Nat} {st:SortSt}
noncomputable abbrev Gs (st:SortSt) (g:Nat):SortSt:=SortSt.mk' (kindOf st) (arrOf st) (pendingOf st) g (failedOf st)
theorem bO {α:Type} {c:Prop} [Decidable c] {m1 m2:StateT SortSt Sem α} {Q:α → SortSt → Prop} {M:Model} (h1:c → wpS M A E s m1 Q st) (h2:¬c → wpS M A E s m2 Q st):wpS M A E s (if c then m1 else m2) Q st:=by
 by_cases q:c
 ·rw [if_pos q]; exact h1 q
 ·rw [if_neg q]; exact h2 q
theorem bJ {α:Type} {x y:Nat} {m1 m2:StateT SortSt Sem α} {Q:α → SortSt → Prop} {M:Model} (h1:x = y → wpS M A E s m1 Q st) (h2:x ≠ y → wpS M A E s m2 Q st):wpS M A E s (if (x == y) = true then m1 else m2) Q st :=
 bO (fun q => h1 (beq_iff_eq.mp q)) fun q => h2 fun z => q (beq_iff_eq.mpr z)
noncomputable def Good (r:Keyed → Nat) (a b m:Array Keyed):Prop:=m.toList.Perm (a.toList ++ b.toList) ∧ BD (Lw r) m.toList
structure Mm (r:Keyed → Nat) (a b out:Array Keyed) (ia ib:Nat):Prop where
 la:ia ≤ a.size
 lb:ib ≤ b.size
 me:xG (Lw r) (a.toList ++ b.toList) out.toList (part a ia a.size) (part b ib b.size)
section
variable {a b out:Array Keyed} {ia ib:Nat} (ua:Up r a 0 a.size) (ub:Up r b 0 b.size)
include ua ub
theorem Mm.JX (h:Mm r a b out ia ib) (k:Nat) (hk:ia + k ≤ a.size) (l:ib < b.size → ∀ i,i < k → K r a (ia + i) ≤ K r b ib):Mm r a b (out ++ a.extract ia (ia + k)) (ia + k) ib:=by
 refine ⟨hk,h.lb,?_⟩
 have m:=h.me
 rw [bV (i:=ia) (j:=ia + k) (by lia) hk (Nat.le_refl _)] at m
 rw [Array.toList_append,aG]
 refine m.a fun x hx y hy => ?_
 obtain ⟨i,i1,i2,i3⟩:=bj hx
 obtain ⟨j,j1,j2,j3⟩:=bj hy
 show r x ≤ r y
 rw [← eU (r:=r) i3,← eU (r:=r) j3]
 have:=l (by lia) (i - ia) (by lia)
 rw [show ia + (i - ia) = i by lia] at this
 exact Nat.le_trans this (ub.le (Nat.zero_le _) j1 j2)
theorem Mm.JY (h:Mm r a b out ia ib) (k:Nat) (hk:ib + k ≤ b.size) (l:ia < a.size → ∀ i,i < k → K r b (ib + i) ≤ K r a ia):Mm r a b (out ++ b.extract ib (ib + k)) ia (ib + k):=by
 refine ⟨h.la,hk,?_⟩
 have m:=h.me
 rw [bV (i:=ib) (j:=ib + k) (by lia) hk (Nat.le_refl _)] at m
 rw [Array.toList_append,aG]
 refine m.b fun x hx y hy => ?_
 obtain ⟨i,i1,i2,i3⟩:=bj hx
 obtain ⟨j,j1,j2,j3⟩:=bj hy
 show r x ≤ r y
 rw [← eU (r:=r) i3,← eU (r:=r) j3]
 have:=l (by lia) (i - ib) (by lia)
 rw [show ib + (i - ib) = i by lia] at this
 exact Nat.le_trans this (ua.le (Nat.zero_le _) j1 j2)
theorem Mm.a1 (h:Mm r a b out ia ib) {x:Keyed} (e:a[ia]? = some x) (l:ib < b.size → r x ≤ K r b ib):Mm r a b (out.push x) (ia + 1) ib:=by
 have hz:ia < a.size:=(Array.getElem?_eq_some_iff.mp e).1
 have q:=h.JX ua ub 1 hz fun z i hi => by
  rw [show ia + i = ia by lia,eU e]; exact l z
 have:(out ++ a.extract ia (ia + 1)) = out.push x:=by
  apply Array.toList_inj.mp
  rw [Array.toList_append,aG,jU e,Array.toList_push]
 rwa [this] at q
theorem Mm.b1 (h:Mm r a b out ia ib) {x:Keyed} (e:b[ib]? = some x) (l:ia < a.size → r x ≤ K r a ia):Mm r a b (out.push x) ia (ib + 1):=by
 have hz:ib < b.size:=(Array.getElem?_eq_some_iff.mp e).1
 have q:=h.JY ua ub 1 hz fun z i hi => by
  rw [show ib + i = ib by lia,eU e]; exact l z
 have:(out ++ b.extract ib (ib + 1)) = out.push x:=by
  apply Array.toList_inj.mp
  rw [Array.toList_append,aG,jU e,Array.toList_push]
 rwa [this] at q
omit ua ub in
theorem Mm.done (h:Mm r a b out ia ib) (l:ia = a.size ∨ ib = b.size):Good r a b (out ++ a.extract ia ++ b.extract ib):=by
 unfold Good
 rw [Array.toList_append,Array.toList_append,aG,aG]
 refine h.me.fin fun x hx y hy => ?_
 obtain ⟨i,i1,i2,i3⟩:=bj hx
 obtain ⟨j,j1,j2,j3⟩:=bj hy
 lia
omit ua in
theorem Mm.last (h:Mm r a b out ia ib) (l:ia + 1 = a.size) (hl:K r b (b.size - 1) ≤ K r a (a.size - 1)):Good r a b (out ++ b.extract ib ++ a.extract ia):=by
 unfold Good
 rw [Array.toList_append,Array.toList_append,aG,aG]
 refine h.me.swap.fin fun x hx y hy => ?_
 obtain ⟨i,i1,i2,i3⟩:=bj hx
 obtain ⟨j,j1,j2,j3⟩:=bj hy
 show r x ≤ r y
 rw [← eU (r:=r) i3,← eU (r:=r) j3,show j = a.size - 1 by lia]
 exact Nat.le_trans (ub.le (Nat.zero_le _) (by lia) (by lia)) hl
end
theorem Ap (C:xJ prog w A s κ S r) {a b:Array Keyed} {Q:Array Keyed → SortSt → Prop} (hk:kindOf st = κ) (GQ:∀ x ∈ a,S x) (GR:∀ x ∈ b,S x) (ua:Up r a 0 a.size) (ub:Up r b 0 b.size) (ha:1 ≤ a.size) (hb:1 ≤ b.size)
  (h0:K r b 0 ≤ K r a 0) (hl:K r b (b.size - 1) ≤ K r a (a.size - 1)) (h:∀ m g,Good r a b m → Q m (Gs st g)) :
  wpS (model prog w) A E s (tu a b) Q st:=by
 unfold tu
 refine wpS_bind (wpS_lift (wpAny_rule ⟨rfl,?_⟩))
 obtain ⟨y0,e0,m0,k0⟩:=at_of (r:=r) (xs:=b) (i:=0) (by lia)
 refine wpS_bind (df e0 ?_)
 dsimp only
 have M0:Mm r a b #[] 0 0:=⟨Nat.zero_le _,Nat.zero_le _,by
  rw [du,du]
  exact ⟨List.Perm.refl _,List.Pairwise.nil,by rw [← du]; exact ua.kZ,by rw [← du]; exact ub.kZ,(by intro _ m; cases m),(by intro _ m; cases m)⟩⟩
 have M1:Mm r a b #[y0] 0 1:=M0.b1 ua ub e0 fun _ => by rw [← k0]; exact h0
 refine bJ (fun q => wpS_pure (h _ (gallopOf st) (M1.done (.inr q)))) fun q1 => ?_
 refine bJ (fun q => wpS_pure (h _ (gallopOf st) (M1.last ub q hl))) fun q2 => ?_
 refine wpS_bind (wpS_get ?_)
 refine wpS_bind (wpS_mono (wpS_forRange (I:=fun x z av => (∃ g,av = Gs st g) ∧ ∃ out ia ib mg,z = (none,out,ia,ib,mg) ∧ Mm r a b out ia ib ∧ ia + 1 < a.size ∧ ib < b.size ∧ x < ia + ib)
  (Q:=fun z av => (∃ g,av = Gs st g) ∧ ∃ m y,z = (some m,y) ∧ Good r a b m) ?_ ?_ ⟨⟨gallopOf st,rfl⟩,_,0,1,_,rfl,M1,by lia,by lia,by lia⟩) ?_)
 ·rintro x z av _ hx ⟨⟨g,e⟩,out,ia,ib,mg,rfl,m,l1,l2,l3⟩
  dsimp only
  refine wpS_bind (wpS_mono (wpS_forRange (I:=fun x' z av => (∃ g,av = Gs st g) ∧ ∃ out mK mY c1 c2,z = (none,out,mK,mY,c1,c2) ∧ Mm r a b out mK mY ∧ mK + 1 < a.size ∧ mY < b.size ∧ ia + ib + x' ≤ mK + mY)
   (Q:=fun z av => (∃ g,av = Gs st g) ∧ ((∃ m y,z = (some m,y) ∧ Good r a b m) ∨ ∃ out mK mY c1 c2,z = (none,out,mK,mY,c1,c2) ∧ Mm r a b out mK mY ∧ mK + 1 < a.size ∧ mY < b.size ∧ ia + ib + 1 ≤ mK + mY)) ?_ ?_ ⟨⟨g,e⟩,out,ia,ib,0,0,rfl,m,l1,l2,by lia⟩) ?_)
  ·rintro x' z cg _ NB ⟨⟨g,e⟩,out,mK,mY,c1,c2,rfl,m,l1,l2,l3⟩
   dsimp only
   obtain ⟨y,ey,my,ky⟩:=at_of (r:=r) l2
   obtain ⟨z,ez,mz,kz⟩:=at_of (r:=r) (xs:=a) (i:=mK) (by lia)
   have JZ:kindOf cg = κ:=by rw [e]; exact hk
   refine wpS_bind (df ey (wpS_bind (df ez (wpS_bind (JU C JZ (GR y my) (GQ z mz) ?_)))))
   dsimp only
   refine bO (fun q => ?_) fun q => ?_
   ·have m2:=m.b1 ua ub ey fun _ => by rw [kz]; have:=of_decide_eq_true q; lia
    refine wpS_bind (df ey ?_)
    refine bJ (fun q => wpS_pure ⟨⟨g,e⟩,.inl ⟨_,_,rfl,m2.done (.inr q)⟩⟩) fun q3 => ?_
    exact bO (fun q => wpS_pure ⟨⟨g,e⟩,.inr ⟨_,_,_,_,_,rfl,m2,l1,by lia,by lia⟩⟩) fun q => wpS_pure ⟨⟨g,e⟩,_,_,_,_,_,rfl,m2,l1,by lia,by lia⟩
   ·have m2:=m.a1 ua ub ez fun _ => by rw [ky]; have:=of_decide_eq_false (by simpa using q:decide (r y < r z) = false); lia
    refine wpS_bind (df ez ?_)
    refine bJ (fun q => wpS_pure ⟨⟨g,e⟩,.inl ⟨_,_,rfl,m2.last ub q hl⟩⟩) fun q3 => ?_
    exact bO (fun q => wpS_pure ⟨⟨g,e⟩,.inr ⟨_,_,_,_,_,rfl,m2,by lia,l2,by lia⟩⟩) fun q => wpS_pure ⟨⟨g,e⟩,_,_,_,_,_,rfl,m2,by lia,l2,by lia⟩
  ·rintro z cg ⟨e,out,mK,mY,c1,c2,rfl,m,l1,l2,l3⟩
   exact ⟨e,.inr ⟨out,mK,mY,c1,c2,rfl,m,l1,l2,by lia⟩⟩
  ·rintro z cg ⟨e,⟨m,y,rfl,gd⟩ | ⟨out,GS,RD,c1,c2,rfl,m,l1,l2,l4⟩⟩
   ·exact wpS_pure ⟨e,_,_,rfl,gd⟩
   ·dsimp only
    refine wpS_bind (wpS_lift (wpAny_rule ⟨rfl,?_⟩))
    refine wpS_bind (wpS_mono (wpS_forRange (I:=fun x' z av => (∃ g,av = Gs st g) ∧ ∃ out mK mY mg c1 c2,z = (none,out,mK,mY,mg,c1,c2) ∧ Mm r a b out mK mY ∧ mK + 1 < a.size ∧ mY < b.size ∧ ia + ib + 1 ≤ mK + mY)
     (Q:=fun z av => (∃ g,av = Gs st g) ∧ ((∃ m y,z = (some m,y) ∧ Good r a b m) ∨ ∃ out mK mY mg c1 c2,z = (none,out,mK,mY,mg,c1,c2) ∧ Mm r a b out mK mY ∧ mK + 1 < a.size ∧ mY < b.size ∧ ia + ib + 1 ≤ mK + mY)) ?_ ?_ ⟨e,out,GS,RD,_,c1,c2,rfl,m,l1,l2,by lia⟩) ?_)
    ·rintro x' z iY _ NB ⟨⟨g,e⟩,out,ia,ib,mg,c1,c2,rfl,m,l1,l2,l3⟩
     dsimp only
     obtain ⟨y,ey,my,ky⟩:=at_of (r:=r) l2
     have GU:∀ (mg:Nat) {Q:PUnit → SortSt → Prop},Q ⟨⟩ (Gs st mg) → wpS (model prog w) A E s (modify fun s:SortSt => Gs s mg) Q iY:=by
      intro mg Q q
      refine wpS_modify ?_
      rw [e]; exact q
     refine bO (fun qg => ?_) fun qg => ?_
     all_goals
      refine wpS_bind (GU _ ?_)
      refine wpS_bind (df ey (wpS_bind (iO C hk GQ (GR y my) (by lia) (by lia) (ua.sub (by lia) (by lia)) fun k k1 k2 k3 => ?_)))
      dsimp only
      have mk:=m.JX ua ub k (by lia) fun _ i hi => by
       have:=k2 i hi
       unfold oZ at this
       simp only [Bool.false_eq_true,if_false,Bool.not_eq_true',decide_eq_false_iff_not] at this
       lia
      have nx:ia + k < a.size → r y ≤ K r a (ia + k):=fun z => by
       have:=k3 k (Nat.le_refl _) (by lia)
       unfold oZ at this
       simp only [Bool.false_eq_true,if_false,Bool.not_eq_false',decide_eq_true_eq] at this
       lia
      refine bO (fun qk => bJ (fun q => wpS_pure ⟨⟨_,rfl⟩,.inl ⟨_,_,rfl,mk.last ub q hl⟩⟩) fun q1 => bJ (fun q => wpS_pure ⟨⟨_,rfl⟩,.inl ⟨_,_,rfl,mk.done (.inl q)⟩⟩) fun q2 => ?_) fun qk => ?_
      obtain ⟨GV,eo⟩:∃ z,z = out ++ a.extract ia (ia + k):=⟨_,rfl⟩
      obtain ⟨GS,ei⟩:∃ z,z = ia + k:=⟨_,rfl⟩
      rw [← eo,← ei]
      rw [← eo,← ei] at mk
      rw [← ei] at nx
      have l4:GS + 1 < a.size:=by lia
      rotate_left
      have k0:k = 0:=by lia
      subst k0
      obtain ⟨GV,eo⟩:∃ z,z = out:=⟨_,rfl⟩
      obtain ⟨GS,ei⟩:∃ z,z = ia:=⟨_,rfl⟩
      replace mk:Mm r a b out ia ib:=m
      rw [Nat.add_zero,← ei] at nx
      rw [← eo,← ei] at mk ⊢
      have l4:GS + 1 < a.size:=by lia
      all_goals
       have m2:=mk.b1 ua ub ey nx
       refine wpS_bind (df ey ?_)
       refine bJ (fun q => wpS_pure ⟨⟨_,rfl⟩,.inl ⟨_,_,rfl,m2.done (.inr q)⟩⟩) fun q3 => ?_
       obtain ⟨x1,ex,mx,kx⟩:=at_of (r:=r) (xs:=a) (i:=GS) (by lia)
       refine wpS_bind (df ex (wpS_bind (iO C hk GR (GQ x1 mx) (by lia) (by lia) (ub.sub (by lia) (by lia)) fun j j1 j2 j3 => ?_)))
       dsimp only
       have mj:=m2.JY ua ub j (by lia) fun _ i hi => by
        have:=j2 i hi
        unfold oZ at this
        simp only [if_true,decide_eq_true_eq] at this
        lia
       have nj:ib + 1 + j < b.size → r x1 ≤ K r b (ib + 1 + j):=fun z => by
        have:=j3 j (Nat.le_refl _) (by lia)
        unfold oZ at this
        simp only [if_true,decide_eq_false_iff_not] at this
        lia
       refine bO (fun qj => bJ (fun q => wpS_pure ⟨⟨_,rfl⟩,.inl ⟨_,_,rfl,mj.done (.inr q)⟩⟩) fun q4 => ?_) fun qj => ?_
       obtain ⟨NC,ej⟩:∃ z,z = ib + 1 + j:=⟨_,rfl⟩
       rw [← ej] at mj nj ⊢
       have l5:NC < b.size:=by lia
       rotate_left
       have j0:j = 0:=by lia
       subst j0
       replace mj:=m2
       obtain ⟨NC,ej⟩:∃ z,z = ib + 1:=⟨_,rfl⟩
       rw [Nat.add_zero,← ej] at nj
       rw [← ej] at mj ⊢
       have l5:NC < b.size:=by lia
       all_goals
        have m3:=mj.a1 ua ub ex nj
        refine wpS_bind (df ex ?_)
        refine bJ (fun q => wpS_pure ⟨⟨_,rfl⟩,.inl ⟨_,_,rfl,m3.last ub q hl⟩⟩) fun q5 => ?_
        exact bO (fun q => wpS_pure ⟨⟨_,rfl⟩,.inr ⟨_,_,_,_,_,_,rfl,m3,by lia,by lia,by lia⟩⟩) fun q => wpS_pure ⟨⟨_,rfl⟩,_,_,_,_,_,_,rfl,m3,by lia,by lia,by lia⟩
    ·rintro z iY ⟨e,out,mK,mY,mg,c1,c2,rfl,m,l1,l2,l3⟩
     exact ⟨e,.inr ⟨out,mK,mY,mg,c1,c2,rfl,m,l1,l2,l3⟩⟩
    ·rintro z iY ⟨⟨g,e⟩,⟨m,y,rfl,gd⟩ | ⟨out,GS,RD,mg,c1,c2,rfl,m,l1,l2,l4⟩⟩
     ·exact wpS_pure ⟨⟨g,e⟩,_,_,rfl,gd⟩
     ·dsimp only
      refine wpS_bind (wpS_modify (wpS_pure ⟨⟨mg + 1,?_⟩,_,_,_,_,rfl,m,l1,l2,by lia⟩))
      rw [e]
 ·rintro z av ⟨e,out,ia,ib,mg,rfl,m,l1,l2,l3⟩
  lia
 ·rintro z av ⟨⟨g,e⟩,m,y,rfl,gd⟩
  rw [e]
  exact wpS_pure (h m g gd)
end
end TS
namespace TS
open PySem PyProof.Rows
section
variable {prog:Program} {w:World} {A:Around} {E:Value → Shared → Prop} {s:Shared} {κ:SortKind} {S:Keyed → Prop} {r:Keyed → Nat} {st:SortSt}
structure Mh (r:Keyed → Nat) (a b out:Array Keyed) (na nb:Nat):Prop where
 la:na ≤ a.size
 lb:nb ≤ b.size
 me:xG (RA r) (a.toList ++ b.toList) out.toList (part a 0 na).reverse (part b 0 nb).reverse
section
variable {a b out:Array Keyed} {na nb:Nat} (ua:Up r a 0 a.size) (ub:Up r b 0 b.size)
include ua ub
theorem Mh.JX (h:Mh r a b out na nb) {k:Nat} (hk:k ≤ na) (l:0 < nb → ∀ i,k ≤ i → i < na → K r b (nb - 1) ≤ K r a i):Mh r a b (out ++ (a.extract k na).reverse) k nb:=by
 have la:=h.la
 have lb:=h.lb
 refine ⟨by lia,h.lb,?_⟩
 have m:=h.me
 rw [bV (i:=0) (j:=k) (by lia) hk h.la,List.reverse_append] at m
 rw [Array.toList_append,Array.toList_reverse,aG]
 refine m.a fun x hx y hy => ?_
 obtain ⟨i,i1,i2,i3⟩:=bj (List.mem_reverse.mp hx)
 obtain ⟨j,j1,j2,j3⟩:=bj (List.mem_reverse.mp hy)
 show r y ≤ r x
 rw [← eU (r:=r) i3,← eU (r:=r) j3]
 exact Nat.le_trans (ub.le (Nat.zero_le _) (by lia) (by lia)) (l (by lia) i i1 i2)
theorem Mh.JY (h:Mh r a b out na nb) {k:Nat} (hk:k ≤ nb) (l:0 < na → ∀ i,k ≤ i → i < nb → K r a (na - 1) ≤ K r b i):Mh r a b (out ++ (b.extract k nb).reverse) na k:=by
 have la:=h.la
 have lb:=h.lb
 refine ⟨h.la,by lia,?_⟩
 have m:=h.me
 rw [bV (i:=0) (j:=k) (by lia) hk h.lb,List.reverse_append] at m
 rw [Array.toList_append,Array.toList_reverse,aG]
 refine m.b fun x hx y hy => ?_
 obtain ⟨i,i1,i2,i3⟩:=bj (List.mem_reverse.mp hx)
 obtain ⟨j,j1,j2,j3⟩:=bj (List.mem_reverse.mp hy)
 show r y ≤ r x
 rw [← eU (r:=r) i3,← eU (r:=r) j3]
 exact Nat.le_trans (ua.le (Nat.zero_le _) (by lia) (by lia)) (l (by lia) i i1 i2)
theorem Mh.a1 (h:Mh r a b out na nb) (hn:0 < na) {x:Keyed} (e:a[na - 1]? = some x) (l:0 < nb → K r b (nb - 1) ≤ r x):Mh r a b (out.push x) (na - 1) nb:=by
 have q:=h.JX ua ub (k:=na - 1) (by lia) fun z i i1 i2 => by
  rw [show i = na - 1 by lia,eU e]; exact l z
 have:(out ++ (a.extract (na - 1) na).reverse) = out.push x:=by
  apply Array.toList_inj.mp
  have e2:=jU e
  rw [show na - 1 + 1 = na by lia] at e2
  rw [Array.toList_append,Array.toList_reverse,aG,e2,Array.toList_push,List.reverse_singleton]
 rwa [this] at q
theorem Mh.b1 (h:Mh r a b out na nb) (hn:0 < nb) {x:Keyed} (e:b[nb - 1]? = some x) (l:0 < na → K r a (na - 1) ≤ r x):Mh r a b (out.push x) na (nb - 1):=by
 have q:=h.JY ua ub (k:=nb - 1) (by lia) fun z i i1 i2 => by
  rw [show i = nb - 1 by lia,eU e]; exact l z
 have:(out ++ (b.extract (nb - 1) nb).reverse) = out.push x:=by
  apply Array.toList_inj.mp
  have e2:=jU e
  rw [show nb - 1 + 1 = nb by lia] at e2
  rw [Array.toList_append,Array.toList_reverse,aG,e2,Array.toList_push,List.reverse_singleton]
 rwa [this] at q
omit ua ub in
theorem Mh.done (h:Mh r a b out na nb) (l:na = 0 ∨ nb = 0):Good r a b (a.extract 0 na ++ b.extract 0 nb ++ out.reverse):=by
 unfold Good
 rw [Array.toList_append,Array.toList_append,Array.toList_reverse,aG,aG]
 have f:=h.me.fin fun x hx y hy => by
  obtain ⟨i,i1,i2,i3⟩:=bj (List.mem_reverse.mp hx)
  obtain ⟨j,j1,j2,j3⟩:=bj (List.mem_reverse.mp hy)
  lia
 have e:part a 0 na ++ part b 0 nb ++ out.toList.reverse = (out.toList ++ (part a 0 na).reverse ++ (part b 0 nb).reverse).reverse:=by
  rw [List.reverse_append,List.reverse_append,List.reverse_reverse,List.reverse_reverse,← List.append_assoc]
  rcases l with z | z
  ·rw [z,tm (Nat.le_refl _),List.append_nil,List.nil_append]
  ·rw [z,tm (Nat.le_refl _),List.append_nil,List.nil_append]
 rw [e]
 exact ⟨(List.reverse_perm _).trans f.1,List.pairwise_reverse.mpr f.2⟩
omit ub in
theorem Mh.first (h:Mh r a b out na nb) (l:nb = 1) (h0:K r b 0 ≤ K r a 0):Good r a b (b.extract 0 nb ++ a.extract 0 na ++ out.reverse):=by
 have la:=h.la
 unfold Good
 rw [Array.toList_append,Array.toList_append,Array.toList_reverse,aG,aG]
 have f:=h.me.fin fun x hx y hy => by
  obtain ⟨i,i1,i2,i3⟩:=bj (List.mem_reverse.mp hx)
  obtain ⟨j,j1,j2,j3⟩:=bj (List.mem_reverse.mp hy)
  show r y ≤ r x
  rw [← eU (r:=r) i3,← eU (r:=r) j3,show j = 0 by lia]
  exact Nat.le_trans h0 (ua.le (Nat.le_refl _) (Nat.zero_le _) (by lia))
 have e:part b 0 nb ++ part a 0 na ++ out.toList.reverse = (out.toList ++ (part a 0 na).reverse ++ (part b 0 nb).reverse).reverse:=by
  rw [List.reverse_append,List.reverse_append,List.reverse_reverse,List.reverse_reverse,← List.append_assoc]
 rw [e]
 exact ⟨(List.reverse_perm _).trans f.1,List.pairwise_reverse.mpr f.2⟩
end
theorem Aq (C:xJ prog w A s κ S r) {a b:Array Keyed} {Q:Array Keyed → SortSt → Prop} (hk:kindOf st = κ) (GQ:∀ x ∈ a,S x) (GR:∀ x ∈ b,S x) (ua:Up r a 0 a.size) (ub:Up r b 0 b.size) (ha:1 ≤ a.size) (hb:1 ≤ b.size)
  (h0:K r b 0 ≤ K r a 0) (hl:K r b (b.size - 1) ≤ K r a (a.size - 1)) (h:∀ m g,Good r a b m → Q m (Gs st g)) :
  wpS (model prog w) A E s (tw a b) Q st:=by
 unfold tw
 refine wpS_bind (wpS_lift (wpAny_rule ⟨rfl,?_⟩))
 obtain ⟨y0,e0,m0,k0⟩:=at_of (r:=r) (xs:=a) (i:=a.size - 1) (by lia)
 refine wpS_bind (df e0 ?_)
 dsimp only
 have M0:Mh r a b #[] a.size b.size:=⟨Nat.le_refl _,Nat.le_refl _,by
  rw [du,du]
  exact ⟨(List.reverse_perm _).append (List.reverse_perm _),List.Pairwise.nil,by rw [← du]; exact ua.rev,by rw [← du]; exact ub.rev,(by intro _ m; cases m),(by intro _ m; cases m)⟩⟩
 have M1:Mh r a b #[y0] (a.size - 1) b.size:=M0.a1 ua ub (by lia) e0 fun _ => by rw [← k0]; exact hl
 refine bJ (fun q => wpS_pure (h _ (gallopOf st) (M1.done (.inl q)))) fun q1 => ?_
 refine bJ (fun q => wpS_pure (h _ (gallopOf st) (M1.first ua q h0))) fun q2 => ?_
 refine wpS_bind (wpS_get ?_)
 refine wpS_bind (wpS_mono (wpS_forRange (I:=fun x z av => (∃ g,av = Gs st g) ∧ ∃ na nb out mg,z = (none,na,nb,out,mg) ∧ Mh r a b out na nb ∧ 0 < na ∧ 1 < nb ∧ x + na + nb < a.size + b.size)
  (Q:=fun z av => (∃ g,av = Gs st g) ∧ ∃ m y,z = (some m,y) ∧ Good r a b m) ?_ ?_ ⟨⟨gallopOf st,rfl⟩,_,_,_,_,rfl,M1,by lia,by lia,by lia⟩) ?_)
 ·rintro x z av _ hx ⟨⟨g,e⟩,na,nb,out,mg,rfl,m,l1,l2,l3⟩
  dsimp only
  refine wpS_bind (wpS_mono (wpS_forRange (I:=fun x' z av => (∃ g,av = Gs st g) ∧ ∃ mL mM out c1 c2,z = (none,mL,mM,out,c1,c2) ∧ Mh r a b out mL mM ∧ 0 < mL ∧ 1 < mM ∧ mL + mM + x' ≤ na + nb)
   (Q:=fun z av => (∃ g,av = Gs st g) ∧ ((∃ m y,z = (some m,y) ∧ Good r a b m) ∨ ∃ mL mM out c1 c2,z = (none,mL,mM,out,c1,c2) ∧ Mh r a b out mL mM ∧ 0 < mL ∧ 1 < mM ∧ mL + mM + 1 ≤ na + nb)) ?_ ?_ ⟨⟨g,e⟩,na,nb,out,0,0,rfl,m,l1,l2,by lia⟩) ?_)
  ·rintro x' z cg _ NB ⟨⟨g,e⟩,mL,mM,out,c1,c2,rfl,m,l1,l2,l3⟩
   dsimp only
   have ma:=m.la
   have mb:=m.lb
   obtain ⟨y,ey,my,ky⟩:=at_of (r:=r) (xs:=b) (i:=mM - 1) (by lia)
   obtain ⟨z,ez,mz,kz⟩:=at_of (r:=r) (xs:=a) (i:=mL - 1) (by lia)
   have JZ:kindOf cg = κ:=by rw [e]; exact hk
   refine wpS_bind (df ey (wpS_bind (df ez (wpS_bind (JU C JZ (GR y my) (GQ z mz) ?_)))))
   dsimp only
   refine bO (fun q => ?_) fun q => ?_
   ·have m2:=m.a1 ua ub l1 ez fun _ => by rw [ky]; have:=of_decide_eq_true q; lia
    refine wpS_bind (df ez ?_)
    refine bJ (fun q => wpS_pure ⟨⟨g,e⟩,.inl ⟨_,_,rfl,m2.done (.inl q)⟩⟩) fun q3 => ?_
    exact bO (fun q => wpS_pure ⟨⟨g,e⟩,.inr ⟨_,_,_,_,_,rfl,m2,by lia,l2,by lia⟩⟩) fun q => wpS_pure ⟨⟨g,e⟩,_,_,_,_,_,rfl,m2,by lia,l2,by lia⟩
   ·have m2:=m.b1 ua ub (by lia) ey fun _ => by rw [kz]; have:=of_decide_eq_false (by simpa using q:decide (r y < r z) = false); lia
    refine wpS_bind (df ey ?_)
    refine bJ (fun q => wpS_pure ⟨⟨g,e⟩,.inl ⟨_,_,rfl,m2.first ua q h0⟩⟩) fun q3 => ?_
    exact bO (fun q => wpS_pure ⟨⟨g,e⟩,.inr ⟨_,_,_,_,_,rfl,m2,l1,by lia,by lia⟩⟩) fun q => wpS_pure ⟨⟨g,e⟩,_,_,_,_,_,rfl,m2,l1,by lia,by lia⟩
  ·rintro z cg ⟨e,mL,mM,out,c1,c2,rfl,m,l1,l2,l3⟩
   exact ⟨e,.inr ⟨mL,mM,out,c1,c2,rfl,m,l1,l2,by lia⟩⟩
  ·rintro z cg ⟨e,⟨m,y,rfl,gd⟩ | ⟨RE,RF,out,c1,c2,rfl,m,l1,l2,l4⟩⟩
   ·exact wpS_pure ⟨e,_,_,rfl,gd⟩
   ·dsimp only
    refine wpS_bind (wpS_lift (wpAny_rule ⟨rfl,?_⟩))
    refine wpS_bind (wpS_mono (wpS_forRange (I:=fun x' z av => (∃ g,av = Gs st g) ∧ ∃ mL mM out mg c1 c2,z = (none,mL,mM,out,mg,c1,c2) ∧ Mh r a b out mL mM ∧ 0 < mL ∧ 1 < mM ∧ mL + mM + 1 ≤ na + nb)
     (Q:=fun z av => (∃ g,av = Gs st g) ∧ ((∃ m y,z = (some m,y) ∧ Good r a b m) ∨ ∃ mL mM out mg c1 c2,z = (none,mL,mM,out,mg,c1,c2) ∧ Mh r a b out mL mM ∧ 0 < mL ∧ 1 < mM ∧ mL + mM + 1 ≤ na + nb)) ?_ ?_ ⟨e,RE,RF,out,_,c1,c2,rfl,m,l1,l2,by lia⟩) ?_)
    ·rintro x' z iY _ NB ⟨⟨g,e⟩,na,nb,out,mg,c1,c2,rfl,m,l1,l2,l3⟩
     dsimp only
     have ma:=m.la
     have mb:=m.lb
     obtain ⟨y,ey,my,ky⟩:=at_of (r:=r) (xs:=b) (i:=nb - 1) (by lia)
     have GU:∀ (mg:Nat) {Q:PUnit → SortSt → Prop},Q ⟨⟩ (Gs st mg) → wpS (model prog w) A E s (modify fun s:SortSt => Gs s mg) Q iY:=by
      intro mg Q q
      refine wpS_modify ?_
      rw [e]; exact q
     refine bO (fun qg => ?_) fun qg => ?_
     all_goals
      refine wpS_bind (GU _ ?_)
      refine wpS_bind (df ey (wpS_bind (iO C hk GQ (GR y my) (by lia) (by lia) (ua.sub (by lia) (by lia)) fun k k1 k2 k3 => ?_)))
      dsimp only
      simp only [Nat.zero_add] at k2 k3
      have mk:=m.JX ua ub k1 fun _ i i1 i2 => by
       have:=k3 i i1 i2
       unfold oZ at this
       simp only [Bool.false_eq_true,if_false,Bool.not_eq_false',decide_eq_true_eq] at this
       lia
      have nx:0 < k → K r a (k - 1) ≤ r y:=fun z => by
       have:=k2 (k - 1) (by lia)
       unfold oZ at this
       simp only [Bool.false_eq_true,if_false,Bool.not_eq_true',decide_eq_false_iff_not] at this
       lia
      refine bO (fun qk => bJ (fun q => wpS_pure ⟨⟨_,rfl⟩,.inl ⟨_,_,rfl,mk.done (.inl q)⟩⟩) fun q2 => ?_) fun qk => ?_
      obtain ⟨GV,eo⟩:∃ z,z = out ++ (a.extract k na).reverse:=⟨_,rfl⟩
      rw [← eo] at mk ⊢
      rotate_left
      have k0:k = na:=by lia
      subst k0
      obtain ⟨GV,eo⟩:∃ z,z = out:=⟨_,rfl⟩
      replace mk:=m
      rw [← eo] at mk ⊢
      all_goals
       have kp:0 < k:=by lia
       have m2:=mk.b1 ua ub (by lia) ey nx
       refine wpS_bind (df ey ?_)
       refine bJ (fun q => wpS_pure ⟨⟨_,rfl⟩,.inl ⟨_,_,rfl,m2.first ua q h0⟩⟩) fun q3 => ?_
       obtain ⟨x1,ex,mx,kx⟩:=at_of (r:=r) (xs:=a) (i:=k - 1) (by lia)
       refine wpS_bind (df ex (wpS_bind (iO C hk GR (GQ x1 mx) (by lia) (by lia) (ub.sub (by lia) (by lia)) fun j j1 j2 j3 => ?_)))
       dsimp only
       simp only [Nat.zero_add] at j2 j3
       have mj:=m2.JY ua ub j1 fun _ i i1 i2 => by
        have:=j3 i i1 i2
        unfold oZ at this
        simp only [if_true,decide_eq_false_iff_not] at this
        lia
       have nj:0 < j → K r b (j - 1) ≤ r x1:=fun z => by
        have:=j2 (j - 1) (by lia)
        unfold oZ at this
        simp only [if_true,decide_eq_true_eq] at this
        lia
       refine bO (fun qj => bJ (fun q => wpS_pure ⟨⟨_,rfl⟩,.inl ⟨_,_,rfl,mj.first ua q h0⟩⟩) fun q4 => bJ (fun q => wpS_pure ⟨⟨_,rfl⟩,.inl ⟨_,_,rfl,mj.done (.inr q)⟩⟩) fun q5 => ?_) fun qj => ?_
       rotate_left
       have j0:j = nb - 1:=by lia
       subst j0
       replace mj:=m2
       all_goals
        have m3:=mj.a1 ua ub kp ex nj
        refine wpS_bind (df ex ?_)
        refine bJ (fun q => wpS_pure ⟨⟨_,rfl⟩,.inl ⟨_,_,rfl,m3.done (.inl q)⟩⟩) fun q5 => ?_
        exact bO (fun q => wpS_pure ⟨⟨_,rfl⟩,.inr ⟨_,_,_,_,_,_,rfl,m3,by lia,by lia,by lia⟩⟩) fun q => wpS_pure ⟨⟨_,rfl⟩,_,_,_,_,_,_,rfl,m3,by lia,by lia,by lia⟩
    ·rintro z iY ⟨e,mL,mM,out,mg,c1,c2,rfl,m,l1,l2,l3⟩
     exact ⟨e,.inr ⟨mL,mM,out,mg,c1,c2,rfl,m,l1,l2,l3⟩⟩
    ·rintro z iY ⟨⟨g,e⟩,⟨m,y,rfl,gd⟩ | ⟨RE,RF,out,mg,c1,c2,rfl,m,l1,l2,l4⟩⟩
     ·exact wpS_pure ⟨⟨g,e⟩,_,_,rfl,gd⟩
     ·dsimp only
      refine wpS_bind (wpS_modify (wpS_pure ⟨⟨mg + 1,?_⟩,_,_,_,_,rfl,m,l1,l2,by lia⟩))
      rw [e]
 ·rintro z av ⟨e,na,nb,out,mg,rfl,m,l1,l2,l3⟩
  lia
 ·rintro z av ⟨⟨g,e⟩,m,y,rfl,gd⟩
  rw [e]
  exact wpS_pure (h m g gd)
end
end TS
namespace TS
open PySem PyProof.Rows
theorem qJ {α:Type} {X Y:Array α} {L M M' R:List α} (h1:X.toList = L ++ M ++ R) (h2:Y.toList = L ++ M' ++ R) (hl:M'.length = M.length) :
  Y.size = X.size ∧ (∀ j,j < L.length ∨ L.length + M.length ≤ j → Y[j]? = X[j]?) ∧ part Y L.length (L.length + M.length) = M':=by
 refine ⟨?_,fun j hj => ?_,?_⟩
 ·rw [← Array.length_toList,← Array.length_toList,h1,h2]; simp only [List.length_append,hl]
 ·rw [← Array.getElem?_toList,← Array.getElem?_toList,h1,h2]
  rcases hj with hj | hj
  ·rw [List.append_assoc,List.append_assoc,List.getElem?_append_left hj,List.getElem?_append_left hj]
  ·rw [List.getElem?_append_right (by rw [List.length_append]; lia),List.getElem?_append_right (by rw [List.length_append]; lia),List.length_append,List.length_append,hl]
 ·unfold part
  rw [h2,List.append_assoc,List.drop_left,Nat.add_sub_cancel_left,← hl,List.take_left]
section
variable {prog:Program} {w:World} {A:Around} {E:Value → Shared → Prop} {s:Shared} {κ:SortKind} {S:Keyed → Prop} {r:Keyed → Nat} {st:SortSt}
theorem Dj {σ:Type} {M:Model} {st av:σ} {Q:PUnit → σ → Prop} (h:Q ⟨⟩ av):wpS M A E s (set av:StateT σ Sem PUnit) Q st:=by
 unfold wpS; rw [StateT.run_set]; exact wpAny_pure ⟨rfl,h⟩
theorem Ar (C:xJ prog w A s κ S r) {X:Array Keyed} {pend:Array (Nat × Nat × Nat)} {mg i sa na p nb q:Nat} {L1 L2:List (Nat × Nat × Nat)} {Q:Bool → SortSt → Prop} (hS:∀ x ∈ X,S x)
  (hp:pend.toList = L1 ++ (sa,na,p) :: (sa + na,nb,q) :: L2) (hi:i = L1.length) (h1:0 < na) (h2:0 < nb) (hz:sa + na + nb ≤ X.size) (u1:Up r X sa (sa + na)) (u2:Up r X (sa + na) (sa + na + nb))
  (h:∀ Y pd g,Y.toList.Perm X.toList → (∀ j,j < sa ∨ sa + na + nb ≤ j → Y[j]? = X[j]?) → Up r Y sa (sa + na + nb) → pd.toList = L1 ++ (sa,na + nb,p) :: L2 → Q true (SortSt.mk' κ Y pd g none)) :
  wpS (model prog w) A E s (mergeAt' i) Q (SortSt.mk' κ X pend mg none):=by
 have p1:pend[i]? = some (sa,na,p):=by
  rw [← Array.getElem?_toList,hp,hi,List.getElem?_append_right (Nat.le_refl _),Nat.sub_self]; rfl
 have p2:pend[i + 1]? = some (sa + na,nb,q):=by
  rw [← Array.getElem?_toList,hp,hi,List.getElem?_append_right (by lia),show L1.length + 1 - L1.length = 1 by lia]; rfl
 obtain ⟨pd,RG⟩:∃ pd,pd = (pend.setIfInBounds i (sa,na + nb,p)).eraseIdxIfInBounds (i + 1):=⟨_,rfl⟩
 have ND:pd.toList = L1 ++ (sa,na + nb,p) :: L2:=by
  rw [RG,Array.toList_eraseIdxIfInBounds,Array.toList_setIfInBounds,hp,hi,List.set_append_right _ _ (Nat.le_refl _),Nat.sub_self,List.set_cons_zero,List.eraseIdx_append_of_length_le (by lia),show L1.length + 1 - L1.length = 1 by lia]
  rfl
 unfold mergeAt'
 refine wpS_bind (wpS_get ?_)
 dsimp only
 rw [p1,p2]
 dsimp only
 refine wpS_bind (Dj ?_)
 rw [← RG]
 obtain ⟨y,ey,my,ky⟩:=at_of (r:=r) (xs:=X) (i:=sa + na) (by lia)
 refine wpS_bind (df ey ?_)
 refine wpS_bind (iO C rfl hS (hS y my) (by lia) h1 u1 fun k k1 k2 k3 => ?_)
 dsimp only
 have lo:∀ i,sa ≤ i → i < sa + k → K r X i ≤ K r X (sa + na):=fun i i1 i2 => by
  have:=k2 (i - sa) (by lia)
  rw [show sa + (i - sa) = i by lia] at this
  unfold oZ at this
  simp only [Bool.false_eq_true,if_false,Bool.not_eq_true',decide_eq_false_iff_not] at this
  lia
 refine bJ (fun z => wpS_pure (h X pd mg (List.Perm.refl _) (fun _ _ => rfl) (fun i j a1 a2 a3 => ?_) ND)) fun z => ?_
 ·rcases Nat.lt_or_ge j (sa + na) with c | c
  ·exact u1 i j a1 a2 c
  ·rcases Nat.lt_or_ge i (sa + na) with d | d
   ·exact Nat.le_trans (lo i a1 (by lia)) (u2.le (Nat.le_refl _) c a3)
   ·exact u2 i j d a2 a3
 obtain ⟨x,ex,mx,kx⟩:=at_of (r:=r) (xs:=X) (i:=sa + na - 1) (by lia)
 have em:sa + k + (na - k) - 1 = sa + na - 1:=by lia
 rw [em]
 refine wpS_bind (df ex ?_)
 refine wpS_bind (iO C rfl hS (hS x mx) (by lia) (by lia) u2 fun m m1 m2 m3 => ?_)
 dsimp only
 have up:∀ i,sa + na + m ≤ i → i < sa + na + nb → K r X (sa + na - 1) ≤ K r X i:=fun i i1 i2 => by
  have:=m3 (i - (sa + na)) (by lia) (by lia)
  rw [show sa + na + (i - (sa + na)) = i by lia] at this
  unfold oZ at this
  simp only [if_true,decide_eq_false_iff_not] at this
  lia
 refine bJ (fun z => wpS_pure (h X pd mg (List.Perm.refl _) (fun _ _ => rfl) (fun i j a1 a2 a3 => ?_) ND)) fun z2 => ?_
 ·rcases Nat.lt_or_ge j (sa + na) with c | c
  ·exact u1 i j a1 a2 c
  ·rcases Nat.lt_or_ge i (sa + na) with d | d
   ·exact Nat.le_trans (u1.le a1 (by lia) (by lia)) (up j (by lia) a3)
   ·exact u2 i j d a2 a3
 obtain ⟨a,ea⟩:∃ a,a = X.extract (sa + k) (sa + na):=⟨_,rfl⟩
 obtain ⟨b,eb⟩:∃ b,b = X.extract (sa + na) (sa + na + m):=⟨_,rfl⟩
 rw [← ea,← eb]
 have za:a.size = na - k:=by rw [ea,Array.size_extract]; lia
 have zb:b.size = m:=by rw [eb,Array.size_extract]; lia
 have Ka:∀ i,i < a.size → K r a i = K r X (sa + k + i):=fun i hi => by
  unfold K
  rw [ea,Array.getElem?_extract_of_lt (by lia),getElem?_pos X _ (by lia)]
 have Kb:∀ i,i < b.size → K r b i = K r X (sa + na + i):=fun i hi => by
  unfold K
  rw [eb,Array.getElem?_extract_of_lt (by lia),getElem?_pos X _ (by lia)]
 have ua:Up r a 0 a.size:=fun i j _ a2 a3 => by rw [Ka i (by lia),Ka j a3]; exact u1 _ _ (by lia) (by lia) (by lia)
 have ub:Up r b 0 b.size:=fun i j _ a2 a3 => by rw [Kb i (by lia),Kb j a3]; exact u2 _ _ (by lia) (by lia) (by lia)
 have RH:∀ x ∈ a,S x:=fun x hx => by
  rw [ea,← Array.mem_toList_iff,aG] at hx
  obtain ⟨j,_,_,j3⟩:=bj hx
  exact hS x (Array.mem_of_getElem? j3)
 have RI:∀ x ∈ b,S x:=fun x hx => by
  rw [eb,← Array.mem_toList_iff,aG] at hx
  obtain ⟨j,_,_,j3⟩:=bj hx
  exact hS x (Array.mem_of_getElem? j3)
 have h0:K r b 0 ≤ K r a 0:=by
  rw [Ka 0 (by lia),Kb 0 (by lia)]
  have:=k3 k (Nat.le_refl _) (by lia)
  unfold oZ at this
  simp only [Bool.false_eq_true,if_false,Bool.not_eq_false',decide_eq_true_eq] at this
  rw [Nat.add_zero,Nat.add_zero]
  lia
 have hl:K r b (b.size - 1) ≤ K r a (a.size - 1):=by
  rw [Ka _ (by lia),Kb _ (by lia)]
  have:=m2 (b.size - 1) (by lia)
  unfold oZ at this
  simp only [if_true,decide_eq_true_eq] at this
  rw [show sa + k + (a.size - 1) = sa + na - 1 by lia]
  lia
 have fin:∀ (xK:Array Keyed) (g:Nat),Good r a b xK → Q true (SortSt.mk' κ (xK.toList.zipIdx.foldl (fun a (q:Keyed × Nat) => a.setIfInBounds (sa + k + q.2) q.1) X) pd g none):=by
  intro xK g gd
  obtain ⟨g1,g2⟩:=gd
  have ll:xK.toList.length = na - k + m:=by
   have:=g1.length_eq
   rw [List.length_append,Array.length_toList (xs:=a),Array.length_toList (xs:=b)] at this
   lia
  obtain ⟨Y,eY⟩:∃ Y,Y = xK.toList.zipIdx.foldl (fun a (q:Keyed × Nat) => a.setIfInBounds (sa + k + q.2) q.1) X:=⟨_,rfl⟩
  rw [← eY]
  have yl:=An (m:=xK.toList) (sa:=sa + k) (xs:=X) (by lia)
  rw [← eY,xH,xI,ll,show sa + k + (na - k + m) = sa + na + m by lia] at yl
  rw [bV (i:=0) (j:=sa) (k:=sa + k) (by lia) (by lia) (by lia),bV (i:=sa + na + m) (j:=sa + na + nb) (k:=X.size) (by lia) (by lia) (by lia)] at yl
  have xl:X.toList = part X 0 sa ++ part X sa (sa + na + nb) ++ part X (sa + na + nb) X.size:=by
   rw [← bV (by lia) (by lia) (by lia),← bV (by lia) (by lia) (by lia),du]
  have xm:part X sa (sa + na + nb) = part X sa (sa + k) ++ (a.toList ++ b.toList) ++ part X (sa + na + m) (sa + na + nb):=by
   rw [ea,eb,aG,aG,← bV (by lia) (by lia) (by lia),← bV (by lia) (by lia) (by lia),← bV (by lia) (by lia) (by lia)]
  have RJ:Y.toList = part X 0 sa ++ (part X sa (sa + k) ++ xK.toList ++ part X (sa + na + m) (sa + na + nb)) ++ part X (sa + na + nb) X.size:=by
   rw [yl]; simp only [List.append_assoc]
  have pm:(part X sa (sa + k) ++ xK.toList ++ part X (sa + na + m) (sa + na + nb)).Perm (part X sa (sa + na + nb)):=by
   rw [xm]
   exact (List.Perm.append_left _ g1).append_right _
  obtain ⟨r1,r2,r3⟩:=qJ xl RJ pm.length_eq
  rw [ir (by lia),ir (by lia),Nat.sub_zero,show sa + (sa + na + nb - sa) = sa + na + nb by lia] at r2 r3
  refine h Y pd g ?_ r2 (GO ?_ (by lia)) ND
  ·rw [xl,RJ]
   exact (List.Perm.append_left _ pm).append_right _
  ·rw [r3]
   unfold BD
   have mem:∀ x ∈ xK.toList,∃ j,sa + k ≤ j ∧ j < sa + na + m ∧ X[j]? = some x:=fun x hx => by
    have:=g1.mem_iff.mp hx
    rw [ea,eb,aG,aG,← bV (by lia) (by lia) (by lia)] at this
    exact bj this
   rw [List.append_assoc]
   refine List.pairwise_append.mpr ⟨(u1.sub (Nat.le_refl _) (by lia)).kZ,List.pairwise_append.mpr ⟨g2,(u2.sub (by lia) (Nat.le_refl _)).kZ,fun x hx y hy => ?_⟩,fun x hx y hy => ?_⟩
   ·obtain ⟨i,i1,i2,i3⟩:=mem x hx
    obtain ⟨j,j1,j2,j3⟩:=bj hy
    show r x ≤ r y
    rw [← eU (r:=r) i3,← eU (r:=r) j3]
    rcases Nat.lt_or_ge i (sa + na) with d | d
    ·exact Nat.le_trans (u1.le (by lia) (by lia) (by lia)) (up j j1 j2)
    ·exact u2.le d (by lia) j2
   ·obtain ⟨i,i1,i2,i3⟩:=bj hx
    have:∃ j,sa + k ≤ j ∧ j < sa + na + nb ∧ X[j]? = some y:=by
     rcases List.mem_append.mp hy with hy | hy
     ·obtain ⟨j,j1,j2,j3⟩:=mem y hy
      exact ⟨j,j1,by lia,j3⟩
     ·obtain ⟨j,j1,j2,j3⟩:=bj hy
      exact ⟨j,by lia,by lia,j3⟩
    obtain ⟨j,j1,j2,j3⟩:=this
    show r x ≤ r y
    rw [← eU (r:=r) i3,← eU (r:=r) j3]
    rcases Nat.lt_or_ge j (sa + na) with d | d
    ·exact u1.le i1 (by lia) d
    ·exact Nat.le_trans (lo i i1 i2) (u2.le (Nat.le_refl _) d j2)
 refine bO (fun _ => ?_) fun _ => ?_
 ·exact wpS_bind (Ap C rfl RH RI ua ub (by lia) (by lia) h0 hl fun xK g gd => wpS_bind (wpS_modify (wpS_bind (wpS_get (wpS_pure (fin xK g gd))))))
 ·exact wpS_bind (Aq C rfl RH RI ua ub (by lia) (by lia) h0 hl fun xK g gd => wpS_bind (wpS_modify (wpS_bind (wpS_get (wpS_pure (fin xK g gd))))))
end
end TS
namespace TS
open PySem PyProof.Rows
noncomputable def Di (r:Keyed → Nat) (xs:Array Keyed):Prop:=(xs.toList.map r).Nodup
section
variable {r:Keyed → Nat} {X Y:Array Keyed}
theorem Di.to (h:Di r X) (p:Y.toList.Perm X.toList):Di r Y:=(p.map r).nodup_iff.mpr h
theorem Di.ne (h:Di r X) {i j:Nat} (hi:i < X.size) (hj:j < X.size) (e:i ≠ j):K r X i ≠ K r X j:=by
 rw [eU (getElem?_pos X i hi),eU (getElem?_pos X j hj)]
 intro z
 have li:i < (X.toList.map r).length:=by rw [List.length_map,Array.length_toList]; exact hi
 have lj:j < (X.toList.map r).length:=by rw [List.length_map,Array.length_toList]; exact hj
 refine e ((List.getElem_inj (h₀:=li) (h₁:=lj) h).mp ?_)
 rw [List.getElem_map,List.getElem_map,Array.getElem_toList,Array.getElem_toList]
 exact z
theorem EA {i j k:Nat} (hj:j ≤ X.size):K r (mirror X i j ((j - i) / 2)) k = if i ≤ k ∧ k < j then K r X (i + j - 1 - k) else K r X k:=by
 unfold K
 rw [getElem?_mirror_all hj]
 split <;> rfl
theorem EB {src d k:Nat} (hs:src < X.size) (hd:d ≤ src):K r (bubble X src d) k = if k = src - d then K r X src else if src - d < k ∧ k ≤ src then K r X (k - 1) else K r X k:=by
 unfold K
 rw [getElem?_bubble hs d hd]
 split
 ·rfl
 ·split <;> rfl
theorem Up.more {lo n:Nat} (h1:1 ≤ n) (h:Up r X lo (lo + n)) (l:K r X (lo + n - 1) ≤ K r X (lo + n)):Up r X lo (lo + (n + 1)):=fun i j a b c => by
 rcases Nat.lt_or_ge j (lo + n) with q | q
 ·exact h i j a b q
 ·rw [show j = lo + n by lia]
  exact Nat.le_trans (h.le a (show i ≤ lo + n - 1 by lia) (by lia)) l
theorem Dn.more {lo n:Nat} (h1:1 ≤ n) (h:Dn r X lo (lo + n)) (l:K r X (lo + n) ≤ K r X (lo + n - 1)):Dn r X lo (lo + (n + 1)):=fun i j a b c => by
 rcases Nat.lt_or_ge j (lo + n) with q | q
 ·exact h i j a b q
 ·rw [show j = lo + n by lia]
  rcases Nat.lt_or_ge i (lo + n - 1) with z | z
  ·exact Nat.le_trans l (h i (lo + n - 1) a z (by lia))
  ·rw [show i = lo + n - 1 by lia]; exact l
theorem Up.one {lo:Nat}:Up r X lo (lo + 1):=fun i j a b c => by lia
end
section
variable {prog:Program} {w:World} {A:Around} {E:Value → Shared → Prop} {s:Shared} {κ:SortKind} {S:Keyed → Prop} {r:Keyed → Nat} {pend:Array (Nat × Nat × Nat)} {mg:Nat} {X:Array Keyed}
theorem xM (C:xJ prog w A s κ S r) {i j:Nat} {Q:Option Bool → SortSt → Prop} (hS:∀ x ∈ X,S x) (hi:i < X.size) (hj:j < X.size) (h:Q (some (decide (K r X i < K r X j))) (SortSt.mk' κ X pend mg none)) :
  wpS (model prog w) A E s (ltAt' i j) Q (SortSt.mk' κ X pend mg none):=by
 obtain ⟨x,ex,mx,kx⟩:=at_of (r:=r) hi
 obtain ⟨y,ey,my,ky⟩:=at_of (r:=r) hj
 rw [kx,ky] at h
 exact JV C rfl ex ey (hS x mx) (hS y my) h
theorem GW (C:xJ prog w A s κ S r) {lo iu:Nat} {Q:Option Nat → SortSt → Prop} (h1:1 ≤ iu) (hz:lo + iu ≤ X.size) (hS:∀ x ∈ X,S x) (hd:Di r X)
  (h:∀ n Y,1 ≤ n → n ≤ iu → Y.toList.Perm X.toList → (∀ j,j < lo → Y[j]? = X[j]?) → Up r Y lo (lo + n) → Q (some n) (SortSt.mk' κ Y pend mg none)) :
  wpS (model prog w) A E s (countRun' lo iu) Q (SortSt.mk' κ X pend mg none):=by
 unfold countRun'
 refine wpS_bind (wpS_mono (wpS_forRange (I:=fun x z av => av = SortSt.mk' κ X pend mg none ∧ z = (none,x) ∧ Up r X lo (lo + x))
  (Q:=fun z av => av = SortSt.mk' κ X pend mg none ∧ ∃ n,z = (none,n) ∧ 1 ≤ n ∧ n ≤ iu ∧ Up r X lo (lo + n) ∧ (n < iu → K r X (lo + n) < K r X (lo + n - 1))) ?_ ?_ ⟨rfl,rfl,Up.one⟩) ?_)
 ·rintro x z av x1 hx ⟨e,rfl,u⟩
  rw [e]
  refine wpS_bind (xM C hS (by lia) (by lia) ?_)
  dsimp only
  refine bO (fun q => wpS_pure ⟨rfl,x,rfl,x1,by lia,u,fun _ => of_decide_eq_true q⟩) fun q => wpS_pure ⟨rfl,rfl,u.more x1 ?_⟩
  have:=of_decide_eq_false (by simpa using q:decide (K r X (lo + x) < K r X (lo + x - 1)) = false)
  lia
 ·rintro z av ⟨e,rfl,u⟩
  rw [show max 1 iu = iu by lia] at u ⊢
  exact ⟨e,iu,rfl,h1,Nat.le_refl _,u,fun q => absurd q (Nat.lt_irrefl _)⟩
 ·rintro z av ⟨e,n,rfl,n1,n2,u,f⟩
  rw [e]
  dsimp only
  refine bJ (fun q => wpS_pure (h n X n1 n2 (List.Perm.refl _) (fun _ _ => rfl) u)) fun q => ?_
  have f':=f (by lia)
  refine bO (fun g => ?_) fun g => ?_
  ·refine wpS_bind (xM C hS (by lia) (by lia) ?_)
   dsimp only
   have ne:=hd.ne (i:=lo) (j:=lo + n - 1) (by lia) (by lia) (by lia)
   have le:=u.le (Nat.le_refl _) (show lo ≤ lo + n - 1 by lia) (by lia)
   rw [if_pos (decide_eq_true (by lia))]
   exact wpS_pure (h n X n1 n2 (List.Perm.refl _) (fun _ _ => rfl) u)
  ·have:n = 1:=by lia
   subst this
   refine wpS_bind (wpS_lift (wpAny_rule ⟨rfl,?_⟩))
   refine wpS_bind (wpS_mono (wpS_forRange (I:=fun x z av => av = SortSt.mk' κ X pend mg none ∧ z = (none,x,0) ∧ Dn r X lo (lo + x))
    (Q:=fun z av => av = SortSt.mk' κ X pend mg none ∧ ∃ n,z = (none,n,0) ∧ 2 ≤ n ∧ n ≤ iu ∧ Dn r X lo (lo + n)) ?_ ?_ ⟨rfl,rfl,?_⟩) ?_)
   ·rintro x z av x1 hx ⟨e,rfl,u⟩
    rw [e]
    dsimp only
    refine wpS_bind (xM C hS (by lia) (by lia) ?_)
    dsimp only
    refine bO (fun q => ?_) fun q => ?_
    ·rw [if_neg (Nat.lt_irrefl _)]
     have:=of_decide_eq_true q
     exact wpS_pure ⟨rfl,rfl,u.more (by lia) (by lia)⟩
    ·refine wpS_bind (xM C hS (by lia) (by lia) ?_)
     dsimp only
     have ne:=hd.ne (i:=lo + x) (j:=lo + x - 1) (by lia) (by lia) (by lia)
     have:=of_decide_eq_false (by simpa using q:decide (K r X (lo + x) < K r X (lo + x - 1)) = false)
     rw [if_pos (decide_eq_true (by lia))]
     exact wpS_pure ⟨rfl,x,rfl,by lia,by lia,u⟩
   ·rintro z av ⟨e,rfl,u⟩
    rw [show max (1 + 1) iu = iu by lia] at u ⊢
    exact ⟨e,iu,rfl,by lia,Nat.le_refl _,u⟩
   ·intro i j a b c
    rw [show i = lo + 1 - 1 by lia,show j = lo + 1 by lia]
    lia
   ·rintro z av ⟨e,n,rfl,n1,n2,dn⟩
    rw [e]
    dsimp only
    rw [if_neg (Nat.lt_irrefl _)]
    obtain ⟨Y,eY⟩:∃ Y,Y = mirror X lo (lo + n) ((lo + n - lo) / 2):=⟨_,rfl⟩
    have zY:Y.size = X.size:=by rw [eY]; exact mirror_size _ _ _ _
    have pY:Y.toList.Perm X.toList:=by rw [eY]; exact Array.perm_iff_toList_perm.mp (mirror_perm _ _ _ _)
    have sY:∀ x ∈ Y,S x:=fun x hx => hS x (Array.mem_toList_iff.mp (pY.mem_iff.mp (Array.mem_toList_iff.mpr hx)))
    have bY:∀ j,j < lo → Y[j]? = X[j]?:=fun j hj => by
     rw [eY,getElem?_mirror_all (by lia),if_neg (by lia)]
    have uY:Up r Y lo (lo + n):=fun i j a b c => by
     rw [eY,EA (by lia),EA (by lia),if_pos (by lia),if_pos (by lia)]
     exact dn _ _ (by lia) (by lia) (by lia)
    refine wpS_bind (wpS_modify ?_)
    show wpS _ _ _ _ _ _ (SortSt.mk' κ (mirror X lo (lo + n) ((lo + n - lo) / 2)) pend mg none)
    rw [← eY]
    refine wpS_bind (wpS_mono (wpS_forRange (I:=fun x z av => av = SortSt.mk' κ Y pend mg none ∧ z = (none,x) ∧ Up r Y lo (lo + x))
     (Q:=fun z av => av = SortSt.mk' κ Y pend mg none ∧ ∃ n,z = (none,n) ∧ 1 ≤ n ∧ n ≤ iu ∧ Up r Y lo (lo + n)) ?_ ?_ ⟨rfl,rfl,uY⟩) ?_)
    ·rintro x z av x1 hx ⟨e,rfl,u⟩
     rw [e]
     refine wpS_bind (xM C sY (by lia) (by lia) ?_)
     dsimp only
     refine bO (fun q => wpS_pure ⟨rfl,x,rfl,by lia,by lia,u⟩) fun q => wpS_pure ⟨rfl,rfl,u.more (by lia) ?_⟩
     have:=of_decide_eq_false (by simpa using q:decide (K r Y (lo + x) < K r Y (lo + x - 1)) = false)
     lia
    ·rintro z av ⟨e,rfl,u⟩
     rw [show max n iu = iu by lia] at u ⊢
     exact ⟨e,iu,rfl,h1,Nat.le_refl _,u⟩
    ·rintro z av ⟨e,n,rfl,n1,n2,u⟩
     rw [e]
     exact wpS_pure (h n Y n1 n2 pY bY u)
theorem NF (C:xJ prog w A s κ S r) {lo n ok:Nat} {Q:Bool → SortSt → Prop} (h1:1 ≤ ok) (hz:lo + n ≤ X.size) (hS:∀ x ∈ X,S x) (u:Up r X lo (lo + ok))
  (h:∀ Y,Y.toList.Perm X.toList → (∀ j,j < lo → Y[j]? = X[j]?) → Up r Y lo (lo + n) → Q true (SortSt.mk' κ Y pend mg none)) :
  wpS (model prog w) A E s (binarySort' lo n ok) Q (SortSt.mk' κ X pend mg none):=by
 unfold binarySort'
 refine wpS_bind (wpS_mono (wpS_forRange (I:=fun k z av => z = (none,()) ∧ ∃ Y,av = SortSt.mk' κ Y pend mg none ∧ Y.toList.Perm X.toList ∧ (∀ j,j < lo → Y[j]? = X[j]?) ∧ Up r Y lo (lo + k))
  (Q:=fun z av => z = (none,()) ∧ ∃ Y,av = SortSt.mk' κ Y pend mg none ∧ Y.toList.Perm X.toList ∧ (∀ j,j < lo → Y[j]? = X[j]?) ∧ Up r Y lo (lo + n)) ?_ ?_ ⟨rfl,X,rfl,List.Perm.refl _,fun _ _ => rfl,by rw [show max ok 1 = ok by lia]; exact u⟩) ?_)
 ·rintro k z av k1 hk ⟨rfl,Y,e,pY,bY,uY⟩
  rw [e]
  have zY:Y.size = X.size:=by rw [← Array.length_toList,pY.length_eq,Array.length_toList]
  have sY:∀ x ∈ Y,S x:=fun x hx => hS x (Array.mem_toList_iff.mp (pY.mem_iff.mp (Array.mem_toList_iff.mpr hx)))
  refine wpS_bind (wpS_mono (wpS_forRange (I:=fun x z av => av = SortSt.mk' κ Y pend mg none ∧ ∃ l m,z = (none,l,m) ∧ l ≤ m ∧ m ≤ k ∧ m - l + x ≤ k ∧ (∀ i,i < l → K r Y (lo + i) ≤ K r Y (lo + k)) ∧ ∀ i,m ≤ i → i < k → K r Y (lo + k) ≤ K r Y (lo + i))
   (Q:=fun z av => av = SortSt.mk' κ Y pend mg none ∧ ∃ l,z = (none,l,l) ∧ l ≤ k ∧ (∀ i,i < l → K r Y (lo + i) ≤ K r Y (lo + k)) ∧ ∀ i,l ≤ i → i < k → K r Y (lo + k) ≤ K r Y (lo + i)) ?_ ?_ ⟨rfl,0,k,rfl,Nat.zero_le _,Nat.le_refl _,by lia,fun i q => absurd q (Nat.not_lt_zero _),fun i q1 q2 => absurd q1 (by lia)⟩) ?_)
  ·rintro x z av _ hx ⟨e,l,m,rfl,g1,g2,g3,g4,g5⟩
   rw [e]
   dsimp only
   refine bO (fun q => ?_) fun q => ?_
   ·have:l = m:=by lia
    subst this
    exact wpS_pure ⟨rfl,l,rfl,g2,g4,g5⟩
   ·refine wpS_bind (xM C sY (by lia) (by lia) ?_)
    dsimp only
    refine bO (fun q => ?_) fun q => ?_
    ·have:=of_decide_eq_true q
     exact wpS_pure ⟨rfl,l,(l + m) / 2,rfl,by lia,by lia,by lia,g4,fun i i1 i2 => Nat.le_trans (Nat.le_of_lt this) (uY.le (by lia) (by lia) (by lia))⟩
    ·have:=of_decide_eq_false (by simpa using q:decide (K r Y (lo + k) < K r Y (lo + (l + m) / 2)) = false)
     exact wpS_pure ⟨rfl,(l + m) / 2 + 1,m,rfl,by lia,by lia,by lia,fun i i1 => Nat.le_trans (uY.le (by lia) (show lo + i ≤ lo + (l + m) / 2 by lia) (by lia)) (by lia),g5⟩
  ·rintro z av ⟨e,l,m,rfl,g1,g2,g3,g4,g5⟩
   have:l = m:=by lia
   subst this
   exact ⟨e,l,rfl,g2,g4,g5⟩
  ·rintro z av ⟨e,l,rfl,g2,g4,g5⟩
   rw [e]
   dsimp only
   refine wpS_bind (wpS_modify (wpS_pure ⟨rfl,bubble Y (lo + k) (lo + k - (lo + l)),rfl,?_,fun j hj => ?_,?_⟩))
   ·exact (Array.perm_iff_toList_perm.mp (bubble_perm _ _ _)).trans pY
   ·rw [getElem?_bubble (by lia) _ (by lia),if_neg (by lia),if_neg (by lia)]
    exact bY j hj
   ·intro i j a b c
    rw [EB (by lia) (by lia),EB (by lia) (by lia),show lo + k - (lo + k - (lo + l)) = lo + l by lia]
    by_cases c1:i = lo + l
    ·rw [if_pos c1,if_neg (by lia),if_pos (by lia)]
     have:=g5 (j - 1 - lo) (by lia) (by lia)
     rwa [show lo + (j - 1 - lo) = j - 1 by lia] at this
    ·rw [if_neg c1]
     by_cases c2:j = lo + l
     ·rw [if_pos c2,if_neg (by lia)]
      have:=g4 (i - lo) (by lia)
      rwa [show lo + (i - lo) = i by lia] at this
     ·rw [if_neg c2]
      by_cases c3:lo + l < i
      ·rw [if_pos (by lia),if_pos (by lia)]
       exact uY.le (by lia) (by lia) (by lia)
      ·rw [if_neg (by lia)]
       by_cases c4:lo + l < j
       ·rw [if_pos (by lia)]
        exact uY.le a (by lia) (by lia)
       ·rw [if_neg (by lia)]
        exact uY.le a (by lia) (by lia)
 ·rintro z av ⟨rfl,Y,e,pY,bY,uY⟩
  exact ⟨rfl,Y,e,pY,bY,uY.sub (Nat.le_refl _) (by lia)⟩
 ·rintro z av ⟨rfl,Y,e,pY,bY,uY⟩
  rw [e]
  exact wpS_pure (h Y pY bY uY)
end
end TS
namespace TS
open PySem PyProof.Rows
section
variable {r:Keyed → Nat} {X Y:Array Keyed}
noncomputable def Runs (r:Keyed → Nat) (X:Array Keyed):List (Nat × Nat × Nat) → Nat → Nat → Prop
 | [],lo,hi => lo = hi
 | q :: t,lo,hi => q.1 = lo ∧ 0 < q.2.1 ∧ Up r X lo (lo + q.2.1) ∧ Runs r X t (lo + q.2.1) hi
theorem gB:∀ {L1 L2:List (Nat × Nat × Nat)} {lo hi:Nat},Runs r X (L1 ++ L2) lo hi ↔ ∃ m,Runs r X L1 lo m ∧ Runs r X L2 m hi
 | [],L2,lo,hi => ⟨fun h => ⟨lo,rfl,h⟩,fun ⟨m,e,h⟩ => by cases e; exact h⟩
 | q :: L1,L2,lo,hi => by
  constructor
  ·rintro ⟨a,b,c,d⟩
   obtain ⟨m,h1,h2⟩:=gB.mp d
   exact ⟨m,⟨a,b,c,h1⟩,h2⟩
  ·rintro ⟨m,⟨a,b,c,d⟩,h2⟩
   exact ⟨a,b,c,gB.mpr ⟨m,d,h2⟩⟩
theorem Runs.len:∀ {L:List (Nat × Nat × Nat)} {lo hi:Nat},Runs r X L lo hi → lo + L.length ≤ hi
 | [],lo,hi,h => by cases h; exact Nat.le_refl _
 | q :: L,lo,hi,⟨a,b,c,d⟩ => by
  have:=d.len
  rw [List.length_cons]
  lia
theorem Runs.to:∀ {L:List (Nat × Nat × Nat)} {lo hi:Nat},Runs r X L lo hi → (∀ j,lo ≤ j → j < hi → Y[j]? = X[j]?) → Runs r Y L lo hi
 | [],lo,hi,h,_ => h
 | q :: L,lo,hi,⟨a,b,c,d⟩,e => by
  have l:=d.len
  refine ⟨a,b,fun i j h1 h2 h3 => ?_,d.to fun j h1 h2 => e j (by lia) h2⟩
  unfold K
  rw [e i h1 (by lia),e j (by lia) (by lia)]
  exact c i j h1 h2 h3
theorem Up.to {lo hi:Nat} (h:Up r X lo hi) (e:∀ j,lo ≤ j → Y[j]? = X[j]?):Up r Y lo hi:=fun i j a b c => by
 unfold K
 rw [e i a,e j (by lia)]
 exact h i j a b c
theorem Runs.pw:∀ {L L':List (Nat × Nat × Nat)} {lo hi:Nat},Runs r X L lo hi → L'.map (fun q => (q.1,q.2.1)) = L.map (fun q => (q.1,q.2.1)) → Runs r X L' lo hi
 | [],[],lo,hi,h,_ => h
 | [],_ :: _,_,_,_,e => by cases e
 | _ :: _,[],_,_,_,e => by cases e
 | q :: L,q' :: L',lo,hi,⟨a,b,c,d⟩,e => by
  injection e with e1 e2
  injection e1 with e3 e4
  exact ⟨e3.trans a,by rw [e4]; exact b,by rw [e4]; exact c,by rw [e4]; exact d.pw e2⟩
theorem u9 {L:Array (Nat × Nat × Nat)} {i v:Nat}:(L.modify i fun q => (q.1,q.2.1,v)).toList.map (fun q => (q.1,q.2.1)) = L.toList.map (fun q => (q.1,q.2.1)):=by
 apply List.ext_getElem?
 intro j
 rw [List.getElem?_map,List.getElem?_map,Array.getElem?_toList,Array.getElem?_toList,Array.getElem?_modify]
 split
 ·rw [Option.map_map]; rfl
 ·rfl
theorem GX {α:Type} {l:List α} {i:Nat} (h:i + 1 < l.length):∃ L1 a b L2,l = L1 ++ a :: b :: L2 ∧ i = L1.length:=by
 refine ⟨l.take i,l[i],l[i + 1],l.drop (i + 2),?_,by rw [List.length_take]; lia⟩
 have e1:l.drop i = l[i] :: l.drop (i + 1):=List.drop_eq_getElem_cons (by lia)
 have e2:l.drop (i + 1) = l[i + 1] :: l.drop (i + 2):=List.drop_eq_getElem_cons h
 rw [← e2,← e1,List.take_append_drop]
end
section
variable {prog:Program} {w:World} {A:Around} {E:Value → Shared → Prop} {s:Shared} {κ:SortKind} {S:Keyed → Prop} {r:Keyed → Nat} {pend:Array (Nat × Nat × Nat)} {mg:Nat} {X:Array Keyed}
theorem wk (C:xJ prog w A s κ S r) {i hi:Nat} {Q:Bool → SortSt → Prop} (hS:∀ x ∈ X,S x) (R:Runs r X pend.toList 0 hi) (hz:hi ≤ X.size) (HV:i + 1 < pend.size)
  (h:∀ Y pd g,Y.toList.Perm X.toList → (∀ j,hi ≤ j → Y[j]? = X[j]?) → pd.size + 1 = pend.size → Runs r Y pd.toList 0 hi → Q true (SortSt.mk' κ Y pd g none)) :
  wpS (model prog w) A E s (mergeAt' i) Q (SortSt.mk' κ X pend mg none):=by
 obtain ⟨L1,⟨sa,na,p⟩,⟨sb,nb,q⟩,L2,e,ei⟩:=GX (l:=pend.toList) (i:=i) (by rw [Array.length_toList]; exact HV)
 rw [e] at R
 obtain ⟨m,R1,a1,a2,a3,b1,b2,b3,R2⟩:=gB.mp R
 dsimp only at a1 a2 a3 b1 b2 b3 R2
 subst a1
 subst b1
 have l1:=R1.len
 have l2:=R2.len
 refine Ar C hS e ei a2 b2 (by lia) a3 b3 fun Y pd g y1 y2 y3 y4 => h Y pd g y1 (fun j hj => y2 j (.inr (by lia))) ?_ ?_
 ·rw [← Array.length_toList,← Array.length_toList,e,y4]
  simp only [List.length_append,List.length_cons]
  lia
 ·rw [y4]
  exact gB.mpr ⟨sa,R1.to fun j h1 h2 => y2 j (.inl h2),rfl,by show 0 < na + nb; lia,by show Up r Y sa (sa + (na + nb)); rw [← Nat.add_assoc]; exact y3,by
   show Runs r Y L2 (sa + (na + nb)) hi
   rw [← Nat.add_assoc]
   exact R2.to fun j h1 h2 => y2 j (.inr h1)⟩
theorem J0 (C:xJ prog w A s κ S r) {Q:Unit → SortSt → Prop} (hS:∀ x ∈ X,S x) (hd:Di r X) (h2:2 ≤ X.size)
  (h:∀ Y pd g,Y.toList.Perm X.toList → Up r Y 0 X.size → Q () (SortSt.mk' κ Y pd g none)) :
  wpS (model prog w) A E s sortRuns' Q (SortSt.mk' κ X #[] mg none):=by
 unfold sortRuns'
 refine wpS_bind (wpS_get ?_)
 dsimp only
 refine wpS_bind (wpS_mono (wpS_forRange (I:=fun x z av => ∃ lo Y pd g,z = (none,lo) ∧ av = SortSt.mk' κ Y pd g none ∧ Y.toList.Perm X.toList ∧ Runs r Y pd.toList 0 lo ∧ x ≤ lo ∧ lo ≤ X.size)
  (Q:=fun z av => ∃ Y pd g,z = (none,X.size) ∧ av = SortSt.mk' κ Y pd g none ∧ Y.toList.Perm X.toList ∧ Runs r Y pd.toList 0 X.size) ?_ ?_ ⟨0,X,#[],mg,rfl,rfl,List.Perm.refl _,rfl,Nat.le_refl _,Nat.zero_le _⟩) ?_)
 ·rintro x z av _ hx ⟨lo,Y,pd,g,rfl,e,pY,R,l1,l2⟩
  rw [e]
  dsimp only
  have zY:Y.size = X.size:=by rw [← Array.length_toList,pY.length_eq,Array.length_toList]
  have sY:∀ x ∈ Y,S x:=fun x hx => hS x (Array.mem_toList_iff.mp (pY.mem_iff.mp (Array.mem_toList_iff.mpr hx)))
  refine bO (fun q => ?_) fun q => ?_
  ·have:lo = X.size:=by lia
   subst this
   exact wpS_pure ⟨Y,pd,g,rfl,rfl,pY,R⟩
  refine wpS_bind (GW C (by lia) (by lia) sY (hd.to pY) fun n Y1 n1 n2 p1 b1 u1 => ?_)
  dsimp only
  have Lz:∀ x ∈ Y1,S x:=fun x hx => sY x (Array.mem_toList_iff.mp (p1.mem_iff.mp (Array.mem_toList_iff.mpr hx)))
  have T4:Y1.size = X.size:=by rw [← Array.length_toList,p1.length_eq,Array.length_toList,zY]
  have R1:Runs r Y1 pd.toList 0 lo:=R.to fun j _ h => b1 j h
  replace p1:=p1.trans pY
  refine bO (fun c => wpS_bind (wpS_lift (wpAny_rule ⟨rfl,wpS_bind (NF C n1 (by lia) Lz u1 fun Y2 p2 b2 u2 => ?_)⟩))) fun c => ?_
  have T5:∀ x ∈ Y2,S x:=fun x hx => Lz x (Array.mem_toList_iff.mp (p2.mem_iff.mp (Array.mem_toList_iff.mpr hx)))
  replace p2:=p2.trans p1
  have R2:Runs r Y2 pd.toList 0 lo:=R1.to fun j _ h => b2 j h
  simp only [Bool.not_true,Bool.false_eq_true,if_false]
  have m0:0 < min (X.size - lo) (minRun' X.size X.size 0) ∧ lo + min (X.size - lo) (minRun' X.size X.size 0) ≤ X.size:=by
   replace c:n < minRun' X.size X.size 0:=c
   lia
  rotate_left
  obtain ⟨Y2,e2⟩:∃ Y2,Y2 = Y1:=⟨_,rfl⟩
  rw [← e2] at R1 u1 p1 Lz T4 ⊢
  have R2:=R1
  have u2:=u1
  have p2:=p1
  have T5:=Lz
  have m0:0 < n ∧ lo + n ≤ X.size:=by lia
  all_goals
   refine wpS_bind (wpS_get ?_)
   dsimp only
   cases hb:pd.back? with
   | none =>
    refine wpS_bind (wpS_modify (wpS_pure ⟨_,Y2,_,_,rfl,rfl,p2,?_,?_,m0.2⟩))
    ·show Runs r Y2 (Array.push _ _).toList 0 _
     rw [Array.toList_push]
     exact gB.mpr ⟨lo,R2,rfl,m0.1,u2,rfl⟩
    ·exact Nat.le_trans (Nat.succ_le_succ l1) (Nat.add_le_add_left m0.1 lo)
   | some q =>
    obtain ⟨s1,n1,v⟩:=q
    dsimp only
    refine wpS_bind (wpS_mono (wpS_forRange (I:=fun _ z av => z = (none,()) ∧ ∃ Y pd g,av = SortSt.mk' κ Y pd g none ∧ Y.toList.Perm X.toList ∧ (∀ j,lo ≤ j → Y[j]? = Y2[j]?) ∧ Runs r Y pd.toList 0 lo)
     (Q:=fun z av => z = (none,()) ∧ ∃ Y pd g,av = SortSt.mk' κ Y pd g none ∧ Y.toList.Perm X.toList ∧ (∀ j,lo ≤ j → Y[j]? = Y2[j]?) ∧ Runs r Y pd.toList 0 lo) ?_ ?_ ⟨rfl,Y2,pd,g,rfl,p2,fun _ _ => rfl,R2⟩) ?_)
    ·rintro x z av _ _ ⟨rfl,Y,pd,g,e,pY,bY,R⟩
     rw [e]
     have zY:Y.size = X.size:=by rw [← Array.length_toList,pY.length_eq,Array.length_toList]
     refine wpS_bind (wpS_get ?_)
     dsimp only
     by_cases c2:pd.size > 1
     ·rw [if_pos c2]
      obtain ⟨q,eq⟩:∃ q,pd[pd.size - 2]? = some q:=⟨_,getElem?_pos pd _ (by lia)⟩
      rw [eq]
      obtain ⟨a1,a2,a3⟩:=q
      dsimp only
      refine bO (fun _ => wpS_pure ⟨rfl,Y,pd,g,rfl,pY,bY,R⟩) fun _ => ?_
      refine wpS_bind (wk C (fun x hx => hS x (Array.mem_toList_iff.mp (pY.mem_iff.mp (Array.mem_toList_iff.mpr hx)))) R (by lia) (by lia) fun Y3 NG g3 y1 y2 y3 y4 => ?_)
      exact wpS_pure ⟨rfl,Y3,NG,g3,rfl,y1.trans pY,fun j hj => (y2 j hj).trans (bY j hj),y4⟩
     ·rw [if_neg c2]
      exact wpS_pure ⟨rfl,Y,pd,g,rfl,pY,bY,R⟩
    ·exact fun _ _ h => h
    ·rintro z av ⟨rfl,Y,pd,g,e,pY,bY,R⟩
     rw [e]
     dsimp only
     refine wpS_bind (wpS_modify (wpS_bind (wpS_modify (wpS_pure ⟨_,Y,_,_,rfl,rfl,pY,?_,?_,m0.2⟩))))
     ·show Runs r Y (Array.push _ _).toList 0 _
      rw [Array.toList_push]
      exact gB.mpr ⟨lo,R.pw u9,rfl,m0.1,u2.to bY,rfl⟩
     ·exact Nat.le_trans (Nat.succ_le_succ l1) (Nat.add_le_add_left m0.1 lo)
 ·rintro z av ⟨lo,Y,pd,g,rfl,e,pY,R,l1,l2⟩
  have:lo = X.size:=by lia
  subst this
  exact ⟨Y,pd,g,rfl,e,pY,R⟩
 ·rintro z av ⟨Y,pd,g,rfl,e,pY,R⟩
  rw [e]
  dsimp only
  refine wpS_bind (wpS_mono (wpS_forRange (I:=fun x z av => z = (none,()) ∧ ∃ Y pd g,av = SortSt.mk' κ Y pd g none ∧ Y.toList.Perm X.toList ∧ Runs r Y pd.toList 0 X.size ∧ (pd.size ≤ 1 ∨ pd.size + x ≤ X.size))
   (Q:=fun z av => z = (none,()) ∧ ∃ Y pd g,av = SortSt.mk' κ Y pd g none ∧ Y.toList.Perm X.toList ∧ Runs r Y pd.toList 0 X.size ∧ pd.size ≤ 1) ?_ ?_ ⟨rfl,Y,pd,g,rfl,pY,R,.inr (by have:=R.len; rw [Array.length_toList] at this; lia)⟩) ?_)
  ·rintro x z av _ hx ⟨rfl,Y,pd,g,e,pY,R,l⟩
   rw [e]
   have zY:Y.size = X.size:=by rw [← Array.length_toList,pY.length_eq,Array.length_toList]
   refine wpS_bind (wpS_get ?_)
   dsimp only
   refine bO (fun c => wpS_pure ⟨rfl,Y,pd,g,rfl,pY,R,c⟩) fun c => ?_
   refine wpS_bind (wk C (fun x hx => hS x (Array.mem_toList_iff.mp (pY.mem_iff.mp (Array.mem_toList_iff.mpr hx)))) R (by lia) ?_ fun Y3 NG g3 y1 y2 y3 y4 => ?_)
   ·have T6:∀ {c:Prop} [Decidable c] {a b n:Nat},a + 1 < n → b + 1 < n → (if c then a else b) + 1 < n:=by
     intro c _ a b n h1 h2
     split <;> assumption
    exact T6 (by lia) (by lia)
   ·exact wpS_pure ⟨rfl,Y3,NG,g3,rfl,y1.trans pY,y4,by lia⟩
  ·rintro z av ⟨rfl,Y,pd,g,e,pY,R,l⟩
   exact ⟨rfl,Y,pd,g,e,pY,R,by lia⟩
  ·rintro z av ⟨rfl,Y,pd,g,e,pY,R,l⟩
   rw [e]
   refine wpS_pure (h Y pd g pY ?_)
   obtain ⟨q,eq⟩:∃ q,pd.toList = [q]:=by
    match z:pd.toList with
    | [] =>
     rw [z] at R
     replace R:0 = X.size:=R
     lia
    | [q] => exact ⟨q,rfl⟩
    | _ :: _ :: _ => rw [← Array.length_toList,z] at l; simp at l
   rw [eq] at R
   obtain ⟨_,_,u,e2⟩:=R
   replace e2:0 + q.2.1 = X.size:=e2
   rw [e2] at u
   exact u
end
end TS
namespace SO
open PySem PySem.W PyProof.Rows
structure Ord (L:Nat → Nat → Bool) (n:Nat):Prop where
 tr:∀ i j k,i < n → j < n → k < n → L i j = true → L j k = true → L i k = true
 Am:∀ i j,i < n → j < n → i ≠ j → L i j = false → L j i = true
 T7:∀ i j,i < n → j < n → L i j = true → L j i = false
section
variable {n:Nat} {p:Array Nat}
end
section
variable {L:Nat → Nat → Bool} {n:Nat} (O:Ord L n)
include O
end
end SO
namespace SO
open PySem PySem.W PyProof.Rows
noncomputable def jn (h:Heap) (d:Addr) (es:Array DictEntry) (ep:Nat):Prop:=∃ o,h.get? d = some o ∧ o.cls = .type "dict" ∧ o.data = .dict es ep
section
variable {prog:Program} {w:World} {A:Around} {E:Value → Shared → Prop} {s:Shared} {d it:Addr} {es:Array DictEntry} {ep i:Nat}
theorem jn.ty (x:jn s.heap d es ep):s.TypeIs (.ref d) "dict":=by
 obtain ⟨o,ho,hc,_⟩:=x
 exact ⟨o,ho,hc⟩
theorem jn.lt {h:Heap} (x:jn h d es ep):d < h.objs.size:=by
 obtain ⟨o,ho,_⟩:=x
 exact Heap.lt_size ho
theorem jn.to {h h':Heap} (x:jn h d es ep) (hk:∀ o,h.get? d = some o → h'.get? d = some o):jn h' d es ep:=by
 obtain ⟨o,ho,r⟩:=x
 exact ⟨o,hk o ho,r⟩
theorem As {Q:Value → Shared → Prop} (hd:(d == sysModules) = false) (x:jn s.heap d es ep)
  (hQ:Q (.ref s.heap.objs.size) { s with heap:=s.heap.push { cls:=.type "dict_keyiterator",data:=.fields #[.ref d,.int 0 0,.int es.size 0,.int ep 0] } }):wpAny (model prog w) A (pyIter (.ref d)) Q E s:=by
 obtain ⟨o,go,gc,gd⟩:=id x
 have T:=x.ty
 refine wpAny_pyIter_slot T PySem.F.slot_dict_iter (wpAny_call_entry PySem.F.slot_dict_iter T PySem.F.entry_dict_iter ?_ (PySem.F.args_dict_iter_1 _))
 unfold Builtin.«dict.__iter__»; refine wpAny_bind ?_
 unfold Builtin.Dict.dictSlotNone; refine wpAny_bind (wpAny_notOrdered_dict T ?_)
 show wpAny _ _ (pure (Value.ref d)) _ _ s; refine wpAny_pure ?_
 show wpAny _ _ (Builtin.Dict.showsAll d >>= _) _ _ s; unfold Builtin.Dict.showsAll
 rw [if_neg (by rw [hd]; exact Bool.false_ne_true)]; refine wpAny_bind (wpAny_pure ?_)
 refine wpAny_bind (wpAny_dictEntries go gd ?_)
 refine wpAny_bind (wpAny_dictEpoch go gd ?_)
 refine wpAny_bind (wpAny_newObj_type (wpAny_pure ⟨_,rfl,"dict_keyiterator",_,⟨_,Heap.get?_push_size _ rfl,rfl⟩,PySem.F.slot_dict_keyiterator_next.lookup,?_⟩))
 simpa [rawInt] using hQ
theorem Au {Q:Option Value → Shared → Prop} (hit:s.heap.IsKeyIter it d i es.size ep) (x:jn s.heap d es ep) (hi:i < es.size)
  (hQ:∀ h',h'.IsKeyIter it d (i + 1) es.size ep → Heap.SameBut it s.heap h' → Q (some es[i].key) { s with heap:=h' }):wpAny (model prog w) A (pyNext (.ref it)) Q E s:=by
 obtain ⟨o,ho,hc,hf⟩:=id hit
 obtain ⟨od,go,gc,gd⟩:=id x
 have T:=hit.typeIs
 unfold pyNext
 refine wpAny_bind (wpAny_attempt (wpAny_callSpecial?_slot (name:=Str.ofString "__next__") T PySem.F.slot_dict_keyiterator_next (wpAny_call_entry PySem.F.slot_dict_keyiterator_next T PySem.F.entry_dict_keyiterator_next ?_ (PySem.F.args_dict_keyiterator_next_1 _))))
 refine wpAny_bind (wpAny_pure ?_); refine wpAny_bind ?_; refine wpAny_bind ?_
 first | refine wpAny_bind (wpAny_typeNameOfWhole_keyiter T (wpAny_pure ?_)) | refine wpAny_bind (wpAny_typeNameOf_keyiter T (wpAny_pure ?_))
 refine wpAny_bind (wpAny_fieldsOf ho hf ?_)
 have no:Builtin.Dict_items.ownsTuple "dict_keyiterator" = false:=by decide
 simp only [no,Bool.false_eq_true,if_false]
 show wpAny _ _ (if (Value.ref d == Value.none) = true then _ else _) _ _ s; rw [if_neg (show ¬ ((Value.ref d == Value.none) = true) from Bool.false_ne_true)]
 refine wpAny_bind (wpAny_pure ?_); refine wpAny_bind (wpAny_dictEntries go gd ?_)
 rw [if_neg (by simp)]; refine wpAny_bind (wpAny_pure ?_)
 refine wpAny_bind (wpAny_dictEpoch go gd ?_); rw [if_neg (by simp)]; refine wpAny_pure ?_
 simp only [show ¬ ((i:Int) < 0) from by lia,if_false,Int.toNat_natCast,Array.getElem?_eq_getElem hi]; refine wpAny_bind ?_
 first | refine wpAny_bind (wpAny_typeNameOfWhole_keyiter T (wpAny_pure ?_)) | refine wpAny_bind (wpAny_typeNameOf_keyiter T (wpAny_pure ?_))
 refine wpAny_bind (wpAny_isOneOf_keyiter T ?_)
 show wpAny _ _ (setField (.ref it) 1 (rawInt ((i:Int) + 1)) >>= _) _ _ s; refine wpAny_bind (wpAny_setField ho hf (by simp) ?_)
 have go2:(s.heap.update it (Obj.mapFields (·.setIfInBounds 1 (rawInt ((i:Int) + 1))))).IsKeyIter it d (i + 1) es.size ep :=
  ⟨_,Heap.get?_update_self _ ho (Obj.isFreed_of_fields (Obj.data_mapFields hf _)),(Obj.cls_mapFields ..).trans hc,by rw [Obj.data_mapFields hf]; simp [rawInt]⟩
 refine wpAny_bind (wpAny_holding ?_)
 refine wpAny_bind (wpAny_isOneOf_keyiter (s:={ s with heap:=s.heap.update it (Obj.mapFields (·.setIfInBounds 1 (rawInt ((i:Int) + 1)))) }) go2.typeIs ?_)
 show wpAny _ _ (pure es[i].key) _ _ _; exact wpAny_pure (wpAny_pure ⟨_,rfl,wpAny_pure (hQ _ go2 (Heap.SameBut.update ..))⟩)
theorem Dk {Q:Option Value → Shared → Prop} (hh:A.handled = none) (hit:s.heap.IsKeyIter it d i es.size ep) (x:jn s.heap d es ep) (hi:es.size ≤ i)
  (hQ:∀ h',Heap.ExtBut it s.heap h' → Q none { s with heap:=h' }):wpAny (model prog w) A (pyNext (.ref it)) Q E s:=by
 obtain ⟨o,ho,hc,hf⟩:=id hit
 obtain ⟨od,go,gc,gd⟩:=id x
 have T:=hit.typeIs
 unfold pyNext
 refine wpAny_bind (wpAny_attempt (wpAny_callSpecial?_slot (name:=Str.ofString "__next__") T PySem.F.slot_dict_keyiterator_next (wpAny_call_entry PySem.F.slot_dict_keyiterator_next T PySem.F.entry_dict_keyiterator_next ?_ (PySem.F.args_dict_keyiterator_next_1 _))))
 refine wpAny_bind (wpAny_pure ?_); refine wpAny_bind ?_; refine wpAny_bind ?_
 first | refine wpAny_bind (wpAny_typeNameOfWhole_keyiter T (wpAny_pure ?_)) | refine wpAny_bind (wpAny_typeNameOf_keyiter T (wpAny_pure ?_))
 refine wpAny_bind (wpAny_fieldsOf ho hf ?_)
 have no:Builtin.Dict_items.ownsTuple "dict_keyiterator" = false:=by decide
 simp only [no,Bool.false_eq_true,if_false]
 show wpAny _ _ (if (Value.ref d == Value.none) = true then _ else _) _ _ s; rw [if_neg (show ¬ ((Value.ref d == Value.none) = true) from Bool.false_ne_true)]
 refine wpAny_bind (wpAny_pure ?_); refine wpAny_bind (wpAny_dictEntries go gd ?_)
 rw [if_neg (by simp)]; refine wpAny_bind (wpAny_pure ?_)
 refine wpAny_bind (wpAny_dictEpoch go gd ?_); rw [if_neg (by simp)]; refine wpAny_pure ?_
 simp only [show ¬ ((i:Int) < 0) from by lia,if_false,Int.toNat_natCast,Array.getElem?_eq_none hi]; refine wpAny_bind ?_
 first | refine wpAny_bind (wpAny_typeNameOfWhole_keyiter T (wpAny_pure ?_)) | refine wpAny_bind (wpAny_typeNameOf_keyiter T (wpAny_pure ?_))
 show wpAny _ _ (setField (.ref it) 0 .none >>= _) _ _ s; refine wpAny_bind (wpAny_setField ho hf (by simp) ?_)
 show wpAny _ _ (newExc (.type "StopIteration") [] >>= _) _ _ _; refine wpAny_bind ?_; simp only [newExc,newTuple]
 refine wpAny_bind (wpAny_newObj_type ?_ (by size_fits)); refine wpAny_bind (m:=firstArgMember _ _) (wpAny_of_eq (a:=Value.none) (by first | rfl | (simp only [firstArgMember]; rfl)) ?_)
 refine wpAny_newObj_type ?_ (by size_fits); simp only [raiseNew]
 refine wpAny_bind (wpAny_handled ?_); rw [show A.in1.handled = none from hh]; refine wpAny_bind (wpAny_pure (wpAny_throw ?_))
 refine wpAny_bind (wpAny_isInstance (T:="StopIteration") (b:=true) ⟨_,Heap.get?_push_size _ rfl,rfl⟩ isSubtype_stop ?_)
 exact wpAny_pure (hQ _ (((Heap.SameBut.update ..).extBut.push _).push _))
noncomputable def Av (es:Array DictEntry) (i:Nat) (v:Value):Prop:=∃ h:i < es.size,v = es[i].key
theorem xN (hh:A.handled = none) (I:Addr) (NH:d ≠ I):Walks prog w A I [I,d] [I] es.size (Av es) (fun i h => h.IsKeyIter I d i es.size ep ∧ jn h d es ep) where
 sub:=fun b hb => by
  rw [List.mem_singleton] at hb; rw [hb]; exact List.mem_cons_self
 frame:=fun _ _ _ st hk => ⟨st.1.at fun o e => hk I List.mem_cons_self o e,st.2.to fun o e => hk d (List.mem_cons_of_mem _ List.mem_cons_self) o e⟩
 item:=fun i s Q E hi st hQ => Au st.1 st.2 hi fun h' k1 k2 =>
  hQ _ h' s.toks ⟨hi,rfl⟩ ⟨k1,st.2.to fun o e => k2.extBut d o NH e⟩ fun b o hb e => k2.extBut b o (fun z => hb (by rw [z]; exact List.mem_singleton_self _)) e
 done:=fun s Q E st hQ => Dk hh st.1 st.2 (Nat.le_refl _) fun h' k => hQ h' s.toks fun b o hb e => k b o (fun z => hb (by rw [z]; exact List.mem_singleton_self _)) e
 self:=fun _ _ _ _ st hQ => wpAny_pyIter_keyiter st.1 hQ
theorem Dl (lo:(d == sysModules) = false):KdlSrc prog w "dict" d d es.size (Av es) (fun h => jn h d es ep) where
 type:=fun _ x => x.ty
 there:=fun _ x => ⟨x.lt,x.lt⟩
 keep:=fun _ _ x hk => x.to fun o e => hk d (.inl rfl) o e
 notList:=by decide
 notTuple:=by decide
 hint:=fun _ _ _ _ x q => kdl_hint_dict x.ty q
 iter:=fun _ _ hh x => ⟨_,_,(fun _ _ q => As lo x q),xN hh _ (Nat.ne_of_lt x.lt),⟨⟨_,Heap.get?_push_size _ rfl,rfl,rfl⟩,x.to fun o e => Heap.get?_push_of_some _ e⟩⟩
end
end SO
namespace SO
open PySem PySem.W PyProof.Rows
section
variable {prog:Program} {w:World} {A:Around} {E:Value → Shared → Prop} {s:Shared} {d it:Addr} {es:Array DictEntry} {ep i:Nat}
theorem Dm {acc:Array Value} (h:ItemsOf (Av es) acc es.size):acc.toList = es.toList.map (·.key):=by
 apply List.ext_getElem
 ·rw [Array.length_toList,List.length_map,Array.length_toList]; exact h.1
 ·intro i h1 h2
  have hi:i < acc.size:=by rw [Array.length_toList] at h1; exact h1
  obtain ⟨hz,e⟩:=h.2 i acc[i] (Array.getElem?_eq_getElem hi)
  rw [Array.getElem_toList,List.getElem_map,Array.getElem_toList,e]
theorem tD {Q:List Value → Shared → Prop} (hh:A.handled = none) (lo:(d == sysModules) = false) (x:jn s.heap d es ep) (hn:es.size ≤ sizeLine)
  (h:∀ h' tk,s.heap.objs.size < h'.objs.size → (∀ b o,s.heap.get? b = some o → h'.get? b = some o) → Q (es.toList.map (·.key)) { s with heap:=h',toks:=tk }):wpAny (model prog w) A (collect (.ref d)) Q E s:=by
 unfold collect
 refine wpAny_bind (wpAny_runValue (codeAny_mono (R:=fun r s' => r = .ok (.ret (.ref s.heap.objs.size)) ∧ wpAny (model prog w) A (do
  let u ← load s.heap.objs.size
  match u.data with
  | .seq xs _ => pure xs.toList
  | _ => unsupported "internal:collect") Q E s') ?_ fun r s' q => ?_))
 ·refine codeAny_builtin entry_proto_collect' ?_
  show wpAny _ _ (do again (.builtin "list.__iadd__" ⟨[← newList [],.ref d],[]⟩)) _ _ s
  refine wpAny_bind (wpAny_newList (wpAny_pure ⟨Code.quiet_builtin _ (by decide +kernel),codeAny_builtin entry_list_iadd' ?_⟩) (Nat.zero_le _))
  have ne:=Nat.ne_of_gt x.lt
  refine kdl_extend (R:=fun r s' => r = .ok (.ret (.ref s.heap.objs.size)) ∧ wpAny (model prog w) A (do
   let u ← load s.heap.objs.size
   match u.data with
   | .seq xs _ => pure xs.toList
   | _ => unsupported "internal:collect") Q E s') (s:={ s with heap:=s.heap.push (seqObj "list" #[] 0) }) (Dl (es:=es) (ep:=ep) lo) hh (x.to fun o e => Heap.get?_push_of_some _ e) s.heap.objs.size ne ne (.ref s.heap.objs.size) 0 (Heap.get?_push_size _ rfl) (fun h' tk acc c hk hS FX => ⟨rfl,?_⟩) hn
  refine wpAny_bind (wpAny_load hS ?_)
  show wpAny _ _ (pure acc.toList) Q E _
  rw [Dm FX]
  exact wpAny_pure (h h' tk (Heap.lt_size hS) fun b o e => hk b o (Nat.ne_of_lt (Heap.lt_size e)) (Heap.get?_push_of_some _ e))
 ·obtain ⟨rfl,q⟩:=q
  exact q
end
noncomputable def lexLt:List Int → List Int → Bool
 | _,[] => false
 | [],_ :: _ => true
 | x :: xs,y :: ys => if x = y then lexLt xs ys else decide (x < y)
theorem fF:∀ xs:List Int,lexLt xs xs = false
 | [] => rfl
 | x :: xs => by
  show (if x = x then lexLt xs xs else _) = false
  rw [if_pos rfl]; exact fF xs
theorem jV:∀ {xs ys zs:List Int},lexLt xs ys = true → lexLt ys zs = true → lexLt xs zs = true:=by
 intro xs
 induction xs with
 | nil =>
  intro ys zs h1 h2
  cases zs with
  | nil => cases ys <;> cases h2
  | cons z zs => rfl
 | cons x xs ih =>
  intro ys zs h1 h2
  cases ys with
  | nil => cases h1
  | cons y ys =>
   cases zs with
   | nil => cases h2
   | cons z zs =>
    replace h1:(if x = y then lexLt xs ys else decide (x < y)) = true:=h1
    replace h2:(if y = z then lexLt ys zs else decide (y < z)) = true:=h2
    show (if x = z then lexLt xs zs else decide (x < z)) = true
    by_cases e1:x = y
    ·rw [if_pos e1] at h1
     subst e1
     by_cases e2:x = z
     ·rw [if_pos e2] at h2 ⊢
      exact ih h1 h2
     ·rw [if_neg e2] at h2 ⊢
      exact h2
    ·rw [if_neg e1] at h1
     have WE:=of_decide_eq_true h1
     by_cases e2:y = z
     ·subst e2
      rw [if_neg e1]
      exact h1
     ·rw [if_neg e2] at h2
      have Lp:=of_decide_eq_true h2
      rw [if_neg (by lia)]
      exact decide_eq_true (by lia)
theorem gC:∀ {xs ys:List Int},xs ≠ ys → lexLt xs ys = false → lexLt ys xs = true:=by
 intro xs
 induction xs with
 | nil =>
  intro ys h1 h2
  cases ys with
  | nil => exact absurd rfl h1
  | cons y ys => cases h2
 | cons x xs ih =>
  intro ys h1 h2
  cases ys with
  | nil => rfl
  | cons y ys =>
   replace h2:(if x = y then lexLt xs ys else decide (x < y)) = false:=h2
   show (if y = x then lexLt ys xs else decide (y < x)) = true
   by_cases e:x = y
   ·subst e
    rw [if_pos rfl] at h2 ⊢
    exact ih (fun z => h1 (by rw [z])) h2
   ·rw [if_neg e] at h2
    rw [if_neg (fun z => e z.symm)]
    have:=of_decide_eq_false h2
    exact decide_eq_true (by lia)
theorem jo {xs ys:List Int} (h:lexLt xs ys = true):lexLt ys xs = false:=by
 cases z:lexLt ys xs with
 | false => rfl
 | true =>
  have:=jV h z
  rw [fF] at this
  cases this
section
variable {prog:Program} {w:World} {A:Around} {E:Value → Shared → Prop} {s:Shared}
theorem GY {fin:Bool} {Q:Bool → Shared → Prop}:∀ {us vs:List Value} {xs ys:List Int} (i:Nat),IntsAre us xs → IntsAre vs ys → fin = decide (xs.length < ys.length) → Q (lexLt xs ys) s →
  KatLex prog w A true fin Q (us.zip vs) i s:=by
 intro us vs xs ys i h1
 induction h1 generalizing vs ys i with
 | nil =>
  intro h2 hf h
  refine kat_nil ?_
  cases h2 with
  | nil => rw [hf]; exact h
  | cons n t r => rw [hf]; exact h
 | cons n t r ih =>
  intro h2 hf h
  cases h2 with
  | nil =>
   refine kat_nil ?_
   rw [hf]; exact h
  | @cons m u uO GZ r2 =>
   refine kat_cons (wpAny_eqBool_int ?_)
   rename_i zD T8
   replace h:Q (if n = m then lexLt T8 GZ else decide (n < m)) s:=h
   by_cases e:n = m
   ·subst e
    rw [beq_self_eq_true]
    refine kat_yes (ih (i + 1) r2 ?_ ?_)
    ·rw [hf]
     simp only [List.length_cons,Nat.add_lt_add_iff_right]
    ·rw [if_pos rfl] at h; exact h
   ·rw [beq_eq_false_iff_ne.mpr e]
    rw [if_neg e] at h
    refine kat_no ?_
    by_cases hi:i = 0
    ·subst hi
     exact oneLt_int h
    ·rw [show (true && i == 0) = false by rw [Bool.true_and]; exact beq_eq_false_iff_ne.mpr hi]
     exact kat_one _ _ (lt_int h)
noncomputable def hG (h:Heap) (v:Value) (xs:List Int):Prop:=xs ≠ [] ∧ ∃ a o aE n,v = .ref a ∧ h.get? a = some o ∧ o.cls = .type "tuple" ∧ o.data = .seq aE n ∧ IntsAre aE.toList xs
theorem hG.to {h h':Heap} {v:Value} {xs:List Int} (t:hG h v xs) (hk:∀ b o,h.get? b = some o → o.cls = .type "tuple" → h'.get? b = some o):hG h' v xs:=by
 obtain ⟨ne,a,o,aE,n,e,ho,hc,r⟩:=t
 exact ⟨ne,a,o,aE,n,e,hk a o ho hc,hc,r⟩
theorem J5 {Q:Bool → Shared → Prop} {x y:Value} {xs ys:List Int} (h1:hG s.heap x xs) (h2:hG s.heap y ys) (h:Q (lexLt xs ys) s):wpAny (model prog w) A (keyLt' (tuples' true) x y) Q E s:=by
 obtain ⟨_,a,o,aE,n,rfl,ho,hc,hd,hi⟩:=h1
 obtain ⟨_,b,o2,cU,n2,rfl,rV,pJ,hd2,HV⟩:=h2
 refine kat_lt ho hd rV hd2 (GY 0 hi HV ?_ h)
 rw [← hi.length,← HV.length,Array.length_toList,Array.length_toList]
inductive bP (h:Heap):List Value → List (List Int) → Prop
 | nil:bP h [] []
 | cons {v:Value} {x:List Int} {vs:List Value} {xs:List (List Int)}:hG h v x → bP h vs xs → bP h (v :: vs) (x :: xs)
theorem bP.to {h h':Heap} {vs:List Value} {xs:List (List Int)} (t:bP h vs xs) (hk:∀ b o,h.get? b = some o → o.cls = .type "tuple" → h'.get? b = some o):bP h' vs xs:=by
 induction t with
 | nil => exact .nil
 | cons a _ ih => exact .cons (a.to hk) ih
theorem bP.length {h:Heap} {vs:List Value} {xs:List (List Int)} (t:bP h vs xs):vs.length = xs.length:=by
 induction t with
 | nil => rfl
 | cons _ _ ih => rw [List.length_cons,List.length_cons,ih]
theorem bP.at_ {h:Heap} {vs:List Value} {xs:List (List Int)} (t:bP h vs xs):∀ i,i < vs.length → hG h (vs.getD i .none) (xs.getD i []):=by
 induction t with
 | nil => intro i hi; cases hi
 | cons a _ ih =>
  intro i hi
  cases i with
  | zero => exact a
  | succ i => exact ih i (Nat.lt_of_succ_lt_succ hi)
theorem bP.append {h:Heap} {vs LA:List Value} {xs RK:List (List Int)} (t:bP h vs xs) (t2:bP h LA RK):bP h (vs ++ LA) (xs ++ RK):=by
 induction t with
 | nil => exact t2
 | cons a _ ih => exact .cons a ih
theorem bP.rev {h:Heap} {vs:List Value} {xs:List (List Int)} (t:bP h vs xs):bP h vs.reverse xs.reverse:=by
 induction t with
 | nil => exact .nil
 | cons a _ ih =>
  rw [List.reverse_cons,List.reverse_cons]
  exact ih.append (.cons a .nil)
theorem bP.T9 {h:Heap} {vs:List Value} {xs:List (List Int)} (t:bP h vs xs):∃ fs,KatTups h vs fs ∧ fs.length = vs.length ∧ ∀ v ∈ fs,∃ n u,v = .int n u:=by
 induction t with
 | nil => exact ⟨[],.nil,rfl,fun v m => by cases m⟩
 | cons a _ ih =>
  obtain ⟨fs,k,l,al⟩:=ih
  obtain ⟨ne,a,o,aE,n,rfl,ho,hc,hd,hi⟩:=a
  obtain ⟨aE⟩:=aE
  cases hi with
  | nil => exact absurd rfl ne
  | cons m u r =>
   refine ⟨_,KatTups.cons ho hc hd rfl k,by rw [List.length_cons,List.length_cons,l],fun v mv => ?_⟩
   rcases List.mem_cons.mp mv with rfl | mv
   ·exact ⟨_,_,rfl⟩
   ·exact al v mv
theorem Dp {vs:List Value} {xs:List (List Int)} {Q:SortKind → Shared → Prop} (t:bP s.heap vs xs) (h0:0 < vs.length) (h:Q (tuples' true) s):wpAny (model prog w) A (keyKind' vs.toArray) Q E s:=by
 obtain ⟨fs,k,l,al⟩:=t.T9
 refine kat_kind (T:=.type "int") k (by rw [l]; exact h0) (fun v m => ?_) (by decide) h
 obtain ⟨n,u,rfl⟩:=al v m
 exact Looks.of_pure rfl
end
end SO
namespace SO
open PySem PySem.W PyProof.Rows
noncomputable def iw (xs:List (List Int)):Prop:=xs.Pairwise fun a b => lexLt b a = true
section
variable {vs:List Value} {xs:List (List Int)}
theorem wm {α β:Type}:∀ {vs:List α} {xs:List β},vs.length = xs.length → vs.reverse.zip xs.reverse = (vs.zip xs).reverse
 | [],[],_ => rfl
 | v :: vs,x :: xs,h => by
  have h':vs.length = xs.length:=Nat.succ.inj h
  rw [List.reverse_cons,List.reverse_cons,List.zip_cons_cons,List.reverse_cons,List.zip_append (by rw [List.length_reverse,List.length_reverse,h']),wm h']
  rfl
noncomputable def RL:Value → Int
 | .int n _ => n
 | _ => 0
noncomputable def keyOf (h:Heap):Value → List Int
 | .ref a => match h.get? a with
  | some o => match o.data with
   | .seq aE _ => aE.toList.map RL
   | _ => []
  | none => []
 | _ => []
theorem G0 {us:List Value} {ns:List Int} (h:IntsAre us ns):us.map RL = ns:=by
 induction h with
 | nil => rfl
 | cons n t _ ih => rw [List.map_cons,ih]; rfl
theorem oq {h:Heap} {v:Value} {k:List Int} (t:hG h v k):keyOf h v = k:=by
 obtain ⟨_,a,o,aE,n,rfl,ho,_,hd,hi⟩:=t
 unfold keyOf
 dsimp only
 rw [ho]
 dsimp only
 rw [hd]
 exact G0 hi
theorem Dq {h:Heap} {vs:List Value} {xs:List (List Int)} (t:bP h vs xs):vs.map (keyOf h) = xs:=by
 induction t with
 | nil => rfl
 | cons a _ ih => rw [List.map_cons,ih,oq a]
noncomputable def rk (xs:List (List Int)) (k:List Int):Nat:=xs.countP fun z => lexLt z k
theorem p9 {α:Type} {p q:α → Bool}:∀ {l:List α} {x:α},x ∈ l → (∀ z,p z = true → q z = true) → q x = true → p x = false → l.countP p < l.countP q
 | y :: l,x,m,h,hq,hp => by
  have le:l.countP p ≤ l.countP q:=List.countP_mono_left fun z _ => h z
  rcases List.mem_cons.mp m with e | m
  ·subst e
   rw [List.countP_cons_of_neg (by rw [hp]; exact Bool.false_ne_true),List.countP_cons_of_pos hq]
   lia
  ·have ih:=p9 m h hq hp
   by_cases c:p y = true
   ·rw [List.countP_cons_of_pos c,List.countP_cons_of_pos (h y c)]
    lia
   ·rw [List.countP_cons_of_neg c]
    by_cases d:q y = true
    ·rw [List.countP_cons_of_pos d]; lia
    ·rw [List.countP_cons_of_neg d]; exact ih
theorem wq {xs:List (List Int)} {a b:List Int} (ha:a ∈ xs) (h:lexLt a b = true):rk xs a < rk xs b :=
 p9 ha (fun z hz => jV hz h) h (fF a)
theorem EC {xs:List (List Int)} {a b:List Int} (ha:a ∈ xs) (hb:b ∈ xs):decide (rk xs a < rk xs b) = lexLt a b:=by
 cases z:lexLt a b with
 | true => exact decide_eq_true (wq ha z)
 | false =>
  refine decide_eq_false ?_
  by_cases e:a = b
  ·rw [e]; exact Nat.lt_irrefl _
  ·have:=wq hb (gC e z)
   lia
theorem Aw {xs:List (List Int)} (nd:xs.Nodup):(xs.map (rk xs)).Nodup:=by
 refine List.pairwise_map.mpr (List.Pairwise.imp_of_mem (fun {a b} ha hb ne => ?_) nd)
 intro e
 cases z:lexLt a b with
 | true => have:=wq ha z; lia
 | false => have:=wq hb (gC ne z); lia
end
section
variable {prog:Program} {w:World} {A:Around} {E:Value → Shared → Prop} {s:Shared} {vs:List Value} {xs:List (List Int)}
theorem Ax {a:Addr} {n:Nat} {P:PySem.Fin → Shared → Prop} (ho:s.heap.get? a = some (seqObj "list" vs.toArray n)) (t:bP s.heap vs xs) (nd:xs.Nodup) (hz:vs.length ≤ sizeLine)
  (h:∀ zs:List (Value × List Int),zs.Perm (vs.zip xs) → iw (zs.map (·.2)) → P (.done (.ret .none)) { s with heap:=sortedHeap s.heap a vs (zs.map (·.1)).toArray }) :
  wpAny (model prog w) A (Builtin.«list.sort» ⟨[.ref a],[(Str.ofString "reverse",.bool true)]⟩) P E s:=by
 rw [list_sort_rev]
 have ha:a < s.heap.objs.size:=Heap.lt_size ho
 have small:vs.toArray.size ≤ sizeLine:=by rw [List.size_toArray]; exact hz
 obtain ⟨h1,e1⟩:∃ h1,h1 = s.heap.update a (Obj.mapSeq fun _ => (#[]:Array Value)):=⟨_,rfl⟩
 obtain ⟨c1,LB⟩:∃ c,h1.get? a = some (seqObj "list" #[] c):=⟨_,by rw [e1]; exact get?_update_seq ho fun _ => #[]⟩
 obtain ⟨h6,e6⟩:∃ h6,h6 = (h1.push (seqObj "tuple" vs.toArray 0)).push (seqObj "list" #[] 0):=⟨_,rfl⟩
 have LC:h6.get? a = some (seqObj "list" #[] c1):=by rw [e6]; exact Heap.get?_push_of_some _ (Heap.get?_push_of_some _ LB)
 have t6:bP h6 vs xs:=t.to fun b o hb hc => by
  rw [e6,e1]
  refine Heap.get?_push_of_some _ (Heap.get?_push_of_some _ ?_)
  have ne:a ≠ b:=fun z => by
   rw [← z,ho] at hb
   cases hb
   exact absurd (Value.type.inj hc) (by decide)
  exact (Heap.get?_update_other _ _ ne).trans hb
 refine wpAny_bind (listItems_at ho rfl (wpAny_bind (listUpdate_at ho rfl ?_ small (Nat.zero_le _))))
 rw [← e1]
 refine wpAny_bind (seqEpoch_at LB rfl (wpAny_bind (wpAny_newTuple ?_ (by show vs.length ≤ _; exact hz))))
 refine wpAny_bind (wpAny_newList ?_ (Nat.zero_le _)); refine wpAny_holding ?_
 show wpAny (model prog w) A _ P E { s with heap:=(h1.push (seqObj "tuple" vs.toArray 0)).push (seqObj "list" #[] 0) }
 rw [← e6]
 have ends:∀ zs:List (Value × List Int),zs.Perm (vs.zip xs) → iw (zs.map (·.2)) → P (.done (.ret .none)) { s with heap:=h6.update a (Obj.mapSeq fun _ => (zs.map (·.1)).toArray) }:=by
  intro zs z1 z2
  have:=h zs z1 z2
  unfold sortedHeap at this
  rw [← e1,← e6] at this
  exact this
 dsimp only
 rw [if_pos rfl]
 refine wpAny_bind (wpAny_rule ?_)
 by_cases h2:vs.toArray.size < 2
 ·rw [if_pos h2,if_pos h2]
  refine wpAny_bind (wpAny_pure ?_); rw [StateT.run_pure]; refine wpAny_bind (wpAny_pure ?_)
  dsimp only
  have T_:(vs.zip xs).length < 2:=by rw [List.length_zip,← t.length,Nat.min_self]; rw [List.size_toArray] at h2; exact h2
  have out:(((vs.toArray.zip vs.toArray).reverse.map (·.2)).reverse) = ((vs.zip xs).map (·.1)).toArray:=by
   rw [Array.map_reverse,Array.reverse_reverse]
   apply Array.toList_inj.mp
   rw [Array.toList_map,Array.toList_zip]
   show List.map _ (vs.zip vs) = List.map _ (vs.zip xs)
   rw [List.map_snd_zip (Nat.le_refl _),List.map_fst_zip (Nat.le_of_eq t.length)]
  refine wpAny_bind (seqEpoch_at LC rfl (wpAny_bind (listUpdate_at LC rfl ?_ (Nat.zero_le _) ?_)))
  ·show wpAny _ _ _ _ _ { s with heap:=h6.update a (Obj.mapSeq fun _ => (((vs.toArray.zip vs.toArray).reverse.map (·.2)).reverse)) }
   rw [out]
   simp only [bne_self_eq_false,Bool.false_eq_true,if_false]
   refine wpAny_pure (ends _ (List.Perm.refl _) ?_)
   unfold iw
   match (vs.zip xs),T_ with
   | [],_ => exact .nil
   | [_],_ => exact List.pairwise_singleton _ _
  ·show (((vs.toArray.zip vs.toArray).reverse.map (·.2)).reverse).size ≤ _
   rw [out,List.size_toArray,List.length_map]; lia
 ·rw [if_neg h2,if_neg h2]
  have l2:2 ≤ vs.length:=by rw [List.size_toArray] at h2; lia
  obtain ⟨rs,er⟩:∃ rs,rs = vs.reverse:=⟨_,rfl⟩
  obtain ⟨ks,ek⟩:∃ ks,ks = xs.reverse:=⟨_,rfl⟩
  have NI:bP h6 rs ks:=by rw [er,ek]; exact t6.rev
  have lr:rs.length = vs.length:=by rw [er,List.length_reverse]
  have lk:rs.length = ks.length:=NI.length
  have Ua:ks.Nodup:=by rw [ek]; exact (List.reverse_perm xs).nodup_iff.mpr nd
  refine wpAny_bind (Dp t6 (by lia) ?_)
  have pr:(vs.toArray.zip vs.toArray).reverse = rs.toArray.zip rs.toArray:=by
   have:=kat_pairs true (ks:=vs) (vs:=vs) rfl
   rw [if_pos rfl] at this
   rw [this,er]; rfl
  rw [pr]
  obtain ⟨X,eX⟩:∃ X,X = rs.toArray.zip rs.toArray:=⟨_,rfl⟩
  rw [← eX]
  have xl:X.toList = rs.map fun v => (v,v):=by
   rw [eX,Array.toList_zip]
   show rs.zip rs = _
   rw [List.zip_eq_zipWith,List.zipWith_self]
  have kk:rs.map (keyOf h6) = ks:=Dq NI
  have sX:∀ x ∈ X,∃ k,hG h6 x.1 k ∧ k ∈ ks:=fun x hx => by
   rw [← Array.mem_toList_iff,xl] at hx
   obtain ⟨v,hv,rfl⟩:=List.mem_map.mp hx
   obtain ⟨i,hi⟩:=List.getElem?_of_mem hv
   have li:i < rs.length:=(List.getElem?_eq_some_iff.mp hi).1
   have:=NI.at_ i li
   rw [List.getD_eq_getElem?_getD,hi,List.getD_eq_getElem?_getD,List.getElem?_eq_getElem (by lia)] at this
   exact ⟨_,this,List.getElem_mem _⟩
  have C:TS.xJ prog w A { s with heap:=h6 } (tuples' true) (fun x => ∃ k,hG h6 x.1 k ∧ k ∈ ks) fun x => rk ks (keyOf h6 x.1):=by
   rintro x y Q ⟨k,tk,mk⟩ ⟨l,tl,ml⟩ q
   replace q:Q (decide (rk ks (keyOf h6 x.1) < rk ks (keyOf h6 y.1))) { s with heap:=h6 }:=q
   rw [oq tk,oq tl,EC mk ml] at q
   exact J5 tk tl q
  have dX:TS.Di (fun x => rk ks (keyOf h6 x.1)) X:=by
   unfold TS.Di
   rw [xl,List.map_map]
   have:rs.map ((fun x:Keyed => rk ks (keyOf h6 x.1)) ∘ fun v => (v,v)) = ks.map (rk ks):=by
    rw [← kk,List.map_map]; rfl
   rw [this]
   exact Aw Ua
  have zX:X.size = rs.length:=by rw [← Array.length_toList,xl,List.length_map]
  rw [if_pos (rfl:true = true)]
  refine wpAny_bind (wpAny_mono (TS.J0 (Q:=fun _ av => ∃ Y pd g,av = SortSt.mk' (tuples' true) Y pd g none ∧ Y.toList.Perm X.toList ∧ TS.Up (fun x => rk ks (keyOf h6 x.1)) Y 0 X.size) C sX dX (by lia) fun Y pd g y1 y2 => ⟨Y,pd,g,rfl,y1,y2⟩) ?_ fun _ _ e => e)
  rintro ⟨⟨⟩,av⟩ s' ⟨rfl,Y,pd,g,rfl,y1,y2⟩
  dsimp only at y1 y2 ⊢
  have zY:Y.size = X.size:=by rw [← Array.length_toList,y1.length_eq,Array.length_toList]
  obtain ⟨zs,ez⟩:∃ zs:List (Value × List Int),zs = (Y.toList.map fun x => (x.2,keyOf h6 x.1)).reverse:=⟨_,rfl⟩
  have zp:zs.Perm (vs.zip xs):=by
   rw [ez]
   refine (List.reverse_perm _).trans ((y1.map _).trans ?_)
   rw [xl,List.map_map]
   have:rs.map ((fun x:Keyed => (x.2,keyOf h6 x.1)) ∘ fun v => (v,v)) = rs.zip ks:=by
    rw [← kk,List.zip_map_right,List.zip_eq_zipWith,List.zipWith_self,List.map_map]; rfl
   rw [this,er,ek,wm t.length]
   exact List.reverse_perm _
  have zf:iw (zs.map (·.2)):=by
   unfold iw
   rw [ez,List.map_reverse,List.pairwise_reverse,List.map_map,List.pairwise_map]
   have u:=y2.kZ
   rw [← zY,TS.du] at u
   have d:=List.pairwise_map.mp (dX.to y1)
   refine List.Pairwise.imp_of_mem (fun {a b} ha hb q => ?_) (List.Pairwise.and u d)
   obtain ⟨k,tk,mk⟩:=sX a (Array.mem_toList_iff.mp (y1.mem_iff.mp ha))
   obtain ⟨l,tl,ml⟩:=sX b (Array.mem_toList_iff.mp (y1.mem_iff.mp hb))
   have q1:rk ks (keyOf h6 a.1) ≤ rk ks (keyOf h6 b.1):=q.1
   have q2:rk ks (keyOf h6 a.1) ≠ rk ks (keyOf h6 b.1):=q.2
   show lexLt (keyOf h6 a.1) (keyOf h6 b.1) = true
   rw [oq tk,oq tl] at q1 q2 ⊢
   rw [← EC mk ml]
   exact decide_eq_true (by lia)
  have out:(Y.map (·.2)).reverse = (zs.map (·.1)).toArray:=by
   apply Array.toList_inj.mp
   rw [Array.toList_reverse,Array.toList_map,ez,List.map_reverse,List.map_map]
   rfl
  have lz:zs.length ≤ sizeLine:=by
   have:=zp.length_eq
   rw [List.length_zip,← t.length,Nat.min_self] at this
   lia
  refine wpAny_bind (seqEpoch_at LC rfl (wpAny_bind (listUpdate_at LC rfl ?_ (Nat.zero_le _) ?_)))
  ·rw [if_pos rfl,out]
   simp only [bne_self_eq_false,Bool.false_eq_true,if_false]
   exact wpAny_pure (ends zs zp zf)
  ·rw [if_pos rfl,out,List.size_toArray,List.length_map]; exact Nat.le_succ_of_le lz
theorem u_ {d:Addr} {es:Array DictEntry} {ep:Nat} {Q:Value → Shared → Prop} (hh:A.handled = none) (lo:(d == sysModules) = false) (x:jn s.heap d es ep) (t:bP s.heap (es.toList.map (·.key)) xs) (nd:xs.Nodup) (hz:es.size ≤ sizeLine)
  (h:∀ (h':Heap) (tk:Nat) (l:Addr) (c:Nat) (zs:List (Value × List Int)),(∀ b o,s.heap.get? b = some o → h'.get? b = some o) → s.heap.objs.size ≤ l → zs.Perm ((es.toList.map (·.key)).zip xs) → iw (zs.map (·.2)) →
   h'.get? l = some (seqObj "list" (zs.map (·.1)).toArray c) → Q (.ref l) { s with heap:=h',toks:=tk }) :
  wpAny (model prog w) A (call (.builtin "sorted") [.ref d] [(Str.ofString "reverse",.bool true)]) Q E s:=by
 refine call_function_entry_kw kind_sorted plain_sorted entry_sorted (args_sorted_rev _ _) ?_
 unfold Builtin.«sorted»; refine wpAny_bind (m:=checkCount "sorted" 1 1 _) (wpAny_pure ?_)
 have hn:es.size ≤ sizeLine:=hz
 obtain ⟨vs,ev⟩:∃ vs,vs = es.toList.map (·.key):=⟨_,rfl⟩
 have lv:vs.length = es.size:=by rw [ev,List.length_map,Array.length_toList]
 refine wpAny_bind (tD hh lo x hn fun h1 tk k0 k1 => ?_)
 rw [← ev] at t h ⊢
 refine wpAny_bind (wpAny_newList ?_ (by show vs.length ≤ _; lia))
 have gl:(h1.push (seqObj "list" vs.toArray 0)).get? h1.objs.size = some (seqObj "list" vs.toArray 0):=Heap.get?_push_size _ rfl
 show wpAny _ _ _ _ _ { s with heap:=h1.push (seqObj "list" vs.toArray 0),toks:=tk }
 refine wpAny_bind (wpAny_holding (wpAny_call_entry_kw slot_list_sort ⟨_,gl,rfl⟩ entry_list_sort (Ax gl (t.to fun b o e _ => Heap.get?_push_of_some _ (k1 b o e)) nd (by lia) fun zs z1 z2 => ⟨_,rfl,?_⟩) (args_list_sort_rev _ _)))
 obtain ⟨c,gc⟩:∃ c,(sortedHeap (h1.push (seqObj "list" vs.toArray 0)) h1.objs.size vs (zs.map (·.1)).toArray).get? h1.objs.size = some (seqObj "list" (zs.map (·.1)).toArray c) :=
  ⟨_,by unfold sortedHeap; exact get?_update_seq (Heap.get?_push_of_some _ (Heap.get?_push_of_some _ (get?_update_seq gl fun _ => #[]))) fun _ => (zs.map (·.1)).toArray⟩
 refine wpAny_pure ⟨_,rfl,h _ tk h1.objs.size c zs (fun b o e => ?_) ?_ z1 z2 gc⟩
 ·have e1:=k1 b o e
  have ne:h1.objs.size ≠ b:=Nat.ne_of_gt (Heap.lt_size e1)
  unfold sortedHeap
  refine (Heap.get?_update_other _ _ ne).trans (Heap.get?_push_of_some _ (Heap.get?_push_of_some _ ((Heap.get?_update_other _ _ ne).trans (Heap.get?_push_of_some _ e1))))
 ·exact Nat.le_of_lt k0
end
end SO
namespace L2
open PySem PySem.Spec PyProof.Rows
noncomputable def Ay (X:Cx) (f:Value) (ks:List Str) (r:List V → List V → Hp → VK → Prop):Prop :=
 ∀ (pins:List (Addr × Obj)) (s:Shared) (σ:St) (H:Hp) (xs zs:List V) (us ws:List Value) (Q:VK),Inv X pins σ H s → Vals xs us → Vals zs ws → r xs zs H Q →
  wpAny (model X.prog X.w) X.A (call f us (ks.zip ws)) (EP X pins σ Q) X.xe s
noncomputable def Ub (r:List V → List V → Hp → VK → Prop) (t tk:TA):TE:=fun σ H Q => t σ H fun vs H1 => tk σ H1 fun zs H2 => r vs zs H2 Q
section
variable {X:Cx} {id:String} {ks:List Str} {r:List V → List V → Hp → VK → Prop} {x:Str} {p pos:Pos} {e:Expr} {es:List Expr} {yL:List Keyword} {t tk:TA}
theorem xO (hc:Ay X (.builtin id) ks r) (hg:Gl X x) (hm:X.mg x = none) (hv:bootBuiltins x = some (.builtin id)) (ha:PA X (e :: es) t) (Uc:PK X yL tk)
  (ED:(backToKw pos (keywordEach yL X.env)).filterMap (·.1) = ks:=by rfl) (hn:x ≠ "__name__":=by decide) (jB:(x == ("__debug__":Str)) = false:=by decide)
  (he:backTo pos (starEach (e :: es) X.env) = (false,eval e X.env) :: backTo pos (starEach es X.env):=by rfl) (iG:(backTo pos (starEach (e :: es) X.env)).any (·.1) = false:=by rfl)
  (FO:(backToKw pos (keywordEach yL X.env)).all (·.1.isSome) = true:=by rfl) (FD:(backToKw pos (keywordEach yL X.env)).any (·.1.isNone) = false:=by rfl):PE X (.Call (.Name x p) (e :: es) yL pos) (Ub r t tk):=by
 intro pins s σ H Q I h
 refine wpAny_Call_Name_kw (ja I hg hm hv ?_ hn jB)
 refine callWith_kw (cb (ha pos pins s σ H _ I h) fun us s1 q1 => ?_) he iG FO FD
 obtain ⟨vs,H1,I1,r1,q1⟩:=q1
 refine cb (Uc pos pins s1 σ H1 _ I1 q1) fun ws s2 q2 => ?_
 obtain ⟨zs,H2,I2,r2,q2⟩:=q2
 rw [ED]
 exact hc pins s2 σ H2 vs zs us ws Q I2 r1 r2 q2
end
noncomputable def iK (k:List Int):List Key:=k.map Sum.inl
theorem NJ (k:List Int):(iK k).map kV = k.map V.int:=by
 unfold iK
 rw [List.map_map]
 rfl
theorem Az {a b:List Int} (h:iK a = iK b):a = b:=by
 induction a generalizing b with
 | nil => cases b with
  | nil => rfl
  | cons => cases h
 | cons x a ih => cases b with
  | nil => cases h
  | cons y b =>
   injection h with h1 h2
   injection h1 with h1
   rw [h1,ih h2]
noncomputable def G1 (H:Hp) (v:V) (k:List Int):Prop:=∃ a,v = .ref a ∧ H a = some (.tup (k.map V.int))
noncomputable def AA:List V → List V → Hp → VK → Prop:=fun xs zs H Q => ∃ (d:Addr) (aI:List (List Key × V)) (ks:List (List Int)),xs = [.ref d] ∧ zs = [.bl true] ∧ H d = some (.dT aI) ∧ aI.map (·.1) = ks.map iK ∧ ks.length ≤ sizeLine ∧ (∀ k ∈ ks,k ≠ []) ∧
 ∀ (l:Addr) (vs:List V) (outs:List (List Int)),H l = none → outs.Perm ks → SO.iw outs → Paired (G1 H) vs outs → Q (.ref l) (upd H l (.lst vs))
theorem ix {xs:List Int} {us:List Value} (h:Vals (xs.map V.int) us):IntsAre us xs:=by
 induction xs generalizing us with
 | nil => cases h; exact .nil
 | cons x xs ih =>
  cases h with
  | cons a b =>
   obtain ⟨t,rfl⟩:=a
   exact .cons x t (ih b)
section
variable {X:Cx}
theorem tF (hc:X.calm = true):Ay X (.builtin "sorted") ["reverse"] AA:=by
 intro pins s σ H xs zs us ws Q I rx rz h
 obtain ⟨d,aI,ks,rfl,rfl,hd,hk,WG,NH,q⟩:=h
 obtain ⟨u,rfl,r1⟩:=vals1 rx
 obtain ⟨z,rfl,r2⟩:=vals1 rz
 cases r1
 cases r2
 obtain ⟨_,lo,xs,pr,o,es,ep,h1,h2,h3,h4,h5⟩:=(show bL X.prog X.w H s.heap d (.dT aI) from I.bz d _ hd)
 -- HD RM values and Ir Ud hold
 have key:∀ {aI:List (List Key × V)} {xs:List (List Key × Addr × Value)} {ks:List (List Int)},KT H aI xs → aI.map (·.1) = ks.map iK → (∀ k ∈ ks,k ≠ []) →
   SO.bP s.heap (xs.map fun x => Value.ref x.2.1) ks ∧ xs.map (·.1) = ks.map iK ∧ ∀ z ∈ (xs.map fun x => Value.ref x.2.1).zip ks,∃ a,z.1 = .ref a ∧ H a = some (.tup (z.2.map V.int)):=by
  intro aI xs ks pr
  induction pr generalizing ks with
  | nil =>
   intro e _
   cases ks with
   | nil => exact ⟨.nil,rfl,fun z m => by cases m⟩
   | cons => cases e
  | @cons p x ps ys a _ ih =>
   intro e ne
   cases ks with
   | nil => cases e
   | cons k ks =>
    injection e with e1 e2
    replace e1:p.1 = iK k:=e1
    obtain ⟨i1,i2,i3⟩:=ih e2 fun k m => ne k (List.mem_cons_of_mem _ m)
    have ht:H x.2.1 = some (.tup (k.map V.int)):=by rw [← NJ,← e1]; exact a.2.1
    obtain ⟨_,aE,rv,o,g1,g2,n,g3⟩:=(show bL X.prog X.w H s.heap x.2.1 (.tup (k.map V.int)) from I.bz _ _ ht)
    refine ⟨.cons ⟨ne k List.mem_cons_self,x.2.1,o,aE.toArray,n,rfl,g1,g2,g3,ix rv⟩ i1,?_,fun z m => ?_⟩
    ·rw [List.map_cons,List.map_cons,i2,← a.1,e1]
    ·rcases List.mem_cons.mp m with m | m
     ·rw [m]; exact ⟨_,rfl,ht⟩
     ·exact i3 z m
 obtain ⟨t,ek,hz⟩:=key pr hk NH
 have nd:ks.Nodup:=by
  rw [ek] at h5
  exact List.Pairwise.of_map iK (fun a b z e => z (by rw [e])) h5
 have ev:es.toList.map (·.key) = xs.map fun x => Value.ref x.2.1:=by rw [h4,List.map_map]; rfl
 have lv:es.size = ks.length:=by
  have:=congrArg List.length h4
  rw [Array.length_toList,List.length_map] at this
  have l2:=t.length
  rw [List.length_map] at l2
  lia
 have x:SO.jn s.heap d es ep:=⟨o,h1,h2.1,h3⟩
 refine SO.u_ (I.ok.hd hc) lo x (by rw [ev]; exact t) nd (by lia) fun h' tk l c zs kp hl z1 z2 g => ?_
 rw [ev] at z1
 have all:∀ z ∈ zs,∃ a,z.1 = .ref a ∧ H a = some (.tup (z.2.map V.int)):=fun z m => hz z (z1.mem_iff.mp m)
 have mk:∀ {zs:List (Value × List Int)},(∀ z ∈ zs,∃ a,z.1 = .ref a ∧ H a = some (.tup (z.2.map V.int))) → ∃ vs,Vals vs (zs.map (·.1)) ∧ Paired (G1 H) vs (zs.map (·.2)):=by
  intro zs
  induction zs with
  | nil => intro _; exact ⟨[],.nil,.nil⟩
  | cons z zs ih =>
   intro al
   obtain ⟨vs,v1,v2⟩:=ih fun y m => al y (List.mem_cons_of_mem _ m)
   obtain ⟨a,e1,e2⟩:=al z List.mem_cons_self
   exact ⟨.ref a :: vs,.cons e1 v1,.cons ⟨a,rfl,e2⟩ v2⟩
 obtain ⟨vs,v1,v2⟩:=mk all
 have op:(zs.map (·.2)).Perm ks:=by
  have:=z1.map (·.2)
  rwa [List.map_snd_zip (Nat.le_of_eq t.length.symm)] at this
 have lz:vs.length ≤ sizeLine:=by
  have e1:=v1.length
  have e2:=op.length_eq
  rw [List.length_map] at e1 e2
  lia
 exact ⟨.ref l,_,I.laid (t':=tk) kp hl (show bL X.prog X.w _ h' _ (.lst vs) from ⟨lz,_,c,v1,g⟩),rfl,q l vs _ (I.bz.fresh hl) op z2 v2⟩
end
end L2
namespace SO
open PySem PySem.W PyProof.Rows
section
variable {prog:Program} {w:World} {A:Around} {E:Value → Shared → Prop} {s:Shared}
end
end SO
namespace SO
open PySem PySem.W PyProof.Rows
theorem Dr {us:List Value} {ns:List Int} (h:IntsAre us ns):∀ {i:Nat} {v:Value},us[i]? = some v → ∃ n t,ns[i]? = some n ∧ v = .int n t:=by
 induction h with
 | nil => intro i v e; cases e
 | cons n t _ ih =>
  intro i v e
  cases i with
  | zero => cases e; exact ⟨n,t,rfl,rfl⟩
  | succ i => exact ih e
section
variable {prog:Program} {w:World} {A:Around} {E:Value → Shared → Prop} {I l S:Addr} {us:List Value} {ns:List Int} {d:Value} {R:Result → Shared → Prop}
theorem rm {s:Shared} {id:String} {b:Builtin} {args:List Value} {kw:List (Str × Value)} {Q:Value → Shared → Prop} (hk:builtinKind id = none) (hp:plainId id = true) (hb:entryFor table id = some b) (ha:argsOk id ⟨args,kw⟩)
  (hc:wpAny (model prog w) A.in1 (b ⟨args,kw⟩) (fun fin s' => match fin with
   | .done f => (match (Except.ok f:Result) with | .ok (.ret v) => Q v s' | .ok _ => False | .error e => E e s')
   | .again c' => c'.quiet = true ∧ codeAny (model prog w) A c' (fun r s' => match r with | .ok (.ret v) => Q v s' | .ok _ => False | .error e => E e s') s') E s):wpAny (model prog w) A (call (.builtin id) args kw) Q E s:=by
 refine wpAny_call (codeAny_call_builtin hp hb ?_)
 simp only [checkBuiltinCall,hk]
 cases NK:Manifest.signature? id with
 | none => exact wpAny_pure hc
 | some sig =>
  have Eo:Bind.checkArgs id sig ⟨args,kw⟩ = pure ():=by simpa only [argsOk,NK] using ha
  simp only [Eo]
  exact wpAny_pure hc
end
end SO
namespace MN
open PySem PySem.Spec L2
open PyProof.Rows hiding St kindOf
noncomputable def tH:List Key → Option (List Int)
 | [] => some []
 | .inl i :: r => (tH r).map (i :: ·)
 | .inr _ :: _ => none
noncomputable def l_:List (List Key) → Option (List (List Int))
 | [] => some []
 | k :: r => match tH k,l_ r with
  | some a,some b => some (a :: b)
  | _,_ => none
theorem Ds:∀ {k:List Key} {a:List Int},tH k = some a → k = iK a:=by
 intro k
 induction k with
 | nil => intro a h; cases h; rfl
 | cons x r ih =>
  intro a h
  cases x with
  | inl i =>
   replace h:(tH r).map (i :: ·) = some a:=h
   cases z:tH r with
   | none => rw [z] at h; cases h
   | some b =>
    rw [z] at h; cases h
    rw [ih z]; rfl
  | inr x => cases h
theorem AB:∀ {l:List (List Key)} {ks:List (List Int)},l_ l = some ks → l = ks.map iK:=by
 intro l
 induction l with
 | nil => intro ks h; cases h; rfl
 | cons k r ih =>
  intro ks h
  unfold l_ at h
  cases z1:tH k with
  | none => rw [z1] at h; cases h
  | some a =>
   cases z2:l_ r with
   | none => rw [z1,z2] at h; cases h
   | some b =>
    rw [z1,z2] at h; cases h
    rw [Ds z1,ih z2]; rfl
theorem Dt (a:List Int):tH (iK a) = some a:=by
 induction a with
 | nil => rfl
 | cons x a ih => show (tH (iK a)).map (x :: ·) = _; rw [ih]; rfl
theorem AD (ks:List (List Int)):l_ (ks.map iK) = some ks:=by
 induction ks with
 | nil => rfl
 | cons k ks ih => rw [List.map_cons]; unfold l_; rw [Dt,ih]
noncomputable def HW (a b:List Int):Bool:=!(SO.lexLt a b)
noncomputable def kZ (ks:List (List Int)):List (List Int):=ks.mergeSort HW
theorem gD (ks:List (List Int)):(kZ ks).Perm ks:=List.mergeSort_perm ks HW
theorem xP {ks:List (List Int)} (nd:ks.Nodup):SO.iw (kZ ks):=by
 have h1:(kZ ks).Pairwise fun a b => HW a b = true:=by
  refine List.pairwise_mergeSort (fun a b c h1 h2 => ?_) (fun a b => ?_) ks
  ·unfold HW at h1 h2 ⊢
   rw [Bool.not_eq_true'] at h1 h2 ⊢
   by_cases e1:a = b
   ·rw [e1]; exact h2
   ·by_cases e2:b = c
    ·rw [← e2]; exact h1
    ·exact SO.jo (SO.jV (SO.gC e2 h2) (SO.gC e1 h1))
  ·unfold HW
   cases z:SO.lexLt a b with
   | false => rfl
   | true => rw [SO.jo z]; rfl
 have h2:(kZ ks).Nodup:=(gD ks).nodup_iff.mpr nd
 refine List.Pairwise.imp (fun {a b} h => ?_) (h1.and h2)
 have z:SO.lexLt a b = false:=by
  have:=h.1
  unfold HW at this
  rwa [Bool.not_eq_true'] at this
 exact SO.gC h.2 z
theorem tJ {ks:List (List Int)} (h:SO.iw ks):ks.Nodup:=List.Pairwise.imp (fun {a b} h e => by rw [e,SO.fF] at h; cases h) h
theorem AE {a b:List (List Int)} (p:a.Perm b) (fa:SO.iw a) (fb:SO.iw b):a = b :=
 List.Perm.eq_of_pairwise (fun x y _ _ h1 h2 => by rw [SO.jo h1] at h2; cases h2) fa fb p
noncomputable def tupI (k:List Int):Val:=.tup (k.map .int)
noncomputable def AF (d:Val) (st:ai):Res Val:=match d with
 | .loc n => match st[n]? with
  | some (.dT aI) => match l_ (aI.map (·.1)) with
   | some ks => if ks.length ≤ sizeLine ∧ ks.all (fun k => !k.isEmpty) = true then .ok (.loc st.length) (st ++ [.lst ((kZ ks).map tupI)]) else .bad
   | none => .bad
  | _ => .bad
 | _ => .bad
noncomputable def k_ (m:ME):ME:=fun μ st => (m μ st).bind AF
theorem Du {n:Nat} {st:ai} {aI:List (List Key × Val)} {ks:List (List Int)} (h1:st[n]? = some (.dT aI)) (h2:aI.map (·.1) = ks.map iK) (h3:ks.length ≤ sizeLine) (h4:∀ k ∈ ks,k ≠ []) :
  AF (.loc n) st = .ok (.loc st.length) (st ++ [.lst ((kZ ks).map tupI)]):=by
 unfold AF
 dsimp only
 rw [h1]
 dsimp only
 rw [h2,AD]
 dsimp only
 rw [if_pos ⟨h3,List.all_eq_true.mpr fun k m => by
  cases k with
  | nil => exact absurd rfl (h4 _ m)
  | cons => rfl⟩]
theorem AG {K:PySem.W.Frag} {ρ:List Addr} {H:Hp} {vs:List V} {ks:List (List Int)} (p:Paired (G1 H) vs ks):aN K ρ H (ks.map tupI) vs:=by
 induction p with
 | nil => exact aN.nil
 | cons a _ ih =>
  obtain ⟨b,rfl,hb⟩:=a
  exact aN.cons (Rl.lS hb (aN.ints _)) ih
section
variable {X:Cx} {E:XK} {x:Str} {p pos cp kp:Pos} {e:Expr} {md:ME} {j:Nat}
theorem AH (hc:X.calm = true) (hg:Gl X x) (hm:X.mg x = none) (hv:bootBuiltins x = some (.builtin "sorted")) (ha:PE X e (tE X E md)) (hn:x ≠ "__name__":=by decide) (jB:(x == ("__debug__":Str)) = false:=by decide)
  (he:starEach [e] X.env = (false,eval e X.env) :: starEach [] X.env:=by rfl):PE X (.Call (.Name x p) [e] [⟨some "reverse",.Constant (.bool true) j cp,kp⟩] pos) (tE X E (k_ md)):=by
 refine PE.imp (xO (tF hc) hg hm hv (gM ha ng he) (vM D8 yM) (by rfl) hn jB (by rw [he]; rfl) (by rw [he]; rfl) (by rfl) (by rfl)) ?_
 rintro σ H Q ⟨μ,ρ,st,rs,sr,h⟩
 refine go μ ρ st rs sr h fun d aX ρ1 H1 v e1 bR r1 h1 => ?_
 show AA [v] [.bl true] H1 Q
 cases d with
 | loc n =>
  obtain ⟨a,rfl,ha⟩:=r1.dF
  unfold AF at h1
  dsimp only at h1
  cases hn:aX[n]? with
  | none => rw [hn] at h1; exact h1.elim
  | some c =>
   rw [hn] at h1
   cases c with
   | dT aI =>
    obtain ⟨iV,hd,pr⟩:=bR.cell n _ a hn ha
    dsimp only at h1
    cases hk:l_ (aI.map (·.1)) with
    | none => rw [hk] at h1; exact h1.elim
    | some ks =>
     rw [hk] at h1
     dsimp only at h1
     by_cases hz:ks.length ≤ sizeLine ∧ ks.all (fun k => !k.isEmpty) = true
     ·rw [if_pos hz] at h1
      refine ⟨a,iV,ks,rfl,rfl,hd,by rw [← pr.1]; exact AB hk,hz.1,fun k m z => ?_,fun l vs outs hl op fo pv => ?_⟩
      ·have:=List.all_eq_true.mp hz.2 k m
       rw [z] at this; cases this
      ·have nd:ks.Nodup:=op.nodup_iff.mp (tJ fo)
       have eo:outs = kZ ks:=AE (op.trans (gD ks).symm) fo (xP nd)
       rw [eo] at pv
       obtain ⟨k1,k2,k3⟩:=fW bR (AG pv) hl
       exact h1 _ _ _ k1 k2 k3
     ·rw [if_neg hz] at h1; exact h1.elim
   | _ => exact h1.elim
 | _ => exact h1.elim
end
noncomputable def dS:List Val → Option (List Int)
 | [] => some []
 | .int i :: r => (dS r).map (i :: ·)
 | _ :: _ => none
theorem gE:∀ {us:List Val} {a:List Int},dS us = some a → us = a.map Val.int:=by
 intro us
 induction us with
 | nil => intro a h; cases h; rfl
 | cons u r ih =>
  intro a h
  cases u with
  | int i =>
   replace h:(dS r).map (i :: ·) = some a:=h
   cases z:dS r with
   | none => rw [z] at h; cases h
   | some b => rw [z] at h; cases h; rw [ih z]; rfl
  | _ => cases h
theorem gG (a:List Int):dS (a.map Val.int) = some a:=by
 induction a with
 | nil => rfl
 | cons x a ih => show (dS (a.map Val.int)).map (x :: ·) = _; rw [ih]; rfl
section
variable {X:Cx} {E:XK}
theorem aN.jW {K:PySem.W.Frag} {ρ:List Addr} {H:Hp}:∀ {a:List Int} {vs:List V},aN K ρ H (a.map Val.int) vs → vs = a.map V.int:=by
 intro a
 induction a with
 | nil => intro vs h; exact h.dO
 | cons x a ih =>
  intro vs h
  obtain ⟨v,r,rfl,q1,q2⟩:=aN.bM h
  rw [Rl.cA q1,ih q2]; rfl
end
section
variable {X:Cx} {E:XK}
variable {x:Str} {p pos kp:Pos} {e ed:Expr} {m md:ME}
end
end MN
namespace PM
open PySem PySem.Spec L2 MN
open PyProof.Rows hiding St
end PM
namespace PM
open PySem PySem.Spec L2 MN
open PyProof.Rows hiding St
noncomputable def dU:FN:=iI 2 2 (aK (gr (b8 (ah dB (ae 0) (mC (.int 0)))) (bC (ae 1)) bx) (bC (ah bG (ae 1) (ae 0))))
noncomputable def aS:FN:=iI 2 7 (aK (aL 2 (dG ak)) (aK (aL 3 (ae 0)) (aK (aL 4 (mC (.int 4))) (aK (gr (b8 (ah dB (ah bG (ae 0) (mC (.int 3))) (mC (.int 0)))) (aK (aL 3 (ah bp (ae 0) (mC (.int 3)))) (aL 4 (mC (.int 100)))) bx) (aK (hU (bf (aa (ae 1) ak)) (aName 5) (aK (aL 6 (ah bG (ae 3) (ae 4))) (aK (aL 3 (ah bp (ae 3) (ae 4))) (aK (gr (lU (b8 (ah dB (ae 4) (mC (.int 4)))) (b8 (ah dB (ah bG (ah bp (ae 0) (mC (.int 256))) (mC (.int 8))) (ae 5)))) (aL 6 (ah bG (ah bp (ae 0) (mC (.int 2048))) (mC (.int 100)))) bx) (dr (mH c_ (ae 2) (aa (ae 6) ak))))))) (bC (ao il (aa (ae 2) ak))))))))
noncomputable def eh:FN:=iI 2 6 (aK (aL 2 nQ) (aK (hU (fT (ae 1)) (aName 3) (nR (ae 2) (ah bK (ae 3) (mC (.int 0))) (ah bS (kL (ae 2) (ah bK (ae 3) (mC (.int 0))) (mC (.int 0))) (ah bK (ae 3) (mC (.int 1)))))) (aK (aL 4 (dG ak)) (aK (hU (fT (k_ (ae 2))) (aName 5) (gr (b8 (ah lV (ao PM.dU (aa (ae 0) (aa (ah ip (ae 2) (ae 5)) ak))) (mC (.int 0)))) (dr (mH c_ (ae 4) (aa (d5 (aa (ae 5) (aa (ao PM.dU (aa (ae 0) (aa (ah ip (ae 2) (ae 5)) ak))) ak))) ak))) bx)) (bC (ae 4))))))
noncomputable def fG:FN:=iI 4 7 (aK (aL 4 (dG ak)) (aK (hU (bf (aa (ae 3) ak)) (aName 5) (aK (aL 6 (ao PM.aS (aa (ao PM.aB (aa (ae 0) (aa (ah bS (ae 1) (ah cO (mC (.int 2)) (ae 5))) ak))) (aa (ae 2) ak)))) (dr (mH c_ (ae 4) (aa (d5 (aa (ae 6) (aa (ao PM.bH (aa (ao PM.aB (aa (ae 0) (aa (ah bS (ah bS (ae 1) (ah cO (mC (.int 2)) (ae 5))) (mC (.int 1))) ak))) ak)) ak))) ak))))) (bC (ae 4))))
end PM
namespace PG
open PySem PySem.Spec L2 MN
open PyProof.Rows hiding St kindOf
end PG
namespace PG
open PySem PySem.Spec L2 MN
open PyProof.Rows hiding St kindOf
noncomputable abbrev b0:=List Int × Int
noncomputable def tV (t:b0):Val:=.tup [tupI t.1,.int t.2]
noncomputable def eD (t:b0):List Key × Val:=(iK t.1,.int t.2)
noncomputable def dq (A:List b0) (k:List Int):Int:=((A.find? fun p => decide (p.1 = k)).map (·.2)).getD 0
noncomputable def hV (A:List b0) (k:List Int) (v:Int):List b0:=if A.any (fun p => decide (p.1 = k)) then A.map (fun p => if p.1 = k then (p.1,v) else p) else A ++ [(k,v)]
theorem AI (a k:List Int):decide (iK a = iK k) = decide (a = k):=by
 by_cases h:a = k
 ·rw [h,decide_eq_true rfl,decide_eq_true rfl]
 ·rw [decide_eq_false h,decide_eq_false fun e => h (Az e)]
theorem wt (k:List Int):∀ A:List b0,qY (A.map eD) (iK k) = (A.find? fun p => decide (p.1 = k)).map fun p => Val.int p.2
 | [] => rfl
 | p :: A => by
  unfold qY
  rw [List.map_cons,List.find?_cons,List.find?_cons]
  show Option.map _ (match decide (iK p.1 = iK k) with | true => some (eD p) | false => _) = _
  rw [AI]
  cases decide (p.1 = k) with
  | true => rfl
  | false => exact wt k A
theorem AJ (k:List Int):∀ A:List b0,((A.map eD).any fun kv => decide (kv.1 = iK k)) = A.any fun p => decide (p.1 = k)
 | [] => rfl
 | p :: A => by
  rw [List.map_cons,List.any_cons,List.any_cons,AJ k A]
  show (decide (iK p.1 = iK k) || _) = _
  rw [AI]
theorem Dv (A:List b0) (k:List Int) (v:Int):xt (A.map eD) (iK k) (.int v) = (hV A k v).map eD:=by
 unfold xt hV
 rw [AJ]
 by_cases h:(A.any fun p => decide (p.1 = k)) = true
 ·rw [if_pos h,if_pos h,List.map_map,List.map_map]
  refine List.map_congr_left fun p _ => ?_
  show (if iK p.1 = iK k then (iK p.1,Val.int v) else eD p) = eD (if p.1 = k then (p.1,v) else p)
  by_cases e:p.1 = k
  ·rw [if_pos e,if_pos (by rw [e])]; rfl
  ·rw [if_neg e,if_neg fun z => e (Az z)]
 ·rw [if_neg h,if_neg h,List.map_append]; rfl
theorem p_ (k:List Int):kJ (tupI k) = some (iK k):=by
 have h:∀ k:List Int,keysOf (k.map Val.int) = some (iK k):=by
  intro k
  induction k with
  | nil => rfl
  | cons x k ih =>
   rw [List.map_cons]
   unfold keysOf
   show (match keyOf (Val.int x),keysOf (k.map Val.int) with | some a,some b => some (a :: b) | _,_ => none) = _
   rw [ih]; rfl
 show keysOf (k.map Val.int) = _
 exact h k
theorem wu {st:ai} {d:Nat} {A:List b0} (h:st[d]? = some (.dT (A.map eD))) (k:List Int):lX st (.loc d) (tupI k) = some ((A.find? fun p => decide (p.1 = k)).map fun p => Val.int p.2):=by
 unfold lX
 dsimp only
 rw [h]
 dsimp only
 rw [p_,Option.map_some,wt]
theorem xQ {st:ai} {d:Nat} {A:List b0} (h:st[d]? = some (.dT (A.map eD))) (hl:A.length < sizeLine) (k:List Int) (v:Int):kK st (.loc d) (tupI k) (.int v) = some (st.set d (.dT ((hV A k v).map eD))):=by
 unfold kK
 dsimp only
 rw [h]
 dsimp only
 rw [if_pos (by rw [List.length_map]; exact hl),p_,Option.map_some,Dv]
theorem xR (A:List b0) (k:List Int):((A.find? fun p => decide (p.1 = k)).map fun p => Val.int p.2).getD (.int 0) = .int (dq A k):=by
 unfold dq
 cases A.find? fun p => decide (p.1 = k) with
 | none => rfl
 | some p => rfl
theorem xS {A:List b0} {k:List Int} {v:Int}:(hV A k v).map (·.1) = if A.any (fun p => decide (p.1 = k)) then A.map (·.1) else A.map (·.1) ++ [k]:=by
 unfold hV
 by_cases h:(A.any fun p => decide (p.1 = k)) = true
 ·rw [if_pos h,if_pos h,List.map_map]
  refine List.map_congr_left fun p _ => ?_
  show (if p.1 = k then (p.1,v) else p).1 = p.1
  split <;> rfl
 ·rw [if_neg h,if_neg h,List.map_append]; rfl
theorem Dw {A:List b0} {k:List Int}:(A.any fun p => decide (p.1 = k)) = true ↔ k ∈ A.map (·.1):=by
 rw [List.any_eq_true,List.mem_map]
 constructor
 ·rintro ⟨p,hp,e⟩; exact ⟨p,hp,of_decide_eq_true e⟩
 ·rintro ⟨p,hp,e⟩; exact ⟨p,hp,decide_eq_true e⟩
theorem vc {A:List b0} (h:(A.map (·.1)).Nodup) (k:List Int) (v:Int):((hV A k v).map (·.1)).Nodup:=by
 rw [xS]
 by_cases c:(A.any fun p => decide (p.1 = k)) = true
 ·rw [if_pos c]; exact h
 ·rw [if_neg c]
  refine List.nodup_append.mpr ⟨h,List.pairwise_singleton _ _,?_⟩
  intro a ha b hb e
  rw [List.mem_singleton.mp hb] at e
  exact c (Dw.mpr (e ▸ ha))
theorem AK {A:List b0} {k:List Int} {v:Int}:(hV A k v).length ≤ A.length + 1:=by
 unfold hV
 split
 ·rw [List.length_map]; lia
 ·rw [List.length_append]; exact Nat.le_refl _
theorem tK {A:List b0} {k:List Int} {v:Int} {t:b0} (h:t ∈ hV A k v):t ∈ A ∨ t = (k,v):=by
 unfold hV at h
 split at h
 ·obtain ⟨p,hp,e⟩:=List.mem_map.mp h
  by_cases c:p.1 = k
  ·rw [if_pos c] at e; right; rw [← e,c]
  ·rw [if_neg c] at e; left; rw [← e]; exact hp
 ·rcases List.mem_append.mp h with h | h
  ·exact .inl h
  ·exact .inr (List.mem_singleton.mp h)
theorem AL {A:List b0} {k:List Int} (h:k ∈ A.map (·.1)):(k,dq A k) ∈ A:=by
 unfold dq
 cases z:A.find? fun p => decide (p.1 = k) with
 | none =>
  rw [List.find?_eq_none] at z
  obtain ⟨p,hp,e⟩:=List.mem_map.mp h
  exact absurd (decide_eq_true e) (z p hp)
 | some p =>
  have e:=List.find?_some z
  have m:=List.mem_of_find?_eq_some z
  have e':p.1 = k:=of_decide_eq_true e
  show (k,p.2) ∈ A
  rw [← e']; exact m
end PG
namespace PG
open PySem PySem.Spec L2 MN
open PyProof.Rows hiding St kindOf
theorem set_dict (st:ai) (a b:List (List Key × Val)):(st ++ [Cell.dT a]).set st.length (.dT b) = st ++ [.dT b]:=ti st _ _
theorem Dx (st:ai) (a:List (List Key × Val)):(st ++ [Cell.dT a])[st.length]? = some (.dT a):=by
 rw [List.getElem?_append_right (Nat.le_refl _),Nat.sub_self]; rfl
noncomputable def told (A:List b0):List b0:=((kZ (A.map (·.1))).filter fun k => dq A k != 0).map fun k => (k,dq A k)
end PG
namespace PG
open PySem PySem.Spec L2 MN
open PyProof.Rows hiding St kindOf
noncomputable def NL:Val → List Int
 | .tup us => (dS us).getD []
 | _ => []
theorem J7 (k:List Int):NL (tupI k) = k:=by
 show (dS (k.map Val.int)).getD [] = k
 rw [gG]; rfl
theorem Dy {s:ai} {d:Nat} {A:List b0} {k:List Int} (h:s[d]? = some (.dT (A.map eD))) (hk:k ∈ A.map (·.1)):ip (.loc d) (tupI k) s = .ok (.int (dq A k)) s:=by
 unfold ip
 rw [wu h k]
 unfold dq
 cases z:A.find? fun p => decide (p.1 = k) with
 | none =>
  rw [List.find?_eq_none] at z
  obtain ⟨p,hp,e⟩:=List.mem_map.mp hk
  exact absurd (decide_eq_true e) (z p hp)
 | some p => rfl
theorem AM {m:ME} {μ:MN.Env} {st:ai}:k_ m μ st = (m μ st).i6 AF:=jQ
end PG
namespace PG
open PySem PySem.Spec L2 MN
open PyProof.Rows hiding St kindOf
end PG
namespace PG
open PySem PySem.Spec L2 MN
open PyProof.Rows hiding St kindOf
noncomputable def G4:Val → b0
 | .tup [k,.int n] => (NL k,n)
 | _ => ([],0)
theorem EE (t:b0):G4 (tV t) = t:=by
 show (NL (tupI t.1),t.2) = t
 rw [J7]
theorem pf {k:List Int} {a:Nat} (h:a < k.length) (s:ai):bK (tupI k) (.int (a:Int)) s = .ok (.int (k.getD a 0)) s:=by
 have:=at_getD (ns:=k) (i:=(a:Int)) (by lia) (by lia)
 rw [Int.toNat_natCast] at this
 exact uH this
end PG
namespace PG
open PySem PySem.Spec L2 MN
open PyProof.Rows hiding St kindOf
theorem J8 {k:List Int} {a:Nat} (h:a < k.length) (s:ai):Lr none (some (a:Int)) (tupI k) s = .ok (tupI (k.take a)) s:=by
 have hl:(k.map Val.int).length = k.length:=List.length_map ..
 show (if HT.cN (k.map Val.int).length 0 none = 0 ∧ HT.cN (k.map Val.int).length (k.map Val.int).length (some (a:Int)) = (k.map Val.int).length then Res.bad else .ok (Val.tup (mI (k.map Val.int) none (some (a:Int)))) s) = _
 rw [HT.jC,hl,if_neg (by lia),p8,xE (by lia)]
 rfl
theorem J9 {k:List Int} {a:Nat} (h:a < k.length) (s:ai):Lr (some ((a:Int) + 1)) none (tupI k) s = .ok (tupI (k.drop (a + 1))) s:=by
 have hl:(k.map Val.int).length = k.length:=List.length_map ..
 have e:(a:Int) + 1 = ((a + 1:Nat):Int):=by lia
 rw [e]
 show (if HT.cN (k.map Val.int).length 0 (some ((a + 1:Nat):Int)) = 0 ∧ HT.cN (k.map Val.int).length (k.map Val.int).length none = (k.map Val.int).length then Res.bad else .ok (Val.tup (mI (k.map Val.int) (some ((a + 1:Nat):Int)) none)) s) = _
 rw [HT.jC,hl,if_neg (by lia),p8,xF (by lia)]
 rfl
theorem AN {a b:List Int} {s:ai} (h:a.length + b.length ≤ 1000000):bS (tupI a) (tupI b) s = .ok (tupI (a ++ b)) s:=by
 show (if (a.map Val.int).length + (b.map Val.int).length ≤ sizeLine then Res.ok (Val.tup (a.map Val.int ++ b.map Val.int)) s else .bad) = _
 rw [if_pos (by rw [List.length_map,List.length_map,sizeLine_eq]; lia),← List.map_append]
 rfl
end PG
namespace PG
open PySem PySem.Spec L2 MN
open PyProof.Rows hiding St kindOf
end PG
namespace PG
open PySem PySem.Spec L2 MN
open PyProof.Rows hiding St kindOf
end PG
namespace PG
open PySem PySem.Spec L2 MN
open PyProof.Rows hiding St kindOf
end PG
namespace PG
open PySem PySem.Spec L2 MN
open PyProof.Rows hiding St kindOf
end PG
namespace PG
open PySem PySem.Spec L2 MN
open PyProof.Rows hiding St kindOf
section
variable {μ:MN.Env} {s s1 s2:ai} {a b:ME} {f:F2} {x y:Val} {r:Res Val} {t u:MT} {c:Bool} {B:MB}
theorem aC (h1:a μ s = .ok x s1) (h2:b μ s1 = .ok y s2):ah f a b μ s = f x y s2:=by
 show (a μ s).bind _ = _
 rw [h1]
 show (b μ s1).bind _ = _
 rw [h2]
theorem bA (h:a μ s = .ok (.bl c) s1):b8 a μ s = .ok c s1:=by rw [jl,h]; rfl
theorem tM (h1:t μ s = .ok false s1) (h2:u μ s1 = .ok false s2):pb t u μ s = .ok false s2:=by rw [GF,h1,aA,C4,h2]
theorem tN (h:t μ s = .ok true s1):d4 t μ s = .ok false s1:=by rw [wb,h]; rfl
theorem ff (h:t μ s = .ok false s1):gr t B bx μ s = .nx μ s1:=by rw [gU,h,aV,n_]; rfl
theorem lg (h1:a μ s = .ok (.bl true) s1) (h2:b μ s1 = r):jH a b μ s = r:=by rw [GD,h1,aA,C3,h2]
end
theorem rn (t:b0):d_ 14 (tV t) = true:=by
 show (cR 12 (t.1.map Val.int) && (true && true)) = true
 rw [lZ]; rfl
theorem G5 (D:List b0):cR 14 (D.map tV) = true:=kY fun u hu => by
 obtain ⟨t,_,rfl⟩:=List.mem_map.mp hu
 exact rn t
theorem lh {s:ai} {n:Nat} {c:Cell} (h:s[n]? = some c) (more:ai):(s ++ more)[n]? = some c:=by
 have:n < s.length:=by
  rcases Nat.lt_or_ge n s.length with q | q
  ·exact q
  ·rw [List.getElem?_eq_none q] at h; cases h
 rw [List.getElem?_append_left this]; exact h
end PG
namespace PG
open PySem PySem.Spec L2 MN
open PyProof.Rows hiding St kindOf
noncomputable def jq (r n:Int):Int:=if r = 0 then n else n.fmod r
theorem ou (r n:Int) (st:ai):PM.dU [.int r,.int n] st = .ok (.int (jq r n)) st:=by
 unfold jq
 by_cases h:r = 0
 ·have e:(r == 0) = true:=by rw [h]; rfl
  rw [if_pos h]
  simp only [PM.dU,cf,aA,aV,nV,fg,jj,nW,jk,g_,nZ,nX,kO,jl,az,bN,gU,p7,oj,iq,List.map_cons,List.map_nil,List.cons_append,List.nil_append,List.replicate_zero,Nat.reduceSub,List.length_cons,List.length_nil,Nat.reduceAdd,e]
 ·have e:(r == 0) = false:=by simpa using h
  rw [if_neg h]
  simp only [PM.dU,cf,aA,aV,aH,fg,jj,nW,jk,g_,n_,nX,kO,jl,az,q0,bN,gU,p7,oj,iq,List.map_cons,List.map_nil,List.cons_append,List.nil_append,List.replicate_zero,Nat.reduceSub,List.length_cons,List.length_nil,Nat.reduceAdd,e,fh h]
noncomputable def G6 (A:List b0):List b0:=(kZ (A.map (·.1))).map fun k => (k,dq A k)
noncomputable def eM (r:Int) (A:List b0):List b0:=((G6 A).map fun t => (t.1,jq r t.2)).filter fun t => t.2 != 0
end PG
namespace PG
open PySem PySem.Spec L2 MN
open PyProof.Rows hiding St kindOf
noncomputable def fV (P:List b0):List b0:=P.foldl (fun A t => hV A t.1 (dq A t.1 + t.2)) []
theorem xT (P:List b0) (t:b0):fV (P ++ [t]) = hV (fV P) t.1 (dq (fV P) t.1 + t.2):=by
 unfold fV
 rw [List.foldl_append]; rfl
theorem fold_all (K:List (List Int)):∀ (P A:List b0),(A.map (·.1)).Nodup → (∀ t ∈ A,t.1 ∈ K) → (∀ t ∈ P,t.1 ∈ K) →
  ((P.foldl (fun A t => hV A t.1 (dq A t.1 + t.2)) A).map (·.1)).Nodup ∧ (P.foldl (fun A t => hV A t.1 (dq A t.1 + t.2)) A).length ≤ A.length + P.length ∧ ∀ t ∈ P.foldl (fun A t => hV A t.1 (dq A t.1 + t.2)) A,t.1 ∈ K
 | [],A,h1,h2,_ => ⟨h1,by simp,h2⟩
 | t :: P,A,h1,h2,h3 => by
  have ih:=fold_all K P (hV A t.1 (dq A t.1 + t.2)) (vc h1 _ _) (fun q hq => by
   rcases tK hq with hq | rfl
   ·exact h2 q hq
   ·exact h3 t List.mem_cons_self) (fun q hq => h3 q (List.mem_cons_of_mem _ hq))
  refine ⟨ih.1,Nat.le_trans ih.2.1 ?_,ih.2.2⟩
  have:=AK (A:=A) (k:=t.1) (v:=dq A t.1 + t.2)
  rw [List.length_cons]
  lia
theorem iy (P:List b0):((fV P).map (·.1)).Nodup ∧ (fV P).length ≤ P.length ∧ ∀ t ∈ fV P,t.1 ∈ P.map (·.1):=by
 have:=fold_all (P.map (·.1)) P [] List.nodup_nil (fun t ht => by cases ht) (fun t ht => List.mem_map.mpr ⟨t,ht,rfl⟩)
 refine ⟨this.1,?_,this.2.2⟩
 have:=this.2.1
 simp at this
 exact this
end PG
namespace PG
open PySem PySem.Spec L2 MN
open PyProof.Rows hiding St kindOf
noncomputable abbrev HX:MB:=nR (ae 2) (ah bK (ae 3) (mC (.int 0))) (ah bS (kL (ae 2) (ah bK (ae 3) (mC (.int 0))) (mC (.int 0))) (ah bK (ae 3) (mC (.int 1))))
theorem AO {s:ai} {d:Nat} {A:List b0} {t:b0} {x0 x1 x4 x5:Option Val} (h:s[d]? = some (.dT (A.map eD))) (hl:A.length < sizeLine) :
  HX [x0,x1,some (.loc d),some (tV t),x4,x5] s = .nx [x0,x1,some (.loc d),some (tV t),x4,x5] (s.set d (.dT ((hV A t.1 (dq A t.1 + t.2)).map eD))):=by
 have hd:xu s (.loc d) = true:=by
  unfold xu
  dsimp only
  rw [h]
 have e1:kL (ae 2) (ah bK (ae 3) (mC (.int 0))) (mC (.int 0)) [x0,x1,some (.loc d),some (tV t),x4,x5] s = .ok (.int (dq A t.1)) s:=by
  show (if xu s (.loc d) = true then (match lX s (.loc d) (tupI t.1) with | some o => Res.ok (o.getD (.int 0)) s | none => .bad) else .bad) = _
  rw [if_pos hd,wu h t.1]
  show Res.ok (Option.getD _ (Val.int 0)) s = _
  rw [xR]
 have i1:ah bK (ae 3) (mC (.int 1)) [x0,x1,some (.loc d),some (tV t),x4,x5] s = .ok (.int t.2) s:=rfl
 have e2:ah bS (kL (ae 2) (ah bK (ae 3) (mC (.int 0))) (mC (.int 0))) (ah bK (ae 3) (mC (.int 1))) [x0,x1,some (.loc d),some (tV t),x4,x5] s = .ok (.int (dq A t.1 + t.2)) s:=by
  rw [aC e1 i1]; rfl
 unfold HX nR
 rw [e2]
 show (match kK s (.loc d) (tupI t.1) (.int (dq A t.1 + t.2)) with | some uw => bU.nx _ uw | none => .bad) = _
 rw [xQ h hl]
noncomputable def yq (r:Int) (A:List b0) (ks:List (List Int)):List b0:=(ks.map fun k => (k,jq r (dq A k))).filter fun t => t.2 != 0
theorem AQ (r:Int) (A:List b0) (ks:List (List Int)) (k:List Int):yq r A (ks ++ [k]) = yq r A ks ++ (if jq r (dq A k) != 0 then [(k,jq r (dq A k))] else []):=by
 unfold yq
 rw [List.map_append,List.filter_append]
 congr 1
 show List.filter _ [(k,jq r (dq A k))] = _
 by_cases h:(jq r (dq A k) != 0) = true
 ·rw [if_pos h,List.filter_cons_of_pos (p:=fun t:b0 => t.2 != 0) h]; rfl
 ·rw [if_neg h,List.filter_cons_of_neg (p:=fun t:b0 => t.2 != 0) h]; rfl
theorem tO (r:Int) (A:List b0):yq r A (kZ (A.map (·.1))) = eM r A:=by
 unfold yq eM G6
 rw [List.map_map]; rfl
theorem wx (r:Int) (A:List b0) (ks:List (List Int)):(yq r A ks).length ≤ ks.length:=by
 unfold yq
 refine Nat.le_trans (List.length_filter_le _ _) ?_
 rw [List.length_map]; exact Nat.le_refl _
noncomputable abbrev G7:ME:=ao PM.dU (aa (ae 0) (aa (ah ip (ae 2) (ae 5)) ak))
noncomputable abbrev J_:MB:=gr (b8 (ah lV G7 (mC (.int 0)))) (dr (mH c_ (ae 4) (aa (d5 (aa (ae 5) (aa G7 ak))) ak))) bx
theorem AR {s:ai} {d q:Nat} {A:List b0} {r:Int} {ks:List (List Int)} {k:List Int} {x1 x3:Option Val} (h:s[d]? = some (.dT (A.map eD))) (hq:s[q]? = some (.lst ((yq r A ks).map tV))) (hl:ks.length ≤ 1000000) (hk:k ∈ A.map (·.1)) :
  J_ [some (.int r),x1,some (.loc d),x3,some (.loc q),some (tupI k)] s = .nx [some (.int r),x1,some (.loc d),x3,some (.loc q),some (tupI k)] (s.set q (.lst ((yq r A (ks ++ [k])).map tV))):=by
 obtain ⟨μ,hμ⟩:∃ μ:MN.Env,μ = [some (.int r),x1,some (.loc d),x3,some (.loc q),some (tupI k)]:=⟨_,rfl⟩
 have v4:ae 4 μ s = .ok (.loc q) s:=by rw [hμ]; rfl
 have v5:ae 5 μ s = .ok (tupI k) s:=by rw [hμ]; rfl
 have v0:ae 0 μ s = .ok (.int r) s:=by rw [hμ]; rfl
 have dg:ah ip (ae 2) (ae 5) μ s = .ok (.int (dq A k)) s:=by
  rw [hμ]
  show ip (.loc d) (tupI k) s = _
  exact Dy h hk
 have sl:G7 μ s = .ok (.int (jq r (dq A k))) s:=by
  unfold G7
  rw [e7,cB,v0,aA,dm,cB,dg,aA,dm,eR,aA,cC,aA,cC,aA]
  exact ou _ _ _
 have mf:b8 (ah lV G7 (mC (.int 0))) μ s = .ok (jq r (dq A k) != 0) s:=by
  refine bA ?_
  rw [aC sl (y:=.int 0) (s2:=s) rfl,Ad]; rfl
 rw [← hμ,AQ]
 show gr _ _ _ μ s = _
 rw [gU,mf,aV]
 cases c:jq r (dq A k) != 0 with
 | true =>
  have ap:=kW (v:=tV (k,jq r (dq A k))) hq (by rw [List.length_map,sizeLine_eq]; have:=wx r A ks; lia)
  have arg:aa (d5 (aa (ae 5) (aa G7 ak))) ak μ s = .ok [tV (k,jq r (dq A k))] s:=by
   have tp:d5 (aa (ae 5) (aa G7 ak)) μ s = .ok (tV (k,jq r (dq A k))) s:=by
    rw [nY,cB,v5,aA,dm,cB,sl,aA,dm,eR,aA,cC,aA,cC,aA,sW]
    exact if_pos (by rw [sizeLine_eq]; show 2 ≤ 16777216; decide)
   rw [cB,tp,aA,dm,eR,aA,cC]
  rw [nZ,d9,u6,v4,aA,Ae hq,arg,aA,Af,ap,if_pos rfl,List.map_append]
  rfl
 | false =>
  rw [n_,if_neg (by decide),List.append_nil]
  have:s.set q (.lst ((yq r A ks).map tV)) = s:=by
   apply List.ext_getElem?
   intro j
   rw [List.getElem?_set]
   by_cases e:q = j
   ·rw [if_pos e]
    subst e
    split
    ·exact hq.symm
    ·rw [List.getElem?_eq_none (by lia)]
   ·rw [if_neg e]
  rw [this]
  rfl
end PG
namespace PG
open PySem PySem.Spec L2 MN
open PyProof.Rows hiding St kindOf
theorem AU {p:Nat} {P:List b0} {st:ai} {x0:Option Val} (h:itemsOf st p = some (P.map tV)) (hl:P.length < 1000000) :
  ∃ y3,forL (fun av => itemsOf av p = some (P.map tV)) (aName 3) HX (P.map tV) [x0,some (.loc p),some (.loc st.length),none,none,none] (st ++ [.dT []]) = .nx [x0,some (.loc p),some (.loc st.length),y3,none,none] (st ++ [.dT ((fV P).map eD)]):=by
 have hg:∀ (A:List b0),itemsOf (st ++ [.dT (A.map eD)]) p = some (P.map tV):=fun A => aP h _
 obtain ⟨μ',av,e,rfl,y3,rfl⟩:=gx (g:=fun av => itemsOf av p = some (P.map tV)) (a:=aName 3) (body:=HX)
  (fun i μ s' => s' = st ++ [.dT ((fV (P.take i)).map eD)] ∧ ∃ y3,μ = [x0,some (.loc p),some (.loc st.length),y3,none,none])
  (P.map tV) 0 [x0,some (.loc p),some (.loc st.length),none,none,none] (st ++ [.dT []])
  (by
   rintro i u μ s' hu ⟨rfl,y3,rfl⟩
   rw [Nat.zero_add]
   refine ⟨hg _,?_⟩
   rw [List.getElem?_map] at hu
   have hi:i < P.length:=by
    rcases Nat.lt_or_ge i P.length with q | q
    ·exact q
    ·rw [List.getElem?_eq_none q] at hu; cases hu
   rw [List.getElem?_eq_getElem hi] at hu
   obtain ⟨t,ht⟩:∃ t,t = P[i]:=⟨_,rfl⟩
   rw [← ht] at hu
   cases hu
   have tk:P.take (i + 1) = P.take i ++ [t]:=by
    rw [List.take_succ,List.getElem?_eq_getElem hi,← ht]; rfl
   have lA:=(iy (P.take i)).2.1
   rw [List.length_take] at lA
   have ad:=AO (x0:=x0) (x1:=some (.loc p)) (x4:=none) (x5:=none) (t:=t) (Dx st ((fV (P.take i)).map eD)) (by rw [sizeLine_eq]; lia)
   rw [set_dict,← xT,← tk] at ad
   exact ⟨_,rfl,_,_,.inl ad,rfl,_,rfl⟩)
  (fun μ s hp => by obtain ⟨rfl,_⟩:=hp; exact hg _)
  ⟨rfl,none,rfl⟩
 rw [Nat.zero_add,List.length_map,List.take_of_length_le (Nat.le_refl _)] at e
 exact ⟨y3,e⟩
theorem AV {st:ai} {A:List b0} {r:Int} {x1 x3:Option Val} (hl:A.length < 1000000) :
  ∃ y5,forL (fun av => itemsOf av (st.length + 2) = some ((kZ (A.map (·.1))).map tupI)) (aName 5) J_ ((kZ (A.map (·.1))).map tupI) [some (.int r),x1,some (.loc st.length),x3,some (.loc (st.length + 1)),none] (st ++ [.dT (A.map eD),.lst [],.lst ((kZ (A.map (·.1))).map tupI)]) =
   .nx [some (.int r),x1,some (.loc st.length),x3,some (.loc (st.length + 1)),y5] (st ++ [.dT (A.map eD),.lst ((eM r A).map tV),.lst ((kZ (A.map (·.1))).map tupI)]):=by
 obtain ⟨ks,ED⟩:∃ ks,ks = kZ (A.map (·.1)):=⟨_,rfl⟩
 have lk:ks.length = A.length:=by rw [ED,(gD _).length_eq,List.length_map]
 rw [← tO,← ED]
 have Ue:∀ (us:List Val),(st ++ [Cell.dT (A.map eD),.lst us,.lst (ks.map tupI)])[st.length]? = some (.dT (A.map eD)):=fun us => by
  rw [List.getElem?_append_right (Nat.le_refl _),Nat.sub_self]; rfl
 have Ug:∀ (us:List Val),(st ++ [Cell.dT (A.map eD),.lst us,.lst (ks.map tupI)])[st.length + 1]? = some (.lst us):=fun us => by
  rw [List.getElem?_append_right (by lia),show st.length + 1 - st.length = 1 by lia]; rfl
 have at2:∀ (us:List Val),(st ++ [Cell.dT (A.map eD),.lst us,.lst (ks.map tupI)])[st.length + 2]? = some (.lst (ks.map tupI)):=fun us => by
  rw [List.getElem?_append_right (by lia),show st.length + 2 - st.length = 2 by lia]; rfl
 have aX:∀ (us ws:List Val),(st ++ [Cell.dT (A.map eD),.lst us,.lst (ks.map tupI)]).set (st.length + 1) (.lst ws) = st ++ [Cell.dT (A.map eD),.lst ws,.lst (ks.map tupI)]:=fun us ws => by
  rw [List.set_append_right _ _ (by lia),show st.length + 1 - st.length = 1 by lia]; rfl
 obtain ⟨μ',av,e,rfl,y5,rfl⟩:=gx (g:=fun av => itemsOf av (st.length + 2) = some (ks.map tupI)) (a:=aName 5) (body:=J_)
  (fun i μ s' => s' = st ++ [.dT (A.map eD),.lst ((yq r A (ks.take i)).map tV),.lst (ks.map tupI)] ∧ ∃ y5,μ = [some (.int r),x1,some (.loc st.length),x3,some (.loc (st.length + 1)),y5])
  (ks.map tupI) 0 [some (.int r),x1,some (.loc st.length),x3,some (.loc (st.length + 1)),none] (st ++ [.dT (A.map eD),.lst [],.lst (ks.map tupI)])
  (by
   rintro i u μ s' hu ⟨rfl,y5,rfl⟩
   rw [Nat.zero_add]
   refine ⟨Ag (at2 _),?_⟩
   rw [List.getElem?_map] at hu
   have hi:i < ks.length:=by
    rcases Nat.lt_or_ge i ks.length with q | q
    ·exact q
    ·rw [List.getElem?_eq_none q] at hu; cases hu
   rw [List.getElem?_eq_getElem hi] at hu
   obtain ⟨k,hk⟩:∃ k,k = ks[i]:=⟨_,rfl⟩
   have mk:k ∈ A.map (·.1):=by
    refine (gD _).mem_iff.mp ?_
    rw [← ED,hk]; exact List.getElem_mem hi
   rw [← hk] at hu
   cases hu
   have tk:ks.take (i + 1) = ks.take i ++ [k]:=by
    rw [List.take_succ,List.getElem?_eq_getElem hi,← hk]; rfl
   have es:=AR (x1:=x1) (x3:=x3) (Ue _) (Ug ((yq r A (ks.take i)).map tV)) (by rw [List.length_take]; lia) mk
   rw [aX,← tk] at es
   exact ⟨_,rfl,_,_,.inl es,rfl,_,rfl⟩)
  (fun μ s hp => by obtain ⟨rfl,_⟩:=hp; exact Ag (at2 _))
  ⟨rfl,none,rfl⟩
 rw [Nat.zero_add,List.length_map,List.take_of_length_le (Nat.le_refl _)] at e
 exact ⟨y5,e⟩
theorem mO {p:Nat} {P:List b0} {r:Int} {st:ai} (h:itemsOf st p = some (P.map tV)) (hl:P.length < 1000000) (ne:∀ t ∈ P,t.1 ≠ []) :
  ∃ c1 c3,PM.eh [.int r,.loc p] st = .ok (.loc (st.length + 1)) (st ++ [c1,.lst ((eM r (fV P)).map tV),c3]):=by
 obtain ⟨A,hA⟩:∃ A,A = fV P:=⟨_,rfl⟩
 have ga:=iy P
 rw [← hA] at ga
 obtain ⟨y3,e1⟩:=AU (x0:=some (.int r)) h hl
 obtain ⟨y5,e2⟩:=AV (st:=st) (A:=A) (r:=r) (x1:=some (.loc p)) (x3:=y3) (by lia)
 rw [← hA] at e1 ⊢
 refine ⟨.dT (A.map eD),.lst ((kZ (A.map (·.1))).map tupI),?_⟩
 have s1:aL 2 nQ [some (.int r),some (.loc p),none,none,none,none] st = .nx [some (.int r),some (.loc p),some (.loc st.length),none,none,none] (st ++ [.dT []]):=rfl
 have v1:ae 1 [some (Val.int r),some (.loc p),some (.loc st.length),none,none,none] (st ++ [.dT []]) = .ok (.loc p) (st ++ [.dT []]):=rfl
 have s2:hU (fT (ae 1)) (aName 3) HX [some (.int r),some (.loc p),some (.loc st.length),none,none,none] (st ++ [.dT []]) = .nx [some (.int r),some (.loc p),some (.loc st.length),y3,none,none] (st ++ [.dT (A.map eD)]):=by
  rw [jm,jR,v1,aA,iM (aP h _),aV,oh]
  exact e1
 have ld:(st ++ [Cell.dT (A.map eD)]).length = st.length + 1:=by rw [List.length_append]; rfl
 have s3:aL 4 (dG ak) [some (.int r),some (.loc p),some (.loc st.length),y3,none,none] (st ++ [.dT (A.map eD)]) = .nx [some (.int r),some (.loc p),some (.loc st.length),y3,some (.loc (st.length + 1)),none] (st ++ [.dT (A.map eD),.lst []]):=by
  rw [← ld]
  have q:dG ak [some (Val.int r),some (.loc p),some (.loc st.length),y3,none,none] (st ++ [.dT (A.map eD)]) = .ok (.loc (st ++ [Cell.dT (A.map eD)]).length) (st ++ [.dT (A.map eD)] ++ [.lst []]):=by simp only [aA,Ew,eR,z8,List.length_nil,sizeLine_eq,Nat.reduceLeDiff,↓reduceIte]
  rw [og,q,aV,List.append_assoc]
  rfl
 have hd:(st ++ [Cell.dT (A.map eD),.lst []])[st.length]? = some (.dT (A.map eD)):=by
  rw [List.getElem?_append_right (Nat.le_refl _),Nat.sub_self]; rfl
 have Kd:(A.map eD).map (·.1) = (A.map (·.1)).map iK:=by rw [List.map_map,List.map_map]; rfl
 have RN:=Du (ks:=A.map (·.1)) hd Kd (by rw [List.length_map,sizeLine_eq]; lia) (fun k hk => by
  obtain ⟨t,ht,rfl⟩:=List.mem_map.mp hk
  obtain ⟨q,hq,e⟩:=List.mem_map.mp (ga.2.2 t ht)
  rw [← e]; exact ne q hq)
 have l2:(st ++ [Cell.dT (A.map eD),.lst []]).length = st.length + 2:=by rw [List.length_append]; rfl
 rw [l2,List.append_assoc] at RN
 have hit:itemsOf (st ++ [Cell.dT (A.map eD),.lst [],.lst ((kZ (A.map (·.1))).map tupI)]) (st.length + 2) = some ((kZ (A.map (·.1))).map tupI):=by
  refine Ag ?_
  rw [List.getElem?_append_right (by lia),show st.length + 2 - st.length = 2 by lia]; rfl
 have v2:ae 2 [some (Val.int r),some (.loc p),some (.loc st.length),y3,some (.loc (st.length + 1)),none] (st ++ [.dT (A.map eD),.lst []]) = .ok (.loc st.length) (st ++ [.dT (A.map eD),.lst []]):=rfl
 have s4:hU (fT (k_ (ae 2))) (aName 5) J_ [some (.int r),some (.loc p),some (.loc st.length),y3,some (.loc (st.length + 1)),none] (st ++ [.dT (A.map eD),.lst []]) = .nx [some (.int r),some (.loc p),some (.loc st.length),y3,some (.loc (st.length + 1)),y5] (st ++ [.dT (A.map eD),.lst ((eM r A).map tV),.lst ((kZ (A.map (·.1))).map tupI)]):=by
  rw [jm,jR,AM,v2,aA,RN,aA]
  show (s_ (.loc (st.length + 2)) (st ++ [Cell.dT (A.map eD),.lst [],.lst ((kZ (A.map (·.1))).map tupI)])).BC _ _ = _
  rw [iM hit,aV,oh]
  exact e2
 unfold PM.eh
 rw [cf (np:=2) (us:=[Val.int r,.loc p]) rfl]
 show (aK (aL 2 nQ) (aK (hU (fT (ae 1)) (aName 3) HX) (aK (aL 4 (dG ak)) (aK (hU (fT (k_ (ae 2))) (aName 5) J_) (bC (ae 4))))) [some (.int r),some (.loc p),none,none,none,none] st).fin = _
 rw [az,s1,aH,az,s2,aH,az,s3,aH,az,s4,aH]
 rfl
end PG
namespace PG
open PySem PySem.Spec L2 MN
open PyProof.Rows hiding St kindOf
structure Good (many:Nat) (t:b0):Prop where
 len:t.1.length = many
 rg:∀ e ∈ t.1,0 ≤ e ∧ e ≤ 99
end PG
namespace PG
open PySem PySem.Spec L2 MN
open PyProof.Rows hiding St kindOf
end PG
namespace PG
open PySem PySem.Spec L2 MN
open PyProof.Rows hiding St kindOf
end PG
namespace PG
open PySem PySem.Spec L2 MN
open PyProof.Rows hiding St kindOf
section
variable {μ:MN.Env} {s s1 s2:ai} {m:ME} {o j:Int} {t:MT} {B:MB}
theorem jr (h:m μ s = .ok (.int o) s1) (hj:¬ j = 0):ah bG m (mC (.int j)) μ s = .ok (.int (o.fmod j)) s1:=by
 rw [aC h (y:=.int j) (s2:=s1) rfl]; exact fh hj
theorem ow (h:m μ s = .ok (.int o) s1) (hj:Dz j):ah bp m (mC (.int j)) μ s = .ok (.int (o.fdiv j)) s1:=by
 rw [aC h (y:=.int j) (s2:=s1) rfl]; exact div_ii hj
theorem mm (h:m μ s = .ok (.int o) s1):ah dB m (mC (.int j)) μ s = .ok (.bl (o == j)) s1:=by
 rw [aC h (y:=.int j) (s2:=s1) rfl]; exact p7
theorem bB {i:Nat} {v:Val} (h:m μ s = .ok v s1):aL i m μ s = .nx (μ.set i (some v)) s1:=by
 rw [og,h,aV]; rfl
theorem fi {C:MB} (h:t μ s = .ok true s1):gr t B C μ s = B μ s1:=by rw [gU,h,aV,nZ]
theorem eB {v:Val} (h:m μ s = .ok v s1):aa m ak μ s = .ok [v] s1:=by rw [cB,h,aA,dm,eR,aA,cC]
theorem dw {m2:ME} {v w:Val} (h:m μ s = .ok v s1) (h2:m2 μ s1 = .ok w s2):aa m (aa m2 ak) μ s = .ok [v,w] s2:=by rw [cB,h,aA,dm,eB h2,aA,cC]
theorem qa {m2:MA} {v:Val} {ws:List Val} (h:m μ s = .ok v s1) (h2:m2 μ s1 = .ok ws s2):aa m m2 μ s = .ok (v :: ws) s2:=by rw [cB,h,aA,dm,h2,aA,cC]
theorem call_of {f:FN} {a:MA} {vs:List Val} (h:a μ s = .ok vs s1):ao f a μ s = f vs s1:=by rw [e7,h,aA]
theorem oy {a:MA} {vs:List Val} (h:a μ s = .ok vs s1) (hl:vs.length ≤ 1000):d5 a μ s = .ok (.tup vs) s1:=by
 rw [nY,h,aA,sW]
 exact if_pos (by rw [sizeLine_eq]; lia)
theorem gW {a:MA} {vs:List Val} (h:a μ s = .ok vs s1) (hl:vs.length ≤ 1000):dG a μ s = .ok (.loc s1.length) (s1 ++ [.lst vs]):=by
 rw [z8,h,aA,Ew]
 exact if_pos (by rw [sizeLine_eq]; lia)
theorem oz {a:MA} (h:a μ s = .ok [.int j] s1) (h1:-(2 ^ 62) ≤ j) (h2:j < 2 ^ 62):bf a μ s = .ok (a_ 0 j.toNat,fun _ => True) s1:=by
 rw [q9,h,aA,C8 h1 h2]
end
noncomputable abbrev NM:MB:=gr (lU (b8 (ah dB (ae 4) (mC (.int 4)))) (b8 (ah dB (ah bG (ah bp (ae 0) (mC (.int 256))) (mC (.int 8))) (ae 5)))) (aL 6 (ah bG (ah bp (ae 0) (mC (.int 2048))) (mC (.int 100)))) bx
noncomputable abbrev leB:MB:=aK (aL 6 (ah bG (ae 3) (ae 4))) (aK (aL 3 (ah bp (ae 3) (ae 4))) (aK NM (dr (mH c_ (ae 2) (aa (ae 6) ak)))))
theorem le_step {c rest W k:Int} {n:Nat} {s:ai} {es:List Int} {x1 y6:Option Val} (hW:W = 4 ∨ W = 100) (h:s[n]? = some (.lst (es.map Val.int))) (hl:es.length ≤ 1000000) :
  ∃ e r',leB [some (.int c),x1,some (.loc n),some (.int rest),some (.int W),some (.int k),y6] s = .nx [some (.int c),x1,some (.loc n),some (.int r'),some (.int W),some (.int k),some (.int e)] (s.set n (.lst ((es ++ [e]).map Val.int))) ∧ 0 ≤ e ∧ e ≤ 99:=by
 have W0:¬ W = 0:=by lia
 have dW:Dz W:=jT (by lia) (by lia)
 have qW:=gA (m:=W) (by lia) rest
 obtain ⟨e1,Uh⟩:∃ e1,e1 = rest.fmod W:=⟨_,rfl⟩
 obtain ⟨r',Ui⟩:∃ r',r' = rest.fdiv W:=⟨_,rfl⟩
 have a1:aL 6 (ah bG (ae 3) (ae 4)) [some (.int c),x1,some (.loc n),some (.int rest),some (.int W),some (.int k),y6] s = .nx [some (.int c),x1,some (.loc n),some (.int rest),some (.int W),some (.int k),some (.int e1)] s:=by
  refine bB (v:=.int e1) ?_
  rw [Uh]; exact fh W0
 have a2:aL 3 (ah bp (ae 3) (ae 4)) [some (.int c),x1,some (.loc n),some (.int rest),some (.int W),some (.int k),some (.int e1)] s = .nx [some (.int c),x1,some (.loc n),some (.int r'),some (.int W),some (.int k),some (.int e1)] s:=by
  refine bB (v:=.int r') ?_
  rw [Ui]; exact div_ii dW
 obtain ⟨e,a3,h0,h1⟩:∃ e,NM [some (.int c),x1,some (.loc n),some (.int r'),some (.int W),some (.int k),some (.int e1)] s = .nx [some (.int c),x1,some (.loc n),some (.int r'),some (.int W),some (.int k),some (.int e)] s ∧ 0 ≤ e ∧ e ≤ 99:=by
  have t1:b8 (ah dB (ae 4) (mC (.int 4))) [some (.int c),x1,some (.loc n),some (.int r'),some (.int W),some (.int k),some (.int e1)] s = .ok (W == 4) s:=bA (mm rfl)
  have dd:ah bp (ae 0) (mC (.int 256)) [some (.int c),x1,some (.loc n),some (.int r'),some (.int W),some (.int k),some (.int e1)] s = .ok (.int (c.fdiv 256)) s:=ow rfl (jT (by decide) (by decide))
  have t2:b8 (ah dB (ah bG (ah bp (ae 0) (mC (.int 256))) (mC (.int 8))) (ae 5)) [some (.int c),x1,some (.loc n),some (.int r'),some (.int W),some (.int k),some (.int e1)] s = .ok ((c.fdiv 256).fmod 8 == k) s:=bA (by
   rw [aC (jr dd (by decide)) (y:=.int k) (s2:=s) rfl]; exact p7)
  have tt:lU (b8 (ah dB (ae 4) (mC (.int 4)))) (b8 (ah dB (ah bG (ah bp (ae 0) (mC (.int 256))) (mC (.int 8))) (ae 5))) [some (.int c),x1,some (.loc n),some (.int r'),some (.int W),some (.int k),some (.int e1)] s = .ok ((W == 4) && ((c.fdiv 256).fmod 8 == k)) s:=by
   rw [wa,t1,aA]
   cases (W == 4) with
   | true => rw [sU,t2,Bool.true_and]
   | false => rw [sV,Bool.false_and]
  cases hb:((W == 4) && ((c.fdiv 256).fmod 8 == k)) with
  | false => rw [hb] at tt; exact ⟨e1,ff tt,by lia,by lia⟩
  | true =>
   rw [hb] at tt
   have q:=gA (m:=100) (by decide) (c.fdiv 2048)
   refine ⟨(c.fdiv 2048).fmod 100,?_,by lia,by lia⟩
   unfold NM
   rw [fi tt]
   exact bB (jr (ow rfl (jT (by decide) (by decide))) (by decide))
 refine ⟨e,r',?_,h0,h1⟩
 have ap:=kW (v:=Val.int e) h (by rw [List.length_map,sizeLine_eq]; lia)
 have a4:dr (mH c_ (ae 2) (aa (ae 6) ak)) [some (.int c),x1,some (.loc n),some (.int r'),some (.int W),some (.int k),some (.int e)] s = .nx [some (.int c),x1,some (.loc n),some (.int r'),some (.int W),some (.int k),some (.int e)] (s.set n (.lst ((es ++ [e]).map Val.int))):=by
  have v2:ae 2 [some (.int c),x1,some (.loc n),some (.int r'),some (.int W),some (.int k),some (.int e)] s = .ok (.loc n) s:=rfl
  have ar:aa (ae 6) ak [some (.int c),x1,some (.loc n),some (.int r'),some (.int W),some (.int k),some (.int e)] s = .ok [.int e] s:=rfl
  rw [d9,u6,v2,aA,Ae h,ar,aA,Af,ap,List.map_append]; rfl
 unfold leB
 rw [az,a1,aH,az,a2,aH,az,a3,aH,a4]
theorem AW (c:Int) (many:Nat) (st:ai):∃ r0 W:Int,(W = 4 ∨ W = 100) ∧ gr (b8 (ah dB (ah bG (ae 0) (mC (.int 3))) (mC (.int 0)))) (aK (aL 3 (ah bp (ae 0) (mC (.int 3)))) (aL 4 (mC (.int 100)))) bx [some (.int c),some (.int (many:Int)),some (.loc st.length),some (.int c),some (.int 4),none,none] (st ++ [.lst []]) = .nx [some (.int c),some (.int (many:Int)),some (.loc st.length),some (.int r0),some (.int W),none,none] (st ++ [.lst []]):=by
 have tt:b8 (ah dB (ah bG (ae 0) (mC (.int 3))) (mC (.int 0))) [some (.int c),some (.int (many:Int)),some (.loc st.length),some (.int c),some (.int 4),none,none] (st ++ [.lst []]) = .ok (c.fmod 3 == 0) (st ++ [.lst []]):=bA (mm (jr rfl (by decide)))
 cases hb:c.fmod 3 == 0 with
 | false => rw [hb] at tt; exact ⟨c,4,.inl rfl,ff tt⟩
 | true =>
  rw [hb] at tt
  refine ⟨c.fdiv 3,100,.inr rfl,?_⟩
  have a:aL 3 (ah bp (ae 0) (mC (.int 3))) [some (.int c),some (.int (many:Int)),some (.loc st.length),some (.int c),some (.int 4),none,none] (st ++ [.lst []]) = .nx [some (.int c),some (.int (many:Int)),some (.loc st.length),some (.int (c.fdiv 3)),some (.int 4),none,none] (st ++ [.lst []]):=bB (ow rfl (jT (by decide) (by decide)))
  rw [fi tt,az,a,aH]; rfl
theorem dj (c:Int) {many:Nat} (hm:many ≤ 4) (st:ai):∃ g es,PM.aS [.int c,.int (many:Int)] st = .ok (tupI es) (st ++ g) ∧ es.length = many ∧ ∀ e ∈ es,0 ≤ e ∧ e ≤ 99:=by
 obtain ⟨r0,W,hW,s4⟩:=AW c many st
 obtain ⟨μ',av,e,es,le,NN,rfl,r',y5,y6,rfl⟩:=gx (g:=fun _ => True) (a:=aName 5) (body:=leB)
  (fun i μ s' => ∃ es:List Int,es.length = i ∧ (∀ e ∈ es,0 ≤ e ∧ e ≤ 99) ∧ s' = st ++ [.lst (es.map Val.int)] ∧ ∃ r' y5 y6,μ = [some (.int c),some (.int (many:Int)),some (.loc st.length),some (.int r'),some (.int W),y5,y6])
  (a_ 0 (many:Int).toNat) 0 [some (.int c),some (.int (many:Int)),some (.loc st.length),some (.int r0),some (.int W),none,none] (st ++ [.lst []])
  (by
   rintro i u μ s' hu ⟨es,le,NN,rfl,r',y5,y6,rfl⟩
   refine ⟨trivial,?_⟩
   have xU:=hu
   unfold a_ at xU
   rw [List.getElem?_map] at xU
   have hi:i < (many:Int).toNat:=by
    rcases Nat.lt_or_ge i (many:Int).toNat with q | q
    ·exact q
    ·rw [List.getElem?_eq_none (by rw [List.length_range]; exact q)] at xU; cases xU
   rw [List.getElem?_eq_getElem (by rw [List.length_range]; exact hi),List.getElem_range] at xU
   cases xU
   have Uj:i < 4:=by lia
   obtain ⟨e,r2,eb,h0,h1⟩:=le_step (c:=c) (rest:=r') (k:=0 + (i:Int)) (x1:=some (.int (many:Int))) (y6:=y6) hW (Ah st (es.map Val.int)) (by lia)
   refine ⟨_,rfl,_,_,.inl eb,es ++ [e],by rw [List.length_append,le]; rfl,?_,ti st _ _,r2,_,_,rfl⟩
   intro x hx
   rcases List.mem_append.mp hx with hx | hx
   ·exact NN x hx
   ·rw [List.mem_singleton.mp hx]; exact ⟨h0,h1⟩)
  (fun _ _ _ => trivial) ⟨[],rfl,fun _ h => (by cases h),rfl,r0,none,none,rfl⟩
 refine ⟨[.lst (es.map Val.int)],es,?_,by rw [le]; unfold a_; rw [List.length_map,List.length_range]; lia,NN⟩
 have a1:aL 2 (dG ak) [some (.int c),some (.int (many:Int)),none,none,none,none,none] st = .nx [some (.int c),some (.int (many:Int)),some (.loc st.length),none,none,none,none] (st ++ [.lst []]):=bB (gW (vs:=[]) rfl (Nat.zero_le _))
 have a2:aL 3 (ae 0) [some (.int c),some (.int (many:Int)),some (.loc st.length),none,none,none,none] (st ++ [.lst []]) = .nx [some (.int c),some (.int (many:Int)),some (.loc st.length),some (.int c),none,none,none] (st ++ [.lst []]):=rfl
 have a3:aL 4 (mC (.int 4)) [some (.int c),some (.int (many:Int)),some (.loc st.length),some (.int c),none,none,none] (st ++ [.lst []]) = .nx [some (.int c),some (.int (many:Int)),some (.loc st.length),some (.int c),some (.int 4),none,none] (st ++ [.lst []]):=rfl
 have a5:bf (aa (ae 1) ak) [some (.int c),some (.int (many:Int)),some (.loc st.length),some (.int r0),some (.int W),none,none] (st ++ [.lst []]) = .ok (a_ 0 (many:Int).toNat,fun _ => True) (st ++ [.lst []]):=oz rfl (by lia) (by lia)
 have v2:ae 2 [some (.int c),some (.int (many:Int)),some (.loc st.length),some (.int r'),some (.int W),y5,y6] (st ++ [.lst (es.map Val.int)]) = .ok (.loc st.length) (st ++ [.lst (es.map Val.int)]):=rfl
 unfold PM.aS
 rw [cf (np:=2) (us:=[Val.int c,.int (many:Int)]) rfl]
 show (aK (aL 2 (dG ak)) (aK (aL 3 (ae 0)) (aK (aL 4 (mC (.int 4))) (aK _ (aK (hU (bf (aa (ae 1) ak)) (aName 5) leB) (bC (ao il (aa (ae 2) ak))))))) [some (.int c),some (.int (many:Int)),none,none,none,none,none] st).fin = _
 rw [az,a1,aH,az,a2,aH,az,a3,aH,az,s4,aH,az,jm,a5,aV,oh,e,aH,bN,call_of (eB v2),q_ (ba _ _),aV]
 rfl
end PG
namespace PG
open PySem PySem.Spec L2 MN
open PyProof.Rows hiding St kindOf
theorem G8 {μ:MN.Env} {s:ai} {o:ME} {a:MA} {n:Nat} {us:List Val} {v:Val} (ho:o μ s = .ok (.loc n) s) {s1:ai} (h0:s[n]? = some (.lst us)) (ha:a μ s = .ok [v] s1) (h:s1[n]? = some (.lst us)) (hl:us.length ≤ 1000):dr (mH c_ o a) μ s = .nx μ (s1.set n (.lst (us ++ [v]))):=by
 rw [d9,u6,ho,aA,Ae h0,ha,aA,Af,kW h (by rw [sizeLine_eq]; lia),aV]; rfl
noncomputable abbrev EF:ME:=ah bS (ae 1) (ah cO (mC (.int 2)) (ae 5))
noncomputable abbrev DA:MB:=aK (aL 6 (ao PM.aS (aa (ao PM.aB (aa (ae 0) (aa EF ak))) (aa (ae 2) ak)))) (dr (mH c_ (ae 4) (aa (d5 (aa (ae 6) (aa (ao PM.bH (aa (ao PM.aB (aa (ae 0) (aa (ah bS EF (mC (.int 1))) ak))) ak)) ak))) ak)))
theorem DB {n q many:Nat} {ns:List Int} {place size k:Int} {P:List b0} {s:ai} {y6:Option Val} (h:itemsOf s n = some (ns.map Val.int)) (hq:s[q]? = some (.lst (P.map tV))) (p0:0 ≤ place) (p1:place ≤ 1000) (k0:0 ≤ k) (k1:k ≤ 1000) (hm:many ≤ 4) (hl:P.length ≤ 64) :
  ∃ g t y,DA [some (.loc n),some (.int place),some (.int (many:Int)),some (.int size),some (.loc q),some (.int k),y6] s = .nx [some (.loc n),some (.int place),some (.int (many:Int)),some (.int size),some (.loc q),some (.int k),y] ((s ++ g).set q (.lst ((P ++ [t]).map tV))) ∧ Good many t ∧ rW 134 t.2:=by
 have pl:∀ (s:ai) (y:Option Val),EF [some (.loc n),some (.int place),some (.int (many:Int)),some (.int size),some (.loc q),some (.int k),y] s = .ok (.int (place + 2 * k)) s:=fun s y => by
  have a:ah cO (mC (.int 2)) (ae 5) [some (.loc n),some (.int place),some (.int (many:Int)),some (.int size),some (.loc q),some (.int k),y] s = .ok (.int (2 * k)) s:=lY (i:=2) (by decide) (by decide)
  unfold EF
  rw [aC (x:=.int place) (s1:=s) rfl a]; rfl
 obtain ⟨o,ho,o0,_⟩:=rl (k:=place + 2 * k) h (by lia) (by lia)
 obtain ⟨g,es,ee,le,re⟩:=dj o hm s
 have a1:aL 6 (ao PM.aS (aa (ao PM.aB (aa (ae 0) (aa EF ak))) (aa (ae 2) ak))) [some (.loc n),some (.int place),some (.int (many:Int)),some (.int size),some (.loc q),some (.int k),y6] s = .nx [some (.loc n),some (.int place),some (.int (many:Int)),some (.int size),some (.loc q),some (.int k),some (tupI es)] (s ++ g):=by
  refine bB (v:=tupI es) ?_
  rw [call_of (dw (v:=.int o) (s1:=s) (w:=.int (many:Int)) (s2:=s) ?_ rfl)]
  ·exact ee
  ·rw [call_of (dw (v:=.loc n) (s1:=s) rfl (pl s y6))]; exact ho
 have h2:=aP h g
 obtain ⟨o2,rV,Uk,_⟩:=rl (k:=place + 2 * k + 1) h2 (by lia) (by lia)
 obtain ⟨r,hr,br⟩:=tj Uk (s ++ g)
 have num:ao PM.bH (aa (ao PM.aB (aa (ae 0) (aa (ah bS EF (mC (.int 1))) ak))) ak) [some (.loc n),some (.int place),some (.int (many:Int)),some (.int size),some (.loc q),some (.int k),some (tupI es)] (s ++ g) = .ok (.int r) (s ++ g):=by
  have ad:ah bS EF (mC (.int 1)) [some (.loc n),some (.int place),some (.int (many:Int)),some (.int size),some (.loc q),some (.int k),some (tupI es)] (s ++ g) = .ok (.int (place + 2 * k + 1)) (s ++ g):=by
   rw [aC (pl (s ++ g) _) (y:=.int 1) (s2:=s ++ g) rfl]; rfl
  rw [call_of (eB (v:=.int o2) (s1:=s ++ g) ?_)]
  ·exact hr
  ·rw [call_of (dw (v:=.loc n) (s1:=s ++ g) rfl ad)]; exact rV
 refine ⟨g,(es,r),some (tupI es),?_,⟨le,re⟩,br⟩
 have ap:=G8 (o:=ae 4) (a:=aa (d5 (aa (ae 6) (aa (ao PM.bH (aa (ao PM.aB (aa (ae 0) (aa (ah bS EF (mC (.int 1))) ak))) ak)) ak))) ak) (v:=tV (es,r)) (μ:=[some (.loc n),some (.int place),some (.int (many:Int)),some (.int size),some (.loc q),some (.int k),some (tupI es)]) (s:=s ++ g) (n:=q) rfl (lh hq g) (eB (oy (dw (v:=tupI es) (s1:=s ++ g) rfl num) (by show 2 ≤ 1000; decide))) (lh hq g) (by rw [List.length_map]; lia)
 unfold DA
 rw [az,a1,aH,ap,List.map_append]; rfl
theorem ro {n many size:Nat} {ns:List Int} {place:Int} {st:ai} (h:itemsOf st n = some (ns.map Val.int)) (p0:0 ≤ place) (p1:place ≤ 1000) (hm:many ≤ 4) (hs:size ≤ 60) :
  ∃ (g:ai) (P:List b0),PM.fG [.loc n,.int place,.int (many:Int),.int (size:Int)] st = .ok (.loc st.length) (st ++ .lst (P.map tV) :: g) ∧ P.length = size ∧ ∀ t ∈ P,Good many t ∧ rW 134 t.2:=by
 obtain ⟨μ',av,e,P,g,lP,hP,rfl,y5,y6,rfl⟩:=gx (g:=fun _ => True) (a:=aName 5) (body:=DA)
  (fun i μ s' => ∃ (P:List b0) (g:ai),P.length = i ∧ (∀ t ∈ P,Good many t ∧ rW 134 t.2) ∧ s' = st ++ .lst (P.map tV) :: g ∧ ∃ y5 y6,μ = [some (.loc n),some (.int place),some (.int (many:Int)),some (.int (size:Int)),some (.loc st.length),y5,y6])
  (a_ 0 (size:Int).toNat) 0 [some (.loc n),some (.int place),some (.int (many:Int)),some (.int (size:Int)),some (.loc st.length),none,none] (st ++ [.lst []])
  (by
   rintro i u μ s' hu ⟨P,g,lP,hP,rfl,y5,y6,rfl⟩
   refine ⟨trivial,?_⟩
   have xU:=hu
   unfold a_ at xU
   rw [List.getElem?_map] at xU
   have hi:i < (size:Int).toNat:=by
    rcases Nat.lt_or_ge i (size:Int).toNat with q | q
    ·exact q
    ·rw [List.getElem?_eq_none (by rw [List.length_range]; exact q)] at xU; cases xU
   rw [List.getElem?_eq_getElem (by rw [List.length_range]; exact hi),List.getElem_range] at xU
   cases xU
   have Uj:i < 60:=by lia
   obtain ⟨g2,t,y,eb,gt,bt⟩:=DB (size:=(size:Int)) (k:=0 + (i:Int)) (y6:=y6) (aP h (.lst (P.map tV) :: g)) (GN st _ g) p0 p1 (by lia) (by lia) hm (by lia)
   refine ⟨_,rfl,_,_,.inl eb,P ++ [t],g ++ g2,by rw [List.length_append,lP]; rfl,?_,?_,_,_,rfl⟩
   ·intro x hx
    rcases List.mem_append.mp hx with hx | hx
    ·exact hP x hx
    ·rw [List.mem_singleton.mp hx]; exact ⟨gt,bt⟩
   ·rw [List.append_assoc]; exact wg st _ _ _)
  (fun _ _ _ => trivial) ⟨[],[],rfl,fun _ h => (by cases h),rfl,none,none,rfl⟩
 refine ⟨g,P,?_,by rw [lP]; unfold a_; rw [List.length_map,List.length_range]; lia,hP⟩
 have a1:aL 4 (dG ak) [some (.loc n),some (.int place),some (.int (many:Int)),some (.int (size:Int)),none,none,none] st = .nx [some (.loc n),some (.int place),some (.int (many:Int)),some (.int (size:Int)),some (.loc st.length),none,none] (st ++ [.lst []]):=bB (gW (vs:=[]) rfl (Nat.zero_le _))
 have a5:bf (aa (ae 3) ak) [some (.loc n),some (.int place),some (.int (many:Int)),some (.int (size:Int)),some (.loc st.length),none,none] (st ++ [.lst []]) = .ok (a_ 0 (size:Int).toNat,fun _ => True) (st ++ [.lst []]):=oz rfl (by lia) (by lia)
 unfold PM.fG
 rw [cf (np:=4) (us:=[Val.loc n,.int place,.int (many:Int),.int (size:Int)]) rfl]
 show (aK (aL 4 (dG ak)) (aK (hU (bf (aa (ae 3) ak)) (aName 5) DA) (bC (ae 4))) [some (.loc n),some (.int place),some (.int (many:Int)),some (.int (size:Int)),none,none,none] st).fin = _
 rw [az,a1,aH,az,jm,a5,aV,oh,e,aH]
 rfl
end PG
namespace PG
open PySem PySem.Spec L2 MN
open PyProof.Rows hiding St kindOf
end PG
namespace PG
open PySem PySem.Spec L2 MN
open PyProof.Rows hiding St kindOf
theorem xV (k:List Int) (n:Nat) (s:ai):fR (n + 2) s (tupI k) (tupI k) = some true:=oo s (n + 1) _ (lZ n k)
section
variable {many:Nat} {s:ai}
end
end PG
namespace PG
open PySem PySem.Spec L2 MN
open PyProof.Rows hiding St kindOf
section
variable {μ:MN.Env} {s s1:ai} {a m:ME} {k:Int} {x:Val}
end
theorem pick {st:ai} {n:Nat} {us:List Val} {i:Int} (h:itemsOf st n = some us) (h0:0 ≤ i) (h1:i < (us.length:Int)):∃ v ∈ us,bK (.loc n) (.int i) st = .ok v st:=by
 obtain ⟨j,hj⟩:∃ j:Nat,(j:Int) = i:=⟨i.toNat,by lia⟩
 have hl:j < us.length:=by lia
 refine ⟨us[j],List.getElem_mem hl,?_⟩
 rw [← hj]
 exact rh h (L2.qB (List.getElem?_eq_getElem hl))
end PG
namespace PG
open PySem PySem.Spec L2 MN
open PyProof.Rows hiding St kindOf
end PG
namespace PG
open PySem PySem.Spec L2 MN
open PyProof.Rows hiding St kindOf
end PG
namespace PG
open PySem PySem.Spec L2 MN
open PyProof.Rows hiding St kindOf
end PG
namespace DL
open PySem
section
variable {prog:Program} {w:World} {A:Around} {E:Value → Shared → Prop} {s:Shared}
variable {K:Type} [DecidableEq K] {knd:KeyKind prog w K}
end
end DL
namespace L2
open PySem PySem.Spec PyProof.Rows
end L2
namespace MN
open PySem PySem.Spec L2
open PyProof.Rows hiding St
section
variable {K:PySem.W.Frag} {ρ:List Addr} {H:Hp}
end
end MN
namespace DL
open PySem PyProof.Rows
section
variable {prog:Program} {w:World} {A:Around} {E:Value → Shared → Prop} {s:Shared}
end
end DL
namespace L2
open PySem PySem.Spec PyProof.Rows
end L2
namespace MN
open PySem PySem.Spec L2
open PyProof.Rows hiding St
end MN
namespace MN
open PySem PySem.Spec L2
open PyProof.Rows hiding St
end MN
namespace PM
open PySem PySem.Spec L2 MN
open PyProof.Rows hiding St
end PM
namespace PG
open PySem PySem.Spec L2 MN
open PyProof.Rows hiding St kindOf
noncomputable def gF (A:List b0) (t:b0):List b0:=hV A t.1 (dq A t.1 + t.2)
theorem AX {r:Int} {A:List b0} {t:b0} (h:t ∈ eM r A):∃ q ∈ A,t.1 = q.1 ∧ t.2 = jq r q.2:=by
 unfold eM at h
 obtain ⟨u,hu,rfl⟩:=List.mem_map.mp (List.mem_filter.mp h).1
 unfold G6 at hu
 obtain ⟨k,hk,rfl⟩:=List.mem_map.mp hu
 exact ⟨_,AL ((gD _).mem_iff.mp hk),rfl,rfl⟩
theorem oA (r:Int) (A:List b0):(eM r A).length ≤ A.length:=by
 rw [← tO]
 refine Nat.le_trans (wx _ _ _) ?_
 rw [(gD _).length_eq,List.length_map]; exact Nat.le_refl _
end PG
namespace PG
open PySem PySem.Spec L2 MN
open PyProof.Rows hiding St kindOf
theorem lq {many:Nat} (h1:1 ≤ many) {k:List Int} (h:k.length = many):k ≠ []:=fun z => by
 rw [z] at h
 simp at h
 lia
end PG
namespace PG
open PySem PySem.Spec L2 MN
open PyProof.Rows hiding St kindOf
section
variable {r:Int} {p q many:Nat} {D P:List b0} {C:Int} {st:ai}
end
end PG
namespace PG
open PySem PySem.Spec L2 MN
open PyProof.Rows hiding St kindOf
section
variable {r n C:Int} {p q many:Nat} {D P:List b0} {st:ai}
end
end PG
namespace PG
open PySem PySem.Spec L2 MN
open PyProof.Rows hiding St kindOf
section
variable {r n C:Int} {p q many:Nat} {D P:List b0} {st:ai}
theorem AY {μ:MN.Env} {a m:ME} {s s1:ai} {k:Nat} {L:List b0} (ha:a μ s = .ok (.int r) s) (hm:m μ s = .ok (.loc k) s1) (h:itemsOf s1 k = some (L.map tV)) (hl:L.length < 1000000) (ne:∀ t ∈ L,t.1 ≠ []) :
  ∃ c1 c3,ao PM.eh (aa a (aa m ak)) μ s = .ok (.loc (s1.length + 1)) (s1 ++ [c1,.lst ((eM r (fV L)).map tV),c3]) ∧ (s1 ++ [c1,.lst ((eM r (fV L)).map tV),c3])[s1.length + 1]? = some (.lst ((eM r (fV L)).map tV)):=by
 obtain ⟨c1,c3,e⟩:=mO (r:=r) h hl ne
 refine ⟨c1,c3,?_,?_⟩
 ·rw [call_of (dw ha hm),e]
 ·rw [List.getElem?_append_right (by lia),show s1.length + 1 - s1.length = 1 by lia]; rfl
end
end PG
namespace PG
open PySem PySem.Spec L2 MN
open PyProof.Rows hiding St kindOf
section
variable {r n C:Int} {p q many:Nat} {D P:List b0}
end
end PG
namespace PG
open PySem PySem.Spec L2 MN
open PyProof.Rows hiding St kindOf
theorem qb {a:AS} {e:ME} (I:Nat → MN.Env → ai → List Val → Prop):∀ (us:List Val) (k:Nat) (τ:MN.Env) (st:ai) (ys:List Val),
  (∀ (i:Nat) (u:Val) (τ:MN.Env) (st:ai) (ys:List Val),us[i]? = some u → I (k + i) τ st ys → ∃ τ1,a u τ = some τ1 ∧ ∃ y cg,e τ1 st = .ok y cg ∧ I (k + i + 1) τ1 cg (ys ++ [y])) → I k τ st ys →
  ∃ τ' GZ av,d6 (fun _ => True) a bE e us τ st ys = .ok GZ av ∧ I (k + us.length) τ' av GZ
 | [],k,τ,st,ys,_,h => ⟨τ,ys,st,by unfold d6; rw [if_pos trivial],h⟩
 | u :: us,k,τ,st,ys,hs,h => by
  obtain ⟨τ1,h1,y,cg,h2,h3⟩:=hs 0 u τ st ys rfl h
  obtain ⟨τ',GZ,av,e',h'⟩:=qb (a:=a) (e:=e) I us (k + 1) τ1 cg (ys ++ [y]) (fun i u τ st ys hu hI => by
   have:=hs (i + 1) u τ st ys hu
   rw [show k + (i + 1) = k + 1 + i by lia] at this
   exact this hI) h3
  refine ⟨τ',GZ,av,?_,by rw [List.length_cons,show k + (us.length + 1) = k + 1 + us.length by lia]; exact h'⟩
  unfold d6
  rw [if_pos trivial,h1]
  show (match e τ1 st with
   | .ok y cg => d6 (fun _ => True) a bE e us τ1 cg (ys ++ [y])
   | .err _ _ => .bad
   | .bad => .bad) = _
  rw [h2]
  exact e'
noncomputable abbrev Ke:ME:=d5 (aa (ao PM.aS (aa (ah bS (ah bp (ae 2) (mC (.int 7))) (ah cO (mC (.int 37)) (ae 0))) (aa (ae 1) ak))) (aa (ao PM.bH (aa (ah bS (ae 2) (ah cO (mC (.int 5)) (ae 0))) ak)) ak))
theorem DC {i:Int} {many:Nat} {mix:Int} (i0:0 ≤ i) (m0:0 ≤ mix) (hm:many ≤ 4) (s:ai):∃ g t,Ke [some (.int i),some (.int (many:Int)),some (.int mix)] s = .ok (tV t) (s ++ g) ∧ Good many t ∧ rW 134 t.2:=by
 obtain ⟨μ,hμ⟩:∃ μ:MN.Env,μ = [some (.int i),some (.int (many:Int)),some (.int mix)]:=⟨_,rfl⟩
 obtain ⟨g,es,ee,le,re⟩:=dj (mix.fdiv 7 + 37 * i) hm s
 have a1:ah bS (ah bp (ae 2) (mC (.int 7))) (ah cO (mC (.int 37)) (ae 0)) μ s = .ok (.int (mix.fdiv 7 + 37 * i)) s:=by
  have d:ah bp (ae 2) (mC (.int 7)) μ s = .ok (.int (mix.fdiv 7)) s:=ow (by rw [hμ]; rfl) (jT (by decide) (by decide))
  have m:ah cO (mC (.int 37)) (ae 0) μ s = .ok (.int (37 * i)) s:=by
   rw [hμ]; exact lY (i:=37) (by decide) (by decide)
  rw [aC d m]; rfl
 have e1:ao PM.aS (aa (ah bS (ah bp (ae 2) (mC (.int 7))) (ah cO (mC (.int 37)) (ae 0))) (aa (ae 1) ak)) μ s = .ok (tupI es) (s ++ g):=by
  rw [call_of (dw a1 (w:=.int (many:Int)) (s2:=s) (by rw [hμ]; rfl)),ee]
 obtain ⟨r,hr,br⟩:=tj (c:=mix + 5 * i) (by lia) (s ++ g)
 have a2:ah bS (ae 2) (ah cO (mC (.int 5)) (ae 0)) μ (s ++ g) = .ok (.int (mix + 5 * i)) (s ++ g):=by
  have m:ah cO (mC (.int 5)) (ae 0) μ (s ++ g) = .ok (.int (5 * i)) (s ++ g):=by
   rw [hμ]; exact lY (i:=5) (by decide) (by decide)
  rw [aC (x:=.int mix) (s1:=s ++ g) (by rw [hμ]; rfl) m]; rfl
 have e2:ao PM.bH (aa (ah bS (ae 2) (ah cO (mC (.int 5)) (ae 0))) ak) μ (s ++ g) = .ok (.int r) (s ++ g):=by
  rw [call_of (eB a2),hr]
 refine ⟨g,(es,r),?_,⟨le,re⟩,br⟩
 rw [← hμ]
 exact oy (dw e1 e2) (by show 2 ≤ 1000; decide)
end PG
namespace PM
open PySem PySem.Spec L2 MN
open PyProof.Rows hiding St
end PM
namespace PG
open PySem PySem.Spec L2 MN
open PyProof.Rows hiding St kindOf
section
variable {L:e_} {mb:ME} {u x:Val} {n:Nat}
end
end PG
namespace PG
open PySem PySem.Spec L2 MN
open PyProof.Rows hiding St kindOf
section
variable {r:Int}
end
section
variable {r x:Int} {M:cQ}
end
end PG
namespace PG
open PySem PySem.Spec L2 MN
open PyProof.Rows hiding St kindOf
theorem bW {st:ai} {x q:Str} {l c:Nat} (h:d8 st x l c q) (g:ai):d8 (st ++ g) x l c q:=let ⟨j,h⟩:=h; ⟨j,lh h g⟩
theorem jX:∀ es pt:List Int,jL (es.map Val.int) (pt.map Val.int) = (es.zip pt).map fun p => Val.tup [.int p.1,.int p.2]
 | [],_ => by cases ‹List Int› <;> rfl
 | _ :: _,[] => rfl
 | e :: es,x :: pt => by
  show Val.tup [.int e,.int x] :: jL (es.map Val.int) (pt.map Val.int) = _
  rw [jX es pt]; rfl
section
variable {r:Int} {M:cQ} {q p:Nat} {es pt:List Int} {st:ai}
end
end PG
namespace PG
open PySem PySem.Spec L2 MN
open PyProof.Rows hiding St kindOf
theorem EG {lo:Int} {n i:Nat} {u:Val} (h:(a_ lo n)[i]? = some u):i < n ∧ u = .int (lo + (i:Int)):=by
 unfold a_ at h
 have yZ:=fB h
 rw [List.length_map,List.length_range] at yZ
 rw [List.getElem?_map,List.getElem?_range yZ] at h
 exact ⟨yZ,(Option.some.inj h).symm⟩
theorem AZ (lo:Int) (n:Nat):(a_ lo n).length = n:=by unfold a_; rw [List.length_map,List.length_range]
section
variable {r:Int} {q p:Nat} {pt:List Int} {st:ai} {t:b0}
end
end PG
namespace PG
open PySem PySem.Spec L2 MN
open PyProof.Rows hiding St kindOf
section
variable {r:Int} {p a many:Nat} {D:List b0} {st:ai} {k:List Int}
end
end PG
namespace PG
open PySem PySem.Spec L2 MN
open PyProof.Rows hiding St kindOf
section
variable {r:Int} {p a many:Nat} {D:List b0} {st:ai} {t:b0}
end
end PG
namespace PG
open PySem PySem.Spec L2 MN
open PyProof.Rows hiding St kindOf
theorem G9 {μ:MN.Env} {m:ME} {many size:Nat} {mix:Int} {s:ai} (caps:List Nat) (hm:m μ s = .ok (.int (size:Int)) s) (hz:size ≤ 60) (hc:mG 1 caps μ = [none,some (.int (many:Int)),some (.int mix)]) (m0:0 ≤ mix) (h4:many ≤ 4) :
  ∃ (g:ai) (k:Nat) (P:List b0),bI 1 caps (bf (aa m ak)) (aName 0) bE Ke μ s = .ok (.loc k) (s ++ g) ∧ (s ++ g)[k]? = some (.lst (P.map tV)) ∧ P.length = size ∧ ∀ t ∈ P,Good many t ∧ rW 134 t.2:=by
 obtain ⟨τ',GZ,av,e,⟨P,rfl,lP,hP⟩,⟨g,rfl⟩,x,rfl⟩:=qb (a:=aName 0) (e:=Ke)
  (fun i τ st ys => (∃ P:List b0,ys = P.map tV ∧ P.length = i ∧ ∀ t ∈ P,Good many t ∧ rW 134 t.2) ∧ (∃ g,st = s ++ g) ∧ ∃ x,τ = [x,some (.int (many:Int)),some (.int mix)])
  (a_ 0 (size:Int).toNat) 0 [none,some (.int (many:Int)),some (.int mix)] s []
  (by
   rintro i u τ st ys hu ⟨⟨P,rfl,lP,hP⟩,⟨g,rfl⟩,x,rfl⟩
   obtain ⟨hi,rfl⟩:=EG hu
   obtain ⟨g2,t,et,gt,bt⟩:=DC (i:=0 + (i:Int)) (by lia) m0 h4 (s ++ g)
   refine ⟨_,rfl,tV t,s ++ (g ++ g2),by rw [← List.append_assoc]; exact et,⟨P ++ [t],by rw [List.map_append]; rfl,by rw [List.length_append,lP]; rfl,fun y hy => ?_⟩,⟨_,rfl⟩,_,rfl⟩
   rcases List.mem_append.mp hy with hy | hy
   ·exact hP y hy
   ·rw [List.mem_singleton.mp hy]; exact ⟨gt,bt⟩)
  ⟨⟨[],rfl,rfl,fun _ h => (by cases h)⟩,⟨[],(List.append_nil s).symm⟩,none,rfl⟩
 have lr:(a_ 0 (size:Int).toNat).length = size:=by rw [AZ]; lia
 rw [lr,Nat.zero_add] at lP
 refine ⟨g ++ [.lst (P.map tV)],(s ++ g).length,P,?_,by rw [← List.append_assoc]; exact Ah _ _,lP,hP⟩
 rw [iL,oz (eB hm) (by lia) (by lia),aA,kP,if_pos (by rw [lr,sizeLine_eq]; lia),hc,e,aA,p6,List.append_assoc]
theorem tP:∀ (P A:List b0) (t:b0),t ∈ P.foldl gF A → (∃ u ∈ A,t.1 = u.1) ∨ ∃ u ∈ P,t.1 = u.1
 | [],A,t,h => .inl ⟨t,h,rfl⟩
 | x :: P,A,t,h => by
  rcases tP P (gF A x) t h with ⟨u,hu,e⟩ | ⟨u,hu,e⟩
  ·rcases tK hu with hu | hu
   ·exact .inl ⟨u,hu,e⟩
   ·exact .inr ⟨x,List.mem_cons_self ..,by rw [e,hu]⟩
  ·exact .inr ⟨u,List.mem_cons_of_mem _ hu,e⟩
theorem oB {r:Int} {P:List b0} {t:b0} (h:t ∈ eM r (fV P)):∃ u ∈ P,t.1 = u.1:=by
 obtain ⟨q,hq,e,_⟩:=AX h
 rcases tP P [] q hq with ⟨u,hu,_⟩ | ⟨u,hu,e2⟩
 ·cases hu
 ·exact ⟨u,hu,e.trans e2⟩
section
variable {ns:List Int} {r:Int} {many:Nat} {st:ai}
end
end PG
namespace L2
open PySem PySem.Spec PyProof.Rows
section
variable {X:Cx}
end
end L2
namespace MN
open PySem PySem.Spec L2
open PyProof.Rows hiding St
section
variable {X:Cx} {E:XK}
end
end MN
namespace PM
open PySem PySem.Spec L2 MN
open PyProof.Rows hiding St
end PM
namespace PG
open PySem PySem.Spec L2 MN
open PyProof.Rows hiding St kindOf
section
variable {f g:List Int → Int}
end
section
variable {r:Int}
end
end PG
namespace PG
open PySem PySem.Spec L2 MN
open PyProof.Rows hiding St kindOf
theorem wg (st g:ai) (c c':Cell):(st ++ c :: g).set st.length c' = st ++ c' :: g:=by
 rw [List.set_append_right _ _ (Nat.le_refl _),Nat.sub_self]; rfl
theorem vd (st g:ai) (c:Cell):(st ++ c :: g)[st.length]? = some c:=by
 rw [List.getElem?_append_right (Nat.le_refl _),Nat.sub_self]; rfl
end PG
namespace PG
open PySem PySem.Spec L2 MN
open PyProof.Rows hiding St kindOf
noncomputable def natOf:Val → Nat
 | .int i => i.toNat
 | _ => 0
end PG
namespace PG
open PySem PySem.Spec L2 MN
open PyProof.Rows hiding St kindOf
section
variable {r:Int} {many b:Nat} {P X:List b0}
theorem js {s:ai} {n:Nat} {us:List Val} (h:s[n]? = some (.lst us)):itemsOf s n = some us:=by unfold itemsOf; rw [h]
end
end PG
namespace SO
open PySem PySem.W PyProof.Rows
section
variable {prog:Program} {w:World} {A:Around} {E:Value → Shared → Prop} {s:Shared}
theorem DD {a b:Addr} {oa ob:Obj} {us vs:Array Value} {n m:Nat} {xs ys:List Int} {P:PySem.Fin → Shared → Prop} (ha:s.heap.get? a = some oa) (WH:oa.cls = .type "tuple") (Ul:oa.data = .seq us n)
  (hb:s.heap.get? b = some ob) (Um:ob.cls = .type "tuple") (jB:ob.data = .seq vs m) (ia:IntsAre us.toList xs) (ib:IntsAre vs.toList ys) (h:P (.done (.ret (.bool (lexLt ys xs)))) s) :
  wpAny (model prog w) A (Builtin.«tuple.__gt__» ⟨[.ref a,.ref b],[]⟩) P E s:=by
 show wpAny _ _ (isInstance (.ref b) (.type "tuple") >>= _) _ _ s
 refine wpAny_bind (wpAny_isInstance (T:="tuple") ⟨ob,hb,Um⟩ isSubtype_tuple_tuple ?_)
 simp only [Bool.not_true,Bool.false_eq_true,if_false]
 refine wpAny_bind (wpAny_tupleItemsOf ha Ul (wpAny_bind (wpAny_tupleItemsOf hb jB ?_)))
 refine wpAny_bind ?_
 refine wpAny_forIn_list _ (fun rest r s' => r.1 = none ∧ s' = s ∧ ∃ x' y' zD uO,rest = List.zip zD uO ∧ IntsAre zD x' ∧ IntsAre uO y' ∧ lexLt y' x' = lexLt ys xs ∧ zD.length + vs.size = uO.length + us.size) _ ?_ ?_ _ _
  ⟨rfl,rfl,xs,ys,us.toList,vs.toList,rfl,ia,ib,rfl,by rw [Array.length_toList,Array.length_toList,Nat.add_comm]⟩
 ·rintro ⟨u,v⟩ rest r s' ⟨hr,rfl,x',y',zD,uO,hz,hx,hy,hl,hs⟩
  cases hx with
  | nil => cases hz
  | @cons i t Np x1 Uo =>
   cases hy with
   | nil => cases hz
   | @cons j t2 RP y1 Uq =>
    rw [List.zip_cons_cons] at hz
    injection hz with NO Ur
    cases NO
    refine wpAny_bind (wpAny_eqBool_int ?_)
    replace hl:(if j = i then lexLt y1 x1 else decide (j < i)) = lexLt ys xs:=hl
    by_cases e:i = j
    ·rw [if_pos e.symm] at hl
     rw [beq_iff_eq.mpr e]
     simp only [Bool.not_true,Bool.false_eq_true,if_false]
     refine wpAny_pure ⟨rfl,rfl,x1,y1,Np,RP,Ur,Uo,Uq,hl,?_⟩
     rw [List.length_cons,List.length_cons] at hs
     lia
    ·rw [if_neg fun z => e z.symm] at hl
     rw [beq_eq_false_iff_ne.mpr e]
     simp only [Bool.not_false,if_true]
     refine wpAny_bind (wpAny_rule ?_)
     refine wpAny_bind (show wpAny _ _ (richCompare .Gt (.int i t) (.int j t2)) _ _ _ from gt_int ?_)
     rw [show decide (i > j) = lexLt ys xs from hl]
     exact wpAny_bind (wpAny_pure (wpAny_pure (wpAny_pure h)))
 ·rintro ⟨r1,r2⟩ s' ⟨hr,rfl,x',y',zD,uO,hz,hx,hy,hl,hs⟩
  simp only at hr
  subst hr
  refine wpAny_pure ?_
  have hb:decide (us.size > vs.size) = lexLt ys xs:=by
   rw [← hl]
   cases hx with
   | nil =>
    cases hy with
    | nil => rw [decide_eq_false (by simp at hs; lia)]; rfl
    | cons _ _ _ => rw [decide_eq_false (by rw [List.length_cons,List.length_nil] at hs; lia)]; rfl
   | cons _ _ _ =>
    cases hy with
    | nil => rw [decide_eq_true (by rw [List.length_cons,List.length_nil] at hs; lia)]; rfl
    | cons _ _ _ => cases hz
  show P (.done (.ret (.bool (decide (us.size > vs.size))))) s'
  rw [hb]
  exact h
theorem wy {a b:Addr} {xs ys:List Int} {Q:Value → Shared → Prop} (hu:A.units < cLine) (h1:hG s.heap (.ref a) xs) (h2:hG s.heap (.ref b) ys) (h:Q (.bool (lexLt ys xs)) s) :
  wpAny (model prog w) A (richCompare .Gt (.ref a) (.ref b)) Q E s:=by
 obtain ⟨_,a',o,aE,n,ea,ho,hc,hd,hi⟩:=h1
 obtain ⟨_,b',o2,cU,n2,eb,rV,pJ,hd2,HV⟩:=h2
 cases ea
 cases eb
 refine wpAny_richCompare_same_room (op:=.Gt) (T:="tuple") ⟨o,ho,hc⟩ ⟨o2,rV,pJ⟩ PySem.F.slot_tuple_gt ?_ hu
 refine wpAny_call_entry PySem.F.slot_tuple_gt ⟨o,ho,hc⟩ PySem.F.entry_tuple_gt (DD ho hc hd rV pJ hd2 hi HV ?_) (PySem.F.args_tuple_gt_2 _ _)
 exact ⟨_,rfl,(fun e => nomatch e),h⟩
end
end SO
namespace MN
open PySem PySem.Spec L2
open PyProof.Rows hiding St
noncomputable def Kf (us ws:List Val) (st:ai):Res Val:=match dS us,dS ws with
 | some a,some b => if a ≠ [] ∧ b ≠ [] then .ok (.bl (SO.lexLt b a)) st else .bad
 | _,_ => .bad
noncomputable def xW:F2
 | .int i,.int j,st => .ok (.bl (decide (i > j))) st
 | .tup us,.tup ws,st => Kf us ws st
 | _,_,_ => .bad
theorem ve {i j:Int} {st:ai}:xW (.int i) (.int j) st = .ok (.bl (decide (i > j))) st:=rfl
theorem G_ {a b:List Int} {st:ai} (ha:a ≠ []) (hb:b ≠ []):xW (.tup (a.map Val.int)) (.tup (b.map Val.int)) st = .ok (.bl (SO.lexLt b a)) st:=by
 show Kf _ _ _ = _
 unfold Kf
 rw [gG,gG]
 exact if_pos ⟨ha,hb⟩
section
variable {X:Cx} {E:XK}
theorem Ha (hu:X.A.units < cLine):dz X (compareOp .Gt) (fun x y H Q => ∃ a b xs ys,x = .ref a ∧ y = .ref b ∧ xs ≠ [] ∧ ys ≠ [] ∧ gp X.K H a (xs.map V.int) ∧ gp X.K H b (ys.map V.int) ∧ Q (.bl (SO.lexLt ys xs)) H):=by
 intro pins s σ H x y v u Q I rx ry h
 obtain ⟨a,b,xs,ys,rfl,rfl,n1,n2,ha,hb,q⟩:=h
 cases rx
 cases ry
 obtain ⟨aE,r1,p1,_⟩:=I.tuple ha
 obtain ⟨cU,r2,p2,_⟩:=I.tuple hb
 obtain ⟨o,ho,hc,n,hd⟩:=id p1
 obtain ⟨o2,rV,pJ,m,hd2⟩:=id p2
 exact show wpAny _ _ (richCompare .Gt (.ref a) (.ref b)) _ _ _ from SO.wy hu ⟨n1,a,o,aE.toArray,n,rfl,ho,hc,hd,ix r1⟩ ⟨n2,b,o2,cU.toArray,m,rfl,rV,pJ,hd2,ix r2⟩ ⟨.bl _,H,I,rfl,q⟩
theorem rq (hu:X.A.units + 64 < cLine):dz X (compareOp .Gt) (rM (wo X) E xW):=by
 refine dz.imp (dz.or IC (Ha (by lia))) ?_
 rintro x y H Q ⟨ρ,st,u,w,sr,r1,r2,h⟩
 cases u with
 | int i =>
  cases w with
  | int j => exact .inl ⟨i,j,r1.cA,r2.cA,fL sr h⟩
  | _ => exact h.elim
 | tup us =>
  cases w with
  | tup ws =>
   replace h:wR (wo X) E (Rl (wo X).K) ρ H Q (Kf us ws st):=h
   unfold Kf at h
   cases z1:dS us with
   | none => rw [z1] at h; exact h.elim
   | some a =>
    cases z2:dS ws with
    | none => rw [z1,z2] at h; exact h.elim
    | some b =>
     rw [z1,z2] at h
     dsimp only at h
     by_cases hz:a ≠ [] ∧ b ≠ []
     ·rw [if_pos hz] at h
      rw [gE z1] at r1
      rw [gE z2] at r2
      obtain ⟨p,vs,rfl,hp,rp⟩:=r1.d3
      obtain ⟨p2,LA,rfl,Ea,NP⟩:=r2.d3
      rw [aN.jW rp] at hp
      rw [aN.jW NP] at Ea
      exact .inr ⟨p,p2,a,b,rfl,rfl,hz.1,hz.2,hp,Ea,fL sr h⟩
     ·rw [if_neg hz] at h; exact h.elim
  | _ => exact h.elim
 | _ => exact h.elim
end
end MN
namespace L2
open PySem PySem.Spec PyProof.Rows
section
variable {X:Cx} {L:e_} {pins:List (Addr × Obj)} {σ:St} {H:Hp} {s:Shared} {f c c':Addr} {i k:Nat} {y:Str} {v x:V} {u:Value} {Q:VK} {E:Value → Shared → Prop}
noncomputable def EI (X:Cx) (L:e_) (f c c':Addr) (v x:V) (H:Hp) (Q:VK):Prop :=
 ∀ (s:Shared) oc u,oc.data = .cell (some u) → RelV v u → H c = none → [x].length = L.ps.length ∧ Eh L (upd H c (.d0 oc (.own 0))) f c c' v ∧
  ∃ t,PE (pQ X.prog X.w X.K X.mg X.base L f c c' X.A.in1 X.stack s (upd H c (.d0 oc (.own 0)))) L.body t ∧ t [some x,some v] (hide (upd H c (.d0 oc (.own 0))) c) fun y H' => H' c = none → Q y (hide (back (upd H c (.d0 oc (.own 0))) H' c) c)
theorem A0 (LO:L.Ok) (hr:cY (k + 2) X.A) (hN:X.N[i]? = some y) (hy:X.env.scope.names.lookup y = some .cell) (hc:X.env.cells.lookup y = some c) (o7:X.fn y = true) (I1:Inv X pins σ H s) (hv:σ[i]? = some (some v)) (r:RelV x u) (q:EI X L f c c' v x H Q) :
  wpAny (model X.prog X.w) X.A.in1 (call (.ref f) [u]) (EP X pins σ Q) E s:=by
 obtain ⟨m,hn,hl⟩:=I1.loc
 obtain ⟨uv,ru,l⟩:=hl i y v hN hv (.inr (.inl hy))
 have Us:X.env.kindOf y = some .cell:=hy
 rcases l with ⟨z,_⟩ | ⟨_,c2,pJ,vI⟩
 ·rw [Us] at z; cases z
 rw [hc] at pJ
 cases pJ
 obtain ⟨oc,go,od⟩:=vI
 have nH:H c = none:=I1.fH y c hc
 have yu:X.s₀.heap.objs.size ≤ c:=I1.ok.yu y c o7 hc
 have e0:=I1.Fw
 have nb:∀ b o,X.base.get? b = some o → b ≠ c:=fun b o e z => by
  have:=Heap.lt_size e
  have h2:=I1.ok.yw
  rw [z] at this
  exact absurd (Nat.lt_of_lt_of_le this h2) (Nat.not_lt.mpr yu)
 have nf:∀ b ∈ fw X.stack,b ≠ c:=fun b hb z => by
  rcases List.mem_cons.mp (I1.ku b hb) with q | q
  ·exact I1.yy y c hc (z.symm.trans q)
  ·have h2:=I1.ok.hR.mem q
   obtain ⟨_,o',lK,_⟩:=h2
   have h3:=Heap.lt_size lK
   rw [z] at h3
   exact absurd h3 (Nat.not_lt.mpr yu)
 have e1:uE X.prog X.w X.K X.mg X.base X.A.in1 X.stack s (upd H c (.d0 oc (.own 0))):=by
  refine ⟨e0.frames,e0.mod,fun b o e => ⟨(e0.bs b o e).1,by rw [aD (nb b o e)]; exact (e0.bs b o e).2⟩,e0.yw,e0.hR,fun b hb => by rw [aD (nf b hb)]; exact e0.wJ b hb,fun b x q => ?_,e0.bare⟩
  by_cases z:b = c
  ·rw [z,aZ] at q
   cases q
   rw [z]
   exact ⟨go,oc,go⟩
  ·rw [aD z] at q
   have nn:∀ a x,H a = some x → a ≠ c:=fun a x w e => by rw [e,nH] at w; cases w
   exact (e0.bz b x q).iT (fun _ _ _ w => w) (fun a w => by rw [aD (nn a _ w)]; exact w) fun a xs w => by rw [aD (nn a _ w)]; exact w
 obtain ⟨hlen,C,ht⟩:=q s oc uv od ru nH
 refine wpAny_call (codeAny_mono (CD (E:=XF) (Q:=fun y H' => Q y (hide H' c)) LO C hr.in1 e1 hlen (.cons r .nil) ht) fun r s' hq => ?_)
 cases r with
 | error e => obtain ⟨_,_,_,_,_,z⟩:=hq; exact z.elim
 | ok fl =>
  cases fl with
  | ret u =>
   obtain ⟨v',H',os,bare,un,bz,rv,qv⟩:=hq
   obtain ⟨Lg,Ut⟩:=CF nH go un bz
   exact I1.after ⟨v',hide H' c,os,bare,Lg,Ut,rv,qv⟩
  | next => exact False.elim hq
  | brk => exact False.elim hq
  | cont => exact False.elim hq
noncomputable def Hb (K:PySem.W.Frag) (Kc:V → Hp → VK → Prop) (a:Addr) (Q:VK):Nat → Nat → Option (V × V) → Hp → Prop
 | 0,j,b,H => (∃ xs,jb K H a xs ∧ xs.length ≤ j) ∧ ∃ p,b = some p ∧ Q p.1 H
 | n + 1,j,none,H => ∃ xs x,jb K H a xs ∧ xs[j]? = some x ∧ Kc x H fun y H1 => Hb K Kc a Q n (j + 1) (some (x,y)) H1
 | n + 1,j,some b,H => ∃ xs x,jb K H a xs ∧ xs[j]? = some x ∧ Kc x H fun y H1 => ∃ a1 b1 k1 k2,y = .ref a1 ∧ b.2 = .ref b1 ∧ k1 ≠ [] ∧ k2 ≠ [] ∧ gp K H1 a1 (k1.map V.int) ∧ gp K H1 b1 (k2.map V.int) ∧
   Hb K Kc a Q n (j + 1) (some (if SO.lexLt k2 k1 = true then (x,y) else b)) H1
noncomputable def Hc (h:Heap) (S:Addr):Option (V × V) → Prop
 | none => ∃ c,h.get? S = some (seqObj "list" #[] c)
 | some b => ∃ c ui uv,h.get? S = some (seqObj "list" #[ui,uv] c) ∧ RelV b.1 ui ∧ RelV b.2 uv
theorem DE (LO:L.Ok) (hc:X.calm = true) (hr:cY (k + 2) X.A) (hN:X.N[i]? = some y) (hy:X.env.scope.names.lookup y = some .cell) (HG:X.env.cells.lookup y = some c) (o7:X.fn y = true) (hv:σ[i]? = some (some v)) {a I S:Addr} (LD:S ≠ I) :
  ∀ (n j:Nat) (b:Option (V × V)) (H:Hp) (s:Shared),Inv X pins σ H s → iU X pins H I → iU X pins H S → s.heap.IsListIter I a j → Hc s.heap S b → Hb X.K (EI X L f c c' v) a Q n j b H →
   codeAny (model X.prog X.w) X.A (.builtin "max.loop" ⟨[.ref I,.ref f,.ref S],[]⟩) (fun r s' => match r with | .ok (.ret v) => EP X pins σ Q v s' | .ok _ => False | .error e => E e s') s:=by
 have tQ:(toString "max" ++ toString ".loop":String) = "max.loop":=by decide
 intro n
 induction n with
 | zero =>
  intro j b H s J fI fS st hb hm
  obtain ⟨⟨xs,hq,Uu⟩,p,rfl,q⟩:=hm
  obtain ⟨cS,ui,uv,hS,r1,r2⟩:=hb
  obtain ⟨aE,rv,pl,hz⟩:=J.list hq
  have hl:=rv.length
  obtain ⟨g0,g1,g2,g3,g4,g5⟩:=fI
  obtain ⟨f0,f1,f2,f3,f4,f5⟩:=fS
  refine codeAny_builtin PySem.F.entry_max_loop ?_
  rw [Around.under_plainId PySem.F.plain_max_loop _]
  show wpAny _ X.A.in1 (seqItems? (.ref S) >>= _) _ _ s; refine wpAny_bind (wpAny_seqItems hS rfl ?_)
  show wpAny _ X.A.in1 (tryCatch (pyNext (.ref I)) _ >>= _) _ _ s
  refine wpAny_bind (wpAny_tryCatch (wpAny_pyNext_list_end hr.hd st pl.isList (by simp; lia) fun h' eb => ?_))
  have J1:Inv X pins σ H { s with heap:=h' }:=J.turned (t':=s.toks) (fun b o hb e => eb b o hb e) g0 g1 g3 g4 g5
  have Hd:=eb S _ LD hS
  show wpAny _ X.A.in1 (updateSeq S (fun _ => #[]) >>= _) _ _ _
  refine wpAny_bind (wpAny_updateSeq Hd rfl (wpAny_bind (wpAny_letGo (wpAny_pure ?_))))
  exact ⟨p.1,H,J1.turned (t':=s.toks) (fun b o hb e => (Heap.get?_update_other _ _ (Ne.symm hb)).trans e) f0 f1 f3 f4 f5,r1,q⟩
 | succ n ih =>
  intro j b H s J fI fS st hb hm
  obtain ⟨xs,x,hq,LF,hk⟩:∃ xs x,jb X.K H a xs ∧ xs[j]? = some x ∧ EI X L f c c' v x H fun y H1 => (match b with
    | none => Hb X.K (EI X L f c c' v) a Q n (j + 1) (some (x,y)) H1
    | some b => ∃ a1 b1 k1 k2,y = .ref a1 ∧ b.2 = .ref b1 ∧ k1 ≠ [] ∧ k2 ≠ [] ∧ gp X.K H1 a1 (k1.map V.int) ∧ gp X.K H1 b1 (k2.map V.int) ∧
     Hb X.K (EI X L f c c' v) a Q n (j + 1) (some (if SO.lexLt k2 k1 = true then (x,y) else b)) H1):=by cases b <;> exact hm
  obtain ⟨aE,rv,pl,hz⟩:=J.list hq
  obtain ⟨u,hu,ru⟩:=rv.get LF
  obtain ⟨arr,cS,hS,RQ⟩:∃ arr cS,s.heap.get? S = some (seqObj "list" arr cS) ∧ True:=by
   cases b with
   | none => obtain ⟨cS,h⟩:=hb; exact ⟨_,_,h,trivial⟩
   | some b => obtain ⟨cS,ui,uv,h,_⟩:=hb; exact ⟨_,_,h,trivial⟩
  obtain ⟨g0,g1,g2,g3,g4,g5⟩:=id fI
  obtain ⟨f0,f1,f2,f3,f4,f5⟩:=id fS
  refine codeAny_builtin PySem.F.entry_max_loop ?_
  rw [Around.under_plainId PySem.F.plain_max_loop _]
  show wpAny _ X.A.in1 (seqItems? (.ref S) >>= _) _ _ s; refine wpAny_bind (wpAny_seqItems hS rfl ?_)
  show wpAny _ X.A.in1 (tryCatch (pyNext (.ref I)) _ >>= _) _ _ s
  refine wpAny_bind (wpAny_tryCatch (wpAny_pyNext_list_item st pl.isList (x:=u) (by simpa using hu) fun h' av sb => ?_))
  have J1:Inv X pins σ H { s with heap:=h' }:=J.turned (t':=s.toks) (fun b o hb e => (sb.2 b hb).trans e) g0 g1 g3 g4 g5
  have Uv:h'.get? S = some (seqObj "list" arr cS):=(sb.2 S LD).trans hS
  obtain ⟨oI,eI,cI,dI⟩:=id av
  have J2:Inv X (pins ++ [(I,oI),(S,seqObj "list" arr cS)]) σ H { s with heap:=h' }:=J1.jy fun p hp => by
   rcases List.mem_append.mp hp with z | z
   ·exact J1.pin p (List.mem_append_right _ z)
   ·rcases List.mem_cons.mp z with rfl | z
    ·exact ⟨eI,g0,g1,g2,fun v z => by rw [dI] at z; cases z⟩
    ·rw [List.mem_singleton.mp z]
     exact ⟨Uv,f0,f1,f2,fun v z => by cases z⟩
  show wpAny _ X.A.in1 (tryCatch (holding [u] (call (.ref f) [u])) _ >>= _) _ _ _
  refine wpAny_bind (wpAny_tryCatch (wpAny_holding (wpAny_mono (A0 (E:=fun _ _ => False) LO hr hN hy HG o7 J2 hv ru hk) (fun val s2 NQ => ?_) fun _ _ z => z.elim)))
  obtain ⟨y2,H2,J3,ry,Kg⟩:=NQ
  have pI:=J3.pin (I,oI) (by simp)
  have pS:=J3.pin (S,seqObj "list" arr cS) (by simp)
  have J4:=J3.jA
  have cg:s2.heap.IsListIter I a (j + 1):=⟨oI,pI.1,cI,dI⟩
  have NR:iU X pins H2 I:=⟨pI.2.1,g1,g2,g3,g4,g5⟩
  have Kh:iU X pins H2 S:=⟨pS.2.1,f1,f2,f3,f4,f5⟩
  cases b with
  | none =>
   obtain ⟨Uw,Hd⟩:=hb
   have ea:arr = #[]:=by
    rw [hS] at Hd
    cases Hd; rfl
   subst ea
   show wpAny _ X.A.in1 (updateSeq S (fun _ => #[u,val]) >>= _) _ _ _
   refine wpAny_bind (wpAny_updateSeq pS.1 rfl ?_)
   rw [tQ]
   refine wpAny_pure ⟨plainId_quiet PySem.F.plain_max_loop _,ih (j + 1) (some (x,y2)) H2 _ (J4.turned (t':=s2.toks) (fun b o hb e => (Heap.get?_update_other _ _ (Ne.symm hb)).trans e) Kh.1 f1 f3 f4 f5) NR Kh ?_ ⟨_,u,val,Heap.get?_update_self _ pS.1 rfl,ru,ry⟩ Kg⟩
   exact ⟨oI,(Heap.get?_update_other _ _ LD).trans pI.1,cI,dI⟩
  | some b =>
   obtain ⟨Uw,ui,uv,Hd,r1,r2⟩:=hb
   have ea:arr = #[ui,uv]:=by
    rw [hS] at Hd
    cases Hd; rfl
   subst ea
   obtain ⟨a1,b1,k1,k2,rfl,e2,n1,n2,t1,t2,LG⟩:=Kg
   cases ry
   rw [e2] at r2
   cases r2
   obtain ⟨NT,q1,p1,_⟩:=J4.tuple t1
   obtain ⟨cU,q2,p2,_⟩:=J4.tuple t2
   obtain ⟨o1,LB,Ux,m1,Uy⟩:=id p1
   obtain ⟨o2,rV,pJ,m2,hd2⟩:=id p2
   show wpAny _ X.A.in1 (tryCatch (holding [u,.ref a1] (richCompare .Gt (.ref a1) (.ref b1) >>= _)) _ >>= _) _ _ _
   refine wpAny_bind (wpAny_tryCatch (wpAny_holding (wpAny_bind (SO.wy (by have:=hr.un; show X.A.units + 1 < _; lia) ⟨n1,a1,o1,NT.toArray,m1,rfl,LB,Ux,Uy,ix q1⟩ ⟨n2,b1,o2,cU.toArray,m2,rfl,rV,pJ,hd2,ix q2⟩ ?_))))
   refine wpAny_bind (wpAny_holding (wpAny_truthy_bool (wpAny_bind (wpAny_letGo (wpAny_pure ?_)))))
   cases hz:SO.lexLt k2 k1 with
   | true =>
    rw [hz,if_pos rfl] at LG
    simp only [if_true]
    refine wpAny_bind (wpAny_updateSeq pS.1 rfl (wpAny_bind (wpAny_letGo ?_)))
    rw [tQ]
    refine wpAny_pure ⟨plainId_quiet PySem.F.plain_max_loop _,ih (j + 1) (some (x,.ref a1)) H2 _ (J4.turned (t':=s2.toks) (fun b o hb e => (Heap.get?_update_other _ _ (Ne.symm hb)).trans e) Kh.1 f1 f3 f4 f5) NR Kh ?_ ⟨_,u,.ref a1,Heap.get?_update_self _ pS.1 rfl,ru,rfl⟩ LG⟩
    exact ⟨oI,(Heap.get?_update_other _ _ LD).trans pI.1,cI,dI⟩
   | false =>
    rw [hz,if_neg Bool.false_ne_true] at LG
    simp only [Bool.false_eq_true,if_false]
    refine wpAny_bind (wpAny_letGo ?_)
    rw [tQ]
    exact wpAny_pure ⟨plainId_quiet PySem.F.plain_max_loop _,ih (j + 1) (some b) H2 s2 J4 NR Kh cg ⟨_,ui,.ref b1,pS.1,r1,by rw [e2]; rfl⟩ LG⟩
end
end L2
namespace L2
open PySem PySem.Spec PyProof.Rows
theorem rA (a v:Value):argsOk "max" ⟨[a],[(Str.ofString "key",v)]⟩:=by unfold argsOk; kernel_rfl
section
variable {X:Cx} {L:e_} {c:Addr} {i k:Nat} {y x:Str} {p pos kp:Pos} {e ek:Expr} {t te:TE}
noncomputable def Ki (X:Cx) (L:e_) (c:Addr) (i:Nat) (t te:TE):TE:=fun σ H Q => vL t BV σ H fun vs H1 => vL te BV σ H1 fun zs H2 => ∃ a f c' v n,vs = [.ref a] ∧ zs = [.ref f] ∧ σ[i]? = some (some v) ∧ (∃ xs,jb X.K H2 a xs) ∧ Hb X.K (EI X L f c c' v) a Q n 0 none H2
theorem DF (LO:L.Ok) (hc:X.calm = true) (hr:cY (k + 2) X.A) (hN:X.N[i]? = some y) (hy:X.env.scope.names.lookup y = some .cell) (HG:X.env.cells.lookup y = some c) (o7:X.fn y = true)
  (hg:Gl X x) (hm:X.mg x = none) (hv:bootBuiltins x = some (.builtin "max")) (ha:PE X e t) (hk:PE X ek te) (hn:x ≠ "__name__":=by decide) (jB:(x == ("__debug__":Str)) = false:=by decide)
  (he:starEach [e] X.env = (false,eval e X.env) :: starEach [] X.env:=by rfl) :
  PE X (.Call (.Name x p) [e] [⟨some "key",ek,kp⟩] pos) (Ki X L c i t te):=by
 intro pins s σ H Q I h
 have tQ:(toString "max" ++ toString ".loop":String) = "max.loop":=by decide
 refine wpAny_Call_Name_kw (ja I hg hm hv ?_ hn jB)
 refine callWith_kw (cb ((gM ha ng he) pos pins s σ H _ I h) fun us s1 q1 => ?_) (by rw [he]; rfl) (by rw [he]; rfl) (by rfl) (by rfl)
 obtain ⟨vs,H1,I1,r1,q1⟩:=q1
 refine cb ((vM (nm:=some "key") (kpos:=kp) hk yM) pos pins s1 σ H1 _ I1 q1) fun ws s2 q2 => ?_
 obtain ⟨zs,H2,I2,r2,a,f,c',v,n,rfl,rfl,hσ,⟨xs,hq⟩,M4⟩:=q2
 obtain ⟨u,rfl,ru⟩:=vals1 r1
 obtain ⟨z,rfl,rz⟩:=vals1 r2
 cases ru
 cases rz
 obtain ⟨aE,rv,pl,_⟩:=I2.list hq
 show wpAny _ _ (call (.builtin "max") [.ref a] [(Str.ofString "key",.ref f)]) _ _ s2
 refine SO.rm PySem.F.kind_max PySem.F.plain_max PySem.F.entry_max (rA _ _) ?_
 show wpAny _ X.A.in1 (Builtin.Builtins.bindParams "max" ["key","default"] 0 ⟨[],[(Str.ofString "key",.ref f)]⟩ >>= _) _ _ s2
 refine wpAny_bind (wpAny_of_eq (show Builtin.Builtins.bindParams "max" ["key","default"] 0 ⟨[],[(Str.ofString "key",.ref f)]⟩ = pure [some (.ref f),none] from rfl) ?_)
 refine wpAny_bind (wpAny_pure ?_)
 refine wpAny_bind (wpAny_pyIter_list pl.isList ?_)
 refine wpAny_bind (wpAny_newObj_type ?_)
 rw [tQ]
 refine wpAny_pure ⟨plainId_quiet PySem.F.plain_max_loop _,?_⟩
 obtain ⟨I,eI⟩:∃ I,I = s2.heap.objs.size:=⟨_,rfl⟩
 obtain ⟨h1,e1⟩:∃ h1,h1 = s2.heap.push { cls:=.type "list_iterator",data:=.fields #[.ref a,.int 0 0] }:=⟨_,rfl⟩
 obtain ⟨S,eS⟩:∃ S,S = h1.objs.size:=⟨_,rfl⟩
 obtain ⟨h2,e2⟩:∃ h2,h2 = h1.push (seqObj "list" #[] 0):=⟨_,rfl⟩
 have NU:S = I + 1:=by rw [eS,e1,eI,Heap.size_push]
 have Uz:S ≠ I:=by rw [NU]; exact Nat.succ_ne_self I
 have k2:∀ b o,s2.heap.get? b = some o → h2.get? b = some o:=fun b o e => by rw [e2,e1]; exact Heap.get?_push_of_some _ (Heap.get?_push_of_some _ e)
 have nI:H2 I = none:=I2.bz.fresh (by rw [eI]; exact Nat.le_refl _)
 have nS:H2 S = none:=I2.bz.fresh (by rw [NU,eI]; exact Nat.le_succ _)
 have fI:iU X pins H2 I:=I2.wL (by rw [eI]; exact Nat.le_refl _) nI
 have fS:iU X pins H2 S:=I2.wL (by rw [NU,eI]; exact Nat.le_succ _) nS
 have J:Inv X pins σ H2 { s2 with heap:=h2 }:=I2.kept (t':=s2.toks) k2
 show codeAny (model X.prog X.w) X.A (.builtin "max.loop" ⟨[.ref s2.heap.objs.size,.ref f,.ref (s2.heap.push { cls:=.type "list_iterator",data:=.fields #[.ref a,.int 0 0] }).objs.size],[]⟩) _ { s2 with heap:=(s2.heap.push { cls:=.type "list_iterator",data:=.fields #[.ref a,.int 0 0] }).push (seqObj "list" #[] 0) }
 rw [← e1,← e2,← eS,← eI]
 refine DE LO hc hr hN hy HG o7 hσ Uz n 0 none H2 _ J fI fS ?_ ⟨0,?_⟩ M4
 ·refine ⟨{ cls:=.type "list_iterator",data:=.fields #[.ref a,.int 0 0] },?_,rfl,rfl⟩
  show h2.get? I = _
  rw [e2,e1,eI]
  exact Heap.get?_push_of_some _ (Heap.get?_push_size _ rfl)
 ·show h2.get? S = _
  rw [e2,eS]
  exact Heap.get?_push_size _ rfl
end
end L2
namespace MN
open PySem PySem.Spec L2
open PyProof.Rows hiding St
open Classical in
noncomputable def A3 (mb:ME) (u:Val) (n:Nat) (us:List Val):List Val → Option (Val × Val) → ai → Res Val
 | [],b,st => if itemsOf st n = some us then (match b with | some p => .ok p.1 st | none => .bad) else .bad
 | x :: r,none,st => if itemsOf st n = some us then (match mb [some x,some u] st with | .ok y aX => A3 mb u n us r (some (x,y)) aX | _ => .bad) else .bad
 | x :: r,some b,st => if itemsOf st n = some us then (match mb [some x,some u] st with
  | .ok (.tup ys) aX => (match b.2 with
   | .tup bs => (match dS ys,dS bs with
    | some k1,some k2 => if k1 ≠ [] ∧ k2 ≠ [] then A3 mb u n us r (some (if SO.lexLt k2 k1 = true then (x,.tup ys) else b)) aX else .bad
    | _,_ => .bad)
   | _ => .bad)
  | _ => .bad) else .bad
open Classical in
noncomputable def qc (L:cQ) (i:Nat) (mb:ME) (m:ME):ME:=fun μ st => match μ[i]? with
 | some (some u) => if xj u = false ∧ L.S.ps.length = 1 then (m μ st).bind fun v aX => match v with
   | .loc n => if d8 aX L.own L.line L.col L.S.qual then (match itemsOf aX n with
     | some us => A3 mb u n us us none aX
     | none => .bad) else .bad
   | _ => .bad
  else .bad
 | _ => .bad
section
variable {X:Cx} {E:XK} {L:e_} {k:Nat} {mb:ME} {f c c':Addr} {Q:VK}
theorem wz (S:nU X.prog X.w X.K X.mg X.base L k mb) (kl:L.ps.length = 1) (hr:cY (k + 2) X.A) {ρ:List Addr} {st:ai} {H:Hp} {u x:Val} {v vx:V} {R:Val → ai → Prop} {Q':VK}
  (o7:∃ pm oY,Fz H f (PySem.W.kla_obj "<lambda>" L.qual L.params L.body L.scope [(L.x,c)] pm c' oY)) (m6:∃ oc vs t,Fz H c' oc ∧ oc.data = .fields vs ∧ vs[1]? = some (.str L.qual t))
  (sr:SR X.K ρ st H) (ru:Rl X.K ρ H u v) (rx:Rl X.K ρ H x vx) {y:Val} {aX:ai} (hb:mb [some x,some u] st = .ok y aX)
  (hQ:∀ ρ1 H1 vy,Step ρ H ρ1 H1 → SR X.K ρ1 aX H1 → Rl X.K ρ1 H1 y vy → Q' vy H1):EI X L f c c' v vx H Q':=by
 intro s oc uv hd UA hn
 have s3:jd H (upd H c (.d0 oc (.own 0))):=cD hn
 have e3:Step ρ H ρ (upd H c (.d0 oc (.own 0))):=Step.same s3
 have C:Eh L (upd H c (.d0 oc (.own 0))) f c c' v:=by
  refine ⟨?_,?_,oc,uv,aZ,hd,UA⟩
  ·obtain ⟨pm,oY,hf⟩:=o7
   exact ⟨pm,oY,e3.d0 _ _ _ hf⟩
  ·obtain ⟨o2,vs,t,h4,h5⟩:=m6
   exact ⟨o2,vs,t,e3.d0 _ _ _ h4,h5⟩
 have LH:Fz (upd H c (.d0 oc (.own 0))) c oc:=aZ
 refine ⟨by rw [kl]; rfl,C,_,S.2 f c c' X.A.in1 X.stack s _ (hr.in1.deeper _),[some x,some u],ρ,st,?_,(sr.grow s3).hide LH ⟨_,hd⟩,?_⟩
 ·exact RS.lam (us:=[x]) (vs:=[vx]) (aN.hide LH _ _ (aN.mono e3 _ _ (aN.one rx))) (Rl.hide LH _ _ (Rl.mono e3 _ _ ru))
 ·rw [hb]
  intro ρ2 H2 vy e2 mF ry RT
  have e4:=Step.back LH e2
  have RU:Fz (back (upd H c (.d0 oc (.own 0))) H2 c) c oc:=by
   show back _ _ _ _ = _
   rw [iH]; exact aZ
  have e5:Step ρ H ρ2 (hide (back (upd H c (.d0 oc (.own 0))) H2 c) c):=Step.Nt hn e4
  exact hQ ρ2 _ vy e5 ((mF.grow (p5 RT)).hide RU ⟨_,hd⟩) (Rl.hide RU _ _ (Rl.mono (Step.same (p5 RT)) _ _ ry))
noncomputable def BR (K:PySem.W.Frag) (ρ:List Addr) (H:Hp):Option (Val × Val) → Option (V × V) → Prop
 | none,none => True
 | some p,some q => Rl K ρ H p.1 q.1 ∧ Rl K ρ H p.2 q.2
 | _,_ => False
theorem BR.mono {K:PySem.W.Frag} {ρ ρ1:List Addr} {H H1:Hp} (e:Step ρ H ρ1 H1):∀ {b:Option (Val × Val)} {q:Option (V × V)},BR K ρ H b q → BR K ρ1 H1 b q
 | none,none,_ => trivial
 | some _,some _,h => ⟨Rl.mono e _ _ h.1,Rl.mono e _ _ h.2⟩
 | none,some _,h => h.elim
 | some _,none,h => h.elim
theorem He (S:nU X.prog X.w X.K X.mg X.base L k mb) (kl:L.ps.length = 1) (hr:cY (k + 2) X.A) {u:Val} {v:V} {n:Nat} {a:Addr} {us:List Val}:∀ (r:List Val) (j:Nat) (b:Option (Val × Val)) (q:Option (V × V)) (ρ:List Addr) (st:ai) (H:Hp),us.drop j = r → ρ[n]? = some a →
  (∃ pm oY,Fz H f (PySem.W.kla_obj "<lambda>" L.qual L.params L.body L.scope [(L.x,c)] pm c' oY)) → (∃ oc vs t,Fz H c' oc ∧ oc.data = .fields vs ∧ vs[1]? = some (.str L.qual t)) → SR X.K ρ st H → Rl X.K ρ H u v → BR X.K ρ H b q →
  wR (wo X) E (Rl X.K) ρ H Q (A3 mb u n us r b st) → Hb X.K (EI X L f c c' v) a Q r.length j q H:=by
 intro r
 induction r with
 | nil =>
  intro j b q ρ st H hj ha hf hd sr ru rb h
  unfold A3 at h
  by_cases hi:itemsOf st n = some us
  ·rw [if_pos hi] at h
   obtain ⟨vs,hq,rv⟩:=aR sr hi ha
   have hl:=rv.length
   have Uu:=List.drop_eq_nil_iff.mp hj
   cases b with
   | none => exact h.elim
   | some p =>
    cases q with
    | none => exact rb.elim
    | some q => exact ⟨⟨vs,hq,by lia⟩,q,rfl,h ρ H _ (Step.refl _ _) sr rb.1⟩
  ·rw [if_neg hi] at h; exact h.elim
 | cons x r ih =>
  intro j b q ρ st H hj ha hf hd sr ru rb h
  have LF:us[j]? = some x:=by
   have:=congrArg (fun l => l[0]?) hj
   simpa using this
  have RV:us.drop (j + 1) = r:=by
   have:=congrArg List.tail hj
   simpa using this
  have fs:∀ {ρ1 H1},Step ρ H ρ1 H1 → (∃ pm oY,Fz H1 f (PySem.W.kla_obj "<lambda>" L.qual L.params L.body L.scope [(L.x,c)] pm c' oY)) ∧ (∃ oc vs t,Fz H1 c' oc ∧ oc.data = .fields vs ∧ vs[1]? = some (.str L.qual t)):=by
   intro ρ1 H1 e
   obtain ⟨pm,oY,h1⟩:=hf
   obtain ⟨o2,vs,t,h4,h5⟩:=hd
   exact ⟨⟨pm,oY,e.d0 _ _ _ h1⟩,o2,vs,t,e.d0 _ _ _ h4,h5⟩
  cases b with
  | none =>
   cases q with
   | some q => exact rb.elim
   | none =>
    unfold A3 at h
    by_cases hi:itemsOf st n = some us
    ·rw [if_pos hi] at h
     obtain ⟨vs,hq,rv⟩:=aR sr hi ha
     obtain ⟨vx,NV,rx⟩:=rv.get LF
     cases hb:mb [some x,some u] st with
     | ok y aX =>
      rw [hb] at h
      refine ⟨vs,vx,hq,NV,wz (R:=fun _ _ => True) S kl hr hf hd sr ru rx hb fun ρ1 H1 vy e1 bR ry => ?_⟩
      exact ih (j + 1) (some (x,y)) (some (vx,vy)) ρ1 aX H1 RV (e1.at_ ha) (fs e1).1 (fs e1).2 bR (Rl.mono e1 _ _ ru) ⟨Rl.mono e1 _ _ rx,ry⟩ (wR.mono h e1)
     | err c aX => rw [hb] at h; exact h.elim
     | bad => rw [hb] at h; exact h.elim
    ·rw [if_neg hi] at h; exact h.elim
  | some p =>
   cases q with
   | none => exact rb.elim
   | some q =>
    unfold A3 at h
    by_cases hi:itemsOf st n = some us
    ·rw [if_pos hi] at h
     obtain ⟨vs,hq,rv⟩:=aR sr hi ha
     obtain ⟨vx,NV,rx⟩:=rv.get LF
     cases hb:mb [some x,some u] st with
     | ok y aX =>
      rw [hb] at h
      refine ⟨vs,vx,hq,NV,wz (R:=fun _ _ => True) S kl hr hf hd sr ru rx hb fun ρ1 H1 vy e1 bR ry => ?_⟩
      have h':=wR.mono h e1
      have RW:=rb.mono e1
      cases y with
      | tup ys =>
       dsimp only at h'
       cases Ea:p.2 with
       | tup bs =>
        rw [Ea] at h'
        dsimp only at h'
        cases z1:dS ys with
        | none => rw [z1] at h'; exact h'.elim
        | some k1 =>
         cases z2:dS bs with
         | none => rw [z1,z2] at h'; exact h'.elim
         | some k2 =>
          rw [z1,z2] at h'
          dsimp only at h'
          by_cases hz:k1 ≠ [] ∧ k2 ≠ []
          ·rw [if_pos hz] at h'
           have r1:=ry
           have r2:=RW.2
           rw [Ea,gE z2] at r2
           rw [gE z1] at r1
           obtain ⟨p1,RP,rfl,RX,UB⟩:=r1.d3
           obtain ⟨p2,LA,eq2,Kg,NP⟩:=r2.d3
           rw [aN.jW UB] at RX
           rw [aN.jW NP] at Kg
           refine ⟨p1,p2,k1,k2,rfl,eq2,hz.1,hz.2,RX,Kg,ih (j + 1) _ _ ρ1 aX H1 RV (e1.at_ ha) (fs e1).1 (fs e1).2 bR (Rl.mono e1 _ _ ru) ?_ h'⟩
           by_cases zl:SO.lexLt k2 k1 = true
           ·rw [if_pos zl,if_pos zl]; exact ⟨Rl.mono e1 _ _ rx,ry⟩
           ·rw [if_neg zl,if_neg zl]; exact RW
          ·rw [if_neg hz] at h'; exact h'.elim
       | _ => rw [Ea] at h'; exact h'.elim
      | _ => exact h'.elim
     | err c aX => rw [hb] at h; exact h.elim
     | bad => rw [hb] at h; exact h.elim
    ·rw [if_neg hi] at h; exact h.elim
end
section
variable {X:Cx} {E:XK} {pos p lp kp:Pos} {e:Expr} {m mb:ME} {x y:Str} {L:cQ} {k:Nat} {c cd T:Addr}
theorem DG (S:nU X.prog X.w X.K X.mg X.base L.S k mb) (B:GB X.K X.mg X.base L.own cd T) (UC:X.calm = true) (hr:cY (k + 2) X.A) (hg:Gl X x) (hm:X.mg x = none) (hv:bootBuiltins x = some (.builtin "max")) (i:Nat) (o7:X.fn y = true) (ha:PE X e (tE X E m)) (Kj:X.env.code = .ref cd:=by rfl) (RQ:closureFor L.S.scope X.env = pure [(L.S.x,c)]:=by rfl) (hq:L.S.qual = X.env.qual ++ "<lambda>":=by rfl)
  (IQ:defaultsOf L.S.params X.env = ([],[]):=by rfl) (yk:lp.line = L.line:=by rfl) (wY:lp.col = L.col:=by rfl) (hN:X.N[i]? = some y:=by rfl) (hy:X.env.scope.names.lookup y = some .cell:=by rfl) (hc:X.env.cells.lookup y = some c:=by rfl) (hn:x ≠ "__name__":=by decide) (jB:(x == ("__debug__":Str)) = false:=by decide)
  (he:starEach [e] X.env = (false,eval e X.env) :: starEach [] X.env:=by rfl) :
  PE X (.Call (.Name x p) [e] [⟨some "key",.Lambda L.S.params L.S.body L.S.scope lp,kp⟩] pos) (tE X E (qc L i mb m)):=by
 have A:Ek X L.S lp cd T c:=⟨Kj,B.hd,RQ,hq,IQ,B.blt,B.gT⟩
 refine PE.imp (DF S.1 UC hr hN hy hc o7 hg hm hv ha (Ge A) hn jB he) ?_
 rintro σ H Q ⟨μ,ρ,st,rs,sr,h⟩
 unfold qc at h
 split at h
 ·rename_i u hu
  split at h
  ·rename_i hh
   obtain ⟨hx,kl⟩:=hh
   refine go μ ρ st rs sr h fun w aX ρ1 H1 va e1 bR r1 h1 => ?_
   cases w with
   | loc n =>
    dsimp only at h1
    split at h1
    ·rename_i hT
     obtain ⟨jt,hj⟩:=hT
     rw [← yk,← wY] at hj
     cases hi:itemsOf aX n with
     | none => rw [hi] at h1; exact h1.elim
     | some us =>
      rw [hi] at h1
      dsimp only at h1
      obtain ⟨T',Jq,kT⟩:=bR.addr hj
      have eT:T' = T:=by
       obtain ⟨WI,h1⟩:=kT.1
       have:=h1.symm.trans B.tab
       cases this
       rfl
      subst eT
      refine ⟨kT.2,fun UD c' H2 N => ?_⟩
      obtain ⟨mF,e2⟩:=bR.GA hj Jq N
      obtain ⟨v,hv,rv⟩:=rs.at_ i u hu
      have UE:Rl X.K ρ H u v:=rv.un (by rw [hx]; exact Bool.false_ne_true)
      obtain ⟨a,rfl,ha⟩:=r1.dF
      obtain ⟨vs,hq,_⟩:=aR mF hi (e2.at_ ha)
      exact ⟨a,UD,c',v,us.length,rfl,rfl,hv,⟨vs,hq⟩,He S kl hr us 0 none none ρ1 aX H2 rfl (e2.at_ ha) N.fn N.cd mF (Rl.mono (e1.trans e2) _ _ UE) trivial (wR.mono h1 e2)⟩
    ·exact h1.elim
   | _ => exact h1.elim
  ·exact h.elim
 ·exact h.elim
end
end MN
namespace HT
open PySem PySem.Spec PyProof.Rows
theorem filterMap_some {α β:Type} {f:α → Option β} {g:α → β}:∀ {l:List α},(∀ m ∈ l,f m = some (g m)) → l.filterMap f = l.map g
 | [],_ => rfl
 | a :: l,h => by rw [List.filterMap_cons,h a List.mem_cons_self,List.map_cons,filterMap_some fun m hm => h m (List.mem_cons_of_mem _ hm)]
section
variable {prog:Program} {w:World} {A:Around} {E:Value → Shared → Prop} {s:Shared}
theorem iX {t sl:Addr} {items:Array Value} {vl vu:Value} {lo hi:Option Int} {Q:Value → Shared → Prop} (ht:IsTup s.heap t items) (hs:s.heap.IsSliceOf sl vl vu .none) (pl:IsPart vl lo) (pu:IsPart vu hi)
  (hw:cN items.size 0 lo = 0 ∧ cN items.size items.size hi = items.size) (h:Q (.ref t) s):wpAny (model prog w) A (getItem (.ref t) (.ref sl)) Q E s:=by
 obtain ⟨os,yj,HK,B0⟩:=id hs
 have IG:s.TypeIs (.ref sl) "slice":=⟨os,yj,HK⟩
 unfold getItem
 try with_reducible refine wpAny_holding ?_
 first | refine wpAny_bind (wpAny_pure ?_) | skip
 refine wpAny_bind (wpAny_sequenceKey ht.typeIs (by decide) ?_)
 refine wpAny_bind (wpAny_callSpecial?_slot (name:=Str.ofString "__getitem__") ht.typeIs PyProof.Rows.slot_tuple_getitem
  (wpAny_call_entry PyProof.Rows.slot_tuple_getitem ht.typeIs entry_tuple_getitem ?_ (args_tuple_getitem _ _)))
 show wpAny _ _ (Builtin.Tuple.tupleItemsOf (.ref t) >>= _) _ _ s
 refine wpAny_bind (tupleItemsOf_ ht ?_)
 refine wpAny_bind (wpAny_typeOf IG ?_)
 rw [if_pos (by decide)]
 refine wpAny_bind (gs hs pl pu ?_)
 have FD:((((cN items.size 0 lo:Nat):Int) == 0 && (1:Int) == 1 && (cN items.size items.size hi - cN items.size 0 lo) == items.size) = true):=by
  rw [hw.1,hw.2]; simp
 show wpAny _ _ (if (((cN items.size 0 lo:Nat):Int) == 0 && (1:Int) == 1 && (cN items.size items.size hi - cN items.size 0 lo) == items.size) = true then _ else _) _ _ s
 rw [if_pos FD]
 unfold Builtin.Tuple.tupleIsExact
 refine wpAny_bind (wpAny_bind (wpAny_typeOf ht.typeIs (wpAny_pure ?_)))
 first
  | exact wpAny_bind (wpAny_rule (wpAny_bind (wpAny_pure (wpAny_pure ⟨_,rfl,wpAny_pure h⟩))))
  | exact wpAny_bind (wpAny_rule (wpAny_pure ⟨_,rfl,wpAny_pure h⟩))
  | exact wpAny_bind (wpAny_bind (wpAny_rule (wpAny_pure ⟨_,rfl,wpAny_pure h⟩)))
theorem jY {t sl:Addr} {items:Array Value} {tk:Tok} {Q:Value → Shared → Prop} (ht:IsTup s.heap t items) (hs:s.heap.IsSliceOf sl .none .none (.int (-1) tk))
  (h:Q (.ref s.heap.objs.size) { s with heap:=s.heap.push { cls:=.type "tuple",data:=.seq items.toList.reverse.toArray } })
  (hsz:items.size ≤ sizeLine):wpAny (model prog w) A (getItem (.ref t) (.ref sl)) Q E s:=by
 have jE:sizeOk (.seq items.toList.reverse.toArray):=by
  show items.toList.reverse.toArray.size ≤ sizeLine
  rw [List.size_toArray,List.length_reverse,Array.length_toList]; exact hsz
 obtain ⟨os,yj,HK,B0⟩:=id hs
 have IG:s.TypeIs (.ref sl) "slice":=⟨os,yj,HK⟩
 unfold getItem
 try with_reducible refine wpAny_holding ?_
 first | refine wpAny_bind (wpAny_pure ?_) | skip
 refine wpAny_bind (wpAny_sequenceKey ht.typeIs (by decide) ?_)
 refine wpAny_bind (wpAny_callSpecial?_slot (name:=Str.ofString "__getitem__") ht.typeIs PyProof.Rows.slot_tuple_getitem
  (wpAny_call_entry PyProof.Rows.slot_tuple_getitem ht.typeIs entry_tuple_getitem ?_ (args_tuple_getitem _ _)))
 show wpAny _ _ (Builtin.Tuple.tupleItemsOf (.ref t) >>= _) _ _ s
 refine wpAny_bind (tupleItemsOf_ ht ?_)
 refine wpAny_bind (wpAny_typeOf IG ?_)
 rw [if_pos (by decide)]
 have ap:wpAny (model prog w) A.in1 (Builtin.Slice.sliceApplied (.ref sl) (pure (items.size:Int))) (fun p s' => s' = s ∧ p = ((items.size:Int) - 1,-1,items.size)) E s:=by
  unfold Builtin.Slice.sliceApplied Builtin.Slice.sliceFields
  refine wpAny_bind (wpAny_bind (wpAny_field yj B0 (x:=.none) rfl (wpAny_bind (wpAny_field yj B0 (x:=.none) rfl (wpAny_bind (wpAny_field yj B0 (x:=.int (-1) tk) rfl (wpAny_pure ?_)))))))
  refine wpAny_bind (jc (.int (-1) tk) ?_)
  show wpAny _ _ (if ((-1:Int) == 0) = true then _ else _) _ _ s
  rw [if_neg (by decide)]
  refine wpAny_bind (slicePart_none (wpAny_bind (slicePart_none (wpAny_bind (wpAny_pure ?_)))))
  show wpAny _ _ (match Builtin.Slice.sliceAdjust none none (-1) (items.size:Int) with | (lo,hi) => pure (lo,(-1:Int),Builtin.Slice.slicePlaces lo hi (-1))) _ _ s
  have e1:Builtin.Slice.sliceAdjust none none (-1) (items.size:Int) = ((items.size:Int) - 1,-1):=rfl
  rw [e1]
  have e2:Builtin.Slice.slicePlaces ((items.size:Int) - 1) (-1) (-1) = items.size:=by
   unfold Builtin.Slice.slicePlaces
   rw [if_neg (by decide)]
   by_cases z:(items.size:Int) - 1 > -1
   ·rw [if_pos z,show (- -1:Int) = 1 from rfl,Int.ediv_one]; lia
   ·rw [if_neg z]; lia
  show wpAny _ _ (pure ((items.size:Int) - 1,(-1:Int),Builtin.Slice.slicePlaces ((items.size:Int) - 1) (-1) (-1))) _ _ s
  rw [e2]
  exact wpAny_pure ⟨rfl,rfl⟩
 refine wpAny_bind (L2.cb ap fun p s' hp => ?_)
 obtain ⟨rfl,rfl⟩:=hp
 have FD:¬ ((((items.size:Int) - 1) == 0 && (-1:Int) == 1 && items.size == items.size) = true):=by simp
 show wpAny _ _ (if (((items.size:Int) - 1) == 0 && (-1:Int) == 1 && items.size == items.size) = true then _ else _) _ _ s'
 rw [if_neg FD]
 have pick:((List.range items.size).filterMap fun (m:Nat) => items[((items.size:Int) - 1 + (m:Int) * (-1)).toNat]?).toArray = items.toList.reverse.toArray:=by
  congr 1
  rw [filterMap_some (g:=fun m => items.toList.getD (items.size - 1 - m) .none) fun m hm => by
   have hm:=List.mem_range.mp hm
   have e:((items.size:Int) - 1 + (m:Int) * (-1)).toNat = items.size - 1 - m:=by lia
   rw [e,List.getD_eq_getElem?_getD,← Array.getElem?_toList]
   have hl:items.size - 1 - m < items.toList.length:=by rw [Array.length_toList]; lia
   rw [List.getElem?_eq_getElem hl]; rfl]
  apply List.ext_getElem
  ·rw [List.length_map,List.length_range,List.length_reverse,Array.length_toList]
  ·intro i h1 h2
   rw [List.getElem_map,List.getElem_range,List.getElem_reverse,List.getD_eq_getElem?_getD]
   have hl:items.size - 1 - i < items.toList.length:=by
    rw [List.length_map,List.length_range] at h1
    rw [Array.length_toList]; lia
   rw [List.getElem?_eq_getElem hl]
   rfl
 rw [pick]
 first
  | exact wpAny_bind (m:=Builtin.Tuple.tupleExact _) (wpAny_newObj_type (wpAny_pure ⟨_,rfl,wpAny_pure h⟩) jE)
  | exact wpAny_bind (m:=Builtin.Tuple.tupleExact _) (wpAny_newObj_type (wpAny_bind (wpAny_pure (wpAny_pure ⟨_,rfl,wpAny_pure h⟩))) jE)
  | exact wpAny_bind (wpAny_bind (m:=Builtin.Tuple.tupleExact _) (wpAny_newObj_type (wpAny_pure (wpAny_pure ⟨_,rfl,wpAny_pure h⟩)) jE))
  | exact wpAny_bind (wpAny_bind (m:=Builtin.Tuple.tupleExact _) (wpAny_newObj_type (wpAny_pure ⟨_,rfl,wpAny_pure h⟩) jE))
end
end HT
namespace L2
open PySem PySem.Spec PyProof.Rows
section
variable {X:Cx} {e es:Expr} {te:TE} {pos p2:Pos}
theorem DH:Bx X (fun x lo hi H Q => ∃ a xs,x = .ref a ∧ gp X.K H a xs ∧ (HT.cN xs.length 0 lo = 0 ∧ HT.cN xs.length xs.length hi = xs.length) ∧ Q (.ref a) H):=by
 intro pins s σ H x v vl vu lo hi sl Q I rx hs pl pu h
 obtain ⟨a,xs,rfl,hx,hw,q⟩:=h
 cases rx
 obtain ⟨aE,r,ht,hz⟩:=I.tuple hx
 have hlen:aE.toArray.size = xs.length:=by rw [List.size_toArray]; exact r.length.symm
 refine ⟨"tuple",_,PyProof.Rows.slot_tuple_getitem.lookup,ht.typeIs,?_⟩
 exact HT.iX ht hs pl pu (by rw [hlen]; exact hw) ⟨.ref a,H,I,rfl,q⟩
theorem Hf (he:PE X e te) (hs:∀ (pins:List (Addr × Obj)) (s:Shared) (σ:St) (H:Hp) (Q:Value → Shared → Prop),Inv X pins σ H s → (∀ tk s',Inv X pins σ H s' → Q (.int (-1) tk) s') → wpAny (model X.prog X.w) X.A (eval es X.env) Q X.xe s) :
  PE X (.Subscript e (.Slice none none (some es) p2) pos) (fun σ H Q => te σ H fun x H1 => ∃ a xs,x = .ref a ∧ gp X.K H1 a xs ∧ ∀ p,H1 p = none → Q (.ref p) (upd H1 p (.tup xs.reverse))):=by
 intro pins s σ H Q I h
 refine Subscript_ (cb (he pins s σ H _ I h) fun v s1 ⟨x,H1,I1,r1,q1⟩ => ?_)
 obtain ⟨a,xs,rfl,hx,q⟩:=q1
 cases r1
 refine wpAny_Slice ?_
 rw [evalPart_none]
 refine wpAny_pure ?_
 refine wpAny_pure ?_
 rw [evalPart_some]
 refine hs pins s1 σ H1 _ I1 fun tk s3 I3 => ?_
 have I4:Inv X pins σ H1 { s3 with heap:=s3.heap.push { cls:=.type "slice",data:=.fields #[.none,.none,.int (-1) tk] } }:=I3.kept (t':=s3.toks) fun b ob q => Heap.get?_push_of_some _ q
 show wpAny (model X.prog X.w) X.A (subscriptTail e (.Slice none none (some es) p2) (.ref a) (.ref s3.heap.objs.size)) (EP X pins σ Q) X.xe { s3 with heap:=s3.heap.push { cls:=.type "slice",data:=.fields #[.none,.none,.int (-1) tk] } }
 obtain ⟨aE,r,ht,hz⟩:=I4.tuple hx
 have hlen:aE.toArray.size = xs.length:=by rw [List.size_toArray]; exact r.length.symm
 refine tail_any (ops:=[.ref a,.ref s3.heap.objs.size]) ht.typeIs PyProof.Rows.slot_tuple_getitem.lookup ?_ (by with_unfolding_all rfl)
 refine HT.jY (tk:=tk) ht (Heap.IsSliceOf.new ..) ?_ (by rw [hlen]; exact hz)
 refine ⟨.ref _,_,I4.laid (t':=s3.toks) (o:=.tup xs.reverse) (fun b ob q => Heap.get?_push_of_some _ q) (Nat.le_refl _) ?_,rfl,q _ (I4.bz.fresh (Nat.le_refl _))⟩
 exact ⟨by rw [List.length_reverse]; exact hz,_,Vals.reverse r,IsTup.new _ _⟩
end
end L2
namespace MN
open PySem PySem.Spec L2
open PyProof.Rows hiding St
noncomputable def yr (lo hi:Option Int):Val → ai → Res Val
 | .tup us,st => if HT.cN us.length 0 lo = 0 ∧ HT.cN us.length us.length hi = us.length then .ok (.tup us) st else .ok (.tup (mI us lo hi)) st
 | .loc n,st => match itemsOf st n with
  | some us => .ok (.loc st.length) (st ++ [.lst (mI us lo hi)])
  | none => .bad
 | _,_ => .bad
noncomputable def hZ (a:ME) (lo hi:MO):ME:=fun μ st => (a μ st).bind fun x aX => (lo μ aX).bind fun l cg => (hi μ cg).bind fun h iY => yr l h x iY
noncomputable def NW:Val → ai → Res Val
 | .tup us,st => .ok (.tup us.reverse) st
 | _,_ => .bad
noncomputable def wA (a:ME):ME:=fun μ st => (a μ st).bind NW
section
variable {X:Cx} {E:XK} {pos p2 q1 q2:Pos} {e:Expr} {m:ME}
theorem oC {lo hi:Option Expr} {ml mh:MO} (he:PE X e (tE X E m)) (hl:PO X lo (Lq X E ml)) (hh:PO X hi (Lq X E mh)):PE X (.Subscript e (.Slice lo hi none p2) pos) (tE X E (hZ m ml mh)):=by
 refine PE.imp (yP (Bx.or (Bx.or B9 FE) DH) he hl hh) ?_
 rintro σ H Q ⟨μ,ρ,st,rs,sr,h⟩
 refine go μ ρ st rs sr h fun u aX ρ1 H1 x e1 bR r1 h1 => ?_
 refine go (R1:=RO) μ ρ1 aX (rs.mono e1) bR h1 fun l cg ρ2 H2 l' e2 mF r2 h2 => ?_
 cases r2
 refine go (R1:=RO) μ ρ2 cg ((rs.mono e1).mono e2) mF h2 fun k iY ρ3 H3 k' e3 xq r3 h3 => ?_
 cases r3
 have ru:=Rl.mono e3 _ _ (Rl.mono e2 _ _ r1)
 cases u with
 | tup us =>
  have UG:=ru
  obtain ⟨a,vs,rfl,ha,ra⟩:=ru.d3
  unfold yr at h3
  dsimp only at h3
  split at h3
  ·rename_i hz
   exact .inr ⟨a,vs,rfl,ha,by rw [← ra.length]; exact hz,h3 ρ3 _ _ (Step.refl _ _) xq UG⟩
  ·rename_i hz
   refine .inl (.inr ⟨a,vs,rfl,ha,by rw [← ra.length]; exact hz,fun p hp => ?_⟩)
   have s:=cD (o:=.tup (qx vs l k)) hp
   exact h3 ρ3 _ _ (Step.same s) (xq.grow s) (Rl.lS aZ (aN.mono (Step.same s) _ _ (ra.cut l k)))
 | loc n =>
  obtain ⟨a,rfl,ha⟩:=ru.dF
  cases z:itemsOf iY n with
  | none => simp only [yr,z] at h3; exact h3.elim
  | some us =>
   simp only [yr,z] at h3
   obtain ⟨vs,hs,rv⟩:=aR xq z ha
   refine .inl (.inl ⟨a,vs,rfl,hs,fun p hp => ?_⟩)
   obtain ⟨k1,k2,k3⟩:=fW xq (rv.cut l k) hp
   exact h3 _ _ _ k1 k2 k3
 | _ => exact h3.elim
theorem aN.rev {K:PySem.W.Frag} {ρ:List Addr} {H:Hp}:∀ {us:List Val} {vs:List V},aN K ρ H us vs → aN K ρ H us.reverse vs.reverse
 | [],vs,h => by have e:=h.dO; subst e; exact h
 | u :: us,vs,h => by
  obtain ⟨v,r',rfl,h2,h3⟩:=h.bM
  rw [List.reverse_cons,List.reverse_cons]
  exact (aN.rev h3).append (aN.one h2)
theorem DI {j:Nat} (he:PE X e (tE X E m)):PE X (.Subscript e (.Slice none none (some (.UnaryOp .USub (.Constant (.int 1) j q1) q2)) p2) pos) (tE X E (wA m)):=by
 refine PE.imp (Hf he ?_) ?_
 ·intro pins s σ H Q I h
  exact cb ((Iw Fq yB) pins s σ H (fun x H1 => x = .int (-1) ∧ H1 = H) I ⟨1,rfl,rfl,rfl⟩) fun u s1 ⟨x,H1,I1,r1,e1,e2⟩ => by
   subst e1 e2
   obtain ⟨t,rfl⟩:=r1
   exact h t s1 I1
 ·rintro σ H Q ⟨μ,ρ,st,rs,sr,h⟩
  refine go μ ρ st rs sr h fun u aX ρ1 H1 x e1 bR r1 h1 => ?_
  cases u with
  | tup us =>
   obtain ⟨a,vs,rfl,ha,ra⟩:=r1.d3
   refine ⟨a,vs,rfl,ha,fun p hp => ?_⟩
   have s:=cD (o:=.tup vs.reverse) hp
   exact h1 ρ1 _ _ (Step.same s) (bR.grow s) (Rl.lS aZ (aN.mono (Step.same s) _ _ (aN.rev ra)))
  | _ => exact h1.elim
end
end MN
namespace SO
open PySem PySem.W PyProof.Rows
section
variable {prog:Program} {w:World} {A:Around} {E:Value → Shared → Prop} {s:Shared} {t:Addr} {us:List Value} {ns:List Int}
theorem qd (ns:List Int):∀ k,preSum (fun i => ns.getD i 0) k = (ns.take k).sum
 | 0 => by rw [List.take_zero]; rfl
 | k + 1 => by
  show preSum (fun i => ns.getD i 0) k + ns.getD k 0 = _
  rw [qd ns k,List.take_succ,List.sum_append_int,List.getD_eq_getElem?_getD]
  cases ns[k]? with
  | none => simp
  | some x => simp
theorem DJ {Q:Value → Shared → Prop} (hh:A.handled = none) (ht:s.heap.IsTuple t us.toArray) (ia:IntsAre us ns)
  (h:∀ h' tk t',(∀ b o,s.heap.get? b = some o → h'.get? b = some o) → Q (.int ns.sum t') { s with heap:=h',toks:=tk }) :
  wpAny (model prog w) A (call (.builtin "sum") [.ref t]) Q E s:=by
 have sA:t < s.heap.objs.size:=by obtain ⟨_,e,_⟩:=id ht; exact Heap.lt_size e
 refine call_sum_walkG (wpAny_pyIter_tuple ht ?_)
 refine ⟨_,_,_,_,_,_,fun i => ns.getD i 0,rfl,Walks.tuple (A:=A.in1) hh _ t (Nat.ne_of_lt sA) us.toArray,⟨⟨_,Heap.get?_push_size _ rfl,rfl,rfl⟩,ht.push _⟩,fun b hb => ?_,fun i v hP => ?_,fun h' tk t' hk => ?_⟩
 ·show b < (s.heap.push _).objs.size
  rw [Heap.size_push]
  rcases List.mem_cons.mp hb with rfl | hb
  ·exact Nat.lt_succ_self _
  ·rcases List.mem_cons.mp hb with rfl | hb
   ·exact Nat.lt_succ_of_lt sA
   ·cases hb
 ·obtain ⟨n,t2,en,e⟩:=Dr ia (by rw [← List.getElem?_toArray]; exact hP)
  refine ⟨t2,?_⟩
  show v = Value.int (ns.getD i 0) t2
  rw [List.getD_eq_getElem?_getD,en]; exact e
 ·have e:preSum (fun i => ns.getD i 0) us.toArray.size = ns.sum:=by
   rw [qd,List.size_toArray,ia.length,List.take_of_length_le (Nat.le_refl _)]
  rw [e]
  refine h h' tk t' fun b o e => hk b o (fun hm => ?_) (Heap.get?_push_of_some _ e)
  rcases List.mem_cons.mp hm with e1 | hm
  ·exact absurd (Heap.lt_size e) (by rw [e1]; exact Nat.lt_irrefl _)
  ·cases hm
end
end SO
namespace L2
open PySem PySem.Spec PyProof.Rows
theorem xX {X:Cx} (hh:X.A.handled = none):bZ X (.builtin "sum") (fun xs H Q => ∃ (a:Addr) (ns:List Int),xs = [.ref a] ∧ gp X.K H a (ns.map V.int) ∧ Q (.int ns.sum) H):=by
 rintro pins s σ H xs ws Q I r ⟨a,ns,rfl,hs,q⟩
 obtain ⟨u,rfl,ru⟩:=Vals.one r
 cases ru
 obtain ⟨aE,r1,p1,_⟩:=I.tuple hs
 exact SO.DJ hh (by obtain ⟨o,h1,h2,n,h3⟩:=p1; exact ⟨o,h1,h2,n,h3⟩) (intsAre_of r1) fun h' tk t' hk => ⟨.int ns.sum,H,I.kept hk,⟨_,rfl⟩,q⟩
end L2
namespace MN
open PySem PySem.Spec L2
open PyProof.Rows hiding St
noncomputable def gj:FN
 | [.tup us],st => match dS us with
  | some ns => .ok (.int ns.sum) st
  | none => .bad
 | _,_ => .bad
theorem vf {ns:List Int} {st:ai}:gj [.tup (ns.map Val.int)] st = .ok (.int ns.sum) st:=by
 show (match dS (ns.map Val.int) with | some ns => Res.ok (Val.int ns.sum) st | none => .bad) = _
 rw [gG]
section
variable {X:Cx} {E:XK}
theorem gH (hh:X.A.handled = none):bZ X (.builtin "sum") (cM (wo X) E gj):=by
 refine bZ.imp (xX hh) ?_
 rintro xs H Q ⟨ρ,st,us,sr,r,h⟩
 unfold gj at h
 split at h
 ·rename_i ws
  split at h
  ·rename_i ns hn
   obtain ⟨v,rfl,r1⟩:=r.yo
   rw [gE hn] at r1
   obtain ⟨p,vs,rfl,hp,rp⟩:=r1.d3
   rw [aN.jW rp] at hp
   exact ⟨p,ns,rfl,hp,dA sr h⟩
  ·exact h.elim
 ·exact h.elim
end
section
variable {K:PySem.W.Frag} {ρ:List Addr} {H:Hp}
theorem A4 {n:Nat} (ih:∀ u w x,d_ n u = true → d_ n w = true → Rl K ρ H u x → Rl K ρ H w x → u = w):∀ us ws vs,cR n us = true → cR n ws = true → aN K ρ H us vs → aN K ρ H ws vs → us = ws
 | [],[],_,_,_,_,_ => rfl
 | [],w :: ws,vs,_,_,h1,h2 => by
  obtain ⟨v,r,e,_⟩:=h2.bM
  rw [h1.dO] at e; cases e
 | u :: us,[],vs,_,_,h1,h2 => by
  obtain ⟨v,r,e,_⟩:=h1.bM
  rw [h2.dO] at e; cases e
 | u :: us,w :: ws,vs,p1,p2,h1,h2 => by
  obtain ⟨v,r,rfl,a1,a2⟩:=h1.bM
  obtain ⟨v',r',e,b1,b2⟩:=h2.bM
  cases e
  have NX:(d_ n u && cR n us) = true:=by unfold cR at p1; exact p1
  have NY:(d_ n w && cR n ws) = true:=by unfold cR at p2; exact p2
  rw [Bool.and_eq_true] at NX NY
  rw [ih u w v NX.1 NY.1 a1 b1,A4 ih us ws r NX.2 NY.2 a2 b2]
theorem Hg:∀ (n:Nat) (u w:Val) (x:V),d_ n u = true → d_ n w = true → Rl K ρ H u x → Rl K ρ H w x → u = w:=by
 have kj:∀ (n:Nat) (u w:Val) (x:V),flat u = true → d_ n w = true → Rl K ρ H u x → Rl K ρ H w x → u = w:=by
  intro n u w x f p h1 h2
  cases u <;> (try cases f) <;> cases w <;> (try (cases n <;> cases p)) <;> first | (unfold Rl at h1 h2; subst h1; cases h2; rfl) | (unfold Rl at h1 h2; subst h1; cases h2; done) | (unfold Rl at h1; subst h1; obtain ⟨a,vs,e,_⟩:=h2.d3; cases e)
 have fl:∀ (n:Nat) (u:Val),d_ n u = true → flat u = true ∨ ∃ us k,u = .tup us ∧ n = k + 1 ∧ cR k us = true:=by
  intro n u p
  cases u with
  | tup us => cases n with
   | zero => cases p
   | succ k => exact .inr ⟨us,k,rfl,rfl,p⟩
  | _ => first | exact .inl rfl | (cases n <;> cases p)
 intro n
 induction n with
 | zero =>
  intro u w x p1 p2 h1 h2
  rcases fl 0 u p1 with f | ⟨us,k,_,e,_⟩
  ·exact kj 0 u w x f p2 h1 h2
  ·cases e
 | succ n ih =>
  intro u w x p1 p2 h1 h2
  rcases fl _ u p1 with f | ⟨us,k,rfl,e,q1⟩
  ·exact kj _ u w x f p2 h1 h2
  ·rcases fl _ w p2 with f | ⟨ws,k',rfl,e',q2⟩
   ·exact (kj _ w _ x f p1 h2 h1).symm
   ·cases e
    cases e'
    unfold Rl at h1 h2
    obtain ⟨a,vs,rfl,ha,r1⟩:=h1
    obtain ⟨a',uO,e,Eo,r2⟩:=h2
    cases e
    rw [ha] at Eo
    cases Eo
    rw [A4 ih us ws vs q1 q2 r1 r2]
end
noncomputable def Hh (neg:Bool):F2:=fun u w st => match w with
 | .loc n => match itemsOf st n with
  | some us => if d_ 14 u = true ∧ us.all (d_ 14) = true ∧ us.all (fun y => (fR 15 st y u).isSome) = true then .ok (.bl (if neg then !us.any (fun y => fR 15 st y u == some true) else us.any (fun y => fR 15 st y u == some true))) st else .bad
  | none => .bad
 | _ => .bad
section
variable {X:Cx} {E:XK}
theorem Hi {pins:List (Addr × Obj)} {s:Shared} {σ:St} {H:Hp} {ρ:List Addr} {st:ai} (hu:X.A.units + 64 < cLine) (I:Inv X pins σ H s) (sr:SR X.K ρ st H) {u:Val} {x:V} {v:Value} (hp:d_ 14 u = true) (r:Rl X.K ρ H u x) (rv:RelV x v) {us:List Val} {vs:List V} {aE:List Value} (rs:aN X.K ρ H us vs) (ri:Vals vs aE)
  (kl:us.all (d_ 14) = true) (hs:us.all (fun y => (fR 15 st y u).isSome) = true):∃ f:Value → Bool,(∀ y ∈ aE.toArray,SeqAt.EqAt X.A.in1 s y v (f y)) ∧ aE.toArray.any f = us.any (fun y => fR 15 st y u == some true):=by
 have hl:=rs.length
 have wY:=ri.length
 have at_:∀ (j:Nat) (w:Value),aE[j]? = some w → ∃ y z,us[j]? = some y ∧ Rl X.K ρ H y z ∧ RelV z w ∧ d_ 14 y = true ∧ (fR 15 st y u).isSome = true:=by
  intro j w hw
  have hj:j < aE.length:=(List.getElem?_eq_some_iff.mp hw).1
  obtain ⟨y,hy⟩:∃ y,us[j]? = some y:=⟨_,List.getElem?_eq_getElem (by lia)⟩
  obtain ⟨z,hz,rz⟩:=rs.get hy
  obtain ⟨w',RY,qD⟩:=ri.get hz
  rw [hw] at RY; cases RY
  have hm:=List.mem_of_getElem? hy
  exact ⟨y,z,hy,rz,qD,List.all_eq_true.mp kl y hm,List.all_eq_true.mp hs y hm⟩
 classical
 refine ⟨fun w => decide (∃ y z,y ∈ us ∧ Rl X.K ρ H y z ∧ RelV z w ∧ fR 15 st y u = some true),fun w hw => ?_,?_⟩
 ·obtain ⟨j,hj⟩:=List.getElem?_of_mem (show w ∈ aE by simpa using hw)
  obtain ⟨y,z,hy,rz,qD,py,Lv⟩:=at_ j w hj
  obtain ⟨b,hb⟩:=Option.isSome_iff_exists.mp Lv
  have key:=qR I sr 15 X.A.in1 (by rw [in1_units]; lia) y u z x w v b rz qD r rv hb
  dsimp only
  cases b with
  | true => rw [decide_eq_true ⟨y,z,List.mem_of_getElem? hy,rz,qD,hb⟩]; exact key
  | false =>
   rw [decide_eq_false]
   ·exact key
   ·rintro ⟨y',z',UH,UI,UJ,RZ⟩
    have ez:z' = z:=UJ.inj qD
    subst ez
    have ey:=Hg 14 y' y z' (List.all_eq_true.mp kl y' UH) py UI rz
    rw [ey,hb] at RZ
    cases RZ
 ·rw [Bool.eq_iff_iff]
  rw [List.any_eq_true]
  constructor
  ·intro h
   have h':aE.any (fun w => decide (∃ y z,y ∈ us ∧ Rl X.K ρ H y z ∧ RelV z w ∧ fR 15 st y u = some true)) = true:=by simpa using h
   obtain ⟨w,_,hw⟩:=List.any_eq_true.mp h'
   obtain ⟨y,z,hm,_,_,hb⟩:=of_decide_eq_true hw
   exact ⟨y,hm,by rw [hb]; rfl⟩
  ·rintro ⟨y,hm,hb⟩
   have hb:fR 15 st y u = some true:=eq_of_beq hb
   obtain ⟨j,hj⟩:=List.getElem?_of_mem hm
   obtain ⟨z,hz,rz⟩:=rs.get hj
   obtain ⟨w,hw,qD⟩:=ri.get hz
   have:aE.any (fun w => decide (∃ y z,y ∈ us ∧ Rl X.K ρ H y z ∧ RelV z w ∧ fR 15 st y u = some true)) = true:=List.any_eq_true.mpr ⟨w,List.mem_of_getElem? hw,decide_eq_true ⟨y,z,hm,rz,qD,hb⟩⟩
   simpa using this
theorem DK (hu:X.A.units + 64 < cLine) (neg:Bool):dz X (compareOp (if neg then .NotIn else .In)) (rM (wo X) E (Hh neg)):=by
 intro pins s σ H x y v u Q I rx ry h
 obtain ⟨ρ,st,u1,w1,sr,r1,r2,h⟩:=h
 unfold Hh at h
 cases w1 with
 | loc n =>
  dsimp only at h
  cases hi:itemsOf st n with
  | none => rw [hi] at h; exact h.elim
  | some us =>
   rw [hi] at h
   dsimp only at h
   split at h
   ·rename_i hz
    obtain ⟨a,rfl,ha⟩:=r2.dF
    cases ry
    obtain ⟨vs,hq,rv⟩:=aR sr hi ha
    obtain ⟨aE,ri,pl,_⟩:=I.list hq
    obtain ⟨f,hf,ef⟩:=Hi hu I sr hz.1 r1 rx rv ri hz.2.1 hz.2.2
    cases neg with
    | true => exact SeqAt.notIn_listAt f pl.isList hf ⟨.bl _,H,I,rfl,by rw [ef]; exact fL sr h⟩
    | false => exact SeqAt.in_listAt f pl.isList hf ⟨.bl _,H,I,rfl,by rw [ef]; exact fL sr h⟩
   ·exact h.elim
 | _ => exact h.elim
theorem xY (hu:X.A.units + 64 < cLine):dz X (compareOp .NotIn) (rM (wo X) E (Hh true)):=DK hu true
theorem Glob.strs {K:PySem.W.Frag} {mg:Str → Option Value} {x:Str} {a:Addr} {o:Obj} {aE:Array Value} {n:Nat} {ns:List Str} (h:mg x = some (.ref a)) (l:K.lookup a = some o) (hc:o.cls = .type "tuple") (hd:o.data = .seq aE n) (hz:aE.size ≤ sizeLine) (hv:Vals (ns.map V.str) aE.toList):Glob K mg x (.mt (ns.map .str)) :=
 ⟨_,.ref a,h,rfl,fun ρ H => Rl.Nh (.inr ⟨o,aE,n,l,hc,hd,hz,hv⟩) (by
  clear h l hc hd hz hv
  induction ns with
  | nil => exact aN.nil
  | cons s ns ih => exact aN.cons (Rl.mkStr s) ih)⟩
end
noncomputable def A5:List Stmt → Option Expr
 | [] => none
 | [.Return (some (.Call _ _ (⟨_,e,_⟩ :: _) _)) _] => some e
 | _ :: r => A5 r
end MN
namespace PM
open PySem PySem.Spec L2 MN
open PyProof.Rows hiding St
noncomputable def A6:Val:=.mt ((["lex","deg"]:List Str).map Val.str)
noncomputable def eG:FN:=iI 1 1 (bC (jH (vY "str" (ae 0)) (ah (Gq false) (ae 0) (mC PM.A6))))
noncomputable def cF:FN:=iI 2 2 (bC (Lh (b8 (ah dB (ae 0) (mC (.str "lex")))) (ae 1) (ah bS (d5 (aa (ao gj (aa (ae 1) ak)) ak)) (ae 1))))
noncomputable def eV:FN:=iI 2 2 (bC (ao xk (aa (bI 2 [] (iZ false false (aa (ae 0) (aa (ae 1) ak))) (qS [(aName 0),(aName 1)]) bE (ah Li (ae 0) (ae 1))) ak)))
noncomputable def iz:FN:=iI 2 2 (bC (ao il (aa (bI 2 [] (iZ false false (aa (ae 0) (aa (ae 1) ak))) (qS [(aName 0),(aName 1)]) bE (ao xw (aa (ae 0) (aa (ae 1) ak)))) ak)))
noncomputable def jZ:FN:=iI 2 2 (bC (ao il (aa (bI 2 [] (iZ false false (aa (ae 0) (aa (ae 1) ak))) (qS [(aName 0),(aName 1)]) bE (ah sN (ae 0) (ae 1))) ak)))
noncomputable def eJ:FN:=iI 2 2 (aK (gr (b8 (ah dB (ae 0) (mC (.int 0)))) (bC (ae 1)) bx) (bC (ah bG (ae 1) (ae 0))))
noncomputable def cG:FN:=iI 3 4 (aK (gr (lU (b8 (ah dB (ae 0) (mC (.str "deg")))) (b8 (ah lV (ao gj (aa (ae 1) ak)) (ao gj (aa (ae 2) ak))))) (bC (ah xW (ao gj (aa (ae 1) ak)) (ao gj (aa (ae 2) ak)))) bx) (aK (hU (bf (aa (ao gS (aa (ae 1) ak)) ak)) (aName 3) (gr (b8 (ah lV (ah bK (ae 1) (ae 3)) (ah bK (ae 2) (ae 3)))) (bC (ah xW (ah bK (ae 1) (ae 3)) (ah bK (ae 2) (ae 3)))) bx)) (bC (mC (.bl false)))))
noncomputable def aQ:FN:=iI 1 1 (gr (d4 (b8 (ao PM.eG (aa (ae 0) ak)))) (jg "NoOrder" (aa (mC (.str "an order is lex or deg")) ak)) bx)
noncomputable def ck:FN:=iI 2 6 (aK (aL 2 nQ) (aK (hU (fT (ae 1)) (aName 3) (nR (ae 2) (ah bK (ae 3) (mC (.int 0))) (ah bS (kL (ae 2) (ah bK (ae 3) (mC (.int 0))) (mC (.int 0))) (ah bK (ae 3) (mC (.int 1)))))) (aK (aL 4 (dG ak)) (aK (hU (fT (k_ (ae 2))) (aName 5) (gr (b8 (ah lV (ao PM.eJ (aa (ae 0) (aa (ah ip (ae 2) (ae 5)) ak))) (mC (.int 0)))) (dr (mH c_ (ae 4) (aa (d5 (aa (ae 5) (aa (ao PM.eJ (aa (ae 0) (aa (ah ip (ae 2) (ae 5)) ak))) ak))) ak))) bx)) (bC (ae 4))))))
noncomputable def dY:FN:=iI 2 2 (bC (jH (vY "tuple" (ae 0)) (jH (ah dB (bI 1 [] (fT (ae 0)) (aName 0) (d4 (b8 (ao PM.eQ (aa (ae 0) ak)))) (ae 0)) (dG ak)) (ah dB (ae 0) (ae 1)))))
noncomputable def fj:FN:=iI 3 3 (aK (dr (ao PM.aQ (aa (ae 0) ak))) (bC (ah xW (ao PM.cF (aa (ae 0) (aa (ae 1) ak))) (ao PM.cF (aa (ae 0) (aa (ae 2) ak))))))
noncomputable def dZ:ME:=(ao PM.cF (aa (ae 1) (aa (ah bK (ae 0) (mC (.int 0))) ak)))
noncomputable def lead (M:cQ):FN:=iI 2 2 (aK (dr (ao PM.aQ (aa (ae 0) ak))) (aK (gr (b8 (ah dB (ao gS (aa (ae 1) ak)) (mC (.int 0)))) (jg "NoLead" (aa (mC (.str "nought has no highest term")) ak)) bx) (bC (qc M 0 PM.dZ (ae 1)))))
end PM
namespace PG
open PySem PySem.Spec L2 MN
open PyProof.Rows hiding St kindOf
noncomputable def aU (d:Bool):Str:=if d then "deg" else "lex"
noncomputable def stK (d:Bool) (k:List Int):List Int:=if d then k.sum :: k else k
theorem rB {d:Bool} {k:List Int} (h:k ≠ []):stK d k ≠ []:=by
 cases d
 ·exact h
 ·exact fun z => by cases z
theorem DM:(("lex":Str) == "lex") = true:=by decide +kernel
theorem DN:(("deg":Str) == "lex") = false:=by decide +kernel
theorem DO:(("deg":Str) == "deg") = true:=by decide +kernel
theorem DP:(("lex":Str) == "deg") = false:=by decide +kernel
theorem iA (d:Bool) {k:List Int} (hk:k.length ≤ 100) (st:ai):PM.cF [.str (aU d),tupI k] st = .ok (tupI (stK d k)) st:=by
 have v0:ae 0 [some (.str (aU d)),some (tupI k)] st = .ok (.str (aU d)) st:=rfl
 have t:b8 (ah dB (ae 0) (mC (.str "lex"))) [some (.str (aU d)),some (tupI k)] st = .ok (aU d == "lex") st:=by
  refine bA ?_
  rw [aC (x:=.str (aU d)) (y:=.str "lex") (s1:=st) (s2:=st) rfl rfl,wd]
 unfold PM.cF
 rw [cf (np:=2) (us:=[Val.str (aU d),tupI k]) rfl]
 show (bC (Lh (b8 (ah dB (ae 0) (mC (.str "lex")))) (ae 1) (ah bS (d5 (aa (ao gj (aa (ae 1) ak)) ak)) (ae 1))) [some (.str (aU d)),some (tupI k)] st).fin = _
 cases d with
 | false =>
  rw [show (aU false == "lex") = true from DM] at t
  rw [bN,Et,t,aA,C5]
  rfl
 | true =>
  rw [show (aU true == "lex") = false from DN] at t
  have s:ao gj (aa (ae 1) ak) [some (.str (aU true)),some (tupI k)] st = .ok (.int k.sum) st:=by
   rw [call_of (eB (v:=tupI k) (s1:=st) rfl)]; exact vf
  have a:ah bS (d5 (aa (ao gj (aa (ae 1) ak)) ak)) (ae 1) [some (.str (aU true)),some (tupI k)] st = .ok (tupI (k.sum :: k)) st:=by
   rw [aC (x:=tupI [k.sum]) (y:=tupI k) (s1:=st) (s2:=st) (oy (eB s) (by show 1 ≤ 1000; decide)) rfl,AN (by show 1 + k.length ≤ 1000000; lia)]
   rfl
  rw [bN,Et,t,aA,C6,a]
  rfl
theorem tR (d:Bool) (st:ai):PM.eG [.str (aU d)] st = .ok (.bl true) st:=by
 cases d <;> rfl
theorem fN (d:Bool) (st:ai):PM.aQ [.str (aU d)] st = .ok .da st:=by
 unfold PM.aQ
 rw [cf (np:=1) (us:=[Val.str (aU d)]) rfl]
 show (gr (d4 (b8 (ao PM.eG (aa (ae 0) ak)))) _ bx [some (.str (aU d))] st).fin = _
 rw [ff (tN (bA (by rw [call_of (eB (v:=.str (aU d)) (s1:=st) rfl),tR])))]
 rfl
structure LJ (v:Val):Prop where
 no:∀ st,PM.eG [v] st = .ok (.bl false) st
 px:xj v = false
theorem iB {v:Val} (h:LJ v) (st:ai):PM.aQ [v] st = .err "NoOrder" st:=by
 unfold PM.aQ
 rw [cf (np:=1) (us:=[v]) rfl]
 show (gr (d4 (b8 (ao PM.eG (aa (ae 0) ak)))) (jg "NoOrder" (aa (mC (.str "an order is lex or deg")) ak)) bx [some v] st).fin = _
 have t:b8 (ao PM.eG (aa (ae 0) ak)) [some v] st = .ok false st:=bA (by rw [call_of (eB (v:=v) (s1:=st) (kQ rfl h.px)),h.no])
 have t2:d4 (b8 (ao PM.eG (aa (ae 0) ak))) [some v] st = .ok true st:=by rw [wb,t]; rfl
 rw [fi t2,sZ,eB (v:=.str "an order is lex or deg") (s1:=st) rfl,aV,wc,if_pos (by rw [sizeLine_eq]; show 1 ≤ 16777216; decide)]
 rfl
noncomputable def j4:List Val:=[.str "",.str "Lex",.str "degree",.str "le",.da,.int 0,.bl true,.tup [.str "lex"]]
theorem DQ:∀ v ∈ j4,LJ v:=by
 intro v hv
 rcases List.mem_cons.mp hv with rfl | hv
 ·exact ⟨fun _ => rfl,rfl⟩
 rcases List.mem_cons.mp hv with rfl | hv
 ·exact ⟨fun _ => rfl,rfl⟩
 rcases List.mem_cons.mp hv with rfl | hv
 ·exact ⟨fun _ => rfl,rfl⟩
 rcases List.mem_cons.mp hv with rfl | hv
 ·exact ⟨fun _ => rfl,rfl⟩
 rcases List.mem_cons.mp hv with rfl | hv
 ·exact ⟨fun _ => rfl,rfl⟩
 rcases List.mem_cons.mp hv with rfl | hv
 ·exact ⟨fun _ => rfl,rfl⟩
 rcases List.mem_cons.mp hv with rfl | hv
 ·exact ⟨fun _ => rfl,rfl⟩
 rcases List.mem_cons.mp hv with rfl | hv
 ·exact ⟨fun _ => rfl,rfl⟩
 cases hv
theorem xZ (d:Bool) {a b:List Int} (ha:a ≠ []) (hb:b ≠ []) (la:a.length ≤ 100) (lb:b.length ≤ 100) (st:ai):PM.fj [.str (aU d),tupI a,tupI b] st = .ok (.bl (SO.lexLt (stK d b) (stK d a))) st:=by
 unfold PM.fj
 rw [cf (np:=3) (us:=[Val.str (aU d),tupI a,tupI b]) rfl]
 show (aK (dr (ao PM.aQ (aa (ae 0) ak))) (bC (ah xW (ao PM.cF (aa (ae 0) (aa (ae 1) ak))) (ao PM.cF (aa (ae 0) (aa (ae 2) ak))))) [some (.str (aU d)),some (tupI a),some (tupI b)] st).fin = _
 have c:ao PM.aQ (aa (ae 0) ak) [some (.str (aU d)),some (tupI a),some (tupI b)] st = .ok .da st:=by
  rw [call_of (eB (v:=.str (aU d)) (s1:=st) rfl),fN]
 have s1:ao PM.cF (aa (ae 0) (aa (ae 1) ak)) [some (.str (aU d)),some (tupI a),some (tupI b)] st = .ok (tupI (stK d a)) st:=by
  rw [call_of (dw (v:=.str (aU d)) (w:=tupI a) (s1:=st) (s2:=st) rfl rfl),iA d la]
 have s2:ao PM.cF (aa (ae 0) (aa (ae 2) ak)) [some (.str (aU d)),some (tupI a),some (tupI b)] st = .ok (tupI (stK d b)) st:=by
  rw [call_of (dw (v:=.str (aU d)) (w:=tupI b) (s1:=st) (s2:=st) rfl rfl),iA d lb]
 rw [az,d9,c,aV]
 show bU.fin (bU.cb (bU.nx _ st) _) = _
 rw [aH,bN,aC s1 s2,show xW (tupI (stK d a)) (tupI (stK d b)) st = .ok (.bl (SO.lexLt (stK d b) (stK d a))) st from G_ (rB ha) (rB hb),aV]
 rfl
theorem x9 {v:Val} (h:LJ v) (a b:List Int) (st:ai):PM.fj [v,tupI a,tupI b] st = .err "NoOrder" st:=by
 unfold PM.fj
 rw [cf (np:=3) (us:=[v,tupI a,tupI b]) rfl]
 show (aK (dr (ao PM.aQ (aa (ae 0) ak))) _ [some v,some (tupI a),some (tupI b)] st).fin = _
 have c:ao PM.aQ (aa (ae 0) ak) [some v,some (tupI a),some (tupI b)] st = .err "NoOrder" st:=by
  rw [call_of (eB (v:=v) (s1:=st) (kQ rfl h.px)),iB h]
 rw [az,d9,c]
 rfl
end PG
namespace PG
open PySem PySem.Spec L2 MN
open PyProof.Rows hiding St kindOf
theorem oD:∀ (a b:List Int) (j:Nat),a.length = b.length → (∀ i,i < j → a.getD i 0 = b.getD i 0) → SO.lexLt b a = SO.lexLt (b.drop j) (a.drop j)
 | a,b,0,_,_ => rfl
 | [],[],j + 1,_,_ => by simp
 | x :: a,y :: b,j + 1,h,hi => by
  have e:x = y:=hi 0 (Nat.succ_pos _)
  subst e
  show (if x = x then SO.lexLt b a else _) = SO.lexLt (b.drop j) (a.drop j)
  rw [if_pos rfl]
  exact oD a b j (by simpa using h) fun i hj => hi (i + 1) (by lia)
theorem Hj {a b:List Int} {j:Nat} (h:a.length = b.length) (hj:j < a.length) (hi:∀ i,i < j → a.getD i 0 = b.getD i 0) (hn:a.getD j 0 ≠ b.getD j 0):SO.lexLt b a = decide (a.getD j 0 > b.getD j 0):=by
 rw [oD a b j h hi,List.drop_eq_getElem_cons hj,List.drop_eq_getElem_cons (by lia:j < b.length)]
 have e1:a.getD j 0 = a[j]:=by rw [List.getD_eq_getElem?_getD,List.getElem?_eq_getElem hj]; rfl
 have e2:b.getD j 0 = b[j]:=by rw [List.getD_eq_getElem?_getD,List.getElem?_eq_getElem (by lia:j < b.length)]; rfl
 rw [e1,e2] at hn ⊢
 show (if b[j] = a[j] then _ else decide (b[j] < a[j])) = _
 rw [if_neg fun z => hn z.symm]
theorem DR {g:ai → Prop} {A:AS} {body:MB} {u:Val} {us:List Val} {μ μ1 μ2:MN.Env} {st cg:ai} (hg:g st) (ha:A u μ = some μ1) (hb:body μ1 st = .nx μ2 cg):forL g A body (u :: us) μ st = forL g A body us μ2 cg:=by
 conv => lhs; unfold forL
 rw [if_pos hg,ha]; dsimp only; rw [hb]
theorem DS {g:ai → Prop} {A:AS} {body:MB} {u v:Val} {us:List Val} {μ μ1:MN.Env} {st cg:ai} (hg:g st) (ha:A u μ = some μ1) (hb:body μ1 st = .rt v cg):forL g A body (u :: us) μ st = .rt v cg:=by
 conv => lhs; unfold forL
 rw [if_pos hg,ha]; dsimp only; rw [hb]
noncomputable abbrev Hk:MB:=gr (b8 (ah lV (ah bK (ae 1) (ae 3)) (ah bK (ae 2) (ae 3)))) (bC (ah xW (ah bK (ae 1) (ae 3)) (ah bK (ae 2) (ae 3)))) bx
theorem wB {x0:Option Val} {a b:List Int} (h:a.length = b.length) (st:ai):∀ (n j:Nat) (x3:Option Val),j + n = a.length → (∀ i,i < j → a.getD i 0 = b.getD i 0) →
  (forL (fun _ => True) (aName 3) Hk (a_ (j:Int) n) [x0,some (tupI a),some (tupI b),x3] st = .rt (.bl (SO.lexLt b a)) st) ∨
  (SO.lexLt b a = false ∧ ∃ y3,forL (fun _ => True) (aName 3) Hk (a_ (j:Int) n) [x0,some (tupI a),some (tupI b),x3] st = .nx [x0,some (tupI a),some (tupI b),y3] st)
 | 0,j,x3,hj,hi => by
  refine .inr ⟨?_,x3,?_⟩
  ·rw [oD a b j h hi,List.drop_eq_nil_of_le (by lia),List.drop_eq_nil_of_le (by lia)]; rfl
  ·show forL _ _ _ [] _ _ = _
   unfold forL
   rw [if_pos trivial]
 | n + 1,j,x3,hj,hi => by
  have er:a_ (j:Int) (n + 1) = .int (j:Int) :: a_ ((j + 1:Nat):Int) n:=by
   unfold a_
   rw [List.range_succ_eq_map,List.map_cons,List.map_map,show (j:Int) + ((0:Nat):Int) = (j:Int) by lia]
   refine congrArg _ (List.map_congr_left fun i _ => ?_)
   show Val.int ((j:Int) + ((i + 1:Nat):Int)) = Val.int (((j + 1:Nat):Int) + (i:Int))
   exact congrArg _ (by lia)
  have i1:ah bK (ae 1) (ae 3) [x0,some (tupI a),some (tupI b),some (.int (j:Int))] st = .ok (.int (a.getD j 0)) st:=by
   rw [aC (x:=tupI a) (y:=.int (j:Int)) (s1:=st) (s2:=st) rfl rfl,pf (by lia)]
  have i2:ah bK (ae 2) (ae 3) [x0,some (tupI a),some (tupI b),some (.int (j:Int))] st = .ok (.int (b.getD j 0)) st:=by
   rw [aC (x:=tupI b) (y:=.int (j:Int)) (s1:=st) (s2:=st) rfl rfl,pf (by lia)]
  have t:b8 (ah lV (ah bK (ae 1) (ae 3)) (ah bK (ae 2) (ae 3))) [x0,some (tupI a),some (tupI b),some (.int (j:Int))] st = .ok (!(a.getD j 0 == b.getD j 0)) st:=bA (by rw [aC i1 i2,Ad])
  rw [er]
  by_cases e:a.getD j 0 = b.getD j 0
  ·rw [beq_iff_eq.mpr e] at t
   have bd:Hk [x0,some (tupI a),some (tupI b),some (.int (j:Int))] st = .nx [x0,some (tupI a),some (tupI b),some (.int (j:Int))] st:=ff t
   rw [DR (μ1:=[x0,some (tupI a),some (tupI b),some (.int (j:Int))]) trivial rfl bd]
   exact wB h st n (j + 1) _ (by lia) fun i yZ => by
    rcases Nat.lt_or_ge i j with q | q
    ·exact hi i q
    ·have:i = j:=by lia
     rw [this]; exact e
  ·rw [beq_eq_false_iff_ne.mpr e] at t
   have bd:Hk [x0,some (tupI a),some (tupI b),some (.int (j:Int))] st = .rt (.bl (SO.lexLt b a)) st:=by
    unfold Hk
    rw [fi t,bN,aC i1 i2,ve,aV,Hj h (by lia) hi e]
    rfl
   exact .inl (DS (μ1:=[x0,some (tupI a),some (tupI b),some (.int (j:Int))]) trivial rfl bd)
theorem j5 (d:Bool) {a b:List Int} (h:a.length = b.length) (hl:a.length ≤ 100) (st:ai):PM.cG [.str (aU d),tupI a,tupI b] st = .ok (.bl (SO.lexLt (stK d b) (stK d a))) st:=by
 obtain ⟨μ,hμ⟩:∃ μ:MN.Env,μ = [some (.str (aU d)),some (tupI a),some (tupI b),none]:=⟨_,rfl⟩
 have sa:ao gj (aa (ae 1) ak) μ st = .ok (.int a.sum) st:=by
  rw [call_of (eB (v:=tupI a) (s1:=st) (by rw [hμ]; rfl))]; exact vf
 have sb:ao gj (aa (ae 2) ak) μ st = .ok (.int b.sum) st:=by
  rw [call_of (eB (v:=tupI b) (s1:=st) (by rw [hμ]; rfl))]; exact vf
 have t1:b8 (ah dB (ae 0) (mC (.str "deg"))) μ st = .ok d st:=by
  refine bA ?_
  rw [aC (x:=.str (aU d)) (y:=.str "deg") (s1:=st) (s2:=st) (by rw [hμ]; rfl) rfl,wd]
  cases d
  ·rw [show (aU false == "deg") = false from DP]
  ·rw [show (aU true == "deg") = true from DO]
 have t2:b8 (ah lV (ao gj (aa (ae 1) ak)) (ao gj (aa (ae 2) ak))) μ st = .ok (!(a.sum == b.sum)) st:=bA (by rw [aC sa sb,Ad])
 have t:lU (b8 (ah dB (ae 0) (mC (.str "deg")))) (b8 (ah lV (ao gj (aa (ae 1) ak)) (ao gj (aa (ae 2) ak)))) μ st = .ok (d && !(a.sum == b.sum)) st:=by
  rw [wa,t1,aA]
  cases d
  ·rw [sV]; rfl
  ·rw [sU,t2]; rfl
 unfold PM.cG
 rw [cf (np:=3) (us:=[Val.str (aU d),tupI a,tupI b]) rfl]
 show (aK (gr (lU (b8 (ah dB (ae 0) (mC (.str "deg")))) (b8 (ah lV (ao gj (aa (ae 1) ak)) (ao gj (aa (ae 2) ak))))) (bC (ah xW (ao gj (aa (ae 1) ak)) (ao gj (aa (ae 2) ak)))) bx) (aK (hU (bf (aa (ao gS (aa (ae 1) ak)) ak)) (aName 3) Hk) (bC (mC (.bl false)))) [some (.str (aU d)),some (tupI a),some (tupI b),none] st).fin = _
 rw [← hμ]
 have len:ao gS (aa (ae 1) ak) μ st = .ok (.int (a.length:Int)) st:=by
  rw [call_of (eB (v:=tupI a) (s1:=st) (by rw [hμ]; rfl))]
  show gS [.tup (a.map Val.int)] st = _
  rw [C_,List.length_map]
 have rest:SO.lexLt (stK d b) (stK d a) = SO.lexLt b a → (aK (hU (bf (aa (ao gS (aa (ae 1) ak)) ak)) (aName 3) Hk) (bC (mC (.bl false))) μ st).fin = .ok (.bl (SO.lexLt (stK d b) (stK d a))) st:=by
  intro e
  rw [e,az,jm,oz (eB len) (by lia) (by lia),aV,oh,Int.toNat_natCast,hμ]
  rcases wB (x0:=some (.str (aU d))) h st a.length 0 none (by lia) (fun i hi => absurd hi (Nat.not_lt_zero _)) with q | ⟨q,y3,q2⟩
  ·rw [show ((0:Nat):Int) = 0 from rfl] at q
   rw [q]; rfl
  ·rw [show ((0:Nat):Int) = 0 from rfl] at q2
   rw [q2,q]; rfl
 cases d with
 | false =>
  rw [az,ff t,aH]
  exact rest rfl
 | true =>
  have dl:SO.lexLt (stK true b) (stK true a) = (if b.sum = a.sum then SO.lexLt b a else decide (b.sum < a.sum)):=rfl
  by_cases e:a.sum = b.sum
  ·rw [beq_iff_eq.mpr e] at t
   rw [az,ff t,aH]
   exact rest (by rw [dl,if_pos e.symm])
  ·rw [beq_eq_false_iff_ne.mpr e] at t
   rw [az,fi t,bN,aC sa sb,ve,aV,dl,if_neg fun z => e z.symm]
   rfl
end PG
namespace PG
open PySem PySem.Spec L2 MN
open PyProof.Rows hiding St kindOf
noncomputable def pA:Val → Int × Int
 | .tup [.int i,.int j] => (i,j)
 | _ => (0,0)
theorem wC {e:ME} {g:Int → Int → Val} {a b:List Int} {s:ai} (ha:a.length ≤ 100) (he:∀ i j,e [some (.int i),some (.int j)] s = .ok (g i j) s) :
  bI 2 [] (iZ false false (aa (ae 0) (aa (ae 1) ak))) (qS [(aName 0),(aName 1)]) bE e [some (tupI a),some (tupI b)] s = .ok (.loc s.length) (s ++ [.lst ((a.zip b).map fun p => g p.1 p.2)]):=by
 have cp:=dJ (a:=qS [aName 0,aName 1]) (c:=bE) (e:=e) (g:=fun _ => True ∧ True) (st:=s) ⟨trivial,trivial⟩ (fun τ => ∃ x y,τ = [x,y]) (fun _ => true) (fun v => g (pA v).1 (pA v).2) (jL (a.map Val.int) (b.map Val.int)) [none,none] [] ⟨_,_,rfl⟩ (by
  rintro u hu τ ⟨x,y,rfl⟩
  rw [jX] at hu
  obtain ⟨p,hp,rfl⟩:=List.mem_map.mp hu
  exact ⟨[some (.int p.1),some (.int p.2)],rfl,⟨_,_,rfl⟩,rfl,fun _ => he p.1 p.2⟩)
 have e2:((jL (a.map Val.int) (b.map Val.int)).filter fun _ => true).map (fun v => g (pA v).1 (pA v).2) = (a.zip b).map fun p => g p.1 p.2:=by
  rw [List.filter_eq_self.mpr fun _ _ => rfl,jX,List.map_map]; rfl
 rw [e2,List.nil_append] at cp
 have zl:(jL (a.map Val.int) (b.map Val.int)).length ≤ sizeLine:=by
  rw [jX,List.length_map,List.length_zip,sizeLine_eq]; lia
 rw [iL,GI,dw (v:=tupI a) (w:=tupI b) (s1:=s) (s2:=s) rfl rfl,aA]
 show (GH false false [.tup (a.map Val.int),.tup (b.map Val.int)] s).i6 _ = _
 rw [C9,aA,kP,if_pos zl]
 show (d6 _ _ _ _ _ [none,none] s []).i6 Aa = _
 rw [cp,aA,p6]
noncomputable def j6 (f:Int → Int → Int) (a b:List Int):List Int:=(a.zip b).map fun p => f p.1 p.2
theorem Kk {F:FN} {e:ME} {f:Int → Int → Int} {a b:List Int} {s:ai} (hF:F = iI 2 2 (bC (ao il (aa (bI 2 [] (iZ false false (aa (ae 0) (aa (ae 1) ak))) (qS [(aName 0),(aName 1)]) bE e) ak)))) (ha:a.length ≤ 100) (he:∀ i j,e [some (.int i),some (.int j)] s = .ok (.int (f i j)) s) :
  ∃ g,F [tupI a,tupI b] s = .ok (tupI (j6 f a b)) (s ++ g):=by
 refine ⟨[.lst ((a.zip b).map fun p => Val.int (f p.1 p.2))],?_⟩
 rw [hF,cf (np:=2) (us:=[tupI a,tupI b]) rfl]
 show (bC (ao il (aa (bI 2 [] (iZ false false (aa (ae 0) (aa (ae 1) ak))) (qS [(aName 0),(aName 1)]) bE e) ak)) [some (tupI a),some (tupI b)] s).fin = _
 rw [bN,call_of (eB (wC (g:=fun i j => .int (f i j)) ha he)),q_ (ba s _),aV]
 show Res.ok (Val.tup _) _ = _
 unfold j6 tupI
 rw [List.map_map]
 rfl
noncomputable def NZ (i j:Int):Int:=if j > i then j else i
theorem A7 {a b:List Int} (ha:a.length ≤ 100) (s:ai):∃ g,PM.iz [tupI a,tupI b] s = .ok (tupI (j6 NZ a b)) (s ++ g):=Kk rfl ha fun i j => by
 rw [call_of (dw (v:=.int i) (w:=.int j) (s1:=s) (s2:=s) rfl rfl)]; rfl
theorem DT {a b:List Int} (ha:a.length ≤ 100) (s:ai):∃ g,PM.jZ [tupI a,tupI b] s = .ok (tupI (j6 (· - ·) a b)) (s ++ g):=Kk rfl ha fun i j => rfl
theorem tU {α:Type} (f:α → Bool):∀ l:List α,lW (l.map fun p => Val.bl (f p)) = some (l.map f)
 | [] => rfl
 | p :: l => by show (lW (l.map fun p => Val.bl (f p))).map (f p :: ·) = _; rw [tU f l]; rfl
theorem vg {a b:List Int} (ha:a.length ≤ 100) (s:ai):∃ g,PM.eV [tupI a,tupI b] s = .ok (.bl ((a.zip b).all fun p => decide (p.1 ≤ p.2))) (s ++ g):=by
 refine ⟨[.lst ((a.zip b).map fun p => Val.bl (decide (p.1 ≤ p.2)))],?_⟩
 unfold PM.eV
 rw [cf (np:=2) (us:=[tupI a,tupI b]) rfl]
 show (bC (ao xk (aa (bI 2 [] (iZ false false (aa (ae 0) (aa (ae 1) ak))) (qS [(aName 0),(aName 1)]) bE (ah Li (ae 0) (ae 1))) ak)) [some (tupI a),some (tupI b)] s).fin = _
 have c:=wC (e:=ah Li (ae 0) (ae 1)) (g:=fun i j => .bl (decide (i ≤ j))) (a:=a) (b:=b) (s:=s) ha fun i j => rfl
 have al:xk [.loc s.length] (s ++ [.lst ((a.zip b).map fun p => Val.bl (decide (p.1 ≤ p.2)))]) = .ok (.bl ((a.zip b).all fun p => decide (p.1 ≤ p.2))) (s ++ [.lst ((a.zip b).map fun p => Val.bl (decide (p.1 ≤ p.2)))]):=by
  unfold xk
  dsimp only
  rw [ba s _]
  dsimp only
  rw [tU (fun p:Int × Int => decide (p.1 ≤ p.2))]
  dsimp only
  rw [List.all_map]; rfl
 rw [bN,call_of (eB c),al,aV]
 rfl
theorem A8 {e:ME} {t:MT} {μ:MN.Env} {s:ai} {n:Nat} {caps:List Nat} {m:ME} {c1 c2:Option Val} (g:Nat → Val) (q:Nat → Bool) (hm:m μ s = .ok (.int (n:Int)) s) (hn:n ≤ 100) (hc:mG 1 caps μ = [none,c1,c2]) (ht:∀ i,i < n → t [some (.int (i:Int)),c1,c2] s = .ok (q i) s) (he:∀ i,i < n → q i = true → e [some (.int (i:Int)),c1,c2] s = .ok (g i) s) :
  bI 1 caps (bf (aa m ak)) (aName 0) t e μ s = .ok (.loc s.length) (s ++ [.lst (((List.range n).filter q).map g)]):=by
 have cp:=dJ (a:=aName 0) (c:=t) (e:=e) (g:=fun _ => True) (st:=s) trivial (fun τ => ∃ x,τ = [x,c1,c2]) (fun v => q (natOf v)) (fun v => g (natOf v)) (a_ 0 n) [none,c1,c2] [] ⟨_,rfl⟩ (by
  rintro v hv τ ⟨x,rfl⟩
  obtain ⟨i,UK⟩:=List.getElem?_of_mem hv
  obtain ⟨hi,rfl⟩:=EG UK
  rw [Int.zero_add]
  exact ⟨[some (.int (i:Int)),c1,c2],rfl,⟨_,rfl⟩,ht i hi,fun h => he i hi h⟩)
 have e2:((a_ 0 n).filter fun v => q (natOf v)).map (fun v => g (natOf v)) = ((List.range n).filter q).map g:=by
  have:a_ 0 n = (List.range n).map fun i:Nat => Val.int (i:Int):=by
   unfold a_
   exact List.map_congr_left fun (i:Nat) _ => by rw [Int.zero_add]
  rw [this,List.filter_map,List.map_map]; rfl
 rw [e2,List.nil_append] at cp
 rw [iL,oz (eB hm) (by lia) (by lia),aA,Int.toNat_natCast,kP,if_pos (by rw [AZ,sizeLine_eq]; lia),hc,cp,aA,p6]
theorem A9 (f:Int → Int → Int):∀ (a b:List Int),a.length = b.length → (List.range a.length).map (fun i => f (a.getD i 0) (b.getD i 0)) = j6 f a b
 | [],[],_ => rfl
 | x :: a,y :: b,h => by
  have ih:=A9 f a b (by simpa using h)
  rw [List.length_cons,List.range_succ_eq_map,List.map_cons,List.map_map]
  show _ = f x y :: j6 f a b
  rw [← ih]; rfl
theorem oE {f:Int → Int → Int} {a b:List Int} (h:a.length = b.length):(j6 f a b).length = a.length:=by
 unfold j6; rw [List.length_map,List.length_zip,h,Nat.min_self]
theorem vh {e:ME} {μ:MN.Env} {s:ai} {a b:List Int} {caps:List Nat} {m:ME} {c1 c2:Option Val} (f:Int → Int → Int) (UL:a.length = b.length) (hm:m μ s = .ok (.int (a.length:Int)) s) (hn:a.length ≤ 100) (hc:mG 1 caps μ = [none,c1,c2]) (he:∀ i,i < a.length → e [some (.int (i:Int)),c1,c2] s = .ok (.int (f (a.getD i 0) (b.getD i 0))) s) :
  ao il (aa (bI 1 caps (bf (aa m ak)) (aName 0) bE e) ak) μ s = .ok (tupI (j6 f a b)) (s ++ [.lst ((j6 f a b).map Val.int)]):=by
 have c:=A8 (t:=bE) (e:=e) (fun i => .int (f (a.getD i 0) (b.getD i 0))) (fun _ => true) hm hn hc (fun _ _ => rfl) (fun i hi _ => he i hi)
 have e2:((List.range a.length).filter fun _ => true).map (fun i => Val.int (f (a.getD i 0) (b.getD i 0))) = (j6 f a b).map Val.int:=by
  rw [List.filter_eq_self.mpr fun _ _ => rfl,← A9 f a b UL,List.map_map]; rfl
 rw [e2] at c
 rw [call_of (eB c),q_ (ba s _)]
 rfl
theorem A_:∀ (a b:List Int),a.length = b.length → ((List.range a.length).filter fun i => decide (a.getD i 0 > b.getD i 0)).isEmpty = (a.zip b).all fun p => decide (p.1 ≤ p.2)
 | [],[],_ => rfl
 | x :: a,y :: b,h => by
  have ih:=A_ a b (by simpa using h)
  rw [List.length_cons,List.range_succ_eq_map,List.filter_cons,List.filter_map,List.zip_cons_cons,List.all_cons,← ih]
  have e0:decide ((x :: a).getD 0 0 > (y :: b).getD 0 0) = !decide (x ≤ y):=by
   show decide (x > y) = _
   by_cases q:x ≤ y
   ·rw [decide_eq_true q,decide_eq_false (by lia)]; rfl
   ·rw [decide_eq_false q,decide_eq_true (by lia)]; rfl
  rw [e0]
  cases decide (x ≤ y) with
  | true =>
   show (List.map Nat.succ _).isEmpty = (true && _)
   rw [Bool.true_and]
   have:((fun i => decide ((x :: a).getD i 0 > (y :: b).getD i 0)) ∘ Nat.succ) = fun i => decide (a.getD i 0 > b.getD i 0):=rfl
   rw [this,List.isEmpty_map]
  | false => rfl
theorem j7 {a:List Int} (ha:a.length ≤ 100) (s:ai):∃ g,PM.dY [tupI a,tupI a] s = .ok (.bl true) (s ++ g):=by
 have cp:=dJ (a:=aName 0) (c:=d4 (b8 (ao PM.eQ (aa (ae 0) ak)))) (e:=ae 0) (g:=fun _ => True) (st:=s) trivial (fun τ => ∃ x,τ = [x]) (fun _ => false) (fun v => v) (a.map Val.int) [none] [] ⟨_,rfl⟩ (by
  rintro v hv τ ⟨x,rfl⟩
  obtain ⟨i,_,rfl⟩:=List.mem_map.mp hv
  exact ⟨[some (.int i)],rfl,⟨_,rfl⟩,rfl,fun h => by cases h⟩)
 have e2:((a.map Val.int).filter fun _ => false).map (fun v => v) = []:=by
  rw [List.filter_eq_nil_iff.mpr (fun _ _ => Bool.false_ne_true)]; rfl
 rw [e2,List.append_nil] at cp
 have c:bI 1 [] (fT (ae 0)) (aName 0) (d4 (b8 (ao PM.eQ (aa (ae 0) ak)))) (ae 0) [some (tupI a),some (tupI a)] s = .ok (.loc s.length) (s ++ [.lst []]):=by
  rw [iL,jR,show ae 0 [some (tupI a),some (tupI a)] s = .ok (.tup (a.map Val.int)) s from rfl,aA,xB,aA,kP,if_pos (by rw [List.length_map,sizeLine_eq]; lia)]
  show (d6 _ _ _ _ _ [none] s []).i6 Aa = _
  rw [cp,aA,p6]
 have e1:ah dB (bI 1 [] (fT (ae 0)) (aName 0) (d4 (b8 (ao PM.eQ (aa (ae 0) ak)))) (ae 0)) (dG ak) [some (tupI a),some (tupI a)] s = .ok (.bl true) (s ++ [.lst []] ++ [.lst []]):=by
  rw [aC c (gW (vs:=[]) rfl (by decide)),eq_nil (aP (ba s []) _) (ba _ [])]; rfl
 have e3:∀ st,ah dB (ae 0) (ae 1) [some (tupI a),some (tupI a)] st = .ok (.bl true) st:=fun st => by
  rw [aC (x:=tupI a) (y:=tupI a) (s1:=st) (s2:=st) rfl rfl]
  unfold dB
  rw [xV a 14 st]
 refine ⟨[.lst [],.lst []],?_⟩
 unfold PM.dY
 rw [cf (np:=2) (us:=[tupI a,tupI a]) rfl]
 show (bC (jH (vY "tuple" (ae 0)) (jH (ah dB (bI 1 [] (fT (ae 0)) (aName 0) (d4 (b8 (ao PM.eQ (aa (ae 0) ak)))) (ae 0)) (dG ak)) (ah dB (ae 0) (ae 1)))) [some (tupI a),some (tupI a)] s).fin = _
 have m:vY "tuple" (ae 0) [some (tupI a),some (tupI a)] s = .ok (.bl true) s:=rfl
 rw [bN,lg m (lg e1 (e3 _)),aV,List.append_assoc]
 rfl
end PG
namespace PG
open PySem PySem.Spec L2 MN
open PyProof.Rows hiding St kindOf
noncomputable def DU (d:Bool):b0 → List b0 → b0
 | b,[] => b
 | b,t :: r => DU d (if SO.lexLt (stK d b.1) (stK d t.1) = true then t else b) r
theorem wD (d:Bool):∀ (r:List b0) (b:b0),DU d b r ∈ b :: r
 | [],b => List.mem_cons_self
 | t :: r,b => by
  show DU d (if SO.lexLt (stK d b.1) (stK d t.1) = true then t else b) r ∈ _
  have:=wD d r (if SO.lexLt (stK d b.1) (stK d t.1) = true then t else b)
  rcases List.mem_cons.mp this with q | q
  ·rw [q]
   split
   ·exact List.mem_cons_of_mem _ List.mem_cons_self
   ·exact List.mem_cons_self
  ·exact List.mem_cons_of_mem _ (List.mem_cons_of_mem _ q)
theorem rC (d:Bool):∀ (r:List b0) (b:b0) (P:b0 → Prop),(∀ x,P x → SO.lexLt (stK d b.1) (stK d x.1) = false) → ∀ x,(P x ∨ x ∈ b :: r) → SO.lexLt (stK d (DU d b r).1) (stK d x.1) = false
 | [],b,P,h,x,hx => by
  rcases hx with hx | hx
  ·exact h x hx
  ·rw [List.mem_singleton.mp hx]; exact SO.fF _
 | t :: r,b,P,h,x,hx => by
  show SO.lexLt (stK d (DU d (if SO.lexLt (stK d b.1) (stK d t.1) = true then t else b) r).1) (stK d x.1) = false
  by_cases q:SO.lexLt (stK d b.1) (stK d t.1) = true
  ·rw [if_pos q]
   refine rC d r t (fun y => P y ∨ y = b) (fun y hy => ?_) x ?_
   ·cases z:SO.lexLt (stK d t.1) (stK d y.1) with
    | false => rfl
    | true =>
     have w:=SO.jV q z
     rcases hy with hy | rfl
     ·rw [h y hy] at w; cases w
     ·rw [SO.fF] at w; cases w
   ·rcases hx with hx | hx
    ·exact .inl (.inl hx)
    ·rcases List.mem_cons.mp hx with rfl | hx
     ·exact .inl (.inr rfl)
     ·exact .inr hx
  ·rw [if_neg q]
   refine rC d r b (fun y => P y ∨ y = t) (fun y hy => ?_) x ?_
   ·rcases hy with hy | rfl
    ·exact h y hy
    ·simpa using q
   ·rcases hx with hx | hx
    ·exact .inl (.inl hx)
    ·rcases List.mem_cons.mp hx with rfl | hx
     ·exact .inr List.mem_cons_self
     ·rcases List.mem_cons.mp hx with rfl | hx
      ·exact .inl (.inr rfl)
      ·exact .inr (List.mem_cons_of_mem _ hx)
theorem Ba (d:Bool) {t:b0} (hk:t.1.length ≤ 100) (st:ai):PM.dZ [some (tV t),some (.str (aU d))] st = .ok (tupI (stK d t.1)) st:=by
 unfold PM.dZ
 have i:ah bK (ae 0) (mC (.int 0)) [some (tV t),some (.str (aU d))] st = .ok (tupI t.1) st:=by
  rw [aC (x:=tV t) (y:=.int 0) (s1:=st) (s2:=st) rfl rfl]; rfl
 rw [call_of (dw (v:=.str (aU d)) (s1:=st) rfl i),iA d hk]
theorem Bb (d:Bool) {n:Nat} {D:List b0} {st:ai} (hi:itemsOf st n = some (D.map tV)):∀ (r:List b0) (b:b0),(∀ t ∈ b :: r,t.1 ≠ [] ∧ t.1.length ≤ 100) →
  A3 PM.dZ (.str (aU d)) n (D.map tV) (r.map tV) (some (tV b,tupI (stK d b.1))) st = .ok (tV (DU d b r)) st
 | [],b,_ => by
  rw [List.map_nil]
  unfold A3
  rw [if_pos hi]; rfl
 | t :: r,b,h => by
  have ht:=h t (List.mem_cons_of_mem _ List.mem_cons_self)
  have hb:=h b List.mem_cons_self
  rw [List.map_cons]
  unfold A3
  rw [if_pos hi,Ba d ht.2]
  show (match dS ((stK d t.1).map Val.int),dS ((stK d b.1).map Val.int) with | some k1,some k2 => _ | _,_ => _) = _
  rw [gG,gG]
  dsimp only
  rw [if_pos ⟨rB ht.1,rB hb.1⟩]
  have e:(if SO.lexLt (stK d b.1) (stK d t.1) = true then (tV t,Val.tup ((stK d t.1).map Val.int)) else (tV b,tupI (stK d b.1))) = (tV (if SO.lexLt (stK d b.1) (stK d t.1) = true then t else b),tupI (stK d (if SO.lexLt (stK d b.1) (stK d t.1) = true then t else b).1)):=by
   split <;> rfl
  rw [e]
  refine Bb d hi r _ fun x hx => ?_
  rcases List.mem_cons.mp hx with rfl | hx
  ·split
   ·exact ht
   ·exact hb
  ·exact h x (List.mem_cons_of_mem _ (List.mem_cons_of_mem _ hx))
section
variable {M:cQ} {p:Nat} {st:ai}
theorem DV (kl:M.S.ps.length = 1) (d:Bool) {t0:b0} {r:List b0} (hi:itemsOf st p = some ((t0 :: r).map tV)) (hk:∀ t ∈ t0 :: r,t.1 ≠ [] ∧ t.1.length ≤ 100) (ht:d8 st M.own M.line M.col M.S.qual):PM.lead M [.str (aU d),.loc p] st = .ok (tV (DU d t0 r)) st:=by
 have c:ao PM.aQ (aa (ae 0) ak) [some (.str (aU d)),some (.loc p)] st = .ok .da st:=by
  rw [call_of (eB (v:=.str (aU d)) (s1:=st) rfl),fN]
 have l:b8 (ah dB (ao gS (aa (ae 1) ak)) (mC (.int 0))) [some (.str (aU d)),some (.loc p)] st = .ok false st:=by
  refine bA ?_
  rw [mm (j:=0) (show ao gS (aa (ae 1) ak) [some (.str (aU d)),some (.loc p)] st = .ok (.int (((t0 :: r).map tV).length:Nat)) st by rw [call_of (eB (v:=.loc p) (s1:=st) rfl),mX hi])]
  exact congrArg (fun b => Res.ok (Val.bl b) st) (beq_eq_false_iff_ne.mpr (by rw [List.length_map,List.length_cons]; lia))
 have m:qc M 0 PM.dZ (ae 1) [some (.str (aU d)),some (.loc p)] st = .ok (tV (DU d t0 r)) st:=by
  unfold qc
  dsimp only [List.getElem?_cons_zero]
  rw [if_pos ⟨rfl,kl⟩,show ae 1 [some (.str (aU d)),some (.loc p)] st = .ok (.loc p) st from rfl]
  show (@ite _ (d8 st M.own M.line M.col M.S.qual) (Classical.propDecidable _) _ _) = _
  rw [if_pos ht,hi]
  dsimp only
  rw [List.map_cons]
  conv => lhs; unfold A3
  rw [if_pos (show itemsOf st p = some (tV t0 :: r.map tV) from hi),Ba d (hk t0 List.mem_cons_self).2]
  exact Bb d hi r t0 hk
 unfold PM.lead
 rw [cf (np:=2) (us:=[Val.str (aU d),.loc p]) rfl]
 show (aK (dr (ao PM.aQ (aa (ae 0) ak))) (aK (gr (b8 (ah dB (ao gS (aa (ae 1) ak)) (mC (.int 0)))) _ bx) (bC (qc M 0 PM.dZ (ae 1)))) [some (.str (aU d)),some (.loc p)] st).fin = _
 rw [az,d9,c,aV]
 show bU.fin (bU.cb (bU.nx _ st) _) = _
 rw [aH,az,ff l,aH,bN,m,aV]
 rfl
theorem tW (d:Bool) (hi:itemsOf st p = some []):PM.lead M [.str (aU d),.loc p] st = .err "NoLead" st:=by
 have c:ao PM.aQ (aa (ae 0) ak) [some (.str (aU d)),some (.loc p)] st = .ok .da st:=by
  rw [call_of (eB (v:=.str (aU d)) (s1:=st) rfl),fN]
 have l:b8 (ah dB (ao gS (aa (ae 1) ak)) (mC (.int 0))) [some (.str (aU d)),some (.loc p)] st = .ok true st:=by
  refine bA ?_
  rw [mm (j:=0) (show ao gS (aa (ae 1) ak) [some (.str (aU d)),some (.loc p)] st = .ok (.int (([]:List Val).length:Nat)) st by rw [call_of (eB (v:=.loc p) (s1:=st) rfl),mX hi])]
  rfl
 unfold PM.lead
 rw [cf (np:=2) (us:=[Val.str (aU d),.loc p]) rfl]
 show (aK (dr (ao PM.aQ (aa (ae 0) ak))) (aK (gr (b8 (ah dB (ao gS (aa (ae 1) ak)) (mC (.int 0)))) (jg "NoLead" (aa (mC (.str "nought has no highest term")) ak)) bx) _) [some (.str (aU d)),some (.loc p)] st).fin = _
 rw [az,d9,c,aV]
 show bU.fin (bU.cb (bU.nx _ st) _) = _
 rw [aH,az,fi l,sZ,eB (v:=.str "nought has no highest term") (s1:=st) rfl,aV,wc,if_pos (by rw [sizeLine_eq]; show 1 ≤ 16777216; decide)]
 rfl
theorem wF {v:Val} (h:LJ v):PM.lead M [v,.loc p] st = .err "NoOrder" st:=by
 have c:ao PM.aQ (aa (ae 0) ak) [some v,some (.loc p)] st = .err "NoOrder" st:=by
  rw [call_of (eB (v:=v) (s1:=st) (kQ rfl h.px)),iB h]
 unfold PM.lead
 rw [cf (np:=2) (us:=[v,.loc p]) rfl]
 show (aK (dr (ao PM.aQ (aa (ae 0) ak))) _ [some v,some (.loc p)] st).fin = _
 rw [az,d9,c]
 rfl
end
theorem tX (n:Nat) (st:ai):∀ a b:List Int,∃ c,gu (fR (n + 1) st) (a.map Val.int) (b.map Val.int) = some c
 | [],[] => ⟨_,rfl⟩
 | [],_ :: _ => ⟨_,rfl⟩
 | _ :: _,[] => ⟨_,rfl⟩
 | x :: a,y :: b => by
  obtain ⟨c,e⟩:=tX n st a b
  refine ⟨(x == y) && c,?_⟩
  show (match fR (n + 1) st (.int x) (.int y),gu (fR (n + 1) st) (a.map Val.int) (b.map Val.int) with | some a,some b => some (a && b) | _,_ => none) = _
  rw [e]; rfl
theorem Hl (st:ai) (t u:b0):∃ c,fR 15 st (tV t) (tV u) = some c:=by
 obtain ⟨c,e⟩:=tX 12 st t.1 u.1
 refine ⟨c && ((t.2 == u.2) && true),?_⟩
 show gu (fR 14 st) [tupI t.1,.int t.2] [tupI u.1,.int u.2] = _
 show (match fR 14 st (tupI t.1) (tupI u.1),gu (fR 14 st) [.int t.2] [.int u.2] with | some a,some b => some (a && b) | _,_ => none) = _
 have e1:fR 14 st (tupI t.1) (tupI u.1) = some c:=e
 rw [e1]; rfl
theorem Hm {n:Nat} {D:List b0} {t:b0} {st:ai} (hi:itemsOf st n = some (D.map tV)) (h:t ∈ D):Hh true (tV t) (.loc n) st = .ok (.bl false) st:=by
 unfold Hh
 dsimp only
 rw [hi]
 dsimp only
 have h1:(D.map tV).all (d_ 14) = true:=List.all_eq_true.mpr fun v hv => by
  obtain ⟨u,_,rfl⟩:=List.mem_map.mp hv
  exact rn u
 have h2:((D.map tV).all fun y => (fR 15 st y (tV t)).isSome) = true:=List.all_eq_true.mpr fun v hv => by
  obtain ⟨u,_,rfl⟩:=List.mem_map.mp hv
  obtain ⟨c,e⟩:=Hl st u t
  rw [e]; rfl
 have h3:((D.map tV).any fun y => fR 15 st y (tV t) == some true) = true:=List.any_eq_true.mpr ⟨tV t,List.mem_map.mpr ⟨t,h,rfl⟩,by rw [oo st 14 _ (rn t)]; rfl⟩
 rw [if_pos ⟨rn t,h1,h2⟩,h3]
 rfl
end PG
namespace rY
open PySem PySem.Spec L2 MN
open PyProof.Rows hiding St
noncomputable def tab:List (Str × Str × Bool):=[("NoOrder","NoOrder",true),("NoOrder","NoLead",false),("NoOrder","AlgebraError",true),("NoOrder","ValueError",true),("NoLead","NoOrder",false),("NoLead","NoLead",true),("NoLead","AlgebraError",true),("NoLead","ValueError",true)]
noncomputable def kn:List Str:=["NoOrder","NoLead"]
noncomputable def bX:FN:=iI 3 3 (aK (nN (qX (Es kn) (dr (ao PM.fj (zO (aa (ae 0) (aa (ae 1) (aa (ae 2) ak)))))) (i4 (fU tab) "NoOrder" (bC (mC (.bl true))) CU))) (bC (mC (.bl false))))
noncomputable def aY (M:cQ):FN:=iI 2 2 (nN (qX (Es kn) (bC (d5 (aa (zO (mC (.str "told"))) (aa (ao (PM.lead M) (zO (aa (ae 0) (aa (ae 1) ak)))) ak)))) (i4 (fU tab) "NoOrder" (bC (d5 (aa (mC (.str "no order")) (aa (mC .da) ak)))) (i4 (fU tab) "NoLead" (bC (d5 (aa (mC (.str "no lead")) (aa (mC .da) ak)))) CU))))
noncomputable def bg (M:cQ):FN:=iI 2 3 (aK (nN (qX (Es kn) (dr (ao (PM.lead M) (zO (aa (ae 0) (aa (ae 1) ak))))) (HS (fU tab) "AlgebraError" 2 (bC (xr (fU tab) 2 "ValueError")) CU))) (bC (mC (.bl false))))
noncomputable def cT (M:cQ):FN:=iI 2 4 (aK (gr (b8 (ah dB (ae 1) (dG ak))) (bC (jH (ah dB (ah bK (ao (aY M) (aa (ae 0) (aa (ae 1) ak))) (mC (.int 0))) (mC (.str "no lead"))) (ao (bg M) (aa (ae 0) (aa (ae 1) ak))))) bx) (aK (aL 2 (ao nF (aa (ae 1) ak))) (aK (aL 3 (ao (aY M) (aa (ae 0) (aa (ae 2) ak)))) (aK (gr (pb (b8 (ah lV (ah bK (ae 3) (mC (.int 0))) (mC (.str "told")))) (pb (b8 (ah (Hh true) (ah bK (ae 3) (mC (.int 1))) (ae 1))) (pb (d4 (b8 (vY "tuple" (ah bK (ae 3) (mC (.int 1)))))) (b8 (ah lV (ae 2) (ae 1)))))) (bC (mC (.bl false))) bx) (bC (ah dB (bI 1 [3,0] (fT (ae 1)) (aName 0) (b8 (ao PM.cG (aa (ae 2) (aa (ah bK (ae 0) (mC (.int 0))) (aa (ah bK (ah bK (ae 1) (mC (.int 1))) (mC (.int 0))) ak))))) (ae 0)) (dG ak)))))))
noncomputable def qe (M:cQ):MB:=(bC (jH (ao PM.dY (aa (ao PM.jZ (aa (ae 13) (aa (ae 3) ak))) (aa (ae 14) ak))) (ao (cT M) (aa (ae 9) (aa (ae 5) ak)))))
noncomputable def qf (M:cQ):MB:=(aK (aL 14 (ao il (aa (bI 1 [3,13] (bf (aa (ae 2) ak)) (aName 0) bE (ah sN (ah bK (ae 2) (ae 0)) (ah bK (ae 1) (ae 0)))) ak))) (qe M))
noncomputable def qh (M:cQ):MB:=(aK (gr (d4 (b8 (ao PM.dY (aa (ao PM.iz (aa (ae 3) (aa (ae 4) ak))) (aa (ae 13) ak))))) (bC (mC (.bl false))) bx) (qf M))
noncomputable def qi (M:cQ):MB:=(aK (aL 13 (ao il (aa (bI 1 [3,4] (bf (aa (ae 2) ak)) (aName 0) bE (ao xw (aa (ah bK (ae 1) (ae 0)) (aa (ah bK (ae 2) (ae 0)) ak)))) ak))) (qh M))
noncomputable def ql (M:cQ):MB:=(aK (gr (pb (d4 (b8 (vY "bool" (ae 11)))) (b8 (ah lV (ae 11) (ae 12)))) (bC (mC (.bl false))) bx) (qi M))
noncomputable def qm (M:cQ):MB:=(aK (aL 11 (ao PM.eV (aa (ae 3) (aa (ae 4) ak)))) (ql M))
noncomputable def qo (M:cQ):MB:=(aK (aL 12 (ah dB (bI 1 [3,4] (bf (aa (ae 2) ak)) (aName 0) (b8 (ah xW (ah bK (ae 1) (ae 0)) (ah bK (ae 2) (ae 0)))) (ae 0)) (dG ak))) (qm M))
noncomputable def qp (M:cQ):MB:=(aK (gr (pb (d4 (b8 (vY "bool" (ae 11)))) (b8 (ah lV (ae 11) (ao PM.cG (aa (ae 9) (aa (ae 3) (aa (ae 4) ak))))))) (bC (mC (.bl false))) bx) (qo M))
noncomputable def lu (M:cQ):MB:=(aK (aL 11 (ao PM.fj (aa (ae 9) (aa (ae 3) (aa (ae 4) ak))))) (qp M))
noncomputable def lB (M:cQ):MB:=(aK (gr (b8 (ah dB (ah bG (ae 8) (mC (.int 6))) (mC (.int 1)))) (aK (aL 10 (ah bK (dG (aa (mC (.str "")) (aa (mC (.str "Lex")) (aa (mC (.str "degree")) (aa (mC (.str "le")) (aa (mC .da) (aa (mC (.int 0)) (aa (mC (.bl true)) (aa (d5 (aa (mC (.str "lex")) ak)) ak))))))))) (ah bG (ah bp (ae 8) (mC (.int 6))) (mC (.int 8))))) (bC (jH (ah dB (ah bK (ao (aY M) (aa (ae 10) (aa (ao nF (aa (ae 5) ak)) ak))) (mC (.int 0))) (mC (.str "no order"))) (jH (ao (bg M) (aa (ae 10) (aa (ae 5) ak))) (ao bX (aa (ae 10) (aa (ae 3) (aa (ae 4) ak)))))))) bx) (lu M))
noncomputable def qq (M:cQ):MB:=(aK (aL 9 (ah bK (dG (aa (mC (.str "lex")) (aa (mC (.str "deg")) ak))) (ah bG (ah bp (ae 8) (mC (.int 6))) (mC (.int 2))))) (lB M))
noncomputable def qr (M:cQ):MB:=(aK (aL 8 (ao PM.aB (aa (ae 0) (aa (mC (.int 5)) ak)))) (qq M))
noncomputable def oF (M:cQ):MB:=(aK (aL 5 (ao PM.ck (aa (mC (.int 0)) (aa (ah bS (ae 5) (bI 1 [] (fT (hZ (ae 5) ft (fu (mC (.int 3))))) (aName 0) bE (d5 (aa (ah bS (hZ (ah bK (ae 0) (mC (.int 0))) (fu (mC (.int 1))) ft) (hZ (ah bK (ae 0) (mC (.int 0))) ft (fu (mC (.int 1))))) (aa (ah cO (mC (.int 2)) (ah bK (ae 0) (mC (.int 1)))) ak))))) ak)))) (qr M))
noncomputable def j8 (M:cQ):MB:=(aK (gr (b8 (ah dB (ah bG (ah bp (ao PM.aB (aa (ae 0) (aa (mC (.int 3)) ak))) (mC (.int 8))) (mC (.int 8))) (mC (.int 1)))) (aK (aL 6 (ao PM.aB (aa (ae 0) (aa (mC (.int 4)) ak)))) (aK (aL 7 (bI 1 [2,6] (bf (aa (ah bG (ah bp (ae 1) (mC (.int 24))) (mC (.int 31))) ak)) (aName 0) bE (d5 (aa (ao PM.aS (aa (ah bS (ah bp (ae 2) (mC (.int 7))) (ah cO (mC (.int 37)) (ae 0))) (aa (ae 1) ak))) (aa (ao PM.bH (aa (ah bS (ae 2) (ah cO (mC (.int 5)) (ae 0))) ak)) ak))))) (aL 5 (ao PM.ck (aa (mC (.int 0)) (aa (ae 7) ak)))))) bx) (oF M))
noncomputable def j9 (M:cQ):MB:=(aK (aL 5 (ao PM.ck (aa (mC (.int 0)) (aa (ao PM.fG (aa (ae 0) (aa (mC (.int 6)) (aa (ae 2) (aa (ah bG (ao PM.aB (aa (ae 0) (aa (mC (.int 3)) ak))) (mC (.int 8))) ak))))) ak)))) (j8 M))
noncomputable def tY (M:cQ):MB:=(aK (gr (b8 (ah (Gq false) (ah bG (ah bp (ae 1) (mC (.int 4))) (mC (.int 6))) (d5 (aa (mC (.int 3)) (aa (mC (.int 5)) ak))))) (aL 4 (ah bS (hZ (ae 3) (fu (mC (.int 1))) ft) (hZ (ae 3) ft (fu (mC (.int 1)))))) bx) (j9 M))
noncomputable def tZ (M:cQ):MB:=(aK (gr (b8 (ah dB (ah bG (ah bp (ae 1) (mC (.int 4))) (mC (.int 6))) (mC (.int 2)))) (aL 4 (wA (ae 3))) bx) (tY M))
noncomputable def oG (M:cQ):MB:=(aK (gr (b8 (ah dB (ah bG (ah bp (ae 1) (mC (.int 4))) (mC (.int 3))) (mC (.int 1)))) (aL 4 (ao il (aa (bI 1 [3,4] (bf (aa (ae 2) ak)) (aName 0) bE (ah bS (ah bK (ae 1) (ae 0)) (ah bK (ae 2) (ae 0)))) ak))) bx) (tZ M))
noncomputable def t4 (M:cQ):MB:=(aK (aL 4 (ao PM.aS (aa (ao PM.aB (aa (ae 0) (aa (mC (.int 2)) ak))) (aa (ae 2) ak)))) (oG M))
noncomputable def t5 (M:cQ):MB:=(aK (aL 3 (ao PM.aS (aa (ao PM.aB (aa (ae 0) (aa (mC (.int 1)) ak))) (aa (ae 2) ak)))) (t4 M))
noncomputable def oH (M:cQ):MB:=(aK (aL 2 (ah bS (mC (.int 1)) (ah bG (ae 1) (mC (.int 4))))) (t5 M))
noncomputable def t7 (M:cQ):FN:=iI 1 15 (aK (aL 1 (ao PM.aB (aa (ae 0) (aa (mC (.int 0)) ak)))) (oH M))
end rY
namespace rY
open PySem PySem.Spec L2 MN PG
open PyProof.Rows hiding St kindOf
theorem N0:Es kn "NoOrder" = true:=by decide +kernel
theorem R0:Es kn "NoLead" = true:=by decide +kernel
theorem R8:fU tab "NoOrder" "NoOrder" = some true:=by decide +kernel
theorem UM:fU tab "NoLead" "NoOrder" = some false:=by decide +kernel
theorem UN:fU tab "NoLead" "NoLead" = some true:=by decide +kernel
theorem UO:fU tab "NoOrder" "AlgebraError" = some true:=by decide +kernel
theorem UP:fU tab "NoLead" "AlgebraError" = some true:=by decide +kernel
theorem UQ:fU tab "NoOrder" "ValueError" = some true:=by decide +kernel
theorem UR:fU tab "NoLead" "ValueError" = some true:=by decide +kernel
theorem EL {sub:Str → Str → Option Bool} {x c:Str} {a b:Option Val} {st:ai} (h:sub c x = some true):xr sub 2 x [a,b,some (.exc c)] st = .ok (.bl true) st:=by unfold xr; dsimp only [List.getElem?_cons_zero,List.getElem?_cons_succ]; rw [h]
section
variable {M:cQ} {p:Nat} {v:Val} {st:ai}
theorem vv {x1:Option Val} (hx:xj v = false):ae 0 [some v,x1] st = .ok v st:=kQ rfl hx
theorem N1 {x1 x2:Option Val} (hx:xj v = false):ae 0 [some v,x1,x2] st = .ok v st:=kQ rfl hx
theorem DW {us:List Val} (hx:xj v = false) (e:PM.lead M [v,.loc p] st = .ok (.tup us) st):aY M [v,.loc p] st = .ok (.tup [.str "told",.tup us]) st:=by
 simp only [aY,cf,aA,aV,fg,dm,cC,sW,g_,nX,eR,cB,nY,e7,bN,kR,kS,gy,iN,kU,De,om,iq,List.map_cons,List.map_nil,List.cons_append,List.nil_append,List.replicate_zero,Nat.reduceSub,List.length_cons,List.length_nil,Nat.reduceAdd,sizeLine_eq,Nat.reduceLeDiff,↓reduceIte,vv hx,e]
theorem Hn (hx:xj v = false) (e:PM.lead M [v,.loc p] st = .err "NoOrder" st):aY M [v,.loc p] st = .ok (.tup [.str "no order",.da]) st:=by
 simp only [aY,cf,aA,v_,aV,jP,fg,dm,cC,sW,g_,nX,eR,cB,nY,e7,bN,kR,kS,gy,iN,kU,gz,om,iq,List.map_cons,List.map_nil,List.cons_append,List.nil_append,List.replicate_zero,Nat.reduceSub,List.length_cons,List.length_nil,Nat.reduceAdd,sizeLine_eq,Nat.reduceLeDiff,↓reduceIte,vv hx,e,jS N0,rj R8]
theorem Ho (hx:xj v = false) (e:PM.lead M [v,.loc p] st = .err "NoLead" st):aY M [v,.loc p] st = .ok (.tup [.str "no lead",.da]) st:=by
 simp only [aY,cf,aA,v_,aV,jP,fg,dm,cC,sW,g_,nX,eR,cB,nY,e7,bN,kR,kS,gy,iN,kU,gz,om,iq,List.map_cons,List.map_nil,List.cons_append,List.nil_append,List.replicate_zero,Nat.reduceSub,List.length_cons,List.length_nil,Nat.reduceAdd,sizeLine_eq,Nat.reduceLeDiff,↓reduceIte,vv hx,e,jS R0,Df UM,rj UN]
theorem x_ (hx:xj v = false) (e:PM.lead M [v,.loc p] st = .err "NoOrder" st):bg M [v,.loc p] st = .ok (.bl true) st:=by
 simp only [bg,cf,aA,aV,jP,nV,fg,dm,cC,g_,eR,cB,e7,az,d9,bN,kR,kS,gy,iN,kU,gz,om,iq,List.map_cons,List.map_nil,List.cons_append,List.nil_append,List.replicate_succ,List.replicate_zero,List.set_cons_zero,List.set_cons_succ,Nat.reduceSub,List.length_cons,List.length_nil,Nat.reduceAdd,N1 hx,e,jS N0,Ez UO,EL UQ]
theorem ya (hx:xj v = false) (e:PM.lead M [v,.loc p] st = .err "NoLead" st):bg M [v,.loc p] st = .ok (.bl true) st:=by
 simp only [bg,cf,aA,aV,jP,nV,fg,dm,cC,g_,eR,cB,e7,az,d9,bN,kR,kS,gy,iN,kU,gz,om,iq,List.map_cons,List.map_nil,List.cons_append,List.nil_append,List.replicate_succ,List.replicate_zero,List.set_cons_zero,List.set_cons_succ,Nat.reduceSub,List.length_cons,List.length_nil,Nat.reduceAdd,N1 hx,e,jS R0,Ez UP,EL UR]
theorem yb {a b:List Int} (hx:xj v = false) (e:PM.fj [v,tupI a,tupI b] st = .err "NoOrder" st):bX [v,tupI a,tupI b] st = .ok (.bl true) st:=by
 have e':PM.fj [v,.tup (a.map Val.int),.tup (b.map Val.int)] st = .err "NoOrder" st:=e
 show bX [v,.tup (a.map Val.int),.tup (b.map Val.int)] st = _
 simp only [bX,cf,aA,aV,jP,nV,fg,dm,cC,g_,nX,eR,cB,e7,az,d9,bN,kR,kS,gy,iN,kU,gz,JS,iq,List.map_cons,List.map_nil,List.cons_append,List.nil_append,List.replicate_zero,Nat.reduceSub,List.length_cons,List.length_nil,Nat.reduceAdd,N1 hx,e',jS N0,rj R8]
end
section
variable {M:cQ} {p:Nat} {st:ai}
theorem rD (d:Bool) (hi:st[p]? = some (.lst [])):∃ g,cT M [.str (aU d),.loc p] st = .ok (.bl true) (st ++ g):=by
 have it:=js hi
 obtain ⟨s1,km⟩:∃ s1,s1 = st ++ [Cell.lst []]:=⟨_,rfl⟩
 have Hq:itemsOf s1 p = some []:=by rw [km]; exact aP it _
 have t:b8 (ah dB (ae 1) (dG ak)) [some (.str (aU d)),some (.loc p),none,none] st = .ok true s1:=by
  refine bA ?_
  rw [aC (x:=.loc p) (s1:=st) rfl (gW (vs:=[]) rfl (by decide)),← km,eq_nil Hq (by rw [km]; exact ba st [])]; rfl
 have a1:ah dB (ah bK (ao (aY M) (aa (ae 0) (aa (ae 1) ak))) (mC (.int 0))) (mC (.str "no lead")) [some (.str (aU d)),some (.loc p),none,none] s1 = .ok (.bl true) s1:=by
  have q:ah bK (ao (aY M) (aa (ae 0) (aa (ae 1) ak))) (mC (.int 0)) [some (.str (aU d)),some (.loc p),none,none] s1 = .ok (.str "no lead") s1:=by
   rw [aC (x:=.tup [.str "no lead",.da]) (y:=.int 0) (s1:=s1) (s2:=s1) (by rw [call_of (dw (v:=.str (aU d)) (w:=.loc p) (s1:=s1) (s2:=s1) rfl rfl),Ho rfl (tW d Hq)]) rfl]; rfl
  rw [aC q (y:=.str "no lead") (s2:=s1) rfl,wd,beq_self_eq_true]
 have a2:ao (bg M) (aa (ae 0) (aa (ae 1) ak)) [some (.str (aU d)),some (.loc p),none,none] s1 = .ok (.bl true) s1:=by
  rw [call_of (dw (v:=.str (aU d)) (w:=.loc p) (s1:=s1) (s2:=s1) rfl rfl),ya rfl (tW d Hq)]
 refine ⟨[.lst []],?_⟩
 unfold cT
 rw [cf (np:=2) (us:=[Val.str (aU d),.loc p]) rfl]
 show (aK (gr (b8 (ah dB (ae 1) (dG ak))) (bC (jH (ah dB (ah bK (ao (aY M) (aa (ae 0) (aa (ae 1) ak))) (mC (.int 0))) (mC (.str "no lead"))) (ao (bg M) (aa (ae 0) (aa (ae 1) ak))))) bx) _ [some (.str (aU d)),some (.loc p),none,none] st).fin = _
 rw [az,fi t,bN,lg a1 a2,aV,km]
 rfl
theorem t8 (kl:M.S.ps.length = 1) (d:Bool) {many:Nat} {t0:b0} {r:List b0} (hi:st[p]? = some (.lst ((t0 :: r).map tV))) (h1:1 ≤ many) (h4:many ≤ 4) (hk:∀ t ∈ t0 :: r,t.1.length = many) (hl:(t0 :: r).length ≤ 1000) (ht:d8 st M.own M.line M.col M.S.qual):∃ g,cT M [.str (aU d),.loc p] st = .ok (.bl true) (st ++ g):=by
 have it:=js hi
 obtain ⟨D,hD⟩:∃ D,D = t0 :: r:=⟨_,rfl⟩
 obtain ⟨b,hb⟩:∃ b,b = DU d t0 r:=⟨_,rfl⟩
 have bm:b ∈ D:=by rw [hb,hD]; exact wD d r t0
 have top:∀ x ∈ D,SO.lexLt (stK d b.1) (stK d x.1) = false:=fun x hx => by
  rw [hb]; exact rC d r t0 (fun _ => False) (fun _ h => h.elim) x (.inr (by rw [← hD]; exact hx))
 have JZ:∀ t ∈ t0 :: r,t.1 ≠ [] ∧ t.1.length ≤ 100:=fun t R9 => ⟨lq h1 (hk t R9),by rw [hk t R9]; lia⟩
 obtain ⟨s1,km⟩:∃ s1,s1 = st ++ [Cell.lst []]:=⟨_,rfl⟩
 obtain ⟨s2,gP⟩:∃ s2,s2 = s1 ++ [Cell.lst (D.map tV)]:=⟨_,rfl⟩
 rw [← hD] at hi it hl hk
 have Hq:itemsOf s1 p = some (D.map tV):=by rw [km]; exact aP it _
 have LK:itemsOf s2 p = some (D.map tV):=by rw [gP]; exact aP Hq _
 have ih:itemsOf s2 s1.length = some (D.map tV):=by rw [gP]; exact ba s1 _
 have HY:d8 s2 M.own M.line M.col M.S.qual:=by rw [gP,km]; exact bW (bW ht _) _
 have t:b8 (ah dB (ae 1) (dG ak)) [some (.str (aU d)),some (.loc p),none,none] st = .ok false s1:=by
  refine bA ?_
  rw [aC (x:=.loc p) (s1:=st) rfl (gW (vs:=[]) rfl (by decide)),← km,eq_nil Hq (by rw [km]; exact ba st []),hD]; rfl
 have f2:aL 2 (ao nF (aa (ae 1) ak)) [some (.str (aU d)),some (.loc p),none,none] s1 = .nx [some (.str (aU d)),some (.loc p),some (.loc s1.length),none] s2:=by
  refine bB (v:=.loc s1.length) ?_
  rw [call_of (eB (v:=.loc p) (s1:=s1) rfl),we Hq,gP]
 have ld:PM.lead M [.str (aU d),.loc s1.length] s2 = .ok (tV b) s2:=by
  rw [hb]; exact DV kl d (by rw [← hD]; exact ih) JZ HY
 obtain ⟨μ,hμ⟩:∃ μ:MN.Env,μ = [some (.str (aU d)),some (.loc p),some (.loc s1.length),some (.tup [.str "told",tV b])]:=⟨_,rfl⟩
 have f3:aL 3 (ao (aY M) (aa (ae 0) (aa (ae 2) ak))) [some (.str (aU d)),some (.loc p),some (.loc s1.length),none] s2 = .nx μ s2:=by
  rw [hμ]
  refine bB (v:=.tup [.str "told",tV b]) ?_
  rw [call_of (dw (v:=.str (aU d)) (w:=.loc s1.length) (s1:=s2) (s2:=s2) rfl rfl)]
  exact DW rfl ld
 have i0:∀ s,ah bK (ae 3) (mC (.int 0)) μ s = .ok (.str "told") s:=fun s => by
  rw [aC (x:=.tup [.str "told",tV b]) (y:=.int 0) (s1:=s) (s2:=s) (by rw [hμ]; rfl) rfl]; rfl
 have i1:∀ s,ah bK (ae 3) (mC (.int 1)) μ s = .ok (tV b) s:=fun s => by
  rw [aC (x:=.tup [.str "told",tV b]) (y:=.int 1) (s1:=s) (s2:=s) (by rw [hμ]; rfl) rfl]; rfl
 have g1:b8 (ah lV (ah bK (ae 3) (mC (.int 0))) (mC (.str "told"))) μ s2 = .ok false s2:=bA (by rw [aC (i0 s2) (y:=.str "told") (s2:=s2) rfl,JT,beq_self_eq_true]; rfl)
 have g2:b8 (ah (Hh true) (ah bK (ae 3) (mC (.int 1))) (ae 1)) μ s2 = .ok false s2:=bA (by rw [aC (i1 s2) (y:=.loc p) (s2:=s2) (by rw [hμ]; rfl),Hm LK bm])
 have g3:b8 (vY "tuple" (ah bK (ae 3) (mC (.int 1)))) μ s2 = .ok true s2:=bA (by
  show (ah bK (ae 3) (mC (.int 1)) μ s2).bind _ = _
  rw [i1 s2]; rfl)
 have g4:b8 (ah lV (ae 2) (ae 1)) μ s2 = .ok false s2:=bA (by rw [aC (x:=.loc s1.length) (y:=.loc p) (s1:=s2) (s2:=s2) (by rw [hμ]; rfl) (by rw [hμ]; rfl),Ai ih LK (G5 D)])
 have mf:=tM g1 (tM g2 (tM (tN g3) g4))
 have i2:ah bK (ah bK (ae 3) (mC (.int 1))) (mC (.int 0)) μ s2 = .ok (tupI b.1) s2:=by
  rw [aC (i1 s2) (y:=.int 0) (s2:=s2) rfl]; rfl
 have cp:=dJ (a:=aName 0) (c:=b8 (ao PM.cG (aa (ae 2) (aa (ah bK (ae 0) (mC (.int 0))) (aa (ah bK (ah bK (ae 1) (mC (.int 1))) (mC (.int 0))) ak))))) (e:=ae 0) (g:=fun s' => itemsOf s' p = some (D.map tV)) (st:=s2) LK (fun τ => ∃ x,τ = [x,some (.tup [.str "told",tV b]),some (.str (aU d))]) (fun _ => false) (fun v => v) (D.map tV) [none,some (.tup [.str "told",tV b]),some (.str (aU d))] [] ⟨_,rfl⟩ (by
  rintro v hv τ ⟨x,rfl⟩
  obtain ⟨u,hu,rfl⟩:=List.mem_map.mp hv
  refine ⟨[some (tV u),some (.tup [.str "told",tV b]),some (.str (aU d))],rfl,⟨_,rfl⟩,bA ?_,fun h => by cases h⟩
  have j1:ah bK (ae 0) (mC (.int 0)) [some (tV u),some (.tup [.str "told",tV b]),some (.str (aU d))] s2 = .ok (tupI u.1) s2:=by
   rw [aC (x:=tV u) (y:=.int 0) (s1:=s2) (s2:=s2) rfl rfl]; rfl
  have j2:ah bK (ah bK (ae 1) (mC (.int 1))) (mC (.int 0)) [some (tV u),some (.tup [.str "told",tV b]),some (.str (aU d))] s2 = .ok (tupI b.1) s2:=by
   rw [aC (x:=tV b) (y:=.int 0) (s1:=s2) (s2:=s2) (by rw [aC (x:=.tup [.str "told",tV b]) (y:=.int 1) (s1:=s2) (s2:=s2) rfl rfl]; rfl) rfl]; rfl
  rw [call_of (qa (v:=.str (aU d)) (s1:=s2) rfl (dw j1 j2)),j5 d (by rw [hk u hu,hk b bm]) (by rw [hk u hu]; lia),top u hu])
 have e2:((D.map tV).filter fun _ => false).map (fun v => v) = []:=by
  rw [List.filter_eq_nil_iff.mpr (fun _ _ => Bool.false_ne_true)]; rfl
 rw [e2,List.append_nil] at cp
 have c:bI 1 [3,0] (fT (ae 1)) (aName 0) (b8 (ao PM.cG (aa (ae 2) (aa (ah bK (ae 0) (mC (.int 0))) (aa (ah bK (ah bK (ae 1) (mC (.int 1))) (mC (.int 0))) ak))))) (ae 0) μ s2 = .ok (.loc s2.length) (s2 ++ [.lst []]):=by
  rw [iL,jR,show ae 1 μ s2 = .ok (.loc p) s2 by rw [hμ]; rfl,aA,iM LK,aA,kP,if_pos (by rw [List.length_map,sizeLine_eq]; lia),show mG 1 [3,0] μ = [none,some (.tup [.str "told",tV b]),some (.str (aU d))] by rw [hμ]; rfl,cp,aA,p6]
 have fin:ah dB (bI 1 [3,0] (fT (ae 1)) (aName 0) (b8 (ao PM.cG (aa (ae 2) (aa (ah bK (ae 0) (mC (.int 0))) (aa (ah bK (ah bK (ae 1) (mC (.int 1))) (mC (.int 0))) ak))))) (ae 0)) (dG ak) μ s2 = .ok (.bl true) (s2 ++ [.lst []] ++ [.lst []]):=by
  rw [aC c (gW (vs:=[]) rfl (by decide)),eq_nil (aP (ba s2 []) _) (ba _ [])]; rfl
 refine ⟨[.lst [],.lst (D.map tV),.lst [],.lst []],?_⟩
 unfold cT
 rw [cf (np:=2) (us:=[Val.str (aU d),.loc p]) rfl]
 show (aK (gr (b8 (ah dB (ae 1) (dG ak))) _ bx) (aK (aL 2 (ao nF (aa (ae 1) ak))) (aK (aL 3 (ao (aY M) (aa (ae 0) (aa (ae 2) ak)))) (aK (gr _ (bC (mC (.bl false))) bx) (bC _)))) [some (.str (aU d)),some (.loc p),none,none] st).fin = _
 rw [az,ff t,aH,az,f2,aH,az,f3,aH,az,ff mf,aH,bN,fin,aV,gP,km,List.append_assoc,List.append_assoc,List.append_assoc]
 rfl
end
end rY
namespace rY
open PySem PySem.Spec L2 MN PG
open PyProof.Rows hiding St kindOf
theorem N2:PM.ck = PM.eh:=rfl
noncomputable def t9 (k:List Int):List Int:=k.drop 1 ++ k.take 1
theorem t_ (k:List Int):(t9 k).length = k.length:=by
 unfold t9; rw [List.length_append,List.length_drop,List.length_take]; lia
theorem Bc {lo hi:Option Int} {us:List Val} {v:Val} {st:ai} (h:Lr lo hi (.tup us) st = .ok v st):yr lo hi (.tup us) st = .ok v st:=by
 unfold Lr at h
 unfold yr
 dsimp only at h ⊢
 split
 ·rename_i hz; rw [if_pos hz] at h; cases h
 ·rename_i hz; rw [if_neg hz] at h; exact h
theorem Hr {k:List Int} (h:1 ≤ k.length) (s:ai):yr (some 1) none (tupI k) s = .ok (tupI (k.drop 1)) s:=Bc (J9 (a:=0) h s)
theorem Hs {k:List Int} (h:1 ≤ k.length) (s:ai):yr none (some 1) (tupI k) s = .ok (tupI (k.take 1)) s:=by
 by_cases e:k.length = 1
 ·show yr none (some 1) (.tup (k.map Val.int)) s = _
  unfold yr
  dsimp only
  rw [if_pos,List.take_of_length_le (by lia)]
  ·rfl
  ·rw [List.length_map,e]; decide
 ·exact Bc (J8 (a:=1) (by lia) s)
theorem rE {μ:MN.Env} {m:ME} {lo hi:MO} {l h:Option Int} {x:Val} {s:ai} (hm:m μ s = .ok x s) (hl:lo μ s = .ok l s) (hh:hi μ s = .ok h s):hZ m lo hi μ s = yr l h x s:=by
 unfold hZ; rw [hm]; show (lo μ s).bind _ = _; rw [hl]; show (hi μ s).bind _ = _; rw [hh]; try rfl
theorem Bd {μ:MN.Env} {m:ME} {k:List Int} {s:ai} (hm:m μ s = .ok (tupI k) s) (h:1 ≤ k.length) (hl:k.length ≤ 100) :
  ah bS (hZ m (fu (mC (.int 1))) ft) (hZ m ft (fu (mC (.int 1)))) μ s = .ok (tupI (t9 k)) s:=by
 rw [aC (x:=tupI (k.drop 1)) (y:=tupI (k.take 1)) (s1:=s) (s2:=s) (by rw [rE (l:=some 1) (h:=none) hm rfl rfl,Hr h]) (by rw [rE (l:=none) (h:=some 1) hm rfl rfl,Hs h]),AN (by rw [List.length_drop,List.length_take]; lia)]
 rfl
noncomputable def gI (D:List b0):List b0:=(D.take 3).map fun t => (t9 t.1,2 * t.2)
noncomputable abbrev LL:ME:=d5 (aa (ah bS (hZ (ah bK (ae 0) (mC (.int 0))) (fu (mC (.int 1))) ft) (hZ (ah bK (ae 0) (mC (.int 0))) ft (fu (mC (.int 1))))) (aa (ah cO (mC (.int 2)) (ah bK (ae 0) (mC (.int 1)))) ak))
theorem Ht {μ:MN.Env} {m:ME} {p many:Nat} {D:List b0} {s:ai} (hm:∀ s,m μ s = .ok (.loc p) s) (hp:s[p]? = some (.lst (D.map tV))) (h1:1 ≤ many) (h4:many ≤ 4) (hk:∀ t ∈ D,t.1.length = many) (hl:D.length ≤ 100) (hc:mG 1 [] μ = [none]) :
  ∃ g k,ah bS m (bI 1 [] (fT (hZ m ft (fu (mC (.int 3))))) (aName 0) bE LL) μ s = .ok (.loc k) (s ++ g) ∧ (s ++ g)[k]? = some (.lst ((D ++ gI D).map tV)):=by
 have cut:mI (D.map tV) none (some 3) = (D.take 3).map tV:=by
  unfold mI
  rw [show HT.cN (D.map tV).length 0 none = 0 from rfl,show HT.cN (D.map tV).length (D.map tV).length (some 3) = min 3 (D.map tV).length from HT.jC _ _ 3,List.drop_zero,Nat.sub_zero,← List.take_take,List.take_length,List.map_take]
 obtain ⟨s1,km⟩:∃ s1,s1 = s ++ [Cell.lst ((D.take 3).map tV)]:=⟨_,rfl⟩
 have sl:hZ m ft (fu (mC (.int 3))) μ s = .ok (.loc s.length) s1:=by
  rw [rE (l:=none) (h:=some 3) (hm s) rfl rfl]
  unfold yr
  dsimp only
  rw [js hp]
  dsimp only
  rw [cut,km]
 have it:itemsOf s1 s.length = some ((D.take 3).map tV):=by rw [km]; exact ba s _
 have cp:=dJ (a:=aName 0) (c:=bE) (e:=LL) (g:=fun s' => itemsOf s' s.length = some ((D.take 3).map tV)) (st:=s1) it (fun τ => ∃ x,τ = [x]) (fun _ => true) (fun v => tV (t9 (G4 v).1,2 * (G4 v).2)) ((D.take 3).map tV) [none] [] ⟨_,rfl⟩ (by
  rintro v hv τ ⟨x,rfl⟩
  obtain ⟨t,ht,rfl⟩:=List.mem_map.mp hv
  have WJ:=hk t (List.mem_of_mem_take ht)
  refine ⟨[some (tV t)],rfl,⟨_,rfl⟩,rfl,fun _ => ?_⟩
  rw [EE]
  have j1:ah bK (ae 0) (mC (.int 0)) [some (tV t)] s1 = .ok (tupI t.1) s1:=by
   rw [aC (x:=tV t) (y:=.int 0) (s1:=s1) (s2:=s1) rfl rfl]; rfl
  have j2:ah cO (mC (.int 2)) (ah bK (ae 0) (mC (.int 1))) [some (tV t)] s1 = .ok (.int (2 * t.2)) s1:=by
   rw [aC (x:=.int 2) (y:=.int t.2) (s1:=s1) (s2:=s1) rfl (by rw [aC (x:=tV t) (y:=.int 1) (s1:=s1) (s2:=s1) rfl rfl]; rfl),lY (by decide) (by decide)]
  exact oy (dw (Bd j1 (by lia) (by lia)) j2) (by show 2 ≤ 1000; decide))
 have e2:(((D.take 3).map tV).filter fun _ => true).map (fun v => tV (t9 (G4 v).1,2 * (G4 v).2)) = (gI D).map tV:=by
  rw [List.filter_eq_self.mpr fun _ _ => rfl,List.map_map]
  unfold gI
  rw [List.map_map]
  refine List.map_congr_left fun t _ => ?_
  show tV (t9 (G4 (tV t)).1,2 * (G4 (tV t)).2) = _
  rw [EE]; rfl
 rw [e2,List.nil_append] at cp
 obtain ⟨s2,gP⟩:∃ s2,s2 = s1 ++ [Cell.lst ((gI D).map tV)]:=⟨_,rfl⟩
 have c:bI 1 [] (fT (hZ m ft (fu (mC (.int 3))))) (aName 0) bE LL μ s = .ok (.loc s1.length) s2:=by
  rw [iL,jR,sl,aA,iM it,aA,kP,if_pos (by rw [List.length_map,List.length_take,sizeLine_eq]; lia),hc,cp,aA,p6,gP]
 refine ⟨[.lst ((D.take 3).map tV),.lst ((gI D).map tV),.lst ((D ++ gI D).map tV)],s2.length,?_,?_⟩
 ·have e:s ++ [Cell.lst ((D.take 3).map tV),.lst ((gI D).map tV),.lst ((D ++ gI D).map tV)] = s2 ++ [.lst ((D ++ gI D).map tV)]:=by
   rw [gP,km,List.append_assoc,List.append_assoc]; rfl
  have p2:s2[p]? = some (.lst (D.map tV)):=by rw [gP,km]; exact lh (lh hp _) _
  have q2:s2[s1.length]? = some (.lst ((gI D).map tV)):=by rw [gP]; exact vd s1 [] _
  rw [aC (hm s) c,e]
  unfold bS
  dsimp only
  rw [p2,q2]
  dsimp only
  rw [if_pos,← List.map_append]
  rw [List.length_map,List.length_map,sizeLine_eq]
  unfold gI
  rw [List.length_map,List.length_take]
  lia
 ·have e:s ++ [Cell.lst ((D.take 3).map tV),.lst ((gI D).map tV),.lst ((D ++ gI D).map tV)] = s2 ++ [.lst ((D ++ gI D).map tV)]:=by
   rw [gP,km,List.append_assoc,List.append_assoc]; rfl
  rw [e]; exact vd s2 [] _
noncomputable abbrev mn (fst:Int) (many:Nat) (a b:List Int) (p:Nat) (x6 x7:Option Val) (sec:Int) (d:Bool) (x10 R_ Sa Sb Sd:Option Val):MN.Env:=[some (.loc 0),some (.int fst),some (.int (many:Int)),some (tupI a),some (tupI b),some (.loc p),x6,x7,some (.int sec),some (.str (aU d)),x10,R_,Sa,Sb,Sd]
section
variable {fst sec:Int} {many p:Nat} {a b:List Int} {x6 x7 x10 R_ Sa Sb Sd:Option Val} {d:Bool} {M:cQ} {D:List b0} {st:ai}
structure Rw (st:ai) (M:cQ) (many p:Nat) (a b:List Int) (D:List b0):Prop where
 la:a.length = many
 lb:b.length = many
 h1:1 ≤ many
 h4:many ≤ 4
 row:st[p]? = some (.lst (D.map tV))
 key:∀ t ∈ D,t.1.length = many
 IX:D.length ≤ 100
 tab:d8 st M.own M.line M.col M.S.qual
theorem Rw.old (R:Rw st M many p a b D) (g:ai):Rw (st ++ g) M many p a b D:=⟨R.la,R.lb,R.h1,R.h4,lh R.row g,R.key,R.IX,bW R.tab g⟩
theorem Be (kl:M.S.ps.length = 1) (R:Rw st M many p a b D):∃ g,cT M [.str (aU d),.loc p] st = .ok (.bl true) (st ++ g):=by
 cases D with
 | nil => exact rD d R.row
 | cons t0 r => exact t8 kl d R.row R.h1 R.h4 R.key (by have:=R.IX; lia) R.tab
theorem Se {μ:MN.Env} {i:Nat} {c:Bool} {s:ai} (h:ae i μ s = .ok (.bl c) s):b8 (vY "bool" (ae i)) μ s = .ok true s:=bA (by
 show (ae i μ s).bind _ = _
 rw [h]; cases c <;> rfl)
theorem Hu (kl:M.S.ps.length = 1) (R:Rw st M many p a b D):∃ av,lu M (mn fst many a b p x6 x7 sec d x10 none none none none) st = .rt (.bl true) av:=by
 have ha:a ≠ []:=lq R.h1 R.la
 have hb:b ≠ []:=lq R.h1 R.lb
 have h1:=R.h1
 have h4:=R.h4
 have la:=R.la
 have lb:=R.lb
 obtain ⟨hv,Sf⟩:∃ hv,hv = SO.lexLt (stK d b) (stK d a):=⟨_,rfl⟩
 have Kl:aL 11 (ao PM.fj (aa (ae 9) (aa (ae 3) (aa (ae 4) ak)))) (mn fst many a b p x6 x7 sec d x10 none none none none) st = .nx (mn fst many a b p x6 x7 sec d x10 (some (.bl hv)) none none none) st:=by
  rw [bB (v:=.bl hv) (s1:=st) (by rw [call_of (qa (v:=.str (aU d)) (s1:=st) rfl (dw (v:=tupI a) (w:=tupI b) (s1:=st) (s2:=st) rfl rfl)),xZ d ha hb (by lia) (by lia),Sf])]
  rfl
 have US:pb (d4 (b8 (vY "bool" (ae 11)))) (b8 (ah lV (ae 11) (ao PM.cG (aa (ae 9) (aa (ae 3) (aa (ae 4) ak)))))) (mn fst many a b p x6 x7 sec d x10 (some (.bl hv)) none none none) st = .ok false st:=by
  refine tM (tN (Se rfl)) (bA ?_)
  rw [aC (x:=.bl hv) (y:=.bl hv) (s1:=st) (s2:=st) rfl (by rw [call_of (qa (v:=.str (aU d)) (s1:=st) rfl (dw (v:=tupI a) (w:=tupI b) (s1:=st) (s2:=st) rfl rfl)),j5 d (by lia) (by lia),Sf]),Ey,beq_self_eq_true]
  rfl
 obtain ⟨fv,Sg⟩:∃ fv,fv = ((a.zip b).all fun q => decide (q.1 ≤ q.2)):=⟨_,rfl⟩
 obtain ⟨ks,ED⟩:∃ ks,ks = (((List.range many).filter fun i => decide (a.getD i 0 > b.getD i 0)).map fun i:Nat => Val.int (i:Int)):=⟨_,rfl⟩
 obtain ⟨s2,gP⟩:∃ s2,s2 = st ++ [Cell.lst ks] ++ [Cell.lst []]:=⟨_,rfl⟩
 have R2:Rw s2 M many p a b D:=by rw [gP]; exact (R.old _).old _
 have Km:aL 12 (ah dB (bI 1 [3,4] (bf (aa (ae 2) ak)) (aName 0) (b8 (ah xW (ah bK (ae 1) (ae 0)) (ah bK (ae 2) (ae 0)))) (ae 0)) (dG ak)) (mn fst many a b p x6 x7 sec d x10 (some (.bl hv)) none none none) st = .nx (mn fst many a b p x6 x7 sec d x10 (some (.bl hv)) (some (.bl fv)) none none) s2:=by
  have c:=A8 (μ:=mn fst many a b p x6 x7 sec d x10 (some (.bl hv)) none none none) (s:=st) (caps:=[3,4]) (m:=ae 2) (n:=many) (t:=b8 (ah xW (ah bK (ae 1) (ae 0)) (ah bK (ae 2) (ae 0)))) (e:=ae 0) (c1:=some (tupI a)) (c2:=some (tupI b)) (fun i => .int (i:Int)) (fun i => decide (a.getD i 0 > b.getD i 0)) rfl (by lia) rfl (fun i hi => bA (by
   rw [aC (x:=.int (a.getD i 0)) (y:=.int (b.getD i 0)) (s1:=st) (s2:=st) (by rw [aC (x:=tupI a) (y:=.int (i:Int)) (s1:=st) (s2:=st) rfl rfl,pf (by lia)]) (by rw [aC (x:=tupI b) (y:=.int (i:Int)) (s1:=st) (s2:=st) rfl rfl,pf (by lia)]),ve])) (fun i hi _ => rfl)
  rw [← ED] at c
  have ei:ks.isEmpty = fv:=by
   rw [ED,List.isEmpty_map,Sg,← A_ a b (by lia),la]
  rw [bB (v:=.bl fv) (s1:=s2) (by rw [aC c (gW (vs:=[]) rfl (by decide)),eq_nil (aP (ba st ks) _) (ba _ []),ei,gP])]
  rfl
 obtain ⟨UT,N3⟩:=vg (a:=a) (b:=b) (by lia) s2
 rw [← Sg] at N3
 obtain ⟨s3,HZ⟩:∃ s3,s3 = s2 ++ UT:=⟨_,rfl⟩
 rw [← HZ] at N3
 have R3:Rw s3 M many p a b D:=by rw [HZ]; exact R2.old _
 have Kn:aL 11 (ao PM.eV (aa (ae 3) (aa (ae 4) ak))) (mn fst many a b p x6 x7 sec d x10 (some (.bl hv)) (some (.bl fv)) none none) s2 = .nx (mn fst many a b p x6 x7 sec d x10 (some (.bl fv)) (some (.bl fv)) none none) s3:=by
  rw [bB (v:=.bl fv) (s1:=s3) (by rw [call_of (dw (v:=tupI a) (w:=tupI b) (s1:=s2) (s2:=s2) rfl rfl),N3])]
  rfl
 have UU:pb (d4 (b8 (vY "bool" (ae 11)))) (b8 (ah lV (ae 11) (ae 12))) (mn fst many a b p x6 x7 sec d x10 (some (.bl fv)) (some (.bl fv)) none none) s3 = .ok false s3:=by
  refine tM (tN (Se rfl)) (bA ?_)
  rw [aC (x:=.bl fv) (y:=.bl fv) (s1:=s3) (s2:=s3) rfl rfl,Ey,beq_self_eq_true]
  rfl
 obtain ⟨tp,N4⟩:∃ tp,tp = j6 NZ a b:=⟨_,rfl⟩
 have Sh:tp.length = many:=by rw [N4,oE (by lia),la]
 obtain ⟨s4,Si⟩:∃ s4,s4 = s3 ++ [Cell.lst (tp.map Val.int)]:=⟨_,rfl⟩
 have R4:Rw s4 M many p a b D:=by rw [Si]; exact R3.old _
 have Ko:aL 13 (ao il (aa (bI 1 [3,4] (bf (aa (ae 2) ak)) (aName 0) bE (ao xw (aa (ah bK (ae 1) (ae 0)) (aa (ah bK (ae 2) (ae 0)) ak)))) ak)) (mn fst many a b p x6 x7 sec d x10 (some (.bl fv)) (some (.bl fv)) none none) s3 = .nx (mn fst many a b p x6 x7 sec d x10 (some (.bl fv)) (some (.bl fv)) (some (tupI tp)) none) s4:=by
  have c:=vh (μ:=mn fst many a b p x6 x7 sec d x10 (some (.bl fv)) (some (.bl fv)) none none) (s:=s3) (caps:=[3,4]) (m:=ae 2) (e:=ao xw (aa (ah bK (ae 1) (ae 0)) (aa (ah bK (ae 2) (ae 0)) ak))) (c1:=some (tupI a)) (c2:=some (tupI b)) (a:=a) (b:=b) NZ (by lia) (by rw [la]; rfl) (by lia) rfl (fun i hi => by
   rw [call_of (dw (v:=.int (a.getD i 0)) (w:=.int (b.getD i 0)) (s1:=s3) (s2:=s3) (by rw [aC (x:=tupI a) (y:=.int (i:Int)) (s1:=s3) (s2:=s3) rfl rfl,pf hi]) (by rw [aC (x:=tupI b) (y:=.int (i:Int)) (s1:=s3) (s2:=s3) rfl rfl,pf (by lia)]))]
   rfl)
  rw [← N4,← Si] at c
  rw [bB c]
  rfl
 obtain ⟨LM,Sj⟩:=A7 (a:=a) (b:=b) (by lia) s4
 rw [← N4] at Sj
 obtain ⟨UW,Sk⟩:=j7 (a:=tp) (by lia) (s4 ++ LM)
 obtain ⟨s5,H9⟩:∃ s5,s5 = s4 ++ LM ++ UW:=⟨_,rfl⟩
 rw [← H9] at Sk
 have R5:Rw s5 M many p a b D:=by rw [H9]; exact (R4.old _).old _
 have UX:d4 (b8 (ao PM.dY (aa (ao PM.iz (aa (ae 3) (aa (ae 4) ak))) (aa (ae 13) ak)))) (mn fst many a b p x6 x7 sec d x10 (some (.bl fv)) (some (.bl fv)) (some (tupI tp)) none) s4 = .ok false s5:=by
  refine tN (bA ?_)
  rw [call_of (dw (v:=tupI tp) (w:=tupI tp) (s1:=s4 ++ LM) (s2:=s4 ++ LM) (by rw [call_of (dw (v:=tupI a) (w:=tupI b) (s1:=s4) (s2:=s4) rfl rfl),Sj]) rfl),Sk]
 obtain ⟨lf,N5⟩:∃ lf,lf = j6 (· - ·) tp a:=⟨_,rfl⟩
 have WK:lf.length = many:=by rw [N5,oE (by lia),Sh]
 obtain ⟨s6,Sl⟩:∃ s6,s6 = s5 ++ [Cell.lst (lf.map Val.int)]:=⟨_,rfl⟩
 have R6:Rw s6 M many p a b D:=by rw [Sl]; exact R5.old _
 have Kp:aL 14 (ao il (aa (bI 1 [3,13] (bf (aa (ae 2) ak)) (aName 0) bE (ah sN (ah bK (ae 2) (ae 0)) (ah bK (ae 1) (ae 0)))) ak)) (mn fst many a b p x6 x7 sec d x10 (some (.bl fv)) (some (.bl fv)) (some (tupI tp)) none) s5 = .nx (mn fst many a b p x6 x7 sec d x10 (some (.bl fv)) (some (.bl fv)) (some (tupI tp)) (some (tupI lf))) s6:=by
  have c:=vh (μ:=mn fst many a b p x6 x7 sec d x10 (some (.bl fv)) (some (.bl fv)) (some (tupI tp)) none) (s:=s5) (caps:=[3,13]) (m:=ae 2) (e:=ah sN (ah bK (ae 2) (ae 0)) (ah bK (ae 1) (ae 0))) (c1:=some (tupI a)) (c2:=some (tupI tp)) (a:=tp) (b:=a) (· - ·) (by lia) (by rw [Sh]; rfl) (by lia) rfl (fun i hi => by
   rw [aC (x:=.int (tp.getD i 0)) (y:=.int (a.getD i 0)) (s1:=s5) (s2:=s5) (by rw [aC (x:=tupI tp) (y:=.int (i:Int)) (s1:=s5) (s2:=s5) rfl rfl,pf hi]) (by rw [aC (x:=tupI a) (y:=.int (i:Int)) (s1:=s5) (s2:=s5) rfl rfl,pf (by lia)]),u5])
  rw [← N5,← Sl] at c
  rw [bB c]
  rfl
 obtain ⟨LN,Sm⟩:=DT (a:=tp) (b:=a) (by lia) s6
 rw [← N5] at Sm
 obtain ⟨UY,Sn⟩:=j7 (a:=lf) (by lia) (s6 ++ LN)
 obtain ⟨s7,So⟩:∃ s7,s7 = s6 ++ LN ++ UY:=⟨_,rfl⟩
 rw [← So] at Sn
 have R7:Rw s7 M many p a b D:=by rw [So]; exact (R6.old _).old _
 obtain ⟨Sq,UZ⟩:=Be (d:=d) kl R7
 refine ⟨s7 ++ Sq,?_⟩
 have l1:ao PM.dY (aa (ao PM.jZ (aa (ae 13) (aa (ae 3) ak))) (aa (ae 14) ak)) (mn fst many a b p x6 x7 sec d x10 (some (.bl fv)) (some (.bl fv)) (some (tupI tp)) (some (tupI lf))) s6 = .ok (.bl true) s7:=by
  rw [call_of (dw (v:=tupI lf) (w:=tupI lf) (s1:=s6 ++ LN) (s2:=s6 ++ LN) (by rw [call_of (dw (v:=tupI tp) (w:=tupI a) (s1:=s6) (s2:=s6) rfl rfl),Sm]) rfl),Sn]
 have l2:ao (cT M) (aa (ae 9) (aa (ae 5) ak)) (mn fst many a b p x6 x7 sec d x10 (some (.bl fv)) (some (.bl fv)) (some (tupI tp)) (some (tupI lf))) s7 = .ok (.bl true) (s7 ++ Sq):=by
  rw [call_of (dw (v:=.str (aU d)) (w:=.loc p) (s1:=s7) (s2:=s7) rfl rfl),UZ]
 unfold lu
 rw [az,Kl,aH]
 unfold qp
 rw [az,ff US,aH]
 unfold qo
 rw [az,Km,aH]
 unfold qm
 rw [az,Kn,aH]
 unfold ql
 rw [az,ff UU,aH]
 unfold qi
 rw [az,Ko,aH]
 unfold qh
 rw [az,ff UX,aH]
 unfold qf
 rw [az,Kp,aH]
 unfold qe
 rw [bN,lg l1 l2,aV]
 rfl
end
end rY
namespace rY
open PySem PySem.Spec L2 MN PG
open PyProof.Rows hiding St kindOf
theorem ju {ns:List Int} {s:ai} {μ:MN.Env} {k:Int} (h:itemsOf s 0 = some (ns.map Val.int)) (k0:0 ≤ k) (k1:k ≤ 1000):∃ o,ao PM.aB (aa (ae 0) (aa (mC (.int k)) ak)) (some (.loc 0) :: μ) s = .ok (.int o) s ∧ 0 ≤ o:=by
 obtain ⟨o,e,o0,_⟩:=rl h k0 (by lia)
 exact ⟨o,e,o0⟩
theorem oJ {i j o:Int} {μ:MN.Env} {m:ME} {s:ai} (v:m μ s = .ok (.int o) s) (hi:Dz i) (hj:¬ j = 0):ah bG (ah bp m (mC (.int i))) (mC (.int j)) μ s = .ok (.int ((o.fdiv i).fmod j)) s:=jr (ow v hi) hj
theorem Hv {i:Int} (h0:0 ≤ i) (h8:i < 8):∃ v ∈ j4,L2.ni j4 i = some v:=by
 have:i = 0 ∨ i = 1 ∨ i = 2 ∨ i = 3 ∨ i = 4 ∨ i = 5 ∨ i = 6 ∨ i = 7:=by lia
 rcases this with rfl | rfl | rfl | rfl | rfl | rfl | rfl | rfl
 ·exact ⟨.str "",by simp [j4],rfl⟩
 ·exact ⟨.str "Lex",by simp [j4],rfl⟩
 ·exact ⟨.str "degree",by simp [j4],rfl⟩
 ·exact ⟨.str "le",by simp [j4],rfl⟩
 ·exact ⟨.da,by simp [j4],rfl⟩
 ·exact ⟨.int 0,by simp [j4],rfl⟩
 ·exact ⟨.bl true,by simp [j4],rfl⟩
 ·exact ⟨.tup [.str "lex"],by simp [j4],rfl⟩
section
variable {fst sec:Int} {many p:Nat} {a b:List Int} {x6 x7:Option Val} {d:Bool} {M:cQ} {D:List b0} {st:ai} {ns:List Int}
theorem Hw (kl:M.S.ps.length = 1) (R:Rw st M many p a b D):∃ av,lB M (mn fst many a b p x6 x7 sec d none none none none none) st = .rt (.bl true) av:=by
 have mf:b8 (ah dB (ah bG (ae 8) (mC (.int 6))) (mC (.int 1))) (mn fst many a b p x6 x7 sec d none none none none none) st = .ok (sec.fmod 6 == 1) st:=bA (mm (jr (o:=sec) (s1:=st) rfl (by decide)))
 unfold lB
 cases hz:sec.fmod 6 == 1 with
 | false =>
  rw [hz] at mf
  obtain ⟨av,e⟩:=Hu (fst:=fst) (sec:=sec) (x6:=x6) (x7:=x7) (x10:=none) (d:=d) kl R
  exact ⟨av,by rw [az,ff mf,aH,e]⟩
 | true =>
  rw [hz] at mf
  have q:=gA (m:=8) (by decide) (sec.fdiv 6)
  obtain ⟨v,hv,ev⟩:=Hv q.1 q.2
  have N:=DQ v hv
  obtain ⟨s1,km⟩:∃ s1,s1 = st ++ [Cell.lst j4]:=⟨_,rfl⟩
  have R1:Rw s1 M many p a b D:=by rw [km]; exact R.old _
  have N6:dG (aa (mC (.str "")) (aa (mC (.str "Lex")) (aa (mC (.str "degree")) (aa (mC (.str "le")) (aa (mC .da) (aa (mC (.int 0)) (aa (mC (.bl true)) (aa (d5 (aa (mC (.str "lex")) ak)) ak)))))))) (mn fst many a b p x6 x7 sec d none none none none none) st = .ok (.loc st.length) s1:=by
   rw [gW (vs:=j4) (s1:=st) rfl (by decide),km]
  have EM:aL 10 (ah bK (dG (aa (mC (.str "")) (aa (mC (.str "Lex")) (aa (mC (.str "degree")) (aa (mC (.str "le")) (aa (mC .da) (aa (mC (.int 0)) (aa (mC (.bl true)) (aa (d5 (aa (mC (.str "lex")) ak)) ak))))))))) (ah bG (ah bp (ae 8) (mC (.int 6))) (mC (.int 8)))) (mn fst many a b p x6 x7 sec d none none none none none) st = .nx (mn fst many a b p x6 x7 sec d (some v) none none none none) s1:=by
   rw [bB (v:=v) (s1:=s1) (by rw [aC N6 (oJ (o:=sec) rfl (jT (by decide) (by decide)) (by decide)),rh (by rw [km]; exact ba st j4) ev])]
   rfl
  obtain ⟨μ,hμ⟩:∃ μ:MN.Env,μ = mn fst many a b p x6 x7 sec d (some v) none none none none:=⟨_,rfl⟩
  rw [← hμ] at EM
  have v10:∀ s,ae 10 μ s = .ok v s:=fun s => by rw [hμ]; exact kQ rfl N.px
  obtain ⟨s2,gP⟩:∃ s2,s2 = s1 ++ [Cell.lst (D.map tV)]:=⟨_,rfl⟩
  have cl:ao nF (aa (ae 5) ak) μ s1 = .ok (.loc s1.length) s2:=by
   rw [call_of (eB (v:=.loc p) (s1:=s1) (by rw [hμ]; rfl)),we (js R1.row),gP]
  have a1:ah dB (ah bK (ao (aY M) (aa (ae 10) (aa (ao nF (aa (ae 5) ak)) ak))) (mC (.int 0))) (mC (.str "no order")) μ s1 = .ok (.bl true) s2:=by
   have q:ah bK (ao (aY M) (aa (ae 10) (aa (ao nF (aa (ae 5) ak)) ak))) (mC (.int 0)) μ s1 = .ok (.str "no order") s2:=by
    rw [aC (x:=.tup [.str "no order",.da]) (y:=.int 0) (s1:=s2) (s2:=s2) (by rw [call_of (dw (v10 s1) cl),Hn N.px (wF N)]) rfl]; rfl
   rw [aC q (y:=.str "no order") (s2:=s2) rfl,wd,beq_self_eq_true]
  have a2:ao (bg M) (aa (ae 10) (aa (ae 5) ak)) μ s2 = .ok (.bl true) s2:=by
   rw [call_of (dw (v10 s2) (w:=.loc p) (s2:=s2) (by rw [hμ]; rfl)),x_ N.px (wF N)]
  have a3:ao bX (aa (ae 10) (aa (ae 3) (aa (ae 4) ak))) μ s2 = .ok (.bl true) s2:=by
   rw [call_of (qa (v10 s2) (dw (v:=tupI a) (w:=tupI b) (s1:=s2) (s2:=s2) (by rw [hμ]; rfl) (by rw [hμ]; rfl))),yb N.px (x9 N a b s2)]
  refine ⟨s2,?_⟩
  rw [az,fi mf,az,EM,aH,bN,lg a1 (lg a2 a3),aV]
  rfl
noncomputable abbrev E6 (fst:Int) (many:Nat) (a b:List Int) (p:Nat) (x6 x7:Option Val):MN.Env:=[some (.loc 0),some (.int fst),some (.int (many:Int)),some (tupI a),some (tupI b),some (.loc p),x6,x7,none,none,none,none,none,none,none]
theorem EN (kl:M.S.ps.length = 1) (R:Rw st M many p a b D) (hD:D.length ≤ 40) (hi:itemsOf st 0 = some (ns.map Val.int)):∃ av,oF M (E6 fst many a b p x6 x7) st = .rt (.bl true) av:=by
 obtain ⟨g,k,e,hk⟩:=Ht (μ:=E6 fst many a b p x6 x7) (m:=ae 5) (fun _ => rfl) R.row R.h1 R.h4 R.key R.IX rfl
 have kr:∀ t ∈ D ++ gI D,t.1.length = many:=fun t ht => by
  rcases List.mem_append.mp ht with ht | ht
  ·exact R.key t ht
  ·obtain ⟨u,hu,rfl⟩:=List.mem_map.mp ht
   rw [t_]; exact R.key u (List.mem_of_mem_take hu)
 have lr:(D ++ gI D).length ≤ 43:=by
  rw [List.length_append]; unfold gI; rw [List.length_map,List.length_take]; lia
 obtain ⟨c1,c2,eg,ag⟩:=AY (r:=0) (a:=mC (.int 0)) (L:=D ++ gI D) rfl e (js hk) (by lia) (fun t ht => lq R.h1 (kr t ht))
 obtain ⟨D2,Hx⟩:∃ D2,D2 = eM 0 (fV (D ++ gI D)):=⟨_,rfl⟩
 obtain ⟨s2,gP⟩:∃ s2,s2 = st ++ g ++ [c1,Cell.lst ((eM 0 (fV (D ++ gI D))).map tV),c2]:=⟨_,rfl⟩
 obtain ⟨q,hq⟩:∃ q,q = (st ++ g).length + 1:=⟨_,rfl⟩
 rw [← gP,← hq] at eg ag
 rw [← Hx] at ag
 have R2:Rw s2 M many q a b D2:=by
  refine ⟨R.la,R.lb,R.h1,R.h4,ag,fun t ht => ?_,?_,by rw [gP]; exact bW (bW R.tab _) _⟩
  ·rw [Hx] at ht
   obtain ⟨u,hu,eu⟩:=oB ht
   rw [eu]; exact kr u hu
  ·rw [Hx]
   exact Nat.le_trans (Nat.le_trans (oA _ _) (iy _).2.1) (by lia)
 have i2:itemsOf s2 0 = some (ns.map Val.int):=by rw [gP]; exact aP (aP hi _) _
 have f9:=bB (i:=5) eg
 obtain ⟨sec,U0,s0⟩:=ju (μ:=[some (.int fst),some (.int (many:Int)),some (tupI a),some (tupI b),some (.loc q),x6,x7,none,none,none,none,none,none,none]) (k:=5) i2 (by decide) (by decide)
 have EM:=bB (i:=8) U0
 have q2:=gA (m:=2) (by decide) (sec.fdiv 6)
 obtain ⟨d,hd⟩:∃ d:Bool,L2.ni [Val.str "lex",Val.str "deg"] ((sec.fdiv 6).fmod 2) = some (.str (aU d)):=by
  have:(sec.fdiv 6).fmod 2 = 0 ∨ (sec.fdiv 6).fmod 2 = 1:=by lia
  rcases this with e | e
  ·rw [e]; exact ⟨false,rfl⟩
  ·rw [e]; exact ⟨true,rfl⟩
 obtain ⟨s3,HZ⟩:∃ s3,s3 = s2 ++ [Cell.lst [.str "lex",.str "deg"]]:=⟨_,rfl⟩
 have R3:Rw s3 M many q a b D2:=by rw [HZ]; exact R2.old _
 have Kq:aL 9 (ah bK (dG (aa (mC (.str "lex")) (aa (mC (.str "deg")) ak))) (ah bG (ah bp (ae 8) (mC (.int 6))) (mC (.int 2)))) [some (.loc 0),some (.int fst),some (.int (many:Int)),some (tupI a),some (tupI b),some (.loc q),x6,x7,some (.int sec),none,none,none,none,none,none] s2 = .nx (mn fst many a b q x6 x7 sec d none none none none none) s3:=by
  rw [bB (v:=.str (aU d)) (s1:=s3) (by rw [aC (x:=.loc s2.length) (s1:=s3) (by rw [gW (vs:=[.str "lex",.str "deg"]) (s1:=s2) rfl (by decide),HZ]) (oJ (o:=sec) rfl (jT (by decide) (by decide)) (by decide)),rh (by rw [HZ]; exact ba s2 _) hd])]
  rfl
 obtain ⟨av,U1⟩:=Hw (fst:=fst) (sec:=sec) (x6:=x6) (x7:=x7) (d:=d) kl R3
 refine ⟨av,?_⟩
 unfold oF
 rw [az,N2]
 show ((aL 5 (ao PM.eh (aa (mC (.int 0)) (aa (ah bS (ae 5) (bI 1 [] (fT (hZ (ae 5) ft (fu (mC (.int 3))))) (aName 0) bE LL)) ak))) (E6 fst many a b p x6 x7) st).cb _) = _
 rw [f9,aH]
 unfold qr
 rw [az]
 show ((aL 8 (ao PM.aB (aa (ae 0) (aa (mC (.int 5)) ak))) (some (.loc 0) :: [some (.int fst),some (.int (many:Int)),some (tupI a),some (tupI b),some (.loc q),x6,x7,none,none,none,none,none,none,none]) s2).cb _) = _
 rw [EM,aH]
 unfold qq
 rw [az]
 show ((aL 9 _ [some (.loc 0),some (.int fst),some (.int (many:Int)),some (tupI a),some (tupI b),some (.loc q),x6,x7,some (.int sec),none,none,none,none,none,none] s2).cb _) = _
 rw [Kq,aH,U1]
theorem Kr (kl:M.S.ps.length = 1) (la:a.length = many) (lb:b.length = many) (h1:1 ≤ many) (h4:many ≤ 4) (ht:d8 st M.own M.line M.col M.S.qual) (hi:itemsOf st 0 = some (ns.map Val.int)) :
  ∃ av,j9 M [some (.loc 0),some (.int fst),some (.int (many:Int)),some (tupI a),some (tupI b),none,none,none,none,none,none,none,none,none,none] st = .rt (.bl true) av:=by
 obtain ⟨μ,hμ⟩:∃ μ:MN.Env,μ = [some (.loc 0),some (.int fst),some (.int (many:Int)),some (tupI a),some (tupI b),none,none,none,none,none,none,none,none,none,none]:=⟨_,rfl⟩
 obtain ⟨o3,e3,WL⟩:=ju (μ:=[some (.int fst),some (.int (many:Int)),some (tupI a),some (tupI b),none,none,none,none,none,none,none,none,none,none]) (k:=3) hi (by decide) (by decide)
 have q8:=gA (m:=8) (by decide) o3
 obtain ⟨z1,NO⟩:∃ z:Nat,(z:Int) = o3.fmod 8:=⟨(o3.fmod 8).toNat,by lia⟩
 obtain ⟨g5,L,e5,lL,hL⟩:=ro (many:=many) (size:=z1) (place:=6) hi (by decide) (by decide) h4 (by lia)
 have md:ah bG (ao PM.aB (aa (ae 0) (aa (mC (.int 3)) ak))) (mC (.int 8)) μ st = .ok (.int (z1:Int)) st:=by
  rw [NO,hμ]; exact jr e3 (by decide)
 have w5:ao PM.fG (aa (ae 0) (aa (mC (.int 6)) (aa (ae 2) (aa (ah bG (ao PM.aB (aa (ae 0) (aa (mC (.int 3)) ak))) (mC (.int 8))) ak)))) μ st = .ok (.loc st.length) (st ++ .lst (L.map tV) :: g5):=by
  rw [call_of (qa (v:=.loc 0) (s1:=st) (by rw [hμ]; rfl) (qa (v:=.int 6) (s1:=st) rfl (dw (v:=.int (many:Int)) (s1:=st) (by rw [hμ]; rfl) md))),e5]
 obtain ⟨c1,c2,eg,ag⟩:=AY (r:=0) (a:=mC (.int 0)) (L:=L) rfl w5 (js (vd st g5 _)) (by lia) (fun t ht => lq h1 (hL t ht).1.len)
 obtain ⟨D,hD⟩:∃ D,D = eM 0 (fV L):=⟨_,rfl⟩
 obtain ⟨s2,gP⟩:∃ s2,s2 = st ++ .lst (L.map tV) :: g5 ++ [c1,Cell.lst ((eM 0 (fV L)).map tV),c2]:=⟨_,rfl⟩
 obtain ⟨p,hp⟩:∃ p,p = (st ++ Cell.lst (L.map tV) :: g5).length + 1:=⟨_,rfl⟩
 rw [← gP,← hp] at eg ag
 rw [← hD] at ag
 have kD:∀ t ∈ D,t.1.length = many:=fun t ht => by
  rw [hD] at ht
  obtain ⟨u,hu,eu⟩:=oB ht
  rw [eu]; exact (hL u hu).1.len
 have lD:D.length ≤ 8:=by rw [hD]; exact Nat.le_trans (Nat.le_trans (oA _ _) (iy _).2.1) (by lia)
 have HY:d8 s2 M.own M.line M.col M.S.qual:=by rw [gP]; exact bW (bW ht _) _
 have i2:itemsOf s2 0 = some (ns.map Val.int):=by rw [gP]; exact aP (aP hi _) _
 have R2:Rw s2 M many p a b D:=⟨la,lb,h1,h4,ag,kD,by lia,HY⟩
 have f7:=bB (i:=5) eg
 obtain ⟨o4,e4,WM⟩:=ju (μ:=[some (.int fst),some (.int (many:Int)),some (tupI a),some (tupI b),some (.loc p),none,none,none,none,none,none,none,none,none]) (k:=3) i2 (by decide) (by decide)
 have mf:b8 (ah dB (ah bG (ah bp (ao PM.aB (aa (ae 0) (aa (mC (.int 3)) ak))) (mC (.int 8))) (mC (.int 8))) (mC (.int 1))) (E6 fst many a b p none none) s2 = .ok ((o4.fdiv 8).fmod 8 == 1) s2:=bA (mm (oJ e4 (jT (by decide) (by decide)) (by decide)))
 have top:∀ av,j8 M (E6 fst many a b p none none) s2 = .rt (.bl true) av → j9 M μ st = .rt (.bl true) av:=by
  intro av h
  unfold j9
  rw [az,N2,f7,aH,hμ]
  exact h
 rw [← hμ]
 cases hz:(o4.fdiv 8).fmod 8 == 1 with
 | false =>
  rw [hz] at mf
  obtain ⟨av,e⟩:=EN (fst:=fst) (x6:=none) (x7:=none) kl R2 (by lia) i2
  refine ⟨av,top av ?_⟩
  unfold j8
  rw [az,ff mf,aH,e]
 | true =>
  rw [hz] at mf
  obtain ⟨mix,em,m0⟩:=ju (μ:=[some (.int fst),some (.int (many:Int)),some (tupI a),some (tupI b),some (.loc p),none,none,none,none,none,none,none,none,none]) (k:=4) i2 (by decide) (by decide)
  have f6:=bB (i:=6) em
  obtain ⟨μ2,DX⟩:∃ μ2:MN.Env,μ2 = E6 fst many a b p (some (.int mix)) none:=⟨_,rfl⟩
  have qs:=gA (m:=31) (by decide) (fst.fdiv 24)
  obtain ⟨size,hsz⟩:∃ size:Nat,(size:Int) = (fst.fdiv 24).fmod 31:=⟨((fst.fdiv 24).fmod 31).toNat,by lia⟩
  have U2:ah bG (ah bp (ae 1) (mC (.int 24))) (mC (.int 31)) μ2 s2 = .ok (.int (size:Int)) s2:=by
   rw [hsz]; exact oJ (o:=fst) (by rw [DX]; rfl) (jT (by decide) (by decide)) (by decide)
  obtain ⟨g,k,L2,ec,hk,WN,Sr⟩:=G9 (many:=many) (mix:=mix) [2,6] U2 (by lia) (by rw [DX]; rfl) m0 h4
  obtain ⟨μ3,Hy⟩:∃ μ3:MN.Env,μ3 = E6 fst many a b p (some (.int mix)) (some (.loc k)):=⟨_,rfl⟩
  have U3:aL 7 (bI 1 [2,6] (bf (aa (ah bG (ah bp (ae 1) (mC (.int 24))) (mC (.int 31))) ak)) (aName 0) bE Ke) μ2 s2 = .nx μ3 (s2 ++ g):=by rw [bB ec,DX,Hy]; rfl
  obtain ⟨d1,d2,Ss,N7⟩:=AY (r:=0) (a:=mC (.int 0)) (m:=ae 7) (μ:=μ3) (s:=s2 ++ g) (s1:=s2 ++ g) (k:=k) (L:=L2) rfl (by rw [Hy]; rfl) (js hk) (by lia) (fun t ht => lq h1 (Sr t ht).1.len)
  obtain ⟨D2,Hx⟩:∃ D2,D2 = eM 0 (fV L2):=⟨_,rfl⟩
  obtain ⟨s5,H9⟩:∃ s5,s5 = s2 ++ g ++ [d1,Cell.lst ((eM 0 (fV L2)).map tV),d2]:=⟨_,rfl⟩
  obtain ⟨q,hq⟩:∃ q,q = (s2 ++ g).length + 1:=⟨_,rfl⟩
  rw [← H9,← hq] at Ss N7
  rw [← Hx] at N7
  have U4:D2.length ≤ 40:=by rw [Hx]; exact Nat.le_trans (Nat.le_trans (oA _ _) (iy _).2.1) (by lia)
  have i5:itemsOf s5 0 = some (ns.map Val.int):=by rw [H9]; exact aP (aP i2 _) _
  have R5:Rw s5 M many q a b D2:=⟨la,lb,h1,h4,N7,fun t ht => by
   rw [Hx] at ht
   obtain ⟨u,hu,eu⟩:=oB ht
   rw [eu]; exact (Sr u hu).1.len,by lia,by rw [H9]; exact bW (bW HY _) _⟩
  have f5:=bB (i:=5) Ss
  obtain ⟨av,e⟩:=EN (fst:=fst) (x6:=some (.int mix)) (x7:=some (.loc k)) kl R5 U4 i5
  refine ⟨av,top av ?_⟩
  unfold j8
  rw [az,fi mf,az]
  show (((aL 6 (ao PM.aB (aa (ae 0) (aa (mC (.int 4)) ak))) (some (.loc 0) :: [some (.int fst),some (.int (many:Int)),some (tupI a),some (tupI b),some (.loc p),none,none,none,none,none,none,none,none,none]) s2).cb _)).cb _ = _
  rw [f6,aH,az,N2]
  show ((((aL 7 (bI 1 [2,6] (bf (aa (ah bG (ah bp (ae 1) (mC (.int 24))) (mC (.int 31))) ak)) (aName 0) bE Ke) (E6 fst many a b p (some (.int mix)) none) s2).cb _)).cb _) = _
  rw [← DX,U3,aH,f5,aH,Hy]
  exact e
noncomputable abbrev E4 (fst:Int) (many:Nat) (a b:List Int):MN.Env:=[some (.loc 0),some (.int fst),some (.int (many:Int)),some (tupI a),some (tupI b),none,none,none,none,none,none,none,none,none,none]
theorem Ks (kl:M.S.ps.length = 1) (la:a.length = many) (lb:b.length = many) (h1:1 ≤ many) (h4:many ≤ 4) (ht:d8 st M.own M.line M.col M.S.qual) (hi:itemsOf st 0 = some (ns.map Val.int)):∃ av,oG M (E4 fst many a b) st = .rt (.bl true) av:=by
 have s4:∃ b1 g,b1.length = many ∧ gr (b8 (ah dB (ah bG (ah bp (ae 1) (mC (.int 4))) (mC (.int 3))) (mC (.int 1)))) (aL 4 (ao il (aa (bI 1 [3,4] (bf (aa (ae 2) ak)) (aName 0) bE (ah bS (ah bK (ae 1) (ae 0)) (ah bK (ae 2) (ae 0)))) ak))) bx (E4 fst many a b) st = .nx (E4 fst many a b1) (st ++ g):=by
  have mf:b8 (ah dB (ah bG (ah bp (ae 1) (mC (.int 4))) (mC (.int 3))) (mC (.int 1))) (E4 fst many a b) st = .ok ((fst.fdiv 4).fmod 3 == 1) st:=bA (mm (oJ (o:=fst) rfl (jT (by decide) (by decide)) (by decide)))
  cases hz:(fst.fdiv 4).fmod 3 == 1 with
  | false => rw [hz] at mf; exact ⟨b,[],lb,by rw [ff mf,List.append_nil]⟩
  | true =>
   rw [hz] at mf
   have c:=vh (μ:=E4 fst many a b) (s:=st) (caps:=[3,4]) (m:=ae 2) (e:=ah bS (ah bK (ae 1) (ae 0)) (ah bK (ae 2) (ae 0))) (c1:=some (tupI a)) (c2:=some (tupI b)) (a:=a) (b:=b) (· + ·) (by lia) (by rw [la]; rfl) (by lia) rfl (fun i hi => by
    rw [aC (x:=.int (a.getD i 0)) (y:=.int (b.getD i 0)) (s1:=st) (s2:=st) (by rw [aC (x:=tupI a) (y:=.int (i:Int)) (s1:=st) (s2:=st) rfl rfl,pf hi]) (by rw [aC (x:=tupI b) (y:=.int (i:Int)) (s1:=st) (s2:=st) rfl rfl,pf (by lia)]),rf])
   exact ⟨j6 (· + ·) a b,_,by rw [oE (by lia),la],by rw [fi mf,bB c]; rfl⟩
 obtain ⟨b1,g1,U5,f4⟩:=s4
 obtain ⟨s1,km⟩:∃ s1,s1 = st ++ g1:=⟨_,rfl⟩
 rw [← km] at f4
 have s5:∃ b2,b2.length = many ∧ gr (b8 (ah dB (ah bG (ah bp (ae 1) (mC (.int 4))) (mC (.int 6))) (mC (.int 2)))) (aL 4 (wA (ae 3))) bx (E4 fst many a b1) s1 = .nx (E4 fst many a b2) s1:=by
  have mf:b8 (ah dB (ah bG (ah bp (ae 1) (mC (.int 4))) (mC (.int 6))) (mC (.int 2))) (E4 fst many a b1) s1 = .ok ((fst.fdiv 4).fmod 6 == 2) s1:=bA (mm (oJ (o:=fst) rfl (jT (by decide) (by decide)) (by decide)))
  cases hz:(fst.fdiv 4).fmod 6 == 2 with
  | false => rw [hz] at mf; exact ⟨b1,U5,ff mf⟩
  | true =>
   rw [hz] at mf
   refine ⟨a.reverse,by rw [List.length_reverse,la],?_⟩
   have r:wA (ae 3) (E4 fst many a b1) s1 = .ok (tupI a.reverse) s1:=by
    show Res.ok (Val.tup (a.map Val.int).reverse) s1 = _
    rw [← List.map_reverse]; rfl
   rw [fi mf,bB r]; rfl
 obtain ⟨b2,U6,f5⟩:=s5
 have s6:∃ b3,b3.length = many ∧ gr (b8 (ah (Gq false) (ah bG (ah bp (ae 1) (mC (.int 4))) (mC (.int 6))) (d5 (aa (mC (.int 3)) (aa (mC (.int 5)) ak))))) (aL 4 (ah bS (hZ (ae 3) (fu (mC (.int 1))) ft) (hZ (ae 3) ft (fu (mC (.int 1)))))) bx (E4 fst many a b2) s1 = .nx (E4 fst many a b3) s1:=by
  obtain ⟨c,mf⟩:∃ c,b8 (ah (Gq false) (ah bG (ah bp (ae 1) (mC (.int 4))) (mC (.int 6))) (d5 (aa (mC (.int 3)) (aa (mC (.int 5)) ak)))) (E4 fst many a b2) s1 = .ok c s1:=by
   refine ⟨[Val.int 3,Val.int 5].any fun y => Gn y (.int ((fst.fdiv 4).fmod 6)),bA ?_⟩
   ·rw [aC (x:=.int ((fst.fdiv 4).fmod 6)) (y:=.tup [.int 3,.int 5]) (s1:=s1) (s2:=s1) (oJ (o:=fst) rfl (jT (by decide) (by decide)) (by decide)) (oy (vs:=[.int 3,.int 5]) rfl (by decide))]
    rfl
  cases c with
  | false => exact ⟨b2,U6,ff mf⟩
  | true =>
   refine ⟨t9 a,by rw [t_,la],?_⟩
   rw [fi mf,bB (Bd (k:=a) rfl (by lia) (by lia))]; rfl
 obtain ⟨b3,U7,f6⟩:=s6
 obtain ⟨av,e⟩:=Kr (fst:=fst) (st:=s1) kl la U7 h1 h4 (by rw [km]; exact bW ht _) (by rw [km]; exact aP hi _)
 refine ⟨av,?_⟩
 unfold oG
 rw [az,f4,aH]
 unfold tZ
 rw [az,f5,aH]
 unfold tY
 rw [az,f6,aH,e]
end
theorem Bf (M:cQ) (kl:M.S.ps.length = 1):∀ (c:Cell) (ns:List Int),ns.length ≤ 63 → itemsOf [c,.tab M.own M.line M.col M.S.qual] 0 = some (ns.map Val.int) → ∃ av,t7 M [.loc 0] [c,.tab M.own M.line M.col M.S.qual] = .ok (.bl true) av:=by
 intro c ns hl hi
 have Su:d8 [c,.tab M.own M.line M.col M.S.qual] M.own M.line M.col M.S.qual:=⟨1,rfl⟩
 obtain ⟨s,hs⟩:∃ s,[c,Cell.tab M.own M.line M.col M.S.qual] = s:=⟨_,rfl⟩
 rw [hs] at hi Su ⊢
 clear hs
 obtain ⟨fst,eo,o0⟩:=ju (μ:=[none,none,none,none,none,none,none,none,none,none,none,none,none,none]) (k:=0) hi (by decide) (by decide)
 have x1:=bB (i:=1) eo
 have q4:=gA (m:=4) (by decide) fst
 obtain ⟨many,Kt⟩:∃ many:Nat,(many:Int) = 1 + fst.fmod 4:=⟨(1 + fst.fmod 4).toNat,by lia⟩
 have x2:aL 2 (ah bS (mC (.int 1)) (ah bG (ae 1) (mC (.int 4)))) [some (.loc 0),some (.int fst),none,none,none,none,none,none,none,none,none,none,none,none,none] s = .nx [some (.loc 0),some (.int fst),some (.int (many:Int)),none,none,none,none,none,none,none,none,none,none,none,none] s:=by
  refine bB (v:=.int (many:Int)) ?_
  rw [aC (x:=.int 1) (s1:=s) rfl (jr (o:=fst) (s1:=s) rfl (by decide)),Kt]; rfl
 have h1:1 ≤ many:=by lia
 have h4:many ≤ 4:=by lia
 obtain ⟨c1,e1,_⟩:=ju (μ:=[some (.int fst),some (.int (many:Int)),none,none,none,none,none,none,none,none,none,none,none,none]) (k:=1) hi (by decide) (by decide)
 obtain ⟨g1,a,ea,la,_⟩:=dj c1 h4 s
 obtain ⟨s1,km⟩:∃ s1,s1 = s ++ g1:=⟨_,rfl⟩
 rw [← km] at ea
 have i1:itemsOf s1 0 = some (ns.map Val.int):=by rw [km]; exact aP hi _
 have U8:d8 s1 M.own M.line M.col M.S.qual:=by rw [km]; exact bW Su _
 have x3:aL 3 (ao PM.aS (aa (ao PM.aB (aa (ae 0) (aa (mC (.int 1)) ak))) (aa (ae 2) ak))) [some (.loc 0),some (.int fst),some (.int (many:Int)),none,none,none,none,none,none,none,none,none,none,none,none] s = .nx [some (.loc 0),some (.int fst),some (.int (many:Int)),some (tupI a),none,none,none,none,none,none,none,none,none,none,none] s1:=by
  refine bB (v:=tupI a) ?_
  rw [call_of (dw e1 (w:=.int (many:Int)) (s2:=s) rfl),ea]
 obtain ⟨c2,e2,_⟩:=ju (μ:=[some (.int fst),some (.int (many:Int)),some (tupI a),none,none,none,none,none,none,none,none,none,none,none]) (k:=2) i1 (by decide) (by decide)
 obtain ⟨g2,b,eb,lb,_⟩:=dj c2 h4 s1
 obtain ⟨s2,gP⟩:∃ s2,s2 = s1 ++ g2:=⟨_,rfl⟩
 rw [← gP] at eb
 have i2:itemsOf s2 0 = some (ns.map Val.int):=by rw [gP]; exact aP i1 _
 have HY:d8 s2 M.own M.line M.col M.S.qual:=by rw [gP]; exact bW U8 _
 have x4:aL 4 (ao PM.aS (aa (ao PM.aB (aa (ae 0) (aa (mC (.int 2)) ak))) (aa (ae 2) ak))) [some (.loc 0),some (.int fst),some (.int (many:Int)),some (tupI a),none,none,none,none,none,none,none,none,none,none,none] s1 = .nx (E4 fst many a b) s2:=by
  refine bB (v:=tupI b) ?_
  rw [call_of (dw e2 (w:=.int (many:Int)) (s2:=s1) rfl),eb]
 obtain ⟨av,e⟩:=Ks (fst:=fst) kl la lb h1 h4 HY i2
 refine ⟨av,?_⟩
 unfold t7
 rw [cf (np:=1) (us:=[Val.loc 0]) rfl]
 show (aK (aL 1 _) (oH M) (some (.loc 0) :: [none,none,none,none,none,none,none,none,none,none,none,none,none,none]) s).fin = _
 rw [az,x1,aH]
 unfold oH
 rw [az]
 show ((aL 2 _ [some (.loc 0),some (.int fst),none,none,none,none,none,none,none,none,none,none,none,none,none] s).cb _).fin = _
 rw [x2,aH]
 unfold t5
 rw [az,x3,aH]
 unfold t4
 rw [az,x4,aH,e]
 rfl
end rY
namespace rY
open PySem PySem.Spec L2 MN
open PyProof.Rows hiding St
noncomputable def top (i:Nat):Stmt:=PySem.Challenge.pw_polyring_k09_orders.main.body.getD i (.Pass ⟨0,0,0,0⟩)
structure Txt (K:PySem.W.Frag) (mg:Str → Option Value):Prop where
 rF:mg "ValueError" = none
 Ku:mg "all" = none
 vi:mg "bool" = none
 Kv:mg "int" = none
 cq:mg "isinstance" = none
 Bg:mg "len" = none
 Bh:mg "list" = none
 Bi:mg "max" = none
 fC:mg "range" = none
 Bj:mg "sorted" = none
 Kw:mg "str" = none
 uc:mg "sum" = none
 fY:mg "tuple" = none
 Bk:mg "zip" = none
 Bl:Glob K mg "ORDERS" PM.A6
 oK:uX K mg "AlgebraError"
 ud:uX K mg "NoLead"
 lC:uX K mg "NoOrder"
 sub:eO K mg tab
 kn:Known mg (Es kn)
theorem aM {X:Cx} {E:XK} {e:Expr} {m:ME} {i:Nat} {x:Str} {pos pos':Pos} (hN:X.N.Nodup) (he:PE X e (tE X E m)) (hi:X.N[i]? = some x:=by rfl) (hx:Loc X.env.scope x:=by first | exact Or.inl rfl | exact Or.inr rfl) (hs:swapsWith e (some (.Name x pos')) pos.line X.env = pure false:=by rfl) (hf:X.fn x = true ∨ X.env.scope.names.lookup x = some .local:=by first | exact .inl rfl | exact .inr rfl | assumption):PS X (.Assign [.Name x pos'] e pos) (tS X E (aL i m)):=Gi i hN he hi hx hs hf
section
variable {P:Program} {w:World} {K:PySem.W.Frag} {mg:Str → Option Value} {base:Heap}
theorem ue:bc ["thing"] ["thing"] (aq (top 6)):=⟨rfl,rfl,rfl,by decide +kernel,rfl,by decide +kernel,by decide +kernel⟩
theorem uf {f:Addr} {fd:FuncData} (F:jw K "is_order" "is_order" (top 6) f fd) (hm:mg "is_order" = some (.ref f)) (T:Txt K mg) :FnAt P w K mg base "is_order" 1 PM.eG :=
 FnAt.mk F hm ue (fun _ _ _ _ _ _ => xx fun _ => rfl) fun dk A outer s H E hr =>
  by
   refine aJ ?_
   refine bh ?_
   refine ik ?_ ?_
   ·refine ji zK (by rfl) T.cq (by rfl) T.Kw PyProof.Rows.boot_str ?_
    exact (af 0)
   refine kE ?_
   refine fK ?_ ?_ ?_
   ·exact zG
   ·exact (af 0)
   exact (CH (by rfl) T.Bl)
theorem ug:bc ["order","exponents"] ["order","exponents"] (aq (top 8)):=⟨rfl,rfl,rfl,by decide +kernel,rfl,by decide +kernel,by decide +kernel⟩
theorem uh {f:Addr} {fd:FuncData} (F:jw K "standing" "standing" (top 8) f fd) (hm:mg "standing" = some (.ref f)) (T:Txt K mg) :FnAt P w K mg base "standing" 1 PM.cF :=
 FnAt.mk F hm ug (fun _ _ _ _ _ _ => jO fun _ _ => rfl) fun dk A outer s H E hr =>
  by
   refine aJ ?_
   refine bh ?_
   refine Ju ?_ ?_ ?_
   ·refine b7 ?_ ?_ je
    ·exact (cP hr.units)
    exact (af 0)
   ·exact (af 1)
   refine ay ?_ ?_ ?_
   ·exact cn
   ·refine gQ ?_
    refine aj ?_ au
    refine dc ?_ (by rfl) T.uc PyProof.Rows.Boot.«sum» ?_
    ·exact (gH hr.hd)
    refine aj ?_ au
    exact (af 1)
   exact (af 1)
theorem j_:(["mine","theirs"]:List Str).Nodup:=by decide +kernel
theorem vj:bc ["one","other"] ["one","other"] (aq (top 11)):=⟨rfl,rfl,rfl,by decide +kernel,rfl,by decide +kernel,by decide +kernel⟩
theorem vk {f:Addr} {fd:FuncData} (F:jw K "divides" "divides" (top 11) f fd) (hm:mg "divides" = some (.ref f)) (T:Txt K mg) :FnAt P w K mg base "divides" 1 PM.eV :=
 FnAt.mk F hm vj (fun _ _ _ _ _ _ => jO fun _ _ => rfl) fun dk A outer s H E hr =>
  by
   refine aJ ?_
   refine bh ?_
   refine dc ?_ (by rfl) T.Ku PyProof.Rows.boot_all ?_
   ·exact (xn hr.hd)
   refine aj ?_ au
   refine eZ (N:=["mine","theirs"]) (k:=2) rfl rfl (sR (cl:=[]) (caps:=[]) (by rfl) .nil (by rfl) (by rfl) (by rfl) (by rfl) (by rfl) (by rfl)) ?_ (fun _ _ _ _ => ?_) (fun _ _ _ _ => fX) (fun _ _ _ _ => ?_)
   ·refine uR false false (by rfl) T.Bk ?_
    refine aj ?_ ?_
    ·exact (af 0)
    refine aj ?_ au
    exact (af 1)
   ·refine uQ rfl ?_
    refine gv ?_ ?_
    ·exact (bT 0 j_)
    refine gv ?_ qT
    exact (bT 1 j_)
   refine fK ?_ ?_ ?_
   ·exact Gm
   ·exact (af 0)
   exact (af 1)
theorem oM:(["mine","theirs"]:List Str).Nodup:=by decide +kernel
theorem Bm:bc ["one","other"] ["one","other"] (aq (top 12)):=⟨rfl,rfl,rfl,by decide +kernel,rfl,by decide +kernel,by decide +kernel⟩
theorem Bn {f:Addr} {fd:FuncData} (F:jw K "least" "least" (top 12) f fd) (hm:mg "least" = some (.ref f)) (T:Txt K mg) :FnAt P w K mg base "least" 1 PM.iz :=
 FnAt.mk F hm Bm (fun _ _ _ _ _ _ => jO fun _ _ => rfl) fun dk A outer s H E hr =>
  by
   refine aJ ?_
   refine bh ?_
   refine dQ ?_ (by rfl) T.fY PyProof.Rows.boot_tuple ?_
   ·exact fD
   refine aj ?_ au
   refine eZ (N:=["mine","theirs"]) (k:=2) rfl rfl (sR (cl:=[]) (caps:=[]) (by rfl) .nil (by rfl) (by rfl) (by rfl) (by rfl) (by rfl) (by rfl)) ?_ (fun _ _ _ _ => ?_) (fun _ _ _ _ => fX) (fun _ _ _ _ => ?_)
   ·refine uR false false (by rfl) T.Bk ?_
    refine aj ?_ ?_
    ·exact (af 0)
    refine aj ?_ au
    exact (af 1)
   ·refine uQ rfl ?_
    refine gv ?_ ?_
    ·exact (bT 0 oM)
    refine gv ?_ qT
    exact (bT 1 oM)
   refine dc ?_ (by rfl) T.Bi PyProof.Rows.Boot.«max» ?_
   ·exact (pZ hr.hd)
   refine aj ?_ ?_
   ·exact (af 0)
   refine aj ?_ au
   exact (af 1)
theorem qt:(["mine","theirs"]:List Str).Nodup:=by decide +kernel
theorem DY:bc ["one","other"] ["one","other"] (aq (top 13)):=⟨rfl,rfl,rfl,by decide +kernel,rfl,by decide +kernel,by decide +kernel⟩
theorem DZ {f:Addr} {fd:FuncData} (F:jw K "less" "less" (top 13) f fd) (hm:mg "less" = some (.ref f)) (T:Txt K mg) :FnAt P w K mg base "less" 1 PM.jZ :=
 FnAt.mk F hm DY (fun _ _ _ _ _ _ => jO fun _ _ => rfl) fun dk A outer s H E hr =>
  by
   refine aJ ?_
   refine bh ?_
   refine dQ ?_ (by rfl) T.fY PyProof.Rows.boot_tuple ?_
   ·exact fD
   refine aj ?_ au
   refine eZ (N:=["mine","theirs"]) (k:=2) rfl rfl (sR (cl:=[]) (caps:=[]) (by rfl) .nil (by rfl) (by rfl) (by rfl) (by rfl) (by rfl) (by rfl)) ?_ (fun _ _ _ _ => ?_) (fun _ _ _ _ => fX) (fun _ _ _ _ => ?_)
   ·refine uR false false (by rfl) T.Bk ?_
    refine aj ?_ ?_
    ·exact (af 0)
    refine aj ?_ au
    exact (af 1)
   ·refine uQ rfl ?_
    refine gv ?_ ?_
    ·exact (bT 0 qt)
    refine gv ?_ qT
    exact (bT 1 qt)
   refine ay ?_ ?_ ?_
   ·exact mV
   ·exact (af 0)
   exact (af 1)
theorem ph:bc ["_law_found"] ["_law_found"] (aq (top 15)):=⟨rfl,rfl,rfl,by decide +kernel,rfl,by decide +kernel,by decide +kernel⟩
theorem pj {f:Addr} {fd:FuncData} (F:jw K "_law_whole" "_law_whole" (top 15) f fd) (hm:mg "_law_whole" = some (.ref f)) (T:Txt K mg) :FnAt P w K mg base "_law_whole" 1 PM.eQ :=
 FnAt.mk F hm ph (fun _ _ _ _ _ _ => xx fun _ => rfl) fun dk A outer s H E hr =>
  by
   refine aJ ?_
   refine bh ?_
   refine ik ?_ ?_
   ·refine ji zJ (by rfl) T.cq (by rfl) T.Kv PyProof.Rows.boot_int ?_
    exact (af 0)
   refine kE ?_
   refine Gh ?_
   refine ji kH (by rfl) T.cq (by rfl) T.vi PyProof.Rows.boot_bool ?_
   exact (af 0)
theorem bD:bc ["_law_script","_law_k","_law_cell","_law_one","_law_found","_law_turn"] ["_law_script","_law_k"] (aq (top 16)):=⟨rfl,rfl,rfl,by decide +kernel,rfl,by decide +kernel,by decide +kernel⟩
theorem mP {f:Addr} {fd:FuncData} (F:jw K "_law_cell_at" "_law_cell_at" (top 16) f fd) (hm:mg "_law_cell_at" = some (.ref f)) (T:Txt K mg) :FnAt P w K mg base "_law_cell_at" 1 PM.aB :=
 FnAt.mk F hm bD (fun _ _ _ _ _ _ => jO fun _ _ => rfl) fun dk A outer s H E hr =>
  by
   refine ax ?_ ?_
   ·refine aM ?_ ?_
    ·exact bD.nd
    exact aw
   refine ax ?_ ?_
   ·refine dR ?_ ?_ cE
    ·refine b7 ?_ ?_ ?_
     ·exact Gk
     ·exact (af 1)
     refine dc ?_ (by rfl) T.Bg PySem.boot_len ?_
     ·exact kG
     refine aj ?_ au
     exact (af 0)
    refine aJ ?_
    refine aM ?_ ?_
    ·exact bD.nd
    refine bw ?_ ?_
    ·exact (af 0)
    exact (af 1)
   refine ax ?_ ?_
   ·refine aM ?_ ?_
    ·exact bD.nd
    refine ay ?_ ?_ aw
    ·exact bF
    refine ay ?_ ?_ aw
    ·exact cn
    refine ay ?_ ?_ ?_
    ·exact cn
    ·refine ay ?_ ?_ ?_
     ·exact cn
     ·refine ay ?_ ?_ aw
      ·exact cZ
      exact (af 2)
     refine ay ?_ ?_ ?_
     ·exact cZ
     ·refine ay ?_ aw ?_
      ·exact cZ
      exact (af 1)
     exact (af 1)
    refine ay ?_ aw ?_
    ·exact cZ
    exact (af 1)
   refine ax ?_ ?_
   ·refine aM ?_ ?_
    ·exact bD.nd
    exact aw
   refine ax ?_ ?_
   ·refine kI gw rfl ?_ ?_ ?_
    ·refine dh (by rfl) T.fC ?_
     exact (dH au)
    ·exact (bT 5 bD.nd)
    refine ax ?_ ?_
    ·refine aM ?_ ?_
     ·exact bD.nd
     refine ay ?_ ?_ aw
     ·exact bF
     refine ay ?_ ?_ ?_
     ·exact cn
     ·refine ay ?_ ?_ aw
      ·exact cZ
      refine ay ?_ ?_ aw
      ·exact bF
      refine ay ?_ ?_ ?_
      ·exact cZ
      ·exact (af 3)
      exact (af 3)
     exact (af 5)
    refine aJ ?_
    refine aM ?_ ?_
    ·exact bD.nd
    refine ay ?_ ?_ ?_
    ·exact cn
    ·refine ay ?_ ?_ aw
     ·exact cZ
     exact (af 4)
    exact (af 3)
   refine aJ ?_
   refine bh ?_
   exact (af 4)
theorem mQ:bc ["_law_ring","_law_number_here"] ["_law_ring","_law_number_here"] (aq (top 17)):=⟨rfl,rfl,rfl,by decide +kernel,rfl,by decide +kernel,by decide +kernel⟩
theorem mR {f:Addr} {fd:FuncData} (F:jw K "_law_settled" "_law_settled" (top 17) f fd) (hm:mg "_law_settled" = some (.ref f)) (T:Txt K mg) :FnAt P w K mg base "_law_settled" 1 PM.eJ :=
 FnAt.mk F hm mQ (fun _ _ _ _ _ _ => jO fun _ _ => rfl) fun dk A outer s H E hr =>
  by
   refine ax ?_ ?_
   ·refine dR ?_ ?_ cE
    ·refine b7 ?_ ?_ aw
     ·exact (cP hr.units)
     exact (af 0)
    refine aJ ?_
    refine bh ?_
    exact (af 1)
   refine aJ ?_
   refine bh ?_
   refine ay ?_ ?_ ?_
   ·exact bF
   ·exact (af 1)
   exact (af 0)
theorem oN:bc ["_law_cell"] ["_law_cell"] (aq (top 19)):=⟨rfl,rfl,rfl,by decide +kernel,rfl,by decide +kernel,by decide +kernel⟩
theorem oO {f:Addr} {fd:FuncData} (F:jw K "_law_number" "_law_number" (top 19) f fd) (hm:mg "_law_number" = some (.ref f)) (T:Txt K mg) :FnAt P w K mg base "_law_number" 1 PM.bH :=
 FnAt.mk F hm oN (fun _ _ _ _ _ _ => xx fun _ => rfl) fun dk A outer s H E hr =>
  by
   refine ax ?_ ?_
   ·refine dR ?_ ?_ cE
    ·refine b7 ?_ ?_ aw
     ·exact (cP hr.units)
     refine ay ?_ ?_ aw
     ·exact bF
     exact (af 0)
    refine aJ ?_
    refine bh ?_
    refine ay ?_ ?_ ?_
    ·exact cZ
    ·refine ay ?_ aw ?_
     ·exact mV
     refine ay ?_ ?_ aw
     ·exact cZ
     refine ay ?_ ?_ aw
     ·exact bF
     refine ay ?_ ?_ aw
     ·exact b_
     exact (af 0)
    refine ay ?_ ?_ ?_
    ·exact bF
    ·refine ay ?_ ?_ aw
     ·exact b_
     exact (af 0)
    exact (ay CL aw aw)
   refine aJ ?_
   refine bh ?_
   refine ay ?_ ?_ aw
   ·exact mV
   refine ay ?_ ?_ aw
   ·exact bF
   refine ay ?_ ?_ aw
   ·exact b_
   exact (af 0)
theorem aW:bc ["_law_cell","_law_many","_law_found","_law_rest","_law_wide","_law_k","_law_exponent"] ["_law_cell","_law_many"] (aq (top 20)):=⟨rfl,rfl,rfl,by decide +kernel,rfl,by decide +kernel,by decide +kernel⟩
theorem kd {f:Addr} {fd:FuncData} (F:jw K "_law_exponents" "_law_exponents" (top 20) f fd) (hm:mg "_law_exponents" = some (.ref f)) (T:Txt K mg) :FnAt P w K mg base "_law_exponents" 1 PM.aS :=
 FnAt.mk F hm aW (fun _ _ _ _ _ _ => jO fun _ _ => rfl) fun dk A outer s H E hr =>
  by
   refine ax ?_ ?_
   ·refine aM ?_ ?_
    ·exact aW.nd
    exact (gR au)
   refine ax ?_ ?_
   ·refine aM ?_ ?_
    ·exact aW.nd
    exact (af 0)
   refine ax ?_ ?_
   ·refine aM ?_ ?_
    ·exact aW.nd
    exact aw
   refine ax ?_ ?_
   ·refine dR ?_ ?_ cE
    ·refine b7 ?_ ?_ aw
     ·exact (cP hr.units)
     refine ay ?_ ?_ aw
     ·exact bF
     exact (af 0)
    refine ax ?_ ?_
    ·refine aM ?_ ?_
     ·exact aW.nd
     refine ay ?_ ?_ aw
     ·exact b_
     exact (af 0)
    refine aJ ?_
    refine aM ?_ ?_
    ·exact aW.nd
    exact aw
   refine ax ?_ ?_
   ·refine kI gw rfl ?_ ?_ ?_
    ·refine dh (by rfl) T.fC ?_
     refine aj ?_ au
     exact (af 1)
    ·exact (bT 5 aW.nd)
    refine ax ?_ ?_
    ·refine aM ?_ ?_
     ·exact aW.nd
     refine ay ?_ ?_ ?_
     ·exact bF
     ·exact (af 3)
     exact (af 4)
    refine ax ?_ ?_
    ·refine aM ?_ ?_
     ·exact aW.nd
     refine ay ?_ ?_ ?_
     ·exact b_
     ·exact (af 3)
     exact (af 4)
    refine ax ?_ ?_
    ·refine dR ?_ ?_ cE
     ·refine zy ?_
      refine zx ?_ ?_
      ·refine b7 ?_ ?_ aw
       ·exact (cP hr.units)
       exact (af 4)
      refine vV ?_
      refine b7 ?_ ?_ ?_
      ·exact (cP hr.units)
      ·refine ay ?_ ?_ aw
       ·exact bF
       refine ay ?_ ?_ aw
       ·exact b_
       exact (af 0)
      exact (af 5)
     refine aJ ?_
     refine aM ?_ ?_
     ·exact aW.nd
     refine ay ?_ ?_ aw
     ·exact bF
     refine ay ?_ ?_ aw
     ·exact b_
     exact (af 0)
    refine aJ ?_
    refine jI ?_
    refine kM ?_ ?_
    ·exact (af 2)
    refine aj ?_ au
    exact (af 6)
   refine aJ ?_
   refine bh ?_
   refine dQ ?_ (by rfl) T.fY PyProof.Rows.boot_tuple ?_
   ·exact fD
   refine aj ?_ au
   exact (af 2)
theorem i7:bc ["_law_order","_law_one","_law_other","_law_k"] ["_law_order","_law_one","_law_other"] (aq (top 22)):=⟨rfl,rfl,rfl,by decide +kernel,rfl,by decide +kernel,by decide +kernel⟩
theorem pk {f:Addr} {fd:FuncData} (F:jw K "_law_above" "_law_above" (top 22) f fd) (hm:mg "_law_above" = some (.ref f)) (T:Txt K mg) :FnAt P w K mg base "_law_above" 1 PM.cG :=
 FnAt.mk F hm i7 (fun _ _ _ _ _ _ => C1 fun _ _ _ => rfl) fun dk A outer s H E hr =>
  by
   refine ax ?_ ?_
   ·refine dR ?_ ?_ cE
    ·refine zy ?_
     refine zx ?_ ?_
     ·refine b7 ?_ ?_ je
      ·exact (cP hr.units)
      exact (af 0)
     refine vV ?_
     refine b7 ?_ ?_ ?_
     ·exact (jh hr.units)
     ·refine dc ?_ (by rfl) T.uc PyProof.Rows.Boot.«sum» ?_
      ·exact (gH hr.hd)
      refine aj ?_ au
      exact (af 1)
     refine dc ?_ (by rfl) T.uc PyProof.Rows.Boot.«sum» ?_
     ·exact (gH hr.hd)
     refine aj ?_ au
     exact (af 2)
    refine aJ ?_
    refine bh ?_
    refine fK ?_ ?_ ?_
    ·exact (rq hr.units)
    ·refine dc ?_ (by rfl) T.uc PyProof.Rows.Boot.«sum» ?_
     ·exact (gH hr.hd)
     refine aj ?_ au
     exact (af 1)
    refine dc ?_ (by rfl) T.uc PyProof.Rows.Boot.«sum» ?_
    ·exact (gH hr.hd)
    refine aj ?_ au
    exact (af 2)
   refine ax ?_ ?_
   ·refine kI gw rfl ?_ ?_ ?_
    ·refine dh (by rfl) T.fC ?_
     refine aj ?_ au
     refine dc ?_ (by rfl) T.Bg PySem.boot_len ?_
     ·exact kG
     refine aj ?_ au
     exact (af 1)
    ·exact (bT 3 i7.nd)
    refine aJ ?_
    refine dR ?_ ?_ cE
    ·refine b7 ?_ ?_ ?_
     ·exact (jh hr.units)
     ·refine bw ?_ ?_
      ·exact (af 1)
      exact (af 3)
     refine bw ?_ ?_
     ·exact (af 2)
     exact (af 3)
    refine aJ ?_
    refine bh ?_
    refine fK ?_ ?_ ?_
    ·exact (rq hr.units)
    ·refine bw ?_ ?_
     ·exact (af 1)
     exact (af 3)
    refine bw ?_ ?_
    ·exact (af 2)
    exact (af 3)
   refine aJ ?_
   exact (bh jF)
theorem oP:bc ["order"] ["order"] (aq (top 7)):=⟨rfl,rfl,rfl,by decide +kernel,rfl,by decide +kernel,by decide +kernel⟩
theorem oQ {f:Addr} {fd:FuncData} (F:jw K "check_order" "check_order" (top 7) f fd) (hm:mg "check_order" = some (.ref f)) (T:Txt K mg) (vm:FnAt P w K mg base "is_order" 1 PM.eG):FnAt P w K mg base "check_order" 2 PM.aQ :=
 FnAt.mk F hm oP (fun _ _ _ _ _ _ => xx fun _ => rfl) fun dk A outer s H E hr =>
  by
   refine aJ ?_
   refine dR ?_ ?_ cE
   ·refine kF ?_
    refine jf ?_
    refine bq vm hr (by decide) (by rfl) aF ?_
    refine aj ?_ au
    exact (af 0)
   refine aJ ?_
   refine pW nO rfl T.lC (by rfl) ?_
   exact (fM au)
theorem cH:bc ["_law_ring","_law_pairs_here","_law_found","_law_pair","_law_rows","_law_exponents_here"] ["_law_ring","_law_pairs_here"] (aq (top 18)):=⟨rfl,rfl,rfl,by decide +kernel,rfl,by decide +kernel,by decide +kernel⟩
theorem lE {f:Addr} {fd:FuncData} (F:jw K "_law_gathered" "_law_gathered" (top 18) f fd) (hm:mg "_law_gathered" = some (.ref f)) (T:Txt K mg) (iC:FnAt P w K mg base "_law_settled" 1 PM.eJ):FnAt P w K mg base "_law_gathered" 2 PM.ck :=
 FnAt.mk F hm cH (fun _ _ _ _ _ _ => jO fun _ _ => rfl) fun dk A outer s H E hr =>
  by
   refine ax ?_ ?_
   ·refine aM ?_ ?_
    ·exact cH.nd
    exact zW
   refine ax ?_ ?_
   ·refine kI gw rfl ?_ ?_ ?_
    ·refine nL ?_
     exact (af 1)
    ·exact (bT 3 cH.nd)
    refine aJ ?_
    refine CZ hr.units ?_ ?_ ?_
    ·exact (af 2)
    ·refine bw ?_ aw
     exact (af 3)
    refine ay ?_ ?_ ?_
    ·exact cn
    ·refine zZ hr.units ?_ ?_ aw
     ·exact (af 2)
     refine bw ?_ aw
     exact (af 3)
    refine bw ?_ aw
    exact (af 3)
   refine ax ?_ ?_
   ·refine aM ?_ ?_
    ·exact cH.nd
    exact (gR au)
   refine ax ?_ ?_
   ·refine kI gw rfl ?_ ?_ ?_
    ·refine nL ?_
     refine AH (by rfl) (by rfl) T.Bj PyProof.Rows.Boot.«sorted» ?_
     exact (af 2)
    ·exact (bT 5 cH.nd)
    refine aJ ?_
    refine dR ?_ ?_ cE
    ·refine b7 ?_ ?_ aw
     ·exact (jh hr.units)
     refine bq iC hr (by decide) (by rfl) aF ?_
     refine aj ?_ ?_
     ·exact (af 0)
     refine aj ?_ au
     refine v9 hr.units ?_ ?_
     ·exact (af 2)
     exact (af 5)
    refine aJ ?_
    refine jI ?_
    refine kM ?_ ?_
    ·exact (af 4)
    refine aj ?_ au
    refine gQ ?_
    refine aj ?_ ?_
    ·exact (af 5)
    refine aj ?_ au
    refine bq iC hr (by decide) (by rfl) aF ?_
    refine aj ?_ ?_
    ·exact (af 0)
    refine aj ?_ au
    refine v9 hr.units ?_ ?_
    ·exact (af 2)
    exact (af 5)
   refine aJ ?_
   refine bh ?_
   exact (af 4)
theorem e8:bc ["_law_script","_law_place","_law_many","_law_size","_law_pairs_here","_law_k","_law_exponents_here"] ["_law_script","_law_place","_law_many","_law_size"] (aq (top 21)):=⟨rfl,rfl,rfl,by decide +kernel,rfl,by decide +kernel,by decide +kernel⟩
theorem pq {f:Addr} {fd:FuncData} (F:jw K "_law_pairs" "_law_pairs" (top 21) f fd) (hm:mg "_law_pairs" = some (.ref f)) (T:Txt K mg) (bu:FnAt P w K mg base "_law_cell_at" 1 PM.aB) (gk:FnAt P w K mg base "_law_number" 1 PM.bH) (cJ:FnAt P w K mg base "_law_exponents" 1 PM.aS):FnAt P w K mg base "_law_pairs" 2 PM.fG :=
 FnAt.mk F hm e8 (fun _ _ _ _ _ _ => Nr fun _ _ _ _ => rfl) fun dk A outer s H E hr =>
  by
   refine ax ?_ ?_
   ·refine aM ?_ ?_
    ·exact e8.nd
    exact (gR au)
   refine ax ?_ ?_
   ·refine kI gw rfl ?_ ?_ ?_
    ·refine dh (by rfl) T.fC ?_
     refine aj ?_ au
     exact (af 3)
    ·exact (bT 5 e8.nd)
    refine ax ?_ ?_
    ·refine aM ?_ ?_
     ·exact e8.nd
     refine bq cJ hr (by decide) (by rfl) aF ?_
     refine aj ?_ ?_
     ·refine bq bu hr (by decide) (by rfl) aF ?_
      refine aj ?_ ?_
      ·exact (af 0)
      refine aj ?_ au
      refine ay ?_ ?_ ?_
      ·exact cn
      ·exact (af 1)
      refine ay ?_ aw ?_
      ·exact cZ
      exact (af 5)
     refine aj ?_ au
     exact (af 2)
    refine aJ ?_
    refine jI ?_
    refine kM ?_ ?_
    ·exact (af 4)
    refine aj ?_ au
    refine gQ ?_
    refine aj ?_ ?_
    ·exact (af 6)
    refine aj ?_ au
    refine bq gk hr (by decide) (by rfl) aF ?_
    refine aj ?_ au
    refine bq bu hr (by decide) (by rfl) aF ?_
    refine aj ?_ ?_
    ·exact (af 0)
    refine aj ?_ au
    refine ay ?_ ?_ aw
    ·exact cn
    refine ay ?_ ?_ ?_
    ·exact cn
    ·exact (af 1)
    refine ay ?_ aw ?_
    ·exact cZ
    exact (af 5)
   refine aJ ?_
   refine bh ?_
   exact (af 4)
theorem oR:(["_law_one"]:List Str).Nodup:=by decide +kernel
theorem pz:bc ["_law_found","_law_due"] ["_law_found","_law_due"] (aq (top 26)):=⟨rfl,rfl,rfl,by decide +kernel,rfl,by decide +kernel,by decide +kernel⟩
theorem pB {f:Addr} {fd:FuncData} (F:jw K "_law_tuple" "_law_tuple" (top 26) f fd) (hm:mg "_law_tuple" = some (.ref f)) (T:Txt K mg) (rG:FnAt P w K mg base "_law_whole" 1 PM.eQ):FnAt P w K mg base "_law_tuple" 2 PM.dY :=
 FnAt.mk F hm pz (fun _ _ _ _ _ _ => jO fun _ _ => rfl) fun dk A outer s H E hr =>
  by
   refine aJ ?_
   refine bh ?_
   refine ik ?_ ?_
   ·refine ji nJ (by rfl) T.cq (by rfl) T.fY PyProof.Rows.boot_tuple ?_
    exact (af 0)
   refine ik ?_ ?_
   ·refine fK ?_ ?_ ?_
    ·exact (cP hr.units)
    ·refine eZ (N:=["_law_one"]) (k:=1) rfl rfl (sR (cl:=[]) (caps:=[]) (by rfl) .nil (by rfl) (by rfl) (by rfl) (by rfl) (by rfl) (by rfl)) ?_ (fun _ _ _ _ => ?_) (fun _ _ _ _ => ?_) (fun _ _ _ _ => ?_)
     ·refine nL ?_
      exact (af 0)
     ·exact (bT 0 oR)
     ·refine qU ?_
      refine kF ?_
      refine jf ?_
      refine bq rG hr (by decide) (by rfl) v8 ?_
      refine aj ?_ au
      exact (af 0)
     exact (af 0)
    exact (gR au)
   refine kE ?_
   refine fK ?_ ?_ ?_
   ·exact (cP hr.units)
   ·exact (af 0)
   exact (af 1)
theorem yc:bc ["order","one","other"] ["order","one","other"] (aq (top 9)):=⟨rfl,rfl,rfl,by decide +kernel,rfl,by decide +kernel,by decide +kernel⟩
theorem yd {f:Addr} {fd:FuncData} (F:jw K "higher" "higher" (top 9) f fd) (hm:mg "higher" = some (.ref f)) (T:Txt K mg) (fO:FnAt P w K mg base "standing" 1 PM.cF) (gm:FnAt P w K mg base "check_order" 2 PM.aQ):FnAt P w K mg base "higher" 3 PM.fj :=
 FnAt.mk F hm yc (fun _ _ _ _ _ _ => C1 fun _ _ _ => rfl) fun dk A outer s H E hr =>
  by
   refine ax ?_ ?_
   ·refine jI ?_
    refine bq gm hr (by decide) (by rfl) aF ?_
    refine aj ?_ au
    exact (af 0)
   refine aJ ?_
   refine bh ?_
   refine fK ?_ ?_ ?_
   ·exact (rq hr.units)
   ·refine bq fO hr (by decide) (by rfl) aF ?_
    refine aj ?_ ?_
    ·exact (af 0)
    refine aj ?_ au
    exact (af 1)
   refine bq fO hr (by decide) (by rfl) aF ?_
   refine aj ?_ ?_
   ·exact (af 0)
   refine aj ?_ au
   exact (af 2)
noncomputable def N8:Option Expr:=A5 (aO (top 10))
noncomputable def M:cQ:=⟨JI N8 "lead.<locals>.<lambda>" ["term"] "order","lead",24,24⟩
theorem N9:M.S.Ok:=e_.TY rfl rfl rfl rfl rfl rfl rfl (by decide +kernel) (fun _ _ _ _ => xx fun _ => rfl)
theorem D0 (T:Txt K mg) (fO:FnAt P w K mg base "standing" 1 PM.cF):nU P w K mg base M.S 1 PM.dZ :=
 ⟨N9,fun f c c' A outer s H hr => by
   refine bq fO hr (by decide) (by rfl) JD ?_
   refine aj ?_ ?_
   ·exact (af 1)
   refine aj ?_ au
   refine bw ?_ aw
   exact (af 0)⟩
theorem D3:bc ["order","row"] ["order","row"] (aq (top 10)):=⟨rfl,rfl,rfl,by decide +kernel,rfl,by decide +kernel,by decide +kernel⟩
theorem D4 {f:Addr} {fd:FuncData} {ko tT:Addr} (B:GB K mg base "lead" ko tT) (F:jw K "lead" "lead" (top 10) f fd) (hn:PySem.W.nsIn K mainGlobals "lead" = some (some (.ref f))) (hm:mg "lead" = some (.ref f)) (T:Txt K mg) (fO:FnAt P w K mg base "standing" 1 PM.cF) (gm:FnAt P w K mg base "check_order" 2 PM.aQ) (S:nU P w K mg base M.S 1 PM.dZ):FnAt P w K mg base "lead" 4 (PM.lead M) :=
 FnAt.TL B F hn hm D3 (fun _ _ _ _ _ _ => jO fun _ _ => rfl) fun A outer s H E hr =>
  by
   refine ax ?_ ?_
   ·refine jI ?_
    refine bq gm hr (by decide) (by rfl) aF ?_
    refine aj ?_ au
    exact (af 0)
   refine ax ?_ ?_
   ·refine dR ?_ ?_ cE
    ·refine b7 ?_ ?_ aw
     ·exact (cP hr.units)
     refine dc ?_ (by rfl) T.Bg PySem.boot_len ?_
     ·exact kG
     refine aj ?_ au
     exact (af 1)
    refine aJ ?_
    refine pW nO rfl T.ud (by rfl) ?_
    exact (fM au)
   refine aJ ?_
   refine bh ?_
   refine DG (L:=M) S B (by rfl) (hr.mono (by decide)) (by rfl) T.Bi PyProof.Rows.Boot.«max» 0 rfl ?_
   exact (af 1)
theorem ke:bc ["_law_order","_law_one","_law_other"] ["_law_order","_law_one","_law_other"] (aq (top 25)):=⟨rfl,rfl,rfl,by decide +kernel,rfl,by decide +kernel,by decide +kernel⟩
theorem kf {f:Addr} {fd:FuncData} (F:jw K "_law_no_higher" "_law_no_higher" (top 25) f fd) (hm:mg "_law_no_higher" = some (.ref f)) (T:Txt K mg) (oS:FnAt P w K mg base "higher" 3 PM.fj):FnAt P w K mg base "_law_no_higher" 4 bX :=
 FnAt.mk F hm ke (fun _ _ _ _ _ _ => C1 fun _ _ _ => rfl) fun dk A outer s H E hr =>
  by
   refine ax ?_ ?_
   ·refine uV T.kn ⟨fun _ => rfl,rfl,rfl⟩ ?_ ?_
    ·refine qV ?_
     refine sQ ?_
     refine uW oS hr (by decide) (by rfl) (fun _ => rfl) (fun _ => ?_)
     refine aj ?_ ?_
     ·exact (af 0)
     refine aj ?_ ?_
     ·exact (af 1)
     refine aj ?_ au
     exact (af 2)
    refine nP T.sub T.lC (by rfl) (fun _ _ => ?_) uU
    refine aJ ?_
    exact (bh jF)
   refine aJ ?_
   exact (bh jF)
theorem rH:bc ["_law_order","_law_row"] ["_law_order","_law_row"] (aq (top 23)):=⟨rfl,rfl,rfl,by decide +kernel,rfl,by decide +kernel,by decide +kernel⟩
theorem rK {f:Addr} {fd:FuncData} (F:jw K "_law_told" "_law_told" (top 23) f fd) (hm:mg "_law_told" = some (.ref f)) (T:Txt K mg) (vn:FnAt P w K mg base "lead" 4 (PM.lead M)):FnAt P w K mg base "_law_told" 5 (aY M) :=
 FnAt.mk F hm rH (fun _ _ _ _ _ _ => jO fun _ _ => rfl) fun dk A outer s H E hr =>
  by
   refine aJ ?_
   refine uV T.kn ⟨fun _ => rfl,rfl,rfl⟩ ?_ ?_
   ·refine qV ?_
    refine CT ?_
    refine CS ?_
    refine sP ?_ ?_
    ·exact (zP fun _ => je)
    refine sP ?_ CQ
    refine uW vn hr (by decide) (by rfl) (fun _ => rfl) (fun _ => ?_)
    refine aj ?_ ?_
    ·exact (af 0)
    refine aj ?_ au
    exact (af 1)
   refine nP T.sub T.lC (by rfl) (fun _ _ => ?_) ?_
   ·refine aJ ?_
    refine bh ?_
    refine gQ ?_
    refine fM ?_
    exact (u3 au)
   refine nP T.sub T.ud (by rfl) (fun _ _ => ?_) uU
   refine aJ ?_
   refine bh ?_
   refine gQ ?_
   refine fM ?_
   exact (u3 au)
theorem hJ:bc ["_law_order","_law_row","e"] ["_law_order","_law_row"] (aq (top 24)):=⟨rfl,rfl,rfl,by decide +kernel,rfl,by decide +kernel,by decide +kernel⟩
theorem mS {f:Addr} {fd:FuncData} (F:jw K "_law_refused" "_law_refused" (top 24) f fd) (hm:mg "_law_refused" = some (.ref f)) (T:Txt K mg) (vn:FnAt P w K mg base "lead" 4 (PM.lead M)):FnAt P w K mg base "_law_refused" 5 (bg M) :=
 FnAt.mk F hm hJ (fun _ _ _ _ _ _ => jO fun _ _ => rfl) fun dk A outer s H E hr =>
  by
   refine ax ?_ ?_
   ·refine uV T.kn ⟨fun _ => rfl,rfl,rfl⟩ ?_ ?_
    ·refine qV ?_
     refine sQ ?_
     refine uW vn hr (by decide) (by rfl) (fun _ => rfl) (fun _ => ?_)
     refine aj ?_ ?_
     ·exact (af 0)
     refine aj ?_ au
     exact (af 1)
    refine Gz (i:=2) T.sub hJ.nd T.oK (by rfl) (fun _ _ => ?_) uU
    refine aJ ?_
    refine bh ?_
    exact (CW 2 T.sub T.rF gi (by rfl) T.cq (by rfl))
   refine aJ ?_
   exact (bh jF)
theorem pC:(["_law_term","_law_found","_law_order"]:List Str).Nodup:=by decide +kernel
theorem gX:bc ["_law_order","_law_row","_law_handed","_law_found"] ["_law_order","_law_row"] (aq (top 27)):=⟨rfl,rfl,rfl,by decide +kernel,rfl,by decide +kernel,by decide +kernel⟩
theorem rL {f:Addr} {fd:FuncData} (F:jw K "_law_lead" "_law_lead" (top 27) f fd) (hm:mg "_law_lead" = some (.ref f)) (T:Txt K mg) (gY:FnAt P w K mg base "_law_above" 1 PM.cG) (fZ:FnAt P w K mg base "_law_told" 5 (aY M)) (fP:FnAt P w K mg base "_law_refused" 5 (bg M)):FnAt P w K mg base "_law_lead" 6 (cT M) :=
 FnAt.mk F hm gX (fun _ _ _ _ _ _ => jO fun _ _ => rfl) fun dk A outer s H E hr =>
  by
   refine ax ?_ ?_
   ·refine dR ?_ ?_ cE
    ·refine b7 ?_ ?_ ?_
     ·exact (cP hr.units)
     ·exact (af 1)
     exact (gR au)
    refine aJ ?_
    refine bh ?_
    refine ik ?_ ?_
    ·refine fK ?_ ?_ je
     ·exact (cP hr.units)
     refine bw ?_ aw
     refine bq fZ hr (by decide) (by rfl) aF ?_
     refine aj ?_ ?_
     ·exact (af 0)
     refine aj ?_ au
     exact (af 1)
    refine kE ?_
    refine bq fP hr (by decide) (by rfl) aF ?_
    refine aj ?_ ?_
    ·exact (af 0)
    refine aj ?_ au
    exact (af 1)
   refine ax ?_ ?_
   ·refine aM ?_ ?_
    ·exact gX.nd
    refine dQ ?_ (by rfl) T.Bh PyProof.Rows.boot_list ?_
    ·exact pR
    refine aj ?_ au
    exact (af 1)
   refine ax ?_ ?_
   ·refine aM ?_ ?_
    ·exact gX.nd
    refine bq fZ hr (by decide) (by rfl) aF ?_
    refine aj ?_ ?_
    ·exact (af 0)
    refine aj ?_ au
    exact (af 2)
   refine ax ?_ ?_
   ·refine dR ?_ ?_ cE
    ·refine zy ?_
     refine sJ ?_ ?_
     ·refine b7 ?_ ?_ je
      ·exact (jh hr.units)
      refine bw ?_ aw
      exact (af 3)
     refine sJ ?_ ?_
     ·refine b7 ?_ ?_ ?_
      ·exact (xY hr.units)
      ·refine bw ?_ aw
       exact (af 3)
      exact (af 1)
     refine sJ ?_ ?_
     ·refine kF ?_
      refine jf ?_
      refine ji nJ (by rfl) T.cq (by rfl) T.fY PyProof.Rows.boot_tuple ?_
      refine bw ?_ aw
      exact (af 3)
     refine uN ?_
     refine b7 ?_ ?_ ?_
     ·exact (jh hr.units)
     ·exact (af 2)
     exact (af 1)
    refine aJ ?_
    exact (bh jF)
   refine aJ ?_
   refine bh ?_
   refine fK ?_ ?_ ?_
   ·exact (cP hr.units)
   ·refine eZ (N:=["_law_term","_law_found","_law_order"]) (k:=1) rfl rfl (p4 (cl:=[("_law_found",s.heap.objs.size + 2),("_law_order",s.heap.objs.size + 1)]) (cl':=[("_law_order",s.heap.objs.size + 1),("_law_found",s.heap.objs.size + 2)]) (caps:=[3,0]) (caps':=[0,3]) (by rfl) (.cons (c:=s.heap.objs.size + 2) (by rfl) (by rfl) (by first | exact Or.inl rfl | exact Or.inr rfl) (by first | exact Or.inl rfl | exact Or.inr rfl) (.cons (c:=s.heap.objs.size + 1) (by rfl) (by rfl) (by first | exact Or.inl rfl | exact Or.inr rfl) (by first | exact Or.inl rfl | exact Or.inr rfl) .nil)) (.cons (c:=s.heap.objs.size + 1) (by rfl) (by rfl) (by first | exact Or.inl rfl | exact Or.inr rfl) (by first | exact Or.inl rfl | exact Or.inr rfl) (.cons (c:=s.heap.objs.size + 2) (by rfl) (by rfl) (by first | exact Or.inl rfl | exact Or.inr rfl) (by first | exact Or.inl rfl | exact Or.inr rfl) .nil)) (by rfl) (by rfl) (by rfl) (by rfl) (by rfl) (by rfl)) ?_ (fun _ _ _ _ => ?_) (fun _ _ _ _ => ?_) (fun _ _ _ _ => ?_)
    ·refine nL ?_
     exact (af 1)
    ·exact (bT 0 pC)
    ·refine qU ?_
     refine jf ?_
     refine bq gY hr (by decide) (by rfl) v8 ?_
     refine aj ?_ ?_
     ·exact (af 2)
     refine aj ?_ ?_
     ·refine bw ?_ aw
      exact (af 0)
     refine aj ?_ au
     refine bw ?_ aw
     refine bw ?_ aw
     exact (af 1)
    exact (af 0)
   exact (gR au)
theorem Bo:(["_law_k","_law_one","_law_other"]:List Str).Nodup:=by decide +kernel
theorem Bp:(["_law_k","_law_many","_law_mix"]:List Str).Nodup:=by decide +kernel
theorem Bq:(["_law_term"]:List Str).Nodup:=by decide +kernel
theorem Br:(["_law_k","_law_one","_law_other"]:List Str).Nodup:=by decide +kernel
theorem Bs:(["_law_k","_law_one","_law_other"]:List Str).Nodup:=by decide +kernel
theorem Bt:(["_law_k","_law_one","_law_top"]:List Str).Nodup:=by decide +kernel
theorem cw:bc ["_law_script","_law_first","_law_many","_law_one","_law_other","_law_row","_law_mix","_law_pairs_here","_law_second","_law_order","_law_odd","_law_told_here","_law_fits","_law_top","_law_left"] ["_law_script"] (aq (top 28)):=⟨rfl,rfl,rfl,by decide +kernel,rfl,by decide +kernel,by decide +kernel⟩
theorem Hz {f:Addr} {fd:FuncData} (F:jw K "law" "law" (top 28) f fd) (T:Txt K mg) (ye:FnAt P w K mg base "divides" 1 PM.eV) (D5:FnAt P w K mg base "least" 1 PM.iz) (HA:FnAt P w K mg base "less" 1 PM.jZ) (bu:FnAt P w K mg base "_law_cell_at" 1 PM.aB) (gk:FnAt P w K mg base "_law_number" 1 PM.bH) (cJ:FnAt P w K mg base "_law_exponents" 1 PM.aS) (gY:FnAt P w K mg base "_law_above" 1 PM.cG) (fk:FnAt P w K mg base "_law_gathered" 2 PM.ck) (rN:FnAt P w K mg base "_law_pairs" 2 PM.fG) (kg:FnAt P w K mg base "_law_tuple" 2 PM.dY) (oS:FnAt P w K mg base "higher" 3 PM.fj) (lF:FnAt P w K mg base "_law_no_higher" 4 bX) (fZ:FnAt P w K mg base "_law_told" 5 (aY M)) (fP:FnAt P w K mg base "_law_refused" 5 (bg M)) (uj:FnAt P w K mg base "_law_lead" 6 (cT M)):kC P w K mg base (jx P w) 7 f fd ["_law_script"] (En ⟨K,mg,[]⟩ (t7 M)) :=
 zA F cw fun dk A outer s H E hr =>
  by
   refine ax ?_ ?_
   ·refine aM ?_ ?_
    ·exact cw.nd
    refine bq bu hr (by decide) (by rfl) aF ?_
    refine aj ?_ ?_
    ·exact (af 0)
    exact (dH au)
   refine ax ?_ ?_
   ·refine aM ?_ ?_
    ·exact cw.nd
    refine ay ?_ aw ?_
    ·exact cn
    refine ay ?_ ?_ aw
    ·exact bF
    exact (af 1)
   refine ax ?_ ?_
   ·refine aM ?_ ?_
    ·exact cw.nd
    refine bq cJ hr (by decide) (by rfl) aF ?_
    refine aj ?_ ?_
    ·refine bq bu hr (by decide) (by rfl) aF ?_
     refine aj ?_ ?_
     ·exact (af 0)
     exact (dH au)
    refine aj ?_ au
    exact (af 2)
   refine ax ?_ ?_
   ·refine aM ?_ ?_
    ·exact cw.nd
    refine bq cJ hr (by decide) (by rfl) aF ?_
    refine aj ?_ ?_
    ·refine bq bu hr (by decide) (by rfl) aF ?_
     refine aj ?_ ?_
     ·exact (af 0)
     exact (dH au)
    refine aj ?_ au
    exact (af 2)
   refine ax ?_ ?_
   ·refine dR ?_ ?_ cE
    ·refine b7 ?_ ?_ aw
     ·exact (cP hr.units)
     refine ay ?_ ?_ aw
     ·exact bF
     refine ay ?_ ?_ aw
     ·exact b_
     exact (af 1)
    refine aJ ?_
    refine aM ?_ ?_
    ·exact cw.nd
    refine dQ ?_ (by rfl) T.fY PyProof.Rows.boot_tuple ?_
    ·exact fD
    refine aj ?_ au
    refine eZ (N:=["_law_k","_law_one","_law_other"]) (k:=1) rfl rfl (p4 (cl:=[("_law_one",s.heap.objs.size + 2),("_law_other",s.heap.objs.size + 3)]) (cl':=[("_law_other",s.heap.objs.size + 3),("_law_one",s.heap.objs.size + 2)]) (caps:=[3,4]) (caps':=[4,3]) (by rfl) (.cons (c:=s.heap.objs.size + 2) (by rfl) (by rfl) (by first | exact Or.inl rfl | exact Or.inr rfl) (by first | exact Or.inl rfl | exact Or.inr rfl) (.cons (c:=s.heap.objs.size + 3) (by rfl) (by rfl) (by first | exact Or.inl rfl | exact Or.inr rfl) (by first | exact Or.inl rfl | exact Or.inr rfl) .nil)) (.cons (c:=s.heap.objs.size + 3) (by rfl) (by rfl) (by first | exact Or.inl rfl | exact Or.inr rfl) (by first | exact Or.inl rfl | exact Or.inr rfl) (.cons (c:=s.heap.objs.size + 2) (by rfl) (by rfl) (by first | exact Or.inl rfl | exact Or.inr rfl) (by first | exact Or.inl rfl | exact Or.inr rfl) .nil)) (by rfl) (by rfl) (by rfl) (by rfl) (by rfl) (by rfl)) ?_ (fun _ _ _ _ => ?_) (fun _ _ _ _ => fX) (fun _ _ _ _ => ?_)
    ·refine dh (by rfl) T.fC ?_
     refine aj ?_ au
     exact (af 2)
    ·exact (bT 0 Bo)
    refine ay ?_ ?_ ?_
    ·exact cn
    ·refine bw ?_ ?_
     ·exact (af 1)
     exact (af 0)
    refine bw ?_ ?_
    ·exact (af 2)
    exact (af 0)
   refine ax ?_ ?_
   ·refine dR ?_ ?_ cE
    ·refine b7 ?_ ?_ aw
     ·exact (cP hr.units)
     refine ay ?_ ?_ aw
     ·exact bF
     refine ay ?_ ?_ aw
     ·exact b_
     exact (af 1)
    refine aJ ?_
    refine aM ?_ ?_
    ·exact cw.nd
    refine DI ?_
    exact (af 3)
   refine ax ?_ ?_
   ·refine dR ?_ ?_ cE
    ·refine b7 ?_ ?_ ?_
     ·exact zG
     ·refine ay ?_ ?_ aw
      ·exact bF
      refine ay ?_ ?_ aw
      ·exact b_
      exact (af 1)
     refine gQ ?_
     refine dH ?_
     exact (dH au)
    refine aJ ?_
    refine aM ?_ ?_
    ·exact cw.nd
    refine ay ?_ ?_ ?_
    ·exact cn
    ·refine oC ?_ ?_ jM
     ·exact (af 3)
     exact (jN aw)
    refine oC ?_ jM ?_
    ·exact (af 3)
    exact (jN aw)
   refine ax ?_ ?_
   ·refine aM ?_ ?_
    ·exact cw.nd
    refine bq fk hr (by decide) (by rfl) aF ?_
    refine dH ?_
    refine aj ?_ au
    refine bq rN hr (by decide) (by rfl) aF ?_
    refine aj ?_ ?_
    ·exact (af 0)
    refine dH ?_
    refine aj ?_ ?_
    ·exact (af 2)
    refine aj ?_ au
    refine ay ?_ ?_ aw
    ·exact bF
    refine bq bu hr (by decide) (by rfl) aF ?_
    refine aj ?_ ?_
    ·exact (af 0)
    exact (dH au)
   refine ax ?_ ?_
   ·refine dR ?_ ?_ cE
    ·refine b7 ?_ ?_ aw
     ·exact (cP hr.units)
     refine ay ?_ ?_ aw
     ·exact bF
     refine ay ?_ ?_ aw
     ·exact b_
     refine bq bu hr (by decide) (by rfl) aF ?_
     refine aj ?_ ?_
     ·exact (af 0)
     exact (dH au)
    refine ax ?_ ?_
    ·refine aM ?_ ?_
     ·exact cw.nd
     refine bq bu hr (by decide) (by rfl) aF ?_
     refine aj ?_ ?_
     ·exact (af 0)
     exact (dH au)
    refine ax (MN.uS 7 (N:=["_law_k","_law_many","_law_mix"]) (k:=1) cw.nd rfl rfl (p4 (cl:=[("_law_many",s.heap.objs.size + 1),("_law_mix",s.heap.objs.size + 4)]) (cl':=[("_law_mix",s.heap.objs.size + 4),("_law_many",s.heap.objs.size + 1)]) (caps:=[2,6]) (caps':=[6,2]) (by rfl) (.cons (c:=s.heap.objs.size + 1) (by rfl) (by rfl) (by first | exact Or.inl rfl | exact Or.inr rfl) (by first | exact Or.inl rfl | exact Or.inr rfl) (.cons (c:=s.heap.objs.size + 4) (by rfl) (by rfl) (by first | exact Or.inl rfl | exact Or.inr rfl) (by first | exact Or.inl rfl | exact Or.inr rfl) .nil)) (.cons (c:=s.heap.objs.size + 4) (by rfl) (by rfl) (by first | exact Or.inl rfl | exact Or.inr rfl) (by first | exact Or.inl rfl | exact Or.inr rfl) (.cons (c:=s.heap.objs.size + 1) (by rfl) (by rfl) (by first | exact Or.inl rfl | exact Or.inr rfl) (by first | exact Or.inl rfl | exact Or.inr rfl) .nil)) (by rfl) (by rfl) (by rfl) (by rfl) (by rfl) (by rfl)) (dh (by rfl) T.fC (aj (ay bF (ay b_ (af 1) aw) aw) au)) (fun _ _ _ _ => (bT 0 Bp)) (fun _ _ _ _ => fX) (fun _ _ _ _ => (gQ (aj (bq cJ hr (by decide) (by rfl) v8 (aj (ay cn (ay b_ (af 2) aw) (ay cZ aw (af 0))) (aj (af 1) au))) (aj (bq gk hr (by decide) (by rfl) v8 (aj (ay cn (af 2) (ay cZ aw (af 0))) au)) au))))) ?_
    refine aJ ?_
    refine aM ?_ ?_
    ·exact cw.nd
    refine bq fk hr (by decide) (by rfl) aF ?_
    refine dH ?_
    refine aj ?_ au
    exact (af 7)
   refine ax ?_ ?_
   ·refine aM ?_ ?_
    ·exact cw.nd
    refine bq fk hr (by decide) (by rfl) aF ?_
    refine dH ?_
    refine aj ?_ au
    refine ay ?_ ?_ ?_
    ·exact cn
    ·exact (af 5)
    refine eZ (N:=["_law_term"]) (k:=1) rfl rfl (sR (cl:=[]) (caps:=[]) (by rfl) .nil (by rfl) (by rfl) (by rfl) (by rfl) (by rfl) (by rfl)) ?_ (fun _ _ _ _ => ?_) (fun _ _ _ _ => fX) (fun _ _ _ _ => ?_)
    ·refine nL ?_
     refine oC ?_ jM ?_
     ·exact (af 5)
     exact (jN aw)
    ·exact (bT 0 Bq)
    refine gQ ?_
    refine aj ?_ ?_
    ·refine ay ?_ ?_ ?_
     ·exact cn
     ·refine oC ?_ ?_ jM
      ·refine bw ?_ aw
       exact (af 0)
      exact (jN aw)
     refine oC ?_ jM ?_
     ·refine bw ?_ aw
      exact (af 0)
     exact (jN aw)
    refine aj ?_ au
    refine ay ?_ aw ?_
    ·exact cZ
    refine bw ?_ aw
    exact (af 0)
   refine ax ?_ ?_
   ·refine aM ?_ ?_
    ·exact cw.nd
    refine bq bu hr (by decide) (by rfl) aF ?_
    refine aj ?_ ?_
    ·exact (af 0)
    exact (dH au)
   refine ax ?_ ?_
   ·refine aM ?_ ?_
    ·exact cw.nd
    refine bw ?_ ?_
    ·refine gR ?_
     refine fM ?_
     exact (fM au)
    refine ay ?_ ?_ aw
    ·exact bF
    refine ay ?_ ?_ aw
    ·exact b_
    exact (af 8)
   refine ax ?_ ?_
   ·refine dR ?_ ?_ cE
    ·refine b7 ?_ ?_ aw
     ·exact (cP hr.units)
     refine ay ?_ ?_ aw
     ·exact bF
     exact (af 8)
    refine ax ?_ ?_
    ·refine aM ?_ ?_
     ·exact cw.nd
     refine bw ?_ ?_
     ·refine gR ?_
      refine fM ?_
      refine fM ?_
      refine fM ?_
      refine fM ?_
      refine u3 ?_
      refine dH ?_
      refine JC ?_
      refine aj ?_ au
      refine gQ ?_
      exact (fM au)
     refine ay ?_ ?_ aw
     ·exact bF
     refine ay ?_ ?_ aw
     ·exact b_
     exact (af 8)
    refine aJ ?_
    refine bh ?_
    refine ik ?_ ?_
    ·refine fK ?_ ?_ je
     ·exact (cP hr.units)
     refine bw ?_ aw
     refine bq fZ hr (by decide) (by rfl) aF ?_
     refine aj ?_ ?_
     ·exact (af 10)
     refine aj ?_ au
     refine dQ ?_ (by rfl) T.Bh PyProof.Rows.boot_list ?_
     ·exact pR
     refine aj ?_ au
     exact (af 5)
    refine ik ?_ ?_
    ·refine bq fP hr (by decide) (by rfl) aF ?_
     refine aj ?_ ?_
     ·exact (af 10)
     refine aj ?_ au
     exact (af 5)
    refine kE ?_
    refine bq lF hr (by decide) (by rfl) aF ?_
    refine aj ?_ ?_
    ·exact (af 10)
    refine aj ?_ ?_
    ·exact (af 3)
    refine aj ?_ au
    exact (af 4)
   refine ax ?_ ?_
   ·refine aM ?_ ?_
    ·exact cw.nd
    refine bq oS hr (by decide) (by rfl) aF ?_
    refine aj ?_ ?_
    ·exact (af 9)
    refine aj ?_ ?_
    ·exact (af 3)
    refine aj ?_ au
    exact (af 4)
   refine ax ?_ ?_
   ·refine dR ?_ ?_ cE
    ·refine zy ?_
     refine sJ ?_ ?_
     ·refine kF ?_
      refine jf ?_
      refine ji kH (by rfl) T.cq (by rfl) T.vi PyProof.Rows.boot_bool ?_
      exact (af 11)
     refine uN ?_
     refine b7 ?_ ?_ ?_
     ·exact (jh hr.units)
     ·exact (af 11)
     refine bq gY hr (by decide) (by rfl) aF ?_
     refine aj ?_ ?_
     ·exact (af 9)
     refine aj ?_ ?_
     ·exact (af 3)
     refine aj ?_ au
     exact (af 4)
    refine aJ ?_
    exact (bh jF)
   refine ax ?_ ?_
   ·refine aM ?_ ?_
    ·exact cw.nd
    refine fK ?_ ?_ ?_
    ·exact (cP hr.units)
    ·refine eZ (N:=["_law_k","_law_one","_law_other"]) (k:=1) rfl rfl (p4 (cl:=[("_law_one",s.heap.objs.size + 2),("_law_other",s.heap.objs.size + 3)]) (cl':=[("_law_other",s.heap.objs.size + 3),("_law_one",s.heap.objs.size + 2)]) (caps:=[3,4]) (caps':=[4,3]) (by rfl) (.cons (c:=s.heap.objs.size + 2) (by rfl) (by rfl) (by first | exact Or.inl rfl | exact Or.inr rfl) (by first | exact Or.inl rfl | exact Or.inr rfl) (.cons (c:=s.heap.objs.size + 3) (by rfl) (by rfl) (by first | exact Or.inl rfl | exact Or.inr rfl) (by first | exact Or.inl rfl | exact Or.inr rfl) .nil)) (.cons (c:=s.heap.objs.size + 3) (by rfl) (by rfl) (by first | exact Or.inl rfl | exact Or.inr rfl) (by first | exact Or.inl rfl | exact Or.inr rfl) (.cons (c:=s.heap.objs.size + 2) (by rfl) (by rfl) (by first | exact Or.inl rfl | exact Or.inr rfl) (by first | exact Or.inl rfl | exact Or.inr rfl) .nil)) (by rfl) (by rfl) (by rfl) (by rfl) (by rfl) (by rfl)) ?_ (fun _ _ _ _ => ?_) (fun _ _ _ _ => ?_) (fun _ _ _ _ => ?_)
     ·refine dh (by rfl) T.fC ?_
      refine aj ?_ au
      exact (af 2)
     ·exact (bT 0 Br)
     ·refine qU ?_
      refine b7 ?_ ?_ ?_
      ·exact (rq hr.units)
      ·refine bw ?_ ?_
       ·exact (af 1)
       exact (af 0)
      refine bw ?_ ?_
      ·exact (af 2)
      exact (af 0)
     exact (af 0)
    exact (gR au)
   refine ax ?_ ?_
   ·refine aM ?_ ?_
    ·exact cw.nd
    refine bq ye hr (by decide) (by rfl) aF ?_
    refine aj ?_ ?_
    ·exact (af 3)
    refine aj ?_ au
    exact (af 4)
   refine ax ?_ ?_
   ·refine dR ?_ ?_ cE
    ·refine zy ?_
     refine sJ ?_ ?_
     ·refine kF ?_
      refine jf ?_
      refine ji kH (by rfl) T.cq (by rfl) T.vi PyProof.Rows.boot_bool ?_
      exact (af 11)
     refine uN ?_
     refine b7 ?_ ?_ ?_
     ·exact (jh hr.units)
     ·exact (af 11)
     exact (af 12)
    refine aJ ?_
    exact (bh jF)
   refine ax ?_ ?_
   ·refine aM ?_ ?_
    ·exact cw.nd
    refine dQ ?_ (by rfl) T.fY PyProof.Rows.boot_tuple ?_
    ·exact fD
    refine aj ?_ au
    refine eZ (N:=["_law_k","_law_one","_law_other"]) (k:=1) rfl rfl (p4 (cl:=[("_law_one",s.heap.objs.size + 2),("_law_other",s.heap.objs.size + 3)]) (cl':=[("_law_other",s.heap.objs.size + 3),("_law_one",s.heap.objs.size + 2)]) (caps:=[3,4]) (caps':=[4,3]) (by rfl) (.cons (c:=s.heap.objs.size + 2) (by rfl) (by rfl) (by first | exact Or.inl rfl | exact Or.inr rfl) (by first | exact Or.inl rfl | exact Or.inr rfl) (.cons (c:=s.heap.objs.size + 3) (by rfl) (by rfl) (by first | exact Or.inl rfl | exact Or.inr rfl) (by first | exact Or.inl rfl | exact Or.inr rfl) .nil)) (.cons (c:=s.heap.objs.size + 3) (by rfl) (by rfl) (by first | exact Or.inl rfl | exact Or.inr rfl) (by first | exact Or.inl rfl | exact Or.inr rfl) (.cons (c:=s.heap.objs.size + 2) (by rfl) (by rfl) (by first | exact Or.inl rfl | exact Or.inr rfl) (by first | exact Or.inl rfl | exact Or.inr rfl) .nil)) (by rfl) (by rfl) (by rfl) (by rfl) (by rfl) (by rfl)) ?_ (fun _ _ _ _ => ?_) (fun _ _ _ _ => fX) (fun _ _ _ _ => ?_)
    ·refine dh (by rfl) T.fC ?_
     refine aj ?_ au
     exact (af 2)
    ·exact (bT 0 Bs)
    refine dc ?_ (by rfl) T.Bi PyProof.Rows.Boot.«max» ?_
    ·exact (pZ hr.hd)
    refine aj ?_ ?_
    ·refine bw ?_ ?_
     ·exact (af 1)
     exact (af 0)
    refine aj ?_ au
    refine bw ?_ ?_
    ·exact (af 2)
    exact (af 0)
   refine ax ?_ ?_
   ·refine dR ?_ ?_ cE
    ·refine kF ?_
     refine jf ?_
     refine bq kg hr (by decide) (by rfl) aF ?_
     refine aj ?_ ?_
     ·refine bq D5 hr (by decide) (by rfl) aF ?_
      refine aj ?_ ?_
      ·exact (af 3)
      refine aj ?_ au
      exact (af 4)
     refine aj ?_ au
     exact (af 13)
    refine aJ ?_
    exact (bh jF)
   refine ax ?_ ?_
   ·refine aM ?_ ?_
    ·exact cw.nd
    refine dQ ?_ (by rfl) T.fY PyProof.Rows.boot_tuple ?_
    ·exact fD
    refine aj ?_ au
    refine eZ (N:=["_law_k","_law_one","_law_top"]) (k:=1) rfl rfl (p4 (cl:=[("_law_one",s.heap.objs.size + 2),("_law_top",s.heap.objs.size + 5)]) (cl':=[("_law_top",s.heap.objs.size + 5),("_law_one",s.heap.objs.size + 2)]) (caps:=[3,13]) (caps':=[13,3]) (by rfl) (.cons (c:=s.heap.objs.size + 2) (by rfl) (by rfl) (by first | exact Or.inl rfl | exact Or.inr rfl) (by first | exact Or.inl rfl | exact Or.inr rfl) (.cons (c:=s.heap.objs.size + 5) (by rfl) (by rfl) (by first | exact Or.inl rfl | exact Or.inr rfl) (by first | exact Or.inl rfl | exact Or.inr rfl) .nil)) (.cons (c:=s.heap.objs.size + 5) (by rfl) (by rfl) (by first | exact Or.inl rfl | exact Or.inr rfl) (by first | exact Or.inl rfl | exact Or.inr rfl) (.cons (c:=s.heap.objs.size + 2) (by rfl) (by rfl) (by first | exact Or.inl rfl | exact Or.inr rfl) (by first | exact Or.inl rfl | exact Or.inr rfl) .nil)) (by rfl) (by rfl) (by rfl) (by rfl) (by rfl) (by rfl)) ?_ (fun _ _ _ _ => ?_) (fun _ _ _ _ => fX) (fun _ _ _ _ => ?_)
    ·refine dh (by rfl) T.fC ?_
     refine aj ?_ au
     exact (af 2)
    ·exact (bT 0 Bt)
    refine ay ?_ ?_ ?_
    ·exact mV
    ·refine bw ?_ ?_
     ·exact (af 2)
     exact (af 0)
    refine bw ?_ ?_
    ·exact (af 1)
    exact (af 0)
   refine aJ ?_
   refine bh ?_
   refine ik ?_ ?_
   ·refine bq kg hr (by decide) (by rfl) aF ?_
    refine aj ?_ ?_
    ·refine bq HA hr (by decide) (by rfl) aF ?_
     refine aj ?_ ?_
     ·exact (af 13)
     refine aj ?_ au
     exact (af 3)
    refine aj ?_ au
    exact (af 14)
   refine kE ?_
   refine bq uj hr (by decide) (by rfl) aF ?_
   refine aj ?_ ?_
   ·exact (af 9)
   refine aj ?_ au
   exact (af 5)
end
theorem all_mk {l:PySem.W.OpenLaw} {w:World} {K:PySem.W.Frag} {h:Heap} {mg:Str → Option Value} {fa:Addr} (X:K.In h) (G:h.Ns mainGlobals mg) (U9:mg "law" = some (.ref fa))
  {f0:Addr} {U_ Va:Option Addr} {Vb:Array (Option Value)} {Vc Vd Ve Vf Sv Vg:Value}
  {f1:Addr} {Vh Vi:Option Addr} {Vj:Array (Option Value)} {Vk Vl Vm Vn Sw Vo:Value}
  {f2:Addr} {Vp Vq:Option Addr} {FA:Array (Option Value)} {Vr Vs Vt Vu Sx Vv:Value}
  {f3:Addr} {Vx Vy:Option Addr} {Vz:Array (Option Value)} {VA VB VC VD Sy VE:Value}
  {f4:Addr} {VF VG:Option Addr} {VH:Array (Option Value)} {VI VJ VL VM SA VN:Value}
  {f5:Addr} {VO VP:Option Addr} {VQ:Array (Option Value)} {VR VS VT VU SD VV:Value}
  {f6:Addr} {VW VX:Option Addr} {VY:Array (Option Value)} {VZ V0 V1 V2 SE V3:Value}
  {f7:Addr} {V4 V5:Option Addr} {V6:Array (Option Value)} {V7 V8 V9 V_ SF Wa:Value}
  {f8:Addr} {Wb Wc:Option Addr} {Wd:Array (Option Value)} {We Wf Wg Wh SG Wi:Value}
  {f9:Addr} {Wj Wk:Option Addr} {Wl:Array (Option Value)} {Wm Wn Wq Wr SH Ws:Value}
  {EM:Addr} {N_ Oa:Option Addr} {Ob:Array (Option Value)} {Oc Od Oe Of Kx Og:Value}
  {Kq:Addr} {Oh Oi:Option Addr} {Oj:Array (Option Value)} {Ol Om Oo Oq Ky Ot:Value}
  {Ou:Addr} {Ov Ow:Option Addr} {Ox:Array (Option Value)} {Oy Oz OA OB Kz OC:Value}
  {Kl:Addr} {OD OE:Option Addr} {OF:Array (Option Value)} {OG OH OI OJ KA OK:Value}
  {OL:Addr} {OM ON:Option Addr} {OO:Array (Option Value)} {OP OQ OR OS KC OT:Value}
  {Km:Addr} {OU OV:Option Addr} {OW:Array (Option Value)} {OX OY OZ O0 KD O1:Value}
  {Kn:Addr} {O2 O3:Option Addr} {O4:Array (Option Value)} {O5 O6 O7 O8 O9:Value} {ko:Addr}
  {O_:Addr} {Pa Pb:Option Addr} {Pc:Array (Option Value)} {Pd Pe Pf Pg KG Ph:Value}
  {Ko:Addr} {Pj Pk:Option Addr} {Pl:Array (Option Value)} {Pm Pn Po Pp KH Pq:Value}
  {Pr:Addr} {Pt Pu:Option Addr} {Pw:Array (Option Value)} {Px Py Pz PB KI PD:Value}
  {Kp:Addr} {PF PJ:Option Addr} {PL:Array (Option Value)} {PN PQ PR PU KJ PV:Value}
  {PX:Addr} {PY KL:Option Addr} {PZ:Array (Option Value)} {P0 KN KO KP HB KQ:Value}
  {qu:Addr} {yf:Option Addr} {yg:Nat} {yh:Array (Option Value)} {vo vp:Tok}
  {bQ:Addr} {kh:ClassData}
  {cK:Addr} {uk:ClassData}
  {b9:Addr} {rO:ClassData}
  {q:Program} {d:DefRec} {tT:Addr} {Wt:Value} {Wu:Option Addr} {Wv:Array (Option Value)} {SI:Array Value}
  (a0:PySem.W.nsIn K mainGlobals "is_order" = some (some (.ref f0))) (l0:K.lookup f0 = some ⟨Vc,U_,.func (PySem.W.fnOf "is_order" "is_order" (bb (top 6)) (aO (top 6)) (aq (top 6)) .none Vd Ve Vf Va Sv Vg),Vb⟩) (c0:PySem.W.codeIn K Sv "is_order" = true) (k0:PySem.W.keepIn K (.ref f0) = true)
  (a1:PySem.W.nsIn K mainGlobals "standing" = some (some (.ref f1))) (l1:K.lookup f1 = some ⟨Vk,Vh,.func (PySem.W.fnOf "standing" "standing" (bb (top 8)) (aO (top 8)) (aq (top 8)) .none Vl Vm Vn Vi Sw Vo),Vj⟩) (c1:PySem.W.codeIn K Sw "standing" = true) (k1:PySem.W.keepIn K (.ref f1) = true)
  (a2:PySem.W.nsIn K mainGlobals "divides" = some (some (.ref f2))) (l2:K.lookup f2 = some ⟨Vr,Vp,.func (PySem.W.fnOf "divides" "divides" (bb (top 11)) (aO (top 11)) (aq (top 11)) .none Vs Vt Vu Vq Sx Vv),FA⟩) (c2:PySem.W.codeIn K Sx "divides" = true) (k2:PySem.W.keepIn K (.ref f2) = true)
  (a3:PySem.W.nsIn K mainGlobals "least" = some (some (.ref f3))) (l3:K.lookup f3 = some ⟨VA,Vx,.func (PySem.W.fnOf "least" "least" (bb (top 12)) (aO (top 12)) (aq (top 12)) .none VB VC VD Vy Sy VE),Vz⟩) (c3:PySem.W.codeIn K Sy "least" = true) (k3:PySem.W.keepIn K (.ref f3) = true)
  (a4:PySem.W.nsIn K mainGlobals "less" = some (some (.ref f4))) (l4:K.lookup f4 = some ⟨VI,VF,.func (PySem.W.fnOf "less" "less" (bb (top 13)) (aO (top 13)) (aq (top 13)) .none VJ VL VM VG SA VN),VH⟩) (c4:PySem.W.codeIn K SA "less" = true) (k4:PySem.W.keepIn K (.ref f4) = true)
  (a5:PySem.W.nsIn K mainGlobals "_law_whole" = some (some (.ref f5))) (l5:K.lookup f5 = some ⟨VR,VO,.func (PySem.W.fnOf "_law_whole" "_law_whole" (bb (top 15)) (aO (top 15)) (aq (top 15)) .none VS VT VU VP SD VV),VQ⟩) (c5:PySem.W.codeIn K SD "_law_whole" = true) (k5:PySem.W.keepIn K (.ref f5) = true)
  (a6:PySem.W.nsIn K mainGlobals "_law_cell_at" = some (some (.ref f6))) (l6:K.lookup f6 = some ⟨VZ,VW,.func (PySem.W.fnOf "_law_cell_at" "_law_cell_at" (bb (top 16)) (aO (top 16)) (aq (top 16)) .none V0 V1 V2 VX SE V3),VY⟩) (c6:PySem.W.codeIn K SE "_law_cell_at" = true) (k6:PySem.W.keepIn K (.ref f6) = true)
  (a7:PySem.W.nsIn K mainGlobals "_law_settled" = some (some (.ref f7))) (l7:K.lookup f7 = some ⟨V7,V4,.func (PySem.W.fnOf "_law_settled" "_law_settled" (bb (top 17)) (aO (top 17)) (aq (top 17)) .none V8 V9 V_ V5 SF Wa),V6⟩) (c7:PySem.W.codeIn K SF "_law_settled" = true) (k7:PySem.W.keepIn K (.ref f7) = true)
  (a8:PySem.W.nsIn K mainGlobals "_law_number" = some (some (.ref f8))) (l8:K.lookup f8 = some ⟨We,Wb,.func (PySem.W.fnOf "_law_number" "_law_number" (bb (top 19)) (aO (top 19)) (aq (top 19)) .none Wf Wg Wh Wc SG Wi),Wd⟩) (c8:PySem.W.codeIn K SG "_law_number" = true) (k8:PySem.W.keepIn K (.ref f8) = true)
  (a9:PySem.W.nsIn K mainGlobals "_law_exponents" = some (some (.ref f9))) (l9:K.lookup f9 = some ⟨Wm,Wj,.func (PySem.W.fnOf "_law_exponents" "_law_exponents" (bb (top 20)) (aO (top 20)) (aq (top 20)) .none Wn Wq Wr Wk SH Ws),Wl⟩) (c9:PySem.W.codeIn K SH "_law_exponents" = true) (k9:PySem.W.keepIn K (.ref f9) = true)
  (P_:PySem.W.nsIn K mainGlobals "_law_above" = some (some (.ref EM))) (Qa:K.lookup EM = some ⟨Oc,N_,.func (PySem.W.fnOf "_law_above" "_law_above" (bb (top 22)) (aO (top 22)) (aq (top 22)) .none Od Oe Of Oa Kx Og),Ob⟩) (Qb:PySem.W.codeIn K Kx "_law_above" = true) (Qc:PySem.W.keepIn K (.ref EM) = true)
  (Qd:PySem.W.nsIn K mainGlobals "check_order" = some (some (.ref Kq))) (Qe:K.lookup Kq = some ⟨Ol,Oh,.func (PySem.W.fnOf "check_order" "check_order" (bb (top 7)) (aO (top 7)) (aq (top 7)) .none Om Oo Oq Oi Ky Ot),Oj⟩) (Qf:PySem.W.codeIn K Ky "check_order" = true) (Qg:PySem.W.keepIn K (.ref Kq) = true)
  (Qh:PySem.W.nsIn K mainGlobals "_law_gathered" = some (some (.ref Ou))) (Qi:K.lookup Ou = some ⟨Oy,Ov,.func (PySem.W.fnOf "_law_gathered" "_law_gathered" (bb (top 18)) (aO (top 18)) (aq (top 18)) .none Oz OA OB Ow Kz OC),Ox⟩) (Qj:PySem.W.codeIn K Kz "_law_gathered" = true) (Qk:PySem.W.keepIn K (.ref Ou) = true)
  (Ql:PySem.W.nsIn K mainGlobals "_law_pairs" = some (some (.ref Kl))) (Qm:K.lookup Kl = some ⟨OG,OD,.func (PySem.W.fnOf "_law_pairs" "_law_pairs" (bb (top 21)) (aO (top 21)) (aq (top 21)) .none OH OI OJ OE KA OK),OF⟩) (Qn:PySem.W.codeIn K KA "_law_pairs" = true) (Qo:PySem.W.keepIn K (.ref Kl) = true)
  (Qp:PySem.W.nsIn K mainGlobals "_law_tuple" = some (some (.ref OL))) (Qq:K.lookup OL = some ⟨OP,OM,.func (PySem.W.fnOf "_law_tuple" "_law_tuple" (bb (top 26)) (aO (top 26)) (aq (top 26)) .none OQ OR OS ON KC OT),OO⟩) (Qr:PySem.W.codeIn K KC "_law_tuple" = true) (Qs:PySem.W.keepIn K (.ref OL) = true)
  (Qt:PySem.W.nsIn K mainGlobals "higher" = some (some (.ref Km))) (Qu:K.lookup Km = some ⟨OX,OU,.func (PySem.W.fnOf "higher" "higher" (bb (top 9)) (aO (top 9)) (aq (top 9)) .none OY OZ O0 OV KD O1),OW⟩) (Qv:PySem.W.codeIn K KD "higher" = true) (Qw:PySem.W.keepIn K (.ref Km) = true)
  (KR:PySem.W.nsIn K mainGlobals "lead" = some (some (.ref Kn))) (LP:K.lookup Kn = some ⟨O5,O2,.func (PySem.W.fnOf "lead" "lead" (bb (top 10)) (aO (top 10)) (aq (top 10)) .none O6 O7 O8 O3 (.ref ko) O9),O4⟩) (Qx:PySem.W.codeIn K (.ref ko) "lead" = true) (Qy:PySem.W.keepIn K (.ref Kn) = true)
  (Qz:PySem.W.nsIn K mainGlobals "_law_no_higher" = some (some (.ref O_))) (QA:K.lookup O_ = some ⟨Pd,Pa,.func (PySem.W.fnOf "_law_no_higher" "_law_no_higher" (bb (top 25)) (aO (top 25)) (aq (top 25)) .none Pe Pf Pg Pb KG Ph),Pc⟩) (QB:PySem.W.codeIn K KG "_law_no_higher" = true) (QC:PySem.W.keepIn K (.ref O_) = true)
  (QD:PySem.W.nsIn K mainGlobals "_law_told" = some (some (.ref Ko))) (QE:K.lookup Ko = some ⟨Pm,Pj,.func (PySem.W.fnOf "_law_told" "_law_told" (bb (top 23)) (aO (top 23)) (aq (top 23)) .none Pn Po Pp Pk KH Pq),Pl⟩) (QF:PySem.W.codeIn K KH "_law_told" = true) (QG:PySem.W.keepIn K (.ref Ko) = true)
  (QH:PySem.W.nsIn K mainGlobals "_law_refused" = some (some (.ref Pr))) (QI:K.lookup Pr = some ⟨Px,Pt,.func (PySem.W.fnOf "_law_refused" "_law_refused" (bb (top 24)) (aO (top 24)) (aq (top 24)) .none Py Pz PB Pu KI PD),Pw⟩) (QJ:PySem.W.codeIn K KI "_law_refused" = true) (QK:PySem.W.keepIn K (.ref Pr) = true)
  (QL:PySem.W.nsIn K mainGlobals "_law_lead" = some (some (.ref Kp))) (QM:K.lookup Kp = some ⟨PN,PF,.func (PySem.W.fnOf "_law_lead" "_law_lead" (bb (top 27)) (aO (top 27)) (aq (top 27)) .none PQ PR PU PJ KJ PV),PL⟩) (QN:PySem.W.codeIn K KJ "_law_lead" = true) (QO:PySem.W.keepIn K (.ref Kp) = true)
  (QP:PySem.W.nsIn K mainGlobals "law" = some (some (.ref PX))) (QQ:K.lookup PX = some ⟨P0,PY,.func (PySem.W.fnOf "law" "law" (bb (top 28)) (aO (top 28)) (aq (top 28)) .none KN KO KP KL HB KQ),PZ⟩) (QR:PySem.W.codeIn K HB "law" = true) (QS:PySem.W.keepIn K (.ref PX) = true)
  (dy:PySem.W.nsIn K mainGlobals "ValueError" = some none)
  (vq:PySem.W.nsIn K mainGlobals "all" = some none)
  (rP:PySem.W.nsIn K mainGlobals "bool" = some none)
  (vt:PySem.W.nsIn K mainGlobals "int" = some none)
  (gn:PySem.W.nsIn K mainGlobals "isinstance" = some none)
  (vz:PySem.W.nsIn K mainGlobals "len" = some none)
  (rQ:PySem.W.nsIn K mainGlobals "list" = some none)
  (vA:PySem.W.nsIn K mainGlobals "max" = some none)
  (oT:PySem.W.nsIn K mainGlobals "range" = some none)
  (lG:PySem.W.nsIn K mainGlobals "sorted" = some none)
  (vB:PySem.W.nsIn K mainGlobals "str" = some none)
  (vC:PySem.W.nsIn K mainGlobals "sum" = some none)
  (oU:PySem.W.nsIn K mainGlobals "tuple" = some none)
  (vD:PySem.W.nsIn K mainGlobals "zip" = some none)
  (lH:PySem.W.nsIn K mainGlobals "ORDERS" = some (some (.ref qu))) (lI:K.lookup qu = some ⟨.type "tuple",yf,.seq #[.str "lex" vo,.str "deg" vp] yg,yh⟩)
  (cW:PySem.W.nsIn K mainGlobals "AlgebraError" = some (some (.ref bQ))) (dC:PySem.W.clsIn K bQ = some kh) (dD:PySem.W.typeIn K (.ref bQ) = some (.type "type")) (fm:PySem.W.excIn K bQ Lo "ValueError.__new__" = true) (fq:PySem.W.subIn K (.ref bQ) (.type "BaseException") = some true)
  (cX:PySem.W.nsIn K mainGlobals "NoLead" = some (some (.ref cK))) (iP:PySem.W.clsIn K cK = some uk) (iQ:PySem.W.typeIn K (.ref cK) = some (.type "type")) (iR:PySem.W.excIn K cK Lo "ValueError.__new__" = true) (iS:PySem.W.subIn K (.ref cK) (.type "BaseException") = some true)
  (cy:PySem.W.nsIn K mainGlobals "NoOrder" = some (some (.ref b9))) (gZ:PySem.W.clsIn K b9 = some rO) (g6:PySem.W.typeIn K (.ref b9) = some (.type "type")) (g7:PySem.W.excIn K b9 Lo "ValueError.__new__" = true) (g8:PySem.W.subIn K (.ref b9) (.type "BaseException") = some true)
  (QT:PySem.W.subIn K (.ref b9) (.ref b9) = some true)
  (QU:PySem.W.subIn K (.ref b9) (.ref cK) = some false)
  (QV:PySem.W.subIn K (.ref b9) (.ref bQ) = some true)
  (QW:PySem.W.kitOne K (.ref b9) (.type "ValueError") = some true)
  (QX:PySem.W.subIn K (.ref cK) (.ref b9) = some false)
  (QY:PySem.W.subIn K (.ref cK) (.ref cK) = some true)
  (QZ:PySem.W.subIn K (.ref cK) (.ref bQ) = some true)
  (Q0:PySem.W.kitOne K (.ref cK) (.type "ValueError") = some true)
  (zr:(recsOf q).find? (fun e => e.name == ("lead":Str)) = some d) (zk:K.lookup ko = some ⟨Wt,Wu,.fields SI,Wv⟩) (zv:SI[11]? = some (.ref tT)) (zn:PySem.W.noTabs K = true) :
  ∃ (fd:FuncData) (ts:List (Addr × Addr)),mJ q K [.tab M.own M.line M.col M.S.qual] ts ∧ (ts.map (·.2)).Nodup ∧ PySem.W.noTabs K = true ∧ (∀ (s:Shared) (v:Value),BindsTo s fd ⟨[v],[]⟩ [("_law_script",v)]) ∧ ∀ base:Heap,K.In base → base.Ns mainGlobals mg → cV mg base ts → kC l.prog w K mg base (jx l.prog w) 7 fa fd ["_law_script"] (En ⟨K,mg,[]⟩ (t7 M)):=by
 have e:=U9.symm.trans (PySem.W.mg_of X G QP)
 cases e
 have T:Txt K mg:=⟨PySem.W.mg_none_of X G dy,PySem.W.mg_none_of X G vq,PySem.W.mg_none_of X G rP,PySem.W.mg_none_of X G vt,PySem.W.mg_none_of X G gn,PySem.W.mg_none_of X G vz,PySem.W.mg_none_of X G rQ,PySem.W.mg_none_of X G vA,PySem.W.mg_none_of X G oT,PySem.W.mg_none_of X G lG,PySem.W.mg_none_of X G vB,PySem.W.mg_none_of X G vC,PySem.W.mg_none_of X G oU,PySem.W.mg_none_of X G vD,Glob.strs (ns:=["lex","deg"]) (PySem.W.mg_of X G lH) lI rfl rfl (by simp [sizeLine_eq]) (.cons ⟨_,rfl⟩ (.cons ⟨_,rfl⟩ (.nil))),⟨bQ,PySem.W.mg_of X G cW,fm,fq⟩,⟨cK,PySem.W.mg_of X G cX,iR,iS⟩,⟨b9,PySem.W.mg_of X G cy,g7,g8⟩,(.own (PySem.W.mg_of X G cy) (PySem.W.mg_of X G cy) (fE gZ g6 QT) (.own (PySem.W.mg_of X G cy) (PySem.W.mg_of X G cX) (fE iP iQ QU) (.own (PySem.W.mg_of X G cy) (PySem.W.mg_of X G cW) (fE dC dD QV) (.blt (PySem.W.mg_of X G cy) (PySem.W.mg_none_of X G dy) gi QW (.own (PySem.W.mg_of X G cX) (PySem.W.mg_of X G cy) (fE gZ g6 QX) (.own (PySem.W.mg_of X G cX) (PySem.W.mg_of X G cX) (fE iP iQ QY) (.own (PySem.W.mg_of X G cX) (PySem.W.mg_of X G cW) (fE dC dD QZ) (.blt (PySem.W.mg_of X G cX) (PySem.W.mg_none_of X G dy) gi Q0 .nil)))))))),zU (fun c hc => by
  simp only [kn,List.mem_cons,List.mem_nil_iff,or_false] at hc
  rcases hc with rfl | rfl
  ·exact ⟨b9,PySem.W.mg_of X G cy,g7,g8⟩
  ·exact ⟨cK,PySem.W.mg_of X G cX,iR,iS⟩)⟩
 have zt:PySem.W.tabIn K "lead" = some (ko,tT):=GC KR LP rfl zk zv
 have vE:=fun (base:Heap) (hB:cV mg base [(ko,tT)]) => uf (P:=l.prog) (w:=w) (base:=base) (cj (st:=top 6) l0 c0 k0) (PySem.W.mg_of X G a0) T
 have jv:=fun (base:Heap) (hB:cV mg base [(ko,tT)]) => uh (P:=l.prog) (w:=w) (base:=base) (cj (st:=top 8) l1 c1 k1) (PySem.W.mg_of X G a1) T
 have yi:=fun (base:Heap) (hB:cV mg base [(ko,tT)]) => vk (P:=l.prog) (w:=w) (base:=base) (cj (st:=top 11) l2 c2 k2) (PySem.W.mg_of X G a2) T
 have D6:=fun (base:Heap) (hB:cV mg base [(ko,tT)]) => Bn (P:=l.prog) (w:=w) (base:=base) (cj (st:=top 12) l3 c3 k3) (PySem.W.mg_of X G a3) T
 have HC:=fun (base:Heap) (hB:cV mg base [(ko,tT)]) => DZ (P:=l.prog) (w:=w) (base:=base) (cj (st:=top 13) l4 c4 k4) (PySem.W.mg_of X G a4) T
 have rR:=fun (base:Heap) (hB:cV mg base [(ko,tT)]) => pj (P:=l.prog) (w:=w) (base:=base) (cj (st:=top 15) l5 c5 k5) (PySem.W.mg_of X G a5) T
 have iD:=fun (base:Heap) (hB:cV mg base [(ko,tT)]) => mP (P:=l.prog) (w:=w) (base:=base) (cj (st:=top 16) l6 c6 k6) (PySem.W.mg_of X G a6) T
 have oV:=fun (base:Heap) (hB:cV mg base [(ko,tT)]) => mR (P:=l.prog) (w:=w) (base:=base) (cj (st:=top 17) l7 c7 k7) (PySem.W.mg_of X G a7) T
 have i8:=fun (base:Heap) (hB:cV mg base [(ko,tT)]) => oO (P:=l.prog) (w:=w) (base:=base) (cj (st:=top 19) l8 c8 k8) (PySem.W.mg_of X G a8) T
 have gJ:=fun (base:Heap) (hB:cV mg base [(ko,tT)]) => kd (P:=l.prog) (w:=w) (base:=base) (cj (st:=top 20) l9 c9 k9) (PySem.W.mg_of X G a9) T
 have ki:=fun (base:Heap) (hB:cV mg base [(ko,tT)]) => pk (P:=l.prog) (w:=w) (base:=base) (cj (st:=top 22) Qa Qb Qc) (PySem.W.mg_of X G P_) T
 have i9:=fun (base:Heap) (hB:cV mg base [(ko,tT)]) => oQ (P:=l.prog) (w:=w) (base:=base) (cj (st:=top 7) Qe Qf Qg) (PySem.W.mg_of X G Qd) T (vE base hB)
 have mT:=fun (base:Heap) (hB:cV mg base [(ko,tT)]) => lE (P:=l.prog) (w:=w) (base:=base) (cj (st:=top 18) Qi Qj Qk) (PySem.W.mg_of X G Qh) T (oV base hB)
 have rS:=fun (base:Heap) (hB:cV mg base [(ko,tT)]) => pq (P:=l.prog) (w:=w) (base:=base) (cj (st:=top 21) Qm Qn Qo) (PySem.W.mg_of X G Ql) T (iD base hB) (i8 base hB) (gJ base hB)
 have rT:=fun (base:Heap) (hB:cV mg base [(ko,tT)]) => pB (P:=l.prog) (w:=w) (base:=base) (cj (st:=top 26) Qq Qr Qs) (PySem.W.mg_of X G Qp) T (rR base hB)
 have um:=fun (base:Heap) (hB:cV mg base [(ko,tT)]) => yd (P:=l.prog) (w:=w) (base:=base) (cj (st:=top 9) Qu Qv Qw) (PySem.W.mg_of X G Qt) T (jv base hB) (i9 base hB)
 have Bu:=fun (base:Heap) (hB:cV mg base [(ko,tT)]) => D4 (P:=l.prog) (w:=w) (base:=base) ⟨zt,(hB _ (.head _)).1,(hB _ (.head _)).2.1,(hB _ (.head _)).2.2⟩ (cj (st:=top 10) LP Qx Qy) KR (PySem.W.mg_of X G KR) T (jv base hB) (i9 base hB) (D0 T (jv base hB))
 have lJ:=fun (base:Heap) (hB:cV mg base [(ko,tT)]) => kf (P:=l.prog) (w:=w) (base:=base) (cj (st:=top 25) QA QB QC) (PySem.W.mg_of X G Qz) T (um base hB)
 have mq:=fun (base:Heap) (hB:cV mg base [(ko,tT)]) => rK (P:=l.prog) (w:=w) (base:=base) (cj (st:=top 23) QE QF QG) (PySem.W.mg_of X G QD) T (Bu base hB)
 have iE:=fun (base:Heap) (hB:cV mg base [(ko,tT)]) => mS (P:=l.prog) (w:=w) (base:=base) (cj (st:=top 24) QI QJ QK) (PySem.W.mg_of X G QH) T (Bu base hB)
 have uo:=fun (base:Heap) (hB:cV mg base [(ko,tT)]) => rL (P:=l.prog) (w:=w) (base:=base) (cj (st:=top 27) QM QN QO) (PySem.W.mg_of X G QL) T (ki base hB) (mq base hB) (iE base hB)
 refine ⟨PySem.W.fnOf "law" "law" (bb (top 28)) (aO (top 28)) (aq (top 28)) .none KN KO KP KL HB KQ,[(ko,tT)],.cons zr zt .nil,by simp,zn,fun s v => .of_eq rfl,fun base _ _ hB => ?_⟩
 exact Hz (cj (st:=top 28) QQ QR QS) T (yi base hB) (D6 base hB) (HC base hB) (iD base hB) (i8 base hB) (gJ base hB) (ki base hB) (mT base hB) (rS base hB) (rT base hB) (um base hB) (lJ base hB) (mq base hB) (iE base hB) (uo base hB)
end rY
open PySem PySem.W PyProof.Rows
set_option maxRecDepth 100000 in
set_option maxHeartbeats 0 in
theorem PySem.Challenge.cw_polyring_k09_orders_holds : PySem.Challenge.rw_polyring_k09_orders.Holds := by
 w_on; o_law; k_head; (case hw => w_witness2)
 k_fill
 refine MN.xA (f:=(rY.t7 rY.M)) (cs:=[.tab rY.M.own rY.M.line rY.M.col rY.M.S.qual]) (l:=PySem.Challenge.rw_polyring_k09_orders) (k:=7) (x:="_law_script") rfl rfl ⟨rfl,by decide,by decide⟩ (rY.Bf rY.M rfl) (fun w h Y => PySem.W.km_in_of Y) ?F
 case F =>
  intro w mg fa h KX G IS
  refine' rY.all_mk KX G IS ?a0 ?l0 ?c0 ?k0 ?a1 ?l1 ?c1 ?k1 ?a2 ?l2 ?c2 ?k2 ?a3 ?l3 ?c3 ?k3 ?a4 ?l4 ?c4 ?k4 ?a5 ?l5 ?c5 ?k5 ?a6 ?l6 ?c6 ?k6 ?a7 ?l7 ?c7 ?k7 ?a8 ?l8 ?c8 ?k8 ?a9 ?l9 ?c9 ?k9 ?P_ ?Qa ?Qb ?Qc ?Qd ?Qe ?Qf ?Qg ?Qh ?Qi ?Qj ?Qk ?Ql ?Qm ?Qn ?Qo ?Qp ?Qq ?Qr ?Qs ?Qt ?Qu ?Qv ?Qw ?KR ?LP ?Qx ?Qy ?Qz ?QA ?QB ?QC ?QD ?QE ?QF ?QG ?QH ?QI ?QJ ?QK ?QL ?QM ?QN ?QO ?QP ?QQ ?QR ?QS ?dy ?vq ?rP ?vt ?gn ?vz ?rQ ?vA ?oT ?lG ?vB ?vC ?oU ?vD ?lH ?lI ?cW ?dC ?dD ?fm ?fq ?cX ?iP ?iQ ?iR ?iS ?cy ?gZ ?g6 ?g7 ?g8 ?QT ?QU ?QV ?QW ?QX ?QY ?QZ ?Q0 ?zr ?zk ?zv ?zn
  (case a0 => k_is)
  (case l0 => k_is)
  (case c0 => k_is)
  (case k0 => k_is)
  (case a1 => k_is)
  (case l1 => k_is)
  (case c1 => k_is)
  (case k1 => k_is)
  (case a2 => k_is)
  (case l2 => k_is)
  (case c2 => k_is)
  (case k2 => k_is)
  (case a3 => k_is)
  (case l3 => k_is)
  (case c3 => k_is)
  (case k3 => k_is)
  (case a4 => k_is)
  (case l4 => k_is)
  (case c4 => k_is)
  (case k4 => k_is)
  (case a5 => k_is)
  (case l5 => k_is)
  (case c5 => k_is)
  (case k5 => k_is)
  (case a6 => k_is)
  (case l6 => k_is)
  (case c6 => k_is)
  (case k6 => k_is)
  (case a7 => k_is)
  (case l7 => k_is)
  (case c7 => k_is)
  (case k7 => k_is)
  (case a8 => k_is)
  (case l8 => k_is)
  (case c8 => k_is)
  (case k8 => k_is)
  (case a9 => k_is)
  (case l9 => k_is)
  (case c9 => k_is)
  (case k9 => k_is)
  (case P_ => k_is)
  (case Qa => k_is)
  (case Qb => k_is)
  (case Qc => k_is)
  (case Qd => k_is)
  (case Qe => k_is)
  (case Qf => k_is)
  (case Qg => k_is)
  (case Qh => k_is)
  (case Qi => k_is)
  (case Qj => k_is)
  (case Qk => k_is)
  (case Ql => k_is)
  (case Qm => k_is)
  (case Qn => k_is)
  (case Qo => k_is)
  (case Qp => k_is)
  (case Qq => k_is)
  (case Qr => k_is)
  (case Qs => k_is)
  (case Qt => k_is)
  (case Qu => k_is)
  (case Qv => k_is)
  (case Qw => k_is)
  (case KR => k_is)
  (case LP => k_is)
  (case Qx => k_is)
  (case Qy => k_is)
  (case Qz => k_is)
  (case QA => k_is)
  (case QB => k_is)
  (case QC => k_is)
  (case QD => k_is)
  (case QE => k_is)
  (case QF => k_is)
  (case QG => k_is)
  (case QH => k_is)
  (case QI => k_is)
  (case QJ => k_is)
  (case QK => k_is)
  (case QL => k_is)
  (case QM => k_is)
  (case QN => k_is)
  (case QO => k_is)
  (case QP => k_is)
  (case QQ => k_is)
  (case QR => k_is)
  (case QS => k_is)
  (case dy => k_is)
  (case vq => k_is)
  (case rP => k_is)
  (case vt => k_is)
  (case gn => k_is)
  (case vz => k_is)
  (case rQ => k_is)
  (case vA => k_is)
  (case oT => k_is)
  (case lG => k_is)
  (case vB => k_is)
  (case vC => k_is)
  (case oU => k_is)
  (case vD => k_is)
  (case lH => k_is)
  (case lI => k_is)
  (case cW => k_is)
  (case dC => k_is)
  (case dD => k_is)
  (case fm => k_exc)
  (case fq => k_is)
  (case cX => k_is)
  (case iP => k_is)
  (case iQ => k_is)
  (case iR => k_exc)
  (case iS => k_is)
  (case cy => k_is)
  (case gZ => k_is)
  (case g6 => k_is)
  (case g7 => k_exc)
  (case g8 => k_is)
  (case QT => first | k_is | kit_is)
  (case QU => first | k_is | kit_is)
  (case QV => first | k_is | kit_is)
  (case QW => first | k_is | kit_is)
  (case QX => first | k_is | kit_is)
  (case QY => first | k_is | kit_is)
  (case QZ => first | k_is | kit_is)
  (case Q0 => first | k_is | kit_is)
  (case zr => rfl)
  (case zk => k_is)
  (case zv => rfl)
  (case zn => first | k_is | kernel_rfl)
